/-
  lexer.Scan.
-/
import Derived.Test.YtmogmneaomndeaaDoorLexD
import Derived.WalkMore
import Derived.Deep.AppendLies
set_option linter.unusedSimpArgs false
set_option linter.unusedVariables false
namespace Go.Proofs.YtmogmneaomndeaaDoor
open Go Go.Proofs Go.RowKit

/-- A token. -/
structure Tk where
  k : Int
  t : ByteArray
  a : Int
def tkVal (t : Tk) : Value := .agg #[.int .i64 t.k, .string t.t, .int .i64 t.a]
def tkCells (l : List Tk) : List Value := l.flatMap fun t => [.int .i64 t.k, .string t.t, .int .i64 t.a]
theorem tkCells_length : ∀ l : List Tk, (tkCells l).length = l.length * 3
  | [] => rfl
  | t :: l => by
    have := tkCells_length l
    unfold tkCells at *
    simp only [List.flatMap_cons, List.length_append, List.length_cons, List.length_nil]
    omega
theorem tkCells_append (l m : List Tk) : tkCells (l ++ m) = tkCells l ++ tkCells m := by unfold tkCells; rw [List.flatMap_append]
/-- The token at an offset, where there is one. -/
def tkT (s : ByteArray) (a : Nat) : Tk :=
  if cls (byteAt s a) = 3 then ⟨0, s.extract a (a + wl ((bytes s).drop a)), (a : Int)⟩
  else if cls (byteAt s a) = 4 then ⟨1, s.extract a (a + wl ((bytes s).drop a)), (a : Int)⟩
  else ⟨2, s.extract a (a + sl ((bytes s).drop a)), (a : Int)⟩
theorem tokX_ok {s : ByteArray} {a : Nat} (h : (tokX s a).2 = 0) : (tokX s a).1 = tkVal (tkT s a) := by
  unfold tokX tkO tkT tkVal at *
  by_cases h3 : cls (byteAt s a) = 3
  · rw [if_pos h3] at h ⊢
    rw [if_pos h3]
    split at h
    · cases h
    · rename_i hn
      rw [if_neg hn]
  · rw [if_neg h3] at h ⊢
    rw [if_neg h3]
    by_cases h4 : cls (byteAt s a) = 4
    · rw [if_pos h4] at h ⊢
      rw [if_pos h4]
      split at h
      · rename_i hn
        rw [if_pos hn]
      · rename_i hn
        exact absurd h hn
    · rw [if_neg h4] at h ⊢
      rw [if_neg h4]
      split at h
      · cases h
      · rename_i hn
        rw [if_neg hn]
theorem tokX_bad {s : ByteArray} {a : Nat} (h : (tokX s a).2 ≠ 0) : (tokX s a).1 = .agg #[.int .i64 0, .string ⟨#[]⟩, .int .i64 0] := by
  unfold tokX tkO at *
  by_cases h3 : cls (byteAt s a) = 3
  · rw [if_pos h3] at h ⊢
    split at h
    · rename_i hn
      rw [if_pos hn]
    · exact absurd rfl h
  · rw [if_neg h3] at h ⊢
    by_cases h4 : cls (byteAt s a) = 4
    · rw [if_pos h4] at h ⊢
      split at h
      · exact absurd rfl h
      · rename_i hn
        rw [if_neg hn]
    · rw [if_neg h4] at h ⊢
      split at h
      · rename_i hn
        rw [if_pos hn]
      · exact absurd rfl h
theorem wl_pos {s : ByteArray} {a : Nat} (ha : a < s.size) (h : cls (byteAt s a) = 3 ∨ cls (byteAt s a) = 4) : 1 ≤ wl ((bytes s).drop a) := by
  rw [drop_get s ha]
  rw [byteAt_idx ha] at h
  unfold wl wdB
  rw [List.takeWhile_cons]
  rcases h with h | h
  · rw [h]; simp
  · rw [h]; simp
theorem tkT_size {s : ByteArray} {a : Nat} (h : (tokX s a).2 = 0) (ha : a < s.size) : 1 ≤ (tkT s a).t.size ∧ a + (tkT s a).t.size ≤ s.size := by
  have hwl := wl_le ((bytes s).drop a)
  have hsl := sl_le ((bytes s).drop a)
  rw [List.length_drop, bytes_length] at hwl hsl
  have hw := fun hc => wl_pos ha hc
  unfold tokX tkO at h
  unfold tkT
  by_cases h3 : cls (byteAt s a) = 3
  · rw [if_pos h3]
    have := hw (.inl h3)
    show 1 ≤ (s.extract a (a + _)).size ∧ a + (s.extract a (a + _)).size ≤ _
    rw [extract_size s (by omega)]
    omega
  · rw [if_neg h3] at h ⊢
    by_cases h4 : cls (byteAt s a) = 4
    · rw [if_pos h4]
      have := hw (.inr h4)
      show 1 ≤ (s.extract a (a + _)).size ∧ a + (s.extract a (a + _)).size ≤ _
      rw [extract_size s (by omega)]
      omega
    · rw [if_neg h4] at h ⊢
      split at h
      · cases h
      · show 1 ≤ (s.extract a (a + _)).size ∧ a + (s.extract a (a + _)).size ≤ _
        rw [extract_size s (by omega)]
        omega
/-- Where the next token may begin. -/
def nx (s : ByteArray) (a : Nat) : Nat := a + (tkT s a).t.size + skM false ((bytes s).drop (a + (tkT s a).t.size))
theorem nx_le {s : ByteArray} {a : Nat} (h : (tokX s a).2 = 0) (ha : a < s.size) : a < nx s a ∧ nx s a ≤ s.size := by
  obtain ⟨h1, h2⟩ := tkT_size h ha
  have := skM_le false ((bytes s).drop (a + (tkT s a).t.size))
  rw [List.length_drop, bytes_length] at this
  unfold nx
  omega
/-- The tokens from an offset on, the offset of the error, the error. -/
def scF (s : ByteArray) : Nat → Nat → List Tk × Nat × Nat
  | 0, _ => ([], 0, 0)
  | f + 1, a => if s.size ≤ a then ([⟨3, ⟨#[]⟩, (s.size : Int)⟩], 0, 0) else if (tokX s a).2 = 0 then (tkT s a :: (scF s f (nx s a)).1, (scF s f (nx s a)).2) else ([], a, (tokX s a).2)
theorem scF_ok {s : ByteArray} {f j : Nat} (h : j < s.size) (he : (tokX s j).2 = 0) : scF s (f + 1) j = (tkT s j :: (scF s f (nx s j)).1, (scF s f (nx s j)).2) := by
  rw [scF, if_neg (by omega), if_pos he]
theorem scF_bad {s : ByteArray} {f j : Nat} (h : j < s.size) (he : (tokX s j).2 ≠ 0) : scF s (f + 1) j = ([], j, (tokX s j).2) := by
  rw [scF, if_neg (by omega), if_neg he]
theorem scF_end {s : ByteArray} {f j : Nat} (h : s.size ≤ j) : scF s (f + 1) j = ([⟨3, ⟨#[]⟩, (s.size : Int)⟩], 0, 0) := by
  rw [scF, if_pos h]
/-- What Scan answers. -/
def scR (s : ByteArray) : List Tk × Nat × Nat :=
  if 65536 < s.size then ([], 0, 13) else
  if (scF s (s.size + 1) (skM false (bytes s))).2.2 = 0 then scF s (s.size + 1) (skM false (bytes s)) else ([], (scF s (s.size + 1) (skM false (bytes s))).2)

theorem tk_plus (g o j : Nat) : ((⟨g, o, none⟩ : Addr).add j) = ⟨g, o + j, none⟩ := by simp [Addr.add]
theorem tk_addr (g j : Nat) : ((⟨g, 0, none⟩ : Addr).add j) = ⟨g, j, none⟩ := by rw [tk_plus, Nat.zero_add]
theorem infoTok : (Tryd.prog.info? 49).map (fun i => (i.zero, i.size, i.bytes)) = some (some (.agg #[.int .i64 0, .string ⟨#[]⟩, .int .i64 0]), 3, 32) := by kernel_rfl
/-- A token that is appended to an own row, in a list of operations. -/
theorem wpList_append_tok {ops : Array Oper} {rest : List Oper} {o : Oper} {a : Act} {W : World} {Q : Exit → Act → World → Prop}
    (hg : o.guard = none) (s x : Operand) (hop : o.op = Op.call { callee := Callee.builtin Builtin.append, args := #[s, x], argTypes := #[23, 23] })
    (base : Nat) (v : Value) (n : Nat) (l : List Tk) (hn : l.length = n) (hs : a.eval s = v) (hown : W.ownsRow base 49 3 v n (tkCells l)) (hl : n ≤ 1200000) (hbase : base ≤ W.heap.size)
    (ad : Nat) (z : Tk) (hx : a.eval x = .slice (some ⟨ad, 0, none⟩) 1 1) (hc0 : W.cell? ⟨ad, 0, none⟩ = some (.int .i64 z.k)) (hc1 : W.cell? ⟨ad, 1, none⟩ = some (.string z.t)) (hc2 : W.cell? ⟨ad, 2, none⟩ = some (.int .i64 z.a))
    (hK : ∀ (g cap : Nat) (w9 : World), w9.ownsRow base 49 3 (.slice (some ⟨g, 0, none⟩) (n + 1) cap) (n + 1) (tkCells (l ++ [z])) → W.grownBy w9 v.ownBlock → (v.ownBlock = some g ∨ g = W.heap.size) → wpList Tryd.prog ops Q rest (a.put o.dst (.slice (some ⟨g, 0, none⟩) (n + 1) cap)) w9) :
    wpList Tryd.prog ops Q (o :: rest) a W := by
  obtain ⟨i0, hi, hz0, hz1, hz2⟩ := info_parts infoTok
  refine wpList_append_lies W hg s x 23 hop base 49 i0 _ 3 32 Tryd.underlying23 hi hz0 hz1 hz2 rfl (by decide) v n (tkCells l) hs hown ⟨ad, 0, none⟩ 1 1 [.int .i64 z.k, .string z.t, .int .i64 z.a] hx rfl ?_ (by intro u hu; simp at hu; rcases hu with rfl | rfl | rfl <;> rfl) (by decide) (by unfold maxLen; omega) (by omega) hbase _ rfl ?_
  · intro j u hu
    match j, hu with
    | 0, hu => simp at hu; subst hu; rw [tk_addr]; exact hc0
    | 1, hu => simp at hu; subst hu; rw [tk_addr]; exact hc1
    | 2, hu => simp at hu; subst hu; rw [tk_addr]; exact hc2
  · intro g cap w9 hown9 hgrow hgg hg9
    rw [show tkCells l ++ [Value.int .i64 z.k, .string z.t, .int .i64 z.a] = tkCells (l ++ [z]) by rw [tkCells_append]; rfl] at hown9
    exact hK g cap w9 hown9 hgrow hgg
theorem owns_below3 {W W' : World} {B : Nat} {T : TypeId} {v : Value} {n : Nat} {xs : List Value} (h : W.ownsRow B T 3 v n xs) (hb : Below W.heap.size W W') : W'.ownsRow B T 3 v n xs := by
  obtain ⟨h1, h2⟩ := h
  refine ⟨h1, h2.imp_right fun ⟨b, cap, cur, e, h3, hg, r⟩ => ⟨b, cap, cur, e, h3, ?_, r⟩⟩
  rw [hb.block b (Array.getElem?_eq_some_iff.1 hg).1]; exact hg
theorem owns_lt3 {W : World} {B : Nat} {T : TypeId} {v : Value} {n : Nat} {xs : List Value} {b : Nat} (h : W.ownsRow B T 3 v n xs) (e : v.ownBlock = some b) : B ≤ b ∧ b < W.heap.size := by
  rcases h.2 with ⟨rfl, -⟩ | ⟨g, cap, cur, rfl, hb, hg, -⟩
  · cases e
  · cases e; exact ⟨hb, (Array.getElem?_eq_some_iff.1 hg).1⟩

set_option maxHeartbeats 1000000 in
theorem scan_any (s : ByteArray) (w : World) (ht : Lib.TabBelow Tryd.prog w.heap.size w "surveyor/lexer.classes" .u8 clsTab) :
    Calls Tryd.prog 12 #[.string s] w fun e w' => ∃ v, e = .returned (.tuple #[v, .int .i64 ((scR s).2.1 : Nat), .int .i64 ((scR s).2.2 : Nat)]) ∧ w'.ownsRow w.heap.size 49 3 v (scR s).1.length (tkCells (scR s).1) ∧ Below w.heap.size w w' := by
  have CL : ∀ W : World, Calls Tryd.prog 36 #[.string s] W fun e w' => e = .returned (.bool (decide (65536 < s.size))) ∧ w' = W := fun W => isLongL_any s W
  unfold scR
  by_cases hlong : 65536 < s.size
  · rw [if_pos hlong]
    rw [decide_eq_true hlong] at CL
    have KL := Lib.hid CL; have HLO := Lib.hid hlong
    clear CL ht hlong
    go_enter Tryd.func12, Tryd.ntmps12
    go_wp2_with (go_at_call 36; refine (KL.out _).mono ?_; rintro e w3 ⟨rfl, h⟩; subst h; refine Hid.out ?_)
    refine Lib.hid ?_
    go_wp2
    refine bodyPost_ret (by simp [results, Tryd.results12, go_sem]; rfl) rfl ?_
    exact ⟨_, rfl, World.ownsRow_nil .., Below.refl _ _⟩
  rw [if_neg hlong]
  rw [decide_eq_false hlong] at CL
  have hs : s.size ≤ 65536 := by omega
  have CS : ∀ a : Nat, a ≤ s.size → ∀ W : World, Below w.heap.size w W → Calls Tryd.prog 37 #[.string s, .int .i64 (a : Int)] W fun e w' => e = .returned (.int .i64 ((a + skM false ((bytes s).drop a) : Nat) : Int)) ∧ Below W.heap.size W w' := fun a ha W hW => skip_any s a ha (by omega) W (Lib.tabBelow_of_tabIs (ht W hW))
  have CT : ∀ a : Nat, a < s.size → ∀ W : World, Below w.heap.size w W → Calls Tryd.prog 38 #[.string s, .int .i64 (a : Int)] W fun e w' => e = .returned (.tuple #[(tokX s a).1, .int .i64 ((tokX s a).2 : Nat)]) ∧ Below W.heap.size W w' := fun a ha W hW => tokenAt_any s a ha (by omega) W (Lib.tabBelow_of_tabIs (ht W hW))
  have CS0 := CS 0 (Nat.zero_le _)
  rw [List.drop_zero, Nat.zero_add] at CS0
  have hk0 : skM false (bytes s) ≤ s.size := by have := skM_le false (bytes s); rwa [bytes_length] at this
  have hbase := fun (R : List Tk × Nat × Nat) (h : scF s (s.size + 1) (skM false (bytes s)) = R) => h
  generalize hR : scF s (s.size + 1) (skM false (bytes s)) = R at *
  generalize skM false (bytes s) = k0 at *
  obtain ⟨G, hG⟩ : ∃ G, G = (if R.2.2 = 0 then R else ([], R.2)) := ⟨_, rfl⟩
  rw [← hG]
  have KG := Lib.hid hG; clear hG
  have HR := Lib.hid hR; have KL := Lib.hid CL; have KS := Lib.hid CS; have KT := Lib.hid CT; have KS0 := Lib.hid CS0; have HK0 := Lib.hid hk0; have HS := Lib.hid hs
  have HNL := Lib.hid hlong
  clear hR CL CS CT CS0 hk0 hs ht hlong hbase
  go_enter Tryd.func12, Tryd.ntmps12
  go_wp2_with (go_at_call 36; refine (KL.out _).mono ?_; rintro e w3 ⟨rfl, h⟩; subst h; refine Hid.out ?_)
  refine Lib.hid ?_
  go_wp2_with (go_at_call 37; refine (KS0.out _ (Below.refl _ _)).mono ?_; rintro e w1 ⟨rfl, hb1⟩; refine Hid.out ?_)
  refine Lib.hid ?_
  go_wp2_with fail
  have HB1 := Lib.hid hb1; clear hb1
  go_loopw [5, 6] (fun v iv wr => ∃ (f j n : Nat) (acc : List Tk), acc.length = n ∧ n ≤ j ∧ j ≤ s.size ∧ iv = .int .i64 (j : Int) ∧ s.size < j + f ∧ R = (acc ++ (scF s f j).1, (scF s f j).2) ∧ wr.ownsRow w3.heap.size 49 3 v n (tkCells acc) ∧ Below w3.heap.size w3 wr) (fun _ iv _ => s.size - (intOf iv).toNat)
  case atStart => exact ⟨s.size + 1, k0, 0, [], rfl, Nat.zero_le _, HK0.out, rfl, by omega, HR.out.symm, World.ownsRow_nil .., HB1.out⟩
  case round =>
    obtain ⟨f, j, n, acc, hn, hnj, hj, rfl, hf, hRR, ho, hB⟩ := hrel
    have hS := HS.out
    obtain ⟨f, rfl⟩ : ∃ g, f = g + 1 := ⟨f - 1, by omega⟩
    by_cases hlt : j < s.size
    · have hT := KT.out j hlt wr hB
      have g0 : (0 : Int) ≤ (j : Int) := by omega
      have g1 : (j : Int) < (s.size : Int) := by omega
      by_cases he : (tokX s j).2 = 0
      · have hx := tokX_ok he
        obtain ⟨ht1, ht2⟩ := tkT_size he hlt
        obtain ⟨hn1, hn2⟩ := nx_le he hlt
        have hstep : R = ((acc ++ [tkT s j]) ++ (scF s f (nx s j)).1, (scF s f (nx s j)).2) := by
          rw [hRR, scF_ok hlt he]
          simp
        have KN := KS.out (j + (tkT s j).t.size) (by omega)
        have hnx : j + (tkT s j).t.size + skM false ((bytes s).drop (j + (tkT s j).t.size)) = nx s j := rfl
        rw [hnx] at KN
        rw [hx, he, show ((0 : Nat) : Int) = 0 from rfl] at hT
        unfold tkVal at hT
        generalize nx s j = m at *
        generalize tkT s j = t at *
        obtain ⟨tk, tt, ta⟩ := t
        have hwl : (acc ++ [(⟨tk, tt, ta⟩ : Tk)]).length = n + 1 := by simp [hn]
        have KT1 := Lib.hid hT; have KN1 := Lib.hid KN; have HO := Lib.hid ho; have HB := Lib.hid hB; have HST := Lib.hid hstep; have HN := Lib.hid hn; have HWL := Lib.hid hwl
        have w1 : (j : Int) + (tt.size : Int) < 9223372036854775808 := by have : j + tt.size ≤ s.size := ht2; omega
        have HM : Hid (j < m ∧ m ≤ s.size ∧ n ≤ j ∧ s.size < j + (f + 1) ∧ s.size ≤ 65536) := Lib.hid ⟨hn1, hn2, hnj, hf, hS⟩
        clear hT KN ho hB hstep hn hRR hx he hwl hn1 hn2 hnj hf hS ht1 ht2 hnx hj hlt
        go_wp2_with (go_at_call 38; refine KT1.out.mono ?_; rintro e w4 ⟨rfl, hb4⟩; refine Hid.out ?_)
        refine Lib.hid ?_
        have A1 := (Below.refl w4.heap.size w4).alloc (Nat.le_refl _) (Obj.cells #[.int .i64 tk, .string tt, .int .i64 ta] 49)
        have A2 := A1.alloc (by simp) (Obj.cells #[.int .i64 tk, .string tt, .int .i64 ta] 49)
        have O4 := owns_below3 HO.out hb4
        have hv4 : ∀ b, Value.ownBlock _ = some b → w3.heap.size ≤ b ∧ b < w4.heap.size := fun b e => owns_lt3 O4 e
        have HV4 := Lib.hid hv4
        have O5 := owns_below3 O4 A2
        have B5 := Below.chain HB.out (Below.chain hb4 A2)
        have HO5 := Lib.hid O5; have HB5 := Lib.hid B5
        have hz5 := B5.size
        have HZ5 := Lib.hid hz5
        have hnle : n ≤ 1200000 := by have := HM.out; omega
        have HNL := Lib.hid hnle
        clear A1 A2 O4 O5 B5 hb4 HO hz5 hnle hv4
        go_wp2_with (first | (at_builtin; refine wpList_append_tok rfl (.tmp 30) (.tmp 32) rfl w3.heap.size _ n acc HN.out (by simp [Act.eval, Act.put]) HO5.out HNL.out HZ5.out (w4.heap.size + 1) ⟨tk, tt, ta⟩ (by simp [Act.eval, Act.put]) (by go_cell) (by go_cell) (by go_cell) ?_; intro g6 cap6 w6 ho6 hg6 hgg6; refine Hid.out ?_) | fail)
        have hc6 : w6.cell? ⟨w4.heap.size, 1, none⟩ = some (.string tt) := by
          have e := hg6.block w4.heap.size (by simp; omega) (fun e => by have := HV4.out _ e.symm; omega)
          rw [World.cell?_of_block e]
          go_cell
        have hb6 := HB5.out.grown hg6 HZ5.out (fun b hb => (HV4.out b hb).1)
        have KN2 := KN1.out w6 hb6
        have HO6 := Lib.hid ho6; have HB6 := Lib.hid hb6; have KN3 := Lib.hid KN2
        clear ho6 hg6 hgg6 hb6 KN2
        refine Lib.hid ?_
        go_wp2_with (go_at_call 37; refine KN3.out.mono ?_; rintro e w7 ⟨rfl, hb7⟩; refine Hid.out ?_)
        have hb7' := Below.chain HB6.out hb7
        have ho7 := owns_below3 HO6.out hb7
        obtain ⟨q1, q2, q3, q4, q5⟩ := HM.out
        have Q1 := Lib.hid q1; have Q2 := Lib.hid q2; have Q3 := Lib.hid q3; have Q4 := Lib.hid q4; have Q5 := Lib.hid q5
        clear q1 q2 q3 q4 q5
        refine Lib.hid ?_
        go_wp2
        go_roundw
        case rel => exact ⟨f, m, n + 1, acc ++ [⟨tk, tt, ta⟩], HWL.out, by have := Q1.out; have := Q3.out; omega, Q2.out, rfl, by have := Q4.out; have := Q1.out; omega, HST.out, ho7, hb7'⟩
        case measure => have := Q1.out; have := Q2.out; simp [intOf]; omega
      · have hx := tokX_bad he
        have hE := scF_bad (f := f) hlt he
        rw [hE] at hRR
        have hG2 : G = ([], j, (tokX s j).2) := by rw [KG.out, hRR]; exact if_neg he
        have HG2 := Lib.hid hG2; clear hG2
        rw [hx] at hT
        generalize (tokX s j).2 = ne at *
        have tne : ((ne : Int) == 0) = false := by rw [beq_eq_false_iff_ne]; omega
        have tne2 : ((ne : Int) != 0) = true := by rw [bne_iff_ne]; omega
        have KT1 := Lib.hid hT; have HBB := Lib.hid hB; have HE := Lib.hid he
        clear hT ho hB hn hx hnj hj hf hS hE hlt he HR KS0 hRR
        go_wp2_with (go_at_call 38; refine KT1.out.mono ?_; rintro e w4 ⟨rfl, hb4⟩; refine Hid.out ?_)
        have B5 := Below.chain HBB.out (hb4.alloc hb4.size (Obj.cells #[.int .i64 0, .string ⟨#[]⟩, .int .i64 0] 49))
        have HB5 := Lib.hid B5
        clear B5 hb4
        refine Lib.hid ?_
        go_wp2
        refine bodyPost_ret (by simp [results, Tryd.results12, go_sem]; rfl) rfl ?_
        rw [HG2.out]
        exact ⟨_, rfl, World.ownsRow_nil .., HB5.out⟩
    · obtain rfl : j = s.size := by omega
      rw [scF_end (Nat.le_refl _)] at hRR
      have hG2 : G = (acc ++ [(⟨3, ⟨#[]⟩, (s.size : Int)⟩ : Tk)], 0, 0) := by rw [KG.out, hRR]; exact if_pos rfl
      have HG2 := Lib.hid hG2; clear hG2
      have hge : ¬ ((s.size : Nat) : Int) < (s.size : Int) := by omega
      have A1 := (Below.refl wr.heap.size wr).alloc (Nat.le_refl _) (Obj.cells #[.int .i64 3, .string ⟨#[]⟩, .int .i64 (s.size : Int)] 49)
      have O5 := owns_below3 ho A1
      have B5 := Below.chain hB A1
      have hv4 : ∀ b, Value.ownBlock _ = some b → w3.heap.size ≤ b ∧ b < wr.heap.size := fun b e => owns_lt3 ho e
      have hnle : n ≤ 1200000 := by omega
      have hz5 := B5.size
      have HO5 := Lib.hid O5; have HB5 := Lib.hid B5; have HV4 := Lib.hid hv4; have HNL := Lib.hid hnle; have HZ5 := Lib.hid hz5; have HN := Lib.hid hn
      have hfin : (acc ++ [(⟨3, ⟨#[]⟩, (s.size : Int)⟩ : Tk)]).length = n + 1 := by simp [hn]
      have HF := Lib.hid hfin
      clear A1 O5 B5 hv4 hnle hz5 ho hB hn hnj hj hf hS hfin hlt HR KS0 hRR
      go_wp2_with (first | (at_builtin; refine wpList_append_tok rfl (.tmp 39) (.tmp 43) rfl w3.heap.size _ n acc HN.out (by simp [Act.eval, Act.put]) HO5.out HNL.out HZ5.out wr.heap.size ⟨3, ⟨#[]⟩, (s.size : Int)⟩ (by simp [Act.eval, Act.put]) (by go_cell) (by go_cell) (by go_cell) ?_; intro g6 cap6 w6 ho6 hg6 hgg6; refine Hid.out ?_) | fail)
      have hb6 := HB5.out.grown hg6 HZ5.out (fun b hb => (HV4.out b hb).1)
      have HO6 := Lib.hid ho6; have HB6 := Lib.hid hb6
      clear ho6 hg6 hgg6 hb6
      refine Lib.hid ?_
      go_wp2
      refine bodyPost_ret (by simp [results, Tryd.results12, go_sem]; rfl) rfl ?_
      rw [HG2.out]
      refine ⟨_, rfl, ?_, HB6.out⟩
      show w6.ownsRow _ _ _ _ (acc ++ [(⟨3, ⟨#[]⟩, (s.size : Int)⟩ : Tk)]).length _
      rw [HF.out]
      exact HO6.out
end Go.Proofs.YtmogmneaomndeaaDoor
