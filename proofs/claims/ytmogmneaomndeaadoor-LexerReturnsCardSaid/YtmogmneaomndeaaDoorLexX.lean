/-
  What is promised of joined texts; an int that is appended to an own row.
-/
import Derived.Test.YtmogmneaomndeaaDoorLexV
import Derived.Test.YtmogmneaomndeaaDoorLexT
set_option linter.unusedSimpArgs false
set_option linter.unusedVariables false
namespace Go.Proofs.YtmogmneaomndeaaDoor
open Go Go.Proofs Go.RowKit

theorem toTk_bytes (v : Int × List UInt8 × Nat) : bytes (toTk v).t = v.2.1 := bytes_str _
theorem ret_math {s : ByteArray} (h : s.size ≤ 65536) (he : (scR s).2.2 = 0) : ∃ T : ByteArray, joinR (scR s).1 = (T, 0) ∧ T.size ≤ s.size ∧ (scR T).2.2 = 0 ∧ alB (scR s).1 (scR T).1 = true ∧
    (∀ X : ByteArray, X.size < T.size → (scR X).2.2 = 0 → alB (scR s).1 (scR X).1 = false) ∧ ckL (scR s).1 = 0 ∧ (∀ t ∈ (scR s).1, t.t.size ≤ 9223372036854775807) := by
  obtain ⟨h0, h1, -⟩ := scR_ok h he
  have hf : (bytes s).length < (bytes s).length + 1 := Nat.lt_succ_self _
  obtain ⟨V, e, hV, hok⟩ := sq_ok ((bytes s).length + 1) 0 (bytes s) hf h0
  have hsh := jt_short ((bytes s).length + 1) 0 (bytes s) none (fun q hq => by cases hq) hf h0
  have e1 : (sqR (bytes s)).1 = V ++ [(3, [], e)] := hV
  rw [hV, List.map_append, show [((3 : Int), ([] : List UInt8), e)].map (fun t => t.2.1) = [[]] from rfl] at hsh
  rw [e1, List.map_append] at h1
  have h1b : (scR s).1 = V.map toTk ++ [(⟨3, ⟨#[]⟩, (e : Int)⟩ : Tk)] := h1
  have hVt : (V.map toTk).map (fun t => bytes t.t) = V.map (fun t => t.2.1) := by
    rw [List.map_map]
    exact List.map_congr_left fun v _ => toTk_bytes v
  have hok2 : ∀ t ∈ V.map toTk, okX (bytes t.t) ∧ t.k = tkd (bytes t.t) := fun t ht => by
    obtain ⟨v, hv, rfl⟩ := List.mem_map.1 ht
    rw [toTk_bytes]
    exact hok v hv
  obtain ⟨J, hJ⟩ : ∃ J, J = jt none (V.map (fun t => t.2.1) ++ [[]]) := ⟨_, rfl⟩
  rw [← hJ, bytes_length] at hsh
  have hjr := joinR_ok (e : Int) (V.map toTk) hok2 (by rw [hVt, ← hJ]; omega)
  rw [hVt, ← hJ, ← h1b] at hjr
  have hck := ckL_ok (e : Int) (V.map toTk) hok2
  rw [← h1b] at hck
  have hts : (str J).size = J.length := str_size J
  obtain ⟨j1, j2⟩ := sq_jt (V.map (fun t => t.2.1)) none (J.length + 1) 0 (fun v hv => by
    obtain ⟨u, hu, rfl⟩ := List.mem_map.1 hv
    exact (hok u hu).1) (fun q hq => by cases hq) (by rw [← hJ]; exact Nat.lt_succ_self _)
  rw [← hJ] at j1 j2
  have e2 : sqR (bytes (str J)) = sq (J.length + 1) 0 J := by unfold sqR; rw [bytes_str]
  have hkt : ktL (scR s).1 = V.map (fun t => (t.1, t.2.1)) ++ [(3, [])] := by
    rw [h1, show V.map toTk ++ [((3 : Int), ([] : List UInt8), e)].map toTk = (V ++ [((3 : Int), ([] : List UInt8), e)]).map toTk by rw [List.map_append], ktL_toTk, List.map_append]; rfl
  have hkv : V.map (fun t => (t.1, t.2.1)) = (V.map (fun t => t.2.1)).map (fun v => (tkd v, v)) := by
    rw [List.map_map]
    refine List.map_congr_left fun v hv => ?_
    show (v.1, v.2.1) = (tkd v.2.1, v.2.1)
    rw [(hok v hv).2]
  have hscT : scR (str J) = ((sq (J.length + 1) 0 J).1.map toTk, (sq (J.length + 1) 0 J).2) := by
    rw [scR_sq (by rw [hts]; omega), e2, if_pos j1]
  refine ⟨str J, hjr, by rw [hts]; exact hsh, by rw [hscT]; exact j1, ?_, ?_, hck, ?_⟩
  · rw [alB_iff, hkt, hscT, ktL_toTk, j2, hkv]
  · intro X hX hXe
    rw [← Bool.not_eq_true, alB_iff]
    intro hal
    have hX2 : X.size ≤ 65536 := by rw [hts] at hX; omega
    obtain ⟨x0, x1, -⟩ := scR_ok hX2 hXe
    rw [x1, ktL_toTk, hkt] at hal
    have htx := congrArg (fun l => l.map (fun t : Int × List UInt8 => t.2)) hal
    rw [List.map_append, List.map_map, List.map_map] at htx
    have htx2 : V.map (fun t => t.2.1) ++ [[]] = (sqR (bytes X)).1.map (fun t => t.2.1) := htx
    have hs2 := jt_short ((bytes X).length + 1) 0 (bytes X) none (fun q hq => by cases hq) (Nat.lt_succ_self _) x0
    have hs3 : (jt none ((sqR (bytes X)).1.map (fun t => t.2.1))).length ≤ (bytes X).length := hs2
    rw [← htx2, ← hJ, bytes_length] at hs3
    rw [hts] at hX
    omega
  · intro t ht
    have := ck_short hck t ht
    omega

theorem infoIntL : (Tryd.prog.info? 3).map (fun i => (i.zero, i.size, i.bytes)) = some (some (.int .i64 0), 1, 8) := by kernel_rfl
def nCells (l : List Nat) : List Value := l.map fun k : Nat => Value.int .i64 (k : Int)
theorem wpList_append_nat {ops : Array Oper} {rest : List Oper} {o : Oper} {a : Act} {W : World} {Q : Exit → Act → World → Prop}
    (hg : o.guard = none) (s x : Operand) (hop : o.op = Op.call { callee := Callee.builtin Builtin.append, args := #[s, x], argTypes := #[54, 54] })
    (base : Nat) (v : Value) (n : Nat) (l : List Nat) (hn : l.length = n) (hs : a.eval s = v) (hown : W.ownsRow base 3 1 v n (nCells l)) (hl : n ≤ 1200000) (hbase : base ≤ W.heap.size)
    (ad : Nat) (z : Nat) (hx : a.eval x = .slice (some ⟨ad, 0, none⟩) 1 1) (hc0 : W.cell? ⟨ad, 0, none⟩ = some (.int .i64 (z : Int)))
    (hK : ∀ (g cap : Nat) (w9 : World), w9.ownsRow base 3 1 (.slice (some ⟨g, 0, none⟩) (n + 1) cap) (n + 1) (nCells (l ++ [z])) → W.grownBy w9 v.ownBlock → wpList Tryd.prog ops Q rest (a.put o.dst (.slice (some ⟨g, 0, none⟩) (n + 1) cap)) w9) :
    wpList Tryd.prog ops Q (o :: rest) a W := by
  obtain ⟨i0, hi, hz0, hz1, hz2⟩ := info_parts infoIntL
  refine wpList_append_lies W hg s x 54 hop base 3 i0 _ 1 8 Tryd.underlying54 hi hz0 hz1 hz2 rfl (by decide) v n (nCells l) hs hown ⟨ad, 0, none⟩ 1 1 [.int .i64 (z : Int)] hx rfl ?_ (by intro u hu; simp at hu; subst hu; rfl) (by decide) (by unfold maxLen; omega) (by omega) hbase _ rfl ?_
  · intro j u hu
    match j, hu with
    | 0, hu => simp at hu; subst hu; rw [tk_addr]; exact hc0
  · intro g cap w9 hown9 hgrow hgg hg9
    rw [show nCells l ++ [Value.int .i64 (z : Int)] = nCells (l ++ [z]) by unfold nCells; rw [List.map_append]; rfl] at hown9
    exact hK g cap w9 hown9 hgrow
end Go.Proofs.YtmogmneaomndeaaDoor
