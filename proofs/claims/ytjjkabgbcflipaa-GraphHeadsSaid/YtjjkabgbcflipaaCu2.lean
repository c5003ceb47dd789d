import Derived.Test.YtjjkabgbcflipaaCu1
import Derived.Deep.Onto
import Derived.Laws.MakeOwn
import Derived.OwnWalk
import Derived.OrdersHeld
import Derived.Deep.RegionHeld3
import Derived.Lib.Hide
import Derived.OrdersIn
import Derived.Deep.RegionHeld
import Derived.CallsIn
import Derived.RangeFuncCalls
set_option linter.unusedSimpArgs false
set_option linter.unusedVariables false
namespace Go.Proofs.Ytjjkabgbcflipaa
open Go Go.Proofs Go.RowKit

theorem isPt_false {n p : Int} (h : isPt n p = false) : p < 0 ∨ n ≤ p := by
  unfold isPt at h
  simp only [Bool.and_eq_false_iff, decide_eq_false_iff_not] at h
  omega
theorem isPt_true {n p : Int} (h : isPt n p = true) : 0 ≤ p ∧ p < n := by
  unfold isPt at h
  simp only [Bool.and_eq_true, decide_eq_true_eq] at h
  omega
theorem isPt_of {n p : Int} (h : 0 ≤ p ∧ p < n) : isPt n p = true := by
  unfold isPt
  simp only [Bool.and_eq_true, decide_eq_true_eq]
  omega
theorem isPt_not {n p : Int} (h : p < 0 ∨ n ≤ p) : isPt n p = false := by
  cases e : isPt n p with
  | false => rfl
  | true => have := isPt_true e; omega
set_option maxRecDepth 20000 in
set_option maxHeartbeats 4000000 in
theorem refCheck_any {A : Nat → Prop} (n x : Int) (ao : Option Addr) (c : Nat) (E : List Ed) (w : World) (hr : ERow A w ao c E) :
    Calls Try.prog 22 #[.agg #[.int .i64 n, .int .i64 x, .slice ao E.length c]] w fun e w' => e = .returned (.int .i64 (ckG n x E : Nat)) ∧ Below w.heap.size w w' := by
  have hA : Below w.heap.size w (w.alloc (Obj.cells #[.int .i64 n, .int .i64 x, .slice ao E.length c] 24)) := (Below.refl _ _).alloc (Nat.le_refl _) _
  have hX := GBx.new w n x ao E.length c
  unfold ckG
  cases g1 : decide (n < 1) with
  | true =>
    rw [decide_eq_true_eq] at g1
    rw [if_pos (Or.inl g1)]
    clear hr
    go_enter Try.func22, Try.ntmps22
    go_wp2
    go_ret
    exact ⟨rfl, hA⟩
  | false =>
  cases g2 : decide (512 < n) with
  | true =>
    rw [decide_eq_true_eq] at g2
    rw [if_pos (Or.inr g2)]
    clear hr
    go_enter Try.func22, Try.ntmps22
    go_wp2
    go_ret
    exact ⟨rfl, hA⟩
  | false =>
  rw [if_neg (by rw [decide_eq_false_iff_not] at g1 g2; omega)]
  cases g3 : decide (x < 0) with
  | true =>
    rw [decide_eq_true_eq] at g3
    rw [if_pos (isPt_not (Or.inl g3))]
    clear hr
    go_enter Try.func22, Try.ntmps22
    go_wp2
    go_ret
    exact ⟨rfl, hA⟩
  | false =>
  cases g6 : decide (n ≤ x) with
  | true =>
    rw [decide_eq_true_eq] at g6
    rw [if_pos (isPt_not (Or.inr g6))]
    clear hr
    go_enter Try.func22, Try.ntmps22
    go_wp2
    go_ret
    exact ⟨rfl, hA⟩
  | false =>
  rw [if_neg (by rw [decide_eq_false_iff_not] at g3 g6; rw [isPt_of (by omega)]; simp)]
  cases g4 : decide (1024 < E.length) with
  | true =>
    rw [decide_eq_true_eq] at g4
    rw [if_pos g4]
    have g5 : (1024 : Int) < (E.length : Int) := by omega
    clear hr
    go_enter Try.func22, Try.ntmps22
    go_wp2
    go_ret
    exact ⟨rfl, hA⟩
  | false =>
  rw [decide_eq_false_iff_not] at g4
  rw [if_neg g4]
  have g5 : ¬ (1024 : Int) < (E.length : Int) := by omega
  have hlen : E.length ≤ 1024 := by omega
  have hat : ∀ j, j < E.length → ∃ b o, ao = some ⟨b, o, none⟩ ∧ b < w.heap.size ∧ EdAt w b (o + j * 21) (edD E j) := fun j hj => by
    obtain ⟨b, o, e, -, h1, h2, -⟩ := hr.get j hj
    exact ⟨b, o, e, h1, h2⟩
  obtain ⟨G, hG⟩ : ∃ G : Nat, G = (if ckEs n E = true then 0 else 6) := ⟨_, rfl⟩
  rw [← hG]
  have HA := Lib.hid hA; have HX := Lib.hid hX; have HAT := Lib.hid hat; have HG := Lib.hid hG; have HL := Lib.hid hlen
  obtain ⟨N, hN⟩ : ∃ N, E.length = N := ⟨_, rfl⟩
  obtain ⟨y0, y1, y2, y3⟩ := hX
  clear hA hr hat hG hlen g4
  rw [hN] at HA HX g5 y0 y1 y2 y3 ⊢
  have HN := Lib.hid hN; clear hN
  go_enter Try.func22, Try.ntmps22
  go_wp2_with fail
  go_loopw [3] (fun iv wr => ∃ j : Nat, j ≤ N ∧ iv = .int .i64 (j : Int) ∧ ckEs n (E.take j) = true ∧ Below (w.heap.size + 1) (w.alloc (Obj.cells #[.int .i64 n, .int .i64 x, .slice ao N c] 24)) wr) (fun iv _ => N - (intOf iv).toNat)
  case atStart => exact ⟨0, Nat.zero_le _, rfl, rfl, Below.refl _ _⟩
  case round =>
    obtain ⟨j, hj, rfl, hck, hB⟩ := hrel
    have hB' : Below (w.alloc (Obj.cells #[.int .i64 n, .int .i64 x, .slice ao N c] 24)).heap.size (w.alloc (Obj.cells #[.int .i64 n, .int .i64 x, .slice ao N c] 24)) wr := by simpa using hB
    have HB2 := Lib.hid hB'; have HCK := Lib.hid hck; clear hB hB' hck y0 y1 y2 y3
    obtain ⟨y0, y1, y2, y3⟩ := HX.out.below HB2.out
    by_cases hlt : j < N
    · have hlt' : j < E.length := by rw [HN.out]; exact hlt
      obtain ⟨b, o, rfl, hbl, he⟩ := HAT.out j hlt'
      have he2 := he.below (Below.chain HA.out HB2.out) hbl
      have hd := ckEs_take (n := n) hlt'
      have hbad := fun h => ckEs_bad (n := n) hlt' h
      have HD := Lib.hid hd; have HBAD := Lib.hid hbad
      clear hd hbad he hlt' hbl
      generalize edD E j = d at *
      have HE := Lib.hid he2
      have q5 := ed_box0 wr d; have q6 := ed_box1 wr d
      have HBa : Hid (Below wr.heap.size wr (wr.alloc (.cells d.cs 55))) := Lib.hid ((Below.refl _ _).alloc (Nat.le_refl _) _)
      have HB3 := Lib.hid (Below.chain HB2.out HBa.out)
      clear he2 HBa
      have hbad : ∀ (h : (isPt n d.f && isPt n d.t) = false), G = 6 := fun h => by rw [HG.out, HBAD.out h]; rfl
      have HB6 := Lib.hid hbad; clear hbad
      cases r1 : decide (d.f < 0) with
      | true =>
        rw [decide_eq_true_eq] at r1
        obtain rfl := HB6.out (by rw [isPt_not (Or.inl r1)]; rfl)
        go_wp2_with (first | (refine wpList_load_ed (.tmp 40) rfl rfl b (o + j * 21) (by simp [Act.eval, Act.put]) d HE.out ?_) | (refine wpList_store_ed (.tmp 4) (.tmp 41) rfl rfl rfl (by simp [Act.eval, Act.put]) d (by simp [Act.eval, Act.put]) ?_))
        go_ret
        exact ⟨rfl, (Below.chain HA.out HB3.out)⟩
      | false =>
      cases r2 : decide (n ≤ d.f) with
      | true =>
        rw [decide_eq_true_eq] at r2
        obtain rfl := HB6.out (by rw [isPt_not (Or.inr r2)]; rfl)
        go_wp2_with (first | (refine wpList_load_ed (.tmp 40) rfl rfl b (o + j * 21) (by simp [Act.eval, Act.put]) d HE.out ?_) | (refine wpList_store_ed (.tmp 4) (.tmp 41) rfl rfl rfl (by simp [Act.eval, Act.put]) d (by simp [Act.eval, Act.put]) ?_))
        go_ret
        exact ⟨rfl, (Below.chain HA.out HB3.out)⟩
      | false =>
      cases r3 : decide (d.t < 0) with
      | true =>
        rw [decide_eq_true_eq] at r3
        obtain rfl := HB6.out (by rw [isPt_not (p := d.t) (Or.inl r3), Bool.and_false])
        go_wp2_with (first | (refine wpList_load_ed (.tmp 40) rfl rfl b (o + j * 21) (by simp [Act.eval, Act.put]) d HE.out ?_) | (refine wpList_store_ed (.tmp 4) (.tmp 41) rfl rfl rfl (by simp [Act.eval, Act.put]) d (by simp [Act.eval, Act.put]) ?_))
        go_ret
        exact ⟨rfl, (Below.chain HA.out HB3.out)⟩
      | false =>
      cases r4 : decide (n ≤ d.t) with
      | true =>
        rw [decide_eq_true_eq] at r4
        obtain rfl := HB6.out (by rw [isPt_not (p := d.t) (Or.inr r4), Bool.and_false])
        go_wp2_with (first | (refine wpList_load_ed (.tmp 40) rfl rfl b (o + j * 21) (by simp [Act.eval, Act.put]) d HE.out ?_) | (refine wpList_store_ed (.tmp 4) (.tmp 41) rfl rfl rfl (by simp [Act.eval, Act.put]) d (by simp [Act.eval, Act.put]) ?_))
        go_ret
        exact ⟨rfl, (Below.chain HA.out HB3.out)⟩
      | false =>
        have HC2 : Hid (ckEs n (E.take (j + 1)) = true) := Lib.hid (by
          rw [decide_eq_false_iff_not] at r1 r2 r3 r4
          rw [HD.out, HCK.out, isPt_of (p := d.f) (by omega), isPt_of (p := d.t) (by omega)]; rfl)
        go_wp2_with (first | (refine wpList_load_ed (.tmp 40) rfl rfl b (o + j * 21) (by simp [Act.eval, Act.put]) d HE.out ?_) | (refine wpList_store_ed (.tmp 4) (.tmp 41) rfl rfl rfl (by simp [Act.eval, Act.put]) d (by simp [Act.eval, Act.put]) ?_))
        go_roundw
        case rel => exact ⟨j + 1, by omega, by go_num, HC2.out, by have := HB3.out; simpa using this⟩
        case measure => simp [intOf]; omega
    · have hjn : j = N := by omega
      subst hjn
      have e1 := HG.out
      rw [← List.take_length (l := E), HN.out, HCK.out, if_pos rfl] at e1
      subst e1
      have HB3 := Lib.hid (Below.chain HA.out HB2.out)
      go_wp2
      go_ret
      exact ⟨rfl, HB3.out⟩
/-- Whether a graph is small. -/
def fewG (n : Int) (E : List Ed) : Bool := decide (n ≤ 16) && decide (E.length ≤ 40)
theorem few_any (n x : Int) (ao : Option Addr) (c : Nat) (E : List Ed) (w : World) :
    Calls Try.prog 13 #[.agg #[.int .i64 n, .int .i64 x, .slice ao E.length c]] w fun e w' => e = .returned (.bool (fewG n E)) ∧ Below w.heap.size w w' := by
  unfold fewG
  generalize E.length = m
  cases h1 : decide (n ≤ 16) <;> cases h2 : decide (m ≤ 40)
  all_goals
    have h3 : decide ((m : Int) ≤ 40) = decide (m ≤ 40) := by rw [decide_eq_decide]; omega
    rw [h2] at h3
    clear h2
    go_enter Try.func13, Try.ntmps13
    go_wp2
    go_ret
    exact ⟨rfl, by go_grown⟩
end Go.Proofs.Ytjjkabgbcflipaa
namespace Go.Proofs.Ytjjkabgbcflipaa
open Go Go.Proofs Go.RowKit

def intCells (l : List Int) : List Value := l.map fun z => .int .i64 z
theorem intCells_length (l : List Int) : (intCells l).length = l.length := by simp [intCells]
theorem infoInt64 : (Try.prog.info? 3).map (fun i => (i.zero, i.size, i.bytes)) = some (some (.int .i64 0), 1, 8) := by kernel_rfl
theorem addr_zero (b j : Nat) : (⟨b, 0, none⟩ : Addr).add j = ⟨b, j, none⟩ := by unfold Addr.add; split <;> simp_all
/-- A row of numbers that is one's own. -/
def ownI (lo : Nat) (W : World) (v : Value) (l : List Int) : Prop := W.ownsRow lo 3 1 v l.length (intCells l)
section
variable {lo : Nat} {W W' : World} {v : Value} {l : List Int}
theorem ownI.nil : ownI lo W (.slice none 0 0) [] := World.ownsRow_nil ..
theorem ownI.lt (h : ownI lo W v l) {b : Nat} (e : v.ownBlock = some b) : lo ≤ b ∧ b < W.heap.size := World.ownsRow.lt h b e
theorem ownI.but {S : Nat → Prop} (h : ownI lo W v l) (hb : But S W W') (hn : ∀ b, v.ownBlock = some b → ¬ S b) : ownI lo W' v l := by
  obtain ⟨h1, h2⟩ := h
  refine ⟨h1, h2.imp_right fun ⟨b, cap, cur, e, hlo, hg, r⟩ => ⟨b, cap, cur, e, hlo, ?_, r⟩⟩
  have := hb.block b (Array.getElem?_eq_some_iff.1 hg).1 (hn b (by rw [e]; rfl))
  rw [this]; exact hg
theorem ownI.below (h : ownI lo W v l) (hb : Below W.heap.size W W') : ownI lo W' v l := h.but (S := fun _ => False) (But.of_below hb) (fun _ _ => id)
theorem ownI.slice (h : ownI lo W v l) : ∃ ao c, v = .slice ao l.length c ∧ (ao = none → l = [] ∧ c = 0) ∧ l.length ≤ c ∧ c ≤ maxLen := by
  rcases h.2 with ⟨e, h0⟩ | ⟨g, cap, cur, e, -, -, h1, h2, -⟩
  · exact ⟨none, 0, by rw [e, h0], fun _ => ⟨List.length_eq_zero_iff.1 h0, rfl⟩, by omega, by decide⟩
  · exact ⟨_, cap, e, fun h => (by cases h), h1, h2⟩
theorem ownI.mono {lo' : Nat} (h : ownI lo W v l) (hl : lo' ≤ lo) : ownI lo' W v l := World.ownsRow.mono h hl
/-- A number that is appended to an own row. -/
theorem wpList_push {ops : Array Oper} {rest : List Oper} {o : Oper} {a : Act} {Q : Exit → Act → World → Prop}
    (hg : o.guard = none) (s x : Operand) (hop : o.op = Op.call { callee := Callee.builtin Builtin.append, args := #[s, x], argTypes := #[51, 51] })
    (hs : a.eval s = v) (hown : ownI lo W v l) (hl : l.length ≤ 1200000) (hbase : lo ≤ W.heap.size)
    (ad : Nat) (z : Int) (hx : a.eval x = .slice (some ⟨ad, 0, none⟩) 1 1) (hc : W.cell? ⟨ad, 0, none⟩ = some (.int .i64 z))
    (hK : ∀ (g cap n : Nat) (w9 : World), n = l.length + 1 → ownI lo w9 (.slice (some ⟨g, 0, none⟩) n cap) (l ++ [z]) → W.grownBy w9 v.ownBlock → (v.ownBlock = some g ∨ g = W.heap.size) → wpList Try.prog ops Q rest (a.put o.dst (.slice (some ⟨g, 0, none⟩) n cap)) w9) :
    wpList Try.prog ops Q (o :: rest) a W := by
  obtain ⟨i0, hi, hz0, hz1, hz2⟩ := info_parts infoInt64
  refine wpList_append_lies W hg s x 51 hop lo 3 i0 (.int .i64 0) 1 8 Try.underlying51 hi hz0 hz1 hz2 rfl (by decide) v l.length (intCells l) hs hown ⟨ad, 0, none⟩ 1 1 [.int .i64 z] hx rfl ?_ (by intro u hu; simp at hu; subst hu; rfl) (by decide) (by unfold maxLen; omega) (by omega) hbase _ rfl ?_
  · intro j u hu
    match j, hu with
    | 0, hu => simp at hu; subst hu; rw [addr_zero]; exact hc
  · intro g cap w9 hown9 hgrow hgg hg9
    rw [show intCells l ++ [Value.int .i64 z] = intCells (l ++ [z]) by simp [intCells]] at hown9
    exact hK g cap _ w9 rfl (by unfold ownI; rw [List.length_append]; exact hown9) hgrow hgg
theorem step_pushI {ops : Array Oper} {o : Oper} {a : Act} {K : Act → World → Prop} {Q : Exit → Act → World → Prop} {E : Prop}
    (hg : o.guard = none) (s x : Operand) (hop : o.op = Op.call { callee := Callee.builtin Builtin.append, args := #[s, x], argTypes := #[51, 51] })
    (hs : a.eval s = v) (hown : ownI lo W v l) (hl : l.length ≤ 1200000) (hbase : lo ≤ W.heap.size)
    (ad : Nat) (z : Int) (hx : a.eval x = .slice (some ⟨ad, 0, none⟩) 1 1) (hc : W.cell? ⟨ad, 0, none⟩ = some (.int .i64 z))
    (hK : ∀ (g cap n : Nat) (w9 : World), n = l.length + 1 → ownI lo w9 (.slice (some ⟨g, 0, none⟩) n cap) (l ++ [z]) → W.grownBy w9 v.ownBlock → (v.ownBlock = some g ∨ g = W.heap.size) → K (a.put o.dst (.slice (some ⟨g, 0, none⟩) n cap)) w9) :
    if Region.wanted o (yielded ops a.tmps) = true then Oper.wp Try.prog o a W K Q else E := by
  obtain ⟨i0, hi, hz0, hz1, hz2⟩ := info_parts infoInt64
  refine step_append_lies W hg s x 51 hop lo 3 i0 (.int .i64 0) 1 8 Try.underlying51 hi hz0 hz1 hz2 rfl (by decide) v l.length (intCells l) hs hown ⟨ad, 0, none⟩ 1 1 [.int .i64 z] hx rfl ?_ (by intro u hu; simp at hu; subst hu; rfl) (by decide) (by unfold maxLen; omega) (by omega) hbase _ rfl ?_
  · intro j u hu
    match j, hu with
    | 0, hu => simp at hu; subst hu; rw [addr_zero]; exact hc
  · intro g cap w9 hown9 hgrow hgg hg9
    rw [show intCells l ++ [Value.int .i64 z] = intCells (l ++ [z]) by simp [intCells]] at hown9
    exact hK g cap _ w9 rfl (by unfold ownI; rw [List.length_append]; exact hown9) hgrow hgg
end
abbrev nilS : Value := .slice none 0 0
/-- A table of rows: the rows are one's own, and no two share a block. -/
structure LvAt (lo : Nat) (W : World) (LB P : Nat) (vs : List Value) (ls : List (List Int)) : Prop where
  vlen : vs.length = P
  len : ls.length = P
  tab : ∀ k, k < P → W.cell? ⟨LB, k, none⟩ = some (vs.getD k nilS)
  free : ∀ k, W.frozen? ⟨LB, k, none⟩ = false
  lt : LB < W.heap.size
  low : LB < lo
  row : ∀ k, k < P → ownI lo W (vs.getD k nilS) (ls.getD k [])
  apart : ∀ i j, i < P → j < P → i ≠ j → ∀ b, (vs.getD i nilS).ownBlock = some b → (vs.getD j nilS).ownBlock ≠ some b
section
variable {lo : Nat} {W W' : World} {LB P : Nat} {vs : List Value} {ls : List (List Int)}
theorem LvAt.but {S : Nat → Prop} (h : LvAt lo W LB P vs ls) (hb : But S W W') (hL : ¬ S LB) (hn : ∀ k, k < P → ∀ b, (vs.getD k nilS).ownBlock = some b → ¬ S b) : LvAt lo W' LB P vs ls :=
  ⟨h.vlen, h.len, fun k hk => (hb.cell (p := ⟨LB, k, none⟩) h.lt hL).trans (h.tab k hk), fun k => (hb.frozen (p := ⟨LB, k, none⟩) h.lt hL).trans (h.free k), Nat.lt_of_lt_of_le h.lt hb.size, h.low, fun k hk => (h.row k hk).but hb (hn k hk), h.apart⟩
theorem LvAt.below (h : LvAt lo W LB P vs ls) (hb : Below W.heap.size W W') : LvAt lo W' LB P vs ls := h.but (S := fun _ => False) (But.of_below hb) id (fun _ _ _ _ => id)
theorem getD_set_eq {α : Type} (l : List α) (k : Nat) (a d : α) (h : k < l.length) : (l.set k a).getD k d = a := by
  rw [List.getD_eq_getElem?_getD, List.getElem?_set_self h]; rfl
theorem getD_set_ne' {α : Type} (l : List α) (k j : Nat) (a d : α) (h : k ≠ j) : (l.set k a).getD j d = l.getD j d := by
  rw [List.getD_eq_getElem?_getD, List.getElem?_set_ne h, List.getD_eq_getElem?_getD]
/-- A row that grew is put into its place. -/
theorem LvAt.push {w9 : World} {k g n cap : Nat} {l : List Int} (h : LvAt lo W LB P vs ls) (hk : k < P)
    (h9 : ownI lo w9 (.slice (some ⟨g, 0, none⟩) n cap) l) (hg : W.grownBy w9 (vs.getD k nilS).ownBlock) (hgg : (vs.getD k nilS).ownBlock = some g ∨ g = W.heap.size) :
    LvAt lo (w9.setCell ⟨LB, k, none⟩ (.slice (some ⟨g, 0, none⟩) n cap)) LB P (vs.set k (.slice (some ⟨g, 0, none⟩) n cap)) (ls.set k l) := by
  have hb : But (fun b => (vs.getD k nilS).ownBlock = some b) W w9 := But.of_grown hg (fun _ e => e)
  have hLn : ¬ (vs.getD k nilS).ownBlock = some LB := fun e => absurd ((h.row k hk).lt e).1 (Nat.not_le.2 h.low)
  have hl9 : LB < w9.heap.size := Nat.lt_of_lt_of_le h.lt hb.size
  have hcl : ∀ j, j < P → w9.cell? ⟨LB, j, none⟩ = some (vs.getD j nilS) := fun j hj => (hb.cell (p := ⟨LB, j, none⟩) h.lt hLn).trans (h.tab j hj)
  have hs : But (fun b => b = LB) w9 (w9.setCell ⟨LB, k, none⟩ (.slice (some ⟨g, 0, none⟩) n cap)) := (But.refl _ w9).set _ _ (fun _ => rfl)
  refine ⟨by rw [List.length_set, h.vlen], by rw [List.length_set, h.len], fun j hj => ?_, fun j => ?_, by simpa using hl9, h.low, fun j hj => ?_, fun i j hi hj hij b e => ?_⟩
  · by_cases e : k = j
    · subst e
      rw [getD_set_eq _ _ _ _ (by rw [h.vlen]; exact hk)]
      exact World.cell?_setCell_same' _ _ _ (by rw [hcl k hk]; rfl)
    · rw [getD_set_ne' _ _ _ _ _ e, World.cell?_setCell_other (h := by intro q; cases q; exact e rfl)]
      exact hcl j hj
  · rw [World.frozen?_setCell]; exact (hb.frozen (p := ⟨LB, j, none⟩) h.lt hLn).trans (h.free j)
  · by_cases e : k = j
    · subst e
      rw [getD_set_eq _ _ _ _ (by rw [h.vlen]; exact hk), getD_set_eq _ _ _ _ (by rw [h.len]; exact hk)]
      exact h9.but hs (fun b e q => by cases e; have := (h9.lt rfl).1; have := h.low; omega)
    · rw [getD_set_ne' _ _ _ _ _ e, getD_set_ne' _ _ _ _ _ e]
      exact ((h.row j hj).but hb (fun b e1 e2 => h.apart j k hj hk (Ne.symm e) b e1 e2)).but hs (fun b e1 e2 => by have := ((h.row j hj).lt e1).1; have := h.low; omega)
  · by_cases e1 : k = i
    · subst e1
      rw [getD_set_eq _ _ _ _ (by rw [h.vlen]; exact hk)] at e
      rw [getD_set_ne' _ _ _ _ _ hij]
      cases e
      rcases hgg with q | q
      · exact h.apart k j hk hj hij _ q
      · intro e2; have := ((h.row j hj).lt e2).2; dsimp only at this; omega
    · rw [getD_set_ne' _ _ _ _ _ e1] at e
      by_cases e2 : k = j
      · subst e2
        rw [getD_set_eq _ _ _ _ (by rw [h.vlen]; exact hk)]
        intro q; cases q
        rcases hgg with q | q
        · exact h.apart i k hi hk (Ne.symm e1) _ e q
        · have := ((h.row i hi).lt e).2; dsimp only at this; omega
      · rw [getD_set_ne' _ _ _ _ _ e2]; exact h.apart i j hi hj hij b e
end
/-- The numbers of the first j edges that leave each point. -/
def lvN (P : Nat) (fr : Ed → Int) (E : List Ed) (j : Nat) : List (List Int) :=
  (List.range P).map fun (p : Nat) => ((List.range j).filter fun (i : Nat) => decide (fr (edD E i) = (p : Int))).map fun (i : Nat) => (i : Int)
theorem lvN_len (P : Nat) (fr : Ed → Int) (E : List Ed) (j : Nat) : (lvN P fr E j).length = P := by simp [lvN]
theorem lvN_at {P p : Nat} (fr : Ed → Int) (E : List Ed) (j : Nat) (hp : p < P) : (lvN P fr E j).getD p [] = ((List.range j).filter fun (i : Nat) => decide (fr (edD E i) = (p : Int))).map fun (i : Nat) => (i : Int) := by
  rw [List.getD_eq_getElem?_getD]; simp [lvN, hp]
theorem lvN_row_len {P p : Nat} (fr : Ed → Int) (E : List Ed) (j : Nat) : ((lvN P fr E j).getD p []).length ≤ j := by
  by_cases hp : p < P
  · rw [lvN_at fr E j hp, List.length_map]
    exact Nat.le_trans (List.length_filter_le _ _) (by simp)
  · rw [List.getD_eq_getElem?_getD, List.getElem?_eq_none (by rw [lvN_len]; omega)]; simp
theorem lvN_succ {P k : Nat} (fr : Ed → Int) (E : List Ed) (j : Nat) (hk : k < P) (hf : fr (edD E j) = (k : Int)) : lvN P fr E (j + 1) = (lvN P fr E j).set k ((lvN P fr E j).getD k [] ++ [(j : Int)]) := by
  apply List.ext_getElem
  · rw [List.length_set, lvN_len, lvN_len]
  · intro p h1 h2
    rw [lvN_len] at h1
    have e1 : ∀ j, ∀ h : p < (lvN P fr E j).length, (lvN P fr E j)[p]'h = (lvN P fr E j).getD p [] := fun j h => by rw [List.getD_eq_getElem?_getD, List.getElem?_eq_getElem h]; rfl
    rw [List.getElem_set, e1, lvN_at fr E (j + 1) h1]
    by_cases q : k = p
    · subst q
      rw [if_pos rfl, lvN_at fr E j h1, List.range_succ, List.filter_append, List.map_append]
      simp [hf]
    · rw [if_neg q, e1, lvN_at fr E j h1, List.range_succ, List.filter_append, List.map_append]
      have : decide (fr (edD E j) = (p : Int)) = false := by rw [hf, decide_eq_false_iff_not]; omega
      simp [this]
theorem lvN_zero (P : Nat) (fr : Ed → Int) (E : List Ed) : lvN P fr E 0 = List.replicate P [] := by
  apply List.ext_getElem
  · simp [lvN]
  · intro p h1 h2; simp [lvN]
/-- Rows that were made just now: all of them are empty. -/
theorem LvAt.new {W : World} {lo LB P : Nat} (hc : ∀ k, k < P → W.cell? ⟨LB, k, none⟩ = some nilS) (hf : ∀ k, W.frozen? ⟨LB, k, none⟩ = false) (hlt : LB < W.heap.size) (hlo : LB < lo) : LvAt lo W LB P (List.replicate P nilS) (List.replicate P []) := by
  have e1 : ∀ k, (List.replicate P nilS).getD k nilS = nilS := fun k => by
    rw [List.getD_eq_getElem?_getD, List.getElem?_replicate]; split <;> rfl
  have e2 : ∀ k, (List.replicate P ([] : List Int)).getD k [] = [] := fun k => by
    rw [List.getD_eq_getElem?_getD, List.getElem?_replicate]; split <;> rfl
  refine ⟨by simp, by simp, fun k hk => by rw [e1]; exact hc k hk, hf, hlt, hlo, fun k hk => by rw [e1, e2]; exact ownI.nil, fun i j _ _ _ b e => ?_⟩
  rw [e1] at e; cases e
theorem made_one (z : Value) (n : Nat) : madeCells #[z] n = Array.replicate n z := by
  apply Array.toList_inj.1
  rw [toList_madeCells_one, Array.toList_replicate]
theorem infoRow : (Try.prog.info? 51).map (fun i => (i.zero, i.size, i.bytes)) = some (some nilS, 1, 24) := by kernel_rfl
theorem infoBool : (Try.prog.info? 4).map (fun i => (i.zero, i.size, i.bytes)) = some (some (.bool false), 1, 1) := by kernel_rfl
theorem make_rows (W : World) (n : Nat) (h : n ≤ 100000) : (Instr.makeSlice 27 (.int .i64 (n : Int)) (.int .i64 (n : Int))).run Try.prog W = .ok (.slice (some ⟨W.heap.size, 0, none⟩) n n) (W.alloc (.cells (Array.replicate n nilS) 51)) := by
  obtain ⟨i0, hi, hz0, hz1, hz2⟩ := info_parts infoRow
  have := run_make (P := Try.prog) W 27 51 i0 nilS Try.underlying27 hi hz0 .i64 .i64 n n (by omega) (by omega) (by rw [hz2]; omega) (by omega)
  rw [hz1, Nat.mul_one, Int.toNat_natCast, show nilS.cells = #[nilS] from rfl, made_one] at this
  exact this
theorem make_bools (W : World) (n : Nat) (h : n ≤ 100000) : (Instr.makeSlice 33 (.int .i64 (n : Int)) (.int .i64 (n : Int))).run Try.prog W = .ok (.slice (some ⟨W.heap.size, 0, none⟩) n n) (W.alloc (.cells (Array.replicate n (.bool false)) 4)) := by
  obtain ⟨i0, hi, hz0, hz1, hz2⟩ := info_parts infoBool
  have := run_make (P := Try.prog) W 33 4 i0 (.bool false) Try.underlying33 hi hz0 .i64 .i64 n n (by omega) (by omega) (by rw [hz2]; omega) (by omega)
  rw [hz1, Nat.mul_one, Int.toNat_natCast, show (Value.bool false).cells = #[Value.bool false] from rfl, made_one] at this
  exact this
theorem make_ints (W : World) (n : Nat) (h : n ≤ 100000) : (Instr.makeSlice 51 (.int .i64 (n : Int)) (.int .i64 (n : Int))).run Try.prog W = .ok (.slice (some ⟨W.heap.size, 0, none⟩) n n) (W.alloc (.cells (Array.replicate n (.int .i64 0)) 3)) := by
  obtain ⟨i0, hi, hz0, hz1, hz2⟩ := info_parts infoInt64
  have := run_make (P := Try.prog) W 51 3 i0 (.int .i64 0) Try.underlying51 hi hz0 .i64 .i64 n n (by omega) (by omega) (by rw [hz2]; omega) (by omega)
  rw [hz1, Nat.mul_one, Int.toNat_natCast, show (Value.int .i64 0).cells = #[Value.int .i64 0] from rfl, made_one] at this
  exact this
theorem made_cell (W : World) (n : Nat) (z : Value) (t : TypeId) (k : Nat) (hk : k < n) : (W.alloc (.cells (Array.replicate n z) t)).cell? ⟨W.heap.size, k, none⟩ = some z := by
  rw [cell_of_row _ _ k _ _ (0, 0) (heap_alloc_last W _)]; simp [hk]
theorem made_free (W : World) (n : Nat) (z : Value) (t : TypeId) (k : Nat) : (W.alloc (.cells (Array.replicate n z) t)).frozen? ⟨W.heap.size, k, none⟩ = false := frozen_of_row _ _ k _ _ (heap_alloc_last W _)
end Go.Proofs.Ytjjkabgbcflipaa
namespace Go.Proofs.Ytjjkabgbcflipaa
open Go Go.Proofs Go.RowKit

section
variable {P : Program} {ops : Array Oper} {Q : Exit → Act → World → Prop} {md : Region.Mode} {S : World → Prop} {late dep : Nat → Bool}

/-- Whatever order is picked from here on; behind each operation that is not late S holds. -/
def wpAnyL (P : Program) (md : Region.Mode) (ops : Array Oper) (Q : Exit → Act → World → Prop) (S : World → Prop) (late : Nat → Bool) : Nat → Array Bool → Act → World → Prop
  | 0, listed, a, w => Region.ready md ops listed = [] ∧ Q .normal a w
  | k + 1, listed, a, w =>
    (Region.ready md ops listed = [] → Q .normal a w) ∧
    ∀ i ∈ Region.ready md ops listed, wpOp P ops Q i (fun a' w' => (late i = false → S w') ∧ wpAnyL P md ops Q S late k (listed.setIfInBounds i true) a' w') a w

theorem any_of_late : ∀ (k : Nat) (listed : Array Bool) (a : Act) (w : World), wpAnyL P md ops Q S late k listed a w → wpAny P md ops Q k listed a w
  | 0, _, _, _, h => h
  | k + 1, _, _, _, h => ⟨h.1, fun i hi => wpOp_mono (fun a' w' g => any_of_late k _ a' w' g.2) (h.2 i hi)⟩

theorem late_first {i : Nat} {oi : Oper} {v : Value} (hi : ops[i]? = some oi) (hsel : ∀ (j : Nat) (o : Oper) cs b, ops[j]? = some o → o.op ≠ .select cs b)
    (hQ : ∀ c a w, Q (.panic c) (a.put oi.dst v) w → Q (.panic c) a w)
    (hlate : ∀ (j : Nat) (o : Oper), ops[j]? = some o → late j = true → dep j = true)
    (hdep : ∀ (j : Nat) (o : Oper), ops[j]? = some o → dep j = true → ∃ e ∈ o.after, Region.binds md e = true ∧ (e.on = i ∨ dep e.on = true)) :
    ∀ (k : Nat) (listed : Array Bool) (a : Act) (w : World),
      (∀ j oj, ops[j]? = some oj → j ≠ i → listed.getD j true = false → (∀ e ∈ oj.after, Region.binds md e = true → e.on ≠ i) → oi.apart ops oj = true) → (∀ j, dep j = true → listed.getD j false = false) →
      i ∈ Region.ready md ops listed → YieldsIf P ops S oi v a → S w →
      wpAnyL P md ops Q S late k (listed.setIfInBounds i true) (a.put oi.dst v) w → wpAnyL P md ops Q S late (k + 1) listed a w := by
  intro k
  induction k with
  | zero =>
    intro listed a w _ _ hr hy hS H
    refine ⟨fun h => absurd hr (by rw [h]; simp), fun j hj => ?_⟩
    rcases Decidable.em (j = i) with rfl | hne
    · exact hy.wpOp hi hS ⟨fun _ => hS, H⟩
    · have := ready_mono hj hne
      rw [H.1] at this
      cases this
  | succ k ih =>
    intro listed a w hfree hD hr hy hS H
    refine ⟨fun h => absurd hr (by rw [h]; simp), fun j hj => ?_⟩
    rcases Decidable.em (j = i) with rfl | hne
    · exact hy.wpOp hi hS ⟨fun _ => hS, H⟩
    · have g := H.2 j (ready_mono hj hne)
      obtain ⟨hun, oj, hoj, hall⟩ := mem_ready.1 hj
      have hfar : ∀ e ∈ oj.after, Region.binds md e = true → e.on ≠ i := fun e he hb heq => by
        have u1 := hall e he hb
        have u0 := (mem_ready.1 hr).1
        rw [heq] at u1
        rcases Nat.lt_or_ge i listed.size with q | q
        · simp [q] at u0 u1; rw [u0] at u1; cases u1
        · simp [Array.getElem?_eq_none q] at u1
      have hnd : dep j = false := by
        cases hl : dep j
        · rfl
        · obtain ⟨e, he, hb, hon⟩ := hdep j oj hoj hl
          rcases hon with hon | hon
          · exact absurd hon (hfar e he hb)
          · have h1 := hall e he hb
            rw [hD _ hon] at h1
            cases h1
      have hnl : late j = false := by
        cases hl : late j
        · rfl
        · rw [hlate j oj hoj hl] at hnd
          cases hnd
      have hD2 : ∀ m, dep m = true → (listed.setIfInBounds j true).getD m false = false := fun m hm => by
        rcases Decidable.em (j = m) with rfl | hjm
        · rw [hnd] at hm; cases hm
        · rw [getD_set_ne false hjm]; exact hD m hm
      have g2 := wpOp_putIf hoj (hfree j oj hoj hne hun hfar) (fun cs b => hsel i oi cs b hi) (fun cs b => hsel j oj cs b hoj) hQ hy g
      have hfree2 : ∀ m om, ops[m]? = some om → m ≠ i → (listed.setIfInBounds j true).getD m true = false → (∀ e ∈ om.after, Region.binds md e = true → e.on ≠ i) → oi.apart ops om = true := fun m om hm hmi hu hno => by
        refine hfree m om hm hmi ?_ hno
        rcases Decidable.em (j = m) with rfl | hjm
        · exact hun
        · rw [getD_set_ne true hjm] at hu; exact hu
      refine wpOp_mono (fun a' w' z => ⟨fun _ => z.2.1 hnl, ih (listed.setIfInBounds j true) a' w' hfree2 hD2 (ready_mono hr (Ne.symm hne)) z.1 (z.2.1 hnl) ?_⟩) g2
      rw [Array.setIfInBounds_comm _ _ hne]
      exact z.2.2

/-- The late operations wait for number i, by steps through 'dep', as a Bool; nothing of 'dep' has run. -/
def lateB (md : Region.Mode) (ops : Array Oper) (late dep : Nat → Bool) (listed : Array Bool) (i : Nat) : Bool :=
  ((List.range ops.size).all fun j => (!late j || dep j) && (!dep j || (match ops[j]? with | some o => o.after.any (fun e => Region.binds md e && (e.on == i || dep e.on)) | none => true))) &&
    ((List.range listed.size).all fun j => !dep j || !listed.getD j false)
theorem lateB_spec {i : Nat} {listed : Array Bool} (h : lateB md ops late dep listed i = true) :
    (∀ (j : Nat) (o : Oper), ops[j]? = some o → late j = true → dep j = true) ∧
    (∀ (j : Nat) (o : Oper), ops[j]? = some o → dep j = true → ∃ e ∈ o.after, Region.binds md e = true ∧ (e.on = i ∨ dep e.on = true)) ∧
    (∀ j, dep j = true → listed.getD j false = false) := by
  unfold lateB at h
  rw [Bool.and_eq_true, List.all_eq_true, List.all_eq_true] at h
  obtain ⟨h1, h2⟩ := h
  have lt : ∀ (j : Nat) (o : Oper), ops[j]? = some o → j < ops.size := fun j o hj => by
    rcases Nat.lt_or_ge j ops.size with q | q
    · exact q
    · rw [Array.getElem?_eq_none q] at hj; cases hj
  refine ⟨fun j o hj hl => ?_, fun j o hj hd => ?_, fun j hd => ?_⟩
  · have := h1 j (List.mem_range.2 (lt j o hj))
    rw [hl, Bool.and_eq_true] at this
    simpa using this.1
  · have := h1 j (List.mem_range.2 (lt j o hj))
    rw [hd, Bool.and_eq_true] at this
    have g := this.2
    rw [hj] at g
    simp only [Bool.not_true, Bool.false_or] at g
    obtain ⟨e, he, hb⟩ := Array.any_eq_true'.1 g
    simp only [Bool.and_eq_true, Bool.or_eq_true, beq_iff_eq] at hb
    exact ⟨e, he, hb.1, hb.2⟩
  · rcases Nat.lt_or_ge j listed.size with q | q
    · have := h2 j (List.mem_range.2 q)
      rw [hd] at this
      simpa using this
    · simp [Array.getElem?_eq_none q]

theorem late_take {i : Nat} {oi : Oper} {v : Value} {k : Nat} {listed : Array Bool} {a : Act} {w : World} (dep : Nat → Bool) (hi : ops[i]? = some oi)
    (hs : Region.noSelect ops = true) (hf : Region.free md ops listed i = true) (hr : (Region.ready md ops listed).contains i = true) (hl : lateB md ops late dep listed i = true)
    (hQ : ∀ c a w, Q (.panic c) (a.put oi.dst v) w → Q (.panic c) a w) (hy : YieldsIf P ops S oi v a) (hS : S w)
    (h : wpAnyL P md ops Q S late k (listed.setIfInBounds i true) (a.put oi.dst v) w) : wpAnyL P md ops Q S late (k + 1) listed a w :=
  late_first hi (Region.noSelect_spec hs) hQ (lateB_spec hl).1 (lateB_spec hl).2.1 k listed a w (Region.free_spec hi hf) (lateB_spec hl).2.2 (by simpa using hr) hy hS h

theorem late_one {i : Nat} {oi : Oper} {k : Nat} {listed : Array Bool} {a : Act} {w : World} (hi : ops[i]? = some oi) (hr : Region.ready md ops listed = [i])
    (h : ∀ K : Act → World → Prop, Hid (∀ a' w', (late i = false → S w') → wpAnyL P md ops Q S late k (listed.setIfInBounds i true) a' w' → K a' w') →
      if Region.wanted oi (yielded ops a.tmps) = true then Oper.wp P oi a w K Q else K (a.put oi.dst undef) w) : wpAnyL P md ops Q S late (k + 1) listed a w := by
  have g := h (fun a' w' => (late i = false → S w') ∧ wpAnyL P md ops Q S late k (listed.setIfInBounds i true) a' w') (Lib.hid fun a' w' h1 h2 => ⟨h1, h2⟩)
  refine ⟨fun h0 => (by rw [hr] at h0; cases h0), fun j hj => ?_⟩
  rw [hr] at hj
  obtain rfl := List.mem_singleton.1 hj
  unfold wpOp
  simp only [hi]
  split
  · rename_i hw; rw [if_pos hw] at g; exact .inl g
  · rename_i hw; rw [if_neg hw] at g; exact g

theorem late_done {listed : Array Bool} {a : Act} {w : World} (hr : Region.ready md ops listed = []) (h : Q .normal a w) : ∀ k, wpAnyL P md ops Q S late k listed a w
  | 0 => ⟨hr, h⟩
  | _ + 1 => ⟨fun _ => h, by rw [hr]; simp⟩

theorem wp_region_late {id : Nat} {a : Act} {w : World} (hm : P.follows .mixedOrders = true)
    (h : wpAnyL P .any ops Q S late ops.size (Array.replicate ops.size false) a w.drew) : (Code.region id ops true).wp P Q a w :=
  wp_region_any hm (any_of_late _ _ _ _ h)
end
end Go.Proofs.Ytjjkabgbcflipaa
namespace Go.Proofs.Ytjjkabgbcflipaa
open Go Go.Proofs Go.RowKit

theorem rowsIn_wide' {n : Nat} {P : Program} {row : String} {args : Array Value} {w : World} {R : Value → World → Prop} (h : Rows P row args w R) : RowsIn Fence.wide n P row args w R := fun c cs _ => by
  obtain ⟨v, w', r, s⟩ := h c cs
  exact ⟨v, w', r, stepsIn_wide.2 s⟩
theorem uponIn_of_upon {l n : Nat} {P : Program} {o : Oper} {a : Act} {K : Act → World → Prop} {Q : Exit → Act → World → Prop} {r : Result Next} (h : o.upon P a K Q r) : o.uponIn (Fence.wide.inRound l) n P a K Q r := by
  cases r with
  | ok x w' =>
    cases x with
    | value v => exact h
    | skip => exact h
    | defer d => exact h
    | enter f args => exact ⟨(fun h => by cases h), CallsIn.inRound l (callsIn_wide.2 h)⟩
    | row row args => exact ⟨(fun h => by cases h), rowsIn_wide' h⟩
    | _ => exact h.elim
  | halt x w' => cases x <;> exact h
theorem anyIn_of_any {l n : Nat} {P : Program} {md : Region.Mode} {ops : Array Oper} {Q : Exit → Act → World → Prop} (hd : ∀ (i : Nat) (o : Oper), ops[i]? = some o → ∀ c, o.op ≠ .defer c) (hQ : ¬ LetsOut Q) :
    ∀ (fuel : Nat) (listed : Array Bool) (a : Act) (w : World), wpAny P md ops Q fuel listed a w → wpAnyIn (Fence.wide.inRound l) n P md ops Q fuel listed a w
  | 0, _, _, _, h => h
  | fuel + 1, listed, a, w, h => ⟨h.1, fun i hi => by
    have h2 := h.2 i hi
    unfold wpOp at h2
    unfold wpOpIn
    cases ho : ops[i]? with
    | none => rw [ho] at h2; exact anyIn_of_any hd hQ fuel _ _ _ h2
    | some o =>
      rw [ho] at h2
      simp only at h2 ⊢
      split
      · next hw =>
        rw [if_pos hw] at h2
        rcases h2 with h2 | ⟨-, h2⟩
        · refine ⟨fun _ _ => trivial, ?_⟩
          rw [Oper.semAt_eq _ _ _ (hd i o ho)]
          refine uponIn_of_upon ?_
          exact Oper.wp_mono (fun a' w' h3 => anyIn_of_any hd hQ fuel _ _ _ h3) h2
        · exact absurd h2 hQ
      · next hw =>
        rw [if_neg hw] at h2
        exact ⟨fun _ _ => trivial, anyIn_of_any hd hQ fuel _ _ _ h2⟩⟩
def isDefer : Op → Bool
  | .defer _ => true
  | _ => false
theorem noDefer {ops : Array Oper} (h : ops.all (fun o => !isDefer o.op) = true) (i : Nat) (o : Oper) (ho : ops[i]? = some o) (c : _) : o.op ≠ .defer c := fun e => by
  obtain ⟨hi, rfl⟩ := Array.getElem?_eq_some_iff.1 ho
  have := (Array.all_eq_true.1 h) i hi
  rw [e] at this
  simp [isDefer] at this
theorem wpIn_region_round {S : World → Prop} {l n id : Nat} {P : Program} {ops : Array Oper} {Q : Exit → Act → World → Prop} {a : Act} {w : World} (hm : P.follows .mixedOrders = true)
    (hd : ops.all (fun o => !isDefer o.op) = true) (hQ : ¬ LetsOut Q) (hS : S w.drew)
    (h : S w.drew → wpAnyH P .any ops Q S ops.size (Array.replicate ops.size false) a w.drew) : (Code.region id ops true).wpIn (Fence.wide.inRound l) n P Q a w :=
  wpIn_region_any hm (anyIn_of_any (noDefer hd) hQ _ _ _ _ (wpAny_of_held _ _ _ _ (h hS)))
end Go.Proofs.Ytjjkabgbcflipaa
