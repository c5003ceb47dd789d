import Derived.Test.YtjobmkdaaionlaaGreatDoorCut31
import Derived.RangeFuncBox
import Derived.RangeFuncLeaves
import Derived.RangeFuncNested
import Derived.Shelf.Abstract
import Derived.OwnWalkIn
import Derived.TacticsInMore
import Derived.LoopNIn
import Derived.LoopIn
import Derived.Test.YtjobmkdaaionlaaGreatDoorCut30
import Derived.Test.YtjobmkdaaionlaaGreatDoorOwnIter
import Derived.Test.YtjobmkdaaionlaaGreatDoorCut4
import Derived.OrdersHeld
import Derived.OrdersIn
import Derived.Deep.RegionHeld
import Derived.CallsIn
import Derived.RangeFuncCalls
import Derived.Test.YtjobmkdaaionlaaGreatDoorCut1

set_option linter.unusedVariables false
/-
  linear: Scale, Constant, Variable.
-/
set_option linter.unusedSimpArgs false
namespace Go.Proofs.YtjobmkdaaionlaaGreatDoor
open Go Go.Proofs Go.RowKit
def sizeB (n : Int) : Bool := decide (0 ≤ n) && decide (n ≤ 32)
set_option maxHeartbeats 1000000 in
theorem isSize_any (n : Int) (w : World) : Calls Tryz.prog 44 #[.int .i64 n] w fun e w' => e = .returned (.bool (sizeB n)) ∧ w' = w := by
  unfold sizeB
  by_cases h1 : 0 ≤ n
  · by_cases h2 : n ≤ 32
    · rw [decide_eq_true h1, decide_eq_true h2]
      go_enter Tryz.func44, Tryz.ntmps44
      go_wp2
      refine bodyPost_ret (v := .bool true) (by simp [results, Tryz.results44, go_sem] <;> omega) rfl ?_
      exact ⟨rfl, rfl⟩
    · rw [decide_eq_true h1, decide_eq_false h2]
      go_enter Tryz.func44, Tryz.ntmps44
      go_wp2
      refine bodyPost_ret (v := .bool false) (by simp [results, Tryz.results44, go_sem] <;> omega) rfl ?_
      exact ⟨rfl, rfl⟩
  · rw [decide_eq_false h1, Bool.false_and]
    go_enter Tryz.func44, Tryz.ntmps44
    go_wp2
    refine bodyPost_ret (v := .bool false) (by simp [results, Tryz.results44, go_sem] <;> omega) rfl ?_
    exact ⟨rfl, rfl⟩
end Go.Proofs.YtjobmkdaaionlaaGreatDoor

namespace Go.Proofs.YtjobmkdaaionlaaGreatDoor
open Go Go.Proofs Go.RowKit Go.Shelf
attribute [local go_sem] Oper.semAt_some
def nzTo (l : List ByteArray) : Nat → List (Fin l.length)
  | 0 => []
  | j + 1 => if h : j < l.length then (if l[j] = z0 then nzTo l j else nzTo l j ++ [⟨j, h⟩]) else nzTo l j
def nz (l : List ByteArray) : List (Fin l.length) := nzTo l l.length
theorem nzTo_zero {l : List ByteArray} {j : Nat} (h : j < l.length) (hz : l[j] = z0) : nzTo l (j + 1) = nzTo l j := by
  rw [nzTo, dif_pos h, if_pos hz]
theorem nzTo_more {l : List ByteArray} {j : Nat} (h : j < l.length) (hz : l[j] ≠ z0) : nzTo l (j + 1) = nzTo l j ++ [⟨j, h⟩] := by
  rw [nzTo, dif_pos h, if_neg hz]
theorem nzTo_step (l : List ByteArray) (j : Nat) : nzTo l j <+: nzTo l (j + 1) := by
  by_cases h : j < l.length
  · by_cases hz : l[j] = z0
    · rw [nzTo_zero h hz]; exact List.prefix_refl _
    · rw [nzTo_more h hz]; exact List.prefix_append _ _
  · rw [nzTo, dif_neg h]; exact List.prefix_refl _
theorem nzTo_le (l : List ByteArray) {j k : Nat} (h : j ≤ k) : nzTo l j <+: nzTo l k := by
  induction k with
  | zero => rw [Nat.le_zero.1 h]; exact List.prefix_refl _
  | succ k ih =>
    rcases Nat.lt_or_ge j (k + 1) with h1 | h1
    · exact (ih (by omega)).trans (nzTo_step l k)
    · rw [show j = k + 1 by omega]; exact List.prefix_refl _
theorem nzTo_len (l : List ByteArray) (j : Nat) : (nzTo l j).length ≤ j := by
  induction j with
  | zero => exact Nat.le_refl _
  | succ j ih =>
    by_cases h : j < l.length
    · by_cases hz : l[j] = z0
      · rw [nzTo_zero h hz]; omega
      · rw [nzTo_more h hz]; simp; omega
    · rw [nzTo, dif_neg h]; omega
def tEnc (l : List ByteArray) (x : Fin l.length) : Array Value := #[.int .i64 ((x.val : Nat) : Int), .string (l[x.val]'x.isLt)]
set_option maxRecDepth 100000 in
set_option maxHeartbeats 2000000 in
theorem terms_in (n : Nat) (hn : 1 ≤ n) (lp q rb : Nat) (l : List ByteArray) (k : Value) (ao : Option Addr) (c : Nat) (J Jx : List (Fin l.length) → World → Prop) (W : World)
    (hY : ∀ pre x W, J pre W → pre.length < (nz l).length → YieldAt Fence.wide (n - 1) Tryz.prog lp (tEnc l x) W fun e W' =>
      (e = .returned (.bool true) ∧ J (pre ++ [x]) W' ∧ KBlk rb W W') ∨ (e = .returned (.bool false) ∧ Jx (pre ++ [x]) W'))
    (hr : SRow W ao c l) (hb : 0 < l.length → ∀ a, ao = some a → a.block = rb) (hbig : l.length ≤ 1200000)
    (hcell : W.cell? ⟨q, 0, none⟩ = some (.slice ao l.length c)) (h0 : J [] W) :
    CallsIn Fence.wide n Tryz.prog 95 #[.func (.yield lp) #[] #[], .pointer (some ⟨q, 0, none⟩)] W fun e W' => (∃ v, e = .returned v) ∧
      ((∃ ys, ys = nz l ∧ J ys W') ∨ (∃ pre, pre <+: nz l ∧ Jx pre W')) := by
  have hget : ∀ V, KBlk rb W V → ∀ j (hj : j < l.length), ∃ b off, ao = some ⟨b, off, none⟩ ∧ V.cell? ⟨b, off + j, none⟩ = some (.string (l[j]'hj)) := fun V hV j hj => by
    obtain ⟨b, off, rfl, hlt, hc⟩ := hr.get j hj
    have hbb : b = rb := hb (by omega) _ rfl
    subst hbb
    exact ⟨b, off, rfl, (World.cell?_of_block (w := W) (a := ⟨b, off + j, none⟩) hV).trans hc⟩
  have KY := Lib.hid hY; have KG := Lib.hid hget; clear hY hget hr hb
  refine callsIn_of_wp Tryz.func95 rfl trivial ?_ rfl
  simp only [Tryz.ntmps95, List.size_toArray, List.length_cons, List.length_nil, Nat.reduceAdd, Nat.reduceSub, Array.replicate_succ, Array.replicate_zero, List.push_toArray, List.append_toArray, List.nil_append, List.cons_append]
  gi_wp2
  gi_loopw [8] (fun p wr => ∃ j : Nat, j ≤ l.length ∧ p = .int .i64 (j : Int) ∧ J (nzTo l j) wr ∧ KBlk rb W wr) (fun p _ => l.length - (intOf p).toNat)
  case atStart => exact ⟨0, Nat.zero_le _, rfl, h0, rfl⟩
  case round =>
    obtain ⟨j, hj, rfl, hJ, hk⟩ := hrel
    by_cases hlt : j < l.length
    · obtain ⟨b, off, rfl, hc⟩ := KG.out wr hk j hlt
      by_cases hz : l[j] = z0
      · have hN := nzTo_zero hlt hz
        have HN := Lib.hid hN; clear hN
        rw [hz] at hc
        have hc' : wr.cell? ⟨b, off + j, none⟩ = some (.string ⟨#[48]⟩) := hc
        clear hc hz
        gi_wp2
        refine ⟨(fun f h => by cases h), ?_⟩
        gi_wp2
        go_roundw
        case rel => exact ⟨j + 1, by omega, by go_num, by rw [HN.out]; exact hJ, hk⟩
        case measure => simp [intOf]; omega
      · have hN := nzTo_more hlt hz
        have hlen : (nzTo l j).length < (nz l).length := by
          have h1 := (nzTo_le l (show j + 1 ≤ l.length by omega)).length_le
          rw [hN] at h1
          have h2 : nz l = nzTo l l.length := rfl
          rw [h2]
          simp at h1; omega
        obtain ⟨fn, tmps, assign, body, hy, hR⟩ := KY.out (nzTo l j) ⟨j, hlt⟩ wr hJ hlen
        have hne : ((l[j]'hlt).toList == [48]) = false := eqLit _ [48] (fun e => hz (by rw [← str_bytes (l[j]'hlt), e]; rfl))
        have hne2 : ((l[j]'hlt).toList != [48]) = true := by unfold bne; rw [hne]; rfl
        have HN := Lib.hid hN; have HR := Lib.hid hR; clear hN hlen hz hR
        unfold tEnc at hy
        gi_wp2
        refine HR.out.mono ?_
        rintro e W3 (⟨rfl, hJ3, hk3⟩ | ⟨rfl, hJx3⟩)
        · have hk4 : KBlk rb W W3 := hk3.trans hk
          gi_wp2
          go_roundw
          case rel => exact ⟨j + 1, by omega, by go_num, by rw [HN.out]; exact hJ3, hk4⟩
          case measure => simp [intOf]; omega
        · gi_wp2
          refine bodyPost_ret (results_none rfl _ _ _) rfl ?_
          exact ⟨⟨_, rfl⟩, .inr ⟨nzTo l j ++ [⟨j, hlt⟩], by rw [← HN.out]; exact nzTo_le l (by omega), hJx3⟩⟩
    · have hjn : j = l.length := by omega
      subst hjn
      gi_wp2
      go_end0
      exact ⟨⟨_, rfl⟩, .inl ⟨_, rfl, hJ⟩⟩
set_option maxHeartbeats 1000000 in
theorem terms_any (ao : Option Addr) (n c : Nat) (k : ByteArray) (w : World) :
    Calls Tryz.prog 64 #[.agg #[.slice ao n c, .string k]] w fun e w' => e = .returned (.func (.func 95) #[] #[.pointer (some ⟨w.heap.size, 0, none⟩)]) ∧ w' = w.alloc (.cells #[.slice ao n c, .string k] 27) := by
  go_enter Tryz.func64, Tryz.ntmps64
  go_wp2
  go_ret
  exact ⟨rfl, rfl⟩
theorem terms_stops (n : Nat) (hn : 1 ≤ n) (q rb : Nat) (l : List ByteArray) (ao : Option Addr) (c : Nat) (w : World) (hr : SRow w ao c l) (hb : 0 < l.length → ∀ a, ao = some a → a.block = rb) (hbig : l.length ≤ 1200000) (hq : q < w.heap.size) (hc : w.cell? ⟨q, 0, none⟩ = some (.slice ao l.length c)) :
    SeqStopsK Fence.wide n Tryz.prog 95 #[.pointer (some ⟨q, 0, none⟩)] (tEnc l) (KBlk rb) (fun ys => ys = nz l) (fun pre => pre <+: nz l) (nz l).length w := fun lp J Jx W hW _ _ hY h0 =>
  terms_in n hn lp q rb l (.string ⟨#[]⟩) ao c J Jx W hY (hr.mono hW) hb hbig ((hW.cell (p := ⟨q, 0, none⟩) hq).trans hc) h0
theorem row_block {w : World} {ao : Option Addr} {c : Nat} {l : List ByteArray} (h : SRow w ao c l) : ∃ rb, (0 < l.length → ∀ a, ao = some a → a.block = rb) ∧ (rb = 0 ∨ rb < w.heap.size) := by
  rcases h.2.2 with ⟨rfl, -⟩ | ⟨b, off, rfl, hlt, -⟩
  · exact ⟨0, fun h => by simp at h, .inl rfl⟩
  · exact ⟨b, fun _ a ha => by cases ha; rfl, .inr hlt⟩
theorem keepsFrom_drew {B : Nat} {W W' : World} (h : KeepsFrom B W W') : KeepsFrom B W W'.drew := ⟨h.size, h.same⟩
attribute [local go_sem] Oper.semAt_some
def sumQ (l : List ByteArray) (k : ByteArray) (p : List ByteArray) (pre : List (Fin l.length)) : Rat := pre.foldl (fun v x => v + rv (l.getD x.val ⟨#[]⟩) * rv (p.getD x.val ⟨#[]⟩)) (rv k)
theorem sumQ_snoc (l : List ByteArray) (k : ByteArray) (p : List ByteArray) (pre : List (Fin l.length)) (x : Fin l.length) : sumQ l k p (pre ++ [x]) = sumQ l k p pre + rv (l.getD x.val ⟨#[]⟩) * rv (p.getD x.val ⟨#[]⟩) := by
  unfold sumQ; rw [List.foldl_append]; rfl
theorem keepsOthers_below {W W' : World} (h : Below W.heap.size W W') : KeepsOthers W W' := ⟨h.size, fun k o hk _ => (h.block k (Array.getElem?_eq_some_iff.1 hk).1).trans hk⟩
theorem boxed_below {W W' : World} {B : Nat} {t : TypeId} {v : Value} (h : Boxed W B t v) (hb : Below W.heap.size W W') : Boxed W' B t v := h.kept (grown_of_below hb) (by simp)
def EvI (l : List ByteArray) (k : ByteArray) (p : List ByteArray) (po : Option Addr) (pc : Nat) (w : World) (b2 : Nat) (pre : List (Fin l.length)) (W : World) : Prop :=
  Boxed W b2 22 (.string (tq (sumQ l k p pre))) ∧ Boxed W (b2 + 1) 28 (.int .i64 0) ∧ Boxed W (w.heap.size + 1) 25 (.slice po l.length pc) ∧ Boxed W (w.heap.size + 1 + 1) 22 (.string ⟨#[]⟩) ∧ Boxed W (w.heap.size + 1 + 1 + 1) 28 (.int .i64 0) ∧ Below w.heap.size w W ∧ RatS (sumQ l k p pre)
theorem evI_own (l : List ByteArray) (k : ByteArray) (p : List ByteArray) (po : Option Addr) (pc : Nat) (w : World) (b2 B : Nat) (hB : w.heap.size ≤ B) : OwnFrom B (EvI l k p po pc w b2) :=
  OwnFrom.and (Own.from (boxed_own b2 22 (fun pre => .string (tq (sumQ l k p pre)))) _) (OwnFrom.and (Own.from (boxed_own (b2 + 1) 28 (fun _ => .int .i64 0)) _) (OwnFrom.and (Own.from (boxed_own (w.heap.size + 1) 25 (fun _ => .slice po l.length pc)) _) (OwnFrom.and (Own.from (boxed_own (w.heap.size + 1 + 1) 22 (fun _ => .string ⟨#[]⟩)) _) (OwnFrom.and (Own.from (boxed_own (w.heap.size + 1 + 1 + 1) 28 (fun _ => .int .i64 0)) _) (OwnFrom.and (ownFrom_below (Nat.le_refl _) hB) (ownFrom_pure _ (fun pre => RatS (sumQ l k p pre))))))))
def EvX (l : List ByteArray) (k : ByteArray) (p : List ByteArray) (w : World) (cc : Code) (pre : List (Fin l.length)) (W : World) : Prop :=
  Boxed W (w.heap.size + 1 + 1) 22 (.string ⟨#[]⟩) ∧ Boxed W (w.heap.size + 1 + 1 + 1) 28 (.int .i64 10) ∧ Below w.heap.size w W ∧ (cc = .ret ∧ ∃ pre' x, pre = pre' ++ [x] ∧ addF (sumQ l k p pre') (rv (l.getD x.val ⟨#[]⟩) * rv (p.getD x.val ⟨#[]⟩)) = false)
theorem evX_own (l : List ByteArray) (k : ByteArray) (p : List ByteArray) (w : World) (B : Nat) (hB : w.heap.size ≤ B) (cc : Code) : OwnFrom B (EvX l k p w cc) :=
  OwnFrom.and (Own.from (boxed_own (w.heap.size + 1 + 1) 22 (fun _ => .string ⟨#[]⟩)) _) (OwnFrom.and (Own.from (boxed_own (w.heap.size + 1 + 1 + 1) 28 (fun _ => .int .i64 10)) _) (OwnFrom.and (ownFrom_below (Nat.le_refl _) hB) (ownFrom_pure _ (fun pre => cc = .ret ∧ ∃ pre' x, pre = pre' ++ [x] ∧ addF (sumQ l k p pre') (rv (l.getD x.val ⟨#[]⟩) * rv (p.getD x.val ⟨#[]⟩)) = false))))
def evAct (l : List ByteArray) (k : ByteArray) (ao : Option Addr) (c : Nat) (po : Option Addr) (pc : Nat) (b0 b2 b3 : Nat) (x : Fin l.length) : Act := { tmps := #[.agg #[.slice ao l.length c, .string k], .slice po l.length pc, .pointer (some ⟨b0, 0, none⟩), .pointer (some ⟨b0 + 1, 0, none⟩), .pointer (some ⟨b0 + 1 + 1, 0, none⟩), .pointer (some ⟨b0 + 1 + 1 + 1, 0, none⟩), .int .i64 0, .int .i64 0, .pointer (some ⟨b2, 0, none⟩), .pointer (some ⟨b2 + 1, 0, none⟩), .int .i64 ((x.val : Nat) : Int), .string (l[x.val]'x.isLt), undef, undef,
      .agg #[.slice ao l.length c, .string k], .int .i64 0, .int .i64 0, .bool false, undef, .slice po l.length pc, .int .i64 (l.length : Nat), .pointer (some ⟨b0, 0, none⟩), .slice ao l.length c, .int .i64 (l.length : Nat), .bool false, .slice po l.length pc, .int .i64 0, .int .i64 0, .bool false, undef, .pointer (some ⟨b0, 1, none⟩), .string k,
      .agg #[.slice ao l.length c, .string k], .func (.func 95) #[] #[.pointer (some ⟨b3, 0, none⟩)], .int .i64 ((x.val : Nat) : Int), .string (l[x.val]'x.isLt), undef, undef, undef, undef, undef, undef, undef, undef, undef, undef, undef, undef, undef, undef, undef, undef, undef, undef, undef, undef, undef, undef], defers := [] }
theorem fits_szk {z : Int} {k : Nat} (h : (Lib.decDigits z.natAbs).length ≤ k) : Sz k z := dec_pow h
theorem addF_rats {p q : Rat} (h : addF p q = true) : RatS (p + q) := by
  unfold addF at h
  rw [Bool.and_eq_true, Bool.and_eq_true, Bool.and_eq_true, decide_eq_true_eq, decide_eq_true_eq, decide_eq_true_eq, decide_eq_true_eq] at h
  obtain ⟨⟨-, h3⟩, h4⟩ := h
  have q1 := fits_szk (Nat.le_of_not_lt h3)
  have q2 := fits_szk (Nat.le_of_not_lt h4)
  have := RZ.divInt q1 q2 (den_mul_ne p q)
  rw [divInt_add] at this
  exact this.rs (Nat.le_refl _)
structure EvB (w W : World) (ao : Option Addr) (n c : Nat) (k : ByteArray) (po : Option Addr) (pc : Nat) : Prop where
  x : Bx2 W w.heap.size (.slice ao n c) (.string k)
  p : Boxed W (w.heap.size + 1) 25 (.slice po n pc)
  r : Boxed W (w.heap.size + 1 + 1) 22 (.string ⟨#[]⟩)
  e : Boxed W (w.heap.size + 1 + 1 + 1) 28 (.int .i64 0)
  b : Below w.heap.size w W
theorem EvB.mono {w W W' : World} {ao : Option Addr} {n c : Nat} {k : ByteArray} {po : Option Addr} {pc : Nat} (h : EvB w W ao n c k po pc) (g : Below W.heap.size W W') : EvB w W' ao n c k po pc :=
  ⟨h.x.mono g, boxed_below h.p g, boxed_below h.r g, boxed_below h.e g, Below.chain h.b g⟩
theorem EvB.new (w : World) (ao : Option Addr) (n c : Nat) (k : ByteArray) (po : Option Addr) (pc : Nat) :
    EvB w ((((w.alloc (Obj.cells #[.slice ao n c, .string k] 27)).alloc (Obj.cells #[.slice po n pc] 25)).alloc (Obj.cells #[.string ⟨#[]⟩] 22)).alloc (Obj.cells #[.int .i64 0] 28)) ao n c k po pc := by
  have h1 := Bx2.new w (.slice ao n c) (.string k) 27
  have h2 := Boxed.new (w.alloc (Obj.cells #[.slice ao n c, .string k] 27)) 25 (.slice po n pc)
  have h3 := Boxed.new ((w.alloc (Obj.cells #[.slice ao n c, .string k] 27)).alloc (Obj.cells #[.slice po n pc] 25)) 22 (.string ⟨#[]⟩)
  have h4 := Boxed.new (((w.alloc (Obj.cells #[.slice ao n c, .string k] 27)).alloc (Obj.cells #[.slice po n pc] 25)).alloc (Obj.cells #[.string ⟨#[]⟩] 22)) 28 (.int .i64 0)
  simp only [World.size_alloc] at h2 h3 h4
  exact ⟨((h1.over _).over _).over _, (h2.alloc _).alloc _, h3.alloc _, h4, ((((Below.refl _ _).alloc (Nat.le_refl _) _).alloc (by simp) _).alloc (by simp; omega) _).alloc (by simp; omega) _⟩
set_option maxRecDepth 100000 in
set_option maxHeartbeats 4000000 in
theorem linEval_good (l : List ByteArray) (k : ByteArray) (ao : Option Addr) (c : Nat) (p : List ByteArray) (po : Option Addr) (pc : Nat) (w : World) (hr : SRow w ao c l) (hz : ∀ s ∈ l ++ [k], s.size ≤ 1200000) (hn : l.length ≤ 1200000) (hp : SRow w po pc p) (hzp : ∀ s ∈ p, s.size ≤ 1200000)
    (h0 : linE l k = 0) (hlen : l.length = p.length) (h1 : firstE p = 0) (gp : ∀ s ∈ p, Good 100 s) (htab : Lib.TabIs Tryz.prog w "internal/strconv.uint64pow10" .u64 Lib.pow10Tab)
    (v : Value) (hbad : ∀ pre x, pre ++ [x] <+: nz l → addF (sumQ l k p pre) (rv (l.getD x.val ⟨#[]⟩) * rv (p.getD x.val ⟨#[]⟩)) = false → v = .tuple #[.string ⟨#[]⟩, .int .i64 10])
    (hgood : v = if shortQ (sumQ l k p (nz l)) = true then .tuple #[.string (tq (sumQ l k p (nz l))), .int .i64 0] else .tuple #[.string ⟨#[]⟩, .int .i64 10]) :
    Calls Tryz.prog 32 #[.agg #[.slice ao l.length c, .string k], .slice po l.length pc] w (Bret v w) := by
  have hT := Lib.tabBelow_of_tabIs htab
  have CH := fun (W : World) (hW : Below w.heap.size w W) => linCheck l k ao c W (hr.mono hW) hz hn (hT.on hW).here
  obtain ⟨hl, hg⟩ := linE_zero h0
  have CP := fun (W : World) (hW : Below w.heap.size w W) => checkNumbersL p po pc W (hp.mono hW) hzp (by omega) (hT.on hW).here
  rw [h0] at CH
  rw [h1, ← hlen] at CP
  obtain ⟨rb, hrb, hrbl⟩ := row_block hr
  have KH := Lib.hid CH; have KP := Lib.hid CP; have HR := Lib.hid hr; have HRB := Lib.hid hrb; have HRL := Lib.hid hrbl; have HBAD := Lib.hid hbad; have HGOOD := Lib.hid hgood; have HLEN := Lib.hid hlen; have HT := Lib.hid hT; have HG := Lib.hid hg; have GP := Lib.hid gp; have HP := Lib.hid hp
  clear CH CP hr hz hT htab h0 hrb hrbl hbad hgood hlen h1 hzp gp hg hp
  refine (callsIn_wide (n := 3)).1 ?_
  have CM : ∀ (x : Fin l.length) (W : World), Below w.heap.size w W → Calls Tryz.prog 40 #[.string (l[x.val]'x.isLt), .string (p.getD x.val ⟨#[]⟩)] W (Bret (.tuple #[.string (mulT (l.getD x.val ⟨#[]⟩) (p.getD x.val ⟨#[]⟩)), .int .i64 0]) W) := fun x W hW => by
    rw [getD_get l x.isLt]
    have hxp : x.val < p.length := by rw [← HLEN.out]; exact x.isLt
    rw [getD_get p hxp]
    exact rmulG (HG.out _ (List.mem_append_left _ (List.getElem_mem x.isLt))) (GP.out _ (List.getElem_mem hxp)) (by decide) W (HT.out.on hW).here
  have CA : ∀ (pre : List (Fin l.length)) (x : Fin l.length) (W : World), Below w.heap.size w W → RatS (sumQ l k p pre) → Calls Tryz.prog 70 #[.string (tq (sumQ l k p pre)), .string (mulT (l.getD x.val ⟨#[]⟩) (p.getD x.val ⟨#[]⟩))] W (Bret (opQ (addF (sumQ l k p pre) (rv (l.getD x.val ⟨#[]⟩) * rv (p.getD x.val ⟨#[]⟩))) (sumQ l k p (pre ++ [x]))) W) := fun pre x W hW hs => by
    have hxp : x.val < p.length := by rw [← HLEN.out]; exact x.isLt
    have gm := (HG.out _ (List.mem_append_left [k] (List.getElem_mem x.isLt))).mul (GP.out _ (List.getElem_mem hxp))
    rw [← getD_get l x.isLt, ← getD_get p hxp] at gm
    have h1 : RStr (tq (sumQ l k p pre)) (sumQ l k p pre) := RStr.of hs
    have h2 := gm.rstr (by decide)
    rw [rv_mul] at h2
    have := ratAdd (tq (sumQ l k p pre)) (mulT (l.getD x.val ⟨#[]⟩) (p.getD x.val ⟨#[]⟩)) W (by have := h1.size; omega) (by have := h2.size; omega) (HT.out.on hW).here
    rw [ratR2_at addQ h1 h2] at this
    rw [sumQ_snoc]
    exact this
  have hfits : ∀ (pre : List (Fin l.length)) (x : Fin l.length), addF (sumQ l k p pre) (rv (l.getD x.val ⟨#[]⟩) * rv (p.getD x.val ⟨#[]⟩)) = true → RatS (sumQ l k p (pre ++ [x])) := fun pre x h => by
    rw [sumQ_snoc]; exact addF_rats h
  have KM := Lib.hid CM; have KA := Lib.hid CA; have HF := Lib.hid hfits; clear CM CA hfits
  have hk1 : tq (sumQ l k p []) = k := (HG.out k (by simp)).lit
  have HK1 := Lib.hid hk1; clear hk1
  have hk0 : RatS (sumQ l k p []) := (HG.out k (by simp)).rz.rs (by decide)
  have HK0 := Lib.hid hk0; clear hk0
  refine callsIn_of_wp_marks Tryz.func32 rfl trivial ?_ rfl
  simp only [Tryz.ntmps32, List.size_toArray, List.length_cons, List.length_nil, Nat.reduceAdd, Nat.reduceSub, Array.replicate_succ, Array.replicate_zero, List.push_toArray, List.append_toArray, List.nil_append, List.cons_append]
  have V0 := EvB.new w ao l.length c k po pc
  gi_wp2_with fail
  generalize (((w.alloc (Obj.cells #[.slice ao l.length c, .string k] 27)).alloc (Obj.cells #[.slice po l.length pc] 25)).alloc (Obj.cells #[.string ⟨#[]⟩] 22)).alloc (Obj.cells #[.int .i64 0] 28) = W0 at *
  refine ⟨trivial, (callsIn_wide.2 (KH.out _ V0.b)).mono ?_⟩
  rintro e w1 ⟨rfl, hb1⟩
  have V1 := V0.mono hb1
  have x0 := V1.x.c0; have x1 := V1.x.c1; have xl := V1.x.lt; have p0 := V1.p.cell; have pl := V1.p.lt
  clear hb1 V0
  gi_wp2_with fail
  refine ⟨trivial, (callsIn_wide.2 (KP.out _ V1.b)).mono ?_⟩
  rintro e w2 ⟨rfl, hb2⟩
  have V2 := V1.mono hb2
  clear x0 x1 xl p0 pl hb2 V1
  have x0 := V2.x.c0; have x1 := V2.x.c1; have xl := V2.x.lt
  have bV : Boxed ((w2.alloc (Obj.cells #[.string k] 22)).alloc (Obj.cells #[.int .i64 0] 28)) w2.heap.size 22 (.string k) := (Boxed.new w2 _ _).alloc _
  have bE : Boxed ((w2.alloc (Obj.cells #[.string k] 22)).alloc (Obj.cells #[.int .i64 0] 28)) (w2.heap.size + 1) 28 (.int .i64 0) := by
    have := Boxed.new (w2.alloc (Obj.cells #[.string k] 22)) 28 (.int .i64 0)
    rwa [World.size_alloc] at this
  have V3 := V2.mono (((Below.refl w2.heap.size w2).alloc (Nat.le_refl _) (Obj.cells #[.string k] 22)).alloc (by simp) (Obj.cells #[.int .i64 0] 28))
  have hs3 : ((w2.alloc (Obj.cells #[.string k] 22)).alloc (Obj.cells #[.int .i64 0] 28)).heap.size = w2.heap.size + 1 + 1 := by simp
  gi_wp2_with fail
  generalize hW3 : (w2.alloc (Obj.cells #[.string k] 22)).alloc (Obj.cells #[.int .i64 0] 28) = W3 at *
  clear hW3
  have HS3 := Lib.hid hs3; clear hs3
  refine ⟨trivial, (callsIn_wide.2 (terms_any ao l.length c k W3)).mono ?_⟩
  rintro e w' ⟨rfl, rfl⟩
  gi_wp2_with fail
  have A4 : Below W3.heap.size W3 (W3.alloc (Obj.cells #[.slice ao l.length c, .string k] 27)) := (Below.refl _ _).alloc (Nat.le_refl _) _
  have V4 := V3.mono A4
  have bV4 := boxed_below bV A4; have bE4 := boxed_below bE A4
  have hqc : (W3.alloc (Obj.cells #[.slice ao l.length c, .string k] 27)).cell? ⟨W3.heap.size, 0, none⟩ = some (.slice ao l.length c) := by go_cell
  have hqs : W3.heap.size < (W3.alloc (Obj.cells #[.slice ao l.length c, .string k] 27)).heap.size := by simp
  generalize W3.alloc (Obj.cells #[.slice ao l.length c, .string k] 27) = W4 at *
  have hs2 : w.heap.size + 1 + 1 + 1 < w2.heap.size := V2.e.lt
  refine wpIn_rangeFunc_ownG rfl (by omega) (gf := 95) (lb := #[.pointer (some ⟨W3.heap.size, 0, none⟩)]) (by simp [Act.eval]) trivial (enters_of Tryz.func95 (by kernel_rfl) rfl)
    (terms_stops 2 (by omega) W3.heap.size rb l ao c W4 (HR.out.mono V4.b) HRB.out hn hqs hqc) (fun {A B C} h k => k.trans h) ?hKb (Below.refl _ _) (fun _ => rfl)
    (EvI l k p po pc w w2.heap.size) (EvX l k p w) (evI_own l k p po pc w w2.heap.size _ (by have := V4.b.size; omega)) (evX_own l k p w _ (by have := V4.b.size; omega))
    ⟨by rw [HK1.out]; exact bV4, bE4, V4.p, V4.r, V4.e, V4.b, HK0.out⟩
    (fun x => evAct l k ao c po pc w.heap.size w2.heap.size W3.heap.size x) ?assign ?body ?done ?stop
  case hKb =>
    intro W lp o o' hl _ _ _
    have := HRL.out
    have := V4.b.size
    exact World.putObj_heap_other (by omega)
  case assign =>
    intro lp x W K hK
    unfold tEnc
    unfold evAct at hK
    gi_wp2
    exact hK
  case body =>
    rintro lp pre x W ⟨hv, he, hpb, hrb, heb, hB, hrs⟩ hlt
    have hxp : x.val < p.length := by rw [← HLEN.out]; exact x.isLt
    obtain ⟨bp, op, rfl, hbp, hcp⟩ := (HP.out.mono hB).get x.val hxp
    rw [← getD_get p hxp] at hcp
    have hpc := hpb.cell; have hpl := hpb.lt
    have hx0 : (0 : Int) ≤ ((x.val : Nat) : Int) := by omega
    have hx1 : ((x.val : Nat) : Int) < ((l.length : Nat) : Int) := by have := x.isLt; omega
    have CMx := KM.out x W hB
    have CA0 : addF (sumQ l k p pre) (rv (l.getD x.val ⟨#[]⟩) * rv (p.getD x.val ⟨#[]⟩)) = false → ∀ W', Below w.heap.size w W' → Calls Tryz.prog 70 #[.string (tq (sumQ l k p pre)), .string (mulT (l.getD x.val ⟨#[]⟩) (p.getD x.val ⟨#[]⟩))] W' (Bret (.tuple #[.string ⟨#[]⟩, .int .i64 10]) W') := fun ha W' hW' => by
      have := KA.out pre x W' hW' hrs; rw [ha] at this; exact this
    have CA1 : addF (sumQ l k p pre) (rv (l.getD x.val ⟨#[]⟩) * rv (p.getD x.val ⟨#[]⟩)) = true → ∀ W', Below w.heap.size w W' → Calls Tryz.prog 70 #[.string (tq (sumQ l k p pre)), .string (mulT (l.getD x.val ⟨#[]⟩) (p.getD x.val ⟨#[]⟩))] W' (Bret (.tuple #[.string (tq (sumQ l k p (pre ++ [x]))), .int .i64 0]) W') := fun ha W' hW' => by
      have := KA.out pre x W' hW' hrs; rw [ha] at this; exact this
    have hfx := HF.out pre x
    have hEx : ∀ (W' : World), Boxed W' (w.heap.size + 1 + 1) 22 (.string ⟨#[]⟩) → Boxed W' (w.heap.size + 1 + 1 + 1) 28 (.int .i64 10) → Below w.heap.size w W' → addF (sumQ l k p pre) (rv (l.getD x.val ⟨#[]⟩) * rv (p.getD x.val ⟨#[]⟩)) = false → EvX l k p w .ret (pre ++ [x]) W' := fun W' h1 h2 h3 h4 => ⟨h1, h2, h3, rfl, pre, x, rfl, h4⟩
    generalize addF (sumQ l k p pre) (rv (l.getD x.val ⟨#[]⟩) * rv (p.getD x.val ⟨#[]⟩)) = af at *
    generalize mulT (l.getD x.val ⟨#[]⟩) (p.getD x.val ⟨#[]⟩) = my at *
    generalize p.getD x.val ⟨#[]⟩ = y at *
    have hI : RatS (sumQ l k p (pre ++ [x])) → ∀ W', Boxed W' w2.heap.size 22 (.string (tq (sumQ l k p (pre ++ [x])))) → Boxed W' (w2.heap.size + 1) 28 (.int .i64 0) → Boxed W' (w.heap.size + 1) 25 (.slice (some ⟨bp, op, none⟩) l.length pc) → Boxed W' (w.heap.size + 1 + 1) 22 (.string ⟨#[]⟩) → Boxed W' (w.heap.size + 1 + 1 + 1) 28 (.int .i64 0) → Below w.heap.size w W' → EvI l k p (some ⟨bp, op, none⟩) pc w w2.heap.size (pre ++ [x]) W' := fun h0 W' h1 h2 h3 h4 h5 h6 => ⟨h1, h2, h3, h4, h5, h6, h0⟩
    generalize tq (sumQ l k p (pre ++ [x])) = nt at *
    generalize tq (sumQ l k p pre) = ot at *
    have KMx := Lib.hid CMx; have HFX := Lib.hid hfx; have HEX := Lib.hid hEx; have HI := Lib.hid hI; have HC0 := Lib.hid CA0; have HC1 := Lib.hid CA1
    clear CMx CA0 CA1 hfx hEx hI hrs
    have hKW : ∀ W', Below W.heap.size W W' → KBlk rb W W' := fun W' h => h.block rb (by have := HRL.out; have := hB.size; have := hv.lt; omega)
    have HKW := Lib.hid hKW; clear hKW
    unfold evAct
    gi_wp2_with fail
    refine ⟨trivial, (CallsIn.inRound _ (callsIn_wide.2 KMx.out)).mono ?_⟩
    rintro e w3 ⟨rfl, hb3⟩
    have hv3 := boxed_below hv hb3; have he3 := boxed_below he hb3; have hpb3 := boxed_below hpb hb3; have hrb3 := boxed_below hrb hb3; have heb3 := boxed_below heb hb3; have hB3 := Below.chain hB hb3
    clear hpc hpl hcp
    have hc := hv3.cell; have hvl := hv3.lt
    gi_wp2_with fail
    cases af
    · have KAx := Lib.hid (HC0.out rfl)
      clear HC0 HC1
      refine ⟨trivial, (CallsIn.inRound _ (callsIn_wide.2 (KAx.out _ hB3))).mono ?_⟩
      rintro e w4 ⟨rfl, hb4⟩
      have hv4 := boxed_below hv3 hb4; have he4 := boxed_below he3 hb4; have hrb4 := boxed_below hrb3 hb4; have heb4 := boxed_below heb3 hb4; have hB4 := Below.chain hB3 hb4
      have hW4 := Below.chain hb3 hb4
      have HKF := Lib.hid ((keepsOthers_below hW4).from W4.heap.size)
      have a0 := hv4.cell; have a1 := hv4.frozen; have a2 := hv4.lt; have b0 := he4.cell; have b1 := he4.frozen; have b2 := he4.lt
      have c0 := hrb4.cell; have c1 := hrb4.frozen; have c2 := hrb4.lt; have d0 := heb4.cell; have d1 := heb4.frozen; have d2 := heb4.lt
      clear hc hvl
      gi_wp2_with fail
      have v5 := (hrb4.other (B' := w2.heap.size) (by omega) (.string ⟨#[]⟩)).other (B' := w2.heap.size + 1) (by omega) (.int .i64 10)
      have e5 := (heb4.other (B' := w2.heap.size) (by omega) (.string ⟨#[]⟩)).other (B' := w2.heap.size + 1) (by omega) (.int .i64 10)
      have r6 := (v5.set (.string ⟨#[]⟩)).other (B' := w.heap.size + 1 + 1 + 1) (by omega) (.int .i64 10)
      have e6 := (e5.other (B' := w.heap.size + 1 + 1) (by omega) (.string ⟨#[]⟩)).set (.int .i64 10)
      have b6 := (((hB4.setCell (p := ⟨w2.heap.size, 0, none⟩) (by show w.heap.size ≤ w2.heap.size; omega) (.string ⟨#[]⟩)).setCell (p := ⟨w2.heap.size + 1, 0, none⟩) (by show w.heap.size ≤ w2.heap.size + 1; omega) (.int .i64 10)).setCell (p := ⟨w.heap.size + 1 + 1, 0, none⟩) (by show w.heap.size ≤ w.heap.size + 1 + 1; omega) (.string ⟨#[]⟩)).setCell (p := ⟨w.heap.size + 1 + 1 + 1, 0, none⟩) (by show w.heap.size ≤ w.heap.size + 1 + 1 + 1; omega) (.int .i64 10)
      have k6 := (((HKF.out.trans ((KeepsOthers.setCell w4 ⟨w2.heap.size, 0, none⟩ (.string ⟨#[]⟩)).from _)).trans ((KeepsOthers.setCell _ ⟨w2.heap.size + 1, 0, none⟩ (.int .i64 10)).from _)).trans ((KeepsOthers.setCell _ ⟨w.heap.size + 1 + 1, 0, none⟩ (.string ⟨#[]⟩)).from _)).trans ((KeepsOthers.setCell _ ⟨w.heap.size + 1 + 1 + 1, 0, none⟩ (.int .i64 10)).from _)
      have R6 := Lib.hid r6; have E6 := Lib.hid e6; have BB6 := Lib.hid b6; have KK6 := Lib.hid k6
      clear v5 e5 r6 e6 b6 k6
      gi_region
      all_goals
        gi_wp2
        refine ⟨keepsFrom_drew KK6.out, HEX.out _ R6.out E6.out BB6.out.drew (by simp)⟩
    · have KAx := Lib.hid (HC1.out rfl)
      clear HC0 HC1
      refine ⟨trivial, (CallsIn.inRound _ (callsIn_wide.2 (KAx.out _ hB3))).mono ?_⟩
      rintro e w4 ⟨rfl, hb4⟩
      have hv4 := boxed_below hv3 hb4; have he4 := boxed_below he3 hb4; have hpb4 := boxed_below hpb3 hb4; have hrb4 := boxed_below hrb3 hb4; have heb4 := boxed_below heb3 hb4; have hB4 := Below.chain hB3 hb4
      have hW4 := Below.chain hb3 hb4
      have HKF := Lib.hid ((keepsOthers_below hW4).from W4.heap.size); have HKB := Lib.hid (HKW.out _ hW4)
      have a0 := hv4.cell; have a1 := hv4.frozen; have a2 := hv4.lt; have b0 := he4.cell; have b1 := he4.frozen; have b2 := he4.lt
      clear hc hvl
      gi_wp2_with fail
      have hm : w2.heap.size ≠ w2.heap.size + 1 := by omega
      have hv5 := (hv4.set (.string nt)).other (B' := w2.heap.size + 1) (by omega) (.int .i64 0)
      have he5 := (he4.other (B' := w2.heap.size) (by omega) (.string nt)).set (.int .i64 0)
      have hpb5 := (hpb4.other (B' := w2.heap.size) (by omega) (.string nt)).other (B' := w2.heap.size + 1) (by omega) (.int .i64 0)
      have hrb5 := (hrb4.other (B' := w2.heap.size) (by omega) (.string nt)).other (B' := w2.heap.size + 1) (by omega) (.int .i64 0)
      have heb5 := (heb4.other (B' := w2.heap.size) (by omega) (.string nt)).other (B' := w2.heap.size + 1) (by omega) (.int .i64 0)
      refine ⟨((HKF.out.trans ((KeepsOthers.setCell w4 ⟨w2.heap.size, 0, none⟩ (.string nt)).from _)).trans ((KeepsOthers.setCell _ ⟨w2.heap.size + 1, 0, none⟩ (.int .i64 0)).from _)), ?_, HI.out (HFX.out (by simp)) _ hv5 he5 hpb5 hrb5 heb5 ((hB4.setCell (p := ⟨w2.heap.size, 0, none⟩) (by show w.heap.size ≤ w2.heap.size; omega) _).setCell (p := ⟨w2.heap.size + 1, 0, none⟩) (by show w.heap.size ≤ w2.heap.size + 1; omega) _)⟩
      have hrl := HRL.out
      exact ((Below.heap_setCell _ ⟨w2.heap.size + 1, 0, none⟩ _ rb (by show rb ≠ w2.heap.size + 1; omega)).trans (Below.heap_setCell _ ⟨w2.heap.size, 0, none⟩ _ rb (by show rb ≠ w2.heap.size; omega))).trans HKB.out
  case done =>
    rintro D ys W hD rfl ⟨hv, he, hpb, hrb, heb, hB, hrs⟩ hK
    have hc := hv.cell
    have hvl := hv.lt
    have hsz := (RStr.of hrs).size
    have CI := isShortN (tq (sumQ l k p (nz l))) W (by show (str (ratL (sumQ l k p (nz l)))).size ≤ _; omega)
    rw [show shortN (bytes (tq (sumQ l k p (nz l)))) = shortQ (sumQ l k p (nz l)) by unfold tq; rw [bytes_str, shortN_rat]] at CI
    have hg := HGOOD.out
    have hDn : ∀ b, b < w2.heap.size → b ≠ D := fun b hb => by have := HS3.out; omega
    have HDN := Lib.hid hDn; clear hDn
    generalize shortQ (sumQ l k p (nz l)) = sq at *
    generalize tq (sumQ l k p (nz l)) = nt at *
    cases sq
    · rw [if_neg (by decide)] at hg
      subst hg
      have KI := Lib.hid CI; clear CI
      gi_wp2_with fail
      refine ⟨trivial, (callsIn_wide.2 KI.out).mono ?_⟩
      rintro e w5 ⟨rfl, hb5⟩
      have hrb5 := boxed_below hrb hb5; have heb5 := boxed_below heb hb5; have hB5 := Below.chain hB hb5
      have hK5 : w5.heap[D]? = some (.deferred (some [])) := (hb5.block D (Array.getElem?_eq_some_iff.1 hK).1).trans hK
      have c0 := hrb5.cell; have c1 := hrb5.frozen; have c2 := hrb5.lt; have d0 := heb5.cell; have d1 := heb5.frozen; have d2 := heb5.lt
      clear hc hvl
      gi_wp2
      have r6 := (hrb5.set (.string ⟨#[]⟩)).other (B' := w.heap.size + 1 + 1 + 1) (by omega) (.int .i64 10)
      have e6 := (heb5.other (B' := w.heap.size + 1 + 1) (by omega) (.string ⟨#[]⟩)).set (.int .i64 10)
      have b6 := (hB5.setCell (p := ⟨w.heap.size + 1 + 1, 0, none⟩) (by show w.heap.size ≤ w.heap.size + 1 + 1; omega) (.string ⟨#[]⟩)).setCell (p := ⟨w.heap.size + 1 + 1 + 1, 0, none⟩) (by show w.heap.size ≤ w.heap.size + 1 + 1 + 1; omega) (.int .i64 10)
      have hK6 : ((w5.setCell ⟨w.heap.size + 1 + 1, 0, none⟩ (.string ⟨#[]⟩)).setCell ⟨w.heap.size + 1 + 1 + 1, 0, none⟩ (.int .i64 10)).heap[D]? = some (.deferred (some [])) :=
        ((Below.heap_setCell _ ⟨w.heap.size + 1 + 1 + 1, 0, none⟩ _ D (fun e => HDN.out (w.heap.size + 1 + 1 + 1) (by omega) e.symm)).trans (Below.heap_setCell _ ⟨w.heap.size + 1 + 1, 0, none⟩ _ D (fun e => HDN.out (w.heap.size + 1 + 1) (by omega) e.symm))).trans hK5
      generalize (w5.setCell ⟨w.heap.size + 1 + 1, 0, none⟩ (.string ⟨#[]⟩)).setCell ⟨w.heap.size + 1 + 1 + 1, 0, none⟩ (.int .i64 10) = W6 at *
      refine ⟨by simp, .inl ⟨_, _, rfl, run_takeDeferred hK6, ?_⟩⟩
      have c3 : (W6.putObj D (.deferred none)).cell? ⟨w.heap.size + 1 + 1, 0, none⟩ = some (.string ⟨#[]⟩) := by
        rw [World.cell?_of_block (w := W6) (a := ⟨w.heap.size + 1 + 1, 0, none⟩) (World.putObj_heap_other (HDN.out _ (by simp; omega)))]; exact r6.cell
      have d3 : (W6.putObj D (.deferred none)).cell? ⟨w.heap.size + 1 + 1 + 1, 0, none⟩ = some (.int .i64 10) := by
        rw [World.cell?_of_block (w := W6) (a := ⟨w.heap.size + 1 + 1 + 1, 0, none⟩) (World.putObj_heap_other (HDN.out _ (by simp; omega)))]; exact e6.cell
      refine ⟨.tuple #[(.string ⟨#[]⟩), (.int .i64 10)], by simp [results, Tryz.results32, go_sem, c3, d3], rfl, ?_⟩
      exact b6.trans (belowK_b (w := w) (Nat.le_refl _) _ D _ _ (by have := V4.b.size; omega) hK6 rfl rfl)
    · rw [if_pos rfl] at hg
      subst hg
      have KI := Lib.hid CI; clear CI
      gi_wp2_with fail
      refine ⟨trivial, (callsIn_wide.2 KI.out).mono ?_⟩
      rintro e w5 ⟨rfl, hb5⟩
      have hv5 := boxed_below hv hb5; have hrb5 := boxed_below hrb hb5; have heb5 := boxed_below heb hb5; have hB5 := Below.chain hB hb5
      have hK5 : w5.heap[D]? = some (.deferred (some [])) := (hb5.block D (Array.getElem?_eq_some_iff.1 hK).1).trans hK
      have a0 := hv5.cell; have a2 := hv5.lt
      have c0 := hrb5.cell; have c1 := hrb5.frozen; have c2 := hrb5.lt; have d0 := heb5.cell; have d1 := heb5.frozen; have d2 := heb5.lt
      clear hc hvl
      gi_wp2
      have r6 := (hrb5.set (.string nt)).other (B' := w.heap.size + 1 + 1 + 1) (by omega) (.int .i64 0)
      have e6 := (heb5.other (B' := w.heap.size + 1 + 1) (by omega) (.string nt)).set (.int .i64 0)
      have b6 := (hB5.setCell (p := ⟨w.heap.size + 1 + 1, 0, none⟩) (by show w.heap.size ≤ w.heap.size + 1 + 1; omega) (.string nt)).setCell (p := ⟨w.heap.size + 1 + 1 + 1, 0, none⟩) (by show w.heap.size ≤ w.heap.size + 1 + 1 + 1; omega) (.int .i64 0)
      have hK6 : ((w5.setCell ⟨w.heap.size + 1 + 1, 0, none⟩ (.string nt)).setCell ⟨w.heap.size + 1 + 1 + 1, 0, none⟩ (.int .i64 0)).heap[D]? = some (.deferred (some [])) :=
        ((Below.heap_setCell _ ⟨w.heap.size + 1 + 1 + 1, 0, none⟩ _ D (fun e => HDN.out (w.heap.size + 1 + 1 + 1) (by omega) e.symm)).trans (Below.heap_setCell _ ⟨w.heap.size + 1 + 1, 0, none⟩ _ D (fun e => HDN.out (w.heap.size + 1 + 1) (by omega) e.symm))).trans hK5
      generalize (w5.setCell ⟨w.heap.size + 1 + 1, 0, none⟩ (.string nt)).setCell ⟨w.heap.size + 1 + 1 + 1, 0, none⟩ (.int .i64 0) = W6 at *
      refine ⟨by simp, .inl ⟨_, _, rfl, run_takeDeferred hK6, ?_⟩⟩
      have c3 : (W6.putObj D (.deferred none)).cell? ⟨w.heap.size + 1 + 1, 0, none⟩ = some (.string nt) := by
        rw [World.cell?_of_block (w := W6) (a := ⟨w.heap.size + 1 + 1, 0, none⟩) (World.putObj_heap_other (HDN.out _ (by simp; omega)))]; exact r6.cell
      have d3 : (W6.putObj D (.deferred none)).cell? ⟨w.heap.size + 1 + 1 + 1, 0, none⟩ = some (.int .i64 0) := by
        rw [World.cell?_of_block (w := W6) (a := ⟨w.heap.size + 1 + 1 + 1, 0, none⟩) (World.putObj_heap_other (HDN.out _ (by simp; omega)))]; exact e6.cell
      refine ⟨.tuple #[(.string nt), (.int .i64 0)], by simp [results, Tryz.results32, go_sem, c3, d3], rfl, ?_⟩
      exact b6.trans (belowK_b (w := w) (Nat.le_refl _) _ D _ _ (by have := V4.b.size; omega) hK6 rfl rfl)
  case stop =>
    rintro D c pre W hD hpre ⟨hrb, heb, hB, rfl, pre', x, rfl, hadd⟩ hK
    have hv := HBAD.out pre' x hpre hadd
    subst hv
    gi_wp2
    have c0 := hrb.cell; have d0 := heb.cell
    have hDn : ∀ b, b < w2.heap.size → b ≠ D := fun b hb => by have := HS3.out; omega
    refine ⟨by simp, .inl ⟨_, _, rfl, run_takeDeferred hK, ?_⟩⟩
    have c3 : (W.putObj D (.deferred none)).cell? ⟨w.heap.size + 1 + 1, 0, none⟩ = some (.string ⟨#[]⟩) := by
      rw [World.cell?_of_block (w := W) (a := ⟨w.heap.size + 1 + 1, 0, none⟩) (World.putObj_heap_other (hDn _ (by simp; omega)))]; exact c0
    have d3 : (W.putObj D (.deferred none)).cell? ⟨w.heap.size + 1 + 1 + 1, 0, none⟩ = some (.int .i64 10) := by
      rw [World.cell?_of_block (w := W) (a := ⟨w.heap.size + 1 + 1 + 1, 0, none⟩) (World.putObj_heap_other (hDn _ (by simp; omega)))]; exact d0
    refine ⟨.tuple #[.string ⟨#[]⟩, .int .i64 10], by simp [results, Tryz.results32, go_sem, c3, d3], rfl, ?_⟩
    exact hB.trans (belowK_b (w := w) (Nat.le_refl _) _ D _ _ (by have := V4.b.size; omega) hK rfl rfl)
end Go.Proofs.YtjobmkdaaionlaaGreatDoor

namespace Go.Proofs.YtjobmkdaaionlaaGreatDoor
open Go Go.Proofs Go.RowKit
theorem rowsIn_wide' {n : Nat} {P : Program} {row : String} {args : Array Value} {w : World} {R : Value → World → Prop} (h : Rows P row args w R) : RowsIn Fence.wide n P row args w R := fun c cs _ => by
  obtain ⟨v, w', r, s⟩ := h c cs
  exact ⟨v, w', r, stepsIn_wide.2 s⟩
theorem uponIn_of_upon {l n : Nat} {P : Program} {o : Oper} {a : Act} {K : Act → World → Prop} {Q : Exit → Act → World → Prop} {r : Result Next} (h : o.upon P a K Q r) : o.uponIn (Fence.wide.inRound l) n P a K Q r := by
  cases r with
  | ok x w' =>
    cases x with
    | value v => exact h
    | skip => exact h
    | defer d => exact h
    | enter f args => exact ⟨(fun h => by cases h), CallsIn.inRound l (callsIn_wide.2 h)⟩
    | row row args => exact ⟨(fun h => by cases h), rowsIn_wide' h⟩
    | _ => exact h.elim
  | halt x w' => cases x <;> exact h
theorem anyIn_of_any {l n : Nat} {P : Program} {md : Region.Mode} {ops : Array Oper} {Q : Exit → Act → World → Prop} (hd : ∀ (i : Nat) (o : Oper), ops[i]? = some o → ∀ c, o.op ≠ .defer c) (hQ : ¬ LetsOut Q) :
    ∀ (fuel : Nat) (listed : Array Bool) (a : Act) (w : World), wpAny P md ops Q fuel listed a w → wpAnyIn (Fence.wide.inRound l) n P md ops Q fuel listed a w
  | 0, _, _, _, h => h
  | fuel + 1, listed, a, w, h => ⟨h.1, fun i hi => by
    have h2 := h.2 i hi
    unfold wpOp at h2
    unfold wpOpIn
    cases ho : ops[i]? with
    | none => rw [ho] at h2; exact anyIn_of_any hd hQ fuel _ _ _ h2
    | some o =>
      rw [ho] at h2
      simp only at h2 ⊢
      split
      · next hw =>
        rw [if_pos hw] at h2
        rcases h2 with h2 | ⟨-, h2⟩
        · refine ⟨fun _ _ => trivial, ?_⟩
          rw [Oper.semAt_eq _ _ _ (hd i o ho)]
          refine uponIn_of_upon ?_
          exact Oper.wp_mono (fun a' w' h3 => anyIn_of_any hd hQ fuel _ _ _ h3) h2
        · exact absurd h2 hQ
      · next hw =>
        rw [if_neg hw] at h2
        exact ⟨fun _ _ => trivial, anyIn_of_any hd hQ fuel _ _ _ h2⟩⟩
def isDefer : Op → Bool
  | .defer _ => true
  | _ => false
theorem noDefer {ops : Array Oper} (h : ops.all (fun o => !isDefer o.op) = true) (i : Nat) (o : Oper) (ho : ops[i]? = some o) (c : _) : o.op ≠ .defer c := fun e => by
  obtain ⟨hi, rfl⟩ := Array.getElem?_eq_some_iff.1 ho
  have := (Array.all_eq_true.1 h) i hi
  rw [e] at this
  simp [isDefer] at this
end Go.Proofs.YtjobmkdaaionlaaGreatDoor
