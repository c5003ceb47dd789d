import Derived.Test.YtjjkabgbcflipaaCu4
import Derived.RangeFuncBox
import Derived.RangeFuncLeaves
import Derived.RangeFuncNested
import Derived.Shelf.Abstract
import Derived.OwnWalkIn
import Derived.TacticsInMore
import Derived.LoopNIn
import Derived.LoopIn
set_option linter.unusedSimpArgs false
set_option linter.unusedVariables false
namespace Go.Proofs.Ytjjkabgbcflipaa
open Go Go.Proofs Go.RowKit Go.Shelf

attribute [local go_sem] Oper.semAt_some

/-- Blocks of a set lie as they lay. -/
structure KA (A : Nat → Prop) (W W' : World) : Prop where
  size : W.heap.size ≤ W'.heap.size
  block : ∀ k, A k → k < W.heap.size → W'.heap[k]? = W.heap[k]?
section
variable {A B : Nat → Prop} {W W' W2 : World}
theorem KA.refl (A : Nat → Prop) (W : World) : KA A W W := ⟨Nat.le_refl _, fun _ _ _ => rfl⟩
theorem KA.trans (h : KA A W W') (k : KA A W' W2) : KA A W W2 := ⟨Nat.le_trans h.size k.size, fun i hi hl => (k.block i hi (Nat.lt_of_lt_of_le hl h.size)).trans (h.block i hi hl)⟩
theorem KA.cell (h : KA A W W') {p : Addr} (ha : A p.block) (hp : p.block < W.heap.size) : W'.cell? p = W.cell? p := World.cell?_of_block (h.block _ ha hp)
theorem KA.of_but {S : Nat → Prop} (h : But S W W') (hs : ∀ b, A b → b < W.heap.size → ¬ S b) : KA A W W' := ⟨h.size, fun k hk hl => h.block k hl (hs k hk hl)⟩
theorem KA.of_below (h : Below W.heap.size W W') : KA A W W' := ⟨h.size, fun k _ hl => h.block k hl⟩
def rowD (ls : List (List Nat)) (p : Nat) : List Nat := ls.getD p []
def atD (l : List Nat) (k : Nat) : Nat := l.getD k 0
theorem atD_get {l : List Nat} {k : Nat} (h : k < l.length) : l[k]? = some (atD l k) := by unfold atD; rw [List.getD_eq_getElem?_getD, List.getElem?_eq_getElem h]; rfl
theorem atD_mem {l : List Nat} {k : Nat} (h : k < l.length) : atD l k ∈ l := List.mem_of_getElem? (atD_get h)
theorem atD_take {l : List Nat} {k : Nat} (h : k < l.length) : l.take (k + 1) = l.take k ++ [atD l k] := by rw [List.take_add_one, atD_get h]; rfl
/-- A row of numbers that can be read; its block is one of a set. -/
def IR (A : Nat → Prop) (W : World) (v : Value) (l : List Nat) : Prop :=
  ∃ ao c, v = .slice ao l.length c ∧ (l = [] ∨ ∃ b o, ao = some ⟨b, o, none⟩ ∧ A b ∧ b < W.heap.size ∧ ∀ k, k < l.length → W.cell? ⟨b, o + k, none⟩ = some (.int .i64 (atD l k : Nat)))
theorem IR.keep {v : Value} {l : List Nat} (h : IR A W v l) (hb : KA A W W') (hs : ∀ b, A b → b < W.heap.size → B b) : IR B W' v l := by
  obtain ⟨ao, c, e, h⟩ := h
  refine ⟨ao, c, e, h.imp_right ?_⟩
  rintro ⟨b, o, e, ha, hlt, hc⟩
  exact ⟨b, o, e, hs b ha hlt, Nat.lt_of_lt_of_le hlt hb.size, fun k hk => (hb.cell (p := ⟨b, o + k, none⟩) ha hlt).trans (hc k hk)⟩
theorem IR.at {v : Value} {l : List Nat} (h : IR A W v l) (k : Nat) (hk : k < l.length) : ∃ b o c, v = .slice (some ⟨b, o, none⟩) l.length c ∧ W.cell? ⟨b, o + k, none⟩ = some (.int .i64 (atD l k : Nat)) := by
  obtain ⟨ao, c, e, h⟩ := h
  rcases h with h | ⟨b, o, e2, ha, hlt, hc⟩
  · subst h; exact absurd hk (by simp)
  · exact ⟨b, o, c, by rw [e, e2], hc k hk⟩
theorem IR.slice {v : Value} {l : List Nat} (h : IR A W v l) : ∃ ao c, v = .slice ao l.length c := by
  obtain ⟨ao, c, e, -⟩ := h; exact ⟨ao, c, e⟩
theorem IR.of_own {lo : Nat} {v : Value} {l : List Nat} (h : ownI lo W v (l.map fun (n : Nat) => (n : Int))) (ha : ∀ b, v.ownBlock = some b → A b) : IR A W v l := by
  rcases h.2 with ⟨e, h0⟩ | ⟨g, cap, cur, e, -, hg, h1, h2, h3, h4⟩
  · have hl : l = [] := List.length_eq_zero_iff.1 (by simpa using h0)
    exact ⟨none, 0, by rw [e, hl]; rfl, .inl hl⟩
  · subst e
    refine ⟨_, cap, by rw [List.length_map], .inr ⟨g, 0, rfl, ha g rfl, (Array.getElem?_eq_some_iff.1 hg).1, fun k hk => ?_⟩⟩
    rw [Nat.zero_add, World.ownsRow.cellAt h k (by simpa using hk)]
    simp [intCells, hk, atD]
end
/-- A view that can be read: its blocks are ones of a set. -/
structure VR (A : Nat → Prop) (W : World) (ve vl : Value) (P : Nat) (es : List Nat) (ls : List (List Nat)) : Prop where
  ends : IR A W ve es
  tab : ∃ b c, vl = .slice (some ⟨b, 0, none⟩) P c ∧ A b ∧ b < W.heap.size ∧ ∀ p, p < P → ∃ rv, W.cell? ⟨b, p, none⟩ = some rv ∧ IR A W rv (rowD ls p)
  inn : ∀ p, p < P → ∀ e ∈ rowD ls p, e < es.length
  out : ∀ e, e < es.length → atD es e < P
theorem VR.keep {A B : Nat → Prop} {W W' : World} {ve vl : Value} {P : Nat} {es : List Nat} {ls : List (List Nat)} (h : VR A W ve vl P es ls) (hb : KA A W W') (hs : ∀ b, A b → b < W.heap.size → B b) : VR B W' ve vl P es ls := by
  obtain ⟨h1, ⟨b, c, e, ha, hlt, ht⟩, h3, h4⟩ := h
  refine ⟨h1.keep hb hs, ⟨b, c, e, hs b ha hlt, Nat.lt_of_lt_of_le hlt hb.size, fun p hp => ?_⟩, h3, h4⟩
  obtain ⟨rv, e1, e2⟩ := ht p hp
  exact ⟨rv, (hb.cell (p := ⟨b, p, none⟩) ha hlt).trans e1, e2.keep hb hs⟩
/-- Where the edges of a point lead to. -/
def nxt (es : List Nat) (ls : List (List Nat)) (p : Nat) : List Nat := (rowD ls p).map fun e => atD es e
theorem nxt_lt {A : Nat → Prop} {W : World} {ve vl : Value} {P : Nat} {es : List Nat} {ls : List (List Nat)} (h : VR A W ve vl P es ls) {p : Nat} (hp : p < P) : ∀ q ∈ nxt es ls p, q < P := by
  intro q hq
  obtain ⟨e, he, rfl⟩ := List.mem_map.1 hq
  exact h.out _ (h.inn p hp e he)
def qEnc {P : Nat} (x : Fin P) : Array Value := #[.int .i64 (x.val : Int)]
abbrev vals {P : Nat} (l : List (Fin P)) : List Nat := l.map Fin.val

set_option maxRecDepth 100000 in
set_option maxHeartbeats 4000000 in
theorem next1_in {A : Nat → Prop} {P : Nat} {es : List Nat} {ls : List (List Nat)} {ve vl pv : Value} (n : Nat) (hn : 1 ≤ n) (lp PB VB : Nat) (ps : List Nat) (J Jx : List (Fin P) → World → Prop) (W : World)
    (hY : ∀ pre x W, J pre W → pre.length < (ps.flatMap (nxt es ls)).length → YieldAt Fence.wide (n - 1) Try.prog lp (qEnc x) W fun e W' =>
      (e = .returned (.bool true) ∧ J (pre ++ [x]) W' ∧ KA A W W') ∨ (e = .returned (.bool false) ∧ Jx (pre ++ [x]) W'))
    (hp : IR A W pv ps) (hpP : ∀ p ∈ ps, p < P) (hv : VR A W ve vl P es ls) (hP : P ≤ 100000) (hps : ps.length ≤ 100000) (hls : ∀ p, (rowD ls p).length ≤ 100000) (hes : es.length ≤ 100000)
    (ha1 : A PB) (hl1 : PB < W.heap.size) (hc1 : W.cell? ⟨PB, 0, none⟩ = some pv)
    (ha2 : A VB) (hl2 : VB < W.heap.size) (hc2 : W.cell? ⟨VB, 0, none⟩ = some ve) (hc3 : W.cell? ⟨VB, 1, none⟩ = some vl) (h0 : J [] W) :
    CallsIn Fence.wide n Try.prog 92 #[.func (.yield lp) #[] #[], .pointer (some ⟨PB, 0, none⟩), .pointer (some ⟨VB, 0, none⟩)] W fun e W' => (∃ v, e = .returned v) ∧
      ((∃ ys, vals ys = ps.flatMap (nxt es ls) ∧ J ys W') ∨ (∃ pre, vals pre <+: ps.flatMap (nxt es ls) ∧ Jx pre W')) := by
  have hgP : ∀ V, KA A W V → ∀ i, i < ps.length → ∃ b o c, pv = .slice (some ⟨b, o, none⟩) ps.length c ∧ V.cell? ⟨b, o + i, none⟩ = some (.int .i64 (atD ps i : Nat)) := fun V hV i hi => (hp.keep hV (fun _ h _ => h)).at i hi
  have hgV : ∀ V, KA A W V → VR A V ve vl P es ls := fun V hV => hv.keep hV (fun _ h _ => h)
  have hgB : ∀ V, KA A W V → V.cell? ⟨VB, 0, none⟩ = some ve ∧ V.cell? ⟨VB, 1, none⟩ = some vl := fun V hV => ⟨(hV.cell (p := ⟨VB, 0, none⟩) ha2 hl2).trans hc2, (hV.cell (p := ⟨VB, 1, none⟩) ha2 hl2).trans hc3⟩
  obtain ⟨po, pc, rfl⟩ := hp.slice
  have KY := Lib.hid hY; have GP := Lib.hid hgP; have GV := Lib.hid hgV; have GB := Lib.hid hgB; have HPP := Lib.hid hpP; have HLS := Lib.hid hls
  clear hY hgP hgV hgB hpP hp hv hls ha1 ha2 hl1 hl2 hc2 hc3
  refine callsIn_of_wp Try.func92 rfl trivial ?_ rfl
  simp only [Try.ntmps92, List.size_toArray, List.length_cons, List.length_nil, Nat.reduceAdd, Nat.reduceSub, Array.replicate_succ, Array.replicate_zero, List.push_toArray, List.append_toArray, List.nil_append, List.cons_append]
  gi_wp2
  gi_loopw [10] (fun p wr => ∃ (i : Nat) (pre : List (Fin P)), i ≤ ps.length ∧ p = .int .i64 (i : Int) ∧ vals pre = (ps.take i).flatMap (nxt es ls) ∧ J pre wr ∧ KA A W wr) (fun p _ => ps.length - (intOf p).toNat)
  case atStart => exact ⟨0, [], Nat.zero_le _, rfl, rfl, h0, KA.refl _ _⟩
  case round =>
    obtain ⟨i, pr0, hi, rfl, hpr0, hJ, hk⟩ := hrel
    have HP0 := Lib.hid hpr0; clear hpr0
    by_cases hlt : i < ps.length
    · obtain ⟨b, off, c, hpe, hc⟩ := GP.out wr hk i hlt
      cases hpe
      have hmem : atD ps i ∈ ps := atD_mem hlt
      have hpp := HPP.out _ hmem
      have htk : (ps.take (i + 1)).flatMap (nxt es ls) = (ps.take i).flatMap (nxt es ls) ++ nxt es ls (atD ps i) := by
        rw [atD_take hlt, List.flatMap_append]; simp
      have hpre : (ps.take (i + 1)).flatMap (nxt es ls) <+: ps.flatMap (nxt es ls) := by
        conv => rhs; rw [← List.take_append_drop (i + 1) ps, List.flatMap_append]
        exact List.prefix_append _ _
      have HTK := Lib.hid htk; have HPRE := Lib.hid hpre; clear htk hpre hmem
      generalize atD ps i = p at *
      obtain ⟨y0, y1⟩ := GB.out wr hk
      have hV := GV.out wr hk
      obtain ⟨tb, tc, rfl, hta, htl, htab⟩ := hV.tab
      obtain ⟨rv, hr1, hr2⟩ := htab p hpp
      obtain ⟨ro, rc, rfl⟩ := hr2.slice
      have hrow := HLS.out p
      have hp0 : (0 : Int) ≤ (p : Int) := by omega
      have hp1 : (p : Int) < (P : Int) := by omega
      have HJ := Lib.hid hJ; have HK := Lib.hid hk; have HV := Lib.hid hV; have HR2 := Lib.hid hr2
      clear hJ hk hV hr2 htab hta htl
      obtain ⟨wo, hwo⟩ : ∃ wo, wo = wr := ⟨_, rfl⟩
      subst hwo
      gi_wp2
      have hgo : (nxt es ls p).length = (rowD ls p).length := by unfold nxt; rw [List.length_map]
      have HGO := Lib.hid hgo; clear hgo
      gi_loopw [20] (fun q wr => ∃ (k : Nat) (pr1 : List (Fin P)), k ≤ (rowD ls p).length ∧ q = .int .i64 (k : Int) ∧ vals pr1 = (ps.take i).flatMap (nxt es ls) ++ (nxt es ls p).take k ∧ J pr1 wr ∧ KA A wo wr) (fun q _ => (rowD ls p).length - (intOf q).toNat)
      case atStart => exact ⟨0, pr0, Nat.zero_le _, rfl, by rw [List.take_zero, List.append_nil]; exact HP0.out, HJ.out, KA.refl _ _⟩
      case round =>
        obtain ⟨k, pr1, hk, rfl, hpr1, hJ, hkk⟩ := hrel
        have HP1 := Lib.hid hpr1; clear hpr1
        clear hr1 y0 y1 hc
        have hkw := HK.out.trans hkk
        by_cases hlk : k < (rowD ls p).length
        · obtain ⟨b2, o2, c2, he2, hc2⟩ := (HR2.out.keep hkk (fun _ h _ => h)).at k hlk
          cases he2
          have hV2 := GV.out wr hkw
          have hin := hV2.inn p hpp (atD (rowD ls p) k) (atD_mem hlk)
          have hx : (nxt es ls p).take (k + 1) = (nxt es ls p).take k ++ [atD es (atD (rowD ls p) k)] := by
            rw [List.take_add_one]
            unfold nxt
            rw [List.getElem?_map, atD_get hlk]; rfl
          have hlen : pr1.length < (ps.flatMap (nxt es ls)).length := by
            have hq := congrArg List.length HP1.out
            rw [List.length_map] at hq
            rw [hq]
            have := HPRE.out.length_le
            rw [HTK.out] at this
            simp only [List.length_append, List.length_take, HGO.out] at this ⊢
            omega
          have hpr : (ps.take i).flatMap (nxt es ls) ++ (nxt es ls p).take (k + 1) <+: ps.flatMap (nxt es ls) := by
            refine List.IsPrefix.trans ?_ (HTK.out ▸ HPRE.out)
            exact (List.prefix_append_right_inj _).mpr (List.take_prefix _ _)
          rw [hx] at hpr
          generalize atD (rowD ls p) k = e at *
          obtain ⟨b3, o3, c3, rfl, hc3⟩ := hV2.ends.at e hin
          have hxP := hV2.out e hin
          generalize atD es e = x at *
          obtain ⟨fn, tmps, assign, body, hy, hR⟩ := KY.out _ ⟨x, hxP⟩ wr hJ hlen
          obtain ⟨z0, z1⟩ := GB.out wr hkw
          have e0 : (0 : Int) ≤ (e : Int) := by omega
          have e1 : (e : Int) < (es.length : Int) := by omega
          have HR := Lib.hid hR; have HX := Lib.hid hx; have HPR := Lib.hid hpr; have HKK := Lib.hid hkk
          clear hR hx hpr hkk hV2 hlen hin hJ
          unfold qEnc at hy
          gi_wp2
          refine HR.out.mono ?_
          rintro e W3 (⟨rfl, hJ3, hk3⟩ | ⟨rfl, hJx3⟩)
          · have HK4 := Lib.hid (HKK.out.trans hk3)
            clear hk3
            gi_wp2
            go_roundw
            case rel => exact ⟨k + 1, pr1 ++ [⟨x, hxP⟩], by omega, by go_num, by rw [HX.out, ← List.append_assoc, ← HP1.out, vals, List.map_append]; rfl, hJ3, HK4.out⟩
            case measure => simp [intOf]; omega
          · gi_wp2
            refine bodyPost_ret (results_none rfl _ _ _) rfl ?_
            exact ⟨⟨_, rfl⟩, .inr ⟨pr1 ++ [⟨x, hxP⟩], by rw [vals, List.map_append, show pr1.map Fin.val = vals pr1 from rfl, HP1.out, List.append_assoc]; exact HPR.out, hJx3⟩⟩
        · have hkn : k = (rowD ls p).length := by omega
          have hv2 : vals pr1 = (ps.take (i + 1)).flatMap (nxt es ls) := by
            rw [HTK.out, HP1.out, hkn, ← HGO.out, List.take_length]
          have HJ2 := Lib.hid hJ; have HKW := Lib.hid hkw; have HV2 := Lib.hid hv2
          clear hv2 hkw hJ hkk
          gi_wp2
          go_roundw
          case rel => exact ⟨i + 1, pr1, by omega, by go_num, HV2.out, HJ2.out, HKW.out⟩
          case measure => simp [intOf]; omega
    · have hin : i = ps.length := by omega
      have hJ2 : Hid (vals pr0 = ps.flatMap (nxt es ls)) := Lib.hid (by rw [HP0.out, hin, List.take_length])
      gi_wp2
      go_end0
      exact ⟨⟨_, rfl⟩, .inl ⟨pr0, hJ2.out, hJ⟩⟩
theorem next_any (ve vl pv : Value) (eo to_ po : Option Addr) (a1 a2 b1 b2 c1 c2 : Nat) (w : World) (h1 : ve = .slice eo a1 a2) (h2 : vl = .slice to_ b1 b2) (h3 : pv = .slice po c1 c2) :
    Calls Try.prog 70 #[.agg #[ve, vl], pv] w fun e w' => e = .returned (.func (.func 92) #[] #[.pointer (some ⟨w.heap.size + 1, 0, none⟩), .pointer (some ⟨w.heap.size, 0, none⟩)]) ∧ w' = (w.alloc (.cells #[ve, vl] 89)).alloc (.cells #[pv] 51) := by
  subst h1 h2 h3
  go_enter Try.func70, Try.ntmps70
  go_wp2
  go_ret
  exact ⟨rfl, rfl⟩
theorem next_stops {A : Nat → Prop} {P : Nat} {es : List Nat} {ls : List (List Nat)} {ve vl pv : Value} (n : Nat) (hn : 1 ≤ n) (PB VB : Nat) (ps : List Nat) (w : World)
    (hp : IR A w pv ps) (hpP : ∀ p ∈ ps, p < P) (hv : VR A w ve vl P es ls) (hP : P ≤ 100000) (hps : ps.length ≤ 100000) (hls : ∀ p, (rowD ls p).length ≤ 100000) (hes : es.length ≤ 100000)
    (ha1 : A PB) (hl1 : PB < w.heap.size) (hc1 : w.cell? ⟨PB, 0, none⟩ = some pv)
    (ha2 : A VB) (hl2 : VB < w.heap.size) (hc2 : w.cell? ⟨VB, 0, none⟩ = some ve) (hc3 : w.cell? ⟨VB, 1, none⟩ = some vl) :
    SeqStopsK Fence.wide n Try.prog 92 #[.pointer (some ⟨PB, 0, none⟩), .pointer (some ⟨VB, 0, none⟩)] (qEnc (P := P)) (KA A) (fun ys => vals ys = ps.flatMap (nxt es ls)) (fun pre => vals pre <+: ps.flatMap (nxt es ls)) (ps.flatMap (nxt es ls)).length w := fun lp J Jx W hW _ _ hY h0 => by
  have hk : KA A w W := KA.of_below hW
  exact next1_in n hn lp PB VB ps J Jx W hY (hp.keep hk (fun _ h _ => h)) hpP (hv.keep hk (fun _ h _ => h)) hP hps hls hes ha1 (Nat.lt_of_lt_of_le hl1 hW.size) ((hW.cell (p := ⟨PB, 0, none⟩) hl1).trans hc1) ha2 (Nat.lt_of_lt_of_le hl2 hW.size) ((hW.cell (p := ⟨VB, 0, none⟩) hl2).trans hc2) ((hW.cell (p := ⟨VB, 1, none⟩) hl2).trans hc3) h0
end Go.Proofs.Ytjjkabgbcflipaa
set_option autoImplicit false
namespace Go.Proofs.GM

section
variable {nx : Nat → List Nat}

/-- A path whose points are not in B. -/
inductive Rch (nx : Nat → List Nat) (B : Nat → Prop) : Nat → Nat → Prop
  | refl {a : Nat} : ¬ B a → Rch nx B a a
  | step {a b c : Nat} : Rch nx B a b → c ∈ nx b → ¬ B c → Rch nx B a c
theorem Rch.left {B : Nat → Prop} {a b : Nat} (h : Rch nx B a b) : ¬ B a := by
  induction h with
  | refl h => exact h
  | step _ _ _ ih => exact ih
theorem Rch.right {B : Nat → Prop} {a b : Nat} (h : Rch nx B a b) : ¬ B b := by
  cases h with
  | refl h => exact h
  | step _ _ h => exact h
theorem Rch.trans {B : Nat → Prop} {a b c : Nat} (h : Rch nx B a b) (g : Rch nx B b c) : Rch nx B a c := by
  induction g with
  | refl _ => exact h
  | step _ h1 h2 ih => exact .step ih h1 h2
theorem Rch.cons {B : Nat → Prop} {a b c : Nat} (ha : ¬ B a) (hb : b ∈ nx a) (g : Rch nx B b c) : Rch nx B a c :=
  Rch.trans (.step (.refl ha) hb g.left) g
theorem Rch.mono {B C : Nat → Prop} {a b : Nat} (h : Rch nx B a b) (hc : ∀ x, C x → B x) : Rch nx C a b := by
  induction h with
  | refl h => exact .refl fun g => h (hc _ g)
  | step _ h1 h2 ih => exact .step ih h1 fun g => h2 (hc _ g)
/-- A path from the front. -/
theorem Rch.head {B : Nat → Prop} {a b : Nat} (h : Rch nx B a b) : a = b ∨ ∃ c, c ∈ nx a ∧ Rch nx B c b := by
  induction h with
  | refl _ => exact .inl rfl
  | step h h1 h2 ih =>
    rcases ih with rfl | ⟨c, hc, g⟩
    · exact .inr ⟨_, h1, .refl h2⟩
    · exact .inr ⟨c, hc, .step g h1 h2⟩
/-- A path that enters a closed set stays there; or it avoids it. -/
theorem Rch.enters {B S : Nat → Prop} {a b : Nat} (h : Rch nx B a b) (hc : ∀ x, S x → ∀ y ∈ nx x, B y ∨ S y) : Rch nx (fun x => B x ∨ S x) a b ∨ S b := by
  induction h with
  | @refl h =>
    by_cases g : S a
    · exact .inr g
    · exact .inl (.refl (fun x => x.elim h g))
  | @step b c h h1 h2 ih =>
    by_cases g : S c
    · exact .inr g
    · rcases ih with ih | ih
      · exact .inl (.step ih h1 (fun x => x.elim h2 g))
      · exact .inr ((hc b ih c h1).resolve_left h2)

/-- Points are visited one after another: B are those that are marked before; t is what is added to the order. -/
inductive VL (nx : Nat → List Nat) : (Nat → Prop) → List Nat → List Nat → Prop
  | nil {B : Nat → Prop} : VL nx B [] []
  | old {B : Nat → Prop} {q : Nat} {qs u : List Nat} : B q → VL nx B qs u → VL nx B (q :: qs) u
  | new {B : Nat → Prop} {q : Nat} {qs t u : List Nat} : ¬ B q → VL nx (fun x => B x ∨ x = q) (nx q) t → VL nx (fun x => B x ∨ x = q ∨ x ∈ t) qs u → VL nx B (q :: qs) (t ++ q :: u)

theorem VL.out {B : Nat → Prop} {qs t : List Nat} (h : VL nx B qs t) : ∀ x ∈ t, ¬ B x := by
  induction h with
  | nil => simp
  | old _ _ ih => exact ih
  | @new B q qs t u hq _ _ ih1 ih2 =>
    intro x hx
    simp only [List.mem_append, List.mem_cons] at hx
    rcases hx with hx | rfl | hx
    · exact fun g => ih1 x hx (.inl g)
    · exact hq
    · exact fun g => ih2 x hx (.inl g)
theorem VL.nodup {B : Nat → Prop} {qs t : List Nat} (h : VL nx B qs t) : t.Nodup := by
  induction h with
  | nil => simp
  | old _ _ ih => exact ih
  | @new B q qs t u hq h1 h2 ih1 ih2 =>
    have g1 := h1.out
    have g2 := h2.out
    rw [List.nodup_append]
    refine ⟨ih1, ?_, ?_⟩
    · rw [List.nodup_cons]
      exact ⟨fun g => g2 q g (.inr (.inl rfl)), ih2⟩
    · intro a ha b hb e
      subst e
      simp only [List.mem_cons] at hb
      rcases hb with rfl | hb
      · exact g1 a ha (.inr rfl)
      · exact g2 a hb (.inr (.inr ha))
theorem VL.takes {B : Nat → Prop} {qs t : List Nat} (h : VL nx B qs t) : ∀ q ∈ qs, B q ∨ q ∈ t := by
  induction h with
  | nil => simp
  | @old B q qs u hq _ ih =>
    intro x hx
    simp only [List.mem_cons] at hx
    rcases hx with rfl | hx
    · exact .inl hq
    · exact ih x hx
  | @new B q qs t u hq h1 h2 ih1 ih2 =>
    intro x hx
    simp only [List.mem_cons] at hx
    rcases hx with rfl | hx
    · exact .inr (by simp)
    · rcases ih2 x hx with (g | rfl | g) | g
      · exact .inl g
      · exact .inr (by simp)
      · exact .inr (by simp [g])
      · exact .inr (by simp [g])
theorem VL.closed {B : Nat → Prop} {qs t : List Nat} (h : VL nx B qs t) : ∀ x ∈ t, ∀ y ∈ nx x, B y ∨ y ∈ t := by
  induction h with
  | nil => simp
  | old _ _ ih => exact ih
  | @new B q qs t u hq h1 h2 ih1 ih2 =>
    intro x hx y hy
    simp only [List.mem_append, List.mem_cons] at hx
    rcases hx with hx | rfl | hx
    · rcases ih1 x hx y hy with (g | rfl) | g
      · exact .inl g
      · exact .inr (by simp)
      · exact .inr (by simp [g])
    · rcases h1.takes y hy with (g | rfl) | g
      · exact .inl g
      · exact .inr (by simp)
      · exact .inr (by simp [g])
    · rcases ih2 x hx y hy with (g | rfl | g) | g
      · exact .inl g
      · exact .inr (by simp)
      · exact .inr (by simp [g])
      · exact .inr (by simp [g])
theorem VL.from {B : Nat → Prop} {qs t : List Nat} (h : VL nx B qs t) : ∀ x ∈ t, ∃ q ∈ qs, Rch nx B q x := by
  induction h with
  | nil => simp
  | old _ _ ih =>
    intro x hx
    obtain ⟨q, hq, g⟩ := ih x hx
    exact ⟨q, by simp [hq], g⟩
  | @new B q qs t u hq h1 h2 ih1 ih2 =>
    intro x hx
    simp only [List.mem_append, List.mem_cons] at hx
    rcases hx with hx | rfl | hx
    · obtain ⟨p, hp, g⟩ := ih1 x hx
      exact ⟨q, by simp, Rch.cons hq hp (g.mono fun _ => .inl)⟩
    · exact ⟨x, by simp, .refl hq⟩
    · obtain ⟨p, hp, g⟩ := ih2 x hx
      exact ⟨p, by simp [hp], g.mono fun _ => .inl⟩
theorem VL.keeps {B : Nat → Prop} {qs t : List Nat} (h : VL nx B qs t) {x y : Nat} (hx : x ∈ t) (g : Rch nx B x y) : y ∈ t := by
  induction g with
  | refl _ => exact hx
  | step _ h1 h2 ih => exact (h.closed _ ih _ h1).resolve_left h2
/-- What a visit adds: what can be reached without what is marked. -/
theorem VL.mem {B : Nat → Prop} {qs t : List Nat} (h : VL nx B qs t) (x : Nat) : x ∈ t ↔ ∃ q ∈ qs, Rch nx B q x := by
  refine ⟨h.from x, ?_⟩
  rintro ⟨q, hq, g⟩
  exact h.keeps ((h.takes q hq).resolve_left g.left) g

/-- y stands in the list at z or before it. -/
def Le (t : List Nat) (y z : Nat) : Prop := ∃ u v, t = u ++ z :: v ∧ (y ∈ u ∨ y = z)
theorem Le.append {t u : List Nat} {y z : Nat} (hy : y ∈ t) (hz : z ∈ u) : Le (t ++ u) y z := by
  obtain ⟨a, b, rfl⟩ := List.append_of_mem hz
  exact ⟨t ++ a, b, by simp, .inl (by simp [hy])⟩
theorem Le.inl {t u : List Nat} {y z : Nat} (h : Le t y z) : Le (t ++ u) y z := by
  obtain ⟨a, b, rfl, h⟩ := h
  exact ⟨a, b ++ u, by simp, h⟩
theorem Le.inr {t u : List Nat} {y z : Nat} (h : Le t y z) : Le (u ++ t) y z := by
  obtain ⟨a, b, rfl, h⟩ := h
  exact ⟨u ++ a, b, by simp, h.imp (fun g => by simp [g]) id⟩
theorem Le.self {t : List Nat} {y : Nat} (h : y ∈ t) : Le t y y := by
  obtain ⟨a, b, rfl⟩ := List.append_of_mem h
  exact ⟨a, b, rfl, .inr rfl⟩
theorem Le.right {t : List Nat} {y z : Nat} (h : Le t y z) : z ∈ t := by
  obtain ⟨a, b, rfl, h⟩ := h
  simp
theorem Le.left {t : List Nat} {y z : Nat} (h : Le t y z) : y ∈ t := by
  obtain ⟨a, b, rfl, h⟩ := h
  rcases h with h | h <;> simp [h]
theorem mem_mid {t u : List Nat} {q x : Nat} : x ∈ t ++ q :: u ↔ x ∈ t ∨ x = q ∨ x ∈ u := by simp
/-- The places of two elements of a list without double ones. -/
theorem Le.idx {t : List Nat} (ht : t.Nodup) {y z : Nat} : Le t y z ↔ y ∈ t ∧ z ∈ t ∧ t.idxOf y ≤ t.idxOf z := by
  constructor
  · intro h
    refine ⟨h.left, h.right, ?_⟩
    obtain ⟨a, b, rfl, h⟩ := h
    have hz : z ∉ a := fun g => by
      rw [List.nodup_append] at ht
      exact ht.2.2 z g z (by simp) rfl
    have e : (a ++ z :: b).idxOf z = a.length := by rw [List.idxOf_append]; simp [hz]
    rw [e]
    rcases h with h | rfl
    · rw [List.idxOf_append, if_pos h]
      exact Nat.le_of_lt (List.idxOf_lt_length_of_mem h)
    · rw [e]; exact Nat.le_refl _
  · rintro ⟨hy, hz, h⟩
    obtain ⟨a, b, rfl⟩ := List.append_of_mem hz
    refine ⟨a, b, rfl, ?_⟩
    have hz : z ∉ a := fun g => by
      rw [List.nodup_append] at ht
      exact ht.2.2 z g z (by simp) rfl
    have e : (a ++ z :: b).idxOf z = a.length := by rw [List.idxOf_append]; simp [hz]
    rw [e] at h
    by_cases hya : y ∈ a
    · exact .inl hya
    · refine .inr ?_
      rw [List.idxOf_append, if_neg hya] at h
      rw [List.idxOf_cons] at h
      by_cases e2 : z = y
      · exact e2.symm
      · have e3 : (z == y) = false := by simpa using e2
        rw [e3] at h
        simp at h
        omega

theorem Rch.avoid {B : Nat → Prop} {a b q : Nat} (h : Rch nx B a b) (hn : ¬ Rch nx B a q) : Rch nx (fun x => B x ∨ x = q) a b := by
  induction h with
  | refl h => exact .refl fun g => g.elim h fun e => hn (e ▸ .refl h)
  | step h h1 h2 ih => exact .step ih h1 fun g => g.elim h2 fun e => hn (e ▸ .step h h1 h2)
/-- Of what can be reached from a point, each stands at or before some point that reaches it and that it reaches. -/
theorem VL.behind {B : Nat → Prop} {qs t : List Nat} (h : VL nx B qs t) : ∀ x ∈ t, ∀ y, Rch nx B x y → ∃ z, Rch nx B x z ∧ Rch nx B z x ∧ Le t y z := by
  induction h with
  | nil => simp
  | old _ _ ih => exact ih
  | @new B q qs t u hq h1 h2 ih1 ih2 =>
    intro x hx y g
    have hone : VL nx B [q] (t ++ [q]) := .new hq h1 .nil
    have hle : ∀ y, Rch nx B q y → Le (t ++ q :: u) y q := fun y g => by
      have := hone.keeps (x := q) (by simp) g
      exact ⟨t, u, rfl, by simpa using this⟩
    rw [mem_mid] at hx
    rcases hx with hx | rfl | hx
    · have hqx : Rch nx B q x := by
        obtain ⟨p, hp, g⟩ := h1.from x hx
        exact Rch.cons hq hp (g.mono fun _ => .inl)
      by_cases e : Rch nx B x q
      · exact ⟨q, e, hqx, hle y (hqx.trans g)⟩
      · obtain ⟨z, g1, g2, g3⟩ := ih1 x hx y (g.avoid e)
        exact ⟨z, g1.mono fun _ => .inl, g2.mono fun _ => .inl, g3.inl⟩
    · exact ⟨x, .refl hq, .refl hq, hle y g⟩
    · have hxB : ¬ B x := g.left
      rcases g.enters (S := fun z => z = q ∨ z ∈ t) (fun a ha b hb => by
          have := hone.closed a (by simp; exact ha.symm) b hb
          simpa [or_comm] using this) with g1 | g1
      · obtain ⟨z, g1, g2, g3⟩ := ih2 x hx y g1
        refine ⟨z, g1.mono fun _ => .inl, g2.mono fun _ => .inl, ?_⟩
        have : Le ((t ++ [q]) ++ u) y z := g3.inr
        simpa using this
      · refine ⟨x, .refl hxB, .refl hxB, ?_⟩
        have : Le ((t ++ [q]) ++ u) y x := Le.append (by simp; exact g1.symm) hx
        simpa using this

/-- What can be reached only over a point stands at or before it. -/
theorem VL.over {B : Nat → Prop} {qs t : List Nat} (h : VL nx B qs t) : ∀ d ∈ t, ∀ e ∈ t, (¬ ∃ q ∈ qs, Rch nx (fun x => B x ∨ x = d) q e) → Le t e d := by
  induction h with
  | nil => simp
  | @old B q qs u hq _ ih =>
    intro d hd e he hn
    exact ih d hd e he fun ⟨p, hp, g⟩ => hn ⟨p, by simp [hp], g⟩
  | @new B q qs t u hq h1 h2 ih1 ih2 =>
    intro d hd e he hn
    have hnd := (VL.new hq h1 h2).nodup
    rw [mem_mid] at hd he
    have g1 := h1.out
    have g2 := h2.out
    have hlate : e ∈ u → d ∉ u → False := fun heu hdu => by
      obtain ⟨p, hp, g⟩ := h2.from e heu
      refine hn ⟨p, by simp [hp], g.mono ?_⟩
      rintro x (hx | rfl)
      · exact .inl hx
      · rcases hd with hd | hd | hd
        · exact .inr (.inr hd)
        · exact .inr (.inl hd)
        · exact absurd hd hdu
    by_cases hdu : d ∈ u
    · have hdq : d ≠ q := fun e => g2 d hdu (.inr (.inl e))
      have hdt : d ∉ t := fun e => g2 d hdu (.inr (.inr e))
      rcases he with he | rfl | he
      · have : Le (t ++ (q :: u)) e d := Le.append he (by simp [hdu])
        exact this
      · have : Le ((t ++ [e]) ++ u) e d := Le.append (by simp) hdu
        simpa using this
      · have := ih2 d hdu e he fun ⟨p, hp, g⟩ => hn ⟨p, by simp [hp], g.mono ?_⟩
        · have : Le ((t ++ [q]) ++ u) e d := this.inr
          simpa using this
        · rintro x (hx | hx)
          · exact .inl (.inl hx)
          · exact .inr hx
    · have heu : e ∉ u := fun h => hlate h hdu
      rcases hd with hd | rfl | hd
      · have hdq : d ≠ q := fun e => g1 d hd (.inr e)
        have hqd : ¬ (B q ∨ q = d) := fun g => g.elim hq fun e => hdq e.symm
        rcases he with he | rfl | he
        · refine (ih1 d hd e he fun ⟨p, hp, g⟩ => hn ⟨q, by simp, Rch.cons hqd hp (g.mono ?_)⟩).inl
          rintro x (hx | hx)
          · exact .inl (.inl hx)
          · exact .inr hx
        · exact absurd ⟨e, by simp, .refl hqd⟩ hn
        · exact absurd he heu
      · refine ⟨t, u, rfl, ?_⟩
        rcases he with he | he | he
        · exact .inl he
        · exact .inr he
        · exact absurd he heu
      · exact absurd hd hdu

/-- y stands before z. -/
def Lt (t : List Nat) (y z : Nat) : Prop := Le t y z ∧ y ≠ z
/-- A path whose points stand each before the last one. -/
inductive Dp (nx : Nat → List Nat) (t : List Nat) : Nat → Nat → Prop
  | refl {a : Nat} : Dp nx t a a
  | step {a b c : Nat} : Dp nx t a b → c ∈ nx b → Lt t c b → Dp nx t a c
theorem Dp.mono {t s : List Nat} {a b : Nat} (h : Dp nx t a b) (hc : ∀ y z, Lt t y z → Lt s y z) : Dp nx s a b := by
  induction h with
  | refl => exact .refl
  | step _ h1 h2 ih => exact .step ih h1 (hc _ _ h2)
theorem Dp.trans {t : List Nat} {a b c : Nat} (h : Dp nx t a b) (g : Dp nx t b c) : Dp nx t a c := by
  induction g with
  | refl => exact h
  | step _ h1 h2 ih => exact .step ih h1 h2
theorem Dp.first {t : List Nat} {a b : Nat} (h : Dp nx t a b) (hb : b ∈ t) : a ∈ t := by
  induction h with
  | refl => exact hb
  | step _ _ h2 ih =>
    obtain ⟨⟨u, v, rfl, -⟩, -⟩ := h2
    exact ih (by simp)
theorem VL.down {B : Nat → Prop} {qs t : List Nat} (h : VL nx B qs t) : ∀ x ∈ t, ∃ q ∈ qs, Dp nx t q x := by
  induction h with
  | nil => simp
  | old _ _ ih =>
    intro x hx
    obtain ⟨q, hq, g⟩ := ih x hx
    exact ⟨q, by simp [hq], g⟩
  | @new B q qs t u hq h1 h2 ih1 ih2 =>
    intro x hx
    rw [mem_mid] at hx
    rcases hx with hx | rfl | hx
    · obtain ⟨p, hp, g⟩ := ih1 x hx
      have hpt : p ∈ t := g.first hx
      refine ⟨q, by simp, Dp.trans (.step .refl hp ⟨⟨t, u, rfl, .inl hpt⟩, fun e => h1.out p hpt (.inr e)⟩) (g.mono fun y z h => ⟨h.1.inl, h.2⟩)⟩
    · exact ⟨x, by simp, .refl⟩
    · obtain ⟨p, hp, g⟩ := ih2 x hx
      refine ⟨p, by simp [hp], g.mono fun y z h => ⟨?_, h.2⟩⟩
      have : Le ((t ++ [q]) ++ u) y z := h.1.inr
      simpa using this
end
end Go.Proofs.GM
namespace Go.Proofs.Ytjjkabgbcflipaa
open Go Go.Proofs Go.RowKit Go.Shelf

open GM in
theorem _root_.Go.Proofs.GM.VL.congr {nx : Nat → List Nat} {B C : Nat → Prop} {qs t : List Nat} (h : VL nx B qs t) (e : ∀ x, B x ↔ C x) : VL nx C qs t := by
  rw [show C = B from funext fun x => propext (e x).symm]; exact h
open GM in
theorem _root_.Go.Proofs.GM.VL.app {nx : Nat → List Nat} {B : Nat → Prop} {qs rs t u : List Nat} (h : VL nx B qs t) (k : VL nx (fun x => B x ∨ x ∈ t) rs u) : VL nx B (qs ++ rs) (t ++ u) := by
  induction h with
  | nil => exact k.congr (fun x => by simp)
  | old hq _ ih => exact .old hq (ih k)
  | @new B q qs t1 u1 hq h1 h2 ih1 ih2 =>
    have := VL.new hq h1 (ih2 (k.congr (fun x => by simp only [List.mem_append, List.mem_cons]; grind)))
    simpa using this
def unionB (mk : Nat → Bool) (t : List Nat) : Nat → Bool := fun x => mk x || t.contains x
theorem unionB_iff (mk : Nat → Bool) (t : List Nat) (x : Nat) : unionB mk t x = true ↔ mk x = true ∨ x ∈ t := by simp [unionB]
theorem unionB_nil (mk : Nat → Bool) : unionB mk [] = mk := by funext x; simp [unionB]
theorem unionB_app (mk : Nat → Bool) (t u : List Nat) : unionB (unionB mk t) u = unionB mk (t ++ u) := by
  funext x; rw [Bool.eq_iff_iff, unionB_iff, unionB_iff, unionB_iff, List.mem_append]; grind
def setB (mk : Nat → Bool) (p : Nat) : Nat → Bool := fun x => mk x || x == p
theorem setB_iff (mk : Nat → Bool) (p x : Nat) : setB mk p x = true ↔ mk x = true ∨ x = p := by simp [setB]
theorem unionB_set (mk : Nat → Bool) (p : Nat) (t : List Nat) : unionB (setB mk p) t = unionB mk (t ++ [p]) := by
  funext x; rw [Bool.eq_iff_iff, unionB_iff, setB_iff, unionB_iff, List.mem_append, List.mem_singleton]; grind
/-- How many points are not marked. -/
def cntF (mk : Nat → Bool) (P : Nat) : Nat := ((List.range P).filter fun x => !mk x).length
theorem cntF_set {mk : Nat → Bool} {P p : Nat} (hp : p < P) (hm : mk p = false) : cntF (setB mk p) P + 1 ≤ cntF mk P := by
  unfold cntF
  induction P with
  | zero => omega
  | succ P ih =>
    rw [List.range_succ, List.filter_append, List.filter_append, List.length_append, List.length_append]
    by_cases e : p = P
    · subst e
      have h1 : ((List.range p).filter fun x => !setB mk p x).length ≤ ((List.range p).filter fun x => !mk x).length := by
        rw [← List.countP_eq_length_filter, ← List.countP_eq_length_filter]
        refine List.countP_mono_left fun x _ h => ?_
        simp only [setB, Bool.not_or, Bool.and_eq_true] at h
        exact h.1
      have h2 : ([p].filter fun x => !setB mk p x) = [] := by simp [setB]
      have h3 : ([p].filter fun x => !mk x) = [p] := by simp [hm]
      rw [h2, h3]; simp only [List.length_nil, List.length_singleton]; omega
    · have := ih (by omega)
      have h2 : ([P].filter fun x => !setB mk p x) = ([P].filter fun x => !mk x) := by
        have : setB mk p P = mk P := by
          have : (P == p) = false := by rw [beq_eq_false_iff_ne]; omega
          simp [setB, this]
        simp only [List.filter_cons, List.filter_nil, this]
      rw [h2]; omega
/-- The state of a visit in memory. -/
structure StAt (lo M O BM BV BS P : Nat) (es : List Nat) (ls : List (List Nat)) (ve vl : Value) (W : World) (v : Value) (mk : Nat → Bool) (ord : List Nat) : Prop where
  bm : W.cell? ⟨BM, 0, none⟩ = some (.slice (some ⟨M, 0, none⟩) P P)
  bv0 : W.cell? ⟨BV, 0, none⟩ = some ve
  bv1 : W.cell? ⟨BV, 1, none⟩ = some vl
  bs : W.cell? ⟨BS, 0, none⟩ = some (.func (.func 69) #[] #[.pointer (some ⟨BM, 0, none⟩), .pointer (some ⟨BV, 0, none⟩), .pointer (some ⟨BS, 0, none⟩), .pointer (some ⟨O, 0, none⟩)])
  o : W.cell? ⟨O, 0, none⟩ = some v
  fo : W.frozen? ⟨O, 0, none⟩ = false
  own : ownI lo W v (ord.map fun (n : Nat) => (n : Int))
  mc : ∀ k, k < P → W.cell? ⟨M, k, none⟩ = some (.bool (mk k))
  mf : ∀ k, W.frozen? ⟨M, k, none⟩ = false
  view : VR (fun b => b < lo ∧ b ≠ M ∧ b ≠ O) W ve vl P es ls
  dbm : BM < lo ∧ BM ≠ M ∧ BM ≠ O
  dbv : BV < lo ∧ BV ≠ M ∧ BV ≠ O
  dbs : BS < lo ∧ BS ≠ M ∧ BS ≠ O
  dmo : M < lo ∧ O < lo ∧ M ≠ O
  size : lo ≤ W.heap.size
/-- What a visit may write. -/
abbrev Wr (M O : Nat) (v : Value) : Nat → Prop := fun b => b = M ∨ b = O ∨ v.ownBlock = some b
/-- The row's block is the old one, or a new one. -/
def Arr (W : World) (v v' : Value) : Prop := v'.ownBlock = v.ownBlock ∨ ∀ b, v'.ownBlock = some b → W.heap.size ≤ b
theorem Wr.trans {M O : Nat} {W W1 W2 : World} {v v1 v2 : Value} (h : But (Wr M O v) W W1) (ha : Arr W v v1) (k : But (Wr M O v1) W1 W2) (kb : Arr W1 v1 v2) : But (Wr M O v) W W2 ∧ Arr W v v2 := by
  refine ⟨h.trans k (fun b hb e => ?_), ?_⟩
  · rcases e with e | e | e
    · exact .inl e
    · exact .inr (.inl e)
    · rcases ha with q | q
      · exact .inr (.inr (q ▸ e))
      · have := q b e; omega
  · rcases kb with q | q
    · rcases ha with r | r
      · exact .inl (q.trans r)
      · exact .inr (fun b e => r b (q ▸ e))
    · exact .inr (fun b e => Nat.le_trans h.size (q b e))
section
variable {lo M O BM BV BS P : Nat} {es : List Nat} {ls : List (List Nat)} {ve vl v : Value} {W W' : World} {mk : Nat → Bool} {ord : List Nat}
theorem StAt.below (h : StAt lo M O BM BV BS P es ls ve vl W v mk ord) (hb : Below W.heap.size W W') : StAt lo M O BM BV BS P es ls ve vl W' v mk ord := by
  have hs := h.size; have d1 := h.dbm.1; have d2 := h.dbv.1; have d3 := h.dbs.1; have d4 := h.dmo.1; have d5 := h.dmo.2.1
  exact ⟨(hb.cell (by dsimp only; omega)).trans h.bm, (hb.cell (by dsimp only; omega)).trans h.bv0, (hb.cell (by dsimp only; omega)).trans h.bv1, (hb.cell (by dsimp only; omega)).trans h.bs, (hb.cell (by dsimp only; omega)).trans h.o, (hb.frozen (by dsimp only; omega)).trans h.fo,
    h.own.below hb, fun k hk => (hb.cell (by dsimp only; omega)).trans (h.mc k hk), fun k => (hb.frozen (by dsimp only; omega)).trans (h.mf k), h.view.keep (KA.of_below hb) (fun _ h _ => h), h.dbm, h.dbv, h.dbs, h.dmo, Nat.le_trans hs hb.size⟩
/-- A point is marked. -/
theorem StAt.mark {p : Nat} (h : StAt lo M O BM BV BS P es ls ve vl W v mk ord) (hp : p < P) : StAt lo M O BM BV BS P es ls ve vl (W.setCell ⟨M, p, none⟩ (.bool true)) v (setB mk p) ord ∧ But (Wr M O v) W (W.setCell ⟨M, p, none⟩ (.bool true)) := by
  have hs := h.size; have d1 := h.dbm; have d2 := h.dbv; have d3 := h.dbs; have d4 := h.dmo
  have hb : But (fun b => b = M) W (W.setCell ⟨M, p, none⟩ (.bool true)) := (But.refl _ W).set _ _ (fun _ => rfl)
  have hown : ∀ b, v.ownBlock = some b → lo ≤ b := fun b e => (h.own.lt e).1
  refine ⟨⟨(hb.cell (by dsimp only; omega) d1.2.1).trans h.bm, (hb.cell (by dsimp only; omega) d2.2.1).trans h.bv0, (hb.cell (by dsimp only; omega) d2.2.1).trans h.bv1, (hb.cell (by dsimp only; omega) d3.2.1).trans h.bs, (hb.cell (by dsimp only; omega) (Ne.symm d4.2.2)).trans h.o, (hb.frozen (by dsimp only; omega) (Ne.symm d4.2.2)).trans h.fo,
    h.own.but hb (fun b e1 e2 => by have := hown b e1; omega), fun k hk => ?_, fun k => by rw [World.frozen?_setCell]; exact h.mf k, h.view.keep (KA.of_but hb (fun b hA _ => hA.2.1)) (fun _ h _ => h), d1, d2, d3, d4, by simpa using hs⟩, hb.mono (fun _ _ e => .inl e)⟩
  by_cases e : p = k
  · subst e
    rw [cellSet (h.mc p hp)]; simp [setB]
  · rw [World.cell?_setCell_other (h := by intro q; cases q; exact e rfl), h.mc k hk]
    have : (k == p) = false := by rw [beq_eq_false_iff_ne]; exact Ne.symm e
    simp [setB, this]
/-- A point is put behind the order. -/
theorem StAt.push {w9 : World} {g n cap p : Nat} (h : StAt lo M O BM BV BS P es ls ve vl W v mk ord) (h9 : ownI lo w9 (.slice (some ⟨g, 0, none⟩) n cap) ((ord ++ [p]).map fun (n : Nat) => (n : Int))) (hg : W.grownBy w9 v.ownBlock) (hgg : v.ownBlock = some g ∨ g = W.heap.size) :
    StAt lo M O BM BV BS P es ls ve vl (w9.setCell ⟨O, 0, none⟩ (.slice (some ⟨g, 0, none⟩) n cap)) (.slice (some ⟨g, 0, none⟩) n cap) mk (ord ++ [p]) ∧ But (Wr M O v) W (w9.setCell ⟨O, 0, none⟩ (.slice (some ⟨g, 0, none⟩) n cap)) ∧ Arr W v (.slice (some ⟨g, 0, none⟩) n cap) := by
  have hs := h.size; have d1 := h.dbm; have d2 := h.dbv; have d3 := h.dbs; have d4 := h.dmo
  have hb1 : But (fun b => v.ownBlock = some b) W w9 := But.of_grown hg (fun _ e => e)
  have hb2 : But (fun b => b = O) w9 (w9.setCell ⟨O, 0, none⟩ (.slice (some ⟨g, 0, none⟩) n cap)) := (But.refl _ w9).set _ _ (fun _ => rfl)
  have hb := hb1.seq hb2
  have hown : ∀ b, v.ownBlock = some b → lo ≤ b := fun b e => (h.own.lt e).1
  have hn : ∀ b, b < lo → b ≠ O → ¬ (v.ownBlock = some b ∨ b = O) := fun b h1 h2 e => by
    rcases e with e | e
    · have := hown b e; omega
    · exact h2 e
  have hO : ¬ v.ownBlock = some O := fun e => by have := hown O e; omega
  refine ⟨⟨(hb.cell (by dsimp only; omega) (hn _ d1.1 d1.2.2)).trans h.bm, (hb.cell (by dsimp only; omega) (hn _ d2.1 d2.2.2)).trans h.bv0, (hb.cell (by dsimp only; omega) (hn _ d2.1 d2.2.2)).trans h.bv1, (hb.cell (by dsimp only; omega) (hn _ d3.1 d3.2.2)).trans h.bs, ?_, ?_,
    h9.but hb2 (fun b e1 e2 => ?_), fun k hk => (hb.cell (by dsimp only; omega) (hn _ d4.1 d4.2.2)).trans (h.mc k hk), fun k => (hb.frozen (by dsimp only; omega) (hn _ d4.1 d4.2.2)).trans (h.mf k), h.view.keep (KA.of_but hb (fun b hA _ => hn b hA.1 hA.2.2)) (fun _ h _ => h), d1, d2, d3, d4, Nat.le_trans hs hb.size⟩, hb.mono (fun b _ e => e.elim (fun e => .inr (.inr e)) (fun e => .inr (.inl e))), ?_⟩
  · refine cellSet (u := v) ?_ _
    rw [hb1.cell (p := ⟨O, 0, none⟩) (by dsimp only; omega) hO]; exact h.o
  · rw [World.frozen?_setCell]; exact (hb1.frozen (p := ⟨O, 0, none⟩) (by dsimp only; omega) hO).trans h.fo
  · cases e1; have q1 : lo ≤ g := (h9.lt rfl).1; have q2 := d4.2.1; have q3 : g = O := e2; omega
  · rcases hgg with q | q
    · exact .inl (by rw [q]; rfl)
    · exact .inr (fun b e => by cases e; dsimp only; omega)
end
end Go.Proofs.Ytjjkabgbcflipaa
