import Derived.Test.YtjjkabgbcflipaaCu6
import Derived.Test.YtjjkabgbcflipaaCu7
import Derived.Laws.CopyOwn
import Derived.Deep.RegionHeld3
import Derived.OwnWalk
import Derived.Test.YtjjkabgbcflipaaCu3
set_option linter.unusedSimpArgs false
set_option linter.unusedVariables false
namespace Go.Proofs.Ytjjkabgbcflipaa
open Go Go.Proofs Go.RowKit

/-- The block of a list that is being filled by doubling. -/
def rep (z : Int) (k n : Nat) : List Value := List.replicate k (Value.int .i64 z) ++ List.replicate (n - k) (Value.int .i64 0)
theorem rep_zero (z : Int) (n : Nat) : rep z 0 n = List.replicate n (Value.int .i64 0) := by simp [rep]
theorem rep_length (z : Int) {k n : Nat} (h : k ≤ n) : (rep z k n).length = n := by simp [rep]; omega
theorem rep_all (z : Int) (n : Nat) : rep z n n = intCells (List.replicate n z) := by simp [rep, intCells]
theorem rep_splice (z : Int) {k n m : Nat} (h : k + m ≤ n) : splice (rep z k n) k (List.replicate m (Value.int .i64 z)) = rep z (k + m) n := by
  unfold splice rep
  rw [List.take_append_of_le_length (by simp), List.take_of_length_le (by simp), List.length_replicate, List.drop_append, List.drop_eq_nil_of_le (by simp), List.nil_append, List.length_replicate, List.drop_replicate, ← List.append_assoc, List.replicate_append_replicate]
  congr 2
  omega
theorem rep_cell {w : World} {T : TypeId} {g : Nat} {z : Int} {k n : Nat} (h : w.heap[g]? = some (.cells (rep z k n).toArray T (0, 0))) (j : Nat) (hj : j < k) : w.cell? ⟨g, j, none⟩ = some (.int .i64 z) := by
  have e : w.cell? ⟨g, j, none⟩ = (rep z k n).toArray[j]? := by simp [World.cell?, h]
  rw [e]
  simp only [List.getElem?_toArray]
  unfold rep
  rw [List.getElem?_append_left (by simpa using hj)]
  simp [hj]

theorem below_of_grown {a w : World} (h : a.grownBy w none) : Below a.heap.size a w :=
  ⟨h.os, h.tape, h.output, h.size, fun i hi => h.block i hi (by simp)⟩
theorem made_heap {T : TypeId} {w : World} {base g n : Nat} (h : w.ownsRow base T 1 (.slice (some ⟨g, 0, none⟩) n n) n (madeCells #[Value.int .i64 0] n).toList) : w.heap[g]? = some (.cells (List.replicate n (Value.int .i64 0)).toArray T (0, 0)) := by
  have e : (madeCells #[Value.int .i64 0] n).toList = List.replicate n (Value.int .i64 0) :=
    List.ext_getElem (by simp [madeCells]) fun i h3 h4 => by simp [madeCells, Nat.mod_one]
  rw [e] at h
  rcases h.2 with ⟨h2, -⟩ | ⟨g', cap, cur, he, hb, hg, hle, hm, hs, ht⟩
  · simp at h2
  · injection he with e1 e2 e3
    injection e1 with e1; injection e1 with e1 _ _
    subst e1; subst e3
    rw [hg, ← ht, List.take_of_length_le (by simp; omega)]
theorem sizeInt : (Try.prog.info? 3).map (·.size) = some 1 := by kernel_rfl
set_option maxRecDepth 20000 in
set_option maxHeartbeats 4000000 in
theorem repeat_any (n b : Nat) (z : Int) (w : World) (hn : n ≤ 1000) (hc : w.cell? ⟨b, 0, none⟩ = some (.int .i64 z)) (hb : b < w.heap.size) :
    Calls Try.prog 72 #[.slice (some ⟨b, 0, none⟩) 1 1, .int .i64 n] w fun e w' => ∃ g, e = .returned (.slice (some ⟨g, 0, none⟩) n n) ∧ w'.heap[g]? = some (.cells (intCells (List.replicate n z)).toArray 3 (0, 0)) ∧ w.heap.size ≤ g ∧ Below w.heap.size w w' := by
  obtain ⟨i0, hi, hz0, hz1, hz2⟩ := info_parts infoInt64
  have C : ∀ W : World, Calls Try.prog 96 #[.int .u64 1, .int .u64 n] W fun e w' => e = .returned (.tuple #[.int .u64 0, .int .u64 n]) ∧ w' = W := fun W => by
    have := Try.bits_Mul 1 n (by decide) (by omega) W
    rw [Nat.one_mul, Nat.div_eq_of_lt (by omega), Nat.mod_eq_of_lt (by omega)] at this
    exact this
  have hcW : ∀ W, Below w.heap.size w W → W.cell? ⟨b, 0, none⟩ = some (.int .i64 z) := fun W hW => (hW.cell (p := ⟨b, 0, none⟩) hb).trans hc
  have KC := Lib.hid C; have HCW := Lib.hid hcW; clear C hcW hc
  go_enter Try.func72, Try.ntmps72
  go_wp2_with (go_at_call 96; refine (KC.out _).mono ?_; rintro e w1 ⟨rfl, rfl⟩)
  obtain ⟨W0, hrun, hown, hg⟩ := run_make_full (P := Try.prog) w1 w1.heap.size 51 3 i0 (.int .i64 0) 1 Try.underlying51 hi hz0 hz1 .i64 .i64 n (by rw [hz2]; omega) (by unfold maxLen; omega) (Nat.le_refl _)
  rw [hrun]
  rw [Nat.mul_one] at hown
  have hb0 := made_heap (T := 3) (n := n) hown
  have hB := below_of_grown hg
  clear hown hg hrun
  generalize hgg : w1.heap.size = g at hb0 ⊢
  have hcc := HCW.out W0 hB
  have HG := Lib.hid hgg; have HB := Lib.hid hB; have HB0 := Lib.hid hb0; clear hgg hB hb0
  have hgg : w1.heap.size ≤ g := by have := HG.out; omega
  have HGG := Lib.hid hgg; clear hgg
  rcases Nat.eq_zero_or_pos n with rfl | hn0
  · go_wp2_with (with_reducible refine wpList_copy_splice rfl (.tmp 31) (.tmp 32) _ _ rfl 3 Try.underlying51 (by kernel_rfl) _ _ _ _ _ _ rfl rfl g 0 (List.replicate 0 (.int .i64 0)) 3 HB0.out [] rfl (by simp) (by simp) (by simp) w1.heap.size w1 HB.out HGG.out ?_)
    intro w2 hg2 hb2
    have HB2 := Lib.hid hb2; clear hb2
    go_wp2_with fail
    go_loopw [8] (fun iv wr => iv = .int .i64 0 ∧ wr = w2) (fun _ _ => 0)
    case atStart => exact ⟨rfl, rfl⟩
    case round =>
      obtain ⟨rfl, rfl⟩ := hrel
      go_wp2
      refine bodyPost_ret (v := .slice (some ⟨g, 0, none⟩) 0 0) (by simp [results, Try.results72, go_sem]) rfl ?_
      refine ⟨g, rfl, ?_, HGG.out, HB2.out⟩
      have := hg2.out
      rw [this]; rfl
  · have hone : ∀ v ∈ [Value.int .i64 z], v.oneCell' = true := by intro v hv; simp at hv; subst hv; rfl
    have hsrc : ∀ (j : Nat) (v : Value), [Value.int .i64 z][j]? = some v → W0.cell? ((⟨b, 0, none⟩ : Addr).add j) = some v := by
      intro j v hv
      match j, hv with
      | 0, hv => simp at hv; subst hv; exact hcc
    go_wp2_with (with_reducible refine wpList_copy_splice rfl (.tmp 31) (.tmp 32) _ _ rfl 3 Try.underlying51 (by kernel_rfl) _ _ _ _ _ _ rfl rfl g 0 (List.replicate n (.int .i64 0)) 3 HB0.out [.int .i64 z] (by simp [Nat.min_def]; omega) (fun _ => ⟨rfl, _, rfl, hsrc⟩) (by simp; omega) hone w1.heap.size w1 HB.out HGG.out ?_)
    intro w2 hg2 hb2
    have e2 : splice (List.replicate n (Value.int .i64 0)) 0 [Value.int .i64 z] = rep z 1 n := by rw [← rep_zero z n]; exact rep_splice z (k := 0) (m := 1) (by omega)
    have h2 := hg2.out
    rw [e2] at h2
    have H2 := Lib.hid h2; have HB2 := Lib.hid hb2; clear hb2 h2 e2 hone hsrc hg2
    go_wp2_with fail
    go_loopw [8] (fun iv wr => ∃ k : Nat, k ≤ n ∧ 0 < k ∧ iv = .int .i64 k ∧ wr.heap[g]? = some (.cells (rep z k n).toArray 3 (0, 0)) ∧ Below w1.heap.size w1 wr) (fun iv _ => n - (intOf iv).toNat)
    case atStart => exact ⟨1, by omega, by omega, rfl, H2.out, HB2.out⟩
    case round =>
      obtain ⟨k, hk, hk0, rfl, hr, hbw⟩ := hrel
      have HR := Lib.hid hr; have HBW := Lib.hid hbw; clear hr hbw
      by_cases hlt : k < n
      · have hpos : 0 < (List.replicate (Nat.min k (n - k)) (Value.int .i64 z)).length → (some (⟨g, k, none⟩ : Addr)) = some ⟨g, k, none⟩ ∧ ∃ ad, (some (⟨g, 0, none⟩ : Addr)) = some ad ∧ ∀ (j : Nat) (v : Value), (List.replicate (Nat.min k (n - k)) (Value.int .i64 z))[j]? = some v → wr.drew.cell? (ad.add j) = some v := by
          intro _
          refine ⟨rfl, _, rfl, fun j v hv => ?_⟩
          have hj := (List.getElem?_eq_some_iff.1 hv).1
          simp at hj
          have hv' : v = .int .i64 z := by
            have := List.mem_of_getElem? hv
            exact List.eq_of_mem_replicate this
          subst hv'
          rw [addr_zero g j]
          exact rep_cell (w := wr) HR.out j (by have : Nat.min k (n - k) ≤ k := Nat.min_le_left _ _; omega)
        have hfit : k + (List.replicate (Nat.min k (n - k)) (Value.int .i64 z)).length ≤ (rep z k n).length := by
          rw [rep_length z hk]; simp; have : Nat.min k (n - k) ≤ n - k := Nat.min_le_right _ _; omega
        have hone : ∀ v ∈ List.replicate (Nat.min k (n - k)) (Value.int .i64 z), v.oneCell' = true := by intro v hv; obtain rfl := List.eq_of_mem_replicate hv; rfl
        have hm1 : Nat.min k (n - k) ≤ n - k := Nat.min_le_right _ _
        have hm0 : 0 < Nat.min k (n - k) := Nat.lt_min.2 ⟨hk0, by omega⟩
        have hsp := rep_splice z (k := k) (n := n) (m := Nat.min k (n - k)) (by omega)
        have HPOS := Lib.hid hpos; have HFIT := Lib.hid hfit; have HONE := Lib.hid hone; have HSP := Lib.hid hsp; clear hpos hfit hone hsp
        generalize hmm : Nat.min k (n - k) = m at *
        have hlen : (List.replicate m (Value.int .i64 z)).length = Nat.min k (n - k) := by rw [List.length_replicate]; exact hmm.symm
        have HLEN := Lib.hid hlen; clear hmm hlen
        have hnk : ¬ n = k := by omega
        have q0 : (0 : Int) ≤ (k : Int) := by omega
        have q1 : (k : Int) ≤ (n : Int) := by omega
        have q2 : IntKind.i64.wrap ((k : Int) + (m : Int)) = ((k + m : Nat) : Int) := by rw [IntKind.wrap_i64]; omega
        have hrd : wr.drew.heap[g]? = some (.cells (rep z k n).toArray 3 (0, 0)) := HR.out
        have HRD := Lib.hid hrd; have HBD := Lib.hid HBW.out.drew; clear hrd
        go_wp2_with fail
        go_region_held3 (fun _ => True) (exact trivial) ((refine step_copy_splice (by rfl) (.tmp 41) (.tmp 44) 51 51 (by rfl) 3 Try.underlying51 sizeInt (some ⟨g, k, none⟩) (some ⟨g, 0, none⟩) (n - k) (n - k) k n (by simp [Act.eval, Act.put]) (by simp [Act.eval, Act.put]) g k (rep z k n) 3 HRD.out (List.replicate m (.int .i64 z)) HLEN.out (fun h => ⟨rfl, (HPOS.out h).2⟩) HFIT.out HONE.out w1.heap.size w1 HBD.out HGG.out ?_; intro w4 hg4 hb4))
        have h4 := hg4.out
        rw [HSP.out] at h4
        have H4 := Lib.hid h4; have HB4 := Lib.hid hb4; clear h4 hg4 hb4 q2
        go_wp2
        go_roundw
        case rel => exact ⟨k + m, by omega, by omega, by go_num, H4.out, HB4.out⟩
        case measure => simp [intOf]; omega
      · have hkn : k = n := by omega
        subst hkn
        have HR2 := Lib.hid (rep_all z k ▸ HR.out)
        go_wp2
        refine bodyPost_ret (v := .slice (some ⟨g, 0, none⟩) k k) (by simp [results, Try.results72, go_sem]) rfl ?_
        exact ⟨g, rfl, HR2.out, HGG.out, HBW.out⟩
end Go.Proofs.Ytjjkabgbcflipaa
namespace Go.Proofs.Ytjjkabgbcflipaa
open Go Go.Proofs Go.RowKit GM

def esN (to : Ed → Int) (E : List Ed) : List Nat := E.map fun d => (to d).toNat
def lsN (P : Nat) (fr : Ed → Int) (E : List Ed) : List (List Nat) := (List.range P).map fun (p : Nat) => (List.range E.length).filter fun (i : Nat) => decide (fr (edD E i) = (p : Int))
theorem lsN_at {P p : Nat} (fr : Ed → Int) (E : List Ed) (hp : p < P) : rowD (lsN P fr E) p = (List.range E.length).filter fun (i : Nat) => decide (fr (edD E i) = (p : Int)) := by
  unfold rowD lsN
  rw [List.getD_eq_getElem?_getD]; simp [hp]
theorem lsN_out {P p : Nat} (fr : Ed → Int) (E : List Ed) (hp : ¬ p < P) : rowD (lsN P fr E) p = [] := by
  unfold rowD lsN
  rw [List.getD_eq_getElem?_getD, List.getElem?_eq_none (by simp; omega)]; rfl
theorem lsN_len (P p : Nat) (fr : Ed → Int) (E : List Ed) : (rowD (lsN P fr E) p).length ≤ E.length := by
  by_cases hp : p < P
  · rw [lsN_at fr E hp]
    exact Nat.le_trans (List.length_filter_le _ _) (by simp)
  · rw [lsN_out fr E hp]; simp
theorem view_of {P lo LB : Nat} {fr to : Ed → Int} {E : List Ed} {W : World} {ve : Value} {vs : List Value} {A : Nat → Prop} (hto : ∀ j, j < E.length → 0 ≤ to (edD E j) ∧ to (edD E j) < P)
    (hE : ownI lo W ve (E.map to)) (hL : LvAt lo W LB P vs (lvN P fr E E.length)) (hA : ∀ b, lo ≤ b ∨ b = LB → A b) : VR A W ve (.slice (some ⟨LB, 0, none⟩) P P) P (esN to E) (lsN P fr E) := by
  have he : E.map to = (esN to E).map fun (n : Nat) => (n : Int) := by
    unfold esN
    rw [List.map_map]
    apply List.map_congr_left
    intro d hd
    obtain ⟨j, hj, rfl⟩ := List.getElem_of_mem hd
    have := hto j hj
    rw [edD_eq hj] at this
    simp only [Function.comp]
    omega
  rw [he] at hE
  refine ⟨IR.of_own hE (fun b e => hA b (.inl (hE.lt e).1)), ⟨LB, P, rfl, hA LB (.inr rfl), hL.lt, fun p hp => ⟨_, hL.tab p hp, ?_⟩⟩, fun p hp e he2 => ?_, fun e he2 => ?_⟩
  · have h := hL.row p hp
    rw [lvN_at fr E E.length hp] at h
    rw [lsN_at fr E hp]
    exact IR.of_own h (fun b e => hA b (.inl (h.lt e).1))
  · rw [lsN_at fr E hp] at he2
    have := (List.mem_filter.1 he2).1
    unfold esN
    rw [List.length_map]
    exact List.mem_range.1 this
  · have hl : e < E.length := by unfold esN at he2; rwa [List.length_map] at he2
    have h1 := hto e hl
    unfold esN atD
    rw [List.getD_eq_getElem?_getD, List.getElem?_map, List.getElem?_eq_getElem hl]
    rw [edD_eq hl] at h1
    show (to E[e]).toNat < P
    omega
theorem forward_vr {A : Nat → Prop} (P : Nat) (x : Int) (ao : Option Addr) (c : Nat) (E : List Ed) (w : World) (hr : ERow A w ao c E) (h0 : ckG P x E = 0) :
    Calls Try.prog 47 #[.agg #[.int .i64 (P : Int), .int .i64 x, .slice ao E.length c]] w fun e w' => ∃ ve vl, e = .returned (.agg #[ve, vl]) ∧ VR (fun b => w.heap.size ≤ b) w' ve vl P (esN (fun d => d.t) E) (lsN P (fun d => d.f) E) ∧ Below w.heap.size w w' := by
  refine (forward_any P x ao c E w hr h0).mono ?_
  rintro e w' ⟨ve, vs, rfl, h1, h2, h3⟩
  obtain ⟨-, -, -, hpt⟩ := ckG_ok h0
  exact ⟨ve, _, rfl, view_of (fun j hj => isPt_true (hpt j hj).2) h1 h2 (fun b h => by omega), h3⟩
theorem backward_vr {A : Nat → Prop} (P : Nat) (x : Int) (ao : Option Addr) (c : Nat) (E : List Ed) (w : World) (hr : ERow A w ao c E) (h0 : ckG P x E = 0) :
    Calls Try.prog 49 #[.agg #[.int .i64 (P : Int), .int .i64 x, .slice ao E.length c]] w fun e w' => ∃ ve vl, e = .returned (.agg #[ve, vl]) ∧ VR (fun b => w.heap.size ≤ b) w' ve vl P (esN (fun d => d.f) E) (lsN P (fun d => d.t) E) ∧ Below w.heap.size w w' := by
  refine (backward_any P x ao c E w hr h0).mono ?_
  rintro e w' ⟨ve, vs, rfl, h1, h2, h3⟩
  obtain ⟨-, -, -, hpt⟩ := ckG_ok h0
  exact ⟨ve, _, rfl, view_of (fun j hj => isPt_true (hpt j hj).1) h1 h2 (fun b h => by omega), h3⟩
/-- Marks that were made just now. -/
theorem MkAt.made (W : World) (P : Nat) : MkAt (W.alloc (.cells (Array.replicate P (.bool false)) 4)) W.heap.size P (fun _ => false) :=
  ⟨fun k hk => made_cell W P (.bool false) 4 k hk, fun k => made_free W P (.bool false) 4 k, by simp⟩
abbrev nxF (P : Nat) (E : List Ed) : Nat → List Nat := nxt (esN (fun d => d.t) E) (lsN P (fun d => d.f) E)
abbrev nxB (P : Nat) (E : List Ed) : Nat → List Nat := nxt (esN (fun d => d.f) E) (lsN P (fun d => d.t) E)
def ReachQ (n x : Int) (E : List Ed) (from_ : Int) (w : World) : Ending → World → Prop := fun e w' => Below w.heap.size w w' ∧
  ((ckG n x E ≠ 0 ∧ e = .returned (.tuple #[nilS, .int .i64 (ckG n x E : Nat)])) ∨ (ckG n x E = 0 ∧ isPt n from_ = false ∧ e = .returned (.tuple #[nilS, .int .i64 6])) ∨
   (ckG n x E = 0 ∧ isPt n from_ = true ∧ ∃ M t, e = .returned (.tuple #[.slice (some ⟨M, 0, none⟩) n.toNat n.toNat, .int .i64 0]) ∧ VL (nxF n.toNat E) (fun _ => False) [from_.toNat] t ∧ MkAt w' M n.toNat (unionB (fun _ => false) t) ∧ w.heap.size ≤ M))
set_option maxRecDepth 20000 in
set_option maxHeartbeats 4000000 in
theorem reach_any {A : Nat → Prop} (n x : Int) (ao : Option Addr) (c : Nat) (E : List Ed) (w : World) (hr : ERow A w ao c E) (from_ : Int) :
    Calls Try.prog 19 #[.agg #[.int .i64 n, .int .i64 x, .slice ao E.length c], .int .i64 from_] w (ReachQ n x E from_ w) := by
  have hA : Below w.heap.size w (w.alloc (Obj.cells #[.int .i64 n, .int .i64 x, .slice ao E.length c] 24)) := (Below.refl _ _).alloc (Nat.le_refl _) _
  have hX := GBx.new w n x ao E.length c
  have CC := fun W hW => check_any n x ao c E W (hr.keep (B := A) (But.of_below (S := fun _ => False) (w' := W) hW) (fun _ h _ => ⟨id, h⟩))
  have CP := fun W => isPoint_any n x from_ ao E.length c W
  have CF := fun (P : Nat) (h : ckG P x E = 0) W hW => forward_vr P x ao c E W (hr.keep (B := A) (But.of_below (S := fun _ => False) (w' := W) hW) (fun _ h _ => ⟨id, h⟩)) h
  have KA' := Lib.hid hA; have HX := Lib.hid hX; have KC := Lib.hid CC; have KP := Lib.hid CP; have KF := Lib.hid CF
  clear hA hX CC CP CF hr
  by_cases h0 : ckG n x E = 0
  rotate_left
  · obtain ⟨K, hK⟩ : ∃ K, ckG n x E = K := ⟨_, rfl⟩
    have HK := Lib.hid hK
    rw [hK] at h0 
    have t1 : ((K : Int) != 0) = true := by rw [bne_iff_ne]; omega
    have H0 := Lib.hid h0
    clear h0 hK
    have k1 := KC.out _ KA'.out
    rw [HK.out] at k1
    have K1 := Lib.hid k1; clear k1 KC KP KF
    go_enter Try.func19, Try.ntmps19
    go_wp2_with (go_at_call 21; refine (K1.out).mono ?_; rintro e w1 ⟨rfl, hb⟩; refine Hid.out ?_)
    have HB := Lib.hid (Below.chain KA'.out hb); clear hb
    refine Lib.hid ?_
    go_wp2
    refine bodyPost_ret (by first | (simp [results, Try.results19, go_sem]; done) | (simp [results, Try.results19, go_sem]; rfl)) rfl ?_
    exact ⟨HB.out, .inl ⟨by rw [HK.out]; exact H0.out, by rw [HK.out]⟩⟩
  · have k1 := KC.out _ KA'.out
    rw [h0] at k1
    have K1 := Lib.hid k1; clear k1
    have H0 := Lib.hid h0; clear h0
    cases hp : isPt n from_ with
    | false =>
      have HP := Lib.hid hp
      have k2 := fun W => KP.out W
      rw [hp] at k2
      have K2 := Lib.hid k2; clear k2 KC KP KF hp
      go_enter Try.func19, Try.ntmps19
      go_wp2_with (go_at_call 21; refine (K1.out).mono ?_; rintro e w1 ⟨rfl, hb⟩; refine Hid.out ?_)
      have HB := Lib.hid (Below.chain KA'.out hb)
      obtain ⟨y0, y1, y2, y3⟩ := HX.out.below hb
      clear hb
      refine Lib.hid ?_
      go_wp2_with (go_at_call 51; refine (K2.out _).mono ?_; rintro e w2 ⟨rfl, hb⟩; refine Hid.out ?_)
      have HB2 := Lib.hid (Below.chain HB.out hb); clear hb
      refine Lib.hid ?_
      go_wp2
      refine bodyPost_ret (by first | (simp [results, Try.results19, go_sem]; done) | (simp [results, Try.results19, go_sem]; rfl)) rfl ?_
      exact ⟨HB2.out, .inr (.inl ⟨H0.out, HP.out, rfl⟩)⟩
    | true =>
      have hn := isPt_true hp
      obtain ⟨P, rfl⟩ := Int.eq_ofNat_of_zero_le (show 0 ≤ n by omega)
      obtain ⟨f, rfl⟩ := Int.eq_ofNat_of_zero_le (show 0 ≤ from_ by omega)
      obtain ⟨hP0, hP1, hlen, -⟩ := ckG_ok H0.out
      have HP := Lib.hid hp
      have k2 := fun W => KP.out W
      rw [hp] at k2
      have k3 := fun W hW => KF.out P H0.out W hW
      have K2 := Lib.hid k2; have K3 := Lib.hid k3; have HL := Lib.hid hlen; have HN := Lib.hid hn; clear k2 k3 KC KP KF hp hlen hn
      go_enter Try.func19, Try.ntmps19
      go_wp2_with (go_at_call 21; refine (K1.out).mono ?_; rintro e w1 ⟨rfl, hb⟩; refine Hid.out ?_)
      have HB := Lib.hid (Below.chain KA'.out hb)
      obtain ⟨y0, y1, y2, y3⟩ := HX.out.below hb
      have HX1 := Lib.hid (HX.out.below hb)
      clear hb
      refine Lib.hid ?_
      go_wp2_with (go_at_call 51; refine (K2.out _).mono ?_; rintro e w2 ⟨rfl, hb⟩; refine Hid.out ?_)
      have HB2 := Lib.hid (Below.chain HB.out hb)
      have HX2 := Lib.hid (HX1.out.below hb)
      clear hb y0 y1 y2 y3
      obtain ⟨y0, y1, y2, y3⟩ := HX2.out
      have hmk := make_bools w2 P (by omega)
      have HM := Lib.hid (MkAt.made w2 P)
      have HB3 := Lib.hid (Below.chain HB2.out ((Below.refl _ w2).alloc (Nat.le_refl _) (.cells (Array.replicate P (.bool false)) 4)))
      refine Lib.hid ?_
      go_wp2_with (go_at_call 47; refine (K3.out _ HB3.out).mono ?_; rintro e w3 ⟨ve, vl, rfl, hv, hb⟩; refine Hid.out ?_)
      have hM := HM.out.below hb
      have hsz : w2.heap.size < (w2.alloc (.cells (Array.replicate P (.bool false)) 4)).heap.size := by simp
      have hv2 : VR (fun b => b < w3.heap.size ∧ b ≠ w2.heap.size) w3 ve vl P (esN (fun d => d.t) E) (lsN P (fun d => d.f) E) := hv.keep (KA.refl _ _) (fun b h1 h2 => ⟨h2, by omega⟩)
      have k4 := visit_any w3 (by omega) (fun p => Nat.le_trans (lsN_len P p _ E) (Nat.le_trans HL.out (by omega))) (by unfold esN; rw [List.length_map]; exact Nat.le_trans HL.out (by omega)) w2.heap.size f (fun _ => false) (by have := HN.out; omega) hv2 hM
      have K4 := Lib.hid k4; have HB4 := Lib.hid (Below.chain HB3.out hb); have HSZ := Lib.hid hsz; have HB34 := Lib.hid hb
      clear k4 hv2 hM hv hb hsz hmk
      refine Lib.hid ?_
      go_wp2_with (go_at_call 52; refine (K4.out).mono ?_; rintro e w4 ⟨t, v', rfl, g1, -, g3, g4, -⟩; refine Hid.out ?_)
      have hw2 : w.heap.size ≤ w2.heap.size := HB2.out.size
      have hfin : Below w.heap.size w w4 := HB4.out.trans ⟨g4.os, g4.tape, g4.output, g4.size, fun k hk => g4.block k (by have := HB4.out.size; omega) (by omega)⟩
      have G := Lib.hid (And.intro g1 g3); have HF := Lib.hid hfin; have HW := Lib.hid hw2
      clear g1 g3 g4 hfin hw2 K4
      refine Lib.hid ?_
      go_wp2
      refine bodyPost_ret (by first | (simp [results, Try.results19, go_sem]; done) | (simp [results, Try.results19, go_sem]; rfl)) rfl ?_
      exact ⟨HF.out, .inr (.inr ⟨H0.out, HP.out, w2.heap.size, t, rfl, G.out.1.congr (fun x => by simp), G.out.2, HW.out⟩)⟩
end Go.Proofs.Ytjjkabgbcflipaa
namespace Go.Proofs.Ytjjkabgbcflipaa
open Go Go.Proofs Go.RowKit

section
variable {P : Program} {ops : Array Oper} {Q : Exit → Act → World → Prop} {md : Region.Mode}
/-- How many operations are still to come. -/
def unl (ops : Array Oper) (listed : Array Bool) : Nat := ((List.range ops.size).filter fun i => !listed.getD i true).length
theorem unl_set {listed : Array Bool} {i : Nat} (hi : i < ops.size) (h : listed.getD i true = false) : unl ops (listed.setIfInBounds i true) + 1 ≤ unl ops listed := by
  have hl : i < listed.size := by
    rcases Nat.lt_or_ge i listed.size with q | q
    · exact q
    · simp [Array.getElem?_eq_none q] at h
  unfold unl
  generalize ops.size = n at hi ⊢
  induction n with
  | zero => omega
  | succ n ih =>
    rw [List.range_succ, List.filter_append, List.filter_append, List.length_append, List.length_append]
    by_cases e : i = n
    · subst e
      have h1 : ((List.range i).filter fun j => !(listed.setIfInBounds i true).getD j true).length ≤ ((List.range i).filter fun j => !listed.getD j true).length := by
        rw [← List.countP_eq_length_filter, ← List.countP_eq_length_filter]
        refine List.countP_mono_left fun x hx hh => ?_
        have hne : i ≠ x := by have := List.mem_range.1 hx; omega
        rwa [getD_set_ne true hne] at hh
      have h2 : ([i].filter fun j => !(listed.setIfInBounds i true).getD j true) = [] := by simp [hl]
      have h3 : ([i].filter fun j => !listed.getD j true) = [i] := by simp only [List.filter_cons, List.filter_nil, h]; rfl
      rw [h2, h3]; simp only [List.length_nil, List.length_singleton]; omega
    · have := ih (by omega)
      have h2 : ([n].filter fun j => !(listed.setIfInBounds i true).getD j true) = ([n].filter fun j => !listed.getD j true) := by
        simp only [List.filter_cons, List.filter_nil, getD_set_ne true e]
      rw [h2]; omega
/-- Where nothing is ready, all have come: each operation waits for ones before it. -/
def backB (md : Region.Mode) (ops : Array Oper) : Bool := (List.range ops.size).all fun i => (ops[i]?.map fun o => o.after.all fun e => !Region.binds md e || decide (e.on < i)).getD true
theorem all_listed (hb : backB md ops = true) {listed : Array Bool} (hr : Region.ready md ops listed = []) (hs : listed.size = ops.size) : ∀ i, i < ops.size → listed.getD i false = true := by
  intro i
  induction i using Nat.strongRecOn with
  | ind i ih =>
    intro hi
    cases h : listed.getD i true with
    | true => simpa [hs, hi] using h
    | false =>
      exfalso
      have : i ∈ Region.ready md ops listed := by
        refine mem_ready.2 ⟨h, ops[i], Array.getElem?_eq_getElem hi, fun e he hbind => ?_⟩
        unfold backB at hb
        rw [List.all_eq_true] at hb
        have h1 := hb i (List.mem_range.2 hi)
        rw [Array.getElem?_eq_getElem hi] at h1
        simp only [Option.map_some, Option.getD_some] at h1
        have h2 := Array.all_eq_true_iff_forall_mem.1 h1 e he
        rw [hbind] at h2
        have h3 : e.on < i := by simpa using h2
        exact ih _ h3 (by omega)
      rw [hr] at this; cases this
theorem wpAny_inv (hb : backB md ops = true) (I : Array Bool → Act → World → Prop)
    (hstep : ∀ listed a w i o, I listed a w → listed.size = ops.size → ops[i]? = some o → listed.getD i true = false → (∀ e ∈ o.after, Region.binds md e = true → listed.getD e.on false = true) →
      if Region.wanted o (yielded ops a.tmps) then o.wp P a w (I (listed.setIfInBounds i true)) Q else I (listed.setIfInBounds i true) (a.put o.dst undef) w)
    (hend : ∀ listed a w, I listed a w → (∀ i, i < ops.size → listed.getD i false = true) → Q .normal a w) :
    ∀ (k : Nat) (listed : Array Bool) (a : Act) (w : World), listed.size = ops.size → unl ops listed ≤ k → I listed a w → wpAny P md ops Q k listed a w := by
  intro k
  induction k with
  | zero =>
    intro listed a w hs hk h
    have hr : Region.ready md ops listed = [] := by
      rw [List.eq_nil_iff_forall_not_mem]
      intro i hi
      obtain ⟨h1, o, ho, -⟩ := mem_ready.1 hi
      have := unl_set (ops := ops) (Array.getElem?_eq_some_iff.1 ho).1 h1
      omega
    exact ⟨hr, hend listed a w h (all_listed hb hr hs)⟩
  | succ k ih =>
    intro listed a w hs hk h
    refine ⟨fun hr => hend listed a w h (all_listed hb hr hs), fun i hi => ?_⟩
    obtain ⟨h1, o, ho, h2⟩ := mem_ready.1 hi
    have hn := unl_set (ops := ops) (Array.getElem?_eq_some_iff.1 ho).1 h1
    have g := hstep listed a w i o h hs ho h1 h2
    unfold wpOp
    simp only [ho]
    have hsz : (listed.setIfInBounds i true).size = ops.size := by rw [Array.size_setIfInBounds]; exact hs
    split
    · rename_i hw
      rw [if_pos hw] at g
      exact .inl (Oper.wp_mono (fun a' w' g' => ih _ a' w' hsz (by omega) g') g)
    · rename_i hw
      rw [if_neg hw] at g
      exact ih _ _ _ hsz (by omega) g
theorem wp_region_inv {id : Nat} {a : Act} {w : World} (hm : P.follows .mixedOrders = true) (hb : backB .any ops = true) (I : Array Bool → Act → World → Prop)
    (h0 : I (Array.replicate ops.size false) a w.drew)
    (hstep : ∀ listed a w i o, I listed a w → listed.size = ops.size → ops[i]? = some o → listed.getD i true = false → (∀ e ∈ o.after, Region.binds .any e = true → listed.getD e.on false = true) →
      if Region.wanted o (yielded ops a.tmps) then o.wp P a w (I (listed.setIfInBounds i true)) Q else I (listed.setIfInBounds i true) (a.put o.dst undef) w)
    (hend : ∀ listed a w, I listed a w → (∀ i, i < ops.size → listed.getD i false = true) → Q .normal a w) : (Code.region id ops true).wp P Q a w :=
  wp_region_any hm (wpAny_inv hb I hstep hend _ _ _ _ (by simp) (by unfold unl; exact Nat.le_trans (List.length_filter_le _ _) (by simp)) h0)
end
end Go.Proofs.Ytjjkabgbcflipaa
