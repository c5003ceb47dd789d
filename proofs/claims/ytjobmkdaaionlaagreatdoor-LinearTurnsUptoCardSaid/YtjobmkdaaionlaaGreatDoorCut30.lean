import Derived.Laws.CopyOwn
import Derived.Deep.RegionHeld3
import Derived.OwnWalk
import Derived.Test.YtjobmkdaaionlaaGreatDoorCut29
import Derived.Test.YtjobmkdaaionlaaGreatDoorCut4
import Derived.Test.YtjobmkdaaionlaaGreatDoorCut28
import Derived.Test.YtjobmkdaaionlaaGreatDoorCut16

set_option linter.unusedVariables false
/-
  linear: zeros.
-/
set_option linter.unusedSimpArgs false
namespace Go.Proofs.YtjobmkdaaionlaaGreatDoor
open Go Go.Proofs Go.RowKit
def rep (z : ByteArray) (k n : Nat) : List Value := List.replicate k (Value.string z) ++ List.replicate (n - k) (Value.string ⟨#[]⟩)
theorem rep_zero (z : ByteArray) (n : Nat) : rep z 0 n = List.replicate n (Value.string ⟨#[]⟩) := by simp [rep]
theorem rep_length (z : ByteArray) {k n : Nat} (h : k ≤ n) : (rep z k n).length = n := by simp [rep]; omega
theorem rep_all (z : ByteArray) (n : Nat) : rep z n n = strCells (List.replicate n z) := by simp [rep, strCells]
theorem rep_splice (z : ByteArray) {k n m : Nat} (h : k + m ≤ n) : splice (rep z k n) k (List.replicate m (Value.string z)) = rep z (k + m) n := by
  unfold splice rep
  rw [List.take_append_of_le_length (by simp), List.take_of_length_le (by simp), List.length_replicate, List.drop_append, List.drop_eq_nil_of_le (by simp), List.nil_append, List.length_replicate, List.drop_replicate, ← List.append_assoc, List.replicate_append_replicate]
  congr 2
  omega
theorem rep_cell {w : World} {T : TypeId} {g : Nat} {z : ByteArray} {k n : Nat} (h : w.heap[g]? = some (.cells (rep z k n).toArray T (0, 0))) (j : Nat) (hj : j < k) : w.cell? ⟨g, j, none⟩ = some (.string z) := by
  have e : w.cell? ⟨g, j, none⟩ = (rep z k n).toArray[j]? := by simp [World.cell?, h]
  rw [e]
  simp only [List.getElem?_toArray]
  unfold rep
  rw [List.getElem?_append_left (by simpa using hj)]
  simp [hj]
theorem sizeRat : (Tryz.prog.info? 22).map (·.size) = some 1 := by kernel_rfl
theorem addr_plus (g o j : Nat) : ((⟨g, o, none⟩ : Addr).add j) = ⟨g, o + j, none⟩ := by simp [Addr.add]
theorem addr_zero (g j : Nat) : ((⟨g, 0, none⟩ : Addr).add j) = ⟨g, j, none⟩ := by rw [addr_plus, Nat.zero_add]
set_option maxRecDepth 20000 in
set_option maxHeartbeats 4000000 in
theorem repeat_any (n b : Nat) (z : ByteArray) (w : World) (hn : n ≤ 1000) (hc : w.cell? ⟨b, 0, none⟩ = some (.string z)) (hb : b < w.heap.size) :
    Calls Tryz.prog 80 #[.slice (some ⟨b, 0, none⟩) 1 1, .int .i64 n] w fun e w' => ∃ g, e = .returned (.slice (some ⟨g, 0, none⟩) n n) ∧ w'.heap[g]? = some (.cells (strCells (List.replicate n z)).toArray 22 (0, 0)) ∧ w.heap.size ≤ g ∧ Below w.heap.size w w' := by
  obtain ⟨i0, hi, hz0, hz1, hz2⟩ := info_parts infoRat
  have C : ∀ W : World, Calls Tryz.prog 104 #[.int .u64 1, .int .u64 n] W fun e w' => e = .returned (.tuple #[.int .u64 0, .int .u64 n]) ∧ w' = W := fun W => by
    have := Tryz.bits_Mul 1 n (by decide) (by omega) W
    rw [Nat.one_mul, Nat.div_eq_of_lt (by omega), Nat.mod_eq_of_lt (by omega)] at this
    exact this
  have hcW : ∀ W, Below w.heap.size w W → W.cell? ⟨b, 0, none⟩ = some (.string z) := fun W hW => (hW.cell (p := ⟨b, 0, none⟩) hb).trans hc
  have KC := Lib.hid C; have HCW := Lib.hid hcW; clear C hcW hc
  go_enter Tryz.func80, Tryz.ntmps80
  go_wp2_with (go_at_call 104; refine (KC.out _).mono ?_; rintro e w1 ⟨rfl, rfl⟩)
  obtain ⟨W0, hrun, hown, hg⟩ := run_make_full (P := Tryz.prog) w1 w1.heap.size 25 22 i0 (.string ⟨#[]⟩) 1 Tryz.underlying25 hi hz0 hz1 .i64 .i64 n (by rw [hz2]; omega) (by unfold maxLen; omega) (Nat.le_refl _)
  rw [hrun]
  rw [Nat.mul_one] at hown
  have hb0 := made_heap (T := 22) (n := n) hown
  have hB := below_of_grown hg
  clear hown hg hrun
  generalize hgg : w1.heap.size = g at hb0 ⊢
  have hcc := HCW.out W0 hB
  have HG := Lib.hid hgg; have HB := Lib.hid hB; have HB0 := Lib.hid hb0; clear hgg hB hb0
  have hgg : w1.heap.size ≤ g := by have := HG.out; omega
  have HGG := Lib.hid hgg; clear hgg
  rcases Nat.eq_zero_or_pos n with rfl | hn0
  · go_wp2_with (with_reducible refine wpList_copy_splice rfl (.tmp 31) (.tmp 32) _ _ rfl 22 Tryz.underlying25 (by kernel_rfl) _ _ _ _ _ _ rfl rfl g 0 (List.replicate 0 (.string ⟨#[]⟩)) 22 HB0.out [] rfl (by simp) (by simp) (by simp) w1.heap.size w1 HB.out HGG.out ?_)
    intro w2 hg2 hb2
    have HB2 := Lib.hid hb2; clear hb2
    go_wp2_with fail
    go_loopw [8] (fun iv wr => iv = .int .i64 0 ∧ wr = w2) (fun _ _ => 0)
    case atStart => exact ⟨rfl, rfl⟩
    case round =>
      obtain ⟨rfl, rfl⟩ := hrel
      go_wp2
      refine bodyPost_ret (v := .slice (some ⟨g, 0, none⟩) 0 0) (by simp [results, Tryz.results80, go_sem]) rfl ?_
      refine ⟨g, rfl, ?_, HGG.out, HB2.out⟩
      have := hg2.out
      rw [this]; rfl
  · have hone : ∀ v ∈ [Value.string z], v.oneCell' = true := by intro v hv; simp at hv; subst hv; rfl
    have hsrc : ∀ (j : Nat) (v : Value), [Value.string z][j]? = some v → W0.cell? ((⟨b, 0, none⟩ : Addr).add j) = some v := by
      intro j v hv
      match j, hv with
      | 0, hv => simp at hv; subst hv; exact hcc
    go_wp2_with (with_reducible refine wpList_copy_splice rfl (.tmp 31) (.tmp 32) _ _ rfl 22 Tryz.underlying25 (by kernel_rfl) _ _ _ _ _ _ rfl rfl g 0 (List.replicate n (.string ⟨#[]⟩)) 22 HB0.out [.string z] (by simp [Nat.min_def]; omega) (fun _ => ⟨rfl, _, rfl, hsrc⟩) (by simp; omega) hone w1.heap.size w1 HB.out HGG.out ?_)
    intro w2 hg2 hb2
    have e2 : splice (List.replicate n (Value.string ⟨#[]⟩)) 0 [Value.string z] = rep z 1 n := by rw [← rep_zero z n]; exact rep_splice z (k := 0) (m := 1) (by omega)
    have h2 := hg2.out
    rw [e2] at h2
    have H2 := Lib.hid h2; have HB2 := Lib.hid hb2; clear hb2 h2 e2 hone hsrc hg2
    go_wp2_with fail
    go_loopw [8] (fun iv wr => ∃ k : Nat, k ≤ n ∧ 0 < k ∧ iv = .int .i64 k ∧ wr.heap[g]? = some (.cells (rep z k n).toArray 22 (0, 0)) ∧ Below w1.heap.size w1 wr) (fun iv _ => n - (intOf iv).toNat)
    case atStart => exact ⟨1, by omega, by omega, rfl, H2.out, HB2.out⟩
    case round =>
      obtain ⟨k, hk, hk0, rfl, hr, hbw⟩ := hrel
      have HR := Lib.hid hr; have HBW := Lib.hid hbw; clear hr hbw
      by_cases hlt : k < n
      · have hpos : 0 < (List.replicate (Nat.min k (n - k)) (Value.string z)).length → (some (⟨g, k, none⟩ : Addr)) = some ⟨g, k, none⟩ ∧ ∃ ad, (some (⟨g, 0, none⟩ : Addr)) = some ad ∧ ∀ (j : Nat) (v : Value), (List.replicate (Nat.min k (n - k)) (Value.string z))[j]? = some v → wr.drew.cell? (ad.add j) = some v := by
          intro _
          refine ⟨rfl, _, rfl, fun j v hv => ?_⟩
          have hj := (List.getElem?_eq_some_iff.1 hv).1
          simp at hj
          have hv' : v = .string z := by
            have := List.mem_of_getElem? hv
            exact List.eq_of_mem_replicate this
          subst hv'
          rw [addr_zero g j]
          exact rep_cell (w := wr) HR.out j (by have : Nat.min k (n - k) ≤ k := Nat.min_le_left _ _; omega)
        have hfit : k + (List.replicate (Nat.min k (n - k)) (Value.string z)).length ≤ (rep z k n).length := by
          rw [rep_length z hk]; simp; have : Nat.min k (n - k) ≤ n - k := Nat.min_le_right _ _; omega
        have hone : ∀ v ∈ List.replicate (Nat.min k (n - k)) (Value.string z), v.oneCell' = true := by intro v hv; obtain rfl := List.eq_of_mem_replicate hv; rfl
        have hm1 : Nat.min k (n - k) ≤ n - k := Nat.min_le_right _ _
        have hm0 : 0 < Nat.min k (n - k) := Nat.lt_min.2 ⟨hk0, by omega⟩
        have hsp := rep_splice z (k := k) (n := n) (m := Nat.min k (n - k)) (by omega)
        have HPOS := Lib.hid hpos; have HFIT := Lib.hid hfit; have HONE := Lib.hid hone; have HSP := Lib.hid hsp; clear hpos hfit hone hsp
        generalize hmm : Nat.min k (n - k) = m at *
        have hlen : (List.replicate m (Value.string z)).length = Nat.min k (n - k) := by rw [List.length_replicate]; exact hmm.symm
        have HLEN := Lib.hid hlen; clear hmm hlen
        have hnk : ¬ n = k := by omega
        have q0 : (0 : Int) ≤ (k : Int) := by omega
        have q1 : (k : Int) ≤ (n : Int) := by omega
        have q2 : IntKind.i64.wrap ((k : Int) + (m : Int)) = ((k + m : Nat) : Int) := by rw [IntKind.wrap_i64]; omega
        have hrd : wr.drew.heap[g]? = some (.cells (rep z k n).toArray 22 (0, 0)) := HR.out
        have HRD := Lib.hid hrd; have HBD := Lib.hid HBW.out.drew; clear hrd
        go_wp2_with fail
        go_region_held3 (fun _ => True) (exact trivial) ((refine step_copy_splice (by rfl) (.tmp 41) (.tmp 44) 25 25 (by rfl) 22 Tryz.underlying25 sizeRat (some ⟨g, k, none⟩) (some ⟨g, 0, none⟩) (n - k) (n - k) k n (by simp [Act.eval, Act.put]) (by simp [Act.eval, Act.put]) g k (rep z k n) 22 HRD.out (List.replicate m (.string z)) HLEN.out (fun h => ⟨rfl, (HPOS.out h).2⟩) HFIT.out HONE.out w1.heap.size w1 HBD.out HGG.out ?_; intro w4 hg4 hb4))
        have h4 := hg4.out
        rw [HSP.out] at h4
        have H4 := Lib.hid h4; have HB4 := Lib.hid hb4; clear h4 hg4 hb4 q2
        go_wp2
        go_roundw
        case rel => exact ⟨k + m, by omega, by omega, by go_num, H4.out, HB4.out⟩
        case measure => simp [intOf]; omega
      · have hkn : k = n := by omega
        subst hkn
        have HR2 := Lib.hid (rep_all z k ▸ HR.out)
        go_wp2
        refine bodyPost_ret (v := .slice (some ⟨g, 0, none⟩) k k) (by simp [results, Tryz.results80, go_sem]) rfl ?_
        exact ⟨g, rfl, HR2.out, HGG.out, HBW.out⟩
theorem infoInt : (Tryz.prog.info? 41).map (fun i => (i.zero, i.size, i.bytes)) = some (some (.string ⟨#[]⟩), 1, 16) := by kernel_rfl
set_option maxRecDepth 20000 in
set_option maxHeartbeats 4000000 in
theorem mapped_sum (l : List ByteArray) (G : Nat → ByteArray) (ao : Option Addr) (c : Nat) (p : Value) (w : World) (hr : SRow w ao c l) (hn : l.length ≤ 1000)
    (hK : ∀ (j : Nat) (hj : j < l.length) (W : World), Below w.heap.size w W → Calls Tryz.prog 82 #[.int .i64 (j : Int), .string (l[j]'hj), p] W (Bret (.string (G j)) W)) :
    Calls Tryz.prog 81 #[.slice ao l.length c, .func (.func 82) #[] #[p]] w fun e w' => ∃ b, e = .returned (.slice (some ⟨b, 0, none⟩) l.length l.length) ∧ XBlk 22 w' b ((List.range l.length).map G) ∧ w.heap.size ≤ b ∧ Below w.heap.size w w' := by
  obtain ⟨i0, hi, hz0, hz1, hz2⟩ := info_parts infoRat
  have hg : ∀ W, Below w.heap.size w W → ∀ j (hj : j < l.length), ∃ b off, ao = some ⟨b, off, none⟩ ∧ b < W.heap.size ∧ W.cell? ⟨b, off + j, none⟩ = some (.string (l[j]'hj)) := fun W hW => (hr.mono hW).get
  have HGET := Lib.hid hg; have HK := Lib.hid hK
  clear hg hK hr
  generalize hlen : l.length = n at hn ⊢
  have HLEN := Lib.hid hlen; clear hlen
  go_enter Tryz.func81, Tryz.ntmps81
  go_wp2_with (at_make; refine wpList_make_full _ rfl _ _ 25 rfl w.heap.size 22 i0 (.string ⟨#[]⟩) 1 Tryz.underlying25 hi hz0 hz1 .i64 .i64 _ _ n rfl rfl ?a1 ?a2 ?a3 ?a4 ?a5 ?_)
  case a1 => rfl
  case a2 => rfl
  case a3 => rw [hz2]; omega
  case a4 => unfold maxLen; omega
  case a5 => exact Nat.le_refl _
  intro W0 hown hgr
  have hb0 := xblk_of_made hown
  have hB := below_of_grown hgr
  clear hown hgr
  generalize hgg : w.heap.size = g at hb0 ⊢
  have HG := Lib.hid hgg; have HB := Lib.hid hB; have HB0 := Lib.hid hb0; clear hgg hB hb0
  go_wp2_with fail
  go_loopw [13] (fun iv wr => ∃ j : Nat, j ≤ n ∧ iv = .int .i64 j ∧ XBlk 22 wr g (fillL G j n) ∧ W0.grownBy wr (some g)) (fun iv _ => n - (intOf iv).toNat)
  case atStart => exact ⟨0, Nat.zero_le _, rfl, by rw [fillL_zero]; exact HB0.out, grown_refl _ _⟩
  case round =>
    obtain ⟨j, hj, rfl, hbl, hgr⟩ := hrel
    have hbw : Below w.heap.size w wr := below_grown HB.out hgr (by have := HG.out; omega)
    have HBL := Lib.hid hbl; have HGR := Lib.hid hgr; have HBW := Lib.hid hbw
    clear hbl hgr hbw
    by_cases hlt : j < n
    · have hlt' : j < l.length := by rw [HLEN.out]; exact hlt
      obtain ⟨b, off, rfl, hbl, ck⟩ := HGET.out wr HBW.out j hlt'
      have C := HK.out j hlt' wr HBW.out
      have hset := fillL_set G hlt
      have hfl := fillL_length G hj
      generalize l[j]'hlt' = sk at *
      have KC := Lib.hid C; have HSET := Lib.hid hset; have HFL := Lib.hid hfl; clear C hset hfl
      go_wp2_with (go_at_call 82; refine KC.out.mono ?_; rintro e w3 ⟨rfl, hb3⟩; refine Hid.out ?_)
      have B3 := HBL.out.keep hb3
      have cs := B3.cell j (by rw [HFL.out]; exact hlt)
      have fs := B3.frozen j
      have hs := B3.set j (by rw [HFL.out]; exact hlt) (G j)
      rw [HSET.out] at hs
      have HSE := Lib.hid hs; have HG3 := Lib.hid (grown_set (grown_below HGR.out hb3) j (.string (G j))); clear hs B3 hb3
      generalize (fillL G j n)[j]'_ = old at cs
      refine Lib.hid ?_
      go_wp2
      go_roundw
      case rel => exact ⟨j + 1, by omega, by go_num, HSE.out, HG3.out⟩
      case measure => simp [intOf]; omega
    · have hjn : j = n := by omega
      subst hjn
      have h1 := HBL.out
      rw [fillL_all] at h1
      have H1 := Lib.hid h1; clear h1
      go_wp2
      refine bodyPost_ret (v := .slice (some ⟨g, 0, none⟩) j j) (by simp [results, Tryz.results81, go_sem]) rfl ?_
      exact ⟨g, rfl, H1.out, by have := HG.out; omega, HBW.out⟩
set_option maxRecDepth 20000 in
set_option maxHeartbeats 4000000 in
theorem mapped_multiple (l : List ByteArray) (G : Nat → ByteArray) (ao : Option Addr) (c : Nat) (p : Value) (w : World) (hr : SRow w ao c l) (hn : l.length ≤ 1000)
    (hK : ∀ (j : Nat) (hj : j < l.length) (W : World), Below w.heap.size w W → Calls Tryz.prog 96 #[.int .i64 (j : Int), .string (l[j]'hj), p] W (Bret (.string (G j)) W)) :
    Calls Tryz.prog 81 #[.slice ao l.length c, .func (.func 96) #[] #[p]] w fun e w' => ∃ b, e = .returned (.slice (some ⟨b, 0, none⟩) l.length l.length) ∧ XBlk 22 w' b ((List.range l.length).map G) ∧ w.heap.size ≤ b ∧ Below w.heap.size w w' := by
  obtain ⟨i0, hi, hz0, hz1, hz2⟩ := info_parts infoRat
  have hg : ∀ W, Below w.heap.size w W → ∀ j (hj : j < l.length), ∃ b off, ao = some ⟨b, off, none⟩ ∧ b < W.heap.size ∧ W.cell? ⟨b, off + j, none⟩ = some (.string (l[j]'hj)) := fun W hW => (hr.mono hW).get
  have HGET := Lib.hid hg; have HK := Lib.hid hK
  clear hg hK hr
  generalize hlen : l.length = n at hn ⊢
  have HLEN := Lib.hid hlen; clear hlen
  go_enter Tryz.func81, Tryz.ntmps81
  go_wp2_with (at_make; refine wpList_make_full _ rfl _ _ 25 rfl w.heap.size 22 i0 (.string ⟨#[]⟩) 1 Tryz.underlying25 hi hz0 hz1 .i64 .i64 _ _ n rfl rfl ?a1 ?a2 ?a3 ?a4 ?a5 ?_)
  case a1 => rfl
  case a2 => rfl
  case a3 => rw [hz2]; omega
  case a4 => unfold maxLen; omega
  case a5 => exact Nat.le_refl _
  intro W0 hown hgr
  have hb0 := xblk_of_made hown
  have hB := below_of_grown hgr
  clear hown hgr
  generalize hgg : w.heap.size = g at hb0 ⊢
  have HG := Lib.hid hgg; have HB := Lib.hid hB; have HB0 := Lib.hid hb0; clear hgg hB hb0
  go_wp2_with fail
  go_loopw [13] (fun iv wr => ∃ j : Nat, j ≤ n ∧ iv = .int .i64 j ∧ XBlk 22 wr g (fillL G j n) ∧ W0.grownBy wr (some g)) (fun iv _ => n - (intOf iv).toNat)
  case atStart => exact ⟨0, Nat.zero_le _, rfl, by rw [fillL_zero]; exact HB0.out, grown_refl _ _⟩
  case round =>
    obtain ⟨j, hj, rfl, hbl, hgr⟩ := hrel
    have hbw : Below w.heap.size w wr := below_grown HB.out hgr (by have := HG.out; omega)
    have HBL := Lib.hid hbl; have HGR := Lib.hid hgr; have HBW := Lib.hid hbw
    clear hbl hgr hbw
    by_cases hlt : j < n
    · have hlt' : j < l.length := by rw [HLEN.out]; exact hlt
      obtain ⟨b, off, rfl, hbl, ck⟩ := HGET.out wr HBW.out j hlt'
      have C := HK.out j hlt' wr HBW.out
      have hset := fillL_set G hlt
      have hfl := fillL_length G hj
      generalize l[j]'hlt' = sk at *
      have KC := Lib.hid C; have HSET := Lib.hid hset; have HFL := Lib.hid hfl; clear C hset hfl
      go_wp2_with (go_at_call 96; refine KC.out.mono ?_; rintro e w3 ⟨rfl, hb3⟩; refine Hid.out ?_)
      have B3 := HBL.out.keep hb3
      have cs := B3.cell j (by rw [HFL.out]; exact hlt)
      have fs := B3.frozen j
      have hs := B3.set j (by rw [HFL.out]; exact hlt) (G j)
      rw [HSET.out] at hs
      have HSE := Lib.hid hs; have HG3 := Lib.hid (grown_set (grown_below HGR.out hb3) j (.string (G j))); clear hs B3 hb3
      generalize (fillL G j n)[j]'_ = old at cs
      refine Lib.hid ?_
      go_wp2
      go_roundw
      case rel => exact ⟨j + 1, by omega, by go_num, HSE.out, HG3.out⟩
      case measure => simp [intOf]; omega
    · have hjn : j = n := by omega
      subst hjn
      have h1 := HBL.out
      rw [fillL_all] at h1
      have H1 := Lib.hid h1; clear h1
      go_wp2
      refine bodyPost_ret (v := .slice (some ⟨g, 0, none⟩) j j) (by simp [results, Tryz.results81, go_sem]) rfl ?_
      exact ⟨g, rfl, H1.out, by have := HG.out; omega, HBW.out⟩
set_option maxRecDepth 20000 in
set_option maxHeartbeats 4000000 in
theorem mapped_integral (l : List ByteArray) (G : Nat → ByteArray) (ao : Option Addr) (c : Nat) (p : Value) (w : World) (hr : SRow w ao c l) (hn : l.length ≤ 1000)
    (hK : ∀ (j : Nat) (hj : j < l.length) (W : World), Below w.heap.size w W → Calls Tryz.prog 60 #[.int .i64 (j : Int), .string (l[j]'hj), p] W (Bret (.string (G j)) W)) :
    Calls Tryz.prog 59 #[.slice ao l.length c, .func (.func 60) #[] #[p]] w fun e w' => ∃ b, e = .returned (.slice (some ⟨b, 0, none⟩) l.length l.length) ∧ XBlk 41 w' b ((List.range l.length).map G) ∧ w.heap.size ≤ b ∧ Below w.heap.size w w' := by
  obtain ⟨i0, hi, hz0, hz1, hz2⟩ := info_parts infoInt
  have hg : ∀ W, Below w.heap.size w W → ∀ j (hj : j < l.length), ∃ b off, ao = some ⟨b, off, none⟩ ∧ b < W.heap.size ∧ W.cell? ⟨b, off + j, none⟩ = some (.string (l[j]'hj)) := fun W hW => (hr.mono hW).get
  have HGET := Lib.hid hg; have HK := Lib.hid hK
  clear hg hK hr
  generalize hlen : l.length = n at hn ⊢
  have HLEN := Lib.hid hlen; clear hlen
  go_enter Tryz.func59, Tryz.ntmps59
  go_wp2_with (at_make; refine wpList_make_full _ rfl _ _ 40 rfl w.heap.size 41 i0 (.string ⟨#[]⟩) 1 Tryz.underlying40 hi hz0 hz1 .i64 .i64 _ _ n rfl rfl ?a1 ?a2 ?a3 ?a4 ?a5 ?_)
  case a1 => rfl
  case a2 => rfl
  case a3 => rw [hz2]; omega
  case a4 => unfold maxLen; omega
  case a5 => exact Nat.le_refl _
  intro W0 hown hgr
  have hb0 := xblk_of_made hown
  have hB := below_of_grown hgr
  clear hown hgr
  generalize hgg : w.heap.size = g at hb0 ⊢
  have HG := Lib.hid hgg; have HB := Lib.hid hB; have HB0 := Lib.hid hb0; clear hgg hB hb0
  go_wp2_with fail
  go_loopw [13] (fun iv wr => ∃ j : Nat, j ≤ n ∧ iv = .int .i64 j ∧ XBlk 41 wr g (fillL G j n) ∧ W0.grownBy wr (some g)) (fun iv _ => n - (intOf iv).toNat)
  case atStart => exact ⟨0, Nat.zero_le _, rfl, by rw [fillL_zero]; exact HB0.out, grown_refl _ _⟩
  case round =>
    obtain ⟨j, hj, rfl, hbl, hgr⟩ := hrel
    have hbw : Below w.heap.size w wr := below_grown HB.out hgr (by have := HG.out; omega)
    have HBL := Lib.hid hbl; have HGR := Lib.hid hgr; have HBW := Lib.hid hbw
    clear hbl hgr hbw
    by_cases hlt : j < n
    · have hlt' : j < l.length := by rw [HLEN.out]; exact hlt
      obtain ⟨b, off, rfl, hbl, ck⟩ := HGET.out wr HBW.out j hlt'
      have C := HK.out j hlt' wr HBW.out
      have hset := fillL_set G hlt
      have hfl := fillL_length G hj
      generalize l[j]'hlt' = sk at *
      have KC := Lib.hid C; have HSET := Lib.hid hset; have HFL := Lib.hid hfl; clear C hset hfl
      go_wp2_with (go_at_call 60; refine KC.out.mono ?_; rintro e w3 ⟨rfl, hb3⟩; refine Hid.out ?_)
      have B3 := HBL.out.keep hb3
      have cs := B3.cell j (by rw [HFL.out]; exact hlt)
      have fs := B3.frozen j
      have hs := B3.set j (by rw [HFL.out]; exact hlt) (G j)
      rw [HSET.out] at hs
      have HSE := Lib.hid hs; have HG3 := Lib.hid (grown_set (grown_below HGR.out hb3) j (.string (G j))); clear hs B3 hb3
      generalize (fillL G j n)[j]'_ = old at cs
      refine Lib.hid ?_
      go_wp2
      go_roundw
      case rel => exact ⟨j + 1, by omega, by go_num, HSE.out, HG3.out⟩
      case measure => simp [intOf]; omega
    · have hjn : j = n := by omega
      subst hjn
      have h1 := HBL.out
      rw [fillL_all] at h1
      have H1 := Lib.hid h1; clear h1
      go_wp2
      refine bodyPost_ret (v := .slice (some ⟨g, 0, none⟩) j j) (by simp [results, Tryz.results59, go_sem]) rfl ?_
      exact ⟨g, rfl, H1.out, by have := HG.out; omega, HBW.out⟩
theorem StrsAt.on {w W : World} {b : Nat} {ss : List ByteArray} (h : StrsAt w b ss) (hb : b < w.heap.size) (g : Below w.heap.size w W) : StrsAt W b ss := fun j hj => (g.cell (p := ⟨b, j, none⟩) hb).trans (h j hj)
theorem rstr_lit {s : ByteArray} {q : Rat} (h : bytes s = ratL q) (h1 : (Lib.decDigits q.num.natAbs).length ≤ 4096) (h2 : (Lib.decDigits q.den).length ≤ 4096) : RStr s q :=
  ⟨h, str_itoa h1, str_itoa (by rwa [Int.natAbs_natCast])⟩
theorem ratR2_at {s t : ByteArray} {p q : Rat} (f : Rat → Rat → Value) (hs : RStr s p) (ht : RStr t q) : ratR2 f (bytes s) (bytes t) = f p q := by
  unfold ratR2 rerrBoth
  rw [hs.rerr, if_pos rfl, ht.rerr, if_pos rfl, hs.val, ht.val]
def q1 : Rat := ⟨1, 1, by decide, by decide⟩
def q0 : Rat := ⟨0, 1, by decide, by decide⟩
theorem q0_str : RStr ⟨#[48]⟩ q0 := rstr_lit (by decide +kernel) (by decide +kernel) (by decide +kernel)
theorem s4 : Str ⟨#[52]⟩ 4 := str_lit (by decide) (by decide) (by decide)
theorem s3 : Str ⟨#[51]⟩ 3 := str_lit (by decide) (by decide) (by decide)
def Sz (k : Nat) (x : Int) : Prop := x.natAbs < 10 ^ k
theorem Sz.mono {j k : Nat} {x : Int} (h : Sz j x) (hjk : j ≤ k) : Sz k x := Nat.lt_of_lt_of_le h (Nat.pow_le_pow_right (by decide) hjk)
theorem Sz.add {k : Nat} {x y : Int} (h1 : Sz k x) (h2 : Sz k y) : Sz (k + 1) (x + y) := by
  unfold Sz at *
  rw [Nat.pow_succ]
  generalize (10 : Nat) ^ k = p at *
  omega
theorem Sz.mul {j k : Nat} {x y : Int} (h1 : Sz j x) (h2 : Sz k y) : Sz (j + k) (x * y) := by
  unfold Sz at *
  rw [Int.natAbs_mul, Nat.pow_add]
  exact Nat.mul_lt_mul'' h1 h2
theorem Sz.fits {k : Nat} {x : Int} (h : Sz k x) (h0 : 0 < k) (hk : k ≤ 4096) : ¬ 4096 < (Lib.decDigits x.natAbs).length := fits_of_lt k h h0 hk
theorem Sz.str {k : Nat} {x : Int} (h : Sz k x) (h0 : 0 < k) (hk : k ≤ 4096) : Str (str (Lib.itoa x)) x := str_itoa (Nat.le_of_not_lt (h.fits h0 hk))
structure RZ (k : Nat) (q : Rat) : Prop where
  num : Sz k q.num
  den : Sz k (q.den : Int)
theorem RZ.mono {j k : Nat} {q : Rat} (h : RZ j q) (hk : j ≤ k) : RZ k q := ⟨h.num.mono hk, h.den.mono hk⟩
theorem RZ.pos {k : Nat} {q : Rat} (h : RZ k q) : 0 < k := by
  have h1 := h.den; have h2 := q.den_pos
  unfold Sz at h1
  rcases Nat.eq_zero_or_pos k with rfl | hk
  · simp at h1; omega
  · exact hk
theorem RZ.rs {k : Nat} {q : Rat} (h : RZ k q) (hk : k ≤ 4096) : RatS q := ⟨h.num.str h.pos hk, h.den.str h.pos hk⟩
theorem fits_sz {k : Nat} {z : Int} (h : Sz k z) (h0 : 0 < k) (hk : k ≤ 4096) : decide (Fits z) = true := decide_eq_true (h.fits h0 hk)
theorem RZ.divInt {k : Nat} {x y : Int} (hx : Sz k x) (hy : Sz k y) (h0 : y ≠ 0) : RZ k (Rat.divInt x y) := by
  obtain ⟨e1, e2⟩ := reduced_parts (x := x) h0
  have hg := sgcd_ne (x := x) h0
  refine ⟨?_, ?_⟩
  · rw [← e1]; exact Nat.lt_of_le_of_lt (fdiv_le x _ hg) hx
  · rw [← e2]; exact Nat.lt_of_le_of_lt (fdiv_le y _ hg) hy
theorem RZ.cross {i j : Nat} {p q : Rat} (hp : RZ i p) (hq : RZ j q) : Sz (i + j) (p.num * q.den) ∧ Sz (i + j) (q.num * p.den) ∧ Sz (i + j) ((p.den : Int) * q.den) ∧ Sz (i + j) (p.num * q.num) ∧ Sz (i + j) ((p.den : Int) * q.num) :=
  ⟨hp.num.mul hq.den, by rw [Nat.add_comm]; exact hq.num.mul hp.den, hp.den.mul hq.den, hp.num.mul hq.num, hp.den.mul hq.num⟩
theorem RZ.add {i j : Nat} {p q : Rat} (hp : RZ i p) (hq : RZ j q) : RZ (i + j + 1) (p + q) := by
  obtain ⟨h1, h2, h3, -, -⟩ := hp.cross hq
  rw [← divInt_add]
  exact RZ.divInt (h1.add h2) (h3.mono (by omega)) (den_mul_ne p q)
theorem RZ.mul {i j : Nat} {p q : Rat} (hp : RZ i p) (hq : RZ j q) : RZ (i + j) (p * q) := by
  obtain ⟨-, -, h3, h4, -⟩ := hp.cross hq
  rw [← divInt_mul]
  exact RZ.divInt h4 h3 (den_mul_ne p q)
theorem addF_ok {i j : Nat} {p q : Rat} (hp : RZ i p) (hq : RZ j q) (hk : i + j + 1 ≤ 4096) : addF p q = true := by
  obtain ⟨h1, h2, h3, -, -⟩ := hp.cross hq
  have h0 := hp.pos
  unfold addF
  rw [fits_sz h1 (by omega) (by omega), fits_sz h2 (by omega) (by omega), fits_sz (h1.add h2) (by omega) hk, fits_sz h3 (by omega) (by omega)]; rfl
theorem mulF_ok {i j : Nat} {p q : Rat} (hp : RZ i p) (hq : RZ j q) (hk : i + j ≤ 4096) : mulF p q = true := by
  obtain ⟨-, -, h3, h4, -⟩ := hp.cross hq
  have h0 := hp.pos
  unfold mulF
  rw [fits_sz h4 (by omega) hk, fits_sz h3 (by omega) hk]; rfl
theorem ratL_len (q : Rat) : (ratL q).length ≤ (Lib.itoa q.num).length + (Lib.itoa (q.den : Int)).length + 1 := by
  unfold ratL; split
  · omega
  · rw [List.length_append, List.length_cons]; omega
theorem RStr.size {s : ByteArray} {q : Rat} (h : RStr s q) : s.size ≤ 9000 := by
  have h1 : (bytes s).length = s.size := rfl
  have h2 := ratL_len q
  have h3 := h.rs.num.size; have h4 := h.rs.den.size
  rw [str_size] at h3 h4
  rw [h.text] at h1
  omega
theorem RStr.short {s : ByteArray} {q : Rat} {k : Nat} (h : RStr s q) (hs : s.size ≤ k) (h0 : 0 < k) : RZ k q := by
  have h1 : (bytes s).length = s.size := rfl
  rw [h.text] at h1
  have ha : (Lib.itoa q.num).length ≤ k ∧ (Lib.itoa (q.den : Int)).length ≤ k := by
    unfold ratL at h1
    split at h1
    · next hd => rw [hd]; refine ⟨by omega, ?_⟩; rw [show Lib.itoa ((1 : Nat) : Int) = [49] from itoa_one]; simp; omega
    · rw [List.length_append, List.length_cons] at h1; omega
  have hb : ∀ z : Int, (Lib.itoa z).length ≤ k → Sz k z := fun z hz => by
    have : (Lib.decDigits z.natAbs).length ≤ (Lib.itoa z).length := by
      by_cases hn : z < 0
      · rw [itoa_neg hn]; simp
      · rw [itoa_nonneg hn]; exact Nat.le_refl _
    exact dec_pow (by omega)
  exact ⟨hb _ ha.1, hb _ ha.2⟩
theorem raddS {s t : ByteArray} {p q : Rat} {i j : Nat} (hs : RStr s p) (ht : RStr t q) (hi : RZ i p) (hj : RZ j q) (hk : i + j + 1 ≤ 4096) (w : World) (htab : Lib.TabIs Tryz.prog w "internal/strconv.uint64pow10" .u64 Lib.pow10Tab) :
    Calls Tryz.prog 70 #[.string s, .string t] w (Bret (.tuple #[.string (str (ratL (p + q))), .int .i64 0]) w) := by
  have := ratAdd s t w (by have := hs.size; omega) (by have := ht.size; omega) htab
  rwa [ratR2_at addQ hs ht, show addQ p q = _ from if_pos (addF_ok hi hj hk)] at this
theorem rmulS {s t : ByteArray} {p q : Rat} {i j : Nat} (hs : RStr s p) (ht : RStr t q) (hi : RZ i p) (hj : RZ j q) (hk : i + j ≤ 4096) (w : World) (htab : Lib.TabIs Tryz.prog w "internal/strconv.uint64pow10" .u64 Lib.pow10Tab) :
    Calls Tryz.prog 40 #[.string s, .string t] w (Bret (.tuple #[.string (str (ratL (p * q))), .int .i64 0]) w) := by
  have := ratMul s t w (by have := hs.size; omega) (by have := ht.size; omega) htab
  rwa [ratR2_at mulQ hs ht, show mulQ p q = _ from if_pos (mulF_ok hi hj hk)] at this
theorem ratL_int (z : Int) : ratL (z : Rat) = Lib.itoa z := by unfold ratL; rw [if_pos (Rat.den_intCast z), Rat.num_intCast]
theorem zero_rstr : RStr ⟨#[48]⟩ 0 := q0_str
def tq (q : Rat) : ByteArray := str (ratL q)
def rv (s : ByteArray) : Rat := ratV (bytes s)
structure Good (k : Nat) (s : ByteArray) : Prop where
  text : bytes s = ratL (rv s)
  rz : RZ k (rv s)
theorem rv_tq (q : Rat) : rv (tq q) = q := by unfold rv tq; rw [bytes_str]; exact ratV_rat q
theorem Good.tq {k : Nat} {q : Rat} (h : RZ k q) : Good k (tq q) := ⟨by rw [rv_tq]; exact bytes_str _, by rw [rv_tq]; exact h⟩
theorem Good.lit {k : Nat} {s : ByteArray} (h : Good k s) : Go.Proofs.YtjobmkdaaionlaaGreatDoor.tq (rv s) = s := by unfold Go.Proofs.YtjobmkdaaionlaaGreatDoor.tq; rw [← h.text, str_bytes]
theorem Good.rstr {k : Nat} {s : ByteArray} (h : Good k s) (hk : k ≤ 4096) : RStr s (rv s) := ⟨h.text, h.rz.rs hk⟩
theorem Good.mono {j k : Nat} {s : ByteArray} (h : Good j s) (hk : j ≤ k) : Good k s := ⟨h.text, h.rz.mono hk⟩
theorem Good.size {k : Nat} {s : ByteArray} (h : Good k s) (hk : k ≤ 4096) : s.size ≤ 9000 := (h.rstr hk).size
theorem rz_of_short {q : Rat} (h : shortQ q = true) : RZ 100 q := by
  unfold shortQ at h
  rw [Bool.and_eq_true, decide_eq_true_eq, decide_eq_true_eq] at h
  exact ⟨dec_pow h.1, dec_pow (by rw [Int.natAbs_natCast]; exact h.2)⟩
theorem good_of_numE {s : ByteArray} (h : numE (bytes s) = 0) : Good 100 s := by
  obtain ⟨h1, h2⟩ := numE_zero h
  have h3 := rstr_of_rerr h1
  refine ⟨h3.text, rz_of_short ?_⟩
  rw [← shortN_rat]
  show shortN (ratL (rv s)) = true
  rw [show ratL (rv s) = bytes s from h3.text.symm]
  exact h2
theorem numE_good {k : Nat} {s : ByteArray} (h : Good k s) (hk : k ≤ 4096) : numE (bytes s) = if shortN (bytes s) = true then 0 else 10 := by
  unfold numE; rw [if_pos (h.rstr hk).rerr]
def mulT (s t : ByteArray) : ByteArray := tq (rv s * rv t)
def addT (s t : ByteArray) : ByteArray := tq (rv s + rv t)
theorem rv_mul (s t : ByteArray) : rv (mulT s t) = rv s * rv t := rv_tq _
theorem Good.mul {i j : Nat} {s t : ByteArray} (hs : Good i s) (ht : Good j t) : Good (i + j) (mulT s t) := Good.tq (hs.rz.mul ht.rz)
theorem Good.add {i j : Nat} {s t : ByteArray} (hs : Good i s) (ht : Good j t) : Good (i + j + 1) (addT s t) := Good.tq (hs.rz.add ht.rz)
theorem tq0 : tq 0 = ⟨#[48]⟩ := zero_rstr.lit
theorem good0 {k : Nat} (h : 0 < k) : Good k ⟨#[48]⟩ := by rw [← tq0]; exact Good.tq ⟨by show (0 : Int).natAbs < _; exact Nat.pow_pos (by decide), by show Int.natAbs 1 < _; exact Nat.one_lt_pow (by omega) (by decide)⟩
theorem raddG {s t : ByteArray} {i j : Nat} (hs : Good i s) (ht : Good j t) (hk : i + j + 1 ≤ 4096) (w : World) (htab : Lib.TabIs Tryz.prog w "internal/strconv.uint64pow10" .u64 Lib.pow10Tab) :
    Calls Tryz.prog 70 #[.string s, .string t] w (Bret (.tuple #[.string (addT s t), .int .i64 0]) w) := raddS (hs.rstr (by omega)) (ht.rstr (by omega)) hs.rz ht.rz hk w htab
theorem rmulG {s t : ByteArray} {i j : Nat} (hs : Good i s) (ht : Good j t) (hk : i + j ≤ 4096) (w : World) (htab : Lib.TabIs Tryz.prog w "internal/strconv.uint64pow10" .u64 Lib.pow10Tab) :
    Calls Tryz.prog 40 #[.string s, .string t] w (Bret (.tuple #[.string (mulT s t), .int .i64 0]) w) := by
  have h0 := hs.rz.pos; have h1 := ht.rz.pos
  exact rmulS (hs.rstr (by omega)) (ht.rstr (by omega)) hs.rz ht.rz hk w htab
set_option maxHeartbeats 1000000 in
theorem sumCl (x y : ByteArray) (i j b off n c q : Nat) (m : Nat) (w : World) (hx : Good i x) (hy : Good j y) (hk : i + j + 1 ≤ 4096) (hm : m < n) (hn : n ≤ c) (hc : c ≤ 9223372036854775807)
    (hq : w.cell? ⟨q, 0, none⟩ = some (.slice (some ⟨b, off, none⟩) n c)) (hy' : w.cell? ⟨b, off + m, none⟩ = some (.string y)) (htab : Lib.TabIs Tryz.prog w "internal/strconv.uint64pow10" .u64 Lib.pow10Tab) :
    Calls Tryz.prog 82 #[.int .i64 (m : Int), .string x, .pointer (some ⟨q, 0, none⟩)] w (Bret (.string (addT x y)) w) := by
  have C := fun W : World => fun h => raddG hx hy hk W h
  have K := Lib.hid (raddG hx hy hk w htab); clear C hx hy hk
  generalize addT x y = z at *
  go_enter Tryz.func82, Tryz.ntmps82
  go_wp2_with (go_at_call 70; refine K.out.mono ?_; rintro e w1 ⟨rfl, hb1⟩; refine Hid.out ?_)
  have HB := Lib.hid hb1; clear hb1
  refine Lib.hid ?_
  go_wp2
  refine bodyPost_ret (v := .string z) (by simp [results, Tryz.results82, go_sem]) rfl ?_
  exact ⟨rfl, HB.out⟩
set_option maxHeartbeats 1000000 in
theorem multipleCl (x y : ByteArray) (i j q : Nat) (m : Int) (w : World) (hx : Good i x) (hy : Good j y) (hk : i + j ≤ 4096)
    (hq : w.cell? ⟨q, 0, none⟩ = some (.string y)) (htab : Lib.TabIs Tryz.prog w "internal/strconv.uint64pow10" .u64 Lib.pow10Tab) :
    Calls Tryz.prog 96 #[.int .i64 m, .string x, .pointer (some ⟨q, 0, none⟩)] w (Bret (.string (mulT x y)) w) := by
  have K := Lib.hid (rmulG hx hy hk w htab); clear hx hy hk htab
  generalize mulT x y = z at *
  go_enter Tryz.func96, Tryz.ntmps96
  go_wp2_with (go_at_call 40; refine K.out.mono ?_; rintro e w1 ⟨rfl, hb1⟩; refine Hid.out ?_)
  have HB := Lib.hid hb1; clear hb1
  refine Lib.hid ?_
  go_wp2
  refine bodyPost_ret (v := .string z) (by simp [results, Tryz.results96, go_sem]) rfl ?_
  exact ⟨rfl, HB.out⟩
set_option maxHeartbeats 1000000 in
theorem integralCl (x y : ByteArray) (i j q : Nat) (m : Int) (w : World) (hx : Good i x) (hy : Good j y) (hk : i + j ≤ 4096)
    (hq : w.cell? ⟨q, 0, none⟩ = some (.string y)) (htab : Lib.TabIs Tryz.prog w "internal/strconv.uint64pow10" .u64 Lib.pow10Tab) :
    Calls Tryz.prog 60 #[.int .i64 m, .string x, .pointer (some ⟨q, 0, none⟩)] w (Bret (.string (mulT x y)) w) := by
  have K := Lib.hid (rmulG hx hy hk w htab); clear hx hy hk htab
  generalize mulT x y = z at *
  go_enter Tryz.func60, Tryz.ntmps60
  go_wp2_with (go_at_call 40; refine K.out.mono ?_; rintro e w1 ⟨rfl, hb1⟩; refine Hid.out ?_)
  have HB := Lib.hid hb1; clear hb1
  refine Lib.hid ?_
  go_wp2
  refine bodyPost_ret (v := .string z) (by simp [results, Tryz.results60, go_sem]) rfl ?_
  exact ⟨rfl, HB.out⟩
theorem map_range_getD (l : List ByteArray) (f : ByteArray → ByteArray) : (List.range l.length).map (fun j => f (l.getD j ⟨#[]⟩)) = l.map f := by
  apply List.ext_getElem (by simp)
  intro i h1 h2
  simp at h1
  simp [h1]
theorem zip_range_getD (a b : List ByteArray) (f : ByteArray → ByteArray → ByteArray) (h : a.length = b.length) : (List.range a.length).map (fun j => f (a.getD j ⟨#[]⟩) (b.getD j ⟨#[]⟩)) = List.zipWith f a b := by
  apply List.ext_getElem (by simp [h])
  intro i h1 h2
  simp at h1
  have h3 : i < b.length := by omega
  simp [h1, h3]
theorem getD_get (l : List ByteArray) {j : Nat} (h : j < l.length) : l.getD j ⟨#[]⟩ = l[j] := by simp [h]
def z0 : ByteArray := ⟨#[48]⟩
set_option maxHeartbeats 1000000 in
theorem zeros_any (n : Nat) (w : World) (hn : n ≤ 1000) :
    Calls Tryz.prog 47 #[.int .i64 (n : Int)] w fun e w' => ∃ g, e = .returned (.slice (some ⟨g, 0, none⟩) n n) ∧ w'.heap[g]? = some (.cells (strCells (List.replicate n z0)).toArray 22 (0, 0)) ∧ w.heap.size ≤ g ∧ Below w.heap.size w w' := by
  have B0 : Below w.heap.size w (w.alloc (Obj.cells #[.string ⟨#[48]⟩] 22)) := (Below.refl _ _).alloc (Nat.le_refl _) _
  have C := repeat_any n w.heap.size ⟨#[48]⟩ (w.alloc (Obj.cells #[.string ⟨#[48]⟩] 22)) hn (by go_cell) (by simp)
  have HB := Lib.hid B0; have KC := Lib.hid C; clear B0 C
  go_enter Tryz.func47, Tryz.ntmps47
  go_wp2_with (go_at_call 80; refine KC.out.mono ?_; rintro e w1 ⟨g, rfl, hh, hg, hb⟩; refine Hid.out ?_)
  have HH := Lib.hid hh; have HB1 := Lib.hid (Below.chain HB.out hb); have HG := Lib.hid (Nat.le_trans HB.out.size hg); clear hh hg hb
  refine Lib.hid ?_
  go_wp2
  refine bodyPost_ret (v := .slice (some ⟨g, 0, none⟩) n n) (by simp [results, Tryz.results47, go_sem]) rfl ?_
  exact ⟨g, rfl, HH.out, HG.out, HB1.out⟩
set_option maxHeartbeats 1000000 in
theorem multiple_any (l : List ByteArray) (x : ByteArray) (ao : Option Addr) (c i j : Nat) (w : World) (hr : SRow w ao c l) (hl : l.length ≤ 1000) (hg : ∀ s ∈ l, Good i s) (hx : Good j x) (hk : i + j ≤ 4096) (htab : Lib.TabIs Tryz.prog w "internal/strconv.uint64pow10" .u64 Lib.pow10Tab) :
    Calls Tryz.prog 68 #[.slice ao l.length c, .string x] w fun e w' => ∃ b, e = .returned (.slice (some ⟨b, 0, none⟩) l.length l.length) ∧ XBlk 22 w' b (l.map fun s => mulT s x) ∧ w.heap.size ≤ b ∧ Below w.heap.size w w' := by
  have hT := Lib.tabBelow_of_tabIs htab
  have B0 : Below w.heap.size w (w.alloc (Obj.cells #[.string x] 22)) := (Below.refl _ _).alloc (Nat.le_refl _) _
  have C := mapped_multiple l (fun k => mulT (l.getD k ⟨#[]⟩) x) ao c (.pointer (some ⟨w.heap.size, 0, none⟩)) (w.alloc (Obj.cells #[.string x] 22)) (hr.mono B0) hl (fun k hk' W hW => by
    show Calls _ _ _ _ (Bret (.string (mulT (l.getD k ⟨#[]⟩) x)) W)
    rw [getD_get l hk']
    exact multipleCl (l[k]) x i j w.heap.size _ W (hg _ (List.getElem_mem hk')) hx hk ((hW.cell (p := ⟨w.heap.size, 0, none⟩) (by simp)).trans (by go_cell)) (hT.on (Below.chain B0 hW)).here)
  rw [map_range_getD l (fun s => mulT s x)] at C
  have HB := Lib.hid B0; have KC := Lib.hid C; clear B0 C hr hg hx hk hT htab
  generalize (l.map fun s => mulT s x) = r at *
  generalize l.length = n at *
  go_enter Tryz.func68, Tryz.ntmps68
  go_wp2_with (go_at_call 81; refine KC.out.mono ?_; rintro e w1 ⟨g, rfl, hh, hg, hb⟩; refine Hid.out ?_)
  have HH := Lib.hid hh; have HB1 := Lib.hid (Below.chain HB.out hb); have HG := Lib.hid (Nat.le_trans HB.out.size hg); clear hh hg hb
  refine Lib.hid ?_
  go_wp2
  refine bodyPost_ret (v := .slice (some ⟨g, 0, none⟩) n n) (by simp [results, Tryz.results68, go_sem]) rfl ?_
  exact ⟨g, rfl, HH.out, HG.out, HB1.out⟩
set_option maxHeartbeats 1000000 in
theorem sum_any (a b : List ByteArray) (ao : Option Addr) (ca bb bo cb i j : Nat) (w : World) (hr : SRow w ao ca a) (hs : SRow w (some ⟨bb, bo, none⟩) cb b) (hl : a.length ≤ 1000) (hlen : a.length = b.length) (ha : ∀ s ∈ a, Good i s) (hb : ∀ s ∈ b, Good j s) (hk : i + j + 1 ≤ 4096) (htab : Lib.TabIs Tryz.prog w "internal/strconv.uint64pow10" .u64 Lib.pow10Tab) :
    Calls Tryz.prog 53 #[.slice ao a.length ca, .slice (some ⟨bb, bo, none⟩) b.length cb] w fun e w' => ∃ g, e = .returned (.slice (some ⟨g, 0, none⟩) a.length a.length) ∧ XBlk 22 w' g (List.zipWith addT a b) ∧ w.heap.size ≤ g ∧ Below w.heap.size w w' := by
  have hT := Lib.tabBelow_of_tabIs htab
  have B0 : Below w.heap.size w (w.alloc (Obj.cells #[.slice (some ⟨bb, bo, none⟩) b.length cb] 25)) := (Below.refl _ _).alloc (Nat.le_refl _) _
  have C := mapped_sum a (fun k => addT (a.getD k ⟨#[]⟩) (b.getD k ⟨#[]⟩)) ao ca (.pointer (some ⟨w.heap.size, 0, none⟩)) (w.alloc (Obj.cells #[.slice (some ⟨bb, bo, none⟩) b.length cb] 25)) (hr.mono B0) hl (fun k hk' W hW => by
    have hkb : k < b.length := by omega
    show Calls _ _ _ _ (Bret (.string (addT (a.getD k ⟨#[]⟩) (b.getD k ⟨#[]⟩))) W)
    rw [getD_get a hk', getD_get b hkb]
    have hB := Below.chain B0 hW
    obtain ⟨b2, o2, e, -, h2⟩ := (hs.mono hB).get k hkb
    cases e
    exact sumCl (a[k]) (b[k]) i j bb bo b.length cb w.heap.size k W (ha _ (List.getElem_mem hk')) (hb _ (List.getElem_mem hkb)) hk hkb hs.1 hs.2.1 ((hW.cell (p := ⟨w.heap.size, 0, none⟩) (by simp)).trans (by go_cell)) h2 (hT.on hB).here)
  rw [zip_range_getD a b addT hlen] at C
  have HB := Lib.hid B0; have KC := Lib.hid C; clear B0 C hr hs ha hb hk hT htab
  generalize List.zipWith addT a b = r at *
  rw [← hlen] at *
  clear hlen
  generalize a.length = n at *
  go_enter Tryz.func53, Tryz.ntmps53
  go_wp2_with (go_at_call 81; refine KC.out.mono ?_; rintro e w1 ⟨g, rfl, hh, hg, hb⟩; refine Hid.out ?_)
  have HH := Lib.hid hh; have HB1 := Lib.hid (Below.chain HB.out hb); have HG := Lib.hid (Nat.le_trans HB.out.size hg); clear hh hg hb
  refine Lib.hid ?_
  go_wp2
  refine bodyPost_ret (v := .slice (some ⟨g, 0, none⟩) n n) (by simp [results, Tryz.results53, go_sem]) rfl ?_
  exact ⟨g, rfl, HH.out, HG.out, HB1.out⟩
end Go.Proofs.YtjobmkdaaionlaaGreatDoor
