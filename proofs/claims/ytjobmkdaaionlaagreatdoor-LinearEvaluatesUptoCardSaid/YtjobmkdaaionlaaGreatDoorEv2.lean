import Derived.Test.YtjobmkdaaionlaaGreatDoorEv1
import Derived.Test.YtjobmkdaaionlaaGreatDoorCut37

set_option linter.unusedVariables false
/-
  The law LinearEvaluates.
-/
set_option linter.unusedSimpArgs false
namespace Go.Proofs.YtjobmkdaaionlaaGreatDoor
open Go Go.Proofs Go.RowKit

theorem shortQ_tq {q : Rat} (h : shortQ q = true) : numE (bytes (tq q)) = 0 := by
  rw [numE_good (good_evV h) (by decide)]
  have : shortN (bytes (tq q)) = shortQ q := by unfold tq; rw [bytes_str, shortN_rat]
  rw [this, if_pos h]

set_option maxHeartbeats 1000000 in
theorem sum_good {i j : Nat} {s t : ByteArray} (hs : Good i s) (ht : Good j t) (hk : i + j + 1 ≤ 4096) (w : World) (htab : Lib.TabIs Tryz.prog w "internal/strconv.uint64pow10" .u64 Lib.pow10Tab) :
    Calls Tryz.prog 39 #[.string s, .string t] w (Bret (.string (addT s t)) w) := by
  have K := Lib.hid (raddG hs ht hk w htab)
  clear hs ht htab
  generalize addT s t = u at *
  go_enter Tryz.func39, Tryz.ntmps39
  go_wp2_with (go_at_call 70; refine K.out.mono ?_; rintro e w1 ⟨rfl, hb⟩; refine Hid.out ?_)
  refine Lib.hid ?_
  go_wp2
  refine bodyPost_ret (v := .string u) (by simp [results, Tryz.results39, go_sem]) rfl ?_
  exact ⟨rfl, hb⟩

theorem right_two (l : List ByteArray) (k : ByteArray) (ao : Option Addr) (c : Nat) (m : List ByteArray) (k2 : ByteArray) (bo : Option Addr) (d : Nat) (p : List ByteArray) (po : Option Addr) (pc : Nat) (W : World) (q : Nat) (hq : W.heap.size = q)
    (hr : SRow W ao c l) (hz : ∀ s ∈ l ++ [k], s.size ≤ 1200000) (hn : l.length ≤ 1200000) (hr2 : SRow W bo d m) (hz2 : ∀ s ∈ m ++ [k2], s.size ≤ 1200000) (hn2 : m.length ≤ 1200000) (hp : SRow W po pc p) (hzp : ∀ s ∈ p, s.size ≤ 1200000) (hnp : p.length ≤ 1200000) :
    Calls Tryz.prog 38 #[.slice po p.length pc, .slice (some ⟨q, 0, none⟩) 2 2] (W.alloc (Obj.cells #[.slice ao l.length c, .string k, .slice bo m.length d, .string k2] 27))
      (Bret (.bool (rightB [(l, k), (m, k2)] p)) (W.alloc (Obj.cells #[.slice ao l.length c, .string k, .slice bo m.length d, .string k2] 27))) := by
  subst hq
  have hb : Below W.heap.size W (W.alloc (Obj.cells #[.slice ao l.length c, .string k, .slice bo m.length d, .string k2] 27)) := (Below.refl _ _).alloc (Nat.le_refl _) _
  refine right_any [(l, k), (m, k2)] W.heap.size 2 p po pc _ (hp.mono hb) hzp hnp (by simp) ?_ ?_ ?_ (by simp) (by simp) (by simp)
  · intro i hi
    match i, hi with
    | 0, _ => exact ⟨ao, c, by go_cell, by go_cell, hr.mono hb⟩
    | 1, _ => exact ⟨bo, d, by go_cell, by go_cell, hr2.mono hb⟩
  · intro x hx
    simp only [List.mem_cons, List.not_mem_nil, or_false] at hx
    rcases hx with rfl | rfl
    · exact hz
    · exact hz2
  · intro x hx
    simp only [List.mem_cons, List.not_mem_nil, or_false] at hx
    rcases hx with rfl | rfl
    · exact hn
    · exact hn2
theorem rightB_two {l m p : List ByteArray} {k k2 : ByteArray} (h : rightB [(l, k), (m, k2)] p = true) : l.length = p.length ∧ linE l k = 0 ∧ m.length = p.length ∧ linE m k2 = 0 ∧ firstE p = 0 := by
  unfold rightB at h
  simp [rightOne] at h
  exact ⟨h.1.1.1, h.1.1.2, h.1.2.1, h.1.2.2, h.2⟩

set_option maxRecDepth 20000 in
set_option maxHeartbeats 8000000 in
theorem leval_walk (l : List ByteArray) (k : ByteArray) (ao : Option Addr) (c : Nat) (m : List ByteArray) (k2 : ByteArray) (bo : Option Addr) (d : Nat) (p : List ByteArray) (po : Option Addr) (pc : Nat) (w : World)
    (hr : SRow w ao c l) (hz : ∀ s ∈ l ++ [k], s.size ≤ 1200000) (hn : l.length ≤ 1200000) (hr2 : SRow w bo d m) (hz2 : ∀ s ∈ m ++ [k2], s.size ≤ 1200000) (hn2 : m.length ≤ 1200000) (hp : SRow w po pc p) (hzp : ∀ s ∈ p, s.size ≤ 1200000) (hnp : p.length ≤ 1200000)
    (htab : Lib.TabIs Tryz.prog w "internal/strconv.uint64pow10" .u64 Lib.pow10Tab) :
    Calls Tryz.prog 8 #[.agg #[.slice ao l.length c, .string k], .agg #[.slice bo m.length d, .string k2], .slice po p.length pc] w fun e w' => e = .returned (.bool true) ∧ Below w.heap.size w w' := by
  have hT := Lib.tabBelow_of_tabIs htab
  have CA : ∀ W : World, Below w.heap.size w W → Calls Tryz.prog 13 #[] W (Bret (.bool true) W) := fun W hW => awake03 W (hT.on hW).here
  have CR := fun (W : World) (q : Nat) (hW : Below w.heap.size w W) (hq : W.heap.size = q) => right_two l k ao c m k2 bo d p po pc W q hq (hr.mono hW) hz hn (hr2.mono hW) hz2 hn2 (hp.mono hW) hzp hnp
  obtain ⟨X, Y, B⟩ := entry2 w (.slice ao l.length c) (.string k) (.slice bo m.length d) (.string k2) 27
  have x0 := X.c0; have x1 := X.c1; have x2 := X.lt; have y0 := Y.c0; have y1 := Y.c1; have y2 := Y.lt
  have NB := fun (W : World) (hW : Below w.heap.size w W) => (Below.chain hW ((Below.refl W.heap.size W).alloc (Nat.le_refl _) (Obj.cells #[.slice ao l.length c, .string k, .slice bo m.length d, .string k2] 27)))
  cases hrb : rightB [(l, k), (m, k2)] p
  · rw [hrb] at CR
    generalize l.length = n at *
    generalize m.length = n2 at *
    generalize p.length = n3 at *
    have KA := Lib.hid CA; have KR := Lib.hid CR; have KN := Lib.hid NB
    clear CA CR NB hT htab hr hr2 hz hz2 hp hzp hrb
    go_enter Tryz.func8, Tryz.ntmps8
    go_wp2_with (go_at_call 38; refine (KR.out _ _ B (by simp)).mono ?_; rintro e w0 ⟨rfl, hb0⟩; refine Hid.out ?_)
    have BL := Below.chain (KN.out _ B) hb0; clear hb0 B
    refine Lib.hid ?_
    go_wp2_with (go_at_call 13; refine (KA.out _ BL).mono ?_; rintro e w9 ⟨rfl, hb9⟩; refine Hid.out ?_)
    have B9 := Below.chain BL hb9; clear hb9 BL
    refine Lib.hid ?_
    go_wp2
    refine bodyPost_ret (v := .bool true) (by simp [results, Tryz.results8, go_sem]) rfl ?_
    exact ⟨rfl, B9⟩
  · obtain ⟨e1, e2, e3, e4, e5⟩ := rightB_two hrb
    rw [hrb] at CR
    obtain ⟨g1, g2⟩ := linE_zero e2
    obtain ⟨g3, g4⟩ := linE_zero e4
    have gp := firstE_good e5
    have C1 := fun (W : World) (hW : Below w.heap.size w W) => linAdd l k ao c m k2 bo d W (hr.mono hW) hz hn (hr2.mono hW) hz2 hn2 (hT.on hW).here
    have C2 := fun (W : World) (hW : Below w.heap.size w W) => linEval l k ao c p po pc W (hr.mono hW) hz hn (hp.mono hW) hzp hnp (hT.on hW).here
    have C3 := fun (W : World) (hW : Below w.heap.size w W) => linEval m k2 bo d p po pc W (hr2.mono hW) hz2 hn2 (hp.mono hW) hzp hnp (hT.on hW).here
    have a1 : addO l k m k2 = exprO (List.zipWith addT l m) (addT k k2) := by
      unfold addO bothE; rw [e2, e4, if_pos rfl, if_pos rfl, if_pos (by omega)]
    rw [a1] at C1
    rw [evO_val e2 e1 e5] at C2
    rw [evO_val e4 e3 e5] at C3
    have hA : (List.zipWith addT l m).length = p.length := by rw [List.length_zipWith]; omega
    have gA : ∀ s ∈ List.zipWith addT l m ++ [addT k k2], Good 201 s := by
      rw [← zip_snoc addT l m k k2 (by omega)]
      exact zip_good g2 g4
    have zA : ∀ s ∈ List.zipWith addT l m ++ [addT k k2], s.size ≤ 1200000 := fun s hs => (gA s hs).sz2 (by decide) (by decide)
    have C4 := fun (W : World) (hW : Below w.heap.size w W) (h0 : (List.zipWith addT l m ++ [addT k k2]).all shortS = true) (a3 : Option Addr) (c3 : Nat) (h3 : SRow W a3 c3 (List.zipWith addT l m)) => by
      have := linEval (List.zipWith addT l m) (addT k k2) a3 c3 p po pc W h3 zA (by omega) (hp.mono hW) hzp hnp (hT.on hW).here
      rw [evO_val (linE_short (by omega) gA (by decide) h0) hA e5, valQ_add e1 e3] at this
      exact this
    have C5 := fun (W : World) (hW : Below w.heap.size w W) (q1 q2 : Rat) (h1 : shortQ q1 = true) (h2 : shortQ q2 = true) => by
      have := sum_good (good_evV h1) (good_evV h2) (by decide) W (hT.on hW).here
      unfold addT at this
      rw [rv_tq, rv_tq] at this
      exact this
    have C6 := fun (W : World) (hW : Below w.heap.size w W) (q2 : Rat) (h2 : shortQ q2 = true) => by
      have := linScale l k ao c (tq q2) W (hr.mono hW) hz hn ((good_evV h2).sz2 (by decide) (by decide)) (hT.on hW).here
      unfold scaleO at this
      rw [e2, if_pos rfl, shortQ_tq h2, if_pos rfl] at this
      exact this
    have C7 := fun (W : World) (hW : Below w.heap.size w W) (q2 : Rat) (h2 : shortQ q2 = true) (h0 : (l.map (fun s => mulT s (tq q2)) ++ [mulT k (tq q2)]).all shortS = true) (a3 : Option Addr) (c3 : Nat) (h3 : SRow W a3 c3 (l.map fun s => mulT s (tq q2))) => by
      have gM : ∀ s ∈ l.map (fun s => mulT s (tq q2)) ++ [mulT k (tq q2)], Good 200 s := fun s hs => by
        rcases List.mem_append.1 hs with h | h
        · obtain ⟨x, hx, rfl⟩ := List.mem_map.1 h
          exact (g2 x (List.mem_append_left _ hx)).mul (good_evV h2)
        · rw [List.mem_singleton.1 h]; exact (g2 k (by simp)).mul (good_evV h2)
      have := linEval (l.map fun s => mulT s (tq q2)) (mulT k (tq q2)) a3 c3 p po pc W h3 (fun s hs => (gM s hs).sz2 (by decide) (by decide)) (by simpa using hn) (hp.mono hW) hzp hnp (hT.on hW).here
      rw [evO_val (linE_short (by simpa using g1) gM (by decide) h0) (by simpa using e1) e5, valQ_scale, rv_tq] at this
      exact this
    have C8 := fun (W : World) (hW : Below w.heap.size w W) (q1 q2 : Rat) (h1 : shortQ q1 = true) (h2 : shortQ q2 = true) => by
      have := rmulG (good_evV h1) (good_evV h2) (by decide) W (hT.on hW).here
      unfold mulT at this
      rw [rv_tq, rv_tq] at this
      exact this
    have hc1 := exprO_cases (List.zipWith addT l m) (addT k k2)
    have hc4 := fun q2 => exprO_cases (l.map fun s => mulT s (tq q2)) (mulT k (tq q2))
    have hl4 : ∀ q2, (l.map fun s => mulT s (tq q2)).length = l.length := fun q2 => by simp
    have hc2 := evV_cases (valQ l k p)
    have hc3 := evV_cases (valQ m k2 p)
    rw [hA] at C4
    clear hz hz2 hzp e1 e2 e3 e4 e5 g1 g2 g3 g4 gp a1 gA zA hT htab hr hr2 hp hrb hn hn2 hnp
    generalize List.zipWith addT l m = A at *
    generalize addT k k2 = ka at *
    generalize hO : exprO A ka = O1 at *
    generalize valQ l k p = q1 at *
    generalize valQ m k2 p = q2 at *
    generalize hv1 : evV q1 = v1 at *
    generalize hv2 : evV q2 = v2 at *
    clear hO hv1 hv2
    generalize l.length = n at *
    generalize m.length = n2 at *
    generalize p.length = n3 at *
    have KA := Lib.hid CA; have KR := Lib.hid CR; have KN := Lib.hid NB; have K1 := Lib.hid C1; have K2 := Lib.hid C2; have K3 := Lib.hid C3; have K4 := Lib.hid C4; have K5 := Lib.hid C5; have K6 := Lib.hid C6; have K7 := Lib.hid C7; have K8 := Lib.hid C8
    have H1 := Lib.hid hc1; have H2 := Lib.hid hc2; have H3 := Lib.hid hc3; have H4 := Lib.hid hc4; have HA := Lib.hid hA; have HL4 := Lib.hid hl4
    clear CA CR NB C1 C2 C3 C4 C5 C6 C7 C8 hc1 hc2 hc3 hc4 hA hl4
    go_enter Tryz.func8, Tryz.ntmps8
    go_wp2_with (go_at_call 38; refine (KR.out _ _ B (by simp)).mono ?_; rintro e w0 ⟨rfl, hb0⟩; refine Hid.out ?_)
    have N0 := Below.chain ((Below.refl _ _).alloc (Nat.le_refl _) (Obj.cells #[.slice ao n c, .string k, .slice bo n2 d, .string k2] 27)) hb0
    have B0 := Below.chain B N0; have X0 := X.mono N0; have Y0 := Y.mono N0
    clear hb0 N0 B X Y x0 x1 x2 y0 y1 y2
    have x0 := X0.c0; have x1 := X0.c1; have x2 := X0.lt; have y0 := Y0.c0; have y1 := Y0.c1; have y2 := Y0.lt
    refine Lib.hid ?_
    go_wp2_with (go_at_call 20; refine (K1.out _ B0).mono ?_; rintro e w1 ⟨a1, c1, rfl, r1, hb1⟩; refine Hid.out ?_)
    have P1 := OB.new r1 27
    have N1 := nb hb1 (Obj.cells #[.slice a1 O1.l.length c1, .string O1.k] 27)
    have B1 := Below.chain B0 N1; have X1 := X0.mono N1; have Y1 := Y0.mono N1
    clear r1 hb1 B0 X0 Y0 x0 x1 x2 y0 y1 y2 N1
    have x0 := X1.c0; have x1 := X1.c1; have x2 := X1.lt; have y0 := Y1.c0; have y1 := Y1.c1; have y2 := Y1.lt
    refine Lib.hid ?_
    go_wp2_with (go_at_call 32; refine (K2.out _ B1).mono ?_; rintro e w2 ⟨rfl, hb2⟩; refine Hid.out ?_)
    have P2 := P1.mono hb2; have B2 := Below.chain B1 hb2; have X2 := X1.mono hb2; have Y2 := Y1.mono hb2
    clear hb2 B1 X1 Y1 P1 x0 x1 x2 y0 y1 y2
    have x0 := X2.c0; have x1 := X2.c1; have x2 := X2.lt; have y0 := Y2.c0; have y1 := Y2.c1; have y2 := Y2.lt
    refine Lib.hid ?_
    go_wp2_with (go_at_call 32; refine (K3.out _ B2).mono ?_; rintro e w3 ⟨rfl, hb3⟩; refine Hid.out ?_)
    have P3 := P2.mono hb3; have B3 := Below.chain B2 hb3; have X3 := X2.mono hb3
    clear hb3 B2 X2 Y2 P2 x0 x1 x2 y0 y1 y2
    refine Lib.hid ?_
    have H3' := H3.out
    clear H3
    rcases H1.out with ⟨rfl, hs⟩ | rfl <;> rcases H2.out with ⟨rfl, hq1⟩ | rfl <;> rcases H3' with ⟨rfl, hq2⟩ | rfl
    case' inl.inl.inl =>
      skip
    all_goals dsimp only [LOut.bad] at *
    case inl.inl.inl =>
      clear H1 H2
      have KH := Lib.hid hs; have KQ1 := Lib.hid hq1; have KQ2 := Lib.hid hq2
      have hh := HA.out
      have y0 := P3.x.c0; have y1 := P3.x.c1; have y2 := P3.x.lt
      have C4 := K4.out w3 B3 KH.out _ _ P3.r
      clear hs hq1 hq2 K4 HA
      rw [hh] at y0
      have hz := evV_cases (q1 + q2)
      rcases hz with ⟨hz, -⟩ | hz <;> rw [hz] at C4 <;> clear hz hh
      · have R4 := Lib.hid C4; clear C4
        have P4' := Lib.hid P3; clear P3
        go_wp2_with (go_at_call 32; refine R4.out.mono ?_; rintro e w4 ⟨rfl, hb4⟩; refine Hid.out ?_)
        have B4 := Below.chain B3 hb4; have X4 := X3.mono hb4
        clear hb4 B3 X3 y0 y1 y2 P4' R4
        refine Lib.hid ?_
        go_wp2_with (go_at_call 39; refine (K5.out _ B4 _ _ KQ1.out KQ2.out).mono ?_; rintro e w5 ⟨rfl, hb5⟩; refine Hid.out ?_)
        have B5 := Below.chain B4 hb5; have X5 := X4.mono hb5
        clear hb5 B4 X4 K5
        refine Lib.hid ?_
        have x0 := X5.c0; have x1 := X5.c1; have x2 := X5.lt
        have C6 := K6.out _ B5 q2 KQ2.out; have C7 := fun W hW => K7.out W hW q2 KQ2.out; have hc4 := H4.out q2; have hl := HL4.out q2
        clear K6 K7 H4 HL4
        generalize List.map (fun s => mulT s (tq q2)) l = M at *
        generalize mulT k (tq q2) = km at *
        generalize exprO M km = O6 at *
        have R6 := Lib.hid C6; have K7 := Lib.hid C7; have H4 := Lib.hid hc4; have HL := Lib.hid hl
        clear C6 C7 hc4 hl
        go_wp2_with (go_at_call 30; refine R6.out.mono ?_; rintro e w6 ⟨a6, c6, rfl, r6, hb6⟩; refine Hid.out ?_)
        have P6 := OB.new r6 27
        have N6 := nb hb6 (Obj.cells #[.slice a6 O6.l.length c6, .string O6.k] 27)
        have B6 := Below.chain B5 N6
        clear r6 hb6 B5 X5 x0 x1 x2 N6 R6
        refine Lib.hid ?_
        rcases H4.out with ⟨rfl, hs6⟩ | rfl
        · clear H4
          have hl := HL.out
          (try dsimp only at P6)
          have y0 := P6.x.c0; have y1 := P6.x.c1; have y2 := P6.x.lt
          dsimp only at y0 y1 y2 B6
          have C7 := K7.out _ B6 hs6 _ _ P6.r
          (try dsimp only at C7)
          clear K7 HL hs6 P6
          have h7 := evV_cases (q1 * q2)
          rw [hl] at y0 C7 B6 y1 y2
          (try dsimp only)
          (try rw [hl])
          rcases h7 with ⟨h7, -⟩ | h7 <;> rw [h7] at C7 <;> clear h7
          · have R7 := Lib.hid C7; have HB6 := Lib.hid B6; clear C7 hl B6
            go_wp2_with (go_at_call 32; refine R7.out.mono ?_; rintro e w7 ⟨rfl, hb7⟩; refine Hid.out ?_)
            have B7 := Below.chain HB6.out hb7; clear hb7 y0 y1 y2 R7
            refine Lib.hid ?_
            go_wp2_with (go_at_call 40; refine (K8.out _ B7 _ _ KQ1.out KQ2.out).mono ?_; rintro e w8 ⟨rfl, hb8⟩; refine Hid.out ?_)
            have BL := Below.chain B7 hb8; clear hb8 B7
            refine Lib.hid ?_
            go_wp2_with (go_at_call 13; refine (KA.out _ BL).mono ?_; rintro e w9 ⟨rfl, hb9⟩; refine Hid.out ?_)
            have B9 := Below.chain BL hb9; clear hb9 BL
            refine Lib.hid ?_
            go_wp2
            refine bodyPost_ret (v := .bool true) (by simp [results, Tryz.results8, go_sem]) rfl ?_
            exact ⟨rfl, B9⟩
          · have R7 := Lib.hid C7; have HB6 := Lib.hid B6; clear C7 hl B6
            go_wp2_with (go_at_call 32; refine R7.out.mono ?_; rintro e w7 ⟨rfl, hb7⟩; refine Hid.out ?_)
            have B7 := Below.chain HB6.out hb7; clear hb7 y0 y1 y2 R7
            refine Lib.hid ?_
            go_wp2_with (go_at_call 40; refine (K8.out _ B7 _ _ KQ1.out KQ2.out).mono ?_; rintro e w8 ⟨rfl, hb8⟩; refine Hid.out ?_)
            have BL := Below.chain B7 hb8; clear hb8 B7
            refine Lib.hid ?_
            go_wp2_with (go_at_call 13; refine (KA.out _ BL).mono ?_; rintro e w9 ⟨rfl, hb9⟩; refine Hid.out ?_)
            have B9 := Below.chain BL hb9; clear hb9 BL
            refine Lib.hid ?_
            go_wp2
            refine bodyPost_ret (v := .bool true) (by simp [results, Tryz.results8, go_sem]) rfl ?_
            exact ⟨rfl, B9⟩
        · clear H4 K7 HL P6
          dsimp only [LOut.bad] at *
          have BL := B6; clear B6
          go_wp2_with (go_at_call 13; refine (KA.out _ BL).mono ?_; rintro e w9 ⟨rfl, hb9⟩; refine Hid.out ?_)
          have B9 := Below.chain BL hb9; clear hb9 BL
          refine Lib.hid ?_
          go_wp2
          refine bodyPost_ret (v := .bool true) (by simp [results, Tryz.results8, go_sem]) rfl ?_
          exact ⟨rfl, B9⟩
      · have R4 := Lib.hid C4; clear C4
        have P4' := Lib.hid P3; clear P3
        go_wp2_with (go_at_call 32; refine R4.out.mono ?_; rintro e w4 ⟨rfl, hb4⟩; refine Hid.out ?_)
        have B5 := Below.chain B3 hb4; have X5 := X3.mono hb4
        clear hb4 B3 X3 y0 y1 y2 P4' R4
        refine Lib.hid ?_
        have x0 := X5.c0; have x1 := X5.c1; have x2 := X5.lt
        have C6 := K6.out _ B5 q2 KQ2.out; have C7 := fun W hW => K7.out W hW q2 KQ2.out; have hc4 := H4.out q2; have hl := HL4.out q2
        clear K6 K7 H4 HL4
        generalize List.map (fun s => mulT s (tq q2)) l = M at *
        generalize mulT k (tq q2) = km at *
        generalize exprO M km = O6 at *
        have R6 := Lib.hid C6; have K7 := Lib.hid C7; have H4 := Lib.hid hc4; have HL := Lib.hid hl
        clear C6 C7 hc4 hl
        go_wp2_with (go_at_call 30; refine R6.out.mono ?_; rintro e w6 ⟨a6, c6, rfl, r6, hb6⟩; refine Hid.out ?_)
        have P6 := OB.new r6 27
        have N6 := nb hb6 (Obj.cells #[.slice a6 O6.l.length c6, .string O6.k] 27)
        have B6 := Below.chain B5 N6
        clear r6 hb6 B5 X5 x0 x1 x2 N6 R6
        refine Lib.hid ?_
        rcases H4.out with ⟨rfl, hs6⟩ | rfl
        · clear H4
          have hl := HL.out
          (try dsimp only at P6)
          have y0 := P6.x.c0; have y1 := P6.x.c1; have y2 := P6.x.lt
          dsimp only at y0 y1 y2 B6
          have C7 := K7.out _ B6 hs6 _ _ P6.r
          (try dsimp only at C7)
          clear K7 HL hs6 P6
          have h7 := evV_cases (q1 * q2)
          rw [hl] at y0 C7 B6 y1 y2
          (try dsimp only)
          (try rw [hl])
          rcases h7 with ⟨h7, -⟩ | h7 <;> rw [h7] at C7 <;> clear h7
          · have R7 := Lib.hid C7; have HB6 := Lib.hid B6; clear C7 hl B6
            go_wp2_with (go_at_call 32; refine R7.out.mono ?_; rintro e w7 ⟨rfl, hb7⟩; refine Hid.out ?_)
            have B7 := Below.chain HB6.out hb7; clear hb7 y0 y1 y2 R7
            refine Lib.hid ?_
            go_wp2_with (go_at_call 40; refine (K8.out _ B7 _ _ KQ1.out KQ2.out).mono ?_; rintro e w8 ⟨rfl, hb8⟩; refine Hid.out ?_)
            have BL := Below.chain B7 hb8; clear hb8 B7
            refine Lib.hid ?_
            go_wp2_with (go_at_call 13; refine (KA.out _ BL).mono ?_; rintro e w9 ⟨rfl, hb9⟩; refine Hid.out ?_)
            have B9 := Below.chain BL hb9; clear hb9 BL
            refine Lib.hid ?_
            go_wp2
            refine bodyPost_ret (v := .bool true) (by simp [results, Tryz.results8, go_sem]) rfl ?_
            exact ⟨rfl, B9⟩
          · have R7 := Lib.hid C7; have HB6 := Lib.hid B6; clear C7 hl B6
            go_wp2_with (go_at_call 32; refine R7.out.mono ?_; rintro e w7 ⟨rfl, hb7⟩; refine Hid.out ?_)
            have B7 := Below.chain HB6.out hb7; clear hb7 y0 y1 y2 R7
            refine Lib.hid ?_
            go_wp2_with (go_at_call 40; refine (K8.out _ B7 _ _ KQ1.out KQ2.out).mono ?_; rintro e w8 ⟨rfl, hb8⟩; refine Hid.out ?_)
            have BL := Below.chain B7 hb8; clear hb8 B7
            refine Lib.hid ?_
            go_wp2_with (go_at_call 13; refine (KA.out _ BL).mono ?_; rintro e w9 ⟨rfl, hb9⟩; refine Hid.out ?_)
            have B9 := Below.chain BL hb9; clear hb9 BL
            refine Lib.hid ?_
            go_wp2
            refine bodyPost_ret (v := .bool true) (by simp [results, Tryz.results8, go_sem]) rfl ?_
            exact ⟨rfl, B9⟩
        · clear H4 K7 HL P6
          dsimp only [LOut.bad] at *
          have BL := B6; clear B6
          go_wp2_with (go_at_call 13; refine (KA.out _ BL).mono ?_; rintro e w9 ⟨rfl, hb9⟩; refine Hid.out ?_)
          have B9 := Below.chain BL hb9; clear hb9 BL
          refine Lib.hid ?_
          go_wp2
          refine bodyPost_ret (v := .bool true) (by simp [results, Tryz.results8, go_sem]) rfl ?_
          exact ⟨rfl, B9⟩
    all_goals
      clear X3 P3
      have BL := B3
      clear B3
      go_wp2_with (go_at_call 13; refine (KA.out _ BL).mono ?_; rintro e w9 ⟨rfl, hb9⟩; refine Hid.out ?_)
      have B9 := Below.chain BL hb9; clear hb9 BL
      refine Lib.hid ?_
      go_wp2
      refine bodyPost_ret (v := .bool true) (by simp [results, Tryz.results8, go_sem]) rfl ?_
      exact ⟨rfl, B9⟩
end Go.Proofs.YtjobmkdaaionlaaGreatDoor

