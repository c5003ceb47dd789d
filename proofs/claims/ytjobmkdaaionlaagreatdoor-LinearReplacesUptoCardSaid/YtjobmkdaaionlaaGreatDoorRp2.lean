import Derived.Test.YtjobmkdaaionlaaGreatDoorRp1

set_option linter.unusedVariables false
/-
  The law LinearReplaces.
-/
set_option linter.unusedSimpArgs false
namespace Go.Proofs.YtjobmkdaaionlaaGreatDoor
open Go Go.Proofs Go.RowKit

/-- A row that is appended to an own empty list. -/
theorem wpList_append_src {ops : Array Oper} {rest : List Oper} {o : Oper} {a : Act} {W : World} {Q : Exit → Act → World → Prop}
    (hg : o.guard = none) (s x : Operand) (hop : o.op = Op.call { callee := Callee.builtin Builtin.append, args := #[s, x], argTypes := #[25, 25] })
    (base : Nat) (v : Value) (hs : a.eval s = v) (hown : W.ownsRow base 22 1 v 0 (strCells [])) (hbase : base ≤ W.heap.size)
    (l : List ByteArray) (n : Nat) (hn : l.length = n) (h0 : 0 < n) (hl : n ≤ 1200000) (ao : Option Addr) (c : Nat) (hx : a.eval x = .slice ao n c) (hr : SRow W ao c l)
    (hK : ∀ (g cap : Nat) (w9 : World), w9.ownsRow base 22 1 (.slice (some ⟨g, 0, none⟩) n cap) n (strCells l) → Below base W w9 → wpList Tryz.prog ops Q rest (a.put o.dst (.slice (some ⟨g, 0, none⟩) n cap)) w9) :
    wpList Tryz.prog ops Q (o :: rest) a W := by
  obtain ⟨i0, hi, hz0, hz1, hz2⟩ := info_parts infoRat
  subst hn
  rcases hr.2.2 with ⟨e, -⟩ | ⟨b, off, rfl, hlt, hc⟩
  · rw [e] at h0; simp at h0
  refine wpList_append_lies W hg s x 25 hop base 22 i0 (.string ⟨#[]⟩) 1 16 Tryz.underlying25 hi hz0 hz1 hz2 rfl (by decide) v 0 (strCells []) hs hown ⟨b, off, none⟩ l.length c (strCells l) hx (by rw [strCells_length, Nat.mul_one]) ?_ (by intro u hu; simp [strCells] at hu; obtain ⟨x, -, rfl⟩ := hu; rfl) h0 (by unfold maxLen; omega) (by omega) hbase _ rfl ?_
  · intro j u hu
    have hj : j < l.length := by
      have := (List.getElem?_eq_some_iff.1 hu).1
      rwa [strCells_length] at this
    rw [show ((⟨b, off, none⟩ : Addr).add j) = ⟨b, off + j, none⟩ by simp [Addr.add]]
    refine (hc j hj).trans ?_
    rw [← hu]; simp [strCells, hj]
  · intro g cap w9 hown9 hgrow _ hg9
    rw [Nat.zero_add] at hown9 ⊢
    exact hK g cap w9 hown9 ((Below.refl _ _).grown hgrow hbase (fun k hk => (hown.lt k hk).1))
theorem firstE_set {p : List ByteArray} (h : firstE p = 0) (i : Nat) {v : ByteArray} (hv : numE (bytes v) = 0) : firstE (p.set i v) = 0 := by
  rw [firstE_iff] at h ⊢
  intro s hs
  rcases List.mem_or_eq_of_mem_set hs with h1 | rfl
  · exact h s h1
  · exact hv

set_option maxRecDepth 20000 in
set_option maxHeartbeats 1000000 in
theorem lrepl_walk (l : List ByteArray) (k : ByteArray) (ao : Option Addr) (c : Nat) (m : List ByteArray) (k2 : ByteArray) (bo : Option Addr) (d : Nat) (p : List ByteArray) (po : Option Addr) (pc : Nat) (w : World)
    (hr : SRow w ao c l) (hz : ∀ s ∈ l ++ [k], s.size ≤ 1200000) (hn : l.length ≤ 1200000) (hr2 : SRow w bo d m) (hz2 : ∀ s ∈ m ++ [k2], s.size ≤ 1200000) (hn2 : m.length ≤ 1200000) (hp : SRow w po pc p) (hzp : ∀ s ∈ p, s.size ≤ 1200000) (hnp : p.length ≤ 1200000)
    (htab : Lib.TabIs Tryz.prog w "internal/strconv.uint64pow10" .u64 Lib.pow10Tab) :
    Calls Tryz.prog 9 #[.agg #[.slice ao l.length c, .string k], .agg #[.slice bo m.length d, .string k2], .slice po p.length pc] w fun e w' => e = .returned (.bool true) ∧ Below w.heap.size w w' := by
  have hT := Lib.tabBelow_of_tabIs htab
  have CA : ∀ W : World, Below w.heap.size w W → Calls Tryz.prog 13 #[] W (Bret (.bool true) W) := fun W hW => awake03 W (hT.on hW).here
  have CR := fun (W : World) (q : Nat) (hW : Below w.heap.size w W) (hq : W.heap.size = q) => right_two l k ao c m k2 bo d p po pc W q hq (hr.mono hW) hz hn (hr2.mono hW) hz2 hn2 (hp.mono hW) hzp hnp
  obtain ⟨X, Y, B⟩ := entry2 w (.slice ao l.length c) (.string k) (.slice bo m.length d) (.string k2) 27
  have x0 := X.c0; have x1 := X.c1; have x2 := X.lt; have y0 := Y.c0; have y1 := Y.c1; have y2 := Y.lt
  have NB := fun (W : World) (hW : Below w.heap.size w W) => (Below.chain hW ((Below.refl W.heap.size W).alloc (Nat.le_refl _) (Obj.cells #[.slice ao l.length c, .string k, .slice bo m.length d, .string k2] 27)))
  by_cases hrb : rightB [(l, k), (m, k2)] p = true ∧ 0 < p.length
  · obtain ⟨hrb, hp0⟩ := hrb
    obtain ⟨e1, e2, e3, e4, e5⟩ := rightB_two hrb
    rw [hrb] at CR
    obtain ⟨g1, g2⟩ := linE_zero e2
    obtain ⟨g3, g4⟩ := linE_zero e4
    have gp := firstE_good e5
    have C1 := fun (j : Nat) (hj : j < l.length) (W : World) (hW : Below w.heap.size w W) => by
      have := linSub l k ao c (j : Int) m k2 bo d W (hr.mono hW) hz hn (hr2.mono hW) hz2 hn2 (hT.on hW).here
      unfold subAll bothE at this
      rw [e2, e4, if_pos rfl, if_pos rfl, if_pos (by omega), if_neg (by omega), Int.toNat_natCast] at this
      exact this
    have C3 := fun (W : World) (hW : Below w.heap.size w W) => linEval m k2 bo d p po pc W (hr2.mono hW) hz2 hn2 (hp.mono hW) hzp hnp (hT.on hW).here
    rw [evO_val e4 e3 e5] at C3
    have C4 := fun (j : Nat) (hj : j < l.length) (W : World) (hW : Below w.heap.size w W) (a3 : Option Addr) (c3 : Nat) (h0 : (List.zipWith addT (l.set j z0) (m.map fun s => mulT s (l.getD j ⟨#[]⟩)) ++ [addT k (mulT k2 (l.getD j ⟨#[]⟩))]).all shortS = true) (h3 : SRow W a3 c3 (List.zipWith addT (l.set j z0) (m.map fun s => mulT s (l.getD j ⟨#[]⟩)))) => by
      have gA : ∀ s ∈ List.zipWith addT (l.set j z0) (m.map fun s => mulT s (l.getD j ⟨#[]⟩)) ++ [addT k (mulT k2 (l.getD j ⟨#[]⟩))], Good 301 s := by
        have gl : Good 100 (l.getD j ⟨#[]⟩) := by rw [getD_get l hj]; exact g2 _ (List.mem_append_left _ (List.getElem_mem hj))
        rw [← zip_snoc addT (l.set j z0) (m.map fun s => mulT s (l.getD j ⟨#[]⟩)) k (mulT k2 (l.getD j ⟨#[]⟩)) (by simp; omega)]
        refine zip_good (i := 100) (j := 200) (fun s hs => ?_) (fun s hs => ?_)
        · rcases List.mem_append.1 hs with h | h
          · exact set_good (fun s hs => g2 s (List.mem_append_left _ hs)) j (good0 (by decide)) s h
          · rw [List.mem_singleton.1 h]; exact g2 k (by simp)
        · rcases List.mem_append.1 hs with h | h
          · exact map_good (fun s hs => g4 s (List.mem_append_left _ hs)) gl s h
          · rw [List.mem_singleton.1 h]; exact (g4 k2 (by simp)).mul gl
      have hlen : (List.zipWith addT (l.set j z0) (m.map fun s => mulT s (l.getD j ⟨#[]⟩))).length = p.length := by simp; omega
      have := linEval (List.zipWith addT (l.set j z0) (m.map fun s => mulT s (l.getD j ⟨#[]⟩))) (addT k (mulT k2 (l.getD j ⟨#[]⟩))) a3 c3 p po pc W h3 (fun s hs => (gA s hs).sz2 (by decide) (by decide)) (by omega) (hp.mono hW) hzp hnp (hT.on hW).here
      rw [evO_val (linE_short (by omega) gA (by decide) h0) hlen e5, valQ_sub e1 e3 hj] at this
      exact this
    have C5 := fun (j : Nat) (W : World) (hW : Below w.heap.size w W) (hs2 : shortQ (valQ m k2 p) = true) (a3 : Option Addr) (c3 : Nat) (h3 : SRow W a3 c3 (p.set j (tq (valQ m k2 p)))) => by
      have := linEval l k ao c (p.set j (tq (valQ m k2 p))) a3 c3 W (hr.mono hW) hz hn h3 (fun s hs => by
        rcases List.mem_or_eq_of_mem_set hs with h | h
        · exact hzp s h
        · rw [h]; exact (good_evV hs2).sz2 (by decide) (by decide)) (by simpa using hnp) (hT.on hW).here
      rw [evO_val e2 (by simpa using e1) (firstE_set e5 j (shortQ_tq hs2)), List.length_set] at this
      exact this
    have hAl : ∀ j, (List.zipWith addT (l.set j z0) (m.map fun s => mulT s (l.getD j ⟨#[]⟩))).length = p.length := fun j => by simp; omega
    have hP := fun (W : World) (hW : Below w.heap.size w W) => hp.mono hW
    have hv := evV_cases (valQ m k2 p)
    have hc := fun j => exprO_cases (List.zipWith addT (l.set j z0) (m.map fun s => mulT s (l.getD j ⟨#[]⟩))) (addT k (mulT k2 (l.getD j ⟨#[]⟩)))
    have hlp : l.length = p.length := e1
    unfold subO at C1
    clear hz hz2 hzp e2 e3 e4 e5 e1 g1 g2 g3 g4 gp hT htab hr hr2 hp hrb hn hn2
    generalize valQ m k2 p = q2 at *
    have KA := Lib.hid CA; have KR := Lib.hid CR; have KN := Lib.hid NB; have K1 := Lib.hid C1; have K3 := Lib.hid C3; have K4 := Lib.hid C4; have K5 := Lib.hid C5
    have HAL := Lib.hid hAl; have HP := Lib.hid hP; have HV := Lib.hid hv; have HC := Lib.hid hc; have HLP := Lib.hid hlp
    clear CA CR NB C1 C3 C4 C5 hAl hP hv hc
    generalize hl9 : l.length = n at *
    have HL9 := Lib.hid hl9
    clear hl9
    generalize m.length = n2 at *
    generalize hp9 : p.length = n3 at *
    have HP9 := Lib.hid hp9
    clear hp9 hlp
    have hne : ((n3 : Int) == 0) = false := by rw [beq_eq_false_iff_ne]; omega
    go_enter Tryz.func9, Tryz.ntmps9
    go_wp2_with (go_at_call 38; refine (KR.out _ _ B (by simp)).mono ?_; rintro e w0 ⟨rfl, hb0⟩; refine Hid.out ?_)
    have N0 := Below.chain ((Below.refl _ _).alloc (Nat.le_refl _) (Obj.cells #[.slice ao n c, .string k, .slice bo n2 d, .string k2] 27)) hb0
    have B0 := Below.chain B N0; have X0 := X.mono N0; have Y0 := Y.mono N0
    clear hb0 N0 B X Y x0 x1 x2 y0 y1 y2
    have HB0 := Lib.hid B0; have HX0 := Lib.hid X0; have HY0 := Lib.hid Y0
    clear B0 X0 Y0
    refine Lib.hid ?_
    go_wp2_with fail
    go_loopw [31] (fun iv wr => ∃ (j : Nat), j ≤ n3 ∧ iv = .int .i64 (j : Int) ∧ Below w0.heap.size w0 wr) (fun iv _ => n3 - (intOf iv).toNat)
    case atStart => exact ⟨0, Nat.zero_le _, rfl, Below.refl _ _⟩
    case round =>
      obtain ⟨j, hj, rfl, hB⟩ := hrel
      have hBw := Below.chain HB0.out hB
      by_cases hlt : j < n3
      · have hjl : j < l.length := by rw [HL9.out, HLP.out]; exact hlt
        have hjn : j < n := by rw [HLP.out]; exact hlt
        have hjp : j < p.length := by rw [HP9.out]; exact hlt
        have C1 := K1.out j hjn wr hBw
        have C4 := K4.out j hjn
        have C5 := K5.out j
        have hc := HC.out j
        have hAl := HAL.out j
        clear K1 K4 K5 HC HAL
        generalize List.zipWith addT (l.set j z0) (List.map (fun s => mulT s (l.getD j ⟨#[]⟩)) m) = A at *
        generalize addT k (mulT k2 (l.getD j ⟨#[]⟩)) = ka at *
        generalize hO : exprO A ka = O1 at *
        generalize valQ l k (p.set j (tq q2)) = q3 at *
        have hv := HV.out
        generalize hv1 : evV q2 = v2 at *
        clear hO hv1 HV hjl hjn
        have hS5 : ∀ (B9 : Nat) (W : World) (g cap : Nat), W.ownsRow B9 22 1 (.slice (some ⟨g, 0, none⟩) n3 cap) n3 (strCells p) → (∃ old, W.cell? ⟨g, j, none⟩ = some (.string old)) ∧ W.frozen? ⟨g, j, none⟩ = false ∧ g < W.heap.size ∧ B9 ≤ g ∧ n3 ≤ cap ∧ SRow (W.setCell ⟨g, j, none⟩ (.string (tq q2))) (some ⟨g, 0, none⟩) cap (p.set j (tq q2)) := fun B9 W g cap h => by
          obtain ⟨S4, h1, h2, h3, h4⟩ := sblk_of_owns h
          exact ⟨⟨_, S4.cell j hjp⟩, S4.frozen j, S4.lt, h4, h2, (S4.set j hjp (tq q2)).row (by rw [List.length_set]; omega) h3⟩
        have K1 := Lib.hid C1; have K4 := Lib.hid C4; have K5 := Lib.hid C5; have H1 := Lib.hid hc; have H2 := Lib.hid hv; have HA := Lib.hid hAl; have HS5 := Lib.hid hS5
        have bX := HX0.out.mono hB; have bY := HY0.out.mono hB
        have x0 := bX.c0; have x1 := bX.c1; have x2 := bX.lt; have y0 := bY.c0; have y1 := bY.c1; have y2 := bY.lt
        have HB := Lib.hid hB; have HBw := Lib.hid hBw
        have hj0 : (0 : Int) ≤ (j : Int) := by omega
        have hj1 : (j : Int) < (n3 : Int) := by omega
        clear C1 C4 C5 hc hv hAl hS5 hB hBw hjp bX bY
        go_wp2_with (go_at_call 34; refine K1.out.mono ?_; rintro e w1 ⟨a1, c1, rfl, r1, hb1⟩; refine Hid.out ?_)
        have P1 := OB.new r1 27
        have N1 := nb hb1 (Obj.cells #[.slice a1 O1.l.length c1, .string O1.k] 27)
        have B1 := Below.chain HB.out N1
        have B1w := Below.chain HB0.out B1
        have Y1 := HY0.out.mono B1
        clear r1 hb1 N1 x0 x1 x2 y0 y1 y2 K1
        have y0 := Y1.c0; have y1 := Y1.c1; have y2 := Y1.lt
        clear Y1
        refine Lib.hid ?_
        go_wp2_with (go_at_call 32; refine (K3.out _ B1w).mono ?_; rintro e w2 ⟨rfl, hb2⟩; refine Hid.out ?_)
        have P2 := P1.mono hb2; have B2 := Below.chain B1 hb2; have B2w := Below.chain B1w hb2
        clear hb2 B1 B1w P1 y0 y1 y2
        refine Lib.hid ?_
        rcases H1.out with ⟨rfl, hs⟩ | rfl <;> rcases H2.out with ⟨rfl, hq⟩ | rfl
        case inl.inl =>
          clear H1 H2
          (try dsimp only [LOut.bad] at *)
          have KS := Lib.hid hs; have KQ := Lib.hid hq; have HP2 := Lib.hid P2; have HB2 := Lib.hid B2; have HB2w := Lib.hid B2w
          clear hs hq P2 B2 B2w
          have A3 : Below w2.heap.size w2 (w2.alloc (Obj.cells #[] 22)) := (Below.refl _ _).alloc (Nat.le_refl _) _
          have o1 : (w2.alloc (Obj.cells #[] 22)).ownsRow w2.heap.size 22 1 (.slice (some ⟨w2.heap.size, 0, none⟩) 0 0) 0 (strCells []) := World.ownsRow_lit w2 #[] 0 (Nat.le_refl _) (by decide) rfl
          have r1 := (HP.out w2 HB2w.out).mono A3
          have A4 := Lib.hid A3; have O1 := Lib.hid o1; have R1 := Lib.hid r1
          clear A3 o1 r1
          go_wp2_with (first | (at_builtin; refine wpList_append_src rfl (.tmp 70) (.tmp 71) rfl w2.heap.size _ (by simp [Act.eval, Act.put]) O1.out (by simp) p n3 HP9.out hp0 hnp po pc (by simp [Act.eval, Act.put]) R1.out ?_; intro g cap w4 ho4 hb4; refine Hid.out ?_) | fail)
          obtain ⟨⟨old, s1⟩, s2, s3, s4, s5, s6⟩ := HS5.out _ w4 g cap ho4
          have b4 := A4.out.trans hb4
          have b5 := b4.setCell (p := ⟨g, j, none⟩) s4 (.string (tq q2))
          have P5 := HP2.out.mono b5
          have bX := HX0.out.mono (Below.chain HB2.out b5)
          have hh := HA.out
          have C4 := K4.out _ (Below.chain HB2w.out b5) _ _ KS.out P5.r
          have hv3 := evV_cases q3
          have HB5 := Lib.hid (Below.chain HB2.out b5); have HBw5 := Lib.hid (Below.chain HB2w.out b5); have S6 := Lib.hid s6; have HX5 := Lib.hid bX
          have y0 := P5.x.c0; have y1 := P5.x.c1; have y2 := P5.x.lt
          rw [hh] at y0 C4
          clear ho4 hb4 b4 b5 s6 K4 HA HS5 A4 O1 R1 HP2 hh P5 bX
          rcases hv3 with ⟨hv3, -⟩ | hv3 <;> rw [hv3] at C4 K5 <;> clear hv3
          all_goals
            have R4 := Lib.hid C4
            clear C4
            refine Lib.hid ?_
            go_wp2_with (go_at_call 32; refine R4.out.mono ?_; rintro e w6 ⟨rfl, hb6⟩; refine Hid.out ?_)
            have bX := HX5.out.mono hb6
            have R5 := K5.out _ (Below.chain HBw5.out hb6) KQ.out _ _ (S6.out.mono hb6)
            have B6 := Below.chain HB5.out hb6
            have B6w := Below.chain HBw5.out hb6
            clear hb6 y0 y1 y2 s1 s2 s3 K5 S6 R4 HX5
            have x0 := bX.c0; have x1 := bX.c1; have x2 := bX.lt
            have R6 := Lib.hid R5
            clear R5 bX
            refine Lib.hid ?_
            go_wp2_with (go_at_call 32; refine R6.out.mono ?_; rintro e w7 ⟨rfl, hb7⟩; refine Hid.out ?_)
            have HB7 := Lib.hid (Below.chain B6 hb7)
            clear hb7 x0 x1 x2 B6 B6w R6
            refine Lib.hid ?_
            go_wp2
            go_roundw
            case rel => exact ⟨j + 1, by omega, by go_num, HB7.out⟩
            case measure => simp [intOf]; omega
        all_goals
          clear P2
          (try dsimp only [LOut.bad])
          have BL := B2w
          clear B2 B2w
          go_wp2_with (go_at_call 13; refine (KA.out _ BL).mono ?_; rintro e w9 ⟨rfl, hb9⟩; refine Hid.out ?_)
          have B9 := Below.chain BL hb9; clear hb9 BL
          refine Lib.hid ?_
          go_wp2
          go_ret
          exact ⟨rfl, B9⟩
      · have hjn : j = n3 := by omega
        subst hjn
        have BL := hBw
        clear hBw hB
        go_wp2_with (go_at_call 13; refine (KA.out _ BL).mono ?_; rintro e w9 ⟨rfl, hb9⟩; refine Hid.out ?_)
        have B9 := Below.chain BL hb9; clear hb9 BL
        refine Lib.hid ?_
        go_wp2
        refine bodyPost_ret (v := .bool true) (by simp [results, Tryz.results9, go_sem]) rfl ?_
        exact ⟨rfl, B9⟩
  · have hcs : rightB [(l, k), (m, k2)] p = false ∨ (rightB [(l, k), (m, k2)] p = true ∧ p.length = 0) := by
      cases h : rightB [(l, k), (m, k2)] p
      · exact .inl rfl
      · exact .inr ⟨rfl, by rw [h] at hrb; simp at hrb; simpa using hrb⟩
    rcases hcs with h | ⟨h, h0⟩ <;> rw [h] at CR
    all_goals
      (try rw [h0] at CR)
      (try rw [h0])
      generalize l.length = n at *
      generalize m.length = n2 at *
      (try generalize p.length = n3 at *)
      have KA := Lib.hid CA; have KR := Lib.hid CR; have KN := Lib.hid NB
      clear CA CR NB hT htab hr hr2 hz hz2 hp hzp hrb h
      (try clear h0)
      go_enter Tryz.func9, Tryz.ntmps9
      go_wp2_with (go_at_call 38; refine (KR.out _ _ B (by simp)).mono ?_; rintro e w0 ⟨rfl, hb0⟩; refine Hid.out ?_)
      have BL := Below.chain (KN.out _ B) hb0; clear hb0 B
      refine Lib.hid ?_
      go_wp2_with (go_at_call 13; refine (KA.out _ BL).mono ?_; rintro e w9 ⟨rfl, hb9⟩; refine Hid.out ?_)
      have B9 := Below.chain BL hb9; clear hb9 BL
      refine Lib.hid ?_
      go_wp2
      refine bodyPost_ret (v := .bool true) (by simp [results, Tryz.results9, go_sem]) rfl ?_
      exact ⟨rfl, B9⟩
end Go.Proofs.YtjobmkdaaionlaaGreatDoor

