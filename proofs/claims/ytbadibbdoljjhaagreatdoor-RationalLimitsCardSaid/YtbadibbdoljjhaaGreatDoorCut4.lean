import Derived.RangeFuncNested
import Derived.Test.YtbadibbdoljjhaaGreatDoorOwnIter
import Derived.Test.YtbadibbdoljjhaaGreatDoorCut3
import Derived.Test.YtbadibbdoljjhaaGreatDoorCut2
import Derived.Test.YtbadibbdoljjhaaGreatDoorCut1
import Derived.Lib.AppendIntMem
import Derived.Test.YtbadibbdoljjhaaGreatDoorShelfP
import Derived.Laws.IdiomStrings
import Derived.RegionTactic
import Derived.StillTailTactics
import Derived.Deep.RegionWith
import Derived.Lib.ParseIntB
import Derived.Lib.AtoiErrMem
import Derived.Lib.QuietBelow

set_option linter.unusedVariables false
namespace Go.Proofs.YtbadibbdoljjhaaGreatDoor
open Go Go.Proofs Go.RowKit Go.Shelf

attribute [local go_sem] Oper.semAt_some

set_option maxHeartbeats 1000000 in
theorem limbsOf_any (s : ByteArray) (w : World) :
    Calls Tryz.prog 198 #[.string s] w fun e w' => e = .returned (.func (.func 228) #[] #[.pointer (some ⟨w.heap.size, 0, none⟩)]) ∧ w' = w.alloc (.cells #[.string s] 9) := by
  go_enter Tryz.func198, Tryz.ntmps198
  go_wp2
  go_ret
  exact ⟨rfl, rfl⟩

theorem iter_stops (n : Nat) (hn : 1 ≤ n) (Bn : Nat) (s : ByteArray) (hs : s.size ≤ 9223372036854775807) (hd : AllDig (bytes s)) (w : World) (hBn : Bn < w.heap.size) (hc : w.cell? ⟨Bn, 0, none⟩ = some (.string s)) :
    SeqStopsK Fence.wide n Tryz.prog 228 #[.pointer (some ⟨Bn, 0, none⟩)] (fun x : Nat => #[Value.int .u32 ((x : Nat) : Int)]) (KBlk Bn) (fun ys => ys = chunks (bytes s)) (fun pre => pre <+: chunks (bytes s)) (chunks (bytes s)).length w := fun l J Jx W hW _ _ hY h0 =>
  iter_in n hn l Bn s hs hd J Jx hY W ((hW.cell (p := ⟨Bn, 0, none⟩) hBn).trans hc) h0

theorem RowAt.put {W : World} {D : Nat} {x : Option (List Deferred)} (hK : W.heap[D]? = some (.deferred x)) (o : Obj) {ao : Option Addr} {c : Nat} {l : List Nat} (h : RowAt W ao c l) : RowAt (W.putObj D o) ao c l := by
  obtain ⟨h1, h2, h3⟩ := h
  refine ⟨h1, h2, ?_⟩
  rcases h3 with h3 | ⟨b, off, he, hlt, hc⟩
  · exact .inl h3
  · refine .inr ⟨b, off, he, by simpa using hlt, fun k hk => ?_⟩
    have h4 := hc k hk
    have hne : b ≠ D := fun e => by subst e; simp [World.cell?, hK] at h4
    rw [World.cell?_of_block (w := W) (a := ⟨b, off + k, none⟩) (World.putObj_heap_other hne)]
    exact h4

set_option maxRecDepth 100000 in
set_option maxHeartbeats 2000000 in
theorem parse_good (s : ByteArray) (w : World) (hs : s.size ≤ 1000000000000) (hd : digB (bytes s) = true) :
    Calls Tryz.prog 154 #[.string s] w fun e w' => ∃ v, e = .returned (.tuple #[v, .bool true]) ∧ NumAt w' v (dec (bytes s)) ∧ Below w.heap.size w w' := by
  obtain ⟨i0, hi, hz0, hz1, hz2⟩ := info_parts infoU32
  have hall := allDigits_any s
  rw [hd] at hall
  have HALL := Lib.hid hall
  have hdg : AllDig (bytes s) := fun c hc => by
    unfold digB at hd
    rw [Bool.and_eq_true] at hd
    exact List.all_eq_true.1 hd.2 c hc
  have HD := Lib.hid hdg
  clear hall hd hdg
  refine (callsIn_wide (n := 3)).1 ?_
  refine callsIn_of_wp_marks Tryz.func154 rfl trivial ?_ rfl
  simp only [Tryz.ntmps154, List.size_toArray, List.length_cons, List.length_nil, Nat.reduceAdd, Nat.reduceSub, Array.replicate_succ, Array.replicate_zero, List.push_toArray, List.append_toArray, List.nil_append, List.cons_append]
  gi_wp2_with fail
  refine ⟨trivial, (callsIn_wide.2 (HALL.out _ (by omega))).mono ?_⟩
  rintro e w' ⟨rfl, rfl⟩
  gi_wp2_with (gi_at_make; refine wpListIn_make_own _ rfl _ _ 91 rfl (w.heap.size + 1) 159 i0 (.int .u32 0) 1 Tryz.underlying91 hi hz0 hz1 .i64 .i64 _ (s.size / 9 + 1) rfl rfl ?a1 ?a2 ?a3 ?a4 ?_)
  case a1 => omega
  case a2 => rw [hz2]; omega
  case a3 => unfold maxLen; omega
  case a4 => simp
  intro W1 hown hg
  have hbx0 : Boxed W1 w.heap.size 93 (.slice none 0 0) := (Boxed.new w 93 (.slice none 0 0)).kept hg (by simp)
  have hB1 : Below w.heap.size w W1 := Below.chain ((Below.refl w.heap.size w).alloc (Nat.le_refl _) _) (below_of_grown hg)
  have hsz1 : w.heap.size + 1 < W1.heap.size := by
    rcases hown.2 with ⟨h, _⟩ | ⟨g', cap, cur, he, hb, hgb, _⟩
    · simp at h
    · injection he with he _ _; injection he with he; injection he with he _ _
      have := (Array.getElem?_eq_some_iff.1 hgb).1
      omega
  have HOWN := Lib.hid hown; have HBX0 := Lib.hid hbx0; have HB1 := Lib.hid hB1
  clear hown hg hbx0 hB1
  gi_wp2_with fail
  refine ⟨trivial, (callsIn_wide.2 (limbsOf_any s _)).mono ?_⟩
  rintro e w' ⟨rfl, rfl⟩
  gi_wp2_with fail
  have bO := Boxed.new W1 91 (.slice (some ⟨w.heap.size + 1, 0, none⟩) 0 (s.size / 9 + 1))
  have bN := Boxed.new (W1.alloc (.cells #[.slice (some ⟨w.heap.size + 1, 0, none⟩) 0 (s.size / 9 + 1)] 91)) 9 (.string s)
  rw [World.size_alloc] at bN
  have hch := chunks_facts _ (bytes s) rfl HD.out
  rw [bytes_length] at hch
  obtain ⟨hch1, hch2, hch3⟩ := hch
  have HCH1 := Lib.hid hch1; have HCH2 := Lib.hid hch2
  clear hch1 hch2
  have hB2 : Below w.heap.size w ((W1.alloc (.cells #[.slice (some ⟨w.heap.size + 1, 0, none⟩) 0 (s.size / 9 + 1)] 91)).alloc (.cells #[.string s] 9)) :=
    (HB1.out.alloc HB1.out.size _).alloc (by simp; have := HB1.out.size; omega) _
  refine wpIn_rangeFunc_ownG rfl (by omega) (gf := 228) (lb := #[.pointer (some ⟨W1.heap.size + 1, 0, none⟩)]) rfl trivial (enters_of Tryz.func228 (by kernel_rfl) rfl)
    (iter_stops 2 (by omega) (W1.heap.size + 1) s (by omega) HD.out _ (by simp) bN.cell) (fun {A B C} h k => k.trans h) ?hKb (Below.refl _ _) (fun _ => rfl)
    (fun pre W => (∃ v, Boxed W W1.heap.size 91 v ∧ W.ownsRow (w.heap.size + 1) 159 1 v pre.length (cellsOf pre) ∧ True) ∧ Boxed W w.heap.size 93 (.slice none 0 0) ∧ Boxed W (W1.heap.size + 1) 9 (.string s) ∧ Below w.heap.size w W)
    (fun _ _ _ => False)
    (OwnFrom.and (Own.from (holdsRow_own (w.heap.size + 1) W1.heap.size 91 159 1 (fun pre : List Nat => pre.length) (fun pre => cellsOf pre) (fun _ _ => True)) _) (OwnFrom.and (Own.from (boxed_own w.heap.size 93 (fun _ => .slice none 0 0)) _) (OwnFrom.and (Own.from (boxed_own (W1.heap.size + 1) 9 (fun _ => .string s)) _) (ownFrom_below (Nat.le_refl _) (by simp; have := HB1.out.size; omega)))))
    (fun _ _ _ _ _ hs _ _ => hs)
    ⟨⟨_, bO.alloc _, (HOWN.out.alloc _).alloc _, trivial⟩, (HBX0.out.alloc _).alloc _, bN, hB2⟩
    (fun x => { tmps := #[.string s, undef, .pointer (some ⟨w.heap.size, 0, none⟩), .bool false, .pointer (some ⟨W1.heap.size, 0, none⟩), .int .u32 ((x : Nat) : Int), .string s, .bool true, .bool false, undef, .string s, .int .i64 (s.size : Int), .int .i64 ((s.size : Int) / 9), .int .i64 ((s.size : Int) / 9 + 1),
      .slice (some ⟨w.heap.size + 1, 0, none⟩) 0 (s.size / 9 + 1), .string s, .func (.func 228) #[] #[.pointer (some ⟨W1.heap.size + 1, 0, none⟩)], .int .u32 ((x : Nat) : Int), undef, undef, undef, undef, undef, undef], defers := [] }) ?assign ?body ?done ?stop
  case hKb =>
    intro W l o o' hl _ _ _
    exact World.putObj_heap_other (by simp at hl; omega)
  case assign =>
    intro l x W K hK
    gi_wp2
    exact hK
  case body =>
    rintro l pre x W ⟨⟨v, hv, hrow, -⟩, hbx, hst, hB⟩ hlt
    have hc := hv.cell
    have hf := hv.frozen
    have hWs := hv.lt
    have h1s := HB1.out.size
    gi_wp2_with (gi_at_builtin; refine wpListIn_append_own _ rfl _ _ 91 rfl (w.heap.size + 1) 159 i0 (.int .u32 0) 1 4 Tryz.underlying91 hi hz0 hz1 hz2 rfl (by decide) _ _ _ rfl (hrow.alloc _) ⟨W.heap.size, 0, none⟩ 1 1 [.int .u32 (x : Int)] rfl rfl (cell_one_new _ _ _) (by simp [Value.oneCell']) (by unfold maxLen; omega) (by omega) (by simp; omega) ?_; intro v' w1 hown' hgrow _; obtain ⟨g', cap', rfl⟩ := ownsRow_succ hown'; obtain ⟨hv1, hv2, hr2, hk2, hb2⟩ := hv.appended (by decide) hrow (by omega) (by omega) hown' hgrow; have hc1 := hv1.cell; have hf1 := hv1.frozen)
    have hbx1 := ((hbx.alloc _).kept hgrow (hbx.not_row (by decide) hrow)).other (B' := W1.heap.size) (by omega) (Value.slice (some { block := g', off := 0 }) (pre.length + 1) cap')
    have hst1 := ((hst.alloc _).kept hgrow (hst.not_row (by decide) hrow)).other (B' := W1.heap.size) (by omega) (Value.slice (some { block := g', off := 0 }) (pre.length + 1) cap')
    refine ⟨hk2.from _, hst1.trans hst.symm, ⟨_, hv2, ?_, trivial⟩, hbx1, hst1, hB.trans (hb2.mono (by omega))⟩
    rw [List.length_append, cellsOf_append]
    exact hr2
  case done =>
    rintro D ys W hD rfl ⟨⟨v, hv, hrow, -⟩, hbx, hst, hB⟩ hK
    have hc := hv.cell
    obtain ⟨ao, c, rfl, hra⟩ := row_of_owns hrow
    have hcb := hbx.cell
    have hfb := hbx.frozen
    have HRA := Lib.hid hra; have HB := Lib.hid hB
    clear hra hB hrow
    gi_wp2_with fail
    refine ⟨trivial, (callsIn_wide.2 (trimmed_any (chunks (bytes s)) ao c W HRA.out HCH1.out)).mono ?_⟩
    rintro e w2 ⟨v2, rfl, hv2, hb2⟩
    obtain ⟨a2, c2, rfl, hr2⟩ := hv2
    have hbx2 : Boxed w2 w.heap.size 93 (.slice none 0 0) := hbx.kept (grown_of_below hb2) (by simp)
    have hK2 : w2.heap[D]? = some (.deferred (some [])) := (hb2.block D (Array.getElem?_eq_some_iff.1 hK).1).trans hK
    have hcb2 := hbx2.cell
    have hfb2 := hbx2.frozen
    have HB2 := Lib.hid (Below.chain HB.out hb2); have HR2 := Lib.hid hr2
    clear hb2 hr2 hcb hfb hc
    gi_wp2
    have hDne : D ≠ w.heap.size := by simp at hD; have := HB1.out.size; omega
    have hK3 : (w2.setCell ⟨w.heap.size, 0, none⟩ (.slice a2 (limbs (val (chunks (bytes s)))).length c2)).heap[D]? = some (.deferred (some [])) := (Below.heap_setCell _ _ _ _ hDne).trans hK2
    refine ⟨by simp, .inl ⟨_, _, rfl, run_takeDeferred hK3, ?_⟩⟩
    have hc3 : ((w2.setCell ⟨w.heap.size, 0, none⟩ (.slice a2 (limbs (val (chunks (bytes s)))).length c2)).putObj D (.deferred none)).cell? ⟨w.heap.size, 0, none⟩ = some (.slice a2 (limbs (val (chunks (bytes s)))).length c2) := by
      rw [World.cell?_of_block (w := w2.setCell ⟨w.heap.size, 0, none⟩ (.slice a2 (limbs (val (chunks (bytes s)))).length c2)) (a := ⟨w.heap.size, 0, none⟩) (World.putObj_heap_other hDne.symm)]
      exact cellSet hcb2 _
    refine ⟨.tuple #[.agg #[.slice a2 (limbs (val (chunks (bytes s)))).length c2], .bool true], by simp [results, Tryz.results154, go_sem, hc3], _, rfl, ⟨a2, c2, by rw [HCH2.out], ?_⟩, ?_⟩
    · rw [← HCH2.out]; exact RowAt.put hK3 _ (HR2.out.box hcb2 _)
    · exact (HB2.out.setCell (p := ⟨w.heap.size, 0, none⟩) (Nat.le_refl _) _).trans (belowK_b (w := w) (Nat.le_refl _) _ D _ _ (by simp at hD; have := HB1.out.size; omega) hK3 rfl rfl)
  case stop =>
    rintro D c pre W _ _ h _
    exact h.elim

end Go.Proofs.YtbadibbdoljjhaaGreatDoor

/-
  appendLimb: nine digits behind a text.
-/
namespace Go.Proofs.YtbadibbdoljjhaaGreatDoor
open Go Go.Proofs Go.RowKit

/-- The first j of the nine digits of a limb. -/
def pre (u j : Nat) : List UInt8 := (List.range j).map fun i => UInt8.ofNat (48 + u / (100000000 / 10 ^ i) % 10)
theorem pre_length (u j : Nat) : (pre u j).length = j := by simp [pre]
theorem pre_succ (u j : Nat) : pre u (j + 1) = pre u j ++ [UInt8.ofNat (48 + u / (100000000 / 10 ^ j) % 10)] := by
  simp [pre, List.range_succ]
theorem pre_dig (u j : Nat) : AllDig (pre u j) := by
  intro c hc
  simp only [pre, List.mem_map, List.mem_range] at hc
  obtain ⟨i, -, rfl⟩ := hc
  exact isDig_ofNat _ (Nat.mod_lt _ (by decide))
theorem dec_pre (u : Nat) (hu : u < 1000000000) : dec (pre u 9) = u := by
  simp only [pre_succ, dec_snoc]
  have e : dec (pre u 0) = 0 := rfl
  rw [e]
  simp only [toNat_dig _ (Nat.mod_lt _ (by decide : 0 < 10))]
  simp only [Nat.reducePow, Nat.reduceDiv]
  omega

theorem infoU8 : (Tryz.prog.info? 5).map (fun i => (i.zero, i.size, i.bytes)) = some (some (.int .u8 0), 1, 1) := by kernel_rfl

theorem byteCells_append (a b : List UInt8) : Lib.byteCells (a ++ b) = Lib.byteCells a ++ Lib.byteCells b := by simp [Lib.byteCells]
theorem byteCells_length (a : List UInt8) : (Lib.byteCells a).length = a.length := by simp [Lib.byteCells]

theorem unit_pos : ∀ j, j < 9 → 0 < 100000000 / 10 ^ j := by decide
theorem unit_next : ∀ j, j < 9 → 100000000 / 10 ^ j / 10 = 100000000 / 10 ^ (j + 1) := by decide
theorem unit_le (j : Nat) : 100000000 / 10 ^ j ≤ 100000000 := Nat.div_le_self _ _

theorem digit_cell (u k j : Nat) (hu : u < 1000000000) (hk : 0 < k) (he : k = 100000000 / 10 ^ j) :
    [Value.int .u8 (48 + (u : Int) / (k : Int) % 4294967296 % 10)] = Lib.byteCells [UInt8.ofNat (48 + u / (100000000 / 10 ^ j) % 10)] := by
  subst he
  have h1 : u / (100000000 / 10 ^ j) ≤ u := Nat.div_le_self _ _
  simp only [Lib.byteCells, List.map_cons, List.map_nil]
  rw [toNat_dig _ (Nat.mod_lt _ (by decide))]
  congr 2
  generalize 100000000 / 10 ^ j = k at *
  rw [← Int.natCast_ediv]
  generalize u / k = q at *
  omega

set_option maxHeartbeats 1000000 in
theorem appendLimb_own (B n u : Nat) (hu : u < 1000000000) (sv : Value) (xs : List Value) (w : World) (hown0 : w.ownsRow B 5 1 sv n xs) (hB : B ≤ w.heap.size) (hlim : n + 20 ≤ 140737488355328) :
    Calls Tryz.prog 201 #[sv, .int .u32 u] w fun e w' => ∃ v', e = .returned v' ∧ w'.ownsRow B 5 1 v' (n + 9) (xs ++ Lib.byteCells (pre u 9)) ∧ Below B w w' := by
  obtain ⟨i0, hi, hz0, hz1, hz2⟩ := info_parts infoU8
  have HU := Lib.hid hu; clear hu
  go_enter Tryz.func201, Tryz.ntmps201
  go_wp2_with fail
  go_loopw [0, 5] (fun v m wr => ∃ j k : Nat, j ≤ 9 ∧ k = 100000000 / 10 ^ j ∧ m = .int .u32 k ∧ wr.ownsRow B 5 1 v (n + j) (xs ++ Lib.byteCells (pre u j)) ∧ Below B w wr) (fun _ m _ => (intOf m).toNat)
  case atStart => exact ⟨0, 100000000, by omega, rfl, rfl, by simpa [pre, Lib.byteCells] using hown0, Below.refl _ _⟩
  case round =>
    obtain ⟨j, k, hj, hk, rfl, hown, hbw⟩ := hrel
    by_cases hj9 : j = 9
    · have hk0 : k = 0 := by rw [hk, hj9]
      have hkn : decide (0 < k) = false := by simp; omega
      clear hk
      go_wp2
      subst hj9
      refine bodyPost_ret (v := u0) (by simp [results, Tryz.results201, go_sem]) rfl ⟨_, rfl, hown, hbw⟩
    · have hk1 : 0 < k := by have := unit_pos j (by omega); omega
      have hkle : k ≤ 100000000 := by have := unit_le j; omega
      have HK := Lib.hid hk; clear hk
      go_wp2_with (at_builtin; refine wpList_append_own _ rfl _ _ 117 rfl B 5 i0 (.int .u8 0) 1 1 Tryz.underlying117 hi hz0 hz1 hz2 rfl (by decide) _ _ _ rfl (hown.alloc _) ⟨wr.heap.size, 0, none⟩ 1 1 [.int .u8 (48 + (u : Int) / (k : Int) % 4294967296 % 10)] rfl rfl ?c1 ?c2 ?c3 ?c4 ?c5 ?_)
      case c1 => intro j u hj; match j, hj with | 0, hj => (simp at hj; subst hj; simp [Addr.add])
      case c2 => intro u hu; simp at hu; subst hu; rfl
      case c3 => unfold maxLen; omega
      case c4 => omega
      case c5 => have := hbw.size; simp; omega
      intro v' w1 hown' hgrow _
      go_wp2
      go_roundw
      case rel =>
        refine ⟨j + 1, k / 10, by omega, ?_, ?_, ?_, ?_⟩
        · rw [HK.out]; exact unit_next j (by omega)
        · exact congrArg (Value.int .u32) (by omega)
        · rw [pre_succ, byteCells_append, ← Nat.add_assoc, ← digit_cell u k j HU.out hk1 HK.out]
          exact hown'
        · exact hbw.trans (((Below.refl _ _).alloc (by have := hbw.size; omega) _).grown hgrow (by have := hbw.size; simp; omega) (fun k hk => ((hown.lt k hk)).1))
      case measure => simp only [intOf]; omega
end Go.Proofs.YtbadibbdoljjhaaGreatDoor

/-
  strconv.AppendUint in base 10, for a limb: the library's contract, met by the caller that the program has.
-/
namespace Go.Proofs.YtbadibbdoljjhaaGreatDoor
open Go Go.Proofs Go.RowKit

set_option maxHeartbeats 1000000 in
theorem appendUint_own (B n u : Nat) (hu : u < 1000000000) (sv : Value) (xs : List Value) (w : World) (hown0 : w.ownsRow B 5 1 sv n xs) (hB : B ≤ w.heap.size) (hlim : n + 20 ≤ 140737488355328) (htab : Lib.TabIs Tryz.prog w "internal/strconv.uint64pow10" .u64 Lib.pow10Tab) :
    Calls Tryz.prog 200 #[sv, .int .u64 u, .int .i64 10] w fun e w' => ∃ v', e = .returned v' ∧ w'.ownsRow B 5 1 v' (n + (Lib.decDigits u).length) (xs ++ Lib.byteCells (Lib.decDigits u)) ∧ Below B w w' := by
  have C : Calls Tryz.prog 230 #[sv, .int .u64 u, .int .i64 10] w fun e w' => ∃ v', e = .returned v' ∧ w'.ownsRow B 5 1 v' (n + (Lib.decDigits u).length) (xs ++ Lib.byteCells (Lib.decDigits u)) ∧ Below B w w' := by
    by_cases h : u < 100
    · exact (Tryz.internal_strconv_AppendUint_10_small B n u h sv xs w hown0 hB hlim).mono fun e w' ⟨v', h1, h2, h3, _⟩ => ⟨v', h1, h2, h3⟩
    · exact (Tryz.internal_strconv_AppendUint_10_big B n u (by omega) (by omega) sv xs w hown0 hB hlim htab).mono fun e w' ⟨v', h1, h2, h3, _⟩ => ⟨v', h1, h2, h3⟩
  clear hown0 htab
  go_enter Tryz.func200, Tryz.ntmps200
  go_wp2_with (go_at_call 230; refine C.mono ?_; rintro e w1 ⟨v1, rfl, hown1, hnx1⟩; refine Hid.out ?_)
  refine Lib.hid ?_
  go_wp2
  go_ret
  exact ⟨_, rfl, hown1, hnx1⟩
end Go.Proofs.YtbadibbdoljjhaaGreatDoor

/-
  The digits of a number, limb by limb.
-/
namespace Go.Proofs.YtbadibbdoljjhaaGreatDoor
open Go Go.Proofs Go.RowKit

theorem text_step (l : List Nat) (i : Nat) (h : i < l.length) (hs : Small l) (hpos : val (l.drop (i + 1)) ≠ 0) :
    Lib.decDigits (val (l.drop i)) = Lib.decDigits (val (l.drop (i + 1))) ++ pre (l.getD i 0) 9 := by
  have hd : AllDig (Lib.decDigits (val (l.drop (i + 1))) ++ pre (l.getD i 0) 9) := (allDig_decDigits _).append (pre_dig _ _)
  have hne : Lib.decDigits (val (l.drop (i + 1))) ++ pre (l.getD i 0) 9 ≠ [] := by
    intro e; exact decDigits_ne_nil _ (List.append_eq_nil_iff.1 e).1
  have hv : dec (Lib.decDigits (val (l.drop (i + 1))) ++ pre (l.getD i 0) 9) = val (l.drop i) := by
    rw [dec_append, dec_decDigits, pre_length, dec_pre _ (hs.getD i), List.drop_eq_getElem_cons h, val_cons, getD_lt l i h]
    omega
  rw [← hv]
  refine (eq_decDigits hd hne (.inr ?_)).symm
  rw [List.head_append_of_ne_nil (decDigits_ne_nil _)]
  exact decDigits_head _ hpos

theorem drop_pos (l : List Nat) (hn : Norm l) (i : Nat) (h : i < l.length) : val (l.drop i) ≠ 0 := by
  have hne : l.drop i ≠ [] := by simp; omega
  have hn' : Norm (l.drop i) := by
    intro h'
    rw [List.getLast_drop]
    exact hn _
  exact Nat.ne_of_gt (norm_val_pos hn' hne)

theorem text_top (l : List Nat) (h : 0 < l.length) : val (l.drop (l.length - 1)) = l.getD (l.length - 1) 0 := by
  rw [List.drop_eq_getElem_cons (by omega), val_cons, getD_lt l _ (by omega), show l.length - 1 + 1 = l.length by omega, List.drop_length]
  rfl

theorem decDigits_length_le (u k : Nat) (hk : 1 ≤ k) (h : u < 10 ^ k) : (Lib.decDigits u).length ≤ k := by
  have := nDigits_le_of_lt hk h
  rwa [Lib.decDigits_length]
end Go.Proofs.YtbadibbdoljjhaaGreatDoor

/-
  natural.Text.
-/
namespace Go.Proofs.YtbadibbdoljjhaaGreatDoor
open Go Go.Proofs Go.RowKit

theorem dec0 : Lib.decDigits 0 = [48] := (eq_decDigits (l := [48]) (by intro c hc; simp at hc; subst hc; rfl) (by simp) (.inl rfl)).symm

theorem text_zero (v : Value) (w : World) (hv : NumAt w v 0) :
    Calls Tryz.prog 155 #[v] w fun e w' => e = .returned (.string ⟨(Lib.decDigits 0).toArray⟩) ∧ Below w.heap.size w w' := by
  have C0 : ∀ W : World, Below w.heap.size w W → Calls Tryz.prog 151 #[v] W fun e w' => e = .returned (.bool true) ∧ Below W.heap.size W w' := fun W hW => isZero_any 0 v W (hv.mono hW)
  obtain ⟨ao, c, rfl, -⟩ := hv
  generalize (limbs 0).length = n at *
  go_enter Tryz.func155, Tryz.ntmps155
  have A : Below w.heap.size w (w.alloc (Obj.cells #[Value.slice ao n c] 93)) := (Below.refl _ _).alloc (Nat.le_refl _) _
  go_wp2_with (go_at_call 151; refine (C0 _ A).mono ?_; rintro e w1 ⟨rfl, hnx1⟩; refine Hid.out ?_)
  refine Lib.hid ?_
  go_wp2
  go_ret
  exact ⟨by rw [dec0]; rfl, Below.chain A hnx1⟩

set_option maxHeartbeats 2000000 in
theorem text_pos (x : Nat) (v : Value) (w : World) (hx0 : x ≠ 0) (hv : NumAt w v x) (hlen : (limbs x).length ≤ 1000000000000) (htab : Lib.TabIs Tryz.prog w "internal/strconv.uint64pow10" .u64 Lib.pow10Tab) :
    Calls Tryz.prog 155 #[v] w fun e w' => e = .returned (.string ⟨(Lib.decDigits x).toArray⟩) ∧ Below w.heap.size w w' := by
  obtain ⟨i0, hi, hz0, hz1, hz2⟩ := info_parts infoU8
  have C0 : ∀ W : World, Below w.heap.size w W → Calls Tryz.prog 151 #[v] W fun e w' => e = .returned (.bool false) ∧ Below W.heap.size W w' := fun W hW => by
    have := isZero_any x v W (hv.mono hW)
    rwa [decide_eq_false hx0] at this
  have hT := Lib.tabBelow_of_tabIs htab
  obtain ⟨ao, c, rfl, hr⟩ := hv
  have hs := limbs_small x
  have hno := limbs_norm x
  have hval := val_limbs x
  have hne : limbs x ≠ [] := fun h => hx0 (limbs_nil_iff.1 h)
  generalize limbs x = X at *
  obtain ⟨b, off, rfl⟩ := hr.addr hne
  have hn0 : 0 < X.length := List.length_pos_iff.2 hne
  have HR := Lib.hid hr; have HS := Lib.hid hs; have HNO := Lib.hid hno; have HV := Lib.hid hval; have HC0 := Lib.hid C0; have HT := Lib.hid hT
  clear hr hs hno hval C0 hT htab hne
  obtain ⟨m, hn⟩ : ∃ m, X.length = m + 1 := ⟨X.length - 1, by omega⟩
  rw [hn] at hlen hn0 HC0 ⊢
  have HN := Lib.hid hn
  clear hn hn0
  go_enter Tryz.func155, Tryz.ntmps155
  have A : Below w.heap.size w (w.alloc (Obj.cells #[Value.slice (some ⟨b, off, none⟩) (m + 1 : Nat) c] 93)) := (Below.refl _ _).alloc (Nat.le_refl _) _
  have cA : (w.alloc (Obj.cells #[Value.slice (some ⟨b, off, none⟩) (m + 1 : Nat) c] 93)).cell? ⟨w.heap.size, 0, none⟩ = some (Value.slice (some ⟨b, off, none⟩) (m + 1 : Nat) c) := by go_cell
  have sA : w.heap.size < (w.alloc (Obj.cells #[Value.slice (some ⟨b, off, none⟩) (m + 1 : Nat) c] 93)).heap.size := by simp
  go_wp2_with (go_at_call 151; refine (HC0.out _ A).mono ?_; rintro e w1 ⟨rfl, hnx1⟩; refine Hid.out ?_)
  have A1 := Below.chain A hnx1
  have c1 := (hnx1.cell (p := ⟨w.heap.size, 0, none⟩) (by simp)).trans cA
  have s1 := Nat.lt_of_lt_of_le sA hnx1.size
  clear A cA sA hnx1
  refine Lib.hid ?_
  go_wp2_with (at_make; refine wpList_make_own _ rfl _ _ 117 rfl (w.heap.size + 1) 5 i0 (.int .u8 0) 1 Tryz.underlying117 hi hz0 hz1 .i64 .i64 _ (9 * (m + 1)) rfl rfl ?a1 ?a2 ?a3 ?a4 ?_)
  case a1 => push_cast; rfl
  case a2 => rw [hz2]; omega
  case a3 => unfold maxLen; omega
  case a4 => omega
  intro W0 hown0 hg0
  have hb0 : Below (w.heap.size + 1) w1 W0 := (below_of_grown hg0).mono (by omega)
  clear hg0
  have c2 := (hb0.cell (p := ⟨w.heap.size, 0, none⟩) (by simp)).trans c1
  have cx := (HR.out.mono (A1.trans (hb0.mono (Nat.le_succ _)))).get m (by rw [HN.out]; omega)
  have hu : X.getD m 0 < 1000000000 := HS.out.getD m
  have s2 := Nat.lt_of_lt_of_le s1 hb0.size
  obtain ⟨u, hue⟩ : ∃ u, u = X.getD m 0 := ⟨_, rfl⟩
  rw [← hue] at cx hu
  have HU := Lib.hid hu; have HUE := Lib.hid hue; clear hue
  go_wp2_with (go_at_call 200; refine (appendUint_own (w.heap.size + 1) 0 u HU.out _ [] W0 hown0 (by omega) (by omega) ((HT.out.on A1).on (hb0.mono (Nat.le_succ _))).here).mono ?_; rintro e w2 ⟨v2, rfl, hown2, hnx2⟩; refine Hid.out ?_)
  refine Lib.hid ?_
  rw [Nat.zero_add, List.nil_append] at hown2
  have hN2 : (Lib.decDigits u).length ≤ 9 := decDigits_length_le u 9 (by decide) (by have := HU.out; omega)
  have e2 : Lib.decDigits u = Lib.decDigits (val (X.drop m)) := by
    have := text_top X (by rw [HN.out]; omega)
    rw [HN.out, Nat.add_sub_cancel] at this
    rw [this, HUE.out]
  rw [e2] at hown2 hN2
  have hbW := hb0.trans (hnx2.mono (Nat.le_refl _))
  generalize hL2 : (Lib.decDigits (val (X.drop m))).length = L2 at hown2 hN2
  have HOWN := Lib.hid hown2; clear hown2 hown0 c2 cx s2 hb0 hnx2 e2 hL2
  go_wp2_with fail
  go_loopw [4, 5] (fun tv iv wr => ∃ j L : Nat, j ≤ m ∧ L + 9 * j ≤ 9 * (m + 1) ∧ iv = .int .i64 ((j : Int) - 1) ∧ wr.ownsRow (w.heap.size + 1) 5 1 tv L (Lib.byteCells (Lib.decDigits (val (X.drop j)))) ∧ Below (w.heap.size + 1) w1 wr) (fun _ iv _ => (intOf iv + 1).toNat)
  case atStart => exact ⟨m, L2, Nat.le_refl _, by omega, rfl, HOWN.out, hbW⟩
  case round =>
    obtain ⟨j, L, hj, hL, rfl, hown, hbw⟩ := hrel
    have c3 := (hbw.cell (p := ⟨w.heap.size, 0, none⟩) (by simp)).trans c1
    have s3 := Nat.lt_of_lt_of_le s1 hbw.size
    rcases Nat.eq_zero_or_pos j with rfl | hj0
    · obtain ⟨l, hl⟩ : ∃ l, l = Lib.decDigits (val (X.drop 0)) := ⟨_, rfl⟩
      have hlx : l = Lib.decDigits x := by rw [hl, List.drop_zero, HV.out]
      have hlp : 0 < l.length := by rw [hl]; exact List.length_pos_iff.2 (decDigits_ne_nil _)
      rw [← hl] at hown
      have hLl : L = l.length := by have := hown.1; rw [byteCells_length] at this; omega
      subst hLl
      have HLX := Lib.hid hlx; clear hlx hl
      have HO := Lib.hid hown
      rcases hown.2 with ⟨-, h0⟩ | ⟨g, cap, cur, rfl, -, -, -, -, -, -⟩
      · omega
      have hcv := run_convert_bytes_back (P := Tryz.prog) wr 117 9 5 ⟨g, 0, none⟩ cap l Tryz.underlying117 Tryz.underlying5 Tryz.underlying9 (fun j hj => hown.cells (g := g) rfl j _ (by simp [Lib.byteCells, hj]))
      clear hown
      go_wp2
      go_ret
      exact ⟨by rw [← HLX.out]; rfl, A1.trans (hbw.mono (Nat.le_succ _))⟩
    · obtain ⟨k, rfl⟩ : ∃ k, j = k + 1 := ⟨j - 1, by omega⟩
      have cy := (HR.out.mono (A1.trans (hbw.mono (Nat.le_succ _)))).get k (by rw [HN.out]; omega)
      obtain ⟨y, hye⟩ : ∃ y, y = X.getD k 0 := ⟨_, rfl⟩
      have hy : y < 1000000000 := by rw [hye]; exact HS.out.getD k
      rw [← hye] at cy
      have HY := Lib.hid hy; have HYE := Lib.hid hye; clear hye
      have HO := Lib.hid hown; clear hown
      go_wp2_with (go_at_call 201; refine (appendLimb_own (w.heap.size + 1) L y HY.out _ _ wr HO.out (by omega) (by omega)).mono ?_; rintro e w3 ⟨v3, rfl, hown3, hnx3⟩; refine Hid.out ?_)
      refine Lib.hid ?_
      have hst : Lib.decDigits (val (X.drop k)) = Lib.decDigits (val (X.drop (k + 1))) ++ pre y 9 := by
        rw [HYE.out]; exact text_step X k (by rw [HN.out]; omega) HS.out (drop_pos X HNO.out (k + 1) (by rw [HN.out]; omega))
      rw [← byteCells_append, ← hst] at hown3
      have HO3 := Lib.hid hown3; clear hown3 hst
      have hb3 := hbw.trans (hnx3.mono (Nat.le_refl _))
      go_wp2
      go_roundw
      case rel => exact ⟨k, L + 9, by omega, by omega, rfl, HO3.out, hb3⟩
      case measure => simp only [intOf]; omega

theorem text_any (x : Nat) (v : Value) (w : World) (hv : NumAt w v x) (hlen : (limbs x).length ≤ 1000000000000) (htab : Lib.TabIs Tryz.prog w "internal/strconv.uint64pow10" .u64 Lib.pow10Tab) :
    Calls Tryz.prog 155 #[v] w fun e w' => e = .returned (.string ⟨(Lib.decDigits x).toArray⟩) ∧ Below w.heap.size w w' := by
  by_cases h : x = 0
  · subst h; exact text_zero v w hv
  · exact text_pos x v w h hv hlen htab
end Go.Proofs.YtbadibbdoljjhaaGreatDoor

/-
  natural.GcdWords.
-/
namespace Go.Proofs.YtbadibbdoljjhaaGreatDoor
open Go Go.Proofs Go.RowKit

set_option maxHeartbeats 1000000 in
theorem gcdWords_any (x y : Nat) (w : World) (hx : x < 18446744073709551616) (hy : y < 18446744073709551616) :
    Calls Tryz.prog 136 #[.int .u64 x, .int .u64 y] w fun e w' => e = .returned (.int .u64 (Nat.gcd x y : Nat)) ∧ Below w.heap.size w w' := by
  have HX := Lib.hid hx; have HY := Lib.hid hy; clear hx hy
  go_enter Tryz.func136, Tryz.ntmps136
  go_wp2_with fail
  go_loopw [0, 1] (fun a b wr => ∃ p q : Nat, p < 18446744073709551616 ∧ q < 18446744073709551616 ∧ a = .int .u64 p ∧ b = .int .u64 q ∧ Nat.gcd p q = Nat.gcd x y ∧ Below w.heap.size w wr) (fun _ b _ => (intOf b).toNat)
  case atStart => exact ⟨x, y, HX.out, HY.out, rfl, rfl, rfl, Below.refl _ _⟩
  case round =>
    obtain ⟨p, q, hp, hq, rfl, rfl, hg, hbw⟩ := hrel
    have HG := Lib.hid hg; clear hg
    have HP := Lib.hid hp; have HQ := Lib.hid hq
    rcases Nat.eq_zero_or_pos q with rfl | hq0
    · clear hp hq
      go_wp2
      refine bodyPost_ret (by simp [results, Tryz.results136, go_sem]; rfl) rfl ⟨?_, hbw⟩
      rw [← HG.out, Nat.gcd_zero_right]
    · go_wp2_with fail
      go_region
      all_goals go_wp2
      refine ⟨⟨q, p % q, HQ.out, Nat.lt_of_le_of_lt (Nat.mod_le _ _) HP.out, rfl, rfl, ?_, hbw.drew⟩, ?_⟩
      · rw [← HG.out, Nat.gcd_comm p q, Nat.gcd_rec q p, Nat.gcd_comm]
      · have := Nat.mod_lt p hq0
        simp only [intOf]
        omega
end Go.Proofs.YtbadibbdoljjhaaGreatDoor

/-
  bigint: numbers from notations, and back.
-/
namespace Go.Proofs.YtbadibbdoljjhaaGreatDoor
open Go Go.Proofs Go.RowKit

/-- A value of type bigint.number that stands for z. -/
def IntAt (w : World) (v : Value) (z : Int) : Prop := ∃ ao c, v = .agg #[.bool (decide (z < 0)), .slice ao (limbs z.natAbs).length c] ∧ RowAt w ao c (limbs z.natAbs)

theorem IntAt.mono {w w' : World} {v : Value} {z : Int} (h : IntAt w v z) (hb : Below w.heap.size w w') : IntAt w' v z := by
  obtain ⟨ao, c, rfl, hr⟩ := h
  exact ⟨ao, c, rfl, hr.mono hb⟩

theorem decDigits_limbs (x : Nat) : (Lib.decDigits x).length ≤ 9 * (limbs x).length + 1 := by
  refine decDigits_length_le x _ (by omega) (Nat.lt_of_lt_of_le (lt_pow_limbs x) ?_)
  rw [show (1000000000 : Nat) = 10 ^ 9 from rfl, ← Nat.pow_mul]
  exact Nat.pow_le_pow_right (by decide) (by omega)

set_option maxHeartbeats 1000000 in
theorem textZ_any (z : Int) (v : Value) (w : World) (hv : IntAt w v z) (hlen : (limbs z.natAbs).length ≤ 1000000000000) (htab : Lib.TabIs Tryz.prog w "internal/strconv.uint64pow10" .u64 Lib.pow10Tab) :
    Calls Tryz.prog 93 #[v] w fun e w' => e = .returned (.string (str (Lib.itoa z))) ∧ Below w.heap.size w w' := by
  obtain ⟨ao, c, rfl, hr⟩ := hv
  have hT := Lib.tabBelow_of_tabIs htab
  have C : ∀ W : World, Below w.heap.size w W → Calls Tryz.prog 155 #[.agg #[.slice ao (limbs z.natAbs).length c]] W fun e w' => e = .returned (.string (str (Lib.decDigits z.natAbs))) ∧ Below W.heap.size W w' :=
    fun W hW => text_any z.natAbs _ W ⟨ao, c, rfl, hr.mono hW⟩ hlen (hT.on hW).here
  have hi : str (Lib.itoa z) = if decide (z < 0) = true then (⟨#[45]⟩ : ByteArray) ++ str (Lib.decDigits z.natAbs) else str (Lib.decDigits z.natAbs) := by
    by_cases h : z < 0
    · rw [decide_eq_true h, if_pos rfl, itoa_neg h]
      apply ByteArray.ext
      simp [str]
    · rw [decide_eq_false h, if_neg (by simp), itoa_nonneg h]
  have HI := Lib.hid hi; have HC := Lib.hid C
  have hds : (str (Lib.decDigits z.natAbs)).size ≤ 9000000000001 := by
    rw [str_size]; have := decDigits_limbs z.natAbs; omega
  clear hi C hT htab hr hlen
  generalize str (Lib.itoa z) = r at *
  generalize str (Lib.decDigits z.natAbs) = d at *
  generalize (limbs z.natAbs).length = n at *
  generalize decide (z < 0) = b at *
  have A : Below w.heap.size w (w.alloc (Obj.cells #[.bool b, .slice ao n c] 95)) := (Below.refl _ _).alloc (Nat.le_refl _) _
  have cA : (w.alloc (Obj.cells #[.bool b, .slice ao n c] 95)).cell? ⟨w.heap.size, 0, none⟩ = some (Value.bool b) := by go_cell
  have sA : w.heap.size < (w.alloc (Obj.cells #[.bool b, .slice ao n c] 95)).heap.size := by simp
  have HA := Lib.hid A; have HCA := Lib.hid cA; have HSA := Lib.hid sA
  clear A cA sA
  cases b
  · have hr : r = d := HI.out
    subst hr; clear HI
    go_enter Tryz.func93, Tryz.ntmps93
    go_wp2_with (go_at_call 155; refine (HC.out _ HA.out).mono ?_; rintro e w1 ⟨rfl, hb1⟩; refine Hid.out ?_)
    have hb := Below.chain HA.out hb1
    have c1 := (hb1.cell (p := ⟨w.heap.size, 0, none⟩) HSA.out).trans HCA.out
    refine Lib.hid ?_
    clear hb1
    go_wp2
    go_ret
    exact ⟨rfl, hb⟩
  · have hr : r = ⟨#[45]⟩ ++ d := HI.out
    have HR := Lib.hid hr; clear hr HI
    go_enter Tryz.func93, Tryz.ntmps93
    go_wp2_with (go_at_call 155; refine (HC.out _ HA.out).mono ?_; rintro e w1 ⟨rfl, hb1⟩; refine Hid.out ?_)
    have hb := Below.chain HA.out hb1
    have c1 := (hb1.cell (p := ⟨w.heap.size, 0, none⟩) HSA.out).trans HCA.out
    refine Lib.hid ?_
    clear hb1
    go_wp2
    go_ret
    exact ⟨by rw [HR.out]; rfl, hb⟩
end Go.Proofs.YtbadibbdoljjhaaGreatDoor

/-
  bigint: parse.
-/
namespace Go.Proofs.YtbadibbdoljjhaaGreatDoor
open Go Go.Proofs Go.RowKit

theorem digB_decDigits (u : Nat) : digB (Lib.decDigits u) = true := by
  unfold digB
  rw [Bool.and_eq_true]
  refine ⟨?_, List.all_eq_true.2 (allDig_decDigits u)⟩
  cases he : (Lib.decDigits u).isEmpty
  · rfl
  · exact absurd (List.isEmpty_iff.1 he) (decDigits_ne_nil _)

/-- A box of another kind may be written. -/
theorem RowAt.boxV {w : World} {ao : Option Addr} {c : Nat} {l : List Nat} (h : RowAt w ao c l) {p : Addr} (hp : ∀ k : Int, w.cell? p ≠ some (.int .u32 k)) (u : Value) : RowAt (w.setCell p u) ao c l := by
  obtain ⟨h1, h2, h3⟩ := h
  refine ⟨h1, h2, ?_⟩
  rcases h3 with h3 | ⟨b, off, he, hlt, hc⟩
  · exact .inl h3
  · refine .inr ⟨b, off, he, by simpa [World.setCell] using hlt, fun k hk => ?_⟩
    have h4 := hc k hk
    rw [World.cell?_setCell_other (h := fun e => hp _ (by rw [e]; exact h4))]
    exact h4

set_option maxHeartbeats 1000000 in
theorem parseZ_any (s : ByteArray) (z : Int) (w : World) (hz : bytes s = Lib.itoa z) (hs : s.size ≤ 1000000000000) :
    Calls Tryz.prog 92 #[.string s] w fun e w' => ∃ v, e = .returned v ∧ IntAt w' v z ∧ Below w.heap.size w w' := by
  have C1 := digits_any s
  have C2 := isNegative_any s
  rw [hz, digL_itoa] at C1
  rw [hz, negB_itoa] at C2
  have C3 := fun W => parse_good (str (Lib.decDigits z.natAbs)) W
    (by rw [str_size]; have := digL_le (bytes s); rw [hz, digL_itoa, ← hz] at this; exact Nat.le_trans this hs) (by rw [bytes_str]; exact digB_decDigits _)
  rw [bytes_str, dec_decDigits] at C3
  have HC1 := Lib.hid C1; have HC2 := Lib.hid C2; have HC3 := Lib.hid C3
  clear C1 C2 C3 hz hs
  unfold IntAt
  generalize str (Lib.decDigits z.natAbs) = d at *
  generalize decide (z < 0) = b at *
  generalize z.natAbs = x at *
  go_enter Tryz.func92, Tryz.ntmps92
  go_wp2_with (go_at_call 116; refine (HC1.out _).mono ?_; rintro e w1 ⟨rfl, rfl⟩; refine Hid.out ?_)
  refine Lib.hid ?_
  go_wp2_with (go_at_call 154; refine (HC3.out _).mono ?_; rintro e w2 ⟨v2, rfl, hv2, hb2⟩; refine Hid.out ?_)
  obtain ⟨ao, c, rfl, hr2⟩ := hv2
  have HR2 := Lib.hid hr2; clear hr2
  have c0 : (w.alloc (Obj.cells #[Value.bool false, Value.slice none 0 0] 95)).cell? ⟨w.heap.size, 0, none⟩ = some (Value.bool false) := by go_cell
  have c1 : (w.alloc (Obj.cells #[Value.bool false, Value.slice none 0 0] 95)).cell? ⟨w.heap.size, 1, none⟩ = some (Value.slice none 0 0) := by go_cell
  have f0 : (w.alloc (Obj.cells #[Value.bool false, Value.slice none 0 0] 95)).frozen? ⟨w.heap.size, 0, none⟩ = false := by go_cell
  have f1 : (w.alloc (Obj.cells #[Value.bool false, Value.slice none 0 0] 95)).frozen? ⟨w.heap.size, 1, none⟩ = false := by go_cell
  have s0 : w.heap.size < (w.alloc (Obj.cells #[Value.bool false, Value.slice none 0 0] 95)).heap.size := by simp
  have B0 : Below w.heap.size w (w.alloc (Obj.cells #[Value.bool false, Value.slice none 0 0] 95)) := (Below.refl _ _).alloc (Nat.le_refl _) _
  generalize w.alloc (Obj.cells #[Value.bool false, Value.slice none 0 0] 95) = W0 at *
  have d0 := (hb2.cell (p := ⟨w.heap.size, 0, none⟩) s0).trans c0
  have d1 := (hb2.cell (p := ⟨w.heap.size, 1, none⟩) s0).trans c1
  have g0 := (hb2.frozen (p := ⟨w.heap.size, 0, none⟩) s0).trans f0
  have g1 := (hb2.frozen (p := ⟨w.heap.size, 1, none⟩) s0).trans f1
  have s2 := Nat.lt_of_lt_of_le s0 hb2.size
  have B2 := Below.chain B0 hb2
  clear c0 c1 f0 f1 s0 B0 hb2
  have HB2 := Lib.hid B2; clear B2
  refine Lib.hid ?_
  go_wp2_with fail
  have e0 : (w2.alloc (Obj.cells #[Value.slice ao (limbs x).length c] 93)).cell? ⟨w.heap.size, 0, none⟩ = some (Value.bool false) := by go_cell
  have e1 : (w2.alloc (Obj.cells #[Value.slice ao (limbs x).length c] 93)).cell? ⟨w.heap.size, 1, none⟩ = some (Value.slice none 0 0) := by go_cell
  have e2 : (w2.alloc (Obj.cells #[Value.slice ao (limbs x).length c] 93)).cell? ⟨w2.heap.size, 0, none⟩ = some (Value.slice ao (limbs x).length c) := by go_cell
  have h0 : (w2.alloc (Obj.cells #[Value.slice ao (limbs x).length c] 93)).frozen? ⟨w.heap.size, 0, none⟩ = false := by go_cell
  have h1 : (w2.alloc (Obj.cells #[Value.slice ao (limbs x).length c] 93)).frozen? ⟨w.heap.size, 1, none⟩ = false := by go_cell
  have s3 : w.heap.size < (w2.alloc (Obj.cells #[Value.slice ao (limbs x).length c] 93)).heap.size := by simp; omega
  have B3 := (HB2.out.alloc (Nat.le_of_lt s2) (Obj.cells #[Value.slice ao (limbs x).length c] 93))
  have hr3 := HR2.out.mono ((Below.refl _ _).alloc (Nat.le_refl _) (Obj.cells #[Value.slice ao (limbs x).length c] 93))
  generalize hW : w2.alloc (Obj.cells #[Value.slice ao (limbs x).length c] 93) = W at *
  have HB3 := Lib.hid B3; have HR3 := Lib.hid hr3
  clear hW HR2 HB2 B3 hr3 d0 d1 g0 g1
  generalize hn : (limbs x).length = n at *
  have HN := Lib.hid hn; clear hn
  go_region_with (go_at_call 115; refine (HC2.out _).mono ?_; rintro e w4 ⟨rfl, rfl⟩)
  all_goals
    have q0 : ((W.setCell ⟨w.heap.size, 0, none⟩ (Value.bool b)).setCell ⟨w.heap.size, 1, none⟩ (Value.slice ao n c)).cell? ⟨w.heap.size, 0, none⟩ = some (Value.bool b) := by
      rw [World.cell?_setCell_other (h := by simp)]; exact cellSet e0 _
    have q1 : ((W.setCell ⟨w.heap.size, 0, none⟩ (Value.bool b)).setCell ⟨w.heap.size, 1, none⟩ (Value.slice ao n c)).cell? ⟨w.heap.size, 1, none⟩ = some (Value.slice ao n c) :=
      cellSet (u := Value.slice none 0 0) (by rw [World.cell?_setCell_other (h := by simp)]; exact e1) _
    go_wp2
    refine bodyPost_ret (v := .agg #[.bool b, .slice ao n c]) (by simp [results, Tryz.results92, go_sem, q0, q1]) rfl ?_
    refine ⟨_, rfl, ⟨ao, c, by rw [HN.out], ?_⟩, ?_⟩
    · refine RowAt.mono ?_ ((Below.refl _ _).drew)
      refine RowAt.boxV (RowAt.boxV HR3.out (fun k => ?_) _) (fun k => ?_) _
      · rw [e0]; simp
      · rw [World.cell?_setCell_other (h := by simp), e1]; simp
    · exact ((HB3.out.setCell (p := ⟨w.heap.size, 0, none⟩) (Nat.le_refl _) _).setCell (p := ⟨w.heap.size, 1, none⟩) (Nat.le_refl _) _).drew
end Go.Proofs.YtbadibbdoljjhaaGreatDoor

/-
  bigint: short integers as words.
-/
namespace Go.Proofs.YtbadibbdoljjhaaGreatDoor
open Go Go.Proofs Go.RowKit

theorem parseUintM_dec (M : Nat) (hM : 1000000000000000000 ≤ M) : ∀ (l : List UInt8) (acc : Nat), AllDig l → acc * 10 ^ l.length + dec l < 1000000000000000000 → Lib.parseUintM M acc l = .ok (acc * 10 ^ l.length + dec l)
  | [], acc, _, _ => by simp [Lib.parseUintM, dec]
  | c :: t, acc, h, hb => by
    have hc := isDig_iff.1 (h c (List.mem_cons_self ..))
    have ht : AllDig t := fun y hy => h y (List.mem_cons_of_mem _ hy)
    have e : acc * 10 ^ (c :: t).length + dec (c :: t) = (acc * 10 + (c.toNat - 48)) * 10 ^ t.length + dec t := by
      simp only [List.length_cons, dec, Nat.pow_succ]
      grind
    rw [e] at hb ⊢
    have hp : 1 ≤ 10 ^ t.length := Nat.pos_of_ne_zero (by simp)
    have h1 : acc * 10 + (c.toNat - 48) ≤ (acc * 10 + (c.toNat - 48)) * 10 ^ t.length := Nat.le_mul_of_pos_right _ hp
    unfold Lib.parseUintM
    rw [if_pos hc, if_neg (by omega), if_neg (by omega)]
    exact parseUintM_dec M hM t _ ht hb

theorem parseUintB_dec (u : Nat) (hu : u < 1000000000000000000) : Lib.parseUintB 64 (Lib.decDigits u) = .ok u := by
  unfold Lib.parseUintB
  rw [if_neg (decDigits_ne_nil u), parseUintM_dec _ (by decide) _ 0 (allDig_decDigits u) (by rw [dec_decDigits]; omega), dec_decDigits]
  simp

theorem parseIntB_itoa (z : Int) (hz : z.natAbs < 1000000000000000000) : Lib.parseIntB 64 (Lib.itoa z) = .ok z := by
  by_cases h : z < 0
  · rw [itoa_neg h]
    have h45 : (45 : UInt8).toNat = 45 := rfl
    unfold Lib.parseIntB
    simp only [h45, or_true, if_true, parseUintB_dec _ hz]
    rw [if_neg (by omega), if_neg (by omega)]
    congr 1; omega
  · rw [itoa_nonneg h]
    have hd := allDig_decDigits z.natAbs
    have hp := parseUintB_dec _ hz
    have hne := decDigits_ne_nil z.natAbs
    generalize Lib.decDigits z.natAbs = l at *
    match l, hd, hp, hne with
    | c :: t, hd, hp, _ =>
      have hc := isDig_iff.1 (hd c (List.mem_cons_self ..))
      unfold Lib.parseIntB
      have h1 : ¬ (c.toNat = 43 ∨ c.toNat = 45) := by omega
      have h2 : ¬ c.toNat = 45 := by omega
      have e : Lib.parseUintB 64 (if c.toNat = 43 ∨ c.toNat = 45 then t else c :: t) = .ok z.natAbs := by rw [if_neg h1]; exact hp
      simp only [e]
      simp only [h2, if_false, not_false_eq_true, true_and, false_and]
      rw [if_neg (by omega)]
      congr 1; omega

set_option maxHeartbeats 1000000 in
theorem wordZ_any (s : ByteArray) (z : Int) (w : World) (hz : bytes s = Lib.itoa z) (hs : s.size ≤ 1000000000000) (hzb : z.natAbs < 1000000000000000000) :
    Calls Tryz.prog 135 #[.string s] w fun e w' => e = .returned (.int .i64 z) ∧ Below w.heap.size w w' := by
  have C : ∀ W : World, Calls Tryz.prog 192 #[.string s, .int .i64 10, .int .i64 64] W fun e w' => e = .returned (.tuple #[.int .i64 z, .nilIface]) ∧ Below W.heap.size W w' := fun W =>
    (Tryz.strconv_ParseInt_10_at64_ok s (by omega) z (by show Lib.parseIntB 64 (bytes s) = _; rw [hz]; exact parseIntB_itoa z hzb) W).mono fun e w' h => by
      refine ⟨h.1, ?_⟩
      rcases h.2 with rfl | ⟨t, rfl⟩
      · exact Below.refl _ _
      · exact Lib.bytesWorld_below _ _ _
  clear hz hzb
  go_enter Tryz.func135, Tryz.ntmps135
  go_wp2_with (go_at_call 192; refine (C _).mono ?_; rintro e w1 ⟨rfl, hb1⟩; refine Hid.out ?_)
  refine Lib.hid ?_
  go_wp2
  go_ret
  exact ⟨rfl, hb1⟩
end Go.Proofs.YtbadibbdoljjhaaGreatDoor

/-
  Operations, and strings that are integers.
-/
namespace Go.Proofs.YtbadibbdoljjhaaGreatDoor
open Go Go.Proofs Go.RowKit Go.Sort

/-- The pair of functions of an operation. -/
def opV (fs fl : Nat) : Value := .agg #[.func (.func fs) #[] #[], .func (.func fl) #[] #[]]

/-- A string that is an integer's canonical notation, not too long. -/
structure Str (s : ByteArray) (z : Int) : Prop where
  text : bytes s = Lib.itoa z
  len : (Lib.decDigits z.natAbs).length ≤ 4096

theorem Str.err {s : ByteArray} {z : Int} (h : Str s z) : errOf (bytes s) = 0 := by rw [h.text]; exact errOf_itoa z h.len
theorem Str.size {s : ByteArray} {z : Int} (h : Str s z) : s.size ≤ 4097 := by
  have h1 : (bytes s).length = s.size := rfl
  rw [← h1, h.text]
  have := h.len
  by_cases hz : z < 0
  · rw [itoa_neg hz]; simp; omega
  · rw [itoa_nonneg hz]; omega
theorem Str.short {s : ByteArray} {z : Int} (h : Str s z) (hz : z.natAbs < 1000000000) : decide ((digL (bytes s)).length ≤ 9) = true := by
  rw [h.text, digL_itoa, decide_eq_true_eq]
  exact decDigits_length_le _ 9 (by decide) (by omega)
theorem Str.notShort {s : ByteArray} {z : Int} (h : Str s z) (hz : ¬ z.natAbs < 1000000000) : decide ((digL (bytes s)).length ≤ 9) = false := by
  rw [h.text, digL_itoa, decide_eq_false_iff_not]
  intro hl
  have h1 := dec_lt (allDig_decDigits z.natAbs)
  rw [dec_decDigits] at h1
  have : 10 ^ (Lib.decDigits z.natAbs).length ≤ 10 ^ 9 := Nat.pow_le_pow_right (by decide) hl
  omega

end Go.Proofs.YtbadibbdoljjhaaGreatDoor
