import Derived.Test.YtjjkabgbcflipaaCu13
import Derived.Test.YtjjkabgbcflipaaCu7
import Derived.Sort.OwnSortedInts
import Derived.Laws.AppendOwnNone
set_option linter.unusedSimpArgs false
set_option linter.unusedVariables false
namespace Go.Proofs.Ytjjkabgbcflipaa
open Go Go.Proofs Go.RowKit GM

/-- An edge that shows that a cycle has no back edge. -/
def rdT (P : Nat) (t : List Nat) (T : Nat → List Nat) (d : Ed) : Bool := (decide (0 ≤ rkF t t.length d.f.toNat) && decide (rkF t t.length d.f.toNat ≤ rkF t t.length d.t.toNat)) && !bkT P t T d
set_option maxRecDepth 20000 in
set_option maxHeartbeats 4000000 in
theorem isReducible_any {A : Nat → Prop} (P : Nat) (x : Int) (ao : Option Addr) (c : Nat) (E : List Ed) (w : World) (hr : ERow A w ao c E) (h0 : ckG P x E = 0) :
    Calls Try.prog 63 #[.agg #[.int .i64 (P : Int), .int .i64 x, .slice ao E.length c]] w fun e w' => Below w.heap.size w w' ∧ ∃ t T, DomT (nxF P E) 0 P t T ∧ e = .returned (.bool (!(E.any (rdT P t T)))) := by
  have hA : Below w.heap.size w (w.alloc (Obj.cells #[.int .i64 (P : Int), .int .i64 x, .slice ao E.length c] 24)) := (Below.refl _ _).alloc (Nat.le_refl _) _
  have hX := GBx.new w P x ao E.length c
  have KA' := Lib.hid hA; have HX := Lib.hid hX; have HR := Lib.hid hr
  clear hA hX
  obtain ⟨hn1, hn2, hlen, hpts⟩ := ckG_ok h0
  have k2 := fun W hW => forward_vr P x ao c E W (HR.out.keep (B := A) (But.of_below (S := fun _ => False) (w' := W) hW) (fun _ h _ => ⟨id, h⟩)) h0
  have K2 := Lib.hid k2; have H0 := Lib.hid h0; have HL := Lib.hid hlen; have HPT := Lib.hid hpts
  have hat : ∀ j, j < E.length → ∃ b o, ao = some ⟨b, o, none⟩ ∧ b < w.heap.size ∧ EdAt w b (o + j * 21) (edD E j) ∧ (edD E j).ok := fun j hj => by
    obtain ⟨b, o, e, -, h1, h2⟩ := HR.out.get j hj
    exact ⟨b, o, e, h1, h2⟩
  have HAT := Lib.hid hat
  clear k2 h0 hat hlen hpts hr
  obtain ⟨y0, y1, y2, y3⟩ := HX.out
  go_enter Try.func63, Try.ntmps63
  go_wp2_with (go_at_call 47; refine (K2.out _ KA'.out).mono ?_; rintro e w2 ⟨ve, vl, rfl, hv, hb⟩; refine Hid.out ?_)
  have HX2 := Lib.hid (HX.out.below hb)
  have k4 := dominance_any w2 (by omega) (fun p => Nat.le_trans (lsN_len P p _ E) (Nat.le_trans HL.out (by omega))) (by unfold esN; rw [List.length_map]; exact Nat.le_trans HL.out (by omega)) 0 (by omega) (hv.keep (KA.refl _ _) (fun b _ h2 => h2))
  have K4 := Lib.hid k4; have HB2 := Lib.hid (Below.chain KA'.out hb)
  obtain ⟨eo, ec, rfl⟩ := hv.ends.slice
  obtain ⟨tb, tc, rfl, -⟩ := hv.tab
  clear k4 hv hb y0 y1 y2 y3
  refine Lib.hid ?_
  go_wp2_with (go_at_call 57; refine (K4.out).mono ?_; rintro e w3 ⟨g, h, t, T, rfl, hd, hg, hh, -, -, -, hb⟩; refine Hid.out ?_)
  have HB3 := Lib.hid ((Below.chain HB2.out hb).alloc (Below.chain HB2.out hb).size (Obj.cells #[.slice (some ⟨g, 0, none⟩) P P, .slice (some ⟨h, 0, none⟩) P P] 97))
  have HD := Lib.hid hd; have HDA := Lib.hid (DomAt.new w3 hg hh)
  have HX3 := Lib.hid ((HX2.out.below hb).below ((Below.refl w3.heap.size w3).alloc (Nat.le_refl _) (Obj.cells #[.slice (some ⟨g, 0, none⟩) P P, .slice (some ⟨h, 0, none⟩) P P] 97)))
  have HZ3 := Lib.hid HB3.out.size
  clear hb hd hg hh K4 HX2 HX HB2
  obtain ⟨y0, y1, y2, y3⟩ := HX3.out
  refine Lib.hid ?_
  go_wp2_with fail
  generalize hW : w3.alloc (Obj.cells #[.slice (some ⟨g, 0, none⟩) P P, .slice (some ⟨h, 0, none⟩) P P] 97) = W at *
  clear hW
  generalize w3.heap.size = D at *
  clear y0 y1 y2 y3
  go_loopw [12] (fun iv wr => ∃ j : Nat, j ≤ E.length ∧ iv = .int .i64 (j : Int) ∧ (E.take j).any (rdT P t T) = false ∧ Below W.heap.size W wr) (fun iv _ => E.length - (intOf iv).toNat)
  case atStart => exact ⟨0, Nat.zero_le _, rfl, rfl, Below.refl _ _⟩
  case round =>
    obtain ⟨j, hj, rfl, hno, hB⟩ := hrel
    have HB4 := Lib.hid hB; have HNO := Lib.hid hno; clear hB hno
    by_cases hlt : j < E.length
    · obtain ⟨b, o, rfl, hbl, he, hok⟩ := HAT.out j hlt
      have hbw := Below.chain HB3.out HB4.out
      have he2 := he.below hbw hbl
      obtain ⟨hp1, hp2⟩ := HPT.out j hlt
      have HLT := Lib.hid hlt
      have hl1 : (j : Int) < (E.length : Int) := by omega
      have hl0 : (0 : Int) ≤ (j : Int) := by omega
      have htk : (E.take (j + 1)).any (rdT P t T) = rdT P t T (edD E j) := by rw [edD_take hlt, List.any_append, HNO.out]; simp
      have hall : rdT P t T (edD E j) = true → E.any (rdT P t T) = true := fun e => List.any_eq_true.2 ⟨_, edD_mem hlt, e⟩
      have HTK := Lib.hid htk; have HALL := Lib.hid hall
      generalize edD E j = d at *
      have HE := Lib.hid he2
      have hda := HDA.out.below (Below.chain HB4.out ((Below.refl wr.heap.size wr).alloc (Nat.le_refl _) (.cells d.cs 55)))
      have HBX := Lib.hid (EdAt.box wr d)
      have HBa : Hid (Below wr.heap.size wr (wr.alloc (.cells d.cs 55))) := Lib.hid ((Below.refl _ _).alloc (Nat.le_refl _) _)
      have q1 := isPt_true hp1
      have q2 := isPt_true hp2
      have f1 : d.f = ((d.f.toNat : Nat) : Int) := by omega
      have f2 : d.t = ((d.t.toNat : Nat) : Int) := by omega
      have CR := fun W' (hW : Below (wr.alloc (.cells d.cs 55)).heap.size (wr.alloc (.cells d.cs 55)) W') => isReached_any (g := g) W' (hda.below hW).nh d.f.toNat (by omega)
      have CB := fun W' (hW : Below (wr.alloc (.cells d.cs 55)).heap.size (wr.alloc (.cells d.cs 55)) W') => (hda.below hW).back HD.out d hp1
      have K1 := Lib.hid CR; have K2 := Lib.hid CB; have HDB := Lib.hid hda
      have F1 := Lib.hid f1; have F2 := Lib.hid f2; have Q1 := Lib.hid q1; have Q2 := Lib.hid q2
      clear he he2 hok hp1 hp2 hbw CR CB hda htk hall f1 f2 q1 q2
      go_wp2_with (first | (refine wpList_load_ed (.tmp 14) rfl rfl b (o + j * 21) (by simp [Act.eval, Act.put]) d HE.out ?_) | (refine wpList_store_ed (.tmp 5) (.tmp 15) rfl rfl rfl (by simp [Act.eval, Act.put]) d (by simp [Act.eval, Act.put]) ?_))
      refine rd_region D wr.heap.size g h P d.f.toNat d.t.toNat (rkF t t.length d.f.toNat) (rkF t t.length d.t.toNat) d _ _ _ _ _ _ _ _ _ _ _ _ _ _ _ _ _ _ _ _ _ _ _ _ _ _ _ _ _ _ _ _ _ _ _ _ _ _ _ _ _ _ _ _ (Lib.hid rfl) (by have := Q1.out; omega) (by have := Q2.out; omega) hn2 ⟨HDB.out.lt, by simp, HDB.out.nh.lt⟩ HDB.out.d0 HDB.out.d1 (HDB.out.nh.nc _ (by have := Q1.out; omega)) (HDB.out.nh.nc _ (by have := Q2.out; omega)) HBX.out F1.out F2.out K1.out K2.out ?_
      intro u16 u17 u18 u19 u20 u21 u22 u23 u24 u25 u26 u27 u28 u29 u30 u31 u32 u33 u34 u35 u36 u37 u38 u39 u40 w4 hb e0 e1 e2 e3 e4 e5 e6 e7 e8 e9 e10 e11 e12 e13 e14 e15 e16 e17 e18 e19 e20 e21 e22 e23 e24
      have HB5 := Lib.hid (Below.chain (Below.chain HB4.out HBa.out) hb)
      clear e0 e1 e2 e3 e4 e5 e6 e7 e8 e9 e10 e11 e12 e13 e14 e15 e16 e17 e18 e19 e20 e21 e22 e23 hb
      have E24 : u40 = .bool (rdT P t T d) := e24
      clear e24
      subst E24
      unfold rdAct
      cases hrd : rdT P t T d with
      | true =>
        have ha := HALL.out hrd
        have HA := Lib.hid ha; clear ha hrd
        go_wp2
        go_ret
        exact ⟨(Below.chain HB3.out HB5.out), t, T, HD.out, by rw [HA.out]; rfl⟩
      | false =>
        have ha := HTK.out
        rw [hrd] at ha
        have HA := Lib.hid ha; clear ha hrd
        have hL2 : E.length ≤ 1024 := HL.out
        have hL3 : j < E.length := HLT.out
        go_wp2
        go_roundw
        case rel => exact ⟨j + 1, HLT.out, by go_num, HA.out, HB5.out⟩
        case measure => have := HLT.out; have := HL.out; simp [intOf]; omega
    · have hjn : j = E.length := by omega
      subst hjn
      have hno : E.any (rdT P t T) = false := by have := HNO.out; rwa [List.take_length] at this
      have HN2 := Lib.hid hno; clear hno
      go_wp2
      go_ret
      exact ⟨Below.chain HB3.out HB4.out, t, T, HD.out, by rw [HN2.out]; rfl⟩
def RedQ (n x : Int) (E : List Ed) (w : World) : Ending → World → Prop := fun e w' => Below w.heap.size w w' ∧
  ((ckG n x E ≠ 0 ∧ e = .returned (.tuple #[.bool false, .int .i64 (ckG n x E : Nat)])) ∨
   (ckG n x E = 0 ∧ ∃ t T, e = .returned (.tuple #[.bool (!(E.any (rdT n.toNat t T))), .int .i64 0]) ∧ DomT (nxF n.toNat E) 0 n.toNat t T))
set_option maxRecDepth 20000 in
set_option maxHeartbeats 4000000 in
theorem Reducible_any {A : Nat → Prop} (n x : Int) (ao : Option Addr) (c : Nat) (E : List Ed) (w : World) (hr : ERow A w ao c E) :
    Calls Try.prog 36 #[.agg #[.int .i64 n, .int .i64 x, .slice ao E.length c]] w (RedQ n x E w) := by
  have hA : Below w.heap.size w (w.alloc (Obj.cells #[.int .i64 n, .int .i64 x, .slice ao E.length c] 24)) := (Below.refl _ _).alloc (Nat.le_refl _) _
  have hX := GBx.new w n x ao E.length c
  have CC := fun W hW => check_any n x ao c E W (hr.keep (B := A) (But.of_below (S := fun _ => False) (w' := W) hW) (fun _ h _ => ⟨id, h⟩))
  have KA' := Lib.hid hA; have HX := Lib.hid hX; have KC := Lib.hid CC; have HR := Lib.hid hr
  clear hA hX CC hr
  by_cases h0 : ckG n x E = 0
  rotate_left
  · obtain ⟨K, hK⟩ : ∃ K, ckG n x E = K := ⟨_, rfl⟩
    have HK := Lib.hid hK
    rw [hK] at h0
    have t1 : ((K : Int) != 0) = true := by rw [bne_iff_ne]; omega
    have H0 := Lib.hid h0
    clear h0 hK
    have k1 := KC.out _ KA'.out
    rw [HK.out] at k1
    have K1 := Lib.hid k1; clear k1 KC
    go_enter Try.func36, Try.ntmps36
    go_wp2_with (go_at_call 21; refine (K1.out).mono ?_; rintro e w1 ⟨rfl, hb⟩; refine Hid.out ?_)
    have HB := Lib.hid (Below.chain KA'.out hb); clear hb
    refine Lib.hid ?_
    go_wp2
    refine bodyPost_ret (by first | (simp [results, Try.results36, go_sem]; done) | (simp [results, Try.results36, go_sem]; rfl)) rfl ?_
    exact ⟨HB.out, .inl ⟨by rw [HK.out]; exact H0.out, by rw [HK.out]⟩⟩
  · have k1 := KC.out _ KA'.out
    rw [h0] at k1
    have K1 := Lib.hid k1; clear k1
    obtain ⟨hn1, hn2, -⟩ := ckG_pos h0
    obtain ⟨P, rfl⟩ := Int.eq_ofNat_of_zero_le (show 0 ≤ n by omega)
    have k2 := fun W hW => isReducible_any P x ao c E W (HR.out.keep (B := A) (But.of_below (S := fun _ => False) (w' := W) hW) (fun _ h _ => ⟨id, h⟩)) h0
    have K2 := Lib.hid k2; have H0 := Lib.hid h0
    clear k2 KC h0 hn1 hn2
    go_enter Try.func36, Try.ntmps36
    go_wp2_with (go_at_call 21; refine (K1.out).mono ?_; rintro e w1 ⟨rfl, hb⟩; refine Hid.out ?_)
    have HB := Lib.hid (Below.chain KA'.out hb)
    obtain ⟨y0, y1, y2, y3⟩ := HX.out.below hb
    clear hb
    refine Lib.hid ?_
    go_wp2_with (go_at_call 63; refine (K2.out _ HB.out).mono ?_; rintro e w2 ⟨hb, t, T, hd, rfl⟩; refine Hid.out ?_)
    have HB2 := Lib.hid (Below.chain HB.out hb)
    have HD := Lib.hid hd
    clear hb hd y0 y1 y2 y3
    refine Lib.hid ?_
    go_wp2
    refine bodyPost_ret (by first | (simp [results, Try.results36, go_sem]; done) | (simp [results, Try.results36, go_sem]; rfl)) rfl ?_
    exact ⟨HB2.out, .inr ⟨H0.out, t, T, rfl, HD.out⟩⟩
end Go.Proofs.Ytjjkabgbcflipaa
namespace Go.Proofs.Ytjjkabgbcflipaa
open Go Go.Proofs Go.RowKit GM

section
variable {lo lo2 : Nat} {W : World} {v v2 : Value} {l l2 : List Int}
theorem ownI.cells {g n cap : Nat} (h : ownI lo W (.slice (some ⟨g, 0, none⟩) n cap) l) (j : Nat) (hj : j < l.length) : W.cell? ⟨g, j, none⟩ = some (.int .i64 (l.getD j 0)) := by
  have hn : n = l.length := by
    rcases h.2 with ⟨e, h0⟩ | ⟨g', cap', cur, e, -⟩
    · cases e
    · cases e; rfl
  subst hn
  rw [World.ownsRow.cellAt h j (by omega)]
  simp [intCells, List.getD_eq_getElem?_getD, hj]
/-- A row that can be read is appended to an own row. -/
theorem wpList_appI {ops : Array Oper} {rest : List Oper} {o : Oper} {a : Act} {Q : Exit → Act → World → Prop}
    (hg : o.guard = none) (s x : Operand) (hop : o.op = Op.call { callee := Callee.builtin Builtin.append, args := #[s, x], argTypes := #[51, 51] })
    (hs : a.eval s = v) (hown : ownI lo W v l) (hx : a.eval x = v2) (hown2 : ownI lo2 W v2 l2) (hl : l.length + l2.length ≤ 1200000) (hbase : lo ≤ W.heap.size)
    (hK : ∀ (v9 : Value) (w9 : World), ownI lo w9 v9 (l ++ l2) → W.grownBy w9 v.ownBlock → (v9.ownBlock = v.ownBlock ∨ v9.ownBlock = some W.heap.size) → wpList Try.prog ops Q rest (a.put o.dst v9) w9) :
    wpList Try.prog ops Q (o :: rest) a W := by
  obtain ⟨i0, hi, hz0, hz1, hz2⟩ := info_parts infoInt64
  rcases id hown2.2 with ⟨e, h0⟩ | ⟨g, cap, cur, e, -, -, h1, h2, -⟩
  · refine wpList_append_own_none hg s x 51 hop lo 3 i0 1 Try.underlying51 hi v l.length (intCells l) hs hown (by rw [hx, e]) ?_
    have hn : l2 = [] := List.length_eq_zero_iff.1 h0
    subst hn
    exact hK v W (by rw [List.append_nil]; exact hown) (World.grownBy.refl _ _) (.inl rfl)
  · subst e
    obtain ⟨v', w', hr, k1, k2, -, k3⟩ := run_append_own_at (P := Try.prog) (w := W) lo 51 o.type 3 i0 (.int .i64 0) 1 8 Try.underlying51 hi hz0 hz1 hz2 rfl (by decide) v l.length (intCells l) hown ⟨g, 0, none⟩ l2.length cap (intCells l2) (by rw [intCells_length]; omega)
      (fun j u hu => by
        have hj : j < l2.length := by have := (List.getElem?_eq_some_iff.1 hu).1; rwa [intCells_length] at this
        rw [addr_zero, hown2.cells j hj, ← hu]
        simp [intCells, List.getD_eq_getElem?_getD, hj])
      (fun u hu => by unfold intCells at hu; rw [List.mem_map] at hu; obtain ⟨z, -, rfl⟩ := hu; rfl) (by unfold maxLen; omega) (by omega) hbase
    refine wpList_plain hg fun _ hK2 => ?_
    unfold Oper.wp execOp
    simp only [hop, resolve, invoke, builtin, Sem.run_bind, Sem.run_pure, Result.andThen_ok, List.map_toArray, List.map_cons, List.map_nil, hs, hx, hr]
    refine hK2 _ _ (hK v' w' ?_ k2 k3)
    unfold ownI
    rw [List.length_append, show intCells (l ++ l2) = intCells l ++ intCells l2 by simp [intCells]]
    exact k1
/-- An own row is sorted. -/
theorem sort_own (h : ownI lo W v l) (hl : l.length ≤ 1200000) :
    Calls Try.prog 42 #[v] W fun e w' => e = .returned (.tuple #[]) ∧ ownI lo w' v (l.mergeSort fun x y => decide (x ≤ y)) ∧ W.grownBy w' v.ownBlock := by
  rcases id h.2 with ⟨e, h0⟩ | ⟨g, cap, cur, e, hlo, hg, h1, h2, h3, h4⟩
  · have hn : l = [] := List.length_eq_zero_iff.1 h0
    subst hn e
    refine (Try.slices_Sort_int_none none 0 W).mono ?_
    rintro e w' ⟨rfl, rfl⟩
    exact ⟨rfl, by simpa using ownI.nil, World.grownBy.refl _ _⟩
  · subst e
    rw [Nat.mul_one] at h4
    have hH := holds_of_blockI (ss := l) hg (by rw [h4]; rfl)
    refine (Try.slices_Sort_int g 0 cap l W hH (Array.getElem?_eq_some_iff.1 hg).1 (by omega)).mono ?_
    rintro e w' ⟨rfl, n, os, rfl⟩
    refine ⟨rfl, ?_, grownBy_sortedI _⟩
    unfold ownI
    have := ownsRow_sortedI (n := n) (os := os) (ss := l) (ts := l.mergeSort fun x y => decide (x ≤ y)) (List.length_mergeSort _) hlo hg h1 h2 h3
    rw [List.length_mergeSort]
    exact this
end
end Go.Proofs.Ytjjkabgbcflipaa
namespace Go.Proofs.Ytjjkabgbcflipaa
open Go Go.Proofs Go.RowKit GM

/-- What is marked when the points of a loop are looked for. -/
def mkL (head : Nat) (rk : Nat → Int) (x : Nat) : Bool := (x == head) || !decide (0 ≤ rk x)
theorem MkAt.setv {W : World} {M P k : Nat} {mk mk' : Nat → Bool} {v : Bool} (h : MkAt W M P mk) (hk : k < P) (hf : ∀ j, j < P → mk' j = if j = k then v else mk j) : MkAt (W.setCell ⟨M, k, none⟩ (.bool v)) M P mk' := by
  refine ⟨fun j hj => ?_, fun j => by rw [World.frozen?_setCell]; exact h.mf j, by simpa using h.lt⟩
  rw [hf j hj]
  by_cases e : j = k
  · subst e; rw [if_pos rfl]; exact cellSet (h.mc j hj) _
  · rw [if_neg e, World.cell?_setCell_other (h := by intro q; cases q; exact e rfl)]; exact h.mc j hj
theorem MkAt.congr {W : World} {M P : Nat} {mk mk' : Nat → Bool} (h : MkAt W M P mk) (e : ∀ j, j < P → mk' j = mk j) : MkAt W M P mk' := ⟨fun k hk => by rw [e k hk]; exact h.mc k hk, h.mf, h.lt⟩
def LoopQ (nx : Nat → List Nat) (head : Nat) (rk : Nat → Int) (L : List Nat) (w : World) : Ending → World → Prop := fun e w' =>
  ∃ t v', e = .returned v' ∧ VL nx (fun x => mkL head rk x = true) L t ∧ ownI w.heap.size w' v' (((head :: t).map fun (n : Nat) => (n : Int)).mergeSort fun x y => decide (x ≤ y)) ∧ Below w.heap.size w w'
set_option maxRecDepth 20000 in
set_option maxHeartbeats 400000 in
theorem loop_any {P g h : Nat} {rk : Nat → Int} {es : List Nat} {ls : List (List Nat)} {ve vl lv : Value} (w : World) (hP : P ≤ 1000) (hls : ∀ p, (rowD ls p).length ≤ 100000) (hes : es.length ≤ 100000) (hh : NmAt w h P rk)
    (hv : VR (fun b => b < w.heap.size) w ve vl P es ls) (head : Nat) (hhd : head < P) (L : List Nat) (hL : ∀ x ∈ L, x < P) (hLl : L.length ≤ 100000) (hlv : IR (fun b => b < w.heap.size) w lv L) :
    Calls Try.prog 79 #[.agg #[.slice (some ⟨g, 0, none⟩) P P, .slice (some ⟨h, 0, none⟩) P P], .agg #[ve, vl], .int .i64 (head : Int), lv] w (LoopQ (nxt es ls) head rk L w) := by
  have hhl := hh.lt
  obtain ⟨eo, ec, rfl⟩ := hv.ends.slice
  obtain ⟨tb, tc, rfl, -⟩ := hv.tab
  obtain ⟨lo_, lc, rfl⟩ := hlv.slice
  have hz0 : ((w.alloc (Obj.cells #[.slice (some ⟨g, 0, none⟩) P P, .slice (some ⟨h, 0, none⟩) P P] 97)).alloc (Obj.cells #[.slice eo es.length ec, .slice (some ⟨tb, 0, none⟩) P tc] 89)).heap.size = w.heap.size + 1 + 1 := by simp
  have hz1 : (((w.alloc (Obj.cells #[.slice (some ⟨g, 0, none⟩) P P, .slice (some ⟨h, 0, none⟩) P P] 97)).alloc (Obj.cells #[.slice eo es.length ec, .slice (some ⟨tb, 0, none⟩) P tc] 89)).alloc (.cells (Array.replicate P (.bool false)) 4)).heap.size = w.heap.size + 1 + 1 + 1 := by simp
  have bA : Below w.heap.size w ((w.alloc (Obj.cells #[.slice (some ⟨g, 0, none⟩) P P, .slice (some ⟨h, 0, none⟩) P P] 97)).alloc (Obj.cells #[.slice eo es.length ec, .slice (some ⟨tb, 0, none⟩) P tc] 89)) := ((Below.refl _ _).alloc (Nat.le_refl _) _).alloc (by simp) _
  have bB : Below w.heap.size w (((w.alloc (Obj.cells #[.slice (some ⟨g, 0, none⟩) P P, .slice (some ⟨h, 0, none⟩) P P] 97)).alloc (Obj.cells #[.slice eo es.length ec, .slice (some ⟨tb, 0, none⟩) P tc] 89)).alloc (.cells (Array.replicate P (.bool false)) 4)) := bA.alloc (by simp; omega) _
  have k0 : (((w.alloc (Obj.cells #[.slice (some ⟨g, 0, none⟩) P P, .slice (some ⟨h, 0, none⟩) P P] 97)).alloc (Obj.cells #[.slice eo es.length ec, .slice (some ⟨tb, 0, none⟩) P tc] 89)).alloc (.cells (Array.replicate P (.bool false)) 4)).cell? ⟨w.heap.size, 0, none⟩ = some (.slice (some ⟨g, 0, none⟩) P P) := by go_cell
  have k1 : (((w.alloc (Obj.cells #[.slice (some ⟨g, 0, none⟩) P P, .slice (some ⟨h, 0, none⟩) P P] 97)).alloc (Obj.cells #[.slice eo es.length ec, .slice (some ⟨tb, 0, none⟩) P tc] 89)).alloc (.cells (Array.replicate P (.bool false)) 4)).cell? ⟨w.heap.size, 1, none⟩ = some (.slice (some ⟨h, 0, none⟩) P P) := by go_cell
  have k2 : (((w.alloc (Obj.cells #[.slice (some ⟨g, 0, none⟩) P P, .slice (some ⟨h, 0, none⟩) P P] 97)).alloc (Obj.cells #[.slice eo es.length ec, .slice (some ⟨tb, 0, none⟩) P tc] 89)).alloc (.cells (Array.replicate P (.bool false)) 4)).cell? ⟨w.heap.size + 1, 0, none⟩ = some (.slice eo es.length ec) := by go_cell
  have k3 : (((w.alloc (Obj.cells #[.slice (some ⟨g, 0, none⟩) P P, .slice (some ⟨h, 0, none⟩) P P] 97)).alloc (Obj.cells #[.slice eo es.length ec, .slice (some ⟨tb, 0, none⟩) P tc] 89)).alloc (.cells (Array.replicate P (.bool false)) 4)).cell? ⟨w.heap.size + 1, 1, none⟩ = some (.slice (some ⟨tb, 0, none⟩) P tc) := by go_cell
  have hm := MkAt.made ((w.alloc (Obj.cells #[.slice (some ⟨g, 0, none⟩) P P, .slice (some ⟨h, 0, none⟩) P P] 97)).alloc (Obj.cells #[.slice eo es.length ec, .slice (some ⟨tb, 0, none⟩) P tc] 89)) P
  rw [hz0] at hm
  have hmk := make_bools ((w.alloc (Obj.cells #[.slice (some ⟨g, 0, none⟩) P P, .slice (some ⟨h, 0, none⟩) P P] 97)).alloc (Obj.cells #[.slice eo es.length ec, .slice (some ⟨tb, 0, none⟩) P tc] 89)) P (by omega)
  rw [hz0] at hmk
  have K0 := Lib.hid k0; have K1 := Lib.hid k1; have K2 := Lib.hid k2; have K3 := Lib.hid k3; have HM := Lib.hid hm; have BB := Lib.hid bB
  have HZ := Lib.hid hz1
  have NH := Lib.hid (hh.below bB)
  have HV := Lib.hid (hv.keep (KA.of_below bB) (fun _ h _ => (h : _ < w.heap.size)))
  have HL := Lib.hid (hlv.keep (KA.of_below bB) (fun _ h _ => (h : _ < w.heap.size)))
  clear k0 k1 k2 k3 hm bA bB hh hv hlv
  go_enter Try.func79, Try.ntmps79
  go_wp2_with fail
  clear hmk hz1 hz0
  generalize (((w.alloc (Obj.cells #[.slice (some ⟨g, 0, none⟩) P P, .slice (some ⟨h, 0, none⟩) P P] 97)).alloc (Obj.cells #[.slice eo es.length ec, .slice (some ⟨tb, 0, none⟩) P tc] 89)).alloc (.cells (Array.replicate P (.bool false)) 4)) = W at *
  go_loopw [20] (fun iv wr => ∃ j : Nat, j ≤ P ∧ iv = .int .i64 (j : Int) ∧ MkAt wr (w.heap.size + 1 + 1) P (fun k => decide (k < j) && mkL head rk k) ∧ But (fun b => b = w.heap.size + 1 + 1) W wr) (fun iv _ => P - (intOf iv).toNat)
  case atStart => exact ⟨0, Nat.zero_le _, rfl, HM.out.congr (fun j _ => by simp), But.refl _ _⟩
  case round =>
    obtain ⟨j, hj, rfl, hm, hB⟩ := hrel
    have HM1 := Lib.hid hm; have HB := Lib.hid hB; clear hm hB
    have hzz := HZ.out
    by_cases hlt : j < P
    · have HLT := Lib.hid hlt
      have p0 : (0 : Int) ≤ (j : Int) := by omega
      have p1 : (j : Int) < (P : Int) := by omega
      have y0 := (HB.out.cell (p := ⟨w.heap.size, 0, none⟩) (by dsimp only; omega) (by dsimp only; omega)).trans K0.out
      have y1 := (HB.out.cell (p := ⟨w.heap.size, 1, none⟩) (by dsimp only; omega) (by dsimp only; omega)).trans K1.out
      have y2 := HM1.out.mc j hlt
      have y3 := HM1.out.mf j
      by_cases he : j = head
      · have t1 : ((j : Int) == (head : Int)) = true := by rw [he]; simp
        have hmv : mkL head rk j = true := by unfold mkL; rw [he]; simp
        have HMV := Lib.hid hmv; clear hmv he
        go_wp2
        go_roundw
        case rel =>
          refine ⟨j + 1, HLT.out, by go_num, HM1.out.setv HLT.out (fun q hq => ?_), HB.out.trans (But.set (S := fun b => b = w.heap.size + 1 + 1) (But.refl _ wr) ⟨w.heap.size + 1 + 1, j, none⟩ _ (fun _ => rfl)) (fun _ _ e => e)⟩
          by_cases e : q = j
          · subst e; rw [if_pos rfl, HMV.out]; simp
          · rw [if_neg e, show decide (q < j + 1) = decide (q < j) by rw [decide_eq_decide]; omega]
        case measure => simp [intOf]; omega
      · have t1 : ((j : Int) == (head : Int)) = false := by rw [beq_eq_false_iff_ne]; omega
        have CR := isReached_any (g := g) wr (NH.out.but HB.out (by omega)) j hlt
        have KR := Lib.hid CR; clear CR
        have hmv : mkL head rk j = !decide (0 ≤ rk j) := by unfold mkL; simp [he]
        have HMV := Lib.hid hmv; clear hmv he
        generalize decide (0 ≤ rk j) = R at *
        have hm1l := HM1.out.lt
        go_wp2_with (go_at_call 78; refine (KR.out).mono ?_; rintro e w4 ⟨rfl, hb⟩; refine Hid.out ?_)
        have HB4 := Lib.hid hb
        have y4 := (hb.cell (p := ⟨w.heap.size + 1 + 1, j, none⟩) hm1l).trans y2
        have y5 := (hb.frozen (p := ⟨w.heap.size + 1 + 1, j, none⟩) hm1l).trans y3
        have HM4 := Lib.hid (HM1.out.below hb)
        clear hb y0 y1 y2 y3
        refine Lib.hid ?_
        go_wp2
        go_roundw
        case rel =>
          refine ⟨j + 1, HLT.out, by go_num, HM4.out.setv HLT.out (fun q hq => ?_), (HB.out.trans (But.of_below HB4.out) (fun _ _ e => e)).trans (But.set (S := fun b => b = w.heap.size + 1 + 1) (But.refl _ w4) ⟨w.heap.size + 1 + 1, j, none⟩ _ (fun _ => rfl)) (fun _ _ e => e)⟩
          by_cases e : q = j
          · subst e; rw [if_pos rfl, HMV.out]; simp
          · rw [if_neg e, show decide (q < j + 1) = decide (q < j) by rw [decide_eq_decide]; omega]
        case measure => simp [intOf]; omega
    · have hjn : j = P := by omega
      subst hjn
      have hm2 : MkAt wr (w.heap.size + 1 + 1) j (mkL head rk) := HM1.out.congr (fun q hq => by simp [hq])
      have HM2 := Lib.hid hm2; clear hm2 HM1
      have y0 := HB.out
      clear y0
      go_wp2_with fail
      have hbb : But (fun b => b = w.heap.size + 1 + 1) W (wr.alloc (Obj.cells #[.int .i64 (head : Int)] 3)) := HB.out.trans (But.of_below ((Below.refl wr.heap.size wr).alloc (Nat.le_refl _) _)) (fun _ _ e => e)
      have HBB := Lib.hid hbb; clear hbb
      have hzr : W.heap.size ≤ wr.heap.size := HB.out.size
      have how : ownI W.heap.size (wr.alloc (Obj.cells #[.int .i64 (head : Int)] 3)) (.slice (some ⟨wr.heap.size, 0, none⟩) 1 1) [(head : Int)] := ⟨rfl, .inr ⟨wr.heap.size, 1, #[.int .i64 (head : Int)], rfl, hzr, heap_alloc_last wr _, Nat.le_refl _, by decide, rfl, rfl⟩⟩
      have HM3 := Lib.hid (HM2.out.below ((Below.refl wr.heap.size wr).alloc (Nat.le_refl _) (Obj.cells #[.int .i64 (head : Int)] 3)))
      have HOW := Lib.hid how; clear how HM2 HB hzr
      go_loopw [11, 40] (fun pv iv wr2 => ∃ (i : Nat) (t : List Nat), i ≤ L.length ∧ iv = .int .i64 (i : Int) ∧ VL (nxt es ls) (fun x => mkL head rk x = true) (L.take i) t ∧ ownI W.heap.size wr2 pv ((head :: t).map fun (n : Nat) => (n : Int)) ∧
        MkAt wr2 (w.heap.size + 1 + 1) j (unionB (mkL head rk) t) ∧ But (fun b => b = w.heap.size + 1 + 1) W wr2 ∧ t.length + cntF (unionB (mkL head rk) t) j ≤ j) (fun _ iv _ => L.length - (intOf iv).toNat)
      case atStart => exact ⟨0, [], Nat.zero_le _, rfl, .nil, HOW.out, by rw [unionB_nil]; exact HM3.out, HBB.out, by rw [unionB_nil]; simpa using cntF_le (mkL head rk) j⟩
      case round =>
        obtain ⟨i, t, hi, rfl, hvl, hown, hm, hB, hcnt⟩ := hrel
        obtain ⟨po, pc, rfl, -, -, -⟩ := hown.slice
        have hlen0 : ((head :: t).map fun (n : Nat) => (n : Int)).length = t.length + 1 := by simp
        generalize hnn : ((head :: t).map fun (n : Nat) => (n : Int)).length = nn at *
        have HNN := Lib.hid hnn; have HL0 := Lib.hid hlen0; clear hnn hlen0
        have hM0 : w.heap.size + 1 + 1 < W.heap.size := by have := HZ.out; omega
        have hBlow : Below w.heap.size w wr := BB.out.trans ⟨hB.os, hB.tape, hB.output, hB.size, fun k hk => hB.block k (by omega) (by omega)⟩
        have HBL := Lib.hid hBlow; have HVL := Lib.hid hvl; have HO := Lib.hid hown; have HM4 := Lib.hid hm; have HB4 := Lib.hid hB; have HC := Lib.hid hcnt; have HM0 := Lib.hid hM0
        clear hBlow hvl hown hm hB hcnt hM0
        by_cases hlt : i < L.length
        · have HLT := Lib.hid hlt
          have hl2 := HL.out.keep (B := fun b => b < w.heap.size) (KA.of_but HB4.out (fun b h1 _ => by have h1' : b < w.heap.size := h1; omega)) (fun _ h _ => h)
          obtain ⟨b, off, c, he, hc⟩ := hl2.at i hlt
          cases he
          have hpP := hL _ (atD_mem hlt)
          have htk : L.take (i + 1) = L.take i ++ [atD L i] := by
            rw [List.take_add_one, atD_get hlt]; rfl
          have HTK := Lib.hid htk
          generalize atD L i = p at *
          have hzz := HZ.out
          have y0 := (HB4.out.cell (p := ⟨w.heap.size + 1, 0, none⟩) (by dsimp only; omega) (by dsimp only; omega)).trans K2.out
          have y1 := (HB4.out.cell (p := ⟨w.heap.size + 1, 1, none⟩) (by dsimp only; omega) (by dsimp only; omega)).trans K3.out
          have kv := visit_any wr (by omega) hls hes (w.heap.size + 1 + 1) p (unionB (mkL head rk) t) hpP (HV.out.keep (KA.of_but HB4.out (fun b h1 _ => by have h1' : b < w.heap.size := h1; omega)) (fun b h _ => ⟨by have h1' : b < w.heap.size := h; have := HB4.out.size; omega, by have h1' : b < w.heap.size := h; omega⟩)) HM4.out
          have KV := Lib.hid kv
          have i0 : (0 : Int) ≤ (i : Int) := by omega
          have i1 : (i : Int) < (L.length : Int) := by omega
          clear kv htk hl2
          go_wp2_with (first | (go_at_call 52; refine (KV.out).mono ?_; rintro e w4 ⟨t2, v2, rfl, g1, g2, g3, g4, g5⟩; refine Hid.out ?_) | fail)
          have hlow : ∀ b, (Value.slice po nn pc).ownBlock = some b → W.heap.size ≤ b := fun b e => (HO.out.lt e).1
          have ho4 := HO.out.but g4 (fun b e => by have := hlow b e; have := HM0.out; omega)
          have hbw4 := HB4.out.trans g4 (fun _ _ e => e)
          have hlen : ((head :: t).map fun (n : Nat) => (n : Int)).length + (t2.map fun (n : Nat) => (n : Int)).length ≤ 1200000 := by
            have := HC.out; have := HL0.out; simp only [List.length_map, List.length_cons]; omega
          have HO4 := Lib.hid ho4; have G1 := Lib.hid g1; have G2 := Lib.hid g2; have G3 := Lib.hid g3; have G5 := Lib.hid g5; have HBW := Lib.hid hbw4; have HLN := Lib.hid hlen; have HLOW := Lib.hid hlow
          have HW4 := Lib.hid (hbw4.size)
          have G4 := Lib.hid g4
          clear ho4 g1 g2 g3 g4 g5 hbw4 hlen hlow y0 y1 hc
          refine Lib.hid ?_
          go_wp2_with (first | (at_builtin; refine wpList_appI (lo := W.heap.size) rfl (.tmp 44) (.tmp 48) rfl (by simp [Act.eval, Act.put]) HO4.out (by simp [Act.eval, Act.put]) G2.out HLN.out HW4.out ?_; intro v9 w9 h9 hg9 hgg; refine Hid.out ?_) | fail)
          have hgb := But.of_grown (S := fun b => W.heap.size ≤ b) hg9 (fun b e => HLOW.out b e)
          have hm9 := G3.out.but hgb (by have := HM0.out; omega)
          rw [unionB_app] at hm9
          have hb9 := HBW.out.trans hgb (fun k h1 h2 => by omega)
          have hv9 : VL (nxt es ls) (fun x => mkL head rk x = true) (L.take (i + 1)) (t ++ t2) := by
            rw [HTK.out]
            exact HVL.out.app (G1.out.congr (fun x => unionB_iff _ _ _))
          have ho9 : ownI W.heap.size w9 v9 ((head :: (t ++ t2)).map fun (n : Nat) => (n : Int)) := by
            have e : ((head :: (t ++ t2)).map fun (n : Nat) => (n : Int)) = ((head :: t).map fun (n : Nat) => (n : Int)) ++ (t2.map fun (n : Nat) => (n : Int)) := by simp
            rw [e]; exact h9
          have hc9 : (t ++ t2).length + cntF (unionB (mkL head rk) (t ++ t2)) j ≤ j := by
            have h5 := G5.out; have h6 := HC.out
            rw [unionB_app] at h5
            rw [List.length_append]; omega
          obtain ⟨qo, qc, rfl, -, -, -⟩ := ho9.slice
          generalize ((head :: (t ++ t2)).map fun (n : Nat) => (n : Int)).length = n9 at *
          have H9 := Lib.hid ho9; have M9 := Lib.hid hm9; have B9 := Lib.hid hb9; have V9 := Lib.hid hv9; have C9 := Lib.hid hc9
          clear ho9 hm9 hb9 hv9 hc9 h9 hg9 hgg hgb
          have hLL := hLl
          refine Lib.hid ?_
          go_wp2
          go_roundw
          case rel => exact ⟨i + 1, t ++ t2, HLT.out, by have := HLT.out; go_num, V9.out, H9.out, M9.out, B9.out, C9.out⟩
          case measure => have := HLT.out; simp [intOf]; omega
        · have hin : i = L.length := by omega
          subst hin
          have hv9 : VL (nxt es ls) (fun x => mkL head rk x = true) L t := by have := HVL.out; rwa [List.take_length] at this
          have HV9 := Lib.hid hv9; clear hv9
          have ks := sort_own HO.out (by have := HC.out; have := HL0.out; simp only [List.length_map, List.length_cons]; omega)
          have KS := Lib.hid ks; clear ks
          go_wp2_with (first | (go_at_call 42; refine (KS.out).mono ?_; rintro e w4 ⟨rfl, h4, hg4⟩; refine Hid.out ?_) | fail)
          have H4 := Lib.hid h4
          have HB9 := Lib.hid (HBL.out.grown hg4 HBL.out.size (fun b e => by have := (HO.out.lt e).1; have := HM0.out; omega))
          clear h4 hg4
          refine Lib.hid ?_
          go_wp2
          go_ret
          exact ⟨t, _, rfl, HV9.out, H4.out.mono (by have := HM0.out; omega), HB9.out⟩
end Go.Proofs.Ytjjkabgbcflipaa
