import Derived.Test.YtjobmkdaaionlaaGreatDoorOwnRatN
import Derived.Test.YtjobmkdaaionlaaGreatDoorCut30
import Derived.Deep.AppendLies
import Derived.Test.YtjobmkdaaionlaaGreatDoorCut35
import Derived.Test.YtjobmkdaaionlaaGreatDoorCut33
import Derived.Test.YtjobmkdaaionlaaGreatDoorCut31
import Derived.Test.YtjobmkdaaionlaaGreatDoorCut32
import Derived.Deep.QuietTactic
import Derived.BigQuiet
import Derived.Test.YtjobmkdaaionlaaGreatDoorCut34

set_option linter.unusedVariables false
set_option linter.unusedSimpArgs false
/-
  The reference of rational: Compare, Add, Sub, Mul, Div, Neg, Floor, Ceil, Num, Den.
-/
namespace Go.Proofs.YtjobmkdaaionlaaGreatDoor
open Go Go.Proofs Go.RowKit
theorem Good.sz2 {k : Nat} {s : ByteArray} (h : Good k s) (h0 : 0 < k) (hk : k ≤ 20000) : s.size ≤ 1200000 := by
  have e : s = str (ratL (rv s)) := h.lit.symm
  have h1 := (Txt.ofLt h0 h.rz.num).size
  have h2 := (Txt.ofLt h0 h.rz.den).size
  rw [e]
  by_cases hd : (rv s).den = 1
  · rw [ratL_one hd]; omega
  · rw [ratL_more hd, ByteArray.size_append, ByteArray.size_append]
    have : (⟨#[47]⟩ : ByteArray).size = 1 := rfl
    omega
theorem Good.top {k : Nat} {s : ByteArray} (h : Good k s) (h0 : 0 < k) (hk : k ≤ 20000) (w : World) : Calls Tryz.prog 93 #[.string s] w fun e w' => e = .returned (.string (str (Lib.itoa (rv s).num))) ∧ w' = w := by
  have := refTop s w (h.sz2 h0 hk)
  rwa [h.text, topL_rat] at this
theorem Good.slash {k : Nat} {s : ByteArray} (h : Good k s) (h0 : 0 < k) (hk : k ≤ 20000) : ∃ v : Int, (decide (v < 0) = decide ((rv s).den = 1)) ∧ ∀ w, Calls Tryz.prog 76 #[.string s] w fun e w' => e = .returned (.int .i64 v) ∧ w' = w := by
  refine ⟨slashAt (bytes s), ?_, fun w => slash_any s w (h.sz2 h0 hk)⟩
  have e := hasB_rat (rv s)
  rw [← h.text] at e
  unfold hasB at e
  by_cases hd : (rv s).den = 1
  · rw [decide_eq_true hd] at e ⊢; simp at e ⊢; omega
  · rw [decide_eq_false hd] at e ⊢; simp at e ⊢; omega
theorem Good.num {k : Nat} {s : ByteArray} (h : Good k s) (h0 : 0 < k) : Txt k (str (Lib.itoa (rv s).num)) (rv s).num := Txt.ofLt h0 h.rz.num
theorem Good.den {k : Nat} {s : ByteArray} (h : Good k s) (h0 : 0 < k) : Txt k (str (Lib.itoa ((rv s).den : Int))) ((rv s).den : Int) := Txt.ofLt h0 h.rz.den
theorem Good.whole {k : Nat} {s : ByteArray} (h : Good k s) (hd : (rv s).den = 1) : str (Lib.itoa (rv s).num) = s := by
  have e : str (ratL (rv s)) = s := h.lit
  rwa [ratL_one hd] at e
theorem firstE_iff : ∀ (l : List ByteArray), firstE l = 0 ↔ ∀ s ∈ l, numE (bytes s) = 0
  | [] => by simp [firstE]
  | s :: t => by
    unfold firstE
    by_cases h : numE (bytes s) = 0
    · rw [if_pos h, firstE_iff t]; simp [h]
    · rw [if_neg h]; simp [h]
structure IOut where
  l : List ByteArray
  k : ByteArray
  d : ByteArray
  e : Nat
def IOut.bad (e : Nat) : IOut := ⟨[], ⟨#[]⟩, ⟨#[]⟩, e⟩
def IntRet (o : IOut) (w : World) (e : Ending) (w' : World) : Prop := ∃ ao c, e = .returned (.tuple #[.slice ao o.l.length c, .string o.k, .string o.d, .int .i64 (o.e : Nat)]) ∧ RowB w.heap.size w' ao c o.l ∧ Below w.heap.size w w'
def intO (l : List ByteArray) (k d : ByteArray) : IOut := if ((l ++ [k]) ++ [d]).all shortS = true then ⟨l, k, d, 0⟩ else .bad 10
def intAll (l : List ByteArray) (k : ByteArray) : IOut := if linE l k = 0 then intO (l.map fun s => mulT s (itN (lcmD (l ++ [k])))) (mulT k (itN (lcmD (l ++ [k])))) (itN (lcmD (l ++ [k]))) else .bad (linE l k)
set_option maxRecDepth 20000 in
set_option maxHeartbeats 4000000 in
theorem linIntegral (l : List ByteArray) (k : ByteArray) (ao : Option Addr) (c : Nat) (w : World) (hr : SRow w ao c l) (hz : ∀ s ∈ l ++ [k], s.size ≤ 1200000) (hn : l.length ≤ 1200000) (htab : Lib.TabIs Tryz.prog w "internal/strconv.uint64pow10" .u64 Lib.pow10Tab) :
    Calls Tryz.prog 22 #[.agg #[.slice ao l.length c, .string k]] w (IntRet (intAll l k) w) := by
  have hT := Lib.tabBelow_of_tabIs htab
  have CH := fun (W : World) (hW : Below w.heap.size w W) => linCheck l k ao c W (hr.mono hW) hz hn (hT.on hW).here
  have CN := fun (W : World) (hW : Below w.heap.size w W) => numbersN l k ao c W (hr.mono hW) hn
  have hcs := linE_cases l k
  obtain ⟨X, B, hsz⟩ := entry1 w (.slice ao l.length c) (.string k) 27
  unfold intAll
  by_cases h0 : linE l k = 0
  · rw [if_pos h0]
    obtain ⟨g1, g2⟩ := linE_zero h0
    rw [h0] at CH
    have hl1 : (l ++ [k]).length = l.length + 1 := by simp
    have CC : ∀ (W : World) (g cg : Nat), Below w.heap.size w W → SRow W (some ⟨g, 0, none⟩) cg (l ++ [k]) → Calls Tryz.prog 58 #[.slice (some ⟨g, 0, none⟩) (l ++ [k]).length cg] W (Bret (.string (itN (lcmD (l ++ [k])))) W) := fun W g cg hW r =>
      common_any (l ++ [k]) (some ⟨g, 0, none⟩) cg W r (by omega) g2 (hT.on hW).here
    have gd : Good 3301 (itN (lcmD (l ++ [k]))) := (lcmD_good _ g2).mono (by omega)
    have CM : ∀ (W : World) (g cg p : Nat), Below w.heap.size w W → SRow W (some ⟨g, 0, none⟩) cg (l ++ [k]) → p < W.heap.size → W.cell? ⟨p, 0, none⟩ = some (.string (itN (lcmD (l ++ [k])))) → Calls Tryz.prog 59 #[.slice (some ⟨g, 0, none⟩) (l ++ [k]).length cg, .func (.func 60) #[] #[.pointer (some ⟨p, 0, none⟩)]] W fun e w' => ∃ b, e = .returned (.slice (some ⟨b, 0, none⟩) (l.length + 1) (l.length + 1)) ∧ XBlk 41 w' b ((l ++ [k]).map fun s => mulT s (itN (lcmD (l ++ [k])))) ∧ W.heap.size ≤ b ∧ Below W.heap.size W w' := fun W g cg p hW r hp hc => by
      have := mapped_integral (l ++ [k]) (fun j => mulT ((l ++ [k]).getD j ⟨#[]⟩) (itN (lcmD (l ++ [k])))) (some ⟨g, 0, none⟩) cg (.pointer (some ⟨p, 0, none⟩)) W r (by omega) (fun j hj V hV => by
        show Calls _ _ _ _ (Bret (.string (mulT ((l ++ [k]).getD j ⟨#[]⟩) (itN (lcmD (l ++ [k]))))) V)
        rw [getD_get _ hj]
        exact integralCl _ _ 100 3301 p _ V (g2 _ (List.getElem_mem hj)) gd (by decide) ((hV.cell (p := ⟨p, 0, none⟩) hp).trans hc) (hT.on (Below.chain hW hV)).here)
      rw [map_range_getD (l ++ [k]) (fun s => mulT s (itN (lcmD (l ++ [k]))))] at this
      refine this.mono fun e w' ⟨b, h1, h2, h3, h4⟩ => ⟨b, by rw [h1]; simp, h2, h3, h4⟩
    have gm : ∀ s ∈ ((l ++ [k]).map fun s => mulT s (itN (lcmD (l ++ [k])))) ++ [itN (lcmD (l ++ [k]))], s.size ≤ 1200000 := by
      intro s hs
      rcases List.mem_append.1 hs with hs | hs
      · have := (map_good g2 gd s hs).size (by decide); omega
      · simp at hs; subst hs; have := gd.size (by decide); omega
    have hm4 : (l ++ [k]).map (fun s => mulT s (itN (lcmD (l ++ [k])))) = l.map (fun s => mulT s (itN (lcmD (l ++ [k])))) ++ [mulT k (itN (lcmD (l ++ [k])))] := by rw [List.map_append]; rfl
    have hrl : (l.map fun s => mulT s (itN (lcmD (l ++ [k])))).length = l.length := by simp
    have hO : intO (l.map fun s => mulT s (itN (lcmD (l ++ [k])))) (mulT k (itN (lcmD (l ++ [k])))) (itN (lcmD (l ++ [k]))) = if (((l ++ [k]).map fun s => mulT s (itN (lcmD (l ++ [k])))) ++ [itN (lcmD (l ++ [k]))]).all shortS = true then ⟨l.map fun s => mulT s (itN (lcmD (l ++ [k]))), mulT k (itN (lcmD (l ++ [k]))), itN (lcmD (l ++ [k])), 0⟩ else .bad 10 := by rw [hm4]; rfl
    clear gd g2 hr hz hn htab hT hcs h0
    rw [hm4] at CM gm hO
    clear hm4
    generalize mulT k (itN (lcmD (l ++ [k]))) = rk at *
    generalize (l.map fun s => mulT s (itN (lcmD (l ++ [k])))) = rl at *
    generalize itN (lcmD (l ++ [k])) = fac at *
    unfold NumRet at CN
    rw [hl1] at CN CC CM
    generalize l ++ [k] = m1 at *
    clear hl1
    have hrl1 : (rl ++ [rk]).length = l.length + 1 := by simp [hrl]
    generalize intO rl rk fac = O at *
    have HRL := Lib.hid hrl; have HRL1 := Lib.hid hrl1; have HO := Lib.hid hO; have GM := Lib.hid gm; clear hrl hrl1 hO gm
    generalize l.length = n at *
    have KH := Lib.hid CH; have KN := Lib.hid CN; have KC := Lib.hid CC; have KM := Lib.hid CM; clear CH CN CC CM
    go_enter Tryz.func22, Tryz.ntmps22
    go_wp2_with (go_at_call 26; refine (KH.out _ B).mono ?_; rintro e w1 ⟨rfl, hb1⟩; refine Hid.out ?_)
    have X1 := X.mono hb1; have hB1 := Below.chain B hb1
    have x0 := X1.c0; have x1 := X1.c1
    clear hb1 X B
    refine Lib.hid ?_
    go_wp2_with (go_at_call 54; refine (KN.out _ hB1).mono ?_; rintro e w2 ⟨ga, ca, rfl, -, ra, -, -, -, hb2⟩; refine Hid.out ?_)
    have X2 := X1.mono hb2; have hB2 := Below.chain hB1 hb2
    clear x0 x1 hb2 X1 hB1
    refine Lib.hid ?_
    go_wp2_with (go_at_call 58; refine (KC.out _ ga ca hB2 ra).mono ?_; rintro e w3 ⟨rfl, hb3⟩; refine Hid.out ?_)
    have X3 := X2.mono hb3; have hB3 := Below.chain hB2 hb3
    have A3 : Below w3.heap.size w3 (w3.alloc (Obj.cells #[.string fac] 41)) := (Below.refl _ _).alloc (Nat.le_refl _) _
    have pc : (w3.alloc (Obj.cells #[.string fac] 41)).cell? ⟨w3.heap.size, 0, none⟩ = some (.string fac) := by go_cell
    have pl : w3.heap.size < (w3.alloc (Obj.cells #[.string fac] 41)).heap.size := by simp
    clear hb3 X2 hB2 ra
    have x0 := X3.c0; have x1 := X3.c1; have xl := X3.lt
    refine Lib.hid ?_
    go_wp2_with (go_at_call 54; refine (KN.out _ (Below.chain hB3 A3)).mono ?_; rintro e w4 ⟨gb, cb, rfl, -, rb, -, -, -, hb4⟩; refine Hid.out ?_)
    have X4 := (X3.mono A3).mono hb4; have hB4 := Below.chain (Below.chain hB3 A3) hb4
    have pc4 := (hb4.cell (p := ⟨w3.heap.size, 0, none⟩) pl).trans pc
    have pl4 := Nat.lt_of_lt_of_le pl hb4.size
    clear A3 pc pl hB3 hb4 x0 x1 xl X3
    generalize w3.heap.size = p at *
    refine Lib.hid ?_
    go_wp2_with (go_at_call 59; refine (KM.out _ gb cb p hB4 rb pl4 pc4).mono ?_; rintro e w5 ⟨gm, rfl, bm, hgm, hb5⟩; refine Hid.out ?_)
    have X5 := X4.mono hb5; have hB5 := Below.chain hB4 hb5
    have pc5 := (hb5.cell (p := ⟨p, 0, none⟩) pl4).trans pc4
    have pl5 := Nat.lt_of_lt_of_le pl4 hb5.size
    have hgm0 : w.heap.size ≤ gm := Nat.le_trans hB4.size hgm
    clear hb5 X4 hB4 pc4 pl4 rb
    have x0 := X5.c0; have x1 := X5.c1; have xl := X5.lt
    have hget : ∀ j u, [Value.string fac][j]? = some u → (w5.alloc (Obj.cells #[.string fac] 41)).cell? ((⟨w5.heap.size, 0, none⟩ : Addr).add j) = some u := fun j u hu => by
      match j, hu with
      | 0, hu => simp at hu; subst hu; rw [addr_zero]; go_cell
    have B5 : Below w5.heap.size w5 (w5.alloc (Obj.cells #[.string fac] 41)) := (Below.refl _ _).alloc (Nat.le_refl _) _
    have hold : ∀ b, (some ⟨gm, 0, none⟩ : Option Addr) = some b → ∀ j u, (strCells (rl ++ [rk]))[j]? = some u → (w5.alloc (Obj.cells #[.string fac] 41)).cell? (b.add j) = some u := by
      intro b hb j u hu
      cases hb
      have hj : j < (rl ++ [rk]).length := by have := (List.getElem?_eq_some_iff.1 hu).1; rwa [strCells_length] at this
      rw [addr_zero, (bm.keep B5).cell j hj, ← hu]
      unfold strCells
      rw [List.getElem?_map, List.getElem?_eq_getElem hj]; rfl
    obtain ⟨i0, hi, hz0, hz1, hz2⟩ := info_parts infoInt
    have HOLD := Lib.hid hold; have HG2 := Lib.hid hget; have HB5 := Lib.hid hB5; have BM := Lib.hid bm; have BB5 := Lib.hid B5; have XX := Lib.hid X5; have PC := Lib.hid pc5; have PL := Lib.hid pl5
    clear hold hget hB5 bm B5 X5
    refine Lib.hid ?_
    go_wp2_with (at_builtin; refine wpList_append_grows _ rfl _ _ 40 rfl 41 i0 (.string ⟨#[]⟩) 1 16 Tryz.underlying40 hi hz0 hz1 hz2 rfl (by decide) _ _ _ (strCells (rl ++ [rk])) rfl (fun h => by cases h) ?c1 HOLD.out ⟨w5.heap.size, 0, none⟩ 1 1 [.string fac] rfl ?c2 HG2.out ?c3 ?c4 ?c5 ?c6 ?_)
    case c1 => rw [strCells_length, HRL1.out, Nat.mul_one]
    case c2 => rfl
    case c3 => intro u hu; simp at hu; subst hu; rfl
    case c4 => omega
    case c5 => unfold maxLen; omega
    case c6 => omega
    intro v' w6 hown6 hgrow
    have hw6 : Below w5.heap.size w5 w6 := BB5.out.trans ((below_of_grown hgrow).mono (by simp))
    rw [show strCells (rl ++ [rk]) ++ [Value.string fac] = strCells ((rl ++ [rk]) ++ [fac]) from (strCells_append (rl ++ [rk]) [fac]).symm, show n + 1 + 1 = ((rl ++ [rk]) ++ [fac]).length by rw [List.length_append, HRL1.out]; rfl] at hown6
    obtain ⟨a4, c4, rfl, r4⟩ := srow_of_ownsT hown6
    rw [show ((rl ++ [rk]) ++ [fac]).length = n + 2 by rw [List.length_append, HRL1.out]; rfl]
    have hlen4 : ((rl ++ [rk]) ++ [fac]).length = n + 2 := by rw [List.length_append, HRL1.out]; rfl
    have hgk : ∀ W, Below w6.heap.size w6 W → ∀ j (hj : j < ((rl ++ [rk]) ++ [fac]).length), ∃ b off, a4 = some ⟨b, off, none⟩ ∧ b < W.heap.size ∧ W.cell? ⟨b, off + j, none⟩ = some (.string (((rl ++ [rk]) ++ [fac])[j]'hj)) := fun W hW => (r4.mono hW).get
    have bm6 := BM.out.keep hw6
    have K6 : ∀ W, Below w6.heap.size w6 W → XBlk 41 W gm (rl ++ [rk]) ∧ Below w.heap.size w W ∧ W.cell? ⟨p, 0, none⟩ = some (.string fac) ∧ Bx2 W w.heap.size (.slice ao n c) (.string k) := fun W hW =>
      have h5 := Below.chain hw6 hW
      ⟨bm6.keep hW, Below.chain HB5.out h5, (h5.cell (p := ⟨p, 0, none⟩) PL.out).trans PC.out, XX.out.mono h5⟩
    have HLEN4 := Lib.hid hlen4; have HGK := Lib.hid hgk; have KK := Lib.hid K6
    clear hlen4 hgk K6 bm6 r4 hown6 hgrow hw6 pc5 pl5 x0 x1 xl HG2 HOLD
    have H0 := HO.out; have GM0 := GM.out
    generalize (rl ++ [rk]) ++ [fac] = m5 at *
    have HO5 := Lib.hid H0; have GM5 := Lib.hid GM0; clear H0 GM0 HO GM
    go_wp2_with fail
    go_loopw [29] (fun iv wr => ∃ j : Nat, j ≤ n + 2 ∧ iv = .int .i64 j ∧ (m5.take j).all shortS = true ∧ Below w6.heap.size w6 wr) (fun iv _ => n + 2 - (intOf iv).toNat)
    case atStart => exact ⟨0, Nat.zero_le _, rfl, rfl, Below.refl _ _⟩
    case round =>
      obtain ⟨j, hj, rfl, hall, hbw⟩ := hrel
      have HALL := Lib.hid hall; have HB := Lib.hid hbw; clear hall hbw
      by_cases hlt : j < n + 2
      · have hlt' : j < m5.length := by rw [HLEN4.out]; exact hlt
        obtain ⟨b, off, rfl, hbl, ck⟩ := HGK.out wr HB.out j hlt'
        have hz := GM5.out _ (List.getElem_mem hlt')
        have C := isShortN (m5[j]'hlt') wr (by omega)
        have hsucc := take_all_succ shortS m5 j hlt'
        rw [HALL.out, Bool.true_and] at hsucc
        have hbad := take_all_false shortS m5 j hlt'
        have hdef : shortS (m5[j]'hlt') = shortN (bytes (m5[j]'hlt')) := rfl
        rw [← hdef] at C
        generalize hbv : shortS (m5[j]'hlt') = bv at *
        generalize m5[j]'hlt' = sk at *
        have HSU := Lib.hid hsucc
        clear hsucc hdef
        cases bv
        · have hbad2 := hbad rfl
          have ho := HO5.out
          rw [hbad2, if_neg (by decide)] at ho
          have HOO := Lib.hid ho
          have KC := Lib.hid C; clear C hbad hbad2 ho HO5
          go_wp2_with (go_at_call 61; refine KC.out.mono ?_; rintro e w7 ⟨rfl, hb7⟩; refine Hid.out ?_)
          have HB7 := Lib.hid (KK.out _ (Below.chain HB.out hb7)).2.1; clear hb7
          refine Lib.hid ?_
          go_wp2
          refine bodyPost_ret (v := .tuple #[.slice none 0 0, .string ⟨#[]⟩, .string ⟨#[]⟩, .int .i64 10]) (by simp [results, Tryz.results22, go_sem]) rfl ?_
          rw [HOO.out]
          exact ⟨none, 0, rfl, RowB.nil _ _, HB7.out⟩
        · have KC := Lib.hid C; clear C hbad
          go_wp2_with (go_at_call 61; refine KC.out.mono ?_; rintro e w7 ⟨rfl, hb7⟩; refine Hid.out ?_)
          refine Lib.hid ?_
          go_wp2
          go_roundw
          case rel => exact ⟨j + 1, by omega, by go_num, HSU.out, Below.chain HB.out hb7⟩
          case measure => simp [intOf]; omega
      · have hjn : j = n + 2 := by omega
        subst hjn
        have ho := HO5.out
        rw [show m5.all shortS = true by have h := HALL.out; rwa [List.take_of_length_le (by rw [HLEN4.out]; omega)] at h, if_pos rfl] at ho
        have HOO := Lib.hid ho; clear ho HO5
        obtain ⟨bm7, hB7, pc7, X7⟩ := KK.out _ HB.out
        have x0 := X7.c0; have xl := X7.lt
        have hk7 := bm7.cell n (by rw [HRL1.out]; omega)
        rw [List.getElem_concat_length HRL.out.symm] at hk7
        have hrow := (bm7.row (c := n + 1) (by rw [HRL1.out]; omega) (by omega)).front
        rw [HRL.out] at hrow
        have HROW := Lib.hid hrow; have HB7 := Lib.hid hB7; clear bm7 hB7 X7 hrow
        have q0 : (0 : Int) ≤ (n : Int) := by omega
        have q1 : (n : Int) ≤ (n : Int) + 1 := by omega
        go_wp2_with fail
        go_region
        all_goals
          go_wp2
          refine bodyPost_ret (v := .tuple #[.slice (some ⟨gm, 0, none⟩) n n, .string rk, .string fac, .int .i64 0]) (by simp [results, Tryz.results22, go_sem]) rfl ?_
          rw [HOO.out]
          exact ⟨some ⟨gm, 0, none⟩, n, by rw [HRL.out]; rfl, ⟨HROW.out, fun a ha => by cases ha; exact hgm0⟩, HB7.out.drew⟩
  · rw [if_neg h0]
    rcases hcs with h | h | h | h
    · exact absurd h h0
    all_goals
      rw [h] at CH ⊢
      clear h0 h hr hz hn htab hT CN
      generalize l.length = n at *
      have KH := Lib.hid CH; clear CH
      go_enter Tryz.func22, Tryz.ntmps22
      go_wp2_with (go_at_call 26; refine (KH.out _ B).mono ?_; rintro e w1 ⟨rfl, hb1⟩; refine Hid.out ?_)
      have HB := Lib.hid (Below.chain B hb1); clear hb1 B X
      refine Lib.hid ?_
      go_wp2
      refine bodyPost_ret (by simp [results, Tryz.results22, go_sem]; rfl) rfl ?_
      exact ⟨none, 0, rfl, RowB.nil _ _, HB.out⟩
theorem belowDrewN {a w : World} {B : Nat} (h : Below B a w) (n : Nat) : Below B a (w.drewN n) := h.trans ⟨rfl, rfl, rfl, Nat.le_refl _, fun _ _ => rfl⟩
set_option maxHeartbeats 2000000 in
theorem sameRats (l : List ByteArray) (ao bo : Option Addr) (c d : Nat) (w : World) (ha : SRow w ao c l) (hb : SRow w bo d l) (hn : l.length ≤ 1200000) :
    Calls Tryz.prog 51 #[.slice ao l.length c, .slice bo l.length d] w (Bret (.bool true) w) := by
  have hga : ∀ W, Below w.heap.size w W → ∀ j (hj : j < l.length), ∃ b off, ao = some ⟨b, off, none⟩ ∧ b < W.heap.size ∧ W.cell? ⟨b, off + j, none⟩ = some (.string (l[j]'hj)) := fun W hW => (ha.mono hW).get
  have hgb : ∀ W, Below w.heap.size w W → ∀ j (hj : j < l.length), ∃ b off, bo = some ⟨b, off, none⟩ ∧ b < W.heap.size ∧ W.cell? ⟨b, off + j, none⟩ = some (.string (l[j]'hj)) := fun W hW => (hb.mono hW).get
  have HA := Lib.hid hga; have HB := Lib.hid hgb; clear hga hgb ha hb
  generalize hlen : l.length = n at hn ⊢
  have HLEN := Lib.hid hlen; clear hlen
  go_enter Tryz.func51, Tryz.ntmps51
  go_wp2_with fail
  go_loopw [5] (fun iv wr => ∃ j : Nat, j ≤ n ∧ iv = .int .i64 (j : Int) ∧ Below w.heap.size w wr) (fun iv _ => n - (intOf iv).toNat)
  case atStart => exact ⟨0, Nat.zero_le _, rfl, Below.refl _ _⟩
  case round =>
    obtain ⟨j, hj, rfl, hbw⟩ := hrel
    have HBW := Lib.hid hbw
    by_cases hlt : j < n
    · have hlt' : j < l.length := by rw [HLEN.out]; exact hlt
      obtain ⟨b1, o1, rfl, -, k1⟩ := HA.out wr hbw j hlt'
      obtain ⟨b2, o2, rfl, -, k2⟩ := HB.out wr hbw j hlt'
      generalize l[j]'hlt' = sk at *
      clear hbw
      have hj0 : (0 : Int) ≤ (j : Int) := by omega
      have hj1 : (j : Int) < (n : Int) := by omega
      go_wp2_with fail
      go_quiet (fail)
      go_wp2
      go_roundw
      case rel => exact ⟨j + 1, by omega, by go_num, belowDrewN HBW.out _⟩
      case measure => simp [intOf]; omega
    · have hjn : j = n := by omega
      subst hjn
      clear hbw
      go_wp2
      go_ret
      exact ⟨rfl, HBW.out⟩
set_option maxHeartbeats 2000000 in
theorem sameInts (l : List ByteArray) (ao bo : Option Addr) (c d : Nat) (w : World) (ha : SRow w ao c l) (hb : SRow w bo d l) (hn : l.length ≤ 1200000) :
    Calls Tryz.prog 28 #[.slice ao l.length c, .slice bo l.length d] w (Bret (.bool true) w) := by
  have hga : ∀ W, Below w.heap.size w W → ∀ j (hj : j < l.length), ∃ b off, ao = some ⟨b, off, none⟩ ∧ b < W.heap.size ∧ W.cell? ⟨b, off + j, none⟩ = some (.string (l[j]'hj)) := fun W hW => (ha.mono hW).get
  have hgb : ∀ W, Below w.heap.size w W → ∀ j (hj : j < l.length), ∃ b off, bo = some ⟨b, off, none⟩ ∧ b < W.heap.size ∧ W.cell? ⟨b, off + j, none⟩ = some (.string (l[j]'hj)) := fun W hW => (hb.mono hW).get
  have HA := Lib.hid hga; have HB := Lib.hid hgb; clear hga hgb ha hb
  generalize hlen : l.length = n at hn ⊢
  have HLEN := Lib.hid hlen; clear hlen
  go_enter Tryz.func28, Tryz.ntmps28
  go_wp2_with fail
  go_loopw [5] (fun iv wr => ∃ j : Nat, j ≤ n ∧ iv = .int .i64 (j : Int) ∧ Below w.heap.size w wr) (fun iv _ => n - (intOf iv).toNat)
  case atStart => exact ⟨0, Nat.zero_le _, rfl, Below.refl _ _⟩
  case round =>
    obtain ⟨j, hj, rfl, hbw⟩ := hrel
    have HBW := Lib.hid hbw
    by_cases hlt : j < n
    · have hlt' : j < l.length := by rw [HLEN.out]; exact hlt
      obtain ⟨b1, o1, rfl, -, k1⟩ := HA.out wr hbw j hlt'
      obtain ⟨b2, o2, rfl, -, k2⟩ := HB.out wr hbw j hlt'
      generalize l[j]'hlt' = sk at *
      clear hbw
      have hj0 : (0 : Int) ≤ (j : Int) := by omega
      have hj1 : (j : Int) < (n : Int) := by omega
      go_wp2_with fail
      go_quiet (fail)
      go_wp2
      go_roundw
      case rel => exact ⟨j + 1, by omega, by go_num, belowDrewN HBW.out _⟩
      case measure => simp [intOf]; omega
    · have hjn : j = n := by omega
      subst hjn
      clear hbw
      go_wp2
      go_ret
      exact ⟨rfl, HBW.out⟩
set_option maxHeartbeats 2000000 in
theorem sameLin (l : List ByteArray) (k : ByteArray) (ao bo : Option Addr) (c d : Nat) (w : World) (ha : SRow w ao c l) (hb : SRow w bo d l) (hn : l.length ≤ 1200000) :
    Calls Tryz.prog 18 #[.agg #[.slice ao l.length c, .string k], .agg #[.slice bo l.length d, .string k]] w (Bret (.bool true) w) := by
  obtain ⟨X, Y, B⟩ := entry2 w (.slice ao l.length c) (.string k) (.slice bo l.length d) (.string k) 27
  have C := fun (W : World) (hW : Below w.heap.size w W) => sameRats l ao bo c d W (ha.mono hW) (hb.mono hW) hn
  have KC := Lib.hid C; clear C ha hb
  generalize l.length = n at *
  go_enter Tryz.func18, Tryz.ntmps18
  go_wp2_with (go_at_call 51; refine (KC.out _ B).mono ?_; rintro e w1 ⟨rfl, hb1⟩; refine Hid.out ?_)
  have X1 := X.mono hb1; have Y1 := Y.mono hb1
  have x1 := X1.c1; have y1 := Y1.c1; have xl := X1.lt; have yl := Y1.lt
  have HB := Lib.hid (Below.chain B hb1); clear hb1 X Y B X1 Y1
  refine Lib.hid ?_
  go_wp2
  refine bodyPost_ret (v := .bool true) (by simp [results, Tryz.results18, go_sem]) rfl ?_
  exact ⟨rfl, HB.out⟩
set_option maxHeartbeats 1000000 in
theorem line_any (k : ByteArray) (ao : Option Addr) (n c : Nat) (w : World) :
    Calls Tryz.prog 43 #[.string k, .slice ao n c] w (Bret (.agg #[.slice ao n c, .string k]) w) := by
  have HB := Lib.hid (entry1 w (.slice ao n c) (.string k) 27).2.1
  go_enter Tryz.func43, Tryz.ntmps43
  go_wp2
  refine bodyPost_ret (v := .agg #[.slice ao n c, .string k]) (by simp [results, Tryz.results43, go_sem]) rfl ?_
  exact ⟨rfl, HB.out⟩
def e12 : ByteArray := ⟨#[49, 47, 50]⟩
def eM3 : ByteArray := ⟨#[45, 51]⟩
def e4 : ByteArray := ⟨#[52]⟩
def e1 : ByteArray := ⟨#[49]⟩
def e0 : ByteArray := ⟨#[48]⟩
def e13 : ByteArray := ⟨#[49, 47, 51]⟩
def e2 : ByteArray := ⟨#[50]⟩
theorem addO_lit : addO [e12, eM3] e4 [e1, e0] e13 = ⟨[⟨#[51, 47, 50]⟩, eM3], ⟨#[49, 51, 47, 51]⟩, 0⟩ := by kernel_rfl
theorem subO_lit : subAll [e12, eM3] e4 1 [e1, e0] e13 = ⟨[⟨#[45, 53, 47, 50]⟩, e0], ⟨#[51]⟩, 0⟩ := by kernel_rfl
theorem intO_lit : intAll [e12, eM3] e4 = ⟨[e1, ⟨#[45, 54]⟩], ⟨#[56]⟩, e2, 0⟩ := by kernel_rfl
theorem renO_lit1 : exprO (movL [e12, eM3] [1, 0] 2 (nz [e12, eM3])) e4 = ⟨[eM3, e12], e4, 0⟩ := by kernel_rfl
theorem renO_lit2 : exprO (movL [e12, eM3] [0, 0] 1 (nz [e12, eM3])) e4 = ⟨[⟨#[45, 53, 47, 50]⟩], e4, 0⟩ := by kernel_rfl
theorem linE_lit : linE [e12, eM3] e4 = 0 := by kernel_rfl
theorem firstE_lit : firstE [e2, e13] = 0 := by kernel_rfl
theorem sumQ_lit : tq (sumQ [e12, eM3] e4 [e2, e13] (nz [e12, eM3])) = e4 := by kernel_rfl
theorem sumQ_short : shortQ (sumQ [e12, eM3] e4 [e2, e13] (nz [e12, eM3])) = true := by kernel_rfl
theorem nz_lit : nz [e12, eM3] = [⟨0, by decide⟩, ⟨1, by decide⟩] := by kernel_rfl
theorem addF_lit0 : addF (sumQ [e12, eM3] e4 [e2, e13] []) (rv e12 * rv e2) = true := by kernel_rfl
theorem addF_lit1 : addF (sumQ [e12, eM3] e4 [e2, e13] [⟨0, by decide⟩]) (rv eM3 * rv e13) = true := by kernel_rfl
theorem row2 {w : World} {b : Nat} {s t : ByteArray} (h0 : w.cell? ⟨b, 0, none⟩ = some (.string s)) (h1 : w.cell? ⟨b, 1, none⟩ = some (.string t)) : SRow w (some ⟨b, 0, none⟩) 2 [s, t] :=
  ⟨Nat.le_refl _, by decide, .inr ⟨b, 0, rfl, World.block_lt_of_cell? w ⟨b, 0, none⟩ h0, fun k hk => by
    rw [Nat.zero_add]
    match k, hk with
    | 0, _ => exact h0
    | 1, _ => exact h1⟩⟩
theorem row2_new (w : World) (s t : ByteArray) (T : TypeId) : SRow (w.alloc (Obj.cells #[.string s, .string t] T)) (some ⟨w.heap.size, 0, none⟩) 2 [s, t] := row2 (by go_cell) (by go_cell)
theorem row1_new (w : World) (s : ByteArray) (T : TypeId) : SRow (w.alloc (Obj.cells #[.string s] T)) (some ⟨w.heap.size, 0, none⟩) 1 [s] :=
  ⟨Nat.le_refl _, by decide, .inr ⟨w.heap.size, 0, rfl, by simp, fun k hk => by
    match k, hk with
    | 0, _ => show World.cell? _ ⟨w.heap.size, 0 + 0, none⟩ = _; rw [Nat.zero_add]; go_cell⟩⟩
theorem irow2_new (w : World) (s t : Int) (T : TypeId) : IRow (w.alloc (Obj.cells #[.int .i64 s, .int .i64 t] T)) (some ⟨w.heap.size, 0, none⟩) 2 [s, t] :=
  ⟨Nat.le_refl _, by decide, .inr ⟨w.heap.size, 0, rfl, by simp, fun k hk => by
    rw [Nat.zero_add]
    match k, hk with
    | 0, _ => go_cell
    | 1, _ => go_cell⟩⟩
theorem small2 {s t : ByteArray} (hs : s.size ≤ 1200000) (ht : t.size ≤ 1200000) {k : ByteArray} (hk : k.size ≤ 1200000) : ∀ x ∈ [s, t] ++ [k], x.size ≤ 1200000 := by
  intro x hx
  simp at hx
  rcases hx with rfl | rfl | rfl
  · exact hs
  · exact ht
  · exact hk
theorem aw_add (b1 b2 : Nat) (W : World) (h1 : SRow W (some ⟨b1, 0, none⟩) 2 [e12, eM3]) (h2 : SRow W (some ⟨b2, 0, none⟩) 2 [e1, e0]) (htab : Lib.TabIs Tryz.prog W "internal/strconv.uint64pow10" .u64 Lib.pow10Tab) :
    Calls Tryz.prog 20 #[.agg #[.slice (some ⟨b1, 0, none⟩) 2 2, .string e4], .agg #[.slice (some ⟨b2, 0, none⟩) 2 2, .string e13]] W fun e w' => ∃ ao c, e = .returned (.tuple #[.agg #[.slice ao 2 c, .string ⟨#[49, 51, 47, 51]⟩], .int .i64 0]) ∧ SRow w' ao c [⟨#[51, 47, 50]⟩, eM3] ∧ Below W.heap.size W w' := by
  have := linAdd [e12, eM3] e4 (some ⟨b1, 0, none⟩) 2 [e1, e0] e13 (some ⟨b2, 0, none⟩) 2 W h1 (small2 (by decide) (by decide) (by decide)) (by decide) h2 (small2 (by decide) (by decide) (by decide)) (by decide) htab
  rw [addO_lit] at this
  exact this.mono fun e w' ⟨ao, c, q1, q2, q3⟩ => ⟨ao, c, q1, q2.1, q3⟩
theorem aw_sub (b1 b2 : Nat) (W : World) (h1 : SRow W (some ⟨b1, 0, none⟩) 2 [e12, eM3]) (h2 : SRow W (some ⟨b2, 0, none⟩) 2 [e1, e0]) (htab : Lib.TabIs Tryz.prog W "internal/strconv.uint64pow10" .u64 Lib.pow10Tab) :
    Calls Tryz.prog 34 #[.agg #[.slice (some ⟨b1, 0, none⟩) 2 2, .string e4], .int .i64 1, .agg #[.slice (some ⟨b2, 0, none⟩) 2 2, .string e13]] W fun e w' => ∃ ao c, e = .returned (.tuple #[.agg #[.slice ao 2 c, .string ⟨#[51]⟩], .int .i64 0]) ∧ SRow w' ao c [⟨#[45, 53, 47, 50]⟩, e0] ∧ Below W.heap.size W w' := by
  have := linSub [e12, eM3] e4 (some ⟨b1, 0, none⟩) 2 1 [e1, e0] e13 (some ⟨b2, 0, none⟩) 2 W h1 (small2 (by decide) (by decide) (by decide)) (by decide) h2 (small2 (by decide) (by decide) (by decide)) (by decide) htab
  rw [subO_lit] at this
  exact this.mono fun e w' ⟨ao, c, q1, q2, q3⟩ => ⟨ao, c, q1, q2.1, q3⟩
theorem aw_int (b1 : Nat) (W : World) (h1 : SRow W (some ⟨b1, 0, none⟩) 2 [e12, eM3]) (htab : Lib.TabIs Tryz.prog W "internal/strconv.uint64pow10" .u64 Lib.pow10Tab) :
    Calls Tryz.prog 22 #[.agg #[.slice (some ⟨b1, 0, none⟩) 2 2, .string e4]] W fun e w' => ∃ ao c, e = .returned (.tuple #[.slice ao 2 c, .string ⟨#[56]⟩, .string ⟨#[50]⟩, .int .i64 0]) ∧ SRow w' ao c [e1, ⟨#[45, 54]⟩] ∧ Below W.heap.size W w' := by
  have := linIntegral [e12, eM3] e4 (some ⟨b1, 0, none⟩) 2 W h1 (small2 (by decide) (by decide) (by decide)) (by decide) htab
  rw [intO_lit] at this
  exact this.mono fun e w' ⟨ao, c, q1, q2, q3⟩ => ⟨ao, c, q1, q2.1, q3⟩
theorem aw_ren1 (b1 b2 : Nat) (W : World) (h1 : SRow W (some ⟨b1, 0, none⟩) 2 [e12, eM3]) (h2 : IRow W (some ⟨b2, 0, none⟩) 2 [1, 0]) (htab : Lib.TabIs Tryz.prog W "internal/strconv.uint64pow10" .u64 Lib.pow10Tab) :
    Calls Tryz.prog 36 #[.agg #[.slice (some ⟨b1, 0, none⟩) 2 2, .string e4], .slice (some ⟨b2, 0, none⟩) 2 2, .int .i64 2] W fun e w' => ∃ ao c, e = .returned (.tuple #[.agg #[.slice ao 2 c, .string ⟨#[52]⟩], .int .i64 0]) ∧ SRow w' ao c [eM3, e12] ∧ Below W.heap.size W w' := by
  have := linRename_good [e12, eM3] e4 (some ⟨b1, 0, none⟩) 2 [1, 0] (some ⟨b2, 0, none⟩) 2 2 W h1 (small2 (by decide) (by decide) (by decide)) (by decide) h2 linE_lit (by decide) rfl (by decide) htab
  rw [renO_lit1] at this
  exact this.mono fun e w' ⟨ao, c, q1, q2, q3⟩ => ⟨ao, c, q1, q2.1, q3⟩
theorem aw_ren2 (b1 b2 : Nat) (W : World) (h1 : SRow W (some ⟨b1, 0, none⟩) 2 [e12, eM3]) (h2 : IRow W (some ⟨b2, 0, none⟩) 2 [0, 0]) (htab : Lib.TabIs Tryz.prog W "internal/strconv.uint64pow10" .u64 Lib.pow10Tab) :
    Calls Tryz.prog 36 #[.agg #[.slice (some ⟨b1, 0, none⟩) 2 2, .string e4], .slice (some ⟨b2, 0, none⟩) 2 2, .int .i64 1] W fun e w' => ∃ ao c, e = .returned (.tuple #[.agg #[.slice ao 1 c, .string ⟨#[52]⟩], .int .i64 0]) ∧ SRow w' ao c [⟨#[45, 53, 47, 50]⟩] ∧ Below W.heap.size W w' := by
  have := linRename_good [e12, eM3] e4 (some ⟨b1, 0, none⟩) 2 [0, 0] (some ⟨b2, 0, none⟩) 2 1 W h1 (small2 (by decide) (by decide) (by decide)) (by decide) h2 linE_lit (by decide) rfl (by decide) htab
  rw [renO_lit2] at this
  exact this.mono fun e w' ⟨ao, c, q1, q2, q3⟩ => ⟨ao, c, q1, q2.1, q3⟩
theorem aw_eval (b1 b2 : Nat) (W : World) (h1 : SRow W (some ⟨b1, 0, none⟩) 2 [e12, eM3]) (h2 : SRow W (some ⟨b2, 0, none⟩) 2 [e2, e13]) (htab : Lib.TabIs Tryz.prog W "internal/strconv.uint64pow10" .u64 Lib.pow10Tab) :
    Calls Tryz.prog 32 #[.agg #[.slice (some ⟨b1, 0, none⟩) 2 2, .string e4], .slice (some ⟨b2, 0, none⟩) 2 2] W (Bret (.tuple #[.string ⟨#[52]⟩, .int .i64 0]) W) :=
  linEval_good [e12, eM3] e4 (some ⟨b1, 0, none⟩) 2 [e2, e13] (some ⟨b2, 0, none⟩) 2 W h1 (small2 (by decide) (by decide) (by decide)) (by decide) h2 (by intro x hx; simp at hx; rcases hx with rfl | rfl <;> decide) linE_lit rfl firstE_lit
    (by intro x hx; simp at hx; rcases hx with rfl | rfl <;> exact good_of_numE (by kernel_rfl)) htab _
    (fun pre x hp ha => by
      exfalso
      rw [nz_lit] at hp
      obtain ⟨t, ht⟩ := hp
      match pre, ht with
      | [], ht => simp at ht; obtain ⟨rfl, -⟩ := ht; exact absurd (addF_lit0.symm.trans ha) (by decide)
      | [y], ht => simp at ht; obtain ⟨rfl, rfl, -⟩ := ht; exact absurd (addF_lit1.symm.trans ha) (by decide)
      | y :: z :: u, ht => simp at ht)
    (by rw [sumQ_short, if_pos rfl, sumQ_lit]; rfl)
end Go.Proofs.YtjobmkdaaionlaaGreatDoor
