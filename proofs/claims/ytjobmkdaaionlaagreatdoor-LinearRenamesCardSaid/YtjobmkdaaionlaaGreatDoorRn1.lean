import Derived.Test.YtjobmkdaaionlaaGreatDoorCut14
import Derived.Test.YtjobmkdaaionlaaGreatDoorRows
import Derived.LaidMore
import Derived.LaidLaws
import Derived.LaidHandle
import Derived.MakeChecks
import Derived.Stop.Joined
import Derived.Stop.LaidErr
import Derived.OpenShut
import Derived.ProofKit
import Derived.DataShut
import Derived.Test.YtjobmkdaaionlaaGreatDoorCut28
import Derived.Test.YtjobmkdaaionlaaGreatDoorCut23
import Derived.Test.YtjobmkdaaionlaaGreatDoorCut32
import Derived.Test.YtjobmkdaaionlaaGreatDoorCut31
import Derived.Test.YtjobmkdaaionlaaGreatDoorCut33
import Derived.Test.YtjobmkdaaionlaaGreatDoorCut13
import Derived.Test.YtjobmkdaaionlaaGreatDoorCut34
import Derived.Deep.RegionLawGrows
import Derived.Deep.RegionHeld3
import Derived.Sort.CutIn
import Derived.Stop.RegionWithIn
import Derived.Test.YtjobmkdaaionlaaGreatDoorCut35
import Derived.Laws.OwnMore
import Derived.SliceStrings
import Derived.ChangeSlices
import Derived.ChangeMaps5
import Derived.Lib.SmallJoins
import Derived.Test.YtjobmkdaaionlaaGreatDoorOwnRatN
import Derived.Test.YtjobmkdaaionlaaGreatDoorCut30
import Derived.Test.YtjobmkdaaionlaaGreatDoorCut36
import Derived.Test.YtjobmkdaaionlaaGreatDoorCut37

set_option linter.unusedVariables false
/-
  What the rows' condition on the listed variables gives, and a world that meets it.
-/
namespace Go.Proofs.YtjobmkdaaionlaaGreatDoor
open Go Go.Proofs Go.RowKit

theorem i64_bounds {a : Int} (h : (Lit.int .i64 a).wf = true) : -9223372036854775808 ≤ a ∧ a ≤ 9223372036854775807 := (Lit.wf_int_iff .i64 a).1 h
end Go.Proofs.YtjobmkdaaionlaaGreatDoor

/-
  The reference: Common, Coefficients.
-/
namespace Go.Proofs.YtjobmkdaaionlaaGreatDoor
open Go Go.Proofs Go.RowKit

/-- The sizes of the numbers on the way. -/
theorem txt_prod {m n : Nat} {a b : ByteArray} {x y : Int} (ha : Txt m a x) (hb : Txt n b y) : Txt (m + n) (str (Lib.itoa (x * y))) (x * y) := Txt.of (Nat.le_trans (mul_len' x y) (Nat.add_le_add ha.len hb.len))
theorem txt_fdiv {m : Nat} {a : ByteArray} {x y : Int} (ha : Txt m a x) (hy : y ≠ 0) : Txt m (str (Lib.itoa (x.fdiv y))) (x.fdiv y) := Txt.of (Nat.le_trans (div_len x y (fdiv_le x y hy)) ha.len)
theorem txt_sub {m n : Nat} {a b : ByteArray} {x y : Int} (ha : Txt m a x) (hb : Txt n b y) : Txt (m + n + 1) (str (Lib.itoa (x - y))) (x - y) := by
  refine Txt.ofLt (by omega) ?_
  have h1 : (x - y).natAbs ≤ x.natAbs + y.natAbs := by omega
  have h2 := ha.lt; have h3 := hb.lt
  have h4 : 10 ^ m ≤ 10 ^ (m + n) := Nat.pow_le_pow_right (by decide) (by omega)
  have h5 : 10 ^ n ≤ 10 ^ (m + n) := Nat.pow_le_pow_right (by decide) (by omega)
  rw [Nat.pow_succ]
  omega
theorem fdivT {m n : Nat} {a b : ByteArray} {x y : Int} (W : World) (ha : Txt m a x) (hb : Txt n b y) (hm : m ≤ 9000000) (hn : n ≤ 9000000) (hy : y ≠ 0) : Calls Tryz.prog 89 #[.string a, .string b] W (Bret (.string (str (Lib.itoa (x.fdiv y)))) W) :=
  refFloorI a b x y W ha.text hb.text (by have := ha.size; omega) (by have := hb.size; omega) hy
theorem prodT {m n : Nat} {a b : ByteArray} {x y : Int} (W : World) (ha : Txt m a x) (hb : Txt n b y) (hm : m ≤ 9000000) (hn : n ≤ 9000000) : Calls Tryz.prog 90 #[.string a, .string b] W (Bret (.string (str (Lib.itoa (x * y)))) W) :=
  refProductI a b x y W ha.text hb.text (by have := ha.size; omega) (by have := hb.size; omega)
end Go.Proofs.YtjobmkdaaionlaaGreatDoor

/-
  linear: Scale, Constant, Variable.
-/
set_option linter.unusedSimpArgs false
namespace Go.Proofs.YtjobmkdaaionlaaGreatDoor
open Go Go.Proofs Go.RowKit

theorem entryAB (w : World) (u v x y : Value) (T : TypeId) : Bx2 ((w.alloc (Obj.cells #[u, v] T)).alloc (Obj.cells #[x, y] T)) w.heap.size u v ∧ Bx2 ((w.alloc (Obj.cells #[u, v] T)).alloc (Obj.cells #[x, y] T)) (w.heap.size + 1) x y ∧ Below w.heap.size w ((w.alloc (Obj.cells #[u, v] T)).alloc (Obj.cells #[x, y] T)) := entry2 w u v x y T
end Go.Proofs.YtjobmkdaaionlaaGreatDoor

/-
  A region that draws its order: loads may be taken first though hot operations write their cells, if these wait for the loads; what yields in every world may be taken first at any time.
-/
namespace Go.Proofs.YtjobmkdaaionlaaGreatDoor
open Go Go.Proofs Go.RowKit

section
variable {P : Program} {ops : Array Oper} {Q : Exit → Act → World → Prop} {md : Region.Mode} {S : World → Prop} {hot : Nat → Bool}

theorem wp_region_hot {id : Nat} {a : Act} {w : World} (hot : Nat → Bool) (S : World → Prop) (hm : P.follows .mixedOrders = true) (hS : S w.drew)
    (h : S w.drew → wpAnyM P .any ops Q S hot ops.size (Array.replicate ops.size false) a w.drew) : (Code.region id ops true).wp P Q a w :=
  wp_region_any hm (any_of_hot _ _ _ _ (h hS))
end
end Go.Proofs.YtjobmkdaaionlaaGreatDoor

/-
  linear: Rename.
-/
set_option linter.unusedSimpArgs false
namespace Go.Proofs.YtjobmkdaaionlaaGreatDoor
open Go Go.Proofs Go.RowKit Go.Shelf

def renO (l : List ByteArray) (k : ByteArray) (ts : List Int) (n : Int) : LOut :=
  if linE l k = 0 then (if sizeB n = true then (if ts.length = l.length then (if ts.all (fun t => decide (0 ≤ t) && decide (t < n)) = true then exprO (movL l ts n.toNat (nz l)) k else .bad 6) else .bad 15) else .bad 2) else .bad (linE l k)

end Go.Proofs.YtjobmkdaaionlaaGreatDoor

/-
  linear: the reference's Flat, One, Constant, Variable, FewText.
-/
set_option linter.unusedSimpArgs false
namespace Go.Proofs.YtjobmkdaaionlaaGreatDoor
open Go Go.Proofs Go.RowKit

/-- An element that is appended to an own row, in a list of operations. -/
theorem wpList_append_row {ops : Array Oper} {rest : List Oper} {o : Oper} {a : Act} {W : World} {Q : Exit → Act → World → Prop}
    (hg : o.guard = none) (s x : Operand) (hop : o.op = Op.call { callee := Callee.builtin Builtin.append, args := #[s, x], argTypes := #[25, 25] })
    (base : Nat) (v : Value) (n : Nat) (l : List ByteArray) (hn : l.length = n) (hs : a.eval s = v) (hown : W.ownsRow base 22 1 v n (strCells l)) (hl : n ≤ 1200000) (hbase : base ≤ W.heap.size)
    (ad : Nat) (k : ByteArray) (hx : a.eval x = .slice (some ⟨ad, 0, none⟩) 1 1) (hc : W.cell? ⟨ad, 0, none⟩ = some (.string k))
    (hK : ∀ (g cap : Nat) (w9 : World), w9.ownsRow base 22 1 (.slice (some ⟨g, 0, none⟩) (n + 1) cap) (n + 1) (strCells (l ++ [k])) → Below base W w9 → wpList Tryz.prog ops Q rest (a.put o.dst (.slice (some ⟨g, 0, none⟩) (n + 1) cap)) w9) :
    wpList Tryz.prog ops Q (o :: rest) a W := by
  obtain ⟨i0, hi, hz0, hz1, hz2⟩ := info_parts infoRat
  refine wpList_append_lies W hg s x 25 hop base 22 i0 (.string ⟨#[]⟩) 1 16 Tryz.underlying25 hi hz0 hz1 hz2 rfl (by decide) v n (strCells l) hs hown ⟨ad, 0, none⟩ 1 1 [.string k] hx rfl ?_ (by intro u hu; simp at hu; subst hu; rfl) (by decide) (by unfold maxLen; omega) (by omega) hbase _ rfl ?_
  · intro j u hu
    match j, hu with
    | 0, hu => simp at hu; subst hu; rw [addr_zero]; exact hc
  · intro g cap w9 hown9 hgrow _ hg9
    rw [show strCells l ++ [Value.string k] = strCells (l ++ [k]) from (strCells_append l [k]).symm] at hown9
    exact hK g cap w9 hown9 ((Below.refl _ _).grown hgrow hbase (fun k hk => (hown.lt k hk).1))

set_option maxRecDepth 20000 in
set_option maxHeartbeats 4000000 in
theorem flat_any (n : Nat) (x : ByteArray) (w : World) (hn : n ≤ 1000) :
    Calls Tryz.prog 49 #[.int .i64 (n : Int), .string x] w (OutRet (w.heap.size + 1) (List.replicate n z0) x w) := by
  have Z := (Bx2.new w (.slice none 0 0) (.string ⟨#[]⟩) 27).over (Obj.cells #[.slice none 0 0, .string x] 27)
  have X := OutL.new (w.alloc (Obj.cells #[.slice none 0 0, .string ⟨#[]⟩] 27)) x 27
  rw [World.size_alloc] at X
  have B : Below w.heap.size w ((w.alloc (Obj.cells #[.slice none 0 0, .string ⟨#[]⟩] 27)).alloc (Obj.cells #[.slice none 0 0, .string x] 27)) := ((Below.refl _ _).alloc (Nat.le_refl _) _).alloc (by simp) _
  have e0 : ({ data := #[48] } : ByteArray) = z0 := rfl
  go_enter Tryz.func49, Tryz.ntmps49
  go_wp2_with fail
  go_loopw [6] (fun iv wr => ∃ (j : Nat) (ao : Option Addr) (c : Nat), j ≤ n ∧ iv = .int .i64 (j : Int) ∧ Bx2 wr w.heap.size (.slice none 0 0) (.string ⟨#[]⟩) ∧ OutL wr (w.heap.size + 1) ao c (List.replicate j z0) x ∧ Below w.heap.size w wr) (fun iv _ => n - (intOf iv).toNat)
  case atStart => exact ⟨0, none, 0, Nat.zero_le _, rfl, Z, X, B⟩
  case round =>
    obtain ⟨j, ao, c, hj, rfl, hz, hx, hB⟩ := hrel
    by_cases hlt : j < n
    · have hj0 : (0 : Int) ≤ (j : Int) := by omega
      have hj1 : (j : Int) < (n : Int) := by omega
      have X1 := hx.mono ((Below.refl _ _).alloc (Nat.le_refl _) (Obj.cells #[.string z0] 22))
      have Z1 := hz.mono ((Below.refl _ _).alloc (Nat.le_refl _) (Obj.cells #[.string z0] 22))
      have hB1 := hB.alloc hB.size (Obj.cells #[.string z0] 22)
      have x0 := hx.bx.c0; have x4 := hx.bx.lt
      have y0 := X1.bx.f0
      have hlen : (List.replicate j z0).length = j := List.length_replicate ..
      rw [hlen] at x0
      have ho := X1.own
      rw [hlen] at ho
      have HX := Lib.hid X1; have HZ := Lib.hid Z1; have HB := Lib.hid hB1
      clear hx hz X1 Z1 hB1 Z X B hB
      go_wp2_with (first | (at_builtin; refine wpList_append_row rfl (.tmp 15) (.tmp 16) rfl (w.heap.size + 1 + 1) _ j (List.replicate j z0) hlen (by simp [Act.eval, Act.put]) ho (by omega) (by simp; omega) wr.heap.size z0 (by simp [Act.eval, Act.put]) (by go_cell) ?_; intro g cap w9 hown9 hb9; refine Hid.out ?_) | fail)
      have hown9' : w9.ownsRow (w.heap.size + 1 + 1) 22 1 (.slice (some ⟨g, 0, none⟩) ((List.replicate j z0).length + 1) cap) ((List.replicate j z0).length + 1) (strCells (List.replicate j z0 ++ [z0])) := by rw [hlen]; exact hown9
      have N := HX.out.next hown9' hb9
      rw [hlen, ← List.replicate_succ'] at N
      have q0 := (HX.out.bx.low hb9 (Nat.lt_succ_self _)).c0; have q1 := (HX.out.bx.low hb9 (Nat.lt_succ_self _)).f0; have q2 := (HX.out.bx.low hb9 (Nat.lt_succ_self _)).lt
      have Z9 := (HZ.out.low hb9 (by omega)).set (g := w.heap.size + 1) (by omega) 0 (.slice (some ⟨g, 0, none⟩) (j + 1) cap)
      have B9 := ((HB.out.trans (hb9.mono (by omega))).setCell (p := ⟨w.heap.size + 1, 0, none⟩) (by simp) (.slice (some ⟨g, 0, none⟩) (j + 1) cap))
      have HN := Lib.hid N; have HZ9 := Lib.hid Z9; have HB9 := Lib.hid B9
      clear N Z9 B9 hown9 hown9' hb9 ho
      refine Lib.hid ?_
      go_wp2
      go_roundw
      case rel => exact ⟨j + 1, _, cap, by omega, by go_num, HZ9.out, HN.out, HB9.out⟩
      case measure => simp [intOf]; omega
    · have hjn : j = n := by omega
      subst hjn
      have hlen : (List.replicate j z0).length = j := List.length_replicate ..
      have x0 := hx.bx.c0; have x1 := hx.bx.c1; have x2 := hx.bx.f0; have x3 := hx.bx.f1; have x4 := hx.bx.lt
      have z00 := hz.c0; have z1 := hz.c1; have z2 := hz.f0; have z3 := hz.f1; have z4 := hz.lt
      have q := box2 hz.c0 hz.c1 (.slice ao j c) (.string x)
      have HBB := Lib.hid (below2 (p := w.heap.size) hB (by omega) (.slice ao j c) (.string x))
      have ho := ownsRow_setCell_below (ownsRow_setCell_below hx.own (a := ⟨w.heap.size, 0, none⟩) (by dsimp only; omega) (.slice ao j c)) (a := ⟨w.heap.size, 1, none⟩) (by dsimp only; omega) (.string x)
      rw [hlen] at ho x0
      have HO := Lib.hid ho
      obtain ⟨q1, q2⟩ := q
      clear ho hx hz hB Z X B
      go_wp2
      refine bodyPost_ret (v := .agg #[.slice ao j c, .string x]) (by simp [results, Tryz.results49, go_sem, q1, q2]) rfl ?_
      exact ⟨ao, c, by rw [hlen], by rw [hlen]; exact owns_base HO.out (by omega), HBB.out⟩
end Go.Proofs.YtjobmkdaaionlaaGreatDoor

/-
  linear: the reference's One, Constant, Variable, FewText.
-/
set_option linter.unusedSimpArgs false
namespace Go.Proofs.YtjobmkdaaionlaaGreatDoor
open Go Go.Proofs Go.RowKit

theorem shortS_num {s : ByteArray} (h : numE (bytes s) = 0) : shortS s = true := (numE_zero h).2
def fewT (s : ByteArray) : Bool := decide (s.size ≤ 450)
set_option maxHeartbeats 1000000 in
theorem fewText (s : ByteArray) (w : World) : Calls Tryz.prog 12 #[.string s] w fun e w' => e = .returned (.bool (fewT s)) ∧ w' = w := by
  unfold fewT
  by_cases h : s.size ≤ 450
  all_goals
    go_enter Tryz.func12, Tryz.ntmps12
    go_wp2
    refine bodyPost_ret (v := .bool (decide (s.size ≤ 450))) (by simp [results, Tryz.results12, go_sem] <;> omega) rfl ?_
    exact ⟨rfl, rfl⟩
end Go.Proofs.YtjobmkdaaionlaaGreatDoor

/-
  linear: the reference's Few.
-/
set_option linter.unusedSimpArgs false
namespace Go.Proofs.YtjobmkdaaionlaaGreatDoor
open Go Go.Proofs Go.RowKit

def fewL (l : List ByteArray) (k : ByteArray) : Bool := decide (l.length ≤ 40) && (fewT k && l.all fewT)
theorem all_drop (l : List ByteArray) (j : Nat) (h : j < l.length) : (l.drop j).all fewT = (fewT l[j] && (l.drop (j + 1)).all fewT) := by
  rw [List.drop_eq_getElem_cons h, List.all_cons]

set_option maxHeartbeats 2000000 in
theorem refFew (l : List ByteArray) (k : ByteArray) (ao : Option Addr) (c : Nat) (w : World) (hr : SRow w ao c l) (hm : (l.length : Int) ≤ 9223372036854775807) :
    Calls Tryz.prog 19 #[.agg #[.slice ao l.length c, .string k]] w (Bret (.bool (fewL l k)) w) := by
  have CK := fun (W : World) => fewText k W
  have X := Bx2.new w (.slice ao l.length c) (.string k) 27
  have B : Below w.heap.size w (w.alloc (Obj.cells #[.slice ao l.length c, .string k] 27)) := (Below.refl _ _).alloc (Nat.le_refl _) _
  have x0 := X.c0; have x1 := X.c1; have x4 := X.lt
  have hga : ∀ W, Below w.heap.size w W → ∀ j (hj : j < l.length), ∃ b off, ao = some ⟨b, off, none⟩ ∧ b < W.heap.size ∧ W.cell? ⟨b, off + j, none⟩ = some (.string (l[j]'hj)) := fun W hW => (hr.mono hW).get
  have HA := Lib.hid hga; clear hga hr
  have HB := Lib.hid B; have HX := Lib.hid X; clear B X
  unfold fewL
  by_cases h1 : l.length ≤ 40
  · rw [decide_eq_true h1, Bool.true_and]
    cases hk : fewT k
    · rw [hk] at CK
      rw [Bool.false_and]
      have KK := Lib.hid CK; clear CK hk
      have h1' : (l.length : Int) ≤ 40 := by omega
      go_enter Tryz.func19, Tryz.ntmps19
      go_wp2_with (go_at_call 12; refine (KK.out _).mono ?_; rintro e w1 ⟨rfl, h⟩; subst h; refine Hid.out ?_)
      refine Lib.hid ?_
      go_wp2
      refine bodyPost_ret (v := .bool false) (by simp [results, Tryz.results19, go_sem]) rfl ?_
      exact ⟨rfl, HB.out⟩
    · rw [hk] at CK
      rw [Bool.true_and]
      have KK := Lib.hid CK; clear CK hk
      have h1' : (l.length : Int) ≤ 40 := by omega
      go_enter Tryz.func19, Tryz.ntmps19
      go_wp2_with (go_at_call 12; refine (KK.out _).mono ?_; rintro e w1 ⟨rfl, h⟩; subst h; refine Hid.out ?_)
      refine Lib.hid ?_
      go_wp2_with fail
      clear x0 x1 x4
      go_loopw [3] (fun iv wr => ∃ j : Nat, j ≤ l.length ∧ iv = .int .i64 (j : Int) ∧ l.all fewT = (l.drop j).all fewT ∧ Bx2 wr w.heap.size (.slice ao l.length c) (.string k) ∧ Below w.heap.size w wr) (fun iv _ => l.length - (intOf iv).toNat)
      case atStart => exact ⟨0, Nat.zero_le _, rfl, by rw [List.drop_zero], HX.out, HB.out⟩
      case round =>
        obtain ⟨j, hj, rfl, he, hx, hbw⟩ := hrel
        have x0 := hx.c0; have x1 := hx.c1; have x4 := hx.lt
        have HBW := Lib.hid hbw; have HXR := Lib.hid hx; have HE := Lib.hid he
        by_cases hlt : j < l.length
        · obtain ⟨b1, o1, rfl, -, k1⟩ := HA.out wr hbw j hlt
          have hd := all_drop l j hlt
          have CJ := fun (W : World) => fewText (l[j]'hlt) W
          generalize l[j]'hlt = sj at *
          have hj0 : (0 : Int) ≤ (j : Int) := by omega
          have hj1 : (j : Int) < (l.length : Int) := by omega
          cases hf : fewT sj
          · rw [hf] at CJ hd
            rw [Bool.false_and] at hd
            have hres := Lib.hid (he.trans hd)
            have KJ := Lib.hid CJ; clear CJ hd hf hbw hx he
            go_wp2_with (go_at_call 12; refine (KJ.out _).mono ?_; rintro e w1 ⟨rfl, h⟩; subst h; refine Hid.out ?_)
            refine Lib.hid ?_
            go_wp2
            go_ret
            exact ⟨by rw [hres.out]; rfl, HBW.out⟩
          · rw [hf] at CJ hd
            rw [Bool.true_and] at hd
            have hres := Lib.hid (he.trans hd)
            have KJ := Lib.hid CJ; clear CJ hd hf hbw hx he
            go_wp2_with (go_at_call 12; refine (KJ.out _).mono ?_; rintro e w1 ⟨rfl, h⟩; subst h; refine Hid.out ?_)
            refine Lib.hid ?_
            go_wp2
            go_roundw
            case rel => exact ⟨j + 1, by omega, by go_num, hres.out, HXR.out, HBW.out⟩
            case measure => simp [intOf]; omega
        · have hjn : j = l.length := by omega
          subst hjn
          have hres := Lib.hid (he.trans (by rw [List.drop_length]; rfl : (l.drop l.length).all fewT = true))
          clear hbw hx he
          go_wp2
          go_ret
          exact ⟨by rw [hres.out]; rfl, HBW.out⟩
  · rw [decide_eq_false h1, Bool.false_and]
    have h1' : (40 : Int) < (l.length : Int) := by omega
    clear CK
    go_enter Tryz.func19, Tryz.ntmps19
    go_wp2
    refine bodyPost_ret (v := .bool false) (by simp [results, Tryz.results19, go_sem]) rfl ?_
    exact ⟨rfl, HB.out⟩
end Go.Proofs.YtjobmkdaaionlaaGreatDoor

/-
  A linear expression by value, opened; lists of numbers as arguments.
-/
namespace Go.Proofs.YtjobmkdaaionlaaGreatDoor
open Go Go.Proofs Go.RowKit Go.ChangeShapes Go.WideShapes Go.ChangeMaps

theorem fewL_spec {l : List ByteArray} {k : ByteArray} (h : fewL l k = true) : l.length ≤ 40 ∧ ∀ s ∈ l ++ [k], s.size ≤ 450 := by
  unfold fewL fewT at h
  rw [Bool.and_eq_true, Bool.and_eq_true, decide_eq_true_eq, decide_eq_true_eq, List.all_eq_true] at h
  refine ⟨h.1, fun s hs => ?_⟩
  rcases List.mem_append.1 hs with q | q
  · exact of_decide_eq_true (h.2.2 s q)
  · rw [List.mem_singleton.1 q]; exact h.2.1

section
variable {H : Type} {enc : TypeId × Value → H} {P : Program} {w : World}
theorem open_linear {r : Reach} {b0 : Nat} {t e : TypeId} {f0 f1 : Field} {v : Value} {d : DataW H} {ps : List MemPlace} (ht : P.underlying t = some (.struct #[f0, f1])) (hone : Go.Deep.oneCellFields P #[f0, f1] = true) (hC : P.cellsOf t = 2)
    (h0 : P.underlying f0.type = some (.slice e)) (he : P.underlying e = some .string) (hc : P.cellsOf e = 1) (h1 : P.underlying f1.type = some .string)
    (hv : Value.okWide P w r b0 t v) (h : DataW.Trod enc P w 0 (fun _ => true) true t v d ps) :
    ∃ (ao : Option Addr) (c : Nat) (l : List ByteArray) (k : ByteArray), v = .agg #[.slice ao l.length c, .string k] ∧ SRow w ao c l ∧ (∀ s ∈ l ++ [k], s.size ≤ 9223372036854775807) ∧ l.length ≤ 9223372036854775807 := by
  obtain ⟨v0, v1, y0, y1, n, rfl, -, -, g0, g1⟩ := Go.Joins.open_agg2 ht hone hC hv h
  obtain ⟨ao, c, l, rfl, r, hs, hl⟩ := SRow.open h0 he hc g0
  obtain ⟨k, e1, -, k1⟩ := DataW.trod_string h1 g1
  cases e1
  refine ⟨ao, c, l, k, rfl, r, fun s h => ?_, hl⟩
  rcases List.mem_append.1 h with q | q
  · exact hs s q
  · rw [List.mem_singleton.1 q]; exact k1
theorem open_nums {r : Reach} {b0 : Nat} {t e : TypeId} {v : Value} {d : DataW H} {ps : List MemPlace} (ht : P.underlying t = some (.slice e)) (he : P.underlying e = some (.int .i64)) (hc : P.cellsOf e = 1)
    (hv : Value.okWide P w r b0 t v) (h : DataW.Trod enc P w 0 (fun _ => true) true t v d ps) :
    ∃ (ao : Option Addr) (c : Nat) (l : List Int), v = .slice ao l.length c ∧ IRow w ao c l ∧ (∀ n ∈ l, -9223372036854775808 ≤ n ∧ n ≤ 9223372036854775807) ∧ l.length ≤ 9223372036854775807 := by
  obtain ⟨a, n, c, rfl⟩ := okWide_slice ht hv
  obtain ⟨fuel, hf⟩ := h
  rcases open_ints ht he hc hf with ⟨hcs, -⟩ | ⟨a, len, cap, ss, hcs, -, hl, hm, hz, -, hcell, hsz⟩
  · simp only [Value.cells, List.cons.injEq, and_true] at hcs
    cases hcs
    exact ⟨none, 0, [], rfl, ⟨Nat.le_refl _, by decide, .inl rfl⟩, by simp, by simp⟩
  · simp only [Value.cells, List.cons.injEq, and_true] at hcs
    cases hcs
    simp only [if_true] at hz
    have hm' : c ≤ 9223372036854775807 := hm
    have e1 : (ss.take n).length = n := by rw [List.length_take]; omega
    refine ⟨some a, c, ss.take n, by rw [e1], ⟨by rw [e1]; exact hl, hm', ?_⟩, fun s hs => (Lit.wf_int_iff .i64 s).1 (hsz s (List.mem_of_mem_take hs)), by rw [e1]; omega⟩
    rcases Nat.eq_zero_or_pos n with h0 | h0
    · subst h0
      exact .inl (by simp)
    · have c0 := hcell 0 (by omega)
      obtain ⟨b, off, sp⟩ := a
      have hsp : sp = none := by
        cases sp with
        | none => rfl
        | some q =>
          simp only [Addr.add, World.cell?] at c0
          split at c0 <;> simp at c0
      subst hsp
      refine .inr ⟨b, off, rfl, ?_, fun k hk => ?_⟩
      · simp only [Addr.add, World.cell?] at c0
        split at c0
        · rename_i hh
          exact (Array.getElem?_eq_some_iff.1 hh).1
        · cases c0
      · rw [e1] at hk
        have := hcell k (by omega)
        have hk2 : k < ss.length := by omega
        rw [List.getD_eq_getElem?_getD, List.getElem?_eq_getElem hk2] at this
        rw [List.getElem_take]
        rw [addr_add] at this
        exact this
end
end Go.Proofs.YtjobmkdaaionlaaGreatDoor

/-
  The reference of rational: Frac, Of, both, large.
-/
namespace Go.Proofs.YtjobmkdaaionlaaGreatDoor
open Go Go.Proofs Go.RowKit

theorem sgcd_pos {x y : Int} (h : 0 < y) : sgcd x y = gcdI x y := by unfold sgcd; rw [if_neg (by omega)]
theorem commonT {m n : Nat} {s t : ByteArray} {x y : Int} (W : World) (hs : Txt m s x) (ht : Txt n t y) (hm : m ≤ 1200000) (hn : n ≤ 1200000) : Calls Tryz.prog 91 #[.string s, .string t] W (Bret (.string (str (Lib.itoa (gcdI x y)))) W) :=
  refCommonI s t x y W hs.text ht.text (by have := hs.size; omega) (by have := ht.size; omega)
theorem txt_gcd {m n : Nat} {s t : ByteArray} {x y : Int} (hs : Txt m s x) (ht : Txt n t y) : Txt (m + n) (str (Lib.itoa (gcdI x y))) (gcdI x y) := by
  refine Txt.ofLt (by have := hs.pos; omega) ?_
  have h1 : (gcdI x y).natAbs < 10 ^ (m + n) := by
    unfold gcdI
    rw [Int.natAbs_natCast]
    exact gcd_le x y _ (Nat.lt_of_lt_of_le hs.lt (Nat.pow_le_pow_right (by decide) (by omega))) (Nat.lt_of_lt_of_le ht.lt (Nat.pow_le_pow_right (by decide) (by omega)))
  exact h1
theorem negT {m : Nat} {s : ByteArray} {x : Int} (W : World) (hs : Txt m s x) (hm : m ≤ 1200000) : Calls Tryz.prog 125 #[.string s] W fun e w' => e = .returned (.string (str (Lib.itoa (-x)))) ∧ w' = W := refNegatedT s x W hs.text (by have := hs.size; omega)
theorem txt_neg' {m : Nat} {s : ByteArray} {x : Int} (hs : Txt m s x) : Txt m (str (Lib.itoa (-x))) (-x) := Txt.of (by rw [Int.natAbs_neg]; exact hs.len)
theorem signT {m : Nat} {s : ByteArray} {x : Int} (W : World) (hs : Txt m s x) : Calls Tryz.prog 124 #[.string s] W fun e w' => e = .returned (.int .i64 (cmpI x 0)) ∧ w' = W := refSign_txt s x W hs.text
/-- The parts of a fraction with a positive denominator. -/
theorem frac_parts {x y : Int} (hy : 0 < y) : x.fdiv (gcdI x y) = (Rat.divInt x y).num ∧ y.fdiv (gcdI x y) = ((Rat.divInt x y).den : Int) := by
  have := reduced_parts (x := x) (y := y) (by omega)
  rwa [sgcd_pos hy] at this

theorem frac_facts {m n : Nat} {s t : ByteArray} {x y : Int} (hs : Txt m s x) (ht : Txt n t y) (hm : m ≤ 100000) (hn : n ≤ 100000) (hy : 0 < y) :
    (∀ W, Calls Tryz.prog 91 #[.string s, .string t] W (Bret (.string (str (Lib.itoa (gcdI x y)))) W)) ∧
    (∀ W, Calls Tryz.prog 89 #[.string s, .string (str (Lib.itoa (gcdI x y)))] W (Bret (.string (str (Lib.itoa (Rat.divInt x y).num))) W)) ∧
    (∀ W, Calls Tryz.prog 89 #[.string t, .string (str (Lib.itoa (gcdI x y)))] W (Bret (.string (str (Lib.itoa ((Rat.divInt x y).den : Int)))) W)) ∧
    (str (Lib.itoa (Rat.divInt x y).num)).size ≤ 200000 ∧ (str (Lib.itoa ((Rat.divInt x y).den : Int))).size ≤ 200000 := by
  have hg := gcdI_pos (x := x) (y := y) (by omega)
  have tg := txt_gcd hs ht
  obtain ⟨k1, k2⟩ := frac_parts (x := x) hy
  have t1 := txt_fdiv (y := gcdI x y) hs (by omega)
  have t2 := txt_fdiv (y := gcdI x y) ht (by omega)
  rw [k1] at t1
  rw [k2] at t2
  refine ⟨fun W => commonT W hs ht (by omega) (by omega), fun W => ?_, fun W => ?_, by have := t1.size; omega, by have := t2.size; omega⟩
  · have := fdivT W hs tg (by omega) (by omega) (by omega)
    rwa [k1] at this
  · have := fdivT W ht tg (by omega) (by omega) (by omega)
    rwa [k2] at this
theorem den_ne_lit {q : Rat} (h : q.den ≠ 1) : ((str (Lib.itoa (q.den : Int))).toList == [49]) = false := itoa_ne_one (by omega)
theorem den_is_lit {q : Rat} (h : q.den = 1) : str (Lib.itoa (q.den : Int)) = ⟨#[49]⟩ := by rw [h]; exact lit_str s1

set_option maxHeartbeats 4000000 in
theorem frac_pos (s t : ByteArray) (x y : Int) (m n : Nat) (w : World) (hs : Txt m s x) (ht : Txt n t y) (hm : m ≤ 100000) (hn : n ≤ 100000) (hy : 0 < y) :
    Calls Tryz.prog 92 #[.string s, .string t] w (Bret (.string (str (ratL (Rat.divInt x y)))) w) := by
  have CS := fun W => signT W ht
  have hc : cmpI y 0 = 1 := cmpI_gt hy
  rw [hc] at CS
  obtain ⟨C1, C2, C3, z1, z2⟩ := frac_facts hs ht hm hn hy
  generalize Rat.divInt x y = r at *
  by_cases h : r.den = 1
  · rw [ratL_one h]
    rw [den_is_lit h] at C3
    clear hs ht hm hn hy hc z1 z2 h
    generalize str (Lib.itoa r.num) = u at *
    generalize str (Lib.itoa (gcdI (x) (y))) = g at *
    have KS := Lib.hid CS; have K1 := Lib.hid C1; have K2 := Lib.hid C2; have K3 := Lib.hid C3
    clear CS C1 C2 C3
    go_enter Tryz.func92, Tryz.ntmps92
    go_wp2_with (go_at_call 124; refine (KS.out _).mono ?_; rintro e w1 ⟨rfl, h⟩; subst h; refine Hid.out ?_)
    refine Lib.hid ?_
    go_wp2_with (go_at_call 91; refine (K1.out _).mono ?_; rintro e w2 ⟨rfl, hb2⟩; refine Hid.out ?_)
    refine Lib.hid ?_
    go_wp2_with (go_at_call 89; refine (K2.out _).mono ?_; rintro e w3 ⟨rfl, hb3⟩; refine Hid.out ?_)
    have hB3 := Below.chain hb2 hb3; clear hb3 hb2
    refine Lib.hid ?_
    go_wp2_with (go_at_call 89; refine (K3.out _).mono ?_; rintro e w4 ⟨rfl, hb4⟩; refine Hid.out ?_)
    have hB4 := Below.chain hB3 hb4; clear hb4 hB3
    refine Lib.hid ?_
    go_wp2
    refine bodyPost_ret (v := .string u) (by simp [results, Tryz.results92, go_sem]) rfl ?_
    exact ⟨rfl, hB4⟩
  · rw [ratL_more h]
    have hne := den_ne_lit h
    clear hs ht hm hn hy hc h
    generalize str (Lib.itoa r.num) = u at *
    generalize str (Lib.itoa (r.den : Int)) = v at *
    generalize str (Lib.itoa (gcdI (x) (y))) = g at *
    have hsz : (u ++ ⟨#[47]⟩ : ByteArray).size ≤ 200001 := by rw [ByteArray.size_append]; exact Nat.succ_le_succ z1
    have KS := Lib.hid CS; have K1 := Lib.hid C1; have K2 := Lib.hid C2; have K3 := Lib.hid C3
    clear CS C1 C2 C3
    go_enter Tryz.func92, Tryz.ntmps92
    go_wp2_with (go_at_call 124; refine (KS.out _).mono ?_; rintro e w1 ⟨rfl, h⟩; subst h; refine Hid.out ?_)
    refine Lib.hid ?_
    go_wp2_with (go_at_call 91; refine (K1.out _).mono ?_; rintro e w2 ⟨rfl, hb2⟩; refine Hid.out ?_)
    refine Lib.hid ?_
    go_wp2_with (go_at_call 89; refine (K2.out _).mono ?_; rintro e w3 ⟨rfl, hb3⟩; refine Hid.out ?_)
    have hB3 := Below.chain hb2 hb3; clear hb3 hb2
    refine Lib.hid ?_
    go_wp2_with (go_at_call 89; refine (K3.out _).mono ?_; rintro e w4 ⟨rfl, hb4⟩; refine Hid.out ?_)
    have hB4 := Below.chain hB3 hb4; clear hb4 hB3
    refine Lib.hid ?_
    go_wp2
    refine bodyPost_ret (v := .string (u ++ ⟨#[47]⟩ ++ v)) (by simp [results, Tryz.results92, go_sem]) rfl ?_
    exact ⟨rfl, hB4⟩

set_option maxHeartbeats 4000000 in
theorem frac_neg (s t : ByteArray) (x y : Int) (m n : Nat) (w : World) (hs : Txt m s x) (ht : Txt n t y) (hm : m ≤ 100000) (hn : n ≤ 100000) (hy : y < 0) :
    Calls Tryz.prog 92 #[.string s, .string t] w (Bret (.string (str (ratL (Rat.divInt x y)))) w) := by
  have CS := fun W => signT W ht
  have hc : cmpI y 0 = -1 := cmpI_lt hy
  rw [hc] at CS
  have CN1 := fun W => negT W hs (by omega)
  have CN2 := fun W => negT W ht (by omega)
  obtain ⟨C1, C2, C3, z1, z2⟩ := frac_facts (txt_neg' hs) (txt_neg' ht) hm hn (by omega : 0 < -y)
  rw [Rat.neg_divInt_neg] at C2 C3 z1 z2
  generalize Rat.divInt x y = r at *
  by_cases h : r.den = 1
  · rw [ratL_one h]
    rw [den_is_lit h] at C3
    clear hs ht hm hn hy hc z1 z2 h
    generalize str (Lib.itoa r.num) = u at *
    generalize str (Lib.itoa (gcdI (-x) (-y))) = g at *
    generalize str (Lib.itoa (-x)) = nx at *
    generalize str (Lib.itoa (-y)) = ny at *
    have KN1 := Lib.hid CN1; have KN2 := Lib.hid CN2; clear CN1 CN2
    have KS := Lib.hid CS; have K1 := Lib.hid C1; have K2 := Lib.hid C2; have K3 := Lib.hid C3
    clear CS C1 C2 C3
    go_enter Tryz.func92, Tryz.ntmps92
    go_wp2_with (go_at_call 124; refine (KS.out _).mono ?_; rintro e w1 ⟨rfl, h⟩; subst h; refine Hid.out ?_)
    refine Lib.hid ?_
    go_wp2_with (go_at_call 125; refine (KN1.out _).mono ?_; rintro e w2 ⟨rfl, h⟩; subst h; refine Hid.out ?_)
    refine Lib.hid ?_
    go_wp2_with (go_at_call 125; refine (KN2.out _).mono ?_; rintro e w3 ⟨rfl, h⟩; subst h; refine Hid.out ?_)
    refine Lib.hid ?_
    go_wp2_with (go_at_call 91; refine (K1.out _).mono ?_; rintro e w4 ⟨rfl, hb4⟩; refine Hid.out ?_)
    refine Lib.hid ?_
    go_wp2_with (go_at_call 89; refine (K2.out _).mono ?_; rintro e w5 ⟨rfl, hb5⟩; refine Hid.out ?_)
    have hB5 := Below.chain hb4 hb5; clear hb5 hb4
    refine Lib.hid ?_
    go_wp2_with (go_at_call 89; refine (K3.out _).mono ?_; rintro e w6 ⟨rfl, hb6⟩; refine Hid.out ?_)
    have hB6 := Below.chain hB5 hb6; clear hb6 hB5
    refine Lib.hid ?_
    go_wp2
    refine bodyPost_ret (v := .string u) (by simp [results, Tryz.results92, go_sem]) rfl ?_
    exact ⟨rfl, hB6⟩
  · rw [ratL_more h]
    have hne := den_ne_lit h
    clear hs ht hm hn hy hc h
    generalize str (Lib.itoa r.num) = u at *
    generalize str (Lib.itoa (r.den : Int)) = v at *
    generalize str (Lib.itoa (gcdI (-x) (-y))) = g at *
    have hsz : (u ++ ⟨#[47]⟩ : ByteArray).size ≤ 200001 := by rw [ByteArray.size_append]; exact Nat.succ_le_succ z1
    generalize str (Lib.itoa (-x)) = nx at *
    generalize str (Lib.itoa (-y)) = ny at *
    have KN1 := Lib.hid CN1; have KN2 := Lib.hid CN2; clear CN1 CN2
    have KS := Lib.hid CS; have K1 := Lib.hid C1; have K2 := Lib.hid C2; have K3 := Lib.hid C3
    clear CS C1 C2 C3
    go_enter Tryz.func92, Tryz.ntmps92
    go_wp2_with (go_at_call 124; refine (KS.out _).mono ?_; rintro e w1 ⟨rfl, h⟩; subst h; refine Hid.out ?_)
    refine Lib.hid ?_
    go_wp2_with (go_at_call 125; refine (KN1.out _).mono ?_; rintro e w2 ⟨rfl, h⟩; subst h; refine Hid.out ?_)
    refine Lib.hid ?_
    go_wp2_with (go_at_call 125; refine (KN2.out _).mono ?_; rintro e w3 ⟨rfl, h⟩; subst h; refine Hid.out ?_)
    refine Lib.hid ?_
    go_wp2_with (go_at_call 91; refine (K1.out _).mono ?_; rintro e w4 ⟨rfl, hb4⟩; refine Hid.out ?_)
    refine Lib.hid ?_
    go_wp2_with (go_at_call 89; refine (K2.out _).mono ?_; rintro e w5 ⟨rfl, hb5⟩; refine Hid.out ?_)
    have hB5 := Below.chain hb4 hb5; clear hb5 hb4
    refine Lib.hid ?_
    go_wp2_with (go_at_call 89; refine (K3.out _).mono ?_; rintro e w6 ⟨rfl, hb6⟩; refine Hid.out ?_)
    have hB6 := Below.chain hB5 hb6; clear hb6 hB5
    refine Lib.hid ?_
    go_wp2
    refine bodyPost_ret (v := .string (u ++ ⟨#[47]⟩ ++ v)) (by simp [results, Tryz.results92, go_sem]) rfl ?_
    exact ⟨rfl, hB6⟩

theorem fracT {m n : Nat} {s t : ByteArray} {x y : Int} (w : World) (hs : Txt m s x) (ht : Txt n t y) (hm : m ≤ 100000) (hn : n ≤ 100000) (hy : y ≠ 0) :
    Calls Tryz.prog 92 #[.string s, .string t] w (Bret (.string (str (ratL (Rat.divInt x y)))) w) := by
  by_cases h : y < 0
  · exact frac_neg s t x y m n w hs ht hm hn h
  · exact frac_pos s t x y m n w hs ht hm hn (by omega)
end Go.Proofs.YtjobmkdaaionlaaGreatDoor

/-
  The reference of rational: Compare, Add, Sub, Mul, Div, Neg, Floor, Ceil, Num, Den.
-/
namespace Go.Proofs.YtjobmkdaaionlaaGreatDoor
open Go Go.Proofs Go.RowKit

theorem sumT {m n : Nat} {s t : ByteArray} {x y : Int} (w : World) (hs : Txt m s x) (ht : Txt n t y) (hm : m ≤ 1200000) (hn : n ≤ 1200000) : Calls Tryz.prog 105 #[.string s, .string t] w (Bret (.string (str (Lib.itoa (x + y)))) w) :=
  refSumI s t x y w hs.text ht.text (by have := hs.size; omega) (by have := ht.size; omega)
theorem txt_add {m n : Nat} {a b : ByteArray} {x y : Int} (ha : Txt m a x) (hb : Txt n b y) : Txt (m + n + 1) (str (Lib.itoa (x + y))) (x + y) := by
  have := txt_sub ha (txt_neg' hb)
  rwa [Int.sub_neg] at this

end Go.Proofs.YtjobmkdaaionlaaGreatDoor

/-
  linear: the reference's Plus and Times of numbers of any length.
-/
set_option linter.unusedSimpArgs false
namespace Go.Proofs.YtjobmkdaaionlaaGreatDoor
open Go Go.Proofs Go.RowKit

theorem Good.bot {k : Nat} {s : ByteArray} (h : Good k s) (h0 : 0 < k) (hk : k ≤ 20000) (w : World) : Calls Tryz.prog 41 #[.string s] w fun e w' => e = .returned (.string (str (Lib.itoa ((rv s).den : Int)))) ∧ w' = w := by
  have := refBottom s w (h.sz2 h0 hk)
  rwa [h.text, botL_rat] at this
theorem rat_int {q : Rat} (h : q.den = 1) : q = (q.num : Rat) := by
  apply Rat.ext <;> simp [h]
theorem add_int {p q : Rat} (hp : p.den = 1) (hq : q.den = 1) : str (Lib.itoa (p.num + q.num)) = str (ratL (p + q)) := by
  rw [← ratL_int]
  congr 2
  rw [rat_int hp, rat_int hq]
  push_cast
  simp
set_option maxHeartbeats 2000000 in
theorem plusG {s t : ByteArray} {i j : Nat} (hs : Good i s) (ht : Good j t) (hi : 0 < i) (hj : 0 < j) (hik : i ≤ 20000) (hjk : j ≤ 20000) (w : World) :
    Calls Tryz.prog 84 #[.string s, .string t] w (Bret (.string (addT s t)) w) := by
  have A1 := hs.top hi hik; have A2 := hs.bot hi hik; have B1 := ht.top hj hjk; have B2 := ht.bot hj hjk
  obtain ⟨v1, hv1, S1⟩ := hs.slash hi hik
  obtain ⟨v2, hv2, S2⟩ := ht.slash hj hjk
  have tn := hs.num hi; have td := hs.den hi; have un := ht.num hj; have ud := ht.den hj
  have P0 := fun W => prodT W tn ud (by omega) (by omega)
  have P1 := fun W => prodT W un td (by omega) (by omega)
  have P2 := fun W => prodT W td ud (by omega) (by omega)
  have x0 := txt_prod tn ud; have x1 := txt_prod un td; have x2 := txt_prod td ud
  have SU := fun W => sumT W x0 x1 (by omega) (by omega)
  have x3 := txt_add x0 x1
  have FR := fun W => fracT W x3 x2 (by omega) (by omega) (den_mul_ne (rv s) (rv t))
  rw [divInt_add (rv s) (rv t)] at FR
  have SI := fun W => sumT W tn un (by omega) (by omega)
  have hw1 := hs.whole; have hw2 := ht.whole
  have hai := @add_int (rv s) (rv t)
  unfold addT tq
  clear tn td un ud x0 x1 x2 x3 hs ht
  generalize str (ratL (rv s + rv t)) = r at *
  have KA1 := Lib.hid A1; have KA2 := Lib.hid A2; have KB1 := Lib.hid B1; have KB2 := Lib.hid B2; have KS1 := Lib.hid S1; have KS2 := Lib.hid S2; have KP0 := Lib.hid P0; have KP1 := Lib.hid P1; have KP2 := Lib.hid P2; have KU := Lib.hid SU; have KF := Lib.hid FR
  clear A1 A2 B1 B2 S1 S2 P0 P1 P2 SU FR
  by_cases d1 : (rv s).den = 1
  · rw [decide_eq_true d1] at hv1
    by_cases d2 : (rv t).den = 1
    · rw [decide_eq_true d2] at hv2
      rw [hai d1 d2, hw1 d1, hw2 d2] at SI
      have KI := Lib.hid SI
      clear SI hw1 hw2 hai d1 d2 KA1 KA2 KB1 KB2 KP0 KP1 KP2 KU KF
      go_enter Tryz.func84, Tryz.ntmps84
      go_wp2_with (go_at_call 76; refine (KS1.out _).mono ?_; rintro e w1 ⟨rfl, h⟩; subst h; refine Hid.out ?_)
      refine Lib.hid ?_
      go_wp2_with (go_at_call 76; refine (KS2.out _).mono ?_; rintro e w2 ⟨rfl, h⟩; subst h; refine Hid.out ?_)
      refine Lib.hid ?_
      go_wp2_with (go_at_call 105; refine (KI.out _).mono ?_; rintro e w3 ⟨rfl, hb3⟩; refine Hid.out ?_)
      have hB3 := hb3
      clear hb3
      refine Lib.hid ?_
      go_wp2
      refine bodyPost_ret (v := .string r) (by simp [results, Tryz.results84, go_sem]) rfl ?_
      exact ⟨rfl, hB3⟩
    · rw [decide_eq_false d2] at hv2
      clear SI hw1 hw2 hai d1 d2
      go_enter Tryz.func84, Tryz.ntmps84
      go_wp2_with (go_at_call 76; refine (KS1.out _).mono ?_; rintro e w1 ⟨rfl, h⟩; subst h; refine Hid.out ?_)
      refine Lib.hid ?_
      go_wp2_with (go_at_call 76; refine (KS2.out _).mono ?_; rintro e w2 ⟨rfl, h⟩; subst h; refine Hid.out ?_)
      refine Lib.hid ?_
      go_wp2_with (go_at_call 93; refine (KA1.out _).mono ?_; rintro e w3 ⟨rfl, h⟩; subst h; refine Hid.out ?_)
      refine Lib.hid ?_
      go_wp2_with (go_at_call 41; refine (KB2.out _).mono ?_; rintro e w4 ⟨rfl, h⟩; subst h; refine Hid.out ?_)
      refine Lib.hid ?_
      go_wp2_with (go_at_call 90; refine (KP0.out _).mono ?_; rintro e w5 ⟨rfl, hb5⟩; refine Hid.out ?_)
      have hB5 := hb5
      clear hb5
      refine Lib.hid ?_
      go_wp2_with (go_at_call 93; refine (KB1.out _).mono ?_; rintro e w6 ⟨rfl, h⟩; subst h; refine Hid.out ?_)
      refine Lib.hid ?_
      go_wp2_with (go_at_call 41; refine (KA2.out _).mono ?_; rintro e w7 ⟨rfl, h⟩; subst h; refine Hid.out ?_)
      refine Lib.hid ?_
      go_wp2_with (go_at_call 90; refine (KP1.out _).mono ?_; rintro e w8 ⟨rfl, hb8⟩; refine Hid.out ?_)
      have hB8 := Below.chain hB5 hb8
      clear hb8 hB5
      refine Lib.hid ?_
      go_wp2_with (go_at_call 105; refine (KU.out _).mono ?_; rintro e w9 ⟨rfl, hb9⟩; refine Hid.out ?_)
      have hB9 := Below.chain hB8 hb9
      clear hb9 hB8
      refine Lib.hid ?_
      go_wp2_with (go_at_call 41; refine (KA2.out _).mono ?_; rintro e w10 ⟨rfl, h⟩; subst h; refine Hid.out ?_)
      refine Lib.hid ?_
      go_wp2_with (go_at_call 41; refine (KB2.out _).mono ?_; rintro e w11 ⟨rfl, h⟩; subst h; refine Hid.out ?_)
      refine Lib.hid ?_
      go_wp2_with (go_at_call 90; refine (KP2.out _).mono ?_; rintro e w12 ⟨rfl, hb12⟩; refine Hid.out ?_)
      have hB12 := Below.chain hB9 hb12
      clear hb12 hB9
      refine Lib.hid ?_
      go_wp2_with (go_at_call 92; refine (KF.out _).mono ?_; rintro e w13 ⟨rfl, hb13⟩; refine Hid.out ?_)
      have hB13 := Below.chain hB12 hb13
      clear hb13 hB12
      refine Lib.hid ?_
      go_wp2
      refine bodyPost_ret (v := .string r) (by simp [results, Tryz.results84, go_sem]) rfl ?_
      exact ⟨rfl, hB13⟩
  · rw [decide_eq_false d1] at hv1
    clear SI hw1 hw2 hai d1 hv2
    go_enter Tryz.func84, Tryz.ntmps84
    go_wp2_with (go_at_call 76; refine (KS1.out _).mono ?_; rintro e w1 ⟨rfl, h⟩; subst h; refine Hid.out ?_)
    refine Lib.hid ?_
    go_wp2_with (go_at_call 93; refine (KA1.out _).mono ?_; rintro e w2 ⟨rfl, h⟩; subst h; refine Hid.out ?_)
    refine Lib.hid ?_
    go_wp2_with (go_at_call 41; refine (KB2.out _).mono ?_; rintro e w3 ⟨rfl, h⟩; subst h; refine Hid.out ?_)
    refine Lib.hid ?_
    go_wp2_with (go_at_call 90; refine (KP0.out _).mono ?_; rintro e w4 ⟨rfl, hb4⟩; refine Hid.out ?_)
    have hB4 := hb4
    clear hb4
    refine Lib.hid ?_
    go_wp2_with (go_at_call 93; refine (KB1.out _).mono ?_; rintro e w5 ⟨rfl, h⟩; subst h; refine Hid.out ?_)
    refine Lib.hid ?_
    go_wp2_with (go_at_call 41; refine (KA2.out _).mono ?_; rintro e w6 ⟨rfl, h⟩; subst h; refine Hid.out ?_)
    refine Lib.hid ?_
    go_wp2_with (go_at_call 90; refine (KP1.out _).mono ?_; rintro e w7 ⟨rfl, hb7⟩; refine Hid.out ?_)
    have hB7 := Below.chain hB4 hb7
    clear hb7 hB4
    refine Lib.hid ?_
    go_wp2_with (go_at_call 105; refine (KU.out _).mono ?_; rintro e w8 ⟨rfl, hb8⟩; refine Hid.out ?_)
    have hB8 := Below.chain hB7 hb8
    clear hb8 hB7
    refine Lib.hid ?_
    go_wp2_with (go_at_call 41; refine (KA2.out _).mono ?_; rintro e w9 ⟨rfl, h⟩; subst h; refine Hid.out ?_)
    refine Lib.hid ?_
    go_wp2_with (go_at_call 41; refine (KB2.out _).mono ?_; rintro e w10 ⟨rfl, h⟩; subst h; refine Hid.out ?_)
    refine Lib.hid ?_
    go_wp2_with (go_at_call 90; refine (KP2.out _).mono ?_; rintro e w11 ⟨rfl, hb11⟩; refine Hid.out ?_)
    have hB11 := Below.chain hB8 hb11
    clear hb11 hB8
    refine Lib.hid ?_
    go_wp2_with (go_at_call 92; refine (KF.out _).mono ?_; rintro e w12 ⟨rfl, hb12⟩; refine Hid.out ?_)
    have hB12 := Below.chain hB11 hb12
    clear hb12 hB11
    refine Lib.hid ?_
    go_wp2
    refine bodyPost_ret (v := .string r) (by simp [results, Tryz.results84, go_sem]) rfl ?_
    exact ⟨rfl, hB12⟩

end Go.Proofs.YtjobmkdaaionlaaGreatDoor

/-
  linear: the reference's done, two, Add, Scale.
-/
set_option linter.unusedSimpArgs false
namespace Go.Proofs.YtjobmkdaaionlaaGreatDoor
open Go Go.Proofs Go.RowKit

def doneO (l : List ByteArray) (k : ByteArray) : LOut := if linE l k = 0 then ⟨l, k, 0⟩ else .bad 10

set_option maxHeartbeats 2000000 in
theorem refDone (l : List ByteArray) (k : ByteArray) (ao : Option Addr) (c Bd : Nat) (w : World) (hr : RowB Bd w ao c l) (hz : ∀ s ∈ l, s.size ≤ 1200000) (hk : k.size ≤ 1200000) (hn : l.length ≤ 1200000) :
    Calls Tryz.prog 56 #[.agg #[.slice ao l.length c, .string k]] w (LinRet Bd (doneO l k) w) := by
  have CC := fun (W : World) (hW : Below w.heap.size w W) => refLinCheck l k ao c W (hr.1.mono hW) hz hk hn
  have hcs := linE_cases l k
  obtain ⟨X, Z, B⟩ := entryAB w (.slice ao l.length c) (.string k) (.slice none 0 0) (.string ⟨#[]⟩) 27
  have HR := Lib.hid hr
  unfold doneO
  clear hz hk hn hr
  by_cases h0 : linE l k = 0
  · rw [if_pos h0]
    rw [h0] at CC
    have KC := Lib.hid CC; clear CC hcs h0
    have x0 := X.c0; have x1 := X.c1; have x4 := X.lt
    go_enter Tryz.func56, Tryz.ntmps56
    go_wp2_with (go_at_call 27; refine (KC.out _ B).mono ?_; rintro e w1 ⟨rfl, hb1⟩; refine Hid.out ?_)
    have X1 := X.mono hb1; have Z1 := Z.mono hb1; have B1 := Below.chain B hb1
    clear hb1 X Z B x0 x1 x4
    have x0 := X1.c0; have x1 := X1.c1; have x4 := X1.lt
    have z0' := Z1.c0; have z1 := Z1.c1; have z2 := Z1.f0; have z3 := Z1.f1; have z4 := Z1.lt
    have q := box2 Z1.c0 Z1.c1 (.slice ao l.length c) (.string k)
    have HBB := Lib.hid (below2 (p := w.heap.size + 1) B1 (by omega) (.slice ao l.length c) (.string k))
    clear X1 Z1 B1
    refine Lib.hid ?_
    go_wp2
    obtain ⟨q1, q2⟩ := q
    refine bodyPost_ret (v := .tuple #[.agg #[.slice ao l.length c, .string k], .int .i64 0]) (by simp [results, Tryz.results56, go_sem, q1, q2]) rfl ?_
    exact ⟨ao, c, rfl, HR.out.mono HBB.out, HBB.out⟩
  · rw [if_neg h0]
    rcases hcs with h | h | h | h
    · exact absurd h h0
    all_goals
      rw [h] at CC
      clear h h0
      have KC := Lib.hid CC; clear CC
      have x0 := X.c0; have x1 := X.c1; have x4 := X.lt
      go_enter Tryz.func56, Tryz.ntmps56
      go_wp2_with (go_at_call 27; refine (KC.out _ B).mono ?_; rintro e w1 ⟨rfl, hb1⟩; refine Hid.out ?_)
      have Z1 := Z.mono hb1; have B1 := Below.chain B hb1
      clear hb1 X Z B x0 x1 x4
      have z0' := Z1.c0; have z1 := Z1.c1; have z2 := Z1.f0; have z3 := Z1.f1; have z4 := Z1.lt
      have q := box2 Z1.c0 Z1.c1 (.slice none 0 0) (.string ⟨#[]⟩)
      have HBB := Lib.hid (below2 (p := w.heap.size + 1) B1 (by omega) (.slice none 0 0) (.string ⟨#[]⟩))
      clear Z1 B1
      refine Lib.hid ?_
      go_wp2
      obtain ⟨q1, q2⟩ := q
      refine bodyPost_ret (by simp [results, Tryz.results56, go_sem, q1, q2]; rfl) rfl ?_
      exact ⟨none, 0, rfl, RowB.nil _ _, HBB.out⟩

end Go.Proofs.YtjobmkdaaionlaaGreatDoor

/-
  linear: the reference's Add, Scale.
-/
set_option linter.unusedSimpArgs false
namespace Go.Proofs.YtjobmkdaaionlaaGreatDoor
open Go Go.Proofs Go.RowKit

theorem doneO_expr {l : List ByteArray} {k : ByteArray} {m : Nat} (hm : m ≤ 4096) (hg : ∀ s ∈ l ++ [k], Good m s) (hl : l.length ≤ 32) : doneO l k = exprO l k := by
  unfold doneO exprO
  have e : linE l k = 0 ↔ (l ++ [k]).all shortS = true := by
    unfold linE
    rw [if_neg (by omega), firstE_iff, List.all_eq_true]
    constructor
    · intro h s hs
      exact shortS_num (h s hs)
    · intro h s hs
      rw [numE_good (hg s hs) hm]; exact if_pos (h s hs)
  by_cases h : linE l k = 0
  · rw [if_pos h, if_pos (e.1 h)]
  · rw [if_neg h, if_neg (fun k => h (e.2 k))]
theorem good_sizes {l : List ByteArray} {k : ByteArray} {m : Nat} (h0 : 0 < m) (hm : m ≤ 20000) (hg : ∀ s ∈ l ++ [k], Good m s) : (∀ s ∈ l, s.size ≤ 1200000) ∧ k.size ≤ 1200000 :=
  ⟨fun s hs => (hg s (List.mem_append_left _ hs)).sz2 h0 hm, (hg k (by simp)).sz2 h0 hm⟩
end Go.Proofs.YtjobmkdaaionlaaGreatDoor

/-
  LinearMakes.
-/
set_option linter.unusedSimpArgs false
namespace Go.Proofs.YtjobmkdaaionlaaGreatDoor
open Go Go.Proofs Go.RowKit

theorem exprO_len (l : List ByteArray) (k : ByteArray) : (exprO l k).l.length ≤ l.length := by
  unfold exprO; split
  · exact Nat.le_refl _
  · exact Nat.zero_le _
theorem sameO (o : LOut) (ao bo : Option Addr) (c d : Nat) (p q : Nat) (w : World) (hn : o.l.length ≤ 1200000) (ha : OB w p ao c o) (hb : OB w q bo d o) :
    Calls Tryz.prog 18 #[.agg #[.slice ao o.l.length c, .string o.k], .agg #[.slice bo o.l.length d, .string o.k]] w (Bret (.bool true) w) := sameLin o.l o.k ao bo c d w ha.r hb.r hn

end Go.Proofs.YtjobmkdaaionlaaGreatDoor

