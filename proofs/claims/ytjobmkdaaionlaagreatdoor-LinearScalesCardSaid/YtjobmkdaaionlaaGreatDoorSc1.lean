import Derived.Test.YtjobmkdaaionlaaGreatDoorCut14
import Derived.Test.YtjobmkdaaionlaaGreatDoorRows
import Derived.LaidMore
import Derived.LaidLaws
import Derived.LaidHandle
import Derived.MakeChecks
import Derived.Stop.Joined
import Derived.Stop.LaidErr
import Derived.OpenShut
import Derived.ProofKit
import Derived.DataShut
import Derived.Test.YtjobmkdaaionlaaGreatDoorCut28
import Derived.Test.YtjobmkdaaionlaaGreatDoorCut23
import Derived.Test.YtjobmkdaaionlaaGreatDoorCut30
import Derived.Test.YtjobmkdaaionlaaGreatDoorCut32
import Derived.Test.YtjobmkdaaionlaaGreatDoorCut31
import Derived.Test.YtjobmkdaaionlaaGreatDoorCut33
import Derived.Test.YtjobmkdaaionlaaGreatDoorCut13
import Derived.Test.YtjobmkdaaionlaaGreatDoorCut35
import Derived.Test.YtjobmkdaaionlaaGreatDoorCut34
import Derived.SliceStrings
import Derived.ChangeSlices
import Derived.ChangeMaps5
import Derived.Lib.SmallJoins
import Derived.Test.YtjobmkdaaionlaaGreatDoorOwnRatN
import Derived.Test.YtjobmkdaaionlaaGreatDoorCut36

set_option linter.unusedVariables false
/-
  What the rows' condition on the listed variables gives, and a world that meets it.
-/
namespace Go.Proofs.YtjobmkdaaionlaaGreatDoor
open Go Go.Proofs Go.RowKit

theorem len_le {s : ByteArray} (h : s.size ≤ maxLen) : s.size ≤ 9223372036854775807 := by unfold maxLen at h; omega
end Go.Proofs.YtjobmkdaaionlaaGreatDoor

/-
  The reference: Common, Coefficients.
-/
namespace Go.Proofs.YtjobmkdaaionlaaGreatDoor
open Go Go.Proofs Go.RowKit

/-- The sizes of the numbers on the way. -/
theorem txt_prod {m n : Nat} {a b : ByteArray} {x y : Int} (ha : Txt m a x) (hb : Txt n b y) : Txt (m + n) (str (Lib.itoa (x * y))) (x * y) := Txt.of (Nat.le_trans (mul_len' x y) (Nat.add_le_add ha.len hb.len))
theorem txt_fdiv {m : Nat} {a : ByteArray} {x y : Int} (ha : Txt m a x) (hy : y ≠ 0) : Txt m (str (Lib.itoa (x.fdiv y))) (x.fdiv y) := Txt.of (Nat.le_trans (div_len x y (fdiv_le x y hy)) ha.len)
theorem txt_sub {m n : Nat} {a b : ByteArray} {x y : Int} (ha : Txt m a x) (hb : Txt n b y) : Txt (m + n + 1) (str (Lib.itoa (x - y))) (x - y) := by
  refine Txt.ofLt (by omega) ?_
  have h1 : (x - y).natAbs ≤ x.natAbs + y.natAbs := by omega
  have h2 := ha.lt; have h3 := hb.lt
  have h4 : 10 ^ m ≤ 10 ^ (m + n) := Nat.pow_le_pow_right (by decide) (by omega)
  have h5 : 10 ^ n ≤ 10 ^ (m + n) := Nat.pow_le_pow_right (by decide) (by omega)
  rw [Nat.pow_succ]
  omega
theorem fdivT {m n : Nat} {a b : ByteArray} {x y : Int} (W : World) (ha : Txt m a x) (hb : Txt n b y) (hm : m ≤ 9000000) (hn : n ≤ 9000000) (hy : y ≠ 0) : Calls Tryz.prog 89 #[.string a, .string b] W (Bret (.string (str (Lib.itoa (x.fdiv y)))) W) :=
  refFloorI a b x y W ha.text hb.text (by have := ha.size; omega) (by have := hb.size; omega) hy
theorem prodT {m n : Nat} {a b : ByteArray} {x y : Int} (W : World) (ha : Txt m a x) (hb : Txt n b y) (hm : m ≤ 9000000) (hn : n ≤ 9000000) : Calls Tryz.prog 90 #[.string a, .string b] W (Bret (.string (str (Lib.itoa (x * y)))) W) :=
  refProductI a b x y W ha.text hb.text (by have := ha.size; omega) (by have := hb.size; omega)
end Go.Proofs.YtjobmkdaaionlaaGreatDoor

/-
  linear: texts of numbers, their sums and products.
-/
namespace Go.Proofs.YtjobmkdaaionlaaGreatDoor
open Go Go.Proofs Go.RowKit

theorem rv_add (s t : ByteArray) : rv (addT s t) = rv s + rv t := rv_tq _
theorem rv0 : rv ⟨#[48]⟩ = 0 := by rw [← tq0]; exact rv_tq 0
end Go.Proofs.YtjobmkdaaionlaaGreatDoor

/-
  linear: Scale, Constant, Variable.
-/
set_option linter.unusedSimpArgs false
namespace Go.Proofs.YtjobmkdaaionlaaGreatDoor
open Go Go.Proofs Go.RowKit

theorem entryAB (w : World) (u v x y : Value) (T : TypeId) : Bx2 ((w.alloc (Obj.cells #[u, v] T)).alloc (Obj.cells #[x, y] T)) w.heap.size u v ∧ Bx2 ((w.alloc (Obj.cells #[u, v] T)).alloc (Obj.cells #[x, y] T)) (w.heap.size + 1) x y ∧ Below w.heap.size w ((w.alloc (Obj.cells #[u, v] T)).alloc (Obj.cells #[x, y] T)) := entry2 w u v x y T
/-- The error of an expression and a number. -/
def scaleO (l : List ByteArray) (k x : ByteArray) : LOut :=
  if linE l k = 0 then (if numE (bytes x) = 0 then exprO (l.map fun s => mulT s x) (mulT k x) else .bad (numE (bytes x))) else .bad (linE l k)

set_option maxHeartbeats 4000000 in
theorem linScale (l : List ByteArray) (k : ByteArray) (ao : Option Addr) (c : Nat) (x : ByteArray) (w : World)
    (hr : SRow w ao c l) (hz : ∀ s ∈ l ++ [k], s.size ≤ 1200000) (hn : l.length ≤ 1200000) (hx : x.size ≤ 1200000) (htab : Lib.TabIs Tryz.prog w "internal/strconv.uint64pow10" .u64 Lib.pow10Tab) :
    Calls Tryz.prog 30 #[.agg #[.slice ao l.length c, .string k], .string x] w (LinRet w.heap.size (scaleO l k x) w) := by
  have hT := Lib.tabBelow_of_tabIs htab
  have CH := fun (W : World) (hW : Below w.heap.size w W) => linCheck l k ao c W (hr.mono hW) hz hn (hT.on hW).here
  have CX := fun (W : World) (hW : Below w.heap.size w W) => checkNumber x W hx (hT.on hW).here
  have CA := fun (W : World) (hW : Below w.heap.size w W) => numbersN l k ao c W (hr.mono hW) hn
  have hcs := linE_cases l k
  have hcx := numE_cases (bytes x)
  obtain ⟨X, Z, B⟩ := entry2 w (.slice ao l.length c) (.string k) (.slice none 0 0) (.string ⟨#[]⟩) 27
  unfold scaleO
  by_cases h0 : linE l k = 0
  · rw [if_pos h0]
    obtain ⟨g1, g2⟩ := linE_zero h0
    rw [h0] at CH
    by_cases h1 : numE (bytes x) = 0
    · rw [if_pos h1]
      have gx := good_of_numE h1
      rw [h1] at CX
      have CM : ∀ (W : World) (gb cb : Nat), Below w.heap.size w W → SRow W (some ⟨gb, 0, none⟩) cb (l ++ [k]) → Calls Tryz.prog 68 #[.slice (some ⟨gb, 0, none⟩) (l ++ [k]).length cb, .string x] W fun e w' => ∃ g, e = .returned (.slice (some ⟨g, 0, none⟩) (l.length + 1) (l.length + 1)) ∧ SRow w' (some ⟨g, 0, none⟩) (l.length + 1) ((l.map fun s => mulT s x) ++ [mulT k x]) ∧ W.heap.size ≤ g ∧ Below W.heap.size W w' := fun W gb cb hW r =>
        (multiple_any (l ++ [k]) x (some ⟨gb, 0, none⟩) cb 100 100 W r (by simp; omega) g2 gx (by decide) (hT.on hW).here).mono fun e w' ⟨g, h1, h2, h3, h4⟩ => by
          rw [List.map_append] at h2
          exact ⟨g, by rw [h1]; simp, h2.row (by simp) (by omega), h3, h4⟩
      have CE : ∀ (W : World) (g : Nat), Below w.heap.size w W → w.heap.size + 1 < g → SRow W (some ⟨g, 0, none⟩) (l.length + 1) ((l.map fun s => mulT s x) ++ [mulT k x]) → Calls Tryz.prog 46 #[.slice (some ⟨g, 0, none⟩) (l.length + 1) (l.length + 1)] W (LinRet (w.heap.size + 1 + 1) (exprO (l.map fun s => mulT s x) (mulT k x)) W) := fun W g hW hg r => by
        have gg : ∀ s ∈ (l.map fun s => mulT s x) ++ [mulT k x], Good 200 s := by
          have := map_good g2 gx
          rwa [List.map_append] at this
        have := expression_any (l.map fun s => mulT s x) (mulT k x) (some ⟨g, 0, none⟩) (l.length + 1) W r (good_sz gg (by decide)) (by simp; omega) (w.heap.size + 1 + 1) (fun a ha => by cases ha; exact hg)
        rwa [List.length_map] at this
      clear hr hz hn hx htab hT hcs h0 h1 g2 gx hcx
      generalize exprO (l.map fun s => mulT s x) (mulT k x) = O at *
      generalize (l.map fun s => mulT s x) ++ [mulT k x] = m3 at *
      have e1 : (l ++ [k]).length = l.length + 1 := by simp
      unfold NumRet at CA
      rw [e1] at CA CM
      generalize l ++ [k] = m1 at *
      clear e1
      generalize l.length = n at *
      have KH := Lib.hid CH; have KX := Lib.hid CX; have KA := Lib.hid CA; have KM := Lib.hid CM; have KE := Lib.hid CE; clear CH CX CA CM CE
      go_enter Tryz.func30, Tryz.ntmps30
      go_wp2_with (go_at_call 26; refine (KH.out _ B).mono ?_; rintro e w1 ⟨rfl, hb1⟩; refine Hid.out ?_)
      have X1 := X.mono hb1; have Z1 := Z.mono hb1; have hB1 := Below.chain B hb1
      clear hb1 X Z B
      refine Lib.hid ?_
      go_wp2_with (go_at_call 45; refine (KX.out _ hB1).mono ?_; rintro e w2 ⟨rfl, hb2⟩; refine Hid.out ?_)
      have X2 := X1.mono hb2; have Z2 := Z1.mono hb2; have hB2 := Below.chain hB1 hb2
      clear hb2 X1 Z1 hB1
      have x0 := X2.c0; have x1 := X2.c1; have xl := X2.lt
      refine Lib.hid ?_
      go_wp2_with (go_at_call 54; refine (KA.out _ hB2).mono ?_; rintro e w3 ⟨ga, ca, rfl, -, ra, -, -, -, hb3⟩; refine Hid.out ?_)
      have Z3 := Z2.mono hb3; have hB3 := Below.chain hB2 hb3
      clear hb3 X2 Z2 hB2 x0 x1 xl
      refine Lib.hid ?_
      go_wp2_with (go_at_call 68; refine (KM.out _ ga ca hB3 ra).mono ?_; rintro e w4 ⟨gz, rfl, rz, hgz, hb4⟩; refine Hid.out ?_)
      have hgz2 := Nat.lt_of_lt_of_le Z3.lt hgz
      have Z4 := Z3.mono hb4; have hB4 := Below.chain hB3 hb4
      clear hb4 Z3 hB3 hgz ra
      refine Lib.hid ?_
      go_wp2_with (go_at_call 46; refine (KE.out _ gz hB4 hgz2 rz).mono ?_; rintro e w5 ⟨ae, ce, rfl, re, hb5⟩; refine Hid.out ?_)
      have Z5 := Z4.mono hb5; have hB5 := Below.chain hB4 hb5
      have z0 := Z5.c0; have z1 := Z5.c1; have z2 := Z5.f0; have z3 := Z5.f1; have z4 := Z5.lt
      have HR := Lib.hid ((re.set (p := w.heap.size + 1) (by omega) 0 (.slice ae O.l.length ce)).set (p := w.heap.size + 1) (by omega) 1 (.string O.k))
      have HBB := Lib.hid (below2 (p := w.heap.size + 1) hB5 (by omega) (.slice ae O.l.length ce) (.string O.k))
      have q := box2 Z5.c0 Z5.c1 (.slice ae O.l.length ce) (.string O.k)
      clear hb5 Z4 hB4 Z5 hB5 rz re
      refine Lib.hid ?_
      go_wp2
      obtain ⟨q1, q2⟩ := q
      refine bodyPost_ret (v := .tuple #[.agg #[.slice ae O.l.length ce, .string O.k], .int .i64 (O.e : Nat)]) (by simp [results, Tryz.results30, go_sem, q1, q2]) rfl ?_
      exact ⟨ae, ce, rfl, HR.out.lower (by omega), HBB.out⟩
    · rw [if_neg h1]
      clear hr hz hn hx htab hT hcs h0 g1 g2 CA
      generalize l.length = n at *
      rcases hcx with h | h | h
      · exact absurd h h1
      all_goals
        rw [h] at CX ⊢
        clear h h1
        have KH := Lib.hid CH; have KX := Lib.hid CX; clear CH CX
        go_enter Tryz.func30, Tryz.ntmps30
        go_wp2_with (go_at_call 26; refine (KH.out _ B).mono ?_; rintro e w1 ⟨rfl, hb1⟩; refine Hid.out ?_)
        have Z1 := Z.mono hb1; have hB1 := Below.chain B hb1
        clear hb1 X Z B
        refine Lib.hid ?_
        go_wp2_with (go_at_call 45; refine (KX.out _ hB1).mono ?_; rintro e w2 ⟨rfl, hb2⟩; refine Hid.out ?_)
        have Z2 := Z1.mono hb2; have hB2 := Below.chain hB1 hb2
        have z0 := Z2.c0; have z1 := Z2.c1; have z2 := Z2.f0; have z3 := Z2.f1; have z4 := Z2.lt
        have q := box2 Z2.c0 Z2.c1 (.slice none 0 0) (.string ⟨#[]⟩)
        have HBB := Lib.hid (below2 (p := w.heap.size + 1) hB2 (by omega) (.slice none 0 0) (.string ⟨#[]⟩))
        clear hb2 Z1 hB1 Z2 hB2
        refine Lib.hid ?_
        go_wp2
        obtain ⟨q1, q2⟩ := q
        refine bodyPost_ret (by simp [results, Tryz.results30, go_sem, q1, q2]; rfl) rfl ?_
        exact ⟨none, 0, rfl, RowB.nil _ _, HBB.out⟩
  · rw [if_neg h0]
    clear hr hz hn hx htab hT CA CX hcx
    generalize l.length = n at *
    rcases hcs with h | h | h | h
    · exact absurd h h0
    all_goals
      rw [h] at CH ⊢
      clear h h0
      have KH := Lib.hid CH; clear CH
      go_enter Tryz.func30, Tryz.ntmps30
      go_wp2_with (go_at_call 26; refine (KH.out _ B).mono ?_; rintro e w1 ⟨rfl, hb1⟩; refine Hid.out ?_)
      have Z1 := Z.mono hb1; have hB1 := Below.chain B hb1
      have z0 := Z1.c0; have z1 := Z1.c1; have z2 := Z1.f0; have z3 := Z1.f1; have z4 := Z1.lt
      have q := box2 Z1.c0 Z1.c1 (.slice none 0 0) (.string ⟨#[]⟩)
      have HBB := Lib.hid (below2 (p := w.heap.size + 1) hB1 (by omega) (.slice none 0 0) (.string ⟨#[]⟩))
      clear hb1 X Z B Z1 hB1
      refine Lib.hid ?_
      go_wp2
      obtain ⟨q1, q2⟩ := q
      refine bodyPost_ret (by simp [results, Tryz.results30, go_sem, q1, q2]; rfl) rfl ?_
      exact ⟨none, 0, rfl, RowB.nil _ _, HBB.out⟩

end Go.Proofs.YtjobmkdaaionlaaGreatDoor

/-
  A region that draws its order: loads may be taken first though hot operations write their cells, if these wait for the loads; what yields in every world may be taken first at any time.
-/
namespace Go.Proofs.YtjobmkdaaionlaaGreatDoor
open Go Go.Proofs Go.RowKit

section
variable {P : Program} {ops : Array Oper} {Q : Exit → Act → World → Prop} {md : Region.Mode} {S : World → Prop} {hot : Nat → Bool}

theorem wp_region_hot {id : Nat} {a : Act} {w : World} (hot : Nat → Bool) (S : World → Prop) (hm : P.follows .mixedOrders = true) (hS : S w.drew)
    (h : S w.drew → wpAnyM P .any ops Q S hot ops.size (Array.replicate ops.size false) a w.drew) : (Code.region id ops true).wp P Q a w :=
  wp_region_any hm (any_of_hot _ _ _ _ (h hS))
end
end Go.Proofs.YtjobmkdaaionlaaGreatDoor

/-
  linear: the reference's One, Constant, Variable, FewText.
-/
set_option linter.unusedSimpArgs false
namespace Go.Proofs.YtjobmkdaaionlaaGreatDoor
open Go Go.Proofs Go.RowKit

theorem shortS_num {s : ByteArray} (h : numE (bytes s) = 0) : shortS s = true := (numE_zero h).2
def fewT (s : ByteArray) : Bool := decide (s.size ≤ 450)
set_option maxHeartbeats 1000000 in
theorem fewText (s : ByteArray) (w : World) : Calls Tryz.prog 12 #[.string s] w fun e w' => e = .returned (.bool (fewT s)) ∧ w' = w := by
  unfold fewT
  by_cases h : s.size ≤ 450
  all_goals
    go_enter Tryz.func12, Tryz.ntmps12
    go_wp2
    refine bodyPost_ret (v := .bool (decide (s.size ≤ 450))) (by simp [results, Tryz.results12, go_sem] <;> omega) rfl ?_
    exact ⟨rfl, rfl⟩
end Go.Proofs.YtjobmkdaaionlaaGreatDoor

/-
  linear: the reference's Few.
-/
set_option linter.unusedSimpArgs false
namespace Go.Proofs.YtjobmkdaaionlaaGreatDoor
open Go Go.Proofs Go.RowKit

def fewL (l : List ByteArray) (k : ByteArray) : Bool := decide (l.length ≤ 40) && (fewT k && l.all fewT)
theorem all_drop (l : List ByteArray) (j : Nat) (h : j < l.length) : (l.drop j).all fewT = (fewT l[j] && (l.drop (j + 1)).all fewT) := by
  rw [List.drop_eq_getElem_cons h, List.all_cons]

set_option maxHeartbeats 2000000 in
theorem refFew (l : List ByteArray) (k : ByteArray) (ao : Option Addr) (c : Nat) (w : World) (hr : SRow w ao c l) (hm : (l.length : Int) ≤ 9223372036854775807) :
    Calls Tryz.prog 19 #[.agg #[.slice ao l.length c, .string k]] w (Bret (.bool (fewL l k)) w) := by
  have CK := fun (W : World) => fewText k W
  have X := Bx2.new w (.slice ao l.length c) (.string k) 27
  have B : Below w.heap.size w (w.alloc (Obj.cells #[.slice ao l.length c, .string k] 27)) := (Below.refl _ _).alloc (Nat.le_refl _) _
  have x0 := X.c0; have x1 := X.c1; have x4 := X.lt
  have hga : ∀ W, Below w.heap.size w W → ∀ j (hj : j < l.length), ∃ b off, ao = some ⟨b, off, none⟩ ∧ b < W.heap.size ∧ W.cell? ⟨b, off + j, none⟩ = some (.string (l[j]'hj)) := fun W hW => (hr.mono hW).get
  have HA := Lib.hid hga; clear hga hr
  have HB := Lib.hid B; have HX := Lib.hid X; clear B X
  unfold fewL
  by_cases h1 : l.length ≤ 40
  · rw [decide_eq_true h1, Bool.true_and]
    cases hk : fewT k
    · rw [hk] at CK
      rw [Bool.false_and]
      have KK := Lib.hid CK; clear CK hk
      have h1' : (l.length : Int) ≤ 40 := by omega
      go_enter Tryz.func19, Tryz.ntmps19
      go_wp2_with (go_at_call 12; refine (KK.out _).mono ?_; rintro e w1 ⟨rfl, h⟩; subst h; refine Hid.out ?_)
      refine Lib.hid ?_
      go_wp2
      refine bodyPost_ret (v := .bool false) (by simp [results, Tryz.results19, go_sem]) rfl ?_
      exact ⟨rfl, HB.out⟩
    · rw [hk] at CK
      rw [Bool.true_and]
      have KK := Lib.hid CK; clear CK hk
      have h1' : (l.length : Int) ≤ 40 := by omega
      go_enter Tryz.func19, Tryz.ntmps19
      go_wp2_with (go_at_call 12; refine (KK.out _).mono ?_; rintro e w1 ⟨rfl, h⟩; subst h; refine Hid.out ?_)
      refine Lib.hid ?_
      go_wp2_with fail
      clear x0 x1 x4
      go_loopw [3] (fun iv wr => ∃ j : Nat, j ≤ l.length ∧ iv = .int .i64 (j : Int) ∧ l.all fewT = (l.drop j).all fewT ∧ Bx2 wr w.heap.size (.slice ao l.length c) (.string k) ∧ Below w.heap.size w wr) (fun iv _ => l.length - (intOf iv).toNat)
      case atStart => exact ⟨0, Nat.zero_le _, rfl, by rw [List.drop_zero], HX.out, HB.out⟩
      case round =>
        obtain ⟨j, hj, rfl, he, hx, hbw⟩ := hrel
        have x0 := hx.c0; have x1 := hx.c1; have x4 := hx.lt
        have HBW := Lib.hid hbw; have HXR := Lib.hid hx; have HE := Lib.hid he
        by_cases hlt : j < l.length
        · obtain ⟨b1, o1, rfl, -, k1⟩ := HA.out wr hbw j hlt
          have hd := all_drop l j hlt
          have CJ := fun (W : World) => fewText (l[j]'hlt) W
          generalize l[j]'hlt = sj at *
          have hj0 : (0 : Int) ≤ (j : Int) := by omega
          have hj1 : (j : Int) < (l.length : Int) := by omega
          cases hf : fewT sj
          · rw [hf] at CJ hd
            rw [Bool.false_and] at hd
            have hres := Lib.hid (he.trans hd)
            have KJ := Lib.hid CJ; clear CJ hd hf hbw hx he
            go_wp2_with (go_at_call 12; refine (KJ.out _).mono ?_; rintro e w1 ⟨rfl, h⟩; subst h; refine Hid.out ?_)
            refine Lib.hid ?_
            go_wp2
            go_ret
            exact ⟨by rw [hres.out]; rfl, HBW.out⟩
          · rw [hf] at CJ hd
            rw [Bool.true_and] at hd
            have hres := Lib.hid (he.trans hd)
            have KJ := Lib.hid CJ; clear CJ hd hf hbw hx he
            go_wp2_with (go_at_call 12; refine (KJ.out _).mono ?_; rintro e w1 ⟨rfl, h⟩; subst h; refine Hid.out ?_)
            refine Lib.hid ?_
            go_wp2
            go_roundw
            case rel => exact ⟨j + 1, by omega, by go_num, hres.out, HXR.out, HBW.out⟩
            case measure => simp [intOf]; omega
        · have hjn : j = l.length := by omega
          subst hjn
          have hres := Lib.hid (he.trans (by rw [List.drop_length]; rfl : (l.drop l.length).all fewT = true))
          clear hbw hx he
          go_wp2
          go_ret
          exact ⟨by rw [hres.out]; rfl, HBW.out⟩
  · rw [decide_eq_false h1, Bool.false_and]
    have h1' : (40 : Int) < (l.length : Int) := by omega
    clear CK
    go_enter Tryz.func19, Tryz.ntmps19
    go_wp2
    refine bodyPost_ret (v := .bool false) (by simp [results, Tryz.results19, go_sem]) rfl ?_
    exact ⟨rfl, HB.out⟩
end Go.Proofs.YtjobmkdaaionlaaGreatDoor

/-
  A linear expression by value, opened; lists of numbers as arguments.
-/
namespace Go.Proofs.YtjobmkdaaionlaaGreatDoor
open Go Go.Proofs Go.RowKit Go.ChangeShapes Go.WideShapes Go.ChangeMaps

theorem fewL_spec {l : List ByteArray} {k : ByteArray} (h : fewL l k = true) : l.length ≤ 40 ∧ ∀ s ∈ l ++ [k], s.size ≤ 450 := by
  unfold fewL fewT at h
  rw [Bool.and_eq_true, Bool.and_eq_true, decide_eq_true_eq, decide_eq_true_eq, List.all_eq_true] at h
  refine ⟨h.1, fun s hs => ?_⟩
  rcases List.mem_append.1 hs with q | q
  · exact of_decide_eq_true (h.2.2 s q)
  · rw [List.mem_singleton.1 q]; exact h.2.1

section
variable {H : Type} {enc : TypeId × Value → H} {P : Program} {w : World}
theorem open_linear {r : Reach} {b0 : Nat} {t e : TypeId} {f0 f1 : Field} {v : Value} {d : DataW H} {ps : List MemPlace} (ht : P.underlying t = some (.struct #[f0, f1])) (hone : Go.Deep.oneCellFields P #[f0, f1] = true) (hC : P.cellsOf t = 2)
    (h0 : P.underlying f0.type = some (.slice e)) (he : P.underlying e = some .string) (hc : P.cellsOf e = 1) (h1 : P.underlying f1.type = some .string)
    (hv : Value.okWide P w r b0 t v) (h : DataW.Trod enc P w 0 (fun _ => true) true t v d ps) :
    ∃ (ao : Option Addr) (c : Nat) (l : List ByteArray) (k : ByteArray), v = .agg #[.slice ao l.length c, .string k] ∧ SRow w ao c l ∧ (∀ s ∈ l ++ [k], s.size ≤ 9223372036854775807) ∧ l.length ≤ 9223372036854775807 := by
  obtain ⟨v0, v1, y0, y1, n, rfl, -, -, g0, g1⟩ := Go.Joins.open_agg2 ht hone hC hv h
  obtain ⟨ao, c, l, rfl, r, hs, hl⟩ := SRow.open h0 he hc g0
  obtain ⟨k, e1, -, k1⟩ := DataW.trod_string h1 g1
  cases e1
  refine ⟨ao, c, l, k, rfl, r, fun s h => ?_, hl⟩
  rcases List.mem_append.1 h with q | q
  · exact hs s q
  · rw [List.mem_singleton.1 q]; exact k1
theorem open_rats {r : Reach} {b0 : Nat} {t e : TypeId} {v : Value} {d : DataW H} {ps : List MemPlace} (ht : P.underlying t = some (.slice e)) (he : P.underlying e = some .string) (hc : P.cellsOf e = 1)
    (hv : Value.okWide P w r b0 t v) (h : DataW.Trod enc P w 0 (fun _ => true) true t v d ps) :
    ∃ (ao : Option Addr) (c : Nat) (l : List ByteArray), v = .slice ao l.length c ∧ SRow w ao c l ∧ (∀ s ∈ l, s.size ≤ 9223372036854775807) ∧ l.length ≤ 9223372036854775807 := by
  obtain ⟨a, n, c, rfl⟩ := okWide_slice ht hv
  obtain ⟨fuel, hf⟩ := h
  exact SRow.open ht he hc (by simpa [Value.cells] using hf)
end
end Go.Proofs.YtjobmkdaaionlaaGreatDoor

/-
  Mathematics: where a sum of products of short numbers becomes too long on the way, the whole sum isn't short.
-/
set_option linter.unusedSimpArgs false
namespace Go.Proofs.YtjobmkdaaionlaaGreatDoor
open Go Go.Proofs Go.RowKit

theorem den_add_dvd (p q : Rat) : (p + q).den ∣ p.den * q.den := by
  rw [← divInt_add p q, Rat.den_divInt, if_neg (den_mul_ne p q)]
  have e : ((p.den : Int) * q.den).natAbs = p.den * q.den := by rw [Int.natAbs_mul, Int.natAbs_natCast, Int.natAbs_natCast]
  rw [e]
  refine Nat.div_dvd_of_dvd ?_
  have := Int.gcd_dvd_natAbs_left ((p.den : Int) * q.den) (p.num * q.den + q.num * p.den)
  rwa [e] at this
theorem den_add_le (p q : Rat) : (p + q).den ≤ p.den * q.den := Nat.le_of_dvd (Nat.mul_pos p.den_pos q.den_pos) (den_add_dvd p q)
/-- The magnitude is at most M. -/
def Mag (M : Nat) (q : Rat) : Prop := q.num.natAbs ≤ M * q.den
theorem Mag.add {M N : Nat} {p q : Rat} (hp : Mag M p) (hq : Mag N q) : Mag (M + N) (p + q) := by
  unfold Mag at *
  have h0 : (((p + q).den : Nat) : Int) ≠ 0 := by have := (p + q).den_nz; omega
  have e := divInt_add p q
  rw [← Rat.num_divInt_den (p + q), Rat.divInt_eq_divInt_iff (den_mul_ne p q) h0] at e
  have e2 := congrArg Int.natAbs e
  rw [Int.natAbs_mul, Int.natAbs_mul, Int.natAbs_mul, Int.natAbs_natCast, Int.natAbs_natCast, Int.natAbs_natCast] at e2
  have h1 : (p.num * q.den + q.num * p.den).natAbs ≤ (M + N) * (p.den * q.den) := by
    refine Nat.le_trans (Int.natAbs_add_le _ _) ?_
    rw [Int.natAbs_mul, Int.natAbs_mul, Int.natAbs_natCast, Int.natAbs_natCast, Nat.add_mul]
    refine Nat.add_le_add ?_ ?_
    · rw [← Nat.mul_assoc]; exact Nat.mul_le_mul_right _ hp
    · rw [Nat.mul_comm p.den, ← Nat.mul_assoc]; exact Nat.mul_le_mul_right _ hq
  have h2 : (p + q).num.natAbs * (p.den * q.den) ≤ ((M + N) * (p + q).den) * (p.den * q.den) := by
    rw [← e2, Nat.mul_right_comm]
    exact Nat.mul_le_mul_right _ h1
  exact Nat.le_of_mul_le_mul_right h2 (Nat.mul_pos p.den_pos q.den_pos)
theorem Mag.mono {M N : Nat} {q : Rat} (h : Mag M q) (hm : M ≤ N) : Mag N q := Nat.le_trans h (Nat.mul_le_mul_right _ hm)
theorem Mag.of {k : Nat} {q : Rat} (h : RZ k q) : Mag (10 ^ k) q := by
  unfold Mag
  have h1 := h.num
  unfold Sz at h1
  exact Nat.le_trans (Nat.le_of_lt h1) (Nat.le_mul_of_pos_right _ q.den_pos)
section
variable {α : Type} (f : α → Rat)
/-- A sum of terms on top of a. -/
def sumF (a : Rat) (pre : List α) : Rat := pre.foldl (fun v x => v + f x) a
theorem sumF_cons (a : Rat) (x : α) (pre : List α) : sumF f a (x :: pre) = sumF f (a + f x) pre := rfl
theorem sumF_append (a : Rat) (s t : List α) : sumF f a (s ++ t) = sumF f (sumF f a s) t := List.foldl_append ..
theorem sumF_zero : ∀ (pre : List α) (a : Rat), sumF f a pre = a + sumF f 0 pre
  | [], a => (Rat.add_zero a).symm
  | x :: pre, a => by rw [sumF_cons, sumF_cons, sumF_zero pre (a + f x), sumF_zero pre (0 + f x), Rat.zero_add, Rat.add_assoc]
theorem sumF_den {k : Nat} : ∀ (pre : List α) (a : Rat), (∀ x ∈ pre, RZ k (f x)) → (sumF f a pre).den ≤ a.den * 10 ^ (k * pre.length)
  | [], a, _ => by simp [sumF]
  | x :: pre, a, h => by
    rw [sumF_cons]
    refine Nat.le_trans (sumF_den pre (a + f x) (fun y hy => h y (List.mem_cons_of_mem _ hy))) ?_
    have hx := (h x (List.mem_cons_self ..)).den
    unfold Sz at hx
    rw [Int.natAbs_natCast] at hx
    have h1 : (a + f x).den ≤ a.den * 10 ^ k := Nat.le_trans (den_add_le _ _) (Nat.mul_le_mul_left _ (Nat.le_of_lt hx))
    rw [List.length_cons, Nat.mul_succ, Nat.add_comm, Nat.pow_add, ← Nat.mul_assoc]
    exact Nat.mul_le_mul_right _ h1
theorem sumF_mag {k : Nat} : ∀ (pre : List α) (a : Rat) (A : Nat), Mag A a → (∀ x ∈ pre, RZ k (f x)) → Mag (A + pre.length * 10 ^ k) (sumF f a pre)
  | [], a, A, ha, _ => by simpa [sumF] using ha
  | x :: pre, a, A, ha, h => by
    rw [sumF_cons]
    have := sumF_mag pre (a + f x) (A + 10 ^ k) (ha.add (Mag.of (h x (List.mem_cons_self ..)))) (fun y hy => h y (List.mem_cons_of_mem _ hy))
    refine this.mono ?_
    rw [List.length_cons, Nat.succ_mul]
    omega
end
theorem fits_lt {z : Int} {k : Nat} (h : z.natAbs < 10 ^ k) (h0 : 0 < k) (hk : k ≤ 4096) : Fits z := Nat.not_lt.2 (Nat.le_trans (decDigits_length_le _ k h0 h) hk)
theorem addF_small {p q : Rat} {a b k : Nat} (ha : p.num.natAbs < 10 ^ a) (hb : p.den < 10 ^ b) (hq : RZ k q) (h1 : 0 < k) (h2 : a + k + 1 ≤ 4096) (h3 : b + k ≤ a + k) : addF p q = true := by
  have hn := hq.num; have hd := hq.den
  unfold Sz at hn hd
  rw [Int.natAbs_natCast] at hd
  have m1 : (p.num * q.den).natAbs < 10 ^ (a + k) := by rw [Int.natAbs_mul, Int.natAbs_natCast, Nat.pow_add]; exact Nat.mul_lt_mul'' ha hd
  have m2 : (q.num * p.den).natAbs < 10 ^ (a + k) := by
    rw [Int.natAbs_mul, Int.natAbs_natCast, Nat.mul_comm]
    refine Nat.lt_of_lt_of_le (Nat.mul_lt_mul'' hb hn) ?_
    rw [← Nat.pow_add]
    exact Nat.pow_le_pow_right (by decide) h3
  have m3 : (p.num * q.den + q.num * p.den).natAbs < 10 ^ (a + k + 1) := by
    refine Nat.lt_of_le_of_lt (Int.natAbs_add_le _ _) ?_
    rw [Nat.pow_succ]
    omega
  have m4 : ((p.den : Int) * q.den).natAbs < 10 ^ (a + k) := by
    rw [Int.natAbs_mul, Int.natAbs_natCast, Int.natAbs_natCast]
    refine Nat.lt_of_lt_of_le (Nat.mul_lt_mul'' hb hd) ?_
    rw [← Nat.pow_add]
    exact Nat.pow_le_pow_right (by decide) h3
  unfold addF
  rw [decide_eq_true (fits_lt m1 (by omega) (by omega)), decide_eq_true (fits_lt m2 (by omega) (by omega)), decide_eq_true (fits_lt m3 (by omega) (by omega)), decide_eq_true (fits_lt m4 (by omega) (by omega))]
  rfl

theorem sumQ_F (l : List ByteArray) (k : ByteArray) (p : List ByteArray) (pre : List (Fin l.length)) : sumQ l k p pre = sumF (fun x : Fin l.length => rv (l.getD x.val ⟨#[]⟩) * rv (p.getD x.val ⟨#[]⟩)) (rv k) pre := rfl
theorem eval_bad {l : List ByteArray} {k : ByteArray} {p : List ByteArray} (hg : ∀ s ∈ l ++ [k], Good 100 s) (hp : ∀ s ∈ p, Good 100 s) (hlen : l.length = p.length) (hl : l.length ≤ 32) (pre : List (Fin l.length)) (x : Fin l.length)
    (hpre : pre ++ [x] <+: nz l) (hadd : addF (sumQ l k p pre) (rv (l.getD x.val ⟨#[]⟩) * rv (p.getD x.val ⟨#[]⟩)) = false) : shortQ (sumQ l k p (nz l)) = false := by
  have ht : ∀ y : Fin l.length, RZ 200 (rv (l.getD y.val ⟨#[]⟩) * rv (p.getD y.val ⟨#[]⟩)) := fun y => by
    have hy := y.isLt
    rw [getD_get l hy, getD_get p (by omega)]
    exact (hg _ (List.mem_append_left _ (List.getElem_mem hy))).rz.mul (hp _ (List.getElem_mem (by omega))).rz
  obtain ⟨rest, hr⟩ := hpre
  have hnz : (nz l).length ≤ 32 := Nat.le_trans (nzTo_len l l.length) hl
  rw [← hr] at hnz ⊢
  cases hs : shortQ (sumQ l k p (pre ++ [x] ++ rest)) with
  | false => rfl
  | true =>
    exfalso
    rw [List.append_assoc] at hs
    have hlens : pre.length + (x :: rest).length ≤ 32 := by simp at hnz ⊢; omega
    rw [sumQ_F, sumF_append, sumF_zero] at hs
    rw [sumQ_F] at hadd
    have hk := (hg k (by simp)).rz
    have hkd := hk.den
    unfold Sz at hkd
    rw [Int.natAbs_natCast] at hkd
    have d1 := sumF_den (k := 200) (fun x : Fin l.length => rv (l.getD x.val ⟨#[]⟩) * rv (p.getD x.val ⟨#[]⟩)) pre (rv k) (fun y _ => ht y)
    have d2 := sumF_den (k := 200) (fun x : Fin l.length => rv (l.getD x.val ⟨#[]⟩) * rv (p.getD x.val ⟨#[]⟩)) ([x] ++ rest) 0 (fun y _ => ht y)
    have mg := sumF_mag (k := 200) (fun x : Fin l.length => rv (l.getD x.val ⟨#[]⟩) * rv (p.getD x.val ⟨#[]⟩)) pre (rv k) (10 ^ 100) (Mag.of hk) (fun y _ => ht y)
    have hx := ht x
    generalize sumF (fun x : Fin l.length => rv (l.getD x.val ⟨#[]⟩) * rv (p.getD x.val ⟨#[]⟩)) (rv k) pre = S at *
    generalize sumF (fun x : Fin l.length => rv (l.getD x.val ⟨#[]⟩) * rv (p.getD x.val ⟨#[]⟩)) 0 ([x] ++ rest) = R at *
    generalize rv (l.getD x.val ⟨#[]⟩) * rv (p.getD x.val ⟨#[]⟩) = q at *
    have hlr : ([x] ++ rest).length = (x :: rest).length := rfl
    rw [hlr] at d2
    generalize (x :: rest).length = b at *
    generalize pre.length = a at *
    have hT : (S + R).den < 10 ^ 100 := by
      unfold shortQ at hs
      rw [Bool.and_eq_true, decide_eq_true_eq, decide_eq_true_eq] at hs
      have := dec_pow (z := ((S + R).den : Int)) (k := 100) (by rw [Int.natAbs_natCast]; exact hs.2)
      rwa [Int.natAbs_natCast] at this
    have e : S = (S + R) + -R := by rw [Rat.add_assoc, Rat.add_neg_cancel, Rat.add_zero]
    have hd : S.den ≤ (S + R).den * R.den := by
      have := den_add_le (S + R) (-R)
      rw [← e, Rat.neg_den] at this
      exact this
    have hR : R.den ≤ 10 ^ (200 * b) := by simpa using d2
    have hS1 : S.den < 10 ^ (100 + 200 * b) := by
      rw [Nat.pow_add]
      exact Nat.lt_of_le_of_lt hd (Nat.mul_lt_mul_of_lt_of_le hT hR (Nat.pow_pos (by decide)))
    have hS2 : S.den < 10 ^ (100 + 200 * a) := by
      rw [Nat.pow_add]
      exact Nat.lt_of_le_of_lt d1 ((Nat.mul_lt_mul_right (Nat.pow_pos (by decide))).2 hkd)
    obtain ⟨E, hE⟩ : ∃ E : Nat, E = 3300 := ⟨_, rfl⟩
    have hS : S.den < 10 ^ E := by
      by_cases h : a ≤ 16
      · exact Nat.lt_of_lt_of_le hS2 (Nat.pow_le_pow_right (by decide) (by omega))
      · exact Nat.lt_of_lt_of_le hS1 (Nat.pow_le_pow_right (by decide) (by omega))
    have hm : S.num.natAbs < 10 ^ (202 + E) := by
      unfold Mag at mg
      rw [Nat.pow_add]
      refine Nat.lt_of_le_of_lt mg (Nat.mul_lt_mul_of_le_of_lt ?_ hS (Nat.pow_pos (by decide)))
      have h1 : a * 10 ^ 200 ≤ 32 * 10 ^ 200 := Nat.mul_le_mul_right _ (by omega)
      have h2 : (10 : Nat) ^ 100 + 32 * 10 ^ 200 ≤ 10 ^ 202 := by decide
      exact Nat.le_trans (Nat.add_le_add_left h1 _) h2
    rw [addF_small hm hS hx (by decide) (by omega) (by omega)] at hadd
    cases hadd
end Go.Proofs.YtjobmkdaaionlaaGreatDoor

/-
  The reference of rational: Frac, Of, both, large.
-/
namespace Go.Proofs.YtjobmkdaaionlaaGreatDoor
open Go Go.Proofs Go.RowKit

theorem sgcd_pos {x y : Int} (h : 0 < y) : sgcd x y = gcdI x y := by unfold sgcd; rw [if_neg (by omega)]
theorem commonT {m n : Nat} {s t : ByteArray} {x y : Int} (W : World) (hs : Txt m s x) (ht : Txt n t y) (hm : m ≤ 1200000) (hn : n ≤ 1200000) : Calls Tryz.prog 91 #[.string s, .string t] W (Bret (.string (str (Lib.itoa (gcdI x y)))) W) :=
  refCommonI s t x y W hs.text ht.text (by have := hs.size; omega) (by have := ht.size; omega)
theorem txt_gcd {m n : Nat} {s t : ByteArray} {x y : Int} (hs : Txt m s x) (ht : Txt n t y) : Txt (m + n) (str (Lib.itoa (gcdI x y))) (gcdI x y) := by
  refine Txt.ofLt (by have := hs.pos; omega) ?_
  have h1 : (gcdI x y).natAbs < 10 ^ (m + n) := by
    unfold gcdI
    rw [Int.natAbs_natCast]
    exact gcd_le x y _ (Nat.lt_of_lt_of_le hs.lt (Nat.pow_le_pow_right (by decide) (by omega))) (Nat.lt_of_lt_of_le ht.lt (Nat.pow_le_pow_right (by decide) (by omega)))
  exact h1
theorem negT {m : Nat} {s : ByteArray} {x : Int} (W : World) (hs : Txt m s x) (hm : m ≤ 1200000) : Calls Tryz.prog 125 #[.string s] W fun e w' => e = .returned (.string (str (Lib.itoa (-x)))) ∧ w' = W := refNegatedT s x W hs.text (by have := hs.size; omega)
theorem txt_neg' {m : Nat} {s : ByteArray} {x : Int} (hs : Txt m s x) : Txt m (str (Lib.itoa (-x))) (-x) := Txt.of (by rw [Int.natAbs_neg]; exact hs.len)
theorem signT {m : Nat} {s : ByteArray} {x : Int} (W : World) (hs : Txt m s x) : Calls Tryz.prog 124 #[.string s] W fun e w' => e = .returned (.int .i64 (cmpI x 0)) ∧ w' = W := refSign_txt s x W hs.text
/-- The parts of a fraction with a positive denominator. -/
theorem frac_parts {x y : Int} (hy : 0 < y) : x.fdiv (gcdI x y) = (Rat.divInt x y).num ∧ y.fdiv (gcdI x y) = ((Rat.divInt x y).den : Int) := by
  have := reduced_parts (x := x) (y := y) (by omega)
  rwa [sgcd_pos hy] at this

theorem frac_facts {m n : Nat} {s t : ByteArray} {x y : Int} (hs : Txt m s x) (ht : Txt n t y) (hm : m ≤ 100000) (hn : n ≤ 100000) (hy : 0 < y) :
    (∀ W, Calls Tryz.prog 91 #[.string s, .string t] W (Bret (.string (str (Lib.itoa (gcdI x y)))) W)) ∧
    (∀ W, Calls Tryz.prog 89 #[.string s, .string (str (Lib.itoa (gcdI x y)))] W (Bret (.string (str (Lib.itoa (Rat.divInt x y).num))) W)) ∧
    (∀ W, Calls Tryz.prog 89 #[.string t, .string (str (Lib.itoa (gcdI x y)))] W (Bret (.string (str (Lib.itoa ((Rat.divInt x y).den : Int)))) W)) ∧
    (str (Lib.itoa (Rat.divInt x y).num)).size ≤ 200000 ∧ (str (Lib.itoa ((Rat.divInt x y).den : Int))).size ≤ 200000 := by
  have hg := gcdI_pos (x := x) (y := y) (by omega)
  have tg := txt_gcd hs ht
  obtain ⟨k1, k2⟩ := frac_parts (x := x) hy
  have t1 := txt_fdiv (y := gcdI x y) hs (by omega)
  have t2 := txt_fdiv (y := gcdI x y) ht (by omega)
  rw [k1] at t1
  rw [k2] at t2
  refine ⟨fun W => commonT W hs ht (by omega) (by omega), fun W => ?_, fun W => ?_, by have := t1.size; omega, by have := t2.size; omega⟩
  · have := fdivT W hs tg (by omega) (by omega) (by omega)
    rwa [k1] at this
  · have := fdivT W ht tg (by omega) (by omega) (by omega)
    rwa [k2] at this
theorem den_ne_lit {q : Rat} (h : q.den ≠ 1) : ((str (Lib.itoa (q.den : Int))).toList == [49]) = false := itoa_ne_one (by omega)
theorem den_is_lit {q : Rat} (h : q.den = 1) : str (Lib.itoa (q.den : Int)) = ⟨#[49]⟩ := by rw [h]; exact lit_str s1

set_option maxHeartbeats 4000000 in
theorem frac_pos (s t : ByteArray) (x y : Int) (m n : Nat) (w : World) (hs : Txt m s x) (ht : Txt n t y) (hm : m ≤ 100000) (hn : n ≤ 100000) (hy : 0 < y) :
    Calls Tryz.prog 92 #[.string s, .string t] w (Bret (.string (str (ratL (Rat.divInt x y)))) w) := by
  have CS := fun W => signT W ht
  have hc : cmpI y 0 = 1 := cmpI_gt hy
  rw [hc] at CS
  obtain ⟨C1, C2, C3, z1, z2⟩ := frac_facts hs ht hm hn hy
  generalize Rat.divInt x y = r at *
  by_cases h : r.den = 1
  · rw [ratL_one h]
    rw [den_is_lit h] at C3
    clear hs ht hm hn hy hc z1 z2 h
    generalize str (Lib.itoa r.num) = u at *
    generalize str (Lib.itoa (gcdI (x) (y))) = g at *
    have KS := Lib.hid CS; have K1 := Lib.hid C1; have K2 := Lib.hid C2; have K3 := Lib.hid C3
    clear CS C1 C2 C3
    go_enter Tryz.func92, Tryz.ntmps92
    go_wp2_with (go_at_call 124; refine (KS.out _).mono ?_; rintro e w1 ⟨rfl, h⟩; subst h; refine Hid.out ?_)
    refine Lib.hid ?_
    go_wp2_with (go_at_call 91; refine (K1.out _).mono ?_; rintro e w2 ⟨rfl, hb2⟩; refine Hid.out ?_)
    refine Lib.hid ?_
    go_wp2_with (go_at_call 89; refine (K2.out _).mono ?_; rintro e w3 ⟨rfl, hb3⟩; refine Hid.out ?_)
    have hB3 := Below.chain hb2 hb3; clear hb3 hb2
    refine Lib.hid ?_
    go_wp2_with (go_at_call 89; refine (K3.out _).mono ?_; rintro e w4 ⟨rfl, hb4⟩; refine Hid.out ?_)
    have hB4 := Below.chain hB3 hb4; clear hb4 hB3
    refine Lib.hid ?_
    go_wp2
    refine bodyPost_ret (v := .string u) (by simp [results, Tryz.results92, go_sem]) rfl ?_
    exact ⟨rfl, hB4⟩
  · rw [ratL_more h]
    have hne := den_ne_lit h
    clear hs ht hm hn hy hc h
    generalize str (Lib.itoa r.num) = u at *
    generalize str (Lib.itoa (r.den : Int)) = v at *
    generalize str (Lib.itoa (gcdI (x) (y))) = g at *
    have hsz : (u ++ ⟨#[47]⟩ : ByteArray).size ≤ 200001 := by rw [ByteArray.size_append]; exact Nat.succ_le_succ z1
    have KS := Lib.hid CS; have K1 := Lib.hid C1; have K2 := Lib.hid C2; have K3 := Lib.hid C3
    clear CS C1 C2 C3
    go_enter Tryz.func92, Tryz.ntmps92
    go_wp2_with (go_at_call 124; refine (KS.out _).mono ?_; rintro e w1 ⟨rfl, h⟩; subst h; refine Hid.out ?_)
    refine Lib.hid ?_
    go_wp2_with (go_at_call 91; refine (K1.out _).mono ?_; rintro e w2 ⟨rfl, hb2⟩; refine Hid.out ?_)
    refine Lib.hid ?_
    go_wp2_with (go_at_call 89; refine (K2.out _).mono ?_; rintro e w3 ⟨rfl, hb3⟩; refine Hid.out ?_)
    have hB3 := Below.chain hb2 hb3; clear hb3 hb2
    refine Lib.hid ?_
    go_wp2_with (go_at_call 89; refine (K3.out _).mono ?_; rintro e w4 ⟨rfl, hb4⟩; refine Hid.out ?_)
    have hB4 := Below.chain hB3 hb4; clear hb4 hB3
    refine Lib.hid ?_
    go_wp2
    refine bodyPost_ret (v := .string (u ++ ⟨#[47]⟩ ++ v)) (by simp [results, Tryz.results92, go_sem]) rfl ?_
    exact ⟨rfl, hB4⟩

set_option maxHeartbeats 4000000 in
theorem frac_neg (s t : ByteArray) (x y : Int) (m n : Nat) (w : World) (hs : Txt m s x) (ht : Txt n t y) (hm : m ≤ 100000) (hn : n ≤ 100000) (hy : y < 0) :
    Calls Tryz.prog 92 #[.string s, .string t] w (Bret (.string (str (ratL (Rat.divInt x y)))) w) := by
  have CS := fun W => signT W ht
  have hc : cmpI y 0 = -1 := cmpI_lt hy
  rw [hc] at CS
  have CN1 := fun W => negT W hs (by omega)
  have CN2 := fun W => negT W ht (by omega)
  obtain ⟨C1, C2, C3, z1, z2⟩ := frac_facts (txt_neg' hs) (txt_neg' ht) hm hn (by omega : 0 < -y)
  rw [Rat.neg_divInt_neg] at C2 C3 z1 z2
  generalize Rat.divInt x y = r at *
  by_cases h : r.den = 1
  · rw [ratL_one h]
    rw [den_is_lit h] at C3
    clear hs ht hm hn hy hc z1 z2 h
    generalize str (Lib.itoa r.num) = u at *
    generalize str (Lib.itoa (gcdI (-x) (-y))) = g at *
    generalize str (Lib.itoa (-x)) = nx at *
    generalize str (Lib.itoa (-y)) = ny at *
    have KN1 := Lib.hid CN1; have KN2 := Lib.hid CN2; clear CN1 CN2
    have KS := Lib.hid CS; have K1 := Lib.hid C1; have K2 := Lib.hid C2; have K3 := Lib.hid C3
    clear CS C1 C2 C3
    go_enter Tryz.func92, Tryz.ntmps92
    go_wp2_with (go_at_call 124; refine (KS.out _).mono ?_; rintro e w1 ⟨rfl, h⟩; subst h; refine Hid.out ?_)
    refine Lib.hid ?_
    go_wp2_with (go_at_call 125; refine (KN1.out _).mono ?_; rintro e w2 ⟨rfl, h⟩; subst h; refine Hid.out ?_)
    refine Lib.hid ?_
    go_wp2_with (go_at_call 125; refine (KN2.out _).mono ?_; rintro e w3 ⟨rfl, h⟩; subst h; refine Hid.out ?_)
    refine Lib.hid ?_
    go_wp2_with (go_at_call 91; refine (K1.out _).mono ?_; rintro e w4 ⟨rfl, hb4⟩; refine Hid.out ?_)
    refine Lib.hid ?_
    go_wp2_with (go_at_call 89; refine (K2.out _).mono ?_; rintro e w5 ⟨rfl, hb5⟩; refine Hid.out ?_)
    have hB5 := Below.chain hb4 hb5; clear hb5 hb4
    refine Lib.hid ?_
    go_wp2_with (go_at_call 89; refine (K3.out _).mono ?_; rintro e w6 ⟨rfl, hb6⟩; refine Hid.out ?_)
    have hB6 := Below.chain hB5 hb6; clear hb6 hB5
    refine Lib.hid ?_
    go_wp2
    refine bodyPost_ret (v := .string u) (by simp [results, Tryz.results92, go_sem]) rfl ?_
    exact ⟨rfl, hB6⟩
  · rw [ratL_more h]
    have hne := den_ne_lit h
    clear hs ht hm hn hy hc h
    generalize str (Lib.itoa r.num) = u at *
    generalize str (Lib.itoa (r.den : Int)) = v at *
    generalize str (Lib.itoa (gcdI (-x) (-y))) = g at *
    have hsz : (u ++ ⟨#[47]⟩ : ByteArray).size ≤ 200001 := by rw [ByteArray.size_append]; exact Nat.succ_le_succ z1
    generalize str (Lib.itoa (-x)) = nx at *
    generalize str (Lib.itoa (-y)) = ny at *
    have KN1 := Lib.hid CN1; have KN2 := Lib.hid CN2; clear CN1 CN2
    have KS := Lib.hid CS; have K1 := Lib.hid C1; have K2 := Lib.hid C2; have K3 := Lib.hid C3
    clear CS C1 C2 C3
    go_enter Tryz.func92, Tryz.ntmps92
    go_wp2_with (go_at_call 124; refine (KS.out _).mono ?_; rintro e w1 ⟨rfl, h⟩; subst h; refine Hid.out ?_)
    refine Lib.hid ?_
    go_wp2_with (go_at_call 125; refine (KN1.out _).mono ?_; rintro e w2 ⟨rfl, h⟩; subst h; refine Hid.out ?_)
    refine Lib.hid ?_
    go_wp2_with (go_at_call 125; refine (KN2.out _).mono ?_; rintro e w3 ⟨rfl, h⟩; subst h; refine Hid.out ?_)
    refine Lib.hid ?_
    go_wp2_with (go_at_call 91; refine (K1.out _).mono ?_; rintro e w4 ⟨rfl, hb4⟩; refine Hid.out ?_)
    refine Lib.hid ?_
    go_wp2_with (go_at_call 89; refine (K2.out _).mono ?_; rintro e w5 ⟨rfl, hb5⟩; refine Hid.out ?_)
    have hB5 := Below.chain hb4 hb5; clear hb5 hb4
    refine Lib.hid ?_
    go_wp2_with (go_at_call 89; refine (K3.out _).mono ?_; rintro e w6 ⟨rfl, hb6⟩; refine Hid.out ?_)
    have hB6 := Below.chain hB5 hb6; clear hb6 hB5
    refine Lib.hid ?_
    go_wp2
    refine bodyPost_ret (v := .string (u ++ ⟨#[47]⟩ ++ v)) (by simp [results, Tryz.results92, go_sem]) rfl ?_
    exact ⟨rfl, hB6⟩

theorem fracT {m n : Nat} {s t : ByteArray} {x y : Int} (w : World) (hs : Txt m s x) (ht : Txt n t y) (hm : m ≤ 100000) (hn : n ≤ 100000) (hy : y ≠ 0) :
    Calls Tryz.prog 92 #[.string s, .string t] w (Bret (.string (str (ratL (Rat.divInt x y)))) w) := by
  by_cases h : y < 0
  · exact frac_neg s t x y m n w hs ht hm hn h
  · exact frac_pos s t x y m n w hs ht hm hn (by omega)
end Go.Proofs.YtjobmkdaaionlaaGreatDoor

/-
  The reference of rational: Compare, Add, Sub, Mul, Div, Neg, Floor, Ceil, Num, Den.
-/
namespace Go.Proofs.YtjobmkdaaionlaaGreatDoor
open Go Go.Proofs Go.RowKit

theorem sumT {m n : Nat} {s t : ByteArray} {x y : Int} (w : World) (hs : Txt m s x) (ht : Txt n t y) (hm : m ≤ 1200000) (hn : n ≤ 1200000) : Calls Tryz.prog 105 #[.string s, .string t] w (Bret (.string (str (Lib.itoa (x + y)))) w) :=
  refSumI s t x y w hs.text ht.text (by have := hs.size; omega) (by have := ht.size; omega)
theorem txt_add {m n : Nat} {a b : ByteArray} {x y : Int} (ha : Txt m a x) (hb : Txt n b y) : Txt (m + n + 1) (str (Lib.itoa (x + y))) (x + y) := by
  have := txt_sub ha (txt_neg' hb)
  rwa [Int.sub_neg] at this

end Go.Proofs.YtjobmkdaaionlaaGreatDoor

/-
  linear: the reference's Plus and Times of numbers of any length.
-/
set_option linter.unusedSimpArgs false
namespace Go.Proofs.YtjobmkdaaionlaaGreatDoor
open Go Go.Proofs Go.RowKit

theorem Good.bot {k : Nat} {s : ByteArray} (h : Good k s) (h0 : 0 < k) (hk : k ≤ 20000) (w : World) : Calls Tryz.prog 41 #[.string s] w fun e w' => e = .returned (.string (str (Lib.itoa ((rv s).den : Int)))) ∧ w' = w := by
  have := refBottom s w (h.sz2 h0 hk)
  rwa [h.text, botL_rat] at this
theorem rat_int {q : Rat} (h : q.den = 1) : q = (q.num : Rat) := by
  apply Rat.ext <;> simp [h]
theorem add_int {p q : Rat} (hp : p.den = 1) (hq : q.den = 1) : str (Lib.itoa (p.num + q.num)) = str (ratL (p + q)) := by
  rw [← ratL_int]
  congr 2
  rw [rat_int hp, rat_int hq]
  push_cast
  simp
theorem mul_int {p q : Rat} (hp : p.den = 1) (hq : q.den = 1) : str (Lib.itoa (p.num * q.num)) = str (ratL (p * q)) := by
  rw [← ratL_int]
  congr 2
  rw [rat_int hp, rat_int hq]
  push_cast
  simp

set_option maxHeartbeats 2000000 in
theorem plusG {s t : ByteArray} {i j : Nat} (hs : Good i s) (ht : Good j t) (hi : 0 < i) (hj : 0 < j) (hik : i ≤ 20000) (hjk : j ≤ 20000) (w : World) :
    Calls Tryz.prog 84 #[.string s, .string t] w (Bret (.string (addT s t)) w) := by
  have A1 := hs.top hi hik; have A2 := hs.bot hi hik; have B1 := ht.top hj hjk; have B2 := ht.bot hj hjk
  obtain ⟨v1, hv1, S1⟩ := hs.slash hi hik
  obtain ⟨v2, hv2, S2⟩ := ht.slash hj hjk
  have tn := hs.num hi; have td := hs.den hi; have un := ht.num hj; have ud := ht.den hj
  have P0 := fun W => prodT W tn ud (by omega) (by omega)
  have P1 := fun W => prodT W un td (by omega) (by omega)
  have P2 := fun W => prodT W td ud (by omega) (by omega)
  have x0 := txt_prod tn ud; have x1 := txt_prod un td; have x2 := txt_prod td ud
  have SU := fun W => sumT W x0 x1 (by omega) (by omega)
  have x3 := txt_add x0 x1
  have FR := fun W => fracT W x3 x2 (by omega) (by omega) (den_mul_ne (rv s) (rv t))
  rw [divInt_add (rv s) (rv t)] at FR
  have SI := fun W => sumT W tn un (by omega) (by omega)
  have hw1 := hs.whole; have hw2 := ht.whole
  have hai := @add_int (rv s) (rv t)
  unfold addT tq
  clear tn td un ud x0 x1 x2 x3 hs ht
  generalize str (ratL (rv s + rv t)) = r at *
  have KA1 := Lib.hid A1; have KA2 := Lib.hid A2; have KB1 := Lib.hid B1; have KB2 := Lib.hid B2; have KS1 := Lib.hid S1; have KS2 := Lib.hid S2; have KP0 := Lib.hid P0; have KP1 := Lib.hid P1; have KP2 := Lib.hid P2; have KU := Lib.hid SU; have KF := Lib.hid FR
  clear A1 A2 B1 B2 S1 S2 P0 P1 P2 SU FR
  by_cases d1 : (rv s).den = 1
  · rw [decide_eq_true d1] at hv1
    by_cases d2 : (rv t).den = 1
    · rw [decide_eq_true d2] at hv2
      rw [hai d1 d2, hw1 d1, hw2 d2] at SI
      have KI := Lib.hid SI
      clear SI hw1 hw2 hai d1 d2 KA1 KA2 KB1 KB2 KP0 KP1 KP2 KU KF
      go_enter Tryz.func84, Tryz.ntmps84
      go_wp2_with (go_at_call 76; refine (KS1.out _).mono ?_; rintro e w1 ⟨rfl, h⟩; subst h; refine Hid.out ?_)
      refine Lib.hid ?_
      go_wp2_with (go_at_call 76; refine (KS2.out _).mono ?_; rintro e w2 ⟨rfl, h⟩; subst h; refine Hid.out ?_)
      refine Lib.hid ?_
      go_wp2_with (go_at_call 105; refine (KI.out _).mono ?_; rintro e w3 ⟨rfl, hb3⟩; refine Hid.out ?_)
      have hB3 := hb3
      clear hb3
      refine Lib.hid ?_
      go_wp2
      refine bodyPost_ret (v := .string r) (by simp [results, Tryz.results84, go_sem]) rfl ?_
      exact ⟨rfl, hB3⟩
    · rw [decide_eq_false d2] at hv2
      clear SI hw1 hw2 hai d1 d2
      go_enter Tryz.func84, Tryz.ntmps84
      go_wp2_with (go_at_call 76; refine (KS1.out _).mono ?_; rintro e w1 ⟨rfl, h⟩; subst h; refine Hid.out ?_)
      refine Lib.hid ?_
      go_wp2_with (go_at_call 76; refine (KS2.out _).mono ?_; rintro e w2 ⟨rfl, h⟩; subst h; refine Hid.out ?_)
      refine Lib.hid ?_
      go_wp2_with (go_at_call 93; refine (KA1.out _).mono ?_; rintro e w3 ⟨rfl, h⟩; subst h; refine Hid.out ?_)
      refine Lib.hid ?_
      go_wp2_with (go_at_call 41; refine (KB2.out _).mono ?_; rintro e w4 ⟨rfl, h⟩; subst h; refine Hid.out ?_)
      refine Lib.hid ?_
      go_wp2_with (go_at_call 90; refine (KP0.out _).mono ?_; rintro e w5 ⟨rfl, hb5⟩; refine Hid.out ?_)
      have hB5 := hb5
      clear hb5
      refine Lib.hid ?_
      go_wp2_with (go_at_call 93; refine (KB1.out _).mono ?_; rintro e w6 ⟨rfl, h⟩; subst h; refine Hid.out ?_)
      refine Lib.hid ?_
      go_wp2_with (go_at_call 41; refine (KA2.out _).mono ?_; rintro e w7 ⟨rfl, h⟩; subst h; refine Hid.out ?_)
      refine Lib.hid ?_
      go_wp2_with (go_at_call 90; refine (KP1.out _).mono ?_; rintro e w8 ⟨rfl, hb8⟩; refine Hid.out ?_)
      have hB8 := Below.chain hB5 hb8
      clear hb8 hB5
      refine Lib.hid ?_
      go_wp2_with (go_at_call 105; refine (KU.out _).mono ?_; rintro e w9 ⟨rfl, hb9⟩; refine Hid.out ?_)
      have hB9 := Below.chain hB8 hb9
      clear hb9 hB8
      refine Lib.hid ?_
      go_wp2_with (go_at_call 41; refine (KA2.out _).mono ?_; rintro e w10 ⟨rfl, h⟩; subst h; refine Hid.out ?_)
      refine Lib.hid ?_
      go_wp2_with (go_at_call 41; refine (KB2.out _).mono ?_; rintro e w11 ⟨rfl, h⟩; subst h; refine Hid.out ?_)
      refine Lib.hid ?_
      go_wp2_with (go_at_call 90; refine (KP2.out _).mono ?_; rintro e w12 ⟨rfl, hb12⟩; refine Hid.out ?_)
      have hB12 := Below.chain hB9 hb12
      clear hb12 hB9
      refine Lib.hid ?_
      go_wp2_with (go_at_call 92; refine (KF.out _).mono ?_; rintro e w13 ⟨rfl, hb13⟩; refine Hid.out ?_)
      have hB13 := Below.chain hB12 hb13
      clear hb13 hB12
      refine Lib.hid ?_
      go_wp2
      refine bodyPost_ret (v := .string r) (by simp [results, Tryz.results84, go_sem]) rfl ?_
      exact ⟨rfl, hB13⟩
  · rw [decide_eq_false d1] at hv1
    clear SI hw1 hw2 hai d1 hv2
    go_enter Tryz.func84, Tryz.ntmps84
    go_wp2_with (go_at_call 76; refine (KS1.out _).mono ?_; rintro e w1 ⟨rfl, h⟩; subst h; refine Hid.out ?_)
    refine Lib.hid ?_
    go_wp2_with (go_at_call 93; refine (KA1.out _).mono ?_; rintro e w2 ⟨rfl, h⟩; subst h; refine Hid.out ?_)
    refine Lib.hid ?_
    go_wp2_with (go_at_call 41; refine (KB2.out _).mono ?_; rintro e w3 ⟨rfl, h⟩; subst h; refine Hid.out ?_)
    refine Lib.hid ?_
    go_wp2_with (go_at_call 90; refine (KP0.out _).mono ?_; rintro e w4 ⟨rfl, hb4⟩; refine Hid.out ?_)
    have hB4 := hb4
    clear hb4
    refine Lib.hid ?_
    go_wp2_with (go_at_call 93; refine (KB1.out _).mono ?_; rintro e w5 ⟨rfl, h⟩; subst h; refine Hid.out ?_)
    refine Lib.hid ?_
    go_wp2_with (go_at_call 41; refine (KA2.out _).mono ?_; rintro e w6 ⟨rfl, h⟩; subst h; refine Hid.out ?_)
    refine Lib.hid ?_
    go_wp2_with (go_at_call 90; refine (KP1.out _).mono ?_; rintro e w7 ⟨rfl, hb7⟩; refine Hid.out ?_)
    have hB7 := Below.chain hB4 hb7
    clear hb7 hB4
    refine Lib.hid ?_
    go_wp2_with (go_at_call 105; refine (KU.out _).mono ?_; rintro e w8 ⟨rfl, hb8⟩; refine Hid.out ?_)
    have hB8 := Below.chain hB7 hb8
    clear hb8 hB7
    refine Lib.hid ?_
    go_wp2_with (go_at_call 41; refine (KA2.out _).mono ?_; rintro e w9 ⟨rfl, h⟩; subst h; refine Hid.out ?_)
    refine Lib.hid ?_
    go_wp2_with (go_at_call 41; refine (KB2.out _).mono ?_; rintro e w10 ⟨rfl, h⟩; subst h; refine Hid.out ?_)
    refine Lib.hid ?_
    go_wp2_with (go_at_call 90; refine (KP2.out _).mono ?_; rintro e w11 ⟨rfl, hb11⟩; refine Hid.out ?_)
    have hB11 := Below.chain hB8 hb11
    clear hb11 hB8
    refine Lib.hid ?_
    go_wp2_with (go_at_call 92; refine (KF.out _).mono ?_; rintro e w12 ⟨rfl, hb12⟩; refine Hid.out ?_)
    have hB12 := Below.chain hB11 hb12
    clear hb12 hB11
    refine Lib.hid ?_
    go_wp2
    refine bodyPost_ret (v := .string r) (by simp [results, Tryz.results84, go_sem]) rfl ?_
    exact ⟨rfl, hB12⟩

theorem beq_zero {s : ByteArray} (h : rv s ≠ 0) : (s.toList == [48]) = false :=
  eqLit _ [48] (fun e => h (by rw [show s = ⟨#[48]⟩ by rw [← str_bytes s, e]; rfl]; exact rv0))
theorem mul_zero_l {s t : ByteArray} (h : rv s = 0) : mulT s t = ⟨#[48]⟩ := by unfold mulT; rw [h, Rat.zero_mul, tq0]
theorem mul_zero_r {s t : ByteArray} (h : rv t = 0) : mulT s t = ⟨#[48]⟩ := by unfold mulT; rw [h, Rat.mul_zero, tq0]
set_option maxHeartbeats 2000000 in
theorem timesG {s t : ByteArray} {i j : Nat} (hs : Good i s) (ht : Good j t) (hi : 0 < i) (hj : 0 < j) (hik : i ≤ 20000) (hjk : j ≤ 20000) (w : World) :
    Calls Tryz.prog 97 #[.string s, .string t] w (Bret (.string (mulT s t)) w) := by
  by_cases z1 : rv s = 0
  · have e := hs.lit; rw [z1, tq0] at e
    rw [mul_zero_l z1]
    subst e
    go_enter Tryz.func97, Tryz.ntmps97
    go_wp2
    refine bodyPost_ret (v := .string ⟨#[48]⟩) (by simp [results, Tryz.results97, go_sem]) rfl ?_
    exact ⟨rfl, Below.refl _ _⟩
  have n1 := beq_zero z1
  by_cases z2 : rv t = 0
  · have e := ht.lit; rw [z2, tq0] at e
    rw [mul_zero_r z2]
    subst e
    clear hs ht
    go_enter Tryz.func97, Tryz.ntmps97
    go_wp2
    refine bodyPost_ret (v := .string ⟨#[48]⟩) (by simp [results, Tryz.results97, go_sem]) rfl ?_
    exact ⟨rfl, Below.refl _ _⟩
  have n2 := beq_zero z2
  have A1 := hs.top hi hik; have A2 := hs.bot hi hik; have B1 := ht.top hj hjk; have B2 := ht.bot hj hjk
  obtain ⟨v1, hv1, S1⟩ := hs.slash hi hik
  obtain ⟨v2, hv2, S2⟩ := ht.slash hj hjk
  have tn := hs.num hi; have td := hs.den hi; have un := ht.num hj; have ud := ht.den hj
  have P0 := fun W => prodT W tn un (by omega) (by omega)
  have P1 := fun W => prodT W td ud (by omega) (by omega)
  have x0 := txt_prod tn un; have x1 := txt_prod td ud
  have FR := fun W => fracT W x0 x1 (by omega) (by omega) (den_mul_ne (rv s) (rv t))
  rw [divInt_mul (rv s) (rv t)] at FR
  have PI := fun W => prodT W tn un (by omega) (by omega)
  have hw1 := hs.whole; have hw2 := ht.whole
  have hai := @mul_int (rv s) (rv t)
  unfold mulT tq
  clear tn td un ud x0 x1 hs ht z1 z2
  generalize str (ratL (rv s * rv t)) = r at *
  have KA1 := Lib.hid A1; have KA2 := Lib.hid A2; have KB1 := Lib.hid B1; have KB2 := Lib.hid B2; have KS1 := Lib.hid S1; have KS2 := Lib.hid S2; have KP0 := Lib.hid P0; have KP1 := Lib.hid P1; have KF := Lib.hid FR
  clear A1 A2 B1 B2 S1 S2 P0 P1 FR
  by_cases d1 : (rv s).den = 1
  · rw [decide_eq_true d1] at hv1
    by_cases d2 : (rv t).den = 1
    · rw [decide_eq_true d2] at hv2
      rw [hai d1 d2, hw1 d1, hw2 d2] at PI
      have KI := Lib.hid PI
      clear PI hw1 hw2 hai d1 d2 KA1 KA2 KB1 KB2 KP0 KP1 KF
      go_enter Tryz.func97, Tryz.ntmps97
      go_wp2_with (go_at_call 76; refine (KS1.out _).mono ?_; rintro e w1 ⟨rfl, h⟩; subst h; refine Hid.out ?_)
      refine Lib.hid ?_
      go_wp2_with (go_at_call 76; refine (KS2.out _).mono ?_; rintro e w2 ⟨rfl, h⟩; subst h; refine Hid.out ?_)
      refine Lib.hid ?_
      go_wp2_with (go_at_call 90; refine (KI.out _).mono ?_; rintro e w3 ⟨rfl, hb3⟩; refine Hid.out ?_)
      have hB3 := hb3
      clear hb3
      refine Lib.hid ?_
      go_wp2
      refine bodyPost_ret (v := .string r) (by simp [results, Tryz.results97, go_sem]) rfl ?_
      exact ⟨rfl, hB3⟩
    · rw [decide_eq_false d2] at hv2
      clear PI hw1 hw2 hai d1 d2
      go_enter Tryz.func97, Tryz.ntmps97
      go_wp2_with (go_at_call 76; refine (KS1.out _).mono ?_; rintro e w1 ⟨rfl, h⟩; subst h; refine Hid.out ?_)
      refine Lib.hid ?_
      go_wp2_with (go_at_call 76; refine (KS2.out _).mono ?_; rintro e w2 ⟨rfl, h⟩; subst h; refine Hid.out ?_)
      refine Lib.hid ?_
      go_wp2_with (go_at_call 93; refine (KA1.out _).mono ?_; rintro e w3 ⟨rfl, h⟩; subst h; refine Hid.out ?_)
      refine Lib.hid ?_
      go_wp2_with (go_at_call 93; refine (KB1.out _).mono ?_; rintro e w4 ⟨rfl, h⟩; subst h; refine Hid.out ?_)
      refine Lib.hid ?_
      go_wp2_with (go_at_call 90; refine (KP0.out _).mono ?_; rintro e w5 ⟨rfl, hb5⟩; refine Hid.out ?_)
      have hB5 := hb5
      clear hb5
      refine Lib.hid ?_
      go_wp2_with (go_at_call 41; refine (KA2.out _).mono ?_; rintro e w6 ⟨rfl, h⟩; subst h; refine Hid.out ?_)
      refine Lib.hid ?_
      go_wp2_with (go_at_call 41; refine (KB2.out _).mono ?_; rintro e w7 ⟨rfl, h⟩; subst h; refine Hid.out ?_)
      refine Lib.hid ?_
      go_wp2_with (go_at_call 90; refine (KP1.out _).mono ?_; rintro e w8 ⟨rfl, hb8⟩; refine Hid.out ?_)
      have hB8 := Below.chain hB5 hb8
      clear hb8 hB5
      refine Lib.hid ?_
      go_wp2_with (go_at_call 92; refine (KF.out _).mono ?_; rintro e w9 ⟨rfl, hb9⟩; refine Hid.out ?_)
      have hB9 := Below.chain hB8 hb9
      clear hb9 hB8
      refine Lib.hid ?_
      go_wp2
      refine bodyPost_ret (v := .string r) (by simp [results, Tryz.results97, go_sem]) rfl ?_
      exact ⟨rfl, hB9⟩
  · rw [decide_eq_false d1] at hv1
    clear PI hw1 hw2 hai d1 hv2
    go_enter Tryz.func97, Tryz.ntmps97
    go_wp2_with (go_at_call 76; refine (KS1.out _).mono ?_; rintro e w1 ⟨rfl, h⟩; subst h; refine Hid.out ?_)
    refine Lib.hid ?_
    go_wp2_with (go_at_call 93; refine (KA1.out _).mono ?_; rintro e w2 ⟨rfl, h⟩; subst h; refine Hid.out ?_)
    refine Lib.hid ?_
    go_wp2_with (go_at_call 93; refine (KB1.out _).mono ?_; rintro e w3 ⟨rfl, h⟩; subst h; refine Hid.out ?_)
    refine Lib.hid ?_
    go_wp2_with (go_at_call 90; refine (KP0.out _).mono ?_; rintro e w4 ⟨rfl, hb4⟩; refine Hid.out ?_)
    have hB4 := hb4
    clear hb4
    refine Lib.hid ?_
    go_wp2_with (go_at_call 41; refine (KA2.out _).mono ?_; rintro e w5 ⟨rfl, h⟩; subst h; refine Hid.out ?_)
    refine Lib.hid ?_
    go_wp2_with (go_at_call 41; refine (KB2.out _).mono ?_; rintro e w6 ⟨rfl, h⟩; subst h; refine Hid.out ?_)
    refine Lib.hid ?_
    go_wp2_with (go_at_call 90; refine (KP1.out _).mono ?_; rintro e w7 ⟨rfl, hb7⟩; refine Hid.out ?_)
    have hB7 := Below.chain hB4 hb7
    clear hb7 hB4
    refine Lib.hid ?_
    go_wp2_with (go_at_call 92; refine (KF.out _).mono ?_; rintro e w8 ⟨rfl, hb8⟩; refine Hid.out ?_)
    have hB8 := Below.chain hB7 hb8
    clear hb8 hB7
    refine Lib.hid ?_
    go_wp2
    refine bodyPost_ret (v := .string r) (by simp [results, Tryz.results97, go_sem]) rfl ?_
    exact ⟨rfl, hB8⟩
end Go.Proofs.YtjobmkdaaionlaaGreatDoor

