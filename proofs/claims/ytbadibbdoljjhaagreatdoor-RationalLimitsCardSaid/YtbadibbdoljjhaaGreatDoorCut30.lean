import Derived.Test.YtbadibbdoljjhaaGreatDoorCut29
import Derived.Test.YtbadibbdoljjhaaGreatDoorCut18
import Derived.Test.YtbadibbdoljjhaaGreatDoorCut19

set_option linter.unusedVariables false
/-
  The laws' words on rational numbers: right, awake; playWhole, playBroken, playNumbers.
-/
namespace Go.Proofs.YtbadibbdoljjhaaGreatDoor
open Go Go.Proofs Go.RowKit

theorem StrsAt.on {w W : World} {b : Nat} {ss : List ByteArray} (h : StrsAt w b ss) (hb : b < w.heap.size) (g : Below w.heap.size w W) : StrsAt W b ss := fun j hj => (g.cell (p := ⟨b, j, none⟩) hb).trans (h j hj)
def rokB (s : ByteArray) : Bool := decide (s.size ≤ 300) && decide (rerr (bytes s) = 0)
def brokenB (s : ByteArray) : Bool := decide (s.size ≤ 250) && decide (rerr (bytes s) = 0)
def wholeB (s : ByteArray) : Bool := decide (s.size ≤ 400) && decide (errOf (bytes s) = 0)

set_option maxHeartbeats 2000000 in
theorem right02 (ss : List ByteArray) (b c : Nat) (w : World) (hr : StrsAt w b ss) (hb : b < w.heap.size) (hs : ∀ s ∈ ss, s.size ≤ 9223372036854775807) (hn : ss.length ≤ 1000) :
    Calls Tryz.prog 52 #[.slice (some ⟨b, 0, none⟩) ss.length c] w (Bret (.bool (ss.all rokB)) w) := by
  have hr' : ∀ W, Below w.heap.size w W → StrsAt W b ss := fun W hW => hr.on hb hW
  have HC := Lib.hid hr'; have HS := Lib.hid hs
  clear hr hs hr' hb
  generalize hlen : ss.length = n at *
  have HLEN := Lib.hid hlen; clear hlen
  go_enter Tryz.func52, Tryz.ntmps52
  go_wp2_with fail
  go_loopw [7] (fun iv wr => ∃ k : Nat, k ≤ n ∧ iv = .int .i64 k ∧ (ss.take k).all rokB = true ∧ Below w.heap.size w wr) (fun iv _ => n - (intOf iv).toNat)
  case atStart => exact ⟨0, Nat.zero_le _, rfl, rfl, Below.refl _ _⟩
  case round =>
    obtain ⟨k, hk, rfl, hall, hbw⟩ := hrel
    have HALL := Lib.hid hall; have HB := Lib.hid hbw; clear hall hbw
    by_cases hlt : k < n
    · have hlt' : k < ss.length := by rw [HLEN.out]; exact hlt
      have ck : wr.cell? ⟨b, k, none⟩ = some (.string (ss[k]'hlt')) := HC.out wr HB.out k hlt'
      have hz := HS.out _ (List.getElem_mem hlt')
      have hsucc := take_all_succ rokB ss k hlt'
      rw [HALL.out, Bool.true_and] at hsucc
      have hbad := take_all_false rokB ss k hlt'
      have HSU := Lib.hid hsucc; have HBA := Lib.hid hbad
      clear hsucc hbad
      generalize ss[k]'hlt' = sk at *
      have CF := refFew02 sk wr hz
      by_cases hf : sk.size ≤ 300
      · have CC := refCheck02 sk wr (by omega)
        rw [show decide (sk.size ≤ 300) = true from decide_eq_true hf] at CF
        have KF := Lib.hid CF; clear CF
        rcases rerr_cases (bytes sk) with he | he | he
        · have hp : rokB sk = true := by unfold rokB; rw [he]; simp [hf]
          have e1 := HSU.out
          rw [hp] at e1
          have E1 := Lib.hid e1
          rw [he] at CC
          have KC := Lib.hid CC; clear CC e1 hp HSU HBA he
          go_wp2_with (go_at_call 25; refine KF.out.mono ?_; rintro e w2 ⟨rfl, h⟩; subst h; refine Hid.out ?_)
          refine Lib.hid ?_
          go_wp2_with (go_at_call 38; refine KC.out.mono ?_; rintro e w3 ⟨rfl, hb3⟩; refine Hid.out ?_)
          refine Lib.hid ?_
          go_wp2
          go_roundw
          case rel => exact ⟨k + 1, by omega, by go_num, E1.out, Below.chain HB.out hb3⟩
          case measure => simp [intOf]; omega
        all_goals
          have hp : rokB sk = false := by unfold rokB; rw [he]; simp
          have E1 := Lib.hid (HBA.out hp)
          rw [he] at CC
          have KC := Lib.hid CC; clear CC hp HSU HBA he
          go_wp2_with (go_at_call 25; refine KF.out.mono ?_; rintro e w2 ⟨rfl, h⟩; subst h; refine Hid.out ?_)
          refine Lib.hid ?_
          go_wp2_with (go_at_call 38; refine KC.out.mono ?_; rintro e w3 ⟨rfl, hb3⟩; refine Hid.out ?_)
          refine Lib.hid ?_
          go_wp2
          go_ret
          exact ⟨ret_bool E1.out.symm, Below.chain HB.out hb3⟩
      · have hp : rokB sk = false := by unfold rokB; simp [hf]
        have E1 := Lib.hid (HBA.out hp)
        clear hp HSU HBA
        rw [show decide (sk.size ≤ 300) = false from decide_eq_false hf] at CF
        have KF := Lib.hid CF; clear CF
        go_wp2_with (go_at_call 25; refine KF.out.mono ?_; rintro e w2 ⟨rfl, h⟩; subst h; refine Hid.out ?_)
        refine Lib.hid ?_
        go_wp2
        go_ret
        exact ⟨ret_bool E1.out.symm, HB.out⟩
    · have hkn : k = n := by omega
      subst hkn
      have e1 : ss.all rokB = true := by
        have := HALL.out
        rwa [List.take_of_length_le (by rw [HLEN.out]; exact Nat.le_refl _)] at this
      have E1 := Lib.hid e1; clear e1
      go_wp2
      go_ret
      exact ⟨ret_bool E1.out.symm, HB.out⟩

set_option maxHeartbeats 2000000 in
theorem playBroken_any (ss : List ByteArray) (b c : Nat) (w : World) (hr : StrsAt w b ss) (hb : b < w.heap.size) (hs : ∀ s ∈ ss, s.size ≤ 9223372036854775807) (hn : ss.length ≤ 1000) :
    Calls Tryz.prog 71 #[.slice (some ⟨b, 0, none⟩) ss.length c] w (Bret (.bool (ss.all brokenB)) w) := by
  have hr' : ∀ W, Below w.heap.size w W → StrsAt W b ss := fun W hW => hr.on hb hW
  have HC := Lib.hid hr'; have HS := Lib.hid hs
  clear hr hs hr' hb
  generalize hlen : ss.length = n at *
  have HLEN := Lib.hid hlen; clear hlen
  go_enter Tryz.func71, Tryz.ntmps71
  go_wp2_with fail
  go_loopw [7] (fun iv wr => ∃ k : Nat, k ≤ n ∧ iv = .int .i64 k ∧ (ss.take k).all brokenB = true ∧ Below w.heap.size w wr) (fun iv _ => n - (intOf iv).toNat)
  case atStart => exact ⟨0, Nat.zero_le _, rfl, rfl, Below.refl _ _⟩
  case round =>
    obtain ⟨k, hk, rfl, hall, hbw⟩ := hrel
    have HALL := Lib.hid hall; have HB := Lib.hid hbw; clear hall hbw
    by_cases hlt : k < n
    · have hlt' : k < ss.length := by rw [HLEN.out]; exact hlt
      have ck : wr.cell? ⟨b, k, none⟩ = some (.string (ss[k]'hlt')) := HC.out wr HB.out k hlt'
      have hz := HS.out _ (List.getElem_mem hlt')
      have hsucc := take_all_succ brokenB ss k hlt'
      rw [HALL.out, Bool.true_and] at hsucc
      have hbad := take_all_false brokenB ss k hlt'
      have HSU := Lib.hid hsucc; have HBA := Lib.hid hbad
      clear hsucc hbad
      generalize ss[k]'hlt' = sk at *
      by_cases hf : sk.size ≤ 250
      · have CC := refCheck02 sk wr (by omega)
        rcases rerr_cases (bytes sk) with he | he | he
        · have hp : brokenB sk = true := by unfold brokenB; rw [he]; simp [hf]
          have e1 := HSU.out
          rw [hp] at e1
          have E1 := Lib.hid e1
          rw [he] at CC
          have KC := Lib.hid CC; clear CC e1 hp HSU HBA he
          go_wp2_with (go_at_call 38; refine KC.out.mono ?_; rintro e w3 ⟨rfl, hb3⟩; refine Hid.out ?_)
          refine Lib.hid ?_
          go_wp2
          go_roundw
          case rel => exact ⟨k + 1, by omega, by go_num, E1.out, Below.chain HB.out hb3⟩
          case measure => simp [intOf]; omega
        all_goals
          have hp : brokenB sk = false := by unfold brokenB; rw [he]; simp
          have E1 := Lib.hid (HBA.out hp)
          rw [he] at CC
          have KC := Lib.hid CC; clear CC hp HSU HBA he
          go_wp2_with (go_at_call 38; refine KC.out.mono ?_; rintro e w3 ⟨rfl, hb3⟩; refine Hid.out ?_)
          refine Lib.hid ?_
          go_wp2
          go_ret
          exact ⟨ret_bool E1.out.symm, Below.chain HB.out hb3⟩
      · have hp : brokenB sk = false := by unfold brokenB; simp [hf]
        have E1 := Lib.hid (HBA.out hp)
        clear hp HSU HBA
        go_wp2
        go_ret
        exact ⟨ret_bool E1.out.symm, HB.out⟩
    · have hkn : k = n := by omega
      subst hkn
      have e1 : ss.all brokenB = true := by
        have := HALL.out
        rwa [List.take_of_length_le (by rw [HLEN.out]; exact Nat.le_refl _)] at this
      have E1 := Lib.hid e1; clear e1
      go_wp2
      go_ret
      exact ⟨ret_bool E1.out.symm, HB.out⟩

set_option maxHeartbeats 2000000 in
theorem playWhole_any (ss : List ByteArray) (b c : Nat) (w : World) (hr : StrsAt w b ss) (hb : b < w.heap.size) (hs : ∀ s ∈ ss, s.size ≤ 9223372036854775807) (hn : ss.length ≤ 1000) :
    Calls Tryz.prog 58 #[.slice (some ⟨b, 0, none⟩) ss.length c] w (Bret (.bool (ss.all wholeB)) w) := by
  have hr' : ∀ W, Below w.heap.size w W → StrsAt W b ss := fun W hW => hr.on hb hW
  have HC := Lib.hid hr'; have HS := Lib.hid hs
  clear hr hs hr' hb
  generalize hlen : ss.length = n at *
  have HLEN := Lib.hid hlen; clear hlen
  go_enter Tryz.func58, Tryz.ntmps58
  go_wp2_with fail
  go_loopw [7] (fun iv wr => ∃ k : Nat, k ≤ n ∧ iv = .int .i64 k ∧ (ss.take k).all wholeB = true ∧ Below w.heap.size w wr) (fun iv _ => n - (intOf iv).toNat)
  case atStart => exact ⟨0, Nat.zero_le _, rfl, rfl, Below.refl _ _⟩
  case round =>
    obtain ⟨k, hk, rfl, hall, hbw⟩ := hrel
    have HALL := Lib.hid hall; have HB := Lib.hid hbw; clear hall hbw
    by_cases hlt : k < n
    · have hlt' : k < ss.length := by rw [HLEN.out]; exact hlt
      have ck : wr.cell? ⟨b, k, none⟩ = some (.string (ss[k]'hlt')) := HC.out wr HB.out k hlt'
      have hz := HS.out _ (List.getElem_mem hlt')
      have hsucc := take_all_succ wholeB ss k hlt'
      rw [HALL.out, Bool.true_and] at hsucc
      have hbad := take_all_false wholeB ss k hlt'
      have HSU := Lib.hid hsucc; have HBA := Lib.hid hbad
      clear hsucc hbad
      generalize ss[k]'hlt' = sk at *
      by_cases hf : sk.size ≤ 400
      · have CC := refCheck_any sk wr hz
        rcases errOf_cases (bytes sk) with he | he | he
        · have hp : wholeB sk = true := by unfold wholeB; rw [he]; simp [hf]
          have e1 := HSU.out
          rw [hp] at e1
          have E1 := Lib.hid e1
          rw [he] at CC
          have KC := Lib.hid CC; clear CC e1 hp HSU HBA he
          go_wp2_with (go_at_call 55; refine KC.out.mono ?_; rintro e w3 ⟨rfl, h⟩; subst h; refine Hid.out ?_)
          refine Lib.hid ?_
          go_wp2
          go_roundw
          case rel => exact ⟨k + 1, by omega, by go_num, E1.out, HB.out⟩
          case measure => simp [intOf]; omega
        all_goals
          have hp : wholeB sk = false := by unfold wholeB; rw [he]; simp
          have E1 := Lib.hid (HBA.out hp)
          rw [he] at CC
          have KC := Lib.hid CC; clear CC hp HSU HBA he
          go_wp2_with (go_at_call 55; refine KC.out.mono ?_; rintro e w3 ⟨rfl, h⟩; subst h; refine Hid.out ?_)
          refine Lib.hid ?_
          go_wp2
          go_ret
          exact ⟨ret_bool E1.out.symm, HB.out⟩
      · have hp : wholeB sk = false := by unfold wholeB; simp [hf]
        have E1 := Lib.hid (HBA.out hp)
        clear hp HSU HBA
        go_wp2
        go_ret
        exact ⟨ret_bool E1.out.symm, HB.out⟩
    · have hkn : k = n := by omega
      subst hkn
      have e1 : ss.all wholeB = true := by
        have := HALL.out
        rwa [List.take_of_length_le (by rw [HLEN.out]; exact Nat.le_refl _)] at this
      have E1 := Lib.hid e1; clear e1
      go_wp2
      go_ret
      exact ⟨ret_bool E1.out.symm, HB.out⟩

/-- Numbers that stand in a program's text. -/
theorem rstr_lit {s : ByteArray} {q : Rat} (h : bytes s = ratL q) (h1 : (Lib.decDigits q.num.natAbs).length ≤ 4096) (h2 : (Lib.decDigits q.den).length ≤ 4096) : RStr s q :=
  ⟨h, str_itoa h1, str_itoa (by rwa [Int.natAbs_natCast])⟩
theorem ratR2_at {s t : ByteArray} {p q : Rat} (f : Rat → Rat → Value) (hs : RStr s p) (ht : RStr t q) : ratR2 f (bytes s) (bytes t) = f p q := by
  unfold ratR2 rerrBoth
  rw [hs.rerr, if_pos rfl, ht.rerr, if_pos rfl, hs.val, ht.val]
theorem ratCmp_at {s t : ByteArray} {p q : Rat} (hs : RStr s p) (ht : RStr t q) : ratCmp (bytes s) (bytes t) = cmpQ p q := by
  unfold ratCmp rerrBoth
  rw [hs.rerr, if_pos rfl, ht.rerr, if_pos rfl, hs.val, ht.val]
theorem opQ_lit {ok : Bool} {r q : Rat} {u : ByteArray} (h : ok = true) (e : r = q) (hu : RStr u q) : opQ ok r = .tuple #[.string u, .int .i64 0] := by
  unfold opQ; rw [if_pos h, e, hu.lit]
def q12 : Rat := ⟨1, 2, by decide, by decide⟩
theorem q12_str : RStr ⟨#[49, 47, 50]⟩ q12 := rstr_lit (by decide +kernel) (by decide +kernel) (by decide +kernel)
def q13 : Rat := ⟨1, 3, by decide, by decide⟩
theorem q13_str : RStr ⟨#[49, 47, 51]⟩ q13 := rstr_lit (by decide +kernel) (by decide +kernel) (by decide +kernel)
def qM32 : Rat := ⟨-3, 2, by decide, by decide⟩
theorem qM32_str : RStr ⟨#[45, 51, 47, 50]⟩ qM32 := rstr_lit (by decide +kernel) (by decide +kernel) (by decide +kernel)
def q56 : Rat := ⟨5, 6, by decide, by decide⟩
theorem q56_str : RStr ⟨#[53, 47, 54]⟩ q56 := rstr_lit (by decide +kernel) (by decide +kernel) (by decide +kernel)
def qM3 : Rat := ⟨-3, 1, by decide, by decide⟩
theorem qM3_str : RStr ⟨#[45, 51]⟩ qM3 := rstr_lit (by decide +kernel) (by decide +kernel) (by decide +kernel)
def qM16 : Rat := ⟨-1, 6, by decide, by decide⟩
theorem qM16_str : RStr ⟨#[45, 49, 47, 54]⟩ qM16 := rstr_lit (by decide +kernel) (by decide +kernel) (by decide +kernel)
def q25 : Rat := ⟨2, 5, by decide, by decide⟩
theorem q25_str : RStr ⟨#[50, 47, 53]⟩ q25 := rstr_lit (by decide +kernel) (by decide +kernel) (by decide +kernel)
def q1 : Rat := ⟨1, 1, by decide, by decide⟩
theorem q1_str : RStr ⟨#[49]⟩ q1 := rstr_lit (by decide +kernel) (by decide +kernel) (by decide +kernel)
def q0 : Rat := ⟨0, 1, by decide, by decide⟩
theorem q0_str : RStr ⟨#[48]⟩ q0 := rstr_lit (by decide +kernel) (by decide +kernel) (by decide +kernel)
theorem sM3 : Str ⟨#[45, 51]⟩ (-3) := str_lit (by decide) (by decide) (by decide)
theorem s6' : Str ⟨#[54]⟩ 6 := str_lit (by decide) (by decide) (by decide)
theorem s4 : Str ⟨#[52]⟩ 4 := str_lit (by decide) (by decide) (by decide)
theorem s3 : Str ⟨#[51]⟩ 3 := str_lit (by decide) (by decide) (by decide)
theorem sM6 : Str ⟨#[45, 54]⟩ (-6) := str_lit (by decide) (by decide) (by decide)
theorem sM21 : Str ⟨#[45, 50, 49]⟩ (-21) := str_lit (by decide) (by decide) (by decide)
def bads : List ByteArray := [⟨#[50, 47, 52]⟩, ⟨#[51, 47, 49]⟩, ⟨#[49, 47, 45, 50]⟩, ⟨#[45, 48]⟩, ⟨#[49, 47, 48]⟩, ⟨#[]⟩]
theorem bads_err (k : Nat) (h : k < bads.length) : rerr (bytes (bads[k]'h)) = 3 ∧ (bads[k]'h).size ≤ 1000 := by
  match k, h with
  | 0, _ => exact (show rerr (bytes ⟨#[50, 47, 52]⟩) = 3 ∧ (⟨#[50, 47, 52]⟩ : ByteArray).size ≤ 1000 from ⟨by decide +kernel, by decide⟩)
  | 1, _ => exact (show rerr (bytes ⟨#[51, 47, 49]⟩) = 3 ∧ (⟨#[51, 47, 49]⟩ : ByteArray).size ≤ 1000 from ⟨by decide +kernel, by decide⟩)
  | 2, _ => exact (show rerr (bytes ⟨#[49, 47, 45, 50]⟩) = 3 ∧ (⟨#[49, 47, 45, 50]⟩ : ByteArray).size ≤ 1000 from ⟨by decide +kernel, by decide⟩)
  | 3, _ => exact (show rerr (bytes ⟨#[45, 48]⟩) = 3 ∧ (⟨#[45, 48]⟩ : ByteArray).size ≤ 1000 from ⟨by decide +kernel, by decide⟩)
  | 4, _ => exact (show rerr (bytes ⟨#[49, 47, 48]⟩) = 3 ∧ (⟨#[49, 47, 48]⟩ : ByteArray).size ≤ 1000 from ⟨by decide +kernel, by decide⟩)
  | 5, _ => exact (show rerr (bytes ⟨#[]⟩) = 3 ∧ (⟨#[]⟩ : ByteArray).size ≤ 1000 from ⟨by decide +kernel, by decide⟩)
  | n + 6, h => simp [bads] at h; omega

set_option maxHeartbeats 4000000 in
theorem awake02 (w : World) (htab : Lib.TabIs Tryz.prog w "internal/strconv.uint64pow10" .u64 Lib.pow10Tab) :
    Calls Tryz.prog 26 #[] w (Bret (.bool true) w) := by
  have hT := Lib.tabBelow_of_tabIs htab
  have C1 : ∀ W : World, Below w.heap.size w W → Calls Tryz.prog 39 #[.string ⟨#[54]⟩, .string ⟨#[45, 52]⟩] W (Bret (.tuple #[.string ⟨#[45, 51, 47, 50]⟩, .int .i64 0]) W) := fun W hW => by
    have := of_rat _ _ _ _ W s6' sM4 (by decide) (hT.on hW).here
    rwa [show Rat.divInt 6 (-4) = qM32 by decide +kernel, qM32_str.lit] at this
  have C2 : ∀ W : World, Below w.heap.size w W → Calls Tryz.prog 27 #[.string ⟨#[45, 51, 47, 50]⟩] W (Bret (.tuple #[.string ⟨#[45, 51]⟩, .int .i64 0]) W) := fun W hW => by
    have := ratNumS _ _ W qM32_str (by decide) (hT.on hW).here
    unfold numQ at this
    rwa [show qM32.num = -3 from rfl, lit_str sM3] at this
  have C3 : ∀ W : World, Below w.heap.size w W → Calls Tryz.prog 28 #[.string ⟨#[45, 51, 47, 50]⟩] W (Bret (.tuple #[.string ⟨#[50]⟩, .int .i64 0]) W) := fun W hW => by
    have := ratDenS _ _ W qM32_str (by decide) (hT.on hW).here
    unfold denQ at this
    rwa [show (qM32.den : Int) = 2 from rfl, lit_str s2] at this
  have C4 : ∀ W : World, Below w.heap.size w W → Calls Tryz.prog 30 #[.string ⟨#[45, 51, 47, 50]⟩] W (Bret (.tuple #[.string ⟨#[45, 50]⟩, .int .i64 0]) W) := fun W hW => by
    have := ratFloorS _ _ W qM32_str (by decide) (hT.on hW).here
    unfold floorQ at this
    rwa [show qM32.floor = -2 by decide +kernel, lit_str sM2] at this
  have C5 : ∀ W : World, Below w.heap.size w W → Calls Tryz.prog 31 #[.string ⟨#[45, 51, 47, 50]⟩] W (Bret (.tuple #[.string ⟨#[45, 49]⟩, .int .i64 0]) W) := fun W hW => by
    have := ratCeilS _ _ W qM32_str (by decide) (hT.on hW).here
    unfold ceilQ at this
    rwa [show qM32.ceil = -1 by decide +kernel, lit_str sM1] at this
  have C6 : ∀ W : World, Below w.heap.size w W → Calls Tryz.prog 43 #[.string ⟨#[49, 47, 50]⟩, .string ⟨#[49, 47, 51]⟩] W (Bret (.tuple #[.string ⟨#[53, 47, 54]⟩, .int .i64 0]) W) := fun W hW => by
    have := ratAdd ⟨#[49, 47, 50]⟩ ⟨#[49, 47, 51]⟩ W (by decide) (by decide) (hT.on hW).here
    rwa [ratR2_at addQ q12_str q13_str, show addQ q12 q13 = _ from opQ_lit (by decide +kernel) (by decide +kernel) q56_str] at this
  have C7 : ∀ W : World, Below w.heap.size w W → Calls Tryz.prog 49 #[.string ⟨#[49, 47, 50]⟩, .string ⟨#[45, 51]⟩] W (Bret (.tuple #[.string ⟨#[45, 49, 47, 54]⟩, .int .i64 0]) W) := fun W hW => by
    have := ratDiv ⟨#[49, 47, 50]⟩ ⟨#[45, 51]⟩ W (by decide) (by decide) (hT.on hW).here
    rwa [ratR2_at divQ q12_str qM3_str, show divQ q12 qM3 = _ from (if_neg (by decide +kernel)).trans (opQ_lit (by decide +kernel) (by decide +kernel) qM16_str)] at this
  have C8 : ∀ W : World, Below w.heap.size w W → Calls Tryz.prog 41 #[.string ⟨#[49, 47, 51]⟩, .string ⟨#[50, 47, 53]⟩] W (Bret (.tuple #[.int .i64 (-1), .int .i64 0]) W) := fun W hW => by
    have := ratCompare ⟨#[49, 47, 51]⟩ ⟨#[50, 47, 53]⟩ W (by decide) (by decide) (hT.on hW).here
    rwa [ratCmp_at q13_str q25_str, show cmpQ q13 q25 = _ from if_pos (by decide +kernel), show cmpI (q13.num * q25.den) (q25.num * q13.den) = -1 by decide +kernel] at this
  have C9 : ∀ W : World, Below w.heap.size w W → Calls Tryz.prog 49 #[.string ⟨#[49]⟩, .string ⟨#[48]⟩] W (Bret (.tuple #[.string ⟨#[]⟩, .int .i64 19]) W) := fun W hW => by
    have := ratDiv ⟨#[49]⟩ ⟨#[48]⟩ W (by decide) (by decide) (hT.on hW).here
    rwa [ratR2_at divQ q1_str q0_str, show divQ q1 q0 = _ from if_pos (by decide +kernel)] at this
  have C10 : ∀ W : World, Below w.heap.size w W → ∀ (k : Nat) (h : k < bads.length), Calls Tryz.prog 37 #[.string (bads[k]'h)] W (Bret (.int .i64 3) W) := fun W hW k h => by
    have := ratCheck (bads[k]'h) W (by have := (bads_err k h).2; omega) (hT.on hW).here
    rwa [(bads_err k h).1] at this
  have K1 := Lib.hid C1; have K2 := Lib.hid C2; have K3 := Lib.hid C3; have K4 := Lib.hid C4; have K5 := Lib.hid C5; have K6 := Lib.hid C6; have K7 := Lib.hid C7; have K8 := Lib.hid C8; have K9 := Lib.hid C9; have K10 := Lib.hid C10
  clear C1 C2 C3 C4 C5 C6 C7 C8 C9 C10 htab hT
  go_enter Tryz.func26, Tryz.ntmps26
  go_wp2_with (go_at_call 39; refine (K1.out _ (Below.refl _ _)).mono ?_; rintro e w1 ⟨rfl, hb1⟩; refine Hid.out ?_)
  refine Lib.hid ?_
  go_wp2_with (go_at_call 27; refine (K2.out _ hb1).mono ?_; rintro e w2 ⟨rfl, hb2⟩; refine Hid.out ?_)
  have hB2 := Below.chain hb1 hb2; clear hb2 hb1
  refine Lib.hid ?_
  go_wp2_with (go_at_call 28; refine (K3.out _ hB2).mono ?_; rintro e w3 ⟨rfl, hb3⟩; refine Hid.out ?_)
  have hB3 := Below.chain hB2 hb3; clear hb3 hB2
  refine Lib.hid ?_
  go_wp2_with (go_at_call 30; refine (K4.out _ hB3).mono ?_; rintro e w4 ⟨rfl, hb4⟩; refine Hid.out ?_)
  have hB4 := Below.chain hB3 hb4; clear hb4 hB3
  refine Lib.hid ?_
  go_wp2_with (go_at_call 31; refine (K5.out _ hB4).mono ?_; rintro e w5 ⟨rfl, hb5⟩; refine Hid.out ?_)
  have hB5 := Below.chain hB4 hb5; clear hb5 hB4
  refine Lib.hid ?_
  go_wp2_with (go_at_call 43; refine (K6.out _ hB5).mono ?_; rintro e w6 ⟨rfl, hb6⟩; refine Hid.out ?_)
  have hB6 := Below.chain hB5 hb6; clear hb6 hB5
  refine Lib.hid ?_
  go_wp2_with (go_at_call 49; refine (K7.out _ hB6).mono ?_; rintro e w7 ⟨rfl, hb7⟩; refine Hid.out ?_)
  have hB7 := Below.chain hB6 hb7; clear hb7 hB6
  refine Lib.hid ?_
  go_wp2_with (go_at_call 41; refine (K8.out _ hB7).mono ?_; rintro e w8 ⟨rfl, hb8⟩; refine Hid.out ?_)
  have hB8 := Below.chain hB7 hb8; clear hb8 hB7
  refine Lib.hid ?_
  go_wp2_with fail
  have B8 : Below w.heap.size w (w8.alloc (Obj.cells #[Value.string ⟨#[50, 47, 52]⟩, Value.string ⟨#[51, 47, 49]⟩, Value.string ⟨#[49, 47, 45, 50]⟩, Value.string ⟨#[45, 48]⟩, Value.string ⟨#[49, 47, 48]⟩, Value.string ⟨#[]⟩] 35)) := Below.chain hB8 ((Below.refl _ _).alloc (Nat.le_refl _) _)
  have S8 : StrsAt (w8.alloc (Obj.cells #[Value.string ⟨#[50, 47, 52]⟩, Value.string ⟨#[51, 47, 49]⟩, Value.string ⟨#[49, 47, 45, 50]⟩, Value.string ⟨#[45, 48]⟩, Value.string ⟨#[49, 47, 48]⟩, Value.string ⟨#[]⟩] 35)) w8.heap.size bads := fun j h => by
    match j, h with
    | 0, _ => show _ = some (Value.string ⟨#[50, 47, 52]⟩); go_cell
    | 1, _ => show _ = some (Value.string ⟨#[51, 47, 49]⟩); go_cell
    | 2, _ => show _ = some (Value.string ⟨#[49, 47, 45, 50]⟩); go_cell
    | 3, _ => show _ = some (Value.string ⟨#[45, 48]⟩); go_cell
    | 4, _ => show _ = some (Value.string ⟨#[49, 47, 48]⟩); go_cell
    | 5, _ => show _ = some (Value.string ⟨#[]⟩); go_cell
    | n + 6, h => simp [bads] at h; omega
  have L8 : w8.heap.size < (w8.alloc (Obj.cells #[Value.string ⟨#[50, 47, 52]⟩, Value.string ⟨#[51, 47, 49]⟩, Value.string ⟨#[49, 47, 45, 50]⟩, Value.string ⟨#[45, 48]⟩, Value.string ⟨#[49, 47, 48]⟩, Value.string ⟨#[]⟩] 35)).heap.size := by simp
  generalize w8.alloc (Obj.cells #[Value.string ⟨#[50, 47, 52]⟩, Value.string ⟨#[51, 47, 49]⟩, Value.string ⟨#[49, 47, 45, 50]⟩, Value.string ⟨#[45, 48]⟩, Value.string ⟨#[49, 47, 48]⟩, Value.string ⟨#[]⟩] 35) = W9 at *
  generalize w8.heap.size = b at *
  have HS := Lib.hid (fun W (hW : Below W9.heap.size W9 W) => S8.on L8 hW); have HB8 := Lib.hid B8
  clear S8 L8 hB8 B8
  go_loopw [102] (fun iv wr => ∃ k : Nat, k ≤ 6 ∧ iv = .int .i64 k ∧ Below W9.heap.size W9 wr) (fun iv _ => 6 - (intOf iv).toNat)
  case atStart => exact ⟨0, Nat.zero_le _, rfl, Below.refl _ _⟩
  case round =>
    obtain ⟨k, hk, rfl, hbw⟩ := hrel
    have HB := Lib.hid hbw; clear hbw
    by_cases hlt : k < 6
    · have hlt' : k < bads.length := hlt
      have ck : wr.cell? ⟨b, k, none⟩ = some (.string (bads[k]'hlt')) := HS.out wr HB.out k hlt'
      have CC := K10.out wr (Below.chain HB8.out HB.out) k hlt'
      generalize bads[k]'hlt' = sk at *
      have KC := Lib.hid CC; clear CC K1 K2 K3 K4 K5 K6 K7 K8 K9 K10
      go_wp2_with (go_at_call 37; refine KC.out.mono ?_; rintro e w10 ⟨rfl, hb10⟩; refine Hid.out ?_)
      refine Lib.hid ?_
      go_wp2
      go_roundw
      case rel => exact ⟨k + 1, by omega, by go_num, Below.chain HB.out hb10⟩
      case measure => simp [intOf]; omega
    · have hk6 : k = 6 := by omega
      subst hk6
      have CC := K9.out wr (Below.chain HB8.out HB.out)
      have KC := Lib.hid CC; clear CC K1 K2 K3 K4 K5 K6 K7 K8 K9 K10
      go_wp2_with (go_at_call 49; refine KC.out.mono ?_; rintro e w10 ⟨rfl, hb10⟩; refine Hid.out ?_)
      refine Lib.hid ?_
      go_wp2
      refine bodyPost_ret (v := .bool true) (by simp [results, Tryz.results26, go_sem]) rfl ?_
      exact ⟨rfl, Below.chain (Below.chain HB8.out HB.out) hb10⟩

set_option maxHeartbeats 4000000 in
theorem playNumbers_any (w : World) (htab : Lib.TabIs Tryz.prog w "internal/strconv.uint64pow10" .u64 Lib.pow10Tab) :
    Calls Tryz.prog 59 #[] w (Bret (.bool true) w) := by
  have hT := Lib.tabBelow_of_tabIs htab
  have C1 : ∀ W : World, Below w.heap.size w W → Calls Tryz.prog 57 #[.string ⟨#[55]⟩, .string ⟨#[45, 51]⟩] W (Bret (.tuple #[.string ⟨#[45, 50, 49]⟩, .int .i64 0]) W) := fun W hW => by
    have := mulZ _ _ _ _ W s7 sM3 (hT.on hW).here
    rwa [resV_lit' (s := ⟨#[45, 50, 49]⟩) (r := 7 * (-3)) sM21 (by decide)] at this
  have C2 : ∀ W : World, Below w.heap.size w W → Calls Tryz.prog 65 #[.string ⟨#[45, 50, 49]⟩, .string ⟨#[52]⟩] W (Bret (.tuple #[.string ⟨#[45, 54]⟩, .int .i64 0]) W) := fun W hW => by
    have := quoZ _ _ _ _ W sM21 s4 (by decide) (hT.on hW).here
    rwa [resV_lit' (s := ⟨#[45, 54]⟩) (r := (-21 : Int).fdiv 4) sM6 (by decide)] at this
  have C3 : ∀ W : World, Below w.heap.size w W → Calls Tryz.prog 66 #[.string ⟨#[45, 50, 49]⟩, .string ⟨#[52]⟩] W (Bret (.tuple #[.string ⟨#[51]⟩, .int .i64 0]) W) := fun W hW => by
    have := remZ _ _ _ _ W sM21 s4 (by decide) (hT.on hW).here
    rwa [resV_lit' (s := ⟨#[51]⟩) (r := (-21 : Int).fmod 4) s3 (by decide)] at this
  have C4 : ∀ W : World, Below w.heap.size w W → Calls Tryz.prog 43 #[.string ⟨#[49, 47, 50]⟩, .string ⟨#[49, 47, 51]⟩] W (Bret (.tuple #[.string ⟨#[53, 47, 54]⟩, .int .i64 0]) W) := fun W hW => by
    have := ratAdd ⟨#[49, 47, 50]⟩ ⟨#[49, 47, 51]⟩ W (by decide) (by decide) (hT.on hW).here
    rwa [ratR2_at addQ q12_str q13_str, show addQ q12 q13 = _ from opQ_lit (by decide +kernel) (by decide +kernel) q56_str] at this
  have K1 := Lib.hid C1; have K2 := Lib.hid C2; have K3 := Lib.hid C3; have K4 := Lib.hid C4
  clear C1 C2 C3 C4 htab hT
  go_enter Tryz.func59, Tryz.ntmps59
  go_wp2_with (go_at_call 57; refine (K1.out _ (Below.refl _ _)).mono ?_; rintro e w1 ⟨rfl, hb1⟩; refine Hid.out ?_)
  refine Lib.hid ?_
  go_wp2_with (go_at_call 65; refine (K2.out _ hb1).mono ?_; rintro e w2 ⟨rfl, hb2⟩; refine Hid.out ?_)
  have hB2 := Below.chain hb1 hb2; clear hb2 hb1
  refine Lib.hid ?_
  go_wp2_with (go_at_call 66; refine (K3.out _ hB2).mono ?_; rintro e w3 ⟨rfl, hb3⟩; refine Hid.out ?_)
  have hB3 := Below.chain hB2 hb3; clear hb3 hB2
  refine Lib.hid ?_
  go_wp2_with (go_at_call 43; refine (K4.out _ hB3).mono ?_; rintro e w4 ⟨rfl, hb4⟩; refine Hid.out ?_)
  have hB4 := Below.chain hB3 hb4; clear hb4 hB3
  refine Lib.hid ?_
  go_wp2
  refine bodyPost_ret (v := .bool true) (by simp [results, Tryz.results59, go_sem]) rfl ?_
  exact ⟨rfl, hB4⟩
end Go.Proofs.YtbadibbdoljjhaaGreatDoor

/-
  BigintRing: the walk.
-/
namespace Go.Proofs.YtbadibbdoljjhaaGreatDoor
open Go Go.Proofs Go.RowKit

def Sz (k : Nat) (x : Int) : Prop := x.natAbs < 10 ^ k
theorem Sz.mono {j k : Nat} {x : Int} (h : Sz j x) (hjk : j ≤ k) : Sz k x := Nat.lt_of_lt_of_le h (Nat.pow_le_pow_right (by decide) hjk)
theorem Sz.add {k : Nat} {x y : Int} (h1 : Sz k x) (h2 : Sz k y) : Sz (k + 1) (x + y) := by
  unfold Sz at *
  rw [Nat.pow_succ]
  generalize (10 : Nat) ^ k = p at *
  omega
theorem Sz.neg {k : Nat} {x : Int} (h : Sz k x) : Sz k (-x) := by unfold Sz at *; rwa [Int.natAbs_neg]
theorem Sz.mul {j k : Nat} {x y : Int} (h1 : Sz j x) (h2 : Sz k y) : Sz (j + k) (x * y) := by
  unfold Sz at *
  rw [Int.natAbs_mul, Nat.pow_add]
  exact Nat.mul_lt_mul'' h1 h2
theorem Sz.fits {k : Nat} {x : Int} (h : Sz k x) (h0 : 0 < k) (hk : k ≤ 4096) : ¬ 4096 < (Lib.decDigits x.natAbs).length := fits_of_lt k h h0 hk
theorem Sz.str {k : Nat} {x : Int} (h : Sz k x) (h0 : 0 < k) (hk : k ≤ 4096) : Str (str (Lib.itoa x)) x := str_itoa (Nat.le_of_not_lt (h.fits h0 hk))

theorem all_three (p : ByteArray → Bool) (s t u : ByteArray) : [s, t, u].all p = (p s && (p t && p u)) := by simp

end Go.Proofs.YtbadibbdoljjhaaGreatDoor

/-
  rational: sizes; its functions at numbers that are short enough.
-/
namespace Go.Proofs.YtbadibbdoljjhaaGreatDoor
open Go Go.Proofs Go.RowKit

/-- The numerator and the denominator have at most k digits. -/
structure RZ (k : Nat) (q : Rat) : Prop where
  num : Sz k q.num
  den : Sz k (q.den : Int)
theorem RZ.mono {j k : Nat} {q : Rat} (h : RZ j q) (hk : j ≤ k) : RZ k q := ⟨h.num.mono hk, h.den.mono hk⟩
theorem RZ.pos {k : Nat} {q : Rat} (h : RZ k q) : 0 < k := by
  have h1 := h.den; have h2 := q.den_pos
  unfold Sz at h1
  rcases Nat.eq_zero_or_pos k with rfl | hk
  · simp at h1; omega
  · exact hk
theorem RZ.rs {k : Nat} {q : Rat} (h : RZ k q) (hk : k ≤ 4096) : RatS q := ⟨h.num.str h.pos hk, h.den.str h.pos hk⟩
theorem fits_sz {k : Nat} {z : Int} (h : Sz k z) (h0 : 0 < k) (hk : k ≤ 4096) : decide (Fits z) = true := decide_eq_true (h.fits h0 hk)
theorem RZ.divInt {k : Nat} {x y : Int} (hx : Sz k x) (hy : Sz k y) (h0 : y ≠ 0) : RZ k (Rat.divInt x y) := by
  obtain ⟨e1, e2⟩ := reduced_parts (x := x) h0
  have hg := sgcd_ne (x := x) h0
  refine ⟨?_, ?_⟩
  · rw [← e1]; exact Nat.lt_of_le_of_lt (fdiv_le x _ hg) hx
  · rw [← e2]; exact Nat.lt_of_le_of_lt (fdiv_le y _ hg) hy
theorem RZ.cross {i j : Nat} {p q : Rat} (hp : RZ i p) (hq : RZ j q) : Sz (i + j) (p.num * q.den) ∧ Sz (i + j) (q.num * p.den) ∧ Sz (i + j) ((p.den : Int) * q.den) ∧ Sz (i + j) (p.num * q.num) ∧ Sz (i + j) ((p.den : Int) * q.num) :=
  ⟨hp.num.mul hq.den, by rw [Nat.add_comm]; exact hq.num.mul hp.den, hp.den.mul hq.den, hp.num.mul hq.num, hp.den.mul hq.num⟩
theorem RZ.add {i j : Nat} {p q : Rat} (hp : RZ i p) (hq : RZ j q) : RZ (i + j + 1) (p + q) := by
  obtain ⟨h1, h2, h3, -, -⟩ := hp.cross hq
  rw [← divInt_add]
  exact RZ.divInt (h1.add h2) (h3.mono (by omega)) (den_mul_ne p q)
theorem RZ.mul {i j : Nat} {p q : Rat} (hp : RZ i p) (hq : RZ j q) : RZ (i + j) (p * q) := by
  obtain ⟨-, -, h3, h4, -⟩ := hp.cross hq
  rw [← divInt_mul]
  exact RZ.divInt h4 h3 (den_mul_ne p q)
theorem num_ne {q : Rat} (h : q ≠ 0) : q.num ≠ 0 := fun e => h (Rat.num_eq_zero.1 e)
theorem RZ.div {i j : Nat} {p q : Rat} (hp : RZ i p) (hq : RZ j q) (h : q ≠ 0) : RZ (i + j) (p / q) := by
  obtain ⟨h1, -, -, -, h5⟩ := hp.cross hq
  rw [← divInt_div]
  exact RZ.divInt h1 h5 (Int.mul_ne_zero (den_ne p) (num_ne h))
theorem RZ.neg {i : Nat} {p : Rat} (hp : RZ i p) : RZ i (-p) := ⟨by rw [Rat.neg_num]; exact hp.num.neg, by rw [Rat.neg_den]; exact hp.den⟩
theorem addF_ok {i j : Nat} {p q : Rat} (hp : RZ i p) (hq : RZ j q) (hk : i + j + 1 ≤ 4096) : addF p q = true := by
  obtain ⟨h1, h2, h3, -, -⟩ := hp.cross hq
  have h0 := hp.pos
  unfold addF
  rw [fits_sz h1 (by omega) (by omega), fits_sz h2 (by omega) (by omega), fits_sz (h1.add h2) (by omega) hk, fits_sz h3 (by omega) (by omega)]; rfl
theorem subF_ok {i j : Nat} {p q : Rat} (hp : RZ i p) (hq : RZ j q) (hk : i + j + 1 ≤ 4096) : subF p q = true := by
  obtain ⟨h1, h2, h3, -, -⟩ := hp.cross hq
  have h0 := hp.pos
  have h4 : Sz (i + j + 1) (p.num * q.den - q.num * p.den) := by rw [Int.sub_eq_add_neg]; exact h1.add h2.neg
  unfold subF
  rw [fits_sz h1 (by omega) (by omega), fits_sz h2 (by omega) (by omega), fits_sz h4 (by omega) hk, fits_sz h3 (by omega) (by omega)]; rfl
theorem mulF_ok {i j : Nat} {p q : Rat} (hp : RZ i p) (hq : RZ j q) (hk : i + j ≤ 4096) : mulF p q = true := by
  obtain ⟨-, -, h3, h4, -⟩ := hp.cross hq
  have h0 := hp.pos
  unfold mulF
  rw [fits_sz h4 (by omega) hk, fits_sz h3 (by omega) hk]; rfl
theorem divF_ok {i j : Nat} {p q : Rat} (hp : RZ i p) (hq : RZ j q) (hk : i + j ≤ 4096) : divF p q = true := by
  obtain ⟨h1, -, -, -, h5⟩ := hp.cross hq
  have h0 := hp.pos
  unfold divF
  rw [fits_sz h1 (by omega) hk, fits_sz h5 (by omega) hk]; rfl
theorem ratL_len (q : Rat) : (ratL q).length ≤ (Lib.itoa q.num).length + (Lib.itoa (q.den : Int)).length + 1 := by
  unfold ratL; split
  · omega
  · rw [List.length_append, List.length_cons]; omega
theorem RStr.size {s : ByteArray} {q : Rat} (h : RStr s q) : s.size ≤ 9000 := by
  have h1 : (bytes s).length = s.size := rfl
  have h2 := ratL_len q
  have h3 := h.rs.num.size; have h4 := h.rs.den.size
  rw [str_size] at h3 h4
  rw [h.text] at h1
  omega
theorem RStr.short {s : ByteArray} {q : Rat} {k : Nat} (h : RStr s q) (hs : s.size ≤ k) (h0 : 0 < k) : RZ k q := by
  have h1 : (bytes s).length = s.size := rfl
  rw [h.text] at h1
  have ha : (Lib.itoa q.num).length ≤ k ∧ (Lib.itoa (q.den : Int)).length ≤ k := by
    unfold ratL at h1
    split at h1
    · next hd => rw [hd]; refine ⟨by omega, ?_⟩; rw [show Lib.itoa ((1 : Nat) : Int) = [49] from itoa_one]; simp; omega
    · rw [List.length_append, List.length_cons] at h1; omega
  have hb : ∀ z : Int, (Lib.itoa z).length ≤ k → Sz k z := fun z hz => by
    have : (Lib.decDigits z.natAbs).length ≤ (Lib.itoa z).length := by
      by_cases hn : z < 0
      · rw [itoa_neg hn]; simp
      · rw [itoa_nonneg hn]; exact Nat.le_refl _
    exact dec_pow (by omega)
  exact ⟨hb _ ha.1, hb _ ha.2⟩

theorem raddS {s t : ByteArray} {p q : Rat} {i j : Nat} (hs : RStr s p) (ht : RStr t q) (hi : RZ i p) (hj : RZ j q) (hk : i + j + 1 ≤ 4096) (w : World) (htab : Lib.TabIs Tryz.prog w "internal/strconv.uint64pow10" .u64 Lib.pow10Tab) :
    Calls Tryz.prog 43 #[.string s, .string t] w (Bret (.tuple #[.string (str (ratL (p + q))), .int .i64 0]) w) := by
  have := ratAdd s t w (by have := hs.size; omega) (by have := ht.size; omega) htab
  rwa [ratR2_at addQ hs ht, show addQ p q = _ from if_pos (addF_ok hi hj hk)] at this
theorem rsubS {s t : ByteArray} {p q : Rat} {i j : Nat} (hs : RStr s p) (ht : RStr t q) (hi : RZ i p) (hj : RZ j q) (hk : i + j + 1 ≤ 4096) (w : World) (htab : Lib.TabIs Tryz.prog w "internal/strconv.uint64pow10" .u64 Lib.pow10Tab) :
    Calls Tryz.prog 45 #[.string s, .string t] w (Bret (.tuple #[.string (str (ratL (p - q))), .int .i64 0]) w) := by
  have := ratSub s t w (by have := hs.size; omega) (by have := ht.size; omega) htab
  rwa [ratR2_at subQ hs ht, show subQ p q = _ from if_pos (subF_ok hi hj hk)] at this
theorem rmulS {s t : ByteArray} {p q : Rat} {i j : Nat} (hs : RStr s p) (ht : RStr t q) (hi : RZ i p) (hj : RZ j q) (hk : i + j ≤ 4096) (w : World) (htab : Lib.TabIs Tryz.prog w "internal/strconv.uint64pow10" .u64 Lib.pow10Tab) :
    Calls Tryz.prog 47 #[.string s, .string t] w (Bret (.tuple #[.string (str (ratL (p * q))), .int .i64 0]) w) := by
  have := ratMul s t w (by have := hs.size; omega) (by have := ht.size; omega) htab
  rwa [ratR2_at mulQ hs ht, show mulQ p q = _ from if_pos (mulF_ok hi hj hk)] at this
theorem rdivS {s t : ByteArray} {p q : Rat} {i j : Nat} (hs : RStr s p) (ht : RStr t q) (hi : RZ i p) (hj : RZ j q) (hq : q ≠ 0) (hk : i + j ≤ 4096) (w : World) (htab : Lib.TabIs Tryz.prog w "internal/strconv.uint64pow10" .u64 Lib.pow10Tab) :
    Calls Tryz.prog 49 #[.string s, .string t] w (Bret (.tuple #[.string (str (ratL (p / q))), .int .i64 0]) w) := by
  have := ratDiv s t w (by have := hs.size; omega) (by have := ht.size; omega) htab
  rwa [ratR2_at divQ hs ht, show divQ p q = _ from (if_neg hq).trans (if_pos (divF_ok hi hj hk))] at this
theorem rdivS0 {s t : ByteArray} {p : Rat} (hs : RStr s p) (ht : RStr t 0) (w : World) (htab : Lib.TabIs Tryz.prog w "internal/strconv.uint64pow10" .u64 Lib.pow10Tab) :
    Calls Tryz.prog 49 #[.string s, .string t] w (Bret (.tuple #[.string ⟨#[]⟩, .int .i64 19]) w) := by
  have := ratDiv s t w (by have := hs.size; omega) (by have := ht.size; omega) htab
  rwa [ratR2_at divQ hs ht, show divQ p 0 = _ from if_pos rfl] at this
theorem rnegS {s : ByteArray} {p : Rat} (hs : RStr s p) (w : World) (htab : Lib.TabIs Tryz.prog w "internal/strconv.uint64pow10" .u64 Lib.pow10Tab) :
    Calls Tryz.prog 29 #[.string s] w (Bret (.tuple #[.string (str (ratL (-p))), .int .i64 0]) w) := ratNegS s p w hs (by have := hs.size; omega) htab
/-- The order of two rational numbers. -/
def ordQ (p q : Rat) : Int := cmpI (p.num * q.den) (q.num * p.den)
theorem rcmpS {s t : ByteArray} {p q : Rat} {i j : Nat} (hs : RStr s p) (ht : RStr t q) (hi : RZ i p) (hj : RZ j q) (hk : i + j ≤ 4096) (w : World) (htab : Lib.TabIs Tryz.prog w "internal/strconv.uint64pow10" .u64 Lib.pow10Tab) :
    Calls Tryz.prog 41 #[.string s, .string t] w (Bret (.tuple #[.int .i64 (ordQ p q), .int .i64 0]) w) := by
  have := ratCompare s t w (by have := hs.size; omega) (by have := ht.size; omega) htab
  obtain ⟨h1, h2, -, -, -⟩ := hi.cross hj
  have h0 := hi.pos
  rwa [ratCmp_at hs ht, show cmpQ p q = _ from if_pos ⟨h1.fits (by omega) hk, h2.fits (by omega) hk⟩] at this
theorem rstrZ {k : Nat} {q : Rat} (h : RZ k q) (hk : k ≤ 4096) : RStr (str (ratL q)) q := RStr.of (h.rs hk)
theorem ratL_int (z : Int) : ratL (z : Rat) = Lib.itoa z := by unfold ratL; rw [if_pos (Rat.den_intCast z), Rat.num_intCast]
theorem RStr.ofInt {s : ByteArray} {z : Int} (h : Str s z) : RStr s (z : Rat) := ⟨by rw [ratL_int]; exact h.text, ⟨by rw [Rat.num_intCast]; exact str_itoa h.len, by rw [Rat.den_intCast]; exact str_small (by decide)⟩⟩
theorem ordQ_lt {p q : Rat} (h : p < q) : ordQ p q = -1 := cmpI_lt ((Rat.lt_iff p q).1 h)
theorem ordQ_gt {p q : Rat} (h : q < p) : ordQ p q = 1 := cmpI_gt ((Rat.lt_iff q p).1 h)
theorem ordQ_eq (p : Rat) : ordQ p p = 0 := by unfold ordQ cmpI; rw [if_neg (Int.lt_irrefl _), if_pos rfl]
/-- The order, by cases. -/
theorem ordQ_cases (p q : Rat) : (ordQ p q = -1 ∧ p < q) ∨ (ordQ p q = 0 ∧ p = q) ∨ (ordQ p q = 1 ∧ q < p) := by
  by_cases h1 : p < q
  · exact .inl ⟨ordQ_lt h1, h1⟩
  · have h2 := Rat.not_lt.1 h1
    by_cases h3 : q < p
    · exact .inr (.inr ⟨ordQ_gt h3, h3⟩)
    · have h4 := Rat.not_lt.1 h3
      have e := Rat.le_antisymm h4 h2
      subst e
      exact .inr (.inl ⟨ordQ_eq p, rfl⟩)
theorem zero_rstr : RStr ⟨#[48]⟩ 0 := q0_str
theorem rstr_zero {s : ByteArray} (h : RStr s 0) : s = ⟨#[48]⟩ := by rw [← str_bytes s, h.text, ← zero_rstr.text, str_bytes]
theorem rstr_ne {s : ByteArray} {q : Rat} (h : RStr s q) (hq : q ≠ 0) : (s.toList == [48]) = false := eqLit s [48] (fun e => hq (ratL_inj (h.text.symm.trans (e.trans zero_rstr.text))))
theorem rok_rstr {s : ByteArray} (h : rokB s = true) : RStr s (ratV (bytes s)) ∧ RZ 300 (ratV (bytes s)) := by
  unfold rokB at h
  rw [Bool.and_eq_true, decide_eq_true_eq, decide_eq_true_eq] at h
  have h1 := rstr_of_rerr h.2
  exact ⟨h1, h1.short h.1 (by decide)⟩
theorem broken_rstr {s : ByteArray} (h : brokenB s = true) : RStr s (ratV (bytes s)) ∧ RZ 250 (ratV (bytes s)) := by
  unfold brokenB at h
  rw [Bool.and_eq_true, decide_eq_true_eq, decide_eq_true_eq] at h
  have h1 := rstr_of_rerr h.2
  exact ⟨h1, h1.short h.1 (by decide)⟩
end Go.Proofs.YtbadibbdoljjhaaGreatDoor
