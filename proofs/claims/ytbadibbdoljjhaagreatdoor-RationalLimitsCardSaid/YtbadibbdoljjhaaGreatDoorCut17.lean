import Derived.Test.YtbadibbdoljjhaaGreatDoorCut13
import Derived.Test.YtbadibbdoljjhaaGreatDoorCut16
import Derived.Test.YtbadibbdoljjhaaGreatDoorCut3
import Derived.Test.YtbadibbdoljjhaaGreatDoorCut7

set_option linter.unusedVariables false
/-
  The reference: Form, Negative, Digits, Check, Few; the laws' few and right.
-/
namespace Go.Proofs.YtbadibbdoljjhaaGreatDoor
open Go Go.Proofs Go.RowKit

def digFrom (s : ByteArray) (f : Nat) : Bool := ((bytes s).drop f).all isDig
theorem digFrom_true {s : ByteArray} {f : Nat} (h : ∀ j, f ≤ j → j < s.size → 48 ≤ byteAt s j ∧ byteAt s j ≤ 57) : digFrom s f = true := by
  unfold digFrom
  rw [List.all_eq_true]
  intro c hc
  obtain ⟨i, hi, rfl⟩ := List.mem_iff_getElem.1 hc
  rw [List.length_drop] at hi
  rw [List.getElem_drop]
  have hlt : f + i < s.size := by rw [bytes_length] at hi; omega
  have := h (f + i) (by omega) hlt
  exact (isDig_byte s (f + i) hlt).trans (by simp [this.1, this.2])
theorem digFrom_false {s : ByteArray} {f j : Nat} (h1 : f ≤ j) (h2 : j < s.size) (h : ¬ (48 ≤ byteAt s j ∧ byteAt s j ≤ 57)) : digFrom s f = false := by
  cases hd : digFrom s f
  · rfl
  · exfalso
    unfold digFrom at hd
    rw [List.all_eq_true] at hd
    have hlt : j - f < ((bytes s).drop f).length := by rw [List.length_drop, bytes_length]; omega
    have := hd _ (List.getElem_mem hlt)
    rw [List.getElem_drop] at this
    have e : f + (j - f) = j := by omega
    simp only [e] at this
    have e2 := (isDig_byte s j h2).symm.trans this
    simp at e2
    exact h e2

/-- What Form tells, by its cases. -/
theorem canon_zero : canonB [48] = true := by decide
theorem canon_nil : canonB [] = false := by decide
theorem byte0 {s : ByteArray} {c : UInt8} {t : List UInt8} (h : bytes s = c :: t) : byteAt s 0 = c.toNat := by unfold byteAt; rw [h]; rfl
theorem byte1 {s : ByteArray} {c d : UInt8} {t : List UInt8} (h : bytes s = c :: d :: t) : byteAt s 1 = d.toNat := by unfold byteAt; rw [h]; rfl
theorem canon_plain {s : ByteArray} (h0 : 0 < s.size) (hn : byteAt s 0 ≠ 45) (hne : s ≠ ⟨#[48]⟩) : canonB (bytes s) = (!decide (byteAt s 0 = 48) && digFrom s 0) := by
  have hl : (bytes s).length = s.size := rfl
  match hb : bytes s, hl with
  | [], hl => simp at hl; omega
  | c :: t, hl =>
    have e0 := byte0 hb
    have hneg : negB (c :: t) = false := by
      cases h : negB (c :: t)
      · rfl
      · exfalso
        unfold negB Lib.hasPrefix at h
        have : c = 45 := by simpa using (by simpa [List.isPrefixOf] using h : 45 = c).symm
        subst this
        exact hn e0
    have hd : digL (c :: t) = c :: t := by
      rcases neg_cases (c :: t) with ⟨h, -⟩ | ⟨-, h⟩
      · rw [hneg] at h; cases h
      · exact h
    unfold canonB digFrom
    rw [hd, hb, List.drop_zero, e0]
    by_cases h48 : c = 48
    · subst h48
      have h1 : 1 < (48 :: t).length := by
        rcases Nat.lt_or_ge 1 ((48 : UInt8) :: t).length with h | h
        · exact h
        · exfalso
          have ht : t = [] := by simpa using h
          subst ht
          exact hne (ByteArray.ext (Array.ext' hb))
      rw [decide_eq_true h1]
      simp
    · have : ¬ c.toNat = 48 := fun h => h48 (UInt8.toNat_inj.1 (by rw [h]; rfl))
      simp [h48, this]
theorem canon_minus {s : ByteArray} (h1 : 1 < s.size) (hn : byteAt s 0 = 45) : canonB (bytes s) = (!decide (byteAt s 1 = 48) && digFrom s 1) := by
  have hl : (bytes s).length = s.size := rfl
  match hb : bytes s, hl with
  | [], hl => simp at hl; omega
  | [c], hl => simp at hl; omega
  | c :: d :: t, hl =>
    have e0 := byte0 hb
    have e1 := byte1 hb
    have : c = 45 := UInt8.toNat_inj.1 (by rw [← e0, hn]; rfl)
    subst this
    unfold canonB digFrom
    rw [dig_cons, hb, e1]
    by_cases h48 : d = 48
    · subst h48; simp
    · have : ¬ d.toNat = 48 := fun h => h48 (UInt8.toNat_inj.1 (by rw [h]; rfl))
      simp [h48, this]
theorem canon_dash {s : ByteArray} (h1 : s.size = 1) (hn : byteAt s 0 = 45) : canonB (bytes s) = false := by
  have hl : (bytes s).length = s.size := rfl
  match hb : bytes s, hl with
  | [], hl => simp at hl; omega
  | [c], hl =>
    have e0 := byte0 hb
    have : c = 45 := UInt8.toNat_inj.1 (by rw [← e0, hn]; rfl)
    subst this; decide
  | c :: d :: t, hl => simp at hl; omega

set_option maxHeartbeats 4000000 in
theorem form_any (s : ByteArray) (w : World) (hs : s.size ≤ 9223372036854775807) :
    Calls Tryz.prog 117 #[.string s] w fun e w' => e = .returned (.bool (canonB (bytes s))) ∧ w' = w := by
  by_cases hz : s = ⟨#[48]⟩
  · subst hz
    rw [show bytes ⟨#[48]⟩ = [48] from rfl, canon_zero]
    clear hs
    go_enter Tryz.func117, Tryz.ntmps117
    go_wp2
    go_ret
    exact ⟨rfl, rfl⟩
  · have hd := eq48 s hz
    by_cases h0 : s.size = 0
    · have hq : canonB (bytes s) = false := by rw [List.length_eq_zero_iff.1 (show (bytes s).length = 0 from h0)]; exact canon_nil
      rw [hq]
      clear hz hq
      go_enter Tryz.func117, Tryz.ntmps117
      go_wp2
      go_ret
      exact ⟨rfl, rfl⟩
    · have hpos : 0 < s.size := by omega
      have g0 := byteAt_get s 0 hpos
      by_cases hm : byteAt s 0 = 45
      · by_cases h1 : s.size = 1
        · rw [canon_dash h1 hm]
          rw [hm] at g0
          clear hz hm
          go_enter Tryz.func117, Tryz.ntmps117
          go_wp2
          go_ret
          exact ⟨rfl, rfl⟩
        · have h1' : 1 < s.size := by omega
          have g1 := byteAt_get s 1 h1'
          have hq := canon_minus h1' hm
          rw [hm] at g0
          generalize hb1 : byteAt s 1 = b1 at *
          by_cases h48 : b1 = 48
          · subst h48
            rw [hq]
            clear hz hm hq hb1
            go_enter Tryz.func117, Tryz.ntmps117
            go_wp2
            go_ret
            exact ⟨rfl, rfl⟩
          · have hq2 : canonB (bytes s) = digFrom s 1 := by rw [hq]; simp [h48]
            rw [hq2]
            have t1 : ((1 : Int) == (s.size : Int)) = false := by rw [beq_eq_false_iff_ne]; omega
            have t2 : ((b1 : Int) == 48) = false := by rw [beq_eq_false_iff_ne]; omega
            clear hz hm hq hq2 hb1 h48
            go_enter Tryz.func117, Tryz.ntmps117
            go_wp2_with fail
            clear g0 g1 hd t1 t2
            go_loop [4] (fun iv => ∃ k : Nat, 1 ≤ k ∧ k ≤ s.size ∧ iv = .int .i64 k ∧ ∀ j, 1 ≤ j → j < k → 48 ≤ byteAt s j ∧ byteAt s j ≤ 57) (fun iv => s.size - (intOf iv).toNat)
            case atStart => exact ⟨1, Nat.le_refl _, by omega, rfl, fun j h1 h2 => by omega⟩
            case round =>
              obtain ⟨k, hk1, hk, rfl, hall⟩ := hrel
              have HALL := Lib.hid hall; clear hall
              by_cases hlt : k < s.size
              · have hgk := byteAt_get s k hlt
                by_cases hdk : 48 ≤ byteAt s k ∧ byteAt s k ≤ 57
                · have e1 : ∀ j, 1 ≤ j → j < k + 1 → 48 ≤ byteAt s j ∧ byteAt s j ≤ 57 := fun j h1 h2 => by
                    by_cases hj : j = k
                    · subst hj; exact hdk
                    · exact HALL.out j h1 (by omega)
                  have E1 := Lib.hid e1; clear e1
                  obtain ⟨hd1, hd2⟩ := hdk
                  generalize byteAt s k = b at *
                  go_wp2
                  go_round
                  case rel => exact ⟨k + 1, by omega, by omega, by go_num, E1.out⟩
                  case measure => simp [intOf]; omega
                · have e1 : digFrom s 1 = false := digFrom_false hk1 hlt hdk
                  have E1 := Lib.hid e1; clear e1
                  have hdd : byteAt s k < 48 ∨ (¬ byteAt s k < 48 ∧ 57 < byteAt s k) := by omega
                  clear hdk
                  generalize byteAt s k = b at *
                  rcases hdd with hdd | ⟨hdd, hde⟩
                  all_goals
                    go_wp2
                    go_ret
                    exact ⟨ret_bool E1.out.symm, rfl⟩
              · have hkn : k = s.size := by omega
                subst hkn
                have e1 : digFrom s 1 = true := digFrom_true HALL.out
                have E1 := Lib.hid e1; clear e1
                go_wp2
                go_ret
                exact ⟨ret_bool E1.out.symm, rfl⟩
      · have hq := canon_plain hpos hm hz
        generalize hb0 : byteAt s 0 = b0 at *
        have hm' : b0 ≠ 45 := hm
        by_cases h48 : b0 = 48
        · subst h48
          rw [hq]
          clear hz hm hq hb0
          go_enter Tryz.func117, Tryz.ntmps117
          go_wp2
          go_ret
          exact ⟨rfl, rfl⟩
        · have hq2 : canonB (bytes s) = digFrom s 0 := by rw [hq]; simp [h48]
          rw [hq2]
          have t1 : ((0 : Int) == (s.size : Int)) = false := by rw [beq_eq_false_iff_ne]; omega
          have t2 : ((b0 : Int) == 48) = false := by rw [beq_eq_false_iff_ne]; omega
          have t3 : ((b0 : Int) == 45) = false := by rw [beq_eq_false_iff_ne]; omega
          clear hz hm hm' hq hq2 hb0 h48
          go_enter Tryz.func117, Tryz.ntmps117
          go_wp2_with fail
          clear g0 hd t1 t2 t3
          go_loop [4] (fun iv => ∃ k : Nat, 0 ≤ k ∧ k ≤ s.size ∧ iv = .int .i64 k ∧ ∀ j, 0 ≤ j → j < k → 48 ≤ byteAt s j ∧ byteAt s j ≤ 57) (fun iv => s.size - (intOf iv).toNat)
          case atStart => exact ⟨0, Nat.le_refl _, by omega, rfl, fun j h1 h2 => by omega⟩
          case round =>
            obtain ⟨k, hk1, hk, rfl, hall⟩ := hrel
            have HALL := Lib.hid hall; clear hall
            by_cases hlt : k < s.size
            · have hgk := byteAt_get s k hlt
              by_cases hdk : 48 ≤ byteAt s k ∧ byteAt s k ≤ 57
              · have e1 : ∀ j, 0 ≤ j → j < k + 1 → 48 ≤ byteAt s j ∧ byteAt s j ≤ 57 := fun j h1 h2 => by
                  by_cases hj : j = k
                  · subst hj; exact hdk
                  · exact HALL.out j h1 (by omega)
                have E1 := Lib.hid e1; clear e1
                obtain ⟨hd1, hd2⟩ := hdk
                generalize byteAt s k = b at *
                go_wp2
                go_round
                case rel => exact ⟨k + 1, by omega, by omega, by go_num, E1.out⟩
                case measure => simp [intOf]; omega
              · have e1 : digFrom s 0 = false := digFrom_false hk1 hlt hdk
                have E1 := Lib.hid e1; clear e1
                have hdd : byteAt s k < 48 ∨ (¬ byteAt s k < 48 ∧ 57 < byteAt s k) := by omega
                clear hdk
                generalize byteAt s k = b at *
                rcases hdd with hdd | ⟨hdd, hde⟩
                all_goals
                  go_wp2
                  go_ret
                  exact ⟨ret_bool E1.out.symm, rfl⟩
            · have hkn : k = s.size := by omega
              subst hkn
              have e1 : digFrom s 0 = true := digFrom_true HALL.out
              have E1 := Lib.hid e1; clear e1
              go_wp2
              go_ret
              exact ⟨ret_bool E1.out.symm, rfl⟩
end Go.Proofs.YtbadibbdoljjhaaGreatDoor

/-
  The reference: digits, cut.
-/
namespace Go.Proofs.YtbadibbdoljjhaaGreatDoor
open Go Go.Proofs Go.RowKit

/-- A value of type []int that is this list. -/
def DV (w : World) (v : Value) (l : List Nat) : Prop := ∃ ao c, v = .slice ao l.length c ∧ DAt w ao c l
def DRet (l : List Nat) (w : World) (e : Ending) (w' : World) : Prop := ∃ v, e = .returned v ∧ DV w' v l ∧ Below w.heap.size w w'
theorem DV.mono {w w' : World} {v : Value} {l : List Nat} (h : DV w v l) (hb : Below w.heap.size w w') : DV w' v l := by
  obtain ⟨ao, c, he, hr⟩ := h
  exact ⟨ao, c, he, hr.mono hb⟩

def dgOf (s : ByteArray) (p : Nat) : List Nat := ((bytes s).drop p).reverse.map fun c => c.toNat - 48
theorem dgOf_end (s : ByteArray) : dgOf s s.size = [] := by
  unfold dgOf
  rw [List.drop_of_length_le (by rw [bytes_length]; exact Nat.le_refl _)]; rfl
theorem dgOf_step (s : ByteArray) (k : Nat) (h : k < s.size) : dgOf s k = dgOf s (k + 1) ++ [byteAt s k - 48] := by
  unfold dgOf byteAt
  have h' : k < (bytes s).length := h
  rw [List.drop_eq_getElem_cons h', List.reverse_cons, List.map_append]
  simp [List.getD_eq_getElem?_getD, List.getElem?_eq_getElem h']
theorem dgOf_length (s : ByteArray) (k : Nat) : (dgOf s k).length = s.size - k := by
  unfold dgOf; simp [bytes_length]

set_option maxHeartbeats 2000000 in
theorem refDigits0_any (s : ByteArray) (p : Nat) (w : World) (hs : s.size ≤ 1000000000000) (hp : p ≤ s.size) (hd : ∀ j, p ≤ j → j < s.size → 48 ≤ byteAt s j ∧ byteAt s j ≤ 57)
    (hstop : p = 0 ∨ (p = 1 ∧ byteAt s 0 = 45)) :
    Calls Tryz.prog 145 #[.string s] w (DRet (dgOf s p) w) := by
  obtain ⟨i0, hi, hz0, hz1, hz2⟩ := info_parts dinfoU32
  have HD := Lib.hid hd; have HST := Lib.hid hstop
  have h0 : dgOf s s.size = [] := dgOf_end s
  have H0 := Lib.hid h0
  clear hd hstop h0
  go_enter Tryz.func145, Tryz.ntmps145
  go_wp2_with fail
  go_loopw [3, 4] (fun v iv wr => ∃ k : Nat, p ≤ k ∧ k ≤ s.size ∧ iv = .int .i64 ((k : Int) - 1) ∧ wr.ownsRow w.heap.size 3 1 v (s.size - k) (dcellsOf (dgOf s k)) ∧ Below w.heap.size w wr) (fun _ iv _ => (intOf iv + 1).toNat)
  case atStart => exact ⟨s.size, hp, Nat.le_refl _, rfl, by rw [H0.out, Nat.sub_self]; exact World.ownsRow_nil _ _ _ _, Below.refl _ _⟩
  case round =>
    obtain ⟨k, hk1, hk2, rfl, hown, hbw⟩ := hrel
    by_cases hkp : k = p
    · subst hkp
      have HB := Lib.hid hbw
      have hln : s.size - k = (dgOf s k).length := (dgOf_length s k).symm
      rw [hln] at hown
      obtain ⟨ao, c, rfl, hr⟩ := drow_of_owns hown
      have HR := Lib.hid hr
      clear hown hr hbw hln
      rcases HST.out with rfl | ⟨rfl, h45⟩
      · go_wp2
        go_ret
        exact ⟨_, rfl, ⟨_, _, rfl, HR.out⟩, HB.out⟩
      · have g0 := byteAt_get s 0 (by omega)
        rw [h45] at g0
        have hsz : 0 < s.size := by omega
        go_wp2
        go_ret
        exact ⟨_, rfl, ⟨_, _, rfl, HR.out⟩, HB.out⟩
    · obtain ⟨j, rfl⟩ : ∃ j, k = j + 1 := ⟨k - 1, by omega⟩
      have hj : j < s.size := by omega
      have gj := byteAt_get s j hj
      obtain ⟨hd1, hd2⟩ := HD.out j (by omega) hj
      have hstep := dgOf_step s j hj
      have HS := Lib.hid hstep; clear hstep
      generalize byteAt s j = b at *
      have hneq : ((b : Int) != 45) = true := by simp; omega
      go_wp2_with (at_builtin; refine wpList_append_own _ rfl _ _ 130 rfl w.heap.size 3 i0 (.int .i64 0) 1 8 Tryz.underlying130 hi hz0 hz1 hz2 rfl (by decide) _ _ _ rfl (hown.alloc _) ⟨wr.heap.size, 0, none⟩ 1 1 [.int .i64 ((b : Int) - 48)] rfl rfl ?c1 ?c2 ?c3 ?c4 ?c5 ?_)
      case c1 => intro j u hj; match j, hj with | 0, hj => (simp at hj; subst hj; simp [Addr.add])
      case c2 => intro u hu; simp at hu; subst hu; rfl
      case c3 => unfold maxLen; omega
      case c4 => omega
      case c5 => have := hbw.size; simp; omega
      intro v' w1 hown' hgrow _
      go_wp2
      go_roundw
      case rel =>
        refine ⟨j, by omega, by omega, by go_num, ?_, ?_⟩
        · rw [HS.out]
          have e : dcellsOf (dgOf s (j + 1) ++ [b - 48]) = dcellsOf (dgOf s (j + 1)) ++ [.int .i64 ((b : Int) - 48)] := by
            have e1 : dcellsOf [b - 48] = [.int .i64 ((b : Int) - 48)] := by
              show [Value.int .i64 ((b - 48 : Nat) : Int)] = _
              rw [show ((b - 48 : Nat) : Int) = (b : Int) - 48 by omega]
            rw [dcellsOf_append, e1]
          rw [e]
          have e2 : s.size - j = s.size - (j + 1) + 1 := by omega
          rw [e2]; exact hown'
        · exact hbw.trans (((Below.refl _ _).alloc (by have := hbw.size; omega) _).grown hgrow (by have := hbw.size; simp; omega) (fun k hk => ((hown.lt k hk)).1))
      case measure => simp only [intOf]; omega
end Go.Proofs.YtbadibbdoljjhaaGreatDoor

/-
  Decimal digits of a number, the last one first, and its notation.
-/
namespace Go.Proofs.YtbadibbdoljjhaaGreatDoor
open Go Go.Proofs

def dgs (n : Nat) : List Nat := (Lib.decDigits n).reverse.map fun c => c.toNat - 48

theorem dgs_length (n : Nat) : (dgs n).length = (Lib.decDigits n).length := by simp [dgs]
theorem dv_rev : ∀ (l : List UInt8), dv (l.reverse.map fun c => c.toNat - 48) = dec l
  | [] => rfl
  | c :: t => by
    rw [List.reverse_cons, List.map_append, dv_append, dv_rev t]
    simp only [List.length_map, List.length_reverse, List.map_cons, List.map_nil, dv, dec]
    rw [Nat.mul_zero, Nat.add_zero, Nat.mul_comm]; omega
theorem dv_dgs (n : Nat) : dv (dgs n) = n := by unfold dgs; rw [dv_rev, dec_decDigits]
theorem dgs_dg (n : Nat) : Dg (dgs n) := by
  intro x hx
  simp only [dgs, List.mem_map, List.mem_reverse] at hx
  obtain ⟨c, hc, rfl⟩ := hx
  have := isDig_iff.1 (allDig_decDigits n c hc)
  omega
theorem dgs_ne_nil (n : Nat) : dgs n ≠ [] := fun h => by
  have := congrArg List.length h
  rw [dgs_length] at this
  exact decDigits_ne_nil n (List.length_eq_zero_iff.1 this)
/-- The notation is that of the digits from the highest one on. -/
theorem dgs_pos {n : Nat} (h : n ≠ 0) : dgs n = nl n := by
  have e : nl n = nl (dv (dgs n)) := by rw [dv_dgs]
  rw [e]
  refine deq_limbs (dgs_dg n) fun hne => ?_
  have h1 := head?_decDigits n h
  have h2 : (dgs n).getLast hne = ((Lib.decDigits n).head (decDigits_ne_nil n)).toNat - 48 := by
    unfold dgs
    simp [List.getLast_reverse]
  rw [h2]
  have h3 := isDig_iff.1 (allDig_decDigits n _ (List.head_mem (decDigits_ne_nil n)))
  intro h4
  rw [List.head?_eq_some_head (decDigits_ne_nil n)] at h1
  exact h1 (by rw [show (Lib.decDigits n).head (decDigits_ne_nil n) = 48 from UInt8.toNat_inj.1 (by show _ = 48; omega)])
theorem nl_length (n : Nat) (h : n ≠ 0) : (nl n).length = (Lib.decDigits n).length := by rw [← dgs_pos h, dgs_length]
theorem nl_len_le (n : Nat) : (nl n).length ≤ (Lib.decDigits n).length := by
  by_cases h : n = 0
  · subst h; rw [nl_zero]; simp
  · rw [nl_length n h]; exact Nat.le_refl _
end Go.Proofs.YtbadibbdoljjhaaGreatDoor

/-
  The reference: Check, Few; the laws' few and right.
-/
namespace Go.Proofs.YtbadibbdoljjhaaGreatDoor
open Go Go.Proofs Go.RowKit

theorem negative_any (s : ByteArray) (w : World) (h0 : 0 < s.size) :
    Calls Tryz.prog 140 #[.string s] w fun e w' => e = .returned (.bool (decide (byteAt s 0 = 45))) ∧ w' = w := by
  have g0 := byteAt_get s 0 h0
  generalize byteAt s 0 = b at *
  go_enter Tryz.func140, Tryz.ntmps140
  go_wp2
  go_ret
  refine ⟨ret_bool ?_, rfl⟩
  rw [Bool.eq_iff_iff]
  simp only [beq_iff_eq, decide_eq_true_eq]
  omega

theorem digits_len {s : ByteArray} (h0 : 0 < s.size) : (digL (bytes s)).length = if byteAt s 0 = 45 then s.size - 1 else s.size := by
  have hl : (bytes s).length = s.size := rfl
  match hb : bytes s, hl with
  | [], hl => simp at hl; omega
  | c :: t, hl =>
    have e0 := byte0 hb
    by_cases hc : c = 45
    · subst hc
      rw [dig_cons, if_pos (by rw [e0]; rfl)]
      simp at hl; omega
    · have hne : ¬ byteAt s 0 = 45 := by rw [e0]; exact fun h => hc (UInt8.toNat_inj.1 (by rw [h]; rfl))
      have hneg : negB (c :: t) = false := by
        cases h : negB (c :: t)
        · rfl
        · exfalso
          unfold negB Lib.hasPrefix at h
          exact hc (by simpa using (by simpa [List.isPrefixOf] using h : 45 = c).symm)
      rw [if_neg hne]
      rcases neg_cases (c :: t) with ⟨h, -⟩ | ⟨-, h⟩
      · rw [hneg] at h; cases h
      · rw [h]; exact hl

theorem refDigits_any (s : ByteArray) (w : World) (h0 : 0 < s.size) (hs : s.size ≤ 9223372036854775807) :
    Calls Tryz.prog 118 #[.string s] w fun e w' => e = .returned (.int .i64 ((digL (bytes s)).length : Nat)) ∧ w' = w := by
  have C := fun W => negative_any s W h0
  rw [digits_len h0]
  by_cases h : byteAt s 0 = 45
  · rw [if_pos h]
    rw [decide_eq_true h] at C
    have KC := Lib.hid C; clear C h
    go_enter Tryz.func118, Tryz.ntmps118
    go_wp2_with (go_at_call 140; refine (KC.out _).mono ?_; rintro e w1 ⟨rfl, rfl⟩; refine Hid.out ?_)
    refine Lib.hid ?_
    go_wp2
    go_ret
    exact ⟨ret_int (by omega), rfl⟩
  · rw [if_neg h]
    rw [decide_eq_false h] at C
    have KC := Lib.hid C; clear C h
    go_enter Tryz.func118, Tryz.ntmps118
    go_wp2_with (go_at_call 140; refine (KC.out _).mono ?_; rintro e w1 ⟨rfl, rfl⟩; refine Hid.out ?_)
    refine Lib.hid ?_
    go_wp2
    go_ret
    exact ⟨rfl, rfl⟩

theorem refCheck_any (s : ByteArray) (w : World) (hs : s.size ≤ 9223372036854775807) :
    Calls Tryz.prog 55 #[.string s] w fun e w' => e = .returned (.int .i64 (errOf (bytes s) : Nat)) ∧ w' = w := by
  have C1 := fun W => form_any s W hs
  have C2 : canonB (bytes s) = true → ∀ W, Calls Tryz.prog 118 #[.string s] W fun e w' => e = .returned (.int .i64 ((digL (bytes s)).length : Nat)) ∧ w' = W := fun hc W => refDigits_any s W (by
    rcases Nat.eq_zero_or_pos s.size with h | h
    · exfalso
      rw [List.length_eq_zero_iff.1 (show (bytes s).length = 0 from h)] at hc
      exact absurd hc (by decide)
    · exact h) hs
  have he : errOf (bytes s) = if canonB (bytes s) = true then (if 4096 < (digL (bytes s)).length then 10 else 0) else 3 := rfl
  rw [he]
  cases hc : canonB (bytes s)
  · rw [hc] at C1
    have K1 := Lib.hid C1; clear C1 C2 he hc
    rw [if_neg (by simp)]
    go_enter Tryz.func55, Tryz.ntmps55
    go_wp2_with (go_at_call 117; refine (K1.out _).mono ?_; rintro e w1 ⟨rfl, rfl⟩; refine Hid.out ?_)
    refine Lib.hid ?_
    go_wp2
    go_ret
    exact ⟨rfl, rfl⟩
  · rw [hc] at C1
    have C2' := C2 hc
    have K1 := Lib.hid C1; have K2 := Lib.hid C2'; clear C1 C2 C2' he hc
    rw [if_pos rfl]
    generalize (digL (bytes s)).length = n at *
    by_cases hn : 4096 < n
    · rw [if_pos hn]
      go_enter Tryz.func55, Tryz.ntmps55
      go_wp2_with (go_at_call 117; refine (K1.out _).mono ?_; rintro e w1 ⟨rfl, rfl⟩; refine Hid.out ?_)
      refine Lib.hid ?_
      go_wp2_with (go_at_call 118; refine (K2.out _).mono ?_; rintro e w1 ⟨rfl, rfl⟩; refine Hid.out ?_)
      refine Lib.hid ?_
      go_wp2
      go_ret
      exact ⟨rfl, rfl⟩
    · rw [if_neg hn]
      go_enter Tryz.func55, Tryz.ntmps55
      go_wp2_with (go_at_call 117; refine (K1.out _).mono ?_; rintro e w1 ⟨rfl, rfl⟩; refine Hid.out ?_)
      refine Lib.hid ?_
      go_wp2_with (go_at_call 118; refine (K2.out _).mono ?_; rintro e w1 ⟨rfl, rfl⟩; refine Hid.out ?_)
      refine Lib.hid ?_
      go_wp2
      go_ret
      exact ⟨rfl, rfl⟩

/-- A row of strings. -/
def StrsAt (w : World) (b : Nat) (ss : List ByteArray) : Prop := ∀ j, (h : j < ss.length) → w.cell? ⟨b, j, none⟩ = some (.string (ss[j]'h))
theorem take_all_succ (p : ByteArray → Bool) (l : List ByteArray) (k : Nat) (h : k < l.length) : (l.take (k + 1)).all p = ((l.take k).all p && p l[k]) := by
  rw [List.take_succ_eq_append_getElem h, List.all_append]; simp
theorem take_all_false (p : ByteArray → Bool) (l : List ByteArray) (k : Nat) (h : k < l.length) (hp : p l[k] = false) : l.all p = false := by
  cases h3 : l.all p
  · rfl
  · rw [List.all_eq_true] at h3
    rw [h3 _ (List.getElem_mem h)] at hp
    cases hp

end Go.Proofs.YtbadibbdoljjhaaGreatDoor

/-
  The reference: what a notation gives it; digits, cut, order, Sign.
-/
namespace Go.Proofs.YtbadibbdoljjhaaGreatDoor
open Go Go.Proofs Go.RowKit

theorem txt_size {s : ByteArray} {z : Int} (h : bytes s = Lib.itoa z) : 0 < s.size := by
  rw [← bytes_length, h]
  by_cases hz : z < 0
  · rw [itoa_neg hz]; simp
  · rw [itoa_nonneg hz]; exact List.length_pos_iff.2 (decDigits_ne_nil _)
theorem txt_neg {s : ByteArray} {z : Int} (h : bytes s = Lib.itoa z) : decide (byteAt s 0 = 45) = decide (z < 0) := by
  by_cases hz : z < 0
  · rw [itoa_neg hz] at h
    rw [byte0 h, decide_eq_true hz]; rfl
  · rw [itoa_nonneg hz] at h
    rw [decide_eq_false hz, decide_eq_false_iff_not]
    match hd : Lib.decDigits z.natAbs with
    | [] => exact absurd hd (decDigits_ne_nil _)
    | c :: t =>
      rw [hd] at h
      rw [byte0 h]
      have := isDig_iff.1 (allDig_decDigits z.natAbs c (by rw [hd]; simp))
      omega
theorem txt_zero {s : ByteArray} {z : Int} (h : bytes s = Lib.itoa z) (hz : z ≠ 0) : s ≠ ⟨#[48]⟩ := by
  intro e
  subst e
  have h2 : bytes ⟨#[48]⟩ = Lib.itoa 0 := by rw [itoa_nonneg (by omega)]; exact dec0'.symm
  exact hz (itoa_inj (h.symm.trans h2))
theorem txt_is_zero {s : ByteArray} (h : bytes s = Lib.itoa 0) : s = ⟨#[48]⟩ := by
  have h2 : bytes ⟨#[48]⟩ = Lib.itoa 0 := by rw [itoa_nonneg (by omega)]; exact dec0'.symm
  rw [← str_bytes s, h, ← h2, str_bytes]
theorem txt_len {s : ByteArray} {z : Int} (h : bytes s = Lib.itoa z) : s.size = (if z < 0 then 1 else 0) + (Lib.decDigits z.natAbs).length := by
  rw [← bytes_length, h]
  by_cases hz : z < 0
  · rw [itoa_neg hz, if_pos hz]; simp; omega
  · rw [itoa_nonneg hz, if_neg hz]; omega
theorem txt_drop {s : ByteArray} {z : Int} (h : bytes s = Lib.itoa z) : (bytes s).drop (if z < 0 then 1 else 0) = Lib.decDigits z.natAbs := by
  rw [h]
  by_cases hz : z < 0
  · rw [itoa_neg hz, if_pos hz]; rfl
  · rw [itoa_nonneg hz, if_neg hz]; rfl
theorem txt_dig {s : ByteArray} {z : Int} (h : bytes s = Lib.itoa z) (j : Nat) (h1 : (if z < 0 then 1 else 0) ≤ j) (h2 : j < s.size) : 48 ≤ byteAt s j ∧ byteAt s j ≤ 57 := by
  have h3 := txt_drop h
  generalize (if z < 0 then 1 else 0) = p at *
  have hlt : j - p < ((bytes s).drop p).length := by rw [List.length_drop, bytes_length]; omega
  have h4 : ((bytes s).drop p)[j - p] ∈ Lib.decDigits z.natAbs := by rw [← h3]; exact List.getElem_mem hlt
  rw [List.getElem_drop] at h4
  have h5 := isDig_iff.1 (allDig_decDigits _ _ h4)
  have e : p + (j - p) = j := by omega
  simp only [e] at h5
  unfold byteAt
  rw [List.getD_eq_getElem?_getD, List.getElem?_eq_getElem (by rw [bytes_length]; exact h2)]
  exact h5

theorem refDigits_txt (s : ByteArray) (z : Int) (w : World) (h : bytes s = Lib.itoa z) (hs : s.size ≤ 1000000000000) :
    Calls Tryz.prog 145 #[.string s] w (DRet (dgs z.natAbs) w) := by
  have e : dgOf s (if z < 0 then 1 else 0) = dgs z.natAbs := by unfold dgOf dgs; rw [txt_drop h]
  rw [← e]
  have h1 := txt_neg h
  have h0 := txt_size h
  refine refDigits0_any s _ w hs (by split <;> omega) (fun j a b => txt_dig h j a b) ?_
  by_cases hz : z < 0
  · rw [if_pos hz]; right
    rw [decide_eq_true hz, decide_eq_true_eq] at h1
    exact ⟨rfl, h1⟩
  · rw [if_neg hz]; left; rfl

set_option maxHeartbeats 1000000 in
theorem cut_any (l : List Nat) (v : Value) (w : World) (hv : DV w v l) (hs : Dg l) (hb : l.length ≤ 1000000000000) :
    Calls Tryz.prog 149 #[v] w fun e w' => ∃ v', e = .returned v' ∧ DV w v' (nl (dv l)) ∧ w' = w := by
  obtain ⟨ao, c, rfl, hr⟩ := hv
  have hkl := keep_le l
  have hres : ∀ r, r = keep l → DV w (.slice ao r c) (nl (dv l)) := fun r hr' => by
    subst hr'
    have hl : (nl (dv l)).length = keep l := by rw [← dtake_keep hs]; simp; omega
    refine ⟨ao, c, by rw [hl], ?_⟩
    rw [← dtake_keep hs]; exact hr.take _ hkl
  have h1 := hr.1; have h2 := hr.2.1
  have hzero : keep (l.take 0) = keep l → keep l = 0 := fun h => by rw [← h]; rfl
  have hk0 : keep (l.take l.length) = keep l := by rw [List.take_length]
  by_cases hne : l = []
  · subst hne
    have hR := hres 0 rfl
    have HR := Lib.hid hR
    clear hR hres hkl h1 hzero hk0 hr hs hb
    have hnil : ([] : List Nat).length = 0 := rfl
    rw [hnil]
    go_enter Tryz.func149, Tryz.ntmps149
    go_wp2_with fail
    go_rounds 1
    go_ret
    exact ⟨_, rfl, HR.out, rfl⟩
  · obtain ⟨d, hd, hdb, hxc⟩ := hr.open hs
    obtain ⟨b, off, rfl, hb', hxc⟩ := hxc.resolve_left hne
    have hstep : ∀ k, k < l.length → keep (l.take (k + 1)) = keep l → d k = 0 → keep (l.take k) = keep l := fun k hk h h0 => keep_take hk (by have := hd k hk; omega) h
    have hlast : ∀ k, k < l.length → keep (l.take (k + 1)) = keep l → d k ≠ 0 → keep l = k + 1 := fun k hk h h0 => keep_last hk (by have := hd k hk; omega) h
    generalize hK : (fun k => keep (l.take k) = keep l) = K
    have hK' : ∀ k, (keep (l.take k) = keep l) = K k := fun k => congrFun hK k
    simp only [hK'] at hk0 hstep hlast hzero
    clear hK hK' hd hr hs hne
    generalize keep l = r at *
    generalize nl (dv l) = RL at *
    generalize l.length = n at *
    have HS := Lib.hid hstep; have HL := Lib.hid hlast; have HZ := Lib.hid hzero; have HK := Lib.hid hk0; have HX := Lib.hid hxc; have HRES := Lib.hid hres
    clear hstep hlast hzero hk0 hxc hdb hres
    go_enter Tryz.func149, Tryz.ntmps149
    go_wp2_with fail
    go_loop [3] (fun v => ∃ k : Nat, k ≤ n ∧ v = .int .i64 k ∧ K k) (fun v => (intOf v).toNat)
    case atStart => exact ⟨n, Nat.le_refl _, rfl, HK.out⟩
    case round =>
      obtain ⟨k, hk, rfl, hKk⟩ := hrel
      have HKk := Lib.hid hKk; clear hKk
      rcases Nat.eq_zero_or_pos k with rfl | hk1
      · have hr0 : r = 0 := HZ.out HKk.out
        subst hr0
        have HR := Lib.hid (HRES.out 0 rfl); clear HRES
        go_wp2
        go_ret
        exact ⟨_, rfl, HR.out, rfl⟩
      · obtain ⟨j, rfl⟩ : ∃ j, k = j + 1 := ⟨k - 1, by omega⟩
        have c1 : w.cell? ⟨b, off + j, none⟩ = some (.int .i64 (d j)) := HX.out j (by omega)
        by_cases h0 : d j = 0
        · have hz : (d j == 0) = true := by simp [h0]
          have H0 := Lib.hid h0; clear h0
          go_wp2
          go_round
          case rel => exact ⟨j, by omega, by go_num, HS.out j (by omega) HKk.out H0.out⟩
          case measure => simp [intOf]
        · have hz : (d j == 0) = false := by simp [h0]
          have hr1 : r = j + 1 := HL.out j (by omega) HKk.out h0
          subst hr1
          have HR := Lib.hid (HRES.out (j + 1) rfl); clear HRES h0
          go_wp2
          go_ret
          exact ⟨_, rfl, HR.out, rfl⟩

theorem refSign_txt (s : ByteArray) (z : Int) (w : World) (h : bytes s = Lib.itoa z) :
    Calls Tryz.prog 156 #[.string s] w fun e w' => e = .returned (.int .i64 (cmpI z 0)) ∧ w' = w := by
  have C := fun W => negative_any s W (txt_size h)
  rw [txt_neg h] at C
  by_cases hz : z = 0
  · subst hz
    have := txt_is_zero h
    subst this
    clear C h
    go_enter Tryz.func156, Tryz.ntmps156
    go_wp2
    go_ret
    exact ⟨rfl, rfl⟩
  · have hd := eq48 s (txt_zero h hz)
    by_cases hn : z < 0
    · have hr : cmpI z 0 = -1 := by unfold cmpI; rw [if_pos hn]
      rw [decide_eq_true hn] at C
      rw [hr]
      have KC := Lib.hid C; clear C h hz hr hn
      go_enter Tryz.func156, Tryz.ntmps156
      go_wp2_with (go_at_call 140; refine (KC.out _).mono ?_; rintro e w1 ⟨rfl, rfl⟩; refine Hid.out ?_)
      refine Lib.hid ?_
      go_wp2
      go_ret
      exact ⟨rfl, rfl⟩
    · have hr : cmpI z 0 = 1 := by unfold cmpI; rw [if_neg hn, if_neg hz]
      rw [decide_eq_false hn] at C
      rw [hr]
      have KC := Lib.hid C; clear C h hz hr hn
      go_enter Tryz.func156, Tryz.ntmps156
      go_wp2_with (go_at_call 140; refine (KC.out _).mono ?_; rintro e w1 ⟨rfl, rfl⟩; refine Hid.out ?_)
      refine Lib.hid ?_
      go_wp2
      go_ret
      exact ⟨rfl, rfl⟩
end Go.Proofs.YtbadibbdoljjhaaGreatDoor

/-
  The reference: order of digits, Order, Checks, Compare.
-/
namespace Go.Proofs.YtbadibbdoljjhaaGreatDoor
open Go Go.Proofs Go.RowKit

theorem dcmp_eq (x y : Nat) (he : (nl x).length = (nl y).length) (h : ∀ j, j < (nl x).length → (nl x).getD j 0 = (nl y).getD j 0) : cmpN x y = 0 := by
  have : nl x = nl y := by
    refine List.ext_getElem he fun j h1 h2 => ?_
    have := h j h1
    rwa [getD_lt _ _ h1, getD_lt _ _ h2] at this
  have e : x = y := by rw [← dv_limbs x, this, dv_limbs]
  subst e; simp [cmpN]

theorem dcmp_top (x y : Nat) (he : (nl x).length = (nl y).length) (i : Nat) (hi : i < (nl x).length)
    (h : ∀ j, i < j → j < (nl x).length → (nl x).getD j 0 = (nl y).getD j 0) (hne : (nl x).getD i 0 ≠ (nl y).getD i 0) :
    cmpN x y = if (nl x).getD i 0 < (nl y).getD i 0 then -1 else 1 := by
  have hd : (nl x).drop (i + 1) = (nl y).drop (i + 1) := by
    refine List.ext_getElem (by simp [he]) fun j h1 h2 => ?_
    simp only [List.getElem_drop]
    have h3 : i + 1 + j < (nl x).length := by simp at h1; omega
    have := h (i + 1 + j) (by omega) h3
    rwa [getD_lt _ _ h3, getD_lt _ _ (by omega)] at this
  rw [getD_lt _ _ hi, getD_lt _ _ (by omega)] at *
  unfold cmpN
  by_cases hl : (nl x)[i] < (nl y)[i]
  · have := dv_lt_of_top (nl_small x) he i hi hd hl
    rw [dv_limbs, dv_limbs] at this
    rw [if_pos this, if_pos hl]
  · have := dv_lt_of_top (nl_small y) he.symm i (by omega) hd.symm (by omega)
    rw [dv_limbs, dv_limbs] at this
    rw [if_neg (by omega), if_neg (by omega), if_neg hl]

theorem lt_of_nl_len {m n : Nat} (h : (nl m).length < (nl n).length) : m < n := dlt_of_limbs_length h

set_option maxHeartbeats 2000000 in
theorem refOrder_any (x y : Nat) (vx vy : Value) (w : World) (hx : DV w vx (nl x)) (hy : DV w vy (nl y)) :
    Calls Tryz.prog 162 #[vx, vy] w fun e w' => e = .returned (.int .i64 (cmpN x y)) ∧ Below w.heap.size w w' := by
  obtain ⟨ao, c, rfl, hx⟩ := hx
  obtain ⟨ap, c', rfl, hy⟩ := hy
  have h1 := hx.1; have h2 := hx.2.1; have h3 := hy.1; have h4 := hy.2.1
  have b1 : (nl x).length ≤ 9223372036854775807 := by omega
  have b2 : (nl y).length ≤ 9223372036854775807 := by omega
  clear h1 h2 h3 h4
  by_cases hlt : (nl x).length < (nl y).length
  · have hr : cmpN x y = -1 := by unfold cmpN; rw [if_pos (lt_of_nl_len hlt)]
    rw [hr]
    have t1 : (((nl x).length : Int) != ((nl y).length : Int)) = true := by simp; omega
    clear hx hy hr
    generalize (nl x).length = n at *
    generalize (nl y).length = m at *
    go_enter Tryz.func162, Tryz.ntmps162
    go_wp2
    go_ret
    exact ⟨rfl, Below.refl _ _⟩
  · by_cases hgt : (nl y).length < (nl x).length
    · have hr : cmpN x y = 1 := by have := lt_of_nl_len hgt; unfold cmpN; rw [if_neg (by omega), if_neg (by omega)]
      rw [hr]
      have t1 : (((nl x).length : Int) != ((nl y).length : Int)) = true := by simp; omega
      clear hx hy hr
      generalize (nl x).length = n at *
      generalize (nl y).length = m at *
      go_enter Tryz.func162, Tryz.ntmps162
      go_wp2
      go_ret
      exact ⟨rfl, Below.refl _ _⟩
    · have he : (nl x).length = (nl y).length := by omega
      have hz := dcmp_eq x y he
      have ht := dcmp_top x y he
      by_cases hn0 : nl x = []
      · have hr := hz (fun j hj => by rw [hn0] at hj; simp at hj)
        rw [hr]
        rw [hn0] at he ⊢
        rw [← he]
        have hnil : ([] : List Nat).length = 0 := rfl
        rw [hnil]
        clear hx hy hz ht hr he hlt hgt b1 b2 hn0
        go_enter Tryz.func162, Tryz.ntmps162
        go_wp2_with fail
        go_rounds 1
        go_ret
        exact ⟨rfl, Below.refl _ _⟩
      · have hn0' : nl y ≠ [] := fun h => hn0 (List.length_eq_zero_iff.1 (by rw [he, h]; rfl))
        obtain ⟨d, hd, hdb, hxc⟩ := hx.open (nl_small x)
        obtain ⟨f, hf, hfb, hyc⟩ := hy.open (nl_small y)
        obtain ⟨b, off, rfl, hb, hxc⟩ := hxc.resolve_left hn0
        obtain ⟨b', off', rfl, hb', hyc⟩ := hyc.resolve_left hn0'
        rw [← he] at hf hyc ⊢
        have hZ : (∀ j, j < (nl x).length → d j = f j) → cmpN x y = 0 := fun h => hz fun j hj => by
          have := h j hj; rw [hd j hj, hf j hj] at this; exact Int.ofNat.inj this
        have hT : ∀ i, i < (nl x).length → (∀ j, i < j → j < (nl x).length → d j = f j) → d i ≠ f i → cmpN x y = if d i < f i then -1 else 1 := fun i hi h hne => by
          rw [ht i hi (fun j h1 h2 => by have := h j h1 h2; rw [hd j h2, hf j h2] at this; exact Int.ofNat.inj this) (fun e => hne (by rw [hd i hi, hf i hi, e])), hd i hi, hf i hi]
          simp only [Int.ofNat_lt]
        clear hd hf hx hy hz ht hdb hfb he hlt hgt b2 hn0 hn0'
        generalize (nl x).length = n at *
        generalize cmpN x y = r at *
        have HZ := Lib.hid hZ; have HT := Lib.hid hT; have HXC := Lib.hid hxc; have HYC := Lib.hid hyc
        clear hxc hyc hZ hT
        go_enter Tryz.func162, Tryz.ntmps162
        go_wp2_with fail
        go_loopw [5] (fun i wr => ∃ k : Int, -1 ≤ k ∧ k < n ∧ i = .int .i64 k ∧ (∀ j : Nat, k < j → j < n → d j = f j) ∧ Below w.heap.size w wr) (fun i _ => (intOf i + 1).toNat)
        case atStart => exact ⟨(n : Int) - 1, by omega, by omega, rfl, fun j h1 h2 => by omega, Below.refl _ _⟩
        case round =>
          obtain ⟨k, hk1, hk2, rfl, heq, hbw⟩ := hrel
          have HEQ := Lib.hid heq; clear heq
          by_cases hk : k = -1
          · subst hk
            go_wp2
            go_ret
            exact ⟨ret_int (HZ.out fun j hj => HEQ.out j (by omega) hj).symm, hbw⟩
          · obtain ⟨j, rfl⟩ := Int.eq_ofNat_of_zero_le (show 0 ≤ k by omega)
            have hj : j < n := by omega
            have c3 : wr.cell? ⟨b, off + j, none⟩ = some (.int .i64 (d j)) := (hbw.cell (p := ⟨b, off + j, none⟩) hb).trans (HXC.out j hj)
            have c4 : wr.cell? ⟨b', off' + j, none⟩ = some (.int .i64 (f j)) := (hbw.cell (p := ⟨b', off' + j, none⟩) hb').trans (HYC.out j hj)
            by_cases hdf : d j = f j
            · have hb1 : (d j != f j) = false := by simp [hdf]
              have HDF := Lib.hid hdf; clear hdf
              go_wp2
              go_quiet (fail)
              go_wp2
              go_roundw
              case rel => exact ⟨(j : Int) - 1, by omega, by omega, rfl, fun i h1 h2 => by
                by_cases e : i = j
                · rw [e]; exact HDF.out
                · exact HEQ.out i (by omega) h2, hbw.trans (below_drewN (Below.refl _ _) _)⟩
              case measure => simp [intOf]
            · have hb1 : (d j != f j) = true := by simp [hdf]
              have hr := HT.out j hj (fun i h1 h2 => HEQ.out i (by omega) h2) hdf
              have HR := Lib.hid hr; clear hr hdf
              by_cases hlt : d j < f j
              · have hdl : decide (d j < f j) = true := by simp [hlt]
                go_wp2
                go_quiet (fail)
                go_wp2
                go_quiet (fail)
                go_wp2
                go_ret
                refine ⟨ret_int ?_, hbw.trans (below_drewN (below_drewN (Below.refl _ _) _) _)⟩
                rw [HR.out, if_pos hlt]
              · have hdl : decide (d j < f j) = false := by simp [hlt]
                go_wp2
                go_quiet (fail)
                go_wp2
                go_quiet (fail)
                go_wp2
                go_ret
                refine ⟨ret_int ?_, hbw.trans (below_drewN (below_drewN (Below.refl _ _) _) _)⟩
                rw [HR.out, if_neg (by omega)]

theorem cmpN_cases (x y : Nat) : cmpN x y = -1 ∨ cmpN x y = 0 ∨ cmpN x y = 1 := by unfold cmpN; (repeat' split) <;> simp
theorem sgn_cases (z : Int) : (cmpI z 0 = -1 ∧ z < 0) ∨ (cmpI z 0 = 0 ∧ z = 0) ∨ (cmpI z 0 = 1 ∧ 0 < z) := by
  unfold cmpI
  rcases Int.lt_trichotomy z 0 with h | h | h
  · exact .inl ⟨if_pos h, h⟩
  · exact .inr (.inl ⟨by rw [if_neg (by omega), if_pos h], h⟩)
  · exact .inr (.inr ⟨by rw [if_neg (by omega), if_neg (by omega)], h⟩)
theorem cmpI_neg {x y : Int} (hx : x < 0) (hy : y < 0) : cmpI x y = -cmpN x.natAbs y.natAbs := by
  unfold cmpI cmpN; (repeat' split) <;> omega
theorem cmpI_pos {x y : Int} (hx : 0 ≤ x) (hy : 0 ≤ y) : cmpI x y = cmpN x.natAbs y.natAbs := by
  unfold cmpI cmpN; (repeat' split) <;> omega
theorem cmpI_lt {x y : Int} (h : x < y) : cmpI x y = -1 := by unfold cmpI; rw [if_pos h]
theorem cmpI_gt {x y : Int} (h : y < x) : cmpI x y = 1 := by unfold cmpI; rw [if_neg (by omega), if_neg (by omega)]

theorem dlen_bound {s : ByteArray} {z : Int} (h : bytes s = Lib.itoa z) (hs : s.size ≤ 1000000000000) : (dgs z.natAbs).length ≤ 1000000000000 := by
  rw [dgs_length]
  have := txt_len h
  omega

set_option maxHeartbeats 4000000 in
theorem refOrderI (s t : ByteArray) (x y : Int) (w : World) (hs : bytes s = Lib.itoa x) (ht : bytes t = Lib.itoa y) (hls : s.size ≤ 1000000000000) (hlt : t.size ≤ 1000000000000) :
    Calls Tryz.prog 110 #[.string s, .string t] w fun e w' => e = .returned (.int .i64 (cmpI x y)) ∧ Below w.heap.size w w' := by
  have S1 := fun W => refSign_txt s x W hs
  have S2 := fun W => refSign_txt t y W ht
  have D1 := fun W => refDigits_txt s x W hs hls
  have D2 := fun W => refDigits_txt t y W ht hlt
  have U1 : ∀ v W, DV W v (dgs x.natAbs) → Calls Tryz.prog 149 #[v] W fun e w' => ∃ v', e = .returned v' ∧ DV W v' (nl x.natAbs) ∧ w' = W := fun v W hv => by
    have := cut_any _ v W hv (dgs_dg _) (dlen_bound hs hls)
    rwa [dv_dgs] at this
  have U2 : ∀ v W, DV W v (dgs y.natAbs) → Calls Tryz.prog 149 #[v] W fun e w' => ∃ v', e = .returned v' ∧ DV W v' (nl y.natAbs) ∧ w' = W := fun v W hv => by
    have := cut_any _ v W hv (dgs_dg _) (dlen_bound ht hlt)
    rwa [dv_dgs] at this
  have R := fun vx vy W hx hy => refOrder_any x.natAbs y.natAbs vx vy W hx hy
  have hcN := cmpN_cases x.natAbs y.natAbs
  have h1 := sgn_cases x
  have h2 := sgn_cases y
  have e1 : x < 0 → y < 0 → cmpI x y = -cmpN x.natAbs y.natAbs := cmpI_neg
  have e2 : 0 ≤ x → 0 ≤ y → cmpI x y = cmpN x.natAbs y.natAbs := cmpI_pos
  have e3 : x < y → cmpI x y = -1 := cmpI_lt
  have e4 : y < x → cmpI x y = 1 := cmpI_gt
  have hc0 : x = 0 → y = 0 → cmpN x.natAbs y.natAbs = 0 := fun a b => by subst a; subst b; rfl
  generalize cmpN x.natAbs y.natAbs = r at *
  generalize cmpI x y = q at *
  generalize cmpI x 0 = sx at *
  generalize cmpI y 0 = sy at *
  have hr1 : -1 ≤ r := by omega
  have hr2 : r ≤ 1 := by omega
  have K1 := Lib.hid S1; have K2 := Lib.hid S2; have K3 := Lib.hid D1; have K4 := Lib.hid D2; have K5 := Lib.hid U1; have K6 := Lib.hid U2; have K7 := Lib.hid R
  clear S1 S2 D1 D2 U1 U2 R hs ht hls hlt hcN
  rcases h1 with ⟨rfl, h1⟩ | ⟨rfl, h1⟩ | ⟨rfl, h1⟩ <;> rcases h2 with ⟨rfl, h2⟩ | ⟨rfl, h2⟩ | ⟨rfl, h2⟩
  case' inl.inl => (have hq : -r = q := (e1 h1 h2).symm)
  case' inl.inr.inl => (have hq : -1 = q := (e3 (by omega)).symm)
  case' inl.inr.inr => (have hq : -1 = q := (e3 (by omega)).symm)
  case' inr.inl.inl => (have hq : 1 = q := (e4 (by omega)).symm)
  case' inr.inl.inr.inl => (have hq : r = q := (e2 (by omega) (by omega)).symm; have hr0 : r = 0 := hc0 h1 h2)
  case' inr.inl.inr.inr => (have hq : -1 = q := (e3 (by omega)).symm)
  case' inr.inr.inl => (have hq : 1 = q := (e4 (by omega)).symm)
  case' inr.inr.inr.inl => (have hq : 1 = q := (e4 (by omega)).symm)
  case' inr.inr.inr.inr => (have hq : r = q := (e2 (by omega) (by omega)).symm)
  all_goals
    clear e1 e2 e3 e4 hc0 h1 h2
    try subst hr0
    subst hq
    go_enter Tryz.func110, Tryz.ntmps110
    go_wp2_with (go_at_call 156; refine (K1.out _).mono ?_; rintro e w1 ⟨rfl, rfl⟩; refine Hid.out ?_)
    refine Lib.hid ?_
    go_wp2_with (go_at_call 156; refine (K2.out _).mono ?_; rintro e w1 ⟨rfl, rfl⟩; refine Hid.out ?_)
    refine Lib.hid ?_
    first
      | (go_wp2
         go_ret
         exact ⟨rfl, Below.refl _ _⟩)
      | (go_wp2_with (go_at_call 145; refine (K3.out _).mono ?_; rintro e w1 ⟨v1, rfl, hv1, hb1⟩; refine Hid.out ?_)
         refine Lib.hid ?_
         go_wp2_with (go_at_call 149; refine (K5.out _ _ hv1).mono ?_; rintro e w2 ⟨v2, rfl, hv2, h⟩; subst h; refine Hid.out ?_)
         refine Lib.hid ?_
         go_wp2_with (go_at_call 145; refine (K4.out _).mono ?_; rintro e w3 ⟨v3, rfl, hv3, hb3⟩; refine Hid.out ?_)
         have hv2' := hv2.mono hb3
         refine Lib.hid ?_
         go_wp2_with (go_at_call 149; refine (K6.out _ _ hv3).mono ?_; rintro e w4 ⟨v4, rfl, hv4, h⟩; subst h; refine Hid.out ?_)
         refine Lib.hid ?_
         go_wp2_with (go_at_call 162; refine (K7.out _ _ _ hv2' hv4).mono ?_; rintro e w5 ⟨rfl, hb5⟩; refine Hid.out ?_)
         refine Lib.hid ?_
         go_wp2
         go_ret
         exact ⟨rfl, Below.chain hb1 (Below.chain hb3 hb5)⟩)

/-- Without an error both are notations. -/
theorem txt_of_canon {s : ByteArray} (h : canonB (bytes s) = true) : bytes s = Lib.itoa (valZ (bytes s)) := itoa_valZ h
theorem canon_of_err {s : ByteArray} (h : errOf (bytes s) = 0) : canonB (bytes s) = true := by
  unfold errOf at h
  cases hc : canonB (bytes s)
  · rw [hc] at h; simp at h
  · rfl
theorem errBoth_zero {a b : List UInt8} (h : errBoth a b = 0) : errOf a = 0 ∧ errOf b = 0 := by
  unfold errBoth at h
  by_cases h1 : errOf a = 0
  · rw [if_pos h1] at h; exact ⟨h1, h⟩
  · rw [if_neg h1] at h; exact absurd h h1

end Go.Proofs.YtbadibbdoljjhaaGreatDoor
