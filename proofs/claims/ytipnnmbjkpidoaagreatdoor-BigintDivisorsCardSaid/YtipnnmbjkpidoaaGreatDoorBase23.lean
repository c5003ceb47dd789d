import Derived.Test.YtipnnmbjkpidoaaGreatDoorBase18
import Derived.Test.YtipnnmbjkpidoaaGreatDoorBase21

set_option linter.unusedVariables false
/-
  The reference: Form, Negative, Digits, Check, Few; the laws' few and right.
-/
namespace Go.Proofs.YtipnnmbjkpidoaaGreatDoor
open Go Go.Proofs Go.RowKit

def digFrom (s : ByteArray) (f : Nat) : Bool := ((bytes s).drop f).all isDig
theorem digFrom_true {s : ByteArray} {f : Nat} (h : ∀ j, f ≤ j → j < s.size → 48 ≤ byteAt s j ∧ byteAt s j ≤ 57) : digFrom s f = true := by
  unfold digFrom
  rw [List.all_eq_true]
  intro c hc
  obtain ⟨i, hi, rfl⟩ := List.mem_iff_getElem.1 hc
  rw [List.length_drop] at hi
  rw [List.getElem_drop]
  have hlt : f + i < s.size := by rw [bytes_length] at hi; omega
  have := h (f + i) (by omega) hlt
  exact (isDig_byte s (f + i) hlt).trans (by simp [this.1, this.2])
theorem digFrom_false {s : ByteArray} {f j : Nat} (h1 : f ≤ j) (h2 : j < s.size) (h : ¬ (48 ≤ byteAt s j ∧ byteAt s j ≤ 57)) : digFrom s f = false := by
  cases hd : digFrom s f
  · rfl
  · exfalso
    unfold digFrom at hd
    rw [List.all_eq_true] at hd
    have hlt : j - f < ((bytes s).drop f).length := by rw [List.length_drop, bytes_length]; omega
    have := hd _ (List.getElem_mem hlt)
    rw [List.getElem_drop] at this
    have e : f + (j - f) = j := by omega
    simp only [e] at this
    have e2 := (isDig_byte s j h2).symm.trans this
    simp at e2
    exact h e2

/-- What Form tells, by its cases. -/
theorem canon_zero : canonB [48] = true := by decide
theorem canon_nil : canonB [] = false := by decide
theorem byte0 {s : ByteArray} {c : UInt8} {t : List UInt8} (h : bytes s = c :: t) : byteAt s 0 = c.toNat := by unfold byteAt; rw [h]; rfl
theorem byte1 {s : ByteArray} {c d : UInt8} {t : List UInt8} (h : bytes s = c :: d :: t) : byteAt s 1 = d.toNat := by unfold byteAt; rw [h]; rfl
theorem canon_plain {s : ByteArray} (h0 : 0 < s.size) (hn : byteAt s 0 ≠ 45) (hne : s ≠ ⟨#[48]⟩) : canonB (bytes s) = (!decide (byteAt s 0 = 48) && digFrom s 0) := by
  have hl : (bytes s).length = s.size := rfl
  match hb : bytes s, hl with
  | [], hl => simp at hl; omega
  | c :: t, hl =>
    have e0 := byte0 hb
    have hneg : negB (c :: t) = false := by
      cases h : negB (c :: t)
      · rfl
      · exfalso
        unfold negB Lib.hasPrefix at h
        have : c = 45 := by simpa using (by simpa [List.isPrefixOf] using h : 45 = c).symm
        subst this
        exact hn e0
    have hd : digL (c :: t) = c :: t := by
      rcases neg_cases (c :: t) with ⟨h, -⟩ | ⟨-, h⟩
      · rw [hneg] at h; cases h
      · exact h
    unfold canonB digFrom
    rw [hd, hb, List.drop_zero, e0]
    by_cases h48 : c = 48
    · subst h48
      have h1 : 1 < (48 :: t).length := by
        rcases Nat.lt_or_ge 1 ((48 : UInt8) :: t).length with h | h
        · exact h
        · exfalso
          have ht : t = [] := by simpa using h
          subst ht
          exact hne (ByteArray.ext (Array.ext' hb))
      rw [decide_eq_true h1]
      simp
    · have : ¬ c.toNat = 48 := fun h => h48 (UInt8.toNat_inj.1 (by rw [h]; rfl))
      simp [h48, this]
theorem canon_minus {s : ByteArray} (h1 : 1 < s.size) (hn : byteAt s 0 = 45) : canonB (bytes s) = (!decide (byteAt s 1 = 48) && digFrom s 1) := by
  have hl : (bytes s).length = s.size := rfl
  match hb : bytes s, hl with
  | [], hl => simp at hl; omega
  | [c], hl => simp at hl; omega
  | c :: d :: t, hl =>
    have e0 := byte0 hb
    have e1 := byte1 hb
    have : c = 45 := UInt8.toNat_inj.1 (by rw [← e0, hn]; rfl)
    subst this
    unfold canonB digFrom
    rw [dig_cons, hb, e1]
    by_cases h48 : d = 48
    · subst h48; simp
    · have : ¬ d.toNat = 48 := fun h => h48 (UInt8.toNat_inj.1 (by rw [h]; rfl))
      simp [h48, this]
theorem canon_dash {s : ByteArray} (h1 : s.size = 1) (hn : byteAt s 0 = 45) : canonB (bytes s) = false := by
  have hl : (bytes s).length = s.size := rfl
  match hb : bytes s, hl with
  | [], hl => simp at hl; omega
  | [c], hl =>
    have e0 := byte0 hb
    have : c = 45 := UInt8.toNat_inj.1 (by rw [← e0, hn]; rfl)
    subst this; decide
  | c :: d :: t, hl => simp at hl; omega

set_option maxHeartbeats 4000000 in
theorem form_any (s : ByteArray) (w : World) (hs : s.size ≤ 9223372036854775807) :
    Calls Tryz.prog 63 #[.string s] w fun e w' => e = .returned (.bool (canonB (bytes s))) ∧ w' = w := by
  by_cases hz : s = ⟨#[48]⟩
  · subst hz
    rw [show bytes ⟨#[48]⟩ = [48] from rfl, canon_zero]
    clear hs
    go_enter Tryz.func63, Tryz.ntmps63
    go_wp2
    go_ret
    exact ⟨rfl, rfl⟩
  · have hd := eq48 s hz
    by_cases h0 : s.size = 0
    · have hq : canonB (bytes s) = false := by rw [List.length_eq_zero_iff.1 (show (bytes s).length = 0 from h0)]; exact canon_nil
      rw [hq]
      clear hz hq
      go_enter Tryz.func63, Tryz.ntmps63
      go_wp2
      go_ret
      exact ⟨rfl, rfl⟩
    · have hpos : 0 < s.size := by omega
      have g0 := byteAt_get s 0 hpos
      by_cases hm : byteAt s 0 = 45
      · by_cases h1 : s.size = 1
        · rw [canon_dash h1 hm]
          rw [hm] at g0
          clear hz hm
          go_enter Tryz.func63, Tryz.ntmps63
          go_wp2
          go_ret
          exact ⟨rfl, rfl⟩
        · have h1' : 1 < s.size := by omega
          have g1 := byteAt_get s 1 h1'
          have hq := canon_minus h1' hm
          rw [hm] at g0
          generalize hb1 : byteAt s 1 = b1 at *
          by_cases h48 : b1 = 48
          · subst h48
            rw [hq]
            clear hz hm hq hb1
            go_enter Tryz.func63, Tryz.ntmps63
            go_wp2
            go_ret
            exact ⟨rfl, rfl⟩
          · have hq2 : canonB (bytes s) = digFrom s 1 := by rw [hq]; simp [h48]
            rw [hq2]
            have t1 : ((1 : Int) == (s.size : Int)) = false := by rw [beq_eq_false_iff_ne]; omega
            have t2 : ((b1 : Int) == 48) = false := by rw [beq_eq_false_iff_ne]; omega
            clear hz hm hq hq2 hb1 h48
            go_enter Tryz.func63, Tryz.ntmps63
            go_wp2_with fail
            clear g0 g1 hd t1 t2
            go_loop [4] (fun iv => ∃ k : Nat, 1 ≤ k ∧ k ≤ s.size ∧ iv = .int .i64 k ∧ ∀ j, 1 ≤ j → j < k → 48 ≤ byteAt s j ∧ byteAt s j ≤ 57) (fun iv => s.size - (intOf iv).toNat)
            case atStart => exact ⟨1, Nat.le_refl _, by omega, rfl, fun j h1 h2 => by omega⟩
            case round =>
              obtain ⟨k, hk1, hk, rfl, hall⟩ := hrel
              have HALL := Lib.hid hall; clear hall
              by_cases hlt : k < s.size
              · have hgk := byteAt_get s k hlt
                by_cases hdk : 48 ≤ byteAt s k ∧ byteAt s k ≤ 57
                · have e1 : ∀ j, 1 ≤ j → j < k + 1 → 48 ≤ byteAt s j ∧ byteAt s j ≤ 57 := fun j h1 h2 => by
                    by_cases hj : j = k
                    · subst hj; exact hdk
                    · exact HALL.out j h1 (by omega)
                  have E1 := Lib.hid e1; clear e1
                  obtain ⟨hd1, hd2⟩ := hdk
                  generalize byteAt s k = b at *
                  go_wp2
                  go_round
                  case rel => exact ⟨k + 1, by omega, by omega, by go_num, E1.out⟩
                  case measure => simp [intOf]; omega
                · have e1 : digFrom s 1 = false := digFrom_false hk1 hlt hdk
                  have E1 := Lib.hid e1; clear e1
                  have hdd : byteAt s k < 48 ∨ (¬ byteAt s k < 48 ∧ 57 < byteAt s k) := by omega
                  clear hdk
                  generalize byteAt s k = b at *
                  rcases hdd with hdd | ⟨hdd, hde⟩
                  all_goals
                    go_wp2
                    go_ret
                    exact ⟨ret_bool E1.out.symm, rfl⟩
              · have hkn : k = s.size := by omega
                subst hkn
                have e1 : digFrom s 1 = true := digFrom_true HALL.out
                have E1 := Lib.hid e1; clear e1
                go_wp2
                go_ret
                exact ⟨ret_bool E1.out.symm, rfl⟩
      · have hq := canon_plain hpos hm hz
        generalize hb0 : byteAt s 0 = b0 at *
        have hm' : b0 ≠ 45 := hm
        by_cases h48 : b0 = 48
        · subst h48
          rw [hq]
          clear hz hm hq hb0
          go_enter Tryz.func63, Tryz.ntmps63
          go_wp2
          go_ret
          exact ⟨rfl, rfl⟩
        · have hq2 : canonB (bytes s) = digFrom s 0 := by rw [hq]; simp [h48]
          rw [hq2]
          have t1 : ((0 : Int) == (s.size : Int)) = false := by rw [beq_eq_false_iff_ne]; omega
          have t2 : ((b0 : Int) == 48) = false := by rw [beq_eq_false_iff_ne]; omega
          have t3 : ((b0 : Int) == 45) = false := by rw [beq_eq_false_iff_ne]; omega
          clear hz hm hm' hq hq2 hb0 h48
          go_enter Tryz.func63, Tryz.ntmps63
          go_wp2_with fail
          clear g0 hd t1 t2 t3
          go_loop [4] (fun iv => ∃ k : Nat, 0 ≤ k ∧ k ≤ s.size ∧ iv = .int .i64 k ∧ ∀ j, 0 ≤ j → j < k → 48 ≤ byteAt s j ∧ byteAt s j ≤ 57) (fun iv => s.size - (intOf iv).toNat)
          case atStart => exact ⟨0, Nat.le_refl _, by omega, rfl, fun j h1 h2 => by omega⟩
          case round =>
            obtain ⟨k, hk1, hk, rfl, hall⟩ := hrel
            have HALL := Lib.hid hall; clear hall
            by_cases hlt : k < s.size
            · have hgk := byteAt_get s k hlt
              by_cases hdk : 48 ≤ byteAt s k ∧ byteAt s k ≤ 57
              · have e1 : ∀ j, 0 ≤ j → j < k + 1 → 48 ≤ byteAt s j ∧ byteAt s j ≤ 57 := fun j h1 h2 => by
                  by_cases hj : j = k
                  · subst hj; exact hdk
                  · exact HALL.out j h1 (by omega)
                have E1 := Lib.hid e1; clear e1
                obtain ⟨hd1, hd2⟩ := hdk
                generalize byteAt s k = b at *
                go_wp2
                go_round
                case rel => exact ⟨k + 1, by omega, by omega, by go_num, E1.out⟩
                case measure => simp [intOf]; omega
              · have e1 : digFrom s 0 = false := digFrom_false hk1 hlt hdk
                have E1 := Lib.hid e1; clear e1
                have hdd : byteAt s k < 48 ∨ (¬ byteAt s k < 48 ∧ 57 < byteAt s k) := by omega
                clear hdk
                generalize byteAt s k = b at *
                rcases hdd with hdd | ⟨hdd, hde⟩
                all_goals
                  go_wp2
                  go_ret
                  exact ⟨ret_bool E1.out.symm, rfl⟩
            · have hkn : k = s.size := by omega
              subst hkn
              have e1 : digFrom s 0 = true := digFrom_true HALL.out
              have E1 := Lib.hid e1; clear e1
              go_wp2
              go_ret
              exact ⟨ret_bool E1.out.symm, rfl⟩
end Go.Proofs.YtipnnmbjkpidoaaGreatDoor

/-
  The reference: Check, Few; the laws' few and right.
-/
namespace Go.Proofs.YtipnnmbjkpidoaaGreatDoor
open Go Go.Proofs Go.RowKit

theorem negative_any (s : ByteArray) (w : World) (h0 : 0 < s.size) :
    Calls Tryz.prog 72 #[.string s] w fun e w' => e = .returned (.bool (decide (byteAt s 0 = 45))) ∧ w' = w := by
  have g0 := byteAt_get s 0 h0
  generalize byteAt s 0 = b at *
  go_enter Tryz.func72, Tryz.ntmps72
  go_wp2
  go_ret
  refine ⟨ret_bool ?_, rfl⟩
  rw [Bool.eq_iff_iff]
  simp only [beq_iff_eq, decide_eq_true_eq]
  omega

theorem digits_len {s : ByteArray} (h0 : 0 < s.size) : (digL (bytes s)).length = if byteAt s 0 = 45 then s.size - 1 else s.size := by
  have hl : (bytes s).length = s.size := rfl
  match hb : bytes s, hl with
  | [], hl => simp at hl; omega
  | c :: t, hl =>
    have e0 := byte0 hb
    by_cases hc : c = 45
    · subst hc
      rw [dig_cons, if_pos (by rw [e0]; rfl)]
      simp at hl; omega
    · have hne : ¬ byteAt s 0 = 45 := by rw [e0]; exact fun h => hc (UInt8.toNat_inj.1 (by rw [h]; rfl))
      have hneg : negB (c :: t) = false := by
        cases h : negB (c :: t)
        · rfl
        · exfalso
          unfold negB Lib.hasPrefix at h
          exact hc (by simpa using (by simpa [List.isPrefixOf] using h : 45 = c).symm)
      rw [if_neg hne]
      rcases neg_cases (c :: t) with ⟨h, -⟩ | ⟨-, h⟩
      · rw [hneg] at h; cases h
      · rw [h]; exact hl

theorem refDigits_any (s : ByteArray) (w : World) (h0 : 0 < s.size) (hs : s.size ≤ 9223372036854775807) :
    Calls Tryz.prog 50 #[.string s] w fun e w' => e = .returned (.int .i64 ((digL (bytes s)).length : Nat)) ∧ w' = w := by
  have C := fun W => negative_any s W h0
  rw [digits_len h0]
  by_cases h : byteAt s 0 = 45
  · rw [if_pos h]
    rw [decide_eq_true h] at C
    have KC := Lib.hid C; clear C h
    go_enter Tryz.func50, Tryz.ntmps50
    go_wp2_with (go_at_call 72; refine (KC.out _).mono ?_; rintro e w1 ⟨rfl, rfl⟩; refine Hid.out ?_)
    refine Lib.hid ?_
    go_wp2
    go_ret
    exact ⟨ret_int (by omega), rfl⟩
  · rw [if_neg h]
    rw [decide_eq_false h] at C
    have KC := Lib.hid C; clear C h
    go_enter Tryz.func50, Tryz.ntmps50
    go_wp2_with (go_at_call 72; refine (KC.out _).mono ?_; rintro e w1 ⟨rfl, rfl⟩; refine Hid.out ?_)
    refine Lib.hid ?_
    go_wp2
    go_ret
    exact ⟨rfl, rfl⟩

theorem refCheck_any (s : ByteArray) (w : World) (hs : s.size ≤ 9223372036854775807) :
    Calls Tryz.prog 18 #[.string s] w fun e w' => e = .returned (.int .i64 (errOf (bytes s) : Nat)) ∧ w' = w := by
  have C1 := fun W => form_any s W hs
  have C2 : canonB (bytes s) = true → ∀ W, Calls Tryz.prog 50 #[.string s] W fun e w' => e = .returned (.int .i64 ((digL (bytes s)).length : Nat)) ∧ w' = W := fun hc W => refDigits_any s W (by
    rcases Nat.eq_zero_or_pos s.size with h | h
    · exfalso
      rw [List.length_eq_zero_iff.1 (show (bytes s).length = 0 from h)] at hc
      exact absurd hc (by decide)
    · exact h) hs
  have he : errOf (bytes s) = if canonB (bytes s) = true then (if 4096 < (digL (bytes s)).length then 10 else 0) else 3 := rfl
  rw [he]
  cases hc : canonB (bytes s)
  · rw [hc] at C1
    have K1 := Lib.hid C1; clear C1 C2 he hc
    rw [if_neg (by simp)]
    go_enter Tryz.func18, Tryz.ntmps18
    go_wp2_with (go_at_call 63; refine (K1.out _).mono ?_; rintro e w1 ⟨rfl, rfl⟩; refine Hid.out ?_)
    refine Lib.hid ?_
    go_wp2
    go_ret
    exact ⟨rfl, rfl⟩
  · rw [hc] at C1
    have C2' := C2 hc
    have K1 := Lib.hid C1; have K2 := Lib.hid C2'; clear C1 C2 C2' he hc
    rw [if_pos rfl]
    generalize (digL (bytes s)).length = n at *
    by_cases hn : 4096 < n
    · rw [if_pos hn]
      go_enter Tryz.func18, Tryz.ntmps18
      go_wp2_with (go_at_call 63; refine (K1.out _).mono ?_; rintro e w1 ⟨rfl, rfl⟩; refine Hid.out ?_)
      refine Lib.hid ?_
      go_wp2_with (go_at_call 50; refine (K2.out _).mono ?_; rintro e w1 ⟨rfl, rfl⟩; refine Hid.out ?_)
      refine Lib.hid ?_
      go_wp2
      go_ret
      exact ⟨rfl, rfl⟩
    · rw [if_neg hn]
      go_enter Tryz.func18, Tryz.ntmps18
      go_wp2_with (go_at_call 63; refine (K1.out _).mono ?_; rintro e w1 ⟨rfl, rfl⟩; refine Hid.out ?_)
      refine Lib.hid ?_
      go_wp2_with (go_at_call 50; refine (K2.out _).mono ?_; rintro e w1 ⟨rfl, rfl⟩; refine Hid.out ?_)
      refine Lib.hid ?_
      go_wp2
      go_ret
      exact ⟨rfl, rfl⟩

theorem refFew_any (s : ByteArray) (w : World) (hs : s.size ≤ 9223372036854775807) :
    Calls Tryz.prog 62 #[.string s] w fun e w' => e = .returned (.bool (decide (s.size ≤ 250))) ∧ w' = w := by
  go_enter Tryz.func62, Tryz.ntmps62
  go_wp2
  go_ret
  exact ⟨ret_bool (by simp; omega), rfl⟩

/-- A row of strings. -/
def StrsAt (w : World) (b : Nat) (ss : List ByteArray) : Prop := ∀ j, (h : j < ss.length) → w.cell? ⟨b, j, none⟩ = some (.string (ss[j]'h))
def fewB (s : ByteArray) : Bool := decide (s.size ≤ 250)
def okB (s : ByteArray) : Bool := decide (errOf (bytes s) = 0)

theorem take_all_succ (p : ByteArray → Bool) (l : List ByteArray) (k : Nat) (h : k < l.length) : (l.take (k + 1)).all p = ((l.take k).all p && p l[k]) := by
  rw [List.take_succ_eq_append_getElem h, List.all_append]; simp
theorem take_all_false (p : ByteArray → Bool) (l : List ByteArray) (k : Nat) (h : k < l.length) (hp : p l[k] = false) : l.all p = false := by
  cases h3 : l.all p
  · rfl
  · rw [List.all_eq_true] at h3
    rw [h3 _ (List.getElem_mem h)] at hp
    cases hp

set_option maxHeartbeats 2000000 in
theorem few_any (ss : List ByteArray) (b c : Nat) (w : World) (hr : StrsAt w b ss) (hs : ∀ s ∈ ss, s.size ≤ 9223372036854775807) (hn : ss.length ≤ 1000) :
    Calls Tryz.prog 16 #[.slice (some ⟨b, 0, none⟩) ss.length c] w fun e w' => e = .returned (.bool (ss.all fewB)) ∧ w' = w := by
  have HC := Lib.hid hr; have HS := Lib.hid hs
  clear hr hs
  generalize hlen : ss.length = n at *
  have HLEN := Lib.hid hlen; clear hlen
  go_enter Tryz.func16, Tryz.ntmps16
  go_wp2_with fail
  go_loop [7] (fun iv => ∃ k : Nat, k ≤ n ∧ iv = .int .i64 k ∧ (ss.take k).all fewB = true) (fun iv => n - (intOf iv).toNat)
  case atStart => exact ⟨0, Nat.zero_le _, rfl, rfl⟩
  case round =>
    obtain ⟨k, hk, rfl, hall⟩ := hrel
    have HALL := Lib.hid hall; clear hall
    by_cases hlt : k < n
    · have hlt' : k < ss.length := by rw [HLEN.out]; exact hlt
      have ck : w.cell? ⟨b, k, none⟩ = some (.string (ss[k]'hlt')) := HC.out k hlt'
      have C := refFew_any (ss[k]'hlt') w (HS.out _ (List.getElem_mem hlt'))
      have hsucc := take_all_succ fewB ss k hlt'
      rw [HALL.out, Bool.true_and] at hsucc
      have hbad := take_all_false fewB ss k hlt'
      change Calls Tryz.prog 62 #[.string (ss[k]'hlt')] w fun e w' => e = .returned (.bool (fewB (ss[k]'hlt'))) ∧ w' = w at C
      have KC := Lib.hid C; have HSU := Lib.hid hsucc; have HBA := Lib.hid hbad
      clear C hsucc hbad
      cases hf : fewB (ss[k]'hlt')
      · rw [hf] at KC
        have e1 := HBA.out hf
        have E1 := Lib.hid e1; clear e1 hf HSU HBA
        generalize ss[k]'hlt' = sk at *
        go_wp2_with (go_at_call 62; refine KC.out.mono ?_; rintro e w1 ⟨rfl, h⟩; subst h; refine Hid.out ?_)
        refine Lib.hid ?_
        go_wp2
        go_ret
        exact ⟨ret_bool E1.out.symm, rfl⟩
      · rw [hf] at KC
        have e1 := HSU.out
        rw [hf] at e1
        have E1 := Lib.hid e1; clear e1 hf HSU HBA
        generalize ss[k]'hlt' = sk at *
        go_wp2_with (go_at_call 62; refine KC.out.mono ?_; rintro e w1 ⟨rfl, h⟩; subst h; refine Hid.out ?_)
        refine Lib.hid ?_
        go_wp2
        go_round
        case rel => exact ⟨k + 1, by omega, by go_num, E1.out⟩
        case measure => simp [intOf]; omega
    · have hkn : k = n := by omega
      subst hkn
      have e1 : ss.all fewB = true := by
        have := HALL.out
        rwa [List.take_of_length_le (by rw [HLEN.out]; exact Nat.le_refl _)] at this
      have E1 := Lib.hid e1; clear e1
      go_wp2
      go_ret
      exact ⟨ret_bool E1.out.symm, rfl⟩
end Go.Proofs.YtipnnmbjkpidoaaGreatDoor

/-
  The laws' right.
-/
namespace Go.Proofs.YtipnnmbjkpidoaaGreatDoor
open Go Go.Proofs Go.RowKit

set_option maxHeartbeats 2000000 in
theorem right_any (ss : List ByteArray) (b c : Nat) (w : World) (hr : StrsAt w b ss) (hs : ∀ s ∈ ss, s.size ≤ 9223372036854775807) (hn : ss.length ≤ 1000) :
    Calls Tryz.prog 53 #[.slice (some ⟨b, 0, none⟩) ss.length c] w fun e w' => e = .returned (.bool (ss.all okB && ss.all fewB)) ∧ w' = w := by
  have CF := few_any ss b c w hr hs hn
  have HC := Lib.hid hr; have HS := Lib.hid hs
  clear hr hs
  generalize hlen : ss.length = n at *
  have HLEN := Lib.hid hlen; have KF := Lib.hid CF; clear hlen CF
  go_enter Tryz.func53, Tryz.ntmps53
  go_wp2_with fail
  go_loop [7] (fun iv => ∃ k : Nat, k ≤ n ∧ iv = .int .i64 k ∧ (ss.take k).all okB = true) (fun iv => n - (intOf iv).toNat)
  case atStart => exact ⟨0, Nat.zero_le _, rfl, rfl⟩
  case round =>
    obtain ⟨k, hk, rfl, hall⟩ := hrel
    have HALL := Lib.hid hall; clear hall
    by_cases hlt : k < n
    · have hlt' : k < ss.length := by rw [HLEN.out]; exact hlt
      have ck : w.cell? ⟨b, k, none⟩ = some (.string (ss[k]'hlt')) := HC.out k hlt'
      have C := refCheck_any (ss[k]'hlt') w (HS.out _ (List.getElem_mem hlt'))
      have hsucc := take_all_succ okB ss k hlt'
      rw [HALL.out, Bool.true_and] at hsucc
      have hbad := take_all_false okB ss k hlt'
      have KC := Lib.hid C; have HSU := Lib.hid hsucc; have HBA := Lib.hid hbad
      clear C hsucc hbad
      rcases errOf_cases (bytes (ss[k]'hlt')) with he | he | he
      · have hf : okB (ss[k]'hlt') = true := by unfold okB; rw [he]; rfl
        rw [he] at KC
        have e1 := HSU.out
        rw [hf] at e1
        have E1 := Lib.hid e1; clear e1 hf HSU HBA he
        generalize ss[k]'hlt' = sk at *
        go_wp2_with (go_at_call 18; refine KC.out.mono ?_; rintro e w1 ⟨rfl, h⟩; subst h; refine Hid.out ?_)
        refine Lib.hid ?_
        go_wp2
        go_round
        case rel => exact ⟨k + 1, by omega, by go_num, E1.out⟩
        case measure => simp [intOf]; omega
      all_goals
        have hf : okB (ss[k]'hlt') = false := by unfold okB; rw [he]; rfl
        rw [he] at KC
        have e1 : (ss.all okB && ss.all fewB) = false := by rw [HBA.out hf]; rfl
        have E1 := Lib.hid e1; clear e1 hf HSU HBA he
        generalize ss[k]'hlt' = sk at *
        go_wp2_with (go_at_call 18; refine KC.out.mono ?_; rintro e w1 ⟨rfl, h⟩; subst h; refine Hid.out ?_)
        refine Lib.hid ?_
        go_wp2
        go_ret
        exact ⟨ret_bool E1.out.symm, rfl⟩
    · have hkn : k = n := by omega
      subst hkn
      have e1 : ss.all okB = true := by
        have := HALL.out
        rwa [List.take_of_length_le (by rw [HLEN.out]; exact Nat.le_refl _)] at this
      have E1 := Lib.hid e1; clear e1
      go_wp2_with (go_at_call 16; refine KF.out.mono ?_; rintro e w1 ⟨rfl, h⟩; subst h; refine Hid.out ?_)
      refine Lib.hid ?_
      go_wp2
      go_ret
      exact ⟨ret_bool (by rw [E1.out, Bool.true_and]), rfl⟩

/-- A string that Check passes is its integer's notation. -/
theorem str_of_err {s : ByteArray} (h : errOf (bytes s) = 0) : Str s (valZ (bytes s)) := by
  unfold errOf at h
  cases hc : canonB (bytes s)
  · rw [hc] at h; simp at h
  · rw [hc, if_pos rfl] at h
    refine str_lit hc rfl ?_
    by_cases hl : 4096 < (digL (bytes s)).length
    · rw [if_pos hl] at h; cases h
    · omega
end Go.Proofs.YtipnnmbjkpidoaaGreatDoor
