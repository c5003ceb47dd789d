/-
  surveyorref08.Join; surveyorlaw08.few.
-/
import Derived.Test.YtmogmneaomndeaaDoorLexS
import Derived.Deep.RegionHeld3
set_option linter.unusedSimpArgs false
set_option linter.unusedVariables false
namespace Go.Proofs.YtmogmneaomndeaaDoor
open Go Go.Proofs Go.RowKit

theorem ck_step {l : List Tk} {m j : Nat} (hm : l.length = m + 1) (h : j < m + 1) : ckL (l.drop j) = if ckE (tkD l j).k (bytes (tkD l j).t) (decide (m ≤ j)) = 0 then ckL (l.drop (j + 1)) else ckE (tkD l j).k (bytes (tkD l j).t) (decide (m ≤ j)) := by
  rw [tkD_drop (by omega)]
  show (if ckE _ _ (l.drop (j + 1)).isEmpty = 0 then _ else _) = _
  rw [tail_empty hm]
theorem ck_all {l : List Tk} {m : Nat} (hm : l.length = m + 1) (h : ckL l = 0) : ∀ j, j < m + 1 → ckE (tkD l j).k (bytes (tkD l j).t) (decide (m ≤ j)) = 0 ∧ ckL (l.drop j) = 0
  | 0, hj => by
    have h0 : ckL (l.drop 0) = 0 := h
    refine ⟨?_, h0⟩
    have e := ck_step hm hj
    rw [h0] at e
    by_cases q : ckE (tkD l 0).k (bytes (tkD l 0).t) (decide (m ≤ 0)) = 0
    · exact q
    · rw [if_neg q] at e; exact e.symm
  | j + 1, hj => by
    obtain ⟨h1, h2⟩ := ck_all hm h j (by omega)
    have e0 := ck_step hm (j := j) (by omega)
    rw [if_pos h1, h2] at e0
    refine ⟨?_, e0.symm⟩
    have e := ck_step hm hj
    rw [← e0] at e
    by_cases q : ckE (tkD l (j + 1)).k (bytes (tkD l (j + 1)).t) (decide (m ≤ j + 1)) = 0
    · exact q
    · rw [if_neg q] at e; exact e.symm
theorem ck_tok {k : Int} {x : List UInt8} {last : Bool} (h : ckE k x last = 0) : (okX x ∧ tkd x = k) ∨ (k = 3 ∧ last = true ∧ x = []) := by
  unfold ckE at h
  split at h
  · cases h
  · rename_i hk
    split at h
    · rename_i hi
      by_cases k3 : k = 3
      · refine .inr ⟨k3, ?_, ?_⟩
        · cases last
          · exact absurd (.inr (.inr ⟨k3, rfl⟩)) hk
          · rfl
        · subst k3
          unfold itB at hi
          rw [if_neg (by decide), if_neg (by decide), if_neg (by decide), decide_eq_true_iff] at hi
          exact List.length_eq_zero_iff.1 hi
      · exact .inl (itB_tok (by omega) (by omega) hi)
    · cases h
theorem ck_short {l : List Tk} (h : ckL l = 0) : ∀ t ∈ l, t.t.size ≤ 100 := by
  intro t ht
  obtain ⟨j, hj, e⟩ := List.mem_iff_getElem.1 ht
  obtain ⟨m, hm⟩ : ∃ m, l.length = m + 1 := ⟨l.length - 1, by omega⟩
  have h1 := (ck_all hm h j (by omega)).1
  rw [tkD_eq hj, e] at h1
  have : (bytes t.t).length ≤ 100 := by
    rcases ck_tok h1 with ⟨q, -⟩ | ⟨-, -, q⟩
    · exact okX_short q
    · rw [q]; exact Nat.zero_le _
  exact this

set_option maxHeartbeats 1000000 in
theorem refJoin_any (l : List Tk) (ao : Option Addr) (c : Nat) (w : World) (hr : TRow w ao c l) (hz : ∀ t ∈ l, t.t.size ≤ 9223372036854775807) (hn : l.length ≤ 1000000) :
    Calls Tryd.prog 24 #[.slice ao l.length c] w fun e w' => e = .returned (.tuple #[.string (joinR l).1, .int .i64 ((joinR l).2 : Nat)]) ∧ Below w.heap.size w w' := by
  by_cases h0 : l = []
  · subst h0
    clear hr hz hn
    show Calls Tryd.prog 24 #[.slice ao 0 c] w fun e w' => e = .returned (.tuple #[.string ⟨#[]⟩, .int .i64 20]) ∧ Below w.heap.size w w'
    go_enter Tryd.func24, Tryd.ntmps24
    go_wp2
    refine bodyPost_ret (by simp [results, Tryd.results24, go_sem]; rfl) rfl ?_
    exact ⟨rfl, Below.refl _ _⟩
  have hlen : 0 < l.length := List.length_pos_iff.2 h0
  obtain ⟨m, hm⟩ : ∃ m, l.length = m + 1 := ⟨l.length - 1, by omega⟩
  obtain ⟨b, o, rfl, hat⟩ := hr.at h0
  have hlast : l.getLast? = some (tkD l m) := by rw [tkD_eq (by omega), List.getLast?_eq_getElem?, show l.length - 1 = m by omega, List.getElem?_eq_getElem (by omega)]
  have hR : joinR l = if (tkD l m).k = 3 then (if ckL l = 0 then (match jnT none [] l with | none => (⟨#[]⟩, 13) | some o => (str o, 0)) else (⟨#[]⟩, ckL l)) else (⟨#[]⟩, 20) := by
    unfold joinR; rw [hlast]; rfl
  have hzz : ∀ j, j < l.length → (tkD l j).t.size ≤ 9223372036854775807 := fun j h => hz _ (tkD_mem h)
  have hc0 := (hat m (by omega) w (Below.refl _ _)).1
  have e1 : wrap64 (m : Int) = (m : Int) := by unfold wrap64; omega
  have e1b : wrap64 ((m : Int) + 1 - 1) = (m : Int) := by unfold wrap64; omega
  have m0 : decide ((m : Int) < 0) = false := by rw [decide_eq_false_iff_not]; omega
  have mz : ((m : Int) + 1 == 0) = false := by rw [beq_eq_false_iff_ne]; omega
  have m1 : (m : Int) < (m : Int) + 1 := by omega
  have m2 : (0 : Int) ≤ (m : Int) := by omega
  rw [hR]
  generalize hk : (tkD l m).k = k at *
  rw [hm]
  by_cases h3 : k = 3
  · rw [if_pos h3]
    have CK : ∀ j, j < l.length → 0 ≤ (tkD l j).k → (tkD l j).k ≤ 3 → ∀ W, Calls Tryd.prog 56 #[.agg #[.int .i64 (tkD l j).k, .string (tkD l j).t, .int .i64 (tkD l j).a]] W fun e w' => e = .returned (.int .i64 (fmE (tkD l j).k (bytes (tkD l j).t) : Nat)) ∧ Below W.heap.size W w' := fun j h q0 q3 W =>
      form_any _ _ _ q0 q3 (hzz j h) W
    have hck : ∀ j, j < m + 1 → ckL (l.drop j) = if ckE (tkD l j).k (bytes (tkD l j).t) (decide (m ≤ j)) = 0 then ckL (l.drop (j + 1)) else ckE (tkD l j).k (bytes (tkD l j).t) (decide (m ≤ j)) := fun j h => ck_step hm h
    have hck0 : ckL (l.drop (m + 1)) = 0 := by rw [List.drop_eq_nil_of_le (by omega)]; rfl
    obtain ⟨G, hG⟩ : ∃ G : ByteArray × Nat, G = (if ckL l = 0 then (match jnT none [] l with | none => (⟨#[]⟩, 13) | some o => (str o, 0)) else (⟨#[]⟩, ckL l)) := ⟨_, rfl⟩
    rw [← hG]
    subst h3
    have HK := Lib.hid hk; have KG := Lib.hid hG; have HAT := Lib.hid hat; have KCK := Lib.hid CK; have HCK := Lib.hid hck; have HCK0 := Lib.hid hck0; have HM := Lib.hid hm; have HNN := Lib.hid hn
    clear hr hz hn h0 hlen hat hlast hR hzz hk CK hck hck0 hG hm
    go_enter Tryd.func24, Tryd.ntmps24
    go_wp2_with fail
    rw [e1]
    go_loopw [4] (fun iv wr => ∃ j : Nat, j ≤ m + 1 ∧ iv = .int .i64 (j : Int) ∧ ckL (l.drop j) = ckL l ∧ Below w.heap.size w wr) (fun iv _ => m + 1 - (intOf iv).toNat)
    case atStart => exact ⟨0, Nat.zero_le _, rfl, rfl, Below.refl _ _⟩
    case round =>
      obtain ⟨j, hj, rfl, hcl, hB⟩ := hrel
      by_cases hlt2 : j < m + 1
      · have hck := HCK.out j hlt2
        have CK := KCK.out j (by rw [HM.out]; exact hlt2)
        obtain ⟨d0, d1, d2⟩ := HAT.out j (by rw [HM.out]; exact hlt2) wr hB
        rw [hcl] at hck
        have g0 : (0 : Int) ≤ (j : Int) := by omega
        have g1 : (j : Int) < (m : Int) + 1 := by omega
        have ej : wrap64 ((j : Int) + 1) = (j : Int) + 1 := by have q1 := HNN.out; have q2 := HM.out; unfold wrap64; omega
        generalize tkD l j = T at *
        obtain ⟨tk, tt, ta⟩ := T
        dsimp only at hck CK d0 d1 d2
        by_cases k0 : tk < 0
        · have hE : ckE tk (bytes tt) (decide (m ≤ j)) = 1 := by unfold ckE; rw [if_pos (.inl k0)]
          rw [hE, if_neg (by decide)] at hck
          replace hck := hck.symm
          have b0 : decide (tk < 0) = true := decide_eq_true k0
          have hG2 : G = (⟨#[]⟩, 1) := by
            rw [KG.out, if_neg (by rw [← hck]; decide), ← hck]
          have HG2 := Lib.hid hG2; have HB := Lib.hid hB; have HK0 := Lib.hid k0
          clear CK hck hcl hB hG2 hE hj hlt2 k0
          go_wp2
          refine bodyPost_ret (by simp [results, Tryd.results24, go_sem]; rfl) rfl ?_
          rw [HG2.out]
          exact ⟨rfl, HB.out⟩
        have b0 : decide (tk < 0) = false := decide_eq_false k0
        by_cases k4 : 3 < tk
        · have hE : ckE tk (bytes tt) (decide (m ≤ j)) = 1 := by unfold ckE; rw [if_pos (.inr (.inl k4))]
          rw [hE, if_neg (by decide)] at hck
          replace hck := hck.symm
          have b4 : decide (3 < tk) = true := decide_eq_true k4
          have hG2 : G = (⟨#[]⟩, 1) := by
            rw [KG.out, if_neg (by rw [← hck]; decide), ← hck]
          have HG2 := Lib.hid hG2; have HB := Lib.hid hB; have HK0 := Lib.hid k0; have HK4 := Lib.hid k4
          clear CK hck hcl hB hG2 hE hj hlt2 k0 k4
          go_wp2
          refine bodyPost_ret (by simp [results, Tryd.results24, go_sem]; rfl) rfl ?_
          rw [HG2.out]
          exact ⟨rfl, HB.out⟩
        have b4 : decide (3 < tk) = false := decide_eq_false k4
        by_cases k3 : tk = 3
        · by_cases hjm : j < m
          · subst k3
            clear b0 b4 k0 k4
            have hE : ckE 3 (bytes tt) (decide (m ≤ j)) = 1 := by unfold ckE; rw [if_pos (.inr (.inr ⟨rfl, decide_eq_false (by omega)⟩))]
            rw [hE, if_neg (by decide)] at hck
            replace hck := hck.symm
            have b5 : decide ((j : Int) < (m : Int)) = true := by rw [decide_eq_true_iff]; omega
            have b6 : decide (j < m) = true := by rw [decide_eq_true_iff]; omega
            have hG2 : G = (⟨#[]⟩, 1) := by
              rw [KG.out, if_neg (by rw [← hck]; decide), ← hck]
            have HG2 := Lib.hid hG2; have HB := Lib.hid hB; have HJM := Lib.hid hjm
            clear CK hck hcl hB hG2 hE hj hlt2 hjm
            go_wp2
            refine bodyPost_ret (by simp [results, Tryd.results24, go_sem]; rfl) rfl ?_
            rw [HG2.out]
            exact ⟨rfl, HB.out⟩
          · have hE : ckE tk (bytes tt) (decide (m ≤ j)) = fmE tk (bytes tt) := by
              unfold ckE fmE; rw [if_neg (by rintro (h | h | ⟨-, h⟩); exact k0 h; exact k4 h; rw [decide_eq_false_iff_not] at h; omega)]
            have CK1 := CK (by omega) (by omega)
            have b3 : (tk == 3) = true := by rw [beq_iff_eq]; exact k3
            have b5 : decide ((j : Int) < (m : Int)) = false := by rw [decide_eq_false_iff_not]; omega
            have b6 : decide (j < m) = false := by rw [decide_eq_false_iff_not]; omega
            by_cases hne : fmE tk (bytes tt) = 0
            · rw [hne] at CK1
              rw [hE, hne, if_pos rfl] at hck
              have KC := Lib.hid CK1; have HB := Lib.hid hB; have HC := Lib.hid hck; have HJ := Lib.hid hlt2; have HNE := Lib.hid hne
              have HJM := Lib.hid hjm; have HK0 := Lib.hid k0; have HK4 := Lib.hid k4; have HK3 := Lib.hid k3; clear hjm k0 k4 k3
              clear CK CK1 hck hcl hB hE hj hlt2 hne
              go_wp2_with (go_at_call 56; refine (KC.out _).mono ?_; rintro e w3 ⟨rfl, hb3⟩; refine Hid.out ?_)
              have HB3 := Lib.hid (Below.chain HB.out hb3)
              clear hb3
              refine Lib.hid ?_
              go_wp2
              go_roundw
              case rel => exact ⟨j + 1, HJ.out, (by first | exact congrArg (Value.int .i64) (Int.natCast_add j 1).symm | exact congrArg (Value.int .i64) (ej.trans (Int.natCast_add j 1).symm)), HC.out.symm, HB3.out⟩
              case measure => have := HJ.out; first | (show m + 1 - ((j : Int) + 1).toNat < m + 1 - ((j : Int)).toNat; omega) | (rw [ej]; show m + 1 - ((j : Int) + 1).toNat < m + 1 - ((j : Int)).toNat; omega)
            · have hG2 : G = (⟨#[]⟩, fmE tk (bytes tt)) := by
                rw [hE, if_neg hne] at hck
                rw [KG.out, if_neg (by rw [hck]; exact hne), hck]
              generalize fmE tk (bytes tt) = ne at *
              have tne : ((ne : Int) == 0) = false := by rw [beq_eq_false_iff_ne]; omega
              have tne2 : ((ne : Int) != 0) = true := by rw [bne_iff_ne]; omega
              have KC := Lib.hid CK1; have HB := Lib.hid hB; have HG2 := Lib.hid hG2; have HNE := Lib.hid hne
              have HJM := Lib.hid hjm; have HK0 := Lib.hid k0; have HK4 := Lib.hid k4; have HK3 := Lib.hid k3; clear hjm k0 k4 k3
              clear CK CK1 hck hcl hB hE hj hlt2 hne hG2
              go_wp2_with (go_at_call 56; refine (KC.out _).mono ?_; rintro e w3 ⟨rfl, hb3⟩; refine Hid.out ?_)
              have HB3 := Lib.hid (Below.chain HB.out hb3)
              clear hb3
              refine Lib.hid ?_
              go_wp2
              refine bodyPost_ret (by simp [results, Tryd.results24, go_sem]; rfl) rfl ?_
              rw [HG2.out]
              exact ⟨rfl, HB3.out⟩
        · have hE : ckE tk (bytes tt) (decide (m ≤ j)) = fmE tk (bytes tt) := by
            unfold ckE fmE; rw [if_neg (by rintro (h | h | ⟨h, -⟩) <;> contradiction)]
          have CK1 := CK (by omega) (by omega)
          have b3 : (tk == 3) = false := by rw [beq_eq_false_iff_ne]; exact k3
          by_cases hne : fmE tk (bytes tt) = 0
          · rw [hne] at CK1
            rw [hE, hne, if_pos rfl] at hck
            have KC := Lib.hid CK1; have HB := Lib.hid hB; have HC := Lib.hid hck; have HJ := Lib.hid hlt2; have HNE := Lib.hid hne
            have HK0 := Lib.hid k0; have HK4 := Lib.hid k4; have HK3 := Lib.hid k3; clear k0 k4 k3
            clear CK CK1 hck hcl hB hE hj hlt2 hne
            go_wp2_with (go_at_call 56; refine (KC.out _).mono ?_; rintro e w3 ⟨rfl, hb3⟩; refine Hid.out ?_)
            have HB3 := Lib.hid (Below.chain HB.out hb3)
            clear hb3
            refine Lib.hid ?_
            go_wp2
            go_roundw
            case rel => exact ⟨j + 1, HJ.out, (by first | exact congrArg (Value.int .i64) (Int.natCast_add j 1).symm | exact congrArg (Value.int .i64) (ej.trans (Int.natCast_add j 1).symm)), HC.out.symm, HB3.out⟩
            case measure => have := HJ.out; first | (show m + 1 - ((j : Int) + 1).toNat < m + 1 - ((j : Int)).toNat; omega) | (rw [ej]; show m + 1 - ((j : Int) + 1).toNat < m + 1 - ((j : Int)).toNat; omega)
          · have hG2 : G = (⟨#[]⟩, fmE tk (bytes tt)) := by
              rw [hE, if_neg hne] at hck
              rw [KG.out, if_neg (by rw [hck]; exact hne), hck]
            generalize fmE tk (bytes tt) = ne at *
            have tne : ((ne : Int) == 0) = false := by rw [beq_eq_false_iff_ne]; omega
            have tne2 : ((ne : Int) != 0) = true := by rw [bne_iff_ne]; omega
            have KC := Lib.hid CK1; have HB := Lib.hid hB; have HG2 := Lib.hid hG2; have HNE := Lib.hid hne
            have HK0 := Lib.hid k0; have HK4 := Lib.hid k4; have HK3 := Lib.hid k3; clear k0 k4 k3
            clear CK CK1 hck hcl hB hE hj hlt2 hne hG2
            go_wp2_with (go_at_call 56; refine (KC.out _).mono ?_; rintro e w3 ⟨rfl, hb3⟩; refine Hid.out ?_)
            have HB3 := Lib.hid (Below.chain HB.out hb3)
            clear hb3
            refine Lib.hid ?_
            go_wp2
            refine bodyPost_ret (by simp [results, Tryd.results24, go_sem]; rfl) rfl ?_
            rw [HG2.out]
            exact ⟨rfl, HB3.out⟩
      · obtain rfl : j = m + 1 := by omega
        rename World => W0
        have hcl0 : ckL l = 0 := by rw [← hcl]; exact HCK0.out
        have hG2 : G = (match jnT none [] l with | none => (⟨#[]⟩, 13) | some o => (str o, 0)) := by rw [KG.out, if_pos hcl0]
        have hall := fun j hj => (ck_all HM.out hcl0 j hj).1
        have hok : ∀ j, j < m → okX (bytes (tkD l j).t) := fun j hj => by
          rcases ck_tok (hall j (by omega)) with ⟨q, -⟩ | ⟨-, q, -⟩
          · exact q
          · rw [decide_eq_true_iff] at q; omega
        have hend : bytes (tkD l m).t = [] := by
          rcases ck_tok (hall m (by omega)) with ⟨-, q⟩ | ⟨-, -, q⟩
          · have := tkd_in (bytes (tkD l m).t)
            rw [q, HK.out] at this
            omega
          · exact q
        have ge : decide (((m + 1 : Nat) : Int) < (m : Int) + 1) = false := by rw [decide_eq_false_iff_not]; omega
        have ge2 : decide ((m : Int) + 1 < (m : Int) + 1) = false := by rw [decide_eq_false_iff_not]; omega
        have HG2 := Lib.hid hG2; have HBR := Lib.hid hB; have HOK := Lib.hid hok; have HEND := Lib.hid hend
        clear hB hG2 hcl hcl0 hj hlt2 HCK KCK hall hok hend
        go_wp2_with fail
        go_loopw [6, 7] (fun ov iv w2 => ∃ (j : Nat) (out : ByteArray), j ≤ m ∧ iv = .int .i64 (j : Int) ∧ ov = .string out ∧ jnT (pvT l j) (bytes out) (l.drop j) = jnT none [] l ∧ out.size ≤ 65536 ∧ Below w.heap.size w w2) (fun _ iv _ => m - (intOf iv).toNat)
        case atStart => exact ⟨0, ⟨#[]⟩, Nat.zero_le _, rfl, rfl, rfl, Nat.zero_le _, HBR.out⟩
        case round =>
          obtain ⟨j, out, hj, rfl, rfl, hjn, hol, hB⟩ := hrel
          by_cases hlt2 : j < m
          · have hst := jn_step HM.out (show j < m + 1 by omega) (bytes out)
            rw [hjn] at hst
            obtain ⟨d0, d1, d2⟩ := HAT.out j (by rw [HM.out]; omega) wr hB
            have hokj := HOK.out j hlt2
            have hts := okX_short hokj
            rw [bytes_length] at hts
            have g0 : (0 : Int) ≤ (j : Int) := by omega
            have g1 : (j : Int) < (m : Int) := by omega
            have g2 : (j : Int) < (m : Int) + 1 := by omega
            have ej : wrap64 ((j : Int) + 1) = (j : Int) + 1 := by have q1 := HNN.out; have q2 := HM.out; unfold wrap64; omega
            have HJ := Lib.hid hlt2
            by_cases hj0 : j = 0
            · have gz : decide ((0 : Int) < (j : Int)) = false := by rw [decide_eq_false_iff_not]; omega
              have gz2 : decide (0 < j) = false := by rw [decide_eq_false_iff_not]; omega
              have ho : outS (pvT l j) (bytes out) (bytes (tkD l j).t) = bytes out := by rw [hj0]; rfl
              rw [ho, ← bytes_app] at hst
              generalize tkD l j = T at *
              obtain ⟨tk, tt, ta⟩ := T
              dsimp only at hts d0 d1 d2 hst
              have h9 : ¬ 9223372036854775807 < out.size + tt.size := by omega
              have hsz : (out ++ tt).size = out.size + tt.size := ByteArray.size_append
              rw [bytes_length, hsz] at hst
              have HJ0 := Lib.hid hj0; have HOL := Lib.hid hol; have HB := Lib.hid hB; have HSZ := Lib.hid hsz; have HTS := Lib.hid hts
              clear ho hjn hB hj0 hol hlt2 hj hts hsz hokj
              by_cases hbig : 65536 < out.size + tt.size
              · have t6 : decide ((65536 : Int) < (out.size : Int) + (tt.size : Int)) = true := by rw [decide_eq_true_iff]; omega
                rw [if_pos hbig] at hst
                have hG3 : G = (⟨#[]⟩, 13) := by rw [HG2.out, hst]
                have HG3 := Lib.hid hG3; have HBG := Lib.hid hbig
                clear hG3 hst hbig
                go_wp2_with fail
                go_quiet (fail)
                go_wp2
                refine bodyPost_ret (by simp [results, Tryd.results24, go_sem]; rfl) rfl ?_
                rw [HG3.out]
                exact ⟨rfl, below_drewN HB.out _⟩
              · have t6 : decide ((65536 : Int) < (out.size : Int) + (tt.size : Int)) = false := by rw [decide_eq_false_iff_not]; omega
                rw [if_neg hbig] at hst
                have HST := Lib.hid hst; have HBG := Lib.hid hbig
                clear hst hbig
                go_wp2_with fail
                go_quiet (fail)
                go_wp2
                go_roundw
                case rel => exact ⟨j + 1, out ++ tt, HJ.out, (by first | exact congrArg (Value.int .i64) (Int.natCast_add j 1).symm | exact congrArg (Value.int .i64) (ej.trans (Int.natCast_add j 1).symm)), rfl, HST.out.symm, by rw [HSZ.out]; have := HBG.out; omega, below_drewN HB.out _⟩
                case measure => have := HJ.out; first | (show m - ((j : Int) + 1).toNat < m - ((j : Int)).toNat; omega) | (rw [ej]; show m - ((j : Int) + 1).toNat < m - ((j : Int)).toNat; omega)
            · obtain ⟨i, hi⟩ : ∃ i, j = i + 1 := ⟨j - 1, by omega⟩
              have gp : decide ((0 : Int) < (j : Int)) = true := by rw [decide_eq_true_iff]; omega
              have gp2 : decide (0 < j) = true := by rw [decide_eq_true_iff]; omega
              have ei : wrap64 ((j : Int) - 1) = (i : Int) := by have q1 := HNN.out; have q2 := HM.out; unfold wrap64; omega
              have ei2 : IntKind.i64.wrap ((j : Int) - 1) = (i : Int) := by rw [← ei]; unfold wrap64; exact IntKind.wrap_i64 _
              have gi0 : (0 : Int) ≤ (i : Int) := by omega
              have gi1 : (i : Int) < (m : Int) + 1 := by omega
              obtain ⟨p0, p1, p2⟩ := HAT.out i (by rw [HM.out]; omega) wr hB
              have hoki := HOK.out i (by omega)
              have hpv : pvT l j = some (bytes (tkD l i).t) := by unfold pvT; rw [if_neg hj0, show j - 1 = i by omega]
              have AP := fun W => apart_any (tkD l i) (tkD l j) hoki hokj W
              have hkeep : ∀ W, Below wr.heap.size wr W → W.cell? ⟨b, o + i * 3, none⟩ = some (.int .i64 (tkD l i).k) ∧ W.cell? ⟨b, o + i * 3 + 1, none⟩ = some (.string (tkD l i).t) ∧ W.cell? ⟨b, o + i * 3 + 2, none⟩ = some (.int .i64 (tkD l i).a) ∧ W.cell? ⟨b, o + j * 3, none⟩ = some (.int .i64 (tkD l j).k) ∧ W.cell? ⟨b, o + j * 3 + 1, none⟩ = some (.string (tkD l j).t) ∧ W.cell? ⟨b, o + j * 3 + 2, none⟩ = some (.int .i64 (tkD l j).a) := fun W hW => by
                obtain ⟨a1, a2, a3⟩ := HAT.out j (by rw [HM.out]; omega) W (Below.chain hB hW)
                obtain ⟨b1, b2, b3⟩ := HAT.out i (by rw [HM.out]; omega) W (Below.chain hB hW)
                exact ⟨b1, b2, b3, a1, a2, a3⟩
              obtain ⟨ap, hap⟩ : ∃ ap, apB (bytes (tkD l i).t) (bytes (tkD l j).t) = ap := ⟨_, rfl⟩
              have hos : outS (pvT l j) (bytes out) (bytes (tkD l j).t) = if ap = true then bytes out else bytes out ++ [32] := by rw [hpv, ← hap]; rfl
              rw [hos] at hst
              rw [hap] at AP
              clear hos hap hpv hoki hokj
              generalize tkD l i = Ti at *
              generalize tkD l j = T at *
              obtain ⟨tk, tt, ta⟩ := T
              obtain ⟨tki, tti, tai⟩ := Ti
              dsimp only at hts d0 d1 d2 p0 p1 p2 hst AP hkeep
              have KAP := Lib.hid AP; have CALL := Lib.hid hkeep; have HJ0 := Lib.hid hj0; have HOL := Lib.hid hol; have HB := Lib.hid hB; have HTS := Lib.hid hts; have HI := Lib.hid hi
              have HST0 := Lib.hid hst
              clear AP hkeep hjn hB hj0 hol hlt2 hj hts hi hst
              have K : ∀ W : World, Below wr.heap.size wr W → (W.cell? ⟨b, o + i * 3, none⟩ = some (.int .i64 tki) ∧ W.cell? ⟨b, o + i * 3 + 1, none⟩ = some (.string tti) ∧ W.cell? ⟨b, o + i * 3 + 2, none⟩ = some (.int .i64 tai) ∧ W.cell? ⟨b, o + j * 3, none⟩ = some (.int .i64 tk) ∧ W.cell? ⟨b, o + j * 3 + 1, none⟩ = some (.string tt) ∧ W.cell? ⟨b, o + j * 3 + 2, none⟩ = some (.int .i64 ta)) ∧ Below w.heap.size w W := fun W hW => ⟨CALL.out W hW, Below.chain HB.out hW⟩
              have KK := Lib.hid K; clear K CALL
              have hD : Below wr.heap.size wr wr.drew := (Below.refl _ _).drew
              go_wp2_with fail
              go_region_held3 (fun w' => w'.cell? ⟨b, o + i * 3, none⟩ = some (.int .i64 tki) ∧ w'.cell? ⟨b, o + i * 3 + 1, none⟩ = some (.string tti) ∧ w'.cell? ⟨b, o + i * 3 + 2, none⟩ = some (.int .i64 tai) ∧ w'.cell? ⟨b, o + j * 3, none⟩ = some (.int .i64 tk) ∧ w'.cell? ⟨b, o + j * 3 + 1, none⟩ = some (.string tt) ∧ w'.cell? ⟨b, o + j * 3 + 2, none⟩ = some (.int .i64 ta)) (first | (with_reducible exact (KK.out _ hD).1) | (with_reducible exact (KK.out _ hB3).1) | fail) (first | (go_at_call 57; (first | (with_reducible refine (KAP.out _).mono ?_); rintro e w3 ⟨rfl, hb3⟩; have hB3 := Below.chain hD hb3)))
              all_goals
                obtain ⟨⟨r0, r1, r2, s0, s1, s2⟩, hBw⟩ := KK.out _ hB3
                have HB3 := Lib.hid hBw
                have hst := HST0.out
                have hts := HTS.out; have hol := HOL.out
                clear hBw hB3 hb3 d0 d1 d2 p0 p1 p2 KK hD
                cases ap
                · rw [show (if (false : Bool) = true then bytes out else bytes out ++ [32]) = bytes (out ++ ⟨#[32]⟩) from (if_neg (by simp)).trans (show bytes out ++ [32] = bytes (out ++ ⟨#[32]⟩) from (bytes_app out ⟨#[32]⟩).symm), ← bytes_app] at hst
                  have hsz1 : (out ++ (⟨#[32]⟩ : ByteArray)).size = out.size + 1 := ByteArray.size_append
                  have hsz : (out ++ (⟨#[32]⟩ : ByteArray) ++ tt).size = out.size + 1 + tt.size := by rw [ByteArray.size_append, hsz1]
                  rw [bytes_length, hsz] at hst
                  have h9a : ¬ 9223372036854775807 < out.size + 1 := by omega
                  have h9b : ¬ 9223372036854775807 < out.size + 1 + tt.size := by omega
                  have h9c : ¬ 9223372036854775807 < (out ++ (⟨#[32]⟩ : ByteArray)).size + tt.size := by rw [hsz1]; omega
                  have HSZ := Lib.hid hsz
                  clear hsz hsz1
                  by_cases hbig : 65536 < out.size + 1 + tt.size
                  · have t6 : decide ((65536 : Int) < (out.size : Int) + 1 + (tt.size : Int)) = true := by rw [decide_eq_true_iff]; omega
                    have t7 : decide (65536 < out.size + 1 + tt.size) = true := by rw [decide_eq_true_iff]; omega
                    rw [if_pos hbig] at hst
                    have hG3 : G = (⟨#[]⟩, 13) := by rw [HG2.out, hst]
                    have HG3 := Lib.hid hG3; have HBG := Lib.hid hbig
                    clear hG3 hst hbig
                    go_wp2
                    refine bodyPost_ret (by simp [results, Tryd.results24, go_sem]; rfl) rfl ?_
                    rw [HG3.out]
                    exact ⟨rfl, HB3.out⟩
                  · have t6 : decide ((65536 : Int) < (out.size : Int) + 1 + (tt.size : Int)) = false := by rw [decide_eq_false_iff_not]; omega
                    have t7 : decide (65536 < out.size + 1 + tt.size) = false := by rw [decide_eq_false_iff_not]; omega
                    rw [if_neg hbig] at hst
                    have HST := Lib.hid hst; have HBG := Lib.hid hbig
                    clear hst hbig
                    go_wp2
                    go_roundw
                    case rel =>
                      (repeat apply Exists.intro)
                      refine ⟨⟨j + 1, out ++ (⟨#[32]⟩ : ByteArray) ++ tt, HJ.out, rfl, rfl, HST.out.symm, by rw [HSZ.out]; have := HBG.out; omega, HB3.out⟩, ?_⟩
                      first | rfl | (rw [ej]; rfl)
                    case measure => have := HJ.out; first | (show m - ((j : Int) + 1).toNat < m - ((j : Int)).toNat; omega) | (rw [ej]; show m - ((j : Int) + 1).toNat < m - ((j : Int)).toNat; omega)
                · rw [show (if (true : Bool) = true then bytes out else bytes out ++ [32]) = bytes out from if_pos rfl, ← bytes_app] at hst
                  have hsz : (out ++ tt).size = out.size + tt.size := ByteArray.size_append
                  rw [bytes_length, hsz] at hst
                  have h9 : ¬ 9223372036854775807 < out.size + tt.size := by omega
                  have HSZ := Lib.hid hsz
                  clear hsz
                  by_cases hbig : 65536 < out.size + tt.size
                  · have t6 : decide ((65536 : Int) < (out.size : Int) + (tt.size : Int)) = true := by rw [decide_eq_true_iff]; omega
                    have t7 : decide (65536 < out.size + tt.size) = true := by rw [decide_eq_true_iff]; omega
                    rw [if_pos hbig] at hst
                    have hG3 : G = (⟨#[]⟩, 13) := by rw [HG2.out, hst]
                    have HG3 := Lib.hid hG3; have HBG := Lib.hid hbig
                    clear hG3 hst hbig
                    go_wp2
                    refine bodyPost_ret (by simp [results, Tryd.results24, go_sem]; rfl) rfl ?_
                    rw [HG3.out]
                    exact ⟨rfl, HB3.out⟩
                  · have t6 : decide ((65536 : Int) < (out.size : Int) + (tt.size : Int)) = false := by rw [decide_eq_false_iff_not]; omega
                    have t7 : decide (65536 < out.size + tt.size) = false := by rw [decide_eq_false_iff_not]; omega
                    rw [if_neg hbig] at hst
                    have HST := Lib.hid hst; have HBG := Lib.hid hbig
                    clear hst hbig
                    go_wp2
                    go_roundw
                    case rel => exact ⟨_, _, _, _, ⟨j + 1, HJ.out, rfl, out ++ tt, rfl, HST.out.symm, by rw [HSZ.out]; have := HBG.out; omega, HB3.out⟩, rfl, rfl, rfl, (by first | exact congrArg (Value.int .i64) (Int.natCast_add j 1).symm | exact congrArg (Value.int .i64) (ej.trans (Int.natCast_add j 1).symm))⟩
                    case measure => have := HJ.out; first | (show m - ((j : Int) + 1).toNat < m - ((j : Int)).toNat; omega) | (rw [ej]; show m - ((j : Int) + 1).toNat < m - ((j : Int)).toNat; omega)
          · obtain rfl : j = m := by omega
            have hst := jn_step HM.out (show j < j + 1 by omega) (bytes out)
            have hos : outS (pvT l j) (bytes out) [] = bytes out := by
              unfold pvT
              by_cases q : j = 0
              · rw [if_pos q]; rfl
              · rw [if_neg q]
                show (if apB (bytes (tkD l (j - 1)).t) [] = true then _ else _) = _
                rw [if_pos (okX_nil (HOK.out (j - 1) (by omega)))]
            rw [hjn, HEND.out, hos, List.append_nil, bytes_length, if_neg (by omega), List.drop_eq_nil_of_le (by rw [HM.out]; omega)] at hst
            have hG3 : G = (out, 0) := by
              rw [HG2.out, hst]
              show (str (bytes out), 0) = _
              rw [str_bytes]
            have HG3 := Lib.hid hG3; have HB := Lib.hid hB
            have hge : ¬ (j : Int) < (j : Int) := by omega
            clear hG3 hst hos hjn hB hol hlt2 hj
            go_wp2
            refine bodyPost_ret (by simp [results, Tryd.results24, go_sem]; rfl) rfl ?_
            rw [HG3.out]
            exact ⟨rfl, HB.out⟩
  · rw [if_neg h3]
    have b3 : (k == 3) = false := by rw [beq_eq_false_iff_ne]; exact h3
    have b4 : (k != 3) = true := by rw [bne_iff_ne]; exact h3
    have H3 := Lib.hid h3
    clear hr hz hn h0 hlen hat hlast hR hzz hk h3 hm
    go_enter Tryd.func24, Tryd.ntmps24
    go_wp2
    refine bodyPost_ret (by simp [results, Tryd.results24, go_sem]; rfl) rfl ?_
    exact ⟨rfl, Below.refl _ _⟩
end Go.Proofs.YtmogmneaomndeaaDoor
