import Derived.Test.YtipnnmbjkpidoaaGreatDoorBase7
import Derived.Test.YtipnnmbjkpidoaaGreatDoorBase11

set_option linter.unusedVariables false
namespace Go.Proofs.YtipnnmbjkpidoaaGreatDoor
open Go Go.Proofs Go.RowKit

/-- What 'subtract' leaves: the limbs of its window, and what is missing. -/
def Subtracted (w : World) (b : Nat) (A X Y C : List Nat) (t : Nat) (e : Ending) (w' : World) : Prop :=
  ∃ q X', e = .returned (.int .u64 (q : Nat)) ∧ Blk w' b (A ++ X' ++ C) ∧ X'.length = X.length ∧ Small X' ∧ q ≤ t ∧ val X + q * 1000000000 ^ X.length = val X' + t * val Y ∧ w.grownBy w' (some b)

theorem prod_bound (t y : Nat) (ht : t < 1000000000) (hy : y < 1000000000) : 0 ≤ (t : Int) * (y : Int) ∧ (t : Int) * (y : Int) ≤ 999999998000000001 := by
  have h : t * y ≤ 999999999 * 999999999 := Nat.mul_le_mul (by omega) (by omega)
  have e : (t : Int) * (y : Int) = ((t * y : Nat) : Int) := by rw [Int.natCast_mul]
  rw [e]; omega

set_option maxHeartbeats 4000000 in
theorem subtract_any (b c d n m : Nat) (ap : Option Addr) (A X Y C : List Nat) (t : Nat) (w : World) (hb : Blk w b (A ++ X ++ C)) (hX : Small X) (hy : RowAt w ap d Y) (hY : Small Y)
    (hyb : ∀ b' o, ap = some ⟨b', o, none⟩ → Y ≠ [] → b' ≠ b) (hn : X.length = n) (hm : Y.length = m) (hmn : m ≤ n) (hnb : n ≤ 1000000000000) (ht : t < 1000000000) :
    Calls Tryz.prog 173 #[.slice (some ⟨b, A.length, none⟩) n c, .slice ap m d, .int .u64 t] w (Subtracted w b A X Y C t) := by
  have HB := Lib.hid hb; have HX := Lib.hid hX; have HYR := Lib.hid hy; have HY := Lib.hid hY; have HYB := Lib.hid hyb; have HN := Lib.hid hn; have HM := Lib.hid hm; have HMN := Lib.hid hmn
  clear hb hX hy hY hyb hn hm hmn
  generalize ho : A.length = o
  have HO := Lib.hid ho; clear ho
  go_enter Tryz.func173, Tryz.ntmps173
  go_wp2_with fail
  go_loopw [7, 15] (fun qv iv wr => ∃ (i q : Nat) (S : List Nat), i ≤ m ∧ iv = .int .i64 i ∧ qv = .int .u64 q ∧ Blk wr b (A ++ S ++ C) ∧ SubInv X S Y t i q ∧ w.grownBy wr (some b)) (fun _ iv _ => m - (intOf iv).toNat)
  case atStart => exact ⟨0, 0, X, Nat.zero_le _, rfl, rfl, HB.out, SubInv.start HX.out, grown_refl _ _⟩
  case round =>
    obtain ⟨i, q, S, hi, rfl, rfl, hbl, hinv, hgr⟩ := hrel
    have hq := hinv.borrow
    have HBL := Lib.hid hbl; have HI := Lib.hid hinv; have HG := Lib.hid hgr; clear hbl hinv hgr
    by_cases him : i < m
    · have hmn := HMN.out
      have hin : i < S.length := by have := HI.out.len; have := HN.out; omega
      have hYne : Y ≠ [] := fun h => by have := HM.out; rw [h] at this; simp at this; omega
      obtain ⟨b', o', rfl⟩ := HYR.out.addr hYne
      have hne := HYB.out b' o' rfl hYne
      have cy : wr.cell? ⟨b', o' + i, none⟩ = some (.int .u32 (Y.getD i 0 : Nat)) := gcell HG.out (HYR.out.get i (by rw [HM.out]; exact him)) (by simp; exact hne)
      have cx : wr.cell? ⟨b, o + i, none⟩ = some (.int .u32 (S.getD i 0 : Nat)) := by rw [← HO.out]; have := HBL.out.cell (A.length + i) (by simp; omega); rwa [getD_mid _ _ _ _ hin] at this
      have fx : wr.frozen? ⟨b, o + i, none⟩ = false := HBL.out.frozen _
      have hstep := HI.out.step (by have := HI.out.len; omega) HY.out
      have hset : ∀ v, Blk (wr.setCell ⟨b, o + i, none⟩ (.int .u32 ((v : Nat) : Int))) b (A ++ S.set i v ++ C) := fun v => by have := HBL.out.set (A.length + i) v; rw [set_mid _ _ _ _ _ hin, HO.out] at this; exact this
      have hset2 : ∀ v v', Blk ((wr.setCell ⟨b, o + i, none⟩ (.int .u32 ((v : Nat) : Int))).setCell ⟨b, o + i, none⟩ (.int .u32 ((v' : Nat) : Int))) b (A ++ S.set i v' ++ C) := fun v v' => by
        have := (hset v).set (A.length + i) v'; rw [set_mid _ _ _ _ _ (by simpa using hin), HO.out, List.set_set] at this; exact this
      have hy1 := HY.out.getD i
      have hx1 := HI.out.small.getD i
      generalize Y.getD i 0 = y at *
      generalize S.getD i 0 = a at *
      have hp := prod_bound t y ht hy1
      obtain ⟨hp1, hp2⟩ := hp
      have HST := Lib.hid hstep; have HSE := Lib.hid hset; have HSE2 := Lib.hid hset2
      have hil : i < n := by omega
      have HHN := Lib.hid hne
      clear hstep hset hset2 hne hYne hin hmn
      by_cases hlt : (a : Int) < ((q : Int) + (t : Int) * (y : Int)) % 1000000000
      · have e1 : a + 1000000000 - (q + t * y) % 1000000000 = a + 1000000000 - (q + t * y) % 1000000000 := rfl
        have ev : (((a + 1000000000 - (q + t * y) % 1000000000 : Nat)) : Int) = (a : Int) + 1000000000 - ((q : Int) + (t : Int) * (y : Int)) % 1000000000 := by
          have : ((q + t * y : Nat) : Int) = (q : Int) + (t : Int) * (y : Int) := by rw [Int.natCast_add, Int.natCast_mul]
          omega
        have eq : (((q + t * y) / 1000000000 + 1 : Nat) : Int) = ((q : Int) + (t : Int) * (y : Int)) / 1000000000 + 1 := by
          have : ((q + t * y : Nat) : Int) = (q : Int) + (t : Int) * (y : Int) := by rw [Int.natCast_add, Int.natCast_mul]
          omega
        have hlt' : a < (q + t * y) % 1000000000 := by
          have : ((q + t * y : Nat) : Int) = (q : Int) + (t : Int) * (y : Int) := by rw [Int.natCast_add, Int.natCast_mul]
          omega
        have h2 := HSE2.out (a + 1000000000) (a + 1000000000 - (q + t * y) % 1000000000)
        rw [ev] at h2
        have H2 := Lib.hid h2; have EQ := Lib.hid eq; have HL := Lib.hid hlt'
        clear e1 ev eq hlt' h2
        go_wp2
        go_roundw
        case rel => exact ⟨i + 1, _, _, by omega, by go_num, by rw [← EQ.out], H2.out, HST.out.1 HL.out, grown_set (grown_set HG.out _ _) _ _⟩
        case measure => simp [intOf]; omega
      · have ev : (((a - (q + t * y) % 1000000000 : Nat)) : Int) = (a : Int) - ((q : Int) + (t : Int) * (y : Int)) % 1000000000 := by
          have : ((q + t * y : Nat) : Int) = (q : Int) + (t : Int) * (y : Int) := by rw [Int.natCast_add, Int.natCast_mul]
          omega
        have eq : (((q + t * y) / 1000000000 : Nat) : Int) = ((q : Int) + (t : Int) * (y : Int)) / 1000000000 := by
          have : ((q + t * y : Nat) : Int) = (q : Int) + (t : Int) * (y : Int) := by rw [Int.natCast_add, Int.natCast_mul]
          omega
        have hlt' : ¬ a < (q + t * y) % 1000000000 := by
          have : ((q + t * y : Nat) : Int) = (q : Int) + (t : Int) * (y : Int) := by rw [Int.natCast_add, Int.natCast_mul]
          omega
        have h2 := HSE.out (a - (q + t * y) % 1000000000)
        rw [ev] at h2
        have H2 := Lib.hid h2; have EQ := Lib.hid eq; have HL := Lib.hid hlt'
        clear ev eq hlt' h2
        go_wp2
        go_roundw
        case rel => exact ⟨i + 1, _, _, by omega, by go_num, by rw [← EQ.out], H2.out, HST.out.2 HL.out, grown_set HG.out _ _⟩
        case measure => simp [intOf]; omega
    · have hi0 : i = m := by omega
      subst hi0
      go_wp2_with fail
      go_loopw [7, 11] (fun qv iv wr => ∃ (j q : Nat) (S : List Nat), i ≤ j ∧ j ≤ n ∧ iv = .int .i64 j ∧ qv = .int .u64 q ∧ Blk wr b (A ++ S ++ C) ∧ SubInv X S Y t j q ∧ w.grownBy wr (some b)) (fun _ iv _ => n - (intOf iv).toNat)
      case atStart => exact ⟨i, q, S, Nat.le_refl _, HMN.out, rfl, rfl, HBL.out, HI.out, HG.out⟩
      case round =>
        clear HBL HI HG hq
        obtain ⟨j, q, S, hij, hj, rfl, rfl, hbl, hinv, hgr⟩ := hrel
        have hq := hinv.borrow
        have HBL := Lib.hid hbl; have HI := Lib.hid hinv; have HG := Lib.hid hgr; have HIJ := Lib.hid hij; clear hbl hinv hgr hij
        by_cases hjn : j < n
        · by_cases hq0 : 0 < q
          · have hin : j < S.length := by have := HI.out.len; have := HN.out; omega
            have cx : wr.cell? ⟨b, o + j, none⟩ = some (.int .u32 (S.getD j 0 : Nat)) := by rw [← HO.out]; have := HBL.out.cell (A.length + j) (by simp; omega); rwa [getD_mid _ _ _ _ hin] at this
            have fx : wr.frozen? ⟨b, o + j, none⟩ = false := HBL.out.frozen _
            have hstep := HI.out.carry (by have := HI.out.len; omega) (by rw [HM.out]; exact HIJ.out) ht hq0
            have hset : ∀ v, Blk (wr.setCell ⟨b, o + j, none⟩ (.int .u32 ((v : Nat) : Int))) b (A ++ S.set j v ++ C) := fun v => by have := HBL.out.set (A.length + j) v; rw [set_mid _ _ _ _ _ hin, HO.out] at this; exact this
            have hset2 : ∀ v v', Blk ((wr.setCell ⟨b, o + j, none⟩ (.int .u32 ((v : Nat) : Int))).setCell ⟨b, o + j, none⟩ (.int .u32 ((v' : Nat) : Int))) b (A ++ S.set j v' ++ C) := fun v v' => by
              have := (hset v).set (A.length + j) v'; rw [set_mid _ _ _ _ _ (by simpa using hin), HO.out, List.set_set] at this; exact this
            have hx1 := HI.out.small.getD j
            generalize S.getD j 0 = a at *
            have HST := Lib.hid hstep; have HSE := Lib.hid hset; have HSE2 := Lib.hid hset2
            clear hstep hset hset2 hin
            by_cases hlt : a < q
            · have ev : (((a + 1000000000 - q : Nat)) : Int) = (a : Int) + 1000000000 - (q : Int) := by omega
              have h2 := HSE2.out (a + 1000000000) (a + 1000000000 - q)
              rw [ev] at h2
              have H2 := Lib.hid h2
              clear ev h2
              go_wp2
              go_roundw
              case rel => exact ⟨j + 1, 1, _, by have := HIJ.out; omega, by omega, by go_num, rfl, H2.out, HST.out.1 hlt, grown_set (grown_set HG.out _ _) _ _⟩
              case measure => simp [intOf]; omega
            · have ev : (((a - q : Nat)) : Int) = (a : Int) - (q : Int) := by omega
              have h2 := HSE.out (a - q)
              rw [ev] at h2
              have H2 := Lib.hid h2
              clear ev h2
              go_wp2
              go_roundw
              case rel => exact ⟨j + 1, 0, _, by have := HIJ.out; omega, by omega, by go_num, rfl, H2.out, HST.out.2 hlt, grown_set HG.out _ _⟩
              case measure => simp [intOf]; omega
          · have hq1 : q = 0 := by omega
            subst hq1
            have hs := HI.out.still (by rw [HN.out]; omega) (by rw [HM.out]; exact HIJ.out)
            have HS := Lib.hid hs; clear hs hq0 hq
            go_wp2
            go_ret
            exact ⟨0, S, rfl, HBL.out, HI.out.len, HI.out.small, Nat.zero_le _, by rw [Nat.zero_mul, Nat.add_zero]; exact HS.out, HG.out⟩
        · have hj1 : j = n := by omega
          subst hj1
          have hs : val X + q * 1000000000 ^ X.length = val S + t * val Y := by
            have h1 := HI.out
            rw [← HN.out] at h1
            exact h1.done (by rw [HM.out, HN.out]; exact HIJ.out)
          have HS := Lib.hid hs; clear hs
          go_wp2
          go_ret
          exact ⟨q, S, rfl, HBL.out, HI.out.len, HI.out.small, hq, HS.out, HG.out⟩
end Go.Proofs.YtipnnmbjkpidoaaGreatDoor
