import Derived.Test.YtipnnmbjkpidoaaGreatDoorBase7
import Derived.Test.YtipnnmbjkpidoaaGreatDoorBase20

set_option linter.unusedVariables false
namespace Go.Proofs.YtipnnmbjkpidoaaGreatDoor
open Go Go.Proofs Go.RowKit

/-- A multiple, with one limb more, in a new block. -/
def Scaled (x t n : Nat) (w : World) (e : Ending) (w' : World) : Prop :=
  ∃ g Q, e = .returned (.slice (some ⟨g, 0, none⟩) (n + 1) (n + 1)) ∧ w.heap.size ≤ g ∧ Blk w' g Q ∧ Small Q ∧ Q.length = n + 1 ∧ val Q = x * t ∧ Below w.heap.size w w'

set_option maxHeartbeats 2000000 in
theorem scaled_any (ao : Option Addr) (c n : Nat) (X : List Nat) (t : Nat) (w : World) (hx : RowAt w ao c X) (hX : Small X) (hn : X.length = n) (ht : t < 1000000000) (hbig : n ≤ 1000000000000) :
    Calls Tryz.prog 192 #[.slice ao n c, .int .u32 t] w (Scaled (val X) t n w) := by
  obtain ⟨i0, hi, hz0, hz1, hz2⟩ := info_parts infoU32
  have HX := Lib.hid hx; have HSX := Lib.hid hX; have HN := Lib.hid hn
  clear hx hX hn
  go_enter Tryz.func192, Tryz.ntmps192
  go_wp2_with (at_make; refine wpList_make_full _ rfl _ _ 77 rfl w.heap.size 123 i0 (.int .u32 0) 1 Tryz.underlying77 hi hz0 hz1 .i64 .i64 _ _ (n + 1) rfl rfl ?a1 ?a2 ?a3 ?a4 ?a5 ?_)
  case a1 => simp
  case a2 => simp
  case a3 => rw [hz2]; omega
  case a4 => unfold maxLen; omega
  case a5 => exact Nat.le_refl _
  intro W0 hown hg
  have hb0 := blk_of_made hown
  clear hown
  generalize hgg : w.heap.size = g at hb0 ⊢
  have HG := Lib.hid hgg; clear hgg
  have hB := below_of_grown hg
  clear hg
  go_wp2_with fail
  have HB0 := Lib.hid hb0; have HB := Lib.hid hB; clear hb0 hB
  go_loopw [6, 15] (fun cv iv wr => ∃ (i q : Nat) (S : List Nat), i ≤ n ∧ iv = .int .i64 i ∧ cv = .int .u64 q ∧ Blk wr g S ∧ ScaleInv X S t i q ∧ W0.grownBy wr (some g)) (fun _ iv _ => n - (intOf iv).toNat)
  case atStart => exact ⟨0, 0, _, Nat.zero_le _, rfl, rfl, HB0.out, by rw [← HN.out]; exact ScaleInv.start X t, grown_refl _ _⟩
  case round =>
    obtain ⟨i, q, S, hi, rfl, rfl, hbl, hinv, hgr⟩ := hrel
    have hq := hinv.carry
    have HBL := Lib.hid hbl; have HI := Lib.hid hinv; have HGR := Lib.hid hgr
    clear hbl hinv hgr
    by_cases hin : i < n
    · obtain ⟨bx, ox, rfl⟩ := HX.out.addr (fun h => by have := HN.out; rw [h] at this; simp at this; omega)
      have hbw : Below w.heap.size w wr := below_grown HB.out HGR.out (by have := HG.out; omega)
      have cx := (HX.out.mono hbw).get i (by rw [HN.out]; exact hin)
      have cs := HBL.out.cell i (by rw [HI.out.len, HN.out]; omega)
      have fs := HBL.out.frozen i
      have hstep := HI.out.step (by rw [HN.out]; exact hin) ht HSX.out
      have hset := HBL.out.set i ((q + X.getD i 0 * t) % 1000000000)
      have ha := HSX.out.getD i
      generalize X.getD i 0 = a at *
      generalize S.getD i 0 = s at *
      obtain ⟨hp1, hp2⟩ := prod_bound' a t ha ht
      have ec : ((q + a * t : Nat) : Int) = (q : Int) + (a : Int) * (t : Int) := by rw [Int.natCast_add, Int.natCast_mul]
      have ev : (((q + a * t) % 1000000000 : Nat) : Int) = ((q : Int) + (a : Int) * (t : Int)) % 1000000000 := by omega
      have eq : (((q + a * t) / 1000000000 : Nat) : Int) = ((q : Int) + (a : Int) * (t : Int)) / 1000000000 := by omega
      rw [ev] at hset
      have HST := Lib.hid hstep; have HSE := Lib.hid hset; have EQ := Lib.hid eq
      clear hstep hset ec ev eq hbw
      go_wp2
      go_roundw
      case rel => exact ⟨i + 1, _, _, by omega, by go_num, by rw [← EQ.out], HSE.out, HST.out, grown_set HGR.out _ _⟩
      case measure => simp [intOf]; omega
    · have hi1 : i = n := by omega
      subst hi1
      have cs := HBL.out.cell i (by rw [HI.out.len, HN.out]; omega)
      have fs := HBL.out.frozen i
      have hset := HBL.out.set i q
      have hd : Small (S.set i q) ∧ (S.set i q).length = i + 1 ∧ val (S.set i q) = val X * t := by
        have h1 := HI.out
        have e := HN.out
        subst e
        exact h1.done
      generalize S.getD i 0 = s at *
      have HSE := Lib.hid hset; have HD := Lib.hid hd
      clear hset hd
      go_wp2
      go_ret
      exact ⟨g, _, rfl, by rw [HG.out]; exact Nat.le_refl _, HSE.out, HD.out.1, HD.out.2.1, HD.out.2.2, below_grown HB.out (grown_set HGR.out _ _) (by have := HG.out; omega)⟩

set_option maxHeartbeats 2000000 in
theorem addBack_any (b c d n m : Nat) (ap : Option Addr) (A X Y C : List Nat) (w : World) (hb : Blk w b (A ++ X ++ C)) (hX : Small X) (hy : RowAt w ap d Y) (hY : Small Y)
    (hyb : ∀ b' o, ap = some ⟨b', o, none⟩ → Y ≠ [] → b' ≠ b) (hn : X.length = n) (hm : Y.length = m) (hmn : m ≤ n) (hnb : n ≤ 1000000000000) :
    Calls Tryz.prog 216 #[.slice (some ⟨b, A.length, none⟩) n c, .slice ap m d] w fun e w' =>
      ∃ q X', e = .returned (.tuple #[]) ∧ Blk w' b (A ++ X' ++ C) ∧ BackInv X X' Y m q ∧ w.grownBy w' (some b) := by
  have HB := Lib.hid hb; have HX := Lib.hid hX; have HYR := Lib.hid hy; have HY := Lib.hid hY; have HYB := Lib.hid hyb; have HN := Lib.hid hn; have HM := Lib.hid hm; have HMN := Lib.hid hmn
  clear hb hX hy hY hyb hn hm hmn
  generalize ho : A.length = o
  have HO := Lib.hid ho; clear ho
  go_enter Tryz.func216, Tryz.ntmps216
  go_wp2_with fail
  go_loopw [4, 9] (fun cv iv wr => ∃ (i q : Nat) (S : List Nat), i ≤ m ∧ iv = .int .i64 i ∧ cv = .int .u32 q ∧ Blk wr b (A ++ S ++ C) ∧ BackInv X S Y i q ∧ w.grownBy wr (some b)) (fun _ iv _ => m - (intOf iv).toNat)
  case atStart => exact ⟨0, 0, X, Nat.zero_le _, rfl, rfl, HB.out, BackInv.start HX.out, grown_refl _ _⟩
  case round =>
    obtain ⟨i, q, S, hi, rfl, rfl, hbl, hinv, hgr⟩ := hrel
    have hq := hinv.carry
    have HBL := Lib.hid hbl; have HI := Lib.hid hinv; have HG := Lib.hid hgr; clear hbl hinv hgr
    by_cases him : i < m
    · have hmn := HMN.out
      have hin : i < S.length := by have := HI.out.len; have := HN.out; omega
      have hYne : Y ≠ [] := fun h => by have := HM.out; rw [h] at this; simp at this; omega
      obtain ⟨b', o', rfl⟩ := HYR.out.addr hYne
      have hne := HYB.out b' o' rfl hYne
      have cy : wr.cell? ⟨b', o' + i, none⟩ = some (.int .u32 (Y.getD i 0 : Nat)) := gcell HG.out (HYR.out.get i (by rw [HM.out]; exact him)) (by simp; exact hne)
      have cx : wr.cell? ⟨b, o + i, none⟩ = some (.int .u32 (S.getD i 0 : Nat)) := by rw [← HO.out]; have := HBL.out.cell (A.length + i) (by simp; omega); rwa [getD_mid _ _ _ _ hin] at this
      have fx : wr.frozen? ⟨b, o + i, none⟩ = false := HBL.out.frozen _
      have hstep := HI.out.step (by have := HI.out.len; omega) HY.out
      have hset : ∀ v, Blk (wr.setCell ⟨b, o + i, none⟩ (.int .u32 ((v : Nat) : Int))) b (A ++ S.set i v ++ C) := fun v => by have := HBL.out.set (A.length + i) v; rw [set_mid _ _ _ _ _ hin, HO.out] at this; exact this
      have hy1 := HY.out.getD i
      have hx1 := HI.out.small.getD i
      generalize Y.getD i 0 = y at *
      generalize S.getD i 0 = a at *
      have h2 := hset ((y + (a + q)) % 1000000000)
      have ev : (((y + (a + q)) % 1000000000 : Nat) : Int) = ((y : Int) + ((a : Int) + (q : Int))) % 1000000000 := by omega
      have eq : (((y + (a + q)) / 1000000000 : Nat) : Int) = ((y : Int) + ((a : Int) + (q : Int))) / 1000000000 := by omega
      rw [ev] at h2
      have H2 := Lib.hid h2; have HST := Lib.hid hstep; have EQ := Lib.hid eq
      have hil : i < n := by omega
      have HHN := Lib.hid hne
      clear hstep hset hne hYne hin hmn h2 ev eq
      go_wp2
      go_roundw
      case rel => exact ⟨i + 1, _, _, by omega, by go_num, by rw [← EQ.out], H2.out, HST.out, grown_set HG.out _ _⟩
      case measure => simp [intOf]; omega
    · have hi0 : i = m := by omega
      subst hi0
      go_wp2
      go_end0
      exact ⟨q, S, rfl, HBL.out, HI.out, HG.out⟩
end Go.Proofs.YtipnnmbjkpidoaaGreatDoor
