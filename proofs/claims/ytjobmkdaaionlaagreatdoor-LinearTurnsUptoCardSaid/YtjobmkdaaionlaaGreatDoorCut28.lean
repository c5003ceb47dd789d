import Derived.Test.YtjobmkdaaionlaaGreatDoorCut23
import Derived.Test.YtjobmkdaaionlaaGreatDoorCut27
import Derived.Test.YtjobmkdaaionlaaGreatDoorCut16

set_option linter.unusedVariables false
/-
  The reference: Common, Coefficients.
-/
namespace Go.Proofs.YtjobmkdaaionlaaGreatDoor
open Go Go.Proofs Go.RowKit
def strOf : Value → ByteArray
  | .string s => s
  | _ => ⟨#[]⟩
structure Txt (n : Nat) (s : ByteArray) (z : Int) : Prop where
  text : bytes s = Lib.itoa z
  len : (Lib.decDigits z.natAbs).length ≤ n
theorem Txt.size {n : Nat} {s : ByteArray} {z : Int} (h : Txt n s z) : s.size ≤ n + 1 := by
  have h1 := txt_len h.text; have h2 := h.len; split at h1 <;> omega
theorem Txt.mono {m n : Nat} {s : ByteArray} {z : Int} (h : Txt m s z) (hn : m ≤ n) : Txt n s z := ⟨h.text, Nat.le_trans h.len hn⟩
theorem Txt.of {n : Nat} {z : Int} (h : (Lib.decDigits z.natAbs).length ≤ n) : Txt n (str (Lib.itoa z)) z := ⟨txt_str _, h⟩
theorem Txt.lt {n : Nat} {s : ByteArray} {z : Int} (h : Txt n s z) : z.natAbs < 10 ^ n := dec_pow h.len
theorem Txt.ofLt {n : Nat} {z : Int} (h0 : 0 < n) (h : z.natAbs < 10 ^ n) : Txt n (str (Lib.itoa z)) z := Txt.of (decDigits_length_le _ n h0 h)
theorem Txt.ofTxt {s : ByteArray} {z : Int} {n : Nat} (h : bytes s = Lib.itoa z) (hs : s.size ≤ n) : Txt n s z := ⟨h, by have := txt_len h; split at this <;> omega⟩
theorem Txt.pos {n : Nat} {s : ByteArray} {z : Int} (h : Txt n s z) : 0 < n := by
  have := List.length_pos_iff.2 (decDigits_ne_nil z.natAbs); have := h.len; omega
set_option maxHeartbeats 1000000 in
theorem refCommonI (s t : ByteArray) (x y : Int) (w : World) (hs : bytes s = Lib.itoa x) (ht : bytes t = Lib.itoa y) (hls : s.size ≤ 1300000) (hlt : t.size ≤ 1300000) :
    Calls Tryz.prog 91 #[.string s, .string t] w (Bret (.string (str (Lib.itoa ((Int.gcd x y : Nat) : Int)))) w) := by
  have C1 := fun W => refMagnitudeT s x W hs (by omega)
  have C2 := fun W => refMagnitudeT t y W ht (by omega)
  have q1 : Txt 1300000 (str (Lib.itoa (x.natAbs : Int))) (x.natAbs : Int) := Txt.of (by rw [Int.natAbs_natCast]; exact (Txt.ofTxt hs hls).len)
  have q2 : Txt 1300000 (str (Lib.itoa (y.natAbs : Int))) (y.natAbs : Int) := Txt.of (by rw [Int.natAbs_natCast]; exact (Txt.ofTxt ht hlt).len)
  have R : ∀ (a b : ByteArray) (X Y : Int), Txt 1300000 a X → Txt 1300000 b Y → Y ≠ 0 → ∀ W, Calls Tryz.prog 123 #[.string a, .string b] W (Bret (.string (str (Lib.itoa (X.fmod Y)))) W) := fun a b X Y ha hb hY W =>
    refRestI a b X Y W ha.text hb.text (by have := ha.size; omega) (by have := hb.size; omega) hY
  have hg : Int.gcd (x.natAbs : Int) (y.natAbs : Int) = Int.gcd x y := by unfold Int.gcd; simp
  generalize str (Lib.itoa (x.natAbs : Int)) = a0 at *
  generalize str (Lib.itoa (y.natAbs : Int)) = b0 at *
  have K1 := Lib.hid C1; have K2 := Lib.hid C2; have KR := Lib.hid R; have Q1 := Lib.hid q1; have Q2 := Lib.hid q2; have HG := Lib.hid hg
  clear C1 C2 R q1 q2 hs ht hls hlt hg
  generalize hxa : (x.natAbs : Int) = xa at *
  generalize hya : (y.natAbs : Int) = ya at *
  have N1 : 0 ≤ xa := by omega
  have N2 : 0 ≤ ya := by omega
  have P1 := Lib.hid N1; have P2 := Lib.hid N2
  clear hxa hya N1 N2
  go_enter Tryz.func91, Tryz.ntmps91
  go_wp2_with (go_at_call 122; refine (K1.out _).mono ?_; rintro e w1 ⟨rfl, h⟩; subst h; refine Hid.out ?_)
  refine Lib.hid ?_
  go_wp2_with (go_at_call 122; refine (K2.out _).mono ?_; rintro e w2 ⟨rfl, h⟩; subst h; refine Hid.out ?_)
  refine Lib.hid ?_
  go_wp2_with fail
  go_loopw [5, 6] (fun xv yv wr => ∃ (a b : ByteArray) (X Y : Int), xv = .string a ∧ yv = .string b ∧ Txt 1300000 a X ∧ Txt 1300000 b Y ∧ 0 ≤ X ∧ 0 ≤ Y ∧ Int.gcd X Y = Int.gcd x y ∧ Below w2.heap.size w2 wr) (fun _ yv _ => (valZ (bytes (strOf yv))).natAbs)
  case atStart => exact ⟨_, _, xa, ya, rfl, rfl, Q1.out, Q2.out, P1.out, P2.out, HG.out, Below.refl _ _⟩
  case round =>
    obtain ⟨a, b, X, Y, rfl, rfl, ha, hb, hX, hY, hg, hbw⟩ := hrel
    have HB := Lib.hid hbw; clear hbw
    by_cases h0 : Y = 0
    · subst h0
      obtain rfl := txt_is_zero hb.text
      have e : str (Lib.itoa ((Int.gcd x y : Nat) : Int)) = a := by
        rw [← hg, Int.gcd_zero_right, show ((X.natAbs : Nat) : Int) = X by omega]
        exact lit_txt ha.text
      have HE := Lib.hid e
      clear ha hb hX hY hg e KR Q1 Q2 HG P1 P2 K1 K2
      go_wp2
      refine bodyPost_ret (v := .string a) (by simp [results, Tryz.results91, go_sem]) rfl ?_
      exact ⟨by rw [HE.out], HB.out⟩
    · have hne := eq48 b (txt_zero hb.text h0)
      have C := KR.out a b X Y ha hb h0 wr
      have hz := fmod_nonneg X Y (by omega)
      have hl := fmod_natAbs_lt X Y h0
      have hr : Txt 1300000 (str (Lib.itoa (X.fmod Y))) (X.fmod Y) := Txt.ofLt (by decide) (Nat.lt_trans hl hb.lt)
      have hgc : Int.gcd Y (X.fmod Y) = Int.gcd x y := by
        rw [← hg]
        have h1 := (BezCong.step (a := X) (b := Y) (g := X) (n := Y) (x := 1) (f := 0) ⟨rfl, ⟨0, by simp⟩, ⟨1, by simp⟩⟩).gcd
        rwa [step_fmod] at h1
      have hm : (valZ (bytes (str (Lib.itoa (X.fmod Y))))).natAbs < (valZ (bytes b)).natAbs := by rw [txt_str, valZ_itoa, hb.text, valZ_itoa]; exact hl
      generalize X.fmod Y = Z at *
      generalize str (Lib.itoa Z) = c at *
      have HC := Lib.hid C; have F := Lib.hid (And.intro hb (And.intro hr (And.intro hY (And.intro hz (And.intro hgc hm)))))
      clear C ha hb hX hY hg hz hl hr hgc hm h0 KR Q1 Q2 HG P1 P2 K1 K2
      go_wp2_with (go_at_call 123; refine HC.out.mono ?_; rintro e w3 ⟨rfl, hb3⟩; refine Hid.out ?_)
      refine Lib.hid ?_
      go_wp2
      obtain ⟨f1, f2, f3, f4, f5, f6⟩ := F.out
      go_roundw
      case rel => exact ⟨b, c, Y, Z, rfl, rfl, f1, f2, f3, f4, f5, Below.chain HB.out hb3⟩
      case measure => exact f6
theorem slashAt_take {s : ByteArray} {k : Nat} (hk : k < s.size) (h : (47 : UInt8) ∉ (bytes s).take k) (hb : byteAt s k = 47) : slashAt (bytes s) = k := by
  have hl : k < (bytes s).length := hk
  have he : (bytes s)[k] = 47 := by
    apply UInt8.toNat_inj.1
    exact (byteAt_eq s k hk).trans hb
  have e : bytes s = (bytes s).take k ++ 47 :: (bytes s).drop (k + 1) := by
    rw [← he]; exact (List.take_append_drop k (bytes s)).symm.trans (by rw [List.drop_eq_getElem_cons hl])
  unfold slashAt
  rw [e, indexByte_hit h, List.length_take]
  omega
theorem take_no {s : ByteArray} {k : Nat} (hk : k < s.size) (h : (47 : UInt8) ∉ (bytes s).take k) (hb : byteAt s k ≠ 47) : (47 : UInt8) ∉ (bytes s).take (k + 1) := by
  have hl : k < (bytes s).length := hk
  rw [List.take_succ_eq_append_getElem hl, List.mem_append]
  rintro (h1 | h1)
  · exact h h1
  · simp at h1
    exact hb ((byteAt_eq s k hk).symm.trans (congrArg UInt8.toNat h1.symm))
theorem slash_end {s : ByteArray} (h : (47 : UInt8) ∉ (bytes s).take s.size) : slashAt (bytes s) = -1 := by
  rw [List.take_of_length_le (l := bytes s) (i := s.size) (Nat.le_refl s.size)] at h
  exact indexByte_miss h
set_option maxHeartbeats 1000000 in
theorem slash_any (s : ByteArray) (w : World) (hs : s.size ≤ 1200000) :
    Calls Tryz.prog 76 #[.string s] w fun e w' => e = .returned (.int .i64 (slashAt (bytes s))) ∧ w' = w := by
  have H1 : ∀ k : Nat, k < s.size → (47 : UInt8) ∉ (bytes s).take k → byteAt s k = 47 → slashAt (bytes s) = k := fun k => slashAt_take
  have H2 : ∀ k : Nat, k < s.size → (47 : UInt8) ∉ (bytes s).take k → byteAt s k ≠ 47 → (47 : UInt8) ∉ (bytes s).take (k + 1) := fun k => take_no
  have H3 : (47 : UInt8) ∉ (bytes s).take s.size → slashAt (bytes s) = -1 := slash_end
  have H0 : (47 : UInt8) ∉ (bytes s).take 0 := by simp
  generalize slashAt (bytes s) = r at *
  generalize hM : (fun k : Nat => (47 : UInt8) ∉ (bytes s).take k) = M at *
  have hM' : ∀ k : Nat, ((47 : UInt8) ∉ (bytes s).take k) = M k := fun k => congrFun hM k
  simp only [hM'] at H0 H1 H2 H3
  clear hM hM'
  have K1 := Lib.hid H1; have K2 := Lib.hid H2; have K3 := Lib.hid H3; have K0 := Lib.hid H0
  clear H0 H1 H2 H3
  go_enter Tryz.func76, Tryz.ntmps76
  go_wp2_with fail
  go_loop [3] (fun iv => ∃ k : Nat, k ≤ s.size ∧ iv = .int .i64 k ∧ M k) (fun iv => s.size - (intOf iv).toNat)
  case atStart => exact ⟨0, Nat.zero_le _, rfl, K0.out⟩
  case round =>
    obtain ⟨k, hk, rfl, hm⟩ := hrel
    have HM := Lib.hid hm; clear hm
    by_cases hlt : k < s.size
    · have hgk := byteAt_get s k hlt
      have h1 := K1.out k hlt HM.out; have h2 := K2.out k hlt HM.out
      generalize byteAt s k = b at *
      by_cases hb : b = 47
      · have e := Lib.hid (h1 hb)
        subst hb
        clear h1 h2 K1 K2 K3 K0
        go_wp2
        go_ret
        exact ⟨ret_int e.out.symm, rfl⟩
      · have F := Lib.hid (h2 hb)
        clear h1 h2 K1 K2 K3 K0
        have hbb : ((b : Int) == 47) = false := by simp; omega
        go_wp2
        go_round
        case rel => exact ⟨k + 1, by omega, by go_num, F.out⟩
        case measure => simp [intOf]; omega
    · have hkn : k = s.size := by omega
      subst hkn
      have e := Lib.hid (K3.out HM.out)
      clear K1 K2 K3 K0 HM
      go_wp2
      go_ret
      exact ⟨ret_int e.out.symm, rfl⟩
set_option maxHeartbeats 1000000 in
theorem refTop (s : ByteArray) (w : World) (hs : s.size ≤ 1200000) :
    Calls Tryz.prog 93 #[.string s] w fun e w' => e = .returned (.string (str (topL (bytes s)))) ∧ w' = w := by
  have C1 := fun W => slash_any s W hs
  rcases indexByte_cases (bytes s) 47 with ⟨h, hm⟩ | ⟨i, h, hi, he, hm⟩
  · have hs0 : slashAt (bytes s) = -1 := h
    have e : str (topL (bytes s)) = s := by rw [(slash_none hm).2.1]; exact str_bytes s
    rw [e]
    rw [hs0] at C1
    have K1 := Lib.hid C1; clear C1 hs0 h hm e
    go_enter Tryz.func93, Tryz.ntmps93
    go_wp2_with (go_at_call 76; refine (K1.out _).mono ?_; rintro e w1 ⟨rfl, h⟩; subst h; refine Hid.out ?_)
    refine Lib.hid ?_
    go_wp2
    refine bodyPost_ret (v := .string s) (by simp [results, Tryz.results93, go_sem]) rfl ?_
    exact ⟨rfl, rfl⟩
  · have hs0 : slashAt (bytes s) = i := h
    have hb : hasB (bytes s) = true := by unfold hasB; rw [hs0]; simp
    have hi' : i < s.size := hi
    have e : str (topL (bytes s)) = s.extract 0 i := by unfold topL; rw [if_pos hb, hs0, Int.toNat_natCast, extract_take s i]
    rw [e]
    rw [hs0] at C1
    have K1 := Lib.hid C1; clear C1 hs0 h hm e he hb hi
    go_enter Tryz.func93, Tryz.ntmps93
    go_wp2_with (go_at_call 76; refine (K1.out _).mono ?_; rintro e w1 ⟨rfl, h⟩; subst h; refine Hid.out ?_)
    refine Lib.hid ?_
    go_wp2
    refine bodyPost_ret (v := .string (s.extract 0 i)) (by simp [results, Tryz.results93, go_sem]) rfl ?_
    exact ⟨rfl, rfl⟩
set_option maxHeartbeats 1000000 in
theorem refBottom (s : ByteArray) (w : World) (hs : s.size ≤ 1200000) :
    Calls Tryz.prog 41 #[.string s] w fun e w' => e = .returned (.string (str (botL (bytes s)))) ∧ w' = w := by
  have C1 := fun W => slash_any s W hs
  rcases indexByte_cases (bytes s) 47 with ⟨h, hm⟩ | ⟨i, h, hi, he, hm⟩
  · have hs0 : slashAt (bytes s) = -1 := h
    have e : str (botL (bytes s)) = ⟨#[49]⟩ := by rw [(slash_none hm).2.2]; rfl
    rw [e]
    rw [hs0] at C1
    have K1 := Lib.hid C1; clear C1 hs0 h hm e
    go_enter Tryz.func41, Tryz.ntmps41
    go_wp2_with (go_at_call 76; refine (K1.out _).mono ?_; rintro e w1 ⟨rfl, h⟩; subst h; refine Hid.out ?_)
    refine Lib.hid ?_
    go_wp2
    refine bodyPost_ret (v := .string ⟨#[49]⟩) (by simp [results, Tryz.results41, go_sem]) rfl ?_
    exact ⟨rfl, rfl⟩
  · have hs0 : slashAt (bytes s) = i := h
    have hb : hasB (bytes s) = true := by unfold hasB; rw [hs0]; simp
    have hi' : i < s.size := hi
    have e : str (botL (bytes s)) = s.extract (i + 1) s.size := by unfold botL; rw [if_pos hb, hs0, Int.toNat_natCast, extract_drop s (i + 1)]
    rw [e]
    rw [hs0] at C1
    have K1 := Lib.hid C1; clear C1 hs0 h hm e he hb hi
    go_enter Tryz.func41, Tryz.ntmps41
    go_wp2_with (go_at_call 76; refine (K1.out _).mono ?_; rintro e w1 ⟨rfl, h⟩; subst h; refine Hid.out ?_)
    refine Lib.hid ?_
    go_wp2
    refine bodyPost_ret (v := .string (s.extract (i + 1) s.size)) (by simp [results, Tryz.results41, go_sem]) rfl ?_
    exact ⟨rfl, rfl⟩
theorem top_len (l : List UInt8) : (topL l).length ≤ l.length := by unfold topL; split <;> simp <;> omega
theorem bot_len (l : List UInt8) : (botL l).length ≤ l.length + 1 := by unfold botL; split <;> simp <;> omega
set_option maxHeartbeats 4000000 in
theorem formed_any (s : ByteArray) (w : World) (hs : s.size ≤ 1200000) :
    Calls Tryz.prog 77 #[.string s] w (Bret (.bool (ratOk (bytes s))) w) := by
  have hl1 := top_len (bytes s); have hl2 := bot_len (bytes s)
  have hsz : (bytes s).length = s.size := rfl
  have C1 := fun W => refTop s W hs
  have C2 := fun W => refCheck_any (str (topL (bytes s))) W (by rw [str_size]; omega)
  have C3 := fun W => slash_any s W hs
  have C4 := fun W => refBottom s W hs
  have C5 := fun W => refCheck_any (str (botL (bytes s))) W (by rw [str_size]; omega)
  rw [bytes_str] at C2 C5
  by_cases h1 : errOf (topL (bytes s)) = 3
  · have e : ratOk (bytes s) = false := by unfold ratOk; rw [errOf_3 h1]; rfl
    rw [e]
    rw [h1] at C2
    generalize str (topL (bytes s)) = u at *
    have K1 := Lib.hid C1; have K2 := Lib.hid C2; clear C1 C2 C3 C4 C5 h1 e hl1 hl2 hsz hs
    go_enter Tryz.func77, Tryz.ntmps77
    go_wp2_with (go_at_call 93; refine (K1.out _).mono ?_; rintro e w1 ⟨rfl, h⟩; subst h; refine Hid.out ?_)
    refine Lib.hid ?_
    go_wp2_with (go_at_call 101; refine (K2.out _).mono ?_; rintro e w2 ⟨rfl, h⟩; subst h; refine Hid.out ?_)
    refine Lib.hid ?_
    go_wp2
    refine bodyPost_ret (v := .bool false) (by simp [results, Tryz.results77, go_sem]) rfl ?_
    exact ⟨rfl, Below.refl _ _⟩
  · have k1 := canon_of_ne3 h1
    have j1 : errOf (topL (bytes s)) = 0 ∨ errOf (topL (bytes s)) = 10 := by rcases errOf_cases (topL (bytes s)) with h | h | h <;> omega
    rcases slash_cases (bytes s) with ⟨hB, ht, hb⟩ | ⟨hB, hl⟩
    · have e : ratOk (bytes s) = true := by unfold ratOk; rw [k1, hB, hb, show canonB [49] = true from by decide]; rfl
      have hneg : slashAt (bytes s) < 0 := by
        unfold hasB at hB; simpa using hB
      rw [e]
      generalize str (topL (bytes s)) = u at *
      generalize errOf (topL (bytes s)) = e1 at *
      generalize slashAt (bytes s) = r at *
      have K1 := Lib.hid C1; have K2 := Lib.hid C2; have K3 := Lib.hid C3; clear C1 C2 C3 C4 C5 h1 e hl1 hl2 hsz hs k1 hB ht hb
      rcases j1 with rfl | rfl
      all_goals
        go_enter Tryz.func77, Tryz.ntmps77
        go_wp2_with (go_at_call 93; refine (K1.out _).mono ?_; rintro e w1 ⟨rfl, h⟩; subst h; refine Hid.out ?_)
        refine Lib.hid ?_
        go_wp2_with (go_at_call 101; refine (K2.out _).mono ?_; rintro e w2 ⟨rfl, h⟩; subst h; refine Hid.out ?_)
        refine Lib.hid ?_
        go_wp2_with (go_at_call 76; refine (K3.out _).mono ?_; rintro e w3 ⟨rfl, h⟩; subst h; refine Hid.out ?_)
        refine Lib.hid ?_
        go_wp2
        refine bodyPost_ret (v := .bool true) (by simp [results, Tryz.results77, go_sem]) rfl ?_
        exact ⟨rfl, Below.refl _ _⟩
    · have hpos : 0 ≤ slashAt (bytes s) := by unfold hasB at hB; simpa using hB
      by_cases h2 : errOf (botL (bytes s)) = 3
      · have e : ratOk (bytes s) = false := by unfold ratOk; rw [errOf_3 h2]; simp
        rw [e]
        rw [h2] at C5
        generalize str (topL (bytes s)) = u at *
        generalize str (botL (bytes s)) = v at *
        generalize errOf (topL (bytes s)) = e1 at *
        generalize slashAt (bytes s) = r at *
        have K1 := Lib.hid C1; have K2 := Lib.hid C2; have K3 := Lib.hid C3; have K4 := Lib.hid C4; have K5 := Lib.hid C5; clear C1 C2 C3 C4 C5 h1 e hl1 hl2 hsz hs k1 hB hl h2
        rcases j1 with rfl | rfl
        all_goals
          go_enter Tryz.func77, Tryz.ntmps77
          go_wp2_with (go_at_call 93; refine (K1.out _).mono ?_; rintro e w1 ⟨rfl, h⟩; subst h; refine Hid.out ?_)
          refine Lib.hid ?_
          go_wp2_with (go_at_call 101; refine (K2.out _).mono ?_; rintro e w2 ⟨rfl, h⟩; subst h; refine Hid.out ?_)
          refine Lib.hid ?_
          go_wp2_with (go_at_call 76; refine (K3.out _).mono ?_; rintro e w3 ⟨rfl, h⟩; subst h; refine Hid.out ?_)
          refine Lib.hid ?_
          go_wp2_with (go_at_call 41; refine (K4.out _).mono ?_; rintro e w4 ⟨rfl, h⟩; subst h; refine Hid.out ?_)
          refine Lib.hid ?_
          go_wp2_with (go_at_call 101; refine (K5.out _).mono ?_; rintro e w5 ⟨rfl, h⟩; subst h; refine Hid.out ?_)
          refine Lib.hid ?_
          go_wp2
          refine bodyPost_ret (v := .bool false) (by simp [results, Tryz.results77, go_sem]) rfl ?_
          exact ⟨rfl, Below.refl _ _⟩
      · have k2 := canon_of_ne3 h2
        have j2 : errOf (botL (bytes s)) = 0 ∨ errOf (botL (bytes s)) = 10 := by rcases errOf_cases (botL (bytes s)) with h | h | h <;> omega
        have t1 : bytes (str (topL (bytes s))) = Lib.itoa (valZ (topL (bytes s))) := by rw [bytes_str]; exact itoa_valZ k1
        have t2 : bytes (str (botL (bytes s))) = Lib.itoa (valZ (botL (bytes s))) := by rw [bytes_str]; exact itoa_valZ k2
        have hok : ratOk (bytes s) = (decide (1 < valZ (botL (bytes s))) && decide (gcdI (valZ (topL (bytes s))) (valZ (botL (bytes s))) = 1)) := by
          unfold ratOk; rw [k1, k2, hB]
          have : decide (Int.gcd (valZ (topL (bytes s))) (valZ (botL (bytes s))) = 1) = decide (gcdI (valZ (topL (bytes s))) (valZ (botL (bytes s))) = 1) := by unfold gcdI; rw [decide_eq_decide]; omega
          rw [this]; rfl
        have z1 : (str (topL (bytes s))).size ≤ 1300000 := by rw [str_size]; omega
        have z2 : (str (botL (bytes s))).size ≤ 1300000 := by rw [str_size]; omega
        have C6 := fun W => refOrderI (str (botL (bytes s))) ⟨#[49]⟩ _ 1 W t2 s1.text (by omega) (by decide)
        have C7 : ∀ W, Calls Tryz.prog 91 #[.string (str (topL (bytes s))), .string (str (botL (bytes s)))] W (Bret (.string (str (Lib.itoa (gcdI (valZ (topL (bytes s))) (valZ (botL (bytes s))))))) W) := fun W => refCommonI _ _ _ _ W t1 t2 z1 z2
        rw [hok]
        have hcm := sgn_cases (valZ (botL (bytes s)) - 1)
        have hci : cmpI (valZ (botL (bytes s))) 1 = cmpI (valZ (botL (bytes s)) - 1) 0 := by unfold cmpI; (repeat' split) <;> omega
        rw [hci] at C6
        have hne1 := itoa_ne_one (g := gcdI (valZ (topL (bytes s))) (valZ (botL (bytes s))))
        by_cases hd : 1 < valZ (botL (bytes s))
        · have hd1 : decide (1 < valZ (botL (bytes s))) = true := by simp [hd]
          have hc1 : cmpI (valZ (botL (bytes s)) - 1) 0 = 1 := by rcases hcm with h | h | h <;> omega
          rw [hd1]
          rw [hc1] at C6
          by_cases hg : gcdI (valZ (topL (bytes s))) (valZ (botL (bytes s))) = 1
          · have hg1 : decide (gcdI (valZ (topL (bytes s))) (valZ (botL (bytes s))) = 1) = true := by simp [hg]
            rw [hg1]
            rw [hg, lit_str s1] at C7
            generalize str (topL (bytes s)) = u at *
            generalize str (botL (bytes s)) = v at *
            generalize errOf (topL (bytes s)) = e1 at *
            generalize errOf (botL (bytes s)) = e2 at *
            generalize slashAt (bytes s) = r at *
            have K1 := Lib.hid C1; have K2 := Lib.hid C2; have K3 := Lib.hid C3; have K4 := Lib.hid C4; have K5 := Lib.hid C5; have K6 := Lib.hid C6; have K7 := Lib.hid C7
            clear C1 C2 C3 C4 C5 C6 C7 h1 hl1 hl2 hsz hs k1 hB hl h2 k2 t1 t2 hok z1 z2 hcm hci hne1 hd hd1 hc1 hg hg1
            rcases j1 with rfl | rfl <;> rcases j2 with rfl | rfl
            all_goals
              go_enter Tryz.func77, Tryz.ntmps77
              go_wp2_with (go_at_call 93; refine (K1.out _).mono ?_; rintro e w1 ⟨rfl, h⟩; subst h; refine Hid.out ?_)
              refine Lib.hid ?_
              go_wp2_with (go_at_call 101; refine (K2.out _).mono ?_; rintro e w2 ⟨rfl, h⟩; subst h; refine Hid.out ?_)
              refine Lib.hid ?_
              go_wp2_with (go_at_call 76; refine (K3.out _).mono ?_; rintro e w3 ⟨rfl, h⟩; subst h; refine Hid.out ?_)
              refine Lib.hid ?_
              go_wp2_with (go_at_call 41; refine (K4.out _).mono ?_; rintro e w4 ⟨rfl, h⟩; subst h; refine Hid.out ?_)
              refine Lib.hid ?_
              go_wp2_with (go_at_call 101; refine (K5.out _).mono ?_; rintro e w5 ⟨rfl, h⟩; subst h; refine Hid.out ?_)
              refine Lib.hid ?_
              go_wp2_with (go_at_call 102; refine (K6.out _).mono ?_; rintro e w6 ⟨rfl, hb6⟩; refine Hid.out ?_)
              refine Lib.hid ?_
              go_wp2_with (go_at_call 93; refine (K1.out _).mono ?_; rintro e w7 ⟨rfl, h⟩; subst h; refine Hid.out ?_)
              refine Lib.hid ?_
              go_wp2_with (go_at_call 91; refine (K7.out _).mono ?_; rintro e w8 ⟨rfl, hb8⟩; refine Hid.out ?_)
              have hB8 := Below.chain hb6 hb8; clear hb8 hb6
              refine Lib.hid ?_
              go_wp2
              refine bodyPost_ret (v := .bool true) (by simp [results, Tryz.results77, go_sem]) rfl ?_
              exact ⟨rfl, hB8⟩
          · have hg1 : decide (gcdI (valZ (topL (bytes s))) (valZ (botL (bytes s))) = 1) = false := by simp [hg]
            rw [hg1]
            have hn := hne1 hg
            generalize str (Lib.itoa (gcdI (valZ (topL (bytes s))) (valZ (botL (bytes s))))) = gs at *
            generalize str (topL (bytes s)) = u at *
            generalize str (botL (bytes s)) = v at *
            generalize errOf (topL (bytes s)) = e1 at *
            generalize errOf (botL (bytes s)) = e2 at *
            generalize slashAt (bytes s) = r at *
            have K1 := Lib.hid C1; have K2 := Lib.hid C2; have K3 := Lib.hid C3; have K4 := Lib.hid C4; have K5 := Lib.hid C5; have K6 := Lib.hid C6; have K7 := Lib.hid C7
            clear C1 C2 C3 C4 C5 C6 C7 h1 hl1 hl2 hsz hs k1 hB hl h2 k2 t1 t2 hok z1 z2 hcm hci hne1 hd hd1 hc1 hg hg1
            rcases j1 with rfl | rfl <;> rcases j2 with rfl | rfl
            all_goals
              go_enter Tryz.func77, Tryz.ntmps77
              go_wp2_with (go_at_call 93; refine (K1.out _).mono ?_; rintro e w1 ⟨rfl, h⟩; subst h; refine Hid.out ?_)
              refine Lib.hid ?_
              go_wp2_with (go_at_call 101; refine (K2.out _).mono ?_; rintro e w2 ⟨rfl, h⟩; subst h; refine Hid.out ?_)
              refine Lib.hid ?_
              go_wp2_with (go_at_call 76; refine (K3.out _).mono ?_; rintro e w3 ⟨rfl, h⟩; subst h; refine Hid.out ?_)
              refine Lib.hid ?_
              go_wp2_with (go_at_call 41; refine (K4.out _).mono ?_; rintro e w4 ⟨rfl, h⟩; subst h; refine Hid.out ?_)
              refine Lib.hid ?_
              go_wp2_with (go_at_call 101; refine (K5.out _).mono ?_; rintro e w5 ⟨rfl, h⟩; subst h; refine Hid.out ?_)
              refine Lib.hid ?_
              go_wp2_with (go_at_call 102; refine (K6.out _).mono ?_; rintro e w6 ⟨rfl, hb6⟩; refine Hid.out ?_)
              refine Lib.hid ?_
              go_wp2_with (go_at_call 93; refine (K1.out _).mono ?_; rintro e w7 ⟨rfl, h⟩; subst h; refine Hid.out ?_)
              refine Lib.hid ?_
              go_wp2_with (go_at_call 91; refine (K7.out _).mono ?_; rintro e w8 ⟨rfl, hb8⟩; refine Hid.out ?_)
              have hB8 := Below.chain hb6 hb8; clear hb8 hb6
              refine Lib.hid ?_
              go_wp2
              refine bodyPost_ret (v := .bool false) (by simp [results, Tryz.results77, go_sem]) rfl ?_
              exact ⟨rfl, hB8⟩
        · have hd1 : decide (1 < valZ (botL (bytes s))) = false := by simp; omega
          have hc1 : cmpI (valZ (botL (bytes s)) - 1) 0 ≤ 0 := by rcases hcm with h | h | h <;> omega
          rw [hd1, Bool.false_and]
          generalize cmpI (valZ (botL (bytes s)) - 1) 0 = cc at *
          have hc2 : -1 ≤ cc := by rcases hcm with h | h | h <;> omega
          generalize str (topL (bytes s)) = u at *
          generalize str (botL (bytes s)) = v at *
          generalize errOf (topL (bytes s)) = e1 at *
          generalize errOf (botL (bytes s)) = e2 at *
          generalize slashAt (bytes s) = r at *
          have K1 := Lib.hid C1; have K2 := Lib.hid C2; have K3 := Lib.hid C3; have K4 := Lib.hid C4; have K5 := Lib.hid C5; have K6 := Lib.hid C6
          clear C1 C2 C3 C4 C5 C6 C7 h1 hl1 hl2 hsz hs k1 hB hl h2 k2 t1 t2 hok z1 z2 hcm hci hne1 hd hd1
          rcases j1 with rfl | rfl <;> rcases j2 with rfl | rfl
          all_goals
            go_enter Tryz.func77, Tryz.ntmps77
            go_wp2_with (go_at_call 93; refine (K1.out _).mono ?_; rintro e w1 ⟨rfl, h⟩; subst h; refine Hid.out ?_)
            refine Lib.hid ?_
            go_wp2_with (go_at_call 101; refine (K2.out _).mono ?_; rintro e w2 ⟨rfl, h⟩; subst h; refine Hid.out ?_)
            refine Lib.hid ?_
            go_wp2_with (go_at_call 76; refine (K3.out _).mono ?_; rintro e w3 ⟨rfl, h⟩; subst h; refine Hid.out ?_)
            refine Lib.hid ?_
            go_wp2_with (go_at_call 41; refine (K4.out _).mono ?_; rintro e w4 ⟨rfl, h⟩; subst h; refine Hid.out ?_)
            refine Lib.hid ?_
            go_wp2_with (go_at_call 101; refine (K5.out _).mono ?_; rintro e w5 ⟨rfl, h⟩; subst h; refine Hid.out ?_)
            refine Lib.hid ?_
            go_wp2_with (go_at_call 102; refine (K6.out _).mono ?_; rintro e w6 ⟨rfl, hb6⟩; refine Hid.out ?_)
            refine Lib.hid ?_
            go_wp2
            refine bodyPost_ret (v := .bool false) (by simp [results, Tryz.results77, go_sem]) rfl ?_
            exact ⟨rfl, hb6⟩
theorem canon_pos {l : List UInt8} (h : canonB l = true) : 0 < l.length := by
  cases l with
  | nil => exact absurd h (by decide)
  | cons a t => simp
set_option maxHeartbeats 1000000 in
theorem refDigits02 (s : ByteArray) (w : World) (hs : s.size ≤ 1200000) (h : ratOk (bytes s) = true) :
    Calls Tryz.prog 78 #[.string s] w fun e w' => e = .returned (.int .i64 (max ((digL (topL (bytes s))).length : Int) ((digL (botL (bytes s))).length : Int))) ∧ w' = w := by
  have hl1 := top_len (bytes s); have hl2 := bot_len (bytes s)
  have hsz : (bytes s).length = s.size := rfl
  obtain ⟨k1, k2, -⟩ := ratOk_spec h
  have p1 := canon_pos k1; have p2 := canon_pos k2
  have C1 := fun W => refTop s W hs
  have C2 := fun W => refDigits_any (str (topL (bytes s))) W (by rw [str_size]; omega) (by rw [str_size]; omega)
  have C3 := fun W => refBottom s W hs
  have C4 := fun W => refDigits_any (str (botL (bytes s))) W (by rw [str_size]; omega) (by rw [str_size]; omega)
  rw [bytes_str] at C2 C4
  generalize (digL (topL (bytes s))).length = n at *
  generalize (digL (botL (bytes s))).length = m at *
  generalize str (topL (bytes s)) = u at *
  generalize str (botL (bytes s)) = v at *
  have K1 := Lib.hid C1; have K2 := Lib.hid C2; have K3 := Lib.hid C3; have K4 := Lib.hid C4
  clear C1 C2 C3 C4 hl1 hl2 hsz hs h k1 k2 p1 p2
  by_cases hnm : n ≤ m
  · have e : max (n : Int) (m : Int) = m := by omega
    rw [e]
    go_enter Tryz.func78, Tryz.ntmps78
    go_wp2_with (go_at_call 93; refine (K1.out _).mono ?_; rintro e w1 ⟨rfl, h⟩; subst h; refine Hid.out ?_)
    refine Lib.hid ?_
    go_wp2_with (go_at_call 63; refine (K2.out _).mono ?_; rintro e w2 ⟨rfl, h⟩; subst h; refine Hid.out ?_)
    refine Lib.hid ?_
    go_wp2_with (go_at_call 41; refine (K3.out _).mono ?_; rintro e w3 ⟨rfl, h⟩; subst h; refine Hid.out ?_)
    refine Lib.hid ?_
    go_wp2_with (go_at_call 63; refine (K4.out _).mono ?_; rintro e w4 ⟨rfl, h⟩; subst h; refine Hid.out ?_)
    refine Lib.hid ?_
    go_wp2
    go_ret
    exact ⟨ret_int (by omega), rfl⟩
  · have e : max (n : Int) (m : Int) = n := by omega
    rw [e]
    go_enter Tryz.func78, Tryz.ntmps78
    go_wp2_with (go_at_call 93; refine (K1.out _).mono ?_; rintro e w1 ⟨rfl, h⟩; subst h; refine Hid.out ?_)
    refine Lib.hid ?_
    go_wp2_with (go_at_call 63; refine (K2.out _).mono ?_; rintro e w2 ⟨rfl, h⟩; subst h; refine Hid.out ?_)
    refine Lib.hid ?_
    go_wp2_with (go_at_call 41; refine (K3.out _).mono ?_; rintro e w3 ⟨rfl, h⟩; subst h; refine Hid.out ?_)
    refine Lib.hid ?_
    go_wp2_with (go_at_call 63; refine (K4.out _).mono ?_; rintro e w4 ⟨rfl, h⟩; subst h; refine Hid.out ?_)
    refine Lib.hid ?_
    go_wp2
    go_ret
    exact ⟨ret_int (by omega), rfl⟩
set_option maxHeartbeats 1000000 in
theorem refCheck02 (s : ByteArray) (w : World) (hs : s.size ≤ 1200000) :
    Calls Tryz.prog 42 #[.string s] w (Bret (.int .i64 (rerr (bytes s) : Nat)) w) := by
  have C1 := fun W => formed_any s W hs
  by_cases h : ratOk (bytes s) = true
  · have C2 := fun W => refDigits02 s W hs h
    rw [h] at C1
    obtain ⟨k1, k2, -⟩ := ratOk_spec h
    have he : rerr (bytes s) = if 4096 < (digL (topL (bytes s))).length ∨ 4096 < (digL (botL (bytes s))).length then 10 else 0 := by
      unfold rerr errOf
      rw [h, if_pos rfl, k1, k2, if_pos rfl, if_pos rfl]
      (repeat' split) <;> omega
    rw [he]
    generalize (digL (topL (bytes s))).length = n at *
    generalize (digL (botL (bytes s))).length = m at *
    clear he k1 k2 h
    by_cases hl : 4096 < n ∨ 4096 < m
    · rw [if_pos hl]
      have hm : (4096 : Int) < max (n : Int) (m : Int) := by omega
      generalize max (n : Int) (m : Int) = x at *
      have K1 := Lib.hid C1; have K2 := Lib.hid C2; clear C1 C2 hl hs
      go_enter Tryz.func42, Tryz.ntmps42
      go_wp2_with (go_at_call 77; refine (K1.out _).mono ?_; rintro e w1 ⟨rfl, hb1⟩; refine Hid.out ?_)
      refine Lib.hid ?_
      go_wp2_with (go_at_call 78; refine (K2.out _).mono ?_; rintro e w2 ⟨rfl, h⟩; subst h; refine Hid.out ?_)
      refine Lib.hid ?_
      go_wp2
      refine bodyPost_ret (v := .int .i64 10) (by simp [results, Tryz.results42, go_sem]) rfl ?_
      exact ⟨rfl, hb1⟩
    · rw [if_neg hl]
      have hm : ¬ (4096 : Int) < max (n : Int) (m : Int) := by omega
      generalize max (n : Int) (m : Int) = x at *
      have K1 := Lib.hid C1; have K2 := Lib.hid C2; clear C1 C2 hl hs
      go_enter Tryz.func42, Tryz.ntmps42
      go_wp2_with (go_at_call 77; refine (K1.out _).mono ?_; rintro e w1 ⟨rfl, hb1⟩; refine Hid.out ?_)
      refine Lib.hid ?_
      go_wp2_with (go_at_call 78; refine (K2.out _).mono ?_; rintro e w2 ⟨rfl, h⟩; subst h; refine Hid.out ?_)
      refine Lib.hid ?_
      go_wp2
      refine bodyPost_ret (v := .int .i64 0) (by simp [results, Tryz.results42, go_sem]) rfl ?_
      exact ⟨rfl, hb1⟩
  · have h' : ratOk (bytes s) = false := by simpa using h
    rw [rerr_form h']
    rw [h'] at C1
    have K1 := Lib.hid C1; clear C1 h h' hs
    go_enter Tryz.func42, Tryz.ntmps42
    go_wp2_with (go_at_call 77; refine (K1.out _).mono ?_; rintro e w1 ⟨rfl, hb1⟩; refine Hid.out ?_)
    refine Lib.hid ?_
    go_wp2
    refine bodyPost_ret (v := .int .i64 3) (by simp [results, Tryz.results42, go_sem]) rfl ?_
    exact ⟨rfl, hb1⟩
def shortQ (q : Rat) : Bool := decide ((Lib.decDigits q.num.natAbs).length ≤ 100) && decide ((Lib.decDigits q.den).length ≤ 100)
theorem digL_more (z : Int) (b : List UInt8) : digL (Lib.itoa z ++ 47 :: b) = Lib.decDigits z.natAbs ++ 47 :: b := by
  by_cases h : z < 0
  · rw [itoa_neg h]; rfl
  · rw [itoa_nonneg h]
    have hne : Lib.decDigits z.natAbs ≠ [] := decDigits_ne_nil _
    have hd := allDig_decDigits z.natAbs
    generalize Lib.decDigits z.natAbs = d at *
    match d, hne with
    | c :: t, _ =>
      have hc : c ≠ 45 := fun e => by
        have := isDig_iff.1 (hd c (List.mem_cons_self ..))
        subst e
        simp at this
      show Lib.trimPrefix (c :: (t ++ 47 :: b)) [45] = _
      unfold Lib.trimPrefix Lib.hasPrefix
      rw [if_neg (by simp; exact fun e => hc e.symm)]
      rfl
theorem partsN_rat (q : Rat) : (partsN (ratL q)).1.length = (Lib.decDigits q.num.natAbs).length ∧ (partsN (ratL q)).2.length = if q.den = 1 then 0 else (Lib.decDigits q.den).length := by
  unfold partsN ratL
  by_cases h : q.den = 1
  · rw [if_pos h, if_pos h, digL_itoa, (slash_none (noSlash_dec _)).1]
    exact ⟨rfl, rfl⟩
  · obtain ⟨h1, h2, h3⟩ := slash_some (b := Lib.itoa (q.den : Int)) (noSlash_dec q.num.natAbs)
    rw [if_neg h, if_neg h, digL_more, if_pos h1, h2, h3, itoa_nonneg (by omega), Int.natAbs_natCast]
    exact ⟨rfl, rfl⟩
theorem shortN_rat (q : Rat) : shortN (ratL q) = shortQ q := by
  unfold shortN shortQ
  rw [(partsN_rat q).1, (partsN_rat q).2]
  split
  · next h => rw [h, show Lib.decDigits 1 = [49] by decide +kernel]; rfl
  · rfl
def numE (l : List UInt8) : Nat := if rerr l = 0 then (if shortN l = true then 0 else 10) else rerr l
theorem numE_zero {l : List UInt8} (h : numE l = 0) : rerr l = 0 ∧ shortN l = true := by
  unfold numE at h
  split at h
  · split at h
    · exact ⟨by assumption, by assumption⟩
    · omega
  · contradiction
theorem numE_cases (l : List UInt8) : numE l = 0 ∨ numE l = 3 ∨ numE l = 10 := by
  unfold numE
  rcases rerr_cases l with h | h | h
  · rw [if_pos h]; split
    · exact .inl rfl
    · exact .inr (.inr rfl)
  · rw [h, if_neg (by decide)]; exact .inr (.inl rfl)
  · rw [h, if_neg (by decide)]; exact .inr (.inr rfl)
set_option maxHeartbeats 1000000 in
theorem refShort03 {s : ByteArray} {q : Rat} (w : World) (hs : RStr s q) (hz : s.size ≤ 1200000) : Calls Tryz.prog 72 #[.string s] w (Bret (.bool (shortQ q)) w) := by
  have C1 := fun W => refTop s W hz
  have C3 := fun W => refBottom s W hz
  rw [hs.text, topL_rat] at C1
  rw [hs.text, botL_rat] at C3
  have C2 := fun W => refDigitsI q.num W (by have := hs.rs.num.len; omega)
  have C4 := fun W => refDigitsI (q.den : Int) W (by have := hs.rs.den.len; omega)
  rw [Int.natAbs_natCast] at C4
  unfold shortQ
  generalize (Lib.decDigits q.num.natAbs).length = m at *
  generalize (Lib.decDigits q.den).length = n at *
  generalize str (Lib.itoa q.num) = x at *
  generalize str (Lib.itoa (q.den : Int)) = y at *
  have K1 := Lib.hid C1; have K2 := Lib.hid C2; have K3 := Lib.hid C3; have K4 := Lib.hid C4; clear C1 C2 C3 C4 hs hz
  by_cases h1 : m ≤ 100
  · by_cases h2 : n ≤ 100
    · rw [decide_eq_true h1, decide_eq_true h2]
      go_enter Tryz.func72, Tryz.ntmps72
      go_wp2_with (go_at_call 93; refine (K1.out _).mono ?_; rintro e w1 ⟨rfl, h⟩; subst h; refine Hid.out ?_)
      refine Lib.hid ?_
      go_wp2_with (go_at_call 63; refine (K2.out _).mono ?_; rintro e w2 ⟨rfl, h⟩; subst h; refine Hid.out ?_)
      refine Lib.hid ?_
      go_wp2_with (go_at_call 41; refine (K3.out _).mono ?_; rintro e w3 ⟨rfl, h⟩; subst h; refine Hid.out ?_)
      refine Lib.hid ?_
      go_wp2_with (go_at_call 63; refine (K4.out _).mono ?_; rintro e w4 ⟨rfl, h⟩; subst h; refine Hid.out ?_)
      refine Lib.hid ?_
      go_wp2
      refine bodyPost_ret (v := .bool true) (by simp [results, Tryz.results72, go_sem] <;> omega) rfl ?_
      exact ⟨rfl, Below.refl _ _⟩
    · rw [decide_eq_true h1, decide_eq_false h2]
      go_enter Tryz.func72, Tryz.ntmps72
      go_wp2_with (go_at_call 93; refine (K1.out _).mono ?_; rintro e w1 ⟨rfl, h⟩; subst h; refine Hid.out ?_)
      refine Lib.hid ?_
      go_wp2_with (go_at_call 63; refine (K2.out _).mono ?_; rintro e w2 ⟨rfl, h⟩; subst h; refine Hid.out ?_)
      refine Lib.hid ?_
      go_wp2_with (go_at_call 41; refine (K3.out _).mono ?_; rintro e w3 ⟨rfl, h⟩; subst h; refine Hid.out ?_)
      refine Lib.hid ?_
      go_wp2_with (go_at_call 63; refine (K4.out _).mono ?_; rintro e w4 ⟨rfl, h⟩; subst h; refine Hid.out ?_)
      refine Lib.hid ?_
      go_wp2
      refine bodyPost_ret (v := .bool false) (by simp [results, Tryz.results72, go_sem] <;> omega) rfl ?_
      exact ⟨rfl, Below.refl _ _⟩
  · rw [decide_eq_false h1, Bool.false_and]
    go_enter Tryz.func72, Tryz.ntmps72
    go_wp2_with (go_at_call 93; refine (K1.out _).mono ?_; rintro e w1 ⟨rfl, h⟩; subst h; refine Hid.out ?_)
    refine Lib.hid ?_
    go_wp2_with (go_at_call 63; refine (K2.out _).mono ?_; rintro e w2 ⟨rfl, h⟩; subst h; refine Hid.out ?_)
    refine Lib.hid ?_
    go_wp2
    refine bodyPost_ret (v := .bool false) (by simp [results, Tryz.results72, go_sem]) rfl ?_
    exact ⟨rfl, Below.refl _ _⟩
set_option maxHeartbeats 1000000 in
theorem checkNumber (s : ByteArray) (w : World) (hz : s.size ≤ 1200000) (htab : Lib.TabIs Tryz.prog w "internal/strconv.uint64pow10" .u64 Lib.pow10Tab) : Calls Tryz.prog 45 #[.string s] w (Bret (.int .i64 (numE (bytes s) : Nat)) w) := by
  have C1 := ratCheck s w (by omega) htab
  rcases rerr_cases (bytes s) with h | h | h
  · have hq := rstr_of_rerr h
    have C2 : ∀ W : World, Calls Tryz.prog 61 #[.string s] W (Bret (.bool (shortN (bytes s))) W) := fun W => isShortN s W (by omega)
    unfold numE
    rw [h] at C1 ⊢
    rw [if_pos rfl]
    cases hb : shortN (bytes s)
    · rw [hb] at C2
      rw [if_neg (by decide)]
      have K1 := Lib.hid C1; have K2 := Lib.hid C2; clear C1 C2 h hq hb
      go_enter Tryz.func45, Tryz.ntmps45
      go_wp2_with (go_at_call 79; refine K1.out.mono ?_; rintro e w1 ⟨rfl, hb1⟩; refine Hid.out ?_)
      refine Lib.hid ?_
      go_wp2_with (go_at_call 61; refine (K2.out _).mono ?_; rintro e w2 ⟨rfl, hb2⟩; refine Hid.out ?_)
      have hB2 := Below.chain hb1 hb2; clear hb2 hb1
      refine Lib.hid ?_
      go_wp2
      refine bodyPost_ret (v := .int .i64 10) (by simp [results, Tryz.results45, go_sem]) rfl ?_
      exact ⟨rfl, hB2⟩
    · rw [hb] at C2
      rw [if_pos rfl]
      have K1 := Lib.hid C1; have K2 := Lib.hid C2; clear C1 C2 h hq hb
      go_enter Tryz.func45, Tryz.ntmps45
      go_wp2_with (go_at_call 79; refine K1.out.mono ?_; rintro e w1 ⟨rfl, hb1⟩; refine Hid.out ?_)
      refine Lib.hid ?_
      go_wp2_with (go_at_call 61; refine (K2.out _).mono ?_; rintro e w2 ⟨rfl, hb2⟩; refine Hid.out ?_)
      have hB2 := Below.chain hb1 hb2; clear hb2 hb1
      refine Lib.hid ?_
      go_wp2
      refine bodyPost_ret (v := .int .i64 0) (by simp [results, Tryz.results45, go_sem]) rfl ?_
      exact ⟨rfl, hB2⟩
  · unfold numE
    rw [h] at C1 ⊢
    rw [if_neg (by decide)]
    have K1 := Lib.hid C1; clear C1 h
    go_enter Tryz.func45, Tryz.ntmps45
    go_wp2_with (go_at_call 79; refine K1.out.mono ?_; rintro e w1 ⟨rfl, hb1⟩; refine Hid.out ?_)
    refine Lib.hid ?_
    go_wp2
    refine bodyPost_ret (v := .int .i64 3) (by simp [results, Tryz.results45, go_sem]) rfl ?_
    exact ⟨rfl, hb1⟩
  · unfold numE
    rw [h] at C1 ⊢
    rw [if_neg (by decide)]
    have K1 := Lib.hid C1; clear C1 h
    go_enter Tryz.func45, Tryz.ntmps45
    go_wp2_with (go_at_call 79; refine K1.out.mono ?_; rintro e w1 ⟨rfl, hb1⟩; refine Hid.out ?_)
    refine Lib.hid ?_
    go_wp2
    refine bodyPost_ret (v := .int .i64 10) (by simp [results, Tryz.results45, go_sem]) rfl ?_
    exact ⟨rfl, hb1⟩
set_option maxHeartbeats 1000000 in
theorem refNumber03 (s : ByteArray) (w : World) (hz : s.size ≤ 1200000) : Calls Tryz.prog 48 #[.string s] w (Bret (.int .i64 (numE (bytes s) : Nat)) w) := by
  have C1 := refCheck02 s w hz
  rcases rerr_cases (bytes s) with h | h | h
  · have hq := rstr_of_rerr h
    have C2 : ∀ W : World, Calls Tryz.prog 72 #[.string s] W (Bret (.bool (shortN (bytes s))) W) := fun W => by have := refShort03 W hq hz; rwa [← shortN_rat, ← hq.text] at this
    unfold numE
    rw [h] at C1 ⊢
    rw [if_pos rfl]
    cases hb : shortN (bytes s)
    · rw [hb] at C2
      rw [if_neg (by decide)]
      have K1 := Lib.hid C1; have K2 := Lib.hid C2; clear C1 C2 h hq hb
      go_enter Tryz.func48, Tryz.ntmps48
      go_wp2_with (go_at_call 42; refine K1.out.mono ?_; rintro e w1 ⟨rfl, hb1⟩; refine Hid.out ?_)
      refine Lib.hid ?_
      go_wp2_with (go_at_call 72; refine (K2.out _).mono ?_; rintro e w2 ⟨rfl, hb2⟩; refine Hid.out ?_)
      have hB2 := Below.chain hb1 hb2; clear hb2 hb1
      refine Lib.hid ?_
      go_wp2
      refine bodyPost_ret (v := .int .i64 10) (by simp [results, Tryz.results48, go_sem]) rfl ?_
      exact ⟨rfl, hB2⟩
    · rw [hb] at C2
      rw [if_pos rfl]
      have K1 := Lib.hid C1; have K2 := Lib.hid C2; clear C1 C2 h hq hb
      go_enter Tryz.func48, Tryz.ntmps48
      go_wp2_with (go_at_call 42; refine K1.out.mono ?_; rintro e w1 ⟨rfl, hb1⟩; refine Hid.out ?_)
      refine Lib.hid ?_
      go_wp2_with (go_at_call 72; refine (K2.out _).mono ?_; rintro e w2 ⟨rfl, hb2⟩; refine Hid.out ?_)
      have hB2 := Below.chain hb1 hb2; clear hb2 hb1
      refine Lib.hid ?_
      go_wp2
      refine bodyPost_ret (v := .int .i64 0) (by simp [results, Tryz.results48, go_sem]) rfl ?_
      exact ⟨rfl, hB2⟩
  · unfold numE
    rw [h] at C1 ⊢
    rw [if_neg (by decide)]
    have K1 := Lib.hid C1; clear C1 h
    go_enter Tryz.func48, Tryz.ntmps48
    go_wp2_with (go_at_call 42; refine K1.out.mono ?_; rintro e w1 ⟨rfl, hb1⟩; refine Hid.out ?_)
    refine Lib.hid ?_
    go_wp2
    refine bodyPost_ret (v := .int .i64 3) (by simp [results, Tryz.results48, go_sem]) rfl ?_
    exact ⟨rfl, hb1⟩
  · unfold numE
    rw [h] at C1 ⊢
    rw [if_neg (by decide)]
    have K1 := Lib.hid C1; clear C1 h
    go_enter Tryz.func48, Tryz.ntmps48
    go_wp2_with (go_at_call 42; refine K1.out.mono ?_; rintro e w1 ⟨rfl, hb1⟩; refine Hid.out ?_)
    refine Lib.hid ?_
    go_wp2
    refine bodyPost_ret (v := .int .i64 10) (by simp [results, Tryz.results48, go_sem]) rfl ?_
    exact ⟨rfl, hb1⟩
end Go.Proofs.YtjobmkdaaionlaaGreatDoor
