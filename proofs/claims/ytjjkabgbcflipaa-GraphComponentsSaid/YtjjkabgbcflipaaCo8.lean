import Derived.Test.YtjjkabgbcflipaaCo7
set_option linter.unusedSimpArgs false
set_option linter.unusedVariables false
namespace Go.Proofs.Ytjjkabgbcflipaa
open Go Go.Proofs Go.RowKit GM

section
variable {P : Nat} {x : Int} {E : List Ed} {LL : List (List Nat)}
theorem Cls.head_le {nx : Nat → List Nat} (C : Cls nx P LL) {l : List Nat} (hl : l ∈ LL) {q : Nat} (hq : q ∈ l) : atD l 0 ≤ q := by
  obtain ⟨i, hi, rfl⟩ := List.getElem_of_mem hq
  have h0 : 0 < l.length := by omega
  have e : atD l 0 = l[0] := by unfold atD; rw [List.getD_eq_getElem?_getD, List.getElem?_eq_getElem h0]; rfl
  rw [e]
  rcases Nat.eq_zero_or_pos i with h | h
  · subst h; exact Nat.le_refl _
  · exact List.pairwise_iff_getElem.1 (C.sor l hl) 0 i h0 hi h
theorem rc_and {nx : Nat → List Nat} (a b : Nat) : (rcB nx a b && rcB nx b a) = true ↔ Mu nx a b := by
  rw [Bool.and_eq_true, rcB_iff, rcB_iff]; exact Iff.rfl
/-- A point whose class is free can be numbered, and the other way round. -/
theorem ok_free (h0 : ckG P x E = 0) (C : Cls (nxF P E) P LL) {N : Nat → Int} {ch : List (List Nat)} (s : NumS (nxF P E) LL N ch) {g : List Nat} (hg : g ∈ LL) {p : Nat} (hp : p ∈ g) :
    okP (rcB (nxF P E)) E N p = true ↔ freeG (nxF P E) N g = true := by
  have hm : atD g 0 ∈ g := atD_mem (List.length_pos_iff.2 (C.ne g hg))
  have hsame : ∀ a ∈ g, ∀ b ∈ g, N a < 0 → N b < 0 := fun a ha b hb h => by
    rcases s.num b with ⟨j, l, hj, hl, e⟩ | ⟨-, e⟩
    · have : g = l := C.same hg (s.sub l (List.mem_of_getElem? hj)) hb hl
      subst this
      have := s.uni C hj ha
      omega
    · omega
  unfold okP freeG endsB
  rw [Bool.and_eq_true, Bool.and_eq_true, decide_eq_true_iff, decide_eq_true_iff, List.all_eq_true, List.all_eq_true, head_at]
  constructor
  · rintro ⟨h1, h2⟩
    refine ⟨hsame p hp _ hm h1, fun b hb => ?_⟩
    obtain ⟨a, ha, hab⟩ := List.mem_flatMap.1 hb
    obtain ⟨d, hd, e1, e2⟩ := (nxF_mem (nxF_src hab)).1 hab
    have h3 := h2 d hd
    have e3 : d.f.toNat = a := by omega
    unfold badE at h3
    rw [e2, e3, (rc_and p a).2 ((C.cls g hg p hp a).1 ha), Bool.true_and] at h3
    unfold okN
    rw [Bool.or_eq_true, List.contains_iff_mem, decide_eq_true_iff]
    by_cases hmu : Mu (nxF P E) p b
    · exact .inl ((C.cls g hg p hp b).2 hmu)
    · refine .inr ?_
      have e4 : (rcB (nxF P E) p b && rcB (nxF P E) b p) = false := by rw [← Bool.not_eq_true]; exact fun k => hmu ((rc_and p b).1 k)
      rw [e4] at h3
      simp at h3
      exact h3
  · rintro ⟨h1, h2⟩
    refine ⟨hsame _ hm p hp h1, fun d hd => ?_⟩
    unfold badE
    rw [Bool.not_eq_true', ← Bool.not_eq_true]
    intro k
    rw [Bool.and_eq_true, rc_and, Bool.and_eq_true, Bool.not_eq_true', decide_eq_true_iff] at k
    obtain ⟨k1, k2, k3⟩ := k
    have hpt := isPt_true (ckG_mem h0 hd).1
    have hfg := (C.cls g hg p hp _).2 k1
    have hb : d.t.toNat ∈ nxF P E d.f.toNat := (nxF_mem (by omega)).2 ⟨d, hd, by omega, rfl⟩
    have := h2 _ (List.mem_flatMap.2 ⟨_, hfg, hb⟩)
    unfold okN at this
    rw [Bool.or_eq_true, List.contains_iff_mem, decide_eq_true_iff] at this
    rcases this with j | j
    · rw [← Bool.not_eq_true] at k2
      exact k2 ((rc_and p _).2 ((C.cls g hg p hp _).1 j))
    · omega
theorem ref_some (h0 : ckG P x E = 0) (C : Cls (nxF P E) P LL) {k : Nat} (hlt : k < LL.length) (heq : refN (rcB (nxF P E)) P E k = compN (nxF P E) LL k) : ∃ p, fstp (rcB (nxF P E)) P E (refN (rcB (nxF P E)) P E k) = some p := by
  have hn : ∀ a b, b ∈ nxF P E a → a < P ∧ b < P := fun a b hb => ⟨nxF_src hb, nxF_lt h0 hb⟩
  have hk : k ≤ LL.length := by omega
  obtain ⟨ch, hch, s⟩ := nums_of C hn k hk
  obtain ⟨q, hq, hq0⟩ := s.open_ C (by omega)
  obtain ⟨g, hg, hfr⟩ := s.free C hn hq hq0
  have hm : atD g 0 ∈ g := atD_mem (List.length_pos_iff.2 (C.ne g hg))
  have hokg := (ok_free h0 C s hg hm).2 hfr
  rw [heq]
  cases hf : fstp (rcB (nxF P E)) P E (compN (nxF P E) LL k) with
  | some p => exact ⟨p, rfl⟩
  | none =>
    have := List.find?_eq_none.1 hf _ (List.mem_range.2 (C.lt g hg _ hm))
    exact (this hokg).elim
theorem ref_comp (h0 : ckG P x E = 0) (C : Cls (nxF P E) P LL) (hs : LL.Pairwise fun a b => a.head?.getD 0 ≤ b.head?.getD 0) (k : Nat) : k ≤ LL.length → refN (rcB (nxF P E)) P E k = compN (nxF P E) LL k := by
  have hn : ∀ a b, b ∈ nxF P E a → a < P ∧ b < P := fun a b hb => ⟨nxF_src hb, nxF_lt h0 hb⟩
  induction k with
  | zero => exact fun _ => rfl
  | succ k ih =>
    intro hk
    have e := ih (by omega)
    obtain ⟨p, hp⟩ := ref_some h0 C (by omega) e
    rw [refN_some hp]
    obtain ⟨ch, hch, s⟩ := nums_of C hn k (by omega)
    rw [e] at hp
    have hok := List.find?_some hp
    have hpP : p < P := List.mem_range.1 (List.mem_of_find?_eq_some hp)
    obtain ⟨g, hg, hpg⟩ := C.all p hpP
    have hfr := (ok_free h0 C s hg hpg).1 hok
    obtain ⟨-, u, v, hsp, hu⟩ := List.find?_eq_some_iff_append.1 hp
    have hfirst : ∀ q, q < p → okP (rcB (nxF P E)) E (compN (nxF P E) LL k) q = false := fun q hq => by
      refine Bool.eq_false_iff.2 fun hokq => ?_
      have hqm : q ∈ List.range P := List.mem_range.2 (by omega)
      rw [hsp] at hqm
      rcases List.mem_append.1 hqm with h | h
      · have := hu q h
        rw [hokq] at this; cases this
      · have hsr : (List.range P).Pairwise (· < ·) := List.pairwise_lt_range
        rw [hsp, List.pairwise_append, List.pairwise_cons] at hsr
        rcases List.mem_cons.1 h with h | h
        · omega
        · have := hsr.2.1.1 q h
          omega
    have hfi : LL.find? (freeG (nxF P E) (compN (nxF P E) LL k)) = some g := by
      cases hfd : LL.find? (freeG (nxF P E) (compN (nxF P E) LL k)) with
      | none => exact ((List.find?_eq_none.1 hfd g hg) hfr).elim
      | some g' =>
        have h1 := List.find?_some hfd
        have h2 := List.mem_of_find?_eq_some hfd
        have hm' : atD g' 0 ∈ g' := atD_mem (List.length_pos_iff.2 (C.ne g' h2))
        have hm : atD g 0 ∈ g := atD_mem (List.length_pos_iff.2 (C.ne g hg))
        have hokg' := (ok_free h0 C s h2 hm').2 h1
        have hokg := (ok_free h0 C s hg hm).2 hfr
        have hple : atD g 0 = p := by
          have h3 := C.head_le hg hpg
          refine Nat.le_antisymm h3 (Nat.le_of_not_lt fun q => ?_)
          have := hfirst _ q
          rw [hokg] at this; cases this
        have hple2 : p ≤ atD g' 0 := Nat.le_of_not_lt fun q => by
          have := hfirst _ q
          rw [hokg'] at this; cases this
        obtain ⟨-, as1, bs1, hsp2, has⟩ := List.find?_eq_some_iff_append.1 hfd
        have hgm := hg
        rw [hsp2] at hgm
        rcases List.mem_append.1 hgm with h | h
        · have := has g h
          rw [hfr] at this; cases this
        · rcases List.mem_cons.1 h with h | h
          · rw [h]
          · rw [hsp2, List.pairwise_append, List.pairwise_cons] at hs
            have h5 := hs.2.1.1 g h
            rw [head_at, head_at] at h5
            have h6 : atD g' 0 = atD g 0 := by omega
            rw [C.same h2 hg hm' (by rw [h6]; exact hm)]
    funext y
    rw [compN_succ]
    unfold putN freeL
    rw [hfi, e]
    show (if (rcB (nxF P E) p y && rcB (nxF P E) y p) = true then (k : Int) else compN (nxF P E) LL k y) = if y ∈ g then (k : Int) else compN (nxF P E) LL k y
    by_cases hy : y ∈ g
    · rw [if_pos hy, if_pos ((rc_and p y).2 ((C.cls g hg p hpg y).1 hy))]
    · rw [if_neg hy, if_neg fun h => hy ((C.cls g hg p hpg y).2 ((rc_and p y).1 h))]
theorem ref_stays {rc : Nat → Nat → Bool} {K : Nat} (h : fstp rc P E (refN rc P E K) = none) : ∀ j, refN rc P E (K + j) = refN rc P E K
  | 0 => rfl
  | j + 1 => by
    have ih := ref_stays h j
    show (match fstp rc P E (refN rc P E (K + j)) with | some p => fun q => if (rc p q && rc q p) = true then ((K + j : Nat) : Int) else refN rc P E (K + j) q | none => refN rc P E (K + j)) = _
    rw [ih, h]
/-- Where the reference ends, it has the program's numbers. -/
theorem ref_end (h0 : ckG P x E = 0) (C : Cls (nxF P E) P LL) (hs : LL.Pairwise fun a b => a.head?.getD 0 ≤ b.head?.getD 0) {K : Nat} (h : fstp (rcB (nxF P E)) P E (refN (rcB (nxF P E)) P E K) = none) :
    refN (rcB (nxF P E)) P E K = compN (nxF P E) LL LL.length := by
  rcases Nat.lt_or_ge K LL.length with hk | hk
  · obtain ⟨p, hp⟩ := ref_some h0 C hk (ref_comp h0 C hs K (by omega))
    rw [h] at hp; cases hp
  · have hn : ∀ a b, b ∈ nxF P E a → a < P ∧ b < P := fun a b hb => ⟨nxF_src hb, nxF_lt h0 hb⟩
    have e := ref_comp h0 C hs LL.length (Nat.le_refl _)
    obtain ⟨ch, hch, s⟩ := nums_of C hn LL.length (Nat.le_refl _)
    have hno : fstp (rcB (nxF P E)) P E (refN (rcB (nxF P E)) P E LL.length) = none := by
      rw [e]
      refine fstp_no fun q hq => ?_
      obtain ⟨j, l, -, -, h3⟩ := s.covers C (by omega) hq
      unfold okP
      rw [decide_eq_false (by omega)]; rfl
    have := ref_stays hno (K - LL.length)
    rw [show LL.length + (K - LL.length) = K by omega] at this
    rw [this, e]
end
end Go.Proofs.Ytjjkabgbcflipaa
namespace Go.Proofs.Ytjjkabgbcflipaa
open Go Go.Proofs Go.RowKit Go.Shelf GM

attribute [local go_sem] Oper.semAt_some

/-- The numbers of the components, as a list. -/
def CompL (n x : Int) (E : List Ed) (l : List Int) : Prop := (ckG n x E ≠ 0 → l = []) ∧
  (ckG n x E = 0 → ∃ LL, Cls (nxF n.toNat E) n.toNat LL ∧ (LL.Pairwise fun a b => a.head?.getD 0 ≤ b.head?.getD 0) ∧ l = (List.range n.toNat).map (compN (nxF n.toNat E) LL LL.length))
theorem CompL.len {n x : Int} {E : List Ed} {l : List Int} (h : CompL n x E l) : l.length ≤ 100000 := by
  by_cases h0 : ckG n x E = 0
  · obtain ⟨LL, -, -, rfl⟩ := h.2 h0
    obtain ⟨h1, h2, -⟩ := ckG_pos h0
    simp; omega
  · rw [h.1 h0]; simp
theorem comp_p {A : Nat → Prop} (n x : Int) (ao : Option Addr) (c : Nat) (E : List Ed) (w : World) (hr : ERow A w ao c E) :
    Calls Try.prog 25 #[.agg #[.int .i64 n, .int .i64 x, .slice ao E.length c]] w fun e w' => Below w.heap.size w w' ∧ ∃ v l, e = .returned (.tuple #[v, .int .i64 (ckG n x E : Nat)]) ∧ IRow w' v l ∧ CompL n x E l := by
  refine (Components_any n x ao c E w hr).mono ?_
  rintro e w' ⟨hb, ⟨h, rfl⟩ | ⟨h0, t, us, LL, g, rfl, hv, hg, hL, hs, hN, -⟩⟩
  · exact ⟨hb, _, [], rfl, IRow.nil _, fun _ => rfl, fun q => (h q).elim⟩
  · obtain ⟨hn1, hn2, -⟩ := ckG_pos h0
    obtain ⟨P, rfl⟩ := Int.eq_ofNat_of_zero_le (show 0 ≤ n by omega)
    rw [Int.toNat_natCast] at hN hv hg hL
    rw [Int.toNat_natCast]
    refine ⟨hb, _, _, by rw [h0]; rfl, IRow.of_nm hN, fun q => (q h0).elim, fun _ => ⟨LL, ?_, hs, rfl⟩⟩
    exact cls_of (nxR_iff h0) (fun a b hb => ⟨nxF_src hb, nxF_lt h0 hb⟩) hv hg hL
set_option maxRecDepth 20000 in
set_option maxHeartbeats 4000000 in
theorem refComp_any {A : Nat → Prop} (n x : Int) (ao : Option Addr) (c : Nat) (E : List Ed) (l : List Int) (hl : CompL n x E l) (w : World) (hr : ERow A w ao c E) :
    Calls Try.prog 26 #[.agg #[.int .i64 n, .int .i64 x, .slice ao E.length c]] w fun e w' => Below w.heap.size w w' ∧ ∃ v, e = .returned (.tuple #[v, .int .i64 (ckG n x E : Nat)]) ∧ IRow w' v l := by
  have hA : Below w.heap.size w (w.alloc (Obj.cells #[.int .i64 n, .int .i64 x, .slice ao E.length c] 24)) := (Below.refl _ _).alloc (Nat.le_refl _) _
  have hX := GBx.new w n x ao E.length c
  have CC := fun W hW => refCheck_any n x ao c E W (hr.keep (B := A) (But.of_below (S := fun _ => False) (w' := W) hW) (fun _ h _ => ⟨id, h⟩))
  have KA' := Lib.hid hA; have HX := Lib.hid hX; have KC := Lib.hid CC; have HR := Lib.hid hr
  clear hA hX CC hr
  by_cases h0 : ckG n x E = 0
  rotate_left
  · obtain ⟨K, hK⟩ : ∃ K, ckG n x E = K := ⟨_, rfl⟩
    have HK := Lib.hid hK
    rw [hK] at h0
    have t1 : ((K : Int) != 0) = true := by rw [bne_iff_ne]; omega
    have H0 := Lib.hid h0
    clear h0 hK
    have k1 := KC.out _ KA'.out
    rw [HK.out] at k1
    have K1 := Lib.hid k1; clear k1 KC
    go_enter Try.func26, Try.ntmps26
    go_wp2_with (go_at_call 22; refine (K1.out).mono ?_; rintro e w1 ⟨rfl, hb⟩; refine Hid.out ?_)
    have HB := Lib.hid (Below.chain KA'.out hb); clear hb
    refine Lib.hid ?_
    go_wp2
    refine bodyPost_ret (by first | (simp [results, Try.results26, go_sem]; done) | (simp [results, Try.results26, go_sem]; rfl)) rfl ?_
    exact ⟨HB.out, _, by rw [HK.out], by rw [hl.1 (by rw [HK.out]; exact H0.out)]; exact IRow.nil _⟩
  · have k1 := KC.out _ KA'.out
    rw [h0] at k1
    have K1 := Lib.hid k1; clear k1
    obtain ⟨hn1, hn2, hpx⟩ := ckG_pos h0
    obtain ⟨P, rfl⟩ := Int.eq_ofNat_of_zero_le (show 0 ≤ n by omega)
    have hx := isPt_true hpx
    obtain ⟨rx, rfl⟩ := Int.eq_ofNat_of_zero_le (show 0 ≤ x by omega)
    obtain ⟨-, -, hlen, -⟩ := ckG_ok h0
    have H0 := Lib.hid h0; have HLEN := Lib.hid hlen; have HPX := Lib.hid hx
    have hre := fun W (hW : Below w.heap.size w W) => HR.out.keep (B := A) (But.of_below (S := fun _ => False) (w' := W) hW) (fun _ h _ => ⟨id, h⟩)
    have HRE := Lib.hid hre
    clear KC h0 hlen hx hpx hre
    go_enter Try.func26, Try.ntmps26
    go_wp2_with (go_at_call 22; refine (K1.out).mono ?_; rintro e w1 ⟨rfl, hb⟩; refine Hid.out ?_)
    have HB := Lib.hid (Below.chain KA'.out hb)
    have hx1 := HX.out.below hb
    have HX1 := Lib.hid hx1
    obtain ⟨y0, y1, y2, y3⟩ := hx1
    clear hb HX
    refine Lib.hid ?_
    have k2 := numbered_any P (rx : Int) ao c E w1 (HRE.out _ HB.out) H0.out
    have K2 := Lib.hid k2
    clear k2
    go_wp2_with (first | (go_at_call 56; refine (K2.out).mono ?_; rintro e w2 ⟨g, K, rfl, hN, hf, hb⟩; refine Hid.out ?_) | fail)
    have HB2 := Lib.hid (Below.chain HB.out hb); have HV := Lib.hid (And.intro hN hf)
    clear hb hN hf
    refine Lib.hid ?_
    go_wp2
    refine bodyPost_ret (by first | (simp [results, Try.results26, go_sem]; done) | (simp [results, Try.results26, go_sem]; rfl)) rfl ?_
    obtain ⟨hN, hf⟩ := HV.out
    obtain ⟨LL, C, hs, rfl⟩ := hl.2 H0.out
    refine ⟨HB2.out, _, by rw [H0.out]; rfl, ?_⟩
    rw [Int.toNat_natCast] at C ⊢
    rw [ref_end H0.out C hs hf] at hN
    exact IRow.of_nm hN
set_option maxRecDepth 100000 in
set_option maxHeartbeats 1000000 in
theorem graphComponents_walk {A : Nat → Prop} (n x : Int) (ao : Option Addr) (c : Nat) (E : List Ed) (w : World) (hr : ERow A w ao c E) :
    Calls Try.prog 5 #[.agg #[.int .i64 n, .int .i64 x, .slice ao E.length c]] w fun e w' => e = .returned (.bool true) ∧ Below w.heap.size w w' := by
  have hA : Below w.heap.size w (w.alloc (Obj.cells #[.int .i64 n, .int .i64 x, .slice ao E.length c] 24)) := (Below.refl _ _).alloc (Nat.le_refl _) _
  have hX := GBx.new w n x ao E.length c
  have HB := Lib.hid hA; have HX := Lib.hid hX
  have hR := fun W (hW : Below w.heap.size w W) => hr.keep (B := A) (But.of_below (S := fun _ => False) (w' := W) hW) (fun _ h _ => ⟨id, h⟩)
  have HR := Lib.hid hR
  have KF := Lib.hid (few_any n x ao c E (w.alloc (Obj.cells #[.int .i64 n, .int .i64 x, .slice ao E.length c] 24)))
  have KW := Lib.hid awake_any
  obtain ⟨y0, y1, y2, y3⟩ := hX
  clear hA hr hR
  cases hf : fewG n E with
  | false =>
    rw [hf] at KF
    go_enter Try.func5, Try.ntmps5
    go_wp2_with (first | (go_at_call 13; refine (KF.out).mono ?_; rintro e w1 ⟨rfl, hb⟩; refine Hid.out ?_) | fail)
    have HB1 := Lib.hid (Below.chain HB.out hb); clear hb HB
    refine Lib.hid ?_
    go_wp2_with (first | (go_at_call 14; refine (KW.out _).mono ?_; rintro e w2 ⟨rfl, hb⟩; refine Hid.out ?_) | fail)
    have HB2 := Lib.hid (Below.chain HB1.out hb); clear hb
    refine Lib.hid ?_
    go_wp2_with fail
    go_ret
    exact ⟨rfl, HB2.out⟩
  | true =>
    rw [hf] at KF
    go_enter Try.func5, Try.ntmps5
    go_wp2_with (first | (go_at_call 13; refine (KF.out).mono ?_; rintro e w1 ⟨rfl, hb⟩; refine Hid.out ?_) | fail)
    have hx1 := HX.out.below hb; clear HX; have HX := Lib.hid hx1
    have hb1 := Below.chain HB.out hb; clear HB; have HB := Lib.hid hb1
    clear hb hx1 hb1 y0 y1 y2 y3 KF
    have HK := Lib.hid (comp_p n x ao c E w1 (HR.out _ HB.out))
    obtain ⟨y0, y1, y2, y3⟩ := HX.out
    refine Lib.hid ?_
    go_wp2_with (first | (go_at_call 25; refine (HK.out).mono ?_; rintro e w2 ⟨hb, v0, l, rfl, ht, hl⟩; refine Hid.out ?_) | fail)
    have hx1 := HX.out.below hb; clear HX; have HX := Lib.hid hx1
    have hb1 := Below.chain HB.out hb; clear HB; have HB := Lib.hid hb1
    have T0 := Lib.hid ht; have HL := Lib.hid hl
    clear hb hx1 hb1 y0 y1 y2 y3 HK ht hl
    have HK := Lib.hid (refComp_any n x ao c E l HL.out w2 (HR.out _ HB.out))
    obtain ⟨y0, y1, y2, y3⟩ := HX.out
    refine Lib.hid ?_
    go_wp2_with (first | (go_at_call 26; refine (HK.out).mono ?_; rintro e w3 ⟨hb, v1, rfl, ht⟩; refine Hid.out ?_) | fail)
    have hx1 := HX.out.below hb; clear HX; have HX := Lib.hid hx1
    have hb1 := Below.chain HB.out hb; clear HB; have HB := Lib.hid hb1
    have T0x := Lib.hid (T0.out.below hb); clear T0; have T0 := T0x; clear T0x
    have T1 := Lib.hid ht
    clear hb hx1 hb1 y0 y1 y2 y3 HK ht
    have t1 : ((ckG n x E : Int) == (ckG n x E : Int)) = true := by simp
    refine Lib.hid ?_
    go_wp2_with (first | (go_at_call 14; refine (KW.out _).mono ?_; rintro e w6 ⟨rfl, hb⟩; refine Hid.out ?_) | fail)
    have hb1 := Below.chain HB.out hb; clear HB; have HB := Lib.hid hb1
    have HE := Lib.hid (eq_row (T0.out.below hb) (T1.out.below hb) HL.out.len)
    clear hb hb1
    refine Lib.hid ?_
    go_wp2_with (first | (go_at_call 27; refine (HE.out).mono ?_; rintro e w7 ⟨rfl, hb⟩; refine Hid.out ?_) | fail)
    have hb1 := Below.chain HB.out hb; clear HB; have HB := Lib.hid hb1
    clear hb hb1
    refine Lib.hid ?_
    go_wp2_with fail
    refine bodyPost_ret (by first | (simp [results, Try.results5, go_sem]; done) | (simp [results, Try.results5, go_sem]; rfl)) rfl ?_
    exact ⟨rfl, HB.out⟩
end Go.Proofs.Ytjjkabgbcflipaa
