import Derived.Test.YtjobmkdaaionlaaGreatDoorTu1
import Derived.Test.YtjobmkdaaionlaaGreatDoorCut37

set_option linter.unusedVariables false
/-
  Mathematics of LinearTurns: coefficients that are moved by a permutation.
-/
set_option linter.unusedSimpArgs false
namespace Go.Proofs.YtjobmkdaaionlaaGreatDoor
open Go Go.Proofs Go.RowKit

/-- A permutation of the numbers below n, and back. -/
structure Pm (n : Nat) (f g : Nat → Nat) : Prop where
  lt : ∀ i, i < n → f i < n
  gt : ∀ i, i < n → g i < n
  fg : ∀ i, i < n → f (g i) = i
  gf : ∀ i, i < n → g (f i) = i
theorem Pm.turn {n : Nat} {f g : Nat → Nat} (h : Pm n f g) : Pm n g f := ⟨h.gt, h.lt, h.gf, h.fg⟩
theorem Pm.inj {n : Nat} {f g : Nat → Nat} (h : Pm n f g) {i j : Nat} (hi : i < n) (hj : j < n) (e : f i = f j) : i = j := by
  rw [← h.gf i hi, ← h.gf j hj, e]
def toF (n s i : Nat) : Nat := (i + s) % n
def baF (n s i : Nat) : Nat := (i + n - s % n) % n
theorem pm_turn {n s : Nat} (hn : 0 < n) : Pm n (toF n s) (baF n s) := by
  have hr := Nat.mod_lt s hn
  have e1 : ∀ i, i < n → toF n s i = if i + s % n < n then i + s % n else i + s % n - n := fun i hi => by
    unfold toF
    rw [Nat.add_mod, Nat.mod_eq_of_lt hi]
    split
    · exact Nat.mod_eq_of_lt (by assumption)
    · rw [Nat.mod_eq_sub_mod (by omega), Nat.mod_eq_of_lt (by omega)]
  have e2 : ∀ i, i < n → baF n s i = if s % n ≤ i then i - s % n else i + n - s % n := fun i hi => by
    unfold baF
    split
    · rw [Nat.mod_eq_sub_mod (by omega), Nat.mod_eq_of_lt (by omega)]; omega
    · exact Nat.mod_eq_of_lt (by omega)
  generalize s % n = r at *
  refine ⟨fun i hi => ?_, fun i hi => ?_, fun i hi => ?_, fun i hi => ?_⟩
  · rw [e1 i hi]; split <;> omega
  · rw [e2 i hi]; split <;> omega
  · have hb : baF n s i < n := by rw [e2 i hi]; split <;> omega
    rw [e1 _ hb, e2 i hi]
    repeat' split
    all_goals omega
  · have hb : toF n s i < n := by rw [e1 i hi]; split <;> omega
    rw [e2 _ hb, e1 i hi]
    repeat' split
    all_goals omega
/-- The list of the places. -/
def fL (f : Nat → Nat) (j : Nat) : List Int := (List.range j).map fun i => ((f i : Nat) : Int)
theorem fL_len (f : Nat → Nat) (j : Nat) : (fL f j).length = j := by simp [fL]
theorem fL_getD (f : Nat → Nat) {i j : Nat} (h : i < j) : (fL f j).getD i 0 = ((f i : Nat) : Int) := by simp [fL, h]
theorem fL_snoc (f : Nat → Nat) (j : Nat) : fL f (j + 1) = fL f j ++ [((f j : Nat) : Int)] := by unfold fL; rw [List.range_succ, List.map_append]; rfl
theorem fL_mem {f g : Nat → Nat} {n : Nat} (h : Pm n f g) {j : Nat} (hj : j ≤ n) : ∀ t ∈ fL f j, 0 ≤ t ∧ t < (n : Int) := fun t ht => by
  unfold fL at ht
  obtain ⟨i, hi, rfl⟩ := List.mem_map.1 ht
  have := h.lt i (by have := List.mem_range.1 hi; omega)
  omega
/-- The list in which place q has the element of place g q. -/
def pmL (l : List ByteArray) (g : Nat → Nat) (n : Nat) : List ByteArray := (List.range n).map fun q => l.getD (g q) ⟨#[]⟩
theorem pmL_len (l : List ByteArray) (g : Nat → Nat) (n : Nat) : (pmL l g n).length = n := by simp [pmL]
theorem pmL_getD (l : List ByteArray) (g : Nat → Nat) {n q : Nat} (h : q < n) : (pmL l g n).getD q ⟨#[]⟩ = l.getD (g q) ⟨#[]⟩ := by simp [pmL, h]
theorem pmL_mem {l : List ByteArray} {g : Nat → Nat} {n : Nat} (hl : l.length = n) (hg : ∀ i, i < n → g i < n) : ∀ s ∈ pmL l g n, s ∈ l := fun s hs => by
  unfold pmL at hs
  obtain ⟨i, hi, rfl⟩ := List.mem_map.1 hs
  have := hg i (List.mem_range.1 hi)
  rw [getD_get l (by omega)]
  exact List.getElem_mem _
theorem list_getD_ext {l m : List ByteArray} (hl : l.length = m.length) (h : ∀ q, q < m.length → l.getD q ⟨#[]⟩ = m.getD q ⟨#[]⟩) : l = m := by
  refine List.ext_getElem hl fun i h1 h2 => ?_
  have := h i h2
  rwa [getD_get l h1, getD_get m h2] at this
theorem pmL_back {l : List ByteArray} {f g : Nat → Nat} {n : Nat} (h : Pm n f g) (hl : l.length = n) : pmL (pmL l g n) f n = l :=
  list_getD_ext (by rw [pmL_len]; exact hl.symm) fun q hq => by
    rw [hl] at hq
    rw [pmL_getD _ f hq, pmL_getD _ g (h.lt q hq), h.gf q hq]
theorem getD_set_same (l : List ByteArray) {i : Nat} (h : i < l.length) (v : ByteArray) : (l.set i v).getD i ⟨#[]⟩ = v := by
  rw [getD_get _ (by simpa using h)]; simp
theorem getD_set_other (l : List ByteArray) {i j : Nat} (h : i ≠ j) (v : ByteArray) : (l.set i v).getD j ⟨#[]⟩ = l.getD j ⟨#[]⟩ := by
  simp [List.getD_eq_getElem?_getD, List.getElem?_set_ne h]
theorem z0_addT {k : Nat} {s : ByteArray} (h : Good k s) : addT z0 s = s := by
  unfold addT
  rw [rv_z0, Rat.zero_add, h.lit]
theorem movS_perm {l : List ByteArray} {f g : Nat → Nat} {n : Nat} (hp : Pm n f g) (hl : l.length = n) (hg : ∀ s ∈ l, Good 100 s) : ∀ j, j ≤ n → (movS l (fL f n) n j).length = n ∧ (∀ i, i < j → (movS l (fL f n) n j).getD (f i) ⟨#[]⟩ = l.getD i ⟨#[]⟩) ∧
    ∀ q, q < n → (∀ i, i < j → f i ≠ q) → (movS l (fL f n) n j).getD q ⟨#[]⟩ = z0
  | 0, _ => ⟨by simp [movS], fun i h => absurd h (by omega), fun q hq _ => by simp [movS, hq]⟩
  | j + 1, hj => by
    obtain ⟨h1, h2, h3⟩ := movS_perm hp hl hg j (by omega)
    have e : movS l (fL f n) n (j + 1) = (movS l (fL f n) n j).set (f j) (l.getD j ⟨#[]⟩) := by
      show (movS l (fL f n) n j).set ((fL f n).getD j 0).toNat (addT ((movS l (fL f n) n j).getD ((fL f n).getD j 0).toNat ⟨#[]⟩) (l.getD j ⟨#[]⟩)) = _
      rw [fL_getD f (show j < n by omega), Int.toNat_natCast, h3 (f j) (hp.lt j (by omega)) (fun i hi e => absurd (hp.inj (by omega) (by omega) e) (by omega)), getD_get l (by omega), z0_addT (hg _ (List.getElem_mem _))]
    rw [e]
    refine ⟨by rw [List.length_set]; exact h1, fun i hi => ?_, fun q hq hne => ?_⟩
    · rcases Nat.lt_or_ge i j with h | h
      · rw [getD_set_other _ (fun e => absurd (hp.inj (show j < n by omega) (by omega) e) (by omega)), h2 i h]
      · obtain rfl : i = j := by omega
        rw [getD_set_same _ (by rw [h1]; exact hp.lt i (by omega))]
    · rw [getD_set_other _ (hne j (by omega)), h3 q hq (fun i hi => hne i (by omega))]
theorem movS_pmL {l : List ByteArray} {f g : Nat → Nat} {n : Nat} (hp : Pm n f g) (hl : l.length = n) (hg : ∀ s ∈ l, Good 100 s) : movS l (fL f n) n n = pmL l g n := by
  obtain ⟨h1, h2, -⟩ := movS_perm hp hl hg n (Nat.le_refl _)
  refine list_getD_ext (by rw [h1, pmL_len]) fun q hq => ?_
  rw [pmL_len] at hq
  rw [pmL_getD _ g hq]
  have := h2 (g q) (hp.gt q hq)
  rwa [hp.fg q hq] at this
theorem shortS_of {l : List ByteArray} {k : ByteArray} (h : linE l k = 0) : ∀ s ∈ l ++ [k], shortS s = true := fun s hs => by
  unfold linE at h
  split at h
  · cases h
  · rw [firstE_iff] at h
    exact (numE_zero (h s hs)).2
theorem renO_perm {l : List ByteArray} {k : ByteArray} {f g : Nat → Nat} {n : Nat} (hp : Pm n f g) (hl : l.length = n) (h0 : linE l k = 0) : renO l k (fL f n) (n : Int) = ⟨pmL l g n, k, 0⟩ := by
  obtain ⟨g1, g2⟩ := linE_zero h0
  have hg : ∀ s ∈ l, Good 100 s := fun s hs => g2 s (List.mem_append_left _ hs)
  have hm : movL l (fL f n) n (nz l) = pmL l g n := by
    have := movS_eq hg (fL f n) n (fL_mem hp (Nat.le_refl _)) (by rw [fL_len, hl]) l.length (Nat.le_refl _)
    rw [hl, movS_pmL hp hl hg] at this
    rw [this]
    unfold nz
    rw [hl]
  unfold renO
  rw [if_pos h0, if_pos (by unfold sizeB; simp; omega), if_pos (by rw [fL_len, hl]), if_pos (by
    rw [List.all_eq_true]
    intro t ht
    have := fL_mem hp (Nat.le_refl _) t ht
    simp only [Bool.and_eq_true, decide_eq_true_eq]
    exact this), Int.toNat_natCast, hm]
  unfold exprO
  rw [if_pos]
  rw [List.all_eq_true]
  intro s hs
  rcases List.mem_append.1 hs with h | h
  · exact shortS_of h0 s (List.mem_append_left _ (pmL_mem hl hp.gt s h))
  · exact shortS_of h0 s (List.mem_append_right _ h)
theorem linE_perm {l : List ByteArray} {k : ByteArray} {g : Nat → Nat} {n : Nat} (hg : ∀ i, i < n → g i < n) (hl : l.length = n) (h0 : linE l k = 0) : linE (pmL l g n) k = 0 := by
  obtain ⟨g1, g2⟩ := linE_zero h0
  have hin : ∀ s ∈ pmL l g n ++ [k], s ∈ l ++ [k] := fun s hs => by
    rcases List.mem_append.1 hs with h | h
    · exact List.mem_append_left _ (pmL_mem hl hg s h)
    · exact List.mem_append_right _ h
  refine linE_short (m := 100) (by rw [pmL_len]; omega) (fun s hs => g2 s (hin s hs)) (by decide) ?_
  rw [List.all_eq_true]
  exact fun s hs => shortS_of h0 s (hin s hs)
theorem firstE_perm {p : List ByteArray} {g : Nat → Nat} {n : Nat} (hg : ∀ i, i < n → g i < n) (hl : p.length = n) (h0 : firstE p = 0) : firstE (pmL p g n) = 0 := by
  rw [firstE_iff] at h0 ⊢
  exact fun s hs => h0 s (pmL_mem hl hg s hs)
theorem dotQ_zeros : ∀ (n : Nat) (p : List ByteArray), dotQ (List.replicate n z0) p = 0
  | 0, p => rfl
  | n + 1, [] => rfl
  | n + 1, b :: p => by
    show rv z0 * rv b + dotQ (List.replicate n z0) p = 0
    rw [rv_z0, Rat.zero_mul, Rat.zero_add, dotQ_zeros n p]
theorem dotQ_put : ∀ {l p : List ByteArray} {i : Nat} {v : ByteArray}, l.length = p.length → i < l.length → l.getD i ⟨#[]⟩ = z0 → dotQ (l.set i v) p = dotQ l p + rv v * rv (p.getD i ⟨#[]⟩)
  | [], _, _, _, _, h, _ => by simp at h
  | a :: l, [], _, _, h, _, _ => by simp at h
  | a :: l, b :: p, 0, v, _, _, h => by
    have ha : a = z0 := h
    show rv v * rv b + dotQ l p = (rv a * rv b + dotQ l p) + rv v * rv b
    rw [ha, rv_z0, Rat.zero_mul, Rat.zero_add, Rat.add_comm]
  | a :: l, b :: p, i + 1, v, h1, h2, h3 => by
    show rv a * rv b + dotQ (l.set i v) p = (rv a * rv b + dotQ l p) + rv v * rv (p.getD i ⟨#[]⟩)
    rw [dotQ_put (l := l) (p := p) (i := i) (v := v) (by simpa using h1) (by simpa using h2) h3, Rat.add_assoc]
theorem dotQ_perm {l p : List ByteArray} {f g : Nat → Nat} {n : Nat} (hp : Pm n f g) (hl : l.length = n) (hq : p.length = n) (hg : ∀ s ∈ l, Good 100 s) : dotQ (pmL l g n) (pmL p g n) = dotQ l p := by
  have key : ∀ j, j ≤ n → dotQ (movS l (fL f n) n j) (pmL p g n) = dotQ (l.take j) (p.take j) := by
    intro j
    induction j with
    | zero => intro _; exact dotQ_zeros _ _
    | succ j ih =>
      intro hj
      obtain ⟨h1, -, h3⟩ := movS_perm hp hl hg j (by omega)
      have h4 := h3 (f j) (hp.lt j (by omega)) (fun i hi e => absurd (hp.inj (by omega) (by omega) e) (by omega))
      have e : movS l (fL f n) n (j + 1) = (movS l (fL f n) n j).set (f j) (l.getD j ⟨#[]⟩) := by
        show (movS l (fL f n) n j).set ((fL f n).getD j 0).toNat (addT ((movS l (fL f n) n j).getD ((fL f n).getD j 0).toNat ⟨#[]⟩) (l.getD j ⟨#[]⟩)) = _
        rw [fL_getD f (show j < n by omega), Int.toNat_natCast, h4, getD_get l (by omega), z0_addT (hg _ (List.getElem_mem _))]
      rw [e, dotQ_put (by rw [h1, pmL_len]) (by rw [h1]; exact hp.lt j (by omega)) h4, ih (by omega), pmL_getD p g (hp.lt j (by omega)), hp.gf j (by omega)]
      rw [← List.take_append_getElem (show j < l.length by omega), ← List.take_append_getElem (show j < p.length by omega), dotQ_snoc _ _ _ _ (by simp; omega), getD_get l (by omega), getD_get p (by omega)]
  have := key n (Nat.le_refl _)
  rwa [movS_pmL hp hl hg, List.take_of_length_le (by omega), List.take_of_length_le (by omega)] at this
theorem valQ_perm {l p : List ByteArray} {k : ByteArray} {f g : Nat → Nat} {n : Nat} (hp : Pm n f g) (hl : l.length = n) (hq : p.length = n) (hg : ∀ s ∈ l, Good 100 s) : valQ (pmL l g n) k (pmL p g n) = valQ l k p := by
  unfold valQ; rw [dotQ_perm hp hl hq hg]
/-- The point while it is written. -/
def othS (p : List ByteArray) (f : Nat → Nat) (n : Nat) : Nat → List ByteArray
  | 0 => List.replicate n ⟨#[]⟩
  | j + 1 => (othS p f n j).set (f j) (p.getD j ⟨#[]⟩)
theorem othS_len (p : List ByteArray) (f : Nat → Nat) (n : Nat) : ∀ j, (othS p f n j).length = n
  | 0 => by simp [othS]
  | j + 1 => by unfold othS; rw [List.length_set]; exact othS_len p f n j
theorem othS_get {p : List ByteArray} {f g : Nat → Nat} {n : Nat} (hp : Pm n f g) : ∀ j, j ≤ n → ∀ i, i < j → (othS p f n j).getD (f i) ⟨#[]⟩ = p.getD i ⟨#[]⟩
  | 0, _, i, h => absurd h (by omega)
  | j + 1, hj, i, hi => by
    unfold othS
    rcases Nat.lt_or_ge i j with h | h
    · rw [getD_set_other _ (fun e => absurd (hp.inj (show j < n by omega) (by omega) e) (by omega)), othS_get hp j (by omega) i h]
    · obtain rfl : i = j := by omega
      rw [getD_set_same _ (by rw [othS_len]; exact hp.lt i (by omega))]
theorem othS_pmL {p : List ByteArray} {f g : Nat → Nat} {n : Nat} (hp : Pm n f g) : othS p f n n = pmL p g n := by
  refine list_getD_ext (by rw [othS_len, pmL_len]) fun q hq => ?_
  rw [pmL_len] at hq
  rw [pmL_getD _ g hq]
  have := othS_get (p := p) hp n (Nat.le_refl _) (g q) (hp.gt q hq)
  rwa [hp.fg q hq] at this
end Go.Proofs.YtjobmkdaaionlaaGreatDoor

/-
  linear: the reference's Rename.
-/
set_option linter.unusedSimpArgs false
namespace Go.Proofs.YtjobmkdaaionlaaGreatDoor
open Go Go.Proofs Go.RowKit

def inB (n : Int) (t : Int) : Bool := decide (0 ≤ t) && decide (t < n)
theorem inB_true {n t : Int} (h : inB n t = true) : 0 ≤ t ∧ t < n := by unfold inB at h; simpa using h
theorem inB_false {n t : Int} (h : inB n t = false) : t < 0 ∨ n ≤ t := by unfold inB at h; simp at h; omega
theorem all_inB {ts : List Int} {n : Int} (h : ∀ i, i < ts.length → inB n (ts.getD i 0) = true) : ts.all (inB n) = true := by
  rw [List.all_eq_true]
  intro t ht
  obtain ⟨i, hi, rfl⟩ := List.mem_iff_getElem.1 ht
  have := h i hi
  rwa [show ts.getD i 0 = ts[i] by simp [hi]] at this

end Go.Proofs.YtjobmkdaaionlaaGreatDoor

/-
  linear: Rename in all cases.
-/
set_option linter.unusedSimpArgs false
namespace Go.Proofs.YtjobmkdaaionlaaGreatDoor
open Go Go.Proofs Go.RowKit

structure RnC (w W : World) (ao : Option Addr) (n c : Nat) (k : ByteArray) (tp : Option Addr) (nt tc : Nat) : Prop where
  x : Bx2 W w.heap.size (.slice ao n c) (.string k)
  t : Boxed W (w.heap.size + 1) 64 (.slice tp nt tc)
  r : Boxed2 W (w.heap.size + 1 + 1) 27 (.slice none 0 0) (.string ⟨#[]⟩)
  b : Below w.heap.size w W
theorem RnC.mono {w W W' : World} {ao : Option Addr} {n c : Nat} {k : ByteArray} {tp : Option Addr} {nt tc : Nat} (h : RnC w W ao n c k tp nt tc) (g : Below W.heap.size W W') : RnC w W' ao n c k tp nt tc :=
  ⟨h.x.mono g, boxed_below h.t g, boxed2_below h.r g, Below.chain h.b g⟩
theorem RnC.new (w : World) (ao : Option Addr) (n c : Nat) (k : ByteArray) (tp : Option Addr) (nt tc : Nat) :
    RnC w (((w.alloc (Obj.cells #[.slice ao n c, .string k] 27)).alloc (Obj.cells #[.slice tp nt tc] 64)).alloc (Obj.cells #[.slice none 0 0, .string ⟨#[]⟩] 27)) ao n c k tp nt tc := by
  have h1 := Bx2.new w (.slice ao n c) (.string k) 27
  have h2 := Boxed.new (w.alloc (Obj.cells #[.slice ao n c, .string k] 27)) 64 (.slice tp nt tc)
  have h3 := Boxed2.new ((w.alloc (Obj.cells #[.slice ao n c, .string k] 27)).alloc (Obj.cells #[.slice tp nt tc] 64)) 27 (.slice none 0 0) (.string ⟨#[]⟩)
  simp only [World.size_alloc] at h2 h3
  exact ⟨(h1.over _).over _, h2.alloc _, h3, (((Below.refl _ _).alloc (Nat.le_refl _) _).alloc (by simp) _).alloc (by simp; omega) _⟩

set_option maxRecDepth 20000 in
set_option maxHeartbeats 8000000 in
theorem linRename (l : List ByteArray) (k : ByteArray) (ao : Option Addr) (c : Nat) (ts : List Int) (tp : Option Addr) (tc : Nat) (n : Int) (w : World)
    (hr : SRow w ao c l) (hz : ∀ s ∈ l ++ [k], s.size ≤ 1200000) (hn : l.length ≤ 1200000) (ht : IRow w tp tc ts) (htn : ts.length ≤ 1200000) (htab : Lib.TabIs Tryz.prog w "internal/strconv.uint64pow10" .u64 Lib.pow10Tab) :
    Calls Tryz.prog 36 #[.agg #[.slice ao l.length c, .string k], .slice tp ts.length tc, .int .i64 n] w (LinRet w.heap.size (renO l k ts n) w) := by
  have hT := Lib.tabBelow_of_tabIs htab
  have CH := fun (W : World) (hW : Below w.heap.size w W) => linCheck l k ao c W (hr.mono hW) hz hn (hT.on hW).here
  have CS := fun (W : World) => isSize_any n W
  have hcs := linE_cases l k
  have V0 := RnC.new w ao l.length c k tp ts.length tc
  have hren : renO l k ts n = if linE l k = 0 then (if sizeB n = true then (if ts.length = l.length then (if ts.all (inB n) = true then exprO (movL l ts n.toNat (nz l)) k else .bad 6) else .bad 15) else .bad 2) else .bad (linE l k) := rfl
  rw [hren]
  clear hren
  by_cases h0 : linE l k = 0
  · rw [if_pos h0]
    by_cases hs : sizeB n = true
    · rw [if_pos hs]
      obtain ⟨m, rfl⟩ : ∃ m : Nat, n = (m : Int) := by unfold sizeB at hs; simp at hs; exact ⟨n.toNat, by omega⟩
      have hm : m ≤ 32 := by unfold sizeB at hs; simp at hs; omega
      rw [Int.toNat_natCast]
      by_cases hlen : ts.length = l.length
      · rw [if_pos hlen]
        by_cases hall : ts.all (inB (m : Int)) = true
        · rw [if_pos hall]
          have hin : ∀ t ∈ ts, 0 ≤ t ∧ t < (m : Int) := fun t h => inB_true (List.all_eq_true.1 hall t h)
          rw [hlen]
          exact linRename_good l k ao c ts tp tc m w hr hz hn ht h0 hm hlen hin htab
        · rw [if_neg hall]
          have htow : ∀ W, Below w.heap.size w W → ∀ j (hj : j < l.length), ∃ b off, tp = some ⟨b, off, none⟩ ∧ W.cell? ⟨b, off + j, none⟩ = some (.int .i64 (ts.getD j 0)) := fun W hW j hj => by
            obtain ⟨b, off, e, h1, h2⟩ := ht.get j (by omega)
            have e2 : ts.getD j 0 = ts[j]'(by omega) := by simp [show j < ts.length by omega]
            exact ⟨b, off, e, by rw [e2]; exact (hW.cell (p := ⟨b, off + j, none⟩) h1).trans h2⟩
          have hno : ¬ ∀ i, i < l.length → inB (m : Int) (ts.getD i 0) = true := fun h => hall (all_inB (fun i hi => h i (by omega)))
          rw [h0] at CH
          rw [hs] at CS
          rw [hlen] at V0 ⊢
          have KH := Lib.hid CH; have KS := Lib.hid CS; have HTOW := Lib.hid htow; have HNO := Lib.hid hno
          clear CH CS htow hno hr hz ht htn h0 hs hall hlen hT htab hcs
          generalize l.length = nl at *
          go_enter Tryz.func36, Tryz.ntmps36
          go_wp2_with (go_at_call 26; refine (KH.out _ V0.b).mono ?_; rintro e w1 ⟨rfl, hb1⟩; refine Hid.out ?_)
          have V1 := V0.mono hb1
          clear hb1 V0
          have x0 := V1.x.c0; have x4 := V1.x.lt; have p0 := V1.t.cell; have p4 := V1.t.lt
          refine Lib.hid ?_
          go_wp2_with (go_at_call 44; refine (KS.out _).mono ?_; rintro e w1 ⟨rfl, h⟩; subst h; refine Hid.out ?_)
          refine Lib.hid ?_
          have HV := Lib.hid V1; clear V1
          go_wp2_with fail
          go_loopw [35] (fun iv wr => ∃ j : Nat, j ≤ nl ∧ iv = .int .i64 (j : Int) ∧ wr = w1 ∧ ∀ i, i < j → inB (m : Int) (ts.getD i 0) = true) (fun iv _ => nl - (intOf iv).toNat)
          case atStart => exact ⟨0, Nat.zero_le _, rfl, rfl, fun i h => absurd h (Nat.not_lt_zero i)⟩
          case round =>
            obtain ⟨j, hj, rfl, hwr, hpre⟩ := hrel
            obtain hwr2 : w1 = wr := hwr.symm
            clear hwr
            subst hwr2
            by_cases hlt : j < nl
            · obtain ⟨tb, tof, rfl, hct⟩ := HTOW.out w1 HV.out.b j hlt
              have hj0 : (0 : Int) ≤ (j : Int) := by omega
              have hj1 : (j : Int) < (nl : Int) := by omega
              cases hq : inB (m : Int) (ts.getD j 0)
              · have hbad := inB_false hq
                clear hpre hq
                generalize ts.getD j 0 = t at *
                by_cases hd0 : t < 0
                · have hd1 : decide (t < 0) = true := by simpa using hd0
                  clear hbad
                  have V1 := HV.out
                  have z0 := V1.r.bx.c0; have z1 := V1.r.bx.c1; have z2 := V1.r.bx.f0; have z3 := V1.r.bx.f1; have z4 := V1.r.bx.lt
                  have q := box2 V1.r.bx.c0 V1.r.bx.c1 (.slice none 0 0) (.string ⟨#[]⟩)
                  have HBB := Lib.hid (below2 (p := w.heap.size + 1 + 1) V1.b (by omega) (.slice none 0 0) (.string ⟨#[]⟩))
                  clear V1
                  go_wp2
                  obtain ⟨q1, q2⟩ := q
                  refine bodyPost_ret (by simp [results, Tryz.results36, go_sem, q1, q2]; rfl) rfl ?_
                  exact ⟨none, 0, rfl, RowB.nil _ _, HBB.out⟩
                · have hd1 : decide (t < 0) = false := by simpa using hd0
                  have hd2 : decide ((m : Int) ≤ t) = true := by simp; omega
                  clear hbad
                  have V1 := HV.out
                  have z0 := V1.r.bx.c0; have z1 := V1.r.bx.c1; have z2 := V1.r.bx.f0; have z3 := V1.r.bx.f1; have z4 := V1.r.bx.lt
                  have q := box2 V1.r.bx.c0 V1.r.bx.c1 (.slice none 0 0) (.string ⟨#[]⟩)
                  have HBB := Lib.hid (below2 (p := w.heap.size + 1 + 1) V1.b (by omega) (.slice none 0 0) (.string ⟨#[]⟩))
                  clear V1
                  go_wp2
                  obtain ⟨q1, q2⟩ := q
                  refine bodyPost_ret (by simp [results, Tryz.results36, go_sem, q1, q2]; rfl) rfl ?_
                  exact ⟨none, 0, rfl, RowB.nil _ _, HBB.out⟩
              · obtain ⟨hi1, hi2⟩ := inB_true hq
                have hpre2 : ∀ i, i < j + 1 → inB (m : Int) (ts.getD i 0) = true := fun i hi => by
                  rcases Nat.lt_or_ge i j with h | h
                  · exact hpre i h
                  · rw [show i = j by omega]; exact hq
                have HP := Lib.hid hpre2
                clear hpre hq hpre2
                generalize hgt : ts.getD j 0 = t at *
                have hd1 : decide (t < 0) = false := by simp; omega
                have hd2 : decide ((m : Int) ≤ t) = false := by simp; omega
                clear hgt
                go_wp2
                go_roundw
                case rel => exact ⟨j + 1, by omega, by go_num, by first | rfl | trivial, HP.out⟩
                case measure => simp [intOf]; omega
            · exact absurd (fun i hi => hpre i (by omega)) HNO.out
      · rw [if_neg hlen]
        rw [h0] at CH
        rw [hs] at CS
        have KH := Lib.hid CH; have KS := Lib.hid CS
        have hlen2 : ¬ ((ts.length : Int) = (l.length : Int)) := by omega
        have hlen3 : ¬ ((l.length : Int) = (ts.length : Int)) := by omega
        clear CH CS hr hz hn ht htn h0 hs hT htab hcs
        generalize ts.length = nt at *
        generalize l.length = nl at *
        go_enter Tryz.func36, Tryz.ntmps36
        go_wp2_with (go_at_call 26; refine (KH.out _ V0.b).mono ?_; rintro e w1 ⟨rfl, hb1⟩; refine Hid.out ?_)
        have V1 := V0.mono hb1
        clear hb1 V0
        have x0 := V1.x.c0; have x4 := V1.x.lt; have p0 := V1.t.cell; have p4 := V1.t.lt
        refine Lib.hid ?_
        go_wp2_with (go_at_call 44; refine (KS.out _).mono ?_; rintro e w1 ⟨rfl, h⟩; subst h; refine Hid.out ?_)
        refine Lib.hid ?_
        have z0 := V1.r.bx.c0; have z1 := V1.r.bx.c1; have z2 := V1.r.bx.f0; have z3 := V1.r.bx.f1; have z4 := V1.r.bx.lt
        have q := box2 V1.r.bx.c0 V1.r.bx.c1 (.slice none 0 0) (.string ⟨#[]⟩)
        have HBB := Lib.hid (below2 (p := w.heap.size + 1 + 1) V1.b (by omega) (.slice none 0 0) (.string ⟨#[]⟩))
        clear V1
        go_wp2
        obtain ⟨q1, q2⟩ := q
        refine bodyPost_ret (by simp [results, Tryz.results36, go_sem, q1, q2]; rfl) rfl ?_
        exact ⟨none, 0, rfl, RowB.nil _ _, HBB.out⟩
    · rw [if_neg hs]
      rw [h0] at CH
      rw [show sizeB n = false by simpa using hs] at CS
      have KH := Lib.hid CH; have KS := Lib.hid CS
      clear CH CS hr hz hn ht htn h0 hT htab hcs hs
      generalize l.length = nl at *
      generalize ts.length = nt at *
      go_enter Tryz.func36, Tryz.ntmps36
      go_wp2_with (go_at_call 26; refine (KH.out _ V0.b).mono ?_; rintro e w1 ⟨rfl, hb1⟩; refine Hid.out ?_)
      have V1 := V0.mono hb1
      clear hb1 V0
      have x0 := V1.x.c0; have x4 := V1.x.lt; have p0 := V1.t.cell; have p4 := V1.t.lt
      refine Lib.hid ?_
      go_wp2_with (go_at_call 44; refine (KS.out _).mono ?_; rintro e w1 ⟨rfl, h⟩; subst h; refine Hid.out ?_)
      refine Lib.hid ?_
      have z0 := V1.r.bx.c0; have z1 := V1.r.bx.c1; have z2 := V1.r.bx.f0; have z3 := V1.r.bx.f1; have z4 := V1.r.bx.lt
      have q := box2 V1.r.bx.c0 V1.r.bx.c1 (.slice none 0 0) (.string ⟨#[]⟩)
      have HBB := Lib.hid (below2 (p := w.heap.size + 1 + 1) V1.b (by omega) (.slice none 0 0) (.string ⟨#[]⟩))
      clear V1
      go_wp2
      obtain ⟨q1, q2⟩ := q
      refine bodyPost_ret (by simp [results, Tryz.results36, go_sem, q1, q2]; rfl) rfl ?_
      exact ⟨none, 0, rfl, RowB.nil _ _, HBB.out⟩
  · rw [if_neg h0]
    clear hr hz hn ht htn CS hT htab
    generalize l.length = nl at *
    generalize ts.length = nt at *
    rcases hcs with h | h | h | h
    · exact absurd h h0
    all_goals
      rw [h] at CH ⊢
      clear h h0
      have KH := Lib.hid CH; clear CH
      go_enter Tryz.func36, Tryz.ntmps36
      go_wp2_with (go_at_call 26; refine (KH.out _ V0.b).mono ?_; rintro e w1 ⟨rfl, hb1⟩; refine Hid.out ?_)
      have V1 := V0.mono hb1
      clear hb1 V0
      have x0 := V1.x.c0; have x4 := V1.x.lt; have p0 := V1.t.cell; have p4 := V1.t.lt
      refine Lib.hid ?_
      have z0 := V1.r.bx.c0; have z1 := V1.r.bx.c1; have z2 := V1.r.bx.f0; have z3 := V1.r.bx.f1; have z4 := V1.r.bx.lt
      have q := box2 V1.r.bx.c0 V1.r.bx.c1 (.slice none 0 0) (.string ⟨#[]⟩)
      have HBB := Lib.hid (below2 (p := w.heap.size + 1 + 1) V1.b (by omega) (.slice none 0 0) (.string ⟨#[]⟩))
      clear V1
      go_wp2
      obtain ⟨q1, q2⟩ := q
      refine bodyPost_ret (by simp [results, Tryz.results36, go_sem, q1, q2]; rfl) rfl ?_
      exact ⟨none, 0, rfl, RowB.nil _ _, HBB.out⟩
end Go.Proofs.YtjobmkdaaionlaaGreatDoor

/-
  The law LinearTurns.
-/
set_option linter.unusedSimpArgs false
namespace Go.Proofs.YtjobmkdaaionlaaGreatDoor
open Go Go.Proofs Go.RowKit

/-- Numbers as cells. -/
def intCells (l : List Int) : List Value := l.map fun z => .int .i64 z
theorem infoInt64 : (Tryz.prog.info? 3).map (fun i => (i.zero, i.size, i.bytes)) = some (some (.int .i64 0), 1, 8) := by kernel_rfl
/-- A number that is appended to an own row, in a list of operations. -/
theorem wpList_append_int {ops : Array Oper} {rest : List Oper} {o : Oper} {a : Act} {W : World} {Q : Exit → Act → World → Prop}
    (hg : o.guard = none) (s x : Operand) (hop : o.op = Op.call { callee := Callee.builtin Builtin.append, args := #[s, x], argTypes := #[64, 64] })
    (base : Nat) (v : Value) (n : Nat) (l : List Int) (hn : l.length = n) (hs : a.eval s = v) (hown : W.ownsRow base 3 1 v n (intCells l)) (hl : n ≤ 1200000) (hbase : base ≤ W.heap.size)
    (ad : Nat) (z : Int) (hx : a.eval x = .slice (some ⟨ad, 0, none⟩) 1 1) (hc : W.cell? ⟨ad, 0, none⟩ = some (.int .i64 z))
    (hK : ∀ (g cap : Nat) (w9 : World), w9.ownsRow base 3 1 (.slice (some ⟨g, 0, none⟩) (n + 1) cap) (n + 1) (intCells (l ++ [z])) → W.grownBy w9 v.ownBlock → (v.ownBlock = some g ∨ g = W.heap.size) → wpList Tryz.prog ops Q rest (a.put o.dst (.slice (some ⟨g, 0, none⟩) (n + 1) cap)) w9) :
    wpList Tryz.prog ops Q (o :: rest) a W := by
  obtain ⟨i0, hi, hz0, hz1, hz2⟩ := info_parts infoInt64
  refine wpList_append_lies W hg s x 64 hop base 3 i0 (.int .i64 0) 1 8 Tryz.underlying64 hi hz0 hz1 hz2 rfl (by decide) v n (intCells l) hs hown ⟨ad, 0, none⟩ 1 1 [.int .i64 z] hx rfl ?_ (by intro u hu; simp at hu; subst hu; rfl) (by decide) (by unfold maxLen; omega) (by omega) hbase _ rfl ?_
  · intro j u hu
    match j, hu with
    | 0, hu => simp at hu; subst hu; rw [addr_zero]; exact hc
  · intro g cap w9 hown9 hgrow hgg hg9
    rw [show intCells l ++ [Value.int .i64 z] = intCells (l ++ [z]) by simp [intCells]] at hown9
    exact hK g cap w9 hown9 hgrow hgg
/-- A row of an own block stays where another block grows. -/
theorem owns_grown {W W' : World} {B : Nat} {T : TypeId} {v : Value} {n : Nat} {xs : List Value} {row : Option Nat} (h : W.ownsRow B T 1 v n xs) (g : W.grownBy W' row) (hne : ∀ b, v.ownBlock = some b → some b ≠ row) : W'.ownsRow B T 1 v n xs := by
  obtain ⟨h1, h2⟩ := h
  refine ⟨h1, h2.imp_right fun ⟨b, cap, cur, e, hb, hg, r⟩ => ⟨b, cap, cur, e, hb, ?_, r⟩⟩
  have := g.block b (Array.getElem?_eq_some_iff.1 hg).1 (hne b (by rw [e]; rfl))
  rw [this]; exact hg
theorem xblk_grown {T : TypeId} {W W' : World} {b : Nat} {l : List ByteArray} {row : Option Nat} (h : XBlk T W b l) (g : W.grownBy W' row) (hne : some b ≠ row) : XBlk T W' b l := by
  have hl := XBlk.lt h
  unfold XBlk at *
  rw [g.block b hl hne]; exact h
theorem owns_lt {W : World} {B : Nat} {T : TypeId} {v : Value} {n : Nat} {xs : List Value} {b : Nat} (h : W.ownsRow B T 1 v n xs) (e : v.ownBlock = some b) : B ≤ b ∧ b < W.heap.size := by
  rcases h.2 with ⟨rfl, -⟩ | ⟨g, cap, cur, rfl, hb, hg, -⟩
  · cases e
  · cases e; exact ⟨hb, (Array.getElem?_eq_some_iff.1 hg).1⟩
theorem irow_of_owns {W : World} {B : Nat} {ao : Option Addr} {n c : Nat} {l : List Int} (h : W.ownsRow B 3 1 (.slice ao n c) n (intCells l)) (hn : l.length = n) : IRow W ao c l := by
  rcases h.2 with ⟨e, h0⟩ | ⟨g, cap, cur, e, -, hg, h1, h2, h3, h4⟩
  · cases e
    exact ⟨by omega, by decide, .inl (List.length_eq_zero_iff.1 (by omega))⟩
  · cases e
    refine ⟨by omega, h2, .inr ⟨g, 0, rfl, (Array.getElem?_eq_some_iff.1 hg).1, fun k hk => ?_⟩⟩
    rw [Nat.zero_add, h.cellAt k (by omega)]
    simp [intCells, hk]
theorem right_one (l : List ByteArray) (k : ByteArray) (ao : Option Addr) (c : Nat) (p : List ByteArray) (po : Option Addr) (pc : Nat) (W : World) (q : Nat) (hq : W.heap.size = q)
    (hr : SRow W ao c l) (hz : ∀ s ∈ l ++ [k], s.size ≤ 1200000) (hn : l.length ≤ 1200000) (hp : SRow W po pc p) (hzp : ∀ s ∈ p, s.size ≤ 1200000) (hnp : p.length ≤ 1200000) :
    Calls Tryz.prog 38 #[.slice po p.length pc, .slice (some ⟨q, 0, none⟩) 1 1] (W.alloc (Obj.cells #[.slice ao l.length c, .string k] 27))
      (Bret (.bool (rightB [(l, k)] p)) (W.alloc (Obj.cells #[.slice ao l.length c, .string k] 27))) := by
  subst hq
  have hb : Below W.heap.size W (W.alloc (Obj.cells #[.slice ao l.length c, .string k] 27)) := (Below.refl _ _).alloc (Nat.le_refl _) _
  refine right_any [(l, k)] W.heap.size 1 p po pc _ (hp.mono hb) hzp hnp (by simp) ?_ ?_ ?_ (by simp) (by simp) (by simp)
  · intro i hi
    match i, hi with
    | 0, _ => exact ⟨ao, c, by go_cell, by go_cell, hr.mono hb⟩
  · intro x hx
    simp only [List.mem_cons, List.not_mem_nil, or_false] at hx
    subst hx; exact hz
  · intro x hx
    simp only [List.mem_cons, List.not_mem_nil, or_false] at hx
    subst hx; exact hn
theorem rightB_one {l p : List ByteArray} {k : ByteArray} (h : rightB [(l, k)] p = true) : l.length = p.length ∧ linE l k = 0 ∧ firstE p = 0 := by
  unfold rightB at h
  simp [rightOne] at h
  exact ⟨h.1.1, h.1.2, h.2⟩

theorem owns_below {W W' : World} {B : Nat} {T : TypeId} {v : Value} {n : Nat} {xs : List Value} (h : W.ownsRow B T 1 v n xs) (g : Below W.heap.size W W') : W'.ownsRow B T 1 v n xs := by
  obtain ⟨h1, h2⟩ := h
  refine ⟨h1, h2.imp_right fun ⟨b, cap, cur, e, hb, hg, r⟩ => ⟨b, cap, cur, e, hb, ?_, r⟩⟩
  rw [g.block b (Array.getElem?_eq_some_iff.1 hg).1]; exact hg
/-- The three lists of the law: places, places back, the point that is being written. -/
structure TB (B : Nat) (W : World) (p : List ByteArray) (f g : Nat → Nat) (n q j1 j2 j3 : Nat) (v1 v2 : Value) : Prop where
  r1 : W.ownsRow B 3 1 v1 j1 (intCells (fL f j1))
  r2 : W.ownsRow B 3 1 v2 j2 (intCells (fL g j2))
  x : XBlk 22 W q (othS p f n j3)
  s1 : v1.ownBlock ≠ some q
  s2 : v2.ownBlock ≠ some q
  s3 : ∀ b, v1.ownBlock = some b → v2.ownBlock ≠ some b
section
variable {B : Nat} {W W' : World} {p : List ByteArray} {f g : Nat → Nat} {n q j1 j2 j3 : Nat} {v1 v2 : Value}
theorem TB.mono (h : TB B W p f g n q j1 j2 j3 v1 v2) (hb : Below W.heap.size W W') : TB B W' p f g n q j1 j2 j3 v1 v2 :=
  ⟨owns_below h.r1 hb, owns_below h.r2 hb, h.x.keep hb, h.s1, h.s2, h.s3⟩
theorem TB.app1 (h : TB B W p f g n q j1 j2 j3 v1 v2) {gg cap : Nat} (hg : W.grownBy W' v1.ownBlock) (ho : W'.ownsRow B 3 1 (.slice (some ⟨gg, 0, none⟩) (j1 + 1) cap) (j1 + 1) (intCells (fL f j1 ++ [((f j1 : Nat) : Int)]))) (hgg : v1.ownBlock = some gg ∨ gg = W.heap.size) :
    TB B W' p f g n q (j1 + 1) j2 j3 (.slice (some ⟨gg, 0, none⟩) (j1 + 1) cap) v2 := by
  refine ⟨by rw [fL_snoc]; exact ho, owns_grown h.r2 hg (fun b hb e => h.s3 b e.symm hb), xblk_grown h.x hg (fun e => h.s1 e.symm), fun e => ?_, h.s2, fun b hb hb2 => ?_⟩
  · have e1 : gg = q := by simpa [Value.ownBlock] using e
    rcases hgg with h1 | h1
    · exact h.s1 (by rw [h1, e1])
    · have := XBlk.lt h.x; omega
  · have e1 : gg = b := by simpa [Value.ownBlock] using hb
    rcases hgg with h1 | h1
    · exact h.s3 b (by rw [h1, e1]) hb2
    · have := owns_lt h.r2 hb2; omega
theorem TB.app2 (h : TB B W p f g n q j1 j2 j3 v1 v2) {gg cap : Nat} (hg : W.grownBy W' v2.ownBlock) (ho : W'.ownsRow B 3 1 (.slice (some ⟨gg, 0, none⟩) (j2 + 1) cap) (j2 + 1) (intCells (fL g j2 ++ [((g j2 : Nat) : Int)]))) (hgg : v2.ownBlock = some gg ∨ gg = W.heap.size) :
    TB B W' p f g n q j1 (j2 + 1) j3 v1 (.slice (some ⟨gg, 0, none⟩) (j2 + 1) cap) := by
  refine ⟨owns_grown h.r1 hg (fun b hb e => h.s3 b hb e.symm), by rw [fL_snoc]; exact ho, xblk_grown h.x hg (fun e => h.s2 e.symm), h.s1, fun e => ?_, fun b hb hb2 => ?_⟩
  · have e1 : gg = q := by simpa [Value.ownBlock] using e
    rcases hgg with h1 | h1
    · exact h.s2 (by rw [h1, e1])
    · have := XBlk.lt h.x; omega
  · have e1 : gg = b := by simpa [Value.ownBlock] using hb2
    rcases hgg with h1 | h1
    · exact h.s3 b hb (by rw [h1, e1])
    · have := owns_lt h.r1 hb; omega
theorem TB.put (h : TB B W p f g n q j1 j2 j3 v1 v2) (hf : f j3 < n) : TB B (W.setCell ⟨q, f j3, none⟩ (.string (p.getD j3 ⟨#[]⟩))) p f g n q j1 j2 (j3 + 1) v1 v2 := by
  have hg : W.grownBy (W.setCell ⟨q, f j3, none⟩ (.string (p.getD j3 ⟨#[]⟩))) (some q) := grown_set (grown_refl W (some q)) _ _
  refine ⟨owns_grown h.r1 hg (fun b hb e => h.s1 (by rw [hb]; exact e)), owns_grown h.r2 hg (fun b hb e => h.s2 (by rw [hb]; exact e)), ?_, h.s1, h.s2, h.s3⟩
  exact h.x.set _ (by rw [othS_len]; exact hf) _
theorem TB.drew (h : TB B W p f g n q j1 j2 j3 v1 v2) : TB B W.drew p f g n q j1 j2 j3 v1 v2 := ⟨h.r1, h.r2, h.x, h.s1, h.s2, h.s3⟩
end

set_option maxRecDepth 20000 in
set_option maxHeartbeats 2000000 in
theorem lturns_walk (l : List ByteArray) (k : ByteArray) (ao : Option Addr) (c : Nat) (p : List ByteArray) (po : Option Addr) (pc : Nat) (s : Int) (w : World)
    (hr : SRow w ao c l) (hz : ∀ s ∈ l ++ [k], s.size ≤ 1200000) (hn : l.length ≤ 1200000) (hp : SRow w po pc p) (hzp : ∀ s ∈ p, s.size ≤ 1200000) (hnp : p.length ≤ 1200000) (hs0 : 0 ≤ s) (hs1 : s ≤ 255)
    (htab : Lib.TabIs Tryz.prog w "internal/strconv.uint64pow10" .u64 Lib.pow10Tab) :
    Calls Tryz.prog 11 #[.agg #[.slice ao l.length c, .string k], .slice po p.length pc, .int .u8 s] w fun e w' => e = .returned (.bool true) ∧ Below w.heap.size w w' := by
  have hT := Lib.tabBelow_of_tabIs htab
  have CA : ∀ W : World, Below w.heap.size w W → Calls Tryz.prog 13 #[] W (Bret (.bool true) W) := fun W hW => awake03 W (hT.on hW).here
  have CR := fun (W : World) (q : Nat) (hW : Below w.heap.size w W) (hq : W.heap.size = q) => right_one l k ao c p po pc W q hq (hr.mono hW) hz hn (hp.mono hW) hzp hnp
  have X := Bx2.new w (.slice ao l.length c) (.string k) 27
  have B : Below w.heap.size w (w.alloc (Obj.cells #[.slice ao l.length c, .string k] 27)) := (Below.refl _ _).alloc (Nat.le_refl _) _
  have x0 := X.c0; have x1 := X.c1; have x2 := X.lt
  have NB := fun (W : World) (hW : Below w.heap.size w W) => (Below.chain hW ((Below.refl W.heap.size W).alloc (Nat.le_refl _) (Obj.cells #[.slice ao l.length c, .string k] 27)))
  by_cases hrb : rightB [(l, k)] p = true ∧ 0 < p.length
  · obtain ⟨hrb, hp0⟩ := hrb
    obtain ⟨e1, e2, e5⟩ := rightB_one hrb
    rw [hrb] at CR
    obtain ⟨g1, g2⟩ := linE_zero e2
    have hgl : ∀ s ∈ l, Good 100 s := fun s hs => g2 s (List.mem_append_left _ hs)
    have gp := firstE_good e5
    obtain ⟨sn, rfl⟩ := Int.eq_ofNat_of_zero_le hs0
    have hpm := pm_turn (s := sn) hp0
    obtain ⟨i0, hi, hz0, hz1, hz2⟩ := info_parts infoRat
    have C1 := fun (W : World) (hW : Below w.heap.size w W) (tp : Option Addr) (tc : Nat) (ht : IRow W tp tc (fL (toF p.length sn) p.length)) => by
      have := linRename l k ao c (fL (toF p.length sn) p.length) tp tc (p.length : Int) W (hr.mono hW) hz hn ht (by rw [fL_len]; exact hnp) (hT.on hW).here
      rw [renO_perm hpm e1 e2, fL_len] at this
      exact this
    have C2 := fun (W : World) (hW : Below w.heap.size w W) (a1 : Option Addr) (c1 : Nat) (h1 : SRow W a1 c1 (pmL l (baF p.length sn) p.length)) (tp : Option Addr) (tc : Nat) (ht : IRow W tp tc (fL (baF p.length sn) p.length)) => by
      have := linRename (pmL l (baF p.length sn) p.length) k a1 c1 (fL (baF p.length sn) p.length) tp tc (p.length : Int) W h1 (fun s hs => by
        rcases List.mem_append.1 hs with h | h
        · exact hz s (List.mem_append_left _ (pmL_mem e1 hpm.gt s h))
        · exact hz s (List.mem_append_right _ h)) (by rw [pmL_len]; exact hnp) ht (by rw [fL_len]; exact hnp) (hT.on hW).here
      rw [renO_perm hpm.turn (pmL_len _ _ _) (linE_perm hpm.gt e1 e2), pmL_back hpm e1, fL_len, pmL_len] at this
      exact this
    have C3 := fun (W : World) (hW : Below w.heap.size w W) => linEval l k ao c p po pc W (hr.mono hW) hz hn (hp.mono hW) hzp hnp (hT.on hW).here
    rw [evO_val e2 e1 e5] at C3
    have C4 := fun (W : World) (hW : Below w.heap.size w W) (a1 : Option Addr) (c1 : Nat) (h1 : SRow W a1 c1 (pmL l (baF p.length sn) p.length)) (a2 : Option Addr) (c2 : Nat) (h2 : SRow W a2 c2 (pmL p (baF p.length sn) p.length)) => by
      have := linEval (pmL l (baF p.length sn) p.length) k a1 c1 (pmL p (baF p.length sn) p.length) a2 c2 W h1 (fun s hs => by
        rcases List.mem_append.1 hs with h | h
        · exact hz s (List.mem_append_left _ (pmL_mem e1 hpm.gt s h))
        · exact hz s (List.mem_append_right _ h)) (by rw [pmL_len]; exact hnp) h2 (fun s hs => hzp s (pmL_mem rfl hpm.gt s hs)) (by rw [pmL_len]; exact hnp) (hT.on hW).here
      rw [evO_val (linE_perm hpm.gt e1 e2) (by rw [pmL_len, pmL_len]) (firstE_perm hpm.gt rfl e5), valQ_perm hpm e1 rfl hgl, pmL_len, pmL_len] at this
      exact this
    have C5 := fun (W : World) (hW : Below w.heap.size w W) (a1 : Option Addr) (c1 : Nat) (h1 : SRow W a1 c1 l) => sameLin l k a1 ao c1 c W h1 (hr.mono hW) hn
    have hP : ∀ W, Below w.heap.size w W → ∀ j, j < p.length → ∃ b off, po = some ⟨b, off, none⟩ ∧ b < W.heap.size ∧ W.cell? ⟨b, off + j, none⟩ = some (.string (p.getD j ⟨#[]⟩)) := fun W hW j hj => by
      rw [getD_get p hj]; exact (hp.mono hW).get j hj
    have hrem1 : ∀ j : Nat, Int.tmod ((j : Int) + (sn : Int)) (p.length : Int) = ((toF p.length sn j : Nat) : Int) := fun j => by
      unfold toF; rw [← Int.natCast_add, ← Int.ofNat_tmod]
    have hrem2 : ∀ j : Nat, j < p.length → (Go.RowKit.wrap64 ((j : Int) + (p.length : Int) - (sn : Int) % (p.length : Int))).tmod (p.length : Int) = ((baF p.length sn j : Nat) : Int) := fun j hj => by
      have := Nat.mod_lt sn hp0
      have e9 : Go.RowKit.wrap64 ((j : Int) + (p.length : Int) - (sn : Int) % (p.length : Int)) = ((j + p.length - sn % p.length : Nat) : Int) := by
        rw [← Int.natCast_emod, ← Int.natCast_add, ← Int.natCast_sub (by omega)]
        unfold Go.RowKit.wrap64
        omega
      rw [e9]
      unfold baF
      rw [← Int.ofNat_tmod]
    have hsm : ∀ j : Nat, j < p.length → (0 : Int) ≤ Int.tmod (sn : Int) (p.length : Int) ∧ Int.tmod (sn : Int) (p.length : Int) < (p.length : Int) := fun j hj => by
      rw [← Int.ofNat_tmod]
      have := Nat.mod_lt sn hp0
      omega
    have hoth := othS_pmL (p := p) hpm
    have hpml : (pmL l (baF p.length sn) p.length).length = p.length := pmL_len _ _ _
    have hln := g1
    rw [e1] at hln
    have hto : ∀ j, j < p.length → toF p.length sn j < p.length := hpm.lt
    have hv := evV_cases (valQ l k p)
    clear hz hzp hgl g2 gp e2 e5 hT htab hr hp hrb hn hpm
    generalize valQ l k p = q1 at *
    unfold LinRet at C1 C2
    dsimp only at C1 C2
    rw [hpml] at C1
    generalize l.length = nl at *
    subst e1
    generalize pmL l (baF p.length sn) p.length = L2 at *
    generalize pmL p (baF p.length sn) p.length = P2 at *
    generalize p.length = n3 at *
    have hn0 : ((n3 : Int) == 0) = false := by rw [beq_eq_false_iff_ne]; omega
    have hn1 : ¬ ((n3 : Int) = 0) := by omega
    have KA := Lib.hid CA; have KR := Lib.hid CR; have KN := Lib.hid NB; have K1 := Lib.hid C1; have K2 := Lib.hid C2; have K3 := Lib.hid C3; have K4 := Lib.hid C4; have K5 := Lib.hid C5
    have HP := Lib.hid hP; have HO := Lib.hid hoth; have HPL := Lib.hid hpml; have HTO := Lib.hid hto; have HV := Lib.hid hv; have HR1 := Lib.hid hrem1; have HR2 := Lib.hid hrem2; have HSM := Lib.hid hsm
    clear CA CR NB C1 C2 C3 C4 C5 hP hoth hpml hto hv hrem1 hrem2 hsm g1
    go_enter Tryz.func11, Tryz.ntmps11
    go_wp2_with (go_at_call 38; refine (KR.out _ _ B (by simp)).mono ?_; rintro e w0 ⟨rfl, hb0⟩; refine Hid.out ?_)
    have N0 := Below.chain ((Below.refl _ _).alloc (Nat.le_refl _) (Obj.cells #[.slice ao n3 c, .string k] 27)) hb0
    have B0 := Below.chain B N0; have X0 := X.mono N0
    clear hb0 N0 B X x0 x1 x2
    have HB0 := Lib.hid B0; have HX0 := Lib.hid X0
    clear B0 X0
    refine Lib.hid ?_
    go_wp2_with (at_make; refine wpList_make_full _ rfl _ _ 25 rfl w0.heap.size 22 i0 (.string ⟨#[]⟩) 1 Tryz.underlying25 hi hz0 hz1 .i64 .i64 _ _ n3 rfl rfl ?a1 ?a2 ?a3 ?a4 ?a5 ?_)
    case a1 => rfl
    case a2 => rfl
    case a3 => rw [hz2]; omega
    case a4 => unfold maxLen; omega
    case a5 => exact Nat.le_refl _
    intro W0 hown hgr
    have hb0 := xblk_of_made hown
    have hB := below_of_grown hgr
    clear hown hgr
    have hq : w0.heap.size < W0.heap.size := XBlk.lt hb0
    generalize hgg : w0.heap.size = q at hb0 hq hB ⊢
    have HG := Lib.hid hgg; have HBM := Lib.hid hB; have HB1 := Lib.hid hb0; have HQ := Lib.hid hq; clear hgg hB hb0 hq
    go_wp2_with fail
    go_loopw [8, 9, 35] (fun tv bv iv wr => ∃ (j : Nat) (a1 a2 : Option Addr) (c1 c2 : Nat), j ≤ n3 ∧ tv = .slice a1 j c1 ∧ bv = .slice a2 j c2 ∧ iv = .int .i64 (j : Int) ∧ Below w0.heap.size w0 wr ∧ W0.heap.size ≤ wr.heap.size ∧ TB W0.heap.size wr p (toF n3 sn) (baF n3 sn) n3 q j j j (.slice a1 j c1) (.slice a2 j c2)) (fun _ _ iv _ => n3 - (intOf iv).toNat)
    case atStart =>
      refine ⟨0, none, none, 0, 0, Nat.zero_le _, rfl, rfl, rfl, ?_, Nat.le_refl _, ?_⟩
      · have := HBM.out; rwa [← HG.out] at this
      · exact ⟨World.ownsRow_nil .., World.ownsRow_nil .., HB1.out, by simp [Value.ownBlock], by simp [Value.ownBlock], fun b h => by simp [Value.ownBlock] at h⟩
    case round =>
      obtain ⟨j, a1, a2, c1, c2, hj, rfl, rfl, rfl, hB, hS0, hT⟩ := hrel
      have hBw := Below.chain HB0.out hB
      by_cases hlt : j < n3
      · have hr1 := HR1.out j; have hr2 := HR2.out j hlt
        obtain ⟨hs2, hs3⟩ := HSM.out j hlt
        have hto := HTO.out j hlt
        have HBq := Lib.hid hB; have HBw := Lib.hid hBw; have HTB := Lib.hid hT
        have HS := Lib.hid hS0
        have HTO1 := Lib.hid hto
        have A1 : Below w0.heap.size wr (wr.alloc (Obj.cells #[.int .i64 ((toF n3 sn j : Nat) : Int)] 3)) := (Below.refl _ _).alloc hB.size _
        have o0 := hT.mono ((Below.refl wr.heap.size wr).alloc (Nat.le_refl _) (Obj.cells #[.int .i64 ((toF n3 sn j : Nat) : Int)] 3))
        have hz1 : W0.heap.size ≤ (wr.alloc (Obj.cells #[.int .i64 ((toF n3 sn j : Nat) : Int)] 3)).heap.size := Nat.le_trans hS0 (by simp)
        have O0 := Lib.hid o0; have HZ1 := Lib.hid hz1; have HA1 := Lib.hid (hB.trans A1); have HBU := Lib.hid hB.size
        clear hB hBw hT o0 hz1 A1 hS0 hto
        go_wp2_with (first | (at_builtin; refine wpList_append_int rfl (.tmp 38) (.tmp 45) rfl W0.heap.size _ j (fL (toF n3 sn) j) (fL_len _ _) (by simp [Act.eval, Act.put]) O0.out.r1 (by omega) HZ1.out wr.heap.size ((toF n3 sn j : Nat) : Int) (by simp [Act.eval, Act.put]) (by go_cell) ?_; intro g3 cap3 w3 ho3 hg3 hgg3; refine Hid.out ?_) | fail)
        have T3 := O0.out.app1 hg3 ho3 hgg3
        have B3 := (HA1.out).grown hg3 (by have := HA1.out.size; omega) (fun b hb => by have := owns_lt O0.out.r1 hb; have := HQ.out; have := HG.out; omega)
        have z3 := Nat.le_trans HZ1.out hg3.size
        have o4 := T3.mono ((Below.refl w3.heap.size w3).alloc (Nat.le_refl _) (Obj.cells #[.int .i64 ((baF n3 sn j : Nat) : Int)] 3))
        have z4 : W0.heap.size ≤ (w3.alloc (Obj.cells #[.int .i64 ((baF n3 sn j : Nat) : Int)] 3)).heap.size := Nat.le_trans z3 (by simp)
        have A4 := B3.alloc B3.size (Obj.cells #[.int .i64 ((baF n3 sn j : Nat) : Int)] 3)
        have O4 := Lib.hid o4; have HZ4 := Lib.hid z4; have HA4 := Lib.hid A4
        clear T3 B3 z3 o4 z4 A4 ho3 hg3 hgg3 O0 HZ1 HA1
        refine Lib.hid ?_
        go_wp2_with (first | (at_builtin; refine wpList_append_int rfl (.tmp 47) (.tmp 58) rfl W0.heap.size _ j (fL (baF n3 sn) j) (fL_len _ _) (by simp [Act.eval, Act.put]) O4.out.r2 (by omega) HZ4.out w3.heap.size ((baF n3 sn j : Nat) : Int) (by simp [Act.eval, Act.put]) (by go_cell) ?_; intro g5 cap5 w5 ho5 hg5 hgg5; refine Hid.out ?_) | fail)
        have T5 := O4.out.app2 hg5 ho5 hgg5
        have B5 := (HA4.out).grown hg5 (by have := HA4.out.size; omega) (fun b hb => by have := owns_lt O4.out.r2 hb; have := HQ.out; have := HG.out; omega)
        have z5 := Nat.le_trans HZ4.out hg5.size
        have hx := T5.x
        have y0 := hx.cell (toF n3 sn j) (by rw [othS_len]; exact HTO1.out)
        have y1 := hx.frozen (toF n3 sn j)
        have y2 := hx.lt
        generalize (othS p (toF n3 sn) n3 j)[toF n3 sn j]'_ = old at y0
        obtain ⟨bp, op, hpo, hpl, hpc⟩ := HP.out w5 (Below.chain HB0.out B5) j hlt
        subst hpo
        have i0 : w5.cell? ⟨g3, j, none⟩ = some (.int .i64 ((toF n3 sn j : Nat) : Int)) := by
          rw [T5.r1.cellAt j (by omega)]
          simp [intCells, fL]
        have hto := HTO1.out
        have q0 : (0 : Int) ≤ (j : Int) := by omega
        have q1 : (j : Int) < (j : Int) + 1 := by omega
        have q2 : (j : Int) < (n3 : Int) := by omega
        have q3 : (0 : Int) ≤ ((toF n3 sn j : Nat) : Int) := by omega
        have q4 : ((toF n3 sn j : Nat) : Int) < (n3 : Int) := by omega
        have T6 := (T5.put hto).drew
        have HT6 := Lib.hid T6; have HB6 := Lib.hid B5; have HZ5 := Lib.hid z5
        clear ho5 hg5 hgg5 T5 B5 z5 T6 hx O4 HZ4 HA4 hto
        refine Lib.hid ?_
        go_wp2_with fail
        go_region
        all_goals
          go_wp2
          go_roundw
          case rel => exact ⟨j + 1, _, _, cap3, cap5, by omega, rfl, rfl, by go_num, (HB6.out.setCell (p := ⟨q, toF n3 sn j, none⟩) (by show w0.heap.size ≤ q; have := HG.out; omega) _).drew, Nat.le_trans HZ5.out (by simp), HT6.out⟩
          case measure => simp [intOf]; omega
      · have hjn : j = n3 := by omega
        subst hjn
        have hI1 : IRow wr a1 c1 (fL (toF j sn) j) := irow_of_owns hT.r1 (fL_len _ _)
        have hI2 : IRow wr a2 c2 (fL (baF j sn) j) := irow_of_owns hT.r2 (fL_len _ _)
        have hx := hT.x
        rw [HO.out] at hx
        have hl2 : P2.length = j := by rw [← HO.out, othS_len]
        have hR : SRow wr (some ⟨q, 0, none⟩) j P2 := hx.row (by omega) (by omega)
        have bX := HX0.out.mono hB
        have C1 := K1.out wr hBw a1 c1 hI1
        have x0 := bX.c0; have x1 := bX.c1; have x2 := bX.lt
        have HC1 := Lib.hid C1; have HI2 := Lib.hid hI2; have HR := Lib.hid hR; have HX := Lib.hid bX; have HBw := Lib.hid hBw
        have hv := HV.out
        generalize hv1 : evV q1 = v1 at *
        have HV1 := Lib.hid hv
        clear hI1 hI2 hR hx hl2 hT hB hBw C1 K1 bX hv hv1 HV hS0
        go_wp2_with (go_at_call 36; refine HC1.out.mono ?_; rintro e w3 ⟨a3, c3, rfl, r3, hb3⟩; refine Hid.out ?_)
        have N3 := nb hb3 (Obj.cells #[.slice a3 j c3, .string k] 27)
        have B3 := Below.chain HBw.out N3
        have bX3 := HX.out.mono N3
        have P3 := Bx2.new w3 (.slice a3 j c3) (.string k) 27
        have r3' := r3.1.mono ((Below.refl w3.heap.size w3).alloc (Nat.le_refl _) (Obj.cells #[.slice a3 j c3, .string k] 27))
        have HC2 := Lib.hid (K2.out _ B3 a3 c3 r3' a2 c2 (HI2.out.mono N3))
        have HR3 := Lib.hid (HR.out.mono N3); have HX3 := Lib.hid bX3; have HB3 := Lib.hid B3; have HP3 := Lib.hid P3; have HRW3 := Lib.hid r3'
        have y0 := P3.c0; have y1 := P3.c1; have y2 := P3.lt
        clear r3 hb3 N3 B3 bX3 P3 r3' K2 HI2 HR HX HBw HC1 x0 x1 x2
        refine Lib.hid ?_
        go_wp2_with (go_at_call 36; refine HC2.out.mono ?_; rintro e w4 ⟨a4, c4, rfl, r4, hb4⟩; refine Hid.out ?_)
        have N4 := nb hb4 (Obj.cells #[.slice a4 j c4, .string k] 27)
        have B4 := Below.chain HB3.out N4
        have bX4 := HX3.out.mono N4
        have bP4 := HP3.out.mono N4
        have P4 := Bx2.new w4 (.slice a4 j c4) (.string k) 27
        have r4' := r4.1.mono ((Below.refl w4.heap.size w4).alloc (Nat.le_refl _) (Obj.cells #[.slice a4 j c4, .string k] 27))
        have HR4 := Lib.hid (HR3.out.mono N4); have HX4 := Lib.hid bX4; have HB4 := Lib.hid B4; have HP4 := Lib.hid P4; have HRW4 := Lib.hid r4'; have HPP4 := Lib.hid bP4; have HRA4 := Lib.hid (HRW3.out.mono N4)
        have x0 := bX4.c0; have x1 := bX4.c1; have x2 := bX4.lt
        clear r4 hb4 N4 B4 bX4 bP4 P4 r4' HC2 HR3 HX3 HB3 HP3 HRW3 y0 y1 y2
        refine Lib.hid ?_
        go_wp2_with (go_at_call 32; refine (K3.out _ HB4.out).mono ?_; rintro e w5 ⟨rfl, hb5⟩; refine Hid.out ?_)
        have B5 := Below.chain HB4.out hb5
        have bP5 := HPP4.out.mono hb5
        have HC4 := Lib.hid (K4.out _ B5 a3 c3 (HRA4.out.mono hb5) (some ⟨q, 0, none⟩) j (HR4.out.mono hb5))
        have HX5 := Lib.hid (HX4.out.mono hb5); have HB5 := Lib.hid B5; have HP5 := Lib.hid (HP4.out.mono hb5); have HRW5 := Lib.hid (HRW4.out.mono hb5)
        have y0 := bP5.c0; have y1 := bP5.c1; have y2 := bP5.lt
        clear hb5 x0 x1 x2 B5 bP5 K3 K4 HR4 HX4 HB4 HP4 HRW4 HPP4 HRA4
        refine Lib.hid ?_
        go_wp2_with (go_at_call 32; refine HC4.out.mono ?_; rintro e w6 ⟨rfl, hb6⟩; refine Hid.out ?_)
        have B6 := Below.chain HB5.out hb6
        have bX6 := HX5.out.mono hb6; have bP6 := HP5.out.mono hb6
        have HC5 := Lib.hid (K5.out _ B6 a4 c4 (HRW5.out.mono hb6))
        have HB6 := Lib.hid B6
        have x0 := bX6.c0; have x1 := bX6.c1; have x2 := bX6.lt; have z0 := bP6.c0; have z1 := bP6.c1; have z2 := bP6.lt
        clear hb6 y0 y1 y2 B6 bX6 bP6 HX5 HB5 HP5 HRW5 HC4 K5
        refine Lib.hid ?_
        rcases HV1.out with ⟨rfl, -⟩ | rfl
        all_goals
          clear HV1
          go_wp2_with (go_at_call 18; refine HC5.out.mono ?_; rintro e w7 ⟨rfl, hb7⟩; refine Hid.out ?_)
          have BL := Below.chain HB6.out hb7
          clear hb7 x0 x1 x2 z0 z1 z2 HC5 HB6
          refine Lib.hid ?_
          go_wp2_with (go_at_call 13; refine (KA.out _ BL).mono ?_; rintro e w9 ⟨rfl, hb9⟩; refine Hid.out ?_)
          have B9 := Below.chain BL hb9; clear hb9 BL
          refine Lib.hid ?_
          go_wp2
          refine bodyPost_ret (v := .bool true) (by simp [results, Tryz.results11, go_sem]) rfl ?_
          exact ⟨rfl, B9⟩
  · have hcs : rightB [(l, k)] p = false ∨ (rightB [(l, k)] p = true ∧ p.length = 0) := by
      cases h : rightB [(l, k)] p
      · exact .inl rfl
      · exact .inr ⟨rfl, by rw [h] at hrb; simp at hrb; simpa using hrb⟩
    rcases hcs with h | ⟨h, h0⟩ <;> rw [h] at CR
    all_goals
      (try rw [h0] at CR)
      (try rw [h0])
      generalize l.length = n at *
      (try generalize p.length = n3 at *)
      have KA := Lib.hid CA; have KR := Lib.hid CR; have KN := Lib.hid NB
      clear CA CR NB hT htab hr hz hp hzp hrb h
      (try clear h0)
      go_enter Tryz.func11, Tryz.ntmps11
      go_wp2_with (go_at_call 38; refine (KR.out _ _ B (by simp)).mono ?_; rintro e w0 ⟨rfl, hb0⟩; refine Hid.out ?_)
      have BL := Below.chain (KN.out _ B) hb0; clear hb0 B
      refine Lib.hid ?_
      go_wp2_with (go_at_call 13; refine (KA.out _ BL).mono ?_; rintro e w9 ⟨rfl, hb9⟩; refine Hid.out ?_)
      have B9 := Below.chain BL hb9; clear hb9 BL
      refine Lib.hid ?_
      go_wp2
      refine bodyPost_ret (v := .bool true) (by simp [results, Tryz.results11, go_sem]) rfl ?_
      exact ⟨rfl, B9⟩
end Go.Proofs.YtjobmkdaaionlaaGreatDoor

