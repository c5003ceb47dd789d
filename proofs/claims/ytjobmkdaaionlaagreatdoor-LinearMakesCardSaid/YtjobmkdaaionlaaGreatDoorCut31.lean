import Derived.Test.YtjobmkdaaionlaaGreatDoorCut30

set_option linter.unusedVariables false
/-
  linear: Eval.
-/
namespace Go.Proofs.YtjobmkdaaionlaaGreatDoor
open Go Go.Proofs Go.RowKit Go.Shelf

attribute [local go_sem] Oper.semAt_some

/-- The sum of the constant and of the products so far. -/
def sumQ (l : List ByteArray) (k : ByteArray) (p : List ByteArray) (pre : List (Fin l.length)) : Rat := pre.foldl (fun v x => v + rv (l.getD x.val ⟨#[]⟩) * rv (p.getD x.val ⟨#[]⟩)) (rv k)
theorem sumQ_snoc (l : List ByteArray) (k : ByteArray) (p : List ByteArray) (pre : List (Fin l.length)) (x : Fin l.length) : sumQ l k p (pre ++ [x]) = sumQ l k p pre + rv (l.getD x.val ⟨#[]⟩) * rv (p.getD x.val ⟨#[]⟩) := by
  unfold sumQ; rw [List.foldl_append]; rfl

theorem keepsOthers_below {W W' : World} (h : Below W.heap.size W W') : KeepsOthers W W' := ⟨h.size, fun k o hk _ => (h.block k (Array.getElem?_eq_some_iff.1 hk).1).trans hk⟩
theorem boxed_below {W W' : World} {B : Nat} {t : TypeId} {v : Value} (h : Boxed W B t v) (hb : Below W.heap.size W W') : Boxed W' B t v := h.kept (grown_of_below hb) (by simp)
/-- What the rounds keep. -/
def EvI (l : List ByteArray) (k : ByteArray) (p : List ByteArray) (po : Option Addr) (pc : Nat) (w : World) (b2 : Nat) (pre : List (Fin l.length)) (W : World) : Prop :=
  Boxed W b2 22 (.string (tq (sumQ l k p pre))) ∧ Boxed W (b2 + 1) 28 (.int .i64 0) ∧ Boxed W (w.heap.size + 1) 25 (.slice po l.length pc) ∧ Boxed W (w.heap.size + 1 + 1) 22 (.string ⟨#[]⟩) ∧ Boxed W (w.heap.size + 1 + 1 + 1) 28 (.int .i64 0) ∧ Below w.heap.size w W ∧ RatS (sumQ l k p pre)
theorem evI_own (l : List ByteArray) (k : ByteArray) (p : List ByteArray) (po : Option Addr) (pc : Nat) (w : World) (b2 B : Nat) (hB : w.heap.size ≤ B) : OwnFrom B (EvI l k p po pc w b2) :=
  OwnFrom.and (Own.from (boxed_own b2 22 (fun pre => .string (tq (sumQ l k p pre)))) _) (OwnFrom.and (Own.from (boxed_own (b2 + 1) 28 (fun _ => .int .i64 0)) _) (OwnFrom.and (Own.from (boxed_own (w.heap.size + 1) 25 (fun _ => .slice po l.length pc)) _) (OwnFrom.and (Own.from (boxed_own (w.heap.size + 1 + 1) 22 (fun _ => .string ⟨#[]⟩)) _) (OwnFrom.and (Own.from (boxed_own (w.heap.size + 1 + 1 + 1) 28 (fun _ => .int .i64 0)) _) (OwnFrom.and (ownFrom_below (Nat.le_refl _) hB) (ownFrom_pure _ (fun pre => RatS (sumQ l k p pre))))))))
/-- What a round that returns leaves. -/
def EvX (l : List ByteArray) (k : ByteArray) (p : List ByteArray) (w : World) (cc : Code) (pre : List (Fin l.length)) (W : World) : Prop :=
  Boxed W (w.heap.size + 1 + 1) 22 (.string ⟨#[]⟩) ∧ Boxed W (w.heap.size + 1 + 1 + 1) 28 (.int .i64 10) ∧ Below w.heap.size w W ∧ (cc = .ret ∧ ∃ pre' x, pre = pre' ++ [x] ∧ addF (sumQ l k p pre') (rv (l.getD x.val ⟨#[]⟩) * rv (p.getD x.val ⟨#[]⟩)) = false)
theorem evX_own (l : List ByteArray) (k : ByteArray) (p : List ByteArray) (w : World) (B : Nat) (hB : w.heap.size ≤ B) (cc : Code) : OwnFrom B (EvX l k p w cc) :=
  OwnFrom.and (Own.from (boxed_own (w.heap.size + 1 + 1) 22 (fun _ => .string ⟨#[]⟩)) _) (OwnFrom.and (Own.from (boxed_own (w.heap.size + 1 + 1 + 1) 28 (fun _ => .int .i64 10)) _) (OwnFrom.and (ownFrom_below (Nat.le_refl _) hB) (ownFrom_pure _ (fun pre => cc = .ret ∧ ∃ pre' x, pre = pre' ++ [x] ∧ addF (sumQ l k p pre') (rv (l.getD x.val ⟨#[]⟩) * rv (p.getD x.val ⟨#[]⟩)) = false))))
def evAct (l : List ByteArray) (k : ByteArray) (ao : Option Addr) (c : Nat) (po : Option Addr) (pc : Nat) (b0 b2 b3 : Nat) (x : Fin l.length) : Act := { tmps := #[.agg #[.slice ao l.length c, .string k], .slice po l.length pc, .pointer (some ⟨b0, 0, none⟩), .pointer (some ⟨b0 + 1, 0, none⟩), .pointer (some ⟨b0 + 1 + 1, 0, none⟩), .pointer (some ⟨b0 + 1 + 1 + 1, 0, none⟩), .int .i64 0, .int .i64 0, .pointer (some ⟨b2, 0, none⟩), .pointer (some ⟨b2 + 1, 0, none⟩), .int .i64 ((x.val : Nat) : Int), .string (l[x.val]'x.isLt), undef, undef,
      .agg #[.slice ao l.length c, .string k], .int .i64 0, .int .i64 0, .bool false, undef, .slice po l.length pc, .int .i64 (l.length : Nat), .pointer (some ⟨b0, 0, none⟩), .slice ao l.length c, .int .i64 (l.length : Nat), .bool false, .slice po l.length pc, .int .i64 0, .int .i64 0, .bool false, undef, .pointer (some ⟨b0, 1, none⟩), .string k,
      .agg #[.slice ao l.length c, .string k], .func (.func 95) #[] #[.pointer (some ⟨b3, 0, none⟩)], .int .i64 ((x.val : Nat) : Int), .string (l[x.val]'x.isLt), undef, undef, undef, undef, undef, undef, undef, undef, undef, undef, undef, undef, undef, undef, undef, undef, undef, undef, undef, undef, undef, undef], defers := [] }

theorem fits_szk {z : Int} {k : Nat} (h : (Lib.decDigits z.natAbs).length ≤ k) : Sz k z := dec_pow h
theorem addF_rats {p q : Rat} (h : addF p q = true) : RatS (p + q) := by
  unfold addF at h
  rw [Bool.and_eq_true, Bool.and_eq_true, Bool.and_eq_true, decide_eq_true_eq, decide_eq_true_eq, decide_eq_true_eq, decide_eq_true_eq] at h
  obtain ⟨⟨-, h3⟩, h4⟩ := h
  have q1 := fits_szk (Nat.le_of_not_lt h3)
  have q2 := fits_szk (Nat.le_of_not_lt h4)
  have := RZ.divInt q1 q2 (den_mul_ne p q)
  rw [divInt_add] at this
  exact this.rs (Nat.le_refl _)
/-- The boxes of Eval: the expression, the point, the two results. -/
structure EvB (w W : World) (ao : Option Addr) (n c : Nat) (k : ByteArray) (po : Option Addr) (pc : Nat) : Prop where
  x : Bx2 W w.heap.size (.slice ao n c) (.string k)
  p : Boxed W (w.heap.size + 1) 25 (.slice po n pc)
  r : Boxed W (w.heap.size + 1 + 1) 22 (.string ⟨#[]⟩)
  e : Boxed W (w.heap.size + 1 + 1 + 1) 28 (.int .i64 0)
  b : Below w.heap.size w W
theorem EvB.mono {w W W' : World} {ao : Option Addr} {n c : Nat} {k : ByteArray} {po : Option Addr} {pc : Nat} (h : EvB w W ao n c k po pc) (g : Below W.heap.size W W') : EvB w W' ao n c k po pc :=
  ⟨h.x.mono g, boxed_below h.p g, boxed_below h.r g, boxed_below h.e g, Below.chain h.b g⟩
theorem EvB.new (w : World) (ao : Option Addr) (n c : Nat) (k : ByteArray) (po : Option Addr) (pc : Nat) :
    EvB w ((((w.alloc (Obj.cells #[.slice ao n c, .string k] 27)).alloc (Obj.cells #[.slice po n pc] 25)).alloc (Obj.cells #[.string ⟨#[]⟩] 22)).alloc (Obj.cells #[.int .i64 0] 28)) ao n c k po pc := by
  have h1 := Bx2.new w (.slice ao n c) (.string k) 27
  have h2 := Boxed.new (w.alloc (Obj.cells #[.slice ao n c, .string k] 27)) 25 (.slice po n pc)
  have h3 := Boxed.new ((w.alloc (Obj.cells #[.slice ao n c, .string k] 27)).alloc (Obj.cells #[.slice po n pc] 25)) 22 (.string ⟨#[]⟩)
  have h4 := Boxed.new (((w.alloc (Obj.cells #[.slice ao n c, .string k] 27)).alloc (Obj.cells #[.slice po n pc] 25)).alloc (Obj.cells #[.string ⟨#[]⟩] 22)) 28 (.int .i64 0)
  simp only [World.size_alloc] at h2 h3 h4
  exact ⟨((h1.over _).over _).over _, (h2.alloc _).alloc _, h3.alloc _, h4, ((((Below.refl _ _).alloc (Nat.le_refl _) _).alloc (by simp) _).alloc (by simp; omega) _).alloc (by simp; omega) _⟩

set_option maxRecDepth 100000 in
set_option maxHeartbeats 4000000 in
theorem linEval_good (l : List ByteArray) (k : ByteArray) (ao : Option Addr) (c : Nat) (p : List ByteArray) (po : Option Addr) (pc : Nat) (w : World) (hr : SRow w ao c l) (hz : ∀ s ∈ l ++ [k], s.size ≤ 800000) (hn : l.length ≤ 1000000) (hp : SRow w po pc p) (hzp : ∀ s ∈ p, s.size ≤ 800000)
    (h0 : linE l k = 0) (hlen : l.length = p.length) (h1 : firstE p = 0) (gp : ∀ s ∈ p, Good 100 s) (htab : Lib.TabIs Tryz.prog w "internal/strconv.uint64pow10" .u64 Lib.pow10Tab)
    (v : Value) (hbad : ∀ pre x, pre ++ [x] <+: nz l → addF (sumQ l k p pre) (rv (l.getD x.val ⟨#[]⟩) * rv (p.getD x.val ⟨#[]⟩)) = false → v = .tuple #[.string ⟨#[]⟩, .int .i64 10])
    (hgood : v = if shortQ (sumQ l k p (nz l)) = true then .tuple #[.string (tq (sumQ l k p (nz l))), .int .i64 0] else .tuple #[.string ⟨#[]⟩, .int .i64 10]) :
    Calls Tryz.prog 32 #[.agg #[.slice ao l.length c, .string k], .slice po l.length pc] w (Bret v w) := by
  have hT := Lib.tabBelow_of_tabIs htab
  have CH := fun (W : World) (hW : Below w.heap.size w W) => linCheck l k ao c W (hr.mono hW) hz hn (hT.on hW).here
  obtain ⟨hl, hg⟩ := linE_zero h0
  have CP := fun (W : World) (hW : Below w.heap.size w W) => checkNumbersL p po pc W (hp.mono hW) hzp (by omega) (hT.on hW).here
  rw [h0] at CH
  rw [h1, ← hlen] at CP
  obtain ⟨rb, hrb, hrbl⟩ := row_block hr
  have KH := Lib.hid CH; have KP := Lib.hid CP; have HR := Lib.hid hr; have HRB := Lib.hid hrb; have HRL := Lib.hid hrbl; have HBAD := Lib.hid hbad; have HGOOD := Lib.hid hgood; have HLEN := Lib.hid hlen; have HT := Lib.hid hT; have HG := Lib.hid hg; have GP := Lib.hid gp; have HP := Lib.hid hp
  clear CH CP hr hz hT htab h0 hrb hrbl hbad hgood hlen h1 hzp gp hg hp
  refine (callsIn_wide (n := 3)).1 ?_
  have CM : ∀ (x : Fin l.length) (W : World), Below w.heap.size w W → Calls Tryz.prog 40 #[.string (l[x.val]'x.isLt), .string (p.getD x.val ⟨#[]⟩)] W (Bret (.tuple #[.string (mulT (l.getD x.val ⟨#[]⟩) (p.getD x.val ⟨#[]⟩)), .int .i64 0]) W) := fun x W hW => by
    rw [getD_get l x.isLt]
    have hxp : x.val < p.length := by rw [← HLEN.out]; exact x.isLt
    rw [getD_get p hxp]
    exact rmulG (HG.out _ (List.mem_append_left _ (List.getElem_mem x.isLt))) (GP.out _ (List.getElem_mem hxp)) (by decide) W (HT.out.on hW).here
  have CA : ∀ (pre : List (Fin l.length)) (x : Fin l.length) (W : World), Below w.heap.size w W → RatS (sumQ l k p pre) → Calls Tryz.prog 70 #[.string (tq (sumQ l k p pre)), .string (mulT (l.getD x.val ⟨#[]⟩) (p.getD x.val ⟨#[]⟩))] W (Bret (opQ (addF (sumQ l k p pre) (rv (l.getD x.val ⟨#[]⟩) * rv (p.getD x.val ⟨#[]⟩))) (sumQ l k p (pre ++ [x]))) W) := fun pre x W hW hs => by
    have hxp : x.val < p.length := by rw [← HLEN.out]; exact x.isLt
    have gm := (HG.out _ (List.mem_append_left [k] (List.getElem_mem x.isLt))).mul (GP.out _ (List.getElem_mem hxp))
    rw [← getD_get l x.isLt, ← getD_get p hxp] at gm
    have h1 : RStr (tq (sumQ l k p pre)) (sumQ l k p pre) := RStr.of hs
    have h2 := gm.rstr (by decide)
    rw [rv_mul] at h2
    have := ratAdd (tq (sumQ l k p pre)) (mulT (l.getD x.val ⟨#[]⟩) (p.getD x.val ⟨#[]⟩)) W (by have := h1.size; omega) (by have := h2.size; omega) (HT.out.on hW).here
    rw [ratR2_at addQ h1 h2] at this
    rw [sumQ_snoc]
    exact this
  have hfits : ∀ (pre : List (Fin l.length)) (x : Fin l.length), addF (sumQ l k p pre) (rv (l.getD x.val ⟨#[]⟩) * rv (p.getD x.val ⟨#[]⟩)) = true → RatS (sumQ l k p (pre ++ [x])) := fun pre x h => by
    rw [sumQ_snoc]; exact addF_rats h
  have KM := Lib.hid CM; have KA := Lib.hid CA; have HF := Lib.hid hfits; clear CM CA hfits
  have hk1 : tq (sumQ l k p []) = k := (HG.out k (by simp)).lit
  have HK1 := Lib.hid hk1; clear hk1
  have hk0 : RatS (sumQ l k p []) := (HG.out k (by simp)).rz.rs (by decide)
  have HK0 := Lib.hid hk0; clear hk0
  refine callsIn_of_wp_marks Tryz.func32 rfl trivial ?_ rfl
  simp only [Tryz.ntmps32, List.size_toArray, List.length_cons, List.length_nil, Nat.reduceAdd, Nat.reduceSub, Array.replicate_succ, Array.replicate_zero, List.push_toArray, List.append_toArray, List.nil_append, List.cons_append]
  have V0 := EvB.new w ao l.length c k po pc
  gi_wp2_with fail
  generalize (((w.alloc (Obj.cells #[.slice ao l.length c, .string k] 27)).alloc (Obj.cells #[.slice po l.length pc] 25)).alloc (Obj.cells #[.string ⟨#[]⟩] 22)).alloc (Obj.cells #[.int .i64 0] 28) = W0 at *
  refine ⟨trivial, (callsIn_wide.2 (KH.out _ V0.b)).mono ?_⟩
  rintro e w1 ⟨rfl, hb1⟩
  have V1 := V0.mono hb1
  have x0 := V1.x.c0; have x1 := V1.x.c1; have xl := V1.x.lt; have p0 := V1.p.cell; have pl := V1.p.lt
  clear hb1 V0
  gi_wp2_with fail
  refine ⟨trivial, (callsIn_wide.2 (KP.out _ V1.b)).mono ?_⟩
  rintro e w2 ⟨rfl, hb2⟩
  have V2 := V1.mono hb2
  clear x0 x1 xl p0 pl hb2 V1
  have x0 := V2.x.c0; have x1 := V2.x.c1; have xl := V2.x.lt
  have bV : Boxed ((w2.alloc (Obj.cells #[.string k] 22)).alloc (Obj.cells #[.int .i64 0] 28)) w2.heap.size 22 (.string k) := (Boxed.new w2 _ _).alloc _
  have bE : Boxed ((w2.alloc (Obj.cells #[.string k] 22)).alloc (Obj.cells #[.int .i64 0] 28)) (w2.heap.size + 1) 28 (.int .i64 0) := by
    have := Boxed.new (w2.alloc (Obj.cells #[.string k] 22)) 28 (.int .i64 0)
    rwa [World.size_alloc] at this
  have V3 := V2.mono (((Below.refl w2.heap.size w2).alloc (Nat.le_refl _) (Obj.cells #[.string k] 22)).alloc (by simp) (Obj.cells #[.int .i64 0] 28))
  have hs3 : ((w2.alloc (Obj.cells #[.string k] 22)).alloc (Obj.cells #[.int .i64 0] 28)).heap.size = w2.heap.size + 1 + 1 := by simp
  gi_wp2_with fail
  generalize hW3 : (w2.alloc (Obj.cells #[.string k] 22)).alloc (Obj.cells #[.int .i64 0] 28) = W3 at *
  clear hW3
  have HS3 := Lib.hid hs3; clear hs3
  refine ⟨trivial, (callsIn_wide.2 (terms_any ao l.length c k W3)).mono ?_⟩
  rintro e w' ⟨rfl, rfl⟩
  gi_wp2_with fail
  have A4 : Below W3.heap.size W3 (W3.alloc (Obj.cells #[.slice ao l.length c, .string k] 27)) := (Below.refl _ _).alloc (Nat.le_refl _) _
  have V4 := V3.mono A4
  have bV4 := boxed_below bV A4; have bE4 := boxed_below bE A4
  have hqc : (W3.alloc (Obj.cells #[.slice ao l.length c, .string k] 27)).cell? ⟨W3.heap.size, 0, none⟩ = some (.slice ao l.length c) := by go_cell
  have hqs : W3.heap.size < (W3.alloc (Obj.cells #[.slice ao l.length c, .string k] 27)).heap.size := by simp
  generalize W3.alloc (Obj.cells #[.slice ao l.length c, .string k] 27) = W4 at *
  have hs2 : w.heap.size + 1 + 1 + 1 < w2.heap.size := V2.e.lt
  refine wpIn_rangeFunc_ownG rfl (by omega) (gf := 95) (lb := #[.pointer (some ⟨W3.heap.size, 0, none⟩)]) (by simp [Act.eval]) trivial (enters_of Tryz.func95 (by kernel_rfl) rfl)
    (terms_stops 2 (by omega) W3.heap.size rb l ao c W4 (HR.out.mono V4.b) HRB.out hn hqs hqc) (fun {A B C} h k => k.trans h) ?hKb (Below.refl _ _) (fun _ => rfl)
    (EvI l k p po pc w w2.heap.size) (EvX l k p w) (evI_own l k p po pc w w2.heap.size _ (by have := V4.b.size; omega)) (evX_own l k p w _ (by have := V4.b.size; omega))
    ⟨by rw [HK1.out]; exact bV4, bE4, V4.p, V4.r, V4.e, V4.b, HK0.out⟩
    (fun x => evAct l k ao c po pc w.heap.size w2.heap.size W3.heap.size x) ?assign ?body ?done ?stop
  case hKb =>
    intro W lp o o' hl _ _ _
    have := HRL.out
    have := V4.b.size
    exact World.putObj_heap_other (by omega)
  case assign =>
    intro lp x W K hK
    unfold tEnc
    unfold evAct at hK
    gi_wp2
    exact hK
  case body =>
    rintro lp pre x W ⟨hv, he, hpb, hrb, heb, hB, hrs⟩ hlt
    have hxp : x.val < p.length := by rw [← HLEN.out]; exact x.isLt
    obtain ⟨bp, op, rfl, hbp, hcp⟩ := (HP.out.mono hB).get x.val hxp
    rw [← getD_get p hxp] at hcp
    have hpc := hpb.cell; have hpl := hpb.lt
    have hx0 : (0 : Int) ≤ ((x.val : Nat) : Int) := by omega
    have hx1 : ((x.val : Nat) : Int) < ((l.length : Nat) : Int) := by have := x.isLt; omega
    have CMx := KM.out x W hB
    have CA0 : addF (sumQ l k p pre) (rv (l.getD x.val ⟨#[]⟩) * rv (p.getD x.val ⟨#[]⟩)) = false → ∀ W', Below w.heap.size w W' → Calls Tryz.prog 70 #[.string (tq (sumQ l k p pre)), .string (mulT (l.getD x.val ⟨#[]⟩) (p.getD x.val ⟨#[]⟩))] W' (Bret (.tuple #[.string ⟨#[]⟩, .int .i64 10]) W') := fun ha W' hW' => by
      have := KA.out pre x W' hW' hrs; rw [ha] at this; exact this
    have CA1 : addF (sumQ l k p pre) (rv (l.getD x.val ⟨#[]⟩) * rv (p.getD x.val ⟨#[]⟩)) = true → ∀ W', Below w.heap.size w W' → Calls Tryz.prog 70 #[.string (tq (sumQ l k p pre)), .string (mulT (l.getD x.val ⟨#[]⟩) (p.getD x.val ⟨#[]⟩))] W' (Bret (.tuple #[.string (tq (sumQ l k p (pre ++ [x]))), .int .i64 0]) W') := fun ha W' hW' => by
      have := KA.out pre x W' hW' hrs; rw [ha] at this; exact this
    have hfx := HF.out pre x
    have hEx : ∀ (W' : World), Boxed W' (w.heap.size + 1 + 1) 22 (.string ⟨#[]⟩) → Boxed W' (w.heap.size + 1 + 1 + 1) 28 (.int .i64 10) → Below w.heap.size w W' → addF (sumQ l k p pre) (rv (l.getD x.val ⟨#[]⟩) * rv (p.getD x.val ⟨#[]⟩)) = false → EvX l k p w .ret (pre ++ [x]) W' := fun W' h1 h2 h3 h4 => ⟨h1, h2, h3, rfl, pre, x, rfl, h4⟩
    generalize addF (sumQ l k p pre) (rv (l.getD x.val ⟨#[]⟩) * rv (p.getD x.val ⟨#[]⟩)) = af at *
    generalize mulT (l.getD x.val ⟨#[]⟩) (p.getD x.val ⟨#[]⟩) = my at *
    generalize p.getD x.val ⟨#[]⟩ = y at *
    have hI : RatS (sumQ l k p (pre ++ [x])) → ∀ W', Boxed W' w2.heap.size 22 (.string (tq (sumQ l k p (pre ++ [x])))) → Boxed W' (w2.heap.size + 1) 28 (.int .i64 0) → Boxed W' (w.heap.size + 1) 25 (.slice (some ⟨bp, op, none⟩) l.length pc) → Boxed W' (w.heap.size + 1 + 1) 22 (.string ⟨#[]⟩) → Boxed W' (w.heap.size + 1 + 1 + 1) 28 (.int .i64 0) → Below w.heap.size w W' → EvI l k p (some ⟨bp, op, none⟩) pc w w2.heap.size (pre ++ [x]) W' := fun h0 W' h1 h2 h3 h4 h5 h6 => ⟨h1, h2, h3, h4, h5, h6, h0⟩
    generalize tq (sumQ l k p (pre ++ [x])) = nt at *
    generalize tq (sumQ l k p pre) = ot at *
    have KMx := Lib.hid CMx; have HFX := Lib.hid hfx; have HEX := Lib.hid hEx; have HI := Lib.hid hI; have HC0 := Lib.hid CA0; have HC1 := Lib.hid CA1
    clear CMx CA0 CA1 hfx hEx hI hrs
    have hKW : ∀ W', Below W.heap.size W W' → KBlk rb W W' := fun W' h => h.block rb (by have := HRL.out; have := hB.size; have := hv.lt; omega)
    have HKW := Lib.hid hKW; clear hKW
    unfold evAct
    gi_wp2_with fail
    refine ⟨trivial, (CallsIn.inRound _ (callsIn_wide.2 KMx.out)).mono ?_⟩
    rintro e w3 ⟨rfl, hb3⟩
    have hv3 := boxed_below hv hb3; have he3 := boxed_below he hb3; have hpb3 := boxed_below hpb hb3; have hrb3 := boxed_below hrb hb3; have heb3 := boxed_below heb hb3; have hB3 := Below.chain hB hb3
    clear hpc hpl hcp
    have hc := hv3.cell; have hvl := hv3.lt
    gi_wp2_with fail
    cases af
    · have KAx := Lib.hid (HC0.out rfl)
      clear HC0 HC1
      refine ⟨trivial, (CallsIn.inRound _ (callsIn_wide.2 (KAx.out _ hB3))).mono ?_⟩
      rintro e w4 ⟨rfl, hb4⟩
      have hv4 := boxed_below hv3 hb4; have he4 := boxed_below he3 hb4; have hrb4 := boxed_below hrb3 hb4; have heb4 := boxed_below heb3 hb4; have hB4 := Below.chain hB3 hb4
      have hW4 := Below.chain hb3 hb4
      have HKF := Lib.hid ((keepsOthers_below hW4).from W4.heap.size)
      have a0 := hv4.cell; have a1 := hv4.frozen; have a2 := hv4.lt; have b0 := he4.cell; have b1 := he4.frozen; have b2 := he4.lt
      have c0 := hrb4.cell; have c1 := hrb4.frozen; have c2 := hrb4.lt; have d0 := heb4.cell; have d1 := heb4.frozen; have d2 := heb4.lt
      clear hc hvl
      gi_wp2_with fail
      have v5 := (hrb4.other (B' := w2.heap.size) (by omega) (.string ⟨#[]⟩)).other (B' := w2.heap.size + 1) (by omega) (.int .i64 10)
      have e5 := (heb4.other (B' := w2.heap.size) (by omega) (.string ⟨#[]⟩)).other (B' := w2.heap.size + 1) (by omega) (.int .i64 10)
      have r6 := (v5.set (.string ⟨#[]⟩)).other (B' := w.heap.size + 1 + 1 + 1) (by omega) (.int .i64 10)
      have e6 := (e5.other (B' := w.heap.size + 1 + 1) (by omega) (.string ⟨#[]⟩)).set (.int .i64 10)
      have b6 := (((hB4.setCell (p := ⟨w2.heap.size, 0, none⟩) (by show w.heap.size ≤ w2.heap.size; omega) (.string ⟨#[]⟩)).setCell (p := ⟨w2.heap.size + 1, 0, none⟩) (by show w.heap.size ≤ w2.heap.size + 1; omega) (.int .i64 10)).setCell (p := ⟨w.heap.size + 1 + 1, 0, none⟩) (by show w.heap.size ≤ w.heap.size + 1 + 1; omega) (.string ⟨#[]⟩)).setCell (p := ⟨w.heap.size + 1 + 1 + 1, 0, none⟩) (by show w.heap.size ≤ w.heap.size + 1 + 1 + 1; omega) (.int .i64 10)
      have k6 := (((HKF.out.trans ((KeepsOthers.setCell w4 ⟨w2.heap.size, 0, none⟩ (.string ⟨#[]⟩)).from _)).trans ((KeepsOthers.setCell _ ⟨w2.heap.size + 1, 0, none⟩ (.int .i64 10)).from _)).trans ((KeepsOthers.setCell _ ⟨w.heap.size + 1 + 1, 0, none⟩ (.string ⟨#[]⟩)).from _)).trans ((KeepsOthers.setCell _ ⟨w.heap.size + 1 + 1 + 1, 0, none⟩ (.int .i64 10)).from _)
      have R6 := Lib.hid r6; have E6 := Lib.hid e6; have BB6 := Lib.hid b6; have KK6 := Lib.hid k6
      clear v5 e5 r6 e6 b6 k6
      gi_region
      all_goals
        gi_wp2
        refine ⟨keepsFrom_drew KK6.out, HEX.out _ R6.out E6.out BB6.out.drew (by simp)⟩
    · have KAx := Lib.hid (HC1.out rfl)
      clear HC0 HC1
      refine ⟨trivial, (CallsIn.inRound _ (callsIn_wide.2 (KAx.out _ hB3))).mono ?_⟩
      rintro e w4 ⟨rfl, hb4⟩
      have hv4 := boxed_below hv3 hb4; have he4 := boxed_below he3 hb4; have hpb4 := boxed_below hpb3 hb4; have hrb4 := boxed_below hrb3 hb4; have heb4 := boxed_below heb3 hb4; have hB4 := Below.chain hB3 hb4
      have hW4 := Below.chain hb3 hb4
      have HKF := Lib.hid ((keepsOthers_below hW4).from W4.heap.size); have HKB := Lib.hid (HKW.out _ hW4)
      have a0 := hv4.cell; have a1 := hv4.frozen; have a2 := hv4.lt; have b0 := he4.cell; have b1 := he4.frozen; have b2 := he4.lt
      clear hc hvl
      gi_wp2_with fail
      have hm : w2.heap.size ≠ w2.heap.size + 1 := by omega
      have hv5 := (hv4.set (.string nt)).other (B' := w2.heap.size + 1) (by omega) (.int .i64 0)
      have he5 := (he4.other (B' := w2.heap.size) (by omega) (.string nt)).set (.int .i64 0)
      have hpb5 := (hpb4.other (B' := w2.heap.size) (by omega) (.string nt)).other (B' := w2.heap.size + 1) (by omega) (.int .i64 0)
      have hrb5 := (hrb4.other (B' := w2.heap.size) (by omega) (.string nt)).other (B' := w2.heap.size + 1) (by omega) (.int .i64 0)
      have heb5 := (heb4.other (B' := w2.heap.size) (by omega) (.string nt)).other (B' := w2.heap.size + 1) (by omega) (.int .i64 0)
      refine ⟨((HKF.out.trans ((KeepsOthers.setCell w4 ⟨w2.heap.size, 0, none⟩ (.string nt)).from _)).trans ((KeepsOthers.setCell _ ⟨w2.heap.size + 1, 0, none⟩ (.int .i64 0)).from _)), ?_, HI.out (HFX.out (by simp)) _ hv5 he5 hpb5 hrb5 heb5 ((hB4.setCell (p := ⟨w2.heap.size, 0, none⟩) (by show w.heap.size ≤ w2.heap.size; omega) _).setCell (p := ⟨w2.heap.size + 1, 0, none⟩) (by show w.heap.size ≤ w2.heap.size + 1; omega) _)⟩
      have hrl := HRL.out
      exact ((Below.heap_setCell _ ⟨w2.heap.size + 1, 0, none⟩ _ rb (by show rb ≠ w2.heap.size + 1; omega)).trans (Below.heap_setCell _ ⟨w2.heap.size, 0, none⟩ _ rb (by show rb ≠ w2.heap.size; omega))).trans HKB.out
  case done =>
    rintro D ys W hD rfl ⟨hv, he, hpb, hrb, heb, hB, hrs⟩ hK
    have hc := hv.cell
    have hvl := hv.lt
    have hsz := (RStr.of hrs).size
    have CI := isShortN (tq (sumQ l k p (nz l))) W (by show (str (ratL (sumQ l k p (nz l)))).size ≤ _; omega)
    rw [show shortN (bytes (tq (sumQ l k p (nz l)))) = shortQ (sumQ l k p (nz l)) by unfold tq; rw [bytes_str, shortN_rat]] at CI
    have hg := HGOOD.out
    have hDn : ∀ b, b < w2.heap.size → b ≠ D := fun b hb => by have := HS3.out; omega
    have HDN := Lib.hid hDn; clear hDn
    generalize shortQ (sumQ l k p (nz l)) = sq at *
    generalize tq (sumQ l k p (nz l)) = nt at *
    cases sq
    · rw [if_neg (by decide)] at hg
      subst hg
      have KI := Lib.hid CI; clear CI
      gi_wp2_with fail
      refine ⟨trivial, (callsIn_wide.2 KI.out).mono ?_⟩
      rintro e w5 ⟨rfl, hb5⟩
      have hrb5 := boxed_below hrb hb5; have heb5 := boxed_below heb hb5; have hB5 := Below.chain hB hb5
      have hK5 : w5.heap[D]? = some (.deferred (some [])) := (hb5.block D (Array.getElem?_eq_some_iff.1 hK).1).trans hK
      have c0 := hrb5.cell; have c1 := hrb5.frozen; have c2 := hrb5.lt; have d0 := heb5.cell; have d1 := heb5.frozen; have d2 := heb5.lt
      clear hc hvl
      gi_wp2
      have r6 := (hrb5.set (.string ⟨#[]⟩)).other (B' := w.heap.size + 1 + 1 + 1) (by omega) (.int .i64 10)
      have e6 := (heb5.other (B' := w.heap.size + 1 + 1) (by omega) (.string ⟨#[]⟩)).set (.int .i64 10)
      have b6 := (hB5.setCell (p := ⟨w.heap.size + 1 + 1, 0, none⟩) (by show w.heap.size ≤ w.heap.size + 1 + 1; omega) (.string ⟨#[]⟩)).setCell (p := ⟨w.heap.size + 1 + 1 + 1, 0, none⟩) (by show w.heap.size ≤ w.heap.size + 1 + 1 + 1; omega) (.int .i64 10)
      have hK6 : ((w5.setCell ⟨w.heap.size + 1 + 1, 0, none⟩ (.string ⟨#[]⟩)).setCell ⟨w.heap.size + 1 + 1 + 1, 0, none⟩ (.int .i64 10)).heap[D]? = some (.deferred (some [])) :=
        ((Below.heap_setCell _ ⟨w.heap.size + 1 + 1 + 1, 0, none⟩ _ D (fun e => HDN.out (w.heap.size + 1 + 1 + 1) (by omega) e.symm)).trans (Below.heap_setCell _ ⟨w.heap.size + 1 + 1, 0, none⟩ _ D (fun e => HDN.out (w.heap.size + 1 + 1) (by omega) e.symm))).trans hK5
      generalize (w5.setCell ⟨w.heap.size + 1 + 1, 0, none⟩ (.string ⟨#[]⟩)).setCell ⟨w.heap.size + 1 + 1 + 1, 0, none⟩ (.int .i64 10) = W6 at *
      refine ⟨by simp, .inl ⟨_, _, rfl, run_takeDeferred hK6, ?_⟩⟩
      have c3 : (W6.putObj D (.deferred none)).cell? ⟨w.heap.size + 1 + 1, 0, none⟩ = some (.string ⟨#[]⟩) := by
        rw [World.cell?_of_block (w := W6) (a := ⟨w.heap.size + 1 + 1, 0, none⟩) (World.putObj_heap_other (HDN.out _ (by simp; omega)))]; exact r6.cell
      have d3 : (W6.putObj D (.deferred none)).cell? ⟨w.heap.size + 1 + 1 + 1, 0, none⟩ = some (.int .i64 10) := by
        rw [World.cell?_of_block (w := W6) (a := ⟨w.heap.size + 1 + 1 + 1, 0, none⟩) (World.putObj_heap_other (HDN.out _ (by simp; omega)))]; exact e6.cell
      refine ⟨.tuple #[(.string ⟨#[]⟩), (.int .i64 10)], by simp [results, Tryz.results32, go_sem, c3, d3], rfl, ?_⟩
      exact b6.trans (belowK_b (w := w) (Nat.le_refl _) _ D _ _ (by have := V4.b.size; omega) hK6 rfl rfl)
    · rw [if_pos rfl] at hg
      subst hg
      have KI := Lib.hid CI; clear CI
      gi_wp2_with fail
      refine ⟨trivial, (callsIn_wide.2 KI.out).mono ?_⟩
      rintro e w5 ⟨rfl, hb5⟩
      have hv5 := boxed_below hv hb5; have hrb5 := boxed_below hrb hb5; have heb5 := boxed_below heb hb5; have hB5 := Below.chain hB hb5
      have hK5 : w5.heap[D]? = some (.deferred (some [])) := (hb5.block D (Array.getElem?_eq_some_iff.1 hK).1).trans hK
      have a0 := hv5.cell; have a2 := hv5.lt
      have c0 := hrb5.cell; have c1 := hrb5.frozen; have c2 := hrb5.lt; have d0 := heb5.cell; have d1 := heb5.frozen; have d2 := heb5.lt
      clear hc hvl
      gi_wp2
      have r6 := (hrb5.set (.string nt)).other (B' := w.heap.size + 1 + 1 + 1) (by omega) (.int .i64 0)
      have e6 := (heb5.other (B' := w.heap.size + 1 + 1) (by omega) (.string nt)).set (.int .i64 0)
      have b6 := (hB5.setCell (p := ⟨w.heap.size + 1 + 1, 0, none⟩) (by show w.heap.size ≤ w.heap.size + 1 + 1; omega) (.string nt)).setCell (p := ⟨w.heap.size + 1 + 1 + 1, 0, none⟩) (by show w.heap.size ≤ w.heap.size + 1 + 1 + 1; omega) (.int .i64 0)
      have hK6 : ((w5.setCell ⟨w.heap.size + 1 + 1, 0, none⟩ (.string nt)).setCell ⟨w.heap.size + 1 + 1 + 1, 0, none⟩ (.int .i64 0)).heap[D]? = some (.deferred (some [])) :=
        ((Below.heap_setCell _ ⟨w.heap.size + 1 + 1 + 1, 0, none⟩ _ D (fun e => HDN.out (w.heap.size + 1 + 1 + 1) (by omega) e.symm)).trans (Below.heap_setCell _ ⟨w.heap.size + 1 + 1, 0, none⟩ _ D (fun e => HDN.out (w.heap.size + 1 + 1) (by omega) e.symm))).trans hK5
      generalize (w5.setCell ⟨w.heap.size + 1 + 1, 0, none⟩ (.string nt)).setCell ⟨w.heap.size + 1 + 1 + 1, 0, none⟩ (.int .i64 0) = W6 at *
      refine ⟨by simp, .inl ⟨_, _, rfl, run_takeDeferred hK6, ?_⟩⟩
      have c3 : (W6.putObj D (.deferred none)).cell? ⟨w.heap.size + 1 + 1, 0, none⟩ = some (.string nt) := by
        rw [World.cell?_of_block (w := W6) (a := ⟨w.heap.size + 1 + 1, 0, none⟩) (World.putObj_heap_other (HDN.out _ (by simp; omega)))]; exact r6.cell
      have d3 : (W6.putObj D (.deferred none)).cell? ⟨w.heap.size + 1 + 1 + 1, 0, none⟩ = some (.int .i64 0) := by
        rw [World.cell?_of_block (w := W6) (a := ⟨w.heap.size + 1 + 1 + 1, 0, none⟩) (World.putObj_heap_other (HDN.out _ (by simp; omega)))]; exact e6.cell
      refine ⟨.tuple #[(.string nt), (.int .i64 0)], by simp [results, Tryz.results32, go_sem, c3, d3], rfl, ?_⟩
      exact b6.trans (belowK_b (w := w) (Nat.le_refl _) _ D _ _ (by have := V4.b.size; omega) hK6 rfl rfl)
  case stop =>
    rintro D c pre W hD hpre ⟨hrb, heb, hB, rfl, pre', x, rfl, hadd⟩ hK
    have hv := HBAD.out pre' x hpre hadd
    subst hv
    gi_wp2
    have c0 := hrb.cell; have d0 := heb.cell
    have hDn : ∀ b, b < w2.heap.size → b ≠ D := fun b hb => by have := HS3.out; omega
    refine ⟨by simp, .inl ⟨_, _, rfl, run_takeDeferred hK, ?_⟩⟩
    have c3 : (W.putObj D (.deferred none)).cell? ⟨w.heap.size + 1 + 1, 0, none⟩ = some (.string ⟨#[]⟩) := by
      rw [World.cell?_of_block (w := W) (a := ⟨w.heap.size + 1 + 1, 0, none⟩) (World.putObj_heap_other (hDn _ (by simp; omega)))]; exact c0
    have d3 : (W.putObj D (.deferred none)).cell? ⟨w.heap.size + 1 + 1 + 1, 0, none⟩ = some (.int .i64 10) := by
      rw [World.cell?_of_block (w := W) (a := ⟨w.heap.size + 1 + 1 + 1, 0, none⟩) (World.putObj_heap_other (hDn _ (by simp; omega)))]; exact d0
    refine ⟨.tuple #[.string ⟨#[]⟩, .int .i64 10], by simp [results, Tryz.results32, go_sem, c3, d3], rfl, ?_⟩
    exact hB.trans (belowK_b (w := w) (Nat.le_refl _) _ D _ _ (by have := V4.b.size; omega) hK rfl rfl)
end Go.Proofs.YtjobmkdaaionlaaGreatDoor
