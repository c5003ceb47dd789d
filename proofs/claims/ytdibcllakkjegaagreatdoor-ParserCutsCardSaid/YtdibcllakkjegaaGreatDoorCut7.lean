import Derived.Test.YtdibcllakkjegaaGreatDoorCut6
import Derived.Deep.RegionWith
import Derived.Test.YtdibcllakkjegaaGreatDoorCut5

set_option linter.unusedVariables false
/-
  parser: bare.
-/
set_option linter.unusedSimpArgs false
set_option linter.unusedVariables false
namespace Go.Proofs.YtdibcllakkjegaaGreatDoor
open Go Go.Proofs Go.RowKit
set_option maxRecDepth 20000 in
set_option maxHeartbeats 400000 in
theorem pbare_any (R : Nat) (L : List Tk) (nx : Nat) (d at_ er : Int) (w : World) (h : RdAt w R L nx d at_ er) (hn : nx < L.length) (hL : L.length ≤ 1000000) (hs : (tkD L nx).t.size ≤ 9223372036854775807) (ht : ClsAt R w) :
    Calls Tryz.prog 97 #[.pointer (some ⟨R, 0, none⟩)] w fun e w' =>
      e = .returned (.agg #[.int .i64 19, .int .i64 (tkM L nx (isN (tkD L nx))).a, .string (tkM L nx (isN (tkD L nx))).t, .int .i64 0, .slice none 0 0]) ∧ RdAt w' R L (nxM L nx (isN (tkD L nx))) d (atM L nx at_ er (isN (tkD L nx))) (erM er (isN (tkD L nx))) ∧ Butt R w w' := by
  have hz := (Below.refl w.heap.size w).alloc (Nat.le_refl _) (Obj.cells #[.int .i64 0, .int .i64 0, .string ⟨#[]⟩, .int .i64 0, .slice none 0 0] 25)
  have hR1 := h.keep hz
  have CM := pname_any R L nx d at_ er _ hR1 hn hL hs (ht.keep (Below.down hz (Nat.le_of_lt h.lt)))
  generalize isN (tkD L nx) = can at *
  generalize tkM L nx can = T at *
  generalize nxM L nx can = NX at *
  generalize atM L nx at_ er can = AT at *
  generalize erM er can = ER at *
  obtain ⟨tk, tt, ta⟩ := T
  unfold tkA at *
  dsimp only at *
  have CN := fun W => pnode_any 19 ta tt none 0 0 W
  have HB := Lib.hid (Butt.of_below (R := R) h.lt hz); have KM := Lib.hid CM; have KN := Lib.hid CN; have HLT := Lib.hid h.lt; have H0 := Lib.hid h
  have p0 : (w.alloc (Obj.cells #[.int .i64 0, .int .i64 0, .string ⟨#[]⟩, .int .i64 0, .slice none 0 0] 25)).cell? ⟨w.heap.size, 0, none⟩ = some (.int .i64 0) := World.cell?_alloc_new _ _ _ _
  have p1 : (w.alloc (Obj.cells #[.int .i64 0, .int .i64 0, .string ⟨#[]⟩, .int .i64 0, .slice none 0 0] 25)).cell? ⟨w.heap.size, 1, none⟩ = some (.int .i64 0) := World.cell?_alloc_new _ _ _ _
  have p2 : (w.alloc (Obj.cells #[.int .i64 0, .int .i64 0, .string ⟨#[]⟩, .int .i64 0, .slice none 0 0] 25)).cell? ⟨w.heap.size, 2, none⟩ = some (.string ⟨#[]⟩) := World.cell?_alloc_new _ _ _ _
  have p3 : (w.alloc (Obj.cells #[.int .i64 0, .int .i64 0, .string ⟨#[]⟩, .int .i64 0, .slice none 0 0] 25)).cell? ⟨w.heap.size, 3, none⟩ = some (.int .i64 0) := World.cell?_alloc_new _ _ _ _
  have p4 : (w.alloc (Obj.cells #[.int .i64 0, .int .i64 0, .string ⟨#[]⟩, .int .i64 0, .slice none 0 0] 25)).cell? ⟨w.heap.size, 4, none⟩ = some (.slice none 0 0) := World.cell?_alloc_new _ _ _ _
  have ps : w.heap.size < (w.alloc (Obj.cells #[.int .i64 0, .int .i64 0, .string ⟨#[]⟩, .int .i64 0, .slice none 0 0] 25)).heap.size := by simp
  have pf : ∀ j, (w.alloc (Obj.cells #[.int .i64 0, .int .i64 0, .string ⟨#[]⟩, .int .i64 0, .slice none 0 0] 25)).frozen? ⟨w.heap.size, j, none⟩ = false := fun j => World.frozen?_alloc_new _ _ _ _
  have HP := Lib.hid (And.intro p0 (And.intro p1 (And.intro p2 (And.intro p3 (And.intro p4 (And.intro pf ps))))))
  clear h hn hL hs ht CM CN hR1 hz p0 p1 p2 p3 p4 ps pf
  go_enter Tryz.func97, Tryz.ntmps97
  go_wp2_with (go_at_call 85; refine (KM.out).mono ?_; rintro e w3 ⟨rfl, hr3, hb3⟩; refine Hid.out ?_)
  have hA : Below w3.heap.size w3 (w3.alloc (Obj.cells #[.int .i64 tk, .string tt, .int .i64 ta] 47)) := (Below.refl _ _).alloc (Nat.le_refl _) _
  have z0 : (w3.alloc (Obj.cells #[.int .i64 tk, .string tt, .int .i64 ta] 47)).cell? ⟨w3.heap.size, 0, none⟩ = some (.int .i64 tk) := World.cell?_alloc_new _ _ _ _
  have z1 : (w3.alloc (Obj.cells #[.int .i64 tk, .string tt, .int .i64 ta] 47)).cell? ⟨w3.heap.size, 1, none⟩ = some (.string tt) := World.cell?_alloc_new _ _ _ _
  have z2 : (w3.alloc (Obj.cells #[.int .i64 tk, .string tt, .int .i64 ta] 47)).cell? ⟨w3.heap.size, 2, none⟩ = some (.int .i64 ta) := World.cell?_alloc_new _ _ _ _
  have hr4 := hr3.keep hA
  have HB4 := Lib.hid (hb3.trans (Butt.of_below hr3.lt hA))
  have HR4 := Lib.hid hr4
  clear hA hr3 hb3 hr4
  refine Lib.hid ?_
  go_wp2_with (go_at_call 59; refine (KN.out _).mono ?_; rintro e w5 ⟨rfl, hb5⟩; refine Hid.out ?_)
  have hr5 := HR4.out.keep hb5
  have hb6 := HB4.out.trans (Butt.of_below HR4.out.lt hb5)
  clear hb5 z0 z1 z2
  obtain ⟨p0, p1, p2, p3, p4, pf, ps⟩ := HP.out
  have hpR : w.heap.size ≠ R := fun e => absurd HLT.out (by rw [e]; exact Nat.lt_irrefl _)
  have y0 := (hb6.cell (p := ⟨w.heap.size, 0, none⟩) ps hpR).trans p0
  have y1 := (hb6.cell (p := ⟨w.heap.size, 1, none⟩) ps hpR).trans p1
  have y2 := (hb6.cell (p := ⟨w.heap.size, 2, none⟩) ps hpR).trans p2
  have y3 := (hb6.cell (p := ⟨w.heap.size, 3, none⟩) ps hpR).trans p3
  have y4 := (hb6.cell (p := ⟨w.heap.size, 4, none⟩) ps hpR).trans p4
  have f0 := (hb6.frozen (p := ⟨w.heap.size, 0, none⟩) ps hpR).trans (pf 0)
  have f1 := (hb6.frozen (p := ⟨w.heap.size, 1, none⟩) ps hpR).trans (pf 1)
  have f2 := (hb6.frozen (p := ⟨w.heap.size, 2, none⟩) ps hpR).trans (pf 2)
  have f3 := (hb6.frozen (p := ⟨w.heap.size, 3, none⟩) ps hpR).trans (pf 3)
  have f4 := (hb6.frozen (p := ⟨w.heap.size, 4, none⟩) ps hpR).trans (pf 4)
  have RB := Lib.hid (boxed5 H0.out (HB.out.trans hb6) hr5 (Nat.le_refl _) (.int .i64 19) (.int .i64 ta) (.string tt) (.int .i64 0) (.slice none 0 0))
  obtain ⟨q0, q1, q2, q3, q4⟩ := box5 y0 y1 y2 y3 y4 (.int .i64 19) (.int .i64 ta) (.string tt) (.int .i64 0) (.slice none 0 0) _ rfl
  clear p0 p1 p2 p3 p4 pf ps hb6 hr5
  refine Lib.hid ?_
  go_wp2
  refine bodyPost_ret (by simp [results, Tryz.results97, go_sem, q0, q1, q2, q3, q4]; rfl) rfl ?_
  exact ⟨rfl, RB.out.1, RB.out.2⟩
theorem kids_new {lo : Nat} {W : World} (hl : lo ≤ W.heap.size) (x : Syn) (v0 v1 v2 v3 v4 : Value) (hx : synAt lo W x (.agg #[v0, v1, v2, v3, v4])) :
    kidsAt lo (W.alloc (Obj.cells #[v0, v1, v2, v3, v4] 25)) [x] (.slice (some ⟨W.heap.size, 0, none⟩) 1 1) := by
  have hA : Below W.heap.size W (W.alloc (Obj.cells #[v0, v1, v2, v3, v4] 25)) := (Below.refl _ _).alloc (Nat.le_refl _) _
  refine .inr ⟨W.heap.size, 1, rfl, Nat.le_refl _, by decide, hl, by simp, ?_⟩
  rw [rowAt, rowAt]
  exact ⟨⟨v0, v1, v2, v3, v4, World.cell?_alloc_new _ _ _ _, World.cell?_alloc_new _ _ _ _, World.cell?_alloc_new _ _ _ _, World.cell?_alloc_new _ _ _ _, World.cell?_alloc_new _ _ _ _, synAt.keep (From.of_below hA) (Nat.le_refl _) x _ hx⟩, trivial⟩
set_option maxRecDepth 20000 in
theorem pbehind_no (R : Nat) (L : List Tk) (nx : Nat) (d at_ er : Int) (s : ByteArray) (w : World) (h : RdAt w R L nx d at_ er) (hn : nx < L.length) (hL : L.length ≤ 1000000) (hc : ((tkD L nx).t.toList == s.toList) = false) :
    Calls Tryz.prog 139 #[.pointer (some ⟨R, 0, none⟩), .string s] w fun e w' => (∃ kv, e = .returned kv ∧ kidsAt w.heap.size w' [] kv) ∧ RdAt w' R L nx d at_ er ∧ Butt R w w' := by
  have CA := paccept_any R L nx d at_ er s w h hn hL
  rw [hc, if_neg Bool.false_ne_true] at CA
  have KA := Lib.hid CA
  clear h hn hL hc CA
  go_enter Tryz.func139, Tryz.ntmps139
  go_wp2_with (go_at_call 84; refine (KA.out).mono ?_; rintro e w3 ⟨rfl, hr3, hb3⟩; refine Hid.out ?_)
  have HR := Lib.hid hr3; have HB := Lib.hid hb3
  clear hr3 hb3
  refine Lib.hid ?_
  go_wp2
  go_ret
  exact ⟨⟨_, rfl, .inl ⟨rfl, rfl⟩⟩, HR.out, HB.out⟩
set_option maxRecDepth 20000 in
theorem pbehind_yes (R : Nat) (L : List Tk) (nx n1 : Nat) (d at_ er : Int) (s : ByteArray) (w : World) (h : RdAt w R L nx d at_ er) (hn : nx < L.length) (hL : L.length ≤ 1000000) (hc : ((tkD L nx).t.toList == s.toList) = true) (h1 : min (nx + 1) (L.length - 1) = n1)
    (hs : (tkD L n1).t.size ≤ 9223372036854775807) (ht : ClsAt R w) :
    Calls Tryz.prog 139 #[.pointer (some ⟨R, 0, none⟩), .string s] w fun e w' =>
      (∃ kv, e = .returned kv ∧ kidsAt w.heap.size w' [.mk 19 (tkM L n1 (isN (tkD L n1))).a (tkM L n1 (isN (tkD L n1))).t 0 []] kv) ∧ RdAt w' R L (nxM L n1 (isN (tkD L n1))) d (atM L n1 at_ er (isN (tkD L n1))) (erM er (isN (tkD L n1))) ∧ Butt R w w' := by
  have CA := paccept_any R L nx d at_ er s w h hn hL
  rw [hc, if_pos rfl, h1] at CA
  have hn1 : n1 < L.length := by omega
  have CB := fun W (hb : Butt R w W) (H : RdAt W R L n1 d at_ er) => pbare_any R L n1 d at_ er W H hn1 hL hs (ht.keep (hb.below h.lt))
  generalize isN (tkD L n1) = can at *
  generalize tkM L n1 can = T at *
  generalize nxM L n1 can = NX at *
  generalize atM L n1 at_ er can = AT at *
  generalize erM er can = ER at *
  obtain ⟨tk, tt, ta⟩ := T
  dsimp only at *
  have KA := Lib.hid CA; have KB := Lib.hid CB
  clear h hn hL hc CA CB hs ht h1 hn1
  go_enter Tryz.func139, Tryz.ntmps139
  go_wp2_with (go_at_call 84; refine (KA.out).mono ?_; rintro e w3 ⟨rfl, hr3, hb3⟩; refine Hid.out ?_)
  have HR := Lib.hid hr3; have HB := Lib.hid hb3
  clear hr3 hb3
  refine Lib.hid ?_
  go_wp2_with (go_at_call 97; refine (KB.out _ HB.out HR.out).mono ?_; rintro e w4 ⟨rfl, hr4, hb4⟩; refine Hid.out ?_)
  have HR4 := Lib.hid hr4; have HB4 := Lib.hid (HB.out.trans hb4)
  clear hr4 hb4
  refine Lib.hid ?_
  go_wp2
  go_ret
  have hlt := HR4.out.lt
  have hA : Below w4.heap.size w4 (w4.alloc (Obj.cells #[.int .i64 19, .int .i64 ta, .string tt, .int .i64 0, .slice none 0 0] 25)) := (Below.refl _ _).alloc (Nat.le_refl _) _
  exact ⟨⟨_, rfl, kids_new HB4.out.size (.mk 19 ta tt 0 []) _ _ _ _ _ (by rw [synAt]; exact ⟨_, rfl, .inl ⟨rfl, rfl⟩⟩)⟩, HR4.out.keep hA, HB4.out.trans (Butt.of_below hlt hA)⟩
structure Box5 (W : World) (p : Nat) : Prop where
  c0 : W.cell? ⟨p, 0, none⟩ = some (.int .i64 0)
  c1 : W.cell? ⟨p, 1, none⟩ = some (.int .i64 0)
  c2 : W.cell? ⟨p, 2, none⟩ = some (.string ⟨#[]⟩)
  c3 : W.cell? ⟨p, 3, none⟩ = some (.int .i64 0)
  c4 : W.cell? ⟨p, 4, none⟩ = some (.slice none 0 0)
  free : ∀ j, W.frozen? ⟨p, j, none⟩ = false
  lt : p < W.heap.size
theorem Box5.new (w : World) : Box5 (w.alloc (Obj.cells #[.int .i64 0, .int .i64 0, .string ⟨#[]⟩, .int .i64 0, .slice none 0 0] 25)) w.heap.size :=
  ⟨World.cell?_alloc_new _ _ _ _, World.cell?_alloc_new _ _ _ _, World.cell?_alloc_new _ _ _ _, World.cell?_alloc_new _ _ _ _, World.cell?_alloc_new _ _ _ _, fun _ => World.frozen?_alloc_new _ _ _ _, by simp⟩
theorem Box5.butt {R p : Nat} {W W' : World} (h : Box5 W p) (hp : p ≠ R) (hb : Butt R W W') : Box5 W' p := by
  obtain ⟨c0, c1, c2, c3, c4, hf, hl⟩ := h
  exact ⟨(hb.cell (p := ⟨p, 0, none⟩) hl hp).trans c0, (hb.cell (p := ⟨p, 1, none⟩) hl hp).trans c1, (hb.cell (p := ⟨p, 2, none⟩) hl hp).trans c2, (hb.cell (p := ⟨p, 3, none⟩) hl hp).trans c3, (hb.cell (p := ⟨p, 4, none⟩) hl hp).trans c4, fun j => (hb.frozen (p := ⟨p, j, none⟩) hl hp).trans (hf j), Nat.lt_of_lt_of_le hl hb.size⟩
abbrev BehAt (R : Nat) (L : List Tk) (w : World) (s : ByteArray) (nx : Nat) (d at_ er : Int) (kids : List Syn) (nx2 : Nat) (at2 er2 : Int) : Prop :=
  ∀ W : World, Butt R w W → RdAt W R L nx d at_ er → Calls Tryz.prog 139 #[.pointer (some ⟨R, 0, none⟩), .string s] W fun e w' => (∃ kv, e = .returned kv ∧ kidsAt W.heap.size w' kids kv) ∧ RdAt w' R L nx2 d at2 er2 ∧ Butt R W w'
set_option maxRecDepth 20000 in
set_option maxHeartbeats 1600000 in
theorem pplace_any (R : Nat) (L : List Tk) (nx nx2 : Nat) (d at_ er at2 er2 : Int) (kids : List Syn) (w : World) (h : RdAt w R L nx d at_ er) (hn : nx < L.length) (hL : L.length ≤ 1000000) (hs : (tkD L nx).t.size ≤ 9223372036854775807) (ht : ClsAt R w)
    (CB : BehAt R L w ⟨#[46]⟩ (nxM L nx (isN (tkD L nx))) d (atM L nx at_ er (isN (tkD L nx))) (erM er (isN (tkD L nx))) kids nx2 at2 er2) :
    Calls Tryz.prog 146 #[.pointer (some ⟨R, 0, none⟩)] w fun e w' =>
      (∃ v, e = .returned v ∧ synAt w.heap.size w' (.mk 18 (tkM L nx (isN (tkD L nx))).a (tkM L nx (isN (tkD L nx))).t 0 kids) v) ∧ RdAt w' R L nx2 d at2 er2 ∧ Butt R w w' := by
  have hz := (Below.refl w.heap.size w).alloc (Nat.le_refl _) (Obj.cells #[.int .i64 0, .int .i64 0, .string ⟨#[]⟩, .int .i64 0, .slice none 0 0] 25)
  have hR1 := h.keep hz
  have CM := pname_any R L nx d at_ er _ hR1 hn hL hs (ht.keep (Below.down hz (Nat.le_of_lt h.lt)))
  generalize isN (tkD L nx) = can at *
  generalize tkM L nx can = T at *
  generalize nxM L nx can = NX at *
  generalize atM L nx at_ er can = AT at *
  generalize erM er can = ER at *
  obtain ⟨tk, tt, ta⟩ := T
  unfold tkA at *
  dsimp only at *
  have CN := fun ao l c W => pnode_any 18 ta tt ao l c W
  have HB := Lib.hid (Butt.of_below (R := R) h.lt hz); have KM := Lib.hid CM; have KN := Lib.hid CN; have HLT := Lib.hid h.lt; have H0 := Lib.hid h; have KB := Lib.hid CB
  have p0 : (w.alloc (Obj.cells #[.int .i64 0, .int .i64 0, .string ⟨#[]⟩, .int .i64 0, .slice none 0 0] 25)).cell? ⟨w.heap.size, 0, none⟩ = some (.int .i64 0) := World.cell?_alloc_new _ _ _ _
  have p1 : (w.alloc (Obj.cells #[.int .i64 0, .int .i64 0, .string ⟨#[]⟩, .int .i64 0, .slice none 0 0] 25)).cell? ⟨w.heap.size, 1, none⟩ = some (.int .i64 0) := World.cell?_alloc_new _ _ _ _
  have p2 : (w.alloc (Obj.cells #[.int .i64 0, .int .i64 0, .string ⟨#[]⟩, .int .i64 0, .slice none 0 0] 25)).cell? ⟨w.heap.size, 2, none⟩ = some (.string ⟨#[]⟩) := World.cell?_alloc_new _ _ _ _
  have p3 : (w.alloc (Obj.cells #[.int .i64 0, .int .i64 0, .string ⟨#[]⟩, .int .i64 0, .slice none 0 0] 25)).cell? ⟨w.heap.size, 3, none⟩ = some (.int .i64 0) := World.cell?_alloc_new _ _ _ _
  have p4 : (w.alloc (Obj.cells #[.int .i64 0, .int .i64 0, .string ⟨#[]⟩, .int .i64 0, .slice none 0 0] 25)).cell? ⟨w.heap.size, 4, none⟩ = some (.slice none 0 0) := World.cell?_alloc_new _ _ _ _
  have ps : w.heap.size < (w.alloc (Obj.cells #[.int .i64 0, .int .i64 0, .string ⟨#[]⟩, .int .i64 0, .slice none 0 0] 25)).heap.size := by simp
  have pf : ∀ j, (w.alloc (Obj.cells #[.int .i64 0, .int .i64 0, .string ⟨#[]⟩, .int .i64 0, .slice none 0 0] 25)).frozen? ⟨w.heap.size, j, none⟩ = false := fun j => World.frozen?_alloc_new _ _ _ _
  have HP := Lib.hid (And.intro p0 (And.intro p1 (And.intro p2 (And.intro p3 (And.intro p4 (And.intro pf ps))))))
  clear h hn hL hs ht CM CN CB hR1 hz p0 p1 p2 p3 p4 ps pf
  go_enter Tryz.func146, Tryz.ntmps146
  go_wp2_with (go_at_call 85; refine (KM.out).mono ?_; rintro e w3 ⟨rfl, hr3, hb3⟩; refine Hid.out ?_)
  have hA : Below w3.heap.size w3 (w3.alloc (Obj.cells #[.int .i64 tk, .string tt, .int .i64 ta] 47)) := (Below.refl _ _).alloc (Nat.le_refl _) _
  have z0 : (w3.alloc (Obj.cells #[.int .i64 tk, .string tt, .int .i64 ta] 47)).cell? ⟨w3.heap.size, 0, none⟩ = some (.int .i64 tk) := World.cell?_alloc_new _ _ _ _
  have z1 : (w3.alloc (Obj.cells #[.int .i64 tk, .string tt, .int .i64 ta] 47)).cell? ⟨w3.heap.size, 1, none⟩ = some (.string tt) := World.cell?_alloc_new _ _ _ _
  have z2 : (w3.alloc (Obj.cells #[.int .i64 tk, .string tt, .int .i64 ta] 47)).cell? ⟨w3.heap.size, 2, none⟩ = some (.int .i64 ta) := World.cell?_alloc_new _ _ _ _
  have hr4 := hr3.keep hA
  have hb4 := HB.out.trans (hb3.trans (Butt.of_below hr3.lt hA))
  have HR4 := Lib.hid hr4
  have HB4 := Lib.hid hb4
  have HQ := Lib.hid hr3.lt
  have hpR : w.heap.size ≠ R := fun e => absurd HLT.out (by rw [e]; exact Nat.lt_irrefl _)
  have HX4 := Lib.hid (((Box5.new w).butt hpR hb3).butt hpR (Butt.of_below hr3.lt hA))
  have HPR := Lib.hid hpR
  clear hA hr3 hb3 hr4 hb4 hpR
  refine Lib.hid ?_
  go_wp2_with fail
  have zs : w3.heap.size < (w3.alloc (Obj.cells #[.int .i64 tk, .string tt, .int .i64 ta] 47)).heap.size := by simp
  have hqR : w3.heap.size ≠ R := fun e => by
    have := HQ.out
    omega
  have HZ := Lib.hid (And.intro zs hqR)
  clear zs hqR
  generalize w3.alloc (Obj.cells #[.int .i64 tk, .string tt, .int .i64 ta] 47) = W4 at *
  generalize w3.heap.size = q at *
  have HR4d := Lib.hid (HR4.out.keep (Below.refl _ _).drew)
  have HB4d := Lib.hid (HB4.out.drew)
  have HX4d := Lib.hid (HX4.out.butt HPR.out (Butt.refl R W4).drew)
  go_region_with (first | (go_at_call 139; refine (KB.out _ (by first | exact HB4.out | exact HB4d.out) (by first | exact HR4.out | exact HR4d.out)).mono ?_; rintro e w5 ⟨⟨kv, rfl, hk⟩, hr5, hb5⟩; obtain ⟨ao, n, c, rfl⟩ := hk.slice; have x1 := (hb5.cell (p := ⟨q, 1, none⟩) (by simpa using HZ.out.1) HZ.out.2).trans z1; have x2 := (hb5.cell (p := ⟨q, 2, none⟩) (by simpa using HZ.out.1) HZ.out.2).trans z2; have HX5 := Lib.hid (Box5.butt (by first | exact HX4.out | exact HX4d.out) HPR.out hb5); have HK5 := Lib.hid hk; have HR5 := Lib.hid hr5; have HB5 := Lib.hid hb5; clear hk hr5 hb5) | (go_at_call 59; refine (KN.out _ _ _ _).mono ?_; rintro e w6 ⟨rfl, hb6⟩; obtain ⟨y0, y1, y2, y3, y4, yf, yl⟩ := HX5.out.butt HPR.out (Butt.of_below HR5.out.lt hb6); have f0 := yf 0; have f1 := yf 1; have f2 := yf 2; have f3 := yf 3; have f4 := yf 4; have HB6 := Lib.hid hb6; clear hb6 yf yl))
  all_goals
    have hb6 := ((by first | exact HB4.out.trans HB5.out | exact HB4d.out.trans HB5.out) : Butt R w w5).trans (Butt.of_below HR5.out.lt HB6.out)
    have hk : kidsAt W4.heap.size w5 kids (.slice ao n c) := HK5.out
    have hlw : w.heap.size < W4.heap.size := HX4.out.lt
    have RB := Lib.hid (boxed5 H0.out hb6 (HR5.out.keep HB6.out) (Nat.le_refl _) (.int .i64 18) (.int .i64 ta) (.string tt) (.int .i64 0) (.slice ao n c))
    have KK := Lib.hid (hk.keep (((((((From.of_below HB6.out).setCell ⟨w.heap.size, 0, none⟩ hlw (.int .i64 18)).setCell ⟨w.heap.size, 1, none⟩ hlw (.int .i64 ta)).setCell ⟨w.heap.size, 2, none⟩ hlw (.string tt)).setCell ⟨w.heap.size, 3, none⟩ hlw (.int .i64 0)).setCell ⟨w.heap.size, 4, none⟩ hlw (.slice ao n c))) (Nat.le_of_lt hlw))
    obtain ⟨q0, q1, q2, q3, q4⟩ := box5 y0 y1 y2 y3 y4 (.int .i64 18) (.int .i64 ta) (.string tt) (.int .i64 0) (.slice ao n c) _ rfl
    clear hb6 hk hlw y0 y1 y2 y3 y4 f0 f1 f2 f3 f4
    go_wp2
    refine bodyPost_ret (by simp [results, Tryz.results146, go_sem, q0, q1, q2, q3, q4]; rfl) rfl ?_
    exact ⟨⟨_, rfl, synAt_mk.mpr ⟨_, rfl, KK.out⟩⟩, RB.out.1, RB.out.2⟩
set_option maxRecDepth 20000 in
set_option maxHeartbeats 1600000 in
theorem pparameter_any (R : Nat) (L : List Tk) (nx nx2 : Nat) (d at_ er at2 er2 : Int) (kids : List Syn) (w : World) (h : RdAt w R L nx d at_ er) (hn : nx < L.length) (hL : L.length ≤ 1000000) (hs : (tkD L nx).t.size ≤ 9223372036854775807) (ht : ClsAt R w)
    (CB : BehAt R L w ⟨#[58]⟩ (nxM L nx (isN (tkD L nx))) d (atM L nx at_ er (isN (tkD L nx))) (erM er (isN (tkD L nx))) kids nx2 at2 er2) :
    Calls Tryz.prog 113 #[.pointer (some ⟨R, 0, none⟩)] w fun e w' =>
      (∃ v, e = .returned v ∧ synAt w.heap.size w' (.mk 4 (tkM L nx (isN (tkD L nx))).a (tkM L nx (isN (tkD L nx))).t 0 kids) v) ∧ RdAt w' R L nx2 d at2 er2 ∧ Butt R w w' := by
  have hz := (Below.refl w.heap.size w).alloc (Nat.le_refl _) (Obj.cells #[.int .i64 0, .int .i64 0, .string ⟨#[]⟩, .int .i64 0, .slice none 0 0] 25)
  have hR1 := h.keep hz
  have CM := pname_any R L nx d at_ er _ hR1 hn hL hs (ht.keep (Below.down hz (Nat.le_of_lt h.lt)))
  generalize isN (tkD L nx) = can at *
  generalize tkM L nx can = T at *
  generalize nxM L nx can = NX at *
  generalize atM L nx at_ er can = AT at *
  generalize erM er can = ER at *
  obtain ⟨tk, tt, ta⟩ := T
  unfold tkA at *
  dsimp only at *
  have CN := fun ao l c W => pnode_any 4 ta tt ao l c W
  have HB := Lib.hid (Butt.of_below (R := R) h.lt hz); have KM := Lib.hid CM; have KN := Lib.hid CN; have HLT := Lib.hid h.lt; have H0 := Lib.hid h; have KB := Lib.hid CB
  have p0 : (w.alloc (Obj.cells #[.int .i64 0, .int .i64 0, .string ⟨#[]⟩, .int .i64 0, .slice none 0 0] 25)).cell? ⟨w.heap.size, 0, none⟩ = some (.int .i64 0) := World.cell?_alloc_new _ _ _ _
  have p1 : (w.alloc (Obj.cells #[.int .i64 0, .int .i64 0, .string ⟨#[]⟩, .int .i64 0, .slice none 0 0] 25)).cell? ⟨w.heap.size, 1, none⟩ = some (.int .i64 0) := World.cell?_alloc_new _ _ _ _
  have p2 : (w.alloc (Obj.cells #[.int .i64 0, .int .i64 0, .string ⟨#[]⟩, .int .i64 0, .slice none 0 0] 25)).cell? ⟨w.heap.size, 2, none⟩ = some (.string ⟨#[]⟩) := World.cell?_alloc_new _ _ _ _
  have p3 : (w.alloc (Obj.cells #[.int .i64 0, .int .i64 0, .string ⟨#[]⟩, .int .i64 0, .slice none 0 0] 25)).cell? ⟨w.heap.size, 3, none⟩ = some (.int .i64 0) := World.cell?_alloc_new _ _ _ _
  have p4 : (w.alloc (Obj.cells #[.int .i64 0, .int .i64 0, .string ⟨#[]⟩, .int .i64 0, .slice none 0 0] 25)).cell? ⟨w.heap.size, 4, none⟩ = some (.slice none 0 0) := World.cell?_alloc_new _ _ _ _
  have ps : w.heap.size < (w.alloc (Obj.cells #[.int .i64 0, .int .i64 0, .string ⟨#[]⟩, .int .i64 0, .slice none 0 0] 25)).heap.size := by simp
  have pf : ∀ j, (w.alloc (Obj.cells #[.int .i64 0, .int .i64 0, .string ⟨#[]⟩, .int .i64 0, .slice none 0 0] 25)).frozen? ⟨w.heap.size, j, none⟩ = false := fun j => World.frozen?_alloc_new _ _ _ _
  have HP := Lib.hid (And.intro p0 (And.intro p1 (And.intro p2 (And.intro p3 (And.intro p4 (And.intro pf ps))))))
  clear h hn hL hs ht CM CN CB hR1 hz p0 p1 p2 p3 p4 ps pf
  go_enter Tryz.func113, Tryz.ntmps113
  go_wp2_with (go_at_call 85; refine (KM.out).mono ?_; rintro e w3 ⟨rfl, hr3, hb3⟩; refine Hid.out ?_)
  have hA : Below w3.heap.size w3 (w3.alloc (Obj.cells #[.int .i64 tk, .string tt, .int .i64 ta] 47)) := (Below.refl _ _).alloc (Nat.le_refl _) _
  have z0 : (w3.alloc (Obj.cells #[.int .i64 tk, .string tt, .int .i64 ta] 47)).cell? ⟨w3.heap.size, 0, none⟩ = some (.int .i64 tk) := World.cell?_alloc_new _ _ _ _
  have z1 : (w3.alloc (Obj.cells #[.int .i64 tk, .string tt, .int .i64 ta] 47)).cell? ⟨w3.heap.size, 1, none⟩ = some (.string tt) := World.cell?_alloc_new _ _ _ _
  have z2 : (w3.alloc (Obj.cells #[.int .i64 tk, .string tt, .int .i64 ta] 47)).cell? ⟨w3.heap.size, 2, none⟩ = some (.int .i64 ta) := World.cell?_alloc_new _ _ _ _
  have hr4 := hr3.keep hA
  have hb4 := HB.out.trans (hb3.trans (Butt.of_below hr3.lt hA))
  have HR4 := Lib.hid hr4
  have HB4 := Lib.hid hb4
  have HQ := Lib.hid hr3.lt
  have hpR : w.heap.size ≠ R := fun e => absurd HLT.out (by rw [e]; exact Nat.lt_irrefl _)
  have HX4 := Lib.hid (((Box5.new w).butt hpR hb3).butt hpR (Butt.of_below hr3.lt hA))
  have HPR := Lib.hid hpR
  clear hA hr3 hb3 hr4 hb4 hpR
  refine Lib.hid ?_
  go_wp2_with fail
  have zs : w3.heap.size < (w3.alloc (Obj.cells #[.int .i64 tk, .string tt, .int .i64 ta] 47)).heap.size := by simp
  have hqR : w3.heap.size ≠ R := fun e => by
    have := HQ.out
    omega
  have HZ := Lib.hid (And.intro zs hqR)
  clear zs hqR
  generalize w3.alloc (Obj.cells #[.int .i64 tk, .string tt, .int .i64 ta] 47) = W4 at *
  generalize w3.heap.size = q at *
  have HR4d := Lib.hid (HR4.out.keep (Below.refl _ _).drew)
  have HB4d := Lib.hid (HB4.out.drew)
  have HX4d := Lib.hid (HX4.out.butt HPR.out (Butt.refl R W4).drew)
  go_region_with (first | (go_at_call 139; refine (KB.out _ (by first | exact HB4.out | exact HB4d.out) (by first | exact HR4.out | exact HR4d.out)).mono ?_; rintro e w5 ⟨⟨kv, rfl, hk⟩, hr5, hb5⟩; obtain ⟨ao, n, c, rfl⟩ := hk.slice; have x1 := (hb5.cell (p := ⟨q, 1, none⟩) (by simpa using HZ.out.1) HZ.out.2).trans z1; have x2 := (hb5.cell (p := ⟨q, 2, none⟩) (by simpa using HZ.out.1) HZ.out.2).trans z2; have HX5 := Lib.hid (Box5.butt (by first | exact HX4.out | exact HX4d.out) HPR.out hb5); have HK5 := Lib.hid hk; have HR5 := Lib.hid hr5; have HB5 := Lib.hid hb5; clear hk hr5 hb5) | (go_at_call 59; refine (KN.out _ _ _ _).mono ?_; rintro e w6 ⟨rfl, hb6⟩; obtain ⟨y0, y1, y2, y3, y4, yf, yl⟩ := HX5.out.butt HPR.out (Butt.of_below HR5.out.lt hb6); have f0 := yf 0; have f1 := yf 1; have f2 := yf 2; have f3 := yf 3; have f4 := yf 4; have HB6 := Lib.hid hb6; clear hb6 yf yl))
  all_goals
    have hb6 := ((by first | exact HB4.out.trans HB5.out | exact HB4d.out.trans HB5.out) : Butt R w w5).trans (Butt.of_below HR5.out.lt HB6.out)
    have hk : kidsAt W4.heap.size w5 kids (.slice ao n c) := HK5.out
    have hlw : w.heap.size < W4.heap.size := HX4.out.lt
    have RB := Lib.hid (boxed5 H0.out hb6 (HR5.out.keep HB6.out) (Nat.le_refl _) (.int .i64 4) (.int .i64 ta) (.string tt) (.int .i64 0) (.slice ao n c))
    have KK := Lib.hid (hk.keep (((((((From.of_below HB6.out).setCell ⟨w.heap.size, 0, none⟩ hlw (.int .i64 4)).setCell ⟨w.heap.size, 1, none⟩ hlw (.int .i64 ta)).setCell ⟨w.heap.size, 2, none⟩ hlw (.string tt)).setCell ⟨w.heap.size, 3, none⟩ hlw (.int .i64 0)).setCell ⟨w.heap.size, 4, none⟩ hlw (.slice ao n c))) (Nat.le_of_lt hlw))
    obtain ⟨q0, q1, q2, q3, q4⟩ := box5 y0 y1 y2 y3 y4 (.int .i64 4) (.int .i64 ta) (.string tt) (.int .i64 0) (.slice ao n c) _ rfl
    clear hb6 hk hlw y0 y1 y2 y3 y4 f0 f1 f2 f3 f4
    go_wp2
    refine bodyPost_ret (by simp [results, Tryz.results113, go_sem, q0, q1, q2, q3, q4]; rfl) rfl ?_
    exact ⟨⟨_, rfl, synAt_mk.mpr ⟨_, rfl, KK.out⟩⟩, RB.out.1, RB.out.2⟩
set_option maxRecDepth 20000 in
theorem pstart_any (R : Nat) (L : List Tk) (nx : Nat) (d at_ er : Int) (w : World) (h : RdAt w R L nx d at_ er) (hn : nx < L.length) (hs : (tkD L nx).t.size ≤ 9223372036854775807) (ht : ClsAt R w) :
    Calls Tryz.prog 142 #[.pointer (some ⟨R, 0, none⟩)] w fun e w' => e = .returned (.string (if isN (tkD L nx) = true then ⟨#[110, 97, 109, 101]⟩ else (tkD L nx).t)) ∧ Below w.heap.size w w' := by
  have CI := pisName_any R L nx d at_ er w h hn hs ht
  have CT := fun W (H : RdAt W R L nx d at_ er) => ptoken_any R L nx d at_ er W H hn
  generalize isN (tkD L nx) = can at *
  generalize tkD L nx = T at *
  obtain ⟨tk, tt, ta⟩ := T
  dsimp only at *
  have KI := Lib.hid CI; have KT := Lib.hid CT; have H0 := Lib.hid h
  clear CI CT h hn hs ht
  have hf := run_field_tok1
  cases can with
  | true =>
    rw [if_pos rfl]
    go_enter Tryz.func142, Tryz.ntmps142
    go_wp2_with (go_at_call 111; refine (KI.out).mono ?_; rintro e w3 ⟨rfl, hb3⟩; refine Hid.out ?_)
    have HB3 := Lib.hid hb3; clear hb3
    refine Lib.hid ?_
    go_wp2
    go_ret
    exact ⟨rfl, HB3.out⟩
  | false =>
    rw [if_neg Bool.false_ne_true]
    go_enter Tryz.func142, Tryz.ntmps142
    go_wp2_with (go_at_call 111; refine (KI.out).mono ?_; rintro e w3 ⟨rfl, hb3⟩; refine Hid.out ?_)
    have HB3 := Lib.hid hb3; clear hb3
    refine Lib.hid ?_
    go_wp2_with (go_at_call 95; refine (KT.out _ (H0.out.keep HB3.out)).mono ?_; rintro e w4 ⟨rfl, hb4⟩; refine Hid.out ?_)
    have HB4 := Lib.hid (Below.chain HB3.out hb4); clear hb4
    refine Lib.hid ?_
    go_wp2
    go_ret
    exact ⟨rfl, HB4.out⟩
inductive RSt where
  | ok (l : List Tk)
  | bad (a : Int) (e : Nat)
def RSt.rem : RSt → Nat
  | .ok l => l.length
  | .bad .. => 0
def lastT (L : List Tk) : Tk := tkD L (L.length - 1)
def cur (L : List Tk) : RSt → Tk
  | .ok l => pHd l
  | .bad .. => lastT L
def takeS : RSt → RSt
  | .ok l => .ok (pTl l)
  | s => s
def needS (can : Bool) : RSt → RSt
  | .ok l => if can = true then .ok (pTl l) else .bad (pHd l).a 4
  | s => s
def failS (a : Int) (e : Nat) : RSt → RSt
  | .ok _ => .bad a e
  | s => s
def tokM (L : List Tk) (st : RSt) (can : Bool) : Tk := if can = true then cur L st else lastT L
def tIs (L : List Tk) (st : RSt) (s : ByteArray) : Bool := (cur L st).t.toList == s.toList
structure TkL (L : List Tk) : Prop where
  len : L.length ≤ 100000
  pos : L ≠ []
  size : ∀ n, (tkD L n).t.size ≤ 1000000
  last : (lastT L).k = 3 ∧ (lastT L).t = ⟨#[]⟩
def RS (R : Nat) (L : List Tk) (W : World) (d : Nat) (st : RSt) : Prop :=
  ∃ (nx : Nat) (a : Int) (er : Nat), nx < L.length ∧ RdAt W R L nx d a er ∧ ((er = 0 ∧ a = 0 ∧ st = .ok (L.drop nx)) ∨ (er ≠ 0 ∧ nx = L.length - 1 ∧ st = .bad a er))
def lvF (i : Nat) : Nat := if i = 2 ∨ i = 6 then 119 else if i = 3 then 120 else if i = 7 then 121 else 118
def lvO : Nat → List ByteArray
  | 0 => [⟨#[111, 114]⟩]
  | 1 => [⟨#[97, 110, 100]⟩]
  | 2 => [⟨#[110, 111, 116]⟩]
  | 3 => [⟨#[61]⟩, ⟨#[33, 61]⟩, ⟨#[60]⟩, ⟨#[60, 61]⟩, ⟨#[62]⟩, ⟨#[62, 61]⟩]
  | 4 => [⟨#[43]⟩, ⟨#[45]⟩]
  | 5 => [⟨#[42]⟩, ⟨#[47]⟩, ⟨#[37]⟩]
  | 6 => [⟨#[45]⟩]
  | _ => []
def opsAt (R : Nat) (W : World) (l : List ByteArray) (v : Value) : Prop :=
  (l = [] ∧ v = .slice none 0 0) ∨ ∃ b, v = .slice (some ⟨b, 0, none⟩) l.length l.length ∧ b ≠ R ∧ b < W.heap.size ∧ ∀ j, j < l.length → W.cell? ⟨b, j, none⟩ = some (.string (l.getD j ByteArray.empty))
structure Fix (R : Nat) (L : List Tk) (W : World) : Prop where
  toks : TkL L
  lt : R < W.heap.size
  cls : ClsAt R W
  errs : ∀ k, k = 2 ∨ k = 3 → k ≠ R ∧ k < W.heap.size ∧ ∃ ev, W.cell? ⟨k, 0, none⟩ = some ev ∧ (ev = .nilIface ∨ ∃ te pe, ev = .iface te pe)
  levels : ∃ b, W.cell? ⟨R, 5, none⟩ = some (.slice (some ⟨b, 0, none⟩) 8 8) ∧ b ≠ R ∧ b < W.heap.size ∧
    ∀ i, i < 8 → W.cell? ⟨b, 2 * i, none⟩ = some (.func (.func (lvF i)) #[.pointer (some ⟨R, 0, none⟩)] #[]) ∧ ∃ v, W.cell? ⟨b, 2 * i + 1, none⟩ = some v ∧ opsAt R W (lvO i) v
  stms : ∃ (m : Nat) (es : Array MapEntry) (n : Nat), W.cell? ⟨R, 6, none⟩ = some (.map (some m)) ∧ m ≠ R ∧ m < W.heap.size ∧ W.heap[m]? = some (.map es n) ∧
    (∃ i0 i1 i2 i3 i4 : Nat, ∃ q : Nat, q ≠ R ∧ q < W.heap.size ∧ W.cell? ⟨q, 0, none⟩ = some (.pointer (some ⟨R, 0, none⟩)) ∧
      es = #[⟨.string ⟨#[110, 97, 109, 101]⟩, .func (.func 122) #[.pointer (some ⟨R, 0, none⟩)] #[], i0⟩,
        ⟨.string ⟨#[105, 102]⟩, .func (.func 123) #[.pointer (some ⟨R, 0, none⟩)] #[], i1⟩,
        ⟨.string ⟨#[119, 104, 105, 108, 101]⟩, .func (.func 124) #[.pointer (some ⟨R, 0, none⟩)] #[], i2⟩,
        ⟨.string ⟨#[97, 115, 115, 101, 114, 116]⟩, .func (.func 125) #[] #[.pointer (some ⟨q, 0, none⟩)], i3⟩,
        ⟨.string ⟨#[97, 115, 115, 117, 109, 101]⟩, .func (.func 127) #[] #[.pointer (some ⟨q, 0, none⟩)], i4⟩])
theorem opsAt.butt {R : Nat} {W W' : World} {l : List ByteArray} {v : Value} (h : opsAt R W l v) (hb : Butt R W W') : opsAt R W' l v := by
  refine h.imp_right ?_
  rintro ⟨b, e, h1, h2, h3⟩
  exact ⟨b, e, h1, Nat.lt_of_lt_of_le h2 hb.size, fun j hj => (hb.cell (p := ⟨b, j, none⟩) h2 h1).trans (h3 j hj)⟩
theorem Fix.butt {R : Nat} {L : List Tk} {W W' : World} (h : Fix R L W) (hb : Butt R W W') : Fix R L W' := by
  obtain ⟨h1, h2, h3, hev, ⟨b, c5, hbR, hbl, hl⟩, m, es, n, c6, hmR, hml, hm, i0, i1, i2, i3, i4, q, hqR, hql, hq, he⟩ := h
  refine ⟨h1, Nat.lt_of_lt_of_le h2 hb.size, h3.keep (hb.below h2), fun k hk => by
    obtain ⟨g1, g2, ev, g3, g4⟩ := hev k hk
    exact ⟨g1, Nat.lt_of_lt_of_le g2 hb.size, ev, (hb.cell (p := ⟨k, 0, none⟩) g2 g1).trans g3, g4⟩, ⟨b, (hb.own 5 (.inr (Nat.le_refl _))).trans c5, hbR, Nat.lt_of_lt_of_le hbl hb.size, fun i hi => ?_⟩, m, es, n, (hb.own 6 (.inr (by decide))).trans c6, hmR, Nat.lt_of_lt_of_le hml hb.size, (hb.block m hml hmR).trans hm, i0, i1, i2, i3, i4, q, hqR, Nat.lt_of_lt_of_le hql hb.size, (hb.cell (p := ⟨q, 0, none⟩) hql hqR).trans hq, he⟩
  obtain ⟨g1, v, g2, g3⟩ := hl i hi
  exact ⟨(hb.cell (p := ⟨b, 2 * i, none⟩) hbl hbR).trans g1, v, (hb.cell (p := ⟨b, 2 * i + 1, none⟩) hbl hbR).trans g2, g3.butt hb⟩
structure At (R : Nat) (L : List Tk) (W : World) (d : Nat) (st : RSt) : Prop where
  fix : Fix R L W
  rs : RS R L W d st
theorem RS.below {R d : Nat} {L : List Tk} {W W' : World} {st : RSt} (h : RS R L W d st) (hb : Below W.heap.size W W') : RS R L W' d st := by
  obtain ⟨nx, a, er, h1, h2, h3⟩ := h
  exact ⟨nx, a, er, h1, h2.keep hb, h3⟩
theorem At.below {R d : Nat} {L : List Tk} {W W' : World} {st : RSt} (h : At R L W d st) (hb : Below W.heap.size W W') : At R L W' d st := ⟨h.fix.butt (Butt.of_below h.fix.lt hb), h.rs.below hb⟩
theorem At.alloc {R d : Nat} {L : List Tk} {W : World} {st : RSt} (h : At R L W d st) (o : Obj) : At R L (W.alloc o) d st := h.below ((Below.refl _ _).alloc (Nat.le_refl _) o)
theorem Butt.alloc {R : Nat} {w W : World} (h : Butt R w W) (hR : R < w.heap.size) (o : Obj) : Butt R w (W.alloc o) := h.trans (Butt.of_below (Nat.lt_of_lt_of_le hR h.size) ((Below.refl _ _).alloc (Nat.le_refl _) o))
theorem pHd_drop {L : List Tk} {nx : Nat} (h : nx < L.length) : pHd (L.drop nx) = tkD L nx := by rw [tkD_drop h]; rfl
theorem pTl_drop {L : List Tk} {nx : Nat} (h : nx < L.length) : pTl (L.drop nx) = L.drop (min (nx + 1) (L.length - 1)) := by
  rw [tkD_drop h]
  by_cases g : nx + 1 < L.length
  · rw [tkD_drop g, show min (nx + 1) (L.length - 1) = nx + 1 by omega, tkD_drop g]; rfl
  · rw [List.drop_eq_nil_of_le (by omega : L.length ≤ nx + 1), show min (nx + 1) (L.length - 1) = nx by omega, tkD_drop h, List.drop_eq_nil_of_le (by omega : L.length ≤ nx + 1)]; rfl
theorem cur_of {L : List Tk} {nx er : Nat} {a : Int} {st : RSt} (h : nx < L.length) (hs : (er = 0 ∧ a = 0 ∧ st = .ok (L.drop nx)) ∨ (er ≠ 0 ∧ nx = L.length - 1 ∧ st = .bad a er)) : cur L st = tkD L nx := by
  rcases hs with ⟨-, -, rfl⟩ | ⟨-, rfl, rfl⟩
  · exact pHd_drop h
  · rfl
theorem take_of {L : List Tk} {nx er : Nat} {a : Int} {st : RSt} (h : nx < L.length) (hs : (er = 0 ∧ a = 0 ∧ st = .ok (L.drop nx)) ∨ (er ≠ 0 ∧ nx = L.length - 1 ∧ st = .bad a er)) :
    (er = 0 ∧ a = 0 ∧ takeS st = .ok (L.drop (min (nx + 1) (L.length - 1)))) ∨ (er ≠ 0 ∧ min (nx + 1) (L.length - 1) = L.length - 1 ∧ takeS st = .bad a er) := by
  rcases hs with ⟨h1, h2, rfl⟩ | ⟨h1, rfl, rfl⟩
  · exact .inl ⟨h1, h2, by show RSt.ok (pTl (L.drop nx)) = _; rw [pTl_drop h]⟩
  · exact .inr ⟨h1, by omega, rfl⟩
theorem need_of {L : List Tk} {nx er d R : Nat} {a : Int} {st : RSt} {W : World} (can : Bool) (h : nx < L.length) (hs : (er = 0 ∧ a = 0 ∧ st = .ok (L.drop nx)) ∨ (er ≠ 0 ∧ nx = L.length - 1 ∧ st = .bad a er))
    (hr : RdAt W R L (nxM L nx can) d (atM L nx a er can) (erM er can)) : RS R L W d (needS can st) := by
  unfold nxM atM erM at hr
  cases can with
  | true =>
    simp only [if_true] at hr
    have e : needS true st = takeS st := by cases st <;> rfl
    rw [e]
    exact ⟨_, a, er, by omega, hr, take_of h hs⟩
  | false =>
    simp only [Bool.false_eq_true, if_false] at hr
    rcases hs with ⟨rfl, rfl, rfl⟩ | ⟨h1, rfl, rfl⟩
    · simp only [Int.natCast_zero, if_true] at hr
      refine ⟨L.length - 1, (tkD L nx).a, 4, by omega, hr, .inr ⟨by decide, rfl, ?_⟩⟩
      show RSt.bad (pHd (L.drop nx)).a 4 = _
      rw [pHd_drop h]
    · rw [if_neg (by omega), if_neg (by omega)] at hr
      exact ⟨_, a, er, h, hr, .inr ⟨h1, rfl, rfl⟩⟩
theorem tok_of {L : List Tk} {nx er : Nat} {a : Int} {st : RSt} (can : Bool) (h : nx < L.length) (hs : (er = 0 ∧ a = 0 ∧ st = .ok (L.drop nx)) ∨ (er ≠ 0 ∧ nx = L.length - 1 ∧ st = .bad a er)) : tkM L nx can = tokM L st can := by
  unfold tkM tokM
  rw [cur_of h hs]
  cases can <;> rfl
section
variable {R : Nat} {L : List Tk} {d : Nat} {st : RSt} {w : World}
theorem stoken (h : At R L w d st) : Calls Tryz.prog 95 #[.pointer (some ⟨R, 0, none⟩)] w fun e w' => e = .returned (tkA (cur L st)) ∧ At R L w' d st ∧ Butt R w w' := by
  obtain ⟨hf, nx, a, er, h1, h2, h3⟩ := h
  rw [cur_of h1 h3]
  refine (ptoken_any R L nx d a er w h2 h1).mono ?_
  rintro e w' ⟨rfl, hb⟩
  exact ⟨rfl, At.below ⟨hf, nx, a, er, h1, h2, h3⟩ hb, Butt.of_below hf.lt hb⟩
theorem shere (h : At R L w d st) : Calls Tryz.prog 56 #[.pointer (some ⟨R, 0, none⟩)] w fun e w' => e = .returned (.int .i64 (cur L st).a) ∧ At R L w' d st ∧ Butt R w w' := by
  obtain ⟨hf, nx, a, er, h1, h2, h3⟩ := h
  rw [cur_of h1 h3]
  refine (phere_any R L nx d a er w h2 h1).mono ?_
  rintro e w' ⟨rfl, hb⟩
  exact ⟨rfl, At.below ⟨hf, nx, a, er, h1, h2, h3⟩ hb, Butt.of_below hf.lt hb⟩
theorem sis (h : At R L w d st) (s : ByteArray) : Calls Tryz.prog 57 #[.pointer (some ⟨R, 0, none⟩), .string s] w fun e w' => e = .returned (.bool (tIs L st s)) ∧ At R L w' d st ∧ Butt R w w' := by
  obtain ⟨hf, nx, a, er, h1, h2, h3⟩ := h
  unfold tIs
  rw [cur_of h1 h3]
  refine (pis_any R L nx d a er s w h2 h1).mono ?_
  rintro e w' ⟨rfl, hb⟩
  exact ⟨rfl, At.below ⟨hf, nx, a, er, h1, h2, h3⟩ hb, Butt.of_below hf.lt hb⟩
theorem sisNumber (h : At R L w d st) : Calls Tryz.prog 145 #[.pointer (some ⟨R, 0, none⟩)] w fun e w' => e = .returned (.bool ((cur L st).k == 1)) ∧ At R L w' d st ∧ Butt R w w' := by
  obtain ⟨hf, nx, a, er, h1, h2, h3⟩ := h
  rw [cur_of h1 h3]
  refine (pisNumber_any R L nx d a er w h2 h1).mono ?_
  rintro e w' ⟨rfl, hb⟩
  exact ⟨rfl, At.below ⟨hf, nx, a, er, h1, h2, h3⟩ hb, Butt.of_below hf.lt hb⟩
theorem sisName (h : At R L w d st) : Calls Tryz.prog 111 #[.pointer (some ⟨R, 0, none⟩)] w fun e w' => e = .returned (.bool (isN (cur L st))) ∧ At R L w' d st ∧ Butt R w w' := by
  obtain ⟨hf, nx, a, er, h1, h2, h3⟩ := h
  rw [cur_of h1 h3]
  refine (pisName_any R L nx d a er w h2 h1 (Nat.le_trans (hf.toks.size nx) (by decide)) hf.cls).mono ?_
  rintro e w' ⟨rfl, hb⟩
  exact ⟨rfl, At.below ⟨hf, nx, a, er, h1, h2, h3⟩ hb, Butt.of_below hf.lt hb⟩
theorem stake (h : At R L w d st) : Calls Tryz.prog 110 #[.pointer (some ⟨R, 0, none⟩)] w fun e w' => e = .returned (tkA (cur L st)) ∧ At R L w' d (takeS st) ∧ Butt R w w' := by
  obtain ⟨hf, nx, a, er, h1, h2, h3⟩ := h
  rw [cur_of h1 h3]
  refine (ptake_any R L nx d a er w h2 h1 (Nat.le_trans hf.toks.len (by decide))).mono ?_
  rintro e w' ⟨rfl, hr, hb⟩
  exact ⟨rfl, ⟨hf.butt hb, _, a, er, by omega, hr, take_of h1 h3⟩, hb⟩
theorem saccept (h : At R L w d st) (s : ByteArray) : Calls Tryz.prog 84 #[.pointer (some ⟨R, 0, none⟩), .string s] w fun e w' => e = .returned (.bool (tIs L st s)) ∧ At R L w' d (if tIs L st s = true then takeS st else st) ∧ Butt R w w' := by
  obtain ⟨hf, nx, a, er, h1, h2, h3⟩ := h
  unfold tIs
  rw [cur_of h1 h3]
  refine (paccept_any R L nx d a er s w h2 h1 (Nat.le_trans hf.toks.len (by decide))).mono ?_
  rintro e w' ⟨rfl, hr, hb⟩
  refine ⟨rfl, ⟨hf.butt hb, ?_⟩, hb⟩
  by_cases c : ((tkD L nx).t.toList == s.toList) = true
  · rw [if_pos c] at hr ⊢
    exact ⟨_, a, er, by omega, hr, take_of h1 h3⟩
  · rw [if_neg c] at hr ⊢
    exact ⟨_, a, er, h1, hr, h3⟩
theorem sexpect (h : At R L w d st) (s : ByteArray) : Calls Tryz.prog 55 #[.pointer (some ⟨R, 0, none⟩), .string s] w fun e w' => e = .returned (tkA (tokM L st (tIs L st s))) ∧ At R L w' d (needS (tIs L st s) st) ∧ Butt R w w' := by
  obtain ⟨hf, nx, a, er, h1, h2, h3⟩ := h
  unfold tIs
  rw [cur_of h1 h3]
  refine (pexpect_any R L nx d a er s w h2 h1 (Nat.le_trans hf.toks.len (by decide))).mono ?_
  rintro e w' ⟨rfl, hr, hb⟩
  exact ⟨by rw [tok_of _ h1 h3], ⟨hf.butt hb, need_of _ h1 h3 hr⟩, hb⟩
theorem sname (h : At R L w d st) : Calls Tryz.prog 85 #[.pointer (some ⟨R, 0, none⟩)] w fun e w' => e = .returned (tkA (tokM L st (isN (cur L st)))) ∧ At R L w' d (needS (isN (cur L st)) st) ∧ Butt R w w' := by
  obtain ⟨hf, nx, a, er, h1, h2, h3⟩ := h
  rw [cur_of h1 h3]
  refine (pname_any R L nx d a er w h2 h1 (Nat.le_trans hf.toks.len (by decide)) (Nat.le_trans (hf.toks.size nx) (by decide)) hf.cls).mono ?_
  rintro e w' ⟨rfl, hr, hb⟩
  exact ⟨by rw [tok_of _ h1 h3], ⟨hf.butt hb, need_of _ h1 h3 hr⟩, hb⟩
theorem sleave (h : At R L w (d + 1) st) (hd : d ≤ 999999) : Calls Tryz.prog 117 #[.pointer (some ⟨R, 0, none⟩)] w fun e w' => e = .returned (.tuple #[]) ∧ At R L w' d st ∧ Butt R w w' := by
  obtain ⟨hf, nx, a, er, h1, h2, h3⟩ := h
  refine (pleave_any R L nx _ a er w h2 (by omega)).mono ?_
  rintro e w' ⟨rfl, hr, hb⟩
  rw [show (((d + 1 : Nat) : Int) - 1) = (d : Int) by omega] at hr
  exact ⟨rfl, ⟨hf.butt hb, nx, a, er, h1, hr, h3⟩, hb⟩
def enterS (L : List Tk) (st : RSt) (d : Nat) (can : Bool) : RSt := if d = 64 then failS (tokM L st can).a 12 (needS can st) else needS can st
theorem senter (h : At R L w d st) (hd : d ≤ 999999) (s : ByteArray) : Calls Tryz.prog 114 #[.pointer (some ⟨R, 0, none⟩), .string s] w fun e w' => e = .returned (tkA (tokM L st (tIs L st s))) ∧ At R L w' (d + 1) (enterS L st d (tIs L st s)) ∧ Butt R w w' := by
  obtain ⟨hf, nx, a, er, h1, h2, h3⟩ := h
  unfold tIs
  rw [cur_of h1 h3]
  refine (penter_any R L nx d a er s w h2 h1 (Nat.le_trans hf.toks.len (by decide)) (by omega)).mono ?_
  rintro e w' ⟨rfl, hr, hb⟩
  refine ⟨by rw [tok_of _ h1 h3], ⟨hf.butt hb, ?_⟩, hb⟩
  unfold enterS
  by_cases h64 : d = 64
  · have h64' : (d : Int) = 64 := by omega
    rw [if_pos h64', if_pos h64', if_pos h64'] at hr
    rw [if_pos h64, ← tok_of _ h1 h3]
    generalize ((tkD L nx).t.toList == s.toList) = can at *
    unfold atF erF at hr
    rcases h3 with ⟨rfl, rfl, rfl⟩ | ⟨g1, rfl, rfl⟩
    · cases can with
      | true =>
        simp only [erM, atM, if_true, Int.natCast_zero] at hr
        exact ⟨_, _, 12, by omega, hr, .inr ⟨by decide, rfl, rfl⟩⟩
      | false =>
        simp only [erM, atM, if_true, Int.natCast_zero, Bool.false_eq_true, if_false] at hr
        rw [if_neg (by decide), if_neg (by decide)] at hr
        refine ⟨_, _, 4, by omega, hr, .inr ⟨by decide, rfl, ?_⟩⟩
        unfold failS needS
        simp only [Bool.false_eq_true, if_false]
        rw [pHd_drop h1]
    · have e1 : erM er can = (er : Int) := by unfold erM; cases can with | true => rfl | false => rw [if_neg Bool.false_ne_true]; exact if_neg (fun g : (er : Int) = 0 => g1 (by omega))
      have e2 : atM L (L.length - 1) a er can = a := by unfold atM; cases can with | true => rfl | false => rw [if_neg Bool.false_ne_true]; exact if_neg (fun g : (er : Int) = 0 => g1 (by omega))
      rw [e1, e2, if_neg (by omega), if_neg (by omega)] at hr
      exact ⟨_, _, er, by omega, hr, .inr ⟨g1, rfl, rfl⟩⟩
  · have h64' : ¬ (d : Int) = 64 := by omega
    rw [if_neg h64', if_neg h64', if_neg h64'] at hr
    rw [if_neg h64]
    have := need_of (d := d + 1) _ h1 h3 hr
    exact this
end
end Go.Proofs.YtdibcllakkjegaaGreatDoor
