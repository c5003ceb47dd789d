import Derived.Test.YtdibcllakkjegaaGreatDoorCut4
import Derived.Test.YtdibcllakkjegaaGreatDoorShelfP
import Derived.WalkMore
import Derived.Test.YtdibcllakkjegaaGreatDoorCut3
import Derived.BigQuiet
import Derived.Deep.QuietTactic

set_option linter.unusedVariables false
/-
  lexer.Words, Name.
-/
set_option linter.unusedSimpArgs false
set_option linter.unusedVariables false
namespace Go.Proofs.YtdibcllakkjegaaGreatDoor
open Go Go.Proofs Go.RowKit
def wordsL : List ByteArray := [(⟨#[97, 110, 100]⟩ : ByteArray), (⟨#[97, 114, 114, 97, 121]⟩ : ByteArray), (⟨#[97, 115, 115, 101, 114, 116]⟩ : ByteArray), (⟨#[97, 115, 115, 117, 109, 101]⟩ : ByteArray), (⟨#[101, 108, 115, 101]⟩ : ByteArray), (⟨#[101, 110, 115, 117, 114, 101, 115]⟩ : ByteArray), (⟨#[102, 97, 108, 115, 101]⟩ : ByteArray), (⟨#[105, 102]⟩ : ByteArray), (⟨#[105, 109, 112, 111, 114, 116]⟩ : ByteArray), (⟨#[105, 110, 112, 117, 116]⟩ : ByteArray), (⟨#[110, 111, 116]⟩ : ByteArray), (⟨#[111, 114]⟩ : ByteArray), (⟨#[112, 114, 111, 99]⟩ : ByteArray), (⟨#[114, 101, 99, 111, 114, 100]⟩ : ByteArray), (⟨#[114, 101, 113, 117, 105, 114, 101, 115]⟩ : ByteArray), (⟨#[114, 101, 116, 117, 114, 110, 115]⟩ : ByteArray), (⟨#[116, 114, 117, 101]⟩ : ByteArray), (⟨#[118, 97, 114]⟩ : ByteArray), (⟨#[119, 104, 105, 108, 101]⟩ : ByteArray)]
theorem words_any (w : World) :
    Calls Tryz.prog 162 #[] w fun e w' => e = .returned (.slice (some ⟨w.heap.size, 0, none⟩) 19 19) ∧ w' = w.alloc (Obj.cells (wordsL.map Value.string).toArray 9) := by
  go_enter Tryz.func162, Tryz.ntmps162
  go_wp2
  go_ret
  exact ⟨rfl, rfl⟩
def nmE (s : ByteArray) : Nat := if iwB (bytes s) = true ∧ Lib.containsS wordsL s = false then 0 else 8
set_option maxHeartbeats 400000 in
theorem name_any (s : ByteArray) (hs : s.size ≤ 9223372036854775807) (w : World) (ht : Lib.TabIs Tryz.prog w "surveyor/lexer.classes" .u8 clsTab) :
    Calls Tryz.prog 138 #[.string s] w fun e w' => e = .returned (.int .i64 (nmE s : Nat)) ∧ Below w.heap.size w w' := by
  have CI := isWord_any s hs w ht
  have CW := words_any w
  have CC : Calls Tryz.prog 161 #[.slice (some ⟨w.heap.size, 0, none⟩) 19 19, .string s] (w.alloc (Obj.cells (wordsL.map Value.string).toArray 9)) fun e w' => e = .returned (.bool (Lib.containsS wordsL s)) ∧ w' = w.alloc (Obj.cells (wordsL.map Value.string).toArray 9) := by
    have := Tryz.slices_Contains_string w.heap.size 0 19 19 wordsL s (w.alloc (Obj.cells (wordsL.map Value.string).toArray 9)) (by decide) (by decide) (fun j hj => by
      rw [Nat.zero_add, World.cell?_alloc_new]
      simp only [List.getElem?_toArray, List.getElem?_map, List.getD_eq_getElem?_getD, List.getElem?_eq_getElem hj]
      rfl)
    rwa [show wordsL.take 19 = wordsL from rfl] at this
  have hB : Below w.heap.size w (w.alloc (Obj.cells (wordsL.map Value.string).toArray 9)) := (Below.refl _ _).alloc (Nat.le_refl _) _
  unfold nmE
  generalize (Obj.cells (wordsL.map Value.string).toArray 9) = O at *
  generalize Lib.containsS wordsL s = v at *
  cases hi : iwB (bytes s)
  · rw [if_neg (by rintro ⟨h, -⟩; cases h)]
    rw [hi] at CI
    have KI := Lib.hid CI
    clear CI CW CC ht hB hi
    go_enter Tryz.func138, Tryz.ntmps138
    go_wp2_with (go_at_call 160; refine KI.out.mono ?_; rintro e w3 ⟨rfl, h⟩; subst h; refine Hid.out ?_)
    refine Lib.hid ?_
    go_wp2
    go_ret
    exact ⟨rfl, Below.refl _ _⟩
  · rw [hi] at CI
    have KI := Lib.hid CI; have KW := Lib.hid CW; have KC := Lib.hid CC; have HB := Lib.hid hB
    clear CI CW CC ht hB hi
    cases v
    · rw [if_pos ⟨rfl, rfl⟩]
      go_enter Tryz.func138, Tryz.ntmps138
      go_wp2_with (go_at_call 160; refine KI.out.mono ?_; rintro e w3 ⟨rfl, h⟩; subst h; refine Hid.out ?_)
      refine Lib.hid ?_
      go_wp2_with (go_at_call 162; refine KW.out.mono ?_; rintro e w4 ⟨rfl, h⟩; subst h; refine Hid.out ?_)
      refine Lib.hid ?_
      go_wp2_with (go_at_call 161; refine KC.out.mono ?_; rintro e w4 ⟨rfl, h⟩; subst h; refine Hid.out ?_)
      refine Lib.hid ?_
      go_wp2
      go_ret
      exact ⟨rfl, HB.out⟩
    · rw [if_neg (by rintro ⟨-, h⟩; cases h)]
      go_enter Tryz.func138, Tryz.ntmps138
      go_wp2_with (go_at_call 160; refine KI.out.mono ?_; rintro e w3 ⟨rfl, h⟩; subst h; refine Hid.out ?_)
      refine Lib.hid ?_
      go_wp2_with (go_at_call 162; refine KW.out.mono ?_; rintro e w4 ⟨rfl, h⟩; subst h; refine Hid.out ?_)
      refine Lib.hid ?_
      go_wp2_with (go_at_call 161; refine KC.out.mono ?_; rintro e w4 ⟨rfl, h⟩; subst h; refine Hid.out ?_)
      refine Lib.hid ?_
      go_wp2
      go_ret
      exact ⟨rfl, HB.out⟩
set_option maxRecDepth 20000 in
theorem pleave_any (R : Nat) (L : List Tk) (nx d at_ er : Int) (w : World) (h : RdAt w R L nx d at_ er) (hd : 0 ≤ d ∧ d ≤ 1000000) :
    Calls Tryz.prog 117 #[.pointer (some ⟨R, 0, none⟩)] w fun x w' => x = .returned (.tuple #[]) ∧ RdAt w' R L nx (d - 1) at_ er ∧ Butt R w w' := by
  have HR := Lib.hid h
  have u1 := (show wrap64 (d - 1) = d - 1 by unfold wrap64; omega)
  have h2 := h.c2
  have f2 := h.free 2
  clear h hd
  go_enter Tryz.func117, Tryz.ntmps117
  go_wp2
  go_end0
  exact ⟨rfl, HR.out.put 2 (by decide) _, (Butt.refl R w).setCell 2 (by decide) _⟩
set_option maxRecDepth 20000 in
theorem pisNumber_any (R : Nat) (L : List Tk) (nx : Nat) (d at_ er : Int) (w : World) (h : RdAt w R L nx d at_ er) (hn : nx < L.length) :
    Calls Tryz.prog 145 #[.pointer (some ⟨R, 0, none⟩)] w fun e w' => e = .returned (.bool ((tkD L nx).k == 1)) ∧ Below w.heap.size w w' := by
  have CT := ptoken_any R L nx d at_ er w h hn
  clear h hn
  generalize tkD L nx = T at *
  obtain ⟨tk, tt, ta⟩ := T
  dsimp only at CT
  dsimp only
  have KT := Lib.hid CT
  clear CT
  have hf := run_field_tok0
  go_enter Tryz.func145, Tryz.ntmps145
  go_wp2_with (go_at_call 95; refine KT.out.mono ?_; rintro e w3 ⟨rfl, hb3⟩; refine Hid.out ?_)
  have HB3 := Lib.hid hb3; clear hb3
  refine Lib.hid ?_
  go_wp2
  go_ret
  exact ⟨rfl, HB3.out⟩
set_option maxRecDepth 20000 in
theorem pfail_any (R : Nat) (L : List Tk) (nx d at_ er a e : Int) (w : World) (h : RdAt w R L nx d at_ er) (hL : L.length ≤ 1000000) :
    Calls Tryz.prog 128 #[.pointer (some ⟨R, 0, none⟩), .int .i64 a, .int .i64 e] w fun x w' => x = .returned (.tuple #[]) ∧ RdAt w' R L ((L.length - 1 : Nat) : Int) d (if er = 0 then a else at_) (if er = 0 then e else er) ∧ Butt R w w' := by
  have HR := Lib.hid h
  have hlt := h.pos
  obtain ⟨m, hm⟩ : ∃ m, L.length = m + 1 := ⟨L.length - 1, by have := List.length_pos_iff.mpr hlt; omega⟩
  rw [hm, Nat.add_sub_cancel]
  have u2 := (show wrap64 ((m : Int) + 1 - 1) = (m : Int) by unfold wrap64; omega)
  have u3 := (show wrap64 (m : Int) = (m : Int) by unfold wrap64; omega)
  obtain ⟨⟨b, o, c, r0, -, r2, -⟩, h1, h2, h3, h4, h5, h6, -⟩ := h
  rw [hm] at r0
  have f1 := h6 1
  have f3 := h6 3
  have f4 := h6 4
  clear h6 hL hm hlt
  by_cases he : er = 0
  · subst he
    rw [if_pos rfl, if_pos rfl]
    go_enter Tryz.func128, Tryz.ntmps128
    go_wp2
    go_end0
    exact ⟨rfl, ((HR.out.put 3 (by decide) a).put 4 (by decide) e).put 1 (by decide) m, (((Butt.refl R w).setCell 3 (by decide) _).setCell 4 (by decide) _).setCell 1 (by decide) _⟩
  · rw [if_neg he, if_neg he]
    have te : (er == (0 : Int)) = false := by rw [beq_eq_false_iff_ne]; omega
    have He := Lib.hid he; clear he
    go_enter Tryz.func128, Tryz.ntmps128
    go_wp2
    go_end0
    exact ⟨rfl, HR.out.put 1 (by decide) m, (Butt.refl R w).setCell 1 (by decide) _⟩
def tkA (t : Tk) : Value := .agg #[.int .i64 t.k, .string t.t, .int .i64 t.a]
set_option maxRecDepth 20000 in
theorem pmust_any (R : Nat) (L : List Tk) (nx : Nat) (d at_ er : Int) (can : Bool) (w : World) (h : RdAt w R L nx d at_ er) (hn : nx < L.length) (hL : L.length ≤ 1000000) :
    Calls Tryz.prog 94 #[.pointer (some ⟨R, 0, none⟩), .bool can] w fun e w' =>
      e = .returned (tkA (tkD L (if can = true then nx else L.length - 1))) ∧
      RdAt w' R L (if can = true then min (nx + 1) (L.length - 1) else L.length - 1 : Nat) d (if can = true then at_ else if er = 0 then (tkD L nx).a else at_) (if can = true then er else if er = 0 then 4 else er) ∧ Butt R w w' := by
  have hz := (Below.refl w.heap.size w).alloc (Nat.le_refl _) (Obj.cells #[.int .i64 0, .string ⟨#[]⟩, .int .i64 0] 47)
  have hR1 := h.keep hz
  have hlen : L.length - 1 < L.length := by have := List.length_pos_iff.mpr h.pos; omega
  have hmin : min (L.length - 1 + 1) (L.length - 1) = L.length - 1 := by omega
  have CT := ptake_any R L
  have CH := phere_any R L nx d at_ er _ hR1 hn
  have CF := fun a W H => pfail_any R L nx d at_ er a 4 W H hL
  have HB := Lib.hid (Butt.of_below (R := R) h.lt hz); have HR1 := Lib.hid hR1; have KT := Lib.hid CT; have KH := Lib.hid CH; have KF := Lib.hid CF; have HN := Lib.hid hn; have HL := Lib.hid hL; have HE := Lib.hid hlen; have HM := Lib.hid hmin; have HLT := Lib.hid h.lt; have H0 := Lib.hid h
  have p0 : (w.alloc (Obj.cells #[.int .i64 0, .string ⟨#[]⟩, .int .i64 0] 47)).cell? ⟨w.heap.size, 0, none⟩ = some (.int .i64 0) := World.cell?_alloc_new _ _ _ _
  have p1 : (w.alloc (Obj.cells #[.int .i64 0, .string ⟨#[]⟩, .int .i64 0] 47)).cell? ⟨w.heap.size, 1, none⟩ = some (.string ⟨#[]⟩) := World.cell?_alloc_new _ _ _ _
  have p2 : (w.alloc (Obj.cells #[.int .i64 0, .string ⟨#[]⟩, .int .i64 0] 47)).cell? ⟨w.heap.size, 2, none⟩ = some (.int .i64 0) := World.cell?_alloc_new _ _ _ _
  have ps : w.heap.size < (w.alloc (Obj.cells #[.int .i64 0, .string ⟨#[]⟩, .int .i64 0] 47)).heap.size := by simp
  have pf : ∀ j, (w.alloc (Obj.cells #[.int .i64 0, .string ⟨#[]⟩, .int .i64 0] 47)).frozen? ⟨w.heap.size, j, none⟩ = false := fun j => World.frozen?_alloc_new _ _ _ _
  have HP := Lib.hid (And.intro p0 (And.intro p1 (And.intro p2 (And.intro pf ps))))
  clear h hn hL CT CH CF hR1 hz hlen hmin p0 p1 p2 pf ps
  cases can with
  | true =>
    rw [if_pos rfl, if_pos rfl, if_pos rfl, if_pos rfl]
    go_enter Tryz.func94, Tryz.ntmps94
    go_wp2_with (go_at_call 110; refine (KT.out nx d at_ er _ HR1.out HN.out HL.out).mono ?_; rintro e w3 ⟨rfl, hr3, hb3⟩; refine Hid.out ?_)
    obtain ⟨p0, p1, p2, pf, ps⟩ := HP.out
    have hpR : w.heap.size ≠ R := fun e => absurd HLT.out (by rw [e]; exact Nat.lt_irrefl _)
    have y0 := (hb3.cell (p := ⟨w.heap.size, 0, none⟩) ps hpR).trans p0
    have y1 := (hb3.cell (p := ⟨w.heap.size, 1, none⟩) ps hpR).trans p1
    have y2 := (hb3.cell (p := ⟨w.heap.size, 2, none⟩) ps hpR).trans p2
    have f0 := (hb3.frozen (p := ⟨w.heap.size, 0, none⟩) ps hpR).trans (pf 0)
    have f1 := (hb3.frozen (p := ⟨w.heap.size, 1, none⟩) ps hpR).trans (pf 1)
    have f2 := (hb3.frozen (p := ⟨w.heap.size, 2, none⟩) ps hpR).trans (pf 2)
    have RB := Lib.hid (boxed H0.out (HB.out.trans hb3) hr3 (Nat.le_refl _) (.int .i64 (tkD L nx).k) (.string (tkD L nx).t) (.int .i64 (tkD L nx).a))
    obtain ⟨q0, q1, q2⟩ := box3 y0 y1 y2 (.int .i64 (tkD L nx).k) (.string (tkD L nx).t) (.int .i64 (tkD L nx).a)
    clear p0 p1 p2 pf ps hr3 hb3
    refine Lib.hid ?_
    go_wp2
    refine bodyPost_ret (by simp [results, Tryz.results94, go_sem, q0, q1, q2]; rfl) rfl ?_
    exact ⟨rfl, RB.out.1, RB.out.2⟩
  | false =>
    rw [if_neg Bool.false_ne_true, if_neg Bool.false_ne_true, if_neg Bool.false_ne_true, if_neg Bool.false_ne_true]
    have CF := KF.out (tkD L nx).a
    clear KF
    generalize (if er = 0 then (tkD L nx).a else at_) = AT at *
    generalize (if er = 0 then (4 : Int) else er) = ER at *
    have KF := Lib.hid CF
    clear CF
    go_enter Tryz.func94, Tryz.ntmps94
    go_wp2_with (go_at_call 56; refine (KH.out).mono ?_; rintro e w3 ⟨rfl, hb3⟩; refine Hid.out ?_)
    have hr4 := HR1.out.keep hb3
    have HB3 := Lib.hid (Butt.of_below HR1.out.lt hb3)
    have HR4 := Lib.hid hr4
    clear hb3 hr4
    refine Lib.hid ?_
    go_wp2_with (go_at_call 128; refine (KF.out w3 HR4.out).mono ?_; rintro e w4 ⟨rfl, hr5, hb5⟩; refine Hid.out ?_)
    have HR5 := Lib.hid hr5
    have HB5 := Lib.hid (HB3.out.trans hb5)
    clear hr5 hb5
    refine Lib.hid ?_
    go_wp2_with (go_at_call 110; refine (KT.out (L.length - 1) d _ _ w4 HR5.out HE.out HL.out).mono ?_; rintro e w5 ⟨rfl, hr7, hb7⟩; refine Hid.out ?_)
    rw [HM.out] at hr7
    have hb6 := HB5.out.trans hb7
    clear hb7
    obtain ⟨p0, p1, p2, pf, ps⟩ := HP.out
    have hpR : w.heap.size ≠ R := fun e => absurd HLT.out (by rw [e]; exact Nat.lt_irrefl _)
    have y0 := (hb6.cell (p := ⟨w.heap.size, 0, none⟩) ps hpR).trans p0
    have y1 := (hb6.cell (p := ⟨w.heap.size, 1, none⟩) ps hpR).trans p1
    have y2 := (hb6.cell (p := ⟨w.heap.size, 2, none⟩) ps hpR).trans p2
    have f0 := (hb6.frozen (p := ⟨w.heap.size, 0, none⟩) ps hpR).trans (pf 0)
    have f1 := (hb6.frozen (p := ⟨w.heap.size, 1, none⟩) ps hpR).trans (pf 1)
    have f2 := (hb6.frozen (p := ⟨w.heap.size, 2, none⟩) ps hpR).trans (pf 2)
    have RB := Lib.hid (boxed H0.out (HB.out.trans hb6) hr7 (Nat.le_refl _) (.int .i64 (tkD L (L.length - 1)).k) (.string (tkD L (L.length - 1)).t) (.int .i64 (tkD L (L.length - 1)).a))
    obtain ⟨q0, q1, q2⟩ := box3 y0 y1 y2 (.int .i64 (tkD L (L.length - 1)).k) (.string (tkD L (L.length - 1)).t) (.int .i64 (tkD L (L.length - 1)).a)
    clear p0 p1 p2 pf ps hr7 hb6
    refine Lib.hid ?_
    go_wp2
    refine bodyPost_ret (by simp [results, Tryz.results94, go_sem, q0, q1, q2]; rfl) rfl ?_
    exact ⟨rfl, RB.out.1, RB.out.2⟩
def isN (t : Tk) : Bool := (t.k == 0) && decide (nmE t.t = 0)
def nxM (L : List Tk) (nx : Nat) (can : Bool) : Nat := if can = true then min (nx + 1) (L.length - 1) else L.length - 1
def tkM (L : List Tk) (nx : Nat) (can : Bool) : Tk := tkD L (if can = true then nx else L.length - 1)
def atM (L : List Tk) (nx : Nat) (at_ er : Int) (can : Bool) : Int := if can = true then at_ else if er = 0 then (tkD L nx).a else at_
def erM (er : Int) (can : Bool) : Int := if can = true then er else if er = 0 then 4 else er
theorem nxM_lt {L : List Tk} {nx : Nat} (hn : nx < L.length) (can : Bool) : nxM L nx can < L.length := by unfold nxM; split <;> omega
theorem Butt.below {R : Nat} {w w' : World} (hR : R < w.heap.size) (h : Butt R w w') : Below R w w' := ⟨h.os, h.tape, h.output, h.size, fun k hk => h.block k (Nat.lt_trans hk hR) (Nat.ne_of_lt hk)⟩
theorem Below.down {B C : Nat} {w w' : World} (h : Below C w w') (hB : B ≤ C) : Below B w w' := ⟨h.os, h.tape, h.output, h.size, fun k hk => h.block k (Nat.lt_of_lt_of_le hk hB)⟩
abbrev ClsAt (R : Nat) (w : World) : Prop := Lib.TabBelow Tryz.prog R w "surveyor/lexer.classes" .u8 clsTab
theorem ClsAt.keep {R : Nat} {w w' : World} (h : ClsAt R w) (hb : Below R w w') : ClsAt R w' := fun W hW => h W (hb.trans hW)
set_option maxRecDepth 20000 in
theorem paccept_any (R : Nat) (L : List Tk) (nx : Nat) (d at_ er : Int) (s : ByteArray) (w : World) (h : RdAt w R L nx d at_ er) (hn : nx < L.length) (hL : L.length ≤ 1000000) :
    Calls Tryz.prog 84 #[.pointer (some ⟨R, 0, none⟩), .string s] w fun e w' => e = .returned (.bool ((tkD L nx).t.toList == s.toList)) ∧ RdAt w' R L (if ((tkD L nx).t.toList == s.toList) = true then min (nx + 1) (L.length - 1) else nx : Nat) d at_ er ∧ Butt R w w' := by
  have CI := pis_any R L nx d at_ er s w h hn
  have CT := ptake_any R L nx d at_ er
  generalize ((tkD L nx).t.toList == s.toList) = can at *
  have KI := Lib.hid CI; have KT := Lib.hid CT; have H0 := Lib.hid h; have HN := Lib.hid hn; have HL := Lib.hid hL
  clear CI CT h hn hL
  cases can with
  | true =>
    rw [if_pos rfl]
    go_enter Tryz.func84, Tryz.ntmps84
    go_wp2_with (go_at_call 57; refine (KI.out).mono ?_; rintro e w3 ⟨rfl, hb3⟩; refine Hid.out ?_)
    have HR3 := Lib.hid (H0.out.keep hb3)
    have HB3 := Lib.hid (Butt.of_below H0.out.lt hb3)
    clear hb3
    refine Lib.hid ?_
    go_wp2_with (go_at_call 110; refine (KT.out w3 HR3.out HN.out HL.out).mono ?_; rintro e w4 ⟨rfl, hr4, hb4⟩; refine Hid.out ?_)
    have HR4 := Lib.hid hr4
    have HB4 := Lib.hid (HB3.out.trans hb4)
    clear hr4 hb4
    refine Lib.hid ?_
    go_wp2
    go_ret
    exact ⟨rfl, HR4.out, HB4.out⟩
  | false =>
    rw [if_neg Bool.false_ne_true]
    go_enter Tryz.func84, Tryz.ntmps84
    go_wp2_with (go_at_call 57; refine (KI.out).mono ?_; rintro e w3 ⟨rfl, hb3⟩; refine Hid.out ?_)
    have HR3 := Lib.hid (H0.out.keep hb3)
    have HB3 := Lib.hid (Butt.of_below H0.out.lt hb3)
    clear hb3
    refine Lib.hid ?_
    go_wp2
    go_ret
    exact ⟨rfl, HR3.out, HB3.out⟩
set_option maxRecDepth 20000 in
theorem pisName_any (R : Nat) (L : List Tk) (nx : Nat) (d at_ er : Int) (w : World) (h : RdAt w R L nx d at_ er) (hn : nx < L.length) (hs : (tkD L nx).t.size ≤ 9223372036854775807) (ht : ClsAt R w) :
    Calls Tryz.prog 111 #[.pointer (some ⟨R, 0, none⟩)] w fun e w' => e = .returned (.bool (isN (tkD L nx))) ∧ Below w.heap.size w w' := by
  have CT := ptoken_any R L nx d at_ er w h hn
  generalize tkD L nx = T at *
  obtain ⟨tk, tt, ta⟩ := T
  dsimp only at CT hs
  unfold isN
  dsimp only
  have hlt := h.lt
  have CN := fun W (hb : Below w.heap.size w W) => name_any tt hs W (ht W (Below.down hb (Nat.le_of_lt hlt)))
  have KT := Lib.hid CT; have KN := Lib.hid CN
  clear h hn CT CN hs ht
  by_cases h0 : tk = 0
  · subst h0
    have t : ((0 : Int) == 0 && decide (nmE tt = 0)) = (((nmE tt : Nat) : Int) == 0) := by
      rw [show ((0 : Int) == 0) = true from rfl, Bool.true_and]
      by_cases e : nmE tt = 0
      · rw [e]; rfl
      · rw [decide_eq_false e]
        symm
        rw [beq_eq_false_iff_ne]
        omega
    rw [t]
    clear t
    go_enter Tryz.func111, Tryz.ntmps111
    go_wp2_with (go_at_call 95; refine (KT.out).mono ?_; rintro e w3 ⟨rfl, hb3⟩; refine Hid.out ?_)
    have hA : Below w3.heap.size w3 (w3.alloc (Obj.cells #[.int .i64 0, .string tt, .int .i64 ta] 47)) := (Below.refl _ _).alloc (Nat.le_refl _) _
    have HB4 := Lib.hid (Below.chain hb3 hA)
    have z0 : (w3.alloc (Obj.cells #[.int .i64 0, .string tt, .int .i64 ta] 47)).cell? ⟨w3.heap.size, 0, none⟩ = some (.int .i64 0) := World.cell?_alloc_new _ _ _ _
    have z1 : (w3.alloc (Obj.cells #[.int .i64 0, .string tt, .int .i64 ta] 47)).cell? ⟨w3.heap.size, 1, none⟩ = some (.string tt) := World.cell?_alloc_new _ _ _ _
    clear hA hb3
    refine Lib.hid ?_
    go_wp2_with (go_at_call 138; refine (KN.out _ HB4.out).mono ?_; rintro e w5 ⟨rfl, hb5⟩; refine Hid.out ?_)
    have HB5 := Lib.hid (Below.chain HB4.out hb5)
    clear hb5
    refine Lib.hid ?_
    go_wp2
    go_ret
    exact ⟨rfl, HB5.out⟩
  · have t0 : (tk == (0 : Int)) = false := by rw [beq_eq_false_iff_ne]; exact h0
    rw [t0, Bool.false_and]
    clear h0
    go_enter Tryz.func111, Tryz.ntmps111
    go_wp2_with (go_at_call 95; refine (KT.out).mono ?_; rintro e w3 ⟨rfl, hb3⟩; refine Hid.out ?_)
    have hA : Below w3.heap.size w3 (w3.alloc (Obj.cells #[.int .i64 tk, .string tt, .int .i64 ta] 47)) := (Below.refl _ _).alloc (Nat.le_refl _) _
    have HB4 := Lib.hid (Below.chain hb3 hA)
    have z0 : (w3.alloc (Obj.cells #[.int .i64 tk, .string tt, .int .i64 ta] 47)).cell? ⟨w3.heap.size, 0, none⟩ = some (.int .i64 tk) := World.cell?_alloc_new _ _ _ _
    clear hA hb3
    refine Lib.hid ?_
    go_wp2
    go_ret
    exact ⟨rfl, HB4.out⟩
set_option maxRecDepth 20000 in
theorem pexpect_any (R : Nat) (L : List Tk) (nx : Nat) (d at_ er : Int) (s : ByteArray) (w : World) (h : RdAt w R L nx d at_ er) (hn : nx < L.length) (hL : L.length ≤ 1000000) :
    Calls Tryz.prog 55 #[.pointer (some ⟨R, 0, none⟩), .string s] w fun e w' =>
      e = .returned (tkA (tkM L nx ((tkD L nx).t.toList == s.toList))) ∧ RdAt w' R L (nxM L nx ((tkD L nx).t.toList == s.toList)) d (atM L nx at_ er ((tkD L nx).t.toList == s.toList)) (erM er ((tkD L nx).t.toList == s.toList)) ∧ Butt R w w' := by
  have hz := (Below.refl w.heap.size w).alloc (Nat.le_refl _) (Obj.cells #[.int .i64 0, .string ⟨#[]⟩, .int .i64 0] 47)
  have hR1 := h.keep hz
  have CC := pis_any R L nx d at_ er s _ hR1 hn
  have CM := fun W (H : RdAt W R L nx d at_ er) => pmust_any R L nx d at_ er ((tkD L nx).t.toList == s.toList) W H hn hL
  generalize hcan : ((tkD L nx).t.toList == s.toList) = can at *
  unfold tkM nxM atM erM
  generalize (if can = true then at_ else if er = 0 then (tkD L nx).a else at_) = AT at *
  generalize (if can = true then er else if er = 0 then 4 else er) = ER at *
  generalize (if can = true then min (nx + 1) (L.length - 1) else L.length - 1) = NX at *
  generalize (tkD L (if can = true then nx else L.length - 1)) = T at *
  obtain ⟨tk, tt, ta⟩ := T
  unfold tkA at *
  dsimp only at *
  have HB := Lib.hid (Butt.of_below (R := R) h.lt hz); have HR1 := Lib.hid hR1; have KC := Lib.hid CC; have KM := Lib.hid CM; have HLT := Lib.hid h.lt; have H0 := Lib.hid h
  have p0 : (w.alloc (Obj.cells #[.int .i64 0, .string ⟨#[]⟩, .int .i64 0] 47)).cell? ⟨w.heap.size, 0, none⟩ = some (.int .i64 0) := World.cell?_alloc_new _ _ _ _
  have p1 : (w.alloc (Obj.cells #[.int .i64 0, .string ⟨#[]⟩, .int .i64 0] 47)).cell? ⟨w.heap.size, 1, none⟩ = some (.string ⟨#[]⟩) := World.cell?_alloc_new _ _ _ _
  have p2 : (w.alloc (Obj.cells #[.int .i64 0, .string ⟨#[]⟩, .int .i64 0] 47)).cell? ⟨w.heap.size, 2, none⟩ = some (.int .i64 0) := World.cell?_alloc_new _ _ _ _
  have ps : w.heap.size < (w.alloc (Obj.cells #[.int .i64 0, .string ⟨#[]⟩, .int .i64 0] 47)).heap.size := by simp
  have pf : ∀ j, (w.alloc (Obj.cells #[.int .i64 0, .string ⟨#[]⟩, .int .i64 0] 47)).frozen? ⟨w.heap.size, j, none⟩ = false := fun j => World.frozen?_alloc_new _ _ _ _
  have HP := Lib.hid (And.intro p0 (And.intro p1 (And.intro p2 (And.intro pf ps))))
  clear h hn hL CC CM hR1 hz p0 p1 p2 pf ps hcan
  go_enter Tryz.func55, Tryz.ntmps55
  go_wp2_with (go_at_call 57; refine (KC.out).mono ?_; rintro e w3 ⟨rfl, hb3⟩; refine Hid.out ?_)
  have HR4 := Lib.hid (HR1.out.keep hb3)
  have HB3 := Lib.hid (Butt.of_below HR1.out.lt hb3)
  clear hb3
  refine Lib.hid ?_
  go_wp2_with (go_at_call 94; refine (KM.out w3 HR4.out).mono ?_; rintro e w4 ⟨rfl, hr5, hb5⟩; refine Hid.out ?_)
  have hb6 := HB3.out.trans hb5
  clear hb5
  obtain ⟨p0, p1, p2, pf, ps⟩ := HP.out
  have hpR : w.heap.size ≠ R := fun e => absurd HLT.out (by rw [e]; exact Nat.lt_irrefl _)
  have y0 := (hb6.cell (p := ⟨w.heap.size, 0, none⟩) ps hpR).trans p0
  have y1 := (hb6.cell (p := ⟨w.heap.size, 1, none⟩) ps hpR).trans p1
  have y2 := (hb6.cell (p := ⟨w.heap.size, 2, none⟩) ps hpR).trans p2
  have f0 := (hb6.frozen (p := ⟨w.heap.size, 0, none⟩) ps hpR).trans (pf 0)
  have f1 := (hb6.frozen (p := ⟨w.heap.size, 1, none⟩) ps hpR).trans (pf 1)
  have f2 := (hb6.frozen (p := ⟨w.heap.size, 2, none⟩) ps hpR).trans (pf 2)
  have RB := Lib.hid (boxed H0.out (HB.out.trans hb6) hr5 (Nat.le_refl _) (.int .i64 tk) (.string tt) (.int .i64 ta))
  obtain ⟨q0, q1, q2⟩ := box3 y0 y1 y2 (.int .i64 tk) (.string tt) (.int .i64 ta)
  clear p0 p1 p2 pf ps hb6 hr5
  refine Lib.hid ?_
  go_wp2
  refine bodyPost_ret (by simp [results, Tryz.results55, go_sem, q0, q1, q2]; rfl) rfl ?_
  exact ⟨rfl, RB.out.1, RB.out.2⟩
set_option maxRecDepth 20000 in
theorem pname_any (R : Nat) (L : List Tk) (nx : Nat) (d at_ er : Int) (w : World) (h : RdAt w R L nx d at_ er) (hn : nx < L.length) (hL : L.length ≤ 1000000) (hs : (tkD L nx).t.size ≤ 9223372036854775807) (ht : ClsAt R w) :
    Calls Tryz.prog 85 #[.pointer (some ⟨R, 0, none⟩)] w fun e w' =>
      e = .returned (tkA (tkM L nx (isN (tkD L nx)))) ∧ RdAt w' R L (nxM L nx (isN (tkD L nx))) d (atM L nx at_ er (isN (tkD L nx))) (erM er (isN (tkD L nx))) ∧ Butt R w w' := by
  have hz := (Below.refl w.heap.size w).alloc (Nat.le_refl _) (Obj.cells #[.int .i64 0, .string ⟨#[]⟩, .int .i64 0] 47)
  have hR1 := h.keep hz
  have CC := pisName_any R L nx d at_ er _ hR1 hn hs (ht.keep (Below.down hz (Nat.le_of_lt h.lt)))
  have CM := fun W (H : RdAt W R L nx d at_ er) => pmust_any R L nx d at_ er (isN (tkD L nx)) W H hn hL
  generalize hcan : (isN (tkD L nx)) = can at *
  unfold tkM nxM atM erM
  generalize (if can = true then at_ else if er = 0 then (tkD L nx).a else at_) = AT at *
  generalize (if can = true then er else if er = 0 then 4 else er) = ER at *
  generalize (if can = true then min (nx + 1) (L.length - 1) else L.length - 1) = NX at *
  generalize (tkD L (if can = true then nx else L.length - 1)) = T at *
  obtain ⟨tk, tt, ta⟩ := T
  unfold tkA at *
  dsimp only at *
  have HB := Lib.hid (Butt.of_below (R := R) h.lt hz); have HR1 := Lib.hid hR1; have KC := Lib.hid CC; have KM := Lib.hid CM; have HLT := Lib.hid h.lt; have H0 := Lib.hid h
  have p0 : (w.alloc (Obj.cells #[.int .i64 0, .string ⟨#[]⟩, .int .i64 0] 47)).cell? ⟨w.heap.size, 0, none⟩ = some (.int .i64 0) := World.cell?_alloc_new _ _ _ _
  have p1 : (w.alloc (Obj.cells #[.int .i64 0, .string ⟨#[]⟩, .int .i64 0] 47)).cell? ⟨w.heap.size, 1, none⟩ = some (.string ⟨#[]⟩) := World.cell?_alloc_new _ _ _ _
  have p2 : (w.alloc (Obj.cells #[.int .i64 0, .string ⟨#[]⟩, .int .i64 0] 47)).cell? ⟨w.heap.size, 2, none⟩ = some (.int .i64 0) := World.cell?_alloc_new _ _ _ _
  have ps : w.heap.size < (w.alloc (Obj.cells #[.int .i64 0, .string ⟨#[]⟩, .int .i64 0] 47)).heap.size := by simp
  have pf : ∀ j, (w.alloc (Obj.cells #[.int .i64 0, .string ⟨#[]⟩, .int .i64 0] 47)).frozen? ⟨w.heap.size, j, none⟩ = false := fun j => World.frozen?_alloc_new _ _ _ _
  have HP := Lib.hid (And.intro p0 (And.intro p1 (And.intro p2 (And.intro pf ps))))
  clear h hn hL CC CM hR1 hz p0 p1 p2 pf ps hcan hs ht
  go_enter Tryz.func85, Tryz.ntmps85
  go_wp2_with (go_at_call 111; refine (KC.out).mono ?_; rintro e w3 ⟨rfl, hb3⟩; refine Hid.out ?_)
  have HR4 := Lib.hid (HR1.out.keep hb3)
  have HB3 := Lib.hid (Butt.of_below HR1.out.lt hb3)
  clear hb3
  refine Lib.hid ?_
  go_wp2_with (go_at_call 94; refine (KM.out w3 HR4.out).mono ?_; rintro e w4 ⟨rfl, hr5, hb5⟩; refine Hid.out ?_)
  have hb6 := HB3.out.trans hb5
  clear hb5
  obtain ⟨p0, p1, p2, pf, ps⟩ := HP.out
  have hpR : w.heap.size ≠ R := fun e => absurd HLT.out (by rw [e]; exact Nat.lt_irrefl _)
  have y0 := (hb6.cell (p := ⟨w.heap.size, 0, none⟩) ps hpR).trans p0
  have y1 := (hb6.cell (p := ⟨w.heap.size, 1, none⟩) ps hpR).trans p1
  have y2 := (hb6.cell (p := ⟨w.heap.size, 2, none⟩) ps hpR).trans p2
  have f0 := (hb6.frozen (p := ⟨w.heap.size, 0, none⟩) ps hpR).trans (pf 0)
  have f1 := (hb6.frozen (p := ⟨w.heap.size, 1, none⟩) ps hpR).trans (pf 1)
  have f2 := (hb6.frozen (p := ⟨w.heap.size, 2, none⟩) ps hpR).trans (pf 2)
  have RB := Lib.hid (boxed H0.out (HB.out.trans hb6) hr5 (Nat.le_refl _) (.int .i64 tk) (.string tt) (.int .i64 ta))
  obtain ⟨q0, q1, q2⟩ := box3 y0 y1 y2 (.int .i64 tk) (.string tt) (.int .i64 ta)
  clear p0 p1 p2 pf ps hb6 hr5
  refine Lib.hid ?_
  go_wp2
  refine bodyPost_ret (by simp [results, Tryz.results85, go_sem, q0, q1, q2]; rfl) rfl ?_
  exact ⟨rfl, RB.out.1, RB.out.2⟩
def atF (at_ er a : Int) : Int := if er = 0 then a else at_
def erF (er e : Int) : Int := if er = 0 then e else er
set_option maxRecDepth 20000 in
theorem penter_any (R : Nat) (L : List Tk) (nx : Nat) (d at_ er : Int) (s : ByteArray) (w : World) (h : RdAt w R L nx d at_ er) (hn : nx < L.length) (hL : L.length ≤ 1000000) (hd : 0 ≤ d ∧ d ≤ 1000000) :
    Calls Tryz.prog 114 #[.pointer (some ⟨R, 0, none⟩), .string s] w fun e w' =>
      e = .returned (tkA (tkM L nx ((tkD L nx).t.toList == s.toList))) ∧
      RdAt w' R L (if d = 64 then L.length - 1 else nxM L nx ((tkD L nx).t.toList == s.toList) : Nat) (d + 1)
        (if d = 64 then atF (atM L nx at_ er ((tkD L nx).t.toList == s.toList)) (erM er ((tkD L nx).t.toList == s.toList)) (tkM L nx ((tkD L nx).t.toList == s.toList)).a else atM L nx at_ er ((tkD L nx).t.toList == s.toList))
        (if d = 64 then erF (erM er ((tkD L nx).t.toList == s.toList)) 12 else erM er ((tkD L nx).t.toList == s.toList)) ∧ Butt R w w' := by
  have hz := (Below.refl w.heap.size w).alloc (Nat.le_refl _) (Obj.cells #[.int .i64 0, .string ⟨#[]⟩, .int .i64 0] 47)
  have hR1 := h.keep hz
  have CX := pexpect_any R L nx d at_ er s _ hR1 hn hL
  have hnx := nxM_lt hn ((tkD L nx).t.toList == s.toList)
  generalize ((tkD L nx).t.toList == s.toList) = can at *
  generalize nxM L nx can = NX at *
  generalize atM L nx at_ er can = AT at *
  generalize erM er can = ER at *
  generalize tkM L nx can = T at *
  obtain ⟨tk, tt, ta⟩ := T
  unfold tkA at *
  dsimp only at *
  have CF := fun W (H : RdAt W R L NX d AT ER) => pfail_any R L NX d AT ER ta 12 W H hL
  unfold atF erF
  generalize (if ER = 0 then ta else AT) = AF at *
  generalize (if ER = 0 then (12 : Int) else ER) = EF at *
  have u1 := (show wrap64 (d + 1) = d + 1 by unfold wrap64; omega)
  have HB := Lib.hid (Butt.of_below (R := R) h.lt hz); have HR1 := Lib.hid hR1; have KX := Lib.hid CX; have KF := Lib.hid CF; have HLT := Lib.hid h.lt; have H0 := Lib.hid h
  have p0 : (w.alloc (Obj.cells #[.int .i64 0, .string ⟨#[]⟩, .int .i64 0] 47)).cell? ⟨w.heap.size, 0, none⟩ = some (.int .i64 0) := World.cell?_alloc_new _ _ _ _
  have p1 : (w.alloc (Obj.cells #[.int .i64 0, .string ⟨#[]⟩, .int .i64 0] 47)).cell? ⟨w.heap.size, 1, none⟩ = some (.string ⟨#[]⟩) := World.cell?_alloc_new _ _ _ _
  have p2 : (w.alloc (Obj.cells #[.int .i64 0, .string ⟨#[]⟩, .int .i64 0] 47)).cell? ⟨w.heap.size, 2, none⟩ = some (.int .i64 0) := World.cell?_alloc_new _ _ _ _
  have ps : w.heap.size < (w.alloc (Obj.cells #[.int .i64 0, .string ⟨#[]⟩, .int .i64 0] 47)).heap.size := by simp
  have pf : ∀ j, (w.alloc (Obj.cells #[.int .i64 0, .string ⟨#[]⟩, .int .i64 0] 47)).frozen? ⟨w.heap.size, j, none⟩ = false := fun j => World.frozen?_alloc_new _ _ _ _
  have HP := Lib.hid (And.intro p0 (And.intro p1 (And.intro p2 (And.intro pf ps))))
  clear h hn hL CX CF hR1 hz p0 p1 p2 pf ps hnx hd
  by_cases h64 : d = 64
  · rw [if_pos h64, if_pos h64, if_pos h64]
    have t64 : (d == (64 : Int)) = true := by rw [beq_iff_eq]; exact h64
    clear h64
    go_enter Tryz.func114, Tryz.ntmps114
    go_wp2_with (go_at_call 55; refine (KX.out).mono ?_; rintro e w3 ⟨rfl, hr3, hb3⟩; refine Hid.out ?_)
    have hA : Below w3.heap.size w3 (w3.alloc (Obj.cells #[.int .i64 tk, .string tt, .int .i64 ta] 47)) := (Below.refl _ _).alloc (Nat.le_refl _) _
    have z0 : (w3.alloc (Obj.cells #[.int .i64 tk, .string tt, .int .i64 ta] 47)).cell? ⟨w3.heap.size, 0, none⟩ = some (.int .i64 tk) := World.cell?_alloc_new _ _ _ _
    have z1 : (w3.alloc (Obj.cells #[.int .i64 tk, .string tt, .int .i64 ta] 47)).cell? ⟨w3.heap.size, 1, none⟩ = some (.string tt) := World.cell?_alloc_new _ _ _ _
    have z2 : (w3.alloc (Obj.cells #[.int .i64 tk, .string tt, .int .i64 ta] 47)).cell? ⟨w3.heap.size, 2, none⟩ = some (.int .i64 ta) := World.cell?_alloc_new _ _ _ _
    have zs : w3.heap.size < (w3.alloc (Obj.cells #[.int .i64 tk, .string tt, .int .i64 ta] 47)).heap.size := by simp
    have hr4 := hr3.keep hA
    have HB4 := Lib.hid (hb3.trans (Butt.of_below hr3.lt hA))
    have HR4 := Lib.hid hr4
    have hqR : w3.heap.size ≠ R := fun e => absurd hr3.lt (by rw [e]; exact Nat.lt_irrefl _)
    have h2 := hr4.c2
    have HQ := Lib.hid (And.intro zs hqR)
    clear hA hr3 hb3 hr4 zs hqR
    refine Lib.hid ?_
    go_wp2_with (go_at_call 128; refine (KF.out _ HR4.out).mono ?_; rintro e w5 ⟨rfl, hr5, hb5⟩; refine Hid.out ?_)
    obtain ⟨zs, hqR⟩ := HQ.out
    have x0 := (hb5.cell (p := ⟨w3.heap.size, 0, none⟩) zs hqR).trans z0
    have x1 := (hb5.cell (p := ⟨w3.heap.size, 1, none⟩) zs hqR).trans z1
    have x2 := (hb5.cell (p := ⟨w3.heap.size, 2, none⟩) zs hqR).trans z2
    have hb6 := HB4.out.trans hb5
    clear z0 z1 z2 zs hqR h2 hb5
    have h2 := hr5.c2
    have g2 := hr5.free 2
    obtain ⟨p0, p1, p2, pf, ps⟩ := HP.out
    have hpR : w.heap.size ≠ R := fun e => absurd HLT.out (by rw [e]; exact Nat.lt_irrefl _)
    have np : (⟨R, 2, none⟩ : Addr) ≠ ⟨w.heap.size, 2, none⟩ := fun e => hpR (by cases e; rfl)
    have nq : (⟨R, 2, none⟩ : Addr) ≠ ⟨w3.heap.size, 2, none⟩ := fun e => HQ.out.2 (by cases e; rfl)
    have y0 := (hb6.cell (p := ⟨w.heap.size, 0, none⟩) ps hpR).trans p0
    have y1 := (hb6.cell (p := ⟨w.heap.size, 1, none⟩) ps hpR).trans p1
    have y2 := (hb6.cell (p := ⟨w.heap.size, 2, none⟩) ps hpR).trans p2
    have f0 := (hb6.frozen (p := ⟨w.heap.size, 0, none⟩) ps hpR).trans (pf 0)
    have f1 := (hb6.frozen (p := ⟨w.heap.size, 1, none⟩) ps hpR).trans (pf 1)
    have f2 := (hb6.frozen (p := ⟨w.heap.size, 2, none⟩) ps hpR).trans (pf 2)
    have y0' : (w5.setCell ⟨R, 2, none⟩ (.int .i64 (d + 1))).cell? ⟨w.heap.size, 0, none⟩ = _ := (World.cell?_setCell_other w5 ⟨R, 2, none⟩ ⟨w.heap.size, 0, none⟩ _ (by simp)).trans y0
    have y1' : (w5.setCell ⟨R, 2, none⟩ (.int .i64 (d + 1))).cell? ⟨w.heap.size, 1, none⟩ = _ := (World.cell?_setCell_other w5 ⟨R, 2, none⟩ ⟨w.heap.size, 1, none⟩ _ (by simp)).trans y1
    have y2' : (w5.setCell ⟨R, 2, none⟩ (.int .i64 (d + 1))).cell? ⟨w.heap.size, 2, none⟩ = _ := (World.cell?_setCell_other w5 ⟨R, 2, none⟩ ⟨w.heap.size, 2, none⟩ _ np).trans y2
    have x2' : (w5.setCell ⟨R, 2, none⟩ (.int .i64 (d + 1))).cell? ⟨w3.heap.size, 2, none⟩ = _ := (World.cell?_setCell_other w5 ⟨R, 2, none⟩ ⟨w3.heap.size, 2, none⟩ _ nq).trans x2
    have RB := Lib.hid (boxed H0.out (HB.out.trans (hb6.setCell 2 (by decide) (.int .i64 (d + 1)))) (hr5.put 2 (by decide) (d + 1)) (Nat.le_refl _) (.int .i64 tk) (.string tt) (.int .i64 ta))
    obtain ⟨q0, q1, q2⟩ := box3 y0' y1' y2' (.int .i64 tk) (.string tt) (.int .i64 ta)
    clear p0 p1 p2 pf ps hr5 hb6 np nq
    refine Lib.hid ?_
    go_wp2
    refine bodyPost_ret (by simp [results, Tryz.results114, go_sem, q0, q1, q2]; rfl) rfl ?_
    exact ⟨rfl, RB.out.1, RB.out.2⟩
  · rw [if_neg h64, if_neg h64, if_neg h64]
    have t64 : (d == (64 : Int)) = false := by rw [beq_eq_false_iff_ne]; exact h64
    clear h64
    go_enter Tryz.func114, Tryz.ntmps114
    go_wp2_with (go_at_call 55; refine (KX.out).mono ?_; rintro e w3 ⟨rfl, hr3, hb3⟩; refine Hid.out ?_)
    have hA : Below w3.heap.size w3 (w3.alloc (Obj.cells #[.int .i64 tk, .string tt, .int .i64 ta] 47)) := (Below.refl _ _).alloc (Nat.le_refl _) _
    have z0 : (w3.alloc (Obj.cells #[.int .i64 tk, .string tt, .int .i64 ta] 47)).cell? ⟨w3.heap.size, 0, none⟩ = some (.int .i64 tk) := World.cell?_alloc_new _ _ _ _
    have z1 : (w3.alloc (Obj.cells #[.int .i64 tk, .string tt, .int .i64 ta] 47)).cell? ⟨w3.heap.size, 1, none⟩ = some (.string tt) := World.cell?_alloc_new _ _ _ _
    have z2 : (w3.alloc (Obj.cells #[.int .i64 tk, .string tt, .int .i64 ta] 47)).cell? ⟨w3.heap.size, 2, none⟩ = some (.int .i64 ta) := World.cell?_alloc_new _ _ _ _
    have zs : w3.heap.size < (w3.alloc (Obj.cells #[.int .i64 tk, .string tt, .int .i64 ta] 47)).heap.size := by simp
    have hr4 := hr3.keep hA
    have HB4 := Lib.hid (hb3.trans (Butt.of_below hr3.lt hA))
    have HR4 := Lib.hid hr4
    have hqR : w3.heap.size ≠ R := fun e => absurd hr3.lt (by rw [e]; exact Nat.lt_irrefl _)
    have h2 := hr4.c2
    have HQ := Lib.hid (And.intro zs hqR)
    clear hA hr3 hb3 hr4 zs hqR
    obtain ⟨zs, hqR⟩ := HQ.out
    have x0 := z0; have x1 := z1; have x2 := z2
    have hr5 := HR4.out
    have hb6 := HB4.out
    clear h2
    have h2 := hr5.c2
    have g2 := hr5.free 2
    obtain ⟨p0, p1, p2, pf, ps⟩ := HP.out
    have hpR : w.heap.size ≠ R := fun e => absurd HLT.out (by rw [e]; exact Nat.lt_irrefl _)
    have np : (⟨R, 2, none⟩ : Addr) ≠ ⟨w.heap.size, 2, none⟩ := fun e => hpR (by cases e; rfl)
    have nq : (⟨R, 2, none⟩ : Addr) ≠ ⟨w3.heap.size, 2, none⟩ := fun e => HQ.out.2 (by cases e; rfl)
    have y0 := (hb6.cell (p := ⟨w.heap.size, 0, none⟩) ps hpR).trans p0
    have y1 := (hb6.cell (p := ⟨w.heap.size, 1, none⟩) ps hpR).trans p1
    have y2 := (hb6.cell (p := ⟨w.heap.size, 2, none⟩) ps hpR).trans p2
    have f0 := (hb6.frozen (p := ⟨w.heap.size, 0, none⟩) ps hpR).trans (pf 0)
    have f1 := (hb6.frozen (p := ⟨w.heap.size, 1, none⟩) ps hpR).trans (pf 1)
    have f2 := (hb6.frozen (p := ⟨w.heap.size, 2, none⟩) ps hpR).trans (pf 2)
    have y0' : ((w3.alloc (Obj.cells #[.int .i64 tk, .string tt, .int .i64 ta] 47)).setCell ⟨R, 2, none⟩ (.int .i64 (d + 1))).cell? ⟨w.heap.size, 0, none⟩ = _ := (World.cell?_setCell_other (w3.alloc (Obj.cells #[.int .i64 tk, .string tt, .int .i64 ta] 47)) ⟨R, 2, none⟩ ⟨w.heap.size, 0, none⟩ _ (by simp)).trans y0
    have y1' : ((w3.alloc (Obj.cells #[.int .i64 tk, .string tt, .int .i64 ta] 47)).setCell ⟨R, 2, none⟩ (.int .i64 (d + 1))).cell? ⟨w.heap.size, 1, none⟩ = _ := (World.cell?_setCell_other (w3.alloc (Obj.cells #[.int .i64 tk, .string tt, .int .i64 ta] 47)) ⟨R, 2, none⟩ ⟨w.heap.size, 1, none⟩ _ (by simp)).trans y1
    have y2' : ((w3.alloc (Obj.cells #[.int .i64 tk, .string tt, .int .i64 ta] 47)).setCell ⟨R, 2, none⟩ (.int .i64 (d + 1))).cell? ⟨w.heap.size, 2, none⟩ = _ := (World.cell?_setCell_other (w3.alloc (Obj.cells #[.int .i64 tk, .string tt, .int .i64 ta] 47)) ⟨R, 2, none⟩ ⟨w.heap.size, 2, none⟩ _ np).trans y2
    have x2' : ((w3.alloc (Obj.cells #[.int .i64 tk, .string tt, .int .i64 ta] 47)).setCell ⟨R, 2, none⟩ (.int .i64 (d + 1))).cell? ⟨w3.heap.size, 2, none⟩ = _ := (World.cell?_setCell_other (w3.alloc (Obj.cells #[.int .i64 tk, .string tt, .int .i64 ta] 47)) ⟨R, 2, none⟩ ⟨w3.heap.size, 2, none⟩ _ nq).trans x2
    have RB := Lib.hid (boxed H0.out (HB.out.trans (hb6.setCell 2 (by decide) (.int .i64 (d + 1)))) (hr5.put 2 (by decide) (d + 1)) (Nat.le_refl _) (.int .i64 tk) (.string tt) (.int .i64 ta))
    obtain ⟨q0, q1, q2⟩ := box3 y0' y1' y2' (.int .i64 tk) (.string tt) (.int .i64 ta)
    clear p0 p1 p2 pf ps hr5 hb6 np nq
    refine Lib.hid ?_
    go_wp2
    refine bodyPost_ret (by simp [results, Tryz.results114, go_sem, q0, q1, q2]; rfl) rfl ?_
    exact ⟨rfl, RB.out.1, RB.out.2⟩
def wdE (s : ByteArray) : Nat := if cls (byteAt s 0) = 4 then numErr (bytes s) else if 24 < s.size then 8 else 0
def PA (s : ByteArray) (a : Nat) : Nat := a + skM false ((bytes s).drop a)
theorem pa_le {s : ByteArray} {a : Nat} (h : a ≤ s.size) : PA s a ≤ s.size := by
  have := skM_le false ((bytes s).drop a)
  rw [List.length_drop, bytes_length] at this
  unfold PA; omega
theorem nx_pa (s : ByteArray) (a : Nat) : nx s a = PA s (a + (tkT s a).t.size) := rfl
section
variable {s : ByteArray} {a : Nat}
theorem tok_word (h : a < s.size) (hc : cls (byteAt s a) = 3 ∨ cls (byteAt s a) = 4) :
    0 < wl ((bytes s).drop a) ∧ a + wl ((bytes s).drop a) ≤ s.size ∧ (tokX s a).2 = wdE (s.extract a (a + wl ((bytes s).drop a))) ∧ tkT s a = ⟨if cls (byteAt s a) = 4 then 1 else 0, s.extract a (a + wl ((bytes s).drop a)), (a : Int)⟩ := by
  have h1 := wl_pos h hc
  have h2 := wl_le ((bytes s).drop a)
  rw [List.length_drop, bytes_length] at h2
  have h3 : a + wl ((bytes s).drop a) ≤ s.size := by omega
  have hs := extract_size s h3
  have hm := extract_mid s h3
  have hb : byteAt (s.extract a (a + wl ((bytes s).drop a))) 0 = byteAt s a := by
    unfold byteAt
    rw [hm, List.getD_eq_getElem?_getD, List.getElem?_take_of_lt (by omega), List.getElem?_drop, List.getD_eq_getElem?_getD, Nat.add_zero]
  refine ⟨h1, h3, ?_, ?_⟩
  · unfold wdE
    rw [hb, hs, hm]
    unfold tokX tkO
    rcases hc with hc | hc
    · rw [if_pos hc, if_neg (show ¬ cls (byteAt s a) = 4 by omega)]
      split <;> rfl
    · rw [if_neg (show ¬ cls (byteAt s a) = 3 by omega), if_pos hc, if_pos hc]
      split
      · rename_i e; exact e.symm
      · rfl
  · unfold tkT
    rcases hc with hc | hc
    · rw [if_pos hc, if_neg (show ¬ cls (byteAt s a) = 4 by omega)]
    · rw [if_neg (show ¬ cls (byteAt s a) = 3 by omega), if_pos hc, if_pos hc]
theorem tok_sign (h : a < s.size) (h3 : cls (byteAt s a) ≠ 3) (h4 : cls (byteAt s a) ≠ 4) :
    a + sl ((bytes s).drop a) ≤ s.size ∧ (tokX s a).2 = (if sl ((bytes s).drop a) = 0 then 4 else 0) ∧ tkT s a = ⟨2, s.extract a (a + sl ((bytes s).drop a)), (a : Int)⟩ := by
  have h2 := sl_le ((bytes s).drop a)
  rw [List.length_drop, bytes_length] at h2
  refine ⟨by omega, ?_, ?_⟩
  · unfold tokX tkO
    rw [if_neg h3, if_neg h4]
    split <;> rfl
  · unfold tkT
    rw [if_neg h3, if_neg h4]
end
end Go.Proofs.YtdibcllakkjegaaGreatDoor
