import Derived.Deep.Upon
import Derived.Test.YtdibcllakkjegaaGreatDoorCut20
import Derived.Test.YtdibcllakkjegaaGreatDoorCut21
import Derived.Test.YtdibcllakkjegaaGreatDoorCut19

set_option linter.unusedVariables false
/-
  parser: declarations, body.
-/
set_option linter.unusedSimpArgs false
set_option linter.unusedVariables false
namespace Go.Proofs.YtdibcllakkjegaaGreatDoor
open Go Go.Proofs Go.RowKit Go.Sort
theorem run_less {m : Rd Syn} {l : List Tk} {x : Syn} {st' : RSt} (hm : ∀ f, Less f m) (h2 : 2 ≤ l.length) (h : Run m (.ok l) x st') : st'.rem + 1 ≤ l.length := by
  rcases h with ⟨l1, rfl, -, -, N, hN⟩ | ⟨a, e, -, rfl, -⟩
  · exact hm N l x l1 h2 (hN N (Nat.le_refl _))
  · show 0 + 1 ≤ _
    omega
theorem less_vars (f d : Nat) : Less f (mVars d) := Less.bind Less.take fun _ => Mono.bind (mono_read f _ _) fun _ => Mono.bind Mono.need fun _ => Mono.ret
theorem less_array (f : Nat) : Less f mArray := Less.bind Less.take fun _ => Mono.bind Mono.name fun _ => Mono.bind Mono.need fun _ => Mono.bind Mono.num fun _ => Mono.bind Mono.need fun _ => Mono.bind Mono.need fun _ => Mono.ret
section
variable {L : List Tk} {d : Nat} {s s2 s' : RSt} {y : Syn} {ys : List Syn}
theorem decls_var (hf : s.fine) (hb : tIs L s ⟨#[118, 97, 114]⟩ = true) (h : Run (mVars d) s y s2) (ht : Stp .decls d s2 ys s') : Stp .decls d s (y :: ys) s' :=
  st_decls (Run.bind (run_is (L := L) hf wVar) (Run.ite (fun _ => Run.bind h (Run.bind ht (run_ret (Run.fine ht (Run.fine h hf))))) (fun e => absurd hb e)))
theorem decls_array (hf : s.fine) (hv : tIs L s ⟨#[118, 97, 114]⟩ = false) (hb : tIs L s ⟨#[97, 114, 114, 97, 121]⟩ = true) (h : Run mArray s y s2) (ht : Stp .decls d s2 ys s') : Stp .decls d s (y :: ys) s' :=
  st_decls (Run.bind (run_is (L := L) hf wVar) (Run.ite (fun e => absurd (hv.symm.trans e) (by decide)) (fun _ => Run.bind (run_is (L := L) hf wArray) (Run.ite (fun _ => Run.bind h (Run.bind ht (run_ret (Run.fine ht (Run.fine h hf))))) (fun e => absurd hb e)))))
theorem decls_nil (hf : s.fine) (hv : tIs L s ⟨#[118, 97, 114]⟩ = false) (hb : tIs L s ⟨#[97, 114, 114, 97, 121]⟩ = false) : Stp .decls d s [] s :=
  st_decls (Run.bind (run_is (L := L) hf wVar) (Run.ite (fun e => absurd (hv.symm.trans e) (by decide)) (fun _ => Run.bind (run_is (L := L) hf wArray) (Run.ite (fun e => absurd (hb.symm.trans e) (by decide)) (fun _ => run_ret hf)))))
theorem word_text {w : ByteArray} (hw : w ≠ ⟨#[]⟩) (h : tIs L s w = true) : (cur L s).t ≠ ⟨#[]⟩ := by rw [tIs_lit h]; exact hw
end
structure DclAt (R : Nat) (L : List Tk) (w : World) (d : Nat) (st : RSt) (wr : World) (s : RSt) (xs : List Syn) (v : Value) : Prop where
  hat : At R L wr d s
  hb : Butt R w wr
  own : ownT w.heap.size wr xs v
  len : xs.length + s.rem ≤ st.rem
  go : ∀ ys s', Stp .decls d s ys s' → Stp .decls d st (xs ++ ys) s'
set_option maxRecDepth 20000 in
set_option maxHeartbeats 4000000 in
theorem pdeclarations {R : Nat} {L : List Tk} {d : Nat} {st : RSt} {w : World} (h : At R L w d st) (hN : NumL L) :
    Calls Tryz.prog 115 #[.pointer (some ⟨R, 0, none⟩)] w (PL R L .decls d st w) := by
  have HTL := Lib.hid h.fix.toks; have HRA := Lib.hid h.rem; have HNL := Lib.hid hN
  clear hN
  have HA0 := Lib.hid h
  have HLT := Lib.hid h.fix.lt; have HRW := Lib.hid h.fix.lt
  have A0 := Lib.hid h; have B0 := Lib.hid (Butt.refl R w)
  clear h 
  go_enter Tryz.func115, Tryz.ntmps115
  go_wp2_with fail
  go_loopw [3] (fun v wr => ∃ (s : RSt) (xs : List Syn) (ao : Option Addr) (c : Nat), v = .slice ao xs.length c ∧ DclAt R L w d st wr s xs v) (fun _ wr => remW R L wr)
  case atStart => exact ⟨st, [], none, 0, rfl, A0.out, B0.out, ownT.nil _ _, by simp, fun ys s' hs => hs⟩
  case round =>
    obtain ⟨s, xs, ao, c, rfl, hrel⟩ := hrel
    have C1 := fun W (H : At R L W d s) => sis H ⟨#[118, 97, 114]⟩
    have C2 := fun W (H : At R L W d s) => sis H ⟨#[97, 114, 114, 97, 121]⟩
    have HSR : Hid (s.rem ≤ st.rem) := Lib.hid (by have := hrel.len; omega)
    have HR := Lib.hid hrel
    cases h1 : tIs L s ⟨#[118, 97, 114]⟩ with
    | true =>
      rw [h1] at C1
      have HC1 := Lib.hid h1; clear h1
      have K1 := Lib.hid C1; have K2 := Lib.hid C2
      have A0 := Lib.hid hrel.hat; have B0 := Lib.hid hrel.hb; have OW := Lib.hid hrel.own
      clear C1 C2 hrel
      go_wp2_with (go_at_call 57; refine (K1.out _ A0.out).mono ?_; rintro e w1 ⟨rfl, ha1, hb1⟩; refine Hid.out ?_)
      have A1 := Lib.hid ha1; have B1 := Lib.hid (B0.out.trans hb1)
      have OW1 := Lib.hid (OW.out.keep (Nat.le_refl _) (hb1.froms HLT.out))
      clear ha1 hb1
      refine Lib.hid ?_
      go_wp2_with (go_at_call 140; refine (pvariables A1.out HC1.out).mono ?_; rintro e w2 ⟨x2, v2, s2, rfl, hx2, hs2, ha2, hb2⟩; refine Hid.out ?_)
      obtain ⟨k2, a2, t2, n2, o2, l2, c2, q2, rfl, rfl, hk2⟩ := hx2.shape
      have HS2 := Lib.hid hs2
      have HOFF := Lib.hid (OW1.out.off (Nat.le_refl _) hx2 B1.out.size)
      have HLEN : Hid ((xs ++ [Syn.mk k2 a2 t2 n2 q2]).length + s2.rem ≤ st.rem) := Lib.hid (by
        obtain ⟨l1, e1, -, e3⟩ := rem_less HTL.out HR.out.hat (word_text (by decide) HC1.out)
        have g1 := HR.out.len
        have g2 := run_less (fun f => less_vars f d) e3 (e1 ▸ HS2.out)
        rw [e1, show (RSt.ok l1).rem = l1.length from rfl] at g1
        rw [List.length_append, show [Syn.mk k2 a2 t2 n2 q2].length = 1 from rfl]
        omega)
      have TR2 := Lib.hid (synIn.of (l2 := w.heap.size) (ps := []) hx2 (Nat.le_trans (Nat.le_refl _) B1.out.size) (by simp))
      have A2 := Lib.hid ha2; have B2 := Lib.hid (B1.out.trans hb2)
      have OW2 := Lib.hid (OW1.out.keep (Nat.le_refl _) (hb2.froms HLT.out))
      clear ha2 hb2 hx2 hk2 hs2
      refine Lib.hid ?_
      have A2a := Lib.hid (A2.out.alloc (Obj.cells #[.int .i64 k2, .int .i64 a2, .string t2, .int .i64 n2, .slice o2 l2 c2] 25)); have B2a := Lib.hid (B2.out.alloc HRW.out (Obj.cells #[.int .i64 k2, .int .i64 a2, .string t2, .int .i64 n2, .slice o2 l2 c2] 25))
      have TR22a := Lib.hid (TR2.out.butt HLT.out (Butt.of_below A2.out.fix.lt ((Below.refl _ _).alloc (Nat.le_refl _) (Obj.cells #[.int .i64 k2, .int .i64 a2, .string t2, .int .i64 n2, .slice o2 l2 c2] 25))))
      have OW2a := Lib.hid (OW2.out.keep (Nat.le_refl _) (From.of_below ((Below.refl _ _).alloc (Nat.le_refl _) (Obj.cells #[.int .i64 k2, .int .i64 a2, .string t2, .int .i64 n2, .slice o2 l2 c2] 25))))
      have HZ := Lib.hid (HOFF.out.below ((Below.refl _ _).alloc (Nat.le_refl _) (Obj.cells #[.int .i64 k2, .int .i64 a2, .string t2, .int .i64 n2, .slice o2 l2 c2] 25)))
      have HL1 : Hid (xs.length ≤ 1200000) := Lib.hid (by have := HR.out.len; have := HRA.out; omega)
      have HB1 : Hid (w.heap.size ≤ (w2.alloc (Obj.cells #[.int .i64 k2, .int .i64 a2, .string t2, .int .i64 n2, .slice o2 l2 c2] 25)).heap.size) := Lib.hid B2a.out.size
      go_wp2_with (first | (at_builtin; refine wpList_append_tree rfl (.tmp 8) (.tmp 11) rfl w.heap.size _ xs (by simp [Act.eval, Act.put]) OW2a.out HL1.out HB1.out w2.heap.size _ _ _ _ _ _ (by simp [Act.eval, Act.put]) HZ.out ⟨rfl, rfl, rfl, rfl, rfl⟩ (by go_cell) (by go_cell) (by go_cell) (by go_cell) (by go_cell) ?_; intro v9 ao9 cap9 w9 hv9 ho9 hg9; refine Hid.out ?_) | fail)
      subst hv9
      have hgr := At.grow HA0.out A2a.out B2a.out (grownBy_froms hg9 (fun b e => (OW2a.out.lo b e).1) HLT.out HB1.out)
      have HNX : Hid (DclAt R L w d st w9 s2 (xs ++ [.mk k2 a2 t2 n2 q2]) _) := Lib.hid ⟨hgr.1, hgr.2, ho9, HLEN.out, fun ys s' ht => by have e := HR.out.go _ _ (decls_var HR.out.hat.fine HC1.out HS2.out ht); rw [List.append_assoc]; exact e⟩
      clear hgr ho9 hg9
      refine Lib.hid ?_
      go_wp2
      go_roundw
      case rel => exact ⟨s2, xs ++ [.mk k2 a2 t2 n2 q2], ao9, cap9, by rw [List.length_append]; rfl, HNX.out⟩
      case measure =>
        obtain ⟨l1, e1, -, e3⟩ := rem_less HTL.out HR.out.hat (word_text (by decide) HC1.out)
        have g1 := remW_ok (e1 ▸ HR.out.hat)
        have g2 := remW_le HNX.out.hat
        have g3 := run_less (fun f => less_vars f d) e3 (e1 ▸ HS2.out)
        rw [g1]
        omega
    | false =>
      rw [h1] at C1
      cases h2 : tIs L s ⟨#[97, 114, 114, 97, 121]⟩ with
      | true =>
        rw [h2] at C2
        have HC1 := Lib.hid h1; have HC2 := Lib.hid h2; clear h1 h2
        have K1 := Lib.hid C1; have K2 := Lib.hid C2
        have A0 := Lib.hid hrel.hat; have B0 := Lib.hid hrel.hb; have OW := Lib.hid hrel.own
        clear C1 C2 hrel
        go_wp2_with (go_at_call 57; refine (K1.out _ A0.out).mono ?_; rintro e w1 ⟨rfl, ha1, hb1⟩; refine Hid.out ?_)
        have A1 := Lib.hid ha1; have B1 := Lib.hid (B0.out.trans hb1)
        have OW1 := Lib.hid (OW.out.keep (Nat.le_refl _) (hb1.froms HLT.out))
        clear ha1 hb1
        refine Lib.hid ?_
        go_wp2_with (go_at_call 57; refine (K2.out _ A1.out).mono ?_; rintro e w2 ⟨rfl, ha2, hb2⟩; refine Hid.out ?_)
        have A2 := Lib.hid ha2; have B2 := Lib.hid (B1.out.trans hb2)
        have OW2 := Lib.hid (OW1.out.keep (Nat.le_refl _) (hb2.froms HLT.out))
        clear ha2 hb2
        refine Lib.hid ?_
        go_wp2_with (go_at_call 141; refine (parray A2.out HNL.out HC2.out).mono ?_; rintro e w3 ⟨x3, v3, s3, rfl, hx3, hs3, ha3, hb3⟩; refine Hid.out ?_)
        obtain ⟨k3, a3, t3, n3, o3, l3, c3, q3, rfl, rfl, hk3⟩ := hx3.shape
        have HS3 := Lib.hid hs3
        have HOFF := Lib.hid (OW2.out.off (Nat.le_refl _) hx3 B2.out.size)
        have HLEN : Hid ((xs ++ [Syn.mk k3 a3 t3 n3 q3]).length + s3.rem ≤ st.rem) := Lib.hid (by
          obtain ⟨l1, e1, -, e3⟩ := rem_less HTL.out HR.out.hat (word_text (by decide) HC2.out)
          have g1 := HR.out.len
          have g2 := run_less less_array e3 (e1 ▸ HS3.out)
          rw [e1, show (RSt.ok l1).rem = l1.length from rfl] at g1
          rw [List.length_append, show [Syn.mk k3 a3 t3 n3 q3].length = 1 from rfl]
          omega)
        have TR3 := Lib.hid (synIn.of (l2 := w.heap.size) (ps := []) hx3 (Nat.le_trans (Nat.le_refl _) B2.out.size) (by simp))
        have A3 := Lib.hid ha3; have B3 := Lib.hid (B2.out.trans hb3)
        have OW3 := Lib.hid (OW2.out.keep (Nat.le_refl _) (hb3.froms HLT.out))
        clear ha3 hb3 hx3 hk3 hs3
        refine Lib.hid ?_
        have A3a := Lib.hid (A3.out.alloc (Obj.cells #[.int .i64 k3, .int .i64 a3, .string t3, .int .i64 n3, .slice o3 l3 c3] 25)); have B3a := Lib.hid (B3.out.alloc HRW.out (Obj.cells #[.int .i64 k3, .int .i64 a3, .string t3, .int .i64 n3, .slice o3 l3 c3] 25))
        have TR33a := Lib.hid (TR3.out.butt HLT.out (Butt.of_below A3.out.fix.lt ((Below.refl _ _).alloc (Nat.le_refl _) (Obj.cells #[.int .i64 k3, .int .i64 a3, .string t3, .int .i64 n3, .slice o3 l3 c3] 25))))
        have OW3a := Lib.hid (OW3.out.keep (Nat.le_refl _) (From.of_below ((Below.refl _ _).alloc (Nat.le_refl _) (Obj.cells #[.int .i64 k3, .int .i64 a3, .string t3, .int .i64 n3, .slice o3 l3 c3] 25))))
        have HZ := Lib.hid (HOFF.out.below ((Below.refl _ _).alloc (Nat.le_refl _) (Obj.cells #[.int .i64 k3, .int .i64 a3, .string t3, .int .i64 n3, .slice o3 l3 c3] 25)))
        have HL1 : Hid (xs.length ≤ 1200000) := Lib.hid (by have := HR.out.len; have := HRA.out; omega)
        have HB1 : Hid (w.heap.size ≤ (w3.alloc (Obj.cells #[.int .i64 k3, .int .i64 a3, .string t3, .int .i64 n3, .slice o3 l3 c3] 25)).heap.size) := Lib.hid B3a.out.size
        go_wp2_with (first | (at_builtin; refine wpList_append_tree rfl (.tmp 16) (.tmp 19) rfl w.heap.size _ xs (by simp [Act.eval, Act.put]) OW3a.out HL1.out HB1.out w3.heap.size _ _ _ _ _ _ (by simp [Act.eval, Act.put]) HZ.out ⟨rfl, rfl, rfl, rfl, rfl⟩ (by go_cell) (by go_cell) (by go_cell) (by go_cell) (by go_cell) ?_; intro v9 ao9 cap9 w9 hv9 ho9 hg9; refine Hid.out ?_) | fail)
        subst hv9
        have hgr := At.grow HA0.out A3a.out B3a.out (grownBy_froms hg9 (fun b e => (OW3a.out.lo b e).1) HLT.out HB1.out)
        have HNX : Hid (DclAt R L w d st w9 s3 (xs ++ [.mk k3 a3 t3 n3 q3]) _) := Lib.hid ⟨hgr.1, hgr.2, ho9, HLEN.out, fun ys s' ht => by have e := HR.out.go _ _ (decls_array HR.out.hat.fine HC1.out HC2.out HS3.out ht); rw [List.append_assoc]; exact e⟩
        clear hgr ho9 hg9
        refine Lib.hid ?_
        go_wp2
        go_roundw
        case rel => exact ⟨s3, xs ++ [.mk k3 a3 t3 n3 q3], ao9, cap9, by rw [List.length_append]; rfl, HNX.out⟩
        case measure =>
          obtain ⟨l1, e1, -, e3⟩ := rem_less HTL.out HR.out.hat (word_text (by decide) HC2.out)
          have g1 := remW_ok (e1 ▸ HR.out.hat)
          have g2 := remW_le HNX.out.hat
          have g3 := run_less less_array e3 (e1 ▸ HS3.out)
          rw [g1]
          omega
      | false =>
        rw [h2] at C2
        have HC1 := Lib.hid h1; have HC2 := Lib.hid h2; clear h1 h2
        have K1 := Lib.hid C1; have K2 := Lib.hid C2
        have A0 := Lib.hid hrel.hat; have B0 := Lib.hid hrel.hb; have OW := Lib.hid hrel.own
        clear C1 C2 hrel
        go_wp2_with (go_at_call 57; refine (K1.out _ A0.out).mono ?_; rintro e w1 ⟨rfl, ha1, hb1⟩; refine Hid.out ?_)
        have A1 := Lib.hid ha1; have B1 := Lib.hid (B0.out.trans hb1)
        have OW1 := Lib.hid (OW.out.keep (Nat.le_refl _) (hb1.froms HLT.out))
        clear ha1 hb1
        refine Lib.hid ?_
        go_wp2_with (go_at_call 57; refine (K2.out _ A1.out).mono ?_; rintro e w2 ⟨rfl, ha2, hb2⟩; refine Hid.out ?_)
        have A2 := Lib.hid ha2; have B2 := Lib.hid (B1.out.trans hb2)
        have OW2 := Lib.hid (OW1.out.keep (Nat.le_refl _) (hb2.froms HLT.out))
        clear ha2 hb2
        refine Lib.hid ?_
        go_wp2
        go_ret
        exact ⟨xs, _, _, rfl, OW2.out, by have := HR.out.len; omega, by have e := HR.out.go _ _ (decls_nil HR.out.hat.fine HC1.out HC2.out); rw [List.append_nil] at e; exact e, A2.out, B2.out⟩
theorem ownT.new {lo : Nat} {W : World} {xs : List Syn} {cs : List Value} (h : flatIn (offs lo []) W xs cs) (hl : lo ≤ W.heap.size) (n : Nat) (hn : xs.length = n) (hm : n ≤ 100) :
    ownT lo (W.alloc (Obj.cells cs.toArray 25)) xs (.slice (some ⟨W.heap.size, 0, none⟩) n n) := by
  subst hn
  have hlen := flatIn.len _ _ h
  refine ⟨cs, ⟨hlen, .inr ⟨W.heap.size, xs.length, cs.toArray, rfl, hl, ?_, Nat.le_refl _, by unfold maxLen; omega, by simpa using hlen, ?_⟩⟩, ?_⟩
  · show (W.heap.push _)[W.heap.size]? = _
    exact Array.getElem?_push_size
  · rw [← hlen, show cs.toArray.toList = cs from by simp, List.take_length]
  · have hb := (Below.refl W.heap.size W).alloc (Nat.le_refl _) (Obj.cells cs.toArray 25)
    exact flatIn.keep ⟨hb.size, fun k _ h => hb.block k h⟩ (fun k hk h => ⟨hk.1, fun e => by
      have : W.heap.size = k := by cases e; rfl
      omega⟩) _ _ h
theorem Bx5.down {p B : Nat} {W W' : World} {v0 v1 v2 v3 v4 : Value} (h : Bx5 W p v0 v1 v2 v3 v4) (hb : Below B W W') (hp : p < B) : Bx5 W' p v0 v1 v2 v3 v4 := by
  obtain ⟨c0, c1, c2, c3, c4, hf, hl⟩ := h
  exact ⟨(hb.cell (p := ⟨p, 0, none⟩) hp).trans c0, (hb.cell (p := ⟨p, 1, none⟩) hp).trans c1, (hb.cell (p := ⟨p, 2, none⟩) hp).trans c2, (hb.cell (p := ⟨p, 3, none⟩) hp).trans c3, (hb.cell (p := ⟨p, 4, none⟩) hp).trans c4, fun j => (hb.frozen (p := ⟨p, j, none⟩) hp).trans (hf j), Nat.lt_of_lt_of_le hl hb.size⟩
theorem Bx3.down {p B : Nat} {W W' : World} {v0 v1 v2 : Value} (h : Bx3 W p v0 v1 v2) (hb : Below B W W') (hp : p < B) : Bx3 W' p v0 v1 v2 := by
  obtain ⟨c0, c1, c2, hf, hl⟩ := h
  exact ⟨(hb.cell (p := ⟨p, 0, none⟩) hp).trans c0, (hb.cell (p := ⟨p, 1, none⟩) hp).trans c1, (hb.cell (p := ⟨p, 2, none⟩) hp).trans c2, fun j => (hb.frozen (p := ⟨p, j, none⟩) hp).trans (hf j), Nat.lt_of_lt_of_le hl hb.size⟩
set_option maxRecDepth 20000 in
set_option maxHeartbeats 4000000 in
theorem pbranches {R : Nat} {L : List Tk} {d : Nat} {st : RSt} {w : World} (h : At R L w d st) (wk : Int) (wt : ByteArray) (wa : Int) (hd : d ≤ 999999) (KC : GT 41 R L #[.pointer (some ⟨R, 0, none⟩)] (.lvl 0) d st) (KB : ∀ s : RSt, s.rem ≤ st.rem → GT 152 R L #[.pointer (some ⟨R, 0, none⟩)] .block d s) (KQ : ∀ s : RSt, s.rem ≤ st.rem → tIs L (takeS s) ⟨#[105, 102]⟩ = true → ∀ t : Tk, t = cur L (takeS s) → GT 151 R L #[.pointer (some ⟨R, 0, none⟩), tkA t] (.chain t.a) (d + 1) (enterS L (takeS s) d true)) :
    Calls Tryz.prog 151 #[.pointer (some ⟨R, 0, none⟩), tkA ⟨wk, wt, wa⟩] w (PT R L (.chain wa) d st w) := by
  have hfi := h.fine
  have HTL := Lib.hid h.fix.toks; have HFI := Lib.hid hfi; have HD := Lib.hid hd
  have KKC := Lib.hid KC; have KKB := Lib.hid KB; have KKQ := Lib.hid KQ
  have HRW := Lib.hid h.fix.lt; have HLT := Lib.hid h.fix.lt; have HA0 := Lib.hid h
  have HLT2 : Hid (R < w.heap.size + 2) := Lib.hid (by have := h.fix.lt; omega)
  have hsz : (w.alloc (Obj.cells #[.int .i64 wk, .string wt, .int .i64 wa] 47)).heap.size = w.heap.size + 1 := by simp
  have hX0 := (Bx3.new w (.int .i64 wk) (.string wt) (.int .i64 wa)).alloc (Obj.cells #[.int .i64 0, .int .i64 0, .string ⟨#[]⟩, .int .i64 0, .slice none 0 0] 25)
  have hXR := Bx5.new (w.alloc (Obj.cells #[.int .i64 wk, .string wt, .int .i64 wa] 47)) (.int .i64 0) (.int .i64 0) (.string ⟨#[]⟩) (.int .i64 0) (.slice none 0 0)
  rw [hsz] at hXR
  have A0 := Lib.hid ((h.alloc (Obj.cells #[.int .i64 wk, .string wt, .int .i64 wa] 47)).alloc (Obj.cells #[.int .i64 0, .int .i64 0, .string ⟨#[]⟩, .int .i64 0, .slice none 0 0] 25)); have B0 := Lib.hid (((Butt.refl R w).alloc h.fix.lt (Obj.cells #[.int .i64 wk, .string wt, .int .i64 wa] 47)).alloc h.fix.lt (Obj.cells #[.int .i64 0, .int .i64 0, .string ⟨#[]⟩, .int .i64 0, .slice none 0 0] 25))
  have TW0 := Lib.hid hX0; have XR0 := Lib.hid hXR
  have PTW : Hid (w.heap.size ≠ R) := Lib.hid (fun e => absurd h.fix.lt (by rw [e]; exact Nat.lt_irrefl _))
  have HPR : Hid (w.heap.size + 1 ≠ R) := Lib.hid (fun e => absurd h.fix.lt (by omega))
  clear hX0 hXR hsz h hfi hd KC KB KQ
  unfold tkA
  dsimp only
  go_enter Tryz.func151, Tryz.ntmps151
  go_wp2_with (go_at_call 41; refine (KKC.out _ A0.out).mono ?_; rintro e w1 ⟨x1, v1, s1, rfl, hx1, hs1, ha1, hb1⟩; refine Hid.out ?_)
  obtain ⟨k1, a1, t1, n1, o1, l1, c1, q1, rfl, rfl, hk1⟩ := hx1.shape
  have HS1 := Lib.hid hs1
  have TR1 := Lib.hid (synIn.of (l2 := (w.heap.size + 2)) (ps := []) hx1 (by have := XR0.out.lt; omega) (by simp))
  have A1 := Lib.hid ha1; have B1 := Lib.hid (B0.out.trans hb1)
  have XR1 := Lib.hid (XR0.out.butt HPR.out hb1)
  have TW1 := Lib.hid (TW0.out.butt PTW.out hb1)
  clear ha1 hb1 hx1 hk1 hs1
  refine Lib.hid ?_
  have HSR1 := Lib.hid (Run.rem HS1.out)
  go_wp2_with (go_at_call 152; refine (KKB.out _ HSR1.out _ A1.out).mono ?_; rintro e w2 ⟨x2, v2, s2, rfl, hx2, hs2, ha2, hb2⟩; refine Hid.out ?_)
  obtain ⟨k2, a2, t2, n2, o2, l2, c2, q2, rfl, rfl, hk2⟩ := hx2.shape
  have HS2 := Lib.hid hs2
  have TR2 := Lib.hid (synIn.of (l2 := (w.heap.size + 2)) (ps := []) hx2 (by have := XR1.out.lt; omega) (by simp))
  have A2 := Lib.hid ha2; have B2 := Lib.hid (B1.out.trans hb2)
  have XR2 := Lib.hid (XR1.out.butt HPR.out hb2)
  have TW2 := Lib.hid (TW1.out.butt PTW.out hb2)
  have TR12 := Lib.hid (TR1.out.butt HLT2.out hb2)
  clear ha2 hb2 hx2 hk2 hs2
  refine Lib.hid ?_
  have HSR2 := Lib.hid (Nat.le_trans (Run.rem HS2.out) HSR1.out)
  have OW := Lib.hid (ownT.new (flatIn.cons TR12.out (flatIn.one TR2.out)) (by have := XR2.out.lt; omega) 2 rfl (by decide))
  have A2a := Lib.hid (A2.out.alloc (Obj.cells #[.int .i64 k1, .int .i64 a1, .string t1, .int .i64 n1, .slice o1 l1 c1, .int .i64 k2, .int .i64 a2, .string t2, .int .i64 n2, .slice o2 l2 c2] 25)); have B2a := Lib.hid (B2.out.alloc HRW.out (Obj.cells #[.int .i64 k1, .int .i64 a1, .string t1, .int .i64 n1, .slice o1 l1 c1, .int .i64 k2, .int .i64 a2, .string t2, .int .i64 n2, .slice o2 l2 c2] 25))
  have XR2a := Lib.hid (XR2.out.alloc (Obj.cells #[.int .i64 k1, .int .i64 a1, .string t1, .int .i64 n1, .slice o1 l1 c1, .int .i64 k2, .int .i64 a2, .string t2, .int .i64 n2, .slice o2 l2 c2] 25))
  have TW2a := Lib.hid (TW2.out.alloc (Obj.cells #[.int .i64 k1, .int .i64 a1, .string t1, .int .i64 n1, .slice o1 l1 c1, .int .i64 k2, .int .i64 a2, .string t2, .int .i64 n2, .slice o2 l2 c2] 25))
  have CA := saccept A2a.out ⟨#[101, 108, 115, 101]⟩
  cases hb : tIs L s2 ⟨#[101, 108, 115, 101]⟩ with
  | false =>
    rw [hb, if_neg Bool.false_ne_true] at CA
    have KA := Lib.hid CA; have HBB := Lib.hid hb; clear CA hb
    go_wp2_with (go_at_call 84; refine (KA.out).mono ?_; rintro e w3 ⟨rfl, ha3, hb3⟩; refine Hid.out ?_)
    have A3 := Lib.hid ha3; have B3 := Lib.hid (B2a.out.trans hb3)
    have XR3 := Lib.hid (XR2a.out.butt HPR.out hb3)
    have TW3 := Lib.hid (TW2a.out.butt PTW.out hb3)
    have OW3 := Lib.hid (OW.out.keep (Nat.le_refl _) (hb3.froms HLT2.out))
    clear ha3 hb3
    refine Lib.hid ?_
    have KR := Lib.hid (ownT.kidsIn (l2 := w.heap.size) (ps := [w.heap.size + 1]) OW3.out (Nat.le_add_right _ _) (by simp))
    have zTW := TW3.out
    have yTW0 := zTW.c0
    have yTW1 := zTW.c1
    have yTW2 := zTW.c2
    clear zTW
    go_wp2_with (go_at_call 59; refine (pnode_any _ _ _ _ _ _ _).mono ?_; rintro e w4 ⟨rfl, hb4⟩; refine Hid.out ?_)
    have HBZ := Lib.hid hb4
    have hbx := Butt.of_below (R := R) A3.out.fix.lt hb4
    have ha4 : At R L w4 _ _ := ⟨A3.out.fix.butt hbx, A3.out.rs.below hb4⟩
    have TN := Lib.hid (synIn_mk.mpr ⟨_, rfl, KR.out.keep ⟨HBZ.out.size, fun k _ h => HBZ.out.block k h⟩ (fun _ h _ => h)⟩ : synIn (offs w.heap.size [w.heap.size + 1]) w4 (.mk 11 wa ⟨#[]⟩ 0 [(.mk k1 a1 t1 n1 q1), (.mk k2 a2 t2 n2 q2)]) _)
    have hb4 := hbx; clear hbx
    have A4 := Lib.hid ha4; have B4 := Lib.hid (B3.out.trans hb4)
    have XR4 := Lib.hid (XR3.out.butt HPR.out hb4)
    have TW4 := Lib.hid (TW3.out.butt PTW.out hb4)
    clear ha4 hb4
    refine Lib.hid ?_
    have FT := Lib.hid (store5 HA0.out B4.out A4.out XR4.out (Nat.le_succ _) (.int .i64 11) (.int .i64 wa) (.string ⟨#[]⟩) (.int .i64 0) (.slice (some ⟨w2.heap.size, 0, none⟩) 2 2) _ rfl)
    have GX := Lib.hid ((TN.out).kept (by simp) FT.out.2.2.2).at
    have zXR := XR4.out
    have yXR0 := zXR.c0
    have yXR1 := zXR.c1
    have yXR2 := zXR.c2
    have yXR3 := zXR.c3
    have yXR4 := zXR.c4
    have fXR0 := zXR.free 0
    have fXR1 := zXR.free 1
    have fXR2 := zXR.free 2
    have fXR3 := zXR.free 3
    have fXR4 := zXR.free 4
    clear zXR
    obtain ⟨r0, r1, r2, r3, r4⟩ := FT.out.1
    have GA := Lib.hid FT.out.2.1; have GB := Lib.hid FT.out.2.2.1
    clear FT
    go_wp2
    refine bodyPost_ret (by simp [results, Tryz.results151, go_sem, r0, r1, r2, r3, r4]; rfl) rfl ?_
    exact ⟨_, _, _, rfl, GX.out, chain_no (L := L) HFI.out HS1.out HS2.out HBB.out, GA.out, GB.out⟩
  | true =>
    rw [hb, if_pos rfl] at CA
    have KA := Lib.hid CA; have HBB := Lib.hid hb; clear CA hb
    go_wp2_with (go_at_call 84; refine (KA.out).mono ?_; rintro e w3 ⟨rfl, ha3, hb3⟩; refine Hid.out ?_)
    have A3 := Lib.hid ha3; have B3 := Lib.hid (B2a.out.trans hb3)
    have XR3 := Lib.hid (XR2a.out.butt HPR.out hb3)
    have TW3 := Lib.hid (TW2a.out.butt PTW.out hb3)
    have OW3 := Lib.hid (OW.out.keep (Nat.le_refl _) (hb3.froms HLT2.out))
    clear ha3 hb3
    refine Lib.hid ?_
    have CI := sis A3.out ⟨#[105, 102]⟩
    cases hi : tIs L (takeS s2) ⟨#[105, 102]⟩ with
    | false =>
      rw [hi] at CI
      have KI := Lib.hid CI; have HII := Lib.hid hi; clear CI
      clear hi
      go_wp2_with (go_at_call 57; refine (KI.out).mono ?_; rintro e w4 ⟨rfl, ha4, hb4⟩; refine Hid.out ?_)
      have A4 := Lib.hid ha4; have B4 := Lib.hid (B3.out.trans hb4)
      have XR4 := Lib.hid (XR3.out.butt HPR.out hb4)
      have TW4 := Lib.hid (TW3.out.butt PTW.out hb4)
      have OW4 := Lib.hid (OW3.out.keep (Nat.le_refl _) (hb4.froms HLT2.out))
      clear ha4 hb4
      refine Lib.hid ?_
      go_wp2_with (go_at_call 152; refine (KKB.out _ (Nat.le_trans (takeS_rem _) HSR2.out) _ A4.out).mono ?_; rintro e w5 ⟨x5, v5, s5, rfl, hx5, hs5, ha5, hb5⟩; refine Hid.out ?_)
      obtain ⟨k5, a5, t5, n5, o5, l5, c5, q5, rfl, rfl, hk5⟩ := hx5.shape
      have HOFF := Lib.hid (OW4.out.off (Nat.le_refl _) hx5 (by have := XR4.out.lt; omega))
      have HS5 := Lib.hid hs5
      have TR5 := Lib.hid (synIn.of (l2 := (w.heap.size + 2)) (ps := []) hx5 (by have := XR4.out.lt; omega) (by simp))
      have A5 := Lib.hid ha5; have B5 := Lib.hid (B4.out.trans hb5)
      have XR5 := Lib.hid (XR4.out.butt HPR.out hb5)
      have TW5 := Lib.hid (TW4.out.butt PTW.out hb5)
      have OW5 := Lib.hid (OW4.out.keep (Nat.le_refl _) (hb5.froms HLT2.out))
      clear ha5 hb5 hx5 hk5 hs5
      refine Lib.hid ?_
      have A5a1 := Lib.hid (A5.out.alloc (Obj.cells #[.int .i64 k5, .int .i64 a5, .string t5, .int .i64 n5, .slice o5 l5 c5] 25)); have B5a1 := Lib.hid (B5.out.alloc HRW.out (Obj.cells #[.int .i64 k5, .int .i64 a5, .string t5, .int .i64 n5, .slice o5 l5 c5] 25))
      have XR5a1 := Lib.hid (XR5.out.alloc (Obj.cells #[.int .i64 k5, .int .i64 a5, .string t5, .int .i64 n5, .slice o5 l5 c5] 25))
      have TW5a1 := Lib.hid (TW5.out.alloc (Obj.cells #[.int .i64 k5, .int .i64 a5, .string t5, .int .i64 n5, .slice o5 l5 c5] 25))
      have TR55a1 := Lib.hid (TR5.out.butt HLT2.out (Butt.of_below A5.out.fix.lt ((Below.refl _ _).alloc (Nat.le_refl _) (Obj.cells #[.int .i64 k5, .int .i64 a5, .string t5, .int .i64 n5, .slice o5 l5 c5] 25))))
      have OW5a1 := Lib.hid (OW5.out.keep (Nat.le_refl _) (From.of_below ((Below.refl _ _).alloc (Nat.le_refl _) (Obj.cells #[.int .i64 k5, .int .i64 a5, .string t5, .int .i64 n5, .slice o5 l5 c5] 25))))
      have HZ := Lib.hid (HOFF.out.below ((Below.refl _ _).alloc (Nat.le_refl _) (Obj.cells #[.int .i64 k5, .int .i64 a5, .string t5, .int .i64 n5, .slice o5 l5 c5] 25)))
      have HB1 : Hid ((w.heap.size + 2) ≤ (w5.alloc (Obj.cells #[.int .i64 k5, .int .i64 a5, .string t5, .int .i64 n5, .slice o5 l5 c5] 25)).heap.size) := Lib.hid (by have := XR5a1.out.lt; omega)
      go_wp2_with (first | (at_builtin; refine wpList_append_tree rfl (.tmp 24) (.tmp 27) rfl (w.heap.size + 2) _ [(.mk k1 a1 t1 n1 q1), (.mk k2 a2 t2 n2 q2)] (by simp [Act.eval, Act.put]) OW5a1.out (by simp) HB1.out w5.heap.size _ _ _ _ _ _ (by simp [Act.eval, Act.put]) HZ.out ⟨rfl, rfl, rfl, rfl, rfl⟩ (by go_cell) (by go_cell) (by go_cell) (by go_cell) (by go_cell) ?_; intro v9 ao9 cap9 w9 hv9 ho9 hg9; refine Hid.out ?_) | fail)
      subst hv9
      have hgl := grownBy_froms hg9 (fun b e => (OW5a1.out.lo b e).1) HLT2.out HB1.out
      have hgr := At.grow HA0.out A5a1.out B5a1.out (Below.down hgl (by omega : w.heap.size ≤ (w.heap.size + 2)))
      have A9 := Lib.hid hgr.1; have B9 := Lib.hid hgr.2; have O9 := Lib.hid ho9
      have XR9 := Lib.hid (XR5a1.out.down hgl (by omega))
      have TW9 := Lib.hid (TW5a1.out.down hgl (by omega))
      clear hgl hgr ho9 hg9
      refine Lib.hid ?_
      have KR := Lib.hid (ownT.kidsIn (l2 := w.heap.size) (ps := [w.heap.size + 1]) O9.out (Nat.le_add_right _ _) (by simp))
      have zTW := TW9.out
      have yTW0 := zTW.c0
      have yTW1 := zTW.c1
      have yTW2 := zTW.c2
      clear zTW
      go_wp2_with (go_at_call 59; refine (pnode_any _ _ _ _ _ _ _).mono ?_; rintro e w6 ⟨rfl, hb6⟩; refine Hid.out ?_)
      have HBZ := Lib.hid hb6
      have hbx := Butt.of_below (R := R) A9.out.fix.lt hb6
      have ha6 : At R L w6 _ _ := ⟨A9.out.fix.butt hbx, A9.out.rs.below hb6⟩
      have TN := Lib.hid (synIn_mk.mpr ⟨_, rfl, KR.out.keep ⟨HBZ.out.size, fun k _ h => HBZ.out.block k h⟩ (fun _ h _ => h)⟩ : synIn (offs w.heap.size [w.heap.size + 1]) w6 (.mk 11 wa ⟨#[]⟩ 0 [(.mk k1 a1 t1 n1 q1), (.mk k2 a2 t2 n2 q2), (.mk k5 a5 t5 n5 q5)]) _)
      have hb6 := hbx; clear hbx
      have A6 := Lib.hid ha6; have B6 := Lib.hid (B9.out.trans hb6)
      have XR6 := Lib.hid (XR9.out.butt HPR.out hb6)
      have TW6 := Lib.hid (TW9.out.butt PTW.out hb6)
      clear ha6 hb6
      refine Lib.hid ?_
      have FT := Lib.hid (store5 HA0.out B6.out A6.out XR6.out (Nat.le_succ _) (.int .i64 11) (.int .i64 wa) (.string ⟨#[]⟩) (.int .i64 0) (.slice ao9 3 cap9) _ rfl)
      have GX := Lib.hid ((TN.out).kept (by simp) FT.out.2.2.2).at
      have zXR := XR6.out
      have yXR0 := zXR.c0
      have yXR1 := zXR.c1
      have yXR2 := zXR.c2
      have yXR3 := zXR.c3
      have yXR4 := zXR.c4
      have fXR0 := zXR.free 0
      have fXR1 := zXR.free 1
      have fXR2 := zXR.free 2
      have fXR3 := zXR.free 3
      have fXR4 := zXR.free 4
      clear zXR
      obtain ⟨r0, r1, r2, r3, r4⟩ := FT.out.1
      have GA := Lib.hid FT.out.2.1; have GB := Lib.hid FT.out.2.2.1
      clear FT
      go_wp2
      refine bodyPost_ret (by simp [results, Tryz.results151, go_sem, r0, r1, r2, r3, r4]; rfl) rfl ?_
      exact ⟨_, _, _, rfl, GX.out, chain_else (L := L) HFI.out HS1.out HS2.out HBB.out HII.out HS5.out, GA.out, GB.out⟩
    | true =>
      rw [hi] at CI
      have KI := Lib.hid CI; have HII := Lib.hid hi; clear CI
      have CE := fun W (H : At R L W d (takeS s2)) => senter H HD.out ⟨#[105, 102]⟩
      rw [hi, tokM_true] at CE
      have CQ := KKQ.out s2 HSR2.out hi _ rfl
      have HMM := Lib.hid (fun z s3 => chain_if (L := L) (a := wa) (z := z) (s3 := s3) HFI.out HS1.out HS2.out HBB.out hi)
      generalize cur L (takeS s2) = T at *
      have KE := Lib.hid CE; have KQQ := Lib.hid CQ; clear CE CQ hi
      go_wp2_with (go_at_call 57; refine (KI.out).mono ?_; rintro e w4 ⟨rfl, ha4, hb4⟩; refine Hid.out ?_)
      have A4 := Lib.hid ha4; have B4 := Lib.hid (B3.out.trans hb4)
      have XR4 := Lib.hid (XR3.out.butt HPR.out hb4)
      have TW4 := Lib.hid (TW3.out.butt PTW.out hb4)
      have OW4 := Lib.hid (OW3.out.keep (Nat.le_refl _) (hb4.froms HLT2.out))
      clear ha4 hb4
      refine Lib.hid ?_
      go_wp2_with (go_at_call 114; refine (KE.out _ A4.out).mono ?_; rintro e w5 ⟨rfl, ha5, hb5⟩; refine Hid.out ?_)
      have A5 := Lib.hid ha5; have B5 := Lib.hid (B4.out.trans hb5)
      have XR5 := Lib.hid (XR4.out.butt HPR.out hb5)
      have TW5 := Lib.hid (TW4.out.butt PTW.out hb5)
      have OW5 := Lib.hid (OW4.out.keep (Nat.le_refl _) (hb5.froms HLT2.out))
      clear ha5 hb5
      refine Lib.hid ?_
      go_wp2_with (go_at_call 151; refine (KQQ.out _ A5.out).mono ?_; rintro e w6 ⟨x6, v6, s6, rfl, hx6, hs6, ha6, hb6⟩; refine Hid.out ?_)
      obtain ⟨k6, a6, t6, n6, o6, l6, c6, q6, rfl, rfl, hk6⟩ := hx6.shape
      have HOFF := Lib.hid (OW5.out.off (Nat.le_refl _) hx6 (by have := XR5.out.lt; omega))
      have HS6 := Lib.hid hs6
      have TR6 := Lib.hid (synIn.of (l2 := (w.heap.size + 2)) (ps := []) hx6 (by have := XR5.out.lt; omega) (by simp))
      have A6 := Lib.hid ha6; have B6 := Lib.hid (B5.out.trans hb6)
      have XR6 := Lib.hid (XR5.out.butt HPR.out hb6)
      have TW6 := Lib.hid (TW5.out.butt PTW.out hb6)
      have OW6 := Lib.hid (OW5.out.keep (Nat.le_refl _) (hb6.froms HLT2.out))
      clear ha6 hb6 hx6 hk6 hs6
      refine Lib.hid ?_
      have A6a1 := Lib.hid (A6.out.alloc (Obj.cells #[.int .i64 k6, .int .i64 a6, .string t6, .int .i64 n6, .slice o6 l6 c6] 25)); have B6a1 := Lib.hid (B6.out.alloc HRW.out (Obj.cells #[.int .i64 k6, .int .i64 a6, .string t6, .int .i64 n6, .slice o6 l6 c6] 25))
      have XR6a1 := Lib.hid (XR6.out.alloc (Obj.cells #[.int .i64 k6, .int .i64 a6, .string t6, .int .i64 n6, .slice o6 l6 c6] 25))
      have TW6a1 := Lib.hid (TW6.out.alloc (Obj.cells #[.int .i64 k6, .int .i64 a6, .string t6, .int .i64 n6, .slice o6 l6 c6] 25))
      have TR66a1 := Lib.hid (TR6.out.butt HLT2.out (Butt.of_below A6.out.fix.lt ((Below.refl _ _).alloc (Nat.le_refl _) (Obj.cells #[.int .i64 k6, .int .i64 a6, .string t6, .int .i64 n6, .slice o6 l6 c6] 25))))
      have OW6a1 := Lib.hid (OW6.out.keep (Nat.le_refl _) (From.of_below ((Below.refl _ _).alloc (Nat.le_refl _) (Obj.cells #[.int .i64 k6, .int .i64 a6, .string t6, .int .i64 n6, .slice o6 l6 c6] 25))))
      have HZ := Lib.hid (HOFF.out.below ((Below.refl _ _).alloc (Nat.le_refl _) (Obj.cells #[.int .i64 k6, .int .i64 a6, .string t6, .int .i64 n6, .slice o6 l6 c6] 25)))
      have HB1 : Hid ((w.heap.size + 2) ≤ (w6.alloc (Obj.cells #[.int .i64 k6, .int .i64 a6, .string t6, .int .i64 n6, .slice o6 l6 c6] 25)).heap.size) := Lib.hid (by have := XR6a1.out.lt; omega)
      go_wp2_with (first | (at_builtin; refine wpList_append_tree rfl (.tmp 15) (.tmp 20) rfl (w.heap.size + 2) _ [(.mk k1 a1 t1 n1 q1), (.mk k2 a2 t2 n2 q2)] (by simp [Act.eval, Act.put]) OW6a1.out (by simp) HB1.out w6.heap.size _ _ _ _ _ _ (by simp [Act.eval, Act.put]) HZ.out ⟨rfl, rfl, rfl, rfl, rfl⟩ (by go_cell) (by go_cell) (by go_cell) (by go_cell) (by go_cell) ?_; intro v9 ao9 cap9 w9 hv9 ho9 hg9; refine Hid.out ?_) | fail)
      subst hv9
      have hgl := grownBy_froms hg9 (fun b e => (OW6a1.out.lo b e).1) HLT2.out HB1.out
      have hgr := At.grow HA0.out A6a1.out B6a1.out (Below.down hgl (by omega : w.heap.size ≤ (w.heap.size + 2)))
      have A9 := Lib.hid hgr.1; have B9 := Lib.hid hgr.2; have O9 := Lib.hid ho9
      have XR9 := Lib.hid (XR6a1.out.down hgl (by omega))
      have TW9 := Lib.hid (TW6a1.out.down hgl (by omega))
      clear hgl hgr ho9 hg9
      refine Lib.hid ?_
      go_wp2_with (go_at_call 117; refine (sleave A9.out HD.out).mono ?_; rintro e w7 ⟨rfl, ha7, hb7⟩; refine Hid.out ?_)
      have A7 := Lib.hid ha7; have B7 := Lib.hid (B9.out.trans hb7)
      have XR7 := Lib.hid (XR9.out.butt HPR.out hb7)
      have TW7 := Lib.hid (TW9.out.butt PTW.out hb7)
      have OW7 := Lib.hid (O9.out.keep (Nat.le_refl _) (hb7.froms HLT2.out))
      clear ha7 hb7
      refine Lib.hid ?_
      have KR := Lib.hid (ownT.kidsIn (l2 := w.heap.size) (ps := [w.heap.size + 1]) OW7.out (Nat.le_add_right _ _) (by simp))
      have zTW := TW7.out
      have yTW0 := zTW.c0
      have yTW1 := zTW.c1
      have yTW2 := zTW.c2
      clear zTW
      go_wp2_with (go_at_call 59; refine (pnode_any _ _ _ _ _ _ _).mono ?_; rintro e w8 ⟨rfl, hb8⟩; refine Hid.out ?_)
      have HBZ := Lib.hid hb8
      have hbx := Butt.of_below (R := R) A7.out.fix.lt hb8
      have ha8 : At R L w8 _ _ := ⟨A7.out.fix.butt hbx, A7.out.rs.below hb8⟩
      have TN := Lib.hid (synIn_mk.mpr ⟨_, rfl, KR.out.keep ⟨HBZ.out.size, fun k _ h => HBZ.out.block k h⟩ (fun _ h _ => h)⟩ : synIn (offs w.heap.size [w.heap.size + 1]) w8 (.mk 11 wa ⟨#[]⟩ 0 [(.mk k1 a1 t1 n1 q1), (.mk k2 a2 t2 n2 q2), (.mk k6 a6 t6 n6 q6)]) _)
      have hb8 := hbx; clear hbx
      have A8 := Lib.hid ha8; have B8 := Lib.hid (B7.out.trans hb8)
      have XR8 := Lib.hid (XR7.out.butt HPR.out hb8)
      have TW8 := Lib.hid (TW7.out.butt PTW.out hb8)
      clear ha8 hb8
      refine Lib.hid ?_
      have FT := Lib.hid (store5 HA0.out B8.out A8.out XR8.out (Nat.le_succ _) (.int .i64 11) (.int .i64 wa) (.string ⟨#[]⟩) (.int .i64 0) (.slice ao9 3 cap9) _ rfl)
      have GX := Lib.hid ((TN.out).kept (by simp) FT.out.2.2.2).at
      have zXR := XR8.out
      have yXR0 := zXR.c0
      have yXR1 := zXR.c1
      have yXR2 := zXR.c2
      have yXR3 := zXR.c3
      have yXR4 := zXR.c4
      have fXR0 := zXR.free 0
      have fXR1 := zXR.free 1
      have fXR2 := zXR.free 2
      have fXR3 := zXR.free 3
      have fXR4 := zXR.free 4
      clear zXR
      obtain ⟨r0, r1, r2, r3, r4⟩ := FT.out.1
      have GA := Lib.hid FT.out.2.1; have GB := Lib.hid FT.out.2.2.1
      clear FT
      go_wp2
      refine bodyPost_ret (by simp [results, Tryz.results151, go_sem, r0, r1, r2, r3, r4]; rfl) rfl ?_
      exact ⟨_, _, _, rfl, GX.out, HMM.out _ _ HS6.out, GA.out, GB.out⟩
end Go.Proofs.YtdibcllakkjegaaGreatDoor
