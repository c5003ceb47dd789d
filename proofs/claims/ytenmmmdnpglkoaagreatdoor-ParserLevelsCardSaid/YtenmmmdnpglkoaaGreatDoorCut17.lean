import Derived.ChangeMaps5
import Derived.Maps.Own
import Derived.Test.YtenmmmdnpglkoaaGreatDoorCut16
import Derived.Deep.Upon
set_option linter.unusedSimpArgs false
set_option linter.unusedVariables false
set_option maxRecDepth 100000
set_option maxHeartbeats 8000000
/-
 parser: statementList.
-/
namespace Go.Proofs.YtenmmmdnpglkoaaGreatDoor
open Go Go.Proofs Go.RowKit Go.Sort
theorem jcj {a b:ByteArray} (h:a≠b):(a==b)=false:=by
 rw[Bool.eq_false_iff,beq_toListBytes]
 exact fun e=>h ((Lib.bytes_beq_iff _ _).mp e)
theorem je7 (a:ByteArray):(a==a)=true:=by
 rw[beq_toListBytes]
 exact(Lib.bytes_beq_iff _ _).mpr rfl
theorem jd4 {w:World} {b:Nat} {es:Array MapEntry} {clock:Nat} (hb:w.heap[b]? = some (.map es clock)) (s:ByteArray) (i:Nat) (v:Value)
  (h1:Instr.findNow .string (.string s) es.toList 0=some (some (i,v))) :
  (Instr.lookup 71 (.map (some b)) (.string s) true).run Tryz.prog w = .ok (.tuple #[v,.bool true]) w:=by
 have hkey:MapKept.IsKey .string (.string s):=trivial
 simp[Instr.lookup,run_underlying Tryz.underlying71,MapKept.run_getObj_map hb,MapKept.run_checkKey Tryz.underlying9 hkey,MapKept.run_findKey Tryz.underlying9 h1,Result.andThen]
theorem jiI {w:World} {b:Nat} {es:Array MapEntry} {clock:Nat} (hb:w.heap[b]? = some (.map es clock)) (s:ByteArray)
  (h1:Instr.findNow .string (.string s) es.toList 0=some none) :
  (Instr.lookup 71 (.map (some b)) (.string s) true).run Tryz.prog w = .ok (.tuple #[.nilFunc,.bool false]) w:=by
 have hkey:MapKept.IsKey .string (.string s):=trivial
 simp[Instr.lookup,run_underlying Tryz.underlying71,MapKept.run_getObj_map hb,MapKept.run_checkKey Tryz.underlying9 hkey,MapKept.run_findKey Tryz.underlying9 h1,Result.andThen]
theorem jiJ (s:ByteArray) (v0 v1 v2 v3 v4:Value) (i0 i1 i2 i3 i4:Nat) (h0:s≠⟨#[110,97,109,101]⟩) (h1:s≠⟨#[105,102]⟩) (h2:s≠⟨#[119,104,105,108,101]⟩) (h3:s≠⟨#[97,115,115,101,114,116]⟩) (h4:s≠⟨#[97,115,115,117,109,101]⟩) :
  Instr.findNow .string (.string s) [⟨.string ⟨#[110,97,109,101]⟩,v0,i0⟩,⟨.string ⟨#[105,102]⟩,v1,i1⟩,⟨.string ⟨#[119,104,105,108,101]⟩,v2,i2⟩,⟨.string ⟨#[97,115,115,101,114,116]⟩,v3,i3⟩,⟨.string ⟨#[97,115,115,117,109,101]⟩,v4,i4⟩] 0=some none:=by
 have h0:=jcj h0;have h1:=jcj h1;have h2:=jcj h2;have h3:=jcj h3;have h4:=jcj h4
 simp[Instr.findNow,Instr.sameNow,h0,h1,h2,h3,h4]
theorem jlM (v0 v1 v2 v3 v4:Value) (i0 i1 i2 i3 i4:Nat) :
  Instr.findNow .string (.string ⟨#[110,97,109,101]⟩) [⟨.string ⟨#[110,97,109,101]⟩,v0,i0⟩,⟨.string ⟨#[105,102]⟩,v1,i1⟩,⟨.string ⟨#[119,104,105,108,101]⟩,v2,i2⟩,⟨.string ⟨#[97,115,115,101,114,116]⟩,v3,i3⟩,⟨.string ⟨#[97,115,115,117,109,101]⟩,v4,i4⟩] 0=some (some (0,v0)):=by
 have es:=je7 ⟨#[110,97,109,101]⟩
 simp[Instr.findNow,Instr.sameNow,es]
theorem jlN (v0 v1 v2 v3 v4:Value) (i0 i1 i2 i3 i4:Nat) :
  Instr.findNow .string (.string ⟨#[105,102]⟩) [⟨.string ⟨#[110,97,109,101]⟩,v0,i0⟩,⟨.string ⟨#[105,102]⟩,v1,i1⟩,⟨.string ⟨#[119,104,105,108,101]⟩,v2,i2⟩,⟨.string ⟨#[97,115,115,101,114,116]⟩,v3,i3⟩,⟨.string ⟨#[97,115,115,117,109,101]⟩,v4,i4⟩] 0=some (some (1,v1)):=by
 have es:=je7 ⟨#[105,102]⟩
 have e0:=jcj (show (⟨#[105,102]⟩:ByteArray)≠⟨#[110,97,109,101]⟩ by decide)
 simp[Instr.findNow,Instr.sameNow,es,e0]
theorem jlO (v0 v1 v2 v3 v4:Value) (i0 i1 i2 i3 i4:Nat) :
  Instr.findNow .string (.string ⟨#[119,104,105,108,101]⟩) [⟨.string ⟨#[110,97,109,101]⟩,v0,i0⟩,⟨.string ⟨#[105,102]⟩,v1,i1⟩,⟨.string ⟨#[119,104,105,108,101]⟩,v2,i2⟩,⟨.string ⟨#[97,115,115,101,114,116]⟩,v3,i3⟩,⟨.string ⟨#[97,115,115,117,109,101]⟩,v4,i4⟩] 0=some (some (2,v2)):=by
 have es:=je7 ⟨#[119,104,105,108,101]⟩
 have e0:=jcj (show (⟨#[119,104,105,108,101]⟩:ByteArray)≠⟨#[110,97,109,101]⟩ by decide)
 have e1:=jcj (show (⟨#[119,104,105,108,101]⟩:ByteArray)≠⟨#[105,102]⟩ by decide)
 simp[Instr.findNow,Instr.sameNow,es,e0,e1]
theorem jlP (v0 v1 v2 v3 v4:Value) (i0 i1 i2 i3 i4:Nat) :
  Instr.findNow .string (.string ⟨#[97,115,115,101,114,116]⟩) [⟨.string ⟨#[110,97,109,101]⟩,v0,i0⟩,⟨.string ⟨#[105,102]⟩,v1,i1⟩,⟨.string ⟨#[119,104,105,108,101]⟩,v2,i2⟩,⟨.string ⟨#[97,115,115,101,114,116]⟩,v3,i3⟩,⟨.string ⟨#[97,115,115,117,109,101]⟩,v4,i4⟩] 0=some (some (3,v3)):=by
 have es:=je7 ⟨#[97,115,115,101,114,116]⟩
 have e0:=jcj (show (⟨#[97,115,115,101,114,116]⟩:ByteArray)≠⟨#[110,97,109,101]⟩ by decide)
 have e1:=jcj (show (⟨#[97,115,115,101,114,116]⟩:ByteArray)≠⟨#[105,102]⟩ by decide)
 have e2:=jcj (show (⟨#[97,115,115,101,114,116]⟩:ByteArray)≠⟨#[119,104,105,108,101]⟩ by decide)
 simp[Instr.findNow,Instr.sameNow,es,e0,e1,e2]
theorem jlQ (v0 v1 v2 v3 v4:Value) (i0 i1 i2 i3 i4:Nat) :
  Instr.findNow .string (.string ⟨#[97,115,115,117,109,101]⟩) [⟨.string ⟨#[110,97,109,101]⟩,v0,i0⟩,⟨.string ⟨#[105,102]⟩,v1,i1⟩,⟨.string ⟨#[119,104,105,108,101]⟩,v2,i2⟩,⟨.string ⟨#[97,115,115,101,114,116]⟩,v3,i3⟩,⟨.string ⟨#[97,115,115,117,109,101]⟩,v4,i4⟩] 0=some (some (4,v4)):=by
 have es:=je7 ⟨#[97,115,115,117,109,101]⟩
 have e0:=jcj (show (⟨#[97,115,115,117,109,101]⟩:ByteArray)≠⟨#[110,97,109,101]⟩ by decide)
 have e1:=jcj (show (⟨#[97,115,115,117,109,101]⟩:ByteArray)≠⟨#[105,102]⟩ by decide)
 have e2:=jcj (show (⟨#[97,115,115,117,109,101]⟩:ByteArray)≠⟨#[119,104,105,108,101]⟩ by decide)
 have e3:=jcj (show (⟨#[97,115,115,117,109,101]⟩:ByteArray)≠⟨#[97,115,115,101,114,116]⟩ by decide)
 simp[Instr.findNow,Instr.sameNow,es,e0,e1,e2,e3]
theorem jla {R:Nat} {L:List Tk} {d:Nat} {st:RSt} {w:World} (h:At R L w d st):Calls Tryz.prog 142 #[.pointer (some ⟨R,0,none⟩)] w fun e w'=>e = .returned (.string (if isN (cur L st)=true then ⟨#[110,97,109,101]⟩ else (cur L st).t))∧Below w.heap.size w w':=by
 obtain⟨hf,nx,a,er,h1,h2,h3⟩:=h
 rw[jbt h1 h3]
 exact jif R L nx d a er w h2 h1 (Nat.le_trans (hf.toks.size nx) (by decide)) hf.cls
def begS (L:List Tk) (s:RSt):Prop:=isN (cur L s)=true∨tIs L s ⟨#[105,102]⟩=true∨tIs L s ⟨#[119,104,105,108,101]⟩=true∨tIs L s ⟨#[97,115,115,101,114,116]⟩=true∨tIs L s ⟨#[97,115,115,117,109,101]⟩=true
theorem jc4 {L:List Tk} {d:Nat} {s s2 s':RSt} {y:Syn} {ys:List Syn} (hf:s.fine) (hb:begS L s) (h:Stp .stmt d s [y] s2) (ht:Stp .stmts d s2 ys s'):Stp .stmts d s (y::ys) s':=
 jhG (Run.bind (jbn (L:=L) hf) (Run.bind (jaM (L:=L) hf wIf) (Run.bind (jaM (L:=L) hf jbA) (Run.bind (jaM (L:=L) hf jbq) (Run.bind (jaM (L:=L) hf jca) (Run.ite (fun _=>Run.bind h (Run.bind ht (ja1 (Run.fine ht (Run.fine h hf))))) (fun e=>absurd hb e)))))))
theorem jiK {L:List Tk} {d:Nat} {s:RSt} (hf:s.fine) (hb:¬ begS L s):Stp .stmts d s [] s:=
 jhG (Run.bind (jbn (L:=L) hf) (Run.bind (jaM (L:=L) hf wIf) (Run.bind (jaM (L:=L) hf jbA) (Run.bind (jaM (L:=L) hf jbq) (Run.bind (jaM (L:=L) hf jca) (Run.ite (fun e=>absurd e hb) (fun _=>ja1 hf)))))))
theorem jbZ {L:List Tk} {s:RSt} {t:ByteArray} (h:tIs L s t=true):(cur L s).t=t:=(Lib.bytes_beq_iff _ _).mp h
theorem jh6 {L:List Tk} {s:RSt} {t:ByteArray} (h:tIs L s t=false):(cur L s).t≠t:=fun e=>by
 unfold tIs at h
 rw[e,beq_self_eq_true] at h
 cases h
theorem jcb {L:List Tk} {s:RSt} (hL:TkL L) (h:begS L s):∃ l,s = .ok l∧∀ {R d:Nat} {W:World},At R L W d s→2≤l.length:=by
 have key:∀ {R d:Nat} {W:World},At R L W d s→(∃ l,s = .ok l∧2≤l.length):=by
  intro R d W ha
  obtain⟨hf,nx,a,er,h1,h2,h3⟩:=ha
  have hc:=jbt h1 h3
  have hnl:nx≠L.length-1:=by
   rintro rfl
   have hk:=hL.last
   rw[show jcL L=cur L s from hc.symm] at hk
   rcases h with h|h|h|h|h
   ·unfold isN at h;rw[hk.1] at h;exact absurd h (by simp)
   ·exact absurd ((jbZ h).symm.trans hk.2) (by decide)
   ·exact absurd ((jbZ h).symm.trans hk.2) (by decide)
   ·exact absurd ((jbZ h).symm.trans hk.2) (by decide)
   ·exact absurd ((jbZ h).symm.trans hk.2) (by decide)
  rcases h3 with ⟨-,-,rfl⟩|⟨-,e,-⟩
  ·exact⟨_,rfl,by rw[List.length_drop];omega⟩
  ·exact absurd e hnl
 cases s with
 |ok l=>exact⟨l,rfl,fun ha=>by obtain⟨l',e,h2⟩:=key ha;cases e;exact h2⟩
 |bad a e=>
  exfalso
  rcases h with h|h|h|h|h
  ·rw[jlw hL] at h;cases h
  ·exact absurd ((jck hL (s:=wIf) (by decide)).symm.trans h) (by decide)
  ·exact absurd ((jck hL (s:=jbA) (by decide)).symm.trans h) (by decide)
  ·exact absurd ((jck hL (s:=jbq) (by decide)).symm.trans h) (by decide)
  ·exact absurd ((jck hL (s:=jca) (by decide)).symm.trans h) (by decide)
structure SmtAt (R:Nat) (L:List Tk) (w:World) (d:Nat) (st:RSt) (wr:World) (s:RSt) (xs:List Syn) (v:Value):Prop where
 hat:At R L wr d s
 hb:Butt R w wr
 own:ownT w.heap.size wr xs v
 len:xs.length+s.rem≤st.rem
 go:∀ ys s',Stp .stmts d s ys s'→Stp .stmts d st (xs++ys) s'
def KS (f:Nat) (args:Array Value) (R:Nat) (L:List Tk) (d:Nat) (s:RSt):Prop:=∀ W:World,At R L W d s→Calls Tryz.prog f args W (PT R L .stmt d s W)
theorem jeZ {R:Nat} {L:List Tk} {d:Nat} {st:RSt} {w:World} (h:At R L w d st) (hN:∀ n,(tkD L n).t=⟨#[110,97,109,101]⟩→isN (tkD L n)=true) (K0:∀ s:RSt,s.rem≤st.rem→isN (cur L s)=true→KS 102 #[.pointer (some ⟨R,0,none⟩)] R L d s) (K1:∀ s:RSt,s.rem≤st.rem→isN (cur L s)=false→tIs L s ⟨#[105,102]⟩=true→KS 103 #[.pointer (some ⟨R,0,none⟩)] R L d s) (K2:∀ s:RSt,s.rem≤st.rem→isN (cur L s)=false→tIs L s ⟨#[105,102]⟩=false→tIs L s ⟨#[119,104,105,108,101]⟩=true→KS 104 #[.pointer (some ⟨R,0,none⟩)] R L d s) (K3:∀ (q:Nat) (s:RSt),s.rem≤st.rem→isN (cur L s)=false→tIs L s ⟨#[105,102]⟩=false→tIs L s ⟨#[119,104,105,108,101]⟩=false→tIs L s ⟨#[97,115,115,101,114,116]⟩=true→∀ W:World,At R L W d s→W.cell? ⟨q,0,none⟩=some (.pointer (some ⟨R,0,none⟩))→q≠R→q<W.heap.size→Calls Tryz.prog 105 #[.pointer (some ⟨q,0,none⟩)] W (PT R L .stmt d s W)) (K4:∀ (q:Nat) (s:RSt),s.rem≤st.rem→isN (cur L s)=false→tIs L s ⟨#[105,102]⟩=false→tIs L s ⟨#[119,104,105,108,101]⟩=false→tIs L s ⟨#[97,115,115,101,114,116]⟩=false→tIs L s ⟨#[97,115,115,117,109,101]⟩=true→∀ W:World,At R L W d s→W.cell? ⟨q,0,none⟩=some (.pointer (some ⟨R,0,none⟩))→q≠R→q<W.heap.size→Calls Tryz.prog 107 #[.pointer (some ⟨q,0,none⟩)] W (PT R L .stmt d s W)) :
  Calls Tryz.prog 115 #[.pointer (some ⟨R,0,none⟩)] w (PL R L .stmts d st w):=by
 have HTL:=jD h.fix.toks;have HRA:=jD h.rem
 obtain⟨m,es,clk,c6,hmR,hml,hm,i0,i1,i2,i3,i4,q,hqR,hql,hq,he⟩:=h.fix.stms
 subst he
 have HMAP:=jD hm;have HML:=jD hml;have HMR:=jD hmR;have HC6:=jD c6;have HQ:=jD hq;have HQR:=jD hqR;have HQL:=jD hql;have HNM:=jD hN
 have KK0:=jD K0
 have KK1:=jD K1
 have KK2:=jD K2
 have KK3:=jD K3
 have KK4:=jD K4
 clear c6 hmR hml hm hqR hql hq hN K0 K1 K2 K3 K4
 have HA0:=jD h
 have HLT:=jD h.fix.lt;have HRW:=jD h.fix.lt
 have A0:=jD h;have B0:=jD (Butt.refl R w)
 clear h 
 go_enter Tryz.func115,Tryz.ntmps115
 go_wp2_with fail
 go_loopw [3] (fun v wr=>∃ (s:RSt) (xs:List Syn) (ao:Option Addr) (c:Nat),v = .slice ao xs.length c∧SmtAt R L w d st wr s xs v) (fun _ wr=>remW R L wr)
 case atStart=>exact⟨st,[],none,0,rfl,A0.out,B0.out,ownT.nil _ _,by simp,fun ys s' hs=>hs⟩
 case round=>
  obtain⟨s,xs,ao,c,rfl,hrel⟩:=hrel
  have CS:=fun d' os=>Calls.regrown_of (jla (hrel.hat.below (below_regrown wr d' os)))
  have hc6:∀ d os,(grow (redrawn wr d) os).cell? ⟨R,6,none⟩=some (.map (some m)):=fun d os=>cell_regrown ((hrel.hb.own 6 (.inr (by decide))).trans HC6) d os
  have hmap:∀ d os,(grow (redrawn wr d) os).heap[m]? = _:=fun d os=>((below_regrown wr d os).block m (Nat.lt_of_lt_of_le HML hrel.hb.size)).trans ((hrel.hb.block m HML HMR).trans HMAP)
  have HSR:Hid (s.rem≤st.rem):=jD (by have:=hrel.len;omega)
  have HR:=jD hrel
  cases h0:isN (cur L s) with
  |true=>
   rw[h0,if_pos rfl] at CS
   have HC0:=jD h0;have HBG:Hid (begS L s):=jD (.inl h0)
   clear h0
   have hlk:=fun d os=>jd4 (hmap d os) ⟨#[110,97,109,101]⟩ 0 (.func (.func 102) #[.pointer (some ⟨R,0,none⟩)] #[]) (jlM _ _ _ _ _ _ _ _ _ _)
   have KS':=jD CS
   clear CS hmap hrel
   go_wp2_with fail
   refine wp_region_quiet_below (by kernel_rfl) (by kernel_rfl) ?_
   quiet_step (fail)
   quiet_step (fail)
   quiet_step (fail)
   quiet_step (fail)
   quiet_step (fail)
   quiet_step (exact KS' _ _)
   quiet_step (fail)
   quiet_step (fail)
   quiet_step (fail)
   quiet_step (fail)
   quiet_step (fail)
   quiet_step (fail)
   refine wpQuiet_nil ?_
   intro _ hw'
   obtain⟨⟨dq,osq⟩,hw''⟩:=hw'
   subst hw''
   have A0:=jD (HR.out.hat.below (below_regrown wr dq osq));have B0:=jD (HR.out.hb.trans (Butt.of_below HR.out.hat.fix.lt (below_regrown wr dq osq)))
   have OW:=jD (HR.out.own.keep (jrr _) (From.of_below (below_regrown wr dq osq)))
   clear hc6 hlk
   generalize grow (redrawn wr dq) osq=wq at *
   go_wp2_with (go_at_call 102;refine cM (KK0.out s HSR HC0 _ A0) ?_;rintro e w1 ⟨x1,v1,s1,rfl,hx1,hs1,ha1,hb1⟩)
   obtain⟨k1,a1,t1,n1,o1,l1,c1,q1,rfl,rfl,hk1⟩:=hx1.shape
   have HS1:=jD hs1
   have HOFF:=jD (OW.out.off (jrr _) hx1 B0.out.size)
   have HLEN:Hid ((xs++[Syn.mk k1 a1 t1 n1 q1]).length+s1.rem≤st.rem):=jD (by
    obtain⟨l1,e1,e2⟩:=jcb HTL HBG
    have e3:=e2 HR.out.hat
    have g1:=HR.out.len
    have g2:=jbO e3 (e1 ▸ HS1)
    rw[e1,show (RSt.ok l1).rem=l1.length from rfl] at g1
    rw[List.length_append,show [Syn.mk k1 a1 t1 n1 q1].length=1 from rfl]
    omega)
   have TR1:=jD (synIn.of (ps:=[]) hx1 (Nat.le_trans (jrr _) B0.out.size) (by simp))
   have A1:=jD ha1;have B1:=jtt B0 hb1
   have OW1:=jD (OW.out.keep (jrr _) (hb1.froms HLT))
   clear ha1 hb1 hx1 hk1 hs1
   refine jD ?_
   have A1a:=jD (A1.out.alloc (jO k1 a1 t1 n1 o1 l1 c1));have B1a:=jD (B1.out.alloc HRW (jO k1 a1 t1 n1 o1 l1 c1))
   have TR11a:=jww TR1 HLT A1.out.fix.lt (jO k1 a1 t1 n1 o1 l1 c1)
   have OW1a:=jD (OW1.out.keep (jrr _) (From.of_below (jN (jO k1 a1 t1 n1 o1 l1 c1))))
   have HZ:=jD (HOFF.out.below (jN (jO k1 a1 t1 n1 o1 l1 c1)))
   have HL1:Hid (xs.length≤1200000):=jD (by have:=HR.out.len;have:=HRA.out;omega)
   have HB1:Hid (w.heap.size≤(w1.alloc (jO k1 a1 t1 n1 o1 l1 c1)).heap.size):=jD B1a.out.size
   go_wp2_with (first|(at_builtin;refine jag rfl (.tmp 19) (.tmp 22) rfl w.heap.size _ xs (by simp[Act.eval,Act.put]) OW1a HL1 HB1 w1.heap.size _ _ _ _ _ _ (by simp[Act.eval,Act.put]) HZ ⟨rfl,rfl,rfl,rfl,rfl⟩ (by go_cell) (by go_cell) (by go_cell) (by go_cell) (by go_cell) ?_;intro v9 ao9 cap9 w9 hv9 ho9 hg9;refine Hid.out ?_)|fail)
   subst hv9
   have hgr:=At.grow HA0 A1a B1a (jap hg9 (fun b e=>(OW1a.out.lo b e).1) HLT HB1)
   have HNX:Hid (SmtAt R L w d st w9 s1 (xs++[.mk k1 a1 t1 n1 q1]) _):=jD ⟨hgr.1,hgr.2,ho9,HLEN.out,fun ys s' ht=>by have e:=HR.out.go _ _ (jc4 HR.out.hat.fine HBG HS1 ht);rw[List.append_assoc];exact e⟩
   clear hgr ho9 hg9
   refine jD ?_
   go_wp2
   go_roundw
   case rel=>exact⟨s1,xs++[.mk k1 a1 t1 n1 q1],ao9,cap9,by rw[List.length_append];rfl,HNX.out⟩
   case measure=>
    obtain⟨l1,e1,e2⟩:=jcb HTL HBG
    have e3:=e2 HR.out.hat
    have g1:=jbr (e1 ▸ HR.out.hat)
    have g2:=jbv HNX.out.hat
    have g3:=jbO e3 (e1 ▸ HS1)
    rw[g1]
    omega
  |false=>
   rw[h0,if_neg Bool.false_ne_true] at CS
   cases h1:tIs L s ⟨#[105,102]⟩ with
   |true=>
    rw[jbZ h1] at CS
    have HC0:=jD h0;have HC1:=jD h1;have HBG:Hid (begS L s):=jD (.inr (.inl h1))
    clear h0 h1
    have hlk:=fun d os=>jd4 (hmap d os) ⟨#[105,102]⟩ 1 (.func (.func 103) #[.pointer (some ⟨R,0,none⟩)] #[]) (jlN _ _ _ _ _ _ _ _ _ _)
    have KS':=jD CS
    clear CS hmap hrel
    go_wp2_with fail
    refine wp_region_quiet_below (by kernel_rfl) (by kernel_rfl) ?_
    quiet_step (fail)
    quiet_step (fail)
    quiet_step (fail)
    quiet_step (fail)
    quiet_step (fail)
    quiet_step (exact KS' _ _)
    quiet_step (fail)
    quiet_step (fail)
    quiet_step (fail)
    quiet_step (fail)
    quiet_step (fail)
    quiet_step (fail)
    refine wpQuiet_nil ?_
    intro _ hw'
    obtain⟨⟨dq,osq⟩,hw''⟩:=hw'
    subst hw''
    have A0:=jD (HR.out.hat.below (below_regrown wr dq osq));have B0:=jD (HR.out.hb.trans (Butt.of_below HR.out.hat.fix.lt (below_regrown wr dq osq)))
    have OW:=jD (HR.out.own.keep (jrr _) (From.of_below (below_regrown wr dq osq)))
    clear hc6 hlk
    generalize grow (redrawn wr dq) osq=wq at *
    go_wp2_with (go_at_call 103;refine cM (KK1.out s HSR HC0 HC1 _ A0) ?_;rintro e w1 ⟨x1,v1,s1,rfl,hx1,hs1,ha1,hb1⟩)
    obtain⟨k1,a1,t1,n1,o1,l1,c1,q1,rfl,rfl,hk1⟩:=hx1.shape
    have HS1:=jD hs1
    have HOFF:=jD (OW.out.off (jrr _) hx1 B0.out.size)
    have HLEN:Hid ((xs++[Syn.mk k1 a1 t1 n1 q1]).length+s1.rem≤st.rem):=jD (by
     obtain⟨l1,e1,e2⟩:=jcb HTL HBG
     have e3:=e2 HR.out.hat
     have g1:=HR.out.len
     have g2:=jbO e3 (e1 ▸ HS1)
     rw[e1,show (RSt.ok l1).rem=l1.length from rfl] at g1
     rw[List.length_append,show [Syn.mk k1 a1 t1 n1 q1].length=1 from rfl]
     omega)
    have TR1:=jD (synIn.of (ps:=[]) hx1 (Nat.le_trans (jrr _) B0.out.size) (by simp))
    have A1:=jD ha1;have B1:=jtt B0 hb1
    have OW1:=jD (OW.out.keep (jrr _) (hb1.froms HLT))
    clear ha1 hb1 hx1 hk1 hs1
    refine jD ?_
    have A1a:=jD (A1.out.alloc (jO k1 a1 t1 n1 o1 l1 c1));have B1a:=jD (B1.out.alloc HRW (jO k1 a1 t1 n1 o1 l1 c1))
    have TR11a:=jww TR1 HLT A1.out.fix.lt (jO k1 a1 t1 n1 o1 l1 c1)
    have OW1a:=jD (OW1.out.keep (jrr _) (From.of_below (jN (jO k1 a1 t1 n1 o1 l1 c1))))
    have HZ:=jD (HOFF.out.below (jN (jO k1 a1 t1 n1 o1 l1 c1)))
    have HL1:Hid (xs.length≤1200000):=jD (by have:=HR.out.len;have:=HRA.out;omega)
    have HB1:Hid (w.heap.size≤(w1.alloc (jO k1 a1 t1 n1 o1 l1 c1)).heap.size):=jD B1a.out.size
    go_wp2_with (first|(at_builtin;refine jag rfl (.tmp 19) (.tmp 22) rfl w.heap.size _ xs (by simp[Act.eval,Act.put]) OW1a HL1 HB1 w1.heap.size _ _ _ _ _ _ (by simp[Act.eval,Act.put]) HZ ⟨rfl,rfl,rfl,rfl,rfl⟩ (by go_cell) (by go_cell) (by go_cell) (by go_cell) (by go_cell) ?_;intro v9 ao9 cap9 w9 hv9 ho9 hg9;refine Hid.out ?_)|fail)
    subst hv9
    have hgr:=At.grow HA0 A1a B1a (jap hg9 (fun b e=>(OW1a.out.lo b e).1) HLT HB1)
    have HNX:Hid (SmtAt R L w d st w9 s1 (xs++[.mk k1 a1 t1 n1 q1]) _):=jD ⟨hgr.1,hgr.2,ho9,HLEN.out,fun ys s' ht=>by have e:=HR.out.go _ _ (jc4 HR.out.hat.fine HBG HS1 ht);rw[List.append_assoc];exact e⟩
    clear hgr ho9 hg9
    refine jD ?_
    go_wp2
    go_roundw
    case rel=>exact⟨s1,xs++[.mk k1 a1 t1 n1 q1],ao9,cap9,by rw[List.length_append];rfl,HNX.out⟩
    case measure=>
     obtain⟨l1,e1,e2⟩:=jcb HTL HBG
     have e3:=e2 HR.out.hat
     have g1:=jbr (e1 ▸ HR.out.hat)
     have g2:=jbv HNX.out.hat
     have g3:=jbO e3 (e1 ▸ HS1)
     rw[g1]
     omega
   |false=>
    cases h2:tIs L s ⟨#[119,104,105,108,101]⟩ with
    |true=>
     rw[jbZ h2] at CS
     have HC0:=jD h0;have HC1:=jD h1;have HC2:=jD h2;have HBG:Hid (begS L s):=jD (.inr (.inr (.inl h2)))
     clear h0 h1 h2
     have hlk:=fun d os=>jd4 (hmap d os) ⟨#[119,104,105,108,101]⟩ 2 (.func (.func 104) #[.pointer (some ⟨R,0,none⟩)] #[]) (jlO _ _ _ _ _ _ _ _ _ _)
     have KS':=jD CS
     clear CS hmap hrel
     go_wp2_with fail
     refine wp_region_quiet_below (by kernel_rfl) (by kernel_rfl) ?_
     quiet_step (fail)
     quiet_step (fail)
     quiet_step (fail)
     quiet_step (fail)
     quiet_step (fail)
     quiet_step (exact KS' _ _)
     quiet_step (fail)
     quiet_step (fail)
     quiet_step (fail)
     quiet_step (fail)
     quiet_step (fail)
     quiet_step (fail)
     refine wpQuiet_nil ?_
     intro _ hw'
     obtain⟨⟨dq,osq⟩,hw''⟩:=hw'
     subst hw''
     have A0:=jD (HR.out.hat.below (below_regrown wr dq osq));have B0:=jD (HR.out.hb.trans (Butt.of_below HR.out.hat.fix.lt (below_regrown wr dq osq)))
     have OW:=jD (HR.out.own.keep (jrr _) (From.of_below (below_regrown wr dq osq)))
     clear hc6 hlk
     generalize grow (redrawn wr dq) osq=wq at *
     go_wp2_with (go_at_call 104;refine cM (KK2.out s HSR HC0 HC1 HC2 _ A0) ?_;rintro e w1 ⟨x1,v1,s1,rfl,hx1,hs1,ha1,hb1⟩)
     obtain⟨k1,a1,t1,n1,o1,l1,c1,q1,rfl,rfl,hk1⟩:=hx1.shape
     have HS1:=jD hs1
     have HOFF:=jD (OW.out.off (jrr _) hx1 B0.out.size)
     have HLEN:Hid ((xs++[Syn.mk k1 a1 t1 n1 q1]).length+s1.rem≤st.rem):=jD (by
      obtain⟨l1,e1,e2⟩:=jcb HTL HBG
      have e3:=e2 HR.out.hat
      have g1:=HR.out.len
      have g2:=jbO e3 (e1 ▸ HS1)
      rw[e1,show (RSt.ok l1).rem=l1.length from rfl] at g1
      rw[List.length_append,show [Syn.mk k1 a1 t1 n1 q1].length=1 from rfl]
      omega)
     have TR1:=jD (synIn.of (ps:=[]) hx1 (Nat.le_trans (jrr _) B0.out.size) (by simp))
     have A1:=jD ha1;have B1:=jtt B0 hb1
     have OW1:=jD (OW.out.keep (jrr _) (hb1.froms HLT))
     clear ha1 hb1 hx1 hk1 hs1
     refine jD ?_
     have A1a:=jD (A1.out.alloc (jO k1 a1 t1 n1 o1 l1 c1));have B1a:=jD (B1.out.alloc HRW (jO k1 a1 t1 n1 o1 l1 c1))
     have TR11a:=jww TR1 HLT A1.out.fix.lt (jO k1 a1 t1 n1 o1 l1 c1)
     have OW1a:=jD (OW1.out.keep (jrr _) (From.of_below (jN (jO k1 a1 t1 n1 o1 l1 c1))))
     have HZ:=jD (HOFF.out.below (jN (jO k1 a1 t1 n1 o1 l1 c1)))
     have HL1:Hid (xs.length≤1200000):=jD (by have:=HR.out.len;have:=HRA.out;omega)
     have HB1:Hid (w.heap.size≤(w1.alloc (jO k1 a1 t1 n1 o1 l1 c1)).heap.size):=jD B1a.out.size
     go_wp2_with (first|(at_builtin;refine jag rfl (.tmp 19) (.tmp 22) rfl w.heap.size _ xs (by simp[Act.eval,Act.put]) OW1a HL1 HB1 w1.heap.size _ _ _ _ _ _ (by simp[Act.eval,Act.put]) HZ ⟨rfl,rfl,rfl,rfl,rfl⟩ (by go_cell) (by go_cell) (by go_cell) (by go_cell) (by go_cell) ?_;intro v9 ao9 cap9 w9 hv9 ho9 hg9;refine Hid.out ?_)|fail)
     subst hv9
     have hgr:=At.grow HA0 A1a B1a (jap hg9 (fun b e=>(OW1a.out.lo b e).1) HLT HB1)
     have HNX:Hid (SmtAt R L w d st w9 s1 (xs++[.mk k1 a1 t1 n1 q1]) _):=jD ⟨hgr.1,hgr.2,ho9,HLEN.out,fun ys s' ht=>by have e:=HR.out.go _ _ (jc4 HR.out.hat.fine HBG HS1 ht);rw[List.append_assoc];exact e⟩
     clear hgr ho9 hg9
     refine jD ?_
     go_wp2
     go_roundw
     case rel=>exact⟨s1,xs++[.mk k1 a1 t1 n1 q1],ao9,cap9,by rw[List.length_append];rfl,HNX.out⟩
     case measure=>
      obtain⟨l1,e1,e2⟩:=jcb HTL HBG
      have e3:=e2 HR.out.hat
      have g1:=jbr (e1 ▸ HR.out.hat)
      have g2:=jbv HNX.out.hat
      have g3:=jbO e3 (e1 ▸ HS1)
      rw[g1]
      omega
    |false=>
     cases h3:tIs L s ⟨#[97,115,115,101,114,116]⟩ with
     |true=>
      rw[jbZ h3] at CS
      have HC0:=jD h0;have HC1:=jD h1;have HC2:=jD h2;have HC3:=jD h3;have HBG:Hid (begS L s):=jD (.inr (.inr (.inr (.inl h3))))
      clear h0 h1 h2 h3
      have hlk:=fun d os=>jd4 (hmap d os) ⟨#[97,115,115,101,114,116]⟩ 3 (.func (.func 105) #[] #[.pointer (some ⟨q,0,none⟩)]) (jlP _ _ _ _ _ _ _ _ _ _)
      have KS':=jD CS
      clear CS hmap hrel
      go_wp2_with fail
      refine wp_region_quiet_below (by kernel_rfl) (by kernel_rfl) ?_
      quiet_step (fail)
      quiet_step (fail)
      quiet_step (fail)
      quiet_step (fail)
      quiet_step (fail)
      quiet_step (exact KS' _ _)
      quiet_step (fail)
      quiet_step (fail)
      quiet_step (fail)
      quiet_step (fail)
      quiet_step (fail)
      quiet_step (fail)
      refine wpQuiet_nil ?_
      intro _ hw'
      obtain⟨⟨dq,osq⟩,hw''⟩:=hw'
      subst hw''
      have A0:=jD (HR.out.hat.below (below_regrown wr dq osq));have B0:=jD (HR.out.hb.trans (Butt.of_below HR.out.hat.fix.lt (below_regrown wr dq osq)))
      have OW:=jD (HR.out.own.keep (jrr _) (From.of_below (below_regrown wr dq osq)))
      clear hc6 hlk
      generalize grow (redrawn wr dq) osq=wq at *
      go_wp2_with (go_at_call 105;refine cM (KK3.out q s HSR HC0 HC1 HC2 HC3 _ A0 ((B0.out.cell (p:=⟨q,0,none⟩) HQL HQR).trans HQ) HQR (Nat.lt_of_lt_of_le HQL B0.out.size)) ?_;rintro e w1 ⟨x1,v1,s1,rfl,hx1,hs1,ha1,hb1⟩)
      obtain⟨k1,a1,t1,n1,o1,l1,c1,q1,rfl,rfl,hk1⟩:=hx1.shape
      have HS1:=jD hs1
      have HOFF:=jD (OW.out.off (jrr _) hx1 B0.out.size)
      have HLEN:Hid ((xs++[Syn.mk k1 a1 t1 n1 q1]).length+s1.rem≤st.rem):=jD (by
       obtain⟨l1,e1,e2⟩:=jcb HTL HBG
       have e3:=e2 HR.out.hat
       have g1:=HR.out.len
       have g2:=jbO e3 (e1 ▸ HS1)
       rw[e1,show (RSt.ok l1).rem=l1.length from rfl] at g1
       rw[List.length_append,show [Syn.mk k1 a1 t1 n1 q1].length=1 from rfl]
       omega)
      have TR1:=jD (synIn.of (ps:=[]) hx1 (Nat.le_trans (jrr _) B0.out.size) (by simp))
      have A1:=jD ha1;have B1:=jtt B0 hb1
      have OW1:=jD (OW.out.keep (jrr _) (hb1.froms HLT))
      clear ha1 hb1 hx1 hk1 hs1
      refine jD ?_
      have A1a:=jD (A1.out.alloc (jO k1 a1 t1 n1 o1 l1 c1));have B1a:=jD (B1.out.alloc HRW (jO k1 a1 t1 n1 o1 l1 c1))
      have TR11a:=jww TR1 HLT A1.out.fix.lt (jO k1 a1 t1 n1 o1 l1 c1)
      have OW1a:=jD (OW1.out.keep (jrr _) (From.of_below (jN (jO k1 a1 t1 n1 o1 l1 c1))))
      have HZ:=jD (HOFF.out.below (jN (jO k1 a1 t1 n1 o1 l1 c1)))
      have HL1:Hid (xs.length≤1200000):=jD (by have:=HR.out.len;have:=HRA.out;omega)
      have HB1:Hid (w.heap.size≤(w1.alloc (jO k1 a1 t1 n1 o1 l1 c1)).heap.size):=jD B1a.out.size
      go_wp2_with (first|(at_builtin;refine jag rfl (.tmp 19) (.tmp 22) rfl w.heap.size _ xs (by simp[Act.eval,Act.put]) OW1a HL1 HB1 w1.heap.size _ _ _ _ _ _ (by simp[Act.eval,Act.put]) HZ ⟨rfl,rfl,rfl,rfl,rfl⟩ (by go_cell) (by go_cell) (by go_cell) (by go_cell) (by go_cell) ?_;intro v9 ao9 cap9 w9 hv9 ho9 hg9;refine Hid.out ?_)|fail)
      subst hv9
      have hgr:=At.grow HA0 A1a B1a (jap hg9 (fun b e=>(OW1a.out.lo b e).1) HLT HB1)
      have HNX:Hid (SmtAt R L w d st w9 s1 (xs++[.mk k1 a1 t1 n1 q1]) _):=jD ⟨hgr.1,hgr.2,ho9,HLEN.out,fun ys s' ht=>by have e:=HR.out.go _ _ (jc4 HR.out.hat.fine HBG HS1 ht);rw[List.append_assoc];exact e⟩
      clear hgr ho9 hg9
      refine jD ?_
      go_wp2
      go_roundw
      case rel=>exact⟨s1,xs++[.mk k1 a1 t1 n1 q1],ao9,cap9,by rw[List.length_append];rfl,HNX.out⟩
      case measure=>
       obtain⟨l1,e1,e2⟩:=jcb HTL HBG
       have e3:=e2 HR.out.hat
       have g1:=jbr (e1 ▸ HR.out.hat)
       have g2:=jbv HNX.out.hat
       have g3:=jbO e3 (e1 ▸ HS1)
       rw[g1]
       omega
     |false=>
      cases h4:tIs L s ⟨#[97,115,115,117,109,101]⟩ with
      |true=>
       rw[jbZ h4] at CS
       have HC0:=jD h0;have HC1:=jD h1;have HC2:=jD h2;have HC3:=jD h3;have HC4:=jD h4;have HBG:Hid (begS L s):=jD (.inr (.inr (.inr (.inr h4))))
       clear h0 h1 h2 h3 h4
       have hlk:=fun d os=>jd4 (hmap d os) ⟨#[97,115,115,117,109,101]⟩ 4 (.func (.func 107) #[] #[.pointer (some ⟨q,0,none⟩)]) (jlQ _ _ _ _ _ _ _ _ _ _)
       have KS':=jD CS
       clear CS hmap hrel
       go_wp2_with fail
       refine wp_region_quiet_below (by kernel_rfl) (by kernel_rfl) ?_
       quiet_step (fail)
       quiet_step (fail)
       quiet_step (fail)
       quiet_step (fail)
       quiet_step (fail)
       quiet_step (exact KS' _ _)
       quiet_step (fail)
       quiet_step (fail)
       quiet_step (fail)
       quiet_step (fail)
       quiet_step (fail)
       quiet_step (fail)
       refine wpQuiet_nil ?_
       intro _ hw'
       obtain⟨⟨dq,osq⟩,hw''⟩:=hw'
       subst hw''
       have A0:=jD (HR.out.hat.below (below_regrown wr dq osq));have B0:=jD (HR.out.hb.trans (Butt.of_below HR.out.hat.fix.lt (below_regrown wr dq osq)))
       have OW:=jD (HR.out.own.keep (jrr _) (From.of_below (below_regrown wr dq osq)))
       clear hc6 hlk
       generalize grow (redrawn wr dq) osq=wq at *
       go_wp2_with (go_at_call 107;refine cM (KK4.out q s HSR HC0 HC1 HC2 HC3 HC4 _ A0 ((B0.out.cell (p:=⟨q,0,none⟩) HQL HQR).trans HQ) HQR (Nat.lt_of_lt_of_le HQL B0.out.size)) ?_;rintro e w1 ⟨x1,v1,s1,rfl,hx1,hs1,ha1,hb1⟩)
       obtain⟨k1,a1,t1,n1,o1,l1,c1,q1,rfl,rfl,hk1⟩:=hx1.shape
       have HS1:=jD hs1
       have HOFF:=jD (OW.out.off (jrr _) hx1 B0.out.size)
       have HLEN:Hid ((xs++[Syn.mk k1 a1 t1 n1 q1]).length+s1.rem≤st.rem):=jD (by
        obtain⟨l1,e1,e2⟩:=jcb HTL HBG
        have e3:=e2 HR.out.hat
        have g1:=HR.out.len
        have g2:=jbO e3 (e1 ▸ HS1)
        rw[e1,show (RSt.ok l1).rem=l1.length from rfl] at g1
        rw[List.length_append,show [Syn.mk k1 a1 t1 n1 q1].length=1 from rfl]
        omega)
       have TR1:=jD (synIn.of (ps:=[]) hx1 (Nat.le_trans (jrr _) B0.out.size) (by simp))
       have A1:=jD ha1;have B1:=jtt B0 hb1
       have OW1:=jD (OW.out.keep (jrr _) (hb1.froms HLT))
       clear ha1 hb1 hx1 hk1 hs1
       refine jD ?_
       have A1a:=jD (A1.out.alloc (jO k1 a1 t1 n1 o1 l1 c1));have B1a:=jD (B1.out.alloc HRW (jO k1 a1 t1 n1 o1 l1 c1))
       have TR11a:=jww TR1 HLT A1.out.fix.lt (jO k1 a1 t1 n1 o1 l1 c1)
       have OW1a:=jD (OW1.out.keep (jrr _) (From.of_below (jN (jO k1 a1 t1 n1 o1 l1 c1))))
       have HZ:=jD (HOFF.out.below (jN (jO k1 a1 t1 n1 o1 l1 c1)))
       have HL1:Hid (xs.length≤1200000):=jD (by have:=HR.out.len;have:=HRA.out;omega)
       have HB1:Hid (w.heap.size≤(w1.alloc (jO k1 a1 t1 n1 o1 l1 c1)).heap.size):=jD B1a.out.size
       go_wp2_with (first|(at_builtin;refine jag rfl (.tmp 19) (.tmp 22) rfl w.heap.size _ xs (by simp[Act.eval,Act.put]) OW1a HL1 HB1 w1.heap.size _ _ _ _ _ _ (by simp[Act.eval,Act.put]) HZ ⟨rfl,rfl,rfl,rfl,rfl⟩ (by go_cell) (by go_cell) (by go_cell) (by go_cell) (by go_cell) ?_;intro v9 ao9 cap9 w9 hv9 ho9 hg9;refine Hid.out ?_)|fail)
       subst hv9
       have hgr:=At.grow HA0 A1a B1a (jap hg9 (fun b e=>(OW1a.out.lo b e).1) HLT HB1)
       have HNX:Hid (SmtAt R L w d st w9 s1 (xs++[.mk k1 a1 t1 n1 q1]) _):=jD ⟨hgr.1,hgr.2,ho9,HLEN.out,fun ys s' ht=>by have e:=HR.out.go _ _ (jc4 HR.out.hat.fine HBG HS1 ht);rw[List.append_assoc];exact e⟩
       clear hgr ho9 hg9
       refine jD ?_
       go_wp2
       go_roundw
       case rel=>exact⟨s1,xs++[.mk k1 a1 t1 n1 q1],ao9,cap9,by rw[List.length_append];rfl,HNX.out⟩
       case measure=>
        obtain⟨l1,e1,e2⟩:=jcb HTL HBG
        have e3:=e2 HR.out.hat
        have g1:=jbr (e1 ▸ HR.out.hat)
        have g2:=jbv HNX.out.hat
        have g3:=jbO e3 (e1 ▸ HS1)
        rw[g1]
        omega
      |false=>
       have HBG:Hid (¬ begS L s):=jD (by rintro(h|h|h|h|h)<;>simp_all)
       have e0:(cur L s).t≠⟨#[110,97,109,101]⟩:=fun e=>by
        obtain⟨hf,nx,a,er,g1,g2,g3⟩:=hrel.hat
        rw[jbt g1 g3] at e h0
        exact absurd (h0.symm.trans (HNM.out nx e)) (by decide)
       have e1:=jh6 h1;have e2:=jh6 h2;have e3:=jh6 h3;have e4:=jh6 h4
       clear h0 h1 h2 h3 h4
       have hlk:=fun d os=>jiI (hmap d os) (cur L s).t (jiJ _ _ _ _ _ _ _ _ _ _ _ e0 e1 e2 e3 e4)
       generalize (cur L s).t=TX at *
       have KS':=jD CS
       clear CS hmap hrel
       go_wp2_with fail
       refine wp_region_quiet_below (by kernel_rfl) (by kernel_rfl) ?_
       quiet_step (fail)
       quiet_step (fail)
       quiet_step (fail)
       quiet_step (fail)
       quiet_step (fail)
       quiet_step (exact KS' _ _)
       quiet_step (fail)
       quiet_step (fail)
       quiet_step (fail)
       quiet_step (fail)
       quiet_step (fail)
       quiet_step (fail)
       refine wpQuiet_nil ?_
       intro _ hw'
       obtain⟨⟨dq,osq⟩,hw''⟩:=hw'
       subst hw''
       have A0:=jD (HR.out.hat.below (below_regrown wr dq osq));have B0:=jD (HR.out.hb.trans (Butt.of_below HR.out.hat.fix.lt (below_regrown wr dq osq)))
       have OW:=jD (HR.out.own.keep (jrr _) (From.of_below (below_regrown wr dq osq)))
       clear hc6 hlk
       generalize grow (redrawn wr dq) osq=wq at *
       go_wp2
       go_ret
       exact⟨xs,_,_,rfl,OW.out,by have:=HR.out.len;omega,by have e:=HR.out.go _ _ (jiK HR.out.hat.fine HBG);rw[List.append_nil] at e;exact e,A0.out,B0.out⟩
theorem jcz {m:Rd Syn} {l:List Tk} {x:Syn} {st':RSt} (hm:∀ f,Less f m) (h2:2≤l.length) (h:Run m (.ok l) x st'):st'.rem+1≤l.length:=by
 rcases h with ⟨l1,rfl,-,-,N,hN⟩|⟨a,e,-,rfl,-⟩
 ·exact hm N l x l1 h2 (hN N (jrr _))
 ·show 0+1≤_
  omega
theorem jd5 (f d:Nat):Less f (jaY d):=Less.bind Less.take fun _=>Mono.bind (jbl f _ _) fun _=>Mono.bind Mono.need fun _=>Mono.ret
theorem jcX (f:Nat):Less f jaD:=Less.bind Less.take fun _=>Mono.bind Mono.name fun _=>Mono.bind Mono.need fun _=>Mono.bind Mono.num fun _=>Mono.bind Mono.need fun _=>Mono.bind Mono.need fun _=>Mono.ret
section
variable {L:List Tk} {d:Nat} {s s2 s':RSt} {y:Syn} {ys:List Syn}
theorem jgh (hf:s.fine) (hb:tIs L s ⟨#[118,97,114]⟩=true) (h:Run (jaY d) s y s2) (ht:Stp .decls d s2 ys s'):Stp .decls d s (y::ys) s':=
 jfN (Run.bind (jaM (L:=L) hf wVar) (Run.ite (fun _=>Run.bind h (Run.bind ht (ja1 (Run.fine ht (Run.fine h hf))))) (fun e=>absurd hb e)))
theorem je9 (hf:s.fine) (hv:tIs L s ⟨#[118,97,114]⟩=false) (hb:tIs L s ⟨#[97,114,114,97,121]⟩=true) (h:Run jaD s y s2) (ht:Stp .decls d s2 ys s'):Stp .decls d s (y::ys) s':=
 jfN (Run.bind (jaM (L:=L) hf wVar) (Run.ite (fun e=>absurd (hv.symm.trans e) (by decide)) (fun _=>Run.bind (jaM (L:=L) hf jdi) (Run.ite (fun _=>Run.bind h (Run.bind ht (ja1 (Run.fine ht (Run.fine h hf))))) (fun e=>absurd hb e)))))
theorem jgi (hf:s.fine) (hv:tIs L s ⟨#[118,97,114]⟩=false) (hb:tIs L s ⟨#[97,114,114,97,121]⟩=false):Stp .decls d s [] s:=
 jfN (Run.bind (jaM (L:=L) hf wVar) (Run.ite (fun e=>absurd (hv.symm.trans e) (by decide)) (fun _=>Run.bind (jaM (L:=L) hf jdi) (Run.ite (fun e=>absurd (hb.symm.trans e) (by decide)) (fun _=>ja1 hf)))))
theorem jb9 {w:ByteArray} (hw:w≠⟨#[]⟩) (h:tIs L s w=true):(cur L s).t≠⟨#[]⟩:=by rw[jbZ h];exact hw
end
structure DclAt (R:Nat) (L:List Tk) (w:World) (d:Nat) (st:RSt) (wr:World) (s:RSt) (xs:List Syn) (v:Value):Prop where
 hat:At R L wr d s
 hb:Butt R w wr
 own:ownT w.heap.size wr xs v
 len:xs.length+s.rem≤st.rem
 go:∀ ys s',Stp .decls d s ys s'→Stp .decls d st (xs++ys) s'
theorem jfD {R:Nat} {L:List Tk} {d:Nat} {st:RSt} {w:World} (h:At R L w d st) (hN:NumL L) :
  Calls Tryz.prog 114 #[.pointer (some ⟨R,0,none⟩)] w (PL R L .decls d st w):=by
 have HTL:=jD h.fix.toks;have HRA:=jD h.rem;have HNL:=jD hN
 clear hN
 have HA0:=jD h
 have HLT:=jD h.fix.lt;have HRW:=jD h.fix.lt
 have A0:=jD h;have B0:=jD (Butt.refl R w)
 clear h 
 go_enter Tryz.func114,Tryz.ntmps114
 go_wp2_with fail
 go_loopw [3] (fun v wr=>∃ (s:RSt) (xs:List Syn) (ao:Option Addr) (c:Nat),v = .slice ao xs.length c∧DclAt R L w d st wr s xs v) (fun _ wr=>remW R L wr)
 case atStart=>exact⟨st,[],none,0,rfl,A0.out,B0.out,ownT.nil _ _,by simp,fun ys s' hs=>hs⟩
 case round=>
  obtain⟨s,xs,ao,c,rfl,hrel⟩:=hrel
  have C1:=fun W (H:At R L W d s)=>sis H ⟨#[118,97,114]⟩
  have C2:=fun W (H:At R L W d s)=>sis H ⟨#[97,114,114,97,121]⟩
  have HSR:Hid (s.rem≤st.rem):=jD (by have:=hrel.len;omega)
  have HR:=jD hrel
  cases h1:tIs L s ⟨#[118,97,114]⟩ with
  |true=>
   rw[h1] at C1
   have HC1:=jD h1;clear h1
   have K1:=jD C1;have K2:=jD C2
   have A0:=jD hrel.hat;have B0:=jD hrel.hb;have OW:=jD hrel.own
   clear C1 C2 hrel
   go_wp2_with (go_at_call 37;refine cM (K1.out _ A0) ?_;rintro e w1 ⟨rfl,ha1,hb1⟩)
   have A1:=jD ha1;have B1:=jtt B0 hb1
   have OW1:=jD (OW.out.keep (jrr _) (hb1.froms HLT))
   clear ha1 hb1
   refine jD ?_
   go_wp2_with (go_at_call 140;refine cM (jhX A1 HC1) ?_;rintro e w2 ⟨x2,v2,s2,rfl,hx2,hs2,ha2,hb2⟩)
   obtain⟨k2,a2,t2,n2,o2,l2,c2,q2,rfl,rfl,hk2⟩:=hx2.shape
   have HS2:=jD hs2
   have HOFF:=jD (OW1.out.off (jrr _) hx2 B1.out.size)
   have HLEN:Hid ((xs++[Syn.mk k2 a2 t2 n2 q2]).length+s2.rem≤st.rem):=jD (by
    obtain⟨l1,e1,-,e3⟩:=rem_less HTL HR.out.hat (jb9 (by decide) HC1)
    have g1:=HR.out.len
    have g2:=jcz (fun f=>jd5 f d) e3 (e1 ▸ HS2)
    rw[e1,show (RSt.ok l1).rem=l1.length from rfl] at g1
    rw[List.length_append,show [Syn.mk k2 a2 t2 n2 q2].length=1 from rfl]
    omega)
   have TR2:=jD (synIn.of (l2:=w.heap.size) (ps:=[]) hx2 (Nat.le_trans (jrr _) B1.out.size) (by simp))
   have A2:=jD ha2;have B2:=jtt B1 hb2
   have OW2:=jD (OW1.out.keep (jrr _) (hb2.froms HLT))
   clear ha2 hb2 hx2 hk2 hs2
   refine jD ?_
   have A2a:=jD (A2.out.alloc (jO k2 a2 t2 n2 o2 l2 c2));have B2a:=jD (B2.out.alloc HRW (jO k2 a2 t2 n2 o2 l2 c2))
   have TR22a:=jww TR2 HLT A2.out.fix.lt (jO k2 a2 t2 n2 o2 l2 c2)
   have OW2a:=jD (OW2.out.keep (jrr _) (From.of_below (jN (jO k2 a2 t2 n2 o2 l2 c2))))
   have HZ:=jD (HOFF.out.below (jN (jO k2 a2 t2 n2 o2 l2 c2)))
   have HL1:Hid (xs.length≤1200000):=jD (by have:=HR.out.len;have:=HRA.out;omega)
   have HB1:Hid (w.heap.size≤(w2.alloc (jO k2 a2 t2 n2 o2 l2 c2)).heap.size):=jD B2a.out.size
   go_wp2_with (first|(at_builtin;refine jag rfl (.tmp 8) (.tmp 11) rfl w.heap.size _ xs (by simp[Act.eval,Act.put]) OW2a HL1 HB1 w2.heap.size _ _ _ _ _ _ (by simp[Act.eval,Act.put]) HZ ⟨rfl,rfl,rfl,rfl,rfl⟩ (by go_cell) (by go_cell) (by go_cell) (by go_cell) (by go_cell) ?_;intro v9 ao9 cap9 w9 hv9 ho9 hg9;refine Hid.out ?_)|fail)
   subst hv9
   have hgr:=At.grow HA0 A2a B2a (jap hg9 (fun b e=>(OW2a.out.lo b e).1) HLT HB1)
   have HNX:Hid (DclAt R L w d st w9 s2 (xs++[.mk k2 a2 t2 n2 q2]) _):=jD ⟨hgr.1,hgr.2,ho9,HLEN.out,fun ys s' ht=>by have e:=HR.out.go _ _ (jgh HR.out.hat.fine HC1 HS2 ht);rw[List.append_assoc];exact e⟩
   clear hgr ho9 hg9
   refine jD ?_
   go_wp2
   go_roundw
   case rel=>exact⟨s2,xs++[.mk k2 a2 t2 n2 q2],ao9,cap9,by rw[List.length_append];rfl,HNX.out⟩
   case measure=>
    obtain⟨l1,e1,-,e3⟩:=rem_less HTL HR.out.hat (jb9 (by decide) HC1)
    have g1:=jbr (e1 ▸ HR.out.hat)
    have g2:=jbv HNX.out.hat
    have g3:=jcz (fun f=>jd5 f d) e3 (e1 ▸ HS2)
    rw[g1]
    omega
  |false=>
   rw[h1] at C1
   cases h2:tIs L s ⟨#[97,114,114,97,121]⟩ with
   |true=>
    rw[h2] at C2
    have HC1:=jD h1;have HC2:=jD h2;clear h1 h2
    have K1:=jD C1;have K2:=jD C2
    have A0:=jD hrel.hat;have B0:=jD hrel.hb;have OW:=jD hrel.own
    clear C1 C2 hrel
    go_wp2_with (go_at_call 37;refine cM (K1.out _ A0) ?_;rintro e w1 ⟨rfl,ha1,hb1⟩)
    have A1:=jD ha1;have B1:=jtt B0 hb1
    have OW1:=jD (OW.out.keep (jrr _) (hb1.froms HLT))
    clear ha1 hb1
    refine jD ?_
    go_wp2_with (go_at_call 37;refine cM (K2.out _ A1) ?_;rintro e w2 ⟨rfl,ha2,hb2⟩)
    have A2:=jD ha2;have B2:=jtt B1 hb2
    have OW2:=jD (OW1.out.keep (jrr _) (hb2.froms HLT))
    clear ha2 hb2
    refine jD ?_
    go_wp2_with (go_at_call 141;refine cM (jlT A2 HNL HC2) ?_;rintro e w3 ⟨x3,v3,s3,rfl,hx3,hs3,ha3,hb3⟩)
    obtain⟨k3,a3,t3,n3,o3,l3,c3,q3,rfl,rfl,hk3⟩:=hx3.shape
    have HS3:=jD hs3
    have HOFF:=jD (OW2.out.off (jrr _) hx3 B2.out.size)
    have HLEN:Hid ((xs++[Syn.mk k3 a3 t3 n3 q3]).length+s3.rem≤st.rem):=jD (by
     obtain⟨l1,e1,-,e3⟩:=rem_less HTL HR.out.hat (jb9 (by decide) HC2)
     have g1:=HR.out.len
     have g2:=jcz jcX e3 (e1 ▸ HS3)
     rw[e1,show (RSt.ok l1).rem=l1.length from rfl] at g1
     rw[List.length_append,show [Syn.mk k3 a3 t3 n3 q3].length=1 from rfl]
     omega)
    have TR3:=jD (synIn.of (l2:=w.heap.size) (ps:=[]) hx3 (Nat.le_trans (jrr _) B2.out.size) (by simp))
    have A3:=jD ha3;have B3:=jtt B2 hb3
    have OW3:=jD (OW2.out.keep (jrr _) (hb3.froms HLT))
    clear ha3 hb3 hx3 hk3 hs3
    refine jD ?_
    have A3a:=jD (A3.out.alloc (jO k3 a3 t3 n3 o3 l3 c3));have B3a:=jD (B3.out.alloc HRW (jO k3 a3 t3 n3 o3 l3 c3))
    have TR33a:=jww TR3 HLT A3.out.fix.lt (jO k3 a3 t3 n3 o3 l3 c3)
    have OW3a:=jD (OW3.out.keep (jrr _) (From.of_below (jN (jO k3 a3 t3 n3 o3 l3 c3))))
    have HZ:=jD (HOFF.out.below (jN (jO k3 a3 t3 n3 o3 l3 c3)))
    have HL1:Hid (xs.length≤1200000):=jD (by have:=HR.out.len;have:=HRA.out;omega)
    have HB1:Hid (w.heap.size≤(w3.alloc (jO k3 a3 t3 n3 o3 l3 c3)).heap.size):=jD B3a.out.size
    go_wp2_with (first|(at_builtin;refine jag rfl (.tmp 16) (.tmp 19) rfl w.heap.size _ xs (by simp[Act.eval,Act.put]) OW3a HL1 HB1 w3.heap.size _ _ _ _ _ _ (by simp[Act.eval,Act.put]) HZ ⟨rfl,rfl,rfl,rfl,rfl⟩ (by go_cell) (by go_cell) (by go_cell) (by go_cell) (by go_cell) ?_;intro v9 ao9 cap9 w9 hv9 ho9 hg9;refine Hid.out ?_)|fail)
    subst hv9
    have hgr:=At.grow HA0 A3a B3a (jap hg9 (fun b e=>(OW3a.out.lo b e).1) HLT HB1)
    have HNX:Hid (DclAt R L w d st w9 s3 (xs++[.mk k3 a3 t3 n3 q3]) _):=jD ⟨hgr.1,hgr.2,ho9,HLEN.out,fun ys s' ht=>by have e:=HR.out.go _ _ (je9 HR.out.hat.fine HC1 HC2 HS3 ht);rw[List.append_assoc];exact e⟩
    clear hgr ho9 hg9
    refine jD ?_
    go_wp2
    go_roundw
    case rel=>exact⟨s3,xs++[.mk k3 a3 t3 n3 q3],ao9,cap9,by rw[List.length_append];rfl,HNX.out⟩
    case measure=>
     obtain⟨l1,e1,-,e3⟩:=rem_less HTL HR.out.hat (jb9 (by decide) HC2)
     have g1:=jbr (e1 ▸ HR.out.hat)
     have g2:=jbv HNX.out.hat
     have g3:=jcz jcX e3 (e1 ▸ HS3)
     rw[g1]
     omega
   |false=>
    rw[h2] at C2
    have HC1:=jD h1;have HC2:=jD h2;clear h1 h2
    have K1:=jD C1;have K2:=jD C2
    have A0:=jD hrel.hat;have B0:=jD hrel.hb;have OW:=jD hrel.own
    clear C1 C2 hrel
    go_wp2_with (go_at_call 37;refine cM (K1.out _ A0) ?_;rintro e w1 ⟨rfl,ha1,hb1⟩)
    have A1:=jD ha1;have B1:=jtt B0 hb1
    have OW1:=jD (OW.out.keep (jrr _) (hb1.froms HLT))
    clear ha1 hb1
    refine jD ?_
    go_wp2_with (go_at_call 37;refine cM (K2.out _ A1) ?_;rintro e w2 ⟨rfl,ha2,hb2⟩)
    have A2:=jD ha2;have B2:=jtt B1 hb2
    have OW2:=jD (OW1.out.keep (jrr _) (hb2.froms HLT))
    clear ha2 hb2
    refine jD ?_
    go_wp2
    go_ret
    exact⟨xs,_,_,rfl,OW2.out,by have:=HR.out.len;omega,by have e:=HR.out.go _ _ (jgi HR.out.hat.fine HC1 HC2);rw[List.append_nil] at e;exact e,A2.out,B2.out⟩
end Go.Proofs.YtenmmmdnpglkoaaGreatDoor
