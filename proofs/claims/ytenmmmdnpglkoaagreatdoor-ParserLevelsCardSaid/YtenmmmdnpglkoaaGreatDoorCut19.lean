import Derived.Test.YtenmmmdnpglkoaaGreatDoorCut18
set_option linter.unusedSimpArgs false
set_option linter.unusedVariables false
set_option maxRecDepth 100000
set_option maxHeartbeats 8000000
/-
 parser: program.
-/
namespace Go.Proofs.YtenmmmdnpglkoaaGreatDoor
open Go Go.Proofs Go.RowKit Go.Sort
theorem Less.need {f:Nat} {s:List UInt8}:Less f (jaA s):=by
 intro l y l' h e
 unfold jaA at e
 split at e
 ·cases e;exact jer h
 ·cases e
theorem Less.mono {α β : Type} {f:Nat} {m:Rd α} {k:α→Rd β} (h:Mono f m) (g:∀ x,Less f (k x)) (g2:∀ x,Mono f (k x)):Less f (jae m k):=by
 intro l y l' h2 e
 obtain⟨⟨x,l1⟩,e1,e2⟩:=jar e
 have h3:=h l x l1 e1
 by_cases h4:2≤l1.length
 ·exact Nat.lt_of_lt_of_le (g x l1 y l' h4 e2) h3
 ·have:=g2 x l1 y l' e2
  omega
theorem Less.record {f d:Nat}:Less f (jal .record d):=by
 intro l x l' h e
 cases f with
 |zero=>unfold jal at e;rw[jaf] at e;cases e
 |succ f=>
  unfold jal at e
  rw[jc9] at e
  exact Less.bind (f:=f) Less.need (fun _=>Mono.bind Mono.name fun _=>Mono.bind Mono.need fun _=>Mono.bind (jbl _ _ _) fun _=>Mono.bind Mono.need fun _=>Mono.ret) l x l' h e
theorem jgN {f d:Nat}:Mono f (jaz d):=Mono.bind Mono.need fun _=>Mono.bind (Mono.before (jbl _ _ _)) fun _=>Mono.bind Mono.need fun _=>Mono.ret
theorem jgj {f d:Nat}:Mono f (jao d):=Mono.bind Mono.is fun _=>Mono.ite (Mono.bind Mono.take fun _=>Mono.bind Mono.need fun _=>Mono.bind (jbl _ _ _) fun _=>Mono.bind Mono.need fun _=>Mono.ret) (Mono.bind Mono.peek fun _=>Mono.ret)
theorem jgk {f d:Nat} {s:List UInt8}:Mono f (jaN s d):=Mono.bind Mono.peek fun _=>Mono.bind Mono.is fun _=>Mono.ite (Mono.bind Mono.take fun _=>Mono.bind (jbl _ _ _) fun _=>Mono.ret) Mono.ret
theorem Less.proc {f d:Nat}:Less f (jal .proc d):=by
 intro l x l' h e
 cases f with
 |zero=>unfold jal at e;rw[jaf] at e;cases e
 |succ f=>
  unfold jal at e
  rw[jdW] at e
  revert h e
  revert l x l'
  show Less f (jfe d)
  have K1:Keep f jbm:=by intro l y l' e;cases e;rfl
  have K2:∀ s,Keep f (mIs s):=by intro s l y l' e;cases e;rfl
  have M:∀ (ext:Bool) (p:Tk),Mono f (jae jbd fun t=>jae (jaz d) fun k1=>jae (jao d) fun k2=>jae (jaN jb1 d) fun k3=>jae (jaN jbN d) fun k4=>if ext=true then (jae (jaA [59]) fun _=>mRet [Syn.mk 2 p.a t.t 0 [k1,k2,k3,k4]]) else jae (jal .body d) fun b=>mRet [Syn.mk 2 p.a t.t 0 ([k1,k2,k3,k4]++b)]):=fun ext p=>
   Mono.bind Mono.name fun _=>Mono.bind jgN fun _=>Mono.bind jgj fun _=>Mono.bind jgk fun _=>Mono.bind jgk fun _=>Mono.ite (Mono.bind Mono.need fun _=>Mono.ret) (Mono.bind (jbl _ _ _) fun _=>Mono.ret)
  unfold jfe
  exact Less.keep K1 fun p=>Less.keep (K2 _) fun ext=>Less.mono (Mono.ite Mono.take Mono.peek) (fun _=>Less.bind Less.need fun _=>M ext p) (fun _=>Mono.bind Mono.need fun _=>M ext p)
theorem jcc {w:Want} {d:Nat} {l:List Tk} {xs:List Syn} {st':RSt} (hm:∀ f,Less f (jal w d)) (h2:2≤l.length) (h:Stp w d (.ok l) xs st'):st'.rem+1≤l.length:=by
 rcases elS h with ⟨l1,rfl,-,-,N,hN⟩|⟨a,e,-,rfl,-⟩
 ·exact hm N l xs l1 h2 (hN N (jrr _))
 ·show 0+1≤_
  omega
section
variable {L:List Tk} {d:Nat} {a:Int} {s s2 s':RSt} {y:Syn} {ys:List Syn}
theorem jfu (hf:s.fine) (hb:tIs L s ⟨#[114,101,99,111,114,100]⟩=true) (h:Stp .record d s [y] s2) (ht:Stp (.program a) d s2 ys s'):Stp (.program a) d s (y::ys) s':=
 jdX (Run.bind (jaM (L:=L) hf jaT) (Run.ite (fun _=>Run.bind h (Run.bind ht (ja1 (Run.fine ht (Run.fine h hf))))) (fun e=>absurd hb e)))
theorem jfE (hf:s.fine) (hv:tIs L s ⟨#[114,101,99,111,114,100]⟩=false) (hb:tIs L s ⟨#[112,114,111,99]⟩=true∨tIs L s ⟨#[105,109,112,111,114,116]⟩=true) (h:Stp .proc d s [y] s2) (ht:Stp (.program a) d s2 ys s'):Stp (.program a) d s (y::ys) s':=
 jdX (Run.bind (jaM (L:=L) hf jaT) (Run.ite (fun e=>absurd (hv.symm.trans e) (by decide)) (fun _=>Run.bind (jaM (L:=L) hf jb6) (Run.bind (jaM (L:=L) hf jaR) (Run.ite (fun _=>Run.bind h (Run.bind ht (ja1 (Run.fine ht (Run.fine h hf))))) (fun e=>absurd hb e))))))
theorem jgO (hf:s.fine) (hv:tIs L s ⟨#[114,101,99,111,114,100]⟩=false) (h1:tIs L s ⟨#[112,114,111,99]⟩=false) (h2:tIs L s ⟨#[105,109,112,111,114,116]⟩=false):Stp (.program a) d s [] s:=
 jdX (Run.bind (jaM (L:=L) hf jaT) (Run.ite (fun e=>absurd (hv.symm.trans e) (by decide)) (fun _=>Run.bind (jaM (L:=L) hf jb6) (Run.bind (jaM (L:=L) hf jaR) (Run.ite (fun e=>e.elim (fun e=>absurd (h1.symm.trans e) (by decide)) (fun e=>absurd (h2.symm.trans e) (by decide))) (fun _=>ja1 hf))))))
end
structure PgmAt (R:Nat) (L:List Tk) (w:World) (d:Nat) (st:RSt) (a:Int) (wr:World) (s:RSt) (xs:List Syn) (v:Value):Prop where
 hat:At R L wr d s
 hb:Butt R w wr
 own:ownT (w.heap.size+1) wr xs v
 xr:Bx5 wr w.heap.size (.int .i64 0) (.int .i64 0) (.string ⟨#[]⟩) (.int .i64 0) (.slice none 0 0)
 len:xs.length+s.rem≤st.rem
 go:∀ ys s',Stp (.program a) d s ys s'→Stp (.program a) d st (xs++ys) s'
theorem jjK {R:Nat} {L:List Tk} {d:Nat} {st:RSt} {w:World} (h:At R L w d st) (KP:∀ s:RSt,s.rem≤st.rem→GT 39 R L #[.pointer (some ⟨R,0,none⟩)] .proc d s) :
  Calls Tryz.prog 16 #[.pointer (some ⟨R,0,none⟩)] w (fun e W'=>∃ xs v st',e = .returned v∧synAt w.heap.size W' (.mk 0 (cur L st).a ⟨#[]⟩ 0 xs) v∧Stp (.program (cur L st).a) d st xs st'∧At R L W' d st'∧Butt R w W'):=by
 have HTL:=jD h.fix.toks;have HRA:=jD h.rem
 have CH:=fun W (H:At R L W d st)=>jeG H
 generalize (cur L st).a=pa at *
 have KH:=jD CH;have KPP:=jD KP
 have HA0:=jD h
 have HLT:=jD h.fix.lt;have HRW:=jD h.fix.lt
 have A0:=jD (h.alloc jZ);obtain⟨B0,XR0,HPR,HLS⟩:=jS h.fix.lt
 clear h CH KP
 go_enter Tryz.func16,Tryz.ntmps16
 go_wp2_with (go_at_call 36;refine jR (KH.out _ A0) B0 XR0 HPR fun w1 A1 B1 XR1=>?_)
 refine jD ?_
 have HLT2:Hid (R<w.heap.size+1):=jD (by have:=HRW.out;omega)
 go_wp2_with fail
 go_loopw [4] (fun v wr=>∃ (s:RSt) (xs:List Syn) (ao:Option Addr) (c:Nat),v = .slice ao xs.length c∧PgmAt R L w d st pa wr s xs v) (fun _ wr=>remW R L wr)
 case atStart=>exact⟨st,[],none,0,rfl,A1.out,B1.out,ownT.nil _ _,XR1.out,by simp,fun ys s' hs=>hs⟩
 case round=>
  obtain⟨s,xs,ao,c,rfl,hrel⟩:=hrel
  have C0:=fun W (H:At R L W d s)=>sis H ⟨#[114,101,99,111,114,100]⟩
  have C1:=fun W (H:At R L W d s)=>sis H ⟨#[112,114,111,99]⟩
  have C2:=fun W (H:At R L W d s)=>sis H ⟨#[105,109,112,111,114,116]⟩
  have HSR:Hid (s.rem≤st.rem):=jD (by have:=hrel.len;omega)
  have HR:=jD hrel
  cases h0:tIs L s ⟨#[114,101,99,111,114,100]⟩ with
  |true=>
   rw[h0] at C0
   have HC0:=jD h0;have HTX:=jD (jb9 (by decide) h0);clear h0
   have K0:=jD C0;have K1:=jD C1;have K2:=jD C2
   have A0:=jD hrel.hat;have B0:=jD hrel.hb;have OW:=jD hrel.own;have XR0:=jD hrel.xr
   clear C0 C1 C2 hrel
   go_wp2_with (go_at_call 37;refine jX (K0.out _ A0) B0 XR0 HPR fun w1 A1 B1 XR1 hb1=>?_)
   have OW1:=jD (OW.out.keep (jrr _) (hb1.froms HLT2))
   clear hb1
   refine jD ?_
   go_wp2_with (go_at_call 38;refine cM (jkZ A1) ?_;rintro e w2 ⟨x2,v2,s2,rfl,hx2,hs2,ha2,hb2⟩)
   obtain⟨k2,a2,t2,n2,o2,l2,c2,q2,rfl,rfl,hk2⟩:=hx2.shape
   have HS2:=jD hs2
   have HOFF:=jD (OW1.out.off (jrr _) hx2 (by have:=XR1.out.lt;omega))
   have HLEN:Hid ((xs++[Syn.mk k2 a2 t2 n2 q2]).length+s2.rem≤st.rem):=jD (by
    obtain⟨l1,e1,-,e3⟩:=rem_less HTL HR.out.hat HTX
    have g1:=HR.out.len
    have g2:=jcc (fun f=>Less.record) e3 (e1 ▸ HS2)
    rw[e1,show (RSt.ok l1).rem=l1.length from rfl] at g1
    rw[List.length_append,show [Syn.mk k2 a2 t2 n2 q2].length=1 from rfl]
    omega)
   have TR2:=jD (synIn.of (l2:=(w.heap.size+1)) (ps:=[]) hx2 (by have:=XR1.out.lt;omega) (by simp))
   have A2:=jD ha2;have B2:=jtt B1 hb2
   have XR2:=jbb XR1 HPR hb2
   have OW2:=jD (OW1.out.keep (jrr _) (hb2.froms HLT2))
   clear ha2 hb2 hx2 hk2 hs2
   refine jD ?_
   have A2a:=jD (A2.out.alloc (jO k2 a2 t2 n2 o2 l2 c2));have B2a:=jD (B2.out.alloc HRW (jO k2 a2 t2 n2 o2 l2 c2))
   have XR2a:=jD (XR2.out.alloc (jO k2 a2 t2 n2 o2 l2 c2))
   have OW2a:=jD (OW2.out.keep (jrr _) (From.of_below (jN (jO k2 a2 t2 n2 o2 l2 c2))))
   have HZ:=jD (HOFF.out.below (jN (jO k2 a2 t2 n2 o2 l2 c2)))
   have HL1:Hid (xs.length≤1200000):=jD (by have:=HR.out.len;have:=HRA.out;omega)
   have HB1:Hid (w.heap.size+1≤(w2.alloc (jO k2 a2 t2 n2 o2 l2 c2)).heap.size):=jD (by have:=XR2a.out.lt;omega)
   go_wp2_with (first|(at_builtin;refine jag rfl (.tmp 13) (.tmp 16) rfl (w.heap.size+1) _ xs (by simp[Act.eval,Act.put]) OW2a HL1 HB1 w2.heap.size _ _ _ _ _ _ (by simp[Act.eval,Act.put]) HZ ⟨rfl,rfl,rfl,rfl,rfl⟩ (by go_cell) (by go_cell) (by go_cell) (by go_cell) (by go_cell) ?_;intro v9 ao9 cap9 w9 hv9 ho9 hg9;refine Hid.out ?_)|fail)
   subst hv9
   have hgl:=jap hg9 (fun b e=>(OW2a.out.lo b e).1) HLT2 HB1
   have hgr:=At.grow HA0 A2a B2a (Below.down hgl (Nat.le_succ _))
   have HNX:Hid (PgmAt R L w d st pa w9 s2 (xs++[.mk k2 a2 t2 n2 q2]) _):=jD ⟨hgr.1,hgr.2,ho9,XR2a.out.down hgl (Nat.lt_succ_self _),HLEN.out,fun ys s' ht=>by have e:=HR.out.go _ _ (jfu HR.out.hat.fine HC0 HS2 ht);rw[List.append_assoc];exact e⟩
   clear hgl hgr ho9 hg9
   refine jD ?_
   go_wp2
   go_roundw
   case rel=>exact⟨s2,xs++[.mk k2 a2 t2 n2 q2],ao9,cap9,by rw[List.length_append];rfl,HNX.out⟩
   case measure=>
    obtain⟨l1,e1,-,e3⟩:=rem_less HTL HR.out.hat HTX
    have g1:=jbr (e1 ▸ HR.out.hat)
    have g2:=jbv HNX.out.hat
    have g3:=jcc (fun f=>Less.record) e3 (e1 ▸ HS2)
    rw[g1]
    omega
  |false=>
   rw[h0] at C0
   cases h1:tIs L s ⟨#[112,114,111,99]⟩ with
   |true=>
    rw[h1] at C1
    have HC0:=jD h0;have HC1:Hid (tIs L s ⟨#[112,114,111,99]⟩=true∨tIs L s ⟨#[105,109,112,111,114,116]⟩=true):=jD (.inl h1);have HTX:=jD (jb9 (by decide) h1);clear h0 h1
    have K0:=jD C0;have K1:=jD C1;have K2:=jD C2
    have A0:=jD hrel.hat;have B0:=jD hrel.hb;have OW:=jD hrel.own;have XR0:=jD hrel.xr
    clear C0 C1 C2 hrel
    go_wp2_with (go_at_call 37;refine jX (K0.out _ A0) B0 XR0 HPR fun w1 A1 B1 XR1 hb1=>?_)
    have OW1:=jD (OW.out.keep (jrr _) (hb1.froms HLT2))
    clear hb1
    refine jD ?_
    go_wp2_with (go_at_call 37;refine jX (K1.out _ A1) B1 XR1 HPR fun w2 A2 B2 XR2 hb2=>?_)
    have OW2:=jD (OW1.out.keep (jrr _) (hb2.froms HLT2))
    clear hb2
    refine jD ?_
    go_wp2_with (go_at_call 39;refine cM (KPP.out s HSR _ A2) ?_;rintro e w3 ⟨x3,v3,s3,rfl,hx3,hs3,ha3,hb3⟩)
    obtain⟨k3,a3,t3,n3,o3,l3,c3,q3,rfl,rfl,hk3⟩:=hx3.shape
    have HS3:=jD hs3
    have HOFF:=jD (OW2.out.off (jrr _) hx3 (by have:=XR2.out.lt;omega))
    have HLEN:Hid ((xs++[Syn.mk k3 a3 t3 n3 q3]).length+s3.rem≤st.rem):=jD (by
     obtain⟨l1,e1,-,e3⟩:=rem_less HTL HR.out.hat HTX
     have g1:=HR.out.len
     have g2:=jcc (fun f=>Less.proc) e3 (e1 ▸ HS3)
     rw[e1,show (RSt.ok l1).rem=l1.length from rfl] at g1
     rw[List.length_append,show [Syn.mk k3 a3 t3 n3 q3].length=1 from rfl]
     omega)
    have TR3:=jD (synIn.of (l2:=(w.heap.size+1)) (ps:=[]) hx3 (by have:=XR2.out.lt;omega) (by simp))
    have A3:=jD ha3;have B3:=jtt B2 hb3
    have XR3:=jbb XR2 HPR hb3
    have OW3:=jD (OW2.out.keep (jrr _) (hb3.froms HLT2))
    clear ha3 hb3 hx3 hk3 hs3
    refine jD ?_
    have A3a:=jD (A3.out.alloc (jO k3 a3 t3 n3 o3 l3 c3));have B3a:=jD (B3.out.alloc HRW (jO k3 a3 t3 n3 o3 l3 c3))
    have XR3a:=jD (XR3.out.alloc (jO k3 a3 t3 n3 o3 l3 c3))
    have OW3a:=jD (OW3.out.keep (jrr _) (From.of_below (jN (jO k3 a3 t3 n3 o3 l3 c3))))
    have HZ:=jD (HOFF.out.below (jN (jO k3 a3 t3 n3 o3 l3 c3)))
    have HL1:Hid (xs.length≤1200000):=jD (by have:=HR.out.len;have:=HRA.out;omega)
    have HB1:Hid (w.heap.size+1≤(w3.alloc (jO k3 a3 t3 n3 o3 l3 c3)).heap.size):=jD (by have:=XR3a.out.lt;omega)
    go_wp2_with (first|(at_builtin;refine jag rfl (.tmp 23) (.tmp 26) rfl (w.heap.size+1) _ xs (by simp[Act.eval,Act.put]) OW3a HL1 HB1 w3.heap.size _ _ _ _ _ _ (by simp[Act.eval,Act.put]) HZ ⟨rfl,rfl,rfl,rfl,rfl⟩ (by go_cell) (by go_cell) (by go_cell) (by go_cell) (by go_cell) ?_;intro v9 ao9 cap9 w9 hv9 ho9 hg9;refine Hid.out ?_)|fail)
    subst hv9
    have hgl:=jap hg9 (fun b e=>(OW3a.out.lo b e).1) HLT2 HB1
    have hgr:=At.grow HA0 A3a B3a (Below.down hgl (Nat.le_succ _))
    have HNX:Hid (PgmAt R L w d st pa w9 s3 (xs++[.mk k3 a3 t3 n3 q3]) _):=jD ⟨hgr.1,hgr.2,ho9,XR3a.out.down hgl (Nat.lt_succ_self _),HLEN.out,fun ys s' ht=>by have e:=HR.out.go _ _ (jfE HR.out.hat.fine HC0 HC1 HS3 ht);rw[List.append_assoc];exact e⟩
    clear hgl hgr ho9 hg9
    refine jD ?_
    go_wp2
    go_roundw
    case rel=>exact⟨s3,xs++[.mk k3 a3 t3 n3 q3],ao9,cap9,by rw[List.length_append];rfl,HNX.out⟩
    case measure=>
     obtain⟨l1,e1,-,e3⟩:=rem_less HTL HR.out.hat HTX
     have g1:=jbr (e1 ▸ HR.out.hat)
     have g2:=jbv HNX.out.hat
     have g3:=jcc (fun f=>Less.proc) e3 (e1 ▸ HS3)
     rw[g1]
     omega
   |false=>
    rw[h1] at C1
    cases h2:tIs L s ⟨#[105,109,112,111,114,116]⟩ with
    |true=>
     rw[h2] at C2
     have HC0:=jD h0;have HC1:Hid (tIs L s ⟨#[112,114,111,99]⟩=true∨tIs L s ⟨#[105,109,112,111,114,116]⟩=true):=jD (.inr h2);have HTX:=jD (jb9 (by decide) h2);clear h0 h1 h2
     have K0:=jD C0;have K1:=jD C1;have K2:=jD C2
     have A0:=jD hrel.hat;have B0:=jD hrel.hb;have OW:=jD hrel.own;have XR0:=jD hrel.xr
     clear C0 C1 C2 hrel
     go_wp2_with (go_at_call 37;refine jX (K0.out _ A0) B0 XR0 HPR fun w1 A1 B1 XR1 hb1=>?_)
     have OW1:=jD (OW.out.keep (jrr _) (hb1.froms HLT2))
     clear hb1
     refine jD ?_
     go_wp2_with (go_at_call 37;refine jX (K1.out _ A1) B1 XR1 HPR fun w2 A2 B2 XR2 hb2=>?_)
     have OW2:=jD (OW1.out.keep (jrr _) (hb2.froms HLT2))
     clear hb2
     refine jD ?_
     go_wp2_with (go_at_call 37;refine jX (K2.out _ A2) B2 XR2 HPR fun w3 A3 B3 XR3 hb3=>?_)
     have OW3:=jD (OW2.out.keep (jrr _) (hb3.froms HLT2))
     clear hb3
     refine jD ?_
     go_wp2_with (go_at_call 39;refine cM (KPP.out s HSR _ A3) ?_;rintro e w4 ⟨x4,v4,s4,rfl,hx4,hs4,ha4,hb4⟩)
     obtain⟨k4,a4,t4,n4,o4,l4,c4,q4,rfl,rfl,hk4⟩:=hx4.shape
     have HS4:=jD hs4
     have HOFF:=jD (OW3.out.off (jrr _) hx4 (by have:=XR3.out.lt;omega))
     have HLEN:Hid ((xs++[Syn.mk k4 a4 t4 n4 q4]).length+s4.rem≤st.rem):=jD (by
      obtain⟨l1,e1,-,e3⟩:=rem_less HTL HR.out.hat HTX
      have g1:=HR.out.len
      have g2:=jcc (fun f=>Less.proc) e3 (e1 ▸ HS4)
      rw[e1,show (RSt.ok l1).rem=l1.length from rfl] at g1
      rw[List.length_append,show [Syn.mk k4 a4 t4 n4 q4].length=1 from rfl]
      omega)
     have TR4:=jD (synIn.of (l2:=(w.heap.size+1)) (ps:=[]) hx4 (by have:=XR3.out.lt;omega) (by simp))
     have A4:=jD ha4;have B4:=jtt B3 hb4
     have XR4:=jbb XR3 HPR hb4
     have OW4:=jD (OW3.out.keep (jrr _) (hb4.froms HLT2))
     clear ha4 hb4 hx4 hk4 hs4
     refine jD ?_
     have A4a:=jD (A4.out.alloc (jO k4 a4 t4 n4 o4 l4 c4));have B4a:=jD (B4.out.alloc HRW (jO k4 a4 t4 n4 o4 l4 c4))
     have XR4a:=jD (XR4.out.alloc (jO k4 a4 t4 n4 o4 l4 c4))
     have OW4a:=jD (OW4.out.keep (jrr _) (From.of_below (jN (jO k4 a4 t4 n4 o4 l4 c4))))
     have HZ:=jD (HOFF.out.below (jN (jO k4 a4 t4 n4 o4 l4 c4)))
     have HL1:Hid (xs.length≤1200000):=jD (by have:=HR.out.len;have:=HRA.out;omega)
     have HB1:Hid (w.heap.size+1≤(w4.alloc (jO k4 a4 t4 n4 o4 l4 c4)).heap.size):=jD (by have:=XR4a.out.lt;omega)
     go_wp2_with (first|(at_builtin;refine jag rfl (.tmp 23) (.tmp 26) rfl (w.heap.size+1) _ xs (by simp[Act.eval,Act.put]) OW4a HL1 HB1 w4.heap.size _ _ _ _ _ _ (by simp[Act.eval,Act.put]) HZ ⟨rfl,rfl,rfl,rfl,rfl⟩ (by go_cell) (by go_cell) (by go_cell) (by go_cell) (by go_cell) ?_;intro v9 ao9 cap9 w9 hv9 ho9 hg9;refine Hid.out ?_)|fail)
     subst hv9
     have hgl:=jap hg9 (fun b e=>(OW4a.out.lo b e).1) HLT2 HB1
     have hgr:=At.grow HA0 A4a B4a (Below.down hgl (Nat.le_succ _))
     have HNX:Hid (PgmAt R L w d st pa w9 s4 (xs++[.mk k4 a4 t4 n4 q4]) _):=jD ⟨hgr.1,hgr.2,ho9,XR4a.out.down hgl (Nat.lt_succ_self _),HLEN.out,fun ys s' ht=>by have e:=HR.out.go _ _ (jfE HR.out.hat.fine HC0 HC1 HS4 ht);rw[List.append_assoc];exact e⟩
     clear hgl hgr ho9 hg9
     refine jD ?_
     go_wp2
     go_roundw
     case rel=>exact⟨s4,xs++[.mk k4 a4 t4 n4 q4],ao9,cap9,by rw[List.length_append];rfl,HNX.out⟩
     case measure=>
      obtain⟨l1,e1,-,e3⟩:=rem_less HTL HR.out.hat HTX
      have g1:=jbr (e1 ▸ HR.out.hat)
      have g2:=jbv HNX.out.hat
      have g3:=jcc (fun f=>Less.proc) e3 (e1 ▸ HS4)
      rw[g1]
      omega
    |false=>
     rw[h2] at C2
     have HC0:=jD h0;have HC1:=jD h1;have HC2:=jD h2;clear h0 h1 h2
     have K0:=jD C0;have K1:=jD C1;have K2:=jD C2
     have A0:=jD hrel.hat;have B0:=jD hrel.hb;have OW:=jD hrel.own;have XR0:=jD hrel.xr
     clear C0 C1 C2 hrel
     go_wp2_with (go_at_call 37;refine jX (K0.out _ A0) B0 XR0 HPR fun w1 A1 B1 XR1 hb1=>?_)
     have OW1:=jD (OW.out.keep (jrr _) (hb1.froms HLT2))
     clear hb1
     refine jD ?_
     go_wp2_with (go_at_call 37;refine jX (K1.out _ A1) B1 XR1 HPR fun w2 A2 B2 XR2 hb2=>?_)
     have OW2:=jD (OW1.out.keep (jrr _) (hb2.froms HLT2))
     clear hb2
     refine jD ?_
     go_wp2_with (go_at_call 37;refine jX (K2.out _ A2) B2 XR2 HPR fun w3 A3 B3 XR3 hb3=>?_)
     have OW3:=jD (OW2.out.keep (jrr _) (hb3.froms HLT2))
     clear hb3
     refine jD ?_
     have KR:=jD (ownT.kidsIn (l2:=w.heap.size) (ps:=[w.heap.size]) OW3 (Nat.le_succ _) (by simp))
     go_wp2_with (go_at_call 40;refine cM (jau _ _ _ _ _ _ _) ?_;rintro e w4 ⟨rfl,hb4⟩)
     have HBZ:=jD hb4
     have hbx:=Butt.of_below (R:=R) A3.out.fix.lt hb4
     have ha4:At R L w4 _ _:=⟨A3.out.fix.butt hbx,A3.out.rs.below hb4⟩
     have TN:=jD (jac.mpr ⟨_,rfl,KR.out.keep ⟨HBZ.out.size,fun k _ h=>HBZ.out.block k h⟩ (fun _ h _=>h)⟩:synIn (offs w.heap.size [w.heap.size]) w4 (.mk 0 pa ⟨#[]⟩ 0 xs) _)
     have hb4:=hbx;clear hbx
     have A4:=jD ha4;have B4:=jtt B3 hb4
     have XR4:=jbb XR3 HPR hb4
     clear ha4 hb4
     refine jD ?_
     have FT:=jD (ja4 HA0 B4 A4 XR4 (jrr _) (.int .i64 0) (.int .i64 pa) (.string ⟨#[]⟩) (.int .i64 0) (.slice ao xs.length c) _ rfl)
     have GX:=jD ((TN.out).kept (by simp) FT.out.2.2.2).at
     obtain⟨yXR0,yXR1,yXR2,yXR3,yXR4,fXR0,fXR1,fXR2,fXR3,fXR4⟩:=bF XR4
     obtain⟨r0,r1,r2,r3,r4⟩:=FT.out.1
     have GA:=jD FT.out.2.1;have GB:=jD FT.out.2.2.1
     clear FT
     go_wp2
     refine bodyPost_ret (by simp[results,Tryz.results16,go_sem,r0,r1,r2,r3,r4];rfl) rfl ?_
     exact⟨xs,_,_,rfl,GX.out,by have e:=HR.out.go _ _ (jgO HR.out.hat.fine HC0 HC1 HC2);rw[List.append_nil] at e;exact e,GA.out,GB.out⟩
theorem jgL {R:Nat} {L:List Tk} {d:Nat} {st:RSt} {w:World} (h:At R L w d st) (hn:isN (cur L st)=true) (KS:∀ W:World,At R L W d st→Calls Tryz.prog 133 #[.pointer (some ⟨R,0,none⟩)] W (PS R L (fun x st'=>∃ a t i y s1,x = .mk 10 a t 0 [i,y]∧Stp .load d st [.mk 16 a t 0 [i]] s1∧Stp (.lvl 4) d (jad (tIs L s1 ⟨#[58,61]⟩) s1) [y] st') d W)) (KC:GT 134 R L #[.pointer (some ⟨R,0,none⟩)] .call d st) (KR:∀ s:RSt,s.rem≤st.rem→GT 135 R L #[.pointer (some ⟨R,0,none⟩)] .right d s) :
  Calls Tryz.prog 102 #[.pointer (some ⟨R,0,none⟩)] w (PT R L .stmt d st w):=by
 have hfi:=h.fine
 have CH:=fun W (H:At R L W d st)=>jeG H
 have CF:=fun W (H:At R L W d st)=>jf0 H
 by_cases h3:bytes (jcx L st)=[91]
 ·have HM:=jD (fun a t i y s1 s2=>jfs (L:=L) (d:=d) (y:=y) (s1:=s1) (s2:=s2) hfi hn h3 (a:=a) (t:=t) (i:=i))
  rw[jep h3] at CF
  generalize (cur L st).a=ea at *
  have KH:=jD CH;have KF:=jD CF;have KK:=jD KS;have KL:=jD KC;have KQ:=jD KR
  have HA0:=jD h
  have HLT:=jD h.fix.lt;have HRW:=jD h.fix.lt
  have A0:=jD (h.alloc jZ);obtain⟨B0,XR0,HPR,HLS⟩:=jS h.fix.lt
  clear h CH CF KS KC KR hn hfi h3
  go_enter Tryz.func102,Tryz.ntmps102
  go_wp2_with (go_at_call 36;refine jR (KH.out _ A0.out) B0 XR0 HPR fun w1 A1 B1 XR1=>?_)
  refine jD ?_
  have H1P:Hid (w.heap.size≠w1.heap.size):=jD (fun e=>by have:=XR1.out.lt;omega)
  have HB1:Hid (w.heap.size≤w1.heap.size):=jD B1.out.size
  have A1a:=jD (A1.out.alloc jZ);have B1a:=jD (B1.out.alloc HRW.out jZ)
  have XR1a:=jD (XR1.out.alloc jZ)
  have PXT:=nR A1.out.fix.lt
  have XT1a:=jD (Bx5.new w1 (.int .i64 0) (.int .i64 0) (.string ⟨#[]⟩) (.int .i64 0) (.slice none 0 0))
  go_wp2_with (go_at_call 132;refine jX (KF.out _ A1a.out) B1a XR1a HPR fun w2 A2 B2 XR2 hb2=>?_)
  have XT2:=jD (XT1a.out.butt PXT.out hb2)
  clear hb2
  refine jD ?_
  go_wp2_with (go_at_call 133;refine cM (KK.out _ A2.out) ?_;rintro e w3 ⟨x3,v3,s3,rfl,hx3,hs3,ha3,hb3⟩)
  obtain⟨k3,a3,t3,n3,o3,l3,c3,q3,rfl,rfl,hk3⟩:=hx3.shape
  have HS3:=jD hs3
  have TR3:=jD (synIn.of (ps:=[w.heap.size,w1.heap.size]) hx3 (Nat.le_trans (jrr _) B2.out.size) (fun p hp=>by simp only[List.mem_cons,List.not_mem_nil,or_false] at hp;have g0:=XR2.out.lt;have g1:=XT2.out.lt;omega))
  have A3:=jD ha3;have B3:=jtt B2 hb3
  have XR3:=jbb XR2 HPR hb3
  have XT3:=jD (XT2.out.butt PXT.out hb3)
  clear ha3 hb3 hx3 hk3 hs3
  refine jD ?_
  obtain⟨a',t',i',y',s',e',hs1,hs2⟩:=HS3.out
  cases e'
  have HS1':=jD hs1;have HS2':=jD hs2;clear hs1 hs2
  have FT:=jD (ja4 HA0.out B3.out A3.out XT3.out HB1.out (.int .i64 10) (.int .i64 a3) (.string t3) (.int .i64 0) (.slice o3 l3 c3) _ rfl)
  obtain⟨yXT0,yXT1,yXT2,yXT3,yXT4,fXT0,fXT1,fXT2,fXT3,fXT4⟩:=bF XT3.out
  have A4s:=jD FT.out.2.1;have B4s:=jD FT.out.2.2.1;have XT4s:=jD FT.out.1
  have XR4s:=jD (XR3.out.kept H1P.out FT.out.2.2.2)
  have TR34s:=jD (TR3.out.kept (by simp) FT.out.2.2.2)
  have TS4:=jD ((TR3.out).kept (by simp) FT.out.2.2.2)
  clear FT
  go_wp2_with (go_at_call 35;refine jX (jaE A4s.out ⟨#[59]⟩) B4s XR4s HPR fun w5 A5 B5 XR5 hb5=>?_)
  have XT5:=jD (XT4s.out.butt PXT.out hb5)
  have TR35:=jvv TR34s HLT hb5
  have TS45:=jD (TS4.out.butt HLT.out hb5)
  clear hb5
  refine jD ?_
  obtain⟨yXT0,yXT1,yXT2,yXT3,yXT4,-,-⟩:=XT5.out
  have FT:=jD (ja4 HA0.out B5.out A5.out XR5.out (jrr _) (.int .i64 10) (.int .i64 a3) (.string t3) (.int .i64 0) (.slice o3 l3 c3) _ rfl)
  have GX:=jD ((TS45.out).kept (by simp) FT.out.2.2.2).at
  obtain⟨yXR0,yXR1,yXR2,yXR3,yXR4,fXR0,fXR1,fXR2,fXR3,fXR4⟩:=bF XR5.out
  obtain⟨r0,r1,r2,r3,r4⟩:=FT.out.1
  have GA:=jD FT.out.2.1;have GB:=jD FT.out.2.2.1
  clear FT
  go_wp2
  refine bodyPost_ret (by simp[results,Tryz.results102,go_sem,r0,r1,r2,r3,r4];rfl) rfl ?_
  exact⟨_,_,_,rfl,GX.out,HM.out _ _ _ _ _ _ HS1'.out HS2'.out,GA.out,GB.out⟩
 ·by_cases h4:bytes (jcx L st)=[40]
  ·have HM:=jD (fun x s1=>jgg (L:=L) (d:=d) (x:=x) (s1:=s1) hfi hn h4)
   rw[jep h4] at CF
   generalize (cur L st).a=ea at *
   have KH:=jD CH;have KF:=jD CF;have KK:=jD KS;have KL:=jD KC;have KQ:=jD KR
   have HA0:=jD h
   have HLT:=jD h.fix.lt;have HRW:=jD h.fix.lt
   have A0:=jD (h.alloc jZ);obtain⟨B0,XR0,HPR,HLS⟩:=jS h.fix.lt
   clear h CH CF KS KC KR hn hfi h3 h4
   go_enter Tryz.func102,Tryz.ntmps102
   go_wp2_with (go_at_call 36;refine jR (KH.out _ A0.out) B0 XR0 HPR fun w1 A1 B1 XR1=>?_)
   refine jD ?_
   have H1P:Hid (w.heap.size≠w1.heap.size):=jD (fun e=>by have:=XR1.out.lt;omega)
   have HB1:Hid (w.heap.size≤w1.heap.size):=jD B1.out.size
   have A1a:=jD (A1.out.alloc jZ);have B1a:=jD (B1.out.alloc HRW.out jZ)
   have XR1a:=jD (XR1.out.alloc jZ)
   have PXT:=nR A1.out.fix.lt
   have XT1a:=jD (Bx5.new w1 (.int .i64 0) (.int .i64 0) (.string ⟨#[]⟩) (.int .i64 0) (.slice none 0 0))
   go_wp2_with (go_at_call 132;refine jX (KF.out _ A1a.out) B1a XR1a HPR fun w2 A2 B2 XR2 hb2=>?_)
   have XT2:=jD (XT1a.out.butt PXT.out hb2)
   clear hb2
   refine jD ?_
   go_wp2_with (go_at_call 40;refine cM (jau _ _ _ _ _ _ _) ?_;rintro e w3 ⟨rfl,hbl3⟩)
   have ha3:=A2.out.below hbl3;have hb3:=Butt.of_below (R:=R) A2.out.fix.lt hbl3;clear hbl3
   have A3:=jD ha3;have B3:=jtt B2 hb3
   have XR3:=jbb XR2 HPR hb3
   have XT3:=jD (XT2.out.butt PXT.out hb3)
   clear ha3 hb3
   refine jD ?_
   go_wp2_with (go_at_call 134;refine cM (KL.out _ A3.out) ?_;rintro e w4 ⟨x4,v4,s4,rfl,hx4,hs4,ha4,hb4⟩)
   obtain⟨k4,a4,t4,n4,o4,l4,c4,q4,rfl,rfl,hk4⟩:=hx4.shape
   have HS4:=jD hs4
   have TR4:=jD (synIn.of (ps:=[w.heap.size,w1.heap.size]) hx4 (Nat.le_trans (jrr _) B3.out.size) (fun p hp=>by simp only[List.mem_cons,List.not_mem_nil,or_false] at hp;have g0:=XR3.out.lt;have g1:=XT3.out.lt;omega))
   have A4:=jD ha4;have B4:=jtt B3 hb4
   have XR4:=jbb XR3 HPR hb4
   have XT4:=jD (XT3.out.butt PXT.out hb4)
   clear ha4 hb4 hx4 hk4 hs4
   refine jD ?_
   have hAw:offs w.heap.size [w.heap.size,w1.heap.size] w4.heap.size:=⟨Nat.le_trans (jrr _) B4.out.size,fun hp=>by simp only[List.mem_cons,List.not_mem_nil,or_false] at hp;have g0:=XR4.out.lt;have g1:=XT4.out.lt;omega⟩
   have hki:=jaw (flatIn.cons ((jac (kids:=[]) (k:=3) (a:=ea) (n:=0) (t:=⟨#[]⟩)).mpr ⟨_,rfl,Or.inl ⟨rfl,rfl⟩⟩) (flatIn.one (TR4.out))) (by simp) hAw 2 rfl
   have KI:=jD hki
   clear hAw hki
   go_wp2_with (go_at_call 40;refine cM (jau _ _ _ _ _ _ _) ?_;rintro e w5 ⟨rfl,hb5⟩)
   have hbx:=Butt.of_below (R:=R) A4.out.fix.lt (Below.chain (jN (Obj.cells #[.int .i64 3,.int .i64 ea,.string ⟨#[]⟩,.int .i64 0,.slice none 0 0,.int .i64 k4,.int .i64 a4,.string t4,.int .i64 n4,.slice o4 l4 c4] 25)) hb5)
   have ha5:At R L w5 _ _:=⟨A4.out.fix.butt hbx,A4.out.rs.below (Below.chain (jN (Obj.cells #[.int .i64 3,.int .i64 ea,.string ⟨#[]⟩,.int .i64 0,.slice none 0 0,.int .i64 k4,.int .i64 a4,.string t4,.int .i64 n4,.slice o4 l4 c4] 25)) hb5)⟩
   have TN:=jD (jac.mpr ⟨_,rfl,KI.out.below hb5⟩:synIn (offs w.heap.size [w.heap.size,w1.heap.size]) w5 (.mk 9 ea ⟨#[]⟩ 0 [(.mk 3 ea ⟨#[]⟩ 0 []),(.mk k4 a4 t4 n4 q4)]) _)
   have hb5:=hbx;clear hbx
   have A5:=jD ha5;have B5:=jtt B4 hb5
   have XR5:=jbb XR4 HPR hb5
   have XT5:=jD (XT4.out.butt PXT.out hb5)
   clear ha5 hb5
   refine jD ?_
   have FT:=jD (ja4 HA0.out B5.out A5.out XT5.out HB1.out (.int .i64 9) (.int .i64 ea) (.string ⟨#[]⟩) (.int .i64 0) (.slice (some ⟨w4.heap.size,0,none⟩) 2 2) _ rfl)
   obtain⟨yXT0,yXT1,yXT2,yXT3,yXT4,fXT0,fXT1,fXT2,fXT3,fXT4⟩:=bF XT5.out
   have A6s:=jD FT.out.2.1;have B6s:=jD FT.out.2.2.1;have XT6s:=jD FT.out.1
   have XR6s:=jD (XR5.out.kept H1P.out FT.out.2.2.2)
   have TS6:=jD ((TN.out).kept (by simp) FT.out.2.2.2)
   clear FT
   go_wp2_with (go_at_call 35;refine jX (jaE A6s.out ⟨#[59]⟩) B6s XR6s HPR fun w7 A7 B7 XR7 hb7=>?_)
   have XT7:=jD (XT6s.out.butt PXT.out hb7)
   have TS67:=jD (TS6.out.butt HLT.out hb7)
   clear hb7
   refine jD ?_
   obtain⟨yXT0,yXT1,yXT2,yXT3,yXT4,-,-⟩:=XT7.out
   have FT:=jD (ja4 HA0.out B7.out A7.out XR7.out (jrr _) (.int .i64 9) (.int .i64 ea) (.string ⟨#[]⟩) (.int .i64 0) (.slice (some ⟨w4.heap.size,0,none⟩) 2 2) _ rfl)
   have GX:=jD ((TS67.out).kept (by simp) FT.out.2.2.2).at
   obtain⟨yXR0,yXR1,yXR2,yXR3,yXR4,fXR0,fXR1,fXR2,fXR3,fXR4⟩:=bF XR7.out
   obtain⟨r0,r1,r2,r3,r4⟩:=FT.out.1
   have GA:=jD FT.out.2.1;have GB:=jD FT.out.2.2.1
   clear FT
   go_wp2
   refine bodyPost_ret (by simp[results,Tryz.results102,go_sem,r0,r1,r2,r3,r4];rfl) rfl ?_
   exact⟨_,_,_,rfl,GX.out,HM.out _ _ HS4.out,GA.out,GB.out⟩
  ·have HM:=jD (fun xs y s1 s2=>je2 (L:=L) (d:=d) (xs:=xs) (y:=y) (s1:=s1) (s2:=s2) hfi hn ⟨h3,h4⟩)
   have e1:((jcx L st).toList==[91])=false:=by have:=jeo h3;simpa using this
   have e2:((jcx L st).toList==[40])=false:=by have:=jeo h4;simpa using this
   have CL:=fun W (H:At R L W d st)=>jhe H (fun s hs W2 H2=>jk2 H2)
   have KLI:=jD CL;clear CL
   generalize jcx L st=NX at *
   generalize (cur L st).a=ea at *
   have KH:=jD CH;have KF:=jD CF;have KK:=jD KS;have KL:=jD KC;have KQ:=jD KR
   have HA0:=jD h
   have HLT:=jD h.fix.lt;have HRW:=jD h.fix.lt
   have A0:=jD (h.alloc jZ);obtain⟨B0,XR0,HPR,HLS⟩:=jS h.fix.lt
   clear h CH CF KS KC KR hn hfi h3 h4
   go_enter Tryz.func102,Tryz.ntmps102
   go_wp2_with (go_at_call 36;refine jR (KH.out _ A0.out) B0 XR0 HPR fun w1 A1 B1 XR1=>?_)
   refine jD ?_
   have H1P:Hid (w.heap.size≠w1.heap.size):=jD (fun e=>by have:=XR1.out.lt;omega)
   have HB1:Hid (w.heap.size≤w1.heap.size):=jD B1.out.size
   have A1a:=jD (A1.out.alloc jZ);have B1a:=jD (B1.out.alloc HRW.out jZ)
   have XR1a:=jD (XR1.out.alloc jZ)
   have PXT:=nR A1.out.fix.lt
   have XT1a:=jD (Bx5.new w1 (.int .i64 0) (.int .i64 0) (.string ⟨#[]⟩) (.int .i64 0) (.slice none 0 0))
   go_wp2_with (go_at_call 132;refine jX (KF.out _ A1a.out) B1a XR1a HPR fun w2 A2 B2 XR2 hb2=>?_)
   have XT2:=jD (XT1a.out.butt PXT.out hb2)
   clear hb2
   refine jD ?_
   go_wp2_with (go_at_call 74;refine cM (KLI.out _ A2.out) ?_;rintro e w3 ⟨x3,v3,s3,rfl,hx3,hn3,hs3,ha3,hb3⟩)
   obtain⟨o3,c3,rfl⟩:=hx3.slice
   have RW3:=jD (ownT.kidsIn (ps:=[w.heap.size,w1.heap.size]) hx3 (Nat.le_trans (jrr _) B2.out.size) (fun p hp=>by simp only[List.mem_cons,List.not_mem_nil,or_false] at hp;have g0:=XR2.out.lt;have g1:=XT2.out.lt;omega))
   have HS3:=jD hs3;have HN3:=jD hn3
   have A3:=jD ha3;have B3:=jtt B2 hb3
   have XR3:=jbb XR2 HPR hb3
   have XT3:=jD (XT2.out.butt PXT.out hb3)
   clear ha3 hb3 hx3 hs3 hn3
   refine jD ?_
   go_wp2_with (go_at_call 40;refine cM (jau _ _ _ _ _ _ _) ?_;rintro e w4 ⟨rfl,hbl4⟩)
   have ha4:=A3.out.below hbl4;have hb4:=Butt.of_below (R:=R) A3.out.fix.lt hbl4;clear hbl4
   have A4:=jD ha4;have B4:=jtt B3 hb4
   have XR4:=jbb XR3 HPR hb4
   have XT4:=jD (XT3.out.butt PXT.out hb4)
   have RW34:=jD (RW3.out.butt HLT.out hb4)
   clear ha4 hb4
   refine jD ?_
   have TP:=jD (jac.mpr ⟨_,rfl,RW34.out⟩:synIn (offs w.heap.size [w.heap.size,w1.heap.size]) w4 (.mk 3 ea ⟨#[]⟩ 0 x3) (.agg #[.int .i64 3,.int .i64 ea,.string ⟨#[]⟩,.int .i64 0,.slice o3 x3.length c3]))
   have H5T:Hid (w4.heap.size≠w1.heap.size):=jD (fun e=>by have:=XT4.out.lt;omega)
   have A4a1:=jD (A4.out.alloc (Obj.cells #[.int .i64 3,.int .i64 ea,.string ⟨#[]⟩,.int .i64 0,.slice o3 x3.length c3] 25));have B4a1:=jD (B4.out.alloc HRW.out (Obj.cells #[.int .i64 3,.int .i64 ea,.string ⟨#[]⟩,.int .i64 0,.slice o3 x3.length c3] 25))
   have XR4a1:=jD (XR4.out.alloc (Obj.cells #[.int .i64 3,.int .i64 ea,.string ⟨#[]⟩,.int .i64 0,.slice o3 x3.length c3] 25))
   have XT4a1:=jD (XT4.out.alloc (Obj.cells #[.int .i64 3,.int .i64 ea,.string ⟨#[]⟩,.int .i64 0,.slice o3 x3.length c3] 25))
   have TP4a1:=jD (TP.out.butt HLT.out (Butt.of_below A4.out.fix.lt (jN (Obj.cells #[.int .i64 3,.int .i64 ea,.string ⟨#[]⟩,.int .i64 0,.slice o3 x3.length c3] 25))))
   have PX5:=nR A4.out.fix.lt
   have X54a1:=jD (Bx5.new w4 (.int .i64 3) (.int .i64 ea) (.string ⟨#[]⟩) (.int .i64 0) (.slice o3 x3.length c3))
   go_wp2_with (go_at_call 35;refine jX (jaE A4a1.out ⟨#[58,61]⟩) B4a1 XR4a1 HPR fun w5 A5 B5 XR5 hb5=>?_)
   have XT5:=jD (XT4a1.out.butt PXT.out hb5)
   have X55:=jD (X54a1.out.butt PX5.out hb5)
   have TP5:=jD (TP4a1.out.butt HLT.out hb5)
   clear hb5
   refine jD ?_
   have KRR:=jD (fun W (H:At R L W d (jad (tIs L s3 ⟨#[58,61]⟩) s3))=>KQ.out _ (Nat.le_trans jb8 (Run.rem HS3.out)) W H)
   go_wp2_with fail
   have AD:=jD (A5.out.below (Below.refl _ _).drew);have BD:=jD (B5.out.drew)
   have XRD:=jD (XR5.out.below (Below.refl _ _).drew)
   have XTD:=jD (XT5.out.below (Below.refl _ _).drew)
   have X5D:=jD (X55.out.below (Below.refl _ _).drew)
   have TPD:=jD (TP5.out.butt HLT.out (Butt.refl R w5).drew)
   have HLW:Hid (w.heap.size≤w5.heap.size):=jD (Nat.le_trans (jrr _) B5.out.size)
   obtain⟨yX50,yX51,yX52,yX53,yX54,-,-⟩:=X55.out
   go_region_with (first|(go_at_call 135;(with_reducible first|refine(KRR.out _ A5.out).mono ?_|refine(KRR.out _ AD.out).mono ?_);rintro e w6 ⟨x6,v6,s6,rfl,hx6,hs6,ha6,hb6⟩;obtain⟨k6,a6,t6,n6,o6,l6,c6,q6,rfl,rfl,hk6⟩:=hx6.shape;have HS6:=jD hs6;have A6:=jD ha6;have B6:=jD ((by with_reducible first|exact B5.out.trans hb6|exact BD.out.trans hb6):Butt R w w6);have TR6:=jD ((by first|exact synIn.of (ps:=[w.heap.size,w1.heap.size]) hx6 HLW.out (fun p hp=>by simp only[List.mem_cons,List.not_mem_nil,or_false] at hp;have g0:=XR5.out.lt;have g1:=XT5.out.lt;omega)|exact synIn.of (ps:=[w.heap.size,w1.heap.size]) (show synAt w5.heap.size w6 _ _ from hx6) HLW.out (fun p hp=>by simp only[List.mem_cons,List.not_mem_nil,or_false] at hp;have g0:=XR5.out.lt;have g1:=XT5.out.lt;omega)):synIn (offs w.heap.size [w.heap.size,w1.heap.size]) w6 (.mk k6 a6 t6 n6 q6) (.agg #[.int .i64 k6,.int .i64 a6,.string t6,.int .i64 n6,.slice o6 l6 c6]));have XR6:=jD ((by with_reducible first|exact XR5.out.butt HPR.out hb6|exact XRD.out.butt HPR.out hb6):Bx5 w6 w.heap.size (.int .i64 0) (.int .i64 0) (.string ⟨#[]⟩) (.int .i64 0) (.slice none 0 0));have XT6:=jD ((by with_reducible first|exact XT5.out.butt PXT.out hb6|exact XTD.out.butt PXT.out hb6):Bx5 w6 (w1.heap.size) (.int .i64 0) (.int .i64 0) (.string ⟨#[]⟩) (.int .i64 0) (.slice none 0 0));have X56:=jD ((by with_reducible first|exact X55.out.butt PX5.out hb6|exact X5D.out.butt PX5.out hb6):Bx5 w6 (w4.heap.size) (.int .i64 3) (.int .i64 ea) (.string ⟨#[]⟩) (.int .i64 0) (.slice o3 x3.length c3));have TP6:=jD ((by with_reducible first|exact TP5.out.butt HLT.out hb6|exact TPD.out.butt HLT.out hb6):synIn (offs w.heap.size [w.heap.size,w1.heap.size]) w6 (.mk 3 ea ⟨#[]⟩ 0 x3) (.agg #[.int .i64 3,.int .i64 ea,.string ⟨#[]⟩,.int .i64 0,.slice o3 x3.length c3]));have uX50:=X56.out.c0;have uX51:=X56.out.c1;have uX52:=X56.out.c2;have uX53:=X56.out.c3;have uX54:=X56.out.c4;have lX5:=X56.out.lt;have mX5:=Nat.ne_of_lt lX5;skip;clear ha6 hb6 hx6 hk6 hs6)|(go_at_call 40;refine(jau _ _ _ _ _ _ _).mono ?_;rintro e w7 ⟨rfl,hb7⟩;have HBR:=jD hb7;have hbx:Below w6.heap.size w6 w7:=Below.chain (jN _) hb7;have HBX:=jD hbx;obtain⟨g0,g1,g2,g3,g4,gf,gl⟩:=XT6.out.below hbx;have gf0:=gf 0;have gf1:=gf 1;have gf2:=gf 2;have gf3:=gf 3;have gf4:=gf 4;clear gf gl hbx hb7))
   all_goals
    have hAw:offs w.heap.size [w.heap.size,w1.heap.size] w6.heap.size:=⟨Nat.le_trans (jrr _) B6.out.size,fun hp=>by simp only[List.mem_cons,List.not_mem_nil,or_false] at hp;have g0:=XR6.out.lt;have g1:=XT6.out.lt;omega⟩
    have KI:=jD (jaw (flatIn.cons (TP6.out) (flatIn.one (TR6.out))) (by simp) hAw 2 rfl);clear hAw
    have TN:=jD (jac.mpr ⟨_,rfl,KI.out.below HBR.out⟩:synIn (offs w.heap.size [w.heap.size,w1.heap.size]) w7 (.mk 9 ea ⟨#[]⟩ 0 [(.mk 3 ea ⟨#[]⟩ 0 x3),(.mk k6 a6 t6 n6 q6)]) _)
    have AN:=jD (A6.out.below HBX.out);have BN:=jD (B6.out.trans (Butt.of_below A6.out.fix.lt HBX.out));have XN:=jD (XT6.out.below HBX.out)
    have FT:=jD (ja4 HA0.out BN.out AN.out XN.out HB1.out (.int .i64 9) (.int .i64 ea) (.string ⟨#[]⟩) (.int .i64 0) (.slice (some ⟨w6.heap.size,0,none⟩) 2 2) _ rfl)
    clear g0 g1 g2 g3 g4 gf0 gf1 gf2 gf3 gf4
    have XRN:=jD (XR6.out.below HBX.out)
    have XTN:=jD (XT6.out.below HBX.out)
    have X5N:=jD (X56.out.below HBX.out)
    have A7s:=jD FT.out.2.1;have B7s:=jD FT.out.2.2.1;have XT7s:=jD FT.out.1
    have XR7s:=jD (XRN.out.kept H1P.out FT.out.2.2.2)
    have X57s:=jD (X5N.out.kept H5T.out FT.out.2.2.2)
    have TS7:=jD ((TN.out).kept (by simp) FT.out.2.2.2)
    clear FT
    go_wp2_with (go_at_call 35;refine jX (jaE A7s.out ⟨#[59]⟩) B7s XR7s HPR fun w8 A8 B8 XR8 hb8=>?_)
    have XT8:=jD (XT7s.out.butt PXT.out hb8)
    have X58:=jD (X57s.out.butt PX5.out hb8)
    have TS78:=jD (TS7.out.butt HLT.out hb8)
    clear hb8
    refine jD ?_
    obtain⟨yXT0,yXT1,yXT2,yXT3,yXT4,-,-⟩:=XT8.out
    have FT:=jD (ja4 HA0.out B8.out A8.out XR8.out (jrr _) (.int .i64 9) (.int .i64 ea) (.string ⟨#[]⟩) (.int .i64 0) (.slice (some ⟨w6.heap.size,0,none⟩) 2 2) _ rfl)
    have GX:=jD ((TS78.out).kept (by simp) FT.out.2.2.2).at
    obtain⟨yXR0,yXR1,yXR2,yXR3,yXR4,fXR0,fXR1,fXR2,fXR3,fXR4⟩:=bF XR8.out
    obtain⟨r0,r1,r2,r3,r4⟩:=FT.out.1
    have GA:=jD FT.out.2.1;have GB:=jD FT.out.2.2.1
    clear FT
    go_wp2
    refine bodyPost_ret (by simp[results,Tryz.results102,go_sem,r0,r1,r2,r3,r4];rfl) rfl ?_
    exact⟨_,_,_,rfl,GX.out,HM.out _ _ _ _ HS3.out HS6.out,GA.out,GB.out⟩
end Go.Proofs.YtenmmmdnpglkoaaGreatDoor
