import Derived.Test.YtenmmmdnpglkoaaGreatDoorCut11
set_option linter.unusedSimpArgs false
set_option linter.unusedVariables false
set_option maxRecDepth 100000
set_option maxHeartbeats 8000000
/-
 parser: list, listBefore.
-/
namespace Go.Proofs.YtenmmmdnpglkoaaGreatDoor
open Go Go.Proofs Go.RowKit Go.Sort
abbrev PL (R:Nat) (L:List Tk) (wnt:Want) (d:Nat) (st:RSt) (W:World):Ending→World→Prop:=fun e W'=>
 ∃ xs v st',e = .returned v∧ownT W.heap.size W' xs v∧xs.length≤st.rem+1∧Stp wnt d st xs st'∧At R L W' d st'∧Butt R W W'
def GL (f:Nat) (R:Nat) (L:List Tk) (args:Array Value) (wnt:Want) (d:Nat) (st:RSt):Prop:=∀ W:World,At R L W d st→Calls Tryz.prog f args W (PL R L wnt d st W)
theorem At.rem {R d:Nat} {L:List Tk} {W:World} {st:RSt} (h:At R L W d st):st.rem≤100000:=by
 have hl:=h.fix.toks.len
 obtain⟨nx,a,er,h1,h2,h3⟩:=h.rs
 rcases h3 with ⟨-,-,rfl⟩|⟨-,-,rfl⟩
 ·show (L.drop nx).length≤_
  rw[List.length_drop]
  omega
 ·exact Nat.zero_le _
theorem At.grow {R d0 d:Nat} {L:List Tk} {st0 st:RSt} {w W W':World} (h0:At R L w d0 st0) (ha:At R L W d st) (hb:Butt R w W) (hg:Below w.heap.size W W'):At R L W' d st∧Butt R w W':=by
 have hR:=h0.fix.lt
 have hbt:Butt R w W':=⟨hg.os.trans hb.os,hg.tape.trans hb.tape,hg.output.trans hb.output,Nat.le_trans hb.size hg.size,fun k hk hr=>(hg.block k hk).trans (hb.block k hk hr),fun j hj=>(hg.cell (p:=⟨R,j,none⟩) hR).trans (hb.own j hj)⟩
 refine⟨⟨h0.fix.butt hbt,?_⟩,hbt⟩
 obtain⟨nx0,a0,er0,-,g2,-⟩:=h0.rs
 obtain⟨nx,a,er,h1,h2,h3⟩:=ha.rs
 exact⟨nx,a,er,h1,g2.later hbt ((hg.cell (p:=⟨R,1,none⟩) hR).trans h2.c1) ((hg.cell (p:=⟨R,2,none⟩) hR).trans h2.c2) ((hg.cell (p:=⟨R,3,none⟩) hR).trans h2.c3) ((hg.cell (p:=⟨R,4,none⟩) hR).trans h2.c4) (fun j=>(hg.frozen (p:=⟨R,j,none⟩) hR).trans (h2.free j)),h3⟩
theorem ownT.one {lo:Nat} {W:World} {x:Syn} {v0 v1 v2 v3 v4:Value} (hx:synAt lo W x (.agg #[v0,v1,v2,v3,v4])) (hl:lo≤W.heap.size) :
  ownT lo (W.alloc (Obj.cells #[v0,v1,v2,v3,v4] 25)) [x] (.slice (some ⟨W.heap.size,0,none⟩) 1 1):=by
 refine⟨[v0,v1,v2,v3,v4],⟨rfl,.inr ⟨W.heap.size,1,#[v0,v1,v2,v3,v4],rfl,hl,?_,jrr _,by decide,rfl,rfl⟩⟩,?_⟩
 ·show (W.heap.push _)[W.heap.size]? = _
  exact Array.getElem?_push_size
 ·have hb:=(Below.refl W.heap.size W).alloc (jrr _) (Obj.cells #[v0,v1,v2,v3,v4] 25)
  exact flatIn.one (synIn.keep ⟨hb.size,fun k _ h=>hb.block k h⟩ (fun k hk h=>⟨hk,fun e=>by
   have:W.heap.size=k:=by cases e;rfl
   omega⟩) x _ (jcC x _ |>.mpr hx))
theorem ownT.off {lo l2:Nat} {W W':World} {xs:List Syn} {v u:Value} {x:Syn} (h:ownT lo W xs v) (hl:W.heap.size≤l2) (hx:synAt l2 W' x u) (hlo:lo≤W.heap.size):synIn (jcm lo v) W' x u:=
 synIn.keep ⟨jrr _,fun _ _ _=>rfl⟩ (fun k hk _=>⟨by omega,fun e=>by have:=(h.lo k e).2;omega⟩) x u (jcC x u |>.mpr hx)
theorem synIn.below {A:Nat→Prop} {W W':World} {x:Syn} {u:Value} (h:synIn A W x u) (hb:Below W.heap.size W W'):synIn A W' x u:=synIn.keep ⟨hb.size,fun k _ h=>hb.block k h⟩ (fun _ h _=>h) x u h
def jcr:ByteArray:=⟨#[44]⟩
def jmk (L:List Tk) (w:Want) (d:Nat) (s:RSt) (ys:List Syn) (s':RSt):Prop:=(tIs L s jcr=false∧ys=[]∧s'=s)∨(tIs L s jcr=true∧Stp (.list w) d (jaq s) ys s')
theorem jbB {L:List Tk} (hL:TkL L) {w:Want} {d:Nat} {s s2 s':RSt} {y:Syn} {ys:List Syn} (h:Stp w d s [y] s2) (ht:jmk L w d s2 ys s'):Stp (.list w) d s (y::ys) s':=by
 cases s with
 |bad a e=>
  rw[show s2 = .bad a e from h] at ht
  rcases ht with ⟨-,-,h⟩|⟨h,-⟩
  ·exact h
  ·exact absurd ((jck hL (s:=[44]) (by decide)).symm.trans h) (by decide)
 |ok l=>
  rcases elS h with ⟨l1,rfl,h0,h1,N,hN⟩|⟨a,e,he,rfl,N,hN⟩
  ·rcases ht with ⟨hc,rfl,rfl⟩|⟨hc,ht⟩
   ·have hc:=(jaP L l1 [44]).symm.trans hc
    exact jcl h0 h1 N fun f hf=>by rw[jaf,hN f hf];simp[hc,bind,Except.bind,pure,Except.pure]
   ·have hc:=(jaP L l1 [44]).symm.trans hc
    have hl:=jat l1
    rcases elS ht with ⟨l2,rfl,g0,g1,M,hM⟩|⟨a,e,he,rfl,M,hM⟩
    ·exact jcl g0 (by omega) (max N M) fun f hf=>by rw[jaf,hN f (by omega)];simp[hc,hM f (by omega),bind,Except.bind,pure,Except.pure]
    ·exact jbj he (max N M) fun f hf=>by rw[jaf,hN f (by omega)];simp[hc,hM f (by omega),bind,Except.bind,pure,Except.pure]
  ·rcases ht with ⟨-,-,rfl⟩|⟨h,-⟩
   ·exact jbj he N fun f hf=>by rw[jaf,hN f (by omega)];rfl
   ·exact absurd ((jck hL (s:=[44]) (by decide)).symm.trans h) (by decide)
theorem jbI {L:List Tk} {s:RSt} (h:tIs L s jcr=true):(cur L s).t≠⟨#[]⟩:=by
 intro e
 have h2:=(jiY L s [44]).symm.trans h
 rw[e] at h2
 exact absurd h2 (by decide)
structure LstAt (R:Nat) (L:List Tk) (w:World) (d:Nat) (st:RSt) (wnt:Want) (wr:World) (s:RSt) (xs:List Syn) (v:Value):Prop where
 hat:At R L wr d s
 hb:Butt R w wr
 own:ownT w.heap.size wr xs v
 len:xs.length+s.rem≤st.rem+1
 srem:s.rem≤st.rem
 go:∀ ys s',jmk L wnt d s ys s'→Stp (.list wnt) d st (xs++ys) s'
theorem jhe {R:Nat} {L:List Tk} {d:Nat} {st:RSt} {w:World} (h:At R L w d st) (K:∀ s:RSt,s.rem≤st.rem→GT 131 R L #[.pointer (some ⟨R,0,none⟩)] .place d s) :
  Calls Tryz.prog 74 #[.pointer (some ⟨R,0,none⟩),.func (.func 131) #[.pointer (some ⟨R,0,none⟩)] #[]] w (PL R L (.list .place) d st w):=by
 have HTL:=jD h.fix.toks
 have KL:=jD K
 clear K
 have HA0:=jD h
 have HLT:=jD h.fix.lt;have HRW:=jD h.fix.lt
 have A0:=jD h;have B0:=jD (Butt.refl R w)
 clear h 
 go_enter Tryz.func74,Tryz.ntmps74
 go_wp2_with (go_at_call 131;refine cM (KL.out st (jrr _) _ A0) ?_;rintro e w1 ⟨x1,v1,s1,rfl,hx1,hs1,ha1,hb1⟩)
 obtain⟨k1,a1,t1,n1,o1,l1,c1,q1,rfl,rfl,hk1⟩:=hx1.shape
 have HS1:=jD hs1
 have TR1:=jD (synIn.of (ps:=[]) hx1 (Nat.le_trans (jrr _) B0.out.size) (by simp))
 have A1:=jD ha1;have B1:=jtt B0 hb1
 clear ha1 hb1 hx1 hk1 hs1
 refine jD ?_
 have OW:=jD (ownT.one TR1.out.at B1.out.size)
 have HR0:=jD (Run.rem HS1);have HRA:=jD A0.out.rem
 have A1a:=jD (A1.out.alloc (jO k1 a1 t1 n1 o1 l1 c1));have B1a:=jD (B1.out.alloc HRW (jO k1 a1 t1 n1 o1 l1 c1))
 have TR11a:=jww TR1 HLT A1.out.fix.lt (jO k1 a1 t1 n1 o1 l1 c1)
 go_wp2_with fail
 have HLP:Hid (LstAt R L w d st .place _ s1 _ _):=jD ⟨A1a.out,B1a.out,OW.out,by have:=HR0.out;simp only[List.length_cons,List.length_nil];omega,HR0.out,fun ys s' ht=>jbB HTL HS1 ht⟩
 go_loopw [5] (fun v wr=>∃ (s:RSt) (xs:List Syn) (ao:Option Addr) (c:Nat),v = .slice ao xs.length c∧LstAt R L w d st .place wr s xs v) (fun _ wr=>remW R L wr)
 case atStart=>exact⟨s1,_,_,_,rfl,HLP.out⟩
 case round=>
  obtain⟨s,xs,ao,c,rfl,hrel⟩:=hrel
  have CO:=jcB hrel.hat jcr
  unfold jcr at CO
  cases hb:tIs L s jcr with
  |true=>
   have hb':=hb;unfold jcr at hb'
   rw[hb'] at CO
   simp only[if_true] at CO
   have KO:=jD CO;have HBB:=jD hb;have HR:=jD hrel;clear CO hb hb'
   have HSR:Hid (s.rem≤st.rem):=jD HR.out.srem
   have A0:=jD hrel.hat;have B0:=jD hrel.hb;have OW:=jD hrel.own
   clear hrel
   go_wp2_with (go_at_call 76;refine cM (KO.out) ?_;rintro e w1 ⟨rfl,ha1,hb1⟩)
   have A1:=jD ha1;have B1:=jtt B0 hb1
   have OW1:=jD (OW.out.keep (jrr _) (hb1.froms HLT))
   clear ha1 hb1
   refine jD ?_
   go_wp2_with (go_at_call 131;refine cM (KL.out _ (Nat.le_trans (ja6 _) HSR) _ A1) ?_;rintro e w2 ⟨x2,v2,s2,rfl,hx2,hs2,ha2,hb2⟩)
   obtain⟨k2,a2,t2,n2,o2,l2,c2,q2,rfl,rfl,hk2⟩:=hx2.shape
   have HS2:=jD hs2
   have HOFF:=jD (OW1.out.off (jrr _) hx2 B1.out.size)
   have HLEN:Hid ((xs++[Syn.mk k2 a2 t2 n2 q2]).length+s2.rem≤st.rem+1):=jD (by
    obtain⟨l1,e1,e2,e3⟩:=rem_less HTL HR.out.hat (jbI HBB)
    have g1:=HR.out.len
    have g2:=Run.rem HS2
    rw[e1,show (RSt.ok l1).rem=l1.length from rfl] at g1
    rw[List.length_append,show [Syn.mk k2 a2 t2 n2 q2].length=1 from rfl]
    omega)
   have TR2:=jD (synIn.of (ps:=[]) hx2 (Nat.le_trans (jrr _) B1.out.size) (by simp))
   have A2:=jD ha2;have B2:=jtt B1 hb2
   have OW2:=jD (OW1.out.keep (jrr _) (hb2.froms HLT))
   clear ha2 hb2 hx2 hk2 hs2
   refine jD ?_
   have A2a:=jD (A2.out.alloc (jO k2 a2 t2 n2 o2 l2 c2));have B2a:=jD (B2.out.alloc HRW (jO k2 a2 t2 n2 o2 l2 c2))
   have TR22a:=jww TR2 HLT A2.out.fix.lt (jO k2 a2 t2 n2 o2 l2 c2)
   have OW2a:=jD (OW2.out.keep (jrr _) (From.of_below (jN (jO k2 a2 t2 n2 o2 l2 c2))))
   have HZ:=jD (HOFF.out.below (jN (jO k2 a2 t2 n2 o2 l2 c2)))
   have HL1:Hid (xs.length≤1200000):=jD (by have:=HR.out.len;have:=HRA.out;omega)
   have HB1:Hid (w.heap.size≤(w2.alloc (jO k2 a2 t2 n2 o2 l2 c2)).heap.size):=jD B2a.out.size
   go_wp2_with (first|(at_builtin;refine jag rfl (.tmp 11) (.tmp 14) rfl w.heap.size _ xs (by simp[Act.eval,Act.put]) OW2a HL1 HB1 w2.heap.size _ _ _ _ _ _ (by simp[Act.eval,Act.put]) HZ ⟨rfl,rfl,rfl,rfl,rfl⟩ (by go_cell) (by go_cell) (by go_cell) (by go_cell) (by go_cell) ?_;intro v9 ao9 cap9 w9 hv9 ho9 hg9;refine Hid.out ?_)|fail)
   subst hv9
   have hgr:=At.grow HA0 A2a B2a (jap hg9 (fun b e=>(OW2a.out.lo b e).1) HLT HB1)
   have HSR2:Hid (s2.rem≤st.rem):=jD (Nat.le_trans (Run.rem HS2) (Nat.le_trans (ja6 _) HSR))
   have HNX:Hid (LstAt R L w d st .place w9 s2 (xs++[.mk k2 a2 t2 n2 q2]) _):=jD ⟨hgr.1,hgr.2,ho9,HLEN.out,HSR2.out,fun ys s' ht=>by have e:=HR.out.go _ _ (.inr ⟨HBB.out,jbB HTL HS2 ht⟩);rw[List.append_assoc];exact e⟩
   clear hgr ho9 hg9
   refine jD ?_
   go_wp2
   go_roundw
   case rel=>exact⟨s2,xs++[.mk k2 a2 t2 n2 q2],ao9,cap9,by rw[List.length_append];rfl,HNX.out⟩
   case measure=>
    obtain⟨l1,e1,e2,e3⟩:=rem_less HTL HR.out.hat (jbI HBB)
    have g1:=jbr (e1 ▸ HR.out.hat)
    have g2:=jbv HNX.out.hat
    have g3:=Run.rem HS2
    rw[g1]
    omega
  |false=>
   have hb':=hb;unfold jcr at hb'
   rw[hb'] at CO
   simp only[Bool.false_eq_true,if_false] at CO
   have KO:=jD CO;have HBB:=jD hb;have HR:=jD hrel;clear CO hb hb'
   have A0:=jD hrel.hat;have B0:=jD hrel.hb;have OW:=jD hrel.own
   clear hrel
   go_wp2_with (go_at_call 76;refine cM (KO.out) ?_;rintro e w1 ⟨rfl,ha1,hb1⟩)
   have A1:=jD ha1;have B1:=jtt B0 hb1
   have OW1:=jD (OW.out.keep (jrr _) (hb1.froms HLT))
   clear ha1 hb1
   refine jD ?_
   go_wp2
   go_ret
   exact⟨xs,_,_,rfl,OW1.out,by have:=HR.out.len;omega,by have e:=HR.out.go _ _ (.inl ⟨HBB.out,rfl,rfl⟩);rw[List.append_nil] at e;exact e,A1.out,B1.out⟩
theorem jin {R:Nat} {L:List Tk} {d:Nat} {st:RSt} {w:World} (h:At R L w d st) (K:∀ s:RSt,s.rem≤st.rem→GT 75 R L #[.pointer (some ⟨R,0,none⟩)] .bare d s) :
  Calls Tryz.prog 74 #[.pointer (some ⟨R,0,none⟩),.func (.func 75) #[.pointer (some ⟨R,0,none⟩)] #[]] w (PL R L (.list .bare) d st w):=by
 have HTL:=jD h.fix.toks
 have KL:=jD K
 clear K
 have HA0:=jD h
 have HLT:=jD h.fix.lt;have HRW:=jD h.fix.lt
 have A0:=jD h;have B0:=jD (Butt.refl R w)
 clear h 
 go_enter Tryz.func74,Tryz.ntmps74
 go_wp2_with (go_at_call 75;refine cM (KL.out st (jrr _) _ A0) ?_;rintro e w1 ⟨x1,v1,s1,rfl,hx1,hs1,ha1,hb1⟩)
 obtain⟨k1,a1,t1,n1,o1,l1,c1,q1,rfl,rfl,hk1⟩:=hx1.shape
 have HS1:=jD hs1
 have TR1:=jD (synIn.of (ps:=[]) hx1 (Nat.le_trans (jrr _) B0.out.size) (by simp))
 have A1:=jD ha1;have B1:=jtt B0 hb1
 clear ha1 hb1 hx1 hk1 hs1
 refine jD ?_
 have OW:=jD (ownT.one TR1.out.at B1.out.size)
 have HR0:=jD (Run.rem HS1);have HRA:=jD A0.out.rem
 have A1a:=jD (A1.out.alloc (jO k1 a1 t1 n1 o1 l1 c1));have B1a:=jD (B1.out.alloc HRW (jO k1 a1 t1 n1 o1 l1 c1))
 have TR11a:=jww TR1 HLT A1.out.fix.lt (jO k1 a1 t1 n1 o1 l1 c1)
 go_wp2_with fail
 have HLP:Hid (LstAt R L w d st .bare _ s1 _ _):=jD ⟨A1a.out,B1a.out,OW.out,by have:=HR0.out;simp only[List.length_cons,List.length_nil];omega,HR0.out,fun ys s' ht=>jbB HTL HS1 ht⟩
 go_loopw [5] (fun v wr=>∃ (s:RSt) (xs:List Syn) (ao:Option Addr) (c:Nat),v = .slice ao xs.length c∧LstAt R L w d st .bare wr s xs v) (fun _ wr=>remW R L wr)
 case atStart=>exact⟨s1,_,_,_,rfl,HLP.out⟩
 case round=>
  obtain⟨s,xs,ao,c,rfl,hrel⟩:=hrel
  have CO:=jcB hrel.hat jcr
  unfold jcr at CO
  cases hb:tIs L s jcr with
  |true=>
   have hb':=hb;unfold jcr at hb'
   rw[hb'] at CO
   simp only[if_true] at CO
   have KO:=jD CO;have HBB:=jD hb;have HR:=jD hrel;clear CO hb hb'
   have HSR:Hid (s.rem≤st.rem):=jD HR.out.srem
   have A0:=jD hrel.hat;have B0:=jD hrel.hb;have OW:=jD hrel.own
   clear hrel
   go_wp2_with (go_at_call 76;refine cM (KO.out) ?_;rintro e w1 ⟨rfl,ha1,hb1⟩)
   have A1:=jD ha1;have B1:=jtt B0 hb1
   have OW1:=jD (OW.out.keep (jrr _) (hb1.froms HLT))
   clear ha1 hb1
   refine jD ?_
   go_wp2_with (go_at_call 75;refine cM (KL.out _ (Nat.le_trans (ja6 _) HSR) _ A1) ?_;rintro e w2 ⟨x2,v2,s2,rfl,hx2,hs2,ha2,hb2⟩)
   obtain⟨k2,a2,t2,n2,o2,l2,c2,q2,rfl,rfl,hk2⟩:=hx2.shape
   have HS2:=jD hs2
   have HOFF:=jD (OW1.out.off (jrr _) hx2 B1.out.size)
   have HLEN:Hid ((xs++[Syn.mk k2 a2 t2 n2 q2]).length+s2.rem≤st.rem+1):=jD (by
    obtain⟨l1,e1,e2,e3⟩:=rem_less HTL HR.out.hat (jbI HBB)
    have g1:=HR.out.len
    have g2:=Run.rem HS2
    rw[e1,show (RSt.ok l1).rem=l1.length from rfl] at g1
    rw[List.length_append,show [Syn.mk k2 a2 t2 n2 q2].length=1 from rfl]
    omega)
   have TR2:=jD (synIn.of (ps:=[]) hx2 (Nat.le_trans (jrr _) B1.out.size) (by simp))
   have A2:=jD ha2;have B2:=jtt B1 hb2
   have OW2:=jD (OW1.out.keep (jrr _) (hb2.froms HLT))
   clear ha2 hb2 hx2 hk2 hs2
   refine jD ?_
   have A2a:=jD (A2.out.alloc (jO k2 a2 t2 n2 o2 l2 c2));have B2a:=jD (B2.out.alloc HRW (jO k2 a2 t2 n2 o2 l2 c2))
   have TR22a:=jww TR2 HLT A2.out.fix.lt (jO k2 a2 t2 n2 o2 l2 c2)
   have OW2a:=jD (OW2.out.keep (jrr _) (From.of_below (jN (jO k2 a2 t2 n2 o2 l2 c2))))
   have HZ:=jD (HOFF.out.below (jN (jO k2 a2 t2 n2 o2 l2 c2)))
   have HL1:Hid (xs.length≤1200000):=jD (by have:=HR.out.len;have:=HRA.out;omega)
   have HB1:Hid (w.heap.size≤(w2.alloc (jO k2 a2 t2 n2 o2 l2 c2)).heap.size):=jD B2a.out.size
   go_wp2_with (first|(at_builtin;refine jag rfl (.tmp 11) (.tmp 14) rfl w.heap.size _ xs (by simp[Act.eval,Act.put]) OW2a HL1 HB1 w2.heap.size _ _ _ _ _ _ (by simp[Act.eval,Act.put]) HZ ⟨rfl,rfl,rfl,rfl,rfl⟩ (by go_cell) (by go_cell) (by go_cell) (by go_cell) (by go_cell) ?_;intro v9 ao9 cap9 w9 hv9 ho9 hg9;refine Hid.out ?_)|fail)
   subst hv9
   have hgr:=At.grow HA0 A2a B2a (jap hg9 (fun b e=>(OW2a.out.lo b e).1) HLT HB1)
   have HSR2:Hid (s2.rem≤st.rem):=jD (Nat.le_trans (Run.rem HS2) (Nat.le_trans (ja6 _) HSR))
   have HNX:Hid (LstAt R L w d st .bare w9 s2 (xs++[.mk k2 a2 t2 n2 q2]) _):=jD ⟨hgr.1,hgr.2,ho9,HLEN.out,HSR2.out,fun ys s' ht=>by have e:=HR.out.go _ _ (.inr ⟨HBB.out,jbB HTL HS2 ht⟩);rw[List.append_assoc];exact e⟩
   clear hgr ho9 hg9
   refine jD ?_
   go_wp2
   go_roundw
   case rel=>exact⟨s2,xs++[.mk k2 a2 t2 n2 q2],ao9,cap9,by rw[List.length_append];rfl,HNX.out⟩
   case measure=>
    obtain⟨l1,e1,e2,e3⟩:=rem_less HTL HR.out.hat (jbI HBB)
    have g1:=jbr (e1 ▸ HR.out.hat)
    have g2:=jbv HNX.out.hat
    have g3:=Run.rem HS2
    rw[g1]
    omega
  |false=>
   have hb':=hb;unfold jcr at hb'
   rw[hb'] at CO
   simp only[Bool.false_eq_true,if_false] at CO
   have KO:=jD CO;have HBB:=jD hb;have HR:=jD hrel;clear CO hb hb'
   have A0:=jD hrel.hat;have B0:=jD hrel.hb;have OW:=jD hrel.own
   clear hrel
   go_wp2_with (go_at_call 76;refine cM (KO.out) ?_;rintro e w1 ⟨rfl,ha1,hb1⟩)
   have A1:=jD ha1;have B1:=jtt B0 hb1
   have OW1:=jD (OW.out.keep (jrr _) (hb1.froms HLT))
   clear ha1 hb1
   refine jD ?_
   go_wp2
   go_ret
   exact⟨xs,_,_,rfl,OW1.out,by have:=HR.out.len;omega,by have e:=HR.out.go _ _ (.inl ⟨HBB.out,rfl,rfl⟩);rw[List.append_nil] at e;exact e,A1.out,B1.out⟩
theorem jcs {R:Nat} {L:List Tk} {d:Nat} {st:RSt} {w:World} (h:At R L w d st) (K:∀ s:RSt,s.rem≤st.rem→GT 112 R L #[.pointer (some ⟨R,0,none⟩)] .param d s) :
  Calls Tryz.prog 74 #[.pointer (some ⟨R,0,none⟩),.func (.func 112) #[.pointer (some ⟨R,0,none⟩)] #[]] w (PL R L (.list .param) d st w):=by
 have HTL:=jD h.fix.toks
 have KL:=jD K
 clear K
 have HA0:=jD h
 have HLT:=jD h.fix.lt;have HRW:=jD h.fix.lt
 have A0:=jD h;have B0:=jD (Butt.refl R w)
 clear h 
 go_enter Tryz.func74,Tryz.ntmps74
 go_wp2_with (go_at_call 112;refine cM (KL.out st (jrr _) _ A0) ?_;rintro e w1 ⟨x1,v1,s1,rfl,hx1,hs1,ha1,hb1⟩)
 obtain⟨k1,a1,t1,n1,o1,l1,c1,q1,rfl,rfl,hk1⟩:=hx1.shape
 have HS1:=jD hs1
 have TR1:=jD (synIn.of (ps:=[]) hx1 (Nat.le_trans (jrr _) B0.out.size) (by simp))
 have A1:=jD ha1;have B1:=jtt B0 hb1
 clear ha1 hb1 hx1 hk1 hs1
 refine jD ?_
 have OW:=jD (ownT.one TR1.out.at B1.out.size)
 have HR0:=jD (Run.rem HS1);have HRA:=jD A0.out.rem
 have A1a:=jD (A1.out.alloc (jO k1 a1 t1 n1 o1 l1 c1));have B1a:=jD (B1.out.alloc HRW (jO k1 a1 t1 n1 o1 l1 c1))
 have TR11a:=jww TR1 HLT A1.out.fix.lt (jO k1 a1 t1 n1 o1 l1 c1)
 go_wp2_with fail
 have HLP:Hid (LstAt R L w d st .param _ s1 _ _):=jD ⟨A1a.out,B1a.out,OW.out,by have:=HR0.out;simp only[List.length_cons,List.length_nil];omega,HR0.out,fun ys s' ht=>jbB HTL HS1 ht⟩
 go_loopw [5] (fun v wr=>∃ (s:RSt) (xs:List Syn) (ao:Option Addr) (c:Nat),v = .slice ao xs.length c∧LstAt R L w d st .param wr s xs v) (fun _ wr=>remW R L wr)
 case atStart=>exact⟨s1,_,_,_,rfl,HLP.out⟩
 case round=>
  obtain⟨s,xs,ao,c,rfl,hrel⟩:=hrel
  have CO:=jcB hrel.hat jcr
  unfold jcr at CO
  cases hb:tIs L s jcr with
  |true=>
   have hb':=hb;unfold jcr at hb'
   rw[hb'] at CO
   simp only[if_true] at CO
   have KO:=jD CO;have HBB:=jD hb;have HR:=jD hrel;clear CO hb hb'
   have HSR:Hid (s.rem≤st.rem):=jD HR.out.srem
   have A0:=jD hrel.hat;have B0:=jD hrel.hb;have OW:=jD hrel.own
   clear hrel
   go_wp2_with (go_at_call 76;refine cM (KO.out) ?_;rintro e w1 ⟨rfl,ha1,hb1⟩)
   have A1:=jD ha1;have B1:=jtt B0 hb1
   have OW1:=jD (OW.out.keep (jrr _) (hb1.froms HLT))
   clear ha1 hb1
   refine jD ?_
   go_wp2_with (go_at_call 112;refine cM (KL.out _ (Nat.le_trans (ja6 _) HSR) _ A1) ?_;rintro e w2 ⟨x2,v2,s2,rfl,hx2,hs2,ha2,hb2⟩)
   obtain⟨k2,a2,t2,n2,o2,l2,c2,q2,rfl,rfl,hk2⟩:=hx2.shape
   have HS2:=jD hs2
   have HOFF:=jD (OW1.out.off (jrr _) hx2 B1.out.size)
   have HLEN:Hid ((xs++[Syn.mk k2 a2 t2 n2 q2]).length+s2.rem≤st.rem+1):=jD (by
    obtain⟨l1,e1,e2,e3⟩:=rem_less HTL HR.out.hat (jbI HBB)
    have g1:=HR.out.len
    have g2:=Run.rem HS2
    rw[e1,show (RSt.ok l1).rem=l1.length from rfl] at g1
    rw[List.length_append,show [Syn.mk k2 a2 t2 n2 q2].length=1 from rfl]
    omega)
   have TR2:=jD (synIn.of (ps:=[]) hx2 (Nat.le_trans (jrr _) B1.out.size) (by simp))
   have A2:=jD ha2;have B2:=jtt B1 hb2
   have OW2:=jD (OW1.out.keep (jrr _) (hb2.froms HLT))
   clear ha2 hb2 hx2 hk2 hs2
   refine jD ?_
   have A2a:=jD (A2.out.alloc (jO k2 a2 t2 n2 o2 l2 c2));have B2a:=jD (B2.out.alloc HRW (jO k2 a2 t2 n2 o2 l2 c2))
   have TR22a:=jww TR2 HLT A2.out.fix.lt (jO k2 a2 t2 n2 o2 l2 c2)
   have OW2a:=jD (OW2.out.keep (jrr _) (From.of_below (jN (jO k2 a2 t2 n2 o2 l2 c2))))
   have HZ:=jD (HOFF.out.below (jN (jO k2 a2 t2 n2 o2 l2 c2)))
   have HL1:Hid (xs.length≤1200000):=jD (by have:=HR.out.len;have:=HRA.out;omega)
   have HB1:Hid (w.heap.size≤(w2.alloc (jO k2 a2 t2 n2 o2 l2 c2)).heap.size):=jD B2a.out.size
   go_wp2_with (first|(at_builtin;refine jag rfl (.tmp 11) (.tmp 14) rfl w.heap.size _ xs (by simp[Act.eval,Act.put]) OW2a HL1 HB1 w2.heap.size _ _ _ _ _ _ (by simp[Act.eval,Act.put]) HZ ⟨rfl,rfl,rfl,rfl,rfl⟩ (by go_cell) (by go_cell) (by go_cell) (by go_cell) (by go_cell) ?_;intro v9 ao9 cap9 w9 hv9 ho9 hg9;refine Hid.out ?_)|fail)
   subst hv9
   have hgr:=At.grow HA0 A2a B2a (jap hg9 (fun b e=>(OW2a.out.lo b e).1) HLT HB1)
   have HSR2:Hid (s2.rem≤st.rem):=jD (Nat.le_trans (Run.rem HS2) (Nat.le_trans (ja6 _) HSR))
   have HNX:Hid (LstAt R L w d st .param w9 s2 (xs++[.mk k2 a2 t2 n2 q2]) _):=jD ⟨hgr.1,hgr.2,ho9,HLEN.out,HSR2.out,fun ys s' ht=>by have e:=HR.out.go _ _ (.inr ⟨HBB.out,jbB HTL HS2 ht⟩);rw[List.append_assoc];exact e⟩
   clear hgr ho9 hg9
   refine jD ?_
   go_wp2
   go_roundw
   case rel=>exact⟨s2,xs++[.mk k2 a2 t2 n2 q2],ao9,cap9,by rw[List.length_append];rfl,HNX.out⟩
   case measure=>
    obtain⟨l1,e1,e2,e3⟩:=rem_less HTL HR.out.hat (jbI HBB)
    have g1:=jbr (e1 ▸ HR.out.hat)
    have g2:=jbv HNX.out.hat
    have g3:=Run.rem HS2
    rw[g1]
    omega
  |false=>
   have hb':=hb;unfold jcr at hb'
   rw[hb'] at CO
   simp only[Bool.false_eq_true,if_false] at CO
   have KO:=jD CO;have HBB:=jD hb;have HR:=jD hrel;clear CO hb hb'
   have A0:=jD hrel.hat;have B0:=jD hrel.hb;have OW:=jD hrel.own
   clear hrel
   go_wp2_with (go_at_call 76;refine cM (KO.out) ?_;rintro e w1 ⟨rfl,ha1,hb1⟩)
   have A1:=jD ha1;have B1:=jtt B0 hb1
   have OW1:=jD (OW.out.keep (jrr _) (hb1.froms HLT))
   clear ha1 hb1
   refine jD ?_
   go_wp2
   go_ret
   exact⟨xs,_,_,rfl,OW1.out,by have:=HR.out.len;omega,by have e:=HR.out.go _ _ (.inl ⟨HBB.out,rfl,rfl⟩);rw[List.append_nil] at e;exact e,A1.out,B1.out⟩
theorem jem {R:Nat} {L:List Tk} {d:Nat} {st:RSt} {w:World} (h:At R L w d st) (K:∀ s:RSt,s.rem≤st.rem→GT 32 R L #[.pointer (some ⟨R,0,none⟩)] (.lvl 4) d s) :
  Calls Tryz.prog 74 #[.pointer (some ⟨R,0,none⟩),.func (.func 32) #[.pointer (some ⟨R,0,none⟩)] #[]] w (PL R L (.list (.lvl 4)) d st w):=by
 have HTL:=jD h.fix.toks
 have KL:=jD K
 clear K
 have HA0:=jD h
 have HLT:=jD h.fix.lt;have HRW:=jD h.fix.lt
 have A0:=jD h;have B0:=jD (Butt.refl R w)
 clear h 
 go_enter Tryz.func74,Tryz.ntmps74
 go_wp2_with (go_at_call 32;refine cM (KL.out st (jrr _) _ A0) ?_;rintro e w1 ⟨x1,v1,s1,rfl,hx1,hs1,ha1,hb1⟩)
 obtain⟨k1,a1,t1,n1,o1,l1,c1,q1,rfl,rfl,hk1⟩:=hx1.shape
 have HS1:=jD hs1
 have TR1:=jD (synIn.of (ps:=[]) hx1 (Nat.le_trans (jrr _) B0.out.size) (by simp))
 have A1:=jD ha1;have B1:=jtt B0 hb1
 clear ha1 hb1 hx1 hk1 hs1
 refine jD ?_
 have OW:=jD (ownT.one TR1.out.at B1.out.size)
 have HR0:=jD (Run.rem HS1);have HRA:=jD A0.out.rem
 have A1a:=jD (A1.out.alloc (jO k1 a1 t1 n1 o1 l1 c1));have B1a:=jD (B1.out.alloc HRW (jO k1 a1 t1 n1 o1 l1 c1))
 have TR11a:=jww TR1 HLT A1.out.fix.lt (jO k1 a1 t1 n1 o1 l1 c1)
 go_wp2_with fail
 have HLP:Hid (LstAt R L w d st (.lvl 4) _ s1 _ _):=jD ⟨A1a.out,B1a.out,OW.out,by have:=HR0.out;simp only[List.length_cons,List.length_nil];omega,HR0.out,fun ys s' ht=>jbB HTL HS1 ht⟩
 go_loopw [5] (fun v wr=>∃ (s:RSt) (xs:List Syn) (ao:Option Addr) (c:Nat),v = .slice ao xs.length c∧LstAt R L w d st (.lvl 4) wr s xs v) (fun _ wr=>remW R L wr)
 case atStart=>exact⟨s1,_,_,_,rfl,HLP.out⟩
 case round=>
  obtain⟨s,xs,ao,c,rfl,hrel⟩:=hrel
  have CO:=jcB hrel.hat jcr
  unfold jcr at CO
  cases hb:tIs L s jcr with
  |true=>
   have hb':=hb;unfold jcr at hb'
   rw[hb'] at CO
   simp only[if_true] at CO
   have KO:=jD CO;have HBB:=jD hb;have HR:=jD hrel;clear CO hb hb'
   have HSR:Hid (s.rem≤st.rem):=jD HR.out.srem
   have A0:=jD hrel.hat;have B0:=jD hrel.hb;have OW:=jD hrel.own
   clear hrel
   go_wp2_with (go_at_call 76;refine cM (KO.out) ?_;rintro e w1 ⟨rfl,ha1,hb1⟩)
   have A1:=jD ha1;have B1:=jtt B0 hb1
   have OW1:=jD (OW.out.keep (jrr _) (hb1.froms HLT))
   clear ha1 hb1
   refine jD ?_
   go_wp2_with (go_at_call 32;refine cM (KL.out _ (Nat.le_trans (ja6 _) HSR) _ A1) ?_;rintro e w2 ⟨x2,v2,s2,rfl,hx2,hs2,ha2,hb2⟩)
   obtain⟨k2,a2,t2,n2,o2,l2,c2,q2,rfl,rfl,hk2⟩:=hx2.shape
   have HS2:=jD hs2
   have HOFF:=jD (OW1.out.off (jrr _) hx2 B1.out.size)
   have HLEN:Hid ((xs++[Syn.mk k2 a2 t2 n2 q2]).length+s2.rem≤st.rem+1):=jD (by
    obtain⟨l1,e1,e2,e3⟩:=rem_less HTL HR.out.hat (jbI HBB)
    have g1:=HR.out.len
    have g2:=Run.rem HS2
    rw[e1,show (RSt.ok l1).rem=l1.length from rfl] at g1
    rw[List.length_append,show [Syn.mk k2 a2 t2 n2 q2].length=1 from rfl]
    omega)
   have TR2:=jD (synIn.of (ps:=[]) hx2 (Nat.le_trans (jrr _) B1.out.size) (by simp))
   have A2:=jD ha2;have B2:=jtt B1 hb2
   have OW2:=jD (OW1.out.keep (jrr _) (hb2.froms HLT))
   clear ha2 hb2 hx2 hk2 hs2
   refine jD ?_
   have A2a:=jD (A2.out.alloc (jO k2 a2 t2 n2 o2 l2 c2));have B2a:=jD (B2.out.alloc HRW (jO k2 a2 t2 n2 o2 l2 c2))
   have TR22a:=jww TR2 HLT A2.out.fix.lt (jO k2 a2 t2 n2 o2 l2 c2)
   have OW2a:=jD (OW2.out.keep (jrr _) (From.of_below (jN (jO k2 a2 t2 n2 o2 l2 c2))))
   have HZ:=jD (HOFF.out.below (jN (jO k2 a2 t2 n2 o2 l2 c2)))
   have HL1:Hid (xs.length≤1200000):=jD (by have:=HR.out.len;have:=HRA.out;omega)
   have HB1:Hid (w.heap.size≤(w2.alloc (jO k2 a2 t2 n2 o2 l2 c2)).heap.size):=jD B2a.out.size
   go_wp2_with (first|(at_builtin;refine jag rfl (.tmp 11) (.tmp 14) rfl w.heap.size _ xs (by simp[Act.eval,Act.put]) OW2a HL1 HB1 w2.heap.size _ _ _ _ _ _ (by simp[Act.eval,Act.put]) HZ ⟨rfl,rfl,rfl,rfl,rfl⟩ (by go_cell) (by go_cell) (by go_cell) (by go_cell) (by go_cell) ?_;intro v9 ao9 cap9 w9 hv9 ho9 hg9;refine Hid.out ?_)|fail)
   subst hv9
   have hgr:=At.grow HA0 A2a B2a (jap hg9 (fun b e=>(OW2a.out.lo b e).1) HLT HB1)
   have HSR2:Hid (s2.rem≤st.rem):=jD (Nat.le_trans (Run.rem HS2) (Nat.le_trans (ja6 _) HSR))
   have HNX:Hid (LstAt R L w d st (.lvl 4) w9 s2 (xs++[.mk k2 a2 t2 n2 q2]) _):=jD ⟨hgr.1,hgr.2,ho9,HLEN.out,HSR2.out,fun ys s' ht=>by have e:=HR.out.go _ _ (.inr ⟨HBB.out,jbB HTL HS2 ht⟩);rw[List.append_assoc];exact e⟩
   clear hgr ho9 hg9
   refine jD ?_
   go_wp2
   go_roundw
   case rel=>exact⟨s2,xs++[.mk k2 a2 t2 n2 q2],ao9,cap9,by rw[List.length_append];rfl,HNX.out⟩
   case measure=>
    obtain⟨l1,e1,e2,e3⟩:=rem_less HTL HR.out.hat (jbI HBB)
    have g1:=jbr (e1 ▸ HR.out.hat)
    have g2:=jbv HNX.out.hat
    have g3:=Run.rem HS2
    rw[g1]
    omega
  |false=>
   have hb':=hb;unfold jcr at hb'
   rw[hb'] at CO
   simp only[Bool.false_eq_true,if_false] at CO
   have KO:=jD CO;have HBB:=jD hb;have HR:=jD hrel;clear CO hb hb'
   have A0:=jD hrel.hat;have B0:=jD hrel.hb;have OW:=jD hrel.own
   clear hrel
   go_wp2_with (go_at_call 76;refine cM (KO.out) ?_;rintro e w1 ⟨rfl,ha1,hb1⟩)
   have A1:=jD ha1;have B1:=jtt B0 hb1
   have OW1:=jD (OW.out.keep (jrr _) (hb1.froms HLT))
   clear ha1 hb1
   refine jD ?_
   go_wp2
   go_ret
   exact⟨xs,_,_,rfl,OW1.out,by have:=HR.out.len;omega,by have e:=HR.out.go _ _ (.inl ⟨HBB.out,rfl,rfl⟩);rw[List.append_nil] at e;exact e,A1.out,B1.out⟩
end Go.Proofs.YtenmmmdnpglkoaaGreatDoor

namespace Go.Proofs.YtenmmmdnpglkoaaGreatDoor
open Go Go.Proofs Go.RowKit
abbrev Rd (α : Type):=Nat→List Tk→Except (Int×Nat) (α×List Tk)
def jbm:Rd Tk:=fun _ l=>.ok (pHd l,l)
def jbg:Rd Tk:=fun _ l=>.ok (pHd l,pTl l)
def mIs (s:List UInt8):Rd Bool:=fun _ l=>.ok (pIs s l,l)
def jbV:Rd (List UInt8):=fun _ l=>.ok (jbU l,l)
def jbe:Rd Bool:=fun _ l=>.ok (ja5 (pHd l),l)
def jbd:Rd Tk:=fun _ l=>jaW l
def jaA (s:List UInt8):Rd Tk:=fun _ l=>if pIs s l=true then .ok (pHd l,pTl l) else .error ((pHd l).a,4)
def jaF (s:List UInt8) (d:Nat):Rd Tk:=fun _ l=>if pIs s l=true then (if d=64 then .error ((pHd l).a,12) else .ok (pHd l,pTl l)) else .error ((pHd l).a,4)
def mNum:Rd Int:=fun _ l=>if (pHd l).k=1 then (if 1048576<pNum (bytes (pHd l).t) then .error ((pHd l).a,2) else .ok ((pNum (bytes (pHd l).t):Int),pTl l)) else .error ((pHd l).a,4)
def jal (w:Want) (d:Nat):Rd (List Syn):=fun f l=>jaf f w d l
def mRet {α : Type} (x:α):Rd α:=fun _ l=>.ok (x,l)
def jae {α β : Type} (m:Rd α) (k:α→Rd β):Rd β:=fun f l=>m f l >>= fun p=>k p.1 f p.2
section
variable {α β : Type} {m:Rd α} {st s1 s2:RSt} {x:α} {y:β} {L:List Tk} {d:Nat}
theorem Run.bind {k:α→Rd β} (h:Run m st x s1) (g:Run (k x) s1 y s2):Run (jae m k) st y s2:=by
 cases st with
 |bad a e=>rw[show s1 = .bad a e from h] at g;exact g
 |ok l=>
  rcases h with ⟨l1,rfl,h0,h1,N,hN⟩|⟨a,e,he,rfl,N,hN⟩
  ·rcases g with ⟨l2,rfl,g0,g1,M,hM⟩|⟨a,e,he,rfl,M,hM⟩
   ·exact .inl ⟨l2,rfl,g0,Nat.le_trans g1 h1,max N M,fun f hf=>by show m f l >>= _=_;rw[hN f (by omega)];exact hM f (by omega)⟩
   ·exact .inr ⟨a,e,he,rfl,max N M,fun f hf=>by show m f l >>= _=_;rw[hN f (by omega)];exact hM f (by omega)⟩
  ·rw[show s2 = .bad a e from g]
   exact .inr ⟨a,e,he,rfl,N,fun f hf=>by show m f l >>= _=_;rw[hN f hf];rfl⟩
theorem Run.want {w:Want} {xs:List Syn} {m:Rd (List Syn)} (h:Run m st xs s1) (e:∀ f l,jaf (f+1) w d l=m f l):Stp w d st xs s1:=by
 cases st with
 |bad a e=>exact h
 |ok l=>
  rcases h with ⟨l1,rfl,h0,h1,N,hN⟩|⟨a,n,he,rfl,N,hN⟩
  ·exact jcl h0 h1 N fun f hf=>(e f l).trans (hN f hf)
  ·exact jbj he N fun f hf=>(e f l).trans (hN f hf)
theorem jby (hf:st.fine):Run jbm st (cur L st) st:=by
 cases st with
 |bad a e=>exact rfl
 |ok l=>exact .inl ⟨l,rfl,hf,jrr _,0,fun f _=>rfl⟩
theorem jaS (hf:st.fine):Run jbg st (cur L st) (jaq st):=by
 cases st with
 |bad a e=>exact rfl
 |ok l=>exact .inl ⟨pTl l,rfl,jaJ hf,jat l,0,fun f _=>rfl⟩
theorem jaM (hf:st.fine) (s:List UInt8):Run (mIs s) st (tIs L st ⟨s.toArray⟩) st:=by
 cases st with
 |bad a e=>exact rfl
 |ok l=>exact .inl ⟨l,rfl,hf,jrr _,0,fun f _=>by unfold mIs;rw[jaP]⟩
theorem jcZ (hf:st.fine):Run jbV st (bytes (jcx L st)) st:=by
 cases st with
 |bad a e=>exact rfl
 |ok l=>exact .inl ⟨l,rfl,hf,jrr _,0,fun f _=>rfl⟩
theorem jbn (hf:st.fine):Run jbe st (isN (cur L st)) st:=by
 cases st with
 |bad a e=>exact rfl
 |ok l=>exact .inl ⟨l,rfl,hf,jrr _,0,fun f _=>by unfold jbe;rw[jbW]⟩
theorem ja1 (hf:st.fine):Run (mRet x) st x st:=by
 cases st with
 |bad a e=>exact rfl
 |ok l=>exact .inl ⟨l,rfl,hf,jrr _,0,fun f _=>rfl⟩
theorem jda (hf:st.fine):Run jbd st (tokM L st (isN (cur L st))) (jad (isN (cur L st)) st):=by
 cases st with
 |bad a e=>exact rfl
 |ok l=>
  rw[jbW]
  cases hc:ja5 (pHd l) with
  |true=>exact .inl ⟨pTl l,rfl,jaJ hf,jat l,0,fun f _=>by unfold jbd jaW;rw[if_pos hc];rfl⟩
  |false=>exact .inr ⟨_,4,by decide,rfl,0,fun f _=>by unfold jbd jaW;rw[hc];rfl⟩
theorem jaI (hf:st.fine) (s:List UInt8):Run (jaA s) st (tokM L st (tIs L st ⟨s.toArray⟩)) (jad (tIs L st ⟨s.toArray⟩) st):=by
 cases st with
 |bad a e=>exact rfl
 |ok l=>
  rw[jaP]
  cases hc:pIs s l with
  |true=>exact .inl ⟨pTl l,rfl,jaJ hf,jat l,0,fun f _=>by unfold jaA;rw[if_pos hc];rfl⟩
  |false=>exact .inr ⟨_,4,by decide,rfl,0,fun f _=>by unfold jaA;rw[hc];rfl⟩
theorem jct (hf:st.fine) (s:List UInt8):Run (jaF s d) st (tokM L st (tIs L st ⟨s.toArray⟩)) (jaV L st d (tIs L st ⟨s.toArray⟩)):=by
 cases st with
 |bad a e=>unfold jaV;split<;>exact rfl
 |ok l=>
  rw[jaP]
  unfold jaV
  by_cases h64:d=64
  ·rw[if_pos h64]
   cases hc:pIs s l with
   |true=>exact .inr ⟨_,12,by decide,rfl,0,fun f _=>by unfold jaF;rw[if_pos hc,if_pos h64];rfl⟩
   |false=>exact .inr ⟨_,4,by decide,rfl,0,fun f _=>by unfold jaF;rw[hc];rfl⟩
  ·rw[if_neg h64]
   cases hc:pIs s l with
   |true=>exact .inl ⟨pTl l,rfl,jaJ hf,jat l,0,fun f _=>by unfold jaF;rw[if_pos hc,if_neg h64];rfl⟩
   |false=>exact .inr ⟨_,4,by decide,rfl,0,fun f _=>by unfold jaF;rw[hc];rfl⟩
theorem jah {can:Bool} (h:st.fine):(jad can st).fine:=by
 cases st with
 |bad a e=>exact h
 |ok l=>
  cases can with
  |true=>exact jaJ h
  |false=>exact(by decide:(4:Nat)≠0)
end
theorem ja8 {α β : Type} {m:Except (Int×Nat) α} {f g:α→Except (Int×Nat) β} (h:∀ a,f a=g a):(m >>= f)=(m >>= g):=by rw[show f=g from funext h]
theorem jaj {α β : Type} {c:Prop} [Decidable c] {a b:Except (Int×Nat) α} {k:α→Except (Int×Nat) β}:((if c then a else b) >>= k)=if c then a >>= k else b >>= k:=by split<;>rfl
theorem jai {α β γ : Type} {a:Except (Int×Nat) α} {f:α→Except (Int×Nat) β} {k:β→Except (Int×Nat) γ}:((a >>= f) >>= k)=(a >>= fun x=>f x >>= k):=by cases a<;>rfl
theorem jak {α β : Type} {a:α} {k:α→Except (Int×Nat) β}:((Except.ok a:Except (Int×Nat) α) >>= k)=k a:=rfl
theorem jab {α β : Type} {a:Int×Nat} {k:α→Except (Int×Nat) β}:((Except.error a:Except (Int×Nat) α) >>= k)=Except.error a:=rfl
theorem Run.ite {α : Type} {m k:Rd α} {st s1:RSt} {x:α} {c:Prop} [Decidable c] (h1:c→Run m st x s1) (h2:¬ c→Run k st x s1):Run (if c then m else k) st x s1:=by
 by_cases h:c
 ·rw[if_pos h];exact h1 h
 ·rw[if_neg h];exact h2 h
def jaB (s:List UInt8) (w:Want) (d:Nat):Rd (List Syn):=fun f l=>if pIs s l=true then .ok ([],l) else jaf f (.list w) d l
def LBef (L:List Tk) (s:ByteArray) (w:Want) (d:Nat) (st:RSt) (xs:List Syn) (st':RSt):Prop:=(tIs L st s=true∧xs=[]∧st'=st)∨(tIs L st s=false∧Stp (.list w) d st xs st')
theorem jco {L:List Tk} {st st':RSt} {s:List UInt8} {w:Want} {d:Nat} {xs:List Syn} (hf:st.fine) (h:LBef L ⟨s.toArray⟩ w d st xs st'):Run (jaB s w d) st xs st':=by
 cases st with
 |bad a e=>
  rcases h with ⟨-,-,h⟩|⟨-,h⟩
  ·exact h
  ·exact h
 |ok l=>
  rcases h with ⟨hc,rfl,rfl⟩|⟨hc,h⟩
  ·rw[jaP] at hc
   exact .inl ⟨l,rfl,hf,jrr _,0,fun f _=>by unfold jaB;rw[if_pos hc]⟩
  ·rw[jaP] at hc
   rcases elS h with ⟨l1,rfl,h0,h1,N,hN⟩|⟨a,e,he,rfl,N,hN⟩
   ·exact .inl ⟨l1,rfl,h0,h1,N,fun f hf=>by unfold jaB;rw[hc,if_neg Bool.false_ne_true];exact hN f hf⟩
   ·exact .inr ⟨a,e,he,rfl,N,fun f hf=>by unfold jaB;rw[hc,if_neg Bool.false_ne_true];exact hN f hf⟩
def jgv (d:Nat):Rd (List Syn):=jae jbd fun t=>jae (jaA [91]) fun _=>jae (jal (.lvl 4) d) fun p=>jae (jaA [93]) fun _=>mRet [.mk 16 t.a t.t 0 p]
def jfM (d:Nat):Rd (List Syn):=jae jbd fun t=>jae (jaA [40]) fun _=>jae (jaB [41] (.lvl 4) d) fun p=>jae (jaA [41]) fun _=>mRet [.mk 17 t.a t.t 0 p]
def jdG (d:Nat):Rd (List Syn):=jae (jaF [123] d) fun t=>jae (jal .stmts (d+1)) fun p=>jae (jaA [125]) fun _=>mRet [.mk 6 t.a ⟨#[]⟩ 0 p]
theorem jdU {d:Nat} (f:Nat) (l:List Tk):jaf (f+1) .load d l=jgv d f l:=by
 rw[jaf]
 simp only[jgv,jae,mRet,jbd,jaA,jal,jbm,jbg,jaF,mIs,jbe,jbV,jaB,jaQ,jaj,jak,jab,pure,Except.pure]
 repeat' (first|rfl|(split<;>try (simp only[*,jaj,jak,jab,if_true,if_false,Bool.false_eq_true]))|(refine ja8 ?_;rintro⟨_,_⟩;try simp only[jaj,jak,jab]))
theorem jdt {d:Nat} (f:Nat) (l:List Tk):jaf (f+1) .call d l=jfM d f l:=by
 rw[jaf]
 simp only[jfM,jae,mRet,jbd,jaA,jal,jbm,jbg,jaF,mIs,jbe,jbV,jaB,jaQ,jaj,jak,jab,pure,Except.pure]
 repeat' (first|rfl|(split<;>try (simp only[*,jaj,jak,jab,if_true,if_false,Bool.false_eq_true]))|(refine ja8 ?_;rintro⟨_,_⟩;try simp only[jaj,jak,jab]))
theorem jdb {d:Nat} (f:Nat) (l:List Tk):jaf (f+1) .block d l=jdG d f l:=by
 rw[jaf]
 simp only[jdG,jae,mRet,jbd,jaA,jal,jbm,jbg,jaF,mIs,jbe,jbV,jaB,jaQ,jaj,jak,jab,pure,Except.pure]
 repeat' (first|rfl|(split<;>try (simp only[*,jaj,jak,jab,if_true,if_false,Bool.false_eq_true]))|(refine ja8 ?_;rintro⟨_,_⟩;try simp only[jaj,jak,jab]))
section
variable {L:List Tk} {st s3:RSt} {d:Nat} {x:Syn} {xs:List Syn}
theorem jjc (hf:st.fine) (s1 s2:RSt) (h1:s1=jad (isN (cur L st)) st) (h2:s2=jad (tIs L s1 ⟨#[91]⟩) s1) (hx:Stp (.lvl 4) d s2 [x] s3) :
  Stp .load d st [.mk 16 (tokM L st (isN (cur L st))).a (tokM L st (isN (cur L st))).t 0 [x]] (jad (tIs L s3 ⟨#[93]⟩) s3):=by
 subst h1 h2
 have f1:(jad (isN (cur L st)) st).fine:=jah hf
 have f2:=jah (can:=tIs L (jad (isN (cur L st)) st) ⟨#[91]⟩) f1
 have f3:=Run.fine hx f2
 refine Run.want (m:=jgv d) ?_ jdU
 exact Run.bind (jda (L:=L) hf) (Run.bind (jaI f1 [91]) (Run.bind hx (Run.bind (jaI f3 [93]) (ja1 (jah f3)))))
theorem jl0 (hf:st.fine) (s1 s2:RSt) (h1:s1=jad (isN (cur L st)) st) (h2:s2=jad (tIs L s1 ⟨#[40]⟩) s1) (hx:LBef L ⟨#[41]⟩ (.lvl 4) d s2 xs s3) :
  Stp .call d st [.mk 17 (tokM L st (isN (cur L st))).a (tokM L st (isN (cur L st))).t 0 xs] (jad (tIs L s3 ⟨#[41]⟩) s3):=by
 subst h1 h2
 have f1:(jad (isN (cur L st)) st).fine:=jah hf
 have f2:=jah (can:=tIs L (jad (isN (cur L st)) st) ⟨#[40]⟩) f1
 have hr:=jco (s:=[41]) f2 hx
 have f3:=Run.fine hr f2
 refine Run.want (m:=jfM d) ?_ jdt
 exact Run.bind (jda (L:=L) hf) (Run.bind (jaI f1 [40]) (Run.bind hr (Run.bind (jaI f3 [41]) (ja1 (jah f3)))))
theorem jka (hf:st.fine) (s2:RSt) (hx:Stp .stmts (d+1) (jaV L st d (tIs L st ⟨#[123]⟩)) xs s2) :
  Stp .block d st [.mk 6 (tokM L st (tIs L st ⟨#[123]⟩)).a ⟨#[]⟩ 0 xs] (jad (tIs L s2 ⟨#[125]⟩) s2):=by
 have f1:=Run.fine (jct (L:=L) (d:=d) hf [123]) hf
 have f2:=Run.fine hx f1
 refine Run.want (m:=jdG d) ?_ jdb
 exact Run.bind (jct (L:=L) hf [123]) (Run.bind hx (Run.bind (jaI f2 [125]) (ja1 (jah f2))))
end
end Go.Proofs.YtenmmmdnpglkoaaGreatDoor
