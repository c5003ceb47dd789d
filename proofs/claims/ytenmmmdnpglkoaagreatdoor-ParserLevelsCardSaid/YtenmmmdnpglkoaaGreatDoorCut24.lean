import Derived.Test.YtenmmmdnpglkoaaGreatDoorCut23
set_option linter.unusedSimpArgs false
set_option linter.unusedVariables false
set_option maxRecDepth 100000
set_option maxHeartbeats 8000000
/-
 The reference's reader: operands with operators between them.
-/
namespace Go.Proofs.YtenmmmdnpglkoaaGreatDoor
open Go Go.Proofs Go.RowKit Go.Sort
def remR (R:Nat) (L:List Tk) (W:World):Nat:=match W.cell? ⟨R,3,none⟩,W.cell? ⟨R,1,none⟩ with
 |some (.int _ e),some (.int _ z)=>if e=0 then L.length-z.toNat else 0
 |_,_=>0
theorem jbw {R d:Nat} {L l:List Tk} {W:World} (h:Rf R L W d (.ok l)):remR R L W=l.length:=by
 obtain⟨hf,nx,op,er,a,h1,h2,h3⟩:=h
 rcases h3 with ⟨rfl,-,h3⟩|⟨-,e,-,h3⟩
 ·cases h3
  unfold remR
  rw[h2.c3,h2.c1]
  simp
 ·cases h3
theorem jb2 {R d:Nat} {L:List Tk} {W:World} {st:RSt} (h:Rf R L W d st):remR R L W≤st.rem:=by
 cases st with
 |ok l=>rw[jbw h];exact jrr _
 |bad a e=>
  obtain⟨hf,nx,op,er,a',h1,h2,h3⟩:=h
  rcases h3 with ⟨-,-,h3⟩|⟨he,e,-,h3⟩
  ·cases h3
  ·unfold remR
   rw[h2.c3,h2.c1]
   dsimp only
   rw[if_neg he]
   exact Nat.zero_le _
theorem Rf.rem_less {L l:List Tk} {R d:Nat} {W:World} (h:Rf R L W d (.ok l)) (hb:bytes (pHd l).t≠[]):(pTl l).length+1=l.length:=by
 obtain⟨hf,nx,op,er,a,h1,h2,h3⟩:=h
 rcases h3 with ⟨-,-,h3⟩|⟨-,e,-,h3⟩
 ·cases h3
  have hlt:nx+1<L.length:=by
   refine Nat.lt_of_not_le fun e=>hb ?_
   rw[jaO h1,show tkD L nx=jcL L by unfold jcL;congr 1;omega,hf.toks.toks.last.2]
   rfl
  rw[jdA h1,List.length_drop,List.length_drop]
  omega
 ·cases h3
theorem jhi {i:Nat} {l:List Tk} (h:pOp i l=true):bytes (pHd l).t≠[]:=by
 intro e
 unfold pOp at h
 rw[e] at h
 match i with
 |0|1|2|3|4|5|6=>exact absurd h (by decide)
 |n+7=>exact absurd h (by simp[pOps])
structure RepRf (R:Nat) (L:List Tk) (w:World) (d:Nat) (st:RSt) (i:Nat) (a0:Int) (b6:Nat) (wr:World) (s:RSt) (z:Syn) (k a n:Int) (t:ByteArray) (o:Option Addr) (l c:Nat):Prop where
 hat:Rf R L wr d s
 hb:Butt R w wr
 xr:Bx5 wr w.heap.size (.int .i64 0) (.int .i64 0) (.string ⟨#[]⟩) (.int .i64 0) (.slice none 0 0)
 xl:Bx5 wr b6 (.int .i64 k) (.int .i64 a) (.string t) (.int .i64 n) (.slice o l c)
 tr:synIn (offs w.heap.size [b6,w.heap.size]) wr z (.agg #[.int .i64 k,.int .i64 a,.string t,.int .i64 n,.slice o l c])
 rem:s.rem≤st.rem
 go:∀ ys s',Stp (.rep i a0 [z]) d s ys s'→Stp (.lvl i) d st ys s'
theorem jcn {i d:Nat} {st st1:RSt} {x:Syn} {z:Int} (hi:i=0∨i=1∨i=4∨i=5) (hz:hasA st z) (hs:Stp (.lvl (i+1)) d st [x] st1):∀ ys s',Stp (.rep i z [x]) d st1 ys s'→Stp (.lvl i) d st ys s':=by
 intro ys s' hr
 cases st with
 |bad a e=>rw[show st1 = .bad a e from hs] at hr;exact hr
 |ok l=>obtain rfl:=hz l rfl;exact jch (L:=[]) hi hs ys s' hr
theorem jcH {i d:Nat} {st:RSt} {xs:List Syn} {a:Int} (hf:st.fine) (hb:∀ l,st = .ok l→pOp i l=false):Stp (.rep i a xs) d st xs st:=by
 cases st with
 |bad a e=>exact rfl
 |ok l=>exact jc8 (L:=[]) hf (by rw[jdj];exact hb l rfl)
theorem jb3 {L:List Tk} {i d:Nat} {l:List Tk} {st1:RSt} {x y:Syn} {a:Int} (hL:TkL L) (hb:pOp i l=true) (hy:Stp (.lvl (i+1)) d (.ok (pTl l)) [y] st1):∀ ys s',Stp (.rep i a [.mk 22 a (pHd l).t 0 [x,y]]) d st1 ys s'→Stp (.rep i a [x]) d (.ok l) ys s':=
 jcq (L:=L) (st:=.ok l) hL (by rw[jdj];exact hb) hy
theorem jbx {s:RSt} {c:List UInt8} (h:rIs s c=true):∃ l,s = .ok l∧pIs c l=true:=by
 cases s with
 |bad a e=>exact absurd (show false=true from h) (by decide)
 |ok l=>exact⟨l,rfl,h⟩
theorem rsum {R:Nat} {L:List Tk} {d:Nat} {st:RSt} {w:World} (h:Rf R L w d st) (K:∀ s:RSt,s.rem≤st.rem→GF 58 R L #[.pointer (some ⟨R,0,none⟩)] (.lvl 5) d s) :
  Calls Tryz.prog 23 #[.pointer (some ⟨R,0,none⟩)] w (PF R L (.lvl 4) d st w):=by
 have HTL:=jD h.fix.toks.toks
 have KL:=jD K
 clear K
 have HA0:=jD h
 have HLT:=jD h.fix.lt;have HRW:=jD h.fix.lt
 have A0:=jD (h.alloc jZ);obtain⟨B0,XR0,HPR,HLS⟩:=jS h.fix.lt
 clear h 
 go_enter Tryz.func23,Tryz.ntmps23
 have CH:=fun W (H:Rf R L W d st)=>jcy H
 have KH:=jD CH;clear CH
 go_wp2_with (go_at_call 48;refine cM (KH.out _ A0.out) ?_;rintro e w1 ⟨z1,rfl,hz1,ha1,hb1⟩)
 have HZ1:=jD hz1
 have A1:=jD ha1;have B1:=jtt B0 hb1
 have XR1:=jbb XR0 HPR hb1
 clear ha1 hb1 hz1
 refine jD ?_
 go_wp2_with (go_at_call 58;refine cM (KL.out st (jrr _) _ A1.out) ?_;rintro e w2 ⟨x2,v2,s2,rfl,hx2,hs2,ha2,hb2⟩)
 obtain⟨k2,a2,t2,n2,o2,l2,c2,q2,rfl,rfl,hk2⟩:=hx2.shape
 have HS2:=jD hs2
 have TR2:=tA hx2 B1.out.size XR1.out.lt
 have A2:=jD ha2;have B2:=jtt B1 hb2
 have XR2:=jbb XR1 HPR hb2
 clear ha2 hb2 hx2 hk2 hs2
 refine jD ?_
 have TC:=jD (TR2.out.cons (q:=w2.heap.size) (jrr _))
 have HR0:=jD (Run.rem HS2.out);have HG0:=jD (jcn (i:=4) (by omega) HZ1.out HS2.out)
 have HB6:Hid (w.heap.size≤w2.heap.size):=jD B2.out.size;have H6P:Hid (w.heap.size<w2.heap.size):=jD XR2.out.lt
 have A2a:=jD (A2.out.alloc (jO k2 a2 t2 n2 o2 l2 c2));have B2a:=jD (B2.out.alloc HRW.out (jO k2 a2 t2 n2 o2 l2 c2))
 have XR2a:=jD (XR2.out.alloc (jO k2 a2 t2 n2 o2 l2 c2))
 have TC2a:=jD (TC.out.butt HLT.out (Butt.of_below A2.out.fix.lt (jN (jO k2 a2 t2 n2 o2 l2 c2))))
 have PXL:=nR A2.out.fix.lt
 have XL2a:=jD (Bx5.new w2 (.int .i64 k2) (.int .i64 a2) (.string t2) (.int .i64 n2) (.slice o2 l2 c2))
 go_wp2_with fail
 have HLP:Hid (RepRf R L w d st 4 z1 w2.heap.size _ s2 _ k2 a2 n2 t2 o2 l2 c2):=jD ⟨A2a.out,B2a.out,XR2a.out,XL2a.out,TC2a.out,HR0.out,HG0.out⟩
 have HPL:=PXL
 generalize w2.alloc (jO k2 a2 t2 n2 o2 l2 c2)=WB at *
 generalize w2.heap.size=b6 at *
 go_loopw [] (fun wr=>∃ (s:RSt) (z:Syn) (k a n:Int) (t:ByteArray) (o:Option Addr) (l c:Nat),RepRf R L w d st 4 z1 b6 wr s z k a n t o l c) (fun wr=>remR R L wr)
 case atStart=>exact⟨s2,_,k2,a2,n2,t2,o2,l2,c2,HLP.out⟩
 case round=>
  obtain⟨s,z,k,a,n,t,o,l,c,hrel⟩:=hrel
  cases hb0:rIs s [43] with
  |true=>
   have CO0:=fun W (H:Rf R L W d s)=>ris H [43] (by decide)
   rw[hb0] at CO0
   obtain⟨l0,rfl,hop⟩:=jbx hb0
   have hpo:pOp 4 l0=true:=by unfold pOp;unfold pIs at hop;rw[beq_iff_eq] at hop;rw[hop];decide
   have HPO:=jD hpo;have HOP:=jD hop
   have KO0:=jD CO0
   clear CO0 hb0 hpo hop
   have HR:=jD hrel
   have A0:=jD hrel.hat;have B0:=jD hrel.hb;have XR0:=jD hrel.xr;have XL0:=jD hrel.xl;have TZ:=jD hrel.tr
   clear hrel
   go_wp2_with (go_at_call 49;refine jX (KO0.out _ A0.out) B0 XR0 HPR fun w1 A1 B1 XR1 hb1=>?_)
   have XL1:=jbb XL0 HPL hb1
   have TZ1:=jD (TZ.out.butt HLT.out hb1)
   clear hb1
   refine jD ?_
   obtain⟨hf,nx,op,er,ae,h1,hr2,hr3⟩:=A1.out
   rcases hr3 with ⟨rfl,hr4,hll⟩|⟨he,e,hr4,hll⟩
   rotate_left
   ·cases hll
   have hlx:l0=L.drop nx:=by cases hll;rfl
   obtain⟨⟨b,oo,cc,r0,r1,r2,r3⟩,c1,c2,c3,c4,c5,c6,c7⟩:=hr2
   obtain⟨b',o',e',hat⟩:=r1.at c7
   cases e'
   obtain⟨d0,d1,d2⟩:=hat nx h1 w1 (Below.refl _ _)
   have gl:(nx:Int)<(L.length:Int):=by omega
   have g0:(0:Int)≤(nx:Int):=by omega
   rw[←jaO h1,←hlx] at d0 d1 d2
   clear hat r1 c2 c3 c4 c5 c6 c7 r2 r3 hr4 hll h1 hf d0 d2
   clear hlx
   have HTT:=jD (rfl:(pHd l0).t=(pHd l0).t)
   generalize hT:(pHd l0).t=tt at d1
   have HT:=jD hT;clear hT HTT
   go_wp2_with fail
   go_quiet (fail)
   have AQ:=jD (A1.out.below (below_drewN (Below.refl w1.heap.size w1) nq));have BQ:=jD (B1.out.trans (Butt.of_below A1.out.fix.lt (below_drewN (Below.refl w1.heap.size w1) nq)));have XRQ:=jD (XR1.out.below (below_drewN (Below.refl w1.heap.size w1) nq));have XLQ:=jD (XL1.out.below (below_drewN (Below.refl w1.heap.size w1) nq));have TZQ:=jD (TZ1.out.butt HLT.out (Butt.of_below A1.out.fix.lt (below_drewN (Below.refl w1.heap.size w1) nq)))
   go_wp2_with (go_at_call 59;refine jX (jcu AQ.out) BQ XRQ HPR fun w2 A2 B2 XR2 hb2=>?_)
   have XL2:=jbb XLQ HPL hb2
   have TZ2:=jD (TZQ.out.butt HLT.out hb2)
   clear hb2
   refine jD ?_
   have AS:=jD (show Rf R L w2 d (.ok (pTl l0)) from A2.out)
   have HRS:Hid ((pTl l0).length≤st.rem):=jD (Nat.le_trans (jat l0) HR.out.rem)
   go_wp2_with (go_at_call 58;refine cM (KL.out (.ok (pTl l0)) HRS.out _ AS.out) ?_;rintro e w3 ⟨x3,v3,s3,rfl,hx3,hs3,ha3,hb3⟩)
   obtain⟨k3,a3,t3,n3,o3,l3,c3,q3,rfl,rfl,hk3⟩:=hx3.shape
   have HS3:=jD hs3
   have TR3:=jD (synIn.of (l2:=w.heap.size) (ps:=[b6,w.heap.size]) hx3 (Nat.le_trans (jrr _) B2.out.size) (fun p hp=>by simp only[List.mem_cons,List.not_mem_nil,or_false] at hp;have g0:=XL2.out.lt;have g1:=XR2.out.lt;omega))
   have A3:=jD ha3;have B3:=jtt B2 hb3
   have XR3:=jbb XR2 HPR hb3
   have XL3:=jbb XL2 HPL hb3
   have TZ3:=jD (TZ2.out.butt HLT.out hb3)
   clear ha3 hb3 hx3 hk3 hs3
   refine jD ?_
   have A3a:=jD (A3.out.alloc (jO k3 a3 t3 n3 o3 l3 c3));have B3a:=jD (B3.out.alloc HRW.out (jO k3 a3 t3 n3 o3 l3 c3))
   have XR3a:=jD (XR3.out.alloc (jO k3 a3 t3 n3 o3 l3 c3))
   have XL3a:=jD (XL3.out.alloc (jO k3 a3 t3 n3 o3 l3 c3))
   have TZ3a:=jD (TZ3.out.butt HLT.out (Butt.of_below A3.out.fix.lt (jN (jO k3 a3 t3 n3 o3 l3 c3))))
   have TR33a:=jww TR3 HLT A3.out.fix.lt (jO k3 a3 t3 n3 o3 l3 c3)
   have PXY:=nR A3.out.fix.lt
   have XY3a:=jD (Bx5.new w3 (.int .i64 k3) (.int .i64 a3) (.string t3) (.int .i64 n3) (.slice o3 l3 c3))
   obtain⟨yXL0,yXL1,yXL2,yXL3,yXL4,-,-⟩:=XL3a.out
   obtain⟨yXY0,yXY1,yXY2,yXY3,yXY4,-,-⟩:=XY3a.out
   have HYL:Hid (b6<w3.heap.size):=jD XL3.out.lt
   have hAw:offs w.heap.size [b6,w.heap.size] (w3.alloc (jO k3 a3 t3 n3 o3 l3 c3)).heap.size:=⟨(Nat.le_trans (jrr _) B3a.out.size),fun hp=>by simp only[List.mem_cons,List.not_mem_nil,or_false] at hp;have g0:=XL3a.out.lt;have g1:=XR3a.out.lt;omega⟩
   have hki:=jaw (flatIn.cons (TZ3a.out) (flatIn.one (TR33a.out))) (by simp) hAw 2 rfl
   have hz:(w3.alloc (jO k3 a3 t3 n3 o3 l3 c3)).heap.size=w3.heap.size+1:=by simp
   rw[hz] at hki;clear hz
   have KI:=jD hki
   clear hAw hki
   go_wp2_with (go_at_call 47;refine cM (jam _ _ _ _ _ _ _) ?_;rintro e w4 ⟨rfl,hb4⟩)
   have hbx:=Butt.of_below (R:=R) A3a.out.fix.lt (Below.chain (jN (oD k a t n o l c k3 a3 t3 n3 o3 l3 c3)) hb4)
   have ha4:Rf R L w4 _ _:=⟨A3a.out.fix.butt hbx,A3a.out.rs.below (Below.chain (jN (oD k a t n o l c k3 a3 t3 n3 o3 l3 c3)) hb4)⟩
   have TN:=jD (jac.mpr ⟨_,rfl,KI.out.below hb4⟩:synIn (offs w.heap.size [b6,w.heap.size]) w4 (.mk 22 z1 tt 0 [z,(.mk k3 a3 t3 n3 q3)]) _)
   have hb4:=hbx;clear hbx
   have A4:=jD ha4;have B4:=jtt B3a hb4
   have XR4:=jbb XR3a HPR hb4
   have XL4:=jbb XL3a HPL hb4
   clear ha4 hb4
   refine jD ?_
   have FT:=jD (jas HA0.out B4.out A4.out XL4.out HB6.out (.int .i64 22) (.int .i64 z1) (.string tt) (.int .i64 0) (.slice (some ⟨w3.heap.size+1,0,none⟩) 2 2) _ rfl)
   obtain⟨yXL0,yXL1,yXL2,yXL3,yXL4,fXL0,fXL1,fXL2,fXL3,fXL4⟩:=bF XL4.out
   have A5s:=jD FT.out.2.1;have B5s:=jD FT.out.2.2.1;have XL5s:=jD FT.out.1
   have XR5s:=jD (XR4.out.kept (Nat.ne_of_lt H6P.out) FT.out.2.2.2)
   have TS5:=jD ((TN.out).kept (by simp) FT.out.2.2.2)
   clear FT
   have HNX:Hid (RepRf R L w d st 4 z1 b6 _ s3 _ 22 z1 0 tt (some ⟨w3.heap.size+1,0,none⟩) 2 2):=jD ⟨A5s.out,B5s.out,XR5s.out,XL5s.out,TS5.out,Nat.le_trans (Run.rem HS3.out) HRS.out,fun ys s' hs=>HR.out.go ys s' (jb3 HTL.out HPO.out HS3.out ys s' (by rw[HT.out];exact hs))⟩
   go_wp2
   go_roundw
   case rel=>exact⟨s3,_,_,_,_,_,_,_,_,HNX.out⟩
   case measure=>
    have e2:=HR.out.hat.rem_less (jhi HPO.out)
    have g1:=jbw HR.out.hat
    have g2:=jb2 HNX.out.hat
    have g3:=Run.rem HS3.out
    have g4:(RSt.ok (pTl l0)).rem=(pTl l0).length:=rfl
    rw[g1]
    omega
  |false=>
   cases hb1:rIs s [45] with
   |true=>
    have CO0:=fun W (H:Rf R L W d s)=>ris H [43] (by decide)
    rw[hb0] at CO0
    have CO1:=fun W (H:Rf R L W d s)=>ris H [45] (by decide)
    rw[hb1] at CO1
    obtain⟨l0,rfl,hop⟩:=jbx hb1
    have hpo:pOp 4 l0=true:=by unfold pOp;unfold pIs at hop;rw[beq_iff_eq] at hop;rw[hop];decide
    have HPO:=jD hpo;have HOP:=jD hop
    have KO0:=jD CO0;have KO1:=jD CO1
    clear CO0 hb0 CO1 hb1 hpo hop
    have HR:=jD hrel
    have A0:=jD hrel.hat;have B0:=jD hrel.hb;have XR0:=jD hrel.xr;have XL0:=jD hrel.xl;have TZ:=jD hrel.tr
    clear hrel
    go_wp2_with (go_at_call 49;refine jX (KO0.out _ A0.out) B0 XR0 HPR fun w1 A1 B1 XR1 hb1=>?_)
    have XL1:=jbb XL0 HPL hb1
    have TZ1:=jD (TZ.out.butt HLT.out hb1)
    clear hb1
    refine jD ?_
    go_wp2_with (go_at_call 49;refine jX (KO1.out _ A1.out) B1 XR1 HPR fun w2 A2 B2 XR2 hb2=>?_)
    have XL2:=jbb XL1 HPL hb2
    have TZ2:=jD (TZ1.out.butt HLT.out hb2)
    clear hb2
    refine jD ?_
    obtain⟨hf,nx,op,er,ae,h1,hr2,hr3⟩:=A2.out
    rcases hr3 with ⟨rfl,hr4,hll⟩|⟨he,e,hr4,hll⟩
    rotate_left
    ·cases hll
    have hlx:l0=L.drop nx:=by cases hll;rfl
    obtain⟨⟨b,oo,cc,r0,r1,r2,r3⟩,c1,c2,c3,c4,c5,c6,c7⟩:=hr2
    obtain⟨b',o',e',hat⟩:=r1.at c7
    cases e'
    obtain⟨d0,d1,d2⟩:=hat nx h1 w2 (Below.refl _ _)
    have gl:(nx:Int)<(L.length:Int):=by omega
    have g0:(0:Int)≤(nx:Int):=by omega
    rw[←jaO h1,←hlx] at d0 d1 d2
    clear hat r1 c2 c3 c4 c5 c6 c7 r2 r3 hr4 hll h1 hf d0 d2
    clear hlx
    have HTT:=jD (rfl:(pHd l0).t=(pHd l0).t)
    generalize hT:(pHd l0).t=tt at d1
    have HT:=jD hT;clear hT HTT
    go_wp2_with fail
    go_quiet (fail)
    have AQ:=jD (A2.out.below (below_drewN (Below.refl w2.heap.size w2) nq));have BQ:=jD (B2.out.trans (Butt.of_below A2.out.fix.lt (below_drewN (Below.refl w2.heap.size w2) nq)));have XRQ:=jD (XR2.out.below (below_drewN (Below.refl w2.heap.size w2) nq));have XLQ:=jD (XL2.out.below (below_drewN (Below.refl w2.heap.size w2) nq));have TZQ:=jD (TZ2.out.butt HLT.out (Butt.of_below A2.out.fix.lt (below_drewN (Below.refl w2.heap.size w2) nq)))
    go_wp2_with (go_at_call 59;refine jX (jcu AQ.out) BQ XRQ HPR fun w3 A3 B3 XR3 hb3=>?_)
    have XL3:=jbb XLQ HPL hb3
    have TZ3:=jD (TZQ.out.butt HLT.out hb3)
    clear hb3
    refine jD ?_
    have AS:=jD (show Rf R L w3 d (.ok (pTl l0)) from A3.out)
    have HRS:Hid ((pTl l0).length≤st.rem):=jD (Nat.le_trans (jat l0) HR.out.rem)
    go_wp2_with (go_at_call 58;refine cM (KL.out (.ok (pTl l0)) HRS.out _ AS.out) ?_;rintro e w4 ⟨x4,v4,s4,rfl,hx4,hs4,ha4,hb4⟩)
    obtain⟨k4,a4,t4,n4,o4,l4,c4,q4,rfl,rfl,hk4⟩:=hx4.shape
    have HS4:=jD hs4
    have TR4:=jD (synIn.of (l2:=w.heap.size) (ps:=[b6,w.heap.size]) hx4 (Nat.le_trans (jrr _) B3.out.size) (fun p hp=>by simp only[List.mem_cons,List.not_mem_nil,or_false] at hp;have g0:=XL3.out.lt;have g1:=XR3.out.lt;omega))
    have A4:=jD ha4;have B4:=jtt B3 hb4
    have XR4:=jbb XR3 HPR hb4
    have XL4:=jbb XL3 HPL hb4
    have TZ4:=jD (TZ3.out.butt HLT.out hb4)
    clear ha4 hb4 hx4 hk4 hs4
    refine jD ?_
    have A4a:=jD (A4.out.alloc (jO k4 a4 t4 n4 o4 l4 c4));have B4a:=jD (B4.out.alloc HRW.out (jO k4 a4 t4 n4 o4 l4 c4))
    have XR4a:=jD (XR4.out.alloc (jO k4 a4 t4 n4 o4 l4 c4))
    have XL4a:=jD (XL4.out.alloc (jO k4 a4 t4 n4 o4 l4 c4))
    have TZ4a:=jD (TZ4.out.butt HLT.out (Butt.of_below A4.out.fix.lt (jN (jO k4 a4 t4 n4 o4 l4 c4))))
    have TR44a:=jww TR4 HLT A4.out.fix.lt (jO k4 a4 t4 n4 o4 l4 c4)
    have PXY:=nR A4.out.fix.lt
    have XY4a:=jD (Bx5.new w4 (.int .i64 k4) (.int .i64 a4) (.string t4) (.int .i64 n4) (.slice o4 l4 c4))
    obtain⟨yXL0,yXL1,yXL2,yXL3,yXL4,-,-⟩:=XL4a.out
    obtain⟨yXY0,yXY1,yXY2,yXY3,yXY4,-,-⟩:=XY4a.out
    have HYL:Hid (b6<w4.heap.size):=jD XL4.out.lt
    have hAw:offs w.heap.size [b6,w.heap.size] (w4.alloc (jO k4 a4 t4 n4 o4 l4 c4)).heap.size:=⟨(Nat.le_trans (jrr _) B4a.out.size),fun hp=>by simp only[List.mem_cons,List.not_mem_nil,or_false] at hp;have g0:=XL4a.out.lt;have g1:=XR4a.out.lt;omega⟩
    have hki:=jaw (flatIn.cons (TZ4a.out) (flatIn.one (TR44a.out))) (by simp) hAw 2 rfl
    have hz:(w4.alloc (jO k4 a4 t4 n4 o4 l4 c4)).heap.size=w4.heap.size+1:=by simp
    rw[hz] at hki;clear hz
    have KI:=jD hki
    clear hAw hki
    go_wp2_with (go_at_call 47;refine cM (jam _ _ _ _ _ _ _) ?_;rintro e w5 ⟨rfl,hb5⟩)
    have hbx:=Butt.of_below (R:=R) A4a.out.fix.lt (Below.chain (jN (oD k a t n o l c k4 a4 t4 n4 o4 l4 c4)) hb5)
    have ha5:Rf R L w5 _ _:=⟨A4a.out.fix.butt hbx,A4a.out.rs.below (Below.chain (jN (oD k a t n o l c k4 a4 t4 n4 o4 l4 c4)) hb5)⟩
    have TN:=jD (jac.mpr ⟨_,rfl,KI.out.below hb5⟩:synIn (offs w.heap.size [b6,w.heap.size]) w5 (.mk 22 z1 tt 0 [z,(.mk k4 a4 t4 n4 q4)]) _)
    have hb5:=hbx;clear hbx
    have A5:=jD ha5;have B5:=jtt B4a hb5
    have XR5:=jbb XR4a HPR hb5
    have XL5:=jbb XL4a HPL hb5
    clear ha5 hb5
    refine jD ?_
    have FT:=jD (jas HA0.out B5.out A5.out XL5.out HB6.out (.int .i64 22) (.int .i64 z1) (.string tt) (.int .i64 0) (.slice (some ⟨w4.heap.size+1,0,none⟩) 2 2) _ rfl)
    obtain⟨yXL0,yXL1,yXL2,yXL3,yXL4,fXL0,fXL1,fXL2,fXL3,fXL4⟩:=bF XL5.out
    have A6s:=jD FT.out.2.1;have B6s:=jD FT.out.2.2.1;have XL6s:=jD FT.out.1
    have XR6s:=jD (XR5.out.kept (Nat.ne_of_lt H6P.out) FT.out.2.2.2)
    have TS6:=jD ((TN.out).kept (by simp) FT.out.2.2.2)
    clear FT
    have HNX:Hid (RepRf R L w d st 4 z1 b6 _ s4 _ 22 z1 0 tt (some ⟨w4.heap.size+1,0,none⟩) 2 2):=jD ⟨A6s.out,B6s.out,XR6s.out,XL6s.out,TS6.out,Nat.le_trans (Run.rem HS4.out) HRS.out,fun ys s' hs=>HR.out.go ys s' (jb3 HTL.out HPO.out HS4.out ys s' (by rw[HT.out];exact hs))⟩
    go_wp2
    go_roundw
    case rel=>exact⟨s4,_,_,_,_,_,_,_,_,HNX.out⟩
    case measure=>
     have e2:=HR.out.hat.rem_less (jhi HPO.out)
     have g1:=jbw HR.out.hat
     have g2:=jb2 HNX.out.hat
     have g3:=Run.rem HS4.out
     have g4:(RSt.ok (pTl l0)).rem=(pTl l0).length:=rfl
     rw[g1]
     omega
   |false=>
    have CO0:=fun W (H:Rf R L W d s)=>ris H [43] (by decide)
    rw[hb0] at CO0
    have CO1:=fun W (H:Rf R L W d s)=>ris H [45] (by decide)
    rw[hb1] at CO1
    have HPN:Hid (∀ l,s = .ok l→pOp 4 l=false):=jD (fun l e=>by subst e;unfold pOp;have g0:pIs [43] l=false:=hb0;unfold pIs at g0;have g1:pIs [45] l=false:=hb1;unfold pIs at g1;simp only[pOps,List.contains_cons,List.contains_nil,Bool.or_false,g0,g1,Bool.or_self])
    have KO0:=jD CO0;have KO1:=jD CO1
    clear CO0 hb0 CO1 hb1
    have HR:=jD hrel
    have A0:=jD hrel.hat;have B0:=jD hrel.hb;have XR0:=jD hrel.xr;have XL0:=jD hrel.xl;have TZ:=jD hrel.tr
    clear hrel
    go_wp2_with (go_at_call 49;refine jX (KO0.out _ A0.out) B0 XR0 HPR fun w1 A1 B1 XR1 hb1=>?_)
    have XL1:=jbb XL0 HPL hb1
    have TZ1:=jD (TZ.out.butt HLT.out hb1)
    clear hb1
    refine jD ?_
    go_wp2_with (go_at_call 49;refine jX (KO1.out _ A1.out) B1 XR1 HPR fun w2 A2 B2 XR2 hb2=>?_)
    have XL2:=jbb XL1 HPL hb2
    have TZ2:=jD (TZ1.out.butt HLT.out hb2)
    clear hb2
    refine jD ?_
    obtain⟨yXL0,yXL1,yXL2,yXL3,yXL4,-,-⟩:=XL2.out
    have FT:=jD (jas HA0.out B2.out A2.out XR2.out (jrr _) (.int .i64 k) (.int .i64 a) (.string t) (.int .i64 n) (.slice o l c) _ rfl)
    have GX:=jD ((TZ2.out).kept (by simp) FT.out.2.2.2).at
    obtain⟨yXR0,yXR1,yXR2,yXR3,yXR4,fXR0,fXR1,fXR2,fXR3,fXR4⟩:=bF XR2.out
    obtain⟨r0,r1,r2,r3,r4⟩:=FT.out.1
    have GA:=jD FT.out.2.1;have GB:=jD FT.out.2.2.1
    clear FT
    go_wp2
    refine bodyPost_ret (by simp[results,Tryz.results23,go_sem,r0,r1,r2,r3,r4];rfl) rfl ?_
    exact⟨_,_,_,rfl,GX.out,HR.out.go _ _ (jcH HR.out.hat.fine HPN.out),GA.out,GB.out⟩
theorem jkb {R:Nat} {L:List Tk} {d:Nat} {st:RSt} {w:World} (h:Rf R L w d st) (K:∀ s:RSt,s.rem≤st.rem→GF 90 R L #[.pointer (some ⟨R,0,none⟩)] (.lvl 6) d s) :
  Calls Tryz.prog 58 #[.pointer (some ⟨R,0,none⟩)] w (PF R L (.lvl 5) d st w):=by
 have HTL:=jD h.fix.toks.toks
 have KL:=jD K
 clear K
 have HA0:=jD h
 have HLT:=jD h.fix.lt;have HRW:=jD h.fix.lt
 have A0:=jD (h.alloc jZ);obtain⟨B0,XR0,HPR,HLS⟩:=jS h.fix.lt
 clear h 
 go_enter Tryz.func58,Tryz.ntmps58
 have CH:=fun W (H:Rf R L W d st)=>jcy H
 have KH:=jD CH;clear CH
 go_wp2_with (go_at_call 48;refine cM (KH.out _ A0.out) ?_;rintro e w1 ⟨z1,rfl,hz1,ha1,hb1⟩)
 have HZ1:=jD hz1
 have A1:=jD ha1;have B1:=jtt B0 hb1
 have XR1:=jbb XR0 HPR hb1
 clear ha1 hb1 hz1
 refine jD ?_
 go_wp2_with (go_at_call 90;refine cM (KL.out st (jrr _) _ A1.out) ?_;rintro e w2 ⟨x2,v2,s2,rfl,hx2,hs2,ha2,hb2⟩)
 obtain⟨k2,a2,t2,n2,o2,l2,c2,q2,rfl,rfl,hk2⟩:=hx2.shape
 have HS2:=jD hs2
 have TR2:=tA hx2 B1.out.size XR1.out.lt
 have A2:=jD ha2;have B2:=jtt B1 hb2
 have XR2:=jbb XR1 HPR hb2
 clear ha2 hb2 hx2 hk2 hs2
 refine jD ?_
 have TC:=jD (TR2.out.cons (q:=w2.heap.size) (jrr _))
 have HR0:=jD (Run.rem HS2.out);have HG0:=jD (jcn (i:=5) (by omega) HZ1.out HS2.out)
 have HB6:Hid (w.heap.size≤w2.heap.size):=jD B2.out.size;have H6P:Hid (w.heap.size<w2.heap.size):=jD XR2.out.lt
 have A2a:=jD (A2.out.alloc (jO k2 a2 t2 n2 o2 l2 c2));have B2a:=jD (B2.out.alloc HRW.out (jO k2 a2 t2 n2 o2 l2 c2))
 have XR2a:=jD (XR2.out.alloc (jO k2 a2 t2 n2 o2 l2 c2))
 have TC2a:=jD (TC.out.butt HLT.out (Butt.of_below A2.out.fix.lt (jN (jO k2 a2 t2 n2 o2 l2 c2))))
 have PXL:=nR A2.out.fix.lt
 have XL2a:=jD (Bx5.new w2 (.int .i64 k2) (.int .i64 a2) (.string t2) (.int .i64 n2) (.slice o2 l2 c2))
 go_wp2_with fail
 have HLP:Hid (RepRf R L w d st 5 z1 w2.heap.size _ s2 _ k2 a2 n2 t2 o2 l2 c2):=jD ⟨A2a.out,B2a.out,XR2a.out,XL2a.out,TC2a.out,HR0.out,HG0.out⟩
 have HPL:=PXL
 generalize w2.alloc (jO k2 a2 t2 n2 o2 l2 c2)=WB at *
 generalize w2.heap.size=b6 at *
 go_loopw [] (fun wr=>∃ (s:RSt) (z:Syn) (k a n:Int) (t:ByteArray) (o:Option Addr) (l c:Nat),RepRf R L w d st 5 z1 b6 wr s z k a n t o l c) (fun wr=>remR R L wr)
 case atStart=>exact⟨s2,_,k2,a2,n2,t2,o2,l2,c2,HLP.out⟩
 case round=>
  obtain⟨s,z,k,a,n,t,o,l,c,hrel⟩:=hrel
  cases hb0:rIs s [42] with
  |true=>
   have CO0:=fun W (H:Rf R L W d s)=>ris H [42] (by decide)
   rw[hb0] at CO0
   obtain⟨l0,rfl,hop⟩:=jbx hb0
   have hpo:pOp 5 l0=true:=by unfold pOp;unfold pIs at hop;rw[beq_iff_eq] at hop;rw[hop];decide
   have HPO:=jD hpo;have HOP:=jD hop
   have KO0:=jD CO0
   clear CO0 hb0 hpo hop
   have HR:=jD hrel
   have A0:=jD hrel.hat;have B0:=jD hrel.hb;have XR0:=jD hrel.xr;have XL0:=jD hrel.xl;have TZ:=jD hrel.tr
   clear hrel
   go_wp2_with (go_at_call 49;refine jX (KO0.out _ A0.out) B0 XR0 HPR fun w1 A1 B1 XR1 hb1=>?_)
   have XL1:=jbb XL0 HPL hb1
   have TZ1:=jD (TZ.out.butt HLT.out hb1)
   clear hb1
   refine jD ?_
   obtain⟨hf,nx,op,er,ae,h1,hr2,hr3⟩:=A1.out
   rcases hr3 with ⟨rfl,hr4,hll⟩|⟨he,e,hr4,hll⟩
   rotate_left
   ·cases hll
   have hlx:l0=L.drop nx:=by cases hll;rfl
   obtain⟨⟨b,oo,cc,r0,r1,r2,r3⟩,c1,c2,c3,c4,c5,c6,c7⟩:=hr2
   obtain⟨b',o',e',hat⟩:=r1.at c7
   cases e'
   obtain⟨d0,d1,d2⟩:=hat nx h1 w1 (Below.refl _ _)
   have gl:(nx:Int)<(L.length:Int):=by omega
   have g0:(0:Int)≤(nx:Int):=by omega
   rw[←jaO h1,←hlx] at d0 d1 d2
   clear hat r1 c2 c3 c4 c5 c6 c7 r2 r3 hr4 hll h1 hf d0 d2
   clear hlx
   have HTT:=jD (rfl:(pHd l0).t=(pHd l0).t)
   generalize hT:(pHd l0).t=tt at d1
   have HT:=jD hT;clear hT HTT
   go_wp2_with fail
   go_quiet (fail)
   have AQ:=jD (A1.out.below (below_drewN (Below.refl w1.heap.size w1) nq));have BQ:=jD (B1.out.trans (Butt.of_below A1.out.fix.lt (below_drewN (Below.refl w1.heap.size w1) nq)));have XRQ:=jD (XR1.out.below (below_drewN (Below.refl w1.heap.size w1) nq));have XLQ:=jD (XL1.out.below (below_drewN (Below.refl w1.heap.size w1) nq));have TZQ:=jD (TZ1.out.butt HLT.out (Butt.of_below A1.out.fix.lt (below_drewN (Below.refl w1.heap.size w1) nq)))
   go_wp2_with (go_at_call 59;refine jX (jcu AQ.out) BQ XRQ HPR fun w2 A2 B2 XR2 hb2=>?_)
   have XL2:=jbb XLQ HPL hb2
   have TZ2:=jD (TZQ.out.butt HLT.out hb2)
   clear hb2
   refine jD ?_
   have AS:=jD (show Rf R L w2 d (.ok (pTl l0)) from A2.out)
   have HRS:Hid ((pTl l0).length≤st.rem):=jD (Nat.le_trans (jat l0) HR.out.rem)
   go_wp2_with (go_at_call 90;refine cM (KL.out (.ok (pTl l0)) HRS.out _ AS.out) ?_;rintro e w3 ⟨x3,v3,s3,rfl,hx3,hs3,ha3,hb3⟩)
   obtain⟨k3,a3,t3,n3,o3,l3,c3,q3,rfl,rfl,hk3⟩:=hx3.shape
   have HS3:=jD hs3
   have TR3:=jD (synIn.of (l2:=w.heap.size) (ps:=[b6,w.heap.size]) hx3 (Nat.le_trans (jrr _) B2.out.size) (fun p hp=>by simp only[List.mem_cons,List.not_mem_nil,or_false] at hp;have g0:=XL2.out.lt;have g1:=XR2.out.lt;omega))
   have A3:=jD ha3;have B3:=jtt B2 hb3
   have XR3:=jbb XR2 HPR hb3
   have XL3:=jbb XL2 HPL hb3
   have TZ3:=jD (TZ2.out.butt HLT.out hb3)
   clear ha3 hb3 hx3 hk3 hs3
   refine jD ?_
   have A3a:=jD (A3.out.alloc (jO k3 a3 t3 n3 o3 l3 c3));have B3a:=jD (B3.out.alloc HRW.out (jO k3 a3 t3 n3 o3 l3 c3))
   have XR3a:=jD (XR3.out.alloc (jO k3 a3 t3 n3 o3 l3 c3))
   have XL3a:=jD (XL3.out.alloc (jO k3 a3 t3 n3 o3 l3 c3))
   have TZ3a:=jD (TZ3.out.butt HLT.out (Butt.of_below A3.out.fix.lt (jN (jO k3 a3 t3 n3 o3 l3 c3))))
   have TR33a:=jww TR3 HLT A3.out.fix.lt (jO k3 a3 t3 n3 o3 l3 c3)
   have PXY:=nR A3.out.fix.lt
   have XY3a:=jD (Bx5.new w3 (.int .i64 k3) (.int .i64 a3) (.string t3) (.int .i64 n3) (.slice o3 l3 c3))
   obtain⟨yXL0,yXL1,yXL2,yXL3,yXL4,-,-⟩:=XL3a.out
   obtain⟨yXY0,yXY1,yXY2,yXY3,yXY4,-,-⟩:=XY3a.out
   have HYL:Hid (b6<w3.heap.size):=jD XL3.out.lt
   have hAw:offs w.heap.size [b6,w.heap.size] (w3.alloc (jO k3 a3 t3 n3 o3 l3 c3)).heap.size:=⟨(Nat.le_trans (jrr _) B3a.out.size),fun hp=>by simp only[List.mem_cons,List.not_mem_nil,or_false] at hp;have g0:=XL3a.out.lt;have g1:=XR3a.out.lt;omega⟩
   have hki:=jaw (flatIn.cons (TZ3a.out) (flatIn.one (TR33a.out))) (by simp) hAw 2 rfl
   have hz:(w3.alloc (jO k3 a3 t3 n3 o3 l3 c3)).heap.size=w3.heap.size+1:=by simp
   rw[hz] at hki;clear hz
   have KI:=jD hki
   clear hAw hki
   go_wp2_with (go_at_call 47;refine cM (jam _ _ _ _ _ _ _) ?_;rintro e w4 ⟨rfl,hb4⟩)
   have hbx:=Butt.of_below (R:=R) A3a.out.fix.lt (Below.chain (jN (oD k a t n o l c k3 a3 t3 n3 o3 l3 c3)) hb4)
   have ha4:Rf R L w4 _ _:=⟨A3a.out.fix.butt hbx,A3a.out.rs.below (Below.chain (jN (oD k a t n o l c k3 a3 t3 n3 o3 l3 c3)) hb4)⟩
   have TN:=jD (jac.mpr ⟨_,rfl,KI.out.below hb4⟩:synIn (offs w.heap.size [b6,w.heap.size]) w4 (.mk 22 z1 tt 0 [z,(.mk k3 a3 t3 n3 q3)]) _)
   have hb4:=hbx;clear hbx
   have A4:=jD ha4;have B4:=jtt B3a hb4
   have XR4:=jbb XR3a HPR hb4
   have XL4:=jbb XL3a HPL hb4
   clear ha4 hb4
   refine jD ?_
   have FT:=jD (jas HA0.out B4.out A4.out XL4.out HB6.out (.int .i64 22) (.int .i64 z1) (.string tt) (.int .i64 0) (.slice (some ⟨w3.heap.size+1,0,none⟩) 2 2) _ rfl)
   obtain⟨yXL0,yXL1,yXL2,yXL3,yXL4,fXL0,fXL1,fXL2,fXL3,fXL4⟩:=bF XL4.out
   have A5s:=jD FT.out.2.1;have B5s:=jD FT.out.2.2.1;have XL5s:=jD FT.out.1
   have XR5s:=jD (XR4.out.kept (Nat.ne_of_lt H6P.out) FT.out.2.2.2)
   have TS5:=jD ((TN.out).kept (by simp) FT.out.2.2.2)
   clear FT
   have HNX:Hid (RepRf R L w d st 5 z1 b6 _ s3 _ 22 z1 0 tt (some ⟨w3.heap.size+1,0,none⟩) 2 2):=jD ⟨A5s.out,B5s.out,XR5s.out,XL5s.out,TS5.out,Nat.le_trans (Run.rem HS3.out) HRS.out,fun ys s' hs=>HR.out.go ys s' (jb3 HTL.out HPO.out HS3.out ys s' (by rw[HT.out];exact hs))⟩
   go_wp2
   go_roundw
   case rel=>exact⟨s3,_,_,_,_,_,_,_,_,HNX.out⟩
   case measure=>
    have e2:=HR.out.hat.rem_less (jhi HPO.out)
    have g1:=jbw HR.out.hat
    have g2:=jb2 HNX.out.hat
    have g3:=Run.rem HS3.out
    have g4:(RSt.ok (pTl l0)).rem=(pTl l0).length:=rfl
    rw[g1]
    omega
  |false=>
   cases hb1:rIs s [47] with
   |true=>
    have CO0:=fun W (H:Rf R L W d s)=>ris H [42] (by decide)
    rw[hb0] at CO0
    have CO1:=fun W (H:Rf R L W d s)=>ris H [47] (by decide)
    rw[hb1] at CO1
    obtain⟨l0,rfl,hop⟩:=jbx hb1
    have hpo:pOp 5 l0=true:=by unfold pOp;unfold pIs at hop;rw[beq_iff_eq] at hop;rw[hop];decide
    have HPO:=jD hpo;have HOP:=jD hop
    have KO0:=jD CO0;have KO1:=jD CO1
    clear CO0 hb0 CO1 hb1 hpo hop
    have HR:=jD hrel
    have A0:=jD hrel.hat;have B0:=jD hrel.hb;have XR0:=jD hrel.xr;have XL0:=jD hrel.xl;have TZ:=jD hrel.tr
    clear hrel
    go_wp2_with (go_at_call 49;refine jX (KO0.out _ A0.out) B0 XR0 HPR fun w1 A1 B1 XR1 hb1=>?_)
    have XL1:=jbb XL0 HPL hb1
    have TZ1:=jD (TZ.out.butt HLT.out hb1)
    clear hb1
    refine jD ?_
    go_wp2_with (go_at_call 49;refine jX (KO1.out _ A1.out) B1 XR1 HPR fun w2 A2 B2 XR2 hb2=>?_)
    have XL2:=jbb XL1 HPL hb2
    have TZ2:=jD (TZ1.out.butt HLT.out hb2)
    clear hb2
    refine jD ?_
    obtain⟨hf,nx,op,er,ae,h1,hr2,hr3⟩:=A2.out
    rcases hr3 with ⟨rfl,hr4,hll⟩|⟨he,e,hr4,hll⟩
    rotate_left
    ·cases hll
    have hlx:l0=L.drop nx:=by cases hll;rfl
    obtain⟨⟨b,oo,cc,r0,r1,r2,r3⟩,c1,c2,c3,c4,c5,c6,c7⟩:=hr2
    obtain⟨b',o',e',hat⟩:=r1.at c7
    cases e'
    obtain⟨d0,d1,d2⟩:=hat nx h1 w2 (Below.refl _ _)
    have gl:(nx:Int)<(L.length:Int):=by omega
    have g0:(0:Int)≤(nx:Int):=by omega
    rw[←jaO h1,←hlx] at d0 d1 d2
    clear hat r1 c2 c3 c4 c5 c6 c7 r2 r3 hr4 hll h1 hf d0 d2
    clear hlx
    have HTT:=jD (rfl:(pHd l0).t=(pHd l0).t)
    generalize hT:(pHd l0).t=tt at d1
    have HT:=jD hT;clear hT HTT
    go_wp2_with fail
    go_quiet (fail)
    have AQ:=jD (A2.out.below (below_drewN (Below.refl w2.heap.size w2) nq));have BQ:=jD (B2.out.trans (Butt.of_below A2.out.fix.lt (below_drewN (Below.refl w2.heap.size w2) nq)));have XRQ:=jD (XR2.out.below (below_drewN (Below.refl w2.heap.size w2) nq));have XLQ:=jD (XL2.out.below (below_drewN (Below.refl w2.heap.size w2) nq));have TZQ:=jD (TZ2.out.butt HLT.out (Butt.of_below A2.out.fix.lt (below_drewN (Below.refl w2.heap.size w2) nq)))
    go_wp2_with (go_at_call 59;refine jX (jcu AQ.out) BQ XRQ HPR fun w3 A3 B3 XR3 hb3=>?_)
    have XL3:=jbb XLQ HPL hb3
    have TZ3:=jD (TZQ.out.butt HLT.out hb3)
    clear hb3
    refine jD ?_
    have AS:=jD (show Rf R L w3 d (.ok (pTl l0)) from A3.out)
    have HRS:Hid ((pTl l0).length≤st.rem):=jD (Nat.le_trans (jat l0) HR.out.rem)
    go_wp2_with (go_at_call 90;refine cM (KL.out (.ok (pTl l0)) HRS.out _ AS.out) ?_;rintro e w4 ⟨x4,v4,s4,rfl,hx4,hs4,ha4,hb4⟩)
    obtain⟨k4,a4,t4,n4,o4,l4,c4,q4,rfl,rfl,hk4⟩:=hx4.shape
    have HS4:=jD hs4
    have TR4:=jD (synIn.of (l2:=w.heap.size) (ps:=[b6,w.heap.size]) hx4 (Nat.le_trans (jrr _) B3.out.size) (fun p hp=>by simp only[List.mem_cons,List.not_mem_nil,or_false] at hp;have g0:=XL3.out.lt;have g1:=XR3.out.lt;omega))
    have A4:=jD ha4;have B4:=jtt B3 hb4
    have XR4:=jbb XR3 HPR hb4
    have XL4:=jbb XL3 HPL hb4
    have TZ4:=jD (TZ3.out.butt HLT.out hb4)
    clear ha4 hb4 hx4 hk4 hs4
    refine jD ?_
    have A4a:=jD (A4.out.alloc (jO k4 a4 t4 n4 o4 l4 c4));have B4a:=jD (B4.out.alloc HRW.out (jO k4 a4 t4 n4 o4 l4 c4))
    have XR4a:=jD (XR4.out.alloc (jO k4 a4 t4 n4 o4 l4 c4))
    have XL4a:=jD (XL4.out.alloc (jO k4 a4 t4 n4 o4 l4 c4))
    have TZ4a:=jD (TZ4.out.butt HLT.out (Butt.of_below A4.out.fix.lt (jN (jO k4 a4 t4 n4 o4 l4 c4))))
    have TR44a:=jww TR4 HLT A4.out.fix.lt (jO k4 a4 t4 n4 o4 l4 c4)
    have PXY:=nR A4.out.fix.lt
    have XY4a:=jD (Bx5.new w4 (.int .i64 k4) (.int .i64 a4) (.string t4) (.int .i64 n4) (.slice o4 l4 c4))
    obtain⟨yXL0,yXL1,yXL2,yXL3,yXL4,-,-⟩:=XL4a.out
    obtain⟨yXY0,yXY1,yXY2,yXY3,yXY4,-,-⟩:=XY4a.out
    have HYL:Hid (b6<w4.heap.size):=jD XL4.out.lt
    have hAw:offs w.heap.size [b6,w.heap.size] (w4.alloc (jO k4 a4 t4 n4 o4 l4 c4)).heap.size:=⟨(Nat.le_trans (jrr _) B4a.out.size),fun hp=>by simp only[List.mem_cons,List.not_mem_nil,or_false] at hp;have g0:=XL4a.out.lt;have g1:=XR4a.out.lt;omega⟩
    have hki:=jaw (flatIn.cons (TZ4a.out) (flatIn.one (TR44a.out))) (by simp) hAw 2 rfl
    have hz:(w4.alloc (jO k4 a4 t4 n4 o4 l4 c4)).heap.size=w4.heap.size+1:=by simp
    rw[hz] at hki;clear hz
    have KI:=jD hki
    clear hAw hki
    go_wp2_with (go_at_call 47;refine cM (jam _ _ _ _ _ _ _) ?_;rintro e w5 ⟨rfl,hb5⟩)
    have hbx:=Butt.of_below (R:=R) A4a.out.fix.lt (Below.chain (jN (oD k a t n o l c k4 a4 t4 n4 o4 l4 c4)) hb5)
    have ha5:Rf R L w5 _ _:=⟨A4a.out.fix.butt hbx,A4a.out.rs.below (Below.chain (jN (oD k a t n o l c k4 a4 t4 n4 o4 l4 c4)) hb5)⟩
    have TN:=jD (jac.mpr ⟨_,rfl,KI.out.below hb5⟩:synIn (offs w.heap.size [b6,w.heap.size]) w5 (.mk 22 z1 tt 0 [z,(.mk k4 a4 t4 n4 q4)]) _)
    have hb5:=hbx;clear hbx
    have A5:=jD ha5;have B5:=jtt B4a hb5
    have XR5:=jbb XR4a HPR hb5
    have XL5:=jbb XL4a HPL hb5
    clear ha5 hb5
    refine jD ?_
    have FT:=jD (jas HA0.out B5.out A5.out XL5.out HB6.out (.int .i64 22) (.int .i64 z1) (.string tt) (.int .i64 0) (.slice (some ⟨w4.heap.size+1,0,none⟩) 2 2) _ rfl)
    obtain⟨yXL0,yXL1,yXL2,yXL3,yXL4,fXL0,fXL1,fXL2,fXL3,fXL4⟩:=bF XL5.out
    have A6s:=jD FT.out.2.1;have B6s:=jD FT.out.2.2.1;have XL6s:=jD FT.out.1
    have XR6s:=jD (XR5.out.kept (Nat.ne_of_lt H6P.out) FT.out.2.2.2)
    have TS6:=jD ((TN.out).kept (by simp) FT.out.2.2.2)
    clear FT
    have HNX:Hid (RepRf R L w d st 5 z1 b6 _ s4 _ 22 z1 0 tt (some ⟨w4.heap.size+1,0,none⟩) 2 2):=jD ⟨A6s.out,B6s.out,XR6s.out,XL6s.out,TS6.out,Nat.le_trans (Run.rem HS4.out) HRS.out,fun ys s' hs=>HR.out.go ys s' (jb3 HTL.out HPO.out HS4.out ys s' (by rw[HT.out];exact hs))⟩
    go_wp2
    go_roundw
    case rel=>exact⟨s4,_,_,_,_,_,_,_,_,HNX.out⟩
    case measure=>
     have e2:=HR.out.hat.rem_less (jhi HPO.out)
     have g1:=jbw HR.out.hat
     have g2:=jb2 HNX.out.hat
     have g3:=Run.rem HS4.out
     have g4:(RSt.ok (pTl l0)).rem=(pTl l0).length:=rfl
     rw[g1]
     omega
   |false=>
    cases hb2:rIs s [37] with
    |true=>
     have CO0:=fun W (H:Rf R L W d s)=>ris H [42] (by decide)
     rw[hb0] at CO0
     have CO1:=fun W (H:Rf R L W d s)=>ris H [47] (by decide)
     rw[hb1] at CO1
     have CO2:=fun W (H:Rf R L W d s)=>ris H [37] (by decide)
     rw[hb2] at CO2
     obtain⟨l0,rfl,hop⟩:=jbx hb2
     have hpo:pOp 5 l0=true:=by unfold pOp;unfold pIs at hop;rw[beq_iff_eq] at hop;rw[hop];decide
     have HPO:=jD hpo;have HOP:=jD hop
     have KO0:=jD CO0;have KO1:=jD CO1;have KO2:=jD CO2
     clear CO0 hb0 CO1 hb1 CO2 hb2 hpo hop
     have HR:=jD hrel
     have A0:=jD hrel.hat;have B0:=jD hrel.hb;have XR0:=jD hrel.xr;have XL0:=jD hrel.xl;have TZ:=jD hrel.tr
     clear hrel
     go_wp2_with (go_at_call 49;refine jX (KO0.out _ A0.out) B0 XR0 HPR fun w1 A1 B1 XR1 hb1=>?_)
     have XL1:=jbb XL0 HPL hb1
     have TZ1:=jD (TZ.out.butt HLT.out hb1)
     clear hb1
     refine jD ?_
     go_wp2_with (go_at_call 49;refine jX (KO1.out _ A1.out) B1 XR1 HPR fun w2 A2 B2 XR2 hb2=>?_)
     have XL2:=jbb XL1 HPL hb2
     have TZ2:=jD (TZ1.out.butt HLT.out hb2)
     clear hb2
     refine jD ?_
     go_wp2_with (go_at_call 49;refine jX (KO2.out _ A2.out) B2 XR2 HPR fun w3 A3 B3 XR3 hb3=>?_)
     have XL3:=jbb XL2 HPL hb3
     have TZ3:=jD (TZ2.out.butt HLT.out hb3)
     clear hb3
     refine jD ?_
     obtain⟨hf,nx,op,er,ae,h1,hr2,hr3⟩:=A3.out
     rcases hr3 with ⟨rfl,hr4,hll⟩|⟨he,e,hr4,hll⟩
     rotate_left
     ·cases hll
     have hlx:l0=L.drop nx:=by cases hll;rfl
     obtain⟨⟨b,oo,cc,r0,r1,r2,r3⟩,c1,c2,c3,c4,c5,c6,c7⟩:=hr2
     obtain⟨b',o',e',hat⟩:=r1.at c7
     cases e'
     obtain⟨d0,d1,d2⟩:=hat nx h1 w3 (Below.refl _ _)
     have gl:(nx:Int)<(L.length:Int):=by omega
     have g0:(0:Int)≤(nx:Int):=by omega
     rw[←jaO h1,←hlx] at d0 d1 d2
     clear hat r1 c2 c3 c4 c5 c6 c7 r2 r3 hr4 hll h1 hf d0 d2
     clear hlx
     have HTT:=jD (rfl:(pHd l0).t=(pHd l0).t)
     generalize hT:(pHd l0).t=tt at d1
     have HT:=jD hT;clear hT HTT
     go_wp2_with fail
     go_quiet (fail)
     have AQ:=jD (A3.out.below (below_drewN (Below.refl w3.heap.size w3) nq));have BQ:=jD (B3.out.trans (Butt.of_below A3.out.fix.lt (below_drewN (Below.refl w3.heap.size w3) nq)));have XRQ:=jD (XR3.out.below (below_drewN (Below.refl w3.heap.size w3) nq));have XLQ:=jD (XL3.out.below (below_drewN (Below.refl w3.heap.size w3) nq));have TZQ:=jD (TZ3.out.butt HLT.out (Butt.of_below A3.out.fix.lt (below_drewN (Below.refl w3.heap.size w3) nq)))
     go_wp2_with (go_at_call 59;refine jX (jcu AQ.out) BQ XRQ HPR fun w4 A4 B4 XR4 hb4=>?_)
     have XL4:=jbb XLQ HPL hb4
     have TZ4:=jD (TZQ.out.butt HLT.out hb4)
     clear hb4
     refine jD ?_
     have AS:=jD (show Rf R L w4 d (.ok (pTl l0)) from A4.out)
     have HRS:Hid ((pTl l0).length≤st.rem):=jD (Nat.le_trans (jat l0) HR.out.rem)
     go_wp2_with (go_at_call 90;refine cM (KL.out (.ok (pTl l0)) HRS.out _ AS.out) ?_;rintro e w5 ⟨x5,v5,s5,rfl,hx5,hs5,ha5,hb5⟩)
     obtain⟨k5,a5,t5,n5,o5,l5,c5,q5,rfl,rfl,hk5⟩:=hx5.shape
     have HS5:=jD hs5
     have TR5:=jD (synIn.of (l2:=w.heap.size) (ps:=[b6,w.heap.size]) hx5 (Nat.le_trans (jrr _) B4.out.size) (fun p hp=>by simp only[List.mem_cons,List.not_mem_nil,or_false] at hp;have g0:=XL4.out.lt;have g1:=XR4.out.lt;omega))
     have A5:=jD ha5;have B5:=jtt B4 hb5
     have XR5:=jbb XR4 HPR hb5
     have XL5:=jbb XL4 HPL hb5
     have TZ5:=jD (TZ4.out.butt HLT.out hb5)
     clear ha5 hb5 hx5 hk5 hs5
     refine jD ?_
     have A5a:=jD (A5.out.alloc (jO k5 a5 t5 n5 o5 l5 c5));have B5a:=jD (B5.out.alloc HRW.out (jO k5 a5 t5 n5 o5 l5 c5))
     have XR5a:=jD (XR5.out.alloc (jO k5 a5 t5 n5 o5 l5 c5))
     have XL5a:=jD (XL5.out.alloc (jO k5 a5 t5 n5 o5 l5 c5))
     have TZ5a:=jD (TZ5.out.butt HLT.out (Butt.of_below A5.out.fix.lt (jN (jO k5 a5 t5 n5 o5 l5 c5))))
     have TR55a:=jww TR5 HLT A5.out.fix.lt (jO k5 a5 t5 n5 o5 l5 c5)
     have PXY:=nR A5.out.fix.lt
     have XY5a:=jD (Bx5.new w5 (.int .i64 k5) (.int .i64 a5) (.string t5) (.int .i64 n5) (.slice o5 l5 c5))
     obtain⟨yXL0,yXL1,yXL2,yXL3,yXL4,-,-⟩:=XL5a.out
     obtain⟨yXY0,yXY1,yXY2,yXY3,yXY4,-,-⟩:=XY5a.out
     have HYL:Hid (b6<w5.heap.size):=jD XL5.out.lt
     have hAw:offs w.heap.size [b6,w.heap.size] (w5.alloc (jO k5 a5 t5 n5 o5 l5 c5)).heap.size:=⟨(Nat.le_trans (jrr _) B5a.out.size),fun hp=>by simp only[List.mem_cons,List.not_mem_nil,or_false] at hp;have g0:=XL5a.out.lt;have g1:=XR5a.out.lt;omega⟩
     have hki:=jaw (flatIn.cons (TZ5a.out) (flatIn.one (TR55a.out))) (by simp) hAw 2 rfl
     have hz:(w5.alloc (jO k5 a5 t5 n5 o5 l5 c5)).heap.size=w5.heap.size+1:=by simp
     rw[hz] at hki;clear hz
     have KI:=jD hki
     clear hAw hki
     go_wp2_with (go_at_call 47;refine cM (jam _ _ _ _ _ _ _) ?_;rintro e w6 ⟨rfl,hb6⟩)
     have hbx:=Butt.of_below (R:=R) A5a.out.fix.lt (Below.chain (jN (oD k a t n o l c k5 a5 t5 n5 o5 l5 c5)) hb6)
     have ha6:Rf R L w6 _ _:=⟨A5a.out.fix.butt hbx,A5a.out.rs.below (Below.chain (jN (oD k a t n o l c k5 a5 t5 n5 o5 l5 c5)) hb6)⟩
     have TN:=jD (jac.mpr ⟨_,rfl,KI.out.below hb6⟩:synIn (offs w.heap.size [b6,w.heap.size]) w6 (.mk 22 z1 tt 0 [z,(.mk k5 a5 t5 n5 q5)]) _)
     have hb6:=hbx;clear hbx
     have A6:=jD ha6;have B6:=jtt B5a hb6
     have XR6:=jbb XR5a HPR hb6
     have XL6:=jbb XL5a HPL hb6
     clear ha6 hb6
     refine jD ?_
     have FT:=jD (jas HA0.out B6.out A6.out XL6.out HB6.out (.int .i64 22) (.int .i64 z1) (.string tt) (.int .i64 0) (.slice (some ⟨w5.heap.size+1,0,none⟩) 2 2) _ rfl)
     obtain⟨yXL0,yXL1,yXL2,yXL3,yXL4,fXL0,fXL1,fXL2,fXL3,fXL4⟩:=bF XL6.out
     have A7s:=jD FT.out.2.1;have B7s:=jD FT.out.2.2.1;have XL7s:=jD FT.out.1
     have XR7s:=jD (XR6.out.kept (Nat.ne_of_lt H6P.out) FT.out.2.2.2)
     have TS7:=jD ((TN.out).kept (by simp) FT.out.2.2.2)
     clear FT
     have HNX:Hid (RepRf R L w d st 5 z1 b6 _ s5 _ 22 z1 0 tt (some ⟨w5.heap.size+1,0,none⟩) 2 2):=jD ⟨A7s.out,B7s.out,XR7s.out,XL7s.out,TS7.out,Nat.le_trans (Run.rem HS5.out) HRS.out,fun ys s' hs=>HR.out.go ys s' (jb3 HTL.out HPO.out HS5.out ys s' (by rw[HT.out];exact hs))⟩
     go_wp2
     go_roundw
     case rel=>exact⟨s5,_,_,_,_,_,_,_,_,HNX.out⟩
     case measure=>
      have e2:=HR.out.hat.rem_less (jhi HPO.out)
      have g1:=jbw HR.out.hat
      have g2:=jb2 HNX.out.hat
      have g3:=Run.rem HS5.out
      have g4:(RSt.ok (pTl l0)).rem=(pTl l0).length:=rfl
      rw[g1]
      omega
    |false=>
     have CO0:=fun W (H:Rf R L W d s)=>ris H [42] (by decide)
     rw[hb0] at CO0
     have CO1:=fun W (H:Rf R L W d s)=>ris H [47] (by decide)
     rw[hb1] at CO1
     have CO2:=fun W (H:Rf R L W d s)=>ris H [37] (by decide)
     rw[hb2] at CO2
     have HPN:Hid (∀ l,s = .ok l→pOp 5 l=false):=jD (fun l e=>by subst e;unfold pOp;have g0:pIs [42] l=false:=hb0;unfold pIs at g0;have g1:pIs [47] l=false:=hb1;unfold pIs at g1;have g2:pIs [37] l=false:=hb2;unfold pIs at g2;simp only[pOps,List.contains_cons,List.contains_nil,Bool.or_false,g0,g1,g2,Bool.or_self])
     have KO0:=jD CO0;have KO1:=jD CO1;have KO2:=jD CO2
     clear CO0 hb0 CO1 hb1 CO2 hb2
     have HR:=jD hrel
     have A0:=jD hrel.hat;have B0:=jD hrel.hb;have XR0:=jD hrel.xr;have XL0:=jD hrel.xl;have TZ:=jD hrel.tr
     clear hrel
     go_wp2_with (go_at_call 49;refine jX (KO0.out _ A0.out) B0 XR0 HPR fun w1 A1 B1 XR1 hb1=>?_)
     have XL1:=jbb XL0 HPL hb1
     have TZ1:=jD (TZ.out.butt HLT.out hb1)
     clear hb1
     refine jD ?_
     go_wp2_with (go_at_call 49;refine jX (KO1.out _ A1.out) B1 XR1 HPR fun w2 A2 B2 XR2 hb2=>?_)
     have XL2:=jbb XL1 HPL hb2
     have TZ2:=jD (TZ1.out.butt HLT.out hb2)
     clear hb2
     refine jD ?_
     go_wp2_with (go_at_call 49;refine jX (KO2.out _ A2.out) B2 XR2 HPR fun w3 A3 B3 XR3 hb3=>?_)
     have XL3:=jbb XL2 HPL hb3
     have TZ3:=jD (TZ2.out.butt HLT.out hb3)
     clear hb3
     refine jD ?_
     obtain⟨yXL0,yXL1,yXL2,yXL3,yXL4,-,-⟩:=XL3.out
     have FT:=jD (jas HA0.out B3.out A3.out XR3.out (jrr _) (.int .i64 k) (.int .i64 a) (.string t) (.int .i64 n) (.slice o l c) _ rfl)
     have GX:=jD ((TZ3.out).kept (by simp) FT.out.2.2.2).at
     obtain⟨yXR0,yXR1,yXR2,yXR3,yXR4,fXR0,fXR1,fXR2,fXR3,fXR4⟩:=bF XR3.out
     obtain⟨r0,r1,r2,r3,r4⟩:=FT.out.1
     have GA:=jD FT.out.2.1;have GB:=jD FT.out.2.2.1
     clear FT
     go_wp2
     refine bodyPost_ret (by simp[results,Tryz.results58,go_sem,r0,r1,r2,r3,r4];rfl) rfl ?_
     exact⟨_,_,_,rfl,GX.out,HR.out.go _ _ (jcH HR.out.hat.fine HPN.out),GA.out,GB.out⟩
theorem jmM {R:Nat} {L:List Tk} {d:Nat} {st:RSt} {w:World} (h:Rf R L w d st) (K:∀ s:RSt,s.rem≤st.rem→GF 57 R L #[.pointer (some ⟨R,0,none⟩)] (.lvl 1) d s) :
  Calls Tryz.prog 22 #[.pointer (some ⟨R,0,none⟩)] w (PF R L (.lvl 0) d st w):=by
 have HTL:=jD h.fix.toks.toks
 have KL:=jD K
 clear K
 have HA0:=jD h
 have HLT:=jD h.fix.lt;have HRW:=jD h.fix.lt
 have A0:=jD (h.alloc jZ);obtain⟨B0,XR0,HPR,HLS⟩:=jS h.fix.lt
 clear h 
 go_enter Tryz.func22,Tryz.ntmps22
 have CH:=fun W (H:Rf R L W d st)=>jcy H
 have KH:=jD CH;clear CH
 go_wp2_with (go_at_call 48;refine cM (KH.out _ A0.out) ?_;rintro e w1 ⟨z1,rfl,hz1,ha1,hb1⟩)
 have HZ1:=jD hz1
 have A1:=jD ha1;have B1:=jtt B0 hb1
 have XR1:=jbb XR0 HPR hb1
 clear ha1 hb1 hz1
 refine jD ?_
 go_wp2_with (go_at_call 57;refine cM (KL.out st (jrr _) _ A1.out) ?_;rintro e w2 ⟨x2,v2,s2,rfl,hx2,hs2,ha2,hb2⟩)
 obtain⟨k2,a2,t2,n2,o2,l2,c2,q2,rfl,rfl,hk2⟩:=hx2.shape
 have HS2:=jD hs2
 have TR2:=tA hx2 B1.out.size XR1.out.lt
 have A2:=jD ha2;have B2:=jtt B1 hb2
 have XR2:=jbb XR1 HPR hb2
 clear ha2 hb2 hx2 hk2 hs2
 refine jD ?_
 have TC:=jD (TR2.out.cons (q:=w2.heap.size) (jrr _))
 have HR0:=jD (Run.rem HS2.out);have HG0:=jD (jcn (i:=0) (by omega) HZ1.out HS2.out)
 have HB6:Hid (w.heap.size≤w2.heap.size):=jD B2.out.size;have H6P:Hid (w.heap.size<w2.heap.size):=jD XR2.out.lt
 have A2a:=jD (A2.out.alloc (jO k2 a2 t2 n2 o2 l2 c2));have B2a:=jD (B2.out.alloc HRW.out (jO k2 a2 t2 n2 o2 l2 c2))
 have XR2a:=jD (XR2.out.alloc (jO k2 a2 t2 n2 o2 l2 c2))
 have TC2a:=jD (TC.out.butt HLT.out (Butt.of_below A2.out.fix.lt (jN (jO k2 a2 t2 n2 o2 l2 c2))))
 have PXL:=nR A2.out.fix.lt
 have XL2a:=jD (Bx5.new w2 (.int .i64 k2) (.int .i64 a2) (.string t2) (.int .i64 n2) (.slice o2 l2 c2))
 go_wp2_with fail
 have HLP:Hid (RepRf R L w d st 0 z1 w2.heap.size _ s2 _ k2 a2 n2 t2 o2 l2 c2):=jD ⟨A2a.out,B2a.out,XR2a.out,XL2a.out,TC2a.out,HR0.out,HG0.out⟩
 have HPL:=PXL
 generalize w2.alloc (jO k2 a2 t2 n2 o2 l2 c2)=WB at *
 generalize w2.heap.size=b6 at *
 go_loopw [] (fun wr=>∃ (s:RSt) (z:Syn) (k a n:Int) (t:ByteArray) (o:Option Addr) (l c:Nat),RepRf R L w d st 0 z1 b6 wr s z k a n t o l c) (fun wr=>remR R L wr)
 case atStart=>exact⟨s2,_,k2,a2,n2,t2,o2,l2,c2,HLP.out⟩
 case round=>
  obtain⟨s,z,k,a,n,t,o,l,c,hrel⟩:=hrel
  cases hb0:rIs s [111,114] with
  |true=>
   have CO0:=fun W (H:Rf R L W d s)=>jbD H [111,114] (by decide)
   rw[hb0] at CO0
   simp only[if_true] at CO0
   obtain⟨l0,rfl,hop⟩:=jbx hb0
   have hpo:pOp 0 l0=true:=by unfold pOp;unfold pIs at hop;rw[beq_iff_eq] at hop;rw[hop];decide
   have HPO:=jD hpo;have HOP:=jD hop
   have KO0:=jD CO0
   clear CO0 hb0 hpo hop
   have HR:=jD hrel
   have A0:=jD hrel.hat;have B0:=jD hrel.hb;have XR0:=jD hrel.xr;have XL0:=jD hrel.xl;have TZ:=jD hrel.tr
   clear hrel
   go_wp2_with (go_at_call 51;refine jX (KO0.out _ A0.out) B0 XR0 HPR fun w1 A1 B1 XR1 hb1=>?_)
   have XL1:=jbb XL0 HPL hb1
   have TZ1:=jD (TZ.out.butt HLT.out hb1)
   clear hb1
   refine jD ?_
   obtain⟨tt,HT⟩:∃ tt,Hid ((pHd l0).t=tt):=⟨_,jD rfl⟩
   have AS:=jD (show Rf R L w1 d (.ok (pTl l0)) from A1.out)
   have HRS:Hid ((pTl l0).length≤st.rem):=jD (Nat.le_trans (jat l0) HR.out.rem)
   go_wp2_with (go_at_call 57;refine cM (KL.out (.ok (pTl l0)) HRS.out _ AS.out) ?_;rintro e w2 ⟨x2,v2,s2,rfl,hx2,hs2,ha2,hb2⟩)
   obtain⟨k2,a2,t2,n2,o2,l2,c2,q2,rfl,rfl,hk2⟩:=hx2.shape
   have HS2:=jD hs2
   have TR2:=jD (synIn.of (l2:=w.heap.size) (ps:=[b6,w.heap.size]) hx2 (Nat.le_trans (jrr _) B1.out.size) (fun p hp=>by simp only[List.mem_cons,List.not_mem_nil,or_false] at hp;have g0:=XL1.out.lt;have g1:=XR1.out.lt;omega))
   have A2:=jD ha2;have B2:=jtt B1 hb2
   have XR2:=jbb XR1 HPR hb2
   have XL2:=jbb XL1 HPL hb2
   have TZ2:=jD (TZ1.out.butt HLT.out hb2)
   clear ha2 hb2 hx2 hk2 hs2
   refine jD ?_
   have A2a:=jD (A2.out.alloc (jO k2 a2 t2 n2 o2 l2 c2));have B2a:=jD (B2.out.alloc HRW.out (jO k2 a2 t2 n2 o2 l2 c2))
   have XR2a:=jD (XR2.out.alloc (jO k2 a2 t2 n2 o2 l2 c2))
   have XL2a:=jD (XL2.out.alloc (jO k2 a2 t2 n2 o2 l2 c2))
   have TZ2a:=jD (TZ2.out.butt HLT.out (Butt.of_below A2.out.fix.lt (jN (jO k2 a2 t2 n2 o2 l2 c2))))
   have TR22a:=jww TR2 HLT A2.out.fix.lt (jO k2 a2 t2 n2 o2 l2 c2)
   have PXY:=nR A2.out.fix.lt
   have XY2a:=jD (Bx5.new w2 (.int .i64 k2) (.int .i64 a2) (.string t2) (.int .i64 n2) (.slice o2 l2 c2))
   obtain⟨yXL0,yXL1,yXL2,yXL3,yXL4,-,-⟩:=XL2a.out
   obtain⟨yXY0,yXY1,yXY2,yXY3,yXY4,-,-⟩:=XY2a.out
   have HYL:Hid (b6<w2.heap.size):=jD XL2.out.lt
   have hlt:(⟨#[111,114]⟩:ByteArray)=tt:=by rw[←HT.out];exact(jhg HOP.out).symm
   have HLI:=jD hlt;clear hlt
   have hAw:offs w.heap.size [b6,w.heap.size] (w2.alloc (jO k2 a2 t2 n2 o2 l2 c2)).heap.size:=⟨(Nat.le_trans (jrr _) B2a.out.size),fun hp=>by simp only[List.mem_cons,List.not_mem_nil,or_false] at hp;have g0:=XL2a.out.lt;have g1:=XR2a.out.lt;omega⟩
   have hki:=jaw (flatIn.cons (TZ2a.out) (flatIn.one (TR22a.out))) (by simp) hAw 2 rfl
   have hz:(w2.alloc (jO k2 a2 t2 n2 o2 l2 c2)).heap.size=w2.heap.size+1:=by simp
   rw[hz] at hki;clear hz
   have KI:=jD hki
   clear hAw hki
   go_wp2_with (go_at_call 47;refine cM (jam _ _ _ _ _ _ _) ?_;rintro e w3 ⟨rfl,hb3⟩)
   have hbx:=Butt.of_below (R:=R) A2a.out.fix.lt (Below.chain (jN (oD k a t n o l c k2 a2 t2 n2 o2 l2 c2)) hb3)
   have ha3:Rf R L w3 _ _:=⟨A2a.out.fix.butt hbx,A2a.out.rs.below (Below.chain (jN (oD k a t n o l c k2 a2 t2 n2 o2 l2 c2)) hb3)⟩
   have TN:=jD (jac.mpr ⟨_,rfl,KI.out.below hb3⟩:synIn (offs w.heap.size [b6,w.heap.size]) w3 (.mk 22 z1 ⟨#[111,114]⟩ 0 [z,(.mk k2 a2 t2 n2 q2)]) _)
   have hb3:=hbx;clear hbx
   have A3:=jD ha3;have B3:=jtt B2a hb3
   have XR3:=jbb XR2a HPR hb3
   have XL3:=jbb XL2a HPL hb3
   clear ha3 hb3
   refine jD ?_
   have FT:=jD (jas HA0.out B3.out A3.out XL3.out HB6.out (.int .i64 22) (.int .i64 z1) (.string ⟨#[111,114]⟩) (.int .i64 0) (.slice (some ⟨w2.heap.size+1,0,none⟩) 2 2) _ rfl)
   obtain⟨yXL0,yXL1,yXL2,yXL3,yXL4,fXL0,fXL1,fXL2,fXL3,fXL4⟩:=bF XL3.out
   have A4s:=jD FT.out.2.1;have B4s:=jD FT.out.2.2.1;have XL4s:=jD FT.out.1
   have XR4s:=jD (XR3.out.kept (Nat.ne_of_lt H6P.out) FT.out.2.2.2)
   have TS4:=jD ((TN.out).kept (by simp) FT.out.2.2.2)
   clear FT
   have HNX:Hid (RepRf R L w d st 0 z1 b6 _ s2 _ 22 z1 0 ⟨#[111,114]⟩ (some ⟨w2.heap.size+1,0,none⟩) 2 2):=jD ⟨A4s.out,B4s.out,XR4s.out,XL4s.out,TS4.out,Nat.le_trans (Run.rem HS2.out) HRS.out,fun ys s' hs=>HR.out.go ys s' (jb3 HTL.out HPO.out HS2.out ys s' (by rw[HT.out,←HLI.out];exact hs))⟩
   go_wp2
   go_roundw
   case rel=>exact⟨s2,_,_,_,_,_,_,_,_,HNX.out⟩
   case measure=>
    have e2:=HR.out.hat.rem_less (jhi HPO.out)
    have g1:=jbw HR.out.hat
    have g2:=jb2 HNX.out.hat
    have g3:=Run.rem HS2.out
    have g4:(RSt.ok (pTl l0)).rem=(pTl l0).length:=rfl
    rw[g1]
    omega
  |false=>
   have CO0:=fun W (H:Rf R L W d s)=>jbD H [111,114] (by decide)
   rw[hb0] at CO0
   simp only[Bool.false_eq_true,if_false] at CO0
   have HPN:Hid (∀ l,s = .ok l→pOp 0 l=false):=jD (fun l e=>by subst e;unfold pOp;have g0:pIs [111,114] l=false:=hb0;unfold pIs at g0;simp only[pOps,List.contains_cons,List.contains_nil,Bool.or_false,g0,Bool.or_self])
   have KO0:=jD CO0
   clear CO0 hb0
   have HR:=jD hrel
   have A0:=jD hrel.hat;have B0:=jD hrel.hb;have XR0:=jD hrel.xr;have XL0:=jD hrel.xl;have TZ:=jD hrel.tr
   clear hrel
   go_wp2_with (go_at_call 51;refine jX (KO0.out _ A0.out) B0 XR0 HPR fun w1 A1 B1 XR1 hb1=>?_)
   have XL1:=jbb XL0 HPL hb1
   have TZ1:=jD (TZ.out.butt HLT.out hb1)
   clear hb1
   refine jD ?_
   obtain⟨yXL0,yXL1,yXL2,yXL3,yXL4,-,-⟩:=XL1.out
   have FT:=jD (jas HA0.out B1.out A1.out XR1.out (jrr _) (.int .i64 k) (.int .i64 a) (.string t) (.int .i64 n) (.slice o l c) _ rfl)
   have GX:=jD ((TZ1.out).kept (by simp) FT.out.2.2.2).at
   obtain⟨yXR0,yXR1,yXR2,yXR3,yXR4,fXR0,fXR1,fXR2,fXR3,fXR4⟩:=bF XR1.out
   obtain⟨r0,r1,r2,r3,r4⟩:=FT.out.1
   have GA:=jD FT.out.2.1;have GB:=jD FT.out.2.2.1
   clear FT
   go_wp2
   refine bodyPost_ret (by simp[results,Tryz.results22,go_sem,r0,r1,r2,r3,r4];rfl) rfl ?_
   exact⟨_,_,_,rfl,GX.out,HR.out.go _ _ (jcH HR.out.hat.fine HPN.out),GA.out,GB.out⟩
theorem jmN {R:Nat} {L:List Tk} {d:Nat} {st:RSt} {w:World} (h:Rf R L w d st) (K:∀ s:RSt,s.rem≤st.rem→GF 89 R L #[.pointer (some ⟨R,0,none⟩)] (.lvl 2) d s) :
  Calls Tryz.prog 57 #[.pointer (some ⟨R,0,none⟩)] w (PF R L (.lvl 1) d st w):=by
 have HTL:=jD h.fix.toks.toks
 have KL:=jD K
 clear K
 have HA0:=jD h
 have HLT:=jD h.fix.lt;have HRW:=jD h.fix.lt
 have A0:=jD (h.alloc jZ);obtain⟨B0,XR0,HPR,HLS⟩:=jS h.fix.lt
 clear h 
 go_enter Tryz.func57,Tryz.ntmps57
 have CH:=fun W (H:Rf R L W d st)=>jcy H
 have KH:=jD CH;clear CH
 go_wp2_with (go_at_call 48;refine cM (KH.out _ A0.out) ?_;rintro e w1 ⟨z1,rfl,hz1,ha1,hb1⟩)
 have HZ1:=jD hz1
 have A1:=jD ha1;have B1:=jtt B0 hb1
 have XR1:=jbb XR0 HPR hb1
 clear ha1 hb1 hz1
 refine jD ?_
 go_wp2_with (go_at_call 89;refine cM (KL.out st (jrr _) _ A1.out) ?_;rintro e w2 ⟨x2,v2,s2,rfl,hx2,hs2,ha2,hb2⟩)
 obtain⟨k2,a2,t2,n2,o2,l2,c2,q2,rfl,rfl,hk2⟩:=hx2.shape
 have HS2:=jD hs2
 have TR2:=tA hx2 B1.out.size XR1.out.lt
 have A2:=jD ha2;have B2:=jtt B1 hb2
 have XR2:=jbb XR1 HPR hb2
 clear ha2 hb2 hx2 hk2 hs2
 refine jD ?_
 have TC:=jD (TR2.out.cons (q:=w2.heap.size) (jrr _))
 have HR0:=jD (Run.rem HS2.out);have HG0:=jD (jcn (i:=1) (by omega) HZ1.out HS2.out)
 have HB6:Hid (w.heap.size≤w2.heap.size):=jD B2.out.size;have H6P:Hid (w.heap.size<w2.heap.size):=jD XR2.out.lt
 have A2a:=jD (A2.out.alloc (jO k2 a2 t2 n2 o2 l2 c2));have B2a:=jD (B2.out.alloc HRW.out (jO k2 a2 t2 n2 o2 l2 c2))
 have XR2a:=jD (XR2.out.alloc (jO k2 a2 t2 n2 o2 l2 c2))
 have TC2a:=jD (TC.out.butt HLT.out (Butt.of_below A2.out.fix.lt (jN (jO k2 a2 t2 n2 o2 l2 c2))))
 have PXL:=nR A2.out.fix.lt
 have XL2a:=jD (Bx5.new w2 (.int .i64 k2) (.int .i64 a2) (.string t2) (.int .i64 n2) (.slice o2 l2 c2))
 go_wp2_with fail
 have HLP:Hid (RepRf R L w d st 1 z1 w2.heap.size _ s2 _ k2 a2 n2 t2 o2 l2 c2):=jD ⟨A2a.out,B2a.out,XR2a.out,XL2a.out,TC2a.out,HR0.out,HG0.out⟩
 have HPL:=PXL
 generalize w2.alloc (jO k2 a2 t2 n2 o2 l2 c2)=WB at *
 generalize w2.heap.size=b6 at *
 go_loopw [] (fun wr=>∃ (s:RSt) (z:Syn) (k a n:Int) (t:ByteArray) (o:Option Addr) (l c:Nat),RepRf R L w d st 1 z1 b6 wr s z k a n t o l c) (fun wr=>remR R L wr)
 case atStart=>exact⟨s2,_,k2,a2,n2,t2,o2,l2,c2,HLP.out⟩
 case round=>
  obtain⟨s,z,k,a,n,t,o,l,c,hrel⟩:=hrel
  cases hb0:rIs s [97,110,100] with
  |true=>
   have CO0:=fun W (H:Rf R L W d s)=>jbD H [97,110,100] (by decide)
   rw[hb0] at CO0
   simp only[if_true] at CO0
   obtain⟨l0,rfl,hop⟩:=jbx hb0
   have hpo:pOp 1 l0=true:=by unfold pOp;unfold pIs at hop;rw[beq_iff_eq] at hop;rw[hop];decide
   have HPO:=jD hpo;have HOP:=jD hop
   have KO0:=jD CO0
   clear CO0 hb0 hpo hop
   have HR:=jD hrel
   have A0:=jD hrel.hat;have B0:=jD hrel.hb;have XR0:=jD hrel.xr;have XL0:=jD hrel.xl;have TZ:=jD hrel.tr
   clear hrel
   go_wp2_with (go_at_call 51;refine jX (KO0.out _ A0.out) B0 XR0 HPR fun w1 A1 B1 XR1 hb1=>?_)
   have XL1:=jbb XL0 HPL hb1
   have TZ1:=jD (TZ.out.butt HLT.out hb1)
   clear hb1
   refine jD ?_
   obtain⟨tt,HT⟩:∃ tt,Hid ((pHd l0).t=tt):=⟨_,jD rfl⟩
   have AS:=jD (show Rf R L w1 d (.ok (pTl l0)) from A1.out)
   have HRS:Hid ((pTl l0).length≤st.rem):=jD (Nat.le_trans (jat l0) HR.out.rem)
   go_wp2_with (go_at_call 89;refine cM (KL.out (.ok (pTl l0)) HRS.out _ AS.out) ?_;rintro e w2 ⟨x2,v2,s2,rfl,hx2,hs2,ha2,hb2⟩)
   obtain⟨k2,a2,t2,n2,o2,l2,c2,q2,rfl,rfl,hk2⟩:=hx2.shape
   have HS2:=jD hs2
   have TR2:=jD (synIn.of (l2:=w.heap.size) (ps:=[b6,w.heap.size]) hx2 (Nat.le_trans (jrr _) B1.out.size) (fun p hp=>by simp only[List.mem_cons,List.not_mem_nil,or_false] at hp;have g0:=XL1.out.lt;have g1:=XR1.out.lt;omega))
   have A2:=jD ha2;have B2:=jtt B1 hb2
   have XR2:=jbb XR1 HPR hb2
   have XL2:=jbb XL1 HPL hb2
   have TZ2:=jD (TZ1.out.butt HLT.out hb2)
   clear ha2 hb2 hx2 hk2 hs2
   refine jD ?_
   have A2a:=jD (A2.out.alloc (jO k2 a2 t2 n2 o2 l2 c2));have B2a:=jD (B2.out.alloc HRW.out (jO k2 a2 t2 n2 o2 l2 c2))
   have XR2a:=jD (XR2.out.alloc (jO k2 a2 t2 n2 o2 l2 c2))
   have XL2a:=jD (XL2.out.alloc (jO k2 a2 t2 n2 o2 l2 c2))
   have TZ2a:=jD (TZ2.out.butt HLT.out (Butt.of_below A2.out.fix.lt (jN (jO k2 a2 t2 n2 o2 l2 c2))))
   have TR22a:=jww TR2 HLT A2.out.fix.lt (jO k2 a2 t2 n2 o2 l2 c2)
   have PXY:=nR A2.out.fix.lt
   have XY2a:=jD (Bx5.new w2 (.int .i64 k2) (.int .i64 a2) (.string t2) (.int .i64 n2) (.slice o2 l2 c2))
   obtain⟨yXL0,yXL1,yXL2,yXL3,yXL4,-,-⟩:=XL2a.out
   obtain⟨yXY0,yXY1,yXY2,yXY3,yXY4,-,-⟩:=XY2a.out
   have HYL:Hid (b6<w2.heap.size):=jD XL2.out.lt
   have hlt:(⟨#[97,110,100]⟩:ByteArray)=tt:=by rw[←HT.out];exact(jhg HOP.out).symm
   have HLI:=jD hlt;clear hlt
   have hAw:offs w.heap.size [b6,w.heap.size] (w2.alloc (jO k2 a2 t2 n2 o2 l2 c2)).heap.size:=⟨(Nat.le_trans (jrr _) B2a.out.size),fun hp=>by simp only[List.mem_cons,List.not_mem_nil,or_false] at hp;have g0:=XL2a.out.lt;have g1:=XR2a.out.lt;omega⟩
   have hki:=jaw (flatIn.cons (TZ2a.out) (flatIn.one (TR22a.out))) (by simp) hAw 2 rfl
   have hz:(w2.alloc (jO k2 a2 t2 n2 o2 l2 c2)).heap.size=w2.heap.size+1:=by simp
   rw[hz] at hki;clear hz
   have KI:=jD hki
   clear hAw hki
   go_wp2_with (go_at_call 47;refine cM (jam _ _ _ _ _ _ _) ?_;rintro e w3 ⟨rfl,hb3⟩)
   have hbx:=Butt.of_below (R:=R) A2a.out.fix.lt (Below.chain (jN (oD k a t n o l c k2 a2 t2 n2 o2 l2 c2)) hb3)
   have ha3:Rf R L w3 _ _:=⟨A2a.out.fix.butt hbx,A2a.out.rs.below (Below.chain (jN (oD k a t n o l c k2 a2 t2 n2 o2 l2 c2)) hb3)⟩
   have TN:=jD (jac.mpr ⟨_,rfl,KI.out.below hb3⟩:synIn (offs w.heap.size [b6,w.heap.size]) w3 (.mk 22 z1 ⟨#[97,110,100]⟩ 0 [z,(.mk k2 a2 t2 n2 q2)]) _)
   have hb3:=hbx;clear hbx
   have A3:=jD ha3;have B3:=jtt B2a hb3
   have XR3:=jbb XR2a HPR hb3
   have XL3:=jbb XL2a HPL hb3
   clear ha3 hb3
   refine jD ?_
   have FT:=jD (jas HA0.out B3.out A3.out XL3.out HB6.out (.int .i64 22) (.int .i64 z1) (.string ⟨#[97,110,100]⟩) (.int .i64 0) (.slice (some ⟨w2.heap.size+1,0,none⟩) 2 2) _ rfl)
   obtain⟨yXL0,yXL1,yXL2,yXL3,yXL4,fXL0,fXL1,fXL2,fXL3,fXL4⟩:=bF XL3.out
   have A4s:=jD FT.out.2.1;have B4s:=jD FT.out.2.2.1;have XL4s:=jD FT.out.1
   have XR4s:=jD (XR3.out.kept (Nat.ne_of_lt H6P.out) FT.out.2.2.2)
   have TS4:=jD ((TN.out).kept (by simp) FT.out.2.2.2)
   clear FT
   have HNX:Hid (RepRf R L w d st 1 z1 b6 _ s2 _ 22 z1 0 ⟨#[97,110,100]⟩ (some ⟨w2.heap.size+1,0,none⟩) 2 2):=jD ⟨A4s.out,B4s.out,XR4s.out,XL4s.out,TS4.out,Nat.le_trans (Run.rem HS2.out) HRS.out,fun ys s' hs=>HR.out.go ys s' (jb3 HTL.out HPO.out HS2.out ys s' (by rw[HT.out,←HLI.out];exact hs))⟩
   go_wp2
   go_roundw
   case rel=>exact⟨s2,_,_,_,_,_,_,_,_,HNX.out⟩
   case measure=>
    have e2:=HR.out.hat.rem_less (jhi HPO.out)
    have g1:=jbw HR.out.hat
    have g2:=jb2 HNX.out.hat
    have g3:=Run.rem HS2.out
    have g4:(RSt.ok (pTl l0)).rem=(pTl l0).length:=rfl
    rw[g1]
    omega
  |false=>
   have CO0:=fun W (H:Rf R L W d s)=>jbD H [97,110,100] (by decide)
   rw[hb0] at CO0
   simp only[Bool.false_eq_true,if_false] at CO0
   have HPN:Hid (∀ l,s = .ok l→pOp 1 l=false):=jD (fun l e=>by subst e;unfold pOp;have g0:pIs [97,110,100] l=false:=hb0;unfold pIs at g0;simp only[pOps,List.contains_cons,List.contains_nil,Bool.or_false,g0,Bool.or_self])
   have KO0:=jD CO0
   clear CO0 hb0
   have HR:=jD hrel
   have A0:=jD hrel.hat;have B0:=jD hrel.hb;have XR0:=jD hrel.xr;have XL0:=jD hrel.xl;have TZ:=jD hrel.tr
   clear hrel
   go_wp2_with (go_at_call 51;refine jX (KO0.out _ A0.out) B0 XR0 HPR fun w1 A1 B1 XR1 hb1=>?_)
   have XL1:=jbb XL0 HPL hb1
   have TZ1:=jD (TZ.out.butt HLT.out hb1)
   clear hb1
   refine jD ?_
   obtain⟨yXL0,yXL1,yXL2,yXL3,yXL4,-,-⟩:=XL1.out
   have FT:=jD (jas HA0.out B1.out A1.out XR1.out (jrr _) (.int .i64 k) (.int .i64 a) (.string t) (.int .i64 n) (.slice o l c) _ rfl)
   have GX:=jD ((TZ1.out).kept (by simp) FT.out.2.2.2).at
   obtain⟨yXR0,yXR1,yXR2,yXR3,yXR4,fXR0,fXR1,fXR2,fXR3,fXR4⟩:=bF XR1.out
   obtain⟨r0,r1,r2,r3,r4⟩:=FT.out.1
   have GA:=jD FT.out.2.1;have GB:=jD FT.out.2.2.1
   clear FT
   go_wp2
   refine bodyPost_ret (by simp[results,Tryz.results57,go_sem,r0,r1,r2,r3,r4];rfl) rfl ?_
   exact⟨_,_,_,rfl,GX.out,HR.out.go _ _ (jcH HR.out.hat.fine HPN.out),GA.out,GB.out⟩
end Go.Proofs.YtenmmmdnpglkoaaGreatDoor
