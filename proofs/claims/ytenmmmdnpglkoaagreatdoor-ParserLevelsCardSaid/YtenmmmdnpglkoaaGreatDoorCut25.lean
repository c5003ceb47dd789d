import Derived.Test.YtenmmmdnpglkoaaGreatDoorCut24
set_option linter.unusedSimpArgs false
set_option linter.unusedVariables false
set_option maxRecDepth 100000
set_option maxHeartbeats 8000000
/-
 The reference's reader: comparison.
-/
namespace Go.Proofs.YtenmmmdnpglkoaaGreatDoor
open Go Go.Proofs Go.RowKit Go.Sort
def sg (j:Nat):List UInt8:=(pOps 3).getD j [61]
theorem jmO (j:Nat):sg j≠[]:=by
 match j with
 |0|1|2|3|4|5=>decide
 |n+6=>unfold sg;rw[List.getD_eq_getElem?_getD,List.getElem?_eq_none (by simp[pOps])];decide
structure CmpRf (R:Nat) (L:List Tk) (w:World) (d:Nat) (st:RSt) (b6 bS:Nat) (wr:World) (s:RSt) (z:Syn) (k a n:Int) (t:ByteArray) (o:Option Addr) (l c:Nat):Prop where
 hat:Rf R L wr d s
 hb:Butt R w wr
 xr:Bx5 wr w.heap.size (.int .i64 0) (.int .i64 0) (.string ⟨#[]⟩) (.int .i64 0) (.slice none 0 0)
 xl:Bx5 wr b6 (.int .i64 k) (.int .i64 a) (.string t) (.int .i64 n) (.slice o l c)
 tr:synIn (offs w.heap.size [w.heap.size]) wr z (.agg #[.int .i64 k,.int .i64 a,.string t,.int .i64 n,.slice o l c])
 sig:∀ i,i<6→wr.cell? ⟨bS,i,none⟩=some (.string ⟨(sg i).toArray⟩)
 lt:bS<wr.heap.size
 ne:bS≠R
theorem jiq {d:Nat} {st s:RSt} {x:Syn} (hx:Stp (.lvl 4) d st [x] s) (hn:∀ i,i<6→rIs s (sg i)=false) (hf:st.fine):Stp (.lvl 3) d st [x] s:=by
 have hb:∀ l,s = .ok l→pOp 3 l=false:=fun l e=>by
  subst e
  have g0:pIs [61] l=false:=hn 0 (by decide)
  have g1:pIs [33,61] l=false:=hn 1 (by decide)
  have g2:pIs [60] l=false:=hn 2 (by decide)
  have g3:pIs [60,61] l=false:=hn 3 (by decide)
  have g4:pIs [62] l=false:=hn 4 (by decide)
  have g5:pIs [62,61] l=false:=hn 5 (by decide)
  unfold pIs at g0 g1 g2 g3 g4 g5
  unfold pOp
  simp only[pOps,List.contains_cons,List.contains_nil,Bool.or_false,g0,g1,g2,g3,g4,g5,Bool.or_self]
 refine Run.mk (fun a e h=>by subst h;exact hx) fun l h=>?_
 subst h
 rcases elS hx with ⟨l',rfl,h0,h1,N,hN⟩|⟨a,e,he,rfl,N,hN⟩
 ·have hb:=hb l' rfl
  exact jcl h0 h1 N fun f hf=>by rw[jaf];simp[hN f hf,hb,bind,Except.bind,pure,Except.pure]
 ·exact jbj he N fun f hf=>by rw[jaf];simp[hN f hf,bind,Except.bind]
theorem jhj {L l:List Tk} {d j:Nat} {st st':RSt} {x y:Syn} {z:Int} (hL:TkL L) (hz:hasA st z) (hj:j<6) (hx:Stp (.lvl 4) d st [x] (.ok l)) (hb:pIs (sg j) l=true) (hy:Stp (.lvl 4) d (.ok (pTl l)) [y] st'):Stp (.lvl 3) d st [.mk 22 z ⟨(sg j).toArray⟩ 0 [x,y]] st':=by
 rw[←jhg hb]
 cases st with
 |bad a e=>cases (show RSt.ok l = .bad a e from hx)
 |ok l0=>
  obtain rfl:=hz l0 rfl
  refine jf1 (L:=L) (st:=.ok l0) (st1:=.ok l) hL hx ?_ hy
  rw[jdj]
  unfold pIs at hb
  rw[beq_iff_eq] at hb
  unfold pOp
  rw[hb]
  match j,hj with
  |0,_|1,_|2,_|3,_|4,_|5,_=>decide
theorem jhk {R:Nat} {L:List Tk} {d:Nat} {st:RSt} {w:World} (h:Rf R L w d st) (K:∀ s:RSt,s.rem≤st.rem→GF 23 R L #[.pointer (some ⟨R,0,none⟩)] (.lvl 4) d s) :
  Calls Tryz.prog 123 #[.pointer (some ⟨R,0,none⟩)] w (PF R L (.lvl 3) d st w):=by
 have HTL:=jD h.fix.toks.toks
 have hfi:=h.fine
 have HFI:=jD hfi
 have KL:=jD K
 clear K hfi
 have HA0:=jD h
 have HLT:=jD h.fix.lt;have HRW:=jD h.fix.lt
 have A0:=jD (h.alloc jZ);obtain⟨B0,XR0,HPR,HLS⟩:=jS h.fix.lt
 clear h 
 go_enter Tryz.func123,Tryz.ntmps123
 have CH:=fun W (H:Rf R L W d st)=>jcy H
 have KH:=jD CH;clear CH
 go_wp2_with (go_at_call 48;refine cM (KH.out _ A0) ?_;rintro e w1 ⟨z1,rfl,hz1,ha1,hb1⟩)
 have HZ1:=jD hz1
 have A1:=jD ha1;have B1:=jtt B0 hb1
 have XR1:=jbb XR0 HPR hb1
 clear ha1 hb1 hz1
 refine jD ?_
 go_wp2_with (go_at_call 23;refine jT (KL.out st (jrr _) _ A1) B1 XR1 HPR fun w2 k2 a2 t2 n2 o2 l2 c2 q2 s2 HS2 TR2 A2 B2 XR2=>?_)
 refine jD ?_
 have HR0:=jD (Run.rem HS2)
 have A2a:=jD (A2.out.alloc (jO k2 a2 t2 n2 o2 l2 c2));have B2a:=jD (B2.out.alloc HRW (jO k2 a2 t2 n2 o2 l2 c2))
 have XR2a:=jD (XR2.out.alloc (jO k2 a2 t2 n2 o2 l2 c2))
 have TR22a:=jww TR2 HLT A2.out.fix.lt (jO k2 a2 t2 n2 o2 l2 c2)
 have PXL:=nR A2.out.fix.lt
 have XL2a:=jD (jn5 w2 k2 a2 t2 n2 o2 l2 c2)
 have hsg:∀ j,j<6→((w2.alloc (jO k2 a2 t2 n2 o2 l2 c2)).alloc (Obj.cells #[.string ⟨#[61]⟩,.string ⟨#[33,61]⟩,.string ⟨#[60]⟩,.string ⟨#[60,61]⟩,.string ⟨#[62]⟩,.string ⟨#[62,61]⟩] 9)).cell? ⟨w2.heap.size+1,j,none⟩=some (.string ⟨(sg j).toArray⟩):=fun j hj=>by
  have e:=World.cell?_alloc_new (w2.alloc (jO k2 a2 t2 n2 o2 l2 c2)) #[.string ⟨#[61]⟩,.string ⟨#[33,61]⟩,.string ⟨#[60]⟩,.string ⟨#[60,61]⟩,.string ⟨#[62]⟩,.string ⟨#[62,61]⟩] 9 j
  rw[show (w2.alloc (jO k2 a2 t2 n2 o2 l2 c2)).heap.size=w2.heap.size+1 by simp] at e
  rw[e]
  match j,hj with
  |0,_|1,_|2,_|3,_|4,_|5,_=>rfl
 have A2a1:=jD (A2a.out.alloc (Obj.cells #[.string ⟨#[61]⟩,.string ⟨#[33,61]⟩,.string ⟨#[60]⟩,.string ⟨#[60,61]⟩,.string ⟨#[62]⟩,.string ⟨#[62,61]⟩] 9));have B2a1:=jD (B2a.out.alloc HRW (Obj.cells #[.string ⟨#[61]⟩,.string ⟨#[33,61]⟩,.string ⟨#[60]⟩,.string ⟨#[60,61]⟩,.string ⟨#[62]⟩,.string ⟨#[62,61]⟩] 9))
 have XR2a1:=jD (XR2a.out.alloc (Obj.cells #[.string ⟨#[61]⟩,.string ⟨#[33,61]⟩,.string ⟨#[60]⟩,.string ⟨#[60,61]⟩,.string ⟨#[62]⟩,.string ⟨#[62,61]⟩] 9))
 have XL2a1:=jD (XL2a.out.alloc (Obj.cells #[.string ⟨#[61]⟩,.string ⟨#[33,61]⟩,.string ⟨#[60]⟩,.string ⟨#[60,61]⟩,.string ⟨#[62]⟩,.string ⟨#[62,61]⟩] 9))
 have TR22a1:=jww TR22a HLT A2a.out.fix.lt (Obj.cells #[.string ⟨#[61]⟩,.string ⟨#[33,61]⟩,.string ⟨#[60]⟩,.string ⟨#[60,61]⟩,.string ⟨#[62]⟩,.string ⟨#[62,61]⟩] 9)
 have HLP:Hid (CmpRf R L w d st w2.heap.size (w2.heap.size+1) _ s2 _ k2 a2 n2 t2 o2 l2 c2):=jD ⟨A2a1.out,B2a1.out,XR2a1.out,XL2a1.out,TR22a1.out,hsg,by simp,fun e=>by have g:=A2.out.fix.lt;omega⟩
 have H6P:Hid (w.heap.size<w2.heap.size):=jD XR2.out.lt;have H7P:Hid (w.heap.size<w2.heap.size+1):=jD (Nat.lt_succ_of_lt XR2.out.lt)
 clear hsg
 go_wp2_with fail
 have HPL:=PXL
 generalize (w2.alloc (jO k2 a2 t2 n2 o2 l2 c2)).alloc (Obj.cells #[.string ⟨#[61]⟩,.string ⟨#[33,61]⟩,.string ⟨#[60]⟩,.string ⟨#[60,61]⟩,.string ⟨#[62]⟩,.string ⟨#[62,61]⟩] 9)=WB at *
 generalize w2.heap.size+1=bS at *
 generalize w2.heap.size=b6 at *
 go_loopw [6] (fun iv wr=>∃ j:Nat,j≤6∧iv = .int .i64 (j:Int)∧(∀ i,i<j→rIs s2 (sg i)=false)∧CmpRf R L w d st b6 bS wr s2 (.mk k2 a2 t2 n2 q2) k2 a2 n2 t2 o2 l2 c2) (fun iv _=>6-(intOf iv).toNat)
 case atStart=>exact⟨0,Nat.zero_le _,rfl,fun i h=>absurd h (Nat.not_lt_zero _),HLP.out⟩
 case round=>
  obtain⟨j,hj,rfl,hno,hrel⟩:=hrel
  by_cases hlt:j<6
  ·have hj1:(j:Int)<6:=by omega
   have hj2:decide ((j:Int)<6)=true:=by rw[decide_eq_true_iff];omega
   have hj0:(0:Int)≤(j:Int):=by omega
   have ej:wrap64 ((j:Int)+1)=(j:Int)+1:=by unfold wrap64;omega
   have hsig:=hrel.sig j hlt
   have CT:=fun W (H:Rf R L W d s2)=>jbD H (sg j) (jmO j)
   cases hb:rIs s2 (sg j) with
   |false=>
   rw[hb] at CT;simp only[Bool.false_eq_true,if_false] at CT;have KT:=jD CT;have HBB:=jD hb;have HJ:=jD hlt
   have hrel':=hrel
   have HR:=jD hrel;have HNO:=jD hno
   have A0:=jD hrel.hat;have B0:=jD hrel.hb;have XR0:=jD hrel.xr;have XL0:=jD hrel.xl;have TZ:=jD hrel.tr
   clear hrel hno
   have HEJ:=jD ej;have HSI:=jD hrel'.sig;have HLS:=jD hrel'.lt;have HNE:=jD hrel'.ne;clear hrel' hlt hb CT
   go_wp2_with (go_at_call 51;refine cM (KT.out _ A0) ?_;rintro e w3 ⟨rfl,ha3,hb3⟩)
   have HB3:=jD hb3
   have A3:=jD ha3;have B3:=jtt B0 hb3
   have XR3:=jbb XR0 HPR hb3
   have XL3:=jbb XL0 HPL hb3
   have TZ3:=jD (TZ.out.butt HLT hb3)
   clear ha3 hb3
   refine jD ?_
   go_wp2
   go_roundw
   case rel=>
    refine⟨j+1,by have:=HJ.out;omega,congrArg (Value.int .i64) (Int.natCast_add j 1).symm,fun i h=>?_,A3.out,B3.out,XR3.out,XL3.out,TZ3.out,fun i h=>(HB3.out.cell (p:=⟨bS,i,none⟩) HLS HNE).trans (HSI.out i h),Nat.lt_of_lt_of_le HLS HB3.out.size,HNE.out⟩
    rcases Nat.lt_or_ge i j with q|q
    ·exact HNO i q
    ·obtain rfl:i=j:=by omega
     exact HBB
   case measure=>have:=HJ.out;show 6-((j:Int)+1).toNat<6-((j:Int)).toNat;omega
   |true=>
   obtain⟨l0,hsl,hop⟩:=jbx hb
   rw[hb] at CT;simp only[if_true] at CT
   have HMY:=jD (fun y s' (hy:Stp (.lvl 4) d (.ok (pTl l0)) [y] s')=>jhj HTL HZ1 hlt (hsl ▸ HS2) hop hy)
   have HSL:=jD hsl;have KT:=jD CT;have hrel':=hrel
   have HR:=jD hrel;have HNO:=jD hno
   have A0:=jD hrel.hat;have B0:=jD hrel.hb;have XR0:=jD hrel.xr;have XL0:=jD hrel.xl;have TZ:=jD hrel.tr
   clear hrel hno
   have HLS:=jD hrel'.lt;have HNE:=jD hrel'.ne;have HSJ:=jD hsig;clear hrel' hlt hb CT hsl hop ej
   generalize hsj:(⟨(sg j).toArray⟩:ByteArray)=tj at *
   go_wp2_with (go_at_call 51;refine cM (KT.out _ A0) ?_;rintro e w3 ⟨rfl,ha3,hb3⟩)
   have HB3:=jD hb3
   have A3:=jD ha3;have B3:=jtt B0 hb3
   have XR3:=jbb XR0 HPR hb3
   have XL3:=jbb XL0 HPL hb3
   have TZ3:=jD (TZ.out.butt HLT hb3)
   clear ha3 hb3
   refine jD ?_
   have AS:=jD (show Rf R L w3 d (.ok (pTl l0)) from (by have g:=A3.out;rw[HSL.out] at g;exact g))
   have HRS:Hid ((pTl l0).length≤st.rem):=jD (Nat.le_trans (jat l0) (by have g:=HR0.out;rw[HSL.out] at g;exact g))
   go_wp2_with (go_at_call 23;refine cM (KL.out (.ok (pTl l0)) HRS _ AS) ?_;rintro e w4 ⟨x4,v4,s4,rfl,hx4,hs4,ha4,hb4⟩)
   obtain⟨k4,a4,t4,n4,o4,l4,c4,q4,rfl,rfl,hk4⟩:=hx4.shape
   have HS4:=jD hs4
   have TR4:=tA hx4 B3.out.size XR3.out.lt
   have HB4:=jD hb4
   have A4:=jD ha4;have B4:=jtt B3 hb4
   have XR4:=jbb XR3 HPR hb4
   have XL4:=jbb XL3 HPL hb4
   have TZ4:=jD (TZ3.out.butt HLT hb4)
   clear ha4 hb4 hx4 hk4 hs4
   refine jD ?_
   have A4a:=jD (A4.out.alloc (jO k4 a4 t4 n4 o4 l4 c4));have B4a:=jD (B4.out.alloc HRW (jO k4 a4 t4 n4 o4 l4 c4))
   have XR4a:=jD (XR4.out.alloc (jO k4 a4 t4 n4 o4 l4 c4))
   have XL4a:=jD (XL4.out.alloc (jO k4 a4 t4 n4 o4 l4 c4))
   have TZ4a:=jD (TZ4.out.butt HLT (Butt.of_below A4.out.fix.lt (jN (jO k4 a4 t4 n4 o4 l4 c4))))
   have TR44a:=jww TR4 HLT A4.out.fix.lt (jO k4 a4 t4 n4 o4 l4 c4)
   have PXY:=nR A4.out.fix.lt
   have XY4a:=jD (jn5 w4 k4 a4 t4 n4 o4 l4 c4)
   have sj:(w4.alloc (jO k4 a4 t4 n4 o4 l4 c4)).cell? ⟨bS,j,none⟩=some (.string tj):=by
    have g1:=(HB3.out.cell (p:=⟨bS,j,none⟩) HLS HNE).trans HSJ
    have g2:=(HB4.out.cell (p:=⟨bS,j,none⟩) (Nat.lt_of_lt_of_le HLS HB3.out.size) HNE).trans g1
    exact(((Below.refl w4.heap.size w4).alloc (jrr _) (jO k4 a4 t4 n4 o4 l4 c4)).cell (p:=⟨bS,j,none⟩) (Nat.lt_of_lt_of_le (Nat.lt_of_lt_of_le HLS HB3.out.size) HB4.out.size)).trans g2
   have slt:bS<(w4.alloc (jO k4 a4 t4 n4 o4 l4 c4)).heap.size:=Nat.lt_of_lt_of_le (Nat.lt_of_lt_of_le HLS HB3.out.size) (Nat.le_trans HB4.out.size (by simp))
   have HXYN:Hid (w.heap.size≠w4.heap.size):=jD (Nat.ne_of_lt XR4.out.lt)
   have HSJ2:=jD sj;have HSLT:=jD slt;clear slt
   go_wp2_with fail
   generalize w4.alloc (jO k4 a4 t4 n4 o4 l4 c4)=WA at *
   generalize w4.heap.size=bY at *
   have XRD:=jD (XR4a.out.below (Below.refl _ _).drew)
   have XLD:=jD (XL4a.out.below (Below.refl _ _).drew)
   have XYD:=jD (XY4a.out.below (Below.refl _ _).drew)
   have TZD:=jD (TZ4a.out.butt HLT (Butt.refl R WA).drew)
   have TYD:=jD (TR44a.out.butt HLT (Butt.refl R WA).drew)
   have AD:=jD (A4a.out.below (Below.refl _ _).drew);have BD:=jD (B4a.out.drew)
   have S0:World.cell? WA ⟨bS,j,none⟩=some (.string tj)∧World.cell? WA ⟨b6,0,none⟩=some (.int .i64 k2)∧World.cell? WA ⟨b6,1,none⟩=some (.int .i64 a2)∧World.cell? WA ⟨b6,2,none⟩=some (.string t2)∧World.cell? WA ⟨b6,3,none⟩=some (.int .i64 n2)∧World.cell? WA ⟨b6,4,none⟩=some (.slice o2 l2 c2)∧World.cell? WA ⟨bY,0,none⟩=some (.int .i64 k4)∧World.cell? WA ⟨bY,1,none⟩=some (.int .i64 a4)∧World.cell? WA ⟨bY,2,none⟩=some (.string t4)∧World.cell? WA ⟨bY,3,none⟩=some (.int .i64 n4)∧World.cell? WA ⟨bY,4,none⟩=some (.slice o4 l4 c4):=⟨HSJ2.out,(XL4a.out).c0,(XL4a.out).c1,(XL4a.out).c2,(XL4a.out).c3,(XL4a.out).c4,(XY4a.out).c0,(XY4a.out).c1,(XY4a.out).c2,(XY4a.out).c3,(XY4a.out).c4⟩
   have SD:World.cell? (WA.drew) ⟨bS,j,none⟩=some (.string tj)∧World.cell? (WA.drew) ⟨b6,0,none⟩=some (.int .i64 k2)∧World.cell? (WA.drew) ⟨b6,1,none⟩=some (.int .i64 a2)∧World.cell? (WA.drew) ⟨b6,2,none⟩=some (.string t2)∧World.cell? (WA.drew) ⟨b6,3,none⟩=some (.int .i64 n2)∧World.cell? (WA.drew) ⟨b6,4,none⟩=some (.slice o2 l2 c2)∧World.cell? (WA.drew) ⟨bY,0,none⟩=some (.int .i64 k4)∧World.cell? (WA.drew) ⟨bY,1,none⟩=some (.int .i64 a4)∧World.cell? (WA.drew) ⟨bY,2,none⟩=some (.string t4)∧World.cell? (WA.drew) ⟨bY,3,none⟩=some (.int .i64 n4)∧World.cell? (WA.drew) ⟨bY,4,none⟩=some (.slice o4 l4 c4):=⟨(((Below.refl WA.heap.size WA).drew).cell (p:=⟨bS,j,none⟩) HSLT).trans HSJ2,(XL4a.out.below ((Below.refl WA.heap.size WA).drew)).c0,(XL4a.out.below ((Below.refl WA.heap.size WA).drew)).c1,(XL4a.out.below ((Below.refl WA.heap.size WA).drew)).c2,(XL4a.out.below ((Below.refl WA.heap.size WA).drew)).c3,(XL4a.out.below ((Below.refl WA.heap.size WA).drew)).c4,(XY4a.out.below ((Below.refl WA.heap.size WA).drew)).c0,(XY4a.out.below ((Below.refl WA.heap.size WA).drew)).c1,(XY4a.out.below ((Below.refl WA.heap.size WA).drew)).c2,(XY4a.out.below ((Below.refl WA.heap.size WA).drew)).c3,(XY4a.out.below ((Below.refl WA.heap.size WA).drew)).c4⟩
   have S1:World.cell? (WA.alloc (oD k2 a2 t2 n2 o2 l2 c2 k4 a4 t4 n4 o4 l4 c4)) ⟨bS,j,none⟩=some (.string tj)∧World.cell? (WA.alloc (oD k2 a2 t2 n2 o2 l2 c2 k4 a4 t4 n4 o4 l4 c4)) ⟨b6,0,none⟩=some (.int .i64 k2)∧World.cell? (WA.alloc (oD k2 a2 t2 n2 o2 l2 c2 k4 a4 t4 n4 o4 l4 c4)) ⟨b6,1,none⟩=some (.int .i64 a2)∧World.cell? (WA.alloc (oD k2 a2 t2 n2 o2 l2 c2 k4 a4 t4 n4 o4 l4 c4)) ⟨b6,2,none⟩=some (.string t2)∧World.cell? (WA.alloc (oD k2 a2 t2 n2 o2 l2 c2 k4 a4 t4 n4 o4 l4 c4)) ⟨b6,3,none⟩=some (.int .i64 n2)∧World.cell? (WA.alloc (oD k2 a2 t2 n2 o2 l2 c2 k4 a4 t4 n4 o4 l4 c4)) ⟨b6,4,none⟩=some (.slice o2 l2 c2)∧World.cell? (WA.alloc (oD k2 a2 t2 n2 o2 l2 c2 k4 a4 t4 n4 o4 l4 c4)) ⟨bY,0,none⟩=some (.int .i64 k4)∧World.cell? (WA.alloc (oD k2 a2 t2 n2 o2 l2 c2 k4 a4 t4 n4 o4 l4 c4)) ⟨bY,1,none⟩=some (.int .i64 a4)∧World.cell? (WA.alloc (oD k2 a2 t2 n2 o2 l2 c2 k4 a4 t4 n4 o4 l4 c4)) ⟨bY,2,none⟩=some (.string t4)∧World.cell? (WA.alloc (oD k2 a2 t2 n2 o2 l2 c2 k4 a4 t4 n4 o4 l4 c4)) ⟨bY,3,none⟩=some (.int .i64 n4)∧World.cell? (WA.alloc (oD k2 a2 t2 n2 o2 l2 c2 k4 a4 t4 n4 o4 l4 c4)) ⟨bY,4,none⟩=some (.slice o4 l4 c4):=⟨(((Below.refl WA.heap.size WA).alloc (jrr _) (oD k2 a2 t2 n2 o2 l2 c2 k4 a4 t4 n4 o4 l4 c4)).cell (p:=⟨bS,j,none⟩) HSLT).trans HSJ2,(XL4a.out.below ((Below.refl WA.heap.size WA).alloc (jrr _) (oD k2 a2 t2 n2 o2 l2 c2 k4 a4 t4 n4 o4 l4 c4))).c0,(XL4a.out.below ((Below.refl WA.heap.size WA).alloc (jrr _) (oD k2 a2 t2 n2 o2 l2 c2 k4 a4 t4 n4 o4 l4 c4))).c1,(XL4a.out.below ((Below.refl WA.heap.size WA).alloc (jrr _) (oD k2 a2 t2 n2 o2 l2 c2 k4 a4 t4 n4 o4 l4 c4))).c2,(XL4a.out.below ((Below.refl WA.heap.size WA).alloc (jrr _) (oD k2 a2 t2 n2 o2 l2 c2 k4 a4 t4 n4 o4 l4 c4))).c3,(XL4a.out.below ((Below.refl WA.heap.size WA).alloc (jrr _) (oD k2 a2 t2 n2 o2 l2 c2 k4 a4 t4 n4 o4 l4 c4))).c4,(XY4a.out.below ((Below.refl WA.heap.size WA).alloc (jrr _) (oD k2 a2 t2 n2 o2 l2 c2 k4 a4 t4 n4 o4 l4 c4))).c0,(XY4a.out.below ((Below.refl WA.heap.size WA).alloc (jrr _) (oD k2 a2 t2 n2 o2 l2 c2 k4 a4 t4 n4 o4 l4 c4))).c1,(XY4a.out.below ((Below.refl WA.heap.size WA).alloc (jrr _) (oD k2 a2 t2 n2 o2 l2 c2 k4 a4 t4 n4 o4 l4 c4))).c2,(XY4a.out.below ((Below.refl WA.heap.size WA).alloc (jrr _) (oD k2 a2 t2 n2 o2 l2 c2 k4 a4 t4 n4 o4 l4 c4))).c3,(XY4a.out.below ((Below.refl WA.heap.size WA).alloc (jrr _) (oD k2 a2 t2 n2 o2 l2 c2 k4 a4 t4 n4 o4 l4 c4))).c4⟩
   have S2:World.cell? (WA.drew.alloc (oD k2 a2 t2 n2 o2 l2 c2 k4 a4 t4 n4 o4 l4 c4)) ⟨bS,j,none⟩=some (.string tj)∧World.cell? (WA.drew.alloc (oD k2 a2 t2 n2 o2 l2 c2 k4 a4 t4 n4 o4 l4 c4)) ⟨b6,0,none⟩=some (.int .i64 k2)∧World.cell? (WA.drew.alloc (oD k2 a2 t2 n2 o2 l2 c2 k4 a4 t4 n4 o4 l4 c4)) ⟨b6,1,none⟩=some (.int .i64 a2)∧World.cell? (WA.drew.alloc (oD k2 a2 t2 n2 o2 l2 c2 k4 a4 t4 n4 o4 l4 c4)) ⟨b6,2,none⟩=some (.string t2)∧World.cell? (WA.drew.alloc (oD k2 a2 t2 n2 o2 l2 c2 k4 a4 t4 n4 o4 l4 c4)) ⟨b6,3,none⟩=some (.int .i64 n2)∧World.cell? (WA.drew.alloc (oD k2 a2 t2 n2 o2 l2 c2 k4 a4 t4 n4 o4 l4 c4)) ⟨b6,4,none⟩=some (.slice o2 l2 c2)∧World.cell? (WA.drew.alloc (oD k2 a2 t2 n2 o2 l2 c2 k4 a4 t4 n4 o4 l4 c4)) ⟨bY,0,none⟩=some (.int .i64 k4)∧World.cell? (WA.drew.alloc (oD k2 a2 t2 n2 o2 l2 c2 k4 a4 t4 n4 o4 l4 c4)) ⟨bY,1,none⟩=some (.int .i64 a4)∧World.cell? (WA.drew.alloc (oD k2 a2 t2 n2 o2 l2 c2 k4 a4 t4 n4 o4 l4 c4)) ⟨bY,2,none⟩=some (.string t4)∧World.cell? (WA.drew.alloc (oD k2 a2 t2 n2 o2 l2 c2 k4 a4 t4 n4 o4 l4 c4)) ⟨bY,3,none⟩=some (.int .i64 n4)∧World.cell? (WA.drew.alloc (oD k2 a2 t2 n2 o2 l2 c2 k4 a4 t4 n4 o4 l4 c4)) ⟨bY,4,none⟩=some (.slice o4 l4 c4):=⟨((((Below.refl WA.heap.size WA).drew).alloc (jrr _) (oD k2 a2 t2 n2 o2 l2 c2 k4 a4 t4 n4 o4 l4 c4)).cell (p:=⟨bS,j,none⟩) HSLT).trans HSJ2,(XL4a.out.below (((Below.refl WA.heap.size WA).drew).alloc (jrr _) (oD k2 a2 t2 n2 o2 l2 c2 k4 a4 t4 n4 o4 l4 c4))).c0,(XL4a.out.below (((Below.refl WA.heap.size WA).drew).alloc (jrr _) (oD k2 a2 t2 n2 o2 l2 c2 k4 a4 t4 n4 o4 l4 c4))).c1,(XL4a.out.below (((Below.refl WA.heap.size WA).drew).alloc (jrr _) (oD k2 a2 t2 n2 o2 l2 c2 k4 a4 t4 n4 o4 l4 c4))).c2,(XL4a.out.below (((Below.refl WA.heap.size WA).drew).alloc (jrr _) (oD k2 a2 t2 n2 o2 l2 c2 k4 a4 t4 n4 o4 l4 c4))).c3,(XL4a.out.below (((Below.refl WA.heap.size WA).drew).alloc (jrr _) (oD k2 a2 t2 n2 o2 l2 c2 k4 a4 t4 n4 o4 l4 c4))).c4,(XY4a.out.below (((Below.refl WA.heap.size WA).drew).alloc (jrr _) (oD k2 a2 t2 n2 o2 l2 c2 k4 a4 t4 n4 o4 l4 c4))).c0,(XY4a.out.below (((Below.refl WA.heap.size WA).drew).alloc (jrr _) (oD k2 a2 t2 n2 o2 l2 c2 k4 a4 t4 n4 o4 l4 c4))).c1,(XY4a.out.below (((Below.refl WA.heap.size WA).drew).alloc (jrr _) (oD k2 a2 t2 n2 o2 l2 c2 k4 a4 t4 n4 o4 l4 c4))).c2,(XY4a.out.below (((Below.refl WA.heap.size WA).drew).alloc (jrr _) (oD k2 a2 t2 n2 o2 l2 c2 k4 a4 t4 n4 o4 l4 c4))).c3,(XY4a.out.below (((Below.refl WA.heap.size WA).drew).alloc (jrr _) (oD k2 a2 t2 n2 o2 l2 c2 k4 a4 t4 n4 o4 l4 c4))).c4⟩
   have S3:World.cell? ((WA.alloc (oD k2 a2 t2 n2 o2 l2 c2 k4 a4 t4 n4 o4 l4 c4)).drew) ⟨bS,j,none⟩=some (.string tj)∧World.cell? ((WA.alloc (oD k2 a2 t2 n2 o2 l2 c2 k4 a4 t4 n4 o4 l4 c4)).drew) ⟨b6,0,none⟩=some (.int .i64 k2)∧World.cell? ((WA.alloc (oD k2 a2 t2 n2 o2 l2 c2 k4 a4 t4 n4 o4 l4 c4)).drew) ⟨b6,1,none⟩=some (.int .i64 a2)∧World.cell? ((WA.alloc (oD k2 a2 t2 n2 o2 l2 c2 k4 a4 t4 n4 o4 l4 c4)).drew) ⟨b6,2,none⟩=some (.string t2)∧World.cell? ((WA.alloc (oD k2 a2 t2 n2 o2 l2 c2 k4 a4 t4 n4 o4 l4 c4)).drew) ⟨b6,3,none⟩=some (.int .i64 n2)∧World.cell? ((WA.alloc (oD k2 a2 t2 n2 o2 l2 c2 k4 a4 t4 n4 o4 l4 c4)).drew) ⟨b6,4,none⟩=some (.slice o2 l2 c2)∧World.cell? ((WA.alloc (oD k2 a2 t2 n2 o2 l2 c2 k4 a4 t4 n4 o4 l4 c4)).drew) ⟨bY,0,none⟩=some (.int .i64 k4)∧World.cell? ((WA.alloc (oD k2 a2 t2 n2 o2 l2 c2 k4 a4 t4 n4 o4 l4 c4)).drew) ⟨bY,1,none⟩=some (.int .i64 a4)∧World.cell? ((WA.alloc (oD k2 a2 t2 n2 o2 l2 c2 k4 a4 t4 n4 o4 l4 c4)).drew) ⟨bY,2,none⟩=some (.string t4)∧World.cell? ((WA.alloc (oD k2 a2 t2 n2 o2 l2 c2 k4 a4 t4 n4 o4 l4 c4)).drew) ⟨bY,3,none⟩=some (.int .i64 n4)∧World.cell? ((WA.alloc (oD k2 a2 t2 n2 o2 l2 c2 k4 a4 t4 n4 o4 l4 c4)).drew) ⟨bY,4,none⟩=some (.slice o4 l4 c4):=⟨((((Below.refl WA.heap.size WA).alloc (jrr _) (oD k2 a2 t2 n2 o2 l2 c2 k4 a4 t4 n4 o4 l4 c4)).drew).cell (p:=⟨bS,j,none⟩) HSLT).trans HSJ2,(XL4a.out.below (((Below.refl WA.heap.size WA).alloc (jrr _) (oD k2 a2 t2 n2 o2 l2 c2 k4 a4 t4 n4 o4 l4 c4)).drew)).c0,(XL4a.out.below (((Below.refl WA.heap.size WA).alloc (jrr _) (oD k2 a2 t2 n2 o2 l2 c2 k4 a4 t4 n4 o4 l4 c4)).drew)).c1,(XL4a.out.below (((Below.refl WA.heap.size WA).alloc (jrr _) (oD k2 a2 t2 n2 o2 l2 c2 k4 a4 t4 n4 o4 l4 c4)).drew)).c2,(XL4a.out.below (((Below.refl WA.heap.size WA).alloc (jrr _) (oD k2 a2 t2 n2 o2 l2 c2 k4 a4 t4 n4 o4 l4 c4)).drew)).c3,(XL4a.out.below (((Below.refl WA.heap.size WA).alloc (jrr _) (oD k2 a2 t2 n2 o2 l2 c2 k4 a4 t4 n4 o4 l4 c4)).drew)).c4,(XY4a.out.below (((Below.refl WA.heap.size WA).alloc (jrr _) (oD k2 a2 t2 n2 o2 l2 c2 k4 a4 t4 n4 o4 l4 c4)).drew)).c0,(XY4a.out.below (((Below.refl WA.heap.size WA).alloc (jrr _) (oD k2 a2 t2 n2 o2 l2 c2 k4 a4 t4 n4 o4 l4 c4)).drew)).c1,(XY4a.out.below (((Below.refl WA.heap.size WA).alloc (jrr _) (oD k2 a2 t2 n2 o2 l2 c2 k4 a4 t4 n4 o4 l4 c4)).drew)).c2,(XY4a.out.below (((Below.refl WA.heap.size WA).alloc (jrr _) (oD k2 a2 t2 n2 o2 l2 c2 k4 a4 t4 n4 o4 l4 c4)).drew)).c3,(XY4a.out.below (((Below.refl WA.heap.size WA).alloc (jrr _) (oD k2 a2 t2 n2 o2 l2 c2 k4 a4 t4 n4 o4 l4 c4)).drew)).c4⟩
   have hAw:offs w.heap.size [w.heap.size] WA.heap.size:=⟨B4a.out.size,fun hp=>by simp only[List.mem_cons,List.not_mem_nil,or_false] at hp;have g0:=XR4a.out.lt;omega⟩
   have KI:=jD (jaw (flatIn.cons (TZ4a.out) (flatIn.one (TR44a.out))) (by simp) hAw 2 rfl)
   have KJ:=jD (jaw (flatIn.cons (TZD.out) (flatIn.one (TYD.out))) (by simp) (show offs w.heap.size [w.heap.size] WA.drew.heap.size from hAw) 2 rfl);clear hAw
   go_region_held3 (fun w'=>World.cell? w' ⟨bS,j,none⟩=some (.string tj)∧World.cell? w' ⟨b6,0,none⟩=some (.int .i64 k2)∧World.cell? w' ⟨b6,1,none⟩=some (.int .i64 a2)∧World.cell? w' ⟨b6,2,none⟩=some (.string t2)∧World.cell? w' ⟨b6,3,none⟩=some (.int .i64 n2)∧World.cell? w' ⟨b6,4,none⟩=some (.slice o2 l2 c2)∧World.cell? w' ⟨bY,0,none⟩=some (.int .i64 k4)∧World.cell? w' ⟨bY,1,none⟩=some (.int .i64 a4)∧World.cell? w' ⟨bY,2,none⟩=some (.string t4)∧World.cell? w' ⟨bY,3,none⟩=some (.int .i64 n4)∧World.cell? w' ⟨bY,4,none⟩=some (.slice o4 l4 c4)) (first|(with_reducible exact S0)|(with_reducible exact SD)|(with_reducible exact S1)|(with_reducible exact S2)|(with_reducible exact S3)|(with_reducible exact SC)|(with_reducible exact SE)|fail) (first|(go_at_call 47;refine(jam _ _ _ _ _ _ _).mono ?_;rintro e w9 ⟨rfl,hb9⟩;have hbx:Below WA.heap.size WA w9:=(by first|exact Below.chain ((Below.refl WA.heap.size WA).alloc (jrr _) _) hb9|exact Below.chain (((Below.refl WA.heap.size WA).drew).alloc (jrr _) _) hb9|exact Below.chain (((Below.refl WA.heap.size WA).alloc (jrr _) _).drew) hb9);have HBX:=jD hbx;have HKI:Hid (kidsIn (offs w.heap.size [w.heap.size]) w9 [(.mk k2 a2 t2 n2 q2),(.mk k4 a4 t4 n4 q4)] (.slice (some ⟨WA.heap.size,0,none⟩) 2 2)):=jD (by first|exact KI.out.below hb9|exact KJ.out.below hb9|exact KI.out.below (Below.chain (Below.refl _ _).drew hb9));obtain⟨g0,g1,g2,g3,g4,gf,gl⟩:=XR4a.out.below hbx;have gf0:=gf 0;have gf1:=gf 1;have gf2:=gf 2;have gf3:=gf 3;have gf4:=gf 4;have SC:World.cell? w9 ⟨bS,j,none⟩=some (.string tj)∧World.cell? w9 ⟨b6,0,none⟩=some (.int .i64 k2)∧World.cell? w9 ⟨b6,1,none⟩=some (.int .i64 a2)∧World.cell? w9 ⟨b6,2,none⟩=some (.string t2)∧World.cell? w9 ⟨b6,3,none⟩=some (.int .i64 n2)∧World.cell? w9 ⟨b6,4,none⟩=some (.slice o2 l2 c2)∧World.cell? w9 ⟨bY,0,none⟩=some (.int .i64 k4)∧World.cell? w9 ⟨bY,1,none⟩=some (.int .i64 a4)∧World.cell? w9 ⟨bY,2,none⟩=some (.string t4)∧World.cell? w9 ⟨bY,3,none⟩=some (.int .i64 n4)∧World.cell? w9 ⟨bY,4,none⟩=some (.slice o4 l4 c4):=⟨((HBX.out).cell (p:=⟨bS,j,none⟩) HSLT).trans HSJ2,(XL4a.out.below (HBX.out)).c0,(XL4a.out.below (HBX.out)).c1,(XL4a.out.below (HBX.out)).c2,(XL4a.out.below (HBX.out)).c3,(XL4a.out.below (HBX.out)).c4,(XY4a.out.below (HBX.out)).c0,(XY4a.out.below (HBX.out)).c1,(XY4a.out.below (HBX.out)).c2,(XY4a.out.below (HBX.out)).c3,(XY4a.out.below (HBX.out)).c4⟩;have FT:=jD (jas HA0 (B4a.out.trans (Butt.of_below A4a.out.fix.lt HBX)) (A4a.out.below HBX) (XR4a.out.below HBX) (jrr _) (.int .i64 22) (.int .i64 z1) (.string tj) (.int .i64 0) (.slice (some ⟨WA.heap.size,0,none⟩) 2 2) _ rfl);have ZL:=(XL4a.out.below HBX).kept (Ne.symm (Nat.ne_of_lt H6P)) FT.out.2.2.2;have ZY:=(XY4a.out.below HBX).kept (Ne.symm HXYN) FT.out.2.2.2;have SE:World.cell? (((((w9.setCell ⟨w.heap.size,0,none⟩ (.int .i64 22)).setCell ⟨w.heap.size,1,none⟩ (.int .i64 z1)).setCell ⟨w.heap.size,2,none⟩ (.string tj)).setCell ⟨w.heap.size,3,none⟩ (.int .i64 0)).setCell ⟨w.heap.size,4,none⟩ (.slice (some ⟨WA.heap.size,0,none⟩) 2 2)) ⟨bS,j,none⟩=some (.string tj)∧World.cell? (((((w9.setCell ⟨w.heap.size,0,none⟩ (.int .i64 22)).setCell ⟨w.heap.size,1,none⟩ (.int .i64 z1)).setCell ⟨w.heap.size,2,none⟩ (.string tj)).setCell ⟨w.heap.size,3,none⟩ (.int .i64 0)).setCell ⟨w.heap.size,4,none⟩ (.slice (some ⟨WA.heap.size,0,none⟩) 2 2)) ⟨b6,0,none⟩=some (.int .i64 k2)∧World.cell? (((((w9.setCell ⟨w.heap.size,0,none⟩ (.int .i64 22)).setCell ⟨w.heap.size,1,none⟩ (.int .i64 z1)).setCell ⟨w.heap.size,2,none⟩ (.string tj)).setCell ⟨w.heap.size,3,none⟩ (.int .i64 0)).setCell ⟨w.heap.size,4,none⟩ (.slice (some ⟨WA.heap.size,0,none⟩) 2 2)) ⟨b6,1,none⟩=some (.int .i64 a2)∧World.cell? (((((w9.setCell ⟨w.heap.size,0,none⟩ (.int .i64 22)).setCell ⟨w.heap.size,1,none⟩ (.int .i64 z1)).setCell ⟨w.heap.size,2,none⟩ (.string tj)).setCell ⟨w.heap.size,3,none⟩ (.int .i64 0)).setCell ⟨w.heap.size,4,none⟩ (.slice (some ⟨WA.heap.size,0,none⟩) 2 2)) ⟨b6,2,none⟩=some (.string t2)∧World.cell? (((((w9.setCell ⟨w.heap.size,0,none⟩ (.int .i64 22)).setCell ⟨w.heap.size,1,none⟩ (.int .i64 z1)).setCell ⟨w.heap.size,2,none⟩ (.string tj)).setCell ⟨w.heap.size,3,none⟩ (.int .i64 0)).setCell ⟨w.heap.size,4,none⟩ (.slice (some ⟨WA.heap.size,0,none⟩) 2 2)) ⟨b6,3,none⟩=some (.int .i64 n2)∧World.cell? (((((w9.setCell ⟨w.heap.size,0,none⟩ (.int .i64 22)).setCell ⟨w.heap.size,1,none⟩ (.int .i64 z1)).setCell ⟨w.heap.size,2,none⟩ (.string tj)).setCell ⟨w.heap.size,3,none⟩ (.int .i64 0)).setCell ⟨w.heap.size,4,none⟩ (.slice (some ⟨WA.heap.size,0,none⟩) 2 2)) ⟨b6,4,none⟩=some (.slice o2 l2 c2)∧World.cell? (((((w9.setCell ⟨w.heap.size,0,none⟩ (.int .i64 22)).setCell ⟨w.heap.size,1,none⟩ (.int .i64 z1)).setCell ⟨w.heap.size,2,none⟩ (.string tj)).setCell ⟨w.heap.size,3,none⟩ (.int .i64 0)).setCell ⟨w.heap.size,4,none⟩ (.slice (some ⟨WA.heap.size,0,none⟩) 2 2)) ⟨bY,0,none⟩=some (.int .i64 k4)∧World.cell? (((((w9.setCell ⟨w.heap.size,0,none⟩ (.int .i64 22)).setCell ⟨w.heap.size,1,none⟩ (.int .i64 z1)).setCell ⟨w.heap.size,2,none⟩ (.string tj)).setCell ⟨w.heap.size,3,none⟩ (.int .i64 0)).setCell ⟨w.heap.size,4,none⟩ (.slice (some ⟨WA.heap.size,0,none⟩) 2 2)) ⟨bY,1,none⟩=some (.int .i64 a4)∧World.cell? (((((w9.setCell ⟨w.heap.size,0,none⟩ (.int .i64 22)).setCell ⟨w.heap.size,1,none⟩ (.int .i64 z1)).setCell ⟨w.heap.size,2,none⟩ (.string tj)).setCell ⟨w.heap.size,3,none⟩ (.int .i64 0)).setCell ⟨w.heap.size,4,none⟩ (.slice (some ⟨WA.heap.size,0,none⟩) 2 2)) ⟨bY,2,none⟩=some (.string t4)∧World.cell? (((((w9.setCell ⟨w.heap.size,0,none⟩ (.int .i64 22)).setCell ⟨w.heap.size,1,none⟩ (.int .i64 z1)).setCell ⟨w.heap.size,2,none⟩ (.string tj)).setCell ⟨w.heap.size,3,none⟩ (.int .i64 0)).setCell ⟨w.heap.size,4,none⟩ (.slice (some ⟨WA.heap.size,0,none⟩) 2 2)) ⟨bY,3,none⟩=some (.int .i64 n4)∧World.cell? (((((w9.setCell ⟨w.heap.size,0,none⟩ (.int .i64 22)).setCell ⟨w.heap.size,1,none⟩ (.int .i64 z1)).setCell ⟨w.heap.size,2,none⟩ (.string tj)).setCell ⟨w.heap.size,3,none⟩ (.int .i64 0)).setCell ⟨w.heap.size,4,none⟩ (.slice (some ⟨WA.heap.size,0,none⟩) 2 2)) ⟨bY,4,none⟩=some (.slice o4 l4 c4):=⟨(FT.out.2.2.2.cell (p:=⟨bS,j,none⟩) (Ne.symm (Nat.ne_of_lt H7P)) (Nat.lt_of_lt_of_le HSLT HBX.out.size)).trans SC.1,(ZL).c0,(ZL).c1,(ZL).c2,(ZL).c3,(ZL).c4,(ZY).c0,(ZY).c1,(ZY).c2,(ZY).c3,(ZY).c4⟩;clear gf gl hbx hb9 ZL ZY))
   have TN:=jD (jac.mpr ⟨_,rfl,HKI.out⟩:synIn (offs w.heap.size [w.heap.size]) w9 (.mk 22 z1 tj 0 [(.mk k2 a2 t2 n2 q2),(.mk k4 a4 t4 n4 q4)]) _)
   have GX:=jD ((TN.out).kept (by simp) FT.out.2.2.2).at
   obtain⟨r0,r1,r2,r3,r4⟩:=FT.out.1
   have GA:=jD FT.out.2.1;have GB:=jD FT.out.2.2.1
   clear FT g0 g1 g2 g3 g4 gf0 gf1 gf2 gf3 gf4
   go_wp2
   refine bodyPost_ret (by simp[results,Tryz.results123,go_sem,r0,r1,r2,r3,r4];rfl) rfl ?_
   exact⟨_,_,_,rfl,GX.out,HMY.out _ _ HS4,GA.out,GB.out⟩
  ·obtain rfl:j=6:=by omega
   have HR:=jD hrel;have HNO:=jD hno
   have A0:=jD hrel.hat;have B0:=jD hrel.hb;have XR0:=jD hrel.xr;have XL0:=jD hrel.xl;have TZ:=jD hrel.tr
   clear hrel hno
   obtain⟨yXL0,yXL1,yXL2,yXL3,yXL4,-,-⟩:=XL0.out
   have FT:=jD (jas HA0 B0 A0 XR0 (jrr _) (.int .i64 k2) (.int .i64 a2) (.string t2) (.int .i64 n2) (.slice o2 l2 c2) _ rfl)
   have GX:=jD ((TZ.out).kept (by simp) FT.out.2.2.2).at
   obtain⟨yXR0,yXR1,yXR2,yXR3,yXR4,fXR0,fXR1,fXR2,fXR3,fXR4⟩:=bF XR0
   obtain⟨r0,r1,r2,r3,r4⟩:=FT.out.1
   have GA:=jD FT.out.2.1;have GB:=jD FT.out.2.2.1
   clear FT
   go_wp2
   refine bodyPost_ret (by simp[results,Tryz.results123,go_sem,r0,r1,r2,r3,r4];rfl) rfl ?_
   exact⟨_,_,_,rfl,GX.out,jiq HS2 HNO HFI,GA.out,GB.out⟩
theorem jeg {s:List UInt8} {l:List Tk} (h:pIs s l=true) (hs:s≠[]):bytes (pHd l).t≠[]:=by
 unfold pIs at h
 rw[beq_iff_eq] at h
 rw[h]
 exact hs
theorem jji (R:Nat) (L:List Tk):∀ n:Nat,∀ d:Nat,d≤64→((∀ s:RSt,s.rem≤n→GF 22 R L #[.pointer (some ⟨R,0,none⟩)] (.lvl 0) d s)∧(∀ s:RSt,s.rem≤n→GF 57 R L #[.pointer (some ⟨R,0,none⟩)] (.lvl 1) d s)∧(∀ s:RSt,s.rem≤n→GF 89 R L #[.pointer (some ⟨R,0,none⟩)] (.lvl 2) d s)∧(∀ s:RSt,s.rem≤n→GF 123 R L #[.pointer (some ⟨R,0,none⟩)] (.lvl 3) d s)∧(∀ s:RSt,s.rem≤n→GF 23 R L #[.pointer (some ⟨R,0,none⟩)] (.lvl 4) d s)∧(∀ s:RSt,s.rem≤n→GF 58 R L #[.pointer (some ⟨R,0,none⟩)] (.lvl 5) d s)∧(∀ s:RSt,s.rem≤n→GF 90 R L #[.pointer (some ⟨R,0,none⟩)] (.lvl 6) d s)∧(∀ s:RSt,s.rem≤n→GF 124 R L #[.pointer (some ⟨R,0,none⟩)] (.lvl 7) d s)):=by
 intro n
 induction n using Nat.strongRecOn with
 |_ n ih=>
  intro d hd
  have less:∀ (W:World) (l:List Tk) (c:List UInt8),Rf R L W d (.ok l)→(RSt.ok l).rem≤n→pIs c l=true→c≠[]→(RSt.ok (pTl l)).rem<n:=fun W l c H hn hp hc=>by
   have g:=H.rem_less (jeg hp hc)
   have g2:(RSt.ok l).rem=l.length:=rfl
   have g3:(RSt.ok (pTl l)).rem=(pTl l).length:=rfl
   omega
  have h7:∀ s:RSt,s.rem≤n→GF 124 R L #[.pointer (some ⟨R,0,none⟩)] (.lvl 7) d s:=fun s hs W H=>jmL H hd (fun h64 l e hp=>by
   subst e
   exact(ih _ (less W l [40] H hs hp (by decide)) (d+1) (by omega)).1 _ (jrr _))
  have h6:∀ s:RSt,s.rem≤n→GF 90 R L #[.pointer (some ⟨R,0,none⟩)] (.lvl 6) d s:=fun s hs W H=>jmp H hd (h7 s hs) (fun h64 l e hp=>by
   subst e
   exact(ih _ (less W l [45] H hs hp (by decide)) (d+1) (by omega)).2.2.2.2.2.2.1 _ (jrr _))
  have h5:∀ s:RSt,s.rem≤n→GF 58 R L #[.pointer (some ⟨R,0,none⟩)] (.lvl 5) d s:=fun s hs W H=>jkb H (fun t ht=>h6 t (Nat.le_trans ht hs))
  have h4:∀ s:RSt,s.rem≤n→GF 23 R L #[.pointer (some ⟨R,0,none⟩)] (.lvl 4) d s:=fun s hs W H=>rsum H (fun t ht=>h5 t (Nat.le_trans ht hs))
  have h3:∀ s:RSt,s.rem≤n→GF 123 R L #[.pointer (some ⟨R,0,none⟩)] (.lvl 3) d s:=fun s hs W H=>jhk H (fun t ht=>h4 t (Nat.le_trans ht hs))
  have h2:∀ s:RSt,s.rem≤n→GF 89 R L #[.pointer (some ⟨R,0,none⟩)] (.lvl 2) d s:=fun s hs W H=>rneg H hd (h3 s hs) (fun h64 l e hp=>by
   subst e
   exact(ih _ (less W l [110,111,116] H hs hp (by decide)) (d+1) (by omega)).2.2.1 _ (jrr _))
  have h1:∀ s:RSt,s.rem≤n→GF 57 R L #[.pointer (some ⟨R,0,none⟩)] (.lvl 1) d s:=fun s hs W H=>jmN H (fun t ht=>h2 t (Nat.le_trans ht hs))
  have h0:∀ s:RSt,s.rem≤n→GF 22 R L #[.pointer (some ⟨R,0,none⟩)] (.lvl 0) d s:=fun s hs W H=>jmM H (fun t ht=>h1 t (Nat.le_trans ht hs))
  exact⟨h0,h1,h2,h3,h4,h5,h6,h7⟩
section
variable {R:Nat} {L:List Tk} {d:Nat} {s:RSt} {W:World}
theorem jcv (hd:d≤64):GF 22 R L #[.pointer (some ⟨R,0,none⟩)] (.lvl 0) d s:=(jji R L s.rem d hd).1 s (jrr _)
theorem jc2 (hd:d≤64):GF 23 R L #[.pointer (some ⟨R,0,none⟩)] (.lvl 4) d s:=(jji R L s.rem d hd).2.2.2.2.1 s (jrr _)
end
theorem Rf.rem {R d:Nat} {L:List Tk} {W:World} {st:RSt} (h:Rf R L W d st):st.rem≤100000:=by
 have hl:=h.fix.toks.toks.len
 obtain⟨nx,op,er,a,h1,h2,h3⟩:=h.rs
 rcases h3 with ⟨-,-,rfl⟩|⟨-,e,-,rfl⟩
 ·show (L.drop nx).length≤_
  rw[List.length_drop]
  omega
 ·exact Nat.zero_le _
theorem Rf.grow {R d0 d:Nat} {L:List Tk} {st0 st:RSt} {w W W':World} (h0:Rf R L w d0 st0) (ha:Rf R L W d st) (hb:Butt R w W) (hg:Below w.heap.size W W'):Rf R L W' d st∧Butt R w W':=by
 have hR:=h0.fix.lt
 have hbt:Butt R w W':=⟨hg.os.trans hb.os,hg.tape.trans hb.tape,hg.output.trans hb.output,Nat.le_trans hb.size hg.size,fun k hk hr=>(hg.block k hk).trans (hb.block k hk hr),fun j hj=>(hg.cell (p:=⟨R,j,none⟩) hR).trans (hb.own j hj)⟩
 refine⟨⟨h0.fix.butt hbt,?_⟩,hbt⟩
 obtain⟨nx0,op0,er0,a0,-,g2,-⟩:=h0.rs
 obtain⟨nx,op,er,a,h1,h2,h3⟩:=ha.rs
 exact⟨nx,op,er,a,h1,g2.later hbt ((hg.cell (p:=⟨R,1,none⟩) hR).trans h2.c1) ((hg.cell (p:=⟨R,2,none⟩) hR).trans h2.c2) ((hg.cell (p:=⟨R,3,none⟩) hR).trans h2.c3) ((hg.cell (p:=⟨R,4,none⟩) hR).trans h2.c4) (fun j=>(hg.frozen (p:=⟨R,j,none⟩) hR).trans (h2.free j)),h3⟩
abbrev QL (R:Nat) (L:List Tk) (wnt:Want) (d:Nat) (st:RSt) (W:World):Ending→World→Prop:=fun e W'=>
 ∃ xs v st',e = .returned v∧ownT W.heap.size W' xs v∧xs.length≤st.rem+1∧Stp wnt d st xs st'∧Rf R L W' d st'∧Butt R W W'
structure LstRf (R:Nat) (L:List Tk) (w:World) (d:Nat) (st:RSt) (wnt:Want) (wr:World) (m:Bool) (s:RSt) (xs:List Syn) (v:Value):Prop where
 hat:Rf R L wr d s
 hb:Butt R w wr
 own:ownT w.heap.size wr xs v
 len:xs.length≤st.rem+1
 srem:s.rem≤st.rem
 lenS:m=true→xs.length+s.rem≤st.rem+1
 go:m=true→∀ ys s',Stp (.list wnt) d s ys s'→Stp (.list wnt) d st (xs++ys) s'
 done:m=false→Stp (.list wnt) d st xs s
def meaR (R:Nat) (L:List Tk) (m:Value) (wr:World):Nat:=match m with
 |.bool true=>remR R L wr+1
 |_=>0
theorem jbS {L:List Tk} (hL:TkL L) {s:RSt} {c:List UInt8} (hc:c≠[]):tIs L s ⟨c.toArray⟩=rIs s c:=by
 cases s with
 |ok l=>rw[jaP];rfl
 |bad a e=>rw[jck hL hc];rfl
theorem jg6 {L l:List Tk} (hL:TkL L) {w:Want} {d:Nat} {s2 s':RSt} {y:Syn} {ys:List Syn} (h:Stp w d (.ok l) [y] s2) (hc:rIs s2 [44]=true) (ht:Stp (.list w) d (jaq s2) ys s'):Stp (.list w) d (.ok l) (y::ys) s':=
 jbB hL h (.inr ⟨(jbS hL (c:=[44]) (by decide)).trans hc,ht⟩)
theorem jeP {L l:List Tk} (hL:TkL L) {w:Want} {d:Nat} {s2:RSt} {y:Syn} (h:Stp w d (.ok l) [y] s2) (hc:rIs s2 [44]=false):Stp (.list w) d (.ok l) [y] s2:=
 jbB hL h (.inl ⟨(jbS hL (c:=[44]) (by decide)).trans hc,rfl,rfl⟩)
theorem jkc {l:List Tk} {d:Nat} {z:Int} {t:ByteArray} (hf:l≠[]) (h1:z=(pHd l).a) (h2:hasT (.ok l) t):Stp .bare d (.ok l) [.mk 19 z t 0 []] (jad (rNm (.ok l)) (.ok l)):=by
 subst h1
 cases hc:ja5 (pHd l) with
 |true=>
  have hc':rNm (.ok l)=true:=hc
  obtain rfl:=h2 l rfl hc'
  rw[hc']
  exact jcl (jaJ hf) (jat l) 0 fun f _=>by rw[jaf];simp[jaW,hc,bind,Except.bind,pure,Except.pure];rfl
 |false=>
  have hc':rNm (.ok l)=false:=hc
  rw[hc']
  exact jbj (by decide) 0 fun f _=>by rw[jaf];simp[jaW,hc,bind,Except.bind,pure,Except.pure]
theorem LstRf.more {R:Nat} {L l:List Tk} {w wr w2 w5:World} {d:Nat} {st s2:RSt} {wnt:Want} {xs:List Syn} {v v9:Value} {y:Syn} (hL:TkL L) (h:LstRf R L w d st wnt wr true (.ok l) xs v) (hy:Stp wnt d (.ok l) [y] s2)
  (h2:Rf R L w2 d s2) (ho:ownT w.heap.size w5 (xs++[y]) v9) (hc:rIs s2 [44]=true) (ha:Rf R L w5 d (jaq s2)) (hb:Butt R w w5):LstRf R L w d st wnt w5 true (jaq s2) (xs++[y]) v9∧(jaq s2).rem+1≤l.length:=by
 have g1:=Run.rem hy
 have g0:(RSt.ok l).rem=l.length:=rfl
 have g3:=h.lenS rfl
 obtain⟨l2,rfl,hp⟩:=jbx hc
 have g4:(RSt.ok l2).rem=l2.length:=rfl
 have g2:(jaq (.ok l2)).rem+1=l2.length:=h2.rem_less (jeg hp (by decide))
 refine⟨⟨ha,hb,ho,by rw[List.length_append,show [y].length=1 from rfl];omega,by have:=h.srem;omega,fun _=>by rw[List.length_append,show [y].length=1 from rfl];omega,fun _ ys s' hs=>?_,fun e=>by cases e⟩,by omega⟩
 rw[List.append_assoc]
 exact h.go rfl _ _ (jg6 hL hy hc hs)
theorem LstRf.last {R:Nat} {L l:List Tk} {w wr w5:World} {d:Nat} {st s2:RSt} {wnt:Want} {xs:List Syn} {v v9:Value} {y:Syn} (hL:TkL L) (h:LstRf R L w d st wnt wr true (.ok l) xs v) (hf:l≠[]) (hy:Stp wnt d (.ok l) [y] s2)
  (ho:ownT w.heap.size w5 (xs++[y]) v9) (hc:rIs s2 [44]=false) (ha:Rf R L w5 d s2) (hb:Butt R w w5):LstRf R L w d st wnt w5 false s2 (xs++[y]) v9:=by
 have g1:=Run.rem hy
 have g0:(RSt.ok l).rem=l.length:=rfl
 have g3:=h.lenS rfl
 have g5:=List.length_pos_iff.mpr hf
 exact⟨ha,hb,ho,by rw[List.length_append,show [y].length=1 from rfl];omega,by have:=h.srem;omega,(fun e=>by cases e),(fun e=>by cases e),fun _=>h.go rfl _ _ (jeP hL hy hc)⟩
theorem LstRf.over {R:Nat} {L:List Tk} {w wr:World} {d:Nat} {st s:RSt} {wnt:Want} {xs:List Syn} {v:Value} {m:Bool} (h:LstRf R L w d st wnt wr m s xs v) (hc:m=false∨isOk s=false):Stp (.list wnt) d st xs s:=by
 cases m with
 |false=>exact h.done rfl
 |true=>
  rcases hc with e|e
  ·cases e
  ·cases s with
   |ok l=>cases e
   |bad a ee=>
    have g:=h.go rfl [] (.bad a ee) rfl
    rw[List.append_nil] at g
    exact g
theorem jmq {R:Nat} {L:List Tk} {d:Nat} {st:RSt} {w:World} (h:Rf R L w d st)  :
  Calls Tryz.prog 84 #[.pointer (some ⟨R,0,none⟩)] w (QL R L (.list .bare) d st w):=by
 have HTL:=jD h.fix.toks.toks
 have HA0:=jD h
 have HLT:=jD h.fix.lt;have HRW:=jD h.fix.lt
 have A0:=jD h;have B0:=jD (Butt.refl R w)
 clear h 
 go_enter Tryz.func84,Tryz.ntmps84
 go_wp2_with fail
 have HLP:Hid (LstRf R L w d st .bare w true st [] (.slice none 0 0)):=jD ⟨A0.out,B0.out,ownT.nil _ _,Nat.zero_le _,jrr _,fun _=>by simp only[List.length_nil];omega,fun _ ys s' hs=>hs,fun e=>by cases e⟩
 go_loopw [3,4] (fun v m wr=>∃ (mb:Bool) (s:RSt) (xs:List Syn) (ao:Option Addr) (c:Nat),v = .slice ao xs.length c∧m = .bool mb∧LstRf R L w d st .bare wr mb s xs v) (fun _ m wr=>meaR R L m wr)
 case atStart=>exact⟨true,_,[],none,0,rfl,rfl,HLP.out⟩
 case round=>
  obtain⟨mb,s,xs,ao,c,rfl,rfl,hrel⟩:=hrel
  cases mb with
  |false=>
   have HR:=jD hrel;have A0:=jD hrel.hat;have B0:=jD hrel.hb;have OW:=jD hrel.own
   clear hrel
   go_wp2
   go_ret
   exact⟨xs,_,_,rfl,OW.out,HR.out.len,HR.out.over (.inl rfl),A0.out,B0.out⟩
  |true=>
   cases s with
   |bad ea ee=>
    obtain⟨ze,y3,t3,t4⟩:=hrel.hat.err1
    have HR:=jD hrel;have A0:=jD hrel.hat;have B0:=jD hrel.hb;have OW:=jD hrel.own
    clear hrel
    go_wp2
    go_ret
    exact⟨xs,_,_,rfl,OW.out,HR.out.len,HR.out.over (.inr rfl),A0.out,B0.out⟩
   |ok l=>
   have y3:=hrel.hat.err0;have hfl:l≠[]:=hrel.hat.fine;have HFL:=jD hfl;clear hfl
   have HR:=jD hrel;have A0:=jD hrel.hat;have B0:=jD hrel.hb;have OW:=jD hrel.own
   clear hrel
   have CH:=fun W (H:Rf R L W d (.ok l))=>jbQ H;have CN:=fun W (H:Rf R L W d (.ok l))=>jfO H
   have HM:=jD (fun t ht=>jkc (d:=d) (t:=t) HFL (rfl:(pHd l).a=(pHd l).a) ht)
   generalize (pHd l).a=pa at *
   generalize jad (rNm (.ok l)) (.ok l)=s2 at *
   have KH:=jD CH;have KN:=jD CN;clear CH CN
   go_wp2_with (go_at_call 48;refine cM (KH.out _ A0) ?_;rintro e w1 ⟨rfl,ha1,hb1⟩)
   have A1:=jD ha1;have B1:=jtt B0 hb1
   have OW1:=jD (OW.out.keep (jrr _) (hb1.froms HLT))
   clear ha1 hb1
   refine jD ?_
   go_wp2_with (go_at_call 53;refine cM (KN.out _ A1) ?_;rintro e w2 ⟨z2,rfl,hz2,ha2,hb2⟩)
   have HZ2:=jD hz2
   have A2:=jD ha2;have B2:=jtt B1 hb2
   have OW2:=jD (OW1.out.keep (jrr _) (hb2.froms HLT))
   clear ha2 hb2 hz2
   refine jD ?_
   go_wp2_with (go_at_call 47;refine cM (jam _ _ _ _ _ _ _) ?_;rintro e w3 ⟨rfl,hbl3⟩)
   have ha3:=A2.out.below hbl3;have hb3:=Butt.of_below (R:=R) A2.out.fix.lt hbl3;clear hbl3
   have A3:=jD ha3;have B3:=jtt B2 hb3
   have OW3:=jD (OW2.out.keep (jrr _) (hb3.froms HLT))
   clear ha3 hb3
   refine jD ?_
   have HZ:=jD (((jac.mpr ⟨_,rfl,Or.inl ⟨rfl,rfl⟩⟩:synIn (jcm w.heap.size (.slice ao xs.length c)) w3 (.mk 19 pa z2 0 []) (.agg #[.int .i64 19,.int .i64 pa,.string z2,.int .i64 0,.slice none 0 0]))).below (jN (jO 19 pa z2 0 none 0 0)))
   have A3a:=jD (A3.out.alloc (jO 19 pa z2 0 none 0 0));have B3a:=jD (B3.out.alloc HRW (jO 19 pa z2 0 none 0 0))
   have OW3a:=jD (OW3.out.keep (jrr _) (From.of_below (jN (jO 19 pa z2 0 none 0 0))))
   have HRA:=jD HA0.out.rem;have HL1:Hid (xs.length≤1200000):=jD (by have:=HR.out.len;have:=HRA.out;omega)
   have HB1:Hid (w.heap.size≤(w3.alloc (jO 19 pa z2 0 none 0 0)).heap.size):=jD B3a.out.size
   have CT:=fun W (H:Rf R L W d s2)=>jbD H [44] (by decide)
   cases hb:rIs s2 [44] with
   |true=>
    rw[hb] at CT
    simp only[if_true] at CT
    have KT:=jD CT;have HBB:=jD hb;clear CT hb
    go_wp2_with (first|(at_builtin;refine jag rfl (.tmp 18) (.tmp 23) rfl w.heap.size _ xs (by simp[Act.eval,Act.put]) OW3a HL1 HB1 w3.heap.size (.mk 19 pa z2 0 []) _ _ _ _ _ (by simp[Act.eval,Act.put]) HZ ⟨rfl,rfl,rfl,rfl,rfl⟩ (by go_cell) (by go_cell) (by go_cell) (by go_cell) (by go_cell) ?_;intro v9 ao9 cap9 w9 hv9 ho9 hg9;refine Hid.out ?_)|fail)
    subst hv9
    have hgr:=Rf.grow HA0 A3a B3a (jap hg9 (fun b e=>(OW3a.out.lo b e).1) HLT HB1)
    have AG:=jD hgr.1;have BG:=jD hgr.2;have OG:=jD ho9;clear hgr ho9 hg9
    refine jD ?_
    go_wp2_with (go_at_call 51;refine cM (KT.out _ AG) ?_;rintro e w8 ⟨rfl,ha8,hb8⟩)
    have A8:=jD ha8;have B8:=jtt BG hb8;have OW8:=jD (OG.out.keep (jrr _) (hb8.froms HLT));clear ha8 hb8
    refine jD ?_
    have HNX:=jD (LstRf.more HTL HR (HM.out _ HZ2) AG OW8 HBB A8 B8)
    go_wp2
    go_roundw
    case rel=>exact⟨true,_,xs++[(.mk 19 pa z2 0 [])],ao9,cap9,by rw[List.length_append];rfl,rfl,HNX.out.1⟩
    case measure=>
     have g1:=jbw HR.out.hat
     have g2:=jb2 HNX.out.1.hat
     have g3:=HNX.out.2
     show remR R L w8+1<remR R L wr+1
     omega
   |false=>
    rw[hb] at CT
    simp only[Bool.false_eq_true,if_false] at CT
    have KT:=jD CT;have HBB:=jD hb;clear CT hb
    go_wp2_with (first|(at_builtin;refine jag rfl (.tmp 18) (.tmp 23) rfl w.heap.size _ xs (by simp[Act.eval,Act.put]) OW3a HL1 HB1 w3.heap.size (.mk 19 pa z2 0 []) _ _ _ _ _ (by simp[Act.eval,Act.put]) HZ ⟨rfl,rfl,rfl,rfl,rfl⟩ (by go_cell) (by go_cell) (by go_cell) (by go_cell) (by go_cell) ?_;intro v9 ao9 cap9 w9 hv9 ho9 hg9;refine Hid.out ?_)|fail)
    subst hv9
    have hgr:=Rf.grow HA0 A3a B3a (jap hg9 (fun b e=>(OW3a.out.lo b e).1) HLT HB1)
    have AG:=jD hgr.1;have BG:=jD hgr.2;have OG:=jD ho9;clear hgr ho9 hg9
    refine jD ?_
    go_wp2_with (go_at_call 51;refine cM (KT.out _ AG) ?_;rintro e w8 ⟨rfl,ha8,hb8⟩)
    have A8:=jD ha8;have B8:=jtt BG hb8;have OW8:=jD (OG.out.keep (jrr _) (hb8.froms HLT));clear ha8 hb8
    refine jD ?_
    have HNX:=jD (LstRf.last HTL HR HFL (HM.out _ HZ2) OW8 HBB A8 B8)
    go_wp2
    go_roundw
    case rel=>exact⟨false,_,xs++[(.mk 19 pa z2 0 [])],ao9,cap9,by rw[List.length_append];rfl,rfl,HNX.out⟩
    case measure=>show 0<remR R L wr+1;omega
end Go.Proofs.YtenmmmdnpglkoaaGreatDoor
