import Derived.Test.YtenmmmdnpglkoaaGreatDoorCut17
set_option linter.unusedSimpArgs false
set_option linter.unusedVariables false
set_option maxRecDepth 100000
set_option maxHeartbeats 8000000
/-
 parser: branches.
-/
namespace Go.Proofs.YtenmmmdnpglkoaaGreatDoor
open Go Go.Proofs Go.RowKit Go.Sort
theorem ownT.new {lo:Nat} {W:World} {xs:List Syn} {cs:List Value} (h:flatIn (offs lo []) W xs cs) (hl:lo≤W.heap.size) (n:Nat) (hn:xs.length=n) (hm:n≤100) :
  ownT lo (W.alloc (Obj.cells cs.toArray 25)) xs (.slice (some ⟨W.heap.size,0,none⟩) n n):=by
 subst hn
 have hlen:=flatIn.len _ _ h
 refine⟨cs,⟨hlen,.inr ⟨W.heap.size,xs.length,cs.toArray,rfl,hl,?_,jrr _,by unfold maxLen;omega,by simpa using hlen,?_⟩⟩,?_⟩
 ·show (W.heap.push _)[W.heap.size]? = _
  exact Array.getElem?_push_size
 ·rw[←hlen,show cs.toArray.toList=cs from by simp,List.take_length]
 ·have hb:=(Below.refl W.heap.size W).alloc (jrr _) (Obj.cells cs.toArray 25)
  exact flatIn.keep ⟨hb.size,fun k _ h=>hb.block k h⟩ (fun k hk h=>⟨hk.1,fun e=>by
   have:W.heap.size=k:=by cases e;rfl
   omega⟩) _ _ h
theorem Bx5.down {p B:Nat} {W W':World} {v0 v1 v2 v3 v4:Value} (h:Bx5 W p v0 v1 v2 v3 v4) (hb:Below B W W') (hp:p<B):Bx5 W' p v0 v1 v2 v3 v4:=by
 obtain⟨c0,c1,c2,c3,c4,hf,hl⟩:=h
 exact⟨(hb.cell (p:=⟨p,0,none⟩) hp).trans c0,(hb.cell (p:=⟨p,1,none⟩) hp).trans c1,(hb.cell (p:=⟨p,2,none⟩) hp).trans c2,(hb.cell (p:=⟨p,3,none⟩) hp).trans c3,(hb.cell (p:=⟨p,4,none⟩) hp).trans c4,fun j=>(hb.frozen (p:=⟨p,j,none⟩) hp).trans (hf j),Nat.lt_of_lt_of_le hl hb.size⟩
theorem Bx3.down {p B:Nat} {W W':World} {v0 v1 v2:Value} (h:Bx3 W p v0 v1 v2) (hb:Below B W W') (hp:p<B):Bx3 W' p v0 v1 v2:=by
 obtain⟨c0,c1,c2,hf,hl⟩:=h
 exact⟨(hb.cell (p:=⟨p,0,none⟩) hp).trans c0,(hb.cell (p:=⟨p,1,none⟩) hp).trans c1,(hb.cell (p:=⟨p,2,none⟩) hp).trans c2,fun j=>(hb.frozen (p:=⟨p,j,none⟩) hp).trans (hf j),Nat.lt_of_lt_of_le hl hb.size⟩
theorem jiH {R:Nat} {L:List Tk} {d:Nat} {st:RSt} {w:World} (h:At R L w d st) (wk:Int) (wt:ByteArray) (wa:Int) (hd:d≤999999) (KC:GT 31 R L #[.pointer (some ⟨R,0,none⟩)] (.lvl 0) d st) (KB:∀ s:RSt,s.rem≤st.rem→GT 137 R L #[.pointer (some ⟨R,0,none⟩)] .block d s) (KQ:∀ s:RSt,s.rem≤st.rem→tIs L (jaq s) ⟨#[105,102]⟩=true→∀ t:Tk,t=cur L (jaq s)→GT 136 R L #[.pointer (some ⟨R,0,none⟩),tkA t] (.chain t.a) (d+1) (jaV L (jaq s) d true)) :
  Calls Tryz.prog 136 #[.pointer (some ⟨R,0,none⟩),tkA ⟨wk,wt,wa⟩] w (PT R L (.chain wa) d st w):=by
 have hfi:=h.fine
 have HTL:=jD h.fix.toks;have HFI:=jD hfi;have HD:=jD hd
 have KKC:=jD KC;have KKB:=jD KB;have KKQ:=jD KQ
 have HRW:=jD h.fix.lt;have HLT:=jD h.fix.lt;have HA0:=jD h
 have HLT2:Hid (R<w.heap.size+2):=jD (by have:=h.fix.lt;omega)
 have hsz:(w.alloc (Obj.cells #[.int .i64 wk,.string wt,.int .i64 wa] 50)).heap.size=w.heap.size+1:=by simp
 have hX0:=(Bx3.new w (.int .i64 wk) (.string wt) (.int .i64 wa)).alloc jZ
 have hXR:=Bx5.new (w.alloc (Obj.cells #[.int .i64 wk,.string wt,.int .i64 wa] 50)) (.int .i64 0) (.int .i64 0) (.string ⟨#[]⟩) (.int .i64 0) (.slice none 0 0)
 rw[hsz] at hXR
 have A0:=jD ((h.alloc (Obj.cells #[.int .i64 wk,.string wt,.int .i64 wa] 50)).alloc jZ);have B0:=jD (((Butt.refl R w).alloc h.fix.lt (Obj.cells #[.int .i64 wk,.string wt,.int .i64 wa] 50)).alloc h.fix.lt jZ)
 have TW0:=jD hX0;have XR0:=jD hXR
 have PTW:=nR h.fix.lt
 have HPR:Hid (w.heap.size+1≠R):=jD (fun e=>absurd h.fix.lt (by omega))
 clear hX0 hXR hsz h hfi hd KC KB KQ
 unfold tkA
 dsimp only
 go_enter Tryz.func136,Tryz.ntmps136
 go_wp2_with (go_at_call 31;refine cM (KKC.out _ A0) ?_;rintro e w1 ⟨x1,v1,s1,rfl,hx1,hs1,ha1,hb1⟩)
 obtain⟨k1,a1,t1,n1,o1,l1,c1,q1,rfl,rfl,hk1⟩:=hx1.shape
 have HS1:=jD hs1
 have TR1:=jD (synIn.of (l2:=(w.heap.size+2)) (ps:=[]) hx1 (by have:=XR0.out.lt;omega) (by simp))
 have A1:=jD ha1;have B1:=jtt B0 hb1
 have XR1:=jbb XR0 HPR hb1
 have TW1:=jD (TW0.out.butt PTW hb1)
 clear ha1 hb1 hx1 hk1 hs1
 refine jD ?_
 have HSR1:=jD (Run.rem HS1)
 go_wp2_with (go_at_call 137;refine cM (KKB.out _ HSR1 _ A1) ?_;rintro e w2 ⟨x2,v2,s2,rfl,hx2,hs2,ha2,hb2⟩)
 obtain⟨k2,a2,t2,n2,o2,l2,c2,q2,rfl,rfl,hk2⟩:=hx2.shape
 have HS2:=jD hs2
 have TR2:=jD (synIn.of (l2:=(w.heap.size+2)) (ps:=[]) hx2 (by have:=XR1.out.lt;omega) (by simp))
 have A2:=jD ha2;have B2:=jtt B1 hb2
 have XR2:=jbb XR1 HPR hb2
 have TW2:=jD (TW1.out.butt PTW hb2)
 have TR12:=jvv TR1 HLT2 hb2
 clear ha2 hb2 hx2 hk2 hs2
 refine jD ?_
 have HSR2:=jD (Nat.le_trans (Run.rem HS2) HSR1)
 have OW:=jD (ownT.new (flatIn.cons TR12 (flatIn.one TR2)) (by have:=XR2.out.lt;omega) 2 rfl (by decide))
 have A2a:=jD (A2.out.alloc (oD k1 a1 t1 n1 o1 l1 c1 k2 a2 t2 n2 o2 l2 c2));have B2a:=jD (B2.out.alloc HRW (oD k1 a1 t1 n1 o1 l1 c1 k2 a2 t2 n2 o2 l2 c2))
 have XR2a:=jD (XR2.out.alloc (oD k1 a1 t1 n1 o1 l1 c1 k2 a2 t2 n2 o2 l2 c2))
 have TW2a:=jD (TW2.out.alloc (oD k1 a1 t1 n1 o1 l1 c1 k2 a2 t2 n2 o2 l2 c2))
 have CA:=jcB A2a ⟨#[101,108,115,101]⟩
 cases hb:tIs L s2 ⟨#[101,108,115,101]⟩ with
 |false=>
  rw[hb,if_neg Bool.false_ne_true] at CA
  have KA:=jD CA;have HBB:=jD hb;clear CA hb
  go_wp2_with (go_at_call 76;refine jX (KA.out) B2a XR2a HPR fun w3 A3 B3 XR3 hb3=>?_)
  have TW3:=jD (TW2a.out.butt PTW hb3)
  have OW3:=jD (OW.out.keep (jrr _) (hb3.froms HLT2))
  clear hb3
  refine jD ?_
  have KR:=jD (ownT.kidsIn (l2:=w.heap.size) (ps:=[w.heap.size+1]) OW3 (Nat.le_add_right _ _) (by simp))
  obtain⟨yTW0,yTW1,yTW2,-,-⟩:=TW3.out
  go_wp2_with (go_at_call 40;refine cM (jau _ _ _ _ _ _ _) ?_;rintro e w4 ⟨rfl,hb4⟩)
  have HBZ:=jD hb4
  have hbx:=Butt.of_below (R:=R) A3.out.fix.lt hb4
  have ha4:At R L w4 _ _:=⟨A3.out.fix.butt hbx,A3.out.rs.below hb4⟩
  have TN:=jD (jac.mpr ⟨_,rfl,KR.out.keep ⟨HBZ.out.size,fun k _ h=>HBZ.out.block k h⟩ (fun _ h _=>h)⟩:synIn (offs w.heap.size [w.heap.size+1]) w4 (.mk 11 wa ⟨#[]⟩ 0 [(.mk k1 a1 t1 n1 q1),(.mk k2 a2 t2 n2 q2)]) _)
  have hb4:=hbx;clear hbx
  have A4:=jD ha4;have B4:=jtt B3 hb4
  have XR4:=jbb XR3 HPR hb4
  have TW4:=jD (TW3.out.butt PTW hb4)
  clear ha4 hb4
  refine jD ?_
  have FT:=jD (ja4 HA0 B4 A4 XR4 (Nat.le_succ _) (.int .i64 11) (.int .i64 wa) (.string ⟨#[]⟩) (.int .i64 0) (.slice (some ⟨w2.heap.size,0,none⟩) 2 2) _ rfl)
  have GX:=jD ((TN.out).kept (by simp) FT.out.2.2.2).at
  obtain⟨yXR0,yXR1,yXR2,yXR3,yXR4,fXR0,fXR1,fXR2,fXR3,fXR4⟩:=bF XR4
  obtain⟨r0,r1,r2,r3,r4⟩:=FT.out.1
  have GA:=jD FT.out.2.1;have GB:=jD FT.out.2.2.1
  clear FT
  go_wp2
  refine bodyPost_ret (by simp[results,Tryz.results136,go_sem,r0,r1,r2,r3,r4];rfl) rfl ?_
  exact⟨_,_,_,rfl,GX.out,jjF (L:=L) HFI HS1 HS2 HBB,GA.out,GB.out⟩
 |true=>
  rw[hb,if_pos rfl] at CA
  have KA:=jD CA;have HBB:=jD hb;clear CA hb
  go_wp2_with (go_at_call 76;refine jX (KA.out) B2a XR2a HPR fun w3 A3 B3 XR3 hb3=>?_)
  have TW3:=jD (TW2a.out.butt PTW hb3)
  have OW3:=jD (OW.out.keep (jrr _) (hb3.froms HLT2))
  clear hb3
  refine jD ?_
  have CI:=sis A3 ⟨#[105,102]⟩
  cases hi:tIs L (jaq s2) ⟨#[105,102]⟩ with
  |false=>
   rw[hi] at CI
   have KI:=jD CI;have HII:=jD hi;clear CI
   clear hi
   go_wp2_with (go_at_call 37;refine jX (KI.out) B3 XR3 HPR fun w4 A4 B4 XR4 hb4=>?_)
   have TW4:=jD (TW3.out.butt PTW hb4)
   have OW4:=jD (OW3.out.keep (jrr _) (hb4.froms HLT2))
   clear hb4
   refine jD ?_
   go_wp2_with (go_at_call 137;refine cM (KKB.out _ (Nat.le_trans (ja6 _) HSR2) _ A4) ?_;rintro e w5 ⟨x5,v5,s5,rfl,hx5,hs5,ha5,hb5⟩)
   obtain⟨k5,a5,t5,n5,o5,l5,c5,q5,rfl,rfl,hk5⟩:=hx5.shape
   have HOFF:=jD (OW4.out.off (jrr _) hx5 (by have:=XR4.out.lt;omega))
   have HS5:=jD hs5
   have TR5:=jD (synIn.of (l2:=(w.heap.size+2)) (ps:=[]) hx5 (by have:=XR4.out.lt;omega) (by simp))
   have A5:=jD ha5;have B5:=jtt B4 hb5
   have XR5:=jbb XR4 HPR hb5
   have TW5:=jD (TW4.out.butt PTW hb5)
   have OW5:=jD (OW4.out.keep (jrr _) (hb5.froms HLT2))
   clear ha5 hb5 hx5 hk5 hs5
   refine jD ?_
   have A5a1:=jD (A5.out.alloc (jO k5 a5 t5 n5 o5 l5 c5));have B5a1:=jD (B5.out.alloc HRW (jO k5 a5 t5 n5 o5 l5 c5))
   have XR5a1:=jD (XR5.out.alloc (jO k5 a5 t5 n5 o5 l5 c5))
   have TW5a1:=jD (TW5.out.alloc (jO k5 a5 t5 n5 o5 l5 c5))
   have TR55a1:=jww TR5 HLT2 A5.out.fix.lt (jO k5 a5 t5 n5 o5 l5 c5)
   have OW5a1:=jD (OW5.out.keep (jrr _) (From.of_below (jN (jO k5 a5 t5 n5 o5 l5 c5))))
   have HZ:=jD (HOFF.out.below (jN (jO k5 a5 t5 n5 o5 l5 c5)))
   have HB1:Hid ((w.heap.size+2)≤(w5.alloc (jO k5 a5 t5 n5 o5 l5 c5)).heap.size):=jD (by have:=XR5a1.out.lt;omega)
   go_wp2_with (first|(at_builtin;refine jag rfl (.tmp 24) (.tmp 27) rfl (w.heap.size+2) _ [(.mk k1 a1 t1 n1 q1),(.mk k2 a2 t2 n2 q2)] (by simp[Act.eval,Act.put]) OW5a1 (by simp) HB1 w5.heap.size _ _ _ _ _ _ (by simp[Act.eval,Act.put]) HZ ⟨rfl,rfl,rfl,rfl,rfl⟩ (by go_cell) (by go_cell) (by go_cell) (by go_cell) (by go_cell) ?_;intro v9 ao9 cap9 w9 hv9 ho9 hg9;refine Hid.out ?_)|fail)
   subst hv9
   have hgl:=jap hg9 (fun b e=>(OW5a1.out.lo b e).1) HLT2 HB1
   have hgr:=At.grow HA0 A5a1 B5a1 (Below.down hgl (by omega:w.heap.size≤(w.heap.size+2)))
   have A9:=jD hgr.1;have B9:=jD hgr.2;have O9:=jD ho9
   have XR9:=jD (XR5a1.out.down hgl (by omega))
   have TW9:=jD (TW5a1.out.down hgl (by omega))
   clear hgl hgr ho9 hg9
   refine jD ?_
   have KR:=jD (ownT.kidsIn (l2:=w.heap.size) (ps:=[w.heap.size+1]) O9 (Nat.le_add_right _ _) (by simp))
   obtain⟨yTW0,yTW1,yTW2,-,-⟩:=TW9.out
   go_wp2_with (go_at_call 40;refine cM (jau _ _ _ _ _ _ _) ?_;rintro e w6 ⟨rfl,hb6⟩)
   have HBZ:=jD hb6
   have hbx:=Butt.of_below (R:=R) A9.out.fix.lt hb6
   have ha6:At R L w6 _ _:=⟨A9.out.fix.butt hbx,A9.out.rs.below hb6⟩
   have TN:=jD (jac.mpr ⟨_,rfl,KR.out.keep ⟨HBZ.out.size,fun k _ h=>HBZ.out.block k h⟩ (fun _ h _=>h)⟩:synIn (offs w.heap.size [w.heap.size+1]) w6 (.mk 11 wa ⟨#[]⟩ 0 [(.mk k1 a1 t1 n1 q1),(.mk k2 a2 t2 n2 q2),(.mk k5 a5 t5 n5 q5)]) _)
   have hb6:=hbx;clear hbx
   have A6:=jD ha6;have B6:=jtt B9 hb6
   have XR6:=jbb XR9 HPR hb6
   have TW6:=jD (TW9.out.butt PTW hb6)
   clear ha6 hb6
   refine jD ?_
   have FT:=jD (ja4 HA0 B6 A6 XR6 (Nat.le_succ _) (.int .i64 11) (.int .i64 wa) (.string ⟨#[]⟩) (.int .i64 0) (.slice ao9 3 cap9) _ rfl)
   have GX:=jD ((TN.out).kept (by simp) FT.out.2.2.2).at
   obtain⟨yXR0,yXR1,yXR2,yXR3,yXR4,fXR0,fXR1,fXR2,fXR3,fXR4⟩:=bF XR6
   obtain⟨r0,r1,r2,r3,r4⟩:=FT.out.1
   have GA:=jD FT.out.2.1;have GB:=jD FT.out.2.2.1
   clear FT
   go_wp2
   refine bodyPost_ret (by simp[results,Tryz.results136,go_sem,r0,r1,r2,r3,r4];rfl) rfl ?_
   exact⟨_,_,_,rfl,GX.out,jhW (L:=L) HFI HS1 HS2 HBB HII HS5,GA.out,GB.out⟩
  |true=>
   rw[hi] at CI
   have KI:=jD CI;have HII:=jD hi;clear CI
   have CE:=fun W (H:At R L W d (jaq s2))=>jfz H HD ⟨#[105,102]⟩
   rw[hi,jci] at CE
   have CQ:=KKQ.out s2 HSR2 hi _ rfl
   have HMM:=jD (fun z s3=>jjG (L:=L) (a:=wa) (z:=z) (s3:=s3) HFI HS1 HS2 HBB hi)
   generalize cur L (jaq s2)=T at *
   have KE:=jD CE;have KQQ:=jD CQ;clear CE CQ hi
   go_wp2_with (go_at_call 37;refine jX (KI.out) B3 XR3 HPR fun w4 A4 B4 XR4 hb4=>?_)
   have TW4:=jD (TW3.out.butt PTW hb4)
   have OW4:=jD (OW3.out.keep (jrr _) (hb4.froms HLT2))
   clear hb4
   refine jD ?_
   go_wp2_with (go_at_call 113;refine jX (KE.out _ A4) B4 XR4 HPR fun w5 A5 B5 XR5 hb5=>?_)
   have TW5:=jD (TW4.out.butt PTW hb5)
   have OW5:=jD (OW4.out.keep (jrr _) (hb5.froms HLT2))
   clear hb5
   refine jD ?_
   go_wp2_with (go_at_call 136;refine cM (KQQ.out _ A5) ?_;rintro e w6 ⟨x6,v6,s6,rfl,hx6,hs6,ha6,hb6⟩)
   obtain⟨k6,a6,t6,n6,o6,l6,c6,q6,rfl,rfl,hk6⟩:=hx6.shape
   have HOFF:=jD (OW5.out.off (jrr _) hx6 (by have:=XR5.out.lt;omega))
   have HS6:=jD hs6
   have TR6:=jD (synIn.of (l2:=(w.heap.size+2)) (ps:=[]) hx6 (by have:=XR5.out.lt;omega) (by simp))
   have A6:=jD ha6;have B6:=jtt B5 hb6
   have XR6:=jbb XR5 HPR hb6
   have TW6:=jD (TW5.out.butt PTW hb6)
   have OW6:=jD (OW5.out.keep (jrr _) (hb6.froms HLT2))
   clear ha6 hb6 hx6 hk6 hs6
   refine jD ?_
   have A6a1:=jD (A6.out.alloc (jO k6 a6 t6 n6 o6 l6 c6));have B6a1:=jD (B6.out.alloc HRW (jO k6 a6 t6 n6 o6 l6 c6))
   have XR6a1:=jD (XR6.out.alloc (jO k6 a6 t6 n6 o6 l6 c6))
   have TW6a1:=jD (TW6.out.alloc (jO k6 a6 t6 n6 o6 l6 c6))
   have TR66a1:=jww TR6 HLT2 A6.out.fix.lt (jO k6 a6 t6 n6 o6 l6 c6)
   have OW6a1:=jD (OW6.out.keep (jrr _) (From.of_below (jN (jO k6 a6 t6 n6 o6 l6 c6))))
   have HZ:=jD (HOFF.out.below (jN (jO k6 a6 t6 n6 o6 l6 c6)))
   have HB1:Hid ((w.heap.size+2)≤(w6.alloc (jO k6 a6 t6 n6 o6 l6 c6)).heap.size):=jD (by have:=XR6a1.out.lt;omega)
   go_wp2_with (first|(at_builtin;refine jag rfl (.tmp 15) (.tmp 20) rfl (w.heap.size+2) _ [(.mk k1 a1 t1 n1 q1),(.mk k2 a2 t2 n2 q2)] (by simp[Act.eval,Act.put]) OW6a1 (by simp) HB1 w6.heap.size _ _ _ _ _ _ (by simp[Act.eval,Act.put]) HZ ⟨rfl,rfl,rfl,rfl,rfl⟩ (by go_cell) (by go_cell) (by go_cell) (by go_cell) (by go_cell) ?_;intro v9 ao9 cap9 w9 hv9 ho9 hg9;refine Hid.out ?_)|fail)
   subst hv9
   have hgl:=jap hg9 (fun b e=>(OW6a1.out.lo b e).1) HLT2 HB1
   have hgr:=At.grow HA0 A6a1 B6a1 (Below.down hgl (by omega:w.heap.size≤(w.heap.size+2)))
   have A9:=jD hgr.1;have B9:=jD hgr.2;have O9:=jD ho9
   have XR9:=jD (XR6a1.out.down hgl (by omega))
   have TW9:=jD (TW6a1.out.down hgl (by omega))
   clear hgl hgr ho9 hg9
   refine jD ?_
   go_wp2_with (go_at_call 116;refine jX (jfy A9 HD) B9 XR9 HPR fun w7 A7 B7 XR7 hb7=>?_)
   have TW7:=jD (TW9.out.butt PTW hb7)
   have OW7:=jD (O9.out.keep (jrr _) (hb7.froms HLT2))
   clear hb7
   refine jD ?_
   have KR:=jD (ownT.kidsIn (l2:=w.heap.size) (ps:=[w.heap.size+1]) OW7 (Nat.le_add_right _ _) (by simp))
   obtain⟨yTW0,yTW1,yTW2,-,-⟩:=TW7.out
   go_wp2_with (go_at_call 40;refine cM (jau _ _ _ _ _ _ _) ?_;rintro e w8 ⟨rfl,hb8⟩)
   have HBZ:=jD hb8
   have hbx:=Butt.of_below (R:=R) A7.out.fix.lt hb8
   have ha8:At R L w8 _ _:=⟨A7.out.fix.butt hbx,A7.out.rs.below hb8⟩
   have TN:=jD (jac.mpr ⟨_,rfl,KR.out.keep ⟨HBZ.out.size,fun k _ h=>HBZ.out.block k h⟩ (fun _ h _=>h)⟩:synIn (offs w.heap.size [w.heap.size+1]) w8 (.mk 11 wa ⟨#[]⟩ 0 [(.mk k1 a1 t1 n1 q1),(.mk k2 a2 t2 n2 q2),(.mk k6 a6 t6 n6 q6)]) _)
   have hb8:=hbx;clear hbx
   have A8:=jD ha8;have B8:=jtt B7 hb8
   have XR8:=jbb XR7 HPR hb8
   have TW8:=jD (TW7.out.butt PTW hb8)
   clear ha8 hb8
   refine jD ?_
   have FT:=jD (ja4 HA0 B8 A8 XR8 (Nat.le_succ _) (.int .i64 11) (.int .i64 wa) (.string ⟨#[]⟩) (.int .i64 0) (.slice ao9 3 cap9) _ rfl)
   have GX:=jD ((TN.out).kept (by simp) FT.out.2.2.2).at
   obtain⟨yXR0,yXR1,yXR2,yXR3,yXR4,fXR0,fXR1,fXR2,fXR3,fXR4⟩:=bF XR8
   obtain⟨r0,r1,r2,r3,r4⟩:=FT.out.1
   have GA:=jD FT.out.2.1;have GB:=jD FT.out.2.2.1
   clear FT
   go_wp2
   refine bodyPost_ret (by simp[results,Tryz.results136,go_sem,r0,r1,r2,r3,r4];rfl) rfl ?_
   exact⟨_,_,_,rfl,GX.out,HMM.out _ _ HS6,GA.out,GB.out⟩
theorem flatIn.cell1 {A:Nat→Prop} {W:World}:∀ (l:List Syn) (cs:List Value),flatIn A W l cs→∀ u∈cs,u.oneCell'=true
 | [],cs,h,u,hu=>by rw[show cs=[] from h] at hu;cases hu
 |x::r,cs,⟨v0,v1,v2,v3,v4,cs',e,hx,hr⟩,u,hu=>by
  obtain⟨k,a,t,n,ao,l,c,ks,-,e2⟩:=hx.shape
  cases e2
  rw[e] at hu
  rcases List.mem_append.mp hu with h|h
  ·simp at h
   rcases h with rfl|rfl|rfl|rfl|rfl<;>rfl
  ·exact flatIn.cell1 r cs' hr u h
theorem jd6 {ops:Array Oper} {rest:List Oper} {o:Oper} {a:Act} {W:World} {Q:Exit→Act→World→Prop}
  (hg:o.guard=none) (s x:Operand) (hop:o.op=Op.call { callee:=Callee.builtin Builtin.append,args:=#[s,x],argTypes:=#[23,23] })
  (lo l2:Nat) (v u:Value) (xs ys:List Syn) (hs:a.eval s=v) (hown:ownT lo W xs v) (hl:xs.length≤500000) (hl2:ys.length≤500000) (hbase:lo≤W.heap.size)
  (hx:a.eval x=u) (hy:ownT l2 W ys u) (hlo:lo≤l2) (hoff:∀ b,v.ownBlock=some b→b<l2)
  (hK:∀ (v':Value) (ao:Option Addr) (cap:Nat) (w9:World),v' = .slice ao (xs.length+ys.length) cap→ownT lo w9 (xs++ys) v'→W.grownBy w9 v.ownBlock→wpList Tryz.prog ops Q rest (a.put o.dst v') w9) :
  wpList Tryz.prog ops Q (o::rest) a W:=by
 obtain⟨i0,hi,hz0,hz1,hz2⟩:=info_parts jgZ
 obtain⟨cs,hrow,hflat⟩:=hown
 obtain⟨ds,hrow2,hflat2⟩:=hy
 have hown2:∀ b,v.ownBlock=some b→lo≤b∧b<W.heap.size:=ownT.lo ⟨cs,hrow,hflat⟩
 have hflat3:flatIn (jcm lo v) W ys ds:=flatIn.keep ⟨jrr _,fun _ _ _=>rfl⟩ (fun k hk _=>⟨Nat.le_trans hlo hk.1,fun e=>by have:=hoff k e;have:=hk.1;omega⟩) _ _ hflat2
 have hdl:=flatIn.len _ _ hflat2
 by_cases h0:ys.length=0
 ·have hys:ys=[]:=List.eq_nil_of_length_eq_zero h0
  subst hys
  have hds:ds=[]:=hflat2
  obtain⟨ao,sc,hv⟩:=ownT.slice ⟨cs,hrow,hflat⟩
  have hcap:xs.length≤sc:=by
   rcases hrow.2 with ⟨e,hn⟩|⟨g,cap,cur,e,-,-,hn,-⟩
   ·rw[hv] at e;injection e with _ e1 e2;omega
   ·rw[hv] at e;injection e with _ e1 e2;omega
  obtain⟨bo,uc,hu⟩:=ownT.slice ⟨ds,hrow2,hflat2⟩
  have hsrc:Src Tryz.prog i0.size 23 u 0 [] W:=by
   rw[hu]
   cases bo with
   |none=>exact Src.ofNil W Tryz.underlying23 _
   |some ad=>exact Src.ofSlice W Tryz.underlying23 ad 0 _ [] (by simp) (fun j u h=>by simp at h) (fun u h=>by cases h)
  have hrun:=run_append_nothing (P:=Tryz.prog) W 23 23 o.type 25 i0 Tryz.underlying23 hi ao xs.length sc hcap u hsrc
  refine wpList_plain hg fun K hK'=>?_
  unfold Oper.wp
  simp[execOp,hop,resolve,invoke,builtin,hs,hx,hv,hrun,Result.andThen]
  refine hK' _ _ (hK _ ao sc W rfl ?_ ⟨rfl,rfl,rfl,jrr _,fun _ _ _=>rfl⟩)
  rw[List.append_nil,←hv]
  exact⟨cs,hrow,hflat⟩
 ·rcases hrow2.2 with ⟨-,hn⟩|⟨g2,cap2,cur2,hu,-,hg2,hn2,hm2,hsz2,htk⟩
  ·exact absurd hn h0
  ·refine wpList_append_lies W hg s x 23 hop lo 25 i0 _ 5 64 Tryz.underlying23 hi hz0 hz1 hz2 rfl (by decide) v xs.length cs hs hrow ⟨g2,0,none⟩ ys.length cap2 ds (by rw[hx];exact hu) hdl ?_ (flatIn.cell1 _ _ hflat2) (by omega) (by unfold maxLen;omega) (by omega) hbase _ rfl ?_
   ·intro j u hj
    have hjl:j<ys.length * 5:=by
     have:=(List.getElem?_eq_some_iff.1 hj).1
     omega
    rw[jb5,←htk,List.getElem?_take_of_lt hjl] at *
    simp only[World.cell?,hg2]
    rw[←Array.getElem?_toList]
    simpa using hj
   ·intro g cap w9 hown9 hgrow hgg hg9
    have hkept:Kept (jcm lo v) W w9:=⟨hgrow.size,fun k hk h=>hgrow.block k h (fun e=>hk.2 e.symm)⟩
    have hset:∀ k,jcm lo v k→k<W.heap.size→jcm lo (.slice (some ⟨g,0,none⟩) (xs.length+ys.length) cap) k:=fun k hk h=>⟨hk.1,fun e=>by
     have e2:g=k:=by cases e;rfl
     rcases hgg with h2|h2
     ·exact hk.2 (by rw[h2,e2])
     ·omega⟩
    refine hK _ _ _ w9 rfl ⟨cs++ds,?_,?_⟩ hgrow
    ·rw[List.length_append];exact hown9
    ·exact flatIn.app (flatIn.keep hkept hset ys ds hflat3) xs cs (flatIn.keep hkept hset xs cs hflat)
theorem jjI {L:List Tk} {st s1 s2:RSt} {d:Nat} {xs ys:List Syn} (hf:st.fine) (h1:Stp .decls (d+1) (jaV L st d (tIs L st ⟨#[123]⟩)) xs s1) (h2:Stp .stmts (d+1) s1 ys s2) :
  Stp .body d st [.mk 6 (tokM L st (tIs L st ⟨#[123]⟩)).a ⟨#[]⟩ 0 (xs++ys)] (jad (tIs L s2 ⟨#[125]⟩) s2):=by
 have f1:=Run.fine (jct (L:=L) (d:=d) hf [123]) hf
 have f2:=Run.fine h1 f1
 have f3:=Run.fine h2 f2
 exact jjd (Run.bind (jct (L:=L) hf [123]) (Run.bind h1 (Run.bind h2 (Run.bind (jaI (L:=L) f3 [125]) (ja1 (jah f3))))))
theorem jm9 {R:Nat} {L:List Tk} {d:Nat} {st:RSt} {w:World} (h:At R L w d st) (hd:d≤999999) (hN:NumL L) (K:∀ s:RSt,s.rem≤(jaV L st d (tIs L st ⟨#[123]⟩)).rem→GL 115 R L #[.pointer (some ⟨R,0,none⟩)] .stmts (d+1) s) :
  Calls Tryz.prog 80 #[.pointer (some ⟨R,0,none⟩)] w (PT R L .body d st w):=by
 have hfi:=h.fine
 have HRA:=jD h.rem
 have CE:=fun W (H:At R L W d st)=>jfz H hd ⟨#[123]⟩
 have HM:=jD (fun xs ys s1 s2=>jjI (L:=L) (d:=d) (xs:=xs) (ys:=ys) (s1:=s1) (s2:=s2) hfi)
 have hre:(jaV L st d (tIs L st ⟨#[123]⟩)).rem≤st.rem:=Run.rem (jct (L:=L) (d:=d) hfi [123])
 generalize tokM L st (tIs L st ⟨#[123]⟩)=T at *
 obtain⟨ek,et,ea⟩:=T
 unfold tkA at *
 dsimp only at *
 generalize jaV L st d _=s0 at *
 have KE:=jD CE;have KK:=jD K;have HD:=jD hd;have HNL:=jD hN;have HRE:=jD hre
 have HA0:=jD h
 have HLT:=jD h.fix.lt;have HRW:=jD h.fix.lt
 have A0:=jD (h.alloc jZ);obtain⟨B0,XR0,HPR,HLS⟩:=jS h.fix.lt
 clear h CE K hd hN hfi hre
 go_enter Tryz.func80,Tryz.ntmps80
 go_wp2_with (go_at_call 113;refine jR (KE.out _ A0) B0 XR0 HPR fun w1 A1 B1 XR1=>?_)
 refine jD ?_
 have A1a:=jD (A1.out.alloc (Obj.cells #[.int .i64 ek,.string et,.int .i64 ea] 50));have B1a:=jD (B1.out.alloc HRW (Obj.cells #[.int .i64 ek,.string et,.int .i64 ea] 50))
 have XR1a:=jD (XR1.out.alloc (Obj.cells #[.int .i64 ek,.string et,.int .i64 ea] 50))
 have PTT:=nR A1.out.fix.lt
 have TT1a:=jD (Bx3.new w1 (.int .i64 ek) (.string et) (.int .i64 ea))
 go_wp2_with (go_at_call 114;refine cM (jfD A1a HNL) ?_;rintro e w2 ⟨x2,v2,s2,rfl,hx2,hn2,hs2,ha2,hb2⟩)
 obtain⟨o2,c2,rfl⟩:=hx2.slice
 have RW2:=jD (ownT.kidsIn (l2:=w.heap.size) (ps:=[w.heap.size]) hx2 (Nat.le_trans (jrr _) B1a.out.size) (fun p hp=>by simp only[List.mem_cons,List.not_mem_nil,or_false] at hp;have g0:=XR1a.out.lt;omega))
 have OX2:=jD hx2
 have HS2:=jD hs2;have HN2:=jD hn2
 have A2:=jD ha2;have B2:=jtt B1a hb2
 have XR2:=jbb XR1a HPR hb2
 have TT2:=jD (TT1a.out.butt PTT hb2)
 clear ha2 hb2 hx2 hs2 hn2
 refine jD ?_
 have HLO2:Hid (w.heap.size+1≤w1.heap.size+1):=jD (by have:=XR1.out.lt;omega)
 have OA:=jD (OX2.out.keep (l2:=w1.heap.size+1) (by simp) (From.refl _ _))
 have HLT3:Hid (R<w1.heap.size+1):=jD (by have:=A1.out.fix.lt;omega)
 have HSR:=jD (Run.rem HS2)
 go_wp2_with (go_at_call 115;refine cM (KK.out _ HSR _ A2) ?_;rintro e w3 ⟨x3,v3,s3,rfl,hx3,hn3,hs3,ha3,hb3⟩)
 obtain⟨o3,c3,rfl⟩:=hx3.slice
 have RW3:=jD (ownT.kidsIn (l2:=w.heap.size) (ps:=[w.heap.size]) hx3 (Nat.le_trans (jrr _) B2.out.size) (fun p hp=>by simp only[List.mem_cons,List.not_mem_nil,or_false] at hp;have g0:=XR2.out.lt;omega))
 have OX3:=jD hx3
 have HS3:=jD hs3;have HN3:=jD hn3
 have A3:=jD ha3;have B3:=jtt B2 hb3
 have XR3:=jbb XR2 HPR hb3
 have TT3:=jD (TT2.out.butt PTT hb3)
 have OA3:=jD (OA.out.keep (jrr _) (hb3.froms HLT3))
 clear ha3 hb3 hx3 hs3 hn3
 refine jD ?_
 have HB1:Hid (w1.heap.size+1≤w3.heap.size):=jD TT3.out.lt
 have HOF:=jD (fun b e=>(OA.out.lo b e).2)
 have HX1:Hid (x2.length≤500000):=jD (by have:=HN2.out;have:=HRE.out;have:=HRA.out;omega)
 have HX2:Hid (x3.length≤500000):=jD (by have:=HN3.out;have:=HSR.out;have:=HRE.out;have:=HRA.out;omega)
 have HLL:Hid (w1.heap.size+1≤w2.heap.size):=jD TT2.out.lt
 go_wp2_with (first|(at_builtin;refine jd6 rfl (.tmp 8) (.tmp 10) rfl (w1.heap.size+1) w2.heap.size _ _ x2 x3 (by simp[Act.eval,Act.put]) OA3 HX1 HX2 HB1 (by simp[Act.eval,Act.put]) OX3 HLL HOF ?_;intro v9 ao9 cap9 w9 hv9 ho9 hg9;refine Hid.out ?_)|fail)
 subst hv9
 have hgl:=jap hg9 (fun b e=>(OA3.out.lo b e).1) HLT3 HB1
 have hgr:=At.grow HA0 A3 B3 (Below.down hgl (Nat.le_succ_of_le B1.out.size))
 have A9:=jD hgr.1;have B9:=jD hgr.2;have O9:=jD ho9
 have XR9:=jD (XR3.out.down hgl (by have:=XR1.out.lt;omega))
 have TT9:=jD (TT3.out.down hgl (Nat.lt_succ_self _))
 clear hgl hgr ho9 hg9
 refine jD ?_
 have KR:=jD (ownT.kidsIn (l2:=w.heap.size) (ps:=[w.heap.size]) O9 (Nat.le_succ_of_le B1.out.size) (by have:=XR1.out.lt;simp;omega))
 go_wp2_with (go_at_call 35;refine jX (jaE A9 ⟨#[125]⟩) B9 XR9 HPR fun w10 A10 B10 XR10 hb10=>?_)
 have TT10:=jD (TT9.out.butt PTT hb10)
 have KR10:=jD (KR.out.butt HLT hb10)
 clear hb10
 refine jD ?_
 go_wp2_with (go_at_call 116;refine jX (jfy A10 HD) B10 XR10 HPR fun w11 A11 B11 XR11 hb11=>?_)
 have TT11:=jD (TT10.out.butt PTT hb11)
 have KR11:=jD (KR10.out.butt HLT hb11)
 clear hb11
 refine jD ?_
 obtain⟨yTT0,yTT1,yTT2,-,-⟩:=TT11.out
 go_wp2_with (go_at_call 40;refine cM (jau _ _ _ _ _ _ _) ?_;rintro e w12 ⟨rfl,hb12⟩)
 have HBZ:=jD hb12
 have hbx:=Butt.of_below (R:=R) A11.out.fix.lt hb12
 have ha12:At R L w12 _ _:=⟨A11.out.fix.butt hbx,A11.out.rs.below hb12⟩
 have TN:=jD (jac.mpr ⟨_,rfl,KR11.out.keep ⟨HBZ.out.size,fun k _ h=>HBZ.out.block k h⟩ (fun _ h _=>h)⟩:synIn (offs w.heap.size [w.heap.size]) w12 (.mk 6 ea ⟨#[]⟩ 0 (x2++x3)) _)
 have hb12:=hbx;clear hbx
 have A12:=jD ha12;have B12:=jtt B11 hb12
 have XR12:=jbb XR11 HPR hb12
 have TT12:=jD (TT11.out.butt PTT hb12)
 clear ha12 hb12
 refine jD ?_
 have FT:=jD (ja4 HA0 B12 A12 XR12 (jrr _) (.int .i64 6) (.int .i64 ea) (.string ⟨#[]⟩) (.int .i64 0) (.slice ao9 (x2.length+x3.length) cap9) _ rfl)
 have GX:=jD ((TN.out).kept (by simp) FT.out.2.2.2).at
 obtain⟨yXR0,yXR1,yXR2,yXR3,yXR4,fXR0,fXR1,fXR2,fXR3,fXR4⟩:=bF XR12
 obtain⟨r0,r1,r2,r3,r4⟩:=FT.out.1
 have GA:=jD FT.out.2.1;have GB:=jD FT.out.2.2.1
 clear FT
 go_wp2
 refine bodyPost_ret (by simp[results,Tryz.results80,go_sem,r0,r1,r2,r3,r4];rfl) rfl ?_
 exact⟨_,_,_,rfl,GX.out,HM.out _ _ _ _ HS2 HS3,GA.out,GB.out⟩
theorem jjJ {L:List Tk} {st s0 s1 s2 s3 s4 s5 s6 s7:RSt} {d:Nat} {t:Tk} {k1 k2 k3 k4:Syn} {xs:List Syn} (b:Bool) (hf:st.fine) (hb:tIs L st ⟨#[105,109,112,111,114,116]⟩=b) (h0:s0=if b=true then jaq st else st)
  (h1:s1=jad (tIs L s0 ⟨#[112,114,111,99]⟩) s0) (h2:Run jbd s1 t s2) (h3:Run (jaz d) s2 k1 s3) (h4:Run (jao d) s3 k2 s4) (h5:Run (jaN jb1 d) s4 k3 s5) (h6:Run (jaN jbN d) s5 k4 s6)
  (h7:(b=true∧xs=[k1,k2,k3,k4]∧s7=jad (tIs L s6 ⟨#[59]⟩) s6)∨(b=false∧∃ y,xs=[k1,k2,k3,k4]++[y]∧Stp .body d s6 [y] s7)):Stp .proc d st [.mk 2 (cur L st).a t.t 0 xs] s7:=by
 have f0:s0.fine:=by rw[h0];cases b with|true=>exact RSt.takeS_fine hf|false=>exact hf
 have f1:s1.fine:=by rw[h1];exact jah f0
 have f2:=Run.fine h2 f1
 have f3:=Run.fine h3 f2
 have f4:=Run.fine h4 f3
 have f5:=Run.fine h5 f4
 have f6:=Run.fine h6 f5
 have his:=jaM (L:=L) hf jaR
 rw[show tIs L st ⟨jaR.toArray⟩=b from hb] at his
 have hne:=jaI (L:=L) f0 jb6
 rw[show jad (tIs L s0 ⟨jb6.toArray⟩) s0=s1 from h1.symm] at hne
 have hx:Run (if b=true then jbg else jbm) st (cur L st) s0:=by
  rw[h0]
  cases b with
  |true=>exact jaS hf
  |false=>exact jby hf
 refine jhf (Run.bind (jby (L:=L) hf) (Run.bind his (Run.bind hx (Run.bind hne (Run.bind h2 (Run.bind h3 (Run.bind h4 (Run.bind h5 (Run.bind h6 ?_)))))))))
 rcases h7 with ⟨e,rfl,rfl⟩|⟨e,y,rfl,h7⟩
 ·exact Run.ite (fun _=>Run.bind (jaI (L:=L) f6 [59]) (ja1 (jah f6))) (fun g=>absurd e g)
 ·exact Run.ite (fun g=>absurd (e.symm.trans g) (by decide)) (fun _=>Run.bind h7 (ja1 (Run.fine h7 f6)))
theorem jhZ {R:Nat} {L:List Tk} {d:Nat} {st:RSt} {w:World} (h:At R L w d st) (K:∀ s:RSt,s.rem≤st.rem→GT 31 R L #[.pointer (some ⟨R,0,none⟩)] (.lvl 0) d s) (KB:∀ s:RSt,s.rem≤st.rem→GT 80 R L #[.pointer (some ⟨R,0,none⟩)] .body d s) :
  Calls Tryz.prog 39 #[.pointer (some ⟨R,0,none⟩)] w (PT R L .proc d st w):=by
 have hfi:=h.fine
 have CH:=fun W (H:At R L W d st)=>jeG H
 have CA:=fun W (H:At R L W d st)=>jcB H ⟨#[105,109,112,111,114,116]⟩
 have HM:=jD (fun s0 s1 s2 s3 s4 s5 s6 s7 t k1 k2 k3 k4 xs b=>jjJ (L:=L) (s0:=s0) (s1:=s1) (s2:=s2) (s3:=s3) (s4:=s4) (s5:=s5) (s6:=s6) (s7:=s7) (d:=d) (t:=t) (k1:=k1) (k2:=k2) (k3:=k3) (k4:=k4) (xs:=xs) b hfi)
 have hr0:(if tIs L st ⟨#[105,109,112,111,114,116]⟩=true then jaq st else st).rem≤st.rem:=by split;exact ja6 st;exact jrr _
 have hf0:(if tIs L st ⟨#[105,109,112,111,114,116]⟩=true then jaq st else st).fine:=by split;exact RSt.takeS_fine hfi;exact hfi
 generalize hs0:(if tIs L st ⟨#[105,109,112,111,114,116]⟩=true then jaq st else st)=s0 at *
 have CN:=fun W (H:At R L W d (jad (tIs L s0 ⟨#[112,114,111,99]⟩) s0))=>jiT H
 have hr1:(jad (tIs L s0 ⟨#[112,114,111,99]⟩) s0).rem≤st.rem:=Nat.le_trans jb8 hr0
 have hf1:=jah (can:=tIs L s0 ⟨#[112,114,111,99]⟩) hf0
 generalize hs1:jad (tIs L s0 ⟨#[112,114,111,99]⟩) s0=s1 at *
 have hnm:=jda (L:=L) hf1
 have hr2:(jad (isN (cur L s1)) s1).rem≤st.rem:=Nat.le_trans jb8 hr1
 generalize jad (isN (cur L s1)) s1=s2 at *
 generalize tokM L s1 (isN (cur L s1))=T at *
 obtain⟨ek,et,ea⟩:=T
 generalize (cur L st).a=pa at *
 unfold tkA at *
 dsimp only at *
 cases hb:tIs L st ⟨#[105,109,112,111,114,116]⟩ with
 |true=>
  rw[hb] at CA
  have HS0:=jD hs0;have HS1:=jD hs1;have HNM:=jD hnm;have HBB:=jD hb;have HR2:=jD hr2
  have KH:=jD CH;have KA:=jD CA;have KN:=jD CN;have KK:=jD K;have KKB:=jD KB
  have HA0:=jD h
  have HLT:=jD h.fix.lt;have HRW:=jD h.fix.lt
  have A0:=jD (h.alloc jZ);obtain⟨B0,XR0,HPR,HLS⟩:=jS h.fix.lt
  clear h CH CA CN K KB hfi hr0 hr1 hr2 hf0 hf1 hs0 hs1 hnm hb
  go_enter Tryz.func39,Tryz.ntmps39
  go_wp2_with (go_at_call 36;refine jR (KH.out _ A0) B0 XR0 HPR fun w1 A1 B1 XR1=>?_)
  refine jD ?_
  go_wp2_with (go_at_call 76;refine jR (KA.out _ A1) B1 XR1 HPR fun w2 A2 B2 XR2=>?_)
  refine jD ?_
  go_wp2_with (go_at_call 35;refine jR (jaE A2 ⟨#[112,114,111,99]⟩) B2 XR2 HPR fun w3 A3 B3 XR3=>?_)
  refine jD ?_
  have A3r:=jD ((HS1.out ▸ A3.out:At R L w3 d s1))
  go_wp2_with (go_at_call 73;refine jR (KN.out _ A3r) B3 XR3 HPR fun w4 A4 B4 XR4=>?_)
  refine jD ?_
  have A4a:=jD (A4.out.alloc (jU ek et ea));have B4a:=jD (B4.out.alloc HRW (jU ek et ea))
  have XR4a:=jD (XR4.out.alloc (jU ek et ea))
  have PTT:=nR A4.out.fix.lt
  have TT4a:=jD (Bx3.new w4 (.int .i64 ek) (.string et) (.int .i64 ea))
  have HLT3:Hid (R<w4.heap.size+1):=jD (by have:=A4.out.fix.lt;omega)
  go_wp2_with (go_at_call 77;refine cM (je6 A4a) ?_;rintro e w5 ⟨x5,v5,s5,rfl,hx5,hs5,ha5,hb5⟩)
  obtain⟨k5,a5,t5,n5,o5,l5,c5,q5,rfl,rfl,hk5⟩:=hx5.shape
  have HS5:=jD hs5
  have TR5:=jD (synIn.of (l2:=(w4.heap.size+1)) (ps:=[]) hx5 (by have:=TT4a.out.lt;omega) (by simp))
  have A5:=jD ha5;have B5:=jtt B4a hb5
  have XR5:=jbb XR4a HPR hb5
  have TT5:=jD (TT4a.out.butt PTT hb5)
  clear ha5 hb5 hx5 hk5 hs5
  refine jD ?_
  have HR5:=jD (Nat.le_trans (Run.rem HS5) HR2)
  go_wp2_with (go_at_call 78;refine cM (jh5 A5) ?_;rintro e w6 ⟨x6,v6,s6,rfl,hx6,hs6,ha6,hb6⟩)
  obtain⟨k6,a6,t6,n6,o6,l6,c6,q6,rfl,rfl,hk6⟩:=hx6.shape
  have HS6:=jD hs6
  have TR6:=jD (synIn.of (l2:=(w4.heap.size+1)) (ps:=[]) hx6 (by have:=TT5.out.lt;omega) (by simp))
  have A6:=jD ha6;have B6:=jtt B5 hb6
  have XR6:=jbb XR5 HPR hb6
  have TT6:=jD (TT5.out.butt PTT hb6)
  have TR56:=jvv TR5 HLT3 hb6
  clear ha6 hb6 hx6 hk6 hs6
  refine jD ?_
  have HR6:=jD (Nat.le_trans (Run.rem HS6) HR5)
  go_wp2_with (go_at_call 79;refine cM (jdg A6 (fun s hs=>KK.out s (Nat.le_trans hs HR6))) ?_;rintro e w7 ⟨x7,v7,s7,rfl,hx7,hs7,ha7,hb7⟩)
  obtain⟨k7,a7,t7,n7,o7,l7,c7,q7,rfl,rfl,hk7⟩:=hx7.shape
  have HS7:=jD hs7
  have TR7:=jD (synIn.of (l2:=(w4.heap.size+1)) (ps:=[]) hx7 (by have:=TT6.out.lt;omega) (by simp))
  have A7:=jD ha7;have B7:=jtt B6 hb7
  have XR7:=jbb XR6 HPR hb7
  have TT7:=jD (TT6.out.butt PTT hb7)
  have TR57:=jvv TR56 HLT3 hb7
  have TR67:=jvv TR6 HLT3 hb7
  clear ha7 hb7 hx7 hk7 hs7
  refine jD ?_
  have HR7:=jD (Nat.le_trans (Run.rem HS7) HR6)
  go_wp2_with (go_at_call 79;refine cM (jd3 A7 (fun s hs=>KK.out s (Nat.le_trans hs HR7))) ?_;rintro e w8 ⟨x8,v8,s8,rfl,hx8,hs8,ha8,hb8⟩)
  obtain⟨k8,a8,t8,n8,o8,l8,c8,q8,rfl,rfl,hk8⟩:=hx8.shape
  have HS8:=jD hs8
  have TR8:=jD (synIn.of (l2:=(w4.heap.size+1)) (ps:=[]) hx8 (by have:=TT7.out.lt;omega) (by simp))
  have A8:=jD ha8;have B8:=jtt B7 hb8
  have XR8:=jbb XR7 HPR hb8
  have TT8:=jD (TT7.out.butt PTT hb8)
  have TR58:=jvv TR57 HLT3 hb8
  have TR68:=jvv TR67 HLT3 hb8
  have TR78:=jvv TR7 HLT3 hb8
  clear ha8 hb8 hx8 hk8 hs8
  refine jD ?_
  have HR8:=jD (Nat.le_trans (Run.rem HS8) HR7)
  have OW:=jD (ownT.new (flatIn.cons TR58 (flatIn.cons TR68 (flatIn.cons TR78 (flatIn.one TR8)))) (by have:=TT8.out.lt;omega) 4 rfl (by decide))
  have A8a1:=jD (A8.out.alloc (Obj.cells #[.int .i64 k5,.int .i64 a5,.string t5,.int .i64 n5,.slice o5 l5 c5,.int .i64 k6,.int .i64 a6,.string t6,.int .i64 n6,.slice o6 l6 c6,.int .i64 k7,.int .i64 a7,.string t7,.int .i64 n7,.slice o7 l7 c7,.int .i64 k8,.int .i64 a8,.string t8,.int .i64 n8,.slice o8 l8 c8] 25));have B8a1:=jD (B8.out.alloc HRW (Obj.cells #[.int .i64 k5,.int .i64 a5,.string t5,.int .i64 n5,.slice o5 l5 c5,.int .i64 k6,.int .i64 a6,.string t6,.int .i64 n6,.slice o6 l6 c6,.int .i64 k7,.int .i64 a7,.string t7,.int .i64 n7,.slice o7 l7 c7,.int .i64 k8,.int .i64 a8,.string t8,.int .i64 n8,.slice o8 l8 c8] 25))
  have XR8a1:=jD (XR8.out.alloc (Obj.cells #[.int .i64 k5,.int .i64 a5,.string t5,.int .i64 n5,.slice o5 l5 c5,.int .i64 k6,.int .i64 a6,.string t6,.int .i64 n6,.slice o6 l6 c6,.int .i64 k7,.int .i64 a7,.string t7,.int .i64 n7,.slice o7 l7 c7,.int .i64 k8,.int .i64 a8,.string t8,.int .i64 n8,.slice o8 l8 c8] 25))
  have TT8a1:=jD (TT8.out.alloc (Obj.cells #[.int .i64 k5,.int .i64 a5,.string t5,.int .i64 n5,.slice o5 l5 c5,.int .i64 k6,.int .i64 a6,.string t6,.int .i64 n6,.slice o6 l6 c6,.int .i64 k7,.int .i64 a7,.string t7,.int .i64 n7,.slice o7 l7 c7,.int .i64 k8,.int .i64 a8,.string t8,.int .i64 n8,.slice o8 l8 c8] 25))
  go_wp2_with (go_at_call 35;refine jX (jaE A8a1 ⟨#[59]⟩) B8a1 XR8a1 HPR fun w9 A9 B9 XR9 hb9=>?_)
  have TT9:=jD (TT8a1.out.butt PTT hb9)
  have OW9:=jD (OW.out.keep (jrr _) (hb9.froms HLT3))
  clear hb9
  refine jD ?_
  have KR:=jD (ownT.kidsIn (l2:=w.heap.size) (ps:=[w.heap.size]) OW9 (Nat.le_succ_of_le B4.out.size) (by have:=XR4.out.lt;simp;omega))
  obtain⟨yTT0,yTT1,yTT2,-,-⟩:=TT9.out
  go_wp2_with (go_at_call 40;refine cM (jau _ _ _ _ _ _ _) ?_;rintro e w10 ⟨rfl,hb10⟩)
  have HBZ:=jD hb10
  have hbx:=Butt.of_below (R:=R) A9.out.fix.lt hb10
  have ha10:At R L w10 _ _:=⟨A9.out.fix.butt hbx,A9.out.rs.below hb10⟩
  have TN:=jD (jac.mpr ⟨_,rfl,KR.out.keep ⟨HBZ.out.size,fun k _ h=>HBZ.out.block k h⟩ (fun _ h _=>h)⟩:synIn (offs w.heap.size [w.heap.size]) w10 (.mk 2 pa et 0 [(.mk k5 a5 t5 n5 q5),(.mk k6 a6 t6 n6 q6),(.mk k7 a7 t7 n7 q7),(.mk k8 a8 t8 n8 q8)]) _)
  have hb10:=hbx;clear hbx
  have A10:=jD ha10;have B10:=jtt B9 hb10
  have XR10:=jbb XR9 HPR hb10
  have TT10:=jD (TT9.out.butt PTT hb10)
  clear ha10 hb10
  refine jD ?_
  have FT:=jD (ja4 HA0 B10 A10 XR10 (jrr _) (.int .i64 2) (.int .i64 pa) (.string et) (.int .i64 0) (.slice (some ⟨w8.heap.size,0,none⟩) 4 4) _ rfl)
  have GX:=jD ((TN.out).kept (by simp) FT.out.2.2.2).at
  obtain⟨yXR0,yXR1,yXR2,yXR3,yXR4,fXR0,fXR1,fXR2,fXR3,fXR4⟩:=bF XR10
  obtain⟨r0,r1,r2,r3,r4⟩:=FT.out.1
  have GA:=jD FT.out.2.1;have GB:=jD FT.out.2.2.1
  clear FT
  go_wp2
  refine bodyPost_ret (by simp[results,Tryz.results39,go_sem,r0,r1,r2,r3,r4];rfl) rfl ?_
  exact⟨_,_,_,rfl,GX.out,HM.out s0 s1 s2 _ _ _ _ _ ⟨ek,et,ea⟩ _ _ _ _ _ true HBB (by rw[←HS0.out,HBB.out]) HS1.out.symm HNM HS5 HS6 HS7 HS8 (.inl ⟨rfl,rfl,rfl⟩),GA.out,GB.out⟩
 |false=>
  rw[hb] at CA
  have HS0:=jD hs0;have HS1:=jD hs1;have HNM:=jD hnm;have HBB:=jD hb;have HR2:=jD hr2
  have KH:=jD CH;have KA:=jD CA;have KN:=jD CN;have KK:=jD K;have KKB:=jD KB
  have HA0:=jD h
  have HLT:=jD h.fix.lt;have HRW:=jD h.fix.lt
  have A0:=jD (h.alloc jZ);obtain⟨B0,XR0,HPR,HLS⟩:=jS h.fix.lt
  clear h CH CA CN K KB hfi hr0 hr1 hr2 hf0 hf1 hs0 hs1 hnm hb
  go_enter Tryz.func39,Tryz.ntmps39
  go_wp2_with (go_at_call 36;refine jR (KH.out _ A0) B0 XR0 HPR fun w1 A1 B1 XR1=>?_)
  refine jD ?_
  go_wp2_with (go_at_call 76;refine jR (KA.out _ A1) B1 XR1 HPR fun w2 A2 B2 XR2=>?_)
  refine jD ?_
  go_wp2_with (go_at_call 35;refine jR (jaE A2 ⟨#[112,114,111,99]⟩) B2 XR2 HPR fun w3 A3 B3 XR3=>?_)
  refine jD ?_
  have A3r:=jD ((HS1.out ▸ A3.out:At R L w3 d s1))
  go_wp2_with (go_at_call 73;refine jR (KN.out _ A3r) B3 XR3 HPR fun w4 A4 B4 XR4=>?_)
  refine jD ?_
  have A4a:=jD (A4.out.alloc (jU ek et ea));have B4a:=jD (B4.out.alloc HRW (jU ek et ea))
  have XR4a:=jD (XR4.out.alloc (jU ek et ea))
  have PTT:=nR A4.out.fix.lt
  have TT4a:=jD (Bx3.new w4 (.int .i64 ek) (.string et) (.int .i64 ea))
  have HLT3:Hid (R<w4.heap.size+1):=jD (by have:=A4.out.fix.lt;omega)
  go_wp2_with (go_at_call 77;refine cM (je6 A4a) ?_;rintro e w5 ⟨x5,v5,s5,rfl,hx5,hs5,ha5,hb5⟩)
  obtain⟨k5,a5,t5,n5,o5,l5,c5,q5,rfl,rfl,hk5⟩:=hx5.shape
  have HS5:=jD hs5
  have TR5:=jD (synIn.of (l2:=(w4.heap.size+1)) (ps:=[]) hx5 (by have:=TT4a.out.lt;omega) (by simp))
  have A5:=jD ha5;have B5:=jtt B4a hb5
  have XR5:=jbb XR4a HPR hb5
  have TT5:=jD (TT4a.out.butt PTT hb5)
  clear ha5 hb5 hx5 hk5 hs5
  refine jD ?_
  have HR5:=jD (Nat.le_trans (Run.rem HS5) HR2)
  go_wp2_with (go_at_call 78;refine cM (jh5 A5) ?_;rintro e w6 ⟨x6,v6,s6,rfl,hx6,hs6,ha6,hb6⟩)
  obtain⟨k6,a6,t6,n6,o6,l6,c6,q6,rfl,rfl,hk6⟩:=hx6.shape
  have HS6:=jD hs6
  have TR6:=jD (synIn.of (l2:=(w4.heap.size+1)) (ps:=[]) hx6 (by have:=TT5.out.lt;omega) (by simp))
  have A6:=jD ha6;have B6:=jtt B5 hb6
  have XR6:=jbb XR5 HPR hb6
  have TT6:=jD (TT5.out.butt PTT hb6)
  have TR56:=jvv TR5 HLT3 hb6
  clear ha6 hb6 hx6 hk6 hs6
  refine jD ?_
  have HR6:=jD (Nat.le_trans (Run.rem HS6) HR5)
  go_wp2_with (go_at_call 79;refine cM (jdg A6 (fun s hs=>KK.out s (Nat.le_trans hs HR6))) ?_;rintro e w7 ⟨x7,v7,s7,rfl,hx7,hs7,ha7,hb7⟩)
  obtain⟨k7,a7,t7,n7,o7,l7,c7,q7,rfl,rfl,hk7⟩:=hx7.shape
  have HS7:=jD hs7
  have TR7:=jD (synIn.of (l2:=(w4.heap.size+1)) (ps:=[]) hx7 (by have:=TT6.out.lt;omega) (by simp))
  have A7:=jD ha7;have B7:=jtt B6 hb7
  have XR7:=jbb XR6 HPR hb7
  have TT7:=jD (TT6.out.butt PTT hb7)
  have TR57:=jvv TR56 HLT3 hb7
  have TR67:=jvv TR6 HLT3 hb7
  clear ha7 hb7 hx7 hk7 hs7
  refine jD ?_
  have HR7:=jD (Nat.le_trans (Run.rem HS7) HR6)
  go_wp2_with (go_at_call 79;refine cM (jd3 A7 (fun s hs=>KK.out s (Nat.le_trans hs HR7))) ?_;rintro e w8 ⟨x8,v8,s8,rfl,hx8,hs8,ha8,hb8⟩)
  obtain⟨k8,a8,t8,n8,o8,l8,c8,q8,rfl,rfl,hk8⟩:=hx8.shape
  have HS8:=jD hs8
  have TR8:=jD (synIn.of (l2:=(w4.heap.size+1)) (ps:=[]) hx8 (by have:=TT7.out.lt;omega) (by simp))
  have A8:=jD ha8;have B8:=jtt B7 hb8
  have XR8:=jbb XR7 HPR hb8
  have TT8:=jD (TT7.out.butt PTT hb8)
  have TR58:=jvv TR57 HLT3 hb8
  have TR68:=jvv TR67 HLT3 hb8
  have TR78:=jvv TR7 HLT3 hb8
  clear ha8 hb8 hx8 hk8 hs8
  refine jD ?_
  have HR8:=jD (Nat.le_trans (Run.rem HS8) HR7)
  have OW:=jD (ownT.new (flatIn.cons TR58 (flatIn.cons TR68 (flatIn.cons TR78 (flatIn.one TR8)))) (by have:=TT8.out.lt;omega) 4 rfl (by decide))
  have A8a1:=jD (A8.out.alloc (Obj.cells #[.int .i64 k5,.int .i64 a5,.string t5,.int .i64 n5,.slice o5 l5 c5,.int .i64 k6,.int .i64 a6,.string t6,.int .i64 n6,.slice o6 l6 c6,.int .i64 k7,.int .i64 a7,.string t7,.int .i64 n7,.slice o7 l7 c7,.int .i64 k8,.int .i64 a8,.string t8,.int .i64 n8,.slice o8 l8 c8] 25));have B8a1:=jD (B8.out.alloc HRW (Obj.cells #[.int .i64 k5,.int .i64 a5,.string t5,.int .i64 n5,.slice o5 l5 c5,.int .i64 k6,.int .i64 a6,.string t6,.int .i64 n6,.slice o6 l6 c6,.int .i64 k7,.int .i64 a7,.string t7,.int .i64 n7,.slice o7 l7 c7,.int .i64 k8,.int .i64 a8,.string t8,.int .i64 n8,.slice o8 l8 c8] 25))
  have XR8a1:=jD (XR8.out.alloc (Obj.cells #[.int .i64 k5,.int .i64 a5,.string t5,.int .i64 n5,.slice o5 l5 c5,.int .i64 k6,.int .i64 a6,.string t6,.int .i64 n6,.slice o6 l6 c6,.int .i64 k7,.int .i64 a7,.string t7,.int .i64 n7,.slice o7 l7 c7,.int .i64 k8,.int .i64 a8,.string t8,.int .i64 n8,.slice o8 l8 c8] 25))
  have TT8a1:=jD (TT8.out.alloc (Obj.cells #[.int .i64 k5,.int .i64 a5,.string t5,.int .i64 n5,.slice o5 l5 c5,.int .i64 k6,.int .i64 a6,.string t6,.int .i64 n6,.slice o6 l6 c6,.int .i64 k7,.int .i64 a7,.string t7,.int .i64 n7,.slice o7 l7 c7,.int .i64 k8,.int .i64 a8,.string t8,.int .i64 n8,.slice o8 l8 c8] 25))
  go_wp2_with (go_at_call 80;refine cM (KKB.out _ HR8 _ A8a1) ?_;rintro e w9 ⟨x9,v9,s9,rfl,hx9,hs9,ha9,hb9⟩)
  obtain⟨k9,a9,t9,n9,o9,l9,c9,q9,rfl,rfl,hk9⟩:=hx9.shape
  have HOFF:=jD (OW.out.off (jrr _) hx9 (by have:=TT8a1.out.lt;omega))
  have HS9:=jD hs9
  have TR9:=jD (synIn.of (l2:=(w4.heap.size+1)) (ps:=[]) hx9 (by have:=TT8a1.out.lt;omega) (by simp))
  have A9:=jD ha9;have B9:=jtt B8a1 hb9
  have XR9:=jbb XR8a1 HPR hb9
  have TT9:=jD (TT8a1.out.butt PTT hb9)
  have OW9:=jD (OW.out.keep (jrr _) (hb9.froms HLT3))
  clear ha9 hb9 hx9 hk9 hs9
  refine jD ?_
  have A9a2:=jD (A9.out.alloc (jO k9 a9 t9 n9 o9 l9 c9));have B9a2:=jD (B9.out.alloc HRW (jO k9 a9 t9 n9 o9 l9 c9))
  have XR9a2:=jD (XR9.out.alloc (jO k9 a9 t9 n9 o9 l9 c9))
  have TT9a2:=jD (TT9.out.alloc (jO k9 a9 t9 n9 o9 l9 c9))
  have OW9a2:=jD (OW9.out.keep (jrr _) (From.of_below (jN (jO k9 a9 t9 n9 o9 l9 c9))))
  have HZ:=jD (HOFF.out.below (jN (jO k9 a9 t9 n9 o9 l9 c9)))
  have HB1:Hid (w4.heap.size+1≤(w9.alloc (jO k9 a9 t9 n9 o9 l9 c9)).heap.size):=jD (by have:=TT9a2.out.lt;omega)
  go_wp2_with (first|(at_builtin;refine jag rfl (.tmp 27) (.tmp 30) rfl (w4.heap.size+1) _ [(.mk k5 a5 t5 n5 q5),(.mk k6 a6 t6 n6 q6),(.mk k7 a7 t7 n7 q7),(.mk k8 a8 t8 n8 q8)] (by simp[Act.eval,Act.put]) OW9a2 (by simp) HB1 w9.heap.size _ _ _ _ _ _ (by simp[Act.eval,Act.put]) HZ ⟨rfl,rfl,rfl,rfl,rfl⟩ (by go_cell) (by go_cell) (by go_cell) (by go_cell) (by go_cell) ?_;intro v9 ao9 cap9 w9 hv9 ho9 hg9;refine Hid.out ?_)|fail)
  subst hv9
  have hgl:=jap hg9 (fun b e=>(OW9a2.out.lo b e).1) HLT3 HB1
  have hgr:=At.grow HA0 A9a2 B9a2 (Below.down hgl (Nat.le_succ_of_le B4.out.size))
  have A99:=jD hgr.1;have B99:=jD hgr.2;have O99:=jD ho9
  have XR99:=jD (XR9a2.out.down hgl (by have:=XR4.out.lt;omega));have TT99:=jD (TT9a2.out.down hgl (Nat.lt_succ_self _))
  clear hgl hgr ho9 hg9
  refine jD ?_
  have KR:=jD (ownT.kidsIn (l2:=w.heap.size) (ps:=[w.heap.size]) O99 (Nat.le_succ_of_le B4.out.size) (by have:=XR4.out.lt;simp;omega))
  obtain⟨yTT0,yTT1,yTT2,-,-⟩:=TT99.out
  go_wp2_with (go_at_call 40;refine cM (jau _ _ _ _ _ _ _) ?_;rintro e w21 ⟨rfl,hb21⟩)
  have HBZ:=jD hb21
  have hbx:=Butt.of_below (R:=R) A99.out.fix.lt hb21
  have ha21:At R L w21 _ _:=⟨A99.out.fix.butt hbx,A99.out.rs.below hb21⟩
  have TN:=jD (jac.mpr ⟨_,rfl,KR.out.keep ⟨HBZ.out.size,fun k _ h=>HBZ.out.block k h⟩ (fun _ h _=>h)⟩:synIn (offs w.heap.size [w.heap.size]) w21 (.mk 2 pa et 0 [(.mk k5 a5 t5 n5 q5),(.mk k6 a6 t6 n6 q6),(.mk k7 a7 t7 n7 q7),(.mk k8 a8 t8 n8 q8),(.mk k9 a9 t9 n9 q9)]) _)
  have hb21:=hbx;clear hbx
  have A21:=jD ha21;have B21:=jtt B99 hb21
  have XR21:=jbb XR99 HPR hb21
  have TT21:=jD (TT99.out.butt PTT hb21)
  clear ha21 hb21
  refine jD ?_
  have FT:=jD (ja4 HA0 B21 A21 XR21 (jrr _) (.int .i64 2) (.int .i64 pa) (.string et) (.int .i64 0) (.slice ao9 5 cap9) _ rfl)
  have GX:=jD ((TN.out).kept (by simp) FT.out.2.2.2).at
  obtain⟨yXR0,yXR1,yXR2,yXR3,yXR4,fXR0,fXR1,fXR2,fXR3,fXR4⟩:=bF XR21
  obtain⟨r0,r1,r2,r3,r4⟩:=FT.out.1
  have GA:=jD FT.out.2.1;have GB:=jD FT.out.2.2.1
  clear FT
  go_wp2
  refine bodyPost_ret (by simp[results,Tryz.results39,go_sem,r0,r1,r2,r3,r4];rfl) rfl ?_
  exact⟨_,_,_,rfl,GX.out,HM.out s0 s1 s2 _ _ _ _ _ ⟨ek,et,ea⟩ _ _ _ _ _ false HBB (by rw[←HS0.out,HBB.out]) HS1.out.symm HNM HS5 HS6 HS7 HS8 (.inr ⟨rfl,_,rfl,HS9.out⟩),GA.out,GB.out⟩
end Go.Proofs.YtenmmmdnpglkoaaGreatDoor
