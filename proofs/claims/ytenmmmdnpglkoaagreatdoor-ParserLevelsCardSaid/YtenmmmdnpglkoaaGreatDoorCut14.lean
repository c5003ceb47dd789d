import Derived.Test.YtenmmmdnpglkoaaGreatDoorCut13
set_option linter.unusedSimpArgs false
set_option linter.unusedVariables false
set_option maxRecDepth 100000
set_option maxHeartbeats 8000000
/-
 parser: right, claim, choice.
-/
namespace Go.Proofs.YtenmmmdnpglkoaaGreatDoor
open Go Go.Proofs Go.RowKit Go.Sort
theorem jeo {s:ByteArray} {l:List UInt8} (h:bytes s≠l):(s.toList==(⟨l.toArray⟩:ByteArray).toList)=false:=by
 rw[Bool.eq_false_iff]
 intro e
 exact h (jb4.mp ((Lib.bytes_beq_iff _ _).mp e))
theorem jep {s:ByteArray} {l:List UInt8} (h:bytes s=l):s=⟨l.toArray⟩:=jb4.mpr h
theorem jlI {R:Nat} {L:List Tk} {d:Nat} {st:RSt} {w:World} (h:At R L w d st) (KL:∀ W:World,At R L W d st→Calls Tryz.prog 148 #[.pointer (some ⟨R,0,none⟩)] W (PS R L (fun x st'=>∃ a t i,x = .mk 16 a t 0 [i]∧Stp .load d st [x] st') d W)) (KC:GT 134 R L #[.pointer (some ⟨R,0,none⟩)] .call d st) (KX:GT 32 R L #[.pointer (some ⟨R,0,none⟩)] (.lvl 4) d st) :
  Calls Tryz.prog 135 #[.pointer (some ⟨R,0,none⟩)] w (PT R L .right d st w):=by
 have hfi:=h.fine
 have CI:=fun W (H:At R L W d st)=>sis H ⟨#[105,110,112,117,116]⟩
 have CN:=fun W (H:At R L W d st)=>jln H
 have CF:=fun W (H:At R L W d st)=>jf0 H
 have CT:=fun W (H:At R L W d st)=>jjY H
 have hf:=jdf
 cases h1:tIs L st ⟨#[105,110,112,117,116]⟩ with
 |true=>
  rw[h1] at CI
  have HM:=jD (jjE (d:=d) hfi h1)
  generalize cur L st=T at *
  obtain⟨ek,et,ea⟩:=T
  unfold tkA at *
  dsimp only at *
  have KI:=jD CI;have KT:=jD CT
  have HA0:=jD h
  have HLT:=jD h.fix.lt;have HRW:=jD h.fix.lt
  have A0:=jD (h.alloc jZ);obtain⟨B0,XR0,HPR,HLS⟩:=jS h.fix.lt
  clear h CI CN CF CT KL KC KX h1 hfi
  go_enter Tryz.func135,Tryz.ntmps135
  go_wp2_with (go_at_call 37;refine jR (KI.out _ A0) B0 XR0 HPR fun w1 A1 B1 XR1=>?_)
  refine jD ?_
  go_wp2_with (go_at_call 109;refine jR (KT.out _ A1) B1 XR1 HPR fun w2 A2 B2 XR2=>?_)
  refine jD ?_
  go_wp2_with (go_at_call 40;refine cM (jau _ _ _ _ _ _ _) ?_;rintro e w3 ⟨rfl,hb3⟩)
  have hbx:=Butt.of_below (R:=R) A2.out.fix.lt hb3
  have ha3:At R L w3 _ _:=⟨A2.out.fix.butt hbx,A2.out.rs.below hb3⟩
  have TN:=jD (jac.mpr ⟨_,rfl,(Or.inl ⟨rfl,rfl⟩)⟩:synIn (offs w.heap.size [w.heap.size]) w3 (.mk 15 ea ⟨#[]⟩ 0 []) _)
  have hb3:=hbx;clear hbx
  have A3:=jD ha3;have B3:=jtt B2 hb3
  have XR3:=jbb XR2 HPR hb3
  clear ha3 hb3
  refine jD ?_
  have FT:=jD (ja4 HA0 B3 A3 XR3 (jrr _) (.int .i64 15) (.int .i64 ea) (.string ⟨#[]⟩) (.int .i64 0) (.slice none 0 0) _ rfl)
  have GX:=jD ((TN.out).kept (by simp) FT.out.2.2.2).at
  obtain⟨yXR0,yXR1,yXR2,yXR3,yXR4,fXR0,fXR1,fXR2,fXR3,fXR4⟩:=bF XR3
  obtain⟨r0,r1,r2,r3,r4⟩:=FT.out.1
  have GA:=jD FT.out.2.1;have GB:=jD FT.out.2.2.1
  clear FT
  go_wp2
  refine bodyPost_ret (by simp[results,Tryz.results135,go_sem,r0,r1,r2,r3,r4];rfl) rfl ?_
  exact⟨_,_,_,rfl,GX.out,HM.out,GA.out,GB.out⟩
 |false=>
  rw[h1] at CI
  cases h2:isN (cur L st) with
  |false=>
   rw[h2] at CN
   have HM:=jD (fun x s'=>jfr (d:=d) (xs:=[x]) (st':=s') hfi h1 (.inl h2))
   have KI:=jD CI;have KN:=jD CN;have KE:=jD KX
   have HA0:=jD h
   have HLT:=jD h.fix.lt;have HRW:=jD h.fix.lt
   have A0:=jD (h.alloc jZ);obtain⟨B0,XR0,HPR,HLS⟩:=jS h.fix.lt
   clear h CI CN CF CT KL KC KX h1 h2 hfi
   go_enter Tryz.func135,Tryz.ntmps135
   go_wp2_with (go_at_call 37;refine jR (KI.out _ A0) B0 XR0 HPR fun w1 A1 B1 XR1=>?_)
   refine jD ?_
   go_wp2_with (go_at_call 110;refine jR (KN.out _ A1) B1 XR1 HPR fun w2 A2 B2 XR2=>?_)
   refine jD ?_
   go_wp2_with (go_at_call 110;refine jR (KN.out _ A2) B2 XR2 HPR fun w3 A3 B3 XR3=>?_)
   refine jD ?_
   go_wp2_with (go_at_call 32;refine jT (KE.out _ A3) B3 XR3 HPR fun w4 k4 a4 t4 n4 o4 l4 c4 q4 s4 HS4 TR4 A4 B4 XR4=>?_)
   refine jD ?_
   have FT:=jD (ja4 HA0 B4 A4 XR4 (jrr _) (.int .i64 k4) (.int .i64 a4) (.string t4) (.int .i64 n4) (.slice o4 l4 c4) _ rfl)
   have GX:=jD ((TR4.out).kept (by simp) FT.out.2.2.2).at
   obtain⟨yXR0,yXR1,yXR2,yXR3,yXR4,fXR0,fXR1,fXR2,fXR3,fXR4⟩:=bF XR4
   obtain⟨r0,r1,r2,r3,r4⟩:=FT.out.1
   have GA:=jD FT.out.2.1;have GB:=jD FT.out.2.2.1
   clear FT
   go_wp2
   refine bodyPost_ret (by simp[results,Tryz.results135,go_sem,r0,r1,r2,r3,r4];rfl) rfl ?_
   exact⟨_,_,_,rfl,GX.out,HM.out _ _ HS4,GA.out,GB.out⟩
  |true=>
   rw[h2] at CN
   by_cases h3:bytes (jcx L st)=[91]
   ·have HM:=jD (fun x s'=>jhU (d:=d) (xs:=[x]) (st':=s') hfi h1 h2 h3)
    rw[jep h3] at CF
    have KI:=jD CI;have KN:=jD CN;have KF:=jD CF;have KE:=jD KL
    have HA0:=jD h
    have HLT:=jD h.fix.lt;have HRW:=jD h.fix.lt
    have A0:=jD (h.alloc jZ);obtain⟨B0,XR0,HPR,HLS⟩:=jS h.fix.lt
    clear h CI CN CF CT KL KC KX h1 h2 h3 hfi
    go_enter Tryz.func135,Tryz.ntmps135
    go_wp2_with (go_at_call 37;refine jR (KI.out _ A0) B0 XR0 HPR fun w1 A1 B1 XR1=>?_)
    refine jD ?_
    go_wp2_with (go_at_call 110;refine jR (KN.out _ A1) B1 XR1 HPR fun w2 A2 B2 XR2=>?_)
    refine jD ?_
    go_wp2_with (go_at_call 132;refine jR (KF.out _ A2) B2 XR2 HPR fun w3 A3 B3 XR3=>?_)
    refine jD ?_
    go_wp2_with (go_at_call 148;refine jT (KE.out _ A3) B3 XR3 HPR fun w4 k4 a4 t4 n4 o4 l4 c4 q4 s4 HS4 TR4 A4 B4 XR4=>?_)
    refine jD ?_
    obtain⟨a',t',i',e',hst'⟩:=HS4.out
    have HST:=jD hst';clear hst' e'
    have FT:=jD (ja4 HA0 B4 A4 XR4 (jrr _) (.int .i64 k4) (.int .i64 a4) (.string t4) (.int .i64 n4) (.slice o4 l4 c4) _ rfl)
    have GX:=jD ((TR4.out).kept (by simp) FT.out.2.2.2).at
    obtain⟨yXR0,yXR1,yXR2,yXR3,yXR4,fXR0,fXR1,fXR2,fXR3,fXR4⟩:=bF XR4
    obtain⟨r0,r1,r2,r3,r4⟩:=FT.out.1
    have GA:=jD FT.out.2.1;have GB:=jD FT.out.2.2.1
    clear FT
    go_wp2
    refine bodyPost_ret (by simp[results,Tryz.results135,go_sem,r0,r1,r2,r3,r4];rfl) rfl ?_
    exact⟨_,_,_,rfl,GX.out,HM.out _ _ HST,GA.out,GB.out⟩
   ·by_cases h4:bytes (jcx L st)=[40]
    ·have HM:=jD (fun x s'=>jhV (d:=d) (xs:=[x]) (st':=s') hfi h1 h2 h4)
     rw[jep h4] at CF
     have KI:=jD CI;have KN:=jD CN;have KF:=jD CF;have KE:=jD KC
     have HA0:=jD h
     have HLT:=jD h.fix.lt;have HRW:=jD h.fix.lt
     have A0:=jD (h.alloc jZ);obtain⟨B0,XR0,HPR,HLS⟩:=jS h.fix.lt
     clear h CI CN CF CT KL KC KX h1 h2 h3 h4 hfi
     go_enter Tryz.func135,Tryz.ntmps135
     go_wp2_with (go_at_call 37;refine jR (KI.out _ A0) B0 XR0 HPR fun w1 A1 B1 XR1=>?_)
     refine jD ?_
     go_wp2_with (go_at_call 110;refine jR (KN.out _ A1) B1 XR1 HPR fun w2 A2 B2 XR2=>?_)
     refine jD ?_
     go_wp2_with (go_at_call 132;refine jR (KF.out _ A2) B2 XR2 HPR fun w3 A3 B3 XR3=>?_)
     refine jD ?_
     go_wp2_with (go_at_call 110;refine jR (KN.out _ A3) B3 XR3 HPR fun w4 A4 B4 XR4=>?_)
     refine jD ?_
     go_wp2_with (go_at_call 132;refine jR (KF.out _ A4) B4 XR4 HPR fun w5 A5 B5 XR5=>?_)
     refine jD ?_
     go_wp2_with (go_at_call 134;refine jT (KE.out _ A5) B5 XR5 HPR fun w6 k6 a6 t6 n6 o6 l6 c6 q6 s6 HS6 TR6 A6 B6 XR6=>?_)
     refine jD ?_
     have FT:=jD (ja4 HA0 B6 A6 XR6 (jrr _) (.int .i64 k6) (.int .i64 a6) (.string t6) (.int .i64 n6) (.slice o6 l6 c6) _ rfl)
     have GX:=jD ((TR6.out).kept (by simp) FT.out.2.2.2).at
     obtain⟨yXR0,yXR1,yXR2,yXR3,yXR4,fXR0,fXR1,fXR2,fXR3,fXR4⟩:=bF XR6
     obtain⟨r0,r1,r2,r3,r4⟩:=FT.out.1
     have GA:=jD FT.out.2.1;have GB:=jD FT.out.2.2.1
     clear FT
     go_wp2
     refine bodyPost_ret (by simp[results,Tryz.results135,go_sem,r0,r1,r2,r3,r4];rfl) rfl ?_
     exact⟨_,_,_,rfl,GX.out,HM.out _ _ HS6,GA.out,GB.out⟩
    ·have HM:=jD (fun x s'=>jfr (d:=d) (xs:=[x]) (st':=s') hfi h1 (.inr ⟨h3,h4⟩))
     have e1:((jcx L st).toList==[91])=false:=by have:=jeo h3;simpa using this
     have e2:((jcx L st).toList==[40])=false:=by have:=jeo h4;simpa using this
     generalize jcx L st=NX at *
     have KI:=jD CI;have KN:=jD CN;have KF:=jD CF;have KE:=jD KX
     have HA0:=jD h
     have HLT:=jD h.fix.lt;have HRW:=jD h.fix.lt
     have A0:=jD (h.alloc jZ);obtain⟨B0,XR0,HPR,HLS⟩:=jS h.fix.lt
     clear h CI CN CF CT KL KC KX h1 h2 h3 h4 hfi
     go_enter Tryz.func135,Tryz.ntmps135
     go_wp2_with (go_at_call 37;refine jR (KI.out _ A0) B0 XR0 HPR fun w1 A1 B1 XR1=>?_)
     refine jD ?_
     go_wp2_with (go_at_call 110;refine jR (KN.out _ A1) B1 XR1 HPR fun w2 A2 B2 XR2=>?_)
     refine jD ?_
     go_wp2_with (go_at_call 132;refine jR (KF.out _ A2) B2 XR2 HPR fun w3 A3 B3 XR3=>?_)
     refine jD ?_
     go_wp2_with (go_at_call 110;refine jR (KN.out _ A3) B3 XR3 HPR fun w4 A4 B4 XR4=>?_)
     refine jD ?_
     go_wp2_with (go_at_call 132;refine jR (KF.out _ A4) B4 XR4 HPR fun w5 A5 B5 XR5=>?_)
     refine jD ?_
     go_wp2_with (go_at_call 32;refine jT (KE.out _ A5) B5 XR5 HPR fun w6 k6 a6 t6 n6 o6 l6 c6 q6 s6 HS6 TR6 A6 B6 XR6=>?_)
     refine jD ?_
     have FT:=jD (ja4 HA0 B6 A6 XR6 (jrr _) (.int .i64 k6) (.int .i64 a6) (.string t6) (.int .i64 n6) (.slice o6 l6 c6) _ rfl)
     have GX:=jD ((TR6.out).kept (by simp) FT.out.2.2.2).at
     obtain⟨yXR0,yXR1,yXR2,yXR3,yXR4,fXR0,fXR1,fXR2,fXR3,fXR4⟩:=bF XR6
     obtain⟨r0,r1,r2,r3,r4⟩:=FT.out.1
     have GA:=jD FT.out.2.1;have GB:=jD FT.out.2.2.1
     clear FT
     go_wp2
     refine bodyPost_ret (by simp[results,Tryz.results135,go_sem,r0,r1,r2,r3,r4];rfl) rfl ?_
     exact⟨_,_,_,rfl,GX.out,HM.out _ _ HS6,GA.out,GB.out⟩
theorem jkw {R:Nat} {L:List Tk} {d:Nat} {st:RSt} {w:World} (h:At R L w d st) (k:Int) (KX:GT 31 R L #[.pointer (some ⟨R,0,none⟩)] (.lvl 0) d (jaq st)) :
  Calls Tryz.prog 106 #[.pointer (some ⟨R,0,none⟩),.int .i64 k] w (PS R L (fun x st'=>Run (ja9 k d) st [x] st') d w):=by
 have hfi:=h.fine
 have CT:=fun W (H:At R L W d st)=>jjY H
 have HM:=jD (fun x s'=>je5 (L:=L) (d:=d) (k:=k) (x:=x) (s1:=s') hfi)
 generalize cur L st=T at *
 obtain⟨ek,et,ea⟩:=T
 unfold tkA at *
 dsimp only at *
 have KT:=jD CT;have KE:=jD KX
 have HA0:=jD h
 have HLT:=jD h.fix.lt;have HRW:=jD h.fix.lt
 have A0:=jD (h.alloc jZ);obtain⟨B0,XR0,HPR,HLS⟩:=jS h.fix.lt
 clear h CT KX hfi
 go_enter Tryz.func106,Tryz.ntmps106
 go_wp2_with (go_at_call 109;refine jR (KT.out _ A0) B0 XR0 HPR fun w1 A1 B1 XR1=>?_)
 refine jD ?_
 have A1a:=jD (A1.out.alloc (jU ek et ea));have B1a:=jD (B1.out.alloc HRW (jU ek et ea))
 have XR1a:=jD (XR1.out.alloc (jU ek et ea))
 have PTT:=nR A1.out.fix.lt
 have TT1a:=jD (Bx3.new w1 (.int .i64 ek) (.string et) (.int .i64 ea))
 go_wp2_with (go_at_call 31;refine cM (KE.out _ A1a) ?_;rintro e w2 ⟨x2,v2,s2,rfl,hx2,hs2,ha2,hb2⟩)
 obtain⟨k2,a2,t2,n2,o2,l2,c2,q2,rfl,rfl,hk2⟩:=hx2.shape
 have HS2:=jD hs2
 have TR2:=tA hx2 B1a.out.size XR1a.out.lt
 have A2:=jD ha2;have B2:=jtt B1a hb2
 have XR2:=jbb XR1a HPR hb2
 have TT2:=jD (TT1a.out.butt PTT hb2)
 clear ha2 hb2 hx2 hk2 hs2
 refine jD ?_
 have A2a1:=jD (A2.out.alloc (jO k2 a2 t2 n2 o2 l2 c2));have B2a1:=jD (B2.out.alloc HRW (jO k2 a2 t2 n2 o2 l2 c2))
 have XR2a1:=jD (XR2.out.alloc (jO k2 a2 t2 n2 o2 l2 c2))
 have TT2a1:=jD (TT2.out.alloc (jO k2 a2 t2 n2 o2 l2 c2))
 have TR22a1:=jww TR2 HLT A2.out.fix.lt (jO k2 a2 t2 n2 o2 l2 c2)
 have PXX:=nR A2.out.fix.lt
 have XX2a1:=jD (jn5 w2 k2 a2 t2 n2 o2 l2 c2)
 go_wp2_with (go_at_call 35;refine jX (jaE A2a1 ⟨#[59]⟩) B2a1 XR2a1 HPR fun w3 A3 B3 XR3 hb3=>?_)
 have TT3:=jD (TT2a1.out.butt PTT hb3)
 have XX3:=jbb XX2a1 PXX hb3
 have TR23:=jvv TR22a1 HLT hb3
 clear hb3
 refine jD ?_
 obtain⟨yTT0,yTT1,yTT2,-,-⟩:=TT3.out
 obtain⟨yXX0,yXX1,yXX2,yXX3,yXX4,-,-⟩:=XX3.out
 have hAw:offs w.heap.size [w.heap.size] w3.heap.size:=⟨Nat.le_trans (jrr _) B3.out.size,fun hp=>by simp only[List.mem_cons,List.not_mem_nil,or_false] at hp;have g0:=XR3.out.lt;omega⟩
 have hki:=jaw (flatIn.one (TR23.out)) (by simp) hAw 1 rfl
 have KI:=jD hki
 clear hAw hki
 go_wp2_with (go_at_call 40;refine cM (jau _ _ _ _ _ _ _) ?_;rintro e w4 ⟨rfl,hb4⟩)
 have hbx:=Butt.of_below (R:=R) A3.out.fix.lt (Below.chain (jN (jO k2 a2 t2 n2 o2 l2 c2)) hb4)
 have ha4:At R L w4 _ _:=⟨A3.out.fix.butt hbx,A3.out.rs.below (Below.chain (jN (jO k2 a2 t2 n2 o2 l2 c2)) hb4)⟩
 have TN:=jD (jac.mpr ⟨_,rfl,KI.out.below hb4⟩:synIn (offs w.heap.size [w.heap.size]) w4 (.mk k ea ⟨#[]⟩ 0 [(.mk k2 a2 t2 n2 q2)]) _)
 have hb4:=hbx;clear hbx
 have A4:=jD ha4;have B4:=jtt B3 hb4
 have XR4:=jbb XR3 HPR hb4
 have TT4:=jD (TT3.out.butt PTT hb4)
 have XX4:=jbb XX3 PXX hb4
 clear ha4 hb4
 refine jD ?_
 have FT:=jD (ja4 HA0 B4 A4 XR4 (jrr _) (.int .i64 k) (.int .i64 ea) (.string ⟨#[]⟩) (.int .i64 0) (.slice (some ⟨w3.heap.size,0,none⟩) 1 1) _ rfl)
 have GX:=jD ((TN.out).kept (by simp) FT.out.2.2.2).at
 obtain⟨yXR0,yXR1,yXR2,yXR3,yXR4,fXR0,fXR1,fXR2,fXR3,fXR4⟩:=bF XR4
 obtain⟨r0,r1,r2,r3,r4⟩:=FT.out.1
 have GA:=jD FT.out.2.1;have GB:=jD FT.out.2.2.1
 clear FT
 go_wp2
 refine bodyPost_ret (by simp[results,Tryz.results106,go_sem,r0,r1,r2,r3,r4];rfl) rfl ?_
 exact⟨_,_,_,rfl,GX.out,HM.out _ _ HS2,GA.out,GB.out⟩
theorem jkW {R:Nat} {L:List Tk} {d:Nat} {st:RSt} {w:World} (q:Nat) (hq:w.cell? ⟨q,0,none⟩=some (.pointer (some ⟨R,0,none⟩))) (hqR:q≠R) (hql:q<w.heap.size) (h:At R L w d st) (KX:GT 31 R L #[.pointer (some ⟨R,0,none⟩)] (.lvl 0) d (jaq st)) :
  Calls Tryz.prog 105 #[.pointer (some ⟨q,0,none⟩)] w (PS R L (fun x st'=>Run (ja9 13 d) st [x] st') d w):=by
 have KE:=jD (fun W (H:At R L W d st)=>jkw H 13 KX)
 have hq1:=((Below.refl w.heap.size w).alloc (jrr _) jZ).cell (p:=⟨q,0,none⟩) hql |>.trans hq
 have HA0:=jD h
 have HLT:=jD h.fix.lt;have HRW:=jD h.fix.lt
 have A0:=jD (h.alloc jZ);obtain⟨B0,XR0,HPR,HLS⟩:=jS h.fix.lt
 clear h KX hq hqR hql
 go_enter Tryz.func105,Tryz.ntmps105
 go_wp2_with (go_at_call 106;refine jT (KE.out _ A0) B0 XR0 HPR fun w1 k1 a1 t1 n1 o1 l1 c1 q1 s1 HS1 TR1 A1 B1 XR1=>?_)
 refine jD ?_
 clear hq1
 have FT:=jD (ja4 HA0 B1 A1 XR1 (jrr _) (.int .i64 k1) (.int .i64 a1) (.string t1) (.int .i64 n1) (.slice o1 l1 c1) _ rfl)
 have GX:=jD ((TR1.out).kept (by simp) FT.out.2.2.2).at
 obtain⟨yXR0,yXR1,yXR2,yXR3,yXR4,fXR0,fXR1,fXR2,fXR3,fXR4⟩:=bF XR1
 obtain⟨r0,r1,r2,r3,r4⟩:=FT.out.1
 have GA:=jD FT.out.2.1;have GB:=jD FT.out.2.2.1
 clear FT
 go_wp2
 refine bodyPost_ret (by simp[results,Tryz.results105,go_sem,r0,r1,r2,r3,r4];rfl) rfl ?_
 exact⟨_,_,_,rfl,GX.out,HS1.out,GA.out,GB.out⟩
theorem jkX {R:Nat} {L:List Tk} {d:Nat} {st:RSt} {w:World} (q:Nat) (hq:w.cell? ⟨q,0,none⟩=some (.pointer (some ⟨R,0,none⟩))) (hqR:q≠R) (hql:q<w.heap.size) (h:At R L w d st) (KX:GT 31 R L #[.pointer (some ⟨R,0,none⟩)] (.lvl 0) d (jaq st)) :
  Calls Tryz.prog 107 #[.pointer (some ⟨q,0,none⟩)] w (PS R L (fun x st'=>Run (ja9 14 d) st [x] st') d w):=by
 have KE:=jD (fun W (H:At R L W d st)=>jkw H 14 KX)
 have hq1:=((Below.refl w.heap.size w).alloc (jrr _) jZ).cell (p:=⟨q,0,none⟩) hql |>.trans hq
 have HA0:=jD h
 have HLT:=jD h.fix.lt;have HRW:=jD h.fix.lt
 have A0:=jD (h.alloc jZ);obtain⟨B0,XR0,HPR,HLS⟩:=jS h.fix.lt
 clear h KX hq hqR hql
 go_enter Tryz.func107,Tryz.ntmps107
 go_wp2_with (go_at_call 106;refine jT (KE.out _ A0) B0 XR0 HPR fun w1 k1 a1 t1 n1 o1 l1 c1 q1 s1 HS1 TR1 A1 B1 XR1=>?_)
 refine jD ?_
 clear hq1
 have FT:=jD (ja4 HA0 B1 A1 XR1 (jrr _) (.int .i64 k1) (.int .i64 a1) (.string t1) (.int .i64 n1) (.slice o1 l1 c1) _ rfl)
 have GX:=jD ((TR1.out).kept (by simp) FT.out.2.2.2).at
 obtain⟨yXR0,yXR1,yXR2,yXR3,yXR4,fXR0,fXR1,fXR2,fXR3,fXR4⟩:=bF XR1
 obtain⟨r0,r1,r2,r3,r4⟩:=FT.out.1
 have GA:=jD FT.out.2.1;have GB:=jD FT.out.2.2.1
 clear FT
 go_wp2
 refine bodyPost_ret (by simp[results,Tryz.results107,go_sem,r0,r1,r2,r3,r4];rfl) rfl ?_
 exact⟨_,_,_,rfl,GX.out,HS1.out,GA.out,GB.out⟩
theorem jkY {R:Nat} {L:List Tk} {d:Nat} {st:RSt} {w:World} (h:At R L w d st) (hi:tIs L st ⟨#[105,102]⟩=true) (KB:∀ t:Tk,t=cur L st→GT 136 R L #[.pointer (some ⟨R,0,none⟩),tkA t] (.chain t.a) d (jaq st)) :
  Calls Tryz.prog 103 #[.pointer (some ⟨R,0,none⟩)] w (PT R L (.chain (cur L st).a) d (jaq st) w):=by
 have CE:=fun W (H:At R L W d st)=>jaE H ⟨#[105,102]⟩
 rw[hi] at CE
 have KB:=KB _ rfl
 have e:jad true st=jaq st:=by cases st<;>rfl
 rw[e,jci] at CE
 generalize cur L st=T at *
 have KE:=jD CE;have KQ:=jD KB
 have HA0:=jD h
 have HLT:=jD h.fix.lt;have HRW:=jD h.fix.lt
 have A0:=jD (h.alloc jZ);obtain⟨B0,XR0,HPR,HLS⟩:=jS h.fix.lt
 clear h CE KB hi e
 go_enter Tryz.func103,Tryz.ntmps103
 go_wp2_with (go_at_call 35;refine jR (KE.out _ A0) B0 XR0 HPR fun w1 A1 B1 XR1=>?_)
 refine jD ?_
 go_wp2_with (go_at_call 136;refine jT (KQ.out _ A1) B1 XR1 HPR fun w2 k2 a2 t2 n2 o2 l2 c2 q2 s2 HS2 TR2 A2 B2 XR2=>?_)
 refine jD ?_
 have FT:=jD (ja4 HA0 B2 A2 XR2 (jrr _) (.int .i64 k2) (.int .i64 a2) (.string t2) (.int .i64 n2) (.slice o2 l2 c2) _ rfl)
 have GX:=jD ((TR2.out).kept (by simp) FT.out.2.2.2).at
 obtain⟨yXR0,yXR1,yXR2,yXR3,yXR4,fXR0,fXR1,fXR2,fXR3,fXR4⟩:=bF XR2
 obtain⟨r0,r1,r2,r3,r4⟩:=FT.out.1
 have GA:=jD FT.out.2.1;have GB:=jD FT.out.2.2.1
 clear FT
 go_wp2
 refine bodyPost_ret (by simp[results,Tryz.results103,go_sem,r0,r1,r2,r3,r4];rfl) rfl ?_
 exact⟨_,_,_,rfl,GX.out,HS2.out,GA.out,GB.out⟩
end Go.Proofs.YtenmmmdnpglkoaaGreatDoor
