import Derived.Test.YtenmmmdnpglkoaaGreatDoorCut26
import Derived.Lib.AtoiAllCases
set_option linter.unusedSimpArgs false
set_option linter.unusedVariables false
set_option maxRecDepth 100000
set_option maxHeartbeats 8000000
/-
 The reference's reader: right sides.
-/
namespace Go.Proofs.YtenmmmdnpglkoaaGreatDoor
open Go Go.Proofs Go.RowKit Go.Sort
section
variable {L l:List Tk} {d:Nat} {st s s3 s4:RSt} {x:Syn} {xs:List Syn}
theorem Run.map {α β γ : Type} {A:Rd α} {B:Rd β} {g:α→γ} {x:α} (h:Run (jae A fun p=>jae B fun _=>mRet p) st x s):Run (jae A fun p=>jae B fun _=>mRet (g p)) st (g x) s:=by
 have e:∀ f l,(jae A fun p=>jae B fun _=>mRet (g p)) f l=(jae A fun p=>jae B fun _=>mRet p) f l >>= fun q=>.ok (g q.1,q.2):=fun f l=>by
  unfold jae mRet
  cases A f l with
  |error e=>rfl
  |ok p=>
   show (B f p.2 >>= _)=((B f p.2 >>= _) >>= _)
   cases B f p.2 with
   |error e=>rfl
   |ok q=>rfl
 cases st with
 |bad a e=>exact h
 |ok l=>
  rcases h with ⟨l',rfl,h0,h1,N,hN⟩|⟨a,e',he,rfl,N,hN⟩
  ·exact .inl ⟨l',rfl,h0,h1,N,fun f hf=>by rw[e,hN f hf];rfl⟩
  ·exact .inr ⟨a,e',he,rfl,N,fun f hf=>by rw[e,hN f hf];rfl⟩
theorem jhI (hf:l≠[]) (hn:ja5 (pHd l)=true) (hx:jbU l=[91]) (hs:Stp (.lvl 4) d (.ok (pTl (pTl l))) [x] s3):Stp .load d (.ok l) [.mk 16 (pHd l).a (pHd l).t 0 [x]] (jad (rIs s3 [93]) s3):=by
 have hx':pIs [91] (pTl l)=true:=by unfold pIs;unfold jbU at hx;rw[hx];decide
 have e1:jad (isN (cur [] (.ok l))) (.ok l) = .ok (pTl l):=by rw[jbW,hn];rfl
 have e2:jad (tIs [] (.ok (pTl l)) ⟨#[91]⟩) (.ok (pTl l)) = .ok (pTl (pTl l)):=by rw[show tIs [] (.ok (pTl l)) ⟨#[91]⟩=true from (jaP [] (pTl l) [91]).trans hx'];rfl
 have h:=jjc (L:=[]) (d:=d) (st:=.ok l) (x:=x) (s3:=s3) hf (.ok (pTl l)) (.ok (pTl (pTl l))) e1.symm e2.symm hs
 rw[jbW,hn] at h
 rw[←jbR (L:=[])]
 exact h
theorem jhJ (hf:l≠[]) (hn:ja5 (pHd l)=true) (hx:jbU l=[40]) (hs:Run (jir d) (.ok (pTl (pTl l))) xs s4):Stp .call d (.ok l) [.mk 17 (pHd l).a (pHd l).t 0 xs] s4:=by
 have hx':pIs [40] (pTl l)=true:=by unfold pIs;unfold jbU at hx;rw[hx];decide
 refine Run.want (m:=jfM d) ?_ jdt
 have h1:Run jbd (.ok l) (pHd l) (.ok (pTl l)):=.inl ⟨pTl l,rfl,jaJ hf,jat l,0,fun f _=>by unfold jbd jaW;rw[if_pos hn]⟩
 have h2:Run (jaA [40]) (.ok (pTl l)) (pHd (pTl l)) (.ok (pTl (pTl l))):=.inl ⟨_,rfl,jaJ (jaJ hf),jat _,0,fun f _=>by unfold jaA;rw[if_pos hx']⟩
 exact Run.bind h1 (Run.bind h2 (Run.map (g:=fun p=>[Syn.mk 17 (pHd l).a (pHd l).t 0 p]) hs))
theorem jeR (hf:l≠[]) (hc:pIs jcN l=true):Stp .right d (.ok l) [.mk 15 (pHd l).a ⟨#[]⟩ 0 []] (.ok (pTl l)):=
 jcl (jaJ hf) (jat l) 0 fun f _=>by rw[jaf];simp[hc]
theorem jfh (hc:pIs jcN l=false) (hn:ja5 (pHd l)=true) (hx:jbU l=[91]) (hs:Stp .load d (.ok l) xs s):Stp .right d (.ok l) xs s:=
 jig hs fun f=>by rw[jaf];simp[hc,hn,hx]
theorem jfi (hc:pIs jcN l=false) (hn:ja5 (pHd l)=true) (hx:jbU l=[40]) (hs:Stp .call d (.ok l) xs s):Stp .right d (.ok l) xs s:=
 jig hs fun f=>by rw[jaf];simp[hc,hn,hx]
theorem jdL (hc:pIs jcN l=false) (h:ja5 (pHd l)=false∨(jbU l≠[91]∧jbU l≠[40])) (hs:Stp (.lvl 4) d (.ok l) xs s):Stp .right d (.ok l) xs s:=by
 rcases h with h|⟨h1,h2⟩
 ·exact jig hs fun f=>by rw[jaf];simp[hc,h]
 ·exact jig hs fun f=>by rw[jaf];simp[hc,h1,h2]
end
theorem jk5 {R:Nat} {L:List Tk} {d:Nat} {st:RSt} {w:World} (h:Rf R L w d st) (hd:d≤64) :
  Calls Tryz.prog 122 #[.pointer (some ⟨R,0,none⟩)] w (PF R L .right d st w):=by
 have HD:=jD hd
 have hfi:=h.fine
 cases st with
 |bad ea ee=>
  have CH:=fun W (H:Rf R L W d (.bad ea ee))=>jcy H
  have CT:=fun W (H:Rf R L W d (.bad ea ee))=>jbD H [105,110,112,117,116] (by decide)
  have CN:=fun W (H:Rf R L W d (.bad ea ee))=>jg1 H
  simp only[rIs,Bool.false_eq_true,if_false] at CT
  simp only[rNm] at CN
  have KH:=jD CH;have KT:=jD CT;have KN:=jD CN
  have HA0:=jD h
  have HLT:=jD h.fix.lt;have HRW:=jD h.fix.lt
  have A0:=jD (h.alloc jZ);obtain⟨B0,XR0,HPR,HLS⟩:=jS h.fix.lt
  clear h CH CT CN hd hfi
  go_enter Tryz.func122,Tryz.ntmps122
  go_wp2_with (go_at_call 48;refine cM (KH.out _ A0) ?_;rintro e w1 ⟨z1,rfl,hz1,ha1,hb1⟩)
  have HZ1:=jD hz1
  have A1:=jD ha1;have B1:=jtt B0 hb1
  have XR1:=jbb XR0 HPR hb1
  clear ha1 hb1 hz1
  refine jD ?_
  go_wp2_with (go_at_call 51;refine jR (KT.out _ A1) B1 XR1 HPR fun w2 A2 B2 XR2=>?_)
  refine jD ?_
  go_wp2_with (go_at_call 85;refine jR (KN.out _ A2) B2 XR2 HPR fun w3 A3 B3 XR3=>?_)
  refine jD ?_
  go_wp2_with (go_at_call 85;refine jR (KN.out _ A3) B3 XR3 HPR fun w4 A4 B4 XR4=>?_)
  refine jD ?_
  go_wp2_with (go_at_call 23;refine jT (jc2 HD _ A4) B4 XR4 HPR fun w5 k5 a5 t5 n5 o5 l5 c5 q5 s5 HS5 TR5 A5 B5 XR5=>?_)
  refine jD ?_
  have FT:=jD (jas HA0 B5 A5 XR5 (jrr _) (.int .i64 k5) (.int .i64 a5) (.string t5) (.int .i64 n5) (.slice o5 l5 c5) _ rfl)
  have GX:=jD ((TR5.out).kept (by simp) FT.out.2.2.2).at
  obtain⟨yXR0,yXR1,yXR2,yXR3,yXR4,fXR0,fXR1,fXR2,fXR3,fXR4⟩:=bF XR5
  obtain⟨r0,r1,r2,r3,r4⟩:=FT.out.1
  have GA:=jD FT.out.2.1;have GB:=jD FT.out.2.2.1
  clear FT
  go_wp2
  refine bodyPost_ret (by simp[results,Tryz.results122,go_sem,r0,r1,r2,r3,r4];rfl) rfl ?_
  exact⟨_,_,_,rfl,GX.out,HS5.out,GA.out,GB.out⟩
 |ok l=>
  have CH:=fun W (H:Rf R L W d (.ok l))=>jbQ H
  have CT:=fun W (H:Rf R L W d (.ok l))=>jbD H [105,110,112,117,116] (by decide)
  have CM:=fun W (H:Rf R L W d (.ok l))=>jg1 H
  have C1:=fun W (H:Rf R L W d (.ok l))=>rnx H [91] (by decide)
  have C2:=fun W (H:Rf R L W d (.ok l))=>rnx H [40] (by decide)
  have CN:=fun W (H:Rf R L W d (.ok l))=>jfO H
  cases hc:pIs jcN l with
  |true=>
   rw[show rIs (.ok l) [105,110,112,117,116]=true from hc] at CT;simp only[if_true] at CT
   have HM:=jD (jeR (d:=d) hfi hc)
   generalize (pHd l).a=pa at *
   have KH:=jD CH;have KT:=jD CT
   have HA0:=jD h
   have HLT:=jD h.fix.lt;have HRW:=jD h.fix.lt
   have A0:=jD (h.alloc jZ);obtain⟨B0,XR0,HPR,HLS⟩:=jS h.fix.lt
   clear h CH CT CM C1 C2 CN hc hd hfi
   go_enter Tryz.func122,Tryz.ntmps122
   go_wp2_with (go_at_call 48;refine jR (KH.out _ A0) B0 XR0 HPR fun w1 A1 B1 XR1=>?_)
   refine jD ?_
   go_wp2_with (go_at_call 51;refine jR (KT.out _ A1) B1 XR1 HPR fun w2 A2 B2 XR2=>?_)
   refine jD ?_
   go_wp2_with (go_at_call 47;refine cM (jam _ _ _ _ _ _ _) ?_;rintro e w3 ⟨rfl,hbl3⟩)
   have ha3:=A2.out.below hbl3;have hb3:=Butt.of_below (R:=R) A2.out.fix.lt hbl3;clear hbl3
   have A3:=jD ha3;have B3:=jtt B2 hb3
   have XR3:=jbb XR2 HPR hb3
   clear ha3 hb3
   refine jD ?_
   have FT:=jD (jas HA0 B3 A3 XR3 (jrr _) (.int .i64 15) (.int .i64 pa) (.string ⟨#[]⟩) (.int .i64 0) (.slice none 0 0) _ rfl)
   have GX:=jD (((jac.mpr ⟨_,rfl,Or.inl ⟨rfl,rfl⟩⟩:synIn (offs w.heap.size [w.heap.size]) w3 (.mk 15 pa ⟨#[]⟩ 0 []) _)).kept (by simp) FT.out.2.2.2).at
   obtain⟨yXR0,yXR1,yXR2,yXR3,yXR4,fXR0,fXR1,fXR2,fXR3,fXR4⟩:=bF XR3
   obtain⟨r0,r1,r2,r3,r4⟩:=FT.out.1
   have GA:=jD FT.out.2.1;have GB:=jD FT.out.2.2.1
   clear FT
   go_wp2
   refine bodyPost_ret (by simp[results,Tryz.results122,go_sem,r0,r1,r2,r3,r4];rfl) rfl ?_
   exact⟨_,_,_,rfl,GX.out,HM.out,GA.out,GB.out⟩
  |false=>
   rw[show rIs (.ok l) [105,110,112,117,116]=false from hc] at CT;simp only[Bool.false_eq_true,if_false] at CT
   cases hn:ja5 (pHd l) with
   |false=>
    rw[show rNm (.ok l)=false from hn] at CM
    have HM:=jD (fun x s hs=>jdL (d:=d) (xs:=[x]) (s:=s) hc (.inl hn) hs)
    generalize (pHd l).a=pa at *
    have KH:=jD CH;have KT:=jD CT;have KM:=jD CM
    have HA0:=jD h
    have HLT:=jD h.fix.lt;have HRW:=jD h.fix.lt
    have A0:=jD (h.alloc jZ);obtain⟨B0,XR0,HPR,HLS⟩:=jS h.fix.lt
    clear h CH CT CM C1 C2 CN hc hn hd hfi
    go_enter Tryz.func122,Tryz.ntmps122
    go_wp2_with (go_at_call 48;refine jR (KH.out _ A0) B0 XR0 HPR fun w1 A1 B1 XR1=>?_)
    refine jD ?_
    go_wp2_with (go_at_call 51;refine jR (KT.out _ A1) B1 XR1 HPR fun w2 A2 B2 XR2=>?_)
    refine jD ?_
    go_wp2_with (go_at_call 85;refine jR (KM.out _ A2) B2 XR2 HPR fun w3 A3 B3 XR3=>?_)
    refine jD ?_
    go_wp2_with (go_at_call 85;refine jR (KM.out _ A3) B3 XR3 HPR fun w4 A4 B4 XR4=>?_)
    refine jD ?_
    go_wp2_with (go_at_call 23;refine jT (jc2 HD _ A4) B4 XR4 HPR fun w5 k5 a5 t5 n5 o5 l5 c5 q5 s5 HS5 TR5 A5 B5 XR5=>?_)
    refine jD ?_
    have FT:=jD (jas HA0 B5 A5 XR5 (jrr _) (.int .i64 k5) (.int .i64 a5) (.string t5) (.int .i64 n5) (.slice o5 l5 c5) _ rfl)
    have GX:=jD ((TR5.out).kept (by simp) FT.out.2.2.2).at
    obtain⟨yXR0,yXR1,yXR2,yXR3,yXR4,fXR0,fXR1,fXR2,fXR3,fXR4⟩:=bF XR5
    obtain⟨r0,r1,r2,r3,r4⟩:=FT.out.1
    have GA:=jD FT.out.2.1;have GB:=jD FT.out.2.2.1
    clear FT
    go_wp2
    refine bodyPost_ret (by simp[results,Tryz.results122,go_sem,r0,r1,r2,r3,r4];rfl) rfl ?_
    exact⟨_,_,_,rfl,GX.out,HM.out _ _ HS5,GA.out,GB.out⟩
   |true=>
    rw[show rNm (.ok l)=true from hn] at CM CN
    by_cases h1:jbU l=[91]
    ·rw[show rNx (.ok l) [91]=true from beq_iff_eq.mpr h1] at C1
     have HM:=jD (fun x s hs=>jfh (d:=d) hc hn h1 (jhI (d:=d) (x:=x) (s3:=s) hfi hn h1 hs))
     generalize (pHd l).a=pa at *
     have CN:=fun W H=>(CN W H).mono (fun e w' (g:∃ t,e = .returned (.string t)∧(∀ l',RSt.ok l = .ok l'→true=true→t=(pHd l').t)∧Rf R L w' d (.ok (pTl l))∧Butt R W w')=>(show e = .returned (.string (pHd l).t)∧Rf R L w' d (.ok (pTl l))∧Butt R W w' from by obtain⟨t,rfl,ht,h1,h2⟩:=g;rw[ht l rfl rfl];exact⟨rfl,h1,h2⟩))
     generalize (pHd l).t=pt at *
     have KH:=jD CH;have KT:=jD CT;have KM:=jD CM;have K1:=jD C1;have KN:=jD CN
     have HA0:=jD h
     have HLT:=jD h.fix.lt;have HRW:=jD h.fix.lt
     have A0:=jD (h.alloc jZ);obtain⟨B0,XR0,HPR,HLS⟩:=jS h.fix.lt
     clear h CH CT CM C1 C2 CN hc hn h1 hd hfi
     go_enter Tryz.func122,Tryz.ntmps122
     go_wp2_with (go_at_call 48;refine jR (KH.out _ A0) B0 XR0 HPR fun w1 A1 B1 XR1=>?_)
     refine jD ?_
     go_wp2_with (go_at_call 51;refine jR (KT.out _ A1) B1 XR1 HPR fun w2 A2 B2 XR2=>?_)
     refine jD ?_
     go_wp2_with (go_at_call 85;refine jR (KM.out _ A2) B2 XR2 HPR fun w3 A3 B3 XR3=>?_)
     refine jD ?_
     go_wp2_with (go_at_call 83;refine jR (K1.out _ A3) B3 XR3 HPR fun w4 A4 B4 XR4=>?_)
     refine jD ?_
     go_wp2_with (go_at_call 53;refine jR (KN.out _ A4) B4 XR4 HPR fun w5 A5 B5 XR5=>?_)
     refine jD ?_
     go_wp2_with (go_at_call 59;refine jR (jcu A5) B5 XR5 HPR fun w6 A6 B6 XR6=>?_)
     refine jD ?_
     have AS:=jD (show Rf R L w6 d (.ok (pTl (pTl l))) from A6)
     go_wp2_with (go_at_call 23;refine jT (jc2 HD _ AS) B6 XR6 HPR fun w7 k7 a7 t7 n7 o7 l7 c7 q7 s7 HS7 TR7 A7 B7 XR7=>?_)
     refine jD ?_
     have A7a:=jD (A7.out.alloc (jO k7 a7 t7 n7 o7 l7 c7));have B7a:=jD (B7.out.alloc HRW (jO k7 a7 t7 n7 o7 l7 c7))
     have XR7a:=jD (XR7.out.alloc (jO k7 a7 t7 n7 o7 l7 c7))
     have TR77a:=jww TR7 HLT A7.out.fix.lt (jO k7 a7 t7 n7 o7 l7 c7)
     have PXX:=nR A7.out.fix.lt
     have XX7a:=jD (jn5 w7 k7 a7 t7 n7 o7 l7 c7)
     go_wp2_with (go_at_call 52;refine jX (jbu A7a [93] (by decide)) B7a XR7a HPR fun w8 A8 B8 XR8 hb8=>?_)
     have XX8:=jbb XX7a PXX hb8
     have TR78:=jvv TR77a HLT hb8
     clear hb8
     refine jD ?_
     obtain⟨yXX0,yXX1,yXX2,yXX3,yXX4,-,-⟩:=XX8.out
     have hAw:offs w.heap.size [w.heap.size] w8.heap.size:=⟨(Nat.le_trans (jrr _) B8.out.size),fun hp=>by simp only[List.mem_cons,List.not_mem_nil,or_false] at hp;have g0:=XR8.out.lt;omega⟩
     have hki:=jaw (flatIn.one (TR78.out)) (by simp) hAw 1 rfl
     have KI:=jD hki
     clear hAw hki
     go_wp2_with (go_at_call 47;refine cM (jam _ _ _ _ _ _ _) ?_;rintro e w9 ⟨rfl,hb9⟩)
     have hbx:=Butt.of_below (R:=R) A8.out.fix.lt (Below.chain (jN (jO k7 a7 t7 n7 o7 l7 c7)) hb9)
     have ha9:Rf R L w9 _ _:=⟨A8.out.fix.butt hbx,A8.out.rs.below (Below.chain (jN (jO k7 a7 t7 n7 o7 l7 c7)) hb9)⟩
     have TN:=jD (jac.mpr ⟨_,rfl,KI.out.below hb9⟩:synIn (offs w.heap.size [w.heap.size]) w9 (.mk 16 pa pt 0 [(.mk k7 a7 t7 n7 q7)]) _)
     have hb9:=hbx;clear hbx
     have A9:=jD ha9;have B9:=jtt B8 hb9
     have XR9:=jbb XR8 HPR hb9
     have XX9:=jbb XX8 PXX hb9
     clear ha9 hb9
     refine jD ?_
     have FT:=jD (jas HA0 B9 A9 XR9 (jrr _) (.int .i64 16) (.int .i64 pa) (.string pt) (.int .i64 0) (.slice (some ⟨w8.heap.size,0,none⟩) 1 1) _ rfl)
     have GX:=jD ((TN.out).kept (by simp) FT.out.2.2.2).at
     obtain⟨yXR0,yXR1,yXR2,yXR3,yXR4,fXR0,fXR1,fXR2,fXR3,fXR4⟩:=bF XR9
     obtain⟨r0,r1,r2,r3,r4⟩:=FT.out.1
     have GA:=jD FT.out.2.1;have GB:=jD FT.out.2.2.1
     clear FT
     go_wp2
     refine bodyPost_ret (by simp[results,Tryz.results122,go_sem,r0,r1,r2,r3,r4];rfl) rfl ?_
     exact⟨_,_,_,rfl,GX.out,HM.out _ _ HS7,GA.out,GB.out⟩
    ·rw[show rNx (.ok l) [91]=false from beq_eq_false_iff_ne.mpr h1] at C1
     by_cases h2:jbU l=[40]
     ·rw[show rNx (.ok l) [40]=true from beq_iff_eq.mpr h2] at C2
      have HM:=jD (fun xs s hs=>jfi (d:=d) hc hn h2 (jhJ (d:=d) (xs:=xs) (s4:=s) hfi hn h2 hs))
      generalize (pHd l).a=pa at *
      have CN:=fun W H=>(CN W H).mono (fun e w' (g:∃ t,e = .returned (.string t)∧(∀ l',RSt.ok l = .ok l'→true=true→t=(pHd l').t)∧Rf R L w' d (.ok (pTl l))∧Butt R W w')=>(show e = .returned (.string (pHd l).t)∧Rf R L w' d (.ok (pTl l))∧Butt R W w' from by obtain⟨t,rfl,ht,h1,h2⟩:=g;rw[ht l rfl rfl];exact⟨rfl,h1,h2⟩))
      generalize (pHd l).t=pt at *
      have KH:=jD CH;have KT:=jD CT;have KM:=jD CM;have K1:=jD C1;have K2:=jD C2;have KN:=jD CN
      have HA0:=jD h
      have HLT:=jD h.fix.lt;have HRW:=jD h.fix.lt
      have A0:=jD (h.alloc jZ);obtain⟨B0,XR0,HPR,HLS⟩:=jS h.fix.lt
      clear h CH CT CM C1 C2 CN hc hn h1 h2 hd hfi
      go_enter Tryz.func122,Tryz.ntmps122
      go_wp2_with (go_at_call 48;refine jR (KH.out _ A0) B0 XR0 HPR fun w1 A1 B1 XR1=>?_)
      refine jD ?_
      go_wp2_with (go_at_call 51;refine jR (KT.out _ A1) B1 XR1 HPR fun w2 A2 B2 XR2=>?_)
      refine jD ?_
      go_wp2_with (go_at_call 85;refine jR (KM.out _ A2) B2 XR2 HPR fun w3 A3 B3 XR3=>?_)
      refine jD ?_
      go_wp2_with (go_at_call 83;refine jR (K1.out _ A3) B3 XR3 HPR fun w4 A4 B4 XR4=>?_)
      refine jD ?_
      go_wp2_with (go_at_call 85;refine jR (KM.out _ A4) B4 XR4 HPR fun w5 A5 B5 XR5=>?_)
      refine jD ?_
      go_wp2_with (go_at_call 83;refine jR (K2.out _ A5) B5 XR5 HPR fun w6 A6 B6 XR6=>?_)
      refine jD ?_
      go_wp2_with (go_at_call 53;refine jR (KN.out _ A6) B6 XR6 HPR fun w7 A7 B7 XR7=>?_)
      refine jD ?_
      go_wp2_with (go_at_call 59;refine jR (jcu A7) B7 XR7 HPR fun w8 A8 B8 XR8=>?_)
      refine jD ?_
      have AS:=jD (show Rf R L w8 d (.ok (pTl (pTl l))) from A8)
      go_wp2_with (go_at_call 120;refine cM (jmr AS HD) ?_;rintro e w9 ⟨x9,v9,s9,rfl,hx9,hs9,ha9,hb9⟩)
      obtain⟨o9,c9,rfl⟩:=hx9.slice
      have RW9:=jD (ownT.kidsIn (l2:=w.heap.size) (ps:=[w.heap.size]) hx9 (Nat.le_trans (jrr _) B8.out.size) (fun p hp=>by simp only[List.mem_cons,List.not_mem_nil,or_false] at hp;have g0:=XR8.out.lt;omega))
      have HS9:=jD hs9
      have A9:=jD ha9;have B9:=jtt B8 hb9
      have XR9:=jbb XR8 HPR hb9
      clear ha9 hb9 hx9 hs9
      refine jD ?_
      go_wp2_with (go_at_call 47;refine cM (jam _ _ _ _ _ _ _) ?_;rintro e w10 ⟨rfl,hb10⟩)
      have hbx:=Butt.of_below (R:=R) A9.out.fix.lt hb10
      have ha10:Rf R L w10 _ _:=⟨A9.out.fix.butt hbx,A9.out.rs.below hb10⟩
      have TN:=jD (jac.mpr ⟨_,rfl,RW9.out.below hb10⟩:synIn (offs w.heap.size [w.heap.size]) w10 (.mk 17 pa pt 0 x9) _)
      have hb10:=hbx;clear hbx
      have A10:=jD ha10;have B10:=jtt B9 hb10
      have XR10:=jbb XR9 HPR hb10
      clear ha10 hb10
      refine jD ?_
      have FT:=jD (jas HA0 B10 A10 XR10 (jrr _) (.int .i64 17) (.int .i64 pa) (.string pt) (.int .i64 0) (.slice o9 x9.length c9) _ rfl)
      have GX:=jD ((TN.out).kept (by simp) FT.out.2.2.2).at
      obtain⟨yXR0,yXR1,yXR2,yXR3,yXR4,fXR0,fXR1,fXR2,fXR3,fXR4⟩:=bF XR10
      obtain⟨r0,r1,r2,r3,r4⟩:=FT.out.1
      have GA:=jD FT.out.2.1;have GB:=jD FT.out.2.2.1
      clear FT
      go_wp2
      refine bodyPost_ret (by simp[results,Tryz.results122,go_sem,r0,r1,r2,r3,r4];rfl) rfl ?_
      exact⟨_,_,_,rfl,GX.out,HM.out _ _ HS9,GA.out,GB.out⟩
     ·rw[show rNx (.ok l) [40]=false from beq_eq_false_iff_ne.mpr h2] at C2
      have HM:=jD (fun x s hs=>jdL (d:=d) (xs:=[x]) (s:=s) hc (.inr ⟨h1,h2⟩) hs)
      generalize (pHd l).a=pa at *
      have KH:=jD CH;have KT:=jD CT;have KM:=jD CM;have K1:=jD C1;have K2:=jD C2
      have HA0:=jD h
      have HLT:=jD h.fix.lt;have HRW:=jD h.fix.lt
      have A0:=jD (h.alloc jZ);obtain⟨B0,XR0,HPR,HLS⟩:=jS h.fix.lt
      clear h CH CT CM C1 C2 CN hc hn h1 h2 hd hfi
      go_enter Tryz.func122,Tryz.ntmps122
      go_wp2_with (go_at_call 48;refine jR (KH.out _ A0) B0 XR0 HPR fun w1 A1 B1 XR1=>?_)
      refine jD ?_
      go_wp2_with (go_at_call 51;refine jR (KT.out _ A1) B1 XR1 HPR fun w2 A2 B2 XR2=>?_)
      refine jD ?_
      go_wp2_with (go_at_call 85;refine jR (KM.out _ A2) B2 XR2 HPR fun w3 A3 B3 XR3=>?_)
      refine jD ?_
      go_wp2_with (go_at_call 83;refine jR (K1.out _ A3) B3 XR3 HPR fun w4 A4 B4 XR4=>?_)
      refine jD ?_
      go_wp2_with (go_at_call 85;refine jR (KM.out _ A4) B4 XR4 HPR fun w5 A5 B5 XR5=>?_)
      refine jD ?_
      go_wp2_with (go_at_call 83;refine jR (K2.out _ A5) B5 XR5 HPR fun w6 A6 B6 XR6=>?_)
      refine jD ?_
      go_wp2_with (go_at_call 23;refine jT (jc2 HD _ A6) B6 XR6 HPR fun w7 k7 a7 t7 n7 o7 l7 c7 q7 s7 HS7 TR7 A7 B7 XR7=>?_)
      refine jD ?_
      have FT:=jD (jas HA0 B7 A7 XR7 (jrr _) (.int .i64 k7) (.int .i64 a7) (.string t7) (.int .i64 n7) (.slice o7 l7 c7) _ rfl)
      have GX:=jD ((TR7.out).kept (by simp) FT.out.2.2.2).at
      obtain⟨yXR0,yXR1,yXR2,yXR3,yXR4,fXR0,fXR1,fXR2,fXR3,fXR4⟩:=bF XR7
      obtain⟨r0,r1,r2,r3,r4⟩:=FT.out.1
      have GA:=jD FT.out.2.1;have GB:=jD FT.out.2.2.1
      clear FT
      go_wp2
      refine bodyPost_ret (by simp[results,Tryz.results122,go_sem,r0,r1,r2,r3,r4];rfl) rfl ?_
      exact⟨_,_,_,rfl,GX.out,HM.out _ _ HS7,GA.out,GB.out⟩
end Go.Proofs.YtenmmmdnpglkoaaGreatDoor

namespace Go.Proofs.YtenmmmdnpglkoaaGreatDoor
open Go Go.Proofs Go.RowKit
theorem jhc (c:UInt8) (h:cls c.toNat=4):48≤c.toNat∧c.toNat≤57:=by
 have g:∀ n,n<256→cls n=4→48≤n∧n≤57:=by decide +kernel
 have g2:=g c.toNat (UInt8.toNat_lt c)
 exact g2 h
def jgu (a:Nat) (l:List UInt8):Nat:=l.foldl (fun n c=>n * 10+(c.toNat-48)) a
theorem jf2 (a:Nat) (c:UInt8) (l:List UInt8):jgu a (c::l)=jgu (a * 10+(c.toNat-48)) l:=by unfold jgu;rw[List.foldl_cons]
theorem jhE:∀ (l:List UInt8) (a:Nat),a≤jgu a l
 | [],a=>jrr a
 |c::l,a=>by
  rw[jf2]
  have:=jhE l (a * 10+(c.toNat-48))
  omega
theorem jk3:∀ (l:List UInt8) (a:Nat),(∀ c∈l,cls c.toNat=4)→Lib.parseUint10 a l = .ok (jgu a l)∨(Lib.parseUint10 a l = .range∧18446744073709551616≤jgu a l)
 | [],a,_=>.inl rfl
 |c::l,a,h=>by
  have hc:=jhc c (h c (by simp))
  have hg:=jhE l (a * 10+(c.toNat-48))
  rw[jf2]
  rw[Lib.parseUint10,if_pos hc]
  by_cases h1:1844674407370955162≤a
  ·rw[if_pos h1]
   exact .inr ⟨rfl,by omega⟩
  ·rw[if_neg h1]
   by_cases h2:18446744073709551616≤a * 10+(c.toNat-48)
   ·rw[if_pos h2]
    exact .inr ⟨rfl,by omega⟩
   ·rw[if_neg h2]
    exact jk3 l _ fun d hd=>h d (by simp[hd])
theorem jhd {l:List UInt8} (hl:l≠[]) (h:∀ c∈l,cls c.toNat=4):(Lib.atoiAll l = .ok (pNum l:Nat)∧pNum l≤9223372036854775807)∨(Lib.atoiAll l = .range∧1048576<pNum l):=by
 obtain⟨c,r,rfl⟩:=List.exists_cons_of_ne_nil hl
 have hc:=jhc c (h c (by simp))
 have hp:pNum (c::r)=jgu 0 (c::r):=rfl
 rw[Lib.atoiAll_plain c r (by omega) (by omega),hp,Lib.parseMag,if_neg (by simp)]
 rcases jk3 (c::r) 0 h with e|⟨e,hb⟩
 ·rw[e,Lib.signless]
  by_cases hb:9223372036854775808≤jgu 0 (c::r)
  ·rw[if_pos hb];exact .inr ⟨rfl,by omega⟩
  ·rw[if_neg hb];exact .inl ⟨rfl,by omega⟩
 ·rw[e];exact .inr ⟨rfl,by omega⟩
theorem jdT {x:List UInt8} (h:okX x) (hk:tkd x=1):∀ c∈x,cls c.toNat=4:=by
 have hn:=jiD.2 ⟨h,hk⟩
 have had:adB x=true:=by
  unfold jcg at hn
  split at hn
  ·assumption
  ·cases hn
 unfold adB at had
 rw[Bool.and_eq_true,List.all_eq_true] at had
 intro c hc
 have:=had.1 c hc
 unfold dgB at this
 exact of_decide_eq_true this
theorem jly {x:List UInt8} (h:okX x):x.length≤100:=by
 rcases jlB x with e|e|e
 ·have:=jkK.2 ⟨h,e⟩
  unfold iwB at this
  simp only[Bool.and_eq_true,decide_eq_true_iff] at this
  omega
 ·have hn:=jiD.2 ⟨h,e⟩
  unfold jcg at hn
  split at hn
  ·split at hn
   ·cases hn
   ·split at hn
    ·cases hn
    ·omega
  ·cases hn
 ·have:=(jkL.2 ⟨h,e⟩).2
  rw[←this]
  unfold sl
  split
  ·omega
  ·split<;>omega
theorem jhF:∀ (f a:Nat) (l:List UInt8),(sq f a l).1.length≤l.length+1
 |0,_,_=>Nat.zero_le _
 |f+1,a,l=>by
  rcases jfB f a l with ⟨-,-,e⟩|⟨k,m,-,-,-,-,-,-,e⟩|⟨k,x,z,-,-,hx,hl,-,-,-,-,-,e⟩
  ·rw[e];simp
  ·rw[e];simp
  ·rw[e]
   have:=jhF f (a+k+x.length) z
   have hp:0<x.length:=List.length_pos_iff.2 hx
   simp only[List.length_cons]
   omega
theorem jdE {s:ByteArray} (hs:s.size≤65536) (he:(scR s).2.2=0):∃ (V:List Tk) (e:Int),(scR s).1=V++[⟨3,⟨#[]⟩,e⟩]∧(∀ t∈V,okX (bytes t.t)∧t.k=tkd (bytes t.t))∧V.length≤s.size:=by
 obtain⟨h1,h2,-⟩:=jlH hs he
 obtain⟨V,e,hv,ho⟩:=jlA _ 0 (bytes s) (Nat.lt_succ_self _) h1
 have hc:=jhF ((bytes s).length+1) 0 (bytes s)
 refine⟨V.map toTk,(e:Int),?_,?_,?_⟩
 ·rw[h2,sqR,hv,List.map_append];rfl
 ·intro t ht
  obtain⟨v,hv2,rfl⟩:=List.mem_map.1 ht
  have:=ho v hv2
  have hb:bytes (toTk v).t=v.2.1:=jcJ _
  rw[hb]
  exact this
 ·rw[hv] at hc
  simp only[List.length_append,List.length_cons,List.length_nil] at hc
  rw[List.length_map]
  have hb:(bytes s).length=s.size:=rfl
  omega
theorem jdF {s:ByteArray} (he:(scR s).2.2=0):s.size≤65536:=by
 by_cases h:s.size≤65536
 ·exact h
 ·unfold scR at he
  rw[if_pos (by omega)] at he
  cases he
section
variable {L V:List Tk} {e:Int} (hL:L=V++[⟨3,⟨#[]⟩,e⟩]) (hV:∀ t∈V,okX (bytes t.t)∧t.k=tkd (bytes t.t)) (hn:V.length≤65536)
include hL hV
theorem jc0 (n:Nat):(n<V.length∧okX (bytes (tkD L n).t)∧(tkD L n).k=tkd (bytes (tkD L n).t))∨(n=V.length∧tkD L n=⟨3,⟨#[]⟩,e⟩)∨(V.length<n∧tkD L n=⟨0,⟨#[]⟩,0⟩):=by
 have hlen:L.length=V.length+1:=by rw[hL];simp
 rcases Nat.lt_trichotomy n V.length with h|h|h
 ·refine .inl ⟨h,?_⟩
  have e1:tkD L n=V[n]'h:=by
   rw[ji6 (by omega)]
   subst hL
   exact List.getElem_append_left h
  rw[e1]
  exact hV _ (List.getElem_mem h)
 ·refine .inr (.inl ⟨h,?_⟩)
  subst hL;subst h
  unfold tkD
  simp
 ·refine .inr (.inr ⟨h,?_⟩)
  unfold tkD
  rw[List.getD_eq_getElem?_getD,List.getElem?_eq_none (by omega)]
  rfl
include hn in
theorem jmj:TkL L:=by
 have hlen:L.length=V.length+1:=by rw[hL];simp
 refine⟨by omega,?_,?_,?_⟩
 ·intro q;rw[q] at hlen;simp at hlen
 ·intro n
  rcases jc0 hL hV n with ⟨-,h,-⟩|⟨-,h⟩|⟨-,h⟩
  ·have:=jly h
   have hb:(bytes (tkD L n).t).length=(tkD L n).t.size:=rfl
   omega
  ·rw[h];exact Nat.zero_le _
  ·rw[h];exact Nat.zero_le _
 ·have:jcL L=⟨3,⟨#[]⟩,e⟩:=by
   unfold jcL
   rcases jc0 hL hV (L.length-1) with ⟨h,-⟩|⟨-,h⟩|⟨h,-⟩
   ·omega
   ·exact h
   ·omega
  rw[this]
  exact⟨rfl,rfl⟩
theorem jlz:NumL L:=by
 intro n h1
 rcases jc0 hL hV n with ⟨-,h,hk⟩|⟨-,h⟩|⟨-,h⟩
 ·exact jhd h.1 (jdT h (hk.symm.trans h1))
 ·rw[h] at h1;exact absurd h1 (fun q=>by cases q)
 ·rw[h] at h1;exact absurd h1 (fun q=>by cases q)
theorem jmH:∀ n,(tkD L n).t=⟨#[110,97,109,101]⟩→isN (tkD L n)=true:=by
 intro n ht
 have h4:tkd (bytes ⟨#[110,97,109,101]⟩)=0:=by decide +kernel
 have h5:nmE ⟨#[110,97,109,101]⟩=0:=by kernel_rfl
 rcases jc0 hL hV n with ⟨-,h,hk⟩|⟨-,h⟩|⟨-,h⟩
 ·unfold isN
  rw[hk,ht,h4,h5];rfl
 ·rw[h] at ht;exact absurd (congrArg ByteArray.size ht) (fun q=>by cases q)
 ·rw[h] at ht;exact absurd (congrArg ByteArray.size ht) (fun q=>by cases q)
end
theorem jbP {s:ByteArray} (he:(scR s).2.2=0):TkL (scR s).1∧NumL (scR s).1∧∀ n,(tkD (scR s).1 n).t=⟨#[110,97,109,101]⟩→isN (tkD (scR s).1 n)=true:=by
 have hs:=jdF he
 obtain⟨V,e,h1,h2,h3⟩:=jdE hs he
 exact⟨jmj h1 h2 (by omega),jlz h1 h2,jmH h1 h2⟩
end Go.Proofs.YtenmmmdnpglkoaaGreatDoor

namespace Go.Proofs.YtenmmmdnpglkoaaGreatDoor
open Go Go.Proofs Go.RowKit Go.Sort
theorem jmu (x:List UInt8):tkd x≠3:=by
 unfold tkd
 repeat' split
 all_goals decide
theorem jmv {V L:List Tk} {e:Int} (hL:L=V++[⟨3,⟨#[]⟩,e⟩]) (hV:∀ t∈V,okX (bytes t.t)∧t.k=tkd (bytes t.t)) (hT:TkL L):TkR L:=by
 have hlen:L.length=V.length+1:=by rw[hL];simp
 refine⟨hT,fun n hn=>?_,fun n h1=>?_⟩
 ·rcases jc0 hL hV n with ⟨-,h,hk⟩|⟨h,-⟩|⟨h,-⟩
  ·rw[hk];exact fun q=>jmu _ (by exact_mod_cast q)
  ·omega
  ·omega
 ·rcases jc0 hL hV n with ⟨-,h,hk⟩|⟨-,h⟩|⟨-,h⟩
  ·have g:=jdT h (hk.symm.trans h1)
   refine⟨fun q=>?_,fun q=>?_,fun q=>?_⟩
   ·exact absurd (g 40 (by rw[q];exact List.mem_cons_self)) (by decide +kernel)
   ·exact absurd (g 116 (by rw[q];exact List.mem_cons_self)) (by decide +kernel)
   ·exact absurd (g 102 (by rw[q];exact List.mem_cons_self)) (by decide +kernel)
  ·rw[h] at h1;exact absurd h1 (fun q=>by cases q)
  ·rw[h] at h1;exact absurd h1 (fun q=>by cases q)
theorem jhL {s:ByteArray} (he:(scR s).2.2=0):TkR (scR s).1:=by
 obtain⟨V,e,h,h1,h2⟩:=jdE (jdF he) he
 exact jmv h h1 (jbP he).1
end Go.Proofs.YtenmmmdnpglkoaaGreatDoor

namespace Go.Proofs.YtenmmmdnpglkoaaGreatDoor
open Go Go.Proofs Go.RowKit
def nz (s:ByteArray) (k:Nat):Nat:=pNum ((bytes s).take k)
theorem jhm (s:ByteArray):nz s 0=0:=rfl
theorem jjj (s:ByteArray):nz s s.size=pNum (bytes s):=by
 show pNum ((bytes s).take (bytes s).length)=_
 rw[List.take_length]
theorem jfU (s:ByteArray) {k:Nat} (hk:k<s.size):nz s (k+1)=10 * nz s k+(jaa s k-48):=by
 have hl:k<(bytes s).length:=hk
 unfold nz pNum
 rw[List.take_add_one,List.getElem?_eq_getElem hl,Option.toList_some,List.foldl_append,List.foldl_cons,List.foldl_nil,Nat.mul_comm]
 congr 1
 unfold jaa
 rw[List.getD_eq_getElem?_getD,List.getElem?_eq_getElem hl]
 rfl
structure DgT (s:ByteArray):Prop where
 pos:0<s.size
 dig:∀ j,j<s.size→48≤jaa s j∧jaa s j≤57
 lead:1<s.size→jaa s 0≠48
theorem DgT.lt {s:ByteArray} (h:DgT s):∀ k,k≤s.size→nz s k<10 ^ k
 |0,_=>by rw[jhm];decide
 |k+1,hk=>by
  rw[jfU s (by omega),Nat.pow_succ]
  have h1:=h.lt k (by omega)
  have h2:=h.dig k (by omega)
  omega
theorem DgT.ge {s:ByteArray} (h:DgT s) (h1:1<s.size):∀ k,k+1≤s.size→10 ^ k≤nz s (k+1)
 |0,_=>by
  rw[jfU s (by omega),jhm]
  have h2:=h.dig 0 (by omega)
  have h3:=h.lead h1
  omega
 |k+1,hk=>by
  rw[jfU s (by omega),Nat.pow_succ]
  have h2:=h.ge h1 k (by omega)
  omega
theorem DgT.long {s:ByteArray} (h:DgT s) (hl:¬ s.size≤17):1048576<pNum (bytes s):=by
 rw[←jjj]
 have g:=h.ge (by omega) (s.size-1) (by omega)
 rw[show s.size-1+1=s.size by omega] at g
 refine Nat.lt_of_lt_of_le ?_ g
 exact Nat.lt_of_lt_of_le (by decide:1048576<10 ^ 17) (Nat.pow_le_pow_right (by decide) (by omega))
theorem jhK (s:ByteArray) (h:DgT s) (w:World):Calls Tryz.prog 154 #[.string s] w fun e w'=>e = .returned (.bool false)∧w'=w:=by
 have hp:=h.pos
 have hd:=(h.dig 0 hp).1
 clear h
 have g0:=ja7 s 0 hp
 generalize jaa s 0=b at *
 have hb:((b:Int)==45)=false:=by rw[beq_eq_false_iff_ne];omega
 go_enter Tryz.func154,Tryz.ntmps154
 go_wp2
 go_ret
 first|exact⟨rfl,rfl⟩|(refine⟨jhv ?_,rfl⟩;rw[Bool.eq_iff_iff];simp;omega)
theorem jhn (s:ByteArray) (h:DgT s) (w:World):Calls Tryz.prog 153 #[.string s] w fun e w'=>e = .returned (.int .i64 (s.size:Nat))∧w'=w:=by
 have KC:=jD (fun W=>jhK s h W)
 clear h
 go_enter Tryz.func153,Tryz.ntmps153
 go_wp2_with (go_at_call 154;refine(KC.out _).mono ?_;rintro e w1 ⟨rfl,h⟩;subst h;refine Hid.out ?_)
 refine jD ?_
 go_wp2
 go_ret
 exact⟨rfl,rfl⟩
theorem jit (s:ByteArray) (h:DgT s) (w:World):Calls Tryz.prog 144 #[.string s,.int .i64 17] w fun e w'=>e = .returned (.bool (decide (s.size≤17)))∧w'=w:=by
 have KC:=jD (fun W=>jhn s h W)
 clear h
 generalize s.size=d at *
 go_enter Tryz.func144,Tryz.ntmps144
 go_wp2_with (go_at_call 153;refine(KC.out _).mono ?_;rintro e w1 ⟨rfl,h⟩;subst h;refine Hid.out ?_)
 refine jD ?_
 go_wp2
 go_ret
 exact⟨jhv (by rw[Bool.eq_iff_iff];simp;omega),rfl⟩
theorem jho (s:ByteArray) (h:DgT s) (hs:s.size≤17) (w:World):Calls Tryz.prog 145 #[.string s] w fun e w'=>e = .returned (.int .i64 (pNum (bytes s):Nat))∧w'=w:=by
 have KC:=jD (fun W=>jhK s h W)
 have hlt:∀ k,k≤s.size→nz s k<100000000000000000:=fun k hk=>Nat.lt_of_lt_of_le (h.lt k hk) (Nat.le_trans (Nat.pow_le_pow_right (by decide) (Nat.le_trans hk hs)) (by decide))
 have H1:=jD h.dig;have H2:=jD (jjj s);have H3:=jD hlt;have H4:=jD (fun k (hk:k<s.size)=>jfU s hk);have H0:=jD (jhm s)
 clear h hlt
 go_enter Tryz.func145,Tryz.ntmps145
 go_wp2_with fail
 go_loop [3,4] (fun nvv iv=>∃ k:Nat,k≤s.size∧iv = .int .i64 k∧nvv = .int .i64 (nz s k:Nat)) (fun _ iv=>s.size-(intOf iv).toNat)
 case atStart=>exact⟨0,Nat.zero_le _,rfl,by rw[H0.out];rfl⟩
 case round=>
  obtain⟨k,hk,rfl,rfl⟩:=hrel
  by_cases hks:k<s.size
  ·have gk:=ja7 s k hks
   obtain⟨hd1,hd2⟩:=H1.out k hks
   have hst:=H4.out k hks
   have hl:=H3.out k (by omega)
   have HST:=jD hst;clear hst
   generalize nz s k=q at *
   generalize jaa s k=b at *
   have hneq:((b:Int) != 45)=true:=by simp;omega
   go_wp2
   go_round
   case rel=>exact⟨k+1,by omega,by go_num,by rw[HST.out];go_num⟩
   case measure=>simp[intOf];omega
  ·have hkn:k=s.size:=by omega
   subst hkn
   have he:=H2.out
   generalize nz s s.size=q at *
   have HE:=jD he;clear he
   go_wp2_with (go_at_call 154;refine(KC.out _).mono ?_;rintro e w1 ⟨rfl,h⟩;subst h;refine Hid.out ?_)
   refine jD ?_
   go_wp2
   go_ret
   exact⟨by rw[←HE.out];rfl,rfl⟩
def intD (n:Nat):Value:=if 1048576<n then .tuple #[.int .i64 0,.bool false] else .tuple #[.int .i64 (n:Nat),.bool true]
theorem jkd (s:ByteArray) (h:DgT s) (w:World):Calls Tryz.prog 118 #[.string s] w fun e w'=>e = .returned (intD (pNum (bytes s)))∧w'=w:=by
 have C1:=fun W=>jit s h W
 unfold intD
 by_cases hs:s.size≤17
 ·have C2:=fun W=>jho s h hs W
  rw[decide_eq_true hs] at C1
  have hz:pNum (bytes s)<100000000000000000:=by
   rw[←jjj]
   exact Nat.lt_of_lt_of_le (h.lt _ (jrr _)) (Nat.le_trans (Nat.pow_le_pow_right (by decide) hs) (by decide))
  generalize pNum (bytes s)=z at *
  have K1:=jD C1;have K2:=jD C2;clear C1 C2 h hs
  by_cases hb:1048576<z
  ·rw[if_pos hb]
   have hp:1048576<(z:Int):=by omega
   have hp2:decide (1048576<(z:Int))=true:=decide_eq_true hp
   go_enter Tryz.func118,Tryz.ntmps118
   go_wp2_with (go_at_call 144;refine(K1.out _).mono ?_;rintro e w1 ⟨rfl,h⟩;subst h;refine Hid.out ?_)
   refine jD ?_
   go_wp2_with (go_at_call 145;refine(K2.out _).mono ?_;rintro e w1 ⟨rfl,h⟩;subst h;refine Hid.out ?_)
   refine jD ?_
   go_wp2
   refine bodyPost_ret (by simp[results,Tryz.results118,go_sem];rfl) rfl ?_
   exact⟨rfl,rfl⟩
  ·rw[if_neg hb]
   have hp:¬ 1048576<(z:Int):=by omega
   have hn:¬ (z:Int) < -1048576:=by omega
   go_enter Tryz.func118,Tryz.ntmps118
   go_wp2_with (go_at_call 144;refine(K1.out _).mono ?_;rintro e w1 ⟨rfl,h⟩;subst h;refine Hid.out ?_)
   refine jD ?_
   go_wp2_with (go_at_call 145;refine(K2.out _).mono ?_;rintro e w1 ⟨rfl,h⟩;subst h;refine Hid.out ?_)
   refine jD ?_
   go_wp2
   refine bodyPost_ret (by simp[results,Tryz.results118,go_sem];rfl) rfl ?_
   exact⟨rfl,rfl⟩
 ·rw[decide_eq_false hs] at C1
  rw[if_pos (h.long hs)]
  have K1:=jD C1;clear C1 h hs
  go_enter Tryz.func118,Tryz.ntmps118
  go_wp2_with (go_at_call 144;refine(K1.out _).mono ?_;rintro e w1 ⟨rfl,h⟩;subst h;refine Hid.out ?_)
  refine jD ?_
  go_wp2
  refine bodyPost_ret (by simp[results,Tryz.results118,go_sem];rfl) rfl ?_
  exact⟨rfl,rfl⟩
end Go.Proofs.YtenmmmdnpglkoaaGreatDoor
