import Derived.Test.YtenmmmdnpglkoaaGreatDoorCut31
set_option linter.unusedSimpArgs false
set_option linter.unusedVariables false
set_option maxRecDepth 100000
set_option maxHeartbeats 8000000
/-
 The reference's reader: statements.
-/
namespace Go.Proofs.YtenmmmdnpglkoaaGreatDoor
open Go Go.Proofs Go.RowKit Go.Sort
section
variable {L l:List Tk} {d:Nat} {st s s1 s2 s3 s4 s5:RSt} {x y:Syn} {xs ys:List Syn} {z:Int} {t:ByteArray} {c:List UInt8}
theorem Run.uniq {α : Type} {m:Rd α} {xa ya:α} (h:Run m (.ok l) xa s) (g:Run m (.ok l) ya s1):s=s1:=by
 rcases h with ⟨l1,rfl,-,-,N,hN⟩|⟨a,e,-,rfl,N,hN⟩
 ·rcases g with ⟨l2,rfl,-,-,M,hM⟩|⟨a,e,-,rfl,M,hM⟩
  ·have:=(hN (max N M) (by omega)).symm.trans (hM (max N M) (by omega));cases this;rfl
  ·have:=(hN (max N M) (by omega)).symm.trans (hM (max N M) (by omega));cases this
 ·rcases g with ⟨l2,rfl,-,-,M,hM⟩|⟨a',e',-,rfl,M,hM⟩
  ·have:=(hN (max N M) (by omega)).symm.trans (hM (max N M) (by omega));cases this
  ·have:=(hN (max N M) (by omega)).symm.trans (hM (max N M) (by omega));cases this;rfl
theorem jdc (hn:nmE ⟨c.toArray⟩≠0) (hc:pIs c l=true):ja5 (pHd l)=false:=by
 unfold ja5
 rw[jhg hc,show decide (nmE ⟨c.toArray⟩=0)=false from decide_eq_false hn,Bool.and_false]
theorem jmQ:nmE ⟨wIf.toArray⟩≠0:=by decide +kernel
theorem jkn:nmE ⟨jbA.toArray⟩≠0:=by decide +kernel
theorem jjw:nmE ⟨jbq.toArray⟩≠0:=by decide +kernel
theorem jjx:nmE ⟨jca.toArray⟩≠0:=by decide +kernel
theorem jeS (hb:begB l=true) (h:Stp .stmt d (.ok l) xs s):Run (mAny d) (.ok l) xs s:=Run.at h fun f=>by unfold mAny;rw[if_pos hb]
theorem jk7 (h:pIs c l=true):tIs [] (.ok l) ⟨c.toArray⟩=true:=(jaP [] l c).trans h
theorem jf5 (h:pIs c l=false):tIs [] (.ok l) ⟨c.toArray⟩=false:=(jaP [] l c).trans h
theorem jfV (h:ja5 (pHd l)=false):isN (cur [] (.ok l))=false:=(jbW [] l).trans h
theorem jhu (h:ja5 (pHd l)=true):isN (cur [] (.ok l))=true:=(jbW [] l).trans h
theorem jmR (hf:l≠[]) (hc:pIs wIf l=true) (h:Run (jay d) (.ok l) xs s):Run (mAny d) (.ok l) xs s:=by
 have hn:=jdc jmQ hc
 refine jeS (by unfold begB;rw[hc];simp) (jcS (Run.bind (jbn (L:=[]) hf) (Run.ite (fun g=>absurd ((jfV hn).symm.trans g) (by decide)) fun _=>Run.bind (jcI hf hc) (Run.ite (fun _=>h) fun g=>absurd rfl g))))
theorem jko (hf:l≠[]) (hc:pIs jbA l=true) (hz:hasA (.ok l) z) (hx:Stp (.lvl 0) d (.ok (pTl l)) [x] s1) (hy:Stp .block d s1 [y] s2):Run (mAny d) (.ok l) [.mk 12 z ⟨#[]⟩ 0 [x,y]] s2:=by
 obtain rfl:=hz l rfl
 exact jeS (by unfold begB;rw[hc];simp) (jft (L:=[]) hf (jfV (jdc jkn hc)) (jf5 (c:=wIf) (jaX hc (by decide))) (jk7 (c:=jbA) hc) (jh4 (L:=[]) hf hx hy))
theorem jjy (hf:l≠[]) (hc:pIs jbq l=true) (hz:hasA (.ok l) z) (hx:Stp (.lvl 0) d (.ok (pTl l)) [x] s1):Run (mAny d) (.ok l) [.mk 13 z ⟨#[]⟩ 0 [x]] (jad (rIs s1 [59]) s1):=by
 obtain rfl:=hz l rfl
 rw[←jbR (L:=[])]
 exact jeS (by unfold begB;rw[hc];simp) (je3 (L:=[]) hf (jfV (jdc jjw hc)) (jf5 (c:=wIf) (jaX hc (by decide))) (jf5 (c:=jbA) (jaX hc (by decide))) (jk7 (c:=jbq) hc) (je5 (L:=[]) (k:=13) hf hx))
theorem jjz (hf:l≠[]) (hc:pIs jca l=true) (hz:hasA (.ok l) z) (hx:Stp (.lvl 0) d (.ok (pTl l)) [x] s1):Run (mAny d) (.ok l) [.mk 14 z ⟨#[]⟩ 0 [x]] (jad (rIs s1 [59]) s1):=by
 obtain rfl:=hz l rfl
 rw[←jbR (L:=[])]
 exact jeS (by unfold begB;rw[hc];simp) (je4 (L:=[]) hf (jfV (jdc jjx hc)) (jf5 (c:=wIf) (jaX hc (by decide))) (jf5 (c:=jbA) (jaX hc (by decide))) (jf5 (c:=jbq) (jaX hc (by decide))) (je5 (L:=[]) (k:=14) hf hx))
theorem jkp (hf:l≠[]) (hn:ja5 (pHd l)=true) (hx:jbU l=[91]) (hz:hasA (.ok l) z) (h1:Stp (.lvl 4) d (.ok (pTl (pTl l))) [x] s3) (h3:Stp (.lvl 4) d (jad (rIs (jad (rIs s3 [93]) s3) [58,61]) (jad (rIs s3 [93]) s3)) [y] s5):Run (mAny d) (.ok l) [.mk 10 z (pHd l).t 0 [x,y]] (jad (rIs s5 [59]) s5):=by
 obtain rfl:=hz l rfl
 rw[←jbR (L:=[])]
 rw[←jbR (L:=[]) (s:=jad (rIs s3 [93]) s3)] at h3
 exact jeS (by unfold begB;rw[hn];simp) (jfs (L:=[]) (st:=.ok l) hf (jhu hn) hx (jhI hf hn hx h1) h3)
theorem jl4 (hf:l≠[]) (hn:ja5 (pHd l)=true) (hx:jbU l=[40]) (hz:hasA (.ok l) z) (h1:Run (jir d) (.ok (pTl (pTl l))) xs s4):Run (mAny d) (.ok l) [.mk 9 z ⟨#[]⟩ 0 [.mk 3 z ⟨#[]⟩ 0 [],.mk 17 z (pHd l).t 0 xs]] (jad (rIs s4 [59]) s4):=by
 obtain rfl:=hz l rfl
 rw[←jbR (L:=[])]
 exact jeS (by unfold begB;rw[hn];simp) (jgg (L:=[]) hf (jhu hn) hx (jhJ hf hn hx h1))
def GC (st:RSt):Prop:=∀ l,st = .ok l→begB l=false∨(ja5 (pHd l)=true∧jbU l≠[91]∧jbU l≠[40])
theorem jg9 (hL:TkL L) (hf:st.fine) (hg:GC st) (hz:hasA st z) (h1:Stp (.list .place) d st xs s1) (h3:Stp .right d (jad (rIs s1 [58,61]) s1) [y] s3):Run (mAny d) st [.mk 9 z ⟨#[]⟩ 0 [.mk 3 z ⟨#[]⟩ 0 xs,y]] (jad (rIs s3 [59]) s3):=by
 cases st with
 |bad a e=>
  obtain rfl:=Run.bads h1
  obtain rfl:=Run.bads h3
  exact rfl
 |ok l=>
  obtain rfl:=hz l rfl
  rcases hg l rfl with hb|⟨hn,hx⟩
  ·have hn:ja5 (pHd l)=false:=by
    unfold begB at hb
    simp only[Bool.or_eq_false_iff] at hb
    exact hb.1
   have e0:jad (rNm (.ok l)) (.ok l) = .bad (pHd l).a 4:=by show jad (ja5 (pHd l)) _=_;rw[hn];rfl
   have hp:Stp .place d (.ok l) [.mk 18 (pHd l).a ⟨#[]⟩ 0 []] (.bad (pHd l).a 4):=by
    have:=jee (d:=d) (z1:=(pHd l).a) (z2:=⟨#[]⟩) (st:=.ok l) hf (fun l' e=>by cases e;rfl) (fun l' e h=>absurd (h.symm.trans (show rNm (.ok l)=false from hn)) (by decide)) (by rw[e0];rfl)
    rw[e0] at this
    exact this
   have hl:=jeP (L:=L) hL hp (show rIs (.bad (pHd l).a 4) [44]=false from rfl)
   obtain rfl:=Run.uniq h1 hl
   obtain rfl:=Run.bads h3
   exact .inr ⟨_,4,by decide,rfl,0,fun f _=>by unfold mAny;rw[if_neg (by rw[hb];decide)]⟩
  ·rw[←jbR (L:=[])]
   rw[←jbR (L:=[])] at h3
   exact jeS (by unfold begB;rw[hn];simp) (je2 (L:=[]) hf (jhu hn) hx h1 h3)
end
structure LstM (st:RSt) (wnt:Want) (d:Nat) (m:Bool) (s:RSt) (xs:List Syn):Prop where
 len:xs.length≤st.rem+1
 srem:s.rem≤st.rem
 lenS:m=true→xs.length+s.rem≤st.rem+1
 go:m=true→∀ ys s',Stp (.list wnt) d s ys s'→Stp (.list wnt) d st (xs++ys) s'
 done:m=false→Stp (.list wnt) d st xs s
section
variable {R:Nat} {L l:List Tk} {w2:World} {d:Nat} {st s s2:RSt} {wnt:Want} {xs:List Syn} {y:Syn} {m:Bool}
theorem LstM.start:LstM st wnt d true st []:=⟨Nat.zero_le _,jrr _,fun _=>by simp only[List.length_nil];omega,fun _ ys s' hs=>hs,fun e=>by cases e⟩
theorem LstM.more (hL:TkL L) (h:LstM st wnt d true (.ok l) xs) (hy:Stp wnt d (.ok l) [y] s2) (h2:Rf R L w2 d s2) (hc:rIs s2 [44]=true):LstM st wnt d true (jaq s2) (xs++[y])∧(jaq s2).rem+1≤l.length:=by
 have g1:=Run.rem hy
 have g0:(RSt.ok l).rem=l.length:=rfl
 have g3:=h.lenS rfl
 obtain⟨l2,rfl,hp⟩:=jbx hc
 have g4:(RSt.ok l2).rem=l2.length:=rfl
 have g2:(jaq (.ok l2)).rem+1=l2.length:=h2.rem_less (jeg hp (by decide))
 refine⟨⟨by rw[List.length_append,show [y].length=1 from rfl];omega,by have:=h.srem;omega,fun _=>by rw[List.length_append,show [y].length=1 from rfl];omega,fun _ ys s' hs=>?_,fun e=>by cases e⟩,by omega⟩
 rw[List.append_assoc]
 exact h.go rfl _ _ (jg6 hL hy hc hs)
theorem LstM.last (hL:TkL L) (h:LstM st wnt d true (.ok l) xs) (hf:l≠[]) (hy:Stp wnt d (.ok l) [y] s2) (hc:rIs s2 [44]=false):LstM st wnt d false s2 (xs++[y]):=by
 have g1:=Run.rem hy
 have g0:(RSt.ok l).rem=l.length:=rfl
 have g3:=h.lenS rfl
 have g5:=List.length_pos_iff.mpr hf
 exact⟨by rw[List.length_append,show [y].length=1 from rfl];omega,by have:=h.srem;omega,(fun e=>by cases e),(fun e=>by cases e),fun _=>h.go rfl _ _ (jeP hL hy hc)⟩
theorem LstM.over (h:LstM st wnt d m s xs) (hc:m=false∨isOk s=false):Stp (.list wnt) d st xs s:=by
 cases m with
 |false=>exact h.done rfl
 |true=>
  rcases hc with e|e
  ·cases e
  ·cases s with
   |ok l=>cases e
   |bad a ee=>
    have g:=h.go rfl [] (.bad a ee) rfl
    rw[List.append_nil] at g
    exact g
end
structure PlcRf (R:Nat) (L:List Tk) (w:World) (d:Nat) (X:Nat) (z:Int) (wr:World) (s:RSt) (xs:List Syn) (v:Value):Prop where
 hat:Rf R L wr d s
 hb:Butt R w wr
 xr:Bx5 wr w.heap.size (.int .i64 0) (.int .i64 0) (.string ⟨#[]⟩) (.int .i64 0) (.slice none 0 0)
 xx:Bx5 wr X (.int .i64 3) (.int .i64 z) (.string ⟨#[]⟩) (.int .i64 0) v
 row:growP w.heap.size [w.heap.size,X] wr xs v
theorem jiw {R:Nat} {L:List Tk} {d:Nat} {st:RSt} {w:World} (h:Rf R L w d st) (hd:d≤64) (KC:(∀ l,st = .ok l→pIs wIf l=true)→∀ W,Rf R L W d st→Calls Tryz.prog 119 #[.pointer (some ⟨R,0,none⟩)] W (QC R L (jay d) d st W)) (KB:∀ s,lessS st s→GF 56 R L #[.pointer (some ⟨R,0,none⟩),.bool false] .block d s) :
  Calls Tryz.prog 88 #[.pointer (some ⟨R,0,none⟩)] w (QC R L (mAny d) d st w):=by
 have hfi:=h.fine
 have HTL:=jD h.fix.toks.toks
 have HD:=jD hd;have HFI:=jD hfi;have KCC:=jD KC;have KBB:=jD KB;have HH:=jD h
 have HRM:=jD h.rem
 have CH:=fun W (H:Rf R L W d st)=>jcy H
 have KH:=jD CH
 have HA0:=jD h
 have HLT:=jD h.fix.lt;have HRW:=jD h.fix.lt
 have A0:=jD (h.alloc jZ);obtain⟨B0,XR0,HPR,HLS⟩:=jS h.fix.lt
 clear h CH hfi hd KC KB
 go_enter Tryz.func88,Tryz.ntmps88
 go_wp2_with (go_at_call 48;refine cM (KH.out _ A0.out) ?_;rintro e w1 ⟨z1,rfl,hz1,ha1,hb1⟩)
 have HZ1:=jD hz1
 have A1:=jD ha1;have B1:=jtt B0 hb1
 have XR1:=jbb XR0 HPR hb1
 clear ha1 hb1 hz1
 refine jD ?_
 go_upto_block 0 with fail
 go_cut [] from 17 to 105 (fun wx=>Rf R L wx d st∧Butt R w wx∧Bx5 wx w.heap.size (.int .i64 0) (.int .i64 0) (.string ⟨#[]⟩) (.int .i64 0) (.slice none 0 0)∧GC st)
 case first=>
  cases st with
  |bad ea ee=>
   have CI:=fun W (H:Rf R L W d (.bad ea ee))=>ris H wIf (by decide)
   have CW:=fun W (H:Rf R L W d (.bad ea ee))=>jbD H jbA (by decide)
   simp only[rIs,Bool.false_eq_true,if_false] at CW
   have CA:=fun W (H:Rf R L W d (.bad ea ee))=>jbD H jbq (by decide)
   simp only[rIs,Bool.false_eq_true,if_false] at CA
   have CU:=fun W (H:Rf R L W d (.bad ea ee))=>jbD H jca (by decide)
   simp only[rIs,Bool.false_eq_true,if_false] at CU
   simp only[rIs] at CI
   have CM:=fun W (H:Rf R L W d (.bad ea ee))=>jg1 H
   simp only[rNm] at CM
   have KI:=jD CI;have KW:=jD CW;have KA:=jD CA;have KU:=jD CU;have KM:=jD CM;clear CI CW CA CU CM
   go_wp2_with (go_at_call 49;refine jR (KI.out _ A1.out) B1 XR1 HPR fun w2 A2 B2 XR2=>?_)
   refine jD ?_
   go_wp2_with (go_at_call 51;refine jR (KW.out _ A2.out) B2 XR2 HPR fun w3 A3 B3 XR3=>?_)
   refine jD ?_
   go_wp2_with (go_at_call 51;refine jR (KA.out _ A3.out) B3 XR3 HPR fun w4 A4 B4 XR4=>?_)
   refine jD ?_
   go_wp2_with (go_at_call 51;refine jR (KU.out _ A4.out) B4 XR4 HPR fun w5 A5 B5 XR5=>?_)
   refine jD ?_
   go_wp2_with (go_at_call 85;refine jR (KM.out _ A5.out) B5 XR5 HPR fun w6 A6 B6 XR6=>?_)
   refine jD ?_
   go_wp2_with (go_at_call 85;refine jR (KM.out _ A6.out) B6 XR6 HPR fun w7 A7 B7 XR7=>?_)
   refine jD ?_
   go_wp2_with fail
   go_meet
   exact⟨A7.out,B7.out,XR7.out,fun l e=>by cases e⟩
  |ok l=>
   have HFL:Hid (l≠[]):=jD HFI.out
   have CI:=fun W (H:Rf R L W d (.ok l))=>ris H wIf (by decide)
   have CW:=fun W (H:Rf R L W d (.ok l))=>jbD H jbA (by decide)
   have CA:=fun W (H:Rf R L W d (.ok l))=>jbD H jbq (by decide)
   have CU:=fun W (H:Rf R L W d (.ok l))=>jbD H jca (by decide)
   have CM:=fun W (H:Rf R L W d (.ok l))=>jg1 H;have C1:=fun W (H:Rf R L W d (.ok l))=>rnx H [91] (by decide);have C2:=fun W (H:Rf R L W d (.ok l))=>rnx H [40] (by decide);have CN:=fun W (H:Rf R L W d (.ok l))=>jfO H
   cases hI:rIs (.ok l) wIf with
   |true=>
    have hc:pIs wIf l=true:=hI
    rw[hI] at CI
    have KQ:=jD (fun W (H:Rf R L W d (.ok l))=>KCC.out (fun l' e=>by cases e;exact hc) W H)
    have HM:=jD (fun xs s hx=>jmR (d:=d) (xs:=xs) (s:=s) HFL.out hc hx)
    have KI:=jD CI
    clear CI CW CA CU CM C1 C2 CN
    clear hc hI
    go_wp2_with (go_at_call 49;refine jR (KI.out _ A1.out) B1 XR1 HPR fun w2 A2 B2 XR2=>?_)
    refine jD ?_
    go_wp2_with (go_at_call 119;refine cM (KQ.out _ A2.out) ?_;rintro e w3 ⟨x3,v3,s3,rfl,hx3,hs3,ha3,hb3⟩)
    obtain⟨k3,a3,t3,n3,o3,l3,c3,q3,rfl,rfl,hk3⟩:=hx3.shape
    have HS3:=jD hs3
    have TR3:=tA hx3 B2.out.size XR2.out.lt
    have A3:=jD ha3;have B3:=jtt B2 hb3
    have XR3:=jbb XR2 HPR hb3
    clear ha3 hb3 hx3 hk3 hs3
    refine jD ?_
    have FT:=jD (jas HA0.out B3.out A3.out XR3.out (jrr _) (.int .i64 k3) (.int .i64 a3) (.string t3) (.int .i64 n3) (.slice o3 l3 c3) _ rfl)
    have GX:=jD ((TR3.out).kept (by simp) FT.out.2.2.2).at
    obtain⟨yXR0,yXR1,yXR2,yXR3,yXR4,fXR0,fXR1,fXR2,fXR3,fXR4⟩:=bF XR3.out
    obtain⟨r0,r1,r2,r3,r4⟩:=FT.out.1
    have GA:=jD FT.out.2.1;have GB:=jD FT.out.2.2.1
    clear FT
    go_wp2
    refine bodyPost_ret (by simp[results,Tryz.results88,go_sem,r0,r1,r2,r3,r4];rfl) rfl ?_
    exact⟨_,_,_,rfl,GX.out,HM.out _ _ HS3.out,GA.out,GB.out⟩
   |false=>
    rw[hI] at CI
    cases hW:rIs (.ok l) jbA with
    |true=>
     have hc:pIs jbA l=true:=hW
     rw[hW] at CW;simp only[if_true] at CW
     have L1:=jD (.inr (by have g:=HH.out.rem_less (jeg hc (by decide));show (pTl l).length<l.length;omega):lessS (.ok l) (.ok (pTl l)))
     have HM:=jD (fun x s1 y s2 hx hy=>jko (d:=d) (x:=x) (y:=y) (s1:=s1) (s2:=s2) HFL.out hc HZ1.out hx hy)
     have KI:=jD CI;have KW:=jD CW
     clear CI CW CA CU CM C1 C2 CN
     clear hc hW
     go_wp2_with (go_at_call 49;refine jR (KI.out _ A1.out) B1 XR1 HPR fun w2 A2 B2 XR2=>?_)
     refine jD ?_
     go_wp2_with (go_at_call 51;refine jR (KW.out _ A2.out) B2 XR2 HPR fun w3 A3 B3 XR3=>?_)
     refine jD ?_
     have AS:=jD (show Rf R L w3 d (.ok (pTl l)) from A3.out)
     go_wp2_with (go_at_call 22;refine cM (jcv HD.out _ AS.out) ?_;rintro e w4 ⟨x4,v4,s4,rfl,hx4,hs4,ha4,hb4⟩)
     obtain⟨k4,a4,t4,n4,o4,l4,c4,q4,rfl,rfl,hk4⟩:=hx4.shape
     have HS4:=jD hs4
     have TR4:=tA hx4 B3.out.size XR3.out.lt
     have A4:=jD ha4;have B4:=jtt B3 hb4
     have XR4:=jbb XR3 HPR hb4
     clear ha4 hb4 hx4 hk4 hs4
     refine jD ?_
     have KQ:=jD (fun W (H:Rf R L W d s4)=>KBB.out s4 (Run.lessS HS4.out L1.out) W H)
     have A4a:=jD (A4.out.alloc (jO k4 a4 t4 n4 o4 l4 c4));have B4a:=jD (B4.out.alloc HRW.out (jO k4 a4 t4 n4 o4 l4 c4))
     have XR4a:=jD (XR4.out.alloc (jO k4 a4 t4 n4 o4 l4 c4))
     have TR44a:=jww TR4 HLT A4.out.fix.lt (jO k4 a4 t4 n4 o4 l4 c4)
     have PXC:=nR A4.out.fix.lt
     have XC4a:=jD (Bx5.new w4 (.int .i64 k4) (.int .i64 a4) (.string t4) (.int .i64 n4) (.slice o4 l4 c4))
     have HXC:Hid ((w4.heap.size)≠w.heap.size):=jD (fun e=>by have:=XR4a.out.lt;have h2:=XR4.out.lt;omega)
     go_wp2_with fail
     have AD:=jD (A4a.out.below (Below.refl _ _).drew);have BD:=jD (B4a.out.drew)
     have XRD:=jD (XR4a.out.below (Below.refl _ _).drew)
     have XCD:=jD (XC4a.out.below (Below.refl _ _).drew)
     have TR4D:=jD (TR44a.out.butt HLT.out (Butt.refl R (w4.alloc (jO k4 a4 t4 n4 o4 l4 c4))).drew)
     refine jaL (fun j=>j==6) (fun w'=>jP w' (w4.heap.size) (.int .i64 k4) (.int .i64 a4) (.string t4) (.int .i64 n4) (.slice o4 l4 c4)) (by kernel_rfl) ⟨XCD.out.c0,XCD.out.c1,XCD.out.c2,XCD.out.c3,XCD.out.c4⟩ (fun hHeld=>?_)
     generalize (w4.alloc (jO k4 a4 t4 n4 o4 l4 c4)).drew=wg1 at *
     refine ja0 (i:=0) (v:=?v1z) rfl (by kernel_rfl) (by kernel_rfl) (by kernel_rfl) rfl (by kernel_rfl) (by kernel_rfl) (fun _ _ _ h=>h) (Or.inl ⟨by rfl,?h1z⟩) (by assumption) ?r1z
     case h1z=>(intro w hSw;(try dsimp only at hSw);go_simp;try with_reducible rfl)
     (try simp only[Act.put,lA,lB,lC])
     refine ja0 (i:=1) (v:=?v2z) rfl (by kernel_rfl) (by kernel_rfl) (by kernel_rfl) rfl (by kernel_rfl) (by kernel_rfl) (fun _ _ _ h=>h) (Or.inl ⟨by rfl,?h2z⟩) (by assumption) ?r2z
     case h2z=>(intro w hSw;(try dsimp only at hSw);go_simp;try with_reducible rfl)
     (try simp only[Act.put,lA,lB,lC])
     refine ja0 (i:=2) (v:=?v3z) rfl (by kernel_rfl) (by kernel_rfl) (by kernel_rfl) rfl (by kernel_rfl) (by kernel_rfl) (fun _ _ _ h=>h) (Or.inl ⟨by rfl,?h3z⟩) (by assumption) ?r3z
     case h3z=>(intro w hSw;(try dsimp only at hSw);go_simp;try with_reducible rfl)
     (try simp only[Act.put,lA,lB,lC])
     refine jax (i:=3) rfl (by kernel_rfl) (fun K hK=>?_)
     go_simp
     go_wp2_with (go_at_call 56;refine(KQ.out _ AD.out).mono ?_;rintro e w5 ⟨x5,v5,s5,rfl,hx5,hs5,ha5,hb5⟩)
     obtain⟨k5,a5,t5,n5,o5,l5,c5,q5,rfl,rfl,hk5⟩:=hx5.shape
     have HS5:=jD hs5
     have TR5:=tA hx5 BD.out.size XRD.out.lt
     have A5:=jD ha5;have B5:=jtt BD hb5
     have XR5:=jbb XRD HPR hb5
     have XC5:=jbb XCD PXC hb5
     have TR45:=jvv TR4D HLT hb5
     clear ha5 hb5 hx5 hk5 hs5
     have hHeld:jP w5 (w4.heap.size) (.int .i64 k4) (.int .i64 a4) (.string t4) (.int .i64 n4) (.slice o4 l4 c4):=⟨XC5.out.c0,XC5.out.c1,XC5.out.c2,XC5.out.c3,XC5.out.c4⟩
     refine hK.out _ _ (fun _=>hHeld) ?_
     clear hK K
     (try simp only[Act.put,lA,lB,lC])
     refine jax (i:=4) rfl (by kernel_rfl) (fun K hK=>?_)
     go_simp
     have hAw:offs w.heap.size [w.heap.size] w5.heap.size:=⟨(Nat.le_trans (jrr _) B5.out.size),fun hp=>absurd (((fun p hp=>by simp only[List.mem_cons,List.not_mem_nil,or_false] at hp;have g0:=XR5.out.lt;omega):∀ p∈[w.heap.size],p<w5.heap.size) _ hp) (Nat.lt_irrefl _)⟩
     have HG:=jD (growP.new (flatIn.cons TR45.out (flatIn.one TR5.out)) (by simp) hAw 2 rfl);clear hAw
     have A5a1:=jD (A5.out.alloc (oD k4 a4 t4 n4 o4 l4 c4 k5 a5 t5 n5 o5 l5 c5));have B5a1:=jD (B5.out.alloc HRW.out (oD k4 a4 t4 n4 o4 l4 c4 k5 a5 t5 n5 o5 l5 c5))
     have XR5a1:=jD (XR5.out.alloc (oD k4 a4 t4 n4 o4 l4 c4 k5 a5 t5 n5 o5 l5 c5))
     have XC5a1:=jD (XC5.out.alloc (oD k4 a4 t4 n4 o4 l4 c4 k5 a5 t5 n5 o5 l5 c5))
     generalize w5.alloc (oD k4 a4 t4 n4 o4 l4 c4 k5 a5 t5 n5 o5 l5 c5)=wg2 at *
     have hHeld:jP wg2 (w4.heap.size) (.int .i64 k4) (.int .i64 a4) (.string t4) (.int .i64 n4) (.slice o4 l4 c4):=⟨XC5a1.out.c0,XC5a1.out.c1,XC5a1.out.c2,XC5a1.out.c3,XC5a1.out.c4⟩
     refine hK.out _ _ (fun _=>hHeld) ?_
     clear hK K
     (try simp only[Act.put,lA,lB,lC])
     refine jax (i:=5) rfl (by kernel_rfl) (fun K hK=>?_)
     go_simp
     go_wp2_with (go_at_call 47;refine(jam _ _ _ _ _ _ _).mono ?_;rintro e w6 ⟨rfl,hbl6⟩)
     have ha6:=A5a1.out.below hbl6;have hb6:=Butt.of_below (R:=R) A5a1.out.fix.lt hbl6;clear hbl6
     have A6:=jD ha6;have B6:=jtt B5a1 hb6
     have XR6:=jbb XR5a1 HPR hb6
     have XC6:=jbb XC5a1 PXC hb6
     have G6:=jD (HG.out.butt HLT.out hb6)
     clear ha6 hb6
     have hHeld:jP w6 (w4.heap.size) (.int .i64 k4) (.int .i64 a4) (.string t4) (.int .i64 n4) (.slice o4 l4 c4):=⟨XC6.out.c0,XC6.out.c1,XC6.out.c2,XC6.out.c3,XC6.out.c4⟩
     refine hK.out _ _ (fun _=>hHeld) ?_
     clear hK K
     (try simp only[Act.put,lA,lB,lC])
     refine jax (i:=6) rfl (by kernel_rfl) (fun K hK=>?_)
     have y0:=XR6.out.c0;have f0:=XR6.out.free 0
     have y1:=XR6.out.c1;have f1:=XR6.out.free 1
     have y2:=XR6.out.c2;have f2:=XR6.out.free 2
     have y3:=XR6.out.c3;have f3:=XR6.out.free 3
     have y4:=XR6.out.c4;have f4:=XR6.out.free 4
     have yl:=XR6.out.lt
     go_simp
     refine hK.out _ _ (fun h=>by cases h) ?_
     clear hK K hHeld y0 y1 y2 y3 y4 f0 f1 f2 f3 f4 yl
     refine jbo (by kernel_rfl) ?_ _
     have FT:=jD (jas HA0.out B6.out A6.out XR6.out (jrr _) (.int .i64 12) (.int .i64 z1) (.string ⟨#[]⟩) (.int .i64 0) (.slice (some ⟨w5.heap.size,0,none⟩) 2 2) _ rfl)
     have Ag1:=jD FT.out.2.1;have Bg1:=jD FT.out.2.2.1;have XRg1:=jD FT.out.1
     have XCg1:=jD (XC6.out.kept HXC.out FT.out.2.2.2)
     have Gg1:=jD (G6.out.kept (by simp) FT.out.2.2.2)
     have GX:=jD ((jac.mpr ⟨_,rfl,Gg1.out.kids⟩:synIn (offs w.heap.size [w.heap.size]) _ (.mk 12 z1 ⟨#[]⟩ 0 [(.mk k4 a4 t4 n4 q4),(.mk k5 a5 t5 n5 q5)]) (.agg #[.int .i64 12,.int .i64 z1,.string ⟨#[]⟩,.int .i64 0,.slice (some ⟨w5.heap.size,0,none⟩) 2 2])).at)
     obtain⟨r0,r1,r2,r3,r4,-,-⟩:=XRg1.out
     go_wp2
     refine bodyPost_ret (by simp[results,Tryz.results88,go_sem,r0,r1,r2,r3,r4];rfl) rfl ?_
     exact⟨_,_,_,rfl,GX.out,HM.out _ _ _ _ HS4.out HS5.out,Ag1.out,Bg1.out⟩
    |false=>
     rw[hW] at CW;simp only[Bool.false_eq_true,if_false] at CW
     cases hA:rIs (.ok l) jbq with
     |true=>
      have hc:pIs jbq l=true:=hA
      rw[hA] at CA;simp only[if_true] at CA
      have HM:=jD (fun x s1 hx=>jjy (d:=d) (x:=x) (s1:=s1) HFL.out hc HZ1.out hx)
      have KI:=jD CI;have KW:=jD CW;have KA:=jD CA
      clear CI CW CA CU CM C1 C2 CN
      clear hc hA
      go_wp2_with (go_at_call 49;refine jR (KI.out _ A1.out) B1 XR1 HPR fun w2 A2 B2 XR2=>?_)
      refine jD ?_
      go_wp2_with (go_at_call 51;refine jR (KW.out _ A2.out) B2 XR2 HPR fun w3 A3 B3 XR3=>?_)
      refine jD ?_
      go_wp2_with (go_at_call 51;refine jR (KA.out _ A3.out) B3 XR3 HPR fun w4 A4 B4 XR4=>?_)
      refine jD ?_
      have AS:=jD (show Rf R L w4 d (.ok (pTl l)) from A4.out)
      go_wp2_with (go_at_call 22;refine cM (jcv HD.out _ AS.out) ?_;rintro e w5 ⟨x5,v5,s5,rfl,hx5,hs5,ha5,hb5⟩)
      obtain⟨k5,a5,t5,n5,o5,l5,c5,q5,rfl,rfl,hk5⟩:=hx5.shape
      have HS5:=jD hs5
      have TR5:=tA hx5 B4.out.size XR4.out.lt
      have A5:=jD ha5;have B5:=jtt B4 hb5
      have XR5:=jbb XR4 HPR hb5
      clear ha5 hb5 hx5 hk5 hs5
      refine jD ?_
      have A5a:=jD (A5.out.alloc (jO k5 a5 t5 n5 o5 l5 c5));have B5a:=jD (B5.out.alloc HRW.out (jO k5 a5 t5 n5 o5 l5 c5))
      have XR5a:=jD (XR5.out.alloc (jO k5 a5 t5 n5 o5 l5 c5))
      have TR55a:=jww TR5 HLT A5.out.fix.lt (jO k5 a5 t5 n5 o5 l5 c5)
      have PXC:=nR A5.out.fix.lt
      have XC5a:=jD (Bx5.new w5 (.int .i64 k5) (.int .i64 a5) (.string t5) (.int .i64 n5) (.slice o5 l5 c5))
      go_wp2_with (go_at_call 52;refine jX (jbu A5a.out [59] (by decide)) B5a XR5a HPR fun w6 A6 B6 XR6 hb6=>?_)
      have XC6:=jbb XC5a PXC hb6
      have TR56:=jvv TR55a HLT hb6
      clear hb6
      refine jD ?_
      obtain⟨yXC0,yXC1,yXC2,yXC3,yXC4,-,-⟩:=XC6.out
      have hAw:offs w.heap.size [w.heap.size] w6.heap.size:=⟨(Nat.le_trans (jrr _) B6.out.size),fun hp=>by simp only[List.mem_cons,List.not_mem_nil,or_false] at hp;have g0:=XR6.out.lt;omega⟩
      have hki:=jaw (flatIn.one (TR56.out)) (by simp) hAw 1 rfl
      have KI:=jD hki
      clear hAw hki
      go_wp2_with (go_at_call 47;refine cM (jam _ _ _ _ _ _ _) ?_;rintro e w7 ⟨rfl,hb7⟩)
      have hbx:=Butt.of_below (R:=R) A6.out.fix.lt (Below.chain (jN (jO k5 a5 t5 n5 o5 l5 c5)) hb7)
      have ha7:Rf R L w7 _ _:=⟨A6.out.fix.butt hbx,A6.out.rs.below (Below.chain (jN (jO k5 a5 t5 n5 o5 l5 c5)) hb7)⟩
      have TN:=jD (jac.mpr ⟨_,rfl,KI.out.below hb7⟩:synIn (offs w.heap.size [w.heap.size]) w7 (.mk 13 z1 ⟨#[]⟩ 0 [(.mk k5 a5 t5 n5 q5)]) _)
      have hb7:=hbx;clear hbx
      have A7:=jD ha7;have B7:=jtt B6 hb7
      have XR7:=jbb XR6 HPR hb7
      have XC7:=jbb XC6 PXC hb7
      clear ha7 hb7
      refine jD ?_
      have FT:=jD (jas HA0.out B7.out A7.out XR7.out (jrr _) (.int .i64 13) (.int .i64 z1) (.string ⟨#[]⟩) (.int .i64 0) (.slice (some ⟨w6.heap.size,0,none⟩) 1 1) _ rfl)
      have GX:=jD ((TN.out).kept (by simp) FT.out.2.2.2).at
      obtain⟨yXR0,yXR1,yXR2,yXR3,yXR4,fXR0,fXR1,fXR2,fXR3,fXR4⟩:=bF XR7.out
      obtain⟨r0,r1,r2,r3,r4⟩:=FT.out.1
      have GA:=jD FT.out.2.1;have GB:=jD FT.out.2.2.1
      clear FT
      go_wp2
      refine bodyPost_ret (by simp[results,Tryz.results88,go_sem,r0,r1,r2,r3,r4];rfl) rfl ?_
      exact⟨_,_,_,rfl,GX.out,HM.out _ _ HS5.out,GA.out,GB.out⟩
     |false=>
      rw[hA] at CA;simp only[Bool.false_eq_true,if_false] at CA
      cases hU:rIs (.ok l) jca with
      |true=>
       have hc:pIs jca l=true:=hU
       rw[hU] at CU;simp only[if_true] at CU
       have HM:=jD (fun x s1 hx=>jjz (d:=d) (x:=x) (s1:=s1) HFL.out hc HZ1.out hx)
       have KI:=jD CI;have KW:=jD CW;have KA:=jD CA;have KU:=jD CU
       clear CI CW CA CU CM C1 C2 CN
       clear hc hU
       go_wp2_with (go_at_call 49;refine jR (KI.out _ A1.out) B1 XR1 HPR fun w2 A2 B2 XR2=>?_)
       refine jD ?_
       go_wp2_with (go_at_call 51;refine jR (KW.out _ A2.out) B2 XR2 HPR fun w3 A3 B3 XR3=>?_)
       refine jD ?_
       go_wp2_with (go_at_call 51;refine jR (KA.out _ A3.out) B3 XR3 HPR fun w4 A4 B4 XR4=>?_)
       refine jD ?_
       go_wp2_with (go_at_call 51;refine jR (KU.out _ A4.out) B4 XR4 HPR fun w5 A5 B5 XR5=>?_)
       refine jD ?_
       have AS:=jD (show Rf R L w5 d (.ok (pTl l)) from A5.out)
       go_wp2_with (go_at_call 22;refine cM (jcv HD.out _ AS.out) ?_;rintro e w6 ⟨x6,v6,s6,rfl,hx6,hs6,ha6,hb6⟩)
       obtain⟨k6,a6,t6,n6,o6,l6,c6,q6,rfl,rfl,hk6⟩:=hx6.shape
       have HS6:=jD hs6
       have TR6:=tA hx6 B5.out.size XR5.out.lt
       have A6:=jD ha6;have B6:=jtt B5 hb6
       have XR6:=jbb XR5 HPR hb6
       clear ha6 hb6 hx6 hk6 hs6
       refine jD ?_
       have A6a:=jD (A6.out.alloc (jO k6 a6 t6 n6 o6 l6 c6));have B6a:=jD (B6.out.alloc HRW.out (jO k6 a6 t6 n6 o6 l6 c6))
       have XR6a:=jD (XR6.out.alloc (jO k6 a6 t6 n6 o6 l6 c6))
       have TR66a:=jww TR6 HLT A6.out.fix.lt (jO k6 a6 t6 n6 o6 l6 c6)
       have PXC:=nR A6.out.fix.lt
       have XC6a:=jD (Bx5.new w6 (.int .i64 k6) (.int .i64 a6) (.string t6) (.int .i64 n6) (.slice o6 l6 c6))
       go_wp2_with (go_at_call 52;refine jX (jbu A6a.out [59] (by decide)) B6a XR6a HPR fun w7 A7 B7 XR7 hb7=>?_)
       have XC7:=jbb XC6a PXC hb7
       have TR67:=jvv TR66a HLT hb7
       clear hb7
       refine jD ?_
       obtain⟨yXC0,yXC1,yXC2,yXC3,yXC4,-,-⟩:=XC7.out
       have hAw:offs w.heap.size [w.heap.size] w7.heap.size:=⟨(Nat.le_trans (jrr _) B7.out.size),fun hp=>by simp only[List.mem_cons,List.not_mem_nil,or_false] at hp;have g0:=XR7.out.lt;omega⟩
       have hki:=jaw (flatIn.one (TR67.out)) (by simp) hAw 1 rfl
       have KI:=jD hki
       clear hAw hki
       go_wp2_with (go_at_call 47;refine cM (jam _ _ _ _ _ _ _) ?_;rintro e w8 ⟨rfl,hb8⟩)
       have hbx:=Butt.of_below (R:=R) A7.out.fix.lt (Below.chain (jN (jO k6 a6 t6 n6 o6 l6 c6)) hb8)
       have ha8:Rf R L w8 _ _:=⟨A7.out.fix.butt hbx,A7.out.rs.below (Below.chain (jN (jO k6 a6 t6 n6 o6 l6 c6)) hb8)⟩
       have TN:=jD (jac.mpr ⟨_,rfl,KI.out.below hb8⟩:synIn (offs w.heap.size [w.heap.size]) w8 (.mk 14 z1 ⟨#[]⟩ 0 [(.mk k6 a6 t6 n6 q6)]) _)
       have hb8:=hbx;clear hbx
       have A8:=jD ha8;have B8:=jtt B7 hb8
       have XR8:=jbb XR7 HPR hb8
       have XC8:=jbb XC7 PXC hb8
       clear ha8 hb8
       refine jD ?_
       have FT:=jD (jas HA0.out B8.out A8.out XR8.out (jrr _) (.int .i64 14) (.int .i64 z1) (.string ⟨#[]⟩) (.int .i64 0) (.slice (some ⟨w7.heap.size,0,none⟩) 1 1) _ rfl)
       have GX:=jD ((TN.out).kept (by simp) FT.out.2.2.2).at
       obtain⟨yXR0,yXR1,yXR2,yXR3,yXR4,fXR0,fXR1,fXR2,fXR3,fXR4⟩:=bF XR8.out
       obtain⟨r0,r1,r2,r3,r4⟩:=FT.out.1
       have GA:=jD FT.out.2.1;have GB:=jD FT.out.2.2.1
       clear FT
       go_wp2
       refine bodyPost_ret (by simp[results,Tryz.results88,go_sem,r0,r1,r2,r3,r4];rfl) rfl ?_
       exact⟨_,_,_,rfl,GX.out,HM.out _ _ HS6.out,GA.out,GB.out⟩
      |false=>
       rw[hU] at CU;simp only[Bool.false_eq_true,if_false] at CU
       cases hN:rNm (.ok l) with
       |false=>
        rw[hN] at CM
        have HGC:Hid (GC (.ok l)):=jD (fun l' e=>by cases e;exact .inl (by unfold begB;rw[show ja5 (pHd l)=false from hN,show pIs wIf l=false from hI,show pIs jbA l=false from hW,show pIs jbq l=false from hA,show pIs jca l=false from hU];rfl))
        have KI:=jD CI;have KW:=jD CW;have KA:=jD CA;have KU:=jD CU;have KM:=jD CM
        clear CI CW CA CU CM C1 C2 CN
        clear hI hW hA hU hN
        go_wp2_with (go_at_call 49;refine jR (KI.out _ A1.out) B1 XR1 HPR fun w2 A2 B2 XR2=>?_)
        refine jD ?_
        go_wp2_with (go_at_call 51;refine jR (KW.out _ A2.out) B2 XR2 HPR fun w3 A3 B3 XR3=>?_)
        refine jD ?_
        go_wp2_with (go_at_call 51;refine jR (KA.out _ A3.out) B3 XR3 HPR fun w4 A4 B4 XR4=>?_)
        refine jD ?_
        go_wp2_with (go_at_call 51;refine jR (KU.out _ A4.out) B4 XR4 HPR fun w5 A5 B5 XR5=>?_)
        refine jD ?_
        go_wp2_with (go_at_call 85;refine jR (KM.out _ A5.out) B5 XR5 HPR fun w6 A6 B6 XR6=>?_)
        refine jD ?_
        go_wp2_with (go_at_call 85;refine jR (KM.out _ A6.out) B6 XR6 HPR fun w7 A7 B7 XR7=>?_)
        refine jD ?_
        go_wp2_with fail
        go_meet
        exact⟨A7.out,B7.out,XR7.out,HGC.out⟩
       |true=>
        rw[hN] at CM
        have hn:ja5 (pHd l)=true:=hN
        by_cases h1:jbU l=[91]
        ·rw[show rNx (.ok l) [91]=true from beq_iff_eq.mpr h1] at C1
         have CN:=fun W H=>(CN W H).mono (fun e w' (g:∃ t,e = .returned (.string t)∧(∀ l',RSt.ok l = .ok l'→rNm (.ok l)=true→t=(pHd l').t)∧Rf R L w' d (jad (rNm (.ok l)) (.ok l))∧Butt R W w')=>(show e = .returned (.string (pHd l).t)∧Rf R L w' d (.ok (pTl l))∧Butt R W w' from by obtain⟨t,rfl,ht,h1,h2⟩:=g;rw[ht l rfl hN];rw[hN] at h1;exact⟨rfl,h1,h2⟩))
         have HM:=jD (fun x s3 y s5 hx hy=>jkp (d:=d) (x:=x) (y:=y) (s3:=s3) (s5:=s5) HFL.out hn h1 HZ1.out hx hy)
         generalize (pHd l).t=pt at *
         have KI:=jD CI;have KW:=jD CW;have KA:=jD CA;have KU:=jD CU;have KM:=jD CM;have K1:=jD C1;have KN:=jD CN
         clear CI CW CA CU CM C1 C2 CN
         clear hI hW hA hU hN hn h1
         go_wp2_with (go_at_call 49;refine jR (KI.out _ A1.out) B1 XR1 HPR fun w2 A2 B2 XR2=>?_)
         refine jD ?_
         go_wp2_with (go_at_call 51;refine jR (KW.out _ A2.out) B2 XR2 HPR fun w3 A3 B3 XR3=>?_)
         refine jD ?_
         go_wp2_with (go_at_call 51;refine jR (KA.out _ A3.out) B3 XR3 HPR fun w4 A4 B4 XR4=>?_)
         refine jD ?_
         go_wp2_with (go_at_call 51;refine jR (KU.out _ A4.out) B4 XR4 HPR fun w5 A5 B5 XR5=>?_)
         refine jD ?_
         go_wp2_with (go_at_call 85;refine jR (KM.out _ A5.out) B5 XR5 HPR fun w6 A6 B6 XR6=>?_)
         refine jD ?_
         go_wp2_with (go_at_call 83;refine jR (K1.out _ A6.out) B6 XR6 HPR fun w7 A7 B7 XR7=>?_)
         refine jD ?_
         go_wp2_with (go_at_call 53;refine jR (KN.out _ A7.out) B7 XR7 HPR fun w8 A8 B8 XR8=>?_)
         refine jD ?_
         go_wp2_with (go_at_call 59;refine jR (jcu A8.out) B8 XR8 HPR fun w9 A9 B9 XR9=>?_)
         refine jD ?_
         have AS:=jD (show Rf R L w9 d (.ok (pTl (pTl l))) from A9.out)
         go_wp2_with (go_at_call 23;refine cM (jc2 HD.out _ AS.out) ?_;rintro e w10 ⟨x10,v10,s10,rfl,hx10,hs10,ha10,hb10⟩)
         obtain⟨k10,a10,t10,n10,o10,l10,c10,q10,rfl,rfl,hk10⟩:=hx10.shape
         have HS10:=jD hs10
         have TR10:=tA hx10 B9.out.size XR9.out.lt
         have A10:=jD ha10;have B10:=jtt B9 hb10
         have XR10:=jbb XR9 HPR hb10
         clear ha10 hb10 hx10 hk10 hs10
         refine jD ?_
         have A10a:=jD (A10.out.alloc (jO k10 a10 t10 n10 o10 l10 c10));have B10a:=jD (B10.out.alloc HRW.out (jO k10 a10 t10 n10 o10 l10 c10))
         have XR10a:=jD (XR10.out.alloc (jO k10 a10 t10 n10 o10 l10 c10))
         have TR1010a:=jww TR10 HLT A10.out.fix.lt (jO k10 a10 t10 n10 o10 l10 c10)
         have PXC:=nR A10.out.fix.lt
         have XC10a:=jD (Bx5.new w10 (.int .i64 k10) (.int .i64 a10) (.string t10) (.int .i64 n10) (.slice o10 l10 c10))
         go_wp2_with (go_at_call 52;refine jX (jbu A10a.out [93] (by decide)) B10a XR10a HPR fun w11 A11 B11 XR11 hb11=>?_)
         have XC11:=jbb XC10a PXC hb11
         have TR1011:=jvv TR1010a HLT hb11
         clear hb11
         refine jD ?_
         go_wp2_with (go_at_call 52;refine jX (jbu A11.out [58,61] (by decide)) B11 XR11 HPR fun w12 A12 B12 XR12 hb12=>?_)
         have XC12:=jbb XC11 PXC hb12
         have TR1012:=jvv TR1011 HLT hb12
         clear hb12
         refine jD ?_
         go_wp2_with (go_at_call 23;refine cM (jc2 HD.out _ A12.out) ?_;rintro e w13 ⟨x13,v13,s13,rfl,hx13,hs13,ha13,hb13⟩)
         obtain⟨k13,a13,t13,n13,o13,l13,c13,q13,rfl,rfl,hk13⟩:=hx13.shape
         have HS13:=jD hs13
         have TR13:=tA hx13 B12.out.size XR12.out.lt
         have A13:=jD ha13;have B13:=jtt B12 hb13
         have XR13:=jbb XR12 HPR hb13
         have XC13:=jbb XC12 PXC hb13
         have TR1013:=jvv TR1012 HLT hb13
         clear ha13 hb13 hx13 hk13 hs13
         refine jD ?_
         have A13a1:=jD (A13.out.alloc (jO k13 a13 t13 n13 o13 l13 c13));have B13a1:=jD (B13.out.alloc HRW.out (jO k13 a13 t13 n13 o13 l13 c13))
         have XR13a1:=jD (XR13.out.alloc (jO k13 a13 t13 n13 o13 l13 c13))
         have XC13a1:=jD (XC13.out.alloc (jO k13 a13 t13 n13 o13 l13 c13))
         have TR1013a1:=jww TR1013 HLT A13.out.fix.lt (jO k13 a13 t13 n13 o13 l13 c13)
         have TR1313a1:=jww TR13 HLT A13.out.fix.lt (jO k13 a13 t13 n13 o13 l13 c13)
         have PXD:=nR A13.out.fix.lt
         have XD13a1:=jD (Bx5.new w13 (.int .i64 k13) (.int .i64 a13) (.string t13) (.int .i64 n13) (.slice o13 l13 c13))
         go_wp2_with (go_at_call 52;refine jX (jbu A13a1.out [59] (by decide)) B13a1 XR13a1 HPR fun w14 A14 B14 XR14 hb14=>?_)
         have XC14:=jbb XC13a1 PXC hb14
         have XD14:=jD (XD13a1.out.butt PXD.out hb14)
         have TR1014:=jvv TR1013a1 HLT hb14
         have TR1314:=jvv TR1313a1 HLT hb14
         clear hb14
         refine jD ?_
         obtain⟨yXC0,yXC1,yXC2,yXC3,yXC4,-,-⟩:=XC14.out
         obtain⟨yXD0,yXD1,yXD2,yXD3,yXD4,-,-⟩:=XD14.out
         have hAw:offs w.heap.size [w.heap.size] w14.heap.size:=⟨(Nat.le_trans (jrr _) B14.out.size),fun hp=>by simp only[List.mem_cons,List.not_mem_nil,or_false] at hp;have g0:=XR14.out.lt;omega⟩
         have hki:=jaw (flatIn.cons (TR1014.out) (flatIn.one (TR1314.out))) (by simp) hAw 2 rfl
         have KI:=jD hki
         clear hAw hki
         go_wp2_with (go_at_call 47;refine cM (jam _ _ _ _ _ _ _) ?_;rintro e w15 ⟨rfl,hb15⟩)
         have hbx:=Butt.of_below (R:=R) A14.out.fix.lt (Below.chain (jN (oD k10 a10 t10 n10 o10 l10 c10 k13 a13 t13 n13 o13 l13 c13)) hb15)
         have ha15:Rf R L w15 _ _:=⟨A14.out.fix.butt hbx,A14.out.rs.below (Below.chain (jN (oD k10 a10 t10 n10 o10 l10 c10 k13 a13 t13 n13 o13 l13 c13)) hb15)⟩
         have TN:=jD (jac.mpr ⟨_,rfl,KI.out.below hb15⟩:synIn (offs w.heap.size [w.heap.size]) w15 (.mk 10 z1 pt 0 [(.mk k10 a10 t10 n10 q10),(.mk k13 a13 t13 n13 q13)]) _)
         have hb15:=hbx;clear hbx
         have A15:=jD ha15;have B15:=jtt B14 hb15
         have XR15:=jbb XR14 HPR hb15
         have XC15:=jbb XC14 PXC hb15
         have XD15:=jD (XD14.out.butt PXD.out hb15)
         clear ha15 hb15
         refine jD ?_
         have FT:=jD (jas HA0.out B15.out A15.out XR15.out (jrr _) (.int .i64 10) (.int .i64 z1) (.string pt) (.int .i64 0) (.slice (some ⟨w14.heap.size,0,none⟩) 2 2) _ rfl)
         have GX:=jD ((TN.out).kept (by simp) FT.out.2.2.2).at
         obtain⟨yXR0,yXR1,yXR2,yXR3,yXR4,fXR0,fXR1,fXR2,fXR3,fXR4⟩:=bF XR15.out
         obtain⟨r0,r1,r2,r3,r4⟩:=FT.out.1
         have GA:=jD FT.out.2.1;have GB:=jD FT.out.2.2.1
         clear FT
         go_wp2
         refine bodyPost_ret (by simp[results,Tryz.results88,go_sem,r0,r1,r2,r3,r4];rfl) rfl ?_
         exact⟨_,_,_,rfl,GX.out,HM.out _ _ _ _ HS10.out HS13.out,GA.out,GB.out⟩
        ·rw[show rNx (.ok l) [91]=false from beq_eq_false_iff_ne.mpr h1] at C1
         by_cases h2:jbU l=[40]
         ·rw[show rNx (.ok l) [40]=true from beq_iff_eq.mpr h2] at C2
          have CN:=fun W H=>(CN W H).mono (fun e w' (g:∃ t,e = .returned (.string t)∧(∀ l',RSt.ok l = .ok l'→rNm (.ok l)=true→t=(pHd l').t)∧Rf R L w' d (jad (rNm (.ok l)) (.ok l))∧Butt R W w')=>(show e = .returned (.string (pHd l).t)∧Rf R L w' d (.ok (pTl l))∧Butt R W w' from by obtain⟨t,rfl,ht,h1,h2⟩:=g;rw[ht l rfl hN];rw[hN] at h1;exact⟨rfl,h1,h2⟩))
          have HM:=jD (fun xs s4 hx=>jl4 (d:=d) (xs:=xs) (s4:=s4) HFL.out hn h2 HZ1.out hx)
          generalize (pHd l).t=pt at *
          have KI:=jD CI;have KW:=jD CW;have KA:=jD CA;have KU:=jD CU;have KM:=jD CM;have K1:=jD C1;have K2:=jD C2;have KN:=jD CN
          clear CI CW CA CU CM C1 C2 CN
          clear hI hW hA hU hN hn h1 h2
          go_wp2_with (go_at_call 49;refine jR (KI.out _ A1.out) B1 XR1 HPR fun w2 A2 B2 XR2=>?_)
          refine jD ?_
          go_wp2_with (go_at_call 51;refine jR (KW.out _ A2.out) B2 XR2 HPR fun w3 A3 B3 XR3=>?_)
          refine jD ?_
          go_wp2_with (go_at_call 51;refine jR (KA.out _ A3.out) B3 XR3 HPR fun w4 A4 B4 XR4=>?_)
          refine jD ?_
          go_wp2_with (go_at_call 51;refine jR (KU.out _ A4.out) B4 XR4 HPR fun w5 A5 B5 XR5=>?_)
          refine jD ?_
          go_wp2_with (go_at_call 85;refine jR (KM.out _ A5.out) B5 XR5 HPR fun w6 A6 B6 XR6=>?_)
          refine jD ?_
          go_wp2_with (go_at_call 83;refine jR (K1.out _ A6.out) B6 XR6 HPR fun w7 A7 B7 XR7=>?_)
          refine jD ?_
          go_wp2_with (go_at_call 85;refine jR (KM.out _ A7.out) B7 XR7 HPR fun w8 A8 B8 XR8=>?_)
          refine jD ?_
          go_wp2_with (go_at_call 83;refine jR (K2.out _ A8.out) B8 XR8 HPR fun w9 A9 B9 XR9=>?_)
          refine jD ?_
          go_wp2_with (go_at_call 53;refine jR (KN.out _ A9.out) B9 XR9 HPR fun w10 A10 B10 XR10=>?_)
          refine jD ?_
          go_wp2_with (go_at_call 59;refine jR (jcu A10.out) B10 XR10 HPR fun w11 A11 B11 XR11=>?_)
          refine jD ?_
          have AS:=jD (show Rf R L w11 d (.ok (pTl (pTl l))) from A11.out)
          go_wp2_with (go_at_call 120;refine cM (jmr AS.out HD.out) ?_;rintro e w12 ⟨x12,v12,s12,rfl,hx12,hs12,ha12,hb12⟩)
          obtain⟨o12,c12,rfl⟩:=hx12.slice
          have RW12:=jD (ownT.kidsIn (l2:=w.heap.size) (ps:=[w.heap.size]) hx12 (Nat.le_trans (jrr _) B11.out.size) (fun p hp=>by simp only[List.mem_cons,List.not_mem_nil,or_false] at hp;have g0:=XR11.out.lt;omega))
          have HS12:=jD hs12
          have A12:=jD ha12;have B12:=jtt B11 hb12
          have XR12:=jbb XR11 HPR hb12
          clear ha12 hb12 hx12 hs12
          refine jD ?_
          go_wp2_with (go_at_call 47;refine cM (jam _ _ _ _ _ _ _) ?_;rintro e w13 ⟨rfl,hbl13⟩)
          have TQ:=jD (jac.mpr ⟨_,rfl,RW12.out.below hbl13⟩:synIn (offs w.heap.size [w.heap.size]) w13 (.mk 17 z1 pt 0 x12) (.agg #[.int .i64 17,.int .i64 z1,.string pt,.int .i64 0,.slice o12 x12.length c12]))
          have ha13:=A12.out.below hbl13;have hb13:=Butt.of_below (R:=R) A12.out.fix.lt hbl13;clear hbl13
          have A13:=jD ha13;have B13:=jtt B12 hb13
          have XR13:=jbb XR12 HPR hb13
          clear ha13 hb13
          refine jD ?_
          have A13a:=jD (A13.out.alloc (Obj.cells #[.int .i64 17,.int .i64 z1,.string pt,.int .i64 0,.slice o12 x12.length c12] 25));have B13a:=jD (B13.out.alloc HRW.out (Obj.cells #[.int .i64 17,.int .i64 z1,.string pt,.int .i64 0,.slice o12 x12.length c12] 25))
          have XR13a:=jD (XR13.out.alloc (Obj.cells #[.int .i64 17,.int .i64 z1,.string pt,.int .i64 0,.slice o12 x12.length c12] 25))
          have TRQ13a:=jD (TQ.out.butt HLT.out (Butt.of_below A13.out.fix.lt (jN (Obj.cells #[.int .i64 17,.int .i64 z1,.string pt,.int .i64 0,.slice o12 x12.length c12] 25))))
          have PXC:=nR A13.out.fix.lt
          have XC13a:=jD (Bx5.new w13 (.int .i64 17) (.int .i64 z1) (.string pt) (.int .i64 0) (.slice o12 x12.length c12))
          go_wp2_with (go_at_call 52;refine jX (jbu A13a.out [59] (by decide)) B13a XR13a HPR fun w14 A14 B14 XR14 hb14=>?_)
          have XC14:=jbb XC13a PXC hb14
          have TRQ14:=jD (TRQ13a.out.butt HLT.out hb14)
          clear hb14
          refine jD ?_
          have HXC:Hid ((w13.heap.size)≠w.heap.size):=jD (fun e=>by have:=XR13.out.lt;omega)
          go_wp2_with fail
          have AD:=jD (A14.out.below (Below.refl _ _).drew);have BD:=jD (B14.out.drew)
          have XRD:=jD (XR14.out.below (Below.refl _ _).drew)
          have XCD:=jD (XC14.out.below (Below.refl _ _).drew)
          have TRQD:=jD (TRQ14.out.butt HLT.out (Butt.refl R w14).drew)
          refine jaL (fun j=>j==6) (fun w'=>jP w' (w13.heap.size) (.int .i64 17) (.int .i64 z1) (.string pt) (.int .i64 0) (.slice o12 x12.length c12)) (by kernel_rfl) ⟨XCD.out.c0,XCD.out.c1,XCD.out.c2,XCD.out.c3,XCD.out.c4⟩ (fun hHeld=>?_)
          generalize w14.drew=wg1 at *
          refine ja0 (i:=0) (v:=?v4z) rfl (by kernel_rfl) (by kernel_rfl) (by kernel_rfl) rfl (by kernel_rfl) (by kernel_rfl) (fun _ _ _ h=>h) (Or.inl ⟨by rfl,?h4z⟩) (by assumption) ?r4z
          case h4z=>(intro w hSw;(try dsimp only at hSw);go_simp;try with_reducible rfl)
          (try simp only[Act.put,lA,lB,lC])
          refine ja0 (i:=1) (v:=?v5z) rfl (by kernel_rfl) (by kernel_rfl) (by kernel_rfl) rfl (by kernel_rfl) (by kernel_rfl) (fun _ _ _ h=>h) (Or.inl ⟨by rfl,?h5z⟩) (by assumption) ?r5z
          case h5z=>(intro w hSw;(try dsimp only at hSw);go_simp;try with_reducible rfl)
          (try simp only[Act.put,lA,lB,lC])
          refine ja0 (i:=3) (v:=?v6z) rfl (by kernel_rfl) (by kernel_rfl) (by kernel_rfl) rfl (by kernel_rfl) (by kernel_rfl) (fun _ _ _ h=>h) (Or.inl ⟨by rfl,?h6z⟩) (by assumption) ?r6z
          case h6z=>(intro w hSw;(try dsimp only at hSw);go_simp;try with_reducible rfl)
          (try simp only[Act.put,lA,lB,lC])
          refine jax (i:=2) rfl (by kernel_rfl) (fun K hK=>?_)
          go_simp
          go_wp2_with (go_at_call 47;refine(jam _ _ _ _ _ _ _).mono ?_;rintro e w15 ⟨rfl,hbl15⟩)
          have ha15:=AD.out.below hbl15;have hb15:=Butt.of_below (R:=R) AD.out.fix.lt hbl15;clear hbl15
          have A15:=jD ha15;have B15:=jtt BD hb15
          have XR15:=jbb XRD HPR hb15
          have XC15:=jbb XCD PXC hb15
          have TRQ15:=jD (TRQD.out.butt HLT.out hb15)
          clear ha15 hb15
          have hHeld:jP w15 (w13.heap.size) (.int .i64 17) (.int .i64 z1) (.string pt) (.int .i64 0) (.slice o12 x12.length c12):=⟨XC15.out.c0,XC15.out.c1,XC15.out.c2,XC15.out.c3,XC15.out.c4⟩
          refine hK.out _ _ (fun _=>hHeld) ?_
          clear hK K
          (try simp only[Act.put,lA,lB,lC])
          have TE:=jD (jac.mpr ⟨_,rfl,Or.inl ⟨rfl,rfl⟩⟩:synIn (offs w.heap.size [w.heap.size]) w15 (.mk 3 z1 ⟨#[]⟩ 0 []) (.agg #[.int .i64 3,.int .i64 z1,.string ⟨#[]⟩,.int .i64 0,.slice none 0 0]))
          refine jax (i:=4) rfl (by kernel_rfl) (fun K hK=>?_)
          go_simp
          have hAw:offs w.heap.size [w.heap.size] w15.heap.size:=⟨(Nat.le_trans (jrr _) B15.out.size),fun hp=>absurd (((fun p hp=>by simp only[List.mem_cons,List.not_mem_nil,or_false] at hp;have g0:=XR15.out.lt;omega):∀ p∈[w.heap.size],p<w15.heap.size) _ hp) (Nat.lt_irrefl _)⟩
          have HG:=jD (growP.new (flatIn.cons TE.out (flatIn.one TRQ15.out)) (by simp) hAw 2 rfl);clear hAw
          have A15a1:=jD (A15.out.alloc (Obj.cells #[.int .i64 3,.int .i64 z1,.string ⟨#[]⟩,.int .i64 0,.slice none 0 0,.int .i64 17,.int .i64 z1,.string pt,.int .i64 0,.slice o12 x12.length c12] 25));have B15a1:=jD (B15.out.alloc HRW.out (Obj.cells #[.int .i64 3,.int .i64 z1,.string ⟨#[]⟩,.int .i64 0,.slice none 0 0,.int .i64 17,.int .i64 z1,.string pt,.int .i64 0,.slice o12 x12.length c12] 25))
          have XR15a1:=jD (XR15.out.alloc (Obj.cells #[.int .i64 3,.int .i64 z1,.string ⟨#[]⟩,.int .i64 0,.slice none 0 0,.int .i64 17,.int .i64 z1,.string pt,.int .i64 0,.slice o12 x12.length c12] 25))
          have XC15a1:=jD (XC15.out.alloc (Obj.cells #[.int .i64 3,.int .i64 z1,.string ⟨#[]⟩,.int .i64 0,.slice none 0 0,.int .i64 17,.int .i64 z1,.string pt,.int .i64 0,.slice o12 x12.length c12] 25))
          generalize w15.alloc (Obj.cells #[.int .i64 3,.int .i64 z1,.string ⟨#[]⟩,.int .i64 0,.slice none 0 0,.int .i64 17,.int .i64 z1,.string pt,.int .i64 0,.slice o12 x12.length c12] 25)=wg2 at *
          have hHeld:jP wg2 (w13.heap.size) (.int .i64 17) (.int .i64 z1) (.string pt) (.int .i64 0) (.slice o12 x12.length c12):=⟨XC15a1.out.c0,XC15a1.out.c1,XC15a1.out.c2,XC15a1.out.c3,XC15a1.out.c4⟩
          refine hK.out _ _ (fun _=>hHeld) ?_
          clear hK K
          (try simp only[Act.put,lA,lB,lC])
          refine jax (i:=5) rfl (by kernel_rfl) (fun K hK=>?_)
          go_simp
          go_wp2_with (go_at_call 47;refine(jam _ _ _ _ _ _ _).mono ?_;rintro e w16 ⟨rfl,hbl16⟩)
          have ha16:=A15a1.out.below hbl16;have hb16:=Butt.of_below (R:=R) A15a1.out.fix.lt hbl16;clear hbl16
          have A16:=jD ha16;have B16:=jtt B15a1 hb16
          have XR16:=jbb XR15a1 HPR hb16
          have XC16:=jbb XC15a1 PXC hb16
          have G16:=jD (HG.out.butt HLT.out hb16)
          clear ha16 hb16
          have hHeld:jP w16 (w13.heap.size) (.int .i64 17) (.int .i64 z1) (.string pt) (.int .i64 0) (.slice o12 x12.length c12):=⟨XC16.out.c0,XC16.out.c1,XC16.out.c2,XC16.out.c3,XC16.out.c4⟩
          refine hK.out _ _ (fun _=>hHeld) ?_
          clear hK K
          (try simp only[Act.put,lA,lB,lC])
          refine jax (i:=6) rfl (by kernel_rfl) (fun K hK=>?_)
          have y0:=XR16.out.c0;have f0:=XR16.out.free 0
          have y1:=XR16.out.c1;have f1:=XR16.out.free 1
          have y2:=XR16.out.c2;have f2:=XR16.out.free 2
          have y3:=XR16.out.c3;have f3:=XR16.out.free 3
          have y4:=XR16.out.c4;have f4:=XR16.out.free 4
          have yl:=XR16.out.lt
          go_simp
          refine hK.out _ _ (fun h=>by cases h) ?_
          clear hK K hHeld y0 y1 y2 y3 y4 f0 f1 f2 f3 f4 yl
          refine jbo (by kernel_rfl) ?_ _
          have FT:=jD (jas HA0.out B16.out A16.out XR16.out (jrr _) (.int .i64 9) (.int .i64 z1) (.string ⟨#[]⟩) (.int .i64 0) (.slice (some ⟨w15.heap.size,0,none⟩) 2 2) _ rfl)
          have Ag1:=jD FT.out.2.1;have Bg1:=jD FT.out.2.2.1;have XRg1:=jD FT.out.1
          have XCg1:=jD (XC16.out.kept HXC.out FT.out.2.2.2)
          have Gg1:=jD (G16.out.kept (by simp) FT.out.2.2.2)
          have GX:=jD ((jac.mpr ⟨_,rfl,Gg1.out.kids⟩:synIn (offs w.heap.size [w.heap.size]) _ (.mk 9 z1 ⟨#[]⟩ 0 [.mk 3 z1 ⟨#[]⟩ 0 [],.mk 17 z1 pt 0 x12]) (.agg #[.int .i64 9,.int .i64 z1,.string ⟨#[]⟩,.int .i64 0,.slice (some ⟨w15.heap.size,0,none⟩) 2 2])).at)
          obtain⟨r0,r1,r2,r3,r4,-,-⟩:=XRg1.out
          go_wp2
          refine bodyPost_ret (by simp[results,Tryz.results88,go_sem,r0,r1,r2,r3,r4];rfl) rfl ?_
          exact⟨_,_,_,rfl,GX.out,HM.out _ _ HS12.out,Ag1.out,Bg1.out⟩
         ·rw[show rNx (.ok l) [40]=false from beq_eq_false_iff_ne.mpr h2] at C2
          have HGC:Hid (GC (.ok l)):=jD (fun l' e=>by cases e;exact .inr ⟨hn,h1,h2⟩)
          have KI:=jD CI;have KW:=jD CW;have KA:=jD CA;have KU:=jD CU;have KM:=jD CM;have K1:=jD C1;have K2:=jD C2
          clear CI CW CA CU CM C1 C2 CN
          clear hI hW hA hU hN hn h1 h2
          go_wp2_with (go_at_call 49;refine jR (KI.out _ A1.out) B1 XR1 HPR fun w2 A2 B2 XR2=>?_)
          refine jD ?_
          go_wp2_with (go_at_call 51;refine jR (KW.out _ A2.out) B2 XR2 HPR fun w3 A3 B3 XR3=>?_)
          refine jD ?_
          go_wp2_with (go_at_call 51;refine jR (KA.out _ A3.out) B3 XR3 HPR fun w4 A4 B4 XR4=>?_)
          refine jD ?_
          go_wp2_with (go_at_call 51;refine jR (KU.out _ A4.out) B4 XR4 HPR fun w5 A5 B5 XR5=>?_)
          refine jD ?_
          go_wp2_with (go_at_call 85;refine jR (KM.out _ A5.out) B5 XR5 HPR fun w6 A6 B6 XR6=>?_)
          refine jD ?_
          go_wp2_with (go_at_call 83;refine jR (K1.out _ A6.out) B6 XR6 HPR fun w7 A7 B7 XR7=>?_)
          refine jD ?_
          go_wp2_with (go_at_call 85;refine jR (KM.out _ A7.out) B7 XR7 HPR fun w8 A8 B8 XR8=>?_)
          refine jD ?_
          go_wp2_with (go_at_call 83;refine jR (K2.out _ A8.out) B8 XR8 HPR fun w9 A9 B9 XR9=>?_)
          refine jD ?_
          go_wp2_with fail
          go_meet
          exact⟨A9.out,B9.out,XR9.out,HGC.out⟩
 case rest=>
  obtain⟨hac,hbc,hxr,hgc⟩:=hcut
  have AC:=jD hac;have BC:=jD hbc;have XRC:=jD hxr;have HGC:=jD hgc;clear hac hbc hxr hgc
  go_wp2_with (go_at_call 47;refine cM (jam _ _ _ _ _ _ _) ?_;rintro e w31 ⟨rfl,hbl31⟩)
  have ha31:=AC.out.below hbl31;have hb31:=Butt.of_below (R:=R) AC.out.fix.lt hbl31;clear hbl31
  have A31:=jD ha31;have B31:=jtt BC hb31
  have XR31:=jbb XRC HPR hb31
  clear ha31 hb31
  refine jD ?_
  have A31a:=jD (A31.out.alloc (Obj.cells #[.int .i64 3,.int .i64 z1,.string ⟨#[]⟩,.int .i64 0,.slice none 0 0] 25));have B31a:=jD (B31.out.alloc HRW.out (Obj.cells #[.int .i64 3,.int .i64 z1,.string ⟨#[]⟩,.int .i64 0,.slice none 0 0] 25))
  have XR31a:=jD (XR31.out.alloc (Obj.cells #[.int .i64 3,.int .i64 z1,.string ⟨#[]⟩,.int .i64 0,.slice none 0 0] 25))
  have LX:Hid (w.heap.size<w31.heap.size):=jD XR31.out.lt
  have PXX:=nR A31.out.fix.lt
  have XX31a:=jD (Bx5.new w31 (.int .i64 3) (.int .i64 z1) (.string ⟨#[]⟩) (.int .i64 0) (.slice none 0 0))
  have R0:Hid (PlcRf R L w d w31.heap.size z1 (w31.alloc (Obj.cells #[.int .i64 3,.int .i64 z1,.string ⟨#[]⟩,.int .i64 0,.slice none 0 0] 25)) st [] (.slice none 0 0)):=jD ⟨A31a.out,B31a.out,XR31a.out,XX31a.out,growP.nil⟩
  clear AC BC XRC
  go_wp2_with fail
  go_loopw [13] (fun m wr=>∃ mb s xs ao c,m = .bool mb∧PlcRf R L w d w31.heap.size z1 wr s xs (.slice ao xs.length c)∧LstM st .place d mb s xs) (fun m wr=>meaR R L m wr)
  case atStart=>exact⟨true,st,[],none,0,rfl,R0.out,LstM.start⟩
  case round=>
   obtain⟨mb,s,xs,ao,c,rfl,hr,hm⟩:=hrel
   have HR:=jD hr;have HL:=jD hm;clear hr hm R0
   cases mb with
   |false=>
    have HLE:=jD (HL.out.over (.inl rfl))
    have A0:=jD HR.out.hat;have B0:=jD HR.out.hb;have XR0:=jD HR.out.xr;have XX0:=jD HR.out.xx;have G0:=jD HR.out.row
    go_wp2_with (go_at_call 52;refine jX (jbu A0.out [58,61] (by decide)) B0 XR0 HPR fun w41 A41 B41 XR41 hb41=>?_)
    have XX41:=jbb XX0 PXX hb41
    have G41:=jD (G0.out.butt HLT.out hb41)
    clear hb41
    refine jD ?_
    go_wp2_with (go_at_call 122;refine cM (jk5 A41.out HD.out) ?_;rintro e w42 ⟨x42,v42,s42,rfl,hx42,hs42,ha42,hb42⟩)
    obtain⟨k42,a42,t42,n42,o42,l42,c42,q42,rfl,rfl,hk42⟩:=hx42.shape
    have HS42:=jD hs42
    have TR42:=jD (synIn.of (l2:=w.heap.size) (ps:=[w.heap.size,w31.heap.size]) hx42 (Nat.le_trans (jrr _) B41.out.size) (fun p hp=>by simp only[List.mem_cons,List.not_mem_nil,or_false] at hp;have g0:=XR41.out.lt;have g1:=XX41.out.lt;omega))
    have A42:=jD ha42;have B42:=jtt B41 hb42
    have XR42:=jbb XR41 HPR hb42
    have XX42:=jbb XX41 PXX hb42
    have G42:=jD (G41.out.butt HLT.out hb42)
    clear ha42 hb42 hx42 hk42 hs42
    refine jD ?_
    have A42a1:=jD (A42.out.alloc (jO k42 a42 t42 n42 o42 l42 c42));have B42a1:=jD (B42.out.alloc HRW.out (jO k42 a42 t42 n42 o42 l42 c42))
    have XR42a1:=jD (XR42.out.alloc (jO k42 a42 t42 n42 o42 l42 c42))
    have XX42a1:=jD (XX42.out.alloc (jO k42 a42 t42 n42 o42 l42 c42))
    have G42a1:=jD (G42.out.butt HLT.out (Butt.of_below A42.out.fix.lt (jN (jO k42 a42 t42 n42 o42 l42 c42))))
    have TR4242a1:=jww TR42 HLT A42.out.fix.lt (jO k42 a42 t42 n42 o42 l42 c42)
    have PXD:=nR A42.out.fix.lt
    have XD42a1:=jD (Bx5.new w42 (.int .i64 k42) (.int .i64 a42) (.string t42) (.int .i64 n42) (.slice o42 l42 c42))
    go_wp2_with (go_at_call 52;refine jX (jbu A42a1.out [59] (by decide)) B42a1 XR42a1 HPR fun w43 A43 B43 XR43 hb43=>?_)
    have XX43:=jbb XX42a1 PXX hb43
    have XD43:=jD (XD42a1.out.butt PXD.out hb43)
    have G43:=jD (G42a1.out.butt HLT.out hb43)
    have TR4243:=jvv TR4242a1 HLT hb43
    clear hb43
    refine jD ?_
    obtain⟨yXX0,yXX1,yXX2,yXX3,yXX4,-,-⟩:=XX43.out
    obtain⟨yXD0,yXD1,yXD2,yXD3,yXD4,-,-⟩:=XD43.out
    have hAw:offs w.heap.size [w.heap.size,w31.heap.size] w43.heap.size:=⟨(Nat.le_trans (jrr _) B43.out.size),fun hp=>by simp only[List.mem_cons,List.not_mem_nil,or_false] at hp;have g0:=XR43.out.lt;have g1:=XX43.out.lt;omega⟩
    have hki:=jaw (flatIn.cons ((jac.mpr ⟨_,rfl,G43.out.kids⟩:synIn (offs w.heap.size [w.heap.size,w31.heap.size]) w43 (.mk 3 z1 ⟨#[]⟩ 0 xs) (.agg #[.int .i64 3,.int .i64 z1,.string ⟨#[]⟩,.int .i64 0,.slice ao xs.length c]))) (flatIn.one (TR4243.out))) (by simp) hAw 2 rfl
    have KI:=jD hki
    clear hAw hki
    go_wp2_with (go_at_call 47;refine cM (jam _ _ _ _ _ _ _) ?_;rintro e w44 ⟨rfl,hb44⟩)
    have hbx:=Butt.of_below (R:=R) A43.out.fix.lt (Below.chain (jN (Obj.cells #[.int .i64 3,.int .i64 z1,.string ⟨#[]⟩,.int .i64 0,.slice ao xs.length c,.int .i64 k42,.int .i64 a42,.string t42,.int .i64 n42,.slice o42 l42 c42] 25)) hb44)
    have ha44:Rf R L w44 _ _:=⟨A43.out.fix.butt hbx,A43.out.rs.below (Below.chain (jN (Obj.cells #[.int .i64 3,.int .i64 z1,.string ⟨#[]⟩,.int .i64 0,.slice ao xs.length c,.int .i64 k42,.int .i64 a42,.string t42,.int .i64 n42,.slice o42 l42 c42] 25)) hb44)⟩
    have TN:=jD (jac.mpr ⟨_,rfl,KI.out.below hb44⟩:synIn (offs w.heap.size [w.heap.size,w31.heap.size]) w44 (.mk 9 z1 ⟨#[]⟩ 0 [(.mk 3 z1 ⟨#[]⟩ 0 xs),(.mk k42 a42 t42 n42 q42)]) _)
    have hb44:=hbx;clear hbx
    have A44:=jD ha44;have B44:=jtt B43 hb44
    have XR44:=jbb XR43 HPR hb44
    have XX44:=jbb XX43 PXX hb44
    have XD44:=jD (XD43.out.butt PXD.out hb44)
    clear ha44 hb44
    refine jD ?_
    have FT:=jD (jas HA0.out B44.out A44.out XR44.out (jrr _) (.int .i64 9) (.int .i64 z1) (.string ⟨#[]⟩) (.int .i64 0) (.slice (some ⟨w43.heap.size,0,none⟩) 2 2) _ rfl)
    have GX:=jD ((TN.out).kept (by simp) FT.out.2.2.2).at
    obtain⟨yXR0,yXR1,yXR2,yXR3,yXR4,fXR0,fXR1,fXR2,fXR3,fXR4⟩:=bF XR44.out
    obtain⟨r0,r1,r2,r3,r4⟩:=FT.out.1
    have GA:=jD FT.out.2.1;have GB:=jD FT.out.2.2.1
    clear FT
    go_wp2
    refine bodyPost_ret (by simp[results,Tryz.results88,go_sem,r0,r1,r2,r3,r4];rfl) rfl ?_
    exact⟨_,_,_,rfl,GX.out,jg9 HTL.out HFI.out HGC.out HZ1.out HLE.out HS42.out,GA.out,GB.out⟩
   |true=>
    cases s with
    |bad ea ee=>
     obtain⟨ze,y3,t3,t4⟩:=HR.out.hat.err1
     have HLE:=jD (HL.out.over (.inr rfl))
     have A0:=jD HR.out.hat;have B0:=jD HR.out.hb;have XR0:=jD HR.out.xr;have XX0:=jD HR.out.xx;have G0:=jD HR.out.row
     go_wp2_with (go_at_call 52;refine jX (jbu A0.out [58,61] (by decide)) B0 XR0 HPR fun w41 A41 B41 XR41 hb41=>?_)
     have XX41:=jbb XX0 PXX hb41
     have G41:=jD (G0.out.butt HLT.out hb41)
     clear hb41
     refine jD ?_
     go_wp2_with (go_at_call 122;refine cM (jk5 A41.out HD.out) ?_;rintro e w42 ⟨x42,v42,s42,rfl,hx42,hs42,ha42,hb42⟩)
     obtain⟨k42,a42,t42,n42,o42,l42,c42,q42,rfl,rfl,hk42⟩:=hx42.shape
     have HS42:=jD hs42
     have TR42:=jD (synIn.of (l2:=w.heap.size) (ps:=[w.heap.size,w31.heap.size]) hx42 (Nat.le_trans (jrr _) B41.out.size) (fun p hp=>by simp only[List.mem_cons,List.not_mem_nil,or_false] at hp;have g0:=XR41.out.lt;have g1:=XX41.out.lt;omega))
     have A42:=jD ha42;have B42:=jtt B41 hb42
     have XR42:=jbb XR41 HPR hb42
     have XX42:=jbb XX41 PXX hb42
     have G42:=jD (G41.out.butt HLT.out hb42)
     clear ha42 hb42 hx42 hk42 hs42
     refine jD ?_
     have A42a1:=jD (A42.out.alloc (jO k42 a42 t42 n42 o42 l42 c42));have B42a1:=jD (B42.out.alloc HRW.out (jO k42 a42 t42 n42 o42 l42 c42))
     have XR42a1:=jD (XR42.out.alloc (jO k42 a42 t42 n42 o42 l42 c42))
     have XX42a1:=jD (XX42.out.alloc (jO k42 a42 t42 n42 o42 l42 c42))
     have G42a1:=jD (G42.out.butt HLT.out (Butt.of_below A42.out.fix.lt (jN (jO k42 a42 t42 n42 o42 l42 c42))))
     have TR4242a1:=jww TR42 HLT A42.out.fix.lt (jO k42 a42 t42 n42 o42 l42 c42)
     have PXD:=nR A42.out.fix.lt
     have XD42a1:=jD (Bx5.new w42 (.int .i64 k42) (.int .i64 a42) (.string t42) (.int .i64 n42) (.slice o42 l42 c42))
     go_wp2_with (go_at_call 52;refine jX (jbu A42a1.out [59] (by decide)) B42a1 XR42a1 HPR fun w43 A43 B43 XR43 hb43=>?_)
     have XX43:=jbb XX42a1 PXX hb43
     have XD43:=jD (XD42a1.out.butt PXD.out hb43)
     have G43:=jD (G42a1.out.butt HLT.out hb43)
     have TR4243:=jvv TR4242a1 HLT hb43
     clear hb43
     refine jD ?_
     obtain⟨yXX0,yXX1,yXX2,yXX3,yXX4,-,-⟩:=XX43.out
     obtain⟨yXD0,yXD1,yXD2,yXD3,yXD4,-,-⟩:=XD43.out
     have hAw:offs w.heap.size [w.heap.size,w31.heap.size] w43.heap.size:=⟨(Nat.le_trans (jrr _) B43.out.size),fun hp=>by simp only[List.mem_cons,List.not_mem_nil,or_false] at hp;have g0:=XR43.out.lt;have g1:=XX43.out.lt;omega⟩
     have hki:=jaw (flatIn.cons ((jac.mpr ⟨_,rfl,G43.out.kids⟩:synIn (offs w.heap.size [w.heap.size,w31.heap.size]) w43 (.mk 3 z1 ⟨#[]⟩ 0 xs) (.agg #[.int .i64 3,.int .i64 z1,.string ⟨#[]⟩,.int .i64 0,.slice ao xs.length c]))) (flatIn.one (TR4243.out))) (by simp) hAw 2 rfl
     have KI:=jD hki
     clear hAw hki
     go_wp2_with (go_at_call 47;refine cM (jam _ _ _ _ _ _ _) ?_;rintro e w44 ⟨rfl,hb44⟩)
     have hbx:=Butt.of_below (R:=R) A43.out.fix.lt (Below.chain (jN (Obj.cells #[.int .i64 3,.int .i64 z1,.string ⟨#[]⟩,.int .i64 0,.slice ao xs.length c,.int .i64 k42,.int .i64 a42,.string t42,.int .i64 n42,.slice o42 l42 c42] 25)) hb44)
     have ha44:Rf R L w44 _ _:=⟨A43.out.fix.butt hbx,A43.out.rs.below (Below.chain (jN (Obj.cells #[.int .i64 3,.int .i64 z1,.string ⟨#[]⟩,.int .i64 0,.slice ao xs.length c,.int .i64 k42,.int .i64 a42,.string t42,.int .i64 n42,.slice o42 l42 c42] 25)) hb44)⟩
     have TN:=jD (jac.mpr ⟨_,rfl,KI.out.below hb44⟩:synIn (offs w.heap.size [w.heap.size,w31.heap.size]) w44 (.mk 9 z1 ⟨#[]⟩ 0 [(.mk 3 z1 ⟨#[]⟩ 0 xs),(.mk k42 a42 t42 n42 q42)]) _)
     have hb44:=hbx;clear hbx
     have A44:=jD ha44;have B44:=jtt B43 hb44
     have XR44:=jbb XR43 HPR hb44
     have XX44:=jbb XX43 PXX hb44
     have XD44:=jD (XD43.out.butt PXD.out hb44)
     clear ha44 hb44
     refine jD ?_
     have FT:=jD (jas HA0.out B44.out A44.out XR44.out (jrr _) (.int .i64 9) (.int .i64 z1) (.string ⟨#[]⟩) (.int .i64 0) (.slice (some ⟨w43.heap.size,0,none⟩) 2 2) _ rfl)
     have GX:=jD ((TN.out).kept (by simp) FT.out.2.2.2).at
     obtain⟨yXR0,yXR1,yXR2,yXR3,yXR4,fXR0,fXR1,fXR2,fXR3,fXR4⟩:=bF XR44.out
     obtain⟨r0,r1,r2,r3,r4⟩:=FT.out.1
     have GA:=jD FT.out.2.1;have GB:=jD FT.out.2.2.1
     clear FT
     go_wp2
     refine bodyPost_ret (by simp[results,Tryz.results88,go_sem,r0,r1,r2,r3,r4];rfl) rfl ?_
     exact⟨_,_,_,rfl,GX.out,jg9 HTL.out HFI.out HGC.out HZ1.out HLE.out HS42.out,GA.out,GB.out⟩
    |ok l=>
     have y3:=HR.out.hat.err0;have HFL:Hid (l≠[]):=jD HR.out.hat.fine
     have HLN:Hid (xs.length≤1200000):=jD (by have:=HL.out.len;have:=HRM.out;omega)
     have A0:=jD HR.out.hat;have B0:=jD HR.out.hb;have XR0:=jD HR.out.xr;have XX0:=jD HR.out.xx;have G0:=jD HR.out.row
     go_wp2_with fail
     have AD:=jD (A0.out.below (Below.refl _ _).drew);have BD:=jD (B0.out.drew)
     have XRD:=jD (XR0.out.below (Below.refl _ _).drew)
     have XXD:=jD (XX0.out.below (Below.refl _ _).drew)
     have GD:=jD (G0.out.butt HLT.out (Butt.refl R wr).drew)
     have HPS:=jD ((by first|exact(fun p hp=>by simp only[List.mem_cons,List.not_mem_nil,or_false] at hp;have g0:=XRD.out.lt;have g1:=XXD.out.lt;omega)|simp):∀ p∈[w.heap.size,w31.heap.size],p<(wr.drew).heap.size)
     have HLO:Hid (w.heap.size≤(wr.drew).heap.size):=jD BD.out.size
     refine jaL (fun j=>j==7) (fun w'=>World.cell? w' ⟨w31.heap.size,4,none⟩=some (.slice ao xs.length c)) (by kernel_rfl) XXD.out.c4 (fun hHeld=>?_)
     generalize wr.drew=wg1 at *
     refine ja0 (i:=0) (v:=?v7z) rfl (by kernel_rfl) (by kernel_rfl) (by kernel_rfl) rfl (by kernel_rfl) (by kernel_rfl) (fun _ _ _ h=>h) (Or.inl ⟨by rfl,?h7z⟩) (by assumption) ?r7z
     case h7z=>(intro w hSw;(try dsimp only at hSw);go_simp;try with_reducible rfl)
     (try simp only[Act.put,lA,lB,lC])
     refine ja0 (i:=1) (v:=?v8z) rfl (by kernel_rfl) (by kernel_rfl) (by kernel_rfl) rfl (by kernel_rfl) (by kernel_rfl) (fun _ _ _ h=>h) (Or.inl ⟨by rfl,?h8z⟩) (by assumption) ?r8z
     case h8z=>(intro w hSw;(try dsimp only at hSw);go_simp;try with_reducible rfl)
     (try simp only[Act.put,lA,lB,lC])
     refine ja0 (i:=2) (v:=?v9z) rfl (by kernel_rfl) (by kernel_rfl) (by kernel_rfl) rfl (by kernel_rfl) (by kernel_rfl) (fun _ _ _ h=>h) (Or.inl ⟨by rfl,?h9z⟩) (by assumption) ?r9z
     case h9z=>(intro w hSw;(try dsimp only at hSw);go_simp;try with_reducible rfl)
     (try simp only[Act.put,lA,lB,lC])
     refine jax (i:=3) rfl (by kernel_rfl) (fun K hK=>?_)
     go_simp
     go_wp2_with (go_at_call 121;refine(jjh AD.out).mono ?_;rintro e w41 ⟨x41,v41,s41,rfl,hx41,hs41,ha41,hb41⟩)
     obtain⟨k41,a41,t41,n41,o41,l41,c41,q41,rfl,rfl,hk41⟩:=hx41.shape
     have HS41:=jD hs41;have HSZ:=jD hb41.size
     have HZ:=jD (GD.out.off (jrr _) HLO.out HPS.out hx41)
     have A41:=jD ha41;have B41:=jtt BD hb41
     have XR41:=jbb XRD HPR hb41
     have XX41:=jbb XXD PXX hb41
     have G41:=jD (GD.out.butt HLT.out hb41)
     clear ha41 hb41 hx41 hk41 hs41
     have hHeld:=XX41.out.c4
     refine hK.out _ _ (fun _=>hHeld) ?_
     clear hK K
     (try simp only[Act.put,lA,lB,lC])
     refine jax (i:=4) rfl (by kernel_rfl) (fun K hK=>?_)
     go_simp
     have HZA:=jD (HZ.out.below (jN (jO k41 a41 t41 n41 o41 l41 c41)));have HBX:=jD (Bx5.new w41 (.int .i64 k41) (.int .i64 a41) (.string t41) (.int .i64 n41) (.slice o41 l41 c41))
     have HPA:=jD (fun p (hp:p∈[w.heap.size,w31.heap.size])=>Nat.lt_of_lt_of_le (HPS.out p hp) (Nat.le_trans HSZ.out (by simp:w41.heap.size≤(w41.alloc (jO k41 a41 t41 n41 o41 l41 c41)).heap.size)))
     have A41a1:=jD (A41.out.alloc (jO k41 a41 t41 n41 o41 l41 c41));have B41a1:=jD (B41.out.alloc HRW.out (jO k41 a41 t41 n41 o41 l41 c41))
     have XR41a1:=jD (XR41.out.alloc (jO k41 a41 t41 n41 o41 l41 c41))
     have XX41a1:=jD (XX41.out.alloc (jO k41 a41 t41 n41 o41 l41 c41))
     have G41a1:=jD (G41.out.butt HLT.out (Butt.of_below A41.out.fix.lt (jN (jO k41 a41 t41 n41 o41 l41 c41))))
     have hHeld:=XX41a1.out.c4
     refine hK.out _ _ (fun _=>hHeld) ?_
     clear hK K
     (try simp only[Act.put,lA,lB,lC])
     refine jax (i:=5) rfl (by kernel_rfl) (fun K hK=>?_)
     refine jbT (lo:=w.heap.size) (ps:=[w.heap.size,w31.heap.size]) (xs:=xs) (v:=.slice ao xs.length c) rfl (.tmp 119) (.tmp 122) rfl (by simp[Act.eval,Act.put]) G41a1.out HLN.out B41a1.out.size HPA.out w41.heap.size (.mk k41 a41 t41 n41 q41) (.int .i64 k41) (.int .i64 a41) (.string t41) (.int .i64 n41) (.slice o41 l41 c41) (by simp[Act.eval,Act.put]) HZA.out ⟨rfl,rfl,rfl,rfl,rfl⟩ HBX.out ?_
     intro v9 ao9 cap9 w9 hv9 ho9 hg9
     replace hv9:v9 = .slice ao9 (xs.length+1) cap9:=hv9
     subst hv9
     have hgr:=Rf.grow HA0.out A41a1.out B41a1.out (G41a1.out.below B41a1.out.size hg9)
     have A9:=jD hgr.1;have B9:=jD hgr.2;clear hgr
     have XR9:=jD (G41a1.out.box (by simp) hg9 XR41a1.out)
     have XX9:=jD (G41a1.out.box (by simp) hg9 XX41a1.out)
     have G9:=jD ho9;clear ho9 hg9 HZ HZA HBX HPA
     have hHeld:=XX9.out.c4
     refine hK.out _ _ (fun _=>hHeld) ?_
     clear hK K
     (try simp only[Act.put,lA,lB,lC])
     refine jbK (i:=6) (v:=?v10z) rfl (by kernel_rfl) (by kernel_rfl) (by kernel_rfl) rfl (fun _ _ _ h=>h) (Or.inl ⟨by rfl,?h10z⟩) (by assumption) ?r10z
     case h10z=>(intro w _;go_simp;try with_reducible rfl)
     (try simp only[Act.put,lA,lB,lC])
     refine jax (i:=7) rfl (by kernel_rfl) (fun K hK=>?_)
     have q0:=XX9.out.c4;have q1:=XX9.out.free 4;have q2:=XX9.out.lt
     go_simp
     refine hK.out _ _ (fun h=>by cases h) ?_
     clear hK K q0 q1 q2 hHeld
     refine jbo (by kernel_rfl) ?_ _
     have SN:=Rf.setNew HA0.out B9.out A9.out (w31.heap.size) 4 (Nat.le_of_lt LX.out) (.slice ao9 (xs.length+1) cap9)
     have Af1:=jD SN.1;have Bf1:=jD SN.2;clear SN
     have XRf1:=jD (XR9.out.setO (q:=w31.heap.size) (j:=4) (Nat.ne_of_lt LX.out) (.slice ao9 (xs.length+1) cap9))
     have Gf1:=jD (G9.out.kept (by simp) ((Kept.refl (·≠w31.heap.size) w9).setCell ⟨w31.heap.size,4,none⟩ (fun h=>h rfl) (.slice ao9 (xs.length+1) cap9)))
     have XXf1:=jD (XX9.out.set4 (.slice ao9 (xs.length+1) cap9))
     generalize w9.setCell ⟨w31.heap.size,4,none⟩ (.slice ao9 (xs.length+1) cap9)=wg2 at *
     have HA2:=Af1
     have CT:=fun W (H:Rf R L W d s41)=>jbD H [44] (by decide)
     cases hb:rIs s41 [44] with
     |true=>
      rw[hb] at CT;simp only[if_true] at CT
      have HNX:=jD (HL.out.more HTL.out HS41.out HA2.out hb)
      have KT:=jD CT;clear CT hb
      go_wp2_with (go_at_call 51;refine jX (KT.out _ Af1.out) Bf1 XRf1 HPR fun w42 A42 B42 XR42 hb42=>?_)
      have XX42:=jbb XXf1 PXX hb42
      have G42:=jD (Gf1.out.butt HLT.out hb42)
      clear hb42
      refine jD ?_
      go_wp2
      go_roundw
      case rel=>exact⟨true,_,xs++[(.mk k41 a41 t41 n41 q41)],ao9,cap9,rfl,⟨A42.out,B42.out,XR42.out,by rw[List.length_append];exact XX42.out,by rw[List.length_append];exact G42.out⟩,HNX.out.1⟩
      case measure=>
       have g1:=jbw HR.out.hat
       have g2:=jb2 A42.out
       have g3:=HNX.out.2
       show remR R L _+1<remR R L wr+1
       omega
     |false=>
      rw[hb] at CT;simp only[Bool.false_eq_true,if_false] at CT
      have HNX:=jD (HL.out.last HTL.out HFL.out HS41.out hb)
      have KT:=jD CT;clear CT hb
      go_wp2_with (go_at_call 51;refine jX (KT.out _ Af1.out) Bf1 XRf1 HPR fun w42 A42 B42 XR42 hb42=>?_)
      have XX42:=jbb XXf1 PXX hb42
      have G42:=jD (Gf1.out.butt HLT.out hb42)
      clear hb42
      refine jD ?_
      go_wp2
      go_roundw
      case rel=>exact⟨false,_,xs++[(.mk k41 a41 t41 n41 q41)],ao9,cap9,rfl,⟨A42.out,B42.out,XR42.out,by rw[List.length_append];exact XX42.out,by rw[List.length_append];exact G42.out⟩,HNX.out⟩
      case measure=>show 0<remR R L wr+1;omega
end Go.Proofs.YtenmmmdnpglkoaaGreatDoor
