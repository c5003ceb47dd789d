import Derived.Test.YtenmmmdnpglkoaaGreatDoorCut27
import Derived.OrdersHeld
import Derived.OrdersIn
import Derived.Deep.RegionHeld
import Derived.CallsIn
import Derived.RangeFuncCalls
set_option linter.unusedSimpArgs false
set_option linter.unusedVariables false
set_option maxRecDepth 100000
set_option maxHeartbeats 8000000
/-
 The reference's reader: arrays.
-/
namespace Go.Proofs.YtenmmmdnpglkoaaGreatDoor
open Go Go.Proofs Go.RowKit Go.Sort
section
variable {l l3:List Tk} {d:Nat} {s2 s3 s4:RSt} {z2:ByteArray} {n:Int}
theorem jjk (hf:l≠[]) (h2:s2=jad (rNm (.ok (pTl l))) (.ok (pTl l))) (ht:hasT (.ok (pTl l)) z2) (h3:s3=jad (rIs s2 [91]) s2) (hn:Run mNum s3 n s4) :
  Run jaD (.ok l) (.mk 8 (pHd l).a z2 n []) (jad (rIs (jad (rIs s4 [93]) s4) [59]) (jad (rIs s4 [93]) s4)):=by
 have f1:RSt.fine (.ok (pTl l)):=jaJ hf
 have f2:s2.fine:=by rw[h2];exact jah f1
 have f3:s3.fine:=by rw[h3];exact jah f2
 have f4:=Run.fine hn f3
 have f5:(jad (rIs s4 [93]) s4).fine:=jah f4
 have r1:=jdK f1
 rw[←h2] at r1
 have r2:=jbi f2 [91]
 rw[←h3] at r2
 refine Run.swap (Run.bind (jaS (L:=[]) hf) (Run.bind r1 (Run.bind r2 (Run.bind hn (Run.bind (jbi f4 [93]) (Run.bind (jbi f5 [59]) (ja1 (jah f5)))))))) fun l' e=>?_
 obtain⟨l5,e5,-⟩:=jbs ⟨l',e⟩
 obtain⟨l4,e4,-⟩:=jbs ⟨l5,e5⟩
 obtain⟨l3,e3⟩:=Run.ok_of hn ⟨l4,e4⟩
 obtain⟨l2,e2,-⟩:=jbs ⟨l3,h3.symm.trans e3⟩
 obtain⟨l1,e1,c1⟩:=jbs ⟨l2,h2.symm.trans e2⟩
 have g1:=ht (pTl l) rfl c1
 have hc1:ja5 (pHd (pTl l))=true:=c1
 rw[jbW,hc1,g1]
 rfl
theorem jjl (hk:(pHd l3).k≠1):Run mNum (.ok l3) n (.bad (pHd l3).a 4):=.inr ⟨_,4,by decide,rfl,0,fun f _=>by unfold mNum;rw[if_neg hk]⟩
theorem jke (hk:(pHd l3).k=1) (hb:1048576<pNum (bytes (pHd l3).t)):Run mNum (.ok l3) n (.bad (pHd l3).a 2):=.inr ⟨_,2,by decide,rfl,0,fun f _=>by unfold mNum;rw[if_pos hk,if_pos hb]⟩
theorem jjm (hf:l3≠[]) (hk:(pHd l3).k=1) (hb:¬ 1048576<pNum (bytes (pHd l3).t)):Run mNum (.ok l3) (pNum (bytes (pHd l3).t):Nat) (.ok (pTl l3)):=.inl ⟨_,rfl,jaJ hf,jat l3,0,fun f _=>by unfold mNum;rw[if_pos hk,if_neg hb]⟩
end
theorem jms {s:ByteArray} (h:okX (bytes s)) (hk:tkd (bytes s)=1):DgT s:=by
 have hp:0<s.size:=by
  have:=List.length_pos_iff.mpr h.1
  exact this
 have g:=jdT h hk
 have hn:=jiD.2 ⟨h,hk⟩
 refine⟨hp,fun j hj=>?_,fun h1 e=>?_⟩
 ·have hl:j<(bytes s).length:=hj
  have e:jaa s j=((bytes s)[j]).toNat:=by
   unfold jaa
   rw[List.getD_eq_getElem?_getD,List.getElem?_eq_getElem hl]
   rfl
  rw[e]
  exact jhc _ (g _ (List.getElem_mem hl))
 ·unfold jcg at hn
  split at hn
  ·rw[if_pos ⟨e,h1⟩] at hn;cases hn
  ·cases hn
theorem jkf {s:ByteArray} (he:(scR s).2.2=0):∀ n,(tkD (scR s).1 n).k=1→DgT (tkD (scR s).1 n).t:=by
 obtain⟨V,e,h,h1,h2⟩:=jdE (jdF he) he
 intro n hk
 rcases jc0 h h1 n with ⟨-,g,gk⟩|⟨-,g⟩|⟨-,g⟩
 ·exact jms g (gk.symm.trans hk)
 ·rw[g] at hk;exact absurd hk (fun q=>by cases q)
 ·rw[g] at hk;exact absurd hk (fun q=>by cases q)
theorem jmt {R:Nat} {L:List Tk} {d:Nat} {st:RSt} {w:World} (h:Rf R L w d st) (hD:∀ n,(tkD L n).k=1→DgT (tkD L n).t) (l:List Tk) (hl:st = .ok l) (hc:pIs [97,114,114,97,121] l=true) :
  Calls Tryz.prog 87 #[.pointer (some ⟨R,0,none⟩)] w (QS R L jaD d st w):=by
 subst hl
 have hDD:=jD hD
 have hfi:=h.fine
 have CH:=fun W (H:Rf R L W d (.ok l))=>jbQ H
 have C0:=fun W (H:Rf R L W d (.ok l))=>jbu H [97,114,114,97,121] (by decide)
 rw[show rIs (.ok l) [97,114,114,97,121]=true from hc] at C0
 have CN:=fun W (H:Rf R L W d (.ok (pTl l)))=>jfO H
 have CB:=fun W (s:RSt) (H:Rf R L W d s)=>jbu H [91] (by decide)
 obtain⟨s2,hs2⟩:∃ s2,s2=jad (rNm (.ok (pTl l))) (.ok (pTl l)):=⟨_,rfl⟩
 rw[←hs2] at CN
 have CB2:=fun W H=>CB W s2 H
 obtain⟨s3,hs3⟩:∃ s3,s3=jad (rIs s2 [91]) s2:=⟨_,rfl⟩
 rw[←hs3] at CB2
 have HM:=jD (fun z2 n s4 ht hn=>jjk (z2:=z2) (n:=n) (s4:=s4) hfi hs2 ht hs3 hn)
 generalize (pHd l).a=pa at *
 have KH:=jD CH;have K0:=jD C0;have KN:=jD CN;have KB:=jD CB2
 clear CH C0 CN CB CB2 hfi hs2 hs3 hc hD
 have HA0:=jD h
 have HLT:=jD h.fix.lt;have HRW:=jD h.fix.lt
 have A0:=jD (h.alloc jZ);obtain⟨B0,XR0,HPR,HLS⟩:=jS h.fix.lt
 clear h 
 go_enter Tryz.func87,Tryz.ntmps87
 go_wp2_with (go_at_call 48;refine jR (KH.out _ A0) B0 XR0 HPR fun w1 A1 B1 XR1=>?_)
 refine jD ?_
 go_wp2_with (go_at_call 47;refine cM (jam _ _ _ _ _ _ _) ?_;rintro e w2 ⟨rfl,hbl2⟩)
 have ha2:=A1.out.below hbl2;have hb2:=Butt.of_below (R:=R) A1.out.fix.lt hbl2;clear hbl2
 have A2:=jD ha2;have B2:=jtt B1 hb2
 have XR2:=jbb XR1 HPR hb2
 clear ha2 hb2
 refine jD ?_
 have A2a:=jD (A2.out.alloc (Obj.cells #[.int .i64 8,.int .i64 pa,.string ⟨#[]⟩,.int .i64 0,.slice none 0 0] 25));have B2a:=jD (B2.out.alloc HRW (Obj.cells #[.int .i64 8,.int .i64 pa,.string ⟨#[]⟩,.int .i64 0,.slice none 0 0] 25))
 have XR2a:=jD (XR2.out.alloc (Obj.cells #[.int .i64 8,.int .i64 pa,.string ⟨#[]⟩,.int .i64 0,.slice none 0 0] 25))
 have HLTQ:Hid (w.heap.size<w2.heap.size):=jD XR2.out.lt
 have PXX:=nR A2.out.fix.lt
 have XX2a:=jD (Bx5.new w2 (.int .i64 8) (.int .i64 pa) (.string ⟨#[]⟩) (.int .i64 0) (.slice none 0 0))
 go_wp2_with (go_at_call 52;refine jX (K0.out _ A2a) B2a XR2a HPR fun w3 A3 B3 XR3 hb3=>?_)
 have XX3:=jbb XX2a PXX hb3
 clear hb3
 refine jD ?_
 have AS:=jD (show Rf R L w3 d (.ok (pTl l)) from A3)
 go_wp2_with (go_at_call 53;refine cM (KN.out _ AS) ?_;rintro e w4 ⟨z4,rfl,hz4,ha4,hb4⟩)
 have HZ4:=jD hz4
 have A4:=jD ha4;have B4:=jtt B3 hb4
 have XR4:=jbb XR3 HPR hb4
 have XX4:=jbb XX3 PXX hb4
 clear ha4 hb4 hz4
 refine jD ?_
 have z_:=XX4.out;have yXX4f2b:=z_.c2;have fXX4f2b:=z_.free 2;clear z_
 have SN:=Rf.setNew HA0 B4 A4 (w2.heap.size) 2 (Nat.le_of_lt HLTQ) (.string z4)
 have A4f2:=jD SN.1;have B4f2:=jD SN.2;clear SN
 have XR4f2:=jD (XR4.out.setO (q:=w2.heap.size) (j:=2) (Nat.ne_of_lt HLTQ) (.string z4))
 have XX4f2:=jD (XX4.out.set2 (.string z4))
 go_wp2_with (go_at_call 52;refine jX (KB.out _ A4f2) B4f2 XR4f2 HPR fun w5 A5 B5 XR5 hb5=>?_)
 have XX5:=jbb XX4f2 PXX hb5
 clear hb5
 refine jD ?_
 cases s3 with
 |bad ea ee=>
  obtain⟨ze,y3,t3,t4⟩:=A5.out.err1
  go_wp2_with fail
  go_quiet (fail)
  have hbq:=(below_drewN (Below.refl w5.heap.size w5) nq)
  have Aqnq:=jD (A5.out.below hbq);have Bqnq:=jD (B5.out.trans (Butt.of_below A5.out.fix.lt hbq))
  have XRqnq:=jD (XR5.out.below hbq)
  have XXqnq:=jD (XX5.out.below hbq)
  clear hbq
  clear y3 t3 t4
  obtain⟨ze2,y3,t3,t4⟩:=Aqnq.out.err1
  go_wp2_with (go_at_call 59;refine jX (jcu Aqnq) Bqnq XRqnq HPR fun w6 A6 B6 XR6 hb6=>?_)
  have XX6:=jbb XXqnq PXX hb6
  clear hb6
  refine jD ?_
  go_wp2_with (go_at_call 52;refine jX (jbu A6 [93] (by decide)) B6 XR6 HPR fun w7 A7 B7 XR7 hb7=>?_)
  have XX7:=jbb XX6 PXX hb7
  clear hb7
  refine jD ?_
  go_wp2_with (go_at_call 52;refine jX (jbu A7 [59] (by decide)) B7 XR7 HPR fun w8 A8 B8 XR8 hb8=>?_)
  have XX8:=jbb XX7 PXX hb8
  clear hb8
  refine jD ?_
  obtain⟨yXX0,yXX1,yXX2,yXX3,yXX4,-,-⟩:=XX8.out
  have FT:=jD (jas HA0 B8 A8 XR8 (jrr _) (.int .i64 8) (.int .i64 pa) (.string z4) (.int .i64 0) (.slice none 0 0) _ rfl)
  have GX:=jD (((jac.mpr ⟨_,rfl,Or.inl ⟨rfl,rfl⟩⟩:synIn (offs w.heap.size [w.heap.size]) w8 (.mk 8 pa z4 0 []) _)).kept (by simp) FT.out.2.2.2).at
  obtain⟨yXR0,yXR1,yXR2,yXR3,yXR4,fXR0,fXR1,fXR2,fXR3,fXR4⟩:=bF XR8
  obtain⟨r0,r1,r2,r3,r4⟩:=FT.out.1
  have GA:=jD FT.out.2.1;have GB:=jD FT.out.2.2.1
  clear FT
  go_wp2
  refine bodyPost_ret (by simp[results,Tryz.results87,go_sem,r0,r1,r2,r3,r4];rfl) rfl ?_
  exact⟨_,_,_,rfl,GX.out,HM.out _ 0 _ HZ4 (show Run mNum (.bad ea ee) 0 (.bad ea ee) from rfl),GA.out,GB.out⟩
 |ok l3=>
  have HF3:Hid (l3≠[]):=jD A5.out.fine
  obtain⟨hf,nx,op,er,ae,h1,hr2,hr3⟩:=A5.out
  rcases hr3 with ⟨rfl,hr4,hll⟩|⟨he,e,hr4,hll⟩
  rotate_left
  ·cases hll
  have hlx:l3=L.drop nx:=by cases hll;rfl
  obtain⟨⟨b,oo,cc,r0,r1,r2,r3⟩,c1,c2,c3,c4,c5,c6,c7⟩:=hr2
  obtain⟨b',o',e',hat⟩:=r1.at c7
  cases e'
  obtain⟨d0,d1,d2⟩:=hat nx h1 w5 (Below.refl _ _)
  have gl:(nx:Int)<(L.length:Int):=by omega
  have g0:(0:Int)≤(nx:Int):=by omega
  have hpd:pHd l3=tkD L nx:=by rw[hlx];exact jaO h1
  rw[←hpd] at d0 d1 d2
  have hdd:=hDD.out nx
  rw[←hpd] at hdd
  have rlt:=r3
  clear hat r1 c2 c4 c5 c6 c7 r2 r3 hr4 hll h1 hf d2 hlx hpd
  by_cases hk:(pHd l3).k=1
  rotate_left
  ·have HR1:=jD (jjl (n:=0) hk)
   have b4:((pHd l3).k != (1:Int))=true:=by rw[bne_iff_ne];exact hk
   clear hk hdd
   generalize pHd l3=T at d0 d1 b4
   obtain⟨tk,tt,ta⟩:=T
   dsimp only at d0 d1 b4
   go_wp2_with fail
   go_quiet (fail)
   have hbq:=(below_drewN (Below.refl w5.heap.size w5) nq)
   have Aqnq:=jD (A5.out.below hbq);have Bqnq:=jD (B5.out.trans (Butt.of_below A5.out.fix.lt hbq))
   have XRqnq:=jD (XR5.out.below hbq)
   have XXqnq:=jD (XX5.out.below hbq)
   clear hbq
   go_wp2_with (go_at_call 24;refine cM (jjg Aqnq 4 (by decide)) ?_;rintro e w6 ⟨rfl,hx6,hb6⟩)
   have ha6:Rf R L w6 d (.bad (pHd l3).a 4):=hx6 d
   have A6:=jD ha6;have B6:=jtt Bqnq hb6
   have XR6:=jbb XRqnq HPR hb6
   have XX6:=jbb XXqnq PXX hb6
   clear ha6 hb6 hx6
   refine jD ?_
   obtain⟨ze2,y3,t3,t4⟩:=A6.out.err1
   go_wp2_with (go_at_call 59;refine jX (jcu A6) B6 XR6 HPR fun w7 A7 B7 XR7 hb7=>?_)
   have XX7:=jbb XX6 PXX hb7
   clear hb7
   refine jD ?_
   go_wp2_with (go_at_call 52;refine jX (jbu A7 [93] (by decide)) B7 XR7 HPR fun w8 A8 B8 XR8 hb8=>?_)
   have XX8:=jbb XX7 PXX hb8
   clear hb8
   refine jD ?_
   go_wp2_with (go_at_call 52;refine jX (jbu A8 [59] (by decide)) B8 XR8 HPR fun w9 A9 B9 XR9 hb9=>?_)
   have XX9:=jbb XX8 PXX hb9
   clear hb9
   refine jD ?_
   obtain⟨yXX0,yXX1,yXX2,yXX3,yXX4,-,-⟩:=XX9.out
   have FT:=jD (jas HA0 B9 A9 XR9 (jrr _) (.int .i64 8) (.int .i64 pa) (.string z4) (.int .i64 0) (.slice none 0 0) _ rfl)
   have GX:=jD (((jac.mpr ⟨_,rfl,Or.inl ⟨rfl,rfl⟩⟩:synIn (offs w.heap.size [w.heap.size]) w9 (.mk 8 pa z4 0 []) _)).kept (by simp) FT.out.2.2.2).at
   obtain⟨yXR0,yXR1,yXR2,yXR3,yXR4,fXR0,fXR1,fXR2,fXR3,fXR4⟩:=bF XR9
   obtain⟨r0,r1,r2,r3,r4⟩:=FT.out.1
   have GA:=jD FT.out.2.1;have GB:=jD FT.out.2.2.1
   clear FT
   go_wp2
   refine bodyPost_ret (by simp[results,Tryz.results87,go_sem,r0,r1,r2,r3,r4];rfl) rfl ?_
   exact⟨_,_,_,rfl,GX.out,HM.out _ 0 _ HZ4 HR1,GA.out,GB.out⟩
  ·have HDG:=jD (hdd hk)
   have HMN:=jD (fun(n:Int)=>jke (n:=n) hk);have HMG:=jD (jjm HF3 hk)
   clear hdd
   generalize hT:pHd l3=T at d0 d1 hk HDG HMN HMG
   obtain⟨tk,tt,ta⟩:=T
   dsimp only at d0 d1 hk HDG HMN HMG
   subst hk
   have HT:=jD hT;clear hT
   go_wp2_with fail
   go_quiet (fail)
   have y3q:=(A5.out.below (below_drewN (Below.refl w5.heap.size w5) nq)).err0
   go_wp2_with fail
   generalize hWQ:w5.drewN nq=WQ at *
   have hbQ:Below w5.heap.size w5 WQ:=by rw[←hWQ];exact below_drewN (Below.refl _ _) _
   have e0:=(hbQ.cell (p:=⟨R,0,none⟩) A5.out.fix.lt).trans r0;have e1:=(hbQ.cell (p:=⟨R,1,none⟩) A5.out.fix.lt).trans c1
   have e2:=(hbQ.cell (p:=⟨b,oo+nx * 3+1,none⟩) rlt).trans d1
   have KI:=jD (fun d' os=>Calls.regrown_of ((jkd tt HDG (grow (redrawn WQ d') os)).mono (fun e w' (g:e = .returned (intD (pNum (bytes tt)))∧w'=grow (redrawn WQ d') os)=>(show e = .returned (intD (pNum (bytes tt)))∧Below (grow (redrawn WQ d') os).heap.size (grow (redrawn WQ d') os) w' from ⟨g.1,by rw[g.2];exact Below.refl _ _⟩))))
   have k0:∀ d os,(grow (redrawn WQ d) os).cell? ⟨R,0,none⟩=some (.slice (some ⟨b,oo,none⟩) L.length cc):=fun d os=>cell_regrown e0 d os
   have k1:∀ d os,(grow (redrawn WQ d) os).cell? ⟨R,1,none⟩=some (.int .i64 nx):=fun d os=>cell_regrown e1 d os
   have k2:∀ d os,(grow (redrawn WQ d) os).cell? ⟨b,oo+nx * 3+1,none⟩=some (.string tt):=fun d os=>cell_regrown e2 d os
   have AQ:=jD (A5.out.below hbQ);have BQ:=jD (B5.out.trans (Butt.of_below A5.out.fix.lt hbQ));have XRQ:=jD (XR5.out.below hbQ);have XXQ:=jD (XX5.out.below hbQ)
   clear e0 e1 e2 hbQ hWQ y3q r0 c1 c3 d0 d1
   by_cases hb:1048576<pNum (bytes tt)
   ·rw[show intD (pNum (bytes tt)) = .tuple #[.int .i64 0,.bool false] from if_pos hb] at KI
    have HR1:=jD (HMN.out 0 hb)
    refine wp_region_quiet_below (by kernel_rfl) (by kernel_rfl) ?_
    repeat (quiet_step (first|exact KI _ _))
    refine wpQuiet_nil ?_
    intro _ hw'
    obtain⟨⟨dq,osq⟩,hw''⟩:=hw'
    subst hw''
    have hbq:=below_regrown WQ dq osq
    have Aqz:=jD (AQ.out.below hbq);have Bqz:=jD (BQ.out.trans (Butt.of_below AQ.out.fix.lt hbq))
    have XRqz:=jD (XRQ.out.below hbq)
    have XXqz:=jD (XXQ.out.below hbq)
    clear hbq
    go_wp2_with (go_at_call 24;refine cM (jjg Aqz 2 (by decide)) ?_;rintro e w6 ⟨rfl,hx6,hb6⟩)
    have ha6:Rf R L w6 d (.bad (pHd l3).a 2):=hx6 d
    have A6:=jD ha6;have B6:=jtt Bqz hb6
    have XR6:=jbb XRqz HPR hb6
    have XX6:=jbb XXqz PXX hb6
    clear ha6 hb6 hx6
    refine jD ?_
    have z_:=XX6.out;have yXX6f3b:=z_.c3;have fXX6f3b:=z_.free 3;clear z_
    have SN:=Rf.setNew HA0 B6 A6 (w2.heap.size) 3 (Nat.le_of_lt HLTQ) (.int .i64 0)
    have A6f3:=jD SN.1;have B6f3:=jD SN.2;clear SN
    have XR6f3:=jD (XR6.out.setO (q:=w2.heap.size) (j:=3) (Nat.ne_of_lt HLTQ) (.int .i64 0))
    have XX6f3:=jD (XX6.out.set3 (.int .i64 0))
    go_wp2_with (go_at_call 59;refine jX (jcu A6f3) B6f3 XR6f3 HPR fun w7 A7 B7 XR7 hb7=>?_)
    have XX7:=jbb XX6f3 PXX hb7
    clear hb7
    refine jD ?_
    go_wp2_with (go_at_call 52;refine jX (jbu A7 [93] (by decide)) B7 XR7 HPR fun w8 A8 B8 XR8 hb8=>?_)
    have XX8:=jbb XX7 PXX hb8
    clear hb8
    refine jD ?_
    go_wp2_with (go_at_call 52;refine jX (jbu A8 [59] (by decide)) B8 XR8 HPR fun w9 A9 B9 XR9 hb9=>?_)
    have XX9:=jbb XX8 PXX hb9
    clear hb9
    refine jD ?_
    obtain⟨yXX0,yXX1,yXX2,yXX3,yXX4,-,-⟩:=XX9.out
    have FT:=jD (jas HA0 B9 A9 XR9 (jrr _) (.int .i64 8) (.int .i64 pa) (.string z4) (.int .i64 0) (.slice none 0 0) _ rfl)
    have GX:=jD (((jac.mpr ⟨_,rfl,Or.inl ⟨rfl,rfl⟩⟩:synIn (offs w.heap.size [w.heap.size]) w9 (.mk 8 pa z4 0 []) _)).kept (by simp) FT.out.2.2.2).at
    obtain⟨yXR0,yXR1,yXR2,yXR3,yXR4,fXR0,fXR1,fXR2,fXR3,fXR4⟩:=bF XR9
    obtain⟨r0,r1,r2,r3,r4⟩:=FT.out.1
    have GA:=jD FT.out.2.1;have GB:=jD FT.out.2.2.1
    clear FT
    go_wp2
    refine bodyPost_ret (by simp[results,Tryz.results87,go_sem,r0,r1,r2,r3,r4];rfl) rfl ?_
    exact⟨_,_,_,rfl,GX.out,HM.out _ 0 _ HZ4 (by rw[HT.out];exact HR1),GA.out,GB.out⟩
   ·rw[show intD (pNum (bytes tt)) = .tuple #[.int .i64 (pNum (bytes tt):Nat),.bool true] from if_neg hb] at KI
    have HR1:=jD (HMG.out hb)
    clear HMN HMG HDG
    generalize pNum (bytes tt)=pn at *
    have hq1:decide (1048576<(pn:Int))=false:=by rw[decide_eq_false_iff_not];omega
    refine wp_region_quiet_below (by kernel_rfl) (by kernel_rfl) ?_
    repeat (quiet_step (first|exact KI _ _))
    refine wpQuiet_nil ?_
    intro _ hw'
    obtain⟨⟨dq,osq⟩,hw''⟩:=hw'
    subst hw''
    have hbq:=below_regrown WQ dq osq
    have Aqz:=jD (AQ.out.below hbq);have Bqz:=jD (BQ.out.trans (Butt.of_below AQ.out.fix.lt hbq))
    have XRqz:=jD (XRQ.out.below hbq)
    have XXqz:=jD (XXQ.out.below hbq)
    clear hbq
    have z_:=XXqz.out;have yXX5f3b:=z_.c3;have fXX5f3b:=z_.free 3;clear z_
    have SN:=Rf.setNew HA0 Bqz Aqz (w2.heap.size) 3 (Nat.le_of_lt HLTQ) (.int .i64 (pn:Nat))
    have A5f3:=jD SN.1;have B5f3:=jD SN.2;clear SN
    have XR5f3:=jD (XRqz.out.setO (q:=w2.heap.size) (j:=3) (Nat.ne_of_lt HLTQ) (.int .i64 (pn:Nat)))
    have XX5f3:=jD (XXqz.out.set3 (.int .i64 (pn:Nat)))
    go_wp2_with (go_at_call 59;refine jX (jcu A5f3) B5f3 XR5f3 HPR fun w6 A6 B6 XR6 hb6=>?_)
    have XX6:=jbb XX5f3 PXX hb6
    clear hb6
    refine jD ?_
    go_wp2_with (go_at_call 52;refine jX (jbu A6 [93] (by decide)) B6 XR6 HPR fun w7 A7 B7 XR7 hb7=>?_)
    have XX7:=jbb XX6 PXX hb7
    clear hb7
    refine jD ?_
    go_wp2_with (go_at_call 52;refine jX (jbu A7 [59] (by decide)) B7 XR7 HPR fun w8 A8 B8 XR8 hb8=>?_)
    have XX8:=jbb XX7 PXX hb8
    clear hb8
    refine jD ?_
    obtain⟨yXX0,yXX1,yXX2,yXX3,yXX4,-,-⟩:=XX8.out
    have FT:=jD (jas HA0 B8 A8 XR8 (jrr _) (.int .i64 8) (.int .i64 pa) (.string z4) (.int .i64 (pn:Nat)) (.slice none 0 0) _ rfl)
    have GX:=jD (((jac.mpr ⟨_,rfl,Or.inl ⟨rfl,rfl⟩⟩:synIn (offs w.heap.size [w.heap.size]) w8 (.mk 8 pa z4 (pn:Nat) []) _)).kept (by simp) FT.out.2.2.2).at
    obtain⟨yXR0,yXR1,yXR2,yXR3,yXR4,fXR0,fXR1,fXR2,fXR3,fXR4⟩:=bF XR8
    obtain⟨r0,r1,r2,r3,r4⟩:=FT.out.1
    have GA:=jD FT.out.2.1;have GB:=jD FT.out.2.2.1
    clear FT
    go_wp2
    refine bodyPost_ret (by simp[results,Tryz.results87,go_sem,r0,r1,r2,r3,r4];rfl) rfl ?_
    exact⟨_,_,_,rfl,GX.out,HM.out _ (pn:Nat) _ HZ4 HR1,GA.out,GB.out⟩
end Go.Proofs.YtenmmmdnpglkoaaGreatDoor

namespace Go.Proofs.YtenmmmdnpglkoaaGreatDoor
open Go Go.Proofs Go.RowKit
section
variable {P : Program} {ops : Array Oper} {Q : Exit → Act → World → Prop} {md : Region.Mode} {S : World → Prop} {late dep : Nat → Bool}
end
section
variable {P:Program} {ops:Array Oper} {Q:Exit→Act→World→Prop} {md:Region.Mode} {S:World→Prop} {hot:Nat→Bool}
def jcw (hot:Nat→Bool) (listed:Array Bool):Bool:=(List.range listed.size).all fun j=>!hot j || !listed.getD j false
theorem jfl {listed:Array Bool} (h:jcw hot listed=true) (j:Nat) (hj:hot j=true):listed.getD j false=false:=by
 unfold jcw at h
 rw[List.all_eq_true] at h
 rcases Nat.lt_or_ge j listed.size with q|q
 ·have:=h j (List.mem_range.2 q)
  rw[hj] at this
  simpa using this
 ·simp[Array.getElem?_eq_none q]
theorem jhw {listed:Array Bool} (h:∀ j,hot j=true→listed.getD j false=false):jcw hot listed=true:=by
 unfold jcw
 rw[List.all_eq_true]
 intro j _
 cases hj:hot j
 ·rfl
 ·rw[h j hj];rfl
theorem jfm {listed:Array Bool} {i:Nat} (h:jcw hot (listed.setIfInBounds i true)=true):jcw hot listed=true:=jhw fun j hj=>by
 have:=jfl h j hj
 rcases Decidable.em (i=j) with rfl|hne
 ·rcases Nat.lt_or_ge i listed.size with q|q
  ·simp[q] at this
  ·simp[Array.getElem?_eq_none q]
 ·rwa [getD_set_ne false hne] at this
theorem jeu {listed:Array Bool} {i:Nat} (hi:hot i=false) (h:jcw hot listed=true):jcw hot (listed.setIfInBounds i true)=true:=jhw fun j hj=>by
 have hne:i≠j:=fun e=>by subst e;rw[hi] at hj;cases hj
 rw[getD_set_ne false hne];exact jfl h j hj
def jb7 (P:Program) (md:Region.Mode) (ops:Array Oper) (Q:Exit→Act→World→Prop) (S:World→Prop) (hot:Nat→Bool):Nat→Array Bool→Act→World→Prop
 |0,listed,a,w=>Region.ready md ops listed=[]∧Q .normal a w
 |k+1,listed,a,w=>
  (Region.ready md ops listed=[]→Q .normal a w) ∧
  ∀ i∈Region.ready md ops listed,wpOp P ops Q i (fun a' w'=>(jcw hot (listed.setIfInBounds i true)=true→S w')∧jb7 P md ops Q S hot k (listed.setIfInBounds i true) a' w') a w
theorem jfn:∀ (k:Nat) (listed:Array Bool) (a:Act) (w:World),jb7 P md ops Q S hot k listed a w→wpAny P md ops Q k listed a w
 |0,_,_,_,h=>h
 |k+1,_,_,_,h=>⟨h.1,fun i hi=>wpOp_mono (fun a' w' g=>jfn k _ a' w' g.2) (h.2 i hi)⟩
theorem jfX {i:Nat} {oi:Oper} {v:Value} (hi:ops[i]? = some oi) (hsel:∀ (j:Nat) (o:Oper) cs b,ops[j]? = some o→o.op≠.select cs b) (hni:hot i=false)
  (hQ:∀ c a w,Q (.panic c) (a.put oi.dst v) w→Q (.panic c) a w)
  (free:Bool)
  (hfr:free=false→∀ (j:Nat) (o:Oper),ops[j]? = some o→hot j=true→∃ e∈o.after,Region.binds md e=true∧e.on=i) :
  ∀ (k:Nat) (listed:Array Bool) (a:Act) (w:World),
   (∀ j oj,ops[j]? = some oj→j≠i→listed.getD j true=false→(∀ e∈oj.after,Region.binds md e=true→e.on≠i)→oi.apart ops oj=true) →
   i∈Region.ready md ops listed→YieldsIf P ops (if free=true then fun _=>True else S) oi v a→(jcw hot listed=true→S w)→(free=false→jcw hot listed=true) →
   jb7 P md ops Q S hot k (listed.setIfInBounds i true) (a.put oi.dst v) w→jb7 P md ops Q S hot (k+1) listed a w:=by
 intro k
 induction k with
 |zero=>
  intro listed a w _ hr hy hS hc H
  refine⟨fun h=>absurd hr (by rw[h];simp),fun j hj=>?_⟩
  rcases Decidable.em (j=i) with rfl|hne
  ·exact hy.wpOp hi (by cases free with|true=>trivial|false=>exact hS (hc rfl)) ⟨fun h=>hS (jfm h),H⟩
  ·have:=ready_mono hj hne
   rw[H.1] at this
   cases this
 |succ k ih=>
  intro listed a w hfree hr hy hS hc H
  refine⟨fun h=>absurd hr (by rw[h];simp),fun j hj=>?_⟩
  rcases Decidable.em (j=i) with rfl|hne
  ·exact hy.wpOp hi (by cases free with|true=>trivial|false=>exact hS (hc rfl)) ⟨fun h=>hS (jfm h),H⟩
  ·have g:=H.2 j (ready_mono hj hne)
   obtain⟨hun,oj,hoj,hall⟩:=mem_ready.1 hj
   have hfar:∀ e∈oj.after,Region.binds md e=true→e.on≠i:=fun e he hb heq=>by
    have u1:=hall e he hb
    have u0:=(mem_ready.1 hr).1
    rw[heq] at u1
    rcases Nat.lt_or_ge i listed.size with q|q
    ·simp[q] at u0 u1;rw[u0] at u1;cases u1
    ·simp[Array.getElem?_eq_none q] at u1
   have g2:=wpOp_putIf hoj (hfree j oj hoj hne hun hfar) (fun cs b=>hsel i oi cs b hi) (fun cs b=>hsel j oj cs b hoj) hQ hy g
   have hfree2:∀ m om,ops[m]? = some om→m≠i→(listed.setIfInBounds j true).getD m true=false→(∀ e∈om.after,Region.binds md e=true→e.on≠i)→oi.apart ops om=true:=fun m om hm hmi hu hno=>by
    refine hfree m om hm hmi ?_ hno
    rcases Decidable.em (j=m) with rfl|hjm
    ·exact hun
    ·rw[getD_set_ne true hjm] at hu;exact hu
   have hcj:free=false→jcw hot (listed.setIfInBounds j true)=true:=fun hf=>by
    have hnh:hot j=false:=by
     cases hh:hot j
     ·rfl
     ·obtain⟨e,he,hb,hon⟩:=hfr hf j oj hoj hh
      exact absurd hon (hfar e he hb)
    exact jeu hnh (hc hf)
   refine wpOp_mono (fun a' w' z=>⟨fun h=>z.2.1 ?_,ih (listed.setIfInBounds j true) a' w' hfree2 (ready_mono hr (Ne.symm hne)) z.1 (fun h=>z.2.1 ?_) hcj ?_⟩) g2
   all_goals first
    |(rw[Array.setIfInBounds_comm _ _ hne];exact z.2.2)
    |(rw[Array.setIfInBounds_comm _ _ hne];exact jeu hni h)
    |(rw[Array.setIfInBounds_comm _ _ (Ne.symm hne)];exact jeu hni h)
def jk8 (md:Region.Mode) (ops:Array Oper) (hot:Nat→Bool) (i:Nat):Bool:=
 (List.range ops.size).all fun j=>!hot j || (match ops[j]? with|some o=>o.after.any (fun e=>Region.binds md e && e.on==i)|none=>true)
theorem jhP {i:Nat} (h:jk8 md ops hot i=true) (j:Nat) (o:Oper) (hj:ops[j]? = some o) (hh:hot j=true):∃ e∈o.after,Region.binds md e=true∧e.on=i:=by
 unfold jk8 at h
 rw[List.all_eq_true] at h
 have lt:j<ops.size:=by
  rcases Nat.lt_or_ge j ops.size with q|q
  ·exact q
  ·rw[Array.getElem?_eq_none q] at hj;cases hj
 have:=h j (List.mem_range.2 lt)
 rw[hh,hj] at this
 simp only[Bool.not_true,Bool.false_or] at this
 obtain⟨e,he,hb⟩:=Array.any_eq_true'.1 this
 simp only[Bool.and_eq_true,beq_iff_eq] at hb
 exact⟨e,he,hb.1,hb.2⟩
theorem ja0 {i:Nat} {oi:Oper} {v:Value} {k:Nat} {listed:Array Bool} {a:Act} {w:World} (hi:ops[i]? = some oi)
  (hs:Region.noSelect ops=true) (hf:Region.free md ops listed i=true) (hr:(Region.ready md ops listed).contains i=true) (hni:hot i=false) (hwt:jk8 md ops hot i=true) (hcl:jcw hot listed=true)
  (hQ:∀ c a w,Q (.panic c) (a.put oi.dst v) w→Q (.panic c) a w) (hy:YieldsIf P ops S oi v a) (hS:S w)
  (h:jb7 P md ops Q S hot k (listed.setIfInBounds i true) (a.put oi.dst v) w):jb7 P md ops Q S hot (k+1) listed a w:=
 jfX hi (Region.noSelect_spec hs) hni hQ false (fun _=>jhP hwt) k listed a w (Region.free_spec hi hf) (by simpa using hr) (by simpa using hy) (fun _=>hS) (fun _=>hcl) h
theorem jbK {i:Nat} {oi:Oper} {v:Value} {k:Nat} {listed:Array Bool} {a:Act} {w:World} (hi:ops[i]? = some oi)
  (hs:Region.noSelect ops=true) (hf:Region.free md ops listed i=true) (hr:(Region.ready md ops listed).contains i=true) (hni:hot i=false)
  (hQ:∀ c a w,Q (.panic c) (a.put oi.dst v) w→Q (.panic c) a w) (hy:YieldsIf P ops (fun _=>True) oi v a) (hS:S w)
  (h:jb7 P md ops Q S hot k (listed.setIfInBounds i true) (a.put oi.dst v) w):jb7 P md ops Q S hot (k+1) listed a w:=
 jfX hi (Region.noSelect_spec hs) hni hQ true (fun h=>by cases h) k listed a w (Region.free_spec hi hf) (by simpa using hr) (by simpa using hy) (fun _=>hS) (fun h=>by cases h) h
theorem jax {i:Nat} {oi:Oper} {k:Nat} {listed:Array Bool} {a:Act} {w:World} (hi:ops[i]? = some oi) (hr:Region.ready md ops listed=[i])
  (h:∀ K:Act→World→Prop,Hid (∀ a' w',(jcw hot (listed.setIfInBounds i true)=true→S w')→jb7 P md ops Q S hot k (listed.setIfInBounds i true) a' w'→K a' w') →
   if Region.wanted oi (yielded ops a.tmps)=true then Oper.wp P oi a w K Q else K (a.put oi.dst undef) w):jb7 P md ops Q S hot (k+1) listed a w:=by
 have g:=h (fun a' w'=>(jcw hot (listed.setIfInBounds i true)=true→S w')∧jb7 P md ops Q S hot k (listed.setIfInBounds i true) a' w') (jD fun a' w' h1 h2=>⟨h1,h2⟩)
 refine⟨fun h0=>(by rw[hr] at h0;cases h0),fun j hj=>?_⟩
 rw[hr] at hj
 obtain rfl:=List.mem_singleton.1 hj
 unfold wpOp
 simp only[hi]
 split
 ·rename_i hw;rw[if_pos hw] at g;exact .inl g
 ·rename_i hw;rw[if_neg hw] at g;exact g
theorem jbo {listed:Array Bool} {a:Act} {w:World} (hr:Region.ready md ops listed=[]) (h:Q .normal a w):∀ k,jb7 P md ops Q S hot k listed a w
 |0=>⟨hr,h⟩
 |_+1=>⟨fun _=>h,by rw[hr];simp⟩
theorem jaL {id:Nat} {a:Act} {w:World} (hot:Nat→Bool) (S:World→Prop) (hm:P.follows .mixedOrders=true) (hS:S w.drew)
  (h:S w.drew→jb7 P .any ops Q S hot ops.size (Array.replicate ops.size false) a w.drew):(Code.region id ops true).wp P Q a w:=
 wp_region_any hm (jfn _ _ _ _ (h hS))
end
end Go.Proofs.YtenmmmdnpglkoaaGreatDoor

namespace Go.Proofs.YtenmmmdnpglkoaaGreatDoor
open Go Go.Proofs Go.RowKit Go.Sort
def growP (lo:Nat) (ps:List Nat) (W:World) (xs:List Syn) (v:Value):Prop:=(∃ cs,W.ownsRow lo 25 5 v xs.length cs∧flatIn (fun b=>offs lo ps b∧v.ownBlock≠some b) W xs cs)∧∀ b,v.ownBlock=some b→offs lo ps b∧b<W.heap.size
section
variable {R lo q:Nat} {ps:List Nat} {W W':World} {xs:List Syn} {v:Value}
theorem growP.nil:growP lo ps W [] (.slice none 0 0):=⟨⟨[],World.ownsRow_nil ..,rfl⟩,fun b e=>by cases e⟩
theorem growP.slice (h:growP lo ps W xs v):∃ ao c,v = .slice ao xs.length c:=by
 obtain⟨⟨cs,⟨-,h2⟩,-⟩,-⟩:=h
 rcases h2 with ⟨rfl,hn⟩|⟨g,cap,cur,rfl,-⟩
 ·exact⟨none,0,by rw[hn]⟩
 ·exact⟨_,_,rfl⟩
theorem growP.keep (h:growP lo ps W xs v) (hb:Kept (offs lo ps) W W'):growP lo ps W' xs v:=by
 obtain⟨⟨cs,⟨h1,h2⟩,h3⟩,h4⟩:=h
 refine⟨⟨cs,⟨h1,h2.imp_right ?_⟩,flatIn.keep ⟨hb.size,fun k hk h=>hb.block k hk.1 h⟩ (fun k hk _=>hk) _ _ h3⟩,fun b e=>⟨(h4 b e).1,Nat.lt_of_lt_of_le (h4 b e).2 hb.size⟩⟩
 rintro⟨g,cap,cur,e,g1,g2,r⟩
 exact⟨g,cap,cur,e,g1,(hb.block g (h4 g (by rw[e];rfl)).1 (Array.getElem?_eq_some_iff.1 g2).1).trans g2,r⟩
theorem growP.butt (h:growP lo ps W xs v) (hR:R<lo) (hb:Butt R W W'):growP lo ps W' xs v:=h.keep ⟨hb.size,fun k hk h=>hb.block k h (by have:=hk.1;omega)⟩
theorem growP.kept (h:growP lo ps W xs v) (hq:q∈ps) (hb:Kept (·≠q) W W'):growP lo ps W' xs v:=h.keep ⟨hb.size,fun k hk h=>hb.block k (fun e=>hk.2 (e ▸ hq)) h⟩
theorem growP.kids (h:growP lo ps W xs v):kidsIn (offs lo ps) W xs v:=by
 obtain⟨⟨cs,⟨h1,h2⟩,h3⟩,h4⟩:=h
 rcases h2 with ⟨rfl,hn⟩|⟨g,cap,cur,rfl,g1,g2,g3,g4,g5,g6⟩
 ·exact .inl ⟨hn,rfl⟩
 ·have hlt:=(Array.getElem?_eq_some_iff.1 g2).1
  refine .inr ⟨g,cap,rfl,g3,g4,(h4 g rfl).1,hlt,?_⟩
  have hf:=flatIn.keep (B:=offs lo ps) ⟨jrr _,fun _ _ _=>rfl⟩ (fun k hk _=>hk.1) _ _ h3
  refine jeq xs cs 0 hf fun j u hu=>?_
  rw[Nat.zero_add]
  have hj:j<xs.length * 5:=by
   have:=(List.getElem?_eq_some_iff.1 hu).1
   rw[h1] at this
   exact this
  rw[←g6,List.getElem?_take_of_lt hj] at hu
  simp only[World.cell?,g2]
  rw[←Array.getElem?_toList]
  simpa using hu
theorem growP.new {cs:List Value} (h:flatIn (offs lo ps) W xs cs) (hl:xs.length≤100) (hA:offs lo ps W.heap.size) (n:Nat) (hn:xs.length=n) :
  growP lo ps (W.alloc (Obj.cells cs.toArray 25)) xs (.slice (some ⟨W.heap.size,0,none⟩) n n):=by
 subst hn
 have hk:Kept (offs lo ps) W (W.alloc (Obj.cells cs.toArray 25)):=by
  have:=(Below.refl W.heap.size W).alloc (jrr _) (Obj.cells cs.toArray 25)
  exact⟨this.size,fun k _ hl=>this.block k hl⟩
 have hlen:=flatIn.len xs cs h
 refine⟨⟨cs,⟨hlen,.inr ⟨W.heap.size,xs.length,cs.toArray,rfl,hA.1,?_,jrr _,by unfold maxLen;omega,by simp[hlen],?_⟩⟩,flatIn.keep hk (fun k hk hl=>⟨hk,fun e=>by cases e;exact Nat.lt_irrefl _ hl⟩) _ _ h⟩,fun b e=>?_⟩
 ·exact heap_alloc_new W _
 ·rw[←hlen];simp
 ·cases e;exact⟨hA,by simp⟩
theorem growP.off {l2:Nat} {u:Value} {x:Syn} (h:growP lo ps W xs v) (hl:W.heap.size≤l2) (hlo:lo≤W.heap.size) (hp:∀ p∈ps,p<W.heap.size) (hx:synAt l2 W' x u):synIn (fun b=>offs lo ps b∧v.ownBlock≠some b) W' x u:=
 synIn.keep ⟨jrr _,fun _ _ _=>rfl⟩ (fun k hk _=>⟨⟨by omega,fun hm=>absurd (hp k hm) (by omega)⟩,fun e=>by have:=(h.2 k e).2;omega⟩) x u (jcC x u |>.mpr hx)
theorem jbT {ops:Array Oper} {o:Oper} {a:Act} {K:Act→World→Prop} {Q:Exit→Act→World→Prop} {E:Prop}
  (hg:o.guard=none) (s x:Operand) (hop:o.op=Op.call { callee:=Callee.builtin Builtin.append,args:=#[s,x],argTypes:=#[23,23] })
  (hs:a.eval s=v) (hown:growP lo ps W xs v) (hl:xs.length≤1200000) (hbase:lo≤W.heap.size) (hps:∀ p∈ps,p<W.heap.size)
  (ad:Nat) (z:Syn) (v0 v1 v2 v3 v4:Value) (hx:a.eval x = .slice (some ⟨ad,0,none⟩) 1 1) (hz:synIn (fun b=>offs lo ps b∧v.ownBlock≠some b) W z (.agg #[v0,v1,v2,v3,v4])) (h1:v0.oneCell'=true∧v1.oneCell'=true∧v2.oneCell'=true∧v3.oneCell'=true∧v4.oneCell'=true)
  (hb:Bx5 W ad v0 v1 v2 v3 v4)
  (hK:∀ (v':Value) (ao:Option Addr) (cap:Nat) (w9:World),v' = .slice ao (xs.length+1) cap→growP lo ps w9 (xs++[z]) v'→W.grownBy w9 v.ownBlock→K (a.put o.dst v') w9) :
  if Region.wanted o (yielded ops a.tmps)=true then Oper.wp Tryz.prog o a W K Q else E:=by
 obtain⟨i0,hi,hz0,hz1,hz2⟩:=info_parts jgZ
 obtain⟨⟨cs,hrow,hflat⟩,hown2⟩:=hown
 obtain⟨hc0,hc1,hc2,hc3,hc4,-,-⟩:=hb
 refine step_append_lies W hg s x 23 hop lo 25 i0 _ 5 64 Tryz.underlying23 hi hz0 hz1 hz2 rfl (by decide) v xs.length cs hs hrow ⟨ad,0,none⟩ 1 1 [v0,v1,v2,v3,v4] hx rfl ?_ (by intro u hu;simp at hu;rcases hu with rfl|rfl|rfl|rfl|rfl<;>first|exact h1.1|exact h1.2.1|exact h1.2.2.1|exact h1.2.2.2.1|exact h1.2.2.2.2) (by decide) (by unfold maxLen;omega) (by omega) hbase _ rfl ?_
 ·intro j u hu
  match j,hu with
  |0,hu=>simp at hu;subst hu;rw[jb5];exact hc0
  |1,hu=>simp at hu;subst hu;rw[jb5];exact hc1
  |2,hu=>simp at hu;subst hu;rw[jb5];exact hc2
  |3,hu=>simp at hu;subst hu;rw[jb5];exact hc3
  |4,hu=>simp at hu;subst hu;rw[jb5];exact hc4
 ·intro g cap w9 hown9 hgrow hgg hg9
  have hkept:Kept (fun b=>offs lo ps b∧v.ownBlock≠some b) W w9:=⟨hgrow.size,fun k hk h=>hgrow.block k h (fun e=>hk.2 e.symm)⟩
  have hset:∀ k,(offs lo ps k∧v.ownBlock≠some k)→k<W.heap.size→(offs lo ps k∧(Value.slice (some ⟨g,0,none⟩) (xs.length+1) cap).ownBlock≠some k):=fun k hk h=>⟨hk.1,fun e=>by
   have e2:g=k:=by cases e;rfl
   rcases hgg with h2|h2
   ·exact hk.2 (by rw[h2,e2])
   ·omega⟩
  refine hK _ _ _ w9 rfl ⟨⟨cs++[v0,v1,v2,v3,v4],?_,?_⟩,fun b e=>?_⟩ hgrow
  ·rw[List.length_append];exact hown9
  ·exact flatIn.app (ys:=[z]) (show flatIn _ _ [z] [v0,v1,v2,v3,v4] from ⟨v0,v1,v2,v3,v4,[],rfl,synIn.keep hkept hset z _ hz,rfl⟩) xs cs (flatIn.keep hkept hset xs cs hflat)
  ·cases e
   refine⟨?_,hg9⟩
   rcases hgg with h2|h2
   ·exact(hown2 g h2).1
   ·rw[h2];exact⟨hbase,fun hm=>absurd (hps _ hm) (Nat.lt_irrefl _)⟩
theorem growP.box {p:Nat} {w9:World} {v0 v1 v2 v3 v4:Value} (h:growP lo ps W xs v) (hp:p∈ps) (hg:W.grownBy w9 v.ownBlock) (hb:Bx5 W p v0 v1 v2 v3 v4):Bx5 w9 p v0 v1 v2 v3 v4:=by
 have hne:some p≠v.ownBlock:=fun e=>(h.2 p e.symm).1.2 hp
 obtain⟨c0,c1,c2,c3,c4,hf,hl⟩:=hb
 exact⟨(hg.cell_far ⟨p,0,none⟩ hl hne).trans c0,(hg.cell_far ⟨p,1,none⟩ hl hne).trans c1,(hg.cell_far ⟨p,2,none⟩ hl hne).trans c2,(hg.cell_far ⟨p,3,none⟩ hl hne).trans c3,(hg.cell_far ⟨p,4,none⟩ hl hne).trans c4,fun j=>(hg.frozen_far ⟨p,j,none⟩ hl hne).trans (hf j),Nat.lt_of_lt_of_le hl hg.size⟩
theorem growP.below {w w9:World} (h:growP w.heap.size ps W xs v) (hw:w.heap.size≤W.heap.size) (hg:W.grownBy w9 v.ownBlock):Below w.heap.size W w9:=
 ⟨hg.os,hg.tape,hg.output,hg.size,fun k hk=>hg.block k (by omega) (fun e=>by have:=(h.2 k e.symm).1.1;omega)⟩
end
theorem jhp {P:Program} {ops:Array Oper} {Q:Exit→Act→World→Prop} {md:Region.Mode} {S:World→Prop} {hot:Nat→Bool} {i j:Nat} {oi oj:Oper} {k:Nat} {listed:Array Bool} {a:Act} {w:World} (hi:ops[i]? = some oi) (hj:ops[j]? = some oj) (hr:Region.ready md ops listed=[i,j])
  (h1:∀ K:Act→World→Prop,Hid (∀ a' w',(jcw hot (listed.setIfInBounds i true)=true→S w')→jb7 P md ops Q S hot k (listed.setIfInBounds i true) a' w'→K a' w') →
   if Region.wanted oi (yielded ops a.tmps)=true then Oper.wp P oi a w K Q else K (a.put oi.dst undef) w)
  (h2:∀ K:Act→World→Prop,Hid (∀ a' w',(jcw hot (listed.setIfInBounds j true)=true→S w')→jb7 P md ops Q S hot k (listed.setIfInBounds j true) a' w'→K a' w') →
   if Region.wanted oj (yielded ops a.tmps)=true then Oper.wp P oj a w K Q else K (a.put oj.dst undef) w):jb7 P md ops Q S hot (k+1) listed a w:=by
 have g1:=h1 (fun a' w'=>(jcw hot (listed.setIfInBounds i true)=true→S w')∧jb7 P md ops Q S hot k (listed.setIfInBounds i true) a' w') (jD fun a' w' h1 h2=>⟨h1,h2⟩)
 have g2:=h2 (fun a' w'=>(jcw hot (listed.setIfInBounds j true)=true→S w')∧jb7 P md ops Q S hot k (listed.setIfInBounds j true) a' w') (jD fun a' w' h1 h2=>⟨h1,h2⟩)
 refine⟨fun h0=>(by rw[hr] at h0;cases h0),fun n hn=>?_⟩
 rw[hr] at hn
 have go:∀ (n:Nat) (o:Oper),ops[n]? = some o→(if Region.wanted o (yielded ops a.tmps)=true then Oper.wp P o a w (fun a' w'=>(jcw hot (listed.setIfInBounds n true)=true→S w')∧jb7 P md ops Q S hot k (listed.setIfInBounds n true) a' w') Q else ((jcw hot (listed.setIfInBounds n true)=true→S w)∧jb7 P md ops Q S hot k (listed.setIfInBounds n true) (a.put o.dst undef) w))→wpOp P ops Q n (fun a' w'=>(jcw hot (listed.setIfInBounds n true)=true→S w')∧jb7 P md ops Q S hot k (listed.setIfInBounds n true) a' w') a w:=fun n o ho g=>by
  unfold wpOp
  simp only[ho]
  split
  ·rename_i hw;rw[if_pos hw] at g;exact .inl g
  ·rename_i hw;rw[if_neg hw] at g;exact g
 rcases List.mem_cons.mp hn with e|hn
 ·subst e;exact go _ _ hi g1
 ·obtain rfl:=List.mem_singleton.1 hn
  exact go _ _ hj g2
section
variable {lo X:Nat} {ps:List Nat} {W:World} {xs:List Syn} {x:Syn} {v:Value}
theorem offs.ext {b:Nat} (h:offs lo ps b) (hX:W.heap.size≤X) (hb:b<W.heap.size):offs lo (ps++[X]) b:=⟨h.1,fun hm=>by
 rcases List.mem_append.mp hm with g|g
 ·exact h.2 g
 ·have:=List.mem_singleton.mp g;omega⟩
theorem synIn.ext (h:synIn (offs lo ps) W x v) (hX:W.heap.size≤X):synIn (offs lo (ps++[X])) W x v:=synIn.keep ⟨jrr _,fun _ _ _=>rfl⟩ (fun k hk hb=>hk.ext hX hb) x v h
theorem growP.ext (h:growP lo ps W xs v) (hX:W.heap.size≤X):growP lo (ps++[X]) W xs v:=by
 obtain⟨⟨cs,h1,h3⟩,h4⟩:=h
 exact⟨⟨cs,h1,flatIn.keep ⟨jrr _,fun _ _ _=>rfl⟩ (fun k hk hb=>⟨hk.1.ext hX hb,hk.2⟩) _ _ h3⟩,fun b e=>⟨(h4 b e).1.ext hX (h4 b e).2,(h4 b e).2⟩⟩
end
end Go.Proofs.YtenmmmdnpglkoaaGreatDoor
