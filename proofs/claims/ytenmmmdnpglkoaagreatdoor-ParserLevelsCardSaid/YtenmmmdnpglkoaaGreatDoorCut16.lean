import Derived.Deep.RegionHeld3
import Derived.Test.YtenmmmdnpglkoaaGreatDoorCut15
set_option linter.unusedSimpArgs false
set_option linter.unusedVariables false
set_option maxRecDepth 100000
set_option maxHeartbeats 8000000
/-
 parser: loop.
-/
namespace Go.Proofs.YtenmmmdnpglkoaaGreatDoor
open Go Go.Proofs Go.RowKit Go.Sort
theorem Bx3.kept {p q:Nat} {W W':World} {v0 v1 v2:Value} (h:Bx3 W p v0 v1 v2) (hp:p≠q) (hb:Kept (·≠q) W W'):Bx3 W' p v0 v1 v2:=by
 obtain⟨c0,c1,c2,hf,hl⟩:=h
 exact⟨(hb.cell (p:=⟨p,0,none⟩) hp hl).trans c0,(hb.cell (p:=⟨p,1,none⟩) hp hl).trans c1,(hb.cell (p:=⟨p,2,none⟩) hp hl).trans c2,fun j=>(by simp only[World.frozen?,hb.block p hp hl]:W'.frozen? ⟨p,j,none⟩=W.frozen? ⟨p,j,none⟩).trans (hf j),Nat.lt_of_lt_of_le hl hb.size⟩
theorem jm7 {R:Nat} {L:List Tk} {d:Nat} {st:RSt} {w:World} (h:At R L w d st) (hv:tIs L st ⟨#[119,104,105,108,101]⟩=true) (KX:GT 31 R L #[.pointer (some ⟨R,0,none⟩)] (.lvl 0) d (jaq st)) (KB:∀ s:RSt,s.rem≤(jaq st).rem→GT 137 R L #[.pointer (some ⟨R,0,none⟩)] .block d s) :
  Calls Tryz.prog 104 #[.pointer (some ⟨R,0,none⟩)] w (PS R L (fun x st'=>Run (jba d) st [x] st') d w):=by
 have hfi:=h.fine
 have CE:=fun W (H:At R L W d st)=>jaE H ⟨#[119,104,105,108,101]⟩
 rw[hv,jci] at CE
 have e:jad true st=jaq st:=by cases st<;>rfl
 rw[e] at CE
 have HM:=jD (fun x y s1 s2=>jh4 (L:=L) (d:=d) (x:=x) (y:=y) (s1:=s1) (s2:=s2) hfi)
 generalize cur L st=T at *
 obtain⟨ek,et,ea⟩:=T
 unfold tkA at *
 dsimp only at *
 have KE:=jD CE;have KC:=jD KX;have KK:=jD KB
 have HA0:=jD h
 have HLT:=jD h.fix.lt;have HRW:=jD h.fix.lt
 have A0:=jD (h.alloc jZ);obtain⟨B0,XR0,HPR,HLS⟩:=jS h.fix.lt
 clear h CE KX KB hfi e hv
 go_enter Tryz.func104,Tryz.ntmps104
 go_wp2_with (go_at_call 35;refine jR (KE.out _ A0.out) B0 XR0 HPR fun w1 A1 B1 XR1=>?_)
 refine jD ?_
 have A1a:=jD (A1.out.alloc (jU ek et ea));have B1a:=jD (B1.out.alloc HRW.out (jU ek et ea))
 have XR1a:=jD (XR1.out.alloc (jU ek et ea))
 have PTT:=nR A1.out.fix.lt
 have TT1a:=jD (Bx3.new w1 (.int .i64 ek) (.string et) (.int .i64 ea))
 go_wp2_with (go_at_call 31;refine cM (KC.out _ A1a.out) ?_;rintro e w2 ⟨x2,v2,s2,rfl,hx2,hs2,ha2,hb2⟩)
 obtain⟨k2,a2,t2,n2,o2,l2,c2,q2,rfl,rfl,hk2⟩:=hx2.shape
 have HS2:=jD hs2
 have TR2:=tA hx2 B1a.out.size XR1a.out.lt
 have A2:=jD ha2;have B2:=jtt B1a hb2
 have XR2:=jbb XR1a HPR hb2
 have TT2:=jD (TT1a.out.butt PTT.out hb2)
 clear ha2 hb2 hx2 hk2 hs2
 refine jD ?_
 have KQ:=jD (fun W (H:At R L W d s2)=>KK.out s2 (Run.rem HS2.out) W H)
 have A2a1:=jD (A2.out.alloc (jO k2 a2 t2 n2 o2 l2 c2));have B2a1:=jD (B2.out.alloc HRW.out (jO k2 a2 t2 n2 o2 l2 c2))
 have XR2a1:=jD (XR2.out.alloc (jO k2 a2 t2 n2 o2 l2 c2))
 have TT2a1:=jD (TT2.out.alloc (jO k2 a2 t2 n2 o2 l2 c2))
 have TR22a1:=jww TR2 HLT A2.out.fix.lt (jO k2 a2 t2 n2 o2 l2 c2)
 have PXC:=nR A2.out.fix.lt
 have XC2a1:=jD (Bx5.new w2 (.int .i64 k2) (.int .i64 a2) (.string t2) (.int .i64 n2) (.slice o2 l2 c2))
 have HTP:Hid (w1.heap.size≠w.heap.size):=jD (fun e=>by have:=XR1.out.lt;omega)
 have HCP:Hid (w2.heap.size≠w.heap.size):=jD (fun e=>by have:=XR2.out.lt;omega)
 go_wp2_with fail
 generalize w2.alloc (jO k2 a2 t2 n2 o2 l2 c2)=WA at *
 have AD:=jD (A2a1.out.below (Below.refl _ _).drew);have BD:=jD (B2a1.out.drew)
 have XRD:=jD (XR2a1.out.below (Below.refl _ _).drew)
 have TTD:=jD (TT2a1.out.below (Below.refl _ _).drew)
 have XCD:=jD (XC2a1.out.below (Below.refl _ _).drew)
 have TR2D:=jD (TR22a1.out.butt HLT.out (Butt.refl R WA).drew)
 have HLW:Hid (w.heap.size≤WA.heap.size):=jD (Nat.le_trans (jrr _) B2a1.out.size)
 obtain⟨yTT0,yTT1,yTT2,-,-⟩:=TT2a1.out
 obtain⟨yXC0,yXC1,yXC2,yXC3,yXC4,-,-⟩:=XC2a1.out
 have SD:jQc (WA.drew) (w1.heap.size) (.int .i64 ek) (.string et) (.int .i64 ea) (jP (WA.drew) (w2.heap.size) (.int .i64 k2) (.int .i64 a2) (.string t2) (.int .i64 n2) (.slice o2 l2 c2)):=⟨TTD.out.c0,TTD.out.c1,TTD.out.c2,XCD.out.c0,XCD.out.c1,XCD.out.c2,XCD.out.c3,XCD.out.c4⟩
 go_region_held3 (fun w'=>jQc w' (w1.heap.size) (.int .i64 ek) (.string et) (.int .i64 ea) (jP w' (w2.heap.size) (.int .i64 k2) (.int .i64 a2) (.string t2) (.int .i64 n2) (.slice o2 l2 c2))) (first|(with_reducible exact SD)|(with_reducible exact SA)|(with_reducible exact SB)|(with_reducible exact SC)|(with_reducible exact SE)|fail) (first|(go_at_call 137;(with_reducible first|refine(KQ.out _ A2a1.out).mono ?_|refine(KQ.out _ AD.out).mono ?_);rintro e w3 ⟨x3,v3,s3,rfl,hx3,hs3,ha3,hb3⟩;obtain⟨k3,a3,t3,n3,o3,l3,c3,q3,rfl,rfl,hk3⟩:=hx3.shape;have HS3:=jD hs3;have A3:=jD ha3;have B3:=jD ((by with_reducible first|exact B2a1.out.trans hb3|exact BD.out.trans hb3):Butt R w w3);have TR3:=jD ((by first|exact synIn.of (ps:=[w.heap.size]) hx3 HLW.out (fun p hp=>by simp only[List.mem_cons,List.not_mem_nil,or_false] at hp;have g0:=XR2a1.out.lt;omega)|exact synIn.of (ps:=[w.heap.size]) (show synAt WA.heap.size w3 _ _ from hx3) HLW.out (fun p hp=>by simp only[List.mem_cons,List.not_mem_nil,or_false] at hp;have g0:=XR2a1.out.lt;omega)):synIn (offs w.heap.size [w.heap.size]) w3 (.mk k3 a3 t3 n3 q3) (.agg #[.int .i64 k3,.int .i64 a3,.string t3,.int .i64 n3,.slice o3 l3 c3]));have XR3:=jD ((by with_reducible first|exact XR2a1.out.butt HPR.out hb3|exact XRD.out.butt HPR.out hb3):Bx5 w3 w.heap.size (.int .i64 0) (.int .i64 0) (.string ⟨#[]⟩) (.int .i64 0) (.slice none 0 0));have TT3:=jD ((by with_reducible first|exact TT2a1.out.butt PTT.out hb3|exact TTD.out.butt PTT.out hb3):Bx3 w3 (w1.heap.size) (.int .i64 ek) (.string et) (.int .i64 ea));have XC3:=jD ((by with_reducible first|exact XC2a1.out.butt PXC.out hb3|exact XCD.out.butt PXC.out hb3):Bx5 w3 (w2.heap.size) (.int .i64 k2) (.int .i64 a2) (.string t2) (.int .i64 n2) (.slice o2 l2 c2));have TR23:=jD ((by with_reducible first|exact TR22a1.out.butt HLT.out hb3|exact TR2D.out.butt HLT.out hb3):synIn (offs w.heap.size [w.heap.size]) w3 (.mk k2 a2 t2 n2 q2) (.agg #[.int .i64 k2,.int .i64 a2,.string t2,.int .i64 n2,.slice o2 l2 c2]));have uTT0:=TT3.out.c0;have uTT1:=TT3.out.c1;have uTT2:=TT3.out.c2;have lTT:=TT3.out.lt;have mTT:=Nat.ne_of_lt lTT;have uXC0:=XC3.out.c0;have uXC1:=XC3.out.c1;have uXC2:=XC3.out.c2;have uXC3:=XC3.out.c3;have uXC4:=XC3.out.c4;have lXC:=XC3.out.lt;have mXC:=Nat.ne_of_lt lXC;have SA:jQc w3 (w1.heap.size) (.int .i64 ek) (.string et) (.int .i64 ea) (jP w3 (w2.heap.size) (.int .i64 k2) (.int .i64 a2) (.string t2) (.int .i64 n2) (.slice o2 l2 c2)):=⟨TT3.out.c0,TT3.out.c1,TT3.out.c2,XC3.out.c0,XC3.out.c1,XC3.out.c2,XC3.out.c3,XC3.out.c4⟩;have SB:jQc (w3.alloc (oD k2 a2 t2 n2 o2 l2 c2 k3 a3 t3 n3 o3 l3 c3)) (w1.heap.size) (.int .i64 ek) (.string et) (.int .i64 ea) (jP (w3.alloc (oD k2 a2 t2 n2 o2 l2 c2 k3 a3 t3 n3 o3 l3 c3)) (w2.heap.size) (.int .i64 k2) (.int .i64 a2) (.string t2) (.int .i64 n2) (.slice o2 l2 c2)):=⟨(TT3.out.alloc (oD k2 a2 t2 n2 o2 l2 c2 k3 a3 t3 n3 o3 l3 c3)).c0,(TT3.out.alloc (oD k2 a2 t2 n2 o2 l2 c2 k3 a3 t3 n3 o3 l3 c3)).c1,(TT3.out.alloc (oD k2 a2 t2 n2 o2 l2 c2 k3 a3 t3 n3 o3 l3 c3)).c2,(XC3.out.alloc (oD k2 a2 t2 n2 o2 l2 c2 k3 a3 t3 n3 o3 l3 c3)).c0,(XC3.out.alloc (oD k2 a2 t2 n2 o2 l2 c2 k3 a3 t3 n3 o3 l3 c3)).c1,(XC3.out.alloc (oD k2 a2 t2 n2 o2 l2 c2 k3 a3 t3 n3 o3 l3 c3)).c2,(XC3.out.alloc (oD k2 a2 t2 n2 o2 l2 c2 k3 a3 t3 n3 o3 l3 c3)).c3,(XC3.out.alloc (oD k2 a2 t2 n2 o2 l2 c2 k3 a3 t3 n3 o3 l3 c3)).c4⟩;clear ha3 hb3 hx3 hk3 hs3)|(go_at_call 40;refine(jau _ _ _ _ _ _ _).mono ?_;rintro e w4 ⟨rfl,hb4⟩;have HBR:=jD hb4;have hbx:Below w3.heap.size w3 w4:=Below.chain (jN _) hb4;have HBX:=jD hbx;obtain⟨g0,g1,g2,g3,g4,gf,gl⟩:=XR3.out.below hbx;have gf0:=gf 0;have gf1:=gf 1;have gf2:=gf 2;have gf3:=gf 3;have gf4:=gf 4;have SC:jQc w4 (w1.heap.size) (.int .i64 ek) (.string et) (.int .i64 ea) (jP w4 (w2.heap.size) (.int .i64 k2) (.int .i64 a2) (.string t2) (.int .i64 n2) (.slice o2 l2 c2)):=⟨(TT3.out.below HBX.out).c0,(TT3.out.below HBX.out).c1,(TT3.out.below HBX.out).c2,(XC3.out.below HBX.out).c0,(XC3.out.below HBX.out).c1,(XC3.out.below HBX.out).c2,(XC3.out.below HBX.out).c3,(XC3.out.below HBX.out).c4⟩;have FT:=jD (ja4 HA0.out (B3.out.trans (Butt.of_below A3.out.fix.lt HBX.out)) (A3.out.below HBX.out) (XR3.out.below HBX.out) (jrr _) (.int .i64 12) (.int .i64 ea) (.string ⟨#[]⟩) (.int .i64 0) (.slice (some ⟨w3.heap.size,0,none⟩) 2 2) _ rfl);have ZTT:=(TT3.out.below HBX.out).kept HTP.out FT.out.2.2.2;have ZXC:=(XC3.out.below HBX.out).kept HCP.out FT.out.2.2.2;have SE:jQc (((((w4.setCell ⟨w.heap.size,0,none⟩ (.int .i64 12)).setCell ⟨w.heap.size,1,none⟩ (.int .i64 ea)).setCell ⟨w.heap.size,2,none⟩ (.string ⟨#[]⟩)).setCell ⟨w.heap.size,3,none⟩ (.int .i64 0)).setCell ⟨w.heap.size,4,none⟩ (.slice (some ⟨w3.heap.size,0,none⟩) 2 2)) (w1.heap.size) (.int .i64 ek) (.string et) (.int .i64 ea) (jP (((((w4.setCell ⟨w.heap.size,0,none⟩ (.int .i64 12)).setCell ⟨w.heap.size,1,none⟩ (.int .i64 ea)).setCell ⟨w.heap.size,2,none⟩ (.string ⟨#[]⟩)).setCell ⟨w.heap.size,3,none⟩ (.int .i64 0)).setCell ⟨w.heap.size,4,none⟩ (.slice (some ⟨w3.heap.size,0,none⟩) 2 2)) (w2.heap.size) (.int .i64 k2) (.int .i64 a2) (.string t2) (.int .i64 n2) (.slice o2 l2 c2)):=⟨ZTT.c0,ZTT.c1,ZTT.c2,ZXC.c0,ZXC.c1,ZXC.c2,ZXC.c3,ZXC.c4⟩;clear ZTT;clear ZXC;clear gf gl hbx hb4))
 have hAw:offs w.heap.size [w.heap.size] w3.heap.size:=⟨Nat.le_trans (jrr _) B3.out.size,fun hp=>by simp only[List.mem_cons,List.not_mem_nil,or_false] at hp;have g0:=XR3.out.lt;omega⟩
 have KI:=jD (jaw (flatIn.cons (TR23.out) (flatIn.one (TR3.out))) (by simp) hAw 2 rfl);clear hAw
 have TN:=jD (jac.mpr ⟨_,rfl,KI.out.below HBR.out⟩:synIn (offs w.heap.size [w.heap.size]) w4 (.mk 12 ea ⟨#[]⟩ 0 [(.mk k2 a2 t2 n2 q2),(.mk k3 a3 t3 n3 q3)]) _)
 have AN:=jD (A3.out.below HBX.out);have BN:=jD (B3.out.trans (Butt.of_below A3.out.fix.lt HBX.out));have XN:=jD (XR3.out.below HBX.out)
 have GX:=jD ((TN.out).kept (by simp) FT.out.2.2.2).at
 obtain⟨r0,r1,r2,r3,r4⟩:=FT.out.1
 have GA:=jD FT.out.2.1;have GB:=jD FT.out.2.2.1
 clear FT g0 g1 g2 g3 g4 gf0 gf1 gf2 gf3 gf4
 go_wp2
 refine bodyPost_ret (by simp[results,Tryz.results104,go_sem,r0,r1,r2,r3,r4];rfl) rfl ?_
 exact⟨_,_,_,rfl,GX.out,HM.out _ _ _ _ HS2.out HS3.out,GA.out,GB.out⟩
theorem jiL {L:List Tk} {st s1 s2 s3:RSt} {t:Tk} {n:Int} (hf:st.fine) (h1:Run jbd (jaq st) t s1) (h2:Run mNum (jad (tIs L s1 ⟨#[91]⟩) s1) n s2) (h3:s3=jad (tIs L s2 ⟨#[93]⟩) s2) :
  Run jaD st (.mk 8 (cur L st).a t.t n []) (jad (tIs L s3 ⟨#[59]⟩) s3):=by
 subst h3
 have f0:=RSt.takeS_fine hf
 have f1:=Run.fine h1 f0
 have f2:=jah (can:=tIs L s1 ⟨#[91]⟩) f1
 have f3:=Run.fine h2 f2
 have f4:=jah (can:=tIs L s2 ⟨#[93]⟩) f3
 exact Run.bind (jaS (L:=L) hf) (Run.bind h1 (Run.bind (jaI (L:=L) f1 [91]) (Run.bind h2 (Run.bind (jaI (L:=L) f3 [93]) (Run.bind (jaI (L:=L) f4 [59]) (ja1 (jah f4)))))))
theorem Bx5.setNum {W:World} {p:Nat} {v0 v1 v2 v3 v4:Value} (h:Bx5 W p v0 v1 v2 v3 v4) (z:Value):Bx5 (W.setCell ⟨p,3,none⟩ z) p v0 v1 v2 z v4:=by
 obtain⟨c0,c1,c2,c3,c4,hf,hl⟩:=h
 have o:∀ j:Nat,j≠3→(W.setCell ⟨p,3,none⟩ z).cell? ⟨p,j,none⟩=W.cell? ⟨p,j,none⟩:=fun j hj=>World.cell?_setCell_other W ⟨p,3,none⟩ ⟨p,j,none⟩ z (fun e=>hj (by cases e;rfl))
 exact⟨(o 0 (by decide)).trans c0,(o 1 (by decide)).trans c1,(o 2 (by decide)).trans c2,jbJ c3 z,(o 4 (by decide)).trans c4,fun j=>(World.frozen?_setCell _ _ _ _).trans (hf j),by simpa using hl⟩
theorem At.setNum {R:Nat} {L:List Tk} {d0 d q i:Nat} {st0 st:RSt} {w W:World} (h0:At R L w d0 st0) (hb:Butt R w W) (ha:At R L W d st) (hq:w.heap.size≤q) (z:Value) :
  At R L (W.setCell ⟨q,i,none⟩ z) d st∧Butt R w (W.setCell ⟨q,i,none⟩ z)∧Kept (·≠q) W (W.setCell ⟨q,i,none⟩ z):=by
 have hR:=h0.fix.lt
 have hbt:=Butt.setNew hR hb ⟨q,i,none⟩ hq z
 obtain⟨hf0,nx0,a0,er0,h01,h02,h03⟩:=h0
 obtain⟨hf,nx,a,er,h1,h2,h3⟩:=ha
 have nb:∀ j:Nat,(⟨q,i,none⟩:Addr)≠⟨R,j,none⟩:=fun j e=>by
  have:q=R:=by cases e;rfl
  omega
 have o:∀ j:Nat,(W.setCell ⟨q,i,none⟩ z).cell? ⟨R,j,none⟩=W.cell? ⟨R,j,none⟩:=fun j=>World.cell?_setCell_other W ⟨q,i,none⟩ ⟨R,j,none⟩ z (nb j)
 exact⟨⟨hf0.butt hbt,nx,a,er,h1,h02.later hbt ((o 1).trans h2.c1) ((o 2).trans h2.c2) ((o 3).trans h2.c3) ((o 4).trans h2.c4) (fun j=>(World.frozen?_setCell _ _ _ _).trans (h2.free j)),h3⟩,hbt,(Kept.refl _ W).setCell ⟨q,i,none⟩ (fun h=>h rfl) z⟩
theorem jlT {R:Nat} {L:List Tk} {d:Nat} {st:RSt} {w:World} (h:At R L w d st) (hN:NumL L) (hv:tIs L st ⟨#[97,114,114,97,121]⟩=true) :
  Calls Tryz.prog 141 #[.pointer (some ⟨R,0,none⟩)] w (PS R L (fun x st'=>Run jaD st x st') d w):=by
 have hfi:=h.fine
 have CE:=fun W (H:At R L W d st)=>jaE H ⟨#[97,114,114,97,121]⟩
 rw[hv,jci] at CE
 have e:jad true st=jaq st:=by cases st<;>rfl
 rw[e] at CE
 have hf:=jaG
 have hnm:=jda (L:=L) (RSt.takeS_fine hfi)
 have CN:=fun W (H:At R L W d (jaq st))=>jiT H
 have HM:=jD (fun s1 s2 s3 t n=>jiL (L:=L) (s1:=s1) (s2:=s2) (s3:=s3) (t:=t) (n:=n) hfi)
 generalize jad (isN (cur L (jaq st))) (jaq st)=s1 at *
 generalize tokM L (jaq st) (isN (cur L (jaq st)))=U at *
 generalize cur L st=T at *
 obtain⟨ek,et,ea⟩:=T
 obtain⟨uk,ut,ua⟩:=U
 unfold tkA at *
 dsimp only at *
 have KE:=jD CE;have KN:=jD CN;have HNM:=jD hnm;have HNL:=jD hN
 have HA0:=jD h
 have HLT:=jD h.fix.lt;have HRW:=jD h.fix.lt
 have A0:=jD (h.alloc jZ);obtain⟨B0,XR0,HPR,HLS⟩:=jS h.fix.lt
 clear h CE CN hfi e hv hnm hN
 go_enter Tryz.func141,Tryz.ntmps141
 go_wp2_with (go_at_call 35;refine jR (KE.out _ A0.out) B0 XR0 HPR fun w1 A1 B1 XR1=>?_)
 refine jD ?_
 have A1a:=jD (A1.out.alloc (jU ek et ea));have B1a:=jD (B1.out.alloc HRW.out (jU ek et ea))
 have XR1a:=jD (XR1.out.alloc (jU ek et ea))
 have PTT:=nR A1.out.fix.lt
 have TT1a:=jD (Bx3.new w1 (.int .i64 ek) (.string et) (.int .i64 ea))
 go_wp2_with fail
 generalize w1.alloc (jU ek et ea)=WA at *
 have AD:=jD (A1a.out.below (Below.refl _ _).drew);have BD:=jD (B1a.out.drew)
 have TD:=jD (TT1a.out.below (Below.refl _ _).drew);have XD:=jD (XR1a.out.below (Below.refl _ _).drew)
 have AE:=jD ((A1a.out.alloc jZ).below (Below.refl _ _).drew);have BE:=jD ((B1a.out.alloc HRW.out jZ).drew)
 have TE:=jD ((TT1a.out.alloc jZ).below (Below.refl _ _).drew);have XE:=jD ((XR1a.out.alloc jZ).below (Below.refl _ _).drew)
 have QE:=jD ((Bx5.new WA (.int .i64 0) (.int .i64 0) (.string ⟨#[]⟩) (.int .i64 0) (.slice none 0 0)).below (Below.refl _ _).drew)
 have HQE:Hid (w.heap.size≤WA.heap.size):=jD B1a.out.size
 have PQE:=nR A1a.out.fix.lt
 have SD:jQ WA.drew w1.heap.size (Value.int .i64 ek) (Value.string et) (Value.int .i64 ea):=⟨TD.out.c0,TD.out.c1,TD.out.c2⟩
 have SE:jQ (WA.alloc jZ).drew w1.heap.size (Value.int .i64 ek) (Value.string et) (Value.int .i64 ea):=⟨TE.out.c0,TE.out.c1,TE.out.c2⟩
 go_region_held3 (fun w'=>jQ w' w1.heap.size (Value.int .i64 ek) (Value.string et) (Value.int .i64 ea)) (first|(with_reducible exact SD)|(with_reducible exact SE)|(with_reducible exact S2)|(with_reducible exact S2a)|(with_reducible exact S3)|(with_reducible exact S3a)|(with_reducible exact S8)|fail) (first|(go_at_call 73;(with_reducible refine(KN.out _ AD.out).mono ?_);rintro e w2 ⟨rfl,ha2,hb2⟩;have BZ:=BD;have TZ:=TD;have XZ:=XD;have A2:=jD ha2;have B2:=jtt BZ hb2;have T2:=jD (TZ.out.butt PTT.out hb2);have X2:=jD (XZ.out.butt HPR.out hb2);have S2:jQ w2 w1.heap.size (Value.int .i64 ek) (Value.string et) (Value.int .i64 ea):=⟨T2.out.c0,T2.out.c1,T2.out.c2⟩;have S2a:jQ (w2.alloc jZ) w1.heap.size (Value.int .i64 ek) (Value.string et) (Value.int .i64 ea):=⟨(T2.out.alloc jZ).c0,(T2.out.alloc jZ).c1,(T2.out.alloc jZ).c2⟩;have HQ2:Hid (w.heap.size≤w2.heap.size):=jD B2.out.size;have PQ2:=nR A2.out.fix.lt;clear ha2 hb2 BZ TZ XZ)|(go_at_call 73;(with_reducible refine(KN.out _ AE.out).mono ?_);rintro e w2 ⟨rfl,ha2,hb2⟩;have BZ:=BE;have TZ:=TE;have XZ:=XE;have Q2:=jD (QE.out.butt PQE.out hb2);have A2:=jD ha2;have B2:=jtt BZ hb2;have T2:=jD (TZ.out.butt PTT.out hb2);have X2:=jD (XZ.out.butt HPR.out hb2);have S2:jQ w2 w1.heap.size (Value.int .i64 ek) (Value.string et) (Value.int .i64 ea):=⟨T2.out.c0,T2.out.c1,T2.out.c2⟩;have S2a:jQ (w2.alloc jZ) w1.heap.size (Value.int .i64 ek) (Value.string et) (Value.int .i64 ea):=⟨(T2.out.alloc jZ).c0,(T2.out.alloc jZ).c1,(T2.out.alloc jZ).c2⟩;have HQ2:Hid (w.heap.size≤w2.heap.size):=jD B2.out.size;have PQ2:=nR A2.out.fix.lt;clear ha2 hb2 BZ TZ XZ)|(go_at_call 40;(with_reducible refine(jau _ _ _ _ _ _ _).mono ?_);rintro e w3 ⟨rfl,hb3⟩;have qq:=Q2.out;have hbx:Below w2.heap.size w2 w3:=hb3;obtain⟨g0,g1,g2,g3,g4,gf,gl⟩:=Q2.out.below hbx;have gf0:=gf 0;have gf1:=gf 1;have gf2:=gf 2;have gf3:=gf 3;have gf4:=gf 4;clear gf gl;have FT:=jD (ja4 HA0.out (B2.out.trans (Butt.of_below A2.out.fix.lt hbx)) (A2.out.below hbx) (Q2.out.below hbx) HQE.out (.int .i64 8) (.int .i64 ea) (.string ut) (.int .i64 0) (.slice none 0 0) _ rfl);have A8:=jD FT.out.2.1;have B8:=jD FT.out.2.2.1;have Q8:=jD FT.out.1;have X8:=jD ((X2.out.below hbx).kept (fun e=>by have:=XD.out.lt;have h9:w.heap.size<WA.heap.size:=XD.out.lt;omega) FT.out.2.2.2);have T8:=jD ((T2.out.below hbx).kept (fun e=>by have:=T2.out.lt;have:=TD.out.lt;first|omega|(have h9:w1.heap.size<WA.heap.size:=TD.out.lt;omega)) FT.out.2.2.2);have S8:jQ (((((w3.setCell ⟨WA.heap.size,0,none⟩ (.int .i64 8)).setCell ⟨WA.heap.size,1,none⟩ (.int .i64 ea)).setCell ⟨WA.heap.size,2,none⟩ (.string ut)).setCell ⟨WA.heap.size,3,none⟩ (.int .i64 0)).setCell ⟨WA.heap.size,4,none⟩ (.slice none 0 0)) w1.heap.size (Value.int .i64 ek) (Value.string et) (Value.int .i64 ea):=⟨T8.out.c0,T8.out.c1,T8.out.c2⟩;have N8:Hid (WA.heap.size≠w.heap.size):=jD (Ne.symm (fun e=>by have:=XD.out.lt;have h9:w.heap.size<WA.heap.size:=XD.out.lt;omega));have H8:=jD HQE.out;clear FT;have S3:jQ w3 w1.heap.size (Value.int .i64 ek) (Value.string et) (Value.int .i64 ea):=⟨(T2.out.below hbx).c0,(T2.out.below hbx).c1,(T2.out.below hbx).c2⟩;clear hbx hb3 qq)|(go_at_call 40;(with_reducible refine(jau _ _ _ _ _ _ _).mono ?_);rintro e w3 ⟨rfl,hb3⟩;have hbx:Below (w2.alloc jZ).heap.size (w2.alloc jZ) w3:=hb3;have Q3:=jD ((Bx5.new w2 (.int .i64 0) (.int .i64 0) (.string ⟨#[]⟩) (.int .i64 0) (.slice none 0 0)).below hbx);obtain⟨g0,g1,g2,g3,g4,gf,gl⟩:=Q3.out;have gf0:=gf 0;have gf1:=gf 1;have gf2:=gf 2;have gf3:=gf 3;have gf4:=gf 4;clear gf gl;have FT:=jD (ja4 HA0.out ((B2.out.alloc HRW.out jZ).trans (Butt.of_below (A2.out.alloc jZ).fix.lt hbx)) ((A2.out.alloc jZ).below hbx) Q3.out HQ2.out (.int .i64 8) (.int .i64 ea) (.string ut) (.int .i64 0) (.slice none 0 0) _ rfl);have A8:=jD FT.out.2.1;have B8:=jD FT.out.2.2.1;have Q8:=jD FT.out.1;have X8:=jD (((X2.out.alloc jZ).below hbx).kept (fun e=>by have:=X2.out.lt;omega) FT.out.2.2.2);have T8:=jD (((T2.out.alloc jZ).below hbx).kept (fun e=>by have:=T2.out.lt;have:=TD.out.lt;first|omega|(have h9:w1.heap.size<WA.heap.size:=TD.out.lt;omega)) FT.out.2.2.2);have S8:jQ (((((w3.setCell ⟨w2.heap.size,0,none⟩ (.int .i64 8)).setCell ⟨w2.heap.size,1,none⟩ (.int .i64 ea)).setCell ⟨w2.heap.size,2,none⟩ (.string ut)).setCell ⟨w2.heap.size,3,none⟩ (.int .i64 0)).setCell ⟨w2.heap.size,4,none⟩ (.slice none 0 0)) w1.heap.size (Value.int .i64 ek) (Value.string et) (Value.int .i64 ea):=⟨T8.out.c0,T8.out.c1,T8.out.c2⟩;have N8:Hid (w2.heap.size≠w.heap.size):=jD (Ne.symm (fun e=>by have:=X2.out.lt;omega));have H8:=jD HQ2.out;clear FT;have S3:jQ w3 w1.heap.size (Value.int .i64 ek) (Value.string et) (Value.int .i64 ea):=⟨((T2.out.alloc jZ).below hbx).c0,((T2.out.alloc jZ).below hbx).c1,((T2.out.alloc jZ).below hbx).c2⟩;clear hbx hb3)|(go_at_call 40;(with_reducible refine(jau _ _ _ _ _ _ _).mono ?_);rintro e w3 ⟨rfl,hb3⟩;have hbx:Below w2.heap.size w2 w3:=hb3;have HQ3:Hid (w.heap.size≤w3.heap.size):=jD (Nat.le_trans HQ2.out hbx.size);have X3:=jD (X2.out.below hbx);have A8:=jD ((A2.out.below hbx).alloc (jO 8 ea ut 0 none 0 0));have B8:=jD ((B2.out.trans (Butt.of_below A2.out.fix.lt hbx)).alloc HRW.out (jO 8 ea ut 0 none 0 0));have Q8:=jD (Bx5.new w3 (.int .i64 8) (.int .i64 ea) (.string ut) (.int .i64 0) (.slice none 0 0));have X8:=jD (X3.out.alloc (jO 8 ea ut 0 none 0 0));have T8:=jD ((T2.out.below hbx).alloc (jO 8 ea ut 0 none 0 0));have S8:jQ (w3.alloc (jO 8 ea ut 0 none 0 0)) w1.heap.size (Value.int .i64 ek) (Value.string et) (Value.int .i64 ea):=⟨T8.out.c0,T8.out.c1,T8.out.c2⟩;have N8:Hid (w3.heap.size≠w.heap.size):=jD (fun e=>by have:=X3.out.lt;omega);have H8:=HQ3;have S3:jQ w3 w1.heap.size (Value.int .i64 ek) (Value.string et) (Value.int .i64 ea):=⟨(T2.out.below hbx).c0,(T2.out.below hbx).c1,(T2.out.below hbx).c2⟩;have S3a:jQ (w3.alloc jZ) w1.heap.size (Value.int .i64 ek) (Value.string et) (Value.int .i64 ea):=⟨((T2.out.below hbx).alloc jZ).c0,((T2.out.below hbx).alloc jZ).c1,((T2.out.below hbx).alloc jZ).c2⟩;clear hbx hb3))
 all_goals
  have P8:Hid (∀ q,w.heap.size≤q→q≠R):=jD (fun q hq e=>by have:=HRW.out;omega)
  have PXQ:=jD (P8.out _ H8.out)
  clear SD SE S2 S2a S3 S8
  go_wp2_with (go_at_call 35;refine jX (jaE A8.out ⟨#[91]⟩) B8 X8 HPR fun w4 A4 B4 XR4 hb4=>?_)
  have XQ4:=jD (Q8.out.butt PXQ.out hb4)
  clear hb4
  refine jD ?_
  go_wp2_with (go_at_call 151;refine cM (jle HNL.out A4.out) ?_;rintro e w5 ⟨n,s2,rfl,hm,ha5,hb5⟩)
  have HMN:=jD hm;clear hm
  have A5:=jD ha5;have B5:=jtt B4 hb5
  have XR5:=jbb XR4 HPR hb5
  have XQ5:=jD (XQ4.out.butt PXQ.out hb5)
  clear ha5 hb5
  refine jD ?_
  have FN:=jD (At.setNum (i:=3) HA0.out B5.out A5.out H8.out (.int .i64 n))
  have qf3:=XQ5.out.free 3;have qc3:=XQ5.out.c3
  have A7:=jD FN.out.1;have B7:=jD FN.out.2.1;have XQ7:=jD (XQ5.out.setNum (.int .i64 n));have XR7:=jD (XR5.out.kept (Ne.symm N8.out) FN.out.2.2)
  clear FN
  go_wp2_with (go_at_call 35;refine jX (jaE A7.out ⟨#[93]⟩) B7 XR7 HPR fun w8 A8 B8 XR8 hb8=>?_)
  have XQ8:=jD (XQ7.out.butt PXQ.out hb8)
  clear hb8
  refine jD ?_
  go_wp2_with (go_at_call 35;refine jX (jaE A8.out ⟨#[59]⟩) B8 XR8 HPR fun w9 A9 B9 XR9 hb9=>?_)
  have XQ9:=jD (XQ8.out.butt PXQ.out hb9)
  clear hb9
  refine jD ?_
  obtain⟨yXQ0,yXQ1,yXQ2,yXQ3,yXQ4,-,-⟩:=XQ9.out
  have TN:=jD ((jac (A:=offs w.heap.size [w.heap.size]) (W:=w9) (kids:=[]) (k:=8) (a:=ea) (n:=n) (t:=ut)).mpr ⟨_,rfl,Or.inl ⟨rfl,rfl⟩⟩)
  have FT:=jD (ja4 HA0.out B9.out A9.out XR9.out (jrr _) (.int .i64 8) (.int .i64 ea) (.string ut) (.int .i64 n) (.slice none 0 0) _ rfl)
  have GX:=jD ((TN.out).kept (by simp) FT.out.2.2.2).at
  obtain⟨yXR0,yXR1,yXR2,yXR3,yXR4,fXR0,fXR1,fXR2,fXR3,fXR4⟩:=bF XR9.out
  obtain⟨r0,r1,r2,r3,r4⟩:=FT.out.1
  have GA:=jD FT.out.2.1;have GB:=jD FT.out.2.2.1
  clear FT
  go_wp2
  refine bodyPost_ret (by simp[results,Tryz.results141,go_sem,r0,r1,r2,r3,r4];rfl) rfl ?_
  exact⟨_,_,_,rfl,GX.out,HM.out _ _ _ ⟨uk,ut,ua⟩ _ HNM.out HMN.out rfl,GA.out,GB.out⟩
end Go.Proofs.YtenmmmdnpglkoaaGreatDoor

namespace Go.Proofs.YtenmmmdnpglkoaaGreatDoor
open Go Go.Proofs Go.RowKit
theorem jar {α β : Type} {m:Except (Int×Nat) α} {k:α→Except (Int×Nat) β} {r:β} (h:(m >>= k) = .ok r):∃ a,m = .ok a∧k a = .ok r:=by
 cases m with
 |error e=>cases h
 |ok a=>exact⟨a,rfl,h⟩
def Mono {α : Type} (f:Nat) (m:Rd α):Prop:=∀ l x l',m f l = .ok (x,l')→l'.length≤l.length
section
variable {α β : Type} {f:Nat}
theorem Mono.bind {m:Rd α} {k:α→Rd β} (h:Mono f m) (g:∀ x,Mono f (k x)):Mono f (jae m k):=by
 intro l y l' e
 obtain⟨⟨x,l1⟩,e1,e2⟩:=jar e
 exact Nat.le_trans (g x l1 y l' e2) (h l x l1 e1)
theorem Mono.ite {c:Prop} [Decidable c] {m k:Rd α} (h:Mono f m) (g:Mono f k):Mono f (if c then m else k):=by split<;>assumption
theorem Mono.ret {x:α}:Mono f (mRet x):=by intro l y l' e;cases e;exact jrr _
theorem Mono.peek:Mono f jbm:=by intro l y l' e;cases e;exact jrr _
theorem Mono.take:Mono f jbg:=by intro l y l' e;cases e;exact jat _
theorem Mono.is {s:List UInt8}:Mono f (mIs s):=by intro l y l' e;cases e;exact jrr _
theorem Mono.next:Mono f jbV:=by intro l y l' e;cases e;exact jrr _
theorem Mono.named:Mono f jbe:=by intro l y l' e;cases e;exact jrr _
theorem Mono.name:Mono f jbd:=by
 intro l y l' e
 unfold jbd jaW at e
 split at e
 ·cases e;exact jat _
 ·cases e
theorem Mono.need {s:List UInt8}:Mono f (jaA s):=by
 intro l y l' e
 unfold jaA at e
 split at e
 ·cases e;exact jat _
 ·cases e
theorem Mono.enter {s:List UInt8} {d:Nat}:Mono f (jaF s d):=by
 intro l y l' e
 unfold jaF at e
 split at e
 ·split at e
  ·cases e
  ·cases e;exact jat _
 ·cases e
theorem Mono.num:Mono f mNum:=by
 intro l y l' e
 unfold mNum at e
 split at e
 ·split at e
  ·cases e
  ·cases e;exact jat _
 ·cases e
theorem Mono.of {m k:Rd α} (h:Mono f m) (e:∀ l,k f l=m f l):Mono f k:=fun l x l' g=>h l x l' ((e l).symm.trans g)
end
theorem Mono.before {f d:Nat} {s:List UInt8} {w:Want} (h:Mono f (jal (.list w) d)):Mono f (jaB s w d):=by
 intro l y l' e
 unfold jaB at e
 split at e
 ·cases e;exact jrr _
 ·exact h l y l' e
theorem jbl (f:Nat):∀ (w:Want) (d:Nat),Mono f (jal w d):=by
 induction f with
 |zero=>intro w d l x l' e;unfold jal at e;rw[jaf] at e;cases e
 |succ f ih=>
  have H:∀ w d l x l',jaf f w d l = .ok (x,l')→l'.length≤l.length:=fun w d l x l' e=>ih w d l x l' e
  have hN:∀ l t l',jaW l = .ok (t,l')→l'.length≤l.length:=fun l t l' e=>Mono.name (f:=f) l t l' e
  have hD:∀ s l l',jaQ s l = .ok l'→l'.length≤l.length:=fun s l l' e=>by
   unfold jaQ at e
   split at e
   ·cases e;exact jat _
   ·cases e
  have hT:=jat
  intro w d
  cases w with
  |lvl i=>
   intro l x l' e
   unfold jal at e
   rw[jaf] at e
   split at e
   ·split at e
    ·split at e
     ·cases e
     ·obtain⟨⟨y,l1⟩,e1,e2⟩:=jar e
      cases e2
      exact Nat.le_trans (H _ _ _ _ _ e1) (hT l)
    ·exact H _ _ _ _ _ e
   ·split at e
    ·obtain⟨⟨y,l1⟩,e1,e2⟩:=jar e
     have g1:=H _ _ _ _ _ e1
     dsimp only at e2
     split at e2
     ·obtain⟨⟨z,l2⟩,e3,e4⟩:=jar e2
      cases e4
      exact Nat.le_trans (H _ _ _ _ _ e3) (Nat.le_trans (hT l1) g1)
     ·cases e2;exact g1
    ·split at e
     ·split at e
      ·cases e;exact hT l
      ·split at e
       ·cases e;exact hT l
       ·split at e
        ·split at e
         ·cases e
         ·obtain⟨⟨y,l1⟩,e1,e2⟩:=jar e
          obtain⟨l2,e3,e4⟩:=jar e2
          cases e4
          exact Nat.le_trans (hD _ _ _ e3) (Nat.le_trans (H _ _ _ _ _ e1) (hT l))
        ·exact H _ _ _ _ _ e
     ·obtain⟨⟨y,l1⟩,e1,e2⟩:=jar e
      exact Nat.le_trans (H _ _ _ _ _ e2) (H _ _ _ _ _ e1)
  |rep i a x0=>
   intro l x l' e
   unfold jal at e
   rw[jaf] at e
   split at e
   ·obtain⟨⟨y,l1⟩,e1,e2⟩:=jar e
    exact Nat.le_trans (H _ _ _ _ _ e2) (Nat.le_trans (H _ _ _ _ _ e1) (hT l))
   ·cases e;exact jrr _
  |bare=>
   intro l x l' e
   unfold jal at e
   rw[jaf] at e
   obtain⟨⟨t,l1⟩,e1,e2⟩:=jar e
   cases e2;exact hN _ _ _ e1
  |place=>
   intro l x l' e
   unfold jal at e
   rw[jaf] at e
   obtain⟨⟨t,l1⟩,e1,e2⟩:=jar e
   have g1:=hN _ _ _ e1
   dsimp only at e2
   split at e2
   ·obtain⟨⟨z,l2⟩,e3,e4⟩:=jar e2
    cases e4
    exact Nat.le_trans (H _ _ _ _ _ e3) (Nat.le_trans (hT l1) g1)
   ·cases e2;exact g1
  |param=>
   intro l x l' e
   unfold jal at e
   rw[jaf] at e
   obtain⟨⟨t,l1⟩,e1,e2⟩:=jar e
   have g1:=hN _ _ _ e1
   dsimp only at e2
   split at e2
   ·obtain⟨⟨z,l2⟩,e3,e4⟩:=jar e2
    cases e4
    exact Nat.le_trans (H _ _ _ _ _ e3) (Nat.le_trans (hT l1) g1)
   ·cases e2;exact g1
  |list w=>
   intro l x l' e
   unfold jal at e
   rw[jaf] at e
   obtain⟨⟨t,l1⟩,e1,e2⟩:=jar e
   have g1:=H _ _ _ _ _ e1
   dsimp only at e2
   split at e2
   ·obtain⟨⟨z,l2⟩,e3,e4⟩:=jar e2
    cases e4
    exact Nat.le_trans (H _ _ _ _ _ e3) (Nat.le_trans (hT l1) g1)
   ·cases e2;exact g1
  |cond=>
   intro l x l' e
   unfold jal at e
   rw[jaf] at e
   exact H _ _ _ _ _ e
  |load=>
   intro l x l' e
   unfold jal at e
   rw[jdU] at e
   revert l x l'
   show Mono f (jgv d)
   unfold jgv
   repeat' (first|exact Mono.take|exact Mono.peek|exact Mono.is|exact Mono.next|exact Mono.named|exact Mono.name|exact Mono.need|exact Mono.enter|exact Mono.num|exact Mono.ret|exact ih _ _|exact Mono.before (ih _ _)|(refine Mono.bind ?_ (fun _=>?_))|(refine Mono.ite ?_ ?_)|(unfold jaK)|(unfold ja2)|(unfold ja3)|(unfold jay)|(unfold jba)|(unfold ja9)|(unfold jaY)|(unfold jaD)|(unfold jaz)|(unfold jao)|(unfold jaN))
  |call=>
   intro l x l' e
   unfold jal at e
   rw[jdt] at e
   revert l x l'
   show Mono f (jfM d)
   unfold jfM
   repeat' (first|exact Mono.take|exact Mono.peek|exact Mono.is|exact Mono.next|exact Mono.named|exact Mono.name|exact Mono.need|exact Mono.enter|exact Mono.num|exact Mono.ret|exact ih _ _|exact Mono.before (ih _ _)|(refine Mono.bind ?_ (fun _=>?_))|(refine Mono.ite ?_ ?_)|(unfold jaK)|(unfold ja2)|(unfold ja3)|(unfold jay)|(unfold jba)|(unfold ja9)|(unfold jaY)|(unfold jaD)|(unfold jaz)|(unfold jao)|(unfold jaN))
  |right=>
   intro l x l' e
   unfold jal at e
   rw[jdH] at e
   revert l x l'
   show Mono f (jeb d)
   unfold jeb
   repeat' (first|exact Mono.take|exact Mono.peek|exact Mono.is|exact Mono.next|exact Mono.named|exact Mono.name|exact Mono.need|exact Mono.enter|exact Mono.num|exact Mono.ret|exact ih _ _|exact Mono.before (ih _ _)|(refine Mono.bind ?_ (fun _=>?_))|(refine Mono.ite ?_ ?_)|(unfold jaK)|(unfold ja2)|(unfold ja3)|(unfold jay)|(unfold jba)|(unfold ja9)|(unfold jaY)|(unfold jaD)|(unfold jaz)|(unfold jao)|(unfold jaN))
  |block=>
   intro l x l' e
   unfold jal at e
   rw[jdb] at e
   revert l x l'
   show Mono f (jdG d)
   unfold jdG
   repeat' (first|exact Mono.take|exact Mono.peek|exact Mono.is|exact Mono.next|exact Mono.named|exact Mono.name|exact Mono.need|exact Mono.enter|exact Mono.num|exact Mono.ret|exact ih _ _|exact Mono.before (ih _ _)|(refine Mono.bind ?_ (fun _=>?_))|(refine Mono.ite ?_ ?_)|(unfold jaK)|(unfold ja2)|(unfold ja3)|(unfold jay)|(unfold jba)|(unfold ja9)|(unfold jaY)|(unfold jaD)|(unfold jaz)|(unfold jao)|(unfold jaN))
  |chain a=>
   intro l x l' e
   unfold jal at e
   rw[jdI] at e
   revert l x l'
   show Mono f (jec a d)
   unfold jec
   repeat' (first|exact Mono.take|exact Mono.peek|exact Mono.is|exact Mono.next|exact Mono.named|exact Mono.name|exact Mono.need|exact Mono.enter|exact Mono.num|exact Mono.ret|exact ih _ _|exact Mono.before (ih _ _)|(refine Mono.bind ?_ (fun _=>?_))|(refine Mono.ite ?_ ?_)|(unfold jaK)|(unfold ja2)|(unfold ja3)|(unfold jay)|(unfold jba)|(unfold ja9)|(unfold jaY)|(unfold jaD)|(unfold jaz)|(unfold jao)|(unfold jaN))
  |stmts=>
   intro l x l' e
   unfold jal at e
   rw[jcG] at e
   revert l x l'
   show Mono f (jdk d)
   unfold jdk
   repeat' (first|exact Mono.take|exact Mono.peek|exact Mono.is|exact Mono.next|exact Mono.named|exact Mono.name|exact Mono.need|exact Mono.enter|exact Mono.num|exact Mono.ret|exact ih _ _|exact Mono.before (ih _ _)|(refine Mono.bind ?_ (fun _=>?_))|(refine Mono.ite ?_ ?_)|(unfold jaK)|(unfold ja2)|(unfold ja3)|(unfold jay)|(unfold jba)|(unfold ja9)|(unfold jaY)|(unfold jaD)|(unfold jaz)|(unfold jao)|(unfold jaN))
  |stmt=>
   intro l x l' e
   unfold jal at e
   rw[jdV] at e
   revert l x l'
   show Mono f (jfd d)
   unfold jfd
   repeat' (first|exact Mono.take|exact Mono.peek|exact Mono.is|exact Mono.next|exact Mono.named|exact Mono.name|exact Mono.need|exact Mono.enter|exact Mono.num|exact Mono.ret|exact ih _ _|exact Mono.before (ih _ _)|(refine Mono.bind ?_ (fun _=>?_))|(refine Mono.ite ?_ ?_)|(unfold jaK)|(unfold ja2)|(unfold ja3)|(unfold jay)|(unfold jba)|(unfold ja9)|(unfold jaY)|(unfold jaD)|(unfold jaz)|(unfold jao)|(unfold jaN))
  |decls=>
   intro l x l' e
   unfold jal at e
   rw[jdJ] at e
   revert l x l'
   show Mono f (jed d)
   unfold jed
   repeat' (first|exact Mono.take|exact Mono.peek|exact Mono.is|exact Mono.next|exact Mono.named|exact Mono.name|exact Mono.need|exact Mono.enter|exact Mono.num|exact Mono.ret|exact ih _ _|exact Mono.before (ih _ _)|(refine Mono.bind ?_ (fun _=>?_))|(refine Mono.ite ?_ ?_)|(unfold jaK)|(unfold ja2)|(unfold ja3)|(unfold jay)|(unfold jba)|(unfold ja9)|(unfold jaY)|(unfold jaD)|(unfold jaz)|(unfold jao)|(unfold jaN))
  |body=>
   intro l x l' e
   unfold jal at e
   rw[jeM] at e
   revert l x l'
   show Mono f (jgw d)
   unfold jgw
   repeat' (first|exact Mono.take|exact Mono.peek|exact Mono.is|exact Mono.next|exact Mono.named|exact Mono.name|exact Mono.need|exact Mono.enter|exact Mono.num|exact Mono.ret|exact ih _ _|exact Mono.before (ih _ _)|(refine Mono.bind ?_ (fun _=>?_))|(refine Mono.ite ?_ ?_)|(unfold jaK)|(unfold ja2)|(unfold ja3)|(unfold jay)|(unfold jba)|(unfold ja9)|(unfold jaY)|(unfold jaD)|(unfold jaz)|(unfold jao)|(unfold jaN))
  |record=>
   intro l x l' e
   unfold jal at e
   rw[jc9] at e
   revert l x l'
   show Mono f (jcT d)
   unfold jcT
   repeat' (first|exact Mono.take|exact Mono.peek|exact Mono.is|exact Mono.next|exact Mono.named|exact Mono.name|exact Mono.need|exact Mono.enter|exact Mono.num|exact Mono.ret|exact ih _ _|exact Mono.before (ih _ _)|(refine Mono.bind ?_ (fun _=>?_))|(refine Mono.ite ?_ ?_)|(unfold jaK)|(unfold ja2)|(unfold ja3)|(unfold jay)|(unfold jba)|(unfold ja9)|(unfold jaY)|(unfold jaD)|(unfold jaz)|(unfold jao)|(unfold jaN))
  |proc=>
   intro l x l' e
   unfold jal at e
   rw[jdW] at e
   revert l x l'
   show Mono f (jfe d)
   unfold jfe
   repeat' (first|exact Mono.take|exact Mono.peek|exact Mono.is|exact Mono.next|exact Mono.named|exact Mono.name|exact Mono.need|exact Mono.enter|exact Mono.num|exact Mono.ret|exact ih _ _|exact Mono.before (ih _ _)|(refine Mono.bind ?_ (fun _=>?_))|(refine Mono.ite ?_ ?_)|(unfold jaK)|(unfold ja2)|(unfold ja3)|(unfold jay)|(unfold jba)|(unfold ja9)|(unfold jaY)|(unfold jaD)|(unfold jaz)|(unfold jao)|(unfold jaN))
  |program a=>
   intro l x l' e
   unfold jal at e
   rw[jcA] at e
   revert l x l'
   show Mono f (jc1 a d)
   unfold jc1
   repeat' (first|exact Mono.take|exact Mono.peek|exact Mono.is|exact Mono.next|exact Mono.named|exact Mono.name|exact Mono.need|exact Mono.enter|exact Mono.num|exact Mono.ret|exact ih _ _|exact Mono.before (ih _ _)|(refine Mono.bind ?_ (fun _=>?_))|(refine Mono.ite ?_ ?_)|(unfold jaK)|(unfold ja2)|(unfold ja3)|(unfold jay)|(unfold jba)|(unfold ja9)|(unfold jaY)|(unfold jaD)|(unfold jaz)|(unfold jao)|(unfold jaN))
def Less {α : Type} (f:Nat) (m:Rd α):Prop:=∀ l x l',2≤l.length→m f l = .ok (x,l')→l'.length<l.length
def Keep {α : Type} (f:Nat) (m:Rd α):Prop:=∀ l x l',m f l = .ok (x,l')→l'=l
theorem jer {l:List Tk} (h:2≤l.length):(pTl l).length<l.length:=by
 match l,h with
 |x::y::r,_=>simp[pTl]
theorem Less.bind {α β : Type} {f:Nat} {m:Rd α} {k:α→Rd β} (h:Less f m) (g:∀ x,Mono f (k x)):Less f (jae m k):=by
 intro l y l' h2 e
 obtain⟨⟨x,l1⟩,e1,e2⟩:=jar e
 exact Nat.lt_of_le_of_lt (g x l1 y l' e2) (h l x l1 h2 e1)
theorem Less.keep {α β : Type} {f:Nat} {m:Rd α} {k:α→Rd β} (h:Keep f m) (g:∀ x,Less f (k x)):Less f (jae m k):=by
 intro l y l' h2 e
 obtain⟨⟨x,l1⟩,e1,e2⟩:=jar e
 have e3:=h l x l1 e1
 subst e3
 exact g x l1 y l' h2 e2
theorem Less.ite {α : Type} {f:Nat} {c:Prop} [Decidable c] {m k:Rd α} (h:Less f m) (g:Less f k):Less f (if c then m else k):=by split<;>assumption
theorem Less.take {f:Nat}:Less f jbg:=by intro l x l' h e;cases e;exact jer h
theorem Less.name {f:Nat}:Less f jbd:=by
 intro l x l' h e
 unfold jbd jaW at e
 split at e
 ·cases e;exact jer h
 ·cases e
theorem Less.load {f d:Nat}:Less f (jal .load d):=by
 intro l x l' h e
 cases f with
 |zero=>unfold jal at e;rw[jaf] at e;cases e
 |succ f=>
  unfold jal at e
  rw[jdU] at e
  exact Less.bind (f:=f) Less.name (fun _=>Mono.bind Mono.need (fun _=>Mono.bind (jbl _ _ _) (fun _=>Mono.bind Mono.need (fun _=>Mono.ret)))) l x l' h e
theorem Less.call {f d:Nat}:Less f (jal .call d):=by
 intro l x l' h e
 cases f with
 |zero=>unfold jal at e;rw[jaf] at e;cases e
 |succ f=>
  unfold jal at e
  rw[jdt] at e
  exact Less.bind (f:=f) Less.name (fun _=>Mono.bind Mono.need (fun _=>Mono.bind (Mono.before (jbl _ _ _)) (fun _=>Mono.bind Mono.need (fun _=>Mono.ret)))) l x l' h e
theorem Less.places {f d:Nat}:Less f (jal (.list .place) d):=by
 intro l x l' h e
 cases f with
 |zero=>unfold jal at e;rw[jaf] at e;cases e
 |succ f=>
  unfold jal at e
  rw[jaf] at e
  obtain⟨⟨y,l1⟩,e1,e2⟩:=jar e
  have g1:l1.length<l.length:=by
   cases f with
   |zero=>rw[jaf] at e1;cases e1
   |succ f=>
    rw[jaf] at e1
    obtain⟨⟨t,l0⟩,e3,e4⟩:=jar e1
    have g0:=Less.name (f:=f) l t l0 h e3
    dsimp only at e4
    split at e4
    ·obtain⟨⟨z,l2⟩,e5,e6⟩:=jar e4
     cases e6
     have:=jbl f .bare d _ _ _ e5
     have:=jat l0
     show l2.length<l.length
     omega
    ·cases e4;exact g0
  dsimp only at e2
  split at e2
  ·obtain⟨⟨z,l2⟩,e3,e4⟩:=jar e2
   cases e4
   have:=jbl f (.list .place) d _ _ _ e3
   have:=jat l1
   show l2.length<l.length
   omega
  ·cases e2;exact g1
theorem Less.stmt {f d:Nat}:Less f (jal .stmt d):=by
 intro l x l' h e
 cases f with
 |zero=>unfold jal at e;rw[jaf] at e;cases e
 |succ f=>
  unfold jal at e
  rw[jdV] at e
  revert h e
  revert l x l'
  show Less f (jfd d)
  have K1:Keep f jbm:=by intro l y l' e;cases e;rfl
  have K2:∀ s,Keep f (mIs s):=by intro s l y l' e;cases e;rfl
  have K3:Keep f jbV:=by intro l y l' e;cases e;rfl
  have K4:Keep f jbe:=by intro l y l' e;cases e;rfl
  have M:=jbl f
  unfold jfd jaK ja2 ja3 jay jba ja9
  refine Less.keep K4 fun _=>Less.ite (Less.keep K3 fun _=>Less.ite ?_ (Less.ite ?_ ?_)) (Less.keep (K2 _) fun _=>Less.ite ?_ (Less.keep (K2 _) fun _=>Less.ite ?_ (Less.keep (K2 _) fun _=>Less.ite ?_ ?_)))
  ·exact Less.keep K1 fun _=>Less.bind Less.load fun _=>Mono.bind Mono.need fun _=>Mono.bind (M _ _) fun _=>Mono.bind Mono.need fun _=>Mono.ret
  ·exact Less.keep K1 fun _=>Less.bind Less.call fun _=>Mono.bind Mono.need fun _=>Mono.ret
  ·exact Less.keep K1 fun _=>Less.bind Less.places fun _=>Mono.bind Mono.need fun _=>Mono.bind (M _ _) fun _=>Mono.bind Mono.need fun _=>Mono.ret
  ·exact Less.bind Less.take fun _=>M _ _
  ·exact Less.bind Less.take fun _=>Mono.bind (M _ _) fun _=>Mono.bind (M _ _) fun _=>Mono.ret
  ·exact Less.bind Less.take fun _=>Mono.bind (M _ _) fun _=>Mono.bind Mono.need fun _=>Mono.ret
  ·exact Less.bind Less.take fun _=>Mono.bind (M _ _) fun _=>Mono.bind Mono.need fun _=>Mono.ret
theorem jbO {d:Nat} {l:List Tk} {xs:List Syn} {st':RSt} (h2:2≤l.length) (h:Stp .stmt d (.ok l) xs st'):st'.rem+1≤l.length:=by
 rcases elS h with ⟨l1,rfl,-,-,N,hN⟩|⟨a,e,-,rfl,-⟩
 ·exact Less.stmt (f:=N) l xs l1 h2 (hN N (jrr _))
 ·show 0+1≤_
  omega
end Go.Proofs.YtenmmmdnpglkoaaGreatDoor
