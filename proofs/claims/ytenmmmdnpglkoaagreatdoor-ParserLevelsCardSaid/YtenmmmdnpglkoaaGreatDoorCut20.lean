import Derived.Test.YtenmmmdnpglkoaaGreatDoorCut19
set_option linter.unusedSimpArgs false
set_option linter.unusedVariables false
set_option maxRecDepth 100000
set_option maxHeartbeats 8000000
/-
 parser: store.
-/
namespace Go.Proofs.YtenmmmdnpglkoaaGreatDoor
open Go Go.Proofs Go.RowKit Go.Sort
structure Cx5 (W:World) (p:Nat) (v0 v1 v2 v3 v4:Value):Prop where
 c0:W.cell? ⟨p,0,none⟩=some v0
 c1:W.cell? ⟨p,1,none⟩=some v1
 c2:W.cell? ⟨p,2,none⟩=some v2
 c3:W.cell? ⟨p,3,none⟩=some v3
 c4:W.cell? ⟨p,4,none⟩=some v4
 lt:p<W.heap.size
theorem Cx5.butt {R p:Nat} {W W':World} {v0 v1 v2 v3 v4:Value} (h:Cx5 W p v0 v1 v2 v3 v4) (hp:p≠R) (hb:Butt R W W'):Cx5 W' p v0 v1 v2 v3 v4:=by
 obtain⟨c0,c1,c2,c3,c4,hl⟩:=h
 exact⟨(hb.cell (p:=⟨p,0,none⟩) hl hp).trans c0,(hb.cell (p:=⟨p,1,none⟩) hl hp).trans c1,(hb.cell (p:=⟨p,2,none⟩) hl hp).trans c2,(hb.cell (p:=⟨p,3,none⟩) hl hp).trans c3,(hb.cell (p:=⟨p,4,none⟩) hl hp).trans c4,Nat.lt_of_lt_of_le hl hb.size⟩
theorem Cx5.below {p:Nat} {W W':World} {v0 v1 v2 v3 v4:Value} (h:Cx5 W p v0 v1 v2 v3 v4) (hb:Below W.heap.size W W'):Cx5 W' p v0 v1 v2 v3 v4:=by
 obtain⟨c0,c1,c2,c3,c4,hl⟩:=h
 exact⟨(hb.cell (p:=⟨p,0,none⟩) hl).trans c0,(hb.cell (p:=⟨p,1,none⟩) hl).trans c1,(hb.cell (p:=⟨p,2,none⟩) hl).trans c2,(hb.cell (p:=⟨p,3,none⟩) hl).trans c3,(hb.cell (p:=⟨p,4,none⟩) hl).trans c4,Nat.lt_of_lt_of_le hl hb.size⟩
theorem Cx5.alloc {p:Nat} {W:World} {v0 v1 v2 v3 v4:Value} (h:Cx5 W p v0 v1 v2 v3 v4) (o:Obj):Cx5 (W.alloc o) p v0 v1 v2 v3 v4:=h.below (jN o)
theorem Cx5.kept {p q:Nat} {W W':World} {v0 v1 v2 v3 v4:Value} (h:Cx5 W p v0 v1 v2 v3 v4) (hp:p≠q) (hb:Kept (·≠q) W W'):Cx5 W' p v0 v1 v2 v3 v4:=by
 obtain⟨c0,c1,c2,c3,c4,hl⟩:=h
 exact⟨(hb.cell (p:=⟨p,0,none⟩) hp hl).trans c0,(hb.cell (p:=⟨p,1,none⟩) hp hl).trans c1,(hb.cell (p:=⟨p,2,none⟩) hp hl).trans c2,(hb.cell (p:=⟨p,3,none⟩) hp hl).trans c3,(hb.cell (p:=⟨p,4,none⟩) hp hl).trans c4,Nat.lt_of_lt_of_le hl hb.size⟩
theorem jlK {A:Nat→Prop} {W:World} {k a n:Int} {t:ByteArray} {i:Syn} {ao:Option Addr} {l c:Nat} (h:synIn A W (.mk k a t n [i]) (.agg #[.int .i64 k,.int .i64 a,.string t,.int .i64 n,.slice ao l c])) :
  ∃ b k' a' t' n' o' l' c' q',ao=some ⟨b,0,none⟩∧l=1∧A b∧i = .mk k' a' t' n' q'∧Cx5 W b (.int .i64 k') (.int .i64 a') (.string t') (.int .i64 n') (.slice o' l' c')∧synIn A W (.mk k' a' t' n' q') (.agg #[.int .i64 k',.int .i64 a',.string t',.int .i64 n',.slice o' l' c']):=by
 obtain⟨kv,e,hk⟩:=jac.mp h
 cases e
 rcases hk with ⟨h0,-⟩|⟨b,c,e,h1,h2,h3,h4,h5⟩
 ·cases h0
 ·cases e
  rw[rowIn] at h5
  obtain⟨⟨v0,v1,v2,v3,v4,c0,c1,c2,c3,c4,hx⟩,-⟩:=h5
  obtain⟨k',a',t',n',o',l',c',q',e1,e2⟩:=hx.shape
  subst e1
  cases e2
  exact⟨b,_,_,_,_,_,_,_,_,rfl,rfl,h3,rfl,⟨c0,c1,c2,c3,c4,h4⟩,hx⟩
theorem jlL {R:Nat} {L:List Tk} {d:Nat} {st:RSt} {w:World} (h:At R L w d st) (KL:∀ W:World,At R L W d st→Calls Tryz.prog 148 #[.pointer (some ⟨R,0,none⟩)] W (PS R L (fun x st'=>∃ a t i,x = .mk 16 a t 0 [i]∧Stp .load d st [x] st') d W)) (KX:∀ s:RSt,s.rem≤st.rem→GT 32 R L #[.pointer (some ⟨R,0,none⟩)] (.lvl 4) d s) :
  Calls Tryz.prog 133 #[.pointer (some ⟨R,0,none⟩)] w (PS R L (fun x st'=>∃ a t i y s1,x = .mk 10 a t 0 [i,y]∧Stp .load d st [.mk 16 a t 0 [i]] s1∧Stp (.lvl 4) d (jad (tIs L s1 ⟨#[58,61]⟩) s1) [y] st') d w):=by
 have KE:=jD KL;have KK:=jD KX
 have HA0:=jD h
 have HLT:=jD h.fix.lt;have HRW:=jD h.fix.lt
 have A0:=jD (h.alloc jZ);obtain⟨B0,XR0,HPR,HLS⟩:=jS h.fix.lt
 clear h KL KX
 go_enter Tryz.func133,Tryz.ntmps133
 go_wp2_with (go_at_call 148;refine cM (KE.out _ A0.out) ?_;rintro e w1 ⟨x1,v1,s1,rfl,hx1,hs1,ha1,hb1⟩)
 obtain⟨k1,a1,t1,n1,o1,l1,c1,q1,rfl,rfl,hk1⟩:=hx1.shape
 have HS1:=jD hs1
 have TR1:=tA hx1 B0.out.size XR0.out.lt
 have A1:=jD ha1;have B1:=jtt B0 hb1
 have XR1:=jbb XR0 HPR hb1
 clear ha1 hb1 hx1 hk1 hs1
 refine jD ?_
 obtain⟨a',t',i',e',hst'⟩:=HS1.out
 cases e'
 obtain⟨bb,k',a',t',n',o',l',c',q',e1,e2,hbb,e3,hcx,hti⟩:=jlK TR1.out
 subst e1 e2 e3
 have HST:=jD hst';have XI1:=jD hcx;have TI1:=jD hti;have PXI:Hid (bb≠R):=jD (fun e=>by have:=hbb.1;have:=HLT.out;omega);have HOB:Hid (bb≠w.heap.size):=jD (fun e=>hbb.2 (by simp[e]))
 clear hst' hcx hti hbb
 have HIP:Hid (bb≠w.heap.size):=jD HOB.out
 have HEP:Hid (w1.heap.size≠w.heap.size):=jD (fun e=>by have:=XR1.out.lt;omega)
 have A1a:=jD (A1.out.alloc (Obj.cells #[.int .i64 16,.int .i64 a1,.string t1,.int .i64 0,.slice (some ⟨bb,0,none⟩) 1 c1] 25));have B1a:=jD (B1.out.alloc HRW.out (Obj.cells #[.int .i64 16,.int .i64 a1,.string t1,.int .i64 0,.slice (some ⟨bb,0,none⟩) 1 c1] 25))
 have XR1a:=jD (XR1.out.alloc (Obj.cells #[.int .i64 16,.int .i64 a1,.string t1,.int .i64 0,.slice (some ⟨bb,0,none⟩) 1 c1] 25))
 have XI1a:=jD (XI1.out.alloc (Obj.cells #[.int .i64 16,.int .i64 a1,.string t1,.int .i64 0,.slice (some ⟨bb,0,none⟩) 1 c1] 25))
 have TI1a:=jD (TI1.out.butt HLT.out (Butt.of_below A1.out.fix.lt (jN (Obj.cells #[.int .i64 16,.int .i64 a1,.string t1,.int .i64 0,.slice (some ⟨bb,0,none⟩) 1 c1] 25))))
 have PXE:=nR A1.out.fix.lt
 have XE1a:=jD (Bx5.new w1 (.int .i64 16) (.int .i64 a1) (.string t1) (.int .i64 0) (.slice (some ⟨bb,0,none⟩) 1 c1))
 go_wp2_with (go_at_call 35;refine jX (jaE A1a.out ⟨#[58,61]⟩) B1a XR1a HPR fun w2 A2 B2 XR2 hb2=>?_)
 have XI2:=jD (XI1a.out.butt PXI.out hb2)
 have XE2:=jbb XE1a PXE hb2
 have TI2:=jD (TI1a.out.butt HLT.out hb2)
 clear hb2
 refine jD ?_
 have KQ:=jD (fun W (H:At R L W d (jad (tIs L s1 ⟨#[58,61]⟩) s1))=>KK.out _ (Nat.le_trans jb8 (Run.rem HST.out)) W H)
 go_wp2_with fail
 have AD:=jD (A2.out.below (Below.refl _ _).drew);have BD:=jD (B2.out.drew)
 have XRD:=jD (XR2.out.below (Below.refl _ _).drew)
 have XID:=jD (XI2.out.below (Below.refl _ _).drew)
 have XED:=jD (XE2.out.below (Below.refl _ _).drew)
 have TID:=jD (TI2.out.butt HLT.out (Butt.refl R w2).drew)
 have HLW:Hid (w.heap.size≤w2.heap.size):=jD (Nat.le_trans (jrr _) B2.out.size)
 obtain⟨yXE0,yXE1,yXE2,yXE3,yXE4,-,-⟩:=XE2.out
 have zXI:=XI2.out
 have yXI0:=zXI.c0
 have yXI1:=zXI.c1
 have yXI2:=zXI.c2
 have yXI3:=zXI.c3
 have yXI4:=zXI.c4
 clear zXI
 have SD:jPc (w2.drew) (w1.heap.size) (.int .i64 16) (.int .i64 a1) (.string t1) (.int .i64 0) (.slice (some ⟨bb,0,none⟩) 1 c1) (jP (w2.drew) bb (.int .i64 k') (.int .i64 a') (.string t') (.int .i64 n') (.slice o' l' c')):=⟨XED.out.c0,XED.out.c1,XED.out.c2,XED.out.c3,XED.out.c4,XID.out.c0,XID.out.c1,XID.out.c2,XID.out.c3,XID.out.c4⟩
 go_region_held3 (fun w'=>jPc w' (w1.heap.size) (.int .i64 16) (.int .i64 a1) (.string t1) (.int .i64 0) (.slice (some ⟨bb,0,none⟩) 1 c1) (jP w' bb (.int .i64 k') (.int .i64 a') (.string t') (.int .i64 n') (.slice o' l' c'))) (first|(with_reducible exact SD)|(with_reducible exact SA)|(with_reducible exact SB)|(with_reducible exact SC)|(with_reducible exact SE)|fail) (first|(go_at_call 32;(with_reducible first|refine(KQ.out _ A2.out).mono ?_|refine(KQ.out _ AD.out).mono ?_);rintro e w3 ⟨x3,v3,s3,rfl,hx3,hs3,ha3,hb3⟩;obtain⟨k3,a3,t3,n3,o3,l3,c3,q3,rfl,rfl,hk3⟩:=hx3.shape;have HS3:=jD hs3;have A3:=jD ha3;have B3:=jD ((by with_reducible first|exact B2.out.trans hb3|exact BD.out.trans hb3):Butt R w w3);have TR3:=jD ((by first|exact synIn.of (ps:=[w.heap.size]) hx3 HLW.out (fun p hp=>by simp only[List.mem_cons,List.not_mem_nil,or_false] at hp;have g0:=XR2.out.lt;omega)|exact synIn.of (ps:=[w.heap.size]) (show synAt w2.heap.size w3 _ _ from hx3) HLW.out (fun p hp=>by simp only[List.mem_cons,List.not_mem_nil,or_false] at hp;have g0:=XR2.out.lt;omega)):synIn (offs w.heap.size [w.heap.size]) w3 (.mk k3 a3 t3 n3 q3) (.agg #[.int .i64 k3,.int .i64 a3,.string t3,.int .i64 n3,.slice o3 l3 c3]));have XR3:=jD ((by with_reducible first|exact XR2.out.butt HPR.out hb3|exact XRD.out.butt HPR.out hb3):Bx5 w3 w.heap.size (.int .i64 0) (.int .i64 0) (.string ⟨#[]⟩) (.int .i64 0) (.slice none 0 0));have XI3:=jD ((by with_reducible first|exact XI2.out.butt PXI.out hb3|exact XID.out.butt PXI.out hb3):Cx5 w3 bb (.int .i64 k') (.int .i64 a') (.string t') (.int .i64 n') (.slice o' l' c'));have XE3:=jD ((by with_reducible first|exact XE2.out.butt PXE.out hb3|exact XED.out.butt PXE.out hb3):Bx5 w3 (w1.heap.size) (.int .i64 16) (.int .i64 a1) (.string t1) (.int .i64 0) (.slice (some ⟨bb,0,none⟩) 1 c1));have TI3:=jD ((by with_reducible first|exact TI2.out.butt HLT.out hb3|exact TID.out.butt HLT.out hb3):synIn (offs w.heap.size [w.heap.size]) w3 (.mk k' a' t' n' q') (.agg #[.int .i64 k',.int .i64 a',.string t',.int .i64 n',.slice o' l' c']));have uXE0:=XE3.out.c0;have uXE1:=XE3.out.c1;have uXE2:=XE3.out.c2;have uXE3:=XE3.out.c3;have uXE4:=XE3.out.c4;have lXE:=XE3.out.lt;have mXE:=Nat.ne_of_lt lXE;have uXI0:=XI3.out.c0;have uXI1:=XI3.out.c1;have uXI2:=XI3.out.c2;have uXI3:=XI3.out.c3;have uXI4:=XI3.out.c4;have lXI:=XI3.out.lt;have mXI:=Nat.ne_of_lt lXI;have SA:jPc w3 (w1.heap.size) (.int .i64 16) (.int .i64 a1) (.string t1) (.int .i64 0) (.slice (some ⟨bb,0,none⟩) 1 c1) (jP w3 bb (.int .i64 k') (.int .i64 a') (.string t') (.int .i64 n') (.slice o' l' c')):=⟨XE3.out.c0,XE3.out.c1,XE3.out.c2,XE3.out.c3,XE3.out.c4,XI3.out.c0,XI3.out.c1,XI3.out.c2,XI3.out.c3,XI3.out.c4⟩;have SB:jPc (w3.alloc (oD k' a' t' n' o' l' c' k3 a3 t3 n3 o3 l3 c3)) (w1.heap.size) (.int .i64 16) (.int .i64 a1) (.string t1) (.int .i64 0) (.slice (some ⟨bb,0,none⟩) 1 c1) (jP (w3.alloc (oD k' a' t' n' o' l' c' k3 a3 t3 n3 o3 l3 c3)) bb (.int .i64 k') (.int .i64 a') (.string t') (.int .i64 n') (.slice o' l' c')):=⟨(XE3.out.alloc (oD k' a' t' n' o' l' c' k3 a3 t3 n3 o3 l3 c3)).c0,(XE3.out.alloc (oD k' a' t' n' o' l' c' k3 a3 t3 n3 o3 l3 c3)).c1,(XE3.out.alloc (oD k' a' t' n' o' l' c' k3 a3 t3 n3 o3 l3 c3)).c2,(XE3.out.alloc (oD k' a' t' n' o' l' c' k3 a3 t3 n3 o3 l3 c3)).c3,(XE3.out.alloc (oD k' a' t' n' o' l' c' k3 a3 t3 n3 o3 l3 c3)).c4,(XI3.out.alloc (oD k' a' t' n' o' l' c' k3 a3 t3 n3 o3 l3 c3)).c0,(XI3.out.alloc (oD k' a' t' n' o' l' c' k3 a3 t3 n3 o3 l3 c3)).c1,(XI3.out.alloc (oD k' a' t' n' o' l' c' k3 a3 t3 n3 o3 l3 c3)).c2,(XI3.out.alloc (oD k' a' t' n' o' l' c' k3 a3 t3 n3 o3 l3 c3)).c3,(XI3.out.alloc (oD k' a' t' n' o' l' c' k3 a3 t3 n3 o3 l3 c3)).c4⟩;clear ha3 hb3 hx3 hk3 hs3)|(go_at_call 40;refine(jau _ _ _ _ _ _ _).mono ?_;rintro e w4 ⟨rfl,hb4⟩;have HBR:=jD hb4;have hbx:Below w3.heap.size w3 w4:=Below.chain (jN _) hb4;have HBX:=jD hbx;obtain⟨g0,g1,g2,g3,g4,gf,gl⟩:=XR3.out.below hbx;have gf0:=gf 0;have gf1:=gf 1;have gf2:=gf 2;have gf3:=gf 3;have gf4:=gf 4;have SC:jPc w4 (w1.heap.size) (.int .i64 16) (.int .i64 a1) (.string t1) (.int .i64 0) (.slice (some ⟨bb,0,none⟩) 1 c1) (jP w4 bb (.int .i64 k') (.int .i64 a') (.string t') (.int .i64 n') (.slice o' l' c')):=⟨(XE3.out.below HBX.out).c0,(XE3.out.below HBX.out).c1,(XE3.out.below HBX.out).c2,(XE3.out.below HBX.out).c3,(XE3.out.below HBX.out).c4,(XI3.out.below HBX.out).c0,(XI3.out.below HBX.out).c1,(XI3.out.below HBX.out).c2,(XI3.out.below HBX.out).c3,(XI3.out.below HBX.out).c4⟩;have FT:=jD (ja4 HA0.out (B3.out.trans (Butt.of_below A3.out.fix.lt HBX.out)) (A3.out.below HBX.out) (XR3.out.below HBX.out) (jrr _) (.int .i64 10) (.int .i64 a1) (.string t1) (.int .i64 0) (.slice (some ⟨w3.heap.size,0,none⟩) 2 2) _ rfl);have ZXE:=(XE3.out.below HBX.out).kept HEP.out FT.out.2.2.2;have ZXI:=(XI3.out.below HBX.out).kept HIP.out FT.out.2.2.2;have SE:jPc (((((w4.setCell ⟨w.heap.size,0,none⟩ (.int .i64 10)).setCell ⟨w.heap.size,1,none⟩ (.int .i64 a1)).setCell ⟨w.heap.size,2,none⟩ (.string t1)).setCell ⟨w.heap.size,3,none⟩ (.int .i64 0)).setCell ⟨w.heap.size,4,none⟩ (.slice (some ⟨w3.heap.size,0,none⟩) 2 2)) (w1.heap.size) (.int .i64 16) (.int .i64 a1) (.string t1) (.int .i64 0) (.slice (some ⟨bb,0,none⟩) 1 c1) (jP (((((w4.setCell ⟨w.heap.size,0,none⟩ (.int .i64 10)).setCell ⟨w.heap.size,1,none⟩ (.int .i64 a1)).setCell ⟨w.heap.size,2,none⟩ (.string t1)).setCell ⟨w.heap.size,3,none⟩ (.int .i64 0)).setCell ⟨w.heap.size,4,none⟩ (.slice (some ⟨w3.heap.size,0,none⟩) 2 2)) bb (.int .i64 k') (.int .i64 a') (.string t') (.int .i64 n') (.slice o' l' c')):=⟨ZXE.c0,ZXE.c1,ZXE.c2,ZXE.c3,ZXE.c4,ZXI.c0,ZXI.c1,ZXI.c2,ZXI.c3,ZXI.c4⟩;clear ZXE;clear ZXI;clear gf gl hbx hb4))
 have hAw:offs w.heap.size [w.heap.size] w3.heap.size:=⟨Nat.le_trans (jrr _) B3.out.size,fun hp=>by simp only[List.mem_cons,List.not_mem_nil,or_false] at hp;have g0:=XR3.out.lt;omega⟩
 have KI:=jD (jaw (flatIn.cons (TI3.out) (flatIn.one (TR3.out))) (by simp) hAw 2 rfl);clear hAw
 have TN:=jD (jac.mpr ⟨_,rfl,KI.out.below HBR.out⟩:synIn (offs w.heap.size [w.heap.size]) w4 (.mk 10 a1 t1 0 [(.mk k' a' t' n' q'),(.mk k3 a3 t3 n3 q3)]) _)
 have AN:=jD (A3.out.below HBX.out);have BN:=jD (B3.out.trans (Butt.of_below A3.out.fix.lt HBX.out));have XN:=jD (XR3.out.below HBX.out)
 have GX:=jD ((TN.out).kept (by simp) FT.out.2.2.2).at
 obtain⟨r0,r1,r2,r3,r4⟩:=FT.out.1
 have GA:=jD FT.out.2.1;have GB:=jD FT.out.2.2.1
 clear FT g0 g1 g2 g3 g4 gf0 gf1 gf2 gf3 gf4
 go_wp2
 refine bodyPost_ret (by simp[results,Tryz.results133,go_sem,r0,r1,r2,r3,r4];rfl) rfl ?_
 exact⟨_,_,_,rfl,GX.out,⟨_,_,_,_,_,rfl,HST.out,HS3.out⟩,GA.out,GB.out⟩
structure Alls (R:Nat) (L:List Tk) (n:Nat):Prop where
 l0:∀ (d:Nat) (st:RSt),st.rem≤n→d+8 * st.rem≤900005→GT 65 R L #[.pointer (some ⟨R,0,none⟩),.int .i64 0] (.lvl 0) d st
 l1:∀ (d:Nat) (st:RSt),st.rem≤n→d+8 * st.rem≤900005→GT 65 R L #[.pointer (some ⟨R,0,none⟩),.int .i64 1] (.lvl 1) d st
 l2:∀ (d:Nat) (st:RSt),st.rem≤n→d+8 * st.rem≤900005→GT 65 R L #[.pointer (some ⟨R,0,none⟩),.int .i64 2] (.lvl 2) d st
 l3:∀ (d:Nat) (st:RSt),st.rem≤n→d+8 * st.rem≤900005→GT 65 R L #[.pointer (some ⟨R,0,none⟩),.int .i64 3] (.lvl 3) d st
 l4:∀ (d:Nat) (st:RSt),st.rem≤n→d+8 * st.rem≤900005→GT 65 R L #[.pointer (some ⟨R,0,none⟩),.int .i64 4] (.lvl 4) d st
 l5:∀ (d:Nat) (st:RSt),st.rem≤n→d+8 * st.rem≤900005→GT 65 R L #[.pointer (some ⟨R,0,none⟩),.int .i64 5] (.lvl 5) d st
 l6:∀ (d:Nat) (st:RSt),st.rem≤n→d+8 * st.rem≤900005→GT 65 R L #[.pointer (some ⟨R,0,none⟩),.int .i64 6] (.lvl 6) d st
 l7:∀ (d:Nat) (st:RSt),st.rem≤n→d+8 * st.rem≤900005→GT 65 R L #[.pointer (some ⟨R,0,none⟩),.int .i64 7] (.lvl 7) d st
 stmts:∀ (d:Nat) (st:RSt),st.rem≤n→d+8 * st.rem≤900005→GL 115 R L #[.pointer (some ⟨R,0,none⟩)] .stmts d st
 block:∀ (d:Nat) (st:RSt),st.rem≤n→d+8 * st.rem≤900004→GT 137 R L #[.pointer (some ⟨R,0,none⟩)] .block d st
 branches:∀ (d:Nat) (st:RSt) (t:Tk),st.rem≤n→d+8 * st.rem≤900003→GT 136 R L #[.pointer (some ⟨R,0,none⟩),tkA t] (.chain t.a) d st
theorem jmA (st:RSt):jad true st=jaq st:=by cases st<;>rfl
theorem jdO {R d:Nat} {L:List Tk} {W:World} {st:RSt} (h:At R L W d st) (ht:(cur L st).t≠⟨#[]⟩):(jaV L st d true).rem+1≤st.rem:=by
 obtain⟨l,rfl,h1,h2⟩:=rem_less h.fix.toks h ht
 unfold jaV
 split
 ·show 0+1≤l.length
  omega
 ·rw[jmA]
  show (jaq (.ok l)).rem+1≤l.length
  omega
theorem jkx {L:List Tk} {st:RSt} {i:Nat} (h:Lib.containsS (lvO i) (cur L st).t=true):(cur L st).t≠⟨#[]⟩:=jeL h
theorem jgP {R d e:Nat} {L:List Tk} {W:World} {s:RSt} (hL:TkL L) {w:ByteArray} (hw:w≠⟨#[]⟩) (hi:tIs L (jaq s) w=true) (h:At R L W e (jaV L (jaq s) d true)):(jaV L (jaq s) d true).rem+1≤s.rem:=by
 cases s with
 |bad a e=>
  have:=jbZ hi
  rw[show cur L (jaq (.bad a e))=jcL L from rfl,hL.last.2] at this
  exact absurd this.symm hw
 |ok l=>
  have hl:=jat l
  unfold jaV at h ⊢
  by_cases h64:d=64
  ·rw[if_pos h64] at h ⊢
   show 0+1≤l.length
   have:l≠[]:=by
    rintro rfl
    have:=jbZ hi
    exact hw this.symm
   exact List.length_pos_iff.mpr this
  ·rw[if_neg h64] at h ⊢
   have h2:At R L W e (.ok (pTl (pTl l))):=h
   show (pTl (pTl l)).length+1≤l.length
   have hl2:=jat (pTl l)
   by_cases hlt:(pTl (pTl l)).length+1≤l.length
   ·exact hlt
   ·exfalso
    -- nothing was taken: the last token stands here
    match l,hi,h2,hl,hl2,hlt with
    | [],hi,_,_,_,_=>exact hw (jbZ hi).symm
    | [x],hi,h2,_,_,_=>
     obtain⟨hf,nx,a,er,g1,g2,g3⟩:=h2
     rcases g3 with ⟨-,-,g3⟩|⟨-,-,g3⟩
     ·have e1:[x]=L.drop nx:=by injection g3 with g4
      have e2:nx=L.length-1:=by
       have:=congrArg List.length e1
       rw[List.length_drop] at this
       simp at this
       omega
      have e3:x=jcL L:=by
       have:=jcW g1
       rw[←e1] at this
       injection this with e5 _
       rw[e5,e2];rfl
      have e4:=jbZ hi
      rw[show cur L (jaq (.ok [x]))=x from rfl,e3,hL.last.2] at e4
      exact hw e4.symm
     ·cases g3
    |x::y::r,hi,h2,hl,hl2,hlt=>
     have:(pTl (x::y::r)).length+1=(x::y::r).length:=by simp[pTl]
     omega
theorem alls {R:Nat} {L:List Tk} (hNm:∀ n,(tkD L n).t=⟨#[110,97,109,101]⟩→isN (tkD L n)=true) (hN:NumL L):∀ n,Alls R L n:=by
 intro n
 induction n using Nat.strongRecOn with
 |_ n ih=>
 -- the levels
 have h7:∀ (d:Nat) (st:RSt),st.rem≤n→d+8 * st.rem≤900005→GT 65 R L #[.pointer (some ⟨R,0,none⟩),.int .i64 7] (.lvl 7) d st:=fun d st hr hd W h=>
  jlv h (fun W2 h2=>jmI h2 (by omega) (fun hb W3 h3=>by
   have hl:=jdO h2 (jb9 (by decide) hb)
   exact jcf h3 (fun W4 h4=>(ih _ (by omega)).l0 (d+1) _ (jrr _) (by omega) W4 h4)))
 have h6:∀ (d:Nat) (st:RSt),st.rem≤n→d+8 * st.rem≤900005→GT 65 R L #[.pointer (some ⟨R,0,none⟩),.int .i64 6] (.lvl 6) d st:=fun d st hr hd W h=>
  jlu h (fun W2 hh=>jii hh (by omega) (h7 d st hr hd) (fun hb W3 h3=>by
   have hl:=jdO hh (jkx hb)
   exact(ih _ (by omega)).l6 (d+1) _ (jrr _) (by omega) W3 h3))
 have h5:∀ (d:Nat) (st:RSt),st.rem≤n→d+8 * st.rem≤900005→GT 65 R L #[.pointer (some ⟨R,0,none⟩),.int .i64 5] (.lvl 5) d st:=fun d st hr hd W h=>
  jlt h (fun W2 hh=>jim hh (fun s hs=>h6 d s (Nat.le_trans hs hr) (by omega)))
 have h4:∀ (d:Nat) (st:RSt),st.rem≤n→d+8 * st.rem≤900005→GT 65 R L #[.pointer (some ⟨R,0,none⟩),.int .i64 4] (.lvl 4) d st:=fun d st hr hd W h=>
  jls h (fun W2 hh=>jil hh (fun s hs=>h5 d s (Nat.le_trans hs hr) (by omega)))
 have h3:∀ (d:Nat) (st:RSt),st.rem≤n→d+8 * st.rem≤900005→GT 65 R L #[.pointer (some ⟨R,0,none⟩),.int .i64 3] (.lvl 3) d st:=fun d st hr hd W h=>
  jlr h (fun W2 hh=>jjb hh (fun s hs=>h4 d s (Nat.le_trans hs hr) (by omega)))
 have h2:∀ (d:Nat) (st:RSt),st.rem≤n→d+8 * st.rem≤900005→GT 65 R L #[.pointer (some ⟨R,0,none⟩),.int .i64 2] (.lvl 2) d st:=fun d st hr hd W h=>
  jlq h (fun W2 hh=>jih hh (by omega) (h3 d st hr hd) (fun hb W3 h3=>by
   have hl:=jdO hh (jkx hb)
   exact(ih _ (by omega)).l2 (d+1) _ (jrr _) (by omega) W3 h3))
 have h1:∀ (d:Nat) (st:RSt),st.rem≤n→d+8 * st.rem≤900005→GT 65 R L #[.pointer (some ⟨R,0,none⟩),.int .i64 1] (.lvl 1) d st:=fun d st hr hd W h=>
  jlp h (fun W2 hh=>jik hh (fun s hs=>h2 d s (Nat.le_trans hs hr) (by omega)))
 have h0:∀ (d:Nat) (st:RSt),st.rem≤n→d+8 * st.rem≤900005→GT 65 R L #[.pointer (some ⟨R,0,none⟩),.int .i64 0] (.lvl 0) d st:=fun d st hr hd W h=>
  jlo h (fun W2 hh=>jij hh (fun s hs=>h1 d s (Nat.le_trans hs hr) (by omega)))
 have hc:∀ (d:Nat) (st:RSt),st.rem≤n→d+8 * st.rem≤900005→GT 31 R L #[.pointer (some ⟨R,0,none⟩)] (.lvl 0) d st:=fun d st hr hd W h=>jcf h (h0 d st hr hd)
 have he:∀ (d:Nat) (st:RSt),st.rem≤n→d+8 * st.rem≤900005→GT 32 R L #[.pointer (some ⟨R,0,none⟩)] (.lvl 4) d st:=fun d st hr hd W h=>jcM h (h4 d st hr hd)
 have hs:∀ (d:Nat) (st:RSt),st.rem≤n→d+8 * st.rem≤900005→GL 115 R L #[.pointer (some ⟨R,0,none⟩)] .stmts d st:=fun d st hr hd W h=>by
  have hL:=h.fix.toks
  refine jeZ h hNm ?_ ?_ ?_ ?_ ?_
  ·intro s hs hb W2 h2
   have hx:∀ s2:RSt,s2.rem≤s.rem→GT 32 R L #[.pointer (some ⟨R,0,none⟩)] (.lvl 4) d s2:=fun s2 h3=>he d s2 (by omega) (by omega)
   have hload:∀ s2:RSt,s2.rem≤s.rem→∀ W:World,At R L W d s2→Calls Tryz.prog 148 #[.pointer (some ⟨R,0,none⟩)] W (PS R L (fun x st'=>∃ a t i,x = .mk 16 a t 0 [i]∧Stp .load d s2 [x] st') d W):=fun s2 h3 W H=>jm5 H (fun s3 h4=>hx s3 (Nat.le_trans h4 h3))
   have hcall:∀ s2:RSt,s2.rem≤s.rem→GT 134 R L #[.pointer (some ⟨R,0,none⟩)] .call d s2:=fun s2 h3 W H=>jm6 H (fun s3 h4=>hx s3 (Nat.le_trans h4 h3))
   exact jgL h2 hb (fun W H=>jlL H (hload s (jrr _)) (fun s3 h4=>hx s3 h4)) (hcall s (jrr _)) (fun s3 h4 W H=>jlI H (hload s3 h4) (hcall s3 h4) (hx s3 h4))
  ·intro s hs hb hi W2 h2
   obtain⟨l,e,h3,h4⟩:=rem_less hL h2 (jb9 (by decide) hi)
   have e2:s.rem=l.length:=by rw[e];rfl
   refine(jkY h2 hi (fun t ht=>?_)).mono ?_
   ·exact(ih (jaq s).rem (by omega)).branches d (jaq s) t (jrr _) (by omega)
   ·rintro e w' ⟨x,v,st',he,hx,hst,ha,hbt⟩
    exact⟨x,v,st',he,hx,jkV h2.fine hb hi hst,ha,hbt⟩
  ·intro s hs hb hi hw W2 h2
   obtain⟨l,e,h3,h4⟩:=rem_less hL h2 (jb9 (by decide) hw)
   have e2:s.rem=l.length:=by rw[e];rfl
   refine(jm7 h2 hw (hc d _ (by have:=ja6 s;omega) (by have:=ja6 s;omega)) (fun s2 h5=>(ih s2.rem (by omega)).block d s2 (jrr _) (by omega))).mono ?_
   rintro e w' ⟨x,v,st',he,hx,hst,ha,hbt⟩
   exact⟨x,v,st',he,hx,jft h2.fine hb hi hw hst,ha,hbt⟩
  ·intro q s hs hb hi hw hass W2 h2 hq hqR hql
   refine(jkW q hq hqR hql h2 (hc d _ (by have:=ja6 s;omega) (by have:=ja6 s;omega))).mono ?_
   rintro e w' ⟨x,v,st',he,hx,hst,ha,hbt⟩
   exact⟨x,v,st',he,hx,je3 h2.fine hb hi hw hass hst,ha,hbt⟩
  ·intro q s hs hb hi hw hass hasm W2 h2 hq hqR hql
   refine(jkX q hq hqR hql h2 (hc d _ (by have:=ja6 s;omega) (by have:=ja6 s;omega))).mono ?_
   rintro e w' ⟨x,v,st',he,hx,hst,ha,hbt⟩
   exact⟨x,v,st',he,hx,je4 h2.fine hb hi hw hass hst,ha,hbt⟩
 have hre:∀ (d:Nat) (st:RSt) (b:Bool),(jaV L st d b).rem≤st.rem:=fun d st b=>by
  unfold jaV
  split
  ·refine Nat.le_trans ?_ (jb8 (can:=b) (st:=st))
   cases jad b st with
   |ok l=>exact Nat.zero_le _
   |bad a e=>exact jrr _
  ·exact jb8
 have hb:∀ (d:Nat) (st:RSt),st.rem≤n→d+8 * st.rem≤900004→GT 137 R L #[.pointer (some ⟨R,0,none⟩)] .block d st:=fun d st hr hd W h=>
  jlJ h (by omega) (hs (d+1) _ (Nat.le_trans (hre _ _ _) hr) (by have:=hre d st (tIs L st ⟨#[123]⟩);omega))
 have hbr:∀ (d:Nat) (st:RSt) (t:Tk),st.rem≤n→d+8 * st.rem≤900003→GT 136 R L #[.pointer (some ⟨R,0,none⟩),tkA t] (.chain t.a) d st:=fun d st t hr hd W h=>
  jiH h t.k t.t t.a (by omega) (hc d st hr (by omega)) (fun s h2=>hb d s (by omega) (by omega)) (fun s h2 hi t2 ht W2 h3=>by
   have hl:=jgP h3.fix.toks (by decide) hi h3
   exact(ih _ (by omega)).branches (d+1) _ t2 (jrr _) (by omega) W2 h3)
 exact⟨h0,h1,h2,h3,h4,h5,h6,h7,hs,hb,hbr⟩
section
variable {R:Nat} {L:List Tk} (hNm:∀ n,(tkD L n).t=⟨#[110,97,109,101]⟩→isN (tkD L n)=true) (hN:NumL L)
include hNm hN
theorem jfF {w:World} {st:RSt} (h:At R L w 0 st):Calls Tryz.prog 31 #[.pointer (some ⟨R,0,none⟩)] w (PT R L (.lvl 0) 0 st w):=
 jcf h ((alls hNm hN st.rem).l0 0 st (jrr _) (by have:=h.rem;omega))
theorem jfa {w:World} {st:RSt} (h:At R L w 0 st):Calls Tryz.prog 32 #[.pointer (some ⟨R,0,none⟩)] w (PT R L (.lvl 4) 0 st w):=
 jcM h ((alls hNm hN st.rem).l4 0 st (jrr _) (by have:=h.rem;omega))
theorem jd7 {w:World} {st:RSt} (h:At R L w 0 st):Calls Tryz.prog 39 #[.pointer (some ⟨R,0,none⟩)] w (PT R L .proc 0 st w):=by
 have hr:=h.rem
 refine jhZ h (fun s hs W H=>jcf H ((alls hNm hN s.rem).l0 0 s (jrr _) (by omega))) (fun s hs W H=>jm9 H (by omega) hN (fun s2 h2 W2 H2=>?_))
 have hre:(jaV L s 0 (tIs L s ⟨#[123]⟩)).rem≤s.rem:=Run.rem (jct (L:=L) (d:=0) H.fine [123])
 exact(alls hNm hN s2.rem).stmts 1 s2 (jrr _) (by omega) W2 H2
theorem jgQ {w:World} {st:RSt} (h:At R L w 0 st):Calls Tryz.prog 16 #[.pointer (some ⟨R,0,none⟩)] w (fun e W'=>∃ xs v st',e = .returned v∧synAt w.heap.size W' (.mk 0 (cur L st).a ⟨#[]⟩ 0 xs) v∧Stp (.program (cur L st).a) 0 st xs st'∧At R L W' 0 st'∧Butt R w W'):=
 jjK h (fun s hs W H=>jd7 hNm hN H)
end
theorem jav (W:World) (c:Array Value) (t:TypeId) (p:Nat) (hp:p=W.heap.size) (i:Nat) (v:Value) (hv:c[i]? = some v):(W.alloc (Obj.cells c t)).cell? ⟨p,i,none⟩=some v:=by
 subst hp
 exact(World.cell?_alloc_new W c t i).trans hv
theorem jbG (W:World) (o:Obj):(W.alloc o).heap.size=W.heap.size+1:=by simp
theorem jeA (R:Nat) (w:World) (hR:R<w.heap.size) :
  Calls Tryz.prog 69 #[.pointer (some ⟨R,0,none⟩)] w fun e w'=>∃ b,e = .returned (.slice (some ⟨b,0,none⟩) 8 8)∧b≠R∧b<w'.heap.size ∧
   (∀ i,i<8→w'.cell? ⟨b,2 * i,none⟩=some (.func (.func (lvF i)) #[.pointer (some ⟨R,0,none⟩)] #[])∧∃ v,w'.cell? ⟨b,2 * i+1,none⟩=some v∧opsAt R w' (lvO i) v)∧Below w.heap.size w w':=by
 have HR:=jD hR
 clear hR
 go_enter Tryz.func69,Tryz.ntmps69
 go_wp2
 go_ret
 have hR:=HR.out
 generalize hW1:World.alloc w (Obj.cells #[.string ⟨#[111,114]⟩] 9)=W1
 have z1:W1.heap.size=w.heap.size+1:=by rw[←hW1];exact jbG _ _
 have b1:Below w.heap.size w W1:=by rw[←hW1];exact jN _
 have c1_0:W1.cell? ⟨w.heap.size,0,none⟩=some (.string ⟨#[111,114]⟩):=by rw[←hW1];exact jav _ _ _ _ (by omega) _ _ rfl
 generalize hW2:World.alloc W1 (Obj.cells #[.string ⟨#[97,110,100]⟩] 9)=W2
 have z2:W2.heap.size=W1.heap.size+1:=by rw[←hW2];exact jbG _ _
 have b2:Below W1.heap.size W1 W2:=by rw[←hW2];exact jN _
 have c2_0:W2.cell? ⟨w.heap.size+1,0,none⟩=some (.string ⟨#[97,110,100]⟩):=by rw[←hW2];exact jav _ _ _ _ (by omega) _ _ rfl
 generalize hW3:World.alloc W2 (Obj.cells #[.string ⟨#[110,111,116]⟩] 9)=W3
 have z3:W3.heap.size=W2.heap.size+1:=by rw[←hW3];exact jbG _ _
 have b3:Below W2.heap.size W2 W3:=by rw[←hW3];exact jN _
 have c3_0:W3.cell? ⟨w.heap.size+1+1,0,none⟩=some (.string ⟨#[110,111,116]⟩):=by rw[←hW3];exact jav _ _ _ _ (by omega) _ _ rfl
 generalize hW4:World.alloc W3 (Obj.cells #[.string ⟨#[61]⟩,.string ⟨#[33,61]⟩,.string ⟨#[60]⟩,.string ⟨#[60,61]⟩,.string ⟨#[62]⟩,.string ⟨#[62,61]⟩] 9)=W4
 have z4:W4.heap.size=W3.heap.size+1:=by rw[←hW4];exact jbG _ _
 have b4:Below W3.heap.size W3 W4:=by rw[←hW4];exact jN _
 have c4_0:W4.cell? ⟨w.heap.size+1+1+1,0,none⟩=some (.string ⟨#[61]⟩):=by rw[←hW4];exact jav _ _ _ _ (by omega) _ _ rfl
 have c4_1:W4.cell? ⟨w.heap.size+1+1+1,1,none⟩=some (.string ⟨#[33,61]⟩):=by rw[←hW4];exact jav _ _ _ _ (by omega) _ _ rfl
 have c4_2:W4.cell? ⟨w.heap.size+1+1+1,2,none⟩=some (.string ⟨#[60]⟩):=by rw[←hW4];exact jav _ _ _ _ (by omega) _ _ rfl
 have c4_3:W4.cell? ⟨w.heap.size+1+1+1,3,none⟩=some (.string ⟨#[60,61]⟩):=by rw[←hW4];exact jav _ _ _ _ (by omega) _ _ rfl
 have c4_4:W4.cell? ⟨w.heap.size+1+1+1,4,none⟩=some (.string ⟨#[62]⟩):=by rw[←hW4];exact jav _ _ _ _ (by omega) _ _ rfl
 have c4_5:W4.cell? ⟨w.heap.size+1+1+1,5,none⟩=some (.string ⟨#[62,61]⟩):=by rw[←hW4];exact jav _ _ _ _ (by omega) _ _ rfl
 generalize hW5:World.alloc W4 (Obj.cells #[.string ⟨#[43]⟩,.string ⟨#[45]⟩] 9)=W5
 have z5:W5.heap.size=W4.heap.size+1:=by rw[←hW5];exact jbG _ _
 have b5:Below W4.heap.size W4 W5:=by rw[←hW5];exact jN _
 have c5_0:W5.cell? ⟨w.heap.size+1+1+1+1,0,none⟩=some (.string ⟨#[43]⟩):=by rw[←hW5];exact jav _ _ _ _ (by omega) _ _ rfl
 have c5_1:W5.cell? ⟨w.heap.size+1+1+1+1,1,none⟩=some (.string ⟨#[45]⟩):=by rw[←hW5];exact jav _ _ _ _ (by omega) _ _ rfl
 generalize hW6:World.alloc W5 (Obj.cells #[.string ⟨#[42]⟩,.string ⟨#[47]⟩,.string ⟨#[37]⟩] 9)=W6
 have z6:W6.heap.size=W5.heap.size+1:=by rw[←hW6];exact jbG _ _
 have b6:Below W5.heap.size W5 W6:=by rw[←hW6];exact jN _
 have c6_0:W6.cell? ⟨w.heap.size+1+1+1+1+1,0,none⟩=some (.string ⟨#[42]⟩):=by rw[←hW6];exact jav _ _ _ _ (by omega) _ _ rfl
 have c6_1:W6.cell? ⟨w.heap.size+1+1+1+1+1,1,none⟩=some (.string ⟨#[47]⟩):=by rw[←hW6];exact jav _ _ _ _ (by omega) _ _ rfl
 have c6_2:W6.cell? ⟨w.heap.size+1+1+1+1+1,2,none⟩=some (.string ⟨#[37]⟩):=by rw[←hW6];exact jav _ _ _ _ (by omega) _ _ rfl
 generalize hW7:World.alloc W6 (Obj.cells #[.string ⟨#[45]⟩] 9)=W7
 have z7:W7.heap.size=W6.heap.size+1:=by rw[←hW7];exact jbG _ _
 have b7:Below W6.heap.size W6 W7:=by rw[←hW7];exact jN _
 have c7_0:W7.cell? ⟨w.heap.size+1+1+1+1+1+1,0,none⟩=some (.string ⟨#[45]⟩):=by rw[←hW7];exact jav _ _ _ _ (by omega) _ _ rfl
 generalize hW8:World.alloc W7 (Obj.cells #[.func (.func 98) #[.pointer (some ⟨R,0,none⟩)] #[],.slice (some ⟨w.heap.size,0,none⟩) 1 1,.func (.func 98) #[.pointer (some ⟨R,0,none⟩)] #[],.slice (some ⟨w.heap.size+1,0,none⟩) 1 1,.func (.func 99) #[.pointer (some ⟨R,0,none⟩)] #[],.slice (some ⟨w.heap.size+1+1,0,none⟩) 1 1,.func (.func 100) #[.pointer (some ⟨R,0,none⟩)] #[],.slice (some ⟨w.heap.size+1+1+1,0,none⟩) 6 6,.func (.func 98) #[.pointer (some ⟨R,0,none⟩)] #[],.slice (some ⟨w.heap.size+1+1+1+1,0,none⟩) 2 2,.func (.func 98) #[.pointer (some ⟨R,0,none⟩)] #[],.slice (some ⟨w.heap.size+1+1+1+1+1,0,none⟩) 3 3,.func (.func 99) #[.pointer (some ⟨R,0,none⟩)] #[],.slice (some ⟨w.heap.size+1+1+1+1+1+1,0,none⟩) 1 1,.func (.func 101) #[.pointer (some ⟨R,0,none⟩)] #[],.slice none 0 0] 103)=W8
 have z8:W8.heap.size=W7.heap.size+1:=by rw[←hW8];exact jbG _ _
 have b8:Below W7.heap.size W7 W8:=by rw[←hW8];exact jN _
 have c8_0:W8.cell? ⟨w.heap.size+1+1+1+1+1+1+1,0,none⟩=some (.func (.func 98) #[.pointer (some ⟨R,0,none⟩)] #[]):=by rw[←hW8];exact jav _ _ _ _ (by omega) _ _ rfl
 have c8_1:W8.cell? ⟨w.heap.size+1+1+1+1+1+1+1,1,none⟩=some (.slice (some ⟨w.heap.size,0,none⟩) 1 1):=by rw[←hW8];exact jav _ _ _ _ (by omega) _ _ rfl
 have c8_2:W8.cell? ⟨w.heap.size+1+1+1+1+1+1+1,2,none⟩=some (.func (.func 98) #[.pointer (some ⟨R,0,none⟩)] #[]):=by rw[←hW8];exact jav _ _ _ _ (by omega) _ _ rfl
 have c8_3:W8.cell? ⟨w.heap.size+1+1+1+1+1+1+1,3,none⟩=some (.slice (some ⟨w.heap.size+1,0,none⟩) 1 1):=by rw[←hW8];exact jav _ _ _ _ (by omega) _ _ rfl
 have c8_4:W8.cell? ⟨w.heap.size+1+1+1+1+1+1+1,4,none⟩=some (.func (.func 99) #[.pointer (some ⟨R,0,none⟩)] #[]):=by rw[←hW8];exact jav _ _ _ _ (by omega) _ _ rfl
 have c8_5:W8.cell? ⟨w.heap.size+1+1+1+1+1+1+1,5,none⟩=some (.slice (some ⟨w.heap.size+1+1,0,none⟩) 1 1):=by rw[←hW8];exact jav _ _ _ _ (by omega) _ _ rfl
 have c8_6:W8.cell? ⟨w.heap.size+1+1+1+1+1+1+1,6,none⟩=some (.func (.func 100) #[.pointer (some ⟨R,0,none⟩)] #[]):=by rw[←hW8];exact jav _ _ _ _ (by omega) _ _ rfl
 have c8_7:W8.cell? ⟨w.heap.size+1+1+1+1+1+1+1,7,none⟩=some (.slice (some ⟨w.heap.size+1+1+1,0,none⟩) 6 6):=by rw[←hW8];exact jav _ _ _ _ (by omega) _ _ rfl
 have c8_8:W8.cell? ⟨w.heap.size+1+1+1+1+1+1+1,8,none⟩=some (.func (.func 98) #[.pointer (some ⟨R,0,none⟩)] #[]):=by rw[←hW8];exact jav _ _ _ _ (by omega) _ _ rfl
 have c8_9:W8.cell? ⟨w.heap.size+1+1+1+1+1+1+1,9,none⟩=some (.slice (some ⟨w.heap.size+1+1+1+1,0,none⟩) 2 2):=by rw[←hW8];exact jav _ _ _ _ (by omega) _ _ rfl
 have c8_10:W8.cell? ⟨w.heap.size+1+1+1+1+1+1+1,10,none⟩=some (.func (.func 98) #[.pointer (some ⟨R,0,none⟩)] #[]):=by rw[←hW8];exact jav _ _ _ _ (by omega) _ _ rfl
 have c8_11:W8.cell? ⟨w.heap.size+1+1+1+1+1+1+1,11,none⟩=some (.slice (some ⟨w.heap.size+1+1+1+1+1,0,none⟩) 3 3):=by rw[←hW8];exact jav _ _ _ _ (by omega) _ _ rfl
 have c8_12:W8.cell? ⟨w.heap.size+1+1+1+1+1+1+1,12,none⟩=some (.func (.func 99) #[.pointer (some ⟨R,0,none⟩)] #[]):=by rw[←hW8];exact jav _ _ _ _ (by omega) _ _ rfl
 have c8_13:W8.cell? ⟨w.heap.size+1+1+1+1+1+1+1,13,none⟩=some (.slice (some ⟨w.heap.size+1+1+1+1+1+1,0,none⟩) 1 1):=by rw[←hW8];exact jav _ _ _ _ (by omega) _ _ rfl
 have c8_14:W8.cell? ⟨w.heap.size+1+1+1+1+1+1+1,14,none⟩=some (.func (.func 101) #[.pointer (some ⟨R,0,none⟩)] #[]):=by rw[←hW8];exact jav _ _ _ _ (by omega) _ _ rfl
 have c8_15:W8.cell? ⟨w.heap.size+1+1+1+1+1+1+1,15,none⟩=some (.slice none 0 0):=by rw[←hW8];exact jav _ _ _ _ (by omega) _ _ rfl
 have d8:Below W8.heap.size W8 W8:=Below.refl _ _
 have d7:Below W7.heap.size W7 W8:=Below.chain b8 d8
 have d6:Below W6.heap.size W6 W8:=Below.chain b7 d7
 have d5:Below W5.heap.size W5 W8:=Below.chain b6 d6
 have d4:Below W4.heap.size W4 W8:=Below.chain b5 d5
 have d3:Below W3.heap.size W3 W8:=Below.chain b4 d4
 have d2:Below W2.heap.size W2 W8:=Below.chain b3 d3
 have d1:Below W1.heap.size W1 W8:=Below.chain b2 d2
 have d0:Below w.heap.size w W8:=Below.chain b1 d1
 refine⟨w.heap.size+1+1+1+1+1+1+1,rfl,by omega,by omega,fun i hi=>?_,d0⟩
 match i,hi with
 |0,_=>
  refine⟨c8_0,_,c8_1,.inr ⟨w.heap.size,rfl,by omega,by omega,fun j hj=>?_⟩⟩
  match j,hj with
  |0,_=>exact(d1.cell (p:=⟨w.heap.size,0,none⟩) (show w.heap.size<W1.heap.size by omega)).trans c1_0
 |1,_=>
  refine⟨c8_2,_,c8_3,.inr ⟨w.heap.size+1,rfl,by omega,by omega,fun j hj=>?_⟩⟩
  match j,hj with
  |0,_=>exact(d2.cell (p:=⟨w.heap.size+1,0,none⟩) (show w.heap.size+1<W2.heap.size by omega)).trans c2_0
 |2,_=>
  refine⟨c8_4,_,c8_5,.inr ⟨w.heap.size+1+1,rfl,by omega,by omega,fun j hj=>?_⟩⟩
  match j,hj with
  |0,_=>exact(d3.cell (p:=⟨w.heap.size+1+1,0,none⟩) (show w.heap.size+1+1<W3.heap.size by omega)).trans c3_0
 |3,_=>
  refine⟨c8_6,_,c8_7,.inr ⟨w.heap.size+1+1+1,rfl,by omega,by omega,fun j hj=>?_⟩⟩
  match j,hj with
  |0,_=>exact(d4.cell (p:=⟨w.heap.size+1+1+1,0,none⟩) (show w.heap.size+1+1+1<W4.heap.size by omega)).trans c4_0
  |1,_=>exact(d4.cell (p:=⟨w.heap.size+1+1+1,1,none⟩) (show w.heap.size+1+1+1<W4.heap.size by omega)).trans c4_1
  |2,_=>exact(d4.cell (p:=⟨w.heap.size+1+1+1,2,none⟩) (show w.heap.size+1+1+1<W4.heap.size by omega)).trans c4_2
  |3,_=>exact(d4.cell (p:=⟨w.heap.size+1+1+1,3,none⟩) (show w.heap.size+1+1+1<W4.heap.size by omega)).trans c4_3
  |4,_=>exact(d4.cell (p:=⟨w.heap.size+1+1+1,4,none⟩) (show w.heap.size+1+1+1<W4.heap.size by omega)).trans c4_4
  |5,_=>exact(d4.cell (p:=⟨w.heap.size+1+1+1,5,none⟩) (show w.heap.size+1+1+1<W4.heap.size by omega)).trans c4_5
 |4,_=>
  refine⟨c8_8,_,c8_9,.inr ⟨w.heap.size+1+1+1+1,rfl,by omega,by omega,fun j hj=>?_⟩⟩
  match j,hj with
  |0,_=>exact(d5.cell (p:=⟨w.heap.size+1+1+1+1,0,none⟩) (show w.heap.size+1+1+1+1<W5.heap.size by omega)).trans c5_0
  |1,_=>exact(d5.cell (p:=⟨w.heap.size+1+1+1+1,1,none⟩) (show w.heap.size+1+1+1+1<W5.heap.size by omega)).trans c5_1
 |5,_=>
  refine⟨c8_10,_,c8_11,.inr ⟨w.heap.size+1+1+1+1+1,rfl,by omega,by omega,fun j hj=>?_⟩⟩
  match j,hj with
  |0,_=>exact(d6.cell (p:=⟨w.heap.size+1+1+1+1+1,0,none⟩) (show w.heap.size+1+1+1+1+1<W6.heap.size by omega)).trans c6_0
  |1,_=>exact(d6.cell (p:=⟨w.heap.size+1+1+1+1+1,1,none⟩) (show w.heap.size+1+1+1+1+1<W6.heap.size by omega)).trans c6_1
  |2,_=>exact(d6.cell (p:=⟨w.heap.size+1+1+1+1+1,2,none⟩) (show w.heap.size+1+1+1+1+1<W6.heap.size by omega)).trans c6_2
 |6,_=>
  refine⟨c8_12,_,c8_13,.inr ⟨w.heap.size+1+1+1+1+1+1,rfl,by omega,by omega,fun j hj=>?_⟩⟩
  match j,hj with
  |0,_=>exact(d7.cell (p:=⟨w.heap.size+1+1+1+1+1+1,0,none⟩) (show w.heap.size+1+1+1+1+1+1<W7.heap.size by omega)).trans c7_0
 |7,_=>
  exact⟨c8_14,_,c8_15,.inl ⟨rfl,rfl⟩⟩
end Go.Proofs.YtenmmmdnpglkoaaGreatDoor
