import Derived.Test.YtenmmmdnpglkoaaGreatDoorCut22
set_option linter.unusedSimpArgs false
set_option linter.unusedVariables false
set_option maxRecDepth 100000
set_option maxHeartbeats 8000000
/-
 The reference's reader: negations.
-/
namespace Go.Proofs.YtenmmmdnpglkoaaGreatDoor
open Go Go.Proofs Go.RowKit Go.Sort
theorem Rf.err0 {R d:Nat} {L l:List Tk} {W:World} (h:Rf R L W d (.ok l)):W.cell? ⟨R,3,none⟩=some (.int .i64 0):=by
 obtain⟨z,h1,h2⟩:=h.err
 rw[h1,show z=0 from beq_iff_eq.mp h2]
theorem Rf.err1 {R d e:Nat} {a:Int} {L:List Tk} {W:World} (h:Rf R L W d (.bad a e)):∃ z:Int,W.cell? ⟨R,3,none⟩=some (.int .i64 z)∧(z==(0:Int))=false∧(z != (0:Int))=true:=by
 obtain⟨z,h1,h2⟩:=h.err
 exact⟨z,h1,h2,by rw[bne,show (z==(0:Int))=false from h2];rfl⟩
theorem jbQ {R d:Nat} {L l:List Tk} {w:World} (h:Rf R L w d (.ok l)):Calls Tryz.prog 48 #[.pointer (some ⟨R,0,none⟩)] w fun e w'=>e = .returned (.int .i64 (pHd l).a)∧Rf R L w' d (.ok l)∧Butt R w w':=by
 refine(jcy h).mono ?_
 rintro e w' ⟨z,rfl,hz,ha,hb⟩
 exact⟨by rw[hz l rfl],ha,hb⟩
theorem jhg {s:List UInt8} {l:List Tk} (h:pIs s l=true):(pHd l).t=⟨s.toArray⟩:=jb4.mpr (beq_iff_eq.mp h)
theorem jk4 {L l:List Tk} {i:Nat} {s:List UInt8} (hs:pOps i=[s]):Lib.containsS (lvO i) (cur L (.ok l)).t=pIs s l:=by
 rw[jdj]
 unfold pOp pIs
 rw[hs]
 simp only[List.contains_cons,List.contains_nil,Bool.or_false]
theorem jf4 {L:List Tk} (hL:TkL L) {i d:Nat} {st st':RSt} {x:Syn} {s:List UInt8} (hi:i=2∨i=6) (hs:pOps i=[s]) (hb:rIs st s=false) (hx:Stp (.lvl (i+1)) d st [x] st'):Stp (.lvl i) d st [x] st':=by
 cases st with
 |bad a e=>exact hx
 |ok l=>exact jeI hL hi ((jk4 hs).trans hb) hx
theorem jef {i d:Nat} {l:List Tk} {x:Syn} {s:List UInt8} (hi:i=2∨i=6) (hs:pOps i=[s]) (hb:pIs s l=true) (hd:d=64):Stp (.lvl i) d (.ok l) [x] (.bad (pHd l).a 12):=by
 have hb2:pOp i l=true:=by unfold pOp;rw[hs];simp only[List.contains_cons,List.contains_nil,Bool.or_false];exact hb
 exact jbj (by decide) 0 fun f hf=>by rw[jaf,if_pos hi,if_pos hb2,if_pos hd]
theorem jeO {L:List Tk} (hL:TkL L) {i d:Nat} {l:List Tk} {x:Syn} {s:List UInt8} {z:Int} {st':RSt} (hi:i=2∨i=6) (hs:pOps i=[s]) (hb:pIs s l=true) (hd:d≠64) (hz:hasA (.ok l) z) (hx:Stp (.lvl i) (d+1) (.ok (pTl l)) [x] st'):Stp (.lvl i) d (.ok l) [.mk 21 z ⟨s.toArray⟩ 0 [x]] st':=by
 obtain rfl:=hz l rfl
 rw[←jhg hb]
 exact jdR (L:=L) (st:=.ok l) hL hi ((jk4 hs).trans hb) (by rw[show jaV L (.ok l) d true = .ok (pTl l) from if_neg hd];exact hx)
theorem rneg {R:Nat} {L:List Tk} {d:Nat} {st:RSt} {w:World} (h:Rf R L w d st) (hd:d≤64) (K1:GF 123 R L #[.pointer (some ⟨R,0,none⟩)] (.lvl 3) d st) (K2:d≠64→∀ l,st = .ok l→pIs [110,111,116] l=true→GF 89 R L #[.pointer (some ⟨R,0,none⟩)] (.lvl 2) (d+1) (.ok (pTl l))) :
  Calls Tryz.prog 89 #[.pointer (some ⟨R,0,none⟩)] w (PF R L (.lvl 2) d st w):=by
 have HTL:=jD h.fix.toks.toks
 have HD:=jD hd
 have CH:=fun W (H:Rf R L W d st)=>jcy H
 have CI:=fun W (H:Rf R L W d st)=>ris H [110,111,116] (by decide)
 cases hb:rIs st [110,111,116] with
 |false=>
  rw[hb] at CI
  have HBB:=jD hb;have KH:=jD CH;have KI:=jD CI;have KK:=jD K1
  have HA0:=jD h
  have HLT:=jD h.fix.lt;have HRW:=jD h.fix.lt
  have A0:=jD (h.alloc jZ);obtain⟨B0,XR0,HPR,HLS⟩:=jS h.fix.lt
  clear h CH CI K1 K2 hb hd
  go_enter Tryz.func89,Tryz.ntmps89
  go_wp2_with (go_at_call 48;refine cM (KH.out _ A0) ?_;rintro e w1 ⟨z1,rfl,hz1,ha1,hb1⟩)
  have HZ1:=jD hz1
  have A1:=jD ha1;have B1:=jtt B0 hb1
  have XR1:=jbb XR0 HPR hb1
  clear ha1 hb1 hz1
  refine jD ?_
  go_wp2_with (go_at_call 49;refine jR (KI.out _ A1) B1 XR1 HPR fun w2 A2 B2 XR2=>?_)
  refine jD ?_
  go_wp2_with (go_at_call 123;refine jT (KK.out _ A2) B2 XR2 HPR fun w3 k3 a3 t3 n3 o3 l3 c3 q3 s3 HS3 TR3 A3 B3 XR3=>?_)
  refine jD ?_
  have FT:=jD (jas HA0 B3 A3 XR3 (jrr _) (.int .i64 k3) (.int .i64 a3) (.string t3) (.int .i64 n3) (.slice o3 l3 c3) _ rfl)
  have GX:=jD ((TR3.out).kept (by simp) FT.out.2.2.2).at
  obtain⟨yXR0,yXR1,yXR2,yXR3,yXR4,fXR0,fXR1,fXR2,fXR3,fXR4⟩:=bF XR3
  obtain⟨r0,r1,r2,r3,r4⟩:=FT.out.1
  have GA:=jD FT.out.2.1;have GB:=jD FT.out.2.2.1
  clear FT
  go_wp2
  refine bodyPost_ret (by simp[results,Tryz.results89,go_sem,r0,r1,r2,r3,r4];rfl) rfl ?_
  exact⟨_,_,_,rfl,GX.out,jf4 HTL (by decide) rfl HBB HS3,GA.out,GB.out⟩
 |true=>
  cases st with
  |bad a e=>exact absurd (show false=true from hb) (by decide)
  |ok l=>
   have hb':pIs [110,111,116] l=true:=hb
   have CL:=fun W (H:Rf R L W d (.ok l))=>jg0 H hd
   have CH:=fun W (H:Rf R L W d (.ok l))=>jbQ H
   rw[hb] at CI
   by_cases h64:d=64
   ·rw[show levS (.ok l) d = .bad (pHd l).a 12 from if_pos h64] at CL
    have CN:=fun W (H:Rf R L W (d+1) (.bad (pHd l).a 12))=>jcu H
    have HM:=jD (fun x=>jef (x:=x) (i:=2) (by decide) rfl hb' h64)
    generalize (pHd l).a=pa at *
    have KH:=jD CH;have KI:=jD CI;have KL:=jD CL;have KN:=jD CN
    have HA0:=jD h
    have HLT:=jD h.fix.lt;have HRW:=jD h.fix.lt
    have A0:=jD (h.alloc jZ);obtain⟨B0,XR0,HPR,HLS⟩:=jS h.fix.lt
    clear h CH CI CL CN K1 K2 hb hb' hd h64
    go_enter Tryz.func89,Tryz.ntmps89
    go_wp2_with (go_at_call 48;refine jR (KH.out _ A0) B0 XR0 HPR fun w1 A1 B1 XR1=>?_)
    refine jD ?_
    go_wp2_with (go_at_call 49;refine jR (KI.out _ A1) B1 XR1 HPR fun w2 A2 B2 XR2=>?_)
    refine jD ?_
    go_wp2_with (go_at_call 86;refine jR (KL.out _ A2) B2 XR2 HPR fun w3 A3 B3 XR3=>?_)
    refine jD ?_
    go_wp2_with (go_at_call 59;refine jR (KN.out _ A3) B3 XR3 HPR fun w4 A4 B4 XR4=>?_)
    refine jD ?_
    have AB:=jD (show Rf R L w4 (d+1) (.bad pa 12) from A4)
    obtain⟨ze,y3,t3,t4⟩:=AB.out.err1
    have AD:=jD (show Rf R L w4 d (.bad pa 12) from AB.out.bad)
    have FT:=jD (jas HA0 B4 AD XR4 (jrr _) (.int .i64 0) (.int .i64 0) (.string ⟨#[]⟩) (.int .i64 0) (.slice none 0 0) _ rfl)
    have GX:=jD (((jac.mpr ⟨_,rfl,Or.inl ⟨rfl,rfl⟩⟩:synIn (offs w.heap.size [w.heap.size]) w4 (.mk 0 0 ⟨#[]⟩ 0 []) _)).kept (by simp) FT.out.2.2.2).at
    obtain⟨yXR0,yXR1,yXR2,yXR3,yXR4,fXR0,fXR1,fXR2,fXR3,fXR4⟩:=bF XR4
    obtain⟨r0,r1,r2,r3,r4⟩:=FT.out.1
    have GA:=jD FT.out.2.1;have GB:=jD FT.out.2.2.1
    clear FT
    go_wp2
    refine bodyPost_ret (by simp[results,Tryz.results89,go_sem,r0,r1,r2,r3,r4];rfl) rfl ?_
    exact⟨_,_,_,rfl,GX.out,HM.out _,GA.out,GB.out⟩
   ·rw[show levS (.ok l) d = .ok l from if_neg h64] at CL
    have CN:=fun W (H:Rf R L W (d+1) (.ok l))=>jcu H
    have K3:=K2 h64 l rfl hb'
    have HM:=jD (fun x s' hx=>jeO (z:=(pHd l).a) (x:=x) (st':=s') HTL (i:=2) (by decide) rfl hb' h64 (fun l' e=>by cases e;rfl) hx)
    generalize (pHd l).a=pa at *
    have KH:=jD CH;have KI:=jD CI;have KL:=jD CL;have KN:=jD CN;have KK:=jD K3
    have HA0:=jD h
    have HLT:=jD h.fix.lt;have HRW:=jD h.fix.lt
    have A0:=jD (h.alloc jZ);obtain⟨B0,XR0,HPR,HLS⟩:=jS h.fix.lt
    clear h CH CI CL CN K1 K2 K3 hb hb' hd h64
    go_enter Tryz.func89,Tryz.ntmps89
    go_wp2_with (go_at_call 48;refine jR (KH.out _ A0) B0 XR0 HPR fun w1 A1 B1 XR1=>?_)
    refine jD ?_
    go_wp2_with (go_at_call 49;refine jR (KI.out _ A1) B1 XR1 HPR fun w2 A2 B2 XR2=>?_)
    refine jD ?_
    go_wp2_with (go_at_call 86;refine jR (KL.out _ A2) B2 XR2 HPR fun w3 A3 B3 XR3=>?_)
    refine jD ?_
    go_wp2_with (go_at_call 59;refine jR (KN.out _ A3) B3 XR3 HPR fun w4 A4 B4 XR4=>?_)
    refine jD ?_
    have AB:=jD (show Rf R L w4 (d+1) (.ok (pTl l)) from A4)
    have y3:=AB.out.err0
    go_wp2_with (go_at_call 89;refine jT (KK.out _ AB) B4 XR4 HPR fun w5 k5 a5 t5 n5 o5 l5 c5 q5 s5 HS5 TR5 A5 B5 XR5=>?_)
    refine jD ?_
    have hAw:offs w.heap.size [w.heap.size] w5.heap.size:=⟨(Nat.le_trans (jrr _) B5.out.size),fun hp=>by simp only[List.mem_cons,List.not_mem_nil,or_false] at hp;have g0:=XR5.out.lt;omega⟩
    have hki:=jaw (flatIn.one (TR5.out)) (by simp) hAw 1 rfl
    have KI6:=jD hki
    clear hAw hki
    go_wp2_with (go_at_call 47;refine cM (jam _ _ _ _ _ _ _) ?_;rintro e w6 ⟨rfl,hq6⟩)
    generalize hwt:(⟨#[110,111,116]⟩:ByteArray)=wt at *
    have hbb:=Below.chain (jN (jO k5 a5 t5 n5 o5 l5 c5)) hq6
    have ha6:=A5.out.below hbb;have hb6:=Butt.of_below (R:=R) A5.out.fix.lt hbb
    have TN6:=jD (jac.mpr ⟨_,rfl,KI6.out.below hq6⟩:synIn (offs w.heap.size [w.heap.size]) w6 (.mk 21 pa wt 0 [(.mk k5 a5 t5 n5 q5)]) (.agg #[.int .i64 21,.int .i64 pa,.string wt,.int .i64 0,.slice (some ⟨w5.heap.size,0,none⟩) 1 1]))
    have A6:=jD ha6;have B6:=jtt B5 hb6
    have XR6:=jbb XR5 HPR hb6
    have TR56:=jvv TR5 HLT hb6
    clear ha6 hb6 hbb hq6
    refine jD ?_
    have A6a:=jD (A6.out.alloc (Obj.cells #[.int .i64 21,.int .i64 pa,.string wt,.int .i64 0,.slice (some ⟨w5.heap.size,0,none⟩) 1 1] 25));have B6a:=jD (B6.out.alloc HRW (Obj.cells #[.int .i64 21,.int .i64 pa,.string wt,.int .i64 0,.slice (some ⟨w5.heap.size,0,none⟩) 1 1] 25))
    have XR6a:=jD (XR6.out.alloc (Obj.cells #[.int .i64 21,.int .i64 pa,.string wt,.int .i64 0,.slice (some ⟨w5.heap.size,0,none⟩) 1 1] 25))
    have TR56a:=jD (TR56.out.butt HLT (Butt.of_below A6.out.fix.lt (jN (Obj.cells #[.int .i64 21,.int .i64 pa,.string wt,.int .i64 0,.slice (some ⟨w5.heap.size,0,none⟩) 1 1] 25))))
    have TN66a:=jD (TN6.out.butt HLT (Butt.of_below A6.out.fix.lt (jN (Obj.cells #[.int .i64 21,.int .i64 pa,.string wt,.int .i64 0,.slice (some ⟨w5.heap.size,0,none⟩) 1 1] 25))))
    have PXX:=nR A6.out.fix.lt
    have XX6a:=jD (Bx5.new w6 (.int .i64 21) (.int .i64 pa) (.string wt) (.int .i64 0) (.slice (some ⟨w5.heap.size,0,none⟩) 1 1))
    obtain⟨zo,zn,yo,fo,uo,ao,bo⟩:=A6a.out.less HD
    have A6o:=jD ao;have B6o:=jtt B6a bo
    have XR6o:=jbb XR6a HPR bo
    have XX6o:=jbb XX6a PXX bo
    have TR56o:=jvv TR56a HLT bo
    have TN66o:=jD (TN66a.out.butt HLT bo)
    clear ao bo
    obtain⟨yXX0,yXX1,yXX2,yXX3,yXX4,-,-⟩:=XX6o.out
    have FT:=jD (jas HA0 B6o A6o XR6o (jrr _) (.int .i64 21) (.int .i64 pa) (.string wt) (.int .i64 0) (.slice (some ⟨w5.heap.size,0,none⟩) 1 1) _ rfl)
    have GX:=jD ((TN66o.out).kept (by simp) FT.out.2.2.2).at
    obtain⟨yXR0,yXR1,yXR2,yXR3,yXR4,fXR0,fXR1,fXR2,fXR3,fXR4⟩:=bF XR6o
    obtain⟨r0,r1,r2,r3,r4⟩:=FT.out.1
    have GA:=jD FT.out.2.1;have GB:=jD FT.out.2.2.1
    clear FT
    go_wp2
    refine bodyPost_ret (by simp[results,Tryz.results89,go_sem,r0,r1,r2,r3,r4];rfl) rfl ?_
    subst hwt;exact⟨_,_,_,rfl,GX.out,HM.out _ _ HS5,GA.out,GB.out⟩
theorem jmp {R:Nat} {L:List Tk} {d:Nat} {st:RSt} {w:World} (h:Rf R L w d st) (hd:d≤64) (K1:GF 124 R L #[.pointer (some ⟨R,0,none⟩)] (.lvl 7) d st) (K2:d≠64→∀ l,st = .ok l→pIs [45] l=true→GF 90 R L #[.pointer (some ⟨R,0,none⟩)] (.lvl 6) (d+1) (.ok (pTl l))) :
  Calls Tryz.prog 90 #[.pointer (some ⟨R,0,none⟩)] w (PF R L (.lvl 6) d st w):=by
 have HTL:=jD h.fix.toks.toks
 have HD:=jD hd
 have CH:=fun W (H:Rf R L W d st)=>jcy H
 have CI:=fun W (H:Rf R L W d st)=>ris H [45] (by decide)
 cases hb:rIs st [45] with
 |false=>
  rw[hb] at CI
  have HBB:=jD hb;have KH:=jD CH;have KI:=jD CI;have KK:=jD K1
  have HA0:=jD h
  have HLT:=jD h.fix.lt;have HRW:=jD h.fix.lt
  have A0:=jD (h.alloc jZ);obtain⟨B0,XR0,HPR,HLS⟩:=jS h.fix.lt
  clear h CH CI K1 K2 hb hd
  go_enter Tryz.func90,Tryz.ntmps90
  go_wp2_with (go_at_call 48;refine cM (KH.out _ A0) ?_;rintro e w1 ⟨z1,rfl,hz1,ha1,hb1⟩)
  have HZ1:=jD hz1
  have A1:=jD ha1;have B1:=jtt B0 hb1
  have XR1:=jbb XR0 HPR hb1
  clear ha1 hb1 hz1
  refine jD ?_
  go_wp2_with (go_at_call 49;refine jR (KI.out _ A1) B1 XR1 HPR fun w2 A2 B2 XR2=>?_)
  refine jD ?_
  go_wp2_with (go_at_call 124;refine jT (KK.out _ A2) B2 XR2 HPR fun w3 k3 a3 t3 n3 o3 l3 c3 q3 s3 HS3 TR3 A3 B3 XR3=>?_)
  refine jD ?_
  have FT:=jD (jas HA0 B3 A3 XR3 (jrr _) (.int .i64 k3) (.int .i64 a3) (.string t3) (.int .i64 n3) (.slice o3 l3 c3) _ rfl)
  have GX:=jD ((TR3.out).kept (by simp) FT.out.2.2.2).at
  obtain⟨yXR0,yXR1,yXR2,yXR3,yXR4,fXR0,fXR1,fXR2,fXR3,fXR4⟩:=bF XR3
  obtain⟨r0,r1,r2,r3,r4⟩:=FT.out.1
  have GA:=jD FT.out.2.1;have GB:=jD FT.out.2.2.1
  clear FT
  go_wp2
  refine bodyPost_ret (by simp[results,Tryz.results90,go_sem,r0,r1,r2,r3,r4];rfl) rfl ?_
  exact⟨_,_,_,rfl,GX.out,jf4 HTL (by decide) rfl HBB HS3,GA.out,GB.out⟩
 |true=>
  cases st with
  |bad a e=>exact absurd (show false=true from hb) (by decide)
  |ok l=>
   have hb':pIs [45] l=true:=hb
   have CL:=fun W (H:Rf R L W d (.ok l))=>jg0 H hd
   have CH:=fun W (H:Rf R L W d (.ok l))=>jbQ H
   rw[hb] at CI
   by_cases h64:d=64
   ·rw[show levS (.ok l) d = .bad (pHd l).a 12 from if_pos h64] at CL
    have CN:=fun W (H:Rf R L W (d+1) (.bad (pHd l).a 12))=>jcu H
    have HM:=jD (fun x=>jef (x:=x) (i:=6) (by decide) rfl hb' h64)
    generalize (pHd l).a=pa at *
    have KH:=jD CH;have KI:=jD CI;have KL:=jD CL;have KN:=jD CN
    have HA0:=jD h
    have HLT:=jD h.fix.lt;have HRW:=jD h.fix.lt
    have A0:=jD (h.alloc jZ);obtain⟨B0,XR0,HPR,HLS⟩:=jS h.fix.lt
    clear h CH CI CL CN K1 K2 hb hb' hd h64
    go_enter Tryz.func90,Tryz.ntmps90
    go_wp2_with (go_at_call 48;refine jR (KH.out _ A0) B0 XR0 HPR fun w1 A1 B1 XR1=>?_)
    refine jD ?_
    go_wp2_with (go_at_call 49;refine jR (KI.out _ A1) B1 XR1 HPR fun w2 A2 B2 XR2=>?_)
    refine jD ?_
    go_wp2_with (go_at_call 86;refine jR (KL.out _ A2) B2 XR2 HPR fun w3 A3 B3 XR3=>?_)
    refine jD ?_
    go_wp2_with (go_at_call 59;refine jR (KN.out _ A3) B3 XR3 HPR fun w4 A4 B4 XR4=>?_)
    refine jD ?_
    have AB:=jD (show Rf R L w4 (d+1) (.bad pa 12) from A4)
    obtain⟨ze,y3,t3,t4⟩:=AB.out.err1
    have AD:=jD (show Rf R L w4 d (.bad pa 12) from AB.out.bad)
    have FT:=jD (jas HA0 B4 AD XR4 (jrr _) (.int .i64 0) (.int .i64 0) (.string ⟨#[]⟩) (.int .i64 0) (.slice none 0 0) _ rfl)
    have GX:=jD (((jac.mpr ⟨_,rfl,Or.inl ⟨rfl,rfl⟩⟩:synIn (offs w.heap.size [w.heap.size]) w4 (.mk 0 0 ⟨#[]⟩ 0 []) _)).kept (by simp) FT.out.2.2.2).at
    obtain⟨yXR0,yXR1,yXR2,yXR3,yXR4,fXR0,fXR1,fXR2,fXR3,fXR4⟩:=bF XR4
    obtain⟨r0,r1,r2,r3,r4⟩:=FT.out.1
    have GA:=jD FT.out.2.1;have GB:=jD FT.out.2.2.1
    clear FT
    go_wp2
    refine bodyPost_ret (by simp[results,Tryz.results90,go_sem,r0,r1,r2,r3,r4];rfl) rfl ?_
    exact⟨_,_,_,rfl,GX.out,HM.out _,GA.out,GB.out⟩
   ·rw[show levS (.ok l) d = .ok l from if_neg h64] at CL
    have CN:=fun W (H:Rf R L W (d+1) (.ok l))=>jcu H
    have K3:=K2 h64 l rfl hb'
    have HM:=jD (fun x s' hx=>jeO (z:=(pHd l).a) (x:=x) (st':=s') HTL (i:=6) (by decide) rfl hb' h64 (fun l' e=>by cases e;rfl) hx)
    generalize (pHd l).a=pa at *
    have KH:=jD CH;have KI:=jD CI;have KL:=jD CL;have KN:=jD CN;have KK:=jD K3
    have HA0:=jD h
    have HLT:=jD h.fix.lt;have HRW:=jD h.fix.lt
    have A0:=jD (h.alloc jZ);obtain⟨B0,XR0,HPR,HLS⟩:=jS h.fix.lt
    clear h CH CI CL CN K1 K2 K3 hb hb' hd h64
    go_enter Tryz.func90,Tryz.ntmps90
    go_wp2_with (go_at_call 48;refine jR (KH.out _ A0) B0 XR0 HPR fun w1 A1 B1 XR1=>?_)
    refine jD ?_
    go_wp2_with (go_at_call 49;refine jR (KI.out _ A1) B1 XR1 HPR fun w2 A2 B2 XR2=>?_)
    refine jD ?_
    go_wp2_with (go_at_call 86;refine jR (KL.out _ A2) B2 XR2 HPR fun w3 A3 B3 XR3=>?_)
    refine jD ?_
    go_wp2_with (go_at_call 59;refine jR (KN.out _ A3) B3 XR3 HPR fun w4 A4 B4 XR4=>?_)
    refine jD ?_
    have AB:=jD (show Rf R L w4 (d+1) (.ok (pTl l)) from A4)
    have y3:=AB.out.err0
    go_wp2_with (go_at_call 90;refine jT (KK.out _ AB) B4 XR4 HPR fun w5 k5 a5 t5 n5 o5 l5 c5 q5 s5 HS5 TR5 A5 B5 XR5=>?_)
    refine jD ?_
    have hAw:offs w.heap.size [w.heap.size] w5.heap.size:=⟨(Nat.le_trans (jrr _) B5.out.size),fun hp=>by simp only[List.mem_cons,List.not_mem_nil,or_false] at hp;have g0:=XR5.out.lt;omega⟩
    have hki:=jaw (flatIn.one (TR5.out)) (by simp) hAw 1 rfl
    have KI6:=jD hki
    clear hAw hki
    go_wp2_with (go_at_call 47;refine cM (jam _ _ _ _ _ _ _) ?_;rintro e w6 ⟨rfl,hq6⟩)
    generalize hwt:(⟨#[45]⟩:ByteArray)=wt at *
    have hbb:=Below.chain (jN (jO k5 a5 t5 n5 o5 l5 c5)) hq6
    have ha6:=A5.out.below hbb;have hb6:=Butt.of_below (R:=R) A5.out.fix.lt hbb
    have TN6:=jD (jac.mpr ⟨_,rfl,KI6.out.below hq6⟩:synIn (offs w.heap.size [w.heap.size]) w6 (.mk 21 pa wt 0 [(.mk k5 a5 t5 n5 q5)]) (.agg #[.int .i64 21,.int .i64 pa,.string wt,.int .i64 0,.slice (some ⟨w5.heap.size,0,none⟩) 1 1]))
    have A6:=jD ha6;have B6:=jtt B5 hb6
    have XR6:=jbb XR5 HPR hb6
    have TR56:=jvv TR5 HLT hb6
    clear ha6 hb6 hbb hq6
    refine jD ?_
    have A6a:=jD (A6.out.alloc (Obj.cells #[.int .i64 21,.int .i64 pa,.string wt,.int .i64 0,.slice (some ⟨w5.heap.size,0,none⟩) 1 1] 25));have B6a:=jD (B6.out.alloc HRW (Obj.cells #[.int .i64 21,.int .i64 pa,.string wt,.int .i64 0,.slice (some ⟨w5.heap.size,0,none⟩) 1 1] 25))
    have XR6a:=jD (XR6.out.alloc (Obj.cells #[.int .i64 21,.int .i64 pa,.string wt,.int .i64 0,.slice (some ⟨w5.heap.size,0,none⟩) 1 1] 25))
    have TR56a:=jD (TR56.out.butt HLT (Butt.of_below A6.out.fix.lt (jN (Obj.cells #[.int .i64 21,.int .i64 pa,.string wt,.int .i64 0,.slice (some ⟨w5.heap.size,0,none⟩) 1 1] 25))))
    have TN66a:=jD (TN6.out.butt HLT (Butt.of_below A6.out.fix.lt (jN (Obj.cells #[.int .i64 21,.int .i64 pa,.string wt,.int .i64 0,.slice (some ⟨w5.heap.size,0,none⟩) 1 1] 25))))
    have PXX:=nR A6.out.fix.lt
    have XX6a:=jD (Bx5.new w6 (.int .i64 21) (.int .i64 pa) (.string wt) (.int .i64 0) (.slice (some ⟨w5.heap.size,0,none⟩) 1 1))
    obtain⟨zo,zn,yo,fo,uo,ao,bo⟩:=A6a.out.less HD
    have A6o:=jD ao;have B6o:=jtt B6a bo
    have XR6o:=jbb XR6a HPR bo
    have XX6o:=jbb XX6a PXX bo
    have TR56o:=jvv TR56a HLT bo
    have TN66o:=jD (TN66a.out.butt HLT bo)
    clear ao bo
    obtain⟨yXX0,yXX1,yXX2,yXX3,yXX4,-,-⟩:=XX6o.out
    have FT:=jD (jas HA0 B6o A6o XR6o (jrr _) (.int .i64 21) (.int .i64 pa) (.string wt) (.int .i64 0) (.slice (some ⟨w5.heap.size,0,none⟩) 1 1) _ rfl)
    have GX:=jD ((TN66o.out).kept (by simp) FT.out.2.2.2).at
    obtain⟨yXR0,yXR1,yXR2,yXR3,yXR4,fXR0,fXR1,fXR2,fXR3,fXR4⟩:=bF XR6o
    obtain⟨r0,r1,r2,r3,r4⟩:=FT.out.1
    have GA:=jD FT.out.2.1;have GB:=jD FT.out.2.2.1
    clear FT
    go_wp2
    refine bodyPost_ret (by simp[results,Tryz.results90,go_sem,r0,r1,r2,r3,r4];rfl) rfl ?_
    subst hwt;exact⟨_,_,_,rfl,GX.out,HM.out _ _ HS5,GA.out,GB.out⟩
theorem Rf.nums {R d:Nat} {L l:List Tk} {W:World} (h:Rf R L W d (.ok l)) (hk:(pHd l).k=1):pIs [40] l=false∧pIs jc6 l=false∧pIs jbH l=false:=by
 obtain⟨hf,nx,op,er,a,h1,h2,h3⟩:=h
 rcases h3 with ⟨-,-,h3⟩|⟨-,e,-,h3⟩
 ·cases h3
  unfold pIs
  rw[jaO h1] at hk ⊢
  obtain⟨g1,g2,g3⟩:=hf.toks.num nx hk
  exact⟨beq_eq_false_iff_ne.mpr g1,beq_eq_false_iff_ne.mpr g2,beq_eq_false_iff_ne.mpr g3⟩
 ·cases h3
theorem jbR {L:List Tk} {s:RSt} {c:List UInt8}:jad (tIs L s ⟨c.toArray⟩) s=jad (rIs s c) s:=by
 cases s with
 |bad a e=>rfl
 |ok l=>rw[jaP];rfl
section
variable {L l:List Tk} {d:Nat} {x:Syn} {st1:RSt}
theorem jg4 (hL:TkL L) (hf:l≠[]) (hk:(pHd l).k=1):Stp (.lvl 7) d (.ok l) [.mk 20 (pHd l).a (pHd l).t 0 []] (.ok (pTl l)):=
 jeJ (L:=L) (st:=.ok l) hL hf (by rw[show (cur L (.ok l)).k=1 from hk];rfl)
theorem jhh (hk:(pHd l).k≠1):((cur L (.ok l)).k==1)=false:=beq_eq_false_iff_ne.mpr hk
theorem jdm (hL:TkL L) (hf:l≠[]) (hk:(pHd l).k≠1) {s:List UInt8} (hs:s=jc6∨s=jbH) (hb:pIs s l=true):Stp (.lvl 7) d (.ok l) [.mk 23 (pHd l).a ⟨s.toArray⟩ 0 []] (.ok (pTl l)):=by
 rw[←jhg hb]
 refine jcF (L:=L) (st:=.ok l) hL hf (jhh hk) ?_
 rcases hs with rfl|rfl
 ·exact .inl ((jaP L l jc6).trans hb)
 ·exact .inr ((jaP L l jbH).trans hb)
theorem jg5 (hL:TkL L) (hk:(pHd l).k≠1) (h2:pIs jc6 l=false) (h3:pIs jbH l=false) (hb:pIs [40] l=true) (hd:d≠64) (hs:Stp (.lvl 0) (d+1) (.ok (pTl l)) [x] st1):Stp (.lvl 7) d (.ok l) [x] (jad (rIs st1 [41]) st1):=by
 rw[←jbR (L:=L)]
 exact jeK (L:=L) (st:=.ok l) hL (jhh hk) ((jaP L l jc6).trans h2) ((jaP L l jbH).trans h3) ((jaP L l [40]).trans hb) (by rw[show jaV L (.ok l) d true = .ok (pTl l) from if_neg hd];exact hs)
theorem jfR (hk:(pHd l).k≠1) (h2:pIs jc6 l=false) (h3:pIs jbH l=false) (hb:pIs [40] l=true) (hd:d=64):Stp (.lvl 7) d (.ok l) [x] (.bad (pHd l).a 12):=
 jbj (by decide) 0 fun f hf=>by rw[jcQ,if_neg hk,if_neg (by rw[h2,h3];decide),if_pos hb,if_pos hd]
theorem jff (hL:TkL L) (hk:(pHd l).k≠1) (h2:pIs jc6 l=false) (h3:pIs jbH l=false) (hb:pIs [40] l=false) (hs:Stp .place d (.ok l) [x] st1):Stp (.lvl 7) d (.ok l) [x] st1:=
 jdC (L:=L) (st:=.ok l) hL (jhh hk) ((jaP L l jc6).trans h2) ((jaP L l jbH).trans h3) ((jaP L l [40]).trans hb) hs
theorem jaX {s t:List UInt8} (h:pIs s l=true) (hn:s≠t):pIs t l=false:=by
 unfold pIs at h ⊢
 rw[beq_iff_eq] at h
 rw[h]
 exact beq_eq_false_iff_ne.mpr hn
end
theorem jmL {R:Nat} {L:List Tk} {d:Nat} {st:RSt} {w:World} (h:Rf R L w d st) (hd:d≤64) (K:d≠64→∀ l,st = .ok l→pIs [40] l=true→GF 22 R L #[.pointer (some ⟨R,0,none⟩)] (.lvl 0) (d+1) (.ok (pTl l))) :
  Calls Tryz.prog 124 #[.pointer (some ⟨R,0,none⟩)] w (PF R L (.lvl 7) d st w):=by
 have HTL:=jD h.fix.toks.toks
 have HD:=jD hd
 have hfi:=h.fine
 cases st with
 |bad ea ee=>
  have CH:=fun W (H:Rf R L W d (.bad ea ee))=>jcy H
  have CI:=fun W (H:Rf R L W d (.bad ea ee))=>ris H [40] (by decide)
  have C1:=fun W (H:Rf R L W d (.bad ea ee))=>jbD H [116,114,117,101] (by decide)
  have C2:=fun W (H:Rf R L W d (.bad ea ee))=>jbD H [102,97,108,115,101] (by decide)
  have CP:=fun W (H:Rf R L W d (.bad ea ee))=>jjh H
  simp only[rIs,Bool.false_eq_true,if_false] at CI C1 C2
  have KH:=jD CH;have KI:=jD CI;have K1:=jD C1;have K2:=jD C2;have KP:=jD CP
  have HA0:=jD h
  have HLT:=jD h.fix.lt;have HRW:=jD h.fix.lt
  have A0:=jD (h.alloc jZ);obtain⟨B0,XR0,HPR,HLS⟩:=jS h.fix.lt
  clear h CH CI C1 C2 CP K hd hfi
  go_enter Tryz.func124,Tryz.ntmps124
  go_wp2_with (go_at_call 48;refine cM (KH.out _ A0) ?_;rintro e w1 ⟨z1,rfl,hz1,ha1,hb1⟩)
  have HZ1:=jD hz1
  have A1:=jD ha1;have B1:=jtt B0 hb1
  have XR1:=jbb XR0 HPR hb1
  clear ha1 hb1 hz1
  refine jD ?_
  go_wp2_with (go_at_call 49;refine jR (KI.out _ A1) B1 XR1 HPR fun w2 A2 B2 XR2=>?_)
  refine jD ?_
  go_wp2_with (go_at_call 51;refine jR (K1.out _ A2) B2 XR2 HPR fun w3 A3 B3 XR3=>?_)
  refine jD ?_
  go_wp2_with (go_at_call 51;refine jR (K2.out _ A3) B3 XR3 HPR fun w4 A4 B4 XR4=>?_)
  refine jD ?_
  obtain⟨ze,y3,t3,t4⟩:=A4.out.err1
  go_wp2_with fail
  go_quiet (fail)
  have AQ:=jD (A4.out.below (below_drewN (Below.refl _ _) nq));have BQ:=jD (B4.out.trans (Butt.of_below A4.out.fix.lt (below_drewN (Below.refl _ _) nq)));have XRQ:=jD (XR4.out.below (below_drewN (Below.refl _ _) nq))
  go_wp2_with (go_at_call 121;refine jT (KP.out _ AQ) BQ XRQ HPR fun w5 k5 a5 t5 n5 o5 l5 c5 q5 s5 HS5 TR5 A5 B5 XR5=>?_)
  refine jD ?_
  have FT:=jD (jas HA0 B5 A5 XR5 (jrr _) (.int .i64 k5) (.int .i64 a5) (.string t5) (.int .i64 n5) (.slice o5 l5 c5) _ rfl)
  have GX:=jD ((TR5.out).kept (by simp) FT.out.2.2.2).at
  obtain⟨yXR0,yXR1,yXR2,yXR3,yXR4,fXR0,fXR1,fXR2,fXR3,fXR4⟩:=bF XR5
  obtain⟨r0,r1,r2,r3,r4⟩:=FT.out.1
  have GA:=jD FT.out.2.1;have GB:=jD FT.out.2.2.1
  clear FT
  go_wp2
  refine bodyPost_ret (by simp[results,Tryz.results124,go_sem,r0,r1,r2,r3,r4];rfl) rfl ?_
  exact⟨_,_,_,rfl,GX.out,HS5.out,GA.out,GB.out⟩
 |ok l=>
  have CH:=fun W (H:Rf R L W d (.ok l))=>jbQ H
  have CI:=fun W (H:Rf R L W d (.ok l))=>ris H [40] (by decide)
  have C1:=fun W (H:Rf R L W d (.ok l))=>jbD H [116,114,117,101] (by decide)
  have C2:=fun W (H:Rf R L W d (.ok l))=>jbD H [102,97,108,115,101] (by decide)
  have CP:=fun W (H:Rf R L W d (.ok l))=>jjh H
  have CL:=fun W (H:Rf R L W d (.ok l))=>jg0 H hd
  have CN:=fun W (H:Rf R L W d (.ok l))=>jcu H
  have hnu:=h.nums
  cases hb:pIs [40] l with
  |true=>
   rw[show rIs (.ok l) [40]=true from hb] at CI
   have h2:pIs jc6 l=false:=jaX hb (by decide)
   have h3:pIs jbH l=false:=jaX hb (by decide)
   have hk:(pHd l).k≠1:=fun e=>by rw[(hnu e).1] at hb;cases hb
   by_cases h64:d=64
   ·rw[show levS (.ok l) d = .bad (pHd l).a 12 from if_pos h64] at CL
    have CN:=fun W (H:Rf R L W (d+1) (.bad (pHd l).a 12))=>jcu H
    have HM:=jD (fun x=>jfR (x:=x) hk h2 h3 hb h64)
    generalize (pHd l).a=pa at *
    have KH:=jD CH;have KI:=jD CI;have KL:=jD CL;have KN:=jD CN
    have HA0:=jD h
    have HLT:=jD h.fix.lt;have HRW:=jD h.fix.lt
    have A0:=jD (h.alloc jZ);obtain⟨B0,XR0,HPR,HLS⟩:=jS h.fix.lt
    clear h CH CI C1 C2 CP CL CN K hd hfi hnu hb h2 h3 hk h64
    go_enter Tryz.func124,Tryz.ntmps124
    go_wp2_with (go_at_call 48;refine jR (KH.out _ A0) B0 XR0 HPR fun w1 A1 B1 XR1=>?_)
    refine jD ?_
    go_wp2_with (go_at_call 49;refine jR (KI.out _ A1) B1 XR1 HPR fun w2 A2 B2 XR2=>?_)
    refine jD ?_
    go_wp2_with (go_at_call 86;refine jR (KL.out _ A2) B2 XR2 HPR fun w3 A3 B3 XR3=>?_)
    refine jD ?_
    go_wp2_with (go_at_call 59;refine jR (KN.out _ A3) B3 XR3 HPR fun w4 A4 B4 XR4=>?_)
    refine jD ?_
    have AB:=jD (show Rf R L w4 (d+1) (.bad pa 12) from A4)
    obtain⟨ze,y3,t3,t4⟩:=AB.out.err1
    have AD:=jD (show Rf R L w4 d (.bad pa 12) from AB.out.bad)
    have FT:=jD (jas HA0 B4 AD XR4 (jrr _) (.int .i64 0) (.int .i64 0) (.string ⟨#[]⟩) (.int .i64 0) (.slice none 0 0) _ rfl)
    have GX:=jD (((jac.mpr ⟨_,rfl,Or.inl ⟨rfl,rfl⟩⟩:synIn (offs w.heap.size [w.heap.size]) w4 (.mk 0 0 ⟨#[]⟩ 0 []) _)).kept (by simp) FT.out.2.2.2).at
    obtain⟨yXR0,yXR1,yXR2,yXR3,yXR4,fXR0,fXR1,fXR2,fXR3,fXR4⟩:=bF XR4
    obtain⟨r0,r1,r2,r3,r4⟩:=FT.out.1
    have GA:=jD FT.out.2.1;have GB:=jD FT.out.2.2.1
    clear FT
    go_wp2
    refine bodyPost_ret (by simp[results,Tryz.results124,go_sem,r0,r1,r2,r3,r4];rfl) rfl ?_
    exact⟨_,_,_,rfl,GX.out,HM.out _,GA.out,GB.out⟩
   ·rw[show levS (.ok l) d = .ok l from if_neg h64] at CL
    have CN:=fun W (H:Rf R L W (d+1) (.ok l))=>jcu H
    have K3:=K h64 l rfl hb
    have HM:=jD (fun x s' hx=>jg5 (x:=x) (st1:=s') HTL hk h2 h3 hb h64 hx)
    generalize (pHd l).a=pa at *
    have KH:=jD CH;have KI:=jD CI;have KL:=jD CL;have KN:=jD CN;have KK:=jD K3
    have HA0:=jD h
    have HLT:=jD h.fix.lt;have HRW:=jD h.fix.lt
    have A0:=jD (h.alloc jZ);obtain⟨B0,XR0,HPR,HLS⟩:=jS h.fix.lt
    clear h CH CI C1 C2 CP CL CN K K3 hd hfi hnu hb h2 h3 hk h64
    go_enter Tryz.func124,Tryz.ntmps124
    go_wp2_with (go_at_call 48;refine jR (KH.out _ A0) B0 XR0 HPR fun w1 A1 B1 XR1=>?_)
    refine jD ?_
    go_wp2_with (go_at_call 49;refine jR (KI.out _ A1) B1 XR1 HPR fun w2 A2 B2 XR2=>?_)
    refine jD ?_
    go_wp2_with (go_at_call 86;refine jR (KL.out _ A2) B2 XR2 HPR fun w3 A3 B3 XR3=>?_)
    refine jD ?_
    go_wp2_with (go_at_call 59;refine jR (KN.out _ A3) B3 XR3 HPR fun w4 A4 B4 XR4=>?_)
    refine jD ?_
    have AB:=jD (show Rf R L w4 (d+1) (.ok (pTl l)) from A4)
    have y3:=AB.out.err0
    go_wp2_with (go_at_call 22;refine jT (KK.out _ AB) B4 XR4 HPR fun w5 k5 a5 t5 n5 o5 l5 c5 q5 s5 HS5 TR5 A5 B5 XR5=>?_)
    refine jD ?_
    have A5a:=jD (A5.out.alloc (jO k5 a5 t5 n5 o5 l5 c5));have B5a:=jD (B5.out.alloc HRW (jO k5 a5 t5 n5 o5 l5 c5))
    have XR5a:=jD (XR5.out.alloc (jO k5 a5 t5 n5 o5 l5 c5))
    have TR55a:=jww TR5 HLT A5.out.fix.lt (jO k5 a5 t5 n5 o5 l5 c5)
    have PXX:=nR A5.out.fix.lt
    have XX5a:=jD (jn5 w5 k5 a5 t5 n5 o5 l5 c5)
    go_wp2_with (go_at_call 52;refine jX (jbu A5a [41] (by decide)) B5a XR5a HPR fun w6 A6 B6 XR6 hb6=>?_)
    have XX6:=jbb XX5a PXX hb6
    have TR56:=jvv TR55a HLT hb6
    clear hb6
    refine jD ?_
    obtain⟨zo,zn,yo,fo,uo,ao,bo⟩:=A6.out.less HD
    have A6o:=jD ao;have B6o:=jtt B6 bo
    have XR6o:=jbb XR6 HPR bo
    have XX6o:=jbb XX6 PXX bo
    have TR56o:=jvv TR56 HLT bo
    clear ao bo
    obtain⟨yXX0,yXX1,yXX2,yXX3,yXX4,-,-⟩:=XX6o.out
    have FT:=jD (jas HA0 B6o A6o XR6o (jrr _) (.int .i64 k5) (.int .i64 a5) (.string t5) (.int .i64 n5) (.slice o5 l5 c5) _ rfl)
    have GX:=jD ((TR56o.out).kept (by simp) FT.out.2.2.2).at
    obtain⟨yXR0,yXR1,yXR2,yXR3,yXR4,fXR0,fXR1,fXR2,fXR3,fXR4⟩:=bF XR6o
    obtain⟨r0,r1,r2,r3,r4⟩:=FT.out.1
    have GA:=jD FT.out.2.1;have GB:=jD FT.out.2.2.1
    clear FT
    go_wp2
    refine bodyPost_ret (by simp[results,Tryz.results124,go_sem,r0,r1,r2,r3,r4];rfl) rfl ?_
    exact⟨_,_,_,rfl,GX.out,HM.out _ _ HS5,GA.out,GB.out⟩
  |false=>
   rw[show rIs (.ok l) [40]=false from hb] at CI
   cases h2:pIs jc6 l with
   |true=>
    rw[show rIs (.ok l) [116,114,117,101]=true from h2] at C1
    simp only[if_true] at C1
    have hk:(pHd l).k≠1:=fun e=>by rw[(hnu e).2.1] at h2;cases h2
    have HM:=jD (jdm (d:=d) HTL hfi hk (.inl rfl) h2)
    generalize (pHd l).a=pa at *
    have KH:=jD CH;have KI:=jD CI;have K1:=jD C1;have K2:=jD C2
    have HA0:=jD h
    have HLT:=jD h.fix.lt;have HRW:=jD h.fix.lt
    have A0:=jD (h.alloc jZ);obtain⟨B0,XR0,HPR,HLS⟩:=jS h.fix.lt
    clear h CH CI C1 C2 CP CL CN K hd hfi hnu hb h2 hk
    go_enter Tryz.func124,Tryz.ntmps124
    go_wp2_with (go_at_call 48;refine jR (KH.out _ A0) B0 XR0 HPR fun w1 A1 B1 XR1=>?_)
    refine jD ?_
    go_wp2_with (go_at_call 49;refine jR (KI.out _ A1) B1 XR1 HPR fun w2 A2 B2 XR2=>?_)
    refine jD ?_
    go_wp2_with (go_at_call 51;refine jR (K1.out _ A2) B2 XR2 HPR fun w3 A3 B3 XR3=>?_)
    refine jD ?_
    go_wp2_with (go_at_call 47;refine cM (jam _ _ _ _ _ _ _) ?_;rintro e w4 ⟨rfl,hbl4⟩)
    have ha4:=A3.out.below hbl4;have hb4:=Butt.of_below (R:=R) A3.out.fix.lt hbl4;clear hbl4
    have A4:=jD ha4;have B4:=jtt B3 hb4
    have XR4:=jbb XR3 HPR hb4
    clear ha4 hb4
    refine jD ?_
    generalize hwt:(⟨#[116,114,117,101]⟩:ByteArray)=wt at *
    have FT:=jD (jas HA0 B4 A4 XR4 (jrr _) (.int .i64 23) (.int .i64 pa) (.string wt) (.int .i64 0) (.slice none 0 0) _ rfl)
    have GX:=jD (((jac.mpr ⟨_,rfl,Or.inl ⟨rfl,rfl⟩⟩:synIn (offs w.heap.size [w.heap.size]) w4 (.mk 23 pa wt 0 []) _)).kept (by simp) FT.out.2.2.2).at
    obtain⟨yXR0,yXR1,yXR2,yXR3,yXR4,fXR0,fXR1,fXR2,fXR3,fXR4⟩:=bF XR4
    obtain⟨r0,r1,r2,r3,r4⟩:=FT.out.1
    have GA:=jD FT.out.2.1;have GB:=jD FT.out.2.2.1
    clear FT
    go_wp2
    refine bodyPost_ret (by simp[results,Tryz.results124,go_sem,r0,r1,r2,r3,r4];rfl) rfl ?_
    subst hwt;exact⟨_,_,_,rfl,GX.out,HM.out,GA.out,GB.out⟩
   |false=>
    rw[show rIs (.ok l) [116,114,117,101]=false from h2] at C1
    simp only[Bool.false_eq_true,if_false] at C1
    cases h3:pIs jbH l with
    |true=>
     rw[show rIs (.ok l) [102,97,108,115,101]=true from h3] at C2
     simp only[if_true] at C2
     have hk:(pHd l).k≠1:=fun e=>by rw[(hnu e).2.2] at h3;cases h3
     have HM:=jD (jdm (d:=d) HTL hfi hk (.inr rfl) h3)
     generalize (pHd l).a=pa at *
     have KH:=jD CH;have KI:=jD CI;have K1:=jD C1;have K2:=jD C2
     have HA0:=jD h
     have HLT:=jD h.fix.lt;have HRW:=jD h.fix.lt
     have A0:=jD (h.alloc jZ);obtain⟨B0,XR0,HPR,HLS⟩:=jS h.fix.lt
     clear h CH CI C1 C2 CP CL CN K hd hfi hnu hb h2 hk h3
     go_enter Tryz.func124,Tryz.ntmps124
     go_wp2_with (go_at_call 48;refine jR (KH.out _ A0) B0 XR0 HPR fun w1 A1 B1 XR1=>?_)
     refine jD ?_
     go_wp2_with (go_at_call 49;refine jR (KI.out _ A1) B1 XR1 HPR fun w2 A2 B2 XR2=>?_)
     refine jD ?_
     go_wp2_with (go_at_call 51;refine jR (K1.out _ A2) B2 XR2 HPR fun w3 A3 B3 XR3=>?_)
     refine jD ?_
     go_wp2_with (go_at_call 51;refine jR (K2.out _ A3) B3 XR3 HPR fun w4 A4 B4 XR4=>?_)
     refine jD ?_
     go_wp2_with (go_at_call 47;refine cM (jam _ _ _ _ _ _ _) ?_;rintro e w5 ⟨rfl,hbl5⟩)
     have ha5:=A4.out.below hbl5;have hb5:=Butt.of_below (R:=R) A4.out.fix.lt hbl5;clear hbl5
     have A5:=jD ha5;have B5:=jtt B4 hb5
     have XR5:=jbb XR4 HPR hb5
     clear ha5 hb5
     refine jD ?_
     generalize hwt:(⟨#[102,97,108,115,101]⟩:ByteArray)=wt at *
     have FT:=jD (jas HA0 B5 A5 XR5 (jrr _) (.int .i64 23) (.int .i64 pa) (.string wt) (.int .i64 0) (.slice none 0 0) _ rfl)
     have GX:=jD (((jac.mpr ⟨_,rfl,Or.inl ⟨rfl,rfl⟩⟩:synIn (offs w.heap.size [w.heap.size]) w5 (.mk 23 pa wt 0 []) _)).kept (by simp) FT.out.2.2.2).at
     obtain⟨yXR0,yXR1,yXR2,yXR3,yXR4,fXR0,fXR1,fXR2,fXR3,fXR4⟩:=bF XR5
     obtain⟨r0,r1,r2,r3,r4⟩:=FT.out.1
     have GA:=jD FT.out.2.1;have GB:=jD FT.out.2.2.1
     clear FT
     go_wp2
     refine bodyPost_ret (by simp[results,Tryz.results124,go_sem,r0,r1,r2,r3,r4];rfl) rfl ?_
     subst hwt;exact⟨_,_,_,rfl,GX.out,HM.out,GA.out,GB.out⟩
    |false=>
     rw[show rIs (.ok l) [102,97,108,115,101]=false from h3] at C2
     simp only[Bool.false_eq_true,if_false] at C2
     by_cases hk:(pHd l).k=1
     ·have HM:=jD (jg4 (d:=d) HTL hfi hk)
      have KH:=jD CH;have KI:=jD CI;have K1:=jD C1;have K2:=jD C2;have KN:=jD CN;have KP:=jD CP;have HK:=jD hk
      have HA0:=jD h
      have HLT:=jD h.fix.lt;have HRW:=jD h.fix.lt
      have A0:=jD (h.alloc jZ);obtain⟨B0,XR0,HPR,HLS⟩:=jS h.fix.lt
      clear h CH CI C1 C2 CP CL CN K hd hfi hnu hb h2 h3 hk
      go_enter Tryz.func124,Tryz.ntmps124
      go_wp2_with (go_at_call 48;refine jR (KH.out _ A0) B0 XR0 HPR fun w1 A1 B1 XR1=>?_)
      refine jD ?_
      go_wp2_with (go_at_call 49;refine jR (KI.out _ A1) B1 XR1 HPR fun w2 A2 B2 XR2=>?_)
      refine jD ?_
      go_wp2_with (go_at_call 51;refine jR (K1.out _ A2) B2 XR2 HPR fun w3 A3 B3 XR3=>?_)
      refine jD ?_
      go_wp2_with (go_at_call 51;refine jR (K2.out _ A3) B3 XR3 HPR fun w4 A4 B4 XR4=>?_)
      refine jD ?_
      obtain⟨hf,nx,op,er,a,h1,hr2,hr3⟩:=A4.out
      rcases hr3 with ⟨rfl,hr4,hll⟩|⟨he,e,hr4,hll⟩
      rotate_left
      ·cases hll
      have hlx:l=L.drop nx:=by cases hll;rfl
      obtain⟨⟨b,o,c,r0,r1,r2,r3⟩,c1,c2,c3,c4,c5,c6,c7⟩:=hr2
      obtain⟨b',o',e',hat⟩:=r1.at c7
      cases e'
      obtain⟨d0,d1,d2⟩:=hat nx h1 w4 (Below.refl _ _)
      have gl:(nx:Int)<(L.length:Int):=by omega
      have g0:(0:Int)≤(nx:Int):=by omega
      rw[←jaO h1,←hlx] at d0 d1 d2
      clear hat r1 c2 c4 c5 c6 c7 r2 r3 hr4 hll h1 hf d2
      clear hlx
      generalize pHd l=T at *
      obtain⟨tk,tt,pa⟩:=T
      dsimp only at *
      have HKK:=HK.out;try dsimp only at HKK
      subst HKK
      go_wp2_with fail
      go_quiet (fail)
      go_wp2_with fail
      go_quiet (fail)
      have HA:=A4;have HB:=B4;have HX:=XR4
      go_wp2_with (go_at_call 59;refine cM (KN.out _ (HA.out.below (below_drewN (Below.refl _ _) _))) ?_;rintro e w9 ⟨rfl,ha9,hb9⟩)
      have A9:=jD ha9;have B9:=jD ((HB.out.trans (Butt.of_below HA.out.fix.lt (below_drewN (Below.refl _ _) _))).trans hb9);have XR9:=jD ((HX.out.below (below_drewN (Below.refl _ _) _)).butt HPR hb9)
      clear ha9 hb9
      refine jD ?_
      go_wp2_with (go_at_call 47;refine cM (jam _ _ _ _ _ _ _) ?_;rintro e w10 ⟨rfl,hbl10⟩)
      have ha10:=A9.out.below hbl10;have hb10:=Butt.of_below (R:=R) A9.out.fix.lt hbl10;clear hbl10
      have A10:=jD ha10;have B10:=jtt B9 hb10
      have XR10:=jbb XR9 HPR hb10
      clear ha10 hb10
      refine jD ?_
      have FT:=jD (jas HA0 B10 A10 XR10 (jrr _) (.int .i64 20) (.int .i64 pa) (.string tt) (.int .i64 0) (.slice none 0 0) _ rfl)
      have GX:=jD (((jac.mpr ⟨_,rfl,Or.inl ⟨rfl,rfl⟩⟩:synIn (offs w.heap.size [w.heap.size]) w10 (.mk 20 pa tt 0 []) _)).kept (by simp) FT.out.2.2.2).at
      obtain⟨yXR0,yXR1,yXR2,yXR3,yXR4,fXR0,fXR1,fXR2,fXR3,fXR4⟩:=bF XR10
      obtain⟨r0,r1,r2,r3,r4⟩:=FT.out.1
      have GA:=jD FT.out.2.1;have GB:=jD FT.out.2.2.1
      clear FT
      go_wp2
      refine bodyPost_ret (by simp[results,Tryz.results124,go_sem,r0,r1,r2,r3,r4];rfl) rfl ?_
      exact⟨_,_,_,rfl,GX.out,HM.out,GA.out,GB.out⟩
     ·have HM:=jD (fun x s' hx=>jff (d:=d) (x:=x) (st1:=s') HTL hk h2 h3 hb hx)
      have KH:=jD CH;have KI:=jD CI;have K1:=jD C1;have K2:=jD C2;have KN:=jD CN;have KP:=jD CP;have HK:=jD hk
      have HA0:=jD h
      have HLT:=jD h.fix.lt;have HRW:=jD h.fix.lt
      have A0:=jD (h.alloc jZ);obtain⟨B0,XR0,HPR,HLS⟩:=jS h.fix.lt
      clear h CH CI C1 C2 CP CL CN K hd hfi hnu hb h2 h3 hk
      go_enter Tryz.func124,Tryz.ntmps124
      go_wp2_with (go_at_call 48;refine jR (KH.out _ A0) B0 XR0 HPR fun w1 A1 B1 XR1=>?_)
      refine jD ?_
      go_wp2_with (go_at_call 49;refine jR (KI.out _ A1) B1 XR1 HPR fun w2 A2 B2 XR2=>?_)
      refine jD ?_
      go_wp2_with (go_at_call 51;refine jR (K1.out _ A2) B2 XR2 HPR fun w3 A3 B3 XR3=>?_)
      refine jD ?_
      go_wp2_with (go_at_call 51;refine jR (K2.out _ A3) B3 XR3 HPR fun w4 A4 B4 XR4=>?_)
      refine jD ?_
      obtain⟨hf,nx,op,er,a,h1,hr2,hr3⟩:=A4.out
      rcases hr3 with ⟨rfl,hr4,hll⟩|⟨he,e,hr4,hll⟩
      rotate_left
      ·cases hll
      have hlx:l=L.drop nx:=by cases hll;rfl
      obtain⟨⟨b,o,c,r0,r1,r2,r3⟩,c1,c2,c3,c4,c5,c6,c7⟩:=hr2
      obtain⟨b',o',e',hat⟩:=r1.at c7
      cases e'
      obtain⟨d0,d1,d2⟩:=hat nx h1 w4 (Below.refl _ _)
      have gl:(nx:Int)<(L.length:Int):=by omega
      have g0:(0:Int)≤(nx:Int):=by omega
      rw[←jaO h1,←hlx] at d0 d1 d2
      clear hat r1 c2 c4 c5 c6 c7 r2 r3 hr4 hll h1 hf d2
      clear hlx
      generalize pHd l=T at *
      obtain⟨tk,tt,pa⟩:=T
      dsimp only at *
      have b3:(tk==(1:Int))=false:=beq_eq_false_iff_ne.mpr HK
      go_wp2_with fail
      go_quiet (fail)
      have HA:=A4;have HB:=B4;have HX:=XR4
      go_wp2_with (go_at_call 121;refine cM (KP.out _ (HA.out.below (below_drewN (Below.refl _ _) _))) ?_;rintro e w9 ⟨x9,v9,s9,rfl,hx9,hs9,ha9,hb9⟩)
      have A9:=jD ha9;have B9:=jD ((HB.out.trans (Butt.of_below HA.out.fix.lt (below_drewN (Below.refl _ _) _))).trans hb9);have XR9:=jD ((HX.out.below (below_drewN (Below.refl _ _) _)).butt HPR hb9)
      obtain⟨k9,a9,t9,n9,o9,l9,c9,q9,rfl,rfl,hk9⟩:=hx9.shape
      have HS9:=jD hs9
      have TR9:=jD (synIn.of (l2:=w.heap.size) (ps:=[w.heap.size]) hx9 (Nat.le_trans HB.out.size (below_drewN (Below.refl w4.heap.size w4) nq).size) (fun p hp=>by simp only[List.mem_cons,List.not_mem_nil,or_false] at hp;have g0:=HX.out.lt;have g1:=(below_drewN (Below.refl w4.heap.size w4) nq).size;omega))
      clear ha9 hb9 hx9 hk9 hs9
      refine jD ?_
      have FT:=jD (jas HA0 B9 A9 XR9 (jrr _) (.int .i64 k9) (.int .i64 a9) (.string t9) (.int .i64 n9) (.slice o9 l9 c9) _ rfl)
      have GX:=jD ((TR9.out).kept (by simp) FT.out.2.2.2).at
      obtain⟨yXR0,yXR1,yXR2,yXR3,yXR4,fXR0,fXR1,fXR2,fXR3,fXR4⟩:=bF XR9
      obtain⟨r0,r1,r2,r3,r4⟩:=FT.out.1
      have GA:=jD FT.out.2.1;have GB:=jD FT.out.2.2.1
      clear FT
      go_wp2
      refine bodyPost_ret (by simp[results,Tryz.results124,go_sem,r0,r1,r2,r3,r4];rfl) rfl ?_
      exact⟨_,_,_,rfl,GX.out,HM.out _ _ HS9,GA.out,GB.out⟩
end Go.Proofs.YtenmmmdnpglkoaaGreatDoor
