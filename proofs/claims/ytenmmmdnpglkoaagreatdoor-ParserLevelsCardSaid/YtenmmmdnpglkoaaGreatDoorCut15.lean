import Derived.Test.YtenmmmdnpglkoaaGreatDoorCut14
set_option linter.unusedSimpArgs false
set_option linter.unusedVariables false
set_option maxRecDepth 100000
set_option maxHeartbeats 8000000
/-
 parser: block, when, parameters, results, variables, record.
-/
namespace Go.Proofs.YtenmmmdnpglkoaaGreatDoor
open Go Go.Proofs Go.RowKit Go.Sort
theorem jlJ {R:Nat} {L:List Tk} {d:Nat} {st:RSt} {w:World} (h:At R L w d st) (hd:d≤999999) (K:GL 115 R L #[.pointer (some ⟨R,0,none⟩)] .stmts (d+1) (jaV L st d (tIs L st ⟨#[123]⟩))) :
  Calls Tryz.prog 137 #[.pointer (some ⟨R,0,none⟩)] w (PT R L .block d st w):=by
 have hfi:=h.fine
 have CE:=fun W (H:At R L W d st)=>jfz H hd ⟨#[123]⟩
 have HM:=jD (fun xs s'=>jka (L:=L) (d:=d) (xs:=xs) hfi s')
 generalize tokM L st (tIs L st ⟨#[123]⟩)=T at *
 obtain⟨ek,et,ea⟩:=T
 unfold tkA at *
 dsimp only at *
 generalize jaV L st d _=s1 at *
 have KE:=jD CE;have KL:=jD K;have HD:=jD hd
 have HA0:=jD h
 have HLT:=jD h.fix.lt;have HRW:=jD h.fix.lt
 have A0:=jD (h.alloc jZ);obtain⟨B0,XR0,HPR,HLS⟩:=jS h.fix.lt
 clear h CE K hd hfi
 go_enter Tryz.func137,Tryz.ntmps137
 go_wp2_with (go_at_call 113;refine jR (KE.out _ A0) B0 XR0 HPR fun w1 A1 B1 XR1=>?_)
 refine jD ?_
 have A1a:=jD (A1.out.alloc (Obj.cells #[.int .i64 ek,.string et,.int .i64 ea] 50));have B1a:=jD (B1.out.alloc HRW (Obj.cells #[.int .i64 ek,.string et,.int .i64 ea] 50))
 have XR1a:=jD (XR1.out.alloc (Obj.cells #[.int .i64 ek,.string et,.int .i64 ea] 50))
 have PTT:=nR A1.out.fix.lt
 have TT1a:=jD (Bx3.new w1 (.int .i64 ek) (.string et) (.int .i64 ea))
 go_wp2_with (go_at_call 115;refine cM (KL.out _ A1a) ?_;rintro e w2 ⟨x2,v2,s2,rfl,hx2,hn2,hs2,ha2,hb2⟩)
 obtain⟨o2,c2,rfl⟩:=hx2.slice
 have RW2:=jD (ownT.kidsIn (ps:=[w.heap.size]) hx2 (Nat.le_trans (jrr _) B1a.out.size) (fun p hp=>by simp only[List.mem_cons,List.not_mem_nil,or_false] at hp;have g0:=XR1a.out.lt;omega))
 have HS2:=jD hs2;have HN2:=jD hn2
 have A2:=jD ha2;have B2:=jtt B1a hb2
 have XR2:=jbb XR1a HPR hb2
 have TT2:=jD (TT1a.out.butt PTT hb2)
 clear ha2 hb2 hx2 hs2 hn2
 refine jD ?_
 go_wp2_with (go_at_call 35;refine jX (jaE A2 ⟨#[125]⟩) B2 XR2 HPR fun w3 A3 B3 XR3 hb3=>?_)
 have TT3:=jD (TT2.out.butt PTT hb3)
 have RW23:=jD (RW2.out.butt HLT hb3)
 clear hb3
 refine jD ?_
 go_wp2_with (go_at_call 116;refine jX (jfy A3 HD) B3 XR3 HPR fun w4 A4 B4 XR4 hb4=>?_)
 have TT4:=jD (TT3.out.butt PTT hb4)
 have RW24:=jD (RW23.out.butt HLT hb4)
 clear hb4
 refine jD ?_
 obtain⟨yTT0,yTT1,yTT2,-,-⟩:=TT4.out
 go_wp2_with (go_at_call 40;refine cM (jau _ _ _ _ _ _ _) ?_;rintro e w5 ⟨rfl,hb5⟩)
 have hbx:=Butt.of_below (R:=R) A4.out.fix.lt hb5
 have ha5:At R L w5 _ _:=⟨A4.out.fix.butt hbx,A4.out.rs.below hb5⟩
 have TN:=jD (jac.mpr ⟨_,rfl,RW24.out.below hb5⟩:synIn (offs w.heap.size [w.heap.size]) w5 (.mk 6 ea ⟨#[]⟩ 0 x2) _)
 have hb5:=hbx;clear hbx
 have A5:=jD ha5;have B5:=jtt B4 hb5
 have XR5:=jbb XR4 HPR hb5
 have TT5:=jD (TT4.out.butt PTT hb5)
 clear ha5 hb5
 refine jD ?_
 have FT:=jD (ja4 HA0 B5 A5 XR5 (jrr _) (.int .i64 6) (.int .i64 ea) (.string ⟨#[]⟩) (.int .i64 0) (.slice o2 x2.length c2) _ rfl)
 have GX:=jD ((TN.out).kept (by simp) FT.out.2.2.2).at
 obtain⟨yXR0,yXR1,yXR2,yXR3,yXR4,fXR0,fXR1,fXR2,fXR3,fXR4⟩:=bF XR5
 obtain⟨r0,r1,r2,r3,r4⟩:=FT.out.1
 have GA:=jD FT.out.2.1;have GB:=jD FT.out.2.2.1
 clear FT
 go_wp2
 refine bodyPost_ret (by simp[results,Tryz.results137,go_sem,r0,r1,r2,r3,r4];rfl) rfl ?_
 exact⟨_,_,_,rfl,GX.out,HM.out _ _ HS2,GA.out,GB.out⟩
theorem jdg {R:Nat} {L:List Tk} {d:Nat} {st:RSt} {w:World} (h:At R L w d st) (K:∀ s:RSt,s.rem≤st.rem→GT 31 R L #[.pointer (some ⟨R,0,none⟩)] (.lvl 0) d s) :
  Calls Tryz.prog 79 #[.pointer (some ⟨R,0,none⟩),.string ⟨#[114,101,113,117,105,114,101,115]⟩] w (PS R L (fun x st'=>Run (jaN jb1 d) st x st') d w):=by
 have hfi:=h.fine
 have CH:=fun W (H:At R L W d st)=>jeG H
 have CA:=fun W (H:At R L W d st)=>jcB H ⟨#[114,101,113,117,105,114,101,115]⟩
 have hpk:=jby (L:=L) hfi
 have his:=jaM (L:=L) hfi jb1
 cases hb:tIs L st ⟨#[114,101,113,117,105,114,101,115]⟩ with
 |true=>
  rw[hb,if_pos rfl] at CA
  have HM:=jD (fun x s' (hs:Stp (.lvl 0) d (jaq st) [x] s')=>(Run.bind hpk (Run.bind his (Run.ite (fun _=>Run.bind (jaS (L:=L) hfi) (Run.bind hs (ja1 (Run.fine hs (RSt.takeS_fine hfi))))) (fun h=>absurd hb h))):Run (jaN jb1 d) st (.mk 5 (cur L st).a ⟨#[]⟩ 0 [x]) s'))
  generalize (cur L st).a=ea at *
  have KH:=jD CH;have KA:=jD CA;have KC:=jD (K (jaq st) (ja6 st))
  have HA0:=jD h
  have HLT:=jD h.fix.lt;have HRW:=jD h.fix.lt
  have A0:=jD (h.alloc jZ);obtain⟨B0,XR0,HPR,HLS⟩:=jS h.fix.lt
  clear h CH CA K hb hpk his hfi
  go_enter Tryz.func79,Tryz.ntmps79
  go_wp2_with (go_at_call 36;refine jR (KH.out _ A0) B0 XR0 HPR fun w1 A1 B1 XR1=>?_)
  refine jD ?_
  go_wp2_with (go_at_call 76;refine jR (KA.out _ A1) B1 XR1 HPR fun w2 A2 B2 XR2=>?_)
  refine jD ?_
  go_wp2_with (go_at_call 31;refine jT (KC.out _ A2) B2 XR2 HPR fun w3 k3 a3 t3 n3 o3 l3 c3 q3 s3 HS3 TR3 A3 B3 XR3=>?_)
  refine jD ?_
  have hAw:offs w.heap.size [w.heap.size] w3.heap.size:=⟨Nat.le_trans (jrr _) B3.out.size,fun hp=>by simp only[List.mem_cons,List.not_mem_nil,or_false] at hp;have g0:=XR3.out.lt;omega⟩
  have hki:=jaw (flatIn.one (TR3.out)) (by simp) hAw 1 rfl
  have KI:=jD hki
  clear hAw hki
  go_wp2_with (go_at_call 40;refine cM (jau _ _ _ _ _ _ _) ?_;rintro e w4 ⟨rfl,hb4⟩)
  have hbx:=Butt.of_below (R:=R) A3.out.fix.lt (Below.chain (jN (jO k3 a3 t3 n3 o3 l3 c3)) hb4)
  have ha4:At R L w4 _ _:=⟨A3.out.fix.butt hbx,A3.out.rs.below (Below.chain (jN (jO k3 a3 t3 n3 o3 l3 c3)) hb4)⟩
  have TN:=jD (jac.mpr ⟨_,rfl,KI.out.below hb4⟩:synIn (offs w.heap.size [w.heap.size]) w4 (.mk 5 ea ⟨#[]⟩ 0 [(.mk k3 a3 t3 n3 q3)]) _)
  have hb4:=hbx;clear hbx
  have A4:=jD ha4;have B4:=jtt B3 hb4
  have XR4:=jbb XR3 HPR hb4
  clear ha4 hb4
  refine jD ?_
  have FT:=jD (ja4 HA0 B4 A4 XR4 (jrr _) (.int .i64 5) (.int .i64 ea) (.string ⟨#[]⟩) (.int .i64 0) (.slice (some ⟨w3.heap.size,0,none⟩) 1 1) _ rfl)
  have GX:=jD ((TN.out).kept (by simp) FT.out.2.2.2).at
  obtain⟨yXR0,yXR1,yXR2,yXR3,yXR4,fXR0,fXR1,fXR2,fXR3,fXR4⟩:=bF XR4
  obtain⟨r0,r1,r2,r3,r4⟩:=FT.out.1
  have GA:=jD FT.out.2.1;have GB:=jD FT.out.2.2.1
  clear FT
  go_wp2
  refine bodyPost_ret (by simp[results,Tryz.results79,go_sem,r0,r1,r2,r3,r4];rfl) rfl ?_
  exact⟨_,_,_,rfl,GX.out,HM.out _ _ HS3,GA.out,GB.out⟩
 |false=>
  rw[hb,if_neg Bool.false_ne_true] at CA
  have HM:Hid (Run (jaN jb1 d) st (.mk 5 (cur L st).a ⟨#[]⟩ 0 []) st):=jD (Run.bind hpk (Run.bind his (Run.ite (fun h=>absurd (hb.symm.trans h) (by decide)) (fun _=>ja1 hfi))))
  generalize (cur L st).a=ea at *
  have KH:=jD CH;have KA:=jD CA
  have HA0:=jD h
  have HLT:=jD h.fix.lt;have HRW:=jD h.fix.lt
  have A0:=jD (h.alloc jZ);obtain⟨B0,XR0,HPR,HLS⟩:=jS h.fix.lt
  clear h CH CA K hb hpk his hfi
  go_enter Tryz.func79,Tryz.ntmps79
  go_wp2_with (go_at_call 36;refine jR (KH.out _ A0) B0 XR0 HPR fun w1 A1 B1 XR1=>?_)
  refine jD ?_
  go_wp2_with (go_at_call 76;refine jR (KA.out _ A1) B1 XR1 HPR fun w2 A2 B2 XR2=>?_)
  refine jD ?_
  go_wp2_with (go_at_call 40;refine cM (jau _ _ _ _ _ _ _) ?_;rintro e w3 ⟨rfl,hb3⟩)
  have hbx:=Butt.of_below (R:=R) A2.out.fix.lt hb3
  have ha3:At R L w3 _ _:=⟨A2.out.fix.butt hbx,A2.out.rs.below hb3⟩
  have TN:=jD (jac.mpr ⟨_,rfl,(Or.inl ⟨rfl,rfl⟩)⟩:synIn (offs w.heap.size [w.heap.size]) w3 (.mk 5 ea ⟨#[]⟩ 0 []) _)
  have hb3:=hbx;clear hbx
  have A3:=jD ha3;have B3:=jtt B2 hb3
  have XR3:=jbb XR2 HPR hb3
  clear ha3 hb3
  refine jD ?_
  have FT:=jD (ja4 HA0 B3 A3 XR3 (jrr _) (.int .i64 5) (.int .i64 ea) (.string ⟨#[]⟩) (.int .i64 0) (.slice none 0 0) _ rfl)
  have GX:=jD ((TN.out).kept (by simp) FT.out.2.2.2).at
  obtain⟨yXR0,yXR1,yXR2,yXR3,yXR4,fXR0,fXR1,fXR2,fXR3,fXR4⟩:=bF XR3
  obtain⟨r0,r1,r2,r3,r4⟩:=FT.out.1
  have GA:=jD FT.out.2.1;have GB:=jD FT.out.2.2.1
  clear FT
  go_wp2
  refine bodyPost_ret (by simp[results,Tryz.results79,go_sem,r0,r1,r2,r3,r4];rfl) rfl ?_
  exact⟨_,_,_,rfl,GX.out,HM.out,GA.out,GB.out⟩
theorem jd3 {R:Nat} {L:List Tk} {d:Nat} {st:RSt} {w:World} (h:At R L w d st) (K:∀ s:RSt,s.rem≤st.rem→GT 31 R L #[.pointer (some ⟨R,0,none⟩)] (.lvl 0) d s) :
  Calls Tryz.prog 79 #[.pointer (some ⟨R,0,none⟩),.string ⟨#[101,110,115,117,114,101,115]⟩] w (PS R L (fun x st'=>Run (jaN jbN d) st x st') d w):=by
 have hfi:=h.fine
 have CH:=fun W (H:At R L W d st)=>jeG H
 have CA:=fun W (H:At R L W d st)=>jcB H ⟨#[101,110,115,117,114,101,115]⟩
 have hpk:=jby (L:=L) hfi
 have his:=jaM (L:=L) hfi jbN
 cases hb:tIs L st ⟨#[101,110,115,117,114,101,115]⟩ with
 |true=>
  rw[hb,if_pos rfl] at CA
  have HM:=jD (fun x s' (hs:Stp (.lvl 0) d (jaq st) [x] s')=>(Run.bind hpk (Run.bind his (Run.ite (fun _=>Run.bind (jaS (L:=L) hfi) (Run.bind hs (ja1 (Run.fine hs (RSt.takeS_fine hfi))))) (fun h=>absurd hb h))):Run (jaN jbN d) st (.mk 5 (cur L st).a ⟨#[]⟩ 0 [x]) s'))
  generalize (cur L st).a=ea at *
  have KH:=jD CH;have KA:=jD CA;have KC:=jD (K (jaq st) (ja6 st))
  have HA0:=jD h
  have HLT:=jD h.fix.lt;have HRW:=jD h.fix.lt
  have A0:=jD (h.alloc jZ);obtain⟨B0,XR0,HPR,HLS⟩:=jS h.fix.lt
  clear h CH CA K hb hpk his hfi
  go_enter Tryz.func79,Tryz.ntmps79
  go_wp2_with (go_at_call 36;refine jR (KH.out _ A0) B0 XR0 HPR fun w1 A1 B1 XR1=>?_)
  refine jD ?_
  go_wp2_with (go_at_call 76;refine jR (KA.out _ A1) B1 XR1 HPR fun w2 A2 B2 XR2=>?_)
  refine jD ?_
  go_wp2_with (go_at_call 31;refine jT (KC.out _ A2) B2 XR2 HPR fun w3 k3 a3 t3 n3 o3 l3 c3 q3 s3 HS3 TR3 A3 B3 XR3=>?_)
  refine jD ?_
  have hAw:offs w.heap.size [w.heap.size] w3.heap.size:=⟨Nat.le_trans (jrr _) B3.out.size,fun hp=>by simp only[List.mem_cons,List.not_mem_nil,or_false] at hp;have g0:=XR3.out.lt;omega⟩
  have hki:=jaw (flatIn.one (TR3.out)) (by simp) hAw 1 rfl
  have KI:=jD hki
  clear hAw hki
  go_wp2_with (go_at_call 40;refine cM (jau _ _ _ _ _ _ _) ?_;rintro e w4 ⟨rfl,hb4⟩)
  have hbx:=Butt.of_below (R:=R) A3.out.fix.lt (Below.chain (jN (jO k3 a3 t3 n3 o3 l3 c3)) hb4)
  have ha4:At R L w4 _ _:=⟨A3.out.fix.butt hbx,A3.out.rs.below (Below.chain (jN (jO k3 a3 t3 n3 o3 l3 c3)) hb4)⟩
  have TN:=jD (jac.mpr ⟨_,rfl,KI.out.below hb4⟩:synIn (offs w.heap.size [w.heap.size]) w4 (.mk 5 ea ⟨#[]⟩ 0 [(.mk k3 a3 t3 n3 q3)]) _)
  have hb4:=hbx;clear hbx
  have A4:=jD ha4;have B4:=jtt B3 hb4
  have XR4:=jbb XR3 HPR hb4
  clear ha4 hb4
  refine jD ?_
  have FT:=jD (ja4 HA0 B4 A4 XR4 (jrr _) (.int .i64 5) (.int .i64 ea) (.string ⟨#[]⟩) (.int .i64 0) (.slice (some ⟨w3.heap.size,0,none⟩) 1 1) _ rfl)
  have GX:=jD ((TN.out).kept (by simp) FT.out.2.2.2).at
  obtain⟨yXR0,yXR1,yXR2,yXR3,yXR4,fXR0,fXR1,fXR2,fXR3,fXR4⟩:=bF XR4
  obtain⟨r0,r1,r2,r3,r4⟩:=FT.out.1
  have GA:=jD FT.out.2.1;have GB:=jD FT.out.2.2.1
  clear FT
  go_wp2
  refine bodyPost_ret (by simp[results,Tryz.results79,go_sem,r0,r1,r2,r3,r4];rfl) rfl ?_
  exact⟨_,_,_,rfl,GX.out,HM.out _ _ HS3,GA.out,GB.out⟩
 |false=>
  rw[hb,if_neg Bool.false_ne_true] at CA
  have HM:Hid (Run (jaN jbN d) st (.mk 5 (cur L st).a ⟨#[]⟩ 0 []) st):=jD (Run.bind hpk (Run.bind his (Run.ite (fun h=>absurd (hb.symm.trans h) (by decide)) (fun _=>ja1 hfi))))
  generalize (cur L st).a=ea at *
  have KH:=jD CH;have KA:=jD CA
  have HA0:=jD h
  have HLT:=jD h.fix.lt;have HRW:=jD h.fix.lt
  have A0:=jD (h.alloc jZ);obtain⟨B0,XR0,HPR,HLS⟩:=jS h.fix.lt
  clear h CH CA K hb hpk his hfi
  go_enter Tryz.func79,Tryz.ntmps79
  go_wp2_with (go_at_call 36;refine jR (KH.out _ A0) B0 XR0 HPR fun w1 A1 B1 XR1=>?_)
  refine jD ?_
  go_wp2_with (go_at_call 76;refine jR (KA.out _ A1) B1 XR1 HPR fun w2 A2 B2 XR2=>?_)
  refine jD ?_
  go_wp2_with (go_at_call 40;refine cM (jau _ _ _ _ _ _ _) ?_;rintro e w3 ⟨rfl,hb3⟩)
  have hbx:=Butt.of_below (R:=R) A2.out.fix.lt hb3
  have ha3:At R L w3 _ _:=⟨A2.out.fix.butt hbx,A2.out.rs.below hb3⟩
  have TN:=jD (jac.mpr ⟨_,rfl,(Or.inl ⟨rfl,rfl⟩)⟩:synIn (offs w.heap.size [w.heap.size]) w3 (.mk 5 ea ⟨#[]⟩ 0 []) _)
  have hb3:=hbx;clear hbx
  have A3:=jD ha3;have B3:=jtt B2 hb3
  have XR3:=jbb XR2 HPR hb3
  clear ha3 hb3
  refine jD ?_
  have FT:=jD (ja4 HA0 B3 A3 XR3 (jrr _) (.int .i64 5) (.int .i64 ea) (.string ⟨#[]⟩) (.int .i64 0) (.slice none 0 0) _ rfl)
  have GX:=jD ((TN.out).kept (by simp) FT.out.2.2.2).at
  obtain⟨yXR0,yXR1,yXR2,yXR3,yXR4,fXR0,fXR1,fXR2,fXR3,fXR4⟩:=bF XR3
  obtain⟨r0,r1,r2,r3,r4⟩:=FT.out.1
  have GA:=jD FT.out.2.1;have GB:=jD FT.out.2.2.1
  clear FT
  go_wp2
  refine bodyPost_ret (by simp[results,Tryz.results79,go_sem,r0,r1,r2,r3,r4];rfl) rfl ?_
  exact⟨_,_,_,rfl,GX.out,HM.out,GA.out,GB.out⟩
theorem je6 {R:Nat} {L:List Tk} {d:Nat} {st:RSt} {w:World} (h:At R L w d st)  :
  Calls Tryz.prog 77 #[.pointer (some ⟨R,0,none⟩)] w (PS R L (fun x st'=>Run (jaz d) st x st') d w):=by
 have hfi:=h.fine
 have CE:=fun W (H:At R L W d st)=>jaE H ⟨#[40]⟩
 have f1:=jah (can:=tIs L st ⟨#[40]⟩) hfi
 have hne:=jaI (L:=L) hfi [40]
 have HM:=jD (fun xs s' (hs:LBef L ⟨#[41]⟩ .param d (jad (tIs L st ⟨#[40]⟩) st) xs s')=>(Run.bind hne (Run.bind (jco (s:=[41]) f1 hs) (Run.bind (jaI (L:=L) (Run.fine (jco (s:=[41]) f1 hs) f1) [41]) (ja1 (jah (Run.fine (jco (s:=[41]) f1 hs) f1))))):Run (jaz d) st (.mk 3 (tokM L st (tIs L st ⟨#[40]⟩)).a ⟨#[]⟩ 0 xs) (jad (tIs L s' ⟨#[41]⟩) s')))
 have CL:=fun W (H:At R L W d (jad (tIs L st ⟨#[40]⟩) st))=>jdN H (fun s hs W2 H2=>jdS H2)
 generalize tokM L st (tIs L st ⟨#[40]⟩)=T at *
 obtain⟨ek,et,ea⟩:=T
 unfold tkA at *
 dsimp only at *
 generalize jad (tIs L st ⟨#[40]⟩) st=s1 at *
 have KE:=jD CE;have KL:=jD CL
 have HA0:=jD h
 have HLT:=jD h.fix.lt;have HRW:=jD h.fix.lt
 have A0:=jD (h.alloc jZ);obtain⟨B0,XR0,HPR,HLS⟩:=jS h.fix.lt
 clear h CE CL hfi f1 hne
 go_enter Tryz.func77,Tryz.ntmps77
 go_wp2_with (go_at_call 35;refine jR (KE.out _ A0) B0 XR0 HPR fun w1 A1 B1 XR1=>?_)
 refine jD ?_
 have A1a:=jD (A1.out.alloc (Obj.cells #[.int .i64 ek,.string et,.int .i64 ea] 50));have B1a:=jD (B1.out.alloc HRW (Obj.cells #[.int .i64 ek,.string et,.int .i64 ea] 50))
 have XR1a:=jD (XR1.out.alloc (Obj.cells #[.int .i64 ek,.string et,.int .i64 ea] 50))
 have PTT:=nR A1.out.fix.lt
 have TT1a:=jD (Bx3.new w1 (.int .i64 ek) (.string et) (.int .i64 ea))
 go_wp2_with (go_at_call 111;refine cM (KL.out _ A1a) ?_;rintro e w2 ⟨x2,v2,s2,rfl,hx2,hn2,hs2,ha2,hb2⟩)
 obtain⟨o2,c2,rfl⟩:=hx2.slice
 have RW2:=jD (ownT.kidsIn (ps:=[w.heap.size]) hx2 (Nat.le_trans (jrr _) B1a.out.size) (fun p hp=>by simp only[List.mem_cons,List.not_mem_nil,or_false] at hp;have g0:=XR1a.out.lt;omega))
 have HS2:=jD hs2;have HN2:=jD hn2
 have A2:=jD ha2;have B2:=jtt B1a hb2
 have XR2:=jbb XR1a HPR hb2
 have TT2:=jD (TT1a.out.butt PTT hb2)
 clear ha2 hb2 hx2 hs2 hn2
 refine jD ?_
 go_wp2_with (go_at_call 35;refine jX (jaE A2 ⟨#[41]⟩) B2 XR2 HPR fun w3 A3 B3 XR3 hb3=>?_)
 have TT3:=jD (TT2.out.butt PTT hb3)
 have RW23:=jD (RW2.out.butt HLT hb3)
 clear hb3
 refine jD ?_
 obtain⟨yTT0,yTT1,yTT2,-,-⟩:=TT3.out
 go_wp2_with (go_at_call 40;refine cM (jau _ _ _ _ _ _ _) ?_;rintro e w4 ⟨rfl,hb4⟩)
 have hbx:=Butt.of_below (R:=R) A3.out.fix.lt hb4
 have ha4:At R L w4 _ _:=⟨A3.out.fix.butt hbx,A3.out.rs.below hb4⟩
 have TN:=jD (jac.mpr ⟨_,rfl,RW23.out.below hb4⟩:synIn (offs w.heap.size [w.heap.size]) w4 (.mk 3 ea ⟨#[]⟩ 0 x2) _)
 have hb4:=hbx;clear hbx
 have A4:=jD ha4;have B4:=jtt B3 hb4
 have XR4:=jbb XR3 HPR hb4
 have TT4:=jD (TT3.out.butt PTT hb4)
 clear ha4 hb4
 refine jD ?_
 have FT:=jD (ja4 HA0 B4 A4 XR4 (jrr _) (.int .i64 3) (.int .i64 ea) (.string ⟨#[]⟩) (.int .i64 0) (.slice o2 x2.length c2) _ rfl)
 have GX:=jD ((TN.out).kept (by simp) FT.out.2.2.2).at
 obtain⟨yXR0,yXR1,yXR2,yXR3,yXR4,fXR0,fXR1,fXR2,fXR3,fXR4⟩:=bF XR4
 obtain⟨r0,r1,r2,r3,r4⟩:=FT.out.1
 have GA:=jD FT.out.2.1;have GB:=jD FT.out.2.2.1
 clear FT
 go_wp2
 refine bodyPost_ret (by simp[results,Tryz.results77,go_sem,r0,r1,r2,r3,r4];rfl) rfl ?_
 exact⟨_,_,_,rfl,GX.out,HM.out _ _ HS2,GA.out,GB.out⟩
theorem jh5 {R:Nat} {L:List Tk} {d:Nat} {st:RSt} {w:World} (h:At R L w d st)  :
  Calls Tryz.prog 78 #[.pointer (some ⟨R,0,none⟩)] w (PS R L (fun x st'=>Run (jao d) st x st') d w):=by
 have hfi:=h.fine
 have CA:=fun W (H:At R L W d st)=>jcB H ⟨#[114,101,116,117,114,110,115]⟩
 have CH:=fun W (H:At R L W d st)=>jeG H
 have his:=jaM (L:=L) hfi jcE
 cases hb:tIs L st ⟨#[114,101,116,117,114,110,115]⟩ with
 |true=>
  rw[hb,if_pos rfl] at CA
  have f0:=RSt.takeS_fine hfi
  have f1:=jah (can:=tIs L (jaq st) ⟨#[40]⟩) f0
  have hne:=jaI (L:=L) f0 [40]
  have HM:=jD (fun xs s' (hs:Stp (.list .param) d (jad (tIs L (jaq st) ⟨#[40]⟩) (jaq st)) xs s')=>(Run.bind his (Run.ite (fun _=>Run.bind (jaS (L:=L) hfi) (Run.bind hne (Run.bind hs (Run.bind (jaI (L:=L) (Run.fine hs f1) [41]) (ja1 (jah (Run.fine hs f1))))))) (fun h=>absurd hb h)):Run (jao d) st (.mk 3 (tokM L (jaq st) (tIs L (jaq st) ⟨#[40]⟩)).a ⟨#[]⟩ 0 xs) (jad (tIs L s' ⟨#[41]⟩) s')))
  have CE:=fun W (H:At R L W d (jaq st))=>jaE H ⟨#[40]⟩
  have CL:=fun W (H:At R L W d (jad (tIs L (jaq st) ⟨#[40]⟩) (jaq st)))=>jcs H (fun s hs W2 H2=>jdS H2)
  generalize tokM L (jaq st) (tIs L (jaq st) ⟨#[40]⟩)=T at *
  obtain⟨ek,et,ea⟩:=T
  unfold tkA at *
  dsimp only at *
  generalize jad (tIs L (jaq st) ⟨#[40]⟩) (jaq st)=s1 at *
  have KA:=jD CA;have KE:=jD CE;have KL:=jD CL
  have HA0:=jD h
  have HLT:=jD h.fix.lt;have HRW:=jD h.fix.lt
  have A0:=jD (h.alloc jZ);obtain⟨B0,XR0,HPR,HLS⟩:=jS h.fix.lt
  clear h CA CH CE CL hfi f0 f1 hne his hb
  go_enter Tryz.func78,Tryz.ntmps78
  go_wp2_with (go_at_call 76;refine jR (KA.out _ A0) B0 XR0 HPR fun w1 A1 B1 XR1=>?_)
  refine jD ?_
  go_wp2_with (go_at_call 35;refine jR (KE.out _ A1) B1 XR1 HPR fun w2 A2 B2 XR2=>?_)
  refine jD ?_
  have A2a:=jD (A2.out.alloc (Obj.cells #[.int .i64 ek,.string et,.int .i64 ea] 50));have B2a:=jD (B2.out.alloc HRW (Obj.cells #[.int .i64 ek,.string et,.int .i64 ea] 50))
  have XR2a:=jD (XR2.out.alloc (Obj.cells #[.int .i64 ek,.string et,.int .i64 ea] 50))
  have PTT:=nR A2.out.fix.lt
  have TT2a:=jD (Bx3.new w2 (.int .i64 ek) (.string et) (.int .i64 ea))
  go_wp2_with (go_at_call 74;refine cM (KL.out _ A2a) ?_;rintro e w3 ⟨x3,v3,s3,rfl,hx3,hn3,hs3,ha3,hb3⟩)
  obtain⟨o3,c3,rfl⟩:=hx3.slice
  have RW3:=jD (ownT.kidsIn (ps:=[w.heap.size]) hx3 (Nat.le_trans (jrr _) B2a.out.size) (fun p hp=>by simp only[List.mem_cons,List.not_mem_nil,or_false] at hp;have g0:=XR2a.out.lt;omega))
  have HS3:=jD hs3;have HN3:=jD hn3
  have A3:=jD ha3;have B3:=jtt B2a hb3
  have XR3:=jbb XR2a HPR hb3
  have TT3:=jD (TT2a.out.butt PTT hb3)
  clear ha3 hb3 hx3 hs3 hn3
  refine jD ?_
  go_wp2_with (go_at_call 35;refine jX (jaE A3 ⟨#[41]⟩) B3 XR3 HPR fun w4 A4 B4 XR4 hb4=>?_)
  have TT4:=jD (TT3.out.butt PTT hb4)
  have RW34:=jD (RW3.out.butt HLT hb4)
  clear hb4
  refine jD ?_
  obtain⟨yTT0,yTT1,yTT2,-,-⟩:=TT4.out
  go_wp2_with (go_at_call 40;refine cM (jau _ _ _ _ _ _ _) ?_;rintro e w5 ⟨rfl,hb5⟩)
  have hbx:=Butt.of_below (R:=R) A4.out.fix.lt hb5
  have ha5:At R L w5 _ _:=⟨A4.out.fix.butt hbx,A4.out.rs.below hb5⟩
  have TN:=jD (jac.mpr ⟨_,rfl,RW34.out.below hb5⟩:synIn (offs w.heap.size [w.heap.size]) w5 (.mk 3 ea ⟨#[]⟩ 0 x3) _)
  have hb5:=hbx;clear hbx
  have A5:=jD ha5;have B5:=jtt B4 hb5
  have XR5:=jbb XR4 HPR hb5
  have TT5:=jD (TT4.out.butt PTT hb5)
  clear ha5 hb5
  refine jD ?_
  have FT:=jD (ja4 HA0 B5 A5 XR5 (jrr _) (.int .i64 3) (.int .i64 ea) (.string ⟨#[]⟩) (.int .i64 0) (.slice o3 x3.length c3) _ rfl)
  have GX:=jD ((TN.out).kept (by simp) FT.out.2.2.2).at
  obtain⟨yXR0,yXR1,yXR2,yXR3,yXR4,fXR0,fXR1,fXR2,fXR3,fXR4⟩:=bF XR5
  obtain⟨r0,r1,r2,r3,r4⟩:=FT.out.1
  have GA:=jD FT.out.2.1;have GB:=jD FT.out.2.2.1
  clear FT
  go_wp2
  refine bodyPost_ret (by simp[results,Tryz.results78,go_sem,r0,r1,r2,r3,r4];rfl) rfl ?_
  exact⟨_,_,_,rfl,GX.out,HM.out _ _ HS3,GA.out,GB.out⟩
 |false=>
  rw[hb,if_neg Bool.false_ne_true] at CA
  have HM:Hid (Run (jao d) st (.mk 3 (cur L st).a ⟨#[]⟩ 0 []) st):=jD (Run.bind his (Run.ite (fun h=>absurd (hb.symm.trans h) (by decide)) (fun _=>Run.bind (jby (L:=L) hfi) (ja1 hfi))))
  generalize (cur L st).a=ea at *
  have KH:=jD CH;have KA:=jD CA
  have HA0:=jD h
  have HLT:=jD h.fix.lt;have HRW:=jD h.fix.lt
  have A0:=jD (h.alloc jZ);obtain⟨B0,XR0,HPR,HLS⟩:=jS h.fix.lt
  clear h CH CA his hb hfi
  go_enter Tryz.func78,Tryz.ntmps78
  go_wp2_with (go_at_call 76;refine jR (KA.out _ A0) B0 XR0 HPR fun w1 A1 B1 XR1=>?_)
  refine jD ?_
  go_wp2_with (go_at_call 36;refine jR (KH.out _ A1) B1 XR1 HPR fun w2 A2 B2 XR2=>?_)
  refine jD ?_
  go_wp2_with (go_at_call 40;refine cM (jau _ _ _ _ _ _ _) ?_;rintro e w3 ⟨rfl,hb3⟩)
  have hbx:=Butt.of_below (R:=R) A2.out.fix.lt hb3
  have ha3:At R L w3 _ _:=⟨A2.out.fix.butt hbx,A2.out.rs.below hb3⟩
  have TN:=jD (jac.mpr ⟨_,rfl,(Or.inl ⟨rfl,rfl⟩)⟩:synIn (offs w.heap.size [w.heap.size]) w3 (.mk 3 ea ⟨#[]⟩ 0 []) _)
  have hb3:=hbx;clear hbx
  have A3:=jD ha3;have B3:=jtt B2 hb3
  have XR3:=jbb XR2 HPR hb3
  clear ha3 hb3
  refine jD ?_
  have FT:=jD (ja4 HA0 B3 A3 XR3 (jrr _) (.int .i64 3) (.int .i64 ea) (.string ⟨#[]⟩) (.int .i64 0) (.slice none 0 0) _ rfl)
  have GX:=jD ((TN.out).kept (by simp) FT.out.2.2.2).at
  obtain⟨yXR0,yXR1,yXR2,yXR3,yXR4,fXR0,fXR1,fXR2,fXR3,fXR4⟩:=bF XR3
  obtain⟨r0,r1,r2,r3,r4⟩:=FT.out.1
  have GA:=jD FT.out.2.1;have GB:=jD FT.out.2.2.1
  clear FT
  go_wp2
  refine bodyPost_ret (by simp[results,Tryz.results78,go_sem,r0,r1,r2,r3,r4];rfl) rfl ?_
  exact⟨_,_,_,rfl,GX.out,HM.out,GA.out,GB.out⟩
theorem jhX {R:Nat} {L:List Tk} {d:Nat} {st:RSt} {w:World} (h:At R L w d st) (hv:tIs L st ⟨#[118,97,114]⟩=true) :
  Calls Tryz.prog 140 #[.pointer (some ⟨R,0,none⟩)] w (PS R L (fun x st'=>Run (jaY d) st x st') d w):=by
 have hfi:=h.fine
 have CE:=fun W (H:At R L W d st)=>jaE H ⟨#[118,97,114]⟩
 rw[hv,jci] at CE
 have e:jad true st=jaq st:=by cases st<;>rfl
 rw[e] at CE
 have f0:=RSt.takeS_fine hfi
 have HM:=jD (fun xs s' (hs:Stp (.list .param) d (jaq st) xs s')=>(Run.bind (jaS (L:=L) hfi) (Run.bind hs (Run.bind (jaI (L:=L) (Run.fine hs f0) [59]) (ja1 (jah (Run.fine hs f0))))):Run (jaY d) st (.mk 7 (cur L st).a ⟨#[]⟩ 0 xs) (jad (tIs L s' ⟨#[59]⟩) s')))
 have CL:=fun W (H:At R L W d (jaq st))=>jcs H (fun s hs W2 H2=>jdS H2)
 generalize cur L st=T at *
 obtain⟨ek,et,ea⟩:=T
 unfold tkA at *
 dsimp only at *
 have KE:=jD CE;have KL:=jD CL
 have HA0:=jD h
 have HLT:=jD h.fix.lt;have HRW:=jD h.fix.lt
 have A0:=jD (h.alloc jZ);obtain⟨B0,XR0,HPR,HLS⟩:=jS h.fix.lt
 clear h CE CL hfi f0 e hv
 go_enter Tryz.func140,Tryz.ntmps140
 go_wp2_with (go_at_call 35;refine jR (KE.out _ A0) B0 XR0 HPR fun w1 A1 B1 XR1=>?_)
 refine jD ?_
 have A1a:=jD (A1.out.alloc (Obj.cells #[.int .i64 ek,.string et,.int .i64 ea] 50));have B1a:=jD (B1.out.alloc HRW (Obj.cells #[.int .i64 ek,.string et,.int .i64 ea] 50))
 have XR1a:=jD (XR1.out.alloc (Obj.cells #[.int .i64 ek,.string et,.int .i64 ea] 50))
 have PTT:=nR A1.out.fix.lt
 have TT1a:=jD (Bx3.new w1 (.int .i64 ek) (.string et) (.int .i64 ea))
 go_wp2_with (go_at_call 74;refine cM (KL.out _ A1a) ?_;rintro e w2 ⟨x2,v2,s2,rfl,hx2,hn2,hs2,ha2,hb2⟩)
 obtain⟨o2,c2,rfl⟩:=hx2.slice
 have RW2:=jD (ownT.kidsIn (ps:=[w.heap.size]) hx2 (Nat.le_trans (jrr _) B1a.out.size) (fun p hp=>by simp only[List.mem_cons,List.not_mem_nil,or_false] at hp;have g0:=XR1a.out.lt;omega))
 have HS2:=jD hs2;have HN2:=jD hn2
 have A2:=jD ha2;have B2:=jtt B1a hb2
 have XR2:=jbb XR1a HPR hb2
 have TT2:=jD (TT1a.out.butt PTT hb2)
 clear ha2 hb2 hx2 hs2 hn2
 refine jD ?_
 go_wp2_with (go_at_call 35;refine jX (jaE A2 ⟨#[59]⟩) B2 XR2 HPR fun w3 A3 B3 XR3 hb3=>?_)
 have TT3:=jD (TT2.out.butt PTT hb3)
 have RW23:=jD (RW2.out.butt HLT hb3)
 clear hb3
 refine jD ?_
 obtain⟨yTT0,yTT1,yTT2,-,-⟩:=TT3.out
 go_wp2_with (go_at_call 40;refine cM (jau _ _ _ _ _ _ _) ?_;rintro e w4 ⟨rfl,hb4⟩)
 have hbx:=Butt.of_below (R:=R) A3.out.fix.lt hb4
 have ha4:At R L w4 _ _:=⟨A3.out.fix.butt hbx,A3.out.rs.below hb4⟩
 have TN:=jD (jac.mpr ⟨_,rfl,RW23.out.below hb4⟩:synIn (offs w.heap.size [w.heap.size]) w4 (.mk 7 ea ⟨#[]⟩ 0 x2) _)
 have hb4:=hbx;clear hbx
 have A4:=jD ha4;have B4:=jtt B3 hb4
 have XR4:=jbb XR3 HPR hb4
 have TT4:=jD (TT3.out.butt PTT hb4)
 clear ha4 hb4
 refine jD ?_
 have FT:=jD (ja4 HA0 B4 A4 XR4 (jrr _) (.int .i64 7) (.int .i64 ea) (.string ⟨#[]⟩) (.int .i64 0) (.slice o2 x2.length c2) _ rfl)
 have GX:=jD ((TN.out).kept (by simp) FT.out.2.2.2).at
 obtain⟨yXR0,yXR1,yXR2,yXR3,yXR4,fXR0,fXR1,fXR2,fXR3,fXR4⟩:=bF XR4
 obtain⟨r0,r1,r2,r3,r4⟩:=FT.out.1
 have GA:=jD FT.out.2.1;have GB:=jD FT.out.2.2.1
 clear FT
 go_wp2
 refine bodyPost_ret (by simp[results,Tryz.results140,go_sem,r0,r1,r2,r3,r4];rfl) rfl ?_
 exact⟨_,_,_,rfl,GX.out,HM.out _ _ HS2,GA.out,GB.out⟩
theorem jkZ {R:Nat} {L:List Tk} {d:Nat} {st:RSt} {w:World} (h:At R L w d st)  :
  Calls Tryz.prog 38 #[.pointer (some ⟨R,0,none⟩)] w (PT R L .record d st w):=by
 have hfi:=h.fine
 have CE:=fun W (H:At R L W d st)=>jaE H ⟨#[114,101,99,111,114,100]⟩
 have f1:=jah (can:=tIs L st ⟨#[114,101,99,111,114,100]⟩) hfi
 have h1:=jaI (L:=L) hfi jaT
 generalize hs1:jad (tIs L st ⟨#[114,101,99,111,114,100]⟩) st=s1 at *
 have h1:Run (jaA jaT) st (tokM L st (tIs L st ⟨#[114,101,99,111,114,100]⟩)) s1:=hs1 ▸ h1
 have CN:=fun W (H:At R L W d s1)=>jiT H
 have h2:=jda (L:=L) f1
 have f2:=jah (can:=isN (cur L s1)) f1
 generalize jad (isN (cur L s1)) s1=s2 at *
 have h3:=jaI (L:=L) f2 [123]
 have f3:=jah (can:=tIs L s2 ⟨#[123]⟩) f2
 have HM:=jD (fun xs s' (hs:Stp (.list .bare) d (jad (tIs L s2 ⟨#[123]⟩) s2) xs s')=>jgx (Run.bind h1 (Run.bind h2 (Run.bind h3 (Run.bind hs (Run.bind (jaI (L:=L) (Run.fine hs f3) [125]) (ja1 (jah (Run.fine hs f3)))))))))
 have CL:=fun W (H:At R L W d (jad (tIs L s2 ⟨#[123]⟩) s2))=>jin H (fun s hs W2 H2=>jmG H2)
 generalize tokM L st (tIs L st ⟨#[114,101,99,111,114,100]⟩)=T at *
 obtain⟨ek,et,ea⟩:=T
 generalize tokM L s1 (isN (cur L s1))=T at *
 obtain⟨uk,ut,ua⟩:=T
 unfold tkA at *
 dsimp only at *
 have KE:=jD CE;have KN:=jD CN;have KL:=jD CL
 have HA0:=jD h
 have HLT:=jD h.fix.lt;have HRW:=jD h.fix.lt
 have A0:=jD (h.alloc jZ);obtain⟨B0,XR0,HPR,HLS⟩:=jS h.fix.lt
 clear h CE CN CL hfi f1 f2 f3 h1 h2 h3 hs1
 go_enter Tryz.func38,Tryz.ntmps38
 go_wp2_with (go_at_call 35;refine jR (KE.out _ A0) B0 XR0 HPR fun w1 A1 B1 XR1=>?_)
 refine jD ?_
 have A1a:=jD (A1.out.alloc (Obj.cells #[.int .i64 ek,.string et,.int .i64 ea] 50));have B1a:=jD (B1.out.alloc HRW (Obj.cells #[.int .i64 ek,.string et,.int .i64 ea] 50))
 have XR1a:=jD (XR1.out.alloc (Obj.cells #[.int .i64 ek,.string et,.int .i64 ea] 50))
 have PTT:=nR A1.out.fix.lt
 have TT1a:=jD (Bx3.new w1 (.int .i64 ek) (.string et) (.int .i64 ea))
 go_wp2_with (go_at_call 73;refine jX (KN.out _ A1a) B1a XR1a HPR fun w2 A2 B2 XR2 hb2=>?_)
 have TT2:=jD (TT1a.out.butt PTT hb2)
 clear hb2
 refine jD ?_
 have A2a1:=jD (A2.out.alloc (Obj.cells #[.int .i64 uk,.string ut,.int .i64 ua] 50));have B2a1:=jD (B2.out.alloc HRW (Obj.cells #[.int .i64 uk,.string ut,.int .i64 ua] 50))
 have XR2a1:=jD (XR2.out.alloc (Obj.cells #[.int .i64 uk,.string ut,.int .i64 ua] 50))
 have TT2a1:=jD (TT2.out.alloc (Obj.cells #[.int .i64 uk,.string ut,.int .i64 ua] 50))
 have PTU:=nR A2.out.fix.lt
 have TU2a1:=jD (Bx3.new w2 (.int .i64 uk) (.string ut) (.int .i64 ua))
 go_wp2_with (go_at_call 35;refine jX (jaE A2a1 ⟨#[123]⟩) B2a1 XR2a1 HPR fun w3 A3 B3 XR3 hb3=>?_)
 have TT3:=jD (TT2a1.out.butt PTT hb3)
 have TU3:=jD (TU2a1.out.butt PTU hb3)
 clear hb3
 refine jD ?_
 go_wp2_with (go_at_call 74;refine cM (KL.out _ A3) ?_;rintro e w4 ⟨x4,v4,s4,rfl,hx4,hn4,hs4,ha4,hb4⟩)
 obtain⟨o4,c4,rfl⟩:=hx4.slice
 have RW4:=jD (ownT.kidsIn (ps:=[w.heap.size]) hx4 (Nat.le_trans (jrr _) B3.out.size) (fun p hp=>by simp only[List.mem_cons,List.not_mem_nil,or_false] at hp;have g0:=XR3.out.lt;omega))
 have HS4:=jD hs4;have HN4:=jD hn4
 have A4:=jD ha4;have B4:=jtt B3 hb4
 have XR4:=jbb XR3 HPR hb4
 have TT4:=jD (TT3.out.butt PTT hb4)
 have TU4:=jD (TU3.out.butt PTU hb4)
 clear ha4 hb4 hx4 hs4 hn4
 refine jD ?_
 go_wp2_with (go_at_call 35;refine jX (jaE A4 ⟨#[125]⟩) B4 XR4 HPR fun w5 A5 B5 XR5 hb5=>?_)
 have TT5:=jD (TT4.out.butt PTT hb5)
 have TU5:=jD (TU4.out.butt PTU hb5)
 have RW45:=jD (RW4.out.butt HLT hb5)
 clear hb5
 refine jD ?_
 obtain⟨yTT0,yTT1,yTT2,-,-⟩:=TT5.out
 obtain⟨yTU0,yTU1,yTU2,-,-⟩:=TU5.out
 go_wp2_with (go_at_call 40;refine cM (jau _ _ _ _ _ _ _) ?_;rintro e w6 ⟨rfl,hb6⟩)
 have hbx:=Butt.of_below (R:=R) A5.out.fix.lt hb6
 have ha6:At R L w6 _ _:=⟨A5.out.fix.butt hbx,A5.out.rs.below hb6⟩
 have TN:=jD (jac.mpr ⟨_,rfl,RW45.out.below hb6⟩:synIn (offs w.heap.size [w.heap.size]) w6 (.mk 1 ea ut 0 x4) _)
 have hb6:=hbx;clear hbx
 have A6:=jD ha6;have B6:=jtt B5 hb6
 have XR6:=jbb XR5 HPR hb6
 have TT6:=jD (TT5.out.butt PTT hb6)
 have TU6:=jD (TU5.out.butt PTU hb6)
 clear ha6 hb6
 refine jD ?_
 have FT:=jD (ja4 HA0 B6 A6 XR6 (jrr _) (.int .i64 1) (.int .i64 ea) (.string ut) (.int .i64 0) (.slice o4 x4.length c4) _ rfl)
 have GX:=jD ((TN.out).kept (by simp) FT.out.2.2.2).at
 obtain⟨yXR0,yXR1,yXR2,yXR3,yXR4,fXR0,fXR1,fXR2,fXR3,fXR4⟩:=bF XR6
 obtain⟨r0,r1,r2,r3,r4⟩:=FT.out.1
 have GA:=jD FT.out.2.1;have GB:=jD FT.out.2.2.1
 clear FT
 go_wp2
 refine bodyPost_ret (by simp[results,Tryz.results38,go_sem,r0,r1,r2,r3,r4];rfl) rfl ?_
 exact⟨_,_,_,rfl,GX.out,HM.out _ _ HS4,GA.out,GB.out⟩
theorem jm8 {R:Nat} {L:List Tk} {d:Nat} {st:RSt} {w:World} (h:At R L w d st) (can:Bool):Calls Tryz.prog 71 #[.pointer (some ⟨R,0,none⟩),.bool can] w fun e w'=>e = .returned (tkA (tokM L st can))∧At R L w' d (jad can st)∧Butt R w w':=by
 obtain⟨hf,nx,a,er,h1,h2,h3⟩:=h
 refine(jeD R L nx d a er can w h2 h1 (Nat.le_trans hf.toks.len (by decide))).mono ?_
 rintro e w' ⟨rfl,hr,hb⟩
 exact⟨by rw[←jc5 _ h1 h3];rfl,⟨hf.butt hb,jfK _ h1 h3 hr⟩,hb⟩
theorem jlR {R:Nat} {L:List Tk} {d:Nat} {st:RSt} {w:World} (h:At R L w d st) (a:Int) (e:Nat) (he:e≠0):Calls Tryz.prog 108 #[.pointer (some ⟨R,0,none⟩),.int .i64 a,.int .i64 (e:Int)] w fun x w'=>x = .returned (.tuple #[])∧At R L w' d (jgY a e st)∧Butt R w w':=by
 obtain⟨hf,nx,b,er,h1,h2,h3⟩:=h
 refine(jeC R L nx d b er a e w h2 (Nat.le_trans hf.toks.len (by decide))).mono ?_
 rintro x w' ⟨rfl,hr,hb⟩
 refine⟨rfl,⟨hf.butt hb,?_⟩,hb⟩
 rcases h3 with ⟨rfl,rfl,rfl⟩|⟨g1,rfl,rfl⟩
 ·rw[if_pos (by rfl),if_pos (by rfl)] at hr
  exact⟨_,a,e,by omega,hr,.inr ⟨he,rfl,rfl⟩⟩
 ·rw[if_neg (by omega),if_neg (by omega)] at hr
  exact⟨_,b,er,h1,hr,.inr ⟨g1,rfl,rfl⟩⟩
theorem jlS {R:Nat} {L:List Tk} {d0 d q:Nat} {st0 st:RSt} {w W:World} {u0 u1 u2:Value} (h0:At R L w d0 st0) (hb:Butt R w W) (ha:At R L W d st) (hB:Bx3 W q u0 u1 u2) (hq:w.heap.size≤q)
  (v0 v1 v2:Value) (W':World) (hW:W'=((W.setCell ⟨q,0,none⟩ v0).setCell ⟨q,1,none⟩ v1).setCell ⟨q,2,none⟩ v2) :
  (W'.cell? ⟨q,0,none⟩=some v0∧W'.cell? ⟨q,1,none⟩=some v1∧W'.cell? ⟨q,2,none⟩=some v2)∧At R L W' d st∧Butt R w W':=by
 obtain⟨q0,q1,q2⟩:=box3 hB.c0 hB.c1 hB.c2 v0 v1 v2
 obtain⟨hf0,nx0,a0,er0,h01,h02,h03⟩:=h0
 obtain⟨hf,nx,a,er,h1,h2,h3⟩:=ha
 obtain⟨hr,hbt⟩:=jge h02 hb h2 hq v0 v1 v2
 rw[←hW] at hr hbt q0 q1 q2
 exact⟨⟨q0,q1,q2⟩,⟨hf0.butt hbt,nx,a,er,h1,hr,h3⟩,hbt⟩
theorem jlb {R:Nat} {L:List Tk} {d:Nat} {st:RSt} {w:World} (h:At R L w d st) :
  Calls Tryz.prog 160 #[.pointer (some ⟨R,0,none⟩)] w fun e w'=>e = .returned (tkA (tokM L st ((cur L st).k==1)))∧At R L w' d (jad ((cur L st).k==1) st)∧Butt R w w':=by
 have CN:=fun W (H:At R L W d st)=>jgo H
 have CM:=fun W (H:At R L W d st)=>jm8 H ((cur L st).k==1)
 generalize ((cur L st).k==1)=can at *
 generalize tokM L st can=T at *
 generalize jad can st=s1 at *
 obtain⟨ek,et,ea⟩:=T
 unfold tkA at *
 dsimp only at *
 have KN:=jD CN;have KM:=jD CM;have HA0:=jD h;have HLT:=jD h.fix.lt
 have A0:=jD (h.alloc (Obj.cells #[.int .i64 0,.string ⟨#[]⟩,.int .i64 0] 50));have B0:=jD ((Butt.refl R w).alloc h.fix.lt (Obj.cells #[.int .i64 0,.string ⟨#[]⟩,.int .i64 0] 50))
 have TR0:=jD (Bx3.new w (.int .i64 0) (.string ⟨#[]⟩) (.int .i64 0))
 have HPR:=nR h.fix.lt
 clear CN CM h
 go_enter Tryz.func160,Tryz.ntmps160
 go_wp2_with (go_at_call 130;refine cM (KN.out _ A0) ?_;rintro e w1 ⟨rfl,ha1,hb1⟩)
 have A1:=jD ha1;have B1:=jtt B0 hb1;have TR1:=jD (TR0.out.butt HPR hb1)
 clear ha1 hb1
 refine jD ?_
 go_wp2_with (go_at_call 71;refine cM (KM.out _ A1) ?_;rintro e w2 ⟨rfl,ha2,hb2⟩)
 have A2:=jD ha2;have B2:=jtt B1 hb2;have TR2:=jD (TR1.out.butt HPR hb2)
 clear ha2 hb2
 refine jD ?_
 have FT:=jD (jlS HA0 B2 A2 TR2 (jrr _) (.int .i64 ek) (.string et) (.int .i64 ea) _ rfl)
 obtain⟨y0,y1,y2,yf,yl⟩:=TR2.out
 have f0:=yf 0;have f1:=yf 1;have f2:=yf 2
 obtain⟨r0,r1,r2⟩:=FT.out.1
 have GA:=jD FT.out.2.1;have GB:=jD FT.out.2.2
 clear FT yf yl
 go_wp2
 refine bodyPost_ret (by simp[results,Tryz.results160,go_sem,r0,r1,r2];rfl) rfl ?_
 exact⟨rfl,GA.out,GB.out⟩
def NumL (L:List Tk):Prop:=∀ n,(tkD L n).k=1→(Lib.atoiAll (tkD L n).t.data.toList = .ok (pNum (bytes (tkD L n).t):Nat)∧pNum (bytes (tkD L n).t)≤9223372036854775807)∨(Lib.atoiAll (tkD L n).t.data.toList = .range∧1048576<pNum (bytes (tkD L n).t))
theorem Calls.both {P:Program} {f:FuncId} {args:Array Value} {w:World} {v:Value} {n:TypeId} (h:Calls P f args w fun e w'=>e = .returned v∧(w'=w∨∃ t,w'=Lib.bytesWorld w n t)):Calls P f args w fun e w'=>e = .returned v∧Below w.heap.size w w':=by
 refine h.mono ?_
 rintro e w' ⟨he,rfl|⟨t,rfl⟩⟩
 ·exact⟨he,Below.refl _ _⟩
 ·exact⟨he,Lib.bytesWorld_below _ _ _⟩
theorem jlc {L:List Tk} {st:RSt} (hL:TkL L) (hf:st.fine) (hb:((cur L st).k==1)=true) (hv:¬ 1048576<pNum (bytes (cur L st).t)):Run mNum st (pNum (bytes (cur L st).t):Int) (jaq st):=by
 cases st with
 |bad a e=>rw[jeH hL] at hb;cases hb
 |ok l=>exact .inl ⟨pTl l,rfl,jaJ hf,jat l,0,fun f _=>by unfold mNum;rw[if_pos (show (pHd l).k=1 from beq_iff_eq.mp hb),if_neg (show ¬ 1048576<pNum (bytes (pHd l).t) from hv)];rfl⟩
theorem jjH {L:List Tk} {st:RSt} (hL:TkL L) (hb:((cur L st).k==1)=true) (hv:1048576<pNum (bytes (cur L st).t)) (n:Int):Run mNum st n (jgY (cur L st).a 2 (jaq st)):=by
 cases st with
 |bad a e=>rw[jeH hL] at hb;cases hb
 |ok l=>exact .inr ⟨_,2,by decide,rfl,0,fun f _=>by unfold mNum;rw[if_pos (show (pHd l).k=1 from beq_iff_eq.mp hb),if_pos (show 1048576<pNum (bytes (pHd l).t) from hv)];rfl⟩
theorem jld {L:List Tk} {st:RSt} (hb:((cur L st).k==1)=false) (n:Int) (a:Int):Run mNum st n (jgY a 2 (jad false st)):=by
 cases st with
 |bad a e=>exact rfl
 |ok l=>exact .inr ⟨_,4,by decide,rfl,0,fun f _=>by unfold mNum;rw[if_neg (show ¬ (pHd l).k=1 from fun e=>by rw[show (cur L (.ok l)).k=1 from e] at hb;cases hb)]⟩
theorem jhY {R:Nat} {L:List Tk} {d:Nat} {s1:RSt} {w:World} {s0:RSt} (ek:Int) (et:ByteArray) (ea:Int) (v:Int) (hv:¬ 1048576<v) (h:At R L w d s0) (CN:∀ W:World,At R L W d s0→Calls Tryz.prog 160 #[.pointer (some ⟨R,0,none⟩)] W fun e w'=>e = .returned (.agg #[.int .i64 ek,.string et,.int .i64 ea])∧At R L w' d s1∧Butt R W w') (CA:∀ W:World,At R L W d s1→Calls Tryz.prog 161 #[.string et] W fun e w'=>e = .returned (.tuple #[.int .i64 v,.nilIface])∧Below W.heap.size W w') :
  Calls Tryz.prog 151 #[.pointer (some ⟨R,0,none⟩)] w fun e w'=>e = .returned (.int .i64 v)∧At R L w' d s1∧Butt R w w':=by
 have KN:=jD CN;have KA:=jD CA
 have t1:decide ((1048576:Int)<v)=false:=decide_eq_false hv
 have HA0:=jD h
 have HLT:=jD h.fix.lt;have HRW:=jD h.fix.lt
 have A0:=jD h;have B0:=jD (Butt.refl R w)
 clear h CN CA hv
 go_enter Tryz.func151,Tryz.ntmps151
 go_wp2_with (go_at_call 160;refine cM (KN.out _ A0) ?_;rintro e w1 ⟨rfl,ha1,hb1⟩)
 have A1:=jD ha1;have B1:=jtt B0 hb1
 clear ha1 hb1
 refine jD ?_
 have A1a:=jD (A1.out.alloc (jU ek et ea));have B1a:=jD (B1.out.alloc HRW (jU ek et ea))
 have PTT:=nR A1.out.fix.lt
 have TT1a:=jD (Bx3.new w1 (.int .i64 ek) (.string et) (.int .i64 ea))
 obtain⟨yTT0,yTT1,yTT2,-,-⟩:=TT1a.out
 go_wp2_with (go_at_call 161;refine cM (KA.out _ A1a) ?_;rintro e w2 ⟨rfl,hbl⟩)
 have ha2:=A1a.out.below hbl;have hb2:=Butt.of_below (R:=R) A1a.out.fix.lt hbl;clear hbl yTT0 yTT1 yTT2
 have A2:=jD ha2;have B2:=jtt B1a hb2
 have TT2:=jD (TT1a.out.butt PTT hb2)
 clear ha2 hb2
 refine jD ?_
 obtain⟨yTT0,yTT1,yTT2,-,-⟩:=TT2.out
 go_wp2
 go_ret
 exact⟨rfl,A2.out,B2.out⟩
theorem jgM {R:Nat} {L:List Tk} {d:Nat} {s1:RSt} {w:World} {s0:RSt} (ek:Int) (et:ByteArray) (ea:Int) (v:Int) (hv:1048576<v) (h:At R L w d s0) (CN:∀ W:World,At R L W d s0→Calls Tryz.prog 160 #[.pointer (some ⟨R,0,none⟩)] W fun e w'=>e = .returned (.agg #[.int .i64 ek,.string et,.int .i64 ea])∧At R L w' d s1∧Butt R W w') (CA:∀ W:World,At R L W d s1→Calls Tryz.prog 161 #[.string et] W fun e w'=>e = .returned (.tuple #[.int .i64 v,.nilIface])∧Below W.heap.size W w') :
  Calls Tryz.prog 151 #[.pointer (some ⟨R,0,none⟩)] w fun e w'=>e = .returned (.int .i64 v)∧At R L w' d (jgY ea 2 s1)∧Butt R w w':=by
 have KN:=jD CN;have KA:=jD CA
 have t1:decide ((1048576:Int)<v)=true:=decide_eq_true hv
 have HA0:=jD h
 have HLT:=jD h.fix.lt;have HRW:=jD h.fix.lt
 have A0:=jD h;have B0:=jD (Butt.refl R w)
 clear h CN CA hv
 go_enter Tryz.func151,Tryz.ntmps151
 go_wp2_with (go_at_call 160;refine cM (KN.out _ A0) ?_;rintro e w1 ⟨rfl,ha1,hb1⟩)
 have A1:=jD ha1;have B1:=jtt B0 hb1
 clear ha1 hb1
 refine jD ?_
 have A1a:=jD (A1.out.alloc (jU ek et ea));have B1a:=jD (B1.out.alloc HRW (jU ek et ea))
 have PTT:=nR A1.out.fix.lt
 have TT1a:=jD (Bx3.new w1 (.int .i64 ek) (.string et) (.int .i64 ea))
 obtain⟨yTT0,yTT1,yTT2,-,-⟩:=TT1a.out
 go_wp2_with (go_at_call 161;refine cM (KA.out _ A1a) ?_;rintro e w2 ⟨rfl,hbl⟩)
 have ha2:=A1a.out.below hbl;have hb2:=Butt.of_below (R:=R) A1a.out.fix.lt hbl;clear hbl yTT0 yTT1 yTT2
 have A2:=jD ha2;have B2:=jtt B1a hb2
 have TT2:=jD (TT1a.out.butt PTT hb2)
 clear ha2 hb2
 refine jD ?_
 obtain⟨yTT0,yTT1,yTT2,-,-⟩:=TT2.out
 go_wp2_with (go_at_call 108;refine cM (jlR A2 ea 2 (by decide)) ?_;rintro e w3 ⟨rfl,ha3,hb3⟩)
 have A3:=jD ha3;have B3:=jtt B2 hb3
 have TT3:=jD (TT2.out.butt PTT hb3)
 clear ha3 hb3
 refine jD ?_
 go_wp2
 go_ret
 exact⟨rfl,A3.out,B3.out⟩
theorem je8 {R:Nat} {L:List Tk} {d:Nat} {s1:RSt} {w:World} {s0:RSt} (ek:Int) (et:ByteArray) (ea:Int) (v:Int)  (h:At R L w d s0) (CN:∀ W:World,At R L W d s0→Calls Tryz.prog 160 #[.pointer (some ⟨R,0,none⟩)] W fun e w'=>e = .returned (.agg #[.int .i64 ek,.string et,.int .i64 ea])∧At R L w' d s1∧Butt R W w') (CA:∀ W:World,At R L W d s1→Calls Tryz.prog 161 #[.string et] W fun e w'=>∃ N,e = .returned (.tuple #[.int .i64 v,.iface 133 (.pointer (some ⟨N,0,none⟩))])∧Below W.heap.size W w') :
  Calls Tryz.prog 151 #[.pointer (some ⟨R,0,none⟩)] w fun e w'=>e = .returned (.int .i64 v)∧At R L w' d (jgY ea 2 s1)∧Butt R w w':=by
 have KN:=jD CN;have KA:=jD CA
 have HA0:=jD h
 have HLT:=jD h.fix.lt;have HRW:=jD h.fix.lt
 have A0:=jD h;have B0:=jD (Butt.refl R w)
 clear h CN CA
 go_enter Tryz.func151,Tryz.ntmps151
 go_wp2_with (go_at_call 160;refine cM (KN.out _ A0) ?_;rintro e w1 ⟨rfl,ha1,hb1⟩)
 have A1:=jD ha1;have B1:=jtt B0 hb1
 clear ha1 hb1
 refine jD ?_
 have A1a:=jD (A1.out.alloc (jU ek et ea));have B1a:=jD (B1.out.alloc HRW (jU ek et ea))
 have PTT:=nR A1.out.fix.lt
 have TT1a:=jD (Bx3.new w1 (.int .i64 ek) (.string et) (.int .i64 ea))
 obtain⟨yTT0,yTT1,yTT2,-,-⟩:=TT1a.out
 go_wp2_with (go_at_call 161;refine cM (KA.out _ A1a) ?_;rintro e w2 ⟨N,rfl,hbl⟩)
 have ha2:=A1a.out.below hbl;have hb2:=Butt.of_below (R:=R) A1a.out.fix.lt hbl;clear hbl yTT0 yTT1 yTT2
 have A2:=jD ha2;have B2:=jtt B1a hb2
 have TT2:=jD (TT1a.out.butt PTT hb2)
 clear ha2 hb2
 refine jD ?_
 obtain⟨yTT0,yTT1,yTT2,-,-⟩:=TT2.out
 go_wp2_with (go_at_call 108;refine cM (jlR A2 ea 2 (by decide)) ?_;rintro e w3 ⟨rfl,ha3,hb3⟩)
 have A3:=jD ha3;have B3:=jtt B2 hb3
 have TT3:=jD (TT2.out.butt PTT hb3)
 clear ha3 hb3
 refine jD ?_
 go_wp2
 go_ret
 exact⟨rfl,A3.out,B3.out⟩
theorem jle {R:Nat} {L:List Tk} {d:Nat} {st:RSt} {w:World} (hN:NumL L) (h:At R L w d st) :
  Calls Tryz.prog 151 #[.pointer (some ⟨R,0,none⟩)] w fun e w'=>∃ n st',e = .returned (.int .i64 n)∧Run mNum st n st'∧At R L w' d st'∧Butt R w w':=by
 have hfi:=h.fine
 have hL:=h.fix.toks
 have CN:=fun W (H:At R L W d st)=>jlb H
 have hsz:(tokM L st ((cur L st).k==1)).t.size≤1000000:=by
  obtain⟨hf,nx,a,er,h1,h2,h3⟩:=h
  rw[←jc5 _ h1 h3]
  exact hL.size _
 have hE:∀ W:World,At R L W d (jad ((cur L st).k==1) st)→∀ k,k=2∨k=3→∃ ev,W.cell? ⟨k,0,none⟩=some ev∧(ev = .nilIface∨∃ te pe,ev = .iface te pe):=fun W H k hk=>(H.fix.errs k hk).2.2
 cases hb:((cur L st).k==1) with
 |true=>
  have e1:jad true st=jaq st:=by cases st<;>rfl
  rw[hb] at CN hsz hE
  rw[e1] at CN hE
  rw[jci] at CN hsz
  have hk:(cur L st).k=1:=beq_iff_eq.mp hb
  have hn:(Lib.atoiAll (cur L st).t.data.toList = .ok (pNum (bytes (cur L st).t):Nat)∧pNum (bytes (cur L st).t)≤9223372036854775807)∨(Lib.atoiAll (cur L st).t.data.toList = .range∧1048576<pNum (bytes (cur L st).t)):=by
   obtain⟨hf,nx,a,er,h1,h2,h3⟩:=h
   have hc:=jbt h1 h3
   rw[hc] at hk ⊢
   exact hN nx hk
  have H1:=jlc hL hfi hb
  have H2:=jjH hL hb
  generalize cur L st=T at *
  obtain⟨ek,et,ea⟩:=T
  unfold tkA at CN
  dsimp only at *
  rcases hn with ⟨hn,hle⟩|⟨hn,hlt⟩
  ·have CA:=fun W (_:At R L W d (jaq st))=>Calls.both (Tryz.strconv_Atoi_ok et (by omega) _ hn W)
   by_cases hv:1048576<pNum (bytes et)
   ·refine(jgM ek et ea (pNum (bytes et):Nat) (by omega) h CN CA).mono ?_
    rintro e w' ⟨rfl,ha,hb⟩
    exact⟨_,_,rfl,H2 hv _,ha,hb⟩
   ·refine(jhY ek et ea (pNum (bytes et):Nat) (by omega) h CN CA).mono ?_
    rintro e w' ⟨rfl,ha,hb⟩
    exact⟨_,_,rfl,H1 hv,ha,hb⟩
  ·have CA:∀ W:World,At R L W d (jaq st)→Calls Tryz.prog 161 #[.string et] W fun e w'=>∃ N,e = .returned (.tuple #[.int .i64 (Lib.atoiSat et.data.toList),.iface 133 (.pointer (some ⟨N,0,none⟩))])∧Below W.heap.size W w':=fun W H=>by
    obtain⟨ev,g1,g2⟩:=hE W H _ (.inr rfl)
    exact(Tryz.strconv_Atoi_range et (by omega) hn ev W g1 g2).mono (fun e w' ⟨N,e1,_,_,e2⟩=>(⟨N,e1,e2⟩:∃ N,e = .returned (.tuple #[.int .i64 (Lib.atoiSat et.data.toList),.iface 133 (.pointer (some ⟨N,0,none⟩))])∧Below W.heap.size W w'))
   refine(je8 ek et ea _ h CN CA).mono ?_
   rintro e w' ⟨rfl,ha,hb⟩
   exact⟨_,_,rfl,H2 hlt _,ha,hb⟩
 |false=>
  rw[hb] at CN hsz hE
  have H3:=jld (L:=L) (st:=st) hb
  have ht:(tokM L st false).t=⟨#[]⟩:=hL.last.2
  generalize tokM L st false=T at *
  obtain⟨ek,et,ea⟩:=T
  unfold tkA at CN
  dsimp only at *
  subst ht
  have CA:∀ W:World,At R L W d (jad false st)→Calls Tryz.prog 161 #[.string ⟨#[]⟩] W fun e w'=>∃ N,e = .returned (.tuple #[.int .i64 0,.iface 133 (.pointer (some ⟨N,0,none⟩))])∧Below W.heap.size W w':=fun W H=>by
   obtain⟨ev,g1,g2⟩:=hE W H _ (.inl rfl)
   exact(Tryz.strconv_Atoi_syntax ⟨#[]⟩ (by decide) rfl ev W g1 g2).mono (fun e w' ⟨N,e1,_,_,e2⟩=>(⟨N,e1,e2⟩:∃ N,e = .returned (.tuple #[.int .i64 0,.iface 133 (.pointer (some ⟨N,0,none⟩))])∧Below W.heap.size W w'))
  refine(je8 ek ⟨#[]⟩ ea 0 h CN CA).mono ?_
  rintro e w' ⟨rfl,ha,hb⟩
  exact⟨_,_,rfl,H3 _ _,ha,hb⟩
end Go.Proofs.YtenmmmdnpglkoaaGreatDoor
