import Derived.Test.YtenmmmdnpglkoaaGreatDoorCut27
set_option linter.unusedSimpArgs false
set_option linter.unusedVariables false
set_option maxRecDepth 100000
set_option maxHeartbeats 8000000
/-
 parser: parse.
-/
namespace Go.Proofs.YtenmmmdnpglkoaaGreatDoor
open Go Go.Proofs Go.RowKit Go.Sort
theorem jaC {lo q:Nat} {a W:World} (h:Below lo a W) (hp:lo≤q) (v0 v1 v2 v3 v4:Value):Below lo a (((((W.setCell ⟨q,0,none⟩ v0).setCell ⟨q,1,none⟩ v1).setCell ⟨q,2,none⟩ v2).setCell ⟨q,3,none⟩ v3).setCell ⟨q,4,none⟩ v4):=
 ((((h.setCell (p:=⟨q,0,none⟩) hp v0).setCell (p:=⟨q,1,none⟩) hp v1).setCell (p:=⟨q,2,none⟩) hp v2).setCell (p:=⟨q,3,none⟩) hp v3).setCell (p:=⟨q,4,none⟩) hp v4
theorem jia (s:ByteArray) (f:Value) (w:World) (he:(scR s).2.2≠0) (ht:Lib.TabBelow Tryz.prog w.heap.size w "surveyor/lexer.classes" .u8 jaH) :
  Calls Tryz.prog 15 #[.string s,f] w fun e w'=>e = .returned (.tuple #[(.agg #[.int .i64 0,.int .i64 0,.string ⟨#[]⟩,.int .i64 0,.slice none 0 0]),.int .i64 ((scR s).2.1:Nat),.int .i64 ((scR s).2.2:Nat)])∧Below w.heap.size w w':=by
 have hA:Below w.heap.size w (w.alloc jZ):=jN _
 have CS:=jdx s (w.alloc jZ) (fun W hW=>ht W (Below.chain hA hW))
 have hX:=Bx5.new w (.int .i64 0) (.int .i64 0) (.string ⟨#[]⟩) (.int .i64 0) (.slice none 0 0)
 generalize (scR s).2.1=at_ at *
 generalize (scR s).2.2=er at *
 have te:(((er:Nat):Int) != (0:Int))=true:=by rw[bne_iff_ne];omega
 have te2:(((er:Nat):Int)==(0:Int))=false:=by rw[beq_eq_false_iff_ne];omega
 have KS:=jD CS;have HA:=jD hA;have HX:=jD hX
 clear CS hA hX ht he
 go_enter Tryz.func15,Tryz.ntmps15
 go_wp2_with (go_at_call 33;refine cM (KS.out) ?_;rintro e w2 ⟨v,rfl,ho,hb2⟩)
 have X2:=HX.out.below hb2
 obtain⟨y0,y1,y2,y3,y4,yf,yl⟩:=X2
 have f0:=yf 0;have f1:=yf 1;have f2:=yf 2;have f3:=yf 3;have f4:=yf 4
 obtain⟨r0,r1,r2,r3,r4⟩:=box5 y0 y1 y2 y3 y4 (.int .i64 0) (.int .i64 0) (.string ⟨#[]⟩) (.int .i64 0) (.slice none 0 0) _ rfl
 have HB:=jD (jaC (Below.chain HA hb2) (jrr _) (.int .i64 0) (.int .i64 0) (.string ⟨#[]⟩) (.int .i64 0) (.slice none 0 0))
 clear ho hb2 yf yl
 refine jD ?_
 go_wp2
 refine bodyPost_ret (by simp[results,Tryz.results15,go_sem,r0,r1,r2,r3,r4];rfl) rfl ?_
 exact⟨rfl,HB.out⟩
theorem jfb (s:ByteArray) (w:World) (L:List Tk) (hL:L=(scR s).1) (he:(scR s).2.2=0) (ht:Lib.TabBelow Tryz.prog w.heap.size w "surveyor/lexer.classes" .u8 jaH) (hev:EvAt w) (hT:TkL L) (Q:Syn→RSt→Prop)
  (KC:∀ (R:Nat) (W:World),At R L W 0 (.ok L)→Calls Tryz.prog 16 #[.pointer (some ⟨R,0,none⟩)] W fun e W'=>∃ x v st',e = .returned v∧synAt W.heap.size W' x v∧Q x st'∧At R L W' 0 st'∧Butt R W W') :
  Calls Tryz.prog 15 #[.string s,.func (.func 16) #[] #[]] w fun e w'=>∃ x st',Q x st'∧Below w.heap.size w w' ∧
   ((∃ l v,jad (tIs L st' ⟨#[]⟩) st' = .ok l∧e = .returned (.tuple #[v,.int .i64 0,.int .i64 0])∧synAt w.heap.size w' x v) ∨
    (∃ a c,jad (tIs L st' ⟨#[]⟩) st' = .bad a c∧c≠0∧e = .returned (.tuple #[(.agg #[.int .i64 0,.int .i64 0,.string ⟨#[]⟩,.int .i64 0,.slice none 0 0]),.int .i64 a,.int .i64 (c:Nat)]))):=by
 have hA:Below w.heap.size w (w.alloc jZ):=jN _
 have hT2:Lib.TabBelow Tryz.prog (w.alloc jZ).heap.size (w.alloc jZ) "surveyor/lexer.classes" .u8 jaH:=fun W hW=>ht W (Below.chain hA hW)
 have CS:=jdx s (w.alloc jZ) hT2
 rw[he,←hL] at CS
 have hX:=Bx5.new w (.int .i64 0) (.int .i64 0) (.string ⟨#[]⟩) (.int .i64 0) (.slice none 0 0)
 have KS:=jD CS;have HA:=jD hA;have HX:=jD hX;have HT:=jD ht;have HEV:=jD hev;have HTL:=jD hT;have KQ:=jD KC
 generalize (scR s).2.1=at_ at *
 clear CS hA hX ht hev hT he KC hT2 hL
 go_enter Tryz.func15,Tryz.ntmps15
 go_wp2_with (go_at_call 33;refine cM (KS.out) ?_;rintro e w2 ⟨v,rfl,ho,hb2⟩)
 obtain⟨ao,c,rfl,hrow⟩:=TRow.of_owns ho
 have hB2:=Below.chain HA hb2
 have X2:=jD (HX.out.below hb2);have B2:=jD hB2;have HRW:=jD hrow
 have CN:=jcY L ao L.length c w2 rfl hrow HTL (fun W hW=>HT.out W (Below.chain hB2 hW)) (fun k hk=>by
  obtain⟨e1,ev,e2,e3⟩:=HEV.out k hk
  exact⟨Nat.lt_of_lt_of_le e1 hB2.size,ev,(hB2.cell (p:=⟨k,0,none⟩) e1).trans e2,e3⟩)
 have KN:=jD CN
 clear ho hb2 hrow hB2 CN
 refine jD ?_
 go_wp2_with (go_at_call 34;refine cM (KN.out) ?_;rintro e w3 ⟨rfl,ha3,hb3⟩)
 have hq:w.heap.size<w2.heap.size:=X2.out.lt
 have A3:=jD ha3;have B3:=jD (Below.chain B2 hb3);have X3:=jD (X2.out.below hb3);have HQ:=jD hq;have HR3:=jD ha3.fix.lt
 clear ha3 hb3 hq
 refine jD ?_
 go_wp2_with (go_at_call 16;refine cM (KQ.out _ _ A3) ?_;rintro e w4 ⟨x,v,s4,rfl,hx,hs,ha4,hb4⟩)
 obtain⟨k4,a4,t4,n4,o4,l4,c4,q4,rfl,rfl,hk4⟩:=hx.shape
 have hpR:w.heap.size≠w2.heap.size:=Nat.ne_of_lt HQ
 have A4:=jD ha4;have X4:=jD (X3.out.butt hpR hb4);have HS:=jD hs;have HX4:=jD hx
 have B4:=jD (B3.out.trans (Below.down (hb4.below HR3) (Nat.le_of_lt HQ)))
 clear ha4 hb4 hs hx hk4
 refine jD ?_
 have A5:=jD (A4.out.alloc (jO k4 a4 t4 n4 o4 l4 c4))
 have X5:=jD (X4.out.alloc (jO k4 a4 t4 n4 o4 l4 c4))
 have T5:=jD (jn5 w4 k4 a4 t4 n4 o4 l4 c4)
 have PT5:Hid (w4.heap.size≠w2.heap.size):=jD (fun e=>by have:=A4.out.fix.lt;omega)
 go_wp2_with (go_at_call 35;refine cM (jaE A5 ⟨#[]⟩) ?_;rintro e w6 ⟨rfl,ha6,hb6⟩)
 have X6:=jD (X5.out.butt hpR hb6);have T6:=jD (T5.out.butt PT5 hb6)
 have BA:Below w4.heap.size w4 (w4.alloc (jO k4 a4 t4 n4 o4 l4 c4)):=jN _
 have B6:Hid (Below w.heap.size w w6):=jD ((Below.chain B4 BA).trans (Below.down (hb6.below A5.out.fix.lt) (Nat.le_of_lt HQ)))
 have HX6:=jD (synAt.keep (hb6.froms HR3) (jrr _) _ _ (synAt.keep (From.of_below BA) (jrr _) _ _ HX4))
 clear BA
 obtain⟨hf6,nx,a,er,h1,h2,h3⟩:=ha6
 have c3:=h2.c3
 have c4':=h2.c4
 have H3:=jD h3
 clear hf6 h1 h2 hb6
 rcases h3 with ⟨rfl,rfl,e3⟩|⟨hne,rfl,e3⟩
 ·have E3:=jD e3
  have hlo:w.heap.size<w3.heap.size:=Nat.lt_of_lt_of_le HQ (Nat.le_of_lt HR3)
  have fr:From w3.heap.size w6 _:=(((((From.refl w3.heap.size w6).setCell ⟨w.heap.size,0,none⟩ hlo (.int .i64 k4)).setCell ⟨w.heap.size,1,none⟩ hlo (.int .i64 a4)).setCell ⟨w.heap.size,2,none⟩ hlo (.string t4)).setCell ⟨w.heap.size,3,none⟩ hlo (.int .i64 n4)).setCell ⟨w.heap.size,4,none⟩ hlo (.slice o4 l4 c4)
  have GX:=jD (synAt.keep fr (Nat.le_of_lt hlo) _ _ HX6)
  have GB:=jD (jaC B6 (jrr _) (.int .i64 k4) (.int .i64 a4) (.string t4) (.int .i64 n4) (.slice o4 l4 c4))
  obtain⟨y0,y1,y2,y3,y4,yf,yl⟩:=X6.out
  have f0:=yf 0;have f1:=yf 1;have f2:=yf 2;have f3:=yf 3;have f4:=yf 4
  obtain⟨z0,z1,z2,z3,z4,zf,zl⟩:=T6.out
  obtain⟨r0,r1,r2,r3,r4⟩:=box5 y0 y1 y2 y3 y4 (.int .i64 k4) (.int .i64 a4) (.string t4) (.int .i64 n4) (.slice o4 l4 c4) _ rfl
  clear yf yl zf zl fr e3 hpR hlo H3
  refine jD ?_
  go_wp2
  refine bodyPost_ret (by simp[results,Tryz.results15,go_sem,r0,r1,r2,r3,r4];rfl) rfl ?_
  exact⟨_,_,HS.out,GB.out,.inl ⟨_,_,E3.out,rfl,GX.out⟩⟩
 ·have E3:=jD e3
  have te:(((er:Nat):Int) != (0:Int))=true:=by rw[bne_iff_ne];omega
  have te2:(((er:Nat):Int)==(0:Int))=false:=by rw[beq_eq_false_iff_ne];omega
  have HNE:=jD hne
  clear e3 hne hpR H3
  refine jD ?_
  go_wp2_with fail
  have X7:=X6.out.below (Below.refl _ _).drew
  have B7:=Below.drew B6
  obtain⟨y0,y1,y2,y3,y4,yf,yl⟩:=X6.out
  have f0:=yf 0;have f1:=yf 1;have f2:=yf 2;have f3:=yf 3;have f4:=yf 4
  have HB7:=jD B7;have HX7:=jD X7
  have hne2:w.heap.size≠w2.heap.size:=Nat.ne_of_lt HQ
  have hne3:=Ne.symm hne2
  obtain⟨r0,r1,r2,r3,r4⟩:=box5 y0 y1 y2 y3 y4 (.int .i64 0) (.int .i64 0) (.string ⟨#[]⟩) (.int .i64 0) (.slice none 0 0) _ rfl
  obtain⟨u0,u1,u2,u3,u4⟩:=box5 HX7.out.c0 HX7.out.c1 HX7.out.c2 HX7.out.c3 HX7.out.c4 (.int .i64 0) (.int .i64 0) (.string ⟨#[]⟩) (.int .i64 0) (.slice none 0 0) _ rfl
  clear yf yl B7 X7
  go_region
  all_goals
   go_wp2
   refine bodyPost_ret (by simp[results,Tryz.results15,go_sem,r0,r1,r2,r3,r4,u0,u1,u2,u3,u4];rfl) rfl ?_
   exact⟨_,_,HS.out,jaC HB7 (jrr _) (.int .i64 0) (.int .i64 0) (.string ⟨#[]⟩) (.int .i64 0) (.slice none 0 0),.inr ⟨_,_,E3.out,HNE.out,rfl⟩⟩
theorem jej (s:ByteArray) (w:World) (L:List Tk) (hL:L=(scR s).1) (he:(scR s).2.2=0) (ht:Lib.TabBelow Tryz.prog w.heap.size w "surveyor/lexer.classes" .u8 jaH) (hev:EvAt w) (hT:TkL L) (Q:Syn→RSt→Prop)
  (KC:∀ (R:Nat) (W:World),At R L W 0 (.ok L)→Calls Tryz.prog 39 #[.pointer (some ⟨R,0,none⟩)] W fun e W'=>∃ x v st',e = .returned v∧synAt W.heap.size W' x v∧Q x st'∧At R L W' 0 st'∧Butt R W W') :
  Calls Tryz.prog 15 #[.string s,.func (.func 39) #[] #[]] w fun e w'=>∃ x st',Q x st'∧Below w.heap.size w w' ∧
   ((∃ l v,jad (tIs L st' ⟨#[]⟩) st' = .ok l∧e = .returned (.tuple #[v,.int .i64 0,.int .i64 0])∧synAt w.heap.size w' x v) ∨
    (∃ a c,jad (tIs L st' ⟨#[]⟩) st' = .bad a c∧c≠0∧e = .returned (.tuple #[(.agg #[.int .i64 0,.int .i64 0,.string ⟨#[]⟩,.int .i64 0,.slice none 0 0]),.int .i64 a,.int .i64 (c:Nat)]))):=by
 have hA:Below w.heap.size w (w.alloc jZ):=jN _
 have hT2:Lib.TabBelow Tryz.prog (w.alloc jZ).heap.size (w.alloc jZ) "surveyor/lexer.classes" .u8 jaH:=fun W hW=>ht W (Below.chain hA hW)
 have CS:=jdx s (w.alloc jZ) hT2
 rw[he,←hL] at CS
 have hX:=Bx5.new w (.int .i64 0) (.int .i64 0) (.string ⟨#[]⟩) (.int .i64 0) (.slice none 0 0)
 have KS:=jD CS;have HA:=jD hA;have HX:=jD hX;have HT:=jD ht;have HEV:=jD hev;have HTL:=jD hT;have KQ:=jD KC
 generalize (scR s).2.1=at_ at *
 clear CS hA hX ht hev hT he KC hT2 hL
 go_enter Tryz.func15,Tryz.ntmps15
 go_wp2_with (go_at_call 33;refine cM (KS.out) ?_;rintro e w2 ⟨v,rfl,ho,hb2⟩)
 obtain⟨ao,c,rfl,hrow⟩:=TRow.of_owns ho
 have hB2:=Below.chain HA hb2
 have X2:=jD (HX.out.below hb2);have B2:=jD hB2;have HRW:=jD hrow
 have CN:=jcY L ao L.length c w2 rfl hrow HTL (fun W hW=>HT.out W (Below.chain hB2 hW)) (fun k hk=>by
  obtain⟨e1,ev,e2,e3⟩:=HEV.out k hk
  exact⟨Nat.lt_of_lt_of_le e1 hB2.size,ev,(hB2.cell (p:=⟨k,0,none⟩) e1).trans e2,e3⟩)
 have KN:=jD CN
 clear ho hb2 hrow hB2 CN
 refine jD ?_
 go_wp2_with (go_at_call 34;refine cM (KN.out) ?_;rintro e w3 ⟨rfl,ha3,hb3⟩)
 have hq:w.heap.size<w2.heap.size:=X2.out.lt
 have A3:=jD ha3;have B3:=jD (Below.chain B2 hb3);have X3:=jD (X2.out.below hb3);have HQ:=jD hq;have HR3:=jD ha3.fix.lt
 clear ha3 hb3 hq
 refine jD ?_
 go_wp2_with (go_at_call 39;refine cM (KQ.out _ _ A3) ?_;rintro e w4 ⟨x,v,s4,rfl,hx,hs,ha4,hb4⟩)
 obtain⟨k4,a4,t4,n4,o4,l4,c4,q4,rfl,rfl,hk4⟩:=hx.shape
 have hpR:w.heap.size≠w2.heap.size:=Nat.ne_of_lt HQ
 have A4:=jD ha4;have X4:=jD (X3.out.butt hpR hb4);have HS:=jD hs;have HX4:=jD hx
 have B4:=jD (B3.out.trans (Below.down (hb4.below HR3) (Nat.le_of_lt HQ)))
 clear ha4 hb4 hs hx hk4
 refine jD ?_
 have A5:=jD (A4.out.alloc (jO k4 a4 t4 n4 o4 l4 c4))
 have X5:=jD (X4.out.alloc (jO k4 a4 t4 n4 o4 l4 c4))
 have T5:=jD (jn5 w4 k4 a4 t4 n4 o4 l4 c4)
 have PT5:Hid (w4.heap.size≠w2.heap.size):=jD (fun e=>by have:=A4.out.fix.lt;omega)
 go_wp2_with (go_at_call 35;refine cM (jaE A5 ⟨#[]⟩) ?_;rintro e w6 ⟨rfl,ha6,hb6⟩)
 have X6:=jD (X5.out.butt hpR hb6);have T6:=jD (T5.out.butt PT5 hb6)
 have BA:Below w4.heap.size w4 (w4.alloc (jO k4 a4 t4 n4 o4 l4 c4)):=jN _
 have B6:Hid (Below w.heap.size w w6):=jD ((Below.chain B4 BA).trans (Below.down (hb6.below A5.out.fix.lt) (Nat.le_of_lt HQ)))
 have HX6:=jD (synAt.keep (hb6.froms HR3) (jrr _) _ _ (synAt.keep (From.of_below BA) (jrr _) _ _ HX4))
 clear BA
 obtain⟨hf6,nx,a,er,h1,h2,h3⟩:=ha6
 have c3:=h2.c3
 have c4':=h2.c4
 have H3:=jD h3
 clear hf6 h1 h2 hb6
 rcases h3 with ⟨rfl,rfl,e3⟩|⟨hne,rfl,e3⟩
 ·have E3:=jD e3
  have hlo:w.heap.size<w3.heap.size:=Nat.lt_of_lt_of_le HQ (Nat.le_of_lt HR3)
  have fr:From w3.heap.size w6 _:=(((((From.refl w3.heap.size w6).setCell ⟨w.heap.size,0,none⟩ hlo (.int .i64 k4)).setCell ⟨w.heap.size,1,none⟩ hlo (.int .i64 a4)).setCell ⟨w.heap.size,2,none⟩ hlo (.string t4)).setCell ⟨w.heap.size,3,none⟩ hlo (.int .i64 n4)).setCell ⟨w.heap.size,4,none⟩ hlo (.slice o4 l4 c4)
  have GX:=jD (synAt.keep fr (Nat.le_of_lt hlo) _ _ HX6)
  have GB:=jD (jaC B6 (jrr _) (.int .i64 k4) (.int .i64 a4) (.string t4) (.int .i64 n4) (.slice o4 l4 c4))
  obtain⟨y0,y1,y2,y3,y4,yf,yl⟩:=X6.out
  have f0:=yf 0;have f1:=yf 1;have f2:=yf 2;have f3:=yf 3;have f4:=yf 4
  obtain⟨z0,z1,z2,z3,z4,zf,zl⟩:=T6.out
  obtain⟨r0,r1,r2,r3,r4⟩:=box5 y0 y1 y2 y3 y4 (.int .i64 k4) (.int .i64 a4) (.string t4) (.int .i64 n4) (.slice o4 l4 c4) _ rfl
  clear yf yl zf zl fr e3 hpR hlo H3
  refine jD ?_
  go_wp2
  refine bodyPost_ret (by simp[results,Tryz.results15,go_sem,r0,r1,r2,r3,r4];rfl) rfl ?_
  exact⟨_,_,HS.out,GB.out,.inl ⟨_,_,E3.out,rfl,GX.out⟩⟩
 ·have E3:=jD e3
  have te:(((er:Nat):Int) != (0:Int))=true:=by rw[bne_iff_ne];omega
  have te2:(((er:Nat):Int)==(0:Int))=false:=by rw[beq_eq_false_iff_ne];omega
  have HNE:=jD hne
  clear e3 hne hpR H3
  refine jD ?_
  go_wp2_with fail
  have X7:=X6.out.below (Below.refl _ _).drew
  have B7:=Below.drew B6
  obtain⟨y0,y1,y2,y3,y4,yf,yl⟩:=X6.out
  have f0:=yf 0;have f1:=yf 1;have f2:=yf 2;have f3:=yf 3;have f4:=yf 4
  have HB7:=jD B7;have HX7:=jD X7
  have hne2:w.heap.size≠w2.heap.size:=Nat.ne_of_lt HQ
  have hne3:=Ne.symm hne2
  obtain⟨r0,r1,r2,r3,r4⟩:=box5 y0 y1 y2 y3 y4 (.int .i64 0) (.int .i64 0) (.string ⟨#[]⟩) (.int .i64 0) (.slice none 0 0) _ rfl
  obtain⟨u0,u1,u2,u3,u4⟩:=box5 HX7.out.c0 HX7.out.c1 HX7.out.c2 HX7.out.c3 HX7.out.c4 (.int .i64 0) (.int .i64 0) (.string ⟨#[]⟩) (.int .i64 0) (.slice none 0 0) _ rfl
  clear yf yl B7 X7
  go_region
  all_goals
   go_wp2
   refine bodyPost_ret (by simp[results,Tryz.results15,go_sem,r0,r1,r2,r3,r4,u0,u1,u2,u3,u4];rfl) rfl ?_
   exact⟨_,_,HS.out,jaC HB7 (jrr _) (.int .i64 0) (.int .i64 0) (.string ⟨#[]⟩) (.int .i64 0) (.slice none 0 0),.inr ⟨_,_,E3.out,HNE.out,rfl⟩⟩
theorem jek (s:ByteArray) (w:World) (L:List Tk) (hL:L=(scR s).1) (he:(scR s).2.2=0) (ht:Lib.TabBelow Tryz.prog w.heap.size w "surveyor/lexer.classes" .u8 jaH) (hev:EvAt w) (hT:TkL L) (Q:Syn→RSt→Prop)
  (KC:∀ (R:Nat) (W:World),At R L W 0 (.ok L)→Calls Tryz.prog 31 #[.pointer (some ⟨R,0,none⟩)] W fun e W'=>∃ x v st',e = .returned v∧synAt W.heap.size W' x v∧Q x st'∧At R L W' 0 st'∧Butt R W W') :
  Calls Tryz.prog 15 #[.string s,.func (.func 31) #[] #[]] w fun e w'=>∃ x st',Q x st'∧Below w.heap.size w w' ∧
   ((∃ l v,jad (tIs L st' ⟨#[]⟩) st' = .ok l∧e = .returned (.tuple #[v,.int .i64 0,.int .i64 0])∧synAt w.heap.size w' x v) ∨
    (∃ a c,jad (tIs L st' ⟨#[]⟩) st' = .bad a c∧c≠0∧e = .returned (.tuple #[(.agg #[.int .i64 0,.int .i64 0,.string ⟨#[]⟩,.int .i64 0,.slice none 0 0]),.int .i64 a,.int .i64 (c:Nat)]))):=by
 have hA:Below w.heap.size w (w.alloc jZ):=jN _
 have hT2:Lib.TabBelow Tryz.prog (w.alloc jZ).heap.size (w.alloc jZ) "surveyor/lexer.classes" .u8 jaH:=fun W hW=>ht W (Below.chain hA hW)
 have CS:=jdx s (w.alloc jZ) hT2
 rw[he,←hL] at CS
 have hX:=Bx5.new w (.int .i64 0) (.int .i64 0) (.string ⟨#[]⟩) (.int .i64 0) (.slice none 0 0)
 have KS:=jD CS;have HA:=jD hA;have HX:=jD hX;have HT:=jD ht;have HEV:=jD hev;have HTL:=jD hT;have KQ:=jD KC
 generalize (scR s).2.1=at_ at *
 clear CS hA hX ht hev hT he KC hT2 hL
 go_enter Tryz.func15,Tryz.ntmps15
 go_wp2_with (go_at_call 33;refine cM (KS.out) ?_;rintro e w2 ⟨v,rfl,ho,hb2⟩)
 obtain⟨ao,c,rfl,hrow⟩:=TRow.of_owns ho
 have hB2:=Below.chain HA hb2
 have X2:=jD (HX.out.below hb2);have B2:=jD hB2;have HRW:=jD hrow
 have CN:=jcY L ao L.length c w2 rfl hrow HTL (fun W hW=>HT.out W (Below.chain hB2 hW)) (fun k hk=>by
  obtain⟨e1,ev,e2,e3⟩:=HEV.out k hk
  exact⟨Nat.lt_of_lt_of_le e1 hB2.size,ev,(hB2.cell (p:=⟨k,0,none⟩) e1).trans e2,e3⟩)
 have KN:=jD CN
 clear ho hb2 hrow hB2 CN
 refine jD ?_
 go_wp2_with (go_at_call 34;refine cM (KN.out) ?_;rintro e w3 ⟨rfl,ha3,hb3⟩)
 have hq:w.heap.size<w2.heap.size:=X2.out.lt
 have A3:=jD ha3;have B3:=jD (Below.chain B2 hb3);have X3:=jD (X2.out.below hb3);have HQ:=jD hq;have HR3:=jD ha3.fix.lt
 clear ha3 hb3 hq
 refine jD ?_
 go_wp2_with (go_at_call 31;refine cM (KQ.out _ _ A3) ?_;rintro e w4 ⟨x,v,s4,rfl,hx,hs,ha4,hb4⟩)
 obtain⟨k4,a4,t4,n4,o4,l4,c4,q4,rfl,rfl,hk4⟩:=hx.shape
 have hpR:w.heap.size≠w2.heap.size:=Nat.ne_of_lt HQ
 have A4:=jD ha4;have X4:=jD (X3.out.butt hpR hb4);have HS:=jD hs;have HX4:=jD hx
 have B4:=jD (B3.out.trans (Below.down (hb4.below HR3) (Nat.le_of_lt HQ)))
 clear ha4 hb4 hs hx hk4
 refine jD ?_
 have A5:=jD (A4.out.alloc (jO k4 a4 t4 n4 o4 l4 c4))
 have X5:=jD (X4.out.alloc (jO k4 a4 t4 n4 o4 l4 c4))
 have T5:=jD (jn5 w4 k4 a4 t4 n4 o4 l4 c4)
 have PT5:Hid (w4.heap.size≠w2.heap.size):=jD (fun e=>by have:=A4.out.fix.lt;omega)
 go_wp2_with (go_at_call 35;refine cM (jaE A5 ⟨#[]⟩) ?_;rintro e w6 ⟨rfl,ha6,hb6⟩)
 have X6:=jD (X5.out.butt hpR hb6);have T6:=jD (T5.out.butt PT5 hb6)
 have BA:Below w4.heap.size w4 (w4.alloc (jO k4 a4 t4 n4 o4 l4 c4)):=jN _
 have B6:Hid (Below w.heap.size w w6):=jD ((Below.chain B4 BA).trans (Below.down (hb6.below A5.out.fix.lt) (Nat.le_of_lt HQ)))
 have HX6:=jD (synAt.keep (hb6.froms HR3) (jrr _) _ _ (synAt.keep (From.of_below BA) (jrr _) _ _ HX4))
 clear BA
 obtain⟨hf6,nx,a,er,h1,h2,h3⟩:=ha6
 have c3:=h2.c3
 have c4':=h2.c4
 have H3:=jD h3
 clear hf6 h1 h2 hb6
 rcases h3 with ⟨rfl,rfl,e3⟩|⟨hne,rfl,e3⟩
 ·have E3:=jD e3
  have hlo:w.heap.size<w3.heap.size:=Nat.lt_of_lt_of_le HQ (Nat.le_of_lt HR3)
  have fr:From w3.heap.size w6 _:=(((((From.refl w3.heap.size w6).setCell ⟨w.heap.size,0,none⟩ hlo (.int .i64 k4)).setCell ⟨w.heap.size,1,none⟩ hlo (.int .i64 a4)).setCell ⟨w.heap.size,2,none⟩ hlo (.string t4)).setCell ⟨w.heap.size,3,none⟩ hlo (.int .i64 n4)).setCell ⟨w.heap.size,4,none⟩ hlo (.slice o4 l4 c4)
  have GX:=jD (synAt.keep fr (Nat.le_of_lt hlo) _ _ HX6)
  have GB:=jD (jaC B6 (jrr _) (.int .i64 k4) (.int .i64 a4) (.string t4) (.int .i64 n4) (.slice o4 l4 c4))
  obtain⟨y0,y1,y2,y3,y4,yf,yl⟩:=X6.out
  have f0:=yf 0;have f1:=yf 1;have f2:=yf 2;have f3:=yf 3;have f4:=yf 4
  obtain⟨z0,z1,z2,z3,z4,zf,zl⟩:=T6.out
  obtain⟨r0,r1,r2,r3,r4⟩:=box5 y0 y1 y2 y3 y4 (.int .i64 k4) (.int .i64 a4) (.string t4) (.int .i64 n4) (.slice o4 l4 c4) _ rfl
  clear yf yl zf zl fr e3 hpR hlo H3
  refine jD ?_
  go_wp2
  refine bodyPost_ret (by simp[results,Tryz.results15,go_sem,r0,r1,r2,r3,r4];rfl) rfl ?_
  exact⟨_,_,HS.out,GB.out,.inl ⟨_,_,E3.out,rfl,GX.out⟩⟩
 ·have E3:=jD e3
  have te:(((er:Nat):Int) != (0:Int))=true:=by rw[bne_iff_ne];omega
  have te2:(((er:Nat):Int)==(0:Int))=false:=by rw[beq_eq_false_iff_ne];omega
  have HNE:=jD hne
  clear e3 hne hpR H3
  refine jD ?_
  go_wp2_with fail
  have X7:=X6.out.below (Below.refl _ _).drew
  have B7:=Below.drew B6
  obtain⟨y0,y1,y2,y3,y4,yf,yl⟩:=X6.out
  have f0:=yf 0;have f1:=yf 1;have f2:=yf 2;have f3:=yf 3;have f4:=yf 4
  have HB7:=jD B7;have HX7:=jD X7
  have hne2:w.heap.size≠w2.heap.size:=Nat.ne_of_lt HQ
  have hne3:=Ne.symm hne2
  obtain⟨r0,r1,r2,r3,r4⟩:=box5 y0 y1 y2 y3 y4 (.int .i64 0) (.int .i64 0) (.string ⟨#[]⟩) (.int .i64 0) (.slice none 0 0) _ rfl
  obtain⟨u0,u1,u2,u3,u4⟩:=box5 HX7.out.c0 HX7.out.c1 HX7.out.c2 HX7.out.c3 HX7.out.c4 (.int .i64 0) (.int .i64 0) (.string ⟨#[]⟩) (.int .i64 0) (.slice none 0 0) _ rfl
  clear yf yl B7 X7
  go_region
  all_goals
   go_wp2
   refine bodyPost_ret (by simp[results,Tryz.results15,go_sem,r0,r1,r2,r3,r4,u0,u1,u2,u3,u4];rfl) rfl ?_
   exact⟨_,_,HS.out,jaC HB7 (jrr _) (.int .i64 0) (.int .i64 0) (.string ⟨#[]⟩) (.int .i64 0) (.slice none 0 0),.inr ⟨_,_,E3.out,HNE.out,rfl⟩⟩
theorem jdP (s:ByteArray) (w:World) (L:List Tk) (hL:L=(scR s).1) (he:(scR s).2.2=0) (ht:Lib.TabBelow Tryz.prog w.heap.size w "surveyor/lexer.classes" .u8 jaH) (hev:EvAt w) (hT:TkL L) (Q:Syn→RSt→Prop)
  (KC:∀ (R:Nat) (W:World),At R L W 0 (.ok L)→Calls Tryz.prog 32 #[.pointer (some ⟨R,0,none⟩)] W fun e W'=>∃ x v st',e = .returned v∧synAt W.heap.size W' x v∧Q x st'∧At R L W' 0 st'∧Butt R W W') :
  Calls Tryz.prog 15 #[.string s,.func (.func 32) #[] #[]] w fun e w'=>∃ x st',Q x st'∧Below w.heap.size w w' ∧
   ((∃ l v,jad (tIs L st' ⟨#[]⟩) st' = .ok l∧e = .returned (.tuple #[v,.int .i64 0,.int .i64 0])∧synAt w.heap.size w' x v) ∨
    (∃ a c,jad (tIs L st' ⟨#[]⟩) st' = .bad a c∧c≠0∧e = .returned (.tuple #[(.agg #[.int .i64 0,.int .i64 0,.string ⟨#[]⟩,.int .i64 0,.slice none 0 0]),.int .i64 a,.int .i64 (c:Nat)]))):=by
 have hA:Below w.heap.size w (w.alloc jZ):=jN _
 have hT2:Lib.TabBelow Tryz.prog (w.alloc jZ).heap.size (w.alloc jZ) "surveyor/lexer.classes" .u8 jaH:=fun W hW=>ht W (Below.chain hA hW)
 have CS:=jdx s (w.alloc jZ) hT2
 rw[he,←hL] at CS
 have hX:=Bx5.new w (.int .i64 0) (.int .i64 0) (.string ⟨#[]⟩) (.int .i64 0) (.slice none 0 0)
 have KS:=jD CS;have HA:=jD hA;have HX:=jD hX;have HT:=jD ht;have HEV:=jD hev;have HTL:=jD hT;have KQ:=jD KC
 generalize (scR s).2.1=at_ at *
 clear CS hA hX ht hev hT he KC hT2 hL
 go_enter Tryz.func15,Tryz.ntmps15
 go_wp2_with (go_at_call 33;refine cM (KS.out) ?_;rintro e w2 ⟨v,rfl,ho,hb2⟩)
 obtain⟨ao,c,rfl,hrow⟩:=TRow.of_owns ho
 have hB2:=Below.chain HA hb2
 have X2:=jD (HX.out.below hb2);have B2:=jD hB2;have HRW:=jD hrow
 have CN:=jcY L ao L.length c w2 rfl hrow HTL (fun W hW=>HT.out W (Below.chain hB2 hW)) (fun k hk=>by
  obtain⟨e1,ev,e2,e3⟩:=HEV.out k hk
  exact⟨Nat.lt_of_lt_of_le e1 hB2.size,ev,(hB2.cell (p:=⟨k,0,none⟩) e1).trans e2,e3⟩)
 have KN:=jD CN
 clear ho hb2 hrow hB2 CN
 refine jD ?_
 go_wp2_with (go_at_call 34;refine cM (KN.out) ?_;rintro e w3 ⟨rfl,ha3,hb3⟩)
 have hq:w.heap.size<w2.heap.size:=X2.out.lt
 have A3:=jD ha3;have B3:=jD (Below.chain B2 hb3);have X3:=jD (X2.out.below hb3);have HQ:=jD hq;have HR3:=jD ha3.fix.lt
 clear ha3 hb3 hq
 refine jD ?_
 go_wp2_with (go_at_call 32;refine cM (KQ.out _ _ A3) ?_;rintro e w4 ⟨x,v,s4,rfl,hx,hs,ha4,hb4⟩)
 obtain⟨k4,a4,t4,n4,o4,l4,c4,q4,rfl,rfl,hk4⟩:=hx.shape
 have hpR:w.heap.size≠w2.heap.size:=Nat.ne_of_lt HQ
 have A4:=jD ha4;have X4:=jD (X3.out.butt hpR hb4);have HS:=jD hs;have HX4:=jD hx
 have B4:=jD (B3.out.trans (Below.down (hb4.below HR3) (Nat.le_of_lt HQ)))
 clear ha4 hb4 hs hx hk4
 refine jD ?_
 have A5:=jD (A4.out.alloc (jO k4 a4 t4 n4 o4 l4 c4))
 have X5:=jD (X4.out.alloc (jO k4 a4 t4 n4 o4 l4 c4))
 have T5:=jD (jn5 w4 k4 a4 t4 n4 o4 l4 c4)
 have PT5:Hid (w4.heap.size≠w2.heap.size):=jD (fun e=>by have:=A4.out.fix.lt;omega)
 go_wp2_with (go_at_call 35;refine cM (jaE A5 ⟨#[]⟩) ?_;rintro e w6 ⟨rfl,ha6,hb6⟩)
 have X6:=jD (X5.out.butt hpR hb6);have T6:=jD (T5.out.butt PT5 hb6)
 have BA:Below w4.heap.size w4 (w4.alloc (jO k4 a4 t4 n4 o4 l4 c4)):=jN _
 have B6:Hid (Below w.heap.size w w6):=jD ((Below.chain B4 BA).trans (Below.down (hb6.below A5.out.fix.lt) (Nat.le_of_lt HQ)))
 have HX6:=jD (synAt.keep (hb6.froms HR3) (jrr _) _ _ (synAt.keep (From.of_below BA) (jrr _) _ _ HX4))
 clear BA
 obtain⟨hf6,nx,a,er,h1,h2,h3⟩:=ha6
 have c3:=h2.c3
 have c4':=h2.c4
 have H3:=jD h3
 clear hf6 h1 h2 hb6
 rcases h3 with ⟨rfl,rfl,e3⟩|⟨hne,rfl,e3⟩
 ·have E3:=jD e3
  have hlo:w.heap.size<w3.heap.size:=Nat.lt_of_lt_of_le HQ (Nat.le_of_lt HR3)
  have fr:From w3.heap.size w6 _:=(((((From.refl w3.heap.size w6).setCell ⟨w.heap.size,0,none⟩ hlo (.int .i64 k4)).setCell ⟨w.heap.size,1,none⟩ hlo (.int .i64 a4)).setCell ⟨w.heap.size,2,none⟩ hlo (.string t4)).setCell ⟨w.heap.size,3,none⟩ hlo (.int .i64 n4)).setCell ⟨w.heap.size,4,none⟩ hlo (.slice o4 l4 c4)
  have GX:=jD (synAt.keep fr (Nat.le_of_lt hlo) _ _ HX6)
  have GB:=jD (jaC B6 (jrr _) (.int .i64 k4) (.int .i64 a4) (.string t4) (.int .i64 n4) (.slice o4 l4 c4))
  obtain⟨y0,y1,y2,y3,y4,yf,yl⟩:=X6.out
  have f0:=yf 0;have f1:=yf 1;have f2:=yf 2;have f3:=yf 3;have f4:=yf 4
  obtain⟨z0,z1,z2,z3,z4,zf,zl⟩:=T6.out
  obtain⟨r0,r1,r2,r3,r4⟩:=box5 y0 y1 y2 y3 y4 (.int .i64 k4) (.int .i64 a4) (.string t4) (.int .i64 n4) (.slice o4 l4 c4) _ rfl
  clear yf yl zf zl fr e3 hpR hlo H3
  refine jD ?_
  go_wp2
  refine bodyPost_ret (by simp[results,Tryz.results15,go_sem,r0,r1,r2,r3,r4];rfl) rfl ?_
  exact⟨_,_,HS.out,GB.out,.inl ⟨_,_,E3.out,rfl,GX.out⟩⟩
 ·have E3:=jD e3
  have te:(((er:Nat):Int) != (0:Int))=true:=by rw[bne_iff_ne];omega
  have te2:(((er:Nat):Int)==(0:Int))=false:=by rw[beq_eq_false_iff_ne];omega
  have HNE:=jD hne
  clear e3 hne hpR H3
  refine jD ?_
  go_wp2_with fail
  have X7:=X6.out.below (Below.refl _ _).drew
  have B7:=Below.drew B6
  obtain⟨y0,y1,y2,y3,y4,yf,yl⟩:=X6.out
  have f0:=yf 0;have f1:=yf 1;have f2:=yf 2;have f3:=yf 3;have f4:=yf 4
  have HB7:=jD B7;have HX7:=jD X7
  have hne2:w.heap.size≠w2.heap.size:=Nat.ne_of_lt HQ
  have hne3:=Ne.symm hne2
  obtain⟨r0,r1,r2,r3,r4⟩:=box5 y0 y1 y2 y3 y4 (.int .i64 0) (.int .i64 0) (.string ⟨#[]⟩) (.int .i64 0) (.slice none 0 0) _ rfl
  obtain⟨u0,u1,u2,u3,u4⟩:=box5 HX7.out.c0 HX7.out.c1 HX7.out.c2 HX7.out.c3 HX7.out.c4 (.int .i64 0) (.int .i64 0) (.string ⟨#[]⟩) (.int .i64 0) (.slice none 0 0) _ rfl
  clear yf yl B7 X7
  go_region
  all_goals
   go_wp2
   refine bodyPost_ret (by simp[results,Tryz.results15,go_sem,r0,r1,r2,r3,r4,u0,u1,u2,u3,u4];rfl) rfl ?_
   exact⟨_,_,HS.out,jaC HB7 (jrr _) (.int .i64 0) (.int .i64 0) (.string ⟨#[]⟩) (.int .i64 0) (.slice none 0 0),.inr ⟨_,_,E3.out,HNE.out,rfl⟩⟩
end Go.Proofs.YtenmmmdnpglkoaaGreatDoor

namespace Go.Proofs.YtenmmmdnpglkoaaGreatDoor
open Go Go.Proofs Go.RowKit
def Rfn {α : Type} (r r':Except (Int×Nat) α):Prop:=r≠.error (0,0)→r'=r
theorem Rfn.same {α : Type} (r:Except (Int×Nat) α):Rfn r r:=fun _=>rfl
theorem Rfn.bind {α β : Type} {m m':Except (Int×Nat) α} {k k':α→Except (Int×Nat) β} (h:Rfn m m') (g:∀ a,Rfn (k a) (k' a)):Rfn (m >>= k) (m' >>= k'):=by
 intro e
 cases m with
 |error p=>
  have hm:m' = .error p:=h (fun q=>e (by cases q;rfl))
  rw[hm];rfl
 |ok a=>
  have hm:m' = .ok a:=h (fun q=>by cases q)
  rw[hm]
  exact g a e
theorem Rfn.ite {α : Type} {c:Prop} [Decidable c] {a a' b b':Except (Int×Nat) α} (h:Rfn a a') (g:Rfn b b'):Rfn (if c then a else b) (if c then a' else b'):=by
 by_cases q:c
 ·rw[if_pos q,if_pos q];exact h
 ·rw[if_neg q,if_neg q];exact g
theorem jdQ:∀ (f g:Nat) (w:Want) (d:Nat) (l:List Tk),f≤g→Rfn (jaf f w d l) (jaf g w d l)
 |0,g,w,d,l,_=>fun e=>absurd (by rw[jaf]) e
 |f+1,0,w,d,l,h=>by omega
 |f+1,g+1,w,d,l,h=>by
  have ih:∀ w d l,Rfn (jaf f w d l) (jaf g w d l):=fun w d l=>jdQ f g w d l (by omega)
  cases w<;>rw[jaf,jaf]<;>(try dsimp only) <;>
   (repeat' (first|exact ih _ _ _|refine Rfn.bind ?_ (fun _=>?_)|refine Rfn.ite ?_ ?_|exact Rfn.same _))
theorem jiS {f:Nat} {w:Want} {d:Nat} {l:List Tk} {r:Red} (h:jaf f w d l=r) (h0:r≠.error (0,0)):∃ N,∀ g,N≤g→jaf g w d l=r:=
 ⟨f,fun g hg=>by rw[←h] at h0 ⊢;exact jdQ f g w d l hg h0⟩
noncomputable def pLim (w:Want) (d:Nat) (l:List Tk):Red:=open Classical in if h:∃ f,jaf f w d l≠.error (0,0) then jaf h.choose w d l else .error (0,0)
theorem jgX {w:Want} {d:Nat} {l:List Tk} {r:Red} (h:∃ N,∀ f,N≤f→jaf f w d l=r):pLim w d l=r:=by
 obtain⟨N,hN⟩:=h
 unfold pLim
 split
 ·rename_i q
  have h1:=jdQ q.choose (max N q.choose) w d l (by omega) q.choose_spec
  rw[hN _ (by omega)] at h1
  exact h1.symm
 ·rename_i q
  have h1:=hN N (jrr _)
  by_cases e:r = .error (0,0)
  ·exact e.symm
  ·exact absurd ⟨N,by rw[h1];exact e⟩ q
theorem jll {f:Nat} {w:Want} {d:Nat} {l:List Tk} {r:Red} (h:jaf f w d l=r) (h0:r≠.error (0,0)):pLim w d l=r:=jgX (jiS h h0)
end Go.Proofs.YtenmmmdnpglkoaaGreatDoor

namespace Go.Proofs.YtenmmmdnpglkoaaGreatDoor
open Go Go.Proofs Go.RowKit Go.Sort
def entW (k:Nat) (l:List Tk):Want:=match k with|0=>.program (pHd l).a|1=>.proc|2=>.lvl 0|_=>.lvl 4
def entT (k:Nat) (l:List Tk) (xs:List Syn):Syn:=match k with|0=>.mk 0 (pHd l).a ⟨#[]⟩ 0 xs|_=>xs.headD (.mk 0 0 ⟨#[]⟩ 0 [])
def jjQ (k:Nat) (l0:List Tk):Red→Except (Int×Nat) Syn
 |.error p=>.error p
 |.ok (xs,l)=>if pIs [] l=true then .ok (entT k l0 xs) else .error ((pHd l).a,4)
noncomputable def pTk (k:Nat) (l:List Tk):Except (Int×Nat) Syn:=jjQ k l (pLim (entW k l) 0 l)
noncomputable def pAns (k:Nat) (s:ByteArray):Except (Int×Nat) Syn:=if (scR s).2.2=0 then pTk k (scR s).1 else .error (((scR s).2.1:Nat),(scR s).2.2)
theorem jgS {k:Nat} {L:List Tk} {xs:List Syn} {st:RSt} (h:Stp (entW k L) 0 (.ok L) xs st) :
  (∀ l,jad (tIs L st ⟨#[]⟩) st = .ok l→pTk k L = .ok (entT k L xs))∧(∀ a c,jad (tIs L st ⟨#[]⟩) st = .bad a c→pTk k L = .error (a,c)):=by
 unfold pTk
 rcases h with ⟨l,rfl,h0,h1,hN⟩|⟨a,e,he,rfl,hN⟩
 ·rw[jgX hN]
  have ht:tIs L (.ok l) ⟨#[]⟩=pIs [] l:=jaP L l []
  rw[ht]
  by_cases hp:pIs [] l=true
  ·refine⟨fun _ _=>by unfold jjQ;dsimp only;rw[if_pos hp],fun a c e=>?_⟩
   unfold jad at e
   dsimp only at e
   rw[if_pos hp] at e
   cases e
  ·refine⟨fun _ e=>?_,fun a c e=>?_⟩
   ·unfold jad at e
    dsimp only at e
    rw[if_neg hp] at e
    cases e
   ·unfold jad at e
    dsimp only at e
    rw[if_neg hp] at e
    cases e
    unfold jjQ
    dsimp only
    rw[if_neg hp]
 ·rw[jgX hN]
  refine⟨fun _ e=>(by cases e),fun b c e=>?_⟩
  cases e
  rfl
def zSyn:Value:=.agg #[.int .i64 0,.int .i64 0,.string ⟨#[]⟩,.int .i64 0,.slice none 0 0]
def AnsAt (k:Nat) (s:ByteArray) (lo:Nat) (W:World) (v:Value) (a:Int) (c:Nat):Prop:=
 (∃ x,pAns k s = .ok x∧a=0∧c=0∧synAt lo W x v)∨(pAns k s = .error (a,c)∧c≠0∧v=zSyn)
theorem AnsAt.keep {k:Nat} {s:ByteArray} {lo l2:Nat} {W W':World} {v:Value} {a:Int} {c:Nat} (h:AnsAt k s lo W v a c) (hb:From lo W W') (hl:l2≤lo):AnsAt k s l2 W' v a c:=by
 rcases h with ⟨x,h1,h2,h3,h4⟩|h
 ·exact .inl ⟨x,h1,h2,h3,synAt.keep hb hl _ _ h4⟩
 ·exact .inr h
abbrev Ans (k:Nat) (s:ByteArray) (w:World):Ending→World→Prop:=fun e w'=>
 ∃ k4 a4 t4 n4 o4 l4 c4 a c,e = .returned (.tuple #[.agg #[.int .i64 k4,.int .i64 a4,.string t4,.int .i64 n4,.slice o4 l4 c4],.int .i64 a,.int .i64 (c:Nat)])∧Below w.heap.size w w' ∧
  AnsAt k s w.heap.size w' (.agg #[.int .i64 k4,.int .i64 a4,.string t4,.int .i64 n4,.slice o4 l4 c4]) a c
theorem EvAt.below {W W':World} (h:EvAt W) (hb:Below W.heap.size W W'):EvAt W':=fun k hk=>by
 obtain⟨e1,ev,e2,e3⟩:=h k hk
 exact⟨Nat.lt_of_lt_of_le e1 hb.size,ev,(hb.cell (p:=⟨k,0,none⟩) e1).trans e2,e3⟩
theorem jfH (k:Nat) (s:ByteArray) (f:Value) (w:World) (he:(scR s).2.2≠0) (ht:Lib.TabBelow Tryz.prog w.heap.size w "surveyor/lexer.classes" .u8 jaH):Calls Tryz.prog 15 #[.string s,f] w (Ans k s w):=by
 refine(jia s f w he ht).mono ?_
 rintro e w' ⟨rfl,hb⟩
 exact⟨0,0,⟨#[]⟩,0,none,0,0,_,_,rfl,hb,.inr ⟨by unfold pAns;rw[if_neg he],he,rfl⟩⟩
theorem jh7 {k:Nat} {s:ByteArray} {w w':World} {e:Ending} (he:(scR s).2.2=0) {L:List Tk} (hL:L=(scR s).1)
  (h:∃ x st',(∃ xs,x=entT k L xs∧Stp (entW k L) 0 (.ok L) xs st')∧Below w.heap.size w w' ∧
   ((∃ l v,jad (tIs L st' ⟨#[]⟩) st' = .ok l∧e = .returned (.tuple #[v,.int .i64 0,.int .i64 0])∧synAt w.heap.size w' x v) ∨
    (∃ a c,jad (tIs L st' ⟨#[]⟩) st' = .bad a c∧c≠0∧e = .returned (.tuple #[(.agg #[.int .i64 0,.int .i64 0,.string ⟨#[]⟩,.int .i64 0,.slice none 0 0]),.int .i64 a,.int .i64 (c:Nat)])))):Ans k s w e w':=by
 obtain⟨x,st',⟨xs,rfl,hs⟩,hb,hc⟩:=h
 obtain⟨g1,g2⟩:=jgS hs
 have hp:pAns k s=pTk k L:=by unfold pAns;rw[if_pos he,hL]
 rcases hc with ⟨l,v,e1,rfl,hx⟩|⟨a,c,e1,hc,rfl⟩
 ·obtain⟨k4,a4,t4,n4,o4,l4,c4,q4,e5,rfl,hk4⟩:=hx.shape
  exact⟨k4,a4,t4,n4,o4,l4,c4,0,0,rfl,hb,.inl ⟨_,by rw[hp];exact g1 _ e1,rfl,rfl,hx⟩⟩
 ·exact⟨0,0,⟨#[]⟩,0,none,0,0,a,c,rfl,hb,.inr ⟨by rw[hp];exact g2 _ _ e1,hc,rfl⟩⟩
theorem jgT (s:ByteArray) (w:World) (ht:Lib.TabBelow Tryz.prog w.heap.size w "surveyor/lexer.classes" .u8 jaH) (hev:EvAt w):Calls Tryz.prog 15 #[.string s,.func (.func 16) #[] #[]] w (Ans 0 s w):=by
 by_cases he:(scR s).2.2=0
 ·refine(jfb s w _ rfl he ht hev (jbP he).1 (fun x st'=>∃ xs,x=entT 0 (scR s).1 xs∧Stp (entW 0 (scR s).1) 0 (.ok (scR s).1) xs st') (fun R W H=>?_)).mono ?_
  ·obtain⟨_,h2,h3⟩:=jbP he
   refine(jgQ h3 h2 H).mono ?_
   rintro e W' ⟨xs,v,st',rfl,hx,hs,ha,hb⟩
   exact⟨_,v,st',rfl,hx,⟨xs,rfl,hs⟩,ha,hb⟩
  ·intro e w' h
   exact jh7 he rfl h
 ·exact jfH 0 s _ w he ht
theorem jh8 (s:ByteArray) (w:World) (ht:Lib.TabBelow Tryz.prog w.heap.size w "surveyor/lexer.classes" .u8 jaH) (hev:EvAt w):Calls Tryz.prog 7 #[.string s] w (Ans 0 s w):=by
 have hA:Below w.heap.size w (w.alloc jZ):=jN _
 have CS:=jgT s (w.alloc jZ) (fun W hW=>ht W (Below.chain hA hW)) (hev.below hA)
 have hX:=Bx5.new w (.int .i64 0) (.int .i64 0) (.string ⟨#[]⟩) (.int .i64 0) (.slice none 0 0)
 have hz:(w.alloc jZ).heap.size=w.heap.size+1:=by simp
 have KS:=jD CS;have HA:=jD hA;have HX:=jD hX;have HZ:=jD hz
 clear CS hA hX ht hev hz
 go_enter Tryz.func7,Tryz.ntmps7
 go_wp2_with (go_at_call 15;refine cM (KS.out) ?_;rintro e w2 ⟨k4,a4,t4,n4,o4,l4,c4,a,c,rfl,hb2,hx⟩)
 obtain⟨y0,y1,y2,y3,y4,yf,yl⟩:=HX.out.below hb2
 have f0:=yf 0;have f1:=yf 1;have f2:=yf 2;have f3:=yf 3;have f4:=yf 4
 obtain⟨r0,r1,r2,r3,r4⟩:=box5 y0 y1 y2 y3 y4 (.int .i64 k4) (.int .i64 a4) (.string t4) (.int .i64 n4) (.slice o4 l4 c4) _ rfl
 have hlo:w.heap.size<(w.alloc jZ).heap.size:=by rw[HZ.out];exact Nat.lt_succ_self _
 have HB:=jD (jaC (Below.chain HA hb2) (jrr _) (.int .i64 k4) (.int .i64 a4) (.string t4) (.int .i64 n4) (.slice o4 l4 c4))
 have fr:From (w.alloc jZ).heap.size w2 _:=(((((From.refl (w.alloc jZ).heap.size w2).setCell ⟨w.heap.size,0,none⟩ hlo (.int .i64 k4)).setCell ⟨w.heap.size,1,none⟩ hlo (.int .i64 a4)).setCell ⟨w.heap.size,2,none⟩ hlo (.string t4)).setCell ⟨w.heap.size,3,none⟩ hlo (.int .i64 n4)).setCell ⟨w.heap.size,4,none⟩ hlo (.slice o4 l4 c4)
 have GX:=jD (hx.keep fr (Nat.le_of_lt hlo))
 clear hb2 hx yf yl fr hlo
 refine jD ?_
 go_wp2
 refine bodyPost_ret (by simp[results,Tryz.results7,go_sem,r0,r1,r2,r3,r4];rfl) rfl ?_
 exact⟨_,_,_,_,_,_,_,_,_,rfl,HB.out,GX.out⟩
theorem jfI (s:ByteArray) (w:World) (ht:Lib.TabBelow Tryz.prog w.heap.size w "surveyor/lexer.classes" .u8 jaH) (hev:EvAt w):Calls Tryz.prog 15 #[.string s,.func (.func 39) #[] #[]] w (Ans 1 s w):=by
 by_cases he:(scR s).2.2=0
 ·refine(jej s w _ rfl he ht hev (jbP he).1 (fun x st'=>∃ xs,x=entT 1 (scR s).1 xs∧Stp (entW 1 (scR s).1) 0 (.ok (scR s).1) xs st') (fun R W H=>?_)).mono ?_
  ·obtain⟨_,h2,h3⟩:=jbP he
   refine(jd7 h3 h2 H).mono ?_
   rintro e W' ⟨x,v,st',rfl,hx,hs,ha,hb⟩
   exact⟨_,v,st',rfl,hx,⟨[x],rfl,hs⟩,ha,hb⟩
  ·intro e w' h
   exact jh7 he rfl h
 ·exact jfH 1 s _ w he ht
theorem jlU (s:ByteArray) (w:World) (ht:Lib.TabBelow Tryz.prog w.heap.size w "surveyor/lexer.classes" .u8 jaH) (hev:EvAt w):Calls Tryz.prog 18 #[.string s] w (Ans 1 s w):=by
 have hA:Below w.heap.size w (w.alloc jZ):=jN _
 have CS:=jfI s (w.alloc jZ) (fun W hW=>ht W (Below.chain hA hW)) (hev.below hA)
 have hX:=Bx5.new w (.int .i64 0) (.int .i64 0) (.string ⟨#[]⟩) (.int .i64 0) (.slice none 0 0)
 have hz:(w.alloc jZ).heap.size=w.heap.size+1:=by simp
 have KS:=jD CS;have HA:=jD hA;have HX:=jD hX;have HZ:=jD hz
 clear CS hA hX ht hev hz
 go_enter Tryz.func18,Tryz.ntmps18
 go_wp2_with (go_at_call 15;refine cM (KS.out) ?_;rintro e w2 ⟨k4,a4,t4,n4,o4,l4,c4,a,c,rfl,hb2,hx⟩)
 obtain⟨y0,y1,y2,y3,y4,yf,yl⟩:=HX.out.below hb2
 have f0:=yf 0;have f1:=yf 1;have f2:=yf 2;have f3:=yf 3;have f4:=yf 4
 obtain⟨r0,r1,r2,r3,r4⟩:=box5 y0 y1 y2 y3 y4 (.int .i64 k4) (.int .i64 a4) (.string t4) (.int .i64 n4) (.slice o4 l4 c4) _ rfl
 have hlo:w.heap.size<(w.alloc jZ).heap.size:=by rw[HZ.out];exact Nat.lt_succ_self _
 have HB:=jD (jaC (Below.chain HA hb2) (jrr _) (.int .i64 k4) (.int .i64 a4) (.string t4) (.int .i64 n4) (.slice o4 l4 c4))
 have fr:From (w.alloc jZ).heap.size w2 _:=(((((From.refl (w.alloc jZ).heap.size w2).setCell ⟨w.heap.size,0,none⟩ hlo (.int .i64 k4)).setCell ⟨w.heap.size,1,none⟩ hlo (.int .i64 a4)).setCell ⟨w.heap.size,2,none⟩ hlo (.string t4)).setCell ⟨w.heap.size,3,none⟩ hlo (.int .i64 n4)).setCell ⟨w.heap.size,4,none⟩ hlo (.slice o4 l4 c4)
 have GX:=jD (hx.keep fr (Nat.le_of_lt hlo))
 clear hb2 hx yf yl fr hlo
 refine jD ?_
 go_wp2
 refine bodyPost_ret (by simp[results,Tryz.results18,go_sem,r0,r1,r2,r3,r4];rfl) rfl ?_
 exact⟨_,_,_,_,_,_,_,_,_,rfl,HB.out,GX.out⟩
theorem jfJ (s:ByteArray) (w:World) (ht:Lib.TabBelow Tryz.prog w.heap.size w "surveyor/lexer.classes" .u8 jaH) (hev:EvAt w):Calls Tryz.prog 15 #[.string s,.func (.func 31) #[] #[]] w (Ans 2 s w):=by
 by_cases he:(scR s).2.2=0
 ·refine(jek s w _ rfl he ht hev (jbP he).1 (fun x st'=>∃ xs,x=entT 2 (scR s).1 xs∧Stp (entW 2 (scR s).1) 0 (.ok (scR s).1) xs st') (fun R W H=>?_)).mono ?_
  ·obtain⟨_,h2,h3⟩:=jbP he
   refine(jfF h3 h2 H).mono ?_
   rintro e W' ⟨x,v,st',rfl,hx,hs,ha,hb⟩
   exact⟨_,v,st',rfl,hx,⟨[x],rfl,hs⟩,ha,hb⟩
  ·intro e w' h
   exact jh7 he rfl h
 ·exact jfH 2 s _ w he ht
theorem jjR (s:ByteArray) (w:World) (ht:Lib.TabBelow Tryz.prog w.heap.size w "surveyor/lexer.classes" .u8 jaH) (hev:EvAt w):Calls Tryz.prog 13 #[.string s] w (Ans 2 s w):=by
 have hA:Below w.heap.size w (w.alloc jZ):=jN _
 have CS:=jfJ s (w.alloc jZ) (fun W hW=>ht W (Below.chain hA hW)) (hev.below hA)
 have hX:=Bx5.new w (.int .i64 0) (.int .i64 0) (.string ⟨#[]⟩) (.int .i64 0) (.slice none 0 0)
 have hz:(w.alloc jZ).heap.size=w.heap.size+1:=by simp
 have KS:=jD CS;have HA:=jD hA;have HX:=jD hX;have HZ:=jD hz
 clear CS hA hX ht hev hz
 go_enter Tryz.func13,Tryz.ntmps13
 go_wp2_with (go_at_call 15;refine cM (KS.out) ?_;rintro e w2 ⟨k4,a4,t4,n4,o4,l4,c4,a,c,rfl,hb2,hx⟩)
 obtain⟨y0,y1,y2,y3,y4,yf,yl⟩:=HX.out.below hb2
 have f0:=yf 0;have f1:=yf 1;have f2:=yf 2;have f3:=yf 3;have f4:=yf 4
 obtain⟨r0,r1,r2,r3,r4⟩:=box5 y0 y1 y2 y3 y4 (.int .i64 k4) (.int .i64 a4) (.string t4) (.int .i64 n4) (.slice o4 l4 c4) _ rfl
 have hlo:w.heap.size<(w.alloc jZ).heap.size:=by rw[HZ.out];exact Nat.lt_succ_self _
 have HB:=jD (jaC (Below.chain HA hb2) (jrr _) (.int .i64 k4) (.int .i64 a4) (.string t4) (.int .i64 n4) (.slice o4 l4 c4))
 have fr:From (w.alloc jZ).heap.size w2 _:=(((((From.refl (w.alloc jZ).heap.size w2).setCell ⟨w.heap.size,0,none⟩ hlo (.int .i64 k4)).setCell ⟨w.heap.size,1,none⟩ hlo (.int .i64 a4)).setCell ⟨w.heap.size,2,none⟩ hlo (.string t4)).setCell ⟨w.heap.size,3,none⟩ hlo (.int .i64 n4)).setCell ⟨w.heap.size,4,none⟩ hlo (.slice o4 l4 c4)
 have GX:=jD (hx.keep fr (Nat.le_of_lt hlo))
 clear hb2 hx yf yl fr hlo
 refine jD ?_
 go_wp2
 refine bodyPost_ret (by simp[results,Tryz.results13,go_sem,r0,r1,r2,r3,r4];rfl) rfl ?_
 exact⟨_,_,_,_,_,_,_,_,_,rfl,HB.out,GX.out⟩
theorem jfc (s:ByteArray) (w:World) (ht:Lib.TabBelow Tryz.prog w.heap.size w "surveyor/lexer.classes" .u8 jaH) (hev:EvAt w):Calls Tryz.prog 15 #[.string s,.func (.func 32) #[] #[]] w (Ans 3 s w):=by
 by_cases he:(scR s).2.2=0
 ·refine(jdP s w _ rfl he ht hev (jbP he).1 (fun x st'=>∃ xs,x=entT 3 (scR s).1 xs∧Stp (entW 3 (scR s).1) 0 (.ok (scR s).1) xs st') (fun R W H=>?_)).mono ?_
  ·obtain⟨_,h2,h3⟩:=jbP he
   refine(jfa h3 h2 H).mono ?_
   rintro e W' ⟨x,v,st',rfl,hx,hs,ha,hb⟩
   exact⟨_,v,st',rfl,hx,⟨[x],rfl,hs⟩,ha,hb⟩
  ·intro e w' h
   exact jh7 he rfl h
 ·exact jfH 3 s _ w he ht
theorem jlV (s:ByteArray) (w:World) (ht:Lib.TabBelow Tryz.prog w.heap.size w "surveyor/lexer.classes" .u8 jaH) (hev:EvAt w):Calls Tryz.prog 14 #[.string s] w (Ans 3 s w):=by
 have hA:Below w.heap.size w (w.alloc jZ):=jN _
 have CS:=jfc s (w.alloc jZ) (fun W hW=>ht W (Below.chain hA hW)) (hev.below hA)
 have hX:=Bx5.new w (.int .i64 0) (.int .i64 0) (.string ⟨#[]⟩) (.int .i64 0) (.slice none 0 0)
 have hz:(w.alloc jZ).heap.size=w.heap.size+1:=by simp
 have KS:=jD CS;have HA:=jD hA;have HX:=jD hX;have HZ:=jD hz
 clear CS hA hX ht hev hz
 go_enter Tryz.func14,Tryz.ntmps14
 go_wp2_with (go_at_call 15;refine cM (KS.out) ?_;rintro e w2 ⟨k4,a4,t4,n4,o4,l4,c4,a,c,rfl,hb2,hx⟩)
 obtain⟨y0,y1,y2,y3,y4,yf,yl⟩:=HX.out.below hb2
 have f0:=yf 0;have f1:=yf 1;have f2:=yf 2;have f3:=yf 3;have f4:=yf 4
 obtain⟨r0,r1,r2,r3,r4⟩:=box5 y0 y1 y2 y3 y4 (.int .i64 k4) (.int .i64 a4) (.string t4) (.int .i64 n4) (.slice o4 l4 c4) _ rfl
 have hlo:w.heap.size<(w.alloc jZ).heap.size:=by rw[HZ.out];exact Nat.lt_succ_self _
 have HB:=jD (jaC (Below.chain HA hb2) (jrr _) (.int .i64 k4) (.int .i64 a4) (.string t4) (.int .i64 n4) (.slice o4 l4 c4))
 have fr:From (w.alloc jZ).heap.size w2 _:=(((((From.refl (w.alloc jZ).heap.size w2).setCell ⟨w.heap.size,0,none⟩ hlo (.int .i64 k4)).setCell ⟨w.heap.size,1,none⟩ hlo (.int .i64 a4)).setCell ⟨w.heap.size,2,none⟩ hlo (.string t4)).setCell ⟨w.heap.size,3,none⟩ hlo (.int .i64 n4)).setCell ⟨w.heap.size,4,none⟩ hlo (.slice o4 l4 c4)
 have GX:=jD (hx.keep fr (Nat.le_of_lt hlo))
 clear hb2 hx yf yl fr hlo
 refine jD ?_
 go_wp2
 refine bodyPost_ret (by simp[results,Tryz.results14,go_sem,r0,r1,r2,r3,r4];rfl) rfl ?_
 exact⟨_,_,_,_,_,_,_,_,_,rfl,HB.out,GX.out⟩
end Go.Proofs.YtenmmmdnpglkoaaGreatDoor
