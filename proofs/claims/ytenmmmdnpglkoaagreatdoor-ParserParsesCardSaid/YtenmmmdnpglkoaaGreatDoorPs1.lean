import Derived.Test.YtenmmmdnpglkoaaGreatDoorCut38
import Derived.Test.YtenmmmdnpglkoaaGreatDoorCut36
import Derived.Test.YtenmmmdnpglkoaaGreatDoorCut37
import Derived.Lib.QuietBelow

set_option linter.unusedVariables false
/-
 surveyorlaw09: words for the walks of the laws.
-/
set_option linter.unusedSimpArgs false
set_option linter.unusedVariables false
set_option maxRecDepth 100000
set_option maxHeartbeats 8000000
namespace Go.Proofs.YtenmmmdnpglkoaaGreatDoor
open Go Go.Proofs Go.RowKit Go.Sort

theorem pAns_cases (k:Nat) (s:ByteArray):(∃ x,pAns k s = .ok x)∨∃ a c,pAns k s = .error (a,c):=by
 cases h:pAns k s with
 |ok x=>exact .inl ⟨x,rfl⟩
 |error p=>exact .inr ⟨p.1,p.2,rfl⟩
end Go.Proofs.YtenmmmdnpglkoaaGreatDoor

/-
 The reference's Parse, and its Read of all parts.
-/
set_option linter.unusedSimpArgs false
set_option linter.unusedVariables false
set_option maxRecDepth 100000
set_option maxHeartbeats 8000000
namespace Go.Proofs.YtenmmmdnpglkoaaGreatDoor
open Go Go.Proofs Go.RowKit Go.Sort

theorem refParse_any (s:ByteArray) (w:World):Calls Tryz.prog 8 #[.string s] w (Ans 0 s w):=by
 have hA:Below w.heap.size w (w.alloc jZ):=(Below.refl _ _).alloc (Nat.le_refl _) _
 have CS:=rRead0 s (w.alloc jZ)
 have hX:=Bx5.new w (.int .i64 0) (.int .i64 0) (.string ⟨#[]⟩) (.int .i64 0) (.slice none 0 0)
 have hz:(w.alloc jZ).heap.size=w.heap.size+1:=by simp
 have KS:=jD CS;have HA:=jD hA;have HX:=jD hX;have HZ:=jD hz
 clear CS hA hX hz
 go_enter Tryz.func8,Tryz.ntmps8
 go_wp2_with (go_at_call 11;refine(KS.out).mono ?_;rintro e w2 ⟨k4,a4,t4,n4,o4,l4,c4,a,c,rfl,hb2,hx⟩;refine Hid.out ?_)
 obtain⟨y0,y1,y2,y3,y4,yf,yl⟩:=HX.out.below hb2
 have f0:=yf 0;have f1:=yf 1;have f2:=yf 2;have f3:=yf 3;have f4:=yf 4
 obtain⟨r0,r1,r2,r3,r4⟩:=box5 y0 y1 y2 y3 y4 (.int .i64 k4) (.int .i64 a4) (.string t4) (.int .i64 n4) (.slice o4 l4 c4) _ rfl
 have hlo:w.heap.size<(w.alloc jZ).heap.size:=by rw[HZ.out];exact Nat.lt_succ_self _
 have HB:=jD (jaC (Below.chain HA.out hb2) (Nat.le_refl _) (.int .i64 k4) (.int .i64 a4) (.string t4) (.int .i64 n4) (.slice o4 l4 c4))
 have fr:From (w.alloc jZ).heap.size w2 _:=(((((From.refl (w.alloc jZ).heap.size w2).setCell ⟨w.heap.size,0,none⟩ hlo (.int .i64 k4)).setCell ⟨w.heap.size,1,none⟩ hlo (.int .i64 a4)).setCell ⟨w.heap.size,2,none⟩ hlo (.string t4)).setCell ⟨w.heap.size,3,none⟩ hlo (.int .i64 n4)).setCell ⟨w.heap.size,4,none⟩ hlo (.slice o4 l4 c4)
 have GX:=jD (hx.keep fr (Nat.le_of_lt hlo))
 clear hb2 hx yf yl fr hlo
 refine jD ?_
 go_wp2
 refine bodyPost_ret (by simp[results,Tryz.results8,go_sem,r0,r1,r2,r3,r4];rfl) rfl ?_
 exact⟨_,_,_,_,_,_,_,_,_,rfl,HB.out,GX.out⟩
end Go.Proofs.YtenmmmdnpglkoaaGreatDoor

/-
 The law ParserParses.
-/
set_option linter.unusedSimpArgs false
set_option linter.unusedVariables false
set_option maxRecDepth 100000
set_option maxHeartbeats 8000000
namespace Go.Proofs.YtenmmmdnpglkoaaGreatDoor
open Go Go.Proofs Go.RowKit Go.Sort

theorem lparses_mid (s:ByteArray) (g1:decide ((2000:Int)<(s.size:Int))=true) (g2:decide ((s.size:Int)≤65536)=true) (w:World) (h:Env w) :
  Calls Tryz.prog 3 #[.string s] w fun e w'=>e = .returned (.bool true)∧Below w.heap.size w w':=by
 have HE:=jD h;clear h
 go_enter Tryz.func3,Tryz.ntmps3
 go_wp2_with (go_at_call 6;refine(HE.out.awake (Below.refl _ _)).mono ?_;rintro e w1 ⟨rfl,hb⟩;refine Hid.out ?_)
 have B1:=jD (Below.chain (Below.refl _ _) hb)
 clear hb
 refine jD ?_
 go_wp2
 go_ret
 exact⟨rfl,B1.out⟩
theorem lparses_sy (s:ByteArray) (g1:decide ((2000:Int)<(s.size:Int))=false) (x:Syn) (hp:pAns 0 s = .ok x) (w:World) (h:Env w) :
  Calls Tryz.prog 3 #[.string s] w fun e w'=>e = .returned (.bool true)∧Below w.heap.size w w':=by
 have HE:=jD h;have HP:=jD hp;clear h hp
 go_enter Tryz.func3,Tryz.ntmps3
 go_wp2_with (go_at_call 7;refine(ent_ok HP.out (HE.out.parse (Below.refl _ _) _)).mono ?_;rintro e w1 ⟨k1,a1,t1,n1,o1,l1,c1,q1,hq1,rfl,hb,hx⟩;refine Hid.out ?_)
 have hA:Below w1.heap.size w1 (w1.alloc (jO k1 a1 t1 n1 o1 l1 c1)):=(Below.refl _ _).alloc (Nat.le_refl _) _
 have B1:=jD (Below.chain (Below.refl _ _) (Below.chain hb hA))
 have X1_1:=jD (Bx5.new w1 (.int .i64 k1) (.int .i64 a1) (.string t1) (.int .i64 n1) (.slice o1 l1 c1))
 have S1_1:=jD (hx.below hA)
 clear hA hb hx
 refine jD ?_
 go_wp2_with (go_at_call 8;refine(ent_ok HP.out (refParse_any _ _)).mono ?_;rintro e w2 ⟨k2,a2,t2,n2,o2,l2,c2,q2,hq2,rfl,hb,hx⟩;refine Hid.out ?_)
 have hA:Below w2.heap.size w2 (w2.alloc (jO k2 a2 t2 n2 o2 l2 c2)):=(Below.refl _ _).alloc (Nat.le_refl _) _
 have B2:=jD (Below.chain B1.out (Below.chain hb hA))
 have X1_2:=jD (X1_1.out.below (Below.chain hb hA))
 clear X1_1
 have S1_2:=jD (S1_1.out.below (Below.chain hb hA))
 clear S1_1
 have X2_2:=jD (Bx5.new w2 (.int .i64 k2) (.int .i64 a2) (.string t2) (.int .i64 n2) (.slice o2 l2 c2))
 have S2_2:=jD (hx.below hA)
 clear hA hb hx
 refine jD ?_
 go_wp2_with (go_at_call 6;refine(HE.out.awake B2.out).mono ?_;rintro e w3 ⟨rfl,hb⟩;refine Hid.out ?_)
 have B3:=jD (Below.chain B2.out hb)
 have X1_3:=jD (X1_2.out.below hb)
 clear X1_2
 have S1_3:=jD (S1_2.out.below hb)
 clear S1_2
 have X2_3:=jD (X2_2.out.below hb)
 clear X2_2
 have S2_3:=jD (S2_2.out.below hb)
 clear S2_2
 clear hb
 have CS:=jli _ _ _ _ _ _ w3 S1_3.out S2_3.out
 rw[(jlh _ _).mpr rfl] at CS
 have KS:=jD CS;clear CS
 obtain⟨yX10,yX11,yX12,yX13,yX14,-,lX1⟩:=X1_3.out
 obtain⟨yX20,yX21,yX22,yX23,yX24,-,lX2⟩:=X2_3.out
 refine jD ?_
 go_wp2_with (go_at_call 9;refine(KS.out).mono ?_;rintro e w4 ⟨rfl,hb⟩;refine Hid.out ?_)
 have B4:=jD (Below.chain B3.out hb);clear hb
 refine jD ?_
 go_wp2
 go_ret
 exact⟨rfl,B4.out⟩
theorem lparses_sn (s:ByteArray) (g1:decide ((2000:Int)<(s.size:Int))=false) (at1:Int) (cc:Nat) (hp:pAns 0 s = .error (at1,cc)) (w:World) (h:Env w) :
  Calls Tryz.prog 3 #[.string s] w fun e w'=>e = .returned (.bool true)∧Below w.heap.size w w':=by
 have HE:=jD h;have HP:=jD hp;clear h hp
 go_enter Tryz.func3,Tryz.ntmps3
 go_wp2_with (go_at_call 7;refine(jmK HP.out (HE.out.parse (Below.refl _ _) _)).mono ?_;rintro e w1 ⟨rfl,hb⟩;refine Hid.out ?_)
 have hA:Below w1.heap.size w1 (w1.alloc jZ):=(Below.refl _ _).alloc (Nat.le_refl _) _
 have B1:=jD (Below.chain (Below.refl _ _) (Below.chain hb hA))
 have X1_1:=jD (Bx5.new w1 (.int .i64 0) (.int .i64 0) (.string ⟨#[]⟩) (.int .i64 0) (.slice none 0 0))
 clear hA hb
 refine jD ?_
 go_wp2_with (go_at_call 8;refine(jmK HP.out (refParse_any _ _)).mono ?_;rintro e w2 ⟨rfl,hb⟩;refine Hid.out ?_)
 have hA:Below w2.heap.size w2 (w2.alloc jZ):=(Below.refl _ _).alloc (Nat.le_refl _) _
 have B2:=jD (Below.chain B1.out (Below.chain hb hA))
 have X1_2:=jD (X1_1.out.below (Below.chain hb hA))
 clear X1_1
 have X2_2:=jD (Bx5.new w2 (.int .i64 0) (.int .i64 0) (.string ⟨#[]⟩) (.int .i64 0) (.slice none 0 0))
 clear hA hb
 refine jD ?_
 go_wp2_with (go_at_call 6;refine(HE.out.awake B2.out).mono ?_;rintro e w3 ⟨rfl,hb⟩;refine Hid.out ?_)
 have B3:=jD (Below.chain B2.out hb)
 have X1_3:=jD (X1_2.out.below hb)
 clear X1_2
 have X2_3:=jD (X2_2.out.below hb)
 clear X2_2
 clear hb
 have SZ:synAt 0 w3 (.mk 0 0 ⟨#[]⟩ 0 []) (.agg #[.int .i64 0,.int .i64 0,.string ⟨#[]⟩,.int .i64 0,.slice none 0 0]):=jcd.mpr ⟨_,rfl,.inl ⟨rfl,rfl⟩⟩
 have CS:=jli _ _ 0 0 _ _ w3 SZ SZ
 rw[(jlh _ _).mpr rfl] at CS
 have KS:=jD CS;clear CS SZ
 obtain⟨yX10,yX11,yX12,yX13,yX14,-,lX1⟩:=X1_3.out
 obtain⟨yX20,yX21,yX22,yX23,yX24,-,lX2⟩:=X2_3.out
 refine jD ?_
 go_wp2_with (go_at_call 9;refine(KS.out).mono ?_;rintro e w4 ⟨rfl,hb⟩;refine Hid.out ?_)
 have B4:=jD (Below.chain B3.out hb);clear hb
 refine jD ?_
 go_wp2
 go_ret
 exact⟨rfl,B4.out⟩
theorem lparses_ly (s:ByteArray) (g1:decide ((2000:Int)<(s.size:Int))=true) (g2:decide ((s.size:Int)≤65536)=false) (x:Syn) (hp:pAns 0 s = .ok x) (w:World) (h:Env w) :
  Calls Tryz.prog 3 #[.string s] w fun e w'=>e = .returned (.bool true)∧Below w.heap.size w w':=by
 have HE:=jD h;have HP:=jD hp;clear h hp
 go_enter Tryz.func3,Tryz.ntmps3
 go_wp2_with (go_at_call 7;refine(ent_ok HP.out (HE.out.parse (Below.refl _ _) _)).mono ?_;rintro e w1 ⟨k1,a1,t1,n1,o1,l1,c1,q1,hq1,rfl,hb,hx⟩;refine Hid.out ?_)
 have hA:Below w1.heap.size w1 (w1.alloc (jO k1 a1 t1 n1 o1 l1 c1)):=(Below.refl _ _).alloc (Nat.le_refl _) _
 have B1:=jD (Below.chain (Below.refl _ _) (Below.chain hb hA))
 have X1_1:=jD (Bx5.new w1 (.int .i64 k1) (.int .i64 a1) (.string t1) (.int .i64 n1) (.slice o1 l1 c1))
 have S1_1:=jD (hx.below hA)
 clear hA hb hx
 refine jD ?_
 go_wp2_with (go_at_call 8;refine(ent_ok HP.out (refParse_any _ _)).mono ?_;rintro e w2 ⟨k2,a2,t2,n2,o2,l2,c2,q2,hq2,rfl,hb,hx⟩;refine Hid.out ?_)
 have hA:Below w2.heap.size w2 (w2.alloc (jO k2 a2 t2 n2 o2 l2 c2)):=(Below.refl _ _).alloc (Nat.le_refl _) _
 have B2:=jD (Below.chain B1.out (Below.chain hb hA))
 have X1_2:=jD (X1_1.out.below (Below.chain hb hA))
 clear X1_1
 have S1_2:=jD (S1_1.out.below (Below.chain hb hA))
 clear S1_1
 have X2_2:=jD (Bx5.new w2 (.int .i64 k2) (.int .i64 a2) (.string t2) (.int .i64 n2) (.slice o2 l2 c2))
 have S2_2:=jD (hx.below hA)
 clear hA hb hx
 refine jD ?_
 go_wp2_with (go_at_call 6;refine(HE.out.awake B2.out).mono ?_;rintro e w3 ⟨rfl,hb⟩;refine Hid.out ?_)
 have B3:=jD (Below.chain B2.out hb)
 have X1_3:=jD (X1_2.out.below hb)
 clear X1_2
 have S1_3:=jD (S1_2.out.below hb)
 clear S1_2
 have X2_3:=jD (X2_2.out.below hb)
 clear X2_2
 have S2_3:=jD (S2_2.out.below hb)
 clear S2_2
 clear hb
 have CS:=jli _ _ _ _ _ _ w3 S1_3.out S2_3.out
 rw[(jlh _ _).mpr rfl] at CS
 have KS:=jD CS;clear CS
 obtain⟨yX10,yX11,yX12,yX13,yX14,-,lX1⟩:=X1_3.out
 obtain⟨yX20,yX21,yX22,yX23,yX24,-,lX2⟩:=X2_3.out
 refine jD ?_
 go_wp2_with (go_at_call 9;refine(KS.out).mono ?_;rintro e w4 ⟨rfl,hb⟩;refine Hid.out ?_)
 have B4:=jD (Below.chain B3.out hb);clear hb
 refine jD ?_
 go_wp2
 go_ret
 exact⟨rfl,B4.out⟩
theorem lparses_ln (s:ByteArray) (g1:decide ((2000:Int)<(s.size:Int))=true) (g2:decide ((s.size:Int)≤65536)=false) (at1:Int) (cc:Nat) (hp:pAns 0 s = .error (at1,cc)) (w:World) (h:Env w) :
  Calls Tryz.prog 3 #[.string s] w fun e w'=>e = .returned (.bool true)∧Below w.heap.size w w':=by
 have HE:=jD h;have HP:=jD hp;clear h hp
 go_enter Tryz.func3,Tryz.ntmps3
 go_wp2_with (go_at_call 7;refine(jmK HP.out (HE.out.parse (Below.refl _ _) _)).mono ?_;rintro e w1 ⟨rfl,hb⟩;refine Hid.out ?_)
 have hA:Below w1.heap.size w1 (w1.alloc jZ):=(Below.refl _ _).alloc (Nat.le_refl _) _
 have B1:=jD (Below.chain (Below.refl _ _) (Below.chain hb hA))
 have X1_1:=jD (Bx5.new w1 (.int .i64 0) (.int .i64 0) (.string ⟨#[]⟩) (.int .i64 0) (.slice none 0 0))
 clear hA hb
 refine jD ?_
 go_wp2_with (go_at_call 8;refine(jmK HP.out (refParse_any _ _)).mono ?_;rintro e w2 ⟨rfl,hb⟩;refine Hid.out ?_)
 have hA:Below w2.heap.size w2 (w2.alloc jZ):=(Below.refl _ _).alloc (Nat.le_refl _) _
 have B2:=jD (Below.chain B1.out (Below.chain hb hA))
 have X1_2:=jD (X1_1.out.below (Below.chain hb hA))
 clear X1_1
 have X2_2:=jD (Bx5.new w2 (.int .i64 0) (.int .i64 0) (.string ⟨#[]⟩) (.int .i64 0) (.slice none 0 0))
 clear hA hb
 refine jD ?_
 go_wp2_with (go_at_call 6;refine(HE.out.awake B2.out).mono ?_;rintro e w3 ⟨rfl,hb⟩;refine Hid.out ?_)
 have B3:=jD (Below.chain B2.out hb)
 have X1_3:=jD (X1_2.out.below hb)
 clear X1_2
 have X2_3:=jD (X2_2.out.below hb)
 clear X2_2
 clear hb
 have SZ:synAt 0 w3 (.mk 0 0 ⟨#[]⟩ 0 []) (.agg #[.int .i64 0,.int .i64 0,.string ⟨#[]⟩,.int .i64 0,.slice none 0 0]):=jcd.mpr ⟨_,rfl,.inl ⟨rfl,rfl⟩⟩
 have CS:=jli _ _ 0 0 _ _ w3 SZ SZ
 rw[(jlh _ _).mpr rfl] at CS
 have KS:=jD CS;clear CS SZ
 obtain⟨yX10,yX11,yX12,yX13,yX14,-,lX1⟩:=X1_3.out
 obtain⟨yX20,yX21,yX22,yX23,yX24,-,lX2⟩:=X2_3.out
 refine jD ?_
 go_wp2_with (go_at_call 9;refine(KS.out).mono ?_;rintro e w4 ⟨rfl,hb⟩;refine Hid.out ?_)
 have B4:=jD (Below.chain B3.out hb);clear hb
 refine jD ?_
 go_wp2
 go_ret
 exact⟨rfl,B4.out⟩
theorem lparses_walk (s:ByteArray) (w:World) (h:Env w) :
  Calls Tryz.prog 3 #[.string s] w fun e w'=>e = .returned (.bool true)∧Below w.heap.size w w':=by
 cases g1:decide ((2000:Int)<(s.size:Int)) with
 |false=>
  rcases pAns_cases 0 s with ⟨x,hp⟩|⟨a,c,hp⟩
  ·exact lparses_sy s g1 x hp w h
  ·exact lparses_sn s g1 a c hp w h
 |true=>
  cases g2:decide ((s.size:Int)≤65536) with
  |true=>exact lparses_mid s g1 g2 w h
  |false=>
   rcases pAns_cases 0 s with ⟨x,hp⟩|⟨a,c,hp⟩
   ·exact lparses_ly s g1 g2 x hp w h
   ·exact lparses_ln s g1 g2 a c hp w h
end Go.Proofs.YtenmmmdnpglkoaaGreatDoor

