import Derived.Test.YtenmmmdnpglkoaaGreatDoorCut36
import Derived.Test.YtenmmmdnpglkoaaGreatDoorCut38
import Derived.Test.YtenmmmdnpglkoaaGreatDoorCut37
import Derived.Lib.QuietBelow

set_option linter.unusedVariables false
/-
 The reference's reader: Read of all parts.
-/
set_option linter.unusedSimpArgs false
set_option linter.unusedVariables false
set_option maxRecDepth 100000
set_option maxHeartbeats 8000000
namespace Go.Proofs.YtenmmmdnpglkoaaGreatDoor
open Go Go.Proofs Go.RowKit Go.Sort

theorem rRead1 (s:ByteArray) (w:World):Calls Tryz.prog 11 #[.string s,.int .i64 1] w (Ans 1 s w):=jm0 1 1 (by decide) s w
theorem rRead2 (s:ByteArray) (w:World):Calls Tryz.prog 11 #[.string s,.int .i64 2] w (Ans 2 s w):=jm0 2 2 (by decide) s w
theorem rRead3 (s:ByteArray) (w:World):Calls Tryz.prog 11 #[.string s,.int .i64 3] w (Ans 3 s w):=jm0 3 3 (by decide) s w
end Go.Proofs.YtenmmmdnpglkoaaGreatDoor

/-
 surveyorlaw09: words for the walks of the laws.
-/
set_option linter.unusedSimpArgs false
set_option linter.unusedVariables false
set_option maxRecDepth 100000
set_option maxHeartbeats 8000000
namespace Go.Proofs.YtenmmmdnpglkoaaGreatDoor
open Go Go.Proofs Go.RowKit Go.Sort

theorem pAns_cases (k:Nat) (s:ByteArray):(∃ x,pAns k s = .ok x)∨∃ a c,pAns k s = .error (a,c):=by
 cases h:pAns k s with
 |ok x=>exact .inl ⟨x,rfl⟩
 |error p=>exact .inr ⟨p.1,p.2,rfl⟩
end Go.Proofs.YtenmmmdnpglkoaaGreatDoor

/-
 The reference's Parse, and its Read of all parts.
-/
set_option linter.unusedSimpArgs false
set_option linter.unusedVariables false
set_option maxRecDepth 100000
set_option maxHeartbeats 8000000
namespace Go.Proofs.YtenmmmdnpglkoaaGreatDoor
open Go Go.Proofs Go.RowKit Go.Sort

theorem refRead_any (k:Nat) (hk:k<4) (s:ByteArray) (w:World):Calls Tryz.prog 11 #[.string s,.int .i64 (k:Nat)] w (Ans k s w):=by
 rcases(show k=0∨k=1∨k=2∨k=3 by omega) with rfl|rfl|rfl|rfl
 ·exact rRead0 s w
 ·exact rRead1 s w
 ·exact rRead2 s w
 ·exact rRead3 s w
end Go.Proofs.YtenmmmdnpglkoaaGreatDoor

/-
 The law ParserParts.
-/
set_option linter.unusedSimpArgs false
set_option linter.unusedVariables false
set_option maxRecDepth 100000
set_option maxHeartbeats 8000000
namespace Go.Proofs.YtenmmmdnpglkoaaGreatDoor
open Go Go.Proofs Go.RowKit Go.Sort

theorem lparts_big (s:ByteArray) (n:Nat) (hn:n<256) (g1:decide ((1500:Int)<(s.size:Int))=true) (w:World) (h:Env w) :
  Calls Tryz.prog 4 #[.string s,.int .u8 (n:Int)] w fun e w'=>e = .returned (.bool true)∧Below w.heap.size w w':=by
 have HE:=jD h;clear h
 go_enter Tryz.func4,Tryz.ntmps4
 go_wp2_with (go_at_call 6;refine(HE.out.awake (Below.refl _ _)).mono ?_;rintro e w1 ⟨rfl,hb⟩;refine Hid.out ?_)
 have B1:=jD (Below.chain (Below.refl _ _) hb)
 clear hb
 refine jD ?_
 go_wp2
 go_ret
 exact⟨rfl,B1.out⟩
theorem lparts_y (s:ByteArray) (n:Nat) (hn:n<256) (g1:decide ((1500:Int)<(s.size:Int))=false) (x:Syn) (hp:pAns (n % 4) s = .ok x) (w:World) (h:Env w) :
  Calls Tryz.prog 4 #[.string s,.int .u8 (n:Int)] w fun e w'=>e = .returned (.bool true)∧Below w.heap.size w w':=by
 have hj:n % 4<4:=Nat.mod_lt _ (by decide)
 have hm:((n:Int)).tmod 4=((n % 4:Nat):Int):=by rw[Int.tmod_eq_emod_of_nonneg (by omega)];omega
 have hm2:((n:Int)) % 4=((n % 4:Nat):Int):=by omega
 have HN:=jD hn;have HJ:=jD hj
 have HC:=jD (fun(W:World) (X:World) (hB:Below W.heap.size W X) (hE:Env W)=>hE.part hB s n hn)
 have HR:=jD (fun W=>refRead_any (n % 4) hj s W)
 generalize hjn:n % 4=j at *
 have w64':wrap64 (j:Int)=(j:Int):=(jiU _ (by omega) (by omega)).2
 clear hn hj hjn
 have HE:=jD h;have HP:=jD hp;clear h hp
 go_enter Tryz.func4,Tryz.ntmps4
 go_wp2_with (go_at_call 10;refine(ent_ok HP.out (HC.out _ _ (Below.refl _ _) HE.out)).mono ?_;rintro e w1 ⟨k1,a1,t1,n1,o1,l1,c1,q1,hq1,rfl,hb,hx⟩;refine Hid.out ?_)
 have hA:Below w1.heap.size w1 (w1.alloc (jO k1 a1 t1 n1 o1 l1 c1)):=(Below.refl _ _).alloc (Nat.le_refl _) _
 have B1:=jD (Below.chain (Below.refl _ _) (Below.chain hb hA))
 have X1_1:=jD (Bx5.new w1 (.int .i64 k1) (.int .i64 a1) (.string t1) (.int .i64 n1) (.slice o1 l1 c1))
 have S1_1:=jD (hx.below hA)
 clear hA hb hx
 refine jD ?_
 go_wp2_with (go_at_call 11;refine(ent_ok HP.out (HR.out _)).mono ?_;rintro e w2 ⟨k2,a2,t2,n2,o2,l2,c2,q2,hq2,rfl,hb,hx⟩;refine Hid.out ?_)
 have hA:Below w2.heap.size w2 (w2.alloc (jO k2 a2 t2 n2 o2 l2 c2)):=(Below.refl _ _).alloc (Nat.le_refl _) _
 have B2:=jD (Below.chain B1.out (Below.chain hb hA))
 have X1_2:=jD (X1_1.out.below (Below.chain hb hA))
 clear X1_1
 have S1_2:=jD (S1_1.out.below (Below.chain hb hA))
 clear S1_1
 have X2_2:=jD (Bx5.new w2 (.int .i64 k2) (.int .i64 a2) (.string t2) (.int .i64 n2) (.slice o2 l2 c2))
 have S2_2:=jD (hx.below hA)
 clear hA hb hx
 refine jD ?_
 go_wp2_with (go_at_call 6;refine(HE.out.awake B2.out).mono ?_;rintro e w3 ⟨rfl,hb⟩;refine Hid.out ?_)
 have B3:=jD (Below.chain B2.out hb)
 have X1_3:=jD (X1_2.out.below hb)
 clear X1_2
 have S1_3:=jD (S1_2.out.below hb)
 clear S1_2
 have X2_3:=jD (X2_2.out.below hb)
 clear X2_2
 have S2_3:=jD (S2_2.out.below hb)
 clear S2_2
 clear hb
 have CS:=jli _ _ _ _ _ _ w3 S1_3.out S2_3.out
 rw[(jlh _ _).mpr rfl] at CS
 have KS:=jD CS;clear CS
 obtain⟨yX10,yX11,yX12,yX13,yX14,-,lX1⟩:=X1_3.out
 obtain⟨yX20,yX21,yX22,yX23,yX24,-,lX2⟩:=X2_3.out
 refine jD ?_
 go_wp2_with (go_at_call 9;refine(KS.out).mono ?_;rintro e w4 ⟨rfl,hb⟩;refine Hid.out ?_)
 have B4:=jD (Below.chain B3.out hb);clear hb
 refine jD ?_
 go_wp2
 go_ret
 exact⟨rfl,B4.out⟩
theorem lparts_n (s:ByteArray) (n:Nat) (hn:n<256) (g1:decide ((1500:Int)<(s.size:Int))=false) (at1:Int) (cc:Nat) (hp:pAns (n % 4) s = .error (at1,cc)) (w:World) (h:Env w) :
  Calls Tryz.prog 4 #[.string s,.int .u8 (n:Int)] w fun e w'=>e = .returned (.bool true)∧Below w.heap.size w w':=by
 have hj:n % 4<4:=Nat.mod_lt _ (by decide)
 have hm:((n:Int)).tmod 4=((n % 4:Nat):Int):=by rw[Int.tmod_eq_emod_of_nonneg (by omega)];omega
 have hm2:((n:Int)) % 4=((n % 4:Nat):Int):=by omega
 have HN:=jD hn;have HJ:=jD hj
 have HC:=jD (fun(W:World) (X:World) (hB:Below W.heap.size W X) (hE:Env W)=>hE.part hB s n hn)
 have HR:=jD (fun W=>refRead_any (n % 4) hj s W)
 generalize hjn:n % 4=j at *
 have w64':wrap64 (j:Int)=(j:Int):=(jiU _ (by omega) (by omega)).2
 clear hn hj hjn
 have HE:=jD h;have HP:=jD hp;clear h hp
 go_enter Tryz.func4,Tryz.ntmps4
 go_wp2_with (go_at_call 10;refine(jmK HP.out (HC.out _ _ (Below.refl _ _) HE.out)).mono ?_;rintro e w1 ⟨rfl,hb⟩;refine Hid.out ?_)
 have hA:Below w1.heap.size w1 (w1.alloc jZ):=(Below.refl _ _).alloc (Nat.le_refl _) _
 have B1:=jD (Below.chain (Below.refl _ _) (Below.chain hb hA))
 have X1_1:=jD (Bx5.new w1 (.int .i64 0) (.int .i64 0) (.string ⟨#[]⟩) (.int .i64 0) (.slice none 0 0))
 clear hA hb
 refine jD ?_
 go_wp2_with (go_at_call 11;refine(jmK HP.out (HR.out _)).mono ?_;rintro e w2 ⟨rfl,hb⟩;refine Hid.out ?_)
 have hA:Below w2.heap.size w2 (w2.alloc jZ):=(Below.refl _ _).alloc (Nat.le_refl _) _
 have B2:=jD (Below.chain B1.out (Below.chain hb hA))
 have X1_2:=jD (X1_1.out.below (Below.chain hb hA))
 clear X1_1
 have X2_2:=jD (Bx5.new w2 (.int .i64 0) (.int .i64 0) (.string ⟨#[]⟩) (.int .i64 0) (.slice none 0 0))
 clear hA hb
 refine jD ?_
 go_wp2_with (go_at_call 6;refine(HE.out.awake B2.out).mono ?_;rintro e w3 ⟨rfl,hb⟩;refine Hid.out ?_)
 have B3:=jD (Below.chain B2.out hb)
 have X1_3:=jD (X1_2.out.below hb)
 clear X1_2
 have X2_3:=jD (X2_2.out.below hb)
 clear X2_2
 clear hb
 have SZ:synAt 0 w3 (.mk 0 0 ⟨#[]⟩ 0 []) (.agg #[.int .i64 0,.int .i64 0,.string ⟨#[]⟩,.int .i64 0,.slice none 0 0]):=jcd.mpr ⟨_,rfl,.inl ⟨rfl,rfl⟩⟩
 have CS:=jli _ _ 0 0 _ _ w3 SZ SZ
 rw[(jlh _ _).mpr rfl] at CS
 have KS:=jD CS;clear CS SZ
 obtain⟨yX10,yX11,yX12,yX13,yX14,-,lX1⟩:=X1_3.out
 obtain⟨yX20,yX21,yX22,yX23,yX24,-,lX2⟩:=X2_3.out
 refine jD ?_
 go_wp2_with (go_at_call 9;refine(KS.out).mono ?_;rintro e w4 ⟨rfl,hb⟩;refine Hid.out ?_)
 have B4:=jD (Below.chain B3.out hb);clear hb
 refine jD ?_
 go_wp2
 go_ret
 exact⟨rfl,B4.out⟩
theorem lparts_walk (s:ByteArray) (n:Nat) (hn:n<256) (w:World) (h:Env w) :
  Calls Tryz.prog 4 #[.string s,.int .u8 (n:Int)] w fun e w'=>e = .returned (.bool true)∧Below w.heap.size w w':=by
 cases g1:decide ((1500:Int)<(s.size:Int)) with
 |true=>exact lparts_big s n hn g1 w h
 |false=>
  rcases pAns_cases (n % 4) s with ⟨x,hp⟩|⟨a,c,hp⟩
  ·exact lparts_y s n hn g1 x hp w h
  ·exact lparts_n s n hn g1 a c hp w h
end Go.Proofs.YtenmmmdnpglkoaaGreatDoor

