import Derived.Test.YtenmmmdnpglkoaaGreatDoorCut36
set_option linter.unusedSimpArgs false
set_option linter.unusedVariables false
set_option maxRecDepth 100000
set_option maxHeartbeats 8000000
/-
 surveyorref09: equal's loop; equal at all trees; Same, SameAll.
-/
namespace Go.Proofs.YtenmmmdnpglkoaaGreatDoor
open Go Go.Proofs Go.RowKit Go.Sort
theorem jjT (f:Bool) (k a n a':Int) (t:ByteArray) (ks ls:List Syn) (b b2 c cd N lo lo2:Nat) (w:World) (hN1:ks.length=N) (hN2:ls.length=N) (h:(!f || a==a')=true) (S1:SL lo w ks b c) (S2:SL lo2 w ls b2 cd)
  (KC:∀ (i:Nat) (h1:i<ks.length) (h2:i<ls.length) (W:World) (v u:Value),Below w.heap.size w W→synAt lo W ks[i] v→synAt lo2 W ls[i] u→Calls Tryz.prog 17 #[v,u,.bool f] W fun e w'=>e = .returned (.bool (eqS f ks[i] ls[i]))∧Below W.heap.size W w') :
  Calls Tryz.prog 17 #[.agg #[.int .i64 k,.int .i64 a,.string t,.int .i64 n,.slice (some ⟨b,0,none⟩) N c],.agg #[.int .i64 k,.int .i64 a',.string t,.int .i64 n,.slice (some ⟨b2,0,none⟩) N cd],.bool f] w fun e w'=>e = .returned (.bool (eqL f ks ls))∧Below w.heap.size w w':=by
 obtain⟨r,hr⟩:∃ r,eqL f ks ls=r:=⟨_,rfl⟩
 have hall:=jiP (o:=f) ks ls (by omega)
 have hgood:(∀ (i:Nat) (h1:i<ks.length) (h2:i<ls.length),eqS f ks[i] ls[i]=true)→r=true:=fun g=>by rw[←hr];exact hall.2 g
 have hbad:∀ (i:Nat) (h1:i<ks.length) (h2:i<ls.length),eqS f ks[i] ls[i]=false→r=false:=fun i h1 h2 e=>by
  cases hq:r with
  |false=>rfl
  |true=>rw[hq] at hr;rw[hall.1 hr i h1 h2] at e;cases e
 have hA:Below w.heap.size w ((w.alloc (Obj.cells #[.int .i64 k,.int .i64 a,.string t,.int .i64 n,.slice (some ⟨b,0,none⟩) N c] 25)).alloc (Obj.cells #[.int .i64 k,.int .i64 a',.string t,.int .i64 n,.slice (some ⟨b2,0,none⟩) N cd] 25)):=(jN _).alloc (by simp) _
 have x1:=(Bx5.new w (.int .i64 k) (.int .i64 a) (.string t) (.int .i64 n) (.slice (some ⟨b,0,none⟩) N c)).below (jN (Obj.cells #[.int .i64 k,.int .i64 a',.string t,.int .i64 n,.slice (some ⟨b2,0,none⟩) N cd] 25))
 have x2:=Bx5.new (w.alloc (Obj.cells #[.int .i64 k,.int .i64 a,.string t,.int .i64 n,.slice (some ⟨b,0,none⟩) N c] 25)) (.int .i64 k) (.int .i64 a') (.string t) (.int .i64 n) (.slice (some ⟨b2,0,none⟩) N cd)
 have hz:(w.alloc (Obj.cells #[.int .i64 k,.int .i64 a,.string t,.int .i64 n,.slice (some ⟨b,0,none⟩) N c] 25)).heap.size=w.heap.size+1:=by simp
 rw[hz] at x2
 have hNN:N≤maxLen:=by have:=S1.le;have:=S1.max;omega
 have hNI:N≤9223372036854775807:=hNN
 rw[hr]
 have HA:=jD hA;have X1:=jD x1;have X2:=jD x2;have HS1:=jD S1;have HS2:=jD S2;have HK:=jD KC;have HG:=jD hgood;have HBD:=jD hbad;have HN1:=jD hN1;have HN2:=jD hN2;have HNI:=jD hNI
 obtain⟨p0,p1,p2,p3,p4,-,-⟩:=x1
 obtain⟨r0,r1,r2,r3,r4,-,-⟩:=x2
 have s5:f=true→a=a':=fun q=>by subst q;simpa using h
 clear hr hall hgood hbad hA hz hNN hNI S1 S2 KC hN1 hN2 h
 have main:∀ g:Bool,f=g→Calls Tryz.prog 17 #[.agg #[.int .i64 k,.int .i64 a,.string t,.int .i64 n,.slice (some ⟨b,0,none⟩) N c],.agg #[.int .i64 k,.int .i64 a',.string t,.int .i64 n,.slice (some ⟨b2,0,none⟩) N cd],.bool g] w fun e w'=>e = .returned (.bool r)∧Below w.heap.size w w':=by
  intro g hg
  cases g with
  |false=>
   subst hg
   clear s5
   go_enter Tryz.func17,Tryz.ntmps17
   go_wp2_with fail
   go_loopw [7] (fun iv wr=>∃ j:Nat,j≤N∧iv = .int .i64 (j:Int)∧(∀ (i:Nat) (h1:i<ks.length) (h2:i<ls.length),i<j→eqS false ks[i] ls[i]=true)∧Below ((w.alloc (Obj.cells #[.int .i64 k,.int .i64 a,.string t,.int .i64 n,.slice (some ⟨b,0,none⟩) N c] 25)).alloc (Obj.cells #[.int .i64 k,.int .i64 a',.string t,.int .i64 n,.slice (some ⟨b2,0,none⟩) N cd] 25)).heap.size ((w.alloc (Obj.cells #[.int .i64 k,.int .i64 a,.string t,.int .i64 n,.slice (some ⟨b,0,none⟩) N c] 25)).alloc (Obj.cells #[.int .i64 k,.int .i64 a',.string t,.int .i64 n,.slice (some ⟨b2,0,none⟩) N cd] 25)) wr) (fun iv _=>N-(intOf iv).toNat)
   case atStart=>exact⟨0,Nat.zero_le _,rfl,fun i h1 h2 h=>absurd h (Nat.not_lt_zero _),Below.refl _ _⟩
   case round=>
    obtain⟨j,hj,rfl,hg,hB⟩:=hrel
    have HB:=jD hB
    have Y1:=X1.out.below hB
    have Y2:=(show Bx5 ((w.alloc (Obj.cells #[.int .i64 k,.int .i64 a,.string t,.int .i64 n,.slice (some ⟨b,0,none⟩) N c] 25)).alloc (Obj.cells #[.int .i64 k,.int .i64 a',.string t,.int .i64 n,.slice (some ⟨b2,0,none⟩) N cd] 25)) (w.heap.size+1) _ _ _ _ _ from X2).below hB
    have y1:=Y1.c4;have y2:=Y2.c4
    by_cases hlt:j<N
    ·have h1:j<ks.length:=by rw[HN1.out];exact hlt
     have h2:j<ls.length:=by rw[HN2.out];exact hlt
     have hBw:=Below.chain HA hB
     obtain⟨v0,v1,v2,v3,v4,c0,c1,c2,c3,c4,hx⟩:=jcK ks b 0 j h1 (HS1.out.below hBw).row
     obtain⟨u0,u1,u2,u3,u4,e0,e1,e2,e3,e4,hy⟩:=jcK ls b2 0 j h2 (HS2.out.below hBw).row
     have ej:wrap64 ((j:Int)+1)=(j:Int)+1:=by have q1:=HNI.out;unfold wrap64;omega
     have g0:(0:Int)≤(j:Int):=by omega
     have g1:(j:Int)<(N:Int):=by omega
     have hge:¬ (N:Int)≤(j:Int):=by omega
     have CS:=fun d' os=>Calls.regrown_of (HK.out j h1 h2 _ _ _ (hBw.trans (Below.down (below_regrown wr d' os) hBw.size)) (synAt.keep (From.of_below (below_regrown wr d' os)) (jrr _) _ _ hx) (synAt.keep (From.of_below (below_regrown wr d' os)) (jrr _) _ _ hy))
     have z1:∀ d os,(grow (redrawn wr d) os).cell? ⟨w.heap.size,4,none⟩=some (.slice (some ⟨b,0,none⟩) N c):=fun d os=>cell_regrown y1 d os
     have z2:∀ d os,(grow (redrawn wr d) os).cell? ⟨w.heap.size+1,4,none⟩=some (.slice (some ⟨b2,0,none⟩) N cd):=fun d os=>cell_regrown y2 d os
     rw[Nat.zero_add] at c0 c1 c2 c3 c4 e0 e1 e2 e3 e4
     have m0:=fun d os=>cell_regrown c0 d os
     have m1:=fun d os=>cell_regrown c1 d os
     have m2:=fun d os=>cell_regrown c2 d os
     have m3:=fun d os=>cell_regrown c3 d os
     have m4:=fun d os=>cell_regrown c4 d os
     have o0:=fun d os=>cell_regrown e0 d os
     have o1:=fun d os=>cell_regrown e1 d os
     have o2:=fun d os=>cell_regrown e2 d os
     have o3:=fun d os=>cell_regrown e3 d os
     have o4:=fun d os=>cell_regrown e4 d os
     have KS:=jD CS
     have hbd:=HBD.out j h1 h2
     have hst:eqS false ks[j] ls[j]=true→∀ (i:Nat) (h1:i<ks.length) (h2:i<ls.length),i<j+1→eqS false ks[i] ls[i]=true:=fun e i g1 g2 hi=>by
      rcases Nat.lt_or_ge i j with q|q
      ·exact hg i g1 g2 q
      ·obtain rfl:i=j:=by omega
       exact e
     have HJ:Hid (j+1≤N):=jD hlt
     clear CS hx hy hBw hB hlt hj hg Y1 Y2 c0 c1 c2 c3 c4 e0 e1 e2 e3 e4
     cases hq:eqS false ks[j] ls[j] with
     |false=>
      have HR:=jD (hbd hq)
      rw[hq] at KS
      clear hbd hst hq h1 h2
      go_wp2_with fail
      refine wp_region_quiet_below (by kernel_rfl) (by kernel_rfl) ?_
      quiet_step (fail)
      quiet_step (fail)
      quiet_step (fail)
      quiet_step (fail)
      quiet_step (fail)
      quiet_step (fail)
      quiet_step (fail)
      quiet_step (fail)
      quiet_step (fail)
      quiet_step (fail)
      quiet_step (fail)
      quiet_step (exact KS _ _)
      quiet_step (fail)
      refine wpQuiet_nil ?_
      intro _ hw'
      obtain⟨⟨dq,osq⟩,hw''⟩:=hw'
      subst hw''
      go_wp2
      go_ret
      exact⟨congrArg (fun z=>Ending.returned (.bool z)) HR.out.symm,(Below.chain HA HB).trans (Below.down (below_regrown wr dq osq) (Below.chain HA HB).size)⟩
     |true=>
      have HG2:=jD (hst hq)
      rw[hq] at KS
      clear hbd hst hq h1 h2
      go_wp2_with fail
      refine wp_region_quiet_below (by kernel_rfl) (by kernel_rfl) ?_
      quiet_step (fail)
      quiet_step (fail)
      quiet_step (fail)
      quiet_step (fail)
      quiet_step (fail)
      quiet_step (fail)
      quiet_step (fail)
      quiet_step (fail)
      quiet_step (fail)
      quiet_step (fail)
      quiet_step (fail)
      quiet_step (exact KS _ _)
      quiet_step (fail)
      refine wpQuiet_nil ?_
      intro _ hw'
      obtain⟨⟨dq,osq⟩,hw''⟩:=hw'
      subst hw''
      go_wp2
      go_roundw
      case rel=>exact⟨j+1,HJ.out,(by first|exact congrArg (Value.int .i64) (Int.natCast_add j 1).symm|exact congrArg (Value.int .i64) (ej.trans (Int.natCast_add j 1).symm)),HG2.out,HB.out.trans (Below.down (below_regrown wr dq osq) HB.out.size)⟩
      case measure=>have:=HJ.out;first|(show N-((j:Int)+1).toNat<N-((j:Int)).toNat;omega)|(rw[ej];show N-((j:Int)+1).toNat<N-((j:Int)).toNat;omega)
    ·obtain rfl:j=N:=by omega
     have HR:=jD (HG.out (fun i h1 h2=>hg i h1 h2 (by rw[←HN1.out];exact h1)))
     have hge:¬ (j:Int)<(j:Int):=by omega
     clear hg hB hlt hj Y1 Y2
     go_wp2
     go_ret
     exact⟨congrArg (fun z=>Ending.returned (.bool z)) HR.out.symm,Below.chain HA HB⟩
  |true=>
   subst hg
   obtain rfl:=s5 rfl
   clear s5
   go_enter Tryz.func17,Tryz.ntmps17
   go_wp2_with fail
   go_loopw [7] (fun iv wr=>∃ j:Nat,j≤N∧iv = .int .i64 (j:Int)∧(∀ (i:Nat) (h1:i<ks.length) (h2:i<ls.length),i<j→eqS true ks[i] ls[i]=true)∧Below ((w.alloc (Obj.cells #[.int .i64 k,.int .i64 a,.string t,.int .i64 n,.slice (some ⟨b,0,none⟩) N c] 25)).alloc (Obj.cells #[.int .i64 k,.int .i64 a,.string t,.int .i64 n,.slice (some ⟨b2,0,none⟩) N cd] 25)).heap.size ((w.alloc (Obj.cells #[.int .i64 k,.int .i64 a,.string t,.int .i64 n,.slice (some ⟨b,0,none⟩) N c] 25)).alloc (Obj.cells #[.int .i64 k,.int .i64 a,.string t,.int .i64 n,.slice (some ⟨b2,0,none⟩) N cd] 25)) wr) (fun iv _=>N-(intOf iv).toNat)
   case atStart=>exact⟨0,Nat.zero_le _,rfl,fun i h1 h2 h=>absurd h (Nat.not_lt_zero _),Below.refl _ _⟩
   case round=>
    obtain⟨j,hj,rfl,hg,hB⟩:=hrel
    have HB:=jD hB
    have Y1:=X1.out.below hB
    have Y2:=(show Bx5 ((w.alloc (Obj.cells #[.int .i64 k,.int .i64 a,.string t,.int .i64 n,.slice (some ⟨b,0,none⟩) N c] 25)).alloc (Obj.cells #[.int .i64 k,.int .i64 a,.string t,.int .i64 n,.slice (some ⟨b2,0,none⟩) N cd] 25)) (w.heap.size+1) _ _ _ _ _ from X2).below hB
    have y1:=Y1.c4;have y2:=Y2.c4
    by_cases hlt:j<N
    ·have h1:j<ks.length:=by rw[HN1.out];exact hlt
     have h2:j<ls.length:=by rw[HN2.out];exact hlt
     have hBw:=Below.chain HA hB
     obtain⟨v0,v1,v2,v3,v4,c0,c1,c2,c3,c4,hx⟩:=jcK ks b 0 j h1 (HS1.out.below hBw).row
     obtain⟨u0,u1,u2,u3,u4,e0,e1,e2,e3,e4,hy⟩:=jcK ls b2 0 j h2 (HS2.out.below hBw).row
     have ej:wrap64 ((j:Int)+1)=(j:Int)+1:=by have q1:=HNI.out;unfold wrap64;omega
     have g0:(0:Int)≤(j:Int):=by omega
     have g1:(j:Int)<(N:Int):=by omega
     have hge:¬ (N:Int)≤(j:Int):=by omega
     have CS:=fun d' os=>Calls.regrown_of (HK.out j h1 h2 _ _ _ (hBw.trans (Below.down (below_regrown wr d' os) hBw.size)) (synAt.keep (From.of_below (below_regrown wr d' os)) (jrr _) _ _ hx) (synAt.keep (From.of_below (below_regrown wr d' os)) (jrr _) _ _ hy))
     have z1:∀ d os,(grow (redrawn wr d) os).cell? ⟨w.heap.size,4,none⟩=some (.slice (some ⟨b,0,none⟩) N c):=fun d os=>cell_regrown y1 d os
     have z2:∀ d os,(grow (redrawn wr d) os).cell? ⟨w.heap.size+1,4,none⟩=some (.slice (some ⟨b2,0,none⟩) N cd):=fun d os=>cell_regrown y2 d os
     rw[Nat.zero_add] at c0 c1 c2 c3 c4 e0 e1 e2 e3 e4
     have m0:=fun d os=>cell_regrown c0 d os
     have m1:=fun d os=>cell_regrown c1 d os
     have m2:=fun d os=>cell_regrown c2 d os
     have m3:=fun d os=>cell_regrown c3 d os
     have m4:=fun d os=>cell_regrown c4 d os
     have o0:=fun d os=>cell_regrown e0 d os
     have o1:=fun d os=>cell_regrown e1 d os
     have o2:=fun d os=>cell_regrown e2 d os
     have o3:=fun d os=>cell_regrown e3 d os
     have o4:=fun d os=>cell_regrown e4 d os
     have KS:=jD CS
     have hbd:=HBD.out j h1 h2
     have hst:eqS true ks[j] ls[j]=true→∀ (i:Nat) (h1:i<ks.length) (h2:i<ls.length),i<j+1→eqS true ks[i] ls[i]=true:=fun e i g1 g2 hi=>by
      rcases Nat.lt_or_ge i j with q|q
      ·exact hg i g1 g2 q
      ·obtain rfl:i=j:=by omega
       exact e
     have HJ:Hid (j+1≤N):=jD hlt
     clear CS hx hy hBw hB hlt hj hg Y1 Y2 c0 c1 c2 c3 c4 e0 e1 e2 e3 e4
     cases hq:eqS true ks[j] ls[j] with
     |false=>
      have HR:=jD (hbd hq)
      rw[hq] at KS
      clear hbd hst hq h1 h2
      go_wp2_with fail
      refine wp_region_quiet_below (by kernel_rfl) (by kernel_rfl) ?_
      quiet_step (fail)
      quiet_step (fail)
      quiet_step (fail)
      quiet_step (fail)
      quiet_step (fail)
      quiet_step (fail)
      quiet_step (fail)
      quiet_step (fail)
      quiet_step (fail)
      quiet_step (fail)
      quiet_step (fail)
      quiet_step (exact KS _ _)
      quiet_step (fail)
      refine wpQuiet_nil ?_
      intro _ hw'
      obtain⟨⟨dq,osq⟩,hw''⟩:=hw'
      subst hw''
      go_wp2
      go_ret
      exact⟨congrArg (fun z=>Ending.returned (.bool z)) HR.out.symm,(Below.chain HA HB).trans (Below.down (below_regrown wr dq osq) (Below.chain HA HB).size)⟩
     |true=>
      have HG2:=jD (hst hq)
      rw[hq] at KS
      clear hbd hst hq h1 h2
      go_wp2_with fail
      refine wp_region_quiet_below (by kernel_rfl) (by kernel_rfl) ?_
      quiet_step (fail)
      quiet_step (fail)
      quiet_step (fail)
      quiet_step (fail)
      quiet_step (fail)
      quiet_step (fail)
      quiet_step (fail)
      quiet_step (fail)
      quiet_step (fail)
      quiet_step (fail)
      quiet_step (fail)
      quiet_step (exact KS _ _)
      quiet_step (fail)
      refine wpQuiet_nil ?_
      intro _ hw'
      obtain⟨⟨dq,osq⟩,hw''⟩:=hw'
      subst hw''
      go_wp2
      go_roundw
      case rel=>exact⟨j+1,HJ.out,(by first|exact congrArg (Value.int .i64) (Int.natCast_add j 1).symm|exact congrArg (Value.int .i64) (ej.trans (Int.natCast_add j 1).symm)),HG2.out,HB.out.trans (Below.down (below_regrown wr dq osq) HB.out.size)⟩
      case measure=>have:=HJ.out;first|(show N-((j:Int)+1).toNat<N-((j:Int)).toNat;omega)|(rw[ej];show N-((j:Int)+1).toNat<N-((j:Int)).toNat;omega)
    ·obtain rfl:j=N:=by omega
     have HR:=jD (HG.out (fun i h1 h2=>hg i h1 h2 (by rw[←HN1.out];exact h1)))
     have hge:¬ (j:Int)<(j:Int):=by omega
     clear hg hB hlt hj Y1 Y2
     go_wp2
     go_ret
     exact⟨congrArg (fun z=>Ending.returned (.bool z)) HR.out.symm,Below.chain HA HB⟩
 exact main f rfl
theorem jiQ (f:Bool) (k a n a':Int) (t:ByteArray) (ao bo:Option Addr) (c d:Nat) (w:World) (h:(!f || a==a')=true) :
  Calls Tryz.prog 17 #[.agg #[.int .i64 k,.int .i64 a,.string t,.int .i64 n,.slice ao 0 c],.agg #[.int .i64 k,.int .i64 a',.string t,.int .i64 n,.slice bo 0 d],.bool f] w fun e w'=>e = .returned (.bool true)∧Below w.heap.size w w':=by
 cases f with
 |false=>
  clear h
  have hA:Below w.heap.size w ((w.alloc (jO k a t n ao 0 c)).alloc (jO k a' t n bo 0 d)):=(jN _).alloc (by simp) _
  have x1:=(jn5 w k a t n ao 0 c).below (jN (jO k a' t n bo 0 d))
  have x2:=Bx5.new (w.alloc (jO k a t n ao 0 c)) (.int .i64 k) (.int .i64 a') (.string t) (.int .i64 n) (.slice bo 0 d)
  have hz:(w.alloc (jO k a t n ao 0 c)).heap.size=w.heap.size+1:=by simp
  rw[hz] at x2
  obtain⟨p0,p1,p2,p3,p4,-,-⟩:=x1
  obtain⟨r0,r1,r2,r3,r4,-,-⟩:=x2
  have HA:=jD hA
  clear hA hz
  go_enter Tryz.func17,Tryz.ntmps17
  go_wp2_with fail
  go_loopw [7] (fun iv wr=>iv = .int .i64 0∧wr=((w.alloc (jO k a t n ao 0 c)).alloc (jO k a' t n bo 0 d))) (fun iv _=>0)
  case atStart=>exact⟨rfl,rfl⟩
  case round=>
   obtain⟨rfl,hw⟩:=hrel
   subst hw
   go_wp2
   go_ret
   exact⟨rfl,HA.out⟩
 |true=>
  obtain rfl:a=a':=by simpa using h
  clear h
  have hA:Below w.heap.size w ((w.alloc (jO k a t n ao 0 c)).alloc (jO k a t n bo 0 d)):=(jN _).alloc (by simp) _
  have x1:=(jn5 w k a t n ao 0 c).below (jN (jO k a t n bo 0 d))
  have x2:=Bx5.new (w.alloc (jO k a t n ao 0 c)) (.int .i64 k) (.int .i64 a) (.string t) (.int .i64 n) (.slice bo 0 d)
  have hz:(w.alloc (jO k a t n ao 0 c)).heap.size=w.heap.size+1:=by simp
  rw[hz] at x2
  obtain⟨p0,p1,p2,p3,p4,-,-⟩:=x1
  obtain⟨r0,r1,r2,r3,r4,-,-⟩:=x2
  have HA:=jD hA
  clear hA hz
  go_enter Tryz.func17,Tryz.ntmps17
  go_wp2_with fail
  go_loopw [7] (fun iv wr=>iv = .int .i64 0∧wr=((w.alloc (jO k a t n ao 0 c)).alloc (jO k a t n bo 0 d))) (fun iv _=>0)
  case atStart=>exact⟨rfl,rfl⟩
  case round=>
   obtain⟨rfl,hw⟩:=hrel
   subst hw
   go_wp2
   go_ret
   exact⟨rfl,HA.out⟩
theorem jjU {k a n:Int} {t:ByteArray} {ks:List Syn} {i:Nat} (h:i<ks.length):SizeOf.sizeOf ks[i]<SizeOf.sizeOf (Syn.mk k a t n ks):=by
 have h1:=List.sizeOf_lt_of_mem (List.getElem_mem h)
 simp only[Syn.mk.sizeOf_spec]
 omega
theorem jgm (f:Bool):∀ (N:Nat) (x y:Syn) (lo lo2:Nat) (v u:Value) (w:World),SizeOf.sizeOf x<N→synAt lo w x v→synAt lo2 w y u →
  Calls Tryz.prog 17 #[v,u,.bool f] w fun e w'=>e = .returned (.bool (eqS f x y))∧Below w.heap.size w w'
 |0,_,_,_,_,_,_,_,h,_,_=>by omega
 |N+1,.mk k a t n ks,.mk k' a' t' n' ls,lo,lo2,v,u,w,hN,hx,hy=>by
  obtain⟨kv,rfl,hk⟩:=jcd.mp hx
  obtain⟨lv,rfl,hl⟩:=jcd.mp hy
  have KC:∀ (i:Nat) (h1:i<ks.length) (h2:i<ls.length) (W:World) (v u:Value),Below w.heap.size w W→synAt lo W ks[i] v→synAt lo2 W ls[i] u→Calls Tryz.prog 17 #[v,u,.bool f] W fun e w'=>e = .returned (.bool (eqS f ks[i] ls[i]))∧Below W.heap.size W w':=
   fun i h1 h2 W v u hb g1 g2=>jgm f N _ _ lo lo2 v u W (by have:=jjU (k:=k) (a:=a) (n:=n) (t:=t) h1;omega) g1 g2
  have he:eqS f (.mk k a t n ks) (.mk k' a' t' n' ls)=(((k==k') && ((t==t') && ((n==n') && ((ks.length==ls.length) && (!f || a==a'))))) && eqL f ks ls):=by
   rw[eqS]
   simp only[Bool.and_assoc]
  rw[he]
  have hsl:∃ ao c,kv = .slice ao ks.length c:=by
   rcases hk with ⟨h1,rfl⟩|⟨b,c,rfl,-⟩
   ·exact⟨none,0,by rw[h1]⟩
   ·exact⟨_,c,rfl⟩
  have hsm:∃ bo d,lv = .slice bo ls.length d:=by
   rcases hl with ⟨h1,rfl⟩|⟨b,c,rfl,-⟩
   ·exact⟨none,0,by rw[h1]⟩
   ·exact⟨_,c,rfl⟩
  obtain⟨ao,c,rfl⟩:=hsl
  obtain⟨bo,d,rfl⟩:=hsm
  cases hp:((k==k') && ((t==t') && ((n==n') && ((ks.length==ls.length) && (!f || a==a'))))) with
  |false=>exact jjS f k a n k' a' n' t t' ao bo ks.length c ls.length d w hp
  |true=>
   rw[Bool.true_and]
   simp only[Bool.and_eq_true] at hp
   obtain⟨q1,q2,q3,q4,q5⟩:=hp
   obtain rfl:k=k':=beq_iff_eq.1 q1
   obtain rfl:t=t':=(jiN t t').1 q2
   obtain rfl:n=n':=beq_iff_eq.1 q3
   have hlen:ks.length=ls.length:=beq_iff_eq.1 q4
   cases ks with
   |nil=>
    have hls:ls=[]:=List.length_eq_zero_iff.1 hlen.symm
    subst hls
    rw[jgU]
    exact jiQ f k a n a' t ao bo c d w q5
   |cons x r=>
    cases ls with
    |nil=>cases hlen
    |cons y s=>
     obtain⟨b,c2,e1,s1⟩:=jbM hk
     obtain⟨b2,d2,e2,s2⟩:=jbM hl
     rw[e1,e2]
     have hsr:s.length=r.length:=by simpa using hlen.symm
     rw[hsr]
     exact jjT f k a n a' t (x::r) (y::s) b b2 c2 d2 (r.length+1) lo lo2 w rfl (by simp[hsr]) q5 s1 s2 KC
theorem jli (x y:Syn) (lo lo2:Nat) (v u:Value) (w:World) (hx:synAt lo w x v) (hy:synAt lo2 w y u) :
  Calls Tryz.prog 9 #[v,u] w fun e w'=>e = .returned (.bool (eqS true x y))∧Below w.heap.size w w':=by
 obtain⟨k,a,t,n,ao,l,c,ks,rfl,rfl,-⟩:=hx.shape
 obtain⟨k',a',t',n',bo,m,d,ls,rfl,rfl,-⟩:=hy.shape
 have hA:Below w.heap.size w ((w.alloc (jO k a t n ao l c)).alloc (jO k' a' t' n' bo m d)):=(jN _).alloc (by simp) _
 have x1:=(jn5 w k a t n ao l c).below (jN (jO k' a' t' n' bo m d))
 have x2:=Bx5.new (w.alloc (jO k a t n ao l c)) (.int .i64 k') (.int .i64 a') (.string t') (.int .i64 n') (.slice bo m d)
 have hz:(w.alloc (jO k a t n ao l c)).heap.size=w.heap.size+1:=by simp
 rw[hz] at x2
 obtain⟨p0,p1,p2,p3,p4,-,-⟩:=x1
 obtain⟨r0,r1,r2,r3,r4,-,-⟩:=x2
 have CS:=jgm true _ _ _ lo lo2 _ _ ((w.alloc (jO k a t n ao l c)).alloc (jO k' a' t' n' bo m d)) (Nat.lt_succ_self _) (synAt.keep (From.of_below hA) (jrr _) _ _ hx) (synAt.keep (From.of_below hA) (jrr _) _ _ hy)
 have HA:=jD hA;have KS:=jD CS
 clear hA hz CS hx hy
 go_enter Tryz.func9,Tryz.ntmps9
 go_wp2_with (go_at_call 17;refine cM (KS.out) ?_;rintro e w3 ⟨rfl,hb⟩)
 have HB:=jD (Below.chain HA hb)
 clear hb
 refine jD ?_
 go_wp2
 go_ret
 exact⟨rfl,HB.out⟩
theorem jlW (s:ByteArray) (n:Nat) (hn:n<256) (hj:n % 4=0) (w:World) (ht:Lib.TabBelow Tryz.prog w.heap.size w "surveyor/lexer.classes" .u8 jaH) (hev:EvAt w):Calls Tryz.prog 10 #[.string s,.int .u8 (n:Int)] w (Ans 0 s w):=by
 have hA:Below w.heap.size w (w.alloc jZ):=jN _
 have CS:=jh8 s (w.alloc jZ) (fun W hW=>ht W (Below.chain hA hW)) (hev.below hA)
 have hX:=Bx5.new w (.int .i64 0) (.int .i64 0) (.string ⟨#[]⟩) (.int .i64 0) (.slice none 0 0)
 have hz:(w.alloc jZ).heap.size=w.heap.size+1:=by simp
 have hm:((n:Int)).tmod 4=0:=by
  have:((n:Int)).tmod 4=((n % 4:Nat):Int):=by rw[Int.tmod_eq_emod_of_nonneg (by omega)];omega
  rw[this,hj];rfl
 have KS:=jD CS;have HA:=jD hA;have HX:=jD hX;have HZ:=jD hz
 clear CS hA hX ht hev hz hj
 go_enter Tryz.func10,Tryz.ntmps10
 go_wp2_with (go_at_call 7;refine cM (KS.out) ?_;rintro e w2 ⟨k4,a4,t4,n4,o4,l4,c4,a,c,rfl,hb2,hx⟩)
 obtain⟨y0,y1,y2,y3,y4,yf,yl⟩:=HX.out.below hb2
 have f0:=yf 0;have f1:=yf 1;have f2:=yf 2;have f3:=yf 3;have f4:=yf 4
 obtain⟨r0,r1,r2,r3,r4⟩:=box5 y0 y1 y2 y3 y4 (.int .i64 k4) (.int .i64 a4) (.string t4) (.int .i64 n4) (.slice o4 l4 c4) _ rfl
 have hlo:w.heap.size<(w.alloc jZ).heap.size:=by rw[HZ.out];exact Nat.lt_succ_self _
 have HB:=jD (jaC (Below.chain HA hb2) (jrr _) (.int .i64 k4) (.int .i64 a4) (.string t4) (.int .i64 n4) (.slice o4 l4 c4))
 have fr:From (w.alloc jZ).heap.size w2 _:=(((((From.refl (w.alloc jZ).heap.size w2).setCell ⟨w.heap.size,0,none⟩ hlo (.int .i64 k4)).setCell ⟨w.heap.size,1,none⟩ hlo (.int .i64 a4)).setCell ⟨w.heap.size,2,none⟩ hlo (.string t4)).setCell ⟨w.heap.size,3,none⟩ hlo (.int .i64 n4)).setCell ⟨w.heap.size,4,none⟩ hlo (.slice o4 l4 c4)
 have GX:=jD (hx.keep fr (Nat.le_of_lt hlo))
 clear hb2 hx yf yl fr hlo hm
 refine jD ?_
 go_wp2
 refine bodyPost_ret (by simp[results,Tryz.results10,go_sem,r0,r1,r2,r3,r4];rfl) rfl ?_
 exact⟨_,_,_,_,_,_,_,_,_,rfl,HB.out,GX.out⟩
theorem jlX (s:ByteArray) (n:Nat) (hn:n<256) (hj:n % 4=1) (w:World) (ht:Lib.TabBelow Tryz.prog w.heap.size w "surveyor/lexer.classes" .u8 jaH) (hev:EvAt w):Calls Tryz.prog 10 #[.string s,.int .u8 (n:Int)] w (Ans 1 s w):=by
 have hA:Below w.heap.size w (w.alloc jZ):=jN _
 have CS:=jlU s (w.alloc jZ) (fun W hW=>ht W (Below.chain hA hW)) (hev.below hA)
 have hX:=Bx5.new w (.int .i64 0) (.int .i64 0) (.string ⟨#[]⟩) (.int .i64 0) (.slice none 0 0)
 have hz:(w.alloc jZ).heap.size=w.heap.size+1:=by simp
 have hm:((n:Int)).tmod 4=1:=by
  have:((n:Int)).tmod 4=((n % 4:Nat):Int):=by rw[Int.tmod_eq_emod_of_nonneg (by omega)];omega
  rw[this,hj];rfl
 have KS:=jD CS;have HA:=jD hA;have HX:=jD hX;have HZ:=jD hz
 clear CS hA hX ht hev hz hj
 go_enter Tryz.func10,Tryz.ntmps10
 go_wp2_with (go_at_call 18;refine cM (KS.out) ?_;rintro e w2 ⟨k4,a4,t4,n4,o4,l4,c4,a,c,rfl,hb2,hx⟩)
 obtain⟨y0,y1,y2,y3,y4,yf,yl⟩:=HX.out.below hb2
 have f0:=yf 0;have f1:=yf 1;have f2:=yf 2;have f3:=yf 3;have f4:=yf 4
 obtain⟨r0,r1,r2,r3,r4⟩:=box5 y0 y1 y2 y3 y4 (.int .i64 k4) (.int .i64 a4) (.string t4) (.int .i64 n4) (.slice o4 l4 c4) _ rfl
 have hlo:w.heap.size<(w.alloc jZ).heap.size:=by rw[HZ.out];exact Nat.lt_succ_self _
 have HB:=jD (jaC (Below.chain HA hb2) (jrr _) (.int .i64 k4) (.int .i64 a4) (.string t4) (.int .i64 n4) (.slice o4 l4 c4))
 have fr:From (w.alloc jZ).heap.size w2 _:=(((((From.refl (w.alloc jZ).heap.size w2).setCell ⟨w.heap.size,0,none⟩ hlo (.int .i64 k4)).setCell ⟨w.heap.size,1,none⟩ hlo (.int .i64 a4)).setCell ⟨w.heap.size,2,none⟩ hlo (.string t4)).setCell ⟨w.heap.size,3,none⟩ hlo (.int .i64 n4)).setCell ⟨w.heap.size,4,none⟩ hlo (.slice o4 l4 c4)
 have GX:=jD (hx.keep fr (Nat.le_of_lt hlo))
 clear hb2 hx yf yl fr hlo hm
 refine jD ?_
 go_wp2
 refine bodyPost_ret (by simp[results,Tryz.results10,go_sem,r0,r1,r2,r3,r4];rfl) rfl ?_
 exact⟨_,_,_,_,_,_,_,_,_,rfl,HB.out,GX.out⟩
theorem jlY (s:ByteArray) (n:Nat) (hn:n<256) (hj:n % 4=2) (w:World) (ht:Lib.TabBelow Tryz.prog w.heap.size w "surveyor/lexer.classes" .u8 jaH) (hev:EvAt w):Calls Tryz.prog 10 #[.string s,.int .u8 (n:Int)] w (Ans 2 s w):=by
 have hA:Below w.heap.size w (w.alloc jZ):=jN _
 have CS:=jjR s (w.alloc jZ) (fun W hW=>ht W (Below.chain hA hW)) (hev.below hA)
 have hX:=Bx5.new w (.int .i64 0) (.int .i64 0) (.string ⟨#[]⟩) (.int .i64 0) (.slice none 0 0)
 have hz:(w.alloc jZ).heap.size=w.heap.size+1:=by simp
 have hm:((n:Int)).tmod 4=2:=by
  have:((n:Int)).tmod 4=((n % 4:Nat):Int):=by rw[Int.tmod_eq_emod_of_nonneg (by omega)];omega
  rw[this,hj];rfl
 have KS:=jD CS;have HA:=jD hA;have HX:=jD hX;have HZ:=jD hz
 clear CS hA hX ht hev hz hj
 go_enter Tryz.func10,Tryz.ntmps10
 go_wp2_with (go_at_call 13;refine cM (KS.out) ?_;rintro e w2 ⟨k4,a4,t4,n4,o4,l4,c4,a,c,rfl,hb2,hx⟩)
 obtain⟨y0,y1,y2,y3,y4,yf,yl⟩:=HX.out.below hb2
 have f0:=yf 0;have f1:=yf 1;have f2:=yf 2;have f3:=yf 3;have f4:=yf 4
 obtain⟨r0,r1,r2,r3,r4⟩:=box5 y0 y1 y2 y3 y4 (.int .i64 k4) (.int .i64 a4) (.string t4) (.int .i64 n4) (.slice o4 l4 c4) _ rfl
 have hlo:w.heap.size<(w.alloc jZ).heap.size:=by rw[HZ.out];exact Nat.lt_succ_self _
 have HB:=jD (jaC (Below.chain HA hb2) (jrr _) (.int .i64 k4) (.int .i64 a4) (.string t4) (.int .i64 n4) (.slice o4 l4 c4))
 have fr:From (w.alloc jZ).heap.size w2 _:=(((((From.refl (w.alloc jZ).heap.size w2).setCell ⟨w.heap.size,0,none⟩ hlo (.int .i64 k4)).setCell ⟨w.heap.size,1,none⟩ hlo (.int .i64 a4)).setCell ⟨w.heap.size,2,none⟩ hlo (.string t4)).setCell ⟨w.heap.size,3,none⟩ hlo (.int .i64 n4)).setCell ⟨w.heap.size,4,none⟩ hlo (.slice o4 l4 c4)
 have GX:=jD (hx.keep fr (Nat.le_of_lt hlo))
 clear hb2 hx yf yl fr hlo hm
 refine jD ?_
 go_wp2
 refine bodyPost_ret (by simp[results,Tryz.results10,go_sem,r0,r1,r2,r3,r4];rfl) rfl ?_
 exact⟨_,_,_,_,_,_,_,_,_,rfl,HB.out,GX.out⟩
theorem jlZ (s:ByteArray) (n:Nat) (hn:n<256) (hj:n % 4=3) (w:World) (ht:Lib.TabBelow Tryz.prog w.heap.size w "surveyor/lexer.classes" .u8 jaH) (hev:EvAt w):Calls Tryz.prog 10 #[.string s,.int .u8 (n:Int)] w (Ans 3 s w):=by
 have hA:Below w.heap.size w (w.alloc jZ):=jN _
 have CS:=jlV s (w.alloc jZ) (fun W hW=>ht W (Below.chain hA hW)) (hev.below hA)
 have hX:=Bx5.new w (.int .i64 0) (.int .i64 0) (.string ⟨#[]⟩) (.int .i64 0) (.slice none 0 0)
 have hz:(w.alloc jZ).heap.size=w.heap.size+1:=by simp
 have hm:((n:Int)).tmod 4=3:=by
  have:((n:Int)).tmod 4=((n % 4:Nat):Int):=by rw[Int.tmod_eq_emod_of_nonneg (by omega)];omega
  rw[this,hj];rfl
 have KS:=jD CS;have HA:=jD hA;have HX:=jD hX;have HZ:=jD hz
 clear CS hA hX ht hev hz hj
 go_enter Tryz.func10,Tryz.ntmps10
 go_wp2_with (go_at_call 14;refine cM (KS.out) ?_;rintro e w2 ⟨k4,a4,t4,n4,o4,l4,c4,a,c,rfl,hb2,hx⟩)
 obtain⟨y0,y1,y2,y3,y4,yf,yl⟩:=HX.out.below hb2
 have f0:=yf 0;have f1:=yf 1;have f2:=yf 2;have f3:=yf 3;have f4:=yf 4
 obtain⟨r0,r1,r2,r3,r4⟩:=box5 y0 y1 y2 y3 y4 (.int .i64 k4) (.int .i64 a4) (.string t4) (.int .i64 n4) (.slice o4 l4 c4) _ rfl
 have hlo:w.heap.size<(w.alloc jZ).heap.size:=by rw[HZ.out];exact Nat.lt_succ_self _
 have HB:=jD (jaC (Below.chain HA hb2) (jrr _) (.int .i64 k4) (.int .i64 a4) (.string t4) (.int .i64 n4) (.slice o4 l4 c4))
 have fr:From (w.alloc jZ).heap.size w2 _:=(((((From.refl (w.alloc jZ).heap.size w2).setCell ⟨w.heap.size,0,none⟩ hlo (.int .i64 k4)).setCell ⟨w.heap.size,1,none⟩ hlo (.int .i64 a4)).setCell ⟨w.heap.size,2,none⟩ hlo (.string t4)).setCell ⟨w.heap.size,3,none⟩ hlo (.int .i64 n4)).setCell ⟨w.heap.size,4,none⟩ hlo (.slice o4 l4 c4)
 have GX:=jD (hx.keep fr (Nat.le_of_lt hlo))
 clear hb2 hx yf yl fr hlo hm
 refine jD ?_
 go_wp2
 refine bodyPost_ret (by simp[results,Tryz.results10,go_sem,r0,r1,r2,r3,r4];rfl) rfl ?_
 exact⟨_,_,_,_,_,_,_,_,_,rfl,HB.out,GX.out⟩
theorem jjV (s:ByteArray) (n:Nat) (hn:n<256) (w:World) (ht:Lib.TabBelow Tryz.prog w.heap.size w "surveyor/lexer.classes" .u8 jaH) (hev:EvAt w):Calls Tryz.prog 10 #[.string s,.int .u8 (n:Int)] w (Ans (n % 4) s w):=by
 have h4:n % 4<4:=Nat.mod_lt _ (by decide)
 rcases(show n % 4=0∨n % 4=1∨n % 4=2∨n % 4=3 by omega) with h|h|h|h
 ·rw[h];exact jlW s n hn h w ht hev
 ·rw[h];exact jlX s n hn h w ht hev
 ·rw[h];exact jlY s n hn h w ht hev
 ·rw[h];exact jlZ s n hn h w ht hev
end Go.Proofs.YtenmmmdnpglkoaaGreatDoor

namespace Go.Proofs.YtenmmmdnpglkoaaGreatDoor
open Go Go.Proofs Go.RowKit
theorem jcR:∀ l:List Tk,pTl l <:+ l
 | []=>List.suffix_refl _
 | [t]=>List.suffix_refl _
 |t::u::l=>⟨[t],rfl⟩
def Suf {α : Type} (f:Nat) (m:Rd α):Prop:=∀ l x l',m f l = .ok (x,l')→l' <:+ l
section
variable {α β : Type} {f:Nat}
theorem Suf.bind {m:Rd α} {k:α→Rd β} (h:Suf f m) (g:∀ x,Suf f (k x)):Suf f (jae m k):=by
 intro l y l' e
 obtain⟨⟨x,l1⟩,e1,e2⟩:=jar e
 exact List.IsSuffix.trans (g x l1 y l' e2) (h l x l1 e1)
theorem Suf.ite {c:Prop} [Decidable c] {m k:Rd α} (h:Suf f m) (g:Suf f k):Suf f (if c then m else k):=by split<;>assumption
theorem Suf.ret {x:α}:Suf f (mRet x):=by intro l y l' e;cases e;exact List.suffix_refl _
theorem Suf.peek:Suf f jbm:=by intro l y l' e;cases e;exact List.suffix_refl _
theorem Suf.take:Suf f jbg:=by intro l y l' e;cases e;exact jcR _
theorem Suf.is {s:List UInt8}:Suf f (mIs s):=by intro l y l' e;cases e;exact List.suffix_refl _
theorem Suf.next:Suf f jbV:=by intro l y l' e;cases e;exact List.suffix_refl _
theorem Suf.named:Suf f jbe:=by intro l y l' e;cases e;exact List.suffix_refl _
theorem Suf.name:Suf f jbd:=by
 intro l y l' e
 unfold jbd jaW at e
 split at e
 ·cases e;exact jcR _
 ·cases e
theorem Suf.need {s:List UInt8}:Suf f (jaA s):=by
 intro l y l' e
 unfold jaA at e
 split at e
 ·cases e;exact jcR _
 ·cases e
theorem Suf.enter {s:List UInt8} {d:Nat}:Suf f (jaF s d):=by
 intro l y l' e
 unfold jaF at e
 split at e
 ·split at e
  ·cases e
  ·cases e;exact jcR _
 ·cases e
theorem Suf.num:Suf f mNum:=by
 intro l y l' e
 unfold mNum at e
 split at e
 ·split at e
  ·cases e
  ·cases e;exact jcR _
 ·cases e
theorem Suf.of {m k:Rd α} (h:Suf f m) (e:∀ l,k f l=m f l):Suf f k:=fun l x l' g=>h l x l' ((e l).symm.trans g)
end
theorem Suf.before {f d:Nat} {s:List UInt8} {w:Want} (h:Suf f (jal (.list w) d)):Suf f (jaB s w d):=by
 intro l y l' e
 unfold jaB at e
 split at e
 ·cases e;exact List.suffix_refl _
 ·exact h l y l' e
theorem jjZ (f:Nat):∀ (w:Want) (d:Nat),Suf f (jal w d):=by
 induction f with
 |zero=>intro w d l x l' e;unfold jal at e;rw[jaf] at e;cases e
 |succ f ih=>
  have H:∀ w d l x l',jaf f w d l = .ok (x,l')→l' <:+ l:=fun w d l x l' e=>ih w d l x l' e
  have hN:∀ l t l',jaW l = .ok (t,l')→l' <:+ l:=fun l t l' e=>Suf.name (f:=f) l t l' e
  have hD:∀ s l l',jaQ s l = .ok l'→l' <:+ l:=fun s l l' e=>by
   unfold jaQ at e
   split at e
   ·cases e;exact jcR _
   ·cases e
  have hT:=jcR
  intro w d
  cases w with
  |lvl i=>
   intro l x l' e
   unfold jal at e
   rw[jaf] at e
   split at e
   ·split at e
    ·split at e
     ·cases e
     ·obtain⟨⟨y,l1⟩,e1,e2⟩:=jar e
      cases e2
      exact List.IsSuffix.trans (H _ _ _ _ _ e1) (hT l)
    ·exact H _ _ _ _ _ e
   ·split at e
    ·obtain⟨⟨y,l1⟩,e1,e2⟩:=jar e
     have g1:=H _ _ _ _ _ e1
     dsimp only at e2
     split at e2
     ·obtain⟨⟨z,l2⟩,e3,e4⟩:=jar e2
      cases e4
      exact List.IsSuffix.trans (H _ _ _ _ _ e3) (List.IsSuffix.trans (hT l1) g1)
     ·cases e2;exact g1
    ·split at e
     ·split at e
      ·cases e;exact hT l
      ·split at e
       ·cases e;exact hT l
       ·split at e
        ·split at e
         ·cases e
         ·obtain⟨⟨y,l1⟩,e1,e2⟩:=jar e
          obtain⟨l2,e3,e4⟩:=jar e2
          cases e4
          exact List.IsSuffix.trans (hD _ _ _ e3) (List.IsSuffix.trans (H _ _ _ _ _ e1) (hT l))
        ·exact H _ _ _ _ _ e
     ·obtain⟨⟨y,l1⟩,e1,e2⟩:=jar e
      exact List.IsSuffix.trans (H _ _ _ _ _ e2) (H _ _ _ _ _ e1)
  |rep i a x0=>
   intro l x l' e
   unfold jal at e
   rw[jaf] at e
   split at e
   ·obtain⟨⟨y,l1⟩,e1,e2⟩:=jar e
    exact List.IsSuffix.trans (H _ _ _ _ _ e2) (List.IsSuffix.trans (H _ _ _ _ _ e1) (hT l))
   ·cases e;exact List.suffix_refl _
  |bare=>
   intro l x l' e
   unfold jal at e
   rw[jaf] at e
   obtain⟨⟨t,l1⟩,e1,e2⟩:=jar e
   cases e2;exact hN _ _ _ e1
  |place=>
   intro l x l' e
   unfold jal at e
   rw[jaf] at e
   obtain⟨⟨t,l1⟩,e1,e2⟩:=jar e
   have g1:=hN _ _ _ e1
   dsimp only at e2
   split at e2
   ·obtain⟨⟨z,l2⟩,e3,e4⟩:=jar e2
    cases e4
    exact List.IsSuffix.trans (H _ _ _ _ _ e3) (List.IsSuffix.trans (hT l1) g1)
   ·cases e2;exact g1
  |param=>
   intro l x l' e
   unfold jal at e
   rw[jaf] at e
   obtain⟨⟨t,l1⟩,e1,e2⟩:=jar e
   have g1:=hN _ _ _ e1
   dsimp only at e2
   split at e2
   ·obtain⟨⟨z,l2⟩,e3,e4⟩:=jar e2
    cases e4
    exact List.IsSuffix.trans (H _ _ _ _ _ e3) (List.IsSuffix.trans (hT l1) g1)
   ·cases e2;exact g1
  |list w=>
   intro l x l' e
   unfold jal at e
   rw[jaf] at e
   obtain⟨⟨t,l1⟩,e1,e2⟩:=jar e
   have g1:=H _ _ _ _ _ e1
   dsimp only at e2
   split at e2
   ·obtain⟨⟨z,l2⟩,e3,e4⟩:=jar e2
    cases e4
    exact List.IsSuffix.trans (H _ _ _ _ _ e3) (List.IsSuffix.trans (hT l1) g1)
   ·cases e2;exact g1
  |cond=>
   intro l x l' e
   unfold jal at e
   rw[jaf] at e
   exact H _ _ _ _ _ e
  |load=>
   intro l x l' e
   unfold jal at e
   rw[jdU] at e
   revert l x l'
   show Suf f (jgv d)
   unfold jgv
   repeat' (first|exact Suf.take|exact Suf.peek|exact Suf.is|exact Suf.next|exact Suf.named|exact Suf.name|exact Suf.need|exact Suf.enter|exact Suf.num|exact Suf.ret|exact ih _ _|exact Suf.before (ih _ _)|(refine Suf.bind ?_ (fun _=>?_))|(refine Suf.ite ?_ ?_)|(unfold jaK)|(unfold ja2)|(unfold ja3)|(unfold jay)|(unfold jba)|(unfold ja9)|(unfold jaY)|(unfold jaD)|(unfold jaz)|(unfold jao)|(unfold jaN))
  |call=>
   intro l x l' e
   unfold jal at e
   rw[jdt] at e
   revert l x l'
   show Suf f (jfM d)
   unfold jfM
   repeat' (first|exact Suf.take|exact Suf.peek|exact Suf.is|exact Suf.next|exact Suf.named|exact Suf.name|exact Suf.need|exact Suf.enter|exact Suf.num|exact Suf.ret|exact ih _ _|exact Suf.before (ih _ _)|(refine Suf.bind ?_ (fun _=>?_))|(refine Suf.ite ?_ ?_)|(unfold jaK)|(unfold ja2)|(unfold ja3)|(unfold jay)|(unfold jba)|(unfold ja9)|(unfold jaY)|(unfold jaD)|(unfold jaz)|(unfold jao)|(unfold jaN))
  |right=>
   intro l x l' e
   unfold jal at e
   rw[jdH] at e
   revert l x l'
   show Suf f (jeb d)
   unfold jeb
   repeat' (first|exact Suf.take|exact Suf.peek|exact Suf.is|exact Suf.next|exact Suf.named|exact Suf.name|exact Suf.need|exact Suf.enter|exact Suf.num|exact Suf.ret|exact ih _ _|exact Suf.before (ih _ _)|(refine Suf.bind ?_ (fun _=>?_))|(refine Suf.ite ?_ ?_)|(unfold jaK)|(unfold ja2)|(unfold ja3)|(unfold jay)|(unfold jba)|(unfold ja9)|(unfold jaY)|(unfold jaD)|(unfold jaz)|(unfold jao)|(unfold jaN))
  |block=>
   intro l x l' e
   unfold jal at e
   rw[jdb] at e
   revert l x l'
   show Suf f (jdG d)
   unfold jdG
   repeat' (first|exact Suf.take|exact Suf.peek|exact Suf.is|exact Suf.next|exact Suf.named|exact Suf.name|exact Suf.need|exact Suf.enter|exact Suf.num|exact Suf.ret|exact ih _ _|exact Suf.before (ih _ _)|(refine Suf.bind ?_ (fun _=>?_))|(refine Suf.ite ?_ ?_)|(unfold jaK)|(unfold ja2)|(unfold ja3)|(unfold jay)|(unfold jba)|(unfold ja9)|(unfold jaY)|(unfold jaD)|(unfold jaz)|(unfold jao)|(unfold jaN))
  |chain a=>
   intro l x l' e
   unfold jal at e
   rw[jdI] at e
   revert l x l'
   show Suf f (jec a d)
   unfold jec
   repeat' (first|exact Suf.take|exact Suf.peek|exact Suf.is|exact Suf.next|exact Suf.named|exact Suf.name|exact Suf.need|exact Suf.enter|exact Suf.num|exact Suf.ret|exact ih _ _|exact Suf.before (ih _ _)|(refine Suf.bind ?_ (fun _=>?_))|(refine Suf.ite ?_ ?_)|(unfold jaK)|(unfold ja2)|(unfold ja3)|(unfold jay)|(unfold jba)|(unfold ja9)|(unfold jaY)|(unfold jaD)|(unfold jaz)|(unfold jao)|(unfold jaN))
  |stmts=>
   intro l x l' e
   unfold jal at e
   rw[jcG] at e
   revert l x l'
   show Suf f (jdk d)
   unfold jdk
   repeat' (first|exact Suf.take|exact Suf.peek|exact Suf.is|exact Suf.next|exact Suf.named|exact Suf.name|exact Suf.need|exact Suf.enter|exact Suf.num|exact Suf.ret|exact ih _ _|exact Suf.before (ih _ _)|(refine Suf.bind ?_ (fun _=>?_))|(refine Suf.ite ?_ ?_)|(unfold jaK)|(unfold ja2)|(unfold ja3)|(unfold jay)|(unfold jba)|(unfold ja9)|(unfold jaY)|(unfold jaD)|(unfold jaz)|(unfold jao)|(unfold jaN))
  |stmt=>
   intro l x l' e
   unfold jal at e
   rw[jdV] at e
   revert l x l'
   show Suf f (jfd d)
   unfold jfd
   repeat' (first|exact Suf.take|exact Suf.peek|exact Suf.is|exact Suf.next|exact Suf.named|exact Suf.name|exact Suf.need|exact Suf.enter|exact Suf.num|exact Suf.ret|exact ih _ _|exact Suf.before (ih _ _)|(refine Suf.bind ?_ (fun _=>?_))|(refine Suf.ite ?_ ?_)|(unfold jaK)|(unfold ja2)|(unfold ja3)|(unfold jay)|(unfold jba)|(unfold ja9)|(unfold jaY)|(unfold jaD)|(unfold jaz)|(unfold jao)|(unfold jaN))
  |decls=>
   intro l x l' e
   unfold jal at e
   rw[jdJ] at e
   revert l x l'
   show Suf f (jed d)
   unfold jed
   repeat' (first|exact Suf.take|exact Suf.peek|exact Suf.is|exact Suf.next|exact Suf.named|exact Suf.name|exact Suf.need|exact Suf.enter|exact Suf.num|exact Suf.ret|exact ih _ _|exact Suf.before (ih _ _)|(refine Suf.bind ?_ (fun _=>?_))|(refine Suf.ite ?_ ?_)|(unfold jaK)|(unfold ja2)|(unfold ja3)|(unfold jay)|(unfold jba)|(unfold ja9)|(unfold jaY)|(unfold jaD)|(unfold jaz)|(unfold jao)|(unfold jaN))
  |body=>
   intro l x l' e
   unfold jal at e
   rw[jeM] at e
   revert l x l'
   show Suf f (jgw d)
   unfold jgw
   repeat' (first|exact Suf.take|exact Suf.peek|exact Suf.is|exact Suf.next|exact Suf.named|exact Suf.name|exact Suf.need|exact Suf.enter|exact Suf.num|exact Suf.ret|exact ih _ _|exact Suf.before (ih _ _)|(refine Suf.bind ?_ (fun _=>?_))|(refine Suf.ite ?_ ?_)|(unfold jaK)|(unfold ja2)|(unfold ja3)|(unfold jay)|(unfold jba)|(unfold ja9)|(unfold jaY)|(unfold jaD)|(unfold jaz)|(unfold jao)|(unfold jaN))
  |record=>
   intro l x l' e
   unfold jal at e
   rw[jc9] at e
   revert l x l'
   show Suf f (jcT d)
   unfold jcT
   repeat' (first|exact Suf.take|exact Suf.peek|exact Suf.is|exact Suf.next|exact Suf.named|exact Suf.name|exact Suf.need|exact Suf.enter|exact Suf.num|exact Suf.ret|exact ih _ _|exact Suf.before (ih _ _)|(refine Suf.bind ?_ (fun _=>?_))|(refine Suf.ite ?_ ?_)|(unfold jaK)|(unfold ja2)|(unfold ja3)|(unfold jay)|(unfold jba)|(unfold ja9)|(unfold jaY)|(unfold jaD)|(unfold jaz)|(unfold jao)|(unfold jaN))
  |proc=>
   intro l x l' e
   unfold jal at e
   rw[jdW] at e
   revert l x l'
   show Suf f (jfe d)
   unfold jfe
   repeat' (first|exact Suf.take|exact Suf.peek|exact Suf.is|exact Suf.next|exact Suf.named|exact Suf.name|exact Suf.need|exact Suf.enter|exact Suf.num|exact Suf.ret|exact ih _ _|exact Suf.before (ih _ _)|(refine Suf.bind ?_ (fun _=>?_))|(refine Suf.ite ?_ ?_)|(unfold jaK)|(unfold ja2)|(unfold ja3)|(unfold jay)|(unfold jba)|(unfold ja9)|(unfold jaY)|(unfold jaD)|(unfold jaz)|(unfold jao)|(unfold jaN))
  |program a=>
   intro l x l' e
   unfold jal at e
   rw[jcA] at e
   revert l x l'
   show Suf f (jc1 a d)
   unfold jc1
   repeat' (first|exact Suf.take|exact Suf.peek|exact Suf.is|exact Suf.next|exact Suf.named|exact Suf.name|exact Suf.need|exact Suf.enter|exact Suf.num|exact Suf.ret|exact ih _ _|exact Suf.before (ih _ _)|(refine Suf.bind ?_ (fun _=>?_))|(refine Suf.ite ?_ ?_)|(unfold jaK)|(unfold ja2)|(unfold ja3)|(unfold jay)|(unfold jba)|(unfold ja9)|(unfold jaY)|(unfold jaD)|(unfold jaz)|(unfold jao)|(unfold jaN))
def Prf {α : Type} (f:Nat) (m:Rd α):Prop:=∀ (V V2 S S':List Tk) (y:α),S≠[]→S'≠[]→V2≠[]→m f (V++S) = .ok (y,V2++S)→m f (V++S') = .ok (y,V2++S')
section
variable {α β : Type} {f:Nat}
theorem Prf.bind {m:Rd α} {k:α→Rd β} (h:Prf f m) (g:∀ x,Prf f (k x)) (gs:∀ x,Suf f (k x)):Prf f (jae m k):=by
 intro V V2 S S' y hS hS' h2 e
 obtain⟨⟨x,l1⟩,e1,e2⟩:=jar e
 obtain⟨T,hT⟩:=gs x _ _ _ e2
 have e3:l1=(T++V2)++S:=by rw[List.append_assoc];exact hT.symm
 subst e3
 have a1:=h V (T++V2) S S' x hS hS' (by simp[h2]) e1
 have a2:=g x (T++V2) V2 S S' y hS hS' h2 e2
 show (m f (V++S') >>= fun p=>k p.1 f p.2)=_
 rw[a1]
 exact a2
theorem Prf.ite {c:Prop} [Decidable c] {m k:Rd α} (h:Prf f m) (g:Prf f k):Prf f (if c then m else k):=by split<;>assumption
theorem jmi {V V2 S:List Tk} (hS:S≠[]) (h2:V2≠[]) (e:pTl (V++S)=V2++S):∃ v,V=v::V2:=by
 cases V with
 |nil=>
  have h1:=jat S
  have h3:=congrArg List.length e
  rw[List.nil_append,List.length_append] at h3
  have:=List.length_pos_iff.2 h2
  omega
 |cons v V=>
  obtain⟨a,b,hab⟩:=List.exists_cons_of_ne_nil (show V++S≠[] from fun q=>hS (List.append_eq_nil_iff.1 q).2)
  have e1:pTl (v::V++S)=V++S:=by rw[List.cons_append,hab];rfl
  rw[e1] at e
  exact⟨v,by rw[List.append_cancel_right e]⟩
theorem jiV {v:Tk} {V S:List Tk} (h:S≠[]):pTl (v::V++S)=V++S:=by
 obtain⟨a,b,hab⟩:=List.exists_cons_of_ne_nil (show V++S≠[] from fun q=>h (List.append_eq_nil_iff.1 q).2)
 rw[List.cons_append,hab];rfl
theorem Prf.test {m:Rd α} (q:Tk→Except (Int×Nat) α) (hm:∀ l,m f l=(match q (pHd l) with | .ok z=>.ok (z,pTl l) | .error e=>.error e)):Prf f m:=by
 intro V V2 S S' y hS hS' h2 e
 rw[hm] at e
 cases hq:q (pHd (V++S)) with
 |error p=>rw[hq] at e;cases e
 |ok z=>
  rw[hq] at e
  dsimp only at e
  rw[Except.ok.injEq,Prod.mk.injEq] at e
  obtain⟨rfl,e⟩:=e
  obtain⟨v,rfl⟩:=jmi hS h2 e
  have hq2:q (pHd (v::V2++S')) = .ok z:=hq
  rw[hm,hq2,jiV hS']
theorem Prf.look {m:Rd α} (q:Tk→α) (hm:∀ l,m f l = .ok (q (pHd l),l)):Prf f m:=by
 intro V V2 S S' y hS hS' h2 e
 rw[hm,Except.ok.injEq,Prod.mk.injEq] at e
 obtain⟨rfl,e⟩:=e
 obtain rfl:=List.append_cancel_right e
 rw[hm]
 obtain⟨v,V,rfl⟩:=List.exists_cons_of_ne_nil h2
 rfl
theorem Prf.ret {x:α}:Prf f (mRet x):=Prf.look (fun _=>x) fun _=>rfl
theorem Prf.peek:Prf f jbm:=Prf.look (fun t=>t) fun _=>rfl
theorem Prf.is {s:List UInt8}:Prf f (mIs s):=Prf.look (fun t=>bytes t.t==s) fun _=>rfl
theorem Prf.named:Prf f jbe:=Prf.look (fun t=>ja5 t) fun _=>rfl
theorem Prf.take:Prf f jbg:=Prf.test (fun t=>.ok t) fun _=>rfl
theorem Prf.name:Prf f jbd:=Prf.test (fun t=>if ja5 t=true then .ok t else .error (t.a,4)) fun l=>by
 unfold jbd jaW
 split<;>simp[*]
theorem Prf.need {s:List UInt8}:Prf f (jaA s):=Prf.test (fun t=>if (bytes t.t==s)=true then .ok t else .error (t.a,4)) fun l=>by
 unfold jaA pIs
 split<;>simp[*]
theorem Prf.enter {s:List UInt8} {d:Nat}:Prf f (jaF s d):=Prf.test (fun t=>if (bytes t.t==s)=true then (if d=64 then .error (t.a,12) else .ok t) else .error (t.a,4)) fun l=>by
 unfold jaF pIs
 split
 ·split<;>simp[*]
 ·simp[*]
theorem Prf.num:Prf f mNum:=Prf.test (fun t=>if t.k=1 then (if 1048576<pNum (bytes t.t) then .error (t.a,2) else .ok (pNum (bytes t.t):Int)) else .error (t.a,4)) fun l=>by
 unfold mNum
 split
 ·split<;>simp[*]
 ·simp[*]
theorem Prf.next {k:List UInt8→Rd β} (g:∀ x,Prf f (k x)) (gl:∀ x,Less f (k x)) (gs:∀ x,Suf f (k x)):Prf f (jae jbV k):=by
 intro V V2 S S' y hS hS' h2 e
 have e1:k (jbU (V++S)) f (V++S) = .ok (y,V2++S):=e
 show k (jbU (V++S')) f (V++S')=_
 have hp2:=List.length_pos_iff.2 h2
 have hpS:=List.length_pos_iff.2 hS
 match V,e1 with
 | [],e1=>
  have:=(gs _ _ _ _ e1).length_le
  rw[List.length_append,List.nil_append] at this
  omega
 | [v],e1=>
  have:=gl _ _ _ _ (by simp;omega) e1
  simp only[List.length_append,List.length_cons,List.length_nil] at this
  omega
 |v::u::V,e1=>exact g _ _ _ _ _ _ hS hS' h2 e1
theorem Prf.of {m k:Rd α} (h:Prf f m) (e:∀ l,k f l=m f l):Prf f k:=fun V V2 S S' y h1 h2 h3 g=>(e _).trans (h V V2 S S' y h1 h2 h3 ((e _).symm.trans g))
end
end Go.Proofs.YtenmmmdnpglkoaaGreatDoor
