import Derived.Test.YtenmmmdnpglkoaaGreatDoorCut34
import Derived.Test.YtenmmmdnpglkoaaGreatDoorCut35
set_option linter.unusedSimpArgs false
set_option linter.unusedVariables false
set_option maxRecDepth 100000
set_option maxHeartbeats 8000000
/-
 The reference's reader: Read.
-/
namespace Go.Proofs.YtenmmmdnpglkoaaGreatDoor
open Go Go.Proofs Go.RowKit Go.Sort
theorem jj2 {s:ByteArray} (he:(scR s).2.2=0):EndL (scR s).1:=by
 obtain⟨V,e,h,h1,h2⟩:=jdE (jdF he) he
 have hlen:(scR s).1.length=V.length+1:=by rw[h];simp
 intro n hn
 rcases jc0 h h1 n with ⟨g0,g,gk⟩|⟨-,g⟩|⟨g0,g⟩
 ·have:=(jhL he).mid n (by omega)
  exact⟨fun e=>absurd e this,fun e=>absurd e g.1⟩
 ·rw[g];exact⟨fun _=>rfl,fun _=>rfl⟩
 ·omega
theorem rnew {L:List Tk} {ao:Option Addr} {c:Nat} {w:World} (hrow:TRow w ao c L) (hT:TkR L):Rf w.heap.size L (w.alloc (Obj.cells #[.slice ao L.length c,.int .i64 0,.int .i64 0,.int .i64 0,.int .i64 0] 48)) 0 (.ok L):=by
 have hB:Below w.heap.size w (w.alloc (Obj.cells #[.slice ao L.length c,.int .i64 0,.int .i64 0,.int .i64 0,.int .i64 0] 48)):=jN _
 have hne:=hT.toks.pos
 have hlen:=List.length_pos_iff.mpr hne
 obtain⟨b,o',rfl,hb,hc⟩:=hrow.2.2.resolve_left hne
 refine⟨⟨hT,by simp⟩,0,0,0,0,hlen,⟨⟨b,o',c,World.cell?_alloc_new _ _ _ _,hrow.keep hB,Nat.ne_of_lt hb,Nat.lt_of_lt_of_le hb hB.size⟩,World.cell?_alloc_new _ _ _ _,World.cell?_alloc_new _ _ _ _,World.cell?_alloc_new _ _ _ _,World.cell?_alloc_new _ _ _ _,by simp,fun _=>World.frozen?_alloc_new _ _ _ _,hne⟩,.inl ⟨rfl,rfl,rfl⟩⟩
structure AnsR (k:Nat) (L:List Tk) (x:Syn) (st':RSt):Prop where
 done:∀ l,st' = .ok l→pIs [] l=true→pTk k L = .ok x
 more:∀ l,st' = .ok l→pIs [] l=false→pTk k L = .error ((pHd l).a,4)
 bad:∀ a e,st' = .bad a e→pTk k L = .error (a,e)
theorem jfW {k:Nat} {L:List Tk} {xs:List Syn} {x:Syn} {st':RSt} (h:Stp (entW k L) 0 (.ok L) xs st') (hx:x=entT k L xs):AnsR k L x st':=by
 obtain⟨g1,g2⟩:=jgS h
 refine⟨fun l e hp=>?_,fun l e hp=>?_,fun a n e=>?_⟩
 ·subst e
  rw[hx]
  exact g1 (pTl l) (by rw[jaP L l [],hp];rfl)
 ·subst e
  exact g2 _ _ (by rw[jaP L l [],hp];rfl)
 ·subst e
  exact g2 _ _ rfl
theorem jl7 {L:List Tk} {x:Syn} {st':RSt} (h:jkr (pHd L).a 0 (.ok L) x st'):AnsR 0 L x st':=by
 rcases h with ⟨xs,rfl,hs,hl⟩|⟨l0,xs0,rfl,hs,hp⟩
 ·exact jfW (k:=0) hs rfl
 ·obtain⟨g1,g2⟩:=jgS (k:=0) hs
  refine⟨fun l e=>(by cases e),fun l e=>(by cases e),fun a n e=>?_⟩
  cases e
  exact g2 _ _ (by rw[jaP L l0 [],hp];rfl)
theorem jj3 (k:Nat) (p:Int) (s:ByteArray) (w:World) (he:(scR s).2.2≠0):Calls Tryz.prog 11 #[.string s,.int .i64 p] w (Ans k s w):=by
 have hA:Below w.heap.size w (w.alloc jZ):=jN _
 have CS:=jey s (w.alloc jZ)
 have hX:=Bx5.new w (.int .i64 0) (.int .i64 0) (.string ⟨#[]⟩) (.int .i64 0) (.slice none 0 0)
 have HPA:Hid (pAns k s = .error (((scR s).2.1:Nat),(scR s).2.2)):=jD (by unfold pAns;rw[if_neg he])
 generalize (scR s).2.1=at_ at *
 generalize (scR s).2.2=er at *
 have te:(((er:Nat):Int) != (0:Int))=true:=by rw[bne_iff_ne];omega
 have te2:(((er:Nat):Int)==(0:Int))=false:=by rw[beq_eq_false_iff_ne];omega
 have KS:=jD CS;have HA:=jD hA;have HX:=jD hX;have HE:=jD he
 clear CS hA hX he
 go_enter Tryz.func11,Tryz.ntmps11
 go_wp2_with (go_at_call 19;refine cM (KS.out) ?_;rintro e w2 ⟨v,rfl,ho,hb2⟩)
 have X2:=HX.out.below hb2
 obtain⟨y0,y1,y2,y3,y4,yf,yl⟩:=X2
 have f0:=yf 0;have f1:=yf 1;have f2:=yf 2;have f3:=yf 3;have f4:=yf 4
 obtain⟨r0,r1,r2,r3,r4⟩:=box5 y0 y1 y2 y3 y4 (.int .i64 0) (.int .i64 0) (.string ⟨#[]⟩) (.int .i64 0) (.slice none 0 0) _ rfl
 have HB:=jD (jaC (Below.chain HA hb2) (jrr _) (.int .i64 0) (.int .i64 0) (.string ⟨#[]⟩) (.int .i64 0) (.slice none 0 0))
 clear ho hb2 yf yl
 refine jD ?_
 go_wp2
 refine bodyPost_ret (by simp[results,Tryz.results11,go_sem,r0,r1,r2,r3,r4];rfl) rfl ?_
 exact⟨0,0,⟨#[]⟩,0,none,0,0,_,_,rfl,HB.out,.inr ⟨HPA.out,HE.out,rfl⟩⟩
theorem jm0 (k:Nat) (z:Int) (hk:k=0∧z=0∨k=1∧z=1∨k=2∧z=2∨k=3∧z=3) (s:ByteArray) (w:World):Calls Tryz.prog 11 #[.string s,.int .i64 z] w (Ans k s w):=by
 rcases hk with ⟨rfl,rfl⟩|⟨rfl,rfl⟩|⟨rfl,rfl⟩|⟨rfl,rfl⟩
 all_goals
  by_cases he:(scR s).2.2=0
  rotate_left
  ·exact jj3 _ _ s w he
  have hA:Below w.heap.size w (w.alloc jZ):=jN _
  have CS:=jey s (w.alloc jZ)
  have hX:=Bx5.new w (.int .i64 0) (.int .i64 0) (.string ⟨#[]⟩) (.int .i64 0) (.slice none 0 0)
  have HT:=jD (jhL he);have HDG:=jD (jkf he);have HEL:=jD (jj2 he)
  have hpa:∀ k,pAns k s=pTk k (scR s).1:=fun k=>by unfold pAns;rw[if_pos he]
  rw[he] at CS
  clear he
  generalize (scR s).1=L at *
  generalize (scR s).2.1=at_ at *
  have KS:=jD CS;have HA:=jD hA;have HX:=jD hX;have HPA:=jD hpa
  clear CS hA hX hpa
  go_enter Tryz.func11,Tryz.ntmps11
  go_wp2_with (go_at_call 19;refine cM (KS.out) ?_;rintro e w2 ⟨v,rfl,ho,hb2⟩)
  obtain⟨ao,c,rfl,hrow⟩:=TRow.of_owns ho
  have B2:=jD (Below.chain HA hb2);have X2:=jD (HX.out.below hb2)
  have A3:=jD (rnew hrow HT)
  have hq:w.heap.size<w2.heap.size:=(HX.out.below hb2).lt
  have HQ:=jD hq
  clear ho hb2 hrow hq
  refine jD ?_
  go_upto_region 5 with fail
  have X3:=jD (X2.out.alloc (Obj.cells #[.slice ao L.length c,.int .i64 0,.int .i64 0,.int .i64 0,.int .i64 0] 48))
  have B3:=jD (Below.chain B2 (jN (Obj.cells #[.slice ao L.length c,.int .i64 0,.int .i64 0,.int .i64 0,.int .i64 0] 48)))
  generalize hRR:w2.heap.size=R at *
  generalize w2.alloc (Obj.cells #[.slice ao L.length c,.int .i64 0,.int .i64 0,.int .i64 0,.int .i64 0] 48)=w3 at *
  clear hRR
  have A4:=jD (A3.out.alloc jZ);have X4:=jD (X3.out.alloc jZ);have Y4:=jD (Bx5.new w3 (.int .i64 0) (.int .i64 0) (.string ⟨#[]⟩) (.int .i64 0) (.slice none 0 0))
  have B4:=jD ((Butt.refl R w3).alloc A3.out.fix.lt jZ)
  have HR3:=jD A3.out.fix.lt
  have PY:=nR A3.out.fix.lt
  have HL4:Hid (w3.heap.size<(w3.alloc jZ).heap.size):=jD Y4.out.lt
  go_wp2_with ((first|(go_at_call 20;refine(jks A4 (Nat.zero_le _) HDG HEL).mono ?_)|(go_at_call 21;refine(jf6 A4 (Nat.zero_le _) HDG).mono ?_)|(go_at_call 22;refine(jcv (Nat.zero_le _) _ A4).mono ?_)|(go_at_call 23;refine(jc2 (Nat.zero_le _) _ A4).mono ?_));rintro e w5 ⟨x5,v5,s5,rfl,hx5,hs5,ha5,hb5⟩;refine Hid.out ?_)
  obtain⟨k5,a5,t5,n5,o5,l5,c5,q5,rfl,rfl,hk5⟩:=hx5.shape
  first|have HS5:=jD (jl7 hs5)|have HS5:=jD (jfW (k:=1) hs5 rfl)|have HS5:=jD (jfW (k:=2) hs5 rfl)|have HS5:=jD (jfW (k:=3) hs5 rfl)
  have A5:=jD ha5;have B5:=jtt B4 hb5;have X5:=jD (X4.out.butt (Nat.ne_of_lt HQ) hb5);have Y5:=jD (Y4.out.butt PY hb5);have T5:=jD hx5
  clear ha5 hb5 hx5 hk5 hs5
  have FT:=jD (jas A3 B5 A5 Y5 (jrr _) (.int .i64 k5) (.int .i64 a5) (.string t5) (.int .i64 n5) (.slice o5 l5 c5) _ rfl)
  have fr:From (w3.alloc jZ).heap.size w5 _:=(((((From.refl _ w5).setCell ⟨w3.heap.size,0,none⟩ HL4 (.int .i64 k5)).setCell ⟨w3.heap.size,1,none⟩ HL4 (.int .i64 a5)).setCell ⟨w3.heap.size,2,none⟩ HL4 (.string t5)).setCell ⟨w3.heap.size,3,none⟩ HL4 (.int .i64 n5)).setCell ⟨w3.heap.size,4,none⟩ HL4 (.slice o5 l5 c5)
  have T6:=jD (synAt.keep fr (Nat.le_of_lt HL4) _ _ T5)
  have A6:=jD FT.out.2.1;have Y6:=jD FT.out.1
  have X6:=jD (X5.out.kept (Nat.ne_of_lt (Nat.lt_trans HQ HR3)) FT.out.2.2.2)
  have B6:=jD (B3.out.trans (Below.down (FT.out.2.2.1.below HR3) (Nat.le_of_lt HQ)))
  obtain⟨y0,y1,y2,y3,y4,yf,-⟩:=Y5.out
  have f0:=yf 0;have f1:=yf 1;have f2:=yf 2;have f3:=yf 3;have f4:=yf 4
  clear FT fr yf
  refine jD ?_
  go_upto_region 14 with fail
  clear y0 y1 y2 y3 y4 f0 f1 f2 f3 f4
  generalize ((((w5.setCell ⟨w3.heap.size,0,none⟩ (.int .i64 k5)).setCell ⟨w3.heap.size,1,none⟩ (.int .i64 a5)).setCell ⟨w3.heap.size,2,none⟩ (.string t5)).setCell ⟨w3.heap.size,3,none⟩ (.int .i64 n5)).setCell ⟨w3.heap.size,4,none⟩ (.slice o5 l5 c5)=w6 at *
  have hlo:w.heap.size<w3.heap.size:=Nat.lt_trans HQ HR3
  have HLO:=jD hlo
  clear hlo
  cases s5 with
  |bad ea ee=>
   obtain⟨ze,y3,t3,t4⟩:=A6.out.err1
   go_wp2_with fail
   go_quiet (fail)
   have hbq:=below_drewN (Below.refl w6.heap.size w6) nq
   have A7:=jD (A6.out.below hbq);have X7:=jD (X6.out.below hbq);have Y7:=jD (Y6.out.below hbq);have B7:=jD (Below.chain B6 hbq);have T7:=jD (synAt.keep (From.of_below hbq) (jrr _) _ _ T6)
   clear hbq
   clear y3 t3 t4
   generalize w6.drewN nq=w7 at *
   have HER:=jD ((HPA.out _).trans (HS5.out.bad _ _ rfl))
   obtain⟨-,nx,op,er,a,h1,h2,h3⟩:=A7.out
   have c3:=h2.c3;have c4:=h2.c4;have HR7:=jD h2.lt
   rcases h3 with ⟨-,-,h3⟩|⟨hne,en,hen,h3⟩
   ·cases h3
   have e12:a=ea∧en=ee:=by cases h3;exact⟨rfl,rfl⟩
   clear h1 h2 h3
   rw[hen,e12.2] at c3 hne;rw[e12.1] at c4;clear hen e12
   have te:(((ee:Nat):Int) != (0:Int))=true:=by rw[bne_iff_ne];exact hne
   have te2:(((ee:Nat):Int)==(0:Int))=false:=by rw[beq_eq_false_iff_ne];exact hne
   have HNE:Hid ((ee:Nat)≠0):=jD (by omega)
   clear hne
   go_wp2_with fail
   have X8:=X7.out.below (Below.refl _ _).drew
   have B8:=Below.drew B7
   obtain⟨y0,y1,y2,y3,y4,yf,yl⟩:=X7.out
   have f0:=yf 0;have f1:=yf 1;have f2:=yf 2;have f3:=yf 3;have f4:=yf 4
   have HB8:=jD B8;have HX8:=jD X8
   have hne2:w.heap.size≠R:=Nat.ne_of_lt HQ
   have hne3:=Ne.symm hne2
   obtain⟨r0,r1,r2,r3,r4⟩:=box5 y0 y1 y2 y3 y4 (.int .i64 0) (.int .i64 0) (.string ⟨#[]⟩) (.int .i64 0) (.slice none 0 0) _ rfl
   obtain⟨u0,u1,u2,u3,u4⟩:=box5 HX8.out.c0 HX8.out.c1 HX8.out.c2 HX8.out.c3 HX8.out.c4 (.int .i64 0) (.int .i64 0) (.string ⟨#[]⟩) (.int .i64 0) (.slice none 0 0) _ rfl
   clear yf yl B8 X8
   go_region
   all_goals
    go_wp2
    refine bodyPost_ret (by simp[results,Tryz.results11,go_sem,r0,r1,r2,r3,r4,u0,u1,u2,u3,u4];rfl) rfl ?_
    exact⟨0,0,⟨#[]⟩,0,none,0,0,_,_,rfl,jaC HB8 (jrr _) (.int .i64 0) (.int .i64 0) (.string ⟨#[]⟩) (.int .i64 0) (.slice none 0 0),.inr ⟨HER.out,HNE.out,rfl⟩⟩
  |ok l=>
   have HEK:=jD (A6.out.endK HEL)
   obtain⟨hf,nx,op,er,ae,h1,hr2,hr3⟩:=A6.out
   rcases hr3 with ⟨rfl,hr4,hll⟩|⟨he,e,hr4,hll⟩
   rotate_left
   ·cases hll
   have hlx:l=L.drop nx:=by cases hll;rfl
   obtain⟨⟨b,oo,cc,r0,r1,r2,r3⟩,c1,c2,c3,c4,c5,c6,c7⟩:=hr2
   obtain⟨b',o',e',hat⟩:=r1.at c7
   cases e'
   obtain⟨d0,d1,d2⟩:=hat nx h1 w6 (Below.refl _ _)
   have gl:(nx:Int)<(L.length:Int):=by omega
   have g0:(0:Int)≤(nx:Int):=by omega
   have hpd:pHd l=tkD L nx:=by rw[hlx];exact jaO h1
   rw[←hpd] at d0 d1 d2
   clear hat r1 c2 c4 c5 c6 c7 r2 r3 hr4 hll h1 hf d1 d2 hlx hpd
   by_cases hk:(pHd l).k=3
   ·have b4:((pHd l).k != (3:Int))=false:=by rw[hk];rfl
    have HOK:=jD ((HPA.out _).trans (HS5.out.done _ rfl (HEK.out.mp hk)))
    clear hk
    generalize (pHd l).k=kk at d0 b4
    go_wp2_with fail
    go_quiet (fail)
    have hbq:=below_drewN (Below.refl w6.heap.size w6) nq
    have A7:=jD (A6.out.below hbq);have X7:=jD (X6.out.below hbq);have Y7:=jD (Y6.out.below hbq);have B7:=jD (Below.chain B6 hbq);have T7:=jD (synAt.keep (From.of_below hbq) (jrr _) _ _ T6)
    clear hbq
    clear r0 c1 c3 d0 b4 gl g0
    generalize w6.drewN nq=w7 at *
    have y3:=A7.out.err0
    have fr:From w3.heap.size w7 _:=(((((From.refl w3.heap.size w7).setCell ⟨w.heap.size,0,none⟩ HLO (.int .i64 k5)).setCell ⟨w.heap.size,1,none⟩ HLO (.int .i64 a5)).setCell ⟨w.heap.size,2,none⟩ HLO (.string t5)).setCell ⟨w.heap.size,3,none⟩ HLO (.int .i64 n5)).setCell ⟨w.heap.size,4,none⟩ HLO (.slice o5 l5 c5)
    have GX:=jD (synAt.keep fr (Nat.le_of_lt HLO) _ _ T7)
    have GB:=jD (jaC B7 (jrr _) (.int .i64 k5) (.int .i64 a5) (.string t5) (.int .i64 n5) (.slice o5 l5 c5))
    obtain⟨y0,y1,y2,y3,y4,yf,yl⟩:=X7.out
    have f0:=yf 0;have f1:=yf 1;have f2:=yf 2;have f3:=yf 3;have f4:=yf 4
    obtain⟨z0,z1,z2,z3,z4,zf,zl⟩:=Y7.out
    obtain⟨u0,u1,u2,u3,u4⟩:=box5 y0 y1 y2 y3 y4 (.int .i64 k5) (.int .i64 a5) (.string t5) (.int .i64 n5) (.slice o5 l5 c5) _ rfl
    clear yf yl zf zl fr
    go_wp2
    refine bodyPost_ret (by simp[results,Tryz.results11,go_sem,u0,u1,u2,u3,u4];rfl) rfl ?_
    exact⟨_,_,_,_,_,_,_,0,0,rfl,GB.out,.inl ⟨_,HOK.out,rfl,rfl,GX.out⟩⟩
   ·have b4:((pHd l).k != (3:Int))=true:=by rw[bne_iff_ne];exact hk
    have HER:=jD ((HPA.out _).trans (HS5.out.more _ rfl (by cases e:pIs [] l;rfl;exact absurd (HEK.out.mpr e) hk)))
    clear hk
    generalize (pHd l).k=kk at d0 b4
    go_wp2_with fail
    go_quiet (fail)
    have hbq:=below_drewN (Below.refl w6.heap.size w6) nq
    have A7:=jD (A6.out.below hbq);have X7:=jD (X6.out.below hbq);have Y7:=jD (Y6.out.below hbq);have B7:=jD (Below.chain B6 hbq);have T7:=jD (synAt.keep (From.of_below hbq) (jrr _) _ _ T6)
    clear hbq
    clear r0 c1 c3 d0 b4 gl g0
    generalize w6.drewN nq=w7 at *
    have CF:=jjg A7 4 (by decide)
    have KF:=jD CF;clear CF
    go_wp2_with (go_at_call 24;refine cM (KF.out) ?_;rintro e w8 ⟨rfl,ha8,hb8⟩)
    have ha8':Rf R L w8 0 (.bad (pHd l).a 4):=ha8 0
    have hhr:=HER.out;clear HER
    generalize (pHd l).a=pa at ha8' hhr
    have HER:=jD hhr;clear hhr
    have HR7:=jD A7.out.fix.lt
    have X9:=jD (X7.out.butt (Nat.ne_of_lt HQ) hb8);have B9:=jD (B7.out.trans (Below.down (hb8.below HR7) (Nat.le_of_lt HQ)))
    clear ha8 hb8 A7 X7 B7 HR7
    have A7:=jD ha8';have X7:=X9;have B7:=B9;clear ha8' X9 B9
    refine jD ?_
    obtain⟨-,nx,op,er,a,h1,h2,h3⟩:=A7.out
    have c3:=h2.c3;have c4:=h2.c4;have HR7:=jD h2.lt
    rcases h3 with ⟨-,-,h3⟩|⟨hne,en,hen,h3⟩
    ·cases h3
    have e12:a=pa∧en=4:=by cases h3;exact⟨rfl,rfl⟩
    clear h1 h2 h3
    rw[hen,e12.2] at c3 hne;rw[e12.1] at c4;clear hen e12
    have te:(((4:Nat):Int) != (0:Int))=true:=by rw[bne_iff_ne];exact hne
    have te2:(((4:Nat):Int)==(0:Int))=false:=by rw[beq_eq_false_iff_ne];exact hne
    have HNE:Hid ((4:Nat)≠0):=jD (by omega)
    clear hne
    go_wp2_with fail
    have X8:=X7.out.below (Below.refl _ _).drew
    have B8:=Below.drew B7
    obtain⟨y0,y1,y2,y3,y4,yf,yl⟩:=X7.out
    have f0:=yf 0;have f1:=yf 1;have f2:=yf 2;have f3:=yf 3;have f4:=yf 4
    have HB8:=jD B8;have HX8:=jD X8
    have hne2:w.heap.size≠R:=Nat.ne_of_lt HQ
    have hne3:=Ne.symm hne2
    obtain⟨r0,r1,r2,r3,r4⟩:=box5 y0 y1 y2 y3 y4 (.int .i64 0) (.int .i64 0) (.string ⟨#[]⟩) (.int .i64 0) (.slice none 0 0) _ rfl
    obtain⟨u0,u1,u2,u3,u4⟩:=box5 HX8.out.c0 HX8.out.c1 HX8.out.c2 HX8.out.c3 HX8.out.c4 (.int .i64 0) (.int .i64 0) (.string ⟨#[]⟩) (.int .i64 0) (.slice none 0 0) _ rfl
    clear yf yl B8 X8
    go_region
    all_goals
     go_wp2
     refine bodyPost_ret (by simp[results,Tryz.results11,go_sem,r0,r1,r2,r3,r4,u0,u1,u2,u3,u4];rfl) rfl ?_
     exact⟨0,0,⟨#[]⟩,0,none,0,0,_,_,rfl,jaC HB8 (jrr _) (.int .i64 0) (.int .i64 0) (.string ⟨#[]⟩) (.int .i64 0) (.slice none 0 0),.inr ⟨HER.out,HNE.out,rfl⟩⟩
theorem rRead0 (s:ByteArray) (w:World):Calls Tryz.prog 11 #[.string s,.int .i64 0] w (Ans 0 s w):=jm0 0 0 (by decide) s w
end Go.Proofs.YtenmmmdnpglkoaaGreatDoor

namespace Go.Proofs.YtenmmmdnpglkoaaGreatDoor
open Go Go.Proofs Go.RowKit
theorem jeB {k f:Nat} {s:ByteArray} {r:Except (Int×Nat) Syn} (he:(scR s).2.2=0) (h:jjQ k (scR s).1 (jaf f (entW k (scR s).1) 0 (scR s).1)=r) (h0:∀ p,r = .error p→p.2≠0):pAns k s=r:=by
 unfold pAns pTk
 rw[if_pos he,jll (f:=f) rfl,h]
 intro q
 rw[q] at h
 exact h0 _ h.symm rfl
theorem awP1:pAns 0 ⟨#[112,114,111,99,32,109,97,105,110,40,41,32,123,32,120,32,58,61,32,97,91,105,93,59,32,125]⟩ = .ok (.mk 0 0 ⟨#[]⟩ 0 [(.mk 2 0 ⟨#[109,97,105,110]⟩ 0 [(.mk 3 9 ⟨#[]⟩ 0 []),(.mk 3 12 ⟨#[]⟩ 0 []),(.mk 5 12 ⟨#[]⟩ 0 []),(.mk 5 12 ⟨#[]⟩ 0 []),(.mk 6 12 ⟨#[]⟩ 0 [(.mk 9 14 ⟨#[]⟩ 0 [(.mk 3 14 ⟨#[]⟩ 0 [(.mk 18 14 ⟨#[120]⟩ 0 [])]),(.mk 16 19 ⟨#[97]⟩ 0 [(.mk 18 21 ⟨#[105]⟩ 0 [])])])])])]):=jeB (f:=60) (by kernel_rfl) (by kernel_rfl) (fun p q=>by cases q)
theorem awP2:pAns 0 ⟨#[112,114,111,99,32,109,97,105,110,40,41,32,123,32,120,32,58,61,32,97,91,105,93,32,43,32,49,59,32,125]⟩ = .error (24,4):=jeB (f:=60) (by kernel_rfl) (by kernel_rfl) (fun p q=>by cases q;decide)
theorem awP3:pAns 2 ⟨#[110,111,116,32,97,32,60,32,98,32,111,114,32,99]⟩ = .ok (.mk 22 0 ⟨#[111,114]⟩ 0 [(.mk 21 0 ⟨#[110,111,116]⟩ 0 [(.mk 22 4 ⟨#[60]⟩ 0 [(.mk 18 4 ⟨#[97]⟩ 0 []),(.mk 18 8 ⟨#[98]⟩ 0 [])])]),(.mk 18 13 ⟨#[99]⟩ 0 [])]):=jeB (f:=60) (by kernel_rfl) (by kernel_rfl) (fun p q=>by cases q)
theorem awP4:pAns 2 ⟨#[97,32,60,32,98,32,60,32,99]⟩ = .error (6,4):=jeB (f:=60) (by kernel_rfl) (by kernel_rfl) (fun p q=>by cases q;decide)
theorem awP5:pAns 3 ⟨#[45,40,49,32,45,32,50,41,32,42,32,120]⟩ = .ok (.mk 22 0 ⟨#[42]⟩ 0 [(.mk 21 0 ⟨#[45]⟩ 0 [(.mk 22 2 ⟨#[45]⟩ 0 [(.mk 20 2 ⟨#[49]⟩ 0 []),(.mk 20 6 ⟨#[50]⟩ 0 [])])]),(.mk 18 11 ⟨#[120]⟩ 0 [])]):=jeB (f:=60) (by kernel_rfl) (by kernel_rfl) (fun p q=>by cases q)
end Go.Proofs.YtenmmmdnpglkoaaGreatDoor

namespace Go.Proofs.YtenmmmdnpglkoaaGreatDoor
open Go Go.Proofs Go.RowKit Go.Sort
structure SL (lo:Nat) (W:World) (ks:List Syn) (b c:Nat):Prop where
 low:lo≤b
 lt:b<W.heap.size
 le:ks.length≤c
 max:c≤maxLen
 row:rowAt lo W ks b 0
theorem SL.keep {lo l2:Nat} {W W':World} {ks:List Syn} {b c:Nat} (h:SL lo W ks b c) (hb:From lo W W') (hl:l2≤lo):SL l2 W' ks b c:=
 ⟨Nat.le_trans hl h.low,Nat.lt_of_lt_of_le h.lt hb.size,h.le,h.max,rowAt.keep hb hl ks b 0 h.low h.lt h.row⟩
theorem SL.below {lo:Nat} {W W':World} {ks:List Syn} {b c:Nat} (h:SL lo W ks b c) (hb:Below W.heap.size W W'):SL lo W' ks b c:=h.keep (From.of_below hb) (jrr _)
theorem jbM {lo:Nat} {W:World} {x:Syn} {r:List Syn} {kv:Value} (h:kidsAt lo W (x::r) kv):∃ b c,kv = .slice (some ⟨b,0,none⟩) (r.length+1) c∧SL lo W (x::r) b c:=by
 rcases h with ⟨h,-⟩|⟨b,c,e1,h1,h2,h3,h4,h5⟩
 ·cases h
 ·exact⟨b,c,e1,h3,h4,h1,h2,h5⟩
theorem jbC {lo:Nat} {W:World} {k a n:Int} {t:ByteArray} {ks r:List Syn} {b o:Nat} (h:rowAt lo W (.mk k a t n ks::r) b o) :
  W.cell? ⟨b,o,none⟩=some (.int .i64 k)∧W.cell? ⟨b,o+1,none⟩=some (.int .i64 a)∧W.cell? ⟨b,o+2,none⟩=some (.string t)∧W.cell? ⟨b,o+3,none⟩=some (.int .i64 n)∧(∃ kv,W.cell? ⟨b,o+4,none⟩=some kv∧kidsAt lo W ks kv)∧rowAt lo W r b (o+5):=by
 rw[rowAt] at h
 obtain⟨⟨v0,v1,v2,v3,v4,c0,c1,c2,c3,c4,hx⟩,hr⟩:=h
 obtain⟨kv,e,hk⟩:=jcd.mp hx
 simp only[Value.agg.injEq,Array.mk.injEq,List.cons.injEq,and_true] at e
 obtain⟨rfl,rfl,rfl,rfl,rfl⟩:=e
 exact⟨c0,c1,c2,c3,⟨_,c4,hk⟩,hr⟩
theorem jmB {lo:Nat} {W:World} {b1 c1:Nat} (h:SL lo W [(.mk 2 0 ⟨#[109,97,105,110]⟩ 0 [(.mk 3 9 ⟨#[]⟩ 0 []),(.mk 3 12 ⟨#[]⟩ 0 []),(.mk 5 12 ⟨#[]⟩ 0 []),(.mk 5 12 ⟨#[]⟩ 0 []),(.mk 6 12 ⟨#[]⟩ 0 [(.mk 9 14 ⟨#[]⟩ 0 [(.mk 3 14 ⟨#[]⟩ 0 [(.mk 18 14 ⟨#[120]⟩ 0 [])]),(.mk 16 19 ⟨#[97]⟩ 0 [(.mk 18 21 ⟨#[105]⟩ 0 [])])])])])] b1 c1):∃ p q r p2 q2 r2,W.cell? ⟨b1,4,none⟩=some (.slice (some ⟨p,0,none⟩) 5 p2)∧W.cell? ⟨p,24,none⟩=some (.slice (some ⟨q,0,none⟩) 1 q2) ∧
  W.cell? ⟨q,0,none⟩=some (.int .i64 9)∧W.cell? ⟨q,1,none⟩=some (.int .i64 14)∧W.cell? ⟨q,2,none⟩=some (.string ⟨#[]⟩)∧W.cell? ⟨q,3,none⟩=some (.int .i64 0)∧W.cell? ⟨q,4,none⟩=some (.slice (some ⟨r,0,none⟩) 2 r2)∧W.cell? ⟨r,5,none⟩=some (.int .i64 16)∧(p<W.heap.size∧q<W.heap.size∧r<W.heap.size):=by
 obtain⟨-,-,-,-,⟨kv,e1,hk⟩,-⟩:=jbC h.row
 obtain⟨p,p2,rfl,hp⟩:=jbM hk
 obtain⟨-,-,-,-,-,h1⟩:=jbC hp.row
 obtain⟨-,-,-,-,-,h2⟩:=jbC h1
 obtain⟨-,-,-,-,-,h3⟩:=jbC h2
 obtain⟨-,-,-,-,-,h4⟩:=jbC h3
 obtain⟨-,-,-,-,⟨kv,e2,hk⟩,-⟩:=jbC h4
 obtain⟨q,q2,rfl,hq⟩:=jbM hk
 obtain⟨f0,f1,f2,f3,⟨kv,f4,hk⟩,-⟩:=jbC hq.row
 obtain⟨r,r2,rfl,hr⟩:=jbM hk
 obtain⟨-,-,-,-,-,h5⟩:=jbC hr.row
 obtain⟨e5,-⟩:=jbC h5
 exact⟨p,q,r,p2,q2,r2,e1,e2,f0,f1,f2,f3,f4,e5,hp.lt,hq.lt,hr.lt⟩
theorem jmC {lo:Nat} {W:World} {b1 c1:Nat} (h:SL lo W [(.mk 21 0 ⟨#[110,111,116]⟩ 0 [(.mk 22 4 ⟨#[60]⟩ 0 [(.mk 18 4 ⟨#[97]⟩ 0 []),(.mk 18 8 ⟨#[98]⟩ 0 [])])]),(.mk 18 13 ⟨#[99]⟩ 0 [])] b1 c1):W.cell? ⟨b1,2,none⟩=some (.string ⟨#[110,111,116]⟩):=by
 obtain⟨-,-,e,-⟩:=jbC h.row
 exact e
theorem jmD {lo:Nat} {W:World} {b1 c1:Nat} (h:SL lo W [(.mk 21 0 ⟨#[45]⟩ 0 [(.mk 22 2 ⟨#[45]⟩ 0 [(.mk 20 2 ⟨#[49]⟩ 0 []),(.mk 20 6 ⟨#[50]⟩ 0 [])])]),(.mk 18 11 ⟨#[120]⟩ 0 [])] b1 c1):W.cell? ⟨b1,2,none⟩=some (.string ⟨#[45]⟩)∧∃ p p2,W.cell? ⟨b1,4,none⟩=some (.slice (some ⟨p,0,none⟩) 1 p2)∧W.cell? ⟨p,1,none⟩=some (.int .i64 2)∧p<W.heap.size:=by
 obtain⟨-,-,e,-,⟨kv,e1,hk⟩,-⟩:=jbC h.row
 obtain⟨p,p2,rfl,hp⟩:=jbM hk
 obtain⟨-,e2,-⟩:=jbC hp.row
 exact⟨e,p,p2,e1,e2,hp.lt⟩
theorem jjL (W:World) (ht:Lib.TabBelow Tryz.prog W.heap.size W "surveyor/lexer.classes" .u8 jaH) (hev:EvAt W):Calls Tryz.prog 7 #[.string ⟨#[112,114,111,99,32,109,97,105,110,40,41,32,123,32,120,32,58,61,32,97,91,105,93,59,32,125]⟩] W fun e w'=>∃ b1 c1,e = .returned (.tuple #[.agg #[.int .i64 0,.int .i64 0,.string ⟨#[]⟩,.int .i64 0,.slice (some ⟨b1,0,none⟩) 1 c1],.int .i64 0,.int .i64 0])∧Below W.heap.size W w'∧SL W.heap.size w' [(.mk 2 0 ⟨#[109,97,105,110]⟩ 0 [(.mk 3 9 ⟨#[]⟩ 0 []),(.mk 3 12 ⟨#[]⟩ 0 []),(.mk 5 12 ⟨#[]⟩ 0 []),(.mk 5 12 ⟨#[]⟩ 0 []),(.mk 6 12 ⟨#[]⟩ 0 [(.mk 9 14 ⟨#[]⟩ 0 [(.mk 3 14 ⟨#[]⟩ 0 [(.mk 18 14 ⟨#[120]⟩ 0 [])]),(.mk 16 19 ⟨#[97]⟩ 0 [(.mk 18 21 ⟨#[105]⟩ 0 [])])])])])] b1 c1:=by
 refine(jh8 _ W ht hev).mono ?_
 rintro e w' ⟨k4,a4,t4,n4,o4,l4,c4,a,c,rfl,hb,h⟩
 rcases h with ⟨x,h1,rfl,rfl,h2⟩|⟨h1,-,-⟩
 ·rw[awP1] at h1
  cases h1
  obtain⟨kv,e,hk⟩:=jcd.mp h2
  obtain⟨b,c,rfl,hs⟩:=jbM hk
  simp only[Value.agg.injEq,Array.mk.injEq,List.cons.injEq,and_true] at e
  exact⟨b,c,by rw[e.1,e.2.1,e.2.2.1,e.2.2.2.1,e.2.2.2.2];rfl,hb,hs⟩
 ·rw[awP1] at h1
  cases h1
theorem jjM (W:World) (ht:Lib.TabBelow Tryz.prog W.heap.size W "surveyor/lexer.classes" .u8 jaH) (hev:EvAt W):Calls Tryz.prog 7 #[.string ⟨#[112,114,111,99,32,109,97,105,110,40,41,32,123,32,120,32,58,61,32,97,91,105,93,32,43,32,49,59,32,125]⟩] W fun e w'=>e = .returned (.tuple #[.agg #[.int .i64 0,.int .i64 0,.string ⟨#[]⟩,.int .i64 0,.slice none 0 0],.int .i64 24,.int .i64 4])∧Below W.heap.size W w':=by
 refine(jh8 _ W ht hev).mono ?_
 rintro e w' ⟨k4,a4,t4,n4,o4,l4,c4,a,c,rfl,hb,h⟩
 rcases h with ⟨x,h1,-⟩|⟨h1,-,h2⟩
 ·rw[awP2] at h1
  cases h1
 ·rw[awP2] at h1
  cases h1
  rw[h2]
  exact⟨rfl,hb⟩
theorem jjN (W:World) (ht:Lib.TabBelow Tryz.prog W.heap.size W "surveyor/lexer.classes" .u8 jaH) (hev:EvAt W):Calls Tryz.prog 13 #[.string ⟨#[110,111,116,32,97,32,60,32,98,32,111,114,32,99]⟩] W fun e w'=>∃ b3 c3,e = .returned (.tuple #[.agg #[.int .i64 22,.int .i64 0,.string ⟨#[111,114]⟩,.int .i64 0,.slice (some ⟨b3,0,none⟩) 2 c3],.int .i64 0,.int .i64 0])∧Below W.heap.size W w'∧SL W.heap.size w' [(.mk 21 0 ⟨#[110,111,116]⟩ 0 [(.mk 22 4 ⟨#[60]⟩ 0 [(.mk 18 4 ⟨#[97]⟩ 0 []),(.mk 18 8 ⟨#[98]⟩ 0 [])])]),(.mk 18 13 ⟨#[99]⟩ 0 [])] b3 c3:=by
 refine(jjR _ W ht hev).mono ?_
 rintro e w' ⟨k4,a4,t4,n4,o4,l4,c4,a,c,rfl,hb,h⟩
 rcases h with ⟨x,h1,rfl,rfl,h2⟩|⟨h1,-,-⟩
 ·rw[awP3] at h1
  cases h1
  obtain⟨kv,e,hk⟩:=jcd.mp h2
  obtain⟨b,c,rfl,hs⟩:=jbM hk
  simp only[Value.agg.injEq,Array.mk.injEq,List.cons.injEq,and_true] at e
  exact⟨b,c,by rw[e.1,e.2.1,e.2.2.1,e.2.2.2.1,e.2.2.2.2];rfl,hb,hs⟩
 ·rw[awP3] at h1
  cases h1
theorem jjO (W:World) (ht:Lib.TabBelow Tryz.prog W.heap.size W "surveyor/lexer.classes" .u8 jaH) (hev:EvAt W):Calls Tryz.prog 13 #[.string ⟨#[97,32,60,32,98,32,60,32,99]⟩] W fun e w'=>e = .returned (.tuple #[.agg #[.int .i64 0,.int .i64 0,.string ⟨#[]⟩,.int .i64 0,.slice none 0 0],.int .i64 6,.int .i64 4])∧Below W.heap.size W w':=by
 refine(jjR _ W ht hev).mono ?_
 rintro e w' ⟨k4,a4,t4,n4,o4,l4,c4,a,c,rfl,hb,h⟩
 rcases h with ⟨x,h1,-⟩|⟨h1,-,h2⟩
 ·rw[awP4] at h1
  cases h1
 ·rw[awP4] at h1
  cases h1
  rw[h2]
  exact⟨rfl,hb⟩
theorem jjP (W:World) (ht:Lib.TabBelow Tryz.prog W.heap.size W "surveyor/lexer.classes" .u8 jaH) (hev:EvAt W):Calls Tryz.prog 14 #[.string ⟨#[45,40,49,32,45,32,50,41,32,42,32,120]⟩] W fun e w'=>∃ b5 c5,e = .returned (.tuple #[.agg #[.int .i64 22,.int .i64 0,.string ⟨#[42]⟩,.int .i64 0,.slice (some ⟨b5,0,none⟩) 2 c5],.int .i64 0,.int .i64 0])∧Below W.heap.size W w'∧SL W.heap.size w' [(.mk 21 0 ⟨#[45]⟩ 0 [(.mk 22 2 ⟨#[45]⟩ 0 [(.mk 20 2 ⟨#[49]⟩ 0 []),(.mk 20 6 ⟨#[50]⟩ 0 [])])]),(.mk 18 11 ⟨#[120]⟩ 0 [])] b5 c5:=by
 refine(jlV _ W ht hev).mono ?_
 rintro e w' ⟨k4,a4,t4,n4,o4,l4,c4,a,c,rfl,hb,h⟩
 rcases h with ⟨x,h1,rfl,rfl,h2⟩|⟨h1,-,-⟩
 ·rw[awP5] at h1
  cases h1
  obtain⟨kv,e,hk⟩:=jcd.mp h2
  obtain⟨b,c,rfl,hs⟩:=jbM hk
  simp only[Value.agg.injEq,Array.mk.injEq,List.cons.injEq,and_true] at e
  exact⟨b,c,by rw[e.1,e.2.1,e.2.2.1,e.2.2.2.1,e.2.2.2.2];rfl,hb,hs⟩
 ·rw[awP5] at h1
  cases h1
theorem jlf (w:World) (ht:Lib.TabBelow Tryz.prog w.heap.size w "surveyor/lexer.classes" .u8 jaH) (hev:EvAt w):Calls Tryz.prog 6 #[] w fun e w'=>e = .returned (.bool true)∧Below w.heap.size w w':=by
 have HT:=jD ht;have HE:=jD hev
 clear ht hev
 go_enter Tryz.func6,Tryz.ntmps6
 go_wp2_with (go_at_call 7;refine cM (jjL _ HT HE) ?_;rintro e w1 ⟨b1,c1,rfl,hb,hs⟩)
 have hA:Below w1.heap.size w1 (w1.alloc (Obj.cells #[.int .i64 0,.int .i64 0,.string ⟨#[]⟩,.int .i64 0,.slice (some ⟨b1,0,none⟩) 1 c1] 25)):=jN _
 have B1:Hid (Below w.heap.size w (w1.alloc (Obj.cells #[.int .i64 0,.int .i64 0,.string ⟨#[]⟩,.int .i64 0,.slice (some ⟨b1,0,none⟩) 1 c1] 25))):=jD (Below.chain hb hA)
 have X1_1:=jD (Bx5.new w1 (.int .i64 0) (.int .i64 0) (.string ⟨#[]⟩) (.int .i64 0) (.slice (some ⟨b1,0,none⟩) 1 c1))
 have S1_1:=jD (hs.below hA)
 clear hs
 clear hb hA
 refine jD ?_
 go_wp2_with (go_at_call 7;refine cM (jjM _ (fun W hW=>HT.out W (Below.chain B1 hW)) (HE.out.below B1)) ?_;rintro e w2 ⟨rfl,hb⟩)
 have hA:Below w2.heap.size w2 (w2.alloc jZ):=jN _
 have B2:Hid (Below w.heap.size w (w2.alloc jZ)):=jD (Below.chain (Below.chain B1 hb) hA)
 have X1_2:=jD ((X1_1.out.below hb).below hA)
 have S1_2:=jD ((S1_1.out.below hb).below hA)
 have X2_2:=jD (Bx5.new w2 (.int .i64 0) (.int .i64 0) (.string ⟨#[]⟩) (.int .i64 0) (.slice none 0 0))
 clear hb hA
 refine jD ?_
 clear X1_1
 clear S1_1
 go_wp2_with (go_at_call 13;refine cM (jjN _ (fun W hW=>HT.out W (Below.chain B2 hW)) (HE.out.below B2)) ?_;rintro e w3 ⟨b3,c3,rfl,hb,hs⟩)
 have hA:Below w3.heap.size w3 (w3.alloc (Obj.cells #[.int .i64 22,.int .i64 0,.string ⟨#[111,114]⟩,.int .i64 0,.slice (some ⟨b3,0,none⟩) 2 c3] 25)):=jN _
 have B3:Hid (Below w.heap.size w (w3.alloc (Obj.cells #[.int .i64 22,.int .i64 0,.string ⟨#[111,114]⟩,.int .i64 0,.slice (some ⟨b3,0,none⟩) 2 c3] 25))):=jD (Below.chain (Below.chain B2 hb) hA)
 have X1_3:=jD ((X1_2.out.below hb).below hA)
 have S1_3:=jD ((S1_2.out.below hb).below hA)
 have X2_3:=jD ((X2_2.out.below hb).below hA)
 have X3_3:=jD (Bx5.new w3 (.int .i64 22) (.int .i64 0) (.string ⟨#[111,114]⟩) (.int .i64 0) (.slice (some ⟨b3,0,none⟩) 2 c3))
 have S3_3:=jD (hs.below hA)
 clear hs
 clear hb hA
 refine jD ?_
 clear X1_2
 clear S1_2
 clear X2_2
 go_wp2_with (go_at_call 13;refine cM (jjO _ (fun W hW=>HT.out W (Below.chain B3 hW)) (HE.out.below B3)) ?_;rintro e w4 ⟨rfl,hb⟩)
 have hA:Below w4.heap.size w4 (w4.alloc jZ):=jN _
 have B4:Hid (Below w.heap.size w (w4.alloc jZ)):=jD (Below.chain (Below.chain B3 hb) hA)
 have X1_4:=jD ((X1_3.out.below hb).below hA)
 have S1_4:=jD ((S1_3.out.below hb).below hA)
 have X2_4:=jD ((X2_3.out.below hb).below hA)
 have X3_4:=jD ((X3_3.out.below hb).below hA)
 have S3_4:=jD ((S3_3.out.below hb).below hA)
 have X4_4:=jD (Bx5.new w4 (.int .i64 0) (.int .i64 0) (.string ⟨#[]⟩) (.int .i64 0) (.slice none 0 0))
 clear hb hA
 refine jD ?_
 clear X1_3
 clear S1_3
 clear X2_3
 clear X3_3
 clear S3_3
 go_wp2_with (go_at_call 14;refine cM (jjP _ (fun W hW=>HT.out W (Below.chain B4 hW)) (HE.out.below B4)) ?_;rintro e w5 ⟨b5,c5,rfl,hb,hs⟩)
 have hA:Below w5.heap.size w5 (w5.alloc (Obj.cells #[.int .i64 22,.int .i64 0,.string ⟨#[42]⟩,.int .i64 0,.slice (some ⟨b5,0,none⟩) 2 c5] 25)):=jN _
 have B5:Hid (Below w.heap.size w (w5.alloc (Obj.cells #[.int .i64 22,.int .i64 0,.string ⟨#[42]⟩,.int .i64 0,.slice (some ⟨b5,0,none⟩) 2 c5] 25))):=jD (Below.chain (Below.chain B4 hb) hA)
 have X1_5:=jD ((X1_4.out.below hb).below hA)
 have S1_5:=jD ((S1_4.out.below hb).below hA)
 have X2_5:=jD ((X2_4.out.below hb).below hA)
 have X3_5:=jD ((X3_4.out.below hb).below hA)
 have S3_5:=jD ((S3_4.out.below hb).below hA)
 have X4_5:=jD ((X4_4.out.below hb).below hA)
 have X5_5:=jD (Bx5.new w5 (.int .i64 22) (.int .i64 0) (.string ⟨#[42]⟩) (.int .i64 0) (.slice (some ⟨b5,0,none⟩) 2 c5))
 have S5_5:=jD (hs.below hA)
 clear hs
 clear hb hA
 refine jD ?_
 clear X1_4
 clear S1_4
 clear X2_4
 clear X3_4
 clear S3_4
 clear X4_4
 obtain⟨p,q,r,p2,q2,r2,m1,m2,m3,m4,m5,m6,m7,m8,l1,l2,l3⟩:=jmB S1_5
 have n1:=jmC S3_5
 obtain⟨x1,s,s2,x2,x3,l4⟩:=jmD S5_5
 have hZ:Below (w5.alloc (Obj.cells #[.int .i64 22,.int .i64 0,.string ⟨#[42]⟩,.int .i64 0,.slice (some ⟨b5,0,none⟩) 2 c5] 25)).heap.size (w5.alloc (Obj.cells #[.int .i64 22,.int .i64 0,.string ⟨#[42]⟩,.int .i64 0,.slice (some ⟨b5,0,none⟩) 2 c5] 25)) ((w5.alloc (Obj.cells #[.int .i64 22,.int .i64 0,.string ⟨#[42]⟩,.int .i64 0,.slice (some ⟨b5,0,none⟩) 2 c5] 25)).alloc (Obj.cells #[.int .i64 9,.int .i64 14,.string ⟨#[]⟩,.int .i64 0,.slice (some ⟨r,0,none⟩) 2 r2] 25)):=jN _
 have BZ:=jD (Below.chain B5 hZ)
 have Y3:=X3_5.out.below hZ;have Y5:=X5_5.out.below hZ
 have YN:=Bx5.new (w5.alloc (Obj.cells #[.int .i64 22,.int .i64 0,.string ⟨#[42]⟩,.int .i64 0,.slice (some ⟨b5,0,none⟩) 2 c5] 25)) (.int .i64 9) (.int .i64 14) (.string ⟨#[]⟩) (.int .i64 0) (.slice (some ⟨r,0,none⟩) 2 r2)
 have z8:=(hZ.cell (p:=⟨r,5,none⟩) l3).trans m8
 have z1:=(hZ.cell (p:=⟨b3,2,none⟩) S3_5.out.lt).trans n1
 have z2:=(hZ.cell (p:=⟨b5,2,none⟩) S5_5.out.lt).trans x1
 have z3:=(hZ.cell (p:=⟨b5,4,none⟩) S5_5.out.lt).trans x2
 have z4:=(hZ.cell (p:=⟨s,1,none⟩) l4).trans x3
 obtain⟨d10,d11,d12,d13,d14,-,-⟩:=X1_5.out
 obtain⟨d30,d31,d32,d33,d34,-,-⟩:=X3_5.out
 obtain⟨d50,d51,d52,d53,d54,-,-⟩:=X5_5.out
 obtain⟨e30,e31,e32,e33,e34,-,-⟩:=Y3
 obtain⟨e50,e51,e52,e53,e54,-,-⟩:=Y5
 obtain⟨u0,u1,u2,u3,u4,-,-⟩:=YN
 clear hZ X1_5 X2_5 X3_5 X4_5 X5_5 S1_5 S3_5 S5_5 l1 l2 l3 l4
 go_wp2
 go_ret
 exact⟨rfl,BZ.out⟩
end Go.Proofs.YtenmmmdnpglkoaaGreatDoor

namespace Go.Proofs.YtenmmmdnpglkoaaGreatDoor
open Go Go.Proofs Go.RowKit
mutual
def eqS (o:Bool):Syn→Syn→Bool
 |.mk k a t n ks,.mk k' a' t' n' ls=>(k==k') && ((t==t') && ((n==n') && ((ks.length==ls.length) && ((!o || a==a') && eqL o ks ls))))
def eqL (o:Bool):List Syn→List Syn→Bool
 |x::xs,y::ys=>eqS o x y && eqL o xs ys
 |_,_=>true
end
theorem jgU (o:Bool) (l:List Syn):eqL o [] l=true:=by rw[eqL];intro x xs y ys h;cases h
mutual
def jmE:Syn→Syn
 |.mk k a t n ks=>.mk k 0 t n (jid ks)
def jid:List Syn→List Syn
 | []=>[]
 |x::xs=>jmE x::jid xs
end
theorem jiN (a b:ByteArray):(a==b)=true↔a=b:=by
 rw[beq_toListBytes,Lib.bytes_beq_iff]
mutual
theorem jlh:∀ x y:Syn,eqS true x y=true↔x=y
 |.mk k a t n ks,.mk k' a' t' n' ls=>by
  have ih:=jiO ks ls
  rw[eqS]
  simp only[Bool.and_eq_true,beq_iff_eq,jiN,Bool.not_true,Bool.false_or,Syn.mk.injEq]
  constructor
  ·rintro⟨h1,h2,h3,h4,h5,h6⟩
   exact⟨h1,h5,h2,h3,(ih h4).1 h6⟩
  ·rintro⟨h1,h5,h2,h3,h6⟩
   exact⟨h1,h2,h3,by rw[h6],h5,(ih (by rw[h6])).2 h6⟩
theorem jiO:∀ xs ys:List Syn,xs.length=ys.length→(eqL true xs ys=true↔xs=ys)
 | [],[],_=>by rw[jgU];simp
 | [],y::ys,h=>by simp at h
 |x::xs,[],h=>by simp at h
 |x::xs,y::ys,h=>by
  have i1:=jlh x y
  have i2:=jiO xs ys (by simpa using h)
  rw[eqL,Bool.and_eq_true,i1,i2,List.cons.injEq]
end
theorem jiP {o:Bool}:∀ xs ys:List Syn,xs.length=ys.length→(eqL o xs ys=true↔∀ (i:Nat) (h1:i<xs.length) (h2:i<ys.length),eqS o xs[i] ys[i]=true)
 | [],[],_=>by rw[jgU];simp
 | [],y::ys,h=>by simp at h
 |x::xs,[],h=>by simp at h
 |x::xs,y::ys,h=>by
  have i2:=jiP (o:=o) xs ys (by simpa using h)
  rw[eqL,Bool.and_eq_true,i2]
  constructor
  ·rintro⟨h1,h2⟩ i g1 g2
   cases i with
   |zero=>exact h1
   |succ i=>exact h2 i (by simpa using g1) (by simpa using g2)
  ·intro h1
   exact⟨h1 0 (by simp) (by simp),fun i g1 g2=>h1 (i+1) (by simpa using g1) (by simpa using g2)⟩
end Go.Proofs.YtenmmmdnpglkoaaGreatDoor

namespace Go.Proofs.YtenmmmdnpglkoaaGreatDoor
open Go Go.Proofs Go.RowKit Go.Sort
theorem jcK {lo:Nat} {W:World}:∀ (ks:List Syn) (b o i:Nat) (h:i<ks.length),rowAt lo W ks b o→∃ v0 v1 v2 v3 v4,W.cell? ⟨b,o+i * 5,none⟩=some v0∧W.cell? ⟨b,o+i * 5+1,none⟩=some v1∧W.cell? ⟨b,o+i * 5+2,none⟩=some v2∧W.cell? ⟨b,o+i * 5+3,none⟩=some v3∧W.cell? ⟨b,o+i * 5+4,none⟩=some v4∧synAt lo W ks[i] (.agg #[v0,v1,v2,v3,v4])
 | [],b,o,i,h,_=>by simp at h
 |x::r,b,o,0,_,h=>by
  rw[rowAt] at h
  obtain⟨⟨v0,v1,v2,v3,v4,c⟩,-⟩:=h
  exact⟨v0,v1,v2,v3,v4,by simpa using c⟩
 |x::r,b,o,i+1,hi,h=>by
  rw[rowAt] at h
  have e:o+(i+1) * 5=o+5+i * 5:=by omega
  rw[e]
  exact jcK r b (o+5) i (by simpa using hi) h.2
theorem jjS (f:Bool) (k a n k' a' n':Int) (t t':ByteArray) (ao bo:Option Addr) (l c m d:Nat) (w:World) (h:((k==k') && ((t==t') && ((n==n') && ((l==m) && (!f || a==a')))))=false) :
  Calls Tryz.prog 17 #[.agg #[.int .i64 k,.int .i64 a,.string t,.int .i64 n,.slice ao l c],.agg #[.int .i64 k',.int .i64 a',.string t',.int .i64 n',.slice bo m d],.bool f] w fun e w'=>e = .returned (.bool false)∧Below w.heap.size w w':=by
 have hA:Below w.heap.size w ((w.alloc (jO k a t n ao l c)).alloc (jO k' a' t' n' bo m d)):=((Below.refl _ _).alloc (jrr _) _).alloc (by simp) _
 have x1:=(Bx5.new w (.int .i64 k) (.int .i64 a) (.string t) (.int .i64 n) (.slice ao l c)).below ((Below.refl _ _).alloc (jrr _) (jO k' a' t' n' bo m d))
 have x2:=Bx5.new (w.alloc (jO k a t n ao l c)) (.int .i64 k') (.int .i64 a') (.string t') (.int .i64 n') (.slice bo m d)
 have hz:(w.alloc (jO k a t n ao l c)).heap.size=w.heap.size+1:=by simp
 obtain⟨p0,p1,p2,p3,p4,-,-⟩:=x1
 obtain⟨r0,r1,r2,r3,r4,-,-⟩:=x2
 rw[hz] at r0 r1 r2 r3 r4
 have HA:=jD hA
 rw[beq_toListBytes] at h
 have hlm:(((l:Nat):Int) != ((m:Nat):Int)) = !(l==m):=by
  by_cases q:l=m
  ·subst q;simp
  ·rw[show (l==m)=false from beq_eq_false_iff_ne.2 q]
   exact bne_iff_ne.2 (by omega)
 clear hA hz
 cases q1:(k==k') with
 |false=>
  have s1:(k != k')=true:=by rw[bne,q1];rfl
  clear h hlm q1
  go_enter Tryz.func17,Tryz.ntmps17
  go_wp2
  go_ret
  exact⟨rfl,HA.out⟩
 |true=>
  rw[q1,Bool.true_and] at h
  obtain rfl:k=k':=beq_iff_eq.1 q1
  cases q2:(t.toList==t'.toList) with
  |false=>
   have s2:(t.toList != t'.toList)=true:=by rw[bne,q2];rfl
   clear h hlm q1
   go_enter Tryz.func17,Tryz.ntmps17
   go_wp2
   go_ret
   exact⟨rfl,HA.out⟩
  |true=>
   rw[q2,Bool.true_and] at h
   obtain rfl:t=t':=(jiN t t').1 (by rw[beq_toListBytes];exact q2)
   cases q3:(n==n') with
   |false=>
    have s3:(n != n')=true:=by rw[bne,q3];rfl
    clear h hlm q1 q2 q3
    go_enter Tryz.func17,Tryz.ntmps17
    go_wp2
    go_ret
    exact⟨rfl,HA.out⟩
   |true=>
    rw[q3,Bool.true_and] at h
    obtain rfl:n=n':=beq_iff_eq.1 q3
    cases q4:(l==m) with
    |false=>
     rw[q4] at hlm
     have s4:(((l:Nat):Int) != ((m:Nat):Int))=true:=hlm
     clear h hlm q1 q2 q3 q4
     go_enter Tryz.func17,Tryz.ntmps17
     go_wp2
     go_ret
     exact⟨rfl,HA.out⟩
    |true=>
     rw[q4,Bool.true_and] at h
     obtain rfl:l=m:=beq_iff_eq.1 q4
     cases f with
     |false=>cases h
     |true=>
      have q5:(a==a')=false:=by simpa using h
      have s5:(a != a')=true:=by rw[bne,q5];rfl
      clear h hlm q1 q2 q3 q4 q5
      go_enter Tryz.func17,Tryz.ntmps17
      go_wp2
      go_ret
      exact⟨rfl,HA.out⟩
end Go.Proofs.YtenmmmdnpglkoaaGreatDoor
