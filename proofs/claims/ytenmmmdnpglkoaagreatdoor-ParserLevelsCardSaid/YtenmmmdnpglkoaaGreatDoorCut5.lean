import Derived.Test.YtenmmmdnpglkoaaGreatDoorCut4
set_option linter.unusedSimpArgs false
set_option linter.unusedVariables false
set_option maxRecDepth 100000
set_option maxHeartbeats 8000000
/-
 parser: fail, leave, isNumber, isName, must, accept, expect.
-/
namespace Go.Proofs.YtenmmmdnpglkoaaGreatDoor
open Go Go.Proofs Go.RowKit
theorem jib (R:Nat) (L:List Tk) (nx d at_ er:Int) (w:World) (h:RdAt w R L nx d at_ er) (hd:0≤d∧d≤1000000) :
  Calls Tryz.prog 116 #[.pointer (some ⟨R,0,none⟩)] w fun x w'=>x = .returned (.tuple #[])∧RdAt w' R L nx (d-1) at_ er∧Butt R w w':=by
 have HR:=jD h
 have u1:=(show wrap64 (d-1)=d-1 by unfold wrap64;omega)
 have h2:=h.c2
 have f2:=h.free 2
 clear h hd
 go_enter Tryz.func116,Tryz.ntmps116
 go_wp2
 go_end0
 exact⟨rfl,HR.out.put 2 (by decide) _,(Butt.refl R w).setCell 2 (by decide) _⟩
theorem jfG (R:Nat) (L:List Tk) (nx:Nat) (d at_ er:Int) (w:World) (h:RdAt w R L nx d at_ er) (hn:nx<L.length) :
  Calls Tryz.prog 130 #[.pointer (some ⟨R,0,none⟩)] w fun e w'=>e = .returned (.bool ((tkD L nx).k==1))∧Below w.heap.size w w':=by
 have CT:=jbF R L nx d at_ er w h hn
 clear h hn
 generalize tkD L nx=T at *
 obtain⟨tk,tt,ta⟩:=T
 dsimp only at CT
 dsimp only
 have KT:=jD CT
 clear CT
 have hf:=jeY
 go_enter Tryz.func130,Tryz.ntmps130
 go_wp2_with (go_at_call 72;refine KT.out.mono ?_;rintro e w3 ⟨rfl,hb3⟩;refine Hid.out ?_)
 have HB3:=jD hb3;clear hb3
 refine jD ?_
 go_wp2
 go_ret
 exact⟨rfl,HB3.out⟩
theorem jeC (R:Nat) (L:List Tk) (nx d at_ er a e:Int) (w:World) (h:RdAt w R L nx d at_ er) (hL:L.length≤1000000) :
  Calls Tryz.prog 108 #[.pointer (some ⟨R,0,none⟩),.int .i64 a,.int .i64 e] w fun x w'=>x = .returned (.tuple #[])∧RdAt w' R L ((L.length-1:Nat):Int) d (if er=0 then a else at_) (if er=0 then e else er)∧Butt R w w':=by
 have HR:=jD h
 have hlt:=h.pos
 obtain⟨m,hm⟩:∃ m,L.length=m+1:=⟨L.length-1,by have:=List.length_pos_iff.mpr hlt;omega⟩
 rw[hm,Nat.add_sub_cancel]
 have u2:=(show wrap64 ((m:Int)+1-1)=(m:Int) by unfold wrap64;omega)
 have u3:=(show wrap64 (m:Int)=(m:Int) by unfold wrap64;omega)
 obtain⟨⟨b,o,c,r0,-,r2,-⟩,h1,h2,h3,h4,h5,h6,-⟩:=h
 rw[hm] at r0
 have f1:=h6 1
 have f3:=h6 3
 have f4:=h6 4
 clear h6 hL hm hlt
 by_cases he:er=0
 ·subst he
  rw[if_pos rfl,if_pos rfl]
  go_enter Tryz.func108,Tryz.ntmps108
  go_wp2
  go_end0
  exact⟨rfl,((HR.out.put 3 (by decide) a).put 4 (by decide) e).put 1 (by decide) m,(((Butt.refl R w).setCell 3 (by decide) _).setCell 4 (by decide) _).setCell 1 (by decide) _⟩
 ·rw[if_neg he,if_neg he]
  have te:(er==(0:Int))=false:=by rw[beq_eq_false_iff_ne];omega
  have He:=jD he;clear he
  go_enter Tryz.func108,Tryz.ntmps108
  go_wp2
  go_end0
  exact⟨rfl,HR.out.put 1 (by decide) m,(Butt.refl R w).setCell 1 (by decide) _⟩
def tkA (t:Tk):Value:=.agg #[.int .i64 t.k,.string t.t,.int .i64 t.a]
theorem jeD (R:Nat) (L:List Tk) (nx:Nat) (d at_ er:Int) (can:Bool) (w:World) (h:RdAt w R L nx d at_ er) (hn:nx<L.length) (hL:L.length≤1000000) :
  Calls Tryz.prog 71 #[.pointer (some ⟨R,0,none⟩),.bool can] w fun e w'=>
   e = .returned (tkA (tkD L (if can=true then nx else L.length-1))) ∧
   RdAt w' R L (if can=true then min (nx+1) (L.length-1) else L.length-1:Nat) d (if can=true then at_ else if er=0 then (tkD L nx).a else at_) (if can=true then er else if er=0 then 4 else er)∧Butt R w w':=by
 have hz:=(Below.refl w.heap.size w).alloc (jrr _) (Obj.cells #[.int .i64 0,.string ⟨#[]⟩,.int .i64 0] 50)
 have hR1:=h.keep hz
 have hlen:L.length-1<L.length:=by have:=List.length_pos_iff.mpr h.pos;omega
 have hmin:min (L.length-1+1) (L.length-1)=L.length-1:=by omega
 have CT:=je1 R L
 have CH:=jgf R L nx d at_ er _ hR1 hn
 have CF:=fun a W H=>jeC R L nx d at_ er a 4 W H hL
 have HB:=jD (Butt.of_below (R:=R) h.lt hz);have HR1:=jD hR1;have KT:=jD CT;have KH:=jD CH;have KF:=jD CF;have HN:=jD hn;have HL:=jD hL;have HE:=jD hlen;have HM:=jD hmin;have HLT:=jD h.lt;have H0:=jD h
 have p0:(w.alloc (Obj.cells #[.int .i64 0,.string ⟨#[]⟩,.int .i64 0] 50)).cell? ⟨w.heap.size,0,none⟩=some (.int .i64 0):=World.cell?_alloc_new _ _ _ _
 have p1:(w.alloc (Obj.cells #[.int .i64 0,.string ⟨#[]⟩,.int .i64 0] 50)).cell? ⟨w.heap.size,1,none⟩=some (.string ⟨#[]⟩):=World.cell?_alloc_new _ _ _ _
 have p2:(w.alloc (Obj.cells #[.int .i64 0,.string ⟨#[]⟩,.int .i64 0] 50)).cell? ⟨w.heap.size,2,none⟩=some (.int .i64 0):=World.cell?_alloc_new _ _ _ _
 have ps:w.heap.size<(w.alloc (Obj.cells #[.int .i64 0,.string ⟨#[]⟩,.int .i64 0] 50)).heap.size:=by simp
 have pf:∀ j,(w.alloc (Obj.cells #[.int .i64 0,.string ⟨#[]⟩,.int .i64 0] 50)).frozen? ⟨w.heap.size,j,none⟩=false:=fun j=>World.frozen?_alloc_new _ _ _ _
 have HP:=jD (And.intro p0 (And.intro p1 (And.intro p2 (And.intro pf ps))))
 clear h hn hL CT CH CF hR1 hz hlen hmin p0 p1 p2 pf ps
 cases can with
 |true=>
  rw[if_pos rfl,if_pos rfl,if_pos rfl,if_pos rfl]
  go_enter Tryz.func71,Tryz.ntmps71
  go_wp2_with (go_at_call 109;refine(KT.out nx d at_ er _ HR1 HN HL).mono ?_;rintro e w3 ⟨rfl,hr3,hb3⟩;refine Hid.out ?_)
  obtain⟨p0,p1,p2,pf,ps⟩:=HP.out
  have hpR:w.heap.size≠R:=fun e=>absurd HLT (by rw[e];exact Nat.lt_irrefl _)
  have y0:=(hb3.cell (p:=⟨w.heap.size,0,none⟩) ps hpR).trans p0
  have y1:=(hb3.cell (p:=⟨w.heap.size,1,none⟩) ps hpR).trans p1
  have y2:=(hb3.cell (p:=⟨w.heap.size,2,none⟩) ps hpR).trans p2
  have f0:=(hb3.frozen (p:=⟨w.heap.size,0,none⟩) ps hpR).trans (pf 0)
  have f1:=(hb3.frozen (p:=⟨w.heap.size,1,none⟩) ps hpR).trans (pf 1)
  have f2:=(hb3.frozen (p:=⟨w.heap.size,2,none⟩) ps hpR).trans (pf 2)
  have RB:=jD (jge H0 (HB.out.trans hb3) hr3 (jrr _) (.int .i64 (tkD L nx).k) (.string (tkD L nx).t) (.int .i64 (tkD L nx).a))
  obtain⟨q0,q1,q2⟩:=box3 y0 y1 y2 (.int .i64 (tkD L nx).k) (.string (tkD L nx).t) (.int .i64 (tkD L nx).a)
  clear p0 p1 p2 pf ps hr3 hb3
  refine jD ?_
  go_wp2
  refine bodyPost_ret (by simp[results,Tryz.results71,go_sem,q0,q1,q2];rfl) rfl ?_
  exact⟨rfl,RB.out.1,RB.out.2⟩
 |false=>
  rw[if_neg Bool.false_ne_true,if_neg Bool.false_ne_true,if_neg Bool.false_ne_true,if_neg Bool.false_ne_true]
  have CF:=KF.out (tkD L nx).a
  clear KF
  generalize (if er=0 then (tkD L nx).a else at_)=AT at *
  generalize (if er=0 then (4:Int) else er)=ER at *
  have KF:=jD CF
  clear CF
  go_enter Tryz.func71,Tryz.ntmps71
  go_wp2_with (go_at_call 36;refine(KH.out).mono ?_;rintro e w3 ⟨rfl,hb3⟩;refine Hid.out ?_)
  have hr4:=HR1.out.keep hb3
  have HB3:=jD (Butt.of_below HR1.out.lt hb3)
  have HR4:=jD hr4
  clear hb3 hr4
  refine jD ?_
  go_wp2_with (go_at_call 108;refine(KF.out w3 HR4).mono ?_;rintro e w4 ⟨rfl,hr5,hb5⟩;refine Hid.out ?_)
  have HR5:=jD hr5
  have HB5:=jD (HB3.out.trans hb5)
  clear hr5 hb5
  refine jD ?_
  go_wp2_with (go_at_call 109;refine(KT.out (L.length-1) d _ _ w4 HR5 HE HL).mono ?_;rintro e w5 ⟨rfl,hr7,hb7⟩;refine Hid.out ?_)
  rw[HM.out] at hr7
  have hb6:=HB5.out.trans hb7
  clear hb7
  obtain⟨p0,p1,p2,pf,ps⟩:=HP.out
  have hpR:w.heap.size≠R:=fun e=>absurd HLT (by rw[e];exact Nat.lt_irrefl _)
  have y0:=(hb6.cell (p:=⟨w.heap.size,0,none⟩) ps hpR).trans p0
  have y1:=(hb6.cell (p:=⟨w.heap.size,1,none⟩) ps hpR).trans p1
  have y2:=(hb6.cell (p:=⟨w.heap.size,2,none⟩) ps hpR).trans p2
  have f0:=(hb6.frozen (p:=⟨w.heap.size,0,none⟩) ps hpR).trans (pf 0)
  have f1:=(hb6.frozen (p:=⟨w.heap.size,1,none⟩) ps hpR).trans (pf 1)
  have f2:=(hb6.frozen (p:=⟨w.heap.size,2,none⟩) ps hpR).trans (pf 2)
  have RB:=jD (jge H0 (HB.out.trans hb6) hr7 (jrr _) (.int .i64 (tkD L (L.length-1)).k) (.string (tkD L (L.length-1)).t) (.int .i64 (tkD L (L.length-1)).a))
  obtain⟨q0,q1,q2⟩:=box3 y0 y1 y2 (.int .i64 (tkD L (L.length-1)).k) (.string (tkD L (L.length-1)).t) (.int .i64 (tkD L (L.length-1)).a)
  clear p0 p1 p2 pf ps hr7 hb6
  refine jD ?_
  go_wp2
  refine bodyPost_ret (by simp[results,Tryz.results71,go_sem,q0,q1,q2];rfl) rfl ?_
  exact⟨rfl,RB.out.1,RB.out.2⟩
def isN (t:Tk):Bool:=(t.k==0) && decide (nmE t.t=0)
def nxM (L:List Tk) (nx:Nat) (can:Bool):Nat:=if can=true then min (nx+1) (L.length-1) else L.length-1
def tkM (L:List Tk) (nx:Nat) (can:Bool):Tk:=tkD L (if can=true then nx else L.length-1)
def atM (L:List Tk) (nx:Nat) (at_ er:Int) (can:Bool):Int:=if can=true then at_ else if er=0 then (tkD L nx).a else at_
def erM (er:Int) (can:Bool):Int:=if can=true then er else if er=0 then 4 else er
theorem jky {L:List Tk} {nx:Nat} (hn:nx<L.length) (can:Bool):nxM L nx can<L.length:=by unfold nxM;split<;>omega
theorem Butt.below {R:Nat} {w w':World} (hR:R<w.heap.size) (h:Butt R w w'):Below R w w':=⟨h.os,h.tape,h.output,h.size,fun k hk=>h.block k (Nat.lt_trans hk hR) (Nat.ne_of_lt hk)⟩
theorem Below.down {B C:Nat} {w w':World} (h:Below C w w') (hB:B≤C):Below B w w':=⟨h.os,h.tape,h.output,h.size,fun k hk=>h.block k (Nat.lt_of_lt_of_le hk hB)⟩
abbrev ClsAt (R:Nat) (w:World):Prop:=Lib.TabBelow Tryz.prog R w "surveyor/lexer.classes" .u8 jaH
theorem ClsAt.keep {R:Nat} {w w':World} (h:ClsAt R w) (hb:Below R w w'):ClsAt R w':=fun W hW=>h W (hb.trans hW)
theorem jdo (R:Nat) (L:List Tk) (nx:Nat) (d at_ er:Int) (s:ByteArray) (w:World) (h:RdAt w R L nx d at_ er) (hn:nx<L.length) (hL:L.length≤1000000) :
  Calls Tryz.prog 76 #[.pointer (some ⟨R,0,none⟩),.string s] w fun e w'=>e = .returned (.bool ((tkD L nx).t.toList==s.toList))∧RdAt w' R L (if ((tkD L nx).t.toList==s.toList)=true then min (nx+1) (L.length-1) else nx:Nat) d at_ er∧Butt R w w':=by
 have CI:=jgK R L nx d at_ er s w h hn
 have CT:=je1 R L nx d at_ er
 generalize ((tkD L nx).t.toList==s.toList)=can at *
 have KI:=jD CI;have KT:=jD CT;have H0:=jD h;have HN:=jD hn;have HL:=jD hL
 clear CI CT h hn hL
 cases can with
 |true=>
  rw[if_pos rfl]
  go_enter Tryz.func76,Tryz.ntmps76
  go_wp2_with (go_at_call 37;refine(KI.out).mono ?_;rintro e w3 ⟨rfl,hb3⟩;refine Hid.out ?_)
  have HR3:=jD (H0.out.keep hb3)
  have HB3:=jD (Butt.of_below H0.out.lt hb3)
  clear hb3
  refine jD ?_
  go_wp2_with (go_at_call 109;refine(KT.out w3 HR3 HN HL).mono ?_;rintro e w4 ⟨rfl,hr4,hb4⟩;refine Hid.out ?_)
  have HR4:=jD hr4
  have HB4:=jD (HB3.out.trans hb4)
  clear hr4 hb4
  refine jD ?_
  go_wp2
  go_ret
  exact⟨rfl,HR4.out,HB4.out⟩
 |false=>
  rw[if_neg Bool.false_ne_true]
  go_enter Tryz.func76,Tryz.ntmps76
  go_wp2_with (go_at_call 37;refine(KI.out).mono ?_;rintro e w3 ⟨rfl,hb3⟩;refine Hid.out ?_)
  have HR3:=jD (H0.out.keep hb3)
  have HB3:=jD (Butt.of_below H0.out.lt hb3)
  clear hb3
  refine jD ?_
  go_wp2
  go_ret
  exact⟨rfl,HR3.out,HB3.out⟩
theorem jdp (R:Nat) (L:List Tk) (nx:Nat) (d at_ er:Int) (w:World) (h:RdAt w R L nx d at_ er) (hn:nx<L.length) (hs:(tkD L nx).t.size≤9223372036854775807) (ht:ClsAt R w) :
  Calls Tryz.prog 110 #[.pointer (some ⟨R,0,none⟩)] w fun e w'=>e = .returned (.bool (isN (tkD L nx)))∧Below w.heap.size w w':=by
 have CT:=jbF R L nx d at_ er w h hn
 generalize tkD L nx=T at *
 obtain⟨tk,tt,ta⟩:=T
 dsimp only at CT hs
 unfold isN
 dsimp only
 have hlt:=h.lt
 have CN:=fun W (hb:Below w.heap.size w W)=>jj9 tt hs W (ht W (Below.down hb (Nat.le_of_lt hlt)))
 have KT:=jD CT;have KN:=jD CN
 clear h hn CT CN hs ht
 by_cases h0:tk=0
 ·subst h0
  have t:((0:Int)==0 && decide (nmE tt=0))=(((nmE tt:Nat):Int)==0):=by
   rw[show ((0:Int)==0)=true from rfl,Bool.true_and]
   by_cases e:nmE tt=0
   ·rw[e];rfl
   ·rw[decide_eq_false e]
    symm
    rw[beq_eq_false_iff_ne]
    omega
  rw[t]
  clear t
  go_enter Tryz.func110,Tryz.ntmps110
  go_wp2_with (go_at_call 72;refine(KT.out).mono ?_;rintro e w3 ⟨rfl,hb3⟩;refine Hid.out ?_)
  have hA:Below w3.heap.size w3 (w3.alloc (jU 0 tt ta)):=(Below.refl _ _).alloc (jrr _) _
  have HB4:=jD (Below.chain hb3 hA)
  have z0:(w3.alloc (jU 0 tt ta)).cell? ⟨w3.heap.size,0,none⟩=some (.int .i64 0):=World.cell?_alloc_new _ _ _ _
  have z1:(w3.alloc (jU 0 tt ta)).cell? ⟨w3.heap.size,1,none⟩=some (.string tt):=World.cell?_alloc_new _ _ _ _
  clear hA hb3
  refine jD ?_
  go_wp2_with (go_at_call 138;refine(KN.out _ HB4).mono ?_;rintro e w5 ⟨rfl,hb5⟩;refine Hid.out ?_)
  have HB5:=jD (Below.chain HB4 hb5)
  clear hb5
  refine jD ?_
  go_wp2
  go_ret
  exact⟨rfl,HB5.out⟩
 ·have t0:(tk==(0:Int))=false:=by rw[beq_eq_false_iff_ne];exact h0
  rw[t0,Bool.false_and]
  clear h0
  go_enter Tryz.func110,Tryz.ntmps110
  go_wp2_with (go_at_call 72;refine(KT.out).mono ?_;rintro e w3 ⟨rfl,hb3⟩;refine Hid.out ?_)
  have hA:Below w3.heap.size w3 (w3.alloc (jU tk tt ta)):=(Below.refl _ _).alloc (jrr _) _
  have HB4:=jD (Below.chain hb3 hA)
  have z0:(w3.alloc (jU tk tt ta)).cell? ⟨w3.heap.size,0,none⟩=some (.int .i64 tk):=World.cell?_alloc_new _ _ _ _
  clear hA hb3
  refine jD ?_
  go_wp2
  go_ret
  exact⟨rfl,HB4.out⟩
theorem jeE (R:Nat) (L:List Tk) (nx:Nat) (d at_ er:Int) (s:ByteArray) (w:World) (h:RdAt w R L nx d at_ er) (hn:nx<L.length) (hL:L.length≤1000000) :
  Calls Tryz.prog 35 #[.pointer (some ⟨R,0,none⟩),.string s] w fun e w'=>
   e = .returned (tkA (tkM L nx ((tkD L nx).t.toList==s.toList)))∧RdAt w' R L (nxM L nx ((tkD L nx).t.toList==s.toList)) d (atM L nx at_ er ((tkD L nx).t.toList==s.toList)) (erM er ((tkD L nx).t.toList==s.toList))∧Butt R w w':=by
 have hz:=(Below.refl w.heap.size w).alloc (jrr _) (Obj.cells #[.int .i64 0,.string ⟨#[]⟩,.int .i64 0] 50)
 have hR1:=h.keep hz
 have CC:=jgK R L nx d at_ er s _ hR1 hn
 have CM:=fun W (H:RdAt W R L nx d at_ er)=>jeD R L nx d at_ er ((tkD L nx).t.toList==s.toList) W H hn hL
 generalize hcan:((tkD L nx).t.toList==s.toList)=can at *
 unfold tkM nxM atM erM
 generalize (if can=true then at_ else if er=0 then (tkD L nx).a else at_)=AT at *
 generalize (if can=true then er else if er=0 then 4 else er)=ER at *
 generalize (if can=true then min (nx+1) (L.length-1) else L.length-1)=NX at *
 generalize (tkD L (if can=true then nx else L.length-1))=T at *
 obtain⟨tk,tt,ta⟩:=T
 unfold tkA at *
 dsimp only at *
 have HB:=jD (Butt.of_below (R:=R) h.lt hz);have HR1:=jD hR1;have KC:=jD CC;have KM:=jD CM;have HLT:=jD h.lt;have H0:=jD h
 have p0:(w.alloc (Obj.cells #[.int .i64 0,.string ⟨#[]⟩,.int .i64 0] 50)).cell? ⟨w.heap.size,0,none⟩=some (.int .i64 0):=World.cell?_alloc_new _ _ _ _
 have p1:(w.alloc (Obj.cells #[.int .i64 0,.string ⟨#[]⟩,.int .i64 0] 50)).cell? ⟨w.heap.size,1,none⟩=some (.string ⟨#[]⟩):=World.cell?_alloc_new _ _ _ _
 have p2:(w.alloc (Obj.cells #[.int .i64 0,.string ⟨#[]⟩,.int .i64 0] 50)).cell? ⟨w.heap.size,2,none⟩=some (.int .i64 0):=World.cell?_alloc_new _ _ _ _
 have ps:w.heap.size<(w.alloc (Obj.cells #[.int .i64 0,.string ⟨#[]⟩,.int .i64 0] 50)).heap.size:=by simp
 have pf:∀ j,(w.alloc (Obj.cells #[.int .i64 0,.string ⟨#[]⟩,.int .i64 0] 50)).frozen? ⟨w.heap.size,j,none⟩=false:=fun j=>World.frozen?_alloc_new _ _ _ _
 have HP:=jD (And.intro p0 (And.intro p1 (And.intro p2 (And.intro pf ps))))
 clear h hn hL CC CM hR1 hz p0 p1 p2 pf ps hcan
 go_enter Tryz.func35,Tryz.ntmps35
 go_wp2_with (go_at_call 37;refine(KC.out).mono ?_;rintro e w3 ⟨rfl,hb3⟩;refine Hid.out ?_)
 have HR4:=jD (HR1.out.keep hb3)
 have HB3:=jD (Butt.of_below HR1.out.lt hb3)
 clear hb3
 refine jD ?_
 go_wp2_with (go_at_call 71;refine(KM.out w3 HR4).mono ?_;rintro e w4 ⟨rfl,hr5,hb5⟩;refine Hid.out ?_)
 have hb6:=HB3.out.trans hb5
 clear hb5
 obtain⟨p0,p1,p2,pf,ps⟩:=HP.out
 have hpR:w.heap.size≠R:=fun e=>absurd HLT (by rw[e];exact Nat.lt_irrefl _)
 have y0:=(hb6.cell (p:=⟨w.heap.size,0,none⟩) ps hpR).trans p0
 have y1:=(hb6.cell (p:=⟨w.heap.size,1,none⟩) ps hpR).trans p1
 have y2:=(hb6.cell (p:=⟨w.heap.size,2,none⟩) ps hpR).trans p2
 have f0:=(hb6.frozen (p:=⟨w.heap.size,0,none⟩) ps hpR).trans (pf 0)
 have f1:=(hb6.frozen (p:=⟨w.heap.size,1,none⟩) ps hpR).trans (pf 1)
 have f2:=(hb6.frozen (p:=⟨w.heap.size,2,none⟩) ps hpR).trans (pf 2)
 have RB:=jD (jge H0 (HB.out.trans hb6) hr5 (jrr _) (.int .i64 tk) (.string tt) (.int .i64 ta))
 obtain⟨q0,q1,q2⟩:=box3 y0 y1 y2 (.int .i64 tk) (.string tt) (.int .i64 ta)
 clear p0 p1 p2 pf ps hb6 hr5
 refine jD ?_
 go_wp2
 refine bodyPost_ret (by simp[results,Tryz.results35,go_sem,q0,q1,q2];rfl) rfl ?_
 exact⟨rfl,RB.out.1,RB.out.2⟩
theorem jd9 (R:Nat) (L:List Tk) (nx:Nat) (d at_ er:Int) (w:World) (h:RdAt w R L nx d at_ er) (hn:nx<L.length) (hL:L.length≤1000000) (hs:(tkD L nx).t.size≤9223372036854775807) (ht:ClsAt R w) :
  Calls Tryz.prog 73 #[.pointer (some ⟨R,0,none⟩)] w fun e w'=>
   e = .returned (tkA (tkM L nx (isN (tkD L nx))))∧RdAt w' R L (nxM L nx (isN (tkD L nx))) d (atM L nx at_ er (isN (tkD L nx))) (erM er (isN (tkD L nx)))∧Butt R w w':=by
 have hz:=(Below.refl w.heap.size w).alloc (jrr _) (Obj.cells #[.int .i64 0,.string ⟨#[]⟩,.int .i64 0] 50)
 have hR1:=h.keep hz
 have CC:=jdp R L nx d at_ er _ hR1 hn hs (ht.keep (Below.down hz (Nat.le_of_lt h.lt)))
 have CM:=fun W (H:RdAt W R L nx d at_ er)=>jeD R L nx d at_ er (isN (tkD L nx)) W H hn hL
 generalize hcan:(isN (tkD L nx))=can at *
 unfold tkM nxM atM erM
 generalize (if can=true then at_ else if er=0 then (tkD L nx).a else at_)=AT at *
 generalize (if can=true then er else if er=0 then 4 else er)=ER at *
 generalize (if can=true then min (nx+1) (L.length-1) else L.length-1)=NX at *
 generalize (tkD L (if can=true then nx else L.length-1))=T at *
 obtain⟨tk,tt,ta⟩:=T
 unfold tkA at *
 dsimp only at *
 have HB:=jD (Butt.of_below (R:=R) h.lt hz);have HR1:=jD hR1;have KC:=jD CC;have KM:=jD CM;have HLT:=jD h.lt;have H0:=jD h
 have p0:(w.alloc (Obj.cells #[.int .i64 0,.string ⟨#[]⟩,.int .i64 0] 50)).cell? ⟨w.heap.size,0,none⟩=some (.int .i64 0):=World.cell?_alloc_new _ _ _ _
 have p1:(w.alloc (Obj.cells #[.int .i64 0,.string ⟨#[]⟩,.int .i64 0] 50)).cell? ⟨w.heap.size,1,none⟩=some (.string ⟨#[]⟩):=World.cell?_alloc_new _ _ _ _
 have p2:(w.alloc (Obj.cells #[.int .i64 0,.string ⟨#[]⟩,.int .i64 0] 50)).cell? ⟨w.heap.size,2,none⟩=some (.int .i64 0):=World.cell?_alloc_new _ _ _ _
 have ps:w.heap.size<(w.alloc (Obj.cells #[.int .i64 0,.string ⟨#[]⟩,.int .i64 0] 50)).heap.size:=by simp
 have pf:∀ j,(w.alloc (Obj.cells #[.int .i64 0,.string ⟨#[]⟩,.int .i64 0] 50)).frozen? ⟨w.heap.size,j,none⟩=false:=fun j=>World.frozen?_alloc_new _ _ _ _
 have HP:=jD (And.intro p0 (And.intro p1 (And.intro p2 (And.intro pf ps))))
 clear h hn hL CC CM hR1 hz p0 p1 p2 pf ps hcan hs ht
 go_enter Tryz.func73,Tryz.ntmps73
 go_wp2_with (go_at_call 110;refine(KC.out).mono ?_;rintro e w3 ⟨rfl,hb3⟩;refine Hid.out ?_)
 have HR4:=jD (HR1.out.keep hb3)
 have HB3:=jD (Butt.of_below HR1.out.lt hb3)
 clear hb3
 refine jD ?_
 go_wp2_with (go_at_call 71;refine(KM.out w3 HR4).mono ?_;rintro e w4 ⟨rfl,hr5,hb5⟩;refine Hid.out ?_)
 have hb6:=HB3.out.trans hb5
 clear hb5
 obtain⟨p0,p1,p2,pf,ps⟩:=HP.out
 have hpR:w.heap.size≠R:=fun e=>absurd HLT (by rw[e];exact Nat.lt_irrefl _)
 have y0:=(hb6.cell (p:=⟨w.heap.size,0,none⟩) ps hpR).trans p0
 have y1:=(hb6.cell (p:=⟨w.heap.size,1,none⟩) ps hpR).trans p1
 have y2:=(hb6.cell (p:=⟨w.heap.size,2,none⟩) ps hpR).trans p2
 have f0:=(hb6.frozen (p:=⟨w.heap.size,0,none⟩) ps hpR).trans (pf 0)
 have f1:=(hb6.frozen (p:=⟨w.heap.size,1,none⟩) ps hpR).trans (pf 1)
 have f2:=(hb6.frozen (p:=⟨w.heap.size,2,none⟩) ps hpR).trans (pf 2)
 have RB:=jD (jge H0 (HB.out.trans hb6) hr5 (jrr _) (.int .i64 tk) (.string tt) (.int .i64 ta))
 obtain⟨q0,q1,q2⟩:=box3 y0 y1 y2 (.int .i64 tk) (.string tt) (.int .i64 ta)
 clear p0 p1 p2 pf ps hb6 hr5
 refine jD ?_
 go_wp2
 refine bodyPost_ret (by simp[results,Tryz.results73,go_sem,q0,q1,q2];rfl) rfl ?_
 exact⟨rfl,RB.out.1,RB.out.2⟩
def atF (at_ er a:Int):Int:=if er=0 then a else at_
def erF (er e:Int):Int:=if er=0 then e else er
theorem jic (R:Nat) (L:List Tk) (nx:Nat) (d at_ er:Int) (s:ByteArray) (w:World) (h:RdAt w R L nx d at_ er) (hn:nx<L.length) (hL:L.length≤1000000) (hd:0≤d∧d≤1000000) :
  Calls Tryz.prog 113 #[.pointer (some ⟨R,0,none⟩),.string s] w fun e w'=>
   e = .returned (tkA (tkM L nx ((tkD L nx).t.toList==s.toList))) ∧
   RdAt w' R L (if d=64 then L.length-1 else nxM L nx ((tkD L nx).t.toList==s.toList):Nat) (d+1)
    (if d=64 then atF (atM L nx at_ er ((tkD L nx).t.toList==s.toList)) (erM er ((tkD L nx).t.toList==s.toList)) (tkM L nx ((tkD L nx).t.toList==s.toList)).a else atM L nx at_ er ((tkD L nx).t.toList==s.toList))
    (if d=64 then erF (erM er ((tkD L nx).t.toList==s.toList)) 12 else erM er ((tkD L nx).t.toList==s.toList))∧Butt R w w':=by
 have hz:=(Below.refl w.heap.size w).alloc (jrr _) (Obj.cells #[.int .i64 0,.string ⟨#[]⟩,.int .i64 0] 50)
 have hR1:=h.keep hz
 have CX:=jeE R L nx d at_ er s _ hR1 hn hL
 have hnx:=jky hn ((tkD L nx).t.toList==s.toList)
 generalize ((tkD L nx).t.toList==s.toList)=can at *
 generalize nxM L nx can=NX at *
 generalize atM L nx at_ er can=AT at *
 generalize erM er can=ER at *
 generalize tkM L nx can=T at *
 obtain⟨tk,tt,ta⟩:=T
 unfold tkA at *
 dsimp only at *
 have CF:=fun W (H:RdAt W R L NX d AT ER)=>jeC R L NX d AT ER ta 12 W H hL
 unfold atF erF
 generalize (if ER=0 then ta else AT)=AF at *
 generalize (if ER=0 then (12:Int) else ER)=EF at *
 have u1:=(show wrap64 (d+1)=d+1 by unfold wrap64;omega)
 have HB:=jD (Butt.of_below (R:=R) h.lt hz);have HR1:=jD hR1;have KX:=jD CX;have KF:=jD CF;have HLT:=jD h.lt;have H0:=jD h
 have p0:(w.alloc (Obj.cells #[.int .i64 0,.string ⟨#[]⟩,.int .i64 0] 50)).cell? ⟨w.heap.size,0,none⟩=some (.int .i64 0):=World.cell?_alloc_new _ _ _ _
 have p1:(w.alloc (Obj.cells #[.int .i64 0,.string ⟨#[]⟩,.int .i64 0] 50)).cell? ⟨w.heap.size,1,none⟩=some (.string ⟨#[]⟩):=World.cell?_alloc_new _ _ _ _
 have p2:(w.alloc (Obj.cells #[.int .i64 0,.string ⟨#[]⟩,.int .i64 0] 50)).cell? ⟨w.heap.size,2,none⟩=some (.int .i64 0):=World.cell?_alloc_new _ _ _ _
 have ps:w.heap.size<(w.alloc (Obj.cells #[.int .i64 0,.string ⟨#[]⟩,.int .i64 0] 50)).heap.size:=by simp
 have pf:∀ j,(w.alloc (Obj.cells #[.int .i64 0,.string ⟨#[]⟩,.int .i64 0] 50)).frozen? ⟨w.heap.size,j,none⟩=false:=fun j=>World.frozen?_alloc_new _ _ _ _
 have HP:=jD (And.intro p0 (And.intro p1 (And.intro p2 (And.intro pf ps))))
 clear h hn hL CX CF hR1 hz p0 p1 p2 pf ps hnx hd
 by_cases h64:d=64
 ·rw[if_pos h64,if_pos h64,if_pos h64]
  have t64:(d==(64:Int))=true:=by rw[beq_iff_eq];exact h64
  clear h64
  go_enter Tryz.func113,Tryz.ntmps113
  go_wp2_with (go_at_call 35;refine(KX.out).mono ?_;rintro e w3 ⟨rfl,hr3,hb3⟩;refine Hid.out ?_)
  have hA:Below w3.heap.size w3 (w3.alloc (jU tk tt ta)):=(Below.refl _ _).alloc (jrr _) _
  have z0:(w3.alloc (jU tk tt ta)).cell? ⟨w3.heap.size,0,none⟩=some (.int .i64 tk):=World.cell?_alloc_new _ _ _ _
  have z1:(w3.alloc (jU tk tt ta)).cell? ⟨w3.heap.size,1,none⟩=some (.string tt):=World.cell?_alloc_new _ _ _ _
  have z2:(w3.alloc (jU tk tt ta)).cell? ⟨w3.heap.size,2,none⟩=some (.int .i64 ta):=World.cell?_alloc_new _ _ _ _
  have zs:w3.heap.size<(w3.alloc (jU tk tt ta)).heap.size:=by simp
  have hr4:=hr3.keep hA
  have HB4:=jD (hb3.trans (Butt.of_below hr3.lt hA))
  have HR4:=jD hr4
  have hqR:w3.heap.size≠R:=fun e=>absurd hr3.lt (by rw[e];exact Nat.lt_irrefl _)
  have h2:=hr4.c2
  have HQ:=jD (And.intro zs hqR)
  clear hA hr3 hb3 hr4 zs hqR
  refine jD ?_
  go_wp2_with (go_at_call 108;refine(KF.out _ HR4).mono ?_;rintro e w5 ⟨rfl,hr5,hb5⟩;refine Hid.out ?_)
  obtain⟨zs,hqR⟩:=HQ.out
  have x0:=(hb5.cell (p:=⟨w3.heap.size,0,none⟩) zs hqR).trans z0
  have x1:=(hb5.cell (p:=⟨w3.heap.size,1,none⟩) zs hqR).trans z1
  have x2:=(hb5.cell (p:=⟨w3.heap.size,2,none⟩) zs hqR).trans z2
  have hb6:=HB4.out.trans hb5
  clear z0 z1 z2 zs hqR h2 hb5
  have h2:=hr5.c2
  have g2:=hr5.free 2
  obtain⟨p0,p1,p2,pf,ps⟩:=HP.out
  have hpR:w.heap.size≠R:=fun e=>absurd HLT (by rw[e];exact Nat.lt_irrefl _)
  have np:(⟨R,2,none⟩:Addr)≠⟨w.heap.size,2,none⟩:=fun e=>hpR (by cases e;rfl)
  have nq:(⟨R,2,none⟩:Addr)≠⟨w3.heap.size,2,none⟩:=fun e=>HQ.out.2 (by cases e;rfl)
  have y0:=(hb6.cell (p:=⟨w.heap.size,0,none⟩) ps hpR).trans p0
  have y1:=(hb6.cell (p:=⟨w.heap.size,1,none⟩) ps hpR).trans p1
  have y2:=(hb6.cell (p:=⟨w.heap.size,2,none⟩) ps hpR).trans p2
  have f0:=(hb6.frozen (p:=⟨w.heap.size,0,none⟩) ps hpR).trans (pf 0)
  have f1:=(hb6.frozen (p:=⟨w.heap.size,1,none⟩) ps hpR).trans (pf 1)
  have f2:=(hb6.frozen (p:=⟨w.heap.size,2,none⟩) ps hpR).trans (pf 2)
  have y0':(w5.setCell ⟨R,2,none⟩ (.int .i64 (d+1))).cell? ⟨w.heap.size,0,none⟩=_:=(World.cell?_setCell_other w5 ⟨R,2,none⟩ ⟨w.heap.size,0,none⟩ _ (by simp)).trans y0
  have y1':(w5.setCell ⟨R,2,none⟩ (.int .i64 (d+1))).cell? ⟨w.heap.size,1,none⟩=_:=(World.cell?_setCell_other w5 ⟨R,2,none⟩ ⟨w.heap.size,1,none⟩ _ (by simp)).trans y1
  have y2':(w5.setCell ⟨R,2,none⟩ (.int .i64 (d+1))).cell? ⟨w.heap.size,2,none⟩=_:=(World.cell?_setCell_other w5 ⟨R,2,none⟩ ⟨w.heap.size,2,none⟩ _ np).trans y2
  have x2':(w5.setCell ⟨R,2,none⟩ (.int .i64 (d+1))).cell? ⟨w3.heap.size,2,none⟩=_:=(World.cell?_setCell_other w5 ⟨R,2,none⟩ ⟨w3.heap.size,2,none⟩ _ nq).trans x2
  have RB:=jD (jge H0 (HB.out.trans (hb6.setCell 2 (by decide) (.int .i64 (d+1)))) (hr5.put 2 (by decide) (d+1)) (jrr _) (.int .i64 tk) (.string tt) (.int .i64 ta))
  obtain⟨q0,q1,q2⟩:=box3 y0' y1' y2' (.int .i64 tk) (.string tt) (.int .i64 ta)
  clear p0 p1 p2 pf ps hr5 hb6 np nq
  refine jD ?_
  go_wp2
  refine bodyPost_ret (by simp[results,Tryz.results113,go_sem,q0,q1,q2];rfl) rfl ?_
  exact⟨rfl,RB.out.1,RB.out.2⟩
 ·rw[if_neg h64,if_neg h64,if_neg h64]
  have t64:(d==(64:Int))=false:=by rw[beq_eq_false_iff_ne];exact h64
  clear h64
  go_enter Tryz.func113,Tryz.ntmps113
  go_wp2_with (go_at_call 35;refine(KX.out).mono ?_;rintro e w3 ⟨rfl,hr3,hb3⟩;refine Hid.out ?_)
  have hA:Below w3.heap.size w3 (w3.alloc (jU tk tt ta)):=(Below.refl _ _).alloc (jrr _) _
  have z0:(w3.alloc (jU tk tt ta)).cell? ⟨w3.heap.size,0,none⟩=some (.int .i64 tk):=World.cell?_alloc_new _ _ _ _
  have z1:(w3.alloc (jU tk tt ta)).cell? ⟨w3.heap.size,1,none⟩=some (.string tt):=World.cell?_alloc_new _ _ _ _
  have z2:(w3.alloc (jU tk tt ta)).cell? ⟨w3.heap.size,2,none⟩=some (.int .i64 ta):=World.cell?_alloc_new _ _ _ _
  have zs:w3.heap.size<(w3.alloc (jU tk tt ta)).heap.size:=by simp
  have hr4:=hr3.keep hA
  have HB4:=jD (hb3.trans (Butt.of_below hr3.lt hA))
  have HR4:=jD hr4
  have hqR:w3.heap.size≠R:=fun e=>absurd hr3.lt (by rw[e];exact Nat.lt_irrefl _)
  have h2:=hr4.c2
  have HQ:=jD (And.intro zs hqR)
  clear hA hr3 hb3 hr4 zs hqR
  obtain⟨zs,hqR⟩:=HQ.out
  have x0:=z0;have x1:=z1;have x2:=z2
  have hr5:=HR4.out
  have hb6:=HB4.out
  clear h2
  have h2:=hr5.c2
  have g2:=hr5.free 2
  obtain⟨p0,p1,p2,pf,ps⟩:=HP.out
  have hpR:w.heap.size≠R:=fun e=>absurd HLT (by rw[e];exact Nat.lt_irrefl _)
  have np:(⟨R,2,none⟩:Addr)≠⟨w.heap.size,2,none⟩:=fun e=>hpR (by cases e;rfl)
  have nq:(⟨R,2,none⟩:Addr)≠⟨w3.heap.size,2,none⟩:=fun e=>HQ.out.2 (by cases e;rfl)
  have y0:=(hb6.cell (p:=⟨w.heap.size,0,none⟩) ps hpR).trans p0
  have y1:=(hb6.cell (p:=⟨w.heap.size,1,none⟩) ps hpR).trans p1
  have y2:=(hb6.cell (p:=⟨w.heap.size,2,none⟩) ps hpR).trans p2
  have f0:=(hb6.frozen (p:=⟨w.heap.size,0,none⟩) ps hpR).trans (pf 0)
  have f1:=(hb6.frozen (p:=⟨w.heap.size,1,none⟩) ps hpR).trans (pf 1)
  have f2:=(hb6.frozen (p:=⟨w.heap.size,2,none⟩) ps hpR).trans (pf 2)
  have y0':((w3.alloc (jU tk tt ta)).setCell ⟨R,2,none⟩ (.int .i64 (d+1))).cell? ⟨w.heap.size,0,none⟩=_:=(World.cell?_setCell_other (w3.alloc (jU tk tt ta)) ⟨R,2,none⟩ ⟨w.heap.size,0,none⟩ _ (by simp)).trans y0
  have y1':((w3.alloc (jU tk tt ta)).setCell ⟨R,2,none⟩ (.int .i64 (d+1))).cell? ⟨w.heap.size,1,none⟩=_:=(World.cell?_setCell_other (w3.alloc (jU tk tt ta)) ⟨R,2,none⟩ ⟨w.heap.size,1,none⟩ _ (by simp)).trans y1
  have y2':((w3.alloc (jU tk tt ta)).setCell ⟨R,2,none⟩ (.int .i64 (d+1))).cell? ⟨w.heap.size,2,none⟩=_:=(World.cell?_setCell_other (w3.alloc (jU tk tt ta)) ⟨R,2,none⟩ ⟨w.heap.size,2,none⟩ _ np).trans y2
  have x2':((w3.alloc (jU tk tt ta)).setCell ⟨R,2,none⟩ (.int .i64 (d+1))).cell? ⟨w3.heap.size,2,none⟩=_:=(World.cell?_setCell_other (w3.alloc (jU tk tt ta)) ⟨R,2,none⟩ ⟨w3.heap.size,2,none⟩ _ nq).trans x2
  have RB:=jD (jge H0 (HB.out.trans (hb6.setCell 2 (by decide) (.int .i64 (d+1)))) (hr5.put 2 (by decide) (d+1)) (jrr _) (.int .i64 tk) (.string tt) (.int .i64 ta))
  obtain⟨q0,q1,q2⟩:=box3 y0' y1' y2' (.int .i64 tk) (.string tt) (.int .i64 ta)
  clear p0 p1 p2 pf ps hr5 hb6 np nq
  refine jD ?_
  go_wp2
  refine bodyPost_ret (by simp[results,Tryz.results113,go_sem,q0,q1,q2];rfl) rfl ?_
  exact⟨rfl,RB.out.1,RB.out.2⟩
theorem cls3:∀ n:Nat,n<256→decide (cls n=3)=((decide (97≤n) && decide (n≤122)) || (decide (65≤n) && decide (n≤90))):=by decide +kernel
theorem cls4:∀ n:Nat,n<256→decide (cls n=4)=(decide (48≤n) && decide (n≤57)):=by decide +kernel
theorem cls1:∀ n:Nat,n<256→decide (cls n=1)=(((decide (n=32) || decide (n=9)) || decide (n=13)) || decide (n=10)):=by decide +kernel
theorem cls2:∀ n:Nat,n<256→decide (cls n=2)=decide (n=35):=by decide +kernel
theorem dI (a b:Nat):decide ((a:Int)≤(b:Int))=decide (a≤b):=by rw[Bool.eq_iff_iff,decide_eq_true_iff,decide_eq_true_iff];omega
theorem bI (a b:Nat):((a:Int)==(b:Int))=decide (a=b):=by rw[Bool.eq_iff_iff,beq_iff_eq,decide_eq_true_iff];omega
theorem jdy (n:Nat) (hn:n<256) (w:World):Calls Tryz.prog 45 #[.int .u8 (n:Int)] w fun e w'=>e = .returned (.bool (decide (cls n=4)))∧w'=w:=by
 rw[cls4 n hn]
 have h1:=dI 48 n;have h2:=dI n 57
 cases e1:decide (48≤n)
 ·rw[e1] at h1
  rw[Bool.false_and]
  have h1:decide ((48:Int)≤(n:Int))=false:=h1
  have E1:=jD e1;clear e1 h2
  go_enter Tryz.func45,Tryz.ntmps45
  go_wp2
  go_ret
  exact⟨rfl,rfl⟩
 ·rw[e1] at h1
  rw[Bool.true_and]
  have h1:decide ((48:Int)≤(n:Int))=true:=h1
  have h2:decide ((n:Int)≤(57:Int))=decide (n≤57):=h2
  generalize decide (n≤57)=v at *
  have E1:=jD e1;clear e1
  go_enter Tryz.func45,Tryz.ntmps45
  go_wp2
  go_ret
  exact⟨rfl,rfl⟩
theorem jfq (n:Nat) (hn:n<256) (w:World):Calls Tryz.prog 81 #[.int .u8 (n:Int)] w fun e w'=>e = .returned (.bool (decide (cls n=3)))∧w'=w:=by
 rw[cls3 n hn]
 have h1:decide ((97:Int)≤(n:Int))=decide (97≤n):=dI 97 n
 have h2:decide ((n:Int)≤(122:Int))=decide (n≤122):=dI n 122
 have h3:decide ((65:Int)≤(n:Int))=decide (65≤n):=dI 65 n
 have h4:decide ((n:Int)≤(90:Int))=decide (n≤90):=dI n 90
 clear hn
 generalize decide (97≤n)=b1 at *
 generalize decide (n≤122)=b2 at *
 generalize decide (65≤n)=b3 at *
 generalize decide (n≤90)=b4 at *
 generalize (n:Int)=z at *
 cases b1<;>cases b2<;>cases b3<;>cases b4
 all_goals
  go_enter Tryz.func81,Tryz.ntmps81
  go_wp2
  go_ret
  exact⟨rfl,rfl⟩
theorem ji7 (n:Nat) (hn:n<256) (w:World):Calls Tryz.prog 41 #[.int .u8 (n:Int)] w fun e w'=>e = .returned (.bool (decide (cls n=1)))∧w'=w:=by
 rw[cls1 n hn]
 have h1:((n:Int)==(32:Int))=decide (n=32):=bI n 32
 have h2:((n:Int)==(9:Int))=decide (n=9):=bI n 9
 have h3:((n:Int)==(13:Int))=decide (n=13):=bI n 13
 have h4:((n:Int)==(10:Int))=decide (n=10):=bI n 10
 clear hn
 generalize decide (n=32)=b1 at *
 generalize decide (n=9)=b2 at *
 generalize decide (n=13)=b3 at *
 generalize decide (n=10)=b4 at *
 generalize (n:Int)=z at *
 cases b1<;>cases b2<;>cases b3<;>cases b4
 all_goals
  go_enter Tryz.func41,Tryz.ntmps41
  go_wp2
  go_ret
  exact⟨rfl,rfl⟩
theorem jew (s:ByteArray) (hs:s.size≤9223372036854775807) (w:World) :
  Calls Tryz.prog 43 #[.string s] w fun e w'=>e = .returned (.int .i64 (wl (bytes s):Nat))∧w'=w:=by
 have hle:=jhQ (bytes s)
 rw[jan] at hle
 have hin:∀ j,j<wl (bytes s)→wdB (jaa s j)=true:=fun j hj=>jkB (bytes s) j hj
 have hend:wl (bytes s)<s.size→wdB (jaa s (wl (bytes s)))=false:=fun h=>ji0 (bytes s) (by rw[jan];exact h)
 generalize wl (bytes s)=n at *
 have HIN:=jD hin;have HEND:=jD hend
 clear hin hend
 go_enter Tryz.func43,Tryz.ntmps43
 go_wp2_with fail
 go_loopw [3] (fun iv wr=>∃ j:Nat,j≤n∧iv = .int .i64 (j:Int)∧wr=w) (fun iv _=>n-(intOf iv).toNat)
 case atStart=>exact⟨0,Nat.zero_le _,rfl,rfl⟩
 case round=>
  obtain⟨j,hj,rfl,hw⟩:=hrel
  subst hw
  by_cases hlt:j<s.size
  ·have hb:=ja7 s j hlt
   have hl:=jfq (jaa s j) (jbc s j)
   have hd:=jdy (jaa s j) (jbc s j)
   have hj0:(0:Int)≤(j:Int):=by omega
   have hj1:(j:Int)<(s.size:Int):=by omega
   by_cases hjn:j<n
   ·have hwd:=HIN.out j hjn
    unfold wdB at hwd
    generalize decide (cls (jaa s j)=3)=v3 at *
    generalize decide (cls (jaa s j)=4)=v4 at *
    generalize jaa s j=b at *
    have KL:=jD hl;have KD:=jD hd;clear hl hd
    cases v3
    ·obtain rfl:v4=true:=by simpa using hwd
     clear hwd
     go_wp2_with (go_at_call 81;refine(KL.out _).mono ?_;rintro e w3 ⟨rfl,h⟩;subst h;refine Hid.out ?_)
     refine jD ?_
     go_wp2_with (go_at_call 45;refine(KD.out _).mono ?_;rintro e w3 ⟨rfl,h⟩;subst h;refine Hid.out ?_)
     refine jD ?_
     go_wp2
     go_roundw
     case rel=>exact⟨j+1,by omega,by go_num,by trivial⟩
     case measure=>simp[intOf];omega
    ·clear hwd
     go_wp2_with (go_at_call 81;refine(KL.out _).mono ?_;rintro e w3 ⟨rfl,h⟩;subst h;refine Hid.out ?_)
     refine jD ?_
     go_wp2
     go_roundw
     case rel=>exact⟨j+1,by omega,by go_num,by trivial⟩
     case measure=>simp[intOf];omega
   ·obtain rfl:j=n:=by omega
    have hwd:=HEND.out hlt
    unfold wdB at hwd
    rw[Bool.or_eq_false_iff] at hwd
    obtain⟨q3,q4⟩:=hwd
    rw[q3] at hl
    rw[q4] at hd
    generalize jaa s j=b at *
    have KL:=jD hl;have KD:=jD hd;clear hl hd q3 q4
    go_wp2_with (go_at_call 81;refine(KL.out _).mono ?_;rintro e w3 ⟨rfl,h⟩;subst h;refine Hid.out ?_)
    refine jD ?_
    go_wp2_with (go_at_call 45;refine(KD.out _).mono ?_;rintro e w3 ⟨rfl,h⟩;subst h;refine Hid.out ?_)
    refine jD ?_
    go_wp2
    go_ret
    exact⟨rfl,rfl⟩
  ·obtain rfl:j=n:=by omega
   have hge:¬ (j:Int)<(s.size:Int):=by omega
   go_wp2
   go_ret
   exact⟨rfl,rfl⟩
theorem jhT {s:ByteArray} {j:Nat} (hj:j<s.size) (h:cls (jaa s j)≠4):jcg (bytes s)=4:=by
 have e:adB (bytes s)=false:=by
  unfold adB
  rw[Bool.and_eq_false_iff]
  refine .inl (List.all_eq_false.2 ⟨(bytes s)[j]'hj,List.getElem_mem _,?_⟩)
  rw[←jbk hj]
  unfold dgB
  simpa using h
 unfold jcg
 rw[e,if_neg (by simp)]
theorem jgD {s:ByteArray} (h:∀ j,j<s.size→cls (jaa s j)=4):jcg (bytes s)=if s.size=0 then 4 else if jaa s 0=48∧1<s.size then 3 else if 100<s.size then 10 else 0:=by
 have e:adB (bytes s) = !decide (s.size=0):=by
  unfold adB
  have:((bytes s).all fun c=>dgB c.toNat)=true:=by
   rw[List.all_eq_true]
   intro c hc
   obtain⟨j,hj,rfl⟩:=List.mem_iff_getElem.1 hc
   have:=h j hj
   rw[jbk hj] at this
   unfold dgB
   rw[this];rfl
  rw[this,Bool.true_and]
  show (!(bytes s).isEmpty) = !decide ((bytes s).length=0)
  cases bytes s<;>simp
 unfold jcg
 rw[e]
 by_cases hz:s.size=0
 ·rw[if_neg (by simp[hz]),if_pos hz]
 ·rw[if_pos (by simp[hz]),if_neg hz]
  rfl
theorem jfA (s:ByteArray) (hs:s.size≤9223372036854775807) (w:World) :
  Calls Tryz.prog 82 #[.string s] w fun e w'=>e = .returned (.int .i64 (jcg (bytes s):Nat))∧w'=w:=by
 have hbad:=fun j hj h=>jhT (s:=s) (j:=j) hj h
 have hgood:=fun h=>jgD (s:=s) h
 generalize jcg (bytes s)=r at *
 have HBAD:=jD hbad;have HGOOD:=jD hgood
 clear hbad hgood
 go_enter Tryz.func82,Tryz.ntmps82
 go_wp2_with fail
 go_loopw [3] (fun iv wr=>∃ j:Nat,j≤s.size∧iv = .int .i64 (j:Int)∧(∀ i,i<j→cls (jaa s i)=4)∧wr=w) (fun iv _=>s.size-(intOf iv).toNat)
 case atStart=>exact⟨0,Nat.zero_le _,rfl,fun i h=>absurd h (Nat.not_lt_zero _),rfl⟩
 case round=>
  obtain⟨j,hj,rfl,hg,hw⟩:=hrel
  subst hw
  by_cases hlt:j<s.size
  ·have hb:=ja7 s j hlt
   have hd:=jdy (jaa s j) (jbc s j)
   have hj0:(0:Int)≤(j:Int):=by omega
   have hj1:(j:Int)<(s.size:Int):=by omega
   have ej:wrap64 ((j:Int)+1)=(j:Int)+1:=by unfold wrap64;omega
   have hbad:=HBAD.out j hlt
   have hstep:cls (jaa s j)=4→∀ i,i<j+1→cls (jaa s i)=4:=fun h i hi=>by
    rcases Nat.lt_or_ge i j with q|q
    ·exact hg i q
    ·obtain rfl:i=j:=by omega
     exact h
   by_cases h4:cls (jaa s j)=4
   ·have hg2:=hstep h4
    rw[decide_eq_true h4] at hd
    generalize jaa s j=b at *
    have KD:=jD hd;have HG2:=jD hg2;have HJ:=jD hlt
    clear hd hg2 hstep hg hbad h4 hj
    go_wp2_with (go_at_call 45;refine(KD.out _).mono ?_;rintro e w3 ⟨rfl,h⟩;subst h;refine Hid.out ?_)
    refine jD ?_
    go_wp2
    go_roundw
    case rel=>exact⟨j+1,HJ.out,by first|exact congrArg (Value.int .i64) (Int.natCast_add j 1).symm|exact congrArg (Value.int .i64) (ej.trans (Int.natCast_add j 1).symm),HG2.out,by trivial⟩
    case measure=>have:=HJ.out;show s.size-((j:Int)+1).toNat<s.size-((j:Int)).toNat;omega
   ·have hr:=hbad h4
    rw[decide_eq_false h4] at hd
    generalize jaa s j=b at *
    have KD:=jD hd;have HR:=jD hr
    clear hd hstep hg hbad h4 hj hr
    go_wp2_with (go_at_call 45;refine(KD.out _).mono ?_;rintro e w3 ⟨rfl,h⟩;subst h;refine Hid.out ?_)
    refine jD ?_
    go_wp2
    go_ret
    exact⟨by rw[HR.out];rfl,rfl⟩
  ·obtain rfl:j=s.size:=by omega
   have hr:=HGOOD.out hg
   have hge:¬ (s.size:Int)<(s.size:Int):=by omega
   clear hg hlt hj
   by_cases hz:s.size=0
   ·rw[if_pos hz] at hr
    obtain rfl:=jbL hz
    have HR:=jD hr;clear hr hz hge
    go_wp2
    go_ret
    exact⟨by rw[HR.out];rfl,rfl⟩
   ·rw[if_neg hz] at hr
    have hp:0<s.size:=by omega
    have hb:=ja7 s 0 hp
    have g2:(0:Int)<(s.size:Int):=by omega
    have bz:((s.size:Int)==0)=false:=by rw[beq_eq_false_iff_ne];omega
    generalize jaa s 0=b at *
    by_cases h48:b=48
    ·subst h48
     by_cases h1:1<s.size
     ·rw[if_pos ⟨rfl,h1⟩] at hr
      have g1:decide ((1:Int)<(s.size:Int))=true:=by rw[decide_eq_true_iff];omega
      have HR:=jD hr;have H1:=jD h1;have HZ:=jD hz;clear hr h1 hz hge
      go_wp2
      go_ret
      exact⟨by rw[HR.out];rfl,rfl⟩
     ·rw[if_neg (by omega),if_neg (by omega)] at hr
      have g1:decide ((1:Int)<(s.size:Int))=false:=by rw[decide_eq_false_iff_not];omega
      have g3:decide ((100:Int)<(s.size:Int))=false:=by rw[decide_eq_false_iff_not];omega
      have HR:=jD hr;have H1:=jD h1;have HZ:=jD hz;clear hr h1 hz hge
      go_wp2
      go_ret
      exact⟨by rw[HR.out];rfl,rfl⟩
    ·have n48:((b:Int)==48)=false:=by rw[beq_eq_false_iff_ne];omega
     rw[if_neg (by omega)] at hr
     by_cases h1:100<s.size
     ·rw[if_pos h1] at hr
      have g1:decide ((100:Int)<(s.size:Int))=true:=by rw[decide_eq_true_iff];omega
      have HR:=jD hr;have H1:=jD h1;have HZ:=jD hz;have H48:=jD h48;clear hr h1 hz hge h48
      go_wp2
      go_ret
      exact⟨by rw[HR.out];rfl,rfl⟩
     ·rw[if_neg h1] at hr
      have g1:decide ((100:Int)<(s.size:Int))=false:=by rw[decide_eq_false_iff_not];omega
      have HR:=jD hr;have H1:=jD h1;have HZ:=jD hz;have H48:=jD h48;clear hr h1 hz hge h48
      go_wp2
      go_ret
      exact⟨by rw[HR.out];rfl,rfl⟩
end Go.Proofs.YtenmmmdnpglkoaaGreatDoor
