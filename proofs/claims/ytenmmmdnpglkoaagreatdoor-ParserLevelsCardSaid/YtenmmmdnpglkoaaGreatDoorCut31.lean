import Derived.Deep.CutBlock
import Derived.Deep.CutRange
import Derived.Test.YtenmmmdnpglkoaaGreatDoorCut30
set_option linter.unusedSimpArgs false
set_option linter.unusedVariables false
set_option maxRecDepth 100000
set_option maxHeartbeats 8000000
/-
 The reference's reader: blocks.
-/
namespace Go.Proofs.YtenmmmdnpglkoaaGreatDoor
open Go Go.Proofs Go.RowKit Go.Sort
theorem Rf.toBad {R d d':Nat} {L:List Tk} {W:World} {s:RSt} (h:Rf R L W d s) (hb:isOk s=false):Rf R L W d' s:=by
 cases s with
 |ok l=>cases hb
 |bad a e=>exact h.bad
theorem growP.offK {lo l2:Nat} {ps:List Nat} {W W':World} {xs ys:List Syn} {u v:Value} (h:growP lo ps W xs v) (hl:W.heap.size≤l2) (hlo:lo≤W.heap.size) (hp:∀ p∈ps,p<W.heap.size) (hx:ownT l2 W' ys u):kidsIn (fun b=>offs lo ps b∧v.ownBlock≠some b) W' ys u:=by
 have hk:∀ k,l2≤k→k<W'.heap.size→(offs lo ps k∧v.ownBlock≠some k):=fun k hk _=>⟨⟨by omega,fun hm=>absurd (hp k hm) (by omega)⟩,fun e=>by have:=(h.2 k e).2;omega⟩
 refine hx.kids.imp_right ?_
 rintro⟨b,c,e1,h1,h2,h3,h4,h5⟩
 exact⟨b,c,e1,h1,h2,hk b h3 h4,h4,rowIn.keep ⟨jrr _,fun _ _ _=>rfl⟩ hk ys b 0 h3 h4 ((jcD ys b 0).mpr h5)⟩
theorem jjt {st s:RSt} (h:lessS st s):s.rem≤st.rem:=by
 rcases h with g|g
 ·cases s with
  |ok l=>cases g
  |bad a e=>exact Nat.zero_le _
 ·omega
structure BlkRf (R:Nat) (L:List Tk) (w:World) (d:Nat) (st:RSt) (X:Nat) (z:Int) (wr:World) (s:RSt) (ks:List Syn) (v:Value):Prop where
 hat:Rf R L wr (d+1) s
 hb:Butt R w wr
 xr:Bx5 wr w.heap.size (.int .i64 0) (.int .i64 0) (.string ⟨#[]⟩) (.int .i64 0) (.slice none 0 0)
 xx:Bx5 wr X (.int .i64 6) (.int .i64 z) (.string ⟨#[]⟩) (.int .i64 0) v
 row:growP w.heap.size [w.heap.size,X] wr ks v
 len:ks.length+s.rem≤st.rem+1
 les:lessS st s
 dep:isOk s=true→d≠64
theorem jju {R:Nat} {L:List Tk} {w:World} {st:RSt} {d:Nat} (h:Rf R L w d st):lessS st (entR st d):=by
 cases st with
 |bad a e=>exact .inl rfl
 |ok l=>
  unfold entR
  dsimp only
  split
  ·next hp=>
   split
   ·exact .inl rfl
   ·have:=h.rem_less (jeg hp (by decide))
    refine .inr ?_
    show (pTl l).length<l.length
    omega
  ·exact .inl rfl
theorem jhO {R d:Nat} {L l:List Tk} {W:World} (h:Rf R L W d (.ok l)) (hb:bytes (pHd l).t≠[]):2≤l.length:=by
 have g:=h.rem_less hb
 have g2:=List.length_pos_iff.mpr (jaJ (show l≠[] from h.fine))
 omega
theorem jkl:nmE ⟨#[]⟩≠0:=by decide +kernel
theorem jmw {l:List Tk} (hb:begB l=true):bytes (pHd l).t≠[]:=by
 intro e
 have e2:(pHd l).t=⟨#[]⟩:=jb4.mpr e
 unfold begB ja5 pIs at hb
 rw[e2] at hb
 rw[show decide (nmE ⟨#[]⟩=0)=false from decide_eq_false jkl,Bool.and_false] at hb
 exact absurd hb (by decide)
theorem jjv {bd:Bool} {d:Nat} {st s s2:RSt} {xs ys ks:List Syn} {z:Int} (hf:st.fine) (hz:hasA st z) (h1:bd=true→Stp .decls (d+1) (entR st d) xs s2) (h2:bd=false→xs=[]∧s2=entR st d) (hy:Run (jdM (d+1)) s2 ys s) (hk:ks=xs++ys):Stp (if bd=true then .body else .block) d st [.mk 6 z ⟨#[]⟩ 0 ks] s:=by
 subst hk
 cases bd with
 |true=>exact jkj hf hz (h1 rfl) hy
 |false=>
  obtain⟨rfl,rfl⟩:=h2 rfl
  exact jjs hf hz hy
theorem jkm {R:Nat} {L:List Tk} (hL:TkL L) {d:Nat} {l:List Tk} (hl:l≠[]) (hv:pIs wVar l=false) (ha:pIs jdi l=false):Stp .decls d (.ok l) [] (.ok l):=
 jgi (L:=L) (s:=.ok l) hl ((jbS hL (c:=wVar) (by decide)).trans hv) ((jbS hL (c:=jdi) (by decide)).trans ha)
theorem jk6 {R:Nat} {L:List Tk} {d:Nat} {st:RSt} {w:World} (h:Rf R L w d st) (bd:Bool) (wnt:Want) (hwn:wnt=if bd=true then .body else .block) (hd:d≤64) (hD:∀ n,(tkD L n).k=1→DgT (tkD L n).t) (KS:d≠64→∀ l,lessS st (.ok l)→∀ W,Rf R L W (d+1) (.ok l)→Calls Tryz.prog 88 #[.pointer (some ⟨R,0,none⟩)] W (QC R L (mAny (d+1)) (d+1) (.ok l) W)) :
  Calls Tryz.prog 56 #[.pointer (some ⟨R,0,none⟩),.bool bd] w (PF R L wnt d st w):=by
 have HWN:=jD hwn
 clear hwn
 have hfi:=h.fine
 have HTL:=jD h.fix.toks.toks
 have HD:=jD hd;have HDD:=jD hD;have KST:=jD KS;have HFI:=jD hfi
 have HRM:=jD h.rem
 have HEL:=jD (jju h)
 have CH:=fun W (H:Rf R L W d st)=>jcy H
 have CI:=fun W (H:Rf R L W d st)=>ris H [123] (by decide)
 have KH:=jD CH;have KI:=jD CI
 have HA0:=jD h
 have HLT:=jD h.fix.lt;have HRW:=jD h.fix.lt
 have A0:=jD (h.alloc jZ);obtain⟨B0,XR0,HPR,HLS⟩:=jS h.fix.lt
 clear h CH CI hfi hd hD KS
 go_enter Tryz.func56,Tryz.ntmps56
 go_wp2_with (go_at_call 48;refine cM (KH.out _ A0) ?_;rintro e w1 ⟨z1,rfl,hz1,ha1,hb1⟩)
 have HZ1:=jD hz1
 have A1:=jD ha1;have B1:=jtt B0 hb1
 have XR1:=jbb XR0 HPR hb1
 clear ha1 hb1 hz1
 refine jD ?_
 go_wp2_with (go_at_call 47;refine cM (jam _ _ _ _ _ _ _) ?_;rintro e w2 ⟨rfl,hbl2⟩)
 have ha2:=A1.out.below hbl2;have hb2:=Butt.of_below (R:=R) A1.out.fix.lt hbl2;clear hbl2
 have A2:=jD ha2;have B2:=jtt B1 hb2
 have XR2:=jbb XR1 HPR hb2
 clear ha2 hb2
 refine jD ?_
 have A2a:=jD (A2.out.alloc (Obj.cells #[.int .i64 6,.int .i64 z1,.string ⟨#[]⟩,.int .i64 0,.slice none 0 0] 25));have B2a:=jD (B2.out.alloc HRW (Obj.cells #[.int .i64 6,.int .i64 z1,.string ⟨#[]⟩,.int .i64 0,.slice none 0 0] 25))
 have XR2a:=jD (XR2.out.alloc (Obj.cells #[.int .i64 6,.int .i64 z1,.string ⟨#[]⟩,.int .i64 0,.slice none 0 0] 25))
 have LX:Hid (w.heap.size<w2.heap.size):=jD XR2.out.lt
 have PXX:=nR A2.out.fix.lt
 have XX2a:=jD (Bx5.new w2 (.int .i64 6) (.int .i64 z1) (.string ⟨#[]⟩) (.int .i64 0) (.slice none 0 0))
 have GN:=jD (growP.nil:growP w.heap.size [w.heap.size,w2.heap.size] (w2.alloc (Obj.cells #[.int .i64 6,.int .i64 z1,.string ⟨#[]⟩,.int .i64 0,.slice none 0 0] 25)) [] (.slice none 0 0))
 go_wp2_with (go_at_call 49;refine jX (KI.out _ A2a) B2a XR2a HPR fun w3 A3 B3 XR3 hb3=>?_)
 have XX3:=jbb XX2a PXX hb3
 have G3:=jD (GN.out.butt HLT hb3)
 clear hb3
 refine jD ?_
 go_upto_if 11 with fail
 go_cut [] from 11 to 13 (fun wx=>∃ d' s',Rf R L wx d' s'∧Butt R w wx∧Bx5 wx w.heap.size (.int .i64 0) (.int .i64 0) (.string ⟨#[]⟩) (.int .i64 0) (.slice none 0 0)∧Bx5 wx w2.heap.size (.int .i64 6) (.int .i64 z1) (.string ⟨#[]⟩) (.int .i64 0) (.slice none 0 0)∧((rIs st [123]=true∧d'=d+1∧s'=levS st d)∨(rIs st [123]=false∧d'=d∧s'=st)))
 case first=>
  cases hb:rIs st [123] with
  |true=>
   have HB0:=jD hb;clear hb
   go_wp2_with (go_at_call 86;refine jX (jg0 A3 HD) B3 XR3 HPR fun w4 A4 B4 XR4 hb4=>?_)
   have XX4:=jbb XX3 PXX hb4
   have G4:=jD (G3.out.butt HLT hb4)
   clear hb4
   refine jD ?_
   go_wp2_with fail
   go_meet
   exact⟨_,_,A4.out,B4.out,XR4.out,XX4.out,.inl ⟨HB0.out,rfl,rfl⟩⟩
  |false=>
   have HB0:=jD hb;clear hb
   go_wp2_with fail
   go_meet
   exact⟨_,_,A3.out,B3.out,XR3.out,XX3.out,.inr ⟨HB0.out,rfl,rfl⟩⟩
 case rest=>
  obtain⟨d',s',hac,hbc,hxr,hxx,hor⟩:=hcut
  have AC:=jD hac;have BC:=jD hbc;have XRC:=jD hxr;have XXC:=jD hxx;have HOR:=jD hor
  clear hac hbc hxr hxx hor
  go_wp2_with (go_at_call 52;refine jX (jbu AC [123] (by decide)) BC XRC HPR fun w4 A4 B4 XR4 hb4=>?_)
  have XX4:=jbb XXC PXX hb4
  clear hb4
  refine jD ?_
  have AE:Hid (Rf R L w4 (d+1) (entR st d)):=jD (by
   have g:=A4.out
   rcases HOR with ⟨h1,h2,h3⟩|⟨h1,h2,h3⟩
   ·rw[h2,h3,jkh h1] at g;exact g
   ·rw[h2,h3,jki (d:=d) h1] at g;exact g.toBad (jl3 h1))
  have R0:Hid (BlkRf R L w d st w2.heap.size z1 w4 (entR st d) [] (.slice none 0 0)):=jD ⟨AE.out,B4.out,XR4.out,XX4.out,growP.nil,(by have g:=jjt HEL.out;simp only[List.length_nil];omega),HEL.out,jmP⟩
  clear A4 B4 XR4 XX4 AC BC XRC XXC HOR AE
  go_upto_block 0 with fail
  go_cut [6] from 16 to 55 (fun s6 wx=>∃ s xs ao c,BlkRf R L w d st w2.heap.size z1 wx s xs (.slice ao xs.length c)∧(bd=true→Stp .decls (d+1) (entR st d) xs s)∧(bd=false→xs=[]∧s=entR st d))
  case first=>
   go_wp2_with fail
   go_loopw [6] (fun v6 wr=>∃ s xs ao c,BlkRf R L w d st w2.heap.size z1 wr s xs (.slice ao xs.length c)∧(bd=true→∀ ys s',Stp .decls (d+1) s ys s'→Stp .decls (d+1) (entR st d) (xs++ys) s')∧(bd=false→xs=[]∧s=entR st d)) (fun _ wr=>remR R L wr)
   case atStart=>exact⟨_,[],none,0,R0.out,fun _ ys s' h=>h,fun _=>⟨rfl,rfl⟩⟩
   case round=>
    obtain⟨s,xs,ao,c,hr,hg,hb0⟩:=hrel
    have HR:=jD hr;have HG:=jD hg;have HB0:=jD hb0;clear hr hg hb0
    cases bd with
    |false=>
     go_wp2_with fail
     go_meet
     exact⟨s,xs,ao,c,HR.out,(fun e=>by cases e),HB0.out⟩
    |true=>
     cases s with
     |bad ea ee=>
      obtain⟨ze,y3,t3,t4⟩:=HR.out.hat.err1
      go_wp2_with fail
      go_meet
      exact⟨_,xs,ao,c,HR.out,(fun _=>by have g:=HG.out (by trivial) [] _ (show Stp .decls (d+1) (.bad ea ee) [] (.bad ea ee) from rfl);rw[List.append_nil] at g;exact g),fun e=>by cases e⟩
     |ok l=>
      have y3:=HR.out.hat.err0;have HFL:Hid (l≠[]):=jD HR.out.hat.fine
      have CV:=fun W (H:Rf R L W (d+1) (.ok l))=>ris H wVar (by decide)
      have CA:=fun W (H:Rf R L W (d+1) (.ok l))=>ris H jdi (by decide)
      have A0:=jD HR.out.hat;have B0:=jD HR.out.hb;have XR0:=jD HR.out.xr;have XX0:=jD HR.out.xx;have G0:=jD HR.out.row
      have HLN:Hid (xs.length≤1200000):=jD (by have:=HR.out.len;have:=HRM.out;omega)
      cases hv:rIs (.ok l) wVar with
      |false=>
       rw[hv] at CV;have KV:=jD CV;have HV0:=jD hv;clear CV hv
       cases ha:rIs (.ok l) jdi with
       |false=>
        rw[ha] at CA;have KA:=jD CA;have HA1:=jD ha;clear CA ha
        go_wp2_with (go_at_call 49;refine jX (KV.out _ A0) B0 XR0 HPR fun w21 A21 B21 XR21 hb21=>?_)
        have XX21:=jbb XX0 PXX hb21
        have G21:=jD (G0.out.butt HLT hb21)
        clear hb21
        refine jD ?_
        go_wp2_with (go_at_call 49;refine jX (KA.out _ A21) B21 XR21 HPR fun w22 A22 B22 XR22 hb22=>?_)
        have XX22:=jbb XX21 PXX hb22
        have G22:=jD (G21.out.butt HLT hb22)
        clear hb22
        refine jD ?_
        go_wp2_with fail
        go_meet
        exact⟨.ok l,xs,ao,c,⟨A22.out,B22.out,XR22.out,XX22.out,G22.out,HR.out.len,HR.out.les,HR.out.dep⟩,(fun _=>by have g:=HG.out (by trivial) [] _ (jkm (R:=R) HTL HFL HV0 HA1);rw[List.append_nil] at g;exact g),fun e=>by cases e⟩
       |true=>
        have CR:=fun W (H:Rf R L W (d+1) (.ok l))=>jmt H HDD l rfl ha
        have HTW:=jD (jhO HR.out.hat (jeg ha (by decide)))
        rw[ha] at CA;have KA:=jD CA;have HA1:=jD ha;have KR:=jD CR;clear CA ha CR
        go_wp2_with (go_at_call 49;refine jX (KV.out _ A0) B0 XR0 HPR fun w21 A21 B21 XR21 hb21=>?_)
        have XX21:=jbb XX0 PXX hb21
        have G21:=jD (G0.out.butt HLT hb21)
        clear hb21
        refine jD ?_
        go_wp2_with (go_at_call 49;refine jX (KA.out _ A21) B21 XR21 HPR fun w22 A22 B22 XR22 hb22=>?_)
        have XX22:=jbb XX21 PXX hb22
        have G22:=jD (G21.out.butt HLT hb22)
        clear hb22
        refine jD ?_
        go_wp2_with (go_at_call 49;refine jX (KA.out _ A22) B22 XR22 HPR fun w23 A23 B23 XR23 hb23=>?_)
        have XX23:=jbb XX22 PXX hb23
        have G23:=jD (G22.out.butt HLT hb23)
        clear hb23
        refine jD ?_
        go_wp2_with fail
        have AD:=jD (A23.out.below (Below.refl _ _).drew);have BD:=jD (B23.out.drew)
        have XRD:=jD (XR23.out.below (Below.refl _ _).drew)
        have XXD:=jD (XX23.out.below (Below.refl _ _).drew)
        have GD:=jD (G23.out.butt HLT (Butt.refl R w23).drew)
        have HPS:=jD ((by first|exact(fun p hp=>by simp only[List.mem_cons,List.not_mem_nil,or_false] at hp;have g0:=XRD.out.lt;have g1:=XXD.out.lt;omega)|simp):∀ p∈[w.heap.size,w2.heap.size],p<(w23.drew).heap.size)
        have HLO:Hid (w.heap.size≤(w23.drew).heap.size):=jD BD.out.size
        refine jaL (fun j=>j==7) (fun w'=>World.cell? w' ⟨w2.heap.size,4,none⟩=some (.slice ao xs.length c)) (by kernel_rfl) XXD.out.c4 (fun hHeld=>?_)
        generalize w23.drew=wg1 at *
        refine ja0 (i:=0) (v:=?v1z) rfl (by kernel_rfl) (by kernel_rfl) (by kernel_rfl) rfl (by kernel_rfl) (by kernel_rfl) (fun _ _ _ h=>h) (Or.inl ⟨by rfl,?h1z⟩) (by assumption) ?r1z
        case h1z=>(intro w hSw;(try dsimp only at hSw);go_simp;try with_reducible rfl)
        (try simp only[Act.put,lA,lB,lC])
        refine ja0 (i:=1) (v:=?v2z) rfl (by kernel_rfl) (by kernel_rfl) (by kernel_rfl) rfl (by kernel_rfl) (by kernel_rfl) (fun _ _ _ h=>h) (Or.inl ⟨by rfl,?h2z⟩) (by assumption) ?r2z
        case h2z=>(intro w hSw;(try dsimp only at hSw);go_simp;try with_reducible rfl)
        (try simp only[Act.put,lA,lB,lC])
        refine ja0 (i:=2) (v:=?v3z) rfl (by kernel_rfl) (by kernel_rfl) (by kernel_rfl) rfl (by kernel_rfl) (by kernel_rfl) (fun _ _ _ h=>h) (Or.inl ⟨by rfl,?h3z⟩) (by assumption) ?r3z
        case h3z=>(intro w hSw;(try dsimp only at hSw);go_simp;try with_reducible rfl)
        (try simp only[Act.put,lA,lB,lC])
        refine jax (i:=3) rfl (by kernel_rfl) (fun K hK=>?_)
        go_simp
        go_wp2_with (go_at_call 87;refine(KR.out _ AD).mono ?_;rintro e w24 ⟨x24,v24,s24,rfl,hx24,hs24,ha24,hb24⟩)
        obtain⟨k24,a24,t24,n24,o24,l24,c24,q24,rfl,rfl,hk24⟩:=hx24.shape
        have HS24:=jD hs24;have HSZ:=jD hb24.size
        have HZ:=jD (GD.out.off (jrr _) HLO HPS hx24)
        have A24:=jD ha24;have B24:=jtt BD hb24
        have XR24:=jbb XRD HPR hb24
        have XX24:=jbb XXD PXX hb24
        have G24:=jD (GD.out.butt HLT hb24)
        clear ha24 hb24 hx24 hk24 hs24
        have hHeld:=XX24.out.c4
        refine hK.out _ _ (fun _=>hHeld) ?_
        clear hK K
        (try simp only[Act.put,lA,lB,lC])
        refine jax (i:=4) rfl (by kernel_rfl) (fun K hK=>?_)
        go_simp
        have HZA:=jD (HZ.out.below (jN (jO k24 a24 t24 n24 o24 l24 c24)));have HBX:=jD (jn5 w24 k24 a24 t24 n24 o24 l24 c24)
        have HPA:=jD (fun p (hp:p∈[w.heap.size,w2.heap.size])=>Nat.lt_of_lt_of_le (HPS.out p hp) (Nat.le_trans HSZ (by simp:w24.heap.size≤(w24.alloc (jO k24 a24 t24 n24 o24 l24 c24)).heap.size)))
        have A24a:=jD (A24.out.alloc (jO k24 a24 t24 n24 o24 l24 c24));have B24a:=jD (B24.out.alloc HRW (jO k24 a24 t24 n24 o24 l24 c24))
        have XR24a:=jD (XR24.out.alloc (jO k24 a24 t24 n24 o24 l24 c24))
        have XX24a:=jD (XX24.out.alloc (jO k24 a24 t24 n24 o24 l24 c24))
        have G24a:=jD (G24.out.butt HLT (Butt.of_below A24.out.fix.lt (jN (jO k24 a24 t24 n24 o24 l24 c24))))
        have hHeld:=XX24a.out.c4
        refine hK.out _ _ (fun _=>hHeld) ?_
        clear hK K
        (try simp only[Act.put,lA,lB,lC])
        refine jax (i:=5) rfl (by kernel_rfl) (fun K hK=>?_)
        refine jbT (lo:=w.heap.size) (ps:=[w.heap.size,w2.heap.size]) (xs:=xs) (v:=.slice ao xs.length c) rfl (.tmp 35) (.tmp 38) rfl (by simp[Act.eval,Act.put]) G24a HLN B24a.out.size HPA w24.heap.size (.mk k24 a24 t24 n24 q24) (.int .i64 k24) (.int .i64 a24) (.string t24) (.int .i64 n24) (.slice o24 l24 c24) (by simp[Act.eval,Act.put]) HZA ⟨rfl,rfl,rfl,rfl,rfl⟩ HBX ?_
        intro v9 ao9 cap9 w9 hv9 ho9 hg9
        replace hv9:v9 = .slice ao9 (xs.length+1) cap9:=hv9
        subst hv9
        have hgr:=Rf.grow HA0 A24a B24a (G24a.out.below B24a.out.size hg9)
        have A9:=jD hgr.1;have B9:=jD hgr.2;clear hgr
        have XR9:=jD (G24a.out.box (by simp) hg9 XR24a)
        have XX9:=jD (G24a.out.box (by simp) hg9 XX24a)
        have G9:=jD ho9;clear ho9 hg9 HZ HZA HBX HPA
        have hHeld:=XX9.out.c4
        refine hK.out _ _ (fun _=>hHeld) ?_
        clear hK K
        (try simp only[Act.put,lA,lB,lC])
        refine jbK (i:=6) (v:=?v4z) rfl (by kernel_rfl) (by kernel_rfl) (by kernel_rfl) rfl (fun _ _ _ h=>h) (Or.inl ⟨by rfl,?h4z⟩) (by assumption) ?r4z
        case h4z=>(intro w _;go_simp;try with_reducible rfl)
        (try simp only[Act.put,lA,lB,lC])
        refine jax (i:=7) rfl (by kernel_rfl) (fun K hK=>?_)
        have q0:=XX9.out.c4;have q1:=XX9.out.free 4;have q2:=XX9.out.lt
        go_simp
        refine hK.out _ _ (fun h=>by cases h) ?_
        clear hK K q0 q1 q2 hHeld
        refine jbo (by kernel_rfl) ?_ _
        have SN:=Rf.setNew HA0 B9 A9 (w2.heap.size) 4 (Nat.le_of_lt LX) (.slice ao9 (xs.length+1) cap9)
        have Af1:=jD SN.1;have Bf1:=jD SN.2;clear SN
        have XRf1:=jD (XR9.out.setO (q:=w2.heap.size) (j:=4) (Nat.ne_of_lt LX) (.slice ao9 (xs.length+1) cap9))
        have Gf1:=jD (G9.out.kept (by simp) ((Kept.refl (·≠w2.heap.size) w9).setCell ⟨w2.heap.size,4,none⟩ (fun h=>h rfl) (.slice ao9 (xs.length+1) cap9)))
        have XXf1:=jD (XX9.out.set4 (.slice ao9 (xs.length+1) cap9))
        go_wp2
        go_roundw
        case rel=>
         refine⟨s24,xs++[(.mk k24 a24 t24 n24 q24)],ao9,cap9,⟨Af1.out,Bf1.out,XRf1.out,?_,?_,?_,?_,fun _=>HR.out.dep rfl⟩,fun _ ys s' hs=>?_,fun e=>by cases e⟩
         ·rw[List.length_append];exact XXf1.out
         ·rw[List.length_append];exact Gf1.out
         ·have g1:=HR.out.len;have g2:=jcz jcX HTW HS24.out;have g3:(RSt.ok l).rem=l.length:=rfl;simp only[List.length_append,List.length_cons,List.length_nil];omega
         ·exact Run.lessS HS24 HR.out.les
         ·rw[List.append_assoc];exact HG.out (by trivial) _ _ (je9 (L:=L) (s:=.ok l) HFL.out ((jbS HTL.out (c:=wVar) (by decide)).trans HV0.out) ((jbS HTL.out (c:=jdi) (by decide)).trans HA1.out) HS24.out hs)
        case measure=>
         have g1:=jbw HR.out.hat
         have g2:=jb2 Af1
         have g3:=jcz jcX HTW HS24
         show remR R L _<remR R L wr
         omega
      |true=>
       have hv':pIs wVar l=true:=hv;have ha:rIs (.ok l) jdi=false:=jaX hv' (by decide)
       have HTW:=jD (jhO HR.out.hat (jeg hv' (by decide)))
       rw[hv] at CV;rw[ha] at CA;have KV:=jD CV;have KA:=jD CA;have HV0:=jD hv;clear CV CA hv hv' ha
       have CH1:=fun W (H:Rf R L W (d+1) (.ok l))=>jbQ H
       have HM1:=jD (fun s' ys hx=>jkk (d:=d+1) (xs:=ys) (s:=s') HFL hx)
       generalize (pHd l).a=pa at *
       have KH1:=jD CH1;clear CH1
       go_wp2_with (go_at_call 49;refine jX (KV.out _ A0) B0 XR0 HPR fun w21 A21 B21 XR21 hb21=>?_)
       have XX21:=jbb XX0 PXX hb21
       have G21:=jD (G0.out.butt HLT hb21)
       clear hb21
       refine jD ?_
       go_wp2_with (go_at_call 49;refine jX (KA.out _ A21) B21 XR21 HPR fun w22 A22 B22 XR22 hb22=>?_)
       have XX22:=jbb XX21 PXX hb22
       have G22:=jD (G21.out.butt HLT hb22)
       clear hb22
       refine jD ?_
       go_wp2_with (go_at_call 48;refine jX (KH1.out _ A22) B22 XR22 HPR fun w23 A23 B23 XR23 hb23=>?_)
       have XX23:=jbb XX22 PXX hb23
       have G23:=jD (G22.out.butt HLT hb23)
       clear hb23
       refine jD ?_
       go_wp2_with (go_at_call 59;refine jX (jcu A23) B23 XR23 HPR fun w24 A24 B24 XR24 hb24=>?_)
       have XX24:=jbb XX23 PXX hb24
       have G24:=jD (G23.out.butt HLT hb24)
       clear hb24
       refine jD ?_
       have AS:=jD (show Rf R L w24 (d+1) (.ok (pTl l)) from A24)
       go_wp2_with fail
       have AD:=jD (AS.out.below (Below.refl _ _).drew);have BD:=jD (B24.out.drew)
       have XRD:=jD (XR24.out.below (Below.refl _ _).drew)
       have XXD:=jD (XX24.out.below (Below.refl _ _).drew)
       have GD:=jD (G24.out.butt HLT (Butt.refl R w24).drew)
       have HPS:=jD ((by first|exact(fun p hp=>by simp only[List.mem_cons,List.not_mem_nil,or_false] at hp;have g0:=XRD.out.lt;have g1:=XXD.out.lt;omega)|simp):∀ p∈[w.heap.size,w2.heap.size],p<(w24.drew).heap.size)
       have HLO:Hid (w.heap.size≤(w24.drew).heap.size):=jD BD.out.size
       refine jaL (fun j=>j==9) (fun w'=>World.cell? w' ⟨w2.heap.size,4,none⟩=some (.slice ao xs.length c)) (by kernel_rfl) XXD.out.c4 (fun hHeld=>?_)
       generalize w24.drew=wg1 at *
       refine ja0 (i:=0) (v:=?v5z) rfl (by kernel_rfl) (by kernel_rfl) (by kernel_rfl) rfl (by kernel_rfl) (by kernel_rfl) (fun _ _ _ h=>h) (Or.inl ⟨by rfl,?h5z⟩) (by assumption) ?r5z
       case h5z=>(intro w hSw;(try dsimp only at hSw);go_simp;try with_reducible rfl)
       (try simp only[Act.put,lA,lB,lC])
       refine ja0 (i:=1) (v:=?v6z) rfl (by kernel_rfl) (by kernel_rfl) (by kernel_rfl) rfl (by kernel_rfl) (by kernel_rfl) (fun _ _ _ h=>h) (Or.inl ⟨by rfl,?h6z⟩) (by assumption) ?r6z
       case h6z=>(intro w hSw;(try dsimp only at hSw);go_simp;try with_reducible rfl)
       (try simp only[Act.put,lA,lB,lC])
       refine ja0 (i:=2) (v:=?v7z) rfl (by kernel_rfl) (by kernel_rfl) (by kernel_rfl) rfl (by kernel_rfl) (by kernel_rfl) (fun _ _ _ h=>h) (Or.inl ⟨by rfl,?h7z⟩) (by assumption) ?r7z
       case h7z=>(intro w hSw;(try dsimp only at hSw);go_simp;try with_reducible rfl)
       (try simp only[Act.put,lA,lB,lC])
       refine ja0 (i:=3) (v:=?v8z) rfl (by kernel_rfl) (by kernel_rfl) (by kernel_rfl) rfl (by kernel_rfl) (by kernel_rfl) (fun _ _ _ h=>h) (Or.inl ⟨by rfl,?h8z⟩) (by assumption) ?r8z
       case h8z=>(intro w hSw;(try dsimp only at hSw);go_simp;try with_reducible rfl)
       (try simp only[Act.put,lA,lB,lC])
       refine jax (i:=4) rfl (by kernel_rfl) (fun K hK=>?_)
       go_simp
       go_wp2_with (go_at_call 54;refine(jhl AD).mono ?_;rintro e w25 ⟨x25,v25,s25,rfl,hx25,hn25,hs25,ha25,hb25⟩)
       obtain⟨o25,c25,rfl⟩:=hx25.slice
       have HS25:=jD hs25;have HSZ0:=jD hb25.size;have HKI:=jD (GD.out.offK (jrr _) HLO HPS hx25)
       have A25:=jD ha25;have B25:=jtt BD hb25
       have XR25:=jbb XRD HPR hb25
       have XX25:=jbb XXD PXX hb25
       have G25:=jD (GD.out.butt HLT hb25)
       clear ha25 hb25 hx25 hn25 hs25
       have hHeld:=XX25.out.c4
       refine hK.out _ _ (fun _=>hHeld) ?_
       clear hK K
       (try simp only[Act.put,lA,lB,lC])
       refine jax (i:=5) rfl (by kernel_rfl) (fun K hK=>?_)
       go_simp
       go_wp2_with (go_at_call 47;refine(jam _ _ _ _ _ _ _).mono ?_;rintro e w26 ⟨rfl,hbl26⟩)
       have HZ:=jD (jac.mpr ⟨_,rfl,HKI.out.below hbl26⟩:synIn _ w26 (.mk 7 pa ⟨#[]⟩ 0 x25) (.agg #[.int .i64 7,.int .i64 pa,.string ⟨#[]⟩,.int .i64 0,.slice o25 x25.length c25]));have HSZ:=jD (Nat.le_trans HSZ0 hbl26.size)
       have ha26:=A25.out.below hbl26;have hb26:=Butt.of_below (R:=R) A25.out.fix.lt hbl26;clear hbl26
       have A26:=jD ha26;have B26:=jtt B25 hb26
       have XR26:=jbb XR25 HPR hb26
       have XX26:=jbb XX25 PXX hb26
       have G26:=jD (G25.out.butt HLT hb26)
       clear ha26 hb26
       have hHeld:=XX26.out.c4
       refine hK.out _ _ (fun _=>hHeld) ?_
       clear hK K
       (try simp only[Act.put,lA,lB,lC])
       refine jax (i:=6) rfl (by kernel_rfl) (fun K hK=>?_)
       go_simp
       have HZA:=jD (HZ.out.below (jN (Obj.cells #[.int .i64 7,.int .i64 pa,.string ⟨#[]⟩,.int .i64 0,.slice o25 x25.length c25] 25)));have HBX:=jD (Bx5.new w26 (.int .i64 7) (.int .i64 pa) (.string ⟨#[]⟩) (.int .i64 0) (.slice o25 x25.length c25))
       have HPA:=jD (fun p (hp:p∈[w.heap.size,w2.heap.size])=>Nat.lt_of_lt_of_le (HPS.out p hp) (Nat.le_trans HSZ (by simp:w26.heap.size≤(w26.alloc (Obj.cells #[.int .i64 7,.int .i64 pa,.string ⟨#[]⟩,.int .i64 0,.slice o25 x25.length c25] 25)).heap.size)))
       have A26a:=jD (A26.out.alloc (Obj.cells #[.int .i64 7,.int .i64 pa,.string ⟨#[]⟩,.int .i64 0,.slice o25 x25.length c25] 25));have B26a:=jD (B26.out.alloc HRW (Obj.cells #[.int .i64 7,.int .i64 pa,.string ⟨#[]⟩,.int .i64 0,.slice o25 x25.length c25] 25))
       have XR26a:=jD (XR26.out.alloc (Obj.cells #[.int .i64 7,.int .i64 pa,.string ⟨#[]⟩,.int .i64 0,.slice o25 x25.length c25] 25))
       have XX26a:=jD (XX26.out.alloc (Obj.cells #[.int .i64 7,.int .i64 pa,.string ⟨#[]⟩,.int .i64 0,.slice o25 x25.length c25] 25))
       have G26a:=jD (G26.out.butt HLT (Butt.of_below A26.out.fix.lt (jN (Obj.cells #[.int .i64 7,.int .i64 pa,.string ⟨#[]⟩,.int .i64 0,.slice o25 x25.length c25] 25))))
       have hHeld:=XX26a.out.c4
       refine hK.out _ _ (fun _=>hHeld) ?_
       clear hK K
       (try simp only[Act.put,lA,lB,lC])
       refine jax (i:=7) rfl (by kernel_rfl) (fun K hK=>?_)
       refine jbT (lo:=w.heap.size) (ps:=[w.heap.size,w2.heap.size]) (xs:=xs) (v:=.slice ao xs.length c) rfl (.tmp 46) (.tmp 51) rfl (by simp[Act.eval,Act.put]) G26a HLN B26a.out.size HPA w26.heap.size (.mk 7 pa ⟨#[]⟩ 0 x25) (.int .i64 7) (.int .i64 pa) (.string ⟨#[]⟩) (.int .i64 0) (.slice o25 x25.length c25) (by simp[Act.eval,Act.put]) HZA ⟨rfl,rfl,rfl,rfl,rfl⟩ HBX ?_
       intro v9 ao9 cap9 w9 hv9 ho9 hg9
       replace hv9:v9 = .slice ao9 (xs.length+1) cap9:=hv9
       subst hv9
       have hgr:=Rf.grow HA0 A26a B26a (G26a.out.below B26a.out.size hg9)
       have A9:=jD hgr.1;have B9:=jD hgr.2;clear hgr
       have XR9:=jD (G26a.out.box (by simp) hg9 XR26a)
       have XX9:=jD (G26a.out.box (by simp) hg9 XX26a)
       have G9:=jD ho9;clear ho9 hg9 HZ HZA HBX HPA
       have hHeld:=XX9.out.c4
       refine hK.out _ _ (fun _=>hHeld) ?_
       clear hK K
       (try simp only[Act.put,lA,lB,lC])
       refine jbK (i:=8) (v:=?v9z) rfl (by kernel_rfl) (by kernel_rfl) (by kernel_rfl) rfl (fun _ _ _ h=>h) (Or.inl ⟨by rfl,?h9z⟩) (by assumption) ?r9z
       case h9z=>(intro w _;go_simp;try with_reducible rfl)
       (try simp only[Act.put,lA,lB,lC])
       refine jax (i:=9) rfl (by kernel_rfl) (fun K hK=>?_)
       have q0:=XX9.out.c4;have q1:=XX9.out.free 4;have q2:=XX9.out.lt
       go_simp
       refine hK.out _ _ (fun h=>by cases h) ?_
       clear hK K q0 q1 q2 hHeld
       refine jbo (by kernel_rfl) ?_ _
       have SN:=Rf.setNew HA0 B9 A9 (w2.heap.size) 4 (Nat.le_of_lt LX) (.slice ao9 (xs.length+1) cap9)
       have Af1:=jD SN.1;have Bf1:=jD SN.2;clear SN
       have XRf1:=jD (XR9.out.setO (q:=w2.heap.size) (j:=4) (Nat.ne_of_lt LX) (.slice ao9 (xs.length+1) cap9))
       have Gf1:=jD (G9.out.kept (by simp) ((Kept.refl (·≠w2.heap.size) w9).setCell ⟨w2.heap.size,4,none⟩ (fun h=>h rfl) (.slice ao9 (xs.length+1) cap9)))
       have XXf1:=jD (XX9.out.set4 (.slice ao9 (xs.length+1) cap9))
       have HVS:=jD (HM1.out _ _ HS25)
       generalize w9.setCell ⟨w2.heap.size,4,none⟩ (.slice ao9 (xs.length+1) cap9)=wg2 at *
       go_wp2_with (go_at_call 52;refine jX (jbu Af1 [59] (by decide)) Bf1 XRf1 HPR fun w27 A27 B27 XR27 hb27=>?_)
       have XX27:=jbb XXf1 PXX hb27
       have G27:=jD (Gf1.out.butt HLT hb27)
       clear hb27
       refine jD ?_
       go_wp2
       go_roundw
       case rel=>
        refine⟨_,xs++[(.mk 7 pa ⟨#[]⟩ 0 x25)],ao9,cap9,⟨A27.out,B27.out,XR27.out,?_,?_,?_,?_,fun _=>HR.out.dep rfl⟩,fun _ ys s' hs=>?_,fun e=>by cases e⟩
        ·rw[List.length_append];exact XX27.out
        ·rw[List.length_append];exact G27.out
        ·have g1:=HR.out.len;have g2:=jcz (fun f=>jd5 f (d+1)) HTW HVS.out;have g3:(RSt.ok l).rem=l.length:=rfl;simp only[List.length_append,List.length_cons,List.length_nil];omega
        ·exact Run.lessS HVS HR.out.les
        ·rw[List.append_assoc];exact HG.out (by trivial) _ _ (jgh (L:=L) (s:=.ok l) HFL.out ((jbS HTL.out (c:=wVar) (by decide)).trans HV0.out) HVS.out hs)
       case measure=>
        have g1:=jbw HR.out.hat
        have g2:=jb2 A27
        have g3:=jcz (fun f=>jd5 f (d+1)) HTW HVS
        show remR R L _<remR R L wr
        omega
  case rest=>
   obtain⟨s2,xs,ao,c,hr,hg,hb0⟩:=hcut
   have HR2:=jD hr;have HG2:=jD hg;have HB2:=jD hb0;clear hr hg hb0
   go_wp2_with fail
   go_loopw [] (fun wr=>∃ s ks ys ao c,ks=xs++ys∧BlkRf R L w d st w2.heap.size z1 wr s ks (.slice ao ks.length c)∧∀ zs s',Run (jdM (d+1)) s zs s'→Run (jdM (d+1)) s2 (ys++zs) s') (fun wr=>remR R L wr)
   case atStart=>exact⟨s2,xs,[],ao,c,(by simp),HR2.out,fun zs s' h=>h⟩
   case round=>
    obtain⟨s,ks,ys,ao,c,hks,hr,hg⟩:=hrel
    have HK:=jD hks;have HR:=jD hr;have HG:=jD hg;clear hks hr hg HR2
    cases s with
    |bad ea ee=>
     obtain⟨ze,y3,t3,t4⟩:=HR.out.hat.err1
     have A0:=jD HR.out.hat;have B0:=jD HR.out.hb;have XR0:=jD HR.out.xr;have XX0:=jD HR.out.xx;have G0:=jD HR.out.row
     have HFN:Hid (Stp wnt d st [.mk 6 z1 ⟨#[]⟩ 0 ks] (jad (rIs (.bad ea ee) [125]) (.bad ea ee))):=jD (by have g:=HG.out [] _ (jg7 (d:=d+1) HR.out.hat.fine (.inl rfl));rw[List.append_nil] at g;rw[HWN.out];exact jjv HFI HZ1 HG2 HB2 g HK)
     go_wp2_with (go_at_call 52;refine jX (jbu A0 [125] (by decide)) B0 XR0 HPR fun w21 A21 B21 XR21 hb21=>?_)
     have XX21:=jbb XX0 PXX hb21
     have G21:=jD (G0.out.butt HLT hb21)
     clear hb21
     refine jD ?_
     obtain⟨zo,zn,yo,fo,uo,ao,bo⟩:=A21.out.less HD
     have A21o:=jD ao;have B21o:=jtt B21 bo
     have XR21o:=jbb XR21 HPR bo
     have XX21o:=jbb XX21 PXX bo
     have G21o:=jD (G21.out.butt HLT bo)
     clear ao bo
     obtain⟨yXX0,yXX1,yXX2,yXX3,yXX4,-,-⟩:=XX21o.out
     have FT:=jD (jas HA0 B21o A21o XR21o (jrr _) (.int .i64 6) (.int .i64 z1) (.string ⟨#[]⟩) (.int .i64 0) (.slice ao ks.length c) _ rfl)
     have GX:=jD (((jac.mpr ⟨_,rfl,G21o.out.kids⟩:synIn (offs w.heap.size [w.heap.size,w2.heap.size]) _ (.mk 6 z1 ⟨#[]⟩ 0 ks) (.agg #[.int .i64 6,.int .i64 z1,.string ⟨#[]⟩,.int .i64 0,.slice ao ks.length c]))).kept (by simp) FT.out.2.2.2).at
     obtain⟨yXR0,yXR1,yXR2,yXR3,yXR4,fXR0,fXR1,fXR2,fXR3,fXR4⟩:=bF XR21o
     obtain⟨r0,r1,r2,r3,r4⟩:=FT.out.1
     have GA:=jD FT.out.2.1;have GB:=jD FT.out.2.2.1
     clear FT
     go_wp2
     refine bodyPost_ret (by simp[results,Tryz.results56,go_sem,r0,r1,r2,r3,r4];rfl) rfl ?_
     exact⟨_,_,_,rfl,GX.out,HFN.out,GA.out,GB.out⟩
    |ok l=>
     have y3:=HR.out.hat.err0;have HFL:Hid (l≠[]):=jD HR.out.hat.fine
     have CB:=fun W (H:Rf R L W (d+1) (.ok l))=>ris H [125] (by decide)
     have HLN:Hid (ks.length≤1200000):=jD (by have:=HR.out.len;have:=HRM.out;omega)
     cases hv:rIs (.ok l) [125] with
     |true=>
      have A0:=jD HR.out.hat;have B0:=jD HR.out.hb;have XR0:=jD HR.out.xr;have XX0:=jD HR.out.xx;have G0:=jD HR.out.row
      rw[hv] at CB;have KB:=jD CB
      have HFN:Hid (Stp wnt d st [.mk 6 z1 ⟨#[]⟩ 0 ks] (jad (rIs (.ok l) [125]) (.ok l))):=jD (by have g:=HG.out [] _ (jg7 (d:=d+1) HR.out.hat.fine (.inr hv));rw[List.append_nil] at g;rw[HWN.out];exact jjv HFI HZ1 HG2 HB2 g HK)
      clear CB hv
      go_wp2_with (go_at_call 49;refine jX (KB.out _ A0) B0 XR0 HPR fun w21 A21 B21 XR21 hb21=>?_)
      have XX21:=jbb XX0 PXX hb21
      have G21:=jD (G0.out.butt HLT hb21)
      clear hb21
      refine jD ?_
      go_wp2_with (go_at_call 52;refine jX (jbu A21 [125] (by decide)) B21 XR21 HPR fun w22 A22 B22 XR22 hb22=>?_)
      have XX22:=jbb XX21 PXX hb22
      have G22:=jD (G21.out.butt HLT hb22)
      clear hb22
      refine jD ?_
      obtain⟨zo,zn,yo,fo,uo,ao,bo⟩:=A22.out.less HD
      have A22o:=jD ao;have B22o:=jtt B22 bo
      have XR22o:=jbb XR22 HPR bo
      have XX22o:=jbb XX22 PXX bo
      have G22o:=jD (G22.out.butt HLT bo)
      clear ao bo
      obtain⟨yXX0,yXX1,yXX2,yXX3,yXX4,-,-⟩:=XX22o.out
      have FT:=jD (jas HA0 B22o A22o XR22o (jrr _) (.int .i64 6) (.int .i64 z1) (.string ⟨#[]⟩) (.int .i64 0) (.slice ao ks.length c) _ rfl)
      have GX:=jD (((jac.mpr ⟨_,rfl,G22o.out.kids⟩:synIn (offs w.heap.size [w.heap.size,w2.heap.size]) _ (.mk 6 z1 ⟨#[]⟩ 0 ks) (.agg #[.int .i64 6,.int .i64 z1,.string ⟨#[]⟩,.int .i64 0,.slice ao ks.length c]))).kept (by simp) FT.out.2.2.2).at
      obtain⟨yXR0,yXR1,yXR2,yXR3,yXR4,fXR0,fXR1,fXR2,fXR3,fXR4⟩:=bF XR22o
      obtain⟨r0,r1,r2,r3,r4⟩:=FT.out.1
      have GA:=jD FT.out.2.1;have GB:=jD FT.out.2.2.1
      clear FT
      go_wp2
      refine bodyPost_ret (by simp[results,Tryz.results56,go_sem,r0,r1,r2,r3,r4];rfl) rfl ?_
      exact⟨_,_,_,rfl,GX.out,HFN.out,GA.out,GB.out⟩
     |false=>
      have A0:=jD HR.out.hat;have B0:=jD HR.out.hb;have XR0:=jD HR.out.xr;have XX0:=jD HR.out.xx;have G0:=jD HR.out.row
      rw[hv] at CB;have KB:=jD CB;have HV0:=jD hv;clear CB hv
      have HTW:Hid (begB l=true→2≤l.length):=jD (fun e=>jhO HR.out.hat (jmw e))
      have KQ:=jD (fun W (H:Rf R L W (d+1) (.ok l))=>KST.out (HR.out.dep rfl) l HR.out.les W H)
      go_wp2_with (go_at_call 49;refine jX (KB.out _ A0) B0 XR0 HPR fun w21 A21 B21 XR21 hb21=>?_)
      have XX21:=jbb XX0 PXX hb21
      have G21:=jD (G0.out.butt HLT hb21)
      clear hb21
      refine jD ?_
      go_wp2_with fail
      have AD:=jD (A21.out.below (Below.refl _ _).drew);have BD:=jD (B21.out.drew)
      have XRD:=jD (XR21.out.below (Below.refl _ _).drew)
      have XXD:=jD (XX21.out.below (Below.refl _ _).drew)
      have GD:=jD (G21.out.butt HLT (Butt.refl R w21).drew)
      have HPS:=jD ((by first|exact(fun p hp=>by simp only[List.mem_cons,List.not_mem_nil,or_false] at hp;have g0:=XRD.out.lt;have g1:=XXD.out.lt;omega)|simp):∀ p∈[w.heap.size,w2.heap.size],p<(w21.drew).heap.size)
      have HLO:Hid (w.heap.size≤(w21.drew).heap.size):=jD BD.out.size
      refine jaL (fun j=>j==7) (fun w'=>World.cell? w' ⟨w2.heap.size,4,none⟩=some (.slice ao ks.length c)) (by kernel_rfl) XXD.out.c4 (fun hHeld=>?_)
      generalize w21.drew=wg1 at *
      refine ja0 (i:=0) (v:=?v10z) rfl (by kernel_rfl) (by kernel_rfl) (by kernel_rfl) rfl (by kernel_rfl) (by kernel_rfl) (fun _ _ _ h=>h) (Or.inl ⟨by rfl,?h10z⟩) (by assumption) ?r10z
      case h10z=>(intro w hSw;(try dsimp only at hSw);go_simp;try with_reducible rfl)
      (try simp only[Act.put,lA,lB,lC])
      refine ja0 (i:=1) (v:=?v11z) rfl (by kernel_rfl) (by kernel_rfl) (by kernel_rfl) rfl (by kernel_rfl) (by kernel_rfl) (fun _ _ _ h=>h) (Or.inl ⟨by rfl,?h11z⟩) (by assumption) ?r11z
      case h11z=>(intro w hSw;(try dsimp only at hSw);go_simp;try with_reducible rfl)
      (try simp only[Act.put,lA,lB,lC])
      refine ja0 (i:=2) (v:=?v12z) rfl (by kernel_rfl) (by kernel_rfl) (by kernel_rfl) rfl (by kernel_rfl) (by kernel_rfl) (fun _ _ _ h=>h) (Or.inl ⟨by rfl,?h12z⟩) (by assumption) ?r12z
      case h12z=>(intro w hSw;(try dsimp only at hSw);go_simp;try with_reducible rfl)
      (try simp only[Act.put,lA,lB,lC])
      refine jax (i:=3) rfl (by kernel_rfl) (fun K hK=>?_)
      go_simp
      go_wp2_with (go_at_call 88;refine(KQ.out _ AD).mono ?_;rintro e w22 ⟨x22,v22,s22,rfl,hx22,hs22,ha22,hb22⟩)
      obtain⟨k22,a22,t22,n22,o22,l22,c22,q22,rfl,rfl,hk22⟩:=hx22.shape
      have HS22:=jD hs22;have HSZ:=jD hb22.size
      have HZ:=jD (GD.out.off (jrr _) HLO HPS hx22)
      have A22:=jD ha22;have B22:=jtt BD hb22
      have XR22:=jbb XRD HPR hb22
      have XX22:=jbb XXD PXX hb22
      have G22:=jD (GD.out.butt HLT hb22)
      clear ha22 hb22 hx22 hk22 hs22
      have hHeld:=XX22.out.c4
      refine hK.out _ _ (fun _=>hHeld) ?_
      clear hK K
      (try simp only[Act.put,lA,lB,lC])
      refine jax (i:=4) rfl (by kernel_rfl) (fun K hK=>?_)
      go_simp
      have HZA:=jD (HZ.out.below (jN (jO k22 a22 t22 n22 o22 l22 c22)));have HBX:=jD (jn5 w22 k22 a22 t22 n22 o22 l22 c22)
      have HPA:=jD (fun p (hp:p∈[w.heap.size,w2.heap.size])=>Nat.lt_of_lt_of_le (HPS.out p hp) (Nat.le_trans HSZ (by simp:w22.heap.size≤(w22.alloc (jO k22 a22 t22 n22 o22 l22 c22)).heap.size)))
      have A22a:=jD (A22.out.alloc (jO k22 a22 t22 n22 o22 l22 c22));have B22a:=jD (B22.out.alloc HRW (jO k22 a22 t22 n22 o22 l22 c22))
      have XR22a:=jD (XR22.out.alloc (jO k22 a22 t22 n22 o22 l22 c22))
      have XX22a:=jD (XX22.out.alloc (jO k22 a22 t22 n22 o22 l22 c22))
      have G22a:=jD (G22.out.butt HLT (Butt.of_below A22.out.fix.lt (jN (jO k22 a22 t22 n22 o22 l22 c22))))
      have hHeld:=XX22a.out.c4
      refine hK.out _ _ (fun _=>hHeld) ?_
      clear hK K
      (try simp only[Act.put,lA,lB,lC])
      refine jax (i:=5) rfl (by kernel_rfl) (fun K hK=>?_)
      refine jbT (lo:=w.heap.size) (ps:=[w.heap.size,w2.heap.size]) (xs:=ks) (v:=.slice ao ks.length c) rfl (.tmp 67) (.tmp 70) rfl (by simp[Act.eval,Act.put]) G22a HLN B22a.out.size HPA w22.heap.size (.mk k22 a22 t22 n22 q22) (.int .i64 k22) (.int .i64 a22) (.string t22) (.int .i64 n22) (.slice o22 l22 c22) (by simp[Act.eval,Act.put]) HZA ⟨rfl,rfl,rfl,rfl,rfl⟩ HBX ?_
      intro v9 ao9 cap9 w9 hv9 ho9 hg9
      replace hv9:v9 = .slice ao9 (ks.length+1) cap9:=hv9
      subst hv9
      have hgr:=Rf.grow HA0 A22a B22a (G22a.out.below B22a.out.size hg9)
      have A9:=jD hgr.1;have B9:=jD hgr.2;clear hgr
      have XR9:=jD (G22a.out.box (by simp) hg9 XR22a)
      have XX9:=jD (G22a.out.box (by simp) hg9 XX22a)
      have G9:=jD ho9;clear ho9 hg9 HZ HZA HBX HPA
      have hHeld:=XX9.out.c4
      refine hK.out _ _ (fun _=>hHeld) ?_
      clear hK K
      (try simp only[Act.put,lA,lB,lC])
      refine jbK (i:=6) (v:=?v13z) rfl (by kernel_rfl) (by kernel_rfl) (by kernel_rfl) rfl (fun _ _ _ h=>h) (Or.inl ⟨by rfl,?h13z⟩) (by assumption) ?r13z
      case h13z=>(intro w _;go_simp;try with_reducible rfl)
      (try simp only[Act.put,lA,lB,lC])
      refine jax (i:=7) rfl (by kernel_rfl) (fun K hK=>?_)
      have q0:=XX9.out.c4;have q1:=XX9.out.free 4;have q2:=XX9.out.lt
      go_simp
      refine hK.out _ _ (fun h=>by cases h) ?_
      clear hK K q0 q1 q2 hHeld
      refine jbo (by kernel_rfl) ?_ _
      have SN:=Rf.setNew HA0 B9 A9 (w2.heap.size) 4 (Nat.le_of_lt LX) (.slice ao9 (ks.length+1) cap9)
      have Af1:=jD SN.1;have Bf1:=jD SN.2;clear SN
      have XRf1:=jD (XR9.out.setO (q:=w2.heap.size) (j:=4) (Nat.ne_of_lt LX) (.slice ao9 (ks.length+1) cap9))
      have Gf1:=jD (G9.out.kept (by simp) ((Kept.refl (·≠w2.heap.size) w9).setCell ⟨w2.heap.size,4,none⟩ (fun h=>h rfl) (.slice ao9 (ks.length+1) cap9)))
      have XXf1:=jD (XX9.out.set4 (.slice ao9 (ks.length+1) cap9))
      go_wp2
      go_roundw
      case rel=>
       refine⟨s22,ks++[(.mk k22 a22 t22 n22 q22)],ys++[(.mk k22 a22 t22 n22 q22)],ao9,cap9,(by rw[HK.out,List.append_assoc]),⟨Af1.out,Bf1.out,XRf1.out,?_,?_,?_,?_,fun _=>HR.out.dep rfl⟩,fun zs s' hs=>?_⟩
       ·rw[List.length_append];exact XXf1.out
       ·rw[List.length_append];exact Gf1.out
       ·have g1:=HR.out.len;have g2:=jhN HFL HTW HS22.out;have g3:(RSt.ok l).rem=l.length:=rfl;simp only[List.length_append,List.length_cons,List.length_nil];omega
       ·exact Run.lessS HS22 HR.out.les
       ·rw[List.append_assoc];exact HG.out _ _ (jiv HV0.out HS22.out hs)
      case measure=>
       have g1:=jbw HR.out.hat
       have g2:=jb2 Af1
       have g3:=jhN HFL HTW HS22
       show remR R L _<remR R L wr
       omega
end Go.Proofs.YtenmmmdnpglkoaaGreatDoor
