import Derived.Test.YtenmmmdnpglkoaaGreatDoorCut33
set_option linter.unusedSimpArgs false
set_option linter.unusedVariables false
set_option maxRecDepth 100000
set_option maxHeartbeats 8000000
/-
 The reference's reader: programs.
-/
namespace Go.Proofs.YtenmmmdnpglkoaaGreatDoor
open Go Go.Proofs Go.RowKit Go.Sort
def EndL (L:List Tk):Prop:=∀ n,n<L.length→((tkD L n).k=3↔bytes (tkD L n).t=[])
theorem Rf.endK {R d:Nat} {L l:List Tk} {W:World} (h:Rf R L W d (.ok l)) (hE:EndL L):(pHd l).k=3↔pIs [] l=true:=by
 obtain⟨hf,nx,op,er,a,h1,h2,h3⟩:=h
 rcases h3 with ⟨-,-,e⟩|⟨-,e,-,h⟩
 ·cases e
  unfold pIs
  rw[jaO h1,beq_iff_eq]
  exact hE nx h1
 ·cases h
def jkr (a:Int) (d:Nat) (st:RSt) (x:Syn) (s':RSt):Prop:=
 (∃ xs,x = .mk 0 a ⟨#[]⟩ 0 xs∧Stp (.program a) d st xs s'∧∀ l,s' = .ok l→pIs [] l=true)∨(∃ l0 xs0,s' = .bad (pHd l0).a 4∧Stp (.program a) d st xs0 (.ok l0)∧pIs [] l0=false)
structure PrgRf (R:Nat) (L:List Tk) (w:World) (d:Nat) (st:RSt) (X:Nat) (a:Int) (wr:World) (s:RSt) (ks:List Syn) (v:Value):Prop where
 hat:Rf R L wr d s
 hb:Butt R w wr
 xr:Bx5 wr w.heap.size (.int .i64 0) (.int .i64 0) (.string ⟨#[]⟩) (.int .i64 0) (.slice none 0 0)
 xx:Bx5 wr X (.int .i64 0) (.int .i64 a) (.string ⟨#[]⟩) (.int .i64 0) v
 row:growP w.heap.size [w.heap.size,X] wr ks v
 len:ks.length+s.rem≤st.rem+1
 alt:(∀ ys s',Stp (.program a) d s ys s'→Stp (.program a) d st (ks++ys) s')∨(∃ l1 xs0,s = .bad (pHd l1).a 4∧Stp (.program a) d st xs0 (.ok l1)∧pIs [] l1=false)
section
variable {R d:Nat} {L l:List Tk} {s2 s':RSt} {x:Syn} {a:Int} {ks ys xs:List Syn} {st:RSt}
theorem jj1 (hf:l≠[]) (h1:pIs jb6 l=false) (h2:pIs jaR l=false) (hx:Stp .proc d (.ok l) [x] s2):s2 = .bad (pHd l).a 4:=by
 have g:Stp .proc d (.ok l) [x] (.bad (pHd l).a 4):=by
  refine jhf (Run.bind (jby (L:=[]) hf) (Run.bind (jcI hf h2) (Run.bind (Run.ite (fun g=>by cases g) (fun _=>jby (L:=[]) hf)) ?_)))
  exact .inr ⟨_,4,by decide,rfl,0,fun f _=>by show (jaA jb6 f l >>= _)=_;unfold jaA;rw[if_neg (by rw[h1];decide)];rfl⟩
 exact Run.uniq hx g
theorem jmy (hL:TkL L) (hf:l≠[]) (hp:pIs [] l=true):Stp (.program a) d (.ok l) [] (.ok l):=
 jgO (L:=L) (s:=.ok l) hf ((jbS hL (c:=jaT) (by decide)).trans (jaX hp (by decide))) ((jbS hL (c:=jb6) (by decide)).trans (jaX hp (by decide))) ((jbS hL (c:=jaR) (by decide)).trans (jaX hp (by decide)))
theorem jl5 (hL:TkL L) (hf:l≠[]) (h0:pIs jaT l=false) (h1:pIs jb6 l=false) (h2:pIs jaR l=false):Stp (.program a) d (.ok l) [] (.ok l):=
 jgO (L:=L) (s:=.ok l) hf ((jbS hL (c:=jaT) (by decide)).trans h0) ((jbS hL (c:=jb6) (by decide)).trans h1) ((jbS hL (c:=jaR) (by decide)).trans h2)
theorem jmz (hL:TkL L) (hf:l≠[]) (h0:pIs jaT l=true) (hx:Stp .record d (.ok l) [x] s2) (hg:∀ ys s',Stp (.program a) d (.ok l) ys s'→Stp (.program a) d st (ks++ys) s'):∀ ys s',Stp (.program a) d s2 ys s'→Stp (.program a) d st ((ks++[x])++ys) s':=fun ys s' hs=>by
 rw[List.append_assoc]
 exact hg _ _ (jfu (L:=L) (s:=.ok l) hf ((jbS hL (c:=jaT) (by decide)).trans h0) hx hs)
theorem jl6 (hL:TkL L) (hf:l≠[]) (h0:pIs jaT l=false) (he:pIs [] l=false) (hx:Stp .proc d (.ok l) [x] s2) (hg:∀ ys s',Stp (.program a) d (.ok l) ys s'→Stp (.program a) d st (ks++ys) s') :
  (∀ ys s',Stp (.program a) d s2 ys s'→Stp (.program a) d st ((ks++[x])++ys) s')∨(∃ l1 xs0,s2 = .bad (pHd l1).a 4∧Stp (.program a) d st xs0 (.ok l1)∧pIs [] l1=false):=by
 by_cases hb:pIs jb6 l=true∨pIs jaR l=true
 ·refine .inl fun ys s' hs=>?_
  rw[List.append_assoc]
  refine hg _ _ (jfE (L:=L) (s:=.ok l) hf ((jbS hL (c:=jaT) (by decide)).trans h0) ?_ hx hs)
  rcases hb with hb|hb
  ·exact .inl ((jbS hL (c:=jb6) (by decide)).trans hb)
  ·exact .inr ((jbS hL (c:=jaR) (by decide)).trans hb)
 ·have h1:pIs jb6 l=false:=by cases h:pIs jb6 l;rfl;exact absurd (.inl h) hb
  have h2:pIs jaR l=false:=by cases h:pIs jaR l;rfl;exact absurd (.inr h) hb
  exact .inr ⟨l,ks++[],jj1 hf h1 h2 hx,hg _ _ (jl5 hL hf h0 h1 h2),he⟩
end
theorem jks {R:Nat} {L l0:List Tk} {d:Nat} {w:World} (h:Rf R L w d (.ok l0)) (hd:d≤64) (hD:∀ n,(tkD L n).k=1→DgT (tkD L n).t) (hE:EndL L) :
  Calls Tryz.prog 20 #[.pointer (some ⟨R,0,none⟩)] w (fun e W'=>∃ x v st',e = .returned v∧synAt w.heap.size W' x v∧jkr (pHd l0).a d (.ok l0) x st'∧Rf R L W' d st'∧Butt R w W'):=by
 have HTL:=jD h.fix.toks.toks
 have HD:=jD hd;have HDD:=jD hD;have HEE:=jD hE
 have HRM:=jD h.rem
 have CH:=fun W (H:Rf R L W d (.ok l0))=>jbQ H
 obtain⟨st,hst⟩:∃ st,st=RSt.ok l0:=⟨_,rfl⟩
 rw[←hst] at CH h HRM ⊢
 generalize (pHd l0).a=pa at *
 have KH:=jD CH
 clear hst
 have HA0:=jD h
 have HLT:=jD h.fix.lt;have HRW:=jD h.fix.lt
 have A0:=jD (h.alloc jZ);obtain⟨B0,XR0,HPR,HLS⟩:=jS h.fix.lt
 clear h CH hd hD hE
 go_enter Tryz.func20,Tryz.ntmps20
 go_wp2_with (go_at_call 48;refine jR (KH.out _ A0) B0 XR0 HPR fun w1 A1 B1 XR1=>?_)
 refine jD ?_
 go_wp2_with (go_at_call 47;refine cM (jam _ _ _ _ _ _ _) ?_;rintro e w2 ⟨rfl,hbl2⟩)
 have ha2:=A1.out.below hbl2;have hb2:=Butt.of_below (R:=R) A1.out.fix.lt hbl2;clear hbl2
 have A2:=jD ha2;have B2:=jtt B1 hb2
 have XR2:=jbb XR1 HPR hb2
 clear ha2 hb2
 refine jD ?_
 have LX:Hid (w.heap.size<w2.heap.size):=jD XR2.out.lt
 have A2a:=jD (A2.out.alloc (Obj.cells #[.int .i64 0,.int .i64 pa,.string ⟨#[]⟩,.int .i64 0,.slice none 0 0] 25));have B2a:=jD (B2.out.alloc HRW (Obj.cells #[.int .i64 0,.int .i64 pa,.string ⟨#[]⟩,.int .i64 0,.slice none 0 0] 25))
 have XR2a:=jD (XR2.out.alloc (Obj.cells #[.int .i64 0,.int .i64 pa,.string ⟨#[]⟩,.int .i64 0,.slice none 0 0] 25))
 have PXX:=nR A2.out.fix.lt
 have XX2a:=jD (Bx5.new w2 (.int .i64 0) (.int .i64 pa) (.string ⟨#[]⟩) (.int .i64 0) (.slice none 0 0))
 have R0:Hid (PrgRf R L w d st w2.heap.size pa (w2.alloc (Obj.cells #[.int .i64 0,.int .i64 pa,.string ⟨#[]⟩,.int .i64 0,.slice none 0 0] 25)) st [] (.slice none 0 0)):=jD ⟨A2a.out,B2a.out,XR2a.out,XX2a.out,growP.nil,(by simp only[List.length_nil];omega),.inl fun ys s' h=>h⟩
 go_wp2_with fail
 go_loopw [] (fun wr=>∃ s ks ao c,PrgRf R L w d st w2.heap.size pa wr s ks (.slice ao ks.length c)) (fun wr=>remR R L wr)
 case atStart=>exact⟨st,[],none,0,R0.out⟩
 case round=>
  obtain⟨s,ks,ao,c,hr⟩:=hrel
  have HR:=jD hr;clear hr R0
  cases s with
  |bad ea ee=>
   obtain⟨ze,y3,t3,t4⟩:=HR.out.hat.err1
   have A0:=jD HR.out.hat;have B0:=jD HR.out.hb;have XR0:=jD HR.out.xr;have XX0:=jD HR.out.xx;have G0:=jD HR.out.row
   go_wp2_with fail
   go_quiet (fail)
   have hbq:=below_drewN (Below.refl wr.heap.size wr) nq
   have Aq:=jD (A0.out.below hbq);have Bq:=jD (B0.out.trans (Butt.of_below A0.out.fix.lt hbq))
   have XRq:=jD (XR0.out.below hbq)
   have XXq:=jD (XX0.out.below hbq)
   have Gq:=jD (G0.out.butt HLT (Butt.of_below A0.out.fix.lt hbq))
   clear hbq
   generalize wr.drewN nq=wg1 at *
   have HFN:Hid (jkr pa d st (.mk 0 pa ⟨#[]⟩ 0 ks) (.bad ea ee)):=jD (by
    rcases HR.out.alt with g|⟨l1,xs0,e1,e2,e3⟩
    ·refine .inl ⟨ks,rfl,?_,fun l e=>by cases e⟩
     have:=g [] _ (show Stp (.program pa) d (.bad ea ee) [] (.bad ea ee) from rfl)
     rw[List.append_nil] at this
     exact this
    ·exact .inr ⟨l1,xs0,e1,e2,e3⟩)
   obtain⟨yXX0,yXX1,yXX2,yXX3,yXX4,-,-⟩:=XXq.out
   have FT:=jD (jas HA0 Bq Aq XRq (jrr _) (.int .i64 0) (.int .i64 pa) (.string ⟨#[]⟩) (.int .i64 0) (.slice ao ks.length c) _ rfl)
   have GX:=jD (((jac.mpr ⟨_,rfl,Gq.out.kids⟩:synIn (offs w.heap.size [w.heap.size,w2.heap.size]) _ (.mk 0 pa ⟨#[]⟩ 0 ks) (.agg #[.int .i64 0,.int .i64 pa,.string ⟨#[]⟩,.int .i64 0,.slice ao ks.length c]))).kept (by simp) FT.out.2.2.2).at
   obtain⟨yXR0,yXR1,yXR2,yXR3,yXR4,fXR0,fXR1,fXR2,fXR3,fXR4⟩:=bF XRq
   obtain⟨r0,r1,r2,r3,r4⟩:=FT.out.1
   have GA:=jD FT.out.2.1;have GB:=jD FT.out.2.2.1
   clear FT
   go_wp2
   refine bodyPost_ret (by simp[results,Tryz.results20,go_sem,r0,r1,r2,r3,r4];rfl) rfl ?_
   exact⟨_,_,_,rfl,GX.out,HFN.out,GA.out,GB.out⟩
  |ok l=>
   have HFL:Hid (l≠[]):=jD HR.out.hat.fine
   have HEK:=jD (HR.out.hat.endK HEE)
   have HAL:Hid (∀ ys s',Stp (.program pa) d (.ok l) ys s'→Stp (.program pa) d st (ks++ys) s'):=jD (HR.out.alt.resolve_right (fun⟨l1,xs0,e1,e2,e3⟩=>by cases e1))
   have HLN:Hid (ks.length≤1200000):=jD (by have:=HR.out.len;have:=HRM.out;omega)
   have A0:=jD HR.out.hat;have B0:=jD HR.out.hb;have XR0:=jD HR.out.xr;have XX0:=jD HR.out.xx;have G0:=jD HR.out.row
   obtain⟨hf,nx,op,er,ae,h1,hr2,hr3⟩:=A0.out
   rcases hr3 with ⟨rfl,hr4,hll⟩|⟨he,e,hr4,hll⟩
   rotate_left
   ·cases hll
   have hlx:l=L.drop nx:=by cases hll;rfl
   obtain⟨⟨b,oo,cc,r0,r1,r2,r3⟩,c1,c2,c3,c4,c5,c6,c7⟩:=hr2
   obtain⟨b',o',e',hat⟩:=r1.at c7
   cases e'
   obtain⟨d0,d1,d2⟩:=hat nx h1 wr (Below.refl _ _)
   have gl:(nx:Int)<(L.length:Int):=by omega
   have g0:(0:Int)≤(nx:Int):=by omega
   have hpd:pHd l=tkD L nx:=by rw[hlx];exact jaO h1
   rw[←hpd] at d0 d1 d2
   clear hat r1 c2 c4 c5 c6 c7 r2 r3 hr4 hll h1 hf d1 d2 hlx hpd
   by_cases hk:(pHd l).k=3
   ·have b4:((pHd l).k != (3:Int))=false:=by rw[hk];rfl
    have HFN:Hid (jkr pa d st (.mk 0 pa ⟨#[]⟩ 0 ks) (.ok l)):=jD (by
     refine .inl ⟨ks,rfl,?_,fun l' e=>by cases e;exact HEK.out.mp hk⟩
     have:=HAL.out [] _ (jmy HTL HFL (HEK.out.mp hk))
     rw[List.append_nil] at this
     exact this)
    clear hk
    generalize (pHd l).k=kk at d0 b4
    go_wp2_with fail
    go_quiet (fail)
    have hbq:=below_drewN (Below.refl wr.heap.size wr) nq
    have Aq:=jD (A0.out.below hbq);have Bq:=jD (B0.out.trans (Butt.of_below A0.out.fix.lt hbq))
    have XRq:=jD (XR0.out.below hbq)
    have XXq:=jD (XX0.out.below hbq)
    have Gq:=jD (G0.out.butt HLT (Butt.of_below A0.out.fix.lt hbq))
    clear hbq
    clear r0 c1 c3 d0 b4 gl g0
    generalize wr.drewN nq=wg1 at *
    obtain⟨yXX0,yXX1,yXX2,yXX3,yXX4,-,-⟩:=XXq.out
    have FT:=jD (jas HA0 Bq Aq XRq (jrr _) (.int .i64 0) (.int .i64 pa) (.string ⟨#[]⟩) (.int .i64 0) (.slice ao ks.length c) _ rfl)
    have GX:=jD (((jac.mpr ⟨_,rfl,Gq.out.kids⟩:synIn (offs w.heap.size [w.heap.size,w2.heap.size]) _ (.mk 0 pa ⟨#[]⟩ 0 ks) (.agg #[.int .i64 0,.int .i64 pa,.string ⟨#[]⟩,.int .i64 0,.slice ao ks.length c]))).kept (by simp) FT.out.2.2.2).at
    obtain⟨yXR0,yXR1,yXR2,yXR3,yXR4,fXR0,fXR1,fXR2,fXR3,fXR4⟩:=bF XRq
    obtain⟨r0,r1,r2,r3,r4⟩:=FT.out.1
    have GA:=jD FT.out.2.1;have GB:=jD FT.out.2.2.1
    clear FT
    go_wp2
    refine bodyPost_ret (by simp[results,Tryz.results20,go_sem,r0,r1,r2,r3,r4];rfl) rfl ?_
    exact⟨_,_,_,rfl,GX.out,HFN.out,GA.out,GB.out⟩
   ·have b4:((pHd l).k != (3:Int))=true:=by rw[bne_iff_ne];exact hk
    have HNE:Hid (pIs [] l=false):=jD (by cases e:pIs [] l;rfl;exact absurd (HEK.out.mpr e) hk)
    have HTW:Hid (2≤l.length):=jD (jhO HR.out.hat (fun e=>by have:=HNE.out;unfold pIs at this;rw[e] at this;cases this))
    have CR:=fun W (H:Rf R L W d (.ok l))=>ris H jaT (by decide)
    clear hk
    generalize (pHd l).k=kk at d0 b4
    go_wp2_with fail
    go_quiet (fail)
    have hbq:=below_drewN (Below.refl wr.heap.size wr) nq
    have Aq:=jD (A0.out.below hbq);have Bq:=jD (B0.out.trans (Butt.of_below A0.out.fix.lt hbq))
    have XRq:=jD (XR0.out.below hbq)
    have XXq:=jD (XX0.out.below hbq)
    have Gq:=jD (G0.out.butt HLT (Butt.of_below A0.out.fix.lt hbq))
    clear hbq
    clear r0 c1 c3 d0 b4 gl g0
    generalize wr.drewN nq=wg1 at *
    cases hc:rIs (.ok l) jaT with
    |true=>
     rw[hc] at CR;have KR:=jD CR;have HC0:=jD hc;clear CR hc
     go_wp2_with (go_at_call 49;refine jX (KR.out _ Aq) Bq XRq HPR fun w21 A21 B21 XR21 hb21=>?_)
     have XX21:=jbb XXq PXX hb21
     have G21:=jD (Gq.out.butt HLT hb21)
     clear hb21
     refine jD ?_
     go_wp2_with fail
     have AD:=jD (A21.out.below (Below.refl _ _).drew);have BD:=jD (B21.out.drew)
     have XRD:=jD (XR21.out.below (Below.refl _ _).drew)
     have XXD:=jD (XX21.out.below (Below.refl _ _).drew)
     have GD:=jD (G21.out.butt HLT (Butt.refl R w21).drew)
     have HPS:=jD ((by first|exact(fun p hp=>by simp only[List.mem_cons,List.not_mem_nil,or_false] at hp;have g0:=XRD.out.lt;have g1:=XXD.out.lt;omega)|simp):∀ p∈[w.heap.size,w2.heap.size],p<(w21.drew).heap.size)
     have HLO:Hid (w.heap.size≤(w21.drew).heap.size):=jD BD.out.size
     refine jaL (fun j=>j==7) (fun w'=>World.cell? w' ⟨w2.heap.size,4,none⟩=some (.slice ao ks.length c)) (by kernel_rfl) XXD.out.c4 (fun hHeld=>?_)
     generalize w21.drew=wg2 at *
     refine ja0 (i:=0) (v:=?v1z) rfl (by kernel_rfl) (by kernel_rfl) (by kernel_rfl) rfl (by kernel_rfl) (by kernel_rfl) (fun _ _ _ h=>h) (Or.inl ⟨by rfl,?h1z⟩) (by assumption) ?r1z
     case h1z=>(intro w hSw;(try dsimp only at hSw);go_simp;try with_reducible rfl)
     (try simp only[Act.put,lA,lB,lC])
     refine ja0 (i:=1) (v:=?v2z) rfl (by kernel_rfl) (by kernel_rfl) (by kernel_rfl) rfl (by kernel_rfl) (by kernel_rfl) (fun _ _ _ h=>h) (Or.inl ⟨by rfl,?h2z⟩) (by assumption) ?r2z
     case h2z=>(intro w hSw;(try dsimp only at hSw);go_simp;try with_reducible rfl)
     (try simp only[Act.put,lA,lB,lC])
     refine ja0 (i:=2) (v:=?v3z) rfl (by kernel_rfl) (by kernel_rfl) (by kernel_rfl) rfl (by kernel_rfl) (by kernel_rfl) (fun _ _ _ h=>h) (Or.inl ⟨by rfl,?h3z⟩) (by assumption) ?r3z
     case h3z=>(intro w hSw;(try dsimp only at hSw);go_simp;try with_reducible rfl)
     (try simp only[Act.put,lA,lB,lC])
     refine jax (i:=3) rfl (by kernel_rfl) (fun K hK=>?_)
     go_simp
     go_wp2_with (go_at_call 50;refine(jl2 AD).mono ?_;rintro e w22 ⟨x22,v22,s22,rfl,hx22,hs22,ha22,hb22⟩)
     obtain⟨k22,a22,t22,n22,o22,l22,c22,q22,rfl,rfl,hk22⟩:=hx22.shape
     have HS22:=jD hs22;have HSZ:=jD hb22.size
     have HZ:=jD (GD.out.off (jrr _) HLO HPS hx22)
     have A22:=jD ha22;have B22:=jtt BD hb22
     have XR22:=jbb XRD HPR hb22
     have XX22:=jbb XXD PXX hb22
     have G22:=jD (GD.out.butt HLT hb22)
     clear ha22 hb22 hx22 hk22 hs22
     have hHeld:=XX22.out.c4
     refine hK.out _ _ (fun _=>hHeld) ?_
     clear hK K
     (try simp only[Act.put,lA,lB,lC])
     refine jax (i:=4) rfl (by kernel_rfl) (fun K hK=>?_)
     go_simp
     have HZA:=jD (HZ.out.below (jN (jO k22 a22 t22 n22 o22 l22 c22)));have HBX:=jD (jn5 w22 k22 a22 t22 n22 o22 l22 c22)
     have HPA:=jD (fun p (hp:p∈[w.heap.size,w2.heap.size])=>Nat.lt_of_lt_of_le (HPS.out p hp) (Nat.le_trans HSZ (by simp:w22.heap.size≤(w22.alloc (jO k22 a22 t22 n22 o22 l22 c22)).heap.size)))
     have A22a1:=jD (A22.out.alloc (jO k22 a22 t22 n22 o22 l22 c22));have B22a1:=jD (B22.out.alloc HRW (jO k22 a22 t22 n22 o22 l22 c22))
     have XR22a1:=jD (XR22.out.alloc (jO k22 a22 t22 n22 o22 l22 c22))
     have XX22a1:=jD (XX22.out.alloc (jO k22 a22 t22 n22 o22 l22 c22))
     have G22a1:=jD (G22.out.butt HLT (Butt.of_below A22.out.fix.lt (jN (jO k22 a22 t22 n22 o22 l22 c22))))
     have hHeld:=XX22a1.out.c4
     refine hK.out _ _ (fun _=>hHeld) ?_
     clear hK K
     (try simp only[Act.put,lA,lB,lC])
     refine jax (i:=5) rfl (by kernel_rfl) (fun K hK=>?_)
     refine jbT (lo:=w.heap.size) (ps:=[w.heap.size,w2.heap.size]) (xs:=ks) (v:=.slice ao ks.length c) rfl (.tmp 29) (.tmp 32) rfl (by simp[Act.eval,Act.put]) G22a1 HLN B22a1.out.size HPA w22.heap.size (.mk k22 a22 t22 n22 q22) (.int .i64 k22) (.int .i64 a22) (.string t22) (.int .i64 n22) (.slice o22 l22 c22) (by simp[Act.eval,Act.put]) HZA ⟨rfl,rfl,rfl,rfl,rfl⟩ HBX ?_
     intro v9 ao9 cap9 w9 hv9 ho9 hg9
     replace hv9:v9 = .slice ao9 (ks.length+1) cap9:=hv9
     subst hv9
     have hgr:=Rf.grow HA0 A22a1 B22a1 (G22a1.out.below B22a1.out.size hg9)
     have A9:=jD hgr.1;have B9:=jD hgr.2;clear hgr
     have XR9:=jD (G22a1.out.box (by simp) hg9 XR22a1)
     have XX9:=jD (G22a1.out.box (by simp) hg9 XX22a1)
     have G9:=jD ho9;clear ho9 hg9 HZ HZA HBX HPA
     have hHeld:=XX9.out.c4
     refine hK.out _ _ (fun _=>hHeld) ?_
     clear hK K
     (try simp only[Act.put,lA,lB,lC])
     refine jbK (i:=6) (v:=?v4z) rfl (by kernel_rfl) (by kernel_rfl) (by kernel_rfl) rfl (fun _ _ _ h=>h) (Or.inl ⟨by rfl,?h4z⟩) (by assumption) ?r4z
     case h4z=>(intro w _;go_simp;try with_reducible rfl)
     (try simp only[Act.put,lA,lB,lC])
     refine jax (i:=7) rfl (by kernel_rfl) (fun K hK=>?_)
     have q0:=XX9.out.c4;have q1:=XX9.out.free 4;have q2:=XX9.out.lt
     go_simp
     refine hK.out _ _ (fun h=>by cases h) ?_
     clear hK K q0 q1 q2 hHeld
     refine jbo (by kernel_rfl) ?_ _
     have SN:=Rf.setNew HA0 B9 A9 (w2.heap.size) 4 (Nat.le_of_lt LX) (.slice ao9 (ks.length+1) cap9)
     have Af1:=jD SN.1;have Bf1:=jD SN.2;clear SN
     have XRf1:=jD (XR9.out.setO (q:=w2.heap.size) (j:=4) (Nat.ne_of_lt LX) (.slice ao9 (ks.length+1) cap9))
     have Gf1:=jD (G9.out.kept (by simp) ((Kept.refl (·≠w2.heap.size) w9).setCell ⟨w2.heap.size,4,none⟩ (fun h=>h rfl) (.slice ao9 (ks.length+1) cap9)))
     have XXf1:=jD (XX9.out.set4 (.slice ao9 (ks.length+1) cap9))
     go_wp2
     go_roundw
     case rel=>
      refine⟨s22,ks++[(.mk k22 a22 t22 n22 q22)],ao9,cap9,⟨Af1.out,Bf1.out,XRf1.out,?_,?_,?_,?_⟩⟩
      ·rw[List.length_append];exact XXf1.out
      ·rw[List.length_append];exact Gf1.out
      ·have g1:=HR.out.len;have g2:=jcc (fun f=>Less.record) HTW HS22.out;have g3:(RSt.ok l).rem=l.length:=rfl;simp only[List.length_append,List.length_cons,List.length_nil];omega
      ·exact .inl (jmz HTL HFL HC0 HS22 HAL)
     case measure=>
      have g1:=jbw HR.out.hat
      have g2:=jb2 Af1
      have g3:=jcc (fun f=>Less.record) HTW HS22
      show remR R L _<remR R L wr
      omega
    |false=>
     rw[hc] at CR;have KR:=jD CR;have HC0:=jD hc;clear CR hc
     go_wp2_with (go_at_call 49;refine jX (KR.out _ Aq) Bq XRq HPR fun w21 A21 B21 XR21 hb21=>?_)
     have XX21:=jbb XXq PXX hb21
     have G21:=jD (Gq.out.butt HLT hb21)
     clear hb21
     refine jD ?_
     go_wp2_with fail
     have AD:=jD (A21.out.below (Below.refl _ _).drew);have BD:=jD (B21.out.drew)
     have XRD:=jD (XR21.out.below (Below.refl _ _).drew)
     have XXD:=jD (XX21.out.below (Below.refl _ _).drew)
     have GD:=jD (G21.out.butt HLT (Butt.refl R w21).drew)
     have HPS:=jD ((by first|exact(fun p hp=>by simp only[List.mem_cons,List.not_mem_nil,or_false] at hp;have g0:=XRD.out.lt;have g1:=XXD.out.lt;omega)|simp):∀ p∈[w.heap.size,w2.heap.size],p<(w21.drew).heap.size)
     have HLO:Hid (w.heap.size≤(w21.drew).heap.size):=jD BD.out.size
     refine jaL (fun j=>j==7) (fun w'=>World.cell? w' ⟨w2.heap.size,4,none⟩=some (.slice ao ks.length c)) (by kernel_rfl) XXD.out.c4 (fun hHeld=>?_)
     generalize w21.drew=wg2 at *
     refine ja0 (i:=0) (v:=?v5z) rfl (by kernel_rfl) (by kernel_rfl) (by kernel_rfl) rfl (by kernel_rfl) (by kernel_rfl) (fun _ _ _ h=>h) (Or.inl ⟨by rfl,?h5z⟩) (by assumption) ?r5z
     case h5z=>(intro w hSw;(try dsimp only at hSw);go_simp;try with_reducible rfl)
     (try simp only[Act.put,lA,lB,lC])
     refine ja0 (i:=1) (v:=?v6z) rfl (by kernel_rfl) (by kernel_rfl) (by kernel_rfl) rfl (by kernel_rfl) (by kernel_rfl) (fun _ _ _ h=>h) (Or.inl ⟨by rfl,?h6z⟩) (by assumption) ?r6z
     case h6z=>(intro w hSw;(try dsimp only at hSw);go_simp;try with_reducible rfl)
     (try simp only[Act.put,lA,lB,lC])
     refine ja0 (i:=2) (v:=?v7z) rfl (by kernel_rfl) (by kernel_rfl) (by kernel_rfl) rfl (by kernel_rfl) (by kernel_rfl) (fun _ _ _ h=>h) (Or.inl ⟨by rfl,?h7z⟩) (by assumption) ?r7z
     case h7z=>(intro w hSw;(try dsimp only at hSw);go_simp;try with_reducible rfl)
     (try simp only[Act.put,lA,lB,lC])
     refine jax (i:=3) rfl (by kernel_rfl) (fun K hK=>?_)
     go_simp
     go_wp2_with (go_at_call 21;refine(jf6 AD HD HDD).mono ?_;rintro e w22 ⟨x22,v22,s22,rfl,hx22,hs22,ha22,hb22⟩)
     obtain⟨k22,a22,t22,n22,o22,l22,c22,q22,rfl,rfl,hk22⟩:=hx22.shape
     have HS22:=jD hs22;have HSZ:=jD hb22.size
     have HZ:=jD (GD.out.off (jrr _) HLO HPS hx22)
     have A22:=jD ha22;have B22:=jtt BD hb22
     have XR22:=jbb XRD HPR hb22
     have XX22:=jbb XXD PXX hb22
     have G22:=jD (GD.out.butt HLT hb22)
     clear ha22 hb22 hx22 hk22 hs22
     have hHeld:=XX22.out.c4
     refine hK.out _ _ (fun _=>hHeld) ?_
     clear hK K
     (try simp only[Act.put,lA,lB,lC])
     refine jax (i:=4) rfl (by kernel_rfl) (fun K hK=>?_)
     go_simp
     have HZA:=jD (HZ.out.below (jN (jO k22 a22 t22 n22 o22 l22 c22)));have HBX:=jD (jn5 w22 k22 a22 t22 n22 o22 l22 c22)
     have HPA:=jD (fun p (hp:p∈[w.heap.size,w2.heap.size])=>Nat.lt_of_lt_of_le (HPS.out p hp) (Nat.le_trans HSZ (by simp:w22.heap.size≤(w22.alloc (jO k22 a22 t22 n22 o22 l22 c22)).heap.size)))
     have A22a1:=jD (A22.out.alloc (jO k22 a22 t22 n22 o22 l22 c22));have B22a1:=jD (B22.out.alloc HRW (jO k22 a22 t22 n22 o22 l22 c22))
     have XR22a1:=jD (XR22.out.alloc (jO k22 a22 t22 n22 o22 l22 c22))
     have XX22a1:=jD (XX22.out.alloc (jO k22 a22 t22 n22 o22 l22 c22))
     have G22a1:=jD (G22.out.butt HLT (Butt.of_below A22.out.fix.lt (jN (jO k22 a22 t22 n22 o22 l22 c22))))
     have hHeld:=XX22a1.out.c4
     refine hK.out _ _ (fun _=>hHeld) ?_
     clear hK K
     (try simp only[Act.put,lA,lB,lC])
     refine jax (i:=5) rfl (by kernel_rfl) (fun K hK=>?_)
     refine jbT (lo:=w.heap.size) (ps:=[w.heap.size,w2.heap.size]) (xs:=ks) (v:=.slice ao ks.length c) rfl (.tmp 36) (.tmp 39) rfl (by simp[Act.eval,Act.put]) G22a1 HLN B22a1.out.size HPA w22.heap.size (.mk k22 a22 t22 n22 q22) (.int .i64 k22) (.int .i64 a22) (.string t22) (.int .i64 n22) (.slice o22 l22 c22) (by simp[Act.eval,Act.put]) HZA ⟨rfl,rfl,rfl,rfl,rfl⟩ HBX ?_
     intro v9 ao9 cap9 w9 hv9 ho9 hg9
     replace hv9:v9 = .slice ao9 (ks.length+1) cap9:=hv9
     subst hv9
     have hgr:=Rf.grow HA0 A22a1 B22a1 (G22a1.out.below B22a1.out.size hg9)
     have A9:=jD hgr.1;have B9:=jD hgr.2;clear hgr
     have XR9:=jD (G22a1.out.box (by simp) hg9 XR22a1)
     have XX9:=jD (G22a1.out.box (by simp) hg9 XX22a1)
     have G9:=jD ho9;clear ho9 hg9 HZ HZA HBX HPA
     have hHeld:=XX9.out.c4
     refine hK.out _ _ (fun _=>hHeld) ?_
     clear hK K
     (try simp only[Act.put,lA,lB,lC])
     refine jbK (i:=6) (v:=?v8z) rfl (by kernel_rfl) (by kernel_rfl) (by kernel_rfl) rfl (fun _ _ _ h=>h) (Or.inl ⟨by rfl,?h8z⟩) (by assumption) ?r8z
     case h8z=>(intro w _;go_simp;try with_reducible rfl)
     (try simp only[Act.put,lA,lB,lC])
     refine jax (i:=7) rfl (by kernel_rfl) (fun K hK=>?_)
     have q0:=XX9.out.c4;have q1:=XX9.out.free 4;have q2:=XX9.out.lt
     go_simp
     refine hK.out _ _ (fun h=>by cases h) ?_
     clear hK K q0 q1 q2 hHeld
     refine jbo (by kernel_rfl) ?_ _
     have SN:=Rf.setNew HA0 B9 A9 (w2.heap.size) 4 (Nat.le_of_lt LX) (.slice ao9 (ks.length+1) cap9)
     have Af1:=jD SN.1;have Bf1:=jD SN.2;clear SN
     have XRf1:=jD (XR9.out.setO (q:=w2.heap.size) (j:=4) (Nat.ne_of_lt LX) (.slice ao9 (ks.length+1) cap9))
     have Gf1:=jD (G9.out.kept (by simp) ((Kept.refl (·≠w2.heap.size) w9).setCell ⟨w2.heap.size,4,none⟩ (fun h=>h rfl) (.slice ao9 (ks.length+1) cap9)))
     have XXf1:=jD (XX9.out.set4 (.slice ao9 (ks.length+1) cap9))
     go_wp2
     go_roundw
     case rel=>
      refine⟨s22,ks++[(.mk k22 a22 t22 n22 q22)],ao9,cap9,⟨Af1.out,Bf1.out,XRf1.out,?_,?_,?_,?_⟩⟩
      ·rw[List.length_append];exact XXf1.out
      ·rw[List.length_append];exact Gf1.out
      ·have g1:=HR.out.len;have g2:=jcc (fun f=>Less.proc) HTW HS22.out;have g3:(RSt.ok l).rem=l.length:=rfl;simp only[List.length_append,List.length_cons,List.length_nil];omega
      ·exact jl6 HTL HFL HC0 HNE HS22 HAL
     case measure=>
      have g1:=jbw HR.out.hat
      have g2:=jb2 Af1
      have g3:=jcc (fun f=>Less.proc) HTW HS22
      show remR R L _<remR R L wr
      omega
end Go.Proofs.YtenmmmdnpglkoaaGreatDoor
