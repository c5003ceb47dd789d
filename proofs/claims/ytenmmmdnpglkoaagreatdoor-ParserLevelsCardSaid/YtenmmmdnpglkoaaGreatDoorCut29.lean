import Derived.Test.YtenmmmdnpglkoaaGreatDoorCut28
set_option linter.unusedSimpArgs false
set_option linter.unusedVariables false
set_option maxRecDepth 100000
set_option maxHeartbeats 8000000
/-
 The reference's reader: choices.
-/
namespace Go.Proofs.YtenmmmdnpglkoaaGreatDoor
open Go Go.Proofs Go.RowKit Go.Sort
section
variable {α : Type} {m m':Rd α} {l:List Tk} {d:Nat} {st s s1 s2 s3 s4 s5:RSt} {x y u:Syn} {r:List Syn} {z:Int} {xa:α}
theorem Run.at (h:Run m (.ok l) xa s) (e:∀ f,m f l=m' f l):Run m' (.ok l) xa s:=by
 rcases h with ⟨l',rfl,h0,h1,N,hN⟩|⟨a,e',he,rfl,N,hN⟩
 ·exact .inl ⟨l',rfl,h0,h1,N,fun f hf=>(e f).symm.trans (hN f hf)⟩
 ·exact .inr ⟨a,e',he,rfl,N,fun f hf=>(e f).symm.trans (hN f hf)⟩
theorem Run.bads {a:Int} {e:Nat} (h:Run m (.bad a e) xa s):s = .bad a e:=h
def jjn (z:Int) (d:Nat) (p:List Syn):Rd (List Syn):=jae (mIs jel) fun e=>if e=true then (jae jbg fun _=>jae (mIs wIf) fun i=>if i=true then (jae (jaF wIf d) fun t=>jae (jal (.chain t.a) (d+1)) fun x=>mRet [.mk 11 z ⟨#[]⟩ 0 (p++x)]) else (jae (jal .block d) fun x=>mRet [.mk 11 z ⟨#[]⟩ 0 (p++x)])) else mRet [.mk 11 z ⟨#[]⟩ 0 p]
theorem jiu (hf:st.fine) (hc:∀ l,st = .ok l→pIs wIf l=true) (hz:hasA st z) (h1:s1=jad (rIs st wIf) st) (hx:Stp (.lvl 0) d s1 [x] s2) (hy:Stp .block d s2 [y] s3) (ht:Run (jjn z d [x,y]) s3 r s):Run (jay d) st r s:=by
 cases st with
 |bad a e=>
  subst h1
  obtain rfl:=Run.bads hx
  obtain rfl:=Run.bads hy
  exact Run.bads ht
 |ok l=>
  have e:=hc l rfl
  obtain rfl:=hz l rfl
  have h2:s1 = .ok (pTl l):=by rw[h1];show jad (pIs wIf l) _=_;rw[e];rfl
  subst h2
  refine Run.bind (jaS (L:=[]) hf) (jet (Run.bind hx (Run.bind hy ?_)))
  exact ht
theorem jhq (hf:st.fine) {p:List Syn} (hc:rIs st jel=false):Run (jjn z d p) st [.mk 11 z ⟨#[]⟩ 0 p] st:=by
 cases st with
 |bad a e=>exact rfl
 |ok l=>exact .inl ⟨l,rfl,hf,jrr _,0,fun f _=>by have hc:pIs jel l=false:=hc;unfold jjn jae mIs mRet;simp[hc,bind,Except.bind,jbX]⟩
theorem jcI (hf:l≠[]) {c:List UInt8} {b:Bool} (hc:pIs c l=b):Run (mIs c) (.ok l) b (.ok l):=.inl ⟨l,rfl,hf,jrr _,0,fun f _=>by unfold mIs;rw[hc]⟩
theorem jfj (hf:st.fine) {p:List Syn} (hc:rIs st jel=true) (hi:rIs (jaq st) wIf=false) (hx:Stp .block d (jaq st) [u] s):Run (jjn z d p) st [.mk 11 z ⟨#[]⟩ 0 (p++[u])] s:=by
 obtain⟨l,rfl,hp⟩:=jbx hc
 have f1:(pTl l)≠[]:=jaJ hf
 have f2:=Run.fine hx f1
 exact Run.bind (jcI hf hp) (Run.ite (fun _=>Run.bind (jaS (L:=[]) hf) (Run.bind (jcI f1 hi) (Run.ite (fun g=>by cases g) fun _=>Run.bind hx (ja1 f2)))) (fun g=>absurd rfl g))
theorem jhr (hf:st.fine) {p:List Syn} (hc:rIs st jel=true) (hi:rIs (jaq st) wIf=true) (hx:Run (jay (d+1)) (levS (jaq st) d) [u] s):Run (jjn z d p) st [.mk 11 z ⟨#[]⟩ 0 (p++[u])] s:=by
 obtain⟨l,rfl,hp⟩:=jbx hc
 have f1:(pTl l)≠[]:=jaJ hf
 have hi:pIs wIf (pTl l)=true:=hi
 refine Run.bind (jcI hf hp) (Run.ite (fun _=>Run.bind (jaS (L:=[]) hf) (Run.bind (jcI f1 hi) (Run.ite (fun _=>?_) fun g=>absurd rfl g))) (fun g=>absurd rfl g))
 unfold levS jaq at hx
 dsimp only at hx
 by_cases h64:d=64
 ·rw[if_pos h64] at hx
  obtain rfl:=Run.bads hx
  exact .inr ⟨_,12,by decide,rfl,0,fun f _=>by show (jaF wIf d f (pTl l) >>= _)=_;unfold jaF;rw[if_pos hi,if_pos h64];rfl⟩
 ·rw[if_neg h64] at hx
  have f2:=Run.fine hx f1
  refine Run.at (Run.bind (k:=fun q=>mRet [Syn.mk 11 z ⟨#[]⟩ 0 (p++q)]) hx (ja1 f2)) fun f=>?_
  show (jay (d+1) f (pTl l) >>= _)=(jaF wIf d f (pTl l) >>= _)
  unfold jaF
  rw[if_pos hi,if_neg h64]
  rfl
end
abbrev QC (R:Nat) (L:List Tk) (m:Rd (List Syn)) (d:Nat) (st:RSt) (W:World):Ending→World→Prop:=fun e W'=>
 ∃ x v st',e = .returned v∧synAt W.heap.size W' x v∧Run m st [x] st'∧Rf R L W' d st'∧Butt R W W'
abbrev lessS (st s:RSt):Prop:=isOk s=false∨s.rem<st.rem
theorem lessS.le {st s s':RSt} (h:lessS st s) (hr:s'.rem≤s.rem) (hb:isOk s=false→isOk s'=false):lessS st s':=h.imp hb (fun g=>Nat.lt_of_le_of_lt hr g)
theorem Run.badOk {α : Type} {m:Rd α} {st s:RSt} {x:α} (h:Run m st x s) (hb:isOk st=false):isOk s=false:=by
 cases st with
 |ok l=>cases hb
 |bad a e=>rw[show s = .bad a e from h];rfl
theorem Run.lessS {α : Type} {m:Rd α} {st s s':RSt} {x:α} (h:Run m s x s') (hl:lessS st s):lessS st s':=lessS.le hl (Run.rem h) (Run.badOk h)
theorem jhs {st s:RSt} (hl:lessS st s):lessS st (jaq s):=lessS.le hl (ja6 s) (fun h=>by cases s with|ok l=>cases h|bad a e=>rfl)
theorem jjo {R:Nat} {L:List Tk} {d:Nat} {st:RSt} {w:World} (h:Rf R L w d st) (hd:d≤64) (hc:∀ l,st = .ok l→pIs wIf l=true) (KB:∀ s,lessS st s→GF 56 R L #[.pointer (some ⟨R,0,none⟩),.bool false] .block d s) (KC:∀ l5,lessS st (.ok l5)→pIs wIf l5=true→∀ W,Rf R L W (d+1) (levS (.ok l5) d)→Calls Tryz.prog 119 #[.pointer (some ⟨R,0,none⟩)] W (QC R L (jay (d+1)) (d+1) (levS (.ok l5) d) W)) :
  Calls Tryz.prog 119 #[.pointer (some ⟨R,0,none⟩)] w (QC R L (jay d) d st w):=by
 have hfi:=h.fine
 have HD:=jD hd
 have hl1:lessS st (jad (rIs st wIf) st):=by
  cases st with
  |bad a e=>exact .inl rfl
  |ok l=>
   have e:=hc l rfl
   refine .inr ?_
   show (jad (pIs wIf l) (.ok l)).rem<_
   rw[e]
   have g:=h.rem_less (jeg e (by decide))
   show (pTl l).length<l.length
   omega
 have HM:=jD (fun z x y s2 s3 r s hz hx hy ht=>jiu (d:=d) (z:=z) (x:=x) (y:=y) (s2:=s2) (s3:=s3) (r:=r) (s:=s) hfi hc hz rfl hx hy ht)
 have CH:=fun W (H:Rf R L W d st)=>jcy H
 have CN:=fun W (H:Rf R L W d st)=>jbu H wIf (by decide)
 have F1:=jD (jah (can:=rIs st wIf) hfi)
 generalize jad (rIs st wIf) st=s1 at *
 have L1:=jD hl1;have KBB:=jD KB;have KCC:=jD KC;have KH:=jD CH;have KN:=jD CN
 have HA0:=jD h
 have HLT:=jD h.fix.lt;have HRW:=jD h.fix.lt
 have A0:=jD (h.alloc jZ);obtain⟨B0,XR0,HPR,HLS⟩:=jS h.fix.lt
 clear h CH CN hfi hd hl1 KB KC hc
 go_enter Tryz.func119,Tryz.ntmps119
 go_wp2_with (go_at_call 48;refine cM (KH.out _ A0) ?_;rintro e w1 ⟨z1,rfl,hz1,ha1,hb1⟩)
 have HZ1:=jD hz1
 have A1:=jD ha1;have B1:=jtt B0 hb1
 have XR1:=jbb XR0 HPR hb1
 clear ha1 hb1 hz1
 refine jD ?_
 go_wp2_with (go_at_call 52;refine jR (KN.out _ A1) B1 XR1 HPR fun w2 A2 B2 XR2=>?_)
 refine jD ?_
 go_wp2_with (go_at_call 22;refine jT (jcv HD _ A2) B2 XR2 HPR fun w3 k3 a3 t3 n3 o3 l3 c3 q3 s3 HS3 TR3 A3 B3 XR3=>?_)
 refine jD ?_
 have L3:=jD (Run.lessS HS3 L1)
 have A3a:=jD (A3.out.alloc (jO k3 a3 t3 n3 o3 l3 c3));have B3a:=jD (B3.out.alloc HRW (jO k3 a3 t3 n3 o3 l3 c3))
 have XR3a:=jD (XR3.out.alloc (jO k3 a3 t3 n3 o3 l3 c3))
 have TR33a:=jww TR3 HLT A3.out.fix.lt (jO k3 a3 t3 n3 o3 l3 c3)
 have PXC:=nR A3.out.fix.lt
 have XC3a:=jD (jn5 w3 k3 a3 t3 n3 o3 l3 c3)
 go_upto_region 4 with fail
 have KQ:=jD (fun W (H:Rf R L W d s3)=>KBB.out s3 L3 W H)
 have HXC:Hid (w3.heap.size≠w.heap.size):=jD (fun e=>by have:=XR3.out.lt;omega)
 go_cut [5] from 12 to 17 (fun s5 wx=>∃ X y s4 ao,s5 = .pointer (some ⟨X,0,none⟩)∧Rf R L wx d s4∧Butt R w wx∧Bx5 wx w.heap.size (.int .i64 0) (.int .i64 0) (.string ⟨#[]⟩) (.int .i64 0) (.slice none 0 0)∧Bx5 wx X (.int .i64 11) (.int .i64 z1) (.string ⟨#[]⟩) (.int .i64 0) (.slice ao 2 2)∧w.heap.size<X∧growP w.heap.size [w.heap.size,X] wx [.mk k3 a3 t3 n3 q3,y] (.slice ao 2 2)∧Stp .block d s3 [y] s4)
 case first=>
  go_wp2_with fail
  have AD:=jD (A3a.out.below (Below.refl _ _).drew);have BD:=jD (B3a.out.drew)
  have XRD:=jD (XR3a.out.below (Below.refl _ _).drew)
  have XCD:=jD (XC3a.out.below (Below.refl _ _).drew)
  have TR3D:=jD (TR33a.out.butt HLT (Butt.refl R (w3.alloc (jO k3 a3 t3 n3 o3 l3 c3))).drew)
  refine jaL (fun j=>j==7) (fun w'=>jP w' (w3.heap.size) (.int .i64 k3) (.int .i64 a3) (.string t3) (.int .i64 n3) (.slice o3 l3 c3)) (by kernel_rfl) ⟨XCD.out.c0,XCD.out.c1,XCD.out.c2,XCD.out.c3,XCD.out.c4⟩ (fun hHeld=>?_)
  generalize (w3.alloc (jO k3 a3 t3 n3 o3 l3 c3)).drew=wg1 at *
  refine ja0 (i:=0) (v:=?v1z) rfl (by kernel_rfl) (by kernel_rfl) (by kernel_rfl) rfl (by kernel_rfl) (by kernel_rfl) (fun _ _ _ h=>h) (Or.inl ⟨by rfl,?h1z⟩) (by assumption) ?r1z
  case h1z=>(intro w hSw;(try dsimp only at hSw);go_simp;try with_reducible rfl)
  (try simp only[Act.put,lA,lB,lC])
  refine ja0 (i:=1) (v:=?v2z) rfl (by kernel_rfl) (by kernel_rfl) (by kernel_rfl) rfl (by kernel_rfl) (by kernel_rfl) (fun _ _ _ h=>h) (Or.inl ⟨by rfl,?h2z⟩) (by assumption) ?r2z
  case h2z=>(intro w hSw;(try dsimp only at hSw);go_simp;try with_reducible rfl)
  (try simp only[Act.put,lA,lB,lC])
  refine ja0 (i:=2) (v:=?v3z) rfl (by kernel_rfl) (by kernel_rfl) (by kernel_rfl) rfl (by kernel_rfl) (by kernel_rfl) (fun _ _ _ h=>h) (Or.inl ⟨by rfl,?h3z⟩) (by assumption) ?r3z
  case h3z=>(intro w hSw;(try dsimp only at hSw);go_simp;try with_reducible rfl)
  (try simp only[Act.put,lA,lB,lC])
  refine jhp (i:=3) (j:=6) (oj:={ dst:=some 5,op:=Op.alloc 25,type:=0,pos:= "ref.go:271",after:=#[],guard:=none }) rfl rfl (by kernel_rfl) (fun K hK=>?_) (fun K hK=>?_)
  ·go_simp
   go_wp2_with (go_at_call 56;refine(KQ.out _ AD).mono ?_;rintro e w4 ⟨x4,v4,s4,rfl,hx4,hs4,ha4,hb4⟩)
   obtain⟨k4,a4,t4,n4,o4,l4,c4,q4,rfl,rfl,hk4⟩:=hx4.shape
   have HS4:=jD hs4
   have TR4:=tA hx4 BD.out.size XRD.out.lt
   have A4:=jD ha4;have B4:=jtt BD hb4
   have XR4:=jbb XRD HPR hb4
   have XC4:=jbb XCD PXC hb4
   have TR34:=jvv TR3D HLT hb4
   clear ha4 hb4 hx4 hk4 hs4
   have hHeld:jP w4 (w3.heap.size) (.int .i64 k3) (.int .i64 a3) (.string t3) (.int .i64 n3) (.slice o3 l3 c3):=⟨XC4.out.c0,XC4.out.c1,XC4.out.c2,XC4.out.c3,XC4.out.c4⟩
   refine hK.out _ _ (fun _=>hHeld) ?_
   clear hK K
   (try simp only[Act.put,lA,lB,lC])
   refine jhp (i:=4) (j:=6) (oj:={ dst:=some 5,op:=Op.alloc 25,type:=0,pos:= "ref.go:271",after:=#[],guard:=none }) rfl rfl (by kernel_rfl) (fun K hK=>?_) (fun K hK=>?_)
   ·go_simp
    have hAw:offs w.heap.size [w.heap.size] w4.heap.size:=⟨(Nat.le_trans (jrr _) B4.out.size),fun hp=>absurd (((fun p hp=>by simp only[List.mem_cons,List.not_mem_nil,or_false] at hp;have g0:=XR4.out.lt;omega):∀ p∈[w.heap.size],p<w4.heap.size) _ hp) (Nat.lt_irrefl _)⟩
    have HG:=jD (growP.new (flatIn.cons TR34 (flatIn.one TR4)) (by simp) hAw 2 rfl);clear hAw
    have A4a1:=jD (A4.out.alloc (oD k3 a3 t3 n3 o3 l3 c3 k4 a4 t4 n4 o4 l4 c4));have B4a1:=jD (B4.out.alloc HRW (oD k3 a3 t3 n3 o3 l3 c3 k4 a4 t4 n4 o4 l4 c4))
    have XR4a1:=jD (XR4.out.alloc (oD k3 a3 t3 n3 o3 l3 c3 k4 a4 t4 n4 o4 l4 c4))
    have XC4a1:=jD (XC4.out.alloc (oD k3 a3 t3 n3 o3 l3 c3 k4 a4 t4 n4 o4 l4 c4))
    generalize w4.alloc (oD k3 a3 t3 n3 o3 l3 c3 k4 a4 t4 n4 o4 l4 c4)=wg2 at *
    have hHeld:jP wg2 (w3.heap.size) (.int .i64 k3) (.int .i64 a3) (.string t3) (.int .i64 n3) (.slice o3 l3 c3):=⟨XC4a1.out.c0,XC4a1.out.c1,XC4a1.out.c2,XC4a1.out.c3,XC4a1.out.c4⟩
    refine hK.out _ _ (fun _=>hHeld) ?_
    clear hK K
    (try simp only[Act.put,lA,lB,lC])
    refine jhp (i:=5) (j:=6) (oj:={ dst:=some 5,op:=Op.alloc 25,type:=0,pos:= "ref.go:271",after:=#[],guard:=none }) rfl rfl (by kernel_rfl) (fun K hK=>?_) (fun K hK=>?_)
    ·go_simp
     go_wp2_with (go_at_call 47;refine(jam _ _ _ _ _ _ _).mono ?_;rintro e w5 ⟨rfl,hbl5⟩)
     have ha5:=A4a1.out.below hbl5;have hb5:=Butt.of_below (R:=R) A4a1.out.fix.lt hbl5;clear hbl5
     have A5:=jD ha5;have B5:=jtt B4a1 hb5
     have XR5:=jbb XR4a1 HPR hb5
     have XC5:=jbb XC4a1 PXC hb5
     have G5:=jD (HG.out.butt HLT hb5)
     clear ha5 hb5
     have hHeld:jP w5 (w3.heap.size) (.int .i64 k3) (.int .i64 a3) (.string t3) (.int .i64 n3) (.slice o3 l3 c3):=⟨XC5.out.c0,XC5.out.c1,XC5.out.c2,XC5.out.c3,XC5.out.c4⟩
     refine hK.out _ _ (fun _=>hHeld) ?_
     clear hK K
     (try simp only[Act.put,lA,lB,lC])
     refine jax (i:=6) rfl (by kernel_rfl) (fun K hK=>?_)
     go_simp
     have hHeld:jP w5 (w3.heap.size) (.int .i64 k3) (.int .i64 a3) (.string t3) (.int .i64 n3) (.slice o3 l3 c3):=⟨XC5.out.c0,XC5.out.c1,XC5.out.c2,XC5.out.c3,XC5.out.c4⟩
     refine hK.out _ _ (fun _=>by have zz:=XC5.out.alloc jZ;exact⟨zz.c0,zz.c1,zz.c2,zz.c3,zz.c4⟩) ?_
     clear hK K
     (try simp only[Act.put,lA,lB,lC])
     refine jax (i:=7) rfl (by kernel_rfl) (fun K hK=>?_)
     go_simp
     refine hK.out _ _ (fun h=>by cases h) ?_
     clear hK K hHeld
     refine jbo (by kernel_rfl) ?_ _
     have Gx:=jD (G5.out.ext (X:=w5.heap.size) (jrr _))
     have HX9:=jD (Bx5.new w5 (.int .i64 11) (.int .i64 z1) (.string ⟨#[]⟩) (.int .i64 0) (.slice (some ⟨w4.heap.size,0,none⟩) 2 2))
     have PXX:=nR A5.out.fix.lt
     have LXX:Hid (w.heap.size<w5.heap.size):=jD XR5.out.lt
     have A5a2:=jD (A5.out.alloc (Obj.cells #[.int .i64 11,.int .i64 z1,.string ⟨#[]⟩,.int .i64 0,.slice (some ⟨w4.heap.size,0,none⟩) 2 2] 25));have B5a2:=jD (B5.out.alloc HRW (Obj.cells #[.int .i64 11,.int .i64 z1,.string ⟨#[]⟩,.int .i64 0,.slice (some ⟨w4.heap.size,0,none⟩) 2 2] 25))
     have XR5a2:=jD (XR5.out.alloc (Obj.cells #[.int .i64 11,.int .i64 z1,.string ⟨#[]⟩,.int .i64 0,.slice (some ⟨w4.heap.size,0,none⟩) 2 2] 25))
     have XC5a2:=jD (XC5.out.alloc (Obj.cells #[.int .i64 11,.int .i64 z1,.string ⟨#[]⟩,.int .i64 0,.slice (some ⟨w4.heap.size,0,none⟩) 2 2] 25))
     have G5a2:=jD (Gx.out.butt HLT (Butt.of_below A5.out.fix.lt (jN (Obj.cells #[.int .i64 11,.int .i64 z1,.string ⟨#[]⟩,.int .i64 0,.slice (some ⟨w4.heap.size,0,none⟩) 2 2] 25))))
     go_wp2_with fail
     go_meet
     exact⟨_,_,_,_,rfl,A5a2.out,B5a2.out,XR5a2.out,HX9.out,LXX.out,G5a2.out,HS4.out⟩
    ·go_simp
     have Gx:=jD (HG.out.ext (X:=wg2.heap.size) (jrr _))
     have HX9:=jD (Bx5.new wg2 (.int .i64 0) (.int .i64 0) (.string ⟨#[]⟩) (.int .i64 0) (.slice none 0 0))
     have PXX:=nR A4a1.out.fix.lt
     have LXX:Hid (w.heap.size<wg2.heap.size):=jD XR4a1.out.lt
     have A4a2:=jD (A4a1.out.alloc jZ);have B4a2:=jD (B4a1.out.alloc HRW jZ)
     have XR4a2:=jD (XR4a1.out.alloc jZ)
     have XC4a2:=jD (XC4a1.out.alloc jZ)
     have G4a2:=jD (Gx.out.butt HLT (Butt.of_below A4a1.out.fix.lt (jN jZ)))
     generalize wg2.alloc jZ=wg3 at *
     have HCX:Hid ((w3.heap.size)≠wg2.heap.size):=jD (Nat.ne_of_lt XC4a1.out.lt)
     have hHeld:jP wg3 (w3.heap.size) (.int .i64 k3) (.int .i64 a3) (.string t3) (.int .i64 n3) (.slice o3 l3 c3):=⟨XC4a2.out.c0,XC4a2.out.c1,XC4a2.out.c2,XC4a2.out.c3,XC4a2.out.c4⟩
     refine hK.out _ _ (fun _=>hHeld) ?_
     clear hK K
     (try simp only[Act.put,lA,lB,lC])
     refine jax (i:=5) rfl (by kernel_rfl) (fun K hK=>?_)
     go_simp
     go_wp2_with (go_at_call 47;refine(jam _ _ _ _ _ _ _).mono ?_;rintro e w5 ⟨rfl,hbl5⟩)
     have ha5:=A4a2.out.below hbl5;have hb5:=Butt.of_below (R:=R) A4a2.out.fix.lt hbl5;clear hbl5
     have A5:=jD ha5;have B5:=jtt B4a2 hb5
     have XR5:=jbb XR4a2 HPR hb5
     have XC5:=jbb XC4a2 PXC hb5
     have XX5:=jD (HX9.out.butt PXX hb5)
     have G5:=jD (G4a2.out.butt HLT hb5)
     clear ha5 hb5
     have hHeld:jP w5 (w3.heap.size) (.int .i64 k3) (.int .i64 a3) (.string t3) (.int .i64 n3) (.slice o3 l3 c3):=⟨XC5.out.c0,XC5.out.c1,XC5.out.c2,XC5.out.c3,XC5.out.c4⟩
     refine hK.out _ _ (fun _=>hHeld) ?_
     clear hK K
     (try simp only[Act.put,lA,lB,lC])
     refine jax (i:=7) rfl (by kernel_rfl) (fun K hK=>?_)
     have y0:=XX5.out.c0;have f0:=XX5.out.free 0
     have y1:=XX5.out.c1;have f1:=XX5.out.free 1
     have y2:=XX5.out.c2;have f2:=XX5.out.free 2
     have y3:=XX5.out.c3;have f3:=XX5.out.free 3
     have y4:=XX5.out.c4;have f4:=XX5.out.free 4
     have yl:=XX5.out.lt
     go_simp
     refine hK.out _ _ (fun h=>by cases h) ?_
     clear hK K hHeld y0 y1 y2 y3 y4 f0 f1 f2 f3 f4 yl
     refine jbo (by kernel_rfl) ?_ _
     have FT:=jD (jas HA0 B5 A5 XX5 (Nat.le_of_lt LXX) (.int .i64 11) (.int .i64 z1) (.string ⟨#[]⟩) (.int .i64 0) (.slice (some ⟨w4.heap.size,0,none⟩) 2 2) _ rfl)
     have Ag1:=jD FT.out.2.1;have Bg1:=jD FT.out.2.2.1;have XXg1:=jD FT.out.1
     have XRg1:=jD (XR5.out.kept (Nat.ne_of_lt LXX) FT.out.2.2.2)
     have XCg1:=jD (XC5.out.kept HCX FT.out.2.2.2)
     have Gg1:=jD (G5.out.kept (by simp) FT.out.2.2.2)
     go_wp2_with fail
     go_meet
     exact⟨_,_,_,_,rfl,Ag1.out,Bg1.out,XRg1.out,XXg1.out,LXX.out,Gg1.out,HS4.out⟩
   ·go_simp
    have TR3x:=jD (TR34.out.ext (X:=w4.heap.size) (jrr _))
    have TR4x:=jD (TR4.out.ext (X:=w4.heap.size) (jrr _))
    have HX9:=jD (Bx5.new w4 (.int .i64 0) (.int .i64 0) (.string ⟨#[]⟩) (.int .i64 0) (.slice none 0 0))
    have PXX:=nR A4.out.fix.lt
    have LXX:Hid (w.heap.size<w4.heap.size):=jD XR4.out.lt
    have A4a1:=jD (A4.out.alloc jZ);have B4a1:=jD (B4.out.alloc HRW jZ)
    have XR4a1:=jD (XR4.out.alloc jZ)
    have XC4a1:=jD (XC4.out.alloc jZ)
    have TR34a1:=jD (TR3x.out.butt HLT (Butt.of_below A4.out.fix.lt (jN jZ)))
    have TR44a1:=jD (TR4x.out.butt HLT (Butt.of_below A4.out.fix.lt (jN jZ)))
    generalize w4.alloc jZ=wg2 at *
    have HCX:Hid ((w3.heap.size)≠w4.heap.size):=jD (Nat.ne_of_lt XC4.out.lt)
    have hHeld:jP wg2 (w3.heap.size) (.int .i64 k3) (.int .i64 a3) (.string t3) (.int .i64 n3) (.slice o3 l3 c3):=⟨XC4a1.out.c0,XC4a1.out.c1,XC4a1.out.c2,XC4a1.out.c3,XC4a1.out.c4⟩
    refine hK.out _ _ (fun _=>hHeld) ?_
    clear hK K
    (try simp only[Act.put,lA,lB,lC])
    refine jax (i:=4) rfl (by kernel_rfl) (fun K hK=>?_)
    go_simp
    have hAw:offs w.heap.size [w.heap.size,w4.heap.size] wg2.heap.size:=⟨(Nat.le_trans (jrr _) B4a1.out.size),fun hp=>absurd (((fun p hp=>by simp only[List.mem_cons,List.not_mem_nil,or_false] at hp;have g0:=XR4a1.out.lt;have g1:=HX9.out.lt;omega):∀ p∈[w.heap.size,w4.heap.size],p<wg2.heap.size) _ hp) (Nat.lt_irrefl _)⟩
    have HG:=jD (growP.new (flatIn.cons TR34a1 (flatIn.one TR44a1)) (by simp) hAw 2 rfl);clear hAw
    have A4a2:=jD (A4a1.out.alloc (oD k3 a3 t3 n3 o3 l3 c3 k4 a4 t4 n4 o4 l4 c4));have B4a2:=jD (B4a1.out.alloc HRW (oD k3 a3 t3 n3 o3 l3 c3 k4 a4 t4 n4 o4 l4 c4))
    have XR4a2:=jD (XR4a1.out.alloc (oD k3 a3 t3 n3 o3 l3 c3 k4 a4 t4 n4 o4 l4 c4))
    have XC4a2:=jD (XC4a1.out.alloc (oD k3 a3 t3 n3 o3 l3 c3 k4 a4 t4 n4 o4 l4 c4))
    have XX4a2:=jD (HX9.out.alloc (oD k3 a3 t3 n3 o3 l3 c3 k4 a4 t4 n4 o4 l4 c4))
    generalize wg2.alloc (oD k3 a3 t3 n3 o3 l3 c3 k4 a4 t4 n4 o4 l4 c4)=wg3 at *
    have hHeld:jP wg3 (w3.heap.size) (.int .i64 k3) (.int .i64 a3) (.string t3) (.int .i64 n3) (.slice o3 l3 c3):=⟨XC4a2.out.c0,XC4a2.out.c1,XC4a2.out.c2,XC4a2.out.c3,XC4a2.out.c4⟩
    refine hK.out _ _ (fun _=>hHeld) ?_
    clear hK K
    (try simp only[Act.put,lA,lB,lC])
    refine jax (i:=5) rfl (by kernel_rfl) (fun K hK=>?_)
    go_simp
    go_wp2_with (go_at_call 47;refine(jam _ _ _ _ _ _ _).mono ?_;rintro e w5 ⟨rfl,hbl5⟩)
    have ha5:=A4a2.out.below hbl5;have hb5:=Butt.of_below (R:=R) A4a2.out.fix.lt hbl5;clear hbl5
    have A5:=jD ha5;have B5:=jtt B4a2 hb5
    have XR5:=jbb XR4a2 HPR hb5
    have XC5:=jbb XC4a2 PXC hb5
    have XX5:=jbb XX4a2 PXX hb5
    have G5:=jD (HG.out.butt HLT hb5)
    clear ha5 hb5
    have hHeld:jP w5 (w3.heap.size) (.int .i64 k3) (.int .i64 a3) (.string t3) (.int .i64 n3) (.slice o3 l3 c3):=⟨XC5.out.c0,XC5.out.c1,XC5.out.c2,XC5.out.c3,XC5.out.c4⟩
    refine hK.out _ _ (fun _=>hHeld) ?_
    clear hK K
    (try simp only[Act.put,lA,lB,lC])
    refine jax (i:=7) rfl (by kernel_rfl) (fun K hK=>?_)
    have y0:=XX5.out.c0;have f0:=XX5.out.free 0
    have y1:=XX5.out.c1;have f1:=XX5.out.free 1
    have y2:=XX5.out.c2;have f2:=XX5.out.free 2
    have y3:=XX5.out.c3;have f3:=XX5.out.free 3
    have y4:=XX5.out.c4;have f4:=XX5.out.free 4
    have yl:=XX5.out.lt
    go_simp
    refine hK.out _ _ (fun h=>by cases h) ?_
    clear hK K hHeld y0 y1 y2 y3 y4 f0 f1 f2 f3 f4 yl
    refine jbo (by kernel_rfl) ?_ _
    have FT:=jD (jas HA0 B5 A5 XX5 (Nat.le_of_lt LXX) (.int .i64 11) (.int .i64 z1) (.string ⟨#[]⟩) (.int .i64 0) (.slice (some ⟨wg2.heap.size,0,none⟩) 2 2) _ rfl)
    have Ag1:=jD FT.out.2.1;have Bg1:=jD FT.out.2.2.1;have XXg1:=jD FT.out.1
    have XRg1:=jD (XR5.out.kept (Nat.ne_of_lt LXX) FT.out.2.2.2)
    have XCg1:=jD (XC5.out.kept HCX FT.out.2.2.2)
    have Gg1:=jD (G5.out.kept (by simp) FT.out.2.2.2)
    go_wp2_with fail
    go_meet
    exact⟨_,_,_,_,rfl,Ag1.out,Bg1.out,XRg1.out,XXg1.out,LXX.out,Gg1.out,HS4.out⟩
  ·go_simp
   have TR3x:=jD (TR3D.out.ext (X:=wg1.heap.size) (jrr _))
   have HX9:=jD (Bx5.new wg1 (.int .i64 0) (.int .i64 0) (.string ⟨#[]⟩) (.int .i64 0) (.slice none 0 0))
   have PXX:=nR AD.out.fix.lt
   have LXX:Hid (w.heap.size<wg1.heap.size):=jD XRD.out.lt
   have A3a1:=jD (AD.out.alloc jZ);have B3a1:=jD (BD.out.alloc HRW jZ)
   have XR3a1:=jD (XRD.out.alloc jZ)
   have XC3a1:=jD (XCD.out.alloc jZ)
   have TR33a1:=jD (TR3x.out.butt HLT (Butt.of_below AD.out.fix.lt (jN jZ)))
   generalize wg1.alloc jZ=wg2 at *
   have HCX:Hid ((w3.heap.size)≠wg1.heap.size):=jD (Nat.ne_of_lt XCD.out.lt)
   have hHeld:jP wg2 (w3.heap.size) (.int .i64 k3) (.int .i64 a3) (.string t3) (.int .i64 n3) (.slice o3 l3 c3):=⟨XC3a1.out.c0,XC3a1.out.c1,XC3a1.out.c2,XC3a1.out.c3,XC3a1.out.c4⟩
   refine hK.out _ _ (fun _=>hHeld) ?_
   clear hK K
   (try simp only[Act.put,lA,lB,lC])
   refine jax (i:=3) rfl (by kernel_rfl) (fun K hK=>?_)
   go_simp
   go_wp2_with (go_at_call 56;refine(KQ.out _ A3a1).mono ?_;rintro e w4 ⟨x4,v4,s4,rfl,hx4,hs4,ha4,hb4⟩)
   obtain⟨k4,a4,t4,n4,o4,l4,c4,q4,rfl,rfl,hk4⟩:=hx4.shape
   have HS4:=jD hs4
   have TR4:=jD (synIn.of (l2:=w.heap.size) (ps:=[w.heap.size,wg1.heap.size]) hx4 (Nat.le_trans (jrr _) B3a1.out.size) (fun p hp=>by simp only[List.mem_cons,List.not_mem_nil,or_false] at hp;have g0:=XR3a1.out.lt;have g1:=HX9.out.lt;omega))
   have A4:=jD ha4;have B4:=jtt B3a1 hb4
   have XR4:=jbb XR3a1 HPR hb4
   have XC4:=jbb XC3a1 PXC hb4
   have XX4:=jD (HX9.out.butt PXX hb4)
   have TR34:=jvv TR33a1 HLT hb4
   clear ha4 hb4 hx4 hk4 hs4
   have hHeld:jP w4 (w3.heap.size) (.int .i64 k3) (.int .i64 a3) (.string t3) (.int .i64 n3) (.slice o3 l3 c3):=⟨XC4.out.c0,XC4.out.c1,XC4.out.c2,XC4.out.c3,XC4.out.c4⟩
   refine hK.out _ _ (fun _=>hHeld) ?_
   clear hK K
   (try simp only[Act.put,lA,lB,lC])
   refine jax (i:=4) rfl (by kernel_rfl) (fun K hK=>?_)
   go_simp
   have hAw:offs w.heap.size [w.heap.size,wg1.heap.size] w4.heap.size:=⟨(Nat.le_trans (jrr _) B4.out.size),fun hp=>absurd (((fun p hp=>by simp only[List.mem_cons,List.not_mem_nil,or_false] at hp;have g0:=XR4.out.lt;have g1:=XX4.out.lt;omega):∀ p∈[w.heap.size,wg1.heap.size],p<w4.heap.size) _ hp) (Nat.lt_irrefl _)⟩
   have HG:=jD (growP.new (flatIn.cons TR34 (flatIn.one TR4)) (by simp) hAw 2 rfl);clear hAw
   have A4a2:=jD (A4.out.alloc (oD k3 a3 t3 n3 o3 l3 c3 k4 a4 t4 n4 o4 l4 c4));have B4a2:=jD (B4.out.alloc HRW (oD k3 a3 t3 n3 o3 l3 c3 k4 a4 t4 n4 o4 l4 c4))
   have XR4a2:=jD (XR4.out.alloc (oD k3 a3 t3 n3 o3 l3 c3 k4 a4 t4 n4 o4 l4 c4))
   have XC4a2:=jD (XC4.out.alloc (oD k3 a3 t3 n3 o3 l3 c3 k4 a4 t4 n4 o4 l4 c4))
   have XX4a2:=jD (XX4.out.alloc (oD k3 a3 t3 n3 o3 l3 c3 k4 a4 t4 n4 o4 l4 c4))
   generalize w4.alloc (oD k3 a3 t3 n3 o3 l3 c3 k4 a4 t4 n4 o4 l4 c4)=wg3 at *
   have hHeld:jP wg3 (w3.heap.size) (.int .i64 k3) (.int .i64 a3) (.string t3) (.int .i64 n3) (.slice o3 l3 c3):=⟨XC4a2.out.c0,XC4a2.out.c1,XC4a2.out.c2,XC4a2.out.c3,XC4a2.out.c4⟩
   refine hK.out _ _ (fun _=>hHeld) ?_
   clear hK K
   (try simp only[Act.put,lA,lB,lC])
   refine jax (i:=5) rfl (by kernel_rfl) (fun K hK=>?_)
   go_simp
   go_wp2_with (go_at_call 47;refine(jam _ _ _ _ _ _ _).mono ?_;rintro e w5 ⟨rfl,hbl5⟩)
   have ha5:=A4a2.out.below hbl5;have hb5:=Butt.of_below (R:=R) A4a2.out.fix.lt hbl5;clear hbl5
   have A5:=jD ha5;have B5:=jtt B4a2 hb5
   have XR5:=jbb XR4a2 HPR hb5
   have XC5:=jbb XC4a2 PXC hb5
   have XX5:=jbb XX4a2 PXX hb5
   have G5:=jD (HG.out.butt HLT hb5)
   clear ha5 hb5
   have hHeld:jP w5 (w3.heap.size) (.int .i64 k3) (.int .i64 a3) (.string t3) (.int .i64 n3) (.slice o3 l3 c3):=⟨XC5.out.c0,XC5.out.c1,XC5.out.c2,XC5.out.c3,XC5.out.c4⟩
   refine hK.out _ _ (fun _=>hHeld) ?_
   clear hK K
   (try simp only[Act.put,lA,lB,lC])
   refine jax (i:=7) rfl (by kernel_rfl) (fun K hK=>?_)
   have y0:=XX5.out.c0;have f0:=XX5.out.free 0
   have y1:=XX5.out.c1;have f1:=XX5.out.free 1
   have y2:=XX5.out.c2;have f2:=XX5.out.free 2
   have y3:=XX5.out.c3;have f3:=XX5.out.free 3
   have y4:=XX5.out.c4;have f4:=XX5.out.free 4
   have yl:=XX5.out.lt
   go_simp
   refine hK.out _ _ (fun h=>by cases h) ?_
   clear hK K hHeld y0 y1 y2 y3 y4 f0 f1 f2 f3 f4 yl
   refine jbo (by kernel_rfl) ?_ _
   have FT:=jD (jas HA0 B5 A5 XX5 (Nat.le_of_lt LXX) (.int .i64 11) (.int .i64 z1) (.string ⟨#[]⟩) (.int .i64 0) (.slice (some ⟨w4.heap.size,0,none⟩) 2 2) _ rfl)
   have Ag1:=jD FT.out.2.1;have Bg1:=jD FT.out.2.2.1;have XXg1:=jD FT.out.1
   have XRg1:=jD (XR5.out.kept (Nat.ne_of_lt LXX) FT.out.2.2.2)
   have XCg1:=jD (XC5.out.kept HCX FT.out.2.2.2)
   have Gg1:=jD (G5.out.kept (by simp) FT.out.2.2.2)
   go_wp2_with fail
   go_meet
   exact⟨_,_,_,_,rfl,Ag1.out,Bg1.out,XRg1.out,XXg1.out,LXX.out,Gg1.out,HS4.out⟩
 case rest=>
  obtain⟨X,y,s4,ao,rfl,hac,hbc,hxr,hxx,hlx,hgc,hsc⟩:=hcut
  have AC:=jD hac;have BC:=jD hbc;have XRC:=jD hxr;have XXC:=jD hxx;have LX:=jD hlx;have GC:=jD hgc;have HS4:=jD hsc
  have PXX:Hid (X≠R):=jD (fun e=>by have:=HLT.out;omega)
  have L4:=jD (Run.lessS HS4 L3);have F3:=jD (Run.fine HS3 F1);have F4:=jD (Run.fine HS4 F3)
  clear hac hbc hxr hxx hlx hgc hsc KQ HXC
  have CT:=fun W (H:Rf R L W d s4)=>jbD H jel (by decide)
  cases hb:rIs s4 jel with
  |false=>
   rw[hb] at CT;simp only[Bool.false_eq_true,if_false] at CT
   have KT:=jD CT;have HB0:=jD hb;clear CT hb
   go_wp2_with (go_at_call 51;refine jX (KT.out _ AC) BC XRC HPR fun w5 A5 B5 XR5 hb5=>?_)
   have XX5:=jbb XXC PXX hb5
   have G5:=jD (GC.out.butt HLT hb5)
   clear hb5
   refine jD ?_
   obtain⟨yXX0,yXX1,yXX2,yXX3,yXX4,-,-⟩:=XX5.out
   have FT:=jD (jas HA0 B5 A5 XR5 (jrr _) (.int .i64 11) (.int .i64 z1) (.string ⟨#[]⟩) (.int .i64 0) (.slice ao 2 2) _ rfl)
   have GX:=jD (((jac.mpr ⟨_,rfl,G5.out.kids⟩:synIn (offs w.heap.size [w.heap.size,X]) _ (.mk 11 z1 ⟨#[]⟩ 0 [.mk k3 a3 t3 n3 q3,y]) (.agg #[.int .i64 11,.int .i64 z1,.string ⟨#[]⟩,.int .i64 0,.slice ao 2 2]))).kept (by simp) FT.out.2.2.2).at
   obtain⟨yXR0,yXR1,yXR2,yXR3,yXR4,fXR0,fXR1,fXR2,fXR3,fXR4⟩:=bF XR5
   obtain⟨r0,r1,r2,r3,r4⟩:=FT.out.1
   have GA:=jD FT.out.2.1;have GB:=jD FT.out.2.2.1
   clear FT
   go_wp2
   refine bodyPost_ret (by simp[results,Tryz.results119,go_sem,r0,r1,r2,r3,r4];rfl) rfl ?_
   exact⟨_,_,_,rfl,GX.out,HM.out _ _ _ _ _ _ _ HZ1 HS3 HS4 (jhq F4 HB0),GA.out,GB.out⟩
  |true=>
   rw[hb] at CT;simp only[if_true] at CT
   have KT:=jD CT;have HB0:=jD hb;clear CT hb
   have L5:=jD (jhs L4)
   have CI:=fun W (H:Rf R L W d (jaq s4))=>ris H wIf (by decide)
   go_wp2_with (go_at_call 51;refine jX (KT.out _ AC) BC XRC HPR fun w5 A5 B5 XR5 hb5=>?_)
   have XX5:=jbb XXC PXX hb5
   have G5:=jD (GC.out.butt HLT hb5)
   clear hb5
   refine jD ?_
   cases hi:rIs (jaq s4) wIf with
   |false=>
    rw[hi] at CI;have KI:=jD CI;have HI0:=jD hi;clear CI hi
    go_wp2_with (go_at_call 49;refine jX (KI.out _ A5) B5 XR5 HPR fun w6 A6 B6 XR6 hb6=>?_)
    have XX6:=jbb XX5 PXX hb6
    have G6:=jD (G5.out.butt HLT hb6)
    clear hb6
    refine jD ?_
    have KQ:=jD (fun W (H:Rf R L W d (jaq s4))=>KBB.out (jaq s4) L5 W H)
    go_wp2_with fail
    have AD:=jD (A6.out.below (Below.refl _ _).drew);have BD:=jD (B6.out.drew)
    have XRD:=jD (XR6.out.below (Below.refl _ _).drew)
    have XXD:=jD (XX6.out.below (Below.refl _ _).drew)
    have GD:=jD (G6.out.butt HLT (Butt.refl R w6).drew)
    have HPS:=jD ((by first|exact(fun p hp=>by simp only[List.mem_cons,List.not_mem_nil,or_false] at hp;have g0:=XRD.out.lt;have g1:=XXD.out.lt;omega)|simp):∀ p∈[w.heap.size,X],p<(w6.drew).heap.size)
    have HLO:Hid (w.heap.size≤(w6.drew).heap.size):=jD BD.out.size
    refine jaL (fun j=>j==7) (fun w'=>World.cell? w' ⟨X,4,none⟩=some (.slice ao 2 2)) (by kernel_rfl) XXD.out.c4 (fun hHeld=>?_)
    generalize w6.drew=wg1 at *
    refine ja0 (i:=0) (v:=?v4z) rfl (by kernel_rfl) (by kernel_rfl) (by kernel_rfl) rfl (by kernel_rfl) (by kernel_rfl) (fun _ _ _ h=>h) (Or.inl ⟨by rfl,?h4z⟩) (by assumption) ?r4z
    case h4z=>(intro w hSw;(try dsimp only at hSw);go_simp;try with_reducible rfl)
    (try simp only[Act.put,lA,lB,lC])
    refine ja0 (i:=1) (v:=?v5z) rfl (by kernel_rfl) (by kernel_rfl) (by kernel_rfl) rfl (by kernel_rfl) (by kernel_rfl) (fun _ _ _ h=>h) (Or.inl ⟨by rfl,?h5z⟩) (by assumption) ?r5z
    case h5z=>(intro w hSw;(try dsimp only at hSw);go_simp;try with_reducible rfl)
    (try simp only[Act.put,lA,lB,lC])
    refine ja0 (i:=2) (v:=?v6z) rfl (by kernel_rfl) (by kernel_rfl) (by kernel_rfl) rfl (by kernel_rfl) (by kernel_rfl) (fun _ _ _ h=>h) (Or.inl ⟨by rfl,?h6z⟩) (by assumption) ?r6z
    case h6z=>(intro w hSw;(try dsimp only at hSw);go_simp;try with_reducible rfl)
    (try simp only[Act.put,lA,lB,lC])
    refine jax (i:=3) rfl (by kernel_rfl) (fun K hK=>?_)
    go_simp
    go_wp2_with (go_at_call 56;refine(KQ.out _ AD).mono ?_;rintro e w7 ⟨x7,v7,s7,rfl,hx7,hs7,ha7,hb7⟩)
    obtain⟨k7,a7,t7,n7,o7,l7,c7,q7,rfl,rfl,hk7⟩:=hx7.shape
    have HS7:=jD hs7;have HSZ:=jD hb7.size
    have HZ:=jD (GD.out.off (jrr _) HLO HPS hx7)
    have A7:=jD ha7;have B7:=jtt BD hb7
    have XR7:=jbb XRD HPR hb7
    have XX7:=jbb XXD PXX hb7
    have G7:=jD (GD.out.butt HLT hb7)
    clear ha7 hb7 hx7 hk7 hs7
    have hHeld:=XX7.out.c4
    refine hK.out _ _ (fun _=>hHeld) ?_
    clear hK K
    (try simp only[Act.put,lA,lB,lC])
    refine jax (i:=4) rfl (by kernel_rfl) (fun K hK=>?_)
    go_simp
    have HZA:=jD (HZ.out.below (jN (jO k7 a7 t7 n7 o7 l7 c7)));have HBX:=jD (jn5 w7 k7 a7 t7 n7 o7 l7 c7)
    have HPA:=jD (fun p (hp:p∈[w.heap.size,X])=>Nat.lt_of_lt_of_le (HPS.out p hp) (Nat.le_trans HSZ (by simp:w7.heap.size≤(w7.alloc (jO k7 a7 t7 n7 o7 l7 c7)).heap.size)))
    have A7a:=jD (A7.out.alloc (jO k7 a7 t7 n7 o7 l7 c7));have B7a:=jD (B7.out.alloc HRW (jO k7 a7 t7 n7 o7 l7 c7))
    have XR7a:=jD (XR7.out.alloc (jO k7 a7 t7 n7 o7 l7 c7))
    have XX7a:=jD (XX7.out.alloc (jO k7 a7 t7 n7 o7 l7 c7))
    have G7a:=jD (G7.out.butt HLT (Butt.of_below A7.out.fix.lt (jN (jO k7 a7 t7 n7 o7 l7 c7))))
    have hHeld:=XX7a.out.c4
    refine hK.out _ _ (fun _=>hHeld) ?_
    clear hK K
    (try simp only[Act.put,lA,lB,lC])
    refine jax (i:=5) rfl (by kernel_rfl) (fun K hK=>?_)
    refine jbT (lo:=w.heap.size) (ps:=[w.heap.size,X]) (xs:=[.mk k3 a3 t3 n3 q3,y]) (v:=.slice ao 2 2) rfl (.tmp 26) (.tmp 29) rfl (by simp[Act.eval,Act.put]) G7a (by simp) B7a.out.size HPA w7.heap.size (.mk k7 a7 t7 n7 q7) (.int .i64 k7) (.int .i64 a7) (.string t7) (.int .i64 n7) (.slice o7 l7 c7) (by simp[Act.eval,Act.put]) HZA ⟨rfl,rfl,rfl,rfl,rfl⟩ HBX ?_
    intro v9 ao9 cap9 w9 hv9 ho9 hg9
    replace hv9:v9 = .slice ao9 (3) cap9:=hv9
    subst hv9
    have hgr:=Rf.grow HA0 A7a B7a (G7a.out.below B7a.out.size hg9)
    have A9:=jD hgr.1;have B9:=jD hgr.2;clear hgr
    have XR9:=jD (G7a.out.box (by simp) hg9 XR7a)
    have XX9:=jD (G7a.out.box (by simp) hg9 XX7a)
    have G9:=jD ho9;clear ho9 hg9 HZ HZA HBX HPA
    have hHeld:=XX9.out.c4
    refine hK.out _ _ (fun _=>hHeld) ?_
    clear hK K
    (try simp only[Act.put,lA,lB,lC])
    refine jbK (i:=6) (v:=?v7z) rfl (by kernel_rfl) (by kernel_rfl) (by kernel_rfl) rfl (fun _ _ _ h=>h) (Or.inl ⟨by rfl,?h7z⟩) (by assumption) ?r7z
    case h7z=>(intro w _;go_simp;try with_reducible rfl)
    (try simp only[Act.put,lA,lB,lC])
    refine jax (i:=7) rfl (by kernel_rfl) (fun K hK=>?_)
    have q0:=XX9.out.c4;have q1:=XX9.out.free 4;have q2:=XX9.out.lt
    go_simp
    refine hK.out _ _ (fun h=>by cases h) ?_
    clear hK K q0 q1 q2 hHeld
    refine jbo (by kernel_rfl) ?_ _
    have SN:=Rf.setNew HA0 B9 A9 (X) 4 (Nat.le_of_lt LX) (.slice ao9 (3) cap9)
    have Af1:=jD SN.1;have Bf1:=jD SN.2;clear SN
    have XRf1:=jD (XR9.out.setO (q:=X) (j:=4) (Nat.ne_of_lt LX) (.slice ao9 (3) cap9))
    have Gf1:=jD (G9.out.kept (by simp) ((Kept.refl (·≠X) w9).setCell ⟨X,4,none⟩ (fun h=>h rfl) (.slice ao9 (3) cap9)))
    have XXf1:=jD (XX9.out.set4 (.slice ao9 (3) cap9))
    obtain⟨yXX0,yXX1,yXX2,yXX3,yXX4,-,-⟩:=XXf1.out
    have FT:=jD (jas HA0 Bf1 Af1 XRf1 (jrr _) (.int .i64 11) (.int .i64 z1) (.string ⟨#[]⟩) (.int .i64 0) (.slice ao9 3 cap9) _ rfl)
    have GX:=jD (((jac.mpr ⟨_,rfl,Gf1.out.kids⟩:synIn (offs w.heap.size [w.heap.size,X]) _ (.mk 11 z1 ⟨#[]⟩ 0 ([.mk k3 a3 t3 n3 q3,y]++[(.mk k7 a7 t7 n7 q7)])) (.agg #[.int .i64 11,.int .i64 z1,.string ⟨#[]⟩,.int .i64 0,.slice ao9 3 cap9]))).kept (by simp) FT.out.2.2.2).at
    obtain⟨yXR0,yXR1,yXR2,yXR3,yXR4,fXR0,fXR1,fXR2,fXR3,fXR4⟩:=bF XRf1
    obtain⟨r0,r1,r2,r3,r4⟩:=FT.out.1
    have GA:=jD FT.out.2.1;have GB:=jD FT.out.2.2.1
    clear FT
    go_wp2
    refine bodyPost_ret (by simp[results,Tryz.results119,go_sem,r0,r1,r2,r3,r4];rfl) rfl ?_
    exact⟨_,_,_,rfl,GX.out,HM.out _ _ _ _ _ _ _ HZ1 HS3 HS4 (jfj F4 HB0 HI0 HS7),GA.out,GB.out⟩
   |true=>
    rw[hi] at CI;have KI:=jD CI;have HI0:=jD hi;clear CI
    obtain⟨l5,e5,hp5⟩:=jbx hi
    have KQ:Hid (∀ W,Rf R L W (d+1) (levS (jaq s4) d)→Calls Tryz.prog 119 #[.pointer (some ⟨R,0,none⟩)] W (QC R L (jay (d+1)) (d+1) (levS (jaq s4) d) W)):=jD fun W H=>by
     rw[e5] at H ⊢
     exact KCC l5 (e5 ▸ L5) hp5 W H
    have CL:=fun W (H:Rf R L W d (jaq s4))=>jg0 H HD
    have KL:=jD CL;clear CL hi e5 hp5
    go_wp2_with (go_at_call 49;refine jX (KI.out _ A5) B5 XR5 HPR fun w6 A6 B6 XR6 hb6=>?_)
    have XX6:=jbb XX5 PXX hb6
    have G6:=jD (G5.out.butt HLT hb6)
    clear hb6
    refine jD ?_
    go_wp2_with (go_at_call 86;refine jX (KL.out _ A6) B6 XR6 HPR fun w7 A7 B7 XR7 hb7=>?_)
    have XX7:=jbb XX6 PXX hb7
    have G7:=jD (G6.out.butt HLT hb7)
    clear hb7
    refine jD ?_
    go_wp2_with fail
    have AD:=jD (A7.out.below (Below.refl _ _).drew);have BD:=jD (B7.out.drew)
    have XRD:=jD (XR7.out.below (Below.refl _ _).drew)
    have XXD:=jD (XX7.out.below (Below.refl _ _).drew)
    have GD:=jD (G7.out.butt HLT (Butt.refl R w7).drew)
    have HPS:=jD ((by first|exact(fun p hp=>by simp only[List.mem_cons,List.not_mem_nil,or_false] at hp;have g0:=XRD.out.lt;have g1:=XXD.out.lt;omega)|simp):∀ p∈[w.heap.size,X],p<(w7.drew).heap.size)
    have HLO:Hid (w.heap.size≤(w7.drew).heap.size):=jD BD.out.size
    refine jaL (fun j=>j==7) (fun w'=>World.cell? w' ⟨X,4,none⟩=some (.slice ao 2 2)) (by kernel_rfl) XXD.out.c4 (fun hHeld=>?_)
    generalize w7.drew=wg1 at *
    refine ja0 (i:=0) (v:=?v8z) rfl (by kernel_rfl) (by kernel_rfl) (by kernel_rfl) rfl (by kernel_rfl) (by kernel_rfl) (fun _ _ _ h=>h) (Or.inl ⟨by rfl,?h8z⟩) (by assumption) ?r8z
    case h8z=>(intro w hSw;(try dsimp only at hSw);go_simp;try with_reducible rfl)
    (try simp only[Act.put,lA,lB,lC])
    refine ja0 (i:=1) (v:=?v9z) rfl (by kernel_rfl) (by kernel_rfl) (by kernel_rfl) rfl (by kernel_rfl) (by kernel_rfl) (fun _ _ _ h=>h) (Or.inl ⟨by rfl,?h9z⟩) (by assumption) ?r9z
    case h9z=>(intro w hSw;(try dsimp only at hSw);go_simp;try with_reducible rfl)
    (try simp only[Act.put,lA,lB,lC])
    refine ja0 (i:=2) (v:=?v10z) rfl (by kernel_rfl) (by kernel_rfl) (by kernel_rfl) rfl (by kernel_rfl) (by kernel_rfl) (fun _ _ _ h=>h) (Or.inl ⟨by rfl,?h10z⟩) (by assumption) ?r10z
    case h10z=>(intro w hSw;(try dsimp only at hSw);go_simp;try with_reducible rfl)
    (try simp only[Act.put,lA,lB,lC])
    refine jax (i:=3) rfl (by kernel_rfl) (fun K hK=>?_)
    go_simp
    go_wp2_with (go_at_call 119;refine(KQ.out _ AD).mono ?_;rintro e w8 ⟨x8,v8,s8,rfl,hx8,hs8,ha8,hb8⟩)
    obtain⟨k8,a8,t8,n8,o8,l8,c8,q8,rfl,rfl,hk8⟩:=hx8.shape
    have HS8:=jD hs8;have HSZ:=jD hb8.size
    have HZ:=jD (GD.out.off (jrr _) HLO HPS hx8)
    have A8:=jD ha8;have B8:=jtt BD hb8
    have XR8:=jbb XRD HPR hb8
    have XX8:=jbb XXD PXX hb8
    have G8:=jD (GD.out.butt HLT hb8)
    clear ha8 hb8 hx8 hk8 hs8
    have hHeld:=XX8.out.c4
    refine hK.out _ _ (fun _=>hHeld) ?_
    clear hK K
    (try simp only[Act.put,lA,lB,lC])
    refine jax (i:=4) rfl (by kernel_rfl) (fun K hK=>?_)
    go_simp
    have HZA:=jD (HZ.out.below (jN (jO k8 a8 t8 n8 o8 l8 c8)));have HBX:=jD (jn5 w8 k8 a8 t8 n8 o8 l8 c8)
    have HPA:=jD (fun p (hp:p∈[w.heap.size,X])=>Nat.lt_of_lt_of_le (HPS.out p hp) (Nat.le_trans HSZ (by simp:w8.heap.size≤(w8.alloc (jO k8 a8 t8 n8 o8 l8 c8)).heap.size)))
    have A8a:=jD (A8.out.alloc (jO k8 a8 t8 n8 o8 l8 c8));have B8a:=jD (B8.out.alloc HRW (jO k8 a8 t8 n8 o8 l8 c8))
    have XR8a:=jD (XR8.out.alloc (jO k8 a8 t8 n8 o8 l8 c8))
    have XX8a:=jD (XX8.out.alloc (jO k8 a8 t8 n8 o8 l8 c8))
    have G8a:=jD (G8.out.butt HLT (Butt.of_below A8.out.fix.lt (jN (jO k8 a8 t8 n8 o8 l8 c8))))
    have hHeld:=XX8a.out.c4
    refine hK.out _ _ (fun _=>hHeld) ?_
    clear hK K
    (try simp only[Act.put,lA,lB,lC])
    refine jax (i:=5) rfl (by kernel_rfl) (fun K hK=>?_)
    refine jbT (lo:=w.heap.size) (ps:=[w.heap.size,X]) (xs:=[.mk k3 a3 t3 n3 q3,y]) (v:=.slice ao 2 2) rfl (.tmp 36) (.tmp 39) rfl (by simp[Act.eval,Act.put]) G8a (by simp) B8a.out.size HPA w8.heap.size (.mk k8 a8 t8 n8 q8) (.int .i64 k8) (.int .i64 a8) (.string t8) (.int .i64 n8) (.slice o8 l8 c8) (by simp[Act.eval,Act.put]) HZA ⟨rfl,rfl,rfl,rfl,rfl⟩ HBX ?_
    intro v9 ao9 cap9 w9 hv9 ho9 hg9
    replace hv9:v9 = .slice ao9 (3) cap9:=hv9
    subst hv9
    have hgr:=Rf.grow HA0 A8a B8a (G8a.out.below B8a.out.size hg9)
    have A9:=jD hgr.1;have B9:=jD hgr.2;clear hgr
    have XR9:=jD (G8a.out.box (by simp) hg9 XR8a)
    have XX9:=jD (G8a.out.box (by simp) hg9 XX8a)
    have G9:=jD ho9;clear ho9 hg9 HZ HZA HBX HPA
    have hHeld:=XX9.out.c4
    refine hK.out _ _ (fun _=>hHeld) ?_
    clear hK K
    (try simp only[Act.put,lA,lB,lC])
    refine jbK (i:=6) (v:=?v11z) rfl (by kernel_rfl) (by kernel_rfl) (by kernel_rfl) rfl (fun _ _ _ h=>h) (Or.inl ⟨by rfl,?h11z⟩) (by assumption) ?r11z
    case h11z=>(intro w _;go_simp;try with_reducible rfl)
    (try simp only[Act.put,lA,lB,lC])
    refine jax (i:=7) rfl (by kernel_rfl) (fun K hK=>?_)
    have q0:=XX9.out.c4;have q1:=XX9.out.free 4;have q2:=XX9.out.lt
    go_simp
    refine hK.out _ _ (fun h=>by cases h) ?_
    clear hK K q0 q1 q2 hHeld
    refine jbo (by kernel_rfl) ?_ _
    have SN:=Rf.setNew HA0 B9 A9 (X) 4 (Nat.le_of_lt LX) (.slice ao9 (3) cap9)
    have Af1:=jD SN.1;have Bf1:=jD SN.2;clear SN
    have XRf1:=jD (XR9.out.setO (q:=X) (j:=4) (Nat.ne_of_lt LX) (.slice ao9 (3) cap9))
    have Gf1:=jD (G9.out.kept (by simp) ((Kept.refl (·≠X) w9).setCell ⟨X,4,none⟩ (fun h=>h rfl) (.slice ao9 (3) cap9)))
    have XXf1:=jD (XX9.out.set4 (.slice ao9 (3) cap9))
    obtain⟨zo,zn,yo,fo,uo,ao,bo⟩:=Af1.out.less HD
    have A8o:=jD ao;have B8o:=jtt Bf1 bo
    have XR8o:=jbb XRf1 HPR bo
    have XX8o:=jbb XXf1 PXX bo
    have G8o:=jD (Gf1.out.butt HLT bo)
    clear ao bo
    obtain⟨yXX0,yXX1,yXX2,yXX3,yXX4,-,-⟩:=XX8o.out
    have FT:=jD (jas HA0 B8o A8o XR8o (jrr _) (.int .i64 11) (.int .i64 z1) (.string ⟨#[]⟩) (.int .i64 0) (.slice ao9 3 cap9) _ rfl)
    have GX:=jD (((jac.mpr ⟨_,rfl,G8o.out.kids⟩:synIn (offs w.heap.size [w.heap.size,X]) _ (.mk 11 z1 ⟨#[]⟩ 0 ([.mk k3 a3 t3 n3 q3,y]++[(.mk k8 a8 t8 n8 q8)])) (.agg #[.int .i64 11,.int .i64 z1,.string ⟨#[]⟩,.int .i64 0,.slice ao9 3 cap9]))).kept (by simp) FT.out.2.2.2).at
    obtain⟨yXR0,yXR1,yXR2,yXR3,yXR4,fXR0,fXR1,fXR2,fXR3,fXR4⟩:=bF XR8o
    obtain⟨r0,r1,r2,r3,r4⟩:=FT.out.1
    have GA:=jD FT.out.2.1;have GB:=jD FT.out.2.2.1
    clear FT
    go_wp2
    refine bodyPost_ret (by simp[results,Tryz.results119,go_sem,r0,r1,r2,r3,r4];rfl) rfl ?_
    exact⟨_,_,_,rfl,GX.out,HM.out _ _ _ _ _ _ _ HZ1 HS3 HS4 (jhr F4 HB0 HI0 HS8),GA.out,GB.out⟩
end Go.Proofs.YtenmmmdnpglkoaaGreatDoor
