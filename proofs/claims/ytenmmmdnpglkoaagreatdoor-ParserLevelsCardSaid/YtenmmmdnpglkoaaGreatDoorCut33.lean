import Derived.Test.YtenmmmdnpglkoaaGreatDoorCut32
set_option linter.unusedSimpArgs false
set_option linter.unusedVariables false
set_option maxRecDepth 100000
set_option maxHeartbeats 8000000
/-
 The reference's reader: all statements; what procedures read.
-/
namespace Go.Proofs.YtenmmmdnpglkoaaGreatDoor
open Go Go.Proofs Go.RowKit Go.Sort
section
variable {R:Nat} {L:List Tk}
theorem jeT (hD:∀ n,(tkD L n).k=1→DgT (tkD L n).t) (bd:Bool) {d:Nat} (hd:d≤64) {s:RSt} (hs:isOk s=false):GF 56 R L #[.pointer (some ⟨R,0,none⟩),.bool bd] (if bd=true then .body else .block) d s:=fun W H=>
 jk6 H bd _ rfl hd hD (fun _ l hl=>by
  rcases hl with g|g
  ·cases g
  ·cases s with
   |ok l0=>cases hs
   |bad a e=>exact absurd g (Nat.not_lt_zero _))
theorem jix (hD:∀ n,(tkD L n).k=1→DgT (tkD L n).t) {d:Nat} (hd:d≤64) {a:Int} {e:Nat} (W:World) (H:Rf R L W d (.bad a e)):Calls Tryz.prog 119 #[.pointer (some ⟨R,0,none⟩)] W (QC R L (jay d) d (.bad a e) W):=
 jjo H hd (fun l q=>by cases q) (fun s hs=>jeT hD false hd (hs.resolve_right (Nat.not_lt_zero _))) (fun l hl=>by
  rcases hl with g|g
  ·cases g
  ·exact absurd g (Nat.not_lt_zero _))
theorem jmx (hD:∀ n,(tkD L n).k=1→DgT (tkD L n).t):∀ n:Nat,
  (∀ d,d≤64→∀ s:RSt,s.rem≤n→(∀ l,s = .ok l→pIs wIf l=true)→∀ W,Rf R L W d s→Calls Tryz.prog 119 #[.pointer (some ⟨R,0,none⟩)] W (QC R L (jay d) d s W)) ∧
  (∀ d,d≤64→∀ s:RSt,s.rem≤n→∀ bd:Bool,GF 56 R L #[.pointer (some ⟨R,0,none⟩),.bool bd] (if bd=true then .body else .block) d s) ∧
  (∀ d,d≤64→∀ s:RSt,s.rem≤n→∀ W,Rf R L W d s→Calls Tryz.prog 88 #[.pointer (some ⟨R,0,none⟩)] W (QC R L (mAny d) d s W)):=by
 intro n
 induction n using Nat.strongRecOn with
 |_ n ih=>
  have hb:∀ d,d≤64→∀ s:RSt,s.rem≤n→∀ bd:Bool,GF 56 R L #[.pointer (some ⟨R,0,none⟩),.bool bd] (if bd=true then .body else .block) d s:=fun d hd s hs bd=>by
   cases s with
   |bad a e=>exact jeT hD bd hd rfl
   |ok l0=>
    intro W H
    exact jk6 H bd _ rfl hd hD (fun h64 l hl=>by
     have hl:l.length<l0.length:=hl.resolve_left (fun g=>by cases g)
     have hs:l0.length≤n:=hs
     exact(ih l.length (by omega)).2.2 (d+1) (by omega) (.ok l) (jrr _))
  have hbl:∀ d,d≤64→∀ s:RSt,s.rem≤n→∀ s':RSt,lessS s s'→GF 56 R L #[.pointer (some ⟨R,0,none⟩),.bool false] .block d s':=fun d hd s hs s' hl=>by
   rcases hl with g|g
   ·exact jeT hD false hd g
   ·exact hb d hd s' (by omega) false
  have hc:∀ d,d≤64→∀ s:RSt,s.rem≤n→(∀ l,s = .ok l→pIs wIf l=true)→∀ W,Rf R L W d s→Calls Tryz.prog 119 #[.pointer (some ⟨R,0,none⟩)] W (QC R L (jay d) d s W):=fun d hd s hs hi W H=>
   jjo H hd hi (hbl d hd s hs) (fun l5 hl hp W2 H2=>by
    by_cases h64:d=64
    ·have he:levS (.ok l5) d = .bad (pHd l5).a 12:=if_pos h64
     rw[he] at H2 ⊢
     refine(jix hD (Nat.zero_le _) W2 H2.bad).mono ?_
     rintro e w' ⟨x,v,s',rfl,hx,hs,ha,hb⟩
     obtain rfl:=Run.bads hs
     exact⟨x,v,_,rfl,hx,rfl,ha.bad,hb⟩
    ·have he:levS (.ok l5) d = .ok l5:=if_neg h64
     rw[he] at H2 ⊢
     have hl:(RSt.ok l5).rem<s.rem:=hl.resolve_left (fun g=>by cases g)
     exact(ih (RSt.ok l5).rem (by omega)).1 (d+1) (by omega) (.ok l5) (jrr _) (fun l e=>by cases e;exact hp) W2 H2)
  exact⟨hc,hb,fun d hd s hs W H=>jiw H hd (fun hi W2 H2=>hc d hd s hs hi W2 H2) (hbl d hd s hs)⟩
theorem jj0 (hD:∀ n,(tkD L n).k=1→DgT (tkD L n).t) {d:Nat} (hd:d≤64) {s:RSt}:GF 56 R L #[.pointer (some ⟨R,0,none⟩),.bool true] .body d s:=(jmx hD s.rem).2.1 d hd s (jrr _) true
end
section
variable {L l:List Tk} {d:Nat} {st s s0 s1 s2 s3 s4 s5 s6:RSt} {k1 k2 k3 k4:Syn} {xs ps rs:List Syn} {z:Int} {t:ByteArray}
theorem jiy (hf:st.fine) (hz:hasA st z) (h1:s1=jad (rIs st [40]) st) (hb:(rIs s1 [41]=true∧ps=[]∧s=s1)∨(rIs s1 [41]=false∧Stp (.list .param) d s1 ps s)) (hL:TkL L):Run (jaz d) st (.mk 3 z ⟨#[]⟩ 0 ps) (jad (rIs s [41]) s):=by
 subst h1
 have f1:(jad (rIs st [40]) st).fine:=jah hf
 have hb':LBef L ⟨#[41]⟩ .param d (jad (rIs st [40]) st) ps s:=by
  unfold LBef
  rw[jbS hL (c:=[41]) (by decide)]
  exact hb
 have hr:=jco (s:=[41]) f1 hb'
 have f2:=Run.fine hr f1
 refine Run.swap (Run.bind (jbi hf [40]) (Run.bind hr (Run.bind (jbi f2 [41]) (ja1 (jah f2))))) fun l e=>?_
 obtain⟨l2,e2,-⟩:=jbs ⟨l,e⟩
 obtain⟨l1,e1⟩:=Run.ok_of hr ⟨l2,e2⟩
 obtain⟨l0,rfl,c0⟩:=jbs ⟨l1,e1⟩
 have hc0:pIs [40] l0=true:=c0
 rw[jaP,hc0,hz l0 rfl]
 rfl
theorem jfk (hf:st.fine) (hz:hasA st z) (hc:rIs st jcE=false):Run (jao d) st (.mk 3 z ⟨#[]⟩ 0 []) st:=by
 cases st with
 |bad a e=>exact rfl
 |ok l=>
  obtain rfl:=hz l rfl
  exact Run.bind (jcI hf hc) (Run.ite (fun g=>by cases g) fun _=>Run.bind (jby (L:=[]) hf) (ja1 hf))
theorem jeU (hf:st.fine) (hc:rIs st jcE=true) (hz:hasA (jaq st) z) (h2:s2=jad (rIs (jaq st) [40]) (jaq st)) (hx:Stp (.list .param) d s2 rs s3):Run (jao d) st (.mk 3 z ⟨#[]⟩ 0 rs) (jad (rIs s3 [41]) s3):=by
 obtain⟨l,rfl,hp⟩:=jbx hc
 subst h2
 have f1:RSt.fine (jaq (.ok l)):=jaJ hf
 have f2:(jad (rIs (jaq (.ok l)) [40]) (jaq (.ok l))).fine:=jah f1
 have f3:=Run.fine hx f2
 refine Run.bind (jcI hf hp) (Run.ite (fun _=>Run.bind (jaS (L:=[]) hf) ?_) fun g=>absurd rfl g)
 refine Run.swap (Run.bind (jbi f1 [40]) (Run.bind hx (Run.bind (jbi f3 [41]) (ja1 (jah f3))))) fun l' e=>?_
 obtain⟨l2,e2,-⟩:=jbs ⟨l',e⟩
 obtain⟨l1,e1⟩:=Run.ok_of hx ⟨l2,e2⟩
 obtain⟨l0,e0,c0⟩:=jbs ⟨l1,e1⟩
 rw[e0] at c0 ⊢
 have hc0:pIs [40] l0=true:=c0
 rw[jaP,hc0,hz l0 e0]
 rfl
theorem jkq (hf:st.fine) (hz:hasA st z) (h0:s0=if rIs st jaR=true then jaq st else st) (h1:s1=jad (rIs s0 jb6) s0) (ht:hasT s1 t) (h2:s2=jad (rNm s1) s1) (hk1:Run (jaz d) s2 k1 s3) (hk2:Run (jao d) s3 k2 s4) (hk3:Run (jaN jb1 d) s4 k3 s5) (hk4:Run (jaN jbN d) s5 k4 s6)
  (h:(rIs st jaR=true∧s=jad (rIs s6 [59]) s6∧xs=[])∨(rIs st jaR=false∧Stp .body d s6 xs s)):Stp .proc d st [.mk 2 z t 0 ([k1,k2,k3,k4]++xs)] s:=by
 cases st with
 |bad a e=>
  have e0:s0 = .bad a e:=by rw[h0];rfl
  subst e0
  have e1:s1 = .bad a e:=h1
  subst e1
  have e2:s2 = .bad a e:=h2
  subst e2
  obtain rfl:=Run.bads hk1
  obtain rfl:=Run.bads hk2
  obtain rfl:=Run.bads hk3
  obtain rfl:=Run.bads hk4
  rcases h with ⟨h,-⟩|⟨-,h⟩
  ·cases h
  ·exact Run.bads h
 |ok l=>
  obtain rfl:=hz l rfl
  have f0:s0.fine:=by
   rw[h0]
   split
   ·exact jaJ hf
   ·exact hf
  subst h1
  have f1:(jad (rIs s0 jb6) s0).fine:=jah f0
  subst h2
  have f2:(jad (rNm (jad (rIs s0 jb6) s0)) (jad (rIs s0 jb6) s0)).fine:=jah f1
  have f3:=Run.fine hk1 f2
  have f4:=Run.fine hk2 f3
  have f5:=Run.fine hk3 f4
  have f6:=Run.fine hk4 f5
  refine jhf (Run.bind (jby (L:=[]) hf) (Run.bind (jcI hf (b:=pIs jaR l) rfl) ?_))
  cases hi:pIs jaR l with
  |true=>
   have e0:s0 = .ok (pTl l):=by rw[h0];exact if_pos hi
   subst e0
   obtain⟨-,rfl,rfl⟩:=h.resolve_right (fun g=>absurd (hi.symm.trans g.1) (by decide))
   refine Run.swap (Run.bind (Run.ite (fun _=>jaS (L:=[]) hf) (fun g=>absurd rfl g)) (Run.bind (jbi f0 jb6) (Run.bind (jdK f1) (Run.bind hk1 (Run.bind hk2 (Run.bind hk3 (Run.bind hk4 (Run.ite (fun _=>Run.bind (jbi f6 [59]) (ja1 (jah f6))) (fun g=>absurd rfl g))))))))) fun l' e=>?_
   obtain⟨l6,e6,-⟩:=jbs ⟨l',e⟩
   obtain⟨l5,e5⟩:=Run.ok_of hk4 ⟨l6,e6⟩
   obtain⟨l4,e4⟩:=Run.ok_of hk3 ⟨l5,e5⟩
   obtain⟨l3,e3⟩:=Run.ok_of hk2 ⟨l4,e4⟩
   obtain⟨l2,e2⟩:=Run.ok_of hk1 ⟨l3,e3⟩
   obtain⟨l1,e1,c1⟩:=jbs ⟨l2,e2⟩
   have g1:=ht l1 e1 c1
   rw[e1] at c1 ⊢
   have hc1:ja5 (pHd l1)=true:=c1
   rw[jbW,hc1,g1]
   rfl
  |false=>
   have e0:s0 = .ok l:=by rw[h0];exact if_neg (by show ¬ pIs jaR l=true;rw[hi];decide)
   subst e0
   obtain⟨-,hb⟩:=h.resolve_left (fun g=>absurd (hi.symm.trans g.1) (by decide))
   have f7:=Run.fine hb f6
   refine Run.swap (Run.bind (Run.ite (fun g=>by cases g) (fun _=>jby (L:=[]) hf)) (Run.bind (jbi f0 jb6) (Run.bind (jdK f1) (Run.bind hk1 (Run.bind hk2 (Run.bind hk3 (Run.bind hk4 (Run.ite (fun g=>by cases g) (fun _=>Run.bind hb (ja1 f7)))))))))) fun l' e=>?_
   obtain⟨l6,e6⟩:=Run.ok_of hb ⟨l',e⟩
   obtain⟨l5,e5⟩:=Run.ok_of hk4 ⟨l6,e6⟩
   obtain⟨l4,e4⟩:=Run.ok_of hk3 ⟨l5,e5⟩
   obtain⟨l3,e3⟩:=Run.ok_of hk2 ⟨l4,e4⟩
   obtain⟨l2,e2⟩:=Run.ok_of hk1 ⟨l3,e3⟩
   obtain⟨l1,e1,c1⟩:=jbs ⟨l2,e2⟩
   have g1:=ht l1 e1 c1
   rw[e1] at c1 ⊢
   have hc1:ja5 (pHd l1)=true:=c1
   rw[jbW,hc1,g1]
   rfl
end
theorem Bx5.set1 {W:World} {p:Nat} {v0 v1 v2 v3 v4:Value} (h:Bx5 W p v0 v1 v2 v3 v4) (z:Value):Bx5 (W.setCell ⟨p,1,none⟩ z) p v0 z v2 v3 v4:=by
 obtain⟨c0,c1,c2,c3,c4,hf,hl⟩:=h
 have ho:∀ i,i≠1→(W.setCell ⟨p,1,none⟩ z).cell? ⟨p,i,none⟩=W.cell? ⟨p,i,none⟩:=fun i hi=>World.cell?_setCell_other W ⟨p,1,none⟩ ⟨p,i,none⟩ _ (fun e=>hi (by cases e;rfl))
 exact⟨(ho 0 (by decide)).trans c0,World.cell?_setCell_same' _ _ _ (by rw[c1];rfl),(ho 2 (by decide)).trans c2,(ho 3 (by decide)).trans c3,(ho 4 (by decide)).trans c4,fun j=>(World.frozen?_setCell _ _ _ _).trans (hf j),by simpa using hl⟩
theorem kidsIn.ext {lo X:Nat} {ps:List Nat} {W:World} {xs:List Syn} {v:Value} (h:kidsIn (offs lo ps) W xs v) (hX:W.heap.size≤X):kidsIn (offs lo (ps++[X])) W xs v:=kidsIn.keep ⟨jrr _,fun _ _ _=>rfl⟩ (fun k hk hb=>hk.ext hX hb) h
theorem jf6 {R:Nat} {L:List Tk} {d:Nat} {st:RSt} {w:World} (h:Rf R L w d st) (hd:d≤64) (hD:∀ n,(tkD L n).k=1→DgT (tkD L n).t) :
  Calls Tryz.prog 21 #[.pointer (some ⟨R,0,none⟩)] w (PF R L .proc d st w):=by
 have hfi:=h.fine
 have HTL:=jD h.fix.toks.toks
 have HD:=jD hd;have HDD:=jD hD;have HFI:=jD hfi
 obtain⟨bi,hbi⟩:∃ bi,bi=rIs st jaR:=⟨_,rfl⟩
 obtain⟨s0,hs0⟩:∃ s0,s0=if bi=true then jaq st else st:=⟨_,rfl⟩
 have hs0':s0=if rIs st jaR=true then jaq st else st:=by rw[←hbi];exact hs0
 have CH:=fun W (H:Rf R L W d st)=>jcy H
 have CI:=fun W (H:Rf R L W d st)=>jbD H jaR (by decide)
 rw[←hbi,←hs0] at CI
 have f0:s0.fine:=by
  rw[hs0]
  split
  ·exact RSt.takeS_fine hfi
  ·exact hfi
 have f1:(jad (rIs s0 jb6) s0).fine:=jah f0
 have f2:(jad (rNm (jad (rIs s0 jb6) s0)) (jad (rIs s0 jb6) s0)).fine:=jah f1
 have HM:=jD (fun z t k1 k2 k3 k4 s3 s4 s5 s6 xs s hz ht hk1 hk2 hk3 hk4 h=>jkq (d:=d) (z:=z) (t:=t) (k1:=k1) (k2:=k2) (k3:=k3) (k4:=k4) (s3:=s3) (s4:=s4) (s5:=s5) (s6:=s6) (xs:=xs) (s:=s) hfi hz hs0' rfl ht rfl hk1 hk2 hk3 hk4 h)
 have CP:=fun W (H:Rf R L W d s0)=>jbu H jb6 (by decide)
 have CN:=fun W (H:Rf R L W d (jad (rIs s0 jb6) s0))=>jfO H
 have HHT:Hid (∀ t,hasT (jad (rIs s0 jb6) s0) t↔hasT (jad (rIs s0 jb6) s0) t):=jD (fun t=>Iff.rfl)
 generalize jad (rNm (jad (rIs s0 jb6) s0)) (jad (rIs s0 jb6) s0)=s2 at *
 generalize jad (rIs s0 jb6) s0=s1 at *
 have f3:(jad (rIs s2 [40]) s2).fine:=jah f2
 have HM1:=jD (fun z ps s hz hb=>jiy (L:=L) (d:=d) (z:=z) (ps:=ps) (s:=s) f2 hz rfl hb HTL.out)
 have C40:=fun W (H:Rf R L W d s2)=>jbu H [40] (by decide)
 generalize jad (rIs s2 [40]) s2=s3 at *
 have C41:=fun W (H:Rf R L W d s3)=>ris H [41] (by decide)
 have HF2:=jD f2;have HF3:=jD f3;have HBI:=jD hbi
 have KH:=jD CH;have KI:=jD CI;have KP:=jD CP;have KN:=jD CN;have K40:=jD C40;have K41:=jD C41
 clear hbi hs0 hs0' f0 f1 f2 f3
 have HA0:=jD h
 have HLT:=jD h.fix.lt;have HRW:=jD h.fix.lt
 have A0:=jD (h.alloc jZ);obtain⟨B0,XR0,HPR,HLS⟩:=jS h.fix.lt
 clear h CH CI CP CN C40 C41 hfi hd hD HHT
 go_enter Tryz.func21,Tryz.ntmps21
 go_wp2_with (go_at_call 48;refine cM (KH.out _ A0.out) ?_;rintro e w1 ⟨z1,rfl,hz1,ha1,hb1⟩)
 have HZ1:=jD hz1
 have A1:=jD ha1;have B1:=jtt B0 hb1
 have XR1:=jbb XR0 HPR hb1
 clear ha1 hb1 hz1
 refine jD ?_
 go_wp2_with (go_at_call 51;refine jR (KI.out _ A1.out) B1 XR1 HPR fun w2 A2 B2 XR2=>?_)
 refine jD ?_
 go_wp2_with (go_at_call 52;refine jR (KP.out _ A2.out) B2 XR2 HPR fun w3 A3 B3 XR3=>?_)
 refine jD ?_
 go_wp2_with (go_at_call 53;refine cM (KN.out _ A3.out) ?_;rintro e w4 ⟨z4,rfl,hz4,ha4,hb4⟩)
 have HZ4:=jD hz4
 have A4:=jD ha4;have B4:=jtt B3 hb4
 have XR4:=jbb XR3 HPR hb4
 clear ha4 hb4 hz4
 refine jD ?_
 go_wp2_with (go_at_call 48;refine cM (jcy A4.out) ?_;rintro e w5 ⟨z5,rfl,hz5,ha5,hb5⟩)
 have HZ5:=jD hz5
 have A5:=jD ha5;have B5:=jtt B4 hb5
 have XR5:=jbb XR4 HPR hb5
 clear ha5 hb5 hz5
 refine jD ?_
 go_wp2_with (go_at_call 47;refine cM (jam _ _ _ _ _ _ _) ?_;rintro e w6 ⟨rfl,hbl6⟩)
 have ha6:=A5.out.below hbl6;have hb6:=Butt.of_below (R:=R) A5.out.fix.lt hbl6;clear hbl6
 have A6:=jD ha6;have B6:=jtt B5 hb6
 have XR6:=jbb XR5 HPR hb6
 clear ha6 hb6
 refine jD ?_
 have LP:Hid (w.heap.size<w6.heap.size):=jD XR6.out.lt
 have A6a:=jD (A6.out.alloc (Obj.cells #[.int .i64 3,.int .i64 z5,.string ⟨#[]⟩,.int .i64 0,.slice none 0 0] 25));have B6a:=jD (B6.out.alloc HRW.out (Obj.cells #[.int .i64 3,.int .i64 z5,.string ⟨#[]⟩,.int .i64 0,.slice none 0 0] 25))
 have XR6a:=jD (XR6.out.alloc (Obj.cells #[.int .i64 3,.int .i64 z5,.string ⟨#[]⟩,.int .i64 0,.slice none 0 0] 25))
 have PXP:=nR A6.out.fix.lt
 have XP6a:=jD (Bx5.new w6 (.int .i64 3) (.int .i64 z5) (.string ⟨#[]⟩) (.int .i64 0) (.slice none 0 0))
 go_wp2_with (go_at_call 52;refine jX (K40.out _ A6a.out) B6a XR6a HPR fun w7 A7 B7 XR7 hb7=>?_)
 have XP7:=jD (XP6a.out.butt PXP.out hb7)
 clear hb7
 refine jD ?_
 go_wp2_with (go_at_call 49;refine jX (K41.out _ A7.out) B7 XR7 HPR fun w8 A8 B8 XR8 hb8=>?_)
 have XP8:=jD (XP7.out.butt PXP.out hb8)
 clear hb8
 refine jD ?_
 go_upto_if 26 with fail
 go_cut [] from 24 to 29 (fun wx=>∃ s ps ao c,Rf R L wx d s∧Butt R w wx∧Bx5 wx w.heap.size (.int .i64 0) (.int .i64 0) (.string ⟨#[]⟩) (.int .i64 0) (.slice none 0 0)∧Bx5 wx w6.heap.size (.int .i64 3) (.int .i64 z5) (.string ⟨#[]⟩) (.int .i64 0) (.slice ao ps.length c)∧kidsIn (offs w.heap.size [w.heap.size,w6.heap.size]) wx ps (.slice ao ps.length c)∧((rIs s3 [41]=true∧ps=[]∧s=s3)∨(rIs s3 [41]=false∧Stp (.list .param) d s3 ps s)))
 case first=>
  cases hb:rIs s3 [41] with
  |true=>
   have HB0:=jD hb;clear hb
   go_wp2_with fail
   go_meet
   exact⟨_,[],none,0,A8.out,B8.out,XR8.out,XP8.out,Or.inl ⟨rfl,rfl⟩,.inl ⟨HB0.out,rfl,rfl⟩⟩
  |false=>
   have HB0:=jD hb;clear hb
   go_wp2_with (go_at_call 54;refine cM (jhl A8.out) ?_;rintro e w9 ⟨x9,v9,s9,rfl,hx9,hn9,hs9,ha9,hb9⟩)
   obtain⟨o9,c9,rfl⟩:=hx9.slice
   have RW9:=jD (ownT.kidsIn (l2:=w.heap.size) (ps:=[w.heap.size,w6.heap.size]) hx9 (Nat.le_trans (jrr _) B8.out.size) (fun p hp=>by simp only[List.mem_cons,List.not_mem_nil,or_false] at hp;have g0:=XR8.out.lt;have g1:=XP8.out.lt;omega))
   have HS9:=jD hs9;have HN9:=jD hn9
   have A9:=jD ha9;have B9:=jtt B8 hb9
   have XR9:=jbb XR8 HPR hb9
   have XP9:=jD (XP8.out.butt PXP.out hb9)
   clear ha9 hb9 hx9 hs9 hn9
   refine jD ?_
   have yy:=XP9.out.c4;have ff:=XP9.out.free 4;have ll:=XP9.out.lt
   go_wp2_with fail
   clear yy ff ll
   have SN:=Rf.setNew HA0.out B9.out A9.out (w6.heap.size) 4 (Nat.le_of_lt LP.out) (.slice o9 x9.length c9)
   have Af1:=jD SN.1;have Bf1:=jD SN.2;clear SN
   have XRf1:=jD (XR9.out.setO (q:=w6.heap.size) (j:=4) (Nat.ne_of_lt LP.out) (.slice o9 x9.length c9))
   have RW9f1:=jD (RW9.out.kept (by simp) ((Kept.refl (·≠w6.heap.size) w9).setCell ⟨w6.heap.size,4,none⟩ (fun h=>h rfl) (.slice o9 x9.length c9)))
   have XPf1:=jD (XP9.out.set4 (.slice o9 x9.length c9))
   go_meet
   exact⟨_,x9,o9,c9,Af1.out,Bf1.out,XRf1.out,XPf1.out,RW9f1.out,.inr ⟨HB0.out,HS9.out⟩⟩
 case rest=>
  obtain⟨s,ps,ao,c,hac,hbc,hxr,hxp,hki,hor⟩:=hcut
  have HK1:=jD (HM1.out _ _ _ HZ5.out hor)
  have HFS:Hid s.fine:=jD (by rcases hor with ⟨-,-,rfl⟩|⟨-,h⟩;exact HF3.out;exact Run.fine h HF3.out)
  have AC:=jD hac;have BC:=jD hbc;have XRC:=jD hxr;have XPC:=jD hxp;have PSC:=jD hki;clear hac hbc hxr hxp hki hor
  have C2:=fun W (H:Rf R L W d s)=>jbu H [41] (by decide)
  have hf5:(jad (rIs s [41]) s).fine:=jah HFS.out
  generalize jad (rIs s [41]) s=s5 at *
  have K2:=jD C2;have HF5:=jD hf5;clear C2 hf5
  obtain⟨br,hbr⟩:∃ br,br=rIs s5 jcE:=⟨_,rfl⟩
  obtain⟨s6,hs6⟩:∃ s6,s6=if br=true then jaq s5 else s5:=⟨_,rfl⟩
  have CT:=fun W (H:Rf R L W d s5)=>jbD H jcE (by decide)
  rw[←hbr,←hs6] at CT
  have KT:=jD CT;have HBR:=jD hbr;have HS6:=jD hs6;clear CT hbr hs6
  go_wp2_with (go_at_call 52;refine jX (K2.out _ AC.out) BC XRC HPR fun w21 A21 B21 XR21 hb21=>?_)
  have XP21:=jD (XPC.out.butt PXP.out hb21)
  have PS21:=jD (PSC.out.butt HLT.out hb21)
  clear hb21
  refine jD ?_
  go_wp2_with (go_at_call 48;refine cM (jcy A21.out) ?_;rintro e w22 ⟨z22,rfl,hz22,ha22,hb22⟩)
  have HZ22:=jD hz22
  have A22:=jD ha22;have B22:=jtt B21 hb22
  have XR22:=jbb XR21 HPR hb22
  have XP22:=jD (XP21.out.butt PXP.out hb22)
  have PS22:=jD (PS21.out.butt HLT.out hb22)
  clear ha22 hb22 hz22
  refine jD ?_
  go_wp2_with (go_at_call 47;refine cM (jam _ _ _ _ _ _ _) ?_;rintro e w23 ⟨rfl,hbl23⟩)
  have ha23:=A22.out.below hbl23;have hb23:=Butt.of_below (R:=R) A22.out.fix.lt hbl23;clear hbl23
  have A23:=jD ha23;have B23:=jtt B22 hb23
  have XR23:=jbb XR22 HPR hb23
  have XP23:=jD (XP22.out.butt PXP.out hb23)
  have PS23:=jD (PS22.out.butt HLT.out hb23)
  clear ha23 hb23
  refine jD ?_
  have PSx:=jD (PS23.out.ext (X:=w23.heap.size) (jrr _))
  have LQ:Hid (w6.heap.size<w23.heap.size):=jD XP23.out.lt
  have A23a:=jD (A23.out.alloc (Obj.cells #[.int .i64 3,.int .i64 z22,.string ⟨#[]⟩,.int .i64 0,.slice none 0 0] 25));have B23a:=jD (B23.out.alloc HRW.out (Obj.cells #[.int .i64 3,.int .i64 z22,.string ⟨#[]⟩,.int .i64 0,.slice none 0 0] 25))
  have XR23a:=jD (XR23.out.alloc (Obj.cells #[.int .i64 3,.int .i64 z22,.string ⟨#[]⟩,.int .i64 0,.slice none 0 0] 25))
  have XP23a:=jD (XP23.out.alloc (Obj.cells #[.int .i64 3,.int .i64 z22,.string ⟨#[]⟩,.int .i64 0,.slice none 0 0] 25))
  have PS23a:=jD (PSx.out.butt HLT.out (Butt.of_below A23.out.fix.lt (jN (Obj.cells #[.int .i64 3,.int .i64 z22,.string ⟨#[]⟩,.int .i64 0,.slice none 0 0] 25))))
  have PXQ:=nR A23.out.fix.lt
  have XQ23a:=jD (Bx5.new w23 (.int .i64 3) (.int .i64 z22) (.string ⟨#[]⟩) (.int .i64 0) (.slice none 0 0))
  go_wp2_with (go_at_call 51;refine jX (KT.out _ A23a.out) B23a XR23a HPR fun w24 A24 B24 XR24 hb24=>?_)
  have XP24:=jD (XP23a.out.butt PXP.out hb24)
  have XQ24:=jD (XQ23a.out.butt PXQ.out hb24)
  have PS24:=jD (PS23a.out.butt HLT.out hb24)
  clear hb24
  refine jD ?_
  go_upto_if 36 with fail
  have LRQ:Hid (w.heap.size<w23.heap.size):=jD (Nat.lt_trans LP.out LQ.out)
  go_cut [] from 35 to 46 (fun wx=>∃ s7 za rs oq cq,Rf R L wx d s7∧Butt R w wx∧Bx5 wx w.heap.size (.int .i64 0) (.int .i64 0) (.string ⟨#[]⟩) (.int .i64 0) (.slice none 0 0)∧Bx5 wx w6.heap.size (.int .i64 3) (.int .i64 z5) (.string ⟨#[]⟩) (.int .i64 0) (.slice ao ps.length c)∧kidsIn (offs w.heap.size [w.heap.size,w6.heap.size,w23.heap.size]) wx ps (.slice ao ps.length c)∧Bx5 wx w23.heap.size (.int .i64 3) (.int .i64 za) (.string ⟨#[]⟩) (.int .i64 0) (.slice oq rs.length cq)∧kidsIn (offs w.heap.size [w.heap.size,w6.heap.size,w23.heap.size]) wx rs (.slice oq rs.length cq)∧Run (jao d) s5 (.mk 3 za ⟨#[]⟩ 0 rs) s7)
  case first=>
   cases br with
   |false=>
    have e6:s6=s5:=HS6.out
    subst e6
    go_wp2_with fail
    go_meet
    exact⟨_,z22,[],none,0,A24.out,B24.out,XR24.out,XP24.out,PS24.out,XQ24.out,Or.inl ⟨rfl,rfl⟩,jfk HF5.out HZ22.out HBR.out.symm⟩
   |true=>
    have e6:s6=jaq s5:=HS6.out
    subst e6
    have HM2:=jD (fun z rs s3 hz hx=>jeU (d:=d) (z:=z) (rs:=rs) (s3:=s3) HF5.out HBR.out.symm hz rfl hx)
    go_wp2_with (go_at_call 48;refine cM (jcy A24.out) ?_;rintro e w25 ⟨z25,rfl,hz25,ha25,hb25⟩)
    have HZ25:=jD hz25
    have A25:=jD ha25;have B25:=jtt B24 hb25
    have XR25:=jbb XR24 HPR hb25
    have XP25:=jD (XP24.out.butt PXP.out hb25)
    have XQ25:=jD (XQ24.out.butt PXQ.out hb25)
    have PS25:=jD (PS24.out.butt HLT.out hb25)
    clear ha25 hb25 hz25
    refine jD ?_
    have yy:=XQ25.out.c1;have ff:=XQ25.out.free 1;have ll:=XQ25.out.lt
    go_wp2_with fail
    clear yy ff ll
    have SN:=Rf.setNew HA0.out B25.out A25.out (w23.heap.size) 1 (Nat.le_of_lt LRQ.out) (.int .i64 z25)
    have Af1:=jD SN.1;have Bf1:=jD SN.2;clear SN
    have XRf1:=jD (XR25.out.setO (q:=w23.heap.size) (j:=1) (Nat.ne_of_lt LRQ.out) (.int .i64 z25))
    have XPf1:=jD (XP25.out.setO (q:=w23.heap.size) (j:=1) (Nat.ne_of_lt LQ.out) (.int .i64 z25))
    have PSf1:=jD (PS25.out.kept (by simp) ((Kept.refl (·≠w23.heap.size) w25).setCell ⟨w23.heap.size,1,none⟩ (fun h=>h rfl) (.int .i64 z25)))
    have XQf1:=jD (XQ25.out.set1 (.int .i64 z25))
    go_wp2_with (go_at_call 52;refine jX (jbu Af1.out [40] (by decide)) Bf1 XRf1 HPR fun w26 A26 B26 XR26 hb26=>?_)
    have XP26:=jD (XPf1.out.butt PXP.out hb26)
    have XQ26:=jD (XQf1.out.butt PXQ.out hb26)
    have PS26:=jD (PSf1.out.butt HLT.out hb26)
    clear hb26
    refine jD ?_
    go_wp2_with (go_at_call 54;refine cM (jhl A26.out) ?_;rintro e w27 ⟨x27,v27,s27,rfl,hx27,hn27,hs27,ha27,hb27⟩)
    obtain⟨o27,c27,rfl⟩:=hx27.slice
    have RW27:=jD (ownT.kidsIn (l2:=w.heap.size) (ps:=[w.heap.size,w6.heap.size,w23.heap.size]) hx27 (Nat.le_trans (jrr _) B26.out.size) (fun p hp=>by simp only[List.mem_cons,List.not_mem_nil,or_false] at hp;have g0:=XR26.out.lt;have g1:=XP26.out.lt;have g2:=XQ26.out.lt;omega))
    have HS27:=jD hs27;have HN27:=jD hn27
    have A27:=jD ha27;have B27:=jtt B26 hb27
    have XR27:=jbb XR26 HPR hb27
    have XP27:=jD (XP26.out.butt PXP.out hb27)
    have XQ27:=jD (XQ26.out.butt PXQ.out hb27)
    have PS27:=jD (PS26.out.butt HLT.out hb27)
    clear ha27 hb27 hx27 hs27 hn27
    refine jD ?_
    have yy:=XQ27.out.c4;have ff:=XQ27.out.free 4;have ll:=XQ27.out.lt
    go_wp2_with fail
    clear yy ff ll
    have SN:=Rf.setNew HA0.out B27.out A27.out (w23.heap.size) 4 (Nat.le_of_lt LRQ.out) (.slice o27 x27.length c27)
    have Af2:=jD SN.1;have Bf2:=jD SN.2;clear SN
    have XRf2:=jD (XR27.out.setO (q:=w23.heap.size) (j:=4) (Nat.ne_of_lt LRQ.out) (.slice o27 x27.length c27))
    have XPf2:=jD (XP27.out.setO (q:=w23.heap.size) (j:=4) (Nat.ne_of_lt LQ.out) (.slice o27 x27.length c27))
    have PSf2:=jD (PS27.out.kept (by simp) ((Kept.refl (·≠w23.heap.size) w27).setCell ⟨w23.heap.size,4,none⟩ (fun h=>h rfl) (.slice o27 x27.length c27)))
    have RW27f2:=jD (RW27.out.kept (by simp) ((Kept.refl (·≠w23.heap.size) w27).setCell ⟨w23.heap.size,4,none⟩ (fun h=>h rfl) (.slice o27 x27.length c27)))
    have XQf2:=jD (XQ27.out.set4 (.slice o27 x27.length c27))
    go_wp2_with (go_at_call 52;refine jX (jbu Af2.out [41] (by decide)) Bf2 XRf2 HPR fun w28 A28 B28 XR28 hb28=>?_)
    have XP28:=jD (XPf2.out.butt PXP.out hb28)
    have XQ28:=jD (XQf2.out.butt PXQ.out hb28)
    have PS28:=jD (PSf2.out.butt HLT.out hb28)
    have RW2728:=jD (RW27f2.out.butt HLT.out hb28)
    clear hb28
    refine jD ?_
    go_wp2_with fail
    go_meet
    exact⟨_,z25,x27,o27,c27,A28.out,B28.out,XR28.out,XP28.out,PS28.out,XQ28.out,RW2728.out,HM2.out _ _ _ HZ25.out HS27.out⟩
  case rest=>
   obtain⟨s7,za,rs,oq,cq,hac,hbc,hxr,hxp,hki,hxq,hkq,hm⟩:=hcut
   have AC2:=jD hac;have BC2:=jD hbc;have XRC2:=jD hxr;have XPC2:=jD hxp;have PSC2:=jD hki;have XQC2:=jD hxq;have RSC2:=jD hkq;have HK2:=jD hm;clear hac hbc hxr hxp hki hxq hkq hm
   go_wp2_with (go_at_call 55;refine cM (jfg AC2.out HD.out) ?_;rintro e w41 ⟨x41,v41,s41,rfl,hx41,hs41,ha41,hb41⟩)
   obtain⟨k41,a41,t41,n41,o41,l41,c41,q41,rfl,rfl,hk41⟩:=hx41.shape
   have HS41:=jD hs41
   have TR41:=jD (synIn.of (l2:=w.heap.size) (ps:=[w.heap.size,w6.heap.size,w23.heap.size]) hx41 (Nat.le_trans (jrr _) BC2.out.size) (fun p hp=>by simp only[List.mem_cons,List.not_mem_nil,or_false] at hp;have g0:=XRC2.out.lt;have g1:=XPC2.out.lt;have g2:=XQC2.out.lt;omega))
   have A41:=jD ha41;have B41:=jtt BC2 hb41
   have XR41:=jbb XRC2 HPR hb41
   have XP41:=jD (XPC2.out.butt PXP.out hb41)
   have XQ41:=jD (XQC2.out.butt PXQ.out hb41)
   have PS41:=jD (PSC2.out.butt HLT.out hb41)
   have RS41:=jD (RSC2.out.butt HLT.out hb41)
   clear ha41 hb41 hx41 hk41 hs41
   refine jD ?_
   have A41a:=jD (A41.out.alloc (Obj.cells #[.int .i64 k41,.int .i64 a41,.string t41,.int .i64 n41,.slice o41 l41 c41] 25));have B41a:=jD (B41.out.alloc HRW.out (Obj.cells #[.int .i64 k41,.int .i64 a41,.string t41,.int .i64 n41,.slice o41 l41 c41] 25))
   have XR41a:=jD (XR41.out.alloc (Obj.cells #[.int .i64 k41,.int .i64 a41,.string t41,.int .i64 n41,.slice o41 l41 c41] 25))
   have XP41a:=jD (XP41.out.alloc (Obj.cells #[.int .i64 k41,.int .i64 a41,.string t41,.int .i64 n41,.slice o41 l41 c41] 25))
   have XQ41a:=jD (XQ41.out.alloc (Obj.cells #[.int .i64 k41,.int .i64 a41,.string t41,.int .i64 n41,.slice o41 l41 c41] 25))
   have PS41a:=jD (PS41.out.butt HLT.out (Butt.of_below A41.out.fix.lt (jN (Obj.cells #[.int .i64 k41,.int .i64 a41,.string t41,.int .i64 n41,.slice o41 l41 c41] 25))))
   have RS41a:=jD (RS41.out.butt HLT.out (Butt.of_below A41.out.fix.lt (jN (Obj.cells #[.int .i64 k41,.int .i64 a41,.string t41,.int .i64 n41,.slice o41 l41 c41] 25))))
   have TR4141a:=jww TR41 HLT A41.out.fix.lt (Obj.cells #[.int .i64 k41,.int .i64 a41,.string t41,.int .i64 n41,.slice o41 l41 c41] 25)
   have PXA:=nR A41.out.fix.lt
   have XA41a:=jD (Bx5.new w41 (.int .i64 k41) (.int .i64 a41) (.string t41) (.int .i64 n41) (.slice o41 l41 c41))
   go_wp2_with (go_at_call 55;refine cM (jfT A41a.out HD.out) ?_;rintro e w42 ⟨x42,v42,s42,rfl,hx42,hs42,ha42,hb42⟩)
   obtain⟨k42,a42,t42,n42,o42,l42,c42,q42,rfl,rfl,hk42⟩:=hx42.shape
   have HS42:=jD hs42
   have TR42:=jD (synIn.of (l2:=w.heap.size) (ps:=[w.heap.size,w6.heap.size,w23.heap.size]) hx42 (Nat.le_trans (jrr _) B41a.out.size) (fun p hp=>by simp only[List.mem_cons,List.not_mem_nil,or_false] at hp;have g0:=XR41a.out.lt;have g1:=XP41a.out.lt;have g2:=XQ41a.out.lt;omega))
   have A42:=jD ha42;have B42:=jtt B41a hb42
   have XR42:=jbb XR41a HPR hb42
   have XP42:=jD (XP41a.out.butt PXP.out hb42)
   have XQ42:=jD (XQ41a.out.butt PXQ.out hb42)
   have XA42:=jD (XA41a.out.butt PXA.out hb42)
   have PS42:=jD (PS41a.out.butt HLT.out hb42)
   have RS42:=jD (RS41a.out.butt HLT.out hb42)
   have TR4142:=jvv TR4141a HLT hb42
   clear ha42 hb42 hx42 hk42 hs42
   refine jD ?_
   have A42a1:=jD (A42.out.alloc (Obj.cells #[.int .i64 k42,.int .i64 a42,.string t42,.int .i64 n42,.slice o42 l42 c42] 25));have B42a1:=jD (B42.out.alloc HRW.out (Obj.cells #[.int .i64 k42,.int .i64 a42,.string t42,.int .i64 n42,.slice o42 l42 c42] 25))
   have XR42a1:=jD (XR42.out.alloc (Obj.cells #[.int .i64 k42,.int .i64 a42,.string t42,.int .i64 n42,.slice o42 l42 c42] 25))
   have XP42a1:=jD (XP42.out.alloc (Obj.cells #[.int .i64 k42,.int .i64 a42,.string t42,.int .i64 n42,.slice o42 l42 c42] 25))
   have XQ42a1:=jD (XQ42.out.alloc (Obj.cells #[.int .i64 k42,.int .i64 a42,.string t42,.int .i64 n42,.slice o42 l42 c42] 25))
   have XA42a1:=jD (XA42.out.alloc (Obj.cells #[.int .i64 k42,.int .i64 a42,.string t42,.int .i64 n42,.slice o42 l42 c42] 25))
   have PS42a1:=jD (PS42.out.butt HLT.out (Butt.of_below A42.out.fix.lt (jN (Obj.cells #[.int .i64 k42,.int .i64 a42,.string t42,.int .i64 n42,.slice o42 l42 c42] 25))))
   have RS42a1:=jD (RS42.out.butt HLT.out (Butt.of_below A42.out.fix.lt (jN (Obj.cells #[.int .i64 k42,.int .i64 a42,.string t42,.int .i64 n42,.slice o42 l42 c42] 25))))
   have TR4142a1:=jww TR4142 HLT A42.out.fix.lt (Obj.cells #[.int .i64 k42,.int .i64 a42,.string t42,.int .i64 n42,.slice o42 l42 c42] 25)
   have TR4242a1:=jww TR42 HLT A42.out.fix.lt (Obj.cells #[.int .i64 k42,.int .i64 a42,.string t42,.int .i64 n42,.slice o42 l42 c42] 25)
   have PXB:=nR A42.out.fix.lt
   have XB42a1:=jD (Bx5.new w42 (.int .i64 k42) (.int .i64 a42) (.string t42) (.int .i64 n42) (.slice o42 l42 c42))
   obtain⟨yXP0,yXP1,yXP2,yXP3,yXP4,-,-⟩:=XP42a1.out
   obtain⟨yXQ0,yXQ1,yXQ2,yXQ3,yXQ4,-,-⟩:=XQ42a1.out
   obtain⟨yXA0,yXA1,yXA2,yXA3,yXA4,-,-⟩:=XA42a1.out
   obtain⟨yXB0,yXB1,yXB2,yXB3,yXB4,-,-⟩:=XB42a1.out
   have TTP:=jD (jac.mpr ⟨_,rfl,PS42a1.out⟩:synIn (offs w.heap.size [w.heap.size,w6.heap.size,w23.heap.size]) (w42.alloc (Obj.cells #[.int .i64 k42,.int .i64 a42,.string t42,.int .i64 n42,.slice o42 l42 c42] 25)) (.mk 3 z5 ⟨#[]⟩ 0 ps) (.agg #[.int .i64 3,.int .i64 z5,.string ⟨#[]⟩,.int .i64 0,.slice ao ps.length c]))
   have TTQ:=jD (jac.mpr ⟨_,rfl,RS42a1.out⟩:synIn (offs w.heap.size [w.heap.size,w6.heap.size,w23.heap.size]) (w42.alloc (Obj.cells #[.int .i64 k42,.int .i64 a42,.string t42,.int .i64 n42,.slice o42 l42 c42] 25)) (.mk 3 za ⟨#[]⟩ 0 rs) (.agg #[.int .i64 3,.int .i64 za,.string ⟨#[]⟩,.int .i64 0,.slice oq rs.length cq]))
   have hAw:offs w.heap.size [w.heap.size,w6.heap.size,w23.heap.size] (w42.alloc (Obj.cells #[.int .i64 k42,.int .i64 a42,.string t42,.int .i64 n42,.slice o42 l42 c42] 25)).heap.size:=⟨(Nat.le_trans (jrr _) B42a1.out.size),fun hp=>absurd (((fun p hp=>by simp only[List.mem_cons,List.not_mem_nil,or_false] at hp;have g0:=XR42a1.out.lt;have g1:=XP42a1.out.lt;have g2:=XQ42a1.out.lt;omega):∀ p∈[w.heap.size,w6.heap.size,w23.heap.size],p<(w42.alloc (Obj.cells #[.int .i64 k42,.int .i64 a42,.string t42,.int .i64 n42,.slice o42 l42 c42] 25)).heap.size) _ hp) (Nat.lt_irrefl _)⟩
   have HG:=jD (growP.new (flatIn.cons TTP.out (flatIn.cons TTQ.out (flatIn.cons TR4142a1.out (flatIn.one TR4242a1.out)))) (by simp) hAw 4 rfl);clear hAw
   have A42a2:=jD (A42a1.out.alloc (Obj.cells #[.int .i64 3,.int .i64 z5,.string ⟨#[]⟩,.int .i64 0,.slice ao ps.length c,.int .i64 3,.int .i64 za,.string ⟨#[]⟩,.int .i64 0,.slice oq rs.length cq,.int .i64 k41,.int .i64 a41,.string t41,.int .i64 n41,.slice o41 l41 c41,.int .i64 k42,.int .i64 a42,.string t42,.int .i64 n42,.slice o42 l42 c42] 25));have B42a2:=jD (B42a1.out.alloc HRW.out (Obj.cells #[.int .i64 3,.int .i64 z5,.string ⟨#[]⟩,.int .i64 0,.slice ao ps.length c,.int .i64 3,.int .i64 za,.string ⟨#[]⟩,.int .i64 0,.slice oq rs.length cq,.int .i64 k41,.int .i64 a41,.string t41,.int .i64 n41,.slice o41 l41 c41,.int .i64 k42,.int .i64 a42,.string t42,.int .i64 n42,.slice o42 l42 c42] 25))
   have XR42a2:=jD (XR42a1.out.alloc (Obj.cells #[.int .i64 3,.int .i64 z5,.string ⟨#[]⟩,.int .i64 0,.slice ao ps.length c,.int .i64 3,.int .i64 za,.string ⟨#[]⟩,.int .i64 0,.slice oq rs.length cq,.int .i64 k41,.int .i64 a41,.string t41,.int .i64 n41,.slice o41 l41 c41,.int .i64 k42,.int .i64 a42,.string t42,.int .i64 n42,.slice o42 l42 c42] 25))
   have XP42a2:=jD (XP42a1.out.alloc (Obj.cells #[.int .i64 3,.int .i64 z5,.string ⟨#[]⟩,.int .i64 0,.slice ao ps.length c,.int .i64 3,.int .i64 za,.string ⟨#[]⟩,.int .i64 0,.slice oq rs.length cq,.int .i64 k41,.int .i64 a41,.string t41,.int .i64 n41,.slice o41 l41 c41,.int .i64 k42,.int .i64 a42,.string t42,.int .i64 n42,.slice o42 l42 c42] 25))
   have XQ42a2:=jD (XQ42a1.out.alloc (Obj.cells #[.int .i64 3,.int .i64 z5,.string ⟨#[]⟩,.int .i64 0,.slice ao ps.length c,.int .i64 3,.int .i64 za,.string ⟨#[]⟩,.int .i64 0,.slice oq rs.length cq,.int .i64 k41,.int .i64 a41,.string t41,.int .i64 n41,.slice o41 l41 c41,.int .i64 k42,.int .i64 a42,.string t42,.int .i64 n42,.slice o42 l42 c42] 25))
   have XA42a2:=jD (XA42a1.out.alloc (Obj.cells #[.int .i64 3,.int .i64 z5,.string ⟨#[]⟩,.int .i64 0,.slice ao ps.length c,.int .i64 3,.int .i64 za,.string ⟨#[]⟩,.int .i64 0,.slice oq rs.length cq,.int .i64 k41,.int .i64 a41,.string t41,.int .i64 n41,.slice o41 l41 c41,.int .i64 k42,.int .i64 a42,.string t42,.int .i64 n42,.slice o42 l42 c42] 25))
   have XB42a2:=jD (XB42a1.out.alloc (Obj.cells #[.int .i64 3,.int .i64 z5,.string ⟨#[]⟩,.int .i64 0,.slice ao ps.length c,.int .i64 3,.int .i64 za,.string ⟨#[]⟩,.int .i64 0,.slice oq rs.length cq,.int .i64 k41,.int .i64 a41,.string t41,.int .i64 n41,.slice o41 l41 c41,.int .i64 k42,.int .i64 a42,.string t42,.int .i64 n42,.slice o42 l42 c42] 25))
   have hz:(w42.alloc (Obj.cells #[.int .i64 k42,.int .i64 a42,.string t42,.int .i64 n42,.slice o42 l42 c42] 25)).heap.size=w42.heap.size+1:=by simp
   have hg2:=HG.out;rw[hz] at hg2;have HG2:=jD hg2;clear hg2 hz
   go_wp2_with (go_at_call 47;refine cM (jam _ _ _ _ _ _ _) ?_;rintro e w43 ⟨rfl,hbl43⟩)
   have ha43:=A42a2.out.below hbl43;have hb43:=Butt.of_below (R:=R) A42a2.out.fix.lt hbl43;clear hbl43
   have A43:=jD ha43;have B43:=jtt B42a2 hb43
   have XR43:=jbb XR42a2 HPR hb43
   have XP43:=jD (XP42a2.out.butt PXP.out hb43)
   have XQ43:=jD (XQ42a2.out.butt PXQ.out hb43)
   have XA43:=jD (XA42a2.out.butt PXA.out hb43)
   have XB43:=jD (XB42a2.out.butt PXB.out hb43)
   have G43:=jD (HG2.out.butt HLT.out hb43)
   clear ha43 hb43
   refine jD ?_
   have Gx:=jD (G43.out.ext (X:=w43.heap.size) (jrr _))
   have LX:Hid (w.heap.size<w43.heap.size):=jD XR43.out.lt;have LPX:Hid (w6.heap.size<w43.heap.size):=jD XP43.out.lt;have LQX:Hid (w23.heap.size<w43.heap.size):=jD XQ43.out.lt
   have A43a3:=jD (A43.out.alloc (Obj.cells #[.int .i64 2,.int .i64 z1,.string z4,.int .i64 0,.slice (some ⟨w42.heap.size+1,0,none⟩) 4 4] 25));have B43a3:=jD (B43.out.alloc HRW.out (Obj.cells #[.int .i64 2,.int .i64 z1,.string z4,.int .i64 0,.slice (some ⟨w42.heap.size+1,0,none⟩) 4 4] 25))
   have XR43a3:=jD (XR43.out.alloc (Obj.cells #[.int .i64 2,.int .i64 z1,.string z4,.int .i64 0,.slice (some ⟨w42.heap.size+1,0,none⟩) 4 4] 25))
   have XP43a3:=jD (XP43.out.alloc (Obj.cells #[.int .i64 2,.int .i64 z1,.string z4,.int .i64 0,.slice (some ⟨w42.heap.size+1,0,none⟩) 4 4] 25))
   have XQ43a3:=jD (XQ43.out.alloc (Obj.cells #[.int .i64 2,.int .i64 z1,.string z4,.int .i64 0,.slice (some ⟨w42.heap.size+1,0,none⟩) 4 4] 25))
   have G43a3:=jD (Gx.out.butt HLT.out (Butt.of_below A43.out.fix.lt (jN (Obj.cells #[.int .i64 2,.int .i64 z1,.string z4,.int .i64 0,.slice (some ⟨w42.heap.size+1,0,none⟩) 4 4] 25))))
   have PXX:=nR A43.out.fix.lt
   have XX43a3:=jD (Bx5.new w43 (.int .i64 2) (.int .i64 z1) (.string z4) (.int .i64 0) (.slice (some ⟨w42.heap.size+1,0,none⟩) 4 4))
   cases bi with
   |true=>
    go_wp2_with (go_at_call 52;refine jX (jbu A43a3.out [59] (by decide)) B43a3 XR43a3 HPR fun w44 A44 B44 XR44 hb44=>?_)
    have XP44:=jD (XP43a3.out.butt PXP.out hb44)
    have XQ44:=jD (XQ43a3.out.butt PXQ.out hb44)
    have XX44:=jbb XX43a3 PXX hb44
    have G44:=jD (G43a3.out.butt HLT.out hb44)
    clear hb44
    refine jD ?_
    obtain⟨yXX0,yXX1,yXX2,yXX3,yXX4,-,-⟩:=XX44.out
    have FT:=jD (jas HA0.out B44.out A44.out XR44.out (jrr _) (.int .i64 2) (.int .i64 z1) (.string z4) (.int .i64 0) (.slice (some ⟨w42.heap.size+1,0,none⟩) 4 4) _ rfl)
    have GX:=jD (((jac.mpr ⟨_,rfl,G44.out.kids⟩:synIn (offs w.heap.size [w.heap.size,w6.heap.size,w23.heap.size,w43.heap.size]) _ (.mk 2 z1 z4 0 [(.mk 3 z5 ⟨#[]⟩ 0 ps),(.mk 3 za ⟨#[]⟩ 0 rs),(.mk k41 a41 t41 n41 q41),(.mk k42 a42 t42 n42 q42)]) (.agg #[.int .i64 2,.int .i64 z1,.string z4,.int .i64 0,.slice (some ⟨w42.heap.size+1,0,none⟩) 4 4]))).kept (by simp) FT.out.2.2.2).at
    obtain⟨yXR0,yXR1,yXR2,yXR3,yXR4,fXR0,fXR1,fXR2,fXR3,fXR4⟩:=bF XR44.out
    obtain⟨r0,r1,r2,r3,r4⟩:=FT.out.1
    have GA:=jD FT.out.2.1;have GB:=jD FT.out.2.2.1
    clear FT
    go_wp2
    refine bodyPost_ret (by simp[results,Tryz.results21,go_sem,r0,r1,r2,r3,r4];rfl) rfl ?_
    exact⟨_,_,_,rfl,GX.out,HM.out _ _ _ _ _ _ _ _ _ _ [] _ HZ1.out HZ4.out HK1.out HK2.out HS41.out HS42.out (.inl ⟨HBI.out.symm,rfl,rfl⟩),GA.out,GB.out⟩
   |false=>
    go_wp2_with fail
    generalize w43.alloc (Obj.cells #[.int .i64 2,.int .i64 z1,.string z4,.int .i64 0,.slice (some ⟨w42.heap.size+1,0,none⟩) 4 4] 25)=wg1 at *
    go_wp2_with fail
    have AD:=jD (A43a3.out.below (Below.refl _ _).drew);have BD:=jD (B43a3.out.drew)
    have XRD:=jD (XR43a3.out.below (Below.refl _ _).drew)
    have XPD:=jD (XP43a3.out.below (Below.refl _ _).drew)
    have XQD:=jD (XQ43a3.out.below (Below.refl _ _).drew)
    have XXD:=jD (XX43a3.out.below (Below.refl _ _).drew)
    have GD:=jD (G43a3.out.butt HLT.out (Butt.refl R wg1).drew)
    have HPS:=jD ((by first|exact(fun p hp=>by simp only[List.mem_cons,List.not_mem_nil,or_false] at hp;have g0:=XRD.out.lt;have g1:=XPD.out.lt;have g2:=XQD.out.lt;have g3:=XXD.out.lt;omega)|simp):∀ p∈[w.heap.size,w6.heap.size,w23.heap.size,w43.heap.size],p<(wg1.drew).heap.size)
    have HLO:Hid (w.heap.size≤(wg1.drew).heap.size):=jD BD.out.size
    refine jaL (fun j=>j==7) (fun w'=>World.cell? w' ⟨w43.heap.size,4,none⟩=some (.slice (some ⟨w42.heap.size+1,0,none⟩) 4 4)) (by kernel_rfl) XXD.out.c4 (fun hHeld=>?_)
    generalize wg1.drew=wg2 at *
    refine ja0 (i:=0) (v:=?v1z) rfl (by kernel_rfl) (by kernel_rfl) (by kernel_rfl) rfl (by kernel_rfl) (by kernel_rfl) (fun _ _ _ h=>h) (Or.inl ⟨by rfl,?h1z⟩) (by assumption) ?r1z
    case h1z=>(intro w hSw;(try dsimp only at hSw);go_simp;try with_reducible rfl)
    (try simp only[Act.put,lA,lB,lC])
    refine ja0 (i:=1) (v:=?v2z) rfl (by kernel_rfl) (by kernel_rfl) (by kernel_rfl) rfl (by kernel_rfl) (by kernel_rfl) (fun _ _ _ h=>h) (Or.inl ⟨by rfl,?h2z⟩) (by assumption) ?r2z
    case h2z=>(intro w hSw;(try dsimp only at hSw);go_simp;try with_reducible rfl)
    (try simp only[Act.put,lA,lB,lC])
    refine ja0 (i:=2) (v:=?v3z) rfl (by kernel_rfl) (by kernel_rfl) (by kernel_rfl) rfl (by kernel_rfl) (by kernel_rfl) (fun _ _ _ h=>h) (Or.inl ⟨by rfl,?h3z⟩) (by assumption) ?r3z
    case h3z=>(intro w hSw;(try dsimp only at hSw);go_simp;try with_reducible rfl)
    (try simp only[Act.put,lA,lB,lC])
    refine jax (i:=3) rfl (by kernel_rfl) (fun K hK=>?_)
    go_simp
    go_wp2_with (go_at_call 56;refine(jj0 HDD.out HD.out _ AD.out).mono ?_;rintro e w44 ⟨x44,v44,s44,rfl,hx44,hs44,ha44,hb44⟩)
    obtain⟨k44,a44,t44,n44,o44,l44,c44,q44,rfl,rfl,hk44⟩:=hx44.shape
    have HS44:=jD hs44;have HSZ:=jD hb44.size
    have HZ:=jD (GD.out.off (jrr _) HLO.out HPS.out hx44)
    have A44:=jD ha44;have B44:=jtt BD hb44
    have XR44:=jbb XRD HPR hb44
    have XP44:=jD (XPD.out.butt PXP.out hb44)
    have XQ44:=jD (XQD.out.butt PXQ.out hb44)
    have XX44:=jbb XXD PXX hb44
    have G44:=jD (GD.out.butt HLT.out hb44)
    clear ha44 hb44 hx44 hk44 hs44
    have hHeld:=XX44.out.c4
    refine hK.out _ _ (fun _=>hHeld) ?_
    clear hK K
    (try simp only[Act.put,lA,lB,lC])
    refine jax (i:=4) rfl (by kernel_rfl) (fun K hK=>?_)
    go_simp
    have HZA:=jD (HZ.out.below (jN (Obj.cells #[.int .i64 k44,.int .i64 a44,.string t44,.int .i64 n44,.slice o44 l44 c44] 25)));have HBX:=jD (Bx5.new w44 (.int .i64 k44) (.int .i64 a44) (.string t44) (.int .i64 n44) (.slice o44 l44 c44))
    have HPA:=jD (fun p (hp:p∈[w.heap.size,w6.heap.size,w23.heap.size,w43.heap.size])=>Nat.lt_of_lt_of_le (HPS.out p hp) (Nat.le_trans HSZ.out (by simp:w44.heap.size≤(w44.alloc (Obj.cells #[.int .i64 k44,.int .i64 a44,.string t44,.int .i64 n44,.slice o44 l44 c44] 25)).heap.size)))
    have A44a4:=jD (A44.out.alloc (Obj.cells #[.int .i64 k44,.int .i64 a44,.string t44,.int .i64 n44,.slice o44 l44 c44] 25));have B44a4:=jD (B44.out.alloc HRW.out (Obj.cells #[.int .i64 k44,.int .i64 a44,.string t44,.int .i64 n44,.slice o44 l44 c44] 25))
    have XR44a4:=jD (XR44.out.alloc (Obj.cells #[.int .i64 k44,.int .i64 a44,.string t44,.int .i64 n44,.slice o44 l44 c44] 25))
    have XP44a4:=jD (XP44.out.alloc (Obj.cells #[.int .i64 k44,.int .i64 a44,.string t44,.int .i64 n44,.slice o44 l44 c44] 25))
    have XQ44a4:=jD (XQ44.out.alloc (Obj.cells #[.int .i64 k44,.int .i64 a44,.string t44,.int .i64 n44,.slice o44 l44 c44] 25))
    have XX44a4:=jD (XX44.out.alloc (Obj.cells #[.int .i64 k44,.int .i64 a44,.string t44,.int .i64 n44,.slice o44 l44 c44] 25))
    have G44a4:=jD (G44.out.butt HLT.out (Butt.of_below A44.out.fix.lt (jN (Obj.cells #[.int .i64 k44,.int .i64 a44,.string t44,.int .i64 n44,.slice o44 l44 c44] 25))))
    have hHeld:=XX44a4.out.c4
    refine hK.out _ _ (fun _=>hHeld) ?_
    clear hK K
    (try simp only[Act.put,lA,lB,lC])
    refine jax (i:=5) rfl (by kernel_rfl) (fun K hK=>?_)
    refine jbT (lo:=w.heap.size) (ps:=[w.heap.size,w6.heap.size,w23.heap.size,w43.heap.size]) (xs:=[(.mk 3 z5 ⟨#[]⟩ 0 ps),(.mk 3 za ⟨#[]⟩ 0 rs),(.mk k41 a41 t41 n41 q41),(.mk k42 a42 t42 n42 q42)]) (v:=.slice (some ⟨w42.heap.size+1,0,none⟩) 4 4) rfl (.tmp 63) (.tmp 66) rfl (by simp[Act.eval,Act.put]) G44a4.out (by simp) B44a4.out.size HPA.out w44.heap.size (.mk k44 a44 t44 n44 q44) (.int .i64 k44) (.int .i64 a44) (.string t44) (.int .i64 n44) (.slice o44 l44 c44) (by simp[Act.eval,Act.put]) HZA.out ⟨rfl,rfl,rfl,rfl,rfl⟩ HBX.out ?_
    intro v9 ao9 cap9 w9 hv9 ho9 hg9
    replace hv9:v9 = .slice ao9 (5) cap9:=hv9
    subst hv9
    have hgr:=Rf.grow HA0.out A44a4.out B44a4.out (G44a4.out.below B44a4.out.size hg9)
    have A9:=jD hgr.1;have B9:=jD hgr.2;clear hgr
    have XR9:=jD (G44a4.out.box (by simp) hg9 XR44a4.out)
    have XP9:=jD (G44a4.out.box (by simp) hg9 XP44a4.out)
    have XQ9:=jD (G44a4.out.box (by simp) hg9 XQ44a4.out)
    have XX9:=jD (G44a4.out.box (by simp) hg9 XX44a4.out)
    have G9:=jD ho9;clear ho9 hg9 HZ HZA HBX HPA
    have hHeld:=XX9.out.c4
    refine hK.out _ _ (fun _=>hHeld) ?_
    clear hK K
    (try simp only[Act.put,lA,lB,lC])
    refine jbK (i:=6) (v:=?v4z) rfl (by kernel_rfl) (by kernel_rfl) (by kernel_rfl) rfl (fun _ _ _ h=>h) (Or.inl ⟨by rfl,?h4z⟩) (by assumption) ?r4z
    case h4z=>(intro w _;go_simp;try with_reducible rfl)
    (try simp only[Act.put,lA,lB,lC])
    refine jax (i:=7) rfl (by kernel_rfl) (fun K hK=>?_)
    have q0:=XX9.out.c4;have q1:=XX9.out.free 4;have q2:=XX9.out.lt
    go_simp
    refine hK.out _ _ (fun h=>by cases h) ?_
    clear hK K q0 q1 q2 hHeld
    refine jbo (by kernel_rfl) ?_ _
    have SN:=Rf.setNew HA0.out B9.out A9.out (w43.heap.size) 4 (Nat.le_of_lt LX.out) (.slice ao9 (5) cap9)
    have Af1:=jD SN.1;have Bf1:=jD SN.2;clear SN
    have XRf1:=jD (XR9.out.setO (q:=w43.heap.size) (j:=4) (Nat.ne_of_lt LX.out) (.slice ao9 (5) cap9))
    have XPf1:=jD (XP9.out.setO (q:=w43.heap.size) (j:=4) (Nat.ne_of_lt LPX.out) (.slice ao9 (5) cap9))
    have XQf1:=jD (XQ9.out.setO (q:=w43.heap.size) (j:=4) (Nat.ne_of_lt LQX.out) (.slice ao9 (5) cap9))
    have Gf1:=jD (G9.out.kept (by simp) ((Kept.refl (·≠w43.heap.size) w9).setCell ⟨w43.heap.size,4,none⟩ (fun h=>h rfl) (.slice ao9 (5) cap9)))
    have XXf1:=jD (XX9.out.set4 (.slice ao9 (5) cap9))
    obtain⟨yXX0,yXX1,yXX2,yXX3,yXX4,-,-⟩:=XXf1.out
    have FT:=jD (jas HA0.out Bf1.out Af1.out XRf1.out (jrr _) (.int .i64 2) (.int .i64 z1) (.string z4) (.int .i64 0) (.slice ao9 5 cap9) _ rfl)
    have GX:=jD (((jac.mpr ⟨_,rfl,Gf1.out.kids⟩:synIn (offs w.heap.size [w.heap.size,w6.heap.size,w23.heap.size,w43.heap.size]) _ (.mk 2 z1 z4 0 ([(.mk 3 z5 ⟨#[]⟩ 0 ps),(.mk 3 za ⟨#[]⟩ 0 rs),(.mk k41 a41 t41 n41 q41),(.mk k42 a42 t42 n42 q42)]++[(.mk k44 a44 t44 n44 q44)])) (.agg #[.int .i64 2,.int .i64 z1,.string z4,.int .i64 0,.slice ao9 5 cap9]))).kept (by simp) FT.out.2.2.2).at
    obtain⟨yXR0,yXR1,yXR2,yXR3,yXR4,fXR0,fXR1,fXR2,fXR3,fXR4⟩:=bF XRf1.out
    obtain⟨r0,r1,r2,r3,r4⟩:=FT.out.1
    have GA:=jD FT.out.2.1;have GB:=jD FT.out.2.2.1
    clear FT
    go_wp2
    refine bodyPost_ret (by simp[results,Tryz.results21,go_sem,r0,r1,r2,r3,r4];rfl) rfl ?_
    exact⟨_,_,_,rfl,GX.out,HM.out _ _ _ _ _ _ _ _ _ _ [(.mk k44 a44 t44 n44 q44)] _ HZ1.out HZ4.out HK1.out HK2.out HS41.out HS42.out (.inr ⟨HBI.out.symm,HS44.out⟩),GA.out,GB.out⟩
end Go.Proofs.YtenmmmdnpglkoaaGreatDoor
