import Derived.Test.YtenmmmdnpglkoaaGreatDoorCut25
set_option linter.unusedSimpArgs false
set_option linter.unusedVariables false
set_option maxRecDepth 100000
set_option maxHeartbeats 8000000
/-
 The reference's reader: arguments, records, conditions behind words.
-/
namespace Go.Proofs.YtenmmmdnpglkoaaGreatDoor
open Go Go.Proofs Go.RowKit Go.Sort
def jir (d:Nat):Rd (List Syn):=jae (jaB [41] (.lvl 4) d) fun p=>jae (jaA [41]) fun _=>mRet p
section
variable {L l:List Tk} {d:Nat} {st s:RSt} {xs:List Syn}
theorem jfS (hf:l≠[]) (hc:pIs [41] l=true):Run (jir d) (.ok l) [] (.ok (pTl l)):=
 .inl ⟨pTl l,rfl,jaJ hf,jat l,0,fun f _=>by unfold jir jae jaB jaA mRet;simp only[if_pos hc,jak]⟩
theorem jhH (hL:TkL L) (hf:st.fine) (hc:rIs st [41]=false) (hx:Stp (.list (.lvl 4)) d st xs s):Run (jir d) st xs (jad (rIs s [41]) s):=by
 have hr:=jco (L:=L) (s:=[41]) hf (.inr ⟨(jbS hL (c:=[41]) (by decide)).trans hc,hx⟩)
 rw[←jbR (L:=L)]
 have hs:=Run.fine hr hf
 exact Run.bind hr (Run.bind (jaI (L:=L) hs [41]) (ja1 (jah hs)))
end
abbrev QR (R:Nat) (L:List Tk) (m:Rd (List Syn)) (d:Nat) (st:RSt) (W:World):Ending→World→Prop:=fun e W'=>
 ∃ xs v st',e = .returned v∧ownT W.heap.size W' xs v∧Run m st xs st'∧Rf R L W' d st'∧Butt R W W'
theorem jmr {R:Nat} {L:List Tk} {d:Nat} {st:RSt} {w:World} (h:Rf R L w d st) (hd:d≤64) :
  Calls Tryz.prog 120 #[.pointer (some ⟨R,0,none⟩)] w (QR R L (jir d) d st w):=by
 have HTL:=jD h.fix.toks.toks
 have HD:=jD hd
 have HFI:=jD h.fine
 have CT:=fun W (H:Rf R L W d st)=>jbD H [41] (by decide)
 cases hb:rIs st [41] with
 |true=>
  obtain⟨l,rfl,hp⟩:=jbx hb
  rw[hb] at CT;simp only[if_true] at CT
  have HM:=jD (jfS (d:=d) HFI hp)
  have KT:=jD CT
  have HA0:=jD h
  have HLT:=jD h.fix.lt;have HRW:=jD h.fix.lt
  have A0:=jD h;have B0:=jD (Butt.refl R w)
  clear h CT hb hp hd
  go_enter Tryz.func120,Tryz.ntmps120
  go_wp2_with (go_at_call 51;refine cM (KT.out _ A0) ?_;rintro e w1 ⟨rfl,ha1,hb1⟩)
  have A1:=jD ha1;have B1:=jtt B0 hb1
  clear ha1 hb1
  refine jD ?_
  go_wp2
  go_ret
  exact⟨[],_,_,rfl,ownT.nil _ _,HM.out,A1.out,B1.out⟩
 |false=>
  rw[hb] at CT;simp only[Bool.false_eq_true,if_false] at CT
  have HBB0:=jD hb
  have KT0:=jD CT
  have HA0:=jD h
  have HLT:=jD h.fix.lt;have HRW:=jD h.fix.lt
  have A0:=jD h;have B0:=jD (Butt.refl R w)
  clear h CT hb hd
  go_enter Tryz.func120,Tryz.ntmps120
  go_wp2_with (go_at_call 51;refine cM (KT0.out _ A0) ?_;rintro e w1 ⟨rfl,ha1,hb1⟩)
  have A1:=jD ha1;have B1:=jtt B0 hb1
  clear ha1 hb1
  refine jD ?_
  go_wp2_with fail
  have HLP:Hid (LstRf R L w d st (.lvl 4) w1 true st [] (.slice none 0 0)):=jD ⟨A1.out,B1.out,ownT.nil _ _,Nat.zero_le _,jrr _,fun _=>by simp only[List.length_nil];omega,fun _ ys s' hs=>hs,fun e=>by cases e⟩
  go_loopw [3,4] (fun v m wr=>∃ (mb:Bool) (s:RSt) (xs:List Syn) (ao:Option Addr) (c:Nat),v = .slice ao xs.length c∧m = .bool mb∧LstRf R L w d st (.lvl 4) wr mb s xs v) (fun _ m wr=>meaR R L m wr)
  case atStart=>exact⟨true,_,[],none,0,rfl,rfl,HLP.out⟩
  case round=>
   obtain⟨mb,s,xs,ao,c,rfl,rfl,hrel⟩:=hrel
   cases mb with
   |false=>
    have HR:=jD hrel;have A0:=jD hrel.hat;have B0:=jD hrel.hb;have OW:=jD hrel.own
    clear hrel
    go_wp2_with (go_at_call 52;refine cM (jbu A0 [41] (by decide)) ?_;rintro e w1 ⟨rfl,ha1,hb1⟩)
    have A1:=jD ha1;have B1:=jtt B0 hb1
    have OW1:=jD (OW.out.keep (jrr _) (hb1.froms HLT))
    clear ha1 hb1
    refine jD ?_
    go_wp2
    go_ret
    exact⟨xs,_,_,rfl,OW1.out,jhH HTL HFI HBB0 (HR.out.over (.inl rfl)),A1.out,B1.out⟩
   |true=>
    cases s with
    |bad ea ee=>
     obtain⟨ze,y3,t3,t4⟩:=hrel.hat.err1
     have HR:=jD hrel;have A0:=jD hrel.hat;have B0:=jD hrel.hb;have OW:=jD hrel.own
     clear hrel
     go_wp2_with (go_at_call 52;refine cM (jbu A0 [41] (by decide)) ?_;rintro e w1 ⟨rfl,ha1,hb1⟩)
     have A1:=jD ha1;have B1:=jtt B0 hb1
     have OW1:=jD (OW.out.keep (jrr _) (hb1.froms HLT))
     clear ha1 hb1
     refine jD ?_
     go_wp2
     go_ret
     exact⟨xs,_,_,rfl,OW1.out,jhH HTL HFI HBB0 (HR.out.over (.inr rfl)),A1.out,B1.out⟩
    |ok l=>
    have y3:=hrel.hat.err0;have hfl:l≠[]:=hrel.hat.fine;have HFL:=jD hfl;clear hfl
    have HR:=jD hrel;have A0:=jD hrel.hat;have B0:=jD hrel.hb;have OW:=jD hrel.own
    clear hrel
    go_wp2_with (go_at_call 23;refine cM (jc2 HD _ A0) ?_;rintro e w1 ⟨x1,v1,s1,rfl,hx1,hs1,ha1,hb1⟩)
    obtain⟨k1,a1,t1,n1,o1,l1,c1,q1,rfl,rfl,hk1⟩:=hx1.shape
    have HOFF:=jD (OW.out.off (jrr _) hx1 B0.out.size)
    have HS1:=jD hs1
    have TR1:=jD (synIn.of (l2:=w.heap.size) (ps:=[]) hx1 (Nat.le_trans (jrr _) B0.out.size) (by simp))
    have A1:=jD ha1;have B1:=jtt B0 hb1
    have OW1:=jD (OW.out.keep (jrr _) (hb1.froms HLT))
    clear ha1 hb1 hx1 hk1 hs1
    refine jD ?_
    have HZ:=jD ((HOFF.out).below (jN (jO k1 a1 t1 n1 o1 l1 c1)))
    have A1a:=jD (A1.out.alloc (jO k1 a1 t1 n1 o1 l1 c1));have B1a:=jD (B1.out.alloc HRW (jO k1 a1 t1 n1 o1 l1 c1))
    have OW1a:=jD (OW1.out.keep (jrr _) (From.of_below (jN (jO k1 a1 t1 n1 o1 l1 c1))))
    have HRA:=jD HA0.out.rem;have HL1:Hid (xs.length≤1200000):=jD (by have:=HR.out.len;have:=HRA.out;omega)
    have HB1:Hid (w.heap.size≤(w1.alloc (jO k1 a1 t1 n1 o1 l1 c1)).heap.size):=jD B1a.out.size
    have CT:=fun W (H:Rf R L W d s1)=>jbD H [44] (by decide)
    cases hb:rIs s1 [44] with
    |true=>
     rw[hb] at CT
     simp only[if_true] at CT
     have KT:=jD CT;have HBB:=jD hb;clear CT hb
     go_wp2_with (first|(at_builtin;refine jag rfl (.tmp 17) (.tmp 20) rfl w.heap.size _ xs (by simp[Act.eval,Act.put]) OW1a HL1 HB1 w1.heap.size (.mk k1 a1 t1 n1 q1) _ _ _ _ _ (by simp[Act.eval,Act.put]) HZ ⟨rfl,rfl,rfl,rfl,rfl⟩ (by go_cell) (by go_cell) (by go_cell) (by go_cell) (by go_cell) ?_;intro v9 ao9 cap9 w9 hv9 ho9 hg9;refine Hid.out ?_)|fail)
     subst hv9
     have hgr:=Rf.grow HA0 A1a B1a (jap hg9 (fun b e=>(OW1a.out.lo b e).1) HLT HB1)
     have AG:=jD hgr.1;have BG:=jD hgr.2;have OG:=jD ho9;clear hgr ho9 hg9
     refine jD ?_
     go_wp2_with (go_at_call 51;refine cM (KT.out _ AG) ?_;rintro e w8 ⟨rfl,ha8,hb8⟩)
     have A8:=jD ha8;have B8:=jtt BG hb8;have OW8:=jD (OG.out.keep (jrr _) (hb8.froms HLT));clear ha8 hb8
     refine jD ?_
     have HNX:=jD (LstRf.more HTL HR (HS1.out) AG OW8 HBB A8 B8)
     go_wp2
     go_roundw
     case rel=>exact⟨true,_,xs++[(.mk k1 a1 t1 n1 q1)],ao9,cap9,by rw[List.length_append];rfl,rfl,HNX.out.1⟩
     case measure=>
      have g1:=jbw HR.out.hat
      have g2:=jb2 HNX.out.1.hat
      have g3:=HNX.out.2
      show remR R L w8+1<remR R L wr+1
      omega
    |false=>
     rw[hb] at CT
     simp only[Bool.false_eq_true,if_false] at CT
     have KT:=jD CT;have HBB:=jD hb;clear CT hb
     go_wp2_with (first|(at_builtin;refine jag rfl (.tmp 17) (.tmp 20) rfl w.heap.size _ xs (by simp[Act.eval,Act.put]) OW1a HL1 HB1 w1.heap.size (.mk k1 a1 t1 n1 q1) _ _ _ _ _ (by simp[Act.eval,Act.put]) HZ ⟨rfl,rfl,rfl,rfl,rfl⟩ (by go_cell) (by go_cell) (by go_cell) (by go_cell) (by go_cell) ?_;intro v9 ao9 cap9 w9 hv9 ho9 hg9;refine Hid.out ?_)|fail)
     subst hv9
     have hgr:=Rf.grow HA0 A1a B1a (jap hg9 (fun b e=>(OW1a.out.lo b e).1) HLT HB1)
     have AG:=jD hgr.1;have BG:=jD hgr.2;have OG:=jD ho9;clear hgr ho9 hg9
     refine jD ?_
     go_wp2_with (go_at_call 51;refine cM (KT.out _ AG) ?_;rintro e w8 ⟨rfl,ha8,hb8⟩)
     have A8:=jD ha8;have B8:=jtt BG hb8;have OW8:=jD (OG.out.keep (jrr _) (hb8.froms HLT));clear ha8 hb8
     refine jD ?_
     have HNX:=jD (LstRf.last HTL HR HFL (HS1.out) OW8 HBB A8 B8)
     go_wp2
     go_roundw
     case rel=>exact⟨false,_,xs++[(.mk k1 a1 t1 n1 q1)],ao9,cap9,by rw[List.length_append];rfl,rfl,HNX.out⟩
     case measure=>show 0<remR R L wr+1;omega
section
variable {α : Type} {m:Rd α} {L l:List Tk} {d:Nat} {st s s1 s2 s3 s4:RSt} {x y:α} {xs:List Syn} {t:Syn} {z:Int} {z2:ByteArray} {c:List UInt8} {can:Bool}
theorem Run.swap (h:Run m st x s) (he:∀ l,s = .ok l→x=y):Run m st y s:=by
 cases st with
 |bad a e=>exact h
 |ok l=>
  rcases h with ⟨l',rfl,h⟩|h
  ·obtain rfl:=he l' rfl
   exact .inl ⟨l',rfl,h⟩
  ·exact .inr h
theorem Run.ok_of (h:Run m st x s) (he:∃ l,s = .ok l):∃ l,st = .ok l:=by
 cases st with
 |bad a e=>obtain⟨l,e2⟩:=he;rw[show s = .bad a e from h] at e2;cases e2
 |ok l=>exact⟨l,rfl⟩
theorem jbs (he:∃ l,jad can st = .ok l):∃ l,st = .ok l∧can=true:=by
 cases st with
 |bad a e=>obtain⟨l,e2⟩:=he;cases e2
 |ok l=>
  cases can with
  |true=>exact⟨l,rfl,rfl⟩
  |false=>obtain⟨l,e2⟩:=he;cases e2
theorem jbi (hf:st.fine) (c:List UInt8):Run (jaA c) st (tokM [] st (tIs [] st ⟨c.toArray⟩)) (jad (rIs st c) st):=by
 rw[←jbR (L:=[])]
 exact jaI (L:=[]) hf c
theorem jdK (hf:st.fine):Run jbd st (tokM [] st (isN (cur [] st))) (jad (rNm st) st):=by
 have h:=jda (L:=[]) hf
 cases st with
 |bad a e=>exact h
 |ok l=>rw[jbW] at h ⊢;exact h
theorem jeQ (hf:st.fine) (hz:hasA st z) (hc:rIs st c=false):Run (jaN c d) st (.mk 5 z ⟨#[]⟩ 0 []) st:=by
 cases st with
 |bad a e=>exact rfl
 |ok l=>
  obtain rfl:=hz l rfl
  have hc:pIs c l=false:=hc
  exact .inl ⟨l,rfl,hf,jrr _,0,fun f _=>by unfold jaN jae jbm mIs;simp only[jak,hc,Bool.false_eq_true,if_false];rfl⟩
theorem jeh (hf:l≠[]) (hz:hasA (.ok l) z) (hc:pIs c l=true) (hx:Stp (.lvl 0) d (.ok (pTl l)) [t] s):Run (jaN c d) (.ok l) (.mk 5 z ⟨#[]⟩ 0 [t]) s:=by
 obtain rfl:=hz l rfl
 have h1:Run (mIs c) (.ok l) true (.ok l):=.inl ⟨l,rfl,hf,jrr _,0,fun f _=>by unfold mIs;rw[hc]⟩
 have h2:=Run.fine hx (jaJ hf)
 exact Run.bind (jby (L:=[]) hf) (Run.bind h1 (Run.ite (fun _=>Run.bind (jaS (L:=[]) hf) (Run.bind hx (ja1 h2))) (fun g=>absurd rfl g)))
theorem jis (hf:st.fine) (hz:hasA st z) (h1:s1=jad (rIs st jaT) st) (ht:hasT s1 z2) (h2:s2=jad (rNm s1) s1) (h3:s3=jad (rIs s2 [123]) s2) (hx:Stp (.list .bare) d s3 xs s4):Stp .record d st [.mk 1 z z2 0 xs] (jad (rIs s4 [125]) s4):=by
 subst h1
 have f1:=jah (can:=rIs st jaT) hf
 subst h2
 have f2:=jah (can:=rNm (jad (rIs st jaT) st)) f1
 subst h3
 have f3:=jah (can:=rIs (jad (rNm (jad (rIs st jaT) st)) (jad (rIs st jaT) st)) [123]) f2
 have f4:=Run.fine hx f3
 refine jgx (Run.swap (Run.bind (jbi hf jaT) (Run.bind (jdK f1) (Run.bind (jbi f2 [123]) (Run.bind hx (Run.bind (jbi f4 [125]) (ja1 (jah f4))))))) fun l e=>?_)
 obtain⟨l4,e4,-⟩:=jbs ⟨l,e⟩
 obtain⟨l3,e3⟩:=Run.ok_of hx ⟨l4,e4⟩
 obtain⟨l2,e2,-⟩:=jbs ⟨l3,e3⟩
 obtain⟨l1,e1,c1⟩:=jbs ⟨l2,e2⟩
 obtain⟨l0,rfl,c0⟩:=jbs ⟨l1,e1⟩
 have g1:=ht l1 e1 c1
 have g0:=hz l0 rfl
 rw[e1] at c1 ⊢
 have hc1:ja5 (pHd l1)=true:=c1
 have hc0:pIs jaT l0=true:=c0
 rw[jbW,hc1,jaP,hc0,g1,g0]
 rfl
end
abbrev QS (R:Nat) (L:List Tk) (m:Rd Syn) (d:Nat) (st:RSt) (W:World):Ending→World→Prop:=fun e W'=>
 ∃ x v st',e = .returned v∧synAt W.heap.size W' x v∧Run m st x st'∧Rf R L W' d st'∧Butt R W W'
theorem jfg {R:Nat} {L:List Tk} {d:Nat} {st:RSt} {w:World} (h:Rf R L w d st) (hd:d≤64) :
  Calls Tryz.prog 55 #[.pointer (some ⟨R,0,none⟩),.string ⟨#[114,101,113,117,105,114,101,115]⟩] w (QS R L (jaN jb1 d) d st w):=by
 have hfi:=h.fine
 have HD:=jD hd
 have CH:=fun W (H:Rf R L W d st)=>jcy H
 have CT:=fun W (H:Rf R L W d st)=>jbD H [114,101,113,117,105,114,101,115] (by decide)
 cases hb:rIs st [114,101,113,117,105,114,101,115] with
 |false=>
  rw[hb] at CT;simp only[Bool.false_eq_true,if_false] at CT
  have HM:=jD (fun z hz=>jeQ (d:=d) (z:=z) hfi hz hb)
  have KH:=jD CH;have KT:=jD CT
  have HA0:=jD h
  have HLT:=jD h.fix.lt;have HRW:=jD h.fix.lt
  have A0:=jD (h.alloc jZ);obtain⟨B0,XR0,HPR,HLS⟩:=jS h.fix.lt
  clear h CH CT hb hfi hd
  go_enter Tryz.func55,Tryz.ntmps55
  go_wp2_with (go_at_call 48;refine cM (KH.out _ A0) ?_;rintro e w1 ⟨z1,rfl,hz1,ha1,hb1⟩)
  have HZ1:=jD hz1
  have A1:=jD ha1;have B1:=jtt B0 hb1
  have XR1:=jbb XR0 HPR hb1
  clear ha1 hb1 hz1
  refine jD ?_
  go_wp2_with (go_at_call 47;refine cM (jam _ _ _ _ _ _ _) ?_;rintro e w2 ⟨rfl,hbl2⟩)
  have ha2:=A1.out.below hbl2;have hb2:=Butt.of_below (R:=R) A1.out.fix.lt hbl2;clear hbl2
  have A2:=jD ha2;have B2:=jtt B1 hb2
  have XR2:=jbb XR1 HPR hb2
  clear ha2 hb2
  refine jD ?_
  have A2a:=jD (A2.out.alloc (Obj.cells #[.int .i64 5,.int .i64 z1,.string ⟨#[]⟩,.int .i64 0,.slice none 0 0] 25));have B2a:=jD (B2.out.alloc HRW (Obj.cells #[.int .i64 5,.int .i64 z1,.string ⟨#[]⟩,.int .i64 0,.slice none 0 0] 25))
  have XR2a:=jD (XR2.out.alloc (Obj.cells #[.int .i64 5,.int .i64 z1,.string ⟨#[]⟩,.int .i64 0,.slice none 0 0] 25))
  have HLTQ:Hid (w.heap.size<w2.heap.size):=jD XR2.out.lt
  have PXX:=nR A2.out.fix.lt
  have XX2a:=jD (Bx5.new w2 (.int .i64 5) (.int .i64 z1) (.string ⟨#[]⟩) (.int .i64 0) (.slice none 0 0))
  go_wp2_with (go_at_call 51;refine jX (KT.out _ A2a) B2a XR2a HPR fun w3 A3 B3 XR3 hb3=>?_)
  have XX3:=jbb XX2a PXX hb3
  clear hb3
  refine jD ?_
  obtain⟨yXX0,yXX1,yXX2,yXX3,yXX4,-,-⟩:=XX3.out
  have FT:=jD (jas HA0 B3 A3 XR3 (jrr _) (.int .i64 5) (.int .i64 z1) (.string ⟨#[]⟩) (.int .i64 0) (.slice none 0 0) _ rfl)
  have GX:=jD (((jac.mpr ⟨_,rfl,Or.inl ⟨rfl,rfl⟩⟩:synIn (offs w.heap.size [w.heap.size]) w3 (.mk 5 z1 ⟨#[]⟩ 0 []) _)).kept (by simp) FT.out.2.2.2).at
  obtain⟨yXR0,yXR1,yXR2,yXR3,yXR4,fXR0,fXR1,fXR2,fXR3,fXR4⟩:=bF XR3
  obtain⟨r0,r1,r2,r3,r4⟩:=FT.out.1
  have GA:=jD FT.out.2.1;have GB:=jD FT.out.2.2.1
  clear FT
  go_wp2
  refine bodyPost_ret (by simp[results,Tryz.results55,go_sem,r0,r1,r2,r3,r4];rfl) rfl ?_
  exact⟨_,_,_,rfl,GX.out,HM.out _ HZ1,GA.out,GB.out⟩
 |true=>
  obtain⟨l,rfl,hp⟩:=jbx hb
  rw[hb] at CT;simp only[if_true] at CT
  have CH:=fun W (H:Rf R L W d (.ok l))=>jbQ H
  have HM:=jD (fun x s' hx=>jeh (c:=jb1) (z:=(pHd l).a) (d:=d) (t:=x) (s:=s') hfi (fun l' e=>by cases e;rfl) hp hx)
  generalize (pHd l).a=pa at *
  have KH:=jD CH;have KT:=jD CT
  have HA0:=jD h
  have HLT:=jD h.fix.lt;have HRW:=jD h.fix.lt
  have A0:=jD (h.alloc jZ);obtain⟨B0,XR0,HPR,HLS⟩:=jS h.fix.lt
  clear h CH CT hb hfi hd hp
  go_enter Tryz.func55,Tryz.ntmps55
  go_wp2_with (go_at_call 48;refine jR (KH.out _ A0) B0 XR0 HPR fun w1 A1 B1 XR1=>?_)
  refine jD ?_
  go_wp2_with (go_at_call 47;refine cM (jam _ _ _ _ _ _ _) ?_;rintro e w2 ⟨rfl,hbl2⟩)
  have ha2:=A1.out.below hbl2;have hb2:=Butt.of_below (R:=R) A1.out.fix.lt hbl2;clear hbl2
  have A2:=jD ha2;have B2:=jtt B1 hb2
  have XR2:=jbb XR1 HPR hb2
  clear ha2 hb2
  refine jD ?_
  have A2a:=jD (A2.out.alloc (Obj.cells #[.int .i64 5,.int .i64 pa,.string ⟨#[]⟩,.int .i64 0,.slice none 0 0] 25));have B2a:=jD (B2.out.alloc HRW (Obj.cells #[.int .i64 5,.int .i64 pa,.string ⟨#[]⟩,.int .i64 0,.slice none 0 0] 25))
  have XR2a:=jD (XR2.out.alloc (Obj.cells #[.int .i64 5,.int .i64 pa,.string ⟨#[]⟩,.int .i64 0,.slice none 0 0] 25))
  have HLTQ:Hid (w.heap.size<w2.heap.size):=jD XR2.out.lt
  have PXX:=nR A2.out.fix.lt
  have XX2a:=jD (Bx5.new w2 (.int .i64 5) (.int .i64 pa) (.string ⟨#[]⟩) (.int .i64 0) (.slice none 0 0))
  go_wp2_with (go_at_call 51;refine jX (KT.out _ A2a) B2a XR2a HPR fun w3 A3 B3 XR3 hb3=>?_)
  have XX3:=jbb XX2a PXX hb3
  clear hb3
  refine jD ?_
  have AS:=jD (show Rf R L w3 d (.ok (pTl l)) from A3)
  go_wp2_with (go_at_call 22;refine cM (jcv HD _ AS) ?_;rintro e w4 ⟨x4,v4,s4,rfl,hx4,hs4,ha4,hb4⟩)
  obtain⟨k4,a4,t4,n4,o4,l4,c4,q4,rfl,rfl,hk4⟩:=hx4.shape
  have HS4:=jD hs4
  have TR4:=jD (synIn.of (l2:=w.heap.size) (ps:=[w.heap.size,w2.heap.size]) hx4 (Nat.le_trans (jrr _) B3.out.size) (fun p hp=>by simp only[List.mem_cons,List.not_mem_nil,or_false] at hp;have g0:=XR3.out.lt;have g1:=XX3.out.lt;omega))
  have A4:=jD ha4;have B4:=jtt B3 hb4
  have XR4:=jbb XR3 HPR hb4
  have XX4:=jbb XX3 PXX hb4
  clear ha4 hb4 hx4 hk4 hs4
  refine jD ?_
  have hAw:offs w.heap.size [w.heap.size,w2.heap.size] w4.heap.size:=⟨B4.out.size,fun hp=>by have g0:=XR4.out.lt;have g1:=XX4.out.lt;simp only[List.mem_cons,List.not_mem_nil,or_false] at hp;omega⟩
  have KI:=jD (jaw (flatIn.one (TR4.out)) (by simp) hAw 1 rfl);clear hAw
  have A4a1:=jD (A4.out.alloc (jO k4 a4 t4 n4 o4 l4 c4));have B4a1:=jD (B4.out.alloc HRW (jO k4 a4 t4 n4 o4 l4 c4))
  have XR4a1:=jD (XR4.out.alloc (jO k4 a4 t4 n4 o4 l4 c4))
  have XX4a1:=jD (XX4.out.alloc (jO k4 a4 t4 n4 o4 l4 c4))
  have z_:=XX4a1.out;have yXX4f4b:=z_.c4;have fXX4f4b:=z_.free 4;clear z_
  have SN:=Rf.setNew HA0 B4a1 A4a1 (w2.heap.size) 4 (Nat.le_of_lt (HLTQ.out)) (.slice (some ⟨w4.heap.size,0,none⟩) 1 1)
  have A4f4:=jD SN.1;have B4f4:=jD SN.2;clear SN
  have XR4f4:=jD (XR4a1.out.setO (q:=w2.heap.size) (j:=4) (Nat.ne_of_lt HLTQ) (.slice (some ⟨w4.heap.size,0,none⟩) 1 1))
  have XX4f4:=jD (XX4a1.out.set4 (.slice (some ⟨w4.heap.size,0,none⟩) 1 1))
  have KS:=jD (KI.out.keep ⟨Nat.le_of_eq (by simp),fun k hk hl=>((Kept.refl (·≠w2.heap.size) (w4.alloc (jO k4 a4 t4 n4 o4 l4 c4))).setCell ⟨w2.heap.size,4,none⟩ (fun h=>h rfl) (.slice (some ⟨w4.heap.size,0,none⟩) 1 1)).block k (fun e=>hk.2 (by simp[e])) hl⟩ (fun k hk _=>hk))
  obtain⟨yXX0,yXX1,yXX2,yXX3,yXX4,-,-⟩:=XX4f4.out
  have FT:=jD (jas HA0 B4f4 A4f4 XR4f4 (jrr _) (.int .i64 5) (.int .i64 pa) (.string ⟨#[]⟩) (.int .i64 0) (.slice (some ⟨w4.heap.size,0,none⟩) 1 1) _ rfl)
  have GX:=jD (((jac.mpr ⟨_,rfl,KS.out⟩:synIn (offs w.heap.size [w.heap.size,w2.heap.size]) _ (.mk 5 pa ⟨#[]⟩ 0 [(.mk k4 a4 t4 n4 q4)]) _)).kept (by simp) FT.out.2.2.2).at
  obtain⟨yXR0,yXR1,yXR2,yXR3,yXR4,fXR0,fXR1,fXR2,fXR3,fXR4⟩:=bF XR4f4
  obtain⟨r0,r1,r2,r3,r4⟩:=FT.out.1
  have GA:=jD FT.out.2.1;have GB:=jD FT.out.2.2.1
  clear FT
  go_wp2
  refine bodyPost_ret (by simp[results,Tryz.results55,go_sem,r0,r1,r2,r3,r4];rfl) rfl ?_
  exact⟨_,_,_,rfl,GX.out,HM.out _ _ HS4,GA.out,GB.out⟩
theorem jfT {R:Nat} {L:List Tk} {d:Nat} {st:RSt} {w:World} (h:Rf R L w d st) (hd:d≤64) :
  Calls Tryz.prog 55 #[.pointer (some ⟨R,0,none⟩),.string ⟨#[101,110,115,117,114,101,115]⟩] w (QS R L (jaN jbN d) d st w):=by
 have hfi:=h.fine
 have HD:=jD hd
 have CH:=fun W (H:Rf R L W d st)=>jcy H
 have CT:=fun W (H:Rf R L W d st)=>jbD H [101,110,115,117,114,101,115] (by decide)
 cases hb:rIs st [101,110,115,117,114,101,115] with
 |false=>
  rw[hb] at CT;simp only[Bool.false_eq_true,if_false] at CT
  have HM:=jD (fun z hz=>jeQ (d:=d) (z:=z) hfi hz hb)
  have KH:=jD CH;have KT:=jD CT
  have HA0:=jD h
  have HLT:=jD h.fix.lt;have HRW:=jD h.fix.lt
  have A0:=jD (h.alloc jZ);obtain⟨B0,XR0,HPR,HLS⟩:=jS h.fix.lt
  clear h CH CT hb hfi hd
  go_enter Tryz.func55,Tryz.ntmps55
  go_wp2_with (go_at_call 48;refine cM (KH.out _ A0) ?_;rintro e w1 ⟨z1,rfl,hz1,ha1,hb1⟩)
  have HZ1:=jD hz1
  have A1:=jD ha1;have B1:=jtt B0 hb1
  have XR1:=jbb XR0 HPR hb1
  clear ha1 hb1 hz1
  refine jD ?_
  go_wp2_with (go_at_call 47;refine cM (jam _ _ _ _ _ _ _) ?_;rintro e w2 ⟨rfl,hbl2⟩)
  have ha2:=A1.out.below hbl2;have hb2:=Butt.of_below (R:=R) A1.out.fix.lt hbl2;clear hbl2
  have A2:=jD ha2;have B2:=jtt B1 hb2
  have XR2:=jbb XR1 HPR hb2
  clear ha2 hb2
  refine jD ?_
  have A2a:=jD (A2.out.alloc (Obj.cells #[.int .i64 5,.int .i64 z1,.string ⟨#[]⟩,.int .i64 0,.slice none 0 0] 25));have B2a:=jD (B2.out.alloc HRW (Obj.cells #[.int .i64 5,.int .i64 z1,.string ⟨#[]⟩,.int .i64 0,.slice none 0 0] 25))
  have XR2a:=jD (XR2.out.alloc (Obj.cells #[.int .i64 5,.int .i64 z1,.string ⟨#[]⟩,.int .i64 0,.slice none 0 0] 25))
  have HLTQ:Hid (w.heap.size<w2.heap.size):=jD XR2.out.lt
  have PXX:=nR A2.out.fix.lt
  have XX2a:=jD (Bx5.new w2 (.int .i64 5) (.int .i64 z1) (.string ⟨#[]⟩) (.int .i64 0) (.slice none 0 0))
  go_wp2_with (go_at_call 51;refine jX (KT.out _ A2a) B2a XR2a HPR fun w3 A3 B3 XR3 hb3=>?_)
  have XX3:=jbb XX2a PXX hb3
  clear hb3
  refine jD ?_
  obtain⟨yXX0,yXX1,yXX2,yXX3,yXX4,-,-⟩:=XX3.out
  have FT:=jD (jas HA0 B3 A3 XR3 (jrr _) (.int .i64 5) (.int .i64 z1) (.string ⟨#[]⟩) (.int .i64 0) (.slice none 0 0) _ rfl)
  have GX:=jD (((jac.mpr ⟨_,rfl,Or.inl ⟨rfl,rfl⟩⟩:synIn (offs w.heap.size [w.heap.size]) w3 (.mk 5 z1 ⟨#[]⟩ 0 []) _)).kept (by simp) FT.out.2.2.2).at
  obtain⟨yXR0,yXR1,yXR2,yXR3,yXR4,fXR0,fXR1,fXR2,fXR3,fXR4⟩:=bF XR3
  obtain⟨r0,r1,r2,r3,r4⟩:=FT.out.1
  have GA:=jD FT.out.2.1;have GB:=jD FT.out.2.2.1
  clear FT
  go_wp2
  refine bodyPost_ret (by simp[results,Tryz.results55,go_sem,r0,r1,r2,r3,r4];rfl) rfl ?_
  exact⟨_,_,_,rfl,GX.out,HM.out _ HZ1,GA.out,GB.out⟩
 |true=>
  obtain⟨l,rfl,hp⟩:=jbx hb
  rw[hb] at CT;simp only[if_true] at CT
  have CH:=fun W (H:Rf R L W d (.ok l))=>jbQ H
  have HM:=jD (fun x s' hx=>jeh (c:=jbN) (z:=(pHd l).a) (d:=d) (t:=x) (s:=s') hfi (fun l' e=>by cases e;rfl) hp hx)
  generalize (pHd l).a=pa at *
  have KH:=jD CH;have KT:=jD CT
  have HA0:=jD h
  have HLT:=jD h.fix.lt;have HRW:=jD h.fix.lt
  have A0:=jD (h.alloc jZ);obtain⟨B0,XR0,HPR,HLS⟩:=jS h.fix.lt
  clear h CH CT hb hfi hd hp
  go_enter Tryz.func55,Tryz.ntmps55
  go_wp2_with (go_at_call 48;refine jR (KH.out _ A0) B0 XR0 HPR fun w1 A1 B1 XR1=>?_)
  refine jD ?_
  go_wp2_with (go_at_call 47;refine cM (jam _ _ _ _ _ _ _) ?_;rintro e w2 ⟨rfl,hbl2⟩)
  have ha2:=A1.out.below hbl2;have hb2:=Butt.of_below (R:=R) A1.out.fix.lt hbl2;clear hbl2
  have A2:=jD ha2;have B2:=jtt B1 hb2
  have XR2:=jbb XR1 HPR hb2
  clear ha2 hb2
  refine jD ?_
  have A2a:=jD (A2.out.alloc (Obj.cells #[.int .i64 5,.int .i64 pa,.string ⟨#[]⟩,.int .i64 0,.slice none 0 0] 25));have B2a:=jD (B2.out.alloc HRW (Obj.cells #[.int .i64 5,.int .i64 pa,.string ⟨#[]⟩,.int .i64 0,.slice none 0 0] 25))
  have XR2a:=jD (XR2.out.alloc (Obj.cells #[.int .i64 5,.int .i64 pa,.string ⟨#[]⟩,.int .i64 0,.slice none 0 0] 25))
  have HLTQ:Hid (w.heap.size<w2.heap.size):=jD XR2.out.lt
  have PXX:=nR A2.out.fix.lt
  have XX2a:=jD (Bx5.new w2 (.int .i64 5) (.int .i64 pa) (.string ⟨#[]⟩) (.int .i64 0) (.slice none 0 0))
  go_wp2_with (go_at_call 51;refine jX (KT.out _ A2a) B2a XR2a HPR fun w3 A3 B3 XR3 hb3=>?_)
  have XX3:=jbb XX2a PXX hb3
  clear hb3
  refine jD ?_
  have AS:=jD (show Rf R L w3 d (.ok (pTl l)) from A3)
  go_wp2_with (go_at_call 22;refine cM (jcv HD _ AS) ?_;rintro e w4 ⟨x4,v4,s4,rfl,hx4,hs4,ha4,hb4⟩)
  obtain⟨k4,a4,t4,n4,o4,l4,c4,q4,rfl,rfl,hk4⟩:=hx4.shape
  have HS4:=jD hs4
  have TR4:=jD (synIn.of (l2:=w.heap.size) (ps:=[w.heap.size,w2.heap.size]) hx4 (Nat.le_trans (jrr _) B3.out.size) (fun p hp=>by simp only[List.mem_cons,List.not_mem_nil,or_false] at hp;have g0:=XR3.out.lt;have g1:=XX3.out.lt;omega))
  have A4:=jD ha4;have B4:=jtt B3 hb4
  have XR4:=jbb XR3 HPR hb4
  have XX4:=jbb XX3 PXX hb4
  clear ha4 hb4 hx4 hk4 hs4
  refine jD ?_
  have hAw:offs w.heap.size [w.heap.size,w2.heap.size] w4.heap.size:=⟨B4.out.size,fun hp=>by have g0:=XR4.out.lt;have g1:=XX4.out.lt;simp only[List.mem_cons,List.not_mem_nil,or_false] at hp;omega⟩
  have KI:=jD (jaw (flatIn.one (TR4.out)) (by simp) hAw 1 rfl);clear hAw
  have A4a1:=jD (A4.out.alloc (jO k4 a4 t4 n4 o4 l4 c4));have B4a1:=jD (B4.out.alloc HRW (jO k4 a4 t4 n4 o4 l4 c4))
  have XR4a1:=jD (XR4.out.alloc (jO k4 a4 t4 n4 o4 l4 c4))
  have XX4a1:=jD (XX4.out.alloc (jO k4 a4 t4 n4 o4 l4 c4))
  have z_:=XX4a1.out;have yXX4f4b:=z_.c4;have fXX4f4b:=z_.free 4;clear z_
  have SN:=Rf.setNew HA0 B4a1 A4a1 (w2.heap.size) 4 (Nat.le_of_lt (HLTQ.out)) (.slice (some ⟨w4.heap.size,0,none⟩) 1 1)
  have A4f4:=jD SN.1;have B4f4:=jD SN.2;clear SN
  have XR4f4:=jD (XR4a1.out.setO (q:=w2.heap.size) (j:=4) (Nat.ne_of_lt HLTQ) (.slice (some ⟨w4.heap.size,0,none⟩) 1 1))
  have XX4f4:=jD (XX4a1.out.set4 (.slice (some ⟨w4.heap.size,0,none⟩) 1 1))
  have KS:=jD (KI.out.keep ⟨Nat.le_of_eq (by simp),fun k hk hl=>((Kept.refl (·≠w2.heap.size) (w4.alloc (jO k4 a4 t4 n4 o4 l4 c4))).setCell ⟨w2.heap.size,4,none⟩ (fun h=>h rfl) (.slice (some ⟨w4.heap.size,0,none⟩) 1 1)).block k (fun e=>hk.2 (by simp[e])) hl⟩ (fun k hk _=>hk))
  obtain⟨yXX0,yXX1,yXX2,yXX3,yXX4,-,-⟩:=XX4f4.out
  have FT:=jD (jas HA0 B4f4 A4f4 XR4f4 (jrr _) (.int .i64 5) (.int .i64 pa) (.string ⟨#[]⟩) (.int .i64 0) (.slice (some ⟨w4.heap.size,0,none⟩) 1 1) _ rfl)
  have GX:=jD (((jac.mpr ⟨_,rfl,KS.out⟩:synIn (offs w.heap.size [w.heap.size,w2.heap.size]) _ (.mk 5 pa ⟨#[]⟩ 0 [(.mk k4 a4 t4 n4 q4)]) _)).kept (by simp) FT.out.2.2.2).at
  obtain⟨yXR0,yXR1,yXR2,yXR3,yXR4,fXR0,fXR1,fXR2,fXR3,fXR4⟩:=bF XR4f4
  obtain⟨r0,r1,r2,r3,r4⟩:=FT.out.1
  have GA:=jD FT.out.2.1;have GB:=jD FT.out.2.2.1
  clear FT
  go_wp2
  refine bodyPost_ret (by simp[results,Tryz.results55,go_sem,r0,r1,r2,r3,r4];rfl) rfl ?_
  exact⟨_,_,_,rfl,GX.out,HM.out _ _ HS4,GA.out,GB.out⟩
theorem jl2 {R:Nat} {L:List Tk} {d:Nat} {st:RSt} {w:World} (h:Rf R L w d st)  :
  Calls Tryz.prog 50 #[.pointer (some ⟨R,0,none⟩)] w (PF R L .record d st w):=by
 have hfi:=h.fine
 have HM:=jD (fun z z2 xs s4 hz ht hx=>jis (d:=d) (z:=z) (z2:=z2) (xs:=xs) (s4:=s4) hfi hz rfl ht rfl rfl hx)
 have CH:=fun W (H:Rf R L W d st)=>jcy H
 have KH:=jD CH
 have HA0:=jD h
 have HLT:=jD h.fix.lt;have HRW:=jD h.fix.lt
 have A0:=jD (h.alloc jZ);obtain⟨B0,XR0,HPR,HLS⟩:=jS h.fix.lt
 clear h CH hfi
 go_enter Tryz.func50,Tryz.ntmps50
 go_wp2_with (go_at_call 48;refine cM (KH.out _ A0) ?_;rintro e w1 ⟨z1,rfl,hz1,ha1,hb1⟩)
 have HZ1:=jD hz1
 have A1:=jD ha1;have B1:=jtt B0 hb1
 have XR1:=jbb XR0 HPR hb1
 clear ha1 hb1 hz1
 refine jD ?_
 go_wp2_with (go_at_call 52;refine jR (jbu A1 [114,101,99,111,114,100] (by decide)) B1 XR1 HPR fun w2 A2 B2 XR2=>?_)
 refine jD ?_
 go_wp2_with (go_at_call 53;refine cM (jfO A2) ?_;rintro e w3 ⟨z3,rfl,hz3,ha3,hb3⟩)
 have HZ3:=jD hz3
 have A3:=jD ha3;have B3:=jtt B2 hb3
 have XR3:=jbb XR2 HPR hb3
 clear ha3 hb3 hz3
 refine jD ?_
 go_wp2_with (go_at_call 52;refine jR (jbu A3 [123] (by decide)) B3 XR3 HPR fun w4 A4 B4 XR4=>?_)
 refine jD ?_
 go_wp2_with (go_at_call 84;refine cM (jmq A4) ?_;rintro e w5 ⟨x5,v5,s5,rfl,hx5,hn5,hs5,ha5,hb5⟩)
 obtain⟨o5,c5,rfl⟩:=hx5.slice
 have RW5:=jD (ownT.kidsIn (l2:=w.heap.size) (ps:=[w.heap.size]) hx5 (Nat.le_trans (jrr _) B4.out.size) (fun p hp=>by simp only[List.mem_cons,List.not_mem_nil,or_false] at hp;have g0:=XR4.out.lt;omega))
 have HS5:=jD hs5;have HN5:=jD hn5
 have A5:=jD ha5;have B5:=jtt B4 hb5
 have XR5:=jbb XR4 HPR hb5
 clear ha5 hb5 hx5 hs5 hn5
 refine jD ?_
 go_wp2_with (go_at_call 52;refine jX (jbu A5 [125] (by decide)) B5 XR5 HPR fun w6 A6 B6 XR6 hb6=>?_)
 have RW56:=jD (RW5.out.butt HLT hb6)
 clear hb6
 refine jD ?_
 go_wp2_with (go_at_call 47;refine cM (jam _ _ _ _ _ _ _) ?_;rintro e w7 ⟨rfl,hb7⟩)
 have hbx:=Butt.of_below (R:=R) A6.out.fix.lt hb7
 have ha7:Rf R L w7 _ _:=⟨A6.out.fix.butt hbx,A6.out.rs.below hb7⟩
 have TN:=jD (jac.mpr ⟨_,rfl,RW56.out.below hb7⟩:synIn (offs w.heap.size [w.heap.size]) w7 (.mk 1 z1 z3 0 x5) _)
 have hb7:=hbx;clear hbx
 have A7:=jD ha7;have B7:=jtt B6 hb7
 have XR7:=jbb XR6 HPR hb7
 clear ha7 hb7
 refine jD ?_
 have FT:=jD (jas HA0 B7 A7 XR7 (jrr _) (.int .i64 1) (.int .i64 z1) (.string z3) (.int .i64 0) (.slice o5 x5.length c5) _ rfl)
 have GX:=jD ((TN.out).kept (by simp) FT.out.2.2.2).at
 obtain⟨yXR0,yXR1,yXR2,yXR3,yXR4,fXR0,fXR1,fXR2,fXR3,fXR4⟩:=bF XR7
 obtain⟨r0,r1,r2,r3,r4⟩:=FT.out.1
 have GA:=jD FT.out.2.1;have GB:=jD FT.out.2.2.1
 clear FT
 go_wp2
 refine bodyPost_ret (by simp[results,Tryz.results50,go_sem,r0,r1,r2,r3,r4];rfl) rfl ?_
 exact⟨_,_,_,rfl,GX.out,HM.out _ _ _ _ HZ1 HZ3 HS5,GA.out,GB.out⟩
theorem jhl {R:Nat} {L:List Tk} {d:Nat} {st:RSt} {w:World} (h:Rf R L w d st)  :
  Calls Tryz.prog 54 #[.pointer (some ⟨R,0,none⟩)] w (QL R L (.list .param) d st w):=by
 have HTL:=jD h.fix.toks.toks
 have HA0:=jD h
 have HLT:=jD h.fix.lt;have HRW:=jD h.fix.lt
 have A0:=jD h;have B0:=jD (Butt.refl R w)
 clear h 
 go_enter Tryz.func54,Tryz.ntmps54
 go_wp2_with fail
 have HLP:Hid (LstRf R L w d st .param w true st [] (.slice none 0 0)):=jD ⟨A0.out,B0.out,ownT.nil _ _,Nat.zero_le _,jrr _,fun _=>by simp only[List.length_nil];omega,fun _ ys s' hs=>hs,fun e=>by cases e⟩
 go_loopw [3,4] (fun v m wr=>∃ (mb:Bool) (s:RSt) (xs:List Syn) (ao:Option Addr) (c:Nat),v = .slice ao xs.length c∧m = .bool mb∧LstRf R L w d st .param wr mb s xs v) (fun _ m wr=>meaR R L m wr)
 case atStart=>exact⟨true,_,[],none,0,rfl,rfl,HLP.out⟩
 case round=>
  obtain⟨mb,s,xs,ao,c,rfl,rfl,hrel⟩:=hrel
  cases mb with
  |false=>
   have HR:=jD hrel;have A0:=jD hrel.hat;have B0:=jD hrel.hb;have OW:=jD hrel.own
   clear hrel
   go_wp2
   go_ret
   exact⟨xs,_,_,rfl,OW.out,HR.out.len,HR.out.over (.inl rfl),A0.out,B0.out⟩
  |true=>
   cases s with
   |bad ea ee=>
    obtain⟨ze,y3,t3,t4⟩:=hrel.hat.err1
    have HR:=jD hrel;have A0:=jD hrel.hat;have B0:=jD hrel.hb;have OW:=jD hrel.own
    clear hrel
    go_wp2
    go_ret
    exact⟨xs,_,_,rfl,OW.out,HR.out.len,HR.out.over (.inr rfl),A0.out,B0.out⟩
   |ok l=>
   have HWR0:=hrel.hb.size;have y3:=hrel.hat.err0;have hfl:l≠[]:=hrel.hat.fine;have HFL:=jD hfl;clear hfl
   have HR:=jD hrel;have A0:=jD hrel.hat;have B0:=jD hrel.hb;have OW:=jD hrel.own
   clear hrel
   have CH:=fun W (H:Rf R L W d (.ok l))=>jbQ H;have CN:=fun W (H:Rf R L W d (.ok l))=>jfO H
   have CT:=fun W (H:Rf R L W d (jad (rNm (.ok l)) (.ok l)))=>jbD H [58] (by decide)
   cases hbc:rIs (jad (rNm (.ok l)) (.ok l)) [58] with
   |false=>
    rw[hbc] at CT;simp only[Bool.false_eq_true,if_false] at CT
    have HM:=jD (fun t h2=>jg3 (d:=d) (z1:=(pHd l).a) (z2:=t) (st:=.ok l) HFL (fun l' e=>by cases e;rfl) h2 hbc)
    clear hbc
    generalize (pHd l).a=pa at *
    generalize jad (rNm (.ok l)) (.ok l)=s2 at *
    have KH:=jD CH;have KN:=jD CN;have KT:=jD CT;clear CH CN CT
    have B0w:=B0;have B0:=jD (Butt.refl R wr);have HRW:=jD A0.out.fix.lt
    go_wp2_with (go_at_call 48;refine cM (KH.out _ A0) ?_;rintro e w1 ⟨rfl,ha1,hb1⟩)
    have A1:=jD ha1;have B1:=jtt B0 hb1
    clear ha1 hb1
    refine jD ?_
    go_wp2_with (go_at_call 47;refine cM (jam _ _ _ _ _ _ _) ?_;rintro e w2 ⟨rfl,hbl2⟩)
    have ha2:=A1.out.below hbl2;have hb2:=Butt.of_below (R:=R) A1.out.fix.lt hbl2;clear hbl2
    have A2:=jD ha2;have B2:=jtt B1 hb2
    clear ha2 hb2
    refine jD ?_
    have A2a:=jD (A2.out.alloc (Obj.cells #[.int .i64 4,.int .i64 pa,.string ⟨#[]⟩,.int .i64 0,.slice none 0 0] 25));have B2a:=jD (B2.out.alloc HRW (Obj.cells #[.int .i64 4,.int .i64 pa,.string ⟨#[]⟩,.int .i64 0,.slice none 0 0] 25))
    have PXX:=nR A2.out.fix.lt
    have XX2a:=jD (Bx5.new w2 (.int .i64 4) (.int .i64 pa) (.string ⟨#[]⟩) (.int .i64 0) (.slice none 0 0))
    go_wp2_with (go_at_call 53;refine cM (KN.out _ A2a) ?_;rintro e w3 ⟨z3,rfl,hz3,ha3,hb3⟩)
    have HZ3:=jD hz3
    have A3:=jD ha3;have B3:=jtt B2a hb3
    have XX3:=jbb XX2a PXX hb3
    clear ha3 hb3 hz3
    refine jD ?_
    have HOL:Hid (wr.heap.size≤w2.heap.size):=jD B2.out.size
    have z_:=XX3.out;have yXX3f2b:=z_.c2;have fXX3f2b:=z_.free 2;clear z_
    have SN:=Rf.setNew A0 B3 A3 (w2.heap.size) 2 HOL (.string z3)
    have A3f2:=jD SN.1;have B3f2:=jD SN.2;clear SN
    have XX3f2:=jD (XX3.out.set2 (.string z3))
    go_wp2_with (go_at_call 51;refine jR (KT.out _ A3f2) B3f2 XX3f2 PXX fun w4 A4 B4 XX4=>?_)
    refine jD ?_
    obtain⟨yXX0,yXX1,yXX2,yXX3,yXX4,-,-⟩:=XX4.out
    have OWZ:=jD (OW.out.keep (jrr _) (B4.out.froms HLT));have BZ:=jD (B0w.out.trans B4);have HRW:=HLT
    have HZ:=jD (((jac.mpr ⟨_,rfl,Or.inl ⟨rfl,rfl⟩⟩:synIn (jcm w.heap.size (.slice ao xs.length c)) w4 (.mk 4 pa z3 0 []) (.agg #[.int .i64 4,.int .i64 pa,.string z3,.int .i64 0,.slice none 0 0]))).below (jN (jO 4 pa z3 0 none 0 0)))
    have A4a1:=jD (A4.out.alloc (jO 4 pa z3 0 none 0 0));have B4a1:=jD (BZ.out.alloc HRW (jO 4 pa z3 0 none 0 0))
    have OW4a1:=jD (OWZ.out.keep (jrr _) (From.of_below (jN (jO 4 pa z3 0 none 0 0))))
    have HRA:=jD HA0.out.rem;have HL1:Hid (xs.length≤1200000):=jD (by have:=HR.out.len;have:=HRA.out;omega)
    have HB1:Hid (w.heap.size≤(w4.alloc (jO 4 pa z3 0 none 0 0)).heap.size):=jD B4a1.out.size
    have CT:=fun W (H:Rf R L W d s2)=>jbD H [44] (by decide)
    cases hb:rIs s2 [44] with
    |true=>
     rw[hb] at CT
     simp only[if_true] at CT
     have KT:=jD CT;have HBB:=jD hb;clear CT hb
     go_wp2_with (first|(at_builtin;refine jag rfl (.tmp 33) (.tmp 35) rfl w.heap.size _ xs (by simp[Act.eval,Act.put]) OW4a1 HL1 HB1 w4.heap.size (.mk 4 pa z3 0 []) _ _ _ _ _ (by simp[Act.eval,Act.put]) HZ ⟨rfl,rfl,rfl,rfl,rfl⟩ (by go_cell) (by go_cell) (by go_cell) (by go_cell) (by go_cell) ?_;intro v9 ao9 cap9 w9 hv9 ho9 hg9;refine Hid.out ?_)|fail)
     subst hv9
     have hgr:=Rf.grow HA0 A4a1 B4a1 (jap hg9 (fun b e=>(OW4a1.out.lo b e).1) HLT HB1)
     have AG:=jD hgr.1;have BG:=jD hgr.2;have OG:=jD ho9;clear hgr ho9 hg9
     refine jD ?_
     go_wp2_with (go_at_call 51;refine cM (KT.out _ AG) ?_;rintro e w8 ⟨rfl,ha8,hb8⟩)
     have A8:=jD ha8;have B8:=jtt BG hb8;have OW8:=jD (OG.out.keep (jrr _) (hb8.froms HLT));clear ha8 hb8
     refine jD ?_
     have HNX:=jD (LstRf.more HTL HR (HM.out _ HZ3) AG OW8 HBB A8 B8)
     go_wp2
     go_roundw
     case rel=>exact⟨true,_,xs++[(.mk 4 pa z3 0 [])],ao9,cap9,by rw[List.length_append];rfl,rfl,HNX.out.1⟩
     case measure=>
      have g1:=jbw HR.out.hat
      have g2:=jb2 HNX.out.1.hat
      have g3:=HNX.out.2
      show remR R L w8+1<remR R L wr+1
      omega
    |false=>
     rw[hb] at CT
     simp only[Bool.false_eq_true,if_false] at CT
     have KT:=jD CT;have HBB:=jD hb;clear CT hb
     go_wp2_with (first|(at_builtin;refine jag rfl (.tmp 33) (.tmp 35) rfl w.heap.size _ xs (by simp[Act.eval,Act.put]) OW4a1 HL1 HB1 w4.heap.size (.mk 4 pa z3 0 []) _ _ _ _ _ (by simp[Act.eval,Act.put]) HZ ⟨rfl,rfl,rfl,rfl,rfl⟩ (by go_cell) (by go_cell) (by go_cell) (by go_cell) (by go_cell) ?_;intro v9 ao9 cap9 w9 hv9 ho9 hg9;refine Hid.out ?_)|fail)
     subst hv9
     have hgr:=Rf.grow HA0 A4a1 B4a1 (jap hg9 (fun b e=>(OW4a1.out.lo b e).1) HLT HB1)
     have AG:=jD hgr.1;have BG:=jD hgr.2;have OG:=jD ho9;clear hgr ho9 hg9
     refine jD ?_
     go_wp2_with (go_at_call 51;refine cM (KT.out _ AG) ?_;rintro e w8 ⟨rfl,ha8,hb8⟩)
     have A8:=jD ha8;have B8:=jtt BG hb8;have OW8:=jD (OG.out.keep (jrr _) (hb8.froms HLT));clear ha8 hb8
     refine jD ?_
     have HNX:=jD (LstRf.last HTL HR HFL (HM.out _ HZ3) OW8 HBB A8 B8)
     go_wp2
     go_roundw
     case rel=>exact⟨false,_,xs++[(.mk 4 pa z3 0 [])],ao9,cap9,by rw[List.length_append];rfl,rfl,HNX.out⟩
     case measure=>show 0<remR R L wr+1;omega
   |true=>
    rw[hbc] at CT;simp only[if_true] at CT
    have HM:=jD (fun t t3 t4 h2 h3 h4=>jfQ (d:=d) (z1:=(pHd l).a) (z2:=t) (z3:=t3) (z4:=t4) (st:=.ok l) HFL (fun l' e=>by cases e;rfl) h2 hbc _ rfl h3 h4)
    clear hbc
    generalize (pHd l).a=pa at *
    generalize jaq (jad (rNm (.ok l)) (.ok l))=s3 at *
    generalize jad (rNm (.ok l)) (.ok l)=s2 at *
    have KH:=jD CH;have KN:=jD CN;have KT:=jD CT;clear CH CN CT
    have B0w:=B0;have B0:=jD (Butt.refl R wr);have HRW:=jD A0.out.fix.lt
    go_wp2_with (go_at_call 48;refine cM (KH.out _ A0) ?_;rintro e w1 ⟨rfl,ha1,hb1⟩)
    have A1:=jD ha1;have B1:=jtt B0 hb1
    clear ha1 hb1
    refine jD ?_
    go_wp2_with (go_at_call 47;refine cM (jam _ _ _ _ _ _ _) ?_;rintro e w2 ⟨rfl,hbl2⟩)
    have ha2:=A1.out.below hbl2;have hb2:=Butt.of_below (R:=R) A1.out.fix.lt hbl2;clear hbl2
    have A2:=jD ha2;have B2:=jtt B1 hb2
    clear ha2 hb2
    refine jD ?_
    have A2a:=jD (A2.out.alloc (Obj.cells #[.int .i64 4,.int .i64 pa,.string ⟨#[]⟩,.int .i64 0,.slice none 0 0] 25));have B2a:=jD (B2.out.alloc HRW (Obj.cells #[.int .i64 4,.int .i64 pa,.string ⟨#[]⟩,.int .i64 0,.slice none 0 0] 25))
    have PXX:=nR A2.out.fix.lt
    have XX2a:=jD (Bx5.new w2 (.int .i64 4) (.int .i64 pa) (.string ⟨#[]⟩) (.int .i64 0) (.slice none 0 0))
    go_wp2_with (go_at_call 53;refine cM (KN.out _ A2a) ?_;rintro e w3 ⟨z3,rfl,hz3,ha3,hb3⟩)
    have HZ3:=jD hz3
    have A3:=jD ha3;have B3:=jtt B2a hb3
    have XX3:=jbb XX2a PXX hb3
    clear ha3 hb3 hz3
    refine jD ?_
    have HOL:Hid (wr.heap.size≤w2.heap.size):=jD B2.out.size
    have z_:=XX3.out;have yXX3f2b:=z_.c2;have fXX3f2b:=z_.free 2;clear z_
    have SN:=Rf.setNew A0 B3 A3 (w2.heap.size) 2 HOL (.string z3)
    have A3f2:=jD SN.1;have B3f2:=jD SN.2;clear SN
    have XX3f2:=jD (XX3.out.set2 (.string z3))
    go_wp2_with (go_at_call 51;refine jR (KT.out _ A3f2) B3f2 XX3f2 PXX fun w4 A4 B4 XX4=>?_)
    refine jD ?_
    go_wp2_with (go_at_call 48;refine cM (jcy A4) ?_;rintro e w5 ⟨z5,rfl,hz5,ha5,hb5⟩)
    have HZ5:=jD hz5
    have A5:=jD ha5;have B5:=jtt B4 hb5
    have XX5:=jbb XX4 PXX hb5
    clear ha5 hb5 hz5
    refine jD ?_
    go_wp2_with (go_at_call 53;refine cM (jfO A5) ?_;rintro e w6 ⟨z6,rfl,hz6,ha6,hb6⟩)
    have HZ6:=jD hz6
    have A6:=jD ha6;have B6:=jtt B5 hb6
    have XX6:=jbb XX5 PXX hb6
    clear ha6 hb6 hz6
    refine jD ?_
    go_wp2_with (go_at_call 47;refine cM (jam _ _ _ _ _ _ _) ?_;rintro e w7 ⟨rfl,hbl7⟩)
    have ha7:=A6.out.below hbl7;have hb7:=Butt.of_below (R:=R) A6.out.fix.lt hbl7;clear hbl7
    have A7:=jD ha7;have B7:=jtt B6 hb7
    have XX7:=jbb XX6 PXX hb7
    clear ha7 hb7
    refine jD ?_
    have hAw:(fun b=>jcm w.heap.size (.slice ao xs.length c) b∧b≠w2.heap.size) w7.heap.size:=⟨⟨Nat.le_trans B0w.out.size B7.out.size,fun e=>by have:=(OW.out.lo _ e).2;have:=B7.out.size;omega⟩,fun e=>by have:=XX7.out.lt;omega⟩
    have KI:=jD (jaw (A:=fun b=>jcm w.heap.size (.slice ao xs.length c) b∧b≠w2.heap.size) (flatIn.one (jac.mpr ⟨_,rfl,Or.inl ⟨rfl,rfl⟩⟩:synIn _ w7 (.mk 19 z5 z6 0 []) (.agg #[.int .i64 19,.int .i64 z5,.string z6,.int .i64 0,.slice none 0 0]))) (by simp) hAw 1 rfl);clear hAw
    have A7a1:=jD (A7.out.alloc (jO 19 z5 z6 0 none 0 0));have B7a1:=jD (B7.out.alloc HRW (jO 19 z5 z6 0 none 0 0))
    have XX7a1:=jD (XX7.out.alloc (jO 19 z5 z6 0 none 0 0))
    have z_:=XX7a1.out;have yXX7f4b:=z_.c4;have fXX7f4b:=z_.free 4;clear z_
    have SN:=Rf.setNew A0 B7a1 A7a1 (w2.heap.size) 4 HOL (.slice (some ⟨w7.heap.size,0,none⟩) 1 1)
    have A7f4:=jD SN.1;have B7f4:=jD SN.2;clear SN
    have XX7f4:=jD (XX7a1.out.set4 (.slice (some ⟨w7.heap.size,0,none⟩) 1 1))
    have KS:Hid (synIn (jcm w.heap.size (.slice ao xs.length c)) ((w7.alloc (jO 19 z5 z6 0 none 0 0)).setCell ⟨w2.heap.size,4,none⟩ (.slice (some ⟨w7.heap.size,0,none⟩) 1 1)) (.mk 4 pa z3 0 [.mk 19 z5 z6 0 []]) (.agg #[.int .i64 4,.int .i64 pa,.string z3,.int .i64 0,.slice (some ⟨w7.heap.size,0,none⟩) 1 1])):=jD (jac.mpr ⟨_,rfl,KI.out.keep ⟨Nat.le_of_eq (by simp),fun k hk hl=>((Kept.refl (·≠w2.heap.size) (w7.alloc (jO 19 z5 z6 0 none 0 0))).setCell ⟨w2.heap.size,4,none⟩ (fun h=>h rfl) (.slice (some ⟨w7.heap.size,0,none⟩) 1 1)).block k hk.2 hl⟩ (fun k hk _=>hk.1)⟩)
    obtain⟨yXX0,yXX1,yXX2,yXX3,yXX4,-,-⟩:=XX7f4.out
    have OWZ:=jD (OW.out.keep (jrr _) (B7f4.out.froms HLT));have BZ:=jD (B0w.out.trans B7f4);have HRW:=HLT
    have hz:((w7.alloc (jO 19 z5 z6 0 none 0 0)).setCell ⟨w2.heap.size,4,none⟩ (.slice (some ⟨w7.heap.size,0,none⟩) 1 1)).heap.size=w7.heap.size+1:=by simp
    have HZZ:=jD hz;clear hz
    have HZ:=jD ((KS.out).below (jN (Obj.cells #[.int .i64 4,.int .i64 pa,.string z3,.int .i64 0,.slice (some ⟨w7.heap.size,0,none⟩) 1 1] 25)))
    have A7a2:=jD (A7f4.out.alloc (Obj.cells #[.int .i64 4,.int .i64 pa,.string z3,.int .i64 0,.slice (some ⟨w7.heap.size,0,none⟩) 1 1] 25));have B7a2:=jD (BZ.out.alloc HRW (Obj.cells #[.int .i64 4,.int .i64 pa,.string z3,.int .i64 0,.slice (some ⟨w7.heap.size,0,none⟩) 1 1] 25))
    have OW7a2:=jD (OWZ.out.keep (jrr _) (From.of_below (jN (Obj.cells #[.int .i64 4,.int .i64 pa,.string z3,.int .i64 0,.slice (some ⟨w7.heap.size,0,none⟩) 1 1] 25))))
    have HRA:=jD HA0.out.rem;have HL1:Hid (xs.length≤1200000):=jD (by have:=HR.out.len;have:=HRA.out;omega)
    have HB1:Hid (w.heap.size≤(((w7.alloc (jO 19 z5 z6 0 none 0 0)).setCell ⟨w2.heap.size,4,none⟩ (.slice (some ⟨w7.heap.size,0,none⟩) 1 1)).alloc (Obj.cells #[.int .i64 4,.int .i64 pa,.string z3,.int .i64 0,.slice (some ⟨w7.heap.size,0,none⟩) 1 1] 25)).heap.size):=jD B7a2.out.size
    have CT:=fun W (H:Rf R L W d (jad (rNm s3) s3))=>jbD H [44] (by decide)
    cases hb:rIs (jad (rNm s3) s3) [44] with
    |true=>
     rw[hb] at CT
     simp only[if_true] at CT
     have KT:=jD CT;have HBB:=jD hb;clear CT hb
     go_wp2_with (first|(at_builtin;refine jag rfl (.tmp 33) (.tmp 35) rfl w.heap.size _ xs (by simp[Act.eval,Act.put]) OW7a2 HL1 HB1 (w7.heap.size+1) (.mk 4 pa z3 0 [.mk 19 z5 z6 0 []]) _ _ _ _ _ (by simp[Act.eval,Act.put]) HZ ⟨rfl,rfl,rfl,rfl,rfl⟩ (by go_cell) (by go_cell) (by go_cell) (by go_cell) (by go_cell) ?_;intro v9 ao9 cap9 w9 hv9 ho9 hg9;refine Hid.out ?_)|fail)
     subst hv9
     have hgr:=Rf.grow HA0 A7a2 B7a2 (jap hg9 (fun b e=>(OW7a2.out.lo b e).1) HLT HB1)
     have AG:=jD hgr.1;have BG:=jD hgr.2;have OG:=jD ho9;clear hgr ho9 hg9
     refine jD ?_
     go_wp2_with (go_at_call 51;refine cM (KT.out _ AG) ?_;rintro e w8 ⟨rfl,ha8,hb8⟩)
     have A8:=jD ha8;have B8:=jtt BG hb8;have OW8:=jD (OG.out.keep (jrr _) (hb8.froms HLT));clear ha8 hb8
     refine jD ?_
     have HNX:=jD (LstRf.more HTL HR (HM.out _ _ _ HZ3 HZ5 HZ6) AG OW8 HBB A8 B8)
     go_wp2
     go_roundw
     case rel=>exact⟨true,_,xs++[(.mk 4 pa z3 0 [.mk 19 z5 z6 0 []])],ao9,cap9,by rw[List.length_append];rfl,rfl,HNX.out.1⟩
     case measure=>
      have g1:=jbw HR.out.hat
      have g2:=jb2 HNX.out.1.hat
      have g3:=HNX.out.2
      show remR R L w8+1<remR R L wr+1
      omega
    |false=>
     rw[hb] at CT
     simp only[Bool.false_eq_true,if_false] at CT
     have KT:=jD CT;have HBB:=jD hb;clear CT hb
     go_wp2_with (first|(at_builtin;refine jag rfl (.tmp 33) (.tmp 35) rfl w.heap.size _ xs (by simp[Act.eval,Act.put]) OW7a2 HL1 HB1 (w7.heap.size+1) (.mk 4 pa z3 0 [.mk 19 z5 z6 0 []]) _ _ _ _ _ (by simp[Act.eval,Act.put]) HZ ⟨rfl,rfl,rfl,rfl,rfl⟩ (by go_cell) (by go_cell) (by go_cell) (by go_cell) (by go_cell) ?_;intro v9 ao9 cap9 w9 hv9 ho9 hg9;refine Hid.out ?_)|fail)
     subst hv9
     have hgr:=Rf.grow HA0 A7a2 B7a2 (jap hg9 (fun b e=>(OW7a2.out.lo b e).1) HLT HB1)
     have AG:=jD hgr.1;have BG:=jD hgr.2;have OG:=jD ho9;clear hgr ho9 hg9
     refine jD ?_
     go_wp2_with (go_at_call 51;refine cM (KT.out _ AG) ?_;rintro e w8 ⟨rfl,ha8,hb8⟩)
     have A8:=jD ha8;have B8:=jtt BG hb8;have OW8:=jD (OG.out.keep (jrr _) (hb8.froms HLT));clear ha8 hb8
     refine jD ?_
     have HNX:=jD (LstRf.last HTL HR HFL (HM.out _ _ _ HZ3 HZ5 HZ6) OW8 HBB A8 B8)
     go_wp2
     go_roundw
     case rel=>exact⟨false,_,xs++[(.mk 4 pa z3 0 [.mk 19 z5 z6 0 []])],ao9,cap9,by rw[List.length_append];rfl,rfl,HNX.out⟩
     case measure=>show 0<remR R L wr+1;omega
end Go.Proofs.YtenmmmdnpglkoaaGreatDoor
