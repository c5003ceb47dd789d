import Derived.Test.YtenmmmdnpglkoaaGreatDoorCut10
set_option linter.unusedSimpArgs false
set_option linter.unusedVariables false
set_option maxRecDepth 100000
set_option maxHeartbeats 8000000
/-
 parser: bare, place, parameter by states.
-/
namespace Go.Proofs.YtenmmmdnpglkoaaGreatDoor
open Go Go.Proofs Go.RowKit Go.Sort
def Rel (L:List Tk) (nx:Nat) (a:Int) (er:Nat) (st:RSt):Prop:=(er=0∧a=0∧st = .ok (L.drop nx))∨(er≠0∧nx=L.length-1∧st = .bad a er)
theorem jdD {L:List Tk} {nx er:Nat} {a:Int} {st:RSt} (can:Bool) (h:nx<L.length) (hs:Rel L nx a er st) :
  ∃ er':Nat,erM er can=er'∧Rel L (nxM L nx can) (atM L nx a er can) er' (jad can st)∧nxM L nx can<L.length:=by
 refine⟨if can=true then er else if er=0 then 4 else er,?_,?_,jky h can⟩
 ·unfold erM
  cases can with
  |true=>rfl
  |false=>
   rw[if_neg Bool.false_ne_true,if_neg Bool.false_ne_true]
   by_cases e:er=0
   ·subst e;rfl
   ·rw[if_neg e,if_neg (by omega)]
 ·cases can with
  |true=>
   have e:jad true st=jaq st:=by cases st<;>rfl
   rw[e]
   exact jdq h hs
  |false=>
   rcases hs with ⟨rfl,rfl,rfl⟩|⟨h1,rfl,rfl⟩
   ·refine .inr ⟨by simp,rfl,?_⟩
    show RSt.bad (pHd (L.drop nx)).a 4 = .bad _ _
    rw[jaO h]
    rfl
   ·refine .inr ⟨by simp[h1],rfl,?_⟩
    show RSt.bad a er = .bad _ _
    unfold atM
    rw[if_neg Bool.false_ne_true,if_neg Bool.false_ne_true,if_neg h1,if_neg (show ¬ (er:Int)=0 by omega)]
section
variable {L:List Tk} {st:RSt} {d:Nat}
theorem jlx (hf:st.fine):Stp .bare d st [.mk 19 (tokM L st (isN (cur L st))).a (tokM L st (isN (cur L st))).t 0 []] (jad (isN (cur L st)) st):=by
 cases st with
 |bad a e=>exact rfl
 |ok l=>
  rw[jbW]
  cases hc:ja5 (pHd l) with
  |true=>exact jcl (jaJ hf) (jat l) 0 fun f _=>by rw[jaf];simp[jaW,hc,bind,Except.bind,pure,Except.pure];rfl
  |false=>exact jbj (by decide) 0 fun f _=>by rw[jaf];simp[jaW,hc,bind,Except.bind,pure,Except.pure]
theorem jha (hf:st.fine) (hd:tIs L (jad (isN (cur L st)) st) ⟨#[46]⟩=false):Stp .place d st [.mk 18 (tokM L st (isN (cur L st))).a (tokM L st (isN (cur L st))).t 0 []] (jad (isN (cur L st)) st):=by
 cases st with
 |bad a e=>exact rfl
 |ok l=>
  rw[jbW] at hd ⊢
  cases hc:ja5 (pHd l) with
  |true=>
   rw[hc] at hd
   have hd:=(jaP L (pTl l) [46]).symm.trans hd
   exact jcl (jaJ hf) (jat l) 0 fun f _=>by rw[jaf];simp[jaW,hc,hd,bind,Except.bind,pure,Except.pure];rfl
  |false=>exact jbj (by decide) 0 fun f _=>by rw[jaf];simp[jaW,hc,bind,Except.bind,pure,Except.pure]
theorem jgs (hL:TkL L) (hf:st.fine) (hd:tIs L (jad (isN (cur L st)) st) ⟨#[46]⟩=true) (s2:RSt) (h2:jaq (jad (isN (cur L st)) st)=s2):Stp .place d st [.mk 18 (tokM L st (isN (cur L st))).a (tokM L st (isN (cur L st))).t 0 [.mk 19 (tokM L s2 (isN (cur L s2))).a (tokM L s2 (isN (cur L s2))).t 0 []]] (jad (isN (cur L s2)) s2):=by
 subst h2
 cases st with
 |bad a e=>exact rfl
 |ok l=>
  rw[jbW] at hd ⊢
  cases hc:ja5 (pHd l) with
  |true=>
   rw[hc] at hd
   have hd:=(jaP L (pTl l) [46]).symm.trans hd
   show Stp _ _ _ [.mk 18 (pHd l).a (pHd l).t 0 [.mk 19 (tokM L (.ok (pTl (pTl l))) (isN (cur L (.ok (pTl (pTl l)))))).a (tokM L (.ok (pTl (pTl l))) (isN (cur L (.ok (pTl (pTl l)))))).t 0 []]] (jad (isN (cur L (.ok (pTl (pTl l))))) (.ok (pTl (pTl l))))
   rw[jbW]
   have hl:=jat l
   have hl2:=jat (pTl l)
   have hl3:=jat (pTl (pTl l))
   cases hc2:ja5 (pHd (pTl (pTl l))) with
   |true=>exact jcl (jaJ (jaJ (jaJ hf))) (by omega) 1 fun f hf=>by obtain⟨g,rfl⟩:∃ g,f=g+1:=⟨f-1,by omega⟩;rw[jaf];simp[jaW,hc,hd,bind,Except.bind,pure,Except.pure];rw[jaf];simp[jaW,hc2,bind,Except.bind,pure,Except.pure];rfl
   |false=>exact jbj (by decide) 1 fun f hf=>by obtain⟨g,rfl⟩:∃ g,f=g+1:=⟨f-1,by omega⟩;rw[jaf];simp[jaW,hc,hd,bind,Except.bind,pure,Except.pure];rw[jaf];simp[jaW,hc2,bind,Except.bind,pure,Except.pure]
  |false=>
   rw[hc] at hd
   exact absurd ((jck hL (s:=[46]) (by decide)).symm.trans hd) (by decide)
theorem jhb (hf:st.fine) (hd:tIs L (jad (isN (cur L st)) st) ⟨#[58]⟩=false):Stp .param d st [.mk 4 (tokM L st (isN (cur L st))).a (tokM L st (isN (cur L st))).t 0 []] (jad (isN (cur L st)) st):=by
 cases st with
 |bad a e=>exact rfl
 |ok l=>
  rw[jbW] at hd ⊢
  cases hc:ja5 (pHd l) with
  |true=>
   rw[hc] at hd
   have hd:=(jaP L (pTl l) [58]).symm.trans hd
   exact jcl (jaJ hf) (jat l) 0 fun f _=>by rw[jaf];simp[jaW,hc,hd,bind,Except.bind,pure,Except.pure];rfl
  |false=>exact jbj (by decide) 0 fun f _=>by rw[jaf];simp[jaW,hc,bind,Except.bind,pure,Except.pure]
theorem jgt (hL:TkL L) (hf:st.fine) (hd:tIs L (jad (isN (cur L st)) st) ⟨#[58]⟩=true) (s2:RSt) (h2:jaq (jad (isN (cur L st)) st)=s2):Stp .param d st [.mk 4 (tokM L st (isN (cur L st))).a (tokM L st (isN (cur L st))).t 0 [.mk 19 (tokM L s2 (isN (cur L s2))).a (tokM L s2 (isN (cur L s2))).t 0 []]] (jad (isN (cur L s2)) s2):=by
 subst h2
 cases st with
 |bad a e=>exact rfl
 |ok l=>
  rw[jbW] at hd ⊢
  cases hc:ja5 (pHd l) with
  |true=>
   rw[hc] at hd
   have hd:=(jaP L (pTl l) [58]).symm.trans hd
   show Stp _ _ _ [.mk 4 (pHd l).a (pHd l).t 0 [.mk 19 (tokM L (.ok (pTl (pTl l))) (isN (cur L (.ok (pTl (pTl l)))))).a (tokM L (.ok (pTl (pTl l))) (isN (cur L (.ok (pTl (pTl l)))))).t 0 []]] (jad (isN (cur L (.ok (pTl (pTl l))))) (.ok (pTl (pTl l))))
   rw[jbW]
   have hl:=jat l
   have hl2:=jat (pTl l)
   have hl3:=jat (pTl (pTl l))
   cases hc2:ja5 (pHd (pTl (pTl l))) with
   |true=>exact jcl (jaJ (jaJ (jaJ hf))) (by omega) 1 fun f hf=>by obtain⟨g,rfl⟩:∃ g,f=g+1:=⟨f-1,by omega⟩;rw[jaf];simp[jaW,hc,hd,bind,Except.bind,pure,Except.pure];rw[jaf];simp[jaW,hc2,bind,Except.bind,pure,Except.pure];rfl
   |false=>exact jbj (by decide) 1 fun f hf=>by obtain⟨g,rfl⟩:∃ g,f=g+1:=⟨f-1,by omega⟩;rw[jaf];simp[jaW,hc,hd,bind,Except.bind,pure,Except.pure];rw[jaf];simp[jaW,hc2,bind,Except.bind,pure,Except.pure]
  |false=>
   rw[hc] at hd
   exact absurd ((jck hL (s:=[58]) (by decide)).symm.trans hd) (by decide)
end
theorem jmG {R:Nat} {L:List Tk} {d:Nat} {st:RSt} {w:World} (h:At R L w d st):Calls Tryz.prog 75 #[.pointer (some ⟨R,0,none⟩)] w (PT R L .bare d st w):=by
 have hfi:=h.fine
 obtain⟨hf,nx,a,er,h1,h2,h3⟩:=h
 have hst:=jlx (L:=L) (d:=d) hfi
 obtain⟨er',he,hr,hlt⟩:=jdD (isN (tkD L nx)) h1 h3
 refine(jgn R L nx d a er w h2 h1 (Nat.le_trans hf.toks.len (by decide)) (Nat.le_trans (hf.toks.size nx) (by decide)) hf.cls).mono ?_
 rintro e w' ⟨rfl,hr',hb⟩
 rw[jc5 _ h1 h3]
 rw[he] at hr'
 rw[jbt h1 h3] at hst
 exact⟨_,_,_,rfl,jcd.mpr ⟨_,rfl,.inl ⟨rfl,rfl⟩⟩,hst,⟨hf.butt hb,_,_,er',hlt,hr',hr⟩,hb⟩
theorem jk2 {R:Nat} {L:List Tk} {d:Nat} {st:RSt} {w:World} (h:At R L w d st):Calls Tryz.prog 131 #[.pointer (some ⟨R,0,none⟩)] w (PT R L .place d st w):=by
 have hfi:=h.fine
 obtain⟨hf,nx,a,er,h1,h2,h3⟩:=h
 have hn:=jha (L:=L) (d:=d) hfi
 have hy:=jgs (L:=L) (d:=d) hf.toks hfi
 have hlen:=Nat.le_trans hf.toks.len (show 100000≤1000000 by decide)
 have hsz:=fun n=>Nat.le_trans (hf.toks.size n) (show 1000000≤9223372036854775807 by decide)
 have hB:=fun W (hb:Butt R w W)=>hf.cls.keep (hb.below hf.lt)
 obtain⟨er',he,hr,hlt⟩:=jdD (isN (tkD L nx)) h1 h3
 rw[jbt h1 h3] at hn hy
 have hc1:cur L (jad (isN (tkD L nx)) st)=tkD L (nxM L nx (isN (tkD L nx))):=jbt hlt hr
 cases hd:tIs L (jad (isN (tkD L nx)) st) ⟨#[46]⟩ with
 |false=>
  have hd':((tkD L (nxM L nx (isN (tkD L nx)))).t.toList==(⟨#[46]⟩:ByteArray).toList)=false:=by rw[←hc1];exact hd
  refine(jfx R L nx (nxM L nx (isN (tkD L nx))) d a er (atM L nx a er (isN (tkD L nx))) (erM er (isN (tkD L nx))) [] w h2 h1 hlen (hsz nx) hf.cls (fun W hb H=>jfw R L _ d _ _ _ W H hlt hlen hd')).mono ?_
  rintro e w' ⟨⟨v,rfl,hx⟩,hr',hb⟩
  rw[jc5 _ h1 h3] at hx
  rw[he] at hr'
  exact⟨_,_,_,rfl,hx,hn hd,⟨hf.butt hb,_,_,er',hlt,hr',hr⟩,hb⟩
 |true=>
  have hd':((tkD L (nxM L nx (isN (tkD L nx)))).t.toList==(⟨#[46]⟩:ByteArray).toList)=true:=by rw[←hc1];exact hd
  have ht:=jdq hlt hr
  have hlt2:min (nxM L nx (isN (tkD L nx))+1) (L.length-1)<L.length:=by omega
  generalize hs2:jaq (jad (isN (tkD L nx)) st)=s2 at *
  generalize hn2:min (nxM L nx (isN (tkD L nx))+1) (L.length-1)=n2 at *
  obtain⟨er2,he2,hr2,hlt3⟩:=jdD (isN (tkD L n2)) hlt2 ht
  have hy:=hy hd s2 rfl
  rw[jbt hlt2 ht] at hy
  refine(jfx R L nx (nxM L n2 (isN (tkD L n2))) d a er (atM L n2 (atM L nx a er (isN (tkD L nx))) er' (isN (tkD L n2))) (erM er' (isN (tkD L n2))) _ w h2 h1 hlen (hsz nx) hf.cls (fun W hb H=>jeF R L _ n2 d _ _ _ W (by rw[he] at H;exact H) hlt hlen hd' hn2 (hsz n2) (hB W hb))).mono ?_
  rintro e w' ⟨⟨v,rfl,hx⟩,hr',hb⟩
  rw[jc5 _ h1 h3,jc5 _ hlt2 ht] at hx
  rw[he2] at hr'
  exact⟨_,_,_,rfl,hx,hy,⟨hf.butt hb,_,_,er2,hlt3,hr',hr2⟩,hb⟩
theorem jdS {R:Nat} {L:List Tk} {d:Nat} {st:RSt} {w:World} (h:At R L w d st):Calls Tryz.prog 112 #[.pointer (some ⟨R,0,none⟩)] w (PT R L .param d st w):=by
 have hfi:=h.fine
 obtain⟨hf,nx,a,er,h1,h2,h3⟩:=h
 have hn:=jhb (L:=L) (d:=d) hfi
 have hy:=jgt (L:=L) (d:=d) hf.toks hfi
 have hlen:=Nat.le_trans hf.toks.len (show 100000≤1000000 by decide)
 have hsz:=fun n=>Nat.le_trans (hf.toks.size n) (show 1000000≤9223372036854775807 by decide)
 have hB:=fun W (hb:Butt R w W)=>hf.cls.keep (hb.below hf.lt)
 obtain⟨er',he,hr,hlt⟩:=jdD (isN (tkD L nx)) h1 h3
 rw[jbt h1 h3] at hn hy
 have hc1:cur L (jad (isN (tkD L nx)) st)=tkD L (nxM L nx (isN (tkD L nx))):=jbt hlt hr
 cases hd:tIs L (jad (isN (tkD L nx)) st) ⟨#[58]⟩ with
 |false=>
  have hd':((tkD L (nxM L nx (isN (tkD L nx)))).t.toList==(⟨#[58]⟩:ByteArray).toList)=false:=by rw[←hc1];exact hd
  refine(jdh R L nx (nxM L nx (isN (tkD L nx))) d a er (atM L nx a er (isN (tkD L nx))) (erM er (isN (tkD L nx))) [] w h2 h1 hlen (hsz nx) hf.cls (fun W hb H=>jfw R L _ d _ _ _ W H hlt hlen hd')).mono ?_
  rintro e w' ⟨⟨v,rfl,hx⟩,hr',hb⟩
  rw[jc5 _ h1 h3] at hx
  rw[he] at hr'
  exact⟨_,_,_,rfl,hx,hn hd,⟨hf.butt hb,_,_,er',hlt,hr',hr⟩,hb⟩
 |true=>
  have hd':((tkD L (nxM L nx (isN (tkD L nx)))).t.toList==(⟨#[58]⟩:ByteArray).toList)=true:=by rw[←hc1];exact hd
  have ht:=jdq hlt hr
  have hlt2:min (nxM L nx (isN (tkD L nx))+1) (L.length-1)<L.length:=by omega
  generalize hs2:jaq (jad (isN (tkD L nx)) st)=s2 at *
  generalize hn2:min (nxM L nx (isN (tkD L nx))+1) (L.length-1)=n2 at *
  obtain⟨er2,he2,hr2,hlt3⟩:=jdD (isN (tkD L n2)) hlt2 ht
  have hy:=hy hd s2 rfl
  rw[jbt hlt2 ht] at hy
  refine(jdh R L nx (nxM L n2 (isN (tkD L n2))) d a er (atM L n2 (atM L nx a er (isN (tkD L nx))) er' (isN (tkD L n2))) (erM er' (isN (tkD L n2))) _ w h2 h1 hlen (hsz nx) hf.cls (fun W hb H=>jeF R L _ n2 d _ _ _ W (by rw[he] at H;exact H) hlt hlen hd' hn2 (hsz n2) (hB W hb))).mono ?_
  rintro e w' ⟨⟨v,rfl,hx⟩,hr',hb⟩
  rw[jc5 _ h1 h3,jc5 _ hlt2 ht] at hx
  rw[he2] at hr'
  exact⟨_,_,_,rfl,hx,hy,⟨hf.butt hb,_,_,er2,hlt3,hr',hr2⟩,hb⟩
theorem jmI {R:Nat} {L:List Tk} {d:Nat} {st:RSt} {w:World} (h:At R L w d st) (hd:d≤999999) (K:tIs L st ⟨#[40]⟩=true→GT 31 R L #[.pointer (some ⟨R,0,none⟩)] (.lvl 0) (d+1) (jaV L st d true)) :
  Calls Tryz.prog 101 #[.pointer (some ⟨R,0,none⟩),.int .i64 7] w (PT R L (.lvl 7) d st w):=by
 have HTL:=jD h.fix.toks
 have hfi:=h.fine
 have CN:=fun W (H:At R L W d st)=>jgo H
 have CK:=fun W (H:At R L W d st)=>jjY H
 have CI:=fun s W (H:At R L W d st)=>sis H s
 have C1:=CI ⟨#[116,114,117,101]⟩
 have C2:=CI ⟨#[102,97,108,115,101]⟩
 have C3:=CI ⟨#[40]⟩
 have CE:=fun W (H:At R L W d st)=>jfz H hd ⟨#[40]⟩
 have CP:=fun W (H:At R L W d st)=>jk2 H
 clear CI
 cases h1:((cur L st).k==1) with
 |true=>
  rw[h1] at CN
  have HM:=jD (jeJ (d:=d) HTL hfi h1)
  generalize cur L st=T at *
  obtain⟨ek,et,ea⟩:=T
  unfold tkA at *
  dsimp only at *
  have KN:=jD CN;have KK:=jD CK
  have HA0:=jD h
  have HLT:=jD h.fix.lt;have HRW:=jD h.fix.lt
  have A0:=jD (h.alloc jZ);obtain⟨B0,XR0,HPR,HLS⟩:=jS h.fix.lt
  clear h CN CK C1 C2 C3 CE CP K hd h1 hfi HTL
  go_enter Tryz.func101,Tryz.ntmps101
  go_wp2_with (go_at_call 130;refine jR (KN.out _ A0) B0 XR0 HPR fun w1 A1 B1 XR1=>?_)
  refine jD ?_
  go_wp2_with (go_at_call 109;refine jR (KK.out _ A1) B1 XR1 HPR fun w2 A2 B2 XR2=>?_)
  refine jD ?_
  have A2a:=jD (A2.out.alloc (jU ek et ea));have B2a:=jD (B2.out.alloc HRW (jU ek et ea))
  have XR2a:=jD (XR2.out.alloc (jU ek et ea))
  have PTT:=nR A2.out.fix.lt
  have TT2a:=jD (Bx3.new w2 (.int .i64 ek) (.string et) (.int .i64 ea))
  obtain⟨yTT0,yTT1,yTT2,-,-⟩:=TT2a.out
  go_wp2_with (go_at_call 40;refine cM (jau _ _ _ _ _ _ _) ?_;rintro e w3 ⟨rfl,hb3⟩)
  have hbx:=Butt.of_below (R:=R) A2a.out.fix.lt hb3
  have ha3:At R L w3 _ _:=⟨A2a.out.fix.butt hbx,A2a.out.rs.below hb3⟩
  have TN:=jD (jac.mpr ⟨_,rfl,(Or.inl ⟨rfl,rfl⟩)⟩:synIn (offs w.heap.size [w.heap.size]) w3 (.mk 20 ea et 0 []) _)
  have hb3:=hbx;clear hbx
  have A3:=jD ha3;have B3:=jtt B2a hb3
  have XR3:=jbb XR2a HPR hb3
  have TT3:=jD (TT2a.out.butt PTT hb3)
  clear ha3 hb3
  refine jD ?_
  have FT:=jD (ja4 HA0 B3 A3 XR3 (jrr _) (.int .i64 20) (.int .i64 ea) (.string et) (.int .i64 0) (.slice none 0 0) _ rfl)
  have GX:=jD ((TN.out).kept (by simp) FT.out.2.2.2).at
  obtain⟨yXR0,yXR1,yXR2,yXR3,yXR4,fXR0,fXR1,fXR2,fXR3,fXR4⟩:=bF XR3
  obtain⟨r0,r1,r2,r3,r4⟩:=FT.out.1
  have GA:=jD FT.out.2.1;have GB:=jD FT.out.2.2.1
  clear FT
  go_wp2
  refine bodyPost_ret (by simp[results,Tryz.results101,go_sem,r0,r1,r2,r3,r4];rfl) rfl ?_
  exact⟨_,_,_,rfl,GX.out,HM.out,GA.out,GB.out⟩
 |false=>
  rw[h1] at CN
  cases h2:tIs L st ⟨#[116,114,117,101]⟩ with
  |true=>
   rw[h2] at C1
   have HM:=jD (jcF (d:=d) HTL hfi h1 (.inl h2))
   generalize cur L st=T at *
   obtain⟨ek,et,ea⟩:=T
   unfold tkA at *
   dsimp only at *
   have KN:=jD CN;have KK:=jD CK;have K1:=jD C1;have K2:=jD C2
   have HA0:=jD h
   have HLT:=jD h.fix.lt;have HRW:=jD h.fix.lt
   have A0:=jD (h.alloc jZ);obtain⟨B0,XR0,HPR,HLS⟩:=jS h.fix.lt
   clear h CN CK C1 C2 C3 CE CP K hd h1 h2 hfi HTL
   go_enter Tryz.func101,Tryz.ntmps101
   go_wp2_with (go_at_call 130;refine jR (KN.out _ A0) B0 XR0 HPR fun w1 A1 B1 XR1=>?_)
   refine jD ?_
   go_wp2_with (go_at_call 37;refine jR (K1.out _ A1) B1 XR1 HPR fun w2 A2 B2 XR2=>?_)
   refine jD ?_
   go_wp2_with (go_at_call 109;refine jR (KK.out _ A2) B2 XR2 HPR fun w3 A3 B3 XR3=>?_)
   refine jD ?_
   have A3a:=jD (A3.out.alloc (jU ek et ea));have B3a:=jD (B3.out.alloc HRW (jU ek et ea))
   have XR3a:=jD (XR3.out.alloc (jU ek et ea))
   have PTT:=nR A3.out.fix.lt
   have TT3a:=jD (Bx3.new w3 (.int .i64 ek) (.string et) (.int .i64 ea))
   obtain⟨yTT0,yTT1,yTT2,-,-⟩:=TT3a.out
   go_wp2_with (go_at_call 40;refine cM (jau _ _ _ _ _ _ _) ?_;rintro e w4 ⟨rfl,hb4⟩)
   have hbx:=Butt.of_below (R:=R) A3a.out.fix.lt hb4
   have ha4:At R L w4 _ _:=⟨A3a.out.fix.butt hbx,A3a.out.rs.below hb4⟩
   have TN:=jD (jac.mpr ⟨_,rfl,(Or.inl ⟨rfl,rfl⟩)⟩:synIn (offs w.heap.size [w.heap.size]) w4 (.mk 23 ea et 0 []) _)
   have hb4:=hbx;clear hbx
   have A4:=jD ha4;have B4:=jtt B3a hb4
   have XR4:=jbb XR3a HPR hb4
   have TT4:=jD (TT3a.out.butt PTT hb4)
   clear ha4 hb4
   refine jD ?_
   have FT:=jD (ja4 HA0 B4 A4 XR4 (jrr _) (.int .i64 23) (.int .i64 ea) (.string et) (.int .i64 0) (.slice none 0 0) _ rfl)
   have GX:=jD ((TN.out).kept (by simp) FT.out.2.2.2).at
   obtain⟨yXR0,yXR1,yXR2,yXR3,yXR4,fXR0,fXR1,fXR2,fXR3,fXR4⟩:=bF XR4
   obtain⟨r0,r1,r2,r3,r4⟩:=FT.out.1
   have GA:=jD FT.out.2.1;have GB:=jD FT.out.2.2.1
   clear FT
   go_wp2
   refine bodyPost_ret (by simp[results,Tryz.results101,go_sem,r0,r1,r2,r3,r4];rfl) rfl ?_
   exact⟨_,_,_,rfl,GX.out,HM.out,GA.out,GB.out⟩
  |false=>
   rw[h2] at C1
   cases h3:tIs L st ⟨#[102,97,108,115,101]⟩ with
   |true=>
    rw[h3] at C2
    have HM:=jD (jcF (d:=d) HTL hfi h1 (.inr h3))
    generalize cur L st=T at *
    obtain⟨ek,et,ea⟩:=T
    unfold tkA at *
    dsimp only at *
    have KN:=jD CN;have KK:=jD CK;have K1:=jD C1;have K2:=jD C2
    have HA0:=jD h
    have HLT:=jD h.fix.lt;have HRW:=jD h.fix.lt
    have A0:=jD (h.alloc jZ);obtain⟨B0,XR0,HPR,HLS⟩:=jS h.fix.lt
    clear h CN CK C1 C2 C3 CE CP K hd h1 h2 hfi HTL h3
    go_enter Tryz.func101,Tryz.ntmps101
    go_wp2_with (go_at_call 130;refine jR (KN.out _ A0) B0 XR0 HPR fun w1 A1 B1 XR1=>?_)
    refine jD ?_
    go_wp2_with (go_at_call 37;refine jR (K1.out _ A1) B1 XR1 HPR fun w2 A2 B2 XR2=>?_)
    refine jD ?_
    go_wp2_with (go_at_call 37;refine jR (K2.out _ A2) B2 XR2 HPR fun w3 A3 B3 XR3=>?_)
    refine jD ?_
    go_wp2_with (go_at_call 109;refine jR (KK.out _ A3) B3 XR3 HPR fun w4 A4 B4 XR4=>?_)
    refine jD ?_
    have A4a:=jD (A4.out.alloc (jU ek et ea));have B4a:=jD (B4.out.alloc HRW (jU ek et ea))
    have XR4a:=jD (XR4.out.alloc (jU ek et ea))
    have PTT:=nR A4.out.fix.lt
    have TT4a:=jD (Bx3.new w4 (.int .i64 ek) (.string et) (.int .i64 ea))
    obtain⟨yTT0,yTT1,yTT2,-,-⟩:=TT4a.out
    go_wp2_with (go_at_call 40;refine cM (jau _ _ _ _ _ _ _) ?_;rintro e w5 ⟨rfl,hb5⟩)
    have hbx:=Butt.of_below (R:=R) A4a.out.fix.lt hb5
    have ha5:At R L w5 _ _:=⟨A4a.out.fix.butt hbx,A4a.out.rs.below hb5⟩
    have TN:=jD (jac.mpr ⟨_,rfl,(Or.inl ⟨rfl,rfl⟩)⟩:synIn (offs w.heap.size [w.heap.size]) w5 (.mk 23 ea et 0 []) _)
    have hb5:=hbx;clear hbx
    have A5:=jD ha5;have B5:=jtt B4a hb5
    have XR5:=jbb XR4a HPR hb5
    have TT5:=jD (TT4a.out.butt PTT hb5)
    clear ha5 hb5
    refine jD ?_
    have FT:=jD (ja4 HA0 B5 A5 XR5 (jrr _) (.int .i64 23) (.int .i64 ea) (.string et) (.int .i64 0) (.slice none 0 0) _ rfl)
    have GX:=jD ((TN.out).kept (by simp) FT.out.2.2.2).at
    obtain⟨yXR0,yXR1,yXR2,yXR3,yXR4,fXR0,fXR1,fXR2,fXR3,fXR4⟩:=bF XR5
    obtain⟨r0,r1,r2,r3,r4⟩:=FT.out.1
    have GA:=jD FT.out.2.1;have GB:=jD FT.out.2.2.1
    clear FT
    go_wp2
    refine bodyPost_ret (by simp[results,Tryz.results101,go_sem,r0,r1,r2,r3,r4];rfl) rfl ?_
    exact⟨_,_,_,rfl,GX.out,HM.out,GA.out,GB.out⟩
   |false=>
    rw[h3] at C2
    cases h4:tIs L st ⟨#[40]⟩ with
    |true=>
     rw[h4] at C3 CE
     have KQ:=K h4
     have HM:=jD (fun x s'=>jeK (x:=x) (st1:=s') (d:=d) HTL h1 h2 h3 h4)
     have KN:=jD CN;have K1:=jD C1;have K2:=jD C2;have K3:=jD C3;have KE:=jD CE;have KC:=jD KQ;have HD:=jD hd
     have HA0:=jD h
     have HLT:=jD h.fix.lt;have HRW:=jD h.fix.lt
     have A0:=jD (h.alloc jZ);obtain⟨B0,XR0,HPR,HLS⟩:=jS h.fix.lt
     clear h CN CK C1 C2 C3 CE CP K KQ hd h1 h2 h3 h4 hfi HTL
     go_enter Tryz.func101,Tryz.ntmps101
     go_wp2_with (go_at_call 130;refine jR (KN.out _ A0) B0 XR0 HPR fun w1 A1 B1 XR1=>?_)
     refine jD ?_
     go_wp2_with (go_at_call 37;refine jR (K1.out _ A1) B1 XR1 HPR fun w2 A2 B2 XR2=>?_)
     refine jD ?_
     go_wp2_with (go_at_call 37;refine jR (K2.out _ A2) B2 XR2 HPR fun w3 A3 B3 XR3=>?_)
     refine jD ?_
     go_wp2_with (go_at_call 37;refine jR (K3.out _ A3) B3 XR3 HPR fun w4 A4 B4 XR4=>?_)
     refine jD ?_
     go_wp2_with (go_at_call 113;refine jR (KE.out _ A4) B4 XR4 HPR fun w5 A5 B5 XR5=>?_)
     refine jD ?_
     go_wp2_with (go_at_call 31;refine jT (KC.out _ A5) B5 XR5 HPR fun w6 k6 a6 t6 n6 o6 l6 c6 q6 s6 HS6 TR6 A6 B6 XR6=>?_)
     refine jD ?_
     have A6a:=jD (A6.out.alloc (jO k6 a6 t6 n6 o6 l6 c6));have B6a:=jD (B6.out.alloc HRW (jO k6 a6 t6 n6 o6 l6 c6))
     have XR6a:=jD (XR6.out.alloc (jO k6 a6 t6 n6 o6 l6 c6))
     have TR66a:=jww TR6 HLT A6.out.fix.lt (jO k6 a6 t6 n6 o6 l6 c6)
     have PXX:=nR A6.out.fix.lt
     have XX6a:=jD (jn5 w6 k6 a6 t6 n6 o6 l6 c6)
     go_wp2_with (go_at_call 35;refine jX (jaE A6a ⟨#[41]⟩) B6a XR6a HPR fun w7 A7 B7 XR7 hb7=>?_)
     have XX7:=jbb XX6a PXX hb7
     have TR67:=jvv TR66a HLT hb7
     clear hb7
     refine jD ?_
     go_wp2_with (go_at_call 116;refine jX (jfy A7 HD) B7 XR7 HPR fun w8 A8 B8 XR8 hb8=>?_)
     have XX8:=jbb XX7 PXX hb8
     have TR68:=jvv TR67 HLT hb8
     clear hb8
     refine jD ?_
     obtain⟨yXX0,yXX1,yXX2,yXX3,yXX4,-,-⟩:=XX8.out
     have FT:=jD (ja4 HA0 B8 A8 XR8 (jrr _) (.int .i64 k6) (.int .i64 a6) (.string t6) (.int .i64 n6) (.slice o6 l6 c6) _ rfl)
     have GX:=jD ((TR68.out).kept (by simp) FT.out.2.2.2).at
     obtain⟨yXR0,yXR1,yXR2,yXR3,yXR4,fXR0,fXR1,fXR2,fXR3,fXR4⟩:=bF XR8
     obtain⟨r0,r1,r2,r3,r4⟩:=FT.out.1
     have GA:=jD FT.out.2.1;have GB:=jD FT.out.2.2.1
     clear FT
     go_wp2
     refine bodyPost_ret (by simp[results,Tryz.results101,go_sem,r0,r1,r2,r3,r4];rfl) rfl ?_
     exact⟨_,_,_,rfl,GX.out,HM.out _ _ HS6,GA.out,GB.out⟩
    |false=>
     rw[h4] at C3
     have HM:=jD (fun x s'=>jdC (x:=x) (st':=s') (d:=d) HTL h1 h2 h3 h4)
     have KN:=jD CN;have K1:=jD C1;have K2:=jD C2;have K3:=jD C3;have KP:=jD CP
     have HA0:=jD h
     have HLT:=jD h.fix.lt;have HRW:=jD h.fix.lt
     have A0:=jD (h.alloc jZ);obtain⟨B0,XR0,HPR,HLS⟩:=jS h.fix.lt
     clear h CN CK C1 C2 C3 CE CP K hd h1 h2 h3 h4 hfi HTL
     go_enter Tryz.func101,Tryz.ntmps101
     go_wp2_with (go_at_call 130;refine jR (KN.out _ A0) B0 XR0 HPR fun w1 A1 B1 XR1=>?_)
     refine jD ?_
     go_wp2_with (go_at_call 37;refine jR (K1.out _ A1) B1 XR1 HPR fun w2 A2 B2 XR2=>?_)
     refine jD ?_
     go_wp2_with (go_at_call 37;refine jR (K2.out _ A2) B2 XR2 HPR fun w3 A3 B3 XR3=>?_)
     refine jD ?_
     go_wp2_with (go_at_call 37;refine jR (K3.out _ A3) B3 XR3 HPR fun w4 A4 B4 XR4=>?_)
     refine jD ?_
     go_wp2_with (go_at_call 131;refine jT (KP.out _ A4) B4 XR4 HPR fun w5 k5 a5 t5 n5 o5 l5 c5 q5 s5 HS5 TR5 A5 B5 XR5=>?_)
     refine jD ?_
     have FT:=jD (ja4 HA0 B5 A5 XR5 (jrr _) (.int .i64 k5) (.int .i64 a5) (.string t5) (.int .i64 n5) (.slice o5 l5 c5) _ rfl)
     have GX:=jD ((TR5.out).kept (by simp) FT.out.2.2.2).at
     obtain⟨yXR0,yXR1,yXR2,yXR3,yXR4,fXR0,fXR1,fXR2,fXR3,fXR4⟩:=bF XR5
     obtain⟨r0,r1,r2,r3,r4⟩:=FT.out.1
     have GA:=jD FT.out.2.1;have GB:=jD FT.out.2.2.1
     clear FT
     go_wp2
     refine bodyPost_ret (by simp[results,Tryz.results101,go_sem,r0,r1,r2,r3,r4];rfl) rfl ?_
     exact⟨_,_,_,rfl,GX.out,HM.out _ _ HS5,GA.out,GB.out⟩
def remW (R:Nat) (L:List Tk) (W:World):Nat:=match W.cell? ⟨R,1,none⟩ with
 |some (.int _ z)=>L.length-z.toNat
 |_=>0
theorem jbr {R d:Nat} {L l:List Tk} {W:World} (h:At R L W d (.ok l)):remW R L W=l.length:=by
 obtain⟨hf,nx,a,er,h1,h2,h3⟩:=h
 rcases h3 with ⟨-,-,h3⟩|⟨-,-,h3⟩
 ·cases h3
  unfold remW
  rw[h2.c1]
  simp
 ·cases h3
theorem jbv {R d:Nat} {L:List Tk} {W:World} {st:RSt} (h:At R L W d st):remW R L W≤max 1 st.rem:=by
 cases st with
 |ok l=>rw[jbr h];exact Nat.le_max_right _ _
 |bad a e=>
  obtain⟨hf,nx,a,er,h1,h2,h3⟩:=h
  rcases h3 with ⟨-,-,h3⟩|⟨-,rfl,h3⟩
  ·cases h3
  ·unfold remW
   rw[h2.c1]
   simp only[Int.toNat_natCast]
   omega
theorem rem_less {L:List Tk} {st:RSt} (hL:TkL L) {R d:Nat} {W:World} (h:At R L W d st) (hb:(cur L st).t≠⟨#[]⟩):∃ l,st = .ok l∧(jaq st).rem+1=l.length∧2≤l.length:=by
 obtain⟨hf,nx,a,er,h1,h2,h3⟩:=h
 have hc:=jbt h1 h3
 rcases h3 with ⟨-,-,rfl⟩|⟨-,rfl,rfl⟩
 ·have hlt:nx+1<L.length:=by
   refine Nat.lt_of_not_le fun e=>hb ?_
   rw[hc,show nx=L.length-1 by omega]
   exact hL.last.2
  refine⟨_,rfl,?_,by rw[List.length_drop];omega⟩
  show (pTl (L.drop nx)).length+1=_
  rw[jdA h1,List.length_drop,List.length_drop]
  omega
 ·exact absurd hL.last.2 (by rw[←hc] at *;exact hb)
theorem jeL {i:Nat} {t:ByteArray} (h:Lib.containsS (lvO i) t=true):t≠⟨#[]⟩:=by
 rintro rfl
 rw[jiZ] at h
 match i with
 |0|1|2|3|4|5|6=>exact absurd h (by decide)
 |n+7=>exact absurd h (by simp[pOps])
structure RepAt (R:Nat) (L:List Tk) (w:World) (d:Nat) (st:RSt) (i:Nat) (a0:Int) (b6:Nat) (wr:World) (s:RSt) (z:Syn) (k a n:Int) (t:ByteArray) (o:Option Addr) (l c:Nat):Prop where
 hat:At R L wr d s
 hb:Butt R w wr
 xr:Bx5 wr w.heap.size (.int .i64 0) (.int .i64 0) (.string ⟨#[]⟩) (.int .i64 0) (.slice none 0 0)
 xl:Bx5 wr b6 (.int .i64 k) (.int .i64 a) (.string t) (.int .i64 n) (.slice o l c)
 tr:synIn (offs w.heap.size [b6,w.heap.size]) wr z (.agg #[.int .i64 k,.int .i64 a,.string t,.int .i64 n,.slice o l c])
 rem:s.rem≤st.rem
 go:∀ ys s',Stp (.rep i a0 [z]) d s ys s'→Stp (.lvl i) d st ys s'
theorem jij {R:Nat} {L:List Tk} {d:Nat} {st:RSt} {w:World} (h:At R L w d st) (K:∀ s:RSt,s.rem≤st.rem→GT 65 R L #[.pointer (some ⟨R,0,none⟩),.int .i64 1] (.lvl 1) d s) :
  Calls Tryz.prog 98 #[.pointer (some ⟨R,0,none⟩),.int .i64 0] w (PT R L (.lvl 0) d st w):=by
 have HTL:=jD h.fix.toks
 have KL:=jD K
 clear K
 have HA0:=jD h
 have HLT:=jD h.fix.lt;have HRW:=jD h.fix.lt
 have A0:=jD (h.alloc jZ);obtain⟨B0,XR0,HPR,HLS⟩:=jS h.fix.lt
 clear h 
 go_enter Tryz.func98,Tryz.ntmps98
 have CH:=fun W (H:At R L W d st)=>jeG H
 have KH:=jD CH;clear CH
 go_wp2_with (go_at_call 36;refine jR (KH.out _ A0) B0 XR0 HPR fun w1 A1 B1 XR1=>?_)
 refine jD ?_
 go_wp2_with (go_at_call 65;refine jT (KL.out st (jrr _) _ A1) B1 XR1 HPR fun w2 k2 a2 t2 n2 o2 l2 c2 q2 s2 HS2 TR2 A2 B2 XR2=>?_)
 refine jD ?_
 have TC:=jD (TR2.out.cons (q:=w2.heap.size) (jrr _))
 have HR0:=jD (Run.rem HS2);have HG0:=jD (jch (L:=L) (i:=0) (by omega) HS2)
 have A2a:=jD (A2.out.alloc (jO k2 a2 t2 n2 o2 l2 c2));have B2a:=jD (B2.out.alloc HRW (jO k2 a2 t2 n2 o2 l2 c2))
 have XR2a:=jD (XR2.out.alloc (jO k2 a2 t2 n2 o2 l2 c2))
 have TC2a:=jD (TC.out.butt HLT (Butt.of_below A2.out.fix.lt (jN (jO k2 a2 t2 n2 o2 l2 c2))))
 have PXL:=nR A2.out.fix.lt
 have XL2a:=jD (jn5 w2 k2 a2 t2 n2 o2 l2 c2)
 go_wp2_with fail
 have HLP:Hid (RepAt R L w d st 0 (cur L st).a w2.heap.size _ s2 _ k2 a2 n2 t2 o2 l2 c2):=jD ⟨A2a.out,B2a.out,XR2a.out,XL2a.out,TC2a.out,HR0.out,HG0.out⟩
 have HPL:=PXL
 generalize w2.alloc (jO k2 a2 t2 n2 o2 l2 c2)=WB at *
 have H6P:Hid (w2.heap.size≠w.heap.size):=jD (fun e=>by have:=XR2.out.lt;omega)
 have HB6:Hid (w.heap.size≤w2.heap.size):=jD B2.out.size
 generalize w2.heap.size=b6 at *
 go_loopw [] (fun wr=>∃ (s:RSt) (z:Syn) (k a n:Int) (t:ByteArray) (o:Option Addr) (l c:Nat),RepAt R L w d st 0 (cur L st).a b6 wr s z k a n t o l c) (fun wr=>remW R L wr)
 case atStart=>exact⟨s2,_,k2,a2,n2,t2,o2,l2,c2,HLP.out⟩
 case round=>
  obtain⟨s,z,k,a,n,t,o,l,c,hrel⟩:=hrel
  have CO:=jmb hrel.hat
  cases hb:Lib.containsS (lvO 0) (cur L s).t with
  |true=>
   rw[hb] at CO
   have KO:=jD CO;have HBB:=jD hb;have HR:=jD hrel;clear CO hb
   have A0:=jD hrel.hat;have B0:=jD hrel.hb;have XR0:=jD hrel.xr;have XL0:=jD hrel.xl;have TZ:=jD hrel.tr
   clear hrel
   go_wp2_with (go_at_call 128;refine jX (KO.out) B0 XR0 HPR fun w1 A1 B1 XR1 hb1=>?_)
   have XL1:=jbb XL0 HPL hb1
   have TZ1:=jD (TZ.out.butt HLT hb1)
   clear hb1
   refine jD ?_
   obtain⟨yXL0,yXL1,yXL2,yXL3,yXL4,-,-⟩:=XL1.out
   have COP:=jc7 0 w.heap.size (by decide) (cur L st).a A1 ⟨HLT.out,B1.out.size⟩ [b6,w.heap.size] (fun p hp=>by simp only[List.mem_cons,List.not_mem_nil,or_false] at hp;have g0:=XR1.out.lt;have g1:=XL1.out.lt;omega) (KL.out (jaq s) (Nat.le_trans (ja6 _) HR.out.rem)) k a n t o l c z TZ1
   have KOP:=jD COP;clear COP
   go_wp2_with (go_at_call 129;refine cM (KOP.out) ?_;rintro e w2 ⟨y2,v2,s2,rfl,hx2,hs2,ha2,hb2⟩)
   obtain⟨k2,a2,t2,n2,o2,l2,c2,q2,hq2,rfl⟩:=hx2.shape
   have TR2:=jD hx2;have HS2:=jD hs2
   have A2:=jD ha2;have B2:=jtt B1 hb2
   have XR2:=jbb XR1 HPR hb2
   have XL2:=jbb XL1 HPL hb2
   have TZ2:=jD (TZ1.out.butt HLT hb2)
   clear ha2 hb2 hx2 hs2
   refine jD ?_
   have FT:=jD (ja4 HA0 B2 A2 XL2 HB6 (.int .i64 k2) (.int .i64 a2) (.string t2) (.int .i64 n2) (.slice o2 l2 c2) _ rfl)
   clear yXL0 yXL1 yXL2 yXL3 yXL4
   obtain⟨yXL0,yXL1,yXL2,yXL3,yXL4,fXL0,fXL1,fXL2,fXL3,fXL4⟩:=bF XL2
   have hxr:=XR2.out.kept (Ne.symm H6P) FT.out.2.2.2
   have htr:=TR2.out.kept (q:=b6) (by simp) FT.out.2.2.2
   have HNX:Hid (RepAt R L w d st 0 (cur L st).a b6 _ s2 _ k2 a2 n2 t2 o2 l2 c2):=jD ⟨FT.out.2.1,FT.out.2.2.1,hxr,FT.out.1,htr,Nat.le_trans (Run.rem HS2) (Nat.le_trans (ja6 _) HR.out.rem),fun ys s' hs=>HR.out.go ys s' (jcq HTL HBB HS2 ys s' hs)⟩
   clear hxr htr
   go_wp2
   go_roundw
   case rel=>exact⟨s2,_,k2,a2,n2,t2,o2,l2,c2,HNX.out⟩
   case measure=>
    obtain⟨l1,e1,e2,e3⟩:=rem_less HTL HR.out.hat (jeL HBB)
    have g1:=jbr (e1 ▸ HR.out.hat)
    have g2:=jbv HNX.out.hat
    have g3:=Run.rem HS2
    rw[g1]
    omega
  |false=>
   rw[hb] at CO
   have KO:=jD CO;have HBB:=jD hb;have HR:=jD hrel;clear CO hb
   have A0:=jD hrel.hat;have B0:=jD hrel.hb;have XR0:=jD hrel.xr;have XL0:=jD hrel.xl;have TZ:=jD hrel.tr
   clear hrel
   go_wp2_with (go_at_call 128;refine jX (KO.out) B0 XR0 HPR fun w1 A1 B1 XR1 hb1=>?_)
   have XL1:=jbb XL0 HPL hb1
   have TZ1:=jD (TZ.out.butt HLT hb1)
   clear hb1
   refine jD ?_
   obtain⟨yXL0,yXL1,yXL2,yXL3,yXL4,-,-⟩:=XL1.out
   have TR99:=TZ1
   have FT:=jD (ja4 HA0 B1 A1 XR1 (jrr _) (.int .i64 k) (.int .i64 a) (.string t) (.int .i64 n) (.slice o l c) _ rfl)
   have GX:=jD ((TZ1.out).kept (by simp) FT.out.2.2.2).at
   obtain⟨yXR0,yXR1,yXR2,yXR3,yXR4,fXR0,fXR1,fXR2,fXR3,fXR4⟩:=bF XR1
   obtain⟨r0,r1,r2,r3,r4⟩:=FT.out.1
   have GA:=jD FT.out.2.1;have GB:=jD FT.out.2.2.1
   clear FT
   go_wp2
   refine bodyPost_ret (by simp[results,Tryz.results98,go_sem,r0,r1,r2,r3,r4];rfl) rfl ?_
   exact⟨_,_,_,rfl,GX.out,HR.out.go _ _ (jc8 HR.out.hat.fine HBB),GA.out,GB.out⟩
theorem jik {R:Nat} {L:List Tk} {d:Nat} {st:RSt} {w:World} (h:At R L w d st) (K:∀ s:RSt,s.rem≤st.rem→GT 65 R L #[.pointer (some ⟨R,0,none⟩),.int .i64 2] (.lvl 2) d s) :
  Calls Tryz.prog 98 #[.pointer (some ⟨R,0,none⟩),.int .i64 1] w (PT R L (.lvl 1) d st w):=by
 have HTL:=jD h.fix.toks
 have KL:=jD K
 clear K
 have HA0:=jD h
 have HLT:=jD h.fix.lt;have HRW:=jD h.fix.lt
 have A0:=jD (h.alloc jZ);obtain⟨B0,XR0,HPR,HLS⟩:=jS h.fix.lt
 clear h 
 go_enter Tryz.func98,Tryz.ntmps98
 have CH:=fun W (H:At R L W d st)=>jeG H
 have KH:=jD CH;clear CH
 go_wp2_with (go_at_call 36;refine jR (KH.out _ A0) B0 XR0 HPR fun w1 A1 B1 XR1=>?_)
 refine jD ?_
 go_wp2_with (go_at_call 65;refine jT (KL.out st (jrr _) _ A1) B1 XR1 HPR fun w2 k2 a2 t2 n2 o2 l2 c2 q2 s2 HS2 TR2 A2 B2 XR2=>?_)
 refine jD ?_
 have TC:=jD (TR2.out.cons (q:=w2.heap.size) (jrr _))
 have HR0:=jD (Run.rem HS2);have HG0:=jD (jch (L:=L) (i:=1) (by omega) HS2)
 have A2a:=jD (A2.out.alloc (jO k2 a2 t2 n2 o2 l2 c2));have B2a:=jD (B2.out.alloc HRW (jO k2 a2 t2 n2 o2 l2 c2))
 have XR2a:=jD (XR2.out.alloc (jO k2 a2 t2 n2 o2 l2 c2))
 have TC2a:=jD (TC.out.butt HLT (Butt.of_below A2.out.fix.lt (jN (jO k2 a2 t2 n2 o2 l2 c2))))
 have PXL:=nR A2.out.fix.lt
 have XL2a:=jD (jn5 w2 k2 a2 t2 n2 o2 l2 c2)
 go_wp2_with fail
 have HLP:Hid (RepAt R L w d st 1 (cur L st).a w2.heap.size _ s2 _ k2 a2 n2 t2 o2 l2 c2):=jD ⟨A2a.out,B2a.out,XR2a.out,XL2a.out,TC2a.out,HR0.out,HG0.out⟩
 have HPL:=PXL
 generalize w2.alloc (jO k2 a2 t2 n2 o2 l2 c2)=WB at *
 have H6P:Hid (w2.heap.size≠w.heap.size):=jD (fun e=>by have:=XR2.out.lt;omega)
 have HB6:Hid (w.heap.size≤w2.heap.size):=jD B2.out.size
 generalize w2.heap.size=b6 at *
 go_loopw [] (fun wr=>∃ (s:RSt) (z:Syn) (k a n:Int) (t:ByteArray) (o:Option Addr) (l c:Nat),RepAt R L w d st 1 (cur L st).a b6 wr s z k a n t o l c) (fun wr=>remW R L wr)
 case atStart=>exact⟨s2,_,k2,a2,n2,t2,o2,l2,c2,HLP.out⟩
 case round=>
  obtain⟨s,z,k,a,n,t,o,l,c,hrel⟩:=hrel
  have CO:=jmc hrel.hat
  cases hb:Lib.containsS (lvO 1) (cur L s).t with
  |true=>
   rw[hb] at CO
   have KO:=jD CO;have HBB:=jD hb;have HR:=jD hrel;clear CO hb
   have A0:=jD hrel.hat;have B0:=jD hrel.hb;have XR0:=jD hrel.xr;have XL0:=jD hrel.xl;have TZ:=jD hrel.tr
   clear hrel
   go_wp2_with (go_at_call 128;refine jX (KO.out) B0 XR0 HPR fun w1 A1 B1 XR1 hb1=>?_)
   have XL1:=jbb XL0 HPL hb1
   have TZ1:=jD (TZ.out.butt HLT hb1)
   clear hb1
   refine jD ?_
   obtain⟨yXL0,yXL1,yXL2,yXL3,yXL4,-,-⟩:=XL1.out
   have COP:=jc7 1 w.heap.size (by decide) (cur L st).a A1 ⟨HLT.out,B1.out.size⟩ [b6,w.heap.size] (fun p hp=>by simp only[List.mem_cons,List.not_mem_nil,or_false] at hp;have g0:=XR1.out.lt;have g1:=XL1.out.lt;omega) (KL.out (jaq s) (Nat.le_trans (ja6 _) HR.out.rem)) k a n t o l c z TZ1
   have KOP:=jD COP;clear COP
   go_wp2_with (go_at_call 129;refine cM (KOP.out) ?_;rintro e w2 ⟨y2,v2,s2,rfl,hx2,hs2,ha2,hb2⟩)
   obtain⟨k2,a2,t2,n2,o2,l2,c2,q2,hq2,rfl⟩:=hx2.shape
   have TR2:=jD hx2;have HS2:=jD hs2
   have A2:=jD ha2;have B2:=jtt B1 hb2
   have XR2:=jbb XR1 HPR hb2
   have XL2:=jbb XL1 HPL hb2
   have TZ2:=jD (TZ1.out.butt HLT hb2)
   clear ha2 hb2 hx2 hs2
   refine jD ?_
   have FT:=jD (ja4 HA0 B2 A2 XL2 HB6 (.int .i64 k2) (.int .i64 a2) (.string t2) (.int .i64 n2) (.slice o2 l2 c2) _ rfl)
   clear yXL0 yXL1 yXL2 yXL3 yXL4
   obtain⟨yXL0,yXL1,yXL2,yXL3,yXL4,fXL0,fXL1,fXL2,fXL3,fXL4⟩:=bF XL2
   have hxr:=XR2.out.kept (Ne.symm H6P) FT.out.2.2.2
   have htr:=TR2.out.kept (q:=b6) (by simp) FT.out.2.2.2
   have HNX:Hid (RepAt R L w d st 1 (cur L st).a b6 _ s2 _ k2 a2 n2 t2 o2 l2 c2):=jD ⟨FT.out.2.1,FT.out.2.2.1,hxr,FT.out.1,htr,Nat.le_trans (Run.rem HS2) (Nat.le_trans (ja6 _) HR.out.rem),fun ys s' hs=>HR.out.go ys s' (jcq HTL HBB HS2 ys s' hs)⟩
   clear hxr htr
   go_wp2
   go_roundw
   case rel=>exact⟨s2,_,k2,a2,n2,t2,o2,l2,c2,HNX.out⟩
   case measure=>
    obtain⟨l1,e1,e2,e3⟩:=rem_less HTL HR.out.hat (jeL HBB)
    have g1:=jbr (e1 ▸ HR.out.hat)
    have g2:=jbv HNX.out.hat
    have g3:=Run.rem HS2
    rw[g1]
    omega
  |false=>
   rw[hb] at CO
   have KO:=jD CO;have HBB:=jD hb;have HR:=jD hrel;clear CO hb
   have A0:=jD hrel.hat;have B0:=jD hrel.hb;have XR0:=jD hrel.xr;have XL0:=jD hrel.xl;have TZ:=jD hrel.tr
   clear hrel
   go_wp2_with (go_at_call 128;refine jX (KO.out) B0 XR0 HPR fun w1 A1 B1 XR1 hb1=>?_)
   have XL1:=jbb XL0 HPL hb1
   have TZ1:=jD (TZ.out.butt HLT hb1)
   clear hb1
   refine jD ?_
   obtain⟨yXL0,yXL1,yXL2,yXL3,yXL4,-,-⟩:=XL1.out
   have TR99:=TZ1
   have FT:=jD (ja4 HA0 B1 A1 XR1 (jrr _) (.int .i64 k) (.int .i64 a) (.string t) (.int .i64 n) (.slice o l c) _ rfl)
   have GX:=jD ((TZ1.out).kept (by simp) FT.out.2.2.2).at
   obtain⟨yXR0,yXR1,yXR2,yXR3,yXR4,fXR0,fXR1,fXR2,fXR3,fXR4⟩:=bF XR1
   obtain⟨r0,r1,r2,r3,r4⟩:=FT.out.1
   have GA:=jD FT.out.2.1;have GB:=jD FT.out.2.2.1
   clear FT
   go_wp2
   refine bodyPost_ret (by simp[results,Tryz.results98,go_sem,r0,r1,r2,r3,r4];rfl) rfl ?_
   exact⟨_,_,_,rfl,GX.out,HR.out.go _ _ (jc8 HR.out.hat.fine HBB),GA.out,GB.out⟩
theorem jil {R:Nat} {L:List Tk} {d:Nat} {st:RSt} {w:World} (h:At R L w d st) (K:∀ s:RSt,s.rem≤st.rem→GT 65 R L #[.pointer (some ⟨R,0,none⟩),.int .i64 5] (.lvl 5) d s) :
  Calls Tryz.prog 98 #[.pointer (some ⟨R,0,none⟩),.int .i64 4] w (PT R L (.lvl 4) d st w):=by
 have HTL:=jD h.fix.toks
 have KL:=jD K
 clear K
 have HA0:=jD h
 have HLT:=jD h.fix.lt;have HRW:=jD h.fix.lt
 have A0:=jD (h.alloc jZ);obtain⟨B0,XR0,HPR,HLS⟩:=jS h.fix.lt
 clear h 
 go_enter Tryz.func98,Tryz.ntmps98
 have CH:=fun W (H:At R L W d st)=>jeG H
 have KH:=jD CH;clear CH
 go_wp2_with (go_at_call 36;refine jR (KH.out _ A0) B0 XR0 HPR fun w1 A1 B1 XR1=>?_)
 refine jD ?_
 go_wp2_with (go_at_call 65;refine jT (KL.out st (jrr _) _ A1) B1 XR1 HPR fun w2 k2 a2 t2 n2 o2 l2 c2 q2 s2 HS2 TR2 A2 B2 XR2=>?_)
 refine jD ?_
 have TC:=jD (TR2.out.cons (q:=w2.heap.size) (jrr _))
 have HR0:=jD (Run.rem HS2);have HG0:=jD (jch (L:=L) (i:=4) (by omega) HS2)
 have A2a:=jD (A2.out.alloc (jO k2 a2 t2 n2 o2 l2 c2));have B2a:=jD (B2.out.alloc HRW (jO k2 a2 t2 n2 o2 l2 c2))
 have XR2a:=jD (XR2.out.alloc (jO k2 a2 t2 n2 o2 l2 c2))
 have TC2a:=jD (TC.out.butt HLT (Butt.of_below A2.out.fix.lt (jN (jO k2 a2 t2 n2 o2 l2 c2))))
 have PXL:=nR A2.out.fix.lt
 have XL2a:=jD (jn5 w2 k2 a2 t2 n2 o2 l2 c2)
 go_wp2_with fail
 have HLP:Hid (RepAt R L w d st 4 (cur L st).a w2.heap.size _ s2 _ k2 a2 n2 t2 o2 l2 c2):=jD ⟨A2a.out,B2a.out,XR2a.out,XL2a.out,TC2a.out,HR0.out,HG0.out⟩
 have HPL:=PXL
 generalize w2.alloc (jO k2 a2 t2 n2 o2 l2 c2)=WB at *
 have H6P:Hid (w2.heap.size≠w.heap.size):=jD (fun e=>by have:=XR2.out.lt;omega)
 have HB6:Hid (w.heap.size≤w2.heap.size):=jD B2.out.size
 generalize w2.heap.size=b6 at *
 go_loopw [] (fun wr=>∃ (s:RSt) (z:Syn) (k a n:Int) (t:ByteArray) (o:Option Addr) (l c:Nat),RepAt R L w d st 4 (cur L st).a b6 wr s z k a n t o l c) (fun wr=>remW R L wr)
 case atStart=>exact⟨s2,_,k2,a2,n2,t2,o2,l2,c2,HLP.out⟩
 case round=>
  obtain⟨s,z,k,a,n,t,o,l,c,hrel⟩:=hrel
  have CO:=jmf hrel.hat
  cases hb:Lib.containsS (lvO 4) (cur L s).t with
  |true=>
   rw[hb] at CO
   have KO:=jD CO;have HBB:=jD hb;have HR:=jD hrel;clear CO hb
   have A0:=jD hrel.hat;have B0:=jD hrel.hb;have XR0:=jD hrel.xr;have XL0:=jD hrel.xl;have TZ:=jD hrel.tr
   clear hrel
   go_wp2_with (go_at_call 128;refine jX (KO.out) B0 XR0 HPR fun w1 A1 B1 XR1 hb1=>?_)
   have XL1:=jbb XL0 HPL hb1
   have TZ1:=jD (TZ.out.butt HLT hb1)
   clear hb1
   refine jD ?_
   obtain⟨yXL0,yXL1,yXL2,yXL3,yXL4,-,-⟩:=XL1.out
   have COP:=jc7 4 w.heap.size (by decide) (cur L st).a A1 ⟨HLT.out,B1.out.size⟩ [b6,w.heap.size] (fun p hp=>by simp only[List.mem_cons,List.not_mem_nil,or_false] at hp;have g0:=XR1.out.lt;have g1:=XL1.out.lt;omega) (KL.out (jaq s) (Nat.le_trans (ja6 _) HR.out.rem)) k a n t o l c z TZ1
   have KOP:=jD COP;clear COP
   go_wp2_with (go_at_call 129;refine cM (KOP.out) ?_;rintro e w2 ⟨y2,v2,s2,rfl,hx2,hs2,ha2,hb2⟩)
   obtain⟨k2,a2,t2,n2,o2,l2,c2,q2,hq2,rfl⟩:=hx2.shape
   have TR2:=jD hx2;have HS2:=jD hs2
   have A2:=jD ha2;have B2:=jtt B1 hb2
   have XR2:=jbb XR1 HPR hb2
   have XL2:=jbb XL1 HPL hb2
   have TZ2:=jD (TZ1.out.butt HLT hb2)
   clear ha2 hb2 hx2 hs2
   refine jD ?_
   have FT:=jD (ja4 HA0 B2 A2 XL2 HB6 (.int .i64 k2) (.int .i64 a2) (.string t2) (.int .i64 n2) (.slice o2 l2 c2) _ rfl)
   clear yXL0 yXL1 yXL2 yXL3 yXL4
   obtain⟨yXL0,yXL1,yXL2,yXL3,yXL4,fXL0,fXL1,fXL2,fXL3,fXL4⟩:=bF XL2
   have hxr:=XR2.out.kept (Ne.symm H6P) FT.out.2.2.2
   have htr:=TR2.out.kept (q:=b6) (by simp) FT.out.2.2.2
   have HNX:Hid (RepAt R L w d st 4 (cur L st).a b6 _ s2 _ k2 a2 n2 t2 o2 l2 c2):=jD ⟨FT.out.2.1,FT.out.2.2.1,hxr,FT.out.1,htr,Nat.le_trans (Run.rem HS2) (Nat.le_trans (ja6 _) HR.out.rem),fun ys s' hs=>HR.out.go ys s' (jcq HTL HBB HS2 ys s' hs)⟩
   clear hxr htr
   go_wp2
   go_roundw
   case rel=>exact⟨s2,_,k2,a2,n2,t2,o2,l2,c2,HNX.out⟩
   case measure=>
    obtain⟨l1,e1,e2,e3⟩:=rem_less HTL HR.out.hat (jeL HBB)
    have g1:=jbr (e1 ▸ HR.out.hat)
    have g2:=jbv HNX.out.hat
    have g3:=Run.rem HS2
    rw[g1]
    omega
  |false=>
   rw[hb] at CO
   have KO:=jD CO;have HBB:=jD hb;have HR:=jD hrel;clear CO hb
   have A0:=jD hrel.hat;have B0:=jD hrel.hb;have XR0:=jD hrel.xr;have XL0:=jD hrel.xl;have TZ:=jD hrel.tr
   clear hrel
   go_wp2_with (go_at_call 128;refine jX (KO.out) B0 XR0 HPR fun w1 A1 B1 XR1 hb1=>?_)
   have XL1:=jbb XL0 HPL hb1
   have TZ1:=jD (TZ.out.butt HLT hb1)
   clear hb1
   refine jD ?_
   obtain⟨yXL0,yXL1,yXL2,yXL3,yXL4,-,-⟩:=XL1.out
   have TR99:=TZ1
   have FT:=jD (ja4 HA0 B1 A1 XR1 (jrr _) (.int .i64 k) (.int .i64 a) (.string t) (.int .i64 n) (.slice o l c) _ rfl)
   have GX:=jD ((TZ1.out).kept (by simp) FT.out.2.2.2).at
   obtain⟨yXR0,yXR1,yXR2,yXR3,yXR4,fXR0,fXR1,fXR2,fXR3,fXR4⟩:=bF XR1
   obtain⟨r0,r1,r2,r3,r4⟩:=FT.out.1
   have GA:=jD FT.out.2.1;have GB:=jD FT.out.2.2.1
   clear FT
   go_wp2
   refine bodyPost_ret (by simp[results,Tryz.results98,go_sem,r0,r1,r2,r3,r4];rfl) rfl ?_
   exact⟨_,_,_,rfl,GX.out,HR.out.go _ _ (jc8 HR.out.hat.fine HBB),GA.out,GB.out⟩
theorem jim {R:Nat} {L:List Tk} {d:Nat} {st:RSt} {w:World} (h:At R L w d st) (K:∀ s:RSt,s.rem≤st.rem→GT 65 R L #[.pointer (some ⟨R,0,none⟩),.int .i64 6] (.lvl 6) d s) :
  Calls Tryz.prog 98 #[.pointer (some ⟨R,0,none⟩),.int .i64 5] w (PT R L (.lvl 5) d st w):=by
 have HTL:=jD h.fix.toks
 have KL:=jD K
 clear K
 have HA0:=jD h
 have HLT:=jD h.fix.lt;have HRW:=jD h.fix.lt
 have A0:=jD (h.alloc jZ);obtain⟨B0,XR0,HPR,HLS⟩:=jS h.fix.lt
 clear h 
 go_enter Tryz.func98,Tryz.ntmps98
 have CH:=fun W (H:At R L W d st)=>jeG H
 have KH:=jD CH;clear CH
 go_wp2_with (go_at_call 36;refine jR (KH.out _ A0) B0 XR0 HPR fun w1 A1 B1 XR1=>?_)
 refine jD ?_
 go_wp2_with (go_at_call 65;refine jT (KL.out st (jrr _) _ A1) B1 XR1 HPR fun w2 k2 a2 t2 n2 o2 l2 c2 q2 s2 HS2 TR2 A2 B2 XR2=>?_)
 refine jD ?_
 have TC:=jD (TR2.out.cons (q:=w2.heap.size) (jrr _))
 have HR0:=jD (Run.rem HS2);have HG0:=jD (jch (L:=L) (i:=5) (by omega) HS2)
 have A2a:=jD (A2.out.alloc (jO k2 a2 t2 n2 o2 l2 c2));have B2a:=jD (B2.out.alloc HRW (jO k2 a2 t2 n2 o2 l2 c2))
 have XR2a:=jD (XR2.out.alloc (jO k2 a2 t2 n2 o2 l2 c2))
 have TC2a:=jD (TC.out.butt HLT (Butt.of_below A2.out.fix.lt (jN (jO k2 a2 t2 n2 o2 l2 c2))))
 have PXL:=nR A2.out.fix.lt
 have XL2a:=jD (jn5 w2 k2 a2 t2 n2 o2 l2 c2)
 go_wp2_with fail
 have HLP:Hid (RepAt R L w d st 5 (cur L st).a w2.heap.size _ s2 _ k2 a2 n2 t2 o2 l2 c2):=jD ⟨A2a.out,B2a.out,XR2a.out,XL2a.out,TC2a.out,HR0.out,HG0.out⟩
 have HPL:=PXL
 generalize w2.alloc (jO k2 a2 t2 n2 o2 l2 c2)=WB at *
 have H6P:Hid (w2.heap.size≠w.heap.size):=jD (fun e=>by have:=XR2.out.lt;omega)
 have HB6:Hid (w.heap.size≤w2.heap.size):=jD B2.out.size
 generalize w2.heap.size=b6 at *
 go_loopw [] (fun wr=>∃ (s:RSt) (z:Syn) (k a n:Int) (t:ByteArray) (o:Option Addr) (l c:Nat),RepAt R L w d st 5 (cur L st).a b6 wr s z k a n t o l c) (fun wr=>remW R L wr)
 case atStart=>exact⟨s2,_,k2,a2,n2,t2,o2,l2,c2,HLP.out⟩
 case round=>
  obtain⟨s,z,k,a,n,t,o,l,c,hrel⟩:=hrel
  have CO:=jmg hrel.hat
  cases hb:Lib.containsS (lvO 5) (cur L s).t with
  |true=>
   rw[hb] at CO
   have KO:=jD CO;have HBB:=jD hb;have HR:=jD hrel;clear CO hb
   have A0:=jD hrel.hat;have B0:=jD hrel.hb;have XR0:=jD hrel.xr;have XL0:=jD hrel.xl;have TZ:=jD hrel.tr
   clear hrel
   go_wp2_with (go_at_call 128;refine jX (KO.out) B0 XR0 HPR fun w1 A1 B1 XR1 hb1=>?_)
   have XL1:=jbb XL0 HPL hb1
   have TZ1:=jD (TZ.out.butt HLT hb1)
   clear hb1
   refine jD ?_
   obtain⟨yXL0,yXL1,yXL2,yXL3,yXL4,-,-⟩:=XL1.out
   have COP:=jc7 5 w.heap.size (by decide) (cur L st).a A1 ⟨HLT.out,B1.out.size⟩ [b6,w.heap.size] (fun p hp=>by simp only[List.mem_cons,List.not_mem_nil,or_false] at hp;have g0:=XR1.out.lt;have g1:=XL1.out.lt;omega) (KL.out (jaq s) (Nat.le_trans (ja6 _) HR.out.rem)) k a n t o l c z TZ1
   have KOP:=jD COP;clear COP
   go_wp2_with (go_at_call 129;refine cM (KOP.out) ?_;rintro e w2 ⟨y2,v2,s2,rfl,hx2,hs2,ha2,hb2⟩)
   obtain⟨k2,a2,t2,n2,o2,l2,c2,q2,hq2,rfl⟩:=hx2.shape
   have TR2:=jD hx2;have HS2:=jD hs2
   have A2:=jD ha2;have B2:=jtt B1 hb2
   have XR2:=jbb XR1 HPR hb2
   have XL2:=jbb XL1 HPL hb2
   have TZ2:=jD (TZ1.out.butt HLT hb2)
   clear ha2 hb2 hx2 hs2
   refine jD ?_
   have FT:=jD (ja4 HA0 B2 A2 XL2 HB6 (.int .i64 k2) (.int .i64 a2) (.string t2) (.int .i64 n2) (.slice o2 l2 c2) _ rfl)
   clear yXL0 yXL1 yXL2 yXL3 yXL4
   obtain⟨yXL0,yXL1,yXL2,yXL3,yXL4,fXL0,fXL1,fXL2,fXL3,fXL4⟩:=bF XL2
   have hxr:=XR2.out.kept (Ne.symm H6P) FT.out.2.2.2
   have htr:=TR2.out.kept (q:=b6) (by simp) FT.out.2.2.2
   have HNX:Hid (RepAt R L w d st 5 (cur L st).a b6 _ s2 _ k2 a2 n2 t2 o2 l2 c2):=jD ⟨FT.out.2.1,FT.out.2.2.1,hxr,FT.out.1,htr,Nat.le_trans (Run.rem HS2) (Nat.le_trans (ja6 _) HR.out.rem),fun ys s' hs=>HR.out.go ys s' (jcq HTL HBB HS2 ys s' hs)⟩
   clear hxr htr
   go_wp2
   go_roundw
   case rel=>exact⟨s2,_,k2,a2,n2,t2,o2,l2,c2,HNX.out⟩
   case measure=>
    obtain⟨l1,e1,e2,e3⟩:=rem_less HTL HR.out.hat (jeL HBB)
    have g1:=jbr (e1 ▸ HR.out.hat)
    have g2:=jbv HNX.out.hat
    have g3:=Run.rem HS2
    rw[g1]
    omega
  |false=>
   rw[hb] at CO
   have KO:=jD CO;have HBB:=jD hb;have HR:=jD hrel;clear CO hb
   have A0:=jD hrel.hat;have B0:=jD hrel.hb;have XR0:=jD hrel.xr;have XL0:=jD hrel.xl;have TZ:=jD hrel.tr
   clear hrel
   go_wp2_with (go_at_call 128;refine jX (KO.out) B0 XR0 HPR fun w1 A1 B1 XR1 hb1=>?_)
   have XL1:=jbb XL0 HPL hb1
   have TZ1:=jD (TZ.out.butt HLT hb1)
   clear hb1
   refine jD ?_
   obtain⟨yXL0,yXL1,yXL2,yXL3,yXL4,-,-⟩:=XL1.out
   have TR99:=TZ1
   have FT:=jD (ja4 HA0 B1 A1 XR1 (jrr _) (.int .i64 k) (.int .i64 a) (.string t) (.int .i64 n) (.slice o l c) _ rfl)
   have GX:=jD ((TZ1.out).kept (by simp) FT.out.2.2.2).at
   obtain⟨yXR0,yXR1,yXR2,yXR3,yXR4,fXR0,fXR1,fXR2,fXR3,fXR4⟩:=bF XR1
   obtain⟨r0,r1,r2,r3,r4⟩:=FT.out.1
   have GA:=jD FT.out.2.1;have GB:=jD FT.out.2.2.1
   clear FT
   go_wp2
   refine bodyPost_ret (by simp[results,Tryz.results98,go_sem,r0,r1,r2,r3,r4];rfl) rfl ?_
   exact⟨_,_,_,rfl,GX.out,HR.out.go _ _ (jc8 HR.out.hat.fine HBB),GA.out,GB.out⟩
end Go.Proofs.YtenmmmdnpglkoaaGreatDoor
