import Derived.Test.YtenmmmdnpglkoaaGreatDoorPlShelf
import Derived.Test.YtenmmmdnpglkoaaGreatDoorCut3
import Derived.WalkMore
import Derived.Test.YtenmmmdnpglkoaaGreatDoorCut7
import Derived.Test.YtenmmmdnpglkoaaGreatDoorCut6
import Derived.Test.YtenmmmdnpglkoaaGreatDoorCut36
import Derived.Test.YtenmmmdnpglkoaaGreatDoorCut38
import Derived.Test.YtenmmmdnpglkoaaGreatDoorCut35
import Derived.KernelRfl
import Derived.Lib.Repeat
set_option linter.unusedSimpArgs false
set_option linter.unusedVariables false
set_option maxRecDepth 100000
set_option maxHeartbeats 8000000
namespace Go.Proofs.YtenmmmdnpglkoaaGreatDoor
open Go Go.Proofs Go.RowKit Go.Sort
theorem bytes_app (s t:ByteArray):bytes (s++t)=bytes s++bytes t:=by
 unfold bytes
 rw[ByteArray.data_append,Array.toList_append]
theorem wl_stop {c:UInt8} (hcw:wdB c.toNat=false) (m:List UInt8):∀ l,wl (l++c::m)=wl l
 | []=>by rw[List.nil_append,jgH,hcw];rfl
 |d::l=>by rw[List.cons_append,jgH,jgH,wl_stop hcw m l]
theorem lsB_ne {c d:UInt8} (h:d≠61):lsB [c,d]=false:=by
 unfold lsB
 simp[h]
theorem sl_stop {c:UInt8} (h:c≠61) (m:List UInt8):∀ {l:List UInt8},l≠[]→sl (l++c::m)=sl l
 | [],h=>absurd rfl h
 | [x],_=>by
  unfold sl
  have:([x]++c::m).take 2=[x,c]:=rfl
  rw[this,lsB_ne h]
  simp
 |x::y::r,_=>by
  unfold sl
  simp
theorem tn_stop {x:List UInt8} (hx:x≠[]) (h:tn x=x.length) {c:UInt8} (hw:wdB c.toNat=false) (h61:c≠61) (m:List UInt8):tn (x++c::m)=x.length:=by
 unfold tn at *
 rw[wl_stop hw,sl_stop h61 m hx]
 exact h
/-- Blanks and comments in front of a line feed. -/
theorem skF (c:UInt8) (l:List UInt8):skM false (c::l)=if cls c.toNat=1 then 1+skM false l else if cls c.toNat=2 then 1+skM true l else 0:=by rw[skM]
theorem sk_none {l:List UInt8} (h1:hc l≠1) (h2:hc l≠2):skM false l=0:=by
 cases l with
 |nil=>rfl
 |cons c l=>rw[jgG] at h1 h2;rw[skM,if_neg h1,if_neg h2]
theorem tok_hc {x:List UInt8} (hx:x≠[]) (h:ter x=0):hc x≠1∧hc x≠2:=by
 unfold ter at h
 by_cases h3:hc x=3
 ·omega
 ·rw[if_neg h3] at h
  by_cases h4:hc x=4
  ·omega
  ·rw[if_neg h4] at h
   split at h
   ·cases h
   ·rename_i hs
    unfold sl at hs
    split at hs
    ·rename_i hs2
     have:=ji9 hs2.2
     omega
    ·split at hs
     ·rename_i h5
      have:hc x=5:=h5.2
      omega
     ·exact absurd rfl hs
theorem sq_fuel:∀ (f g a:Nat) (l:List UInt8),l.length<f→l.length<g→sq f a l=sq g a l
 |0,_,_,l,h,_=>by omega
 |f+1,0,_,l,_,h=>by omega
 |f+1,g+1,a,l,h1,h2=>by
  rcases jfB f a l with ⟨h,-,e⟩|⟨k,m,hk,hm,hne,hl,-,he,e⟩|⟨k,x,z,hk,hm,hx,hl,-,ht,he,-,-,e⟩
  ·rw[e]
   rw[sq,if_pos h]
   have:skM false l=l.length:=by have:=List.drop_eq_nil_iff.1 h;have:=jdw false l;omega
   rw[this]
  ·rw[e,sq,hk,hm,if_neg hne,if_neg he]
  ·have hp:0<x.length:=List.length_pos_iff.2 hx
   have hne:x++z≠[]:=fun q=>hx (List.append_eq_nil_iff.1 q).1
   have htk:tkd (x++z)=tkd x:=(jiC hx ht).2
   rw[e,sq,hk,hm,if_neg hne,if_pos he,ht,htk,List.take_left' rfl,List.drop_left' rfl,sq_fuel f g (a+k+x.length) z (by omega) (by omega)]
theorem sl_hd (c:UInt8) (r:List UInt8):sl (c::r)=if lsB [c,r.getD 0 0]=true then 2 else if cls c.toNat=5 then 1 else 0:=by
 unfold sl
 cases r with
 |nil=>
  rw[lsB_ne (by decide)]
  simp
 |cons d r=>simp
theorem sq_tok {f a k:Nat} {l x z:List UInt8} (hk:skM false l=k) (hm:l.drop k=x++z) (hx:x≠[]) (ht:tn (x++z)=x.length) (he:ter x=0) :
  sq (f+1) a l=((tkd x,x,a+k)::(sq f (a+k+x.length) z).1,(sq f (a+k+x.length) z).2):=by
 have hne:x++z≠[]:=fun q=>hx (List.append_eq_nil_iff.1 q).1
 obtain⟨h1,h2⟩:=jiC hx ht
 rw[sq,hk,hm,if_neg hne,h1,if_pos he,ht,h2,List.take_left' rfl,List.drop_left' rfl]
theorem rRead2 (s:ByteArray) (w:World):Calls Tryz.prog 11 #[.string s,.int .i64 2] w (Ans 2 s w):=jm0 2 2 (by decide) s w
abbrev RL (p q:List Syn×List Tk):Prop:=jid p.1=jid q.1∧Sim p.2 q.2
theorem bareL_append:∀ a b:List Syn,jid (a++b)=jid a++jid b
 | [],b=>by rw[jid];rfl
 |x::a,b=>by rw[List.cons_append,jid,jid,bareL_append a b];rfl
def kidsOf:Syn→List Syn
 |.mk _ _ _ _ ks=>ks
theorem bare_kids:∀ {x y:List Syn},jid x=jid y→jid (x.flatMap kidsOf)=jid (y.flatMap kidsOf)
 | [],[],_=>rfl
 | [],y::ys,h=>by rw[jid,jid] at h;cases h
 |x::xs,[],h=>by rw[jid,jid] at h;cases h
 |.mk k a t n ks::xs,.mk k' a' t' n' ls::ys,h=>by
  rw[jid,jid,List.cons.injEq,jmE,jmE,Syn.mk.injEq] at h
  rw[List.flatMap_cons,List.flatMap_cons,bareL_append,bareL_append,bare_kids h.2]
  show jid ks++_=jid ls++_
  rw[h.1.2.2.2.2]
theorem ES.oks {x y:List Syn} {l m:List Tk} (h:jid x=jid y) (g:Sim l m):ES RL (pure (x,l)) (pure (y,m)):=⟨h,g⟩
theorem ES.oks2 {x y:List Syn} {l m:List Tk} (h:jid x=jid y) (g:Sim l m):ES RL (.ok (x,l)) (.ok (y,m)):=⟨h,g⟩
theorem bare_one {k a b n:Int} {t u:ByteArray} {x y:List Syn} (h:jid x=jid y) (e:t=u):jid [.mk k a t n x]=jid [.mk k b u n y]:=by
 simp only[jid,jmE,h,e]
theorem pRead_sim:∀ (f:Nat) (w w':Want) (d:Nat) (l m:List Tk),WS w w'→Sim l m→ES RL (jaf f w d l) (jaf f w' d m)
 |0,w,w',d,l,m,_,_=>by rw[jaf,jaf];exact rfl
 |f+1,w,w',d,l,m,hw,h=>by
  have ih:∀ w w' d l m,WS w w'→Sim l m→ES RL (jaf f w d l) (jaf f w' d m):=fun w w' d l m=>pRead_sim f w w' d l m
  have t0:=h.hd.2
  have t3:=fun s=>h.is s
  have t4:=h.tl.hd.2
  cases w<;>cases w'<;>(first|(exfalso;cases hw;done)|skip)<;>(try (cases hw))<;>(try subst_vars)<;>rw[jaf,jaf]<;>(try dsimp only) <;>
   (repeat' (first
    |assumption
    |exact(rfl:(_:Nat)=_)
    |exact Sim.tl (by assumption)
    |exact Sim.tl (Sim.tl (by assumption))
    |refine Sim.ite ?_ (Sim.tl (by assumption)) (by assumption)
    |refine ES.oks ?_ ?_
    |refine ES.oks2 ?_ ?_
    |refine ih _ _ _ _ _ ?_ ?_
    |(refine ES.bind (R:=RT) (ES.name ?_) ?_;rotate_left;(rintro⟨t1,l1⟩ ⟨t2,m1⟩ ⟨⟨g1,g2⟩,g3⟩;(try dsimp only at *);have g4:=g3.hd.2);rotate_left)
    |(refine ES.bind (R:=Sim) (ES.need _ ?_) ?_;rotate_left;(intro l1 m1 g3;have g4:=g3.hd.2;have g5:=g3.tl.hd.2);rotate_left)
    |(refine ES.bind (R:=RL) ?_ ?_;rotate_left;(rintro⟨x1,l1⟩ ⟨y1,m1⟩ ⟨g1,g2⟩;(try dsimp only at *);have g4:=g2.hd.2);rotate_left)
    |refine ES.ite ?_ ?_ ?_
    |refine WS.rep ?_
    |exact WS.chain
    |exact WS.prog
    |exact WS.same _
    |exact(rfl:jid _=jid _)
    |exact bare_kids (by assumption)
    |(simp only[jid,jmE,bareL_append,jdB, *];done)
    |exact bare_one (by rw[bareL_append,bareL_append];exact congr (congrArg _ (bare_kids (by assumption))) (by assumption)) (by assumption)
    |exact(rfl:(_:Prop)=_)
    |refine congrArg (fun z:Bool=>z=true) (Sim.is _ ?_)
    |refine congrArg (fun z:Bool=>z=true) (Sim.op _ ?_)
    |refine congrArg (fun z:Bool=>z=true) (Sim.nm ?_)
    |refine congrArg (fun z:List UInt8=>z=_) (Sim.nx ?_)
    |refine congrArg (fun z:Int=>z=1) (Sim.hd ?_).1
    |refine congrArg (fun z:Int=>z≠1) (Sim.hd ?_).1
    |refine congrArg (fun z:ByteArray=>1048576<pNum (bytes z)) (Sim.hd ?_).2
    |refine congr (congrArg Or ?_) ?_
    |refine congr (congrArg And ?_) ?_))
theorem pTk_of {k f:Nat} {l r:List Tk} {xs:List Syn} (h:jaf f (entW k l) 0 l = .ok (xs,r)) (hr:pIs [] r=true):pTk k l = .ok (entT k l xs):=by
 unfold pTk
 rw[jll h (fun q=>by cases q)]
 unfold jjQ
 dsimp only
 rw[if_pos hr]
theorem B_of {f a:Nat} {l:List UInt8} (h:l.length<f):B l=if (sq f a l).2.2=0 then some ((sq f a l).1.map nk) else none:=by
 have e:=(jh1 a f 0 l h).1
 rw[Nat.zero_add,sq_fuel f (l.length+1) 0 l h (Nat.lt_succ_self _)] at e
 unfold B sqR
 rw[e,List.map_map]
 rfl
theorem B_gap {g:List UInt8} (hg:∀ z,skM false (g++z)=g.length+skM false z) (z:List UInt8):B (g++z)=B z:=by
 have hd:(g++z).drop (g.length+skM false z)=z.drop (skM false z):=by rw[←List.drop_drop,List.drop_left]
 have e:sq ((g++z).length+1) 0 (g++z)=sq ((g++z).length+1) (0+g.length) z:=by
  rw[sq,sq,hg,hd]
  simp only[Nat.zero_add]
 rw[B_of (f:=(g++z).length+1) (a:=0) (Nat.lt_succ_self _),e,←B_of (by rw[List.length_append];omega)]
theorem B_tok' {x z:List UInt8} (hx:okX x) (ht:tn (x++z)=x.length):B (x++z)=(B z).map ((tkd x,x) :: ·):=by
 obtain⟨h1,h2,h3⟩:=hx
 have hh:=jd0 h1 z
 have hq:=tok_hc h1 h2
 have hk:skM false (x++z)=0:=sk_none (by rw[hh];exact hq.1) (by rw[hh];exact hq.2)
 have e:=sq_tok (f:=(x++z).length) (a:=0) hk (List.drop_zero ..) h1 ht h2
 have hlen:z.length<(x++z).length:=by rw[List.length_append];have:=List.length_pos_iff.2 h1;omega
 rw[B_of (f:=(x++z).length+1) (a:=0) (Nat.lt_succ_self _),e,B_of (l:=z) (a:=0+0+x.length) hlen]
 dsimp only
 split<;>rfl
theorem B_tok {x:List UInt8} (hx:okX x) {c:UInt8} (hw:wdB c.toNat=false) (h61:c≠61) (m:List UInt8):B (x++c::m)=(B (c::m)).map ((tkd x,x) :: ·):=B_tok' hx (tn_stop hx.1 hx.2.2 hw h61 m)
theorem B_one {c:UInt8} (hc:okX [c]) (hw:wdB c.toNat=false) (h5:cls c.toNat=5) (hl:lsB [c,61]=false) (m:List UInt8):B (c::m)=(B m).map ((tkd [c],[c]) :: ·):=by
 refine B_tok' (x:=[c]) (z:=m) hc ?_
 show max (wl (c::m)) (sl (c::m))=1
 have e1:wl (c::m)=0:=by rw[jgH,hw];rfl
 have e2:lsB [c,m.getD 0 0]=false:=by
  by_cases h:m.getD 0 0=61
  ·rw[h];exact hl
  ·exact lsB_ne h
 rw[e1,sl_hd,e2,h5]
 rfl
abbrev nt (t:Tk):Int×List UInt8:=(t.k,bytes t.t)
theorem nt_toTk (t:Int×List UInt8×Nat):nt (toTk t)=nk t:=by show (t.1,bytes (str t.2.1))=_;rw[jcJ]
theorem scR_B {s:ByteArray} (h:s.size≤65536) {L:List (Int×List UInt8)} (hB:B (bytes s)=some L):(scR s).2.2=0∧(scR s).1.map nt=L:=by
 unfold B at hB
 by_cases q:(sqR (bytes s)).2.2=0
 ·rw[if_pos q] at hB
  rw[jlG h,if_pos q]
  refine⟨q,?_⟩
  rw[←Option.some.inj hB,List.map_map]
  exact List.map_congr_left fun t _=>nt_toTk t
 ·rw[if_neg q] at hB;cases hB
theorem sim_of:∀ {l m:List Tk},l.map nt=m.map nt→Sim l m
 | [],[],_=>trivial
 | [],_::_,h=>by cases h
 |_::_,[],h=>by cases h
 |t::l,u::m,h=>by
  rw[List.map_cons,List.map_cons,List.cons.injEq,Prod.mk.injEq] at h
  exact⟨⟨h.1.1,by rw[←jdu t.t,h.1.2,jdu]⟩,sim_of h.2⟩
theorem pAns_tk {k:Nat} {s:ByteArray} (h:(scR s).2.2=0):pAns k s=pTk k (scR s).1:=by unfold pAns;rw[if_pos h]
theorem refParse_any (s:ByteArray) (w:World):Calls Tryz.prog 8 #[.string s] w (Ans 0 s w):=by
 have hA:Below w.heap.size w (w.alloc jZ):=(Below.refl _ _).alloc (Nat.le_refl _) _
 have CS:=rRead0 s (w.alloc jZ)
 have hX:=Bx5.new w (.int .i64 0) (.int .i64 0) (.string ⟨#[]⟩) (.int .i64 0) (.slice none 0 0)
 have hz:(w.alloc jZ).heap.size=w.heap.size+1:=by simp
 have KS:=jD CS;have HA:=jD hA;have HX:=jD hX;have HZ:=jD hz
 clear CS hA hX hz
 go_enter Tryz.func8,Tryz.ntmps8
 go_wp2_with (go_at_call 11;refine(KS.out).mono ?_;rintro e w2 ⟨k4,a4,t4,n4,o4,l4,c4,a,c,rfl,hb2,hx⟩;refine Hid.out ?_)
 obtain⟨y0,y1,y2,y3,y4,yf,yl⟩:=HX.out.below hb2
 have f0:=yf 0;have f1:=yf 1;have f2:=yf 2;have f3:=yf 3;have f4:=yf 4
 obtain⟨r0,r1,r2,r3,r4⟩:=box5 y0 y1 y2 y3 y4 (.int .i64 k4) (.int .i64 a4) (.string t4) (.int .i64 n4) (.slice o4 l4 c4) _ rfl
 have hlo:w.heap.size<(w.alloc jZ).heap.size:=by rw[HZ.out];exact Nat.lt_succ_self _
 have HB:=jD (jaC (Below.chain HA.out hb2) (Nat.le_refl _) (.int .i64 k4) (.int .i64 a4) (.string t4) (.int .i64 n4) (.slice o4 l4 c4))
 have fr:From (w.alloc jZ).heap.size w2 _:=(((((From.refl (w.alloc jZ).heap.size w2).setCell ⟨w.heap.size,0,none⟩ hlo (.int .i64 k4)).setCell ⟨w.heap.size,1,none⟩ hlo (.int .i64 a4)).setCell ⟨w.heap.size,2,none⟩ hlo (.string t4)).setCell ⟨w.heap.size,3,none⟩ hlo (.int .i64 n4)).setCell ⟨w.heap.size,4,none⟩ hlo (.slice o4 l4 c4)
 have GX:=jD (hx.keep fr (Nat.le_of_lt hlo))
 clear hb2 hx yf yl fr hlo
 refine jD ?_
 go_wp2
 refine bodyPost_ret (by simp[results,Tryz.results8,go_sem,r0,r1,r2,r3,r4];rfl) rfl ?_
 exact⟨_,_,_,_,_,_,_,_,_,rfl,HB.out,GX.out⟩
/-- What is asked of an entry at a list of tokens: it is read, or the levels are too many. -/
def chkT (e k b f:Nat) (L:List Tk):Bool:=match jjQ e L (jaf f (entW e L) 0 L) with
 |.ok _=>decide (k<b)
 |.error (_,c)=>decide (c≠0) && (decide (c=12)==decide (b≤k))
theorem lev_of {e k b f:Nat} {s:ByteArray} {L:List Tk} (hz:s.size≤65536) (hB:B (bytes s)=some (L.map nt)) (h:chkT e k b f L=true) :
  (∃ x,pAns e s = .ok x∧k<b)∨∃ a c,pAns e s = .error (a,c)∧c≠0∧(c=12↔b≤k):=by
 obtain⟨h1,h2⟩:=scR_B hz hB
 have hs:Sim L (scR s).1:=sim_of h2.symm
 rw[pAns_tk h1]
 generalize (scR s).1=M at *
 have g:=pRead_sim f (entW e L) (entW e M) 0 L M (by unfold entW;split<;>first|exact trivial|exact rfl) hs
 unfold chkT at h
 cases hr:jaf f (entW e L) 0 L with
 |error p=>
  rw[hr] at h g
  cases hm:jaf f (entW e M) 0 M with
  |ok q=>rw[hm] at g;cases g
  |error q=>
   rw[hm] at g
   have g2:p.2=q.2:=g
   have h':(decide (p.2≠0) && (decide (p.2=12)==decide (b≤k)))=true:=h
   rw[Bool.and_eq_true,decide_eq_true_eq,beq_iff_eq,decide_eq_decide,g2] at h'
   refine .inr ⟨q.1,q.2,?_,h'.1,h'.2⟩
   unfold pTk
   rw[jll hm (fun q'=>h'.1 (by cases q';rfl))]
   rfl
 |ok r=>
  obtain⟨xs,r⟩:=r
  rw[hr] at h g
  cases hm:jaf f (entW e M) 0 M with
  |error q=>rw[hm] at g;cases g
  |ok q=>
   obtain⟨ys,r2⟩:=q
   rw[hm] at g
   obtain⟨g1,g2⟩:=(g:RL _ _)
   unfold jjQ at h
   dsimp only at h
   by_cases hp:pIs [] r=true
   ·rw[if_pos hp] at h
    exact .inl ⟨_,pTk_of hm (by rw[←g2.is];exact hp),of_decide_eq_true h⟩
   ·rw[if_neg hp] at h
    have h':(decide ((4:Nat)≠0) && (decide ((4:Nat)=12)==decide (b≤k)))=true:=h
    rw[Bool.and_eq_true,decide_eq_true_eq,beq_iff_eq,decide_eq_decide] at h'
    refine .inr ⟨(pHd r2).a,4,?_,h'.1,h'.2⟩
    unfold pTk
    rw[jll hm (fun q'=>by cases q')]
    unfold jjQ
    dsimp only
    rw[if_neg (by rw[←g2.is];exact hp)]
abbrev tt (c:List UInt8):Tk:=⟨tkd c,str c,0⟩
theorem nt_tt (c:List UInt8):nt (tt c)=(tkd c,c):=by show (tkd c,bytes (str c))=_;rw[jcJ]
theorem B_rep {c:UInt8} (hc:okX [c]) (hw:wdB c.toNat=false) (h5:cls c.toNat=5) (hl:lsB [c,61]=false) {m:List UInt8} {T:List Tk} (h:B m=some (T.map nt)):∀ k,B (Lib.repeatL [c] k++m)=some ((List.replicate k (tt [c])++T).map nt)
 |0=>h
 |k+1=>by
  show B (c::(Lib.repeatL [c] k++m))=_
  rw[B_one hc hw h5 hl,B_rep hc hw h5 hl h k,List.replicate_succ,List.cons_append,List.map_cons,nt_tt]
  rfl
theorem B_word {x:List UInt8} (hx:okX x) {m:List UInt8} {T:List Tk} (h:B m=some (T.map nt)) (hm:m=[]∨∃ c r,m=c::r∧wdB c.toNat=false∧c≠61) (ht:tn (x++[])=x.length):B (x++m)=some ((tt x::T).map nt):=by
 rw[List.map_cons,nt_tt]
 rcases hm with rfl|⟨c,r,rfl,hw,h61⟩
 ·rw[B_tok' hx ht,h];rfl
 ·rw[B_tok hx hw h61,h];rfl
theorem B_blank (m:List UInt8):B (32::m)=B m:=B_gap (g:=[32]) (fun z=>by show skM false (32::z)=_;rw[skF,if_pos (by decide)];rfl) m
theorem B_end:B []=some ([tE 0].map nt):=rfl
theorem ok1:okX [40]:=⟨by decide,by decide +kernel,by decide +kernel⟩
theorem ok2:okX [41]:=⟨by decide,by decide +kernel,by decide +kernel⟩
theorem ok3:okX [120]:=⟨by decide,by decide +kernel,by decide +kernel⟩
theorem ok4:okX [45]:=⟨by decide,by decide +kernel,by decide +kernel⟩
theorem ok5:okX [110,111,116]:=⟨by decide,by decide +kernel,by decide +kernel⟩
theorem ok6:okX [123]:=⟨by decide,by decide +kernel,by decide +kernel⟩
theorem ok7:okX [125]:=⟨by decide,by decide +kernel,by decide +kernel⟩
theorem ok8:okX jbA:=⟨by decide,by decide +kernel,by decide +kernel⟩
theorem ok9:okX jb6:=⟨by decide,by decide +kernel,by decide +kernel⟩
theorem ok10:okX [112]:=⟨by decide,by decide +kernel,by decide +kernel⟩
/-- The law's texts, and their tokens. -/
def levS0 (k:Nat):ByteArray:=⟨(Lib.repeatL [40] k).toArray⟩++⟨#[120]⟩++⟨(Lib.repeatL [41] k).toArray⟩
def levS1 (k:Nat):ByteArray:=⟨(Lib.repeatL [110,111,116,32] k).toArray⟩++⟨#[120]⟩
def levS2 (k:Nat):ByteArray:=⟨(Lib.repeatL [45] k).toArray⟩++⟨#[120]⟩
def levS3 (k:Nat):ByteArray:=⟨#[112,114,111,99,32,112,40,41,32]⟩++⟨(Lib.repeatL [123,32,119,104,105,108,101,32,120,32] k).toArray⟩++⟨#[123,32,125]⟩++⟨(Lib.repeatL [125] k).toArray⟩
def rpT (l:List Tk):Nat→List Tk
 |0=>[]
 |k+1=>l++rpT l k
def levT0 (k:Nat):List Tk:=List.replicate k (tt [40])++(tt [120]::(List.replicate k (tt [41])++[tE 0]))
def levT1 (k:Nat):List Tk:=List.replicate k (tt [110,111,116])++[tt [120],tE 0]
def levT2 (k:Nat):List Tk:=List.replicate k (tt [45])++[tt [120],tE 0]
def levT3 (k:Nat):List Tk:=[tt jb6,tt [112],tt [40],tt [41]]++(rpT [tt [123],tt jbA,tt [120]] k++([tt [123],tt [125]]++(List.replicate k (tt [125])++[tE 0])))
theorem bytes_rep (l:List UInt8) (k:Nat):bytes ⟨(Lib.repeatL l k).toArray⟩=Lib.repeatL l k:=jcJ _
theorem lev_B0 (k:Nat):B (bytes (levS0 k))=some ((levT0 k).map nt):=by
 unfold levS0 levT0
 rw[bytes_app,bytes_app,bytes_rep,bytes_rep,List.append_assoc]
 refine B_rep ok1 (by decide) (by decide +kernel) (by decide +kernel) (B_word ok3 ?_ ?_ (by decide +kernel)) k
 ·have:=B_rep ok2 (by decide) (by decide +kernel) (by decide +kernel) B_end k
  rwa [List.append_nil] at this
 ·cases k with
  |zero=>exact .inl rfl
  |succ k=>exact .inr ⟨41,_,rfl,by decide,by decide⟩
theorem lev_B1 (k:Nat):B (bytes (levS1 k))=some ((levT1 k).map nt):=by
 unfold levS1 levT1
 rw[bytes_app,bytes_rep]
 have h0:B [120]=some (([tt [120],tE 0]:List Tk).map nt):=B_word ok3 B_end (.inl rfl) (by decide +kernel)
 induction k with
 |zero=>exact h0
 |succ k ih=>
  have ih':B (Lib.repeatL [110,111,116,32] k++[120])=_:=ih
  have e:Lib.repeatL [110,111,116,32] (k+1)++[120]=[110,111,116]++32::(Lib.repeatL [110,111,116,32] k++[120]):=by rw[Lib.repeatL];rfl
  show B (Lib.repeatL [110,111,116,32] (k+1)++[120])=_
  rw[e,B_tok ok5 (by decide) (by decide),B_blank,ih',List.replicate_succ,List.cons_append,List.map_cons,nt_tt]
  rfl
theorem lev_B2 (k:Nat):B (bytes (levS2 k))=some ((levT2 k).map nt):=by
 unfold levS2 levT2
 rw[bytes_app,bytes_rep]
 exact B_rep ok4 (by decide) (by decide +kernel) (by decide +kernel) (B_word (m:=[]) ok3 B_end (.inl rfl) (by decide +kernel)) k
theorem B_sgn {c:UInt8} (hc:okX [c]) (hw:wdB c.toNat=false) (h5:cls c.toNat=5) (hl:lsB [c,61]=false) {m:List UInt8} {T:List Tk} (h:B m=some (T.map nt)):B (c::m)=some ((tt [c]::T).map nt):=by
 rw[B_one hc hw h5 hl,h,List.map_cons,nt_tt];rfl
theorem B_wd {x:List UInt8} (hx:okX x) {m:List UInt8} {T:List Tk} (h:B m=some (T.map nt)):B (x++32::m)=some ((tt x::T).map nt):=by
 rw[B_tok hx (by decide) (by decide),B_blank,h,List.map_cons,nt_tt];rfl
theorem lev_B3 (k:Nat):B (bytes (levS3 k))=some ((levT3 k).map nt):=by
 unfold levS3 levT3
 rw[bytes_app,bytes_app,bytes_app,bytes_rep,bytes_rep,List.append_assoc,List.append_assoc]
 have h1:B (Lib.repeatL [125] k)=some ((List.replicate k (tt [125])++[tE 0]).map nt):=by
  have:=B_rep ok7 (by decide) (by decide +kernel) (by decide +kernel) B_end k
  rwa [List.append_nil] at this
 have h2:B (123::32::125::Lib.repeatL [125] k)=some ((tt [123]::tt [125]::(List.replicate k (tt [125])++[tE 0])).map nt):=
  B_sgn ok6 (by decide) (by decide +kernel) (by decide +kernel) (by rw[B_blank];exact B_sgn ok7 (by decide) (by decide +kernel) (by decide +kernel) h1)
 have h3:∀ j,B (Lib.repeatL [123,32,119,104,105,108,101,32,120,32] j++123::32::125::Lib.repeatL [125] k)=some ((rpT [tt [123],tt jbA,tt [120]] j++(tt [123]::tt [125]::(List.replicate k (tt [125])++[tE 0]))).map nt):=by
  intro j
  induction j with
  |zero=>exact h2
  |succ j ih=>
   rw[show Lib.repeatL [123,32,119,104,105,108,101,32,120,32] (j+1)++123::32::125::Lib.repeatL [125] k=123::32::(jbA++32::([120]++32::(Lib.repeatL [123,32,119,104,105,108,101,32,120,32] j++123::32::125::Lib.repeatL [125] k))) from by rw[Lib.repeatL];rfl]
   exact B_sgn ok6 (by decide) (by decide +kernel) (by decide +kernel) (by rw[B_blank];exact B_wd ok8 (B_wd ok3 ih))
 rw[show bytes ⟨#[112,114,111,99,32,112,40,41,32]⟩++(Lib.repeatL [123,32,119,104,105,108,101,32,120,32] k++(bytes ⟨#[123,32,125]⟩++Lib.repeatL [125] k))=jb6++32::([112]++40::41::32::(Lib.repeatL [123,32,119,104,105,108,101,32,120,32] k++123::32::125::Lib.repeatL [125] k)) from rfl]
 refine B_wd ok9 ?_
 refine B_word ok10 ?_ (.inr ⟨40,_,rfl,by decide,by decide⟩) (by decide +kernel)
 exact B_sgn ok1 (by decide) (by decide +kernel) (by decide +kernel) (B_sgn ok2 (by decide) (by decide +kernel) (by decide +kernel) (by rw[B_blank];exact h3 k))
theorem lev_chk0:(List.range 80).all (fun k=>chkT 2 k 65 1500 (levT0 k))=true:=by kernel_rfl
theorem lev_chk1:(List.range 80).all (fun k=>chkT 2 k 65 1500 (levT1 k))=true:=by kernel_rfl
theorem lev_chk2:(List.range 80).all (fun k=>chkT 2 k 65 1500 (levT2 k))=true:=by kernel_rfl
theorem lev_chk3:(List.range 80).all (fun k=>chkT 0 k 64 3000 (levT3 k))=true:=by kernel_rfl
theorem lev_get {p:Nat→Bool} (h:(List.range 80).all p=true) {k:Nat} (hk:k<80):p k=true:=List.all_eq_true.1 h k (List.mem_range.2 hk)
theorem lev_size (l:List UInt8) (k:Nat):(⟨(Lib.repeatL l k).toArray⟩:ByteArray).size=k * l.length:=by
 show (Lib.repeatL l k).toArray.size=_
 rw[List.size_toArray,Lib.repeatL_length]
theorem lev0 {k:Nat} (hk:k<80):(∃ x,pAns 2 (levS0 k) = .ok x∧k<65)∨∃ a c,pAns 2 (levS0 k) = .error (a,c)∧c≠0∧(c=12↔65≤k):=
 lev_of (by unfold levS0;rw[ByteArray.size_append,ByteArray.size_append,lev_size,lev_size];show k * 1+1+k * 1≤_;omega) (lev_B0 k) (lev_get lev_chk0 hk)
theorem lev1 {k:Nat} (hk:k<80):(∃ x,pAns 2 (levS1 k) = .ok x∧k<65)∨∃ a c,pAns 2 (levS1 k) = .error (a,c)∧c≠0∧(c=12↔65≤k):=
 lev_of (by unfold levS1;rw[ByteArray.size_append,lev_size];show k * 4+1≤_;omega) (lev_B1 k) (lev_get lev_chk1 hk)
theorem lev2 {k:Nat} (hk:k<80):(∃ x,pAns 2 (levS2 k) = .ok x∧k<65)∨∃ a c,pAns 2 (levS2 k) = .error (a,c)∧c≠0∧(c=12↔65≤k):=
 lev_of (by unfold levS2;rw[ByteArray.size_append,lev_size];show k * 1+1≤_;omega) (lev_B2 k) (lev_get lev_chk2 hk)
theorem lev3 {k:Nat} (hk:k<80):(∃ x,pAns 0 (levS3 k) = .ok x∧k<64)∨∃ a c,pAns 0 (levS3 k) = .error (a,c)∧c≠0∧(c=12↔64≤k):=
 lev_of (by unfold levS3;rw[ByteArray.size_append,ByteArray.size_append,ByteArray.size_append,lev_size,lev_size];show 9+k * 10+3+k * 1≤_;omega) (lev_B3 k) (lev_get lev_chk3 hk)
def RepC (l:ByteArray) (k:Nat) (r:ByteArray):Prop:=∀ W:World,Calls Tryz.prog 12 #[.string l,.int .i64 (k:Nat)] W fun e w'=>e = .returned (.string r)∧Below W.heap.size W w'
def LvA (c:Nat) (m k:Nat) (E:Nat→ByteArray→Prop) (b:Bool):Prop:=match c with
 |0=>(m:Int).tmod 4=0∧∃ r1 r2:ByteArray,r1.size≤1000∧r2.size≤1000∧RepC ⟨#[40]⟩ k r1∧RepC ⟨#[41]⟩ k r2∧E 2 (r1++⟨#[120]⟩++r2)∧decide (64<(k:Int))=b
 |1=>(m:Int).tmod 4=1∧∃ r1:ByteArray,r1.size≤1000∧RepC ⟨#[110,111,116,32]⟩ k r1∧E 2 (r1++⟨#[120]⟩)∧decide (64<(k:Int))=b
 |2=>(m:Int).tmod 4=2∧∃ r1:ByteArray,r1.size≤1000∧RepC ⟨#[45]⟩ k r1∧E 2 (r1++⟨#[120]⟩)∧decide (64<(k:Int))=b
 |3=>(m:Int).tmod 4=3∧∃ r1 r2:ByteArray,r1.size≤1000∧r2.size≤1000∧RepC ⟨#[123,32,119,104,105,108,101,32,120,32]⟩ k r1∧RepC ⟨#[125]⟩ k r2∧E 0 ((⟨#[112,114,111,99,32,112,40,41,32]⟩++r1)++⟨#[123,32,125]⟩++r2)∧decide (64≤(k:Int))=b
 |_=>False
theorem lvU {r1 r2:ByteArray} (h1:r1.size≤1000) (h2:r2.size≤1000):¬ 9223372036854775807<r1.size+1∧¬ 9223372036854775807<(r1++(⟨#[120]⟩:ByteArray)).size+r2.size∧¬ 9223372036854775807<r1.size+1+r2.size∧¬ 9223372036854775807<9+r1.size∧¬ 9223372036854775807<((⟨#[112,114,111,99,32,112,40,41,32]⟩:ByteArray)++r1).size+3∧¬ 9223372036854775807<((⟨#[112,114,111,99,32,112,40,41,32]⟩:ByteArray)++r1++(⟨#[123,32,125]⟩:ByteArray)).size+r2.size∧¬ 9223372036854775807<9+r1.size+3∧¬ 9223372036854775807<9+r1.size+3+r2.size:=by
 have e1:(⟨#[112,114,111,99,32,112,40,41,32]⟩:ByteArray).size=9:=rfl
 have e2:(⟨#[123,32,125]⟩:ByteArray).size=3:=rfl
 have e3:(⟨#[120]⟩:ByteArray).size=1:=rfl
 simp only[ByteArray.size_append]
 omega
theorem llevels_all (n m k:Nat) (hn:n<256) (hm:m<256) (hnk:(n:Int).tmod 80=(k:Nat)) (hk:k<80) (c:Nat) (hc:c=0∨c=3∨c=1∨c=2) (bb:Bool) (R:Except (Int×Nat) Syn) (hR:match R with | .ok _=>bb=false | .error (_,cc)=>((cc:Int)==12)=bb) (H:LvA c m k (fun a t=>pAns a t=R) bb) (w:World) (h:Env w) :
  Calls Tryz.prog 5 #[.int .u8 (n:Int),.int .u8 (m:Int)] w fun e w'=>e = .returned (.bool true)∧Below w.heap.size w w':=by
 have w64':wrap64 (k:Int)=(k:Int):=(jiU _ (by omega) (by omega)).2
 rcases hc with rfl|rfl|rfl|rfl
 all_goals try (obtain⟨hmc,r1,r2,hz1,hz2,hR1,hR2,hp,hd⟩:=H;have chk:ByteArray:=r2;clear chk;obtain⟨u0,u1,u2,u3,u4,u5,u6,u7⟩:=lvU hz1 hz2;clear hz2)
 all_goals try (obtain⟨hmc,r1,hz1,hR1,hp,hd⟩:=H;have u0:=(lvU hz1 hz1).1)
 all_goals try dsimp only at hp
 all_goals
  have HE:=jD h;have HP:=jD hp;have HK:=jD hk;have HR1:=jD hR1;have HR:=jD hR;clear h hp hk hn hm hz1 hR1 hR
  try have HR2:=jD hR2;clear hR2
  go_enter Tryz.func5,Tryz.ntmps5
  go_wp2_with (go_at_call 12;refine(HR1.out _).mono ?_;rintro e wr ⟨rfl,hb⟩;refine Hid.out ?_)
  have B0:=jD (Below.chain (Below.refl _ _) hb);clear hb
  refine jD ?_
 all_goals try
  have q:=HR2;clear q
  go_wp2_with (go_at_call 12;refine(HR2.out _).mono ?_;rintro e ws ⟨rfl,hb⟩;refine Hid.out ?_)
  replace B0:=jD (Below.chain B0.out hb);clear hb HR2
  refine jD ?_
 all_goals cases R with
 |ok x=>
  obtain rfl:bb=false:=HR.out
  go_wp2_with ((first|(go_at_call 13;refine(ent_ok HP.out (HE.out.cond B0.out _)).mono ?_)|(go_at_call 7;refine(ent_ok HP.out (HE.out.parse B0.out _)).mono ?_));rintro e w1 ⟨k1,a1,t1,n1,o1,l1,c1,q1,hq1,rfl,hb,hx⟩;refine Hid.out ?_)
  have hA:Below w1.heap.size w1 (w1.alloc (jO k1 a1 t1 n1 o1 l1 c1)):=(Below.refl _ _).alloc (Nat.le_refl _) _
  have B1:=jD (Below.chain B0.out (Below.chain hb hA))
  have X1_1:=jD (Bx5.new w1 (.int .i64 k1) (.int .i64 a1) (.string t1) (.int .i64 n1) (.slice o1 l1 c1))
  have S1_1:=jD (hx.below hA)
  clear hA hb hx
  refine jD ?_
  go_wp2_with ((first|(go_at_call 11;refine(ent_ok HP.out (rRead2 _ _)).mono ?_)|(go_at_call 8;refine(ent_ok HP.out (refParse_any _ _)).mono ?_));rintro e w2 ⟨k2,a2,t2,n2,o2,l2,c2,q2,hq2,rfl,hb,hx⟩;refine Hid.out ?_)
  have hA:Below w2.heap.size w2 (w2.alloc (jO k2 a2 t2 n2 o2 l2 c2)):=(Below.refl _ _).alloc (Nat.le_refl _) _
  have B2:=jD (Below.chain B1.out (Below.chain hb hA))
  have X1_2:=jD (X1_1.out.below (Below.chain hb hA))
  clear X1_1
  have S1_2:=jD (S1_1.out.below (Below.chain hb hA))
  clear S1_1
  have X2_2:=jD (Bx5.new w2 (.int .i64 k2) (.int .i64 a2) (.string t2) (.int .i64 n2) (.slice o2 l2 c2))
  have S2_2:=jD (hx.below hA)
  clear hA hb hx
  refine jD ?_
  go_wp2_with (go_at_call 6;refine(HE.out.awake B2.out).mono ?_;rintro e w3 ⟨rfl,hb⟩;refine Hid.out ?_)
  have B3:=jD (Below.chain B2.out hb)
  have X1_3:=jD (X1_2.out.below hb)
  clear X1_2
  have S1_3:=jD (S1_2.out.below hb)
  clear S1_2
  have X2_3:=jD (X2_2.out.below hb)
  clear X2_2
  have S2_3:=jD (S2_2.out.below hb)
  clear S2_2
  clear hb
  have CS:=jli _ _ _ _ _ _ w3 S1_3.out S2_3.out
  rw[(jlh _ _).mpr rfl] at CS
  have KS:=jD CS;clear CS
  obtain⟨yX10,yX11,yX12,yX13,yX14,-,lX1⟩:=X1_3.out
  obtain⟨yX20,yX21,yX22,yX23,yX24,-,lX2⟩:=X2_3.out
  refine jD ?_
  go_wp2_with (go_at_call 9;refine(KS.out).mono ?_;rintro e w4 ⟨rfl,hb⟩;refine Hid.out ?_)
  have B4:=jD (Below.chain B3.out hb);clear hb
  refine jD ?_
  go_wp2
  go_ret
  exact⟨rfl,B4.out⟩
 |error ac=>
  obtain⟨at1,cc⟩:=ac
  have h12:((cc:Int)==12)=bb:=HR.out
  go_wp2_with ((first|(go_at_call 13;refine(jmK HP.out (HE.out.cond B0.out _)).mono ?_)|(go_at_call 7;refine(jmK HP.out (HE.out.parse B0.out _)).mono ?_));rintro e w1 ⟨rfl,hb⟩;refine Hid.out ?_)
  have hA:Below w1.heap.size w1 (w1.alloc jZ):=(Below.refl _ _).alloc (Nat.le_refl _) _
  have B1:=jD (Below.chain B0.out (Below.chain hb hA))
  have X1_1:=jD (Bx5.new w1 (.int .i64 0) (.int .i64 0) (.string ⟨#[]⟩) (.int .i64 0) (.slice none 0 0))
  clear hA hb
  refine jD ?_
  go_wp2_with ((first|(go_at_call 11;refine(jmK HP.out (rRead2 _ _)).mono ?_)|(go_at_call 8;refine(jmK HP.out (refParse_any _ _)).mono ?_));rintro e w2 ⟨rfl,hb⟩;refine Hid.out ?_)
  have hA:Below w2.heap.size w2 (w2.alloc jZ):=(Below.refl _ _).alloc (Nat.le_refl _) _
  have B2:=jD (Below.chain B1.out (Below.chain hb hA))
  have X1_2:=jD (X1_1.out.below (Below.chain hb hA))
  clear X1_1
  have X2_2:=jD (Bx5.new w2 (.int .i64 0) (.int .i64 0) (.string ⟨#[]⟩) (.int .i64 0) (.slice none 0 0))
  clear hA hb
  refine jD ?_
  go_wp2_with (go_at_call 6;refine(HE.out.awake B2.out).mono ?_;rintro e w3 ⟨rfl,hb⟩;refine Hid.out ?_)
  have B3:=jD (Below.chain B2.out hb)
  have X1_3:=jD (X1_2.out.below hb)
  clear X1_2
  have X2_3:=jD (X2_2.out.below hb)
  clear X2_2
  clear hb
  have SZ:synAt 0 w3 (.mk 0 0 ⟨#[]⟩ 0 []) (.agg #[.int .i64 0,.int .i64 0,.string ⟨#[]⟩,.int .i64 0,.slice none 0 0]):=jcd.mpr ⟨_,rfl,.inl ⟨rfl,rfl⟩⟩
  have CS:=jli _ _ 0 0 _ _ w3 SZ SZ
  rw[(jlh _ _).mpr rfl] at CS
  have KS:=jD CS;clear CS SZ
  obtain⟨yX10,yX11,yX12,yX13,yX14,-,lX1⟩:=X1_3.out
  obtain⟨yX20,yX21,yX22,yX23,yX24,-,lX2⟩:=X2_3.out
  refine jD ?_
  go_wp2_with (go_at_call 9;refine(KS.out).mono ?_;rintro e w4 ⟨rfl,hb⟩;refine Hid.out ?_)
  have B4:=jD (Below.chain B3.out hb);clear hb
  refine jD ?_
  go_wp2
  go_ret
  exact⟨by first|rfl|(cases bb<;>rfl),B4.out⟩
theorem llevels_walk (n m:Nat) (hn:n<256) (hm:m<256) (w:World) (h:Env w) :
  Calls Tryz.prog 5 #[.int .u8 (n:Int),.int .u8 (m:Int)] w fun e w'=>e = .returned (.bool true)∧Below w.heap.size w w':=by
 have hk:n % 80<80:=Nat.mod_lt _ (by decide)
 have hnk:(n:Int).tmod 80=((n % 80:Nat):Int):=by rw[Int.tmod_eq_emod_of_nonneg (by omega)];omega
 have hmm:(m:Int).tmod 4=((m % 4:Nat):Int):=by rw[Int.tmod_eq_emod_of_nonneg (by omega)];omega
 generalize n % 80=k at *
 have hR:∀ (l:ByteArray),l.size≤10→RepC l k ⟨(Lib.repeatL l.data.toList k).toArray⟩:=fun l hl W=>
  Tryz.strings_Repeat l k W (by omega) (by have:=Nat.mul_le_mul hl (Nat.le_of_lt hk);omega)
 have hZ:∀ l:ByteArray,l.size≤10→(⟨(Lib.repeatL l.data.toList k).toArray⟩:ByteArray).size≤1000:=fun l hl=>by
  rw[lev_size,show l.data.toList.length=l.size from by rw[Array.length_toList];rfl]
  have:=Nat.mul_le_mul (Nat.le_of_lt hk) hl;omega
 have hm4:m % 4<4:=Nat.mod_lt _ (by decide)
 rcases(show m % 4=0∨m % 4=1∨m % 4=2∨m % 4=3 by omega) with e|e|e|e<;>rw[e] at hmm
 ·rcases lev0 hk with ⟨x,hp,hb⟩|⟨a,cc,hp,h0,h12⟩
  ·exact llevels_all n m k hn hm hnk hk 0 (by decide) false (.ok x) rfl ⟨hmm,_,_,hZ ⟨#[40]⟩ (by decide),hZ ⟨#[41]⟩ (by decide),hR ⟨#[40]⟩ (by decide),hR ⟨#[41]⟩ (by decide),hp,by rw[decide_eq_false_iff_not];omega⟩ w h
  ·refine llevels_all n m k hn hm hnk hk 0 (by decide) (decide (65≤k)) (.error (a,cc)) ?_ ⟨hmm,_,_,hZ ⟨#[40]⟩ (by decide),hZ ⟨#[41]⟩ (by decide),hR ⟨#[40]⟩ (by decide),hR ⟨#[41]⟩ (by decide),hp,?_⟩ w h
   ·show ((cc:Int)==12)=decide (65≤k)
    rw[Bool.eq_iff_iff,beq_iff_eq,decide_eq_true_eq,←h12];omega
   ·rw[Bool.eq_iff_iff,decide_eq_true_eq,decide_eq_true_eq];omega
 ·rcases lev1 hk with ⟨x,hp,hb⟩|⟨a,cc,hp,h0,h12⟩
  ·exact llevels_all n m k hn hm hnk hk 1 (by decide) false (.ok x) rfl ⟨hmm,_,hZ ⟨#[110,111,116,32]⟩ (by decide),hR ⟨#[110,111,116,32]⟩ (by decide),hp,by rw[decide_eq_false_iff_not];omega⟩ w h
  ·refine llevels_all n m k hn hm hnk hk 1 (by decide) (decide (65≤k)) (.error (a,cc)) ?_ ⟨hmm,_,hZ ⟨#[110,111,116,32]⟩ (by decide),hR ⟨#[110,111,116,32]⟩ (by decide),hp,?_⟩ w h
   ·show ((cc:Int)==12)=decide (65≤k)
    rw[Bool.eq_iff_iff,beq_iff_eq,decide_eq_true_eq,←h12];omega
   ·rw[Bool.eq_iff_iff,decide_eq_true_eq,decide_eq_true_eq];omega
 ·rcases lev2 hk with ⟨x,hp,hb⟩|⟨a,cc,hp,h0,h12⟩
  ·exact llevels_all n m k hn hm hnk hk 2 (by decide) false (.ok x) rfl ⟨hmm,_,hZ ⟨#[45]⟩ (by decide),hR ⟨#[45]⟩ (by decide),hp,by rw[decide_eq_false_iff_not];omega⟩ w h
  ·refine llevels_all n m k hn hm hnk hk 2 (by decide) (decide (65≤k)) (.error (a,cc)) ?_ ⟨hmm,_,hZ ⟨#[45]⟩ (by decide),hR ⟨#[45]⟩ (by decide),hp,?_⟩ w h
   ·show ((cc:Int)==12)=decide (65≤k)
    rw[Bool.eq_iff_iff,beq_iff_eq,decide_eq_true_eq,←h12];omega
   ·rw[Bool.eq_iff_iff,decide_eq_true_eq,decide_eq_true_eq];omega
 ·rcases lev3 hk with ⟨x,hp,hb⟩|⟨a,cc,hp,h0,h12⟩
  ·exact llevels_all n m k hn hm hnk hk 3 (by decide) false (.ok x) rfl ⟨hmm,_,_,hZ ⟨#[123,32,119,104,105,108,101,32,120,32]⟩ (by decide),hZ ⟨#[125]⟩ (by decide),hR ⟨#[123,32,119,104,105,108,101,32,120,32]⟩ (by decide),hR ⟨#[125]⟩ (by decide),hp,by rw[decide_eq_false_iff_not];omega⟩ w h
  ·refine llevels_all n m k hn hm hnk hk 3 (by decide) (decide (64≤k)) (.error (a,cc)) ?_ ⟨hmm,_,_,hZ ⟨#[123,32,119,104,105,108,101,32,120,32]⟩ (by decide),hZ ⟨#[125]⟩ (by decide),hR ⟨#[123,32,119,104,105,108,101,32,120,32]⟩ (by decide),hR ⟨#[125]⟩ (by decide),hp,?_⟩ w h
   ·show ((cc:Int)==12)=decide (64≤k)
    rw[Bool.eq_iff_iff,beq_iff_eq,decide_eq_true_eq,←h12];omega
   ·rw[Bool.eq_iff_iff,decide_eq_true_eq,decide_eq_true_eq];omega
end Go.Proofs.YtenmmmdnpglkoaaGreatDoor
