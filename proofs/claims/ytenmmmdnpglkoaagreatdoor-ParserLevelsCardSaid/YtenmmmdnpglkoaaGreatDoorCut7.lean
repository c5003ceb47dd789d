import Derived.Test.YtenmmmdnpglkoaaGreatDoorCut6
import Derived.Lib.SplitLaws
import Derived.Lib.CutLaws
import Derived.Lib.Join
set_option linter.unusedSimpArgs false
set_option linter.unusedVariables false
set_option maxRecDepth 100000
set_option maxHeartbeats 8000000
/-
 Mathematics of tokens: texts, tokens behind each other, comments, lines, joined texts.
-/
namespace Go.Proofs.YtenmmmdnpglkoaaGreatDoor
open Go Go.Proofs Go.RowKit
def hc (l:List UInt8):Nat:=cls (l.getD 0 0).toNat
theorem jgG (c:UInt8) (l:List UInt8):hc (c::l)=cls c.toNat:=rfl
theorem jgH (c:UInt8) (l:List UInt8):wl (c::l)=if wdB c.toNat=true then 1+wl l else 0:=by
 unfold wl
 rw[List.takeWhile_cons]
 split
 ·simp;omega
 ·rfl
theorem jdz:∀ (x z:List UInt8),wl (x++z)=x.length↔(∀ b∈x,wdB b.toNat=true)∧(wl z=0)
 | [],z=>by simp
 |c::x,z=>by
  rw[List.cons_append,jgH]
  have ih:=jdz x z
  cases h:wdB c.toNat
  ·simp[h]
  ·simp only[if_true,List.length_cons,List.mem_cons,forall_eq_or_imp,h,true_and]
   rw[←ih];omega
theorem ji9 {l:List UInt8} (h:lsB (l.take 2)=true):hc l≠3∧hc l≠4∧hc l≠1∧hc l≠2:=by
 cases l with
 |nil=>exact absurd h (by decide)
 |cons c l=>
  rw[jgG]
  cases l with
  |nil=>simp[lsB] at h
  |cons d l=>
   have:c=58∨c=33∨c=60∨c=62:=by
    simp[lsB] at h
    rcases h with ((h|h)|h)|h<;>simp[h]
   rcases this with rfl|rfl|rfl|rfl<;>decide +kernel
theorem jiA {l:List UInt8} (h:hc l=3∨hc l=4):sl l=0:=by
 unfold sl
 split
 ·rename_i hs
  have:=ji9 hs.2
  omega
 ·split
  ·rename_i h5
   have:hc l=5:=h5.2
   omega
  ·rfl
theorem jkH {l:List UInt8} (h3:hc l≠3) (h4:hc l≠4):wl l=0:=by
 cases l with
 |nil=>rfl
 |cons c l=>
  rw[jgG] at h3 h4
  rw[jgH]
  unfold wdB
  rw[decide_eq_false h3,decide_eq_false h4]
  rfl
theorem jiB {l:List UInt8} (hl:l≠[]) (h:hc l=3∨hc l=4):0<wl l:=by
 obtain⟨c,l,rfl⟩:=List.exists_cons_of_ne_nil hl
 rw[jgG] at h
 rw[jgH]
 unfold wdB
 rcases h with h|h<;>rw[h]<;>simp<;>omega
def tkd (l:List UInt8):Int:=if hc l=3 then 0 else if hc l=4 then 1 else 2
def tn (l:List UInt8):Nat:=max (wl l) (sl l)
def ter (l:List UInt8):Nat:=if hc l=3 then (if 24<wl l then 8 else 0) else if hc l=4 then jcg (l.take (wl l)) else if sl l=0 then 4 else 0
theorem jcp {l:List UInt8} (h:hc l=3∨hc l=4):tn l=wl l:=by unfold tn;rw[jiA h];omega
theorem jdn {l:List UInt8} (h3:hc l≠3) (h4:hc l≠4):tn l=sl l:=by unfold tn;rw[jkH h3 h4];omega
theorem jkI (l:List UInt8):tn l≤l.length:=by
 have:=jhQ l;have:=jj7 l;unfold tn;omega
theorem jl9 {l:List UInt8} (hl:l≠[]) (h:ter l=0):0<tn l:=by
 unfold ter at h
 by_cases h3:hc l=3
 ·have:=jiB hl (.inl h3);unfold tn;omega
 ·rw[if_neg h3] at h
  by_cases h4:hc l=4
  ·have:=jiB hl (.inr h4);unfold tn;omega
  ·rw[if_neg h4] at h
   unfold tn
   split at h
   ·cases h
   ·omega
theorem jd0 {x:List UInt8} (hx:x≠[]) (y:List UInt8):hc (x++y)=hc x:=by
 obtain⟨c,x,rfl⟩:=List.exists_cons_of_ne_nil hx
 rfl
theorem jh0 {x z:List UInt8} (hx:x≠[]) (h:tn (x++z)=x.length):tn x=x.length:=by
 by_cases hw:hc x=3∨hc x=4
 ·rw[jcp (by rw[jd0 hx];exact hw)] at h
  rw[jcp hw]
  have:=(jdz x z).1 h
  have h2:=(jdz x []).2 ⟨this.1,rfl⟩
  rwa [List.append_nil] at h2
 ·rw[jdn (by rw[jd0 hx];omega) (by rw[jd0 hx];omega)] at h
  rw[jdn (by omega) (by omega)]
  obtain⟨a,x,rfl⟩:=List.exists_cons_of_ne_nil hx
  cases x with
  |nil=>
   have h5:cls a.toNat=5:=by
    unfold sl at h
    split at h
    ·simp at h
    ·split at h
     ·rename_i h5;exact h5.2
     ·simp at h
   unfold sl
   rw[if_neg (by simp),if_pos ⟨by simp,h5⟩]
   rfl
  |cons b x=>
   have hle:sl (a::b::x++z)≤2:=by
    unfold sl
    split
    ·omega
    ·split<;>omega
   have hx0:x=[]:=by
    cases x with
    |nil=>rfl
    |cons c x=>rw[h] at hle;simp at hle
   subst hx0
   unfold sl at h ⊢
   simpa using h
theorem jiC {x z:List UInt8} (hx:x≠[]) (h:tn (x++z)=x.length):ter (x++z)=ter x∧tkd (x++z)=tkd x:=by
 have h0:=jh0 hx h
 refine⟨?_,by unfold tkd;rw[jd0 hx]⟩
 unfold ter
 rw[jd0 hx]
 by_cases h3:hc x=3
 ·rw[if_pos h3,if_pos h3]
  rw[jcp (by rw[jd0 hx];exact .inl h3)] at h
  rw[jcp (.inl h3)] at h0
  rw[h,h0]
 ·rw[if_neg h3,if_neg h3]
  by_cases h4:hc x=4
  ·rw[if_pos h4,if_pos h4]
   rw[jcp (by rw[jd0 hx];exact .inr h4)] at h
   rw[jcp (.inr h4)] at h0
   rw[h,h0,List.take_append_of_le_length (jrr _)]
  ·rw[if_neg h4,if_neg h4]
   rw[jdn (by rw[jd0 hx];exact h3) (by rw[jd0 hx];exact h4)] at h
   rw[jdn h3 h4] at h0
   rw[h,h0]
theorem jkJ {l:List UInt8} (hl:l≠[]) (h:ter l=0):tn (l.take (tn l))=(l.take (tn l)).length∧l.take (tn l)≠[]∧ter (l.take (tn l))=0∧tkd (l.take (tn l))=tkd l:=by
 have hp:=jl9 hl h
 have hle:=jkI l
 have hlen:(l.take (tn l)).length=tn l:=by rw[List.length_take];omega
 have hne:l.take (tn l)≠[]:=fun e=>by rw[e] at hlen;simp at hlen;omega
 have e:l.take (tn l)++l.drop (tn l)=l:=List.take_append_drop _ _
 have h1:tn (l.take (tn l)++l.drop (tn l))=(l.take (tn l)).length:=by rw[e,hlen]
 obtain⟨h2,h3⟩:=jiC hne h1
 rw[e] at h2 h3
 exact⟨jh0 hne h1,hne,by rw[←h2];exact h,h3.symm⟩
theorem jex:∀ (b:Bool) (l:List UInt8),skM false (l.drop (skM b l))=0
 |_,[]=>by simp[skM]
 |false,c::l=>by
  have h1:=jex false l;have h2:=jex true l
  by_cases c1:cls c.toNat=1
  ·rw[show skM false (c::l)=1+skM false l by rw[skM,if_pos c1],Nat.add_comm,List.drop_succ_cons];exact h1
  ·by_cases c2:cls c.toNat=2
   ·rw[show skM false (c::l)=1+skM true l by rw[skM,if_neg c1,if_pos c2],Nat.add_comm,List.drop_succ_cons];exact h2
   ·have e:skM false (c::l)=0:=by rw[skM,if_neg c1,if_neg c2]
    rw[e,List.drop_zero,e]
 |true,c::l=>by
  have h1:=jex false l;have h2:=jex true l
  by_cases c1:c=10
  ·rw[show skM true (c::l)=1+skM false l by rw[skM,if_pos c1],Nat.add_comm,List.drop_succ_cons];exact h1
  ·rw[show skM true (c::l)=1+skM true l by rw[skM,if_neg c1],Nat.add_comm,List.drop_succ_cons];exact h2
def sq:Nat→Nat→List UInt8→List (Int×List UInt8×Nat)×Nat×Nat
 |0,_,_=>([],0,0)
 |f+1,a,l=>
  if l.drop (skM false l)=[] then ([(3,[],a+skM false l)],0,0)
  else if ter (l.drop (skM false l))=0 then
   ((tkd (l.drop (skM false l)),(l.drop (skM false l)).take (tn (l.drop (skM false l))),a+skM false l)::(sq f (a+skM false l+tn (l.drop (skM false l))) ((l.drop (skM false l)).drop (tn (l.drop (skM false l))))).1,
    (sq f (a+skM false l+tn (l.drop (skM false l))) ((l.drop (skM false l)).drop (tn (l.drop (skM false l))))).2)
  else ([],a+skM false l,ter (l.drop (skM false l)))
theorem jfB (f a:Nat) (l:List UInt8):(l.drop (skM false l)=[]∧skM false l=l.length∧sq (f+1) a l=([(3,[],a+l.length)],0,0)) ∨
  (∃ k m,skM false l=k∧l.drop k=m∧m≠[]∧k+m.length=l.length∧skM false m=0∧ter m≠0∧sq (f+1) a l=([],a+k,ter m)) ∨
  (∃ k x z,skM false l=k∧l.drop k=x++z∧x≠[]∧k+x.length+z.length=l.length∧skM false (x++z)=0∧tn (x++z)=x.length∧ter (x++z)=0∧ter x=0∧tn x=x.length ∧
   sq (f+1) a l=((tkd x,x,a+k)::(sq f (a+k+x.length) z).1,(sq f (a+k+x.length) z).2)):=by
 have hz:=jex false l
 have hle:=jdw false l
 by_cases h:l.drop (skM false l)=[]
 ·have e:skM false l=l.length:=by have:=List.drop_eq_nil_iff.1 h;omega
  refine .inl ⟨h,e,?_⟩
  rw[sq,if_pos h,e]
 ·obtain⟨k,hk⟩:∃ k,skM false l=k:=⟨_,rfl⟩
  rw[hk] at h hz hle
  obtain⟨m,hm⟩:∃ m,l.drop k=m:=⟨_,rfl⟩
  rw[hm] at h hz
  have hlen:k+m.length=l.length:=by rw[←hm,List.length_drop];omega
  by_cases he:ter m=0
  ·obtain⟨t1,t2,t3,t4⟩:=jkJ h he
   have tl:=jkI m
   have hx:(m.take (tn m)).length=tn m:=by rw[List.length_take];omega
   have hs:m.take (tn m)++m.drop (tn m)=m:=List.take_append_drop _ _
   refine .inr (.inr ⟨k,m.take (tn m),m.drop (tn m),hk,by rw[hm,hs],t2,?_,by rw[hs];exact hz,by rw[hs,hx],by rw[hs];exact he,t3,t1,?_⟩)
   ·rw[hx,List.length_drop];omega
   ·rw[sq,hk,hm,if_neg h,if_pos he,hx,t4]
  ·refine .inr (.inl ⟨k,m,hk,hm,h,hlen,hz,he,?_⟩)
   rw[sq,hk,hm,if_neg h,if_neg he]
theorem jh1 (d:Nat):∀ (f a:Nat) (l:List UInt8),l.length<f→sq f (a+d) l=((sq f a l).1.map (fun t=>(t.1,t.2.1,t.2.2+d)),(if (sq f a l).2.2=0 then 0 else (sq f a l).2.1+d),(sq f a l).2.2)∧((sq f a l).2.2=0→(sq f a l).2.1=0)
 |0,_,_,h=>by omega
 |f+1,a,l,h=>by
  rcases jfB f a l with ⟨h0,h1,e⟩|⟨k,m,hk,hm,hne,hl,-,he,e⟩|⟨k,x,z,hk,hm,hx,hl,-,ht,he,-,-,e⟩
  ·rw[e,sq,if_pos h0,h1]
   refine⟨?_,fun _=>rfl⟩
   simp;omega
  ·rw[e,sq,hk,hm,if_neg hne,if_neg he]
   refine⟨?_,fun q=>absurd q he⟩
   simp only[if_neg he,List.map_nil]
   rw[show a+d+k=a+k+d by omega]
  ·have hp:0<x.length:=List.length_pos_iff.2 hx
   have hne:x++z≠[]:=fun q=>hx (List.append_eq_nil_iff.1 q).1
   have htk:tkd (x++z)=tkd x:=(jiC hx ht).2
   obtain⟨i1,i2⟩:=jh1 d f (a+k+x.length) z (by omega)
   rw[e,sq,hk,hm,if_neg hne,if_pos he,ht,htk,List.take_left' rfl,List.drop_left' rfl]
   rw[show a+d+k+x.length=a+k+x.length+d by omega,i1]
   refine⟨?_,i2⟩
   simp only[List.map_cons]
   rw[show a+d+k=a+k+d by omega]
def okX (x:List UInt8):Prop:=x≠[]∧ter x=0∧tn x=x.length
theorem jlA:∀ (f a:Nat) (l:List UInt8),l.length<f→(sq f a l).2.2=0→∃ V e,(sq f a l).1=V++[(3,[],e)]∧∀ v∈V,okX v.2.1∧v.1=tkd v.2.1
 |0,_,_,h,_=>by omega
 |f+1,a,l,h,h0=>by
  rcases jfB f a l with ⟨-,-,e⟩|⟨k,m,hk,hm,hne,hl,-,he,e⟩|⟨k,x,z,hk,hm,hx,hl,-,ht,-,he,htx,e⟩
  ·rw[e];exact⟨[],_,rfl,by simp⟩
  ·rw[e] at h0;exact absurd h0 he
  ·have hp:0<x.length:=List.length_pos_iff.2 hx
   rw[e] at h0 ⊢
   obtain⟨V,e1,h1,h2⟩:=jlA f (a+k+x.length) z (by omega) h0
   refine⟨(tkd x,x,a+k)::V,e1,by rw[h1];rfl,?_⟩
   intro v hv
   rcases List.mem_cons.1 hv with rfl|hv
   ·exact⟨⟨hx,he,htx⟩,rfl⟩
   ·exact h2 v hv
theorem jkK {x:List UInt8}:iwB x=true↔okX x∧tkd x=0:=by
 unfold iwB okX
 rw[Bool.and_eq_true,Bool.and_eq_true,Bool.and_eq_true,decide_eq_true_iff,decide_eq_true_iff,decide_eq_true_iff,decide_eq_true_iff]
 constructor
 ·rintro⟨h0,h24,h3,hw⟩
  have h3:hc x=3:=h3
  have hne:x≠[]:=fun e=>by rw[e] at h0;simp at h0
  refine⟨⟨hne,?_,by rw[jcp (.inl h3)];exact hw⟩,by unfold tkd;rw[if_pos h3]⟩
  unfold ter;rw[if_pos h3,if_neg (by omega)]
 ·rintro⟨⟨hne,he,ht⟩,hk⟩
  have h3:hc x=3:=by
   unfold tkd at hk
   by_cases h3:hc x=3
   ·exact h3
   ·rw[if_neg h3] at hk
    split at hk<;>cases hk
  rw[jcp (.inl h3)] at ht
  unfold ter at he
  rw[if_pos h3] at he
  refine⟨List.length_pos_iff.2 hne,?_,h3,ht⟩
  split at he
  ·cases he
  ·omega
theorem jiD {x:List UInt8}:jcg x=0↔okX x∧tkd x=1:=by
 unfold okX
 constructor
 ·intro h
  have had:adB x=true:=by
   unfold jcg at h
   split at h
   ·assumption
   ·cases h
  unfold adB at had
  rw[Bool.and_eq_true,List.all_eq_true] at had
  have hne:x≠[]:=fun e=>by rw[e] at had;simp at had
  have h4:hc x=4:=by
   obtain⟨c,r,rfl⟩:=List.exists_cons_of_ne_nil hne
   have:=had.1 c (by simp)
   unfold dgB at this
   exact of_decide_eq_true this
  have hw:wl x=x.length:=by
   have:=(jdz x []).2 ⟨fun b hb=>by
    have:=had.1 b hb
    unfold dgB at this
    unfold wdB
    rw[this,Bool.or_true],rfl⟩
   rwa [List.append_nil] at this
  refine⟨⟨hne,?_,by rw[jcp (.inr h4)];exact hw⟩,by unfold tkd;rw[if_neg (by omega),if_pos h4]⟩
  unfold ter;rw[if_neg (by omega),if_pos h4,hw,List.take_length];exact h
 ·rintro⟨⟨hne,he,ht⟩,hk⟩
  have h4:hc x=4:=by
   unfold tkd at hk
   by_cases h3:hc x=3
   ·rw[if_pos h3] at hk;cases hk
   ·rw[if_neg h3] at hk
    split at hk
    ·assumption
    ·cases hk
  rw[jcp (.inr h4)] at ht
  unfold ter at he
  rw[if_neg (by omega),if_pos h4,ht,List.take_length] at he
  exact he
theorem jkL {x:List UInt8}:(0<x.length∧sl x=x.length)↔okX x∧tkd x=2:=by
 unfold okX
 constructor
 ·rintro⟨h0,hs⟩
  have hne:x≠[]:=fun e=>by rw[e] at h0;simp at h0
  have hw:¬ (hc x=3∨hc x=4):=fun h=>by have:=jiA h;omega
  refine⟨⟨hne,?_,by rw[jdn (by omega) (by omega)];exact hs⟩,by unfold tkd;rw[if_neg (by omega),if_neg (by omega)]⟩
  unfold ter;rw[if_neg (by omega),if_neg (by omega),if_neg (by omega)]
 ·rintro⟨⟨hne,he,ht⟩,hk⟩
  have h3:hc x≠3:=fun h=>by unfold tkd at hk;rw[if_pos h] at hk;cases hk
  have h4:hc x≠4:=fun h=>by unfold tkd at hk;rw[if_neg h3,if_pos h] at hk;cases hk
  rw[jdn h3 h4] at ht
  exact⟨List.length_pos_iff.2 hne,ht⟩
theorem jlB (x:List UInt8):tkd x=0∨tkd x=1∨tkd x=2:=by
 unfold tkd
 split
 ·exact .inl rfl
 ·split
  ·exact .inr (.inl rfl)
  ·exact .inr (.inr rfl)
def LB (W:World) (q:Nat) (l:List ByteArray):Prop:=W.heap[q]? = some (.cells (l.map Value.string).toArray 9 (0,0))
theorem LB.lt {W:World} {q:Nat} {l:List ByteArray} (h:LB W q l):q<W.heap.size:=(Array.getElem?_eq_some_iff.1 h).1
theorem LB.keep {W W':World} {q:Nat} {l:List ByteArray} (h:LB W q l) (hb:Below W.heap.size W W'):LB W' q l:=by
 have:=hb.block q h.lt;unfold LB at *;rw[this];exact h
theorem LB.cell {W:World} {q:Nat} {l:List ByteArray} (h:LB W q l) (j:Nat) (hj:j<l.length):W.cell? ⟨q,j,none⟩=some (.string (l.getD j ⟨#[]⟩)):=by
 unfold LB at h
 simp[World.cell?,h,List.getD_eq_getElem?_getD,List.getElem?_eq_getElem hj]
theorem LB.frozen {W:World} {q:Nat} {l:List ByteArray} (h:LB W q l) (j:Nat):W.frozen? ⟨q,j,none⟩=false:=by
 unfold LB at h
 simp[World.frozen?,h]
theorem LB.set {W:World} {q:Nat} {l:List ByteArray} (h:LB W q l) (j:Nat) (x:ByteArray):LB (W.setCell ⟨q,j,none⟩ (.string x)) q (l.set j x):=by
 have hlt:=h.lt
 have h1:W.heap[q] = .cells (l.map Value.string).toArray 9 (0,0):=by
  have:=h;unfold LB at this;simpa [Array.getElem?_eq_getElem hlt] using this
 show (W.heap.modify q _)[q]? = _
 rw[Array.getElem?_eq_getElem (by simpa using hlt),Array.getElem_modify_self,h1]
 simp[List.map_set]
def toTk (t:Int×List UInt8×Nat):Tk:=⟨t.1,str t.2.1,(t.2.2:Int)⟩
theorem jkR (s:ByteArray) (a:Nat):hc ((bytes s).drop a)=cls (jaa s a):=by
 unfold hc jaa
 rw[List.getD_eq_getElem?_getD,List.getElem?_drop,List.getD_eq_getElem?_getD,Nat.add_zero]
theorem jez (s:ByteArray) {a n:Nat} (h:a+n≤s.size):s.extract a (a+n)=str (((bytes s).drop a).take n):=by
 rw[←jbz s h,jdu]
theorem jlF {s:ByteArray} {a:Nat} (h:a<s.size):(tokX s a).2=ter ((bytes s).drop a)∧tkT s a=⟨tkd ((bytes s).drop a),str (((bytes s).drop a).take (tn ((bytes s).drop a))),(a:Int)⟩:=by
 have hh:=jkR s a
 by_cases hw:cls (jaa s a)=3∨cls (jaa s a)=4
 ·obtain⟨h1,h2,h3,h4⟩:=jh2 h hw
  have hn:tn ((bytes s).drop a)=wl ((bytes s).drop a):=jcp (by rw[hh];exact hw)
  have hb:jaa (s.extract a (a+wl ((bytes s).drop a))) 0=jaa s a:=by
   unfold jaa
   rw[jbz s h2,List.getD_eq_getElem?_getD,List.getElem?_take_of_lt (by omega),List.getElem?_drop,List.getD_eq_getElem?_getD,Nat.add_zero]
  refine⟨?_,?_⟩
  ·rw[h3]
   unfold wdE ter
   rw[hb,hh,jbh s h2,jbz s h2]
   rcases hw with q|q
   ·rw[if_neg (show ¬ cls (jaa s a)=4 by omega),if_pos q]
   ·rw[if_pos q,if_neg (show ¬ cls (jaa s a)=3 by omega),if_pos q]
  ·rw[h4,hn,jez s h2]
   unfold tkd
   rw[hh]
   rcases hw with q|q
   ·rw[if_neg (show ¬ cls (jaa s a)=4 by omega),if_pos q]
   ·rw[if_pos q,if_neg (show ¬ cls (jaa s a)=3 by omega),if_pos q]
 ·have q3:cls (jaa s a)≠3:=by omega
  have q4:cls (jaa s a)≠4:=by omega
  obtain⟨h2,h3,h4⟩:=jh3 h q3 q4
  have hn:tn ((bytes s).drop a)=sl ((bytes s).drop a):=jdn (by rw[hh];exact q3) (by rw[hh];exact q4)
  refine⟨?_,?_⟩
  ·rw[h3]
   unfold ter
   rw[hh,if_neg q3,if_neg q4]
  ·rw[h4,hn,jez s h2]
   unfold tkd
   rw[hh,if_neg q3,if_neg q4]
theorem jkv (s:ByteArray):∀ (f a:Nat),a≤s.size→scF s f (PA s a)=((sq f a ((bytes s).drop a)).1.map toTk,(sq f a ((bytes s).drop a)).2)
 |0,_,_=>rfl
 |f+1,a,ha=>by
  have hpl:=jm3 ha
  have hdd:((bytes s).drop a).drop (skM false ((bytes s).drop a))=(bytes s).drop (PA s a):=by rw[List.drop_drop];rfl
  have hpa:a+skM false ((bytes s).drop a)=PA s a:=rfl
  by_cases hlt:PA s a<s.size
  ·obtain⟨t1,t2⟩:=jlF hlt
   have hne:(bytes s).drop (PA s a)≠[]:=fun e=>by
    have:=congrArg List.length e
    rw[List.length_drop,jan] at this
    simp at this;omega
   rw[sq,hdd,hpa,if_neg hne]
   by_cases he:(tokX s (PA s a)).2=0
   ·rw[jhy hlt he,if_pos (by rw[←t1];exact he)]
    obtain⟨z1,z2⟩:=jf8 he hlt
    have hsz:(tkT s (PA s a)).t.size=tn ((bytes s).drop (PA s a)):=by
     rw[t2]
     show (str _).size=_
     rw[jen,List.length_take]
     have:=jkI ((bytes s).drop (PA s a));omega
    have ih:=jkv s f (PA s a+(tkT s (PA s a)).t.size) z2
    rw[jkP,ih,hsz,List.drop_drop,t2]
    rfl
   ·rw[jf9 hlt he,if_neg (by rw[←t1];exact he),←t1]
    rfl
  ·have hz:PA s a=s.size:=by omega
   have hnil:(bytes s).drop (PA s a)=[]:=List.drop_eq_nil_of_le (by rw[jan];omega)
   rw[sq,hdd,hpa,if_pos hnil,hz,jgC (jrr _)]
   rfl
def sqR (l:List UInt8):List (Int×List UInt8×Nat)×Nat×Nat:=sq (l.length+1) 0 l
theorem jlG {s:ByteArray} (h:s.size≤65536):scR s=if (sqR (bytes s)).2.2=0 then ((sqR (bytes s)).1.map toTk,(sqR (bytes s)).2) else ([],(sqR (bytes s)).2):=by
 have e:=jkv s (s.size+1) 0 (Nat.zero_le _)
 have hp:PA s 0=skM false (bytes s):=by unfold PA;rw[List.drop_zero,Nat.zero_add]
 rw[hp,List.drop_zero] at e
 unfold scR sqR
 rw[if_neg (by omega),jan,e]
theorem jlH {s:ByteArray} (h:s.size≤65536) (he:(scR s).2.2=0):(sqR (bytes s)).2.2=0∧(scR s).1=(sqR (bytes s)).1.map toTk∧(scR s).2.1=0:=by
 rw[jlG h] at he ⊢
 by_cases q:(sqR (bytes s)).2.2=0
 ·rw[if_pos q] at he ⊢
  exact⟨q,rfl,(jh1 0 _ 0 (bytes s) (Nat.lt_succ_self _)).2 q⟩
 ·rw[if_neg q] at he
  exact absurd he q
inductive Syn where
 |mk (k:Int) (a:Int) (t:ByteArray) (n:Int) (kids:List Syn)
def Syn.text:Syn→ByteArray
 |.mk _ _ t _ _=>t
inductive Want where
 |lvl (i:Nat)
 |rep (i:Nat) (a:Int) (x:List Syn)
 |place|bare|param
 |list (w:Want)
 |stmts|stmt|block|right|load|call|cond
 |chain (a:Int)
 |decls|body|proc|record
 |program (a:Int)
abbrev Red:=Except (Int×Nat) (List Syn×List Tk)
def pEnd:Tk:=⟨3,⟨#[]⟩,0⟩
def pHd (l:List Tk):Tk:=l.headD pEnd
def pTl:List Tk→List Tk
 |_::b::r=>b::r
 |l=>l
def pIs (s:List UInt8) (l:List Tk):Bool:=bytes (pHd l).t==s
def ja5 (t:Tk):Bool:=decide (t.k=0) && decide (nmE t.t=0)
def jaQ (s:List UInt8) (l:List Tk):Except (Int×Nat) (List Tk):=if pIs s l=true then .ok (pTl l) else .error ((pHd l).a,4)
def jaW (l:List Tk):Except (Int×Nat) (Tk×List Tk):=if ja5 (pHd l)=true then .ok (pHd l,pTl l) else .error ((pHd l).a,4)
def pOps:Nat→List (List UInt8)
 |0=>[[111,114]]
 |1=>[[97,110,100]]
 |2=>[[110,111,116]]
 |3=>[[61],[33,61],[60],[60,61],[62],[62,61]]
 |4=>[[43],[45]]
 |5=>[[42],[47],[37]]
 |6=>[[45]]
 |_=>[]
def pOp (i:Nat) (l:List Tk):Bool:=(pOps i).contains (bytes (pHd l).t)
def jbU (l:List Tk):List UInt8:=bytes (pHd (pTl l)).t
def jaT:List UInt8:=[114,101,99,111,114,100]
def jb6:List UInt8:=[112,114,111,99]
def jaR:List UInt8:=[105,109,112,111,114,116]
def jcE:List UInt8:=[114,101,116,117,114,110,115]
def jb1:List UInt8:=[114,101,113,117,105,114,101,115]
def jbN:List UInt8:=[101,110,115,117,114,101,115]
def wVar:List UInt8:=[118,97,114]
def jdi:List UInt8:=[97,114,114,97,121]
def wIf:List UInt8:=[105,102]
def jel:List UInt8:=[101,108,115,101]
def jbA:List UInt8:=[119,104,105,108,101]
def jbq:List UInt8:=[97,115,115,101,114,116]
def jca:List UInt8:=[97,115,115,117,109,101]
def jcN:List UInt8:=[105,110,112,117,116]
def jc6:List UInt8:=[116,114,117,101]
def jbH:List UInt8:=[102,97,108,115,101]
def pNum (l:List UInt8):Nat:=l.foldl (fun n c=>n * 10+(c.toNat-48)) 0
def jdB (k:Int) (t:Tk):Syn:=.mk k t.a t.t 0 []
def jaf:Nat→Want→Nat→List Tk→Red
 |0,_,_,_=>.error (0,0)
 |f+1,.lvl i,d,l=>
  if i=2∨i=6 then
   if pOp i l=true then
    if d=64 then .error ((pHd l).a,12) else do
     let (x,l1) ←jaf f (.lvl i) (d+1) (pTl l)
     return ([.mk 21 (pHd l).a (pHd l).t 0 x],l1)
   else jaf f (.lvl (i+1)) d l
  else if i=3 then do
   let (x,l1) ←jaf f (.lvl 4) d l
   if pOp 3 l1=true then do
    let (y,l2) ←jaf f (.lvl 4) d (pTl l1)
    return ([.mk 22 (pHd l).a (pHd l1).t 0 (x++y)],l2)
   else return (x,l1)
  else if 7≤i then
   if (pHd l).k=1 then .ok ([jdB 20 (pHd l)],pTl l)
   else if pIs jc6 l=true∨pIs jbH l=true then .ok ([jdB 23 (pHd l)],pTl l)
   else if pIs [40] l=true then
    if d=64 then .error ((pHd l).a,12) else do
     let (x,l1) ←jaf f (.lvl 0) (d+1) (pTl l)
     let l2 ←jaQ [41] l1
     return (x,l2)
   else jaf f .place d l
  else do
   let (x,l1) ←jaf f (.lvl (i+1)) d l
   jaf f (.rep i (pHd l).a x) d l1
 |f+1,.rep i a x,d,l=>
  if pOp i l=true then do
   let (y,l1) ←jaf f (.lvl (i+1)) d (pTl l)
   jaf f (.rep i a [.mk 22 a (pHd l).t 0 (x++y)]) d l1
  else .ok (x,l)
 |f+1,.bare,d,l=>do
  let (t,l1) ←jaW l
  return ([jdB 19 t],l1)
 |f+1,.place,d,l=>do
  let (t,l1) ←jaW l
  if pIs [46] l1=true then do
   let (x,l2) ←jaf f .bare d (pTl l1)
   return ([.mk 18 t.a t.t 0 x],l2)
  else return ([jdB 18 t],l1)
 |f+1,.param,d,l=>do
  let (t,l1) ←jaW l
  if pIs [58] l1=true then do
   let (x,l2) ←jaf f .bare d (pTl l1)
   return ([.mk 4 t.a t.t 0 x],l2)
  else return ([jdB 4 t],l1)
 |f+1,.list w,d,l=>do
  let (x,l1) ←jaf f w d l
  if pIs [44] l1=true then do
   let (y,l2) ←jaf f (.list w) d (pTl l1)
   return (x++y,l2)
  else return (x,l1)
 |f+1,.cond,d,l=>jaf f (.lvl 0) d l
 |f+1,.load,d,l=>do
  let (t,l1) ←jaW l
  let l2 ←jaQ [91] l1
  let (x,l3) ←jaf f (.lvl 4) d l2
  let l4 ←jaQ [93] l3
  return ([.mk 16 t.a t.t 0 x],l4)
 |f+1,.call,d,l=>do
  let (t,l1) ←jaW l
  let l2 ←jaQ [40] l1
  let (x,l3) ←if pIs [41] l2=true then Except.ok (([]:List Syn),l2) else jaf f (.list (.lvl 4)) d l2
  let l4 ←jaQ [41] l3
  return ([.mk 17 t.a t.t 0 x],l4)
 |f+1,.right,d,l=>
  if pIs jcN l=true then .ok ([.mk 15 (pHd l).a ⟨#[]⟩ 0 []],pTl l)
  else if ja5 (pHd l)=true∧jbU l=[91] then jaf f .load d l
  else if ja5 (pHd l)=true∧jbU l=[40] then jaf f .call d l
  else jaf f (.lvl 4) d l
 |f+1,.block,d,l=>do
  let l1 ←jaQ [123] l
  if d=64 then .error ((pHd l).a,12) else do
   let (x,l2) ←jaf f .stmts (d+1) l1
   let l3 ←jaQ [125] l2
   return ([.mk 6 (pHd l).a ⟨#[]⟩ 0 x],l3)
 |f+1,.chain a,d,l=>do
  let (c,l1) ←jaf f (.lvl 0) d l
  let (b,l2) ←jaf f .block d l1
  if pIs jel l2=true then
   let l3:=pTl l2
   if pIs wIf l3=true then
    if d=64 then .error ((pHd l3).a,12) else do
     let (e,l4) ←jaf f (.chain (pHd l3).a) (d+1) (pTl l3)
     return ([.mk 11 a ⟨#[]⟩ 0 (c++b++e)],l4)
   else do
    let (e,l4) ←jaf f .block d l3
    return ([.mk 11 a ⟨#[]⟩ 0 (c++b++e)],l4)
  else return ([.mk 11 a ⟨#[]⟩ 0 (c++b)],l2)
 |f+1,.stmts,d,l=>
  if ja5 (pHd l)=true∨pIs wIf l=true∨pIs jbA l=true∨pIs jbq l=true∨pIs jca l=true then do
   let (x,l1) ←jaf f .stmt d l
   let (y,l2) ←jaf f .stmts d l1
   return (x++y,l2)
  else .ok ([],l)
 |f+1,.stmt,d,l=>
  if ja5 (pHd l)=true then
   if jbU l=[91] then do
    let (x,l1) ←jaf f .load d l
    let l2 ←jaQ [58,61] l1
    let (y,l3) ←jaf f (.lvl 4) d l2
    let l4 ←jaQ [59] l3
    return ([.mk 10 (pHd l).a (pHd l).t 0 ((x.flatMap fun | .mk _ _ _ _ ks=>ks)++y)],l4)
   else if jbU l=[40] then do
    let (x,l1) ←jaf f .call d l
    let l2 ←jaQ [59] l1
    return ([.mk 9 (pHd l).a ⟨#[]⟩ 0 (.mk 3 (pHd l).a ⟨#[]⟩ 0 []::x)],l2)
   else do
    let (x,l1) ←jaf f (.list .place) d l
    let l2 ←jaQ [58,61] l1
    let (y,l3) ←jaf f .right d l2
    let l4 ←jaQ [59] l3
    return ([.mk 9 (pHd l).a ⟨#[]⟩ 0 (.mk 3 (pHd l).a ⟨#[]⟩ 0 x::y)],l4)
  else if pIs wIf l=true then jaf f (.chain (pHd l).a) d (pTl l)
  else if pIs jbA l=true then do
   let (c,l1) ←jaf f (.lvl 0) d (pTl l)
   let (b,l2) ←jaf f .block d l1
   return ([.mk 12 (pHd l).a ⟨#[]⟩ 0 (c++b)],l2)
  else do
   let (c,l1) ←jaf f (.lvl 0) d (pTl l)
   let l2 ←jaQ [59] l1
   return ([.mk (if pIs jbq l=true then 13 else 14) (pHd l).a ⟨#[]⟩ 0 c],l2)
 |f+1,.decls,d,l=>
  if pIs wVar l=true then do
   let (x,l1) ←jaf f (.list .param) d (pTl l)
   let l2 ←jaQ [59] l1
   let (y,l3) ←jaf f .decls d l2
   return (.mk 7 (pHd l).a ⟨#[]⟩ 0 x::y,l3)
  else if pIs jdi l=true then do
   let (t,l1) ←jaW (pTl l)
   let l2 ←jaQ [91] l1
   if (pHd l2).k≠1 then .error ((pHd l2).a,4)
   else if 1048576<pNum (bytes (pHd l2).t) then .error ((pHd l2).a,2)
   else do
    let l3 ←jaQ [93] (pTl l2)
    let l4 ←jaQ [59] l3
    let (y,l5) ←jaf f .decls d l4
    return (.mk 8 (pHd l).a t.t (pNum (bytes (pHd l2).t):Int) []::y,l5)
  else .ok ([],l)
 |f+1,.body,d,l=>do
  let l1 ←jaQ [123] l
  if d=64 then .error ((pHd l).a,12) else do
   let (x,l2) ←jaf f .decls (d+1) l1
   let (y,l3) ←jaf f .stmts (d+1) l2
   let l4 ←jaQ [125] l3
   return ([.mk 6 (pHd l).a ⟨#[]⟩ 0 (x++y)],l4)
 |f+1,.record,d,l=>do
  let l0 ←jaQ jaT l
  let (t,l1) ←jaW l0
  let l2 ←jaQ [123] l1
  let (x,l3) ←jaf f (.list .bare) d l2
  let l4 ←jaQ [125] l3
  return ([.mk 1 (pHd l).a t.t 0 x],l4)
 |f+1,.proc,d,l=>do
  let ext:=pIs jaR l
  let l0 ←jaQ jb6 (if ext=true then pTl l else l)
  let (t,l1) ←jaW l0
  let l2 ←jaQ [40] l1
  let (ps,l3) ←if pIs [41] l2=true then Except.ok (([]:List Syn),l2) else jaf f (.list .param) d l2
  let l4 ←jaQ [41] l3
  let ret:=pIs jcE l4
  let (rs,l5) ←if ret=true then (do
    let m1 ←jaQ [40] (pTl l4)
    let (x,m2) ←jaf f (.list .param) d m1
    let m3 ←jaQ [41] m2
    return ([Syn.mk 3 (pHd (pTl l4)).a ⟨#[]⟩ 0 x],m3)) else Except.ok ([Syn.mk 3 (pHd l4).a ⟨#[]⟩ 0 []],l4)
  let (q1,l6) ←if pIs jb1 l5=true then (do
    let (x,m) ←jaf f (.lvl 0) d (pTl l5)
    return ([Syn.mk 5 (pHd l5).a ⟨#[]⟩ 0 x],m)) else Except.ok ([Syn.mk 5 (pHd l5).a ⟨#[]⟩ 0 []],l5)
  let (q2,l7) ←if pIs jbN l6=true then (do
    let (x,m) ←jaf f (.lvl 0) d (pTl l6)
    return ([Syn.mk 5 (pHd l6).a ⟨#[]⟩ 0 x],m)) else Except.ok ([Syn.mk 5 (pHd l6).a ⟨#[]⟩ 0 []],l6)
  let kids:=[Syn.mk 3 (pHd l1).a ⟨#[]⟩ 0 ps]++rs++q1++q2
  if ext=true then do
   let l8 ←jaQ [59] l7
   return ([.mk 2 (pHd l).a t.t 0 kids],l8)
  else do
   let (b,l8) ←jaf f .body d l7
   return ([.mk 2 (pHd l).a t.t 0 (kids++b)],l8)
 |f+1,.program a,d,l=>
  if pIs jaT l=true then do
   let (x,l1) ←jaf f .record d l
   let (y,l2) ←jaf f (.program a) d l1
   return (x++y,l2)
  else if pIs jb6 l=true∨pIs jaR l=true then do
   let (x,l1) ←jaf f .proc d l
   let (y,l2) ←jaf f (.program a) d l1
   return (x++y,l2)
  else .ok ([],l)
mutual
def synAt (lo:Nat) (W:World):Syn→Value→Prop
 |.mk k a t n kids,v=>∃ kv,v = .agg #[.int .i64 k,.int .i64 a,.string t,.int .i64 n,kv] ∧
   ((kids.length=0∧kv = .slice none 0 0)∨∃ b c,kv = .slice (some ⟨b,0,none⟩) kids.length c∧kids.length≤c∧c≤maxLen∧lo≤b∧b<W.heap.size∧rowAt lo W kids b 0)
def rowAt (lo:Nat) (W:World):List Syn→Nat→Nat→Prop
 | [],_,_=>True
 |x::r,b,o=>(∃ v0 v1 v2 v3 v4,W.cell? ⟨b,o,none⟩=some v0∧W.cell? ⟨b,o+1,none⟩=some v1∧W.cell? ⟨b,o+2,none⟩=some v2∧W.cell? ⟨b,o+3,none⟩=some v3∧W.cell? ⟨b,o+4,none⟩=some v4∧synAt lo W x (.agg #[v0,v1,v2,v3,v4]))∧rowAt lo W r b (o+5)
end
def kidsAt (lo:Nat) (W:World) (kids:List Syn) (kv:Value):Prop:=
 (kids.length=0∧kv = .slice none 0 0)∨∃ b c,kv = .slice (some ⟨b,0,none⟩) kids.length c∧kids.length≤c∧c≤maxLen∧lo≤b∧b<W.heap.size∧rowAt lo W kids b 0
theorem jcd {lo:Nat} {W:World} {k a n:Int} {t:ByteArray} {kids:List Syn} {v:Value}:synAt lo W (.mk k a t n kids) v↔∃ kv,v = .agg #[.int .i64 k,.int .i64 a,.string t,.int .i64 n,kv]∧kidsAt lo W kids kv:=by
 rw[synAt]
 rfl
structure From (lo:Nat) (W W':World):Prop where
 size:W.heap.size≤W'.heap.size
 block:∀ k,lo≤k→k<W.heap.size→W'.heap[k]? = W.heap[k]?
theorem From.cell {lo:Nat} {W W':World} (h:From lo W W') {p:Addr} (h1:lo≤p.block) (h2:p.block<W.heap.size):W'.cell? p=W.cell? p:=by
 simp only[World.cell?,h.block p.block h1 h2]
theorem From.trans {lo:Nat} {a b c:World} (h:From lo a b) (k:From lo b c):From lo a c:=⟨Nat.le_trans h.size k.size,fun i h1 h2=>(k.block i h1 (Nat.lt_of_lt_of_le h2 h.size)).trans (h.block i h1 h2)⟩
theorem Butt.froms {R lo:Nat} {W W':World} (h:Butt R W W') (hR:R<lo):From lo W W':=⟨h.size,fun k h1 h2=>h.block k h2 (by omega)⟩
theorem From.of_below {lo:Nat} {W W':World} (h:Below W.heap.size W W'):From lo W W':=⟨h.size,fun k _ h2=>h.block k h2⟩
theorem From.setCell {lo:Nat} {a W:World} (h:From lo a W) (p:Addr) (hp:p.block<lo) (v:Value):From lo a (W.setCell p v):=by
 refine⟨by have:=h.size;simpa using this,fun k h1 h2=>?_⟩
 rw[←h.block k h1 h2]
 show (W.heap.modify p.block _)[k]? = _
 rw[Array.getElem?_modify,if_neg (by omega)]
theorem From.refl (lo:Nat) (W:World):From lo W W:=⟨jrr _,fun _ _ _=>rfl⟩
mutual
theorem synAt.keep {lo l2:Nat} {W W':World} (hb:From lo W W') (hl:l2≤lo):∀ (x:Syn) (v:Value),synAt lo W x v→synAt l2 W' x v
 |.mk k a t n kids,v,h=>by
  rw[synAt] at h ⊢
  obtain⟨kv,e,h⟩:=h
  refine⟨kv,e,h.imp_right ?_⟩
  rintro⟨b,c,e1,h1,h2,h3,h4,h5⟩
  exact⟨b,c,e1,h1,h2,Nat.le_trans hl h3,Nat.lt_of_lt_of_le h4 hb.size,rowAt.keep hb hl kids b 0 h3 h4 h5⟩
theorem rowAt.keep {lo l2:Nat} {W W':World} (hb:From lo W W') (hl:l2≤lo):∀ (l:List Syn) (b o:Nat),lo≤b→b<W.heap.size→rowAt lo W l b o→rowAt l2 W' l b o
 | [],b,o,_,_,_=>by rw[rowAt];trivial
 |x::r,b,o,h3,h4,h=>by
  rw[rowAt] at h ⊢
  obtain⟨⟨v0,v1,v2,v3,v4,c0,c1,c2,c3,c4,hx⟩,hr⟩:=h
  refine⟨⟨v0,v1,v2,v3,v4,(hb.cell (p:=⟨b,o,none⟩) h3 h4).trans c0,(hb.cell (p:=⟨b,o+1,none⟩) h3 h4).trans c1,(hb.cell (p:=⟨b,o+2,none⟩) h3 h4).trans c2,(hb.cell (p:=⟨b,o+3,none⟩) h3 h4).trans c3,(hb.cell (p:=⟨b,o+4,none⟩) h3 h4).trans c4,synAt.keep hb hl x _ hx⟩,rowAt.keep hb hl r b (o+5) h3 h4 hr⟩
end
theorem kidsAt.keep {lo l2:Nat} {W W':World} {kids:List Syn} {kv:Value} (hb:From lo W W') (hl:l2≤lo) (h:kidsAt lo W kids kv):kidsAt l2 W' kids kv:=by
 refine h.imp_right ?_
 rintro⟨b,c,e1,h1,h2,h3,h4,h5⟩
 exact⟨b,c,e1,h1,h2,Nat.le_trans hl h3,Nat.lt_of_lt_of_le h4 hb.size,rowAt.keep hb hl kids b 0 h3 h4 h5⟩
theorem kidsAt.slice {lo:Nat} {W:World} {kids:List Syn} {kv:Value} (h:kidsAt lo W kids kv):∃ ao n c,kv = .slice ao n c:=by
 rcases h with ⟨-,e⟩|⟨b,c,e,-⟩
 ·exact⟨_,_,_,e⟩
 ·exact⟨_,_,_,e⟩
theorem box5 {w:World} {p:Nat} {u0 u1 u2 u3 u4:Value} (h0:w.cell? ⟨p,0,none⟩=some u0) (h1:w.cell? ⟨p,1,none⟩=some u1) (h2:w.cell? ⟨p,2,none⟩=some u2) (h3:w.cell? ⟨p,3,none⟩=some u3) (h4:w.cell? ⟨p,4,none⟩=some u4) (v0 v1 v2 v3 v4:Value) (W:World)
  (hW:W=((((w.setCell ⟨p,0,none⟩ v0).setCell ⟨p,1,none⟩ v1).setCell ⟨p,2,none⟩ v2).setCell ⟨p,3,none⟩ v3).setCell ⟨p,4,none⟩ v4) :
  W.cell? ⟨p,0,none⟩=some v0∧W.cell? ⟨p,1,none⟩=some v1∧W.cell? ⟨p,2,none⟩=some v2∧W.cell? ⟨p,3,none⟩=some v3∧W.cell? ⟨p,4,none⟩=some v4:=by
 obtain⟨q0,q1,q2⟩:=box3 h0 h1 h2 v0 v1 v2
 have ne:∀ i j:Nat,i≠j→(⟨p,i,none⟩:Addr)≠⟨p,j,none⟩:=fun i j h e=>h (by cases e;rfl)
 have o:∀ (X:World) (i j:Nat) (v:Value),i≠j→(X.setCell ⟨p,i,none⟩ v).cell? ⟨p,j,none⟩=X.cell? ⟨p,j,none⟩:=fun X i j v h=>World.cell?_setCell_other X ⟨p,i,none⟩ ⟨p,j,none⟩ v (ne i j h)
 generalize hV:((w.setCell ⟨p,0,none⟩ v0).setCell ⟨p,1,none⟩ v1).setCell ⟨p,2,none⟩ v2=V at *
 have r3:V.cell? ⟨p,3,none⟩=some u3:=by
  rw[←hV]
  exact(o _ 2 3 _ (by decide)).trans ((o _ 1 3 _ (by decide)).trans ((o _ 0 3 _ (by decide)).trans h3))
 have r4:V.cell? ⟨p,4,none⟩=some u4:=by
  rw[←hV]
  exact(o _ 2 4 _ (by decide)).trans ((o _ 1 4 _ (by decide)).trans ((o _ 0 4 _ (by decide)).trans h4))
 subst hW
 exact⟨(o _ 4 0 _ (by decide)).trans ((o _ 3 0 _ (by decide)).trans q0),(o _ 4 1 _ (by decide)).trans ((o _ 3 1 _ (by decide)).trans q1),(o _ 4 2 _ (by decide)).trans ((o _ 3 2 _ (by decide)).trans q2),(o _ 4 3 _ (by decide)).trans (jbJ r3 v3),jbJ ((o _ 3 4 _ (by decide)).trans r4) v4⟩
theorem jau (k a:Int) (t:ByteArray) (ao:Option Addr) (l c:Nat) (w:World) :
  Calls Tryz.prog 40 #[.int .i64 k,.int .i64 a,.string t,.slice ao l c] w fun e w'=>e = .returned (.agg #[.int .i64 k,.int .i64 a,.string t,.int .i64 0,.slice ao l c])∧Below w.heap.size w w':=by
 go_enter Tryz.func40,Tryz.ntmps40
 go_wp2
 have q0:(w.alloc (jO k a t 0 ao l c)).cell? ⟨w.heap.size,0,none⟩=some (.int .i64 k):=World.cell?_alloc_new _ _ _ _
 have q1:(w.alloc (jO k a t 0 ao l c)).cell? ⟨w.heap.size,1,none⟩=some (.int .i64 a):=World.cell?_alloc_new _ _ _ _
 have q2:(w.alloc (jO k a t 0 ao l c)).cell? ⟨w.heap.size,2,none⟩=some (.string t):=World.cell?_alloc_new _ _ _ _
 have q3:(w.alloc (jO k a t 0 ao l c)).cell? ⟨w.heap.size,3,none⟩=some (.int .i64 0):=World.cell?_alloc_new _ _ _ _
 have q4:(w.alloc (jO k a t 0 ao l c)).cell? ⟨w.heap.size,4,none⟩=some (.slice ao l c):=World.cell?_alloc_new _ _ _ _
 refine bodyPost_ret (by simp[results,Tryz.results40,go_sem,q0,q1,q2,q3,q4];rfl) rfl ?_
 exact⟨rfl,(Below.refl _ _).alloc (jrr _) _⟩
theorem jfv {a W:World} {R q:Nat} {L:List Tk} {nx d at_ er nx0 d0 at0 er0:Int} (h0:RdAt a R L nx0 d0 at0 er0) (hb:Butt R a W) (h:RdAt W R L nx d at_ er) (hq:a.heap.size≤q) (v0 v1 v2 v3 v4:Value) :
  RdAt (((((W.setCell ⟨q,0,none⟩ v0).setCell ⟨q,1,none⟩ v1).setCell ⟨q,2,none⟩ v2).setCell ⟨q,3,none⟩ v3).setCell ⟨q,4,none⟩ v4) R L nx d at_ er ∧
  Butt R a (((((W.setCell ⟨q,0,none⟩ v0).setCell ⟨q,1,none⟩ v1).setCell ⟨q,2,none⟩ v2).setCell ⟨q,3,none⟩ v3).setCell ⟨q,4,none⟩ v4):=by
 have hR:=h0.lt
 have nb:∀ i j:Nat,(⟨q,i,none⟩:Addr)≠⟨R,j,none⟩:=fun i j e=>by
  have:q=R:=by cases e;rfl
  omega
 obtain⟨g,gb⟩:=jge h0 hb h hq v0 v1 v2
 generalize ((W.setCell ⟨q,0,none⟩ v0).setCell ⟨q,1,none⟩ v1).setCell ⟨q,2,none⟩ v2=V at *
 have hbf:=Butt.setNew hR (Butt.setNew hR gb ⟨q,3,none⟩ hq v3) ⟨q,4,none⟩ hq v4
 have fin:∀ j:Nat,((V.setCell ⟨q,3,none⟩ v3).setCell ⟨q,4,none⟩ v4).cell? ⟨R,j,none⟩=V.cell? ⟨R,j,none⟩:=fun j=>
  (World.cell?_setCell_other _ ⟨q,4,none⟩ ⟨R,j,none⟩ _ (nb _ _)).trans (World.cell?_setCell_other _ ⟨q,3,none⟩ ⟨R,j,none⟩ _ (nb _ _))
 exact⟨h0.later hbf ((fin 1).trans g.c1) ((fin 2).trans g.c2) ((fin 3).trans g.c3) ((fin 4).trans g.c4) (fun j=>(World.frozen?_setCell _ _ _ _).trans ((World.frozen?_setCell _ _ _ _).trans (g.free j))),hbf⟩
theorem jgn (R:Nat) (L:List Tk) (nx:Nat) (d at_ er:Int) (w:World) (h:RdAt w R L nx d at_ er) (hn:nx<L.length) (hL:L.length≤1000000) (hs:(tkD L nx).t.size≤9223372036854775807) (ht:ClsAt R w) :
  Calls Tryz.prog 75 #[.pointer (some ⟨R,0,none⟩)] w fun e w'=>
   e = .returned (.agg #[.int .i64 19,.int .i64 (tkM L nx (isN (tkD L nx))).a,.string (tkM L nx (isN (tkD L nx))).t,.int .i64 0,.slice none 0 0])∧RdAt w' R L (nxM L nx (isN (tkD L nx))) d (atM L nx at_ er (isN (tkD L nx))) (erM er (isN (tkD L nx)))∧Butt R w w':=by
 have hz:=(Below.refl w.heap.size w).alloc (jrr _) jZ
 have hR1:=h.keep hz
 have CM:=jd9 R L nx d at_ er _ hR1 hn hL hs (ht.keep (Below.down hz (Nat.le_of_lt h.lt)))
 generalize isN (tkD L nx)=can at *
 generalize tkM L nx can=T at *
 generalize nxM L nx can=NX at *
 generalize atM L nx at_ er can=AT at *
 generalize erM er can=ER at *
 obtain⟨tk,tt,ta⟩:=T
 unfold tkA at *
 dsimp only at *
 have CN:=fun W=>jau 19 ta tt none 0 0 W
 have HB:=jD (Butt.of_below (R:=R) h.lt hz);have KM:=jD CM;have KN:=jD CN;have HLT:=jD h.lt;have H0:=jD h
 have p0:(w.alloc jZ).cell? ⟨w.heap.size,0,none⟩=some (.int .i64 0):=World.cell?_alloc_new _ _ _ _
 have p1:(w.alloc jZ).cell? ⟨w.heap.size,1,none⟩=some (.int .i64 0):=World.cell?_alloc_new _ _ _ _
 have p2:(w.alloc jZ).cell? ⟨w.heap.size,2,none⟩=some (.string ⟨#[]⟩):=World.cell?_alloc_new _ _ _ _
 have p3:(w.alloc jZ).cell? ⟨w.heap.size,3,none⟩=some (.int .i64 0):=World.cell?_alloc_new _ _ _ _
 have p4:(w.alloc jZ).cell? ⟨w.heap.size,4,none⟩=some (.slice none 0 0):=World.cell?_alloc_new _ _ _ _
 have ps:w.heap.size<(w.alloc jZ).heap.size:=by simp
 have pf:∀ j,(w.alloc jZ).frozen? ⟨w.heap.size,j,none⟩=false:=fun j=>World.frozen?_alloc_new _ _ _ _
 have HP:=jD (And.intro p0 (And.intro p1 (And.intro p2 (And.intro p3 (And.intro p4 (And.intro pf ps))))))
 clear h hn hL hs ht CM CN hR1 hz p0 p1 p2 p3 p4 ps pf
 go_enter Tryz.func75,Tryz.ntmps75
 go_wp2_with (go_at_call 73;refine(KM.out).mono ?_;rintro e w3 ⟨rfl,hr3,hb3⟩;refine Hid.out ?_)
 have hA:Below w3.heap.size w3 (w3.alloc (jU tk tt ta)):=(Below.refl _ _).alloc (jrr _) _
 have z0:(w3.alloc (jU tk tt ta)).cell? ⟨w3.heap.size,0,none⟩=some (.int .i64 tk):=World.cell?_alloc_new _ _ _ _
 have z1:(w3.alloc (jU tk tt ta)).cell? ⟨w3.heap.size,1,none⟩=some (.string tt):=World.cell?_alloc_new _ _ _ _
 have z2:(w3.alloc (jU tk tt ta)).cell? ⟨w3.heap.size,2,none⟩=some (.int .i64 ta):=World.cell?_alloc_new _ _ _ _
 have hr4:=hr3.keep hA
 have HB4:=jD (hb3.trans (Butt.of_below hr3.lt hA))
 have HR4:=jD hr4
 clear hA hr3 hb3 hr4
 refine jD ?_
 go_wp2_with (go_at_call 40;refine(KN.out _).mono ?_;rintro e w5 ⟨rfl,hb5⟩;refine Hid.out ?_)
 have hr5:=HR4.out.keep hb5
 have hb6:=HB4.out.trans (Butt.of_below HR4.out.lt hb5)
 clear hb5 z0 z1 z2
 obtain⟨p0,p1,p2,p3,p4,pf,ps⟩:=HP.out
 have hpR:w.heap.size≠R:=fun e=>absurd HLT (by rw[e];exact Nat.lt_irrefl _)
 have y0:=(hb6.cell (p:=⟨w.heap.size,0,none⟩) ps hpR).trans p0
 have y1:=(hb6.cell (p:=⟨w.heap.size,1,none⟩) ps hpR).trans p1
 have y2:=(hb6.cell (p:=⟨w.heap.size,2,none⟩) ps hpR).trans p2
 have y3:=(hb6.cell (p:=⟨w.heap.size,3,none⟩) ps hpR).trans p3
 have y4:=(hb6.cell (p:=⟨w.heap.size,4,none⟩) ps hpR).trans p4
 have f0:=(hb6.frozen (p:=⟨w.heap.size,0,none⟩) ps hpR).trans (pf 0)
 have f1:=(hb6.frozen (p:=⟨w.heap.size,1,none⟩) ps hpR).trans (pf 1)
 have f2:=(hb6.frozen (p:=⟨w.heap.size,2,none⟩) ps hpR).trans (pf 2)
 have f3:=(hb6.frozen (p:=⟨w.heap.size,3,none⟩) ps hpR).trans (pf 3)
 have f4:=(hb6.frozen (p:=⟨w.heap.size,4,none⟩) ps hpR).trans (pf 4)
 have RB:=jD (jfv H0 (HB.out.trans hb6) hr5 (jrr _) (.int .i64 19) (.int .i64 ta) (.string tt) (.int .i64 0) (.slice none 0 0))
 obtain⟨q0,q1,q2,q3,q4⟩:=box5 y0 y1 y2 y3 y4 (.int .i64 19) (.int .i64 ta) (.string tt) (.int .i64 0) (.slice none 0 0) _ rfl
 clear p0 p1 p2 p3 p4 pf ps hb6 hr5
 refine jD ?_
 go_wp2
 refine bodyPost_ret (by simp[results,Tryz.results75,go_sem,q0,q1,q2,q3,q4];rfl) rfl ?_
 exact⟨rfl,RB.out.1,RB.out.2⟩
theorem jjX {lo:Nat} {W:World} (hl:lo≤W.heap.size) (x:Syn) (v0 v1 v2 v3 v4:Value) (hx:synAt lo W x (.agg #[v0,v1,v2,v3,v4])) :
  kidsAt lo (W.alloc (Obj.cells #[v0,v1,v2,v3,v4] 25)) [x] (.slice (some ⟨W.heap.size,0,none⟩) 1 1):=by
 have hA:Below W.heap.size W (W.alloc (Obj.cells #[v0,v1,v2,v3,v4] 25)):=(Below.refl _ _).alloc (jrr _) _
 refine .inr ⟨W.heap.size,1,rfl,jrr _,by decide,hl,by simp,?_⟩
 rw[rowAt,rowAt]
 exact⟨⟨v0,v1,v2,v3,v4,World.cell?_alloc_new _ _ _ _,World.cell?_alloc_new _ _ _ _,World.cell?_alloc_new _ _ _ _,World.cell?_alloc_new _ _ _ _,World.cell?_alloc_new _ _ _ _,synAt.keep (From.of_below hA) (jrr _) x _ hx⟩,trivial⟩
theorem jfw (R:Nat) (L:List Tk) (nx:Nat) (d at_ er:Int) (s:ByteArray) (w:World) (h:RdAt w R L nx d at_ er) (hn:nx<L.length) (hL:L.length≤1000000) (hc:((tkD L nx).t.toList==s.toList)=false) :
  Calls Tryz.prog 139 #[.pointer (some ⟨R,0,none⟩),.string s] w fun e w'=>(∃ kv,e = .returned kv∧kidsAt w.heap.size w' [] kv)∧RdAt w' R L nx d at_ er∧Butt R w w':=by
 have CA:=jdo R L nx d at_ er s w h hn hL
 rw[hc,if_neg Bool.false_ne_true] at CA
 have KA:=jD CA
 clear h hn hL hc CA
 go_enter Tryz.func139,Tryz.ntmps139
 go_wp2_with (go_at_call 76;refine(KA.out).mono ?_;rintro e w3 ⟨rfl,hr3,hb3⟩;refine Hid.out ?_)
 have HR:=jD hr3;have HB:=jD hb3
 clear hr3 hb3
 refine jD ?_
 go_wp2
 go_ret
 exact⟨⟨_,rfl,.inl ⟨rfl,rfl⟩⟩,HR.out,HB.out⟩
theorem jeF (R:Nat) (L:List Tk) (nx n1:Nat) (d at_ er:Int) (s:ByteArray) (w:World) (h:RdAt w R L nx d at_ er) (hn:nx<L.length) (hL:L.length≤1000000) (hc:((tkD L nx).t.toList==s.toList)=true) (h1:min (nx+1) (L.length-1)=n1)
  (hs:(tkD L n1).t.size≤9223372036854775807) (ht:ClsAt R w) :
  Calls Tryz.prog 139 #[.pointer (some ⟨R,0,none⟩),.string s] w fun e w'=>
   (∃ kv,e = .returned kv∧kidsAt w.heap.size w' [.mk 19 (tkM L n1 (isN (tkD L n1))).a (tkM L n1 (isN (tkD L n1))).t 0 []] kv)∧RdAt w' R L (nxM L n1 (isN (tkD L n1))) d (atM L n1 at_ er (isN (tkD L n1))) (erM er (isN (tkD L n1)))∧Butt R w w':=by
 have CA:=jdo R L nx d at_ er s w h hn hL
 rw[hc,if_pos rfl,h1] at CA
 have hn1:n1<L.length:=by omega
 have CB:=fun W (hb:Butt R w W) (H:RdAt W R L n1 d at_ er)=>jgn R L n1 d at_ er W H hn1 hL hs (ht.keep (hb.below h.lt))
 generalize isN (tkD L n1)=can at *
 generalize tkM L n1 can=T at *
 generalize nxM L n1 can=NX at *
 generalize atM L n1 at_ er can=AT at *
 generalize erM er can=ER at *
 obtain⟨tk,tt,ta⟩:=T
 dsimp only at *
 have KA:=jD CA;have KB:=jD CB
 clear h hn hL hc CA CB hs ht h1 hn1
 go_enter Tryz.func139,Tryz.ntmps139
 go_wp2_with (go_at_call 76;refine(KA.out).mono ?_;rintro e w3 ⟨rfl,hr3,hb3⟩;refine Hid.out ?_)
 have HR:=jD hr3;have HB:=jD hb3
 clear hr3 hb3
 refine jD ?_
 go_wp2_with (go_at_call 75;refine(KB.out _ HB HR).mono ?_;rintro e w4 ⟨rfl,hr4,hb4⟩;refine Hid.out ?_)
 have HR4:=jD hr4;have HB4:=jD (HB.out.trans hb4)
 clear hr4 hb4
 refine jD ?_
 go_wp2
 go_ret
 have hlt:=HR4.out.lt
 have hA:Below w4.heap.size w4 (w4.alloc (jO 19 ta tt 0 none 0 0)):=(Below.refl _ _).alloc (jrr _) _
 exact⟨⟨_,rfl,jjX HB4.out.size (.mk 19 ta tt 0 []) _ _ _ _ _ (by rw[synAt];exact⟨_,rfl,.inl ⟨rfl,rfl⟩⟩)⟩,HR4.out.keep hA,HB4.out.trans (Butt.of_below hlt hA)⟩
end Go.Proofs.YtenmmmdnpglkoaaGreatDoor
