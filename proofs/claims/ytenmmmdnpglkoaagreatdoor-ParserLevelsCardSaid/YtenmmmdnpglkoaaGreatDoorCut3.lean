import Derived.Test.YtenmmmdnpglkoaaGreatDoorOwnMathRat
import Derived.WalkMore
set_option linter.unusedSimpArgs false
set_option linter.unusedVariables false
set_option maxRecDepth 100000
set_option maxHeartbeats 8000000
/-
 strings.Cut at a slash.
-/
namespace Go.Proofs.YtenmmmdnpglkoaaGreatDoor
open Go Go.Proofs Go.RowKit
theorem jdY (s:ByteArray) (i:Nat):s.extract 0 i=str ((bytes s).take i):=by
 apply ByteArray.ext
 apply Array.toList_inj.1
 simp[str,bytes,ByteArray.data_extract]
theorem jbE (s:ByteArray) (i:Nat):s.extract i s.size=str ((bytes s).drop i):=by
 apply ByteArray.ext
 apply Array.toList_inj.1
 show (s.extract i s.size).data.toList=_
 rw[ByteArray.data_extract]
 show (s.data.extract i s.data.size).toList=_
 simp[str,bytes]
 exact List.take_of_length_le (by rw[List.length_drop];exact jrr _)
def upTo (c:UInt8) (l:List UInt8):List UInt8:=l.takeWhile fun b=>b != c
theorem jfY {p:UInt8→Bool}:∀ {l:List UInt8},(∀ b∈l,p b=true)→l.takeWhile p=l
 | [],_=>rfl
 |b::l,h=>by rw[List.takeWhile_cons,if_pos (h b (by simp)),jfY fun x hx=>h x (by simp[hx])]
theorem jj4 {c:UInt8} {l:List UInt8} (h:c∉l):upTo c l=l:=jfY fun b hb=>by
 simp only[bne_iff_ne,ne_eq]
 intro e;subst e;exact h hb
theorem jkC {c:UInt8} {l:List UInt8} {i:Nat} (he:l=l.take i++c::l.drop (i+1)) (hm:c∉l.take i):upTo c l=l.take i:=by
 have h:upTo c (l.take i++c::l.drop (i+1))=l.take i:=by
  unfold upTo
  rw[List.takeWhile_append_of_pos (fun b hb=>by
   simp only[bne_iff_ne,ne_eq]
   intro e;subst e;exact hm hb)]
  simp
 rwa [←he] at h
theorem jbk {s:ByteArray} {j:Nat} (h:j<s.size):jaa s j=((bytes s)[j]'h).toNat:=by
 unfold jaa;rw[List.getD_eq_getElem?_getD,List.getElem?_eq_getElem (show j<(bytes s).length from h)];rfl
def cutW (c:UInt8) (l:List UInt8):ByteArray×Bool:=if c∈l then (str (l.drop ((upTo c l).length+1)),true) else (⟨#[]⟩,false)
theorem jj5 (s:ByteArray) (c:UInt8) (w:World) (hs:s.size≤9223372036854775806) :
  Calls Tryz.prog 125 #[.string s,.string ⟨#[c]⟩] w fun e w'=>e = .returned (.tuple #[.string (str (upTo c (bytes s))),.string (cutW c (bytes s)).1,.bool (cutW c (bytes s)).2])∧Below w.heap.size w w':=by
 have C:∀ W:World,Calls Tryz.prog 146 #[.string s,.string ⟨#[c]⟩] W fun e w'=>e = .returned (.int .i64 (Lib.indexByte (bytes s) c))∧w'=W:=fun W=>Tryz.stringslite_Index_one s c W
 unfold cutW
 rcases je0 (bytes s) c with ⟨h,hm⟩|⟨i,h,hi,he,hm⟩
 ·rw[if_neg hm,jj4 hm,jdu]
  rw[h] at C
  have K:=jD C;clear C h hm
  go_enter Tryz.func125,Tryz.ntmps125
  go_wp2_with (go_at_call 146;refine(K.out _).mono ?_;rintro e w1 ⟨rfl,h⟩;subst h;refine Hid.out ?_)
  refine jD ?_
  go_wp2
  refine bodyPost_ret (by simp[results,Tryz.results125,go_sem];rfl) rfl ?_
  exact⟨rfl,Below.refl _ _⟩
 ·have hmem:c∈bytes s:=by rw[he];simp
  rw[if_pos hmem,jkC he hm]
  have hl:((bytes s).take i).length=i:=by rw[List.length_take];omega
  rw[hl]
  have hi':i<s.size:=hi
  rw[←jdY s i,←jbE s (i+1)]
  rw[h] at C
  have K:=jD C;clear C h hm he hl hmem hi
  go_enter Tryz.func125,Tryz.ntmps125
  go_wp2_with (go_at_call 146;refine(K.out _).mono ?_;rintro e w1 ⟨rfl,h⟩;subst h;refine Hid.out ?_)
  refine jD ?_
  go_wp2_with fail
  go_region
  all_goals
   go_wp2
   refine bodyPost_ret (by simp[results,Tryz.results125,go_sem];rfl) rfl ?_
   exact⟨rfl,(Below.refl _ _).drew⟩
theorem cutB (s:ByteArray) (c:UInt8) (w:World) (hs:s.size≤9223372036854775806) :
  Calls Tryz.prog 94 #[.string s,.string ⟨#[c]⟩] w fun e w'=>e = .returned (.tuple #[.string (str (upTo c (bytes s))),.string (cutW c (bytes s)).1,.bool (cutW c (bytes s)).2])∧Below w.heap.size w w':=by
 have C:=fun W=>jj5 s c W hs
 generalize str (upTo c (bytes s))=u at *
 generalize cutW c (bytes s)=v at *
 obtain⟨v1,v2⟩:=v
 dsimp only at C ⊢
 have K:=jD C;clear C hs
 go_enter Tryz.func94,Tryz.ntmps94
 go_wp2_with (go_at_call 125;refine(K.out _).mono ?_;rintro e w1 ⟨rfl,hb1⟩;refine Hid.out ?_)
 refine jD ?_
 go_wp2
 refine bodyPost_ret (by simp[results,Tryz.results94,go_sem];rfl) rfl ?_
 exact⟨rfl,hb1⟩
def sl (l:List UInt8):Nat:=if 2≤l.length∧lsB (l.take 2)=true then 2 else if 1≤l.length∧cls (l.getD 0 0).toNat=5 then 1 else 0
theorem jeW (s:ByteArray) (hs:s.size≤9223372036854775807) (w:World) (ht:Lib.TabIs Tryz.prog w "surveyor/lexer.classes" .u8 jaH) :
  Calls Tryz.prog 97 #[.string s] w fun e w'=>e = .returned (.int .i64 (sl (bytes s):Nat))∧w'=w:=by
 have CC:Calls Tryz.prog 93 #[.int .u8 (jaa s 0:Int)] w fun e w'=>e = .returned (.int .u8 (cls (jaa s 0):Nat))∧w'=w:=jbY (jaa s 0) (jbc s 0) w ht
 have CL:=jeV (s.extract 0 2) w
 have e2:bytes (s.extract 0 2)=(bytes s).take 2:=by rw[jdY,jcJ]
 rw[e2] at CL
 have hb0:cls ((bytes s).getD 0 0).toNat=cls (jaa s 0):=rfl
 unfold sl
 rw[hb0]
 have hl:(bytes s).length=s.size:=rfl
 rw[hl]
 clear ht e2 hb0 hl
 generalize cls (jaa s 0)=q at *
 by_cases h2:2≤s.size
 ·have m2:min (s.size:Int) 2=2:=by omega
  have hb:=ja7 s 0 (by omega)
  have g1:(2:Int)≤(s.size:Int):=by omega
  have g2:(0:Int)<(s.size:Int):=by omega
  generalize jaa s 0=b at *
  cases hL:lsB ((bytes s).take 2)
  ·rw[hL] at CL
   rw[if_neg (by simp)]
   by_cases h5:q=5
   ·rw[if_pos ⟨by omega,h5⟩]
    subst h5
    have K:=jD CC;have KL:=jD CL;clear CC CL hL
    go_enter Tryz.func97,Tryz.ntmps97
    go_wp2_with (go_at_call 127;refine KL.out.mono ?_;rintro e w1 ⟨rfl,h⟩;subst h;refine Hid.out ?_)
    refine jD ?_
    go_wp2_with (go_at_call 93;refine K.out.mono ?_;rintro e w1 ⟨rfl,h⟩;subst h;refine Hid.out ?_)
    refine jD ?_
    go_wp2
    go_ret
    exact⟨rfl,rfl⟩
   ·rw[if_neg (by omega)]
    have n5:((q:Int)==5)=false:=by rw[beq_eq_false_iff_ne];omega
    have K:=jD CC;have KL:=jD CL;clear CC CL hL h5
    go_enter Tryz.func97,Tryz.ntmps97
    go_wp2_with (go_at_call 127;refine KL.out.mono ?_;rintro e w1 ⟨rfl,h⟩;subst h;refine Hid.out ?_)
    refine jD ?_
    go_wp2_with (go_at_call 93;refine K.out.mono ?_;rintro e w1 ⟨rfl,h⟩;subst h;refine Hid.out ?_)
    refine jD ?_
    go_wp2
    go_ret
    exact⟨rfl,rfl⟩
  ·rw[hL] at CL
   rw[if_pos ⟨h2,rfl⟩]
   have KL:=jD CL;clear CC CL hL
   go_enter Tryz.func97,Tryz.ntmps97
   go_wp2_with (go_at_call 127;refine KL.out.mono ?_;rintro e w1 ⟨rfl,h⟩;subst h;refine Hid.out ?_)
   refine jD ?_
   go_wp2
   go_ret
   exact⟨rfl,rfl⟩
 ·rw[if_neg (by omega)]
  by_cases h1:s.size=1
  ·have m2:min (s.size:Int) 2=1:=by omega
   have hb:=ja7 s 0 (by omega)
   have g2:(0:Int)<(s.size:Int):=by omega
   generalize jaa s 0=b at *
   by_cases h5:q=5
   ·rw[if_pos ⟨by omega,h5⟩]
    subst h5
    have K:=jD CC;clear CC CL
    go_enter Tryz.func97,Tryz.ntmps97
    go_wp2_with (go_at_call 93;refine K.out.mono ?_;rintro e w1 ⟨rfl,h⟩;subst h;refine Hid.out ?_)
    refine jD ?_
    go_wp2
    go_ret
    exact⟨rfl,rfl⟩
   ·rw[if_neg (by omega)]
    have n5:((q:Int)==5)=false:=by rw[beq_eq_false_iff_ne];omega
    have K:=jD CC;clear CC CL h5
    go_enter Tryz.func97,Tryz.ntmps97
    go_wp2_with (go_at_call 93;refine K.out.mono ?_;rintro e w1 ⟨rfl,h⟩;subst h;refine Hid.out ?_)
    refine jD ?_
    go_wp2
    go_ret
    exact⟨rfl,rfl⟩
  ·rw[if_neg (by omega)]
   have m2:min (s.size:Int) 2=0:=by omega
   clear CC CL
   go_enter Tryz.func97,Tryz.ntmps97
   go_wp2
   go_ret
   exact⟨rfl,rfl⟩
def dgB (n:Nat):Bool:=decide (cls n=4)
def adB (l:List UInt8):Bool:=l.all (fun c=>dgB c.toNat) && !l.isEmpty
theorem jf7 (s:ByteArray) (hs:s.size≤9223372036854775807) (w:World) (ht:Lib.TabIs Tryz.prog w "surveyor/lexer.classes" .u8 jaH) :
  Calls Tryz.prog 126 #[.string s] w fun e w'=>e = .returned (.bool (adB (bytes s)))∧w'=w:=by
 have CC:∀ n:Nat,n<256→Calls Tryz.prog 93 #[.int .u8 (n:Int)] w fun e w'=>e = .returned (.int .u8 (cls n:Nat))∧w'=w:=fun n hn=>jbY n hn w ht
 have hbad:∀ j,j<s.size→dgB (jaa s j)=false→adB (bytes s)=false:=fun j hj h=>by
  unfold adB
  rw[Bool.and_eq_false_iff]
  refine .inl (List.all_eq_false.2 ⟨(bytes s)[j]'hj,List.getElem_mem _,?_⟩)
  rw[←jbk hj,h];decide
 have hgood:(∀ j,j<s.size→dgB (jaa s j)=true)→adB (bytes s) = !decide (s.size=0):=fun h=>by
  unfold adB
  have:((bytes s).all fun c=>dgB c.toNat)=true:=by
   rw[List.all_eq_true]
   intro c hc
   obtain⟨j,hj,rfl⟩:=List.mem_iff_getElem.1 hc
   have:=h j hj
   rwa [jbk hj] at this
  rw[this,Bool.true_and]
  show (!(bytes s).isEmpty) = !decide ((bytes s).length=0)
  cases bytes s<;>simp
 generalize adB (bytes s)=r at *
 have KC:=jD CC;have HBAD:=jD hbad;have HGOOD:=jD hgood
 clear CC hbad hgood ht
 generalize hn:s.size=n at *
 have HN:=jD hn;clear hn
 go_enter Tryz.func126,Tryz.ntmps126
 go_wp2_with fail
 go_loopw [6] (fun iv wr=>∃ j:Nat,j≤n∧iv = .int .i64 (j:Int)∧(∀ i,i<j→dgB (jaa s i)=true)∧wr=w) (fun iv _=>n-(intOf iv).toNat)
 case atStart=>exact⟨0,Nat.zero_le _,rfl,fun i h=>absurd h (by omega),rfl⟩
 case round=>
  obtain⟨j,hj,rfl,hg,hw⟩:=hrel
  have HG:=jD hg;clear hg
  obtain hw2:w=wr:=hw.symm
  clear hw
  subst hw2
  by_cases hlt:j<n
  ·have hjs:j<s.size:=by rw[HN.out];exact hlt
   have hb:=ja7 s j hjs
   have hq:=KC.out (jaa s j) (jbc s j)
   have hj0:(0:Int)≤(j:Int):=by omega
   have hj1:(j:Int)<(n:Int):=by omega
   have hj2:(j:Int)<(s.size:Int):=by omega
   have hbad:=HBAD.out j hlt
   have hstep:dgB (jaa s j)=true→∀ i,i<j+1→dgB (jaa s i)=true:=fun h i hi=>by
    rcases Nat.lt_or_ge i j with q|q
    ·exact HG i q
    ·obtain rfl:i=j:=by omega
     exact h
   unfold dgB at hbad hstep
   have HST:=jD hstep;clear hstep
   by_cases h4:cls (jaa s j)=4
   ·have hst:=HST.out (by rw[h4];rfl)
    rw[h4] at hq
    generalize jaa s j=b at *
    have KQ:=jD hq;have HS2:=jD hst;clear hq hbad h4 hst
    go_wp2_with (go_at_call 93;refine KQ.out.mono ?_;rintro e w3 ⟨rfl,h⟩;subst h;refine Hid.out ?_)
    refine jD ?_
    go_wp2
    go_roundw
    case rel=>exact⟨j+1,by omega,by go_num,HS2.out,by trivial⟩
    case measure=>simp[intOf];omega
   ·have hr:=hbad (by rw[decide_eq_false h4])
    subst hr
    generalize jaa s j=b at *
    generalize cls b=q at *
    have n4:((q:Int)==4)=false:=by rw[beq_eq_false_iff_ne];omega
    have KQ:=jD hq;clear hq hbad
    go_wp2_with (go_at_call 93;refine KQ.out.mono ?_;rintro e w3 ⟨rfl,h⟩;subst h;refine Hid.out ?_)
    refine jD ?_
    go_wp2
    go_ret
    exact⟨rfl,rfl⟩
  ·obtain rfl:j=n:=by omega
   have hr:=HGOOD.out (fun i hi=>HG.out i hi)
   by_cases hz:j=0
   ·subst hz
    obtain rfl:r=false:=hr
    obtain rfl:s=⟨#[]⟩:=ByteArray.ext (Array.eq_empty_of_size_eq_zero HN)
    go_wp2
    go_ret
    exact⟨rfl,rfl⟩
   ·obtain rfl:r=true:=by rw[hr,decide_eq_false hz];rfl
    have q0:¬ s.toList=[]:=fun e=>by
     rw[Lib.toList_data] at e
     have h1:=jan s
     rw[show bytes s=[] from e,HN.out] at h1
     exact hz h1.symm
    have q1:s.toList.isEmpty=false:=by rw[List.isEmpty_eq_false_iff];exact q0
    clear hr hz hlt hj
    have hge:¬ j<s.size:=by rw[HN.out];omega
    go_wp2
    go_ret
    exact⟨rfl,rfl⟩
def jcg (l:List UInt8):Nat:=if adB l=true then (if (l.getD 0 0).toNat=48∧1<l.length then 3 else if 100<l.length then 10 else 0) else 4
theorem jhR (s:ByteArray) (hs:s.size≤9223372036854775807) (w:World) (ht:Lib.TabIs Tryz.prog w "surveyor/lexer.classes" .u8 jaH) :
  Calls Tryz.prog 96 #[.string s] w fun e w'=>e = .returned (.int .i64 (jcg (bytes s):Nat))∧w'=w:=by
 have CA:=jf7 s hs w ht
 have h0:adB (bytes s)=true→0<s.size:=fun h=>by
  unfold adB at h
  rw[Bool.and_eq_true] at h
  have h2:=h.2
  show 0<(bytes s).length
  cases hb:bytes s
  ·rw[hb] at h2;cases h2
  ·simp
 have hl:(bytes s).length=s.size:=rfl
 have hb0:((bytes s).getD 0 0).toNat=jaa s 0:=rfl
 unfold jcg
 rw[hl,hb0]
 cases hA:adB (bytes s)
 ·rw[if_neg (by simp)]
  rw[hA] at CA
  have K:=jD CA;clear CA ht h0 hA hl hb0
  go_enter Tryz.func96,Tryz.ntmps96
  go_wp2_with (go_at_call 126;refine K.out.mono ?_;rintro e w3 ⟨rfl,h⟩;subst h;refine Hid.out ?_)
  refine jD ?_
  go_wp2
  go_ret
  exact⟨rfl,rfl⟩
 ·rw[if_pos rfl]
  rw[hA] at CA
  have hp:=h0 hA
  have hb:=ja7 s 0 hp
  have g2:(0:Int)<(s.size:Int):=by omega
  have K:=jD CA;clear CA ht h0 hA hl hb0
  generalize jaa s 0=b at *
  by_cases h48:b=48
  ·subst h48
   by_cases h1:1<s.size
   ·rw[if_pos ⟨rfl,h1⟩]
    have g1:(1:Int)<(s.size:Int):=by omega
    go_enter Tryz.func96,Tryz.ntmps96
    go_wp2_with (go_at_call 126;refine K.out.mono ?_;rintro e w3 ⟨rfl,h⟩;subst h;refine Hid.out ?_)
    refine jD ?_
    go_wp2
    go_ret
    exact⟨rfl,rfl⟩
   ·rw[if_neg (by omega),if_neg (by omega)]
    have g1:¬ (1:Int)<(s.size:Int):=by omega
    have g3:¬ (100:Int)<(s.size:Int):=by omega
    go_enter Tryz.func96,Tryz.ntmps96
    go_wp2_with (go_at_call 126;refine K.out.mono ?_;rintro e w3 ⟨rfl,h⟩;subst h;refine Hid.out ?_)
    refine jD ?_
    go_wp2
    go_ret
    exact⟨rfl,rfl⟩
  ·rw[if_neg (by omega)]
   have n48:((b:Int)==48)=false:=by rw[beq_eq_false_iff_ne];omega
   by_cases h1:100<s.size
   ·rw[if_pos h1]
    have g1:(100:Int)<(s.size:Int):=by omega
    go_enter Tryz.func96,Tryz.ntmps96
    go_wp2_with (go_at_call 126;refine K.out.mono ?_;rintro e w3 ⟨rfl,h⟩;subst h;refine Hid.out ?_)
    refine jD ?_
    go_wp2
    go_ret
    exact⟨rfl,rfl⟩
   ·rw[if_neg h1]
    have g1:¬ (100:Int)<(s.size:Int):=by omega
    go_enter Tryz.func96,Tryz.ntmps96
    go_wp2_with (go_at_call 126;refine K.out.mono ?_;rintro e w3 ⟨rfl,h⟩;subst h;refine Hid.out ?_)
    refine jD ?_
    go_wp2
    go_ret
    exact⟨rfl,rfl⟩
theorem jgA (s:ByteArray) (w:World):Calls Tryz.prog 66 #[.string s] w fun e w'=>e = .returned (.bool (decide (65536<s.size)))∧w'=w:=by
 have h:decide ((65536:Int)<(s.size:Int))=decide (65536<s.size):=by
  rw[Bool.eq_iff_iff,decide_eq_true_eq,decide_eq_true_eq];omega
 have H:=jD h
 go_enter Tryz.func66,Tryz.ntmps66
 go_wp2
 go_ret
 exact⟨by first|rfl|(rw[←H.out];rfl)|simp,rfl⟩
def skM:Bool→List UInt8→Nat
 |_,[]=>0
 |false,c::l=>if cls c.toNat=1 then 1+skM false l else if cls c.toNat=2 then 1+skM true l else 0
 |true,c::l=>if c=10 then 1+skM false l else 1+skM true l
theorem jdw:∀ (b:Bool) (l:List UInt8),skM b l≤l.length
 |_,[]=>by simp[skM]
 |false,c::l=>by
  have h1:=jdw false l;have h2:=jdw true l
  unfold skM
  split
  ·simp;omega
  ·split
   ·simp;omega
   ·simp
 |true,c::l=>by
  have h1:=jdw false l;have h2:=jdw true l
  unfold skM
  split<;>simp<;>omega
theorem ji1 (c:UInt8) (l:List UInt8):(upTo c l).length≤l.length:=(List.takeWhile_sublist _).length_le
theorem jl8:cls (10:UInt8).toNat=1:=by decide +kernel
theorem jev:∀ l:List UInt8,skM true l=(upTo 10 l).length+skM false (l.drop (upTo 10 l).length)
 | []=>rfl
 |c::l=>by
  unfold upTo
  rw[List.takeWhile_cons]
  by_cases h:c=10
  ·subst h
   rw[if_neg (by simp),List.length_nil,List.drop_zero,Nat.zero_add]
   show (if (10:UInt8)=10 then 1+skM false l else 1+skM true l)=(if cls (10:UInt8).toNat=1 then 1+skM false l else if cls (10:UInt8).toNat=2 then 1+skM true l else 0)
   rw[if_pos rfl,if_pos jl8]
  ·have h2:(c != 10)=true:=by simpa using h
   rw[if_pos h2]
   have ih:=jev l
   unfold upTo at ih
   simp only[List.length_cons,List.drop_succ_cons]
   show (if c=10 then 1+skM false l else 1+skM true l)=_
   rw[if_neg h,ih]
   omega
theorem jcU (s:ByteArray) {j:Nat} (h:j<s.size):(bytes s).drop j=(bytes s)[j]'h::(bytes s).drop (j+1):=List.drop_eq_getElem_cons h
theorem jhx {s:ByteArray} {j:Nat} (h:j<s.size) (hc:cls (jaa s j)=1):skM false ((bytes s).drop j)=1+skM false ((bytes s).drop (j+1)):=by
 rw[jbk h] at hc
 rw[jcU s h]
 show (if cls _=1 then _ else _)=_
 rw[if_pos hc]
theorem ji2 {s:ByteArray} {j:Nat} (h:j<s.size) (hc:cls (jaa s j)=2):skM false ((bytes s).drop j)=(upTo 10 ((bytes s).drop j)).length+skM false ((bytes s).drop (j+(upTo 10 ((bytes s).drop j)).length))∧0<(upTo 10 ((bytes s).drop j)).length:=by
 have hb:=jbk h
 rw[hb] at hc
 have hne:(bytes s)[j]'h≠10:=fun e=>by rw[e,jl8] at hc;omega
 have e:skM false ((bytes s).drop j)=skM true ((bytes s).drop j):=by
  rw[jcU s h]
  show (if cls _=1 then _ else if cls _=2 then _ else _)=(if _=(10:UInt8) then _ else _)
  rw[if_neg (by omega),if_pos hc,if_neg hne]
 refine⟨?_,?_⟩
 ·rw[e,jev,List.drop_drop]
 ·rw[jcU s h]
  unfold upTo
  rw[List.takeWhile_cons,if_pos (by simpa using hne)]
  simp
theorem ji3 {s:ByteArray} {j:Nat} (h:j<s.size) (h1:cls (jaa s j)≠1) (h2:cls (jaa s j)≠2):skM false ((bytes s).drop j)=0:=by
 rw[jbk h] at h1 h2
 rw[jcU s h]
 show (if cls _=1 then _ else if cls _=2 then _ else _)=_
 rw[if_neg h1,if_neg h2]
theorem jkt {s:ByteArray} {j:Nat} (h:s.size≤j):skM false ((bytes s).drop j)=0:=by
 rw[List.drop_eq_nil_of_le (by rw[jan];exact h)];rfl
theorem jj6 (s:ByteArray) (a:Nat) (ha:a≤s.size) (hs:s.size≤1000000) (w:World) (ht:Lib.TabBelow Tryz.prog w.heap.size w "surveyor/lexer.classes" .u8 jaH) :
  Calls Tryz.prog 67 #[.string s,.int .i64 (a:Int)] w fun e w'=>e = .returned (.int .i64 ((a+skM false ((bytes s).drop a):Nat):Int))∧Below w.heap.size w w':=by
 have CC:∀ n:Nat,n<256→∀ W:World,Below w.heap.size w W→Calls Tryz.prog 93 #[.int .u8 (n:Int)] W fun e w'=>e = .returned (.int .u8 (cls n:Nat))∧w'=W:=fun n hn W hW=>jbY n hn W (ht W hW)
 have CU:∀ (j:Nat),j≤s.size→∀ W:World,Calls Tryz.prog 94 #[.string (s.extract j s.size),.string ⟨#[10]⟩] W fun e w'=>e = .returned (.tuple #[.string (str (upTo 10 ((bytes s).drop j))),.string (cutW 10 ((bytes s).drop j)).1,.bool (cutW 10 ((bytes s).drop j)).2])∧Below W.heap.size W w':=fun j hj W=>by
  have e:bytes (s.extract j s.size)=(bytes s).drop j:=by rw[jbE,jcJ]
  have hz:(s.extract j s.size).size≤1000000:=by
   rw[jbE,jen,List.length_drop,jan];omega
  have:=cutB (s.extract j s.size) 10 W (by omega)
  rwa [e] at this
 generalize hT:a+skM false ((bytes s).drop a)=T at *
 have hTl:T≤s.size:=by
  have:=jdw false ((bytes s).drop a)
  rw[List.length_drop,jan] at this
  omega
 have HT:=jD hT;have KC:=jD CC;have KU:=jD CU
 clear hT CC CU ht
 go_enter Tryz.func67,Tryz.ntmps67
 go_wp2_with fail
 go_step3
 go_wp2_with fail
 go_step3
 go_wp2_with fail
 go_loopw [1] (fun iv wr=>∃ j:Nat,j≤T∧iv = .int .i64 (j:Int)∧j+skM false ((bytes s).drop j)=T∧Below w.heap.size w wr) (fun iv _=>T-(intOf iv).toNat)
 case atStart=>exact⟨a,by have:=HT.out;omega,rfl,HT.out,Below.refl _ _⟩
 case round=>
  obtain⟨j,hj,rfl,hT,hB⟩:=hrel
  by_cases hlt:j<s.size
  ·have hb:=ja7 s j hlt
   have hq:=KC.out (jaa s j) (jbc s j) wr hB
   have hj0:(0:Int)≤(j:Int):=by omega
   have hj1:(j:Int)<(s.size:Int):=by omega
   have hj2:(j:Int)≤(s.size:Int):=by omega
   have HB:=jD hB;have HT1:=jD hT
   clear hB hT
   by_cases h1:cls (jaa s j)=1
   ·have hk:=jhx hlt h1
    rw[h1] at hq
    have hn:=HT1.out
    rw[hk] at hn
    have HN:=jD hn
    clear hk hn h1
    generalize jaa s j=b at *
    have KQ:=jD hq;clear hq
    go_wp2_with (go_at_call 93;refine KQ.out.mono ?_;rintro e w3 ⟨rfl,h⟩;subst h;refine Hid.out ?_)
    refine jD ?_
    go_wp2
    go_roundw
    case rel=>exact⟨j+1,by have:=HN.out;omega,by go_num,by have:=HN.out;omega,HB.out⟩
    case measure=>have:=HN.out;simp[intOf];omega
   ·by_cases h2:cls (jaa s j)=2
    ·obtain⟨hk,hk0⟩:=ji2 hlt h2
     rw[h2] at hq
     have CU:=KU.out j (by omega)
     have hn:=HT1.out
     rw[hk] at hn
     have hul:(str (upTo 10 ((bytes s).drop j))).size=(upTo 10 ((bytes s).drop j)).length:=jen _
     generalize (upTo 10 ((bytes s).drop j)).length=u at *
     generalize str (upTo 10 ((bytes s).drop j))=us at *
     generalize cutW 10 ((bytes s).drop j)=v at *
     have HN:=jD hn;have HUL:=jD hul
     clear hk hn h2 h1 hul
     generalize jaa s j=b at *
     have KQ:=jD hq;have KV:=jD CU;clear hq CU
     go_wp2_with (go_at_call 93;refine KQ.out.mono ?_;rintro e w3 ⟨rfl,h⟩;subst h;refine Hid.out ?_)
     refine jD ?_
     go_wp2_with (go_at_call 94;refine(KV.out _).mono ?_;rintro e w4 ⟨rfl,hb4⟩;refine Hid.out ?_)
     have HB4:=jD (Below.chain HB hb4)
     have hul:=HUL.out
     have hu:j+u≤T:=by have:=HN.out;omega
     clear hb4
     refine jD ?_
     go_wp2
     go_roundw
     case rel=>exact⟨j+u,by have:=HN.out;omega,by go_num,by have:=HN.out;omega,HB4.out⟩
     case measure=>have:=HN.out;simp[intOf,Go.RowKit.wrap64];omega
    ·have hk:=ji3 hlt h1 h2
     have hn:=HT1.out
     rw[hk,Nat.add_zero] at hn
     subst hn
     generalize jaa s j=b at *
     generalize cls b=q at *
     have n1:((q:Int)==1)=false:=by rw[beq_eq_false_iff_ne];omega
     have n2:((q:Int)==2)=false:=by rw[beq_eq_false_iff_ne];omega
     have KQ:=jD hq;clear hq h1 h2 hk
     go_wp2_with (go_at_call 93;refine KQ.out.mono ?_;rintro e w3 ⟨rfl,h⟩;subst h;refine Hid.out ?_)
     refine jD ?_
     go_wp2_with fail
     rw[Exit.noGoto_ret]
     go_ret
     exact⟨rfl,HB.out⟩
  ·rw[jkt (by omega),Nat.add_zero] at hT
   subst hT
   have HB:=jD hB;clear hB
   have hge:¬ (j:Int)<(s.size:Int):=by omega
   go_wp2
   go_ret
   exact⟨rfl,HB.out⟩
theorem jj7 (l:List UInt8):sl l≤l.length:=by
 unfold sl
 split
 ·omega
 ·split<;>omega
theorem jbz (s:ByteArray) {a n:Nat} (h:a+n≤s.size):bytes (s.extract a (a+n))=((bytes s).drop a).take n:=by
 unfold bytes
 rw[ByteArray.data_extract,Array.toList_extract]
 simp[List.take_drop]
theorem jbh (s:ByteArray) {a n:Nat} (h:a+n≤s.size):(s.extract a (a+n)).size=n:=by
 rw[←jan,jbz s h,List.length_take,List.length_drop,jan];omega
theorem jfo {P:Program} (W:World) (t:TypeId) (s:ByteArray) (ht:P.underlying t=some .string) (l h:Nat) (h1:l≤h) (h2:h≤s.size) :
  (Instr.slice t (.string s) (some (.int .i64 (l:Int))) (some (.int .i64 (h:Int))) none).run P W = .ok (.string (s.extract l h)) W:=by
 have g1:(0:Int)≤(l:Int):=by omega
 have g2:(0:Int)≤(h:Int):=by omega
 have g3:(l:Int)≤(h:Int):=by omega
 have g4:(h:Int)≤(s.size:Int):=by omega
 simp[Instr.slice,run_underlying ht,Instr.sliceBounds,run_sliceBound,sliced, *]
def tkO (q n m ne a:Nat) (S S2:ByteArray):Value×Nat:=
 if q=3 then (if 24<n then (.agg #[.int .i64 0,.string ⟨#[]⟩,.int .i64 0],8) else (.agg #[.int .i64 0,.string S,.int .i64 (a:Int)],0))
 else if q=4 then (if ne=0 then (.agg #[.int .i64 1,.string S,.int .i64 (a:Int)],0) else (.agg #[.int .i64 0,.string ⟨#[]⟩,.int .i64 0],ne))
 else if m=0 then (.agg #[.int .i64 0,.string ⟨#[]⟩,.int .i64 0],4) else (.agg #[.int .i64 2,.string S2,.int .i64 (a:Int)],0)
theorem jm1 {w:World} {p:Nat} {u0 u1:Value} (h0:w.cell? ⟨p,0,none⟩=some u0) (h1:w.cell? ⟨p,1,none⟩=some u1) (v0 v1:Value) :
  ((w.setCell ⟨p,0,none⟩ v0).setCell ⟨p,1,none⟩ v1).cell? ⟨p,0,none⟩=some v0∧((w.setCell ⟨p,0,none⟩ v0).setCell ⟨p,1,none⟩ v1).cell? ⟨p,1,none⟩=some v1:=by
 have e1:(w.setCell ⟨p,0,none⟩ v0).cell? ⟨p,1,none⟩=some u1:=(World.cell?_setCell_other w ⟨p,0,none⟩ ⟨p,1,none⟩ v0 (by simp)).trans h1
 exact⟨(World.cell?_setCell_other _ ⟨p,1,none⟩ ⟨p,0,none⟩ v1 (by simp)).trans (jbJ h0 v0),jbJ e1 v1⟩
theorem box3 {w:World} {p:Nat} {u0 u1 u2:Value} (h0:w.cell? ⟨p,0,none⟩=some u0) (h1:w.cell? ⟨p,1,none⟩=some u1) (h2:w.cell? ⟨p,2,none⟩=some u2) (v0 v1 v2:Value) :
  (((w.setCell ⟨p,0,none⟩ v0).setCell ⟨p,1,none⟩ v1).setCell ⟨p,2,none⟩ v2).cell? ⟨p,0,none⟩=some v0∧(((w.setCell ⟨p,0,none⟩ v0).setCell ⟨p,1,none⟩ v1).setCell ⟨p,2,none⟩ v2).cell? ⟨p,1,none⟩=some v1∧(((w.setCell ⟨p,0,none⟩ v0).setCell ⟨p,1,none⟩ v1).setCell ⟨p,2,none⟩ v2).cell? ⟨p,2,none⟩=some v2:=by
 obtain⟨q0,q1⟩:=jm1 h0 h1 v0 v1
 have e2:((w.setCell ⟨p,0,none⟩ v0).setCell ⟨p,1,none⟩ v1).cell? ⟨p,2,none⟩=some u2:=(World.cell?_setCell_other _ ⟨p,1,none⟩ ⟨p,2,none⟩ v1 (by simp)).trans ((World.cell?_setCell_other w ⟨p,0,none⟩ ⟨p,2,none⟩ v0 (by simp)).trans h2)
 exact⟨(World.cell?_setCell_other _ ⟨p,2,none⟩ ⟨p,0,none⟩ v2 (by simp)).trans q0,(World.cell?_setCell_other _ ⟨p,2,none⟩ ⟨p,1,none⟩ v2 (by simp)).trans q1,jbJ e2 v2⟩
theorem jfZ (s D S S2:ByteArray) (a b q n m ne:Nat) (w:World)
  (hb:∀ h:a<s.size,((s[a]'h).toNat:Int)=(b:Int)) (hS:S.size=n) (ha:a<s.size) (hn:a+n≤s.size) (hm:a+m≤s.size) (hs:s.size≤1000000)
  (hD:s.extract a s.size=D) (h1:s.extract a (a+n)=S) (h2:s.extract a (a+m)=S2)
  (CC:∀ W:World,Below w.heap.size w W→Calls Tryz.prog 93 #[.int .u8 (b:Int)] W fun e w'=>e = .returned (.int .u8 (q:Nat))∧w'=W)
  (CW:∀ W:World,Below w.heap.size w W→Calls Tryz.prog 95 #[.string D] W fun e w'=>e = .returned (.int .i64 (n:Nat))∧w'=W)
  (CS:∀ W:World,Below w.heap.size w W→Calls Tryz.prog 97 #[.string D] W fun e w'=>e = .returned (.int .i64 (m:Nat))∧w'=W)
  (CN:∀ W:World,Below w.heap.size w W→Calls Tryz.prog 96 #[.string S] W fun e w'=>e = .returned (.int .i64 (ne:Nat))∧w'=W) :
  Calls Tryz.prog 68 #[.string s,.int .i64 (a:Int)] w fun e w'=>e = .returned (.tuple #[(tkO q n m ne a S S2).1,.int .i64 ((tkO q n m ne a S S2).2:Nat)])∧Below w.heap.size w w':=by
 have hb:=hb ha
 have g0:(0:Int)≤(a:Int):=by omega
 have g1:(a:Int)<(s.size:Int):=by omega
 have g2:(a:Int)≤(s.size:Int):=by omega
 have KB:∀ v0 v1 v2:Value,Below w.heap.size w (w.alloc (Obj.cells #[v0,v1,v2] 50)):=fun v0 v1 v2=>(Below.refl _ _).alloc (jrr _) _
 have KX:∀ v0 v1 v2:Value,(w.alloc (Obj.cells #[v0,v1,v2] 50)).cell? ⟨w.heap.size,0,none⟩=some v0∧(w.alloc (Obj.cells #[v0,v1,v2] 50)).cell? ⟨w.heap.size,1,none⟩=some v1∧(w.alloc (Obj.cells #[v0,v1,v2] 50)).cell? ⟨w.heap.size,2,none⟩=some v2:=fun v0 v1 v2=>⟨by go_cell,by go_cell,by go_cell⟩
 have hrun:∀ W:World,(Instr.slice 9 (.string s) (some (.int .i64 (a:Int))) (some (.int .i64 ((a:Int)+(n:Int)))) none).run Tryz.prog W = .ok (.string S) W:=fun W=>by
  rw[←h1,show (a:Int)+(n:Int)=((a+n:Nat):Int) by omega]
  exact jfo W 9 s Tryz.underlying9 a (a+n) (by omega) (by omega)
 have hrunm:∀ W:World,(Instr.slice 9 (.string s) (some (.int .i64 (a:Int))) (some (.int .i64 ((a:Int)+(m:Int)))) none).run Tryz.prog W = .ok (.string S2) W:=fun W=>by
  rw[←h2,show (a:Int)+(m:Int)=((a+m:Nat):Int) by omega]
  exact jfo W 9 s Tryz.underlying9 a (a+m) (by omega) (by omega)
 have hrund:∀ W:World,(Instr.slice 9 (.string s) (some (.int .i64 (a:Int))) none none).run Tryz.prog W = .ok (.string D) W:=fun W=>by
  rw[←hD]
  have e4:s.extract a s.size=s.extract a s.size:=rfl
  simp[Instr.slice,run_underlying Tryz.underlying9,Instr.sliceBounds,run_sliceBound,sliced,g0,g2]
 have w1:(a:Int)+(n:Int)<9223372036854775808:=by omega
 have w2:(a:Int)+(m:Int)<9223372036854775808:=by omega
 have w3:(0:Int)≤(a:Int)+(n:Int):=by omega
 have w4:(0:Int)≤(a:Int)+(m:Int):=by omega
 have HX:=jD KX;have HB:=jD KB;have KC:=jD CC;have KW:=jD CW;have KS:=jD CS;have KN:=jD CN
 clear CC CW CS CN KX KB hD h1 h2 hn hm hs
 unfold tkO
 by_cases h3:q=3
 ·subst h3
  rw[if_pos rfl]
  by_cases h24:24<n
  ·rw[if_pos h24]
   have t24:(24:Int)<(n:Int):=by omega
   go_enter Tryz.func68,Tryz.ntmps68
   go_wp2_with (go_at_call 95;refine(KW.out _ (HB.out _ _ _)).mono ?_;rintro e w3 ⟨rfl,h⟩;subst h;refine Hid.out ?_)
   refine jD ?_
   go_wp2_with (go_at_call 93;refine(KC.out _ (HB.out _ _ _)).mono ?_;rintro e w3 ⟨rfl,h⟩;subst h;refine Hid.out ?_)
   refine jD ?_
   go_wp2_with fail
   obtain⟨q0,q1,q2⟩:=HX.out (.int .i64 0) (.string ⟨#[]⟩) (.int .i64 0)
   refine bodyPost_ret (by simp[results,Tryz.results68,go_sem,q0,q1,q2];rfl) rfl ?_
   exact⟨rfl,HB.out _ _ _⟩
  ·rw[if_neg h24]
   have t24:decide ((24:Int)<(n:Int))=false:=by rw[decide_eq_false_iff_not];omega
   clear h24
   go_enter Tryz.func68,Tryz.ntmps68
   go_wp2_with (go_at_call 95;refine(KW.out _ (HB.out _ _ _)).mono ?_;rintro e w3 ⟨rfl,h⟩;subst h;refine Hid.out ?_)
   refine jD ?_
   go_wp2_with (go_at_call 93;refine(KC.out _ (HB.out _ _ _)).mono ?_;rintro e w3 ⟨rfl,h⟩;subst h;refine Hid.out ?_)
   refine jD ?_
   go_wp2_with fail
   obtain⟨q0,q1,q2⟩:=HX.out (.int .i64 0) (.string S) (.int .i64 (a:Int))
   refine bodyPost_ret (by simp[results,Tryz.results68,go_sem,q0,q1,q2];rfl) rfl ?_
   exact⟨rfl,HB.out _ _ _⟩
 ·rw[if_neg h3]
  have t3:((q:Int)==3)=false:=by rw[beq_eq_false_iff_ne];omega
  by_cases h4:q=4
  ·subst h4
   rw[if_pos rfl]
   clear h3 t3
   by_cases hne:ne=0
   ·subst hne
    rw[if_pos rfl]
    go_enter Tryz.func68,Tryz.ntmps68
    go_wp2_with (go_at_call 95;refine(KW.out _ (HB.out _ _ _)).mono ?_;rintro e w3 ⟨rfl,h⟩;subst h;refine Hid.out ?_)
    refine jD ?_
    go_wp2_with (go_at_call 93;refine(KC.out _ (HB.out _ _ _)).mono ?_;rintro e w3 ⟨rfl,h⟩;subst h;refine Hid.out ?_)
    refine jD ?_
    go_wp2_with (go_at_call 96;refine(KN.out _ (HB.out _ _ _)).mono ?_;rintro e w3 ⟨rfl,h⟩;subst h;refine Hid.out ?_)
    refine jD ?_
    go_wp2_with fail
    obtain⟨q0,q1,q2⟩:=HX.out (.int .i64 1) (.string S) (.int .i64 (a:Int))
    refine bodyPost_ret (by simp[results,Tryz.results68,go_sem,q0,q1,q2];rfl) rfl ?_
    exact⟨rfl,HB.out _ _ _⟩
   ·rw[if_neg hne]
    have tne:((ne:Int)==0)=false:=by rw[beq_eq_false_iff_ne];omega
    have tne2:((ne:Int) != 0)=true:=by rw[bne_iff_ne];omega
    have Hne:=jD hne;clear hne
    go_enter Tryz.func68,Tryz.ntmps68
    go_wp2_with (go_at_call 95;refine(KW.out _ (HB.out _ _ _)).mono ?_;rintro e w3 ⟨rfl,h⟩;subst h;refine Hid.out ?_)
    refine jD ?_
    go_wp2_with (go_at_call 93;refine(KC.out _ (HB.out _ _ _)).mono ?_;rintro e w3 ⟨rfl,h⟩;subst h;refine Hid.out ?_)
    refine jD ?_
    go_wp2_with (go_at_call 96;refine(KN.out _ (HB.out _ _ _)).mono ?_;rintro e w3 ⟨rfl,h⟩;subst h;refine Hid.out ?_)
    refine jD ?_
    go_wp2_with fail
    obtain⟨q0,q1,q2⟩:=HX.out (.int .i64 0) (.string ⟨#[]⟩) (.int .i64 0)
    refine bodyPost_ret (by simp[results,Tryz.results68,go_sem,q0,q1,q2];rfl) rfl ?_
    exact⟨rfl,HB.out _ _ _⟩
  ·rw[if_neg h4]
   have t4:((q:Int)==4)=false:=by rw[beq_eq_false_iff_ne];omega
   by_cases hm0:m=0
   ·subst hm0
    rw[if_pos rfl]
    go_enter Tryz.func68,Tryz.ntmps68
    go_wp2_with (go_at_call 95;refine(KW.out _ (HB.out _ _ _)).mono ?_;rintro e w3 ⟨rfl,h⟩;subst h;refine Hid.out ?_)
    refine jD ?_
    go_wp2_with (go_at_call 93;refine(KC.out _ (HB.out _ _ _)).mono ?_;rintro e w3 ⟨rfl,h⟩;subst h;refine Hid.out ?_)
    refine jD ?_
    go_wp2_with (go_at_call 97;refine(KS.out _ (HB.out _ _ _)).mono ?_;rintro e w3 ⟨rfl,h⟩;subst h;refine Hid.out ?_)
    refine jD ?_
    go_wp2_with fail
    obtain⟨q0,q1,q2⟩:=HX.out (.int .i64 0) (.string ⟨#[]⟩) (.int .i64 0)
    refine bodyPost_ret (by simp[results,Tryz.results68,go_sem,q0,q1,q2];rfl) rfl ?_
    exact⟨rfl,HB.out _ _ _⟩
   ·rw[if_neg hm0]
    have tm:((m:Int)==0)=false:=by rw[beq_eq_false_iff_ne];omega
    go_enter Tryz.func68,Tryz.ntmps68
    go_wp2_with (go_at_call 95;refine(KW.out _ (HB.out _ _ _)).mono ?_;rintro e w3 ⟨rfl,h⟩;subst h;refine Hid.out ?_)
    refine jD ?_
    go_wp2_with (go_at_call 93;refine(KC.out _ (HB.out _ _ _)).mono ?_;rintro e w3 ⟨rfl,h⟩;subst h;refine Hid.out ?_)
    refine jD ?_
    go_wp2_with (go_at_call 97;refine(KS.out _ (HB.out _ _ _)).mono ?_;rintro e w3 ⟨rfl,h⟩;subst h;refine Hid.out ?_)
    refine jD ?_
    go_wp2_with fail
    obtain⟨q0,q1,q2⟩:=HX.out (.int .i64 2) (.string S2) (.int .i64 (a:Int))
    refine bodyPost_ret (by simp[results,Tryz.results68,go_sem,q0,q1,q2];rfl) rfl ?_
    exact⟨rfl,HB.out _ _ _⟩
def tokX (s:ByteArray) (a:Nat):Value×Nat:=
 tkO (cls (jaa s a)) (wl ((bytes s).drop a)) (sl ((bytes s).drop a)) (jcg (((bytes s).drop a).take (wl ((bytes s).drop a)))) a (s.extract a (a+wl ((bytes s).drop a))) (s.extract a (a+sl ((bytes s).drop a)))
theorem jgB (s:ByteArray) (a:Nat) (ha:a<s.size) (hs:s.size≤1000000) (w:World) (ht:Lib.TabBelow Tryz.prog w.heap.size w "surveyor/lexer.classes" .u8 jaH) :
  Calls Tryz.prog 68 #[.string s,.int .i64 (a:Int)] w fun e w'=>e = .returned (.tuple #[(tokX s a).1,.int .i64 ((tokX s a).2:Nat)])∧Below w.heap.size w w':=by
 have ed:bytes (s.extract a s.size)=(bytes s).drop a:=by rw[jbE,jcJ]
 have hz:(s.extract a s.size).size≤1000000:=by rw[jbE,jen,List.length_drop,jan];omega
 have hwl:=jhQ ((bytes s).drop a)
 have hsl:=jj7 ((bytes s).drop a)
 rw[List.length_drop,jan] at hwl hsl
 unfold tokX
 refine jfZ s (s.extract a s.size) _ _ a (jaa s a) (cls (jaa s a)) _ _ _ w (fun h=>ja7 s a h) (jbh s (by omega)) ha (by omega) (by omega) hs rfl rfl rfl (fun W hW=>jbY (jaa s a) (jbc s a) W (ht W hW)) (fun W hW=>?_) (fun W hW=>?_) (fun W hW=>?_)
 ·have:=jdd (s.extract a s.size) (by omega) W (ht W hW)
  rwa [ed] at this
 ·have:=jeW (s.extract a s.size) (by omega) W (ht W hW)
  rwa [ed] at this
 ·have:=jhR (s.extract a (a+wl ((bytes s).drop a))) (by rw[jbh s (by omega)];omega) W (ht W hW)
  rwa [jbz s (by omega)] at this
def iwB (l:List UInt8):Bool:=decide (0<l.length) && (decide (l.length≤24) && (decide (cls (l.getD 0 0).toNat=3) && decide (wl l=l.length)))
theorem jbL {s:ByteArray} (h:s.size=0):s=⟨#[]⟩:=ByteArray.ext (Array.eq_empty_of_size_eq_zero h)
theorem ji4 {s:ByteArray} (h:0<s.size):¬ s.toList=[]:=fun e=>by
 rw[Lib.toList_data] at e
 have h1:=jan s
 rw[show bytes s=[] from e] at h1
 simp at h1
 omega
theorem jhS (s:ByteArray) (hs:s.size≤9223372036854775807) (w:World) (ht:Lib.TabIs Tryz.prog w "surveyor/lexer.classes" .u8 jaH) :
  Calls Tryz.prog 149 #[.string s] w fun e w'=>e = .returned (.bool (iwB (bytes s)))∧w'=w:=by
 have hb0:((bytes s).getD 0 0).toNat=jaa s 0:=rfl
 have hl:(bytes s).length=s.size:=rfl
 have CC:=jbY (jaa s 0) (jbc s 0) w ht
 have CW:=jdd s hs w ht
 unfold iwB
 rw[hl,hb0]
 by_cases hz:s.size=0
 ·obtain rfl:=jbL hz
  rw[show decide (0<(⟨#[]⟩:ByteArray).size)=false from rfl,Bool.false_and]
  clear CC CW ht hb0 hl hz hs
  go_enter Tryz.func149,Tryz.ntmps149
  go_wp2
  go_ret
  exact⟨rfl,rfl⟩
 ·have hp:0<s.size:=by omega
  have q0:=ji4 hp
  have q1:s.toList.isEmpty=false:=by rw[List.isEmpty_eq_false_iff];exact q0
  have hb:=ja7 s 0 hp
  have g2:(0:Int)<(s.size:Int):=by omega
  rw[decide_eq_true hp,Bool.true_and]
  generalize wl (bytes s)=n at *
  generalize hq:cls (jaa s 0)=q at *
  have KC:=jD CC;have KW:=jD CW
  clear CC CW ht hb0 hl hz hs hq
  generalize jaa s 0=b at *
  by_cases h24:s.size≤24
  ·have t24:decide ((s.size:Int)≤24)=true:=by rw[decide_eq_true_iff];omega
   rw[decide_eq_true h24,Bool.true_and]
   have H24:=jD h24;clear h24
   by_cases h3:q=3
   ·subst h3
    rw[decide_eq_true rfl,Bool.true_and]
    by_cases hn:n=s.size
    ·have tn:((n:Int)==(s.size:Int))=true:=by rw[beq_iff_eq];omega
     rw[decide_eq_true hn]
     have HN:=jD hn;clear hn
     go_enter Tryz.func149,Tryz.ntmps149
     go_wp2_with (go_at_call 93;refine KC.out.mono ?_;rintro e w3 ⟨rfl,h⟩;subst h;refine Hid.out ?_)
     refine jD ?_
     go_wp2_with (go_at_call 95;refine KW.out.mono ?_;rintro e w3 ⟨rfl,h⟩;subst h;refine Hid.out ?_)
     refine jD ?_
     go_wp2
     go_ret
     exact⟨rfl,rfl⟩
    ·have tn:((n:Int)==(s.size:Int))=false:=by rw[beq_eq_false_iff_ne];omega
     rw[decide_eq_false hn]
     have HN:=jD hn;clear hn
     go_enter Tryz.func149,Tryz.ntmps149
     go_wp2_with (go_at_call 93;refine KC.out.mono ?_;rintro e w3 ⟨rfl,h⟩;subst h;refine Hid.out ?_)
     refine jD ?_
     go_wp2_with (go_at_call 95;refine KW.out.mono ?_;rintro e w3 ⟨rfl,h⟩;subst h;refine Hid.out ?_)
     refine jD ?_
     go_wp2
     go_ret
     exact⟨rfl,rfl⟩
   ·have n3:((q:Int)==3)=false:=by rw[beq_eq_false_iff_ne];omega
    rw[decide_eq_false h3,Bool.false_and]
    have H3:=jD h3;clear h3
    go_enter Tryz.func149,Tryz.ntmps149
    go_wp2_with (go_at_call 93;refine KC.out.mono ?_;rintro e w3 ⟨rfl,h⟩;subst h;refine Hid.out ?_)
    refine jD ?_
    go_wp2
    go_ret
    exact⟨rfl,rfl⟩
  ·have t24:decide ((s.size:Int)≤24)=false:=by rw[decide_eq_false_iff_not];omega
   rw[decide_eq_false h24,Bool.false_and]
   have H24:=jD h24;clear h24
   go_enter Tryz.func149,Tryz.ntmps149
   go_wp2
   go_ret
   exact⟨rfl,rfl⟩
end Go.Proofs.YtenmmmdnpglkoaaGreatDoor
