import Derived.Test.YtenmmmdnpglkoaaGreatDoorCut5
set_option linter.unusedSimpArgs false
set_option linter.unusedVariables false
set_option maxRecDepth 100000
set_option maxHeartbeats 8000000
/-
 surveyorref08: word, Comment.
-/
namespace Go.Proofs.YtenmmmdnpglkoaaGreatDoor
open Go Go.Proofs Go.RowKit
def wdE (s:ByteArray):Nat:=if cls (jaa s 0)=4 then jcg (bytes s) else if 24<s.size then 8 else 0
theorem jgE (s:ByteArray) (h0:0<s.size) (hs:s.size≤9223372036854775807) (w:World) :
  Calls Tryz.prog 44 #[.string s] w fun e w'=>e = .returned (.int .i64 (wdE s:Nat))∧w'=w:=by
 have CN:=jfA s hs w
 have hd:=jdy (jaa s 0) (jbc s 0) w
 have hb:=ja7 s 0 h0
 have g2:(0:Int)<(s.size:Int):=by omega
 unfold wdE
 by_cases h4:cls (jaa s 0)=4
 ·rw[if_pos h4]
  rw[decide_eq_true h4] at hd
  generalize jcg (bytes s)=r at *
  generalize jaa s 0=b at *
  have KN:=jD CN;have KD:=jD hd;have H4:=jD h4
  clear CN hd h4
  go_enter Tryz.func44,Tryz.ntmps44
  go_wp2_with (go_at_call 45;refine KD.out.mono ?_;rintro e w3 ⟨rfl,h⟩;subst h;refine Hid.out ?_)
  refine jD ?_
  go_wp2_with (go_at_call 82;refine KN.out.mono ?_;rintro e w3 ⟨rfl,h⟩;subst h;refine Hid.out ?_)
  refine jD ?_
  go_wp2
  go_ret
  exact⟨rfl,rfl⟩
 ·rw[if_neg h4]
  rw[decide_eq_false h4] at hd
  generalize jaa s 0=b at *
  have KD:=jD hd;have H4:=jD h4
  clear CN hd h4
  by_cases h24:24<s.size
  ·rw[if_pos h24]
   have g1:decide ((24:Int)<(s.size:Int))=true:=by rw[decide_eq_true_iff];omega
   have H24:=jD h24;clear h24
   go_enter Tryz.func44,Tryz.ntmps44
   go_wp2_with (go_at_call 45;refine KD.out.mono ?_;rintro e w3 ⟨rfl,h⟩;subst h;refine Hid.out ?_)
   refine jD ?_
   go_wp2
   go_ret
   exact⟨rfl,rfl⟩
  ·rw[if_neg h24]
   have g1:decide ((24:Int)<(s.size:Int))=false:=by rw[decide_eq_false_iff_not];omega
   have H24:=jD h24;clear h24
   go_enter Tryz.func44,Tryz.ntmps44
   go_wp2_with (go_at_call 45;refine KD.out.mono ?_;rintro e w3 ⟨rfl,h⟩;subst h;refine Hid.out ?_)
   refine jD ?_
   go_wp2
   go_ret
   exact⟨rfl,rfl⟩
def cmL (s:ByteArray):Nat:=if 0<s.size∧jaa s 0=35 then (upTo 10 (bytes s)).length else 0
theorem ji8 (c:UInt8):∀ (l:List UInt8) (j:Nat),j<(upTo c l).length→(l.getD j 0)≠c
 | [],j,h=>by simp[upTo] at h
 |d::l,j,h=>by
  unfold upTo at h
  rw[List.takeWhile_cons] at h
  split at h
  ·rename_i hc
   cases j with
   |zero=>simpa using hc
   |succ j=>exact ji8 c l j (by simpa [upTo] using h)
  ·simp at h
theorem jhz (c:UInt8):∀ (l:List UInt8),(upTo c l).length<l.length→(l.getD (upTo c l).length 0)=c
 | [],h=>by simp at h
 |d::l,h=>by
  unfold upTo at h ⊢
  rw[List.takeWhile_cons] at h ⊢
  split at h
  ·rename_i hc
   rw[if_pos hc]
   exact jhz c l (by simpa [upTo] using h)
  ·rename_i hc
   rw[if_neg hc]
   simpa using hc
theorem jgF (s:ByteArray) (hs:s.size≤9223372036854775807) (w:World) :
  Calls Tryz.prog 42 #[.string s] w fun e w'=>e = .returned (.int .i64 (cmL s:Nat))∧w'=w:=by
 unfold cmL
 by_cases hz:s.size=0
 ·obtain rfl:=jbL hz
  rw[if_neg (by rintro⟨h,-⟩;omega)]
  clear hz hs
  go_enter Tryz.func42,Tryz.ntmps42
  go_wp2
  go_ret
  exact⟨rfl,rfl⟩
 have hp:0<s.size:=by omega
 have hb:=ja7 s 0 hp
 have g2:(0:Int)<(s.size:Int):=by omega
 have bz:((s.size:Int)==0)=false:=by rw[beq_eq_false_iff_ne];omega
 by_cases h35:jaa s 0=35
 ·rw[if_pos ⟨hp,h35⟩]
  have hle:=ji1 10 (bytes s)
  rw[jan] at hle
  have hin:∀ j,j<(upTo 10 (bytes s)).length→jaa s j≠10:=fun j hj e=>ji8 10 (bytes s) j hj (UInt8.toNat.inj e)
  have hend:(upTo 10 (bytes s)).length<s.size→jaa s (upTo 10 (bytes s)).length=10:=fun h=>congrArg UInt8.toNat (jhz 10 (bytes s) (by rw[jan];exact h))
  rw[h35] at hb
  generalize (upTo 10 (bytes s)).length=n at *
  have HIN:=jD hin;have HEND:=jD hend;have H35:=jD h35;have HZ:=jD hz
  clear hin hend h35 hz
  go_enter Tryz.func42,Tryz.ntmps42
  go_wp2_with fail
  go_loopw [3] (fun iv wr=>∃ j:Nat,j≤n∧iv = .int .i64 (j:Int)∧wr=w) (fun iv _=>n-(intOf iv).toNat)
  case atStart=>exact⟨0,Nat.zero_le _,rfl,rfl⟩
  case round=>
   obtain⟨j,hj,rfl,hw⟩:=hrel
   subst hw
   by_cases hlt:j<s.size
   ·have hbj:=ja7 s j hlt
    have hj0:(0:Int)≤(j:Int):=by omega
    have hj1:(j:Int)<(s.size:Int):=by omega
    by_cases hjn:j<n
    ·have h10:=HIN.out j hjn
     generalize jaa s j=c at *
     have n10:((c:Int)==10)=false:=by rw[beq_eq_false_iff_ne];omega
     have m10:((c:Int) != 10)=true:=by rw[bne_iff_ne];omega
     have H10:=jD h10;clear h10
     go_wp2
     go_roundw
     case rel=>exact⟨j+1,by omega,by go_num,by trivial⟩
     case measure=>simp[intOf];omega
    ·obtain rfl:j=n:=by omega
     have h10:=HEND.out hlt
     rw[h10] at hbj
     have H10:=jD h10;clear h10
     go_wp2
     go_ret
     exact⟨rfl,rfl⟩
   ·obtain rfl:j=n:=by omega
    have hge:decide ((j:Int)<(s.size:Int))=false:=by rw[decide_eq_false_iff_not];omega
    go_wp2
    go_ret
    exact⟨rfl,rfl⟩
 ·rw[if_neg (by rintro⟨-,h⟩;exact h35 h)]
  generalize jaa s 0=b at *
  have n35:((b:Int)==35)=false:=by rw[beq_eq_false_iff_ne];omega
  have m35:((b:Int) != 35)=true:=by rw[bne_iff_ne];omega
  have H35:=jD h35;have HZ:=jD hz
  clear h35 hz
  go_enter Tryz.func42,Tryz.ntmps42
  go_wp2
  go_ret
  exact⟨rfl,rfl⟩
theorem sgIn:∀ j,j<18→decide (cls (jaa (⟨#[123,125,40,41,91,93,44,59,58,46,61,60,62,43,45,42,47,37]⟩:ByteArray) j)=5)=true:=by decide +kernel
theorem jkM:∀ b,b<256→cls b=5→∃ j,j<18∧jaa (⟨#[123,125,40,41,91,93,44,59,58,46,61,60,62,43,45,42,47,37]⟩:ByteArray) j=b:=by decide +kernel
theorem jjA:∀ (l:List UInt8) (h:2≤l.length),l.take 2=[l[0]'(by omega),l[1]'(by omega)]
 | [],h=>by simp at h
 | [x],h=>by simp at h
 |x::y::r,h=>rfl
theorem jlC {s:ByteArray} (h:2≤s.size):lsB ((bytes s).take 2)=(decide (jaa s 1=61) && (((decide (jaa s 0=58) || decide (jaa s 0=33)) || decide (jaa s 0=60)) || decide (jaa s 0=62))):=by
 have h0:=jbk (s:=s) (j:=0) (by omega)
 have h1:=jbk (s:=s) (j:=1) (by omega)
 have e:=jjA (bytes s) (by rw[jan];exact h)
 rw[e,h0,h1]
 generalize (bytes s)[0]'_=x
 generalize (bytes s)[1]'_=y
 have hk:∀ (z:UInt8) (n:Nat),n<256→decide (z.toNat=n)=(z==UInt8.ofNat n):=fun z n hn=>by
  rw[Bool.eq_iff_iff,decide_eq_true_iff,beq_iff_eq]
  constructor
  ·intro h;rw[←h];simp
  ·intro h;rw[h];simp;omega
 rw[hk y 61 (by decide),hk x 58 (by decide),hk x 33 (by decide),hk x 60 (by decide),hk x 62 (by decide)]
 unfold lsB
 show ([x,y]==[58,61] || [x,y]==[33,61] || [x,y]==[60,61] || [x,y]==[62,61])=((y==61) && (((x==58) || (x==33)) || (x==60) || (x==62)))
 have hb:∀ a b:UInt8,([x,y]==[a,b])=((x==a) && (y==b)):=fun a b=>by rw[Bool.eq_iff_iff];simp
 rw[hb,hb,hb,hb]
 cases (y==61)<;>cases (x==58)<;>cases (x==33)<;>cases (x==60)<;>cases (x==62)<;>rfl
theorem jgI (s:ByteArray) (hs:s.size≤9223372036854775807) (w:World) :
  Calls Tryz.prog 46 #[.string s] w fun e w'=>e = .returned (.int .i64 (sl (bytes s):Nat))∧Below w.heap.size w w':=by
 obtain⟨r,hr⟩:∃ r,sl (bytes s)=r:=⟨_,rfl⟩
 rw[hr]
 unfold sl at hr
 rw[jan,show ((bytes s).getD 0 0).toNat=jaa s 0 from rfl] at hr
 by_cases hz:s.size=0
 ·obtain rfl:=jbL hz
  have hr0:r=0:=by rw[←hr,if_neg (by rintro⟨h,-⟩;omega),if_neg (by rintro⟨h,-⟩;omega)]
  subst hr0
  clear hr hz hs
  go_enter Tryz.func46,Tryz.ntmps46
  go_wp2_with fail
  go_loopw [4] (fun iv wr=>∃ j:Nat,j≤18∧iv = .int .i64 (j:Int)∧Below w.heap.size w wr) (fun iv _=>18-(intOf iv).toNat)
  case atStart=>exact⟨0,Nat.zero_le _,rfl,Below.refl _ _⟩
  case round=>
   obtain⟨j,hj,rfl,hB⟩:=hrel
   by_cases hlt:j<18
   ·have hj1:(j:Int)<18:=by omega
    have hj2:decide ((j:Int)<18)=true:=by rw[decide_eq_true_iff];omega
    have ej:wrap64 ((j:Int)+1)=(j:Int)+1:=by unfold wrap64;omega
    have HB:=jD hB;clear hB
    go_wp2_with fail
    go_quiet (fail)
    go_wp2
    go_roundw
    case rel=>exact⟨j+1,by omega,by first|exact congrArg (Value.int .i64) (Int.natCast_add j 1).symm|exact congrArg (Value.int .i64) (ej.trans (Int.natCast_add j 1).symm),below_drewN HB _⟩
    case measure=>first|(show 18-((j:Int)+1).toNat<18-((j:Int)).toNat;omega)|(rw[ej];show 18-((j:Int)+1).toNat<18-((j:Int)).toNat;omega)
   ·obtain rfl:j=18:=by omega
    have HB:=jD hB;clear hB hlt hj
    go_wp2
    go_ret
    exact⟨rfl,HB.out⟩
 have hp:0<s.size:=by omega
 have hb:=ja7 s 0 hp
 have hbl:=jbc s 0
 have g2:(0:Int)<(s.size:Int):=by omega
 have gp:decide ((0:Int)<(s.size:Int))=true:=by rw[decide_eq_true_iff];omega
 have gp2:decide (0<s.size)=true:=by rw[decide_eq_true_iff];omega
 have hk2:=fun h:2≤s.size=>jlC h
 have hone:¬ (2≤s.size∧lsB ((bytes s).take 2)=true)→(cls (jaa s 0)=5→r=1)∧(¬ cls (jaa s 0)=5→r=0):=fun h=>by
  rw[if_neg h] at hr
  exact⟨fun h5=>by rw[←hr,if_pos ⟨hp,h5⟩],fun h5=>by rw[←hr,if_neg (fun q=>h5 q.2)]⟩
 have htwo:2≤s.size∧lsB ((bytes s).take 2)=true→r=2:=fun h=>by rw[←hr,if_pos h]
 clear hr
 by_cases h2:2≤s.size
 ·have g3:decide ((2:Int)≤(s.size:Int))=true:=by rw[decide_eq_true_iff];omega
  have g4:(1:Int)<(s.size:Int):=by omega
  have hb1:=ja7 s 1 (by omega)
  have hl:=hk2 h2
  rw[hl] at hone htwo
  generalize jaa s 0=b0 at *
  generalize jaa s 1=b1 at *
  have a1:((b1:Int)==61)=decide (b1=61):=bI b1 61
  have c1:((b0:Int)==58)=decide (b0=58):=bI b0 58
  have c2:((b0:Int)==33)=decide (b0=33):=bI b0 33
  have c3:((b0:Int)==60)=decide (b0=60):=bI b0 60
  have c4:((b0:Int)==62)=decide (b0=62):=bI b0 62
  have H2S:=jD h2;have HBL:=jD hbl;have HZ:=jD hz;have HP:=jD hp
  generalize decide (b1=61)=p at *
  generalize decide (b0=58)=q1 at *
  generalize decide (b0=33)=q2 at *
  generalize decide (b0=60)=q3 at *
  generalize decide (b0=62)=q4 at *
  have KO:=jD hone;have KT:=jD htwo
  clear hone htwo hk2 hl
  cases p
  ·have hsn:=KO.out (by simp)
   have HSN:=jD hsn.2
   have HSL:Hid (decide (cls b0=5)=true→r=1):=jD (fun h=>hsn.1 (of_decide_eq_true h))
   clear hsn KO KT hbl hz
   go_enter Tryz.func46,Tryz.ntmps46
   go_wp2_with fail
   generalize hSG:(⟨#[123,125,40,41,91,93,44,59,58,46,61,60,62,43,45,42,47,37]⟩:ByteArray)=SG at *
   have hsz:SG.size=18:=by rw[←hSG];rfl
   have hfb:∀ j,j<18→decide (cls (jaa SG j)=5)=true:=by rw[←hSG];exact sgIn
   have hfa:∀ b,b<256→cls b=5→∃ j,j<18∧jaa SG j=b:=by rw[←hSG];exact jkM
   have HSZ:=jD hsz;have HFB:=jD hfb;have HFA:=jD hfa
   clear hSG hfb hfa hsz
   go_loopw [4] (fun iv wr=>∃ j:Nat,j≤18∧iv = .int .i64 (j:Int)∧(∀ i,i<j→jaa SG i≠b0)∧Below w.heap.size w wr) (fun iv _=>18-(intOf iv).toNat)
   case atStart=>exact⟨0,Nat.zero_le _,rfl,fun i h=>absurd h (Nat.not_lt_zero _),Below.refl _ _⟩
   case round=>
    obtain⟨j,hj,rfl,hg,hB⟩:=hrel
    by_cases hlt:j<18
    ·have hjs:j<SG.size:=by rw[HSZ.out];exact hlt
     have hbj:=ja7 SG j hjs
     have hj0:(0:Int)≤(j:Int):=by omega
     have hj1:(j:Int)<(SG.size:Int):=by omega
     have ej:wrap64 ((j:Int)+1)=(j:Int)+1:=by unfold wrap64;omega
     have hfb:=HFB.out j hlt
     have hstep:jaa SG j≠b0→∀ i,i<j+1→jaa SG i≠b0:=fun h i hi=>by
      rcases Nat.lt_or_ge i j with q|q
      ·exact hg i q
      ·obtain rfl:i=j:=by omega
       exact h
     generalize jaa SG j=c at *
     by_cases hc:c=b0
     ·subst hc
      have hr:decide (cls c=5)=true:=hfb
      have HR:=jD (HSL.out hr);have HB:=jD hB
      clear hr hstep hg hj hfb hB
      go_wp2_with fail
      go_quiet (fail)
      go_wp2
      go_ret
      exact⟨by rw[HR.out];rfl,below_drewN HB _⟩
     ·have hg2:=hstep hc
      have nc:((b0:Int)==(c:Int))=false:=by rw[beq_eq_false_iff_ne];omega
      have HG2:=jD hg2;have HC:=jD hc;have HB:=jD hB
      clear hstep hg hg2 hc hj hfb hB
      go_wp2_with fail
      go_quiet (fail)
      go_wp2
      go_roundw
      case rel=>exact⟨j+1,by omega,by first|exact congrArg (Value.int .i64) (Int.natCast_add j 1).symm|exact congrArg (Value.int .i64) (ej.trans (Int.natCast_add j 1).symm),HG2.out,below_drewN HB _⟩
      case measure=>first|(show 18-((j:Int)+1).toNat<18-((j:Int)).toNat;omega)|(rw[ej];show 18-((j:Int)+1).toNat<18-((j:Int)).toNat;omega)
    ·obtain rfl:j=18:=by omega
     have hne:¬ cls b0=5:=fun h=>by
      obtain⟨i,hi,e⟩:=HFA.out b0 HBL h
      exact hg i hi e
     have HR:=jD (HSN.out hne);have HB:=jD hB
     have hge:decide ((18:Int)<(SG.size:Int))=false:=by rw[HSZ.out];decide
     clear hg hne hB hlt hj
     go_wp2
     go_ret
     exact⟨by rw[HR.out];rfl,HB.out⟩
  ·cases q1
   ·cases q2
    ·cases q3
     ·cases q4
      ·have hsn:=KO.out (by simp)
       have HSN:=jD hsn.2
       have HSL:Hid (decide (cls b0=5)=true→r=1):=jD (fun h=>hsn.1 (of_decide_eq_true h))
       clear hsn KO KT hbl hz
       go_enter Tryz.func46,Tryz.ntmps46
       go_wp2_with fail
       generalize hSG:(⟨#[123,125,40,41,91,93,44,59,58,46,61,60,62,43,45,42,47,37]⟩:ByteArray)=SG at *
       have hsz:SG.size=18:=by rw[←hSG];rfl
       have hfb:∀ j,j<18→decide (cls (jaa SG j)=5)=true:=by rw[←hSG];exact sgIn
       have hfa:∀ b,b<256→cls b=5→∃ j,j<18∧jaa SG j=b:=by rw[←hSG];exact jkM
       have HSZ:=jD hsz;have HFB:=jD hfb;have HFA:=jD hfa
       clear hSG hfb hfa hsz
       go_loopw [4] (fun iv wr=>∃ j:Nat,j≤18∧iv = .int .i64 (j:Int)∧(∀ i,i<j→jaa SG i≠b0)∧Below w.heap.size w wr) (fun iv _=>18-(intOf iv).toNat)
       case atStart=>exact⟨0,Nat.zero_le _,rfl,fun i h=>absurd h (Nat.not_lt_zero _),Below.refl _ _⟩
       case round=>
        obtain⟨j,hj,rfl,hg,hB⟩:=hrel
        by_cases hlt:j<18
        ·have hjs:j<SG.size:=by rw[HSZ.out];exact hlt
         have hbj:=ja7 SG j hjs
         have hj0:(0:Int)≤(j:Int):=by omega
         have hj1:(j:Int)<(SG.size:Int):=by omega
         have ej:wrap64 ((j:Int)+1)=(j:Int)+1:=by unfold wrap64;omega
         have hfb:=HFB.out j hlt
         have hstep:jaa SG j≠b0→∀ i,i<j+1→jaa SG i≠b0:=fun h i hi=>by
          rcases Nat.lt_or_ge i j with q|q
          ·exact hg i q
          ·obtain rfl:i=j:=by omega
           exact h
         generalize jaa SG j=c at *
         by_cases hc:c=b0
         ·subst hc
          have hr:decide (cls c=5)=true:=hfb
          have HR:=jD (HSL.out hr);have HB:=jD hB
          clear hr hstep hg hj hfb hB
          go_wp2_with fail
          go_quiet (fail)
          go_wp2
          go_ret
          exact⟨by rw[HR.out];rfl,below_drewN HB _⟩
         ·have hg2:=hstep hc
          have nc:((b0:Int)==(c:Int))=false:=by rw[beq_eq_false_iff_ne];omega
          have HG2:=jD hg2;have HC:=jD hc;have HB:=jD hB
          clear hstep hg hg2 hc hj hfb hB
          go_wp2_with fail
          go_quiet (fail)
          go_wp2
          go_roundw
          case rel=>exact⟨j+1,by omega,by first|exact congrArg (Value.int .i64) (Int.natCast_add j 1).symm|exact congrArg (Value.int .i64) (ej.trans (Int.natCast_add j 1).symm),HG2.out,below_drewN HB _⟩
          case measure=>first|(show 18-((j:Int)+1).toNat<18-((j:Int)).toNat;omega)|(rw[ej];show 18-((j:Int)+1).toNat<18-((j:Int)).toNat;omega)
        ·obtain rfl:j=18:=by omega
         have hne:¬ cls b0=5:=fun h=>by
          obtain⟨i,hi,e⟩:=HFA.out b0 HBL h
          exact hg i hi e
         have HR:=jD (HSN.out hne);have HB:=jD hB
         have hge:decide ((18:Int)<(SG.size:Int))=false:=by rw[HSZ.out];decide
         clear hg hne hB hlt hj
         go_wp2
         go_ret
         exact⟨by rw[HR.out];rfl,HB.out⟩
      ·have H2:=jD (KT.out ⟨H2S.out,rfl⟩);clear KO KT hbl hz
       go_enter Tryz.func46,Tryz.ntmps46
       go_wp2
       go_ret
       exact⟨by rw[H2.out];rfl,Below.refl _ _⟩
     ·have H2:=jD (KT.out ⟨H2S.out,by simp⟩);clear KO KT hbl hz
      go_enter Tryz.func46,Tryz.ntmps46
      go_wp2
      go_ret
      exact⟨by rw[H2.out];rfl,Below.refl _ _⟩
    ·have H2:=jD (KT.out ⟨H2S.out,by simp⟩);clear KO KT hbl hz
     go_enter Tryz.func46,Tryz.ntmps46
     go_wp2
     go_ret
     exact⟨by rw[H2.out];rfl,Below.refl _ _⟩
   ·have H2:=jD (KT.out ⟨H2S.out,by simp⟩);clear KO KT hbl hz
    go_enter Tryz.func46,Tryz.ntmps46
    go_wp2
    go_ret
    exact⟨by rw[H2.out];rfl,Below.refl _ _⟩
 ·have g3:decide ((2:Int)≤(s.size:Int))=false:=by rw[decide_eq_false_iff_not];omega
  generalize jaa s 0=b0 at *
  have hsn:=hone (fun h=>h2 h.1)
  have HSN:=jD hsn.2
  have HSL:Hid (decide (cls b0=5)=true→r=1):=jD (fun h=>hsn.1 (of_decide_eq_true h))
  have HBL:=jD hbl;have HZ:=jD hz;have HP:=jD hp;have HH2:=jD h2
  clear hsn hone htwo hk2 h2 hbl hz
  go_enter Tryz.func46,Tryz.ntmps46
  go_wp2_with fail
  generalize hSG:(⟨#[123,125,40,41,91,93,44,59,58,46,61,60,62,43,45,42,47,37]⟩:ByteArray)=SG at *
  have hsz:SG.size=18:=by rw[←hSG];rfl
  have hfb:∀ j,j<18→decide (cls (jaa SG j)=5)=true:=by rw[←hSG];exact sgIn
  have hfa:∀ b,b<256→cls b=5→∃ j,j<18∧jaa SG j=b:=by rw[←hSG];exact jkM
  have HSZ:=jD hsz;have HFB:=jD hfb;have HFA:=jD hfa
  clear hSG hfb hfa hsz
  go_loopw [4] (fun iv wr=>∃ j:Nat,j≤18∧iv = .int .i64 (j:Int)∧(∀ i,i<j→jaa SG i≠b0)∧Below w.heap.size w wr) (fun iv _=>18-(intOf iv).toNat)
  case atStart=>exact⟨0,Nat.zero_le _,rfl,fun i h=>absurd h (Nat.not_lt_zero _),Below.refl _ _⟩
  case round=>
   obtain⟨j,hj,rfl,hg,hB⟩:=hrel
   by_cases hlt:j<18
   ·have hjs:j<SG.size:=by rw[HSZ.out];exact hlt
    have hbj:=ja7 SG j hjs
    have hj0:(0:Int)≤(j:Int):=by omega
    have hj1:(j:Int)<(SG.size:Int):=by omega
    have ej:wrap64 ((j:Int)+1)=(j:Int)+1:=by unfold wrap64;omega
    have hfb:=HFB.out j hlt
    have hstep:jaa SG j≠b0→∀ i,i<j+1→jaa SG i≠b0:=fun h i hi=>by
     rcases Nat.lt_or_ge i j with q|q
     ·exact hg i q
     ·obtain rfl:i=j:=by omega
      exact h
    generalize jaa SG j=c at *
    by_cases hc:c=b0
    ·subst hc
     have hr:decide (cls c=5)=true:=hfb
     have HR:=jD (HSL.out hr);have HB:=jD hB
     clear hr hstep hg hj hfb hB
     go_wp2_with fail
     go_quiet (fail)
     go_wp2
     go_ret
     exact⟨by rw[HR.out];rfl,below_drewN HB _⟩
    ·have hg2:=hstep hc
     have nc:((b0:Int)==(c:Int))=false:=by rw[beq_eq_false_iff_ne];omega
     have HG2:=jD hg2;have HC:=jD hc;have HB:=jD hB
     clear hstep hg hg2 hc hj hfb hB
     go_wp2_with fail
     go_quiet (fail)
     go_wp2
     go_roundw
     case rel=>exact⟨j+1,by omega,by first|exact congrArg (Value.int .i64) (Int.natCast_add j 1).symm|exact congrArg (Value.int .i64) (ej.trans (Int.natCast_add j 1).symm),HG2.out,below_drewN HB _⟩
     case measure=>first|(show 18-((j:Int)+1).toNat<18-((j:Int)).toNat;omega)|(rw[ej];show 18-((j:Int)+1).toNat<18-((j:Int)).toNat;omega)
   ·obtain rfl:j=18:=by omega
    have hne:¬ cls b0=5:=fun h=>by
     obtain⟨i,hi,e⟩:=HFA.out b0 HBL h
     exact hg i hi e
    have HR:=jD (HSN.out hne);have HB:=jD hB
    have hge:decide ((18:Int)<(SG.size:Int))=false:=by rw[HSZ.out];decide
    clear hg hne hB hlt hj
    go_wp2
    go_ret
    exact⟨by rw[HR.out];rfl,HB.out⟩
def PA (s:ByteArray) (a:Nat):Nat:=a+skM false ((bytes s).drop a)
theorem jjB {s:ByteArray} {a:Nat} (h:a<s.size) (hc:cls (jaa s a)=1):PA s (a+1)=PA s a:=by unfold PA;rw[jhx h hc];omega
theorem jkN {s:ByteArray} {a:Nat} (h:a<s.size) (hc:cls (jaa s a)=2):PA s (a+(upTo 10 ((bytes s).drop a)).length)=PA s a∧0<(upTo 10 ((bytes s).drop a)).length∧a+(upTo 10 ((bytes s).drop a)).length≤s.size:=by
 obtain⟨h1,h2⟩:=ji2 h hc
 have h3:=ji1 10 ((bytes s).drop a)
 rw[List.length_drop,jan] at h3
 exact⟨by unfold PA;omega,h2,by omega⟩
theorem jkO {s:ByteArray} {a:Nat} (h:a<s.size) (h1:cls (jaa s a)≠1) (h2:cls (jaa s a)≠2):PA s a=a:=by unfold PA;rw[ji3 h h1 h2];rfl
theorem jlD {s:ByteArray} {a:Nat} (h:s.size≤a):PA s a=a:=by unfold PA;rw[jkt h];rfl
theorem jm3 {s:ByteArray} {a:Nat} (h:a≤s.size):PA s a≤s.size:=by
 have:=jdw false ((bytes s).drop a)
 rw[List.length_drop,jan] at this
 unfold PA;omega
theorem jkP (s:ByteArray) (a:Nat):nx s a=PA s (a+(tkT s a).t.size):=rfl
section
variable {s:ByteArray} {a:Nat}
theorem jc3:bytes (s.extract a s.size)=(bytes s).drop a:=by rw[jbE,jcJ]
theorem jd1:(s.extract a s.size).size=s.size-a:=by rw[←jan,jc3,List.length_drop,jan]
theorem jga (h:a<s.size):jaa (s.extract a s.size) 0=jaa s a:=by
 unfold jaa
 rw[jc3,List.getD_eq_getElem?_getD,List.getElem?_drop,List.getD_eq_getElem?_getD,Nat.add_zero]
theorem jiE {n:Nat} (h:a+n≤s.size):(s.extract a s.size).extract 0 n=s.extract a (a+n):=by
 have e:∀ x y:ByteArray,bytes x=bytes y→x=y:=fun x y h=>by rw[←jdu x,h,jdu]
 apply e
 rw[jbz s h]
 have:=jbz (s.extract a s.size) (a:=0) (n:=n) (by rw[jd1];omega)
 rw[Nat.zero_add,List.drop_zero,jc3] at this
 exact this
theorem jlE (h:a<s.size):(jaa s a=35)↔cls (jaa s a)=2:=by
 have:=cls2 (jaa s a) (jbc s a)
 rw[Bool.eq_iff_iff,decide_eq_true_iff,decide_eq_true_iff] at this
 exact this.symm
theorem jgb (h:a<s.size):cmL (s.extract a s.size)=if cls (jaa s a)=2 then (upTo 10 ((bytes s).drop a)).length else 0:=by
 unfold cmL
 rw[jc3,jga h,jd1]
 by_cases hc:cls (jaa s a)=2
 ·rw[if_pos hc,if_pos ⟨by omega,(jlE h).2 hc⟩]
 ·rw[if_neg hc,if_neg (fun q=>hc ((jlE h).1 q.2))]
theorem jkQ (h:a<s.size) (h3:cls (jaa s a)≠3) (h4:cls (jaa s a)≠4):wl ((bytes s).drop a)=0:=by
 rw[jcU s h]
 rw[jbk h] at h3 h4
 unfold wl wdB
 rw[List.takeWhile_cons]
 simp[h3,h4]
theorem jh2 (h:a<s.size) (hc:cls (jaa s a)=3∨cls (jaa s a)=4) :
  0<wl ((bytes s).drop a)∧a+wl ((bytes s).drop a)≤s.size∧(tokX s a).2=wdE (s.extract a (a+wl ((bytes s).drop a)))∧tkT s a=⟨if cls (jaa s a)=4 then 1 else 0,s.extract a (a+wl ((bytes s).drop a)),(a:Int)⟩:=by
 have h1:=jku h hc
 have h2:=jhQ ((bytes s).drop a)
 rw[List.length_drop,jan] at h2
 have h3:a+wl ((bytes s).drop a)≤s.size:=by omega
 have hs:=jbh s h3
 have hm:=jbz s h3
 have hb:jaa (s.extract a (a+wl ((bytes s).drop a))) 0=jaa s a:=by
  unfold jaa
  rw[hm,List.getD_eq_getElem?_getD,List.getElem?_take_of_lt (by omega),List.getElem?_drop,List.getD_eq_getElem?_getD,Nat.add_zero]
 refine⟨h1,h3,?_,?_⟩
 ·unfold wdE
  rw[hb,hs,hm]
  unfold tokX tkO
  rcases hc with hc|hc
  ·rw[if_pos hc,if_neg (show ¬ cls (jaa s a)=4 by omega)]
   split<;>rfl
  ·rw[if_neg (show ¬ cls (jaa s a)=3 by omega),if_pos hc,if_pos hc]
   split
   ·rename_i e;exact e.symm
   ·rfl
 ·unfold tkT
  rcases hc with hc|hc
  ·rw[if_pos hc,if_neg (show ¬ cls (jaa s a)=4 by omega)]
  ·rw[if_neg (show ¬ cls (jaa s a)=3 by omega),if_pos hc,if_pos hc]
theorem jh3 (h:a<s.size) (h3:cls (jaa s a)≠3) (h4:cls (jaa s a)≠4) :
  a+sl ((bytes s).drop a)≤s.size∧(tokX s a).2=(if sl ((bytes s).drop a)=0 then 4 else 0)∧tkT s a=⟨2,s.extract a (a+sl ((bytes s).drop a)),(a:Int)⟩:=by
 have h2:=jj7 ((bytes s).drop a)
 rw[List.length_drop,jan] at h2
 refine⟨by omega,?_,?_⟩
 ·unfold tokX tkO
  rw[if_neg h3,if_neg h4]
  split<;>rfl
 ·unfold tkT
  rw[if_neg h3,if_neg h4]
end
theorem jiF {P:Program} (W:World) (t:TypeId) (s:ByteArray) (ht:P.underlying t=some .string) (h:Nat) (h2:h≤s.size) :
  (Instr.slice t (.string s) none (some (.int .i64 (h:Int))) none).run P W = .ok (.string (s.extract 0 h)) W:=by
 have g1:(0:Int)≤(h:Int):=by omega
 have g2:(h:Int)≤(s.size:Int):=by omega
 simp[Instr.slice,run_underlying ht,Instr.sliceBounds,run_sliceBound,sliced, *]
theorem jey (s:ByteArray) (w:World) :
  Calls Tryz.prog 19 #[.string s] w fun e w'=>∃ v,e = .returned (.tuple #[v,.int .i64 ((scR s).2.1:Nat),.int .i64 ((scR s).2.2:Nat)])∧w'.ownsRow w.heap.size 50 3 v (scR s).1.length (jbf (scR s).1)∧Below w.heap.size w w':=by
 unfold scR
 by_cases hlong:65536<s.size
 ·rw[if_pos hlong]
  have g:decide ((65536:Int)<(s.size:Int))=true:=by rw[decide_eq_true_iff];omega
  have HLO:=jD hlong
  clear hlong
  go_enter Tryz.func19,Tryz.ntmps19
  go_wp2
  refine bodyPost_ret (by simp[results,Tryz.results19,go_sem];rfl) rfl ?_
  exact⟨_,rfl,World.ownsRow_nil ..,Below.refl _ _⟩
 rw[if_neg hlong]
 have g:decide ((65536:Int)<(s.size:Int))=false:=by rw[decide_eq_false_iff_not];omega
 have hs:s.size≤65536:=by omega
 have hp0:PA s 0=skM false (bytes s):=by unfold PA;rw[List.drop_zero,Nat.zero_add]
 rw[←hp0]
 obtain⟨R,hR⟩:∃ R,scF s (s.size+1) (PA s 0)=R:=⟨_,rfl⟩
 rw[hR]
 obtain⟨G,hG⟩:∃ G,G=(if R.2.2=0 then R else ([],R.2)):=⟨_,rfl⟩
 rw[←hG]
 have KG:=jD hG;have HR:=jD hR;have HS:=jD hs;have HNL:=jD hlong
 clear hG hR hs hp0 hlong
 go_enter Tryz.func19,Tryz.ntmps19
 go_wp2_with fail
 go_loopw [5,6] (fun v iv wr=>∃ (f a n:Nat) (acc:List Tk),acc.length=n∧n≤a∧a≤s.size∧iv = .int .i64 (a:Int)∧s.size<a+f∧R=(acc++(scF s f (PA s a)).1,(scF s f (PA s a)).2)∧wr.ownsRow w.heap.size 50 3 v n (jbf acc)∧Below w.heap.size w wr) (fun _ iv _=>s.size-(intOf iv).toNat)
 case atStart=>exact⟨s.size+1,0,0,[],rfl,Nat.zero_le _,Nat.zero_le _,rfl,by omega,HR.out.symm,World.ownsRow_nil ..,Below.refl _ _⟩
 case round=>
  obtain⟨f,a,n,acc,hn,hna,ha,rfl,hf,hRR,ho,hB⟩:=hrel
  have hS:=HS.out
  obtain⟨f,rfl⟩:∃ g,f=g+1:=⟨f-1,by omega⟩
  by_cases hlt:a<s.size
  ·have g0:(0:Int)≤(a:Int):=by omega
   have g1:(a:Int)<(s.size:Int):=by omega
   have g2:(a:Int)≤(s.size:Int):=by omega
   have hDs:=jd1 (s:=s) (a:=a)
   have hD0:0<(s.extract a s.size).size:=by omega
   have hDi:(0:Int)<((s.extract a s.size).size:Int):=by omega
   have hb:=ja7 (s.extract a s.size) 0 hD0
   rw[jga hlt] at hb
   have hrund:∀ W:World,(Instr.slice 9 (.string s) (some (.int .i64 (a:Int))) none none).run Tryz.prog W = .ok (.string (s.extract a s.size)) W:=fun W=>by
    simp[Instr.slice,run_underlying Tryz.underlying9,Instr.sliceBounds,run_sliceBound,sliced,g0,g2]
   have hrunk:∀ k:Nat,a+k≤s.size→∀ W:World,(Instr.slice 9 (.string (s.extract a s.size)) none (some (.int .i64 (k:Int))) none).run Tryz.prog W = .ok (.string (s.extract a (a+k))) W:=fun k hk W=>by
    rw[←jiE hk]
    exact jiF W 9 _ Tryz.underlying9 k (by rw[jd1];omega)
   have CB:=ji7 (jaa s a) (jbc s a)
   have CDg:=jdy (jaa s a) (jbc s a)
   have CC:=jgF (s.extract a s.size) (by omega)
   rw[jgb hlt] at CC
   have CW:=jew (s.extract a s.size) (by omega)
   have CS:=jgI (s.extract a s.size) (by omega)
   rw[jc3] at CW CS
   by_cases h1:cls (jaa s a)=1
   ·have hpa:=jjB hlt h1
    rw[decide_eq_true h1] at CB
    have ea:wrap64 ((a:Int)+1)=(a:Int)+1:=by unfold wrap64;omega
    generalize s.extract a s.size=D at *
    generalize jaa s a=b at *
    have KB:=jD CB;have HO:=jD ho;have HB:=jD hB;have HN:=jD hn
    have HP:Hid (R=(acc++(scF s (f+1) (PA s (a+1))).1,(scF s (f+1) (PA s (a+1))).2)):=jD (by rw[hpa];exact hRR)
    have HQ:Hid (n≤a∧a<s.size∧s.size<a+(f+1)):=jD ⟨hna,hlt,hf⟩
    clear CB CDg CC CW CS ho hB hn hRR h1 hpa hna hf ha hS
    go_wp2_with (go_at_call 41;refine(KB.out _).mono ?_;rintro e w3 ⟨rfl,h⟩;subst h;refine Hid.out ?_)
    refine jD ?_
    go_wp2
    go_roundw
    case rel=>exact⟨f+1,a+1,n,acc,HN.out,by have:=HQ.out;omega,by have:=HQ.out;omega,congrArg (Value.int .i64) (ea.trans (Int.natCast_add a 1).symm),by have:=HQ.out;omega,HP.out,HO.out,HB.out⟩
    case measure=>have:=HQ.out;rw[ea];show s.size-((a:Int)+1).toNat<s.size-((a:Int)).toNat;omega
   rw[decide_eq_false h1] at CB
   by_cases h2:cls (jaa s a)=2
   ·obtain⟨hpa,hu0,hua⟩:=jkN hlt h2
    rw[if_pos h2] at CC
    generalize (upTo 10 ((bytes s).drop a)).length=u at *
    generalize s.extract a s.size=D at *
    generalize jaa s a=b at *
    have gu:decide ((0:Int)<(u:Int))=true:=by rw[decide_eq_true_iff];omega
    have gu2:decide (0<u)=true:=by rw[decide_eq_true_iff];omega
    have ea:wrap64 ((a:Int)+(u:Int))=(a:Int)+(u:Int):=by unfold wrap64;omega
    have KB:=jD CB;have KC:=jD CC;have HO:=jD ho;have HB:=jD hB;have HN:=jD hn
    have HP:Hid (R=(acc++(scF s (f+1) (PA s (a+u))).1,(scF s (f+1) (PA s (a+u))).2)):=jD (by rw[hpa];exact hRR)
    have HQ:Hid (n≤a∧a+u≤s.size∧s.size<a+(f+1)∧0<u):=jD ⟨hna,hua,hf,hu0⟩
    clear CB CDg CC CW CS ho hB hn hRR h1 h2 hpa hna hf ha hS hu0 hua
    go_wp2_with (go_at_call 41;refine(KB.out _).mono ?_;rintro e w3 ⟨rfl,h⟩;subst h;refine Hid.out ?_)
    refine jD ?_
    go_wp2_with (go_at_call 42;refine(KC.out _).mono ?_;rintro e w3 ⟨rfl,h⟩;subst h;refine Hid.out ?_)
    refine jD ?_
    go_wp2_with (go_at_call 42;refine(KC.out _).mono ?_;rintro e w3 ⟨rfl,h⟩;subst h;refine Hid.out ?_)
    refine jD ?_
    go_wp2
    go_roundw
    case rel=>exact⟨f+1,a+u,n,acc,HN.out,by have:=HQ.out;omega,by have:=HQ.out;omega,congrArg (Value.int .i64) (by first|exact(Int.natCast_add a u).symm|exact ea.trans (Int.natCast_add a u).symm),by have:=HQ.out;omega,HP.out,HO.out,HB.out⟩
    case measure=>have:=HQ.out;first|(show s.size-((a:Int)+(u:Int)).toNat<s.size-((a:Int)).toNat;omega)|(rw[ea];show s.size-((a:Int)+(u:Int)).toNat<s.size-((a:Int)).toNat;omega)
   rw[if_neg h2] at CC
   rw[jkO hlt h1 h2] at hRR
   by_cases hc:cls (jaa s a)=3∨cls (jaa s a)=4
   ·obtain⟨hm0,ham,hE,hT⟩:=jh2 hlt hc
    have hXs:=jbh s ham
    have hX:=hrunk _ ham
    have CX:=jgE (s.extract a (a+wl ((bytes s).drop a))) (by omega) (by omega)
    have hbad:=fun q=>jf9 (f:=f) hlt (q:(tokX s a).2≠0)
    have hok:=fun q=>jhy (f:=f) hlt (q:(tokX s a).2=0)
    rw[jkP,hT] at hok
    have hok2:(tokX s a).2=0→scF s (f+1) a=(⟨if cls (jaa s a)=4 then 1 else 0,s.extract a (a+wl ((bytes s).drop a)),(a:Int)⟩::(scF s f (PA s (a+wl ((bytes s).drop a)))).1,(scF s f (PA s (a+wl ((bytes s).drop a)))).2):=fun q=>by
     have:=hok q
     rw[show (⟨if cls (jaa s a)=4 then 1 else 0,s.extract a (a+wl ((bytes s).drop a)),(a:Int)⟩:Tk).t.size=wl ((bytes s).drop a) from hXs] at this
     exact this
    rw[hE] at hbad hok2
    have hka:(if cls (jaa s a)=4 then (1:Int) else 0)=if decide (cls (jaa s a)=4)=true then 1 else 0:=by
     by_cases q:cls (jaa s a)=4
     ·rw[if_pos q,if_pos (by simpa using q)]
     ·rw[if_neg q,if_neg (by simpa using q)]
    rw[hka] at hok2
    clear hok hE hT hka hc
    generalize wl ((bytes s).drop a)=m at *
    generalize s.extract a (a+m)=X at *
    generalize wdE X=ne at *
    generalize s.extract a s.size=D at *
    generalize decide (cls (jaa s a)=4)=v at *
    generalize jaa s a=b at *
    have gm:decide ((0:Int)<(m:Int))=true:=by rw[decide_eq_true_iff];omega
    have gm2:decide (0<m)=true:=by rw[decide_eq_true_iff];omega
    have ea:wrap64 ((a:Int)+(m:Int))=(a:Int)+(m:Int):=by unfold wrap64;omega
    have KB:=jD CB;have KC:=jD CC;have KW:=jD CW;have KX:=jD CX;have KD:=jD CDg
    have HO:=jD ho;have HB:=jD hB;have HN:=jD hn
    have HQ:Hid (n≤a∧a+m≤s.size∧s.size<a+(f+1)∧0<m):=jD ⟨hna,ham,hf,hm0⟩
    clear CB CC CW CX CDg CS ho hB hn h1 h2 hna hf ha hS hm0 ham hrunk hXs hlt
    by_cases he:ne=0
    ·subst he
     have hst:R=((acc++[⟨if v=true then 1 else 0,X,(a:Int)⟩])++(scF s f (PA s (a+m))).1,(scF s f (PA s (a+m))).2):=by
      rw[hRR,hok2 rfl];simp
     have hwl:(acc++[(⟨if v=true then 1 else 0,X,(a:Int)⟩:Tk)]).length=n+1:=by simp[HN.out]
     cases v
     ·have HST:Hid (R=((acc++[⟨0,X,(a:Int)⟩])++(scF s f (PA s (a+m))).1,(scF s f (PA s (a+m))).2)):=jD hst
      have HWL:Hid ((acc++[(⟨0,X,(a:Int)⟩:Tk)]).length=n+1):=jD hwl
      clear hst hwl hRR hok2 hbad
      go_wp2_with (go_at_call 41;refine(KB.out _).mono ?_;rintro e w3 ⟨rfl,h⟩;subst h;refine Hid.out ?_)
      refine jD ?_
      go_wp2_with (go_at_call 42;refine(KC.out _).mono ?_;rintro e w3 ⟨rfl,h⟩;subst h;refine Hid.out ?_)
      refine jD ?_
      go_wp2_with (go_at_call 43;refine(KW.out _).mono ?_;rintro e w3 ⟨rfl,h⟩;subst h;refine Hid.out ?_)
      refine jD ?_
      go_wp2_with (go_at_call 44;refine(KX.out _).mono ?_;rintro e w3 ⟨rfl,h⟩;subst h;refine Hid.out ?_)
      refine jD ?_
      go_wp2_with (go_at_call 45;refine(KD.out _).mono ?_;rintro e w3 ⟨rfl,h⟩;subst h;refine Hid.out ?_)
      refine jD ?_
      have A1:=(Below.refl w3.heap.size w3).alloc (jrr _) (Obj.cells #[.int .i64 0,.string X,.int .i64 (a:Int)] 50)
      have O5:=jbp HO A1
      have B5:=Below.chain HB A1
      have hv4:∀ b,Value.ownBlock _=some b→w.heap.size≤b∧b<w3.heap.size:=fun b e=>jcV HO e
      have hz5:=B5.size
      have HO5:=jD O5;have HB5:=jD B5;have HV4:=jD hv4;have HZ5:=jD hz5
      have hnle:n≤1200000:=by have:=HQ.out;have:=HS.out;omega
      have HNLE:=jD hnle
      clear A1 O5 B5 hv4 hz5 HO hnle
      go_wp2_with (first|(at_builtin;refine jaZ rfl (.tmp 49) (.tmp 56) rfl w.heap.size _ n acc HN (by simp[Act.eval,Act.put]) HO5 HNLE HZ5 w3.heap.size ⟨0,X,(a:Int)⟩ (by simp[Act.eval,Act.put]) (by go_cell) (by go_cell) (by go_cell) ?_;intro g6 cap6 w6 ho6 hg6 hgg6;refine Hid.out ?_)|fail)
      have hb6:=HB5.out.grown hg6 HZ5 (fun b hb=>(HV4.out b hb).1)
      have HO6:=jD ho6;have HB6:=jD hb6
      clear ho6 hg6 hgg6 hb6
      refine jD ?_
      go_wp2
      go_roundw
      case rel=>exact⟨f,a+m,n+1,_,HWL.out,by have:=HQ.out;omega,by have:=HQ.out;omega,congrArg (Value.int .i64) (by first|exact(Int.natCast_add a m).symm|exact ea.trans (Int.natCast_add a m).symm),by have:=HQ.out;omega,HST.out,HO6.out,HB6.out⟩
      case measure=>have:=HQ.out;first|(show s.size-((a:Int)+(m:Int)).toNat<s.size-((a:Int)).toNat;omega)|(rw[ea];show s.size-((a:Int)+(m:Int)).toNat<s.size-((a:Int)).toNat;omega)
     ·have HST:Hid (R=((acc++[⟨1,X,(a:Int)⟩])++(scF s f (PA s (a+m))).1,(scF s f (PA s (a+m))).2)):=jD hst
      have HWL:Hid ((acc++[(⟨1,X,(a:Int)⟩:Tk)]).length=n+1):=jD hwl
      clear hst hwl hRR hok2 hbad
      go_wp2_with (go_at_call 41;refine(KB.out _).mono ?_;rintro e w3 ⟨rfl,h⟩;subst h;refine Hid.out ?_)
      refine jD ?_
      go_wp2_with (go_at_call 42;refine(KC.out _).mono ?_;rintro e w3 ⟨rfl,h⟩;subst h;refine Hid.out ?_)
      refine jD ?_
      go_wp2_with (go_at_call 43;refine(KW.out _).mono ?_;rintro e w3 ⟨rfl,h⟩;subst h;refine Hid.out ?_)
      refine jD ?_
      go_wp2_with (go_at_call 44;refine(KX.out _).mono ?_;rintro e w3 ⟨rfl,h⟩;subst h;refine Hid.out ?_)
      refine jD ?_
      go_wp2_with (go_at_call 45;refine(KD.out _).mono ?_;rintro e w3 ⟨rfl,h⟩;subst h;refine Hid.out ?_)
      refine jD ?_
      have A1:=(Below.refl w3.heap.size w3).alloc (jrr _) (Obj.cells #[.int .i64 1,.string X,.int .i64 (a:Int)] 50)
      have O5:=jbp HO A1
      have B5:=Below.chain HB A1
      have hv4:∀ b,Value.ownBlock _=some b→w.heap.size≤b∧b<w3.heap.size:=fun b e=>jcV HO e
      have hz5:=B5.size
      have HO5:=jD O5;have HB5:=jD B5;have HV4:=jD hv4;have HZ5:=jD hz5
      have hnle:n≤1200000:=by have:=HQ.out;have:=HS.out;omega
      have HNLE:=jD hnle
      clear A1 O5 B5 hv4 hz5 HO hnle
      go_wp2_with (first|(at_builtin;refine jaZ rfl (.tmp 49) (.tmp 56) rfl w.heap.size _ n acc HN (by simp[Act.eval,Act.put]) HO5 HNLE HZ5 w3.heap.size ⟨1,X,(a:Int)⟩ (by simp[Act.eval,Act.put]) (by go_cell) (by go_cell) (by go_cell) ?_;intro g6 cap6 w6 ho6 hg6 hgg6;refine Hid.out ?_)|fail)
      have hb6:=HB5.out.grown hg6 HZ5 (fun b hb=>(HV4.out b hb).1)
      have HO6:=jD ho6;have HB6:=jD hb6
      clear ho6 hg6 hgg6 hb6
      refine jD ?_
      go_wp2
      go_roundw
      case rel=>exact⟨f,a+m,n+1,_,HWL.out,by have:=HQ.out;omega,by have:=HQ.out;omega,congrArg (Value.int .i64) (by first|exact(Int.natCast_add a m).symm|exact ea.trans (Int.natCast_add a m).symm),by have:=HQ.out;omega,HST.out,HO6.out,HB6.out⟩
      case measure=>have:=HQ.out;first|(show s.size-((a:Int)+(m:Int)).toNat<s.size-((a:Int)).toNat;omega)|(rw[ea];show s.size-((a:Int)+(m:Int)).toNat<s.size-((a:Int)).toNat;omega)
    ·rw[hbad he] at hRR
     have hG2:G=([],a,ne):=by rw[KG.out,hRR];exact if_neg he
     have tne:((ne:Int)==0)=false:=by rw[beq_eq_false_iff_ne];omega
     have tne2:((ne:Int) != 0)=true:=by rw[bne_iff_ne];omega
     have HG2:=jD hG2;have HE:=jD he
     clear hG2 he hRR hok2 hbad
     go_wp2_with (go_at_call 41;refine(KB.out _).mono ?_;rintro e w3 ⟨rfl,h⟩;subst h;refine Hid.out ?_)
     refine jD ?_
     go_wp2_with (go_at_call 42;refine(KC.out _).mono ?_;rintro e w3 ⟨rfl,h⟩;subst h;refine Hid.out ?_)
     refine jD ?_
     go_wp2_with (go_at_call 43;refine(KW.out _).mono ?_;rintro e w3 ⟨rfl,h⟩;subst h;refine Hid.out ?_)
     refine jD ?_
     go_wp2_with (go_at_call 44;refine(KX.out _).mono ?_;rintro e w3 ⟨rfl,h⟩;subst h;refine Hid.out ?_)
     refine jD ?_
     go_wp2
     refine bodyPost_ret (by simp[results,Tryz.results19,go_sem];rfl) rfl ?_
     rw[HG2.out]
     exact⟨_,rfl,World.ownsRow_nil ..,HB.out⟩
   have h3:cls (jaa s a)≠3:=fun q=>hc (.inl q)
   have h4:cls (jaa s a)≠4:=fun q=>hc (.inr q)
   obtain⟨ham,hE,hT⟩:=jh3 hlt h3 h4
   rw[jkQ hlt h3 h4] at CW
   have hXs:=jbh s ham
   have hX:=hrunk _ ham
   have hbad:=fun q=>jf9 (f:=f) hlt (q:(tokX s a).2≠0)
   have hok:=fun q=>jhy (f:=f) hlt (q:(tokX s a).2=0)
   rw[jkP,hT] at hok
   have hok2:(tokX s a).2=0→scF s (f+1) a=(⟨2,s.extract a (a+sl ((bytes s).drop a)),(a:Int)⟩::(scF s f (PA s (a+sl ((bytes s).drop a)))).1,(scF s f (PA s (a+sl ((bytes s).drop a)))).2):=fun q=>by
    have:=hok q
    rw[show (⟨2,s.extract a (a+sl ((bytes s).drop a)),(a:Int)⟩:Tk).t.size=sl ((bytes s).drop a) from hXs] at this
    exact this
   rw[hE] at hbad hok2
   clear hok hE hT hc h3 h4
   generalize sl ((bytes s).drop a)=m at *
   generalize s.extract a (a+m)=X at *
   generalize s.extract a s.size=D at *
   generalize jaa s a=b at *
   have ea:wrap64 ((a:Int)+(m:Int))=(a:Int)+(m:Int):=by unfold wrap64;omega
   have KB:=jD CB;have KC:=jD CC;have KW:=jD CW;have KS:=jD CS
   have HO:=jD ho;have HB:=jD hB;have HN:=jD hn
   by_cases hm0:m=0
   ·subst hm0
    have hbad:=hbad (by simp)
    rw[if_pos rfl] at hbad
    rw[hbad] at hRR
    have hG2:G=([],a,4):=by rw[KG.out,hRR];exact if_neg (by simp)
    have HG2:=jD hG2
    clear CB CC CW CDg CS ho hB hn h1 h2 hna hf ha hS ham hrunk hXs hlt hok2 hbad hRR hG2
    go_wp2_with (go_at_call 41;refine(KB.out _).mono ?_;rintro e w3 ⟨rfl,h⟩;subst h;refine Hid.out ?_)
    refine jD ?_
    go_wp2_with (go_at_call 42;refine(KC.out _).mono ?_;rintro e w3 ⟨rfl,h⟩;subst h;refine Hid.out ?_)
    refine jD ?_
    go_wp2_with (go_at_call 43;refine(KW.out _).mono ?_;rintro e w3 ⟨rfl,h⟩;subst h;refine Hid.out ?_)
    refine jD ?_
    go_wp2_with (go_at_call 46;refine(KS.out _).mono ?_;rintro e w3 ⟨rfl,hb3⟩;refine Hid.out ?_)
    have HB3:=jD (Below.chain HB hb3)
    clear hb3
    refine jD ?_
    go_wp2
    refine bodyPost_ret (by simp[results,Tryz.results19,go_sem];rfl) rfl ?_
    rw[HG2.out]
    exact⟨_,rfl,World.ownsRow_nil ..,HB3.out⟩
   ·have hst:R=((acc++[⟨2,X,(a:Int)⟩])++(scF s f (PA s (a+m))).1,(scF s f (PA s (a+m))).2):=by
     rw[hRR,hok2 (if_neg hm0)];simp
    have hwl:(acc++[(⟨2,X,(a:Int)⟩:Tk)]).length=n+1:=by simp[HN.out]
    have gm:decide ((0:Int)<(m:Int))=true:=by rw[decide_eq_true_iff];omega
    have gm2:decide (0<m)=true:=by rw[decide_eq_true_iff];omega
    have HQ:Hid (n≤a∧a+m≤s.size∧s.size<a+(f+1)∧0<m):=jD ⟨hna,ham,hf,by omega⟩
    have HST:=jD hst;have HWL:=jD hwl;have HM0:=jD hm0
    clear CB CC CW CDg CS ho hB hn h1 h2 hna hf ha hS ham hrunk hXs hlt hok2 hbad hRR hst hwl hm0
    go_wp2_with (go_at_call 41;refine(KB.out _).mono ?_;rintro e w3 ⟨rfl,h⟩;subst h;refine Hid.out ?_)
    refine jD ?_
    go_wp2_with (go_at_call 42;refine(KC.out _).mono ?_;rintro e w3 ⟨rfl,h⟩;subst h;refine Hid.out ?_)
    refine jD ?_
    go_wp2_with (go_at_call 43;refine(KW.out _).mono ?_;rintro e w3 ⟨rfl,h⟩;subst h;refine Hid.out ?_)
    refine jD ?_
    go_wp2_with (go_at_call 46;refine(KS.out _).mono ?_;rintro e w4 ⟨rfl,hb4⟩;refine Hid.out ?_)
    have HO:=jD (jbp HO hb4)
    have HB:=jD (Below.chain HB hb4)
    clear hb4
    refine jD ?_
    have A1:=(Below.refl w4.heap.size w4).alloc (jrr _) (Obj.cells #[.int .i64 2,.string X,.int .i64 (a:Int)] 50)
    have O5:=jbp HO A1
    have B5:=Below.chain HB A1
    have hv4:∀ b,Value.ownBlock _=some b→w.heap.size≤b∧b<w4.heap.size:=fun b e=>jcV HO e
    have hz5:=B5.size
    have HO5:=jD O5;have HB5:=jD B5;have HV4:=jD hv4;have HZ5:=jD hz5
    have hnle:n≤1200000:=by have:=HQ.out;have:=HS.out;omega
    have HNLE:=jD hnle
    clear A1 O5 B5 hv4 hz5 HO hnle
    go_wp2_with (first|(at_builtin;refine jaZ rfl (.tmp 65) (.tmp 71) rfl w.heap.size _ n acc HN (by simp[Act.eval,Act.put]) HO5 HNLE HZ5 w4.heap.size ⟨2,X,(a:Int)⟩ (by simp[Act.eval,Act.put]) (by go_cell) (by go_cell) (by go_cell) ?_;intro g6 cap6 w6 ho6 hg6 hgg6;refine Hid.out ?_)|fail)
    have hb6:=HB5.out.grown hg6 HZ5 (fun b hb=>(HV4.out b hb).1)
    have HO6:=jD ho6;have HB6:=jD hb6
    clear ho6 hg6 hgg6 hb6
    refine jD ?_
    go_wp2
    go_roundw
    case rel=>exact⟨f,a+m,n+1,_,HWL.out,by have:=HQ.out;omega,by have:=HQ.out;omega,congrArg (Value.int .i64) (by first|exact(Int.natCast_add a m).symm|exact ea.trans (Int.natCast_add a m).symm),by have:=HQ.out;omega,HST.out,HO6.out,HB6.out⟩
    case measure=>have:=HQ.out;first|(show s.size-((a:Int)+(m:Int)).toNat<s.size-((a:Int)).toNat;omega)|(rw[ea];show s.size-((a:Int)+(m:Int)).toNat<s.size-((a:Int)).toNat;omega)
  ·obtain rfl:a=s.size:=by omega
   rw[jlD (jrr _),jgC (jrr _)] at hRR
   have hG2:G=(acc++[(⟨3,⟨#[]⟩,(s.size:Int)⟩:Tk)],0,0):=by rw[KG.out,hRR];exact if_pos rfl
   have HG2:=jD hG2;clear hG2
   have hge:¬ ((s.size:Nat):Int)<(s.size:Int):=by omega
   have A1:=(Below.refl wr.heap.size wr).alloc (jrr _) (Obj.cells #[.int .i64 3,.string ⟨#[]⟩,.int .i64 (s.size:Int)] 50)
   have O5:=jbp ho A1
   have B5:=Below.chain hB A1
   have hv4:∀ b,Value.ownBlock _=some b→w.heap.size≤b∧b<wr.heap.size:=fun b e=>jcV ho e
   have hnle:n≤1200000:=by omega
   have hz5:=B5.size
   have HO5:=jD O5;have HB5:=jD B5;have HV4:=jD hv4;have HNLE:=jD hnle;have HZ5:=jD hz5;have HN:=jD hn
   have hfin:(acc++[(⟨3,⟨#[]⟩,(s.size:Int)⟩:Tk)]).length=n+1:=by simp[hn]
   have HF:=jD hfin
   clear A1 O5 B5 hv4 hnle hz5 ho hB hn hna ha hf hS hfin hlt HR hRR
   go_wp2_with (first|(at_builtin;refine jaZ rfl (.tmp 77) (.tmp 81) rfl w.heap.size _ n acc HN (by simp[Act.eval,Act.put]) HO5 HNLE HZ5 wr.heap.size ⟨3,⟨#[]⟩,(s.size:Int)⟩ (by simp[Act.eval,Act.put]) (by go_cell) (by go_cell) (by go_cell) ?_;intro g6 cap6 w6 ho6 hg6 hgg6;refine Hid.out ?_)|fail)
   have hb6:=HB5.out.grown hg6 HZ5 (fun b hb=>(HV4.out b hb).1)
   have HO6:=jD ho6;have HB6:=jD hb6
   clear ho6 hg6 hgg6 hb6
   refine jD ?_
   go_wp2
   refine bodyPost_ret (by simp[results,Tryz.results19,go_sem];rfl) rfl ?_
   rw[HG2.out]
   refine⟨_,rfl,?_,HB6.out⟩
   show w6.ownsRow _ _ _ _ (acc++[(⟨3,⟨#[]⟩,(s.size:Int)⟩:Tk)]).length _
   rw[HF.out]
   exact HO6
end Go.Proofs.YtenmmmdnpglkoaaGreatDoor
