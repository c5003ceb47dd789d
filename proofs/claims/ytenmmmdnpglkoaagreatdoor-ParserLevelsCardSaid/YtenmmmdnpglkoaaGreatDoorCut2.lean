import Derived.Test.YtenmmmdnpglkoaaGreatDoorCut1
import Derived.Test.YtenmmmdnpglkoaaGreatDoorShelfP
import Derived.Lib.AppendIntMem
set_option linter.unusedSimpArgs false
set_option linter.unusedVariables false
set_option maxRecDepth 100000
set_option maxHeartbeats 8000000
/-
  Integers and their notations.
-/
namespace Go.Proofs.YtenmmmdnpglkoaaGreatDoor
open Go Go.Proofs
end Go.Proofs.YtenmmmdnpglkoaaGreatDoor

namespace Go.Proofs.YtenmmmdnpglkoaaGreatDoor
open Go Go.Proofs Go.RowKit
def str (l:List UInt8):ByteArray:=⟨l.toArray⟩
theorem jcJ (l:List UInt8):bytes (str l)=l:=by simp[bytes,str]
theorem jdu (s:ByteArray):str (bytes s)=s:=by simp[bytes,str]
theorem jen (l:List UInt8):(str l).size=l.length:=by simp[str,ByteArray.size]
def jaH:List Int:=[0,0,0,0,0,0,0,0,0,1,1,0,0,1,0,0,0,0,0,0,0,0,0,0,0,0,0,0,0,0,0,0,1,0,0,2,0,5,0,0,5,5,5,5,5,5,5,5,4,4,4,4,4,4,4,4,4,4,5,5,5,5,5,0,0,3,3,3,3,3,3,3,3,3,3,3,3,3,3,3,3,3,3,3,3,3,3,3,3,3,3,5,0,5,0,0,0,3,3,3,3,3,3,3,3,3,3,3,3,3,3,3,3,3,3,3,3,3,3,3,3,3,3,5,0,5,0,0]
theorem jdv:jaH.length=128:=by decide +kernel
def cls (n:Nat):Nat:=(jaH.getD n 0).toNat
theorem jk9 {n:Nat} (h:128≤n):cls n=0:=by
 unfold cls
 rw[List.getD_eq_getElem?_getD,List.getElem?_eq_none (by rw[jdv];exact h)];rfl
theorem jkA:∀ n,n<128→jaH.getD n 0=((cls n:Nat):Int):=by decide +kernel
theorem jiz:Tryz.prog.globalNamed "surveyor/lexer.classes" = some 1:=by kernel_rfl
theorem jbY (n:Nat) (hn:n<256) (w:World) (ht:Lib.TabIs Tryz.prog w "surveyor/lexer.classes" .u8 jaH) :
  Calls Tryz.prog 93 #[.int .u8 (n:Int)] w fun e w'=>e = .returned (.int .u8 (cls n:Nat))∧w'=w:=by
 by_cases h:n<128
 ·have hc:=ht.cell jiz n (by rw[jdv];exact h)
  rw[jkA n h] at hc
  have h1:¬ (128:Int)≤(n:Int):=by omega
  have h2:(0:Int)≤(n:Int):=by omega
  have h3:(n:Int)<128:=by omega
  clear ht
  go_enter Tryz.func93,Tryz.ntmps93
  go_wp2
  refine bodyPost_ret (by simp[results,Tryz.results93,go_sem];rfl) rfl ?_
  exact⟨rfl,rfl⟩
 ·have e:=jk9 (n:=n) (by omega)
  rw[e]
  have h1:(128:Int)≤(n:Int):=by omega
  clear ht
  go_enter Tryz.func93,Tryz.ntmps93
  go_wp2
  refine bodyPost_ret (by simp[results,Tryz.results93,go_sem];rfl) rfl ?_
  exact⟨rfl,rfl⟩
def wdB (n:Nat):Bool:=decide (cls n=3) || decide (cls n=4)
def wl (l:List UInt8):Nat:=(l.takeWhile fun c=>wdB c.toNat).length
theorem jbc (s:ByteArray) (k:Nat):jaa s k<256:=by unfold jaa;exact UInt8.toNat_lt _
theorem jhQ (l:List UInt8):wl l≤l.length:=by unfold wl;exact(List.takeWhile_sublist _).length_le
theorem jkB:∀ (l:List UInt8) (j:Nat),j<wl l→wdB (l.getD j 0).toNat=true
 | [],j,h=>by simp[wl] at h
 |c::l,j,h=>by
  unfold wl at h
  rw[List.takeWhile_cons] at h
  split at h
  ·rename_i hc
   cases j with
   |zero=>exact hc
   |succ j=>exact jkB l j (by simpa [wl] using h)
  ·simp at h
theorem ji0:∀ (l:List UInt8),wl l<l.length→wdB (l.getD (wl l) 0).toNat=false
 | [],h=>by simp at h
 |c::l,h=>by
  unfold wl at h ⊢
  rw[List.takeWhile_cons] at h ⊢
  split at h
  ·rename_i hc
   rw[if_pos hc]
   exact ji0 l (by simpa [wl] using h)
  ·rename_i hc
   rw[if_neg hc]
   simpa using hc
theorem jdd (s:ByteArray) (hs:s.size≤9223372036854775807) (w:World) (ht:Lib.TabIs Tryz.prog w "surveyor/lexer.classes" .u8 jaH) :
  Calls Tryz.prog 95 #[.string s] w fun e w'=>e = .returned (.int .i64 (wl (bytes s):Nat))∧w'=w:=by
 have CC:∀ n:Nat,n<256→Calls Tryz.prog 93 #[.int .u8 (n:Int)] w fun e w'=>e = .returned (.int .u8 (cls n:Nat))∧w'=w:=fun n hn=>jbY n hn w ht
 have hle:=jhQ (bytes s)
 rw[jan] at hle
 have hin:∀ j,j<wl (bytes s)→wdB (jaa s j)=true:=fun j hj=>jkB (bytes s) j hj
 have hend:wl (bytes s)<s.size→wdB (jaa s (wl (bytes s)))=false:=fun h=>ji0 (bytes s) (by rw[jan];exact h)
 generalize wl (bytes s)=n at *
 have KC:=jD CC;have HIN:=jD hin;have HEND:=jD hend
 clear CC hin hend ht
 go_enter Tryz.func95,Tryz.ntmps95
 go_wp2_with fail
 go_loopw [3] (fun iv wr=>∃ j:Nat,j≤n∧iv = .int .i64 (j:Int)∧wr=w) (fun iv _=>n-(intOf iv).toNat)
 case atStart=>exact⟨0,Nat.zero_le _,rfl,rfl⟩
 case round=>
  obtain⟨j,hj,rfl,hw⟩:=hrel
  subst hw
  by_cases hlt:j<s.size
  ·have hb:=ja7 s j hlt
   have hq:=KC.out (jaa s j) (jbc s j)
   have hj0:(0:Int)≤(j:Int):=by omega
   have hj1:(j:Int)<(s.size:Int):=by omega
   by_cases hjn:j<n
   ·have hwd:=HIN.out j hjn
    unfold wdB at hwd
    rw[Bool.or_eq_true,decide_eq_true_eq,decide_eq_true_eq] at hwd
    generalize jaa s j=b at *
    rcases hwd with h3|h3<;>rw[h3] at hq<;>have KQ:=jD hq<;>clear hq h3
    ·go_wp2_with (go_at_call 93;refine KQ.out.mono ?_;rintro e w3 ⟨rfl,h⟩;subst h;refine Hid.out ?_)
     refine jD ?_
     go_wp2
     go_roundw
     case rel=>exact⟨j+1,by omega,by go_num,by trivial⟩
     case measure=>simp[intOf];omega
    ·go_wp2_with (go_at_call 93;refine KQ.out.mono ?_;rintro e w3 ⟨rfl,h⟩;subst h;refine Hid.out ?_)
     refine jD ?_
     go_wp2_with (go_at_call 93;refine KQ.out.mono ?_;rintro e w3 ⟨rfl,h⟩;subst h;refine Hid.out ?_)
     refine jD ?_
     go_wp2
     go_roundw
     case rel=>exact⟨j+1,by omega,by go_num,by trivial⟩
     case measure=>simp[intOf];omega
   ·obtain rfl:j=n:=by omega
    have hwd:=HEND.out hlt
    unfold wdB at hwd
    rw[Bool.or_eq_false_iff,decide_eq_false_iff_not,decide_eq_false_iff_not] at hwd
    generalize jaa s j=b at *
    generalize cls b=q at *
    have n3:((q:Int)==3)=false:=by rw[beq_eq_false_iff_ne];omega
    have n4:((q:Int)==4)=false:=by rw[beq_eq_false_iff_ne];omega
    have KQ:=jD hq
    clear hq hwd
    go_wp2_with (go_at_call 93;refine KQ.out.mono ?_;rintro e w3 ⟨rfl,h⟩;subst h;refine Hid.out ?_)
    refine jD ?_
    go_wp2_with (go_at_call 93;refine KQ.out.mono ?_;rintro e w3 ⟨rfl,h⟩;subst h;refine Hid.out ?_)
    refine jD ?_
    go_wp2
    go_ret
    exact⟨rfl,rfl⟩
  ·obtain rfl:j=n:=by omega
   have hge:¬ (j:Int)<(s.size:Int):=by omega
   go_wp2
   go_ret
   exact⟨rfl,rfl⟩
def lsB (l:List UInt8):Bool:=l==[58,61] || l==[33,61] || l==[60,61] || l==[62,61]
theorem jeV (s:ByteArray) (w:World):Calls Tryz.prog 127 #[.string s] w fun e w'=>e = .returned (.bool (lsB (bytes s)))∧w'=w:=by
 have hcase:lsB (bytes s)=((s.toList==[58,61]) || (s.toList==[33,61]) || (s.toList==[60,61]) || (s.toList==[62,61])):=by
  unfold lsB bytes
  rw[Lib.toList_data]
 rw[hcase]
 clear hcase
 cases h1:(s.toList==[58,61])<;>cases h2:(s.toList==[33,61])<;>cases h3:(s.toList==[60,61])<;>cases h4:(s.toList==[62,61])
 all_goals
  go_enter Tryz.func127,Tryz.ntmps127
  go_wp2
  go_ret
  exact⟨rfl,rfl⟩
end Go.Proofs.YtenmmmdnpglkoaaGreatDoor
