import Derived.Lib.Bytealg
import Derived.Test.YtenmmmdnpglkoaaGreatDoorCut2
set_option linter.unusedSimpArgs false
set_option linter.unusedVariables false
set_option maxRecDepth 100000
set_option maxHeartbeats 8000000
/-
 Rational numbers: their notation.
-/
namespace Go.Proofs.YtenmmmdnpglkoaaGreatDoor
open Go Go.Proofs
theorem je0 (l:List UInt8) (c:UInt8):(Lib.indexByte l c = -1∧c∉l)∨(∃ i:Nat,Lib.indexByte l c=i∧i<l.length∧l=l.take i++c::l.drop (i+1)∧c∉l.take i):=by
 induction l with
 |nil=>left;exact⟨rfl,by simp⟩
 |cons b t ih=>
  by_cases hb:b=c
  ·right
   refine⟨0,?_,by simp,by simp[hb],by simp⟩
   unfold Lib.indexByte
   simp[hb]
  ·have h1:(b==c)=false:=by rw[beq_eq_false_iff_ne];exact hb
   rcases ih with ⟨h,hm⟩|⟨i,h,hi,he,hm⟩
   ·left
    refine⟨?_,?_⟩
    ·unfold Lib.indexByte;rw[h1,h];rfl
    ·intro k;rcases List.mem_cons.1 k with k|k
     ·exact hb k.symm
     ·exact hm k
   ·right
    refine⟨i+1,?_,by simp;omega,?_,?_⟩
    ·unfold Lib.indexByte
     rw[h1,h]
     have h2:((i:Int) == -1)=false:=by rw[beq_eq_false_iff_ne];omega
     rw[h2];simp
    ·rw[List.take_succ_cons,List.drop_succ_cons,List.cons_append,←he]
    ·rw[List.take_succ_cons]
     intro k;rcases List.mem_cons.1 k with k|k
     ·exact hb k.symm
     ·exact hm k
end Go.Proofs.YtenmmmdnpglkoaaGreatDoor
