import Derived.Lib.Hide
import Derived.Test.YtenmmmdnpglkoaaGreatDoorProg
import Derived.Lib.ItoaNum
import Derived.Tactics
import Derived.Tactics2
import Derived.WalkKit
import Derived.WalkLawsBesides
import Derived.Deep.QuietTactic
import Derived.BigQuiet
import Derived.Handy
import Derived.Outline
import Derived.KernelRfl
import Derived.Lib.Strings
set_option linter.unusedSimpArgs false
set_option linter.unusedVariables false
set_option maxRecDepth 100000
set_option maxHeartbeats 8000000
namespace Go.Proofs.YtenmmmdnpglkoaaGreatDoor
open Go Go.Proofs Go.RowKit
theorem jD {p:Prop} (h:p):Hid p:=Lib.hid h
abbrev jZ:Obj:=Obj.cells #[.int .i64 0,.int .i64 0,.string ⟨#[]⟩,.int .i64 0,.slice none 0 0] 25
abbrev jO (k a:Int)(t:ByteArray)(n:Int)(o:Option Addr)(l c:Nat):Obj:=Obj.cells #[.int .i64 k,.int .i64 a,.string t,.int .i64 n,.slice o l c] 25
abbrev oD (k a:Int)(t:ByteArray)(n:Int)(o:Option Addr)(l c:Nat)(k' a':Int)(t':ByteArray)(n':Int)(o':Option Addr)(l' c':Nat):Obj:=Obj.cells #[.int .i64 k,.int .i64 a,.string t,.int .i64 n,.slice o l c,.int .i64 k',.int .i64 a',.string t',.int .i64 n',.slice o' l' c'] 25
abbrev jU (k:Int)(t:ByteArray)(a:Int):Obj:=Obj.cells #[.int .i64 k,.string t,.int .i64 a] 50
abbrev jP (W:World)(p:Nat)(a b c d e:Value):Prop:=W.cell? ⟨p,0,none⟩=some a∧W.cell? ⟨p,1,none⟩=some b∧W.cell? ⟨p,2,none⟩=some c∧W.cell? ⟨p,3,none⟩=some d∧W.cell? ⟨p,4,none⟩=some e
abbrev jPc (W:World)(p:Nat)(a b c d e:Value)(Q:Prop):Prop:=W.cell? ⟨p,0,none⟩=some a∧W.cell? ⟨p,1,none⟩=some b∧W.cell? ⟨p,2,none⟩=some c∧W.cell? ⟨p,3,none⟩=some d∧W.cell? ⟨p,4,none⟩=some e∧Q
abbrev jQ (W:World)(p:Nat)(a b c:Value):Prop:=W.cell? ⟨p,0,none⟩=some a∧W.cell? ⟨p,1,none⟩=some b∧W.cell? ⟨p,2,none⟩=some c
abbrev jQc (W:World)(p:Nat)(a b c:Value)(Q:Prop):Prop:=W.cell? ⟨p,0,none⟩=some a∧W.cell? ⟨p,1,none⟩=some b∧W.cell? ⟨p,2,none⟩=some c∧Q
theorem jrr (n:Nat):n≤n:=Nat.le_refl n
theorem lA {α} (l:List α)(i:Nat)(a:α):l.toArray.setIfInBounds i a=(l.set i a).toArray:=List.setIfInBounds_toArray ..
theorem lB {α} (x:α)(l:List α)(a:α):(x::l).set 0 a=a::l:=rfl
theorem lC {α} (x:α)(l:List α)(n:Nat)(a:α):(x::l).set (n+1) a=x::l.set n a:=rfl
theorem nR {R n:Nat} (h:R<n):Hid (n≠R):=fun e=>absurd h (by rw[e];exact Nat.lt_irrefl _)
theorem cM {P:Program}{f:FuncId}{a:Array Value}{w:World}{Q K:Ending→World→Prop} (h:Calls P f a w Q)(k:∀ e w',Q e w'→Hid (K e w')):Calls P f a w K:=h.mono k
end Go.Proofs.YtenmmmdnpglkoaaGreatDoor

namespace Go.Proofs.YtenmmmdnpglkoaaGreatDoor
def Small (l:List Nat):Prop:=∀ x∈l,x<1000000000
theorem Small.tail {x:Nat} {xs:List Nat} (h:Small (x::xs)):Small xs:=fun y hy=>h y (List.mem_cons_of_mem _ hy)
theorem Small.nil:Small []:=fun _ h=>by cases h
theorem Small.cons {x:Nat} {xs:List Nat} (hx:x<1000000000) (h:Small xs):Small (x::xs):=by
 intro y hy;rcases List.mem_cons.1 hy with rfl|hy
 ·exact hx
 ·exact h y hy
theorem Small.append {a b:List Nat} (ha:Small a) (hb:Small b):Small (a++b):=by
 intro y hy;rcases List.mem_append.1 hy with hy|hy
 ·exact ha y hy
 ·exact hb y hy
theorem Small.take {l:List Nat} (h:Small l) (i:Nat):Small (l.take i):=fun y hy=>h y (List.mem_of_mem_take hy)
theorem Small.drop {l:List Nat} (h:Small l) (i:Nat):Small (l.drop i):=fun y hy=>h y (List.mem_of_mem_drop hy)
theorem Small.get {l:List Nat} (h:Small l) (i:Nat) (hi:i<l.length):l[i]<1000000000:=h _ (List.getElem_mem hi)
theorem Small.set {l:List Nat} (h:Small l) (i v:Nat) (hv:v<1000000000):Small (l.set i v):=by
 intro y hy
 rcases List.mem_or_eq_of_mem_set hy with hy|rfl
 ·exact h y hy
 ·exact hv
theorem Small.replicate (n:Nat):Small (List.replicate n 0):=by
 intro y hy
 rw[List.eq_of_mem_replicate hy];decide
theorem jkS (l:List Nat) (k:Nat) (h:k<l.length):l.getD k 0=l[k]:=by simp[List.getD_eq_getElem?_getD,h]
theorem jkT (l:List Nat) (k:Nat) (h:l.length≤k):l.getD k 0=0:=by simp[List.getD_eq_getElem?_getD,h]
theorem Small.getD {l:List Nat} (h:Small l) (k:Nat):l.getD k 0<1000000000:=by
 by_cases hk:k<l.length
 ·rw[jkS l k hk];exact h.get k hk
 ·rw[jkT l k (by omega)];decide
def jkU (n:Nat):List Nat:=if h:n=0 then [] else n % 1000000000::jkU (n / 1000000000)
termination_by n
decreasing_by omega
end Go.Proofs.YtenmmmdnpglkoaaGreatDoor

namespace Go.Proofs.YtenmmmdnpglkoaaGreatDoor
open Go
def jm4 (c:UInt8):Bool:=48≤c.toNat && c.toNat≤57
def AllDig (l:List UInt8):Prop:=∀ c∈l,jm4 c=true
theorem AllDig.append {a b:List UInt8} (ha:AllDig a) (hb:AllDig b):AllDig (a++b):=by
 intro y hy;rcases List.mem_append.1 hy with hy|hy
 ·exact ha y hy
 ·exact hb y hy
theorem AllDig.take {l:List UInt8} (h:AllDig l) (i:Nat):AllDig (l.take i):=fun y hy=>h y (List.mem_of_mem_take hy)
theorem AllDig.drop {l:List UInt8} (h:AllDig l) (i:Nat):AllDig (l.drop i):=fun y hy=>h y (List.mem_of_mem_drop hy)
end Go.Proofs.YtenmmmdnpglkoaaGreatDoor

namespace Go.Proofs.YtenmmmdnpglkoaaGreatDoor
open Go Go.Proofs Go.RowKit
def RowAt (w:World) (ao:Option Addr) (c:Nat) (l:List Nat):Prop:=
 l.length≤c∧c≤9223372036854775807∧((l=[]∧(ao=none→c=0))∨∃ b off,ao=some ⟨b,off,none⟩∧b<w.heap.size∧∀ k,k<l.length→w.cell? ⟨b,off+k,none⟩=some (.int .u32 (l.getD k 0:Nat)))
def NumAt (w:World) (v:Value) (x:Nat):Prop:=∃ ao c,v = .agg #[.slice ao (jkU x).length c]∧RowAt w ao c (jkU x)
theorem RowAt.mono {w w':World} {ao:Option Addr} {c:Nat} {l:List Nat} (h:RowAt w ao c l) (hb:Below w.heap.size w w'):RowAt w' ao c l:=by
 obtain⟨h1,h2,h3⟩:=h
 refine⟨h1,h2,?_⟩
 rcases h3 with h3|⟨b,off,he,hlt,hc⟩
 ·exact .inl h3
 ·refine .inr ⟨b,off,he,Nat.lt_of_lt_of_le hlt hb.size,fun k hk=>?_⟩
  rw[hb.cell (p:=⟨b,off+k,none⟩) hlt];exact hc k hk
theorem NumAt.mono {w w':World} {v:Value} {x:Nat} (h:NumAt w v x) (hb:Below w.heap.size w w'):NumAt w' v x:=by
 obtain⟨ao,c,he,hr⟩:=h
 exact⟨ao,c,he,hr.mono hb⟩
theorem Below.chain {a b c:World} (h:Below a.heap.size a b) (k:Below b.heap.size b c):Below a.heap.size a c:=
 h.trans (k.mono h.size)
theorem jhv {a b:Bool} (h:a=b):Ending.returned (.bool a) = .returned (.bool b):=by rw[h]
theorem RowAt.open {w:World} {ao:Option Addr} {c:Nat} {l:List Nat} (h:RowAt w ao c l) (hs:Small l) :
  ∃ d:Nat→Int,(∀ k,k<l.length→d k=(l.getD k 0:Nat))∧(∀ k,0≤d k∧d k<1000000000) ∧
   (l=[]∨∃ b off,ao=some ⟨b,off,none⟩∧b<w.heap.size∧∀ k,k<l.length→w.cell? ⟨b,off+k,none⟩=some (.int .u32 (d k))):=by
 refine⟨fun k=>(l.getD k 0:Nat),fun k _=>rfl,fun k=>⟨Int.natCast_nonneg _,?_⟩,h.2.2.imp (fun h=>h.1) id⟩
 have:=hs.getD k
 show ((l.getD k 0:Nat):Int)<1000000000
 omega
theorem jbJ {w:World} {a:Addr} {u:Value} (h:w.cell? a=some u) (v:Value):(w.setCell a v).cell? a=some v:=
 World.cell?_setCell_same' _ _ _ (by rw[h];rfl)
structure Two (w W:World) (v1 v2:Value):Prop where
 size:W.heap.size=w.heap.size+2
 c1:W.cell? ⟨w.heap.size,0,none⟩=some v1
 c2:W.cell? ⟨w.heap.size+1,0,none⟩=some v2
 f1:W.frozen? ⟨w.heap.size,0,none⟩=false
 f2:W.frozen? ⟨w.heap.size+1,0,none⟩=false
 below:Below w.heap.size w W
def bytes (s:ByteArray):List UInt8:=s.data.toList
theorem jan (s:ByteArray):(bytes s).length=s.size:=rfl
def jaa (s:ByteArray) (k:Nat):Nat:=((bytes s).getD k 0).toNat
theorem ja7 (s:ByteArray):∀ (k:Nat) (h:k<s.size),((s[k]'h).toNat:Int)=(jaa s k:Int):=fun k h=>by
 unfold jaa
 rw[List.getD_eq_getElem?_getD,List.getElem?_eq_getElem (by rw[jan];exact h)]
 rfl
end Go.Proofs.YtenmmmdnpglkoaaGreatDoor
