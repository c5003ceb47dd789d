import Derived.Test.YtenmmmdnpglkoaaGreatDoorCut37
set_option linter.unusedSimpArgs false
set_option linter.unusedVariables false
set_option maxRecDepth 100000
set_option maxHeartbeats 8000000
/-
 parser: what is read of a list whose end is not reached, for all that is read.
-/
namespace Go.Proofs.YtenmmmdnpglkoaaGreatDoor
open Go Go.Proofs Go.RowKit
theorem Less.lvl {d:Nat}:∀ (f i:Nat),Less f (jal (.lvl i) d)
 |0,i=>fun l x l' h e=>by unfold jal at e;rw[jaf] at e;cases e
 |f+1,i=>fun l x l' h e=>by
  have ih:∀ i,Less f (jal (.lvl i) d):=fun i=>Less.lvl f i
  unfold jal at e
  rw[jaf] at e
  have M:=fun w d l x l' (e:jaf f w d l = .ok (x,l'))=>jbl f w d l x l' e
  have ht:=jer h
  split at e
  ·split at e
   ·split at e
    ·cases e
    ·obtain⟨⟨y,l1⟩,e1,e2⟩:=jar e
     cases e2
     have:=M _ _ _ _ _ e1
     omega
   ·exact ih _ l x l' h e
  ·split at e
   ·obtain⟨⟨y,l1⟩,e1,e2⟩:=jar e
    have g1:=ih _ l y l1 h e1
    dsimp only at e2
    split at e2
    ·obtain⟨⟨z,l2⟩,e3,e4⟩:=jar e2
     have:=M _ _ _ _ _ e3
     have:=jat l1
     have hh:l2.length<l.length:=by omega
     cases e4
     exact hh
    ·cases e2;exact g1
   ·split at e
    ·split at e
     ·cases e;exact ht
     ·split at e
      ·cases e;exact ht
      ·split at e
       ·split at e
        ·cases e
        ·obtain⟨⟨y,l1⟩,e1,e2⟩:=jar e
         obtain⟨l2,e3,e4⟩:=jar e2
         have:=M _ _ _ _ _ e1
         have:l2.length≤l1.length:=by
          unfold jaQ at e3
          split at e3
          ·cases e3;exact jat _
          ·cases e3
         have hh:l2.length<l.length:=by omega
         cases e4
         exact hh
       ·cases f with
        |zero=>rw[jaf] at e;cases e
        |succ f=>
         rw[jaf] at e
         obtain⟨⟨t,l0⟩,e3,e4⟩:=jar e
         have g0:=Less.name (f:=f) l t l0 h e3
         dsimp only at e4
         split at e4
         ·obtain⟨⟨z,l2⟩,e5,e6⟩:=jar e4
          cases e6
          have:=jbl f .bare d _ _ _ e5
          have:=jat l0
          show l2.length<l.length
          omega
         ·cases e4;exact g0
    ·obtain⟨⟨y,l1⟩,e1,e2⟩:=jar e
     have g1:=ih _ l y l1 h e1
     have:=M _ _ _ _ _ e2
     omega
def mOpI (i:Nat):Rd Bool:=fun _ l=>.ok (pOp i l,l)
theorem Prf.op {f i:Nat}:Prf f (mOpI i):=Prf.look (fun t=>(pOps i).contains (bytes t.t)) fun _=>rfl
theorem Suf.op {f i:Nat}:Suf f (mOpI i):=by intro l y l' e;cases e;exact List.suffix_refl _
def jds (d:Nat):Rd Tk:=fun _ l=>if d=64 then .error ((pHd l).a,12) else .ok (pHd l,pTl l)
theorem Prf.deep {f d:Nat}:Prf f (jds d):=Prf.test (fun t=>if d=64 then .error (t.a,12) else .ok t) fun l=>by
 unfold jds
 split<;>simp[*]
theorem Suf.deep {f d:Nat}:Suf f (jds d):=by
 intro l y l' e
 unfold jds at e
 split at e
 ·cases e
 ·cases e;exact jcR _
def mLvl (i d:Nat):Rd (List Syn):=
 if i=2∨i=6 then jae (mOpI i) fun b=>if b=true then jae (jds d) fun t=>jae (jal (.lvl i) (d+1)) fun x=>mRet [.mk 21 t.a t.t 0 x] else jal (.lvl (i+1)) d
 else if i=3 then jae jbm fun p=>jae (jal (.lvl 4) d) fun x=>jae jbm fun q=>jae (mOpI 3) fun b=>if b=true then jae jbg fun _=>jae (jal (.lvl 4) d) fun y=>mRet [.mk 22 p.a q.t 0 (x++y)] else mRet x
 else if 7≤i then jae jbm fun p=>if p.k=1 then jae jbg fun t=>mRet [jdB 20 p] else jae (mIs jc6) fun b1=>jae (mIs jbH) fun b2=>if b1=true∨b2=true then jae jbg fun _=>mRet [jdB 23 p] else jae (mIs [40]) fun b=>if b=true then jae (jds d) fun _=>jae (jal (.lvl 0) (d+1)) fun x=>jae (jaA [41]) fun _=>mRet x else jal .place d
 else jae jbm fun p=>jae (jal (.lvl (i+1)) d) fun x=>jal (.rep i p.a x) d
def jgp (i:Nat) (a:Int) (x:List Syn) (d:Nat):Rd (List Syn):=jae jbm fun p=>jae (mOpI i) fun b=>if b=true then jae jbg fun _=>jae (jal (.lvl (i+1)) d) fun y=>jal (.rep i a [.mk 22 a p.t 0 (x++y)]) d else mRet x
def jdZ:Rd (List Syn):=jae jbd fun t=>mRet [jdB 19 t]
def jcO (d:Nat):Rd (List Syn):=jae jbd fun t=>jae (mIs [46]) fun b=>if b=true then jae jbg fun _=>jae (jal .bare d) fun x=>mRet [.mk 18 t.a t.t 0 x] else mRet [jdB 18 t]
def jcP (d:Nat):Rd (List Syn):=jae jbd fun t=>jae (mIs [58]) fun b=>if b=true then jae jbg fun _=>jae (jal .bare d) fun x=>mRet [.mk 4 t.a t.t 0 x] else mRet [jdB 4 t]
def jea (w:Want) (d:Nat):Rd (List Syn):=jae (jal w d) fun x=>jae (mIs [44]) fun b=>if b=true then jae jbg fun _=>jae (jal (.list w) d) fun y=>mRet (x++y) else mRet x
theorem jiW {i d:Nat} {a:Int} {x:List Syn} {w:Want} (f:Nat) (l:List Tk):jaf (f+1) (.lvl i) d l=mLvl i d f l:=by
 rw[jaf]
 simp only[mLvl,jgp,jdZ,jcO,jcP,jea,jds,mOpI,jae,mRet,jbd,jaA,jal,jbm,jbg,jaF,mIs,jbe,jbV,jaB,mNum,jaQ,jaj,jak,jab,jai,pure,Except.pure,jbX]
 repeat' (first|rfl|contradiction|(split<;>try (simp only[*,jaj,jak,jab,jai,if_true,if_false,Bool.false_eq_true]))|(refine ja8 ?_;rintro⟨_,_⟩;try simp only[jaj,jak,jab,jai]))
theorem jiX {i d:Nat} {a:Int} {x:List Syn} {w:Want} (f:Nat) (l:List Tk):jaf (f+1) (.rep i a x) d l=jgp i a x d f l:=by
 rw[jaf]
 simp only[mLvl,jgp,jdZ,jcO,jcP,jea,jds,mOpI,jae,mRet,jbd,jaA,jal,jbm,jbg,jaF,mIs,jbe,jbV,jaB,mNum,jaQ,jaj,jak,jab,jai,pure,Except.pure,jbX]
 repeat' (first|rfl|contradiction|(split<;>try (simp only[*,jaj,jak,jab,jai,if_true,if_false,Bool.false_eq_true]))|(refine ja8 ?_;rintro⟨_,_⟩;try simp only[jaj,jak,jab,jai]))
theorem jhB {i d:Nat} {a:Int} {x:List Syn} {w:Want} (f:Nat) (l:List Tk):jaf (f+1) (.bare) d l=jdZ f l:=by
 rw[jaf]
 simp only[mLvl,jgp,jdZ,jcO,jcP,jea,jds,mOpI,jae,mRet,jbd,jaA,jal,jbm,jbg,jaF,mIs,jbe,jbV,jaB,mNum,jaQ,jaj,jak,jab,jai,pure,Except.pure,jbX]
 repeat' (first|rfl|contradiction|(split<;>try (simp only[*,jaj,jak,jab,jai,if_true,if_false,Bool.false_eq_true]))|(refine ja8 ?_;rintro⟨_,_⟩;try simp only[jaj,jak,jab,jai]))
theorem jgq {i d:Nat} {a:Int} {x:List Syn} {w:Want} (f:Nat) (l:List Tk):jaf (f+1) (.place) d l=jcO d f l:=by
 rw[jaf]
 simp only[mLvl,jgp,jdZ,jcO,jcP,jea,jds,mOpI,jae,mRet,jbd,jaA,jal,jbm,jbg,jaF,mIs,jbe,jbV,jaB,mNum,jaQ,jaj,jak,jab,jai,pure,Except.pure,jbX]
 repeat' (first|rfl|contradiction|(split<;>try (simp only[*,jaj,jak,jab,jai,if_true,if_false,Bool.false_eq_true]))|(refine ja8 ?_;rintro⟨_,_⟩;try simp only[jaj,jak,jab,jai]))
theorem jgr {i d:Nat} {a:Int} {x:List Syn} {w:Want} (f:Nat) (l:List Tk):jaf (f+1) (.param) d l=jcP d f l:=by
 rw[jaf]
 simp only[mLvl,jgp,jdZ,jcO,jcP,jea,jds,mOpI,jae,mRet,jbd,jaA,jal,jbm,jbg,jaF,mIs,jbe,jbV,jaB,mNum,jaQ,jaj,jak,jab,jai,pure,Except.pure,jbX]
 repeat' (first|rfl|contradiction|(split<;>try (simp only[*,jaj,jak,jab,jai,if_true,if_false,Bool.false_eq_true]))|(refine ja8 ?_;rintro⟨_,_⟩;try simp only[jaj,jak,jab,jai]))
theorem jhC {i d:Nat} {a:Int} {x:List Syn} {w:Want} (f:Nat) (l:List Tk):jaf (f+1) (.list w) d l=jea w d f l:=by
 rw[jaf]
 simp only[mLvl,jgp,jdZ,jcO,jcP,jea,jds,mOpI,jae,mRet,jbd,jaA,jal,jbm,jbg,jaF,mIs,jbe,jbV,jaB,mNum,jaQ,jaj,jak,jab,jai,pure,Except.pure,jbX]
 repeat' (first|rfl|contradiction|(split<;>try (simp only[*,jaj,jak,jab,jai,if_true,if_false,Bool.false_eq_true]))|(refine ja8 ?_;rintro⟨_,_⟩;try simp only[jaj,jak,jab,jai]))
theorem Prf.before {f d:Nat} {s:List UInt8} {w:Want} (h:Prf f (jal (.list w) d)):Prf f (jaB s w d):=by
 have e:(jaB s w d:Rd (List Syn))=jae (mIs s) fun b=>if b=true then mRet [] else jal (.list w) d:=by
  funext f l
  simp only[jaB,jae,mIs,mRet,jal,jak,jbX]
 rw[e]
 exact Prf.bind Prf.is (fun _=>Prf.ite Prf.ret h) (fun _=>Suf.ite Suf.ret (jjZ _ _ _))
def PfS {α : Type} (f:Nat) (m:Rd α):Prop:=Prf f m∧Suf f m
theorem PfS.bind {α β : Type} {f:Nat} {m:Rd α} {k:α→Rd β} (h:PfS f m) (g:∀ x,PfS f (k x)):PfS f (jae m k):=⟨Prf.bind h.1 (fun x=>(g x).1) (fun x=>(g x).2),Suf.bind h.2 (fun x=>(g x).2)⟩
theorem PfS.ite {α : Type} {f:Nat} {c:Prop} [Decidable c] {m k:Rd α} (h:PfS f m) (g:PfS f k):PfS f (if c then m else k):=by split<;>assumption
theorem PfS.next {β : Type} {f:Nat} {k:List UInt8→Rd β} (g:∀ x,PfS f (k x)) (gl:∀ x,Less f (k x)):PfS f (jae jbV k):=⟨Prf.next (fun x=>(g x).1) gl (fun x=>(g x).2),Suf.bind Suf.next (fun x=>(g x).2)⟩
theorem PfS.ret {α : Type} {f:Nat} {x:α}:PfS f (mRet x):=⟨Prf.ret,Suf.ret⟩
theorem PfS.peek {f:Nat}:PfS f jbm:=⟨Prf.peek,Suf.peek⟩
theorem PfS.is {f:Nat} {s:List UInt8}:PfS f (mIs s):=⟨Prf.is,Suf.is⟩
theorem PfS.named {f:Nat}:PfS f jbe:=⟨Prf.named,Suf.named⟩
theorem PfS.take {f:Nat}:PfS f jbg:=⟨Prf.take,Suf.take⟩
theorem PfS.name {f:Nat}:PfS f jbd:=⟨Prf.name,Suf.name⟩
theorem PfS.need {f:Nat} {s:List UInt8}:PfS f (jaA s):=⟨Prf.need,Suf.need⟩
theorem PfS.enter {f:Nat} {s:List UInt8} {d:Nat}:PfS f (jaF s d):=⟨Prf.enter,Suf.enter⟩
theorem PfS.num {f:Nat}:PfS f mNum:=⟨Prf.num,Suf.num⟩
theorem PfS.deep {f d:Nat}:PfS f (jds d):=⟨Prf.deep,Suf.deep⟩
theorem PfS.op {f i:Nat}:PfS f (mOpI i):=⟨Prf.op,Suf.op⟩
theorem PfS.before {f d:Nat} {s:List UInt8} {w:Want} (h:PfS f (jal (.list w) d)):PfS f (jaB s w d):=⟨Prf.before h.1,Suf.before h.2⟩
structure Cls (Q:(α : Type)→Nat→Rd α→Rd α→Prop) (D:Nat→Nat→Prop):Prop where
 bind:∀ {α β : Type} {f:Nat} {m m':Rd α} {k k':α→Rd β},Q α f m m'→(∀ x,Q β f (k x) (k' x))→Q β f (jae m k) (jae m' k')
 ite:∀ {α : Type} {f:Nat} {c:Prop} [Decidable c] {m m' k k':Rd α},Q α f m m'→Q α f k k'→Q α f (if c then m else k) (if c then m' else k')
 ret:∀ {α : Type} {f:Nat} {x:α},Q α f (mRet x) (mRet x)
 peek:∀ {f:Nat},Q Tk f jbm jbm
 take:∀ {f:Nat},Q Tk f jbg jbg
 is:∀ {f:Nat} {s:List UInt8},Q Bool f (mIs s) (mIs s)
 op:∀ {f i:Nat},Q Bool f (mOpI i) (mOpI i)
 next:∀ {f:Nat},Q (List UInt8) f jbV jbV
 named:∀ {f:Nat},Q Bool f jbe jbe
 name:∀ {f:Nat},Q Tk f jbd jbd
 need:∀ {f:Nat} {s:List UInt8},Q Tk f (jaA s) (jaA s)
 enter:∀ {f d d':Nat} {s:List UInt8},D d d'→Q Tk f (jaF s d) (jaF s d')
 deep:∀ {f d d':Nat},D d d'→Q Tk f (jds d) (jds d')
 num:∀ {f:Nat},Q Int f mNum mNum
 succ:∀ {d d':Nat},D d d'→D (d+1) (d'+1)
 up:∀ {f:Nat} {m m' n n':Rd (List Syn)},Q (List Syn) f m m'→(∀ l,n (f+1) l=m f l)→(∀ l,n' (f+1) l=m' f l)→Q (List Syn) (f+1) n n'
 zero:∀ {w:Want} {d d':Nat},Q (List Syn) 0 (jal w d) (jal w d')
theorem jgl (s:List UInt8) (w:Want) (d:Nat):(jaB s w d:Rd (List Syn))=jae (mIs s) fun b=>if b=true then mRet [] else jal (.list w) d:=by
 funext f l
 simp only[jaB,jae,mIs,mRet,jal,jak,jbX]
theorem Cls.read {Q:(α : Type)→Nat→Rd α→Rd α→Prop} {D:Nat→Nat→Prop} (C:Cls Q D):∀ (f:Nat) (w:Want) (d d':Nat),D d d'→Q (List Syn) f (jal w d) (jal w d'):=by
 intro f
 induction f with
 |zero=>intro w d d' _;exact C.zero
 |succ f ih=>
  intro w d d' hd
  have bef:∀ {s:List UInt8} {w:Want} {d d':Nat},D d d'→Q (List Syn) f (jaB s w d) (jaB s w d'):=fun {s w d d'} h=>by
   rw[jgl,jgl]
   exact C.bind C.is (fun _=>C.ite C.ret (ih _ _ _ h))
  cases w with
  |lvl i=>
   refine C.up ?_ (fun l=>jiW (a:=0) (x:=[]) (w:=.bare) f l) (fun l=>jiW (a:=0) (x:=[]) (w:=.bare) f l)
   unfold mLvl
   repeat' (first|(with_reducible first|exact C.take|exact C.deep hd|exact C.op|exact C.peek|exact C.is|exact C.named|exact C.next|exact C.name|exact C.need|exact C.enter hd|exact C.num|exact C.ret|exact ih _ _ _ hd|exact ih _ _ _ (C.succ hd)|exact bef hd|exact bef (C.succ hd))|(with_reducible refine C.bind ?_ (fun _=>?_))|(with_reducible refine C.ite ?_ ?_)|(unfold jaK)|(unfold ja2)|(unfold ja3)|(unfold jay)|(unfold jba)|(unfold ja9)|(unfold jaY)|(unfold jaD)|(unfold jaz)|(unfold jao)|(unfold jaN))
  |rep i a x=>
   refine C.up ?_ (fun l=>jiX (w:=.bare) f l) (fun l=>jiX (w:=.bare) f l)
   unfold jgp
   repeat' (first|(with_reducible first|exact C.take|exact C.deep hd|exact C.op|exact C.peek|exact C.is|exact C.named|exact C.next|exact C.name|exact C.need|exact C.enter hd|exact C.num|exact C.ret|exact ih _ _ _ hd|exact ih _ _ _ (C.succ hd)|exact bef hd|exact bef (C.succ hd))|(with_reducible refine C.bind ?_ (fun _=>?_))|(with_reducible refine C.ite ?_ ?_)|(unfold jaK)|(unfold ja2)|(unfold ja3)|(unfold jay)|(unfold jba)|(unfold ja9)|(unfold jaY)|(unfold jaD)|(unfold jaz)|(unfold jao)|(unfold jaN))
  |bare=>
   refine C.up ?_ (fun l=>jhB (i:=0) (a:=0) (x:=[]) (w:=.bare) f l) (fun l=>jhB (i:=0) (a:=0) (x:=[]) (w:=.bare) f l)
   unfold jdZ
   repeat' (first|(with_reducible first|exact C.take|exact C.deep hd|exact C.op|exact C.peek|exact C.is|exact C.named|exact C.next|exact C.name|exact C.need|exact C.enter hd|exact C.num|exact C.ret|exact ih _ _ _ hd|exact ih _ _ _ (C.succ hd)|exact bef hd|exact bef (C.succ hd))|(with_reducible refine C.bind ?_ (fun _=>?_))|(with_reducible refine C.ite ?_ ?_)|(unfold jaK)|(unfold ja2)|(unfold ja3)|(unfold jay)|(unfold jba)|(unfold ja9)|(unfold jaY)|(unfold jaD)|(unfold jaz)|(unfold jao)|(unfold jaN))
  |place=>
   refine C.up ?_ (fun l=>jgq (i:=0) (a:=0) (x:=[]) (w:=.bare) f l) (fun l=>jgq (i:=0) (a:=0) (x:=[]) (w:=.bare) f l)
   unfold jcO
   repeat' (first|(with_reducible first|exact C.take|exact C.deep hd|exact C.op|exact C.peek|exact C.is|exact C.named|exact C.next|exact C.name|exact C.need|exact C.enter hd|exact C.num|exact C.ret|exact ih _ _ _ hd|exact ih _ _ _ (C.succ hd)|exact bef hd|exact bef (C.succ hd))|(with_reducible refine C.bind ?_ (fun _=>?_))|(with_reducible refine C.ite ?_ ?_)|(unfold jaK)|(unfold ja2)|(unfold ja3)|(unfold jay)|(unfold jba)|(unfold ja9)|(unfold jaY)|(unfold jaD)|(unfold jaz)|(unfold jao)|(unfold jaN))
  |param=>
   refine C.up ?_ (fun l=>jgr (i:=0) (a:=0) (x:=[]) (w:=.bare) f l) (fun l=>jgr (i:=0) (a:=0) (x:=[]) (w:=.bare) f l)
   unfold jcP
   repeat' (first|(with_reducible first|exact C.take|exact C.deep hd|exact C.op|exact C.peek|exact C.is|exact C.named|exact C.next|exact C.name|exact C.need|exact C.enter hd|exact C.num|exact C.ret|exact ih _ _ _ hd|exact ih _ _ _ (C.succ hd)|exact bef hd|exact bef (C.succ hd))|(with_reducible refine C.bind ?_ (fun _=>?_))|(with_reducible refine C.ite ?_ ?_)|(unfold jaK)|(unfold ja2)|(unfold ja3)|(unfold jay)|(unfold jba)|(unfold ja9)|(unfold jaY)|(unfold jaD)|(unfold jaz)|(unfold jao)|(unfold jaN))
  |list w=>
   refine C.up ?_ (fun l=>jhC (i:=0) (a:=0) (x:=[]) f l) (fun l=>jhC (i:=0) (a:=0) (x:=[]) f l)
   unfold jea
   repeat' (first|(with_reducible first|exact C.take|exact C.deep hd|exact C.op|exact C.peek|exact C.is|exact C.named|exact C.next|exact C.name|exact C.need|exact C.enter hd|exact C.num|exact C.ret|exact ih _ _ _ hd|exact ih _ _ _ (C.succ hd)|exact bef hd|exact bef (C.succ hd))|(with_reducible refine C.bind ?_ (fun _=>?_))|(with_reducible refine C.ite ?_ ?_)|(unfold jaK)|(unfold ja2)|(unfold ja3)|(unfold jay)|(unfold jba)|(unfold ja9)|(unfold jaY)|(unfold jaD)|(unfold jaz)|(unfold jao)|(unfold jaN))
  |load=>
   refine C.up ?_ (fun l=>jdU f l) (fun l=>jdU f l)
   unfold jgv
   repeat' (first|(with_reducible first|exact C.take|exact C.deep hd|exact C.op|exact C.peek|exact C.is|exact C.named|exact C.next|exact C.name|exact C.need|exact C.enter hd|exact C.num|exact C.ret|exact ih _ _ _ hd|exact ih _ _ _ (C.succ hd)|exact bef hd|exact bef (C.succ hd))|(with_reducible refine C.bind ?_ (fun _=>?_))|(with_reducible refine C.ite ?_ ?_)|(unfold jaK)|(unfold ja2)|(unfold ja3)|(unfold jay)|(unfold jba)|(unfold ja9)|(unfold jaY)|(unfold jaD)|(unfold jaz)|(unfold jao)|(unfold jaN))
  |call=>
   refine C.up ?_ (fun l=>jdt f l) (fun l=>jdt f l)
   unfold jfM
   repeat' (first|(with_reducible first|exact C.take|exact C.deep hd|exact C.op|exact C.peek|exact C.is|exact C.named|exact C.next|exact C.name|exact C.need|exact C.enter hd|exact C.num|exact C.ret|exact ih _ _ _ hd|exact ih _ _ _ (C.succ hd)|exact bef hd|exact bef (C.succ hd))|(with_reducible refine C.bind ?_ (fun _=>?_))|(with_reducible refine C.ite ?_ ?_)|(unfold jaK)|(unfold ja2)|(unfold ja3)|(unfold jay)|(unfold jba)|(unfold ja9)|(unfold jaY)|(unfold jaD)|(unfold jaz)|(unfold jao)|(unfold jaN))
  |right=>
   refine C.up ?_ (fun l=>jdH f l) (fun l=>jdH f l)
   unfold jeb
   repeat' (first|(with_reducible first|exact C.take|exact C.deep hd|exact C.op|exact C.peek|exact C.is|exact C.named|exact C.next|exact C.name|exact C.need|exact C.enter hd|exact C.num|exact C.ret|exact ih _ _ _ hd|exact ih _ _ _ (C.succ hd)|exact bef hd|exact bef (C.succ hd))|(with_reducible refine C.bind ?_ (fun _=>?_))|(with_reducible refine C.ite ?_ ?_)|(unfold jaK)|(unfold ja2)|(unfold ja3)|(unfold jay)|(unfold jba)|(unfold ja9)|(unfold jaY)|(unfold jaD)|(unfold jaz)|(unfold jao)|(unfold jaN))
  |block=>
   refine C.up ?_ (fun l=>jdb f l) (fun l=>jdb f l)
   unfold jdG
   repeat' (first|(with_reducible first|exact C.take|exact C.deep hd|exact C.op|exact C.peek|exact C.is|exact C.named|exact C.next|exact C.name|exact C.need|exact C.enter hd|exact C.num|exact C.ret|exact ih _ _ _ hd|exact ih _ _ _ (C.succ hd)|exact bef hd|exact bef (C.succ hd))|(with_reducible refine C.bind ?_ (fun _=>?_))|(with_reducible refine C.ite ?_ ?_)|(unfold jaK)|(unfold ja2)|(unfold ja3)|(unfold jay)|(unfold jba)|(unfold ja9)|(unfold jaY)|(unfold jaD)|(unfold jaz)|(unfold jao)|(unfold jaN))
  |stmt=>
   refine C.up ?_ (fun l=>jdV f l) (fun l=>jdV f l)
   unfold jfd
   repeat' (first|(with_reducible first|exact C.take|exact C.deep hd|exact C.op|exact C.peek|exact C.is|exact C.named|exact C.next|exact C.name|exact C.need|exact C.enter hd|exact C.num|exact C.ret|exact ih _ _ _ hd|exact ih _ _ _ (C.succ hd)|exact bef hd|exact bef (C.succ hd))|(with_reducible refine C.bind ?_ (fun _=>?_))|(with_reducible refine C.ite ?_ ?_)|(unfold jaK)|(unfold ja2)|(unfold ja3)|(unfold jay)|(unfold jba)|(unfold ja9)|(unfold jaY)|(unfold jaD)|(unfold jaz)|(unfold jao)|(unfold jaN))
  |chain a=>
   refine C.up ?_ (fun l=>jdI f l) (fun l=>jdI f l)
   unfold jec
   repeat' (first|(with_reducible first|exact C.take|exact C.deep hd|exact C.op|exact C.peek|exact C.is|exact C.named|exact C.next|exact C.name|exact C.need|exact C.enter hd|exact C.num|exact C.ret|exact ih _ _ _ hd|exact ih _ _ _ (C.succ hd)|exact bef hd|exact bef (C.succ hd))|(with_reducible refine C.bind ?_ (fun _=>?_))|(with_reducible refine C.ite ?_ ?_)|(unfold jaK)|(unfold ja2)|(unfold ja3)|(unfold jay)|(unfold jba)|(unfold ja9)|(unfold jaY)|(unfold jaD)|(unfold jaz)|(unfold jao)|(unfold jaN))
  |body=>
   refine C.up ?_ (fun l=>jeM f l) (fun l=>jeM f l)
   unfold jgw
   repeat' (first|(with_reducible first|exact C.take|exact C.deep hd|exact C.op|exact C.peek|exact C.is|exact C.named|exact C.next|exact C.name|exact C.need|exact C.enter hd|exact C.num|exact C.ret|exact ih _ _ _ hd|exact ih _ _ _ (C.succ hd)|exact bef hd|exact bef (C.succ hd))|(with_reducible refine C.bind ?_ (fun _=>?_))|(with_reducible refine C.ite ?_ ?_)|(unfold jaK)|(unfold ja2)|(unfold ja3)|(unfold jay)|(unfold jba)|(unfold ja9)|(unfold jaY)|(unfold jaD)|(unfold jaz)|(unfold jao)|(unfold jaN))
  |record=>
   refine C.up ?_ (fun l=>jc9 f l) (fun l=>jc9 f l)
   unfold jcT
   repeat' (first|(with_reducible first|exact C.take|exact C.deep hd|exact C.op|exact C.peek|exact C.is|exact C.named|exact C.next|exact C.name|exact C.need|exact C.enter hd|exact C.num|exact C.ret|exact ih _ _ _ hd|exact ih _ _ _ (C.succ hd)|exact bef hd|exact bef (C.succ hd))|(with_reducible refine C.bind ?_ (fun _=>?_))|(with_reducible refine C.ite ?_ ?_)|(unfold jaK)|(unfold ja2)|(unfold ja3)|(unfold jay)|(unfold jba)|(unfold ja9)|(unfold jaY)|(unfold jaD)|(unfold jaz)|(unfold jao)|(unfold jaN))
  |proc=>
   refine C.up ?_ (fun l=>jdW f l) (fun l=>jdW f l)
   unfold jfe
   repeat' (first|(with_reducible first|exact C.take|exact C.deep hd|exact C.op|exact C.peek|exact C.is|exact C.named|exact C.next|exact C.name|exact C.need|exact C.enter hd|exact C.num|exact C.ret|exact ih _ _ _ hd|exact ih _ _ _ (C.succ hd)|exact bef hd|exact bef (C.succ hd))|(with_reducible refine C.bind ?_ (fun _=>?_))|(with_reducible refine C.ite ?_ ?_)|(unfold jaK)|(unfold ja2)|(unfold ja3)|(unfold jay)|(unfold jba)|(unfold ja9)|(unfold jaY)|(unfold jaD)|(unfold jaz)|(unfold jao)|(unfold jaN))
  |decls=>
   refine C.up ?_ (fun l=>jdJ f l) (fun l=>jdJ f l)
   unfold jed
   repeat' (first|(with_reducible first|exact C.take|exact C.deep hd|exact C.op|exact C.peek|exact C.is|exact C.named|exact C.next|exact C.name|exact C.need|exact C.enter hd|exact C.num|exact C.ret|exact ih _ _ _ hd|exact ih _ _ _ (C.succ hd)|exact bef hd|exact bef (C.succ hd))|(with_reducible refine C.bind ?_ (fun _=>?_))|(with_reducible refine C.ite ?_ ?_)|(unfold jaK)|(unfold ja2)|(unfold ja3)|(unfold jay)|(unfold jba)|(unfold ja9)|(unfold jaY)|(unfold jaD)|(unfold jaz)|(unfold jao)|(unfold jaN))
  |stmts=>
   refine C.up ?_ (fun l=>jcG f l) (fun l=>jcG f l)
   unfold jdk
   repeat' (first|(with_reducible first|exact C.take|exact C.deep hd|exact C.op|exact C.peek|exact C.is|exact C.named|exact C.next|exact C.name|exact C.need|exact C.enter hd|exact C.num|exact C.ret|exact ih _ _ _ hd|exact ih _ _ _ (C.succ hd)|exact bef hd|exact bef (C.succ hd))|(with_reducible refine C.bind ?_ (fun _=>?_))|(with_reducible refine C.ite ?_ ?_)|(unfold jaK)|(unfold ja2)|(unfold ja3)|(unfold jay)|(unfold jba)|(unfold ja9)|(unfold jaY)|(unfold jaD)|(unfold jaz)|(unfold jao)|(unfold jaN))
  |program a=>
   refine C.up ?_ (fun l=>jcA f l) (fun l=>jcA f l)
   unfold jc1
   repeat' (first|(with_reducible first|exact C.take|exact C.deep hd|exact C.op|exact C.peek|exact C.is|exact C.named|exact C.next|exact C.name|exact C.need|exact C.enter hd|exact C.num|exact C.ret|exact ih _ _ _ hd|exact ih _ _ _ (C.succ hd)|exact bef hd|exact bef (C.succ hd))|(with_reducible refine C.bind ?_ (fun _=>?_))|(with_reducible refine C.ite ?_ ?_)|(unfold jaK)|(unfold ja2)|(unfold ja3)|(unfold jay)|(unfold jba)|(unfold ja9)|(unfold jaY)|(unfold jaD)|(unfold jaz)|(unfold jao)|(unfold jaN))
  |cond=>
   exact C.up (ih (.lvl 0) d d' hd) (fun l=>by unfold jal;rw[jaf]) (fun l=>by unfold jal;rw[jaf])
def Ne1 {α : Type} (f:Nat) (m:Rd α):Prop:=∀ l x l',l≠[]→m f l = .ok (x,l')→l'≠[]
theorem Ne1.bind {α β : Type} {f:Nat} {m:Rd α} {k:α→Rd β} (h:Ne1 f m) (g:∀ x,Ne1 f (k x)):Ne1 f (jae m k):=fun l x l' hl e=>by
 obtain⟨⟨y,l1⟩,e1,e2⟩:=jar e
 exact g y l1 x l' (h l y l1 hl e1) e2
def tst {α : Type} (r:Except (Int×Nat) α) (l:List Tk):Except (Int×Nat) (α×List Tk):=match r with | .ok z=>.ok (z,l) | .error e=>.error e
theorem Ne1.test {α : Type} {f:Nat} {m:Rd α} (q:Tk→Except (Int×Nat) α) (hm:∀ l,m f l=tst (q (pHd l)) (pTl l)):Ne1 f m:=fun l x l' hl e=>by
 rw[hm] at e
 cases hq:q (pHd l) with
 |error p=>rw[hq] at e;cases e
 |ok z=>rw[hq] at e;cases e;exact jaJ hl
theorem Ne1.look {α : Type} {f:Nat} {m:Rd α} (q:List Tk→α) (hm:∀ l,m f l = .ok (q l,l)):Ne1 f m:=fun l x l' hl e=>by
 rw[hm] at e;cases e;exact hl
def jlg (s:List UInt8):Tk→Except (Int×Nat) Tk:=fun t:Tk=>if (bytes t.t==s)=true then Except.ok t else .error (t.a,4)
theorem jiM (s:List UInt8) (f:Nat) (l:List Tk):jaA s f l=tst (jlg s (pHd l)) (pTl l):=by
 unfold tst jlg
 unfold jaA pIs
 split<;>simp[*]
def Simt (t u:Tk):Prop:=t.k=u.k∧t.t=u.t
def Sim:List Tk→List Tk→Prop
 | [],[]=>True
 |t::l,u::m=>Simt t u∧Sim l m
 |_,_=>False
theorem Sim.hd:∀ {l m:List Tk},Sim l m→Simt (pHd l) (pHd m)
 | [],[],_=>⟨rfl,rfl⟩
 | [],_::_,h=>by cases h
 |_::_,[],h=>by cases h
 |t::l,u::m,h=>h.1
theorem Sim.tl:∀ {l m:List Tk},Sim l m→Sim (pTl l) (pTl m)
 | [],[],_=>trivial
 | [],_::_,h=>by cases h
 |_::_,[],h=>by cases h
 | [t],[u],h=>h
 | [t],u::v::m,h=>by cases h.2
 |t::s::l,[u],h=>by cases h.2
 |t::s::l,u::v::m,h=>h.2
theorem Sim.is {l m:List Tk} (s:List UInt8) (h:Sim l m):pIs s l=pIs s m:=by unfold pIs;rw[h.hd.2]
theorem Sim.op {l m:List Tk} (i:Nat) (h:Sim l m):pOp i l=pOp i m:=by unfold pOp;rw[h.hd.2]
theorem Sim.nm {l m:List Tk} (h:Sim l m):ja5 (pHd l)=ja5 (pHd m):=by unfold ja5;rw[h.hd.1,h.hd.2]
theorem Sim.nx {l m:List Tk} (h:Sim l m):jbU l=jbU m:=by unfold jbU;rw[h.tl.hd.2]
def ES {α : Type} (R:α→α→Prop):Except (Int×Nat) α→Except (Int×Nat) α→Prop
 |.ok a,.ok b=>R a b
 |.error p,.error q=>p.2=q.2
 |_,_=>False
theorem ES.bind {α β : Type} {R:α→α→Prop} {S:β→β→Prop} {m m':Except (Int×Nat) α} {k k':α→Except (Int×Nat) β} (h:ES R m m') (g:∀ a b,R a b→ES S (k a) (k' b)):ES S (m >>= k) (m' >>= k'):=by
 cases m with
 |error p=>
  cases m' with
  |error q=>exact h
  |ok b=>cases h
 |ok a=>
  cases m' with
  |error q=>cases h
  |ok b=>exact g a b h
theorem ES.ite {α : Type} {R:α→α→Prop} {c c':Prop} [Decidable c] [Decidable c'] {a a' b b':Except (Int×Nat) α} (hc:c=c') (h:ES R a a') (g:ES R b b'):ES R (if c then a else b) (if c' then a' else b'):=by
 subst hc
 by_cases q:c
 ·rw[if_pos q,if_pos q];exact h
 ·rw[if_neg q,if_neg q];exact g
abbrev RT (p q:Tk×List Tk):Prop:=Simt p.1 q.1∧Sim p.2 q.2
theorem ES.name {l m:List Tk} (h:Sim l m):ES RT (jaW l) (jaW m):=by
 unfold jaW
 exact ES.ite (by rw[h.nm]) ⟨h.hd,h.tl⟩ rfl
theorem ES.need {l m:List Tk} (s:List UInt8) (h:Sim l m):ES Sim (jaQ s l) (jaQ s m):=by
 unfold jaQ
 exact ES.ite (by rw[h.is]) h.tl rfl
theorem Sim.ite {c c':Prop} [Decidable c] [Decidable c'] {a a' b b':List Tk} (hc:c=c') (h:Sim a a') (g:Sim b b'):Sim (if c then a else b) (if c' then a' else b'):=by
 subst hc
 by_cases q:c
 ·rw[if_pos q,if_pos q];exact h
 ·rw[if_neg q,if_neg q];exact g
def WS:Want→Want→Prop
 |.rep i _ x,.rep j _ y=>i=j∧jid x=jid y
 |.chain _,.chain _=>True
 |.program _,.program _=>True
 |w,w'=>w=w'
theorem WS.same (w:Want):WS w w:=by cases w<;>first|exact rfl|exact trivial|exact⟨rfl,rfl⟩
theorem WS.rep {i:Nat} {a b:Int} {x y:List Syn} (h:jid x=jid y):WS (.rep i a x) (.rep i b y):=⟨rfl,h⟩
theorem WS.chain {a b:Int}:WS (.chain a) (.chain b):=trivial
theorem WS.prog {a b:Int}:WS (.program a) (.program b):=trivial
abbrev tE (a:Int):Tk:=⟨3,⟨#[]⟩,a⟩
theorem jlm {V l:List Tk} {a:Int} (h:l <:+ V++[tE a]) (hl:l≠[]):∃ V1,l=V1++[tE a]:=by
 obtain⟨T,hT⟩:=h
 obtain⟨l0,x,rfl⟩:∃ l0 x,l=l0++[x]:=⟨l.dropLast,l.getLast hl,(List.dropLast_concat_getLast hl).symm⟩
 rw[←List.append_assoc] at hT
 have h2:=(List.append_inj' hT rfl).2
 exact⟨l0,by rw[h2]⟩
def Shut {α : Type} (f:Nat) (m:Rd α):Prop:=∀ a:Int,(∀ y r,m f [tE a]≠.ok (y,r))∧∀ (V S':List Tk) (y:α),S'≠[]→m f (V++[tE a]) = .ok (y,[tE a])→m f (V++S') = .ok (y,S')
section
variable {α β : Type} {f:Nat}
theorem Shut.test {m:Rd α} (q:Tk→Except (Int×Nat) α) (hm:∀ l,m f l=tst (q (pHd l)) (pTl l)) (he:∀ a z,q (tE a)≠.ok z):Shut f m:=fun a=>by
 refine⟨fun y r e=>?_,fun V S' y hS e=>?_⟩
 ·rw[hm] at e
  cases hq:q (pHd [tE a]) with
  |error p=>rw[hq] at e;cases e
  |ok z=>exact he a z hq
 ·cases V with
  |nil=>
   exfalso
   rw[List.nil_append,hm] at e
   cases hq:q (pHd [tE a]) with
   |error p=>rw[hq] at e;cases e
   |ok z=>exact he a z hq
  |cons v V=>
   rw[hm] at e
   cases hq:q (pHd (v::V++[tE a])) with
   |error p=>rw[hq] at e;cases e
   |ok z=>
    rw[hq] at e
    unfold tst at e
    dsimp only at e
    rw[jiV (by simp),Except.ok.injEq,Prod.mk.injEq] at e
    obtain⟨rfl,e⟩:=e
    have:V=[]:=by
     have:=congrArg List.length e
     simp at this
     exact this
    subst this
    have hq2:q (pHd ([v]++S')) = .ok z:=hq
    rw[hm,hq2]
    obtain⟨x,S',rfl⟩:=List.exists_cons_of_ne_nil hS
    rfl
theorem Shut.need {s:List UInt8} (h:s≠[]):Shut f (jaA s):=Shut.test _ (jiM s f) fun a z e=>by
 unfold jlg at e
 cases s with
 |nil=>exact h rfl
 |cons c s=>cases e
theorem Shut.bind {m:Rd α} {k:α→Rd β} (h:PfS f m) (n:Ne1 f m) (g:∀ x,Shut f (k x)):Shut f (jae m k):=fun a=>by
 have key:∀ (V:List Tk) x l1,m f (V++[tE a]) = .ok (x,l1)→∃ V1,l1=V1++[tE a]:=fun V x l1 e=>jlm (h.2 _ _ _ e) (n _ _ _ (by simp) e)
 refine⟨fun y r e=>?_,fun V S' y hS e=>?_⟩
 ·obtain⟨⟨x,l1⟩,e1,e2⟩:=jar e
  have h2:=h.2 _ _ _ e1
  obtain⟨V1,rfl⟩:=key [] x l1 e1
  have:V1=[]:=by
   have:=h2.length_le
   simp at this
   exact this
  subst this
  exact(g x a).1 _ _ e2
 ·obtain⟨⟨x,l1⟩,e1,e2⟩:=jar e
  obtain⟨V1,rfl⟩:=key V x l1 e1
  have hV:V1≠[]:=fun q=>by subst q;exact(g x a).1 _ _ e2
  have a1:=h.1 V V1 [tE a] S' x (by simp) hS hV e1
  have a2:=(g x a).2 V1 S' y hS e2
  show (m f (V++S') >>= fun p=>k p.1 f p.2)=_
  rw[a1]
  exact a2
theorem Shut.last {m:Rd α} {g:α→β} (h:Shut f m):Shut f (jae m fun x=>mRet (g x)):=fun a=>by
 refine⟨fun y r e=>?_,fun V S' y hS e=>?_⟩
 ·obtain⟨⟨x,l1⟩,e1,e2⟩:=jar e
  exact(h a).1 _ _ e1
 ·obtain⟨⟨x,l1⟩,e1,e2⟩:=jar e
  cases e2
  have:=(h a).2 V S' x hS e1
  show (m f (V++S') >>= _)=_
  rw[this];rfl
theorem Shut.ite {c:Prop} [Decidable c] {m k:Rd α} (h:Shut f m) (g:Shut f k):Shut f (if c then m else k):=by split<;>assumption
theorem Shut.up {m n:Rd α} (h:Shut f m) (e:∀ l,n (f+1) l=m f l):Shut (f+1) n:=fun a=>⟨fun y r q=>(h a).1 y r ((e _).symm.trans q),fun V S' y hS q=>(e _).trans ((h a).2 V S' y hS ((e _).symm.trans q))⟩
end
def Inr (m:Nat) (t:Tk):Prop:=(∀ i,m≤i→(pOps i).contains (bytes t.t)=false)∧(bytes t.t==[46])=false
theorem Inr.op {m i:Nat} {S':List Tk} (h:Inr m (pHd S')) (hi:m≤i):pOp i S'=false:=h.1 i hi
abbrev nk (t:Int×List UInt8×Nat):Int×List UInt8:=(t.1,t.2.1)
def B (l:List UInt8):Option (List (Int×List UInt8)):=if (sqR l).2.2=0 then some ((sqR l).1.map nk) else none
theorem Sim.symm:∀ {l m:List Tk},Sim l m→Sim m l
 | [],[],_=>trivial
 | [],_::_,h=>by cases h
 |_::_,[],h=>by cases h
 |t::l,u::m,h=>⟨⟨h.1.1.symm,h.1.2.symm⟩,h.2.symm⟩
theorem ok_of {x:List UInt8} (h:(decide (x≠[]) && (decide (ter x=0) && decide (tn x=x.length)))=true):okX x:=by
 simp only[Bool.and_eq_true,decide_eq_true_eq] at h
 exact h
end Go.Proofs.YtenmmmdnpglkoaaGreatDoor

namespace Go.Proofs.YtenmmmdnpglkoaaGreatDoor
open Go Go.Proofs Go.RowKit Go.Sort
abbrev jmJ (x:Syn) (w:World):Ending→World→Prop:=fun e w'=>∃ k4 a4 t4 n4 o4 l4 c4 q4,x = .mk k4 a4 t4 n4 q4∧e = .returned (.tuple #[.agg #[.int .i64 k4,.int .i64 a4,.string t4,.int .i64 n4,.slice o4 l4 c4],.int .i64 0,.int .i64 0])∧Below w.heap.size w w' ∧
 synAt w.heap.size w' x (.agg #[.int .i64 k4,.int .i64 a4,.string t4,.int .i64 n4,.slice o4 l4 c4])
abbrev jml (a:Int) (c:Nat) (w:World):Ending→World→Prop:=fun e w'=>e = .returned (.tuple #[.agg #[.int .i64 0,.int .i64 0,.string ⟨#[]⟩,.int .i64 0,.slice none 0 0],.int .i64 a,.int .i64 (c:Nat)])∧Below w.heap.size w w'
theorem ent_ok {k:Nat} {s:ByteArray} {x:Syn} {w:World} {f:Nat} {args:Array Value} (hp:pAns k s = .ok x) (h:Calls Tryz.prog f args w (Ans k s w)):Calls Tryz.prog f args w (jmJ x w):=by
 refine h.mono ?_
 rintro e w' ⟨k4,a4,t4,n4,o4,l4,c4,a,c,rfl,hb,hx⟩
 rcases hx with ⟨y,h1,rfl,rfl,h2⟩|⟨h1,-,-⟩
 ·rw[hp] at h1
  cases h1
  obtain⟨k,a,t,n,o,l,c,q,hq,hv,-⟩:=h2.shape
  simp only[Value.agg.injEq,Array.mk.injEq,List.cons.injEq,Value.int.injEq,Value.string.injEq,Value.slice.injEq,and_true,true_and] at hv
  obtain⟨rfl,rfl,rfl,rfl,-⟩:=hv
  exact⟨_,_,_,_,_,_,_,q,hq,rfl,hb,h2⟩
 ·rw[hp] at h1;cases h1
theorem jmK {k:Nat} {s:ByteArray} {a:Int} {c:Nat} {w:World} {f:Nat} {args:Array Value} (hp:pAns k s = .error (a,c)) (h:Calls Tryz.prog f args w (Ans k s w)):Calls Tryz.prog f args w (jml a c w):=by
 refine h.mono ?_
 rintro e w' ⟨k4,a4,t4,n4,o4,l4,c4,a,c,rfl,hb,hx⟩
 rcases hx with ⟨y,h1,-⟩|⟨h1,-,hv⟩
 ·rw[hp] at h1;cases h1
 ·rw[hp] at h1
  cases h1
  rw[hv]
  exact⟨rfl,hb⟩
theorem synAt.below {lo:Nat} {W W':World} {x:Syn} {v:Value} (h:synAt lo W x v) (hb:Below W.heap.size W W'):synAt lo W' x v:=synAt.keep (From.of_below hb) (jrr _) _ _ h
structure Env (w:World):Prop where
 tab:Lib.TabBelow Tryz.prog w.heap.size w "surveyor/lexer.classes" .u8 jaH
 ev:EvAt w
theorem Env.at {w W:World} (h:Env w) (hB:Below w.heap.size w W):Env W:=⟨fun X hX=>h.tab X (Below.chain hB hX),h.ev.below hB⟩
theorem Env.awake {w W:World} (h:Env w) (hB:Below w.heap.size w W):Calls Tryz.prog 6 #[] W fun e w'=>e = .returned (.bool true)∧Below W.heap.size W w':=jlf W (h.at hB).tab (h.at hB).ev
theorem Env.parse {w W:World} (h:Env w) (hB:Below w.heap.size w W) (s:ByteArray):Calls Tryz.prog 7 #[.string s] W (Ans 0 s W):=jh8 s W (h.at hB).tab (h.at hB).ev
theorem Env.proc {w W:World} (h:Env w) (hB:Below w.heap.size w W) (s:ByteArray):Calls Tryz.prog 18 #[.string s] W (Ans 1 s W):=jlU s W (h.at hB).tab (h.at hB).ev
theorem Env.cond {w W:World} (h:Env w) (hB:Below w.heap.size w W) (s:ByteArray):Calls Tryz.prog 13 #[.string s] W (Ans 2 s W):=jjR s W (h.at hB).tab (h.at hB).ev
theorem Env.part {w W:World} (h:Env w) (hB:Below w.heap.size w W) (s:ByteArray) (n:Nat) (hn:n<256):Calls Tryz.prog 10 #[.string s,.int .u8 (n:Int)] W (Ans (n % 4) s W):=jjV s n hn W (h.at hB).tab (h.at hB).ev
end Go.Proofs.YtenmmmdnpglkoaaGreatDoor
