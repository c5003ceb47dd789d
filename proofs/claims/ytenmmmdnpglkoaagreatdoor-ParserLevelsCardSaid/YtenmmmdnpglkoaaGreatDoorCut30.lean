import Derived.Test.YtenmmmdnpglkoaaGreatDoorCut29
set_option linter.unusedSimpArgs false
set_option linter.unusedVariables false
set_option maxRecDepth 100000
set_option maxHeartbeats 8000000
/-
 The reference's reader: what blocks read.
-/
namespace Go.Proofs.YtenmmmdnpglkoaaGreatDoor
open Go Go.Proofs Go.RowKit Go.Sort
def begB (l:List Tk):Bool:=ja5 (pHd l) || (pIs wIf l || (pIs jbA l || (pIs jbq l || pIs jca l)))
def mAny (d:Nat):Rd (List Syn):=fun f l=>if begB l=true then jaf f .stmt d l else .error ((pHd l).a,4)
def jdM (d:Nat):Rd (List Syn):=jae (jal .stmts d) fun y=>jae (jaA [125]) fun _=>mRet y
def entR (st:RSt) (d:Nat):RSt:=match st with
 |.ok l=>if pIs [123] l=true then (if d=64 then .bad (pHd l).a 12 else .ok (pTl l)) else .bad (pHd l).a 4
 |s=>s
section
variable {α β : Type} {m m':Rd α} {l:List Tk} {d:Nat} {st s s1 s2 s':RSt} {x:Syn} {xs ys:List Syn} {r:β} {z:Int} {xa:α}
theorem Run.succ (h:Run m' (.ok l) xa s) (e:∀ f,m (f+1) l=m' f l):Run m (.ok l) xa s:=by
 rcases h with ⟨l',rfl,h0,h1,N,hN⟩|⟨a,e',he,rfl,N,hN⟩
 ·exact .inl ⟨l',rfl,h0,h1,N+1,fun f hf=>by obtain⟨g,rfl⟩:∃ g,f=g+1:=⟨f-1,by omega⟩;exact(e g).trans (hN g (by omega))⟩
 ·exact .inr ⟨a,e',he,rfl,N+1,fun f hf=>by obtain⟨g,rfl⟩:∃ g,f=g+1:=⟨f-1,by omega⟩;exact(e g).trans (hN g (by omega))⟩
theorem jjp (hb:begB l=true) (f:Nat):jaf (f+1) .stmts d l=(jae (jal .stmt d) fun x=>jae (jal .stmts d) fun y=>mRet (x++y)) f l:=by
 rw[jcG]
 unfold jdk
 show (if _ then _ else _:Rd (List Syn)) f l=_
 rw[if_pos (by unfold begB at hb;simpa [or_assoc] using hb)]
theorem jhM (hb:begB l=false) (f:Nat):jaf (f+1) .stmts d l = .ok ([],l):=by
 rw[jcG]
 unfold jdk
 show (if _ then _ else _:Rd (List Syn)) f l=_
 rw[if_neg (by
  unfold begB at hb
  simp only[Bool.or_eq_false_iff] at hb
  obtain⟨h1,h2,h3,h4,h5⟩:=hb
  rw[h1,h2,h3,h4,h5]
  simp)]
 rfl
theorem jkg:nmE ⟨#[125]⟩≠0:=by decide +kernel
theorem jjq (hc:pIs [125] l=true):begB l=false:=by
 have e:=jhg hc
 have hn:ja5 (pHd l)=false:=by
  unfold ja5
  rw[e]
  rw[show decide (nmE ⟨[125].toArray⟩=0)=false from decide_eq_false jkg,Bool.and_false]
 unfold begB
 rw[hn,jaX hc (by decide),jaX hc (by decide),jaX hc (by decide),jaX hc (by decide)]
 rfl
theorem jg7 (hf:s.fine) (hc:isOk s=false∨rIs s [125]=true):Run (jdM d) s [] (jad (rIs s [125]) s):=by
 cases s with
 |bad a e=>exact rfl
 |ok l=>
  have hc:pIs [125] l=true:=hc.resolve_left (fun h=>by cases h)
  have e:jad (rIs (.ok l) [125]) (.ok l) = .ok (pTl l):=by show jad (pIs [125] l) _=_;rw[hc];rfl
  rw[e]
  refine .inl ⟨_,rfl,jaJ hf,jat l,1,fun f hf=>?_⟩
  obtain⟨g,rfl⟩:∃ g,f=g+1:=⟨f-1,by omega⟩
  show (jaf (g+1) .stmts d l >>= _)=_
  rw[jhM (jjq hc),jak]
  show (jaA [125] (g+1) l >>= _)=_
  unfold jaA
  rw[if_pos hc]
  rfl
theorem jiv (hc:pIs [125] l=false) (hx:Run (mAny d) (.ok l) [x] s2) (hy:Run (jdM d) s2 ys s'):Run (jdM d) (.ok l) (x::ys) s':=by
 cases hb:begB l with
 |false=>
  have h1:s2 = .bad (pHd l).a 4:=by
   rcases hx with ⟨l',-,-,-,N,hN⟩|⟨a,e,-,rfl,N,hN⟩
   ·have:=hN N (jrr _);unfold mAny at this;rw[hb,if_neg Bool.false_ne_true] at this;cases this
   ·have:=hN N (jrr _);unfold mAny at this;rw[hb,if_neg Bool.false_ne_true] at this;cases this;rfl
  subst h1
  obtain rfl:=Run.bads hy
  refine .inr ⟨_,4,by decide,rfl,1,fun f hf=>?_⟩
  obtain⟨g,rfl⟩:∃ g,f=g+1:=⟨f-1,by omega⟩
  show (jaf (g+1) .stmts d l >>= _)=_
  rw[jhM hb,jak]
  show (jaA [125] (g+1) l >>= _)=_
  unfold jaA
  rw[if_neg (by rw[hc];decide)]
  rfl
 |true=>
  have hx':Run (jal .stmt d) (.ok l) [x] s2:=Run.at hx fun f=>by unfold mAny;rw[if_pos hb];rfl
  have hr:Run (jae (jal .stmt d) fun x=>jae (jdM d) fun y=>mRet (x++y)) (.ok l) (x::ys) s':=by
   have hl:l≠[]:=by
    intro e;subst e
    exact absurd hb (by decide +kernel)
   have f2:=Run.fine hx' (show RSt.fine (.ok l) from hl)
   exact Run.bind hx' (Run.bind hy (ja1 (Run.fine hy f2)))
  refine Run.succ hr fun f=>?_
  show (jaf (f+1) .stmts d l >>= _)=(jal .stmt d f l >>= _)
  rw[jjp hb]
  show ((jal .stmt d f l >>= _) >>= _)=_
  rw[jai]
  refine ja8 fun q=>?_
  show ((jal .stmts d f q.2 >>= _) >>= _)=((jal .stmts d f q.2 >>= _) >>= _)
  rw[jai,jai]
  refine ja8 fun q2=>?_
  show ((Except.ok (q.1++q2.1,q2.2):Except (Int×Nat) _) >>= fun p=>(jaA [125] (f+1) p.2 >>= fun u=>.ok (p.1,u.2)))=((jaA [125] f q2.2 >>= fun u=>.ok (q2.1,u.2)) >>= fun p=>.ok (q.1++p.1,p.2))
  rw[jak,jai]
  rfl
theorem jhN (hl:l≠[]) (h2:begB l=true→2≤l.length) (hx:Run (mAny d) (.ok l) [x] s2):s2.rem+1≤l.length:=by
 cases hb:begB l with
 |true=>exact jbO (h2 hb) (Run.at hx fun f=>by unfold mAny;rw[if_pos hb])
 |false=>
  rcases hx with ⟨l',-,-,-,N,hN⟩|⟨a,e,-,rfl,N,hN⟩
  ·have:=hN N (jrr _);unfold mAny at this;rw[hb,if_neg Bool.false_ne_true] at this;cases this
  ·exact List.length_pos_iff.mpr hl
theorem jkh (hc:rIs st [123]=true):jad (rIs (levS st d) [123]) (levS st d)=entR st d:=by
 obtain⟨l,rfl,hp⟩:=jbx hc
 unfold entR levS
 dsimp only
 rw[if_pos hp]
 by_cases h:d=64
 ·rw[if_pos h,if_pos h];rfl
 ·rw[if_neg h,if_neg h];show jad (pIs [123] l) _=_;rw[hp];rfl
theorem jki (hc:rIs st [123]=false):jad (rIs st [123]) st=entR st d:=by
 cases st with
 |bad a e=>rfl
 |ok l=>
  have hc:pIs [123] l=false:=hc
  unfold entR
  dsimp only
  rw[if_neg (by rw[hc];decide)]
  show jad (pIs [123] l) _=_
  rw[hc]
  rfl
theorem jl3 (hc:rIs st [123]=false):isOk (entR st d)=false:=by
 cases st with
 |bad a e=>rfl
 |ok l=>
  have hc:pIs [123] l=false:=hc
  unfold entR
  dsimp only
  rw[if_neg (by rw[hc];decide)]
  rfl
theorem jmP (h:isOk (entR st d)=true):d≠64:=fun e=>by
 cases st with
 |bad a e=>cases h
 |ok l=>
  unfold entR at h
  dsimp only at h
  rw[if_pos e] at h
  split at h<;>cases h
theorem jg8 {K:Tk→Rd β} (hf:st.fine) (h0:isOk st=false→s'=st) (h1:∀ l,st = .ok l→Run (K (pHd l)) (entR st d) r s'):Run (jae (jaF [123] d) K) st r s':=by
 cases st with
 |bad a e=>exact h0 rfl
 |ok l=>
  have h:=h1 l rfl
  unfold entR at h
  dsimp only at h
  cases hc:pIs [123] l with
  |false=>
   rw[if_neg (by rw[hc];decide)] at h
   obtain rfl:=Run.bads h
   exact .inr ⟨_,4,by decide,rfl,0,fun f _=>by show (jaF [123] d f l >>= _)=_;unfold jaF;rw[if_neg (by rw[hc];decide)];rfl⟩
  |true=>
   rw[if_pos hc] at h
   by_cases h64:d=64
   ·rw[if_pos h64] at h
    obtain rfl:=Run.bads h
    exact .inr ⟨_,12,by decide,rfl,0,fun f _=>by show (jaF [123] d f l >>= _)=_;unfold jaF;rw[if_pos hc,if_pos h64];rfl⟩
   ·rw[if_neg h64] at h
    have he:Run (jaF [123] d) (.ok l) (pHd l) (.ok (pTl l)):=.inl ⟨_,rfl,jaJ hf,jat l,0,fun f _=>by unfold jaF;rw[if_pos hc,if_neg h64]⟩
    exact Run.bind he h
theorem jjr (h:isOk st=false):entR st d=st:=by
 cases st with
 |bad a e=>rfl
 |ok l=>cases h
theorem jht {α : Type} {m:Rd α} {x:α} (hb:isOk st=false) (h:Run m st x s):s=st:=by
 cases st with
 |bad a e=>exact h
 |ok l=>cases hb
theorem jjs (hf:st.fine) (hz:hasA st z) (hy:Run (jdM (d+1)) (entR st d) ys s):Stp .block d st [.mk 6 z ⟨#[]⟩ 0 ys] s:=by
 refine Run.want (m:=jdG d) (jg8 hf (fun hb=>?_) fun l e=>?_) jdb
 ·rw[jjr hb] at hy;exact jht hb hy
 ·obtain rfl:=hz l e
  exact Run.map (g:=fun p=>[Syn.mk 6 (pHd l).a ⟨#[]⟩ 0 p]) hy
theorem jkj (hf:st.fine) (hz:hasA st z) (hx:Stp .decls (d+1) (entR st d) xs s2) (hy:Run (jdM (d+1)) s2 ys s):Stp .body d st [.mk 6 z ⟨#[]⟩ 0 (xs++ys)] s:=by
 refine jjd (jg8 hf (fun hb=>?_) fun l e=>?_)
 ·rw[jjr hb] at hx
  have:=jht hb hx
  subst this
  exact jht hb hy
 ·obtain rfl:=hz l e
  exact Run.bind hx (Run.map (g:=fun p=>[Syn.mk 6 (pHd l).a ⟨#[]⟩ 0 (xs++p)]) hy)
theorem jkk {l:List Tk} (hl:l≠[]) (hx:Stp (.list .param) d (.ok (pTl l)) xs s):Run (jaY d) (.ok l) (.mk 7 (pHd l).a ⟨#[]⟩ 0 xs) (jad (rIs s [59]) s):=by
 have f1:RSt.fine (.ok (pTl l)):=jaJ hl
 have f2:=Run.fine hx f1
 exact Run.bind (jaS (L:=[]) hl) (Run.bind hx (Run.bind (jbi f2 [59]) (ja1 (jah f2))))
end
end Go.Proofs.YtenmmmdnpglkoaaGreatDoor
