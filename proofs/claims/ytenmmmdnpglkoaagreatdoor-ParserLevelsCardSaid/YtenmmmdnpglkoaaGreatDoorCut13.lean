import Derived.Test.YtenmmmdnpglkoaaGreatDoorCut12
set_option linter.unusedSimpArgs false
set_option linter.unusedVariables false
set_option maxRecDepth 100000
set_option maxHeartbeats 8000000
/-
 parser: what constructs read, composed: statements, procedures, programs.
-/
namespace Go.Proofs.YtenmmmdnpglkoaaGreatDoor
open Go Go.Proofs Go.RowKit
theorem jbX {α : Type} {c:Prop} [Decidable c] {m k:Rd α} {f:Nat} {l:List Tk}:(if c then m else k) f l=if c then m f l else k f l:=by split<;>rfl
section
variable {L:List Tk} {st s1 s2 s3 st':RSt} {d:Nat} {x y z:Syn} {xs ys:List Syn}
def jeb (d:Nat):Rd (List Syn):=jae (mIs jcN) fun b=>if b=true then jae jbg fun t=>mRet [.mk 15 t.a ⟨#[]⟩ 0 []] else jae jbe fun n=>jae jbV fun x=>if n=true∧x=[91] then jal .load d else if n=true∧x=[40] then jal .call d else jal (.lvl 4) d
theorem jdH (f:Nat) (l:List Tk):jaf (f+1) .right d l=jeb d f l:=by
 rw[jaf]
 simp only[jeb,jae,mRet,jbd,jaA,jal,jbm,jbg,jaF,mIs,jbe,jbV,jaB,mNum,jaQ,jaj,jak,jab,jai,pure,Except.pure,jbX]
 repeat' (first|rfl|contradiction|(split<;>try (simp only[*,jaj,jak,jab,if_true,if_false,Bool.false_eq_true])))
theorem jes {xs:List Syn} (h:Run (jeb d) st xs st'):Stp .right d st xs st':=Run.want h jdH
def jaK (d:Nat):Rd (List Syn):=jae jbm fun p=>jae (jal .load d) fun x=>jae (jaA [58,61]) fun _=>jae (jal (.lvl 4) d) fun y=>jae (jaA [59]) fun _=>mRet [.mk 10 p.a p.t 0 ((x.flatMap fun | .mk _ _ _ _ ks=>ks)++y)]
def ja2 (d:Nat):Rd (List Syn):=jae jbm fun p=>jae (jal .call d) fun x=>jae (jaA [59]) fun _=>mRet [.mk 9 p.a ⟨#[]⟩ 0 (.mk 3 p.a ⟨#[]⟩ 0 []::x)]
def ja3 (d:Nat):Rd (List Syn):=jae jbm fun p=>jae (jal (.list .place) d) fun x=>jae (jaA [58,61]) fun _=>jae (jal .right d) fun y=>jae (jaA [59]) fun _=>mRet [.mk 9 p.a ⟨#[]⟩ 0 (.mk 3 p.a ⟨#[]⟩ 0 x::y)]
def jay (d:Nat):Rd (List Syn):=jae jbg fun t=>jal (.chain t.a) d
def jba (d:Nat):Rd (List Syn):=jae jbg fun t=>jae (jal (.lvl 0) d) fun c=>jae (jal .block d) fun b=>mRet [.mk 12 t.a ⟨#[]⟩ 0 (c++b)]
def ja9 (k:Int) (d:Nat):Rd (List Syn):=jae jbg fun t=>jae (jal (.lvl 0) d) fun c=>jae (jaA [59]) fun _=>mRet [.mk k t.a ⟨#[]⟩ 0 c]
def jfd (d:Nat):Rd (List Syn):=jae jbe fun n=>if n=true then (jae jbV fun x=>if x=[91] then jaK d else if x=[40] then ja2 d else ja3 d) else
 jae (mIs wIf) fun b=>if b=true then jay d else jae (mIs jbA) fun b=>if b=true then jba d else jae (mIs jbq) fun b=>if b=true then ja9 13 d else ja9 14 d
theorem jdV (f:Nat) (l:List Tk):jaf (f+1) .stmt d l=jfd d f l:=by
 rw[jaf]
 simp only[jfd,jaK,ja2,ja3,jay,jba,ja9,jae,mRet,jbd,jaA,jal,jbm,jbg,jaF,mIs,jbe,jbV,jaB,mNum,jaQ,jaj,jak,jab,jai,pure,Except.pure,jbX]
 repeat' (first|rfl|contradiction|(split<;>try (simp only[*,jaj,jak,jab,if_true,if_false,Bool.false_eq_true]))|(refine ja8 ?_;rintro⟨_,_⟩;try simp only[jaj,jak,jab,jai]))
theorem jcS {xs:List Syn} (h:Run (jfd d) st xs st'):Stp .stmt d st xs st':=Run.want h jdV
def jec (a:Int) (d:Nat):Rd (List Syn):=jae (jal (.lvl 0) d) fun c=>jae (jal .block d) fun b=>jae (mIs jel) fun e=>if e=true then (jae jbg fun _=>jae (mIs wIf) fun i=>if i=true then (jae (jaF wIf d) fun t=>jae (jal (.chain t.a) (d+1)) fun x=>mRet [.mk 11 a ⟨#[]⟩ 0 (c++b++x)]) else (jae (jal .block d) fun x=>mRet [.mk 11 a ⟨#[]⟩ 0 (c++b++x)])) else mRet [.mk 11 a ⟨#[]⟩ 0 (c++b)]
theorem jdI {a:Int} (f:Nat) (l:List Tk):jaf (f+1) (.chain a) d l=jec a d f l:=by
 rw[jaf]
 simp only[jec,jae,mRet,jbd,jaA,jal,jbm,jbg,jaF,mIs,jbe,jbV,jaB,mNum,jaQ,jaj,jak,jab,jai,pure,Except.pure,jbX]
 repeat' (first|rfl|contradiction|(split<;>try (simp only[*,jaj,jak,jab,if_true,if_false,Bool.false_eq_true]))|(refine ja8 ?_;rintro⟨_,_⟩;try simp only[jaj,jak,jab,jai]))
theorem jet {a:Int} {xs:List Syn} (h:Run (jec a d) st xs st'):Stp (.chain a) d st xs st':=Run.want h jdI
def jgw (d:Nat):Rd (List Syn):=jae (jaF [123] d) fun t=>jae (jal .decls (d+1)) fun x=>jae (jal .stmts (d+1)) fun y=>jae (jaA [125]) fun _=>mRet [.mk 6 t.a ⟨#[]⟩ 0 (x++y)]
theorem jeM (f:Nat) (l:List Tk):jaf (f+1) .body d l=jgw d f l:=by
 rw[jaf]
 simp only[jgw,jae,mRet,jbd,jaA,jal,jbm,jbg,jaF,mIs,jbe,jbV,jaB,mNum,jaQ,jaj,jak,jab,jai,pure,Except.pure,jbX]
 repeat' (first|rfl|contradiction|(split<;>try (simp only[*,jaj,jak,jab,if_true,if_false,Bool.false_eq_true]))|(refine ja8 ?_;rintro⟨_,_⟩;try simp only[jaj,jak,jab,jai]))
theorem jjd {xs:List Syn} (h:Run (jgw d) st xs st'):Stp .body d st xs st':=Run.want h jeM
def jcT (d:Nat):Rd (List Syn):=jae (jaA jaT) fun p=>jae jbd fun t=>jae (jaA [123]) fun _=>jae (jal (.list .bare) d) fun x=>jae (jaA [125]) fun _=>mRet [.mk 1 p.a t.t 0 x]
theorem jc9 (f:Nat) (l:List Tk):jaf (f+1) .record d l=jcT d f l:=by
 rw[jaf]
 simp only[jcT,jae,mRet,jbd,jaA,jal,jbm,jbg,jaF,mIs,jbe,jbV,jaB,mNum,jaQ,jaj,jak,jab,jai,pure,Except.pure,jbX]
 repeat' (first|rfl|contradiction|(split<;>try (simp only[*,jaj,jak,jab,if_true,if_false,Bool.false_eq_true]))|(refine ja8 ?_;rintro⟨_,_⟩;try simp only[jaj,jak,jab,jai]))
theorem jgx {xs:List Syn} (h:Run (jcT d) st xs st'):Stp .record d st xs st':=Run.want h jc9
def jaz (d:Nat):Rd Syn:=jae (jaA [40]) fun o=>jae (jaB [41] .param d) fun ps=>jae (jaA [41]) fun _=>mRet (.mk 3 o.a ⟨#[]⟩ 0 ps)
def jao (d:Nat):Rd Syn:=jae (mIs jcE) fun b=>if b=true then (jae jbg fun _=>jae (jaA [40]) fun o=>jae (jal (.list .param) d) fun x=>jae (jaA [41]) fun _=>mRet (.mk 3 o.a ⟨#[]⟩ 0 x)) else jae jbm fun p=>mRet (.mk 3 p.a ⟨#[]⟩ 0 [])
def jaN (s:List UInt8) (d:Nat):Rd Syn:=jae jbm fun p=>jae (mIs s) fun b=>if b=true then (jae jbg fun _=>jae (jal (.lvl 0) d) fun x=>mRet (.mk 5 p.a ⟨#[]⟩ 0 x)) else mRet (.mk 5 p.a ⟨#[]⟩ 0 [])
def jfe (d:Nat):Rd (List Syn):=jae jbm fun p=>jae (mIs jaR) fun ext=>jae (if ext=true then jbg else jbm) fun _=>jae (jaA jb6) fun _=>jae jbd fun t=>
 jae (jaz d) fun k1=>jae (jao d) fun k2=>jae (jaN jb1 d) fun k3=>jae (jaN jbN d) fun k4=>
 if ext=true then (jae (jaA [59]) fun _=>mRet [.mk 2 p.a t.t 0 [k1,k2,k3,k4]]) else jae (jal .body d) fun b=>mRet [.mk 2 p.a t.t 0 ([k1,k2,k3,k4]++b)]
theorem jdW (f:Nat) (l:List Tk):jaf (f+1) .proc d l=jfe d f l:=by
 rw[jaf]
 simp only[jfe,jaz,jao,jaN,jae,mRet,jbd,jaA,jal,jbm,jbg,jaF,mIs,jbe,jbV,jaB,mNum,jaQ,jaj,jak,jab,jai,pure,Except.pure,jbX]
 cases hI:pIs jaR l<;>simp only[if_true,if_false,Bool.false_eq_true,jaj,jak,jab,jai]
 all_goals
  repeat' (first|rfl|contradiction|(split<;>try (simp only[*,jaj,jak,jab,jai,if_true,if_false,Bool.false_eq_true]))|(refine ja8 ?_;rintro⟨_,_⟩;try simp only[jaj,jak,jab,jai]))
theorem jhf {xs:List Syn} (h:Run (jfe d) st xs st'):Stp .proc d st xs st':=Run.want h jdW
def jaY (d:Nat):Rd Syn:=jae jbg fun t=>jae (jal (.list .param) d) fun x=>jae (jaA [59]) fun _=>mRet (.mk 7 t.a ⟨#[]⟩ 0 x)
def jaD:Rd Syn:=jae jbg fun t0=>jae jbd fun t=>jae (jaA [91]) fun _=>jae mNum fun n=>jae (jaA [93]) fun _=>jae (jaA [59]) fun _=>mRet (.mk 8 t0.a t.t n [])
def jed (d:Nat):Rd (List Syn):=jae (mIs wVar) fun b=>if b=true then (jae (jaY d) fun x=>jae (jal .decls d) fun y=>mRet (x::y)) else jae (mIs jdi) fun b=>if b=true then (jae jaD fun x=>jae (jal .decls d) fun y=>mRet (x::y)) else mRet []
theorem jdJ (f:Nat) (l:List Tk):jaf (f+1) .decls d l=jed d f l:=by
 rw[jaf]
 simp only[jed,jaY,jaD,jae,mRet,jbd,jaA,jal,jbm,jbg,jaF,mIs,jbe,jbV,jaB,mNum,jaQ,jaj,jak,jab,jai,pure,Except.pure,jbX]
 repeat' (first|rfl|contradiction|(split<;>try (simp only[*,jaj,jak,jab,jai,if_true,if_false,Bool.false_eq_true,ne_eq,not_true_eq_false,not_false_eq_true]))|(refine ja8 ?_;rintro⟨_,_⟩;try simp only[jaj,jak,jab,jai]))
theorem jfN {xs:List Syn} (h:Run (jed d) st xs st'):Stp .decls d st xs st':=Run.want h jdJ
def jdk (d:Nat):Rd (List Syn):=jae jbe fun n=>jae (mIs wIf) fun b1=>jae (mIs jbA) fun b2=>jae (mIs jbq) fun b3=>jae (mIs jca) fun b4=>if n=true∨b1=true∨b2=true∨b3=true∨b4=true then (jae (jal .stmt d) fun x=>jae (jal .stmts d) fun y=>mRet (x++y)) else mRet []
theorem jcG (f:Nat) (l:List Tk):jaf (f+1) .stmts d l=jdk d f l:=by
 rw[jaf]
 simp only[jdk,jae,mRet,jbd,jaA,jal,jbm,jbg,jaF,mIs,jbe,jbV,jaB,mNum,jaQ,jaj,jak,jab,jai,pure,Except.pure,jbX]
 repeat' (first|rfl|contradiction|(split<;>try (simp only[*,jaj,jak,jab,jai,if_true,if_false,Bool.false_eq_true]))|(refine ja8 ?_;rintro⟨_,_⟩;try simp only[jaj,jak,jab,jai]))
theorem jhG {xs:List Syn} (h:Run (jdk d) st xs st'):Stp .stmts d st xs st':=Run.want h jcG
def jc1 (a:Int) (d:Nat):Rd (List Syn):=jae (mIs jaT) fun b=>if b=true then (jae (jal .record d) fun x=>jae (jal (.program a) d) fun y=>mRet (x++y)) else jae (mIs jb6) fun b1=>jae (mIs jaR) fun b2=>if b1=true∨b2=true then (jae (jal .proc d) fun x=>jae (jal (.program a) d) fun y=>mRet (x++y)) else mRet []
theorem jcA {a:Int} (f:Nat) (l:List Tk):jaf (f+1) (.program a) d l=jc1 a d f l:=by
 rw[jaf]
 simp only[jc1,jae,mRet,jbd,jaA,jal,jbm,jbg,jaF,mIs,jbe,jbV,jaB,mNum,jaQ,jaj,jak,jab,jai,pure,Except.pure,jbX]
 repeat' (first|rfl|contradiction|(split<;>try (simp only[*,jaj,jak,jab,jai,if_true,if_false,Bool.false_eq_true]))|(refine ja8 ?_;rintro⟨_,_⟩;try simp only[jaj,jak,jab,jai]))
theorem jdX {a:Int} {xs:List Syn} (h:Run (jc1 a d) st xs st'):Stp (.program a) d st xs st':=Run.want h jcA
end
end Go.Proofs.YtenmmmdnpglkoaaGreatDoor

namespace Go.Proofs.YtenmmmdnpglkoaaGreatDoor
open Go Go.Proofs Go.RowKit Go.Sort
theorem kidsIn.butt {R lo:Nat} {ps:List Nat} {W W':World} {xs:List Syn} {v:Value} (h:kidsIn (offs lo ps) W xs v) (hR:R<lo) (hb:Butt R W W'):kidsIn (offs lo ps) W' xs v:=
 kidsIn.keep ⟨hb.size,fun k hk h=>hb.block k h (by have:=hk.1;omega)⟩ (fun _ h _=>h) h
theorem ownT.kidsIn {lo l2:Nat} {ps:List Nat} {W:World} {xs:List Syn} {v:Value} (h:ownT lo W xs v) (hl:l2≤lo) (hp:∀ p∈ps,p<lo):kidsIn (offs l2 ps) W xs v:=by
 refine h.kids.imp_right ?_
 rintro⟨b,c,e1,h1,h2,h3,h4,h5⟩
 have hk:∀ k,lo≤k→k<W.heap.size→offs l2 ps k:=fun k hk _=>⟨Nat.le_trans hl hk,fun hm=>absurd (hp k hm) (Nat.not_lt.mpr hk)⟩
 exact⟨b,c,e1,h1,h2,hk b h3 h4,h4,rowIn.keep ⟨jrr _,fun _ _ _=>rfl⟩ hk xs b 0 h3 h4 ((jcD xs b 0).mpr h5)⟩
theorem kidsIn.kept {lo q:Nat} {ps:List Nat} {W W':World} {xs:List Syn} {v:Value} (h:kidsIn (offs lo ps) W xs v) (hq:q∈ps) (hb:Kept (·≠q) W W'):kidsIn (offs lo ps) W' xs v:=
 kidsIn.keep ⟨hb.size,fun k hk h=>hb.block k (fun e=>hk.2 (e ▸ hq)) h⟩ (fun _ h _=>h) h
abbrev PS (R:Nat) (L:List Tk) (Q:Syn→RSt→Prop) (d:Nat) (W:World):Ending→World→Prop:=fun e W'=>
 ∃ x v st',e = .returned v∧synAt W.heap.size W' x v∧Q x st'∧At R L W' d st'∧Butt R W W'
abbrev PB (R:Nat) (L:List Tk) (s:ByteArray) (wnt:Want) (d:Nat) (st:RSt) (W:World):Ending→World→Prop:=fun e W'=>
 ∃ xs v st',e = .returned v∧ownT W.heap.size W' xs v∧xs.length≤st.rem+1∧LBef L s wnt d st xs st'∧At R L W' d st'∧Butt R W W'
theorem jb8 {can:Bool} {st:RSt}:(jad can st).rem≤st.rem:=by
 cases st with
 |bad a e=>exact jrr _
 |ok l=>
  cases can with
  |true=>exact jat l
  |false=>exact Nat.zero_le _
theorem jdN {R:Nat} {L:List Tk} {d:Nat} {st:RSt} {w:World} (h:At R L w d st) (K:∀ s:RSt,s.rem≤st.rem→GT 112 R L #[.pointer (some ⟨R,0,none⟩)] .param d s) :
  Calls Tryz.prog 111 #[.pointer (some ⟨R,0,none⟩),.string ⟨#[41]⟩,.func (.func 112) #[.pointer (some ⟨R,0,none⟩)] #[]] w (PB R L ⟨#[41]⟩ .param d st w):=by
 have CI:=fun W (H:At R L W d st)=>sis H ⟨#[41]⟩
 have CL:=fun W (H:At R L W d st)=>jcs H K
 cases hb:tIs L st ⟨#[41]⟩ with
 |true=>
  rw[hb] at CI
  have KI:=jD CI;have KL:=jD CL;have HBB:=jD hb
  have HA0:=jD h
  have HLT:=jD h.fix.lt;have HRW:=jD h.fix.lt
  have A0:=jD h;have B0:=jD (Butt.refl R w)
  clear h CI CL K hb
  go_enter Tryz.func111,Tryz.ntmps111
  go_wp2_with (go_at_call 37;refine cM (KI.out _ A0) ?_;rintro e w1 ⟨rfl,ha1,hb1⟩)
  have A1:=jD ha1;have B1:=jtt B0 hb1
  clear ha1 hb1
  refine jD ?_
  go_wp2
  go_ret
  exact⟨[],_,_,rfl,ownT.nil _ _,Nat.zero_le _,.inl ⟨HBB.out,rfl,rfl⟩,A1.out,B1.out⟩
 |false=>
  rw[hb] at CI
  have KI:=jD CI;have KL:=jD CL;have HBB:=jD hb
  have HA0:=jD h
  have HLT:=jD h.fix.lt;have HRW:=jD h.fix.lt
  have A0:=jD h;have B0:=jD (Butt.refl R w)
  clear h CI CL K hb
  go_enter Tryz.func111,Tryz.ntmps111
  go_wp2_with (go_at_call 37;refine cM (KI.out _ A0) ?_;rintro e w1 ⟨rfl,ha1,hb1⟩)
  have A1:=jD ha1;have B1:=jtt B0 hb1
  clear ha1 hb1
  refine jD ?_
  go_wp2_with (go_at_call 74;refine cM (KL.out _ A1) ?_;rintro e w2 ⟨x2,v2,s2,rfl,hx2,hn2,hs2,ha2,hb2⟩)
  obtain⟨o2,c2,rfl⟩:=hx2.slice
  have RW2:=jD (ownT.kidsIn (ps:=[]) hx2 (Nat.le_trans (jrr _) B1.out.size) (by simp))
  have OX2:=jD hx2
  have HS2:=jD hs2;have HN2:=jD hn2
  have A2:=jD ha2;have B2:=jtt B1 hb2
  clear ha2 hb2 hx2 hs2 hn2
  refine jD ?_
  go_wp2
  go_ret
  exact⟨_,_,_,rfl,OX2.out.keep B1.out.size (From.refl _ _),HN2.out,.inr ⟨HBB.out,HS2.out⟩,A2.out,B2.out⟩
theorem jd2 {R:Nat} {L:List Tk} {d:Nat} {st:RSt} {w:World} (h:At R L w d st) (K:∀ s:RSt,s.rem≤st.rem→GT 32 R L #[.pointer (some ⟨R,0,none⟩)] (.lvl 4) d s) :
  Calls Tryz.prog 111 #[.pointer (some ⟨R,0,none⟩),.string ⟨#[41]⟩,.func (.func 32) #[.pointer (some ⟨R,0,none⟩)] #[]] w (PB R L ⟨#[41]⟩ (.lvl 4) d st w):=by
 have CI:=fun W (H:At R L W d st)=>sis H ⟨#[41]⟩
 have CL:=fun W (H:At R L W d st)=>jem H K
 cases hb:tIs L st ⟨#[41]⟩ with
 |true=>
  rw[hb] at CI
  have KI:=jD CI;have KL:=jD CL;have HBB:=jD hb
  have HA0:=jD h
  have HLT:=jD h.fix.lt;have HRW:=jD h.fix.lt
  have A0:=jD h;have B0:=jD (Butt.refl R w)
  clear h CI CL K hb
  go_enter Tryz.func111,Tryz.ntmps111
  go_wp2_with (go_at_call 37;refine cM (KI.out _ A0) ?_;rintro e w1 ⟨rfl,ha1,hb1⟩)
  have A1:=jD ha1;have B1:=jtt B0 hb1
  clear ha1 hb1
  refine jD ?_
  go_wp2
  go_ret
  exact⟨[],_,_,rfl,ownT.nil _ _,Nat.zero_le _,.inl ⟨HBB.out,rfl,rfl⟩,A1.out,B1.out⟩
 |false=>
  rw[hb] at CI
  have KI:=jD CI;have KL:=jD CL;have HBB:=jD hb
  have HA0:=jD h
  have HLT:=jD h.fix.lt;have HRW:=jD h.fix.lt
  have A0:=jD h;have B0:=jD (Butt.refl R w)
  clear h CI CL K hb
  go_enter Tryz.func111,Tryz.ntmps111
  go_wp2_with (go_at_call 37;refine cM (KI.out _ A0) ?_;rintro e w1 ⟨rfl,ha1,hb1⟩)
  have A1:=jD ha1;have B1:=jtt B0 hb1
  clear ha1 hb1
  refine jD ?_
  go_wp2_with (go_at_call 74;refine cM (KL.out _ A1) ?_;rintro e w2 ⟨x2,v2,s2,rfl,hx2,hn2,hs2,ha2,hb2⟩)
  obtain⟨o2,c2,rfl⟩:=hx2.slice
  have RW2:=jD (ownT.kidsIn (ps:=[]) hx2 (Nat.le_trans (jrr _) B1.out.size) (by simp))
  have OX2:=jD hx2
  have HS2:=jD hs2;have HN2:=jD hn2
  have A2:=jD ha2;have B2:=jtt B1 hb2
  clear ha2 hb2 hx2 hs2 hn2
  refine jD ?_
  go_wp2
  go_ret
  exact⟨_,_,_,rfl,OX2.out.keep B1.out.size (From.refl _ _),HN2.out,.inr ⟨HBB.out,HS2.out⟩,A2.out,B2.out⟩
theorem jm5 {R:Nat} {L:List Tk} {d:Nat} {st:RSt} {w:World} (h:At R L w d st) (K:∀ s:RSt,s.rem≤st.rem→GT 32 R L #[.pointer (some ⟨R,0,none⟩)] (.lvl 4) d s) :
  Calls Tryz.prog 148 #[.pointer (some ⟨R,0,none⟩)] w (PS R L (fun x st'=>∃ a t i,x = .mk 16 a t 0 [i]∧Stp .load d st [x] st') d w):=by
 have hfi:=h.fine
 have CN:=fun W (H:At R L W d st)=>jiT H
 have HM:=jD (fun x s'=>jjc (L:=L) (d:=d) (x:=x) (s3:=s') hfi _ _ rfl rfl)
 have hr:(jad (tIs L (jad (isN (cur L st)) st) ⟨#[91]⟩) (jad (isN (cur L st)) st)).rem≤st.rem:=Nat.le_trans jb8 jb8
 generalize jad (isN (cur L st)) st=s1 at *
 generalize tokM L st (isN (cur L st))=T at *
 obtain⟨ek,et,ea⟩:=T
 unfold tkA at *
 dsimp only at *
 have KN:=jD CN;have KL:=jD K;have HR:=jD hr
 have HA0:=jD h
 have HLT:=jD h.fix.lt;have HRW:=jD h.fix.lt
 have A0:=jD (h.alloc jZ);obtain⟨B0,XR0,HPR,HLS⟩:=jS h.fix.lt
 clear h CN K hr hfi
 go_enter Tryz.func148,Tryz.ntmps148
 go_wp2_with (go_at_call 73;refine jR (KN.out _ A0) B0 XR0 HPR fun w1 A1 B1 XR1=>?_)
 refine jD ?_
 have A1a:=jD (A1.out.alloc (jU ek et ea));have B1a:=jD (B1.out.alloc HRW (jU ek et ea))
 have XR1a:=jD (XR1.out.alloc (jU ek et ea))
 have PTT:=nR A1.out.fix.lt
 have TT1a:=jD (Bx3.new w1 (.int .i64 ek) (.string et) (.int .i64 ea))
 go_wp2_with (go_at_call 35;refine jX (jaE A1a ⟨#[91]⟩) B1a XR1a HPR fun w2 A2 B2 XR2 hb2=>?_)
 have TT2:=jD (TT1a.out.butt PTT hb2)
 clear hb2
 refine jD ?_
 go_wp2_with (go_at_call 32;refine cM (KL.out _ HR _ A2) ?_;rintro e w3 ⟨x3,v3,s3,rfl,hx3,hs3,ha3,hb3⟩)
 obtain⟨k3,a3,t3,n3,o3,l3,c3,q3,rfl,rfl,hk3⟩:=hx3.shape
 have HS3:=jD hs3
 have TR3:=tA hx3 B2.out.size XR2.out.lt
 have A3:=jD ha3;have B3:=jtt B2 hb3
 have XR3:=jbb XR2 HPR hb3
 have TT3:=jD (TT2.out.butt PTT hb3)
 clear ha3 hb3 hx3 hk3 hs3
 refine jD ?_
 have A3a1:=jD (A3.out.alloc (jO k3 a3 t3 n3 o3 l3 c3));have B3a1:=jD (B3.out.alloc HRW (jO k3 a3 t3 n3 o3 l3 c3))
 have XR3a1:=jD (XR3.out.alloc (jO k3 a3 t3 n3 o3 l3 c3))
 have TT3a1:=jD (TT3.out.alloc (jO k3 a3 t3 n3 o3 l3 c3))
 have TR33a1:=jww TR3 HLT A3.out.fix.lt (jO k3 a3 t3 n3 o3 l3 c3)
 have PXX:=nR A3.out.fix.lt
 have XX3a1:=jD (jn5 w3 k3 a3 t3 n3 o3 l3 c3)
 go_wp2_with (go_at_call 35;refine jX (jaE A3a1 ⟨#[93]⟩) B3a1 XR3a1 HPR fun w4 A4 B4 XR4 hb4=>?_)
 have TT4:=jD (TT3a1.out.butt PTT hb4)
 have XX4:=jbb XX3a1 PXX hb4
 have TR34:=jvv TR33a1 HLT hb4
 clear hb4
 refine jD ?_
 obtain⟨yTT0,yTT1,yTT2,-,-⟩:=TT4.out
 obtain⟨yXX0,yXX1,yXX2,yXX3,yXX4,-,-⟩:=XX4.out
 have hAw:offs w.heap.size [w.heap.size] w4.heap.size:=⟨Nat.le_trans (jrr _) B4.out.size,fun hp=>by simp only[List.mem_cons,List.not_mem_nil,or_false] at hp;have g0:=XR4.out.lt;omega⟩
 have hki:=jaw (flatIn.one (TR34.out)) (by simp) hAw 1 rfl
 have KI:=jD hki
 clear hAw hki
 go_wp2_with (go_at_call 40;refine cM (jau _ _ _ _ _ _ _) ?_;rintro e w5 ⟨rfl,hb5⟩)
 have hbx:=Butt.of_below (R:=R) A4.out.fix.lt (Below.chain (jN (jO k3 a3 t3 n3 o3 l3 c3)) hb5)
 have ha5:At R L w5 _ _:=⟨A4.out.fix.butt hbx,A4.out.rs.below (Below.chain (jN (jO k3 a3 t3 n3 o3 l3 c3)) hb5)⟩
 have TN:=jD (jac.mpr ⟨_,rfl,KI.out.below hb5⟩:synIn (offs w.heap.size [w.heap.size]) w5 (.mk 16 ea et 0 [(.mk k3 a3 t3 n3 q3)]) _)
 have hb5:=hbx;clear hbx
 have A5:=jD ha5;have B5:=jtt B4 hb5
 have XR5:=jbb XR4 HPR hb5
 have TT5:=jD (TT4.out.butt PTT hb5)
 have XX5:=jbb XX4 PXX hb5
 clear ha5 hb5
 refine jD ?_
 have FT:=jD (ja4 HA0 B5 A5 XR5 (jrr _) (.int .i64 16) (.int .i64 ea) (.string et) (.int .i64 0) (.slice (some ⟨w4.heap.size,0,none⟩) 1 1) _ rfl)
 have GX:=jD ((TN.out).kept (by simp) FT.out.2.2.2).at
 obtain⟨yXR0,yXR1,yXR2,yXR3,yXR4,fXR0,fXR1,fXR2,fXR3,fXR4⟩:=bF XR5
 obtain⟨r0,r1,r2,r3,r4⟩:=FT.out.1
 have GA:=jD FT.out.2.1;have GB:=jD FT.out.2.2.1
 clear FT
 go_wp2
 refine bodyPost_ret (by simp[results,Tryz.results148,go_sem,r0,r1,r2,r3,r4];rfl) rfl ?_
 exact⟨_,_,_,rfl,GX.out,⟨_,_,_,rfl,HM.out _ _ HS3⟩,GA.out,GB.out⟩
theorem jm6 {R:Nat} {L:List Tk} {d:Nat} {st:RSt} {w:World} (h:At R L w d st) (K:∀ s:RSt,s.rem≤st.rem→GT 32 R L #[.pointer (some ⟨R,0,none⟩)] (.lvl 4) d s) :
  Calls Tryz.prog 134 #[.pointer (some ⟨R,0,none⟩)] w (PT R L .call d st w):=by
 have hfi:=h.fine
 have CN:=fun W (H:At R L W d st)=>jiT H
 have HM:=jD (fun x s'=>jl0 (L:=L) (d:=d) (xs:=x) (s3:=s') hfi _ _ rfl rfl)
 have hr:(jad (tIs L (jad (isN (cur L st)) st) ⟨#[40]⟩) (jad (isN (cur L st)) st)).rem≤st.rem:=Nat.le_trans jb8 jb8
 generalize jad (isN (cur L st)) st=s1 at *
 generalize tokM L st (isN (cur L st))=T at *
 obtain⟨ek,et,ea⟩:=T
 unfold tkA at *
 dsimp only at *
 have KN:=jD CN;have KL:=jD (fun s (hs:s.rem≤st.rem) W (H:At R L W d s)=>jd2 H (fun s2 h2=>K s2 (Nat.le_trans h2 hs)));have HR:=jD hr
 have HA0:=jD h
 have HLT:=jD h.fix.lt;have HRW:=jD h.fix.lt
 have A0:=jD (h.alloc jZ);obtain⟨B0,XR0,HPR,HLS⟩:=jS h.fix.lt
 clear h CN K hr hfi
 go_enter Tryz.func134,Tryz.ntmps134
 go_wp2_with (go_at_call 73;refine jR (KN.out _ A0) B0 XR0 HPR fun w1 A1 B1 XR1=>?_)
 refine jD ?_
 have A1a:=jD (A1.out.alloc (jU ek et ea));have B1a:=jD (B1.out.alloc HRW (jU ek et ea))
 have XR1a:=jD (XR1.out.alloc (jU ek et ea))
 have PTT:=nR A1.out.fix.lt
 have TT1a:=jD (Bx3.new w1 (.int .i64 ek) (.string et) (.int .i64 ea))
 go_wp2_with (go_at_call 35;refine jX (jaE A1a ⟨#[40]⟩) B1a XR1a HPR fun w2 A2 B2 XR2 hb2=>?_)
 have TT2:=jD (TT1a.out.butt PTT hb2)
 clear hb2
 refine jD ?_
 go_wp2_with (go_at_call 111;refine cM (KL.out _ HR _ A2) ?_;rintro e w3 ⟨x3,v3,s3,rfl,hx3,hn3,hs3,ha3,hb3⟩)
 obtain⟨o3,c3,rfl⟩:=hx3.slice
 have RW3:=jD (ownT.kidsIn (ps:=[w.heap.size]) hx3 (Nat.le_trans (jrr _) B2.out.size) (fun p hp=>by simp only[List.mem_cons,List.not_mem_nil,or_false] at hp;have g0:=XR2.out.lt;omega))
 have HS3:=jD hs3;have HN3:=jD hn3
 have A3:=jD ha3;have B3:=jtt B2 hb3
 have XR3:=jbb XR2 HPR hb3
 have TT3:=jD (TT2.out.butt PTT hb3)
 clear ha3 hb3 hx3 hs3 hn3
 refine jD ?_
 go_wp2_with (go_at_call 35;refine jX (jaE A3 ⟨#[41]⟩) B3 XR3 HPR fun w4 A4 B4 XR4 hb4=>?_)
 have TT4:=jD (TT3.out.butt PTT hb4)
 have RW34:=jD (RW3.out.butt HLT hb4)
 clear hb4
 refine jD ?_
 obtain⟨yTT0,yTT1,yTT2,-,-⟩:=TT4.out
 go_wp2_with (go_at_call 40;refine cM (jau _ _ _ _ _ _ _) ?_;rintro e w5 ⟨rfl,hb5⟩)
 have hbx:=Butt.of_below (R:=R) A4.out.fix.lt hb5
 have ha5:At R L w5 _ _:=⟨A4.out.fix.butt hbx,A4.out.rs.below hb5⟩
 have TN:=jD (jac.mpr ⟨_,rfl,RW34.out.below hb5⟩:synIn (offs w.heap.size [w.heap.size]) w5 (.mk 17 ea et 0 x3) _)
 have hb5:=hbx;clear hbx
 have A5:=jD ha5;have B5:=jtt B4 hb5
 have XR5:=jbb XR4 HPR hb5
 have TT5:=jD (TT4.out.butt PTT hb5)
 clear ha5 hb5
 refine jD ?_
 have FT:=jD (ja4 HA0 B5 A5 XR5 (jrr _) (.int .i64 17) (.int .i64 ea) (.string et) (.int .i64 0) (.slice o3 x3.length c3) _ rfl)
 have GX:=jD ((TN.out).kept (by simp) FT.out.2.2.2).at
 obtain⟨yXR0,yXR1,yXR2,yXR3,yXR4,fXR0,fXR1,fXR2,fXR3,fXR4⟩:=bF XR5
 obtain⟨r0,r1,r2,r3,r4⟩:=FT.out.1
 have GA:=jD FT.out.2.1;have GB:=jD FT.out.2.2.1
 clear FT
 go_wp2
 refine bodyPost_ret (by simp[results,Tryz.results134,go_sem,r0,r1,r2,r3,r4];rfl) rfl ?_
 exact⟨_,_,_,rfl,GX.out,HM.out _ _ HS3,GA.out,GB.out⟩
end Go.Proofs.YtenmmmdnpglkoaaGreatDoor

namespace Go.Proofs.YtenmmmdnpglkoaaGreatDoor
open Go Go.Proofs Go.RowKit
section
variable {L:List Tk} {st s1 s2 s3 st':RSt} {d:Nat} {x y z:Syn} {xs ys:List Syn}
theorem jjE (hf:st.fine) (hb:tIs L st ⟨#[105,110,112,117,116]⟩=true):Stp .right d st [.mk 15 (cur L st).a ⟨#[]⟩ 0 []] (jaq st):=
 jes (Run.bind (jaM (L:=L) hf jcN) (Run.ite (fun _=>Run.bind (jaS hf) (ja1 (RSt.takeS_fine hf))) (fun h=>absurd hb h)))
theorem jhU (hf:st.fine) (hb:tIs L st ⟨#[105,110,112,117,116]⟩=false) (hn:isN (cur L st)=true) (hx:bytes (jcx L st)=[91]) (hs:Stp .load d st xs st'):Stp .right d st xs st':=
 jes (Run.bind (jaM (L:=L) hf jcN) (Run.ite (fun h=>absurd (hb.symm.trans h) (by decide)) (fun _=>Run.bind (jbn (L:=L) hf) (Run.bind (jcZ (L:=L) hf) (Run.ite (fun _=>hs) (fun h=>absurd ⟨hn,hx⟩ h))))))
theorem jhV (hf:st.fine) (hb:tIs L st ⟨#[105,110,112,117,116]⟩=false) (hn:isN (cur L st)=true) (hx:bytes (jcx L st)=[40]) (hs:Stp .call d st xs st'):Stp .right d st xs st':=
 jes (Run.bind (jaM (L:=L) hf jcN) (Run.ite (fun h=>absurd (hb.symm.trans h) (by decide)) (fun _=>Run.bind (jbn (L:=L) hf) (Run.bind (jcZ (L:=L) hf) (Run.ite (fun h=>absurd (hx.symm.trans h.2) (by decide)) (fun _=>Run.ite (fun _=>hs) (fun h=>absurd ⟨hn,hx⟩ h)))))))
theorem jfr (hf:st.fine) (hb:tIs L st ⟨#[105,110,112,117,116]⟩=false) (hn:isN (cur L st)=false∨(bytes (jcx L st)≠[91]∧bytes (jcx L st)≠[40])) (hs:Stp (.lvl 4) d st xs st'):Stp .right d st xs st':=
 jes (Run.bind (jaM (L:=L) hf jcN) (Run.ite (fun h=>absurd (hb.symm.trans h) (by decide)) (fun _=>Run.bind (jbn (L:=L) hf) (Run.bind (jcZ (L:=L) hf)
  (Run.ite (fun h=>by rcases hn with e|e;exact absurd (e.symm.trans h.1) (by decide);exact absurd h.2 e.1) (fun _=>Run.ite (fun h=>by rcases hn with e|e;exact absurd (e.symm.trans h.1) (by decide);exact absurd h.2 e.2) (fun _=>hs)))))))
theorem Run.any {α : Type} {m:Rd α} {u v:α} (h:Run m st u st') (hb:∀ l,st'≠.ok l):Run m st v st':=by
 cases st with
 |bad a e=>exact h
 |ok l=>
  rcases h with ⟨l1,h1,-⟩|h
  ·exact absurd h1 (hb l1)
  ·exact .inr h
theorem jiG {l l':List Tk} {f:Nat} (h:jaf f .load d l = .ok (xs,l')):∃ i,xs=[.mk 16 (pHd l).a (pHd l).t 0 i]:=by
 cases f with
 |zero=>rw[jaf] at h;cases h
 |succ f=>
  rw[jaf] at h
  unfold jaW at h
  split at h
  ·simp only[jak] at h
   cases h1:jaQ [91] (pTl l) with
   |error e=>rw[h1] at h;simp only[jab] at h;cases h
   |ok l1=>
    rw[h1] at h;simp only[jak] at h
    cases h2:jaf f (.lvl 4) d l1 with
    |error e=>rw[h2] at h;simp only[jab] at h;cases h
    |ok p=>
     obtain⟨y,l3⟩:=p
     rw[h2] at h;simp only[jak] at h
     cases h3:jaQ [93] l3 with
     |error e=>rw[h3] at h;simp only[jab] at h;cases h
     |ok l4=>
      rw[h3] at h;simp only[jak,pure,Except.pure] at h
      cases h
      exact⟨y,rfl⟩
  ·simp only[jab] at h;cases h
theorem jfC {a:Int} {t:ByteArray} {i:Syn} (h:Stp .load d st [.mk 16 a t 0 [i]] s1) (hb:∃ l,s1 = .ok l):a=(cur L st).a∧t=(cur L st).t:=by
 obtain⟨l1,rfl⟩:=hb
 cases st with
 |bad a e=>cases h
 |ok l=>
  rcases elS h with ⟨l2,h2,-,-,N,hN⟩|⟨a,e,-,h2,-⟩
  ·obtain⟨j,hj⟩:=jiG (hN N (jrr _))
   cases hj
   exact⟨rfl,rfl⟩
  ·cases h2
theorem jfs (hf:st.fine) (hn:isN (cur L st)=true) (hx:bytes (jcx L st)=[91]) {a:Int} {t:ByteArray} {i:Syn} (h1:Stp .load d st [.mk 16 a t 0 [i]] s1) (h2:Stp (.lvl 4) d (jad (tIs L s1 ⟨#[58,61]⟩) s1) [y] s2) :
  Stp .stmt d st [.mk 10 a t 0 [i,y]] (jad (tIs L s2 ⟨#[59]⟩) s2):=by
 have f1:=Run.fine h1 hf
 have f2:=jah (can:=tIs L s1 ⟨#[58,61]⟩) f1
 have f3:=Run.fine h2 f2
 have hr:Stp .stmt d st [.mk 10 (cur L st).a (cur L st).t 0 [i,y]] (jad (tIs L s2 ⟨#[59]⟩) s2):=
  jcS (Run.bind (jbn (L:=L) hf) (Run.ite (fun _=>Run.bind (jcZ (L:=L) hf) (Run.ite (fun _=>Run.bind (jby (L:=L) hf) (Run.bind h1 (Run.bind (jaI (L:=L) f1 [58,61]) (Run.bind h2 (Run.bind (jaI (L:=L) f3 [59]) (ja1 (jah f3))))))) (fun h=>absurd hx h))) (fun h=>absurd hn h)))
 cases s1 with
 |ok l=>obtain⟨rfl,rfl⟩:=jfC (L:=L) h1 ⟨l,rfl⟩;exact hr
 |bad b e=>
  refine Run.any hr ?_
  rw[show s2 = .bad b e from h2]
  exact fun l h=>by cases h
theorem jgg (hf:st.fine) (hn:isN (cur L st)=true) (hx:bytes (jcx L st)=[40]) (h1:Stp .call d st [x] s1) :
  Stp .stmt d st [.mk 9 (cur L st).a ⟨#[]⟩ 0 [.mk 3 (cur L st).a ⟨#[]⟩ 0 [],x]] (jad (tIs L s1 ⟨#[59]⟩) s1):=by
 have f1:=Run.fine h1 hf
 exact jcS (Run.bind (jbn (L:=L) hf) (Run.ite (fun _=>Run.bind (jcZ (L:=L) hf) (Run.ite (fun h=>absurd (hx.symm.trans h) (by decide)) (fun _=>Run.ite (fun _=>Run.bind (jby (L:=L) hf) (Run.bind h1 (Run.bind (jaI (L:=L) f1 [59]) (ja1 (jah f1))))) (fun h=>absurd hx h)))) (fun h=>absurd hn h)))
theorem je2 (hf:st.fine) (hn:isN (cur L st)=true) (hx:bytes (jcx L st)≠[91]∧bytes (jcx L st)≠[40]) (h1:Stp (.list .place) d st xs s1) (h2:Stp .right d (jad (tIs L s1 ⟨#[58,61]⟩) s1) [y] s2) :
  Stp .stmt d st [.mk 9 (cur L st).a ⟨#[]⟩ 0 [.mk 3 (cur L st).a ⟨#[]⟩ 0 xs,y]] (jad (tIs L s2 ⟨#[59]⟩) s2):=by
 have f1:=Run.fine h1 hf
 have f2:=jah (can:=tIs L s1 ⟨#[58,61]⟩) f1
 have f3:=Run.fine h2 f2
 exact jcS (Run.bind (jbn (L:=L) hf) (Run.ite (fun _=>Run.bind (jcZ (L:=L) hf) (Run.ite (fun h=>absurd h hx.1) (fun _=>Run.ite (fun h=>absurd h hx.2) (fun _=>Run.bind (jby (L:=L) hf) (Run.bind h1 (Run.bind (jaI (L:=L) f1 [58,61]) (Run.bind h2 (Run.bind (jaI (L:=L) f3 [59]) (ja1 (jah f3)))))))))) (fun h=>absurd hn h)))
theorem jkV (hf:st.fine) (hn:isN (cur L st)=false) (hi:tIs L st ⟨#[105,102]⟩=true) (h:Stp (.chain (cur L st).a) d (jaq st) xs st'):Stp .stmt d st xs st':=
 jcS (Run.bind (jbn (L:=L) hf) (Run.ite (fun h=>absurd (hn.symm.trans h) (by decide)) (fun _=>Run.bind (jaM (L:=L) hf wIf) (Run.ite (fun _=>Run.bind (jaS hf) h) (fun h=>absurd hi h)))))
theorem jft (hf:st.fine) (hn:isN (cur L st)=false) (hi:tIs L st ⟨#[105,102]⟩=false) (hw:tIs L st ⟨#[119,104,105,108,101]⟩=true) (h:Run (jba d) st xs st'):Stp .stmt d st xs st':=
 jcS (Run.bind (jbn (L:=L) hf) (Run.ite (fun h=>absurd (hn.symm.trans h) (by decide)) (fun _=>Run.bind (jaM (L:=L) hf wIf) (Run.ite (fun h=>absurd (hi.symm.trans h) (by decide)) (fun _=>Run.bind (jaM (L:=L) hf jbA) (Run.ite (fun _=>h) (fun h=>absurd hw h)))))))
theorem je3 (hf:st.fine) (hn:isN (cur L st)=false) (hi:tIs L st ⟨#[105,102]⟩=false) (hw:tIs L st ⟨#[119,104,105,108,101]⟩=false) (ha:tIs L st ⟨#[97,115,115,101,114,116]⟩=true) (h:Run (ja9 13 d) st xs st'):Stp .stmt d st xs st':=
 jcS (Run.bind (jbn (L:=L) hf) (Run.ite (fun h=>absurd (hn.symm.trans h) (by decide)) (fun _=>Run.bind (jaM (L:=L) hf wIf) (Run.ite (fun h=>absurd (hi.symm.trans h) (by decide)) (fun _=>Run.bind (jaM (L:=L) hf jbA) (Run.ite (fun h=>absurd (hw.symm.trans h) (by decide)) (fun _=>Run.bind (jaM (L:=L) hf jbq) (Run.ite (fun _=>h) (fun h=>absurd ha h)))))))))
theorem je4 (hf:st.fine) (hn:isN (cur L st)=false) (hi:tIs L st ⟨#[105,102]⟩=false) (hw:tIs L st ⟨#[119,104,105,108,101]⟩=false) (ha:tIs L st ⟨#[97,115,115,101,114,116]⟩=false) (h:Run (ja9 14 d) st xs st'):Stp .stmt d st xs st':=
 jcS (Run.bind (jbn (L:=L) hf) (Run.ite (fun h=>absurd (hn.symm.trans h) (by decide)) (fun _=>Run.bind (jaM (L:=L) hf wIf) (Run.ite (fun h=>absurd (hi.symm.trans h) (by decide)) (fun _=>Run.bind (jaM (L:=L) hf jbA) (Run.ite (fun h=>absurd (hw.symm.trans h) (by decide)) (fun _=>Run.bind (jaM (L:=L) hf jbq) (Run.ite (fun h=>absurd (ha.symm.trans h) (by decide)) (fun _=>h)))))))))
theorem je5 {k:Int} (hf:st.fine) (hc:Stp (.lvl 0) d (jaq st) [x] s1):Run (ja9 k d) st [.mk k (cur L st).a ⟨#[]⟩ 0 [x]] (jad (tIs L s1 ⟨#[59]⟩) s1):=by
 have f1:=Run.fine hc (RSt.takeS_fine hf)
 exact Run.bind (jaS (L:=L) hf) (Run.bind hc (Run.bind (jaI (L:=L) f1 [59]) (ja1 (jah f1))))
theorem jh4 (hf:st.fine) (hc:Stp (.lvl 0) d (jaq st) [x] s1) (hb:Stp .block d s1 [y] s2):Run (jba d) st [.mk 12 (cur L st).a ⟨#[]⟩ 0 [x,y]] s2:=by
 have f1:=Run.fine hc (RSt.takeS_fine hf)
 exact Run.bind (jaS (L:=L) hf) (Run.bind hc (Run.bind hb (ja1 (Run.fine hb f1))))
theorem jjF {a:Int} (hf:st.fine) (hc:Stp (.lvl 0) d st [x] s1) (hb:Stp .block d s1 [y] s2) (he:tIs L s2 ⟨#[101,108,115,101]⟩=false):Stp (.chain a) d st [.mk 11 a ⟨#[]⟩ 0 [x,y]] s2:=by
 have f1:=Run.fine hc hf
 have f2:=Run.fine hb f1
 exact jet (Run.bind hc (Run.bind hb (Run.bind (jaM (L:=L) f2 jel) (Run.ite (fun h=>absurd (he.symm.trans h) (by decide)) (fun _=>ja1 f2)))))
theorem jhW {a:Int} (hf:st.fine) (hc:Stp (.lvl 0) d st [x] s1) (hb:Stp .block d s1 [y] s2) (he:tIs L s2 ⟨#[101,108,115,101]⟩=true) (hi:tIs L (jaq s2) ⟨#[105,102]⟩=false) (hz:Stp .block d (jaq s2) [z] s3):Stp (.chain a) d st [.mk 11 a ⟨#[]⟩ 0 [x,y,z]] s3:=by
 have f1:=Run.fine hc hf
 have f2:=Run.fine hb f1
 have f3:=RSt.takeS_fine f2
 exact jet (Run.bind hc (Run.bind hb (Run.bind (jaM (L:=L) f2 jel) (Run.ite (fun _=>Run.bind (jaS (L:=L) f2) (Run.bind (jaM (L:=L) f3 wIf) (Run.ite (fun h=>absurd (hi.symm.trans h) (by decide)) (fun _=>Run.bind hz (ja1 (Run.fine hz f3)))))) (fun h=>absurd he h)))))
theorem jjG {a:Int} (hf:st.fine) (hc:Stp (.lvl 0) d st [x] s1) (hb:Stp .block d s1 [y] s2) (he:tIs L s2 ⟨#[101,108,115,101]⟩=true) (hi:tIs L (jaq s2) ⟨#[105,102]⟩=true) (hz:Stp (.chain (cur L (jaq s2)).a) (d+1) (jaV L (jaq s2) d true) [z] s3):Stp (.chain a) d st [.mk 11 a ⟨#[]⟩ 0 [x,y,z]] s3:=by
 have f1:=Run.fine hc hf
 have f2:=Run.fine hb f1
 have f3:=RSt.takeS_fine f2
 have hen:=jct (L:=L) (d:=d) f3 wIf
 rw[show tIs L (jaq s2) ⟨wIf.toArray⟩=true from hi] at hen
 exact jet (Run.bind hc (Run.bind hb (Run.bind (jaM (L:=L) f2 jel) (Run.ite (fun _=>Run.bind (jaS (L:=L) f2) (Run.bind (jaM (L:=L) f3 wIf) (Run.ite (fun _=>Run.bind hen (Run.bind hz (ja1 (Run.fine hz (Run.fine hen f3))))) (fun h=>absurd hi h)))) (fun h=>absurd he h)))))
end
end Go.Proofs.YtenmmmdnpglkoaaGreatDoor
