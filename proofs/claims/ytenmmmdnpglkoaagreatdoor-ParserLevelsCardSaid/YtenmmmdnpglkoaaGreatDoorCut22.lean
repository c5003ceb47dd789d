import Derived.Test.YtenmmmdnpglkoaaGreatDoorCut21
set_option linter.unusedSimpArgs false
set_option linter.unusedVariables false
set_option maxRecDepth 100000
set_option maxHeartbeats 8000000
/-
 The reference's reader: fail, next, is, take, need, level, named, name over its state.
-/
namespace Go.Proofs.YtenmmmdnpglkoaaGreatDoor
open Go Go.Proofs Go.RowKit Go.Sort
section
variable {R:Nat} {L:List Tk} {nx:Nat} {op er a:Int} {w:World}
theorem jgz (h:RdAt w R L nx op er a) (hn:nx<L.length) (z:Int) :
  Calls Tryz.prog 24 #[.pointer (some ⟨R,0,none⟩),.int .i64 z] w fun x w'=>x = .returned (.tuple #[])∧RdAt w' R L nx op (if er=0 then z else er) (if er=0 then (tkD L nx).a else a)∧Butt R w w':=by
 have HR:=jD h
 have KH:=jD (fun W (H:RdAt W R L nx op er a)=>jgy H hn)
 have c3:=h.c3
 clear h hn
 by_cases he:er=0
 ·subst he
  rw[if_pos rfl,if_pos rfl]
  generalize (tkD L nx).a=T at *
  go_enter Tryz.func24,Tryz.ntmps24
  go_wp2_with (go_at_call 48;refine cM (KH.out _ HR) ?_;rintro e w3 ⟨rfl,hb3⟩)
  have HR3:=jD (HR.out.keep hb3);have HB3:=jD (Butt.of_below HR.out.lt hb3)
  have y3:=HR3.out.c3
  have y4:=HR3.out.c4
  have f3:=HR3.out.free 3
  have f4:=HR3.out.free 4
  clear hb3 c3
  refine jD ?_
  go_wp2
  go_end0
  exact⟨rfl,(HR3.out.put 3 (by decide) z).put 4 (by decide) T,(HB3.out.setCell 3 (by decide) _).setCell 4 (by decide) _⟩
 ·rw[if_neg he,if_neg he]
  have te:(er==(0:Int))=false:=by rw[beq_eq_false_iff_ne];exact he
  have He:=jD he;clear he
  go_enter Tryz.func24,Tryz.ntmps24
  go_wp2
  go_end0
  exact⟨rfl,HR.out,Butt.refl R w⟩
theorem jje (h:RdAt w R L nx op er a) (hn:nx<L.length) (hL:L.length≤100000) :
  Calls Tryz.prog 59 #[.pointer (some ⟨R,0,none⟩)] w fun x w'=>x = .returned (.tuple #[])∧RdAt w' R L (if er=0 then min (nx+1) (L.length-1) else nx:Nat) op er a∧Butt R w w':=by
 have HR:=jD h
 obtain⟨⟨b,o,c,r0,r1,r2,r3⟩,c1,c2,c3,c4,c5,c6,c7⟩:=h
 have f1:=c6 1
 obtain⟨m,hm⟩:∃ m,L.length=m+1:=⟨L.length-1,by omega⟩
 have u1:wrap64 ((m:Int)+1-1)=(m:Int):=by unfold wrap64;omega
 have u3:wrap64 (m:Int)=(m:Int):=by unfold wrap64;omega
 obtain⟨v2,u2⟩:=jiU ((nx:Int)+1) (by omega) (by omega)
 rw[hm] at r0 ⊢
 rw[Nat.add_sub_cancel]
 by_cases he:er=0
 ·subst he
  rw[if_pos rfl]
  by_cases hl:nx<m
  ·have q1:decide ((nx:Int)<(m:Int))=true:=by rw[decide_eq_true_iff];omega
   have q2:decide (nx<m)=true:=by rw[decide_eq_true_iff];omega
   rw[show min (nx+1) m=nx+1 by omega]
   have e1:=jD (Int.natCast_add nx 1)
   clear hm hn hL r1 r2 r3 c2 c4 c5 c6 c7
   go_enter Tryz.func59,Tryz.ntmps59
   go_wp2_with fail
   go_quiet (fail)
   go_wp2
   go_end0
   exact⟨rfl,by rw[e1.out];exact(HR.out.keep (below_drewN (Below.refl _ _) _)).put 1 (by decide) _,(Butt.of_below HR.out.lt (below_drewN (Below.refl _ _) _)).setCell 1 (by decide) _⟩
  ·have q1:decide ((nx:Int)<(m:Int))=false:=by rw[decide_eq_false_iff_not];omega
   have q2:decide (nx<m)=false:=by rw[decide_eq_false_iff_not];omega
   rw[show min (nx+1) m=nx by omega]
   clear hm hn hL r1 r2 r3 c2 c4 c5 c6 c7
   go_enter Tryz.func59,Tryz.ntmps59
   go_wp2_with fail
   go_quiet (fail)
   go_wp2
   go_end0
   exact⟨rfl,HR.out.keep (below_drewN (Below.refl _ _) _),Butt.of_below HR.out.lt (below_drewN (Below.refl _ _) _)⟩
 ·rw[if_neg he]
  have b1:(er==(0:Int))=false:=by rw[beq_eq_false_iff_ne];exact he
  clear hm hn hL r1 r2 r3 c2 c4 c5 c6 c7
  go_enter Tryz.func59,Tryz.ntmps59
  go_wp2_with fail
  go_quiet (fail)
  go_wp2
  go_end0
  exact⟨rfl,HR.out.keep (below_drewN (Below.refl _ _) _),Butt.of_below HR.out.lt (below_drewN (Below.refl _ _) _)⟩
theorem jl1 (h:RdAt w R L nx op er a) (hn:nx<L.length) (hL:L.length≤100000) (s:ByteArray) :
  Calls Tryz.prog 49 #[.pointer (some ⟨R,0,none⟩),.string s] w fun e w'=>e = .returned (.bool (jdl L nx er 0 s))∧Below w.heap.size w w':=by
 have KA:=jD (jf3 h hn hL 0 (by decide) s)
 clear h hn hL
 generalize jdl L nx er 0 s=B at *
 go_enter Tryz.func49,Tryz.ntmps49
 go_wp2_with (go_at_call 83;refine KA.out.mono ?_;rintro e w3 ⟨rfl,hb3⟩;refine Hid.out ?_)
 have HB3:=jD hb3;clear hb3
 refine jD ?_
 go_wp2
 go_ret
 exact⟨rfl,HB3.out⟩
end
def jmm (st:RSt) (z:Nat):RSt:=match st with
 |.ok l=>.bad (pHd l).a z
 |s=>s
theorem jjf (t:ByteArray) (l:List UInt8):(t.toList==(⟨l.toArray⟩:ByteArray).toList)=(bytes t==l):=by
 rw[Bool.eq_iff_iff,Lib.bytes_beq_iff,jb4,beq_iff_eq]
theorem jeN {L:List Tk} (hL:TkR L) {nx:Nat} (h1:nx<L.length) (h:¬ nx+1<L.length) {s:List UInt8} (hs:s≠[]):(bytes (tkD L nx).t==s)=false:=by
 have e:tkD L nx=jcL L:=by unfold jcL;congr 1;omega
 rw[e,hL.toks.last.2,beq_eq_false_iff_ne]
 intro q
 exact hs q.symm
theorem jmn {L:List Tk} (hL:TkR L) {nx d:Nat} {op er a:Int} {st:RSt} (h1:nx<L.length) (h3:(er=0∧op=d∧st = .ok (L.drop nx))∨(er≠0∧∃ e:Nat,er=e∧st = .bad a e)) {s:List UInt8} (hs:s≠[]):jdl L nx er 0 ⟨s.toArray⟩=rIs st s:=by
 rcases h3 with ⟨rfl,-,rfl⟩|⟨he,e,-,rfl⟩
 ·unfold jdl rIs pIs
  dsimp only
  rw[jjf,jaO h1,decide_eq_true rfl,Nat.add_zero,decide_eq_true h1,Bool.true_and,Bool.true_and]
  by_cases g:nx+1<L.length
  ·rw[decide_eq_true (hL.mid nx g),Bool.true_and]
  ·rw[jeN hL h1 g hs,Bool.and_false]
 ·unfold jdl rIs;rw[decide_eq_false he,Bool.false_and]
theorem jmo {L:List Tk} (hL:TkR L) {nx d:Nat} {op er a:Int} {st:RSt} (h1:nx<L.length) (h3:(er=0∧op=d∧st = .ok (L.drop nx))∨(er≠0∧∃ e:Nat,er=e∧st = .bad a e)) {s:List UInt8} (hs:s≠[]):jdl L nx er 1 ⟨s.toArray⟩=rNx st s:=by
 rcases h3 with ⟨rfl,-,rfl⟩|⟨he,e,-,rfl⟩
 ·unfold jdl rNx jbU
  dsimp only
  rw[jjf,jdA h1,jaO (by omega),decide_eq_true rfl,Bool.true_and]
  by_cases g:nx+1<L.length
  ·rw[show min (nx+1) (L.length-1)=nx+1 by omega,decide_eq_true g,Bool.true_and]
   by_cases g2:nx+1+1<L.length
   ·rw[decide_eq_true (hL.mid (nx+1) g2),Bool.true_and]
   ·rw[jeN hL g g2 hs,Bool.and_false]
  ·rw[show min (nx+1) (L.length-1)=nx by omega,decide_eq_false g,Bool.false_and,jeN hL h1 g hs]
 ·unfold jdl rNx;rw[decide_eq_false he,Bool.false_and]
section
variable {R:Nat} {L:List Tk} {d:Nat} {st:RSt} {w:World}
theorem jcy (h:Rf R L w d st):Calls Tryz.prog 48 #[.pointer (some ⟨R,0,none⟩)] w fun e w'=>∃ z,e = .returned (.int .i64 z)∧(∀ l,st = .ok l→z=(pHd l).a)∧Rf R L w' d st∧Butt R w w':=by
 obtain⟨hf,nx,op,er,a,h1,h2,h3⟩:=h
 refine(jgy h2 h1).mono ?_
 rintro e w' ⟨rfl,hb⟩
 refine⟨_,rfl,fun l hl=>?_,Rf.below ⟨hf,nx,op,er,a,h1,h2,h3⟩ hb,Butt.of_below hf.lt hb⟩
 rcases h3 with ⟨rfl,-,rfl⟩|⟨he,e,-,rfl⟩
 ·cases hl;rw[jaO h1]
 ·cases hl
theorem ris (h:Rf R L w d st) (s:List UInt8) (hs:s≠[]):Calls Tryz.prog 49 #[.pointer (some ⟨R,0,none⟩),.string ⟨s.toArray⟩] w fun e w'=>e = .returned (.bool (rIs st s))∧Rf R L w' d st∧Butt R w w':=by
 obtain⟨hf,nx,op,er,a,h1,h2,h3⟩:=h
 rw[←jmn hf.toks h1 h3 hs]
 refine(jl1 h2 h1 hf.toks.toks.len _).mono ?_
 rintro e w' ⟨rfl,hb⟩
 exact⟨rfl,Rf.below ⟨hf,nx,op,er,a,h1,h2,h3⟩ hb,Butt.of_below hf.lt hb⟩
theorem rnx (h:Rf R L w d st) (s:List UInt8) (hs:s≠[]):Calls Tryz.prog 83 #[.pointer (some ⟨R,0,none⟩),.int .i64 1,.string ⟨s.toArray⟩] w fun e w'=>e = .returned (.bool (rNx st s))∧Rf R L w' d st∧Butt R w w':=by
 obtain⟨hf,nx,op,er,a,h1,h2,h3⟩:=h
 rw[←jmo hf.toks h1 h3 hs]
 refine(jf3 h2 h1 hf.toks.toks.len 1 (by decide) _).mono ?_
 rintro e w' ⟨rfl,hb⟩
 exact⟨rfl,Rf.below ⟨hf,nx,op,er,a,h1,h2,h3⟩ hb,Butt.of_below hf.lt hb⟩
theorem jcu (h:Rf R L w d st):Calls Tryz.prog 59 #[.pointer (some ⟨R,0,none⟩)] w fun e w'=>e = .returned (.tuple #[])∧Rf R L w' d (jaq st)∧Butt R w w':=by
 obtain⟨hf,nx,op,er,a,h1,h2,h3⟩:=h
 refine(jje h2 h1 hf.toks.toks.len).mono ?_
 rintro e w' ⟨rfl,hr,hb⟩
 refine⟨rfl,⟨hf.butt hb,?_⟩,hb⟩
 rcases h3 with ⟨rfl,h4,rfl⟩|⟨he,e,h4,rfl⟩
 ·rw[if_pos rfl] at hr
  exact⟨_,op,0,a,by omega,hr,.inl ⟨rfl,h4,by show RSt.ok (pTl (L.drop nx))=_;rw[jdA h1]⟩⟩
 ·rw[if_neg he] at hr
  exact⟨nx,op,er,a,h1,hr,.inr ⟨he,e,h4,rfl⟩⟩
theorem jjg (h:Rf R L w d st) (z:Nat) (hz:z≠0):Calls Tryz.prog 24 #[.pointer (some ⟨R,0,none⟩),.int .i64 z] w fun e w'=>e = .returned (.tuple #[])∧(∀ d',Rf R L w' d' (jmm st z))∧Butt R w w':=by
 obtain⟨hf,nx,op,er,a,h1,h2,h3⟩:=h
 refine(jgz h2 h1 z).mono ?_
 rintro e w' ⟨rfl,hr,hb⟩
 refine⟨rfl,fun d'=>⟨hf.butt hb,?_⟩,hb⟩
 rcases h3 with ⟨rfl,h4,rfl⟩|⟨he,e,h4,rfl⟩
 ·rw[if_pos rfl,if_pos rfl] at hr
  exact⟨nx,op,z,_,h1,hr,.inr ⟨by omega,z,rfl,by unfold jmm;dsimp only;rw[jaO h1]⟩⟩
 ·rw[if_neg he,if_neg he] at hr
  exact⟨nx,op,er,a,h1,hr,.inr ⟨he,e,h4,rfl⟩⟩
theorem Rf.bad {a:Int} {e d d':Nat} (h:Rf R L w d (.bad a e)):Rf R L w d' (.bad a e):=by
 obtain⟨hf,nx,op,er,a',h1,h2,h3⟩:=h
 rcases h3 with ⟨-,-,h⟩|h3
 ·cases h
 ·exact⟨hf,nx,op,er,a',h1,h2,.inr h3⟩
end
theorem jbD {R:Nat} {L:List Tk} {d:Nat} {st:RSt} {w:World} (h:Rf R L w d st) (s:List UInt8) (hs:s≠[]) :
  Calls Tryz.prog 51 #[.pointer (some ⟨R,0,none⟩),.string ⟨s.toArray⟩] w (fun e w'=>e = .returned (.bool (rIs st s))∧Rf R L w' d (if rIs st s=true then jaq st else st)∧Butt R w w'):=by
 have CI:=fun W (H:Rf R L W d st)=>ris H s hs
 have CN:=fun W (H:Rf R L W d st)=>jcu H
 cases hb:rIs st s with
 |true=>
  rw[hb] at CI
  have KI:=jD CI;have KN:=jD CN;rw[if_pos rfl]
  have HA0:=jD h
  have HLT:=jD h.fix.lt;have HRW:=jD h.fix.lt
  have A0:=jD h;have B0:=jD (Butt.refl R w)
  clear h CI CN hs hb
  go_enter Tryz.func51,Tryz.ntmps51
  go_wp2_with (go_at_call 49;refine cM (KI.out _ A0) ?_;rintro e w1 ⟨rfl,ha1,hb1⟩)
  have A1:=jD ha1;have B1:=jtt B0 hb1
  clear ha1 hb1
  refine jD ?_
  go_wp2_with (go_at_call 59;refine cM (KN.out _ A1) ?_;rintro e w2 ⟨rfl,ha2,hb2⟩)
  have A2:=jD ha2;have B2:=jtt B1 hb2
  clear ha2 hb2
  refine jD ?_
  go_wp2
  go_ret
  exact⟨rfl,A2.out,B2.out⟩
 |false=>
  rw[hb] at CI
  have KI:=jD CI;rw[if_neg Bool.false_ne_true]
  have HA0:=jD h
  have HLT:=jD h.fix.lt;have HRW:=jD h.fix.lt
  have A0:=jD h;have B0:=jD (Butt.refl R w)
  clear h CI CN hs hb
  go_enter Tryz.func51,Tryz.ntmps51
  go_wp2_with (go_at_call 49;refine cM (KI.out _ A0) ?_;rintro e w1 ⟨rfl,ha1,hb1⟩)
  have A1:=jD ha1;have B1:=jtt B0 hb1
  clear ha1 hb1
  refine jD ?_
  go_wp2
  go_ret
  exact⟨rfl,A1.out,B1.out⟩
theorem jbu {R:Nat} {L:List Tk} {d:Nat} {st:RSt} {w:World} (h:Rf R L w d st) (s:List UInt8) (hs:s≠[]) :
  Calls Tryz.prog 52 #[.pointer (some ⟨R,0,none⟩),.string ⟨s.toArray⟩] w (fun e w'=>e = .returned (.tuple #[])∧Rf R L w' d (jad (rIs st s) st)∧Butt R w w'):=by
 have CT:=fun W (H:Rf R L W d st)=>jbD H s hs
 have CF:=fun W (H:Rf R L W d st)=>jjg H 4 (by decide)
 cases hb:rIs st s with
 |true=>
  rw[hb] at CT
  simp only[if_true] at CT;have KT:=jD CT
  have HA0:=jD h
  have HLT:=jD h.fix.lt;have HRW:=jD h.fix.lt
  have A0:=jD h;have B0:=jD (Butt.refl R w)
  clear h CT CF hs hb
  go_enter Tryz.func52,Tryz.ntmps52
  go_wp2_with (go_at_call 51;refine cM (KT.out _ A0) ?_;rintro e w1 ⟨rfl,ha1,hb1⟩)
  have A1:=jD ha1;have B1:=jtt B0 hb1
  clear ha1 hb1
  refine jD ?_
  go_wp2
  go_end0
  exact⟨rfl,(by cases st<;>exact A1),B1.out⟩
 |false=>
  rw[hb] at CT
  simp only[Bool.false_eq_true,if_false] at CT;have KT:=jD CT;have KF:=jD CF
  have HA0:=jD h
  have HLT:=jD h.fix.lt;have HRW:=jD h.fix.lt
  have A0:=jD h;have B0:=jD (Butt.refl R w)
  clear h CT CF hs hb
  go_enter Tryz.func52,Tryz.ntmps52
  go_wp2_with (go_at_call 51;refine cM (KT.out _ A0) ?_;rintro e w1 ⟨rfl,ha1,hb1⟩)
  have A1:=jD ha1;have B1:=jtt B0 hb1
  clear ha1 hb1
  refine jD ?_
  go_wp2_with (go_at_call 24;refine cM (KF.out _ A1) ?_;rintro e w2 ⟨rfl,ha2,hb2⟩)
  have A2:=jD (ha2 d);have B2:=jtt B1 hb2;clear ha2 hb2
  refine jD ?_
  go_wp2
  go_end0
  exact⟨rfl,(by cases st<;>exact A2),B2.out⟩
theorem jam (k a:Int) (t:ByteArray) (ao:Option Addr) (l c:Nat) (w:World) :
  Calls Tryz.prog 47 #[.int .i64 k,.int .i64 a,.string t,.slice ao l c] w fun e w'=>e = .returned (.agg #[.int .i64 k,.int .i64 a,.string t,.int .i64 0,.slice ao l c])∧Below w.heap.size w w':=by
 go_enter Tryz.func47,Tryz.ntmps47
 go_wp2
 have q0:(w.alloc (jO k a t 0 ao l c)).cell? ⟨w.heap.size,0,none⟩=some (.int .i64 k):=World.cell?_alloc_new _ _ _ _
 have q1:(w.alloc (jO k a t 0 ao l c)).cell? ⟨w.heap.size,1,none⟩=some (.int .i64 a):=World.cell?_alloc_new _ _ _ _
 have q2:(w.alloc (jO k a t 0 ao l c)).cell? ⟨w.heap.size,2,none⟩=some (.string t):=World.cell?_alloc_new _ _ _ _
 have q3:(w.alloc (jO k a t 0 ao l c)).cell? ⟨w.heap.size,3,none⟩=some (.int .i64 0):=World.cell?_alloc_new _ _ _ _
 have q4:(w.alloc (jO k a t 0 ao l c)).cell? ⟨w.heap.size,4,none⟩=some (.slice ao l c):=World.cell?_alloc_new _ _ _ _
 refine bodyPost_ret (by simp[results,Tryz.results47,go_sem,q0,q1,q2,q3,q4];rfl) rfl ?_
 exact⟨rfl,jN _⟩
theorem jio {R:Nat} {L:List Tk} {nx:Nat} {op er a:Int} {w:World} (h:RdAt w R L nx op er a) (hn:nx<L.length) :
  Calls Tryz.prog 86 #[.pointer (some ⟨R,0,none⟩)] w fun x w'=>x = .returned (.tuple #[])∧RdAt w' R L nx (wrap64 (op+1)) (if 64<wrap64 (op+1)∧er=0 then 12 else er) (if 64<wrap64 (op+1)∧er=0 then (tkD L nx).a else a)∧Butt R w w':=by
 have KF:=jD (fun W o (H:RdAt W R L nx o er a)=>jgz H hn 12)
 have c2:=h.c2
 have f2:=h.free 2
 have HR2:=jD (h.put 2 (by decide) (wrap64 (op+1)))
 have HB2:=jD ((Butt.refl R w).setCell 2 (by decide) (.int .i64 (wrap64 (op+1))))
 clear h hn
 simp only[if_true] at HR2
 by_cases hz:64<wrap64 (op+1)
 ·have q1:decide (64<wrap64 (op+1))=true:=by rw[decide_eq_true_iff];exact hz
  by_cases he:er=0
  ·subst he
   rw[if_pos ⟨hz,rfl⟩,if_pos ⟨hz,rfl⟩]
   simp only[if_true] at KF
   generalize (tkD L nx).a=T at *
   generalize hzz:wrap64 (op+1)=z at *
   go_enter Tryz.func86,Tryz.ntmps86
   go_wp2_with (go_at_call 24;refine cM (KF.out _ _ HR2) ?_;rintro e w3 ⟨rfl,hr3,hb3⟩)
   have HR3:=jD hr3;have HB3:=jD (HB2.out.trans hb3);clear hr3 hb3
   refine jD ?_
   go_wp2
   go_end0
   exact⟨rfl,HR3.out,HB3.out⟩
  ·rw[if_neg (fun g=>he g.2),if_neg (fun g=>he g.2)]
   simp only[if_neg he] at KF
   generalize hzz:wrap64 (op+1)=z at *
   have HE:=jD he;clear he
   go_enter Tryz.func86,Tryz.ntmps86
   go_wp2_with (go_at_call 24;refine cM (KF.out _ _ HR2) ?_;rintro e w3 ⟨rfl,hr3,hb3⟩)
   have HR3:=jD hr3;have HB3:=jD (HB2.out.trans hb3);clear hr3 hb3
   refine jD ?_
   go_wp2
   go_end0
   exact⟨rfl,HR3.out,HB3.out⟩
 ·have q1:decide (64<wrap64 (op+1))=false:=by rw[decide_eq_false_iff_not];exact hz
  rw[if_neg (fun g=>hz g.1),if_neg (fun g=>hz g.1)]
  generalize hzz:wrap64 (op+1)=z at *
  go_enter Tryz.func86,Tryz.ntmps86
  go_wp2
  go_end0
  exact⟨rfl,HR2.out,HB2.out⟩
theorem jg0 {R:Nat} {L:List Tk} {d:Nat} {st:RSt} {w:World} (h:Rf R L w d st) (hd:d≤64):Calls Tryz.prog 86 #[.pointer (some ⟨R,0,none⟩)] w fun e w'=>e = .returned (.tuple #[])∧Rf R L w' (d+1) (levS st d)∧Butt R w w':=by
 obtain⟨hf,nx,op,er,a,h1,h2,h3⟩:=h
 refine(jio h2 h1).mono ?_
 rintro e w' ⟨rfl,hr,hb⟩
 refine⟨rfl,⟨hf.butt hb,?_⟩,hb⟩
 rcases h3 with ⟨rfl,rfl,rfl⟩|⟨he,e,h4,rfl⟩
 ·have hw:wrap64 ((d:Int)+1)=(d:Int)+1:=by unfold wrap64;omega
  rw[hw] at hr
  unfold levS
  dsimp only
  by_cases h64:d=64
  ·rw[if_pos ⟨by omega,rfl⟩,if_pos ⟨by omega,rfl⟩] at hr
   rw[if_pos h64,jaO h1]
   exact⟨nx,_,12,_,h1,hr,.inr ⟨by decide,12,rfl,rfl⟩⟩
  ·rw[if_neg (by omega),if_neg (by omega)] at hr
   rw[if_neg h64]
   exact⟨nx,_,0,a,h1,hr,.inl ⟨rfl,by omega,rfl⟩⟩
 ·rw[if_neg (fun g=>he g.2),if_neg (fun g=>he g.2)] at hr
  exact⟨nx,_,er,a,h1,hr,.inr ⟨he,e,h4,rfl⟩⟩
theorem beq0 {z:Int} (h:z≠0):(z==(0:Int))=false:=by rw[beq_eq_false_iff_ne];exact h
theorem jip {R:Nat} {L:List Tk} {nx:Nat} {op er a:Int} {w:World} (h:RdAt w R L nx op er a) (hn:nx<L.length) (hs:(tkD L nx).t.size≤9223372036854775807) :
  Calls Tryz.prog 85 #[.pointer (some ⟨R,0,none⟩)] w fun e w'=>e = .returned (.bool (decide (er=0) && ja5 (tkD L nx)))∧Below w.heap.size w w':=by
 obtain⟨⟨b,o,c,r0,r1,r2,r3⟩,c1,c2,c3,c4,c5,c6,c7⟩:=h
 obtain⟨b',o',e',hat⟩:=r1.at c7
 cases e'
 obtain⟨d0,d1,d2⟩:=hat nx hn w (Below.refl _ _)
 have gl:(nx:Int)<(L.length:Int):=by omega
 have g0:(0:Int)≤(nx:Int):=by omega
 have CN:=fun W=>jgJ (tkD L nx).t hs W
 unfold ja5
 generalize tkD L nx=T at *
 obtain⟨tk,tt,ta⟩:=T
 dsimp only at *
 generalize L.length=n at *
 clear hat r1 c2 c4 c5 c6 c7 r2 r3 hn hs
 by_cases he:er=0
 ·subst he
  rw[decide_eq_true rfl,Bool.true_and]
  by_cases h3:tk=0
  ·subst h3
   rw[decide_eq_true rfl,Bool.true_and]
   generalize hx:nmE tt=x at *
   have e1:((x:Int)==(0:Int))=decide (x=0):=by rw[Bool.eq_iff_iff,beq_iff_eq,decide_eq_true_iff];omega
   have g1:∀ d os,(grow (redrawn w d) os).cell? ⟨R,0,none⟩=some (.slice (some ⟨b,o,none⟩) n c):=fun d os=>cell_regrown r0 d os
   have g2:∀ d os,(grow (redrawn w d) os).cell? ⟨R,1,none⟩=some (.int .i64 nx):=fun d os=>cell_regrown c1 d os
   have g3:∀ d os,(grow (redrawn w d) os).cell? ⟨R,3,none⟩=some (.int .i64 0):=fun d os=>cell_regrown c3 d os
   have g4:∀ d os,(grow (redrawn w d) os).cell? ⟨b,o+nx * 3,none⟩=some (.int .i64 0):=fun d os=>cell_regrown d0 d os
   have g5:∀ d os,(grow (redrawn w d) os).cell? ⟨b,o+nx * 3+1,none⟩=some (.string tt):=fun d os=>cell_regrown d1 d os
   have KK:=jD (fun d os=>Calls.regrown_of (CN (grow (redrawn w d) os)))
   clear r0 c1 c3 d0 d1 d2 CN hx
   go_enter Tryz.func85,Tryz.ntmps85
   go_wp2_with fail
   refine wp_region_quiet_below (by kernel_rfl) (by kernel_rfl) ?_
   repeat (quiet_step (first|exact KK _ _))
   refine wpQuiet_nil ?_
   intro _ hw'
   obtain⟨⟨dq,osq⟩,hw''⟩:=hw'
   subst hw''
   go_wp2
   go_ret
   exact⟨rfl,below_regrown w dq osq⟩
  ·have b3:=beq0 h3
   rw[decide_eq_false h3,Bool.false_and]
   clear CN
   go_enter Tryz.func85,Tryz.ntmps85
   go_wp2_with fail
   go_quiet (fail)
   go_wp2
   go_ret
   exact⟨rfl,below_drewN (Below.refl _ _) _⟩
 ·have b1:=beq0 he
  rw[decide_eq_false he,Bool.false_and]
  clear CN
  go_enter Tryz.func85,Tryz.ntmps85
  go_wp2_with fail
  go_quiet (fail)
  go_wp2
  go_ret
  exact⟨rfl,below_drewN (Below.refl _ _) _⟩
theorem jg1 {R:Nat} {L:List Tk} {d:Nat} {st:RSt} {w:World} (h:Rf R L w d st):Calls Tryz.prog 85 #[.pointer (some ⟨R,0,none⟩)] w fun e w'=>e = .returned (.bool (rNm st))∧Rf R L w' d st∧Butt R w w':=by
 obtain⟨hf,nx,op,er,a,h1,h2,h3⟩:=h
 have e1:(decide (er=0) && ja5 (tkD L nx))=rNm st:=by
  rcases h3 with ⟨rfl,-,rfl⟩|⟨he,e,-,rfl⟩
  ·unfold rNm;dsimp only;rw[jaO h1,decide_eq_true rfl,Bool.true_and]
  ·unfold rNm;rw[decide_eq_false he,Bool.false_and]
 rw[←e1]
 refine(jip h2 h1 (Nat.le_trans (hf.toks.toks.size nx) (by decide))).mono ?_
 rintro e w' ⟨rfl,hb⟩
 exact⟨rfl,Rf.below ⟨hf,nx,op,er,a,h1,h2,h3⟩ hb,Butt.of_below hf.lt hb⟩
theorem jfO {R:Nat} {L:List Tk} {d:Nat} {st:RSt} {w:World} (h:Rf R L w d st)  :
  Calls Tryz.prog 53 #[.pointer (some ⟨R,0,none⟩)] w (fun e w'=>∃ t,e = .returned (.string t)∧(∀ l,st = .ok l→rNm st=true→t=(pHd l).t)∧Rf R L w' d (jad (rNm st) st)∧Butt R w w'):=by
 have CM:=fun W (H:Rf R L W d st)=>jg1 H
 have CN:=fun W (H:Rf R L W d st)=>jcu H
 have CF:=fun W (H:Rf R L W d st)=>jjg H 4 (by decide)
 cases hb:rNm st with
 |true=>
  rw[hb] at CM
  have KM:=jD CM;have KN:=jD CN
  have HA0:=jD h
  have HLT:=jD h.fix.lt;have HRW:=jD h.fix.lt
  have A0:=jD h;have B0:=jD (Butt.refl R w)
  clear h CM CN CF
  go_enter Tryz.func53,Tryz.ntmps53
  go_wp2_with (go_at_call 85;refine cM (KM.out _ A0) ?_;rintro e w1 ⟨rfl,ha1,hb1⟩)
  have A1:=jD ha1;have B1:=jtt B0 hb1
  clear ha1 hb1
  refine jD ?_
  have A1':=A1.out
  obtain⟨hf,nx,op,er,a,h1,h2,h3⟩:=A1'
  rcases h3 with ⟨rfl,h4,rfl⟩|⟨he,e,h4,rfl⟩
  rotate_left
  ·exact absurd (show false=true from hb) (by decide)
  obtain⟨⟨b,o,c,r0,r1,r2,r3⟩,c1,c2,c3,c4,c5,c6,c7⟩:=h2
  obtain⟨b',o',e',hat⟩:=r1.at c7
  cases e'
  obtain⟨d0,d1,d2⟩:=hat nx h1 w1 (Below.refl _ _)
  have gl:(nx:Int)<(L.length:Int):=by omega
  have g0:(0:Int)≤(nx:Int):=by omega
  have hT:=jaO h1
  rw[←hT] at d0 d1 d2
  generalize hTT:pHd (L.drop nx)=T at *
  obtain⟨tk,tt,ta⟩:=T
  dsimp only at *
  have HT:=jD hTT;clear hTT hT hat r1 c2 c4 c5 c6 c7 r2 r3 h4 hb d0 d2 h1 hf
  go_wp2_with fail
  go_quiet (fail)
  go_wp2_with (go_at_call 59;refine cM (KN.out _ (A1.out.below (below_drewN (Below.refl _ _) _))) ?_;rintro e w2 ⟨rfl,ha2,hb2⟩)
  have A2:=jD ha2;have B2:=jD ((B1.out.trans (Butt.of_below A1.out.fix.lt (below_drewN (Below.refl _ _) _))).trans hb2);clear ha2 hb2
  refine jD ?_
  go_wp2
  go_ret
  exact⟨_,rfl,fun l hl _=>by cases hl;rw[HT.out],A2.out,B2.out⟩
 |false=>
  rw[hb] at CM
  have KM:=jD CM;have KF:=jD CF
  have HA0:=jD h
  have HLT:=jD h.fix.lt;have HRW:=jD h.fix.lt
  have A0:=jD h;have B0:=jD (Butt.refl R w)
  clear h CM CN CF hb
  go_enter Tryz.func53,Tryz.ntmps53
  go_wp2_with (go_at_call 85;refine cM (KM.out _ A0) ?_;rintro e w1 ⟨rfl,ha1,hb1⟩)
  have A1:=jD ha1;have B1:=jtt B0 hb1
  clear ha1 hb1
  refine jD ?_
  go_wp2_with (go_at_call 24;refine cM (KF.out _ A1) ?_;rintro e w2 ⟨rfl,ha2,hb2⟩)
  have A2:=jD (ha2 d);have B2:=jtt B1 hb2;clear ha2 hb2
  refine jD ?_
  go_wp2
  go_ret
  exact⟨_,rfl,fun l hl h=>absurd h (by decide),(by cases st<;>exact A2),B2.out⟩
abbrev PF (R:Nat) (L:List Tk) (wnt:Want) (d:Nat) (st:RSt) (W:World):Ending→World→Prop:=fun e W'=>
 ∃ x v st',e = .returned v∧synAt W.heap.size W' x v∧Stp wnt d st [x] st'∧Rf R L W' d st'∧Butt R W W'
def GF (f:Nat) (R:Nat) (L:List Tk) (args:Array Value) (wnt:Want) (d:Nat) (st:RSt):Prop:=∀ W:World,Rf R L W d st→Calls Tryz.prog f args W (PF R L wnt d st W)
theorem jas {R:Nat} {L:List Tk} {d0 d q:Nat} {st0 st:RSt} {w W:World} {u0 u1 u2 u3 u4:Value} (h0:Rf R L w d0 st0) (hb:Butt R w W) (ha:Rf R L W d st) (hB:Bx5 W q u0 u1 u2 u3 u4) (hq:w.heap.size≤q)
  (v0 v1 v2 v3 v4:Value) (W':World) (hW:W'=((((W.setCell ⟨q,0,none⟩ v0).setCell ⟨q,1,none⟩ v1).setCell ⟨q,2,none⟩ v2).setCell ⟨q,3,none⟩ v3).setCell ⟨q,4,none⟩ v4) :
  Bx5 W' q v0 v1 v2 v3 v4∧Rf R L W' d st∧Butt R w W'∧Kept (·≠q) W W':=by
 obtain⟨q0,q1,q2,q3,q4⟩:=box5 hB.c0 hB.c1 hB.c2 hB.c3 hB.c4 v0 v1 v2 v3 v4 W' hW
 obtain⟨hf0,nx0,op0,er0,a0,h01,h02,h03⟩:=h0
 obtain⟨hf,nx,op,er,a,h1,h2,h3⟩:=ha
 obtain⟨hr,hbt⟩:=jfv h02 hb h2 hq v0 v1 v2 v3 v4
 rw[←hW] at hr hbt
 have hfr:∀ j,W'.frozen? ⟨q,j,none⟩=false:=fun j=>by
  rw[hW]
  exact(World.frozen?_setCell _ _ _ _).trans ((World.frozen?_setCell _ _ _ _).trans ((World.frozen?_setCell _ _ _ _).trans ((World.frozen?_setCell _ _ _ _).trans ((World.frozen?_setCell _ _ _ _).trans (hB.free j)))))
 have hsz:W'.heap.size=W.heap.size:=by rw[hW];simp
 refine⟨⟨q0,q1,q2,q3,q4,hfr,by rw[hsz];exact hB.lt⟩,⟨hf0.butt hbt,nx,op,er,a,h1,hr,h3⟩,hbt,?_⟩
 rw[hW]
 exact(((((Kept.refl _ W).setCell ⟨q,0,none⟩ (fun h=>h rfl) v0).setCell ⟨q,1,none⟩ (fun h=>h rfl) v1).setCell ⟨q,2,none⟩ (fun h=>h rfl) v2).setCell ⟨q,3,none⟩ (fun h=>h rfl) v3).setCell ⟨q,4,none⟩ (fun h=>h rfl) v4
theorem Rf.less {R d:Nat} {L:List Tk} {W:World} {st:RSt} (h:Rf R L W (d+1) st) (hd:d≤64):∃ z zn,W.cell? ⟨R,2,none⟩=some (.int .i64 z)∧W.frozen? ⟨R,2,none⟩=false∧wrap64 (z-1)=zn∧Rf R L (W.setCell ⟨R,2,none⟩ (.int .i64 zn)) d st∧Butt R W (W.setCell ⟨R,2,none⟩ (.int .i64 zn)):=by
 obtain⟨hf,nx,op,er,a,h1,h2,h3⟩:=h
 have hb:=(Butt.refl R W).setCell 2 (by decide) (.int .i64 (wrap64 (op-1)))
 have hp:=h2.put 2 (by decide) (wrap64 (op-1))
 simp only[if_true] at hp
 refine⟨op,wrap64 (op-1),h2.c2,h2.free 2,rfl,⟨hf.butt hb,nx,wrap64 (op-1),er,a,h1,hp,?_⟩,hb⟩
 rcases h3 with ⟨rfl,rfl,rfl⟩|h3
 ·exact .inl ⟨rfl,by unfold wrap64;omega,rfl⟩
 ·exact .inr h3
def isOk:RSt→Bool
 |.ok _=>true
 |.bad ..=>false
theorem Rf.err {R d:Nat} {L:List Tk} {W:World} {st:RSt} (h:Rf R L W d st):∃ z:Int,W.cell? ⟨R,3,none⟩=some (.int .i64 z)∧((z==(0:Int))=isOk st):=by
 obtain⟨hf,nx,op,er,a,h1,h2,h3⟩:=h
 refine⟨er,h2.c3,?_⟩
 rcases h3 with ⟨rfl,-,rfl⟩|⟨he,e,-,rfl⟩
 ·rfl
 ·exact beq0 he
theorem Rf.setNew {R:Nat} {L:List Tk} {d0 d:Nat} {st0 st:RSt} {w W:World} (h0:Rf R L w d0 st0) (hb:Butt R w W) (ha:Rf R L W d st) (q j:Nat) (hq:w.heap.size≤q) (v:Value) :
  Rf R L (W.setCell ⟨q,j,none⟩ v) d st∧Butt R w (W.setCell ⟨q,j,none⟩ v):=by
 obtain⟨hf0,nx0,op0,er0,a0,h01,h02,h03⟩:=h0
 obtain⟨hf,nx,op,er,a,h1,h2,h3⟩:=ha
 have hR:=h02.lt
 have hbt:=Butt.setNew hR hb ⟨q,j,none⟩ hq v
 have nb:∀ i:Nat,(⟨q,j,none⟩:Addr)≠⟨R,i,none⟩:=fun i e=>by
  have:q=R:=by cases e;rfl
  omega
 have fin:∀ i:Nat,(W.setCell ⟨q,j,none⟩ v).cell? ⟨R,i,none⟩=W.cell? ⟨R,i,none⟩:=fun i=>World.cell?_setCell_other _ ⟨q,j,none⟩ ⟨R,i,none⟩ _ (nb _)
 exact⟨⟨hf0.butt hbt,nx,op,er,a,h1,h02.later hbt ((fin 1).trans h2.c1) ((fin 2).trans h2.c2) ((fin 3).trans h2.c3) ((fin 4).trans h2.c4) (fun i=>(World.frozen?_setCell _ _ _ _).trans (h2.free i)),h3⟩,hbt⟩
theorem Bx5.set2 {W:World} {p:Nat} {v0 v1 v2 v3 v4:Value} (h:Bx5 W p v0 v1 v2 v3 v4) (z:Value):Bx5 (W.setCell ⟨p,2,none⟩ z) p v0 v1 z v3 v4:=by
 obtain⟨c0,c1,c2,c3,c4,hf,hl⟩:=h
 have ho:∀ i,i≠2→(W.setCell ⟨p,2,none⟩ z).cell? ⟨p,i,none⟩=W.cell? ⟨p,i,none⟩:=fun i hi=>World.cell?_setCell_other W ⟨p,2,none⟩ ⟨p,i,none⟩ _ (fun e=>hi (by cases e;rfl))
 exact⟨(ho 0 (by decide)).trans c0,(ho 1 (by decide)).trans c1,jbJ c2 _,(ho 3 (by decide)).trans c3,(ho 4 (by decide)).trans c4,fun i=>(World.frozen?_setCell _ _ _ _).trans (hf i),by simpa using hl⟩
theorem Bx5.set3 {W:World} {p:Nat} {v0 v1 v2 v3 v4:Value} (h:Bx5 W p v0 v1 v2 v3 v4) (z:Value):Bx5 (W.setCell ⟨p,3,none⟩ z) p v0 v1 v2 z v4:=by
 obtain⟨c0,c1,c2,c3,c4,hf,hl⟩:=h
 have ho:∀ i,i≠3→(W.setCell ⟨p,3,none⟩ z).cell? ⟨p,i,none⟩=W.cell? ⟨p,i,none⟩:=fun i hi=>World.cell?_setCell_other W ⟨p,3,none⟩ ⟨p,i,none⟩ _ (fun e=>hi (by cases e;rfl))
 exact⟨(ho 0 (by decide)).trans c0,(ho 1 (by decide)).trans c1,(ho 2 (by decide)).trans c2,jbJ c3 _,(ho 4 (by decide)).trans c4,fun i=>(World.frozen?_setCell _ _ _ _).trans (hf i),by simpa using hl⟩
theorem Bx5.set4 {W:World} {p:Nat} {v0 v1 v2 v3 v4:Value} (h:Bx5 W p v0 v1 v2 v3 v4) (z:Value):Bx5 (W.setCell ⟨p,4,none⟩ z) p v0 v1 v2 v3 z:=by
 obtain⟨c0,c1,c2,c3,c4,hf,hl⟩:=h
 have ho:∀ i,i≠4→(W.setCell ⟨p,4,none⟩ z).cell? ⟨p,i,none⟩=W.cell? ⟨p,i,none⟩:=fun i hi=>World.cell?_setCell_other W ⟨p,4,none⟩ ⟨p,i,none⟩ _ (fun e=>hi (by cases e;rfl))
 exact⟨(ho 0 (by decide)).trans c0,(ho 1 (by decide)).trans c1,(ho 2 (by decide)).trans c2,(ho 3 (by decide)).trans c3,jbJ c4 _,fun i=>(World.frozen?_setCell _ _ _ _).trans (hf i),by simpa using hl⟩
theorem Bx5.setO {W:World} {p q j:Nat} {v0 v1 v2 v3 v4:Value} (h:Bx5 W p v0 v1 v2 v3 v4) (hp:p≠q) (z:Value):Bx5 (W.setCell ⟨q,j,none⟩ z) p v0 v1 v2 v3 v4:=
 h.kept (q:=q) hp ((Kept.refl _ W).setCell ⟨q,j,none⟩ (fun h=>h rfl) z)
section
variable {st:RSt} {d:Nat} {z1 z3:Int} {z2 z4:ByteArray}
abbrev hasA (st:RSt) (z:Int):Prop:=∀ l,st = .ok l→z=(pHd l).a
abbrev hasT (st:RSt) (t:ByteArray):Prop:=∀ l,st = .ok l→rNm st=true→t=(pHd l).t
theorem jg2 {st:RSt} {can:Bool} {s:List UInt8} (h:rIs (jad can st) s=true):∃ l,st = .ok l∧can=true∧pIs s (pTl l)=true:=by
 cases st with
 |bad a e=>exact absurd (show false=true from h) (by decide)
 |ok l=>
  cases can with
  |true=>exact⟨l,rfl,rfl,h⟩
  |false=>exact absurd (show false=true from h) (by decide)
theorem jee (hf:st.fine) (h1:hasA st z1) (h2:hasT st z2) (hd:rIs (jad (rNm st) st) [46]=false):Stp .place d st [.mk 18 z1 z2 0 []] (jad (rNm st) st):=by
 cases st with
 |bad a e=>exact rfl
 |ok l=>
  obtain rfl:=h1 l rfl
  cases hc:ja5 (pHd l) with
  |true=>
   have hc':rNm (.ok l)=true:=hc
   obtain rfl:=h2 l rfl hc'
   rw[hc'] at hd ⊢
   have hd:pIs [46] (pTl l)=false:=hd
   exact jcl (jaJ hf) (jat l) 0 fun f _=>by rw[jaf];simp[jaW,hc,hd,bind,Except.bind,pure,Except.pure];rfl
  |false=>
   have hc':rNm (.ok l)=false:=hc
   rw[hc']
   exact jbj (by decide) 0 fun f _=>by rw[jaf];simp[jaW,hc,bind,Except.bind,pure,Except.pure]
theorem jfP (hf:st.fine) (h1:hasA st z1) (h2:hasT st z2) (hd:rIs (jad (rNm st) st) [46]=true) (s2:RSt) (hs:jaq (jad (rNm st) st)=s2) (h3:hasA s2 z3) (h4:hasT s2 z4):Stp .place d st [.mk 18 z1 z2 0 [.mk 19 z3 z4 0 []]] (jad (rNm s2) s2):=by
 subst hs
 obtain⟨l,rfl,hc',hd⟩:=jg2 hd
 have hc:ja5 (pHd l)=true:=hc'
 obtain rfl:=h1 l rfl
 obtain rfl:=h2 l rfl hc'
 rw[hc'] at h3 h4 ⊢
 obtain rfl:=h3 (pTl (pTl l)) rfl
 have hl:=jat l
 have hl2:=jat (pTl l)
 have hl3:=jat (pTl (pTl l))
 show Stp _ _ _ _ (jad (rNm (.ok (pTl (pTl l)))) (.ok (pTl (pTl l))))
 cases hc2:ja5 (pHd (pTl (pTl l))) with
 |true=>
  have hc3:rNm (.ok (pTl (pTl l)))=true:=hc2
  obtain rfl:=h4 (pTl (pTl l)) rfl hc3
  rw[hc3]
  exact jcl (jaJ (jaJ (jaJ hf))) (by omega) 1 fun f hf=>by obtain⟨g,rfl⟩:∃ g,f=g+1:=⟨f-1,by omega⟩;rw[jaf];simp[jaW,hc,hd,bind,Except.bind,pure,Except.pure];rw[jaf];simp[jaW,hc2,bind,Except.bind,pure,Except.pure];rfl
 |false=>
  have hc3:rNm (.ok (pTl (pTl l)))=false:=hc2
  rw[hc3]
  exact jbj (by decide) 1 fun f hf=>by obtain⟨g,rfl⟩:∃ g,f=g+1:=⟨f-1,by omega⟩;rw[jaf];simp[jaW,hc,hd,bind,Except.bind,pure,Except.pure];rw[jaf];simp[jaW,hc2,bind,Except.bind,pure,Except.pure]
theorem jg3 (hf:st.fine) (h1:hasA st z1) (h2:hasT st z2) (hd:rIs (jad (rNm st) st) [58]=false):Stp .param d st [.mk 4 z1 z2 0 []] (jad (rNm st) st):=by
 cases st with
 |bad a e=>exact rfl
 |ok l=>
  obtain rfl:=h1 l rfl
  cases hc:ja5 (pHd l) with
  |true=>
   have hc':rNm (.ok l)=true:=hc
   obtain rfl:=h2 l rfl hc'
   rw[hc'] at hd ⊢
   have hd:pIs [58] (pTl l)=false:=hd
   exact jcl (jaJ hf) (jat l) 0 fun f _=>by rw[jaf];simp[jaW,hc,hd,bind,Except.bind,pure,Except.pure];rfl
  |false=>
   have hc':rNm (.ok l)=false:=hc
   rw[hc']
   exact jbj (by decide) 0 fun f _=>by rw[jaf];simp[jaW,hc,bind,Except.bind,pure,Except.pure]
theorem jfQ (hf:st.fine) (h1:hasA st z1) (h2:hasT st z2) (hd:rIs (jad (rNm st) st) [58]=true) (s2:RSt) (hs:jaq (jad (rNm st) st)=s2) (h3:hasA s2 z3) (h4:hasT s2 z4):Stp .param d st [.mk 4 z1 z2 0 [.mk 19 z3 z4 0 []]] (jad (rNm s2) s2):=by
 subst hs
 obtain⟨l,rfl,hc',hd⟩:=jg2 hd
 have hc:ja5 (pHd l)=true:=hc'
 obtain rfl:=h1 l rfl
 obtain rfl:=h2 l rfl hc'
 rw[hc'] at h3 h4 ⊢
 obtain rfl:=h3 (pTl (pTl l)) rfl
 have hl:=jat l
 have hl2:=jat (pTl l)
 have hl3:=jat (pTl (pTl l))
 show Stp _ _ _ _ (jad (rNm (.ok (pTl (pTl l)))) (.ok (pTl (pTl l))))
 cases hc2:ja5 (pHd (pTl (pTl l))) with
 |true=>
  have hc3:rNm (.ok (pTl (pTl l)))=true:=hc2
  obtain rfl:=h4 (pTl (pTl l)) rfl hc3
  rw[hc3]
  exact jcl (jaJ (jaJ (jaJ hf))) (by omega) 1 fun f hf=>by obtain⟨g,rfl⟩:∃ g,f=g+1:=⟨f-1,by omega⟩;rw[jaf];simp[jaW,hc,hd,bind,Except.bind,pure,Except.pure];rw[jaf];simp[jaW,hc2,bind,Except.bind,pure,Except.pure];rfl
 |false=>
  have hc3:rNm (.ok (pTl (pTl l)))=false:=hc2
  rw[hc3]
  exact jbj (by decide) 1 fun f hf=>by obtain⟨g,rfl⟩:∃ g,f=g+1:=⟨f-1,by omega⟩;rw[jaf];simp[jaW,hc,hd,bind,Except.bind,pure,Except.pure];rw[jaf];simp[jaW,hc2,bind,Except.bind,pure,Except.pure]
end
theorem jjh {R:Nat} {L:List Tk} {d:Nat} {st:RSt} {w:World} (h:Rf R L w d st)  :
  Calls Tryz.prog 121 #[.pointer (some ⟨R,0,none⟩)] w (PF R L .place d st w):=by
 have hfi:=h.fine
 have CH:=fun W s (H:Rf R L W d s)=>jcy H
 have CN:=fun W s (H:Rf R L W d s)=>jfO H
 have CT:=fun W s (H:Rf R L W d s)=>jbD H [46] (by decide)
 have HNO:=jD (fun z1 z2 h1 h2 hd=>jee (d:=d) (z1:=z1) (z2:=z2) hfi h1 h2 hd)
 have HYES:=jD (fun z1 z2 z3 z4 h1 h2 hd s2 hs h3 h4=>jfP (d:=d) (z1:=z1) (z2:=z2) (z3:=z3) (z4:=z4) hfi h1 h2 hd s2 hs h3 h4)
 cases hb:rIs (jad (rNm st) st) [46] with
 |true=>
  have CT1:=fun W H=>CT W (jad (rNm st) st) H
  rw[hb] at CT1
  simp only[if_true] at CT1
  have HBB:=jD hb;have KH:=jD CH;have KN:=jD CN;have KT:=jD CT1
  have HA0:=jD h
  have HLT:=jD h.fix.lt;have HRW:=jD h.fix.lt
  have A0:=jD (h.alloc jZ);obtain⟨B0,XR0,HPR,HLS⟩:=jS h.fix.lt
  clear h CH CN CT CT1 hb hfi
  go_enter Tryz.func121,Tryz.ntmps121
  go_wp2_with (go_at_call 48;refine cM (KH.out _ _ A0) ?_;rintro e w1 ⟨z1,rfl,hz1,ha1,hb1⟩)
  have HZ1:=jD hz1
  have A1:=jD ha1;have B1:=jtt B0 hb1
  have XR1:=jbb XR0 HPR hb1
  clear ha1 hb1 hz1
  refine jD ?_
  go_wp2_with (go_at_call 47;refine cM (jam _ _ _ _ _ _ _) ?_;rintro e w2 ⟨rfl,hbl2⟩)
  have ha2:=A1.out.below hbl2;have hb2:=Butt.of_below (R:=R) A1.out.fix.lt hbl2;clear hbl2
  have A2:=jD ha2;have B2:=jtt B1 hb2
  have XR2:=jbb XR1 HPR hb2
  clear ha2 hb2
  refine jD ?_
  have A2a:=jD (A2.out.alloc (Obj.cells #[.int .i64 18,.int .i64 z1,.string ⟨#[]⟩,.int .i64 0,.slice none 0 0] 25));have B2a:=jD (B2.out.alloc HRW (Obj.cells #[.int .i64 18,.int .i64 z1,.string ⟨#[]⟩,.int .i64 0,.slice none 0 0] 25))
  have XR2a:=jD (XR2.out.alloc (Obj.cells #[.int .i64 18,.int .i64 z1,.string ⟨#[]⟩,.int .i64 0,.slice none 0 0] 25))
  have HLTQ:Hid (w.heap.size<w2.heap.size):=jD XR2.out.lt
  have PXX:=nR A2.out.fix.lt
  have XX2a:=jD (Bx5.new w2 (.int .i64 18) (.int .i64 z1) (.string ⟨#[]⟩) (.int .i64 0) (.slice none 0 0))
  go_wp2_with (go_at_call 53;refine cM (KN.out _ _ A2a) ?_;rintro e w3 ⟨z3,rfl,hz3,ha3,hb3⟩)
  have HZ3:=jD hz3
  have A3:=jD ha3;have B3:=jtt B2a hb3
  have XR3:=jbb XR2a HPR hb3
  have XX3:=jbb XX2a PXX hb3
  clear ha3 hb3 hz3
  refine jD ?_
  have z_:=XX3.out;have yXX3f2b:=z_.c2;have fXX3f2b:=z_.free 2;clear z_
  have SN:=Rf.setNew HA0 B3 A3 (w2.heap.size) 2 (Nat.le_of_lt (HLTQ.out)) (.string z3)
  have A3f2:=jD SN.1;have B3f2:=jD SN.2;clear SN
  have XR3f2:=jD (XR3.out.setO (q:=w2.heap.size) (j:=2) (Nat.ne_of_lt HLTQ) (.string z3))
  have XX3f2:=jD (XX3.out.set2 (.string z3))
  go_wp2_with (go_at_call 51;refine jX (KT.out _ A3f2) B3f2 XR3f2 HPR fun w4 A4 B4 XR4 hb4=>?_)
  have XX4:=jbb XX3f2 PXX hb4
  clear hb4
  refine jD ?_
  go_wp2_with (go_at_call 48;refine cM (KH.out _ _ A4) ?_;rintro e w5 ⟨z5,rfl,hz5,ha5,hb5⟩)
  have HZ5:=jD hz5
  have A5:=jD ha5;have B5:=jtt B4 hb5
  have XR5:=jbb XR4 HPR hb5
  have XX5:=jbb XX4 PXX hb5
  clear ha5 hb5 hz5
  refine jD ?_
  go_wp2_with (go_at_call 53;refine cM (KN.out _ _ A5) ?_;rintro e w6 ⟨z6,rfl,hz6,ha6,hb6⟩)
  have HZ6:=jD hz6
  have A6:=jD ha6;have B6:=jtt B5 hb6
  have XR6:=jbb XR5 HPR hb6
  have XX6:=jbb XX5 PXX hb6
  clear ha6 hb6 hz6
  refine jD ?_
  go_wp2_with (go_at_call 47;refine cM (jam _ _ _ _ _ _ _) ?_;rintro e w7 ⟨rfl,hbl7⟩)
  have ha7:=A6.out.below hbl7;have hb7:=Butt.of_below (R:=R) A6.out.fix.lt hbl7;clear hbl7
  have A7:=jD ha7;have B7:=jtt B6 hb7
  have XR7:=jbb XR6 HPR hb7
  have XX7:=jbb XX6 PXX hb7
  clear ha7 hb7
  refine jD ?_
  have hAw:offs w.heap.size [w.heap.size,w2.heap.size] w7.heap.size:=⟨B7.out.size,fun hp=>by have g0:=XR7.out.lt;have g1:=XX7.out.lt;simp only[List.mem_cons,List.not_mem_nil,or_false] at hp;omega⟩
  have KI:=jD (jaw (flatIn.one (jac.mpr ⟨_,rfl,Or.inl ⟨rfl,rfl⟩⟩:synIn (offs w.heap.size [w.heap.size,w2.heap.size]) w7 (.mk 19 z5 z6 0 []) (.agg #[.int .i64 19,.int .i64 z5,.string z6,.int .i64 0,.slice none 0 0]))) (by simp) hAw 1 rfl);clear hAw
  have A7a1:=jD (A7.out.alloc (jO 19 z5 z6 0 none 0 0));have B7a1:=jD (B7.out.alloc HRW (jO 19 z5 z6 0 none 0 0))
  have XR7a1:=jD (XR7.out.alloc (jO 19 z5 z6 0 none 0 0))
  have XX7a1:=jD (XX7.out.alloc (jO 19 z5 z6 0 none 0 0))
  have z_:=XX7a1.out;have yXX7f4b:=z_.c4;have fXX7f4b:=z_.free 4;clear z_
  have SN:=Rf.setNew HA0 B7a1 A7a1 (w2.heap.size) 4 (Nat.le_of_lt (HLTQ.out)) (.slice (some ⟨w7.heap.size,0,none⟩) 1 1)
  have A7f4:=jD SN.1;have B7f4:=jD SN.2;clear SN
  have XR7f4:=jD (XR7a1.out.setO (q:=w2.heap.size) (j:=4) (Nat.ne_of_lt HLTQ) (.slice (some ⟨w7.heap.size,0,none⟩) 1 1))
  have XX7f4:=jD (XX7a1.out.set4 (.slice (some ⟨w7.heap.size,0,none⟩) 1 1))
  have KS:=jD (KI.out.keep ⟨Nat.le_of_eq (by simp),fun k hk hl=>((Kept.refl (·≠w2.heap.size) (w7.alloc (jO 19 z5 z6 0 none 0 0))).setCell ⟨w2.heap.size,4,none⟩ (fun h=>h rfl) (.slice (some ⟨w7.heap.size,0,none⟩) 1 1)).block k (fun e=>hk.2 (by simp[e])) hl⟩ (fun k hk _=>hk))
  obtain⟨yXX0,yXX1,yXX2,yXX3,yXX4,-,-⟩:=XX7f4.out
  have FT:=jD (jas HA0 B7f4 A7f4 XR7f4 (jrr _) (.int .i64 18) (.int .i64 z1) (.string z3) (.int .i64 0) (.slice (some ⟨w7.heap.size,0,none⟩) 1 1) _ rfl)
  have GX:=jD (((jac.mpr ⟨_,rfl,KS.out⟩:synIn (offs w.heap.size [w.heap.size,w2.heap.size]) _ (.mk 18 z1 z3 0 [.mk 19 z5 z6 0 []]) _)).kept (by simp) FT.out.2.2.2).at
  obtain⟨yXR0,yXR1,yXR2,yXR3,yXR4,fXR0,fXR1,fXR2,fXR3,fXR4⟩:=bF XR7f4
  obtain⟨r0,r1,r2,r3,r4⟩:=FT.out.1
  have GA:=jD FT.out.2.1;have GB:=jD FT.out.2.2.1
  clear FT
  go_wp2
  refine bodyPost_ret (by simp[results,Tryz.results121,go_sem,r0,r1,r2,r3,r4];rfl) rfl ?_
  exact⟨_,_,_,rfl,GX.out,HYES.out _ _ _ _ HZ1 HZ3 HBB _ rfl HZ5 HZ6,GA.out,GB.out⟩
 |false=>
  have CT1:=fun W H=>CT W (jad (rNm st) st) H
  rw[hb] at CT1
  simp only[Bool.false_eq_true,if_false] at CT1
  have HBB:=jD hb;have KH:=jD CH;have KN:=jD CN;have KT:=jD CT1
  have HA0:=jD h
  have HLT:=jD h.fix.lt;have HRW:=jD h.fix.lt
  have A0:=jD (h.alloc jZ);obtain⟨B0,XR0,HPR,HLS⟩:=jS h.fix.lt
  clear h CH CN CT CT1 hb hfi
  go_enter Tryz.func121,Tryz.ntmps121
  go_wp2_with (go_at_call 48;refine cM (KH.out _ _ A0) ?_;rintro e w1 ⟨z1,rfl,hz1,ha1,hb1⟩)
  have HZ1:=jD hz1
  have A1:=jD ha1;have B1:=jtt B0 hb1
  have XR1:=jbb XR0 HPR hb1
  clear ha1 hb1 hz1
  refine jD ?_
  go_wp2_with (go_at_call 47;refine cM (jam _ _ _ _ _ _ _) ?_;rintro e w2 ⟨rfl,hbl2⟩)
  have ha2:=A1.out.below hbl2;have hb2:=Butt.of_below (R:=R) A1.out.fix.lt hbl2;clear hbl2
  have A2:=jD ha2;have B2:=jtt B1 hb2
  have XR2:=jbb XR1 HPR hb2
  clear ha2 hb2
  refine jD ?_
  have A2a:=jD (A2.out.alloc (Obj.cells #[.int .i64 18,.int .i64 z1,.string ⟨#[]⟩,.int .i64 0,.slice none 0 0] 25));have B2a:=jD (B2.out.alloc HRW (Obj.cells #[.int .i64 18,.int .i64 z1,.string ⟨#[]⟩,.int .i64 0,.slice none 0 0] 25))
  have XR2a:=jD (XR2.out.alloc (Obj.cells #[.int .i64 18,.int .i64 z1,.string ⟨#[]⟩,.int .i64 0,.slice none 0 0] 25))
  have HLTQ:Hid (w.heap.size<w2.heap.size):=jD XR2.out.lt
  have PXX:=nR A2.out.fix.lt
  have XX2a:=jD (Bx5.new w2 (.int .i64 18) (.int .i64 z1) (.string ⟨#[]⟩) (.int .i64 0) (.slice none 0 0))
  go_wp2_with (go_at_call 53;refine cM (KN.out _ _ A2a) ?_;rintro e w3 ⟨z3,rfl,hz3,ha3,hb3⟩)
  have HZ3:=jD hz3
  have A3:=jD ha3;have B3:=jtt B2a hb3
  have XR3:=jbb XR2a HPR hb3
  have XX3:=jbb XX2a PXX hb3
  clear ha3 hb3 hz3
  refine jD ?_
  have z_:=XX3.out;have yXX3f2b:=z_.c2;have fXX3f2b:=z_.free 2;clear z_
  have SN:=Rf.setNew HA0 B3 A3 (w2.heap.size) 2 (Nat.le_of_lt (HLTQ.out)) (.string z3)
  have A3f2:=jD SN.1;have B3f2:=jD SN.2;clear SN
  have XR3f2:=jD (XR3.out.setO (q:=w2.heap.size) (j:=2) (Nat.ne_of_lt HLTQ) (.string z3))
  have XX3f2:=jD (XX3.out.set2 (.string z3))
  go_wp2_with (go_at_call 51;refine jX (KT.out _ A3f2) B3f2 XR3f2 HPR fun w4 A4 B4 XR4 hb4=>?_)
  have XX4:=jbb XX3f2 PXX hb4
  clear hb4
  refine jD ?_
  obtain⟨yXX0,yXX1,yXX2,yXX3,yXX4,-,-⟩:=XX4.out
  have FT:=jD (jas HA0 B4 A4 XR4 (jrr _) (.int .i64 18) (.int .i64 z1) (.string z3) (.int .i64 0) (.slice none 0 0) _ rfl)
  have GX:=jD (((jac.mpr ⟨_,rfl,Or.inl ⟨rfl,rfl⟩⟩:synIn (offs w.heap.size [w.heap.size]) w4 (.mk 18 z1 z3 0 []) _)).kept (by simp) FT.out.2.2.2).at
  obtain⟨yXR0,yXR1,yXR2,yXR3,yXR4,fXR0,fXR1,fXR2,fXR3,fXR4⟩:=bF XR4
  obtain⟨r0,r1,r2,r3,r4⟩:=FT.out.1
  have GA:=jD FT.out.2.1;have GB:=jD FT.out.2.2.1
  clear FT
  go_wp2
  refine bodyPost_ret (by simp[results,Tryz.results121,go_sem,r0,r1,r2,r3,r4];rfl) rfl ?_
  exact⟨_,_,_,rfl,GX.out,HNO.out _ _ HZ1 HZ3 HBB,GA.out,GB.out⟩
end Go.Proofs.YtenmmmdnpglkoaaGreatDoor
