import Derived.Test.YtenmmmdnpglkoaaGreatDoorCut8
import Derived.Lib.QuietBelow
set_option linter.unusedSimpArgs false
set_option linter.unusedVariables false
set_option maxRecDepth 100000
set_option maxHeartbeats 8000000
/-
 parser: condition, expression; a tree appended.
-/
namespace Go.Proofs.YtenmmmdnpglkoaaGreatDoor
open Go Go.Proofs Go.RowKit
theorem jgZ:(Tryz.prog.info? 25).map (fun i=>(i.zero,i.size,i.bytes))=some (some (.agg #[.int .i64 0,.int .i64 0,.string ⟨#[]⟩,.int .i64 0,.slice none 0 0]),5,64):=by kernel_rfl
theorem jap {R:Nat} {W w9:World} {v:Value} (h:W.grownBy w9 v.ownBlock) {lo:Nat} (hv:∀ b,v.ownBlock=some b→lo≤b) (hR:R<lo) (hW:lo≤W.heap.size):Below lo W w9:=
 ⟨h.os,h.tape,h.output,h.size,fun k hk=>h.block k (by omega) (fun e=>by have:=hv k e.symm;omega)⟩
theorem ownT.lo {lo:Nat} {W:World} {xs:List Syn} {v:Value} (h:ownT lo W xs v):∀ b,v.ownBlock=some b→lo≤b∧b<W.heap.size:=by
 obtain⟨cs,⟨h1,h2⟩,h3⟩:=h
 rcases h2 with ⟨rfl,-⟩|⟨g,cap,cur,rfl,g1,g2,-⟩
 ·intro b e;cases e
 ·intro b e;cases e;exact⟨g1,(Array.getElem?_eq_some_iff.1 g2).1⟩
theorem jag {ops:Array Oper} {rest:List Oper} {o:Oper} {a:Act} {W:World} {Q:Exit→Act→World→Prop}
  (hg:o.guard=none) (s x:Operand) (hop:o.op=Op.call { callee:=Callee.builtin Builtin.append,args:=#[s,x],argTypes:=#[23,23] })
  (lo:Nat) (v:Value) (xs:List Syn) (hs:a.eval s=v) (hown:ownT lo W xs v) (hl:xs.length≤1200000) (hbase:lo≤W.heap.size)
  (ad:Nat) (z:Syn) (v0 v1 v2 v3 v4:Value) (hx:a.eval x = .slice (some ⟨ad,0,none⟩) 1 1) (hz:synIn (jcm lo v) W z (.agg #[v0,v1,v2,v3,v4])) (h1:v0.oneCell'=true∧v1.oneCell'=true∧v2.oneCell'=true∧v3.oneCell'=true∧v4.oneCell'=true)
  (hc0:W.cell? ⟨ad,0,none⟩=some v0) (hc1:W.cell? ⟨ad,1,none⟩=some v1) (hc2:W.cell? ⟨ad,2,none⟩=some v2) (hc3:W.cell? ⟨ad,3,none⟩=some v3) (hc4:W.cell? ⟨ad,4,none⟩=some v4)
  (hK:∀ (v':Value) (ao:Option Addr) (cap:Nat) (w9:World),v' = .slice ao (xs.length+1) cap→ownT lo w9 (xs++[z]) v'→W.grownBy w9 v.ownBlock→wpList Tryz.prog ops Q rest (a.put o.dst v') w9) :
  wpList Tryz.prog ops Q (o::rest) a W:=by
 obtain⟨i0,hi,hz0,hz1,hz2⟩:=info_parts jgZ
 obtain⟨cs,hrow,hflat⟩:=hown
 have hown2:∀ b,v.ownBlock=some b→lo≤b∧b<W.heap.size:=ownT.lo ⟨cs,hrow,hflat⟩
 refine wpList_append_lies W hg s x 23 hop lo 25 i0 _ 5 64 Tryz.underlying23 hi hz0 hz1 hz2 rfl (by decide) v xs.length cs hs hrow ⟨ad,0,none⟩ 1 1 [v0,v1,v2,v3,v4] hx rfl ?_ (by intro u hu;simp at hu;rcases hu with rfl|rfl|rfl|rfl|rfl<;>first|exact h1.1|exact h1.2.1|exact h1.2.2.1|exact h1.2.2.2.1|exact h1.2.2.2.2) (by decide) (by unfold maxLen;omega) (by omega) hbase _ rfl ?_
 ·intro j u hu
  match j,hu with
  |0,hu=>simp at hu;subst hu;rw[jb5];exact hc0
  |1,hu=>simp at hu;subst hu;rw[jb5];exact hc1
  |2,hu=>simp at hu;subst hu;rw[jb5];exact hc2
  |3,hu=>simp at hu;subst hu;rw[jb5];exact hc3
  |4,hu=>simp at hu;subst hu;rw[jb5];exact hc4
 ·intro g cap w9 hown9 hgrow hgg hg9
  have hkept:Kept (jcm lo v) W w9:=⟨hgrow.size,fun k hk h=>hgrow.block k h (fun e=>hk.2 e.symm)⟩
  have hset:∀ k,jcm lo v k→k<W.heap.size→jcm lo (.slice (some ⟨g,0,none⟩) (xs.length+1) cap) k:=fun k hk h=>⟨hk.1,fun e=>by
   have e2:g=k:=by cases e;rfl
   rcases hgg with h2|h2
   ·exact hk.2 (by rw[h2,e2])
   ·omega⟩
  refine hK _ _ _ w9 rfl ⟨cs++[v0,v1,v2,v3,v4],?_,?_⟩ hgrow
  ·rw[List.length_append];exact hown9
  ·exact flatIn.app (ys:=[z]) (show flatIn _ _ [z] [v0,v1,v2,v3,v4] from ⟨v0,v1,v2,v3,v4,[],rfl,synIn.keep hkept hset z _ hz,rfl⟩) xs cs (flatIn.keep hkept hset xs cs hflat)
def GT (f:Nat) (R:Nat) (L:List Tk) (args:Array Value) (wnt:Want) (d:Nat) (st:RSt):Prop:=∀ W:World,At R L W d st→Calls Tryz.prog f args W (PT R L wnt d st W)
theorem jcf {R:Nat} {L:List Tk} {d:Nat} {st:RSt} {w:World} (h:At R L w d st) (K:GT 65 R L #[.pointer (some ⟨R,0,none⟩),.int .i64 0] (.lvl 0) d st) :
  Calls Tryz.prog 31 #[.pointer (some ⟨R,0,none⟩)] w (PT R L (.lvl 0) d st w):=by
 have KL:=jD K
 clear K
 have HA0:=jD h
 have HLT:=jD h.fix.lt
 have hA:=h.alloc jZ
 have hB:=(Butt.refl R w).alloc h.fix.lt jZ
 have hX:=Bx5.new w (.int .i64 0) (.int .i64 0) (.string ⟨#[]⟩) (.int .i64 0) (.slice none 0 0)
 have hpR:w.heap.size≠R:=fun e=>absurd h.fix.lt (by rw[e];exact Nat.lt_irrefl _)
 have hls:w.heap.size<(w.alloc jZ).heap.size:=by simp
 have A0:=jD hA;have B0:=jD hB;have XR0:=jD hX;have HPR:=jD hpR;have HLS:=jD hls
 clear hA hB hX hpR hls h 
 go_enter Tryz.func31,Tryz.ntmps31
 go_wp2_with (go_at_call 65;refine(KL.out _ A0).mono ?_;rintro e w1 ⟨x1,v1,s1,rfl,hx1,hs1,ha1,hb1⟩;refine Hid.out ?_)
 obtain⟨k1,a1,t1,n1,o1,l1,c1,q1,rfl,rfl,hk1⟩:=hx1.shape
 have HX1:=jD hx1;have HK1:=jD hk1;have HS1:=jD hs1
 have A1:=jD ha1;have B1:=jD (B0.out.trans hb1)
 have XR1:=jD (XR0.out.butt HPR hb1)
 clear ha1 hb1 hx1 hk1 hs1
 refine jD ?_
 have FT:=jD (jce HA0 B1 A1 XR1 HLS (.mk k1 a1 t1 n1 q1) (.int .i64 k1) (.int .i64 a1) (.string t1) (.int .i64 n1) (.slice o1 l1 c1) (HX1.out) _ rfl)
 have zXR:=XR1.out
 have yXR0:=zXR.c0
 have yXR1:=zXR.c1
 have yXR2:=zXR.c2
 have yXR3:=zXR.c3
 have yXR4:=zXR.c4
 have fXR0:=zXR.free 0
 have fXR1:=zXR.free 1
 have fXR2:=zXR.free 2
 have fXR3:=zXR.free 3
 have fXR4:=zXR.free 4
 clear zXR
 obtain⟨r0,r1,r2,r3,r4,rx,ra,rb⟩:=FT.out
 have GX:=jD rx;have GA:=jD ra;have GB:=jD rb
 clear rx ra rb FT
 go_wp2
 refine bodyPost_ret (by simp[results,Tryz.results31,go_sem,r0,r1,r2,r3,r4];rfl) rfl ?_
 exact⟨_,_,_,rfl,GX.out,HS1.out,GA.out,GB.out⟩
theorem jcM {R:Nat} {L:List Tk} {d:Nat} {st:RSt} {w:World} (h:At R L w d st) (K:GT 65 R L #[.pointer (some ⟨R,0,none⟩),.int .i64 4] (.lvl 4) d st) :
  Calls Tryz.prog 32 #[.pointer (some ⟨R,0,none⟩)] w (PT R L (.lvl 4) d st w):=by
 have KL:=jD K
 clear K
 have HA0:=jD h
 have HLT:=jD h.fix.lt
 have hA:=h.alloc jZ
 have hB:=(Butt.refl R w).alloc h.fix.lt jZ
 have hX:=Bx5.new w (.int .i64 0) (.int .i64 0) (.string ⟨#[]⟩) (.int .i64 0) (.slice none 0 0)
 have hpR:w.heap.size≠R:=fun e=>absurd h.fix.lt (by rw[e];exact Nat.lt_irrefl _)
 have hls:w.heap.size<(w.alloc jZ).heap.size:=by simp
 have A0:=jD hA;have B0:=jD hB;have XR0:=jD hX;have HPR:=jD hpR;have HLS:=jD hls
 clear hA hB hX hpR hls h 
 go_enter Tryz.func32,Tryz.ntmps32
 go_wp2_with (go_at_call 65;refine(KL.out _ A0).mono ?_;rintro e w1 ⟨x1,v1,s1,rfl,hx1,hs1,ha1,hb1⟩;refine Hid.out ?_)
 obtain⟨k1,a1,t1,n1,o1,l1,c1,q1,rfl,rfl,hk1⟩:=hx1.shape
 have HX1:=jD hx1;have HK1:=jD hk1;have HS1:=jD hs1
 have A1:=jD ha1;have B1:=jD (B0.out.trans hb1)
 have XR1:=jD (XR0.out.butt HPR hb1)
 clear ha1 hb1 hx1 hk1 hs1
 refine jD ?_
 have FT:=jD (jce HA0 B1 A1 XR1 HLS (.mk k1 a1 t1 n1 q1) (.int .i64 k1) (.int .i64 a1) (.string t1) (.int .i64 n1) (.slice o1 l1 c1) (HX1.out) _ rfl)
 have zXR:=XR1.out
 have yXR0:=zXR.c0
 have yXR1:=zXR.c1
 have yXR2:=zXR.c2
 have yXR3:=zXR.c3
 have yXR4:=zXR.c4
 have fXR0:=zXR.free 0
 have fXR1:=zXR.free 1
 have fXR2:=zXR.free 2
 have fXR3:=zXR.free 3
 have fXR4:=zXR.free 4
 clear zXR
 obtain⟨r0,r1,r2,r3,r4,rx,ra,rb⟩:=FT.out
 have GX:=jD rx;have GA:=jD ra;have GB:=jD rb
 clear rx ra rb FT
 go_wp2
 refine bodyPost_ret (by simp[results,Tryz.results32,go_sem,r0,r1,r2,r3,r4];rfl) rfl ?_
 exact⟨_,_,_,rfl,GX.out,HS1.out,GA.out,GB.out⟩
end Go.Proofs.YtenmmmdnpglkoaaGreatDoor

namespace Go.Proofs.YtenmmmdnpglkoaaGreatDoor
open Go Go.Proofs Go.RowKit Go.Sort
theorem jdr {R:Nat} {L:List Tk} {d:Nat} {st:RSt} {w:World} (h:At R L w d st):Calls Tryz.prog 72 #[.pointer (some ⟨R,0,none⟩)] w fun e w'=>e = .returned (tkA (cur L st))∧Below w.heap.size w w':=by
 obtain⟨hf,nx,a,er,h1,h2,h3⟩:=h
 rw[jbt h1 h3]
 exact jbF R L nx d a er w h2 h1
theorem jlo {R:Nat} {L:List Tk} {d:Nat} {st:RSt} {w:World} (h:At R L w d st) (K:GT 98 R L #[.pointer (some ⟨R,0,none⟩),.int .i64 0] (.lvl 0) d st) :
  Calls Tryz.prog 65 #[.pointer (some ⟨R,0,none⟩),.int .i64 0] w (PT R L (.lvl 0) d st w):=by
 have KL:=jD K
 clear K
 obtain⟨b,c5,hbR,hbl,hl⟩:=(h.alloc jZ).fix.levels
 have hl0:World.cell? _ ⟨b,0,none⟩=some (.func (.func 98) #[.pointer (some ⟨R,0,none⟩)] #[]):=(hl 0 (by decide)).1
 have HA0:=jD h
 have HLT:=jD h.fix.lt
 have hA:=h.alloc jZ
 have hB:=(Butt.refl R w).alloc h.fix.lt jZ
 have hX:=Bx5.new w (.int .i64 0) (.int .i64 0) (.string ⟨#[]⟩) (.int .i64 0) (.slice none 0 0)
 have hpR:w.heap.size≠R:=fun e=>absurd h.fix.lt (by rw[e];exact Nat.lt_irrefl _)
 have hls:w.heap.size<(w.alloc jZ).heap.size:=by simp
 have A0:=jD hA;have B0:=jD hB;have XR0:=jD hX;have HPR:=jD hpR;have HLS:=jD hls
 clear hA hB hX hpR hls h hl hbR hbl
 go_enter Tryz.func65,Tryz.ntmps65
 go_wp2_with (go_at_call 98;refine(KL.out _ A0).mono ?_;rintro e w1 ⟨x1,v1,s1,rfl,hx1,hs1,ha1,hb1⟩;refine Hid.out ?_)
 obtain⟨k1,a1,t1,n1,o1,l1,c1,q1,rfl,rfl,hk1⟩:=hx1.shape
 have HX1:=jD hx1;have HK1:=jD hk1;have HS1:=jD hs1
 have A1:=jD ha1;have B1:=jD (B0.out.trans hb1)
 have XR1:=jD (XR0.out.butt HPR hb1)
 clear ha1 hb1 hx1 hk1 hs1
 refine jD ?_
 clear c5 hl0
 have FT:=jD (jce HA0 B1 A1 XR1 HLS (.mk k1 a1 t1 n1 q1) (.int .i64 k1) (.int .i64 a1) (.string t1) (.int .i64 n1) (.slice o1 l1 c1) (HX1.out) _ rfl)
 have zXR:=XR1.out
 have yXR0:=zXR.c0
 have yXR1:=zXR.c1
 have yXR2:=zXR.c2
 have yXR3:=zXR.c3
 have yXR4:=zXR.c4
 have fXR0:=zXR.free 0
 have fXR1:=zXR.free 1
 have fXR2:=zXR.free 2
 have fXR3:=zXR.free 3
 have fXR4:=zXR.free 4
 clear zXR
 obtain⟨r0,r1,r2,r3,r4,rx,ra,rb⟩:=FT.out
 have GX:=jD rx;have GA:=jD ra;have GB:=jD rb
 clear rx ra rb FT
 go_wp2
 refine bodyPost_ret (by simp[results,Tryz.results65,go_sem,r0,r1,r2,r3,r4];rfl) rfl ?_
 exact⟨_,_,_,rfl,GX.out,HS1.out,GA.out,GB.out⟩
theorem jlp {R:Nat} {L:List Tk} {d:Nat} {st:RSt} {w:World} (h:At R L w d st) (K:GT 98 R L #[.pointer (some ⟨R,0,none⟩),.int .i64 1] (.lvl 1) d st) :
  Calls Tryz.prog 65 #[.pointer (some ⟨R,0,none⟩),.int .i64 1] w (PT R L (.lvl 1) d st w):=by
 have KL:=jD K
 clear K
 obtain⟨b,c5,hbR,hbl,hl⟩:=(h.alloc jZ).fix.levels
 have hl0:World.cell? _ ⟨b,2,none⟩=some (.func (.func 98) #[.pointer (some ⟨R,0,none⟩)] #[]):=(hl 1 (by decide)).1
 have HA0:=jD h
 have HLT:=jD h.fix.lt
 have hA:=h.alloc jZ
 have hB:=(Butt.refl R w).alloc h.fix.lt jZ
 have hX:=Bx5.new w (.int .i64 0) (.int .i64 0) (.string ⟨#[]⟩) (.int .i64 0) (.slice none 0 0)
 have hpR:w.heap.size≠R:=fun e=>absurd h.fix.lt (by rw[e];exact Nat.lt_irrefl _)
 have hls:w.heap.size<(w.alloc jZ).heap.size:=by simp
 have A0:=jD hA;have B0:=jD hB;have XR0:=jD hX;have HPR:=jD hpR;have HLS:=jD hls
 clear hA hB hX hpR hls h hl hbR hbl
 go_enter Tryz.func65,Tryz.ntmps65
 go_wp2_with (go_at_call 98;refine(KL.out _ A0).mono ?_;rintro e w1 ⟨x1,v1,s1,rfl,hx1,hs1,ha1,hb1⟩;refine Hid.out ?_)
 obtain⟨k1,a1,t1,n1,o1,l1,c1,q1,rfl,rfl,hk1⟩:=hx1.shape
 have HX1:=jD hx1;have HK1:=jD hk1;have HS1:=jD hs1
 have A1:=jD ha1;have B1:=jD (B0.out.trans hb1)
 have XR1:=jD (XR0.out.butt HPR hb1)
 clear ha1 hb1 hx1 hk1 hs1
 refine jD ?_
 clear c5 hl0
 have FT:=jD (jce HA0 B1 A1 XR1 HLS (.mk k1 a1 t1 n1 q1) (.int .i64 k1) (.int .i64 a1) (.string t1) (.int .i64 n1) (.slice o1 l1 c1) (HX1.out) _ rfl)
 have zXR:=XR1.out
 have yXR0:=zXR.c0
 have yXR1:=zXR.c1
 have yXR2:=zXR.c2
 have yXR3:=zXR.c3
 have yXR4:=zXR.c4
 have fXR0:=zXR.free 0
 have fXR1:=zXR.free 1
 have fXR2:=zXR.free 2
 have fXR3:=zXR.free 3
 have fXR4:=zXR.free 4
 clear zXR
 obtain⟨r0,r1,r2,r3,r4,rx,ra,rb⟩:=FT.out
 have GX:=jD rx;have GA:=jD ra;have GB:=jD rb
 clear rx ra rb FT
 go_wp2
 refine bodyPost_ret (by simp[results,Tryz.results65,go_sem,r0,r1,r2,r3,r4];rfl) rfl ?_
 exact⟨_,_,_,rfl,GX.out,HS1.out,GA.out,GB.out⟩
theorem jlq {R:Nat} {L:List Tk} {d:Nat} {st:RSt} {w:World} (h:At R L w d st) (K:GT 99 R L #[.pointer (some ⟨R,0,none⟩),.int .i64 2] (.lvl 2) d st) :
  Calls Tryz.prog 65 #[.pointer (some ⟨R,0,none⟩),.int .i64 2] w (PT R L (.lvl 2) d st w):=by
 have KL:=jD K
 clear K
 obtain⟨b,c5,hbR,hbl,hl⟩:=(h.alloc jZ).fix.levels
 have hl0:World.cell? _ ⟨b,4,none⟩=some (.func (.func 99) #[.pointer (some ⟨R,0,none⟩)] #[]):=(hl 2 (by decide)).1
 have HA0:=jD h
 have HLT:=jD h.fix.lt
 have hA:=h.alloc jZ
 have hB:=(Butt.refl R w).alloc h.fix.lt jZ
 have hX:=Bx5.new w (.int .i64 0) (.int .i64 0) (.string ⟨#[]⟩) (.int .i64 0) (.slice none 0 0)
 have hpR:w.heap.size≠R:=fun e=>absurd h.fix.lt (by rw[e];exact Nat.lt_irrefl _)
 have hls:w.heap.size<(w.alloc jZ).heap.size:=by simp
 have A0:=jD hA;have B0:=jD hB;have XR0:=jD hX;have HPR:=jD hpR;have HLS:=jD hls
 clear hA hB hX hpR hls h hl hbR hbl
 go_enter Tryz.func65,Tryz.ntmps65
 go_wp2_with (go_at_call 99;refine(KL.out _ A0).mono ?_;rintro e w1 ⟨x1,v1,s1,rfl,hx1,hs1,ha1,hb1⟩;refine Hid.out ?_)
 obtain⟨k1,a1,t1,n1,o1,l1,c1,q1,rfl,rfl,hk1⟩:=hx1.shape
 have HX1:=jD hx1;have HK1:=jD hk1;have HS1:=jD hs1
 have A1:=jD ha1;have B1:=jD (B0.out.trans hb1)
 have XR1:=jD (XR0.out.butt HPR hb1)
 clear ha1 hb1 hx1 hk1 hs1
 refine jD ?_
 clear c5 hl0
 have FT:=jD (jce HA0 B1 A1 XR1 HLS (.mk k1 a1 t1 n1 q1) (.int .i64 k1) (.int .i64 a1) (.string t1) (.int .i64 n1) (.slice o1 l1 c1) (HX1.out) _ rfl)
 have zXR:=XR1.out
 have yXR0:=zXR.c0
 have yXR1:=zXR.c1
 have yXR2:=zXR.c2
 have yXR3:=zXR.c3
 have yXR4:=zXR.c4
 have fXR0:=zXR.free 0
 have fXR1:=zXR.free 1
 have fXR2:=zXR.free 2
 have fXR3:=zXR.free 3
 have fXR4:=zXR.free 4
 clear zXR
 obtain⟨r0,r1,r2,r3,r4,rx,ra,rb⟩:=FT.out
 have GX:=jD rx;have GA:=jD ra;have GB:=jD rb
 clear rx ra rb FT
 go_wp2
 refine bodyPost_ret (by simp[results,Tryz.results65,go_sem,r0,r1,r2,r3,r4];rfl) rfl ?_
 exact⟨_,_,_,rfl,GX.out,HS1.out,GA.out,GB.out⟩
theorem jlr {R:Nat} {L:List Tk} {d:Nat} {st:RSt} {w:World} (h:At R L w d st) (K:GT 100 R L #[.pointer (some ⟨R,0,none⟩),.int .i64 3] (.lvl 3) d st) :
  Calls Tryz.prog 65 #[.pointer (some ⟨R,0,none⟩),.int .i64 3] w (PT R L (.lvl 3) d st w):=by
 have KL:=jD K
 clear K
 obtain⟨b,c5,hbR,hbl,hl⟩:=(h.alloc jZ).fix.levels
 have hl0:World.cell? _ ⟨b,6,none⟩=some (.func (.func 100) #[.pointer (some ⟨R,0,none⟩)] #[]):=(hl 3 (by decide)).1
 have HA0:=jD h
 have HLT:=jD h.fix.lt
 have hA:=h.alloc jZ
 have hB:=(Butt.refl R w).alloc h.fix.lt jZ
 have hX:=Bx5.new w (.int .i64 0) (.int .i64 0) (.string ⟨#[]⟩) (.int .i64 0) (.slice none 0 0)
 have hpR:w.heap.size≠R:=fun e=>absurd h.fix.lt (by rw[e];exact Nat.lt_irrefl _)
 have hls:w.heap.size<(w.alloc jZ).heap.size:=by simp
 have A0:=jD hA;have B0:=jD hB;have XR0:=jD hX;have HPR:=jD hpR;have HLS:=jD hls
 clear hA hB hX hpR hls h hl hbR hbl
 go_enter Tryz.func65,Tryz.ntmps65
 go_wp2_with (go_at_call 100;refine(KL.out _ A0).mono ?_;rintro e w1 ⟨x1,v1,s1,rfl,hx1,hs1,ha1,hb1⟩;refine Hid.out ?_)
 obtain⟨k1,a1,t1,n1,o1,l1,c1,q1,rfl,rfl,hk1⟩:=hx1.shape
 have HX1:=jD hx1;have HK1:=jD hk1;have HS1:=jD hs1
 have A1:=jD ha1;have B1:=jD (B0.out.trans hb1)
 have XR1:=jD (XR0.out.butt HPR hb1)
 clear ha1 hb1 hx1 hk1 hs1
 refine jD ?_
 clear c5 hl0
 have FT:=jD (jce HA0 B1 A1 XR1 HLS (.mk k1 a1 t1 n1 q1) (.int .i64 k1) (.int .i64 a1) (.string t1) (.int .i64 n1) (.slice o1 l1 c1) (HX1.out) _ rfl)
 have zXR:=XR1.out
 have yXR0:=zXR.c0
 have yXR1:=zXR.c1
 have yXR2:=zXR.c2
 have yXR3:=zXR.c3
 have yXR4:=zXR.c4
 have fXR0:=zXR.free 0
 have fXR1:=zXR.free 1
 have fXR2:=zXR.free 2
 have fXR3:=zXR.free 3
 have fXR4:=zXR.free 4
 clear zXR
 obtain⟨r0,r1,r2,r3,r4,rx,ra,rb⟩:=FT.out
 have GX:=jD rx;have GA:=jD ra;have GB:=jD rb
 clear rx ra rb FT
 go_wp2
 refine bodyPost_ret (by simp[results,Tryz.results65,go_sem,r0,r1,r2,r3,r4];rfl) rfl ?_
 exact⟨_,_,_,rfl,GX.out,HS1.out,GA.out,GB.out⟩
theorem jls {R:Nat} {L:List Tk} {d:Nat} {st:RSt} {w:World} (h:At R L w d st) (K:GT 98 R L #[.pointer (some ⟨R,0,none⟩),.int .i64 4] (.lvl 4) d st) :
  Calls Tryz.prog 65 #[.pointer (some ⟨R,0,none⟩),.int .i64 4] w (PT R L (.lvl 4) d st w):=by
 have KL:=jD K
 clear K
 obtain⟨b,c5,hbR,hbl,hl⟩:=(h.alloc jZ).fix.levels
 have hl0:World.cell? _ ⟨b,8,none⟩=some (.func (.func 98) #[.pointer (some ⟨R,0,none⟩)] #[]):=(hl 4 (by decide)).1
 have HA0:=jD h
 have HLT:=jD h.fix.lt
 have hA:=h.alloc jZ
 have hB:=(Butt.refl R w).alloc h.fix.lt jZ
 have hX:=Bx5.new w (.int .i64 0) (.int .i64 0) (.string ⟨#[]⟩) (.int .i64 0) (.slice none 0 0)
 have hpR:w.heap.size≠R:=fun e=>absurd h.fix.lt (by rw[e];exact Nat.lt_irrefl _)
 have hls:w.heap.size<(w.alloc jZ).heap.size:=by simp
 have A0:=jD hA;have B0:=jD hB;have XR0:=jD hX;have HPR:=jD hpR;have HLS:=jD hls
 clear hA hB hX hpR hls h hl hbR hbl
 go_enter Tryz.func65,Tryz.ntmps65
 go_wp2_with (go_at_call 98;refine(KL.out _ A0).mono ?_;rintro e w1 ⟨x1,v1,s1,rfl,hx1,hs1,ha1,hb1⟩;refine Hid.out ?_)
 obtain⟨k1,a1,t1,n1,o1,l1,c1,q1,rfl,rfl,hk1⟩:=hx1.shape
 have HX1:=jD hx1;have HK1:=jD hk1;have HS1:=jD hs1
 have A1:=jD ha1;have B1:=jD (B0.out.trans hb1)
 have XR1:=jD (XR0.out.butt HPR hb1)
 clear ha1 hb1 hx1 hk1 hs1
 refine jD ?_
 clear c5 hl0
 have FT:=jD (jce HA0 B1 A1 XR1 HLS (.mk k1 a1 t1 n1 q1) (.int .i64 k1) (.int .i64 a1) (.string t1) (.int .i64 n1) (.slice o1 l1 c1) (HX1.out) _ rfl)
 have zXR:=XR1.out
 have yXR0:=zXR.c0
 have yXR1:=zXR.c1
 have yXR2:=zXR.c2
 have yXR3:=zXR.c3
 have yXR4:=zXR.c4
 have fXR0:=zXR.free 0
 have fXR1:=zXR.free 1
 have fXR2:=zXR.free 2
 have fXR3:=zXR.free 3
 have fXR4:=zXR.free 4
 clear zXR
 obtain⟨r0,r1,r2,r3,r4,rx,ra,rb⟩:=FT.out
 have GX:=jD rx;have GA:=jD ra;have GB:=jD rb
 clear rx ra rb FT
 go_wp2
 refine bodyPost_ret (by simp[results,Tryz.results65,go_sem,r0,r1,r2,r3,r4];rfl) rfl ?_
 exact⟨_,_,_,rfl,GX.out,HS1.out,GA.out,GB.out⟩
theorem jlt {R:Nat} {L:List Tk} {d:Nat} {st:RSt} {w:World} (h:At R L w d st) (K:GT 98 R L #[.pointer (some ⟨R,0,none⟩),.int .i64 5] (.lvl 5) d st) :
  Calls Tryz.prog 65 #[.pointer (some ⟨R,0,none⟩),.int .i64 5] w (PT R L (.lvl 5) d st w):=by
 have KL:=jD K
 clear K
 obtain⟨b,c5,hbR,hbl,hl⟩:=(h.alloc jZ).fix.levels
 have hl0:World.cell? _ ⟨b,10,none⟩=some (.func (.func 98) #[.pointer (some ⟨R,0,none⟩)] #[]):=(hl 5 (by decide)).1
 have HA0:=jD h
 have HLT:=jD h.fix.lt
 have hA:=h.alloc jZ
 have hB:=(Butt.refl R w).alloc h.fix.lt jZ
 have hX:=Bx5.new w (.int .i64 0) (.int .i64 0) (.string ⟨#[]⟩) (.int .i64 0) (.slice none 0 0)
 have hpR:w.heap.size≠R:=fun e=>absurd h.fix.lt (by rw[e];exact Nat.lt_irrefl _)
 have hls:w.heap.size<(w.alloc jZ).heap.size:=by simp
 have A0:=jD hA;have B0:=jD hB;have XR0:=jD hX;have HPR:=jD hpR;have HLS:=jD hls
 clear hA hB hX hpR hls h hl hbR hbl
 go_enter Tryz.func65,Tryz.ntmps65
 go_wp2_with (go_at_call 98;refine(KL.out _ A0).mono ?_;rintro e w1 ⟨x1,v1,s1,rfl,hx1,hs1,ha1,hb1⟩;refine Hid.out ?_)
 obtain⟨k1,a1,t1,n1,o1,l1,c1,q1,rfl,rfl,hk1⟩:=hx1.shape
 have HX1:=jD hx1;have HK1:=jD hk1;have HS1:=jD hs1
 have A1:=jD ha1;have B1:=jD (B0.out.trans hb1)
 have XR1:=jD (XR0.out.butt HPR hb1)
 clear ha1 hb1 hx1 hk1 hs1
 refine jD ?_
 clear c5 hl0
 have FT:=jD (jce HA0 B1 A1 XR1 HLS (.mk k1 a1 t1 n1 q1) (.int .i64 k1) (.int .i64 a1) (.string t1) (.int .i64 n1) (.slice o1 l1 c1) (HX1.out) _ rfl)
 have zXR:=XR1.out
 have yXR0:=zXR.c0
 have yXR1:=zXR.c1
 have yXR2:=zXR.c2
 have yXR3:=zXR.c3
 have yXR4:=zXR.c4
 have fXR0:=zXR.free 0
 have fXR1:=zXR.free 1
 have fXR2:=zXR.free 2
 have fXR3:=zXR.free 3
 have fXR4:=zXR.free 4
 clear zXR
 obtain⟨r0,r1,r2,r3,r4,rx,ra,rb⟩:=FT.out
 have GX:=jD rx;have GA:=jD ra;have GB:=jD rb
 clear rx ra rb FT
 go_wp2
 refine bodyPost_ret (by simp[results,Tryz.results65,go_sem,r0,r1,r2,r3,r4];rfl) rfl ?_
 exact⟨_,_,_,rfl,GX.out,HS1.out,GA.out,GB.out⟩
theorem jlu {R:Nat} {L:List Tk} {d:Nat} {st:RSt} {w:World} (h:At R L w d st) (K:GT 99 R L #[.pointer (some ⟨R,0,none⟩),.int .i64 6] (.lvl 6) d st) :
  Calls Tryz.prog 65 #[.pointer (some ⟨R,0,none⟩),.int .i64 6] w (PT R L (.lvl 6) d st w):=by
 have KL:=jD K
 clear K
 obtain⟨b,c5,hbR,hbl,hl⟩:=(h.alloc jZ).fix.levels
 have hl0:World.cell? _ ⟨b,12,none⟩=some (.func (.func 99) #[.pointer (some ⟨R,0,none⟩)] #[]):=(hl 6 (by decide)).1
 have HA0:=jD h
 have HLT:=jD h.fix.lt
 have hA:=h.alloc jZ
 have hB:=(Butt.refl R w).alloc h.fix.lt jZ
 have hX:=Bx5.new w (.int .i64 0) (.int .i64 0) (.string ⟨#[]⟩) (.int .i64 0) (.slice none 0 0)
 have hpR:w.heap.size≠R:=fun e=>absurd h.fix.lt (by rw[e];exact Nat.lt_irrefl _)
 have hls:w.heap.size<(w.alloc jZ).heap.size:=by simp
 have A0:=jD hA;have B0:=jD hB;have XR0:=jD hX;have HPR:=jD hpR;have HLS:=jD hls
 clear hA hB hX hpR hls h hl hbR hbl
 go_enter Tryz.func65,Tryz.ntmps65
 go_wp2_with (go_at_call 99;refine(KL.out _ A0).mono ?_;rintro e w1 ⟨x1,v1,s1,rfl,hx1,hs1,ha1,hb1⟩;refine Hid.out ?_)
 obtain⟨k1,a1,t1,n1,o1,l1,c1,q1,rfl,rfl,hk1⟩:=hx1.shape
 have HX1:=jD hx1;have HK1:=jD hk1;have HS1:=jD hs1
 have A1:=jD ha1;have B1:=jD (B0.out.trans hb1)
 have XR1:=jD (XR0.out.butt HPR hb1)
 clear ha1 hb1 hx1 hk1 hs1
 refine jD ?_
 clear c5 hl0
 have FT:=jD (jce HA0 B1 A1 XR1 HLS (.mk k1 a1 t1 n1 q1) (.int .i64 k1) (.int .i64 a1) (.string t1) (.int .i64 n1) (.slice o1 l1 c1) (HX1.out) _ rfl)
 have zXR:=XR1.out
 have yXR0:=zXR.c0
 have yXR1:=zXR.c1
 have yXR2:=zXR.c2
 have yXR3:=zXR.c3
 have yXR4:=zXR.c4
 have fXR0:=zXR.free 0
 have fXR1:=zXR.free 1
 have fXR2:=zXR.free 2
 have fXR3:=zXR.free 3
 have fXR4:=zXR.free 4
 clear zXR
 obtain⟨r0,r1,r2,r3,r4,rx,ra,rb⟩:=FT.out
 have GX:=jD rx;have GA:=jD ra;have GB:=jD rb
 clear rx ra rb FT
 go_wp2
 refine bodyPost_ret (by simp[results,Tryz.results65,go_sem,r0,r1,r2,r3,r4];rfl) rfl ?_
 exact⟨_,_,_,rfl,GX.out,HS1.out,GA.out,GB.out⟩
theorem jlv {R:Nat} {L:List Tk} {d:Nat} {st:RSt} {w:World} (h:At R L w d st) (K:GT 101 R L #[.pointer (some ⟨R,0,none⟩),.int .i64 7] (.lvl 7) d st) :
  Calls Tryz.prog 65 #[.pointer (some ⟨R,0,none⟩),.int .i64 7] w (PT R L (.lvl 7) d st w):=by
 have KL:=jD K
 clear K
 obtain⟨b,c5,hbR,hbl,hl⟩:=(h.alloc jZ).fix.levels
 have hl0:World.cell? _ ⟨b,14,none⟩=some (.func (.func 101) #[.pointer (some ⟨R,0,none⟩)] #[]):=(hl 7 (by decide)).1
 have HA0:=jD h
 have HLT:=jD h.fix.lt
 have hA:=h.alloc jZ
 have hB:=(Butt.refl R w).alloc h.fix.lt jZ
 have hX:=Bx5.new w (.int .i64 0) (.int .i64 0) (.string ⟨#[]⟩) (.int .i64 0) (.slice none 0 0)
 have hpR:w.heap.size≠R:=fun e=>absurd h.fix.lt (by rw[e];exact Nat.lt_irrefl _)
 have hls:w.heap.size<(w.alloc jZ).heap.size:=by simp
 have A0:=jD hA;have B0:=jD hB;have XR0:=jD hX;have HPR:=jD hpR;have HLS:=jD hls
 clear hA hB hX hpR hls h hl hbR hbl
 go_enter Tryz.func65,Tryz.ntmps65
 go_wp2_with (go_at_call 101;refine(KL.out _ A0).mono ?_;rintro e w1 ⟨x1,v1,s1,rfl,hx1,hs1,ha1,hb1⟩;refine Hid.out ?_)
 obtain⟨k1,a1,t1,n1,o1,l1,c1,q1,rfl,rfl,hk1⟩:=hx1.shape
 have HX1:=jD hx1;have HK1:=jD hk1;have HS1:=jD hs1
 have A1:=jD ha1;have B1:=jD (B0.out.trans hb1)
 have XR1:=jD (XR0.out.butt HPR hb1)
 clear ha1 hb1 hx1 hk1 hs1
 refine jD ?_
 clear c5 hl0
 have FT:=jD (jce HA0 B1 A1 XR1 HLS (.mk k1 a1 t1 n1 q1) (.int .i64 k1) (.int .i64 a1) (.string t1) (.int .i64 n1) (.slice o1 l1 c1) (HX1.out) _ rfl)
 have zXR:=XR1.out
 have yXR0:=zXR.c0
 have yXR1:=zXR.c1
 have yXR2:=zXR.c2
 have yXR3:=zXR.c3
 have yXR4:=zXR.c4
 have fXR0:=zXR.free 0
 have fXR1:=zXR.free 1
 have fXR2:=zXR.free 2
 have fXR3:=zXR.free 3
 have fXR4:=zXR.free 4
 clear zXR
 obtain⟨r0,r1,r2,r3,r4,rx,ra,rb⟩:=FT.out
 have GX:=jD rx;have GA:=jD ra;have GB:=jD rb
 clear rx ra rb FT
 go_wp2
 refine bodyPost_ret (by simp[results,Tryz.results65,go_sem,r0,r1,r2,r3,r4];rfl) rfl ?_
 exact⟨_,_,_,rfl,GX.out,HS1.out,GA.out,GB.out⟩
theorem jmb {R:Nat} {L:List Tk} {d:Nat} {st:RSt} {w:World} (h:At R L w d st) :
  Calls Tryz.prog 128 #[.pointer (some ⟨R,0,none⟩),.int .i64 0] w fun e w'=>e = .returned (.bool (Lib.containsS (lvO 0) (cur L st).t))∧At R L w' d st∧Butt R w w':=by
 obtain⟨b,c5,hbR,hbl,hl⟩:=h.fix.levels
 obtain⟨v,hv0,hop⟩:=(hl 0 (by decide)).2
 obtain⟨q,rfl,hqR,hql,hq⟩:=hop.resolve_left (fun e=>absurd e.1 (by simp[lvO]))
 have hv:w.cell? ⟨b,1,none⟩=some (.slice (some ⟨q,0,none⟩) 1 1):=hv0
 clear hv0 hop
 have hq':∀ W,Butt R w W→∀ j,j<(lvO 0).length→W.cell? ⟨q,0+j,none⟩=some (.string ((lvO 0).getD j ByteArray.empty)):=fun W hb j hj=>by
  rw[Nat.zero_add];exact(hb.cell (p:=⟨q,j,none⟩) hql hqR).trans (hq j hj)
 have CS:=fun(x:ByteArray) W (hb:Butt R w W)=>Tryz.slices_Contains_string q 0 1 1 (lvO 0) x W (by decide) (by decide) (hq' W hb)
 have ht:(lvO 0).take 1=lvO 0:=rfl
 rw[ht] at CS
 have hf:=jaG
 have CT:=fun d' os=>Calls.regrown_of (jdr (h.below (below_regrown w d' os)))
 generalize cur L st=T at *
 obtain⟨tk,tt,ta⟩:=T
 unfold tkA at *
 dsimp only at *
 generalize Lib.containsS (lvO 0)=CC at *
 have CS2:∀ d os,Calls Tryz.prog 147 #[.slice (some ⟨q,0,none⟩) 1 1,.string tt] (grow (redrawn w d) os) fun e w''=>e = .returned (.bool (CC tt))∧∃ p:Regrown,w''=grow (redrawn w p.d) p.os:=fun d os=>Calls.regrown_of ((CS tt _ (Butt.of_below h.fix.lt (below_regrown w d os))).mono (by rintro e w' ⟨rfl,rfl⟩;exact⟨rfl,Below.refl _ _⟩))
 have KT:=jD CT;have KS:=jD CS2
 have g5:∀ d os,(grow (redrawn w d) os).cell? ⟨R,5,none⟩=some (.slice (some ⟨b,0,none⟩) 8 8):=fun d os=>cell_regrown c5 d os
 have g6:∀ d os,(grow (redrawn w d) os).cell? ⟨b,1,none⟩=some (.slice (some ⟨q,0,none⟩) 1 1):=fun d os=>cell_regrown hv d os
 have HH:=jD h
 clear h CT CS CS2 hq' hq hl ht hqR hql hbR hbl
 go_enter Tryz.func128,Tryz.ntmps128
 go_wp2_with fail
 refine wp_region_quiet_below (by kernel_rfl) (by kernel_rfl) ?_
 quiet_step (fail)
 quiet_step (fail)
 quiet_step (fail)
 quiet_step (fail)
 quiet_step (fail)
 quiet_step (fail)
 quiet_step (fail)
 quiet_step (fail)
 quiet_step (fail)
 quiet_step (exact KT _ _)
 quiet_step (fail)
 quiet_step (exact KS _ _)
 quiet_step (fail)
 refine wpQuiet_nil ?_
 intro _ hw'
 obtain⟨⟨dq,osq⟩,hw''⟩:=hw'
 subst hw''
 go_wp2
 go_ret
 exact⟨rfl,HH.out.below (below_regrown w dq osq),Butt.of_below HH.out.fix.lt (below_regrown w dq osq)⟩
theorem jmc {R:Nat} {L:List Tk} {d:Nat} {st:RSt} {w:World} (h:At R L w d st) :
  Calls Tryz.prog 128 #[.pointer (some ⟨R,0,none⟩),.int .i64 1] w fun e w'=>e = .returned (.bool (Lib.containsS (lvO 1) (cur L st).t))∧At R L w' d st∧Butt R w w':=by
 obtain⟨b,c5,hbR,hbl,hl⟩:=h.fix.levels
 obtain⟨v,hv0,hop⟩:=(hl 1 (by decide)).2
 obtain⟨q,rfl,hqR,hql,hq⟩:=hop.resolve_left (fun e=>absurd e.1 (by simp[lvO]))
 have hv:w.cell? ⟨b,3,none⟩=some (.slice (some ⟨q,0,none⟩) 1 1):=hv0
 clear hv0 hop
 have hq':∀ W,Butt R w W→∀ j,j<(lvO 1).length→W.cell? ⟨q,0+j,none⟩=some (.string ((lvO 1).getD j ByteArray.empty)):=fun W hb j hj=>by
  rw[Nat.zero_add];exact(hb.cell (p:=⟨q,j,none⟩) hql hqR).trans (hq j hj)
 have CS:=fun(x:ByteArray) W (hb:Butt R w W)=>Tryz.slices_Contains_string q 0 1 1 (lvO 1) x W (by decide) (by decide) (hq' W hb)
 have ht:(lvO 1).take 1=lvO 1:=rfl
 rw[ht] at CS
 have hf:=jaG
 have CT:=fun d' os=>Calls.regrown_of (jdr (h.below (below_regrown w d' os)))
 generalize cur L st=T at *
 obtain⟨tk,tt,ta⟩:=T
 unfold tkA at *
 dsimp only at *
 generalize Lib.containsS (lvO 1)=CC at *
 have CS2:∀ d os,Calls Tryz.prog 147 #[.slice (some ⟨q,0,none⟩) 1 1,.string tt] (grow (redrawn w d) os) fun e w''=>e = .returned (.bool (CC tt))∧∃ p:Regrown,w''=grow (redrawn w p.d) p.os:=fun d os=>Calls.regrown_of ((CS tt _ (Butt.of_below h.fix.lt (below_regrown w d os))).mono (by rintro e w' ⟨rfl,rfl⟩;exact⟨rfl,Below.refl _ _⟩))
 have KT:=jD CT;have KS:=jD CS2
 have g5:∀ d os,(grow (redrawn w d) os).cell? ⟨R,5,none⟩=some (.slice (some ⟨b,0,none⟩) 8 8):=fun d os=>cell_regrown c5 d os
 have g6:∀ d os,(grow (redrawn w d) os).cell? ⟨b,3,none⟩=some (.slice (some ⟨q,0,none⟩) 1 1):=fun d os=>cell_regrown hv d os
 have HH:=jD h
 clear h CT CS CS2 hq' hq hl ht hqR hql hbR hbl
 go_enter Tryz.func128,Tryz.ntmps128
 go_wp2_with fail
 refine wp_region_quiet_below (by kernel_rfl) (by kernel_rfl) ?_
 quiet_step (fail)
 quiet_step (fail)
 quiet_step (fail)
 quiet_step (fail)
 quiet_step (fail)
 quiet_step (fail)
 quiet_step (fail)
 quiet_step (fail)
 quiet_step (fail)
 quiet_step (exact KT _ _)
 quiet_step (fail)
 quiet_step (exact KS _ _)
 quiet_step (fail)
 refine wpQuiet_nil ?_
 intro _ hw'
 obtain⟨⟨dq,osq⟩,hw''⟩:=hw'
 subst hw''
 go_wp2
 go_ret
 exact⟨rfl,HH.out.below (below_regrown w dq osq),Butt.of_below HH.out.fix.lt (below_regrown w dq osq)⟩
theorem jmd {R:Nat} {L:List Tk} {d:Nat} {st:RSt} {w:World} (h:At R L w d st) :
  Calls Tryz.prog 128 #[.pointer (some ⟨R,0,none⟩),.int .i64 2] w fun e w'=>e = .returned (.bool (Lib.containsS (lvO 2) (cur L st).t))∧At R L w' d st∧Butt R w w':=by
 obtain⟨b,c5,hbR,hbl,hl⟩:=h.fix.levels
 obtain⟨v,hv0,hop⟩:=(hl 2 (by decide)).2
 obtain⟨q,rfl,hqR,hql,hq⟩:=hop.resolve_left (fun e=>absurd e.1 (by simp[lvO]))
 have hv:w.cell? ⟨b,5,none⟩=some (.slice (some ⟨q,0,none⟩) 1 1):=hv0
 clear hv0 hop
 have hq':∀ W,Butt R w W→∀ j,j<(lvO 2).length→W.cell? ⟨q,0+j,none⟩=some (.string ((lvO 2).getD j ByteArray.empty)):=fun W hb j hj=>by
  rw[Nat.zero_add];exact(hb.cell (p:=⟨q,j,none⟩) hql hqR).trans (hq j hj)
 have CS:=fun(x:ByteArray) W (hb:Butt R w W)=>Tryz.slices_Contains_string q 0 1 1 (lvO 2) x W (by decide) (by decide) (hq' W hb)
 have ht:(lvO 2).take 1=lvO 2:=rfl
 rw[ht] at CS
 have hf:=jaG
 have CT:=fun d' os=>Calls.regrown_of (jdr (h.below (below_regrown w d' os)))
 generalize cur L st=T at *
 obtain⟨tk,tt,ta⟩:=T
 unfold tkA at *
 dsimp only at *
 generalize Lib.containsS (lvO 2)=CC at *
 have CS2:∀ d os,Calls Tryz.prog 147 #[.slice (some ⟨q,0,none⟩) 1 1,.string tt] (grow (redrawn w d) os) fun e w''=>e = .returned (.bool (CC tt))∧∃ p:Regrown,w''=grow (redrawn w p.d) p.os:=fun d os=>Calls.regrown_of ((CS tt _ (Butt.of_below h.fix.lt (below_regrown w d os))).mono (by rintro e w' ⟨rfl,rfl⟩;exact⟨rfl,Below.refl _ _⟩))
 have KT:=jD CT;have KS:=jD CS2
 have g5:∀ d os,(grow (redrawn w d) os).cell? ⟨R,5,none⟩=some (.slice (some ⟨b,0,none⟩) 8 8):=fun d os=>cell_regrown c5 d os
 have g6:∀ d os,(grow (redrawn w d) os).cell? ⟨b,5,none⟩=some (.slice (some ⟨q,0,none⟩) 1 1):=fun d os=>cell_regrown hv d os
 have HH:=jD h
 clear h CT CS CS2 hq' hq hl ht hqR hql hbR hbl
 go_enter Tryz.func128,Tryz.ntmps128
 go_wp2_with fail
 refine wp_region_quiet_below (by kernel_rfl) (by kernel_rfl) ?_
 quiet_step (fail)
 quiet_step (fail)
 quiet_step (fail)
 quiet_step (fail)
 quiet_step (fail)
 quiet_step (fail)
 quiet_step (fail)
 quiet_step (fail)
 quiet_step (fail)
 quiet_step (exact KT _ _)
 quiet_step (fail)
 quiet_step (exact KS _ _)
 quiet_step (fail)
 refine wpQuiet_nil ?_
 intro _ hw'
 obtain⟨⟨dq,osq⟩,hw''⟩:=hw'
 subst hw''
 go_wp2
 go_ret
 exact⟨rfl,HH.out.below (below_regrown w dq osq),Butt.of_below HH.out.fix.lt (below_regrown w dq osq)⟩
theorem jme {R:Nat} {L:List Tk} {d:Nat} {st:RSt} {w:World} (h:At R L w d st) :
  Calls Tryz.prog 128 #[.pointer (some ⟨R,0,none⟩),.int .i64 3] w fun e w'=>e = .returned (.bool (Lib.containsS (lvO 3) (cur L st).t))∧At R L w' d st∧Butt R w w':=by
 obtain⟨b,c5,hbR,hbl,hl⟩:=h.fix.levels
 obtain⟨v,hv0,hop⟩:=(hl 3 (by decide)).2
 obtain⟨q,rfl,hqR,hql,hq⟩:=hop.resolve_left (fun e=>absurd e.1 (by simp[lvO]))
 have hv:w.cell? ⟨b,7,none⟩=some (.slice (some ⟨q,0,none⟩) 6 6):=hv0
 clear hv0 hop
 have hq':∀ W,Butt R w W→∀ j,j<(lvO 3).length→W.cell? ⟨q,0+j,none⟩=some (.string ((lvO 3).getD j ByteArray.empty)):=fun W hb j hj=>by
  rw[Nat.zero_add];exact(hb.cell (p:=⟨q,j,none⟩) hql hqR).trans (hq j hj)
 have CS:=fun(x:ByteArray) W (hb:Butt R w W)=>Tryz.slices_Contains_string q 0 6 6 (lvO 3) x W (by decide) (by decide) (hq' W hb)
 have ht:(lvO 3).take 6=lvO 3:=rfl
 rw[ht] at CS
 have hf:=jaG
 have CT:=fun d' os=>Calls.regrown_of (jdr (h.below (below_regrown w d' os)))
 generalize cur L st=T at *
 obtain⟨tk,tt,ta⟩:=T
 unfold tkA at *
 dsimp only at *
 generalize Lib.containsS (lvO 3)=CC at *
 have CS2:∀ d os,Calls Tryz.prog 147 #[.slice (some ⟨q,0,none⟩) 6 6,.string tt] (grow (redrawn w d) os) fun e w''=>e = .returned (.bool (CC tt))∧∃ p:Regrown,w''=grow (redrawn w p.d) p.os:=fun d os=>Calls.regrown_of ((CS tt _ (Butt.of_below h.fix.lt (below_regrown w d os))).mono (by rintro e w' ⟨rfl,rfl⟩;exact⟨rfl,Below.refl _ _⟩))
 have KT:=jD CT;have KS:=jD CS2
 have g5:∀ d os,(grow (redrawn w d) os).cell? ⟨R,5,none⟩=some (.slice (some ⟨b,0,none⟩) 8 8):=fun d os=>cell_regrown c5 d os
 have g6:∀ d os,(grow (redrawn w d) os).cell? ⟨b,7,none⟩=some (.slice (some ⟨q,0,none⟩) 6 6):=fun d os=>cell_regrown hv d os
 have HH:=jD h
 clear h CT CS CS2 hq' hq hl ht hqR hql hbR hbl
 go_enter Tryz.func128,Tryz.ntmps128
 go_wp2_with fail
 refine wp_region_quiet_below (by kernel_rfl) (by kernel_rfl) ?_
 quiet_step (fail)
 quiet_step (fail)
 quiet_step (fail)
 quiet_step (fail)
 quiet_step (fail)
 quiet_step (fail)
 quiet_step (fail)
 quiet_step (fail)
 quiet_step (fail)
 quiet_step (exact KT _ _)
 quiet_step (fail)
 quiet_step (exact KS _ _)
 quiet_step (fail)
 refine wpQuiet_nil ?_
 intro _ hw'
 obtain⟨⟨dq,osq⟩,hw''⟩:=hw'
 subst hw''
 go_wp2
 go_ret
 exact⟨rfl,HH.out.below (below_regrown w dq osq),Butt.of_below HH.out.fix.lt (below_regrown w dq osq)⟩
theorem jmf {R:Nat} {L:List Tk} {d:Nat} {st:RSt} {w:World} (h:At R L w d st) :
  Calls Tryz.prog 128 #[.pointer (some ⟨R,0,none⟩),.int .i64 4] w fun e w'=>e = .returned (.bool (Lib.containsS (lvO 4) (cur L st).t))∧At R L w' d st∧Butt R w w':=by
 obtain⟨b,c5,hbR,hbl,hl⟩:=h.fix.levels
 obtain⟨v,hv0,hop⟩:=(hl 4 (by decide)).2
 obtain⟨q,rfl,hqR,hql,hq⟩:=hop.resolve_left (fun e=>absurd e.1 (by simp[lvO]))
 have hv:w.cell? ⟨b,9,none⟩=some (.slice (some ⟨q,0,none⟩) 2 2):=hv0
 clear hv0 hop
 have hq':∀ W,Butt R w W→∀ j,j<(lvO 4).length→W.cell? ⟨q,0+j,none⟩=some (.string ((lvO 4).getD j ByteArray.empty)):=fun W hb j hj=>by
  rw[Nat.zero_add];exact(hb.cell (p:=⟨q,j,none⟩) hql hqR).trans (hq j hj)
 have CS:=fun(x:ByteArray) W (hb:Butt R w W)=>Tryz.slices_Contains_string q 0 2 2 (lvO 4) x W (by decide) (by decide) (hq' W hb)
 have ht:(lvO 4).take 2=lvO 4:=rfl
 rw[ht] at CS
 have hf:=jaG
 have CT:=fun d' os=>Calls.regrown_of (jdr (h.below (below_regrown w d' os)))
 generalize cur L st=T at *
 obtain⟨tk,tt,ta⟩:=T
 unfold tkA at *
 dsimp only at *
 generalize Lib.containsS (lvO 4)=CC at *
 have CS2:∀ d os,Calls Tryz.prog 147 #[.slice (some ⟨q,0,none⟩) 2 2,.string tt] (grow (redrawn w d) os) fun e w''=>e = .returned (.bool (CC tt))∧∃ p:Regrown,w''=grow (redrawn w p.d) p.os:=fun d os=>Calls.regrown_of ((CS tt _ (Butt.of_below h.fix.lt (below_regrown w d os))).mono (by rintro e w' ⟨rfl,rfl⟩;exact⟨rfl,Below.refl _ _⟩))
 have KT:=jD CT;have KS:=jD CS2
 have g5:∀ d os,(grow (redrawn w d) os).cell? ⟨R,5,none⟩=some (.slice (some ⟨b,0,none⟩) 8 8):=fun d os=>cell_regrown c5 d os
 have g6:∀ d os,(grow (redrawn w d) os).cell? ⟨b,9,none⟩=some (.slice (some ⟨q,0,none⟩) 2 2):=fun d os=>cell_regrown hv d os
 have HH:=jD h
 clear h CT CS CS2 hq' hq hl ht hqR hql hbR hbl
 go_enter Tryz.func128,Tryz.ntmps128
 go_wp2_with fail
 refine wp_region_quiet_below (by kernel_rfl) (by kernel_rfl) ?_
 quiet_step (fail)
 quiet_step (fail)
 quiet_step (fail)
 quiet_step (fail)
 quiet_step (fail)
 quiet_step (fail)
 quiet_step (fail)
 quiet_step (fail)
 quiet_step (fail)
 quiet_step (exact KT _ _)
 quiet_step (fail)
 quiet_step (exact KS _ _)
 quiet_step (fail)
 refine wpQuiet_nil ?_
 intro _ hw'
 obtain⟨⟨dq,osq⟩,hw''⟩:=hw'
 subst hw''
 go_wp2
 go_ret
 exact⟨rfl,HH.out.below (below_regrown w dq osq),Butt.of_below HH.out.fix.lt (below_regrown w dq osq)⟩
theorem jmg {R:Nat} {L:List Tk} {d:Nat} {st:RSt} {w:World} (h:At R L w d st) :
  Calls Tryz.prog 128 #[.pointer (some ⟨R,0,none⟩),.int .i64 5] w fun e w'=>e = .returned (.bool (Lib.containsS (lvO 5) (cur L st).t))∧At R L w' d st∧Butt R w w':=by
 obtain⟨b,c5,hbR,hbl,hl⟩:=h.fix.levels
 obtain⟨v,hv0,hop⟩:=(hl 5 (by decide)).2
 obtain⟨q,rfl,hqR,hql,hq⟩:=hop.resolve_left (fun e=>absurd e.1 (by simp[lvO]))
 have hv:w.cell? ⟨b,11,none⟩=some (.slice (some ⟨q,0,none⟩) 3 3):=hv0
 clear hv0 hop
 have hq':∀ W,Butt R w W→∀ j,j<(lvO 5).length→W.cell? ⟨q,0+j,none⟩=some (.string ((lvO 5).getD j ByteArray.empty)):=fun W hb j hj=>by
  rw[Nat.zero_add];exact(hb.cell (p:=⟨q,j,none⟩) hql hqR).trans (hq j hj)
 have CS:=fun(x:ByteArray) W (hb:Butt R w W)=>Tryz.slices_Contains_string q 0 3 3 (lvO 5) x W (by decide) (by decide) (hq' W hb)
 have ht:(lvO 5).take 3=lvO 5:=rfl
 rw[ht] at CS
 have hf:=jaG
 have CT:=fun d' os=>Calls.regrown_of (jdr (h.below (below_regrown w d' os)))
 generalize cur L st=T at *
 obtain⟨tk,tt,ta⟩:=T
 unfold tkA at *
 dsimp only at *
 generalize Lib.containsS (lvO 5)=CC at *
 have CS2:∀ d os,Calls Tryz.prog 147 #[.slice (some ⟨q,0,none⟩) 3 3,.string tt] (grow (redrawn w d) os) fun e w''=>e = .returned (.bool (CC tt))∧∃ p:Regrown,w''=grow (redrawn w p.d) p.os:=fun d os=>Calls.regrown_of ((CS tt _ (Butt.of_below h.fix.lt (below_regrown w d os))).mono (by rintro e w' ⟨rfl,rfl⟩;exact⟨rfl,Below.refl _ _⟩))
 have KT:=jD CT;have KS:=jD CS2
 have g5:∀ d os,(grow (redrawn w d) os).cell? ⟨R,5,none⟩=some (.slice (some ⟨b,0,none⟩) 8 8):=fun d os=>cell_regrown c5 d os
 have g6:∀ d os,(grow (redrawn w d) os).cell? ⟨b,11,none⟩=some (.slice (some ⟨q,0,none⟩) 3 3):=fun d os=>cell_regrown hv d os
 have HH:=jD h
 clear h CT CS CS2 hq' hq hl ht hqR hql hbR hbl
 go_enter Tryz.func128,Tryz.ntmps128
 go_wp2_with fail
 refine wp_region_quiet_below (by kernel_rfl) (by kernel_rfl) ?_
 quiet_step (fail)
 quiet_step (fail)
 quiet_step (fail)
 quiet_step (fail)
 quiet_step (fail)
 quiet_step (fail)
 quiet_step (fail)
 quiet_step (fail)
 quiet_step (fail)
 quiet_step (exact KT _ _)
 quiet_step (fail)
 quiet_step (exact KS _ _)
 quiet_step (fail)
 refine wpQuiet_nil ?_
 intro _ hw'
 obtain⟨⟨dq,osq⟩,hw''⟩:=hw'
 subst hw''
 go_wp2
 go_ret
 exact⟨rfl,HH.out.below (below_regrown w dq osq),Butt.of_below HH.out.fix.lt (below_regrown w dq osq)⟩
theorem jmh {R:Nat} {L:List Tk} {d:Nat} {st:RSt} {w:World} (h:At R L w d st) :
  Calls Tryz.prog 128 #[.pointer (some ⟨R,0,none⟩),.int .i64 6] w fun e w'=>e = .returned (.bool (Lib.containsS (lvO 6) (cur L st).t))∧At R L w' d st∧Butt R w w':=by
 obtain⟨b,c5,hbR,hbl,hl⟩:=h.fix.levels
 obtain⟨v,hv0,hop⟩:=(hl 6 (by decide)).2
 obtain⟨q,rfl,hqR,hql,hq⟩:=hop.resolve_left (fun e=>absurd e.1 (by simp[lvO]))
 have hv:w.cell? ⟨b,13,none⟩=some (.slice (some ⟨q,0,none⟩) 1 1):=hv0
 clear hv0 hop
 have hq':∀ W,Butt R w W→∀ j,j<(lvO 6).length→W.cell? ⟨q,0+j,none⟩=some (.string ((lvO 6).getD j ByteArray.empty)):=fun W hb j hj=>by
  rw[Nat.zero_add];exact(hb.cell (p:=⟨q,j,none⟩) hql hqR).trans (hq j hj)
 have CS:=fun(x:ByteArray) W (hb:Butt R w W)=>Tryz.slices_Contains_string q 0 1 1 (lvO 6) x W (by decide) (by decide) (hq' W hb)
 have ht:(lvO 6).take 1=lvO 6:=rfl
 rw[ht] at CS
 have hf:=jaG
 have CT:=fun d' os=>Calls.regrown_of (jdr (h.below (below_regrown w d' os)))
 generalize cur L st=T at *
 obtain⟨tk,tt,ta⟩:=T
 unfold tkA at *
 dsimp only at *
 generalize Lib.containsS (lvO 6)=CC at *
 have CS2:∀ d os,Calls Tryz.prog 147 #[.slice (some ⟨q,0,none⟩) 1 1,.string tt] (grow (redrawn w d) os) fun e w''=>e = .returned (.bool (CC tt))∧∃ p:Regrown,w''=grow (redrawn w p.d) p.os:=fun d os=>Calls.regrown_of ((CS tt _ (Butt.of_below h.fix.lt (below_regrown w d os))).mono (by rintro e w' ⟨rfl,rfl⟩;exact⟨rfl,Below.refl _ _⟩))
 have KT:=jD CT;have KS:=jD CS2
 have g5:∀ d os,(grow (redrawn w d) os).cell? ⟨R,5,none⟩=some (.slice (some ⟨b,0,none⟩) 8 8):=fun d os=>cell_regrown c5 d os
 have g6:∀ d os,(grow (redrawn w d) os).cell? ⟨b,13,none⟩=some (.slice (some ⟨q,0,none⟩) 1 1):=fun d os=>cell_regrown hv d os
 have HH:=jD h
 clear h CT CS CS2 hq' hq hl ht hqR hql hbR hbl
 go_enter Tryz.func128,Tryz.ntmps128
 go_wp2_with fail
 refine wp_region_quiet_below (by kernel_rfl) (by kernel_rfl) ?_
 quiet_step (fail)
 quiet_step (fail)
 quiet_step (fail)
 quiet_step (fail)
 quiet_step (fail)
 quiet_step (fail)
 quiet_step (fail)
 quiet_step (fail)
 quiet_step (fail)
 quiet_step (exact KT _ _)
 quiet_step (fail)
 quiet_step (exact KS _ _)
 quiet_step (fail)
 refine wpQuiet_nil ?_
 intro _ hw'
 obtain⟨⟨dq,osq⟩,hw''⟩:=hw'
 subst hw''
 go_wp2
 go_ret
 exact⟨rfl,HH.out.below (below_regrown w dq osq),Butt.of_below HH.out.fix.lt (below_regrown w dq osq)⟩
theorem jiU (z:Int) (h0:0≤z) (h1:z<9223372036854775808):IntKind.i64.wrap z=z∧wrap64 z=z:=by
 constructor
 ·rw[IntKind.wrap_i64];omega
 ·unfold wrap64;omega
def jcx (L:List Tk) (st:RSt):ByteArray:=(cur L (jaq st)).t
theorem jf0 {R:Nat} {L:List Tk} {d:Nat} {st:RSt} {w:World} (h:At R L w d st) :
  Calls Tryz.prog 132 #[.pointer (some ⟨R,0,none⟩)] w fun e w'=>e = .returned (.string (jcx L st))∧At R L w' d st∧Butt R w w':=by
 have HH:=jD h
 obtain⟨hf,nx,a,er,h1,h2,h3⟩:=h
 have e1:jcx L st=(tkD L (min (nx+1) (L.length-1))).t:=by
  unfold jcx
  rw[jbt (by omega) (jdq h1 h3)]
 rw[e1]
 have hlen:=hf.toks.len
 obtain⟨m,hm⟩:∃ m,L.length=m+1:=⟨L.length-1,by omega⟩
 obtain⟨n2,hn2,hn2m,hmin⟩:∃ n2:Nat,min (nx+1) (L.length-1)=n2∧n2≤m∧min ((nx:Int)+1) (m:Int)=(n2:Int):=⟨min (nx+1) m,by rw[hm];rfl,by omega,by omega⟩
 rw[hn2]
 obtain⟨⟨b,o,c,r0,r1,r2,r3⟩,c1,-,-,-,-,-,c7⟩:=h2
 obtain⟨b',o',e',hat⟩:=r1.at c7
 cases e'
 obtain⟨-,d1,-⟩:=hat n2 (by omega) w (Below.refl _ _)
 rw[hm] at r0
 have gl:(n2:Int)<(m:Int)+1:=by omega
 have g0:(0:Int)≤(n2:Int):=by omega
 obtain⟨v1,u1⟩:=jiU ((nx:Int)+1) (by omega) (by omega)
 obtain⟨v2,u2⟩:=jiU (m:Int) (by omega) (by omega)
 generalize tkD L n2=T at *
 obtain⟨tk,tt,ta⟩:=T
 dsimp only at *
 have g5:∀ d os,(grow (redrawn w d) os).cell? ⟨R,0,none⟩=some (.slice (some ⟨b,o,none⟩) (m+1) c):=fun d os=>cell_regrown r0 d os
 have g6:∀ d os,(grow (redrawn w d) os).cell? ⟨R,1,none⟩=some (.int .i64 nx):=fun d os=>cell_regrown c1 d os
 have g7:∀ d os,(grow (redrawn w d) os).cell? ⟨b,o+n2 * 3+1,none⟩=some (.string tt):=fun d os=>cell_regrown d1 d os
 clear hat r0 r1 c1 d1 c7 r2 r3 h3 h1 e1 hn2 hlen hm hf
 go_enter Tryz.func132,Tryz.ntmps132
 go_wp2_with fail
 refine wp_region_quiet_below (by kernel_rfl) (by kernel_rfl) ?_
 quiet_step (fail)
 quiet_step (fail)
 quiet_step (fail)
 quiet_step (fail)
 quiet_step (fail)
 quiet_step (fail)
 quiet_step (fail)
 quiet_step (fail)
 quiet_step (fail)
 quiet_step (fail)
 quiet_step (fail)
 quiet_step (fail)
 quiet_step (fail)
 quiet_step (fail)
 quiet_step (fail)
 quiet_step (fail)
 quiet_step (fail)
 quiet_step (fail)
 quiet_step (fail)
 quiet_step (fail)
 refine wpQuiet_nil ?_
 intro _ hw'
 obtain⟨⟨dq,osq⟩,hw''⟩:=hw'
 subst hw''
 go_wp2
 go_ret
 exact⟨rfl,HH.out.below (below_regrown w dq osq),Butt.of_below HH.out.fix.lt (below_regrown w dq osq)⟩
end Go.Proofs.YtenmmmdnpglkoaaGreatDoor
