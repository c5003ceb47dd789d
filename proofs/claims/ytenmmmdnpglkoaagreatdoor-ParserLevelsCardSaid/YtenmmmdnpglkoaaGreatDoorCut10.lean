import Derived.Test.YtenmmmdnpglkoaaGreatDoorCut9
set_option linter.unusedSimpArgs false
set_option linter.unusedVariables false
set_option maxRecDepth 100000
set_option maxHeartbeats 8000000
/-
 parser: trees off some blocks; stores into boxes; rows that are made.
-/
namespace Go.Proofs.YtenmmmdnpglkoaaGreatDoor
open Go Go.Proofs Go.RowKit
def offs (lo:Nat) (ps:List Nat):Nat→Prop:=fun b=>lo≤b∧b∉ps
theorem synIn.butt {R lo:Nat} {ps:List Nat} {W W':World} {x:Syn} {v:Value} (h:synIn (offs lo ps) W x v) (hR:R<lo) (hb:Butt R W W'):synIn (offs lo ps) W' x v:=
 synIn.keep ⟨hb.size,fun k hk h=>hb.block k h (by have:=hk.1;omega)⟩ (fun _ h _=>h) x v h
theorem synIn.of {lo l2:Nat} {ps:List Nat} {W:World} {x:Syn} {v:Value} (h:synAt lo W x v) (hl:l2≤lo) (hp:∀ p∈ps,p<lo):synIn (offs l2 ps) W x v:=
 synIn.keep ⟨jrr _,fun _ _ _=>rfl⟩ (fun k hk _=>⟨Nat.le_trans hl hk,fun hm=>absurd (hp k hm) (Nat.not_lt.mpr hk)⟩) x v (jcC x v |>.mpr h)
theorem synIn.cons {lo q:Nat} {ps:List Nat} {W:World} {x:Syn} {v:Value} (h:synIn (offs lo ps) W x v) (hq:W.heap.size≤q):synIn (offs lo (q::ps)) W x v:=
 synIn.keep ⟨jrr _,fun _ _ _=>rfl⟩ (fun k hk hlt=>⟨hk.1,fun hm=>by
  rcases List.mem_cons.mp hm with e|e
  ·omega
  ·exact hk.2 e⟩) x v h
theorem synIn.at {lo:Nat} {ps:List Nat} {W:World} {x:Syn} {v:Value} (h:synIn (offs lo ps) W x v):synAt lo W x v:=
 jcC x v |>.mp (synIn.keep ⟨jrr _,fun _ _ _=>rfl⟩ (fun k hk _=>hk.1) x v h)
theorem synIn.weak {lo q:Nat} {ps:List Nat} {W:World} {x:Syn} {v:Value} (h:synIn (offs lo (q::ps)) W x v):synIn (offs lo ps) W x v:=
 synIn.keep ⟨jrr _,fun _ _ _=>rfl⟩ (fun k hk _=>⟨hk.1,fun hm=>hk.2 (List.mem_cons_of_mem _ hm)⟩) x v h
theorem synIn.kept {lo q:Nat} {ps:List Nat} {W W':World} {x:Syn} {v:Value} (h:synIn (offs lo ps) W x v) (hq:q∈ps) (hb:Kept (·≠q) W W'):synIn (offs lo ps) W' x v:=
 synIn.keep ⟨hb.size,fun k hk h=>hb.block k (fun e=>hk.2 (e ▸ hq)) h⟩ (fun _ h _=>h) x v h
theorem synIn.shape {A:Nat→Prop} {W:World} {x:Syn} {v:Value} (h:synIn A W x v):∃ k a t n ao l c ks,x = .mk k a t n ks∧v = .agg #[.int .i64 k,.int .i64 a,.string t,.int .i64 n,.slice ao l c]:=by
 obtain⟨k,a,t,n,ks⟩:=x
 rw[synIn] at h
 obtain⟨kv,rfl,h⟩:=h
 rcases h with ⟨-,rfl⟩|⟨b,c,rfl,-⟩
 ·exact⟨k,a,t,n,_,_,_,ks,rfl,rfl⟩
 ·exact⟨k,a,t,n,_,_,_,ks,rfl,rfl⟩
def kidsIn (A:Nat→Prop) (W:World) (kids:List Syn) (kv:Value):Prop:=
 (kids.length=0∧kv = .slice none 0 0)∨∃ b c,kv = .slice (some ⟨b,0,none⟩) kids.length c∧kids.length≤c∧c≤maxLen∧A b∧b<W.heap.size∧rowIn A W kids b 0
theorem jac {A:Nat→Prop} {W:World} {k a n:Int} {t:ByteArray} {kids:List Syn} {v:Value}:synIn A W (.mk k a t n kids) v↔∃ kv,v = .agg #[.int .i64 k,.int .i64 a,.string t,.int .i64 n,kv]∧kidsIn A W kids kv:=by
 rw[synIn]
 rfl
theorem kidsIn.keep {A B:Nat→Prop} {W W':World} (hb:Kept A W W') (hl:∀ k,A k→k<W.heap.size→B k) {kids:List Syn} {kv:Value} (h:kidsIn A W kids kv):kidsIn B W' kids kv:=by
 refine h.imp_right ?_
 rintro⟨b,c,e1,h1,h2,h3,h4,h5⟩
 exact⟨b,c,e1,h1,h2,hl b h3 h4,Nat.lt_of_lt_of_le h4 hb.size,rowIn.keep hb hl kids b 0 h3 h4 h5⟩
theorem jaw {A:Nat→Prop} {W:World} {xs:List Syn} {cs:List Value} (h:flatIn A W xs cs) (hl:xs.length≤100) (hA:A W.heap.size) (n:Nat) (hn:xs.length=n) :
  kidsIn A (W.alloc (Obj.cells cs.toArray 25)) xs (.slice (some ⟨W.heap.size,0,none⟩) n n):=by
 subst hn
 have hk:Kept A W (W.alloc (Obj.cells cs.toArray 25)):=by
  have hb:=(Below.refl W.heap.size W).alloc (jrr _) (Obj.cells cs.toArray 25)
  exact⟨hb.size,fun k _ h=>hb.block k h⟩
 refine .inr ⟨W.heap.size,xs.length,rfl,jrr _,by unfold maxLen;omega,hA,by simp,?_⟩
 refine jeq xs cs 0 (flatIn.keep hk (fun _ h _=>h) _ _ h) fun j u hu=>?_
 rw[Nat.zero_add]
 have e:=World.cell?_alloc_new W cs.toArray 25 j
 rw[e]
 simpa using hu
theorem kidsIn.below {A:Nat→Prop} {W W':World} {kids:List Syn} {kv:Value} (h:kidsIn A W kids kv) (hb:Below W.heap.size W W'):kidsIn A W' kids kv:=
 h.keep ⟨hb.size,fun k _ h=>hb.block k h⟩ (fun _ h _=>h)
theorem flatIn.one {A:Nat→Prop} {W:World} {x:Syn} {v0 v1 v2 v3 v4:Value} (h:synIn A W x (.agg #[v0,v1,v2,v3,v4])):flatIn A W [x] [v0,v1,v2,v3,v4]:=⟨v0,v1,v2,v3,v4,[],rfl,h,rfl⟩
theorem flatIn.cons {A:Nat→Prop} {W:World} {x:Syn} {xs:List Syn} {cs:List Value} {v0 v1 v2 v3 v4:Value} (h:synIn A W x (.agg #[v0,v1,v2,v3,v4])) (hr:flatIn A W xs cs):flatIn A W (x::xs) (v0::v1::v2::v3::v4::cs):=⟨v0,v1,v2,v3,v4,cs,rfl,h,hr⟩
theorem Bx5.kept {p q:Nat} {W W':World} {v0 v1 v2 v3 v4:Value} (h:Bx5 W p v0 v1 v2 v3 v4) (hp:p≠q) (hb:Kept (·≠q) W W'):Bx5 W' p v0 v1 v2 v3 v4:=by
 obtain⟨c0,c1,c2,c3,c4,hf,hl⟩:=h
 exact⟨(hb.cell (p:=⟨p,0,none⟩) hp hl).trans c0,(hb.cell (p:=⟨p,1,none⟩) hp hl).trans c1,(hb.cell (p:=⟨p,2,none⟩) hp hl).trans c2,(hb.cell (p:=⟨p,3,none⟩) hp hl).trans c3,(hb.cell (p:=⟨p,4,none⟩) hp hl).trans c4,fun j=>(by simp only[World.frozen?,hb.block p hp hl]:W'.frozen? ⟨p,j,none⟩=W.frozen? ⟨p,j,none⟩).trans (hf j),Nat.lt_of_lt_of_le hl hb.size⟩
theorem Kept.refl (A:Nat→Prop) (W:World):Kept A W W:=⟨jrr _,fun _ _ _=>rfl⟩
theorem Kept.setCell {A:Nat→Prop} {a W:World} (h:Kept A a W) (p:Addr) (hp:¬ A p.block) (v:Value):Kept A a (W.setCell p v):=by
 refine⟨by have:=h.size;simpa using this,fun k h1 h2=>?_⟩
 rw[←h.block k h1 h2]
 show (W.heap.modify p.block _)[k]? = _
 rw[Array.getElem?_modify,if_neg (fun e=>hp (by rw[e];exact h1))]
theorem ja4 {R:Nat} {L:List Tk} {d0 d q:Nat} {st0 st:RSt} {w W:World} {u0 u1 u2 u3 u4:Value} (h0:At R L w d0 st0) (hb:Butt R w W) (ha:At R L W d st) (hB:Bx5 W q u0 u1 u2 u3 u4) (hq:w.heap.size≤q)
  (v0 v1 v2 v3 v4:Value) (W':World) (hW:W'=((((W.setCell ⟨q,0,none⟩ v0).setCell ⟨q,1,none⟩ v1).setCell ⟨q,2,none⟩ v2).setCell ⟨q,3,none⟩ v3).setCell ⟨q,4,none⟩ v4) :
  Bx5 W' q v0 v1 v2 v3 v4∧At R L W' d st∧Butt R w W'∧Kept (·≠q) W W':=by
 obtain⟨q0,q1,q2,q3,q4⟩:=box5 hB.c0 hB.c1 hB.c2 hB.c3 hB.c4 v0 v1 v2 v3 v4 W' hW
 obtain⟨hf0,nx0,a0,er0,h01,h02,h03⟩:=h0
 obtain⟨hf,nx,a,er,h1,h2,h3⟩:=ha
 obtain⟨hr,hbt⟩:=jfv h02 hb h2 hq v0 v1 v2 v3 v4
 rw[←hW] at hr hbt
 have hfr:∀ j,W'.frozen? ⟨q,j,none⟩=false:=fun j=>by
  rw[hW]
  exact(World.frozen?_setCell _ _ _ _).trans ((World.frozen?_setCell _ _ _ _).trans ((World.frozen?_setCell _ _ _ _).trans ((World.frozen?_setCell _ _ _ _).trans ((World.frozen?_setCell _ _ _ _).trans (hB.free j)))))
 have hsz:W'.heap.size=W.heap.size:=by rw[hW];simp
 refine⟨⟨q0,q1,q2,q3,q4,hfr,by rw[hsz];exact hB.lt⟩,⟨hf0.butt hbt,nx,a,er,h1,hr,h3⟩,hbt,?_⟩
 rw[hW]
 exact(((((Kept.refl _ W).setCell ⟨q,0,none⟩ (fun h=>h rfl) v0).setCell ⟨q,1,none⟩ (fun h=>h rfl) v1).setCell ⟨q,2,none⟩ (fun h=>h rfl) v2).setCell ⟨q,3,none⟩ (fun h=>h rfl) v3).setCell ⟨q,4,none⟩ (fun h=>h rfl) v4
end Go.Proofs.YtenmmmdnpglkoaaGreatDoor

namespace Go.Proofs.YtenmmmdnpglkoaaGreatDoor
open Go Go.Proofs Go.RowKit Go.Sort
theorem jS {R:Nat}{w:World} (h:R<w.heap.size):Hid (Butt R w (w.alloc jZ))∧Hid (Bx5 (w.alloc jZ) w.heap.size (.int .i64 0) (.int .i64 0) (.string ⟨#[]⟩) (.int .i64 0) (.slice none 0 0))∧Hid (w.heap.size≠R)∧Hid (w.heap.size<(w.alloc jZ).heap.size):=
 ⟨(Butt.refl R w).alloc h jZ,Bx5.new w _ _ _ _ _,fun e=>absurd h (by rw[e];exact Nat.lt_irrefl _),show w.heap.size<(w.alloc jZ).heap.size by simp⟩
theorem jR {P:Program}{f:FuncId}{R p:Nat}{a:Array Value}{u w:World}{v:Ending}{A:World→Prop}{K:Ending→World→Prop}{v0 v1 v2 v3 v4:Value} (h:Calls P f a w fun e w'=>e=v∧A w'∧Butt R w w')(b:Hid (Butt R u w))(x:Hid (Bx5 w p v0 v1 v2 v3 v4))(n:Hid (p≠R))(k:∀ w',Hid (A w')→Hid (Butt R u w')→Hid (Bx5 w' p v0 v1 v2 v3 v4)→Hid (K v w')):Calls P f a w K:=
 h.mono fun e w' q=>by obtain⟨rfl,g,c⟩:=q;exact(k w' g (b.out.trans c) (x.out.butt n.out c)).out
theorem jX {P:Program}{f:FuncId}{R p:Nat}{a:Array Value}{u w:World}{v:Ending}{A:World→Prop}{K:Ending→World→Prop}{v0 v1 v2 v3 v4:Value} (h:Calls P f a w fun e w'=>e=v∧A w'∧Butt R w w')(b:Hid (Butt R u w))(x:Hid (Bx5 w p v0 v1 v2 v3 v4))(n:Hid (p≠R))(k:∀ w',Hid (A w')→Hid (Butt R u w')→Hid (Bx5 w' p v0 v1 v2 v3 v4)→Butt R w w'→Hid (K v w')):Calls P f a w K:=
 h.mono fun e w' q=>by obtain⟨rfl,g,c⟩:=q;exact(k w' g (b.out.trans c) (x.out.butt n.out c) c).out
theorem bF {W:World}{p:Nat}{v0 v1 v2 v3 v4:Value} (h:Bx5 W p v0 v1 v2 v3 v4):W.cell? ⟨p,0,none⟩=some v0∧W.cell? ⟨p,1,none⟩=some v1∧W.cell? ⟨p,2,none⟩=some v2∧W.cell? ⟨p,3,none⟩=some v3∧W.cell? ⟨p,4,none⟩=some v4∧W.frozen? ⟨p,0,none⟩=false∧W.frozen? ⟨p,1,none⟩=false∧W.frozen? ⟨p,2,none⟩=false∧W.frozen? ⟨p,3,none⟩=false∧W.frozen? ⟨p,4,none⟩=false:=
 ⟨h.c0,h.c1,h.c2,h.c3,h.c4,h.free 0,h.free 1,h.free 2,h.free 3,h.free 4⟩
theorem tA {lo l p:Nat}{W:World}{x:Syn}{v:Value} (h:synAt lo W x v)(a:l≤lo)(b:p<lo):Hid (synIn (offs l [p]) W x v):=synIn.of h a (fun q hq=>by simp only[List.mem_cons,List.not_mem_nil,or_false] at hq;omega)
theorem jbb {R p:Nat}{W W':World}{v0 v1 v2 v3 v4:Value} (h:Hid (Bx5 W p v0 v1 v2 v3 v4))(n:Hid (p≠R))(c:Butt R W W'):Hid (Bx5 W' p v0 v1 v2 v3 v4):=h.out.butt n.out c
theorem jtt {R:Nat}{a b c:World} (h:Hid (Butt R a b))(k:Butt R b c):Hid (Butt R a c):=h.out.trans k
theorem jn5 (w:World)(k a:Int)(t:ByteArray)(n:Int)(o:Option Addr)(l c:Nat):Bx5 (w.alloc (jO k a t n o l c)) w.heap.size (.int .i64 k) (.int .i64 a) (.string t) (.int .i64 n) (.slice o l c):=Bx5.new w _ _ _ _ _
theorem jT {P:Program}{f:FuncId}{R p:Nat}{a:Array Value}{u w:World}{S:Syn→RSt→Prop}{A:RSt→World→Prop}{K:Ending→World→Prop}{v0 v1 v2 v3 v4:Value} (h:Calls P f a w fun e w'=>∃ x v s,e=.returned v∧synAt w.heap.size w' x v∧S x s∧A s w'∧Butt R w w')(b:Hid (Butt R u w))(x:Hid (Bx5 w p v0 v1 v2 v3 v4))(n:Hid (p≠R))(k:∀ w' k a t n o l c q s,Hid (S (.mk k a t n q) s)→Hid (synIn (offs u.heap.size [p]) w' (.mk k a t n q) (.agg #[.int .i64 k,.int .i64 a,.string t,.int .i64 n,.slice o l c]))→Hid (A s w')→Hid (Butt R u w')→Hid (Bx5 w' p v0 v1 v2 v3 v4)→Hid (K (.returned (.agg #[.int .i64 k,.int .i64 a,.string t,.int .i64 n,.slice o l c])) w')):Calls P f a w K:=
 h.mono fun e w' q=>by obtain⟨y,v,s,rfl,hy,hs,ha,hb⟩:=q;obtain⟨k1,a1,t1,n1,o1,l1,c1,q1,rfl,rfl,-⟩:=hy.shape;exact(k w' k1 a1 t1 n1 o1 l1 c1 q1 s hs (tA hy b.out.size x.out.lt) ha (b.out.trans hb) (x.out.butt n.out hb)).out
theorem jvv {R lo:Nat}{ps:List Nat}{W W':World}{x:Syn}{v:Value} (h:Hid (synIn (offs lo ps) W x v))(r:Hid (R<lo))(b:Butt R W W'):Hid (synIn (offs lo ps) W' x v):=h.out.butt r.out b
theorem jww {R lo:Nat}{ps:List Nat}{W:World}{x:Syn}{v:Value} (h:Hid (synIn (offs lo ps) W x v))(r:Hid (R<lo))(g:R<W.heap.size)(o:Obj):Hid (synIn (offs lo ps) (W.alloc o) x v):=h.out.butt r.out (Butt.of_below g ((Below.refl _ _).alloc (Nat.le_refl _) o))
theorem jN {W:World} (o:Obj):Below W.heap.size W (W.alloc o):=(Below.refl _ _).alloc (Nat.le_refl _) o
theorem jc7 {R:Nat} {L:List Tk} {d:Nat} {st:RSt} {w:World} (i lo:Nat) (hi:i<8) (at_:Int) (h:At R L w d st) (hlo:R<lo∧lo≤w.heap.size) (ps:List Nat) (hps:∀ p∈ps,p<w.heap.size) (K:GT 65 R L #[.pointer (some ⟨R,0,none⟩),.int .i64 ((i:Int)+1)] (.lvl (i+1)) d (jaq st))
  (k0 a0 n0:Int) (t0:ByteArray) (o0:Option Addr) (l0 c0:Nat) (xl:Syn) (hx:synIn (offs lo ps) w xl (.agg #[.int .i64 k0,.int .i64 a0,.string t0,.int .i64 n0,.slice o0 l0 c0])) :
  Calls Tryz.prog 129 #[.pointer (some ⟨R,0,none⟩),.int .i64 (i:Int),.int .i64 at_,.agg #[.int .i64 k0,.int .i64 a0,.string t0,.int .i64 n0,.slice o0 l0 c0]] w fun e W'=>
   ∃ y v st',e = .returned v∧synIn (offs lo ps) W' (.mk 22 at_ (cur L st).t 0 [xl,y]) v∧Stp (.lvl (i+1)) d (jaq st) [y] st'∧At R L W' d st'∧Butt R w W':=by
 obtain⟨v1,u1⟩:=jiU ((i:Int)+1) (by omega) (by omega)
 have CT:=fun W (H:At R L W d st)=>jjY H
 generalize cur L st=T at *
 obtain⟨ek,et,ea⟩:=T
 unfold tkA at CT
 dsimp only at *
 have KL:=jD K;have KT:=jD CT
 have HLT:=jD hlo.1;have HRW:=jD h.fix.lt;have HLO:=jD hlo.2;have HA0:=jD h
 have HXL:=jD (hx.cons (q:=w.heap.size+1) (Nat.le_succ _));have HPS:=jD hps
 clear K CT hi hx hlo hps
 have hsz:(w.alloc (jO k0 a0 t0 n0 o0 l0 c0)).heap.size=w.heap.size+1:=by simp
 have hX0:=(jn5 w k0 a0 t0 n0 o0 l0 c0).alloc jZ
 have hXR:=Bx5.new (w.alloc (jO k0 a0 t0 n0 o0 l0 c0)) (.int .i64 0) (.int .i64 0) (.string ⟨#[]⟩) (.int .i64 0) (.slice none 0 0)
 rw[hsz] at hXR
 have A0:=jD ((h.alloc (jO k0 a0 t0 n0 o0 l0 c0)).alloc jZ);have B0:=jD (((Butt.refl R w).alloc h.fix.lt (jO k0 a0 t0 n0 o0 l0 c0)).alloc h.fix.lt jZ)
 have XL0:=jD hX0;have XR0:=jD hXR
 have PXL:=nR h.fix.lt
 have HPR:Hid (w.heap.size+1≠R):=jD (fun e=>absurd h.fix.lt (by omega))
 have TRL:=jD (HXL.out.butt HLT B0)
 clear hX0 hXR hsz h HXL
 go_enter Tryz.func129,Tryz.ntmps129
 go_wp2_with (go_at_call 109;refine jX (KT.out _ A0) B0 XR0 HPR fun w1 A1 B1 XR1 hb1=>?_)
 have XL1:=jbb XL0 PXL hb1
 have TRL1:=jD (TRL.out.butt HLT hb1)
 clear hb1
 refine jD ?_
 have A1a:=jD (A1.out.alloc (Obj.cells #[.int .i64 ek,.string et,.int .i64 ea] 50));have B1a:=jD (B1.out.alloc HRW (Obj.cells #[.int .i64 ek,.string et,.int .i64 ea] 50))
 have XR1a:=jD (XR1.out.alloc (Obj.cells #[.int .i64 ek,.string et,.int .i64 ea] 50))
 have XL1a:=jD (XL1.out.alloc (Obj.cells #[.int .i64 ek,.string et,.int .i64 ea] 50))
 have TRL1a:=jD (TRL1.out.butt HLT (Butt.of_below A1.out.fix.lt (jN (Obj.cells #[.int .i64 ek,.string et,.int .i64 ea] 50))))
 have PTT:=nR A1.out.fix.lt
 have TT1a:=jD (Bx3.new w1 (.int .i64 ek) (.string et) (.int .i64 ea))
 go_wp2_with (go_at_call 65;refine cM (KL.out _ A1a) ?_;rintro e w2 ⟨x2,v2,s2,rfl,hx2,hs2,ha2,hb2⟩)
 obtain⟨k2,a2,t2,n2,o2,l2,c2,q2,rfl,rfl,hk2⟩:=hx2.shape
 have HS2:=jD hs2
 have TR2:=jD (synIn.of (ps:=((w.heap.size+1)::ps)) hx2 (Nat.le_trans HLO B1a.out.size) (fun p hp=>by have g0:=XR1a.out.lt;have g1:=B1a.out.size;rcases List.mem_cons.mp hp with e|e<;>first|omega|(have:=HPS.out p e;omega)))
 have A2:=jD ha2;have B2:=jtt B1a hb2
 have XR2:=jbb XR1a HPR hb2
 have XL2:=jbb XL1a PXL hb2
 have TT2:=jD (TT1a.out.butt PTT hb2)
 have TRL2:=jD (TRL1a.out.butt HLT hb2)
 clear ha2 hb2 hx2 hk2 hs2
 refine jD ?_
 have A2a1:=jD (A2.out.alloc (jO k2 a2 t2 n2 o2 l2 c2));have B2a1:=jD (B2.out.alloc HRW (jO k2 a2 t2 n2 o2 l2 c2))
 have XR2a1:=jD (XR2.out.alloc (jO k2 a2 t2 n2 o2 l2 c2))
 have XL2a1:=jD (XL2.out.alloc (jO k2 a2 t2 n2 o2 l2 c2))
 have TT2a1:=jD (TT2.out.alloc (jO k2 a2 t2 n2 o2 l2 c2))
 have TRL2a1:=jD (TRL2.out.butt HLT (Butt.of_below A2.out.fix.lt (jN (jO k2 a2 t2 n2 o2 l2 c2))))
 have TR22a1:=jww TR2 HLT A2.out.fix.lt (jO k2 a2 t2 n2 o2 l2 c2)
 have PXY:=nR A2.out.fix.lt
 have XY2a1:=jD (jn5 w2 k2 a2 t2 n2 o2 l2 c2)
 obtain⟨yXL0,yXL1,yXL2,yXL3,yXL4,-,-⟩:=XL2a1.out
 obtain⟨yTT0,yTT1,yTT2,-,-⟩:=TT2a1.out
 obtain⟨yXY0,yXY1,yXY2,yXY3,yXY4,-,-⟩:=XY2a1.out
 have hAw:offs lo ((w.heap.size+1)::ps) (w2.alloc (jO k2 a2 t2 n2 o2 l2 c2)).heap.size:=⟨Nat.le_trans HLO B2a1.out.size,fun hp=>by have g0:=XR2a1.out.lt;have g1:=B2a1.out.size;rcases List.mem_cons.mp hp with e|e<;>first|omega|(have:=HPS.out _ e;omega)⟩
 have hki:=jaw (flatIn.cons (TRL2a1.out) (flatIn.one (TR22a1.out))) (by simp) hAw 2 rfl
 have hz:(w2.alloc (jO k2 a2 t2 n2 o2 l2 c2)).heap.size=w2.heap.size+1:=by simp
 rw[hz] at hki;clear hz
 have KI:=jD hki
 clear hAw hki
 go_wp2_with (go_at_call 40;refine cM (jau _ _ _ _ _ _ _) ?_;rintro e w3 ⟨rfl,hb3⟩)
 have hbx:=Butt.of_below (R:=R) A2a1.out.fix.lt (Below.chain (jN (oD k0 a0 t0 n0 o0 l0 c0 k2 a2 t2 n2 o2 l2 c2)) hb3)
 have ha3:At R L w3 _ _:=⟨A2a1.out.fix.butt hbx,A2a1.out.rs.below (Below.chain (jN (oD k0 a0 t0 n0 o0 l0 c0 k2 a2 t2 n2 o2 l2 c2)) hb3)⟩
 have TN:=jD (jac.mpr ⟨_,rfl,KI.out.below hb3⟩:synIn (offs lo ((w.heap.size+1)::ps)) w3 (.mk 22 at_ et 0 [xl,(.mk k2 a2 t2 n2 q2)]) _)
 have hb3:=hbx;clear hbx
 have A3:=jD ha3;have B3:=jtt B2a1 hb3
 have XR3:=jbb XR2a1 HPR hb3
 have XL3:=jbb XL2a1 PXL hb3
 have TT3:=jD (TT2a1.out.butt PTT hb3)
 have XY3:=jbb XY2a1 PXY hb3
 clear ha3 hb3
 refine jD ?_
 have FT:=jD (ja4 HA0 B3 A3 XR3 (Nat.le_succ _) (.int .i64 22) (.int .i64 at_) (.string et) (.int .i64 0) (.slice (some ⟨w2.heap.size+1,0,none⟩) 2 2) _ rfl)
 have GX:=jD ((TN.out).kept (by simp) FT.out.2.2.2).weak
 obtain⟨yXR0,yXR1,yXR2,yXR3,yXR4,fXR0,fXR1,fXR2,fXR3,fXR4⟩:=bF XR3
 obtain⟨r0,r1,r2,r3,r4⟩:=FT.out.1
 have GA:=jD FT.out.2.1;have GB:=jD FT.out.2.2.1
 clear FT
 go_wp2
 refine bodyPost_ret (by simp[results,Tryz.results129,go_sem,r0,r1,r2,r3,r4];rfl) rfl ?_
 exact⟨_,_,_,rfl,GX.out,HS2.out,GA.out,GB.out⟩
end Go.Proofs.YtenmmmdnpglkoaaGreatDoor

namespace Go.Proofs.YtenmmmdnpglkoaaGreatDoor
open Go Go.Proofs Go.RowKit
theorem jb4 {s:ByteArray} {l:List UInt8}:s=⟨l.toArray⟩↔bytes s=l:=by
 constructor
 ·rintro rfl;simp[bytes]
 ·rintro rfl;cases s;simp[bytes]
theorem jiY (L:List Tk) (st:RSt) (l:List UInt8):tIs L st ⟨l.toArray⟩=(bytes (cur L st).t==l):=by
 rw[Bool.eq_iff_iff]
 unfold tIs
 rw[Lib.bytes_beq_iff,jb4,beq_iff_eq]
theorem jaP (L:List Tk) (l:List Tk) (s:List UInt8):tIs L (.ok l) ⟨s.toArray⟩=pIs s l:=jiY L (.ok l) s
theorem jck {L:List Tk} (hL:TkL L) {a:Int} {e:Nat} {s:List UInt8} (hs:s≠[]):tIs L (.bad a e) ⟨s.toArray⟩=false:=by
 rw[jiY,show cur L (.bad a e)=jcL L from rfl,hL.last.2,beq_eq_false_iff_ne]
 exact fun e=>hs e.symm
theorem jbW (L:List Tk) (l:List Tk):isN (cur L (.ok l))=ja5 (pHd l):=by
 unfold isN ja5
 rw[show cur L (.ok l)=pHd l from rfl]
 congr 1
theorem jlw {L:List Tk} (hL:TkL L) {a:Int} {e:Nat}:isN (cur L (.bad a e))=false:=by
 unfold isN
 rw[show cur L (.bad a e)=jcL L from rfl,hL.last.1]
 rfl
theorem jeH {L:List Tk} (hL:TkL L) {a:Int} {e:Nat}:((cur L (.bad a e)).k==1)=false:=by
 rw[show cur L (.bad a e)=jcL L from rfl,hL.last.1]
 rfl
theorem jiZ (i:Nat) (t:ByteArray):Lib.containsS (lvO i) t=(pOps i).contains (bytes t):=by
 rw[Bool.eq_iff_iff,Lib.containsS_iff,List.contains_iff_mem]
 match i with
 |0=>simp[lvO,pOps,←jb4]
 |1=>simp[lvO,pOps,←jb4]
 |2=>simp[lvO,pOps,←jb4]
 |3=>simp[lvO,pOps,←jb4]
 |4=>simp[lvO,pOps,←jb4]
 |5=>simp[lvO,pOps,←jb4]
 |6=>simp[lvO,pOps,←jb4]
 |n+7=>simp[lvO,pOps]
theorem jdj (L:List Tk) (i:Nat) (l:List Tk):Lib.containsS (lvO i) (cur L (.ok l)).t=pOp i l:=jiZ i _
theorem jfL {L:List Tk} (hL:TkL L) (i:Nat) {a:Int} {e:Nat}:Lib.containsS (lvO i) (cur L (.bad a e)).t=false:=by
 rw[jiZ,show cur L (.bad a e)=jcL L from rfl,hL.last.2]
 match i with
 |0|1|2|3|4|5|6=>rfl
 |n+7=>rfl
theorem jaJ {l:List Tk} (h:l≠[]):pTl l≠[]:=by
 match l with
 | []=>exact absurd rfl h
 | [x]=>simp[pTl]
 |x::y::r=>simp[pTl]
theorem jat (l:List Tk):(pTl l).length≤l.length:=by
 match l with
 | []=>simp[pTl]
 | [x]=>simp[pTl]
 |x::y::r=>simp[pTl]
def RSt.fine:RSt→Prop
 |.ok l=>l≠[]
 |.bad _ e=>e≠0
theorem At.fine {R d:Nat} {L:List Tk} {W:World} {st:RSt} (h:At R L W d st):st.fine:=by
 obtain⟨nx,a,er,h1,h2,h3⟩:=h.rs
 rcases h3 with ⟨-,-,rfl⟩|⟨h9,-,rfl⟩
 ·exact fun e=>by have:=List.drop_eq_nil_iff.mp e;omega
 ·exact h9
theorem Run.fine {α : Type} {m:Nat→List Tk→Except (Int×Nat) (α×List Tk)} {st st':RSt} {x:α} (h:Run m st x st') (hs:st.fine):st'.fine:=by
 cases st with
 |bad a e=>rw[show st' = .bad a e from h];exact hs
 |ok l=>
  rcases h with ⟨l',rfl,h1,-⟩|⟨a,e,h1,rfl,-⟩
  ·exact h1
  ·exact h1
theorem RSt.takeS_fine {st:RSt} (h:st.fine):(jaq st).fine:=by
 cases st with
 |bad a e=>exact h
 |ok l=>exact jaJ h
theorem Run.mk {α : Type} {m:Nat→List Tk→Except (Int×Nat) (α×List Tk)} {st st':RSt} {x:α} (h1:∀ a e,st = .bad a e→st' = .bad a e) (h2:∀ l,st = .ok l→Run m (.ok l) x st'):Run m st x st':=by
 cases st with
 |bad a e=>exact h1 a e rfl
 |ok l=>exact h2 l rfl
theorem jcl {w:Want} {d:Nat} {l l':List Tk} {xs:List Syn} (h0:l'≠[]) (h1:l'.length≤l.length) (N:Nat) (h:∀ f,N≤f→jaf (f+1) w d l = .ok (xs,l')):Stp w d (.ok l) xs (.ok l'):=
 .inl ⟨l',rfl,h0,h1,N+1,fun f hf=>by obtain⟨g,rfl⟩:∃ g,f=g+1:=⟨f-1,by omega⟩;exact h g (by omega)⟩
theorem jbj {w:Want} {d e:Nat} {a:Int} {l:List Tk} {xs:List Syn} (h0:e≠0) (N:Nat) (h:∀ f,N≤f→jaf (f+1) w d l = .error (a,e)):Stp w d (.ok l) xs (.bad a e):=
 .inr ⟨a,e,h0,rfl,N+1,fun f hf=>by obtain⟨g,rfl⟩:∃ g,f=g+1:=⟨f-1,by omega⟩;exact h g (by omega)⟩
theorem elS {w:Want} {d:Nat} {l:List Tk} {xs:List Syn} {st':RSt} (h:Stp w d (.ok l) xs st') :
  (∃ l',st' = .ok l'∧l'≠[]∧l'.length≤l.length∧∃ N,∀ f,N≤f→jaf f w d l = .ok (xs,l'))∨(∃ a e,e≠0∧st' = .bad a e∧∃ N,∀ f,N≤f→jaf f w d l = .error (a,e)):=h
theorem jig {w v:Want} {d c:Nat} {l:List Tk} {xs:List Syn} {st':RSt} (hs:Stp v c (.ok l) xs st') (h:∀ f,jaf (f+1) w d l=jaf f v c l):Stp w d (.ok l) xs st':=by
 rcases elS hs with ⟨l',rfl,h0,h1,N,hN⟩|⟨a,e,he,rfl,N,hN⟩
 ·exact jcl h0 h1 N fun f hf=>(h f).trans (hN f hf)
 ·exact jbj he N fun f hf=>(h f).trans (hN f hf)
section
variable {L:List Tk} {st st1 st2 st':RSt} {d i:Nat} {x y:Syn} {xs ys:List Syn}
theorem jja (hL:TkL L) (hs:Stp (.lvl 4) d st [x] st1) (hb:Lib.containsS (lvO 3) (cur L st1).t=false):Stp (.lvl 3) d st [x] st1:=by
 refine Run.mk (fun a e h=>by subst h;exact hs) fun l h=>?_
 subst h
 rcases elS hs with ⟨l',rfl,h0,h1,N,hN⟩|⟨a,e,he,rfl,N,hN⟩
 ·rw[jdj] at hb
  exact jcl h0 h1 N fun f hf=>by rw[jaf];simp[hN f hf,hb,bind,Except.bind,pure,Except.pure]
 ·exact jbj he N fun f hf=>by rw[jaf];simp[hN f hf,bind,Except.bind]
theorem jf1 (hL:TkL L) (hs:Stp (.lvl 4) d st [x] st1) (hb:Lib.containsS (lvO 3) (cur L st1).t=true) (hy:Stp (.lvl 4) d (jaq st1) [y] st'):Stp (.lvl 3) d st [.mk 22 (cur L st).a (cur L st1).t 0 [x,y]] st':=by
 cases st with
 |bad a e=>rw[show st1 = .bad a e from hs,jfL hL] at hb;cases hb
 |ok l=>
  rcases elS hs with ⟨l1,rfl,h0,h1,N,hN⟩|⟨a,e,he,rfl,N,hN⟩
  ·rw[jdj] at hb
   have hl:=jat l1
   rcases elS hy with ⟨l2,rfl,g0,g1,M,hM⟩|⟨a,e,he,rfl,M,hM⟩
   ·exact jcl g0 (by omega) (max N M) fun f hf=>by rw[jaf];simp[hN f (by omega),hM f (by omega),hb,bind,Except.bind,pure,Except.pure];exact⟨rfl,rfl⟩
   ·exact jbj he (max N M) fun f hf=>by rw[jaf];simp[hN f (by omega),hM f (by omega),hb,bind,Except.bind,pure,Except.pure]
  ·rw[jfL hL] at hb;cases hb
theorem jch (hi:i=0∨i=1∨i=4∨i=5) (hs:Stp (.lvl (i+1)) d st [x] st1):∀ ys s',Stp (.rep i (cur L st).a [x]) d st1 ys s'→Stp (.lvl i) d st ys s':=by
 intro ys s' hr
 have e2:¬ (i=2∨i=6):=by omega
 have e3:¬ i=3:=by omega
 have e7:¬ 7≤i:=by omega
 cases st with
 |bad a e=>rw[show st1 = .bad a e from hs] at hr;exact hr
 |ok l=>
  rcases elS hs with ⟨l1,rfl,h0,h1,N,hN⟩|⟨a,e,he,rfl,N,hN⟩
  ·rcases elS hr with ⟨l2,rfl,g0,g1,M,hM⟩|⟨a,e,he,rfl,M,hM⟩
   ·exact jcl g0 (by omega) (max N M) fun f hf=>by rw[jaf,if_neg e2,if_neg e3,if_neg e7,hN f (by omega)];exact hM f (by omega)
   ·exact jbj he (max N M) fun f hf=>by rw[jaf,if_neg e2,if_neg e3,if_neg e7,hN f (by omega)];exact hM f (by omega)
  ·rw[show s' = .bad a e from hr]
   exact jbj he N fun f hf=>by rw[jaf,if_neg e2,if_neg e3,if_neg e7,hN f (by omega)];rfl
theorem jc8 {a:Int} (hf:st.fine) (hb:Lib.containsS (lvO i) (cur L st).t=false):Stp (.rep i a xs) d st xs st:=by
 cases st with
 |bad a e=>exact rfl
 |ok l=>
  rw[jdj] at hb
  exact jcl hf (jrr _) 0 fun f hf=>by rw[jaf];simp[hb]
theorem jcq {a:Int} (hL:TkL L) (hb:Lib.containsS (lvO i) (cur L st).t=true) (hy:Stp (.lvl (i+1)) d (jaq st) [y] st1):∀ ys s',Stp (.rep i a [.mk 22 a (cur L st).t 0 [x,y]]) d st1 ys s'→Stp (.rep i a [x]) d st ys s':=by
 intro ys s' hr
 cases st with
 |bad a e=>rw[jfL hL] at hb;cases hb
 |ok l=>
  rw[jdj] at hb
  have hl:=jat l
  rcases elS hy with ⟨l1,rfl,h0,h1,N,hN⟩|⟨a,e,he,rfl,N,hN⟩
  ·rcases elS hr with ⟨l2,rfl,g0,g1,M,hM⟩|⟨a,e,he,rfl,M,hM⟩
   ·exact jcl g0 (by omega) (max N M) fun f hf=>by rw[jaf,if_pos hb,hN f (by omega)];exact hM f (by omega)
   ·exact jbj he (max N M) fun f hf=>by rw[jaf,if_pos hb,hN f (by omega)];exact hM f (by omega)
  ·rw[show s' = .bad a e from hr]
   exact jbj he N fun f hf=>by rw[jaf,if_pos hb,hN f (by omega)];rfl
theorem jeI (hL:TkL L) (hi:i=2∨i=6) (hb:Lib.containsS (lvO i) (cur L st).t=false) (hs:Stp (.lvl (i+1)) d st [x] st'):Stp (.lvl i) d st [x] st':=by
 cases st with
 |bad a e=>exact hs
 |ok l=>
  rw[jdj] at hb
  exact jig hs fun f=>by rw[jaf,if_pos hi];simp[hb]
theorem jdR (hL:TkL L) (hi:i=2∨i=6) (hb:Lib.containsS (lvO i) (cur L st).t=true) (hs:Stp (.lvl i) (d+1) (jaV L st d true) [x] st'):Stp (.lvl i) d st [.mk 21 (cur L st).a (cur L st).t 0 [x]] st':=by
 cases st with
 |bad a e=>rw[jfL hL] at hb;cases hb
 |ok l=>
  rw[jdj] at hb
  have hl:=jat l
  by_cases h64:d=64
  ·subst h64
   rw[show st' = .bad (pHd l).a 12 from hs]
   exact jbj (by decide) 0 fun f hf=>by rw[jaf,if_pos hi,if_pos hb,if_pos rfl]
  ·rw[show jaV L (.ok l) d true = .ok (pTl l) from if_neg h64] at hs
   rcases elS hs with ⟨l1,rfl,h0,h1,N,hN⟩|⟨a,e,he,rfl,N,hN⟩
   ·exact jcl h0 (by omega) N fun f hf=>by rw[jaf,if_pos hi,if_pos hb,if_neg h64,hN f (by omega)];rfl
   ·exact jbj he N fun f hf=>by rw[jaf,if_pos hi,if_pos hb,if_neg h64,hN f (by omega)];rfl
theorem jcQ (f d:Nat) (l:List Tk):jaf (f+1) (.lvl 7) d l =
   if (pHd l).k=1 then .ok ([jdB 20 (pHd l)],pTl l)
   else if pIs jc6 l=true∨pIs jbH l=true then .ok ([jdB 23 (pHd l)],pTl l)
   else if pIs [40] l=true then
    if d=64 then .error ((pHd l).a,12) else do
     let (x,l1) ←jaf f (.lvl 0) (d+1) (pTl l)
     let l2 ←jaQ [41] l1
     return (x,l2)
   else jaf f .place d l:=by
 rw[jaf,if_neg (by decide),if_neg (by decide),if_pos (by decide)]
theorem jeJ (hL:TkL L) (hf:st.fine) (hb:((cur L st).k==1)=true):Stp (.lvl 7) d st [jdB 20 (cur L st)] (jaq st):=by
 cases st with
 |bad a e=>rw[jeH hL] at hb;cases hb
 |ok l=>exact jcl (jaJ hf) (jat l) 0 fun f _=>by rw[jcQ,if_pos (show (pHd l).k=1 from beq_iff_eq.mp hb)];rfl
theorem jcF (hL:TkL L) (hf:st.fine) (h1:((cur L st).k==1)=false) (hb:tIs L st ⟨#[116,114,117,101]⟩=true∨tIs L st ⟨#[102,97,108,115,101]⟩=true):Stp (.lvl 7) d st [jdB 23 (cur L st)] (jaq st):=by
 cases st with
 |bad a e=>
  rcases hb with h|h
  ·exact absurd ((jck hL (s:=jc6) (by decide)).symm.trans h) (by decide)
  ·exact absurd ((jck hL (s:=jbH) (by decide)).symm.trans h) (by decide)
 |ok l=>
  have hb:=hb.imp (fun h=>(jaP L l jc6).symm.trans h) (fun h=>(jaP L l jbH).symm.trans h)
  exact jcl (jaJ hf) (jat l) 0 fun f _=>by rw[jcQ,if_neg (fun e=>by rw[show (cur L (.ok l)).k=1 from e] at h1;cases h1),if_pos hb];rfl
theorem jeK (hL:TkL L) (h1:((cur L st).k==1)=false) (h2:tIs L st ⟨#[116,114,117,101]⟩=false) (h3:tIs L st ⟨#[102,97,108,115,101]⟩=false) (hb:tIs L st ⟨#[40]⟩=true)
  (hs:Stp (.lvl 0) (d+1) (jaV L st d true) [x] st1):Stp (.lvl 7) d st [x] (jad (tIs L st1 ⟨#[41]⟩) st1):=by
 cases st with
 |bad a e=>exact absurd ((jck hL (s:=[40]) (by decide)).symm.trans hb) (by decide)
 |ok l=>
  have h2:=(jaP L l jc6).symm.trans h2
  have h3:=(jaP L l jbH).symm.trans h3
  have hb:=(jaP L l [40]).symm.trans hb
  have hl:=jat l
  have n1:¬ (pHd l).k=1:=fun e=>by rw[show (cur L (.ok l)).k=1 from e] at h1;cases h1
  have n2:¬ (pIs jc6 l=true∨pIs jbH l=true):=by rw[h2,h3];simp
  by_cases h64:d=64
  ·subst h64
   rw[show st1 = .bad (pHd l).a 12 from hs]
   exact jbj (by decide) 0 fun f hf=>by rw[jcQ,if_neg n1,if_neg n2,if_pos hb,if_pos rfl]
  ·rw[show jaV L (.ok l) d true = .ok (pTl l) from if_neg h64] at hs
   rcases elS hs with ⟨l1,rfl,h0,h1,N,hN⟩|⟨a,e,he,rfl,N,hN⟩
   ·rw[show tIs L (.ok l1) ⟨#[41]⟩=pIs [41] l1 from jaP L l1 [41]]
    cases hc:pIs [41] l1 with
    |true=>exact jcl (jaJ h0) (Nat.le_trans (jat l1) (by omega)) N fun f hf=>by rw[jcQ,if_neg n1,if_neg n2,if_pos hb,if_neg h64,hN f (by omega)];simp[jaQ,hc,bind,Except.bind,pure,Except.pure]
    |false=>exact jbj (by decide) N fun f hf=>by rw[jcQ,if_neg n1,if_neg n2,if_pos hb,if_neg h64,hN f (by omega)];simp[jaQ,hc,bind,Except.bind,pure,Except.pure]
   ·exact jbj he N fun f hf=>by rw[jcQ,if_neg n1,if_neg n2,if_pos hb,if_neg h64,hN f (by omega)];rfl
theorem jdC (hL:TkL L) (h1:((cur L st).k==1)=false) (h2:tIs L st ⟨#[116,114,117,101]⟩=false) (h3:tIs L st ⟨#[102,97,108,115,101]⟩=false) (hb:tIs L st ⟨#[40]⟩=false)
  (hs:Stp .place d st [x] st'):Stp (.lvl 7) d st [x] st':=by
 cases st with
 |bad a e=>exact hs
 |ok l=>
  have h2:=(jaP L l jc6).symm.trans h2
  have h3:=(jaP L l jbH).symm.trans h3
  have hb:=(jaP L l [40]).symm.trans hb
  have n1:¬ (pHd l).k=1:=fun e=>by rw[show (cur L (.ok l)).k=1 from e] at h1;cases h1
  have n2:¬ (pIs jc6 l=true∨pIs jbH l=true):=by rw[h2,h3];simp
  exact jig hs fun f=>by rw[jcQ,if_neg n1,if_neg n2,hb];rfl
end
end Go.Proofs.YtenmmmdnpglkoaaGreatDoor

namespace Go.Proofs.YtenmmmdnpglkoaaGreatDoor
open Go Go.Proofs Go.RowKit Go.Sort
theorem Run.rem {α : Type} {m:Nat→List Tk→Except (Int×Nat) (α×List Tk)} {st st':RSt} {x:α} (h:Run m st x st'):st'.rem≤st.rem:=by
 cases st with
 |bad a e=>rw[show st' = .bad a e from h];exact jrr _
 |ok l=>
  rcases h with ⟨l',rfl,-,h,-⟩|⟨a,e,-,rfl,-⟩
  ·exact h
  ·exact Nat.zero_le _
theorem ja6 (st:RSt):(jaq st).rem≤st.rem:=by
 cases st with
 |bad a e=>exact jrr _
 |ok l=>exact jat l
theorem jhD (L:List Tk) (st:RSt):tIs L st (cur L st).t=true:=by unfold tIs;exact beq_self_eq_true _
theorem jci (L:List Tk) (st:RSt):tokM L st true=cur L st:=rfl
theorem jjb {R:Nat} {L:List Tk} {d:Nat} {st:RSt} {w:World} (h:At R L w d st) (K:∀ s:RSt,s.rem≤st.rem→GT 65 R L #[.pointer (some ⟨R,0,none⟩),.int .i64 4] (.lvl 4) d s) :
  Calls Tryz.prog 100 #[.pointer (some ⟨R,0,none⟩),.int .i64 3] w (PT R L (.lvl 3) d st w):=by
 have HTL:=jD h.fix.toks
 have KL:=jD K
 clear K
 have HA0:=jD h
 have HLT:=jD h.fix.lt;have HRW:=jD h.fix.lt
 have A0:=jD (h.alloc jZ);obtain⟨B0,XR0,HPR,HLS⟩:=jS h.fix.lt
 clear h 
 go_enter Tryz.func100,Tryz.ntmps100
 have CH:=fun W (H:At R L W d st)=>jeG H
 have KH:=jD CH;clear CH
 go_wp2_with (go_at_call 36;refine jR (KH.out _ A0) B0 XR0 HPR fun w1 A1 B1 XR1=>?_)
 refine jD ?_
 go_wp2_with (go_at_call 65;refine jT (KL.out st (jrr _) _ A1) B1 XR1 HPR fun w2 k2 a2 t2 n2 o2 l2 c2 q2 s2 HS2 TR2 A2 B2 XR2=>?_)
 refine jD ?_
 have A2a:=jD (A2.out.alloc (jO k2 a2 t2 n2 o2 l2 c2));have B2a:=jD (B2.out.alloc HRW (jO k2 a2 t2 n2 o2 l2 c2))
 have XR2a:=jD (XR2.out.alloc (jO k2 a2 t2 n2 o2 l2 c2))
 have TR22a:=jww TR2 HLT A2.out.fix.lt (jO k2 a2 t2 n2 o2 l2 c2)
 have PXL:=nR A2.out.fix.lt
 have XL2a:=jD (jn5 w2 k2 a2 t2 n2 o2 l2 c2)
 have CO:=jme A2a
 cases hb:Lib.containsS (lvO 3) (cur L s2).t with
 |true=>
  rw[hb] at CO
  have KO:=jD CO;have HBB:=jD hb;clear CO hb
  go_wp2_with (go_at_call 128;refine jX (KO.out) B2a XR2a HPR fun w3 A3 B3 XR3 hb3=>?_)
  have XL3:=jbb XL2a PXL hb3
  have TR23:=jvv TR22a HLT hb3
  clear hb3
  refine jD ?_
  obtain⟨yXL0,yXL1,yXL2,yXL3,yXL4,-,-⟩:=XL3.out
  have COP:=jc7 3 w.heap.size (by decide) (cur L st).a A3 ⟨HLT.out,B3.out.size⟩ [w.heap.size] (by simp;have:=XR3.out.lt;omega) (KL.out (jaq s2) (Nat.le_trans (ja6 _) (Run.rem HS2))) k2 a2 n2 t2 o2 l2 c2 (.mk k2 a2 t2 n2 q2) TR23
  have KOP:=jD COP;clear COP
  go_wp2_with (go_at_call 129;refine cM (KOP.out) ?_;rintro e w4 ⟨y4,v4,s4,rfl,hx4,hs4,ha4,hb4⟩)
  obtain⟨k4,a4,t4,n4,o4,l4,c4,q4,hq4,rfl⟩:=hx4.shape
  have TR4:=jD hx4;have HS4:=jD hs4
  have A4:=jD ha4;have B4:=jtt B3 hb4
  have XR4:=jbb XR3 HPR hb4
  have XL4:=jbb XL3 PXL hb4
  have TR24:=jvv TR23 HLT hb4
  clear ha4 hb4 hx4 hs4
  refine jD ?_
  have FT:=jD (ja4 HA0 B4 A4 XR4 (jrr _) (.int .i64 k4) (.int .i64 a4) (.string t4) (.int .i64 n4) (.slice o4 l4 c4) _ rfl)
  have GX:=jD ((TR4.out).kept (by simp) FT.out.2.2.2).at
  obtain⟨yXR0,yXR1,yXR2,yXR3,yXR4,fXR0,fXR1,fXR2,fXR3,fXR4⟩:=bF XR4
  obtain⟨r0,r1,r2,r3,r4⟩:=FT.out.1
  have GA:=jD FT.out.2.1;have GB:=jD FT.out.2.2.1
  clear FT
  go_wp2
  refine bodyPost_ret (by simp[results,Tryz.results100,go_sem,r0,r1,r2,r3,r4];rfl) rfl ?_
  exact⟨_,_,_,rfl,GX.out,jf1 HTL HS2 HBB HS4,GA.out,GB.out⟩
 |false=>
  rw[hb] at CO
  have KO:=jD CO;have HBB:=jD hb;clear CO hb
  go_wp2_with (go_at_call 128;refine jX (KO.out) B2a XR2a HPR fun w3 A3 B3 XR3 hb3=>?_)
  have XL3:=jbb XL2a PXL hb3
  have TR23:=jvv TR22a HLT hb3
  clear hb3
  refine jD ?_
  obtain⟨yXL0,yXL1,yXL2,yXL3,yXL4,-,-⟩:=XL3.out
  have FT:=jD (ja4 HA0 B3 A3 XR3 (jrr _) (.int .i64 k2) (.int .i64 a2) (.string t2) (.int .i64 n2) (.slice o2 l2 c2) _ rfl)
  have GX:=jD ((TR23.out).kept (by simp) FT.out.2.2.2).at
  obtain⟨yXR0,yXR1,yXR2,yXR3,yXR4,fXR0,fXR1,fXR2,fXR3,fXR4⟩:=bF XR3
  obtain⟨r0,r1,r2,r3,r4⟩:=FT.out.1
  have GA:=jD FT.out.2.1;have GB:=jD FT.out.2.2.1
  clear FT
  go_wp2
  refine bodyPost_ret (by simp[results,Tryz.results100,go_sem,r0,r1,r2,r3,r4];rfl) rfl ?_
  exact⟨_,_,_,rfl,GX.out,jja HTL HS2 HBB,GA.out,GB.out⟩
theorem jih {R:Nat} {L:List Tk} {d:Nat} {st:RSt} {w:World} (h:At R L w d st) (hd:d≤999999) (K1:GT 65 R L #[.pointer (some ⟨R,0,none⟩),.int .i64 3] (.lvl 3) d st) (K2:Lib.containsS (lvO 2) (cur L st).t=true→GT 65 R L #[.pointer (some ⟨R,0,none⟩),.int .i64 2] (.lvl 2) (d+1) (jaV L st d true)) :
  Calls Tryz.prog 99 #[.pointer (some ⟨R,0,none⟩),.int .i64 2] w (PT R L (.lvl 2) d st w):=by
 have HTL:=jD h.fix.toks
 have CO:=fun W (H:At R L W d st)=>jmd H
 have CT:=fun W (H:At R L W d st)=>jk1 H
 have CE:=fun W (H:At R L W d st)=>jfz H hd (cur L st).t
 rw[jhD,jci] at CE
 have hf:=jaG
 cases hb:Lib.containsS (lvO 2) (cur L st).t with
 |true=>
  rw[hb] at CO
  have K3:=K2 hb;clear K2
  have HM:=jD (fun x s' (hs:Stp (.lvl 2) (d+1) (jaV L st d true) [x] s')=>jdR HTL (by omega) hb hs)
  generalize cur L st=T at *
  obtain⟨ek,et,ea⟩:=T
  unfold tkA at *
  dsimp only at *
  have KO:=jD CO;have KT:=jD CT;have KE:=jD CE;have KL:=jD K3;have HD:=jD hd
  have HA0:=jD h
  have HLT:=jD h.fix.lt;have HRW:=jD h.fix.lt
  have A0:=jD (h.alloc jZ);obtain⟨B0,XR0,HPR,HLS⟩:=jS h.fix.lt
  clear h CO CT CE K1 K3 hb hd HTL
  go_enter Tryz.func99,Tryz.ntmps99
  go_wp2_with (go_at_call 128;refine jR (KO.out _ A0) B0 XR0 HPR fun w1 A1 B1 XR1=>?_)
  refine jD ?_
  go_wp2_with (go_at_call 72;refine jR (KT.out _ A1) B1 XR1 HPR fun w2 A2 B2 XR2=>?_)
  refine jD ?_
  go_wp2_with (go_at_call 113;refine jR (KE.out _ A2) B2 XR2 HPR fun w3 A3 B3 XR3=>?_)
  refine jD ?_
  have A3a:=jD (A3.out.alloc (jU ek et ea));have B3a:=jD (B3.out.alloc HRW (jU ek et ea))
  have XR3a:=jD (XR3.out.alloc (jU ek et ea))
  have PTT:=nR A3.out.fix.lt
  have TT3a:=jD (Bx3.new w3 (.int .i64 ek) (.string et) (.int .i64 ea))
  go_wp2_with (go_at_call 65;refine cM (KL.out _ A3a) ?_;rintro e w4 ⟨x4,v4,s4,rfl,hx4,hs4,ha4,hb4⟩)
  obtain⟨k4,a4,t4,n4,o4,l4,c4,q4,rfl,rfl,hk4⟩:=hx4.shape
  have HS4:=jD hs4
  have TR4:=tA hx4 B3a.out.size XR3a.out.lt
  have A4:=jD ha4;have B4:=jtt B3a hb4
  have XR4:=jbb XR3a HPR hb4
  have TT4:=jD (TT3a.out.butt PTT hb4)
  clear ha4 hb4 hx4 hk4 hs4
  refine jD ?_
  have A4a1:=jD (A4.out.alloc (jO k4 a4 t4 n4 o4 l4 c4));have B4a1:=jD (B4.out.alloc HRW (jO k4 a4 t4 n4 o4 l4 c4))
  have XR4a1:=jD (XR4.out.alloc (jO k4 a4 t4 n4 o4 l4 c4))
  have TT4a1:=jD (TT4.out.alloc (jO k4 a4 t4 n4 o4 l4 c4))
  have TR44a1:=jww TR4 HLT A4.out.fix.lt (jO k4 a4 t4 n4 o4 l4 c4)
  have PXX:=nR A4.out.fix.lt
  have XX4a1:=jD (jn5 w4 k4 a4 t4 n4 o4 l4 c4)
  go_wp2_with (go_at_call 116;refine jX (jfy A4a1 HD) B4a1 XR4a1 HPR fun w5 A5 B5 XR5 hb5=>?_)
  have TT5:=jD (TT4a1.out.butt PTT hb5)
  have XX5:=jbb XX4a1 PXX hb5
  have TR45:=jvv TR44a1 HLT hb5
  clear hb5
  refine jD ?_
  obtain⟨yTT0,yTT1,yTT2,-,-⟩:=TT5.out
  obtain⟨yXX0,yXX1,yXX2,yXX3,yXX4,-,-⟩:=XX5.out
  have hAw:offs w.heap.size [w.heap.size] w5.heap.size:=⟨Nat.le_trans (jrr _) B5.out.size,fun hp=>by simp only[List.mem_cons,List.not_mem_nil,or_false] at hp;have g0:=XR5.out.lt;omega⟩
  have hki:=jaw (flatIn.one (TR45.out)) (by simp) hAw 1 rfl
  have KI:=jD hki
  clear hAw hki
  go_wp2_with (go_at_call 40;refine cM (jau _ _ _ _ _ _ _) ?_;rintro e w6 ⟨rfl,hb6⟩)
  have hbx:=Butt.of_below (R:=R) A5.out.fix.lt (Below.chain (jN (jO k4 a4 t4 n4 o4 l4 c4)) hb6)
  have ha6:At R L w6 _ _:=⟨A5.out.fix.butt hbx,A5.out.rs.below (Below.chain (jN (jO k4 a4 t4 n4 o4 l4 c4)) hb6)⟩
  have TN:=jD (jac.mpr ⟨_,rfl,KI.out.below hb6⟩:synIn (offs w.heap.size [w.heap.size]) w6 (.mk 21 ea et 0 [(.mk k4 a4 t4 n4 q4)]) _)
  have hb6:=hbx;clear hbx
  have A6:=jD ha6;have B6:=jtt B5 hb6
  have XR6:=jbb XR5 HPR hb6
  have TT6:=jD (TT5.out.butt PTT hb6)
  have XX6:=jbb XX5 PXX hb6
  clear ha6 hb6
  refine jD ?_
  have FT:=jD (ja4 HA0 B6 A6 XR6 (jrr _) (.int .i64 21) (.int .i64 ea) (.string et) (.int .i64 0) (.slice (some ⟨w5.heap.size,0,none⟩) 1 1) _ rfl)
  have GX:=jD ((TN.out).kept (by simp) FT.out.2.2.2).at
  obtain⟨yXR0,yXR1,yXR2,yXR3,yXR4,fXR0,fXR1,fXR2,fXR3,fXR4⟩:=bF XR6
  obtain⟨r0,r1,r2,r3,r4⟩:=FT.out.1
  have GA:=jD FT.out.2.1;have GB:=jD FT.out.2.2.1
  clear FT
  go_wp2
  refine bodyPost_ret (by simp[results,Tryz.results99,go_sem,r0,r1,r2,r3,r4];rfl) rfl ?_
  exact⟨_,_,_,rfl,GX.out,HM.out _ _ HS4,GA.out,GB.out⟩
 |false=>
  rw[hb] at CO
  have HBB:=jD hb;have KO:=jD CO;have KL:=jD K1
  have HA0:=jD h
  have HLT:=jD h.fix.lt;have HRW:=jD h.fix.lt
  have A0:=jD (h.alloc jZ);obtain⟨B0,XR0,HPR,HLS⟩:=jS h.fix.lt
  clear h CO CT CE K1 K2 hb hd
  go_enter Tryz.func99,Tryz.ntmps99
  go_wp2_with (go_at_call 128;refine jR (KO.out _ A0) B0 XR0 HPR fun w1 A1 B1 XR1=>?_)
  refine jD ?_
  go_wp2_with (go_at_call 65;refine jT (KL.out _ A1) B1 XR1 HPR fun w2 k2 a2 t2 n2 o2 l2 c2 q2 s2 HS2 TR2 A2 B2 XR2=>?_)
  refine jD ?_
  have FT:=jD (ja4 HA0 B2 A2 XR2 (jrr _) (.int .i64 k2) (.int .i64 a2) (.string t2) (.int .i64 n2) (.slice o2 l2 c2) _ rfl)
  have GX:=jD ((TR2.out).kept (by simp) FT.out.2.2.2).at
  obtain⟨yXR0,yXR1,yXR2,yXR3,yXR4,fXR0,fXR1,fXR2,fXR3,fXR4⟩:=bF XR2
  obtain⟨r0,r1,r2,r3,r4⟩:=FT.out.1
  have GA:=jD FT.out.2.1;have GB:=jD FT.out.2.2.1
  clear FT
  go_wp2
  refine bodyPost_ret (by simp[results,Tryz.results99,go_sem,r0,r1,r2,r3,r4];rfl) rfl ?_
  exact⟨_,_,_,rfl,GX.out,jeI HTL (by omega) HBB HS2,GA.out,GB.out⟩
theorem jii {R:Nat} {L:List Tk} {d:Nat} {st:RSt} {w:World} (h:At R L w d st) (hd:d≤999999) (K1:GT 65 R L #[.pointer (some ⟨R,0,none⟩),.int .i64 7] (.lvl 7) d st) (K2:Lib.containsS (lvO 6) (cur L st).t=true→GT 65 R L #[.pointer (some ⟨R,0,none⟩),.int .i64 6] (.lvl 6) (d+1) (jaV L st d true)) :
  Calls Tryz.prog 99 #[.pointer (some ⟨R,0,none⟩),.int .i64 6] w (PT R L (.lvl 6) d st w):=by
 have HTL:=jD h.fix.toks
 have CO:=fun W (H:At R L W d st)=>jmh H
 have CT:=fun W (H:At R L W d st)=>jk1 H
 have CE:=fun W (H:At R L W d st)=>jfz H hd (cur L st).t
 rw[jhD,jci] at CE
 have hf:=jaG
 cases hb:Lib.containsS (lvO 6) (cur L st).t with
 |true=>
  rw[hb] at CO
  have K3:=K2 hb;clear K2
  have HM:=jD (fun x s' (hs:Stp (.lvl 6) (d+1) (jaV L st d true) [x] s')=>jdR HTL (by omega) hb hs)
  generalize cur L st=T at *
  obtain⟨ek,et,ea⟩:=T
  unfold tkA at *
  dsimp only at *
  have KO:=jD CO;have KT:=jD CT;have KE:=jD CE;have KL:=jD K3;have HD:=jD hd
  have HA0:=jD h
  have HLT:=jD h.fix.lt;have HRW:=jD h.fix.lt
  have A0:=jD (h.alloc jZ);obtain⟨B0,XR0,HPR,HLS⟩:=jS h.fix.lt
  clear h CO CT CE K1 K3 hb hd HTL
  go_enter Tryz.func99,Tryz.ntmps99
  go_wp2_with (go_at_call 128;refine jR (KO.out _ A0) B0 XR0 HPR fun w1 A1 B1 XR1=>?_)
  refine jD ?_
  go_wp2_with (go_at_call 72;refine jR (KT.out _ A1) B1 XR1 HPR fun w2 A2 B2 XR2=>?_)
  refine jD ?_
  go_wp2_with (go_at_call 113;refine jR (KE.out _ A2) B2 XR2 HPR fun w3 A3 B3 XR3=>?_)
  refine jD ?_
  have A3a:=jD (A3.out.alloc (jU ek et ea));have B3a:=jD (B3.out.alloc HRW (jU ek et ea))
  have XR3a:=jD (XR3.out.alloc (jU ek et ea))
  have PTT:=nR A3.out.fix.lt
  have TT3a:=jD (Bx3.new w3 (.int .i64 ek) (.string et) (.int .i64 ea))
  go_wp2_with (go_at_call 65;refine cM (KL.out _ A3a) ?_;rintro e w4 ⟨x4,v4,s4,rfl,hx4,hs4,ha4,hb4⟩)
  obtain⟨k4,a4,t4,n4,o4,l4,c4,q4,rfl,rfl,hk4⟩:=hx4.shape
  have HS4:=jD hs4
  have TR4:=tA hx4 B3a.out.size XR3a.out.lt
  have A4:=jD ha4;have B4:=jtt B3a hb4
  have XR4:=jbb XR3a HPR hb4
  have TT4:=jD (TT3a.out.butt PTT hb4)
  clear ha4 hb4 hx4 hk4 hs4
  refine jD ?_
  have A4a1:=jD (A4.out.alloc (jO k4 a4 t4 n4 o4 l4 c4));have B4a1:=jD (B4.out.alloc HRW (jO k4 a4 t4 n4 o4 l4 c4))
  have XR4a1:=jD (XR4.out.alloc (jO k4 a4 t4 n4 o4 l4 c4))
  have TT4a1:=jD (TT4.out.alloc (jO k4 a4 t4 n4 o4 l4 c4))
  have TR44a1:=jww TR4 HLT A4.out.fix.lt (jO k4 a4 t4 n4 o4 l4 c4)
  have PXX:=nR A4.out.fix.lt
  have XX4a1:=jD (jn5 w4 k4 a4 t4 n4 o4 l4 c4)
  go_wp2_with (go_at_call 116;refine jX (jfy A4a1 HD) B4a1 XR4a1 HPR fun w5 A5 B5 XR5 hb5=>?_)
  have TT5:=jD (TT4a1.out.butt PTT hb5)
  have XX5:=jbb XX4a1 PXX hb5
  have TR45:=jvv TR44a1 HLT hb5
  clear hb5
  refine jD ?_
  obtain⟨yTT0,yTT1,yTT2,-,-⟩:=TT5.out
  obtain⟨yXX0,yXX1,yXX2,yXX3,yXX4,-,-⟩:=XX5.out
  have hAw:offs w.heap.size [w.heap.size] w5.heap.size:=⟨Nat.le_trans (jrr _) B5.out.size,fun hp=>by simp only[List.mem_cons,List.not_mem_nil,or_false] at hp;have g0:=XR5.out.lt;omega⟩
  have hki:=jaw (flatIn.one (TR45.out)) (by simp) hAw 1 rfl
  have KI:=jD hki
  clear hAw hki
  go_wp2_with (go_at_call 40;refine cM (jau _ _ _ _ _ _ _) ?_;rintro e w6 ⟨rfl,hb6⟩)
  have hbx:=Butt.of_below (R:=R) A5.out.fix.lt (Below.chain (jN (jO k4 a4 t4 n4 o4 l4 c4)) hb6)
  have ha6:At R L w6 _ _:=⟨A5.out.fix.butt hbx,A5.out.rs.below (Below.chain (jN (jO k4 a4 t4 n4 o4 l4 c4)) hb6)⟩
  have TN:=jD (jac.mpr ⟨_,rfl,KI.out.below hb6⟩:synIn (offs w.heap.size [w.heap.size]) w6 (.mk 21 ea et 0 [(.mk k4 a4 t4 n4 q4)]) _)
  have hb6:=hbx;clear hbx
  have A6:=jD ha6;have B6:=jtt B5 hb6
  have XR6:=jbb XR5 HPR hb6
  have TT6:=jD (TT5.out.butt PTT hb6)
  have XX6:=jbb XX5 PXX hb6
  clear ha6 hb6
  refine jD ?_
  have FT:=jD (ja4 HA0 B6 A6 XR6 (jrr _) (.int .i64 21) (.int .i64 ea) (.string et) (.int .i64 0) (.slice (some ⟨w5.heap.size,0,none⟩) 1 1) _ rfl)
  have GX:=jD ((TN.out).kept (by simp) FT.out.2.2.2).at
  obtain⟨yXR0,yXR1,yXR2,yXR3,yXR4,fXR0,fXR1,fXR2,fXR3,fXR4⟩:=bF XR6
  obtain⟨r0,r1,r2,r3,r4⟩:=FT.out.1
  have GA:=jD FT.out.2.1;have GB:=jD FT.out.2.2.1
  clear FT
  go_wp2
  refine bodyPost_ret (by simp[results,Tryz.results99,go_sem,r0,r1,r2,r3,r4];rfl) rfl ?_
  exact⟨_,_,_,rfl,GX.out,HM.out _ _ HS4,GA.out,GB.out⟩
 |false=>
  rw[hb] at CO
  have HBB:=jD hb;have KO:=jD CO;have KL:=jD K1
  have HA0:=jD h
  have HLT:=jD h.fix.lt;have HRW:=jD h.fix.lt
  have A0:=jD (h.alloc jZ);obtain⟨B0,XR0,HPR,HLS⟩:=jS h.fix.lt
  clear h CO CT CE K1 K2 hb hd
  go_enter Tryz.func99,Tryz.ntmps99
  go_wp2_with (go_at_call 128;refine jR (KO.out _ A0) B0 XR0 HPR fun w1 A1 B1 XR1=>?_)
  refine jD ?_
  go_wp2_with (go_at_call 65;refine jT (KL.out _ A1) B1 XR1 HPR fun w2 k2 a2 t2 n2 o2 l2 c2 q2 s2 HS2 TR2 A2 B2 XR2=>?_)
  refine jD ?_
  have FT:=jD (ja4 HA0 B2 A2 XR2 (jrr _) (.int .i64 k2) (.int .i64 a2) (.string t2) (.int .i64 n2) (.slice o2 l2 c2) _ rfl)
  have GX:=jD ((TR2.out).kept (by simp) FT.out.2.2.2).at
  obtain⟨yXR0,yXR1,yXR2,yXR3,yXR4,fXR0,fXR1,fXR2,fXR3,fXR4⟩:=bF XR2
  obtain⟨r0,r1,r2,r3,r4⟩:=FT.out.1
  have GA:=jD FT.out.2.1;have GB:=jD FT.out.2.2.1
  clear FT
  go_wp2
  refine bodyPost_ret (by simp[results,Tryz.results99,go_sem,r0,r1,r2,r3,r4];rfl) rfl ?_
  exact⟨_,_,_,rfl,GX.out,jeI HTL (by omega) HBB HS2,GA.out,GB.out⟩
end Go.Proofs.YtenmmmdnpglkoaaGreatDoor
