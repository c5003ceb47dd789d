import Derived.Deep.AppendLies
import Derived.Test.YtenmmmdnpglkoaaGreatDoorCut3
import Derived.Lib.Builder
import Derived.Lib.AppendStr
import Derived.Lib.UnsafeStr
import Derived.Laws.Externs
import Derived.Lib.OthersKept
import Derived.Lib.OwnKind
import Derived.Laws.StructEq
set_option linter.unusedSimpArgs false
set_option linter.unusedVariables false
set_option maxRecDepth 100000
set_option maxHeartbeats 8000000
/-
 lexer.Scan.
-/
namespace Go.Proofs.YtenmmmdnpglkoaaGreatDoor
open Go Go.Proofs Go.RowKit
structure Tk where
 k:Int
 t:ByteArray
 a:Int
def jkD (t:Tk):Value:=.agg #[.int .i64 t.k,.string t.t,.int .i64 t.a]
def jbf (l:List Tk):List Value:=l.flatMap fun t=>[.int .i64 t.k,.string t.t,.int .i64 t.a]
theorem jde:∀ l:List Tk,(jbf l).length=l.length * 3
 | []=>rfl
 |t::l=>by
  have:=jde l
  unfold jbf at *
  simp only[List.flatMap_cons,List.length_append,List.length_cons,List.length_nil]
  omega
theorem jeX (l m:List Tk):jbf (l++m)=jbf l++jbf m:=by unfold jbf;rw[List.flatMap_append]
def tkT (s:ByteArray) (a:Nat):Tk:=
 if cls (jaa s a)=3 then ⟨0,s.extract a (a+wl ((bytes s).drop a)),(a:Int)⟩
 else if cls (jaa s a)=4 then ⟨1,s.extract a (a+wl ((bytes s).drop a)),(a:Int)⟩
 else ⟨2,s.extract a (a+sl ((bytes s).drop a)),(a:Int)⟩
theorem jkE {s:ByteArray} {a:Nat} (h:(tokX s a).2=0):(tokX s a).1=jkD (tkT s a):=by
 unfold tokX tkO tkT jkD at *
 by_cases h3:cls (jaa s a)=3
 ·rw[if_pos h3] at h ⊢
  rw[if_pos h3]
  split at h
  ·cases h
  ·rename_i hn
   rw[if_neg hn]
 ·rw[if_neg h3] at h ⊢
  rw[if_neg h3]
  by_cases h4:cls (jaa s a)=4
  ·rw[if_pos h4] at h ⊢
   rw[if_pos h4]
   split at h
   ·rename_i hn
    rw[if_pos hn]
   ·rename_i hn
    exact absurd h hn
  ·rw[if_neg h4] at h ⊢
   rw[if_neg h4]
   split at h
   ·cases h
   ·rename_i hn
    rw[if_neg hn]
theorem jj8 {s:ByteArray} {a:Nat} (h:(tokX s a).2≠0):(tokX s a).1 = .agg #[.int .i64 0,.string ⟨#[]⟩,.int .i64 0]:=by
 unfold tokX tkO at *
 by_cases h3:cls (jaa s a)=3
 ·rw[if_pos h3] at h ⊢
  split at h
  ·rename_i hn
   rw[if_pos hn]
  ·exact absurd rfl h
 ·rw[if_neg h3] at h ⊢
  by_cases h4:cls (jaa s a)=4
  ·rw[if_pos h4] at h ⊢
   split at h
   ·exact absurd rfl h
   ·rename_i hn
    rw[if_neg hn]
  ·rw[if_neg h4] at h ⊢
   split at h
   ·rename_i hn
    rw[if_pos hn]
   ·exact absurd rfl h
theorem jku {s:ByteArray} {a:Nat} (ha:a<s.size) (h:cls (jaa s a)=3∨cls (jaa s a)=4):1≤wl ((bytes s).drop a):=by
 rw[jcU s ha]
 rw[jbk ha] at h
 unfold wl wdB
 rw[List.takeWhile_cons]
 rcases h with h|h
 ·rw[h];simp
 ·rw[h];simp
theorem jf8 {s:ByteArray} {a:Nat} (h:(tokX s a).2=0) (ha:a<s.size):1≤(tkT s a).t.size∧a+(tkT s a).t.size≤s.size:=by
 have hwl:=jhQ ((bytes s).drop a)
 have hsl:=jj7 ((bytes s).drop a)
 rw[List.length_drop,jan] at hwl hsl
 have hw:=fun hc=>jku ha hc
 unfold tokX tkO at h
 unfold tkT
 by_cases h3:cls (jaa s a)=3
 ·rw[if_pos h3]
  have:=hw (.inl h3)
  show 1≤(s.extract a (a+_)).size∧a+(s.extract a (a+_)).size≤_
  rw[jbh s (by omega)]
  omega
 ·rw[if_neg h3] at h ⊢
  by_cases h4:cls (jaa s a)=4
  ·rw[if_pos h4]
   have:=hw (.inr h4)
   show 1≤(s.extract a (a+_)).size∧a+(s.extract a (a+_)).size≤_
   rw[jbh s (by omega)]
   omega
  ·rw[if_neg h4] at h ⊢
   split at h
   ·cases h
   ·show 1≤(s.extract a (a+_)).size∧a+(s.extract a (a+_)).size≤_
    rw[jbh s (by omega)]
    omega
def nx (s:ByteArray) (a:Nat):Nat:=a+(tkT s a).t.size+skM false ((bytes s).drop (a+(tkT s a).t.size))
theorem jm2 {s:ByteArray} {a:Nat} (h:(tokX s a).2=0) (ha:a<s.size):a<nx s a∧nx s a≤s.size:=by
 obtain⟨h1,h2⟩:=jf8 h ha
 have:=jdw false ((bytes s).drop (a+(tkT s a).t.size))
 rw[List.length_drop,jan] at this
 unfold nx
 omega
def scF (s:ByteArray):Nat→Nat→List Tk×Nat×Nat
 |0,_=>([],0,0)
 |f+1,a=>if s.size≤a then ([⟨3,⟨#[]⟩,(s.size:Int)⟩],0,0) else if (tokX s a).2=0 then (tkT s a::(scF s f (nx s a)).1,(scF s f (nx s a)).2) else ([],a,(tokX s a).2)
theorem jhy {s:ByteArray} {f j:Nat} (h:j<s.size) (he:(tokX s j).2=0):scF s (f+1) j=(tkT s j::(scF s f (nx s j)).1,(scF s f (nx s j)).2):=by
 rw[scF,if_neg (by omega),if_pos he]
theorem jf9 {s:ByteArray} {f j:Nat} (h:j<s.size) (he:(tokX s j).2≠0):scF s (f+1) j=([],j,(tokX s j).2):=by
 rw[scF,if_neg (by omega),if_neg he]
theorem jgC {s:ByteArray} {f j:Nat} (h:s.size≤j):scF s (f+1) j=([⟨3,⟨#[]⟩,(s.size:Int)⟩],0,0):=by
 rw[scF,if_pos h]
def scR (s:ByteArray):List Tk×Nat×Nat:=
 if 65536<s.size then ([],0,13) else
 if (scF s (s.size+1) (skM false (bytes s))).2.2=0 then scF s (s.size+1) (skM false (bytes s)) else ([],(scF s (s.size+1) (skM false (bytes s))).2)
theorem jkF (g o j:Nat):((⟨g,o,none⟩:Addr).add j)=⟨g,o+j,none⟩:=by simp[Addr.add]
theorem jb5 (g j:Nat):((⟨g,0,none⟩:Addr).add j)=⟨g,j,none⟩:=by rw[jkF,Nat.zero_add]
theorem jkG:(Tryz.prog.info? 50).map (fun i=>(i.zero,i.size,i.bytes))=some (some (.agg #[.int .i64 0,.string ⟨#[]⟩,.int .i64 0]),3,32):=by kernel_rfl
theorem jaZ {ops:Array Oper} {rest:List Oper} {o:Oper} {a:Act} {W:World} {Q:Exit→Act→World→Prop}
  (hg:o.guard=none) (s x:Operand) (hop:o.op=Op.call { callee:=Callee.builtin Builtin.append,args:=#[s,x],argTypes:=#[43,43] })
  (base:Nat) (v:Value) (n:Nat) (l:List Tk) (hn:l.length=n) (hs:a.eval s=v) (hown:W.ownsRow base 50 3 v n (jbf l)) (hl:n≤1200000) (hbase:base≤W.heap.size)
  (ad:Nat) (z:Tk) (hx:a.eval x = .slice (some ⟨ad,0,none⟩) 1 1) (hc0:W.cell? ⟨ad,0,none⟩=some (.int .i64 z.k)) (hc1:W.cell? ⟨ad,1,none⟩=some (.string z.t)) (hc2:W.cell? ⟨ad,2,none⟩=some (.int .i64 z.a))
  (hK:∀ (g cap:Nat) (w9:World),w9.ownsRow base 50 3 (.slice (some ⟨g,0,none⟩) (n+1) cap) (n+1) (jbf (l++[z]))→W.grownBy w9 v.ownBlock→(v.ownBlock=some g∨g=W.heap.size)→wpList Tryz.prog ops Q rest (a.put o.dst (.slice (some ⟨g,0,none⟩) (n+1) cap)) w9) :
  wpList Tryz.prog ops Q (o::rest) a W:=by
 obtain⟨i0,hi,hz0,hz1,hz2⟩:=info_parts jkG
 refine wpList_append_lies W hg s x 43 hop base 50 i0 _ 3 32 Tryz.underlying43 hi hz0 hz1 hz2 rfl (by decide) v n (jbf l) hs hown ⟨ad,0,none⟩ 1 1 [.int .i64 z.k,.string z.t,.int .i64 z.a] hx rfl ?_ (by intro u hu;simp at hu;rcases hu with rfl|rfl|rfl<;>rfl) (by decide) (by unfold maxLen;omega) (by omega) hbase _ rfl ?_
 ·intro j u hu
  match j,hu with
  |0,hu=>simp at hu;subst hu;rw[jb5];exact hc0
  |1,hu=>simp at hu;subst hu;rw[jb5];exact hc1
  |2,hu=>simp at hu;subst hu;rw[jb5];exact hc2
 ·intro g cap w9 hown9 hgrow hgg hg9
  rw[show jbf l++[Value.int .i64 z.k,.string z.t,.int .i64 z.a]=jbf (l++[z]) by rw[jeX];rfl] at hown9
  exact hK g cap w9 hown9 hgrow hgg
theorem jbp {W W':World} {B:Nat} {T:TypeId} {v:Value} {n:Nat} {xs:List Value} (h:W.ownsRow B T 3 v n xs) (hb:Below W.heap.size W W'):W'.ownsRow B T 3 v n xs:=by
 obtain⟨h1,h2⟩:=h
 refine⟨h1,h2.imp_right fun⟨b,cap,cur,e,h3,hg,r⟩=>⟨b,cap,cur,e,h3,?_,r⟩⟩
 rw[hb.block b (Array.getElem?_eq_some_iff.1 hg).1];exact hg
theorem jcV {W:World} {B:Nat} {T:TypeId} {v:Value} {n:Nat} {xs:List Value} {b:Nat} (h:W.ownsRow B T 3 v n xs) (e:v.ownBlock=some b):B≤b∧b<W.heap.size:=by
 rcases h.2 with ⟨rfl,-⟩|⟨g,cap,cur,rfl,hb,hg,-⟩
 ·cases e
 ·cases e;exact⟨hb,(Array.getElem?_eq_some_iff.1 hg).1⟩
theorem jdx (s:ByteArray) (w:World) (ht:Lib.TabBelow Tryz.prog w.heap.size w "surveyor/lexer.classes" .u8 jaH) :
  Calls Tryz.prog 33 #[.string s] w fun e w'=>∃ v,e = .returned (.tuple #[v,.int .i64 ((scR s).2.1:Nat),.int .i64 ((scR s).2.2:Nat)])∧w'.ownsRow w.heap.size 50 3 v (scR s).1.length (jbf (scR s).1)∧Below w.heap.size w w':=by
 have CL:∀ W:World,Calls Tryz.prog 66 #[.string s] W fun e w'=>e = .returned (.bool (decide (65536<s.size)))∧w'=W:=fun W=>jgA s W
 unfold scR
 by_cases hlong:65536<s.size
 ·rw[if_pos hlong]
  rw[decide_eq_true hlong] at CL
  have KL:=jD CL;have HLO:=jD hlong
  clear CL ht hlong
  go_enter Tryz.func33,Tryz.ntmps33
  go_wp2_with (go_at_call 66;refine(KL.out _).mono ?_;rintro e w3 ⟨rfl,h⟩;subst h;refine Hid.out ?_)
  refine jD ?_
  go_wp2
  refine bodyPost_ret (by simp[results,Tryz.results33,go_sem];rfl) rfl ?_
  exact⟨_,rfl,World.ownsRow_nil ..,Below.refl _ _⟩
 rw[if_neg hlong]
 rw[decide_eq_false hlong] at CL
 have hs:s.size≤65536:=by omega
 have CS:∀ a:Nat,a≤s.size→∀ W:World,Below w.heap.size w W→Calls Tryz.prog 67 #[.string s,.int .i64 (a:Int)] W fun e w'=>e = .returned (.int .i64 ((a+skM false ((bytes s).drop a):Nat):Int))∧Below W.heap.size W w':=fun a ha W hW=>jj6 s a ha (by omega) W (Lib.tabBelow_of_tabIs (ht W hW))
 have CT:∀ a:Nat,a<s.size→∀ W:World,Below w.heap.size w W→Calls Tryz.prog 68 #[.string s,.int .i64 (a:Int)] W fun e w'=>e = .returned (.tuple #[(tokX s a).1,.int .i64 ((tokX s a).2:Nat)])∧Below W.heap.size W w':=fun a ha W hW=>jgB s a ha (by omega) W (Lib.tabBelow_of_tabIs (ht W hW))
 have CS0:=CS 0 (Nat.zero_le _)
 rw[List.drop_zero,Nat.zero_add] at CS0
 have hk0:skM false (bytes s)≤s.size:=by have:=jdw false (bytes s);rwa [jan] at this
 have hbase:=fun(R:List Tk×Nat×Nat) (h:scF s (s.size+1) (skM false (bytes s))=R)=>h
 generalize hR:scF s (s.size+1) (skM false (bytes s))=R at *
 generalize skM false (bytes s)=k0 at *
 obtain⟨G,hG⟩:∃ G,G=(if R.2.2=0 then R else ([],R.2)):=⟨_,rfl⟩
 rw[←hG]
 have KG:=jD hG;clear hG
 have HR:=jD hR;have KL:=jD CL;have KS:=jD CS;have KT:=jD CT;have KS0:=jD CS0;have HK0:=jD hk0;have HS:=jD hs
 have HNL:=jD hlong
 clear hR CL CS CT CS0 hk0 hs ht hlong hbase
 go_enter Tryz.func33,Tryz.ntmps33
 go_wp2_with (go_at_call 66;refine(KL.out _).mono ?_;rintro e w3 ⟨rfl,h⟩;subst h;refine Hid.out ?_)
 refine jD ?_
 go_wp2_with (go_at_call 67;refine(KS0.out _ (Below.refl _ _)).mono ?_;rintro e w1 ⟨rfl,hb1⟩;refine Hid.out ?_)
 refine jD ?_
 go_wp2_with fail
 have HB1:=jD hb1;clear hb1
 go_loopw [5,6] (fun v iv wr=>∃ (f j n:Nat) (acc:List Tk),acc.length=n∧n≤j∧j≤s.size∧iv = .int .i64 (j:Int)∧s.size<j+f∧R=(acc++(scF s f j).1,(scF s f j).2)∧wr.ownsRow w3.heap.size 50 3 v n (jbf acc)∧Below w3.heap.size w3 wr) (fun _ iv _=>s.size-(intOf iv).toNat)
 case atStart=>exact⟨s.size+1,k0,0,[],rfl,Nat.zero_le _,HK0.out,rfl,by omega,HR.out.symm,World.ownsRow_nil ..,HB1.out⟩
 case round=>
  obtain⟨f,j,n,acc,hn,hnj,hj,rfl,hf,hRR,ho,hB⟩:=hrel
  have hS:=HS.out
  obtain⟨f,rfl⟩:∃ g,f=g+1:=⟨f-1,by omega⟩
  by_cases hlt:j<s.size
  ·have hT:=KT.out j hlt wr hB
   have g0:(0:Int)≤(j:Int):=by omega
   have g1:(j:Int)<(s.size:Int):=by omega
   by_cases he:(tokX s j).2=0
   ·have hx:=jkE he
    obtain⟨ht1,ht2⟩:=jf8 he hlt
    obtain⟨hn1,hn2⟩:=jm2 he hlt
    have hstep:R=((acc++[tkT s j])++(scF s f (nx s j)).1,(scF s f (nx s j)).2):=by
     rw[hRR,jhy hlt he]
     simp
    have KN:=KS.out (j+(tkT s j).t.size) (by omega)
    have hnx:j+(tkT s j).t.size+skM false ((bytes s).drop (j+(tkT s j).t.size))=nx s j:=rfl
    rw[hnx] at KN
    rw[hx,he,show ((0:Nat):Int)=0 from rfl] at hT
    unfold jkD at hT
    generalize nx s j=m at *
    generalize tkT s j=t at *
    obtain⟨tk,tt,ta⟩:=t
    have hwl:(acc++[(⟨tk,tt,ta⟩:Tk)]).length=n+1:=by simp[hn]
    have KT1:=jD hT;have KN1:=jD KN;have HO:=jD ho;have HB:=jD hB;have HST:=jD hstep;have HN:=jD hn;have HWL:=jD hwl
    have w1:(j:Int)+(tt.size:Int)<9223372036854775808:=by have:j+tt.size≤s.size:=ht2;omega
    have HM:Hid (j<m∧m≤s.size∧n≤j∧s.size<j+(f+1)∧s.size≤65536):=jD ⟨hn1,hn2,hnj,hf,hS⟩
    clear hT KN ho hB hstep hn hRR hx he hwl hn1 hn2 hnj hf hS ht1 ht2 hnx hj hlt
    go_wp2_with (go_at_call 68;refine KT1.out.mono ?_;rintro e w4 ⟨rfl,hb4⟩;refine Hid.out ?_)
    refine jD ?_
    have A1:=(Below.refl w4.heap.size w4).alloc (jrr _) (jU tk tt ta)
    have A2:=A1.alloc (by simp) (jU tk tt ta)
    have O4:=jbp HO hb4
    have hv4:∀ b,Value.ownBlock _=some b→w3.heap.size≤b∧b<w4.heap.size:=fun b e=>jcV O4 e
    have HV4:=jD hv4
    have O5:=jbp O4 A2
    have B5:=Below.chain HB (Below.chain hb4 A2)
    have HO5:=jD O5;have HB5:=jD B5
    have hz5:=B5.size
    have HZ5:=jD hz5
    have hnle:n≤1200000:=by have:=HM.out;omega
    have HNL:=jD hnle
    clear A1 A2 O4 O5 B5 hb4 HO hz5 hnle hv4
    go_wp2_with (first|(at_builtin;refine jaZ rfl (.tmp 30) (.tmp 32) rfl w3.heap.size _ n acc HN (by simp[Act.eval,Act.put]) HO5 HNL HZ5 (w4.heap.size+1) ⟨tk,tt,ta⟩ (by simp[Act.eval,Act.put]) (by go_cell) (by go_cell) (by go_cell) ?_;intro g6 cap6 w6 ho6 hg6 hgg6;refine Hid.out ?_)|fail)
    have hc6:w6.cell? ⟨w4.heap.size,1,none⟩=some (.string tt):=by
     have e:=hg6.block w4.heap.size (by simp;omega) (fun e=>by have:=HV4.out _ e.symm;omega)
     rw[World.cell?_of_block e]
     go_cell
    have hb6:=HB5.out.grown hg6 HZ5 (fun b hb=>(HV4.out b hb).1)
    have KN2:=KN1.out w6 hb6
    have HO6:=jD ho6;have HB6:=jD hb6;have KN3:=jD KN2
    clear ho6 hg6 hgg6 hb6 KN2
    refine jD ?_
    go_wp2_with (go_at_call 67;refine KN3.out.mono ?_;rintro e w7 ⟨rfl,hb7⟩;refine Hid.out ?_)
    have hb7':=Below.chain HB6 hb7
    have ho7:=jbp HO6 hb7
    obtain⟨q1,q2,q3,q4,q5⟩:=HM.out
    have Q1:=jD q1;have Q2:=jD q2;have Q3:=jD q3;have Q4:=jD q4;have Q5:=jD q5
    clear q1 q2 q3 q4 q5
    refine jD ?_
    go_wp2
    go_roundw
    case rel=>exact⟨f,m,n+1,acc++[⟨tk,tt,ta⟩],HWL.out,by have:=Q1.out;have:=Q3.out;omega,Q2.out,rfl,by have:=Q4.out;have:=Q1.out;omega,HST.out,ho7,hb7'⟩
    case measure=>have:=Q1.out;have:=Q2.out;simp[intOf];omega
   ·have hx:=jj8 he
    have hE:=jf9 (f:=f) hlt he
    rw[hE] at hRR
    have hG2:G=([],j,(tokX s j).2):=by rw[KG.out,hRR];exact if_neg he
    have HG2:=jD hG2;clear hG2
    rw[hx] at hT
    generalize (tokX s j).2=ne at *
    have tne:((ne:Int)==0)=false:=by rw[beq_eq_false_iff_ne];omega
    have tne2:((ne:Int) != 0)=true:=by rw[bne_iff_ne];omega
    have KT1:=jD hT;have HBB:=jD hB;have HE:=jD he
    clear hT ho hB hn hx hnj hj hf hS hE hlt he HR KS0 hRR
    go_wp2_with (go_at_call 68;refine KT1.out.mono ?_;rintro e w4 ⟨rfl,hb4⟩;refine Hid.out ?_)
    have B5:=Below.chain HBB (hb4.alloc hb4.size (Obj.cells #[.int .i64 0,.string ⟨#[]⟩,.int .i64 0] 50))
    have HB5:=jD B5
    clear B5 hb4
    refine jD ?_
    go_wp2
    refine bodyPost_ret (by simp[results,Tryz.results33,go_sem];rfl) rfl ?_
    rw[HG2.out]
    exact⟨_,rfl,World.ownsRow_nil ..,HB5.out⟩
  ·obtain rfl:j=s.size:=by omega
   rw[jgC (jrr _)] at hRR
   have hG2:G=(acc++[(⟨3,⟨#[]⟩,(s.size:Int)⟩:Tk)],0,0):=by rw[KG.out,hRR];exact if_pos rfl
   have HG2:=jD hG2;clear hG2
   have hge:¬ ((s.size:Nat):Int)<(s.size:Int):=by omega
   have A1:=(Below.refl wr.heap.size wr).alloc (jrr _) (Obj.cells #[.int .i64 3,.string ⟨#[]⟩,.int .i64 (s.size:Int)] 50)
   have O5:=jbp ho A1
   have B5:=Below.chain hB A1
   have hv4:∀ b,Value.ownBlock _=some b→w3.heap.size≤b∧b<wr.heap.size:=fun b e=>jcV ho e
   have hnle:n≤1200000:=by omega
   have hz5:=B5.size
   have HO5:=jD O5;have HB5:=jD B5;have HV4:=jD hv4;have HNL:=jD hnle;have HZ5:=jD hz5;have HN:=jD hn
   have hfin:(acc++[(⟨3,⟨#[]⟩,(s.size:Int)⟩:Tk)]).length=n+1:=by simp[hn]
   have HF:=jD hfin
   clear A1 O5 B5 hv4 hnle hz5 ho hB hn hnj hj hf hS hfin hlt HR KS0 hRR
   go_wp2_with (first|(at_builtin;refine jaZ rfl (.tmp 39) (.tmp 43) rfl w3.heap.size _ n acc HN (by simp[Act.eval,Act.put]) HO5 HNL HZ5 wr.heap.size ⟨3,⟨#[]⟩,(s.size:Int)⟩ (by simp[Act.eval,Act.put]) (by go_cell) (by go_cell) (by go_cell) ?_;intro g6 cap6 w6 ho6 hg6 hgg6;refine Hid.out ?_)|fail)
   have hb6:=HB5.out.grown hg6 HZ5 (fun b hb=>(HV4.out b hb).1)
   have HO6:=jD ho6;have HB6:=jD hb6
   clear ho6 hg6 hgg6 hb6
   refine jD ?_
   go_wp2
   refine bodyPost_ret (by simp[results,Tryz.results33,go_sem];rfl) rfl ?_
   rw[HG2.out]
   refine⟨_,rfl,?_,HB6.out⟩
   show w6.ownsRow _ _ _ _ (acc++[(⟨3,⟨#[]⟩,(s.size:Int)⟩:Tk)]).length _
   rw[HF.out]
   exact HO6
def TRow (W:World) (ao:Option Addr) (c:Nat) (l:List Tk):Prop:=
 l.length≤c∧c≤maxLen∧(l=[]∨∃ b o,ao=some ⟨b,o,none⟩∧b<W.heap.size∧∀ j u,(jbf l)[j]? = some u→W.cell? ⟨b,o+j,none⟩=some u)
theorem jfp:∀ (l:List Tk) (j:Nat) (h:j<l.length),(jbf l)[j * 3]? = some (.int .i64 (l[j]'h).k)∧(jbf l)[j * 3+1]? = some (.string (l[j]'h).t)∧(jbf l)[j * 3+2]? = some (.int .i64 (l[j]'h).a)
 | [],j,h=>by simp at h
 |t::l,0,h=>⟨rfl,rfl,rfl⟩
 |t::l,j+1,h=>by
  obtain⟨h1,h2,h3⟩:=jfp l j (by simpa using h)
  have e:jbf (t::l) = .int .i64 t.k :: .string t.t :: .int .i64 t.a::jbf l:=rfl
  rw[e,show (j+1) * 3=j * 3+1+1+1 by omega,show j * 3+1+1+1+1=(j * 3+1)+1+1+1 by omega,show j * 3+1+1+1+2=(j * 3+2)+1+1+1 by omega]
  simp only[List.getElem?_cons_succ,List.getElem_cons_succ]
  exact⟨h1,h2,h3⟩
def tkD (l:List Tk) (j:Nat):Tk:=l.getD j ⟨0,⟨#[]⟩,0⟩
theorem ji6 {l:List Tk} {j:Nat} (h:j<l.length):tkD l j=l[j]'h:=by unfold tkD;rw[List.getD_eq_getElem?_getD,List.getElem?_eq_getElem h];rfl
theorem jcW {l:List Tk} {j:Nat} (h:j<l.length):l.drop j=tkD l j::l.drop (j+1):=by rw[ji6 h];exact List.drop_eq_getElem_cons h
theorem TRow.keep {W W':World} {ao:Option Addr} {c:Nat} {l:List Tk} (h:TRow W ao c l) (hb:Below W.heap.size W W'):TRow W' ao c l:=by
 obtain⟨h1,h2,h3⟩:=h
 refine⟨h1,h2,h3.imp_right ?_⟩
 rintro⟨b,o,e,hlt,hc⟩
 exact⟨b,o,e,Nat.lt_of_lt_of_le hlt hb.size,fun j u hu=>(hb.cell (p:=⟨b,o+j,none⟩) hlt).trans (hc j u hu)⟩
theorem TRow.of_owns {W:World} {B:Nat} {v:Value} {l:List Tk} (h:W.ownsRow B 50 3 v l.length (jbf l)):∃ ao c,v = .slice ao l.length c∧TRow W ao c l:=by
 rcases h.2 with ⟨e,h0⟩|⟨g,cap,cur,e,-,hg,h1,h2,h3,h4⟩
 ·exact⟨none,0,by rw[e,h0],by omega,by decide,.inl (List.length_eq_zero_iff.1 h0)⟩
 ·subst e
  refine⟨_,cap,rfl,h1,h2,.inr ⟨g,0,rfl,(Array.getElem?_eq_some_iff.1 hg).1,fun j u hu=>?_⟩⟩
  have hj:j<l.length * 3:=by rw[←jde];exact(List.getElem?_eq_some_iff.1 hu).1
  rw[Nat.zero_add,h.cellAt j hj]
  exact hu
theorem TRow.at {W:World} {ao:Option Addr} {c:Nat} {l:List Tk} (h:TRow W ao c l) (hl:l≠[]):∃ b o,ao=some ⟨b,o,none⟩∧∀ j,j<l.length→∀ W',Below W.heap.size W W'→W'.cell? ⟨b,o+j * 3,none⟩=some (.int .i64 (tkD l j).k)∧W'.cell? ⟨b,o+j * 3+1,none⟩=some (.string (tkD l j).t)∧W'.cell? ⟨b,o+j * 3+2,none⟩=some (.int .i64 (tkD l j).a):=by
 obtain⟨b,o,rfl,hlt,hcell⟩:=h.2.2.resolve_left hl
 refine⟨b,o,rfl,fun j hj W' hW=>?_⟩
 obtain⟨h1,h2,h3⟩:=jfp l j hj
 rw[ji6 hj]
 refine⟨?_,?_,?_⟩
 ·rw[hW.cell (p:=⟨b,o+j * 3,none⟩) hlt];exact hcell _ _ h1
 ·rw[hW.cell (p:=⟨b,o+j * 3+1,none⟩) hlt];exact hcell _ _ h2
 ·rw[hW.cell (p:=⟨b,o+j * 3+2,none⟩) hlt];exact hcell _ _ h3
structure Butt (R:Nat) (w w':World):Prop where
 os:w'.os=w.os
 tape:w'.tape=w.tape
 output:w'.output=w.output
 size:w.heap.size≤w'.heap.size
 block:∀ k,k<w.heap.size→k≠R→w'.heap[k]? = w.heap[k]?
 own:∀ j,j=0∨5≤j→w'.cell? ⟨R,j,none⟩=w.cell? ⟨R,j,none⟩
theorem Butt.refl (R:Nat) (w:World):Butt R w w:=⟨rfl,rfl,rfl,jrr _,fun _ _ _=>rfl,fun _ _=>rfl⟩
theorem Butt.trans {R:Nat} {a b c:World} (h:Butt R a b) (k:Butt R b c):Butt R a c:=
 ⟨k.os.trans h.os,k.tape.trans h.tape,k.output.trans h.output,Nat.le_trans h.size k.size,fun i hi hr=>(k.block i (Nat.lt_of_lt_of_le hi h.size) hr).trans (h.block i hi hr),fun j hj=>(k.own j hj).trans (h.own j hj)⟩
theorem Butt.of_below {R:Nat} {a b:World} (hR:R<a.heap.size) (h:Below a.heap.size a b):Butt R a b:=⟨h.os,h.tape,h.output,h.size,fun k hk _=>h.block k hk,fun j _=>h.cell (p:=⟨R,j,none⟩) hR⟩
structure RdAt (W:World) (R:Nat) (L:List Tk) (nx d at_ er:Int):Prop where
 row:∃ b o c,W.cell? ⟨R,0,none⟩=some (.slice (some ⟨b,o,none⟩) L.length c)∧TRow W (some ⟨b,o,none⟩) c L∧b≠R∧b<W.heap.size
 c1:W.cell? ⟨R,1,none⟩=some (.int .i64 nx)
 c2:W.cell? ⟨R,2,none⟩=some (.int .i64 d)
 c3:W.cell? ⟨R,3,none⟩=some (.int .i64 at_)
 c4:W.cell? ⟨R,4,none⟩=some (.int .i64 er)
 lt:R<W.heap.size
 free:∀ j,W.frozen? ⟨R,j,none⟩=false
 pos:L≠[]
theorem RdAt.keep {W W':World} {R:Nat} {L:List Tk} {nx d at_ er:Int} (h:RdAt W R L nx d at_ er) (hb:Below W.heap.size W W'):RdAt W' R L nx d at_ er:=by
 obtain⟨⟨b,o,c,r0,r1,r2,r3⟩,h1,h2,h3,h4,h5,h6,h7⟩:=h
 exact⟨⟨b,o,c,(hb.cell (p:=⟨R,0,none⟩) h5).trans r0,r1.keep hb,r2,Nat.lt_of_lt_of_le r3 hb.size⟩,(hb.cell (p:=⟨R,1,none⟩) h5).trans h1,(hb.cell (p:=⟨R,2,none⟩) h5).trans h2,(hb.cell (p:=⟨R,3,none⟩) h5).trans h3,(hb.cell (p:=⟨R,4,none⟩) h5).trans h4,Nat.lt_of_lt_of_le h5 hb.size,fun j=>(hb.frozen (p:=⟨R,j,none⟩) h5).trans (h6 j),h7⟩
theorem Butt.setCell {R:Nat} {a w:World} (h:Butt R a w) (i:Nat) (hi:i≠0∧i<5) (v:Value):Butt R a (w.setCell ⟨R,i,none⟩ v):=by
 refine⟨h.os,h.tape,h.output,by have:=h.size;simpa using this,fun k hk hr=>?_,fun j hj=>(World.cell?_setCell_other w ⟨R,i,none⟩ ⟨R,j,none⟩ v (fun e=>?_)).trans (h.own j hj)⟩
 ·rw[←h.block k hk hr]
  show (w.heap.modify R _)[k]? = _
  rw[Array.getElem?_modify,if_neg (fun e=>hr e.symm)]
 ·have:i=j:=by cases e;rfl
  omega
theorem RdAt.set1 {W:World} {R:Nat} {L:List Tk} {nx d at_ er:Int} (h:RdAt W R L nx d at_ er) (z:Int):RdAt (W.setCell ⟨R,1,none⟩ (.int .i64 z)) R L z d at_ er:=by
 obtain⟨⟨b,o,c,r0,r1,r2,r3⟩,h1,h2,h3,h4,h5,h6,h7⟩:=h
 have ho:∀ j,j≠1→(W.setCell ⟨R,1,none⟩ (.int .i64 z)).cell? ⟨R,j,none⟩=W.cell? ⟨R,j,none⟩:=fun j hj=>World.cell?_setCell_other W ⟨R,1,none⟩ ⟨R,j,none⟩ _ (by first|(simp;omega)|simp)
 refine⟨⟨b,o,c,(ho 0 (by decide)).trans r0,?_,r2,by simpa using r3⟩,jbJ h1 _,(ho 2 (by decide)).trans h2,(ho 3 (by decide)).trans h3,(ho 4 (by decide)).trans h4,by simpa using h5,fun j=>by rw[←h6 j];exact World.frozen?_setCell _ _ _ _,h7⟩
 obtain⟨t1,t2,t3⟩:=r1
 refine⟨t1,t2,t3.imp_right ?_⟩
 rintro⟨b',o',e',hlt,hc⟩
 cases e'
 exact⟨b,o,rfl,by simpa using hlt,fun j u hu=>(World.cell?_setCell_other W ⟨R,1,none⟩ ⟨b,o+j,none⟩ _ (by first|(simp;intro e;exact absurd e.symm (Ne.symm r2))|simp)).trans (hc j u hu)⟩
theorem Butt.cell {R:Nat} {a w:World} (h:Butt R a w) {p:Addr} (hp:p.block<a.heap.size) (hr:p.block≠R):w.cell? p=a.cell? p:=by
 simp only[World.cell?,h.block p.block hp hr]
theorem Butt.setNew {R:Nat} {a w:World} (hR:R<a.heap.size) (h:Butt R a w) (p:Addr) (hp:a.heap.size≤p.block) (v:Value):Butt R a (w.setCell p v):=by
 refine⟨h.os,h.tape,h.output,by have:=h.size;simpa using this,fun k hk hr=>?_,fun j hj=>(World.cell?_setCell_other w p ⟨R,j,none⟩ v (fun e=>?_)).trans (h.own j hj)⟩
 ·rw[←h.block k hk hr]
  show (w.heap.modify p.block _)[k]? = _
  rw[Array.getElem?_modify,if_neg (by omega)]
 ·subst e
  exact absurd hp (Nat.not_le.mpr hR)
theorem Butt.drew {R:Nat} {a w:World} (h:Butt R a w):Butt R a w.drew:=h.trans ⟨rfl,rfl,rfl,jrr _,fun _ _ _=>rfl,fun _ _=>rfl⟩
theorem RdAt.later {w W:World} {R:Nat} {L:List Tk} {nx d at_ er nx' d' at' er':Int} (h:RdAt w R L nx d at_ er) (hb:Butt R w W)
  (h1:W.cell? ⟨R,1,none⟩=some (.int .i64 nx')) (h2:W.cell? ⟨R,2,none⟩=some (.int .i64 d')) (h3:W.cell? ⟨R,3,none⟩=some (.int .i64 at')) (h4:W.cell? ⟨R,4,none⟩=some (.int .i64 er')) (hf:∀ j,W.frozen? ⟨R,j,none⟩=false):RdAt W R L nx' d' at' er':=by
 obtain⟨⟨b,o,c,r0,r1,r2,r3⟩,-,-,-,-,h5,-,h7⟩:=h
 refine⟨⟨b,o,c,(hb.own 0 (.inl rfl)).trans r0,?_,r2,Nat.lt_of_lt_of_le r3 hb.size⟩,h1,h2,h3,h4,Nat.lt_of_lt_of_le h5 hb.size,hf,h7⟩
 obtain⟨t1,t2,t3⟩:=r1
 refine⟨t1,t2,t3.imp_right ?_⟩
 rintro⟨b',o',e',hlt,hc⟩
 cases e'
 exact⟨b,o,rfl,Nat.lt_of_lt_of_le hlt hb.size,fun j u hu=>(hb.cell (p:=⟨b,o+j,none⟩) r3 r2).trans (hc j u hu)⟩
theorem RdAt.put {W:World} {R:Nat} {L:List Tk} {nx d at_ er:Int} (h:RdAt W R L nx d at_ er) (i:Nat) (hi:i≠0∧i<5) (z:Int) :
  RdAt (W.setCell ⟨R,i,none⟩ (.int .i64 z)) R L (if i=1 then z else nx) (if i=2 then z else d) (if i=3 then z else at_) (if i=4 then z else er):=by
 have ho:∀ j,j≠i→(W.setCell ⟨R,i,none⟩ (.int .i64 z)).cell? ⟨R,j,none⟩=W.cell? ⟨R,j,none⟩:=fun j hj=>World.cell?_setCell_other W ⟨R,i,none⟩ ⟨R,j,none⟩ _ (fun e=>hj (by cases e;rfl))
 have hc:∀ j u,W.cell? ⟨R,j,none⟩=some (.int .i64 u)→(W.setCell ⟨R,i,none⟩ (.int .i64 z)).cell? ⟨R,j,none⟩=some (.int .i64 (if i=j then z else u)):=by
  intro j u hu
  by_cases e:i=j
  ·subst e
   rw[if_pos rfl]
   exact jbJ hu _
  ·rw[if_neg e]
   exact(ho j (Ne.symm e)).trans hu
 exact h.later ((Butt.refl R W).setCell i hi _) (hc 1 nx h.c1) (hc 2 d h.c2) (hc 3 at_ h.c3) (hc 4 er h.c4) (fun j=>(World.frozen?_setCell _ _ _ _).trans (h.free j))
theorem Butt.frozen {R:Nat} {a w:World} (h:Butt R a w) {p:Addr} (hp:p.block<a.heap.size) (hr:p.block≠R):w.frozen? p=a.frozen? p:=by
 simp only[World.frozen?,h.block p.block hp hr]
theorem jge {a W:World} {R q:Nat} {L:List Tk} {nx d at_ er nx0 d0 at0 er0:Int} (h0:RdAt a R L nx0 d0 at0 er0) (hb:Butt R a W) (h:RdAt W R L nx d at_ er) (hq:a.heap.size≤q) (v0 v1 v2:Value) :
  RdAt (((W.setCell ⟨q,0,none⟩ v0).setCell ⟨q,1,none⟩ v1).setCell ⟨q,2,none⟩ v2) R L nx d at_ er∧Butt R a (((W.setCell ⟨q,0,none⟩ v0).setCell ⟨q,1,none⟩ v1).setCell ⟨q,2,none⟩ v2):=by
 have hR:=h0.lt
 have nb:∀ i j:Nat,(⟨q,i,none⟩:Addr)≠⟨R,j,none⟩:=fun i j e=>by
  have:q=R:=by cases e;rfl
  omega
 have hbf:=Butt.setNew hR (Butt.setNew hR (Butt.setNew hR hb ⟨q,0,none⟩ hq v0) ⟨q,1,none⟩ hq v1) ⟨q,2,none⟩ hq v2
 have fin:∀ j:Nat,(((W.setCell ⟨q,0,none⟩ v0).setCell ⟨q,1,none⟩ v1).setCell ⟨q,2,none⟩ v2).cell? ⟨R,j,none⟩=W.cell? ⟨R,j,none⟩:=fun j=>
  (World.cell?_setCell_other _ ⟨q,2,none⟩ ⟨R,j,none⟩ _ (nb _ _)).trans ((World.cell?_setCell_other _ ⟨q,1,none⟩ ⟨R,j,none⟩ _ (nb _ _)).trans (World.cell?_setCell_other _ ⟨q,0,none⟩ ⟨R,j,none⟩ _ (nb _ _)))
 exact⟨h0.later hbf ((fin 1).trans h.c1) ((fin 2).trans h.c2) ((fin 3).trans h.c3) ((fin 4).trans h.c4) (fun j=>(World.frozen?_setCell _ _ _ _).trans ((World.frozen?_setCell _ _ _ _).trans ((World.frozen?_setCell _ _ _ _).trans (h.free j)))),hbf⟩
theorem jbF (R:Nat) (L:List Tk) (nx:Nat) (d at_ er:Int) (w:World) (h:RdAt w R L nx d at_ er) (hn:nx<L.length) :
  Calls Tryz.prog 72 #[.pointer (some ⟨R,0,none⟩)] w fun e w'=>e = .returned (.agg #[.int .i64 (tkD L nx).k,.string (tkD L nx).t,.int .i64 (tkD L nx).a])∧Below w.heap.size w w':=by
 obtain⟨⟨b,o,c,r0,r1,r2,r3⟩,h1,h2,h3,h4,h5,h6,h7⟩:=h
 obtain⟨b',o',e',hat⟩:=r1.at h7
 cases e'
 have gl:(nx:Int)<(L.length:Int):=by omega
 have g0:(0:Int)≤(nx:Int):=by omega
 have hA:∀ v0 v1 v2:Value,Below w.heap.size w (w.alloc (Obj.cells #[v0,v1,v2] 50)):=fun v0 v1 v2=>(Below.refl _ _).alloc (jrr _) _
 obtain⟨d0,d1,d2⟩:=hat nx hn w (Below.refl _ _)
 generalize tkD L nx=T at *
 generalize L.length=n at *
 obtain⟨tk,tt,ta⟩:=T
 have hZ:=(Below.refl w.heap.size w).alloc (jrr _) (Obj.cells #[.int .i64 0,.string ⟨#[]⟩,.int .i64 0] 50)
 have e0:=(hZ.cell (p:=⟨R,0,none⟩) h5).trans r0
 have e1:=(hZ.cell (p:=⟨R,1,none⟩) h5).trans h1
 have f0:=(hZ.cell (p:=⟨b,o+nx * 3,none⟩) r3).trans d0
 have f1:=(hZ.cell (p:=⟨b,o+nx * 3+1,none⟩) r3).trans d1
 have f2:=(hZ.cell (p:=⟨b,o+nx * 3+2,none⟩) r3).trans d2
 have x0:(w.alloc (Obj.cells #[.int .i64 0,.string ⟨#[]⟩,.int .i64 0] 50)).cell? ⟨w.heap.size,0,none⟩=some (.int .i64 0):=World.cell?_alloc_new _ _ _ _
 have x1:(w.alloc (Obj.cells #[.int .i64 0,.string ⟨#[]⟩,.int .i64 0] 50)).cell? ⟨w.heap.size,1,none⟩=some (.string ⟨#[]⟩):=World.cell?_alloc_new _ _ _ _
 have x2:(w.alloc (Obj.cells #[.int .i64 0,.string ⟨#[]⟩,.int .i64 0] 50)).cell? ⟨w.heap.size,2,none⟩=some (.int .i64 0):=World.cell?_alloc_new _ _ _ _
 have HA:=jD hA;have HZ:=jD hZ
 clear hA hZ hat r0 r1 h1 h2 h3 h4 h6 h7 hn d0 d1 d2
 go_enter Tryz.func72,Tryz.ntmps72
 go_wp2_with fail
 go_region
 all_goals
  go_wp2
  refine bodyPost_ret (by simp[results,Tryz.results72,go_sem];rfl) rfl ?_
  exact⟨rfl,(HA.out _ _ _).drew⟩
theorem jeY (a b c:Value) (W:World):(Instr.field 50 (.agg #[a,b,c]) 0).run Tryz.prog W = .ok a W:=by
 unfold Instr.field
 simp[go_sem,run_underlying Tryz.underlying50,part,isAgg,asAgg,run_underlying Tryz.underlying3]
theorem jaG (a b c:Value) (W:World):(Instr.field 50 (.agg #[a,b,c]) 1).run Tryz.prog W = .ok b W:=by
 unfold Instr.field
 simp[go_sem,run_underlying Tryz.underlying50,part,isAgg,asAgg,run_underlying Tryz.underlying9]
theorem jdf (a b c:Value) (W:World):(Instr.field 50 (.agg #[a,b,c]) 2).run Tryz.prog W = .ok c W:=by
 unfold Instr.field
 simp[go_sem,run_underlying Tryz.underlying50,part,isAgg,asAgg,run_underlying Tryz.underlying3]
theorem jgf (R:Nat) (L:List Tk) (nx:Nat) (d at_ er:Int) (w:World) (h:RdAt w R L nx d at_ er) (hn:nx<L.length) :
  Calls Tryz.prog 36 #[.pointer (some ⟨R,0,none⟩)] w fun e w'=>e = .returned (.int .i64 (tkD L nx).a)∧Below w.heap.size w w':=by
 have CT:=jbF R L nx d at_ er w h hn
 clear h hn
 generalize tkD L nx=T at *
 obtain⟨tk,tt,ta⟩:=T
 dsimp only at CT
 dsimp only
 have KT:=jD CT
 clear CT
 have hf:=jdf
 go_enter Tryz.func36,Tryz.ntmps36
 go_wp2_with (go_at_call 72;refine KT.out.mono ?_;rintro e w3 ⟨rfl,hb3⟩;refine Hid.out ?_)
 have HB3:=jD hb3;clear hb3
 refine jD ?_
 go_wp2
 go_ret
 exact⟨rfl,HB3.out⟩
theorem jgK (R:Nat) (L:List Tk) (nx:Nat) (d at_ er:Int) (s:ByteArray) (w:World) (h:RdAt w R L nx d at_ er) (hn:nx<L.length) :
  Calls Tryz.prog 37 #[.pointer (some ⟨R,0,none⟩),.string s] w fun e w'=>e = .returned (.bool ((tkD L nx).t.toList==s.toList))∧Below w.heap.size w w':=by
 have CT:=jbF R L nx d at_ er w h hn
 clear h hn
 generalize tkD L nx=T at *
 obtain⟨tk,tt,ta⟩:=T
 dsimp only at CT
 dsimp only
 have KT:=jD CT
 clear CT
 have hf:=jaG
 go_enter Tryz.func37,Tryz.ntmps37
 go_wp2_with (go_at_call 72;refine KT.out.mono ?_;rintro e w3 ⟨rfl,hb3⟩;refine Hid.out ?_)
 have HB3:=jD hb3;clear hb3
 refine jD ?_
 go_wp2
 go_ret
 exact⟨rfl,HB3.out⟩
theorem je1 (R:Nat) (L:List Tk) (nx:Nat) (d at_ er:Int) (w:World) (h:RdAt w R L nx d at_ er) (hn:nx<L.length) (hL:L.length≤1000000) :
  Calls Tryz.prog 109 #[.pointer (some ⟨R,0,none⟩)] w fun e w'=>e = .returned (.agg #[.int .i64 (tkD L nx).k,.string (tkD L nx).t,.int .i64 (tkD L nx).a])∧RdAt w' R L (min (nx+1) (L.length-1):Nat) d at_ er∧Butt R w w':=by
 have hz:=(Below.refl w.heap.size w).alloc (jrr _) (Obj.cells #[.int .i64 0,.string ⟨#[]⟩,.int .i64 0] 50)
 have hR1:=h.keep hz
 have CT:=jbF R L nx d at_ er _ hR1 hn
 have hlt:=h.lt
 obtain⟨m,hm⟩:∃ m,L.length=m+1:=⟨L.length-1,by omega⟩
 have hnew:∃ n2:Nat,min (nx+1) (L.length-1)=n2∧n2≤m∧min ((nx:Int)+1) (m:Int)=(n2:Int):=⟨min (nx+1) m,by rw[hm];rfl,by omega,by omega⟩
 obtain⟨n2,hn2,hn2m,hmin⟩:=hnew
 rw[hn2]
 have v1:(0:Int)≤(nx:Int)+1∧(nx:Int)+1<9223372036854775808:=by omega
 have v2:(0:Int)≤(m:Int)∧(m:Int)<9223372036854775808:=by omega
 generalize tkD L nx=T at *
 obtain⟨tk,tt,ta⟩:=T
 dsimp only at CT ⊢
 have u1:=(show wrap64 ((nx:Int)+1)=(nx:Int)+1 by unfold wrap64;omega)
 have u2:=(show wrap64 ((m:Int)+1-1)=(m:Int) by unfold wrap64;omega)
 have u3:=(show wrap64 (m:Int)=(m:Int) by unfold wrap64;omega)
 have HB:=jD (Butt.of_below (R:=R) h.lt hz);have HR0:=jD h;have HR1:=jD hR1;have KT:=jD CT;have HM:=jD hm;have HLT:=jD hlt
 have p0:(w.alloc (Obj.cells #[.int .i64 0,.string ⟨#[]⟩,.int .i64 0] 50)).cell? ⟨w.heap.size,0,none⟩=some (.int .i64 0):=World.cell?_alloc_new _ _ _ _
 have p1:(w.alloc (Obj.cells #[.int .i64 0,.string ⟨#[]⟩,.int .i64 0] 50)).cell? ⟨w.heap.size,1,none⟩=some (.string ⟨#[]⟩):=World.cell?_alloc_new _ _ _ _
 have p2:(w.alloc (Obj.cells #[.int .i64 0,.string ⟨#[]⟩,.int .i64 0] 50)).cell? ⟨w.heap.size,2,none⟩=some (.int .i64 0):=World.cell?_alloc_new _ _ _ _
 have pf:∀ j,(w.alloc (Obj.cells #[.int .i64 0,.string ⟨#[]⟩,.int .i64 0] 50)).frozen? ⟨w.heap.size,j,none⟩=false:=fun j=>World.frozen?_alloc_new _ _ _ _
 have ps:w.heap.size<(w.alloc (Obj.cells #[.int .i64 0,.string ⟨#[]⟩,.int .i64 0] 50)).heap.size:=by simp
 have HP:=jD (And.intro p0 (And.intro p1 (And.intro p2 (And.intro pf ps))))
 clear h hn hL CT hR1 hn2 hn2m hz v1 v2 p0 p1 p2 pf ps
 go_enter Tryz.func109,Tryz.ntmps109
 go_wp2_with (go_at_call 72;refine KT.out.mono ?_;rintro e w3 ⟨rfl,hb3⟩;refine Hid.out ?_)
 obtain⟨p0,p1,p2,pf,ps⟩:=HP.out
 have hA:Below w3.heap.size w3 (w3.alloc (jU tk tt ta)):=(Below.refl _ _).alloc (jrr _) _
 have hbA:=Below.chain hb3 hA
 have hR4:=HR1.out.keep hbA
 obtain⟨⟨b,o,c,r0,-,r2,-⟩,h1,h2,h3,h4,h5,h6,-⟩:=hR4
 have hB4:=HB.out.trans (Butt.of_below (R:=R) HR1.out.lt hbA)
 have y0:=(hbA.cell (p:=⟨w.heap.size,0,none⟩) ps).trans p0
 have y1:=(hbA.cell (p:=⟨w.heap.size,1,none⟩) ps).trans p1
 have y2:=(hbA.cell (p:=⟨w.heap.size,2,none⟩) ps).trans p2
 have yf:=fun j=>(hbA.frozen (p:=⟨w.heap.size,j,none⟩) ps).trans (pf j)
 have z0:(w3.alloc (jU tk tt ta)).cell? ⟨w3.heap.size,0,none⟩=some (.int .i64 tk):=World.cell?_alloc_new _ _ _ _
 have z1:(w3.alloc (jU tk tt ta)).cell? ⟨w3.heap.size,1,none⟩=some (.string tt):=World.cell?_alloc_new _ _ _ _
 have z2:(w3.alloc (jU tk tt ta)).cell? ⟨w3.heap.size,2,none⟩=some (.int .i64 ta):=World.cell?_alloc_new _ _ _ _
 have hq:w3.heap.size≠R:=by have:=hb3.size;have:=HLT.out;omega
 have hp:w.heap.size≠R:=by have:=HLT.out;omega
 rw[HM.out] at r0
 have f1:=h6 1
 have HB4:=jD hB4;have H6:=jD h6
 clear hbA hA hb3 p0 p1 p2 pf ps hB4 h6
 refine jD ?_
 go_wp2_with fail
 generalize w3.alloc (jU tk tt ta)=W4 at *
 generalize w3.heap.size=q at *
 go_region
 all_goals
  have nb:∀ i j:Nat,(⟨R,i,none⟩:Addr)≠⟨w.heap.size,j,none⟩:=fun i j e=>hp (by cases e;rfl)
  have nq:∀ i j:Nat,(⟨R,i,none⟩:Addr)≠⟨q,j,none⟩:=fun i j e=>hq (by cases e;rfl)
  have o1:∀ j:Nat,j≠1→(W4.setCell ⟨R,1,none⟩ (.int .i64 (n2:Int))).drew.cell? ⟨R,j,none⟩=W4.cell? ⟨R,j,none⟩:=fun j hj=>World.cell?_setCell_other W4 ⟨R,1,none⟩ ⟨R,j,none⟩ _ (fun e=>hj (by cases e;rfl))
  have x0:(W4.setCell ⟨R,1,none⟩ (.int .i64 (n2:Int))).drew.cell? ⟨q,0,none⟩=_:=(World.cell?_setCell_other W4 ⟨R,1,none⟩ ⟨q,0,none⟩ _ (nq _ _)).trans z0
  have x1:(W4.setCell ⟨R,1,none⟩ (.int .i64 (n2:Int))).drew.cell? ⟨q,1,none⟩=_:=(World.cell?_setCell_other W4 ⟨R,1,none⟩ ⟨q,1,none⟩ _ (nq _ _)).trans z1
  have x2:(W4.setCell ⟨R,1,none⟩ (.int .i64 (n2:Int))).drew.cell? ⟨q,2,none⟩=_:=(World.cell?_setCell_other W4 ⟨R,1,none⟩ ⟨q,2,none⟩ _ (nq _ _)).trans z2
  have t0:(W4.setCell ⟨R,1,none⟩ (.int .i64 (n2:Int))).drew.cell? ⟨w.heap.size,0,none⟩=_:=(World.cell?_setCell_other W4 ⟨R,1,none⟩ ⟨w.heap.size,0,none⟩ _ (nb _ _)).trans y0
  have t1:(W4.setCell ⟨R,1,none⟩ (.int .i64 (n2:Int))).drew.cell? ⟨w.heap.size,1,none⟩=_:=(World.cell?_setCell_other W4 ⟨R,1,none⟩ ⟨w.heap.size,1,none⟩ _ (nb _ _)).trans y1
  have t2:(W4.setCell ⟨R,1,none⟩ (.int .i64 (n2:Int))).drew.cell? ⟨w.heap.size,2,none⟩=_:=(World.cell?_setCell_other W4 ⟨R,1,none⟩ ⟨w.heap.size,2,none⟩ _ (nb _ _)).trans y2
  have tf:∀ j:Nat,(W4.setCell ⟨R,1,none⟩ (.int .i64 (n2:Int))).drew.frozen? ⟨w.heap.size,j,none⟩=false:=fun j=>(World.frozen?_setCell W4 ⟨R,1,none⟩ _ _).trans (yf j)
  have s1:(W4.setCell ⟨R,1,none⟩ (.int .i64 (n2:Int))).drew.cell? ⟨R,1,none⟩=some (.int .i64 (n2:Int)):=jbJ h1 _
  have s2:=(o1 2 (by decide)).trans h2
  have s3:=(o1 3 (by decide)).trans h3
  have s4:=(o1 4 (by decide)).trans h4
  have HB5:=jD (((HB4.out).setCell 1 (by decide) (.int .i64 (n2:Int))).drew)
  have H7:Hid (∀ j:Nat,(W4.setCell ⟨R,1,none⟩ (.int .i64 (n2:Int))).drew.frozen? ⟨R,j,none⟩=false):=jD (fun j=>(World.frozen?_setCell W4 ⟨R,1,none⟩ _ _).trans (H6.out j))
  obtain⟨q0,q1,q2⟩:=box3 t0 t1 t2 (.int .i64 tk) (.string tt) (.int .i64 ta)
  have tf0:=tf 0
  have tf1:=tf 1
  have tf2:=tf 2
  clear o1 z0 z1 z2 y0 y1 y2 yf f1 h1 h2 h3 h4 r0 H6 tf HB4
  generalize (W4.setCell ⟨R,1,none⟩ (.int .i64 (n2:Int))).drew=W5 at *
  go_wp2
  refine bodyPost_ret (by simp[results,Tryz.results109,go_sem,q0,q1,q2];rfl) rfl ?_
  have fin:∀ j:Nat,(((W5.setCell ⟨w.heap.size,0,none⟩ (.int .i64 tk)).setCell ⟨w.heap.size,1,none⟩ (.string tt)).setCell ⟨w.heap.size,2,none⟩ (.int .i64 ta)).cell? ⟨R,j,none⟩=W5.cell? ⟨R,j,none⟩:=fun j=>
   (World.cell?_setCell_other _ ⟨w.heap.size,2,none⟩ ⟨R,j,none⟩ _ (nb _ _).symm).trans ((World.cell?_setCell_other _ ⟨w.heap.size,1,none⟩ ⟨R,j,none⟩ _ (nb _ _).symm).trans (World.cell?_setCell_other _ ⟨w.heap.size,0,none⟩ ⟨R,j,none⟩ _ (nb _ _).symm))
  have hbf:=Butt.setNew HLT (Butt.setNew HLT (Butt.setNew HLT HB5 ⟨w.heap.size,0,none⟩ (jrr _) (.int .i64 tk)) ⟨w.heap.size,1,none⟩ (jrr _) (.string tt)) ⟨w.heap.size,2,none⟩ (jrr _) (.int .i64 ta)
  exact⟨rfl,HR0.out.later hbf ((fin 1).trans s1) ((fin 2).trans s2) ((fin 3).trans s3) ((fin 4).trans s4) (fun j=>(World.frozen?_setCell _ _ _ _).trans ((World.frozen?_setCell _ _ _ _).trans ((World.frozen?_setCell _ _ _ _).trans (H7.out j)))),hbf⟩
def jaU:List ByteArray:=[(⟨#[97,110,100]⟩:ByteArray),(⟨#[97,114,114,97,121]⟩:ByteArray),(⟨#[97,115,115,101,114,116]⟩:ByteArray),(⟨#[97,115,115,117,109,101]⟩:ByteArray),(⟨#[101,108,115,101]⟩:ByteArray),(⟨#[101,110,115,117,114,101,115]⟩:ByteArray),(⟨#[102,97,108,115,101]⟩:ByteArray),(⟨#[105,102]⟩:ByteArray),(⟨#[105,109,112,111,114,116]⟩:ByteArray),(⟨#[105,110,112,117,116]⟩:ByteArray),(⟨#[110,111,116]⟩:ByteArray),(⟨#[111,114]⟩:ByteArray),(⟨#[112,114,111,99]⟩:ByteArray),(⟨#[114,101,99,111,114,100]⟩:ByteArray),(⟨#[114,101,113,117,105,114,101,115]⟩:ByteArray),(⟨#[114,101,116,117,114,110,115]⟩:ByteArray),(⟨#[116,114,117,101]⟩:ByteArray),(⟨#[118,97,114]⟩:ByteArray),(⟨#[119,104,105,108,101]⟩:ByteArray)]
theorem ji5 (w:World) :
  Calls Tryz.prog 150 #[] w fun e w'=>e = .returned (.slice (some ⟨w.heap.size,0,none⟩) 19 19)∧w'=w.alloc (Obj.cells (jaU.map Value.string).toArray 9):=by
 go_enter Tryz.func150,Tryz.ntmps150
 go_wp2
 go_ret
 exact⟨rfl,rfl⟩
def nmE (s:ByteArray):Nat:=if iwB (bytes s)=true∧Lib.containsS jaU s=false then 0 else 8
theorem jj9 (s:ByteArray) (hs:s.size≤9223372036854775807) (w:World) (ht:Lib.TabIs Tryz.prog w "surveyor/lexer.classes" .u8 jaH) :
  Calls Tryz.prog 138 #[.string s] w fun e w'=>e = .returned (.int .i64 (nmE s:Nat))∧Below w.heap.size w w':=by
 have CI:=jhS s hs w ht
 have CW:=ji5 w
 have CC:Calls Tryz.prog 147 #[.slice (some ⟨w.heap.size,0,none⟩) 19 19,.string s] (w.alloc (Obj.cells (jaU.map Value.string).toArray 9)) fun e w'=>e = .returned (.bool (Lib.containsS jaU s))∧w'=w.alloc (Obj.cells (jaU.map Value.string).toArray 9):=by
  have:=Tryz.slices_Contains_string w.heap.size 0 19 19 jaU s (w.alloc (Obj.cells (jaU.map Value.string).toArray 9)) (by decide) (by decide) (fun j hj=>by
   rw[Nat.zero_add,World.cell?_alloc_new]
   simp only[List.getElem?_toArray,List.getElem?_map,List.getD_eq_getElem?_getD,List.getElem?_eq_getElem hj]
   rfl)
  rwa [show jaU.take 19=jaU from rfl] at this
 have hB:Below w.heap.size w (w.alloc (Obj.cells (jaU.map Value.string).toArray 9)):=(Below.refl _ _).alloc (jrr _) _
 unfold nmE
 generalize (Obj.cells (jaU.map Value.string).toArray 9)=O at *
 generalize Lib.containsS jaU s=v at *
 cases hi:iwB (bytes s)
 ·rw[if_neg (by rintro⟨h,-⟩;cases h)]
  rw[hi] at CI
  have KI:=jD CI
  clear CI CW CC ht hB hi
  go_enter Tryz.func138,Tryz.ntmps138
  go_wp2_with (go_at_call 149;refine KI.out.mono ?_;rintro e w3 ⟨rfl,h⟩;subst h;refine Hid.out ?_)
  refine jD ?_
  go_wp2
  go_ret
  exact⟨rfl,Below.refl _ _⟩
 ·rw[hi] at CI
  have KI:=jD CI;have KW:=jD CW;have KC:=jD CC;have HB:=jD hB
  clear CI CW CC ht hB hi
  cases v
  ·rw[if_pos ⟨rfl,rfl⟩]
   go_enter Tryz.func138,Tryz.ntmps138
   go_wp2_with (go_at_call 149;refine KI.out.mono ?_;rintro e w3 ⟨rfl,h⟩;subst h;refine Hid.out ?_)
   refine jD ?_
   go_wp2_with (go_at_call 150;refine KW.out.mono ?_;rintro e w4 ⟨rfl,h⟩;subst h;refine Hid.out ?_)
   refine jD ?_
   go_wp2_with (go_at_call 147;refine KC.out.mono ?_;rintro e w4 ⟨rfl,h⟩;subst h;refine Hid.out ?_)
   refine jD ?_
   go_wp2
   go_ret
   exact⟨rfl,HB.out⟩
  ·rw[if_neg (by rintro⟨-,h⟩;cases h)]
   go_enter Tryz.func138,Tryz.ntmps138
   go_wp2_with (go_at_call 149;refine KI.out.mono ?_;rintro e w3 ⟨rfl,h⟩;subst h;refine Hid.out ?_)
   refine jD ?_
   go_wp2_with (go_at_call 150;refine KW.out.mono ?_;rintro e w4 ⟨rfl,h⟩;subst h;refine Hid.out ?_)
   refine jD ?_
   go_wp2_with (go_at_call 147;refine KC.out.mono ?_;rintro e w4 ⟨rfl,h⟩;subst h;refine Hid.out ?_)
   refine jD ?_
   go_wp2
   go_ret
   exact⟨rfl,HB.out⟩
end Go.Proofs.YtenmmmdnpglkoaaGreatDoor
