import Derived.Deep.RegionWith
import Derived.Test.YtenmmmdnpglkoaaGreatDoorCut7
set_option linter.unusedSimpArgs false
set_option linter.unusedVariables false
set_option maxRecDepth 100000
set_option maxHeartbeats 8000000
/-
 parser: place.
-/
namespace Go.Proofs.YtenmmmdnpglkoaaGreatDoor
open Go Go.Proofs Go.RowKit
structure Box5 (W:World) (p:Nat):Prop where
 c0:W.cell? ⟨p,0,none⟩=some (.int .i64 0)
 c1:W.cell? ⟨p,1,none⟩=some (.int .i64 0)
 c2:W.cell? ⟨p,2,none⟩=some (.string ⟨#[]⟩)
 c3:W.cell? ⟨p,3,none⟩=some (.int .i64 0)
 c4:W.cell? ⟨p,4,none⟩=some (.slice none 0 0)
 free:∀ j,W.frozen? ⟨p,j,none⟩=false
 lt:p<W.heap.size
theorem Box5.new (w:World):Box5 (w.alloc jZ) w.heap.size:=
 ⟨World.cell?_alloc_new _ _ _ _,World.cell?_alloc_new _ _ _ _,World.cell?_alloc_new _ _ _ _,World.cell?_alloc_new _ _ _ _,World.cell?_alloc_new _ _ _ _,fun _=>World.frozen?_alloc_new _ _ _ _,by simp⟩
theorem Box5.butt {R p:Nat} {W W':World} (h:Box5 W p) (hp:p≠R) (hb:Butt R W W'):Box5 W' p:=by
 obtain⟨c0,c1,c2,c3,c4,hf,hl⟩:=h
 exact⟨(hb.cell (p:=⟨p,0,none⟩) hl hp).trans c0,(hb.cell (p:=⟨p,1,none⟩) hl hp).trans c1,(hb.cell (p:=⟨p,2,none⟩) hl hp).trans c2,(hb.cell (p:=⟨p,3,none⟩) hl hp).trans c3,(hb.cell (p:=⟨p,4,none⟩) hl hp).trans c4,fun j=>(hb.frozen (p:=⟨p,j,none⟩) hl hp).trans (hf j),Nat.lt_of_lt_of_le hl hb.size⟩
abbrev jma (R:Nat) (L:List Tk) (w:World) (s:ByteArray) (nx:Nat) (d at_ er:Int) (kids:List Syn) (nx2:Nat) (at2 er2:Int):Prop:=
 ∀ W:World,Butt R w W→RdAt W R L nx d at_ er→Calls Tryz.prog 139 #[.pointer (some ⟨R,0,none⟩),.string s] W fun e w'=>(∃ kv,e = .returned kv∧kidsAt W.heap.size w' kids kv)∧RdAt w' R L nx2 d at2 er2∧Butt R W w'
theorem jfx (R:Nat) (L:List Tk) (nx nx2:Nat) (d at_ er at2 er2:Int) (kids:List Syn) (w:World) (h:RdAt w R L nx d at_ er) (hn:nx<L.length) (hL:L.length≤1000000) (hs:(tkD L nx).t.size≤9223372036854775807) (ht:ClsAt R w)
  (CB:jma R L w ⟨#[46]⟩ (nxM L nx (isN (tkD L nx))) d (atM L nx at_ er (isN (tkD L nx))) (erM er (isN (tkD L nx))) kids nx2 at2 er2) :
  Calls Tryz.prog 131 #[.pointer (some ⟨R,0,none⟩)] w fun e w'=>
   (∃ v,e = .returned v∧synAt w.heap.size w' (.mk 18 (tkM L nx (isN (tkD L nx))).a (tkM L nx (isN (tkD L nx))).t 0 kids) v)∧RdAt w' R L nx2 d at2 er2∧Butt R w w':=by
 have hz:=(Below.refl w.heap.size w).alloc (jrr _) jZ
 have hR1:=h.keep hz
 have CM:=jd9 R L nx d at_ er _ hR1 hn hL hs (ht.keep (Below.down hz (Nat.le_of_lt h.lt)))
 generalize isN (tkD L nx)=can at *
 generalize tkM L nx can=T at *
 generalize nxM L nx can=NX at *
 generalize atM L nx at_ er can=AT at *
 generalize erM er can=ER at *
 obtain⟨tk,tt,ta⟩:=T
 unfold tkA at *
 dsimp only at *
 have CN:=fun ao l c W=>jau 18 ta tt ao l c W
 have HB:=jD (Butt.of_below (R:=R) h.lt hz);have KM:=jD CM;have KN:=jD CN;have HLT:=jD h.lt;have H0:=jD h;have KB:=jD CB
 have p0:(w.alloc jZ).cell? ⟨w.heap.size,0,none⟩=some (.int .i64 0):=World.cell?_alloc_new _ _ _ _
 have p1:(w.alloc jZ).cell? ⟨w.heap.size,1,none⟩=some (.int .i64 0):=World.cell?_alloc_new _ _ _ _
 have p2:(w.alloc jZ).cell? ⟨w.heap.size,2,none⟩=some (.string ⟨#[]⟩):=World.cell?_alloc_new _ _ _ _
 have p3:(w.alloc jZ).cell? ⟨w.heap.size,3,none⟩=some (.int .i64 0):=World.cell?_alloc_new _ _ _ _
 have p4:(w.alloc jZ).cell? ⟨w.heap.size,4,none⟩=some (.slice none 0 0):=World.cell?_alloc_new _ _ _ _
 have ps:w.heap.size<(w.alloc jZ).heap.size:=by simp
 have pf:∀ j,(w.alloc jZ).frozen? ⟨w.heap.size,j,none⟩=false:=fun j=>World.frozen?_alloc_new _ _ _ _
 have HP:=jD (And.intro p0 (And.intro p1 (And.intro p2 (And.intro p3 (And.intro p4 (And.intro pf ps))))))
 clear h hn hL hs ht CM CN CB hR1 hz p0 p1 p2 p3 p4 ps pf
 go_enter Tryz.func131,Tryz.ntmps131
 go_wp2_with (go_at_call 73;refine(KM.out).mono ?_;rintro e w3 ⟨rfl,hr3,hb3⟩;refine Hid.out ?_)
 have hA:Below w3.heap.size w3 (w3.alloc (jU tk tt ta)):=(Below.refl _ _).alloc (jrr _) _
 have z0:(w3.alloc (jU tk tt ta)).cell? ⟨w3.heap.size,0,none⟩=some (.int .i64 tk):=World.cell?_alloc_new _ _ _ _
 have z1:(w3.alloc (jU tk tt ta)).cell? ⟨w3.heap.size,1,none⟩=some (.string tt):=World.cell?_alloc_new _ _ _ _
 have z2:(w3.alloc (jU tk tt ta)).cell? ⟨w3.heap.size,2,none⟩=some (.int .i64 ta):=World.cell?_alloc_new _ _ _ _
 have hr4:=hr3.keep hA
 have hb4:=HB.out.trans (hb3.trans (Butt.of_below hr3.lt hA))
 have HR4:=jD hr4
 have HB4:=jD hb4
 have HQ:=jD hr3.lt
 have hpR:w.heap.size≠R:=fun e=>absurd HLT (by rw[e];exact Nat.lt_irrefl _)
 have HX4:=jD (((Box5.new w).butt hpR hb3).butt hpR (Butt.of_below hr3.lt hA))
 have HPR:=jD hpR
 clear hA hr3 hb3 hr4 hb4 hpR
 refine jD ?_
 go_wp2_with fail
 have zs:w3.heap.size<(w3.alloc (jU tk tt ta)).heap.size:=by simp
 have hqR:w3.heap.size≠R:=fun e=>by
  have:=HQ.out
  omega
 have HZ:=jD (And.intro zs hqR)
 clear zs hqR
 generalize w3.alloc (jU tk tt ta)=W4 at *
 generalize w3.heap.size=q at *
 have HR4d:=jD (HR4.out.keep (Below.refl _ _).drew)
 have HB4d:=jD (HB4.out.drew)
 have HX4d:=jD (HX4.out.butt HPR (Butt.refl R W4).drew)
 go_region_with (first|(go_at_call 139;refine(KB.out _ (by first|exact HB4.out|exact HB4d) (by first|exact HR4.out|exact HR4d)).mono ?_;rintro e w5 ⟨⟨kv,rfl,hk⟩,hr5,hb5⟩;obtain⟨ao,n,c,rfl⟩:=hk.slice;have x1:=(hb5.cell (p:=⟨q,1,none⟩) (by simpa using HZ.out.1) HZ.out.2).trans z1;have x2:=(hb5.cell (p:=⟨q,2,none⟩) (by simpa using HZ.out.1) HZ.out.2).trans z2;have HX5:=jD (Box5.butt (by first|exact HX4.out|exact HX4d) HPR hb5);have HK5:=jD hk;have HR5:=jD hr5;have HB5:=jD hb5;clear hk hr5 hb5)|(go_at_call 40;refine(KN.out _ _ _ _).mono ?_;rintro e w6 ⟨rfl,hb6⟩;obtain⟨y0,y1,y2,y3,y4,yf,yl⟩:=HX5.out.butt HPR (Butt.of_below HR5.out.lt hb6);have f0:=yf 0;have f1:=yf 1;have f2:=yf 2;have f3:=yf 3;have f4:=yf 4;have HB6:=jD hb6;clear hb6 yf yl))
 all_goals
  have hb6:=((by first|exact HB4.out.trans HB5.out|exact HB4d.out.trans HB5):Butt R w w5).trans (Butt.of_below HR5.out.lt HB6)
  have hk:kidsAt W4.heap.size w5 kids (.slice ao n c):=HK5.out
  have hlw:w.heap.size<W4.heap.size:=HX4.out.lt
  have RB:=jD (jfv H0 hb6 (HR5.out.keep HB6) (jrr _) (.int .i64 18) (.int .i64 ta) (.string tt) (.int .i64 0) (.slice ao n c))
  have KK:=jD (hk.keep (((((((From.of_below HB6).setCell ⟨w.heap.size,0,none⟩ hlw (.int .i64 18)).setCell ⟨w.heap.size,1,none⟩ hlw (.int .i64 ta)).setCell ⟨w.heap.size,2,none⟩ hlw (.string tt)).setCell ⟨w.heap.size,3,none⟩ hlw (.int .i64 0)).setCell ⟨w.heap.size,4,none⟩ hlw (.slice ao n c))) (Nat.le_of_lt hlw))
  obtain⟨q0,q1,q2,q3,q4⟩:=box5 y0 y1 y2 y3 y4 (.int .i64 18) (.int .i64 ta) (.string tt) (.int .i64 0) (.slice ao n c) _ rfl
  clear hb6 hk hlw y0 y1 y2 y3 y4 f0 f1 f2 f3 f4
  go_wp2
  refine bodyPost_ret (by simp[results,Tryz.results131,go_sem,q0,q1,q2,q3,q4];rfl) rfl ?_
  exact⟨⟨_,rfl,jcd.mpr ⟨_,rfl,KK.out⟩⟩,RB.out.1,RB.out.2⟩
theorem jdh (R:Nat) (L:List Tk) (nx nx2:Nat) (d at_ er at2 er2:Int) (kids:List Syn) (w:World) (h:RdAt w R L nx d at_ er) (hn:nx<L.length) (hL:L.length≤1000000) (hs:(tkD L nx).t.size≤9223372036854775807) (ht:ClsAt R w)
  (CB:jma R L w ⟨#[58]⟩ (nxM L nx (isN (tkD L nx))) d (atM L nx at_ er (isN (tkD L nx))) (erM er (isN (tkD L nx))) kids nx2 at2 er2) :
  Calls Tryz.prog 112 #[.pointer (some ⟨R,0,none⟩)] w fun e w'=>
   (∃ v,e = .returned v∧synAt w.heap.size w' (.mk 4 (tkM L nx (isN (tkD L nx))).a (tkM L nx (isN (tkD L nx))).t 0 kids) v)∧RdAt w' R L nx2 d at2 er2∧Butt R w w':=by
 have hz:=(Below.refl w.heap.size w).alloc (jrr _) jZ
 have hR1:=h.keep hz
 have CM:=jd9 R L nx d at_ er _ hR1 hn hL hs (ht.keep (Below.down hz (Nat.le_of_lt h.lt)))
 generalize isN (tkD L nx)=can at *
 generalize tkM L nx can=T at *
 generalize nxM L nx can=NX at *
 generalize atM L nx at_ er can=AT at *
 generalize erM er can=ER at *
 obtain⟨tk,tt,ta⟩:=T
 unfold tkA at *
 dsimp only at *
 have CN:=fun ao l c W=>jau 4 ta tt ao l c W
 have HB:=jD (Butt.of_below (R:=R) h.lt hz);have KM:=jD CM;have KN:=jD CN;have HLT:=jD h.lt;have H0:=jD h;have KB:=jD CB
 have p0:(w.alloc jZ).cell? ⟨w.heap.size,0,none⟩=some (.int .i64 0):=World.cell?_alloc_new _ _ _ _
 have p1:(w.alloc jZ).cell? ⟨w.heap.size,1,none⟩=some (.int .i64 0):=World.cell?_alloc_new _ _ _ _
 have p2:(w.alloc jZ).cell? ⟨w.heap.size,2,none⟩=some (.string ⟨#[]⟩):=World.cell?_alloc_new _ _ _ _
 have p3:(w.alloc jZ).cell? ⟨w.heap.size,3,none⟩=some (.int .i64 0):=World.cell?_alloc_new _ _ _ _
 have p4:(w.alloc jZ).cell? ⟨w.heap.size,4,none⟩=some (.slice none 0 0):=World.cell?_alloc_new _ _ _ _
 have ps:w.heap.size<(w.alloc jZ).heap.size:=by simp
 have pf:∀ j,(w.alloc jZ).frozen? ⟨w.heap.size,j,none⟩=false:=fun j=>World.frozen?_alloc_new _ _ _ _
 have HP:=jD (And.intro p0 (And.intro p1 (And.intro p2 (And.intro p3 (And.intro p4 (And.intro pf ps))))))
 clear h hn hL hs ht CM CN CB hR1 hz p0 p1 p2 p3 p4 ps pf
 go_enter Tryz.func112,Tryz.ntmps112
 go_wp2_with (go_at_call 73;refine(KM.out).mono ?_;rintro e w3 ⟨rfl,hr3,hb3⟩;refine Hid.out ?_)
 have hA:Below w3.heap.size w3 (w3.alloc (jU tk tt ta)):=(Below.refl _ _).alloc (jrr _) _
 have z0:(w3.alloc (jU tk tt ta)).cell? ⟨w3.heap.size,0,none⟩=some (.int .i64 tk):=World.cell?_alloc_new _ _ _ _
 have z1:(w3.alloc (jU tk tt ta)).cell? ⟨w3.heap.size,1,none⟩=some (.string tt):=World.cell?_alloc_new _ _ _ _
 have z2:(w3.alloc (jU tk tt ta)).cell? ⟨w3.heap.size,2,none⟩=some (.int .i64 ta):=World.cell?_alloc_new _ _ _ _
 have hr4:=hr3.keep hA
 have hb4:=HB.out.trans (hb3.trans (Butt.of_below hr3.lt hA))
 have HR4:=jD hr4
 have HB4:=jD hb4
 have HQ:=jD hr3.lt
 have hpR:w.heap.size≠R:=fun e=>absurd HLT (by rw[e];exact Nat.lt_irrefl _)
 have HX4:=jD (((Box5.new w).butt hpR hb3).butt hpR (Butt.of_below hr3.lt hA))
 have HPR:=jD hpR
 clear hA hr3 hb3 hr4 hb4 hpR
 refine jD ?_
 go_wp2_with fail
 have zs:w3.heap.size<(w3.alloc (jU tk tt ta)).heap.size:=by simp
 have hqR:w3.heap.size≠R:=fun e=>by
  have:=HQ.out
  omega
 have HZ:=jD (And.intro zs hqR)
 clear zs hqR
 generalize w3.alloc (jU tk tt ta)=W4 at *
 generalize w3.heap.size=q at *
 have HR4d:=jD (HR4.out.keep (Below.refl _ _).drew)
 have HB4d:=jD (HB4.out.drew)
 have HX4d:=jD (HX4.out.butt HPR (Butt.refl R W4).drew)
 go_region_with (first|(go_at_call 139;refine(KB.out _ (by first|exact HB4.out|exact HB4d) (by first|exact HR4.out|exact HR4d)).mono ?_;rintro e w5 ⟨⟨kv,rfl,hk⟩,hr5,hb5⟩;obtain⟨ao,n,c,rfl⟩:=hk.slice;have x1:=(hb5.cell (p:=⟨q,1,none⟩) (by simpa using HZ.out.1) HZ.out.2).trans z1;have x2:=(hb5.cell (p:=⟨q,2,none⟩) (by simpa using HZ.out.1) HZ.out.2).trans z2;have HX5:=jD (Box5.butt (by first|exact HX4.out|exact HX4d) HPR hb5);have HK5:=jD hk;have HR5:=jD hr5;have HB5:=jD hb5;clear hk hr5 hb5)|(go_at_call 40;refine(KN.out _ _ _ _).mono ?_;rintro e w6 ⟨rfl,hb6⟩;obtain⟨y0,y1,y2,y3,y4,yf,yl⟩:=HX5.out.butt HPR (Butt.of_below HR5.out.lt hb6);have f0:=yf 0;have f1:=yf 1;have f2:=yf 2;have f3:=yf 3;have f4:=yf 4;have HB6:=jD hb6;clear hb6 yf yl))
 all_goals
  have hb6:=((by first|exact HB4.out.trans HB5.out|exact HB4d.out.trans HB5):Butt R w w5).trans (Butt.of_below HR5.out.lt HB6)
  have hk:kidsAt W4.heap.size w5 kids (.slice ao n c):=HK5.out
  have hlw:w.heap.size<W4.heap.size:=HX4.out.lt
  have RB:=jD (jfv H0 hb6 (HR5.out.keep HB6) (jrr _) (.int .i64 4) (.int .i64 ta) (.string tt) (.int .i64 0) (.slice ao n c))
  have KK:=jD (hk.keep (((((((From.of_below HB6).setCell ⟨w.heap.size,0,none⟩ hlw (.int .i64 4)).setCell ⟨w.heap.size,1,none⟩ hlw (.int .i64 ta)).setCell ⟨w.heap.size,2,none⟩ hlw (.string tt)).setCell ⟨w.heap.size,3,none⟩ hlw (.int .i64 0)).setCell ⟨w.heap.size,4,none⟩ hlw (.slice ao n c))) (Nat.le_of_lt hlw))
  obtain⟨q0,q1,q2,q3,q4⟩:=box5 y0 y1 y2 y3 y4 (.int .i64 4) (.int .i64 ta) (.string tt) (.int .i64 0) (.slice ao n c) _ rfl
  clear hb6 hk hlw y0 y1 y2 y3 y4 f0 f1 f2 f3 f4
  go_wp2
  refine bodyPost_ret (by simp[results,Tryz.results112,go_sem,q0,q1,q2,q3,q4];rfl) rfl ?_
  exact⟨⟨_,rfl,jcd.mpr ⟨_,rfl,KK.out⟩⟩,RB.out.1,RB.out.2⟩
theorem jif (R:Nat) (L:List Tk) (nx:Nat) (d at_ er:Int) (w:World) (h:RdAt w R L nx d at_ er) (hn:nx<L.length) (hs:(tkD L nx).t.size≤9223372036854775807) (ht:ClsAt R w) :
  Calls Tryz.prog 142 #[.pointer (some ⟨R,0,none⟩)] w fun e w'=>e = .returned (.string (if isN (tkD L nx)=true then ⟨#[110,97,109,101]⟩ else (tkD L nx).t))∧Below w.heap.size w w':=by
 have CI:=jdp R L nx d at_ er w h hn hs ht
 have CT:=fun W (H:RdAt W R L nx d at_ er)=>jbF R L nx d at_ er W H hn
 generalize isN (tkD L nx)=can at *
 generalize tkD L nx=T at *
 obtain⟨tk,tt,ta⟩:=T
 dsimp only at *
 have KI:=jD CI;have KT:=jD CT;have H0:=jD h
 clear CI CT h hn hs ht
 have hf:=jaG
 cases can with
 |true=>
  rw[if_pos rfl]
  go_enter Tryz.func142,Tryz.ntmps142
  go_wp2_with (go_at_call 110;refine(KI.out).mono ?_;rintro e w3 ⟨rfl,hb3⟩;refine Hid.out ?_)
  have HB3:=jD hb3;clear hb3
  refine jD ?_
  go_wp2
  go_ret
  exact⟨rfl,HB3.out⟩
 |false=>
  rw[if_neg Bool.false_ne_true]
  go_enter Tryz.func142,Tryz.ntmps142
  go_wp2_with (go_at_call 110;refine(KI.out).mono ?_;rintro e w3 ⟨rfl,hb3⟩;refine Hid.out ?_)
  have HB3:=jD hb3;clear hb3
  refine jD ?_
  go_wp2_with (go_at_call 72;refine(KT.out _ (H0.out.keep HB3)).mono ?_;rintro e w4 ⟨rfl,hb4⟩;refine Hid.out ?_)
  have HB4:=jD (Below.chain HB3 hb4);clear hb4
  refine jD ?_
  go_wp2
  go_ret
  exact⟨rfl,HB4.out⟩
inductive RSt where
 |ok (l:List Tk)
 |bad (a:Int) (e:Nat)
def RSt.rem:RSt→Nat
 |.ok l=>l.length
 |.bad ..=>0
def jcL (L:List Tk):Tk:=tkD L (L.length-1)
def cur (L:List Tk):RSt→Tk
 |.ok l=>pHd l
 |.bad ..=>jcL L
def jaq:RSt→RSt
 |.ok l=>.ok (pTl l)
 |s=>s
def jad (can:Bool):RSt→RSt
 |.ok l=>if can=true then .ok (pTl l) else .bad (pHd l).a 4
 |s=>s
def jgY (a:Int) (e:Nat):RSt→RSt
 |.ok _=>.bad a e
 |s=>s
def tokM (L:List Tk) (st:RSt) (can:Bool):Tk:=if can=true then cur L st else jcL L
def tIs (L:List Tk) (st:RSt) (s:ByteArray):Bool:=(cur L st).t.toList==s.toList
structure TkL (L:List Tk):Prop where
 len:L.length≤100000
 pos:L≠[]
 size:∀ n,(tkD L n).t.size≤1000000
 last:(jcL L).k=3∧(jcL L).t=⟨#[]⟩
def RS (R:Nat) (L:List Tk) (W:World) (d:Nat) (st:RSt):Prop:=
 ∃ (nx:Nat) (a:Int) (er:Nat),nx<L.length∧RdAt W R L nx d a er∧((er=0∧a=0∧st = .ok (L.drop nx))∨(er≠0∧nx=L.length-1∧st = .bad a er))
def lvF (i:Nat):Nat:=if i=2∨i=6 then 99 else if i=3 then 100 else if i=7 then 101 else 98
def lvO:Nat→List ByteArray
 |0=>[⟨#[111,114]⟩]
 |1=>[⟨#[97,110,100]⟩]
 |2=>[⟨#[110,111,116]⟩]
 |3=>[⟨#[61]⟩,⟨#[33,61]⟩,⟨#[60]⟩,⟨#[60,61]⟩,⟨#[62]⟩,⟨#[62,61]⟩]
 |4=>[⟨#[43]⟩,⟨#[45]⟩]
 |5=>[⟨#[42]⟩,⟨#[47]⟩,⟨#[37]⟩]
 |6=>[⟨#[45]⟩]
 |_=>[]
def opsAt (R:Nat) (W:World) (l:List ByteArray) (v:Value):Prop:=
 (l=[]∧v = .slice none 0 0)∨∃ b,v = .slice (some ⟨b,0,none⟩) l.length l.length∧b≠R∧b<W.heap.size∧∀ j,j<l.length→W.cell? ⟨b,j,none⟩=some (.string (l.getD j ByteArray.empty))
structure Fix (R:Nat) (L:List Tk) (W:World):Prop where
 toks:TkL L
 lt:R<W.heap.size
 cls:ClsAt R W
 errs:∀ k,k=2∨k=3→k≠R∧k<W.heap.size∧∃ ev,W.cell? ⟨k,0,none⟩=some ev∧(ev = .nilIface∨∃ te pe,ev = .iface te pe)
 levels:∃ b,W.cell? ⟨R,5,none⟩=some (.slice (some ⟨b,0,none⟩) 8 8)∧b≠R∧b<W.heap.size ∧
  ∀ i,i<8→W.cell? ⟨b,2 * i,none⟩=some (.func (.func (lvF i)) #[.pointer (some ⟨R,0,none⟩)] #[])∧∃ v,W.cell? ⟨b,2 * i+1,none⟩=some v∧opsAt R W (lvO i) v
 stms:∃ (m:Nat) (es:Array MapEntry) (n:Nat),W.cell? ⟨R,6,none⟩=some (.map (some m))∧m≠R∧m<W.heap.size∧W.heap[m]? = some (.map es n) ∧
  (∃ i0 i1 i2 i3 i4:Nat,∃ q:Nat,q≠R∧q<W.heap.size∧W.cell? ⟨q,0,none⟩=some (.pointer (some ⟨R,0,none⟩)) ∧
   es=#[⟨.string ⟨#[110,97,109,101]⟩,.func (.func 102) #[.pointer (some ⟨R,0,none⟩)] #[],i0⟩,
    ⟨.string ⟨#[105,102]⟩,.func (.func 103) #[.pointer (some ⟨R,0,none⟩)] #[],i1⟩,
    ⟨.string ⟨#[119,104,105,108,101]⟩,.func (.func 104) #[.pointer (some ⟨R,0,none⟩)] #[],i2⟩,
    ⟨.string ⟨#[97,115,115,101,114,116]⟩,.func (.func 105) #[] #[.pointer (some ⟨q,0,none⟩)],i3⟩,
    ⟨.string ⟨#[97,115,115,117,109,101]⟩,.func (.func 107) #[] #[.pointer (some ⟨q,0,none⟩)],i4⟩])
theorem opsAt.butt {R:Nat} {W W':World} {l:List ByteArray} {v:Value} (h:opsAt R W l v) (hb:Butt R W W'):opsAt R W' l v:=by
 refine h.imp_right ?_
 rintro⟨b,e,h1,h2,h3⟩
 exact⟨b,e,h1,Nat.lt_of_lt_of_le h2 hb.size,fun j hj=>(hb.cell (p:=⟨b,j,none⟩) h2 h1).trans (h3 j hj)⟩
theorem Fix.butt {R:Nat} {L:List Tk} {W W':World} (h:Fix R L W) (hb:Butt R W W'):Fix R L W':=by
 obtain⟨h1,h2,h3,hev,⟨b,c5,hbR,hbl,hl⟩,m,es,n,c6,hmR,hml,hm,i0,i1,i2,i3,i4,q,hqR,hql,hq,he⟩:=h
 refine⟨h1,Nat.lt_of_lt_of_le h2 hb.size,h3.keep (hb.below h2),fun k hk=>by
  obtain⟨g1,g2,ev,g3,g4⟩:=hev k hk
  exact⟨g1,Nat.lt_of_lt_of_le g2 hb.size,ev,(hb.cell (p:=⟨k,0,none⟩) g2 g1).trans g3,g4⟩,⟨b,(hb.own 5 (.inr (jrr _))).trans c5,hbR,Nat.lt_of_lt_of_le hbl hb.size,fun i hi=>?_⟩,m,es,n,(hb.own 6 (.inr (by decide))).trans c6,hmR,Nat.lt_of_lt_of_le hml hb.size,(hb.block m hml hmR).trans hm,i0,i1,i2,i3,i4,q,hqR,Nat.lt_of_lt_of_le hql hb.size,(hb.cell (p:=⟨q,0,none⟩) hql hqR).trans hq,he⟩
 obtain⟨g1,v,g2,g3⟩:=hl i hi
 exact⟨(hb.cell (p:=⟨b,2 * i,none⟩) hbl hbR).trans g1,v,(hb.cell (p:=⟨b,2 * i+1,none⟩) hbl hbR).trans g2,g3.butt hb⟩
structure At (R:Nat) (L:List Tk) (W:World) (d:Nat) (st:RSt):Prop where
 fix:Fix R L W
 rs:RS R L W d st
theorem RS.below {R d:Nat} {L:List Tk} {W W':World} {st:RSt} (h:RS R L W d st) (hb:Below W.heap.size W W'):RS R L W' d st:=by
 obtain⟨nx,a,er,h1,h2,h3⟩:=h
 exact⟨nx,a,er,h1,h2.keep hb,h3⟩
theorem At.below {R d:Nat} {L:List Tk} {W W':World} {st:RSt} (h:At R L W d st) (hb:Below W.heap.size W W'):At R L W' d st:=⟨h.fix.butt (Butt.of_below h.fix.lt hb),h.rs.below hb⟩
theorem At.alloc {R d:Nat} {L:List Tk} {W:World} {st:RSt} (h:At R L W d st) (o:Obj):At R L (W.alloc o) d st:=h.below ((Below.refl _ _).alloc (jrr _) o)
theorem Butt.alloc {R:Nat} {w W:World} (h:Butt R w W) (hR:R<w.heap.size) (o:Obj):Butt R w (W.alloc o):=h.trans (Butt.of_below (Nat.lt_of_lt_of_le hR h.size) ((Below.refl _ _).alloc (jrr _) o))
theorem jaO {L:List Tk} {nx:Nat} (h:nx<L.length):pHd (L.drop nx)=tkD L nx:=by rw[jcW h];rfl
theorem jdA {L:List Tk} {nx:Nat} (h:nx<L.length):pTl (L.drop nx)=L.drop (min (nx+1) (L.length-1)):=by
 rw[jcW h]
 by_cases g:nx+1<L.length
 ·rw[jcW g,show min (nx+1) (L.length-1)=nx+1 by omega,jcW g];rfl
 ·rw[List.drop_eq_nil_of_le (by omega:L.length≤nx+1),show min (nx+1) (L.length-1)=nx by omega,jcW h,List.drop_eq_nil_of_le (by omega:L.length≤nx+1)];rfl
theorem jbt {L:List Tk} {nx er:Nat} {a:Int} {st:RSt} (h:nx<L.length) (hs:(er=0∧a=0∧st = .ok (L.drop nx))∨(er≠0∧nx=L.length-1∧st = .bad a er)):cur L st=tkD L nx:=by
 rcases hs with ⟨-,-,rfl⟩|⟨-,rfl,rfl⟩
 ·exact jaO h
 ·rfl
theorem jdq {L:List Tk} {nx er:Nat} {a:Int} {st:RSt} (h:nx<L.length) (hs:(er=0∧a=0∧st = .ok (L.drop nx))∨(er≠0∧nx=L.length-1∧st = .bad a er)) :
  (er=0∧a=0∧jaq st = .ok (L.drop (min (nx+1) (L.length-1))))∨(er≠0∧min (nx+1) (L.length-1)=L.length-1∧jaq st = .bad a er):=by
 rcases hs with ⟨h1,h2,rfl⟩|⟨h1,rfl,rfl⟩
 ·exact .inl ⟨h1,h2,by show RSt.ok (pTl (L.drop nx))=_;rw[jdA h]⟩
 ·exact .inr ⟨h1,by omega,rfl⟩
theorem jfK {L:List Tk} {nx er d R:Nat} {a:Int} {st:RSt} {W:World} (can:Bool) (h:nx<L.length) (hs:(er=0∧a=0∧st = .ok (L.drop nx))∨(er≠0∧nx=L.length-1∧st = .bad a er))
  (hr:RdAt W R L (nxM L nx can) d (atM L nx a er can) (erM er can)):RS R L W d (jad can st):=by
 unfold nxM atM erM at hr
 cases can with
 |true=>
  simp only[if_true] at hr
  have e:jad true st=jaq st:=by cases st<;>rfl
  rw[e]
  exact⟨_,a,er,by omega,hr,jdq h hs⟩
 |false=>
  simp only[Bool.false_eq_true,if_false] at hr
  rcases hs with ⟨rfl,rfl,rfl⟩|⟨h1,rfl,rfl⟩
  ·simp only[Int.natCast_zero,if_true] at hr
   refine⟨L.length-1,(tkD L nx).a,4,by omega,hr,.inr ⟨by decide,rfl,?_⟩⟩
   show RSt.bad (pHd (L.drop nx)).a 4=_
   rw[jaO h]
  ·rw[if_neg (by omega),if_neg (by omega)] at hr
   exact⟨_,a,er,h,hr,.inr ⟨h1,rfl,rfl⟩⟩
theorem jc5 {L:List Tk} {nx er:Nat} {a:Int} {st:RSt} (can:Bool) (h:nx<L.length) (hs:(er=0∧a=0∧st = .ok (L.drop nx))∨(er≠0∧nx=L.length-1∧st = .bad a er)):tkM L nx can=tokM L st can:=by
 unfold tkM tokM
 rw[jbt h hs]
 cases can<;>rfl
section
variable {R:Nat} {L:List Tk} {d:Nat} {st:RSt} {w:World}
theorem jk1 (h:At R L w d st):Calls Tryz.prog 72 #[.pointer (some ⟨R,0,none⟩)] w fun e w'=>e = .returned (tkA (cur L st))∧At R L w' d st∧Butt R w w':=by
 obtain⟨hf,nx,a,er,h1,h2,h3⟩:=h
 rw[jbt h1 h3]
 refine(jbF R L nx d a er w h2 h1).mono ?_
 rintro e w' ⟨rfl,hb⟩
 exact⟨rfl,At.below ⟨hf,nx,a,er,h1,h2,h3⟩ hb,Butt.of_below hf.lt hb⟩
theorem jeG (h:At R L w d st):Calls Tryz.prog 36 #[.pointer (some ⟨R,0,none⟩)] w fun e w'=>e = .returned (.int .i64 (cur L st).a)∧At R L w' d st∧Butt R w w':=by
 obtain⟨hf,nx,a,er,h1,h2,h3⟩:=h
 rw[jbt h1 h3]
 refine(jgf R L nx d a er w h2 h1).mono ?_
 rintro e w' ⟨rfl,hb⟩
 exact⟨rfl,At.below ⟨hf,nx,a,er,h1,h2,h3⟩ hb,Butt.of_below hf.lt hb⟩
theorem sis (h:At R L w d st) (s:ByteArray):Calls Tryz.prog 37 #[.pointer (some ⟨R,0,none⟩),.string s] w fun e w'=>e = .returned (.bool (tIs L st s))∧At R L w' d st∧Butt R w w':=by
 obtain⟨hf,nx,a,er,h1,h2,h3⟩:=h
 unfold tIs
 rw[jbt h1 h3]
 refine(jgK R L nx d a er s w h2 h1).mono ?_
 rintro e w' ⟨rfl,hb⟩
 exact⟨rfl,At.below ⟨hf,nx,a,er,h1,h2,h3⟩ hb,Butt.of_below hf.lt hb⟩
theorem jgo (h:At R L w d st):Calls Tryz.prog 130 #[.pointer (some ⟨R,0,none⟩)] w fun e w'=>e = .returned (.bool ((cur L st).k==1))∧At R L w' d st∧Butt R w w':=by
 obtain⟨hf,nx,a,er,h1,h2,h3⟩:=h
 rw[jbt h1 h3]
 refine(jfG R L nx d a er w h2 h1).mono ?_
 rintro e w' ⟨rfl,hb⟩
 exact⟨rfl,At.below ⟨hf,nx,a,er,h1,h2,h3⟩ hb,Butt.of_below hf.lt hb⟩
theorem jln (h:At R L w d st):Calls Tryz.prog 110 #[.pointer (some ⟨R,0,none⟩)] w fun e w'=>e = .returned (.bool (isN (cur L st)))∧At R L w' d st∧Butt R w w':=by
 obtain⟨hf,nx,a,er,h1,h2,h3⟩:=h
 rw[jbt h1 h3]
 refine(jdp R L nx d a er w h2 h1 (Nat.le_trans (hf.toks.size nx) (by decide)) hf.cls).mono ?_
 rintro e w' ⟨rfl,hb⟩
 exact⟨rfl,At.below ⟨hf,nx,a,er,h1,h2,h3⟩ hb,Butt.of_below hf.lt hb⟩
theorem jjY (h:At R L w d st):Calls Tryz.prog 109 #[.pointer (some ⟨R,0,none⟩)] w fun e w'=>e = .returned (tkA (cur L st))∧At R L w' d (jaq st)∧Butt R w w':=by
 obtain⟨hf,nx,a,er,h1,h2,h3⟩:=h
 rw[jbt h1 h3]
 refine(je1 R L nx d a er w h2 h1 (Nat.le_trans hf.toks.len (by decide))).mono ?_
 rintro e w' ⟨rfl,hr,hb⟩
 exact⟨rfl,⟨hf.butt hb,_,a,er,by omega,hr,jdq h1 h3⟩,hb⟩
theorem jcB (h:At R L w d st) (s:ByteArray):Calls Tryz.prog 76 #[.pointer (some ⟨R,0,none⟩),.string s] w fun e w'=>e = .returned (.bool (tIs L st s))∧At R L w' d (if tIs L st s=true then jaq st else st)∧Butt R w w':=by
 obtain⟨hf,nx,a,er,h1,h2,h3⟩:=h
 unfold tIs
 rw[jbt h1 h3]
 refine(jdo R L nx d a er s w h2 h1 (Nat.le_trans hf.toks.len (by decide))).mono ?_
 rintro e w' ⟨rfl,hr,hb⟩
 refine⟨rfl,⟨hf.butt hb,?_⟩,hb⟩
 by_cases c:((tkD L nx).t.toList==s.toList)=true
 ·rw[if_pos c] at hr ⊢
  exact⟨_,a,er,by omega,hr,jdq h1 h3⟩
 ·rw[if_neg c] at hr ⊢
  exact⟨_,a,er,h1,hr,h3⟩
theorem jaE (h:At R L w d st) (s:ByteArray):Calls Tryz.prog 35 #[.pointer (some ⟨R,0,none⟩),.string s] w fun e w'=>e = .returned (tkA (tokM L st (tIs L st s)))∧At R L w' d (jad (tIs L st s) st)∧Butt R w w':=by
 obtain⟨hf,nx,a,er,h1,h2,h3⟩:=h
 unfold tIs
 rw[jbt h1 h3]
 refine(jeE R L nx d a er s w h2 h1 (Nat.le_trans hf.toks.len (by decide))).mono ?_
 rintro e w' ⟨rfl,hr,hb⟩
 exact⟨by rw[jc5 _ h1 h3],⟨hf.butt hb,jfK _ h1 h3 hr⟩,hb⟩
theorem jiT (h:At R L w d st):Calls Tryz.prog 73 #[.pointer (some ⟨R,0,none⟩)] w fun e w'=>e = .returned (tkA (tokM L st (isN (cur L st))))∧At R L w' d (jad (isN (cur L st)) st)∧Butt R w w':=by
 obtain⟨hf,nx,a,er,h1,h2,h3⟩:=h
 rw[jbt h1 h3]
 refine(jd9 R L nx d a er w h2 h1 (Nat.le_trans hf.toks.len (by decide)) (Nat.le_trans (hf.toks.size nx) (by decide)) hf.cls).mono ?_
 rintro e w' ⟨rfl,hr,hb⟩
 exact⟨by rw[jc5 _ h1 h3],⟨hf.butt hb,jfK _ h1 h3 hr⟩,hb⟩
theorem jfy (h:At R L w (d+1) st) (hd:d≤999999):Calls Tryz.prog 116 #[.pointer (some ⟨R,0,none⟩)] w fun e w'=>e = .returned (.tuple #[])∧At R L w' d st∧Butt R w w':=by
 obtain⟨hf,nx,a,er,h1,h2,h3⟩:=h
 refine(jib R L nx _ a er w h2 (by omega)).mono ?_
 rintro e w' ⟨rfl,hr,hb⟩
 rw[show (((d+1:Nat):Int)-1)=(d:Int) by omega] at hr
 exact⟨rfl,⟨hf.butt hb,nx,a,er,h1,hr,h3⟩,hb⟩
def jaV (L:List Tk) (st:RSt) (d:Nat) (can:Bool):RSt:=if d=64 then jgY (tokM L st can).a 12 (jad can st) else jad can st
theorem jfz (h:At R L w d st) (hd:d≤999999) (s:ByteArray):Calls Tryz.prog 113 #[.pointer (some ⟨R,0,none⟩),.string s] w fun e w'=>e = .returned (tkA (tokM L st (tIs L st s)))∧At R L w' (d+1) (jaV L st d (tIs L st s))∧Butt R w w':=by
 obtain⟨hf,nx,a,er,h1,h2,h3⟩:=h
 unfold tIs
 rw[jbt h1 h3]
 refine(jic R L nx d a er s w h2 h1 (Nat.le_trans hf.toks.len (by decide)) (by omega)).mono ?_
 rintro e w' ⟨rfl,hr,hb⟩
 refine⟨by rw[jc5 _ h1 h3],⟨hf.butt hb,?_⟩,hb⟩
 unfold jaV
 by_cases h64:d=64
 ·have h64':(d:Int)=64:=by omega
  rw[if_pos h64',if_pos h64',if_pos h64'] at hr
  rw[if_pos h64,←jc5 _ h1 h3]
  generalize ((tkD L nx).t.toList==s.toList)=can at *
  unfold atF erF at hr
  rcases h3 with ⟨rfl,rfl,rfl⟩|⟨g1,rfl,rfl⟩
  ·cases can with
   |true=>
    simp only[erM,atM,if_true,Int.natCast_zero] at hr
    exact⟨_,_,12,by omega,hr,.inr ⟨by decide,rfl,rfl⟩⟩
   |false=>
    simp only[erM,atM,if_true,Int.natCast_zero,Bool.false_eq_true,if_false] at hr
    rw[if_neg (by decide),if_neg (by decide)] at hr
    refine⟨_,_,4,by omega,hr,.inr ⟨by decide,rfl,?_⟩⟩
    unfold jgY jad
    simp only[Bool.false_eq_true,if_false]
    rw[jaO h1]
  ·have e1:erM er can=(er:Int):=by unfold erM;cases can with|true=>rfl|false=>rw[if_neg Bool.false_ne_true];exact if_neg (fun g:(er:Int)=0=>g1 (by omega))
   have e2:atM L (L.length-1) a er can=a:=by unfold atM;cases can with|true=>rfl|false=>rw[if_neg Bool.false_ne_true];exact if_neg (fun g:(er:Int)=0=>g1 (by omega))
   rw[e1,e2,if_neg (by omega),if_neg (by omega)] at hr
   exact⟨_,_,er,by omega,hr,.inr ⟨g1,rfl,rfl⟩⟩
 ·have h64':¬ (d:Int)=64:=by omega
  rw[if_neg h64',if_neg h64',if_neg h64'] at hr
  rw[if_neg h64]
  have:=jfK (d:=d+1) _ h1 h3 hr
  exact this
end
structure Bx5 (W:World) (p:Nat) (v0 v1 v2 v3 v4:Value):Prop where
 c0:W.cell? ⟨p,0,none⟩=some v0
 c1:W.cell? ⟨p,1,none⟩=some v1
 c2:W.cell? ⟨p,2,none⟩=some v2
 c3:W.cell? ⟨p,3,none⟩=some v3
 c4:W.cell? ⟨p,4,none⟩=some v4
 free:∀ j,W.frozen? ⟨p,j,none⟩=false
 lt:p<W.heap.size
theorem Bx5.new (w:World) (v0 v1 v2 v3 v4:Value):Bx5 (w.alloc (Obj.cells #[v0,v1,v2,v3,v4] 25)) w.heap.size v0 v1 v2 v3 v4:=
 ⟨World.cell?_alloc_new _ _ _ _,World.cell?_alloc_new _ _ _ _,World.cell?_alloc_new _ _ _ _,World.cell?_alloc_new _ _ _ _,World.cell?_alloc_new _ _ _ _,fun _=>World.frozen?_alloc_new _ _ _ _,by simp⟩
theorem Bx5.butt {R p:Nat} {W W':World} {v0 v1 v2 v3 v4:Value} (h:Bx5 W p v0 v1 v2 v3 v4) (hp:p≠R) (hb:Butt R W W'):Bx5 W' p v0 v1 v2 v3 v4:=by
 obtain⟨c0,c1,c2,c3,c4,hf,hl⟩:=h
 exact⟨(hb.cell (p:=⟨p,0,none⟩) hl hp).trans c0,(hb.cell (p:=⟨p,1,none⟩) hl hp).trans c1,(hb.cell (p:=⟨p,2,none⟩) hl hp).trans c2,(hb.cell (p:=⟨p,3,none⟩) hl hp).trans c3,(hb.cell (p:=⟨p,4,none⟩) hl hp).trans c4,fun j=>(hb.frozen (p:=⟨p,j,none⟩) hl hp).trans (hf j),Nat.lt_of_lt_of_le hl hb.size⟩
theorem Bx5.below {p:Nat} {W W':World} {v0 v1 v2 v3 v4:Value} (h:Bx5 W p v0 v1 v2 v3 v4) (hb:Below W.heap.size W W'):Bx5 W' p v0 v1 v2 v3 v4:=by
 obtain⟨c0,c1,c2,c3,c4,hf,hl⟩:=h
 exact⟨(hb.cell (p:=⟨p,0,none⟩) hl).trans c0,(hb.cell (p:=⟨p,1,none⟩) hl).trans c1,(hb.cell (p:=⟨p,2,none⟩) hl).trans c2,(hb.cell (p:=⟨p,3,none⟩) hl).trans c3,(hb.cell (p:=⟨p,4,none⟩) hl).trans c4,fun j=>(hb.frozen (p:=⟨p,j,none⟩) hl).trans (hf j),Nat.lt_of_lt_of_le hl hb.size⟩
theorem Bx5.alloc {p:Nat} {W:World} {v0 v1 v2 v3 v4:Value} (h:Bx5 W p v0 v1 v2 v3 v4) (o:Obj):Bx5 (W.alloc o) p v0 v1 v2 v3 v4:=h.below ((Below.refl _ _).alloc (jrr _) o)
structure Bx3 (W:World) (p:Nat) (v0 v1 v2:Value):Prop where
 c0:W.cell? ⟨p,0,none⟩=some v0
 c1:W.cell? ⟨p,1,none⟩=some v1
 c2:W.cell? ⟨p,2,none⟩=some v2
 free:∀ j,W.frozen? ⟨p,j,none⟩=false
 lt:p<W.heap.size
theorem Bx3.new (w:World) (v0 v1 v2:Value):Bx3 (w.alloc (Obj.cells #[v0,v1,v2] 50)) w.heap.size v0 v1 v2:=
 ⟨World.cell?_alloc_new _ _ _ _,World.cell?_alloc_new _ _ _ _,World.cell?_alloc_new _ _ _ _,fun _=>World.frozen?_alloc_new _ _ _ _,by simp⟩
theorem Bx3.butt {R p:Nat} {W W':World} {v0 v1 v2:Value} (h:Bx3 W p v0 v1 v2) (hp:p≠R) (hb:Butt R W W'):Bx3 W' p v0 v1 v2:=by
 obtain⟨c0,c1,c2,hf,hl⟩:=h
 exact⟨(hb.cell (p:=⟨p,0,none⟩) hl hp).trans c0,(hb.cell (p:=⟨p,1,none⟩) hl hp).trans c1,(hb.cell (p:=⟨p,2,none⟩) hl hp).trans c2,fun j=>(hb.frozen (p:=⟨p,j,none⟩) hl hp).trans (hf j),Nat.lt_of_lt_of_le hl hb.size⟩
theorem Bx3.below {p:Nat} {W W':World} {v0 v1 v2:Value} (h:Bx3 W p v0 v1 v2) (hb:Below W.heap.size W W'):Bx3 W' p v0 v1 v2:=by
 obtain⟨c0,c1,c2,hf,hl⟩:=h
 exact⟨(hb.cell (p:=⟨p,0,none⟩) hl).trans c0,(hb.cell (p:=⟨p,1,none⟩) hl).trans c1,(hb.cell (p:=⟨p,2,none⟩) hl).trans c2,fun j=>(hb.frozen (p:=⟨p,j,none⟩) hl).trans (hf j),Nat.lt_of_lt_of_le hl hb.size⟩
theorem Bx3.alloc {p:Nat} {W:World} {v0 v1 v2:Value} (h:Bx3 W p v0 v1 v2) (o:Obj):Bx3 (W.alloc o) p v0 v1 v2:=h.below ((Below.refl _ _).alloc (jrr _) o)
def Run {α : Type} (m:Nat→List Tk→Except (Int×Nat) (α×List Tk)) (st:RSt) (x:α) (st':RSt):Prop:=
 match st with
 |.bad a e=>st' = .bad a e
 |.ok l=>(∃ l',st' = .ok l'∧l'≠[]∧l'.length≤l.length∧∃ N,∀ f,N≤f→m f l = .ok (x,l'))∨(∃ a e,e≠0∧st' = .bad a e∧∃ N,∀ f,N≤f→m f l = .error (a,e))
abbrev Stp (w:Want) (d:Nat) (st:RSt) (xs:List Syn) (st':RSt):Prop:=Run (fun f l=>jaf f w d l) st xs st'
abbrev PT (R:Nat) (L:List Tk) (wnt:Want) (d:Nat) (st:RSt) (W:World):Ending→World→Prop:=fun e W'=>
 ∃ x v st',e = .returned v∧synAt W.heap.size W' x v∧Stp wnt d st [x] st'∧At R L W' d st'∧Butt R W W'
theorem synAt.shape {lo:Nat} {W:World} {x:Syn} {v:Value} (h:synAt lo W x v):∃ k a t n ao l c ks,x = .mk k a t n ks∧v = .agg #[.int .i64 k,.int .i64 a,.string t,.int .i64 n,.slice ao l c]∧kidsAt lo W ks (.slice ao l c):=by
 obtain⟨k,a,t,n,ks⟩:=x
 obtain⟨kv,rfl,hk⟩:=jcd.mp h
 obtain⟨ao,l,c,rfl⟩:=hk.slice
 exact⟨k,a,t,n,ao,l,c,ks,rfl,rfl,hk⟩
theorem jce {R:Nat} {L:List Tk} {d0 d:Nat} {st0 st:RSt} {w W:World} {u0 u1 u2 u3 u4:Value} {lo:Nat} (h0:At R L w d0 st0) (hb:Butt R w W) (ha:At R L W d st) (hB:Bx5 W w.heap.size u0 u1 u2 u3 u4) (hlo:w.heap.size<lo)
  (x:Syn) (v0 v1 v2 v3 v4:Value) (hx:synAt lo W x (.agg #[v0,v1,v2,v3,v4])) (W':World)
  (hW:W'=((((W.setCell ⟨w.heap.size,0,none⟩ v0).setCell ⟨w.heap.size,1,none⟩ v1).setCell ⟨w.heap.size,2,none⟩ v2).setCell ⟨w.heap.size,3,none⟩ v3).setCell ⟨w.heap.size,4,none⟩ v4) :
  W'.cell? ⟨w.heap.size,0,none⟩=some v0∧W'.cell? ⟨w.heap.size,1,none⟩=some v1∧W'.cell? ⟨w.heap.size,2,none⟩=some v2∧W'.cell? ⟨w.heap.size,3,none⟩=some v3∧W'.cell? ⟨w.heap.size,4,none⟩=some v4 ∧
  synAt w.heap.size W' x (.agg #[v0,v1,v2,v3,v4])∧At R L W' d st∧Butt R w W':=by
 obtain⟨q0,q1,q2,q3,q4⟩:=box5 hB.c0 hB.c1 hB.c2 hB.c3 hB.c4 v0 v1 v2 v3 v4 W' hW
 obtain⟨hf0,nx0,a0,er0,h01,h02,h03⟩:=h0
 obtain⟨hf,nx,a,er,h1,h2,h3⟩:=ha
 obtain⟨hr,hbt⟩:=jfv h02 hb h2 (jrr w.heap.size) v0 v1 v2 v3 v4
 rw[←hW] at hr hbt
 have hfr:From lo W W':=by
  rw[hW]
  exact(((((From.refl lo W).setCell ⟨w.heap.size,0,none⟩ hlo v0).setCell ⟨w.heap.size,1,none⟩ hlo v1).setCell ⟨w.heap.size,2,none⟩ hlo v2).setCell ⟨w.heap.size,3,none⟩ hlo v3).setCell ⟨w.heap.size,4,none⟩ hlo v4
 exact⟨q0,q1,q2,q3,q4,synAt.keep hfr (Nat.le_of_lt hlo) x _ hx,⟨hf0.butt hbt,nx,a,er,h1,hr,h3⟩,hbt⟩
mutual
def synIn (A:Nat→Prop) (W:World):Syn→Value→Prop
 |.mk k a t n kids,v=>∃ kv,v = .agg #[.int .i64 k,.int .i64 a,.string t,.int .i64 n,kv] ∧
   ((kids.length=0∧kv = .slice none 0 0)∨∃ b c,kv = .slice (some ⟨b,0,none⟩) kids.length c∧kids.length≤c∧c≤maxLen∧A b∧b<W.heap.size∧rowIn A W kids b 0)
def rowIn (A:Nat→Prop) (W:World):List Syn→Nat→Nat→Prop
 | [],_,_=>True
 |x::r,b,o=>(∃ v0 v1 v2 v3 v4,W.cell? ⟨b,o,none⟩=some v0∧W.cell? ⟨b,o+1,none⟩=some v1∧W.cell? ⟨b,o+2,none⟩=some v2∧W.cell? ⟨b,o+3,none⟩=some v3∧W.cell? ⟨b,o+4,none⟩=some v4∧synIn A W x (.agg #[v0,v1,v2,v3,v4]))∧rowIn A W r b (o+5)
end
structure Kept (A:Nat→Prop) (W W':World):Prop where
 size:W.heap.size≤W'.heap.size
 block:∀ k,A k→k<W.heap.size→W'.heap[k]? = W.heap[k]?
theorem Kept.cell {A:Nat→Prop} {W W':World} (h:Kept A W W') {p:Addr} (h1:A p.block) (h2:p.block<W.heap.size):W'.cell? p=W.cell? p:=by
 simp only[World.cell?,h.block p.block h1 h2]
mutual
theorem synIn.keep {A B:Nat→Prop} {W W':World} (hb:Kept A W W') (hl:∀ k,A k→k<W.heap.size→B k):∀ (x:Syn) (v:Value),synIn A W x v→synIn B W' x v
 |.mk k a t n kids,v,h=>by
  rw[synIn] at h ⊢
  obtain⟨kv,e,h⟩:=h
  refine⟨kv,e,h.imp_right ?_⟩
  rintro⟨b,c,e1,h1,h2,h3,h4,h5⟩
  exact⟨b,c,e1,h1,h2,hl b h3 h4,Nat.lt_of_lt_of_le h4 hb.size,rowIn.keep hb hl kids b 0 h3 h4 h5⟩
theorem rowIn.keep {A B:Nat→Prop} {W W':World} (hb:Kept A W W') (hl:∀ k,A k→k<W.heap.size→B k):∀ (l:List Syn) (b o:Nat),A b→b<W.heap.size→rowIn A W l b o→rowIn B W' l b o
 | [],b,o,_,_,_=>by rw[rowIn];trivial
 |x::r,b,o,h3,h4,h=>by
  rw[rowIn] at h ⊢
  obtain⟨⟨v0,v1,v2,v3,v4,c0,c1,c2,c3,c4,hx⟩,hr⟩:=h
  refine⟨⟨v0,v1,v2,v3,v4,(hb.cell (p:=⟨b,o,none⟩) h3 h4).trans c0,(hb.cell (p:=⟨b,o+1,none⟩) h3 h4).trans c1,(hb.cell (p:=⟨b,o+2,none⟩) h3 h4).trans c2,(hb.cell (p:=⟨b,o+3,none⟩) h3 h4).trans c3,(hb.cell (p:=⟨b,o+4,none⟩) h3 h4).trans c4,synIn.keep hb hl x _ hx⟩,rowIn.keep hb hl r b (o+5) h3 h4 hr⟩
end
mutual
theorem jcC {lo:Nat} {W:World}:∀ (x:Syn) (v:Value),synIn (lo≤·) W x v↔synAt lo W x v
 |.mk k a t n kids,v=>by
  rw[synIn,synAt]
  constructor
  ·rintro⟨kv,e,h⟩
   exact⟨kv,e,h.imp_right fun⟨b,c,e1,h1,h2,h3,h4,h5⟩=>⟨b,c,e1,h1,h2,h3,h4,(jcD kids b 0).mp h5⟩⟩
  ·rintro⟨kv,e,h⟩
   exact⟨kv,e,h.imp_right fun⟨b,c,e1,h1,h2,h3,h4,h5⟩=>⟨b,c,e1,h1,h2,h3,h4,(jcD kids b 0).mpr h5⟩⟩
theorem jcD {lo:Nat} {W:World}:∀ (l:List Syn) (b o:Nat),rowIn (lo≤·) W l b o↔rowAt lo W l b o
 | [],b,o=>by rw[rowIn,rowAt]
 |x::r,b,o=>by
  rw[rowIn,rowAt]
  constructor
  ·rintro⟨⟨v0,v1,v2,v3,v4,c0,c1,c2,c3,c4,hx⟩,hr⟩
   exact⟨⟨v0,v1,v2,v3,v4,c0,c1,c2,c3,c4,(jcC x _).mp hx⟩,(jcD r b (o+5)).mp hr⟩
  ·rintro⟨⟨v0,v1,v2,v3,v4,c0,c1,c2,c3,c4,hx⟩,hr⟩
   exact⟨⟨v0,v1,v2,v3,v4,c0,c1,c2,c3,c4,(jcC x _).mpr hx⟩,(jcD r b (o+5)).mpr hr⟩
end
def flatIn (A:Nat→Prop) (W:World):List Syn→List Value→Prop
 | [],cs=>cs=[]
 |x::r,cs=>∃ v0 v1 v2 v3 v4 cs',cs=[v0,v1,v2,v3,v4]++cs'∧synIn A W x (.agg #[v0,v1,v2,v3,v4])∧flatIn A W r cs'
theorem flatIn.keep {A B:Nat→Prop} {W W':World} (hb:Kept A W W') (hl:∀ k,A k→k<W.heap.size→B k):∀ (l:List Syn) (cs:List Value),flatIn A W l cs→flatIn B W' l cs
 | [],cs,h=>h
 |x::r,cs,⟨v0,v1,v2,v3,v4,cs',e,hx,hr⟩=>⟨v0,v1,v2,v3,v4,cs',e,synIn.keep hb hl x _ hx,flatIn.keep hb hl r cs' hr⟩
theorem flatIn.app {A:Nat→Prop} {W:World} {ys:List Syn} {ds:List Value} (hy:flatIn A W ys ds):∀ (l:List Syn) (cs:List Value),flatIn A W l cs→flatIn A W (l++ys) (cs++ds)
 | [],cs,h=>by rw[show cs=[] from h];exact hy
 |x::r,cs,⟨v0,v1,v2,v3,v4,cs',e,hx,hr⟩=>⟨v0,v1,v2,v3,v4,cs'++ds,by rw[e,List.append_assoc],hx,flatIn.app hy r cs' hr⟩
theorem flatIn.len {A:Nat→Prop} {W:World}:∀ (l:List Syn) (cs:List Value),flatIn A W l cs→cs.length=l.length * 5
 | [],cs,h=>by rw[show cs=[] from h];rfl
 |x::r,cs,⟨v0,v1,v2,v3,v4,cs',e,hx,hr⟩=>by rw[e,List.length_append,flatIn.len r cs' hr];simp only[List.length_cons,List.length_nil];omega
abbrev jcm (lo:Nat) (v:Value):Nat→Prop:=fun b=>lo≤b∧v.ownBlock≠some b
def ownT (lo:Nat) (W:World) (xs:List Syn) (v:Value):Prop:=∃ cs,W.ownsRow lo 25 5 v xs.length cs∧flatIn (jcm lo v) W xs cs
theorem ownT.nil (lo:Nat) (W:World):ownT lo W [] (.slice none 0 0):=⟨[],World.ownsRow_nil ..,rfl⟩
theorem ownT.slice {lo:Nat} {W:World} {xs:List Syn} {v:Value} (h:ownT lo W xs v):∃ ao c,v = .slice ao xs.length c:=by
 obtain⟨cs,⟨-,h2⟩,-⟩:=h
 rcases h2 with ⟨rfl,hn⟩|⟨g,cap,cur,rfl,-⟩
 ·exact⟨none,0,by rw[hn]⟩
 ·exact⟨_,_,rfl⟩
theorem ownT.keep {lo l2:Nat} {W W':World} {xs:List Syn} {v:Value} (h:ownT lo W xs v) (hl:l2≤lo) (hb:From lo W W'):ownT l2 W' xs v:=by
 obtain⟨cs,⟨h1,h2⟩,h3⟩:=h
 refine⟨cs,⟨h1,h2.imp_right ?_⟩,flatIn.keep ⟨hb.size,fun k hk h=>hb.block k hk.1 h⟩ (fun k hk _=>⟨Nat.le_trans hl hk.1,hk.2⟩) _ _ h3⟩
 rintro⟨g,cap,cur,e,g1,g2,r⟩
 exact⟨g,cap,cur,e,Nat.le_trans hl g1,(hb.block g g1 (Array.getElem?_eq_some_iff.1 g2).1).trans g2,r⟩
theorem jeq {A:Nat→Prop} {W:World} {b:Nat}:∀ (l:List Syn) (cs:List Value) (o:Nat),flatIn A W l cs→(∀ j u,cs[j]? = some u→W.cell? ⟨b,o+j,none⟩=some u)→rowIn A W l b o
 | [],cs,o,_,_=>by rw[rowIn];trivial
 |x::r,cs,o,⟨v0,v1,v2,v3,v4,cs',e,hx,hr⟩,hc=>by
  subst e
  rw[rowIn]
  refine⟨⟨v0,v1,v2,v3,v4,hc 0 v0 rfl,hc 1 v1 rfl,hc 2 v2 rfl,hc 3 v3 rfl,hc 4 v4 rfl,hx⟩,jeq r cs' (o+5) hr fun j u hu=>?_⟩
  rw[show o+5+j=o+(j+5) by omega]
  exact hc (j+5) u hu
theorem ownT.kids {lo:Nat} {W:World} {xs:List Syn} {v:Value} (h:ownT lo W xs v):kidsAt lo W xs v:=by
 obtain⟨cs,⟨h1,h2⟩,h3⟩:=h
 rcases h2 with ⟨rfl,hn⟩|⟨g,cap,cur,rfl,g1,g2,g3,g4,g5,g6⟩
 ·exact .inl ⟨hn,rfl⟩
 ·have hlt:=(Array.getElem?_eq_some_iff.1 g2).1
  refine .inr ⟨g,cap,rfl,g3,g4,g1,hlt,(jcD xs g 0).mp ?_⟩
  have hf:=flatIn.keep (A:=jcm lo (.slice (some ⟨g,0,none⟩) xs.length cap)) (B:=(lo≤·)) ⟨jrr _,fun _ _ _=>rfl⟩ (fun k hk _=>hk.1) _ _ h3
  refine jeq xs cs 0 hf fun j u hu=>?_
  rw[Nat.zero_add]
  have hj:j<xs.length * 5:=by
   have:=(List.getElem?_eq_some_iff.1 hu).1
   rw[h1] at this
   exact this
  rw[←g6,List.getElem?_take_of_lt hj] at hu
  simp only[World.cell?,g2]
  rw[←Array.getElem?_toList] 
  simpa using hu
end Go.Proofs.YtenmmmdnpglkoaaGreatDoor
