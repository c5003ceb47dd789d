import Derived.Test.YtenmmmdnpglkoaaGreatDoorCut20
import Derived.Test.YtenmmmdnpglkoaaGreatDoorRows
import Derived.HandedShaped
import Derived.Handed
import Derived.Lay
import Derived.LaidMore
import Derived.LaidLaws
import Derived.LaidHandle
import Derived.MakeChecks
import Derived.Lib.LaidTab
import Derived.Stop.Joined
import Derived.Stop.LaidErr
import Derived.OpenShut
import Derived.ProofKit
import Derived.DataShut
set_option linter.unusedSimpArgs false
set_option linter.unusedVariables false
set_option maxRecDepth 100000
set_option maxHeartbeats 8000000
/-
 parser: statementStarts.
-/
namespace Go.Proofs.YtenmmmdnpglkoaaGreatDoor
open Go Go.Proofs Go.RowKit Go.Sort
theorem jd8 {w:World} {b:Nat} {es:Array MapEntry} {clock:Nat} (hb:w.heap[b]? = some (.map es clock)) (s:ByteArray) (v:Value)
  (h1:Instr.findNow .string (.string s) es.toList 0=some none) :
  (Instr.mapUpdate 71 (.map (some b)) (.string s) v).run Tryz.prog w = .ok () (Go.ChangeMaps.setBlock w b (.map (es.push ⟨.string s,v,clock⟩) (clock+1))):=by
 have hkey:MapKept.IsKey .string (.string s):=trivial
 simp[Instr.mapUpdate,run_underlying Tryz.underlying71,MapKept.run_getObj_map hb,MapKept.run_checkKey Tryz.underlying9 hkey,MapKept.run_findKey Tryz.underlying9 h1,MapKept.run_setObj_map _ hb,Result.andThen,Go.ChangeMaps.setBlock]
theorem jb0 {w0 w:World} {b:Nat} (h:Below w0.heap.size w0 w) (hb:w0.heap.size≤b) (o:Obj):Below w0.heap.size w0 (Go.ChangeMaps.setBlock w b o):=by
 refine h.trans ⟨rfl,rfl,rfl,by simp[Go.ChangeMaps.setBlock],fun i hi=>?_⟩
 simp[Go.ChangeMaps.setBlock]
 rw[Array.getElem?_setIfInBounds_ne (by omega)]
theorem jgR (R:Nat) (w:World):∃ W1 W2 W3 W4 W5:World,
  (Instr.mapUpdate 71 (.map (some (w.heap.size+1))) (.string ⟨#[110,97,109,101]⟩) (.func (.func 102) #[.pointer (some ⟨R,0,none⟩)] #[])).run Tryz.prog ((w.alloc (Obj.cells #[.pointer (some ⟨R,0,none⟩)] 41)).alloc (.map #[] 0)) = .ok () W1∧W1.cell? ⟨w.heap.size,0,none⟩=some (.pointer (some ⟨R,0,none⟩)) ∧
  (Instr.mapUpdate 71 (.map (some (w.heap.size+1))) (.string ⟨#[105,102]⟩) (.func (.func 103) #[.pointer (some ⟨R,0,none⟩)] #[])).run Tryz.prog W1 = .ok () W2∧W2.cell? ⟨w.heap.size,0,none⟩=some (.pointer (some ⟨R,0,none⟩)) ∧
  (Instr.mapUpdate 71 (.map (some (w.heap.size+1))) (.string ⟨#[119,104,105,108,101]⟩) (.func (.func 104) #[.pointer (some ⟨R,0,none⟩)] #[])).run Tryz.prog W2 = .ok () W3∧W3.cell? ⟨w.heap.size,0,none⟩=some (.pointer (some ⟨R,0,none⟩)) ∧
  (Instr.mapUpdate 71 (.map (some (w.heap.size+1))) (.string ⟨#[97,115,115,101,114,116]⟩) (.func (.func 105) #[] #[.pointer (some ⟨w.heap.size,0,none⟩)])).run Tryz.prog W3 = .ok () W4∧W4.cell? ⟨w.heap.size,0,none⟩=some (.pointer (some ⟨R,0,none⟩)) ∧
  (Instr.mapUpdate 71 (.map (some (w.heap.size+1))) (.string ⟨#[97,115,115,117,109,101]⟩) (.func (.func 107) #[] #[.pointer (some ⟨w.heap.size,0,none⟩)])).run Tryz.prog W4 = .ok () W5∧W5.cell? ⟨w.heap.size,0,none⟩=some (.pointer (some ⟨R,0,none⟩)) ∧
  W5.heap[w.heap.size+1]? = some (.map #[⟨.string ⟨#[110,97,109,101]⟩,(.func (.func 102) #[.pointer (some ⟨R,0,none⟩)] #[]),0⟩,⟨.string ⟨#[105,102]⟩,(.func (.func 103) #[.pointer (some ⟨R,0,none⟩)] #[]),1⟩,⟨.string ⟨#[119,104,105,108,101]⟩,(.func (.func 104) #[.pointer (some ⟨R,0,none⟩)] #[]),2⟩,⟨.string ⟨#[97,115,115,101,114,116]⟩,(.func (.func 105) #[] #[.pointer (some ⟨w.heap.size,0,none⟩)]),3⟩,⟨.string ⟨#[97,115,115,117,109,101]⟩,(.func (.func 107) #[] #[.pointer (some ⟨w.heap.size,0,none⟩)]),4⟩] 5)∧w.heap.size+1<W5.heap.size∧Below w.heap.size w W5:=by
 have B:Below (w.alloc (Obj.cells #[.pointer (some ⟨R,0,none⟩)] 41)).heap.size (w.alloc (Obj.cells #[.pointer (some ⟨R,0,none⟩)] 41)) ((w.alloc (Obj.cells #[.pointer (some ⟨R,0,none⟩)] 41)).alloc (.map #[] 0)):=jN _
 have BA:Below w.heap.size w (w.alloc (Obj.cells #[.pointer (some ⟨R,0,none⟩)] 41)):=jN _
 have hq:(w.alloc (Obj.cells #[.pointer (some ⟨R,0,none⟩)] 41)).cell? ⟨w.heap.size,0,none⟩=some (.pointer (some ⟨R,0,none⟩)):=World.cell?_alloc_new _ _ _ _
 have hsz:(w.alloc (Obj.cells #[.pointer (some ⟨R,0,none⟩)] 41)).heap.size=w.heap.size+1:=by simp
 generalize w.alloc (Obj.cells #[.pointer (some ⟨R,0,none⟩)] 41)=V at *
 have h0:(V.alloc (.map #[] 0)).heap[w.heap.size+1]? = some (.map #[] 0):=by
  rw[←hsz]
  exact Array.getElem?_push_size
 have s0:(V.alloc (.map #[] 0)).heap.size=w.heap.size+2:=by simp[hsz]
 have r1:=jd8 (w:=(V.alloc (.map #[] 0))) h0 ⟨#[110,97,109,101]⟩ (.func (.func 102) #[.pointer (some ⟨R,0,none⟩)] #[]) rfl
 have h1:=Go.ChangeMaps.heap_setBlock_same h0 (.map ((#[]).push ⟨.string ⟨#[110,97,109,101]⟩,(.func (.func 102) #[.pointer (some ⟨R,0,none⟩)] #[]),0⟩) (0+1))
 have B1:=jb0 B (by omega) (.map ((#[]).push ⟨.string ⟨#[110,97,109,101]⟩,(.func (.func 102) #[.pointer (some ⟨R,0,none⟩)] #[]),0⟩) (0+1)) (b:=w.heap.size+1)
 have r2:=jd8 (w:=_) h1 ⟨#[105,102]⟩ (.func (.func 103) #[.pointer (some ⟨R,0,none⟩)] #[]) (by
  have e0:=jcj (show (⟨#[105,102]⟩:ByteArray)≠⟨#[110,97,109,101]⟩ by decide)
  simp[Instr.findNow,Instr.sameNow,e0])
 have h2:=Go.ChangeMaps.heap_setBlock_same h1 (.map (((#[]).push ⟨.string ⟨#[110,97,109,101]⟩,(.func (.func 102) #[.pointer (some ⟨R,0,none⟩)] #[]),0⟩).push ⟨.string ⟨#[105,102]⟩,(.func (.func 103) #[.pointer (some ⟨R,0,none⟩)] #[]),1⟩) (1+1))
 have B2:=jb0 B1 (by omega) (.map (((#[]).push ⟨.string ⟨#[110,97,109,101]⟩,(.func (.func 102) #[.pointer (some ⟨R,0,none⟩)] #[]),0⟩).push ⟨.string ⟨#[105,102]⟩,(.func (.func 103) #[.pointer (some ⟨R,0,none⟩)] #[]),1⟩) (1+1)) (b:=w.heap.size+1)
 have r3:=jd8 (w:=_) h2 ⟨#[119,104,105,108,101]⟩ (.func (.func 104) #[.pointer (some ⟨R,0,none⟩)] #[]) (by
  have e0:=jcj (show (⟨#[119,104,105,108,101]⟩:ByteArray)≠⟨#[110,97,109,101]⟩ by decide)
  have e1:=jcj (show (⟨#[119,104,105,108,101]⟩:ByteArray)≠⟨#[105,102]⟩ by decide)
  simp[Instr.findNow,Instr.sameNow,e0,e1])
 have h3:=Go.ChangeMaps.heap_setBlock_same h2 (.map ((((#[]).push ⟨.string ⟨#[110,97,109,101]⟩,(.func (.func 102) #[.pointer (some ⟨R,0,none⟩)] #[]),0⟩).push ⟨.string ⟨#[105,102]⟩,(.func (.func 103) #[.pointer (some ⟨R,0,none⟩)] #[]),1⟩).push ⟨.string ⟨#[119,104,105,108,101]⟩,(.func (.func 104) #[.pointer (some ⟨R,0,none⟩)] #[]),2⟩) (2+1))
 have B3:=jb0 B2 (by omega) (.map ((((#[]).push ⟨.string ⟨#[110,97,109,101]⟩,(.func (.func 102) #[.pointer (some ⟨R,0,none⟩)] #[]),0⟩).push ⟨.string ⟨#[105,102]⟩,(.func (.func 103) #[.pointer (some ⟨R,0,none⟩)] #[]),1⟩).push ⟨.string ⟨#[119,104,105,108,101]⟩,(.func (.func 104) #[.pointer (some ⟨R,0,none⟩)] #[]),2⟩) (2+1)) (b:=w.heap.size+1)
 have r4:=jd8 (w:=_) h3 ⟨#[97,115,115,101,114,116]⟩ (.func (.func 105) #[] #[.pointer (some ⟨w.heap.size,0,none⟩)]) (by
  have e0:=jcj (show (⟨#[97,115,115,101,114,116]⟩:ByteArray)≠⟨#[110,97,109,101]⟩ by decide)
  have e1:=jcj (show (⟨#[97,115,115,101,114,116]⟩:ByteArray)≠⟨#[105,102]⟩ by decide)
  have e2:=jcj (show (⟨#[97,115,115,101,114,116]⟩:ByteArray)≠⟨#[119,104,105,108,101]⟩ by decide)
  simp[Instr.findNow,Instr.sameNow,e0,e1,e2])
 have h4:=Go.ChangeMaps.heap_setBlock_same h3 (.map (((((#[]).push ⟨.string ⟨#[110,97,109,101]⟩,(.func (.func 102) #[.pointer (some ⟨R,0,none⟩)] #[]),0⟩).push ⟨.string ⟨#[105,102]⟩,(.func (.func 103) #[.pointer (some ⟨R,0,none⟩)] #[]),1⟩).push ⟨.string ⟨#[119,104,105,108,101]⟩,(.func (.func 104) #[.pointer (some ⟨R,0,none⟩)] #[]),2⟩).push ⟨.string ⟨#[97,115,115,101,114,116]⟩,(.func (.func 105) #[] #[.pointer (some ⟨w.heap.size,0,none⟩)]),3⟩) (3+1))
 have B4:=jb0 B3 (by omega) (.map (((((#[]).push ⟨.string ⟨#[110,97,109,101]⟩,(.func (.func 102) #[.pointer (some ⟨R,0,none⟩)] #[]),0⟩).push ⟨.string ⟨#[105,102]⟩,(.func (.func 103) #[.pointer (some ⟨R,0,none⟩)] #[]),1⟩).push ⟨.string ⟨#[119,104,105,108,101]⟩,(.func (.func 104) #[.pointer (some ⟨R,0,none⟩)] #[]),2⟩).push ⟨.string ⟨#[97,115,115,101,114,116]⟩,(.func (.func 105) #[] #[.pointer (some ⟨w.heap.size,0,none⟩)]),3⟩) (3+1)) (b:=w.heap.size+1)
 have r5:=jd8 (w:=_) h4 ⟨#[97,115,115,117,109,101]⟩ (.func (.func 107) #[] #[.pointer (some ⟨w.heap.size,0,none⟩)]) (by
  have e0:=jcj (show (⟨#[97,115,115,117,109,101]⟩:ByteArray)≠⟨#[110,97,109,101]⟩ by decide)
  have e1:=jcj (show (⟨#[97,115,115,117,109,101]⟩:ByteArray)≠⟨#[105,102]⟩ by decide)
  have e2:=jcj (show (⟨#[97,115,115,117,109,101]⟩:ByteArray)≠⟨#[119,104,105,108,101]⟩ by decide)
  have e3:=jcj (show (⟨#[97,115,115,117,109,101]⟩:ByteArray)≠⟨#[97,115,115,101,114,116]⟩ by decide)
  simp[Instr.findNow,Instr.sameNow,e0,e1,e2,e3])
 have h5:=Go.ChangeMaps.heap_setBlock_same h4 (.map ((((((#[]).push ⟨.string ⟨#[110,97,109,101]⟩,(.func (.func 102) #[.pointer (some ⟨R,0,none⟩)] #[]),0⟩).push ⟨.string ⟨#[105,102]⟩,(.func (.func 103) #[.pointer (some ⟨R,0,none⟩)] #[]),1⟩).push ⟨.string ⟨#[119,104,105,108,101]⟩,(.func (.func 104) #[.pointer (some ⟨R,0,none⟩)] #[]),2⟩).push ⟨.string ⟨#[97,115,115,101,114,116]⟩,(.func (.func 105) #[] #[.pointer (some ⟨w.heap.size,0,none⟩)]),3⟩).push ⟨.string ⟨#[97,115,115,117,109,101]⟩,(.func (.func 107) #[] #[.pointer (some ⟨w.heap.size,0,none⟩)]),4⟩) (4+1))
 have B5:=jb0 B4 (by omega) (.map ((((((#[]).push ⟨.string ⟨#[110,97,109,101]⟩,(.func (.func 102) #[.pointer (some ⟨R,0,none⟩)] #[]),0⟩).push ⟨.string ⟨#[105,102]⟩,(.func (.func 103) #[.pointer (some ⟨R,0,none⟩)] #[]),1⟩).push ⟨.string ⟨#[119,104,105,108,101]⟩,(.func (.func 104) #[.pointer (some ⟨R,0,none⟩)] #[]),2⟩).push ⟨.string ⟨#[97,115,115,101,114,116]⟩,(.func (.func 105) #[] #[.pointer (some ⟨w.heap.size,0,none⟩)]),3⟩).push ⟨.string ⟨#[97,115,115,117,109,101]⟩,(.func (.func 107) #[] #[.pointer (some ⟨w.heap.size,0,none⟩)]),4⟩) (4+1)) (b:=w.heap.size+1)
 have hl:w.heap.size<V.heap.size:=by omega
 exact⟨_,_,_,_,_,r1,(B1.cell (p:=⟨w.heap.size,0,none⟩) hl).trans hq,r2,(B2.cell (p:=⟨w.heap.size,0,none⟩) hl).trans hq,r3,(B3.cell (p:=⟨w.heap.size,0,none⟩) hl).trans hq,r4,(B4.cell (p:=⟨w.heap.size,0,none⟩) hl).trans hq,r5,(B5.cell (p:=⟨w.heap.size,0,none⟩) hl).trans hq,h5,by have:=(Array.getElem?_eq_some_iff.1 h5).1;exact this,Below.chain BA B5⟩
theorem jei (R:Nat) (w:World) :
  Calls Tryz.prog 70 #[.pointer (some ⟨R,0,none⟩)] w fun e w'=>e = .returned (.map (some (w.heap.size+1)))∧w'.cell? ⟨w.heap.size,0,none⟩=some (.pointer (some ⟨R,0,none⟩))∧w'.heap[w.heap.size+1]? = some (.map #[⟨.string ⟨#[110,97,109,101]⟩,(.func (.func 102) #[.pointer (some ⟨R,0,none⟩)] #[]),0⟩,⟨.string ⟨#[105,102]⟩,(.func (.func 103) #[.pointer (some ⟨R,0,none⟩)] #[]),1⟩,⟨.string ⟨#[119,104,105,108,101]⟩,(.func (.func 104) #[.pointer (some ⟨R,0,none⟩)] #[]),2⟩,⟨.string ⟨#[97,115,115,101,114,116]⟩,(.func (.func 105) #[] #[.pointer (some ⟨w.heap.size,0,none⟩)]),3⟩,⟨.string ⟨#[97,115,115,117,109,101]⟩,(.func (.func 107) #[] #[.pointer (some ⟨w.heap.size,0,none⟩)]),4⟩] 5)∧w.heap.size+1<w'.heap.size∧Below w.heap.size w w':=by
 obtain⟨W1,W2,W3,W4,W5,r1,q1,r2,q2,r3,q3,r4,q4,r5,q5,hm,hl,hB⟩:=jgR R w
 have hmm:=@run_makeMap Tryz.prog
 have q0:((w.alloc (Obj.cells #[.pointer (some ⟨R,0,none⟩)] 41)).alloc (.map #[] 0)).cell? ⟨w.heap.size,0,none⟩=some (.pointer (some ⟨R,0,none⟩)):=by go_cell
 have HB:=jD hB;have HM:=jD hm;have HL:=jD hl;have HQ:=jD q5
 clear hB hm hl
 go_enter Tryz.func70,Tryz.ntmps70
 go_wp2
 go_ret
 exact⟨rfl,HQ.out,HM.out,HL.out,HB.out⟩
theorem opsAt.kept {R:Nat} {W W':World} {l:List ByteArray} {v:Value} (h:opsAt R W l v) (hb:Kept (·≠R) W W'):opsAt R W' l v:=by
 refine h.imp_right ?_
 rintro⟨b,e,h1,h2,h3⟩
 exact⟨b,e,h1,Nat.lt_of_lt_of_le h2 hb.size,fun j hj=>(hb.cell (p:=⟨b,j,none⟩) h1 h2).trans (h3 j hj)⟩
theorem Kept.of_below {A:Nat→Prop} {W W':World} (h:Below W.heap.size W W'):Kept A W W':=⟨h.size,fun k _ hk=>h.block k hk⟩
theorem Kept.trans {A:Nat→Prop} {a b c:World} (h:Kept A a b) (k:Kept A b c):Kept A a c:=⟨Nat.le_trans h.size k.size,fun i hi hl=>(k.block i hi (Nat.lt_of_lt_of_le hl h.size)).trans (h.block i hi hl)⟩
def EvAt (W:World):Prop:=∀ k,k=2∨k=3→k<W.heap.size∧∃ ev,W.cell? ⟨k,0,none⟩=some ev∧(ev = .nilIface∨∃ te pe,ev = .iface te pe)
theorem jcY (L:List Tk) (ao:Option Addr) (n c:Nat) (w:World) (hn:n=L.length) (hr:TRow w ao c L) (hL:TkL L) (ht:Lib.TabBelow Tryz.prog w.heap.size w "surveyor/lexer.classes" .u8 jaH) (hev:EvAt w) :
  Calls Tryz.prog 34 #[.slice ao n c] w fun e w'=>e = .returned (.pointer (some ⟨w.heap.size,0,none⟩))∧At w.heap.size L w' 0 (.ok L)∧Below w.heap.size w w':=by
 have hA:Below w.heap.size w (w.alloc (Obj.cells #[.slice ao n c,.int .i64 0,.int .i64 0,.int .i64 0,.int .i64 0,.slice none 0 0,.map none] 73)):=jN _
 have hs:w.heap.size<(w.alloc (Obj.cells #[.slice ao n c,.int .i64 0,.int .i64 0,.int .i64 0,.int .i64 0,.slice none 0 0,.map none] 73)).heap.size:=by simp
 have c0:(w.alloc (Obj.cells #[.slice ao n c,.int .i64 0,.int .i64 0,.int .i64 0,.int .i64 0,.slice none 0 0,.map none] 73)).cell? ⟨w.heap.size,0,none⟩=some (.slice ao n c):=jav _ _ _ _ rfl _ _ rfl
 have c1:(w.alloc (Obj.cells #[.slice ao n c,.int .i64 0,.int .i64 0,.int .i64 0,.int .i64 0,.slice none 0 0,.map none] 73)).cell? ⟨w.heap.size,1,none⟩=some (.int .i64 0):=jav _ _ _ _ rfl _ _ rfl
 have c2:(w.alloc (Obj.cells #[.slice ao n c,.int .i64 0,.int .i64 0,.int .i64 0,.int .i64 0,.slice none 0 0,.map none] 73)).cell? ⟨w.heap.size,2,none⟩=some (.int .i64 0):=jav _ _ _ _ rfl _ _ rfl
 have c3:(w.alloc (Obj.cells #[.slice ao n c,.int .i64 0,.int .i64 0,.int .i64 0,.int .i64 0,.slice none 0 0,.map none] 73)).cell? ⟨w.heap.size,3,none⟩=some (.int .i64 0):=jav _ _ _ _ rfl _ _ rfl
 have c4:(w.alloc (Obj.cells #[.slice ao n c,.int .i64 0,.int .i64 0,.int .i64 0,.int .i64 0,.slice none 0 0,.map none] 73)).cell? ⟨w.heap.size,4,none⟩=some (.int .i64 0):=jav _ _ _ _ rfl _ _ rfl
 have c5:(w.alloc (Obj.cells #[.slice ao n c,.int .i64 0,.int .i64 0,.int .i64 0,.int .i64 0,.slice none 0 0,.map none] 73)).cell? ⟨w.heap.size,5,none⟩=some (.slice none 0 0):=jav _ _ _ _ rfl _ _ rfl
 have c6:(w.alloc (Obj.cells #[.slice ao n c,.int .i64 0,.int .i64 0,.int .i64 0,.int .i64 0,.slice none 0 0,.map none] 73)).cell? ⟨w.heap.size,6,none⟩=some (.map none):=jav _ _ _ _ rfl _ _ rfl
 have hf:∀ j,(w.alloc (Obj.cells #[.slice ao n c,.int .i64 0,.int .i64 0,.int .i64 0,.int .i64 0,.slice none 0 0,.map none] 73)).frozen? ⟨w.heap.size,j,none⟩=false:=fun j=>World.frozen?_alloc_new _ _ _ _
 have HA:=jD hA;have HS:=jD hs
 have HC:=jD (And.intro c0 (And.intro c1 (And.intro c2 (And.intro c3 (And.intro c4 (And.intro c5 (And.intro c6 hf)))))))
 have HR:=jD hr;have HL:=jD hL;have HT:=jD ht;have HEV:=jD hev;have HN:=jD hn
 clear hA hs c0 c1 c2 c3 c4 c5 c6 hf hr hL ht hev hn
 go_enter Tryz.func34,Tryz.ntmps34
 go_wp2_with (go_at_call 69;refine cM (jeA w.heap.size _ HS) ?_;rintro e w2 ⟨b,rfl,hbR,hbl,hlv,hb2⟩)
 obtain⟨c0,c1,c2,c3,c4,c5,c6,hf⟩:=HC.out
 have f5:w2.frozen? ⟨w.heap.size,5,none⟩=false:=(hb2.frozen (p:=⟨w.heap.size,5,none⟩) HS).trans (hf 5)
 have f6:w2.frozen? ⟨w.heap.size,6,none⟩=false:=(hb2.frozen (p:=⟨w.heap.size,6,none⟩) HS).trans (hf 6)
 have y5:w2.cell? ⟨w.heap.size,5,none⟩=some (.slice none 0 0):=(hb2.cell (p:=⟨w.heap.size,5,none⟩) HS).trans c5
 have H2:=jD hb2;have HB:=jD (And.intro hbR (And.intro hbl hlv));have HF:=jD f6
 clear c0 c1 c2 c3 c4 c5 c6 hf hbR hbl hlv hb2 f6
 refine jD ?_
 go_wp2_with (go_at_call 70;refine cM (jei w.heap.size _) ?_;rintro e w3 ⟨rfl,hq,hm,hml,hb3⟩)
 have hs2:w.heap.size<w2.heap.size:=Nat.lt_of_lt_of_le HS H2.out.size
 have hz:(w2.setCell ⟨w.heap.size,5,none⟩ (.slice (some ⟨b,0,none⟩) 8 8)).heap.size=w2.heap.size:=by simp
 rw[hz] at hq hm hml
 have hs3:w.heap.size<(w2.setCell ⟨w.heap.size,5,none⟩ (.slice (some ⟨b,0,none⟩) 8 8)).heap.size:=by rw[hz];exact hs2
 have f6:w3.frozen? ⟨w.heap.size,6,none⟩=false:=(hb3.frozen (p:=⟨w.heap.size,6,none⟩) hs3).trans ((World.frozen?_setCell _ _ _ _).trans HF)
 have o2:∀ j:Nat,j≠5→(w2.setCell ⟨w.heap.size,5,none⟩ (.slice (some ⟨b,0,none⟩) 8 8)).cell? ⟨w.heap.size,j,none⟩=w2.cell? ⟨w.heap.size,j,none⟩:=fun j hj=>World.cell?_setCell_other w2 ⟨w.heap.size,5,none⟩ ⟨w.heap.size,j,none⟩ _ (fun e=>hj (by cases e;rfl))
 have s5:(w2.setCell ⟨w.heap.size,5,none⟩ (.slice (some ⟨b,0,none⟩) 8 8)).cell? ⟨w.heap.size,5,none⟩=some (.slice (some ⟨b,0,none⟩) 8 8):=jbJ y5 _
 have k2:Kept (·≠w.heap.size) w2 (w2.setCell ⟨w.heap.size,5,none⟩ (.slice (some ⟨b,0,none⟩) 8 8)):=(Kept.refl _ w2).setCell ⟨w.heap.size,5,none⟩ (fun h=>h rfl) _
 obtain⟨c0,c1,c2,c3,c4,c5,c6,hf⟩:=HC.out
 have g:∀ j v,j≠5→(w.alloc (Obj.cells #[.slice ao n c,.int .i64 0,.int .i64 0,.int .i64 0,.int .i64 0,.slice none 0 0,.map none] 73)).cell? ⟨w.heap.size,j,none⟩=some v→w3.cell? ⟨w.heap.size,j,none⟩=some v:=fun j v hj h=>(hb3.cell (p:=⟨w.heap.size,j,none⟩) hs3).trans ((o2 j hj).trans ((H2.out.cell (p:=⟨w.heap.size,j,none⟩) HS).trans h))
 have x6:=g 6 _ (by decide) c6
 have G:=jD (And.intro (g 0 _ (by decide) c0) (And.intro (g 1 _ (by decide) c1) (And.intro (g 2 _ (by decide) c2) (And.intro (g 3 _ (by decide) c3) (g 4 _ (by decide) c4)))))
 have G5:=jD ((hb3.cell (p:=⟨w.heap.size,5,none⟩) hs3).trans s5)
 have GF:Hid (∀ j,w3.frozen? ⟨w.heap.size,j,none⟩=false):=jD (fun j=>(hb3.frozen (p:=⟨w.heap.size,j,none⟩) hs3).trans ((World.frozen?_setCell _ _ _ _).trans ((H2.out.frozen (p:=⟨w.heap.size,j,none⟩) HS).trans (hf j))))
 have K3:=jD (k2.trans (Kept.of_below hb3));have HQ:=jD hq;have HM:=jD hm;have HML:=jD hml;have HS2:=jD hs2
 have HBW:Hid (Below w.heap.size w w3):=jD ⟨hb3.os.trans (H2.out.os.trans HA.out.os),hb3.tape.trans (H2.out.tape.trans HA.out.tape),hb3.output.trans (H2.out.output.trans HA.out.output),by have:=hb3.size;have:=H2.out.size;have:=HS.out;omega,fun k hk=>by
  have h9:=H2.out.size
  have h8:=HS.out
  exact(hb3.block k (by omega)).trans ((k2.block k (Nat.ne_of_lt hk) (by omega)).trans ((H2.out.block k (by omega)).trans (HA.out.block k hk)))⟩
 clear c0 c1 c2 c3 c4 c5 c6 hf o2 s5 k2 g hq hm hml hb3 hs2 hs3 hz y5 f5
 refine jD ?_
 go_wp2
 go_ret
 have x6':=x6
 have o3:∀ j:Nat,j≠6→(w3.setCell ⟨w.heap.size,6,none⟩ (.map (some (w2.heap.size+1)))).cell? ⟨w.heap.size,j,none⟩=w3.cell? ⟨w.heap.size,j,none⟩:=fun j hj=>World.cell?_setCell_other w3 ⟨w.heap.size,6,none⟩ ⟨w.heap.size,j,none⟩ _ (fun e=>hj (by cases e;rfl))
 have s6:(w3.setCell ⟨w.heap.size,6,none⟩ (.map (some (w2.heap.size+1)))).cell? ⟨w.heap.size,6,none⟩=some (.map (some (w2.heap.size+1))):=jbJ x6' _
 have k3:Kept (·≠w.heap.size) w3 (w3.setCell ⟨w.heap.size,6,none⟩ (.map (some (w2.heap.size+1)))):=(Kept.refl _ w3).setCell ⟨w.heap.size,6,none⟩ (fun h=>h rfl) _
 have k2:=K3.out.trans k3
 have hbf:Below w.heap.size w (w3.setCell ⟨w.heap.size,6,none⟩ (.map (some (w2.heap.size+1)))):=⟨HBW.out.os,HBW.out.tape,HBW.out.output,Nat.le_trans HBW.out.size k3.size,fun k hk=>(k3.block k (Nat.ne_of_lt hk) (Nat.lt_of_lt_of_le hk HBW.out.size)).trans (HBW.out.block k hk)⟩
 have hfr:∀ j,(w3.setCell ⟨w.heap.size,6,none⟩ (.map (some (w2.heap.size+1)))).frozen? ⟨w.heap.size,j,none⟩=false:=fun j=>(World.frozen?_setCell _ _ _ _).trans (GF.out j)
 have hls:w.heap.size<(w3.setCell ⟨w.heap.size,6,none⟩ (.map (some (w2.heap.size+1)))).heap.size:=Nat.lt_of_lt_of_le (Nat.lt_of_lt_of_le HS2 K3.out.size) k3.size
 obtain⟨g0,g1,g2,g3,g4⟩:=G.out
 obtain⟨hbR,hbl,hlv⟩:=HB.out
 obtain⟨bb,oo,hao,hbb,hcells⟩:=HR.out.2.2.resolve_left HL.out.pos
 have hn:=HN.out
 refine⟨rfl,⟨⟨HL.out,hls,?_,?_,?_,?_⟩,?_⟩,hbf⟩
 ·exact fun W hW=>HT.out W (hbf.trans hW)
 ·intro k hk
  obtain⟨e1,ev,e2,e3⟩:=HEV.out k hk
  exact⟨Nat.ne_of_lt e1,Nat.lt_trans e1 hls,ev,(hbf.cell (p:=⟨k,0,none⟩) e1).trans e2,e3⟩
 ·refine⟨b,(o3 5 (by decide)).trans G5,hbR,Nat.lt_of_lt_of_le hbl k2.size,fun i hi=>?_⟩
  obtain⟨e1,v,e2,e3⟩:=hlv i hi
  exact⟨(k2.cell (p:=⟨b,2 * i,none⟩) hbR hbl).trans e1,v,(k2.cell (p:=⟨b,2 * i+1,none⟩) hbR hbl).trans e2,e3.kept k2⟩
 ·have hq1:w2.heap.size≠w.heap.size:=Nat.ne_of_gt HS2
  have hq2:w2.heap.size+1≠w.heap.size:=by have:=HS2.out;omega
  refine⟨w2.heap.size+1,_,5,s6,hq2,Nat.lt_of_lt_of_le HML k3.size,(k3.block _ hq2 HML).trans HM,0,1,2,3,4,w2.heap.size,hq1,Nat.lt_of_lt_of_le (Nat.lt_of_succ_lt HML) k3.size,(k3.cell (p:=⟨w2.heap.size,0,none⟩) hq1 (Nat.lt_of_succ_lt HML)).trans HQ,rfl⟩
 ·refine⟨0,0,0,List.length_pos_iff.mpr HL.out.pos,⟨⟨bb,oo,c,?_,?_,Nat.ne_of_lt hbb,Nat.lt_trans hbb hls⟩,(o3 1 (by decide)).trans g1,(o3 2 (by decide)).trans g2,(o3 3 (by decide)).trans g3,(o3 4 (by decide)).trans g4,hls,hfr,HL.out.pos⟩,.inl ⟨rfl,rfl,by rw[List.drop_zero]⟩⟩
  ·rw[←hao,←hn]
   exact(o3 0 (by decide)).trans g0
  ·rw[←hao]
   exact HR.out.keep hbf
end Go.Proofs.YtenmmmdnpglkoaaGreatDoor

namespace Go.Proofs.YtenmmmdnpglkoaaGreatDoor
open Go Go.Proofs Go.RowKit
theorem lexOwn:ownKnob Tryz.prog.godebug=none:=by kernel_rfl
theorem gCls:Tryz.prog.globalNamed "surveyor/lexer.classes" = some 1:=by kernel_rfl
theorem jjW:(Tryz.prog.globals[1]?).map (·.type)=some 113:=by kernel_rfl
theorem jkz:Tryz.prog.globalNamed "strconv.ErrRange" = some 3:=by kernel_rfl
theorem jie:(Tryz.prog.globals[3]?).map (·.type)=some 61:=by kernel_rfl
theorem jiR:Tryz.prog.globalNamed "strconv.ErrSyntax" = some 2:=by kernel_rfl
theorem jgV:(Tryz.prog.globals[2]?).map (·.type)=some 61:=by kernel_rfl
theorem jk0 (u:TypeId) (h:Tryz.prog.typeName? 3 u=some "*errors.errorString"):u=143:=by
 have star : "*" ++ "errors.errorString" = "*errors.errorString" :=by decide
 exact typeName_ptr_named (nm:= "errors.errorString") (by rw[star];kernel_rfl) (by kernel_rfl) (by decide) u (by rw[star];exact h)
theorem jh9:Tryz.prog.cellsOf 145=1:=by kernel_rfl
theorem jhA:Tryz.prog.cellsOf 9=1:=by kernel_rfl
def jgW:List (String×DataW Unit):=[("math/bits.deBruijn32tab",Rows.laid_math_bits_deBruijn32tab),("math/bits.deBruijn64tab",Rows.laid_math_bits_deBruijn64tab),("internal/strconv.uint64pow10",Rows.laid_internal_strconv_uint64pow10),("strconv.ErrRange",Rows.laid_strconv_ErrRange),("strconv.ErrSyntax",Rows.laid_strconv_ErrSyntax),("surveyor/lexer.classes",Rows.laid_surveyor_lexer_classes)]
theorem jlj {W:World} (h:laidMetH Tryz.prog jgW W):Lib.TabIs Tryz.prog W "surveyor/lexer.classes" .u8 jaH∧EvAt W:=by
 rw[MakeChecks.laidMetH_plain _ _ _ (by kernel_rfl)] at h
 have h4:laidMet Tryz.prog [("strconv.ErrRange",Rows.laid_strconv_ErrRange),("strconv.ErrSyntax",Rows.laid_strconv_ErrSyntax),("surveyor/lexer.classes",Rows.laid_surveyor_lexer_classes)] W:=h.tail.tail.tail
 have h5:laidMet Tryz.prog [("strconv.ErrSyntax",Rows.laid_strconv_ErrSyntax),("surveyor/lexer.classes",Rows.laid_surveyor_lexer_classes)] W:=h4.tail
 have h6:laidMet Tryz.prog [("surveyor/lexer.classes",Rows.laid_surveyor_lexer_classes)] W:=h5.tail
 obtain⟨a1,s1,hv1,-⟩:=laid_sentinel h4 jkz jie Tryz.underlying61 jk0 Tryz.underlying143 Tryz.underlying145 rfl rfl Tryz.underlying9 jh9 jhA
 obtain⟨a2,s2,hv2,-⟩:=laid_sentinel h5 jiR jgV Tryz.underlying61 jk0 Tryz.underlying143 Tryz.underlying145 rfl rfl Tryz.underlying9 jh9 jhA
 have c1:W.cell? ⟨3,0,none⟩=some (.iface 143 (.pointer (some a1))):=by simpa using World.var?_cell jkz hv1 0
 have c2:W.cell? ⟨2,0,none⟩=some (.iface 143 (.pointer (some a2))):=by simpa using World.var?_cell jiR hv2 0
 have lt:∀ (k:Nat) (v:Value),W.cell? ⟨k,0,none⟩=some v→k<W.heap.size:=fun k v e=>by
  rcases Nat.lt_or_ge k W.heap.size with q|q
  ·exact q
  ·simp[World.cell?,Array.getElem?_eq_none q] at e
 refine⟨Lib.tabIs_of_head gCls jjW Tryz.underlying113 Tryz.underlying5 (by kernel_rfl) (by kernel_rfl) h6,fun k hk=>?_⟩
 rcases hk with rfl|rfl
 ·exact⟨lt _ _ c2,_,c2,.inr ⟨_,_,rfl⟩⟩
 ·exact⟨lt _ _ c1,_,c1,.inr ⟨_,_,rfl⟩⟩
theorem jmF (os:Os) (args:Array Value):laidMetH Tryz.prog jgW ((World.laidAll Tryz.prog os jgW).forCall (fun _ _=>0) ⟨#[],args,[]⟩).memory:=by
 rw[MakeChecks.laidMetH_plain _ _ _ (by kernel_rfl)]
 exact laidMet_laidAll _ (by kernel_rfl) (by kernel_rfl)
theorem jlk {H:Type} {enc:TypeId×Value→H} {a:Assume} {C:Checked} {os:Os} {f:FuncId} {fn:Func} {s:ChangeSpec} {conds:List PathCond} {apart fresh handsOn again:Bool} {X:World→Array Value→Prop}
  (hX:∀ (v v':World) (args:Array Value),v.heap=v'.heap→X v args→X v' args)
  (hown:ownKnob C.prog.godebug=none) (started:os.Started) (noInit:C.prog.inits.idxOf? f=none) (hfn:C.prog.funcs[f]? = some fn)
  (witness:∃ (v:World) (tape:Tape) (i:Input),v.os=os∧(v.forCall tape i).Shaped C.prog∧i.vars=[]∧Input.okWide C.prog (v.forCall tape i) .any v.heap.size f i ∧
   ((s.pre enc C.prog fn conds apart (v.forCall tape i).memory i.args∧X (v.forCall tape i).memory i.args)∧sizedMet enc C.prog fn (OpenSpec.ofChange s) apart (v.forCall tape i).memory i.args)∧a.holds C.prog (lone (Frame.enter C.prog f i.args .normal) [] (v.forCall tape i)))
  (contract:∀ (W:World) (base:Nat) (args:Array Value) (ds gs:List (DataW H)) (before:List MemPlace),
   (∀ (j:Nat) t v,fn.params[j]? = some t→args[j]? = some v→Value.okWide C.prog W .any base t v) →
   DataW.Whole enc C.prog fn.params.toList s.vars apart W args.toList ds gs before→X W args→W.ShapedOpen C.prog →
   Calls C.prog f args W fun e W'=>∃ v,e = .returned v∧s.post enc C.prog fn apart fresh handsOn again W args v W') :
  ReturnsInHanded a C os f .any (fun v args=>(s.pre enc C.prog fn conds apart v args∧X v args)∧sizedMet enc C.prog fn (OpenSpec.ofChange s) apart v args) (s.post enc C.prog fn apart fresh handsOn again):=by
 refine returnsInHanded_of_calls hown started noInit witness ?_
 intro v tape i _ hsh _ hin hpre _
 obtain⟨_,_,_,g,hg,_,_,_,_,hval⟩:=hin
 obtain rfl:g=fn:=Option.some.inj (hg.symm.trans hfn)
 obtain⟨⟨⟨ds,gs,before,hw,-⟩,hx⟩,-⟩:=hpre
 refine(contract (v.forCall tape i) v.heap.size i.args ds gs before hval (DataW.Whole.of_heap (by rfl) hw) (hX _ _ _ (by rfl) hx) hsh).mono fun e W' ⟨r,he,hq⟩=>?_
 subst he
 exact ChangeSpec.post_blind hq
theorem jjC:(Tryz.prog.info? 9).map (fun i=>(i.zero,i.size,i.bytes))=some (some (.string ⟨#[]⟩),1,16):=by kernel_rfl
def WRow (W:World) (b c:Nat) (l:List ByteArray):Prop:=
 l.length≤c∧c≤maxLen∧b<W.heap.size∧∀ j,j<l.length→W.cell? ⟨b,j,none⟩=some (.string (l.getD j ⟨#[]⟩))
theorem WRow.keep {W W':World} {b c:Nat} {l:List ByteArray} (h:WRow W b c l) (hb:Below W.heap.size W W'):WRow W' b c l:=by
 obtain⟨h1,h2,h3,h4⟩:=h
 exact⟨h1,h2,Nat.lt_of_lt_of_le h3 hb.size,fun j hj=>(hb.cell (p:=⟨b,j,none⟩) h3).trans (h4 j hj)⟩
theorem WRow.of_owns {W:World} {B g cap:Nat} {l:List ByteArray} (h:W.ownsRow B 9 1 (.slice (some ⟨g,0,none⟩) l.length cap) l.length (l.map Value.string)):WRow W g cap l:=by
 rcases h.2 with ⟨e,h0⟩|⟨g2,cap2,cur,e,-,hg,h1,h2,h3,h4⟩
 ·cases e
 ·cases e
  refine⟨h1,h2,(Array.getElem?_eq_some_iff.1 hg).1,fun j hj=>?_⟩
  have hc:(l.map Value.string)[j]? = some (.string (l.getD j ⟨#[]⟩)):=by
   rw[List.getElem?_map,List.getD_eq_getElem?_getD,List.getElem?_eq_getElem hj];rfl
  rw[←h4,List.getElem?_take_of_lt (by omega)] at hc
  simp only[World.cell?,hg]
  simpa using hc
theorem jjD (W:World) (A:Obj) {b j:Nat} (h:b<W.heap.size):(W.alloc A).cell? ⟨b,j,none⟩=W.cell? ⟨b,j,none⟩:=((Below.refl W.heap.size W).alloc (jrr _) A).cell (p:=⟨b,j,none⟩) h
theorem jgc (w:World) :
  Calls Tryz.prog 152 #[] w fun e w'=>∃ g cap,e = .returned (.slice (some ⟨g,0,none⟩) 19 cap)∧WRow w' g cap jaU∧Below w.heap.size w w':=by
 obtain⟨i0,hi,hz0,hz1,hz2⟩:=info_parts jjC
 have HH:=jD (And.intro hi (And.intro hz0 (And.intro hz1 hz2)))
 have hA:=(Below.refl w.heap.size w).alloc (jrr _) (Obj.cells ((jaU.take 10).map Value.string).toArray 9)
 have hB:=hA.alloc (by simp) (Obj.cells ((jaU.drop 10).map Value.string).toArray 9)
 have HB:=jD hB
 clear hi hz0 hz1 hz2 hA hB
 go_enter Tryz.func152,Tryz.ntmps152
 go_wp2_with (first|(at_builtin;refine wpList_append_grows _ rfl (.tmp 3) (.tmp 4) 101 rfl 9 i0 _ 1 16 Tryz.underlying101 HH.out.1 HH.out.2.1 HH.out.2.2.1 HH.out.2.2.2 rfl (by decide) (some ⟨w.heap.size,0,none⟩) 10 10 ((jaU.take 10).map Value.string) (by simp[Act.eval,Act.put]) (by intro h;cases h) (by decide) (by intro b hb j u hu;cases hb;rw[jb5];exact(jjD _ _ (by simp)).trans ((World.cell?_alloc_new _ _ _ _).trans (by rw[←List.getElem?_toArray] at hu;exact hu))) ⟨w.heap.size+1,0,none⟩ 9 9 ((jaU.drop 10).map Value.string) (by simp[Act.eval,Act.put]) (by decide) (by intro j u hu;rw[jb5,show w.heap.size+1=(w.alloc (Obj.cells ((jaU.take 10).map Value.string).toArray 9)).heap.size by simp];exact(World.cell?_alloc_new _ _ _ _).trans (by rw[←List.getElem?_toArray] at hu;exact hu)) (by intro u hu;simp[jaU] at hu;rcases hu with rfl|rfl|rfl|rfl|rfl|rfl|rfl|rfl|rfl<;>rfl) (by decide) (by decide) (by decide) ?_;intro v6 w6 ho6 hg6;refine Hid.out ?_)|fail)
 have hw6:Hid (∃ g cap,v6 = .slice (some ⟨g,0,none⟩) 19 cap∧WRow w6 g cap jaU):=by
  rcases ho6.2 with ⟨-,h0⟩|⟨g,cap,cur,e,hr⟩
  ·exact absurd h0 (by decide)
  ·subst e
   exact jD ⟨g,cap,rfl,WRow.of_owns (l:=jaU) ho6⟩
 have hb6:=jD (HB.out.grown hg6 HB.out.size (fun b hb=>by cases hb))
 clear ho6 hg6
 obtain⟨g,cap,rfl,hr⟩:=hw6.out
 have HR:=jD hr
 clear hr hw6
 refine jD ?_
 go_wp2
 go_ret
 exact⟨g,cap,rfl,HR.out,hb6.out⟩
theorem jgd (s:ByteArray) (hs:s.size≤9223372036854775807) (w:World) :
  Calls Tryz.prog 143 #[.string s] w fun e w'=>e = .returned (.bool (Lib.containsS jaU s))∧Below w.heap.size w w':=by
 have CW:=jgc w
 have hbad:∀ j,j<19→(jaU.getD j ⟨#[]⟩).toList==s.toList→Lib.containsS jaU s=true:=fun j hj h=>by
  rw[Lib.containsS_iff]
  have e:=(Lib.bytes_beq_iff _ _).1 h
  rw[←e,List.getD_eq_getElem?_getD,List.getElem?_eq_getElem (show j<jaU.length from hj)]
  exact List.getElem_mem _
 have hgood:(∀ j,j<19→((jaU.getD j ⟨#[]⟩).toList==s.toList)=false)→Lib.containsS jaU s=false:=fun h=>by
  rw[←Bool.not_eq_true,Lib.containsS_iff]
  intro hm
  obtain⟨j,hj,e⟩:=List.mem_iff_getElem.1 hm
  have:=h j hj
  rw[List.getD_eq_getElem?_getD,List.getElem?_eq_getElem hj] at this
  exact(Lib.bytes_beq_false_iff _ _).1 this e
 generalize Lib.containsS jaU s=r at *
 have KW:=jD CW;have HBAD:=jD hbad;have HGOOD:=jD hgood;have HSZ:=jD hs
 clear CW hbad hgood hs
 go_enter Tryz.func143,Tryz.ntmps143
 go_wp2_with (go_at_call 152;refine KW.out.mono ?_;rintro e w1 ⟨g,cap,rfl,hr1,hb1⟩;refine Hid.out ?_)
 have HR1:=jD hr1;have HB1:=jD hb1
 clear hr1 hb1
 refine jD ?_
 go_wp2_with fail
 go_loopw [4] (fun iv wr=>∃ j:Nat,j≤19∧iv = .int .i64 (j:Int)∧(∀ i,i<j→((jaU.getD i ⟨#[]⟩).toList==s.toList)=false)∧wr=w1) (fun iv _=>19-(intOf iv).toNat)
 case atStart=>exact⟨0,Nat.zero_le _,rfl,fun i h=>absurd h (Nat.not_lt_zero _),rfl⟩
 case round=>
  obtain⟨j,hj,rfl,hg,hw⟩:=hrel
  subst hw
  by_cases hlt:j<19
  ·obtain⟨c1,c2,c3,c4⟩:=HR1.out
   have hcell:=c4 j hlt
   have ej:wrap64 ((j:Int)+1)=(j:Int)+1:=by unfold wrap64;omega
   have g0:(0:Int)≤(j:Int):=by omega
   have g1:(j:Int)<19:=by omega
   have hbad:=HBAD.out j hlt
   have hstep:((jaU.getD j ⟨#[]⟩).toList==s.toList)=false→∀ i,i<j+1→((jaU.getD i ⟨#[]⟩).toList==s.toList)=false:=fun h i hi=>by
    rcases Nat.lt_or_ge i j with q|q
    ·exact hg i q
    ·obtain rfl:i=j:=by omega
     exact h
   have HST:=jD hstep;have HJ:=jD hlt
   clear c1 c2 c3 c4 hstep hg hj hlt
   generalize jaU.getD j ⟨#[]⟩=x at *
   generalize hq:(x.toList==s.toList)=q at *
   cases q
   ·have hg2:=HST.out rfl
    have HG2:=jD hg2
    clear hg2 hbad
    go_wp2
    go_roundw
    case rel=>exact⟨j+1,by have:=HJ.out;omega,(by first|exact congrArg (Value.int .i64) (Int.natCast_add j 1).symm|exact congrArg (Value.int .i64) (ej.trans (Int.natCast_add j 1).symm)),HG2.out,by trivial⟩
    case measure=>have:=HJ.out;first|(show 19-((j:Int)+1).toNat<19-((j:Int)).toNat;omega)|(rw[ej];show 19-((j:Int)+1).toNat<19-((j:Int)).toNat;omega)
   ·have hr:=hbad rfl
    have HR:=jD hr
    clear hr hbad
    go_wp2
    go_ret
    exact⟨congrArg (fun z=>Ending.returned (.bool z)) HR.out.symm,HB1.out⟩
  ·obtain rfl:j=19:=by omega
   have hr:=HGOOD.out hg
   have HR:=jD hr
   clear hr hg hj hlt
   go_wp2
   go_ret
   exact⟨congrArg (fun z=>Ending.returned (.bool z)) HR.out.symm,HB1.out⟩
theorem jgJ (s:ByteArray) (hs:s.size≤9223372036854775807) (w:World) :
  Calls Tryz.prog 117 #[.string s] w fun e w'=>e = .returned (.int .i64 (nmE s:Nat))∧Below w.heap.size w w':=by
 have CL:=jfq (jaa s 0) (jbc s 0)
 have CW:=fun W=>jew s hs W
 have CR:=fun W=>jgd s hs W
 have hb0:((bytes s).getD 0 0).toNat=jaa s 0:=rfl
 have hl:(bytes s).length=s.size:=rfl
 unfold nmE iwB
 rw[hl,hb0]
 by_cases hz:s.size=0
 ·obtain rfl:=jbL hz
  rw[if_neg (by rintro⟨h,-⟩;revert h;decide)]
  clear CL CW CR hz hs hb0 hl
  go_enter Tryz.func117,Tryz.ntmps117
  go_wp2
  go_ret
  exact⟨rfl,Below.refl _ _⟩
 have hp:0<s.size:=by omega
 have hb:=ja7 s 0 hp
 have g2:(0:Int)<(s.size:Int):=by omega
 have bz:((s.size:Int)==0)=false:=by rw[beq_eq_false_iff_ne];omega
 rw[decide_eq_true hp,Bool.true_and]
 generalize wl (bytes s)=n at *
 generalize Lib.containsS jaU s=r at *
 generalize hq:decide (cls (jaa s 0)=3)=v3 at *
 generalize jaa s 0=b at *
 have KL:=jD CL;have KW:=jD CW;have KR:=jD CR;have HQ:=jD hq;have HZ:=jD hz;have HSZ:=jD hs
 clear CL CW CR hq hz hs hb0 hl
 cases v3
 ·rw[Bool.false_and,Bool.and_false,if_neg (by rintro⟨h,-⟩;cases h)]
  go_enter Tryz.func117,Tryz.ntmps117
  go_wp2_with (go_at_call 81;refine(KL.out _).mono ?_;rintro e w3 ⟨rfl,h⟩;subst h;refine Hid.out ?_)
  refine jD ?_
  go_wp2
  go_ret
  exact⟨rfl,Below.refl _ _⟩
 rw[Bool.true_and]
 by_cases hn:n=s.size
 ·have tn1:((n:Int) != (s.size:Int))=false:=by rw[bne_eq_false_iff_eq];omega
  have tn2:((n:Int)==(s.size:Int))=true:=by rw[beq_iff_eq];omega
  rw[decide_eq_true hn,Bool.and_true]
  by_cases h24:s.size≤24
  ·have t24:decide ((24:Int)<(s.size:Int))=false:=by rw[decide_eq_false_iff_not];omega
   rw[decide_eq_true h24]
   have HN:=jD hn;have H24:=jD h24
   clear hn h24
   cases r
   ·rw[if_pos ⟨rfl,rfl⟩]
    go_enter Tryz.func117,Tryz.ntmps117
    go_wp2_with (go_at_call 81;refine(KL.out _).mono ?_;rintro e w3 ⟨rfl,h⟩;subst h;refine Hid.out ?_)
    refine jD ?_
    go_wp2_with (go_at_call 43;refine(KW.out _).mono ?_;rintro e w3 ⟨rfl,h⟩;subst h;refine Hid.out ?_)
    refine jD ?_
    go_wp2_with (go_at_call 143;refine(KR.out _).mono ?_;rintro e w4 ⟨rfl,hb4⟩;refine Hid.out ?_)
    have HB4:=jD hb4;clear hb4
    refine jD ?_
    go_wp2
    go_ret
    exact⟨rfl,HB4.out⟩
   ·rw[if_neg (by rintro⟨-,h⟩;cases h)]
    go_enter Tryz.func117,Tryz.ntmps117
    go_wp2_with (go_at_call 81;refine(KL.out _).mono ?_;rintro e w3 ⟨rfl,h⟩;subst h;refine Hid.out ?_)
    refine jD ?_
    go_wp2_with (go_at_call 43;refine(KW.out _).mono ?_;rintro e w3 ⟨rfl,h⟩;subst h;refine Hid.out ?_)
    refine jD ?_
    go_wp2_with (go_at_call 143;refine(KR.out _).mono ?_;rintro e w4 ⟨rfl,hb4⟩;refine Hid.out ?_)
    have HB4:=jD hb4;clear hb4
    refine jD ?_
    go_wp2
    go_ret
    exact⟨rfl,HB4.out⟩
  ·have t24:decide ((24:Int)<(s.size:Int))=true:=by rw[decide_eq_true_iff];omega
   rw[decide_eq_false h24,if_neg (by rintro⟨h,-⟩;cases h)]
   have HN:=jD hn;have H24:=jD h24
   clear hn h24
   go_enter Tryz.func117,Tryz.ntmps117
   go_wp2_with (go_at_call 81;refine(KL.out _).mono ?_;rintro e w3 ⟨rfl,h⟩;subst h;refine Hid.out ?_)
   refine jD ?_
   go_wp2_with (go_at_call 43;refine(KW.out _).mono ?_;rintro e w3 ⟨rfl,h⟩;subst h;refine Hid.out ?_)
   refine jD ?_
   go_wp2
   go_ret
   exact⟨rfl,Below.refl _ _⟩
 ·have tn1:((n:Int) != (s.size:Int))=true:=by rw[bne_iff_ne];omega
  have tn2:((n:Int)==(s.size:Int))=false:=by rw[beq_eq_false_iff_ne];omega
  rw[decide_eq_false hn,Bool.and_false,if_neg (by rintro⟨h,-⟩;cases h)]
  have HN:=jD hn
  clear hn
  go_enter Tryz.func117,Tryz.ntmps117
  go_wp2_with (go_at_call 81;refine(KL.out _).mono ?_;rintro e w3 ⟨rfl,h⟩;subst h;refine Hid.out ?_)
  refine jD ?_
  go_wp2_with (go_at_call 43;refine(KW.out _).mono ?_;rintro e w3 ⟨rfl,h⟩;subst h;refine Hid.out ?_)
  refine jD ?_
  go_wp2
  go_ret
  exact⟨rfl,Below.refl _ _⟩
end Go.Proofs.YtenmmmdnpglkoaaGreatDoor

namespace Go.Proofs.YtenmmmdnpglkoaaGreatDoor
open Go Go.Proofs Go.RowKit Go.Sort
structure TkR (L:List Tk):Prop where
 toks:TkL L
 mid:∀ n,n+1<L.length→(tkD L n).k≠3
 num:∀ n,(tkD L n).k=1→bytes (tkD L n).t≠[40]∧bytes (tkD L n).t≠jc6∧bytes (tkD L n).t≠jbH
def rIs (st:RSt) (s:List UInt8):Bool:=match st with
 |.ok l=>pIs s l
 |.bad ..=>false
def rNx (st:RSt) (s:List UInt8):Bool:=match st with
 |.ok l=>jbU l==s
 |.bad ..=>false
def rNm (st:RSt):Bool:=match st with
 |.ok l=>ja5 (pHd l)
 |.bad ..=>false
def levS (st:RSt) (d:Nat):RSt:=match st with
 |.ok l=>if d=64 then .bad (pHd l).a 12 else .ok l
 |s=>s
structure FxR (R:Nat) (L:List Tk) (W:World):Prop where
 toks:TkR L
 lt:R<W.heap.size
def RsR (R:Nat) (L:List Tk) (W:World) (d:Nat) (st:RSt):Prop:=
 ∃ (nx:Nat) (op er a:Int),nx<L.length∧RdAt W R L nx op er a∧((er=0∧op=d∧st = .ok (L.drop nx))∨(er≠0∧∃ e:Nat,er=e∧st = .bad a e))
structure Rf (R:Nat) (L:List Tk) (W:World) (d:Nat) (st:RSt):Prop where
 fix:FxR R L W
 rs:RsR R L W d st
theorem FxR.butt {R:Nat} {L:List Tk} {W W':World} (h:FxR R L W) (hb:Butt R W W'):FxR R L W':=⟨h.toks,Nat.lt_of_lt_of_le h.lt hb.size⟩
theorem RsR.below {R d:Nat} {L:List Tk} {W W':World} {st:RSt} (h:RsR R L W d st) (hb:Below W.heap.size W W'):RsR R L W' d st:=by
 obtain⟨nx,op,er,a,h1,h2,h3⟩:=h
 exact⟨nx,op,er,a,h1,h2.keep hb,h3⟩
theorem Rf.below {R d:Nat} {L:List Tk} {W W':World} {st:RSt} (h:Rf R L W d st) (hb:Below W.heap.size W W'):Rf R L W' d st:=⟨h.fix.butt (Butt.of_below h.fix.lt hb),h.rs.below hb⟩
theorem Rf.alloc {R d:Nat} {L:List Tk} {W:World} {st:RSt} (h:Rf R L W d st) (o:Obj):Rf R L (W.alloc o) d st:=h.below (jN o)
theorem Rf.fine {R d:Nat} {L:List Tk} {W:World} {st:RSt} (h:Rf R L W d st):st.fine:=by
 obtain⟨-,nx,op,er,a,h1,h2,h3⟩:=h
 rcases h3 with ⟨-,-,rfl⟩|⟨h4,e,rfl,rfl⟩
 ·exact fun e=>absurd (List.drop_eq_nil_iff.mp e) (by omega)
 ·exact fun e=>h4 (by omega)
section
variable {R:Nat} {L:List Tk} {nx:Nat} {op er a:Int} {w:World}
theorem jgy (h:RdAt w R L nx op er a) (hn:nx<L.length) :
  Calls Tryz.prog 48 #[.pointer (some ⟨R,0,none⟩)] w fun e w'=>e = .returned (.int .i64 (tkD L nx).a)∧Below w.heap.size w w':=by
 obtain⟨⟨b,o,c,r0,r1,r2,r3⟩,c1,c2,c3,c4,c5,c6,c7⟩:=h
 obtain⟨b',o',e',hat⟩:=r1.at c7
 cases e'
 have hfL:=List.length_pos_iff.mpr c7
 have gl:(nx:Int)<(L.length:Int):=by omega
 have g0:(0:Int)≤(nx:Int):=by omega
 obtain⟨d0,d1,d2⟩:=hat nx hn w (Below.refl _ _)
 generalize tkD L nx=T at *
 obtain⟨tk,tt,ta⟩:=T
 dsimp only at *
 generalize L.length=n at *
 clear hat r1 c2 c4 c5 c6 c7 r2 r3 hfL hn
 go_enter Tryz.func48,Tryz.ntmps48
 go_wp2_with fail
 go_quiet (fail)
 go_wp2
 go_ret
 exact⟨rfl,below_drewN (Below.refl _ _) _⟩
def jdl (L:List Tk) (nx:Nat) (er:Int) (n:Nat) (s:ByteArray):Bool:=decide (er=0) && (decide (nx+n<L.length) && (decide ((tkD L (nx+n)).k≠3) && ((tkD L (nx+n)).t.toList==s.toList)))
theorem jf3 (h:RdAt w R L nx op er a) (hn:nx<L.length) (hL:L.length≤100000) (n:Nat) (hk:n≤1) (s:ByteArray) :
  Calls Tryz.prog 83 #[.pointer (some ⟨R,0,none⟩),.int .i64 n,.string s] w fun e w'=>e = .returned (.bool (jdl L nx er n s))∧Below w.heap.size w w':=by
 unfold jdl
 obtain⟨⟨b,o,c,r0,r1,r2,r3⟩,c1,c2,c3,c4,c5,c6,c7⟩:=h
 obtain⟨b',o',e',hat⟩:=r1.at c7
 cases e'
 have hfL:=List.length_pos_iff.mpr c7
 have gl:(nx:Int)<(L.length:Int):=by omega
 have g0:(0:Int)≤(nx:Int):=by omega
 have u1:=jiU ((nx:Int)+(n:Int)) (by omega) (by omega)
 have HR:∀ (v:Bool),Hid (v=v):=fun v=>jD rfl
 by_cases he:er=0
 ·subst he
  by_cases hl:nx+n<L.length
  ·obtain⟨m,hm⟩:∃ m:Nat,nx+n=m:=⟨_,rfl⟩
   rw[hm] at hl ⊢
   rw[show (nx:Int)+(n:Int)=(m:Int) by omega] at u1
   have u0:(nx:Int)+(n:Int)=(m:Int):=by omega
   obtain⟨d0,d1,d2⟩:=hat m hl w (Below.refl _ _)
   have gl2:(m:Int)<(L.length:Int):=by omega
   have g2:(0:Int)≤(m:Int):=by omega
   have q1:decide ((m:Int)<(L.length:Int))=true:=by rw[decide_eq_true_iff];exact gl2
   rw[show decide (m<L.length)=true by rw[decide_eq_true_iff];exact hl]
   generalize tkD L m=T at *
   obtain⟨tk,tt,ta⟩:=T
   dsimp only at *
   generalize L.length=n' at *
   clear hat r1 c2 c4 c5 c6 c7 r2 r3 hfL hn hm hl hL hk gl g0
   by_cases h3:tk=3
   ·subst h3
    go_enter Tryz.func83,Tryz.ntmps83
    go_wp2_with fail
    go_quiet (fail)
    go_wp2
    go_ret
    exact⟨rfl,below_drewN (Below.refl _ _) _⟩
   ·have b3:(tk==(3:Int))=false:=by rw[beq_eq_false_iff_ne];exact h3
    have b4:(tk != (3:Int))=true:=by rw[bne_iff_ne];exact h3
    have b5:decide (tk≠3)=true:=by rw[decide_eq_true_iff];exact h3
    rw[b5]
    go_enter Tryz.func83,Tryz.ntmps83
    go_wp2_with fail
    go_quiet (fail)
    go_wp2
    go_ret
    exact⟨rfl,below_drewN (Below.refl _ _) _⟩
  ·have q1:decide ((nx:Int)+(n:Int)<(L.length:Int))=false:=by rw[decide_eq_false_iff_not];omega
   rw[show decide (nx+n<L.length)=false by rw[decide_eq_false_iff_not];exact hl]
   generalize L.length=n' at *
   clear hat r1 c2 c4 c5 c6 c7 r2 r3 hfL hn hl hL hk gl g0
   go_enter Tryz.func83,Tryz.ntmps83
   go_wp2_with fail
   go_quiet (fail)
   go_wp2
   go_ret
   exact⟨rfl,below_drewN (Below.refl _ _) _⟩
 ·have b1:(er==(0:Int))=false:=by rw[beq_eq_false_iff_ne];exact he
  rw[show decide (er=0)=false by rw[decide_eq_false_iff_not];exact he]
  clear hat r1 c2 c4 c5 c6 c7 r2 r3 hfL hn hL hk gl g0
  go_enter Tryz.func83,Tryz.ntmps83
  go_wp2_with fail
  go_quiet (fail)
  go_wp2
  go_ret
  exact⟨rfl,below_drewN (Below.refl _ _) _⟩
end
end Go.Proofs.YtenmmmdnpglkoaaGreatDoor
