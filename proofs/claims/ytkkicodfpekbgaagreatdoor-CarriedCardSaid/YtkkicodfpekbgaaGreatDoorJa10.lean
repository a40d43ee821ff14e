/-
The program's encoder: the writer in memory; take.
-/
import Derived.Test.YtkkicodfpekbgaaGreatDoorJa9
import Derived.Test.YtkkicodfpekbgaaGreatDoorJa8
import Derived.Deep.RegionHeldLaw
namespace Go.Proofs.YtkkicodfpekbgaaGreatDoor
open Go.RowKit
set_option linter.unusedSimpArgs false
set_option linter.unusedVariables false
set_option maxRecDepth 100000
set_option maxHeartbeats 8000000
def bcells(t:ByteArray):List Value:=t.data.toList.map fun b=> .int .u8 (b.toNat:Int)
def ewObj(a:Option Addr)(n c:Nat)(ta:Option Addr)(tn tc x:Nat)(tv:Value)(lg:Bool)(ov:Value):Obj:= .cells #[.slice a n c,.slice ta tn tc,.int .i64 x,tv,.bool lg,ov] 140 (0,0)
structure EwD(W w:World)(R:Nat)(a:Option Addr)(n c:Nat)(ta:Option Addr)(tn tc x:Nat)(told:ByteArray)(lg:Bool)(ov:Value):Prop where
 bel:Below W.heap.size W w
 lo:W.heap.size≤R
 own:∃tv,w.heap[R]? =some (ewObj a n c ta tn tc x tv lg ov)∧w.ownsRow W.heap.size 5 1 tv told.size (bcells told)
theorem EwD.below{W w w':World}{R:Nat}{a:Option Addr}{n c:Nat}{ta:Option Addr}{tn tc x:Nat}{told:ByteArray}{lg:Bool}{ov:Value}(h:EwD W w R a n c ta tn tc x told lg ov)(hb:Below w.heap.size w w'):EwD W w' R a n c ta tn tc x told lg ov:=by
 obtain⟨tv,h1,h2⟩:=h.own
 exact⟨h.bel.trans (hb.mono h.bel.size),h.lo,tv,block_below h1 hb,own_below h2 hb⟩
theorem EwD.setNext{W w:World}{R:Nat}{a:Option Addr}{n c:Nat}{ta:Option Addr}{tn tc x:Nat}{told:ByteArray}{lg:Bool}{ov:Value}(h:EwD W w R a n c ta tn tc x told lg ov)(y:Nat):EwD W (w.setCell ⟨R,2,none⟩ (.int .i64 y)) R a n c ta tn tc y told lg ov:=by
 obtain⟨tv,h1,h2⟩:=h.own
 exact⟨h.bel.setCell (p:=⟨R,2,none⟩) h.lo _,h.lo,tv,heap_setCell_same w R 2 _ _ _ h1,ownsRow_setCell_other h2 (row_ne h1 h2 (by decide)) _⟩
def FrE(R:Nat)(w w':World):Prop:=∀(k:Nat) (A:Array Value) (T:TypeId),k≠R→T≠5→w.heap[k]? =some (.cells A T (0,0))→w'.heap[k]? =some (.cells A T (0,0))
theorem FrE.trans{R:Nat}{w w1 w2:World}(h:FrE R w w1)(k:FrE R w1 w2):FrE R w w2:=fun j A T hj hT hg=>k j A T hj hT (h j A T hj hT hg)
theorem FrE.of_below{R:Nat}{w w':World}(h:Below w.heap.size w w'):FrE R w w':=fun _ _ _ _ _ hg=>block_below hg h
theorem FrE.set{R:Nat}{w:World}(i:Nat)(u:Value):FrE R w (w.setCell ⟨R,i,none⟩ u):=fun j A T hj _ hg=>by rw[heap_setCell_other _ _ _ _ hj];exact hg
theorem FrE.new{R:Nat}{w w2:World}(h:FrE R w w2){b:Nat}(hb:w.heap.size≤b)(i:Nat)(u:Value):FrE R w (w2.setCell ⟨b,i,none⟩ u):=fun j A T hj hT hg=>by
 rw[heap_setCell_other _ _ _ _ (by have:=row_lt hg;show j≠b;omega)]
 exact h j A T hj hT hg
theorem EwD.newset{W w:World}{R:Nat}{a:Option Addr}{n c:Nat}{ta:Option Addr}{tn tc x:Nat}{told:ByteArray}{lg:Bool}{ov:Value}(h:EwD W w R a n c ta tn tc x told lg ov){b:Nat}{A:Array Value}{T:TypeId}(hg:w.heap[b]? =some (.cells A T (0,0)))(hT:T≠5)(hb:W.heap.size≤b)(hne:b≠R)(i:Nat)(u:Value):EwD W (w.setCell ⟨b,i,none⟩ u) R a n c ta tn tc x told lg ov∧(w.setCell ⟨b,i,none⟩ u).heap[b]? =some (.cells (A.setIfInBounds i u) T (0,0)):=by
 obtain⟨tv,h1,h2⟩:=h.own
 refine⟨⟨h.bel.setCell (p:=⟨b,i,none⟩) hb _,h.lo,tv,?_,ownsRow_setCell_other h2 (row_ne hg h2 hT) _⟩,heap_setCell_same w b i _ _ _ hg⟩
 rw[heap_setCell_other _ _ _ _ (fun q=>hne q.symm)]
 exact h1
theorem EwD.new4{W w0 w:World}{R:Nat}{a:Option Addr}{n c:Nat}{ta:Option Addr}{tn tc x:Nat}{told:ByteArray}{lg:Bool}{ov:Value}(h:EwD W w R a n c ta tn tc x told lg ov){b:Nat}{A:Array Value}{T:TypeId}(hg:w.heap[b]? =some (.cells A T (0,0)))(hT:T≠5)(hb:W.heap.size≤b)(hne:b≠R)(hf:FrE R w0 w)(hb0:w0.heap.size≤b)(u0 u1 u2 u3:Value):
 EwD W ((((w.setCell ⟨b,0,none⟩ u0).setCell ⟨b,1,none⟩ u1).setCell ⟨b,2,none⟩ u2).setCell ⟨b,3,none⟩ u3) R a n c ta tn tc x told lg ov∧FrE R w0 ((((w.setCell ⟨b,0,none⟩ u0).setCell ⟨b,1,none⟩ u1).setCell ⟨b,2,none⟩ u2).setCell ⟨b,3,none⟩ u3)∧((((w.setCell ⟨b,0,none⟩ u0).setCell ⟨b,1,none⟩ u1).setCell ⟨b,2,none⟩ u2).setCell ⟨b,3,none⟩ u3).heap[b]? =some (.cells ((((A.setIfInBounds 0 u0).setIfInBounds 1 u1).setIfInBounds 2 u2).setIfInBounds 3 u3) T (0,0)):=by
 obtain⟨h0,g0⟩:=h.newset hg hT hb hne 0 u0
 obtain⟨h1,g1⟩:=h0.newset g0 hT hb hne 1 u1
 obtain⟨h2,g2⟩:=h1.newset g1 hT hb hne 2 u2
 obtain⟨h3,g3⟩:=h2.newset g2 hT hb hne 3 u3
 exact⟨h3,(((hf.new hb0 0 u0).new hb0 1 u1).new hb0 2 u2).new hb0 3 u3,g3⟩
def RetTk(W:World)(R:Nat)(a:Option Addr)(m c:Nat)(ta:Option Addr)(t:List Vl)(tc x:Nat)(told:ByteArray)(lg:Bool)(ov:Value)(sn:Sn→Addr)(n:Nd)(dp:Int)(w:World)(e:Ending)(w':World):Prop:=
 FrE R w w'∧
     ((x<t.length∧dp≤12∧FitP n (vl t x)∧e= .returned (.tuple #[.agg #[.int .i64 (vl t x).kind,.string (vl t x).text,.int .i64 (vl t x).alt,.int .i64 (vl t x).kids],.nilIface])∧EwD W w' R a m c ta t.length tc (x+1) told lg ov)∨
      (¬(x<t.length∧dp≤12∧FitP n (vl t x))∧e= .returned (.tuple #[.agg #[.int .i64 0,.string ⟨#[]⟩,.int .i64 0,.int .i64 0],fault x (sn .Tree)])∧EwD W w' R a m c ta t.length tc x told lg ov))
set_option maxHeartbeats 20000000 in
theorem take_any(W w:World)(R:Nat)(a:Option Addr)(m c:Nat)(ta:Option Addr)(t:List Vl)(tc x:Nat)(told:ByteArray)(lg:Bool)(ov:Value)(sn:Sn→Addr)(n:Nd)(ka:Option Addr)(kc:Nat)(dp:Int)(hl:Lay W sn)(hk8:n.kids.length≤8)(htl:t.length≤16777000)(htc:t.length≤tc)(hx:x≤t.length)
 (htr:∀j,j<t.length→(vl t j).text.size≤140737488355328∧∃g o,ta=some ⟨g,o,none⟩∧W.cell? ⟨g,o+j*4,none⟩=some (.int .i64 (vl t j).kind)∧W.cell? ⟨g,o+j*4+1,none⟩=some (.string (vl t j).text)∧W.cell? ⟨g,o+j*4+2,none⟩=some (.int .i64 (vl t j).alt)∧W.cell? ⟨g,o+j*4+3,none⟩=some (.int .i64 (vl t j).kids))
 (hI:EwD W w R a m c ta t.length tc x told lg ov):
 Calls Tryz.prog 109 #[.pointer (some ⟨R,0,none⟩),.agg #[.int .i64 n.kind,.int .i64 n.tag,.int .i64 n.mode,.slice ka n.kids.length kc],.int .i64 dp] w fun e w'=>RetTk W R a m c ta t tc x told lg ov sn n dp w e w':=by
 have HI:=hide hI
 have HL:=hide hl
 have HTR:=hide htr
 obtain⟨tv,hown,_⟩:=hI.own
 unfold ewObj at hown
 have c1:w.cell? ⟨R,1,none⟩=some (.slice ta t.length tc):=by simp[World.cell?,hown]
 have c2:w.cell? ⟨R,2,none⟩=some (.int .i64 (x:Int)):=by simp[World.cell?,hown]
 have hRl:R<w.heap.size:=lt_of_cell c1
 have htl':(t.length:Int)≤16777000:=by omega
 clear hI hl htr hown
 go_enter Tryz.func109,Tryz.ntmps109
 go_wp2_with fail
 have hG1:((w.alloc (.cells #[.int .i64 n.kind,.int .i64 n.tag,.int .i64 n.mode,.slice ka n.kids.length kc] 58)).alloc (.cells #[.int .i64 0,.string ⟨#[]⟩,.int .i64 0,.int .i64 0] 60)).heap[w.heap.size]? =some (.cells #[.int .i64 n.kind,.int .i64 n.tag,.int .i64 n.mode,.slice ka n.kids.length kc] 58 (0,0)):=block_below (heap_alloc_new w _) ((Below.refl _ _).alloc (Nat.le_refl _) _)
 have hG2:((w.alloc (.cells #[.int .i64 n.kind,.int .i64 n.tag,.int .i64 n.mode,.slice ka n.kids.length kc] 58)).alloc (.cells #[.int .i64 0,.string ⟨#[]⟩,.int .i64 0,.int .i64 0] 60)).heap[w.heap.size+1]? =some (.cells #[.int .i64 0,.string ⟨#[]⟩,.int .i64 0,.int .i64 0] 60 (0,0)):=by
  have q:=heap_alloc_new (w.alloc (.cells #[.int .i64 n.kind,.int .i64 n.tag,.int .i64 n.mode,.slice ka n.kids.length kc] 58)) (.cells #[.int .i64 0,.string ⟨#[]⟩,.int .i64 0,.int .i64 0] 60)
  simpa using q
 have hB1:Below w.heap.size w ((w.alloc (.cells #[.int .i64 n.kind,.int .i64 n.tag,.int .i64 n.mode,.slice ka n.kids.length kc] 58)).alloc (.cells #[.int .i64 0,.string ⟨#[]⟩,.int .i64 0,.int .i64 0] 60)):=((Below.refl w.heap.size w).alloc (Nat.le_refl _) _).alloc (by simp) _
 obtain⟨nb,hnb⟩:∃nb,w.heap.size=nb:=⟨_,rfl⟩
 obtain⟨rb,hrb⟩:∃rb,w.heap.size+1=rb:=⟨_,rfl⟩
 have hneN:nb≠R:=by omega
 have hneB:rb≠R:=by omega
 have hnb2:nb≠rb:=by omega
 rw[hrb]at hG2
 rw[hrb]
 rw[hnb]at hG1
 rw[hnb]
 generalize(w.alloc (.cells #[.int .i64 n.kind,.int .i64 n.tag,.int .i64 n.mode,.slice ka n.kids.length kc] 58)).alloc (.cells #[.int .i64 0,.string ⟨#[]⟩,.int .i64 0,.int .i64 0] 60)=w1 at hG1 hG2 hB1 ⊢
 have HI1:=hide (HI.out.below hB1)
 have HF1:Hid (FrE R w w1):=FrE.of_below hB1
 have HG1:=hide hG1
 have HG2:=hide hG2
 have k0:w1.cell? ⟨nb,0,none⟩=some (.int .i64 n.kind):=cell_of_row hG1 rfl
 have k1:w1.cell? ⟨nb,1,none⟩=some (.int .i64 n.tag):=cell_of_row hG1 rfl
 have k2:w1.cell? ⟨nb,2,none⟩=some (.int .i64 n.mode):=cell_of_row hG1 rfl
 have k3:w1.cell? ⟨nb,3,none⟩=some (.slice ka n.kids.length kc):=cell_of_row hG1 rfl
 have hlN:=row_lt hG1
 have hrb0:w.heap.size≤rb:=by omega
 have hrbW:W.heap.size≤rb:=by have:=HI.out.bel.size;omega
 have HRB:=hide (And.intro hrb0 hrbW)
 clear hG1 hG2 hB1 c1 c2 hRl hnb hrb hrb0 hrbW
 obtain⟨tv,hown,_⟩:=HI1.out.own
 unfold ewObj at hown
 have e1:w1.cell? ⟨R,1,none⟩=some (.slice ta t.length tc):=by simp[World.cell?,hown]
 have e2:w1.cell? ⟨R,2,none⟩=some (.int .i64 (x:Int)):=by simp[World.cell?,hown]
 have hR1:R<w1.heap.size:=lt_of_cell e1
 clear hown
 by_cases hx3:x<t.length
 ·have hx3':(x:Int)<t.length:=by omega
  have hxb:((x:Int)==(t.length:Int))=false:=by simp;omega
  have hxb2:decide ((x:Int)=(t.length:Int))=false:=decide_eq_false (by omega)
  by_cases hdp:dp≤12
  ·obtain⟨htx,g,o,hta,p0,p1,p2,p3⟩:=HTR.out x hx3
   have hbW:=HI1.out.bel
   have m0:w1.cell? ⟨g,o+x*4,none⟩=some (.int .i64 (vl t x).kind):=(hbW.cell (lt_of_cell p0)).trans p0
   have m1:w1.cell? ⟨g,o+x*4+1,none⟩=some (.string (vl t x).text):=(hbW.cell (lt_of_cell p1)).trans p1
   have m2:w1.cell? ⟨g,o+x*4+2,none⟩=some (.int .i64 (vl t x).alt):=(hbW.cell (lt_of_cell p2)).trans p2
   have m3:w1.cell? ⟨g,o+x*4+3,none⟩=some (.int .i64 (vl t x).kids):=(hbW.cell (lt_of_cell p3)).trans p3
   have hlG:=lt_of_cell m0
   simp only at hlG
   rw[hta]at e1
   have HTA:=hide hta
   have hdb:decide (12<dp)=false:=decide_eq_false (by omega)
   have hdb2:decide (dp>12)=false:=decide_eq_false (by omega)
   have HFT:Hid (∀wq,Below w1.heap.size w1 wq→Calls Tryz.prog 148 #[.agg #[.int .i64 n.kind,.int .i64 n.tag,.int .i64 n.mode,.slice ka n.kids.length kc],.agg #[.int .i64 (vl t x).kind,.string (vl t x).text,.int .i64 (vl t x).alt,.int .i64 (vl t x).kids]] wq fun e w'=>RetO (FitP n (vl t x)) wq e w'):=fun wq q=>wfits_any n (vl t x) ka kc wq sn ((HL.out.below hbW).below q) htx hk8
   have HST:Hid (∀wq,Below w1.heap.size w1 wq→wq.cell? ⟨R,1,none⟩=some (.slice (some ⟨g,o,none⟩) t.length tc)∧wq.cell? ⟨R,2,none⟩=some (.int .i64 (x:Int))∧wq.cell? ⟨nb,0,none⟩=some (.int .i64 n.kind)∧wq.cell? ⟨nb,1,none⟩=some (.int .i64 n.tag)∧wq.cell? ⟨nb,2,none⟩=some (.int .i64 n.mode)∧wq.cell? ⟨nb,3,none⟩=some (.slice ka n.kids.length kc)∧wq.cell? ⟨g,o+x*4,none⟩=some (.int .i64 (vl t x).kind)∧wq.cell? ⟨g,o+x*4+1,none⟩=some (.string (vl t x).text)∧wq.cell? ⟨g,o+x*4+2,none⟩=some (.int .i64 (vl t x).alt)∧wq.cell? ⟨g,o+x*4+3,none⟩=some (.int .i64 (vl t x).kids)):=fun wq q=>
    ⟨(q.cell (lt_of_cell e1)).trans e1,(q.cell (lt_of_cell e2)).trans e2,(q.cell (lt_of_cell k0)).trans k0,(q.cell (lt_of_cell k1)).trans k1,(q.cell (lt_of_cell k2)).trans k2,(q.cell (lt_of_cell k3)).trans k3,(q.cell (lt_of_cell m0)).trans m0,(q.cell (lt_of_cell m1)).trans m1,(q.cell (lt_of_cell m2)).trans m2,(q.cell (lt_of_cell m3)).trans m3⟩
   clear p0 p1 p2 p3 hta hbW
   go_region_held_law (fun w'=>w'.cell? ⟨R,1,none⟩=some (.slice (some ⟨g,o,none⟩) t.length tc)∧w'.cell? ⟨R,2,none⟩=some (.int .i64 (x:Int))∧w'.cell? ⟨nb,0,none⟩=some (.int .i64 n.kind)∧w'.cell? ⟨nb,1,none⟩=some (.int .i64 n.tag)∧w'.cell? ⟨nb,2,none⟩=some (.int .i64 n.mode)∧w'.cell? ⟨nb,3,none⟩=some (.slice ka n.kids.length kc)∧w'.cell? ⟨g,o+x*4,none⟩=some (.int .i64 (vl t x).kind)∧w'.cell? ⟨g,o+x*4+1,none⟩=some (.string (vl t x).text)∧w'.cell? ⟨g,o+x*4+2,none⟩=some (.int .i64 (vl t x).alt)∧w'.cell? ⟨g,o+x*4+3,none⟩=some (.int .i64 (vl t x).kids)) (first|exact HST.out _ (Below.refl _ _).drew |exact HST.out _ HB2.out|go_keep) ((go_at_call 148;refine(HFT.out _ (Below.refl _ _).drew).mono ?_;rintro e w2 ⟨rv,rfl,hrv,hb2⟩;have HRV:=hide hrv;have HB2:Hid (Below w1.heap.size w1 w2):=(Below.refl w1.heap.size w1).drew.trans hb2;clear hrv hb2))
   rename_i hHeld
   clear hHeld
   have HI2:=hide (HI1.out.below HB2.out)
   have HG3:=hide (block_below HG2.out HB2.out)
   have HF2:Hid (FrE R w w2):=HF1.out.trans (FrE.of_below HB2.out)
   have hT2:=HST.out w2 HB2.out
   have HT2:=hide hT2
   have hgR:g≠R:=by
    obtain⟨_,g',o',hta',p0,_⟩:=HTR.out x hx3
    have hta:=HTA.out
    rw[hta']at hta
    injection hta with hta
    injection hta with h1 h2 _
    have:=lt_of_cell p0
    have:=HI.out.lo
    simp only at*
    omega
   have hgB:g≠rb:=by
    obtain⟨_,g',o',hta',p0,_⟩:=HTR.out x hx3
    have hta:=HTA.out
    rw[hta']at hta
    injection hta with hta
    injection hta with h1 h2 _
    have:=lt_of_cell p0
    have:=HRB.out.2
    simp only at*
    omega
   clear k0 k1 k2 k3 hlN e1 e2 hR1 m0 m1 m2 m3 hlG hT2 HFT HST
   cases rv with
   |false=>
    obtain⟨tv,hown,_⟩:=HI2.out.own
    unfold ewObj at hown
    have d1:w2.cell? ⟨R,1,none⟩=some (.slice ta t.length tc):=by simp[World.cell?,hown]
    have d2:w2.cell? ⟨R,2,none⟩=some (.int .i64 (x:Int)):=by simp[World.cell?,hown]
    have d2f:w2.frozen? ⟨R,2,none⟩=false:=by simp[World.frozen?,hown]
    have hRd:R<w2.heap.size:=lt_of_cell d1
    have hz:=HG3.out
    have z0:w2.cell? ⟨rb,0,none⟩=some (.int .i64 0):=cell_of_row hz rfl
    have z1:w2.cell? ⟨rb,1,none⟩=some (.string ⟨#[]⟩):=cell_of_row hz rfl
    have z2:w2.cell? ⟨rb,2,none⟩=some (.int .i64 0):=cell_of_row hz rfl
    have z3:w2.cell? ⟨rb,3,none⟩=some (.int .i64 0):=cell_of_row hz rfl
    have zf0:w2.frozen? ⟨rb,0,none⟩=false:=by simp[World.frozen?,hz]
    have zf1:w2.frozen? ⟨rb,1,none⟩=false:=by simp[World.frozen?,hz]
    have zf2:w2.frozen? ⟨rb,2,none⟩=false:=by simp[World.frozen?,hz]
    have zf3:w2.frozen? ⟨rb,3,none⟩=false:=by simp[World.frozen?,hz]
    have hlz:=row_lt hz
    clear hown hz
    have cT:=(HL.out.below HI2.out.bel).s.cTree
    have hgl:=lt_of_cell cT
    simp only at hgl
    have HAT:Hid (∀wq,Calls Tryz.prog 60 #[.int .i64 x,.iface 291 (.pointer (some (sn .Tree)))] wq fun e w'=>e= .returned (fault x (sn .Tree))∧w'=wq):=fun wq=>at_any x _ wq
    unfold fault at HAT
    have hneR:R≠rb:=fun q=>hneB q.symm
    have hgW:=lt_of_cell HL.out.s.cTree
    simp only at hgW
    have hneG:9≠rb:=by have:=HRB.out.2;omega
    have kp:∀j,j≠rb→((((w2.setCell ⟨rb,0,none⟩ (.int .i64 0)).setCell ⟨rb,1,none⟩ (.string ⟨#[]⟩)).setCell ⟨rb,2,none⟩ (.int .i64 0)).setCell ⟨rb,3,none⟩ (.int .i64 0)).drew.heap[j]? =w2.heap[j]? :=fun j hj=>by
     show((((w2.setCell ⟨rb,0,none⟩ (.int .i64 0)).setCell ⟨rb,1,none⟩ (.string ⟨#[]⟩)).setCell ⟨rb,2,none⟩ (.int .i64 0)).setCell ⟨rb,3,none⟩ (.int .i64 0)).heap[j]? =_
     rw[heap_setCell_other _ _ _ _ hj,heap_setCell_other _ _ _ _ hj,heap_setCell_other _ _ _ _ hj,heap_setCell_other _ _ _ _ hj]
    have KEEP:=hide (And.intro ((World.cell?_of_block (a:=⟨R,2,none⟩) (kp R hneR)).trans d2) ((World.cell?_of_block (a:=⟨9,0,none⟩) (kp _ hneG)).trans cT))
    clear kp
    obtain⟨hE9,hF9,hR9⟩:=HI2.out.new4 HG3.out (by decide) HRB.out.2 hneB HF2.out HRB.out.1 (.int .i64 0) (.string ⟨#[]⟩) (.int .i64 0) (.int .i64 0)
    have HE9:=hide (hE9.below (Below.refl _ _).drew)
    have HF9:=hide (hF9.trans (FrE.of_below (Below.refl _ _).drew))
    have HR9:Hid (((((w2.setCell ⟨rb,0,none⟩ (.int .i64 0)).setCell ⟨rb,1,none⟩ (.string ⟨#[]⟩)).setCell ⟨rb,2,none⟩ (.int .i64 0)).setCell ⟨rb,3,none⟩ (.int .i64 0)).drew.heap[rb]? =some (.cells #[.int .i64 0,.string ⟨#[]⟩,.int .i64 0,.int .i64 0] 60 (0,0))):=hR9
    clear hE9 hF9 hR9
    go_wp2_with fail
    go_region_held_law (fun w'=>w'.cell? ⟨R,2,none⟩=some (.int .i64 (x:Int))∧w'.cell? ⟨9,0,none⟩=some (.iface 291 (.pointer (some (sn .Tree))))) (first|exact KEEP.out|go_keep) ((go_at_call 60;refine(HAT.out _).mono ?_;rintro e w3 ⟨rfl,rfl⟩))
    all_goals
     rename_i hHeld
     clear hHeld
     generalize((((w2.setCell ⟨rb,0,none⟩ (.int .i64 0)).setCell ⟨rb,1,none⟩ (.string ⟨#[]⟩)).setCell ⟨rb,2,none⟩ (.int .i64 0)).setCell ⟨rb,3,none⟩ (.int .i64 0)).drew=w9 at HE9 HF9 HR9 ⊢
     have r0:w9.cell? ⟨rb,0,none⟩=some (.int .i64 0):=cell_of_row HR9.out rfl
     have r1:w9.cell? ⟨rb,1,none⟩=some (.string ⟨#[]⟩):=cell_of_row HR9.out rfl
     have r2:w9.cell? ⟨rb,2,none⟩=some (.int .i64 0):=cell_of_row HR9.out rfl
     have r3:w9.cell? ⟨rb,3,none⟩=some (.int .i64 0):=cell_of_row HR9.out rfl
     go_wp2
     refine bodyPost_ret (v:= .tuple #[.agg #[.int .i64 0,.string ⟨#[]⟩,.int .i64 0,.int .i64 0],fault x (sn .Tree)]) (by simp[results,Tryz.results109,go_sem,fault,r0,r1,r2,r3]) rfl ?_
     exact⟨HF9.out,.inr ⟨fun h=>Bool.noConfusion (HRV.out.2 h.2.2),rfl,HE9.out⟩⟩
   |true=>
    have HFP:Hid (FitP n (vl t x)):=HRV.out.1 rfl
    obtain⟨tv,hown,_⟩:=HI2.out.own
    unfold ewObj at hown
    have d1:w2.cell? ⟨R,1,none⟩=some (.slice ta t.length tc):=by simp[World.cell?,hown]
    have d2:w2.cell? ⟨R,2,none⟩=some (.int .i64 (x:Int)):=by simp[World.cell?,hown]
    have d2f:w2.frozen? ⟨R,2,none⟩=false:=by simp[World.frozen?,hown]
    have hRd:R<w2.heap.size:=lt_of_cell d1
    have hz:=HG3.out
    have z0:w2.cell? ⟨rb,0,none⟩=some (.int .i64 0):=cell_of_row hz rfl
    have z1:w2.cell? ⟨rb,1,none⟩=some (.string ⟨#[]⟩):=cell_of_row hz rfl
    have z2:w2.cell? ⟨rb,2,none⟩=some (.int .i64 0):=cell_of_row hz rfl
    have z3:w2.cell? ⟨rb,3,none⟩=some (.int .i64 0):=cell_of_row hz rfl
    have zf0:w2.frozen? ⟨rb,0,none⟩=false:=by simp[World.frozen?,hz]
    have zf1:w2.frozen? ⟨rb,1,none⟩=false:=by simp[World.frozen?,hz]
    have zf2:w2.frozen? ⟨rb,2,none⟩=false:=by simp[World.frozen?,hz]
    have zf3:w2.frozen? ⟨rb,3,none⟩=false:=by simp[World.frozen?,hz]
    have hlz:=row_lt hz
    clear hown hz
    have hneR:R≠rb:=fun q=>hneB q.symm
    have hI3:=HI2.out.setNext (x+1)
    have hF3:=HF2.out.trans (FrE.set (R:=R) (w:=w2) 2 (.int .i64 ((x+1:Nat):Int)))
    have hG4:(w2.setCell ⟨R,2,none⟩ (.int .i64 ((x+1:Nat):Int))).heap[rb]? =_:=(FrE.set (R:=R) (w:=w2) 2 (.int .i64 ((x+1:Nat):Int))) rb _ _ hneB (by decide) HG3.out
    have hgb:(w2.setCell ⟨R,2,none⟩ (.int .i64 ((x+1:Nat):Int))).heap[g]? =w2.heap[g]? :=heap_setCell_other _ _ _ _ hgR
    rw[show((x+1:Nat):Int)=(x:Int)+1 by omega]at hI3 hF3 hG4 hgb
    have hT3:(w2.setCell ⟨R,2,none⟩ (.int .i64 ((x:Int)+1))).cell? ⟨g,o+x*4,none⟩=some (.int .i64 (vl t x).kind)∧(w2.setCell ⟨R,2,none⟩ (.int .i64 ((x:Int)+1))).cell? ⟨g,o+x*4+1,none⟩=some (.string (vl t x).text)∧(w2.setCell ⟨R,2,none⟩ (.int .i64 ((x:Int)+1))).cell? ⟨g,o+x*4+2,none⟩=some (.int .i64 (vl t x).alt)∧(w2.setCell ⟨R,2,none⟩ (.int .i64 ((x:Int)+1))).cell? ⟨g,o+x*4+3,none⟩=some (.int .i64 (vl t x).kids):=by
     obtain⟨_,_,_,_,_,_,q0,q1,q2,q3⟩:=HT2.out
     exact⟨(World.cell?_of_block (a:=⟨g,o+x*4,none⟩) hgb).trans q0,(World.cell?_of_block (a:=⟨g,o+x*4+1,none⟩) hgb).trans q1,(World.cell?_of_block (a:=⟨g,o+x*4+2,none⟩) hgb).trans q2,(World.cell?_of_block (a:=⟨g,o+x*4+3,none⟩) hgb).trans q3⟩
    have HI3:=hide hI3
    have HF3:=hide hF3
    have HG4:=hide hG4
    have HT3:=hide hT3
    clear hI3 hF3 hG4 hT3 hgb z0 z1 z2 z3 zf0 zf1 zf2 zf3 hlz
    go_upto_region 4 with fail
    generalize w2.setCell ⟨R,2,none⟩ (.int .i64 ((x:Int)+1))=w3 at HI3 HF3 HG4 HT3 ⊢
    clear d1 d2 d2f hRd
    obtain⟨tv,hown,_⟩:=HI3.out.own
    unfold ewObj at hown
    have d1:w3.cell? ⟨R,1,none⟩=some (.slice (some ⟨g,o,none⟩) t.length tc):=by rw[←HTA.out];simp[World.cell?,hown]
    have d2:w3.cell? ⟨R,2,none⟩=some (.int .i64 ((x:Int)+1)):=by simp[World.cell?,hown]
    have hRd:R<w3.heap.size:=lt_of_cell d1
    have hz:=HG4.out
    have z0:w3.cell? ⟨rb,0,none⟩=some (.int .i64 0):=cell_of_row hz rfl
    have z1:w3.cell? ⟨rb,1,none⟩=some (.string ⟨#[]⟩):=cell_of_row hz rfl
    have z2:w3.cell? ⟨rb,2,none⟩=some (.int .i64 0):=cell_of_row hz rfl
    have z3:w3.cell? ⟨rb,3,none⟩=some (.int .i64 0):=cell_of_row hz rfl
    have zf0:w3.frozen? ⟨rb,0,none⟩=false:=by simp[World.frozen?,hz]
    have zf1:w3.frozen? ⟨rb,1,none⟩=false:=by simp[World.frozen?,hz]
    have zf2:w3.frozen? ⟨rb,2,none⟩=false:=by simp[World.frozen?,hz]
    have zf3:w3.frozen? ⟨rb,3,none⟩=false:=by simp[World.frozen?,hz]
    have hlz:=row_lt hz
    obtain⟨m0,m1,m2,m3⟩:=HT3.out
    have hlG:=lt_of_cell m0
    simp only at hlG
    have kp:∀j,j≠rb→((((w3.setCell ⟨rb,0,none⟩ (.int .i64 (vl t x).kind)).setCell ⟨rb,1,none⟩ (.string (vl t x).text)).setCell ⟨rb,2,none⟩ (.int .i64 (vl t x).alt)).setCell ⟨rb,3,none⟩ (.int .i64 (vl t x).kids)).drew.heap[j]? =w3.heap[j]? :=fun j hj=>by
     show((((w3.setCell ⟨rb,0,none⟩ (.int .i64 (vl t x).kind)).setCell ⟨rb,1,none⟩ (.string (vl t x).text)).setCell ⟨rb,2,none⟩ (.int .i64 (vl t x).alt)).setCell ⟨rb,3,none⟩ (.int .i64 (vl t x).kids)).heap[j]? =_
     rw[heap_setCell_other _ _ _ _ hj,heap_setCell_other _ _ _ _ hj,heap_setCell_other _ _ _ _ hj,heap_setCell_other _ _ _ _ hj]
    have KEEP:Hid (((((w3.setCell ⟨rb,0,none⟩ (.int .i64 (vl t x).kind)).setCell ⟨rb,1,none⟩ (.string (vl t x).text)).setCell ⟨rb,2,none⟩ (.int .i64 (vl t x).alt)).setCell ⟨rb,3,none⟩ (.int .i64 (vl t x).kids)).drew.cell? ⟨R,1,none⟩=some (.slice (some ⟨g,o,none⟩) t.length tc)∧((((w3.setCell ⟨rb,0,none⟩ (.int .i64 (vl t x).kind)).setCell ⟨rb,1,none⟩ (.string (vl t x).text)).setCell ⟨rb,2,none⟩ (.int .i64 (vl t x).alt)).setCell ⟨rb,3,none⟩ (.int .i64 (vl t x).kids)).drew.cell? ⟨R,2,none⟩=some (.int .i64 ((x:Int)+1))∧((((w3.setCell ⟨rb,0,none⟩ (.int .i64 (vl t x).kind)).setCell ⟨rb,1,none⟩ (.string (vl t x).text)).setCell ⟨rb,2,none⟩ (.int .i64 (vl t x).alt)).setCell ⟨rb,3,none⟩ (.int .i64 (vl t x).kids)).drew.cell? ⟨g,o+x*4,none⟩=some (.int .i64 (vl t x).kind)∧((((w3.setCell ⟨rb,0,none⟩ (.int .i64 (vl t x).kind)).setCell ⟨rb,1,none⟩ (.string (vl t x).text)).setCell ⟨rb,2,none⟩ (.int .i64 (vl t x).alt)).setCell ⟨rb,3,none⟩ (.int .i64 (vl t x).kids)).drew.cell? ⟨g,o+x*4+1,none⟩=some (.string (vl t x).text)∧((((w3.setCell ⟨rb,0,none⟩ (.int .i64 (vl t x).kind)).setCell ⟨rb,1,none⟩ (.string (vl t x).text)).setCell ⟨rb,2,none⟩ (.int .i64 (vl t x).alt)).setCell ⟨rb,3,none⟩ (.int .i64 (vl t x).kids)).drew.cell? ⟨g,o+x*4+2,none⟩=some (.int .i64 (vl t x).alt)∧((((w3.setCell ⟨rb,0,none⟩ (.int .i64 (vl t x).kind)).setCell ⟨rb,1,none⟩ (.string (vl t x).text)).setCell ⟨rb,2,none⟩ (.int .i64 (vl t x).alt)).setCell ⟨rb,3,none⟩ (.int .i64 (vl t x).kids)).drew.cell? ⟨g,o+x*4+3,none⟩=some (.int .i64 (vl t x).kids)):=
     ⟨(World.cell?_of_block (a:=⟨R,1,none⟩) (kp R hneR)).trans d1,(World.cell?_of_block (a:=⟨R,2,none⟩) (kp R hneR)).trans d2,(World.cell?_of_block (a:=⟨g,o+x*4,none⟩) (kp g hgB)).trans m0,(World.cell?_of_block (a:=⟨g,o+x*4+1,none⟩) (kp g hgB)).trans m1,(World.cell?_of_block (a:=⟨g,o+x*4+2,none⟩) (kp g hgB)).trans m2,(World.cell?_of_block (a:=⟨g,o+x*4+3,none⟩) (kp g hgB)).trans m3⟩
    obtain⟨hE9,hF9,hR9⟩:=HI3.out.new4 HG4.out (by decide) HRB.out.2 hneB HF3.out HRB.out.1 (.int .i64 (vl t x).kind) (.string (vl t x).text) (.int .i64 (vl t x).alt) (.int .i64 (vl t x).kids)
    have HE9:=hide (hE9.below (Below.refl _ _).drew)
    have HF9:=hide (hF9.trans (FrE.of_below (Below.refl _ _).drew))
    have HR9:Hid (((((w3.setCell ⟨rb,0,none⟩ (.int .i64 (vl t x).kind)).setCell ⟨rb,1,none⟩ (.string (vl t x).text)).setCell ⟨rb,2,none⟩ (.int .i64 (vl t x).alt)).setCell ⟨rb,3,none⟩ (.int .i64 (vl t x).kids)).drew.heap[rb]? =some (.cells #[.int .i64 (vl t x).kind,.string (vl t x).text,.int .i64 (vl t x).alt,.int .i64 (vl t x).kids] 60 (0,0))):=hR9
    clear hE9 hF9 hR9 kp hz hown
    have hwr:IntKind.i64.wrap ((x:Int)+1-1)=(x:Int):=by
     rw[show(x:Int)+1-1=x by omega]
     simp[IntKind.wrap,IntKind.bits,IntKind.signed]
     omega
    have hwr2:IntKind.i64.wrap (x:Int)=(x:Int):=by
     simp[IntKind.wrap,IntKind.bits,IntKind.signed]
     omega
    have hx0:0≤(x:Int):=by omega
    go_region_held_law (fun w'=>w'.cell? ⟨R,1,none⟩=some (.slice (some ⟨g,o,none⟩) t.length tc)∧w'.cell? ⟨R,2,none⟩=some (.int .i64 ((x:Int)+1))∧w'.cell? ⟨g,o+x*4,none⟩=some (.int .i64 (vl t x).kind)∧w'.cell? ⟨g,o+x*4+1,none⟩=some (.string (vl t x).text)∧w'.cell? ⟨g,o+x*4+2,none⟩=some (.int .i64 (vl t x).alt)∧w'.cell? ⟨g,o+x*4+3,none⟩=some (.int .i64 (vl t x).kids)) (first|exact KEEP.out|go_keep) (fail)
    all_goals
     rename_i hHeld
     clear hHeld
     generalize((((w3.setCell ⟨rb,0,none⟩ (.int .i64 (vl t x).kind)).setCell ⟨rb,1,none⟩ (.string (vl t x).text)).setCell ⟨rb,2,none⟩ (.int .i64 (vl t x).alt)).setCell ⟨rb,3,none⟩ (.int .i64 (vl t x).kids)).drew=w9 at HE9 HF9 HR9 ⊢
     have r0:w9.cell? ⟨rb,0,none⟩=some (.int .i64 (vl t x).kind):=cell_of_row HR9.out rfl
     have r1:w9.cell? ⟨rb,1,none⟩=some (.string (vl t x).text):=cell_of_row HR9.out rfl
     have r2:w9.cell? ⟨rb,2,none⟩=some (.int .i64 (vl t x).alt):=cell_of_row HR9.out rfl
     have r3:w9.cell? ⟨rb,3,none⟩=some (.int .i64 (vl t x).kids):=cell_of_row HR9.out rfl
     go_wp2
     refine bodyPost_ret (v:= .tuple #[.agg #[.int .i64 (vl t x).kind,.string (vl t x).text,.int .i64 (vl t x).alt,.int .i64 (vl t x).kids],.nilIface]) (by simp[results,Tryz.results109,go_sem,r0,r1,r2,r3]) rfl ?_
     exact⟨HF9.out,.inl ⟨hx3,hdp,HFP.out,rfl,HE9.out⟩⟩
  ·have hdp':12<dp:=by omega
   go_quiet (fail)
   have HI2:=hide (HI1.out.below (Go.below_drewN (Below.refl w1.heap.size w1) nq))
   have HG3:=hide (block_below HG2.out (Go.below_drewN (Below.refl w1.heap.size w1) nq))
   have HF2:Hid (FrE R w (w1.drewN nq)):=HF1.out.trans (FrE.of_below (Go.below_drewN (Below.refl _ _) nq))
   generalize w1.drewN nq=w2 at HI2 HG3 HF2 ⊢
   clear k0 k1 k2 k3 hlN e1 e2 hR1
   obtain⟨tv,hown,_⟩:=HI2.out.own
   unfold ewObj at hown
   have d1:w2.cell? ⟨R,1,none⟩=some (.slice ta t.length tc):=by simp[World.cell?,hown]
   have d2:w2.cell? ⟨R,2,none⟩=some (.int .i64 (x:Int)):=by simp[World.cell?,hown]
   have d2f:w2.frozen? ⟨R,2,none⟩=false:=by simp[World.frozen?,hown]
   have hRd:R<w2.heap.size:=lt_of_cell d1
   have hz:=HG3.out
   have z0:w2.cell? ⟨rb,0,none⟩=some (.int .i64 0):=cell_of_row hz rfl
   have z1:w2.cell? ⟨rb,1,none⟩=some (.string ⟨#[]⟩):=cell_of_row hz rfl
   have z2:w2.cell? ⟨rb,2,none⟩=some (.int .i64 0):=cell_of_row hz rfl
   have z3:w2.cell? ⟨rb,3,none⟩=some (.int .i64 0):=cell_of_row hz rfl
   have zf0:w2.frozen? ⟨rb,0,none⟩=false:=by simp[World.frozen?,hz]
   have zf1:w2.frozen? ⟨rb,1,none⟩=false:=by simp[World.frozen?,hz]
   have zf2:w2.frozen? ⟨rb,2,none⟩=false:=by simp[World.frozen?,hz]
   have zf3:w2.frozen? ⟨rb,3,none⟩=false:=by simp[World.frozen?,hz]
   have hlz:=row_lt hz
   clear hown hz
   have cT:=(HL.out.below HI2.out.bel).s.cTree
   have hgl:=lt_of_cell cT
   simp only at hgl
   have HAT:Hid (∀wq,Calls Tryz.prog 60 #[.int .i64 x,.iface 291 (.pointer (some (sn .Tree)))] wq fun e w'=>e= .returned (fault x (sn .Tree))∧w'=wq):=fun wq=>at_any x _ wq
   unfold fault at HAT
   have hneR:R≠rb:=fun q=>hneB q.symm
   have hgW:=lt_of_cell HL.out.s.cTree
   simp only at hgW
   have hneG:9≠rb:=by have:=HRB.out.2;omega
   have kp:∀j,j≠rb→((((w2.setCell ⟨rb,0,none⟩ (.int .i64 0)).setCell ⟨rb,1,none⟩ (.string ⟨#[]⟩)).setCell ⟨rb,2,none⟩ (.int .i64 0)).setCell ⟨rb,3,none⟩ (.int .i64 0)).drew.heap[j]? =w2.heap[j]? :=fun j hj=>by
    show((((w2.setCell ⟨rb,0,none⟩ (.int .i64 0)).setCell ⟨rb,1,none⟩ (.string ⟨#[]⟩)).setCell ⟨rb,2,none⟩ (.int .i64 0)).setCell ⟨rb,3,none⟩ (.int .i64 0)).heap[j]? =_
    rw[heap_setCell_other _ _ _ _ hj,heap_setCell_other _ _ _ _ hj,heap_setCell_other _ _ _ _ hj,heap_setCell_other _ _ _ _ hj]
   have KEEP:=hide (And.intro ((World.cell?_of_block (a:=⟨R,2,none⟩) (kp R hneR)).trans d2) ((World.cell?_of_block (a:=⟨9,0,none⟩) (kp _ hneG)).trans cT))
   clear kp
   obtain⟨hE9,hF9,hR9⟩:=HI2.out.new4 HG3.out (by decide) HRB.out.2 hneB HF2.out HRB.out.1 (.int .i64 0) (.string ⟨#[]⟩) (.int .i64 0) (.int .i64 0)
   have HE9:=hide (hE9.below (Below.refl _ _).drew)
   have HF9:=hide (hF9.trans (FrE.of_below (Below.refl _ _).drew))
   have HR9:Hid (((((w2.setCell ⟨rb,0,none⟩ (.int .i64 0)).setCell ⟨rb,1,none⟩ (.string ⟨#[]⟩)).setCell ⟨rb,2,none⟩ (.int .i64 0)).setCell ⟨rb,3,none⟩ (.int .i64 0)).drew.heap[rb]? =some (.cells #[.int .i64 0,.string ⟨#[]⟩,.int .i64 0,.int .i64 0] 60 (0,0))):=hR9
   clear hE9 hF9 hR9
   go_wp2_with fail
   go_region_held_law (fun w'=>w'.cell? ⟨R,2,none⟩=some (.int .i64 (x:Int))∧w'.cell? ⟨9,0,none⟩=some (.iface 291 (.pointer (some (sn .Tree))))) (first|exact KEEP.out|go_keep) ((go_at_call 60;refine(HAT.out _).mono ?_;rintro e w3 ⟨rfl,rfl⟩))
   all_goals
    rename_i hHeld
    clear hHeld
    generalize((((w2.setCell ⟨rb,0,none⟩ (.int .i64 0)).setCell ⟨rb,1,none⟩ (.string ⟨#[]⟩)).setCell ⟨rb,2,none⟩ (.int .i64 0)).setCell ⟨rb,3,none⟩ (.int .i64 0)).drew=w9 at HE9 HF9 HR9 ⊢
    have r0:w9.cell? ⟨rb,0,none⟩=some (.int .i64 0):=cell_of_row HR9.out rfl
    have r1:w9.cell? ⟨rb,1,none⟩=some (.string ⟨#[]⟩):=cell_of_row HR9.out rfl
    have r2:w9.cell? ⟨rb,2,none⟩=some (.int .i64 0):=cell_of_row HR9.out rfl
    have r3:w9.cell? ⟨rb,3,none⟩=some (.int .i64 0):=cell_of_row HR9.out rfl
    go_wp2
    refine bodyPost_ret (v:= .tuple #[.agg #[.int .i64 0,.string ⟨#[]⟩,.int .i64 0,.int .i64 0],fault x (sn .Tree)]) (by simp[results,Tryz.results109,go_sem,fault,r0,r1,r2,r3]) rfl ?_
    exact⟨HF9.out,.inr ⟨fun h=>by omega,rfl,HE9.out⟩⟩
 ·obtain rfl:x=t.length:=by omega
  go_quiet (fail)
  have HI2:=hide (HI1.out.below (Go.below_drewN (Below.refl w1.heap.size w1) nq))
  have HG3:=hide (block_below HG2.out (Go.below_drewN (Below.refl w1.heap.size w1) nq))
  have HF2:Hid (FrE R w (w1.drewN nq)):=HF1.out.trans (FrE.of_below (Go.below_drewN (Below.refl _ _) nq))
  generalize w1.drewN nq=w2 at HI2 HG3 HF2 ⊢
  clear k0 k1 k2 k3 hlN e1 e2 hR1
  obtain⟨tv,hown,_⟩:=HI2.out.own
  unfold ewObj at hown
  have d1:w2.cell? ⟨R,1,none⟩=some (.slice ta t.length tc):=by simp[World.cell?,hown]
  have d2:w2.cell? ⟨R,2,none⟩=some (.int .i64 (t.length:Int)):=by simp[World.cell?,hown]
  have d2f:w2.frozen? ⟨R,2,none⟩=false:=by simp[World.frozen?,hown]
  have hRd:R<w2.heap.size:=lt_of_cell d1
  have hz:=HG3.out
  have z0:w2.cell? ⟨rb,0,none⟩=some (.int .i64 0):=cell_of_row hz rfl
  have z1:w2.cell? ⟨rb,1,none⟩=some (.string ⟨#[]⟩):=cell_of_row hz rfl
  have z2:w2.cell? ⟨rb,2,none⟩=some (.int .i64 0):=cell_of_row hz rfl
  have z3:w2.cell? ⟨rb,3,none⟩=some (.int .i64 0):=cell_of_row hz rfl
  have zf0:w2.frozen? ⟨rb,0,none⟩=false:=by simp[World.frozen?,hz]
  have zf1:w2.frozen? ⟨rb,1,none⟩=false:=by simp[World.frozen?,hz]
  have zf2:w2.frozen? ⟨rb,2,none⟩=false:=by simp[World.frozen?,hz]
  have zf3:w2.frozen? ⟨rb,3,none⟩=false:=by simp[World.frozen?,hz]
  have hlz:=row_lt hz
  clear hown hz
  have cT:=(HL.out.below HI2.out.bel).s.cTree
  have hgl:=lt_of_cell cT
  simp only at hgl
  have HAT:Hid (∀wq,Calls Tryz.prog 60 #[.int .i64 (t.length:Int),.iface 291 (.pointer (some (sn .Tree)))] wq fun e w'=>e= .returned (fault t.length (sn .Tree))∧w'=wq):=fun wq=>at_any t.length _ wq
  unfold fault at HAT
  have hneR:R≠rb:=fun q=>hneB q.symm
  have hgW:=lt_of_cell HL.out.s.cTree
  simp only at hgW
  have hneG:9≠rb:=by have:=HRB.out.2;omega
  have kp:∀j,j≠rb→((((w2.setCell ⟨rb,0,none⟩ (.int .i64 0)).setCell ⟨rb,1,none⟩ (.string ⟨#[]⟩)).setCell ⟨rb,2,none⟩ (.int .i64 0)).setCell ⟨rb,3,none⟩ (.int .i64 0)).drew.heap[j]? =w2.heap[j]? :=fun j hj=>by
   show((((w2.setCell ⟨rb,0,none⟩ (.int .i64 0)).setCell ⟨rb,1,none⟩ (.string ⟨#[]⟩)).setCell ⟨rb,2,none⟩ (.int .i64 0)).setCell ⟨rb,3,none⟩ (.int .i64 0)).heap[j]? =_
   rw[heap_setCell_other _ _ _ _ hj,heap_setCell_other _ _ _ _ hj,heap_setCell_other _ _ _ _ hj,heap_setCell_other _ _ _ _ hj]
  have KEEP:=hide (And.intro ((World.cell?_of_block (a:=⟨R,2,none⟩) (kp R hneR)).trans d2) ((World.cell?_of_block (a:=⟨9,0,none⟩) (kp _ hneG)).trans cT))
  clear kp
  obtain⟨hE9,hF9,hR9⟩:=HI2.out.new4 HG3.out (by decide) HRB.out.2 hneB HF2.out HRB.out.1 (.int .i64 0) (.string ⟨#[]⟩) (.int .i64 0) (.int .i64 0)
  have HE9:=hide (hE9.below (Below.refl _ _).drew)
  have HF9:=hide (hF9.trans (FrE.of_below (Below.refl _ _).drew))
  have HR9:Hid (((((w2.setCell ⟨rb,0,none⟩ (.int .i64 0)).setCell ⟨rb,1,none⟩ (.string ⟨#[]⟩)).setCell ⟨rb,2,none⟩ (.int .i64 0)).setCell ⟨rb,3,none⟩ (.int .i64 0)).drew.heap[rb]? =some (.cells #[.int .i64 0,.string ⟨#[]⟩,.int .i64 0,.int .i64 0] 60 (0,0))):=hR9
  clear hE9 hF9 hR9
  go_wp2_with fail
  go_region_held_law (fun w'=>w'.cell? ⟨R,2,none⟩=some (.int .i64 (t.length:Int))∧w'.cell? ⟨9,0,none⟩=some (.iface 291 (.pointer (some (sn .Tree))))) (first|exact KEEP.out|go_keep) ((go_at_call 60;refine(HAT.out _).mono ?_;rintro e w3 ⟨rfl,rfl⟩))
  all_goals
   rename_i hHeld
   clear hHeld
   generalize((((w2.setCell ⟨rb,0,none⟩ (.int .i64 0)).setCell ⟨rb,1,none⟩ (.string ⟨#[]⟩)).setCell ⟨rb,2,none⟩ (.int .i64 0)).setCell ⟨rb,3,none⟩ (.int .i64 0)).drew=w9 at HE9 HF9 HR9 ⊢
   have r0:w9.cell? ⟨rb,0,none⟩=some (.int .i64 0):=cell_of_row HR9.out rfl
   have r1:w9.cell? ⟨rb,1,none⟩=some (.string ⟨#[]⟩):=cell_of_row HR9.out rfl
   have r2:w9.cell? ⟨rb,2,none⟩=some (.int .i64 0):=cell_of_row HR9.out rfl
   have r3:w9.cell? ⟨rb,3,none⟩=some (.int .i64 0):=cell_of_row HR9.out rfl
   go_wp2
   refine bodyPost_ret (v:= .tuple #[.agg #[.int .i64 0,.string ⟨#[]⟩,.int .i64 0,.int .i64 0],fault t.length (sn .Tree)]) (by simp[results,Tryz.results109,go_sem,fault,r0,r1,r2,r3]) rfl ?_
   exact⟨HF9.out,.inr ⟨fun h=>by omega,rfl,HE9.out⟩⟩
end Go.Proofs.YtkkicodfpekbgaaGreatDoor
