/-
The program's encoder: the writer in memory; take.
-/
import Derived.Test.YtkkicodfpekbgaaGreatDoorJe0
open Go.Value renaming int->I,string->Y,slice->S,pointer->Po,bool->Bo,agg->Ag,tuple->Tu,iface->If
open Go.IntKind renaming i64->J
open Go.Obj renaming cells->C
open Go.Ending renaming returned->Rt
open Option renaming some->U,none->Z
open Go renaming World->M,Calls->Cs,Addr->Ad,Value->Vv
open _root_ renaming ByteArray->Q,Option->Oo,List->Ls
open Go.RowKit renaming Below->H,Hid->Hi
open Go.World renaming cell?->Wc,frozen?->Wf
open Go.Addr renaming mk->D
set_option linter.unusedSimpArgs false
set_option linter.unusedVariables false
set_option maxRecDepth 100000
set_option maxHeartbeats 8000000
namespace Go.Proofs.YtkkicodfpekbgaaGreatDoor
open Go.RowKit
def bcells(t:Q):Ls Vv:=t.data.toList.map fun b=>I .u8 (b.toNat:Int)
def dm(a:Oo Ad)(n c:Nat)(ta:Oo Ad)(tn tc x:Nat)(tv:Vv)(lg:Bool)(ov:Vv):Obj:=C #[S a n c,S ta tn tc,I J x,tv,Bo lg,ov] 140 (0,0)
structure gS(W w:M)(R:Nat)(a:Oo Ad)(n c:Nat)(ta:Oo Ad)(tn tc x:Nat)(told:Q)(lg:Bool)(ov:Vv):Prop where
 bel:H W.heap.size W w
 lo:W.heap.size<=R
 own:∃tv,w.heap[R]? =U (dm a n c ta tn tc x tv lg ov)/\w.ownsRow W.heap.size 5 1 tv told.size (bcells told)
theorem gS.below{W w w':M}{R:Nat}{a:Oo Ad}{n c:Nat}{ta:Oo Ad}{tn tc x:Nat}{told:Q}{lg:Bool}{ov:Vv}(h:gS W w R a n c ta tn tc x told lg ov)(hb:H w.heap.size w w'):gS W w' R a n c ta tn tc x told lg ov:=by obtain⟨tv,h1,h2⟩:=h.own;exact⟨h.bel.trans (hb.mono h.bel.size),h.lo,tv,ax h1 hb,bB h2 hb⟩
theorem gS.setNext{W w:M}{R:Nat}{a:Oo Ad}{n c:Nat}{ta:Oo Ad}{tn tc x:Nat}{told:Q}{lg:Bool}{ov:Vv}(h:gS W w R a n c ta tn tc x told lg ov)(y:Nat):gS W (w.setCell (D R 2 Z) (I J y)) R a n c ta tn tc y told lg ov:=by obtain⟨tv,h1,h2⟩:=h.own;exact⟨h.bel.setCell (p:=D R 2 Z) h.lo _,h.lo,tv,bn w R 2 _ _ _ h1,aJ h2 (cA h1 h2 Dc) _⟩
def dL(R:Nat)(w w':M):Prop:=∀(k:Nat) (A:Array Vv) (T:TypeId),k≠R->T≠5->w.heap[k]? =U (C A T (0,0))->w'.heap[k]? =U (C A T (0,0))
theorem dL.trans{R:Nat}{w w1 w2:M}(h:dL R w w1)(k:dL R w1 w2):dL R w w2:=fun j A T hj hT hg=>k j A T hj hT (h j A T hj hT hg)
theorem dL.of_below{R:Nat}{w w':M}(h:H w.heap.size w w'):dL R w w':=fun _ _ _ _ _ hg=>ax hg h
theorem dL.set{R:Nat}{w:M}(i:Nat)(u:Vv):dL R w (w.setCell (D R i Z) u):=fun j A T hj _ hg=>by rw[aP _ _ _ _ hj];exact hg
theorem dL.new{R:Nat}{w w2:M}(h:dL R w w2){b:Nat}(hb:w.heap.size<=b)(i:Nat)(u:Vv):dL R w (w2.setCell (D b i Z) u):=fun j A T hj hT hg=>by rw[aP _ _ _ _ (by have:=bm hg;show j≠b;omega)];exact h j A T hj hT hg
theorem gS.newset{W w:M}{R:Nat}{a:Oo Ad}{n c:Nat}{ta:Oo Ad}{tn tc x:Nat}{told:Q}{lg:Bool}{ov:Vv}(h:gS W w R a n c ta tn tc x told lg ov){b:Nat}{A:Array Vv}{T:TypeId}(hg:w.heap[b]? =U (C A T (0,0)))(hT:T≠5)(hb:W.heap.size<=b)(hne:b≠R)(i:Nat)(u:Vv):gS W (w.setCell (D b i Z) u) R a n c ta tn tc x told lg ov/\(w.setCell (D b i Z) u).heap[b]? =U (C (A.setIfInBounds i u) T (0,0)):=by
 obtain⟨tv,h1,h2⟩:=h.own;refine⟨⟨h.bel.setCell (p:=D b i Z) hb _,h.lo,tv,?_,aJ h2 (cA hg h2 hT) _⟩,bn w b i _ _ _ hg⟩;rw[aP _ _ _ _ (fun q=>hne q.symm)];exact h1
theorem gS.new4{W w0 w:M}{R:Nat}{a:Oo Ad}{n c:Nat}{ta:Oo Ad}{tn tc x:Nat}{told:Q}{lg:Bool}{ov:Vv}(h:gS W w R a n c ta tn tc x told lg ov){b:Nat}{A:Array Vv}{T:TypeId}(hg:w.heap[b]? =U (C A T (0,0)))(hT:T≠5)(hb:W.heap.size<=b)(hne:b≠R)(hf:dL R w0 w)(hb0:w0.heap.size<=b)(u0 u1 u2 u3:Vv):gS W ((((w.setCell (D b 0 Z) u0).setCell (D b 1 Z) u1).setCell (D b 2 Z) u2).setCell (D b 3 Z) u3) R a n c ta tn tc x told lg ov/\dL R w0 ((((w.setCell (D b 0 Z) u0).setCell (D b 1 Z) u1).setCell (D b 2 Z) u2).setCell (D b 3 Z) u3)/\((((w.setCell (D b 0 Z) u0).setCell (D b 1 Z) u1).setCell (D b 2 Z) u2).setCell (D b 3 Z) u3).heap[b]? =U (C ((((A.setIfInBounds 0 u0).setIfInBounds 1 u1).setIfInBounds 2 u2).setIfInBounds 3 u3) T (0,0)):=by
 obtain⟨h0,g0⟩:=h.newset hg hT hb hne 0 u0;obtain⟨h1,g1⟩:=h0.newset g0 hT hb hne 1 u1;obtain⟨h2,g2⟩:=h1.newset g1 hT hb hne 2 u2;obtain⟨h3,g3⟩:=h2.newset g2 hT hb hne 3 u3;exact⟨h3,(((hf.new hb0 0 u0).new hb0 1 u1).new hb0 2 u2).new hb0 3 u3,g3⟩
def EX(W:M)(R:Nat)(a:Oo Ad)(m c:Nat)(ta:Oo Ad)(t:Ls Vl)(tc x:Nat)(told:Q)(lg:Bool)(ov:Vv)(sn:Sn->Ad)(n:Nd)(dp:Int)(w:M)(e:Ending)(w':M):Prop:=
 dL R w w'/\
     ((x<t.length/\dp<=12/\gW n (vl t x)/\e=Rt (Tu #[Ag #[I J (vl t x).kind,Y (vl t x).text,I J (vl t x).alt,I J (vl t x).kids],.nilIface])/\gS W w' R a m c ta t.length tc (x+1) told lg ov)\/
      (¬(x<t.length/\dp<=12/\gW n (vl t x))/\e=Rt (Tu #[Ag #[I J 0,Y ⟨#[]⟩,I J 0,I J 0],aX x (sn .Tree)])/\gS W w' R a m c ta t.length tc x told lg ov))
set_option maxHeartbeats 20000000 in
theorem Dk(W w:M)(R:Nat)(a:Oo Ad)(m c:Nat)(ta:Oo Ad)(t:Ls Vl)(tc x:Nat)(told:Q)(lg:Bool)(ov:Vv)(sn:Sn->Ad)(n:Nd)(ka:Oo Ad)(kc:Nat)(dp:Int)(hl:ls W sn)(hk8:n.kids.length<=8)(htl:t.length<=16777000)(htc:t.length<=tc)(hx:x<=t.length)(htr:∀j,j<t.length->(vl t j).text.size<=140737488355328/\∃g o,ta=U (D g o Z)/\W.cell? (D g (o+j*4) Z)=U (I J (vl t j).kind)/\W.cell? (D g (o+j*4+1) Z)=U (Y (vl t j).text)/\W.cell? (D g (o+j*4+2) Z)=U (I J (vl t j).alt)/\W.cell? (D g (o+j*4+3) Z)=U (I J (vl t j).kids))(hI:gS W w R a m c ta t.length tc x told lg ov):Cs Tryz.prog 109 #[Po (U (D R 0 Z)),Ag #[I J n.kind,I J n.tag,I J n.mode,S ka n.kids.length kc],I J dp] w fun e w'=>EX W R a m c ta t tc x told lg ov sn n dp w e w':=by
 have HI:=aN hI;have HL:=aN hl;have HTR:=aN htr;obtain⟨tv,hown,_⟩:=hI.own;unfold dm at hown;have c1:w.cell? (D R 1 Z)=U (S ta t.length tc):=by simp[Wc,hown]
 have c2:w.cell? (D R 2 Z)=U (I J (x:Int)):=by simp[Wc,hown]
 have hRl:R<w.heap.size:=aw c1;have htl':(t.length:Int)<=16777000:=O;clear hI hl htr hown;go_enter Tryz.func109,Tryz.ntmps109;go_wp2_with fail;have hG1:((w.alloc (C #[I J n.kind,I J n.tag,I J n.mode,S ka n.kids.length kc] 58)).alloc (C #[I J 0,Y ⟨#[]⟩,I J 0,I J 0] 60)).heap[w.heap.size]? =U (C #[I J n.kind,I J n.tag,I J n.mode,S ka n.kids.length kc] 58 (0,0)):=ax (aA w _) Be;have hG2:((w.alloc (C #[I J n.kind,I J n.tag,I J n.mode,S ka n.kids.length kc] 58)).alloc (C #[I J 0,Y ⟨#[]⟩,I J 0,I J 0] 60)).heap[w.heap.size+1]? =U (C #[I J 0,Y ⟨#[]⟩,I J 0,I J 0] 60 (0,0)):=by have q:=aA (w.alloc (C #[I J n.kind,I J n.tag,I J n.mode,S ka n.kids.length kc] 58)) (C #[I J 0,Y ⟨#[]⟩,I J 0,I J 0] 60);simpa using q
 have hB1:H w.heap.size w ((w.alloc (C #[I J n.kind,I J n.tag,I J n.mode,S ka n.kids.length kc] 58)).alloc (C #[I J 0,Y ⟨#[]⟩,I J 0,I J 0] 60)):=((aY w.heap.size w).alloc Ln _).alloc Sq _;obtain⟨nb,hnb⟩:∃nb,w.heap.size=nb:=Ey;obtain⟨rb,hrb⟩:∃rb,w.heap.size+1=rb:=Ey;have hneN:nb≠R:=O;have hneB:rb≠R:=O;have hnb2:nb≠rb:=O;rw[hrb]at hG2;rw[hrb];rw[hnb]at hG1;rw[hnb];generalize(w.alloc (C #[I J n.kind,I J n.tag,I J n.mode,S ka n.kids.length kc] 58)).alloc (C #[I J 0,Y ⟨#[]⟩,I J 0,I J 0] 60)=w1 at hG1 hG2 hB1 ⊢;have HI1:=aN (HI.out.below hB1);have HF1:Hi (dL R w w1):=dL.of_below hB1;have HG1:=aN hG1;have HG2:=aN hG2;have k0:w1.cell? (D nb 0 Z)=U (I J n.kind):=cell_of_row hG1 X;have k1:w1.cell? (D nb 1 Z)=U (I J n.tag):=cell_of_row hG1 X;have k2:w1.cell? (D nb 2 Z)=U (I J n.mode):=cell_of_row hG1 X;have k3:w1.cell? (D nb 3 Z)=U (S ka n.kids.length kc):=cell_of_row hG1 X;have hlN:=bm hG1;have hrb0:w.heap.size<=rb:=O;have hrbW:W.heap.size<=rb:=by have:=HI.out.bel.size;omega
 have HRB:=aN (And.intro hrb0 hrbW);clear hG1 hG2 hB1 c1 c2 hRl hnb hrb hrb0 hrbW;obtain⟨tv,hown,_⟩:=HI1.out.own;unfold dm at hown;have e1:w1.cell? (D R 1 Z)=U (S ta t.length tc):=by simp[Wc,hown]
 have e2:w1.cell? (D R 2 Z)=U (I J (x:Int)):=by simp[Wc,hown]
 have hR1:R<w1.heap.size:=aw e1;clear hown;by_cases hx3:x<t.length
 ·have hx3':(x:Int)<t.length:=O;have hxb:((x:Int)==(t.length:Int))=false:=So;have hxb2:decide ((x:Int)=(t.length:Int))=false:=aE O;by_cases hdp:dp<=12
  ·obtain⟨htx,g,o,hta,p0,p1,p2,p3⟩:=HTR.out x hx3;have hbW:=HI1.out.bel;have m0:w1.cell? (D g (o+x*4) Z)=U (I J (vl t x).kind):=(hbW.cell (aw p0)).trans p0;have m1:w1.cell? (D g (o+x*4+1) Z)=U (Y (vl t x).text):=(hbW.cell (aw p1)).trans p1;have m2:w1.cell? (D g (o+x*4+2) Z)=U (I J (vl t x).alt):=(hbW.cell (aw p2)).trans p2;have m3:w1.cell? (D g (o+x*4+3) Z)=U (I J (vl t x).kids):=(hbW.cell (aw p3)).trans p3;have hlG:=aw m0;simp only at hlG;rw[hta]at e1;have HTA:=aN hta;have hdb:decide (12<dp)=false:=aE O;have hdb2:decide (dp>12)=false:=aE O;have HFT:Hi (∀wq,H w1.heap.size w1 wq->Cs Tryz.prog 148 #[Ag #[I J n.kind,I J n.tag,I J n.mode,S ka n.kids.length kc],Ag #[I J (vl t x).kind,Y (vl t x).text,I J (vl t x).alt,I J (vl t x).kids]] wq fun e w'=>dB (gW n (vl t x)) wq e w'):=fun wq q=>BD n (vl t x) ka kc wq sn ((HL.out.below hbW).below q) htx hk8;have HST:Hi (∀wq,H w1.heap.size w1 wq->wq.cell? (D R 1 Z)=U (S (U (D g o Z)) t.length tc)/\wq.cell? (D R 2 Z)=U (I J (x:Int))/\wq.cell? (D nb 0 Z)=U (I J n.kind)/\wq.cell? (D nb 1 Z)=U (I J n.tag)/\wq.cell? (D nb 2 Z)=U (I J n.mode)/\wq.cell? (D nb 3 Z)=U (S ka n.kids.length kc)/\wq.cell? (D g (o+x*4) Z)=U (I J (vl t x).kind)/\wq.cell? (D g (o+x*4+1) Z)=U (Y (vl t x).text)/\wq.cell? (D g (o+x*4+2) Z)=U (I J (vl t x).alt)/\wq.cell? (D g (o+x*4+3) Z)=U (I J (vl t x).kids)):=fun wq q=>⟨(q.cell (aw e1)).trans e1,(q.cell (aw e2)).trans e2,(q.cell (aw k0)).trans k0,(q.cell (aw k1)).trans k1,(q.cell (aw k2)).trans k2,(q.cell (aw k3)).trans k3,(q.cell (aw m0)).trans m0,(q.cell (aw m1)).trans m1,(q.cell (aw m2)).trans m2,(q.cell (aw m3)).trans m3⟩;clear p0 p1 p2 p3 hta hbW;go_region_held_law (fun w'=>w'.cell? (D R 1 Z)=U (S (U (D g o Z)) t.length tc)/\w'.cell? (D R 2 Z)=U (I J (x:Int))/\w'.cell? (D nb 0 Z)=U (I J n.kind)/\w'.cell? (D nb 1 Z)=U (I J n.tag)/\w'.cell? (D nb 2 Z)=U (I J n.mode)/\w'.cell? (D nb 3 Z)=U (S ka n.kids.length kc)/\w'.cell? (D g (o+x*4) Z)=U (I J (vl t x).kind)/\w'.cell? (D g (o+x*4+1) Z)=U (Y (vl t x).text)/\w'.cell? (D g (o+x*4+2) Z)=U (I J (vl t x).alt)/\w'.cell? (D g (o+x*4+3) Z)=U (I J (vl t x).kids)) (first|exact HST.out _ (By).drew |exact HST.out _ HB2.out|go_keep) ((go_at_call 148;refine(HFT.out _ (By).drew).mono ?_;rintro e w2 ⟨rv,rfl,hrv,hb2⟩;have HRV:=aN hrv;have HB2:Hi (H w1.heap.size w1 w2):=(aY w1.heap.size w1).drew.trans hb2;clear hrv hb2));rename_i hHeld;clear hHeld;have HI2:=aN (HI1.out.below HB2.out);have HG3:=aN (ax HG2.out HB2.out);have HF2:Hi (dL R w w2):=HF1.out.trans (dL.of_below HB2.out);have hT2:=HST.out w2 HB2.out;have HT2:=aN hT2;(have hgR:g≠R:=by obtain⟨_,g',o',hta',p0,_⟩:=HTR.out x hx3;have hta:=HTA.out;rw[hta']at hta;injection hta with hta;injection hta with h1 h2 _;have:=aw p0;have:=HI.out.lo;simp only at*;omega);(have hgB:g≠rb:=by obtain⟨_,g',o',hta',p0,_⟩:=HTR.out x hx3;have hta:=HTA.out;rw[hta']at hta;injection hta with hta;injection hta with h1 h2 _;have:=aw p0;have:=HRB.out.2;simp only at*;omega);clear k0 k1 k2 k3 hlN e1 e2 hR1 m0 m1 m2 m3 hlG hT2 HFT HST
   cases rv with
   |false=>
    obtain⟨tv,hown,_⟩:=HI2.out.own
    unfold dm at hown
    have d1:w2.cell? (D R 1 Z)=U (S ta t.length tc):=by simp[Wc,hown]
    have d2:w2.cell? (D R 2 Z)=U (I J (x:Int)):=by simp[Wc,hown]
    have d2f:w2.frozen? (D R 2 Z)=false:=by simp[Wf,hown]
    have hRd:R<w2.heap.size:=aw d1
    have hz:=HG3.out
    have z0:w2.cell? (D rb 0 Z)=U (I J 0):=cell_of_row hz X
    have z1:w2.cell? (D rb 1 Z)=U (Y ⟨#[]⟩):=cell_of_row hz X
    have z2:w2.cell? (D rb 2 Z)=U (I J 0):=cell_of_row hz X
    have z3:w2.cell? (D rb 3 Z)=U (I J 0):=cell_of_row hz X
    have zf0:w2.frozen? (D rb 0 Z)=false:=by simp[Wf,hz]
    have zf1:w2.frozen? (D rb 1 Z)=false:=by simp[Wf,hz]
    have zf2:w2.frozen? (D rb 2 Z)=false:=by simp[Wf,hz]
    have zf3:w2.frozen? (D rb 3 Z)=false:=by simp[Wf,hz]
    have hlz:=bm hz
    clear hown hz
    have cT:=(HL.out.below HI2.out.bel).s.cTree
    have hgl:=aw cT
    simp only at hgl
    have HAT:Hi (∀wq,Cs Tryz.prog 60 #[I J x,If 291 (Po (U (sn .Tree)))] wq fun e w'=>e=Rt (aX x (sn .Tree))/\w'=wq):=fun wq=>fR x _ wq
    unfold aX at HAT
    have hneR:R≠rb:=fun q=>hneB q.symm
    have hgW:=aw HL.out.s.cTree
    simp only at hgW
    have hneG:9≠rb:=by have:=HRB.out.2;omega
    have kp:∀j,j≠rb->((((w2.setCell (D rb 0 Z) (I J 0)).setCell (D rb 1 Z) (Y ⟨#[]⟩)).setCell (D rb 2 Z) (I J 0)).setCell (D rb 3 Z) (I J 0)).drew.heap[j]? =w2.heap[j]? :=fun j hj=>by
     show((((w2.setCell (D rb 0 Z) (I J 0)).setCell (D rb 1 Z) (Y ⟨#[]⟩)).setCell (D rb 2 Z) (I J 0)).setCell (D rb 3 Z) (I J 0)).heap[j]? =_
     rw[aP _ _ _ _ hj,aP _ _ _ _ hj,aP _ _ _ _ hj,aP _ _ _ _ hj]
    have KEEP:=aN (And.intro ((bQ (a:=D R 2 Z) (kp R hneR)).trans d2) ((bQ (a:=D 9 0 Z) (kp _ hneG)).trans cT))
    clear kp
    obtain⟨hE9,hF9,hR9⟩:=HI2.out.new4 HG3.out Dc HRB.out.2 hneB HF2.out HRB.out.1 (I J 0) (Y ⟨#[]⟩) (I J 0) (I J 0)
    have HE9:=aN (hE9.below (By).drew)
    have HF9:=aN (hF9.trans (dL.of_below (By).drew))
    have HR9:Hi (((((w2.setCell (D rb 0 Z) (I J 0)).setCell (D rb 1 Z) (Y ⟨#[]⟩)).setCell (D rb 2 Z) (I J 0)).setCell (D rb 3 Z) (I J 0)).drew.heap[rb]? =U (C #[I J 0,Y ⟨#[]⟩,I J 0,I J 0] 60 (0,0))):=hR9
    clear hE9 hF9 hR9
    go_wp2_with fail
    go_region_held_law (fun w'=>w'.cell? (D R 2 Z)=U (I J (x:Int))/\w'.cell? (D 9 0 Z)=U (If 291 (Po (U (sn .Tree))))) (first|exact KEEP.out|go_keep) ((go_at_call 60;refine(HAT.out _).mono ?_;rintro e w3 ⟨rfl,rfl⟩))
    all_goals
     rename_i hHeld
     clear hHeld
     generalize((((w2.setCell (D rb 0 Z) (I J 0)).setCell (D rb 1 Z) (Y ⟨#[]⟩)).setCell (D rb 2 Z) (I J 0)).setCell (D rb 3 Z) (I J 0)).drew=w9 at HE9 HF9 HR9 ⊢
     have r0:w9.cell? (D rb 0 Z)=U (I J 0):=cell_of_row HR9.out X
     have r1:w9.cell? (D rb 1 Z)=U (Y ⟨#[]⟩):=cell_of_row HR9.out X
     have r2:w9.cell? (D rb 2 Z)=U (I J 0):=cell_of_row HR9.out X
     have r3:w9.cell? (D rb 3 Z)=U (I J 0):=cell_of_row HR9.out X
     go_wp2
     refine aS (v:=Tu #[Ag #[I J 0,Y ⟨#[]⟩,I J 0,I J 0],aX x (sn .Tree)]) (by simp[results,Tryz.results109,go_sem,aX,r0,r1,r2,r3]) X ?_
     exact⟨HF9.out,.inr ⟨fun h=>Bool.noConfusion (HRV.out.2 h.2.2),X,HE9.out⟩⟩
   |true=>
    have HFP:Hi (gW n (vl t x)):=HRV.out.1 X
    obtain⟨tv,hown,_⟩:=HI2.out.own
    unfold dm at hown
    have d1:w2.cell? (D R 1 Z)=U (S ta t.length tc):=by simp[Wc,hown]
    have d2:w2.cell? (D R 2 Z)=U (I J (x:Int)):=by simp[Wc,hown]
    have d2f:w2.frozen? (D R 2 Z)=false:=by simp[Wf,hown]
    have hRd:R<w2.heap.size:=aw d1
    have hz:=HG3.out
    have z0:w2.cell? (D rb 0 Z)=U (I J 0):=cell_of_row hz X
    have z1:w2.cell? (D rb 1 Z)=U (Y ⟨#[]⟩):=cell_of_row hz X
    have z2:w2.cell? (D rb 2 Z)=U (I J 0):=cell_of_row hz X
    have z3:w2.cell? (D rb 3 Z)=U (I J 0):=cell_of_row hz X
    have zf0:w2.frozen? (D rb 0 Z)=false:=by simp[Wf,hz]
    have zf1:w2.frozen? (D rb 1 Z)=false:=by simp[Wf,hz]
    have zf2:w2.frozen? (D rb 2 Z)=false:=by simp[Wf,hz]
    have zf3:w2.frozen? (D rb 3 Z)=false:=by simp[Wf,hz]
    have hlz:=bm hz
    clear hown hz
    have hneR:R≠rb:=fun q=>hneB q.symm
    have hI3:=HI2.out.setNext (x+1)
    have hF3:=HF2.out.trans (dL.set (R:=R) (w:=w2) 2 (I J ((x+1:Nat):Int)))
    have hG4:(w2.setCell (D R 2 Z) (I J ((x+1:Nat):Int))).heap[rb]? =_:=(dL.set (R:=R) (w:=w2) 2 (I J ((x+1:Nat):Int))) rb _ _ hneB Dc HG3.out
    have hgb:(w2.setCell (D R 2 Z) (I J ((x+1:Nat):Int))).heap[g]? =w2.heap[g]? :=aP _ _ _ _ hgR
    rw[show((x+1:Nat):Int)=(x:Int)+1 by omega]at hI3 hF3 hG4 hgb
    have hT3:(w2.setCell (D R 2 Z) (I J ((x:Int)+1))).cell? (D g (o+x*4) Z)=U (I J (vl t x).kind)/\(w2.setCell (D R 2 Z) (I J ((x:Int)+1))).cell? (D g (o+x*4+1) Z)=U (Y (vl t x).text)/\(w2.setCell (D R 2 Z) (I J ((x:Int)+1))).cell? (D g (o+x*4+2) Z)=U (I J (vl t x).alt)/\(w2.setCell (D R 2 Z) (I J ((x:Int)+1))).cell? (D g (o+x*4+3) Z)=U (I J (vl t x).kids):=by
     obtain⟨_,_,_,_,_,_,q0,q1,q2,q3⟩:=HT2.out
     exact⟨(bQ (a:=D g (o+x*4) Z) hgb).trans q0,(bQ (a:=D g (o+x*4+1) Z) hgb).trans q1,(bQ (a:=D g (o+x*4+2) Z) hgb).trans q2,(bQ (a:=D g (o+x*4+3) Z) hgb).trans q3⟩
    have HI3:=aN hI3
    have HF3:=aN hF3
    have HG4:=aN hG4
    have HT3:=aN hT3
    clear hI3 hF3 hG4 hT3 hgb z0 z1 z2 z3 zf0 zf1 zf2 zf3 hlz
    go_upto_region 4 with fail
    generalize w2.setCell (D R 2 Z) (I J ((x:Int)+1))=w3 at HI3 HF3 HG4 HT3 ⊢
    clear d1 d2 d2f hRd
    obtain⟨tv,hown,_⟩:=HI3.out.own
    unfold dm at hown
    have d1:w3.cell? (D R 1 Z)=U (S (U (D g o Z)) t.length tc):=by rw[<-HTA.out];simp[Wc,hown]
    have d2:w3.cell? (D R 2 Z)=U (I J ((x:Int)+1)):=by simp[Wc,hown]
    have hRd:R<w3.heap.size:=aw d1
    have hz:=HG4.out
    have z0:w3.cell? (D rb 0 Z)=U (I J 0):=cell_of_row hz X
    have z1:w3.cell? (D rb 1 Z)=U (Y ⟨#[]⟩):=cell_of_row hz X
    have z2:w3.cell? (D rb 2 Z)=U (I J 0):=cell_of_row hz X
    have z3:w3.cell? (D rb 3 Z)=U (I J 0):=cell_of_row hz X
    have zf0:w3.frozen? (D rb 0 Z)=false:=by simp[Wf,hz]
    have zf1:w3.frozen? (D rb 1 Z)=false:=by simp[Wf,hz]
    have zf2:w3.frozen? (D rb 2 Z)=false:=by simp[Wf,hz]
    have zf3:w3.frozen? (D rb 3 Z)=false:=by simp[Wf,hz]
    have hlz:=bm hz
    obtain⟨m0,m1,m2,m3⟩:=HT3.out
    have hlG:=aw m0
    simp only at hlG
    have kp:∀j,j≠rb->((((w3.setCell (D rb 0 Z) (I J (vl t x).kind)).setCell (D rb 1 Z) (Y (vl t x).text)).setCell (D rb 2 Z) (I J (vl t x).alt)).setCell (D rb 3 Z) (I J (vl t x).kids)).drew.heap[j]? =w3.heap[j]? :=fun j hj=>by
     show((((w3.setCell (D rb 0 Z) (I J (vl t x).kind)).setCell (D rb 1 Z) (Y (vl t x).text)).setCell (D rb 2 Z) (I J (vl t x).alt)).setCell (D rb 3 Z) (I J (vl t x).kids)).heap[j]? =_
     rw[aP _ _ _ _ hj,aP _ _ _ _ hj,aP _ _ _ _ hj,aP _ _ _ _ hj]
    have KEEP:Hi (((((w3.setCell (D rb 0 Z) (I J (vl t x).kind)).setCell (D rb 1 Z) (Y (vl t x).text)).setCell (D rb 2 Z) (I J (vl t x).alt)).setCell (D rb 3 Z) (I J (vl t x).kids)).drew.cell? (D R 1 Z)=U (S (U (D g o Z)) t.length tc)/\((((w3.setCell (D rb 0 Z) (I J (vl t x).kind)).setCell (D rb 1 Z) (Y (vl t x).text)).setCell (D rb 2 Z) (I J (vl t x).alt)).setCell (D rb 3 Z) (I J (vl t x).kids)).drew.cell? (D R 2 Z)=U (I J ((x:Int)+1))/\((((w3.setCell (D rb 0 Z) (I J (vl t x).kind)).setCell (D rb 1 Z) (Y (vl t x).text)).setCell (D rb 2 Z) (I J (vl t x).alt)).setCell (D rb 3 Z) (I J (vl t x).kids)).drew.cell? (D g (o+x*4) Z)=U (I J (vl t x).kind)/\((((w3.setCell (D rb 0 Z) (I J (vl t x).kind)).setCell (D rb 1 Z) (Y (vl t x).text)).setCell (D rb 2 Z) (I J (vl t x).alt)).setCell (D rb 3 Z) (I J (vl t x).kids)).drew.cell? (D g (o+x*4+1) Z)=U (Y (vl t x).text)/\((((w3.setCell (D rb 0 Z) (I J (vl t x).kind)).setCell (D rb 1 Z) (Y (vl t x).text)).setCell (D rb 2 Z) (I J (vl t x).alt)).setCell (D rb 3 Z) (I J (vl t x).kids)).drew.cell? (D g (o+x*4+2) Z)=U (I J (vl t x).alt)/\((((w3.setCell (D rb 0 Z) (I J (vl t x).kind)).setCell (D rb 1 Z) (Y (vl t x).text)).setCell (D rb 2 Z) (I J (vl t x).alt)).setCell (D rb 3 Z) (I J (vl t x).kids)).drew.cell? (D g (o+x*4+3) Z)=U (I J (vl t x).kids)):=
     ⟨(bQ (a:=D R 1 Z) (kp R hneR)).trans d1,(bQ (a:=D R 2 Z) (kp R hneR)).trans d2,(bQ (a:=D g (o+x*4) Z) (kp g hgB)).trans m0,(bQ (a:=D g (o+x*4+1) Z) (kp g hgB)).trans m1,(bQ (a:=D g (o+x*4+2) Z) (kp g hgB)).trans m2,(bQ (a:=D g (o+x*4+3) Z) (kp g hgB)).trans m3⟩
    obtain⟨hE9,hF9,hR9⟩:=HI3.out.new4 HG4.out Dc HRB.out.2 hneB HF3.out HRB.out.1 (I J (vl t x).kind) (Y (vl t x).text) (I J (vl t x).alt) (I J (vl t x).kids)
    have HE9:=aN (hE9.below (By).drew)
    have HF9:=aN (hF9.trans (dL.of_below (By).drew))
    have HR9:Hi (((((w3.setCell (D rb 0 Z) (I J (vl t x).kind)).setCell (D rb 1 Z) (Y (vl t x).text)).setCell (D rb 2 Z) (I J (vl t x).alt)).setCell (D rb 3 Z) (I J (vl t x).kids)).drew.heap[rb]? =U (C #[I J (vl t x).kind,Y (vl t x).text,I J (vl t x).alt,I J (vl t x).kids] 60 (0,0))):=hR9
    clear hE9 hF9 hR9 kp hz hown
    have hwr:IntKind.i64.wrap ((x:Int)+1-1)=(x:Int):=by
     rw[show(x:Int)+1-1=x by omega]
     simp[IntKind.wrap,IntKind.bits,IntKind.signed]
     omega
    have hwr2:IntKind.i64.wrap (x:Int)=(x:Int):=by
     simp[IntKind.wrap,IntKind.bits,IntKind.signed]
     omega
    have hx0:0<=(x:Int):=O
    go_region_held_law (fun w'=>w'.cell? (D R 1 Z)=U (S (U (D g o Z)) t.length tc)/\w'.cell? (D R 2 Z)=U (I J ((x:Int)+1))/\w'.cell? (D g (o+x*4) Z)=U (I J (vl t x).kind)/\w'.cell? (D g (o+x*4+1) Z)=U (Y (vl t x).text)/\w'.cell? (D g (o+x*4+2) Z)=U (I J (vl t x).alt)/\w'.cell? (D g (o+x*4+3) Z)=U (I J (vl t x).kids)) (first|exact KEEP.out|go_keep) (fail)
    all_goals
     rename_i hHeld
     clear hHeld
     generalize((((w3.setCell (D rb 0 Z) (I J (vl t x).kind)).setCell (D rb 1 Z) (Y (vl t x).text)).setCell (D rb 2 Z) (I J (vl t x).alt)).setCell (D rb 3 Z) (I J (vl t x).kids)).drew=w9 at HE9 HF9 HR9 ⊢
     have r0:w9.cell? (D rb 0 Z)=U (I J (vl t x).kind):=cell_of_row HR9.out X
     have r1:w9.cell? (D rb 1 Z)=U (Y (vl t x).text):=cell_of_row HR9.out X
     have r2:w9.cell? (D rb 2 Z)=U (I J (vl t x).alt):=cell_of_row HR9.out X
     have r3:w9.cell? (D rb 3 Z)=U (I J (vl t x).kids):=cell_of_row HR9.out X
     go_wp2
     refine aS (v:=Tu #[Ag #[I J (vl t x).kind,Y (vl t x).text,I J (vl t x).alt,I J (vl t x).kids],.nilIface]) (by simp[results,Tryz.results109,go_sem,r0,r1,r2,r3]) X ?_
     exact⟨HF9.out,.inl ⟨hx3,hdp,HFP.out,X,HE9.out⟩⟩
  have hdp':12<dp:=O;go_quiet (fail);have HI2:=aN (HI1.out.below (Go.below_drewN (aY w1.heap.size w1) nq));have HG3:=aN (ax HG2.out (Go.below_drewN (aY w1.heap.size w1) nq));have HF2:Hi (dL R w (w1.drewN nq)):=HF1.out.trans (dL.of_below (Go.below_drewN By nq));generalize w1.drewN nq=w2 at HI2 HG3 HF2 ⊢;clear k0 k1 k2 k3 hlN e1 e2 hR1;obtain⟨tv,hown,_⟩:=HI2.out.own;unfold dm at hown;have d1:w2.cell? (D R 1 Z)=U (S ta t.length tc):=by simp[Wc,hown]
  have d2:w2.cell? (D R 2 Z)=U (I J (x:Int)):=by simp[Wc,hown]
  have d2f:w2.frozen? (D R 2 Z)=false:=by simp[Wf,hown]
  have hRd:R<w2.heap.size:=aw d1;have hz:=HG3.out;have z0:w2.cell? (D rb 0 Z)=U (I J 0):=cell_of_row hz X;have z1:w2.cell? (D rb 1 Z)=U (Y ⟨#[]⟩):=cell_of_row hz X;have z2:w2.cell? (D rb 2 Z)=U (I J 0):=cell_of_row hz X;have z3:w2.cell? (D rb 3 Z)=U (I J 0):=cell_of_row hz X;have zf0:w2.frozen? (D rb 0 Z)=false:=by simp[Wf,hz]
  have zf1:w2.frozen? (D rb 1 Z)=false:=by simp[Wf,hz]
  have zf2:w2.frozen? (D rb 2 Z)=false:=by simp[Wf,hz]
  have zf3:w2.frozen? (D rb 3 Z)=false:=by simp[Wf,hz]
  have hlz:=bm hz;clear hown hz;have cT:=(HL.out.below HI2.out.bel).s.cTree;have hgl:=aw cT;simp only at hgl;have HAT:Hi (∀wq,Cs Tryz.prog 60 #[I J x,If 291 (Po (U (sn .Tree)))] wq fun e w'=>e=Rt (aX x (sn .Tree))/\w'=wq):=fun wq=>fR x _ wq;unfold aX at HAT;have hneR:R≠rb:=fun q=>hneB q.symm;have hgW:=aw HL.out.s.cTree;simp only at hgW;have hneG:9≠rb:=by have:=HRB.out.2;omega
  have kp:∀j,j≠rb->((((w2.setCell (D rb 0 Z) (I J 0)).setCell (D rb 1 Z) (Y ⟨#[]⟩)).setCell (D rb 2 Z) (I J 0)).setCell (D rb 3 Z) (I J 0)).drew.heap[j]? =w2.heap[j]? :=fun j hj=>by show((((w2.setCell (D rb 0 Z) (I J 0)).setCell (D rb 1 Z) (Y ⟨#[]⟩)).setCell (D rb 2 Z) (I J 0)).setCell (D rb 3 Z) (I J 0)).heap[j]? =_;rw[aP _ _ _ _ hj,aP _ _ _ _ hj,aP _ _ _ _ hj,aP _ _ _ _ hj]
  have KEEP:=aN (And.intro ((bQ (a:=D R 2 Z) (kp R hneR)).trans d2) ((bQ (a:=D 9 0 Z) (kp _ hneG)).trans cT));clear kp;obtain⟨hE9,hF9,hR9⟩:=HI2.out.new4 HG3.out Dc HRB.out.2 hneB HF2.out HRB.out.1 (I J 0) (Y ⟨#[]⟩) (I J 0) (I J 0);have HE9:=aN (hE9.below (By).drew);have HF9:=aN (hF9.trans (dL.of_below (By).drew));have HR9:Hi (((((w2.setCell (D rb 0 Z) (I J 0)).setCell (D rb 1 Z) (Y ⟨#[]⟩)).setCell (D rb 2 Z) (I J 0)).setCell (D rb 3 Z) (I J 0)).drew.heap[rb]? =U (C #[I J 0,Y ⟨#[]⟩,I J 0,I J 0] 60 (0,0))):=hR9;clear hE9 hF9 hR9;go_wp2_with fail;go_region_held_law (fun w'=>w'.cell? (D R 2 Z)=U (I J (x:Int))/\w'.cell? (D 9 0 Z)=U (If 291 (Po (U (sn .Tree))))) (first|exact KEEP.out|go_keep) ((go_at_call 60;refine(HAT.out _).mono ?_;rintro e w3 ⟨rfl,rfl⟩));all_goals rename_i hHeld;clear hHeld;generalize((((w2.setCell (D rb 0 Z) (I J 0)).setCell (D rb 1 Z) (Y ⟨#[]⟩)).setCell (D rb 2 Z) (I J 0)).setCell (D rb 3 Z) (I J 0)).drew=w9 at HE9 HF9 HR9 ⊢;have r0:w9.cell? (D rb 0 Z)=U (I J 0):=cell_of_row HR9.out X;have r1:w9.cell? (D rb 1 Z)=U (Y ⟨#[]⟩):=cell_of_row HR9.out X;have r2:w9.cell? (D rb 2 Z)=U (I J 0):=cell_of_row HR9.out X;have r3:w9.cell? (D rb 3 Z)=U (I J 0):=cell_of_row HR9.out X;go_wp2;refine aS (v:=Tu #[Ag #[I J 0,Y ⟨#[]⟩,I J 0,I J 0],aX x (sn .Tree)]) (by simp[results,Tryz.results109,go_sem,aX,r0,r1,r2,r3]) X ?_;exact⟨HF9.out,.inr ⟨fun h=>O,X,HE9.out⟩⟩
 obtain rfl:x=t.length:=O;go_quiet (fail);have HI2:=aN (HI1.out.below (Go.below_drewN (aY w1.heap.size w1) nq));have HG3:=aN (ax HG2.out (Go.below_drewN (aY w1.heap.size w1) nq));have HF2:Hi (dL R w (w1.drewN nq)):=HF1.out.trans (dL.of_below (Go.below_drewN By nq));generalize w1.drewN nq=w2 at HI2 HG3 HF2 ⊢;clear k0 k1 k2 k3 hlN e1 e2 hR1;obtain⟨tv,hown,_⟩:=HI2.out.own;unfold dm at hown;have d1:w2.cell? (D R 1 Z)=U (S ta t.length tc):=by simp[Wc,hown]
 have d2:w2.cell? (D R 2 Z)=U (I J (t.length:Int)):=by simp[Wc,hown]
 have d2f:w2.frozen? (D R 2 Z)=false:=by simp[Wf,hown]
 have hRd:R<w2.heap.size:=aw d1;have hz:=HG3.out;have z0:w2.cell? (D rb 0 Z)=U (I J 0):=cell_of_row hz X;have z1:w2.cell? (D rb 1 Z)=U (Y ⟨#[]⟩):=cell_of_row hz X;have z2:w2.cell? (D rb 2 Z)=U (I J 0):=cell_of_row hz X;have z3:w2.cell? (D rb 3 Z)=U (I J 0):=cell_of_row hz X;have zf0:w2.frozen? (D rb 0 Z)=false:=by simp[Wf,hz]
 have zf1:w2.frozen? (D rb 1 Z)=false:=by simp[Wf,hz]
 have zf2:w2.frozen? (D rb 2 Z)=false:=by simp[Wf,hz]
 have zf3:w2.frozen? (D rb 3 Z)=false:=by simp[Wf,hz]
 have hlz:=bm hz;clear hown hz;have cT:=(HL.out.below HI2.out.bel).s.cTree;have hgl:=aw cT;simp only at hgl;have HAT:Hi (∀wq,Cs Tryz.prog 60 #[I J (t.length:Int),If 291 (Po (U (sn .Tree)))] wq fun e w'=>e=Rt (aX t.length (sn .Tree))/\w'=wq):=fun wq=>fR t.length _ wq;unfold aX at HAT;have hneR:R≠rb:=fun q=>hneB q.symm;have hgW:=aw HL.out.s.cTree;simp only at hgW;have hneG:9≠rb:=by have:=HRB.out.2;omega
 have kp:∀j,j≠rb->((((w2.setCell (D rb 0 Z) (I J 0)).setCell (D rb 1 Z) (Y ⟨#[]⟩)).setCell (D rb 2 Z) (I J 0)).setCell (D rb 3 Z) (I J 0)).drew.heap[j]? =w2.heap[j]? :=fun j hj=>by show((((w2.setCell (D rb 0 Z) (I J 0)).setCell (D rb 1 Z) (Y ⟨#[]⟩)).setCell (D rb 2 Z) (I J 0)).setCell (D rb 3 Z) (I J 0)).heap[j]? =_;rw[aP _ _ _ _ hj,aP _ _ _ _ hj,aP _ _ _ _ hj,aP _ _ _ _ hj]
 have KEEP:=aN (And.intro ((bQ (a:=D R 2 Z) (kp R hneR)).trans d2) ((bQ (a:=D 9 0 Z) (kp _ hneG)).trans cT));clear kp;obtain⟨hE9,hF9,hR9⟩:=HI2.out.new4 HG3.out Dc HRB.out.2 hneB HF2.out HRB.out.1 (I J 0) (Y ⟨#[]⟩) (I J 0) (I J 0);have HE9:=aN (hE9.below (By).drew);have HF9:=aN (hF9.trans (dL.of_below (By).drew));have HR9:Hi (((((w2.setCell (D rb 0 Z) (I J 0)).setCell (D rb 1 Z) (Y ⟨#[]⟩)).setCell (D rb 2 Z) (I J 0)).setCell (D rb 3 Z) (I J 0)).drew.heap[rb]? =U (C #[I J 0,Y ⟨#[]⟩,I J 0,I J 0] 60 (0,0))):=hR9;clear hE9 hF9 hR9;go_wp2_with fail;go_region_held_law (fun w'=>w'.cell? (D R 2 Z)=U (I J (t.length:Int))/\w'.cell? (D 9 0 Z)=U (If 291 (Po (U (sn .Tree))))) (first|exact KEEP.out|go_keep) ((go_at_call 60;refine(HAT.out _).mono ?_;rintro e w3 ⟨rfl,rfl⟩));all_goals rename_i hHeld;clear hHeld;generalize((((w2.setCell (D rb 0 Z) (I J 0)).setCell (D rb 1 Z) (Y ⟨#[]⟩)).setCell (D rb 2 Z) (I J 0)).setCell (D rb 3 Z) (I J 0)).drew=w9 at HE9 HF9 HR9 ⊢;have r0:w9.cell? (D rb 0 Z)=U (I J 0):=cell_of_row HR9.out X;have r1:w9.cell? (D rb 1 Z)=U (Y ⟨#[]⟩):=cell_of_row HR9.out X;have r2:w9.cell? (D rb 2 Z)=U (I J 0):=cell_of_row HR9.out X;have r3:w9.cell? (D rb 3 Z)=U (I J 0):=cell_of_row HR9.out X;go_wp2;refine aS (v:=Tu #[Ag #[I J 0,Y ⟨#[]⟩,I J 0,I J 0],aX t.length (sn .Tree)]) (by simp[results,Tryz.results109,go_sem,aX,r0,r1,r2,r3]) X ?_;exact⟨HF9.out,.inr ⟨fun h=>O,X,HE9.out⟩⟩
end Go.Proofs.YtkkicodfpekbgaaGreatDoor
