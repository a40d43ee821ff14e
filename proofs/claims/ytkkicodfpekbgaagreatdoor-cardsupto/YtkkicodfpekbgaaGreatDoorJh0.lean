/-
Several texts in one.
-/
import Derived.Test.YtkkicodfpekbgaaGreatDoorJg1
open Go.Value renaming int->I,string->Y,slice->S,pointer->Po,bool->Bo,agg->Ag,tuple->Tu,iface->If
open Go.IntKind renaming i64->J
open Go.Obj renaming cells->C
open Go.Ending renaming returned->Rt
open Option renaming some->U,none->Z
open Go renaming World->M,Calls->Cs,Addr->Ad,Value->Vv
open _root_ renaming ByteArray->Q,Option->Oo,List->Ls
open Go.RowKit renaming Below->H,intOf->Io,Hid->Hi
open Go.World renaming cell?->Wc,frozen?->Wf
open Go.Act renaming put->Ap
open Go.Addr renaming mk->D
set_option linter.unusedSimpArgs false
set_option linter.unusedVariables false
set_option maxRecDepth 100000
set_option maxHeartbeats 8000000
namespace Go.Proofs.YtkkicodfpekbgaaGreatDoor
open Go.Proofs.Tryz
open Go.RowKit
def gK(sn:Sn->Ad):Oo Int->Vv
 |none=> .nilIface
 |some p=>aX p (sn .Order)
structure Sz(t:Ls Vl):Prop where
 len:t.length<=16777000
 txt:∀j,j<t.length->(vl t j).text.size<=140737488355328
structure Iy(E:dF)(W:M)(a ta:Oo Ad):Prop where
 sch:ju W a E.s
 right:cd E.s
 sok:ie E.s
 ok:∀k t,E.ok k t=true↔aR k t
 tree:pX W ta E.t
 size:Sz E.t
 kids:∀j,j<E.t.length->(vl E.t j).kids<=9223372036854775807
structure EC(E:dF)(W:M)(a ta:Oo Ad)(sn:Sn->Ad):Prop where
 wc:Iy E W a ta
 lay:ls W sn
theorem EC.txt{E:dF}{W:M}{a ta:Oo Ad}{sn:Sn->Ad}(h:EC E W a ta sn){j:Nat}(hj:j<E.t.length):(vl E.t j).text.size<=140737488355328:=h.wc.size.txt j hj
theorem EC.len{E:dF}{W:M}{a ta:Oo Ad}{sn:Sn->Ad}(h:EC E W a ta sn):E.t.length<=16777000:=h.wc.size.len
def fm(E:dF)(W:M)(R:Nat)(a:Oo Ad)(c:Nat)(ta:Oo Ad)(tc:Nat)(sn:Sn->Ad)(r:cP)(t0:Q)(l0:Bool)(o0:Oo Int)(w:M)(e:Ending)(w':M):Prop:=
 dL R w w'/\((∃b x u t1 l1 o1,r=U (b,x,u)/\e=Rt .nilIface/\nk t0 l0 o0 b u t1 l1 o1/\gS W w' R a E.s.length c ta E.t.length tc x t1 l1 (gK sn o1))\/
  (r=Z/\∃(p:Int) (x:Nat) (t1:Q) (l1:Bool) (ov:Vv),e=Rt (aX p (sn .Tree))/\gS W w' R a E.s.length c ta E.t.length tc x t1 l1 ov))
theorem fm.of{E:dF}{W:M}{R:Nat}{a:Oo Ad}{c:Nat}{ta:Oo Ad}{tc:Nat}{sn:Sn->Ad}{r:cP}{t0:Q}{l0:Bool}{o0:Oo Int}{w w1 w':M}{e:Ending}(h:fm E W R a c ta tc sn r t0 l0 o0 w1 e w')(hf:dL R w w1):fm E W R a c ta tc sn r t0 l0 o0 w e w':=⟨hf.trans h.1,h.2⟩
def lC(E:dF)(W:M)(R:Nat)(a:Oo Ad)(c:Nat)(ta:Oo Ad)(tc:Nat)(sn:Sn->Ad)(f:Nat):Prop:=
 ∀(i x:Nat) (dp:Int) (r:cP) (t0:Q) (l0:Bool) (o0:Oo Int) (w:M),wrF E f i x dp=U r->i<E.s.length->x<=E.t.length->E.t.length+1<=f+x->1<=f->1<=dp->dp<=13->t0.size<=4000->
  gS W w R a E.s.length c ta E.t.length tc x t0 l0 (gK sn o0)->
  Cs prog 75 #[Po (U (D R 0 Z)),I J i,I J dp] w fun e w'=>fm E W R a c ta tc sn r t0 l0 o0 w e w'
def zn(E:dF)(W:M)(R:Nat)(a:Oo Ad)(c:Nat)(ta:Oo Ad)(tc:Nat)(k:Kd)(x:Nat)(t1:Q)(l1:Bool)(ov:Vv)(w:M)(e:Ending)(w':M):Prop:=
 dL R w w'/\((LO E k x/\e=Rt (Bo true)/\gS W w' R a E.s.length c ta E.t.length tc (x+1) t1 l1 ov)\/(¬LO E k x/\e=Rt (Bo false)/\gS W w' R a E.s.length c ta E.t.length tc x t1 l1 ov))
theorem wh(E:dF)(W:M)(R:Nat)(a:Oo Ad)(c:Nat)(ta:Oo Ad)(tc:Nat)(sn:Sn->Ad)(hc:EC E W a ta sn)(htc:E.t.length<=tc)(i:Nat)(hi:i<E.s.length)(k:Kd)(hk:k∈(nd E.s i).kids)(x:Nat)(t1:Q)(l1:Bool)(ov:Vv)(w:M)(hx:x<=E.t.length)(hI:gS W w R a E.s.length c ta E.t.length tc x t1 l1 ov):Cs prog 183 #[Po (U (D R 0 Z)),Ag #[I J k.node,Bo k.opt,Y k.dflt]] w fun e w'=>zn E W R a c ta tc k x t1 l1 ov w e w':=by
 have HC:=aN hc;have HI:=aN hI;have hlen:=hc.len;have hwn:=hc.wc.right.fine.within i hi k hk;obtain⟨j,hj,hjk⟩:=E9 hk;have hKid:=(hc.wc.right.2.2.1 i hi).2.2.2 j hj;have hDf:=(hc.wc.right.2.2.2.2 i hi).2 j hj;rw[hjk]at hKid hDf;obtain⟨t,ht⟩:∃t:Nat,k.node=t:=⟨k.node.toNat,O⟩;have htn:k.node.toNat=t:=O;have htl:t<E.s.length:=O;rw[htn]at hDf;have hod:=hKid.2.2.2;have hyz:=hc.wc.sok i hi k hk;have HLO:Hi (LO E k x↔x<E.t.length/\((k.opt=true/\vl E.t x=⟨15,bh,0,0⟩)\/(k.dflt.size≠0/\∃u,cu (nd E.s t) k.dflt u/\vl E.t x=⟨(nd E.s t).kind,u,0,0⟩))):=by unfold LO;rw[htn];exact px
 obtain⟨tv,hown,_⟩:=hI.own;unfold dm at hown;have c1:w.cell? (D R 1 Z)=U (S ta E.t.length tc):=by simp[Wc,hown]
 have hRl:R<w.heap.size:=aw c1;rw[ht];have hB1:H w.heap.size w (w.alloc (C #[I J t,Bo k.opt,Y k.dflt] 55)):=Be;have hG1:(w.alloc (C #[I J t,Bo k.opt,Y k.dflt] 55)).heap[w.heap.size]? =U (C #[I J t,Bo k.opt,Y k.dflt] 55 (0,0)):=aA w _;clear hI hown hc hwn hj hjk hKid hk c1 htn ht;go_enter func183,ntmps183;go_upto_region 1 with fail;obtain⟨kb,hkb⟩:∃kb,w.heap.size=kb:=Ey;rw[hkb]at hG1 ⊢;generalize w.alloc (C #[I J t,Bo k.opt,Y k.dflt] 55)=w1 at hB1 hG1 ⊢;have hneK:kb≠R:=O;have HB1:=aN hB1;have HG1:=aN hG1;have HI1:=aN (HI.below hB1);obtain⟨tv,hown,_⟩:=HI1.out.own;unfold dm at hown;have d1:w1.cell? (D R 1 Z)=U (S ta E.t.length tc):=by simp[Wc,hown]
 have d2:w1.cell? (D R 2 Z)=U (I J (x:Int)):=by simp[Wc,hown]
 have hR1:R<w1.heap.size:=aw d1;have hxb:x<E.t.length\/x=E.t.length:=O;clear hB1 hG1 hown;rcases hxb with hx3|hx3
 ·have hx3':(x:Int)<(E.t.length:Int):=O;have hxb:((x:Int)==(E.t.length:Int))=false:=So;have hxb2:decide ((x:Int)=(E.t.length:Int))=false:=aE O;go_quiet (fail);have HI2:=aN (HI1.below (Go.below_drewN (aY w1.heap.size w1) nq));have HG2:=aN (ax HG1 (Go.below_drewN (aY w1.heap.size w1) nq));have HB2:Hi (H w.heap.size w (w1.drewN nq)):=Go.below_drewN HB1 nq;generalize w1.drewN nq=w2 at HI2 HG2 HB2 ⊢;clear d1 d2 hR1;obtain⟨g,o,hta,p0,p1,p2,p3⟩:=HC.wc.tree x hx3;have hbW:=HI2.out.bel;have m0:w2.cell? (D g (o+x*4) Z)=U (I J (vl E.t x).kind):=(hbW.cell (aw p0)).trans p0;have m1:w2.cell? (D g (o+x*4+1) Z)=U (Y (vl E.t x).text):=(hbW.cell (aw p1)).trans p1;have m2:w2.cell? (D g (o+x*4+2) Z)=U (I J (vl E.t x).alt):=(hbW.cell (aw p2)).trans p2;have m3:w2.cell? (D g (o+x*4+3) Z)=U (I J (vl E.t x).kids):=(hbW.cell (aw p3)).trans p3;have hlG:=aw m0;simp only at hlG;obtain⟨tv,hown,_⟩:=HI2.out.own;unfold dm at hown;have d1:w2.cell? (D R 1 Z)=U (S (U (D g o Z)) E.t.length tc):=by rw[<-hta];simp[Wc,hown]
  have d2:w2.cell? (D R 2 Z)=U (I J (x:Int)):=by simp[Wc,hown]
  have hR2:R<w2.heap.size:=aw d1;obtain⟨v,hv⟩:∃v,vl E.t x=v:=Ey;have HV:=aN hv;rw[hv]at m0 m1 m2 m3;have hx0:0<=(x:Int):=O;clear hown hbW p0 p1 p2 p3 hv hta;go_wp2_with fail;have HST:Hi (∀wq,H w2.heap.size w2 wq->wq.cell? (D R 1 Z)=U (S (U (D g o Z)) E.t.length tc)/\wq.cell? (D R 2 Z)=U (I J (x:Int))/\wq.cell? (D g (o+x*4) Z)=U (I J v.kind)/\wq.cell? (D g (o+x*4+1) Z)=U (Y v.text)/\wq.cell? (D g (o+x*4+2) Z)=U (I J v.alt)/\wq.cell? (D g (o+x*4+3) Z)=U (I J v.kids)):=fun wq q=>⟨(q.cell (aw d1)).trans d1,(q.cell (aw d2)).trans d2,(q.cell (aw m0)).trans m0,(q.cell (aw m1)).trans m1,(q.cell (aw m2)).trans m2,(q.cell (aw m3)).trans m3⟩;go_region_held_law (fun w'=>w'.cell? (D R 1 Z)=U (S (U (D g o Z)) E.t.length tc)/\w'.cell? (D R 2 Z)=U (I J (x:Int))/\w'.cell? (D g (o+x*4) Z)=U (I J v.kind)/\w'.cell? (D g (o+x*4+1) Z)=U (Y v.text)/\w'.cell? (D g (o+x*4+2) Z)=U (I J v.alt)/\w'.cell? (D g (o+x*4+3) Z)=U (I J v.kids)) (first|exact HST _ (By).drew |exact HST _ ((By).drew.alloc Sq _)|go_keep) (fail);rename_i hHeld;clear hHeld;have hB3:H w2.heap.size w2 (w2.alloc (C #[I J v.kind,Y v.text,I J v.alt,I J v.kids] 60)).drew:=(Be).drew;have hG3:(w2.alloc (C #[I J v.kind,Y v.text,I J v.alt,I J v.kids] 60)).drew.heap[w2.heap.size]? =U (C #[I J v.kind,Y v.text,I J v.alt,I J v.kids] 60 (0,0)):=aA w2 _;obtain⟨vb,hvb⟩:∃vb,w2.heap.size=vb:=Ey;rw[hvb]at hG3 ⊢;generalize(w2.alloc (C #[I J v.kind,Y v.text,I J v.alt,I J v.kids] 60)).drew=w3 at hB3 hG3 ⊢;have HI3:=aN (HI2.below hB3);have HW3:Hi _:=HB2.trans (hB3.mono HB2.size);have hk3:=ax HG2 hB3;have e1:w3.cell? (D kb 0 Z)=U (I J t):=cell_of_row hk3 X;have e2:w3.cell? (D kb 1 Z)=U (Bo k.opt):=cell_of_row hk3 X;have e3:w3.cell? (D kb 2 Z)=U (Y k.dflt):=cell_of_row hk3 X;have v0:w3.cell? (D vb 0 Z)=U (I J v.kind):=cell_of_row hG3 X;have v1:w3.cell? (D vb 1 Z)=U (Y v.text):=cell_of_row hG3 X;have v2:w3.cell? (D vb 2 Z)=U (I J v.alt):=cell_of_row hG3 X;have v3:w3.cell? (D vb 3 Z)=U (I J v.kids):=cell_of_row hG3 X;obtain⟨tv3,hown3,_⟩:=HI3.out.own;unfold dm at hown3;have e0:w3.cell? (D R 0 Z)=U (S a E.s.length c):=by simp[Wc,hown3]
  have hl0:=aw e0;have hl1:=bm hk3;have hl2:=bm hG3;simp only at hl0;have hwx:IntKind.i64.wrap ((x:Int)+1)=(x:Int)+1:=by rw[db];omega
  clear hB3 hG3 hvb hk3 hown3 d1 d2 m0 m1 m2 m3 hlG hR2 HST HI2 HG2 HB2;go_wp2_with fail;by_cases hopt:k.opt=true
  ·(have hd0:k.dflt.size=0:=by apply cW;intro q;exact hod ⟨hopt,q⟩);rw[hopt]at e2;have hem:=gJ hd0;have HNO:Hi (vl E.t x≠⟨15,bh,0,0⟩->¬LO E k x):=fun q z=>by
    rcases(HLO.1 z).2 with h|h
    ·exact q h.2
    exact h.1 hd0
   clear hd0;by_cases q1:v.kind=15
   ·rw[q1]at v0;by_cases q2:v.text.size=0
    ·rw[uC q2]at v1;unfold bh at v1;by_cases q3:v.alt=0
     ·rw[q3]at v2;by_cases q4:v.kids=0
      ·rw[q4]at v3;(have hvv:v=⟨15,bh,0,0⟩:=by obtain⟨va,vb2,vc,vd⟩:=v;simp only at q1 q2 q3 q4;rw[q1,uC q2,q3,q4]);have HVV:=aN hvv;clear hvv q1 q2 q3 q4;have HWHY:Hi (LO E k x):=HLO.2 ⟨hx3,.inl ⟨hopt,HV.trans HVV⟩⟩;go_quiet (fail);clear e0 e1 e2 e3 v0 v1 v2 v3;have HI4:=aN (HI3.below (Go.below_drewN By nq));have HW4:Hi (H w.heap.size w (w3.drewN nq)):=Go.below_drewN HW3 nq;generalize w3.drewN nq=w4 at HI4 HW4 ⊢;obtain⟨tv4,hown4,_⟩:=HI4.out.own;unfold dm at hown4;(have n2:w4.cell? (D R 2 Z)=U (I J (x:Int)):=by simp[Wc,hown4]);(have f2:w4.frozen? (D R 2 Z)=false:=by simp[Wf,hown4]);have hR4:R<w4.heap.size:=aw n2;clear hown4;go_wp2;go_ret;exact⟨(dL.of_below HW4).trans (dL.set 2 _),.inl ⟨HWHY,X,HI4.setNext (x+1)⟩⟩
      (have q4b:(v.kids==0)=false:=by simpa using q4);have Q4:=aN q4;clear q1 q2 q3 q4;have HWHY:Hi (¬LO E k x):=HNO (fun z=>Q4 (by rw[<-HV,z]));go_quiet (fail);clear e0 e1 e2 e3 v0 v1 v2 v3;have HI4:=aN (HI3.below (Go.below_drewN By nq));have HW4:Hi (H w.heap.size w (w3.drewN nq)):=Go.below_drewN HW3 nq;generalize w3.drewN nq=w4 at HI4 HW4 ⊢;go_wp2;go_ret;exact⟨dL.of_below HW4,.inr ⟨HWHY,X,HI4⟩⟩
     (have q3b:(v.alt==0)=false:=by simpa using q3);have Q3:=aN q3;clear q1 q2 q3;have HWHY:Hi (¬LO E k x):=HNO (fun z=>Q3 (by rw[<-HV,z]));go_quiet (fail);clear e0 e1 e2 e3 v0 v1 v2 v3;have HI4:=aN (HI3.below (Go.below_drewN By nq));have HW4:Hi (H w.heap.size w (w3.drewN nq)):=Go.below_drewN HW3 nq;generalize w3.drewN nq=w4 at HI4 HW4 ⊢;go_wp2;go_ret;exact⟨dL.of_below HW4,.inr ⟨HWHY,X,HI4⟩⟩
    have q2b:=dR (t:=v.text) O;have Q2:=aN q2;clear q1 q2;have HWHY:Hi (¬LO E k x):=HNO (fun z=>Q2 (by rw[<-HV,z];rfl));go_quiet (fail);clear e0 e1 e2 e3 v0 v1 v2 v3;have HI4:=aN (HI3.below (Go.below_drewN By nq));have HW4:Hi (H w.heap.size w (w3.drewN nq)):=Go.below_drewN HW3 nq;generalize w3.drewN nq=w4 at HI4 HW4 ⊢;go_wp2;go_ret;exact⟨dL.of_below HW4,.inr ⟨HWHY,X,HI4⟩⟩
   (have q1b:(v.kind==15)=false:=by simpa using q1);have Q1:=aN q1;clear q1;have HWHY:Hi (¬LO E k x):=HNO (fun z=>Q1 (by rw[<-HV,z]));go_quiet (fail);clear e0 e1 e2 e3 v0 v1 v2 v3;have HI4:=aN (HI3.below (Go.below_drewN By nq));have HW4:Hi (H w.heap.size w (w3.drewN nq)):=Go.below_drewN HW3 nq;generalize w3.drewN nq=w4 at HI4 HW4 ⊢;go_wp2;go_ret;exact⟨dL.of_below HW4,.inr ⟨HWHY,X,HI4⟩⟩
  have hopt':k.opt=false:=by simpa using hopt
  rw[hopt']at e2;by_cases hd:k.dflt.size=0
  ·have hem:=gJ hd;have HWHY:Hi _:=(fun z=>by rcases(HLO.1 z).2 with h|h;exact hopt h.1;exact h.1 hd);go_quiet (fail);clear e0 e1 e2 e3 v0 v1 v2 v3;have HI4:=aN (HI3.below (Go.below_drewN By nq));have HW4:Hi (H w.heap.size w (w3.drewN nq)):=Go.below_drewN HW3 nq;generalize w3.drewN nq=w4 at HI4 HW4 ⊢;go_wp2;go_ret;exact⟨dL.of_below HW4,.inr ⟨HWHY,X,HI4⟩⟩
  have hem:=dR (t:=k.dflt) O;obtain⟨hk9,u,hu⟩:(nd E.s t).kind<=9/\∃u,cu (nd E.s t) k.dflt u:=by
   rcases hDf with h|h
   ·exact Ab h hd
   exact h
  have HDF:Hi _:=fun wq q=>oZ E.s a c t false k.dflt u wq sn (HC.lay.below q) (HC.wc.sch.below q) HC.wc.right htl hk9 hu O;have HU:=aN hu;have HNO:Hi (vl E.t x≠⟨(nd E.s t).kind,u,0,0⟩->¬LO E k x):=fun q z=>by
   rcases(HLO.1 z).2 with h|⟨_,u',hu',h⟩
   ·exact hopt h.1
   rw[kG hu' HU.out]at h;exact q h
  obtain⟨KK,hKK⟩:∃KK,(nd E.s t).kind=KK:=Ey;have HKK:=aN hKK;rw[hKK]at HDF HNO;clear hKK hu hk9;have RUN:Hi _:=fun args w=>eY func202 Kr Rf args w;have HST:Hi (∀wq,H w3.heap.size w3 wq->wq.cell? (D R 0 Z)=U (S a E.s.length c)/\wq.cell? (D kb 0 Z)=U (I J t)/\wq.cell? (D kb 1 Z)=U (Bo false)/\wq.cell? (D kb 2 Z)=U (Y k.dflt)/\wq.cell? (D vb 0 Z)=U (I J v.kind)/\wq.cell? (D vb 1 Z)=U (Y v.text)/\wq.cell? (D vb 2 Z)=U (I J v.alt)/\wq.cell? (D vb 3 Z)=U (I J v.kids)):=fun wq q=>⟨(q.cell (aw e0)).trans e0,(q.cell (aw e1)).trans e1,(q.cell (aw e2)).trans e2,(q.cell (aw e3)).trans e3,(q.cell (aw v0)).trans v0,(q.cell (aw v1)).trans v1,(q.cell (aw v2)).trans v2,(q.cell (aw v3)).trans v3⟩;refine wp_region_held_drew (S:=(fun w'=>w'.cell? (D R 0 Z)=U (S a E.s.length c)/\w'.cell? (D kb 0 Z)=U (I J t)/\w'.cell? (D kb 1 Z)=U (Bo false)/\w'.cell? (D kb 2 Z)=U (Y k.dflt)/\w'.cell? (D vb 0 Z)=U (I J v.kind)/\w'.cell? (D vb 1 Z)=U (Y v.text)/\w'.cell? (D vb 2 Z)=U (I J v.alt)/\w'.cell? (D vb 3 Z)=U (I J v.kids))) Kr (HST _ (By).drew) (fun hHeld=>?_);refine tk 0 ?_;try simp only[Ap,aZ,aW,aV,az,aI,aH]
  refine tk 1 ?_;try simp only[Ap,aZ,aW,aV,az,aI,aH]
  refine tk 2 ?_;try simp only[Ap,aZ,aW,aV,az,aI,aH]
  refine Im 3 ?_;try simp only[Ap,aZ,aW,aV,az,aI,aH]
  refine Im 4 ?_;try simp only[Ap,aZ,aW,aV,az,aI,aH]
  refine Im 5 ?_;try simp only[Ap,aZ,aW,aV,az,aI,aH]
  refine tk 6 ?_;try simp only[Ap,aZ,aW,aV,az,aI,aH]
  refine tk 7 ?_;try simp only[Ap,aZ,aW,aV,az,aI,aH]
  refine tk 8 ?_;try simp only[Ap,aZ,aW,aV,az,aI,aH]
  refine tk 9 ?_;try simp only[Ap,aZ,aW,aV,az,aI,aH]
  refine tk 10 ?_;try simp only[Ap,aZ,aW,aV,az,aI,aH]
  refine tk 11 ?_;try simp only[Ap,aZ,aW,aV,az,aI,aH]
  refine tk 12 ?_;try simp only[Ap,aZ,aW,aV,az,aI,aH]
  refine tk 13 ?_;try simp only[Ap,aZ,aW,aV,az,aI,aH]
  refine tk 14 ?_;try simp only[Ap,aZ,aW,aV,az,aI,aH]
  refine tk 15 ?_;try simp only[Ap,aZ,aW,aV,az,aI,aH]
  refine tk 16 ?_;try simp only[Ap,aZ,aW,aV,az,aI,aH]
  refine tk 17 ?_;try simp only[Ap,aZ,aW,aV,az,aI,aH]
  refine wpAnyH_ready (rs:=[18]) Kr Sq ?_;refine AllReadyH.cons X (fun K hK=>?_) AllReadyH.nil;go_simp;go_wp2_with (go_at_call 202;refine(HDF _ HI3.bel.drew).mono ?_;rintro e w4 ⟨rfl,hb4⟩;have HB4:Hi (H w3.heap.size w3 w4):=(aY w3.heap.size w3).drew.trans hb4;clear hb4);refine hK.out _ _ (HST _ HB4) (fun hHeld2=>?_);clear hK K hHeld;try simp only[Ap,aZ,aW,aV,az,aI,aH]
  by_cases q1:v.kind=KK
  ·have Q1:=aN q1;by_cases q2:v.text=u
   ·have Q2:=aN q2;by_cases q3:v.alt=0
    ·have Q3:=aN q3;by_cases q4:v.kids=0
     ·have Q4:=aN q4;have HWHY:Hi (LO E k x):=HLO.out.2 ⟨hx3,.inr ⟨hd,u,HU.out,by rw[HV.out,HKK.out,<-Q1.out,<-Q2.out];obtain⟨va,vb2,vc,vd⟩:=v;have h3:=Q3.out;have h4:=Q4.out;simp only at h3 h4;rw[h3,h4]⟩⟩;refine tk 19 ?_;(try simp only[Ap,aZ,aW,aV,az,aI,aH]);refine tk 20 ?_;(try simp only[Ap,aZ,aW,aV,az,aI,aH]);refine tk 21 ?_;(try simp only[Ap,aZ,aW,aV,az,aI,aH]);refine wpAnyH_done Kr ?_ _;clear hHeld2 HST e0 e1 e2 e3 v0 v1 v2 v3;have HI4:=aN (HI3.below HB4);have HW4:Hi _:=HW3.trans (HB4.mono HW3.size);obtain⟨tv4,hown4,_⟩:=HI4.out.own;unfold dm at hown4;(have n2:w4.cell? (D R 2 Z)=U (I J (x:Int)):=by simp[Wc,hown4]);(have f2:w4.frozen? (D R 2 Z)=false:=by simp[Wf,hown4]);have hR4:R<w4.heap.size:=aw n2;clear hown4;go_wp2;go_ret;exact⟨(dL.of_below HW4).trans (dL.set 2 _),.inl ⟨HWHY,X,HI4.setNext (x+1)⟩⟩
     (have q4b:(v.kids==0)=false:=by simpa using q4);have Q4:=aN q4;have HWHY:Hi (¬LO E k x):=HNO (fun z=>Q4 (by rw[<-HV,z]));refine tk 19 ?_;(try simp only[Ap,aZ,aW,aV,az,aI,aH]);refine tk 20 ?_;(try simp only[Ap,aZ,aW,aV,az,aI,aH]);refine tk 21 ?_;(try simp only[Ap,aZ,aW,aV,az,aI,aH]);refine wpAnyH_done Kr ?_ _;clear hHeld2 HST e0 e1 e2 e3 v0 v1 v2 v3;have HI4:=aN (HI3.below HB4);have HW4:Hi _:=HW3.trans (HB4.mono HW3.size);go_wp2;go_ret;exact⟨dL.of_below HW4,.inr ⟨HWHY,X,HI4⟩⟩
    (have q3b:(v.alt==0)=false:=by simpa using q3);have Q3:=aN q3;have HWHY:Hi (¬LO E k x):=HNO (fun z=>Q3 (by rw[<-HV,z]));refine tk 19 ?_;(try simp only[Ap,aZ,aW,aV,az,aI,aH]);refine tk 20 ?_;(try simp only[Ap,aZ,aW,aV,az,aI,aH]);refine tk 21 ?_;(try simp only[Ap,aZ,aW,aV,az,aI,aH]);refine wpAnyH_done Kr ?_ _;clear hHeld2 HST e0 e1 e2 e3 v0 v1 v2 v3;have HI4:=aN (HI3.below HB4);have HW4:Hi _:=HW3.trans (HB4.mono HW3.size);go_wp2;go_ret;exact⟨dL.of_below HW4,.inr ⟨HWHY,X,HI4⟩⟩
   (have q2b:(v.text.toList==u.toList)=false:=by rw[aD];intro z;apply q2;apply bC;apply Array.toList_inj.1;rw[<-Lib.toList_data,<-Lib.toList_data];exact z);have Q2:=aN q2;have HWHY:Hi (¬LO E k x):=HNO (fun z=>Q2 (by rw[<-HV,z]));refine tk 19 ?_;(try simp only[Ap,aZ,aW,aV,az,aI,aH]);refine tk 20 ?_;(try simp only[Ap,aZ,aW,aV,az,aI,aH]);refine tk 21 ?_;(try simp only[Ap,aZ,aW,aV,az,aI,aH]);refine wpAnyH_done Kr ?_ _;clear hHeld2 HST e0 e1 e2 e3 v0 v1 v2 v3;have HI4:=aN (HI3.below HB4);have HW4:Hi _:=HW3.trans (HB4.mono HW3.size);go_wp2;go_ret;exact⟨dL.of_below HW4,.inr ⟨HWHY,X,HI4⟩⟩
  have q1b:(v.kind==KK)=false:=by simpa using q1
  have Q1:=aN q1;have HWHY:Hi (¬LO E k x):=HNO (fun z=>Q1 (by rw[<-HV,z]));refine tk 19 ?_;try simp only[Ap,aZ,aW,aV,az,aI,aH]
  refine tk 20 ?_;try simp only[Ap,aZ,aW,aV,az,aI,aH]
  refine tk 21 ?_;try simp only[Ap,aZ,aW,aV,az,aI,aH]
  refine wpAnyH_done Kr ?_ _;clear hHeld2 HST e0 e1 e2 e3 v0 v1 v2 v3;have HI4:=aN (HI3.below HB4);have HW4:Hi _:=HW3.trans (HB4.mono HW3.size);go_wp2;go_ret;exact⟨dL.of_below HW4,.inr ⟨HWHY,X,HI4⟩⟩
 subst hx3;have HNO:Hi (¬LO E k E.t.length):=fun q=>by have:=q.1;omega
 go_quiet (fail);have HI2:=aN (HI1.below (Go.below_drewN (aY w1.heap.size w1) nq));have HB2:Hi (H w.heap.size w (w1.drewN nq)):=Go.below_drewN HB1 nq;generalize w1.drewN nq=w2 at HI2 HB2 ⊢;clear d1 d2 hR1;go_wp2;go_ret;exact⟨dL.of_below HB2,.inr ⟨HNO,X,HI2⟩⟩
theorem xQ(t:Q){j:Nat}{x:UInt8}(h:t.data.toList[j]? =U x):(bcells t)[j]? =U (I .u8 (x.toNat:Int)):=by
 unfold bcells;rw[fW,h];rfl
theorem sC{w:M}{g:Nat}{cur:Array Vv}{t:Q}(hg:w.heap[g]? =U (C cur 5 (0,0)))(hc:cur.toList.take t.size=bcells t){q p:Nat}(hqp:q<=p)(hp:p<=t.size)(c:Nat):jg w (S (U (D g q Z)) (p-q) c) ((t.data.toList.drop q).take (p-q)):=by
 have hl:t.data.toList.length=t.size:=cq;refine .inr ⟨D g q Z,c,?_,fun j x hj=>?_⟩
 ·rw[gF,di,hl,pV O]
 rw[jo]at hj;split at hj
 ·rename_i hlt;rw[dX]at hj;have h1:=xQ t hj;rw[<-hc,bR O]at h1;rw[kh];simp[Wc,hg];simpa using h1
 cases hj
theorem xU{w:M}{g:Nat}{cur:Array Vv}{t:Q}(hg:w.heap[g]? =U (C cur 5 (0,0)))(hc:cur.toList.take t.size=bcells t){p:Nat}(hp:p<=t.size)(c:Nat):jg w (S (U (D g p Z)) (t.size-p) c) (t.data.toList.drop p):=by
 have hl:t.data.toList.length=t.size:=cq;have h:=sC hg hc hp Ln c;rw[cZ (by rw[di,hl];exact Ln)]at h;exact h
theorem Ct{t0 out' last b:Q}{q p:Nat}(hq:q=t0.size+out'.size)(hp:p=q+last.size):Op.bytesLess (((t0++(out'++last))++b).data.toList.drop p) ((((t0++(out'++last))++b).data.toList.drop q).take (p-q))=eZ b last:=by
 unfold eZ;have h0:t0.data.toList.length=t0.size:=cq;have h1:out'.data.toList.length=out'.size:=cq;have h2:last.data.toList.length=last.size:=cq;have e:((t0++(out'++last))++b).data.toList=(t0.data.toList++out'.data.toList)++(last.data.toList++b.data.toList):=Sq;rw[e,Lib.toList_data,Lib.toList_data];have e1:((t0.data.toList++out'.data.toList)++(last.data.toList++b.data.toList)).drop q=last.data.toList++b.data.toList:=DF (by rw[aQ];omega);have e2:((t0.data.toList++out'.data.toList)++(last.data.toList++b.data.toList)).drop p=b.data.toList:=by rw[hp,<-List.drop_drop,e1];exact DF O
 rw[e1,e2];congr 1;exact jj O
def zu(E:dF)(W:M)(R:Nat)(a:Oo Ad)(c:Nat)(ta:Oo Ad)(tc f:Nat)(sn:Sn->Ad)(set:Bool)(i:Nat)(dp kids:Int)(r:cP)(x0:Nat)(t0:Q)(l0:Bool)(o0:Oo Int)(w0:M)(vb vk:Vv)(wr:M):Prop:=
 ∃(k bf m x:Nat) (out last:Q) (u:Bool) (t1:Q) (l1:Bool) (o1:Oo Int),(k:Int)<=kids/\vk=I J k/\vb=I J bf/\eG E (wrF E f) set i dp m (kids-k) x out last u=U r/\x0<=x/\x<=E.t.length/\nk t0 l0 o0 out u t1 l1 o1/\bf<=t1.size/\(l1=false->∃out',out=out'++last/\bf=t0.size+out'.size)/\
  gS W wr R a E.s.length c ta E.t.length tc x t1 l1 (gK sn o1)/\dL R w0 wr
theorem sG(E:dF)(W:M)(R:Nat)(a:Oo Ad)(c:Nat)(ta:Oo Ad)(tc f:Nat)(sn:Sn->Ad)(hc:EC E W a ta sn)(htc:E.t.length<=tc)(hN:lC E W R a c ta tc sn f)(hf1:1<=f)(i:Nat)(hi:i<E.s.length)(hone:(nd E.s i).kids.length=1)(ka:Oo Ad)(kc:Nat)(hka:be W ka (nd E.s i).kids)(hkc:(nd E.s i).kids.length<=kc)(hkm:kc<=maxLen)(x0 m0:Nat)(kids dp:Int)(r:cP)(t0:Q)(l0:Bool)(o0:Oo Int)(w:M)(e:eG E (wrF E f) (decide ((nd E.s i).kind=12)) (kd (nd E.s i) 0).node.toNat (dp+1) m0 kids x0 bh bh false=U r)(hk0:0<=kids)(hk63:kids<=9223372036854775807)(hx0:x0<=E.t.length)(hfx:E.t.length+1<=f+x0)(hd1:1<=dp)(hd2:dp<=12)(h4:t0.size<=4000)(hI:gS W w R a E.s.length c ta E.t.length tc x0 t0 l0 (gK sn o0)):Cs prog 151 #[Po (U (D R 0 Z)),Ag #[I J (nd E.s i).kind,I J (nd E.s i).tag,I J (nd E.s i).mode,S ka (nd E.s i).kids.length kc],I J kids,I J dp] w fun e w'=>fm E W R a c ta tc sn r t0 l0 o0 w e w':=by
 have HC:=aN hc;have HNN:=aN hN;have HE:=aN e;have hwn:=hc.wc.right.fine.within i hi (kd (nd E.s i) 0) (fU O);obtain⟨t,ht⟩:∃t:Nat,(kd (nd E.s i) 0).node=t:=⟨(kd (nd E.s i) 0).node.toNat,O⟩;have htl:t<E.s.length:=O;have htn:(kd (nd E.s i) 0).node.toNat=t:=O;rw[htn]at HE;obtain⟨b,o,hkaE,kcl⟩:=hka 0 O;obtain⟨kc0,_,_⟩:=kcl;have hkd:((nd E.s i).kids.getD 0 j6).node=t:=ht;rw[hkd]at kc0;have KC0:=aN kc0;rw[hkaE,hone];rw[hone]at hkc;obtain⟨set,hset⟩:∃set,decide ((nd E.s i).kind=12)=set:=Ey;rw[hset]at HE;obtain⟨K,hK⟩:∃K,(nd E.s i).kind=K:=Ey;rw[hK]at hset ⊢;have HSET:=aN hset;have hkm':kc<=9223372036854775807:=by unfold maxLen at hkm;omega
 have hkc':(1:Int)<=(kc:Int):=O;obtain⟨bs,cp,hform⟩:∃bs cp,∃tvx,tvx=Value.slice bs t0.size cp/\w.heap[R]? =U (dm a E.s.length c ta E.t.length tc x0 tvx l0 (gK sn o0)):=by obtain⟨tv,h1,h2⟩:=hI.own;obtain⟨bs,cp,rfl,_⟩:=oI h2;exact⟨bs,cp,_,X,h1⟩
 obtain⟨_,rfl,hown⟩:=hform;have hRl:R<w.heap.size:=bm hown;generalize hTG:(nd E.s i).tag=TG;generalize hMD:(nd E.s i).mode=MD;have hB1:H w.heap.size w (w.alloc (C #[I J K,I J TG,I J MD,S (U (D b o Z)) 1 kc] 58)):=Be;have hG1:(w.alloc (C #[I J K,I J TG,I J MD,S (U (D b o Z)) 1 kc] 58)).heap[w.heap.size]? =U (C #[I J K,I J TG,I J MD,S (U (D b o Z)) 1 kc] 58 (0,0)):=aA w _;have HW0:=aN (hI.below hB1);have hg3:=ax hown hB1;unfold dm at hg3;have c3:(w.alloc (C #[I J K,I J TG,I J MD,S (U (D b o Z)) 1 kc] 58)).cell? (D R 3 Z)=U (S bs t0.size cp):=by simp[Wc,hg3]
 clear hc hN hI hka e htc hi hone hkaE hwn kc0 hkd ht htn hset hK hkm hown hTG hMD hg3;go_enter func151,ntmps151;go_upto_region 1 with fail;obtain⟨nb,hnb⟩:∃nb,w.heap.size=nb:=Ey;rw[hnb]at hG1 ⊢;generalize w.alloc (C #[I J K,I J TG,I J MD,S (U (D b o Z)) 1 kc] 58)=w1 at hB1 hG1 HW0 c3 ⊢;have hneN:nb≠R:=O;have HB1:=aN hB1;have HG1:=aN hG1;have hR1:R<w1.heap.size:=aw c3;clear hB1 hG1 hnb;go_wp2_with fail;go_loopw [9,19] (fun vb vk wr=>zu E W R a c ta tc f sn set t (dp+1) kids r x0 t0 l0 o0 w1 vb vk wr) (fun _ vk _=>(kids-Io vk).toNat);case atStart=>exact⟨0,t0.size,m0,x0,bh,bh,false,t0,l0,o0,O,X,X,by simpa using HE.out,Ln,hx0,nk.refl h4,Ln,fun _=>⟨bh,(pA bh).symm,X⟩,HW0.out,fun _ _ _ _ _ h=>h⟩
 obtain⟨k,bf,m,x,out,last,u,t1,l1,o1,hk,rfl,rfl,hE,hx1,hx2,hT,hbf,hbl,hEw,hFr⟩:=hrel;have HEW:=aN hEw;have HT:=aN hT;have HFR:=aN hFr;have HEE:=aN hE;have HBL:=aN hbl;clear hEw hT hFr hE hbl c3;by_cases hlt:(k:Int)<kids
 ·obtain⟨m,rfl⟩:∃m',m=m'+1:=by
   cases m with
   |zero=>have h:=HEE.out;cases h
   |succ m=>exact⟨m,X⟩
  have HST:Hi (∀r1,wrF E f t x (dp+1)=U r1->(r1=Z/\r=Z)\/∃b' x' u',r1=U (b',x',u')/\eG E (wrF E f) set t (dp+1) m (kids-k-1) x' (out++b') b' (u||u'||(set&&eZ b' last))=U r):=fun r1 h1=>by
   have h:=HEE.out;unfold eG at h;rw[aG O]at h;rcases dg h with⟨h2,h3⟩|⟨b',x',u',h2,h3⟩
   ·rw[h2]at h1;injection h1 with h1;exact .inl ⟨h1.symm,h3⟩
   rw[h2]at h1;injection h1 with h1;exact .inr ⟨b',x',u',h1.symm,h3⟩
  obtain⟨tv,hown,hrow⟩:=HEW.out.own;obtain⟨bs1,cp1,rfl,_⟩:=oI hrow;unfold dm at hown;have d3:wr.cell? (D R 3 Z)=U (S bs1 t1.size cp1):=by simp[Wc,hown]
  have d2:wr.cell? (D R 2 Z)=U (I J (x:Int)):=by simp[Wc,hown]
  have hRr:R<wr.heap.size:=aw d3;clear hown hrow;go_wp2_with fail;go_quiet (fail);have HEW2:=aN (HEW.below (Go.below_drewN (aY wr.heap.size wr) nq));have HFR2:Hi (dL R w1 (wr.drewN nq)):=HFR.trans (dL.of_below (Go.below_drewN By nq));generalize wr.drewN nq=w2 at HEW2 HFR2 ⊢;obtain⟨r1,hr1⟩:=rL (E:=E) f t x (dp+1) O hf1;have HCA:Hi (Cs prog 75 #[Po (U (D R 0 Z)),I J t,I J (dp+1)] w2 fun e w'=>fm E W R a c ta tc sn r1 t1 l1 o1 w2 e w'):=HNN t x (dp+1) r1 t1 l1 o1 w2 hr1 htl hx2 O hf1 O O HT.mx HEW2;have HR1:=aN hr1;have hgn:=HFR2 _ _ _ hneN Dc HG1;have n3:w2.cell? (D nb 3 Z)=U (S (U (D b o Z)) 1 kc):=cell_of_row hgn X;have k0:w2.cell? (D b o Z)=U (I J t):=by have:=(HEW2.bel.cell (aw KC0)).trans KC0;simpa using this
  have hlb:=aw k0;simp only at hlb;have hln:=aw n3;simp only at hln;have hwr:IntKind.i64.wrap (dp+1)=dp+1:=by rw[db];omega
  clear d3 d2 hRr hr1 hgn;go_wp2_with fail;refine HCA.mono ?_;rintro e w3 ⟨hF3,⟨b',x',u',t2,l2,o2,hq,rfl,hT2,hE3⟩|⟨hq,p,x',t2,l2,ov,rfl,hE3⟩⟩
  ·have HE3:=aN hE3;have HF3:Hi (dL R w1 w3):=HFR2.trans hF3;have HT2:=aN hT2;have HX3:Hi (eG E (wrF E f) set t (dp+1) m (kids-k-1) x' (out++b') b' (u||u'||(set&&eZ b' last))=U r/\x0<=x'/\x'<=E.t.length):=by
    have hadv:=oe f t x (dp+1) r1 HR1 b' x' u' hq;rcases HST r1 HR1 with h2|⟨b2,x2,u2,h2,h3⟩
    ·rw[h2.1]at hq;cases hq
    rw[hq]at h2;injection h2 with h2;injection h2 with e1 h2;injection h2 with e2 e3;subst e1 e2 e3;exact⟨h3,O,hadv.2.1⟩
   have HREL:Hi (∀(o3:Oo Int) (wq:M),gS W wq R a E.s.length c ta E.t.length tc x' t2 l2 (gK sn o3)->dL R w1 wq->(l2=false->o3.isSome=(o2.isSome||(set&&eZ b' last)))->zu E W R a c ta tc f sn set t (dp+1) kids r x0 t0 l0 o0 w1 (I J t1.size) (I J ((k:Int)+1)) wq):=fun o3 wq h1 h2 h3=>by
    refine⟨k+1,t1.size,m,x',out++b',b',u||u'||(set&&eZ b' last),t2,l2,o3,O,Sq,X,?_,HX3.2.1,HX3.2.2,(HT.trans HT2).order h3,HT2.le,fun q=>⟨out,X,?_⟩,h1,h2⟩
    ·rw[show kids-((k+1:Nat):Int)=kids-k-1 by omega];exact HX3.1
    have hl1:l1=false:=by
     cases hl:l1
     ·rfl
     rw[HT2.mono hl]at q;cases q
    rw[HT.told hl1,ba]
   have HBE:Hi (l2=false->Op.bytesLess (t2.data.toList.drop t1.size) ((t2.data.toList.drop bf).take (t1.size-bf))=eZ b' last):=fun q=>by
    have hl1:l1=false:=by
     cases hl:l1
     ·rfl
     rw[HT2.mono hl]at q;cases q
    obtain⟨out',e1,e2⟩:=HBL hl1;have e3:=HT.told hl1;rw[HT2.told q,e3,e1];exact Ct e2 (by rw[ba,ba];omega)
   obtain⟨tv,hown,hrow⟩:=HE3.out.own;obtain⟨bs2,cp2,rfl,hcp1,hcp2,hbs2⟩:=oI hrow;have HROW:=aN hrow;unfold dm at hown;(have g3:w3.cell? (D R 3 Z)=U (S bs2 t2.size cp2):=by simp[Wc,hown]);(have g5:w3.cell? (D R 5 Z)=U (gK sn o2):=by simp[Wc,hown]);(have f5:w3.frozen? (D R 5 Z)=false:=by simp[Wf,hown]);have hR3:R<w3.heap.size:=aw g3;have hgn:=HF3 _ _ _ hneN Dc HG1;have n0:w3.cell? (D nb 0 Z)=U (I J K):=cell_of_row hgn X;have hln3:=aw n0;simp only at hln3;have htt:=HT2.out.le;(have hwk:IntKind.i64.wrap ((k:Int)+1)=(k:Int)+1:=by rw[db];omega);clear hF3 hT2 hE3 hq n3 k0 hlb hln hown hrow hgn;by_cases hK:K=12
   ·subst hK;(obtain rfl:set=true:=by rw[<-HSET.out];rfl)
    cases o2 with
    |some p=>
     unfold gK aX at g5
     go_wp2_with fail
     go_quiet (fail)
     have HE4:=aN (HE3.below (Go.below_drewN (aY w3.heap.size w3) nq))
     have HF4:Hi (dL R w1 (w3.drewN nq)):=HF3.trans (dL.of_below (Go.below_drewN By nq))
     generalize w3.drewN nq=w4 at HE4 HF4 ⊢
     clear g3 g5 f5 hR3 n0 hln3
     go_wp2
     go_roundw
     case rel=>exact HREL (U p) _ HE4 HF4 (fun _=>Sq)
     case measure=>(simp[Io];omega)
    |none=>
     unfold gK at g5
     obtain⟨z,hz⟩:∃z,Op.bytesLess (t2.data.toList.drop t1.size) ((t2.data.toList.drop bf).take (t1.size-bf))=z:=Ey
     have hzc:=wi (t2.data.toList.drop t1.size) ((t2.data.toList.drop bf).take (t1.size-bf))
     rw[hz]at hzc
     have HZZ:Hi (∀o3:Oo Int,o3.isSome=z->(l2=false->o3.isSome=((Z:Oo Int).isSome||(true&&eZ b' last)))):=fun o3 h q=>by
      rw[h,<-hz,HBE q];simp
     obtain⟨cz,hcz⟩:∃cz,Lib.compareBytes (t2.data.toList.drop t1.size) ((t2.data.toList.drop bf).take (t1.size-bf))=cz:=Ey
     rw[hcz]at hzc
     obtain⟨va,vb2,HSL⟩:∃va vb2:Vv,Hi ((∀wq:M,(∀x,wq.cell? x=w3.cell? x)->Cs prog 184 #[va,vb2] wq fun e w'=>e=Rt (I J cz)/\w'=wq)/\
      ((bs2=Z/\va=S Z 0 0/\vb2=S Z 0 0/\t2.size=0/\cp2=0)\/
       (∃g,bs2=U ⟨g,0,Z⟩/\va=(if cp2=t1.size then S (U ⟨g,0,Z⟩) (t2.size-t1.size) 0 else S (U ⟨g,t1.size,Z⟩) (t2.size-t1.size) (cp2-t1.size))/\vb2=(if cp2=bf then S (U ⟨g,0,Z⟩) (t1.size-bf) (if cp2=t1.size then t1.size-bf else cp2-bf)else S (U ⟨g,bf,Z⟩) (t1.size-bf) (if cp2=t1.size then t1.size-bf else cp2-bf))))):=by
      have hl2:t2.data.toList.length=t2.size:=cq
      rcases HROW.2 with⟨q,h0⟩|⟨g,cap,cur,q,_,hg,h1,_,_,hct⟩
      ·injection q with q1 q2 q3
       refine⟨S Z 0 0,S Z 0 0,fun wq hq=>?_,.inl ⟨q1,X,X,h0,q3⟩⟩
       have e0:t2.data.toList=[]:=List.length_eq_zero_iff.1 O
       rw[e0]at hcz
       simp only[List.drop_nil,List.take_nil]at hcz
       rw[<-hcz]
       exact nC _ _ [] [] wq (.inl ⟨X,X⟩) (.inl ⟨X,X⟩)
      ·injection q with q1 q2 q3
       subst q3
       rw[nv]at hct
       refine⟨_,_,fun wq hq=>?_,.inr ⟨g,q1,X,X⟩⟩
       have keep:∀{v l},jg w3 v l->jg wq v l:=fun {v l} h=>by
        rcases h with h|⟨a',c',e',h⟩
        ·exact .inl h
        ·exact .inr ⟨a',c',e',fun j x hj=>(hq _).trans (h j x hj)⟩
       rw[<-hcz]
       refine nC _ _ _ _ wq (keep ?_) (keep ?_)
       ·split
        ·rename_i hc
         rw[gT O,show t2.size-t1.size=0 by omega]
         exact .inr ⟨_,_,X,fun j x hj=>by simp at hj⟩
        ·exact xU hg hct htt _
       ·split
        ·rename_i hc
         rw[show t1.size-bf=0 by omega,List.take_zero]
         exact .inr ⟨_,_,X,fun j x hj=>by simp at hj⟩
        ·exact sC hg hct hbf htt _
     have HCMP:Hi (∀n,Cs prog 184 #[va,vb2] (w3.drewN n) fun e w'=>e=Rt (I J cz)/\w'=w3.drewN n):=fun n=>HSL.1 _ (fun _=>Sq)
     have hi1:(t1.size:Int)<=(t2.size:Int):=O
     have hi2:(bf:Int)<=(t1.size:Int):=O
     have hsl:=HSL.out.2
     have HZ:=aN hzc
     have HDZ:=aN (And.intro hz hcz)
     clear HSL hz hcz
     have hAT:∀wq,Cs prog 60 #[I J x,If 291 (Po (U (sn .Order)))] wq fun e w'=>e=Rt (aX x (sn .Order))/\w'=wq:=fun wq=>fR x _ wq
     unfold aX at hAT
     have HAT:=aN hAT
     clear hAT
     rcases hsl with⟨rfl,rfl,rfl,h0,rfl⟩|⟨g,rfl,hva,hvb⟩
     ·have hz0:t1.size=0:=O
      have hb0:bf=0:=O
      subst hb0
      have hz0i:(t1.size:Int)=0:=O
      have h0i:(t2.size:Int)=0:=O
      by_cases hcz:cz<0
      ·have hcb:decide (cz<0)=true:=aM hcz
       have HO3:Hi (∀o3:Oo Int,o3.isSome=true->(l2=false->o3.isSome=((Z:Oo Int).isSome||(true&&eZ b' last)))):=fun o3 h=>HZZ o3 (by rw[h,<-HZ,hcb])
       clear HZZ HZ HDZ HBE
       go_wp2_with fail
       go_quiet ((go_at_call 184;exact Calls.quiet_of_same (HCMP _)))
       have HE4:=aN (HE3.below (Go.below_drewN (aY w3.heap.size w3) nq))
       have HF4:Hi (dL R w1 (w3.drewN nq)):=HF3.trans (dL.of_below (Go.below_drewN By nq))
       generalize w3.drewN nq=w4 at HE4 HF4 ⊢
       clear g3 g5 f5 hR3 n0 hln3 HCMP
       have cO:=(HC.lay.below HE4.bel).s.cOrder
       have hgO:=aw cO
       simp only at hgO
       obtain⟨tv4,hown4,_⟩:=HE4.out.own
       unfold dm at hown4
       have f4:w4.frozen? (D R 5 Z)=false:=by simp[Wf,hown4]
       have g4:w4.cell? (D R 5 Z)=U (gK sn Z):=by simp[Wc,hown4]
       unfold gK at g4
       have hR4:R<w4.heap.size:=aw g4
       clear hown4
       go_wp2_with fail
       refine(HAT _).mono ?_
       rintro e w5 ⟨rfl,rfl⟩
       go_wp2
       go_roundw
       case rel=>exact by have h:=HREL (U (x:Int)) _ (HE4.setOrder (aX x (sn .Order))) (HF4.trans (dL.set 5 _)) (HO3 _ X);rw[hz0]at h;exact h
       case measure=>(simp[Io];omega)
      ·have hcb:decide (cz<0)=false:=aE hcz
       have HCB:=aN hcb
       have HO3:Hi (l2=false->(Z:Oo Int).isSome=((Z:Oo Int).isSome||(true&&eZ b' last))):=HZZ Z (by rw[<-HZ,hcb];rfl)
       clear HZZ HZ HDZ HBE hcz hcb
       go_wp2_with fail
       go_quiet ((go_at_call 184;exact Calls.quiet_of_same (HCMP _)))
       have HE4:=aN (HE3.below (Go.below_drewN (aY w3.heap.size w3) nq))
       have HF4:Hi (dL R w1 (w3.drewN nq)):=HF3.trans (dL.of_below (Go.below_drewN By nq))
       generalize w3.drewN nq=w4 at HE4 HF4 ⊢
       clear g3 g5 f5 hR3 n0 hln3 HCMP
       obtain rfl:z=false:=hzc.symm.trans HCB
       clear hzc
       go_wp2
       go_roundw
       case rel=>exact by have h:=HREL Z _ HE4 HF4 HO3;rw[hz0]at h;exact h
       case measure=>(simp[Io];omega)
     ·by_cases hc1:cp2=t1.size
      ·rw[aG hc1]at hva
       by_cases hc2:cp2=bf
       ·rw[aG hc2,aG hc1]at hvb
        subst hva hvb
        by_cases hcz:cz<0
        ·have hcb:decide (cz<0)=true:=aM hcz
         have HO3:Hi (∀o3:Oo Int,o3.isSome=true->(l2=false->o3.isSome=((Z:Oo Int).isSome||(true&&eZ b' last)))):=fun o3 h=>HZZ o3 (by rw[h,<-HZ,hcb])
         clear HZZ HZ HDZ HBE
         go_wp2_with fail
         go_quiet ((go_at_call 184;exact Calls.quiet_of_same (HCMP _)))
         have HE4:=aN (HE3.below (Go.below_drewN (aY w3.heap.size w3) nq))
         have HF4:Hi (dL R w1 (w3.drewN nq)):=HF3.trans (dL.of_below (Go.below_drewN By nq))
         generalize w3.drewN nq=w4 at HE4 HF4 ⊢
         clear g3 g5 f5 hR3 n0 hln3 HCMP
         have cO:=(HC.lay.below HE4.bel).s.cOrder
         have hgO:=aw cO
         simp only at hgO
         obtain⟨tv4,hown4,_⟩:=HE4.out.own
         unfold dm at hown4
         have f4:w4.frozen? (D R 5 Z)=false:=by simp[Wf,hown4]
         have g4:w4.cell? (D R 5 Z)=U (gK sn Z):=by simp[Wc,hown4]
         unfold gK at g4
         have hR4:R<w4.heap.size:=aw g4
         clear hown4
         go_wp2_with fail
         refine(HAT _).mono ?_
         rintro e w5 ⟨rfl,rfl⟩
         go_wp2
         go_roundw
         case rel=>exact HREL (U (x:Int)) _ (HE4.setOrder (aX x (sn .Order))) (HF4.trans (dL.set 5 _)) (HO3 _ X)
         case measure=>(simp[Io];omega)
        ·have hcb:decide (cz<0)=false:=aE hcz
         have HCB:=aN hcb
         have HO3:Hi (l2=false->(Z:Oo Int).isSome=((Z:Oo Int).isSome||(true&&eZ b' last))):=HZZ Z (by rw[<-HZ,hcb];rfl)
         clear HZZ HZ HDZ HBE hcz hcb
         go_wp2_with fail
         go_quiet ((go_at_call 184;exact Calls.quiet_of_same (HCMP _)))
         have HE4:=aN (HE3.below (Go.below_drewN (aY w3.heap.size w3) nq))
         have HF4:Hi (dL R w1 (w3.drewN nq)):=HF3.trans (dL.of_below (Go.below_drewN By nq))
         generalize w3.drewN nq=w4 at HE4 HF4 ⊢
         clear g3 g5 f5 hR3 n0 hln3 HCMP
         obtain rfl:z=false:=hzc.symm.trans HCB
         clear hzc
         go_wp2
         go_roundw
         case rel=>exact HREL Z _ HE4 HF4 HO3
         case measure=>(simp[Io];omega)
       ·rw[G hc2,aG hc1]at hvb
        subst hva hvb
        by_cases hcz:cz<0
        ·have hcb:decide (cz<0)=true:=aM hcz
         have HO3:Hi (∀o3:Oo Int,o3.isSome=true->(l2=false->o3.isSome=((Z:Oo Int).isSome||(true&&eZ b' last)))):=fun o3 h=>HZZ o3 (by rw[h,<-HZ,hcb])
         clear HZZ HZ HDZ HBE
         go_wp2_with fail
         go_quiet ((go_at_call 184;exact Calls.quiet_of_same (HCMP _)))
         have HE4:=aN (HE3.below (Go.below_drewN (aY w3.heap.size w3) nq))
         have HF4:Hi (dL R w1 (w3.drewN nq)):=HF3.trans (dL.of_below (Go.below_drewN By nq))
         generalize w3.drewN nq=w4 at HE4 HF4 ⊢
         clear g3 g5 f5 hR3 n0 hln3 HCMP
         have cO:=(HC.lay.below HE4.bel).s.cOrder
         have hgO:=aw cO
         simp only at hgO
         obtain⟨tv4,hown4,_⟩:=HE4.out.own
         unfold dm at hown4
         have f4:w4.frozen? (D R 5 Z)=false:=by simp[Wf,hown4]
         have g4:w4.cell? (D R 5 Z)=U (gK sn Z):=by simp[Wc,hown4]
         unfold gK at g4
         have hR4:R<w4.heap.size:=aw g4
         clear hown4
         go_wp2_with fail
         refine(HAT _).mono ?_
         rintro e w5 ⟨rfl,rfl⟩
         go_wp2
         go_roundw
         case rel=>exact HREL (U (x:Int)) _ (HE4.setOrder (aX x (sn .Order))) (HF4.trans (dL.set 5 _)) (HO3 _ X)
         case measure=>(simp[Io];omega)
        ·have hcb:decide (cz<0)=false:=aE hcz
         have HCB:=aN hcb
         have HO3:Hi (l2=false->(Z:Oo Int).isSome=((Z:Oo Int).isSome||(true&&eZ b' last))):=HZZ Z (by rw[<-HZ,hcb];rfl)
         clear HZZ HZ HDZ HBE hcz hcb
         go_wp2_with fail
         go_quiet ((go_at_call 184;exact Calls.quiet_of_same (HCMP _)))
         have HE4:=aN (HE3.below (Go.below_drewN (aY w3.heap.size w3) nq))
         have HF4:Hi (dL R w1 (w3.drewN nq)):=HF3.trans (dL.of_below (Go.below_drewN By nq))
         generalize w3.drewN nq=w4 at HE4 HF4 ⊢
         clear g3 g5 f5 hR3 n0 hln3 HCMP
         obtain rfl:z=false:=hzc.symm.trans HCB
         clear hzc
         go_wp2
         go_roundw
         case rel=>exact HREL Z _ HE4 HF4 HO3
         case measure=>(simp[Io];omega)
      ·have hc2:¬cp2=bf:=O
       rw[G hc1]at hva
       rw[G hc2,G hc1]at hvb
       subst hva hvb
       by_cases hcz:cz<0
       ·have hcb:decide (cz<0)=true:=aM hcz
        have HO3:Hi (∀o3:Oo Int,o3.isSome=true->(l2=false->o3.isSome=((Z:Oo Int).isSome||(true&&eZ b' last)))):=fun o3 h=>HZZ o3 (by rw[h,<-HZ,hcb])
        clear HZZ HZ HDZ HBE
        go_wp2_with fail
        go_quiet ((go_at_call 184;exact Calls.quiet_of_same (HCMP _)))
        have HE4:=aN (HE3.below (Go.below_drewN (aY w3.heap.size w3) nq))
        have HF4:Hi (dL R w1 (w3.drewN nq)):=HF3.trans (dL.of_below (Go.below_drewN By nq))
        generalize w3.drewN nq=w4 at HE4 HF4 ⊢
        clear g3 g5 f5 hR3 n0 hln3 HCMP
        have cO:=(HC.lay.below HE4.bel).s.cOrder
        have hgO:=aw cO
        simp only at hgO
        obtain⟨tv4,hown4,_⟩:=HE4.out.own
        unfold dm at hown4
        have f4:w4.frozen? (D R 5 Z)=false:=by simp[Wf,hown4]
        have g4:w4.cell? (D R 5 Z)=U (gK sn Z):=by simp[Wc,hown4]
        unfold gK at g4
        have hR4:R<w4.heap.size:=aw g4
        clear hown4
        go_wp2_with fail
        refine(HAT _).mono ?_
        rintro e w5 ⟨rfl,rfl⟩
        go_wp2
        go_roundw
        case rel=>exact HREL (U (x:Int)) _ (HE4.setOrder (aX x (sn .Order))) (HF4.trans (dL.set 5 _)) (HO3 _ X)
        case measure=>(simp[Io];omega)
       ·have hcb:decide (cz<0)=false:=aE hcz
        have HCB:=aN hcb
        have HO3:Hi (l2=false->(Z:Oo Int).isSome=((Z:Oo Int).isSome||(true&&eZ b' last))):=HZZ Z (by rw[<-HZ,hcb];rfl)
        clear HZZ HZ HDZ HBE hcz hcb
        go_wp2_with fail
        go_quiet ((go_at_call 184;exact Calls.quiet_of_same (HCMP _)))
        have HE4:=aN (HE3.below (Go.below_drewN (aY w3.heap.size w3) nq))
        have HF4:Hi (dL R w1 (w3.drewN nq)):=HF3.trans (dL.of_below (Go.below_drewN By nq))
        generalize w3.drewN nq=w4 at HE4 HF4 ⊢
        clear g3 g5 f5 hR3 n0 hln3 HCMP
        obtain rfl:z=false:=hzc.symm.trans HCB
        clear hzc
        go_wp2
        go_roundw
        case rel=>exact HREL Z _ HE4 HF4 HO3
        case measure=>(simp[Io];omega)
   (have hKb:(K==12)=false:=by simpa using hK);(obtain rfl:set=false:=by rw[<-HSET.out];simpa using hK);go_wp2_with fail;go_quiet (fail);have HE4:=aN (HE3.below (Go.below_drewN (aY w3.heap.size w3) nq));have HF4:Hi (dL R w1 (w3.drewN nq)):=HF3.trans (dL.of_below (Go.below_drewN By nq));generalize w3.drewN nq=w4 at HE4 HF4 ⊢;clear g3 g5 f5 hR3 n0 hln3;go_wp2;go_roundw;case rel=>exact HREL o2 _ HE4 HF4 (fun _=>Sq)
   case measure=>(simp[Io];omega)
  have HE3:=aN hE3;have HF3:Hi (dL R w w3):=(dL.of_below HB1).trans (HFR2.trans hF3);have HX3:Hi (r=Z):=by
   rcases HST r1 HR1 with h2|⟨b2,x2,u2,h2,h3⟩
   ·exact h2.2
   rw[hq]at h2;cases h2
  clear hF3 hE3 hq;unfold aX;go_wp2;go_ret;exact⟨HF3,.inr ⟨HX3,p,x',t2,l2,ov,X,HE3⟩⟩
 have HX:Hi (r=U (out,x,u)):=by
  have h:=HEE.out
  cases m with
  |zero=>cases h
  |succ m=>
   unfold eG at h
   rw[G O]at h
   injection h with h
   exact h.symm
 have hge:¬(k:Int)<kids:=hlt;go_wp2;go_ret;exact⟨(dL.of_below HB1).trans HFR,.inl ⟨out,x,u,t1,l1,o1,HX,X,HT,HEW⟩⟩
def Fm(E:dF)(W:M)(R:Nat)(a:Oo Ad)(c:Nat)(ta:Oo Ad)(tc f:Nat)(sn:Sn->Ad)(n:Nd)(dp:Int)(r:cP)(x0:Nat)(t0:Q)(l0:Bool)(o0:Oo Int)(w0:M)(vk:Vv)(wr:M):Prop:=
 ∃(k x:Nat) (out:Q) (u:Bool) (t1:Q) (l1:Bool) (o1:Oo Int),k<=n.kids.length/\vk=I J k/\dP E (wrF E f) dp (n.kids.drop k) x out u=U r/\x0<=x/\x<=E.t.length/\nk t0 l0 o0 out u t1 l1 o1/\gS W wr R a E.s.length c ta E.t.length tc x t1 l1 (gK sn o1)/\dL R w0 wr
theorem CG(E:dF)(W:M)(R:Nat)(a:Oo Ad)(c:Nat)(ta:Oo Ad)(tc f:Nat)(sn:Sn->Ad)(hc:EC E W a ta sn)(htc:E.t.length<=tc)(hN:lC E W R a c ta tc sn f)(hf1:1<=f)(i:Nat)(hi:i<E.s.length)(ka:Oo Ad)(kc:Nat)(hka:be W ka (nd E.s i).kids)(hkc:(nd E.s i).kids.length<=kc)(hkm:kc<=maxLen)(x0:Nat)(dp:Int)(r:cP)(t0:Q)(l0:Bool)(o0:Oo Int)(w:M)(e:dP E (wrF E f) dp (nd E.s i).kids x0 bh false=U r)(hx0:x0<=E.t.length)(hfx:E.t.length+1<=f+x0)(hd1:1<=dp)(hd2:dp<=12)(h4:t0.size<=4000)(hI:gS W w R a E.s.length c ta E.t.length tc x0 t0 l0 (gK sn o0)):Cs prog 150 #[Po (U (D R 0 Z)),Ag #[I J (nd E.s i).kind,I J (nd E.s i).tag,I J (nd E.s i).mode,S ka (nd E.s i).kids.length kc],I J dp] w fun e w'=>fm E W R a c ta tc sn r t0 l0 o0 w e w':=by
 have HC:=aN hc;have HNN:=aN hN;have HI:=aN hI;have HKA:=aN hka;have HE:=aN e;have HTC:=aN htc;have hk8:=qF hc.wc.right.2.2.1 hi;have hRl:R<w.heap.size:=by obtain⟨tv,h1,_⟩:=hI.own;exact bm h1
 have HHI:=aN hi;obtain⟨n,hn⟩:∃n,nd E.s i=n:=Ey;have HN:=aN hn;rw[hn]at HKA hkc hk8 HE ⊢;have hw0:gS W (w.alloc (C #[I J n.kind,I J n.tag,I J n.mode,S ka n.kids.length kc] 58)) R a E.s.length c ta E.t.length tc x0 t0 l0 (gK sn o0):=hI.below Be;have HW0:=aN hw0;have hkm':kc<=9223372036854775807:=by unfold maxLen at hkm;omega
 clear hc hN hI hka e htc hi hn hw0 hkm;go_enter func150,ntmps150;go_wp2_with fail;go_loopw [13] (fun vk wr=>Fm E W R a c ta tc f sn n dp r x0 t0 l0 o0 w vk wr) (fun vk _=>n.kids.length-(Io vk).toNat);case atStart=>exact⟨0,x0,bh,false,t0,l0,o0,Lz,X,HE,Ln,hx0,nk.refl h4,HW0,dL.of_below Be⟩
 obtain⟨k,x,out,u,t1,l1,o1,hk,rfl,hE,hx1,hx2,hT,hEw,hFr⟩:=hrel;have HEW:=aN hEw;have HT:=aN hT;have HFR:=aN hFr;have HEE:=aN hE;clear hEw hT hFr hE;by_cases hlt:k<n.kids.length
 ·obtain⟨b,o,hkaE,kcl⟩:=HKA k hlt;have hmem:n.kids.getD k j6∈n.kids:=fU (n:=n) hlt;obtain⟨y,hy⟩:∃y,n.kids.getD k j6=y:=Ey;rw[hy]at kcl hmem;have hdrop:n.kids.drop k=y::n.kids.drop (k+1):=by rw[fI hlt];congr 1;rw[<-hy,aB,aC hlt];rfl
  have hE':=HEE.out;rw[hdrop]at hE';have hKK:=DD (dp:=dp) HC.wc.right HC.wc.ok HHI (by rw[HN.out];exact hmem) hf1 hE';have HKK:=aN hKK;have hwn:=HC.wc.right.fine.within i HHI y (by rw[HN.out];exact hmem);obtain⟨t,ht⟩:∃t:Nat,y.node=t:=⟨y.node.toNat,O⟩;have htn:y.node.toNat=t:=O;have htl:t<E.s.length:=O;have HNE:Hi (∀wq,gS W wq R a E.s.length c ta E.t.length tc x t1 l1 (gK sn o1)->∃r1,wrF E f t x (dp+1)=U r1/\Cs prog 75 #[Po (U (D R 0 Z)),I J t,I J (dp+1)] wq fun e w'=>fm E W R a c ta tc sn r1 t1 l1 o1 wq e w'):=fun wq q=>by obtain⟨r1,h1⟩:=rL (E:=E) f t x (dp+1) O hf1;exact⟨r1,h1,HNN t x (dp+1) r1 t1 l1 o1 wq h1 htl hx2 O hf1 O O HT.mx q⟩
  have HLO:Hi (∀wq,gS W wq R a E.s.length c ta E.t.length tc x t1 l1 (gK sn o1)->Cs prog 183 #[Po (U (D R 0 Z)),Ag #[I J t,Bo y.opt,Y y.dflt]] wq fun e w'=>zn E W R a c ta tc y x t1 l1 (gK sn o1) wq e w'):=fun wq q=>by have:=wh E W R a c ta tc sn HC HTC i HHI y (by rw[HN.out];exact hmem) x t1 l1 (gK sn o1) wq hx2 q;rw[ht]at this;exact this
  obtain⟨kc0,kc1,kc2⟩:=kcl;rw[ht]at kc0;have hbW:=HEW.out.bel;have m0:wr.cell? (D b (o+k*3) Z)=U (I J t):=(hbW.cell (aw kc0)).trans kc0;have m1:wr.cell? (D b (o+k*3+1) Z)=U (Bo y.opt):=(hbW.cell (aw kc1)).trans kc1;have m2:wr.cell? (D b (o+k*3+2) Z)=U (Y y.dflt):=(hbW.cell (aw kc2)).trans kc2;have hlb:=aw m0;simp only at hlb;have hlt':(k:Int)<(n.kids.length:Int):=O;rw[hkaE];have HEB:Hi (∀A,gS W (wr.alloc A) R a E.s.length c ta E.t.length tc x t1 l1 (gK sn o1)):=fun A=>HEW.below Be;have HFB:Hi (∀A,dL R w (wr.alloc A)):=fun A=>HFR.trans (dL.of_below Be);have hgk:(wr.alloc (C #[I J t,Bo y.opt,Y y.dflt] 55)).heap[wr.heap.size]? =U (C #[I J t,Bo y.opt,Y y.dflt] 55 (0,0)):=aA wr _;have HGK:=aN hgk;have hneR:wr.heap.size≠R:=by obtain⟨tv,h1,_⟩:=HEW.out.own;have:=bm h1;omega
  clear kc0 kc1 kc2 hbW hmem hy hdrop hE' hKK hgk hlt;go_wp2_with fail;refine(HLO _ (HEB _)).mono ?_;rintro e w2 ⟨hF2,⟨hlo,rfl,hE2⟩|⟨hlo,rfl,hE2⟩⟩
  ·have HE2:=aN hE2;have HF2:Hi (dL R w w2):=(HFB _).trans hF2;have HX2:Hi (dP E (wrF E f) dp (n.kids.drop (k+1)) (x+1) out u=U r/\x+1<=E.t.length):=by
    rcases HKK with h|h
    ·exact⟨h.2,h.1.1⟩
    exact Ab hlo h.1
   clear hF2 hlo hE2 m0 m1 m2;go_wp2;go_roundw;case rel=>exact⟨k+1,x+1,out,u,t1,l1,o1,O,Gn,HX2.1,O,HX2.2,HT,HE2,HF2⟩
   case measure=>exact Ms
  have HF2:Hi (dL R w w2):=(HFB _).trans hF2;obtain⟨r1,hr1,hca⟩:=HNE w2 hE2;have HR1:=aN hr1;have HCA:=aN hca;have HLN:=aN hlo;have hg2:=hF2 _ _ _ hneR Dc HGK;have g0:w2.cell? (D wr.heap.size 0 Z)=U (I J t):=cell_of_row hg2 X;have hl2:=aw g0;simp only at hl2;have hwr:IntKind.i64.wrap (dp+1)=dp+1:=by rw[db];omega
  clear hF2 hlo hE2 m0 m1 m2 hr1 hca hg2;go_wp2_with fail;refine HCA.mono ?_;rintro e w3 ⟨hF3,⟨b1,x',u',t2,l2,o2,hq,rfl,hT2,hE3⟩|⟨hq,p,x',t2,l2,ov,rfl,hE3⟩⟩
  ·have HE3:=aN hE3;have HF3:Hi (dL R w w3):=HF2.trans hF3;have HT2:=aN hT2;have HX3:Hi (dP E (wrF E f) dp (n.kids.drop (k+1)) x' (out++b1) (u||u')=U r/\x0<=x'/\x'<=E.t.length):=by
    have hadv:=oe f t x (dp+1) r1 HR1 b1 x' u' hq;rcases HKK with h|h
    ·exact Ab h.1 HLN
    rw[htn]at h;rcases h.2 r1 HR1 with h2|⟨b2,x2,u2,h2,h3⟩
    ·rw[h2.1]at hq;cases hq
    rw[hq]at h2;injection h2 with h2;injection h2 with e1 h2;injection h2 with e2 e3;subst e1 e2 e3;exact⟨h3,O,hadv.2.1⟩
   clear hF3 hT2 hE3 g0 hl2 hq;go_wp2;go_roundw;case rel=>exact⟨k+1,x',out++b1,u||u',t2,l2,o2,O,Gn,HX3.1,HX3.2.1,HX3.2.2,HT.trans HT2,HE3,HF3⟩
   case measure=>exact Ms
  have HE3:=aN hE3;have HF3:Hi (dL R w w3):=HF2.trans hF3;have HX3:Hi (r=Z):=by
   rcases HKK with h|h
   ·exact Ab h.1 HLN
   rw[htn]at h;rcases h.2 r1 HR1 with h2|⟨b2,x2,u2,h2,h3⟩
   ·exact h2.2
   rw[hq]at h2;cases h2
  clear hF3 hE3 g0 hl2 hq;unfold aX;go_wp2;go_ret;exact⟨HF3,.inr ⟨HX3,p,x',t2,l2,ov,X,HE3⟩⟩
 obtain rfl:k=n.kids.length:=O;have HX:Hi (r=U (out,x,u)):=by have h:=HEE.out;rw[List.drop_length]at h;unfold dP at h;injection h with h;exact h.symm
 go_wp2;go_ret;exact⟨HFR,.inl ⟨out,x,u,t1,l1,o1,HX,X,HT,HEW⟩⟩
theorem Eo(E:dF)(W:M)(R:Nat)(a:Oo Ad)(c:Nat)(ta:Oo Ad)(tc f:Nat)(sn:Sn->Ad)(hc:EC E W a ta sn)(htc:E.t.length<=tc)(hN:lC E W R a c ta tc sn f)(hf1:1<=f)(i:Nat)(hi:i<E.s.length)(ka:Oo Ad)(kc:Nat)(hka:be W ka (nd E.s i).kids)(hkc:(nd E.s i).kids.length<=kc)(hkm:kc<=maxLen)(x:Nat)(dp:Int)(r:cP)(t0:Q)(l0:Bool)(o0:Oo Int)(w:M)(hfit:gW (nd E.s i) (vl E.t x))(e:dO E (wrF E f) f (nd E.s i) (nl (nd E.s i)) (np (nd E.s i)) (vl E.t x) (x+1) dp=U r)(hx:x<E.t.length)(hfx:E.t.length+1<=f+(x+1))(hd1:1<=dp)(hd2:dp<=12)(h4:t0.size<=4000)(hI:gS W w R a E.s.length c ta E.t.length tc (x+1) t0 l0 (gK sn o0))(hk:(nd E.s i).kind=14):Cs prog 111 #[Po (U (D R 0 Z)),Ag #[I J (nd E.s i).kind,I J (nd E.s i).tag,I J (nd E.s i).mode,S ka (nd E.s i).kids.length kc],Ag #[I J (vl E.t x).kind,Y (vl E.t x).text,I J (vl E.t x).alt,I J (vl E.t x).kids],I J dp] w fun e w'=>fm E W R a c ta tc sn r t0 l0 o0 w e w':=by
 have HC:=aN hc;have HI:=aN hI;have htx:=hc.txt hx;have hwnb:=oP hc.wc.right hi;obtain⟨hk1,hk14,hT1,hT2,hT3,hT4,hT5⟩:=dE hc.wc.right hi;have hnums:=hc.lay.n;obtain⟨bs,cp,hform⟩:∃bs cp,∃tvx,tvx=Value.slice bs t0.size cp/\w.heap[R]? =U (dm a E.s.length c ta E.t.length tc (x+1) tvx l0 (gK sn o0)):=by obtain⟨tv,h1,h2⟩:=hI.own;obtain⟨bs,cp,rfl,_⟩:=oI h2;exact⟨bs,cp,_,X,h1⟩
 obtain⟨_,rfl,hown⟩:=hform;have hRl:R<w.heap.size:=bm hown;have HX:Hi (r=U ((vl E.t x).text,x+1,false)):=by have h:=e;unfold dO at h;rw[G O,aG hk,aG ((E6 hk hfit.1).1 hfit)]at h;injection h with h;exact h.symm
 rw[hk];obtain⟨K,hK⟩:∃K:Int,K=14:=Ez;generalize hTG:(nd E.s i).tag=TG;generalize hMD:(nd E.s i).mode=MD;generalize hKL:(nd E.s i).kids.length=KL;generalize hVK:(vl E.t x).kind=VK;generalize hVT:(vl E.t x).text=VT at HX htx ⊢;generalize hVA:(vl E.t x).alt=VA;generalize hVD:(vl E.t x).kids=VD;have HIN:Hi _:=fun wq q=>m6 W wq R a E.s.length c ta E.t.length tc (x+1) t0 l0 (gK sn o0) t0.size VT Ln h4 O q;have hB1:H w.heap.size w ((w.alloc (C #[I J 14,I J TG,I J MD,S ka KL kc] 58)).alloc (C #[I J VK,Y VT,I J VA,I J VD] 60)):=((aY w.heap.size w).alloc Ln _).alloc Sq _;have hG1:((w.alloc (C #[I J 14,I J TG,I J MD,S ka KL kc] 58)).alloc (C #[I J VK,Y VT,I J VA,I J VD] 60)).heap[w.heap.size]? =U (C #[I J 14,I J TG,I J MD,S ka KL kc] 58 (0,0)):=ax (aA w _) Be;have hG2:((w.alloc (C #[I J 14,I J TG,I J MD,S ka KL kc] 58)).alloc (C #[I J VK,Y VT,I J VA,I J VD] 60)).heap[w.heap.size+1]? =U (C #[I J VK,Y VT,I J VA,I J VD] 60 (0,0)):=by simpa using aA (w.alloc (C #[I J 14,I J TG,I J MD,S ka KL kc] 58)) (C #[I J VK,Y VT,I J VA,I J VD] 60)
 have hg3:=ax hown hB1;unfold dm at hg3;have c3:((w.alloc (C #[I J 14,I J TG,I J MD,S ka KL kc] 58)).alloc (C #[I J VK,Y VT,I J VA,I J VD] 60)).cell? (D R 3 Z)=U (S bs t0.size cp):=by simp[Wc,hg3]
 clear hown hg3;clear hc hI e hfit hwnb hT1 hT2 hT3 hT4 hT5 hnums hTG hMD hKL hVK hVT hVA hVD hk hk1 hk14 hK hka hN;go_enter func111,ntmps111;go_upto_region 1 with fail;obtain⟨nb,hnb⟩:∃nb,w.heap.size=nb:=Ey;obtain⟨vb,hvb⟩:∃vb,w.heap.size+1=vb:=Ey;rw[hvb]at hG2 ⊢;rw[hnb]at hG1 ⊢;generalize(w.alloc (C #[I J 14,I J TG,I J MD,S ka KL kc] 58)).alloc (C #[I J VK,Y VT,I J VA,I J VD] 60)=w1 at hB1 hG1 hG2 c3 ⊢;have hneN:nb≠R:=O;have HB1:=aN hB1;have HG1:=aN hG1;have HI1:=aN (HI.below hB1);have v1:w1.cell? (D vb 1 Z)=U (Y VT):=cell_of_row hG2 X;have v3:w1.cell? (D vb 3 Z)=U (I J VD):=cell_of_row hG2 X;have k0:w1.cell? (D nb 0 Z)=U (I J 14):=cell_of_row hG1 X;have k1:w1.cell? (D nb 1 Z)=U (I J TG):=cell_of_row hG1 X;have k2:w1.cell? (D nb 2 Z)=U (I J MD):=cell_of_row hG1 X;have k3:w1.cell? (D nb 3 Z)=U (S ka KL kc):=cell_of_row hG1 X;have hR1:R<w1.heap.size:=aw c3;have hlv:=bm hG2;have hln:=bm hG1;clear hB1 hG1 hG2 hnb hvb;go_wp2_with fail;refine(HIN _ HI1).mono ?_;rintro e w2 ⟨rfl,hF2,t2,l2,hi2,hE2⟩;have HF2:=aN hF2;have HI2:=aN hi2;have HE2:=aN hE2;clear hF2 hi2 hE2;go_wp2;go_ret;exact⟨(dL.of_below HB1).trans HF2.fr,.inl ⟨_,_,_,t2,l2,_,HX,X,nk.ofIns h4 HI2,HE2⟩⟩
theorem Gb(E:dF)(W:M)(R:Nat)(a:Oo Ad)(c:Nat)(ta:Oo Ad)(tc f:Nat)(sn:Sn->Ad)(hc:EC E W a ta sn)(htc:E.t.length<=tc)(hN:lC E W R a c ta tc sn f)(hf1:1<=f)(i:Nat)(hi:i<E.s.length)(ka:Oo Ad)(kc:Nat)(hka:be W ka (nd E.s i).kids)(hkc:(nd E.s i).kids.length<=kc)(hkm:kc<=maxLen)(x:Nat)(dp:Int)(r:cP)(t0:Q)(l0:Bool)(o0:Oo Int)(w:M)(hfit:gW (nd E.s i) (vl E.t x))(e:dO E (wrF E f) f (nd E.s i) (nl (nd E.s i)) (np (nd E.s i)) (vl E.t x) (x+1) dp=U r)(hx:x<E.t.length)(hfx:E.t.length+1<=f+(x+1))(hd1:1<=dp)(hd2:dp<=12)(h4:t0.size<=4000)(hI:gS W w R a E.s.length c ta E.t.length tc (x+1) t0 l0 (gK sn o0))(hk:(nd E.s i).kind<=9):Cs prog 111 #[Po (U (D R 0 Z)),Ag #[I J (nd E.s i).kind,I J (nd E.s i).tag,I J (nd E.s i).mode,S ka (nd E.s i).kids.length kc],Ag #[I J (vl E.t x).kind,Y (vl E.t x).text,I J (vl E.t x).alt,I J (vl E.t x).kids],I J dp] w fun e w'=>fm E W R a c ta tc sn r t0 l0 o0 w e w':=by
 have HC:=aN hc;have HI:=aN hI;have htx:=hc.txt hx;have hwnb:=oP hc.wc.right hi;have hcn:=od (n:=nd E.s i) O;obtain⟨hk1,hk14,hT1,hT2,hT3,hT4,hT5⟩:=dE hc.wc.right hi;have hnums:=hc.lay.n;obtain⟨bs,cp,hform⟩:∃bs cp,∃tvx,tvx=Value.slice bs t0.size cp/\w.heap[R]? =U (dm a E.s.length c ta E.t.length tc (x+1) tvx l0 (gK sn o0)):=by obtain⟨tv,h1,h2⟩:=hI.own;obtain⟨bs,cp,rfl,_⟩:=oI h2;exact⟨bs,cp,_,X,h1⟩
 obtain⟨_,rfl,hown⟩:=hform;have hRl:R<w.heap.size:=bm hown;have HX:Hi (r=U (eN (nl (nd E.s i)) false (np (nd E.s i)) (vl E.t x).text,x+1,false)):=by have h:=e;have hf:=(GY (.inl O) hfit.1).1 hfit;unfold dO at h;rw[G O,G O,G O,G O,aG ⟨(hc.wc.ok _ _).2 hf.1,hf.2⟩]at h;injection h with h;exact h.symm
 obtain⟨CL,hCL⟩:∃CL,nl (nd E.s i)=CL:=Ey;obtain⟨NU,hNU⟩:∃NU,np (nd E.s i)=NU:=Ey;rw[hCL,hNU]at hcn hwnb HX;obtain⟨K,hK⟩:∃K,(nd E.s i).kind=K:=Ey;rw[hK]at hk ⊢;obtain⟨BT,hBT⟩:∃BT:Bool,BT=false:=Ez;replace HX:Hi (r=U (eN CL BT NU (vl E.t x).text,x+1,false)):=by rw[hBT];exact HX
 generalize hTG:(nd E.s i).tag=TG;generalize hMD:(nd E.s i).mode=MD;generalize hKL:(nd E.s i).kids.length=KL;generalize hVK:(vl E.t x).kind=VK;generalize hVT:(vl E.t x).text=VT at HX htx ⊢;generalize hVA:(vl E.t x).alt=VA;generalize hVD:(vl E.t x).kids=VD;have HIN:Hi (∀wq,gS W wq R a E.s.length c ta E.t.length tc (x+1) t0 l0 (gK sn o0)->Cs prog 149 #[Po (U (D R 0 Z)),I J t0.size,Y VT] wq fun e w'=>pP W R a E.s.length c ta E.t.length tc (x+1) t0 l0 (gK sn o0) t0.size VT wq e w'):=fun wq q=>m6 W wq R a E.s.length c ta E.t.length tc (x+1) t0 l0 (gK sn o0) t0.size VT Ln h4 O q;have HOW:Hi (∀wq,H W.heap.size W wq->Cs prog 152 #[Ag #[I J K,I J TG,I J MD,S ka KL kc]] wq fun e w'=>e=Rt (Ag #[I J CL,I J NU,Bo BT])/\H wq.heap.size wq w'):=fun wq q=>by have:=nT (nd E.s i) ka kc wq (HC.lay.below q).n O O O;unfold fv at this;rw[<-hcn,hTG,hMD,hKL]at this;rw[hK,aE O,<-hBT]at this;exact this
 have HWR:Hi (∀wq t1 l1 o1 x1,gS W wq R a E.s.length c ta E.t.length tc x1 t1 l1 (gK sn o1)->t0.size<=t1.size->t1.size<=4000->Cs prog 113 #[Po (U (D R 0 Z)),I J t0.size,Ag #[I J CL,I J NU,Bo BT]] wq fun e w'=>pP W R a E.s.length c ta E.t.length tc x1 t1 l1 (gK sn o1) t0.size (hdB CL BT NU (t1.size-t0.size)) wq e w'):=fun wq t1 l1 o1 x1 q h1 h2=>lY W wq R a E.s.length c ta E.t.length tc x1 t1 l1 (gK sn o1) sn HC.lay t0.size CL NU BT hwnb.1 hwnb.2.1 hwnb.2.2.1 hwnb.2.2.2 h1 h2 q;have hB1:H w.heap.size w ((w.alloc (C #[I J K,I J TG,I J MD,S ka KL kc] 58)).alloc (C #[I J VK,Y VT,I J VA,I J VD] 60)):=((aY w.heap.size w).alloc Ln _).alloc Sq _;have hG1:((w.alloc (C #[I J K,I J TG,I J MD,S ka KL kc] 58)).alloc (C #[I J VK,Y VT,I J VA,I J VD] 60)).heap[w.heap.size]? =U (C #[I J K,I J TG,I J MD,S ka KL kc] 58 (0,0)):=ax (aA w _) Be;have hG2:((w.alloc (C #[I J K,I J TG,I J MD,S ka KL kc] 58)).alloc (C #[I J VK,Y VT,I J VA,I J VD] 60)).heap[w.heap.size+1]? =U (C #[I J VK,Y VT,I J VA,I J VD] 60 (0,0)):=by simpa using aA (w.alloc (C #[I J K,I J TG,I J MD,S ka KL kc] 58)) (C #[I J VK,Y VT,I J VA,I J VD] 60)
 have hg3:=ax hown hB1;unfold dm at hg3;have c3:((w.alloc (C #[I J K,I J TG,I J MD,S ka KL kc] 58)).alloc (C #[I J VK,Y VT,I J VA,I J VD] 60)).cell? (D R 3 Z)=U (S bs t0.size cp):=by simp[Wc,hg3]
 clear hown hg3;have b14:(K==14)=false:=So;have b10:(K==10)=false:=So;have b11:(K==11)=false:=So;have b12:(K==12)=false:=So;clear hc hI e hfit hcn hwnb hT1 hT2 hT3 hT4 hT5 hnums hTG hMD hKL hVK hVT hVA hVD hk hk1 hk14 hK hka hN hBT hCL hNU;go_enter func111,ntmps111;go_upto_region 1 with fail;obtain⟨nb,hnb⟩:∃nb,w.heap.size=nb:=Ey;obtain⟨vb,hvb⟩:∃vb,w.heap.size+1=vb:=Ey;rw[hvb]at hG2 ⊢;rw[hnb]at hG1 ⊢;generalize(w.alloc (C #[I J K,I J TG,I J MD,S ka KL kc] 58)).alloc (C #[I J VK,Y VT,I J VA,I J VD] 60)=w1 at hB1 hG1 hG2 c3 ⊢;have hneN:nb≠R:=O;have HB1:=aN hB1;have HG1:=aN hG1;have HI1:=aN (HI.below hB1);have v1:w1.cell? (D vb 1 Z)=U (Y VT):=cell_of_row hG2 X;have v3:w1.cell? (D vb 3 Z)=U (I J VD):=cell_of_row hG2 X;have k0:w1.cell? (D nb 0 Z)=U (I J K):=cell_of_row hG1 X;have k1:w1.cell? (D nb 1 Z)=U (I J TG):=cell_of_row hG1 X;have k2:w1.cell? (D nb 2 Z)=U (I J MD):=cell_of_row hG1 X;have k3:w1.cell? (D nb 3 Z)=U (S ka KL kc):=cell_of_row hG1 X;have hR1:R<w1.heap.size:=aw c3;have hlv:=bm hG2;have hln:=bm hG1;clear hB1 hG1 hG2 hnb hvb;go_wp2_with fail;refine(HIN _ HI1).mono ?_;rintro e w2 ⟨rfl,hF2,t2,l2,hi2,hE2⟩;have HF2:Hi (dL R w1 w2):=hF2.fr;have HT2:Hi (nk t0 l0 o0 VT false t2 l2 o0):=nk.ofIns h4 hi2;have HE2:=aN hE2;clear hF2 hi2 hE2 k0 k1 k2 k3 v1 v3 c3 hln;have kn:=HF2 _ _ _ hneN Dc HG1;have q0:w2.cell? (D nb 0 Z)=U (I J K):=cell_of_row kn X;have q1:w2.cell? (D nb 1 Z)=U (I J TG):=cell_of_row kn X;have q2:w2.cell? (D nb 2 Z)=U (I J MD):=cell_of_row kn X;have q3:w2.cell? (D nb 3 Z)=U (S ka KL kc):=cell_of_row kn X;have hlq:=bm kn;clear kn;go_wp2_with fail;refine(HOW _ HE2.bel).mono ?_;rintro e w8 ⟨rfl,hb8⟩;have HB8:=aN hb8;clear hb8;go_wp2_with fail;refine(HWR _ _ _ _ _ (HE2.below HB8) HT2.le HT2.mx).mono ?_;rintro e w9 ⟨rfl,hF9,t9,l9,hi9,hE9⟩;have HF9:=aN hF9;have HI9:=aN hi9;have HE9:=aN hE9;clear hF9 hi9 hE9;go_wp2;go_ret;exact⟨(dL.of_below HB1).trans (HF2.trans ((dL.of_below HB8).trans HF9.fr)),.inl ⟨_,_,_,t9,l9,_,HX,X,HT2.wrap HI9,HE9⟩⟩
theorem El(E:dF)(W:M)(R:Nat)(a:Oo Ad)(c:Nat)(ta:Oo Ad)(tc f:Nat)(sn:Sn->Ad)(hc:EC E W a ta sn)(htc:E.t.length<=tc)(hN:lC E W R a c ta tc sn f)(hf1:1<=f)(i:Nat)(hi:i<E.s.length)(ka:Oo Ad)(kc:Nat)(hka:be W ka (nd E.s i).kids)(hkc:(nd E.s i).kids.length<=kc)(hkm:kc<=maxLen)(x:Nat)(dp:Int)(r:cP)(t0:Q)(l0:Bool)(o0:Oo Int)(w:M)(hfit:gW (nd E.s i) (vl E.t x))(e:dO E (wrF E f) f (nd E.s i) (nl (nd E.s i)) (np (nd E.s i)) (vl E.t x) (x+1) dp=U r)(hx:x<E.t.length)(hfx:E.t.length+1<=f+(x+1))(hd1:1<=dp)(hd2:dp<=12)(h4:t0.size<=4000)(hI:gS W w R a E.s.length c ta E.t.length tc (x+1) t0 l0 (gK sn o0))(hk:(nd E.s i).kind=10):Cs prog 111 #[Po (U (D R 0 Z)),Ag #[I J (nd E.s i).kind,I J (nd E.s i).tag,I J (nd E.s i).mode,S ka (nd E.s i).kids.length kc],Ag #[I J (vl E.t x).kind,Y (vl E.t x).text,I J (vl E.t x).alt,I J (vl E.t x).kids],I J dp] w fun e w'=>fm E W R a c ta tc sn r t0 l0 o0 w e w':=by
 have HC:=aN hc;have HI:=aN hI;have htx:=hc.txt hx;have hwnb:=oP hc.wc.right hi;have hcn:=od (n:=nd E.s i) O;obtain⟨hk1,hk14,hT1,hT2,hT3,hT4,hT5⟩:=dE hc.wc.right hi;have hnums:=hc.lay.n;obtain⟨bs,cp,hform⟩:∃bs cp,∃tvx,tvx=Value.slice bs t0.size cp/\w.heap[R]? =U (dm a E.s.length c ta E.t.length tc (x+1) tvx l0 (gK sn o0)):=by obtain⟨tv,h1,h2⟩:=hI.own;obtain⟨bs,cp,rfl,_⟩:=oI h2;exact⟨bs,cp,_,X,h1⟩
 obtain⟨_,rfl,hown⟩:=hform;have hRl:R<w.heap.size:=bm hown;obtain⟨r1,hr1,HX⟩:∃r1,dP E (wrF E f) dp (nd E.s i).kids (x+1) bh false=U r1/\Hi ((r1=Z->r=Z)/\∀b x' u,r1=U (b,x',u)->r=U (eN (nl (nd E.s i)) true (np (nd E.s i)) b,x',u)):=by
  have h:=e;unfold dO at h;rw[G O,G O,aG hk,aG ((E4 hk hfit.1).1 hfit)]at h;rcases dg h with⟨h1,h2⟩|⟨b,x',u,h1,h2⟩
  ·exact⟨Z,h1,fun _=>h2,fun _ _ _ q=>by cases q⟩
  refine⟨_,h1,fun q=>(by cases q),fun b' x'' u' q=>?_⟩;injection q with q;injection q with e1 q;injection q with e2 e3;subst e1 e2 e3;injection h2 with h2;exact h2.symm
 obtain⟨CL,hCL⟩:∃CL,nl (nd E.s i)=CL:=Ey;obtain⟨NU,hNU⟩:∃NU,np (nd E.s i)=NU:=Ey;rw[hCL,hNU]at hcn hwnb HX;obtain⟨K,hK⟩:∃K,(nd E.s i).kind=K:=Ey;rw[hK]at hk ⊢;obtain⟨BT,hBT⟩:∃BT:Bool,BT=true:=Ez;rw[<-hBT]at HX;have HCA:Hi (∀wq,gS W wq R a E.s.length c ta E.t.length tc (x+1) t0 l0 (gK sn o0)->Cs prog 150 #[Po (U (D R 0 Z)),Ag #[I J K,I J (nd E.s i).tag,I J (nd E.s i).mode,S ka (nd E.s i).kids.length kc],I J dp] wq fun e w'=>fm E W R a c ta tc sn r1 t0 l0 o0 wq e w'):=fun wq q=>by rw[<-hK];exact CG E W R a c ta tc f sn hc htc hN hf1 i hi ka kc hka hkc hkm (x+1) dp r1 t0 l0 o0 wq hr1 hx hfx hd1 hd2 h4 q
 generalize hTG:(nd E.s i).tag=TG at HCA ⊢;generalize hMD:(nd E.s i).mode=MD at HCA ⊢;generalize hKL:(nd E.s i).kids.length=KL at HCA ⊢;generalize hVK:(vl E.t x).kind=VK;generalize hVT:(vl E.t x).text=VT;generalize hVA:(vl E.t x).alt=VA;generalize hVD:(vl E.t x).kids=VD at HCA ⊢;have HOW:Hi (∀wq,H W.heap.size W wq->Cs prog 152 #[Ag #[I J K,I J TG,I J MD,S ka KL kc]] wq fun e w'=>e=Rt (Ag #[I J CL,I J NU,Bo BT])/\H wq.heap.size wq w'):=fun wq q=>by have:=nT (nd E.s i) ka kc wq (HC.lay.below q).n O O O;unfold fv at this;rw[<-hcn,hTG,hMD,hKL]at this;rw[hK,aM O,<-hBT]at this;exact this
 have HWR:Hi _:=fun wq t1 l1 o1 x1 q h1 h2=>lY W wq R a E.s.length c ta E.t.length tc x1 t1 l1 (gK sn o1) sn HC.lay t0.size CL NU BT hwnb.1 hwnb.2.1 hwnb.2.2.1 hwnb.2.2.2 h1 h2 q;have hB1:H w.heap.size w ((w.alloc (C #[I J K,I J TG,I J MD,S ka KL kc] 58)).alloc (C #[I J VK,Y VT,I J VA,I J VD] 60)):=((aY w.heap.size w).alloc Ln _).alloc Sq _;have hG1:((w.alloc (C #[I J K,I J TG,I J MD,S ka KL kc] 58)).alloc (C #[I J VK,Y VT,I J VA,I J VD] 60)).heap[w.heap.size]? =U (C #[I J K,I J TG,I J MD,S ka KL kc] 58 (0,0)):=ax (aA w _) Be;have hG2:((w.alloc (C #[I J K,I J TG,I J MD,S ka KL kc] 58)).alloc (C #[I J VK,Y VT,I J VA,I J VD] 60)).heap[w.heap.size+1]? =U (C #[I J VK,Y VT,I J VA,I J VD] 60 (0,0)):=by simpa using aA (w.alloc (C #[I J K,I J TG,I J MD,S ka KL kc] 58)) (C #[I J VK,Y VT,I J VA,I J VD] 60)
 have hg3:=ax hown hB1;unfold dm at hg3;have c3:((w.alloc (C #[I J K,I J TG,I J MD,S ka KL kc] 58)).alloc (C #[I J VK,Y VT,I J VA,I J VD] 60)).cell? (D R 3 Z)=U (S bs t0.size cp):=by simp[Wc,hg3]
 clear hown hg3;clear hc hI e hfit hcn hwnb hT1 hT2 hT3 hT4 hT5 hnums hTG hMD hKL hVK hVT hVA hVD hK hk1 hk14 hka hN hBT hCL hNU;subst hk;go_enter func111,ntmps111;go_upto_region 1 with fail;obtain⟨nb,hnb⟩:∃nb,w.heap.size=nb:=Ey;obtain⟨vb,hvb⟩:∃vb,w.heap.size+1=vb:=Ey;rw[hvb]at hG2 ⊢;rw[hnb]at hG1 ⊢;generalize(w.alloc (C #[I J 10,I J TG,I J MD,S ka KL kc] 58)).alloc (C #[I J VK,Y VT,I J VA,I J VD] 60)=w1 at hB1 hG1 hG2 c3 ⊢;have hneN:nb≠R:=O;have HB1:=aN hB1;have HG1:=aN hG1;have HI1:=aN (HI.below hB1);have v1:w1.cell? (D vb 1 Z)=U (Y VT):=cell_of_row hG2 X;have v3:w1.cell? (D vb 3 Z)=U (I J VD):=cell_of_row hG2 X;have k0:w1.cell? (D nb 0 Z)=U (I J 10):=cell_of_row hG1 X;have k1:w1.cell? (D nb 1 Z)=U (I J TG):=cell_of_row hG1 X;have k2:w1.cell? (D nb 2 Z)=U (I J MD):=cell_of_row hG1 X;have k3:w1.cell? (D nb 3 Z)=U (S ka KL kc):=cell_of_row hG1 X;have hR1:R<w1.heap.size:=aw c3;have hlv:=bm hG2;have hln:=bm hG1;clear hB1 hG1 hG2 hnb hvb;go_wp2_with fail;refine(HCA _ HI1).mono ?_;rintro e w2 ⟨hF2,⟨b2,x2,u2,t2,l2,o2,hq,rfl,hT2,hE2⟩|⟨hq,p,x2,t2,l2,ov,rfl,hE2⟩⟩
 ·have HF2:=aN hF2;have HT2:=aN hT2;have HE2:=aN hE2;have HXX:Hi _:=HX.2 b2 x2 u2 hq;clear hF2 hT2 hE2 hq HX k0 k1 k2 k3 v1 v3 c3 hln;have HX:=HXX;have kn:=HF2 _ _ _ hneN Dc HG1;have q0:w2.cell? (D nb 0 Z)=U (I J 10):=cell_of_row kn X;have q1:w2.cell? (D nb 1 Z)=U (I J TG):=cell_of_row kn X;have q2:w2.cell? (D nb 2 Z)=U (I J MD):=cell_of_row kn X;have q3:w2.cell? (D nb 3 Z)=U (S ka KL kc):=cell_of_row kn X;have hlq:=bm kn;clear kn;go_wp2_with fail;refine(HOW _ HE2.bel).mono ?_;rintro e w8 ⟨rfl,hb8⟩;have HB8:=aN hb8;clear hb8;go_wp2_with fail;refine(HWR _ _ _ _ _ (HE2.below HB8) HT2.le HT2.mx).mono ?_;rintro e w9 ⟨rfl,hF9,t9,l9,hi9,hE9⟩;have HF9:=aN hF9;have HI9:=aN hi9;have HE9:=aN hE9;clear hF9 hi9 hE9;go_wp2;go_ret;exact⟨(dL.of_below HB1).trans (HF2.trans ((dL.of_below HB8).trans HF9.fr)),.inl ⟨_,_,_,t9,l9,_,HX,X,HT2.wrap HI9,HE9⟩⟩
 have HF2:Hi _:=(dL.of_below HB1).trans hF2;have HE2:=aN hE2;have HXX:Hi _:=HX.1 hq;clear hF2 hE2 hq;unfold aX;go_wp2;go_ret;exact⟨HF2,.inr ⟨HXX,p,x2,t2,l2,ov,X,HE2⟩⟩
theorem Em(E:dF)(W:M)(R:Nat)(a:Oo Ad)(c:Nat)(ta:Oo Ad)(tc f:Nat)(sn:Sn->Ad)(hc:EC E W a ta sn)(htc:E.t.length<=tc)(hN:lC E W R a c ta tc sn f)(hf1:1<=f)(i:Nat)(hi:i<E.s.length)(ka:Oo Ad)(kc:Nat)(hka:be W ka (nd E.s i).kids)(hkc:(nd E.s i).kids.length<=kc)(hkm:kc<=maxLen)(x:Nat)(dp:Int)(r:cP)(t0:Q)(l0:Bool)(o0:Oo Int)(w:M)(hfit:gW (nd E.s i) (vl E.t x))(e:dO E (wrF E f) f (nd E.s i) (nl (nd E.s i)) (np (nd E.s i)) (vl E.t x) (x+1) dp=U r)(hx:x<E.t.length)(hfx:E.t.length+1<=f+(x+1))(hd1:1<=dp)(hd2:dp<=12)(h4:t0.size<=4000)(hI:gS W w R a E.s.length c ta E.t.length tc (x+1) t0 l0 (gK sn o0))(hk:(nd E.s i).kind=11):Cs prog 111 #[Po (U (D R 0 Z)),Ag #[I J (nd E.s i).kind,I J (nd E.s i).tag,I J (nd E.s i).mode,S ka (nd E.s i).kids.length kc],Ag #[I J (vl E.t x).kind,Y (vl E.t x).text,I J (vl E.t x).alt,I J (vl E.t x).kids],I J dp] w fun e w'=>fm E W R a c ta tc sn r t0 l0 o0 w e w':=by
 have HC:=aN hc;have HI:=aN hI;have htx:=hc.txt hx;have hwnb:=oP hc.wc.right hi;have hcn:=od (n:=nd E.s i) O;obtain⟨hk1,hk14,hT1,hT2,hT3,hT4,hT5⟩:=dE hc.wc.right hi;have hnums:=hc.lay.n;obtain⟨bs,cp,hform⟩:∃bs cp,∃tvx,tvx=Value.slice bs t0.size cp/\w.heap[R]? =U (dm a E.s.length c ta E.t.length tc (x+1) tvx l0 (gK sn o0)):=by obtain⟨tv,h1,h2⟩:=hI.own;obtain⟨bs,cp,rfl,_⟩:=oI h2;exact⟨bs,cp,_,X,h1⟩
 obtain⟨_,rfl,hown⟩:=hform;have hRl:R<w.heap.size:=bm hown;obtain⟨r1,hr1,HX⟩:∃r1,eG E (wrF E f) (decide ((nd E.s i).kind=12)) (kd (nd E.s i) 0).node.toNat (dp+1) f (vl E.t x).kids (x+1) bh bh false=U r1/\Hi ((r1=Z->r=Z)/\∀b x' u,r1=U (b,x',u)->r=U (eN (nl (nd E.s i)) true (np (nd E.s i)) b,x',u)):=by
  have h:=e;unfold dO at h;rw[G O,G O,G O,aG O,aG ((vK (.inl hk) hfit.1).1 hfit)]at h;rcases dg h with⟨h1,h2⟩|⟨b,x',u,h1,h2⟩
  ·exact⟨Z,h1,fun _=>h2,fun _ _ _ q=>by cases q⟩
  refine⟨_,h1,fun q=>(by cases q),fun b' x'' u' q=>?_⟩;injection q with q;injection q with e1 q;injection q with e2 e3;subst e1 e2 e3;injection h2 with h2;exact h2.symm
 obtain⟨CL,hCL⟩:∃CL,nl (nd E.s i)=CL:=Ey;obtain⟨NU,hNU⟩:∃NU,np (nd E.s i)=NU:=Ey;rw[hCL,hNU]at hcn hwnb HX;obtain⟨K,hK⟩:∃K,(nd E.s i).kind=K:=Ey;rw[hK]at hk ⊢;obtain⟨BT,hBT⟩:∃BT:Bool,BT=true:=Ez;rw[<-hBT]at HX;have hvd:=((vK (.inl (hK▸hk)) hfit.1).1 hfit).2.2;have HCA:Hi (∀wq,gS W wq R a E.s.length c ta E.t.length tc (x+1) t0 l0 (gK sn o0)->Cs prog 151 #[Po (U (D R 0 Z)),Ag #[I J K,I J (nd E.s i).tag,I J (nd E.s i).mode,S ka (nd E.s i).kids.length kc],I J (vl E.t x).kids,I J dp] wq fun e w'=>fm E W R a c ta tc sn r1 t0 l0 o0 wq e w'):=fun wq q=>by rw[<-hK];exact sG E W R a c ta tc f sn hc htc hN hf1 i hi (hc.wc.right.fine.one i hi (.inl (hK▸hk))) ka kc hka hkc hkm (x+1) f (vl E.t x).kids dp r1 t0 l0 o0 wq hr1 hvd (hc.wc.kids x hx) hx hfx hd1 hd2 h4 q
 generalize hTG:(nd E.s i).tag=TG at HCA ⊢;generalize hMD:(nd E.s i).mode=MD at HCA ⊢;generalize hKL:(nd E.s i).kids.length=KL at HCA ⊢;generalize hVK:(vl E.t x).kind=VK;generalize hVT:(vl E.t x).text=VT;generalize hVA:(vl E.t x).alt=VA;generalize hVD:(vl E.t x).kids=VD at HCA ⊢;have HOW:Hi (∀wq,H W.heap.size W wq->Cs prog 152 #[Ag #[I J K,I J TG,I J MD,S ka KL kc]] wq fun e w'=>e=Rt (Ag #[I J CL,I J NU,Bo BT])/\H wq.heap.size wq w'):=fun wq q=>by have:=nT (nd E.s i) ka kc wq (HC.lay.below q).n O O O;unfold fv at this;rw[<-hcn,hTG,hMD,hKL]at this;rw[hK,aM O,<-hBT]at this;exact this
 have HWR:Hi _:=fun wq t1 l1 o1 x1 q h1 h2=>lY W wq R a E.s.length c ta E.t.length tc x1 t1 l1 (gK sn o1) sn HC.lay t0.size CL NU BT hwnb.1 hwnb.2.1 hwnb.2.2.1 hwnb.2.2.2 h1 h2 q;have hB1:H w.heap.size w ((w.alloc (C #[I J K,I J TG,I J MD,S ka KL kc] 58)).alloc (C #[I J VK,Y VT,I J VA,I J VD] 60)):=((aY w.heap.size w).alloc Ln _).alloc Sq _;have hG1:((w.alloc (C #[I J K,I J TG,I J MD,S ka KL kc] 58)).alloc (C #[I J VK,Y VT,I J VA,I J VD] 60)).heap[w.heap.size]? =U (C #[I J K,I J TG,I J MD,S ka KL kc] 58 (0,0)):=ax (aA w _) Be;have hG2:((w.alloc (C #[I J K,I J TG,I J MD,S ka KL kc] 58)).alloc (C #[I J VK,Y VT,I J VA,I J VD] 60)).heap[w.heap.size+1]? =U (C #[I J VK,Y VT,I J VA,I J VD] 60 (0,0)):=by simpa using aA (w.alloc (C #[I J K,I J TG,I J MD,S ka KL kc] 58)) (C #[I J VK,Y VT,I J VA,I J VD] 60)
 have hg3:=ax hown hB1;unfold dm at hg3;have c3:((w.alloc (C #[I J K,I J TG,I J MD,S ka KL kc] 58)).alloc (C #[I J VK,Y VT,I J VA,I J VD] 60)).cell? (D R 3 Z)=U (S bs t0.size cp):=by simp[Wc,hg3]
 clear hown hg3;clear hc hI e hfit hcn hwnb hT1 hT2 hT3 hT4 hT5 hnums hTG hMD hKL hVK hVT hVA hVD hvd hK hk1 hk14 hka hN hBT hCL hNU;subst hk;go_enter func111,ntmps111;go_upto_region 1 with fail;obtain⟨nb,hnb⟩:∃nb,w.heap.size=nb:=Ey;obtain⟨vb,hvb⟩:∃vb,w.heap.size+1=vb:=Ey;rw[hvb]at hG2 ⊢;rw[hnb]at hG1 ⊢;generalize(w.alloc (C #[I J 11,I J TG,I J MD,S ka KL kc] 58)).alloc (C #[I J VK,Y VT,I J VA,I J VD] 60)=w1 at hB1 hG1 hG2 c3 ⊢;have hneN:nb≠R:=O;have HB1:=aN hB1;have HG1:=aN hG1;have HI1:=aN (HI.below hB1);have v1:w1.cell? (D vb 1 Z)=U (Y VT):=cell_of_row hG2 X;have v3:w1.cell? (D vb 3 Z)=U (I J VD):=cell_of_row hG2 X;have k0:w1.cell? (D nb 0 Z)=U (I J 11):=cell_of_row hG1 X;have k1:w1.cell? (D nb 1 Z)=U (I J TG):=cell_of_row hG1 X;have k2:w1.cell? (D nb 2 Z)=U (I J MD):=cell_of_row hG1 X;have k3:w1.cell? (D nb 3 Z)=U (S ka KL kc):=cell_of_row hG1 X;have hR1:R<w1.heap.size:=aw c3;have hlv:=bm hG2;have hln:=bm hG1;clear hB1 hG1 hG2 hnb hvb;go_wp2_with fail;refine(HCA _ HI1).mono ?_;rintro e w2 ⟨hF2,⟨b2,x2,u2,t2,l2,o2,hq,rfl,hT2,hE2⟩|⟨hq,p,x2,t2,l2,ov,rfl,hE2⟩⟩
 ·have HF2:=aN hF2;have HT2:=aN hT2;have HE2:=aN hE2;have HXX:Hi _:=HX.2 b2 x2 u2 hq;clear hF2 hT2 hE2 hq HX k0 k1 k2 k3 v1 v3 c3 hln;have HX:=HXX;have kn:=HF2 _ _ _ hneN Dc HG1;have q0:w2.cell? (D nb 0 Z)=U (I J 11):=cell_of_row kn X;have q1:w2.cell? (D nb 1 Z)=U (I J TG):=cell_of_row kn X;have q2:w2.cell? (D nb 2 Z)=U (I J MD):=cell_of_row kn X;have q3:w2.cell? (D nb 3 Z)=U (S ka KL kc):=cell_of_row kn X;have hlq:=bm kn;clear kn;go_wp2_with fail;refine(HOW _ HE2.bel).mono ?_;rintro e w8 ⟨rfl,hb8⟩;have HB8:=aN hb8;clear hb8;go_wp2_with fail;refine(HWR _ _ _ _ _ (HE2.below HB8) HT2.le HT2.mx).mono ?_;rintro e w9 ⟨rfl,hF9,t9,l9,hi9,hE9⟩;have HF9:=aN hF9;have HI9:=aN hi9;have HE9:=aN hE9;clear hF9 hi9 hE9;go_wp2;go_ret;exact⟨(dL.of_below HB1).trans (HF2.trans ((dL.of_below HB8).trans HF9.fr)),.inl ⟨_,_,_,t9,l9,_,HX,X,HT2.wrap HI9,HE9⟩⟩
 have HF2:Hi _:=(dL.of_below HB1).trans hF2;have HE2:=aN hE2;have HXX:Hi _:=HX.1 hq;clear hF2 hE2 hq;unfold aX;go_wp2;go_ret;exact⟨HF2,.inr ⟨HXX,p,x2,t2,l2,ov,X,HE2⟩⟩
theorem En(E:dF)(W:M)(R:Nat)(a:Oo Ad)(c:Nat)(ta:Oo Ad)(tc f:Nat)(sn:Sn->Ad)(hc:EC E W a ta sn)(htc:E.t.length<=tc)(hN:lC E W R a c ta tc sn f)(hf1:1<=f)(i:Nat)(hi:i<E.s.length)(ka:Oo Ad)(kc:Nat)(hka:be W ka (nd E.s i).kids)(hkc:(nd E.s i).kids.length<=kc)(hkm:kc<=maxLen)(x:Nat)(dp:Int)(r:cP)(t0:Q)(l0:Bool)(o0:Oo Int)(w:M)(hfit:gW (nd E.s i) (vl E.t x))(e:dO E (wrF E f) f (nd E.s i) (nl (nd E.s i)) (np (nd E.s i)) (vl E.t x) (x+1) dp=U r)(hx:x<E.t.length)(hfx:E.t.length+1<=f+(x+1))(hd1:1<=dp)(hd2:dp<=12)(h4:t0.size<=4000)(hI:gS W w R a E.s.length c ta E.t.length tc (x+1) t0 l0 (gK sn o0))(hk:(nd E.s i).kind=12):Cs prog 111 #[Po (U (D R 0 Z)),Ag #[I J (nd E.s i).kind,I J (nd E.s i).tag,I J (nd E.s i).mode,S ka (nd E.s i).kids.length kc],Ag #[I J (vl E.t x).kind,Y (vl E.t x).text,I J (vl E.t x).alt,I J (vl E.t x).kids],I J dp] w fun e w'=>fm E W R a c ta tc sn r t0 l0 o0 w e w':=by
 have HC:=aN hc;have HI:=aN hI;have htx:=hc.txt hx;have hwnb:=oP hc.wc.right hi;have hcn:=od (n:=nd E.s i) O;obtain⟨hk1,hk14,hT1,hT2,hT3,hT4,hT5⟩:=dE hc.wc.right hi;have hnums:=hc.lay.n;obtain⟨bs,cp,hform⟩:∃bs cp,∃tvx,tvx=Value.slice bs t0.size cp/\w.heap[R]? =U (dm a E.s.length c ta E.t.length tc (x+1) tvx l0 (gK sn o0)):=by obtain⟨tv,h1,h2⟩:=hI.own;obtain⟨bs,cp,rfl,_⟩:=oI h2;exact⟨bs,cp,_,X,h1⟩
 obtain⟨_,rfl,hown⟩:=hform;have hRl:R<w.heap.size:=bm hown;obtain⟨r1,hr1,HX⟩:∃r1,eG E (wrF E f) (decide ((nd E.s i).kind=12)) (kd (nd E.s i) 0).node.toNat (dp+1) f (vl E.t x).kids (x+1) bh bh false=U r1/\Hi ((r1=Z->r=Z)/\∀b x' u,r1=U (b,x',u)->r=U (eN (nl (nd E.s i)) true (np (nd E.s i)) b,x',u)):=by
  have h:=e;unfold dO at h;rw[G O,G O,G O,aG O,aG ((vK (.inr hk) hfit.1).1 hfit)]at h;rcases dg h with⟨h1,h2⟩|⟨b,x',u,h1,h2⟩
  ·exact⟨Z,h1,fun _=>h2,fun _ _ _ q=>by cases q⟩
  refine⟨_,h1,fun q=>(by cases q),fun b' x'' u' q=>?_⟩;injection q with q;injection q with e1 q;injection q with e2 e3;subst e1 e2 e3;injection h2 with h2;exact h2.symm
 obtain⟨CL,hCL⟩:∃CL,nl (nd E.s i)=CL:=Ey;obtain⟨NU,hNU⟩:∃NU,np (nd E.s i)=NU:=Ey;rw[hCL,hNU]at hcn hwnb HX;obtain⟨K,hK⟩:∃K,(nd E.s i).kind=K:=Ey;rw[hK]at hk ⊢;obtain⟨BT,hBT⟩:∃BT:Bool,BT=true:=Ez;rw[<-hBT]at HX;have hvd:=((vK (.inr (hK▸hk)) hfit.1).1 hfit).2.2;have HCA:Hi (∀wq,gS W wq R a E.s.length c ta E.t.length tc (x+1) t0 l0 (gK sn o0)->Cs prog 151 #[Po (U (D R 0 Z)),Ag #[I J K,I J (nd E.s i).tag,I J (nd E.s i).mode,S ka (nd E.s i).kids.length kc],I J (vl E.t x).kids,I J dp] wq fun e w'=>fm E W R a c ta tc sn r1 t0 l0 o0 wq e w'):=fun wq q=>by rw[<-hK];exact sG E W R a c ta tc f sn hc htc hN hf1 i hi (hc.wc.right.fine.one i hi (.inr (hK▸hk))) ka kc hka hkc hkm (x+1) f (vl E.t x).kids dp r1 t0 l0 o0 wq hr1 hvd (hc.wc.kids x hx) hx hfx hd1 hd2 h4 q
 generalize hTG:(nd E.s i).tag=TG at HCA ⊢;generalize hMD:(nd E.s i).mode=MD at HCA ⊢;generalize hKL:(nd E.s i).kids.length=KL at HCA ⊢;generalize hVK:(vl E.t x).kind=VK;generalize hVT:(vl E.t x).text=VT;generalize hVA:(vl E.t x).alt=VA;generalize hVD:(vl E.t x).kids=VD at HCA ⊢;have HOW:Hi (∀wq,H W.heap.size W wq->Cs prog 152 #[Ag #[I J K,I J TG,I J MD,S ka KL kc]] wq fun e w'=>e=Rt (Ag #[I J CL,I J NU,Bo BT])/\H wq.heap.size wq w'):=fun wq q=>by have:=nT (nd E.s i) ka kc wq (HC.lay.below q).n O O O;unfold fv at this;rw[<-hcn,hTG,hMD,hKL]at this;rw[hK,aM O,<-hBT]at this;exact this
 have HWR:Hi _:=fun wq t1 l1 o1 x1 q h1 h2=>lY W wq R a E.s.length c ta E.t.length tc x1 t1 l1 (gK sn o1) sn HC.lay t0.size CL NU BT hwnb.1 hwnb.2.1 hwnb.2.2.1 hwnb.2.2.2 h1 h2 q;have hB1:H w.heap.size w ((w.alloc (C #[I J K,I J TG,I J MD,S ka KL kc] 58)).alloc (C #[I J VK,Y VT,I J VA,I J VD] 60)):=((aY w.heap.size w).alloc Ln _).alloc Sq _;have hG1:((w.alloc (C #[I J K,I J TG,I J MD,S ka KL kc] 58)).alloc (C #[I J VK,Y VT,I J VA,I J VD] 60)).heap[w.heap.size]? =U (C #[I J K,I J TG,I J MD,S ka KL kc] 58 (0,0)):=ax (aA w _) Be;have hG2:((w.alloc (C #[I J K,I J TG,I J MD,S ka KL kc] 58)).alloc (C #[I J VK,Y VT,I J VA,I J VD] 60)).heap[w.heap.size+1]? =U (C #[I J VK,Y VT,I J VA,I J VD] 60 (0,0)):=by simpa using aA (w.alloc (C #[I J K,I J TG,I J MD,S ka KL kc] 58)) (C #[I J VK,Y VT,I J VA,I J VD] 60)
 have hg3:=ax hown hB1;unfold dm at hg3;have c3:((w.alloc (C #[I J K,I J TG,I J MD,S ka KL kc] 58)).alloc (C #[I J VK,Y VT,I J VA,I J VD] 60)).cell? (D R 3 Z)=U (S bs t0.size cp):=by simp[Wc,hg3]
 clear hown hg3;clear hc hI e hfit hcn hwnb hT1 hT2 hT3 hT4 hT5 hnums hTG hMD hKL hVK hVT hVA hVD hvd hK hk1 hk14 hka hN hBT hCL hNU;subst hk;go_enter func111,ntmps111;go_upto_region 1 with fail;obtain⟨nb,hnb⟩:∃nb,w.heap.size=nb:=Ey;obtain⟨vb,hvb⟩:∃vb,w.heap.size+1=vb:=Ey;rw[hvb]at hG2 ⊢;rw[hnb]at hG1 ⊢;generalize(w.alloc (C #[I J 12,I J TG,I J MD,S ka KL kc] 58)).alloc (C #[I J VK,Y VT,I J VA,I J VD] 60)=w1 at hB1 hG1 hG2 c3 ⊢;have hneN:nb≠R:=O;have HB1:=aN hB1;have HG1:=aN hG1;have HI1:=aN (HI.below hB1);have v1:w1.cell? (D vb 1 Z)=U (Y VT):=cell_of_row hG2 X;have v3:w1.cell? (D vb 3 Z)=U (I J VD):=cell_of_row hG2 X;have k0:w1.cell? (D nb 0 Z)=U (I J 12):=cell_of_row hG1 X;have k1:w1.cell? (D nb 1 Z)=U (I J TG):=cell_of_row hG1 X;have k2:w1.cell? (D nb 2 Z)=U (I J MD):=cell_of_row hG1 X;have k3:w1.cell? (D nb 3 Z)=U (S ka KL kc):=cell_of_row hG1 X;have hR1:R<w1.heap.size:=aw c3;have hlv:=bm hG2;have hln:=bm hG1;clear hB1 hG1 hG2 hnb hvb;go_wp2_with fail;refine(HCA _ HI1).mono ?_;rintro e w2 ⟨hF2,⟨b2,x2,u2,t2,l2,o2,hq,rfl,hT2,hE2⟩|⟨hq,p,x2,t2,l2,ov,rfl,hE2⟩⟩
 ·have HF2:=aN hF2;have HT2:=aN hT2;have HE2:=aN hE2;have HXX:Hi _:=HX.2 b2 x2 u2 hq;clear hF2 hT2 hE2 hq HX k0 k1 k2 k3 v1 v3 c3 hln;have HX:=HXX;have kn:=HF2 _ _ _ hneN Dc HG1;have q0:w2.cell? (D nb 0 Z)=U (I J 12):=cell_of_row kn X;have q1:w2.cell? (D nb 1 Z)=U (I J TG):=cell_of_row kn X;have q2:w2.cell? (D nb 2 Z)=U (I J MD):=cell_of_row kn X;have q3:w2.cell? (D nb 3 Z)=U (S ka KL kc):=cell_of_row kn X;have hlq:=bm kn;clear kn;go_wp2_with fail;refine(HOW _ HE2.bel).mono ?_;rintro e w8 ⟨rfl,hb8⟩;have HB8:=aN hb8;clear hb8;go_wp2_with fail;refine(HWR _ _ _ _ _ (HE2.below HB8) HT2.le HT2.mx).mono ?_;rintro e w9 ⟨rfl,hF9,t9,l9,hi9,hE9⟩;have HF9:=aN hF9;have HI9:=aN hi9;have HE9:=aN hE9;clear hF9 hi9 hE9;go_wp2;go_ret;exact⟨(dL.of_below HB1).trans (HF2.trans ((dL.of_below HB8).trans HF9.fr)),.inl ⟨_,_,_,t9,l9,_,HX,X,HT2.wrap HI9,HE9⟩⟩
 have HF2:Hi _:=(dL.of_below HB1).trans hF2;have HE2:=aN hE2;have HXX:Hi _:=HX.1 hq;clear hF2 hE2 hq;unfold aX;go_wp2;go_ret;exact⟨HF2,.inr ⟨HXX,p,x2,t2,l2,ov,X,HE2⟩⟩
theorem Ha(E:dF)(W:M)(R:Nat)(a:Oo Ad)(c:Nat)(ta:Oo Ad)(tc f:Nat)(sn:Sn->Ad)(hc:EC E W a ta sn)(htc:E.t.length<=tc)(hN:lC E W R a c ta tc sn f)(hf1:1<=f)(i:Nat)(hi:i<E.s.length)(ka:Oo Ad)(kc:Nat)(hka:be W ka (nd E.s i).kids)(hkc:(nd E.s i).kids.length<=kc)(hkm:kc<=maxLen)(x:Nat)(dp:Int)(r:cP)(t0:Q)(l0:Bool)(o0:Oo Int)(w:M)(hfit:gW (nd E.s i) (vl E.t x))(e:dO E (wrF E f) f (nd E.s i) (nl (nd E.s i)) (np (nd E.s i)) (vl E.t x) (x+1) dp=U r)(hx:x<E.t.length)(hfx:E.t.length+1<=f+(x+1))(hd1:1<=dp)(hd2:dp<=12)(h4:t0.size<=4000)(hI:gS W w R a E.s.length c ta E.t.length tc (x+1) t0 l0 (gK sn o0))(hk:(nd E.s i).kind≠13):Cs prog 111 #[Po (U (D R 0 Z)),Ag #[I J (nd E.s i).kind,I J (nd E.s i).tag,I J (nd E.s i).mode,S ka (nd E.s i).kids.length kc],Ag #[I J (vl E.t x).kind,Y (vl E.t x).text,I J (vl E.t x).alt,I J (vl E.t x).kids],I J dp] w fun e w'=>fm E W R a c ta tc sn r t0 l0 o0 w e w':=by
 obtain⟨hk1,hk14,_⟩:=dE hc.wc.right hi;by_cases h14:(nd E.s i).kind=14
 ·exact Eo E W R a c ta tc f sn hc htc hN hf1 i hi ka kc hka hkc hkm x dp r t0 l0 o0 w hfit e hx hfx hd1 hd2 h4 hI h14
 by_cases h10:(nd E.s i).kind=10
 ·exact El E W R a c ta tc f sn hc htc hN hf1 i hi ka kc hka hkc hkm x dp r t0 l0 o0 w hfit e hx hfx hd1 hd2 h4 hI h10
 by_cases h11:(nd E.s i).kind=11
 ·exact Em E W R a c ta tc f sn hc htc hN hf1 i hi ka kc hka hkc hkm x dp r t0 l0 o0 w hfit e hx hfx hd1 hd2 h4 hI h11
 by_cases h12:(nd E.s i).kind=12
 ·exact En E W R a c ta tc f sn hc htc hN hf1 i hi ka kc hka hkc hkm x dp r t0 l0 o0 w hfit e hx hfx hd1 hd2 h4 hI h12
 exact Gb E W R a c ta tc f sn hc htc hN hf1 i hi ka kc hka hkc hkm x dp r t0 l0 o0 w hfit e hx hfx hd1 hd2 h4 hI O
end Go.Proofs.YtkkicodfpekbgaaGreatDoor
namespace Go.Proofs.YtkkicodfpekbgaaGreatDoor
open Go.Proofs.Tryz
open Go.RowKit Go.Shelf
attribute [local go_sem] Oper.semAt_some
theorem gS.grown{W w:M}{R:Nat}{a:Oo Ad}{n c:Nat}{ta:Oo Ad}{tn tc x:Nat}{told:Q}{lg:Bool}{ov:Vv}(h:gS W w R a n c ta tn tc x told lg ov){w':M}{row:Oo Nat}(hg:w.grownBy w' row)(hr:∀g,row=U g->W.heap.size<=g/\g≠R/\∀A,w.heap[g]? ≠U (C A 5 (0,0))):gS W w' R a n c ta tn tc x told lg ov:=by
 obtain⟨tv,h1,h2⟩:=h.own;refine⟨h.bel.grown hg h.bel.size (fun k e=>(hr k e).1),h.lo,tv,?_,h2.kept hg ?_⟩
 ·rw[hg.block R (bm h1) (fun e=>(hr R e.symm).2.1 X)];exact h1
 rcases h2.2 with⟨rfl,_⟩|⟨g,_,cur,rfl,_,hgg,_⟩
 ·exact .inl X
 exact .inr fun q=>(hr g q.symm).2.2 cur hgg
theorem zV{R:Nat}{w w':M}{B:Nat}{T:TypeId}{s:Nat}{v:Vv}{n:Nat}{xs:Ls Vv}(h:w.ownsRow B T s v n xs)(hf:dL R w w')(hT:T≠5)(hR:R<B):w'.ownsRow B T s v n xs:=by
 refine⟨h.1,?_⟩;rcases h.2 with hn|⟨g,cap,cur,rfl,hb,hg,rest⟩
 ·exact .inl hn
 exact .inr ⟨g,cap,cur,X,hb,hf g cur T O hT hg,rest⟩
theorem tf{w:M}{B:Nat}{v:Vv}{n:Nat}{xs:Ls Vv}(h:w.ownsRow B 149 3 v n xs):∃bs cp,v=S bs n cp:=by
 rcases h.2 with⟨rfl,h0⟩|⟨g,cp,cur,rfl,_⟩
 ·exact⟨Z,0,by rw[h0]⟩
 exact⟨_,_,X⟩
theorem AP{R:Nat}{w w':M}(h:rQ R w w'){A:Array Vv}{T:TypeId}{z:Nat×Nat}(hR:w.heap[R]? =U (C A T z))(B:Nat):KeepsFrom B w w':=
 ⟨h.size,fun k o _ hk ho=>by
   by_cases hkR:k=R
   ·subst hkR
    rw[hR]at hk
    injection hk with hk
    subst hk
    cases ho
   ·exact h.stay k o hkR (fun A q=>by rw[q]at ho;cases ho) hk⟩
theorem pZ:(prog.info? 149).map (fun i=>(i.zero,i.size,i.bytes))=U (U (Ag #[I J 0,I J 0,Bo false]),3,24):=Kr
theorem E8(T:Array Vv)(p q:Tmp)(u v:Vv):Array.foldl (fun t (x:Tmp×Vv)=>match x with|(p,v)=>t.setIfInBounds p v) T (#[p,q].zip #[u,v])=(T.setIfInBounds p u).setIfInBounds q v:=Sq
def GR(E:dF)(W:M)(R:Nat)(a:Oo Ad)(c:Nat)(ta:Oo Ad)(tc:Nat)(sn:Sn->Ad)(F:Nat)(dp:Int)(r:cP)(t0:Q)(l0:Bool)(o0:Oo Int)(w1:M)(gk:Nat)(vi va:Vv)(wr:M):Prop:=
 ∃(i x:Nat) (r':cP) (lc:Bool) (ars:Ls gP),vi=I J i/\i<E.s.length/\gk<=F/\wrF E gk i x dp=U r'/\E.t.length+1<=gk+x/\1<=gk/\x<=E.t.length/\wr.ownsRow w1.heap.size 149 3 va ars.length (fQ ars)/\
  gS W wr R a E.s.length c ta E.t.length tc x t0 lc (gK sn o0)/\dL R w1 wr/\gO l0 lc ars r r'
set_option maxHeartbeats 16000000 in
theorem vJ(E:dF)(W:M)(R:Nat)(a:Oo Ad)(c:Nat)(ta:Oo Ad)(tc:Nat)(sn:Sn->Ad)(hc:EC E W a ta sn)(htc:E.t.length<=tc)(F:Nat)(hN:∀g,g<F->lC E W R a c ta tc sn g):lC E W R a c ta tc sn F:=by
 intro i x dp r t0 l0 o0 w e hi hx hfx hf1 hd1 hd2 h4 hI;have HC:=aN hc;have HNN:=aN hN;have HI:=aN hI;have HTC:=aN htc;have hlen:=hc.len;have HLEN:=aN hlen;obtain⟨bs,cp,hform⟩:∃bs cp,∃tvx,tvx=Value.slice bs t0.size cp/\w.heap[R]? =U (dm a E.s.length c ta E.t.length tc x tvx l0 (gK sn o0)):=by obtain⟨tv,h1,h2⟩:=hI.own;obtain⟨bs,cp,rfl,_⟩:=oI h2;exact⟨bs,cp,_,X,h1⟩
 obtain⟨_,rfl,hown⟩:=hform;have hRl:R<w.heap.size:=bm hown;have HE:=aN e;have HDP:=aN (And.intro hd1 hd2);have hB1:H w.heap.size w ((w.alloc (C #[Po (U (D R 0 Z))] 138)).alloc (C #[I J t0.size] 3)):=((aY w.heap.size w).alloc Ln _).alloc Sq _;have hG1:((w.alloc (C #[Po (U (D R 0 Z))] 138)).alloc (C #[I J t0.size] 3)).heap[w.heap.size]? =U (C #[Po (U (D R 0 Z))] 138 (0,0)):=ax (aA w _) Be;have hG2:((w.alloc (C #[Po (U (D R 0 Z))] 138)).alloc (C #[I J t0.size] 3)).heap[w.heap.size+1]? =U (C #[I J t0.size] 3 (0,0)):=by simpa using aA (w.alloc (C #[Po (U (D R 0 Z))] 138)) (C #[I J t0.size] 3)
 have hg3:=ax hown ((aY w.heap.size w).alloc Ln (C #[Po (U (D R 0 Z))] 138));unfold dm at hg3;have c3:(w.alloc (C #[Po (U (D R 0 Z))] 138)).cell? (D R 3 Z)=U (S bs t0.size cp):=by simp[Wc,hg3]
 have hsz1:((w.alloc (C #[Po (U (D R 0 Z))] 138)).alloc (C #[I J t0.size] 3)).heap.size=w.heap.size+1+1:=Sq;clear hc hN hI htc e hown hd1 hd2 hg3;refine(callsIn_wide (n:=3)).1 (callsIn_of_wp_marks func75 X trivial ?_ X);refine wpIn_wide.2 ?_;simp only[ntmps75,dy,aU,bD,Nat.reduceAdd,Nat.reduceSub,sq,sr,zv,uM,fg,kU];go_upto_region 2 with fail;obtain⟨wb,hwb⟩:∃wb,w.heap.size=wb:=Ey;obtain⟨sb,hsb⟩:∃sb,w.heap.size+1=sb:=Ey;rw[hsb]at hG2 hsz1 ⊢;rw[hwb]at hG1 ⊢;generalize(w.alloc (C #[Po (U (D R 0 Z))] 138)).alloc (C #[I J t0.size] 3)=w1 at hB1 hG1 hG2 hsz1 ⊢;have hneW:wb≠R:=O;have hneS:sb≠R:=O;have HB1:=aN hB1;have HG1:=aN hG1;have HG2:=aN hG2;have HI1:=aN (HI.below hB1);have hR1:R<w1.heap.size:=by have:=hB1.size;omega
 have hW1:W.heap.size<=w1.heap.size:=HI1.out.bel.size;have HSZ:Hi (∀wq,dL R w1 wq->w1.heap.size<=wq.heap.size):=fun wq q=>by have:=bm (q _ _ _ hneS Dc HG2);omega
 clear hB1 hG1 hG2 hwb hsb c3 hRl hsz1;go_wp2_with fail;go_loopg [1,8] F (fun gk vi va wr=>GR E W R a c ta tc sn F dp r t0 l0 o0 w1 gk vi va wr);case atStart=>exact⟨i,x,r,l0,[],X,hi,Ln,HE,hfx,hf1,hx,bX _ _ _ _,HI1,fun _ _ _ _ _ h=>h,gO.start l0 r⟩
 clear hi hfx hf1 hx HE HI HI1;obtain⟨i,x,r',lc,ars,rfl,hi,hgF,hE,hfx,hf1,hx,hown,hEw,hFr,hCh⟩:=hrel;obtain⟨ag,rfl⟩:∃ag,gk=ag+1:=⟨gk-1,O⟩;obtain⟨bsO,cpO,rfl⟩:=tf hown;have HEW:=aN hEw;have HOW:=aN hown;have HFR:=aN hFr;have HCH:=aN hCh;have HEE:=aN hE;have HHI:=aN hi;obtain⟨b,o,ka,kc,hab,ncl,hkc,hkm,hka⟩:=HC.wc.sch i hi;have hk8:=qF HC.wc.right.2.2.1 hi;obtain⟨hk1,hk14,hT1,hT2,hT3,hT4,hT5⟩:=dE HC.wc.right hi;obtain⟨N,hN⟩:∃N,nd E.s i=N:=Ey;have HN:=aN hN;rw[hN]at ncl hkc hka hk8 hk1 hk14 hT1 hT2 hT3 hT4 hT5;have HKA:=aN hka;have HKM:=aN hkm;obtain⟨n0,n1,n2,n3⟩:=ncl;have hbW:=HEW.out.bel;have m0:wr.cell? (D b (o+i*4) Z)=U (I J N.kind):=(hbW.cell (aw n0)).trans n0;have m1:wr.cell? (D b (o+i*4+1) Z)=U (I J N.tag):=(hbW.cell (aw n1)).trans n1;have m2:wr.cell? (D b (o+i*4+2) Z)=U (I J N.mode):=(hbW.cell (aw n2)).trans n2;have m3:wr.cell? (D b (o+i*4+3) Z)=U (S ka N.kids.length kc):=(hbW.cell (aw n3)).trans n3;have hlb:=aw m0;simp only at hlb;have hgw:=HFR _ _ _ hneW Dc HG1;have p0:wr.cell? (D wb 0 Z)=U (Po (U (D R 0 Z))):=cell_of_row hgw X;have hlw:=bm hgw;obtain⟨tv,hrow,_⟩:=HEW.out.own;unfold dm at hrow;have r0:wr.cell? (D R 0 Z)=U (S (U (D b o Z)) E.s.length c):=by rw[<-hab];simp[Wc,hrow]
 have hRr:R<wr.heap.size:=aw r0;have hi':(i:Int)<(E.s.length:Int):=O;have HTK:Hi (∀wq,gS W wq R a E.s.length c ta E.t.length tc x t0 lc (gK sn o0)->Cs prog 109 #[Po (U (D R 0 Z)),Ag #[I J N.kind,I J N.tag,I J N.mode,S ka N.kids.length kc],I J dp] wq fun e w'=>EX W R a E.s.length c ta E.t tc x t0 lc (gK sn o0) sn N dp wq e w'):=fun wq q=>Dk W wq R a E.s.length c ta E.t tc x t0 lc (gK sn o0) sn N ka kc dp HC.lay hk8 HLEN HTC hx (fun j hj=>⟨by have:=HC.txt hj;omega,HC.wc.tree j hj⟩) q;have hB2:H wr.heap.size wr (wr.alloc (C #[I J N.kind,I J N.tag,I J N.mode,S ka N.kids.length kc] 58)):=Be;have hGN:(wr.alloc (C #[I J N.kind,I J N.tag,I J N.mode,S ka N.kids.length kc] 58)).heap[wr.heap.size]? =U (C #[I J N.kind,I J N.tag,I J N.mode,S ka N.kids.length kc] 58 (0,0)):=aA wr _;have HB2:=aN hB2;have HGN:=aN hGN;have hneN:wr.heap.size≠R:=O;clear hEw hown hFr hCh hE hi hN hka hkm n0 n1 n2 n3 hbW hgw hrow hab hB2 hGN;go_upto_region 4 with fail;obtain⟨nb,hnb⟩:∃nb,wr.heap.size=nb:=Ey;rw[hnb]at HGN hneN ⊢;have HEW2:=aN (HEW.below HB2);have HOW2:=aN (bB HOW HB2);have HFR2:Hi (dL R w1 (wr.alloc (C #[I J N.kind,I J N.tag,I J N.mode,S ka N.kids.length kc] 58))):=HFR.trans (dL.of_below HB2);have hs2:=HB2.out.size;generalize wr.alloc (C #[I J N.kind,I J N.tag,I J N.mode,S ka N.kids.length kc] 58)=w2 at HGN HEW2 HOW2 HFR2 HB2 hs2 ⊢;have hgw:=HFR2 _ _ _ hneW Dc HG1;have p0':w2.cell? (D wb 0 Z)=U (Po (U (D R 0 Z))):=cell_of_row hgw X;have k0:w2.cell? (D nb 0 Z)=U (I J N.kind):=cell_of_row HGN X;have k1:w2.cell? (D nb 1 Z)=U (I J N.tag):=cell_of_row HGN X;have k2:w2.cell? (D nb 2 Z)=U (I J N.mode):=cell_of_row HGN X;have k3:w2.cell? (D nb 3 Z)=U (S ka N.kids.length kc):=cell_of_row HGN X;have hlw2:=bm hgw;have hln2:=bm HGN;clear m0 m1 m2 m3 hlb p0 hlw r0 hRr hgw hnb HEW HOW HFR HB2 hs2;go_wp2_with fail;refine(HTK _ HEW2).mono ?_;rintro e w3 ⟨hF3,⟨hxl,hdl,hfit,rfl,hE3⟩|⟨hno,rfl,hE3⟩⟩
 ·obtain⟨r'',hb'',hr''⟩:=Ek (by rw[<-ES hxl hdl (by rw[HN.out];exact hfit)];exact HEE);rw[HN.out]at hr'';have HBF:=aN hb'';have HFIT:Hi (gW N (vl E.t x)):=hfit;have HDL:=aN hdl;have HE3:=aN hE3;have HF3:=aN hF3;have hCh:=HCH.out;rw[hr'']at hCh;have HCH3:Hi (gO l0 lc ars r (yQ N r'')):=hCh;have HOW3:=aN (zV HOW2 hF3 Dc hR1);obtain⟨v,hv⟩:∃v,vl E.t x=v:=Ey;have HV:=aN hv;have hg3:=hF3 _ _ _ hneN Dc HGN;have HGN3:=aN hg3;have hgw:=HFR2.trans hF3 _ _ _ hneW Dc HG1;have HFR3:Hi (dL R w1 w3):=HFR2.trans hF3;rw[hv];clear hxl hdl hfit hE3 hF3 hb'' hr'' hCh hg3 hgw hv p0' k0 k1 k2 k3 hlw2 hln2 HOW2 HFR2 HEW2 HGN HTK HCH HEE;have hB4:H w3.heap.size w3 (w3.alloc (C #[I J v.kind,Y v.text,I J v.alt,I J v.kids] 60)):=Be;have hGV:(w3.alloc (C #[I J v.kind,Y v.text,I J v.alt,I J v.kids] 60)).heap[w3.heap.size]? =U (C #[I J v.kind,Y v.text,I J v.alt,I J v.kids] 60 (0,0)):=aA w3 _;have HB4:=aN hB4;have hneV:w3.heap.size≠R:=by obtain⟨tv,h1,_⟩:=HE3.out.own;have:=bm h1;omega
  go_upto_region 7 with fail;obtain⟨vb,hvb⟩:∃vb,w3.heap.size=vb:=Ey;rw[hvb]at hGV hneV ⊢;have HE4:=aN (HE3.below HB4);have HO4:=aN (bB HOW3 HB4);have HF4:Hi (dL R w1 (w3.alloc (C #[I J v.kind,Y v.text,I J v.alt,I J v.kids] 60))):=HFR3.trans (dL.of_below HB4);have HN4:=aN (ax HGN3 HB4);have HV4:=aN hGV;generalize w3.alloc (C #[I J v.kind,Y v.text,I J v.alt,I J v.kids] 60)=w4 at hGV HE4 HO4 HF4 HN4 HV4 HB4 ⊢;have k0:w4.cell? (D nb 0 Z)=U (I J N.kind):=cell_of_row HN4 X;have k1:w4.cell? (D nb 1 Z)=U (I J N.tag):=cell_of_row HN4 X;have k2:w4.cell? (D nb 2 Z)=U (I J N.mode):=cell_of_row HN4 X;have k3:w4.cell? (D nb 3 Z)=U (S ka N.kids.length kc):=cell_of_row HN4 X;have hln4:=bm HN4;obtain⟨c0,n0,b0,ok,hok1,hok2,HAR⟩:∃(c0 n0:Int) (b0 ok:Bool),(ok=true->N.mode=1/\c0=2/\n0=N.tag/\b0=true)/\(ok=false->¬N.mode=1)/\Hi (∀wq,H W.heap.size W wq->Cs prog 110 #[Ag #[I J N.kind,I J N.tag,I J N.mode,S ka N.kids.length kc]] wq fun e w'=>e=Rt (Tu #[Ag #[I J c0,I J n0,Bo b0],Bo ok])/\H wq.heap.size wq w'):=by
   by_cases hm:N.mode=1
   ·have htg:0<=N.tag:=by
     by_cases q:N.tag<0
     ·have:=hT3 O;omega
     omega
    exact⟨2,N.tag,true,true,fun _=>⟨hm,X,X,X⟩,fun q=>(by cases q),fun wq q=>mW N ka kc wq hm (HC.lay.below q).n htg O⟩
   exact⟨0,0,false,false,fun q=>(by cases q),fun _=>hm,fun wq q=>ow N ka kc wq hm⟩
  have HOK1:=aN hok1;have HOK2:=aN hok2;clear hvb hGV hB4 HE3 HOW3 HFR3 HGN3 HB4 hok1 hok2;go_wp2_with fail;refine(HAR _ HE4.bel).mono ?_;rintro e w5 ⟨rfl,hb5⟩;have HB5:=aN hb5;clear hb5 k0 k1 k2 k3 hln4;have hB6:H w4.heap.size w4 (w5.alloc (C #[I J c0,I J n0,Bo b0] 149)):=HB5.alloc HB5.size _;have hGF:(w5.alloc (C #[I J c0,I J n0,Bo b0] 149)).heap[w5.heap.size]? =U (C #[I J c0,I J n0,Bo b0] 149 (0,0)):=aA w5 _;go_upto_region 8 with fail;obtain⟨fb',hfb⟩:∃fb',w5.heap.size=fb':=Ey;rw[hfb]at hGF ⊢;have HE6:=aN (HE4.below hB6);have HO6:=aN (bB HO4 hB6);have HF6:Hi _:=HF4.trans (dL.of_below hB6);have HN6:=aN (ax HN4 hB6);have HV6:=aN (ax HV4 hB6);have HG6:=aN hGF;generalize w5.alloc (C #[I J c0,I J n0,Bo b0] 149)=w6 at hGF HE6 HO6 HF6 HN6 HV6 HG6 hB6 ⊢;have hgw:=HF6 _ _ _ hneW Dc HG1;have p6:w6.cell? (D wb 0 Z)=U (Po (U (D R 0 Z))):=cell_of_row hgw X;obtain⟨tv6,hrow6,_⟩:=HE6.out.own;have HR6:=aN hrow6;unfold dm at hrow6;have r4:w6.cell? (D R 4 Z)=U (Bo lc):=by simp[Wc,hrow6]
  have hRr:R<w6.heap.size:=aw r4;have hlw6:=bm hgw;clear hfb hGF hB6 hgw hrow6 HE4 HO4 HF4 HN4 HV4 HB5 HAR;go_cut [51]from 22 to 79 (fun vq wx=>vq=Bo (ok&& !lc)/\wx=w6)
  case first=>
   cases ok
   ·go_wp2_with fail;go_meet;exact⟨X,X⟩
   cases lc
   ·go_wp2_with fail;go_meet;exact⟨X,X⟩
   go_wp2_with fail;go_meet;exact⟨X,X⟩
  case rest=>
   obtain⟨rfl,hw⟩:=hcut;obtain rfl:w6=wc:=hw.symm;clear hw;go_upto_if 51 with fail;go_cut [8]from 22 to 79 (fun va wx=>∃(lc':Bool) (ars':Ls gP),wx.ownsRow w1.heap.size 149 3 va ars'.length (fQ ars')/\gS W wx R a E.s.length c ta E.t.length tc (x+1) t0 lc' (gK sn o0)/\dL R w1 wx/\wx.heap[nb]? =U (C #[I J N.kind,I J N.tag,I J N.mode,S ka N.kids.length kc] 58 (0,0))/\wx.heap[vb]? =U (C #[I J v.kind,Y v.text,I J v.alt,I J v.kids] 60 (0,0))/\gO l0 lc' ars' r r'')
   case first=>
    by_cases hq:(ok&& !lc)=true
    ·(obtain⟨rfl,rfl⟩:ok=true/\lc=false:=by simpa using hq);obtain⟨hm,rfl,rfl,rfl⟩:=HOK1 X;have hlen2:=HCH3.out.len;have htg:0<=N.tag/\N.tag<=30:=by
      refine⟨?_,O⟩;by_cases q:N.tag<0
      ·have:=hT3 O;omega
      omega
     have HCH7:Hi (gO l0 (decide (2000<ars.length+1)) (ars++[⟨N.tag,htg⟩]) r r''):=HCH3.head hm ⟨N.tag,htg⟩ X;obtain⟨i0,hi0,hz0,hz1,hz2⟩:=dD pZ;have g0:w6.cell? (D fb' 0 Z)=U (I J 2):=cell_of_row HG6 X;have g1:w6.cell? (D fb' 1 Z)=U (I J N.tag):=cell_of_row HG6 X;have g2:w6.cell? (D fb' 2 Z)=U (Bo true):=cell_of_row HG6 X;have hlf:=bm HG6;have hsz6:=HSZ _ HF6
     have HAPP:Hi (∀g7 cap7 w7,w7.ownsRow w1.heap.size 149 3 (S (U (D g7 0 Z)) (ars.length+1) cap7) (ars.length+1) (fQ ars++[I J 2,I J N.tag,Bo true])->(w6.alloc (C #[I J 2,I J N.tag,Bo true] 149)).grownBy w7 (Value.slice bsO ars.length cpO).ownBlock->
      w7.cell? (D wb 0 Z)=U (Po (U (D R 0 Z)))/\w7.cell? (D R 4 Z)=U (Bo false)/\w7.frozen? (D R 4 Z)=false/\R<w7.heap.size/\wb<w7.heap.size/\
      ∀lq:Bool,lq=decide (2000<ars.length+1)->∃(lc':Bool) (ars':Ls gP),(w7.setCell ⟨R,4,Z⟩ (Bo lq)).ownsRow w1.heap.size 149 3 (S (U ⟨g7,0,Z⟩) (ars.length+1) cap7) ars'.length (fQ ars')/\gS W (w7.setCell ⟨R,4,Z⟩ (Bo lq)) R a E.s.length c ta E.t.length tc (x+1) t0 lc' (gK sn o0)/\dL R w1 (w7.setCell ⟨R,4,Z⟩ (Bo lq))/\(w7.setCell ⟨R,4,Z⟩ (Bo lq)).heap[nb]? =U (C #[I J N.kind,I J N.tag,I J N.mode,S ka N.kids.length kc] 58 (0,0))/\(w7.setCell ⟨R,4,Z⟩ (Bo lq)).heap[vb]? =U (C #[I J v.kind,Y v.text,I J v.alt,I J v.kids] 60 (0,0))/\gO l0 lc' ars' r r''):=fun g7 cap7 w7 h1 h2=>by
      have hB:=(aY w6.heap.size w6).alloc Ln (C #[I J 2,I J N.tag,Bo true] 149)
      have hrow:∀g,(Value.slice bsO ars.length cpO).ownBlock=U g->w1.heap.size<=g/\∃cur,w6.heap[g]? =U (C cur 149 (0,0)):=fun g q=>by
       refine⟨(HO6.lt g q).1,?_⟩
       rcases HO6.2 with⟨h,_⟩|⟨g',cp',cur,h,_,hgg,_⟩
       ·rw[h]at q;cases q
       ·rw[h]at q
        simp only[Value.ownBlock,Option.some.injEq]at q
        subst q
        exact⟨cur,hgg⟩
      have hold:∀(k:Nat) (A:Array Vv) (T:TypeId),T≠149->w6.heap[k]? =U (C A T (0,0))->w7.heap[k]? =U (C A T (0,0)):=fun k A T hT hk=>by
       have hk':=ax hk hB
       rw[h2.block k (bm hk') (fun q=>?_)]
       ·exact hk'
       ·obtain⟨_,cur,hcur⟩:=hrow k q.symm
        rw[hk]at hcur
        injection hcur with hcur
        injection hcur with _ hcur _
        exact hT hcur
      have hE7:gS W w7 R a E.s.length c ta E.t.length tc (x+1) t0 false (gK sn o0):=(HE6.below hB).grown h2 fun g q=>by
       obtain⟨h3,cur,hcur⟩:=hrow g q
       refine⟨O,O,fun A hA=>?_⟩
       have:=ax hcur hB
       rw[hA]at this
       injection this with this
       injection this with _ this _
       revert this
       decide
      have hgw7:=hold _ _ _ Dc (HF6 _ _ _ hneW Dc HG1)
      have hR7:=hold _ _ _ Dc (show w6.heap[R]? =U (C #[S a E.s.length c,S ta E.t.length tc,I J ((x+1:Nat):Int),tv6,Bo false,gK sn o0] 140 (0,0))from HR6)
      refine⟨cell_of_row hgw7 X,cell_of_row hR7 X,eQ hR7,bm hR7,bm hgw7,fun lq hlq=>⟨lq,ars++[⟨N.tag,htg⟩],?_,hE7.setLong lq,?_,?_,?_,by rw[hlq];exact HCH7⟩⟩
      ·refine aJ ?_ ?_ _
       ·rw[vy,aQ];exact h1
       ·exact cA hR7 h1 Dc
      ·intro k A T hk hT hg
       rw[aP _ _ _ _ hk]
       have hg6:=HF6 k A T hk hT hg
       have hk':=ax hg6 hB
       rw[h2.block k (bm hk') (fun q=>?_)]
       ·exact hk'
       ·have:=(hrow k q.symm).1
        have:=bm hg
        omega
      ·rw[aP _ _ _ _ hneN]
       exact hold _ _ _ Dc HN6
      ·rw[aP _ _ _ _ hneV]
       exact hold _ _ _ Dc HV6
     have hlz:(2000:Int)<((ars.length+1:Nat):Int)↔2000<ars.length+1:=O;clear hq hm;go_wp2_with (at_builtin;refine wpList_append_lies _ X _ _ 186 X w1.heap.size 149 i0 _ 3 24 underlying186 hi0 hz0 hz1 hz2 X Dc (S bsO ars.length cpO) ars.length (fQ ars) X (HO6.alloc _) (D w6.heap.size 0 Z) 1 1 [I J 2,I J N.tag,Bo true] X X (World.news_of_block (aA w6 (C #[I J 2,I J N.tag,Bo true] 149))) (by intro u hu;simp at hu;rcases hu with rfl|rfl|rfl<;>rfl) Dc (by unfold maxLen;omega) O So (w6.heap.size+1) Sq ?_;intro g7 cap7 w7 h71 h72 h73 h74;obtain⟨e7,e8,e9,e10,e11,hfin⟩:=HAPP g7 cap7 w7 h71 h72;have HFIN:=aN hfin;clear h71 h72 h73 h74 hfin);go_meet;refine HFIN _ ?_;first|rfl|exact decide_eq_decide.2 O|(simp;omega)
    have HCH7:Hi (gO l0 lc ars r r''):=by
     refine HCH3.plain ?_;cases hok:ok
     ·exact .inl (HOK2 hok)
     right;cases hlc:lc
     ·rw[hok,hlc]at hq;exact Ab X hq
     rfl
    (have hqb:(ok&& !lc)=false:=by simpa using hq);rw[hqb];clear hq;go_wp2_with fail;go_meet;exact⟨lc,ars,HO6,HE6,HF6,HN6,HV6,HCH7⟩
   case rest=>
    obtain⟨lc',ars',hO7,hE7,hF7,hN7,hV7,hC7⟩:=hcut;obtain⟨bsA,cpA,rfl⟩:=tf hO7;have HO7:=aN hO7;have HE7:=aN hE7;have HF7:=aN hF7;have HN7:=aN hN7;have HV7:=aN hV7;have HC7:=aN hC7;have hgw:=hF7 _ _ _ hneW Dc HG1;have p7:wc.cell? (D wb 0 Z)=U (Po (U (D R 0 Z))):=cell_of_row hgw X;have k0:wc.cell? (D nb 0 Z)=U (I J N.kind):=cell_of_row hN7 X;have k1:wc.cell? (D nb 1 Z)=U (I J N.tag):=cell_of_row hN7 X;have k2:wc.cell? (D nb 2 Z)=U (I J N.mode):=cell_of_row hN7 X;have k3:wc.cell? (D nb 3 Z)=U (S ka N.kids.length kc):=cell_of_row hN7 X;have v0:wc.cell? (D vb 0 Z)=U (I J v.kind):=cell_of_row hV7 X;have v1:wc.cell? (D vb 1 Z)=U (Y v.text):=cell_of_row hV7 X;have v2:wc.cell? (D vb 2 Z)=U (I J v.alt):=cell_of_row hV7 X;have v3:wc.cell? (D vb 3 Z)=U (I J v.kids):=cell_of_row hV7 X;have hlw7:=bm hgw;have hln7:=bm hN7;have hlv7:=bm hV7;have hxl:x<E.t.length:=by
     rcases cG x E.t.length with q|q
     ·exact q
     have h1:=HFIT.out.1;(have h2:vl E.t x=⟨0,bh,0,0⟩:=by unfold vl;rw[aB,eL q];rfl);rw[h2]at h1;simp only at h1;omega
    clear hO7 hE7 hF7 hN7 hV7 hC7 hgw p6 r4 hRr hlw6 HE6 HO6 HF6 HN6 HV6 HG6 HR6 HCH3 HOK1 HOK2;by_cases h13:N.kind=13
    ·have hf13:=(E5 h13 HFIT.1).1 HFIT;rw[HV.out]at hf13;obtain⟨al,hal⟩:∃al:Nat,v.alt=al:=⟨v.alt.toNat,O⟩;have hall:al<N.kids.length:=O;obtain⟨b',o',hkaE,kcl⟩:=HKA al hall;obtain⟨kc0,_,_⟩:=kcl;have hmem:N.kids.getD al j6∈N.kids:=fU (n:=N) hall;obtain⟨y,hy⟩:∃y,N.kids.getD al j6=y:=Ey;rw[hy]at kc0 hmem;have hwn:=HC.wc.right.fine.within i HHI y (by rw[HN.out];exact hmem);obtain⟨t,ht⟩:∃t:Nat,y.node=t:=⟨y.node.toNat,O⟩;have htl:t<E.s.length:=O;rw[ht]at kc0;have q0:wc.cell? (D b' (o'+al*3) Z)=U (I J t):=(HE7.bel.cell (aw kc0)).trans kc0;have hlq:=aw q0;simp only at hlq;(have HNX:Hi (wrF E ag t (x+1) dp=U r''):=by have h:=HBF.out;rw[HN,HV.out]at h;unfold dO at h;rw[aG h13,aG hf13]at h;(have e1:(kd N v.alt.toNat).node.toNat=t:=by(have:kd N v.alt.toNat=y:=by unfold kd;rw[hal];exact hy);rw[this,ht];rfl);rw[e1]at h;exact h);rw[hkaE]at k3;rw[hal]at v2;rw[h13]at k0;have hall':(al:Int)<(N.kids.length:Int):=O;clear kc0 hmem hy hwn hf13 h13 hkaE hal;go_wp2;go_roundg ag;case rel=>exact⟨t,x+1,r'',lc',ars',X,htl,O,HNX,O,O,O,HO7,HE7,HF7,HC7⟩
     case measure=>omega
    (have h13b:(N.kind !=13)=true:=by simpa using h13);(have h13c:(N.kind==13)=false:=by simpa using h13);(have HOE:Hi (Cs prog 111 #[Po (U (D R 0 Z)),Ag #[I J N.kind,I J N.tag,I J N.mode,S ka N.kids.length kc],Ag #[I J v.kind,Y v.text,I J v.alt,I J v.kids],I J dp] wc fun e w'=>fm E W R a c ta tc sn r'' t0 lc' o0 wc e w'):=by have:=Ha E W R a c ta tc ag sn HC HTC (HNN ag O) O i HHI ka kc (by rw[HN.out];exact HKA) (by rw[HN.out];exact hkc) HKM x dp r'' t0 lc' o0 wc (by rw[HN.out];exact HFIT) HBF hxl O HDP.1 HDL h4 HE7 (by rw[HN.out];exact h13);rw[HN,HV.out]at this;exact this);go_wp2_with fail;refine HOE.mono ?_;rintro e w8 ⟨hF8,⟨b8',x8,u8',t8,l8,o8,hq,rfl,hT8,hE8⟩|⟨hq,p,x8,t8,l8,ov,rfl,hE8⟩⟩
    ·have HE8:=aN hE8;have HT8:=aN hT8;have HF8:Hi (dL R w1 w8):=HF7.trans hF8;have HO8:=aN (zV HO7 hF8 Dc hR1);have hC8:=HC7.out;rw[hq]at hC8;have HC8:=aN hC8;clear hF8 hq hT8 hE8 hC8 HO7 HE7 HF7 HN7 HV7 HC7 p7 k0 k1 k2 k3 v0 v1 v2 v3 hlw7 hln7 hlv7 HOE;go_wp2_with fail;refine(ud _ _ _ _).mono ?_;rintro e w9 ⟨rfl,rfl⟩;have hB9:H w8.heap.size w8 (w8.alloc (C #[S bsA ars'.length cpA] 186)):=Be;have hG9:(w8.alloc (C #[S bsA ars'.length cpA] 186)).heap[w8.heap.size]? =U (C #[S bsA ars'.length cpA] 186 (0,0)):=aA w8 _;(have hne9:w8.heap.size≠R:=by obtain⟨tv,h1,_⟩:=HE8.out.own;have:=bm h1;omega);have hAr:=iq.of_own (bB HO8 hB9) hG9 hR1 hne9;have HE9:=aN (HE8.below hB9);have HF9:Hi (dL R w1 (w8.alloc (C #[S bsA ars'.length cpA] 186))):=HF8.trans (dL.of_below hB9);obtain⟨Bs,hBs⟩:∃Bs,w8.heap.size=Bs:=Ey;rw[hBs]at hAr ⊢;generalize w8.alloc (C #[S bsA ars'.length cpA] 186)=w9 at hAr HE9 HF9 ⊢;(have hl9:ars'.length<=1000000:=by have:=HC8.out.len;omega);clear hB9 hG9 hne9 hBs HE8 HF8 HO8;have hW9:W.heap.size<=w9.heap.size:=HE9.out.bel.size;(have HFIN:Hi (∀(af:Nat) (W':M),w9.heap.size<=af->((∃(t9:Q) (l9:Bool),gS W W' R a E.s.length c ta E.t.length tc x8 t9 l9 (gK sn o8)/\nk t0 lc' o0 (lp (fT ars' ars'.length) b8') u8' t9 l9 o8)/\dL R w9 W')->W'.heap[af]? =U (.deferred (U []))->fm E W R a c ta tc sn r t0 l0 o0 w (Rt .nilIface) (W'.putObj af (.deferred Z))):=fun af W' hD hs hK=>by obtain⟨⟨t9,l9,h1,h2⟩,h3⟩:=hs;rw[zj]at h2;obtain⟨b0,hr0,hT0⟩:=HC8.end h2;(have nc:∀(A:Array Vv) (T:TypeId) (z:Nat×Nat),W'.heap[af]? ≠U (C A T z):=fun A T z hA=>by rw[hK]at hA;cases hA);have hg:=grownBy_putObj' W' af (.deferred Z);have hE9:=h1.grown hg (fun g q=>by injection q with q;subst q;refine⟨O,?_,fun A=>nc A _ _⟩;rintro rfl;obtain⟨tv,hR,_⟩:=h1.own;exact nc _ _ _ hR);(have hF9:dL R w9 (W'.putObj af (.deferred Z)):=fun k A T hk hT hk'=>by have hX:=h3 k A T hk hT hk';rw[hg.block k (bm hX) (fun q=>by injection q with q;subst q;exact nc _ _ _ hX)];exact hX);exact⟨(dL.of_below HB1).trans (HF9.trans hF9),.inl ⟨b0,x8,u8',t9,l9,o8,hr0,X,hT0,hE9⟩⟩);go_wp2_with fail;refine(wpIn_wide (n:=3)).1 ?_;refine ni (F:=Fence.wide) X Dc (gf:=153) (lb:=#[Po (U (D Bs 0 Z))]) X trivial (enters_of func153 Kr X) (xM (3-1) Dc Bs R ars' hl9 w9 hAr) (fun h k q A T h1 h2 h3=>k q A T h1 h2 (h q A T h1 h2 h3)) ?kb (fun W' o' k A T _ _ hg=>ax hg Be) By (fun _=>rfl) (fun pre W'=>(∃(t9:Q) (l9:Bool),gS W W' R a E.s.length c ta E.t.length tc x8 t9 l9 (gK sn o8)/\nk t0 lc' o0 (lp pre b8') u8' t9 l9 o8)/\dL R w9 W') ?own ⟨⟨t8,l8,HE9,HT8⟩,fun _ _ _ _ _ h=>h⟩ 16 149 (fun x=> #[I J 2,I J x.2.1,Bo true]) ?assign ?body ?done;case kb=>intro W' l o1 o' _ hl' hc' _ k A T hk hT hg;(have hkl:k≠l:=by rintro rfl;rw[hg]at hl';injection hl' with hl';subst hl';cases hc');exact(World.putObj_heap_other hkl).trans hg
     case own=>
      intro pre au av row hs hg hr;obtain⟨⟨t9,l9,h1,h2⟩,h3⟩:=hs;(have nc:∀g,row=U g->∀(A:Array Vv) (T:TypeId) (z:Nat×Nat),au.heap[g]? ≠U (C A T z):=fun g q A T z hA=>by obtain⟨_,o1,ho,hc'⟩:=hr g q;rw[hA]at ho;injection ho with ho;subst ho;cases hc');refine⟨⟨t9,l9,h1.grown hg (fun g q=>⟨?_,?_,fun A=>nc g q A _ _⟩),h2⟩,fun k A T hk hT hk'=>?_⟩
      ·have:=(hr g q).1;omega
      ·rintro rfl;obtain⟨tv,hR,_⟩:=h1.own;exact nc _ q _ _ _ hR
      have hX:=h3 k A T hk hT hk';rw[hg.block k (bm hX) (fun q=>nc k q.symm _ _ _ hX)];exact hX
     case assign=>intro l x1 W' K hK;unfold CF at hK ⊢;simp only[E8,az,aI,aH]at hK ⊢;gi_wp2;exact hK
     case body=>rintro l pre x1 Bx W' ⟨⟨t9,l9,hE,hT⟩,hF⟩ hBx hlt;unfold CF;simp only[E8,az,aI,aH];have hgw:=(HF9.trans hF) _ _ _ hneW Dc HG1;have hgs:=(HF9.trans hF) _ _ _ hneS Dc HG2;have p1:W'.cell? (D wb 0 Z)=U (Po (U (D R 0 Z))):=cell_of_row hgw X;have p2:W'.cell? (D sb 0 Z)=U (I J t0.size):=cell_of_row hgs X;have p3:W'.cell? (D Bx 0 Z)=U (I J 2):=cell_of_row hBx X;have p4:W'.cell? (D Bx 1 Z)=U (I J x1.2.1):=cell_of_row hBx X;have p5:W'.cell? (D Bx 2 Z)=U (Bo true):=cell_of_row hBx X;have hl1:=bm hgw;have hl2:=bm hgs;have hl3:=bm hBx;have HWR:Hi _:=lY W W' R a E.s.length c ta E.t.length tc x8 t9 l9 (gK sn o8) sn HC.lay t0.size 2 x1.2.1 true Dc Dc x1.2.2.1 x1.2.2.2 hT.le hT.mx hE;(have HFI:Hi (∀W4 t10 l10,rQ R W' W4->Hw t9 l9 t0.size (hdB 2 true x1.2.1 (t9.size-t0.size)) t10 l10->gS W W4 R a E.s.length c ta E.t.length tc x8 t10 l10 (gK sn o8)->KeepsFrom w9.heap.size W' W4/\GI R W' W4/\((∃(t9:Q) (l9:Bool),gS W W4 R a E.s.length c ta E.t.length tc x8 t9 l9 (gK sn o8)/\nk t0 lc' o0 (lp (pre++[x1]) b8') u8' t9 l9 o8)/\dL R w9 W4)):=fun W4 t10 l10 h1 h2 h3=>by obtain⟨tv,hR,_⟩:=hE.own;refine⟨AP h1 hR _,h1.fr,⟨t10,l10,h3,?_⟩,hF.trans h1.fr⟩;rw[wV];exact hT.wrap h2);clear hgw hgs hBx hE hT hF;gi_wp2_with (refine⟨trivial,?_⟩;gi_at_call 113;refine(CallsIn.inRound l (callsIn_wide.2 HWR)).mono ?_;rintro e W4 ⟨rfl,hF4,t10,l10,hi10,hE10⟩);exact HFI W4 t10 l10 hF4 hi10 hE10
     case done=>rintro af xs W' hD rfl hs hK;have hA:=HFIN af W' hD hs hK;have HA:=aN hA;have HK:=aN hK;clear hA hs hK;go_wp2;refine wg HK (v:= .nilIface) (by simp[results,results75,go_sem]) X ?_;exact HA
    (have HX:Hi (r=Z):=by have h:=HC7.out;rw[hq]at h;exact h.none);have HE8:=aN hE8;have HF8:Hi _:=(dL.of_below HB1).trans (HF7.trans hF8);clear hq hE8 hF8;unfold aX;go_wp2;refine o6 (v:=aX p (sn .Tree)) (by simp[results,results75,go_sem,aX]) X ?_;exact⟨HF8,.inr ⟨HX,p,x8,t8,l8,ov,X,HE8⟩⟩
 have HX:Hi (r=Z):=by have h:=HEE.out;rw[Gx HC.wc.ok (by rw[HN.out];exact hno)]at h;injection h with h;have:=HCH.out;rw[<-h]at this;exact this.none
 have HE3:=aN hE3;have HF3:Hi (dL R w w3):=(dL.of_below HB1).trans (HFR2.trans hF3);clear hno hE3 hF3;unfold aX;go_wp2;refine o6 (v:=aX x (sn .Tree)) (by simp[results,results75,go_sem,aX]) X ?_;exact⟨HF3.trans (dL.of_below Be),.inr ⟨HX,x,x,t0,lc,gK sn o0,X,HE3.below Be⟩⟩
end Go.Proofs.YtkkicodfpekbgaaGreatDoor
namespace Go.Proofs.YtkkicodfpekbgaaGreatDoor
open Go.Proofs.Tryz
open Go.RowKit
theorem yi(E:dF)(W:M)(R:Nat)(a:Oo Ad)(c:Nat)(ta:Oo Ad)(tc:Nat)(sn:Sn->Ad)(hc:EC E W a ta sn)(htc:E.t.length<=tc)(f:Nat):lC E W R a c ta tc sn f:=
 Nat.strongRecOn f fun F ih=>vJ E W R a c ta tc sn hc htc F ih
def Is(k:Int):Sn:=if k=2 then .Long else if k=8 then .Order else .Tree
def EW(sn:Sn->Ad)(za:Ad)(v:Except Int Q)(w:M)(e:Ending)(w':M):Prop:=
 H w.heap.size w w'/\
 ((∃b,v= .ok b/\e=Rt (Tu #[Y b,.nilIface]))\/
  (∃p,v= .error 1/\e=Rt (Tu #[Y ⟨#[]⟩,fq 0 (aX p za)]))\/
  (v= .error 1/\e=Rt (Tu #[Y ⟨#[]⟩,aX 0 za]))\/
  (∃k q,v= .error k/\(k=2\/k=8\/k=11)/\e=Rt (Tu #[Y ⟨#[]⟩,aX q (sn (Is k))])))
theorem AF(E:dF)(s:Ls Nd)(a:Oo Ad)(c:Nat)(root:Int)(t:Ls Vl)(ta:Oo Ad)(tc:Nat)(v:Except Int Q)(w:M)(sn:Sn->Ad)(za:Ad)(hl:ls w sn)(hz:jM w sn za)(hs:ju w a s)(hok:ie s)(hn0:s.length<=140737488351232)(ht:pX w ta t)(htc:t.length<=tc)(hpz:Sz t)(hkd:∀j,j<t.length->(vl t j).kids<=9223372036854775807)(hv:Fo E s root t v):Cs prog 46 #[S a s.length c,I J root,S ta t.length tc] w fun e w'=>EW sn za v w e w':=by
 have HCR:Hi (∀wq,H w.heap.size w wq->Cs prog 74 #[S a s.length c,I J root] wq fun e w'=>Ce s root za wq e w'):=fun wq q=>mP s a c root wq sn za (hl.below q) (hz.below q) (hs.below q) hok hn0;have HL:=aN hl;have HS:=aN hs;have HOK:=aN hok;have HT:=aN ht;have HV:=aN hv;have HKD:=aN hkd;have HPZ:=aN hpz;have HTC:=aN htc;have htl:t.length<=16777000:=hpz.len;clear hl hz hs hok ht hv hkd hpz htc;go_enter func46,ntmps46;go_wp2_with fail;refine(HCR _ By).mono ?_;rintro e w1 ⟨hb1,h1⟩;have HB1:=aN hb1;clear hb1;rcases h1 with⟨rfl,hr,h0,h1⟩|⟨⟨p,rfl⟩,hr⟩|⟨rfl,hr,h0⟩
 ·have HR:=aN hr;obtain⟨rfl,rfl,hkk,f0,r,hrd0,hvr⟩:E.s=s/\E.t=t/\(∀k u,E.ok k u=true↔aR k u)/\∃f r,wrF E f root.toNat 0 1=U r/\v=vI r t.length:=by
   rcases HV with⟨q,_⟩|⟨_,q⟩
   ·exact Ab ⟨hr,h0,h1⟩ q
   exact q
  obtain⟨rt,rfl⟩:∃n:Nat,root=n:=⟨root.toNat,O⟩;have hrd:=Ai f0 (E.t.length+1) _ _ _ _ hrd0;have hEC:EC E w1 a ta sn:=⟨⟨HS.below HB1,HR,HOK,hkk,HT.below HB1,HPZ,HKD⟩,HL.below HB1⟩;have hG2:(w1.alloc (dm a E.s.length c ta E.t.length tc 0 (S Z 0 0) false .nilIface)).heap[w1.heap.size]? =U (dm a E.s.length c ta E.t.length tc 0 (S Z 0 0) false .nilIface):=aA w1 _;have hI2:gS w1 (w1.alloc (dm a E.s.length c ta E.t.length tc 0 (S Z 0 0) false .nilIface)) w1.heap.size a E.s.length c ta E.t.length tc 0 bh false (gK sn Z):=⟨Be,Ln,_,hG2,bX _ _ _ _⟩;have HCL:Hi (Cs prog 75 #[Po (U (D w1.heap.size 0 Z)),I J rt,I J 1] (w1.alloc (dm a E.s.length c ta E.t.length tc 0 (S Z 0 0) false .nilIface)) fun e w'=>fm E w1 w1.heap.size a c ta tc sn r bh false Z (w1.alloc (dm a E.s.length c ta E.t.length tc 0 (S Z 0 0) false .nilIface)) e w'):=yi E w1 w1.heap.size a c ta tc sn hEC HTC (f0+(E.t.length+1)) rt 0 1 r bh false Z _ (by simpa using hrd) O Lz O O Dc Dc Dc hI2;have HVR:=aN hvr;unfold dm at HCL;clear hrd hrd0 hvr hEC hG2 hI2 hkk hr;go_wp2_with fail;refine HCL.mono ?_;rintro e w3 ha3;have hcase:=ha3.2;clear ha3;rcases hcase with⟨b,x,u,t1,l1,o1,hr,rfl,hT,hI3⟩|⟨hr,p,x,t1,l1,ov,rfl,hI3⟩
  ·have HB3:Hi (H w.heap.size w w3):=HB1.trans (hI3.bel.mono HB1.size);have HRR:=aN hr;have HTT:=aN hT;obtain⟨tv,own3,hrow⟩:=hI3.own;unfold dm at own3;have HROW:=aN hrow;(have c2:w3.cell? (D w1.heap.size 2 Z)=U (I J (x:Int)):=by simp[Wc,own3]);(have c3:w3.cell? (D w1.heap.size 3 Z)=U tv:=by simp[Wc,own3]);(have c4:w3.cell? (D w1.heap.size 4 Z)=U (Bo l1):=by simp[Wc,own3]);(have c5:w3.cell? (D w1.heap.size 5 Z)=U (gK sn o1):=by simp[Wc,own3]);have hR3:=aw c2;simp only at hR3;have cT:=(HL.below HB3).s.cTree;have cL:=(HL.below HB3).s.cLong;have hgT:=aw cT;have hgL:=aw cL;simp only at hgT hgL;have HAT:Hi (∀(q:Int) (k:Sn) wq,Cs prog 60 #[I J q,If 291 (Po (U (sn k)))] wq fun e w'=>e=Rt (aX q (sn k))/\w'=wq):=fun q k wq=>fR q _ wq;unfold aX at HAT;clear hI3 own3 hr HCL hT hrow;by_cases hxl:x<E.t.length
   ·have hxl':(x:Int)<E.t.length:=O;(have HE:Hi (v= .error 11):=by show v=_;rw[HVR,HRR.out];unfold vI;simp only;rw[aG hxl]);go_wp2_with fail;go_region_held_law (fun w'=>w'.cell? (D w1.heap.size 2 Z)=U (I J (x:Int))/\w'.cell? (D 9 0 Z)=U (If 291 (Po (U (sn .Tree))))) (first|exact⟨c2,cT⟩|go_keep) ((go_at_call 60;refine(HAT _ _ _).mono ?_;rintro e w4 ⟨rfl,rfl⟩));all_goals rename_i hHeld;clear hHeld;go_wp2;refine aS (v:=Tu #[Y ⟨#[]⟩,aX x (sn .Tree)]) (by simp[results,results46,go_sem,aX]) X ?_;exact⟨HB3.drew,.inr (.inr (.inr ⟨11,x,HE,Dc,X⟩))⟩
   have hxl':(E.t.length:Int)<=x:=O
   cases l1 with
   |true=>
    have HE:Hi (v= .error 2):=by
     show v=_
     have:=HTT.long X X
     rw[HVR,HRR.out];unfold vI;simp only;rw[G hxl,aG (by have h0:bh.size=0:=X;omega)]
    go_wp2_with fail
    refine(HAT _ _ _).mono ?_
    rintro e w4 ⟨rfl,rfl⟩
    go_wp2
    refine aS (v:=Tu #[Y ⟨#[]⟩,aX 0 (sn .Long)]) (by simp[results,results46,go_sem,aX]) X ?_
    exact⟨HB3,.inr (.inr (.inr ⟨2,0,HE,Dc,X⟩))⟩
   |false=>
    have htb:t1=b:=by
     have:=HTT.told X
     rw[this]
     apply bC
     simp[bh]
    have hb4:b.size<=4000:=by rw[<-htb];exact HTT.mx
    cases o1 with
    |some p=>
     have HE:Hi (v= .error 8):=by
      show v=_
      have hu:=HTT.ord X
      simp only[Option.isSome_some,IE,oh]at hu
      rw[HVR,HRR.out];unfold vI;simp only;rw[G hxl,G O,aG hu.symm]
     unfold gK aX at c5
     go_wp2_with fail
     go_quiet (fail)
     have HB4:Hi (H w.heap.size w (w3.drewN nq)):=Go.below_drewN HB3 nq
     go_wp2
     refine aS (v:=Tu #[Y ⟨#[]⟩,aX p (sn .Order)]) (by simp[results,results46,go_sem,aX]) X ?_
     exact⟨HB4,.inr (.inr (.inr ⟨8,p,HE,Dc,X⟩))⟩
    |none=>
     have HE:Hi (v= .ok b):=by
      show v=_
      have hu:=HTT.ord X
      simp only[IE,oh]at hu
      rw[HVR,HRR.out];unfold vI;simp only;rw[G hxl,G O,G (by rw[<-hu];decide)]
     unfold gK at c5
     subst htb
     have hcv:(convert 52 9 tv).run prog w3= .ok (Y t1) w3:=by
      by_cases h0:t1.size=0
      ·have e1:t1=bh:=uC h0
       rcases HROW.2 with⟨q,_⟩|⟨g,cap,cur,q,_,hg,_⟩
       ·rw[q,e1]
        simp[convert,nY underlying52,nY underlying5,nY underlying9,bh]
        rfl
       ·rw[q,e1]
        exact sk w3 52 9 5 (D g 0 Z) cap [] underlying52 underlying5 underlying9 (fun j hj=>by simp at hj)
      ·have h2:=lN (w:=w3) (v:=tv) (l:=t1.data.toList) (eo HROW X X) (fun q=>h0 (by have:=dj List.length q;simpa using this))
       rw[h2]
     go_wp2
     refine aS (v:=Tu #[Y t1,.nilIface]) (by simp[results,results46,go_sem]) X ?_
     exact⟨HB3,.inl ⟨_,HE,X⟩⟩
  have HB3:Hi (H w.heap.size w w3):=HB1.trans (hI3.bel.mono HB1.size);have HE:Hi (v= .error 11):=by show v=_;rw[HVR,hr];rfl
  clear hI3 hr HCL;unfold aX;go_wp2;refine aS (v:=Tu #[Y ⟨#[]⟩,aX p (sn .Tree)]) (by simp[results,results46,go_sem,aX]) X ?_;exact⟨HB3,.inr (.inr (.inr ⟨11,p,HE,Dc,X⟩))⟩
 ·have HE:Hi (v= .error 1):=by
   rcases HV with⟨_,q⟩|⟨q,_⟩
   ·exact q
   exact Ab q.1 hr
  clear hr;unfold fq aX;go_wp2;refine aS (v:=Tu #[Y ⟨#[]⟩,fq 0 (aX p za)]) (by simp[results,results46,go_sem,fq,aX]) X ?_;exact⟨HB1,.inr (.inl ⟨p,HE,X⟩)⟩
 have HE:Hi (v= .error 1):=by
  rcases HV with⟨_,q⟩|⟨q,_⟩
  ·exact q
  exact Ab q.2 (fun z=>O)
 clear hr;unfold aX;go_wp2;refine aS (v:=Tu #[Y ⟨#[]⟩,aX 0 za]) (by simp[results,results46,go_sem,aX]) X ?_;exact⟨HB1,.inr (.inr (.inl ⟨HE,X⟩))⟩

end Go.Proofs.YtkkicodfpekbgaaGreatDoor
namespace Go.Proofs.YtkkicodfpekbgaaGreatDoor
def VB(B:Nat)(v:Vl):Prop:=v.text.size<=B/\v.kids<=B
theorem qB{E:cw}{rec:im}{B:Nat}(hB:1<=B)(hr:∀i x y dp vs z,rec i x y dp=U (.ok (vs,z))->∀v∈vs,VB B v){h:Hd}{x tz:Nat}{dp:Int}:∀(ks:Ls Kd) (j:Nat) (vs:Ls Vl) (z:Nat),bU E rec h x tz dp ks j=U (.ok (vs,z))->∀v∈vs,VB B v
 | [],_,_,_,e=>by cases e
 |k::ks,j,vs,z,e=>by
  unfold bU at e
  split at e
  ·obtain⟨us,z',h1,h2⟩:=cY e
   cases h2
   intro v hv
   rcases GA.1 hv with rfl|hv
   ·exact⟨Lz,by show(1:Int)<=B;omega⟩
   ·exact hr _ _ _ _ _ _ h1 v hv
  ·exact qB hB hr ks (j+1) vs z e
theorem pM{E:cw}{rec:im}{B:Nat}(hr:∀i x y dp vs z,rec i x y dp=U (.ok (vs,z))->∀v∈vs,VB B v){tz:Nat}{dp:Int}:∀(ks:Ls Kd) (x:Nat) (acc vs:Ls Vl) (z:Nat),(∀k∈ks,k.dflt.size≠0->VB B (E.dv k))->(∀v∈acc,VB B v)->de E rec tz dp ks x acc=U (.ok (vs,z))->∀v∈vs,VB B v
 | [],x,acc,vs,z,_,ha,e=>by
   unfold de at e
   split at e
   ·cases e
   ·cases e;exact ha
 |k::ks,x,acc,vs,z,hk,ha,e=>by
  have hk':∀k∈ks,k.dflt.size≠0->VB B (E.dv k):=fun k h=>hk k (by simp[h])
  unfold de at e
  split at e
  ·cases e
  split at e
  ·obtain⟨us,z',h1,h2⟩:=cY e
   split at h2
   ·cases h2
   ·exact pM hr ks z' _ vs z hk' (fun v hv=>by
     rcases DG.1 hv with h|h
     ·exact ha v h
     ·exact hr _ _ _ _ _ _ h1 v h) h2
  split at e
  ·exact pM hr ks x _ vs z hk' (fun v hv=>by
    rcases DG.1 hv with h|h
    ·exact ha v h
    ·obtain rfl:=List.mem_singleton.1 h;exact⟨Lz,fx _⟩) e
  split at e
  ·rename_i hd
   exact pM hr ks x _ vs z hk' (fun v hv=>by
    rcases DG.1 hv with h|h
    ·exact ha v h
    ·obtain rfl:=List.mem_singleton.1 h;exact hk k Sq hd) e
  split at e<;>cases e
theorem wu{E:cw}{rec:im}{B:Nat}(hr:∀i x y dp vs z,rec i x y dp=U (.ok (vs,z))->∀v∈vs,VB B v){set:Bool}{i tz:Nat}{dp:Int}:∀(m x:Nat) (last:Q) (j:Nat) (acc:Ls Vl) (j':Nat) (vs:Ls Vl),(∀v∈acc,VB B v)->dA E rec set i tz dp m x last j acc=U (.ok (j',vs))->(∀v∈vs,VB B v)/\j'<=j+m
 |0,_,_,_,_,_,_,_,e=>by cases e
 |m+1,x,last,j,acc,j',vs,ha,e=>by
  unfold dA at e
  split at e
  ·obtain⟨us,z',h1,h2⟩:=cY e
   split at h2
   ·cases h2
   ·have:=wu hr m z' _ _ _ _ _ (fun v hv=>by
     rcases DG.1 hv with h|h
     ·exact ha v h
     ·exact hr _ _ _ _ _ _ h1 v h) h2
    exact⟨this.1,O⟩
  ·cases e;exact⟨ha,O⟩
theorem ql{E:cw}{rec:im}{B:Nat}(hB:8<=B)(hdB:E.d.size<=B)(hr:∀i x y dp vs z,rec i x y dp=U (.ok (vs,z))->∀v∈vs,VB B v){m:Nat}(hm:m<=B){n:Nd}(hk8:n.kids.length<=8)(hdv:∀k∈n.kids,k.dflt.size≠0->VB B (E.dv k)){cl nu:Int}{h:Hd}{x tz:Nat}{dp:Int}{vs:Ls Vl}{z:Nat}(e:cF E rec m n cl nu h x tz dp=U (.ok (vs,z))):∀v∈vs,VB B v:=by
 have hex:∀a b,(E.d.extract a b).size<=B:=fun a b=>by rw[fB];omega
 unfold cF at e;split at e
 ·exact qB O hr _ _ _ _ e
 split at e
 ·cases e
 split at e
 ·cases e
 split at e
 ·cases e;intro v hv;obtain rfl:=List.mem_singleton.1 hv;exact⟨hex _ _,fx _⟩
 split at e
 ·split at e
  ·cases e
  ·cases e
  rename_i us z' hs;cases e;intro v hv;rcases GA.1 hv with rfl|hv
  ·exact⟨Lz,by show((n.kids.length:Nat):Int)<=B;omega⟩
  exact pM hr _ _ _ _ _ hdv (fun v h=>by cases h) hs v hv
 split at e
 ·split at e
  ·cases e
  ·cases e
  rename_i j us hs;cases e;have:=wu hr _ _ _ _ _ _ _ (fun v h=>by cases h) hs;intro v hv;rcases GA.1 hv with rfl|hv
  ·exact⟨Lz,by show((j:Nat):Int)<=B;omega⟩
  exact this.1 v hv
 split at e
 ·cases e;intro v hv;obtain rfl:=List.mem_singleton.1 hv;exact⟨hex _ _,fx _⟩
 cases e
theorem yU{E:cw}{B:Nat}(hB:8<=B)(hdB:E.d.size<=B)(hk8:∀i,(nd E.s i).kids.length<=8)(hdv:∀i,∀k∈(nd E.s i).kids,k.dflt.size≠0->VB B (E.dv k)):∀f,f<=B->∀i x y dp vs z,dJ E f i x y dp=U (.ok (vs,z))->∀v∈vs,VB B v
 |0,_,_,_,_,_,_,_,e=>by cases e
 |f+1,hf,i,x,y,dp,vs,z,e=>by
  have ih:=yU hB hdB hk8 hdv f O
  rw[dJ]at e
  split at e
  ·cases e
  unfold iQ at e
  split at e
  ·exact ql hB hdB ih O (hk8 i) (hdv i) e
  split at e
  ·exact ql hB hdB ih O (hk8 i) (hdv i) e
  split at e
  ·cases e
  split at e
  ·cases e
  split at e
  ·cases e
  obtain⟨us,z',h1,h2⟩:=cY e
  split at h2
  ·cases h2
  ·cases h2
   exact ql hB hdB ih O (hk8 i) (hdv i) h1
def PL(y:Nat)(o:dM):Prop:=∀e q,o= .error (e,q)->0<=q/\q<=y
theorem qA{E:cw}{rec:im}{h:Hd}{x tz av:Nat}{dp:Int}(hxt:x<=av)(hr:∀i o,rec i x tz dp=U o->PL av o):∀(ks:Ls Kd) (j:Nat) (o:dM),bU E rec h x tz dp ks j=U o->PL av o
 | [],_,_,e=>by cases e;intro e q h;cases h;exact⟨O,O⟩
 |k::ks,j,o,e=>by
  unfold bU at e
  split at e
  ·rcases bJ e with⟨u,h1,rfl⟩|⟨us,z',h1,h2⟩
   ·intro e q h;exact hr _ _ h1 e q h
   ·cases h2;intro e q h;cases h
  ·exact qA hxt hr ks (j+1) o e
theorem pL{E:cw}{rec:im}{tz av:Nat}{dp:Int}(hY:tz<=av)(hr:∀i x o,x<=tz->rec i x tz dp=U o->PL av o/\∀vs z,o= .ok (vs,z)->z<=tz):∀(ks:Ls Kd) (x:Nat) (acc:Ls Vl) (o:dM),x<=tz->de E rec tz dp ks x acc=U o->PL av o
 | [],x,acc,o,hx,e=>by
   unfold de at e
   split at e
   ·cases e;intro e q h;cases h;exact⟨O,O⟩
   ·cases e;intro e q h;cases h
 |k::ks,x,acc,o,hx,e=>by
  unfold de at e
  split at e
  ·cases e;intro e q h;cases h;exact⟨O,O⟩
  split at e
  ·rcases bJ e with⟨u,h1,rfl⟩|⟨us,z',h1,h2⟩
   ·intro e q h;exact(hr _ _ _ hx h1).1 e q h
   ·have hz:=(hr _ _ _ hx h1).2 _ _ X
    split at h2
    ·cases h2;intro e q h;cases h;exact⟨O,O⟩
    ·exact pL hY hr ks z' _ o hz h2
  split at e
  ·exact pL hY hr ks x _ o hx e
  split at e
  ·exact pL hY hr ks x _ o hx e
  split at e<;> (cases e;intro e q h;cases h;exact⟨O,O⟩)
theorem wt{E:cw}{rec:im}{set:Bool}{i tz av:Nat}{dp:Int}(hY:tz<=av)(hr:∀x o,x<=tz->rec i x tz dp=U o->PL av o/\∀vs z,o= .ok (vs,z)->z<=tz):∀(m x:Nat) (last:Q) (j:Nat) (acc:Ls Vl) (o:Except (Int×Int) (Nat×Ls Vl)),x<=tz->dA E rec set i tz dp m x last j acc=U o->∀e q,o= .error (e,q)->0<=q/\q<=av
 |0,_,_,_,_,_,_,e=>by cases e
 |m+1,x,last,j,acc,o,hx,e=>by
  unfold dA at e
  split at e
  ·rcases bJ e with⟨u,h1,rfl⟩|⟨us,z',h1,h2⟩
   ·intro e q h;cases h;exact(hr _ _ hx h1).1 _ _ X
   ·have hz:=(hr _ _ hx h1).2 _ _ X
    split at h2
    ·cases h2;intro e q h;cases h;exact⟨O,O⟩
    ·exact wt hY hr m z' _ _ _ o hz h2
  ·cases e;intro e q h;cases h
theorem qk{E:cw}{rec:im}{m:Nat}{n:Nd}{cl nu:Int}{h:Hd}{x tz av:Nat}{dp:Int}(hxt:x+h.s.toNat<=tz)(hY:tz<=av)(hr:∀i x dp o,x<=tz->rec i x tz dp=U o->PL av o/\∀vs z,o= .ok (vs,z)->z<=tz){o:dM}(e:cF E rec m n cl nu h x tz dp=U o):PL av o:=by
 have hx:∀e' q,(Except.error (e',q):dM)= .error (e',(x:Int))->0<=q/\q<=av:=fun e' q h=>by cases h;exact⟨O,O⟩
 unfold cF at e;split at e
 ·exact qA O (fun i o h=>(hr i x dp o O h).1) _ _ _ e
 split at e
 ·cases e;intro e q h;cases h;exact⟨O,O⟩
 split at e
 ·cases e;intro e q h;cases h;exact⟨O,O⟩
 split at e
 ·cases e;intro e q h;cases h
 split at e
 ·split at e
  ·cases e
  ·rename_i u hs;cases e;intro e q h;cases h;exact pL hY (fun i x o hx h=>hr i x _ o hx h) _ _ _ _ hxt hs _ _ X
  cases e;intro e q h;cases h
 split at e
 ·split at e
  ·cases e
  ·rename_i u hs;cases e;intro e q h;cases h;exact wt hY (fun x o hx h=>hr _ x _ o hx h) _ _ _ _ _ _ hxt hs _ _ X
  cases e;intro e q h;cases h
 split at e
 ·cases e;intro e q h;cases h
 cases e;intro e q h;cases h;exact⟨O,O⟩
theorem qZ{y:Nat}{o:dM}{k q:Int}(h:U (Except.error (k,q))=U o)(hq:0<=q/\q<=y):PL y o:=fun e p he=>by
 rw[<-aK h]at he;injection he with he;injection he with _ he;omega
theorem He{y:Nat}{o:dM}{u:Ls Vl×Nat}(h:U (Except.ok u)=U o):PL y o:=fun e p he=>by rw[<-aK h]at he;cases he
theorem C2{E:cw}:∀f i x y dp o,x<=y->dJ E f i x y dp=U o->PL y o/\∀vs z,o= .ok (vs,z)->z<=y
 |0,_,_,_,_,_,_,e=>by cases e
 |f+1,i,x,y,dp,o,hx,e=>by
  refine⟨?_,fun vs z h=>by subst h;obtain⟨q1,q2⟩:=gB e;have:=dZ q1;omega⟩
  rw[dJ]at e
  split at e
  ·exact qZ e ⟨O,O⟩
  rename_i q0
  have hfl:=dZ (Classical.not_not.1 q0)
  have ih:∀tz,tz<=y->∀i x dp o,x<=tz->dJ E f i x tz dp=U o->PL y o/\∀vs z,o= .ok (vs,z)->z<=tz:=fun tz ht i x dp o hx h=>by
   obtain⟨a,b⟩:=C2 f i x tz dp o hx h
   exact⟨fun e q h=>by have:=a e q h;omega,b⟩
  unfold iQ at e
  split at e
  ·exact qk hfl.2.1 hfl.2.2.1 (ih _ hfl.2.2.1) e
  split at e
  ·exact qk hfl.2.1 hfl.2.2.1 (ih _ hfl.2.2.1) e
  split at e
  ·exact qZ e ⟨O,O⟩
  split at e
  ·exact qZ e ⟨O,O⟩
  split at e
  ·exact qZ e ⟨O,O⟩
  rename_i q1
  have hf1:=dZ (Classical.not_not.1 q1)
  rcases bJ e with⟨u,h1,rfl⟩|⟨us,z',h1,h2⟩
  ·exact qk hf1.2.1 O (ih _ O) h1
  ·split at h2
   ·exact qZ h2 ⟨O,O⟩
   ·exact He h2
theorem rz:∀(fs:Ls (Int×Int×Bool)) (t u:Q),eS fs t=U u->u.size<=t.size
 | [],t,u,h=>by cases h;exact Ln
 |f::fs,t,u,h=>by
  have:=rz fs _ _ (y8.1 h).2
  rw[fB]at this
  omega
theorem uA{s:Ls Nd}{i:Nat}(h:¬i<s.length):(nd s i).kids=[]:=by
 unfold nd;rw[aB,eL O];rfl
theorem Dx{t:Ls Vl}{j:Nat}(hj:j<t.length):vl t j∈t:=by
 unfold vl;rw[aB,aC hj];exact bz _
theorem Bw{s:Ls Nd}(hr:cd s)(hok:ie s)(root:Nat)(hroot:root<s.length)(d:Q):∃E v,my E s root d v/\((∃k q,v= .error (k,q)/\k≠0/\0<=q/\q<=d.size)\/(∃vs F,v= .ok vs/\Fo F s root vs (.ok d)/\Sz vs/\(∀j,j<vs.length->(vl vs j).kids<=9223372036854775807)/\2<=d.size/\d.size<=4000)):=by
 obtain⟨E,v,h⟩:=zH s root d;refine⟨E,v,h,?_⟩;have h0:cd s/\(0:Int)<=root/\(root:Int)<s.length:=⟨hr,O,O⟩;rcases h with⟨q,_⟩|⟨_,_,rfl⟩|⟨_,hd,rfl,rfl,hE,f,hf,hv⟩
 ·exact Ab h0 q
 ·exact .inl ⟨2,0,X,Dc,O,O⟩
 rw[br]at hv;unfold eI at hv;rcases bJ hv with⟨⟨k,q⟩,h1,rfl⟩|⟨vs,z,h1,h2⟩
 ·have:=(C2 _ _ _ _ _ _ Lz h1).1 k q X;exact .inl ⟨k,q,X,jn _ _ _ _ _ _ h1 k q X,this.1,this.2⟩
 have hl:=iC hr.fine hroot h1;split at h2
 ·cases h2;exact .inl ⟨7,z,X,Dc,O,O⟩
 cases h2;obtain rfl:z=E.d.size:=O;have hvb:=yU (E:=E) (B:=140737488351232) O O (fun i=>by
  by_cases hi:i<E.s.length
  ·exact hr.fine.eight i hi
  ·rw[uA hi];exact Lz) (fun i k hk hd=>by
  by_cases hi:i<E.s.length
  ·obtain⟨u,e1,e2,_⟩:=hE.dv i hi k hk hd;have hw:=hr.fine.within i hi k hk;obtain⟨_,_,hT1,hT2,hT3,hT4,hT5⟩:=dE hr (i:=k.node.toNat) O;have hst:=((fE (fun z=>hT3 O) O).1 e1).1;have h3:=rz _ _ _ hst;have h4:=hok i hi k hk;rw[e2];exact⟨by show u.size<=_;omega,fx _⟩
  rw[uA hi]at hk;cases hk) f O _ _ _ _ _ _ h1
 have hB:Am E ⟨E.s,vs,E.ok⟩:=⟨X,hr,hE.bg,hE.ok,hE.ok,hE.dv⟩;have hw:=nO hB f root 0 E.d.size 1 vs E.d.size hroot h1 Ln 0 ⟨[],[],Sq,X⟩;refine .inr ⟨vs,⟨E.s,vs,E.ok⟩,X,.inr ⟨h0,X,X,hE.ok,f+1,_,by rw[br];exact hw,?_⟩,⟨O,fun j hj=>?_⟩,fun j hj=>?_,O,hd⟩
 ·unfold vI;simp only;rw[G O,G (by rw[fB];omega),G Dc,lZ]
 ·have:=(hvb _ (Dx hj)).1;omega
 have:=(hvb _ (Dx hj)).2;omega
end Go.Proofs.YtkkicodfpekbgaaGreatDoor
