/-
hallmarkref.alone: what it answers.
-/
import Derived.Test.YtkkicodfpekbgaaGreatDoorJc0
import Derived.Deep.DeepCutAuto
open Go.Value renaming int->I,string->Y,slice->S,bool->Bo,agg->Ag
open Go.IntKind renaming i64->J
open Go.Obj renaming cells->C
open Option renaming some->U,none->Z
open Go renaming World->M,Calls->Cs,Addr->Ad
open Go.RowKit renaming Below->H,intOf->Io,Hid->Hi
open Go.World renaming cell?->Wc
open _root_ renaming Option->Oo,List->Ls
open Go.Addr renaming mk->D
set_option linter.unusedSimpArgs false
set_option linter.unusedVariables false
set_option maxRecDepth 100000
set_option maxHeartbeats 8000000
namespace Go.Proofs.YtkkicodfpekbgaaGreatDoor
open Go.RowKit Classical
theorem Az(s:Ls Nd)(a:Oo Ad)(cp:Nat)(n:Nd)(ka:Oo Ad)(kc:Nat)(w:M)(hn:s.length<=40)(hka:be w ka n.kids)(hkm:n.kids.length<=maxLen):Cs Tryz.prog 36 #[S a s.length cp,sW n ka kc] w fun e w'=>dB (fw s.length n) w e w':=by
 have HM:Hi (∀(wr:M) (k:Kd),Cs Tryz.prog 66 #[Ag #[I J k.node,Bo k.opt,Y k.dflt]] wr fun e w'=>dB k.must wr e w'):=fun wr k=>wD k wr;have HKI:Hi (be w ka n.kids):=hka;clear hka;unfold sW;go_enter Tryz.func36,Tryz.ntmps36;go_upto_region 1 with fail;go_cut [36] (fun c wx=>c=Bo (decide (iN n))/\wx=w.alloc (C #[I J n.kind,I J n.tag,I J n.mode,S ka n.kids.length kc] 58))
 case first=>
  by_cases h1:n.kind<1
  ·go_wp2_with fail;go_meet;exact⟨dj Value.bool (aM (p:=iN n) (by unfold iN;omega)).symm,X⟩
  have h1':1<=n.kind:=O;clear h1;by_cases h2:14<n.kind
  ·go_wp2_with fail;go_meet;exact⟨dj Value.bool (aM (p:=iN n) (by unfold iN;omega)).symm,X⟩
  have h2':n.kind<=14:=O;clear h2;by_cases h3:n.tag< -1
  ·go_wp2_with fail;go_meet;exact⟨dj Value.bool (aM (p:=iN n) (by unfold iN;omega)).symm,X⟩
  have h3': -1<=n.tag:=O;clear h3;by_cases h4:30<n.tag
  ·go_wp2_with fail;go_meet;exact⟨dj Value.bool (aM (p:=iN n) (by unfold iN;omega)).symm,X⟩
  have h4':n.tag<=30:=O;clear h4;by_cases h5:n.mode=0
  ·(have e5:(n.mode !=0)=false:=by simp[h5]);have Hh5:Hi (n.mode=0):=h5;clear h5;go_wp2_with fail;go_meet;exact⟨dj Value.bool (by have q:=Hh5.out;rw[aE (p:=iN n) (by unfold iN;omega)];simp;omega),X⟩
  have e5:(n.mode !=0)=true:=by simp[h5]
  by_cases h6:n.mode=1
  ·(have e6:(n.mode !=1)=false:=by simp[h6]);have Hh6:Hi (n.mode=1):=h6;clear h5 h6;go_wp2_with fail;go_meet;exact⟨dj Value.bool (by have q:=Hh6.out;rw[aE (p:=iN n) (by unfold iN;omega)];simp;omega),X⟩
  have e6:(n.mode !=1)=true:=by simp[h6]
  have Hh7:Hi (n.mode≠0/\n.mode≠1):=⟨h5,h6⟩;clear h5 h6;go_wp2_with fail;go_meet;exact⟨dj Value.bool (aM (p:=iN n) (by have q_h7:=Hh7.out;unfold iN;omega)).symm,X⟩
 case rest=>
  obtain⟨hc1,rfl⟩:=hcut;by_cases hb1:iN n
  ·rw[aM hb1]at hc1;subst hc1;have HX:Hi (iN n):=hb1;clear hb1;go_wp2;go_ret;exact bc (fun h=>h.1 HX.out) Be
  rw[aE hb1]at hc1;subst hc1;have hr:1<=n.kind/\n.kind<=14/\ -1<=n.tag/\n.tag<=30/\(n.mode=0\/n.mode=1):=by unfold iN at hb1;omega
  have HB1:Hi (¬iN n):=hb1;have HR:Hi (1<=n.kind/\n.kind<=14/\ -1<=n.tag/\n.tag<=30/\(n.mode=0\/n.mode=1)):=hr;clear hb1 hr;go_upto_region 3 with fail;go_cut [64] (fun c wx=>c=Bo (decide (il n))/\wx=w.alloc (C #[I J n.kind,I J n.tag,I J n.mode,S ka n.kids.length kc] 58))
  case first=>
   obtain⟨r1,r2,r3,r4,r5⟩:=HR.out;have hk:n.kind=13\/n.kind=14\/(n.kind≠13/\n.kind≠14):=O;rcases r5 with h5|h5
   ·(have e5:(n.mode==1)=false:=by simp[h5]);(have e5':(n.mode==0)=true:=by simp[h5]);have Hh5:Hi (n.mode=0):=h5;clear h5;by_cases h6:0<=n.tag
    ·rcases hk with h7|h7|h7
     ·(have e7:(n.kind==13)=true:=by simp[h7]);have Hh7:Hi (n.kind=13):=h7;clear h7;go_wp2_with fail;go_meet;exact⟨dj Value.bool (aM (p:=il n) (by have q_h5:=Hh5.out;have q_h7:=Hh7.out;unfold il;omega)).symm,X⟩
     ·(have e7:(n.kind==13)=false:=by simp[h7]);(have e8:(n.kind==14)=true:=by simp[h7]);have Hh7:Hi (n.kind=14):=h7;clear h7;go_wp2_with fail;go_meet;exact⟨dj Value.bool (aM (p:=il n) (by have q_h5:=Hh5.out;have q_h7:=Hh7.out;unfold il;omega)).symm,X⟩
     (have e7:(n.kind==13)=false:=by simp[h7.1]);(have e8:(n.kind==14)=false:=by simp[h7.2]);have Hh7:Hi (n.kind≠13/\n.kind≠14):=h7;clear h7;go_wp2_with fail;go_meet;exact⟨dj Value.bool (aE (p:=il n) (by have q_h5:=Hh5.out;have q_h7:=Hh7.out;unfold il;omega)).symm,X⟩
    have h6':n.tag<0:=O;clear h6;rcases hk with h7|h7|h7
    ·(have e7:(n.kind==13)=true:=by simp[h7]);have Hh7:Hi (n.kind=13):=h7;clear h7;go_wp2_with fail;go_meet;exact⟨dj Value.bool (aE (p:=il n) (by have q_h5:=Hh5.out;have q_h7:=Hh7.out;unfold il;omega)).symm,X⟩
    ·(have e7:(n.kind==13)=false:=by simp[h7]);(have e8:(n.kind==14)=true:=by simp[h7]);have Hh7:Hi (n.kind=14):=h7;clear h7;go_wp2_with fail;go_meet;exact⟨dj Value.bool (aE (p:=il n) (by have q_h5:=Hh5.out;have q_h7:=Hh7.out;unfold il;omega)).symm,X⟩
    (have e7:(n.kind==13)=false:=by simp[h7.1]);(have e8:(n.kind==14)=false:=by simp[h7.2]);have Hh7:Hi (n.kind≠13/\n.kind≠14):=h7;clear h7;go_wp2_with fail;go_meet;exact⟨dj Value.bool (aE (p:=il n) (by have q_h5:=Hh5.out;have q_h7:=Hh7.out;unfold il;omega)).symm,X⟩
   (have e5:(n.mode==1)=true:=by simp[h5]);(have e5':(n.mode==0)=false:=by simp[h5]);have Hh5:Hi (n.mode=1):=h5;clear h5;by_cases h6:n.tag= -1
   ·(have e6:(n.tag== -1)=true:=by simp[h6]);have Hh6:Hi (n.tag= -1):=h6;clear h6;go_wp2_with fail;go_meet;exact⟨dj Value.bool (aM (p:=il n) (by have q_h5:=Hh5.out;have q_h6:=Hh6.out;unfold il;omega)).symm,X⟩
   (have e6:(n.tag== -1)=false:=by simp[h6]);have h6':0<=n.tag:=O;clear h6;rcases hk with h7|h7|h7
   ·(have e7:(n.kind==13)=true:=by simp[h7]);have Hh7:Hi (n.kind=13):=h7;clear h7;go_wp2_with fail;go_meet;exact⟨dj Value.bool (aE (p:=il n) (by have q_h5:=Hh5.out;have q_h7:=Hh7.out;unfold il;omega)).symm,X⟩
   ·(have e7:(n.kind==13)=false:=by simp[h7]);(have e8:(n.kind==14)=true:=by simp[h7]);have Hh7:Hi (n.kind=14):=h7;clear h7;go_wp2_with fail;go_meet;exact⟨dj Value.bool (aE (p:=il n) (by have q_h5:=Hh5.out;have q_h7:=Hh7.out;unfold il;omega)).symm,X⟩
   (have e7:(n.kind==13)=false:=by simp[h7.1]);(have e8:(n.kind==14)=false:=by simp[h7.2]);have Hh7:Hi (n.kind≠13/\n.kind≠14):=h7;clear h7;go_wp2_with fail;go_meet;exact⟨dj Value.bool (aE (p:=il n) (by have q_h5:=Hh5.out;have q_h7:=Hh7.out;unfold il;omega)).symm,X⟩
  case rest=>
   obtain⟨hc2,rfl⟩:=hcut;by_cases hb2:il n
   ·rw[aM hb2]at hc2;subst hc2;have HX:Hi (il n):=hb2;clear hb2;go_wp2;go_ret;exact bc (fun h=>h.2.1 HX.out) Be
   rw[aE hb2]at hc2;subst hc2;have HB2:Hi (¬il n):=hb2;clear hb2;obtain⟨B,hB⟩:∃B,B=w.heap.size:=Ez
   have HW0:Hi (∀wr,H (w.alloc (C #[I J n.kind,I J n.tag,I J n.mode,S ka n.kids.length kc] 58)).heap.size (w.alloc (C #[I J n.kind,I J n.tag,I J n.mode,S ka n.kids.length kc] 58)) wr->
    wr.cell? ⟨B,0,Z⟩=U (I J n.kind)/\wr.cell? ⟨B,3,Z⟩=U (S ka n.kids.length kc)/\H w.heap.size w wr):=fun wr h=>by
    have h1:=ax (aA w _) h
    subst hB
    exact⟨by simp[Wc,h1],by simp[Wc,h1],aT h⟩
   generalize(w.alloc (C #[I J n.kind,I J n.tag,I J n.mode,S ka n.kids.length kc] 58))=W0 at*;obtain⟨c0,c3,bw⟩:=HW0.out W0 By;have HBW0:Hi (H w.heap.size w W0):=bw;clear bw;rw[<-hB];clear hB;by_cases h10:n.kind=10
   ·(have e10:(n.kind==10)=true:=by simp[h10]);by_cases hc:¬n.kids.length<=8
    ·(have HX:Hi (¬dr n.kind n.kids.length):=by show¬dr n.kind n.kids.length;unfold dr;rw[aG h10];exact hc);have hc':(8:Int)<n.kids.length:=O;clear hc h10;go_wp2;go_ret;exact bc (fun h=>HX.out h.2.2.1) HBW0.out
    have hc:n.kids.length<=8:=O;(have HC:Hi (dr n.kind n.kids.length):=by show dr n.kind n.kids.length;unfold dr;rw[aG h10];exact hc);have hkm':n.kids.length<=8:=O;clear h10;go_wp2;go_loopw [6] (fun vi wr=>∃i:Nat,i<=n.kids.length/\vi=I J i/\(∀j,j<i->cX s.length n (kd n j))/\H W0.heap.size W0 wr) (fun vi _=>n.kids.length-(Io vi).toNat);case atStart=>exact⟨0,Lz,X,fun _ h=>Ab h (aO _),By⟩
    obtain⟨i,hi,rfl,hall,hbr⟩:=hrel;have HA:Hi (∀j,j<i->cX s.length n (kd n j)):=hall;have HB:Hi (H W0.heap.size W0 wr):=hbr;obtain⟨d0,d3,hbw⟩:=HW0.out wr hbr;have HBW:Hi (H w.heap.size w wr):=hbw;clear hall hbr hbw;by_cases hlt:i<n.kids.length
    ·have hlt':(i:Int)<n.kids.length:=O;obtain⟨kb,ko,rfl,kcl⟩:=HKI.out i hlt;obtain⟨y,hy⟩:∃y,kd n i=y:=Ey;have HY:Hi (kd n i=y):=hy;(have hkc:dt w kb (ko+i*3) y:=by rw[<-hy];exact kcl);obtain⟨k1,k2,k3⟩:=hkc.below HBW.out;clear hy kcl hkc;go_wp2_with fail;refine(HM.out _ y).mono ?_;rintro e w1 ⟨r,rfl,hr,hb1⟩;have HRM:Hi (r=true↔y.must):=hr;have HB1':Hi (H W0.heap.size W0 w1):=HB.out.trans ((aT hb1).mono HB.out.size);have HYB:Hi (w1.heap[wr.heap.size]? =U (C #[I J y.node,Bo y.opt,Y y.dflt] 55 (0,0))):=ax (aA wr _) hb1;obtain⟨f0,f3,hbw1⟩:=HW0.out w1 HB1'.out;have HBW1:Hi (H w.heap.size w w1):=hbw1;(have y0:w1.cell? (D wr.heap.size 0 Z)=U (I J y.node):=by simp[Wc,HYB.out]);(have y1:w1.cell? (D wr.heap.size 1 Z)=U (Bo y.opt):=by simp[Wc,HYB.out]);(have y2:w1.cell? (D wr.heap.size 2 Z)=U (Y y.dflt):=by simp[Wc,HYB.out]);clear hr hb1 hbw1 d0 d3 k1 k2 k3;have NO:Hi (¬cX s.length n y->¬fw s.length n):=fun h h'=>h (HY.out▸h'.2.2.2 i hlt);have YES:Hi (cX s.length n y->∀j,j<i+1->cX s.length n (kd n j)):=fun h j hj=>by
      by_cases e:j=i
      ·subst e;rw[HY.out];exact h
      exact HA.out j O
     by_cases q1:y.node<0
     ·(have HX:Hi (¬cX s.length n y):=fun h=>by have:=h.1;omega);go_wp2;go_ret;exact bc (NO.out HX.out) HBW1.out
     have q1':0<=y.node:=O;by_cases q2:¬y.node<s.length
     ·have HX:Hi (¬cX s.length n y):=fun h=>q2 h.2.1;have q2':(s.length:Int)<=y.node:=O;clear q1 q2;go_wp2;go_ret;exact bc (NO.out HX.out) HBW1.out
     have q2:y.node<s.length:=O;clear q1;by_cases q3:¬(y.must\/n.kind=10)
     ·have HX:Hi (¬cX s.length n y):=fun h=>q3 h.2.2.1;(obtain rfl:r=false:=by cases r;rfl;exact Ab (.inl (HRM.out.1 X)) q3);(have q4:(n.kind !=10)=true:=by simp;exact fun e=>q3 (.inr e));clear q3;go_wp2;go_ret;exact bc (NO.out HX.out) HBW1.out
     have q3:y.must\/n.kind=10:=Classical.not_not.1 q3;have HQ3:Hi (y.must\/n.kind=10):=q3;have q5:r=true\/(r=false/\(n.kind !=10)=false):=by
      cases r
      ·right;refine⟨X,?_⟩;rcases q3 with q3|q3
       ·exact Bool.noConfusion (HRM.out.2 q3)
       simp[q3]
      exact .inl X
     clear q3;by_cases q6:y.opt=true
     ·by_cases q7:y.dflt.size=0
      ·have e7:=gJ q7;have HX:Hi (cX s.length n y):=⟨q1',q2,HQ3.out,fun h=>h.2 q7⟩;clear q7;rw[q6]at y1;clear q6;rcases q5 with rfl|⟨rfl,q8⟩
       ·go_wp2;go_roundw;case rel=>exact⟨i+1,O,Gn,YES.out HX.out,HB1'.out⟩
        case measure=>exact Ms
       go_wp2;go_roundw;case rel=>exact⟨i+1,O,Gn,YES.out HX.out,HB1'.out⟩
       case measure=>exact Ms
      have e7:=dR (t:=y.dflt) O;have HX:Hi (¬cX s.length n y):=fun h=>h.2.2.2 ⟨q6,q7⟩;clear q7;rw[q6]at y1;clear q6;rcases q5 with rfl|⟨rfl,q8⟩
      ·go_wp2;go_ret;exact bc (NO.out HX.out) HBW1.out
      go_wp2;go_ret;exact bc (NO.out HX.out) HBW1.out
     (have q6':y.opt=false:=by simpa using q6);have HX:Hi (cX s.length n y):=⟨q1',q2,HQ3.out,fun h=>q6 h.1⟩;rw[q6']at y1;clear q6 q6';rcases q5 with rfl|⟨rfl,q8⟩
     ·go_wp2;go_roundw;case rel=>exact⟨i+1,O,Gn,YES.out HX.out,HB1'.out⟩
      case measure=>exact Ms
     go_wp2;go_roundw;case rel=>exact⟨i+1,O,Gn,YES.out HX.out,HB1'.out⟩
     case measure=>exact Ms
    have hlt':(n.kids.length:Int)<=i:=O;go_wp2;go_ret;exact bS ⟨HB1.out,HB2.out,HC.out,fun j h=>HA.out j O⟩ HBW.out
   (have e10:(n.kind==10)=false:=by simp[h10]);by_cases h11:n.kind=11
   ·(have e11:(n.kind==11)=true:=by simp[h11]);by_cases hc:¬n.kids.length=1
    ·(have HX:Hi (¬dr n.kind n.kids.length):=by show¬dr n.kind n.kids.length;unfold dr;rw[G h10,aG (.inl h11)];exact hc);(have hc':((n.kids.length:Int)!=1)=true:=by rw[ct];omega);clear hc h10 h11;go_wp2;go_ret;exact bc (fun h=>HX.out h.2.2.1) HBW0.out
    have hc:n.kids.length=1:=O;(have hc':((n.kids.length:Int)!=1)=false:=by simp[hc]);(have HC:Hi (dr n.kind n.kids.length):=by show dr n.kind n.kids.length;unfold dr;rw[G h10,aG (.inl h11)];exact hc);have hkm':n.kids.length<=8:=O;clear h10 h11 hc;go_wp2;go_loopw [6] (fun vi wr=>∃i:Nat,i<=n.kids.length/\vi=I J i/\(∀j,j<i->cX s.length n (kd n j))/\H W0.heap.size W0 wr) (fun vi _=>n.kids.length-(Io vi).toNat);case atStart=>exact⟨0,Lz,X,fun _ h=>Ab h (aO _),By⟩
    obtain⟨i,hi,rfl,hall,hbr⟩:=hrel;have HA:Hi (∀j,j<i->cX s.length n (kd n j)):=hall;have HB:Hi (H W0.heap.size W0 wr):=hbr;obtain⟨d0,d3,hbw⟩:=HW0.out wr hbr;have HBW:Hi (H w.heap.size w wr):=hbw;clear hall hbr hbw;by_cases hlt:i<n.kids.length
    ·have hlt':(i:Int)<n.kids.length:=O;obtain⟨kb,ko,rfl,kcl⟩:=HKI.out i hlt;obtain⟨y,hy⟩:∃y,kd n i=y:=Ey;have HY:Hi (kd n i=y):=hy;(have hkc:dt w kb (ko+i*3) y:=by rw[<-hy];exact kcl);obtain⟨k1,k2,k3⟩:=hkc.below HBW.out;clear hy kcl hkc;go_wp2_with fail;refine(HM.out _ y).mono ?_;rintro e w1 ⟨r,rfl,hr,hb1⟩;have HRM:Hi (r=true↔y.must):=hr;have HB1':Hi (H W0.heap.size W0 w1):=HB.out.trans ((aT hb1).mono HB.out.size);have HYB:Hi (w1.heap[wr.heap.size]? =U (C #[I J y.node,Bo y.opt,Y y.dflt] 55 (0,0))):=ax (aA wr _) hb1;obtain⟨f0,f3,hbw1⟩:=HW0.out w1 HB1'.out;have HBW1:Hi (H w.heap.size w w1):=hbw1;(have y0:w1.cell? (D wr.heap.size 0 Z)=U (I J y.node):=by simp[Wc,HYB.out]);(have y1:w1.cell? (D wr.heap.size 1 Z)=U (Bo y.opt):=by simp[Wc,HYB.out]);(have y2:w1.cell? (D wr.heap.size 2 Z)=U (Y y.dflt):=by simp[Wc,HYB.out]);clear hr hb1 hbw1 d0 d3 k1 k2 k3;have NO:Hi (¬cX s.length n y->¬fw s.length n):=fun h h'=>h (HY.out▸h'.2.2.2 i hlt);have YES:Hi (cX s.length n y->∀j,j<i+1->cX s.length n (kd n j)):=fun h j hj=>by
      by_cases e:j=i
      ·subst e;rw[HY.out];exact h
      exact HA.out j O
     by_cases q1:y.node<0
     ·(have HX:Hi (¬cX s.length n y):=fun h=>by have:=h.1;omega);go_wp2;go_ret;exact bc (NO.out HX.out) HBW1.out
     have q1':0<=y.node:=O;by_cases q2:¬y.node<s.length
     ·have HX:Hi (¬cX s.length n y):=fun h=>q2 h.2.1;have q2':(s.length:Int)<=y.node:=O;clear q1 q2;go_wp2;go_ret;exact bc (NO.out HX.out) HBW1.out
     have q2:y.node<s.length:=O;clear q1;by_cases q3:¬(y.must\/n.kind=10)
     ·have HX:Hi (¬cX s.length n y):=fun h=>q3 h.2.2.1;(obtain rfl:r=false:=by cases r;rfl;exact Ab (.inl (HRM.out.1 X)) q3);(have q4:(n.kind !=10)=true:=by simp;exact fun e=>q3 (.inr e));clear q3;go_wp2;go_ret;exact bc (NO.out HX.out) HBW1.out
     have q3:y.must\/n.kind=10:=Classical.not_not.1 q3;have HQ3:Hi (y.must\/n.kind=10):=q3;have q5:r=true\/(r=false/\(n.kind !=10)=false):=by
      cases r
      ·right;refine⟨X,?_⟩;rcases q3 with q3|q3
       ·exact Bool.noConfusion (HRM.out.2 q3)
       simp[q3]
      exact .inl X
     clear q3;by_cases q6:y.opt=true
     ·by_cases q7:y.dflt.size=0
      ·have e7:=gJ q7;have HX:Hi (cX s.length n y):=⟨q1',q2,HQ3.out,fun h=>h.2 q7⟩;clear q7;rw[q6]at y1;clear q6;rcases q5 with rfl|⟨rfl,q8⟩
       ·go_wp2;go_roundw;case rel=>exact⟨i+1,O,Gn,YES.out HX.out,HB1'.out⟩
        case measure=>exact Ms
       go_wp2;go_roundw;case rel=>exact⟨i+1,O,Gn,YES.out HX.out,HB1'.out⟩
       case measure=>exact Ms
      have e7:=dR (t:=y.dflt) O;have HX:Hi (¬cX s.length n y):=fun h=>h.2.2.2 ⟨q6,q7⟩;clear q7;rw[q6]at y1;clear q6;rcases q5 with rfl|⟨rfl,q8⟩
      ·go_wp2;go_ret;exact bc (NO.out HX.out) HBW1.out
      go_wp2;go_ret;exact bc (NO.out HX.out) HBW1.out
     (have q6':y.opt=false:=by simpa using q6);have HX:Hi (cX s.length n y):=⟨q1',q2,HQ3.out,fun h=>q6 h.1⟩;rw[q6']at y1;clear q6 q6';rcases q5 with rfl|⟨rfl,q8⟩
     ·go_wp2;go_roundw;case rel=>exact⟨i+1,O,Gn,YES.out HX.out,HB1'.out⟩
      case measure=>exact Ms
     go_wp2;go_roundw;case rel=>exact⟨i+1,O,Gn,YES.out HX.out,HB1'.out⟩
     case measure=>exact Ms
    have hlt':(n.kids.length:Int)<=i:=O;go_wp2;go_ret;exact bS ⟨HB1.out,HB2.out,HC.out,fun j h=>HA.out j O⟩ HBW.out
   (have e11:(n.kind==11)=false:=by simp[h11]);by_cases h12:n.kind=12
   ·(have e12:(n.kind==12)=true:=by simp[h12]);by_cases hc:¬n.kids.length=1
    ·(have HX:Hi (¬dr n.kind n.kids.length):=by show¬dr n.kind n.kids.length;unfold dr;rw[G h10,aG (.inr h12)];exact hc);(have hc':((n.kids.length:Int)!=1)=true:=by rw[ct];omega);clear hc h10 h11 h12;go_wp2;go_ret;exact bc (fun h=>HX.out h.2.2.1) HBW0.out
    have hc:n.kids.length=1:=O;(have hc':((n.kids.length:Int)!=1)=false:=by simp[hc]);(have HC:Hi (dr n.kind n.kids.length):=by show dr n.kind n.kids.length;unfold dr;rw[G h10,aG (.inr h12)];exact hc);have hkm':n.kids.length<=8:=O;clear h10 h11 h12 hc;go_wp2;go_loopw [6] (fun vi wr=>∃i:Nat,i<=n.kids.length/\vi=I J i/\(∀j,j<i->cX s.length n (kd n j))/\H W0.heap.size W0 wr) (fun vi _=>n.kids.length-(Io vi).toNat);case atStart=>exact⟨0,Lz,X,fun _ h=>Ab h (aO _),By⟩
    obtain⟨i,hi,rfl,hall,hbr⟩:=hrel;have HA:Hi (∀j,j<i->cX s.length n (kd n j)):=hall;have HB:Hi (H W0.heap.size W0 wr):=hbr;obtain⟨d0,d3,hbw⟩:=HW0.out wr hbr;have HBW:Hi (H w.heap.size w wr):=hbw;clear hall hbr hbw;by_cases hlt:i<n.kids.length
    ·have hlt':(i:Int)<n.kids.length:=O;obtain⟨kb,ko,rfl,kcl⟩:=HKI.out i hlt;obtain⟨y,hy⟩:∃y,kd n i=y:=Ey;have HY:Hi (kd n i=y):=hy;(have hkc:dt w kb (ko+i*3) y:=by rw[<-hy];exact kcl);obtain⟨k1,k2,k3⟩:=hkc.below HBW.out;clear hy kcl hkc;go_wp2_with fail;refine(HM.out _ y).mono ?_;rintro e w1 ⟨r,rfl,hr,hb1⟩;have HRM:Hi (r=true↔y.must):=hr;have HB1':Hi (H W0.heap.size W0 w1):=HB.out.trans ((aT hb1).mono HB.out.size);have HYB:Hi (w1.heap[wr.heap.size]? =U (C #[I J y.node,Bo y.opt,Y y.dflt] 55 (0,0))):=ax (aA wr _) hb1;obtain⟨f0,f3,hbw1⟩:=HW0.out w1 HB1'.out;have HBW1:Hi (H w.heap.size w w1):=hbw1;(have y0:w1.cell? (D wr.heap.size 0 Z)=U (I J y.node):=by simp[Wc,HYB.out]);(have y1:w1.cell? (D wr.heap.size 1 Z)=U (Bo y.opt):=by simp[Wc,HYB.out]);(have y2:w1.cell? (D wr.heap.size 2 Z)=U (Y y.dflt):=by simp[Wc,HYB.out]);clear hr hb1 hbw1 d0 d3 k1 k2 k3;have NO:Hi (¬cX s.length n y->¬fw s.length n):=fun h h'=>h (HY.out▸h'.2.2.2 i hlt);have YES:Hi (cX s.length n y->∀j,j<i+1->cX s.length n (kd n j)):=fun h j hj=>by
      by_cases e:j=i
      ·subst e;rw[HY.out];exact h
      exact HA.out j O
     by_cases q1:y.node<0
     ·(have HX:Hi (¬cX s.length n y):=fun h=>by have:=h.1;omega);go_wp2;go_ret;exact bc (NO.out HX.out) HBW1.out
     have q1':0<=y.node:=O;by_cases q2:¬y.node<s.length
     ·have HX:Hi (¬cX s.length n y):=fun h=>q2 h.2.1;have q2':(s.length:Int)<=y.node:=O;clear q1 q2;go_wp2;go_ret;exact bc (NO.out HX.out) HBW1.out
     have q2:y.node<s.length:=O;clear q1;by_cases q3:¬(y.must\/n.kind=10)
     ·have HX:Hi (¬cX s.length n y):=fun h=>q3 h.2.2.1;(obtain rfl:r=false:=by cases r;rfl;exact Ab (.inl (HRM.out.1 X)) q3);(have q4:(n.kind !=10)=true:=by simp;exact fun e=>q3 (.inr e));clear q3;go_wp2;go_ret;exact bc (NO.out HX.out) HBW1.out
     have q3:y.must\/n.kind=10:=Classical.not_not.1 q3;have HQ3:Hi (y.must\/n.kind=10):=q3;have q5:r=true\/(r=false/\(n.kind !=10)=false):=by
      cases r
      ·right;refine⟨X,?_⟩;rcases q3 with q3|q3
       ·exact Bool.noConfusion (HRM.out.2 q3)
       simp[q3]
      exact .inl X
     clear q3;by_cases q6:y.opt=true
     ·by_cases q7:y.dflt.size=0
      ·have e7:=gJ q7;have HX:Hi (cX s.length n y):=⟨q1',q2,HQ3.out,fun h=>h.2 q7⟩;clear q7;rw[q6]at y1;clear q6;rcases q5 with rfl|⟨rfl,q8⟩
       ·go_wp2;go_roundw;case rel=>exact⟨i+1,O,Gn,YES.out HX.out,HB1'.out⟩
        case measure=>exact Ms
       go_wp2;go_roundw;case rel=>exact⟨i+1,O,Gn,YES.out HX.out,HB1'.out⟩
       case measure=>exact Ms
      have e7:=dR (t:=y.dflt) O;have HX:Hi (¬cX s.length n y):=fun h=>h.2.2.2 ⟨q6,q7⟩;clear q7;rw[q6]at y1;clear q6;rcases q5 with rfl|⟨rfl,q8⟩
      ·go_wp2;go_ret;exact bc (NO.out HX.out) HBW1.out
      go_wp2;go_ret;exact bc (NO.out HX.out) HBW1.out
     (have q6':y.opt=false:=by simpa using q6);have HX:Hi (cX s.length n y):=⟨q1',q2,HQ3.out,fun h=>q6 h.1⟩;rw[q6']at y1;clear q6 q6';rcases q5 with rfl|⟨rfl,q8⟩
     ·go_wp2;go_roundw;case rel=>exact⟨i+1,O,Gn,YES.out HX.out,HB1'.out⟩
      case measure=>exact Ms
     go_wp2;go_roundw;case rel=>exact⟨i+1,O,Gn,YES.out HX.out,HB1'.out⟩
     case measure=>exact Ms
    have hlt':(n.kids.length:Int)<=i:=O;go_wp2;go_ret;exact bS ⟨HB1.out,HB2.out,HC.out,fun j h=>HA.out j O⟩ HBW.out
   (have e12:(n.kind==12)=false:=by simp[h12]);by_cases h13:n.kind=13
   ·(have e13:(n.kind==13)=true:=by simp[h13]);by_cases hc:¬1<=n.kids.length
    ·(have HX:Hi (¬dr n.kind n.kids.length):=by show¬dr n.kind n.kids.length;unfold dr;rw[G h10,G O,aG h13];omega);have hc':(n.kids.length:Int)<1:=O;clear hc h10 h11 h12 h13;go_wp2;go_ret;exact bc (fun h=>HX.out h.2.2.1) HBW0.out
    by_cases hc2:¬n.kids.length<=8
    ·(have HX:Hi (¬dr n.kind n.kids.length):=by show¬dr n.kind n.kids.length;unfold dr;rw[G h10,G O,aG h13];omega);have hc':(8:Int)<n.kids.length:=O;clear hc2 h10 h11 h12 h13;go_wp2;go_ret;exact bc (fun h=>HX.out h.2.2.1) HBW0.out
    have hc:1<=n.kids.length:=O;have hc2:n.kids.length<=8:=O;(have HC:Hi (dr n.kind n.kids.length):=by show dr n.kind n.kids.length;unfold dr;rw[G h10,G O,aG h13];omega);have hkm':n.kids.length<=8:=O;clear h10 h11 h12 h13;go_wp2;go_loopw [6] (fun vi wr=>∃i:Nat,i<=n.kids.length/\vi=I J i/\(∀j,j<i->cX s.length n (kd n j))/\H W0.heap.size W0 wr) (fun vi _=>n.kids.length-(Io vi).toNat);case atStart=>exact⟨0,Lz,X,fun _ h=>Ab h (aO _),By⟩
    obtain⟨i,hi,rfl,hall,hbr⟩:=hrel;have HA:Hi (∀j,j<i->cX s.length n (kd n j)):=hall;have HB:Hi (H W0.heap.size W0 wr):=hbr;obtain⟨d0,d3,hbw⟩:=HW0.out wr hbr;have HBW:Hi (H w.heap.size w wr):=hbw;clear hall hbr hbw;by_cases hlt:i<n.kids.length
    ·have hlt':(i:Int)<n.kids.length:=O;obtain⟨kb,ko,rfl,kcl⟩:=HKI.out i hlt;obtain⟨y,hy⟩:∃y,kd n i=y:=Ey;have HY:Hi (kd n i=y):=hy;(have hkc:dt w kb (ko+i*3) y:=by rw[<-hy];exact kcl);obtain⟨k1,k2,k3⟩:=hkc.below HBW.out;clear hy kcl hkc;go_wp2_with fail;refine(HM.out _ y).mono ?_;rintro e w1 ⟨r,rfl,hr,hb1⟩;have HRM:Hi (r=true↔y.must):=hr;have HB1':Hi (H W0.heap.size W0 w1):=HB.out.trans ((aT hb1).mono HB.out.size);have HYB:Hi (w1.heap[wr.heap.size]? =U (C #[I J y.node,Bo y.opt,Y y.dflt] 55 (0,0))):=ax (aA wr _) hb1;obtain⟨f0,f3,hbw1⟩:=HW0.out w1 HB1'.out;have HBW1:Hi (H w.heap.size w w1):=hbw1;(have y0:w1.cell? (D wr.heap.size 0 Z)=U (I J y.node):=by simp[Wc,HYB.out]);(have y1:w1.cell? (D wr.heap.size 1 Z)=U (Bo y.opt):=by simp[Wc,HYB.out]);(have y2:w1.cell? (D wr.heap.size 2 Z)=U (Y y.dflt):=by simp[Wc,HYB.out]);clear hr hb1 hbw1 d0 d3 k1 k2 k3;have NO:Hi (¬cX s.length n y->¬fw s.length n):=fun h h'=>h (HY.out▸h'.2.2.2 i hlt);have YES:Hi (cX s.length n y->∀j,j<i+1->cX s.length n (kd n j)):=fun h j hj=>by
      by_cases e:j=i
      ·subst e;rw[HY.out];exact h
      exact HA.out j O
     by_cases q1:y.node<0
     ·(have HX:Hi (¬cX s.length n y):=fun h=>by have:=h.1;omega);go_wp2;go_ret;exact bc (NO.out HX.out) HBW1.out
     have q1':0<=y.node:=O;by_cases q2:¬y.node<s.length
     ·have HX:Hi (¬cX s.length n y):=fun h=>q2 h.2.1;have q2':(s.length:Int)<=y.node:=O;clear q1 q2;go_wp2;go_ret;exact bc (NO.out HX.out) HBW1.out
     have q2:y.node<s.length:=O;clear q1;by_cases q3:¬(y.must\/n.kind=10)
     ·have HX:Hi (¬cX s.length n y):=fun h=>q3 h.2.2.1;(obtain rfl:r=false:=by cases r;rfl;exact Ab (.inl (HRM.out.1 X)) q3);(have q4:(n.kind !=10)=true:=by simp;exact fun e=>q3 (.inr e));clear q3;go_wp2;go_ret;exact bc (NO.out HX.out) HBW1.out
     have q3:y.must\/n.kind=10:=Classical.not_not.1 q3;have HQ3:Hi (y.must\/n.kind=10):=q3;have q5:r=true\/(r=false/\(n.kind !=10)=false):=by
      cases r
      ·right;refine⟨X,?_⟩;rcases q3 with q3|q3
       ·exact Bool.noConfusion (HRM.out.2 q3)
       simp[q3]
      exact .inl X
     clear q3;by_cases q6:y.opt=true
     ·by_cases q7:y.dflt.size=0
      ·have e7:=gJ q7;have HX:Hi (cX s.length n y):=⟨q1',q2,HQ3.out,fun h=>h.2 q7⟩;clear q7;rw[q6]at y1;clear q6;rcases q5 with rfl|⟨rfl,q8⟩
       ·go_wp2;go_roundw;case rel=>exact⟨i+1,O,Gn,YES.out HX.out,HB1'.out⟩
        case measure=>exact Ms
       go_wp2;go_roundw;case rel=>exact⟨i+1,O,Gn,YES.out HX.out,HB1'.out⟩
       case measure=>exact Ms
      have e7:=dR (t:=y.dflt) O;have HX:Hi (¬cX s.length n y):=fun h=>h.2.2.2 ⟨q6,q7⟩;clear q7;rw[q6]at y1;clear q6;rcases q5 with rfl|⟨rfl,q8⟩
      ·go_wp2;go_ret;exact bc (NO.out HX.out) HBW1.out
      go_wp2;go_ret;exact bc (NO.out HX.out) HBW1.out
     (have q6':y.opt=false:=by simpa using q6);have HX:Hi (cX s.length n y):=⟨q1',q2,HQ3.out,fun h=>q6 h.1⟩;rw[q6']at y1;clear q6 q6';rcases q5 with rfl|⟨rfl,q8⟩
     ·go_wp2;go_roundw;case rel=>exact⟨i+1,O,Gn,YES.out HX.out,HB1'.out⟩
      case measure=>exact Ms
     go_wp2;go_roundw;case rel=>exact⟨i+1,O,Gn,YES.out HX.out,HB1'.out⟩
     case measure=>exact Ms
    have hlt':(n.kids.length:Int)<=i:=O;go_wp2;go_ret;exact bS ⟨HB1.out,HB2.out,HC.out,fun j h=>HA.out j O⟩ HBW.out
   (have e13:(n.kind==13)=false:=by simp[h13]);by_cases hc:¬n.kids.length=0
   ·(have HX:Hi (¬dr n.kind n.kids.length):=by show¬dr n.kind n.kids.length;unfold dr;rw[G h10,G O,G h13];exact hc);(have hc':((n.kids.length:Int)!=0)=true:=by rw[ct];omega);clear hc h10 h11 h12 h13;go_wp2;go_ret;exact bc (fun h=>HX.out h.2.2.1) HBW0.out
   have hc:n.kids.length=0:=O;(have HC:Hi (dr n.kind n.kids.length):=by show dr n.kind n.kids.length;unfold dr;rw[G h10,G O,G h13];exact hc);(have hc':((n.kids.length:Int)!=0)=false:=by simp[hc]);have hl':(n.kids.length:Int)<=0:=O;have HZ:Hi (n.kids.length=0):=hc;clear h10 h11 h12 h13 hc;go_wp2;refine eJ 1 ?_;rw[ch];go_wp2;go_ret;exact bS ⟨HB1.out,HB2.out,HC.out,fun j h=>Ab h (by have:=HZ.out;omega)⟩ HBW0.out
end Go.Proofs.YtkkicodfpekbgaaGreatDoor
