/- Parts. -/
import Derived.Test.YtkkicodfpekbgaaGreatDoorJd3
import Derived.Deep.DeepCutAuto
open Go.Value renaming int->I,string->Y,slice->S,bool->Bo,agg->Ag
open Go.IntKind renaming i64->J
open Go.Obj renaming cells->C
open Option renaming some->U,none->Z
open Go renaming World->M,Calls->Cs,Addr->Ad
open Go.RowKit renaming Below->H,intOf->Io,Hid->Hi
open Go.World renaming cell?->Wc
open _root_ renaming Option->Oo,List->Ls
open Go.Addr renaming mk->D
set_option linter.all false
set_option maxRecDepth 100000
set_option maxHeartbeats 8000000
namespace Go.Proofs.YtkkicodfpekbgaaGreatDoor
open Go.RowKit Classical
theorem ace(s:Ls Nd)(a:Oo Ad)(cp:Nat)(n:Nd)(ka:Oo Ad)(kc:Nat)(w:M)(hn:s.length<=40)(aK:bn w ka n.kids)(dK:n.kids.length<=maxLen):Cs Tryz.prog 36 #[S a s.length cp,Dm n ka kc] w fun e w'=>dw (mw s.length n) w e w':=by
 have HM:Hi (∀(wr:M) (k:Kd),Cs Tryz.prog 66 #[Ag #[I J k.node,Bo k.opt,Y k.dflt]] wr fun e w'=>dw k.must wr e w'):=fun wr k=>Xi k wr;have fN:Hi (bn w ka n.kids):=aK;clear aK;unfold Dm;go_enter Tryz.func36,Tryz.ntmps36;go_upto_region 1 with fail;go_cut [36] (fun c wx=>c=Bo (decide (lk n))/\wx=w.alloc (C #[I J n.kind,I J n.tag,I J n.mode,S ka n.kids.length kc] 58))
 case first=>
  by_cases h1:n.kind<1;·go_wp2_with fail;go_meet;exact⟨kr Value.bool (ch (p:=lk n) (by unfold lk;omega)).symm,X⟩
  have iH:1<=n.kind:=O;clear h1;by_cases h2:14<n.kind;·go_wp2_with fail;go_meet;exact⟨kr Value.bool (ch (p:=lk n) (by unfold lk;omega)).symm,X⟩
  have kG:n.kind<=14:=O;clear h2;by_cases h3:n.tag< -1;·go_wp2_with fail;go_meet;exact⟨kr Value.bool (ch (p:=lk n) (by unfold lk;omega)).symm,X⟩
  have DZ: -1<=n.tag:=O;clear h3;by_cases h4:30<n.tag;·go_wp2_with fail;go_meet;exact⟨kr Value.bool (ch (p:=lk n) (by unfold lk;omega)).symm,X⟩
  have D0:n.tag<=30:=O;clear h4;by_cases h5:n.mode=0;·(have e5:(n.mode !=0)=false:=by simp[h5]);have qW:Hi (n.mode=0):=h5;clear h5;go_wp2_with fail;go_meet;exact⟨kr Value.bool (by have q:=qW.out;rw[br (p:=lk n) (by unfold lk;omega)];simp;omega),X⟩
  have e5:(n.mode !=0)=true:=by simp[h5]
  by_cases h6:n.mode=1;·(have e6:(n.mode !=1)=false:=by simp[h6]);have OX:Hi (n.mode=1):=h6;clear h5 h6;go_wp2_with fail;go_meet;exact⟨kr Value.bool (by have q:=OX.out;rw[br (p:=lk n) (by unfold lk;omega)];simp;omega),X⟩
  have e6:(n.mode !=1)=true:=by simp[h6]
  have mP:Hi (n.mode≠0/\n.mode≠1):=⟨h5,h6⟩;clear h5 h6;go_wp2_with fail;go_meet;exact⟨kr Value.bool (ch (p:=lk n) (by have yY:=mP.out;unfold lk;omega)).symm,X⟩
 obtain⟨j6,rfl⟩:=hcut;by_cases hb1:lk n;·rw[ch hb1]at j6;subst j6;have HX:Hi (lk n):=hb1;clear hb1;go_wp2;go_ret;exact cg (fun h=>h.1 HX.out) Be
 rw[br hb1]at j6;subst j6;have hr:1<=n.kind/\n.kind<=14/\ -1<=n.tag/\n.tag<=30/\(n.mode=0\/n.mode=1):=by unfold lk at hb1;omega
 have aC:Hi (¬lk n):=hb1;have HR:Hi (1<=n.kind/\n.kind<=14/\ -1<=n.tag/\n.tag<=30/\(n.mode=0\/n.mode=1)):=hr;clear hb1 hr;go_upto_region 3 with fail;go_cut [64] (fun c wx=>c=Bo (decide (kf n))/\wx=w.alloc (C #[I J n.kind,I J n.tag,I J n.mode,S ka n.kids.length kc] 58))
 case first=>
  obtain⟨r1,r2,r3,r4,r5⟩:=HR.out;have hk:n.kind=13\/n.kind=14\/(n.kind≠13/\n.kind≠14):=O;rcases r5 with h5|h5
  ·(have e5:(n.mode==1)=false:=by simp[h5]);(have e5':(n.mode==0)=true:=by simp[h5]);have qW:Hi (n.mode=0):=h5;clear h5;by_cases h6:0<=n.tag
   ·rcases hk with h7|h7|h7;(·(have e7:(n.kind==13)=true:=by simp[h7]);have mP:Hi (n.kind=13):=h7;clear h7;go_wp2_with fail;go_meet;exact⟨kr Value.bool (ch (p:=kf n) (by have yX:=qW.out;have yY:=mP.out;unfold kf;omega)).symm,X⟩);(·(have e7:(n.kind==13)=false:=by simp[h7]);(have e8:(n.kind==14)=true:=by simp[h7]);have mP:Hi (n.kind=14):=h7;clear h7;go_wp2_with fail;go_meet;exact⟨kr Value.bool (ch (p:=kf n) (by have yX:=qW.out;have yY:=mP.out;unfold kf;omega)).symm,X⟩);(have e7:(n.kind==13)=false:=by simp[h7.1]);(have e8:(n.kind==14)=false:=by simp[h7.2]);have mP:Hi (n.kind≠13/\n.kind≠14):=h7;clear h7;go_wp2_with fail;go_meet;exact⟨kr Value.bool (br (p:=kf n) (by have yX:=qW.out;have yY:=mP.out;unfold kf;omega)).symm,X⟩
   have VI:n.tag<0:=O;clear h6;rcases hk with h7|h7|h7;(·(have e7:(n.kind==13)=true:=by simp[h7]);have mP:Hi (n.kind=13):=h7;clear h7;go_wp2_with fail;go_meet;exact⟨kr Value.bool (br (p:=kf n) (by have yX:=qW.out;have yY:=mP.out;unfold kf;omega)).symm,X⟩);(·(have e7:(n.kind==13)=false:=by simp[h7]);(have e8:(n.kind==14)=true:=by simp[h7]);have mP:Hi (n.kind=14):=h7;clear h7;go_wp2_with fail;go_meet;exact⟨kr Value.bool (br (p:=kf n) (by have yX:=qW.out;have yY:=mP.out;unfold kf;omega)).symm,X⟩);(have e7:(n.kind==13)=false:=by simp[h7.1]);(have e8:(n.kind==14)=false:=by simp[h7.2]);have mP:Hi (n.kind≠13/\n.kind≠14):=h7;clear h7;go_wp2_with fail;go_meet;exact⟨kr Value.bool (br (p:=kf n) (by have yX:=qW.out;have yY:=mP.out;unfold kf;omega)).symm,X⟩
  have e5:(n.mode==1)=true:=by simp[h5]
  have e5':(n.mode==0)=false:=by simp[h5]
  have qW:Hi (n.mode=1):=h5;clear h5;by_cases h6:n.tag= -1;·(have e6:(n.tag== -1)=true:=by simp[h6]);have OX:Hi (n.tag= -1):=h6;clear h6;go_wp2_with fail;go_meet;exact⟨kr Value.bool (ch (p:=kf n) (by have yX:=qW.out;have akf:=OX.out;unfold kf;omega)).symm,X⟩
  have e6:(n.tag== -1)=false:=by simp[h6]
  have VI:0<=n.tag:=O;clear h6;rcases hk with h7|h7|h7;·(have e7:(n.kind==13)=true:=by simp[h7]);have mP:Hi (n.kind=13):=h7;clear h7;go_wp2_with fail;go_meet;exact⟨kr Value.bool (br (p:=kf n) (by have yX:=qW.out;have yY:=mP.out;unfold kf;omega)).symm,X⟩
  ·(have e7:(n.kind==13)=false:=by simp[h7]);(have e8:(n.kind==14)=true:=by simp[h7]);have mP:Hi (n.kind=14):=h7;clear h7;go_wp2_with fail;go_meet;exact⟨kr Value.bool (br (p:=kf n) (by have yX:=qW.out;have yY:=mP.out;unfold kf;omega)).symm,X⟩
  have e7:(n.kind==13)=false:=by simp[h7.1]
  have e8:(n.kind==14)=false:=by simp[h7.2]
  have mP:Hi (n.kind≠13/\n.kind≠14):=h7;clear h7;go_wp2_with fail;go_meet;exact⟨kr Value.bool (br (p:=kf n) (by have yX:=qW.out;have yY:=mP.out;unfold kf;omega)).symm,X⟩
 obtain⟨eU,rfl⟩:=hcut;by_cases hb2:kf n;·rw[ch hb2]at eU;subst eU;have HX:Hi (kf n):=hb2;clear hb2;go_wp2;go_ret;exact cg (fun h=>h.2.1 HX.out) Be
 rw[br hb2]at eU;subst eU;have aD:Hi (¬kf n):=hb2;clear hb2;obtain⟨B,hB⟩:∃B,B=w.heap.size:=Ez
 have iW:Hi (∀wr,H (w.alloc (C #[I J n.kind,I J n.tag,I J n.mode,S ka n.kids.length kc] 58)).heap.size (w.alloc (C #[I J n.kind,I J n.tag,I J n.mode,S ka n.kids.length kc] 58)) wr->
  wr.cell? ⟨B,0,Z⟩=U (I J n.kind)/\wr.cell? ⟨B,3,Z⟩=U (S ka n.kids.length kc)/\Bw w wr):=fun wr h=>by
  have h1:=bc (bl w _) h
  subst hB
  exact⟨by simp[Wc,h1],by simp[Wc,h1],dj h⟩
 generalize(w.alloc (C #[I J n.kind,I J n.tag,I J n.mode,S ka n.kids.length kc] 58))=W0 at*;obtain⟨c0,c3,bw⟩:=iW.out W0 By;have sZ:Hi (Bw w W0):=bw;clear bw;rw[<-hB];clear hB;by_cases bG:n.kind=10
 ·have G8:(n.kind==10)=true:=by simp[bG]
  by_cases hc:¬n.kids.length<=8;·(have HX:Hi (¬gp n.kind n.kids.length):=by show¬gp n.kind n.kids.length;unfold gp;rw[ba bG];exact hc);have fP:(8:Int)<n.kids.length:=O;clear hc bG;go_wp2;go_ret;exact cg (fun h=>HX.out h.2.2.1) sZ.out
  have hc:n.kids.length<=8:=O;have HC:Hi (gp n.kind n.kids.length):=by show gp n.kind n.kids.length;unfold gp;rw[ba bG];exact hc
  have MH:n.kids.length<=8:=O;clear bG;go_wp2;go_loopw [6] (fun vi wr=>∃i:Nat,i<=n.kids.length/\vi=I J i/\(∀j,j<i->fj s.length n (kd n j))/\Bw W0 wr) (fun vi _=>n.kids.length-(Io vi).toNat);case atStart=>exact⟨0,Lz,X,fun _ h=>Ab h (dh _),By⟩
  obtain⟨i,hi,rfl,iI,aT⟩:=hrel;have HA:Hi (∀j,j<i->fj s.length n (kd n j)):=iI;have HB:Hi (Bw W0 wr):=aT;obtain⟨d0,d3,nD⟩:=iW.out wr aT;have aM:Hi (Bw w wr):=nD;clear iI aT nD;by_cases aA:i<n.kids.length
  ·have aN:(i:Int)<n.kids.length:=O;obtain⟨kb,ko,rfl,aX⟩:=fN.out i aA;obtain⟨y,hy⟩:∃y,kd n i=y:=Ey;have HY:Hi (kd n i=y):=hy;(have aL:my w kb (ko+i*3) y:=by rw[<-hy];exact aX);obtain⟨k1,k2,k3⟩:=aL.below aM.out;clear hy aX aL;go_wp2_with fail;refine(HM.out _ y).mono ?_;rintro e w1 ⟨r,rfl,hr,hb1⟩;have pM:Hi (r=true↔y.must):=hr;have j8:Hi (Bw W0 w1):=Tm HB.out (dj hb1);have nO:Hi (w1.heap[wr.heap.size]? =U (C #[I J y.node,Bo y.opt,Y y.dflt] 55 (0,0))):=bc (bl wr _) hb1;obtain⟨f0,f3,rG⟩:=iW.out w1 j8.out;have j9:Hi (Bw w w1):=rG;(have y0:w1.cell? (D wr.heap.size 0 Z)=U (I J y.node):=by simp[Wc,nO.out]);(have y1:w1.cell? (D wr.heap.size 1 Z)=U (Bo y.opt):=by simp[Wc,nO.out]);(have y2:w1.cell? (D wr.heap.size 2 Z)=U (Y y.dflt):=by simp[Wc,nO.out]);clear hr hb1 rG d0 d3 k1 k2 k3;have NO:Hi (¬fj s.length n y->¬mw s.length n):=fun h h'=>h (HY.out▸h'.2.2.2 i aA);have fR:Hi (fj s.length n y->∀j,j<i+1->fj s.length n (kd n j)):=fun h j hj=>by
    by_cases e:j=i;(·subst e;rw[HY.out];exact h);exact HA.out j O
   by_cases q1:y.node<0;(·(have HX:Hi (¬fj s.length n y):=fun h=>by have:=h.1;omega);go_wp2;go_ret;exact cg (NO.out HX.out) j9.out);have qJ:0<=y.node:=O;by_cases q2:¬y.node<s.length;(·have HX:Hi (¬fj s.length n y):=fun h=>q2 h.2.1;have vP:(s.length:Int)<=y.node:=O;clear q1 q2;go_wp2;go_ret;exact cg (NO.out HX.out) j9.out);have q2:y.node<s.length:=O;clear q1;by_cases q3:¬(y.must\/n.kind=10);(·have HX:Hi (¬fj s.length n y):=fun h=>q3 h.2.2.1;(obtain rfl:r=false:=by cases r;rfl;exact Ab (.inl (pM.out.1 X)) q3);(have q4:(n.kind !=10)=true:=by simp;exact fun e=>q3 (.inr e));clear q3;go_wp2;go_ret;exact cg (NO.out HX.out) j9.out);have q3:y.must\/n.kind=10:=Classical.not_not.1 q3;have jK:Hi (y.must\/n.kind=10):=q3;have q5:r=true\/(r=false/\(n.kind !=10)=false):=by
    cases r
    ·right;refine⟨X,?_⟩;rcases q3 with q3|q3;(·exact Bool.noConfusion (pM.out.2 q3));simp[q3]
    exact .inl X
   clear q3;by_cases q6:y.opt=true
   ·by_cases q7:y.dflt.size=0
    ·have e7:=jr q7;have HX:Hi (fj s.length n y):=⟨qJ,q2,jK.out,fun h=>h.2 q7⟩;clear q7;rw[q6]at y1;clear q6;rcases q5 with rfl|⟨rfl,q8⟩;(·go_wp2;go_roundw;(case rel=>exact⟨i+1,O,Gn,fR.out HX.out,j8.out⟩);exact Ms);go_wp2;go_roundw;(case rel=>exact⟨i+1,O,Gn,fR.out HX.out,j8.out⟩);exact Ms
    have e7:=gw (t:=y.dflt) O;have HX:Hi (¬fj s.length n y):=fun h=>h.2.2.2 ⟨q6,q7⟩;clear q7;rw[q6]at y1;clear q6;rcases q5 with rfl|⟨rfl,q8⟩;(·go_wp2;go_ret;exact cg (NO.out HX.out) j9.out);go_wp2;go_ret;exact cg (NO.out HX.out) j9.out
   (have qK:y.opt=false:=by simpa using q6);have HX:Hi (fj s.length n y):=⟨qJ,q2,jK.out,fun h=>q6 h.1⟩;rw[qK]at y1;clear q6 qK;rcases q5 with rfl|⟨rfl,q8⟩;(·go_wp2;go_roundw;(case rel=>exact⟨i+1,O,Gn,fR.out HX.out,j8.out⟩);exact Ms);go_wp2;go_roundw;(case rel=>exact⟨i+1,O,Gn,fR.out HX.out,j8.out⟩);exact Ms
  have aN:(n.kids.length:Int)<=i:=O;go_wp2;go_ret;exact ia ⟨aC.out,aD.out,HC.out,fun j h=>HA.out j O⟩ aM.out
 have G8:(n.kind==10)=false:=by simp[bG]
 by_cases fZ:n.kind=11
 ·have DV:(n.kind==11)=true:=by simp[fZ]
  by_cases hc:¬n.kids.length=1;·(have HX:Hi (¬gp n.kind n.kids.length):=by show¬gp n.kind n.kids.length;unfold gp;rw[G bG,ba (.inl fZ)];exact hc);(have fP:((n.kids.length:Int)!=1)=true:=by rw[ln];omega);clear hc bG fZ;go_wp2;go_ret;exact cg (fun h=>HX.out h.2.2.1) sZ.out
  have hc:n.kids.length=1:=O;have fP:((n.kids.length:Int)!=1)=false:=by simp[hc]
  have HC:Hi (gp n.kind n.kids.length):=by show gp n.kind n.kids.length;unfold gp;rw[G bG,ba (.inl fZ)];exact hc
  have MH:n.kids.length<=8:=O;clear bG fZ hc;go_wp2;go_loopw [6] (fun vi wr=>∃i:Nat,i<=n.kids.length/\vi=I J i/\(∀j,j<i->fj s.length n (kd n j))/\Bw W0 wr) (fun vi _=>n.kids.length-(Io vi).toNat);case atStart=>exact⟨0,Lz,X,fun _ h=>Ab h (dh _),By⟩
  obtain⟨i,hi,rfl,iI,aT⟩:=hrel;have HA:Hi (∀j,j<i->fj s.length n (kd n j)):=iI;have HB:Hi (Bw W0 wr):=aT;obtain⟨d0,d3,nD⟩:=iW.out wr aT;have aM:Hi (Bw w wr):=nD;clear iI aT nD;by_cases aA:i<n.kids.length
  ·have aN:(i:Int)<n.kids.length:=O;obtain⟨kb,ko,rfl,aX⟩:=fN.out i aA;obtain⟨y,hy⟩:∃y,kd n i=y:=Ey;have HY:Hi (kd n i=y):=hy;(have aL:my w kb (ko+i*3) y:=by rw[<-hy];exact aX);obtain⟨k1,k2,k3⟩:=aL.below aM.out;clear hy aX aL;go_wp2_with fail;refine(HM.out _ y).mono ?_;rintro e w1 ⟨r,rfl,hr,hb1⟩;have pM:Hi (r=true↔y.must):=hr;have j8:Hi (Bw W0 w1):=Tm HB.out (dj hb1);have nO:Hi (w1.heap[wr.heap.size]? =U (C #[I J y.node,Bo y.opt,Y y.dflt] 55 (0,0))):=bc (bl wr _) hb1;obtain⟨f0,f3,rG⟩:=iW.out w1 j8.out;have j9:Hi (Bw w w1):=rG;(have y0:w1.cell? (D wr.heap.size 0 Z)=U (I J y.node):=by simp[Wc,nO.out]);(have y1:w1.cell? (D wr.heap.size 1 Z)=U (Bo y.opt):=by simp[Wc,nO.out]);(have y2:w1.cell? (D wr.heap.size 2 Z)=U (Y y.dflt):=by simp[Wc,nO.out]);clear hr hb1 rG d0 d3 k1 k2 k3;have NO:Hi (¬fj s.length n y->¬mw s.length n):=fun h h'=>h (HY.out▸h'.2.2.2 i aA);have fR:Hi (fj s.length n y->∀j,j<i+1->fj s.length n (kd n j)):=fun h j hj=>by
    by_cases e:j=i;(·subst e;rw[HY.out];exact h);exact HA.out j O
   by_cases q1:y.node<0;(·(have HX:Hi (¬fj s.length n y):=fun h=>by have:=h.1;omega);go_wp2;go_ret;exact cg (NO.out HX.out) j9.out);have qJ:0<=y.node:=O;by_cases q2:¬y.node<s.length;(·have HX:Hi (¬fj s.length n y):=fun h=>q2 h.2.1;have vP:(s.length:Int)<=y.node:=O;clear q1 q2;go_wp2;go_ret;exact cg (NO.out HX.out) j9.out);have q2:y.node<s.length:=O;clear q1;by_cases q3:¬(y.must\/n.kind=10);(·have HX:Hi (¬fj s.length n y):=fun h=>q3 h.2.2.1;(obtain rfl:r=false:=by cases r;rfl;exact Ab (.inl (pM.out.1 X)) q3);(have q4:(n.kind !=10)=true:=by simp;exact fun e=>q3 (.inr e));clear q3;go_wp2;go_ret;exact cg (NO.out HX.out) j9.out);have q3:y.must\/n.kind=10:=Classical.not_not.1 q3;have jK:Hi (y.must\/n.kind=10):=q3;have q5:r=true\/(r=false/\(n.kind !=10)=false):=by
    cases r
    ·right;refine⟨X,?_⟩;rcases q3 with q3|q3;(·exact Bool.noConfusion (pM.out.2 q3));simp[q3]
    exact .inl X
   clear q3;by_cases q6:y.opt=true
   ·by_cases q7:y.dflt.size=0
    ·have e7:=jr q7;have HX:Hi (fj s.length n y):=⟨qJ,q2,jK.out,fun h=>h.2 q7⟩;clear q7;rw[q6]at y1;clear q6;rcases q5 with rfl|⟨rfl,q8⟩;(·go_wp2;go_roundw;(case rel=>exact⟨i+1,O,Gn,fR.out HX.out,j8.out⟩);exact Ms);go_wp2;go_roundw;(case rel=>exact⟨i+1,O,Gn,fR.out HX.out,j8.out⟩);exact Ms
    have e7:=gw (t:=y.dflt) O;have HX:Hi (¬fj s.length n y):=fun h=>h.2.2.2 ⟨q6,q7⟩;clear q7;rw[q6]at y1;clear q6;rcases q5 with rfl|⟨rfl,q8⟩;(·go_wp2;go_ret;exact cg (NO.out HX.out) j9.out);go_wp2;go_ret;exact cg (NO.out HX.out) j9.out
   (have qK:y.opt=false:=by simpa using q6);have HX:Hi (fj s.length n y):=⟨qJ,q2,jK.out,fun h=>q6 h.1⟩;rw[qK]at y1;clear q6 qK;rcases q5 with rfl|⟨rfl,q8⟩;(·go_wp2;go_roundw;(case rel=>exact⟨i+1,O,Gn,fR.out HX.out,j8.out⟩);exact Ms);go_wp2;go_roundw;(case rel=>exact⟨i+1,O,Gn,fR.out HX.out,j8.out⟩);exact Ms
  have aN:(n.kids.length:Int)<=i:=O;go_wp2;go_ret;exact ia ⟨aC.out,aD.out,HC.out,fun j h=>HA.out j O⟩ aM.out
 have DV:(n.kind==11)=false:=by simp[fZ]
 by_cases fC:n.kind=12
 ·have DW:(n.kind==12)=true:=by simp[fC]
  by_cases hc:¬n.kids.length=1;·(have HX:Hi (¬gp n.kind n.kids.length):=by show¬gp n.kind n.kids.length;unfold gp;rw[G bG,ba (.inr fC)];exact hc);(have fP:((n.kids.length:Int)!=1)=true:=by rw[ln];omega);clear hc bG fZ fC;go_wp2;go_ret;exact cg (fun h=>HX.out h.2.2.1) sZ.out
  have hc:n.kids.length=1:=O;have fP:((n.kids.length:Int)!=1)=false:=by simp[hc]
  have HC:Hi (gp n.kind n.kids.length):=by show gp n.kind n.kids.length;unfold gp;rw[G bG,ba (.inr fC)];exact hc
  have MH:n.kids.length<=8:=O;clear bG fZ fC hc;go_wp2;go_loopw [6] (fun vi wr=>∃i:Nat,i<=n.kids.length/\vi=I J i/\(∀j,j<i->fj s.length n (kd n j))/\Bw W0 wr) (fun vi _=>n.kids.length-(Io vi).toNat);case atStart=>exact⟨0,Lz,X,fun _ h=>Ab h (dh _),By⟩
  obtain⟨i,hi,rfl,iI,aT⟩:=hrel;have HA:Hi (∀j,j<i->fj s.length n (kd n j)):=iI;have HB:Hi (Bw W0 wr):=aT;obtain⟨d0,d3,nD⟩:=iW.out wr aT;have aM:Hi (Bw w wr):=nD;clear iI aT nD;by_cases aA:i<n.kids.length
  ·have aN:(i:Int)<n.kids.length:=O;obtain⟨kb,ko,rfl,aX⟩:=fN.out i aA;obtain⟨y,hy⟩:∃y,kd n i=y:=Ey;have HY:Hi (kd n i=y):=hy;(have aL:my w kb (ko+i*3) y:=by rw[<-hy];exact aX);obtain⟨k1,k2,k3⟩:=aL.below aM.out;clear hy aX aL;go_wp2_with fail;refine(HM.out _ y).mono ?_;rintro e w1 ⟨r,rfl,hr,hb1⟩;have pM:Hi (r=true↔y.must):=hr;have j8:Hi (Bw W0 w1):=Tm HB.out (dj hb1);have nO:Hi (w1.heap[wr.heap.size]? =U (C #[I J y.node,Bo y.opt,Y y.dflt] 55 (0,0))):=bc (bl wr _) hb1;obtain⟨f0,f3,rG⟩:=iW.out w1 j8.out;have j9:Hi (Bw w w1):=rG;(have y0:w1.cell? (D wr.heap.size 0 Z)=U (I J y.node):=by simp[Wc,nO.out]);(have y1:w1.cell? (D wr.heap.size 1 Z)=U (Bo y.opt):=by simp[Wc,nO.out]);(have y2:w1.cell? (D wr.heap.size 2 Z)=U (Y y.dflt):=by simp[Wc,nO.out]);clear hr hb1 rG d0 d3 k1 k2 k3;have NO:Hi (¬fj s.length n y->¬mw s.length n):=fun h h'=>h (HY.out▸h'.2.2.2 i aA);have fR:Hi (fj s.length n y->∀j,j<i+1->fj s.length n (kd n j)):=fun h j hj=>by
    by_cases e:j=i;(·subst e;rw[HY.out];exact h);exact HA.out j O
   by_cases q1:y.node<0;(·(have HX:Hi (¬fj s.length n y):=fun h=>by have:=h.1;omega);go_wp2;go_ret;exact cg (NO.out HX.out) j9.out);have qJ:0<=y.node:=O;by_cases q2:¬y.node<s.length;(·have HX:Hi (¬fj s.length n y):=fun h=>q2 h.2.1;have vP:(s.length:Int)<=y.node:=O;clear q1 q2;go_wp2;go_ret;exact cg (NO.out HX.out) j9.out);have q2:y.node<s.length:=O;clear q1;by_cases q3:¬(y.must\/n.kind=10);(·have HX:Hi (¬fj s.length n y):=fun h=>q3 h.2.2.1;(obtain rfl:r=false:=by cases r;rfl;exact Ab (.inl (pM.out.1 X)) q3);(have q4:(n.kind !=10)=true:=by simp;exact fun e=>q3 (.inr e));clear q3;go_wp2;go_ret;exact cg (NO.out HX.out) j9.out);have q3:y.must\/n.kind=10:=Classical.not_not.1 q3;have jK:Hi (y.must\/n.kind=10):=q3;have q5:r=true\/(r=false/\(n.kind !=10)=false):=by
    cases r
    ·right;refine⟨X,?_⟩;rcases q3 with q3|q3;(·exact Bool.noConfusion (pM.out.2 q3));simp[q3]
    exact .inl X
   clear q3;by_cases q6:y.opt=true
   ·by_cases q7:y.dflt.size=0
    ·have e7:=jr q7;have HX:Hi (fj s.length n y):=⟨qJ,q2,jK.out,fun h=>h.2 q7⟩;clear q7;rw[q6]at y1;clear q6;rcases q5 with rfl|⟨rfl,q8⟩;(·go_wp2;go_roundw;(case rel=>exact⟨i+1,O,Gn,fR.out HX.out,j8.out⟩);exact Ms);go_wp2;go_roundw;(case rel=>exact⟨i+1,O,Gn,fR.out HX.out,j8.out⟩);exact Ms
    have e7:=gw (t:=y.dflt) O;have HX:Hi (¬fj s.length n y):=fun h=>h.2.2.2 ⟨q6,q7⟩;clear q7;rw[q6]at y1;clear q6;rcases q5 with rfl|⟨rfl,q8⟩;(·go_wp2;go_ret;exact cg (NO.out HX.out) j9.out);go_wp2;go_ret;exact cg (NO.out HX.out) j9.out
   (have qK:y.opt=false:=by simpa using q6);have HX:Hi (fj s.length n y):=⟨qJ,q2,jK.out,fun h=>q6 h.1⟩;rw[qK]at y1;clear q6 qK;rcases q5 with rfl|⟨rfl,q8⟩;(·go_wp2;go_roundw;(case rel=>exact⟨i+1,O,Gn,fR.out HX.out,j8.out⟩);exact Ms);go_wp2;go_roundw;(case rel=>exact⟨i+1,O,Gn,fR.out HX.out,j8.out⟩);exact Ms
  have aN:(n.kids.length:Int)<=i:=O;go_wp2;go_ret;exact ia ⟨aC.out,aD.out,HC.out,fun j h=>HA.out j O⟩ aM.out
 have DW:(n.kind==12)=false:=by simp[fC]
 by_cases bU:n.kind=13
 ·have LG:(n.kind==13)=true:=by simp[bU]
  by_cases hc:¬1<=n.kids.length;·(have HX:Hi (¬gp n.kind n.kids.length):=by show¬gp n.kind n.kids.length;unfold gp;rw[G bG,G O,ba bU];omega);have fP:(n.kids.length:Int)<1:=O;clear hc bG fZ fC bU;go_wp2;go_ret;exact cg (fun h=>HX.out h.2.2.1) sZ.out
  by_cases eU:¬n.kids.length<=8;·(have HX:Hi (¬gp n.kind n.kids.length):=by show¬gp n.kind n.kids.length;unfold gp;rw[G bG,G O,ba bU];omega);have fP:(8:Int)<n.kids.length:=O;clear eU bG fZ fC bU;go_wp2;go_ret;exact cg (fun h=>HX.out h.2.2.1) sZ.out
  have hc:1<=n.kids.length:=O;have eU:n.kids.length<=8:=O;have HC:Hi (gp n.kind n.kids.length):=by show gp n.kind n.kids.length;unfold gp;rw[G bG,G O,ba bU];omega
  have MH:n.kids.length<=8:=O;clear bG fZ fC bU;go_wp2;go_loopw [6] (fun vi wr=>∃i:Nat,i<=n.kids.length/\vi=I J i/\(∀j,j<i->fj s.length n (kd n j))/\Bw W0 wr) (fun vi _=>n.kids.length-(Io vi).toNat);case atStart=>exact⟨0,Lz,X,fun _ h=>Ab h (dh _),By⟩
  obtain⟨i,hi,rfl,iI,aT⟩:=hrel;have HA:Hi (∀j,j<i->fj s.length n (kd n j)):=iI;have HB:Hi (Bw W0 wr):=aT;obtain⟨d0,d3,nD⟩:=iW.out wr aT;have aM:Hi (Bw w wr):=nD;clear iI aT nD;by_cases aA:i<n.kids.length
  ·have aN:(i:Int)<n.kids.length:=O;obtain⟨kb,ko,rfl,aX⟩:=fN.out i aA;obtain⟨y,hy⟩:∃y,kd n i=y:=Ey;have HY:Hi (kd n i=y):=hy;(have aL:my w kb (ko+i*3) y:=by rw[<-hy];exact aX);obtain⟨k1,k2,k3⟩:=aL.below aM.out;clear hy aX aL;go_wp2_with fail;refine(HM.out _ y).mono ?_;rintro e w1 ⟨r,rfl,hr,hb1⟩;have pM:Hi (r=true↔y.must):=hr;have j8:Hi (Bw W0 w1):=Tm HB.out (dj hb1);have nO:Hi (w1.heap[wr.heap.size]? =U (C #[I J y.node,Bo y.opt,Y y.dflt] 55 (0,0))):=bc (bl wr _) hb1;obtain⟨f0,f3,rG⟩:=iW.out w1 j8.out;have j9:Hi (Bw w w1):=rG;(have y0:w1.cell? (D wr.heap.size 0 Z)=U (I J y.node):=by simp[Wc,nO.out]);(have y1:w1.cell? (D wr.heap.size 1 Z)=U (Bo y.opt):=by simp[Wc,nO.out]);(have y2:w1.cell? (D wr.heap.size 2 Z)=U (Y y.dflt):=by simp[Wc,nO.out]);clear hr hb1 rG d0 d3 k1 k2 k3;have NO:Hi (¬fj s.length n y->¬mw s.length n):=fun h h'=>h (HY.out▸h'.2.2.2 i aA);have fR:Hi (fj s.length n y->∀j,j<i+1->fj s.length n (kd n j)):=fun h j hj=>by
    by_cases e:j=i;(·subst e;rw[HY.out];exact h);exact HA.out j O
   by_cases q1:y.node<0;(·(have HX:Hi (¬fj s.length n y):=fun h=>by have:=h.1;omega);go_wp2;go_ret;exact cg (NO.out HX.out) j9.out);have qJ:0<=y.node:=O;by_cases q2:¬y.node<s.length;(·have HX:Hi (¬fj s.length n y):=fun h=>q2 h.2.1;have vP:(s.length:Int)<=y.node:=O;clear q1 q2;go_wp2;go_ret;exact cg (NO.out HX.out) j9.out);have q2:y.node<s.length:=O;clear q1;by_cases q3:¬(y.must\/n.kind=10);(·have HX:Hi (¬fj s.length n y):=fun h=>q3 h.2.2.1;(obtain rfl:r=false:=by cases r;rfl;exact Ab (.inl (pM.out.1 X)) q3);(have q4:(n.kind !=10)=true:=by simp;exact fun e=>q3 (.inr e));clear q3;go_wp2;go_ret;exact cg (NO.out HX.out) j9.out);have q3:y.must\/n.kind=10:=Classical.not_not.1 q3;have jK:Hi (y.must\/n.kind=10):=q3;have q5:r=true\/(r=false/\(n.kind !=10)=false):=by
    cases r
    ·right;refine⟨X,?_⟩;rcases q3 with q3|q3;(·exact Bool.noConfusion (pM.out.2 q3));simp[q3]
    exact .inl X
   clear q3;by_cases q6:y.opt=true
   ·by_cases q7:y.dflt.size=0
    ·have e7:=jr q7;have HX:Hi (fj s.length n y):=⟨qJ,q2,jK.out,fun h=>h.2 q7⟩;clear q7;rw[q6]at y1;clear q6;rcases q5 with rfl|⟨rfl,q8⟩;(·go_wp2;go_roundw;(case rel=>exact⟨i+1,O,Gn,fR.out HX.out,j8.out⟩);exact Ms);go_wp2;go_roundw;(case rel=>exact⟨i+1,O,Gn,fR.out HX.out,j8.out⟩);exact Ms
    have e7:=gw (t:=y.dflt) O;have HX:Hi (¬fj s.length n y):=fun h=>h.2.2.2 ⟨q6,q7⟩;clear q7;rw[q6]at y1;clear q6;rcases q5 with rfl|⟨rfl,q8⟩;(·go_wp2;go_ret;exact cg (NO.out HX.out) j9.out);go_wp2;go_ret;exact cg (NO.out HX.out) j9.out
   (have qK:y.opt=false:=by simpa using q6);have HX:Hi (fj s.length n y):=⟨qJ,q2,jK.out,fun h=>q6 h.1⟩;rw[qK]at y1;clear q6 qK;rcases q5 with rfl|⟨rfl,q8⟩;(·go_wp2;go_roundw;(case rel=>exact⟨i+1,O,Gn,fR.out HX.out,j8.out⟩);exact Ms);go_wp2;go_roundw;(case rel=>exact⟨i+1,O,Gn,fR.out HX.out,j8.out⟩);exact Ms
  have aN:(n.kids.length:Int)<=i:=O;go_wp2;go_ret;exact ia ⟨aC.out,aD.out,HC.out,fun j h=>HA.out j O⟩ aM.out
 have LG:(n.kind==13)=false:=by simp[bU]
 by_cases hc:¬n.kids.length=0;·(have HX:Hi (¬gp n.kind n.kids.length):=by show¬gp n.kind n.kids.length;unfold gp;rw[G bG,G O,G bU];exact hc);(have fP:((n.kids.length:Int)!=0)=true:=by rw[ln];omega);clear hc bG fZ fC bU;go_wp2;go_ret;exact cg (fun h=>HX.out h.2.2.1) sZ.out
 have hc:n.kids.length=0:=O;have HC:Hi (gp n.kind n.kids.length):=by show gp n.kind n.kids.length;unfold gp;rw[G bG,G O,G bU];exact hc
 have fP:((n.kids.length:Int)!=0)=false:=by simp[hc]
 have EK:(n.kids.length:Int)<=0:=O;have HZ:Hi (n.kids.length=0):=hc;clear bG fZ fC bU hc;go_wp2;refine rh 1 ?_;rw[js];go_wp2;go_ret;exact ia ⟨aC.out,aD.out,HC.out,fun j h=>Ab h (by have:=HZ.out;omega)⟩ sZ.out
