/- Parts. -/
import Derived.Test.YtkkicodfpekbgaaGreatDoorJc4
import Derived.Test.YtkkicodfpekbgaaGreatDoorJc0
open Go.Value renaming int->I,slice->S,bool->Bo
open Go.IntKind renaming i64->J
open Go.Obj renaming cells->C
open Option renaming some->U,none->Z
open Go renaming World->M,Calls->Cs,Addr->Ad
open Go.RowKit renaming Below->H,intOf->Io,Hid->Hi
open Go.World renaming cell?->Wc
open _root_ renaming Option->Oo,List->Ls
set_option linter.all false
set_option maxRecDepth 100000
set_option maxHeartbeats 8000000
namespace Go.Proofs.YtkkicodfpekbgaaGreatDoor
open Go.Proofs.Tryz
open Go.RowKit
theorem aiE(s:Ls Nd)(a:Oo Ad)(cp x:Nat)(ka:Oo Ad)(kc:Nat)(w:M)(hs:ew w a s)(hw:qg s)(dR:xw s)(hx:x<s.length)(hn:s.length<=40)(aK:bn w ka (nd s x).kids)(CX:(nd s x).kids.length<=8):Cs prog 38 #[S a s.length cp,Dm (nd s x) ka kc] w fun e w'=>dw (Told (lz s) (nd s x)) w e w':=by
 have HC:Hi (∀(wr:M) (i k:Nat),Bw w wr->i<s.length->k<s.length->Cs prog 68 #[S a s.length cp,I J i,I J k] wr fun e w'=>dw (lz s i k) wr e w'):=fun wr i k hb hi hk=>adl s a cp i k wr (hs.below hb) hw dR hi hk hn;have HM:Hi _:=fun wr k=>Xi k wr;have fN:Hi _:=aK;have kY:Hi (∀j,j<(nd s x).kids.length->∃t:Nat,(kd (nd s x) j).node=t/\t<s.length):=fun j hj=>by have:=hw x hx (kd (nd s x) j) (by unfold kd;rw[dy,dz hj];exact me hj);exact⟨(kd (nd s x) j).node.toNat,(vh this.1).symm,O⟩
 clear hs hw dR aK;unfold Dm;generalize nd s x=n at*;go_enter func38,ntmps38;go_wp2;obtain⟨B,hB⟩:∃B,B=w.heap.size:=Ez
 have iW:Hi (∀wr,H (w.alloc (C #[I J n.kind,I J n.tag,I J n.mode,S ka n.kids.length kc] 58)).heap.size (w.alloc (C #[I J n.kind,I J n.tag,I J n.mode,S ka n.kids.length kc] 58)) wr->
  wr.cell? ⟨B,0,Z⟩=U (I J n.kind)/\wr.cell? ⟨B,3,Z⟩=U (S ka n.kids.length kc)/\Bw w wr):=fun wr h=>by
  have h1:=bc (bl w _) h
  subst hB
  exact⟨by simp[Wc,h1],by simp[Wc,h1],dj h⟩
 generalize(w.alloc _)=W0 at*;rw[<-hB];clear hB;go_loopw [5] (fun vi wr=>∃i:Nat,i<=n.kids.length/\vi=I J i/\(∀i',i'<i->yg (lz s) n i' n.kids.length)/\Bw W0 wr) (fun vi _=>n.kids.length-(Io vi).toNat);case atStart=>exact⟨0,Lz,X,fun _ h=>Ab h (dh _),By⟩
 obtain⟨i,hi,rfl,iI,aT⟩:=hrel;have HA:Hi _:=iI;have HB:Hi (Bw W0 wr):=aT;obtain⟨c0,c3,nD⟩:=iW wr aT;have aM:Hi (Bw w wr):=nD;clear iI aT nD;by_cases aA:i<n.kids.length
 ·have aN:(i:Int)<n.kids.length:=O;obtain⟨kb,ko,rfl,aX⟩:=fN i aA;obtain⟨k1,k2,k3⟩:=aX.below aM;obtain⟨ti,MV,bC⟩:=kY i aA;have K5:Hi ((kd n i).node=ti):=MV;have dV:Hi (my w kb (ko+i*3) (kd n i)):=aX;clear MV aX;obtain⟨y,hy⟩:∃y,n.kids.getD i fy=y:=Ey;rw[hy]at k1 k2 k3;have HY:Hi (kd n i=y):=hy;clear hy;go_wp2_with fail;refine(HM _ y).mono ?_;rintro e w1 ⟨r,rfl,hr,hb1⟩;have HR:Hi (r=true↔(kd n i).must):=by show r=true↔(kd n i).must;rw[HY.out];exact hr
  have aC:Hi _:=Tm HB hb1;obtain⟨d0,d3,rG⟩:=iW w1 aC;clear hr hb1 c0 c3 k1 k2 k3 rG;have gP:(n.stops (kd n i)/\(n.kind==10)=true/\r=true)\/(¬n.stops (kd n i)/\(n.kind==10)=true/\r=false)\/(¬n.stops (kd n i)/\(n.kind==10)=false):=by
   by_cases e:n.kind=10
   ·cases r;(·exact .inr (.inl ⟨fun h=>Bool.noConfusion (HR.2 h.2),by simp[e],X⟩));exact .inl ⟨⟨e,HR.1 X⟩,by simp[e],X⟩
   exact .inr (.inr ⟨fun h=>e h.1,by simp[e]⟩)
  rcases gP with⟨fF,AF,rfl⟩|⟨fF,AF,rfl⟩|⟨fF,AF⟩
  ·have fH:Hi _:=fF;clear fF;go_wp2;go_roundw
   case rel=>exact⟨i+1,O,Gn,fun i' h=>by
    by_cases e:i'=i;(·subst e;exact .inl fH);exact HA i' O,aC⟩
   exact Ms
  ·have fH:Hi _:=fF;(have N5:Hi (n.kind=10):=by show n.kind=10;simpa using AF);clear fF;go_wp2;go_loopw [7,8] (fun vo vk wx=>∃(k:Nat) (ov:Bool),i<k/\k<=n.kids.length/\vk=I J k/\vo=Bo ov/\Hi (ov=true↔∃j,i<j/\j<k/\n.stops (kd n j))/\Hi (∀k',i<k'->k'<k->(∀j,i<j->j<k'->¬n.stops (kd n j))->¬lz s (kd n i).node.toNat (kd n k').node.toNat)/\Hi (Bw W0 wx)) (fun _ vk _=>n.kids.length-(Io vk).toNat);(case atStart=>exact⟨i+1,false,O,O,Gn,X,⟨fun h=>Bool.noConfusion h,fun⟨j,h1,h2,_⟩=>Ab h1 O⟩,fun k' h1 h2=>Ab h1 O,aC⟩);obtain⟨k,ov,AD,hk,rfl,rfl,BP,HT,fG⟩:=hrel;obtain⟨c0,c3,IV⟩:=iW wr fG;have vR:Hi _:=IV;clear IV d0 d3;by_cases CY:k<n.kids.length
   ·have MG:(k:Int)<n.kids.length:=O;cases ov
    ·obtain⟨iM,sQ,e2,JW⟩:=fN k CY;(obtain⟨rfl,rfl⟩:kb=iM/\ko=sQ:=by injection e2 with e2;injection e2 with e3 e4 _;exact⟨e3,e4⟩);obtain⟨tk,sN,RV⟩:=kY k CY;have k1:=(dV.below vR).node;rw[K5.out]at k1;obtain⟨z,hz⟩:∃z,kd n k=z:=Ey;have HZ:Hi _:=hz;(have FU:Hi (my w kb (ko+k*3) z):=by show my w kb (ko+k*3) z;rw[<-hz];exact JW);rw[hz]at sN;have z1:=(FU.below vR).node;rw[sN]at z1;have oG:Hi _:=sN;clear e2 JW hz sN;go_wp2_with fail;go_region_with (go_at_call 68;refine gd (HC _ ti tk ?_ bC RV) ?_;(exact Go.below_drewN vR 1);rintro e w2 ⟨r2,rfl,gY,hb2⟩);all_goals
      have eL:Hi _:=gY;have aR:Hi (Bw W0 w2):=(Go.below_drewN fG 1).trans (hb2.mono (Go.below_drewN fG 1).size);obtain⟨e0,e3,CM⟩:=iW w2 aR;have FP:Hi _:=CM;obtain⟨SJ,SK,SL⟩:=FU.below CM;have mH:Hi (∀j,i<j->j<k->¬n.stops (kd n j)):=fun j h1 h2 h3=>Bool.noConfusion (BP.2 ⟨j,h1,h2,h3⟩);(have oU:Hi (lz s (kd n i).node.toNat (kd n k).node.toNat↔lz s ti tk):=by show lz s (kd n i).node.toNat (kd n k).node.toNat↔lz s ti tk;rw[HZ,K5,oG.out];rfl);clear gY hb2 CM c0 c3 k1 z1;cases r2
      ·go_wp2_with fail;refine(HM _ z).mono ?_;rintro e w4 ⟨r4,rfl,mC,hb4⟩;have tH:Hi _:=mC;have aJ:Hi (Bw W0 w4):=Tm aR hb4;obtain⟨f0,f3,QI⟩:=iW w4 aJ;have OQ:Hi (∀k',i<k'->k'<k+1->(∀j,i<j->j<k'->¬n.stops (kd n j))->¬lz s (kd n i).node.toNat (kd n k').node.toNat):=fun k' h1 h2 h3=>by
        by_cases ek:k'=k;(·subst ek;exact fun h4=>Bool.noConfusion (eL.2 (oU.1 h4)));exact HT k' h1 O h3
       have OI:Hi (r4=true↔∃j,i<j/\j<k+1/\n.stops (kd n j)):=by
        show r4=true↔∃j,i<j/\j<k+1/\n.stops (kd n j);constructor;(·intro h;exact⟨k,AD,O,by rw[HZ.out];exact⟨N5,tH.1 h⟩⟩);rintro⟨j,h1,h2,h3⟩;by_cases ej:j=k;(·subst ej;rw[HZ.out]at h3;exact tH.2 h3.2);exact Ab h3 (mH j h1 O)
       clear mC hb4 QI e0 e3 SJ SK SL;go_wp2;go_roundw;(case rel=>exact⟨k+1,r4,O,O,Gn,X,OI,OQ,aJ⟩);exact Ms
      go_wp2;go_ret;exact cg (fun h=>by
       rcases h i aA with h'|h';(·exact fH h');exact h' k AD CY mH (oU.2 (eL.1 trivial))) FP
    have BD:Hi (yg (lz s) n i n.kids.length):= .inr (fun k' h1 h2 h3=>by
     obtain⟨j,j1,j2,j3⟩:=BP.1 X;by_cases ej:j<k';(·exact Ab j3 (h3 j j1 ej));exact HT k' h1 O h3)
    go_wp2;go_roundw
    case rel=>exact⟨i+1,O,Gn,fun i' h=>by
     by_cases e:i'=i;(·subst e;exact BD);exact HA i' O,fG⟩
    exact Ms
   have MG:(n.kids.length:Int)<=k:=O;have BD:Hi (yg (lz s) n i n.kids.length):= .inr (fun k' h1 h2 h3=>HT k' h1 O h3);go_wp2;go_roundw
   case rel=>exact⟨i+1,O,Gn,fun i' h=>by
    by_cases e:i'=i;(·subst e;exact BD);exact HA i' O,fG⟩
   exact Ms
  have fH:Hi (¬n.stops (kd n i)):=fF;have N5:Hi (¬n.kind=10):=by show¬n.kind=10;simpa using AF
  clear fF;go_wp2;go_loopw [7,8] (fun vo vk wx=>∃(k:Nat) (ov:Bool),i<k/\k<=n.kids.length/\vk=I J k/\vo=Bo ov/\Hi (ov=true↔∃j,i<j/\j<k/\n.stops (kd n j))/\Hi (∀k',i<k'->k'<k->(∀j,i<j->j<k'->¬n.stops (kd n j))->¬lz s (kd n i).node.toNat (kd n k').node.toNat)/\Hi (Bw W0 wx)) (fun _ vk _=>n.kids.length-(Io vk).toNat);case atStart=>exact⟨i+1,false,O,O,Gn,X,⟨fun h=>Bool.noConfusion h,fun⟨j,h1,h2,_⟩=>Ab h1 O⟩,fun k' h1 h2=>Ab h1 O,aC⟩
  obtain⟨k,ov,AD,hk,rfl,rfl,BP,HT,fG⟩:=hrel;obtain⟨c0,c3,IV⟩:=iW wr fG;have vR:Hi (Bw w wr):=IV;clear IV d0 d3;by_cases CY:k<n.kids.length
  ·have MG:(k:Int)<n.kids.length:=O;cases ov
   ·obtain⟨iM,sQ,e2,JW⟩:=fN k CY;(obtain⟨rfl,rfl⟩:kb=iM/\ko=sQ:=by injection e2 with e2;injection e2 with e3 e4 _;exact⟨e3,e4⟩);obtain⟨tk,sN,RV⟩:=kY k CY;have k1:=(dV.below vR).node;rw[K5.out]at k1;obtain⟨z,hz⟩:∃z,kd n k=z:=Ey;have HZ:Hi _:=hz;(have FU:Hi (my w kb (ko+k*3) z):=by show my w kb (ko+k*3) z;rw[<-hz];exact JW);rw[hz]at sN;have z1:=(FU.below vR).node;rw[sN]at z1;have oG:Hi _:=sN;clear e2 JW hz sN;go_wp2_with fail;go_region_with (go_at_call 68;refine gd (HC _ ti tk ?_ bC RV) ?_;(exact Go.below_drewN vR 1);rintro e w2 ⟨r2,rfl,gY,hb2⟩);all_goals
     have eL:Hi _:=gY;have aR:Hi (Bw W0 w2):=(Go.below_drewN fG 1).trans (hb2.mono (Go.below_drewN fG 1).size);obtain⟨e0,e3,CM⟩:=iW w2 aR;have FP:Hi _:=CM;obtain⟨SJ,SK,SL⟩:=FU.below CM;have mH:Hi (∀j,i<j->j<k->¬n.stops (kd n j)):=fun j h1 h2 h3=>Bool.noConfusion (BP.2 ⟨j,h1,h2,h3⟩);(have oU:Hi (lz s (kd n i).node.toNat (kd n k).node.toNat↔lz s ti tk):=by show lz s (kd n i).node.toNat (kd n k).node.toNat↔lz s ti tk;rw[HZ,K5,oG.out];rfl);clear gY hb2 CM c0 c3 k1 z1;cases r2
     ·go_wp2_with fail;refine(HM _ z).mono ?_;rintro e w4 ⟨r4,rfl,mC,hb4⟩;have tH:Hi _:=mC;have aJ:Hi _:=Tm aR hb4;obtain⟨f0,f3,QI⟩:=iW w4 aJ;have OQ:Hi (∀k',i<k'->k'<k+1->(∀j,i<j->j<k'->¬n.stops (kd n j))->¬lz s (kd n i).node.toNat (kd n k').node.toNat):=fun k' h1 h2 h3=>by
       by_cases ek:k'=k;(·subst ek;exact fun h4=>Bool.noConfusion (eL.2 (oU.1 h4)));exact HT k' h1 O h3
      have OI:Hi (false=true↔∃j,i<j/\j<k+1/\n.stops (kd n j)):=by
       show false=true↔∃j,i<j/\j<k+1/\n.stops (kd n j);constructor;(·intro h;exact Bool.noConfusion h);rintro⟨j,h1,h2,h3⟩;by_cases ej:j=k;(·subst ej;rw[HZ.out]at h3;exact Ab h3.1 N5);exact Ab h3 (mH j h1 O)
      clear mC hb4 QI e0 e3 SJ SK SL;go_wp2;go_roundw;(case rel=>exact⟨k+1,false,O,O,Gn,X,OI,OQ,aJ⟩);exact Ms
     go_wp2;go_ret;exact cg (fun h=>by
      rcases h i aA with h'|h';(·exact fH h');exact h' k AD CY mH (oU.2 (eL.1 trivial))) FP
   have BD:Hi (yg (lz s) n i n.kids.length):= .inr (fun k' h1 h2 h3=>by
    obtain⟨j,j1,j2,j3⟩:=BP.1 X;by_cases ej:j<k';(·exact Ab j3 (h3 j j1 ej));exact HT k' h1 O h3)
   go_wp2;go_roundw
   case rel=>exact⟨i+1,O,Gn,fun i' h=>by
    by_cases e:i'=i;(·subst e;exact BD);exact HA i' O,fG⟩
   exact Ms
  have MG:(n.kids.length:Int)<=k:=O;have BD:Hi (yg (lz s) n i n.kids.length):= .inr (fun k' h1 h2 h3=>HT k' h1 O h3);go_wp2;go_roundw
  case rel=>exact⟨i+1,O,Gn,fun i' h=>by
   by_cases e:i'=i;(·subst e;exact BD);exact HA i' O,fG⟩
  exact Ms
 have aN:(n.kids.length:Int)<=i:=O;go_wp2;go_ret;exact ia (fun i' h=>HA i' O) aM
