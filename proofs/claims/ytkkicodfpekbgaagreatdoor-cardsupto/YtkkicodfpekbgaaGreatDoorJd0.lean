/-
schemas.comesBack, isShaped: what they answer.
-/
import Derived.Test.YtkkicodfpekbgaaGreatDoorJc1
import Derived.Test.YtkkicodfpekbgaaGreatDoorJc0
import Derived.Deep.DeepCutAuto
open Go.Value renaming int->I,string->Y,slice->S,bool->Bo,agg->Ag
open Go.IntKind renaming i64->J
open Go.Obj renaming cells->C
open Option renaming some->U,none->Z
open Go renaming World->M,Calls->Cs,Addr->Ad
open Go.RowKit renaming Below->H,intOf->Io,Hid->Hi
open Go.World renaming cell?->Wc
open _root_ renaming Option->Oo,List->Ls
open Go.Addr renaming mk->D
set_option linter.unusedSimpArgs false
set_option linter.unusedVariables false
set_option maxRecDepth 100000
set_option maxHeartbeats 8000000
namespace Go.Proofs.YtkkicodfpekbgaaGreatDoor
open Go.Proofs.Tryz
open Go.RowKit
theorem r9(s:Ls Nd)(a:Oo Ad)(c i:Nat)(w:M)(hs:ju w a s)(hw:gq s)(htg:Aq s)(hi:i<s.length)(hn:s.length<=40):Cs prog 63 #[S a s.length c,I J i] w fun e w'=>dB (kV s i) w e w':=by
 have HC:Hi (Cs prog 96 #[S a s.length c,I J i] w fun e w'=>Fs s i w e w'):=tw s a c i w hs hw htg hi hn;clear hs hw htg;go_enter func63,ntmps63;go_wp2_with fail;refine HC.mono ?_;rintro e w1 ⟨v,l,bk,rfl,_,hb,_,_,hbk⟩;have HB:Hi (H w.heap.size w w1):=hb;have HR:Hi (bk=true↔kV s i):=hbk;clear hb hbk;go_wp2;go_ret;exact iD HR HB
theorem ll(n:Nd):(¬iN n/\¬il n)↔(1<=n.kind/\n.kind<=14/\cy n):=by unfold iN il cy;omega
theorem AL(k:Int)(m:Nat):dr k m↔((vC k).1<=(m:Int)/\(m:Int)<=(vC k).2):=by
 unfold dr vC;repeat' split
 all_goals simp only;omega
theorem ur(m:Nat)(n:Nd)(ka:Oo Ad)(kc:Nat)(w:M)(hka:be w ka n.kids)(hkm:n.kids.length<=maxLen):Cs prog 61 #[Ag #[I J n.kind,I J n.tag,I J n.mode,S ka n.kids.length kc],I J m] w fun e w'=>dB (fw m n) w e w':=by
 have HM:Hi _:=fun wr k=>o7 k wr;have HT:Hi _:=fun wr=>uv n ka kc wr;have HKB:Hi _:=fun wr=>se n.kind wr;have HKI:Hi _:=hka;clear hka;by_cases h1:n.kind<1
 ·have HX:Hi (¬fw m n):=fun h=>h.1 (.inl h1);go_enter func61,ntmps61;go_wp2;go_ret;exact bc HX Be
 have h1':1<=n.kind:=O;by_cases h2:14<n.kind
 ·have HX:Hi (¬fw m n):=fun h=>h.1 (.inr (.inl h2));clear h1;go_enter func61,ntmps61;go_wp2;go_ret;exact bc HX Be
 have h2':n.kind<=14:=O;clear h1 h2;go_enter func61,ntmps61;go_wp2_with fail;refine(HT _).mono ?_;rintro e w1 ⟨r,rfl,hr,hb1⟩;have HR:Hi _:=hr;have HB1:Hi _:=aT hb1;obtain⟨Bn,hBn⟩:∃Bn,Bn=w.heap.size:=Ez;have HBN:Hi _:=hBn;have HG1:Hi (w1.heap[Bn]? =U (C #[I J n.kind,I J n.tag,I J n.mode,S ka n.kids.length kc] 58 (0,0))):=by rw[hBn];exact ax (aA w _) hb1
 have q0:w1.cell? (D Bn 0 Z)=U (I J n.kind):=by simp[Wc,HG1.out]
 have q3:w1.cell? (D Bn 3 Z)=U (S ka n.kids.length kc):=by simp[Wc,HG1.out]
 rw[<-hBn];clear hr hb1 hBn;cases r
 ·go_wp2;go_ret;exact bc (fun h=>Bool.noConfusion (HR.2 ((ll n).1 ⟨h.1,h.2.1⟩).2.2)) HB1
 have HTG:Hi (¬iN n/\¬il n):=(ll n).2 ⟨h1',h2',HR.1 X⟩;go_wp2_with fail;refine(HKB _).mono ?_;rintro e w2 ⟨rfl,hb2⟩;have HB2:Hi _:=HB1.trans (hb2.mono HB1.size);have HG2:Hi _:=ax HG1 hb2;have p0:w2.cell? (D Bn 0 Z)=U (I J n.kind):=by simp[Wc,HG2.out]
 have p3:w2.cell? (D Bn 3 Z)=U (S ka n.kids.length kc):=by simp[Wc,HG2.out]
 have HCI:=AL n.kind n.kids.length;have HCH:Hi _:=HCI;generalize(vC n.kind).1=lo at*;generalize(vC n.kind).2=hi at*;clear hb2 q0 q3 HCI;by_cases c1:(n.kids.length:Int)<lo
 ·have HX:Hi (¬dr n.kind n.kids.length):=fun q=>by have:=HCH.1 q;omega
  go_wp2;go_ret;exact bc (fun h=>HX h.2.2.1) HB2
 have c1':lo<=(n.kids.length:Int):=O;by_cases c2:hi<(n.kids.length:Int)
 ·have HX:Hi (¬dr n.kind n.kids.length):=fun q=>by have:=HCH.1 q;omega
  clear c1;go_wp2;go_ret;exact bc (fun h=>HX h.2.2.1) HB2
 have c2':(n.kids.length:Int)<=hi:=O;have HC:Hi (dr n.kind n.kids.length):=HCH.2 ⟨c1',c2'⟩;have hk8:n.kids.length<=8:=by have:=HC.out;unfold dr at this;(repeat' split at this);all_goals omega
 clear c1 c2;go_wp2;go_loopw [43] (fun vi wr=>∃i:Nat,i<=n.kids.length/\vi=I J i/\(∀j,j<i->cX m n (kd n j))/\H w2.heap.size w2 wr) (fun vi _=>n.kids.length-(Io vi).toNat);case atStart=>exact⟨0,Lz,X,fun _ h=>Ab h (aO _),By⟩
 obtain⟨i,hi',rfl,hall,hbr⟩:=hrel;have HA:Hi _:=hall;have HB:Hi _:=hbr;have HBW:Hi _:=HB2.trans (hbr.mono HB2.size);have HG3:Hi (wr.heap[Bn]? =U (C #[I J n.kind,I J n.tag,I J n.mode,S ka n.kids.length kc] 58 (0,0))):=ax HG2 hbr;clear hall hbr;by_cases hlt:i<n.kids.length
 ·have hlt':(i:Int)<n.kids.length:=O;obtain⟨kb,ko,rfl,kcl⟩:=HKI i hlt;obtain⟨y,hy⟩:∃y,kd n i=y:=Ey;have HY:Hi (kd n i=y):=hy;have hkc:dt w kb (ko+i*3) y:=by rw[<-hy];exact kcl
  obtain⟨k1,k2,k3⟩:=hkc.below HBW;have HB6:Hi (∀o,H w.heap.size w (wr.alloc o)):=fun o=>HBW.alloc HBW.size o;have NO:Hi (¬cX m n y->¬fw m n):=fun h h'=>h (HY▸h'.2.2.2 i hlt);have YES:Hi (cX m n y->∀j,j<i+1->cX m n (kd n j)):=fun h j hj=>by
   by_cases e:j=i
   ·subst e;rw[HY.out];exact h
   exact HA j O
  clear hy kcl hkc;by_cases q1:y.node<0
  ·(have HX:Hi (¬cX m n y):=fun h=>by have:=h.1;omega);go_wp2;go_ret;exact bc (NO HX) (HB6 _)
  have q1':0<=y.node:=O;by_cases q2:¬y.node<m
  ·have HX:Hi (¬cX m n y):=fun h=>q2 h.2.1;have q2':(m:Int)<=y.node:=O;clear q1 q2;go_wp2;go_ret;exact bc (NO HX) (HB6 _)
  have q2':y.node<m:=O;clear q1 q2;go_wp2_with fail;refine(HM _ y).mono ?_;rintro e w3 ⟨r,rfl,hr,hb3⟩;have HRM:Hi _:=hr;have HB3:Hi _:=HB.trans ((aT hb3).mono HB.size);have HBW3:Hi _:=HBW.trans ((aT hb3).mono HBW.size);have HG4:Hi _:=ax HG3 (aT hb3);have HYB:Hi (w3.heap[wr.heap.size]? =U (C #[I J y.node,Bo y.opt,Y y.dflt] 55 (0,0))):=ax (aA wr _) hb3;have f0:w3.cell? (D Bn 0 Z)=U (I J n.kind):=by simp[Wc,HG4.out]
  have y1:w3.cell? (D wr.heap.size 1 Z)=U (Bo y.opt):=by simp[Wc,HYB.out]
  have y2:w3.cell? (D wr.heap.size 2 Z)=U (Y y.dflt):=by simp[Wc,HYB.out]
  clear hr hb3 k1 k2 k3;by_cases q3:¬(y.must\/n.kind=10)
  ·have HX:Hi (¬cX m n y):=fun h=>q3 h.2.2.1;obtain rfl:r=true:=HRM.2 (fun q=>q3 (.inl q));(have q4:(n.kind !=10)=true:=by simp;exact fun e=>q3 (.inr e));clear q3;go_wp2;go_ret;exact bc (NO HX) HBW3
  have q3:y.must\/n.kind=10:=Classical.not_not.1 q3;have HQ3:Hi _:=q3;have q5:r=false\/(r=true/\(n.kind !=10)=false):=by
   cases r
   ·exact .inl X
   right;refine⟨X,?_⟩;rcases q3 with q3|q3
   ·exact Ab q3 (HRM.1 X)
   simp[q3]
  clear q3;by_cases q6:y.opt=true
  ·by_cases q7:y.dflt.size=0
   ·have e7:=gJ q7;have HX:Hi (cX m n y):=⟨q1',q2',HQ3,fun h=>h.2 q7⟩;clear q7;rw[q6]at y1;clear q6;rcases q5 with rfl|⟨rfl,q8⟩
    ·go_wp2;go_roundw;case rel=>exact⟨i+1,O,Gn,YES HX,HB3⟩
     case measure=>exact Ms
    go_wp2;go_roundw;case rel=>exact⟨i+1,O,Gn,YES HX,HB3⟩
    case measure=>exact Ms
   have e7:=dR (t:=y.dflt) O;have HX:Hi (¬cX m n y):=fun h=>h.2.2.2 ⟨q6,q7⟩;clear q7;rw[q6]at y1;clear q6;rcases q5 with rfl|⟨rfl,q8⟩
   ·go_wp2;go_ret;exact bc (NO HX) HBW3
   go_wp2;go_ret;exact bc (NO HX) HBW3
  have q6':y.opt=false:=by simpa using q6
  have HX:Hi (cX m n y):=⟨q1',q2',HQ3,fun h=>q6 h.1⟩;rw[q6']at y1;clear q6 q6';rcases q5 with rfl|⟨rfl,q8⟩
  ·go_wp2;go_roundw;case rel=>exact⟨i+1,O,Gn,YES HX,HB3⟩
   case measure=>exact Ms
  go_wp2;go_roundw;case rel=>exact⟨i+1,O,Gn,YES HX,HB3⟩
  case measure=>exact Ms
 have hlt':(n.kids.length:Int)<=i:=O;go_wp2;go_ret;exact bS ⟨HTG.1,HTG.2,HC,fun j h=>HA j O⟩ HBW
end Go.Proofs.YtkkicodfpekbgaaGreatDoor
