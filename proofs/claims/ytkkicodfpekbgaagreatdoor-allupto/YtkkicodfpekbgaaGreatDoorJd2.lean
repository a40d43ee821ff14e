/- Parts. -/
import Derived.Test.YtkkicodfpekbgaaGreatDoorJc0
import Derived.Deep.DeepCutAuto
open Go.Value renaming int->I,string->Y,slice->S,bool->Bo,agg->Ag
open Go.IntKind renaming i64->J
open Go.Obj renaming cells->C
open Option renaming some->U,none->Z
open Go renaming World->M,Calls->Cs,Addr->Ad
open Go.World renaming cell?->Wc
open Go.RowKit renaming intOf->Io,Hid->Hi
open _root_ renaming Option->Oo,List->Ls
open Go.Addr renaming mk->D
set_option linter.all false
set_option maxRecDepth 100000
set_option maxHeartbeats 8000000
namespace Go.Proofs.YtkkicodfpekbgaaGreatDoor
open Go.Proofs.Tryz
open Go.RowKit
theorem adk(s:Ls Nd)(a:Oo Ad)(c i:Nat)(w:M)(hs:ew w a s)(hw:qg s)(fX:Cw s)(hi:i<s.length)(hn:s.length<=40):Cs prog 63 #[S a s.length c,I J i] w fun e w'=>dw (se s i) w e w':=by
 have HC:Hi (Cs prog 96 #[S a s.length c,I J i] w fun e w'=>Mc s i w e w'):=Yq s a c i w hs hw fX hi hn;clear hs hw fX;go_enter func63,ntmps63;go_wp2_with fail;refine HC.mono ?_;rintro e w1 ⟨v,l,bk,rfl,_,(HB:Hi _),_,_,(HR:Hi _)⟩;go_wp2;go_ret;exact yv HR HB
theorem Kx(n:Nd):(¬lk n/\¬kf n)↔(1<=n.kind/\n.kind<=14/\fx n):=by unfold lk kf fx;omega
theorem ado(k:Int)(m:Nat):gp k m↔((qi k).1<=(m:Int)/\(m:Int)<=(qi k).2):=by
 unfold gp qi;repeat' split
 all_goals simp only;omega
theorem afM(m:Nat)(n:Nd)(ka:Oo Ad)(kc:Nat)(w:M)(aK:bn w ka n.kids)(dK:n.kids.length<=maxLen):Cs prog 61 #[Ag #[I J n.kind,I J n.tag,I J n.mode,S ka n.kids.length kc],I J m] w fun e w'=>dw (mw m n) w e w':=by
 have HM:Hi _:=fun wr k=>Xc k wr;have HT:Hi _:=fun wr=>afN n ka kc wr;have HKB:Hi _:=fun wr=>afY n.kind wr;have fN:Hi _:=aK;clear aK;by_cases h1:n.kind<1;·have HX:Hi (¬mw m n):=fun h=>h.1 (.inl h1);go_enter func61,ntmps61;go_wp2;go_ret;exact cg HX Be
 have iH:1<=n.kind:=O;by_cases h2:14<n.kind;·have HX:Hi (¬mw m n):=fun h=>h.1 (.inr (.inl h2));clear h1;go_enter func61,ntmps61;go_wp2;go_ret;exact cg HX Be
 have kG:n.kind<=14:=O;clear h1 h2;go_enter func61,ntmps61;go_wp2_with fail;refine(HT _).mono ?_;rintro e w1 ⟨r,rfl,(HR:Hi _),hb1⟩;have aC:Hi _:=dj hb1;obtain⟨Bn,tP⟩:∃Bn,Bn=w.heap.size:=Ez;have aV:Hi (w1.heap[Bn]? =U (C #[I J n.kind,I J n.tag,I J n.mode,S ka n.kids.length kc] 58 (0,0))):=by rw[tP];exact bc (bl w _) hb1
 obtain⟨q0, -, -,q3⟩:=fi aV;rw[<-tP];clear hb1 tP;cases r;·go_wp2;go_ret;exact cg (fun h=>Bool.noConfusion (HR.2 ((Kx n).1 ⟨h.1,h.2.1⟩).2.2)) aC
 have DN:Hi (¬lk n/\¬kf n):=(Kx n).2 ⟨iH,kG,HR.1 X⟩;go_wp2_with fail;refine(HKB _).mono ?_;rintro e w2 ⟨rfl,hb2⟩;have aD:Hi _:=Tm aC hb2;have cJ:Hi _:=bc aV hb2;have p3:w2.cell? (D Bn 3 Z)=U (S ka n.kids.length kc):=by simp[Wc,cJ.out]
 have TD:=ado n.kind n.kids.length;have kV:Hi _:=TD;generalize(qi n.kind).1=lo at*;generalize(qi n.kind).2=hi at*;clear hb2 q0 q3 TD;by_cases c1:(n.kids.length:Int)<lo;·(have HX:Hi (¬gp n.kind n.kids.length):=fun q=>by have:=kV.1 q;omega);go_wp2;go_ret;exact cg (fun h=>HX h.2.2.1) aD
 have LA:lo<=(n.kids.length:Int):=O;by_cases c2:hi<(n.kids.length:Int);·(have HX:Hi (¬gp n.kind n.kids.length):=fun q=>by have:=kV.1 q;omega);clear c1;go_wp2;go_ret;exact cg (fun h=>HX h.2.2.1) aD
 have LB:(n.kids.length:Int)<=hi:=O;have HC:Hi (gp n.kind n.kids.length):=kV.2 ⟨LA,LB⟩;have gA:n.kids.length<=8:=by have:=HC.out;unfold gp at this;(repeat' split at this);all_goals omega
 clear c1 c2;go_wp2;go_loopw [43] (fun vi wr=>∃i:Nat,i<=n.kids.length/\vi=I J i/\(∀j,j<i->fj m n (kd n j))/\Bw w2 wr) (fun vi _=>n.kids.length-(Io vi).toNat);case atStart=>exact⟨0,Lz,X,fun _ h=>Ab h (dh _),By⟩
 obtain⟨i,lC,rfl,(HA:Hi _),aT⟩:=hrel;have HB:Hi _:=aT;have aM:Hi _:=Tm aD aT;have gQ:Hi (wr.heap[Bn]? =U (C #[I J n.kind,I J n.tag,I J n.mode,S ka n.kids.length kc] 58 (0,0))):=bc cJ aT;clear aT;by_cases aA:i<n.kids.length
 ·have aN:(i:Int)<n.kids.length:=O;obtain⟨kb,ko,rfl,aX⟩:=fN i aA;obtain⟨y,hy⟩:∃y,kd n i=y:=Ey;have HY:Hi (kd n i=y):=hy;have aL:my w kb (ko+i*3) y:=by rw[<-hy];exact aX
  obtain⟨k1,k2,k3⟩:=aL.below aM;have bB:Hi (∀o,Bw w (wr.alloc o)):=fun o=>aM.alloc aM.size o;have NO:Hi (¬fj m n y->¬mw m n):=fun h h'=>h (HY▸h'.2.2.2 i aA);have fR:Hi (fj m n y->∀j,j<i+1->fj m n (kd n j)):=fun h j hj=>by
   by_cases e:j=i;(·subst e;rw[HY.out];exact h);exact HA j O
  clear hy aX aL;by_cases q1:y.node<0;·(have HX:Hi (¬fj m n y):=fun h=>by have:=h.1;omega);go_wp2;go_ret;exact cg (NO HX) (bB _)
  have qJ:0<=y.node:=O;by_cases q2:¬y.node<m;·have HX:Hi (¬fj m n y):=fun h=>q2 h.2.1;have vP:(m:Int)<=y.node:=O;clear q1 q2;go_wp2;go_ret;exact cg (NO HX) (bB _)
  have vP:y.node<m:=O;clear q1 q2;go_wp2_with fail;refine(HM _ y).mono ?_;rintro e w3 ⟨r,rfl,(pM:Hi _),hb3⟩;have aR:Hi _:=Tm HB (dj hb3);have zE:Hi _:=Tm aM (dj hb3);have kW:Hi _:=bc gQ (dj hb3);have nO:Hi (w3.heap[wr.heap.size]? =U (C #[I J y.node,Bo y.opt,Y y.dflt] 55 (0,0))):=bc (bl wr _) hb3;have f0:w3.cell? (D Bn 0 Z)=U (I J n.kind):=by simp[Wc,kW.out]
  obtain⟨-,y1,y2⟩:=pt nO;clear hb3 k1 k2 k3;by_cases q3:¬(y.must\/n.kind=10);·have HX:Hi (¬fj m n y):=fun h=>q3 h.2.2.1;obtain rfl:r=true:=pM.2 (fun q=>q3 (.inl q));(have q4:(n.kind !=10)=true:=by simp;exact fun e=>q3 (.inr e));clear q3;go_wp2;go_ret;exact cg (NO HX) zE
  have q3:=Classical.not_not.1 q3;have jK:Hi _:=q3;have q5:r=false\/(r=true/\(n.kind !=10)=false):=by
   cases r;(·exact .inl X);right;refine⟨X,?_⟩;rcases q3 with q3|q3;(·exact Ab q3 (pM.1 X));simp[q3]
  clear q3;by_cases q6:y.opt=true
  ·by_cases q7:y.dflt.size=0
   ·have e7:=jr q7;have HX:Hi (fj m n y):=⟨qJ,vP,jK,fun h=>h.2 q7⟩;clear q7;rw[q6]at y1;clear q6;rcases q5 with rfl|⟨rfl,q8⟩;(·go_wp2;go_roundw;(case rel=>exact⟨i+1,O,Gn,fR HX,aR⟩);exact Ms);go_wp2;go_roundw;(case rel=>exact⟨i+1,O,Gn,fR HX,aR⟩);exact Ms
   have e7:=gw (t:=y.dflt) O;have HX:Hi (¬fj m n y):=fun h=>h.2.2.2 ⟨q6,q7⟩;clear q7;rw[q6]at y1;clear q6;rcases q5 with rfl|⟨rfl,q8⟩;(·go_wp2;go_ret;exact cg (NO HX) zE);go_wp2;go_ret;exact cg (NO HX) zE
  have qK:y.opt=false:=by simpa using q6
  have HX:Hi (fj m n y):=⟨qJ,vP,jK,fun h=>q6 h.1⟩;rw[qK]at y1;clear q6 qK;rcases q5 with rfl|⟨rfl,q8⟩;·go_wp2;go_roundw;(case rel=>exact⟨i+1,O,Gn,fR HX,aR⟩);exact Ms
  go_wp2;go_roundw;case rel=>exact⟨i+1,O,Gn,fR HX,aR⟩
  exact Ms
 have aN:(n.kids.length:Int)<=i:=O;go_wp2;go_ret;exact ia ⟨DN.1,DN.2,HC,fun j h=>HA j O⟩ aM
