/-
Several texts in one.
-/
import Derived.Test.YtkkicodfpekbgaaGreatDoorJc1
import Derived.Test.YtkkicodfpekbgaaGreatDoorJc0
import Derived.Test.YtkkicodfpekbgaaGreatDoorJc2
import Derived.Test.YtkkicodfpekbgaaGreatDoorJc4
open Go.Value renaming int->I,string->Y,slice->S,pointer->Po,bool->Bo,agg->Ag,tuple->Tu
open Go.IntKind renaming i64->J
open Go.Obj renaming cells->C
open Go.Ending renaming returned->Rt
open Option renaming some->U,none->Z
open Go renaming World->M,Calls->Cs,Addr->Ad
open _root_ renaming ByteArray->Q,Option->Oo,List->Ls
open Go.RowKit renaming Below->H,intOf->Io,Hid->Hi
open Go.World renaming cell?->Wc
open Go.Act renaming put->Ap,eval->Ae
open Go.Addr renaming mk->D
set_option linter.unusedSimpArgs false
set_option linter.unusedVariables false
set_option maxRecDepth 100000
set_option maxHeartbeats 8000000
namespace Go.Proofs.YtkkicodfpekbgaaGreatDoor
open Go.RowKit
theorem rA(l:Ls (Int×Int))(i:Nat)(hi:i<l.length):(fV l)[i*2]? =U (I J (l.getD i (0,0)).1)/\(fV l)[i*2+1]? =U (I J (l.getD i (0,0)).2):=by
 induction l generalizing i with
 |nil=>simp at hi
 |cons a l ih=>
  have e:fV (a::l)=[I J a.1,I J a.2]++fV l:=by unfold fV;simp
  rw[e]
  cases i with
  |zero=>simp
  |succ i=>
   have h:=ih i (by simp at hi;omega)
   constructor
   ·rw[bu So]
    have:(i+1)*2 - [Value.int IntKind.i64 a.1,Value.int IntKind.i64 a.2].length=i*2:=So
    rw[this,h.1];simp
   ·rw[bu So]
    have:(i+1)*2+1 - [Value.int IntKind.i64 a.1,Value.int IntKind.i64 a.2].length=i*2+1:=So
    rw[this,h.2];simp
def Ak(w:M)(gb:Nat)(s:Ls Nd):Prop:=∀j,j<s.length->∃all ta tc ts,w.cell? (D gb (j*2) Z)=U (Bo all)/\w.cell? (D gb (j*2+1) Z)=U (S ta (ts:Ls (Int×Int)).length tc)/\ja w ta ts/\pQ s j all ts
theorem Ak.below{w w':M}{gb:Nat}{s:Ls Nd}(h:Ak w gb s)(hb:H w.heap.size w w'):Ak w' gb s:=fun j hj=>by obtain⟨all,ta,tc,ts,h1,h2,h3,h4⟩:=h j hj;exact⟨all,ta,tc,ts,(hb.cell (aw h1)).trans h1,(hb.cell (aw h2)).trans h2,h3.below hb,h4⟩
theorem Al.read{s:Ls Nd}{w wr:M}(h:Al s w wr s.length):Ak wr w.heap.size s:=fun j hj=>by
 obtain⟨ae,h1,h2,h3⟩:=h.row;obtain⟨all,vt,ts,q1,q2,q3,q4⟩:=h3 j hj;obtain⟨ta,tc,rfl,hta⟩:=iB q3;refine⟨all,ta,tc,ts,by simp only[Wc,h1];simpa using q1,by simp only[Wc,h1];simpa using q2,fun k hk=>?_,q4⟩;obtain⟨g,rfl⟩:=hta O;have a0:∀p,((D g 0 Z):Ad).add p=(D g p Z):=fun p=>by unfold Addr.add;split<;>simp_all
 have c0:=q3.cells (g:=g) X _ _ (rA ts k hk).1;have c1:=q3.cells (g:=g) X _ _ (rA ts k hk).2;rw[a0]at c0 c1;exact⟨g,0,X,by simpa using c0,by simpa using c1⟩
theorem qU{s:Ls Nd}{i k:Nat}{a1 a2:Bool}{t1 t2:Ls (Int×Int)}(h1:pQ s i a1 t1)(h2:pQ s k a2 t2):pU a1 a2 t1 t2↔gH s i k:=by
 unfold pU gH;rw[h1.2.1,h2.2.1];refine Fg px (Fg px ⟨?_,?_⟩)
 ·rintro⟨t,q1,q2⟩;obtain⟨j,r1,r2,r3⟩:=(h1.2.2 t).1 q1;obtain⟨l,r4,r5,r6⟩:=(h2.2.2 t).1 q2;exact⟨j,l,r1,r2,r4,r5,r3.trans r6.symm⟩
 rintro⟨j,l,r1,r2,r4,r5,r6⟩;exact⟨(nd s j).outer,(h1.2.2 _).2 ⟨j,r1,r2,X⟩,(h2.2.2 _).2 ⟨l,r4,r5,r6.symm⟩⟩
theorem zc{ae af:Nat->Nat->Prop}{n:Nd}{m:Nat}(hw:∀j,j<n.kids.length->(kd n j).node.toNat<m)(h:∀i k,i<m->k<m->(ae i k↔af i k)):Told ae n↔Told af n:=by
 unfold Told kW;constructor
 ·intro q i hi;rcases q i hi with q|q
  ·exact .inl q
  exact .inr fun k h1 h2 h3 h4=>q k h1 h2 h3 ((h _ _ (hw i hi) (hw k h2)).2 h4)
 intro q i hi;rcases q i hi with q|q
 ·exact .inl q
 exact .inr fun k h1 h2 h3 h4=>q k h1 h2 h3 ((h _ _ (hw i hi) (hw k h2)).1 h4)
end Go.Proofs.YtkkicodfpekbgaaGreatDoor
namespace Go.Proofs.YtkkicodfpekbgaaGreatDoor
open Go.Proofs.Tryz
open Go.RowKit
theorem qN{n:Nd}{m i:Nat}(hw:∀j,j<n.kids.length->∃t:Nat,(kd n j).node=t/\t<m)(hi:i<n.kids.length):∃(t:Nat) (o:Bool) (d:Q),kd n i=⟨t,o,d⟩/\t<m:=by
 obtain⟨t,h1,h2⟩:=hw i hi;refine⟨t,(kd n i).opt,(kd n i).dflt,?_,h2⟩;rw[<-h1]
theorem nJ(s:Ls Nd)(n:Nd)(ka:Oo Ad)(kc gb:Nat)(w:M)(hka:be w ka n.kids)(hkc:n.kids.length<=kc)(hk8:n.kids.length<=8)(hw:∀j,j<n.kids.length->∃t:Nat,(kd n j).node=t/\t<s.length)(hb:Ak w gb s)(hn:s.length<=40):Cs prog 98 #[S ka n.kids.length kc,S (U (D gb 0 Z)) s.length s.length] w fun e w'=>dB (∀i k,i<k->k<n.kids.length->¬gH s (kd n i).node.toNat (kd n k).node.toNat) w e w':=by
 have HKI:Hi (be w ka n.kids):=hka;have HKR:Hi (∀j,j<n.kids.length->∃t:Nat,(kd n j).node=t/\t<s.length):=hw;have HAB:Hi (Ak w gb s):=hb;clear hka hw hb;go_enter func98,ntmps98;go_wp2;go_loopw [11] (fun vi wr=>∃i:Nat,i<=n.kids.length/\vi=I J i/\(∀i',i'<i->∀k,i'<k->k<n.kids.length->¬gH s (kd n i').node.toNat (kd n k).node.toNat)/\H w.heap.size w wr) (fun vi _=>n.kids.length-(Io vi).toNat);case atStart=>exact⟨0,Lz,X,fun _ h=>Ab h (aO _),By⟩
 obtain⟨i,hi,rfl,hall,hbr⟩:=hrel;have HA:Hi (∀i',i'<i->∀k,i'<k->k<n.kids.length->¬gH s (kd n i').node.toNat (kd n k).node.toNat):=hall;have HB:Hi (H w.heap.size w wr):=hbr;clear hall hbr;by_cases hlt:i<n.kids.length
 ·have hlt':(i:Int)<n.kids.length:=O;obtain⟨kb,ko,rfl,kcl⟩:=HKI i hlt;obtain⟨ty,yo,yd,hy,hty⟩:=qN HKR hlt;have HY:Hi (kd n i=⟨ty,yo,yd⟩):=hy;have hkcl:dt w kb (ko+i*3) ⟨ty,yo,yd⟩:=by rw[<-hy];exact kcl
  obtain⟨k1,k2,k3⟩:=hkcl.below HB;simp only at k1 k2 k3;have HBA:Hi (H w.heap.size w (wr.alloc (C #[I J ty,Bo yo,Y yd] 55))):=HB.alloc HB.size _;clear hy kcl hkcl;by_cases hkk:kc=i+1
  ·subst hkk;have HZ:Hi (∀k,i<k->k<n.kids.length->¬gH s (kd n i).node.toNat (kd n k).node.toNat):=fun k _ _=>O;have hz:((n.kids.length-(i+1):Nat):Int)<=0:=O;go_wp2;go_loopw [21] (fun vj wq=>vj=I J 0/\wq=wr.alloc (C #[I J ty,Bo yo,Y yd] 55)) (fun _ _=>0);case atStart=>exact⟨X,X⟩
   obtain⟨rfl,rfl⟩:=hrel;go_wp2;go_roundw
   case rel=>
    refine⟨i+1,O,Gn,fun i' h1 k h2 h3=>?_,HBA⟩;by_cases e:i'=i
    ·subst e;exact HZ k h2 h3
    exact HA i' O k h2 h3
   case measure=>exact Ms
  go_wp2;generalize hW:wr.alloc (C #[I J ty,Bo yo,Y yd] 55)=W at*;have hWb:W.heap[wr.heap.size]? =U (C #[I J ty,Bo yo,Y yd] 55 (0,0)):=by rw[<-hW];exact aA wr _
  have HWb:Hi (W.heap[wr.heap.size]? =U (C #[I J ty,Bo yo,Y yd] 55 (0,0))):=hWb;obtain⟨av,hY⟩:∃av,av=wr.heap.size:=Ez;have HY0:Hi (W.cell? (D av 0 Z)=U (I J ty)):=by show W.cell? _=_;rw[hY];simp[Wc,hWb]
  rw[<-hY];clear hW hWb k1 k2 k3 hY HWb;go_loopw [21] (fun vj wq=>∃j:Nat,j<=n.kids.length-(i+1)/\vj=I J j/\(∀k,i<k->k<i+1+j->¬gH s (kd n i).node.toNat (kd n k).node.toNat)/\H W.heap.size W wq) (fun vj _=>n.kids.length-(Io vj).toNat);case atStart=>exact⟨0,Lz,X,fun k h1 h2=>Ab h1 O,By⟩
  obtain⟨j,hj,rfl,hno,hbq⟩:=hrel;have HNO:Hi (∀k,i<k->k<i+1+j->¬gH s (kd n i).node.toNat (kd n k).node.toNat):=hno;have HBQ:Hi (H W.heap.size W wr):=hbq;have HBW:Hi (H w.heap.size w wr):=HBA.trans (hbq.mono HBA.size);have d0:=(hbq.cell (aw HY0)).trans HY0;clear hno hbq;by_cases hjl:j<n.kids.length-(i+1)
  ·have hjl':(j:Int)<((n.kids.length-(i+1):Nat):Int):=O;obtain⟨kb',ko',he,kcl⟩:=HKI (i+1+j) O;(obtain⟨rfl,rfl⟩:kb=kb'/\ko=ko':=by injection he with he;injection he with e1 e2;exact⟨e1,e2⟩);obtain⟨tz,zo,zd,hz,htz⟩:=qN HKR (show i+1+j<n.kids.length by omega);have HZ:Hi (kd n (i+1+j)=⟨tz,zo,zd⟩):=hz;(have hkcl:dt w kb (ko+(i+1)*3+j*3) ⟨tz,zo,zd⟩:=by rw[<-hz];have e:ko+(i+1+j)*3=ko+(i+1)*3+j*3:=O;rw[<-e];exact kcl);obtain⟨k1,k2,k3⟩:=hkcl.below HBW;simp only at k1 k2 k3;obtain⟨al1,a1,c1,t1,p1,p2,p3,p4⟩:=HAB ty hty;obtain⟨al2,a2,c2,t2,q1,q2,q3,q4⟩:=HAB tz htz;obtain⟨r,hr⟩:=pC (pU al1 al2 t1 t2);(have HR:Hi (r=true↔gH s (kd n i).node.toNat (kd n (i+1+j)).node.toNat):=by rw[HY,HZ.out];exact hr.trans (qU p4 q4));have HB2:Hi (H w.heap.size w (wr.alloc (C #[I J tz,Bo zo,Y zd] 55))):=HBW.alloc HBW.size _;have HB3:Hi (H W.heap.size W (wr.alloc (C #[I J tz,Bo zo,Y zd] 55))):=HBQ.alloc HBQ.size _;have HM:Hi (∀x:b7 (wr.alloc (C #[I J tz,Bo zo,Y zd] 55)),Cs prog 141 #[Ag #[Bo al1,S a1 t1.length c1],Ag #[Bo al2,S a2 t2.length c2]] x.v fun e w''=>e=Rt (Bo r)/\∃y:b7 (wr.alloc (C #[I J tz,Bo zo,Y zd] 55)),w''=y.v):=fun x=>b7.callsR hr (sO al1 al2 a1 a2 c1 c2 t1 t2 x.v (p3.below (b7.bel HB2 x)) (q3.below (b7.bel HB2 x)) p4.1 q4.1);have X0:∀x:b7 (wr.alloc (C #[I J tz,Bo zo,Y zd] 55)),x.v.cell? (D av 0 Z)=U (I J ty):=fun x=>x.old d0;have X1:∀x:b7 (wr.alloc (C #[I J tz,Bo zo,Y zd] 55)),x.v.cell? (D wr.heap.size 0 Z)=U (I J tz):=fun x=>x.new X;have X2:∀x:b7 (wr.alloc (C #[I J tz,Bo zo,Y zd] 55)),x.v.cell? (D gb (ty*2) Z)=U (Bo al1):=fun x=>b7.far HB2 x p1;have X3:∀x:b7 (wr.alloc (C #[I J tz,Bo zo,Y zd] 55)),x.v.cell? (D gb (ty*2+1) Z)=U (S a1 t1.length c1):=fun x=>b7.far HB2 x p2;have X4:∀x:b7 (wr.alloc (C #[I J tz,Bo zo,Y zd] 55)),x.v.cell? (D gb (tz*2) Z)=U (Bo al2):=fun x=>b7.far HB2 x q1;have X5:∀x:b7 (wr.alloc (C #[I J tz,Bo zo,Y zd] 55)),x.v.cell? (D gb (tz*2+1) Z)=U (S a2 t2.length c2):=fun x=>b7.far HB2 x q2;have hty':(ty:Int)<s.length:=O;have htz':(tz:Int)<s.length:=O;clear kcl hkcl hz he hr p1 p2 p3 p4 q1 q2 q3 q4;go_wp2_with fail;(have ne:=eX;refine bP Kr Kr ?_;(repeat(first|go_big_quiet_skip|(go_big_quiet_want;go_big_quiet_op;first|go_big_quiet_on|(apply Exists.intro;refine⟨fun x=>?_,?_⟩;(·(exact HM x));go_big_quiet_on))));refine dW ?_);intro w5 hb5;have HB5:Hi (H w.heap.size w w5):=HB2.trans (hb5.mono HB2.size);have HB6:Hi (H W.heap.size W w5):=HB3.trans (hb5.mono HB3.size);clear X0 X1 X2 X3 X4 X5 hb5 HM;cases r
   ·have HN:Hi (¬gH s (kd n i).node.toNat (kd n (i+1+j)).node.toNat):=fun q=>Bool.noConfusion (HR.2 q);go_wp2;go_roundw
    case rel=>
     refine⟨j+1,O,Gn,fun k h1 h2=>?_,HB6⟩;by_cases e:k=i+1+j
     ·subst e;exact HN
     exact HNO k h1 O
    case measure=>exact Ms
   have HN:Hi (gH s (kd n i).node.toNat (kd n (i+1+j)).node.toNat):=HR.1 X;go_wp2;go_ret;exact bc (fun q=>q i (i+1+j) O O HN) HB5
  have hjl':((n.kids.length-(i+1):Nat):Int)<=(j:Int):=O;go_wp2;go_roundw
  case rel=>
   refine⟨i+1,O,Gn,fun i' h1 k h2 h3=>?_,HBW⟩;by_cases e:i'=i
   ·subst e;exact HNO k h2 O
   exact HA i' O k h2 h3
  case measure=>exact Ms
 have hlt':(n.kids.length:Int)<=i:=O;go_wp2;go_ret;exact bS (fun i' k h1 h2=>HA i' O k h1 h2) HB
def lv(s:Ls Nd)(n:Nd)(i:Nat):Prop:=(kd n i).must\/∀k,i<k->k<n.kids.length->(∀j,i<j->j<k->¬(kd n j).must)->¬gH s (kd n i).node.toNat (kd n k).node.toNat
theorem rn(s:Ls Nd)(n:Nd)(ka:Oo Ad)(kc gb:Nat)(w:M)(hka:be w ka n.kids)(hkc:n.kids.length<=kc)(hk8:n.kids.length<=8)(hw:∀j,j<n.kids.length->∃t:Nat,(kd n j).node=t/\t<s.length)(hb:Ak w gb s)(hn:s.length<=40):Cs prog 99 #[S ka n.kids.length kc,S (U (D gb 0 Z)) s.length s.length] w fun e w'=>dB (∀i,i<n.kids.length->lv s n i) w e w':=by
 have HKI:Hi (be w ka n.kids):=hka;have HKR:Hi (∀j,j<n.kids.length->∃t:Nat,(kd n j).node=t/\t<s.length):=hw;have HAB:Hi (Ak w gb s):=hb;have HML:Hi (∀(a:Int) (b:Bool) (c:Q) (wq:M),Cs prog 94 #[Ag #[I J a,Bo b,Y c]] wq fun e w'=>dB (¬Kd.must ⟨a,b,c⟩) wq e w'):=fun a b c wq=>o7 ⟨a,b,c⟩ wq;clear hka hw hb;go_enter func99,ntmps99;go_wp2;go_step3;go_wp2;go_step3;go_wp2;go_loopw [11] (fun vi wr=>∃i:Nat,i<=n.kids.length/\vi=I J i/\(∀i',i'<i->lv s n i')/\H w.heap.size w wr) (fun vi _=>n.kids.length-(Io vi).toNat);case atStart=>exact⟨0,Lz,X,fun _ h=>Ab h (aO _),By⟩
 obtain⟨i,hi,rfl,hall,hbr⟩:=hrel;have HA:Hi (∀i',i'<i->lv s n i'):=hall;have HB:Hi (H w.heap.size w wr):=hbr;have STEP:Hi (lv s n i->∀i',i'<i+1->lv s n i'):=fun q i' h=>by
  by_cases e:i'=i
  ·subst e;exact q
  exact hall i' O
 clear hall hbr;by_cases hlt:i<n.kids.length
 ·have hlt':(i:Int)<n.kids.length:=O;obtain⟨kb,ko,rfl,kcl⟩:=HKI i hlt;obtain⟨ty,yo,yd,hy,hty⟩:=qN HKR hlt;have HY:Hi (kd n i=⟨ty,yo,yd⟩):=hy;have hkcl:dt w kb (ko+i*3) ⟨ty,yo,yd⟩:=by rw[<-hy];exact kcl
  obtain⟨k1,k2,k3⟩:=hkcl.below HB;simp only at k1 k2 k3;have HBA:Hi (H w.heap.size w (wr.alloc (C #[I J ty,Bo yo,Y yd] 55))):=HB.alloc HB.size _;clear hy kcl hkcl;go_wp2_with fail;refine(HML _ _ _ _).mono ?_;rintro e W ⟨r0,rfl,hr0,hb0⟩;have HR0:Hi (r0=true↔¬Kd.must ⟨ty,yo,yd⟩):=hr0;have HBW0:Hi (H w.heap.size w W):=HBA.trans (hb0.mono HBA.size);have hWb:=ax (aA wr (C #[I J ty,Bo yo,Y yd] 55)) hb0;obtain⟨av,hY⟩:∃av,av=wr.heap.size:=Ez;have HY0:Hi (W.cell? (D av 0 Z)=U (I J ty)):=by show W.cell? _=_;rw[hY];simp[Wc,hWb]
  rw[<-hY];clear hY hWb hb0 hr0 k1 k2 k3;cases r0
  ·have HQ:Hi (lv s n i):= .inl (by
    rw[HY.out];by_cases q:Kd.must ⟨ty,yo,yd⟩
    ·exact q
    exact Bool.noConfusion (HR0.2 q))
   go_wp2;go_roundw;case rel=>exact⟨i+1,O,Gn,STEP HQ,HBW0⟩
   case measure=>exact Ms
  have HNM:Hi (¬(kd n i).must):=by rw[HY.out];exact HR0.1 X
  by_cases hkk:kc=i+1
  ·subst hkk;have HQ:Hi (lv s n i):= .inr fun k _ _=>O;have hz:((n.kids.length-(i+1):Nat):Int)<=0:=O;go_wp2;go_loopw [24] (fun vj wq=>vj=I J 0/\wq=W) (fun _ _=>0);case atStart=>exact⟨X,X⟩
   obtain⟨rfl,rfl⟩:=hrel;go_wp2;go_roundw;case rel=>exact⟨i+1,O,Gn,STEP HQ,HBW0⟩
   case measure=>exact Ms
  go_wp2;go_loopw [24] (fun vj wq=>∃j:Nat,j<=n.kids.length-(i+1)/\vj=I J j/\(∀k,i<k->k<i+1+j->¬(kd n k).must/\¬gH s (kd n i).node.toNat (kd n k).node.toNat)/\H W.heap.size W wq) (fun vj _=>n.kids.length-(Io vj).toNat);case atStart=>exact⟨0,Lz,X,fun k h1 h2=>Ab h1 O,By⟩
  obtain⟨j,hj,rfl,hno,hbq⟩:=hrel;have HNO:Hi (∀k,i<k->k<i+1+j->¬(kd n k).must/\¬gH s (kd n i).node.toNat (kd n k).node.toNat):=hno;have HBQ:Hi (H W.heap.size W wr):=hbq;have HBW:Hi (H w.heap.size w wr):=HBW0.trans (hbq.mono HBW0.size);have d0:=(hbq.cell (aw HY0)).trans HY0;clear hno hbq;by_cases hjl:j<n.kids.length-(i+1)
  ·have hjl':(j:Int)<((n.kids.length-(i+1):Nat):Int):=O;obtain⟨kb',ko',he,kcl⟩:=HKI (i+1+j) O;(obtain⟨rfl,rfl⟩:kb=kb'/\ko=ko':=by injection he with he;injection he with e1 e2;exact⟨e1,e2⟩);obtain⟨tz,zo,zd,hz,htz⟩:=qN HKR (show i+1+j<n.kids.length by omega);have HZ:Hi (kd n (i+1+j)=⟨tz,zo,zd⟩):=hz;(have hkcl:dt w kb (ko+(i+1)*3+j*3) ⟨tz,zo,zd⟩:=by rw[<-hz];have e:ko+(i+1+j)*3=ko+(i+1)*3+j*3:=O;rw[<-e];exact kcl);obtain⟨k1,k2,k3⟩:=hkcl.below HBW;simp only at k1 k2 k3;obtain⟨al1,a1,c1,t1,p1,p2,p3,p4⟩:=HAB ty hty;obtain⟨al2,a2,c2,t2,q1,q2,q3,q4⟩:=HAB tz htz;obtain⟨r,hr⟩:=pC (pU al1 al2 t1 t2);(have HR:Hi (r=true↔gH s (kd n i).node.toNat (kd n (i+1+j)).node.toNat):=by rw[HY,HZ.out];exact hr.trans (qU p4 q4));have HB2:Hi (H w.heap.size w (wr.alloc (C #[I J tz,Bo zo,Y zd] 55))):=HBW.alloc HBW.size _;have HB3:Hi (H W.heap.size W (wr.alloc (C #[I J tz,Bo zo,Y zd] 55))):=HBQ.alloc HBQ.size _;have HM:Hi _:=fun x=>b7.callsR hr (sO al1 al2 a1 a2 c1 c2 t1 t2 x.v (p3.below (b7.bel HB2 x)) (q3.below (b7.bel HB2 x)) p4.1 q4.1);have X0:∀x:b7 (wr.alloc (C #[I J tz,Bo zo,Y zd] 55)),x.v.cell? (D av 0 Z)=U (I J ty):=fun x=>x.old d0;have X1:∀x:b7 (wr.alloc (C #[I J tz,Bo zo,Y zd] 55)),x.v.cell? (D wr.heap.size 0 Z)=U (I J tz):=fun x=>x.new X;have X2:∀x:b7 (wr.alloc (C #[I J tz,Bo zo,Y zd] 55)),x.v.cell? (D gb (ty*2) Z)=U (Bo al1):=fun x=>b7.far HB2 x p1;have X3:∀x:b7 (wr.alloc (C #[I J tz,Bo zo,Y zd] 55)),x.v.cell? (D gb (ty*2+1) Z)=U (S a1 t1.length c1):=fun x=>b7.far HB2 x p2;have X4:∀x:b7 (wr.alloc (C #[I J tz,Bo zo,Y zd] 55)),x.v.cell? (D gb (tz*2) Z)=U (Bo al2):=fun x=>b7.far HB2 x q1;have X5:∀x:b7 (wr.alloc (C #[I J tz,Bo zo,Y zd] 55)),x.v.cell? (D gb (tz*2+1) Z)=U (S a2 t2.length c2):=fun x=>b7.far HB2 x q2;have hty':(ty:Int)<s.length:=O;have htz':(tz:Int)<s.length:=O;clear kcl hkcl hz he hr p1 p2 p3 p4 q1 q2 q3 q4;go_wp2_with fail;(have ne:=eX;refine bP Kr Kr ?_;(repeat(first|go_big_quiet_skip|(go_big_quiet_want;go_big_quiet_op;first|go_big_quiet_on|(apply Exists.intro;refine⟨fun x=>?_,?_⟩;(·(exact HM x));go_big_quiet_on))));refine dW ?_);intro w5 hb5;have HB5:Hi _:=HB2.trans (hb5.mono HB2.size);have HB6:Hi _:=HB3.trans (hb5.mono HB3.size);have z0:=(b7.mk w5 hb5).new (i:=0) X;have z1:=(b7.mk w5 hb5).new (i:=1) X;have z2:=(b7.mk w5 hb5).new (i:=2) X;simp only at z0 z1 z2;clear X0 X1 X2 X3 X4 X5 hb5 HM;cases r
   ·have HN:Hi (¬gH s (kd n i).node.toNat (kd n (i+1+j)).node.toNat):=fun q=>Bool.noConfusion (HR.2 q);go_wp2_with fail;refine(HML _ _ _ _).mono ?_;rintro e w6 ⟨r1,rfl,hr1,hb6⟩;have HR1:Hi _:=hr1;have HB7:Hi _:=HB5.trans (hb6.mono HB5.size);have HB8:Hi _:=HB6.trans (hb6.mono HB6.size);clear hr1 hb6;cases r1
    ·have HMU:Hi ((kd n (i+1+j)).must):=by
      rw[HZ.out];by_cases q:Kd.must ⟨tz,zo,zd⟩
      ·exact q
      exact Bool.noConfusion (HR1.2 q)
     have HQ:Hi (lv s n i):= .inr fun k h1 h2 h3=>by
      by_cases e:k<i+1+j
      ·exact(HNO k h1 e).2
      by_cases e2:k=i+1+j
      ·subst e2;exact HN
      exact Ab HMU (h3 _ O O)
     go_wp2;go_roundw;case rel=>exact⟨i+1,O,Gn,STEP HQ,HB7⟩
     case measure=>exact Ms
    (have HMU:Hi (¬(kd n (i+1+j)).must):=by rw[HZ.out];exact HR1.1 X);go_wp2;go_roundw
    case rel=>
     refine⟨j+1,O,Gn,fun k h1 h2=>?_,HB8⟩;by_cases e:k=i+1+j
     ·subst e;exact⟨HMU,HN⟩
     exact HNO k h1 O
    case measure=>exact Ms
   have HN:Hi _:=HR.1 X;go_wp2;go_ret;refine bc (fun q=>?_) HB5;rcases q i hlt with q|q
   ·exact HNM q
   exact q (i+1+j) O O (fun j' h1 h2=>(HNO j' h1 h2).1) HN
  have hjl':((n.kids.length-(i+1):Nat):Int)<=(j:Int):=O;have HQ:Hi (lv s n i):= .inr fun k h1 h2 _=>(HNO k h1 O).2;go_wp2;go_roundw;case rel=>exact⟨i+1,O,Gn,STEP HQ,HBW⟩
  case measure=>exact Ms
 have hlt':(n.kids.length:Int)<=i:=O;go_wp2;go_ret;exact bS (fun i' h1=>HA i' O) HB
def gU(s:Ls Nd)(n:Nd):Prop:=n.kind=10\/n.kind=13->Told (gH s) n
theorem wP{ae:Nat->Nat->Prop}{n:Nd}(h:n.kind=13):Told ae n↔∀i k,i<k->k<n.kids.length->¬ae (kd n i).node.toNat (kd n k).node.toNat:=by
 have hst:∀k,¬n.stops k:=fun k q=>by have:=q.1;omega
 unfold Told kW;constructor
 ·intro q i k h1 h2;rcases q i (O)with q|q
  ·exact Ab q (hst _)
  exact q k h1 h2 (fun j _ _=>hst _)
 exact fun q i hi=> .inr fun k h1 h2 _=>q i k h1 h2
theorem Dr{s:Ls Nd}{n:Nd}(h:n.kind=10):Told (gH s) n↔∀i,i<n.kids.length->lv s n i:=by
 have hst:∀k,n.stops k↔k.must:=fun k=>⟨fun q=>q.2,fun q=>⟨h,q⟩⟩;unfold Told kW lv;simp only[hst]
theorem vX(s:Ls Nd)(n:Nd)(ka:Oo Ad)(kc gb:Nat)(w:M)(hka:be w ka n.kids)(hkc:n.kids.length<=kc)(hk8:n.kids.length<=8)(hw:∀j,j<n.kids.length->∃t:Nat,(kd n j).node=t/\t<s.length)(hb:Ak w gb s)(hn:s.length<=40):Cs prog 65 #[Ag #[I J n.kind,I J n.tag,I J n.mode,S ka n.kids.length kc],S (U (D gb 0 Z)) s.length s.length] w fun e w'=>dB (gU s n) w e w':=by
 by_cases h13:n.kind=13
 ·have HC:Hi _:=fun wq q=>nJ s n ka kc gb wq (hka.below q) hkc hk8 hw (hb.below q) hn;have e13:(n.kind==13)=true:=by simp[h13]
  have HX:Hi (gU s n↔∀i k,i<k->k<n.kids.length->¬gH s (kd n i).node.toNat (kd n k).node.toNat):=(show gU s n↔Told (gH s) n from⟨fun q=>q (.inr h13),fun q _=>q⟩).trans (wP h13);clear h13 hka hw hb;go_enter func65,ntmps65;go_wp2_with fail;refine(HC _ Be).mono ?_;rintro e w1 ⟨r,rfl,hr,hb1⟩;have HR:Hi _:=hr.trans HX.symm;have HB1:Hi _:=aT hb1;clear hr hb1;go_wp2;go_ret;exact iD HR HB1
 have e13:(n.kind==13)=false:=by simp[h13]
 by_cases h10:n.kind=10
 ·have HC:Hi _:=fun wq q=>rn s n ka kc gb wq (hka.below q) hkc hk8 hw (hb.below q) hn;have e10:(n.kind==10)=true:=by simp[h10]
  have HX:Hi (gU s n↔∀i,i<n.kids.length->lv s n i):=(show gU s n↔Told (gH s) n from⟨fun q=>q (.inl h10),fun q _=>q⟩).trans (Dr h10);clear h13 h10 hka hw hb;go_enter func65,ntmps65;go_wp2_with fail;refine(HC _ Be).mono ?_;rintro e w1 ⟨r,rfl,hr,hb1⟩;have HR:Hi _:=hr.trans HX.symm;have HB1:Hi _:=aT hb1;clear hr hb1;go_wp2;go_ret;exact iD HR HB1
 have e10:(n.kind==10)=false:=by simp[h10]
 have HX:Hi (gU s n):=fun q=>O;clear h13 h10 hka hw hb;go_enter func65,ntmps65;go_wp2;go_ret;exact bS HX Be
def iV(w:M)(a:Oo Ad)(vs:Ls Vl):Prop:=∀j,j<vs.length->∃g o,a=U (D g o Z)/\w.cell? (D g (o+j*4) Z)=U (I J (vl vs j).kind)/\w.cell? (D g (o+j*4+1) Z)=U (Y (vl vs j).text)/\
 w.cell? (D g (o+j*4+2) Z)=U (I J (vl vs j).alt)/\w.cell? (D g (o+j*4+3) Z)=U (I J (vl vs j).kids)
theorem kQ:∀(l:Ls Vl) (i:Nat),i<l.length->∀j,j<4->(bG l)[i*4+j]? =(vl l i).cells[j]?
 | [],i,h,_,_=>Ab h (aO _)
 |v::l,0,_,j,hj=>by
  have e:bG (v::l)=v.cells++bG l:=by unfold bG;simp
  rw[e,cm (by show 0*4+j<4;omega)]
  simp[vl]
 |v::l,i+1,h,j,hj=>by
  have e:bG (v::l)=v.cells++bG l:=by unfold bG;simp
  have hl:v.cells.length=4:=X
  rw[e,bu O,hl,show(i+1)*4+j-4=i*4+j by omega,kQ l i (by simpa using h) j hj]
  simp[vl]
theorem iV.of_own{w:M}{base:Nat}{a:Oo Ad}{c:Nat}{vs:Ls Vl}(h:w.ownsRow base 60 4 (S a vs.length c) vs.length (bG vs)):iV w a vs:=fun j hj=>by
 obtain⟨a',c',e,hf⟩:=fL h;obtain⟨g,rfl⟩:=hf O;injection e with e1 _ _;subst e1;have q:=h.cells (g:=g) X;refine⟨g,0,X,?_,?_,?_,?_⟩ <;>rw[b9]
 ·have:=q (j*4) (I J (vl vs j).kind) (by rw[show j*4=j*4+0 by omega,kQ vs j hj 0 Dc];rfl);rwa[pj]at this
 ·have:=q (j*4+1) (Y (vl vs j).text) (by rw[kQ vs j hj 1 Dc];rfl);rwa[pj]at this
 ·have:=q (j*4+2) (I J (vl vs j).alt) (by rw[kQ vs j hj 2 Dc];rfl);rwa[pj]at this
 have:=q (j*4+3) (I J (vl vs j).kids) (by rw[kQ vs j hj 3 Dc];rfl);rwa[pj]at this
theorem iV.below{w w':M}{a:Oo Ad}{vs:Ls Vl}(h:iV w a vs)(hb:H w.heap.size w w'):iV w' a vs:=fun j hj=>by obtain⟨g,o,e,h1,h2,h3,h4⟩:=h j hj;exact⟨g,o,e,(hb.cell (aw h1)).trans h1,(hb.cell (aw h2)).trans h2,(hb.cell (aw h3)).trans h3,(hb.cell (aw h4)).trans h4⟩
end Go.Proofs.YtkkicodfpekbgaaGreatDoor
namespace Go.Proofs.YtkkicodfpekbgaaGreatDoor
open Go.RowKit
def Cb(W:M)(R:Nat)(a:Oo Ad)(n c:Nat)(data:Q)(N:Nd)(x y:Nat)(dp:Int)(tree:Ls Vl)(e:Ending)(w':M):Prop:=
 ∃(v:Int) (tree':Ls Vl) (e' p':Int),e=Rt (I J v)/\dk W w' R a n c data tree' e' p'/\
  ((e'=0/\∃to u,v=(to:Nat)/\fP N data x y dp to u/\tree'=tree++[⟨N.kind,u,0,0⟩])\/(e'≠0/\∀to u,¬fP N data x y dp to u))
def BY(N:Nd)(data:Q)(x y:Nat)(dp:Int)(tree tree':Ls Vl)(v e':Int):Prop:=
 (e'=0/\∃to u,v=(to:Nat)/\fP N data x y dp to u/\tree'=tree++[⟨N.kind,u,0,0⟩])\/(e'≠0/\∀to u,¬fP N data x y dp to u)
theorem Ff{N:Nd}{data:Q}{x y z l:Nat}{dp:Int}{tree tree':Ls Vl}{p e' p' hc hn:Int}{hb:Bool}(cl nu:Int)(hk:(hd (data.extract x y)).1=0)(hH:(hd (data.extract x y)).2=⟨hc,hb,hn,z,l⟩)(hcn:(N.tag<0/\cl=0/\nu=own N.kind)\/(0<=N.tag/\N.mode=0/\cl=2/\nu=N.tag))(h:kr N.kind cl nu ⟨hc,hb,hn,z,l⟩ data x z (x+z+l) dp tree p tree' e' p'):BY N data x y dp tree tree' ((x:Int)+z+l) e':=by
 have hto:∀to u,fP N data x y dp to u->to=x+z+l/\hc=cl/\hn=nu/\hb=false/\dp<=12/\u=data.extract (x+z) (x+z+l)/\aR N.kind u:=by
  rintro to u ⟨h1,_,h3,h4⟩;rw[hH]at h3 h4;simp only[br]at h3 h4;have:to=x+z+l:=O;subst this;rcases h4 with⟨q1,q2,q3,q4,q5,q6⟩|⟨q1,q2,q3,q4,q5,q6,q7⟩|⟨q1,q2,_⟩
  ·rcases hcn with⟨_,r1,r2⟩|⟨r0,_⟩
   ·exact⟨X,q2.trans r1.symm,q3.trans r2.symm,q4,h1,q5,q6⟩
   omega
  ·rcases hcn with⟨r0,_⟩|⟨_,_,r1,r2⟩
   ·omega
   exact⟨X,q3.trans r1.symm,q4.trans r2.symm,q5,h1,q6,q7⟩
  rcases hcn with⟨r0,_⟩|⟨_,r1,_⟩
  ·omega
  exact Ab r1 q2
 rcases h with⟨h1,_,h3,_⟩|⟨_,h2,_,h3,_⟩|⟨⟨h1,h2,h3⟩,h4,h5,h6,h7,_⟩|⟨_,_,h5,_,h7,_⟩
 ·exact .inr ⟨O,fun to u q=>h1 ⟨(hto to u q).2.1,(hto to u q).2.2.1,(hto to u q).2.2.2.1⟩⟩
 ·exact .inr ⟨O,fun to u q=>by have:=(hto to u q).2.2.2.2.1;omega⟩
 ·refine .inl ⟨h7,x+z+l,_,O,⟨h4,hk,by rw[hH];simp only;omega,?_⟩,h6⟩;rw[hH];simp only[br];rcases hcn with⟨r0,r1,r2⟩|⟨r0,r1,r2,r3⟩
  ·exact .inl ⟨r0,h1.trans r1,h2.trans r2,h3,trivial,h5⟩
  exact .inr (.inl ⟨r0,r1,h1.trans r2,h2.trans r3,h3,trivial,h5⟩)
 exact .inr ⟨O,fun to u q=>h5 (by have:=(hto to u q).2.2.2.2.2;rw[<-this.1];exact this.2)⟩
theorem fF{N:Nd}{data:Q}{x y z l:Nat}{dp:Int}{hc hn:Int}{hb:Bool}(hH:(hd (data.extract x y)).2=⟨hc,hb,hn,z,l⟩)(ht:0<=N.tag)(hm:N.mode=1){to:Nat}{u:Q}(h:fP N data x y dp to u):to=x+z+l/\hc=2/\hn=N.tag/\hb=true/\dp<=12/\(hd (data.extract (x+z) (x+z+l))).1=0/\∀hc2 hb2 hn2 (z2 l2:Nat),(hd (data.extract (x+z) (x+z+l))).2=⟨hc2,hb2,hn2,z2,l2⟩->hc2=0/\hn2=own N.kind/\hb2=false/\x+z+z2+l2=x+z+l/\u=data.extract (x+z+z2) (x+z+l)/\aR N.kind u:=by
 obtain⟨h1,_,h3,h4⟩:=h;rw[hH]at h3 h4;simp only[br]at h3 h4;obtain rfl:to=x+z+l:=O;rcases h4 with⟨q1,_⟩|⟨_,q1,_⟩|⟨_,_,q1,q2,q3,t,rfl,q4,q5,q6,q7,q8,q9,q10⟩
 ·omega
 ·omega
 refine⟨X,q1,q2,q3,h1,q4,fun hc2 hb2 hn2 z2 l2 hH2=>?_⟩;rw[hH2]at q5 q6 q7 q8 q9;simp only[br]at q5 q6 q7 q8 q9;exact⟨q5,q6,q7,O,q9,q10⟩
theorem G9{N:Nd}{data:Q}{x y z l z2 l2:Nat}{dp:Int}{tree tree':Ls Vl}{p e' p' hc hn hc2 hn2:Int}{hb hb2:Bool}(hk:(hd (data.extract x y)).1=0)(hH:(hd (data.extract x y)).2=⟨hc,hb,hn,z,l⟩)(ht:0<=N.tag)(hm:N.mode=1)(hq:hc=2/\hn=N.tag/\hb=true)(hdp:dp<=12)(hk2:(hd (data.extract (x+z) (x+z+l))).1=0)(hH2:(hd (data.extract (x+z) (x+z+l))).2=⟨hc2,hb2,hn2,z2,l2⟩)(h:kr N.kind 0 (own N.kind) ⟨hc2,hb2,hn2,z2,l2⟩ data (x+z) z2 (x+z+z2+l2) dp tree p tree' e' p'):(x+z+z2+l2=x+z+l->BY N data x y dp tree tree' ((x:Int)+z+l) e')/\(x+z+z2+l2≠x+z+l->∀to u,¬fP N data x y dp to u)/\(e'≠0->∀to u,¬fP N data x y dp to u):=by
 have hno:∀{to u},fP N data x y dp to u->_:=fun q=>fF hH ht hm q;have hne:e'≠0->∀to u,¬fP N data x y dp to u:=fun he to u q=>by
  obtain⟨r1,r2,r3,r4,r5,r6,r7⟩:=hno q;obtain⟨s1,s2,s3,s4,s5,s6⟩:=r7 hc2 hb2 hn2 z2 l2 hH2;rcases h with⟨g1,_⟩|⟨_,g1,_⟩|⟨_,_,_,_,g1,_⟩|⟨_,_,g1,_⟩
  ·exact g1 ⟨s1,s2,s3⟩
  ·omega
  ·exact he g1
  exact g1 (by rw[s4,<-s5];exact s6)
 refine⟨fun he=>?_,fun he to u q=>he ((hno q).2.2.2.2.2.2 hc2 hb2 hn2 z2 l2 hH2).2.2.2.1,hne⟩;by_cases he0:e'=0
 ·left;refine⟨he0,x+z+l,data.extract (x+z+z2) (x+z+l),O,⟨hdp,hk,by rw[hH];simp only;omega,?_⟩,?_⟩
  ·rw[hH];simp only[br];refine .inr (.inr ⟨ht,O,hq.1,hq.2.1,hq.2.2,_,X,hk2,?_⟩);rw[hH2];simp only[br];rcases h with⟨_,_,g1,_⟩|⟨_,_,_,g1,_⟩|⟨⟨g1,g2,g3⟩,_,g4,_⟩|⟨_,_,_,_,g1,_⟩
   ·omega
   ·omega
   ·exact⟨g1,g2,g3,O,trivial,by rw[<-he];exact g4⟩
   omega
  rcases h with⟨_,_,g1,_⟩|⟨_,_,_,g1,_⟩|⟨_,_,_,g4,_⟩|⟨_,_,_,_,g1,_⟩
  ·omega
  ·omega
  ·rw[<-he];exact g4
  omega
 exact .inr ⟨he0,hne he0⟩
end Go.Proofs.YtkkicodfpekbgaaGreatDoor
namespace Go.Proofs.YtkkicodfpekbgaaGreatDoor
open Go.Proofs.Tryz
open Go.RowKit
theorem yI(s:Ls Nd)(W w:M)(R:Nat)(a:Oo Ad)(c:Nat)(data:Q)(tree:Ls Vl)(p:Int)(i x y:Nat)(dp:Int)(h:dk W w R a s.length c data tree 0 p)(hs:ju W a s)(hi:i<s.length)(hk1:1<=(nd s i).kind)(hk9:(nd s i).kind<=9)(htg:(nd s i).tag<0)(hxy:x<=y)(hy:y<=data.size)(hm:data.size<=140737488355328)(ht:tree.length<=1099511627776):Cs prog 69 #[Po (U (D R 0 Z)),I J i,I J x,I J y,I J dp] w fun e w'=>Cb W R a s.length c data (nd s i) x y dp tree e w':=by
 have HI:Hi (dk W w R a s.length c data tree 0 p):=h;have HHD:Hi (∀(w1:M) (p:Int) (x y:Nat),dk W w1 R a s.length c data tree 0 p->x<=y->y<=data.size->Cs prog 101 #[Po (U (D R 0 Z)),I J x,I J y] w1 fun e w'=>e=Rt (hv (hd (data.extract x y)).2)/\dk W w' R a s.length c data tree (hd (data.extract x y)).1 (if(hd (data.extract x y)).1=0 then p else x)/\Fr R w1 w'):=fun w1 p x y h1 h2 h3=>jG W w1 R a s.length c data tree p x y h1 h2 h3 hm;obtain⟨hb,hlo,vt,hr,_⟩:=h;unfold eh at hr;have c0:w.cell? (D R 0 Z)=U (S a s.length c):=by simp[Wc,hr]
 have hRl:R<w.heap.size:=aw c0;clear hr;obtain⟨b,o,ka,kc,rfl,nc,kl,km,ks⟩:=hs i hi;obtain⟨n1,n2,n3,n4⟩:=nc.below hb;have hi':(i:Int)<s.length:=O;clear hs nc ks hb;generalize hN:nd s i=N at*;clear hN;have HX:Hi (∀to u,fP N data x y dp to u->(hd (data.extract x y)).1=0):=fun to u q=>q.2.1;go_enter func69,ntmps69;go_wp2_with fail;refine(HHD _ p x y (HI.below Be) hxy hy).mono ?_;rintro e w1 ⟨rfl,hI1,hf1⟩;have HG1:Hi (w1.heap[w.heap.size]? =U (C #[I J N.kind,I J N.tag,I J N.mode,S ka N.kids.length kc] 58 (0,0))):=hf1 _ _ _ O Dc (aA w _);obtain⟨hc,hb,hn,hz,hl,hH⟩:∃hc hb hn hz hl,(hd (data.extract x y)).2=⟨hc,hb,hn,hz,hl⟩:=⟨_,_,_,_,_,X⟩;have HH:Hi ((hd (data.extract x y)).2=⟨hc,hb,hn,hz,hl⟩):=hH;rw[hH];unfold hv;obtain⟨k1,hk⟩:∃k,(hd (data.extract x y)).1=k:=Ey;have HK:Hi ((hd (data.extract x y)).1=k1):=hk;rw[hk]at hI1;have HI1:Hi (dk W w1 R (U (D b o Z)) s.length c data tree k1 (if k1=0 then p else x)):=hI1;obtain⟨_,_,vt1,hr1,_⟩:=hI1;unfold eh at hr1;have r3:w1.cell? (D R 3 Z)=U (I J k1):=by simp[Wc,hr1]
 have hs1:w.heap.size<w1.heap.size:=by
  rcases cG w.heap.size w1.heap.size with h'|h'
  ·exact h'
  have:=HG1.out;rw[bj h']at this;cases this
 have hRs:R<w1.heap.size:=O;have m0:w1.cell? (D w.heap.size 0 Z)=U (I J N.kind):=by simp[Wc,HG1.out]
 have m1:w1.cell? (D w.heap.size 1 Z)=U (I J N.tag):=by simp[Wc,HG1.out]
 have m2:w1.cell? (D w.heap.size 2 Z)=U (I J N.mode):=by simp[Wc,HG1.out]
 have m3:w1.cell? (D w.heap.size 3 Z)=U (S ka N.kids.length kc):=by simp[Wc,HG1.out]
 clear hf1 hH hk hr1 n1 n2 n3 n4 c0;by_cases hk0:k1=0
 ·subst hk0;have hok:=i3 HK;rw[HH.out]at hok;simp only at hok;rw[show(data.extract x y).size=y-x by simp;omega]at hok;obtain⟨z,rfl⟩:∃z:Nat,hz=z:=⟨hz.toNat,O⟩;obtain⟨l,rfl⟩:∃l:Nat,hl=l:=⟨hl.toNat,O⟩;have hzl:x+z+l<=y:=O;have hto1:(x:Int)+z<=9223372036854775807:=O;have hto2:(x:Int)+z+l<=9223372036854775807:=O
  have BA:Hi (∀(w3:M) (cl nu:Int),dk W w3 R (U (D b o Z)) s.length c data tree 0 p->Cs prog 102 #[Po (U (D R 0 Z)),Ag #[I J N.kind,I J N.tag,I J N.mode,S ka N.kids.length kc],I J cl,I J nu,Ag #[I J hc,Bo hb,I J hn,I J z,I J l],I J x,I J ((x:Int)+z+l),I J dp] w3
   fun e w'=>Cc W w3 R (U ⟨b,o,Z⟩) s.length c data (Tu #[]) (kr N.kind cl nu ⟨hc,hb,hn,z,l⟩ data x z (x+z+l) dp tree p) e w'):=fun w3 cl nu h3=>by
   have:=kE W w3 R (U (D b o Z)) s.length c data tree p N ka kc cl nu hc hb hn z l x (x+z+l) dp h3 hk1 hk9 O O hm ht
   rw[show((x+z+l:Nat):Int)=(x:Int)+z+l by omega]at this
   exact this
  have HI2:Hi (∀o1,dk W (w1.alloc o1) R (U (D b o Z)) s.length c data tree 0 p):=fun o1=>HI1.below Be;clear hok;have RUN0:Hi (∀args w,(callFunc 103 args).run prog w= .ok (.enter 103 args) w):=fun args w=>eY func103 Kr Rf args w;have RUNB:Hi (∀args w,(callFunc 102 args).run prog w= .ok (.enter 102 args) w):=fun args w=>eY func102 Kr Rf args w;have HO:Hi (∀w,Cs prog 103 #[I J N.kind] w fun e w'=>e=Rt (I J (own N.kind))/\H w.heap.size w w'):=fun w=>qY N.kind O O w;have HT:Hi (N.tag<0):=htg;go_wp2_with fail;go_region_law (first|(refine ib X 103 _ _ X #[I J N.kind] (by simp[Ae,Ap]) (I J (own N.kind)) (fun w'=>H ((w1.alloc (C #[I J hc,Bo hb,I J hn,I J z,I J l] 179)).drew).heap.size ((w1.alloc (C #[I J hc,Bo hb,I J hn,I J z,I J l] 179)).drew) w') (RUN0 _ _) (HO _) ?_;intro w3 hb3;have hI3:=((HI2 _).below (Go.below_drewN By 1)).below hb3;obtain⟨hc3,hf3⟩:=mN hb3)|(refine ib X 102 _ _ X #[Po (U (D R 0 Z)),Ag #[I J N.kind,I J N.tag,I J N.mode,S ka N.kids.length kc],I J 0,I J (own N.kind),Ag #[I J hc,Bo hb,I J hn,I J z,I J l],I J x,I J ((x:Int)+z+l),I J dp] (by simp[Ae,Ap]) (Tu #[]) (fun w'=>∃tree' e' p',dk W w' R (U (D b o Z)) s.length c data tree' e' p'/\kr N.kind 0 (own N.kind) ⟨hc,hb,hn,z,l⟩ data x z (x+z+l) dp tree p tree' e' p'/\Fr R w3 w') (RUNB _ _) (BA _ 0 (own N.kind) hI3) ?_;rintro w4 ⟨tree',e',p',hI4,hB4,hf4⟩));all_goals have HB4:Hi (kr N.kind 0 (own N.kind) ⟨hc,hb,hn,z,l⟩ data x z (x+z+l) dp tree p tree' e' p'):=hB4;have HI4:Hi (dk W w4 R (U (D b o Z)) s.length c data tree' e' p'):=hI4;clear hB4 hI4 hf4 hc3 hf3 hI3 hb3;go_wp2;go_ret;exact⟨_,tree',e',p',X,HI4,Ff 0 (own N.kind) HK HH (.inl ⟨HT,X,X⟩) HB4⟩
 have HK0:Hi (k1≠0):=hk0;have e0:(k1 !=0)=true:=by simp[hk0]
 have HI1':Hi (dk W w1 R (U (D b o Z)) s.length c data tree k1 x):=by have:=HI1.out;rw[G hk0]at this;exact this
 have HI3:Hi (∀o1,dk W (w1.alloc o1) R (U (D b o Z)) s.length c data tree k1 x):=fun o1=>HI1'.below Be;clear hk0;go_wp2;go_ret;exact⟨y,tree,k1,x,X,HI3 _,.inr ⟨HK0,fun to u q=>HK0 (HK.symm.trans (HX to u q))⟩⟩
theorem yJ(s:Ls Nd)(W w:M)(R:Nat)(a:Oo Ad)(c:Nat)(data:Q)(tree:Ls Vl)(p:Int)(i x y:Nat)(dp:Int)(h:dk W w R a s.length c data tree 0 p)(hs:ju W a s)(hi:i<s.length)(hk1:1<=(nd s i).kind)(hk9:(nd s i).kind<=9)(htg':0<=(nd s i).tag)(hm0:(nd s i).mode=0)(hxy:x<=y)(hy:y<=data.size)(hm:data.size<=140737488355328)(ht:tree.length<=1099511627776):Cs prog 69 #[Po (U (D R 0 Z)),I J i,I J x,I J y,I J dp] w fun e w'=>Cb W R a s.length c data (nd s i) x y dp tree e w':=by
 have HI:Hi (dk W w R a s.length c data tree 0 p):=h;have HHD:Hi (∀(w1:M) (p:Int) (x y:Nat),dk W w1 R a s.length c data tree 0 p->x<=y->y<=data.size->Cs prog 101 #[Po (U (D R 0 Z)),I J x,I J y] w1 fun e w'=>e=Rt (hv (hd (data.extract x y)).2)/\dk W w' R a s.length c data tree (hd (data.extract x y)).1 (if(hd (data.extract x y)).1=0 then p else x)/\Fr R w1 w'):=fun w1 p x y h1 h2 h3=>jG W w1 R a s.length c data tree p x y h1 h2 h3 hm;obtain⟨hb,hlo,vt,hr,_⟩:=h;unfold eh at hr;have c0:w.cell? (D R 0 Z)=U (S a s.length c):=by simp[Wc,hr]
 have hRl:R<w.heap.size:=aw c0;clear hr;obtain⟨b,o,ka,kc,rfl,nc,kl,km,ks⟩:=hs i hi;obtain⟨n1,n2,n3,n4⟩:=nc.below hb;have hi':(i:Int)<s.length:=O;clear hs nc ks hb;generalize hN:nd s i=N at*;clear hN;have HM0:Hi (N.mode=0):=hm0;have e0:(N.mode==0)=true:=by simp[hm0]
 clear hm0;have HX:Hi (∀to u,fP N data x y dp to u->(hd (data.extract x y)).1=0):=fun to u q=>q.2.1;go_enter func69,ntmps69;go_wp2_with fail;refine(HHD _ p x y (HI.below Be) hxy hy).mono ?_;rintro e w1 ⟨rfl,hI1,hf1⟩;have HG1:Hi (w1.heap[w.heap.size]? =U (C #[I J N.kind,I J N.tag,I J N.mode,S ka N.kids.length kc] 58 (0,0))):=hf1 _ _ _ O Dc (aA w _);obtain⟨hc,hb,hn,hz,hl,hH⟩:∃hc hb hn hz hl,(hd (data.extract x y)).2=⟨hc,hb,hn,hz,hl⟩:=⟨_,_,_,_,_,X⟩;have HH:Hi ((hd (data.extract x y)).2=⟨hc,hb,hn,hz,hl⟩):=hH;rw[hH];unfold hv;obtain⟨k1,hk⟩:∃k,(hd (data.extract x y)).1=k:=Ey;have HK:Hi ((hd (data.extract x y)).1=k1):=hk;rw[hk]at hI1;have HI1:Hi (dk W w1 R (U (D b o Z)) s.length c data tree k1 (if k1=0 then p else x)):=hI1;obtain⟨_,_,vt1,hr1,_⟩:=hI1;unfold eh at hr1;have r3:w1.cell? (D R 3 Z)=U (I J k1):=by simp[Wc,hr1]
 have hs1:w.heap.size<w1.heap.size:=by
  rcases cG w.heap.size w1.heap.size with h'|h'
  ·exact h'
  have:=HG1.out;rw[bj h']at this;cases this
 have hRs:R<w1.heap.size:=O;have m0:w1.cell? (D w.heap.size 0 Z)=U (I J N.kind):=by simp[Wc,HG1.out]
 have m1:w1.cell? (D w.heap.size 1 Z)=U (I J N.tag):=by simp[Wc,HG1.out]
 have m2:w1.cell? (D w.heap.size 2 Z)=U (I J N.mode):=by simp[Wc,HG1.out]
 have m3:w1.cell? (D w.heap.size 3 Z)=U (S ka N.kids.length kc):=by simp[Wc,HG1.out]
 clear hf1 hH hk hr1 n1 n2 n3 n4 c0;by_cases hk0:k1=0
 ·subst hk0;have hok:=i3 HK;rw[HH.out]at hok;simp only at hok;rw[show(data.extract x y).size=y-x by simp;omega]at hok;obtain⟨z,rfl⟩:∃z:Nat,hz=z:=⟨hz.toNat,O⟩;obtain⟨l,rfl⟩:∃l:Nat,hl=l:=⟨hl.toNat,O⟩;have hzl:x+z+l<=y:=O;have hto1:(x:Int)+z<=9223372036854775807:=O;have hto2:(x:Int)+z+l<=9223372036854775807:=O
  have BA:Hi (∀(w3:M) (cl nu:Int),dk W w3 R (U (D b o Z)) s.length c data tree 0 p->Cs prog 102 #[Po (U (D R 0 Z)),Ag #[I J N.kind,I J N.tag,I J N.mode,S ka N.kids.length kc],I J cl,I J nu,Ag #[I J hc,Bo hb,I J hn,I J z,I J l],I J x,I J ((x:Int)+z+l),I J dp] w3
   fun e w'=>Cc W w3 R (U ⟨b,o,Z⟩) s.length c data (Tu #[]) (kr N.kind cl nu ⟨hc,hb,hn,z,l⟩ data x z (x+z+l) dp tree p) e w'):=fun w3 cl nu h3=>by
   have:=kE W w3 R (U (D b o Z)) s.length c data tree p N ka kc cl nu hc hb hn z l x (x+z+l) dp h3 hk1 hk9 O O hm ht
   rw[show((x+z+l:Nat):Int)=(x:Int)+z+l by omega]at this
   exact this
  have HI2:Hi (∀o1,dk W (w1.alloc o1) R (U (D b o Z)) s.length c data tree 0 p):=fun o1=>HI1.below Be;clear hok;have RUN0:Hi (∀args w,(callFunc 103 args).run prog w= .ok (.enter 103 args) w):=fun args w=>eY func103 Kr Rf args w;have RUNB:Hi (∀args w,(callFunc 102 args).run prog w= .ok (.enter 102 args) w):=fun args w=>eY func102 Kr Rf args w;have HT:Hi (0<=N.tag):=htg';go_wp2_with fail;refine(BA _ 2 N.tag (HI2 _)).mono ?_;rintro e w4 ⟨rfl,tree',e',p',hI4,hB4,hf4⟩;have HB4:Hi (kr N.kind 2 N.tag ⟨hc,hb,hn,z,l⟩ data x z (x+z+l) dp tree p tree' e' p'):=hB4;have HI4:Hi (dk W w4 R (U (D b o Z)) s.length c data tree' e' p'):=hI4;clear hB4 hI4 hf4;go_wp2;go_ret;exact⟨_,tree',e',p',X,HI4,Ff 2 N.tag HK HH (.inr ⟨HT,HM0,X,X⟩) HB4⟩
 have HK0:Hi (k1≠0):=hk0;have e0:(k1 !=0)=true:=by simp[hk0]
 have HI1':Hi (dk W w1 R (U (D b o Z)) s.length c data tree k1 x):=by have:=HI1.out;rw[G hk0]at this;exact this
 have HI3:Hi (∀o1,dk W (w1.alloc o1) R (U (D b o Z)) s.length c data tree k1 x):=fun o1=>HI1'.below Be;clear hk0;go_wp2;go_ret;exact⟨y,tree,k1,x,X,HI3 _,.inr ⟨HK0,fun to u q=>HK0 (HK.symm.trans (HX to u q))⟩⟩
end Go.Proofs.YtkkicodfpekbgaaGreatDoor
