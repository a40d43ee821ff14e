/-
Several texts in one.
-/
import Derived.Test.YtkkicodfpekbgaaGreatDoorJa0
import Derived.Deep.Light
import Derived.Shelf.Lays
open Go.Value renaming int->I,string->Y,bool->Bo
open Go.IntKind renaming i64->J
open Go.Ending renaming returned->Rt
open Option renaming some->U
open Go renaming World->M,Calls->Cs
open _root_ renaming ByteArray->Q,List->Ls
open Go.RowKit renaming Below->H,Hid->Hi
set_option linter.unusedSimpArgs false
set_option linter.unusedVariables false
set_option maxRecDepth 100000
set_option maxHeartbeats 8000000
namespace Go.Proofs.YtkkicodfpekbgaaGreatDoor
open Go.Proofs.Tryz
open Go.RowKit
def AN:Ls UInt8:=[48,49,50,51,52,53,54,55,56,57]
theorem DZ(t:Q)(hs:t.size=15):(∀i,i<(t.extract 0 14).size->∃j,j<(⟨AN.toArray⟩:Q).size/\b8 ⟨AN.toArray⟩ j=b8 (t.extract 0 14) i)↔jP t 14:=by
 have hz:(t.extract 0 14).size=14:=by rw[bq];omega
 have hd:(⟨AN.toArray⟩:Q).size=10:=by decide+kernel
 have hb:∀j,j<10->b8 ⟨AN.toArray⟩ j=48+j:=by(have:∀j:Fin 10,b8 ⟨AN.toArray⟩ j.val=48+(j.val:Int):=by decide+kernel);exact fun j hj=>this ⟨j,hj⟩
 rw[hz,hd];constructor
 ·intro h i hi;obtain⟨j,hj,e⟩:=h i hi;rw[hb j hj,xJ t 0 14 i O O,b9]at e;omega
 intro h i hi;have:=h i hi;refine⟨(b8 t i-48).toNat,O,?_⟩;rw[hb _ O,xJ t 0 14 i O O,b9];omega
theorem mS(y m:Int):(m=2/\(y%400=0\/y%4=0/\y%100≠0)/\lastDay y m=29)\/(m=2/\¬(y%400=0\/y%4=0/\y%100≠0)/\lastDay y m=28)\/(m≠2/\(m=4\/m=6\/m=9\/m=11)/\lastDay y m=30)\/(m≠2/\¬(m=4\/m=6\/m=9\/m=11)/\lastDay y m=31):=by
 unfold lastDay;by_cases h:m=2
 ·by_cases hl:y%400=0\/y%4=0/\y%100≠0
  ·left;exact⟨h,hl,by rw[aG h,aG hl]⟩
  right;left;exact⟨h,hl,by rw[aG h,G hl]⟩
 by_cases hl:m=4\/m=6\/m=9\/m=11
 ·right;right;left;exact⟨h,hl,by rw[G h,aG hl]⟩
 right;right;right;exact⟨h,hl,by rw[G h,G hl]⟩
theorem m7(t:Q)(w:M)(hm:t.size<=9223372036854775807):Cs prog 126 #[Y t] w fun e w'=>fi (ey t) w e w':=by
 by_cases hs:t.size=15
 ·have hs':((t.size:Int)!=15)=false:=by rw[bK];omega
  have h14:14<t.size:=O;have h14':(14:Int)<t.size:=O;have HZ:Hi ((t[14].toNat:Int)=b8 t 14):=cH t 14 h14;have HS:Hi _:=hs;have hge:15<=t.size:=O;clear hs;by_cases hz:(t[14].toNat:Int)=90
  ·(have hz':((t[14].toNat:Int)!=90)=false:=by rw[bK];exact hz);(have HZ2:Hi (b8 t 14=90):=by show _=_;rw[<-HZ.out];exact hz);clear hz;go_enter func126,ntmps126;go_wp2_with fail;refine(zD (t.extract 0 14) ⟨AN.toArray⟩ _ (by rw[bq];omega) (by decide+kernel)).mono ?_;rintro e w1 ⟨r,rfl,hr,hd⟩;have HR:Hi _:=hr.trans (DZ t HS);obtain⟨q,hd⟩:=hd;have HW1:Hi _:=hd.symm;clear hr hd;cases r
   ·(have HN:Hi (¬ey t):=fun h=>by cases HR.2 h.2.2.1);go_wp2_with fail;go_ret;exact cR HN (lO HW1 0)
   have HG:jP t 14:=HR.1 X;have hs:=HS.out;have PY:Hi (∀w,Cs prog 168 #[Y (t.extract 0 4)] w fun e w'=>e=Rt (I J (dec t 0 4))/\w'=w):=fun w=>fK _ w (by rw[bq];omega) (fZ HG hs 0 4 O);have PMo:Hi (∀w,Cs prog 168 #[Y (t.extract 4 6)] w fun e w'=>e=Rt (I J (dec t 4 6))/\w'=w):=fun w=>fK _ w (by rw[bq];omega) (fZ HG hs 4 6 O);have PDa:Hi (∀w,Cs prog 168 #[Y (t.extract 6 8)] w fun e w'=>e=Rt (I J (dec t 6 8))/\w'=w):=fun w=>fK _ w (by rw[bq];omega) (fZ HG hs 6 8 O);have PHo:Hi (∀w,Cs prog 168 #[Y (t.extract 8 10)] w fun e w'=>e=Rt (I J (dec t 8 10))/\w'=w):=fun w=>fK _ w (by rw[bq];omega) (fZ HG hs 8 10 O);have PMi:Hi (∀w,Cs prog 168 #[Y (t.extract 10 12)] w fun e w'=>e=Rt (I J (dec t 10 12))/\w'=w):=fun w=>fK _ w (by rw[bq];omega) (fZ HG hs 10 12 O);have PSe:Hi (∀w,Cs prog 168 #[Y (t.extract 12 14)] w fun e w'=>e=Rt (I J (dec t 12 14))/\w'=w):=fun w=>fK _ w (by rw[bq];omega) (fZ HG hs 12 14 O);have HT:Hi _:=rB hs HZ2 HG;obtain⟨y0,y1⟩:=CD HG hs 0 4 O O;obtain⟨vMo,eMo⟩:=bI (eC HG hs 4 O).1;(have lMo:vMo<100:=by have:=(eC HG hs 4 O).2;omega);rw[eMo]at PMo HT;obtain⟨vDa,eDa⟩:=bI (eC HG hs 6 O).1;(have lDa:vDa<100:=by have:=(eC HG hs 6 O).2;omega);rw[eDa]at PDa HT;obtain⟨vHo,eHo⟩:=bI (eC HG hs 8 O).1;(have lHo:vHo<100:=by have:=(eC HG hs 8 O).2;omega);rw[eHo]at PHo HT;obtain⟨vMi,eMi⟩:=bI (eC HG hs 10 O).1;(have lMi:vMi<100:=by have:=(eC HG hs 10 O).2;omega);rw[eMi]at PMi HT;obtain⟨vSe,eSe⟩:=bI (eC HG hs 12 O).1;(have lSe:vSe<100:=by have:=(eC HG hs 12 O).2;omega);rw[eSe]at PSe HT;generalize dec t 0 4=vY at PY HT y0 y1;clear HG hs eMo eDa eHo eMi eSe;go_wp2_with fail;refine bp (PY _) ?_;rintro e w2 ⟨rfl,rfl⟩;go_wp2_with fail;refine bp (PMo _) ?_;rintro e w3 ⟨rfl,rfl⟩;go_wp2_with fail;refine bp (PDa _) ?_;rintro e w4 ⟨rfl,rfl⟩;go_wp2_with fail
   all_goals first
    |(go_ret
      refine cR (fun h=>?_) (lO HW1 0)
      have hd:=(HT.1 h).1
      have hl:=mS vY vMo
      unfold mH at hd
      go_light
      simp only[bV,aD,ct,bK,ne_eq]at*
      omega)
    |(have HY:Hi (mH vY vMo vDa):=by
       have hl:=mS vY vMo
       show mH vY vMo vDa
       unfold mH
       go_light
       simp only[bV,aD,ct,bK,ne_eq]at*
       omega
      refine bp (PHo _) ?_
      rintro e w5 ⟨rfl,rfl⟩
      by_cases g1:vHo<24
      ·go_wp2_with fail
       refine bp (PMi _) ?_
       rintro e w6 ⟨rfl,rfl⟩
       by_cases g2:vMi<60
       ·go_wp2_with fail
        refine bp (PSe _) ?_
        rintro e w7 ⟨rfl,rfl⟩
        by_cases g3:vSe<60
        ·have HF:Hi (ey t):=HT.2 ⟨HY,O,O,O⟩
         have c1:decide ((vSe:Int)<60)=true:=aM O
         go_wp2_with fail
         go_ret
         exact fC HF (lO HW1 0)
        ·have HF:Hi (¬ey t):=fun h=>by have:=(HT.1 h).2.2.2;omega
         have c1:decide ((vSe:Int)<60)=false:=aE O
         go_wp2_with fail
         go_ret
         exact cR HF (lO HW1 0)
       ·have HF:Hi (¬ey t):=fun h=>by have:=(HT.1 h).2.2.1;omega
        have c1:decide ((vMi:Int)<60)=false:=aE O
        go_wp2_with fail
        go_ret
        exact cR HF (lO HW1 0)
      ·have HF:Hi (¬ey t):=fun h=>by have:=(HT.1 h).2.1;omega
       have c1:decide ((vHo:Int)<24)=false:=aE O
       go_wp2_with fail
       go_ret
       exact cR HF (lO HW1 0))
  have hz':((t[14].toNat:Int)!=90)=true:=by rw[ct];exact hz
  have HN:Hi (¬ey t):=fun h=>hz (HZ.trans h.2.1);clear hz;go_enter func126,ntmps126;go_wp2;go_ret;exact cR HN (dq w)
 have hs':((t.size:Int)!=15)=true:=by rw[ct];omega
 have HN:Hi (¬ey t):=fun h=>hs h.1;clear hs;go_enter func126,ntmps126;go_wp2;go_ret;exact cR HN (dq w)
def jZ(t:Q):Prop:=t.size=1/\(b8 t 0=0\/b8 t 0=255)
theorem oC(t:Q):t.toList.isEmpty=true↔t.size=0:=by rw[Lib.toList_data,List.isEmpty_iff,<-List.length_eq_zero_iff,kM]
theorem qu(t:Q):jZ t↔t.toList=[0]\/t.toList=[255]:=by
 unfold jZ b8;rw[Lib.toList_data,<-kM];generalize t.data.toList=l
 match l with
 | []=>simp
 | [x]=>
   have h0:((x.toNat:Int)=0↔x=0):=⟨fun h=>UInt8.toNat_inj.1 (by show x.toNat=0;omega),fun h=>by rw[h];rfl⟩
   have h1:((x.toNat:Int)=255↔x=255):=⟨fun h=>UInt8.toNat_inj.1 (by show x.toNat=255;omega),fun h=>by rw[h];rfl⟩
   show([x].length=1/\((x.toNat:Int)=0\/(x.toNat:Int)=255))↔_
   rw[h0,h1]
   simp
 |_::_::_=>simp
theorem vO(t:Q)(w:M):Cs prog 108 #[I J 1,Y t] w fun e w'=>fi (jZ t) w e w':=by
 go_enter func108,ntmps108;by_cases h1:t.size=1
 ·have e0:(t[0].toNat:Int)=b8 t 0:=cH t 0 O;have HB:Hi (jZ t↔(t[0].toNat:Int)=0\/(t[0].toNat:Int)=255):=by show jZ t↔_;rw[e0];exact⟨fun h=>h.2,fun h=>⟨h1,h⟩⟩
  clear e0;by_cases h2:(t[0].toNat:Int)=0
  ·have HY:Hi (jZ t):=HB.2 (.inl h2);go_wp2;go_ret;exact fC HY (dq w)
  go_wp2;go_ret;refine eu (Iff.trans ?_ HB.symm) (dq w);rw[eH,bV,bV]
 have HN:Hi (¬jZ t):=fun h=>h1 h.1;go_wp2;go_ret;exact cR HN (dq w)
theorem vP(t:Q)(w:M)(hm:t.size<=9223372036854775807):Cs prog 108 #[I J 2,Y t] w fun e w'=>fi (iI t) w e w':=by
 go_enter func108,ntmps108;go_wp2_with fail;refine(sH t _ hm).mono ?_;rintro e w2 ⟨r,rfl,hr,hd⟩;have HR:Hi _:=hr;have HD:Hi _:=hd;clear hr hd;go_wp2_with fail;go_ret;exact eu HR HD
theorem vQ(t:Q)(w:M):Cs prog 108 #[I J 3,Y t] w fun e w'=>fi (t.size=0) w e w':=by
 go_enter func108,ntmps108;go_wp2;go_ret;exact eu (oC t) (dq w)
theorem vR(t:Q)(w:M)(hm:t.size<=9223372036854775807):Cs prog 108 #[I J 4,Y t] w fun e w'=>fi (gI t) w e w':=by
 go_enter func108,ntmps108;go_wp2_with fail;refine(sI t _ hm).mono ?_;rintro e w2 ⟨r,rfl,hr,hd⟩;have HR:Hi _:=hr;have HD:Hi _:=hd;clear hr hd;go_wp2_with fail;go_ret;exact eu HR HD
theorem vS(t:Q)(w:M)(hm:t.size<=9223372036854775807):Cs prog 108 #[I J 5,Y t] w fun e w'=>fi (gL t) w e w':=by
 go_enter func108,ntmps108;go_wp2_with fail;refine(qL t _ hm).mono ?_;rintro e w2 ⟨r,rfl,hr,hd⟩;have HR:Hi _:=hr;have HD:Hi _:=hd;clear hr hd;go_wp2_with fail;go_ret;exact eu HR HD
theorem vT(t:Q)(w:M):Cs prog 108 #[I J 6,Y t] w fun e w'=>fi True w e w':=by
 go_enter func108,ntmps108;go_wp2;go_ret;exact fC trivial (dq w)
theorem vU(t:Q)(w:M)(hm:t.size<=140737488355328):Cs prog 108 #[I J 7,Y t] w fun e w'=>fi (j5 t) w e w':=by
 go_enter func108,ntmps108;go_wp2_with fail;refine(qM t _ hm).mono ?_;rintro e w2 ⟨r,rfl,hr,hd⟩;have HR:Hi _:=hr;have HD:Hi _:=hd;clear hr hd;go_wp2_with fail;go_ret;exact eu HR HD
theorem vV(t:Q)(w:M)(hm:t.size<=9223372036854775807):Cs prog 108 #[I J 8,Y t] w fun e w'=>fi (rS t) w e w':=by
 go_enter func108,ntmps108;go_wp2_with fail;refine(gZ t _ hm).mono ?_;rintro e w2 ⟨r,rfl,hr,hd⟩;have HR:Hi _:=hr;have HD:Hi _:=hd;clear hr hd;go_wp2_with fail;go_ret;exact eu HR HD
theorem vW(t:Q)(w:M)(hm:t.size<=9223372036854775807):Cs prog 108 #[I J 9,Y t] w fun e w'=>fi (ey t) w e w':=by
 go_enter func108,ntmps108;go_wp2_with fail;refine(m7 t _ hm).mono ?_;rintro e w2 ⟨r,rfl,hr,hd⟩;have HR:Hi _:=hr;have HD:Hi _:=hd;clear hr hd;go_wp2_with fail;go_ret;exact eu HR HD
theorem uo(k:Int)(t:Q)(w:M)(hk:k<1\/9<k):Cs prog 108 #[I J k,Y t] w fun e w'=>fi False w e w':=by
 go_enter func108,ntmps108;have g:∀c:Int,1<=c->c<=9->(k==c)=false:=fun c h1 h2=>by rw[aD];omega
 have g1:=g 1 O O;have g2:=g 2 O O;have g3:=g 3 O O;have g4:=g 4 O O;have g5:=g 5 O O;have g6:=g 6 O O;have g7:=g 7 O O;have g8:=g 8 O O;have g9:=g 9 O O;clear g;go_wp2;go_ret;exact cR id (dq w)
theorem FQ(t:Q)(w:M)(hm:t.size<=9223372036854775807):Cs prog 138 #[I J 2,Y t] w fun e w'=>fi (iI t) w e w':=by
 go_enter func138,ntmps138;go_wp2_with fail;refine(vL t _ hm).mono ?_;rintro e w2 ⟨r,rfl,hr,hd⟩;have HR:Hi _:=hr;have HD:Hi _:=hd;clear hr hd;go_wp2_with fail;go_ret;exact eu HR HD
theorem Fy9(t:Q)(w:M)(hm:t.size<=9223372036854775807):Cs prog 138 #[I J 4,Y t] w fun e w'=>fi (gI t) w e w':=by
 go_enter func138,ntmps138;go_wp2_with fail;refine(vM t _ hm).mono ?_;rintro e w2 ⟨r,rfl,hr,hd⟩;have HR:Hi _:=hr;have HD:Hi _:=hd;clear hr hd;go_wp2_with fail;go_ret;exact eu HR HD
theorem FT(t:Q)(w:M)(hm:t.size<=9223372036854775807):Cs prog 138 #[I J 5,Y t] w fun e w'=>fi (gL t) w e w':=by
 go_enter func138,ntmps138;go_wp2_with fail;refine(uj t _ hm).mono ?_;rintro e w2 ⟨r,rfl,hr,hd⟩;have HR:Hi _:=hr;have HD:Hi _:=hd;clear hr hd;go_wp2_with fail;go_ret;exact eu HR HD
theorem FX(t:Q)(w:M)(hm:t.size<=9223372036854775807):Cs prog 138 #[I J 8,Y t] w fun e w'=>fi (rS t) w e w':=by
 go_enter func138,ntmps138;go_wp2_with fail;refine(nN t _ hm).mono ?_;rintro e w2 ⟨r,rfl,hr,hd⟩;have HR:Hi _:=hr;have HD:Hi _:=hd;clear hr hd;go_wp2_with fail;go_ret;exact eu HR HD
theorem FY(t:Q)(w:M)(hm:t.size<=9223372036854775807)(hD:mT w):Cs prog 138 #[I J 9,Y t] w fun e w'=>fi (ey t) w e w':=by
 go_enter func138,ntmps138;go_wp2_with fail;refine(uk t _ hm hD).mono ?_;rintro e w2 ⟨r,rfl,hr,hd⟩;have HR:Hi _:=hr;have HD:Hi _:=hd;clear hr hd;go_wp2_with fail;go_ret;exact eu HR HD
theorem FR(t:Q)(w:M):Cs prog 138 #[I J 3,Y t] w fun e w'=>fi (t.size=0) w e w':=by
 go_enter func138,ntmps138;go_wp2;go_ret;exact eu (oC t) (dq w)
theorem FU(t:Q)(w:M):Cs prog 138 #[I J 6,Y t] w fun e w'=>fi True w e w':=by
 go_enter func138,ntmps138;go_wp2;go_ret;exact fC trivial (dq w)
theorem D2(k:Int)(t:Q)(w:M)(hk:k<1\/9<k):Cs prog 138 #[I J k,Y t] w fun e w'=>fi False w e w':=by
 go_enter func138,ntmps138;have g:∀c:Int,1<=c->c<=9->(k==c)=false:=fun c h1 h2=>by rw[aD];omega
 have g1:=g 1 O O;have g2:=g 2 O O;have g3:=g 3 O O;have g4:=g 4 O O;have g5:=g 5 O O;have g6:=g 6 O O;have g7:=g 7 O O;have g8:=g 8 O O;have g9:=g 9 O O;clear g;go_wp2;go_ret;exact cR id (dq w)
theorem FP(t:Q)(w:M):Cs prog 138 #[I J 1,Y t] w fun e w'=>fi (jZ t) w e w':=by
 go_enter func138,ntmps138;by_cases h0:t.toList=[0]
 ·have HY:Hi _:=(qu t).2 (.inl h0);go_wp2;go_ret;exact fC HY (dq w)
 go_wp2;go_ret;refine eu (Iff.trans ?_ (qu t).symm) (dq w);rw[eH,bV,bV]
end Go.Proofs.YtkkicodfpekbgaaGreatDoor
namespace Go.Proofs.YtkkicodfpekbgaaGreatDoor
open Go.Proofs.Tryz
open Go.Shelf
def uL:Ren where
 f:=fun|196=>176|259=>194|n=>n
 t:=fun|0=>0|3=>3|4=>4|5=>5|9=>9|12=>12|46=>266|53=>286|119=>275|138=>277|139=>278|n=>n
 g:=fun|3=>14|4=>15|n=>n
theorem lG:Lays.n196 prog uL where
 mixed:=Kr
 f196:=func176.trans (dj U Kr)
 f259:=func194.trans (dj U Kr)
 t0:=underlying0
 a0:=Tryz.isAgg0
 z0:=Tryz.sizeOf0
 v0:=Tryz.zeroValue0
 t3:=underlying3
 a3:=Tryz.isAgg3
 z3:=Tryz.sizeOf3
 v3:=Tryz.zeroValue3
 t4:=underlying4
 a4:=Tryz.isAgg4
 z4:=Tryz.sizeOf4
 v4:=Tryz.zeroValue4
 t5:=underlying5
 a5:=Tryz.isAgg5
 z5:=Tryz.sizeOf5
 v5:=Tryz.zeroValue5
 t9:=underlying9
 a9:=Tryz.isAgg9
 z9:=Tryz.sizeOf9
 v9:=Tryz.zeroValue9
 t12:=underlying12
 a12:=Tryz.isAgg12
 z12:=Tryz.sizeOf12
 v12:=Tryz.zeroValue12
 t46:=underlying266
 a46:=Tryz.isAgg266
 z46:=Tryz.sizeOf266
 v46:=Tryz.zeroValue266
 t53:=underlying286
 a53:=Tryz.isAgg286
 z53:=Tryz.sizeOf286
 v53:=Tryz.zeroValue286
 t119:=underlying275
 a119:=Tryz.isAgg275
 z119:=Tryz.sizeOf275
 t138:=underlying277
 a138:=Tryz.isAgg277
 z138:=Tryz.sizeOf277
 v138:=Tryz.zeroValue277
 t139:=underlying278
 a139:=Tryz.isAgg278
 z139:=Tryz.sizeOf278
 v139:=Tryz.zeroValue278
 g3:=Kr
 g4:=Kr
end Go.Proofs.YtkkicodfpekbgaaGreatDoor
namespace Go.Proofs.YtkkicodfpekbgaaGreatDoor
open Go.Proofs.Tryz
open Go.RowKit
def aR(k:Int)(t:Q):Prop:=
 (k=1/\jZ t)\/(k=2/\iI t)\/(k=3/\t.size=0)\/(k=4/\gI t)\/(k=5/\gL t)\/(k=6/\True)\/(k=7/\j5 t)\/(k=8/\rS t)\/(k=9/\ey t)
theorem gx(t:Q):jZ t↔aR 1 t:=by unfold aR;simp
theorem eM(t:Q):iI t↔aR 2 t:=by unfold aR;simp
theorem oY(t:Q):t.size=0↔aR 3 t:=by unfold aR;simp
theorem fc(t:Q):gI t↔aR 4 t:=by unfold aR;simp
theorem jT(t:Q):gL t↔aR 5 t:=by unfold aR;simp
theorem lL(t:Q):True↔aR 6 t:=by unfold aR;simp
theorem lM(t:Q):j5 t↔aR 7 t:=by unfold aR;simp
theorem jU(t:Q):rS t↔aR 8 t:=by unfold aR;simp
theorem iX(t:Q):ey t↔aR 9 t:=by unfold aR;simp
theorem nL(k:Int)(t:Q)(h:k<1\/9<k):False↔aR k t:=by
 unfold aR;refine⟨False.elim,fun c=>?_⟩;rcases c with c|c|c|c|c|c|c|c|c<;> (have:=c.1;omega)
theorem fi.to{P aq:Prop}{w w':M}{e:Ending}(h:fi P w e w')(i:P↔aq):fi aq w e w':=by obtain⟨r,h1,h2,h3⟩:=h;exact⟨r,h1,h2.trans i,h3⟩
def rT(P:Prop)(w:M)(e:Ending)(w':M):Prop:=∃r,e=Rt (Bo r)/\(r=true↔P)/\H w.heap.size w w'
theorem oU{B:Nat}{a w:M}(h:H B a w):∀q,H B a (w.drewN q)
 |0=>h
 |q+1=>(oU h q).drew
theorem fi.toW{P:Prop}{w w':M}{e:Ending}(h:fi P w e w'):rT P w e w':=by obtain⟨r,h1,h2,k,rfl⟩:=h;exact⟨r,h1,h2,oU By k⟩
theorem rT.to{P aq:Prop}{w w':M}{e:Ending}(h:rT P w e w')(i:P↔aq):rT aq w e w':=by obtain⟨r,h1,h2,h3⟩:=h;exact⟨r,h1,h2.trans i,h3⟩
theorem Fa(k:Int):(k<1\/9<k)\/k=1\/k=2\/k=3\/k=4\/k=5\/k=6\/k=7\/k=8\/k=9:=O
theorem sd(k:Int)(t:Q)(w:M)(hs:t.size<=140737488355328):Cs prog 108 #[I J k,Y t] w fun e w'=>fi (aR k t) w e w':=by
 have hm:t.size<=9223372036854775807:=O;rcases Fa k with h|rfl|rfl|rfl|rfl|rfl|rfl|rfl|rfl|rfl
 ·exact(uo k t w h).mono fun _ _ r=>r.to (nL k t h)
 ·exact(vO t w).mono fun _ _ r=>r.to (gx t)
 ·exact(vP t w hm).mono fun _ _ r=>r.to (eM t)
 ·exact(vQ t w).mono fun _ _ r=>r.to (oY t)
 ·exact(vR t w hm).mono fun _ _ r=>r.to (fc t)
 ·exact(vS t w hm).mono fun _ _ r=>r.to (jT t)
 ·exact(vT t w).mono fun _ _ r=>r.to (lL t)
 ·exact(vU t w hs).mono fun _ _ r=>r.to (lM t)
 ·exact(vV t w hm).mono fun _ _ r=>r.to (jU t)
 exact(vW t w hm).mono fun _ _ r=>r.to (iX t)
def xG(t:Q)(w:M):Prop:=Cs prog 176 #[Y t] w fun e w'=>rT (j5 t) w e w'
theorem FV(t:Q)(w:M)(hV:xG t w):Cs prog 138 #[I J 7,Y t] w fun e w'=>rT (j5 t) w e w':=by
 go_enter func138,ntmps138;go_wp2_with fail;refine bp hV ?_;rintro e w2 ⟨r,rfl,hr,hd⟩;have HR:Hi _:=hr;have HD:Hi _:=hd;clear hr hd;go_wp2_with fail;go_ret;exact⟨_,X,HR,HD⟩
theorem kH(k:Int)(t:Q)(w:M)(hm:t.size<=9223372036854775807)(hD:mT w)(hV:xG t w):Cs prog 138 #[I J k,Y t] w fun e w'=>rT (aR k t) w e w':=by
 rcases Fa k with h|rfl|rfl|rfl|rfl|rfl|rfl|rfl|rfl|rfl
 ·exact(D2 k t w h).mono fun _ _ r=>(r.to (nL k t h)).toW
 ·exact(FP t w).mono fun _ _ r=>(r.to (gx t)).toW
 ·exact(FQ t w hm).mono fun _ _ r=>(r.to (eM t)).toW
 ·exact(FR t w).mono fun _ _ r=>(r.to (oY t)).toW
 ·exact(Fy9 t w hm).mono fun _ _ r=>(r.to (fc t)).toW
 ·exact(FT t w hm).mono fun _ _ r=>(r.to (jT t)).toW
 ·exact(FU t w).mono fun _ _ r=>(r.to (lL t)).toW
 ·exact(FV t w hV).mono fun _ _ r=>r.to (lM t)
 ·exact(FX t w hm).mono fun _ _ r=>(r.to (jU t)).toW
 exact(FY t w hm hD).mono fun _ _ r=>(r.to (iX t)).toW
end Go.Proofs.YtkkicodfpekbgaaGreatDoor
