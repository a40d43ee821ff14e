/-
Several texts in one.
-/
import Derived.Test.YtkkicodfpekbgaaGreatDoorRows
import Derived.WalkSpells
import Derived.WalkLawsBesides
import Derived.BigQuiet
import Derived.Lib.Bytealg
import Derived.Deep.RegionWith
import Derived.Lib.ValidLaws
import Derived.Test.YtkkicodfpekbgaaGreatDoorJA
open Go.Value renaming int->I,string->Y,bool->Bo
open Go.IntKind renaming i64->J
open Go.Ending renaming returned->Rt
open Option renaming some->U,none->Z
open Go renaming World->M,Calls->Cs,Value->Vv
open _root_ renaming ByteArray->Q,Option->Oo,List->Ls
open Go.RowKit renaming intOf->Io,Hid->Hi
open UInt8 renaming ofNat->Uo
open Go.Addr renaming mk->D
set_option linter.unusedSimpArgs false
set_option linter.unusedVariables false
set_option maxRecDepth 100000
set_option maxHeartbeats 8000000
namespace Go.Proofs.YtkkicodfpekbgaaGreatDoor
theorem gJ{t:Q}(h:t.size=0):t.toList.isEmpty=true:=by
 rw[Lib.toList_data];have:t.data.toList.length=0:=by rw[cq];exact h
 cases hl:t.data.toList with
 |nil=>rfl
 |cons a l=>rw[hl]at this;simp at this
theorem dR{t:Q}(h:0<t.size):t.toList.isEmpty=false:=by
 rw[Lib.toList_data];have h2:t.data.toList.length=t.size:=by rw[cq];rfl
 cases hl:t.data.toList with
 |nil=>rw[hl]at h2;simp at h2;omega
 |cons a l=>rfl
def b8(t:Q)(i:Nat):Int:=((t.data.toList.getD i 0).toNat:Int)
theorem cH(t:Q)(i:Nat)(h:i<t.size):(t[i].toNat:Int)=b8 t i:=by
 unfold b8;have hl:i<t.data.toList.length:=by rw[cq];exact h
 rw[aB,aC hl];rfl
theorem gu(t:Q)(i:Nat):0<=b8 t i/\b8 t i<256:=by
 unfold b8;have:=(t.data.toList.getD i 0).toNat_lt;omega
theorem kY(t:Q)(a i:Nat)(_h:a<=t.size):b8 (t.extract a t.size) i=b8 t (a+i):=by
 unfold b8;rw[Lib.extract_data];have e:(t.data.toList.drop a).take (t.size-a)=t.data.toList.drop a:=by apply cZ;rw[di,cq];exact Ln
 first
  |(rw[e];simp[aB])
  |(simp[aB];done)
def bH(t:Q):Nat->Int
 |0=>0
 |k+1=>bH t k*256+b8 t (k+1)
theorem gy(t:Q):∀k:Nat,0<=bH t k/\(k<=3->bH t k<16777216)/\(k<=2->bH t k<65536)/\(k<=1->bH t k<256)
 |0=>by simp[bH]
 |k+1=>by
  have ih:=gy t k
  have hb:=gu t (k+1)
  simp only[bH]
  refine⟨O,fun h=>?_,fun h=>?_,fun h=>?_⟩
  ·have:=ih.2.2.1 O;omega
  ·have:=ih.2.2.2 O;omega
  ·have:k=0:=O
   subst this
   simp only[bH];omega
def cnt(n:Int):Int:=if n<128 then 0 else if n<256 then 1 else if n<65536 then 2 else 3
theorem cnt_cases(n:Int):(n<128/\cnt n=0)\/(128<=n/\n<256/\cnt n=1)\/(256<=n/\n<65536/\cnt n=2)\/(65536<=n/\cnt n=3):=by
 unfold cnt;repeat' split
 all_goals omega
theorem ik(n:Int)(h₀:0<=n)(h₁:n<2^63):IntKind.i64.wrap n=n:=by rw[db];omega
theorem zO(x y:Int)(h0:0<=x)(h1:x<4611686018427387904)(hx:x%256=0)(h2:0<=y)(h3:y<256):bits .or J x y=x+y:=
 bits_join J 63 Dc ik 8 x y h0 hx O h2 h3 O
theorem zN(x y:Int)(h0:0<=x)(h1:x<4611686018427387904)(hx:x%64=0)(h2:0<=y)(h3:y<64):bits .or J x y=x+y:=
 bits_join J 63 Dc ik 6 x y h0 hx O h2 h3 O
theorem AQ(x:Int)(h0:0<=x)(h1:x<256):bits .and J x 31=x%32:=bits_mask J 63 Dc ik 5 Dc x h0 O
theorem AR(x:Int)(h0:0<=x)(h1:x<256):(bits .and J x 32!=0)=(x/32%2==1):=by
 have all:∀j:Fin 256,(bits .and J ((j.val:Nat):Int) 32!=0)=(((j.val:Nat):Int)/32%2==1):=by decide+kernel
 obtain⟨a,rfl⟩:=bI h0;exact all ⟨a,O⟩
theorem CM(c n:Int)(h0:0<=c)(h1:c<=3)(h2:0<=n)(h3:n<=30):bits .or J (c*64+n) 32=c*64+n+32:=by
 have all:∀j:Fin 4,∀k:Fin 31,bits .or J (((j.val:Nat):Int)*64+((k.val:Nat):Int)) 32=((j.val:Nat):Int)*64+((k.val:Nat):Int)+32:=by decide+kernel
 obtain⟨a,rfl⟩:=bI h0;obtain⟨b,rfl⟩:=bI h2;exact all ⟨a,O⟩ ⟨b,O⟩
def rl(t:Q):Int×Int×Int:=
 if t.size=0 then(3,0,0)
 else if b8 t 0<128 then(0,1,b8 t 0)
 else if b8 t 0=128\/131<b8 t 0 then(5,0,0)
 else if(t.size:Int)<=b8 t 0-128 then(3,0,0)
 else if b8 t 0-128≠cnt (bH t (b8 t 0-128).toNat)then(5,0,0)
 else(0,1+(b8 t 0-128),bH t (b8 t 0-128).toNat)
structure Hd where
 c:Int
 b:Bool
 n:Int
 s:Int
 l:Int
def Hd.zero:Hd:=⟨0,false,0,0,0⟩
def hd(r:Q):Int×Hd:=
 if r.size=0 then(3,.zero)
 else if b8 r 0%32=31 then(4,.zero)
 else if(rl (r.extract 1 r.size)).1≠0 then((rl (r.extract 1 r.size)).1,.zero)
 else if(r.size:Int)-((rl (r.extract 1 r.size)).2.1+1)<(rl (r.extract 1 r.size)).2.2 then(3,.zero)
 else(0,⟨b8 r 0/64,b8 r 0/32%2==1,b8 r 0%32,(rl (r.extract 1 r.size)).2.1+1,(rl (r.extract 1 r.size)).2.2⟩)
theorem zY(t:Q):((rl t).1=0\/(rl t).1=3\/(rl t).1=5)/\0<=(rl t).2.1/\(rl t).2.1<=4/\0<=(rl t).2.2/\(rl t).2.2<16777216:=by
 have hb:=gu t 0;unfold rl;split
 ·simp
 split
 ·simp;omega
 split
 ·simp
 split
 ·simp
 split
 ·simp
 rename_i h1 h2 h3 h4 h5;have hn:=gy t (b8 t 0-128).toNat;have:=hn.2.1 O;refine⟨.inl X,?_,?_,hn.1,this⟩ <;>simp only<;>omega
def tl(n:Int):Ls UInt8:=
 if n<128 then [Uo n.toNat]
 else if n<256 then [129,Uo n.toNat]
 else if n<65536 then [130,Uo (n/256).toNat,Uo (n%256).toNat]
 else [131,Uo (n/65536).toNat,Uo (n/256%256).toNat,Uo (n%256).toNat]
theorem fM(n:Int):((tl n).length:Int)=1+cnt n:=by
 unfold tl cnt;split
 ·rfl
 split
 ·rfl
 split<;>rfl
def fb(h:Hd):Int:=if h.b then h.c*64+h.n+32 else h.c*64+h.n
def Hn(h:Hd):Int×Ls UInt8:=
 if h.c<0\/3<h.c\/h.n<0\/30<h.n then(4,[])
 else if h.l<0\/16777215<h.l then(5,[])
 else(0,Uo (fb h).toNat::tl h.l)
def bv(u:UInt8):Vv:=I .u8 u.toNat
theorem jy(x:Int)(h0:0<=x)(h1:x<256):bv (Uo x.toNat)=I .u8 x:=by
 unfold bv;have:(Uo x.toNat).toNat=x.toNat:=by rw[IF];omega
 rw[this,dh h0]
def iI(t:Q):Prop:=1<=t.size/\t.size<=20/\(2<=t.size->b8 t 0*2+b8 t 1/128≠0/\b8 t 0*2+b8 t 1/128≠511)
def BP(t:Q)(k:Nat):Prop:=k=0\/b8 t (k-1)<128
def jD(t:Q)(k:Nat):Prop:=∀j,j<k->¬(BP t j/\b8 t j=128)
def gI(t:Q):Prop:=1<=t.size/\t.size<=20/\jD t t.size/\BP t t.size
theorem lk(t:Q)(k:Nat):jD t (k+1)↔jD t k/\¬(BP t k/\b8 t k=128):=by
 unfold jD;constructor
 ·intro h;exact⟨fun j hj=>h j O,h k O⟩
 intro h j hj;by_cases e:j=k
 ·subst e;exact h.2
 exact h.1 j O
theorem qX(t:Q):jD t 0:=fun _ h=>Ab h (aO _)
theorem yM(t:Q)(k:Nat)(hk:k<t.size)(h:BP t k/\b8 t k=128):¬gI t:=fun o=>o.2.2.1 k hk h
def gL(t:Q):Prop:=1<=t.size/\b8 t 0<=7/\(t.size=1->b8 t 0=0)/\(2<=t.size->b8 t (t.size-1)%2^(b8 t 0).toNat=0)
theorem D5(x y:Int)(h0:0<=x)(h1:x<4611686018427387904)(hx:x%2=0)(h2:0<=y)(h3:y<2):bits .or J x y=x+y:=
 bits_join J 63 Dc ik 1 x y h0 hx O h2 h3 O
def tz8(x:Nat):Nat:=if x=0 then 8 else(List.range 8).findIdx (fun k=>x/2^k%2=1)
theorem Gt:∀x:Fin 256,∀k:Fin 8,(k.val<=tz8 x.val↔x.val%2^k.val=0):=by decide+kernel
end Go.Proofs.YtkkicodfpekbgaaGreatDoor
namespace Go.Proofs.YtkkicodfpekbgaaGreatDoor
open Go.Proofs.Tryz
open Go.RowKit
def fi(P:Prop)(w:M)(e:Ending)(w':M):Prop:=∃r,e=Rt (Bo r)/\(r=true↔P)/\∃k,w'=w.drewN k
theorem cR{P:Prop}{w w':M}(h:¬P)(hw:∃k,w'=w.drewN k):fi P w (Rt (Bo false)) w':=⟨false,X,⟨fun e=>(by cases e),fun p=>Ab p h⟩,hw⟩
theorem fC{P:Prop}{w w':M}(h:P)(hw:∃k,w'=w.drewN k):fi P w (Rt (Bo true)) w':=⟨true,X,⟨fun _=>h,fun _=>rfl⟩,hw⟩
theorem eu{P:Prop}{w w':M}{r:Bool}(h:r=true↔P)(hw:∃k,w'=w.drewN k):fi P w (Rt (Bo r)) w':=⟨r,X,h,hw⟩
def GQ(P:Prop)(v:Vv):Prop:=∃q:Bool,v=Bo q/\(q=true↔P)
theorem dq(w:M):∃k,w=w.drewN k:=⟨0,X⟩
theorem vL(t:Q)(w:M)(hm:t.size<=9223372036854775807):Cs prog 173 #[Y t] w fun e w'=>fi (iI t) w e w':=by
 by_cases h1:t.size<1
 ·clear hm;go_enter func173,ntmps173;go_wp2;go_ret;exact cR (fun h:iI t=>by have:=h.1;omega) (dq w)
 by_cases h2:20<t.size
 ·have h2':(20:Int)<t.size:=O;go_enter func173,ntmps173;go_wp2;go_ret;exact cR (fun h:iI t=>by have:=h.2.1;omega) (dq w)
 by_cases h3:t.size=1
 ·have h3':((t.size:Int)==1)=true:=by rw[h3];rfl
  have HI:Hi (iI t):=⟨O,O,O⟩;clear h3;go_enter func173,ntmps173;go_wp2;go_ret;exact fC HI (dq w)
 have h3':((t.size:Int)==1)=false:=by rw[aD];omega
 have h4:(0:Int)<t.size:=O;have h5:(1:Int)<t.size:=O;have h6:0<t.size:=O;have h7:1<t.size:=O;have e0:=cH t 0 h6;have e1:=cH t 1 h7;have b0:=gu t 0;have b1:=gu t 1;have x0:(t[0].toNat:Int)<256:=O;have x1:(t[1].toNat:Int)<256:=O;have HE:Hi (bits .or J ((t[0].toNat:Int)*2) ((t[1].toNat:Int)/128)=b8 t 0*2+b8 t 1/128):=by show _=_;rw[e0,e1,D5 _ _ O O O O O]
 have HI:Hi (iI t↔b8 t 0*2+b8 t 1/128≠0/\b8 t 0*2+b8 t 1/128≠511):=⟨fun h=>h.2.2 O,fun h=>⟨O,O,fun _=>h⟩⟩;clear e0 e1;go_enter func173,ntmps173;go_wp2;go_quiet (fail);rw[HE.out];generalize b8 t 0*2+b8 t 1/128=x at HI;by_cases h8:x=0
 ·have h8':(x !=0)=false:=by rw[bK];exact h8
  have HN:Hi _:=fun h=>(HI.1 h).1 h8;clear h8;go_wp2;go_ret;exact cR HN ⟨_,X⟩
 have h8':(x !=0)=true:=by rw[ct];exact h8
 by_cases h9:x=511
 ·have h9':(x !=511)=false:=by rw[bK];exact h9
  have HN:Hi _:=fun h=>(HI.1 h).2 h9;clear h9 h8;go_wp2;go_ret;exact cR HN ⟨_,X⟩
 have h9':(x !=511)=true:=by rw[ct];exact h9
 have HN:Hi (iI t):=HI.2 ⟨h8,h9⟩;clear h9 h8;go_wp2;go_ret;exact fC HN ⟨_,X⟩
theorem sH(t:Q)(w:M)(hm:t.size<=9223372036854775807):Cs prog 124 #[Y t] w fun e w'=>fi (iI t) w e w':=by
 by_cases h1:t.size<1
 ·have h1':((t.size:Int)==0)=true:=by rw[bV];omega
  go_enter func124,ntmps124;go_wp2;go_ret;exact cR (fun h:iI t=>by have:=h.1;omega) (dq w)
 have h1':((t.size:Int)==0)=false:=by rw[aD];omega
 by_cases h2:20<t.size
 ·have h2':(20:Int)<t.size:=O;go_enter func124,ntmps124;go_wp2;go_ret;exact cR (fun h:iI t=>by have:=h.2.1;omega) (dq w)
 by_cases h3:t.size=1
 ·have h3':((t.size:Int)==1)=true:=by rw[h3];rfl
  have HI:Hi (iI t):=⟨O,O,O⟩;clear h3;go_enter func124,ntmps124;go_wp2;go_ret;exact fC HI (dq w)
 have h3':((t.size:Int)==1)=false:=by rw[aD];omega
 have h4:(0:Int)<t.size:=O;have h5:(1:Int)<t.size:=O;have h6:0<t.size:=O;have h7:1<t.size:=O;have e0:=cH t 0 h6;have e1:=cH t 1 h7;have b0:=gu t 0;have b1:=gu t 1;have x0:(t[0].toNat:Int)<256:=O;have x1:(t[1].toNat:Int)<256:=O;have HE:Hi ((2:Int)*(t[0].toNat:Int)+(t[1].toNat:Int)/128=b8 t 0*2+b8 t 1/128):=by show _=_;rw[e0,e1];omega
 have HI:Hi (iI t↔b8 t 0*2+b8 t 1/128≠0/\b8 t 0*2+b8 t 1/128≠511):=⟨fun h=>h.2.2 O,fun h=>⟨O,O,fun _=>h⟩⟩;clear e0 e1;go_enter func124,ntmps124;go_wp2;go_quiet (fail);rw[HE.out];generalize b8 t 0*2+b8 t 1/128=x at HI;by_cases h8:x=0
 ·have h8':(x !=0)=false:=by rw[bK];exact h8
  have HN:Hi _:=fun h=>(HI.1 h).1 h8;clear h8;go_wp2;go_ret;exact cR HN ⟨_,X⟩
 have h8':(x !=0)=true:=by rw[ct];exact h8
 by_cases h9:x=511
 ·have h9':(x !=511)=false:=by rw[bK];exact h9
  have HN:Hi _:=fun h=>(HI.1 h).2 h9;clear h9 h8;go_wp2;go_ret;exact cR HN ⟨_,X⟩
 have h9':(x !=511)=true:=by rw[ct];exact h9
 have HN:Hi (iI t):=HI.2 ⟨h8,h9⟩;clear h9 h8;go_wp2;go_ret;exact fC HN ⟨_,X⟩
theorem vM(t:Q)(w:M)(hm:t.size<=9223372036854775807):Cs prog 174 #[Y t] w fun e w'=>fi (gI t) w e w':=by
 by_cases h1:t.size<1
 ·clear hm;go_enter func174,ntmps174;go_wp2;go_ret;exact cR (fun h:gI t=>by have:=h.1;omega) (dq w)
 by_cases h2:20<t.size
 ·have h2':(20:Int)<t.size:=O;go_enter func174,ntmps174;go_wp2;go_ret;exact cR (fun h:gI t=>by have:=h.2.1;omega) (dq w)
 go_enter func174,ntmps174;go_wp2;go_loop [3,15] (fun bt i=>∃k:Nat,k<=t.size/\i=I J k/\jD t k/\GQ (BP t k) bt) (fun _ i=>t.size-(Io i).toNat);case atStart=>exact⟨0,O,X,qX t,true,X,⟨fun _=> .inl X,fun _=>rfl⟩⟩
 obtain⟨k,hk,rfl,ho,q,rfl,hq⟩:=hrel;have HO:Hi _:=ho;have HQ:Hi _:=hq;clear ho hq;by_cases hlt:k<t.size
 ·have HE:Hi _:=cH t k hlt;by_cases hb:(t[k].toNat:Int)=128
  ·have hb':((t[k].toNat:Int)==128)=true:=bV.2 hb;cases q
   ·have HX:Hi (jD t (k+1)):=(lk t k).2 ⟨HO,fun h=>by cases HQ.2 h.1⟩;have HY:Hi (¬BP t (k+1)):=fun h=>by
     rcases h with h|h
     ·omega
     rw[fy,<-HE.out]at h;omega
    have hd:decide ((t[k].toNat:Int)<128)=false:=aE O;clear hb;go_wp2;go_round;case rel=>exact⟨k+1,O,Gn,HX,false,X,⟨fun e=>(by cases e),fun h=>Ab h HY⟩⟩
    case measure=>exact Ms
   have HN:Hi (¬gI t):=yM t k hlt ⟨HQ.1 X,by rw[<-HE.out];exact hb⟩;clear hb;go_wp2;go_ret;exact cR HN (dq w)
  have hb':((t[k].toNat:Int)==128)=false:=aD.2 hb;have HX:Hi (jD t (k+1)):=(lk t k).2 ⟨HO,fun h=>hb (HE.trans h.2)⟩;have HY:Hi (decide ((t[k].toNat:Int)<128)=true↔BP t (k+1)):=by show _↔_;rw[cK,HE.out];exact⟨fun h=> .inr (by rw[fy];exact h),fun h=>by rcases h with h|h;(·omega);(·rw[fy]at h;exact h)⟩
  clear hb;cases q;all_goals
   go_wp2;go_round;case rel=>exact⟨k+1,O,Gn,HX,_,X,HY⟩
   case measure=>exact Ms
 have hkc:t.size=k:=O;have HF:Hi (q=true↔gI t):=⟨fun h=>⟨O,O,by rw[hkc];exact HO,by rw[hkc];exact HQ.1 h⟩,fun h=>HQ.2 (by rw[<-hkc];exact h.2.2.2)⟩;clear hkc;go_wp2;go_ret;exact eu HF (dq w)
theorem sI(t:Q)(w:M)(hm:t.size<=9223372036854775807):Cs prog 129 #[Y t] w fun e w'=>fi (gI t) w e w':=by
 by_cases h1:t.size<1
 ·have h1':((t.size:Int)==0)=true:=by rw[bV];omega
  go_enter func129,ntmps129;go_wp2;go_ret;exact cR (fun h:gI t=>by have:=h.1;omega) (dq w)
 have h1':((t.size:Int)==0)=false:=by rw[aD];omega
 by_cases h2:20<t.size
 ·have h2':(20:Int)<t.size:=O;go_enter func129,ntmps129;go_wp2;go_ret;exact cR (fun h:gI t=>by have:=h.2.1;omega) (dq w)
 have h3:t.size-1<t.size:=O;have HL:Hi _:=cH t (t.size-1) h3;have h20:(t.size:Int)<=20:=O;by_cases h4:127<(t[t.size-1].toNat:Int)
 ·have HN:Hi (¬gI t):=fun h=>by
   rcases h.2.2.2 with h|h
   ·omega
   rw[<-HL.out]at h;omega
  go_enter func129,ntmps129;go_wp2;go_ret;exact cR HN (dq w)
 have HB:Hi (BP t t.size):= .inr (by rw[<-HL.out];omega);have hd:decide (127<(t[t.size-1].toNat:Int))=false:=aE h4;go_enter func129,ntmps129;go_wp2;go_loop [3] (fun i=>∃k:Nat,k<=t.size/\i=I J k/\jD t k) (fun i=>t.size-(Io i).toNat);case atStart=>exact⟨0,O,X,qX t⟩
 obtain⟨k,hk,rfl,ho⟩:=hrel;have HO:Hi _:=ho;clear ho;by_cases hlt:k<t.size
 ·have HE:Hi _:=cH t k hlt;by_cases hb:(t[k].toNat:Int)=128
  ·have hb':((t[k].toNat:Int)==128)=true:=bV.2 hb;by_cases hz:k=0
   ·have HN:Hi (¬gI t):=yM t k hlt ⟨.inl hz,by rw[<-HE.out];exact hb⟩;(have hz':((k:Int)==0)=true:=by rw[bV];omega);clear hb hz;go_wp2;go_ret;exact cR HN (dq w)
   (have hz':((k:Int)==0)=false:=by rw[aD];omega);have hk1:k-1<t.size:=O;have HP:Hi _:=cH t (k-1) hk1;by_cases hp:(t[k-1].toNat:Int)<128
   ·have HN:Hi (¬gI t):=yM t k hlt ⟨.inr (by rw[<-HP.out];exact hp),by rw[<-HE.out];exact hb⟩;have hpos:1<=k:=O;clear hb hz;go_wp2;go_ret;exact cR HN (dq w)
   have HX:Hi (jD t (k+1)):=(lk t k).2 ⟨HO,fun h=>by
    rcases h.1 with h|h
    ·omega
    rw[<-HP.out]at h;omega⟩
   have hpos:1<=k:=O;clear hb hz;go_wp2;go_round;case rel=>exact⟨k+1,O,Gn,HX⟩
   case measure=>exact Ms
  have hb':((t[k].toNat:Int)==128)=false:=aD.2 hb;have HX:Hi (jD t (k+1)):=(lk t k).2 ⟨HO,fun h=>hb (HE.trans h.2)⟩;clear hb;go_wp2;go_round;case rel=>exact⟨k+1,O,Gn,HX⟩
  case measure=>exact Ms
 have hkc:t.size=k:=O;have HF:Hi (gI t):=⟨O,O,by rw[hkc];exact HO,HB⟩;clear hkc;go_wp2;go_ret;exact fC HF (dq w)
def Ac:Ls UInt8:=[32,39,40,41,43,44,45,46,47,58,61,63]
def pr(x:Nat):Bool:=(65<=x&&x<=90)||(97<=x&&x<=122)||(48<=x&&x<=57)||Ac.contains (Uo x)
def rS(t:Q):Prop:=∀i,i<t.size->pr (b8 t i).toNat=true
theorem AS:∀x:Fin 256,decide (0<=Lib.indexByte Ac (Nat.toUInt8 x.val))=Ac.contains (Uo x.val):=by decide+kernel
def kK:Ls UInt8:=[48,49,50,51,52,53,54,55,56,57,97,98,99,100,101,102,103,104,105,106,107,108,109,110,111,112,113,114,115,116,117,118,119,120,121,122,65,66,67,68,69,70,71,72,73,74,75,76,77,78,79,80,81,82,83,84,85,86,87,88,89,90,32,39,40,41,43,44,45,46,47,58,61,63]
theorem Gc:∀x:Fin 256,pr x.val=kK.contains (Uo x.val):=by decide+kernel
theorem tQ(t:Q)(c:Int)(w:M):(callFunc 212 #[Y t,I .u8 c]).run prog w= .ok (.value (I J (Lib.indexByte t.data.toList c.toNat.toUInt8))) w:=by rw[@cf prog 212 _ Extern.BytealgIndexByte.indexByte func212 Kr Kr Kr Kr,Lib.run_indexByteString];rfl
theorem kL{a b:Bool}(h:a=b):Ending.returned (Bo a)=Rt (Bo b):=by rw[h]
theorem po(x:Nat)(w:M)(hx:x<256):Cs prog 195 #[I .u8 x] w fun e w'=>e=Rt (Bo (pr x))/\w'=w:=by
 by_cases h1:65<=x/\x<=90
 ·have HP:Hi (true=pr x):=by show _=_;simp[pr,h1]
  obtain⟨h1,h2⟩:=h1;go_enter func195,ntmps195;go_wp2;go_ret;exact⟨kL HP,X⟩
 by_cases h2:97<=x/\x<=122
 ·have HP:Hi (true=pr x):=by show _=_;simp[pr,h2]
  have h3:decide ((x:Int)<=90)=false:=aE O;obtain⟨h4,h5⟩:=h2;clear h1;go_enter func195,ntmps195;go_wp2;go_ret;exact⟨kL HP,X⟩
 by_cases h3:48<=x/\x<=57
 ·have HP:Hi (true=pr x):=by show _=_;simp[pr,h3]
  have h4:decide ((65:Int)<=(x:Int))=false:=aE O;have h5:decide ((97:Int)<=(x:Int))=false:=aE O;obtain⟨h6,h7⟩:=h3;clear h1 h2;go_enter func195,ntmps195;go_wp2;go_ret;exact⟨kL HP,X⟩
 have HP:Hi (decide (0<=Lib.indexByte Ac (Nat.toUInt8 x))=pr x):=by show _=_;rw[AS ⟨x,hx⟩];have e1:(decide (65<=x)&&decide (x<=90))=false:=So;have e2:(decide (97<=x)&&decide (x<=122))=false:=So;have e3:(decide (48<=x)&&decide (x<=57))=false:=So;simp only[pr,e1,e2,e3,oh]
 have hi:=tQ;by_cases q1:x<48
 ·have c0:decide ((65:Int)<=(x:Int))=false:=aE O;have c1:decide ((x:Int)<=90)=true:=aM O;have c2:decide ((97:Int)<=(x:Int))=false:=aE O;have c3:decide ((x:Int)<=122)=true:=aM O;have c4:decide ((48:Int)<=(x:Int))=false:=aE O;have c5:decide ((x:Int)<=57)=true:=aM O;clear h1 h2 h3 hx;go_enter func195,ntmps195;go_wp2;go_ret;exact⟨kL HP,X⟩
 by_cases q2:x<65
 ·have c0:decide ((65:Int)<=(x:Int))=false:=aE O;have c1:decide ((x:Int)<=90)=true:=aM O;have c2:decide ((97:Int)<=(x:Int))=false:=aE O;have c3:decide ((x:Int)<=122)=true:=aM O;have c4:decide ((48:Int)<=(x:Int))=true:=aM O;have c5:decide ((x:Int)<=57)=false:=aE O;clear h1 h2 h3 hx;go_enter func195,ntmps195;go_wp2;go_ret;exact⟨kL HP,X⟩
 by_cases q3:x<97
 ·have c0:decide ((65:Int)<=(x:Int))=true:=aM O;have c1:decide ((x:Int)<=90)=false:=aE O;have c2:decide ((97:Int)<=(x:Int))=false:=aE O;have c3:decide ((x:Int)<=122)=true:=aM O;have c4:decide ((48:Int)<=(x:Int))=true:=aM O;have c5:decide ((x:Int)<=57)=false:=aE O;clear h1 h2 h3 hx;go_enter func195,ntmps195;go_wp2;go_ret;exact⟨kL HP,X⟩
 have c0:decide ((65:Int)<=(x:Int))=true:=aM O;have c1:decide ((x:Int)<=90)=false:=aE O;have c2:decide ((97:Int)<=(x:Int))=true:=aM O;have c3:decide ((x:Int)<=122)=false:=aE O;have c4:decide ((48:Int)<=(x:Int))=true:=aM O;have c5:decide ((x:Int)<=57)=false:=aE O;clear h1 h2 h3 hx;go_enter func195,ntmps195;go_wp2;go_ret;exact⟨kL HP,X⟩
theorem F0(x:Nat)(s:Q)(w:M)(hm:s.size<=9223372036854775807):Cs prog 166 #[I .u8 x,Y s] w fun e w'=>fi (∃j,j<s.size/\b8 s j=x) w e w':=by
 go_enter func166,ntmps166;go_wp2;go_loop [5] (fun i=>∃k:Nat,k<=s.size/\i=I J k/\∀j,j<k->b8 s j≠x) (fun i=>s.size-(Io i).toNat);case atStart=>exact⟨0,O,X,fun j h=>Ab h (aO _)⟩
 obtain⟨k,hk,rfl,hj⟩:=hrel;have HJ:Hi (∀j,j<k->b8 s j≠x):=hj;clear hj;by_cases hlt:k<s.size
 ·have HE:Hi _:=cH s k hlt;by_cases hb:(s[k].toNat:Int)=x
  ·have hb':((s[k].toNat:Int)==x)=true:=bV.2 hb;have HY:Hi (∃j,j<s.size/\b8 s j=x):=⟨k,hlt,by rw[<-HE.out];exact hb⟩;clear hb;go_wp2;go_ret;exact fC HY (dq w)
  have hb':((s[k].toNat:Int)==x)=false:=aD.2 hb;have HX:Hi (∀j,j<k+1->b8 s j≠x):=fun j hj=>by
   by_cases e:j=k
   ·subst e;rw[<-HE.out];exact hb
   exact HJ j O
  clear hb;go_wp2;go_round;case rel=>exact⟨k+1,O,Gn,HX⟩
  case measure=>exact Ms
 have HN:Hi (¬∃j,j<s.size/\b8 s j=x):=fun⟨j,h1,h2⟩=>HJ j O h2;go_wp2;go_ret;exact cR HN (dq w)
theorem zD(t s:Q)(w:M)(ht:t.size<=9223372036854775807)(hm:s.size<=9223372036854775807):Cs prog 123 #[Y t,Y s] w fun e w'=>fi (∀i,i<t.size->∃j,j<s.size/\b8 s j=b8 t i) w e w':=by
 go_enter func123,ntmps123;go_wp2;go_loopw [5] (fun i wr=>∃k:Nat,k<=t.size/\i=I J k/\(∀i,i<k->∃j,j<s.size/\b8 s j=b8 t i)/\∃q,wr=w.drewN q) (fun i _=>t.size-(Io i).toNat);case atStart=>exact⟨0,O,X,fun j h=>Ab h (aO _),dq w⟩
 obtain⟨k,hk,rfl,hj,hw⟩:=hrel;have HJ:Hi _:=hj;have HW:Hi (∃q,wr=w.drewN q):=hw;clear hj hw;by_cases hlt:k<t.size
 ·have HE:Hi _:=cH t k hlt;go_wp2_with fail;refine(F0 t[k].toNat s _ hm).mono ?_;rintro e w2 ⟨r,rfl,hr,hd⟩;have HR:Hi _:=hr;have HD:Hi (∃q,w2=w.drewN q):=by obtain⟨a,e1⟩:=HW.out;obtain⟨b,e2⟩:=hd;exact⟨a+b,by rw[e2,e1,World.drewN_drewN]⟩
  clear hr hd;cases r
  ·(have HN:Hi (¬∀i,i<t.size->∃j,j<s.size/\b8 s j=b8 t i):=fun h=>by have:=h k hlt;rw[<-HE.out]at this;cases HR.2 this);go_wp2;go_ret;exact cR HN HD
  have HX:Hi (∀i,i<k+1->∃j,j<s.size/\b8 s j=b8 t i):=fun i hi=>by
   by_cases e:i=k
   ·subst e;rw[<-HE.out];exact HR.1 X
   exact HJ i O
  go_wp2;go_roundw;case rel=>exact⟨k+1,O,Gn,HX,HD⟩
  case measure=>exact Ms
 have HY:Hi (∀i,i<t.size->∃j,j<s.size/\b8 s j=b8 t i):=fun i hi=>HJ i O;go_wp2;go_ret;exact fC HY HW
theorem nN(t:Q)(w:M)(hm:t.size<=9223372036854775807):Cs prog 177 #[Y t] w fun e w'=>fi (rS t) w e w':=by
 go_enter func177,ntmps177;go_wp2;go_loop [6] (fun i=>∃k:Nat,k<=t.size/\i=I J k/\∀i,i<k->pr (b8 t i).toNat=true) (fun i=>t.size-(Io i).toNat);case atStart=>exact⟨0,O,X,fun j h=>Ab h (aO _)⟩
 obtain⟨k,hk,rfl,hj⟩:=hrel;have HJ:Hi _:=hj;clear hj;by_cases hlt:k<t.size
 ·have HE:Hi ((b8 t k).toNat=t[k].toNat):=by show _=_;rw[<-cH t k hlt];rfl
  have hx:t[k].toNat<256:=t[k].toNat_lt;go_wp2_with fail;refine(po t[k].toNat _ hx).mono ?_;rintro e w2 ⟨rfl,hw⟩;subst hw;cases hb:pr t[k].toNat
  ·(have HN:Hi (¬rS t):=fun h=>by have:=h k hlt;rw[HE,hb]at this;cases this);clear hb;go_wp2;go_ret;exact cR HN (dq _)
  have HX:Hi (∀i,i<k+1->pr (b8 t i).toNat=true):=fun i hi=>by
   by_cases e:i=k
   ·subst e;rw[HE.out];exact hb
   exact HJ i O
  clear hb;go_wp2;go_round;case rel=>exact⟨k+1,O,Gn,HX⟩
  case measure=>exact Ms
 have HY:Hi (rS t):=fun i hi=>HJ i O;go_wp2;go_ret;exact fC HY (dq w)
theorem re:(⟨kK.toArray⟩:Q).size=74:=by decide+kernel
theorem CY:∀x:Fin 256,(kK.contains (Uo x.val)=true↔∃j:Fin 74,((kK.getD j.val 0).toNat)=x.val):=by decide+kernel
theorem CZ(t:Q):(∀i,i<t.size->∃j,j<(⟨kK.toArray⟩:Q).size/\b8 ⟨kK.toArray⟩ j=b8 t i)↔rS t:=by
 unfold rS;have key:∀i,(∃j,j<(⟨kK.toArray⟩:Q).size/\b8 ⟨kK.toArray⟩ j=b8 t i)↔pr (b8 t i).toNat=true:=fun i=>by
  have hb:=gu t i;have hx:(b8 t i).toNat<256:=O;rw[Gc ⟨_,hx⟩,CY ⟨_,hx⟩,re];constructor
  ·rintro⟨j,hj,e⟩;refine⟨⟨j,hj⟩,?_⟩;(have:b8 ⟨kK.toArray⟩ j=((kK.getD j 0).toNat:Int):=by simp[b8]);simp only;omega
  rintro⟨j,e⟩;refine⟨j.val,j.isLt,?_⟩;have:b8 ⟨kK.toArray⟩ j.val=((kK.getD j.val 0).toNat:Int):=by simp[b8]
  simp only at e;omega
 exact⟨fun h i hi=>(key i).1 (h i hi),fun h i hi=>(key i).2 (h i hi)⟩
theorem gZ(t:Q)(w:M)(hm:t.size<=9223372036854775807):Cs prog 81 #[Y t] w fun e w'=>fi (rS t) w e w':=by
 go_enter func81,ntmps81;go_wp2_with fail;refine(zD t ⟨kK.toArray⟩ _ hm (by rw[re];decide)).mono ?_;rintro e w2 ⟨r,rfl,hr,hd⟩;have HR:Hi _:=hr.trans (CZ t);have HD:Hi _:=hd;clear hr hd;go_wp2_with fail;go_ret;exact eu HR HD
def Dt:Q:=⟨#[8,0,1,0,2,0,1,0,3,0,1,0,2,0,1,0,4,0,1,0,2,0,1,0,3,0,1,0,2,0,1,0,5,0,1,0,2,0,1,0,3,0,1,0,2,0,1,0,4,0,1,0,2,0,1,0,3,0,1,0,2,0,1,0,6,0,1,0,2,0,1,0,3,0,1,0,2,0,1,0,4,0,1,0,2,0,1,0,3,0,1,0,2,0,1,0,5,0,1,0,2,0,1,0,3,0,1,0,2,0,1,0,4,0,1,0,2,0,1,0,3,0,1,0,2,0,1,0,7,0,1,0,2,0,1,0,3,0,1,0,2,0,1,0,4,0,1,0,2,0,1,0,3,0,1,0,2,0,1,0,5,0,1,0,2,0,1,0,3,0,1,0,2,0,1,0,4,0,1,0,2,0,1,0,3,0,1,0,2,0,1,0,6,0,1,0,2,0,1,0,3,0,1,0,2,0,1,0,4,0,1,0,2,0,1,0,3,0,1,0,2,0,1,0,5,0,1,0,2,0,1,0,3,0,1,0,2,0,1,0,4,0,1,0,2,0,1,0,3,0,1,0,2,0,1,0]⟩
theorem rE:Dt.size=256:=by decide+kernel
theorem Bv:∀j:Fin 256,(Dt[j.val]'(by rw[rE];exact j.isLt)).toNat=tz8 j.val:=by decide+kernel
theorem Gu:∀j:Fin 256,tz8 j.val<=8:=by decide+kernel
theorem cU{a b:Int}(h:a=b):Ending.returned (I J a)=Rt (I J b):=by rw[h]
theorem EI(x:Nat)(w:M)(hx:x<256):Cs prog 193 #[I .u8 x] w fun e w'=>e=Rt (I J (tz8 x))/\w'=w:=by
 have HT:Hi (wrap64 ((Dt[x]'(by rw[rE];exact hx)).toNat:Int)=(tz8 x:Int)):=by show _=_;rw[Bv ⟨x,hx⟩,BR];have:=Gu ⟨x,hx⟩;simp only at this ⊢;omega
 go_enter func193,ntmps193;go_wp2;go_ret;exact⟨cU HT,X⟩
theorem uj(t:Q)(w:M)(hm:t.size<=9223372036854775807):Cs prog 175 #[Y t] w fun e w'=>fi (gL t) w e w':=by
 by_cases h0:t.size=0
 ·have h0':((t.size:Int)==0)=true:=by rw[bV];omega
  have HN:Hi (¬gL t):=fun h=>by have:=h.1;omega
  clear h0;go_enter func175,ntmps175;go_wp2;go_ret;exact cR HN (dq w)
 have h0':((t.size:Int)==0)=false:=by rw[aD];omega
 have h6:0<t.size:=O;have h6':(0:Int)<t.size:=O;have e0:=cH t 0 h6;have hb0:=gu t 0;have x0:(t[0].toNat:Int)<256:=O;by_cases h1:t.size=1
 ·have h1':((t.size:Int)==1)=true:=by rw[bV];omega
  have HI:Hi (((t[0].toNat:Int)==0)=true↔gL t):=by show _↔_;rw[bV,e0];exact⟨fun h=>⟨O,O,fun _=>h,fun _=>O⟩,fun h=>h.2.2.1 h1⟩
  clear h1 e0;go_enter func175,ntmps175;go_wp2;go_ret;exact eu HI (dq w)
 have h1':((t.size:Int)==1)=false:=by rw[aD];omega
 have h3:t.size-1<t.size:=O;have h3':(t.size:Int)-1<t.size:=O;by_cases h7:7<(t[0].toNat:Int)
 ·have h7':decide ((t[0].toNat:Int)<=7)=false:=aE O;have HN:Hi (¬gL t):=fun h=>by have:=h.2.1;omega
  clear e0;go_enter func175,ntmps175;go_wp2;go_quiet (fail);go_wp2;go_ret;exact cR HN ⟨_,X⟩
 have h7':decide ((t[0].toNat:Int)<=7)=true:=aM O;obtain⟨m,HM⟩:∃m,Hi (t.size=m+1):=⟨t.size-1,by show _=_;omega⟩;have hml:m<t.size:=by have:=HM.out;omega
 have hml':(m:Int)<t.size:=O;have hwr:IntKind.i64.wrap ((t.size:Int)-1)=(m:Int):=by have:=HM.out;rw[ik _ O O];omega
 have el:=cH t m hml;have hxl:t[m].toNat<256:=t[m].toNat_lt;have HI:Hi (decide (t[0].toNat<=tz8 t[m].toNat)=true↔gL t):=by
  show _↔_;have hk:t[0].toNat<8:=O;have:=Gt ⟨t[m].toNat,hxl⟩ ⟨t[0].toNat,hk⟩;simp only at this;rw[cK,this];have ep:(b8 t 0).toNat=t[0].toNat:=O;have em:t.size-1=m:=by have:=HM.out;omega
  constructor
  ·intro h;refine⟨O,O,fun _=>O,fun _=>?_⟩;rw[ep,em,<-el];exact_mod_cast h
  intro h;have:=h.2.2.2 O;rw[ep,em,<-el]at this;exact_mod_cast this
 clear e0 el h3 h3';go_enter func175,ntmps175;go_wp2;go_quiet ((go_at_call 193;exact Calls.quiet_of_same (EI _ _ hxl)));go_wp2;go_ret;exact eu HI ⟨_,X⟩
theorem qL(t:Q)(w:M)(hm:t.size<=9223372036854775807):Cs prog 127 #[Y t] w fun e w'=>fi (gL t) w e w':=by
 by_cases h0:t.size=0
 ·have h0':((t.size:Int)==0)=true:=by rw[bV];omega
  have HN:Hi (¬gL t):=fun h=>by have:=h.1;omega
  clear h0;go_enter func127,ntmps127;go_wp2;go_ret;exact cR HN (dq w)
 have h0':((t.size:Int)==0)=false:=by rw[aD];omega
 have h6:0<t.size:=O;have h6':(0:Int)<t.size:=O;have e0:=cH t 0 h6;have hb0:=gu t 0;have x0:(t[0].toNat:Int)<256:=O;by_cases h7:7<(t[0].toNat:Int)
 ·have HN:Hi (¬gL t):=fun h=>by have:=h.2.1;omega
  clear e0;go_enter func127,ntmps127;go_wp2;go_ret;exact cR HN (dq w)
 by_cases h1:t.size=1
 ·have h1':((t.size:Int)==1)=true:=by rw[bV];omega
  have HI:Hi (((t[0].toNat:Int)==0)=true↔gL t):=by show _↔_;rw[bV,e0];exact⟨fun h=>⟨O,O,fun _=>h,fun _=>O⟩,fun h=>h.2.2.1 h1⟩
  clear h1 e0;go_enter func127,ntmps127;go_wp2;go_ret;exact eu HI (dq w)
 have h1':((t.size:Int)==1)=false:=by rw[aD];omega
 have h3:t.size-1<t.size:=O;have h3':(t.size:Int)-1<t.size:=O;have el:=cH t (t.size-1) h3;have hxl:(t[t.size-1].toNat:Int)<256:=by have:=t[t.size-1].toNat_lt;omega
 have HI:Hi (((t[t.size-1].toNat:Int)%((2^t[0].toNat:Nat):Int)==0)=true↔gL t):=by
  show _↔_;have ep:(b8 t 0).toNat=t[0].toNat:=O;rw[bV];constructor
  ·intro h;refine⟨O,O,fun _=>O,fun _=>?_⟩;rw[ep,<-el];exact_mod_cast h
  intro h;have:=h.2.2.2 O;rw[ep,<-el]at this;exact_mod_cast this
 clear e0 el;go_enter func127,ntmps127;go_wp2;go_loop [3,4] (fun p i=>∃k:Nat,k<=t[0].toNat/\i=I J k/\p=I J ((2^k:Nat):Int)) (fun _ i=>t[0].toNat-(Io i).toNat);case atStart=>exact⟨0,O,X,X⟩
 obtain⟨k,hk,rfl,rfl⟩:=hrel;have hp1:2^k<=2^7:=Nat.pow_le_pow_right O O;have hp0:0<2^k:=Nat.two_pow_pos k;have HP:Hi _:=Nat.pow_succ 2 k;by_cases hlt:k<t[0].toNat
 ·generalize hq:2^k=q at hp1 hp0 HP;have HQ:Hi _:=hq;clear hq;go_wp2;go_round;case rel=>exact⟨k+1,O,Gn,by rw[HP.out];go_num⟩
  case measure=>exact Ms
 have hkc:t[0].toNat=k:=O;rw[hkc]at HI;generalize 2^k=q at hp1 hp0 HI;have hq0:((q:Int)==0)=false:=by rw[aD];omega
 clear hkc;go_wp2;go_ret;exact eu HI (dq w)
def fY(s:Q):Nat->Int
 |0=>0
 |k+1=>fY s k*10+(b8 s k-48)
def jP(s:Q)(n:Nat):Prop:=∀i,i<n->48<=b8 s i/\b8 s i<=57
theorem qH(s:Q)(k:Nat)(hk:k<=4)(h:jP s k):0<=fY s k/\fY s k<10000:=by
 match k,hk,h with
 |0,_,_=>simp[fY]
 |1,_,h=>have:=h 0 O;simp only[fY];omega
 |2,_,h=>have:=h 0 O;have:=h 1 O;simp only[fY];omega
 |3,_,h=>have:=h 0 O;have:=h 1 O;have:=h 2 O;simp only[fY];omega
 |4,_,h=>have:=h 0 O;have:=h 1 O;have:=h 2 O;have:=h 3 O;simp only[fY];omega
theorem ij(s:Q)(w:M)(h4:s.size<=4)(hd:jP s s.size):Cs prog 197 #[Y s] w fun e w'=>e=Rt (I J (fY s s.size))/\w'=w:=by
 have HD:Hi _:=hd;clear hd;go_enter func197,ntmps197;go_wp2;go_loop [3,7] (fun n i=>∃k:Nat,k<=s.size/\i=I J k/\n=I J (fY s k)) (fun _ i=>s.size-(Io i).toNat);case atStart=>exact⟨0,O,X,X⟩
 obtain⟨k,hk,rfl,rfl⟩:=hrel;have hb:=qH s k O (fun i hi=>HD i O);have hb0:0<=fY s k:=hb.1;have hb1:fY s k<10000:=hb.2;clear hb;by_cases hlt:k<s.size
 ·have HE:Hi _:=cH s k hlt;have hx:=HD k hlt;have hx0:48<=(s[k].toNat:Int):=by rw[HE.out];exact hx.1
  have hx1:(s[k].toNat:Int)<=57:=by rw[HE.out];exact hx.2
  clear hx;go_wp2;go_round;case rel=>exact⟨k+1,O,Gn,by show _=Value.int J (fY s k*10+(b8 s k-48));rw[<-HE.out]⟩
  case measure=>exact Ms
 have hkc:s.size=k:=O;have HF:Hi (fY s k=fY s s.size):=by show _=_;rw[hkc]
 clear hkc;go_wp2;go_ret;exact⟨cU HF,X⟩
theorem fK(s:Q)(w:M)(h4:s.size<=4)(hd:jP s s.size):Cs prog 168 #[Y s] w fun e w'=>e=Rt (I J (fY s s.size))/\w'=w:=by
 have HD:Hi _:=hd;clear hd;go_enter func168,ntmps168;go_wp2;go_loop [3,4] (fun n i=>∃k:Nat,k<=s.size/\i=I J k/\n=I J (fY s k)) (fun _ i=>s.size-(Io i).toNat);case atStart=>exact⟨0,O,X,X⟩
 obtain⟨k,hk,rfl,rfl⟩:=hrel;have hb:=qH s k O (fun i hi=>HD i O);have hb0:0<=fY s k:=hb.1;have hb1:fY s k<10000:=hb.2;clear hb;by_cases hlt:k<s.size
 ·have HE:Hi _:=cH s k hlt;have hx:=HD k hlt;have hx0:48<=(s[k].toNat:Int):=by rw[HE.out];exact hx.1
  have hx1:(s[k].toNat:Int)<=57:=by rw[HE.out];exact hx.2
  clear hx;go_wp2;go_round;case rel=>exact⟨k+1,O,Gn,by show _=Value.int J (fY s k*10+(b8 s k-48));rw[<-HE.out];go_num⟩
  case measure=>exact Ms
 have hkc:s.size=k:=O;have HF:Hi (fY s k=fY s s.size):=by show _=_;rw[hkc]
 clear hkc;go_wp2;go_ret;exact⟨cU HF,X⟩
def lastDay(y m:Int):Int:=if m=2 then(if y%400=0\/y%4=0/\y%100≠0 then 29 else 28)else if m=4\/m=6\/m=9\/m=11 then 30 else 31
def mT(w:M):Prop:=∀i,i<12->w.cell? (D 18 i Z)=U (I J ([31,28,31,30,31,30,31,31,30,31,30,31].getD i 0))
theorem mT.drew{w:M}(h:mT w)(k:Nat):mT (w.drewN k):=h
theorem yq(y:Int)(w:M)(h0:0<=y)(h1:y<10000):Cs prog 210 #[I J y] w fun e w'=>e=Rt (Bo (decide (y%400=0\/y%4=0/\y%100≠0)))/\w'=w:=by
 by_cases h4:y%4=0
 ·have h4':(y%4==0)=true:=bV.2 h4;by_cases h100:y%100=0
  ·(have h100':(y%100!=0)=false:=by rw[bK];exact h100);(have HB:Hi ((y%400==0)=decide (y%400=0\/y%4=0/\y%100≠0)):=by show _=_;rw[fN,bV,cK];omega);clear h4 h100;go_enter func210,ntmps210;go_wp2;go_ret;exact⟨kL HB,X⟩
  have h100':(y%100!=0)=true:=by rw[ct];exact h100
  have HB:Hi (true=decide (y%400=0\/y%4=0/\y%100≠0)):=by show _=_;rw[eq_comm,cK];omega
  clear h4 h100;go_enter func210,ntmps210;go_wp2;go_ret;exact⟨kL HB,X⟩
 have h4':(y%4==0)=false:=aD.2 h4;have HB:Hi ((y%400==0)=decide (y%400=0\/y%4=0/\y%100≠0)):=by show _=_;rw[fN,bV,cK];omega
 clear h4;go_enter func210,ntmps210;go_wp2;go_ret;exact⟨kL HB,X⟩
theorem v8(y:Int)(m:Nat)(w:M)(h0:0<=y)(h1:y<10000)(hm0:1<=m)(hm1:m<=12)(hD:mT w):Cs prog 207 #[I J y,I J m] w fun e w'=>e=Rt (I J (lastDay y m))/\w'=w:=by
 have hc:w.cell? (D 18 (m-1) Z)=U (I J ([31,28,31,30,31,30,31,31,30,31,30,31].getD (m-1) 0)):=hD (m-1) O;clear hD;by_cases h2:m=2
 ·have HL:Hi _:=yq y w h0 h1;subst h2;have hl:lastDay y ((2:Nat):Int)=if y%400=0\/y%4=0/\y%100≠0 then 29 else 28:=X
  rw[hl];by_cases hy:y%400=0\/y%4=0/\y%100≠0
  ·rw[aG hy];rw[aM hy]at HL;clear hy hl;go_enter func207,ntmps207;go_wp2_with fail;refine bp HL ?_;rintro e w2 ⟨rfl,rfl⟩;go_wp2_with fail;go_ret;exact⟨X,X⟩
  rw[G hy];rw[aE hy]at HL;clear hy hl;go_enter func207,ntmps207;go_wp2_with fail;refine bp HL ?_;rintro e w2 ⟨rfl,hw⟩;subst hw;go_wp2_with fail;go_ret;exact⟨X,X⟩
 have h2':((m:Int)==2)=false:=by rw[aD];omega
 have HV:Hi ([31,28,31,30,31,30,31,31,30,31,30,31].getD (m-1) 0=lastDay y m):=by
  show _=_;obtain⟨j,rfl⟩:∃j,m=j+1:=⟨m-1,O⟩
  match j,hm1,h2 with
  |0,_,_=>rfl
  |2,_,_=>rfl
  |3,_,_=>rfl
  |4,_,_=>rfl
  |5,_,_=>rfl
  |6,_,_=>rfl
  |7,_,_=>rfl
  |8,_,_=>rfl
  |9,_,_=>rfl
  |10,_,_=>rfl
  |11,_,_=>rfl
 generalize([31,28,31,30,31,30,31,31,30,31,30,31].getD (m-1) 0:Int)=v at hc HV;clear h2;go_enter func207,ntmps207;go_wp2;go_ret;exact⟨cU HV,X⟩
def dec(t:Q)(a b:Nat):Int:=fY (t.extract a b) (t.extract a b).size
def mH(y m d:Int):Prop:=1<=m/\m<=12/\1<=d/\d<=lastDay y m
def ey(t:Q):Prop:=t.size=15/\b8 t 14=90/\jP t 14/\mH (dec t 0 4) (dec t 4 6) (dec t 6 8)/\dec t 8 10<=23/\dec t 10 12<=59/\dec t 12 14<=59
theorem xJ(t:Q)(a b i:Nat)(hi:i<b-a)(_hb:b<=t.size):b8 (t.extract a b) i=b8 t (a+i):=by
 unfold b8;rw[Lib.extract_data];rw[aB,aB]
 first
  |(rw[bR hi,dX];done)
  |(simp[bR hi,dX];done)
theorem fZ{t:Q}(h:jP t 14)(hs:t.size=15)(a b:Nat)(hb:b<=14):jP (t.extract a b) (t.extract a b).size:=by
 intro i hi;rw[bq]at hi;rw[xJ t a b i O O];exact h (a+i) O
theorem CD{t:Q}(h:jP t 14)(hs:t.size=15)(a b:Nat)(hb:b<=14)(hab:b-a<=4):0<=dec t a b/\dec t a b<10000:=
 qH _ _ (by rw[bq];omega) (fZ h hs a b hb)
theorem eC{t:Q}(h:jP t 14)(hs:t.size=15)(a:Nat)(hb:a+2<=14):0<=dec t a (a+2)/\dec t a (a+2)<100:=by
 unfold dec;have hz:(t.extract a (a+2)).size=2:=by rw[bq];omega
 have hd:=fZ h hs a (a+2) hb;rw[hz]at hd ⊢;have h0:=hd 0 O;have h1:=hd 1 O;simp only[fY];omega
theorem yp(y:Int)(m d:Nat)(w:M)(h0:0<=y)(h1:y<10000)(hm:m<100)(hd:d<100)(hD:mT w):Cs prog 198 #[I J y,I J m,I J d] w fun e w'=>∃r,e=Rt (Bo r)/\(r=true↔mH y m d)/\w'=w:=by
 have HD:Hi (mT w):=hD;clear hD;by_cases q1:1<=m/\m<=12
 ·obtain⟨a1,a2⟩:=q1;by_cases q2:1<=d
  ·have HL:Hi _:=v8 y m w h0 h1 a1 a2 HD;(have HI:Hi (decide ((d:Int)<=lastDay y m)=true↔mH y m d):=by show _↔_;rw[cK];exact⟨fun h=>⟨O,O,O,h⟩,fun h=>h.2.2.2⟩);generalize lastDay y m=L at HL HI;go_enter func198,ntmps198;go_wp2_with fail;refine bp HL ?_;rintro e w2 ⟨rfl,hw⟩;subst hw;go_wp2_with fail;go_ret;exact⟨_,X,HI,X⟩
  have HN:Hi (¬mH y m d):=fun h=>by have:=h.2.2.1;omega
  have c1:decide ((1:Int)<=(d:Int))=false:=aE O;go_enter func198,ntmps198;go_wp2;go_ret;exact⟨false,X,⟨fun e=>(by cases e),fun h=>Ab h HN⟩,X⟩
 have HN:Hi (¬mH y m d):=fun h=>q1 ⟨by have:=h.1;omega,by have:=h.2.1;omega⟩;by_cases q3:1<=m
 ·have c1:decide ((m:Int)<=12)=false:=aE O;clear q1;go_enter func198,ntmps198;go_wp2;go_ret;exact⟨false,X,⟨fun e=>(by cases e),fun h=>Ab h HN⟩,X⟩
 have c1:decide ((1:Int)<=(m:Int))=false:=aE O;clear q1;go_enter func198,ntmps198;go_wp2;go_ret;exact⟨false,X,⟨fun e=>(by cases e),fun h=>Ab h HN⟩,X⟩
theorem lO{w w1:M}{a:Nat}(h:w.drewN a=w1)(b:Nat):∃k,w1.drewN b=w.drewN k:=⟨a+b,by rw[<-h,World.drewN_drewN]⟩
theorem rB{t:Q}(hs:t.size=15)(hz:b8 t 14=90)(hg:jP t 14):ey t↔mH (dec t 0 4) (dec t 4 6) (dec t 6 8)/\dec t 8 10<=23/\dec t 10 12<=59/\dec t 12 14<=59:=
 ⟨fun h=>h.2.2.2,fun h=>⟨hs,hz,hg,h⟩⟩
theorem uk(t:Q)(w:M)(hm:t.size<=9223372036854775807)(hD:mT w):Cs prog 178 #[Y t] w fun e w'=>fi (ey t) w e w':=by
 have HD:Hi (mT w):=hD;clear hD;by_cases hs:t.size=15
 ·have hs':((t.size:Int)!=15)=false:=by rw[bK];omega
  have h14:14<t.size:=O;have h14':(14:Int)<t.size:=O;have HZ:Hi ((t[14].toNat:Int)=b8 t 14):=cH t 14 h14;have HS:Hi _:=hs;have hge:15<=t.size:=O;clear hs;by_cases hz:(t[14].toNat:Int)=90
  ·(have hz':((t[14].toNat:Int)!=90)=false:=by rw[bK];exact hz);(have HZ2:Hi (b8 t 14=90):=by show _=_;rw[<-HZ.out];exact hz);clear hz;go_enter func178,ntmps178;go_wp2;go_loop [18] (fun i=>∃k:Nat,k<=14/\i=I J k/\jP t k) (fun i=>14-(Io i).toNat);case atStart=>exact⟨0,O,X,fun j h=>Ab h (aO _)⟩
   obtain⟨k,hk,rfl,hg⟩:=hrel;have HG:Hi _:=hg;clear hg;by_cases hlt:k<14
   ·have hkt:k<t.size:=O;have HE:Hi _:=cH t k hkt;by_cases hd:48<=(t[k].toNat:Int)/\(t[k].toNat:Int)<=57
    ·have HX:Hi (jP t (k+1)):=fun i hi=>by
      by_cases e:i=k
      ·subst e;rw[<-HE.out];exact hd
      exact HG i O
     obtain⟨d1,d2⟩:=hd;go_wp2;go_round;case rel=>exact⟨k+1,O,Gn,HX⟩
     case measure=>exact Ms
    have HN:Hi (¬ey t):=fun h=>hd (by rw[HE.out];exact h.2.2.1 k hlt);by_cases d1:48<=(t[k].toNat:Int)
    ·have c1:decide ((t[k].toNat:Int)<=57)=false:=aE O;clear hd;go_wp2;go_ret;exact cR HN (dq w)
    have c1:decide ((48:Int)<=(t[k].toNat:Int))=false:=aE d1;clear hd;go_wp2;go_ret;exact cR HN (dq w)
   have hk14:k=14:=O;subst hk14;have HG:jP t 14:=HG.out;have hs:=HS.out;have PY:Hi (∀w,Cs prog 197 #[Y (t.extract 0 4)] w fun e w'=>e=Rt (I J (dec t 0 4))/\w'=w):=fun w=>ij _ w (by rw[bq];omega) (fZ HG hs 0 4 O);have PMo:Hi (∀w,Cs prog 197 #[Y (t.extract 4 6)] w fun e w'=>e=Rt (I J (dec t 4 6))/\w'=w):=fun w=>ij _ w (by rw[bq];omega) (fZ HG hs 4 6 O);have PDa:Hi (∀w,Cs prog 197 #[Y (t.extract 6 8)] w fun e w'=>e=Rt (I J (dec t 6 8))/\w'=w):=fun w=>ij _ w (by rw[bq];omega) (fZ HG hs 6 8 O);have PHo:Hi (∀w,Cs prog 197 #[Y (t.extract 8 10)] w fun e w'=>e=Rt (I J (dec t 8 10))/\w'=w):=fun w=>ij _ w (by rw[bq];omega) (fZ HG hs 8 10 O);have PMi:Hi (∀w,Cs prog 197 #[Y (t.extract 10 12)] w fun e w'=>e=Rt (I J (dec t 10 12))/\w'=w):=fun w=>ij _ w (by rw[bq];omega) (fZ HG hs 10 12 O);have PSe:Hi (∀w,Cs prog 197 #[Y (t.extract 12 14)] w fun e w'=>e=Rt (I J (dec t 12 14))/\w'=w):=fun w=>ij _ w (by rw[bq];omega) (fZ HG hs 12 14 O);have HT:Hi _:=rB hs HZ2 HG;obtain⟨y0,y1⟩:=CD HG hs 0 4 O O;obtain⟨vMo,eMo⟩:=bI (eC HG hs 4 O).1;(have lMo:vMo<100:=by have:=(eC HG hs 4 O).2;omega);rw[eMo]at PMo HT;obtain⟨vDa,eDa⟩:=bI (eC HG hs 6 O).1;(have lDa:vDa<100:=by have:=(eC HG hs 6 O).2;omega);rw[eDa]at PDa HT;obtain⟨vHo,eHo⟩:=bI (eC HG hs 8 O).1;(have lHo:vHo<100:=by have:=(eC HG hs 8 O).2;omega);rw[eHo]at PHo HT;obtain⟨vMi,eMi⟩:=bI (eC HG hs 10 O).1;(have lMi:vMi<100:=by have:=(eC HG hs 10 O).2;omega);rw[eMi]at PMi HT;obtain⟨vSe,eSe⟩:=bI (eC HG hs 12 O).1;(have lSe:vSe<100:=by have:=(eC HG hs 12 O).2;omega);rw[eSe]at PSe HT;generalize dec t 0 4=vY at PY HT y0 y1;have z8:(8:Int)<=t.size:=O;have z10:(10:Int)<=t.size:=O;have z12:(12:Int)<=t.size:=O;have z14:(14:Int)<=t.size:=O;clear HG hs eMo eDa eHo eMi eSe;go_wp2_with fail;go_quiet ((first|(go_at_call_of 197 (Value.string (t.extract 0 4));exact Calls.quiet_of_same (PY _))|(go_at_call_of 197 (Value.string (t.extract 4 6));exact Calls.quiet_of_same (PMo _))|(go_at_call_of 197 (Value.string (t.extract 6 8));exact Calls.quiet_of_same (PDa _))));go_wp2_with fail;generalize hw1:w.drewN nq=w1;(have HD1:Hi (mT w1):=by rw[<-hw1];exact HD);have HW1:Hi _:=hw1;clear hw1;go_quiet ((first|(go_at_call_of 197 (Value.string (t.extract 8 10));exact Calls.quiet_of_same (PHo _))|(go_at_call_of 197 (Value.string (t.extract 10 12));exact Calls.quiet_of_same (PMi _))|(go_at_call_of 197 (Value.string (t.extract 12 14));exact Calls.quiet_of_same (PSe _))));go_wp2_with fail;refine(yp vY vMo vDa _ y0 y1 lMo lDa (by exact HD1)).mono ?_;rintro e w2 ⟨r,rfl,hr,hw⟩;subst hw;have HR:Hi _:=hr;clear hr;cases r
   ·(have HN:Hi (¬ey t):=fun h=>by cases HR.2 (HT.1 h).1);go_wp2_with fail;go_ret;exact cR HN (lO HW1 _)
   by_cases g1:vHo<=23
   ·by_cases g2:vMi<=59
    ·by_cases g3:vSe<=59
     ·have HY:Hi (ey t):=HT.2 ⟨HR.1 X,O,O,O⟩;have c1:decide ((vSe:Int)<=59)=true:=aM O;go_wp2_with fail;go_ret;exact fC HY (lO HW1 _)
     (have HN:Hi (¬ey t):=fun h=>by have:=(HT.1 h).2.2.2;omega);have c1:decide ((vSe:Int)<=59)=false:=aE O;go_wp2_with fail;go_ret;exact cR HN (lO HW1 _)
    (have HN:Hi (¬ey t):=fun h=>by have:=(HT.1 h).2.2.1;omega);have c1:decide ((vMi:Int)<=59)=false:=aE O;go_wp2_with fail;go_ret;exact cR HN (lO HW1 _)
   (have HN:Hi (¬ey t):=fun h=>by have:=(HT.1 h).2.1;omega);have c1:decide ((vHo:Int)<=23)=false:=aE O;go_wp2_with fail;go_ret;exact cR HN (lO HW1 _)
  have hz':((t[14].toNat:Int)!=90)=true:=by rw[ct];exact hz
  have HN:Hi (¬ey t):=fun h=>hz (HZ.trans h.2.1);clear hz;go_enter func178,ntmps178;go_wp2;go_ret;exact cR HN (dq w)
 have hs':((t.size:Int)!=15)=true:=by rw[ct];omega
 have HN:Hi (¬ey t):=fun h=>hs h.1;clear hs;go_enter func178,ntmps178;go_wp2;go_ret;exact cR HN (dq w)
def goB(t:Q)(a:Nat)(lo hi:Int):Bool:=decide (a<t.size/\lo<=b8 t a/\b8 t a<=hi)
def sg(b:Int):Int:=if b=224 then 160 else if b=240 then 144 else 128
def sa(b:Int):Int:=if b=237 then 159 else if b=244 then 143 else 191
def chr(t:Q)(a:Nat):Nat:=
 if b8 t a<128 then 1
 else if 194<=b8 t a/\b8 t a<224/\goB t (a+1) (sg (b8 t a)) (sa (b8 t a))=true then 2
 else if 224<=b8 t a/\b8 t a<240/\goB t (a+1) (sg (b8 t a)) (sa (b8 t a))=true/\goB t (a+2) 128 191=true then 3
 else if 240<=b8 t a/\b8 t a<245/\goB t (a+1) (sg (b8 t a)) (sa (b8 t a))=true/\goB t (a+2) 128 191=true/\goB t (a+3) 128 191=true then 4
 else 0
theorem cr(t:Q)(a:Nat)(lo hi:Int)(w:M)(_hm:t.size<=9223372036854775807):Cs prog 190 #[Y t,I J a,I J lo,I J hi] w fun e w'=>e=Rt (Bo (goB t a lo hi))/\w'=w:=by
 by_cases h1:a<t.size
 ·have HE:Hi _:=cH t a h1;have hx:(t[a].toNat:Int)<256:=by have:=t[a].toNat_lt;omega
  by_cases h2:lo<=(t[a].toNat:Int)
  ·(have HV:Hi (decide ((t[a].toNat:Int)<=hi)=goB t a lo hi):=by show _=_;unfold goB;rw[fN,cK,cK,<-HE.out];exact⟨fun h=>⟨h1,h2,h⟩,fun h=>h.2.2⟩);go_enter func190,ntmps190;go_wp2;go_ret;exact⟨kL HV,X⟩
  have HV:Hi (false=goB t a lo hi):=by show _=_;unfold goB;rw[eq_comm,jA,<-HE.out];exact fun h=>h2 h.2.1
  have c1:decide (lo<=(t[a].toNat:Int))=false:=aE h2;go_enter func190,ntmps190;go_wp2;go_ret;exact⟨kL HV,X⟩
 have HV:Hi (false=goB t a lo hi):=by show _=_;unfold goB;rw[eq_comm,jA];exact fun h=>h1 h.1
 have c1:decide ((a:Int)<(t.size:Int))=false:=aE O;go_enter func190,ntmps190;go_wp2;go_ret;exact⟨kL HV,X⟩
theorem EZ(t:Q)(a:Nat)(h:b8 t a<128):chr t a=1:=by unfold chr;rw[aG h]
theorem zF(t:Q)(a:Nat)(h:(128<=b8 t a/\b8 t a<194)\/245<=b8 t a):chr t a=0:=by unfold chr;rw[G O,G O,G O,G O]
theorem E0(t:Q)(a:Nat)(lo hi:Int)(h0:194<=b8 t a)(h1:b8 t a<224)(hl:sg (b8 t a)=lo)(hh:sa (b8 t a)=hi):chr t a=if goB t (a+1) lo hi=true then 2 else 0:=by
 unfold chr;rw[G O,hl,hh];by_cases h:goB t (a+1) lo hi=true
 ·rw[aG ⟨h0,h1,h⟩,aG h]
 rw[G (fun x=>h x.2.2),G O,G O,G h]
theorem vG(t:Q)(a:Nat)(lo hi:Int)(h0:224<=b8 t a)(h1:b8 t a<240)(hl:sg (b8 t a)=lo)(hh:sa (b8 t a)=hi):chr t a=if goB t (a+1) lo hi=true/\goB t (a+2) 128 191=true then 3 else 0:=by
 unfold chr;rw[G O,G O,hl,hh];by_cases h:goB t (a+1) lo hi=true/\goB t (a+2) 128 191=true
 ·rw[aG ⟨h0,h1,h.1,h.2⟩,aG h]
 rw[G (fun x=>h x.2.2),G O,G h]
theorem zG(t:Q)(a:Nat)(lo hi:Int)(h0:240<=b8 t a)(h1:b8 t a<245)(hl:sg (b8 t a)=lo)(hh:sa (b8 t a)=hi):chr t a=if goB t (a+1) lo hi=true/\goB t (a+2) 128 191=true/\goB t (a+3) 128 191=true then 4 else 0:=by
 unfold chr;rw[G O,G O,G O,hl,hh];by_cases h:goB t (a+1) lo hi=true/\goB t (a+2) 128 191=true/\goB t (a+3) 128 191=true
 ·rw[aG ⟨h0,h1,h.1,h.2.1,h.2.2⟩,aG h]
 rw[G (fun x=>h x.2.2),G h]
theorem FC(t:Q)(a:Nat)(w:M)(hm:t.size<=140737488355328)(ha:a<t.size)(hr:(t[a].toNat:Int)<128):Cs prog 167 #[Y t,I J a] w fun e w'=>e=Rt (I J (chr t a))/\w'=w:=by
 have HE:Hi _:=cH t a ha;have hx:(t[a].toNat:Int)<256:=by have:=t[a].toNat_lt;omega
 have G1:Hi (∀w,Cs prog 190 #[Y t,I J ((a:Int)+1),I J 128,I J 191] w fun e w'=>e=Rt (Bo (goB t (a+1) 128 191))/\w=w'):=fun w=>(cr t (a+1) 128 191 w O).mono fun e w' h=>⟨h.1,h.2.symm⟩;have G2:Hi (∀w,Cs prog 190 #[Y t,I J ((a:Int)+2),I J 128,I J 191] w fun e w'=>e=Rt (Bo (goB t (a+2) 128 191))/\w=w'):=fun w=>(cr t (a+2) 128 191 w O).mono fun e w' h=>⟨h.1,h.2.symm⟩;have G3:Hi (∀w,Cs prog 190 #[Y t,I J ((a:Int)+3),I J 128,I J 191] w fun e w'=>e=Rt (Bo (goB t (a+3) 128 191))/\w=w'):=fun w=>(cr t (a+3) 128 191 w O).mono fun e w' h=>⟨h.1,h.2.symm⟩;have HC:Hi (chr t a=1):=EZ t a (by rw[<-HE.out];exact hr);have e224:((t[a].toNat:Int)==224)=false:=by rw[aD];omega
 have e237:((t[a].toNat:Int)==237)=false:=by rw[aD];omega
 have e240:((t[a].toNat:Int)==240)=false:=by rw[aD];omega
 have e244:((t[a].toNat:Int)==244)=false:=by rw[aD];omega
 have d1:decide ((t[a].toNat:Int)<128)=true:=aM O;have d2:decide ((194:Int)<=(t[a].toNat:Int))=false:=aE O;have d3:decide ((t[a].toNat:Int)<224)=true:=aM O;have d4:decide ((224:Int)<=(t[a].toNat:Int))=false:=aE O;have d5:decide ((t[a].toNat:Int)<240)=true:=aM O;have d6:decide ((240:Int)<=(t[a].toNat:Int))=false:=aE O;have d7:decide ((t[a].toNat:Int)<245)=true:=aM O;generalize chr t a=res at HC ⊢;generalize goB t (a+1) 128 191=one at G1;generalize goB t (a+2) 128 191=two at G2;generalize goB t (a+3) 128 191=three at G3;clear hr;go_enter func167,ntmps167;go_wp2_with fail;refine bp (G1 _) ?_;rintro e w2 ⟨rfl,rfl⟩;go_wp2_with fail;refine bp (G2 _) ?_;rintro e w3 ⟨rfl,rfl⟩;go_wp2_with fail;refine bp (G3 _) ?_;rintro e w4 ⟨rfl,rfl⟩;go_wp2_with fail;go_ret;exact⟨cU (by rw[HC.out];rfl),X⟩
theorem FD(t:Q)(a:Nat)(w:M)(hm:t.size<=140737488355328)(ha:a<t.size)(hr:128<=(t[a].toNat:Int)/\(t[a].toNat:Int)<194):Cs prog 167 #[Y t,I J a] w fun e w'=>e=Rt (I J (chr t a))/\w'=w:=by
 have HE:Hi _:=cH t a ha;have hx:(t[a].toNat:Int)<256:=by have:=t[a].toNat_lt;omega
 have G1:Hi (∀w,Cs prog 190 #[Y t,I J ((a:Int)+1),I J 128,I J 191] w fun e w'=>e=Rt (Bo (goB t (a+1) 128 191))/\w=w'):=fun w=>(cr t (a+1) 128 191 w O).mono fun e w' h=>⟨h.1,h.2.symm⟩;have G2:Hi (∀w,Cs prog 190 #[Y t,I J ((a:Int)+2),I J 128,I J 191] w fun e w'=>e=Rt (Bo (goB t (a+2) 128 191))/\w=w'):=fun w=>(cr t (a+2) 128 191 w O).mono fun e w' h=>⟨h.1,h.2.symm⟩;have G3:Hi (∀w,Cs prog 190 #[Y t,I J ((a:Int)+3),I J 128,I J 191] w fun e w'=>e=Rt (Bo (goB t (a+3) 128 191))/\w=w'):=fun w=>(cr t (a+3) 128 191 w O).mono fun e w' h=>⟨h.1,h.2.symm⟩;have HC:Hi (chr t a=0):=zF t a (by rw[<-HE.out];omega);have e224:((t[a].toNat:Int)==224)=false:=by rw[aD];omega
 have e237:((t[a].toNat:Int)==237)=false:=by rw[aD];omega
 have e240:((t[a].toNat:Int)==240)=false:=by rw[aD];omega
 have e244:((t[a].toNat:Int)==244)=false:=by rw[aD];omega
 have d1:decide ((t[a].toNat:Int)<128)=false:=aE O;have d2:decide ((194:Int)<=(t[a].toNat:Int))=false:=aE O;have d3:decide ((t[a].toNat:Int)<224)=true:=aM O;have d4:decide ((224:Int)<=(t[a].toNat:Int))=false:=aE O;have d5:decide ((t[a].toNat:Int)<240)=true:=aM O;have d6:decide ((240:Int)<=(t[a].toNat:Int))=false:=aE O;have d7:decide ((t[a].toNat:Int)<245)=true:=aM O;generalize chr t a=res at HC ⊢;generalize goB t (a+1) 128 191=one at G1;generalize goB t (a+2) 128 191=two at G2;generalize goB t (a+3) 128 191=three at G3;clear hr;go_enter func167,ntmps167;go_wp2_with fail;refine bp (G1 _) ?_;rintro e w2 ⟨rfl,rfl⟩;go_wp2_with fail;refine bp (G2 _) ?_;rintro e w3 ⟨rfl,rfl⟩;go_wp2_with fail;refine bp (G3 _) ?_;rintro e w4 ⟨rfl,rfl⟩;go_wp2_with fail;go_ret;exact⟨cU (by rw[HC.out];rfl),X⟩
theorem FE(t:Q)(a:Nat)(w:M)(hm:t.size<=140737488355328)(ha:a<t.size)(hr:194<=(t[a].toNat:Int)/\(t[a].toNat:Int)<224):Cs prog 167 #[Y t,I J a] w fun e w'=>e=Rt (I J (chr t a))/\w'=w:=by
 have HE:Hi _:=cH t a ha;have hx:(t[a].toNat:Int)<256:=by have:=t[a].toNat_lt;omega
 have G1:Hi (∀w,Cs prog 190 #[Y t,I J ((a:Int)+1),I J 128,I J 191] w fun e w'=>e=Rt (Bo (goB t (a+1) 128 191))/\w=w'):=fun w=>(cr t (a+1) 128 191 w O).mono fun e w' h=>⟨h.1,h.2.symm⟩;have G2:Hi (∀w,Cs prog 190 #[Y t,I J ((a:Int)+2),I J 128,I J 191] w fun e w'=>e=Rt (Bo (goB t (a+2) 128 191))/\w=w'):=fun w=>(cr t (a+2) 128 191 w O).mono fun e w' h=>⟨h.1,h.2.symm⟩;have G3:Hi (∀w,Cs prog 190 #[Y t,I J ((a:Int)+3),I J 128,I J 191] w fun e w'=>e=Rt (Bo (goB t (a+3) 128 191))/\w=w'):=fun w=>(cr t (a+3) 128 191 w O).mono fun e w' h=>⟨h.1,h.2.symm⟩;have HC:Hi (chr t a=if goB t (a+1) 128 191=true then 2 else 0):=by have e:=HE.out;exact E0 t a 128 191 O O (by unfold sg;rw[G O,G O]) (by unfold sa;rw[G O,G O])
 have e224:((t[a].toNat:Int)==224)=false:=by rw[aD];omega
 have e237:((t[a].toNat:Int)==237)=false:=by rw[aD];omega
 have e240:((t[a].toNat:Int)==240)=false:=by rw[aD];omega
 have e244:((t[a].toNat:Int)==244)=false:=by rw[aD];omega
 have d1:decide ((t[a].toNat:Int)<128)=false:=aE O;have d2:decide ((194:Int)<=(t[a].toNat:Int))=true:=aM O;have d3:decide ((t[a].toNat:Int)<224)=true:=aM O;have d4:decide ((224:Int)<=(t[a].toNat:Int))=false:=aE O;have d5:decide ((t[a].toNat:Int)<240)=true:=aM O;have d6:decide ((240:Int)<=(t[a].toNat:Int))=false:=aE O;have d7:decide ((t[a].toNat:Int)<245)=true:=aM O;generalize chr t a=res at HC ⊢;generalize goB t (a+1) 128 191=one at G1 HC;generalize goB t (a+2) 128 191=two at G2;generalize goB t (a+3) 128 191=three at G3;clear hr;go_enter func167,ntmps167;go_wp2_with fail;refine bp (G1 _) ?_;rintro e w2 ⟨rfl,rfl⟩;go_wp2_with fail;refine bp (G2 _) ?_;rintro e w3 ⟨rfl,rfl⟩;go_wp2_with fail;refine bp (G3 _) ?_;rintro e w4 ⟨rfl,rfl⟩;cases one
 ·go_wp2_with fail;go_ret;exact⟨cU (by rw[HC.out];rw[G Sq];rfl),X⟩
 go_wp2_with fail;go_ret;exact⟨cU (by rw[HC.out];rw[aG Sq];rfl),X⟩
theorem FF(t:Q)(a:Nat)(w:M)(hm:t.size<=140737488355328)(ha:a<t.size)(hr:(t[a].toNat:Int)=224):Cs prog 167 #[Y t,I J a] w fun e w'=>e=Rt (I J (chr t a))/\w'=w:=by
 have HE:Hi _:=cH t a ha;have hx:(t[a].toNat:Int)<256:=by have:=t[a].toNat_lt;omega
 have G1:Hi (∀w,Cs prog 190 #[Y t,I J ((a:Int)+1),I J 160,I J 191] w fun e w'=>e=Rt (Bo (goB t (a+1) 160 191))/\w=w'):=fun w=>(cr t (a+1) 160 191 w O).mono fun e w' h=>⟨h.1,h.2.symm⟩;have G2:Hi (∀w,Cs prog 190 #[Y t,I J ((a:Int)+2),I J 128,I J 191] w fun e w'=>e=Rt (Bo (goB t (a+2) 128 191))/\w=w'):=fun w=>(cr t (a+2) 128 191 w O).mono fun e w' h=>⟨h.1,h.2.symm⟩;have G3:Hi (∀w,Cs prog 190 #[Y t,I J ((a:Int)+3),I J 128,I J 191] w fun e w'=>e=Rt (Bo (goB t (a+3) 128 191))/\w=w'):=fun w=>(cr t (a+3) 128 191 w O).mono fun e w' h=>⟨h.1,h.2.symm⟩;have HC:Hi (chr t a=if goB t (a+1) 160 191=true/\goB t (a+2) 128 191=true then 3 else 0):=by have e:=HE.out;exact vG t a 160 191 O O (by unfold sg;rw[aG O]) (by unfold sa;rw[G O,G O])
 have e224:((t[a].toNat:Int)==224)=true:=by rw[bV];omega
 have e237:((t[a].toNat:Int)==237)=false:=by rw[aD];omega
 have e240:((t[a].toNat:Int)==240)=false:=by rw[aD];omega
 have e244:((t[a].toNat:Int)==244)=false:=by rw[aD];omega
 have d1:decide ((t[a].toNat:Int)<128)=false:=aE O;have d2:decide ((194:Int)<=(t[a].toNat:Int))=true:=aM O;have d3:decide ((t[a].toNat:Int)<224)=false:=aE O;have d4:decide ((224:Int)<=(t[a].toNat:Int))=true:=aM O;have d5:decide ((t[a].toNat:Int)<240)=true:=aM O;have d6:decide ((240:Int)<=(t[a].toNat:Int))=false:=aE O;have d7:decide ((t[a].toNat:Int)<245)=true:=aM O;generalize chr t a=res at HC ⊢;generalize goB t (a+1) 160 191=one at G1 HC;generalize goB t (a+2) 128 191=two at G2 HC;generalize goB t (a+3) 128 191=three at G3;clear hr;go_enter func167,ntmps167;go_wp2_with fail;refine bp (G1 _) ?_;rintro e w2 ⟨rfl,rfl⟩;go_wp2_with fail;refine bp (G2 _) ?_;rintro e w3 ⟨rfl,rfl⟩;go_wp2_with fail;refine bp (G3 _) ?_;rintro e w4 ⟨rfl,rfl⟩;cases one
 ·go_wp2_with fail;go_ret;exact⟨cU (by rw[HC.out];rw[G Sq];rfl),X⟩
 cases two
 ·go_wp2_with fail;go_ret;exact⟨cU (by rw[HC.out];rw[G Sq];rfl),X⟩
 go_wp2_with fail;go_ret;exact⟨cU (by rw[HC.out];rw[aG Sq];rfl),X⟩
theorem FG(t:Q)(a:Nat)(w:M)(hm:t.size<=140737488355328)(ha:a<t.size)(hr:225<=(t[a].toNat:Int)/\(t[a].toNat:Int)<237):Cs prog 167 #[Y t,I J a] w fun e w'=>e=Rt (I J (chr t a))/\w'=w:=by
 have HE:Hi _:=cH t a ha;have hx:(t[a].toNat:Int)<256:=by have:=t[a].toNat_lt;omega
 have G1:Hi (∀w,Cs prog 190 #[Y t,I J ((a:Int)+1),I J 128,I J 191] w fun e w'=>e=Rt (Bo (goB t (a+1) 128 191))/\w=w'):=fun w=>(cr t (a+1) 128 191 w O).mono fun e w' h=>⟨h.1,h.2.symm⟩;have G2:Hi (∀w,Cs prog 190 #[Y t,I J ((a:Int)+2),I J 128,I J 191] w fun e w'=>e=Rt (Bo (goB t (a+2) 128 191))/\w=w'):=fun w=>(cr t (a+2) 128 191 w O).mono fun e w' h=>⟨h.1,h.2.symm⟩;have G3:Hi (∀w,Cs prog 190 #[Y t,I J ((a:Int)+3),I J 128,I J 191] w fun e w'=>e=Rt (Bo (goB t (a+3) 128 191))/\w=w'):=fun w=>(cr t (a+3) 128 191 w O).mono fun e w' h=>⟨h.1,h.2.symm⟩;have HC:Hi (chr t a=if goB t (a+1) 128 191=true/\goB t (a+2) 128 191=true then 3 else 0):=by have e:=HE.out;exact vG t a 128 191 O O (by unfold sg;rw[G O,G O]) (by unfold sa;rw[G O,G O])
 have e224:((t[a].toNat:Int)==224)=false:=by rw[aD];omega
 have e237:((t[a].toNat:Int)==237)=false:=by rw[aD];omega
 have e240:((t[a].toNat:Int)==240)=false:=by rw[aD];omega
 have e244:((t[a].toNat:Int)==244)=false:=by rw[aD];omega
 have d1:decide ((t[a].toNat:Int)<128)=false:=aE O;have d2:decide ((194:Int)<=(t[a].toNat:Int))=true:=aM O;have d3:decide ((t[a].toNat:Int)<224)=false:=aE O;have d4:decide ((224:Int)<=(t[a].toNat:Int))=true:=aM O;have d5:decide ((t[a].toNat:Int)<240)=true:=aM O;have d6:decide ((240:Int)<=(t[a].toNat:Int))=false:=aE O;have d7:decide ((t[a].toNat:Int)<245)=true:=aM O;generalize chr t a=res at HC ⊢;generalize goB t (a+1) 128 191=one at G1 HC;generalize goB t (a+2) 128 191=two at G2 HC;generalize goB t (a+3) 128 191=three at G3;clear hr;go_enter func167,ntmps167;go_wp2_with fail;refine bp (G1 _) ?_;rintro e w2 ⟨rfl,rfl⟩;go_wp2_with fail;refine bp (G2 _) ?_;rintro e w3 ⟨rfl,rfl⟩;go_wp2_with fail;refine bp (G3 _) ?_;rintro e w4 ⟨rfl,rfl⟩;cases one
 ·go_wp2_with fail;go_ret;exact⟨cU (by rw[HC.out];rw[G Sq];rfl),X⟩
 cases two
 ·go_wp2_with fail;go_ret;exact⟨cU (by rw[HC.out];rw[G Sq];rfl),X⟩
 go_wp2_with fail;go_ret;exact⟨cU (by rw[HC.out];rw[aG Sq];rfl),X⟩
theorem FH(t:Q)(a:Nat)(w:M)(hm:t.size<=140737488355328)(ha:a<t.size)(hr:(t[a].toNat:Int)=237):Cs prog 167 #[Y t,I J a] w fun e w'=>e=Rt (I J (chr t a))/\w'=w:=by
 have HE:Hi _:=cH t a ha;have hx:(t[a].toNat:Int)<256:=by have:=t[a].toNat_lt;omega
 have G1:Hi (∀w,Cs prog 190 #[Y t,I J ((a:Int)+1),I J 128,I J 159] w fun e w'=>e=Rt (Bo (goB t (a+1) 128 159))/\w=w'):=fun w=>(cr t (a+1) 128 159 w O).mono fun e w' h=>⟨h.1,h.2.symm⟩;have G2:Hi (∀w,Cs prog 190 #[Y t,I J ((a:Int)+2),I J 128,I J 191] w fun e w'=>e=Rt (Bo (goB t (a+2) 128 191))/\w=w'):=fun w=>(cr t (a+2) 128 191 w O).mono fun e w' h=>⟨h.1,h.2.symm⟩;have G3:Hi (∀w,Cs prog 190 #[Y t,I J ((a:Int)+3),I J 128,I J 191] w fun e w'=>e=Rt (Bo (goB t (a+3) 128 191))/\w=w'):=fun w=>(cr t (a+3) 128 191 w O).mono fun e w' h=>⟨h.1,h.2.symm⟩;have HC:Hi (chr t a=if goB t (a+1) 128 159=true/\goB t (a+2) 128 191=true then 3 else 0):=by have e:=HE.out;exact vG t a 128 159 O O (by unfold sg;rw[G O,G O]) (by unfold sa;rw[aG O])
 have e224:((t[a].toNat:Int)==224)=false:=by rw[aD];omega
 have e237:((t[a].toNat:Int)==237)=true:=by rw[bV];omega
 have e240:((t[a].toNat:Int)==240)=false:=by rw[aD];omega
 have e244:((t[a].toNat:Int)==244)=false:=by rw[aD];omega
 have d1:decide ((t[a].toNat:Int)<128)=false:=aE O;have d2:decide ((194:Int)<=(t[a].toNat:Int))=true:=aM O;have d3:decide ((t[a].toNat:Int)<224)=false:=aE O;have d4:decide ((224:Int)<=(t[a].toNat:Int))=true:=aM O;have d5:decide ((t[a].toNat:Int)<240)=true:=aM O;have d6:decide ((240:Int)<=(t[a].toNat:Int))=false:=aE O;have d7:decide ((t[a].toNat:Int)<245)=true:=aM O;generalize chr t a=res at HC ⊢;generalize goB t (a+1) 128 159=one at G1 HC;generalize goB t (a+2) 128 191=two at G2 HC;generalize goB t (a+3) 128 191=three at G3;clear hr;go_enter func167,ntmps167;go_wp2_with fail;refine bp (G1 _) ?_;rintro e w2 ⟨rfl,rfl⟩;go_wp2_with fail;refine bp (G2 _) ?_;rintro e w3 ⟨rfl,rfl⟩;go_wp2_with fail;refine bp (G3 _) ?_;rintro e w4 ⟨rfl,rfl⟩;cases one
 ·go_wp2_with fail;go_ret;exact⟨cU (by rw[HC.out];rw[G Sq];rfl),X⟩
 cases two
 ·go_wp2_with fail;go_ret;exact⟨cU (by rw[HC.out];rw[G Sq];rfl),X⟩
 go_wp2_with fail;go_ret;exact⟨cU (by rw[HC.out];rw[aG Sq];rfl),X⟩
theorem FI(t:Q)(a:Nat)(w:M)(hm:t.size<=140737488355328)(ha:a<t.size)(hr:238<=(t[a].toNat:Int)/\(t[a].toNat:Int)<240):Cs prog 167 #[Y t,I J a] w fun e w'=>e=Rt (I J (chr t a))/\w'=w:=by
 have HE:Hi _:=cH t a ha;have hx:(t[a].toNat:Int)<256:=by have:=t[a].toNat_lt;omega
 have G1:Hi (∀w,Cs prog 190 #[Y t,I J ((a:Int)+1),I J 128,I J 191] w fun e w'=>e=Rt (Bo (goB t (a+1) 128 191))/\w=w'):=fun w=>(cr t (a+1) 128 191 w O).mono fun e w' h=>⟨h.1,h.2.symm⟩;have G2:Hi (∀w,Cs prog 190 #[Y t,I J ((a:Int)+2),I J 128,I J 191] w fun e w'=>e=Rt (Bo (goB t (a+2) 128 191))/\w=w'):=fun w=>(cr t (a+2) 128 191 w O).mono fun e w' h=>⟨h.1,h.2.symm⟩;have G3:Hi (∀w,Cs prog 190 #[Y t,I J ((a:Int)+3),I J 128,I J 191] w fun e w'=>e=Rt (Bo (goB t (a+3) 128 191))/\w=w'):=fun w=>(cr t (a+3) 128 191 w O).mono fun e w' h=>⟨h.1,h.2.symm⟩;have HC:Hi (chr t a=if goB t (a+1) 128 191=true/\goB t (a+2) 128 191=true then 3 else 0):=by have e:=HE.out;exact vG t a 128 191 O O (by unfold sg;rw[G O,G O]) (by unfold sa;rw[G O,G O])
 have e224:((t[a].toNat:Int)==224)=false:=by rw[aD];omega
 have e237:((t[a].toNat:Int)==237)=false:=by rw[aD];omega
 have e240:((t[a].toNat:Int)==240)=false:=by rw[aD];omega
 have e244:((t[a].toNat:Int)==244)=false:=by rw[aD];omega
 have d1:decide ((t[a].toNat:Int)<128)=false:=aE O;have d2:decide ((194:Int)<=(t[a].toNat:Int))=true:=aM O;have d3:decide ((t[a].toNat:Int)<224)=false:=aE O;have d4:decide ((224:Int)<=(t[a].toNat:Int))=true:=aM O;have d5:decide ((t[a].toNat:Int)<240)=true:=aM O;have d6:decide ((240:Int)<=(t[a].toNat:Int))=false:=aE O;have d7:decide ((t[a].toNat:Int)<245)=true:=aM O;generalize chr t a=res at HC ⊢;generalize goB t (a+1) 128 191=one at G1 HC;generalize goB t (a+2) 128 191=two at G2 HC;generalize goB t (a+3) 128 191=three at G3;clear hr;go_enter func167,ntmps167;go_wp2_with fail;refine bp (G1 _) ?_;rintro e w2 ⟨rfl,rfl⟩;go_wp2_with fail;refine bp (G2 _) ?_;rintro e w3 ⟨rfl,rfl⟩;go_wp2_with fail;refine bp (G3 _) ?_;rintro e w4 ⟨rfl,rfl⟩;cases one
 ·go_wp2_with fail;go_ret;exact⟨cU (by rw[HC.out];rw[G Sq];rfl),X⟩
 cases two
 ·go_wp2_with fail;go_ret;exact⟨cU (by rw[HC.out];rw[G Sq];rfl),X⟩
 go_wp2_with fail;go_ret;exact⟨cU (by rw[HC.out];rw[aG Sq];rfl),X⟩
theorem FJ(t:Q)(a:Nat)(w:M)(hm:t.size<=140737488355328)(ha:a<t.size)(hr:(t[a].toNat:Int)=240):Cs prog 167 #[Y t,I J a] w fun e w'=>e=Rt (I J (chr t a))/\w'=w:=by
 have HE:Hi _:=cH t a ha;have hx:(t[a].toNat:Int)<256:=by have:=t[a].toNat_lt;omega
 have G1:Hi (∀w,Cs prog 190 #[Y t,I J ((a:Int)+1),I J 144,I J 191] w fun e w'=>e=Rt (Bo (goB t (a+1) 144 191))/\w=w'):=fun w=>(cr t (a+1) 144 191 w O).mono fun e w' h=>⟨h.1,h.2.symm⟩;have G2:Hi (∀w,Cs prog 190 #[Y t,I J ((a:Int)+2),I J 128,I J 191] w fun e w'=>e=Rt (Bo (goB t (a+2) 128 191))/\w=w'):=fun w=>(cr t (a+2) 128 191 w O).mono fun e w' h=>⟨h.1,h.2.symm⟩;have G3:Hi (∀w,Cs prog 190 #[Y t,I J ((a:Int)+3),I J 128,I J 191] w fun e w'=>e=Rt (Bo (goB t (a+3) 128 191))/\w=w'):=fun w=>(cr t (a+3) 128 191 w O).mono fun e w' h=>⟨h.1,h.2.symm⟩;have HC:Hi (chr t a=if goB t (a+1) 144 191=true/\goB t (a+2) 128 191=true/\goB t (a+3) 128 191=true then 4 else 0):=by have e:=HE.out;exact zG t a 144 191 O O (by unfold sg;rw[G O,aG O]) (by unfold sa;rw[G O,G O])
 have e224:((t[a].toNat:Int)==224)=false:=by rw[aD];omega
 have e237:((t[a].toNat:Int)==237)=false:=by rw[aD];omega
 have e240:((t[a].toNat:Int)==240)=true:=by rw[bV];omega
 have e244:((t[a].toNat:Int)==244)=false:=by rw[aD];omega
 have d1:decide ((t[a].toNat:Int)<128)=false:=aE O;have d2:decide ((194:Int)<=(t[a].toNat:Int))=true:=aM O;have d3:decide ((t[a].toNat:Int)<224)=false:=aE O;have d4:decide ((224:Int)<=(t[a].toNat:Int))=true:=aM O;have d5:decide ((t[a].toNat:Int)<240)=false:=aE O;have d6:decide ((240:Int)<=(t[a].toNat:Int))=true:=aM O;have d7:decide ((t[a].toNat:Int)<245)=true:=aM O;generalize chr t a=res at HC ⊢;generalize goB t (a+1) 144 191=one at G1 HC;generalize goB t (a+2) 128 191=two at G2 HC;generalize goB t (a+3) 128 191=three at G3 HC;clear hr;go_enter func167,ntmps167;go_wp2_with fail;refine bp (G1 _) ?_;rintro e w2 ⟨rfl,rfl⟩;go_wp2_with fail;refine bp (G2 _) ?_;rintro e w3 ⟨rfl,rfl⟩;go_wp2_with fail;refine bp (G3 _) ?_;rintro e w4 ⟨rfl,rfl⟩;cases one
 ·go_wp2_with fail;go_ret;exact⟨cU (by rw[HC.out];rw[G Sq];rfl),X⟩
 cases two
 ·go_wp2_with fail;go_ret;exact⟨cU (by rw[HC.out];rw[G Sq];rfl),X⟩
 cases three
 ·go_wp2_with fail;go_ret;exact⟨cU (by rw[HC.out];rw[G Sq];rfl),X⟩
 go_wp2_with fail;go_ret;exact⟨cU (by rw[HC.out];rw[aG Sq];rfl),X⟩
theorem FK(t:Q)(a:Nat)(w:M)(hm:t.size<=140737488355328)(ha:a<t.size)(hr:241<=(t[a].toNat:Int)/\(t[a].toNat:Int)<244):Cs prog 167 #[Y t,I J a] w fun e w'=>e=Rt (I J (chr t a))/\w'=w:=by
 have HE:Hi _:=cH t a ha;have hx:(t[a].toNat:Int)<256:=by have:=t[a].toNat_lt;omega
 have G1:Hi (∀w,Cs prog 190 #[Y t,I J ((a:Int)+1),I J 128,I J 191] w fun e w'=>e=Rt (Bo (goB t (a+1) 128 191))/\w=w'):=fun w=>(cr t (a+1) 128 191 w O).mono fun e w' h=>⟨h.1,h.2.symm⟩;have G2:Hi (∀w,Cs prog 190 #[Y t,I J ((a:Int)+2),I J 128,I J 191] w fun e w'=>e=Rt (Bo (goB t (a+2) 128 191))/\w=w'):=fun w=>(cr t (a+2) 128 191 w O).mono fun e w' h=>⟨h.1,h.2.symm⟩;have G3:Hi (∀w,Cs prog 190 #[Y t,I J ((a:Int)+3),I J 128,I J 191] w fun e w'=>e=Rt (Bo (goB t (a+3) 128 191))/\w=w'):=fun w=>(cr t (a+3) 128 191 w O).mono fun e w' h=>⟨h.1,h.2.symm⟩;have HC:Hi (chr t a=if goB t (a+1) 128 191=true/\goB t (a+2) 128 191=true/\goB t (a+3) 128 191=true then 4 else 0):=by have e:=HE.out;exact zG t a 128 191 O O (by unfold sg;rw[G O,G O]) (by unfold sa;rw[G O,G O])
 have e224:((t[a].toNat:Int)==224)=false:=by rw[aD];omega
 have e237:((t[a].toNat:Int)==237)=false:=by rw[aD];omega
 have e240:((t[a].toNat:Int)==240)=false:=by rw[aD];omega
 have e244:((t[a].toNat:Int)==244)=false:=by rw[aD];omega
 have d1:decide ((t[a].toNat:Int)<128)=false:=aE O;have d2:decide ((194:Int)<=(t[a].toNat:Int))=true:=aM O;have d3:decide ((t[a].toNat:Int)<224)=false:=aE O;have d4:decide ((224:Int)<=(t[a].toNat:Int))=true:=aM O;have d5:decide ((t[a].toNat:Int)<240)=false:=aE O;have d6:decide ((240:Int)<=(t[a].toNat:Int))=true:=aM O;have d7:decide ((t[a].toNat:Int)<245)=true:=aM O;generalize chr t a=res at HC ⊢;generalize goB t (a+1) 128 191=one at G1 HC;generalize goB t (a+2) 128 191=two at G2 HC;generalize goB t (a+3) 128 191=three at G3 HC;clear hr;go_enter func167,ntmps167;go_wp2_with fail;refine bp (G1 _) ?_;rintro e w2 ⟨rfl,rfl⟩;go_wp2_with fail;refine bp (G2 _) ?_;rintro e w3 ⟨rfl,rfl⟩;go_wp2_with fail;refine bp (G3 _) ?_;rintro e w4 ⟨rfl,rfl⟩;cases one
 ·go_wp2_with fail;go_ret;exact⟨cU (by rw[HC.out];rw[G Sq];rfl),X⟩
 cases two
 ·go_wp2_with fail;go_ret;exact⟨cU (by rw[HC.out];rw[G Sq];rfl),X⟩
 cases three
 ·go_wp2_with fail;go_ret;exact⟨cU (by rw[HC.out];rw[G Sq];rfl),X⟩
 go_wp2_with fail;go_ret;exact⟨cU (by rw[HC.out];rw[aG Sq];rfl),X⟩
theorem DV(t:Q)(a:Nat)(w:M)(hm:t.size<=140737488355328)(ha:a<t.size)(hr:(t[a].toNat:Int)=244):Cs prog 167 #[Y t,I J a] w fun e w'=>e=Rt (I J (chr t a))/\w'=w:=by
 have HE:Hi _:=cH t a ha;have hx:(t[a].toNat:Int)<256:=by have:=t[a].toNat_lt;omega
 have G1:Hi (∀w,Cs prog 190 #[Y t,I J ((a:Int)+1),I J 128,I J 143] w fun e w'=>e=Rt (Bo (goB t (a+1) 128 143))/\w=w'):=fun w=>(cr t (a+1) 128 143 w O).mono fun e w' h=>⟨h.1,h.2.symm⟩;have G2:Hi (∀w,Cs prog 190 #[Y t,I J ((a:Int)+2),I J 128,I J 191] w fun e w'=>e=Rt (Bo (goB t (a+2) 128 191))/\w=w'):=fun w=>(cr t (a+2) 128 191 w O).mono fun e w' h=>⟨h.1,h.2.symm⟩;have G3:Hi (∀w,Cs prog 190 #[Y t,I J ((a:Int)+3),I J 128,I J 191] w fun e w'=>e=Rt (Bo (goB t (a+3) 128 191))/\w=w'):=fun w=>(cr t (a+3) 128 191 w O).mono fun e w' h=>⟨h.1,h.2.symm⟩;have HC:Hi (chr t a=if goB t (a+1) 128 143=true/\goB t (a+2) 128 191=true/\goB t (a+3) 128 191=true then 4 else 0):=by have e:=HE.out;exact zG t a 128 143 O O (by unfold sg;rw[G O,G O]) (by unfold sa;rw[G O,aG O])
 have e224:((t[a].toNat:Int)==224)=false:=by rw[aD];omega
 have e237:((t[a].toNat:Int)==237)=false:=by rw[aD];omega
 have e240:((t[a].toNat:Int)==240)=false:=by rw[aD];omega
 have e244:((t[a].toNat:Int)==244)=true:=by rw[bV];omega
 have d1:decide ((t[a].toNat:Int)<128)=false:=aE O;have d2:decide ((194:Int)<=(t[a].toNat:Int))=true:=aM O;have d3:decide ((t[a].toNat:Int)<224)=false:=aE O;have d4:decide ((224:Int)<=(t[a].toNat:Int))=true:=aM O;have d5:decide ((t[a].toNat:Int)<240)=false:=aE O;have d6:decide ((240:Int)<=(t[a].toNat:Int))=true:=aM O;have d7:decide ((t[a].toNat:Int)<245)=true:=aM O;generalize chr t a=res at HC ⊢;generalize goB t (a+1) 128 143=one at G1 HC;generalize goB t (a+2) 128 191=two at G2 HC;generalize goB t (a+3) 128 191=three at G3 HC;clear hr;go_enter func167,ntmps167;go_wp2_with fail;refine bp (G1 _) ?_;rintro e w2 ⟨rfl,rfl⟩;go_wp2_with fail;refine bp (G2 _) ?_;rintro e w3 ⟨rfl,rfl⟩;go_wp2_with fail;refine bp (G3 _) ?_;rintro e w4 ⟨rfl,rfl⟩;cases one
 ·go_wp2_with fail;go_ret;exact⟨cU (by rw[HC.out];rw[G Sq];rfl),X⟩
 cases two
 ·go_wp2_with fail;go_ret;exact⟨cU (by rw[HC.out];rw[G Sq];rfl),X⟩
 cases three
 ·go_wp2_with fail;go_ret;exact⟨cU (by rw[HC.out];rw[G Sq];rfl),X⟩
 go_wp2_with fail;go_ret;exact⟨cU (by rw[HC.out];rw[aG Sq];rfl),X⟩
theorem DW(t:Q)(a:Nat)(w:M)(hm:t.size<=140737488355328)(ha:a<t.size)(hr:245<=(t[a].toNat:Int)):Cs prog 167 #[Y t,I J a] w fun e w'=>e=Rt (I J (chr t a))/\w'=w:=by
 have HE:Hi _:=cH t a ha;have hx:(t[a].toNat:Int)<256:=by have:=t[a].toNat_lt;omega
 have G1:Hi (∀w,Cs prog 190 #[Y t,I J ((a:Int)+1),I J 128,I J 191] w fun e w'=>e=Rt (Bo (goB t (a+1) 128 191))/\w=w'):=fun w=>(cr t (a+1) 128 191 w O).mono fun e w' h=>⟨h.1,h.2.symm⟩;have G2:Hi (∀w,Cs prog 190 #[Y t,I J ((a:Int)+2),I J 128,I J 191] w fun e w'=>e=Rt (Bo (goB t (a+2) 128 191))/\w=w'):=fun w=>(cr t (a+2) 128 191 w O).mono fun e w' h=>⟨h.1,h.2.symm⟩;have G3:Hi (∀w,Cs prog 190 #[Y t,I J ((a:Int)+3),I J 128,I J 191] w fun e w'=>e=Rt (Bo (goB t (a+3) 128 191))/\w=w'):=fun w=>(cr t (a+3) 128 191 w O).mono fun e w' h=>⟨h.1,h.2.symm⟩;have HC:Hi (chr t a=0):=zF t a (by rw[<-HE.out];omega);have e224:((t[a].toNat:Int)==224)=false:=by rw[aD];omega
 have e237:((t[a].toNat:Int)==237)=false:=by rw[aD];omega
 have e240:((t[a].toNat:Int)==240)=false:=by rw[aD];omega
 have e244:((t[a].toNat:Int)==244)=false:=by rw[aD];omega
 have d1:decide ((t[a].toNat:Int)<128)=false:=aE O;have d2:decide ((194:Int)<=(t[a].toNat:Int))=true:=aM O;have d3:decide ((t[a].toNat:Int)<224)=false:=aE O;have d4:decide ((224:Int)<=(t[a].toNat:Int))=true:=aM O;have d5:decide ((t[a].toNat:Int)<240)=false:=aE O;have d6:decide ((240:Int)<=(t[a].toNat:Int))=true:=aM O;have d7:decide ((t[a].toNat:Int)<245)=false:=aE O;generalize chr t a=res at HC ⊢;generalize goB t (a+1) 128 191=one at G1;generalize goB t (a+2) 128 191=two at G2;generalize goB t (a+3) 128 191=three at G3;clear hr;go_enter func167,ntmps167;go_wp2_with fail;refine bp (G1 _) ?_;rintro e w2 ⟨rfl,rfl⟩;go_wp2_with fail;refine bp (G2 _) ?_;rintro e w3 ⟨rfl,rfl⟩;go_wp2_with fail;refine bp (G3 _) ?_;rintro e w4 ⟨rfl,rfl⟩;go_wp2_with fail;go_ret;exact⟨cU (by rw[HC.out];rfl),X⟩
theorem Cx(t:Q)(a:Nat)(w:M)(hm:t.size<=140737488355328)(ha:a<t.size):Cs prog 167 #[Y t,I J a] w fun e w'=>e=Rt (I J (chr t a))/\w'=w:=by
 by_cases h1:(t[a].toNat:Int)<128
 ·exact FC t a w hm ha h1
 by_cases h2:128<=(t[a].toNat:Int)/\(t[a].toNat:Int)<194
 ·exact FD t a w hm ha h2
 by_cases h3:194<=(t[a].toNat:Int)/\(t[a].toNat:Int)<224
 ·exact FE t a w hm ha h3
 by_cases h4:(t[a].toNat:Int)=224
 ·exact FF t a w hm ha h4
 by_cases h5:225<=(t[a].toNat:Int)/\(t[a].toNat:Int)<237
 ·exact FG t a w hm ha h5
 by_cases h6:(t[a].toNat:Int)=237
 ·exact FH t a w hm ha h6
 by_cases h7:238<=(t[a].toNat:Int)/\(t[a].toNat:Int)<240
 ·exact FI t a w hm ha h7
 by_cases h8:(t[a].toNat:Int)=240
 ·exact FJ t a w hm ha h8
 by_cases h9:241<=(t[a].toNat:Int)/\(t[a].toNat:Int)<244
 ·exact FK t a w hm ha h9
 by_cases h10:(t[a].toNat:Int)=244
 ·exact DV t a w hm ha h10
 exact DW t a w hm ha O
def It(t:Q):Nat->Nat->Prop
 |0,k=>t.size<=k
 |n+1,k=>t.size<=k\/(chr t k≠0/\It t n (k+chr t k))
def jw(t:Q)(k:Nat):Prop:=∃n,It t n k
def j5(t:Q):Prop:=jw t 0
theorem wS(t:Q)(k:Nat)(h:t.size<=k):jw t k:=⟨0,h⟩
theorem tI(t:Q)(k:Nat)(h:k<t.size):jw t k↔chr t k≠0/\jw t (k+chr t k):=by
 constructor
 ·rintro⟨n,hn⟩
  cases n with
  |zero=>have:t.size<=k:=hn;omega
  |succ n=>
   rcases hn with h'|⟨h1,h2⟩
   ·omega
   ·exact⟨h1,n,h2⟩
 rintro⟨h1,n,h2⟩;exact⟨n+1,.inr ⟨h1,h2⟩⟩
theorem Cz(t:Q)(k:Nat)(h:k<t.size):k+chr t k<=t.size:=by
 have g:∀{a:Nat} {lo hi:Int},goB t a lo hi=true->a<t.size:=fun {a lo hi} e=>by unfold goB at e;exact(ff e).1
 unfold chr;split
 ·omega
 split
 ·rename_i e;have:=g e.2.2;omega
 split
 ·rename_i e;have:=g e.2.2.2;omega
 split
 ·rename_i e;have:=g e.2.2.2.2;omega
 omega
theorem qM(t:Q)(w:M)(hm:t.size<=140737488355328):Cs prog 125 #[Y t] w fun e w'=>fi (j5 t) w e w':=by
 go_enter func125,ntmps125;go_wp2;go_loop [3] (fun i=>∃k:Nat,k<=t.size/\i=I J k/\(j5 t↔jw t k)) (fun i=>t.size-(Io i).toNat);case atStart=>exact⟨0,O,X,px⟩
 obtain⟨k,hk,rfl,hu⟩:=hrel;have HU:Hi _:=hu;clear hu;by_cases hlt:k<t.size
 ·have HS:Hi _:=tI t k hlt;have hc:=Cz t k hlt;have HC:Hi (∀w,Cs prog 167 #[Y t,I J k] w fun e w'=>e=Rt (I J (chr t k))/\w=w'):=fun w=>(Cx t k w hm hlt).mono fun e w' h=>⟨h.1,h.2.symm⟩;generalize chr t k=c at HS hc HC;go_wp2_with fail;refine bp (HC _) ?_;rintro e w2 ⟨rfl,rfl⟩;by_cases hz:c=0
  ·have HN:Hi _:=fun h=>(HS.1 (HU.1 h)).1 hz;(have hz':((c:Int)==0)=true:=by rw[bV];omega);clear hz;go_wp2_with fail;go_ret;exact cR HN (dq _)
  have HX:Hi (j5 t↔jw t (k+c)):=HU.trans (HS.trans ⟨fun h=>h.2,fun h=>⟨hz,h⟩⟩);have hz':((c:Int)==0)=false:=by rw[aD];omega
  have hpos:1<=c:=O;clear hz;go_wp2_with fail;go_round;case rel=>exact⟨k+c,O,Gn,HX⟩
  case measure=>exact Ms
 have HY:Hi _:=HU.2 (wS t k O);go_wp2;go_ret;exact fC HY (dq w)
end Go.Proofs.YtkkicodfpekbgaaGreatDoor
namespace Go.Proofs.YtkkicodfpekbgaaGreatDoor
open Go.Lib
def bN(t:Q)(i:Nat):Nat:=(t.data.toList.getD i 0).toNat
theorem nA(t:Q)(i:Nat):b8 t i=(bN t i:Int):=rfl
theorem GT(t:Q)(i:Nat):bN t i<256:=(t.data.toList.getD i 0).toNat_lt
theorem nB(t:Q)(k i:Nat):((t.data.toList.drop k).getD i 0).toNat=bN t (k+i):=by unfold bN;simp[aB,dX]
theorem mf(t:Q)(a:Nat)(lo hi:Nat):goB t a lo hi=true↔a<t.size/\lo<=bN t a/\bN t a<=hi:=by
 unfold goB;rw[cK,nA];omega
def told(c:Nat):Oo Nat:=if c=0 then Z else U c
theorem rC(p:Prop) [Decidable p](q:Prop) [Decidable q](c:Nat)(hc:c≠0)(h:p↔¬q):(if q then Z else U c)=told (if p then c else 0):=by
 by_cases hq:q
 ·rw[aG hq,G (fun hp=>(h.1 hp) hq)];rfl
 rw[G hq,aG (h.2 hq)];unfold told;rw[G hc]
theorem DX(t:Q)(k lo hi:Nat)(h0:194<=bN t k)(h1:bN t k<224)(hl:sg (b8 t k)=(lo:Int))(hh:sa (b8 t k)=(hi:Int)):checkN (t.size-k) (bN t (k+1)) (bN t (k+2)) (bN t (k+3)) 2 lo hi=told (chr t k):=by
 rw[E0 t k lo hi (by rw[nA];omega) (by rw[nA];omega) hl hh];unfold checkN;rw[aG rfl];refine rC _ _ 2 O ?_;rw[mf];omega
theorem pE(t:Q)(k lo hi:Nat)(h0:224<=bN t k)(h1:bN t k<240)(hl:sg (b8 t k)=(lo:Int))(hh:sa (b8 t k)=(hi:Int)):checkN (t.size-k) (bN t (k+1)) (bN t (k+2)) (bN t (k+3)) 3 lo hi=told (chr t k):=by
 rw[vG t k lo hi (by rw[nA];omega) (by rw[nA];omega) hl hh];unfold checkN;rw[G O,aG rfl];refine rC _ _ 3 O ?_;rw[mf,show((128:Int)=((128:Nat):Int))from X,show((191:Int)=((191:Nat):Int))from X,mf];omega
theorem ui(t:Q)(k lo hi:Nat)(h0:240<=bN t k)(h1:bN t k<245)(hl:sg (b8 t k)=(lo:Int))(hh:sa (b8 t k)=(hi:Int)):checkN (t.size-k) (bN t (k+1)) (bN t (k+2)) (bN t (k+3)) 4 lo hi=told (chr t k):=by
 rw[zG t k lo hi (by rw[nA];omega) (by rw[nA];omega) hl hh];unfold checkN;rw[G O,G O,aG rfl];refine rC _ _ 4 O ?_;rw[mf,show((128:Int)=((128:Nat):Int))from X,show((191:Int)=((191:Nat):Int))from X,mf,mf];omega
theorem AJ(t:Q)(k:Nat)(h:128<=bN t k):checkN (t.size-k) (bN t (k+1)) (bN t (k+2)) (bN t (k+3)) (firstT (bN t k)%8) (accLo (firstT (bN t k)/16)) (accHi (firstT (bN t k)/16))=told (chr t k):=by
 have key:∀x sz lo hi,firstT (bN t k)=x->x%8=sz->accLo (x/16)=lo->accHi (x/16)=hi->checkN (t.size-k) (bN t (k+1)) (bN t (k+2)) (bN t (k+3)) sz lo hi=told (chr t k)->
  checkN (t.size-k) (bN t (k+1)) (bN t (k+2)) (bN t (k+3)) (firstT (bN t k)%8) (accLo (firstT (bN t k)/16)) (accHi (firstT (bN t k)/16))=told (chr t k):=fun x sz lo hi e0 e1 e2 e3 he=>by
  rw[e0,e1,e2,e3];exact he
 have hb:=GT t k;have e8:=nA t k;have n128:¬bN t k<128:=O;have bad:firstT (bN t k)=241->chr t k=0->checkN (t.size-k) (bN t (k+1)) (bN t (k+2)) (bN t (k+3)) (firstT (bN t k)%8) (accLo (firstT (bN t k)/16)) (accHi (firstT (bN t k)/16))=told (chr t k):=fun e0 ec=>by rw[e0,ec];rfl
 by_cases c0:bN t k<194
 ·exact bad (by unfold firstT;rw[G n128,aG c0]) (zF t k (.inl (by rw[e8];omega)))
 by_cases c1:bN t k<224
 ·exact key 2 2 128 191 (by unfold firstT;rw[G n128,G c0,aG c1]) Dc Dc Dc (DX t k 128 191 O c1 (by rw[e8];unfold sg;rw[G O,G O];rfl) (by rw[e8];unfold sa;rw[G O,G O];rfl))
 by_cases c2:bN t k=224
 ·exact key 19 3 160 191 (by rw[c2];decide) Dc Dc Dc (pE t k 160 191 O O (by rw[e8,c2];decide) (by rw[e8,c2];decide))
 by_cases c3:bN t k<237
 ·exact key 3 3 128 191 (by unfold firstT;rw[G n128,G c0,G c1,G c2,aG c3]) Dc Dc Dc (pE t k 128 191 O O (by rw[e8];unfold sg;rw[G O,G O];rfl) (by rw[e8];unfold sa;rw[G O,G O];rfl))
 by_cases c4:bN t k=237
 ·exact key 35 3 128 159 (by rw[c4];decide) Dc Dc Dc (pE t k 128 159 O O (by rw[e8,c4];decide) (by rw[e8,c4];decide))
 by_cases c5:bN t k<240
 ·exact key 3 3 128 191 (by unfold firstT;rw[G n128,G c0,G c1,G c2,G c3,G c4,aG c5]) Dc Dc Dc (pE t k 128 191 O O (by rw[e8];unfold sg;rw[G O,G O];rfl) (by rw[e8];unfold sa;rw[G O,G O];rfl))
 by_cases c6:bN t k=240
 ·exact key 52 4 144 191 (by rw[c6];decide) Dc Dc Dc (ui t k 144 191 O O (by rw[e8,c6];decide) (by rw[e8,c6];decide))
 by_cases c7:bN t k<244
 ·exact key 4 4 128 191 (by unfold firstT;rw[G n128,G c0,G c1,G c2,G c3,G c4,G c5,G c6,aG c7]) Dc Dc Dc (ui t k 128 191 O O (by rw[e8];unfold sg;rw[G O,G O];rfl) (by rw[e8];unfold sa;rw[G O,G O];rfl))
 by_cases c8:bN t k=244
 ·exact key 68 4 128 143 (by rw[c8];decide) Dc Dc Dc (ui t k 128 143 O O (by rw[e8,c8];decide) (by rw[e8,c8];decide))
 exact bad (by unfold firstT;rw[G n128,G c0,G c1,G c2,G c3,G c4,G c5,G c6,G c7,G c8]) (zF t k (.inr (by rw[e8];omega)))
theorem kM(t:Q):t.data.toList.length=t.size:=cq
theorem Bz(t:Q)(k:Nat)(hk:k<t.size):validD (t.data.toList.drop k)=if chr t k=0 then false else validD (t.data.toList.drop (k+chr t k)):=by
 have hlen:(t.data.toList.drop k).length=t.size-k:=by rw[di,kM]
 have hne:t.data.toList.drop k≠ []:=fun e=>by rw[e]at hlen;simp at hlen;omega
 by_cases h:bN t k<128
 ·have hc:chr t k=1:=EZ t k (by rw[nA];omega);have hk':k<t.data.toList.length:=by rw[kM];exact hk
  rw[hc,G O,fI hk',validD_cons];have:bN t k=t.data.toList[k].toNat:=by unfold bN;rw[aB,aC hk'];rfl
  omega
 rw[validD_lead _ hne (by rw[nB];show 128<=bN t k;omega),hlen,nB,nB,nB,nB]
 show(match checkN (t.size-k) (bN t (k+1)) (bN t (k+2)) (bN t (k+3)) (firstT (bN t k)%8) (accLo (firstT (bN t k)/16)) (accHi (firstT (bN t k)/16))with
  |none=>false
  |some j=>validD ((t.data.toList.drop k).drop j))=_
 rw[AJ t k O];unfold told;by_cases hc:chr t k=0
 ·rw[aG hc,aG hc]
 rw[G hc,G hc];show validD ((t.data.toList.drop k).drop (chr t k))=_;rw[List.drop_drop]
theorem lz(t:Q):∀(n k:Nat),t.size-k<=n->k<=t.size->(jw t k↔validD (t.data.toList.drop k)=true)
 |n,k,hn,hk=>by
  by_cases he:k=t.size
  ·have:t.data.toList.drop k=[]:=eA (by rw[kM];omega)
   rw[this,validD_nil]
   exact⟨fun _=>rfl,fun _=>wS t k O⟩
  ·have hk':k<t.size:=O
   rw[tI t k hk',Bz t k hk']
   by_cases hc:chr t k=0
   ·rw[aG hc]
    exact⟨fun h=>Ab hc h.1,fun h=>by cases h⟩
   ·rw[G hc]
    match n,hn with
    |0,hn=>omega
    |n+1,hn=>
     have ih:=lz t n (k+chr t k) O (Cz t k hk')
     exact⟨fun h=>ih.1 h.2,fun h=>⟨hc,ih.2 h⟩⟩
theorem zf(t:Q):j5 t↔validD t.data.toList=true:=by
 have:=lz t t.size 0 O O;rw[gE]at this;exact this
end Go.Proofs.YtkkicodfpekbgaaGreatDoor
namespace Go.Proofs.YtkkicodfpekbgaaGreatDoor
theorem iv(l:Ls UInt8)(i:Nat):b8 ⟨l.toArray⟩ i=((l.getD i 0).toNat:Int):=by simp[b8]
theorem fk(l:Ls UInt8):(⟨l.toArray⟩:Q).size=l.length:=by show l.toArray.size=_;simp
theorem qK(a:UInt8)(l:Ls UInt8):(⟨(a::l).toArray⟩:Q).extract 1 (⟨(a::l).toArray⟩:Q).size=⟨l.toArray⟩:=by
 apply bC;rw[fk];apply Array.toList_inj.1;rw[Lib.extract_data];simp
theorem lW(x:Int)(h0:0<=x)(h1:x<256):((Uo x.toNat).toNat:Int)=x:=by(have:(Uo x.toNat).toNat=x.toNat:=by rw[IF];omega);omega
theorem Hl(n:Int)(h0:0<=n)(h1:n<16777216)(rest:Ls UInt8):rl ⟨(tl n++rest).toArray⟩=(0,1+cnt n,n):=by
 have hlen:=fM n;have hc:=cnt_cases n;rcases hc with⟨a,b⟩|⟨a,a',b⟩|⟨a,a',b⟩|⟨a,b⟩
 ·have e:tl n=[Uo n.toNat]:=by unfold tl;rw[aG a]
  have e0:b8 ⟨(tl n++rest).toArray⟩ 0=n:=by rw[iv,e];exact lW n h0 O
  unfold rl;rw[fk,e0,G (by rw[e];simp),aG a,b];rfl
 ·have e:tl n=[129,Uo n.toNat]:=by unfold tl;rw[G O,aG a']
  have e0:b8 ⟨(tl n++rest).toArray⟩ 0=129:=by rw[iv,e];rfl
  have e1:b8 ⟨(tl n++rest).toArray⟩ 1=n:=by rw[iv,e];exact lW n h0 O
  have en:bH ⟨(tl n++rest).toArray⟩ 1=n:=by simp only[bH];rw[e1];omega
  unfold rl;rw[fk,e0,G (by rw[e];simp),G O,G O,G (by rw[e];simp;omega),show((129:Int)-128).toNat=1 by rfl,en,G O,b];rfl
 ·have e:tl n=[130,Uo (n/256).toNat,Uo (n%256).toNat]:=by unfold tl;rw[G O,G O,aG a']
  have e0:b8 ⟨(tl n++rest).toArray⟩ 0=130:=by rw[iv,e];rfl
  have e1:b8 ⟨(tl n++rest).toArray⟩ 1=n/256:=by rw[iv,e];exact lW _ O O
  have e2:b8 ⟨(tl n++rest).toArray⟩ 2=n%256:=by rw[iv,e];exact lW _ O O
  have en:bH ⟨(tl n++rest).toArray⟩ 2=n:=by simp only[bH];rw[e1,e2];omega
  unfold rl;rw[fk,e0,G (by rw[e];simp),G O,G O,G (by rw[e];simp;omega),show((130:Int)-128).toNat=2 by rfl,en,G O,b];rfl
 have e:tl n=[131,Uo (n/65536).toNat,Uo (n/256%256).toNat,Uo (n%256).toNat]:=by unfold tl;rw[G O,G O,G O]
 have e0:b8 ⟨(tl n++rest).toArray⟩ 0=131:=by rw[iv,e];rfl
 have e1:b8 ⟨(tl n++rest).toArray⟩ 1=n/65536:=by rw[iv,e];exact lW _ O O
 have e2:b8 ⟨(tl n++rest).toArray⟩ 2=n/256%256:=by rw[iv,e];exact lW _ O O
 have e3:b8 ⟨(tl n++rest).toArray⟩ 3=n%256:=by rw[iv,e];exact lW _ O O
 have en:bH ⟨(tl n++rest).toArray⟩ 3=n:=by simp only[bH];rw[e1,e2,e3];omega
 unfold rl;rw[fk,e0,G (by rw[e];simp),G O,G O,G (by rw[e];simp;omega),show((131:Int)-128).toNat=3 by rfl,en,G O,b];rfl
theorem D4(c:Int)(b:Bool)(n l:Int)(z:Int)(q1:0<=c)(q2:c<=3)(q3:0<=n)(q4:n<=30)(q5:0<=l)(q6:l<=16777215)(rest:Ls UInt8):hd ⟨(Uo (fb ⟨c,b,n,z,l⟩).toNat::(tl l++rest)).toArray⟩=if(rest.length:Int)<l then(3,.zero)else(0,⟨c,b,n,2+cnt l,l⟩):=by
 have hf:fb ⟨c,b,n,z,l⟩=c*64+n+(if b then 32 else 0):=by unfold fb;cases b<;>simp
 have hf0:0<=fb ⟨c,b,n,z,l⟩/\fb ⟨c,b,n,z,l⟩<256:=by rw[hf];cases b<;>simp<;>omega
 have e0:b8 ⟨(Uo (fb ⟨c,b,n,z,l⟩).toNat::(tl l++rest)).toArray⟩ 0=fb ⟨c,b,n,z,l⟩:=by rw[iv];exact lW _ hf0.1 hf0.2
 have hlen:=fM l;have hd1:fb ⟨c,b,n,z,l⟩%32=n:=by rw[hf];cases b<;>simp<;>omega
 have hd2:fb ⟨c,b,n,z,l⟩/64=c:=by rw[hf];cases b<;>simp<;>omega
 have hd3:(fb ⟨c,b,n,z,l⟩/32%2==1)=b:=by
  rw[hf];cases b
  ·rw[aD];simp;omega
  rw[bV];simp;omega
 unfold hd;rw[qK,Hl l q5 O rest,e0,hd1,hd2,hd3,fk];simp only;rw[G Sq,G O,G O];have hL:(((Uo (fb ⟨c,b,n,z,l⟩).toNat::(tl l++rest)).length:Nat):Int)=2+cnt l+rest.length:=by simp only[aU,aQ];omega
 rw[hL];by_cases h:(rest.length:Int)<l
 ·rw[aG h,aG O]
 rw[G h,G O,show 1+cnt l+1=2+cnt l by omega]
theorem A8(x y:Ls UInt8):(⟨x.toArray⟩:Q)++⟨y.toArray⟩=⟨(x++y).toArray⟩:=by apply bC;simp
theorem yF(t:Q):t=⟨t.data.toList.toArray⟩:=by apply bC;simp
end Go.Proofs.YtkkicodfpekbgaaGreatDoor
