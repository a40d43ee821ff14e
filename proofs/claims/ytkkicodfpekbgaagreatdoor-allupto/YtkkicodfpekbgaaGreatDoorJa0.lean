/- Parts. -/
import Derived.Test.YtkkicodfpekbgaaGreatDoorRows
import Derived.WalkSpells
import Derived.WalkLawsBesides
import Derived.BigQuiet
import Derived.Lib.Bytealg
import Derived.Deep.RegionWith
import Derived.Deep.Light
import Derived.Lib.ValidLaws
import Derived.Test.YtkkicodfpekbgaaGreatDoorJA
open Go.Value renaming int->I,string->Y,bool->Bo
open Go.IntKind renaming i64->J
open Go.Ending renaming returned->Rt
open Option renaming some->U,none->Z
open Go renaming World->M,Calls->Cs,Value->Vv
open _root_ renaming ByteArray->Q,Option->Oo,List->Ls
open Go.RowKit renaming intOf->Io,Hid->Hi
open UInt8 renaming ofNat->Uo
open Go.Addr renaming mk->D
set_option linter.all false
set_option maxRecDepth 100000
set_option maxHeartbeats 8000000
namespace Go.Proofs.YtkkicodfpekbgaaGreatDoor
variable{w w':M}{P:Prop}{t:Q}
section
theorem jr(h:t.size=0):t.toList.isEmpty=true:=by
 rw[Lib.toList_data];have:t.data.toList.length=0:=by rw[ri];exact h
 cases hl:t.data.toList with
 |nil=>rfl
 |cons a l=>rw[hl]at this;simp at this
theorem gw(h:0<t.size):t.toList.isEmpty=false:=by
 rw[Lib.toList_data];have h2:t.data.toList.length=t.size:=by rw[ri];rfl
 cases hl:t.data.toList with
 |nil=>rw[hl]at h2;simp at h2;omega
 |cons a l=>rfl
def b8(t:Q)(i:Nat):Int:=((t.data.toList.getD i 0).toNat:Int)
theorem gq(t:Q)(i:Nat)(h:i<t.size):(t[i].toNat:Int)=b8 t i:=by
 unfold b8;have hl:i<t.data.toList.length:=by rw[ri];exact h
 rw[dy,dz hl];rfl
theorem mr(t:Q)(i:Nat):0<=b8 t i/\b8 t i<256:=by
 unfold b8;have:=(t.data.toList.getD i 0).toNat_lt;omega
theorem Ip(t:Q)(a i:Nat)(_h:a<=t.size):b8 (t.extract a t.size) i=b8 t (a+i):=by
 unfold b8;rw[Lib.extract_data];have e:(t.data.toList.drop a).take (t.size-a)=t.data.toList.drop a:=by apply ye;rw[ug,ri];exact Ln
 first
  |(rw[e];simp[dy])
  |(simp[dy];done)
def dq(t:Q):Nat->Int
 |0=>0
 |k+1=>dq t k*256+b8 t (k+1)
theorem uU(t:Q):∀k:Nat,0<=dq t k/\(k<=3->dq t k<16777216)/\(k<=2->dq t k<65536)/\(k<=1->dq t k<256)
 |0=>by simp[dq]
 |k+1=>by
  have ih:=uU t k
  have hb:=mr t (k+1)
  simp only[dq]
  refine⟨O,fun h=>?_,fun h=>?_,fun h=>?_⟩
  ·have:=ih.2.2.1 O;omega
  ·have:=ih.2.2.2 O;omega
  ·have:k=0:=O
   subst this
   simp only[dq];omega
def cnt(n:Int):Int:=if n<128 then 0 else if n<256 then 1 else if n<65536 then 2 else 3
theorem cnt_cases(n:Int):(n<128/\cnt n=0)\/(128<=n/\n<256/\cnt n=1)\/(256<=n/\n<65536/\cnt n=2)\/(65536<=n/\cnt n=3):=by
 unfold cnt;repeat' split
 all_goals omega
theorem Ak(n:Int)(h₀:0<=n)(h₁:n<2^63):IntKind.i64.wrap n=n:=by rw[su];omega
theorem Vp(x y:Int)(h0:0<=x)(h1:x<4611686018427387904)(hx:x%256=0)(h2:0<=y)(h3:y<256):bits .or J x y=x+y:=
 bits_join J 63 Dc Ak 8 x y h0 hx O h2 h3 O
theorem Vo(x y:Int)(h0:0<=x)(h1:x<4611686018427387904)(hx:x%64=0)(h2:0<=y)(h3:y<64):bits .or J x y=x+y:=
 bits_join J 63 Dc Ak 6 x y h0 hx O h2 h3 O
theorem ae4(x:Int)(h0:0<=x)(h1:x<256):bits .and J x 31=x%32:=bits_mask J 63 Dc Ak 5 Dc x h0 O
theorem ae5(x:Int)(h0:0<=x)(h1:x<256):(bits .and J x 32!=0)=(x/32%2==1):=by
 have all:∀j:Fin 256,(bits .and J ((j.val:Nat):Int) 32!=0)=(((j.val:Nat):Int)/32%2==1):=by decide+kernel
 obtain⟨a,rfl⟩:=sg h0;exact all ⟨a,O⟩
theorem ae7(c n:Int)(h0:0<=c)(h1:c<=3)(h2:0<=n)(h3:n<=30):bits .or J (c*64+n) 32=c*64+n+32:=by
 have all:∀j:Fin 4,∀k:Fin 31,bits .or J (((j.val:Nat):Int)*64+((k.val:Nat):Int)) 32=((j.val:Nat):Int)*64+((k.val:Nat):Int)+32:=by decide+kernel
 obtain⟨a,rfl⟩:=sg h0;obtain⟨b,rfl⟩:=sg h2;exact all ⟨a,O⟩ ⟨b,O⟩
def rl(t:Q):Int×Int×Int:=
 if t.size=0 then(3,0,0)
 else if b8 t 0<128 then(0,1,b8 t 0)
 else if b8 t 0=128\/131<b8 t 0 then(5,0,0)
 else if(t.size:Int)<=b8 t 0-128 then(3,0,0)
 else if b8 t 0-128≠cnt (dq t (b8 t 0-128).toNat)then(5,0,0)
 else(0,1+(b8 t 0-128),dq t (b8 t 0-128).toNat)
structure Hd where
 c:Int
 b:Bool
 n:Int
 s:Int
 l:Int
def Hd.zero:Hd:=⟨0,false,0,0,0⟩
def hd(r:Q):Int×Hd:=
 if r.size=0 then(3,.zero)
 else if b8 r 0%32=31 then(4,.zero)
 else if(rl (r.extract 1 r.size)).1≠0 then((rl (r.extract 1 r.size)).1,.zero)
 else if(r.size:Int)-((rl (r.extract 1 r.size)).2.1+1)<(rl (r.extract 1 r.size)).2.2 then(3,.zero)
 else(0,⟨b8 r 0/64,b8 r 0/32%2==1,b8 r 0%32,(rl (r.extract 1 r.size)).2.1+1,(rl (r.extract 1 r.size)).2.2⟩)
theorem Kh(t:Q):((rl t).1=0\/(rl t).1=3\/(rl t).1=5)/\0<=(rl t).2.1/\(rl t).2.1<=4/\0<=(rl t).2.2/\(rl t).2.2<16777216:=by
 have hb:=mr t 0;unfold rl;split;·simp
 split;·simp;omega
 split;·simp
 split;·simp
 split;·simp
 rename_i h1 h2 h3 h4 h5;have hn:=uU t (b8 t 0-128).toNat;have:=hn.2.1 O;refine⟨.inl X,?_,?_,hn.1,this⟩ <;>simp only<;>omega
def tl(n:Int):Ls UInt8:=
 if n<128 then [Uo n.toNat]
 else if n<256 then [129,Uo n.toNat]
 else if n<65536 then [130,Uo (n/256).toNat,Uo (n%256).toNat]
 else [131,Uo (n/65536).toNat,Uo (n/256%256).toNat,Uo (n%256).toNat]
theorem yy(n:Int):((tl n).length:Int)=1+cnt n:=by
 unfold tl cnt;split;·rfl
 split;·rfl
 split<;>rfl
def fb(h:Hd):Int:=if h.b then h.c*64+h.n+32 else h.c*64+h.n
def Gy(h:Hd):Int×Ls UInt8:=
 if h.c<0\/3<h.c\/h.n<0\/30<h.n then(4,[])
 else if h.l<0\/16777215<h.l then(5,[])
 else(0,Uo (fb h).toNat::tl h.l)
def bv(u:UInt8):Vv:=I .u8 u.toNat
theorem rp(x:Int)(h0:0<=x)(h1:x<256):bv (Uo x.toNat)=I .u8 x:=by
 unfold bv;have:(Uo x.toNat).toNat=x.toNat:=by rw[UInt8.toNat_ofNat'];omega
 rw[this,vh h0]
def pe(t:Q):Prop:=1<=t.size/\t.size<=20/\(2<=t.size->b8 t 0*2+b8 t 1/128≠0/\b8 t 0*2+b8 t 1/128≠511)
def uo(t:Q)(k:Nat):Prop:=k=0\/b8 t (k-1)<128
def rq(t:Q)(k:Nat):Prop:=∀j,j<k->¬(uo t j/\b8 t j=128)
def nf(t:Q):Prop:=1<=t.size/\t.size<=20/\rq t t.size/\uo t t.size
theorem Ju(t:Q)(k:Nat):rq t (k+1)↔rq t k/\¬(uo t k/\b8 t k=128):=by
 unfold rq;constructor;·intro h;exact⟨fun j hj=>h j O,h k O⟩
 intro h j hj;by_cases e:j=k;·subst e;exact h.2
 exact h.1 j O
theorem Xq(t:Q):rq t 0:=fun _ h=>Ab h (dh _)
theorem Pk(t:Q)(k:Nat)(hk:k<t.size)(h:uo t k/\b8 t k=128):¬nf t:=fun o=>o.2.2.1 k hk h
def qo(t:Q):Prop:=1<=t.size/\b8 t 0<=7/\(t.size=1->b8 t 0=0)/\(2<=t.size->b8 t (t.size-1)%2^(b8 t 0).toNat=0)
theorem ae6(x y:Int)(h0:0<=x)(h1:x<4611686018427387904)(hx:x%2=0)(h2:0<=y)(h3:y<2):bits .or J x y=x+y:=
 bits_join J 63 Dc Ak 1 x y h0 hx O h2 h3 O
def tz8(x:Nat):Nat:=if x=0 then 8 else(List.range 8).findIdx (fun k=>x/2^k%2=1)
theorem aiN:∀x:Fin 256,∀k:Fin 8,(k.val<=tz8 x.val↔x.val%2^k.val=0):=by decide+kernel
end
section
open Go.Proofs.Tryz
open Go.RowKit
def gz(P:Prop)(w:M)(e:Ending)(w':M):Prop:=∃r,e=Rt (Bo r)/\(r=true↔P)/\∃k,w'=w.drewN k
theorem ie(h:¬P)(hw:∃k,w'=w.drewN k):gz P w (Rt (Bo false)) w':=⟨false,X,⟨fun e=>(by cases e),fun p=>Ab p h⟩,hw⟩
theorem ru(h:P)(hw:∃k,w'=w.drewN k):gz P w (Rt (Bo true)) w':=⟨true,X,⟨fun _=>h,fun _=>rfl⟩,hw⟩
theorem od{r:Bool}(h:r=true↔P)(hw:∃k,w'=w.drewN k):gz P w (Rt (Bo r)) w':=⟨r,X,h,hw⟩
def aaP(P:Prop)(v:Vv):Prop:=∃q:Bool,v=Bo q/\(q=true↔P)
theorem gh(w:M):∃k,w=w.drewN k:=⟨0,X⟩
theorem adP(t:Q)(w:M)(hm:t.size<=9223372036854775807):Cs prog 173 #[Y t] w fun e w'=>gz (pe t) w e w':=by
 by_cases h1:t.size<1;·clear hm;go_enter func173,ntmps173;go_wp2;go_ret;exact ie (fun h:pe t=>by have:=h.1;omega) (gh w)
 by_cases h2:20<t.size;·have kG:(20:Int)<t.size:=O;go_enter func173,ntmps173;go_wp2;go_ret;exact ie (fun h:pe t=>by have:=h.2.1;omega) (gh w)
 by_cases h3:t.size=1;·(have DZ:((t.size:Int)==1)=true:=by rw[h3];rfl);have HI:Hi (pe t):=⟨O,O,O⟩;clear h3;go_enter func173,ntmps173;go_wp2;go_ret;exact ru HI (gh w)
 have DZ:((t.size:Int)==1)=false:=Bf;have h4:(0:Int)<t.size:=O;have h5:(1:Int)<t.size:=O;have h6:0<t.size:=O;have h7:1<t.size:=O;have e0:=gq t 0 h6;have e1:=gq t 1 h7;have b0:=mr t 0;have b1:=mr t 1;have x0:(t[0].toNat:Int)<256:=O;have x1:(t[1].toNat:Int)<256:=O;have HE:Hi (bits .or J ((t[0].toNat:Int)*2) ((t[1].toNat:Int)/128)=b8 t 0*2+b8 t 1/128):=by show _=_;rw[e0,e1,ae6 _ _ O O O O O]
 have HI:Hi (pe t↔b8 t 0*2+b8 t 1/128≠0/\b8 t 0*2+b8 t 1/128≠511):=⟨fun h=>h.2.2 O,fun h=>⟨O,O,fun _=>h⟩⟩;clear e0 e1;go_enter func173,ntmps173;go_wp2;go_quiet (fail);rw[HE.out];generalize b8 t 0*2+b8 t 1/128=x at HI;by_cases h8:x=0;·(have PN:(x !=0)=false:=by rw[qj];exact h8);have HN:Hi _:=fun h=>(HI.1 h).1 h8;clear h8;go_wp2;go_ret;exact ie HN ⟨_,X⟩
 have PN:(x !=0)=true:=by rw[ln];exact h8
 by_cases h9:x=511;·(have D1:(x !=511)=false:=by rw[qj];exact h9);have HN:Hi _:=fun h=>(HI.1 h).2 h9;clear h9 h8;go_wp2;go_ret;exact ie HN ⟨_,X⟩
 have D1:(x !=511)=true:=by rw[ln];exact h9
 have HN:Hi (pe t):=HI.2 ⟨h8,h9⟩;clear h9 h8;go_wp2;go_ret;exact ru HN ⟨_,X⟩
theorem Vt(t:Q)(w:M)(hm:t.size<=9223372036854775807):Cs prog 124 #[Y t] w fun e w'=>gz (pe t) w e w':=by
 by_cases h1:t.size<1;·(have iH:((t.size:Int)==0)=true:=by rw[jq];omega);go_enter func124,ntmps124;go_wp2;go_ret;exact ie (fun h:pe t=>by have:=h.1;omega) (gh w)
 have iH:((t.size:Int)==0)=false:=Bf;by_cases h2:20<t.size;·have kG:(20:Int)<t.size:=O;go_enter func124,ntmps124;go_wp2;go_ret;exact ie (fun h:pe t=>by have:=h.2.1;omega) (gh w)
 by_cases h3:t.size=1;·(have DZ:((t.size:Int)==1)=true:=by rw[h3];rfl);have HI:Hi (pe t):=⟨O,O,O⟩;clear h3;go_enter func124,ntmps124;go_wp2;go_ret;exact ru HI (gh w)
 have DZ:((t.size:Int)==1)=false:=Bf;have h5:(1:Int)<t.size:=O;have h6:0<t.size:=O;have h7:1<t.size:=O;have e0:=gq t 0 h6;have e1:=gq t 1 h7;have b0:=mr t 0;have b1:=mr t 1;have x0:(t[0].toNat:Int)<256:=O;have x1:(t[1].toNat:Int)<256:=O;have HE:Hi ((2:Int)*(t[0].toNat:Int)+(t[1].toNat:Int)/128=b8 t 0*2+b8 t 1/128):=by show _=_;rw[e0,e1];omega
 have HI:Hi (pe t↔b8 t 0*2+b8 t 1/128≠0/\b8 t 0*2+b8 t 1/128≠511):=⟨fun h=>h.2.2 O,fun h=>⟨O,O,fun _=>h⟩⟩;clear e0 e1;go_enter func124,ntmps124;go_wp2;go_quiet (fail);rw[HE.out];generalize b8 t 0*2+b8 t 1/128=x at HI;by_cases h8:x=0;·(have PN:(x !=0)=false:=by rw[qj];exact h8);have HN:Hi _:=fun h=>(HI.1 h).1 h8;clear h8;go_wp2;go_ret;exact ie HN ⟨_,X⟩
 have PN:(x !=0)=true:=by rw[ln];exact h8
 by_cases h9:x=511;·(have D1:(x !=511)=false:=by rw[qj];exact h9);have HN:Hi _:=fun h=>(HI.1 h).2 h9;clear h9 h8;go_wp2;go_ret;exact ie HN ⟨_,X⟩
 have D1:(x !=511)=true:=by rw[ln];exact h9
 have HN:Hi (pe t):=HI.2 ⟨h8,h9⟩;clear h9 h8;go_wp2;go_ret;exact ru HN ⟨_,X⟩
theorem adQ(t:Q)(w:M)(hm:t.size<=9223372036854775807):Cs prog 174 #[Y t] w fun e w'=>gz (nf t) w e w':=by
 by_cases h1:t.size<1;·clear hm;go_enter func174,ntmps174;go_wp2;go_ret;exact ie (fun h:nf t=>by have:=h.1;omega) (gh w)
 by_cases h2:20<t.size;·have kG:(20:Int)<t.size:=O;go_enter func174,ntmps174;go_wp2;go_ret;exact ie (fun h:nf t=>by have:=h.2.1;omega) (gh w)
 go_enter func174,ntmps174;go_wp2;go_loop [3,15] (fun bt i=>∃k:Nat,k<=t.size/\i=I J k/\rq t k/\aaP (uo t k) bt) (fun _ i=>t.size-(Io i).toNat);case atStart=>exact⟨0,O,X,Xq t,true,X,⟨fun _=> .inl X,fun _=>rfl⟩⟩
 obtain⟨k,hk,rfl,(HO:Hi _),q,rfl,(HQ:Hi _)⟩:=hrel;by_cases aA:k<t.size
 ·have HE:Hi _:=gq t k aA;by_cases hb:(t[k].toNat:Int)=128
  ·have bV:=jq.2 hb;cases q
   ·have HX:Hi (rq t (k+1)):=(Ju t k).2 ⟨HO,fun h=>by cases HQ.2 h.1⟩;have HY:Hi (¬uo t (k+1)):=fun h=>by
     rcases h with h|h;(·omega);rw[Ck,<-HE.out]at h;omega
    have hd:decide ((t[k].toNat:Int)<128)=false:=br O;clear hb;go_wp2;go_round;(case rel=>exact⟨k+1,O,Gn,HX,false,X,⟨fun e=>(by cases e),fun h=>Ab h HY⟩⟩);exact Ms
   have HN:Hi (¬nf t):=Pk t k aA ⟨HQ.1 X,by rw[<-HE.out];exact hb⟩;clear hb;go_wp2;go_ret;exact ie HN (gh w)
  have bV:=lf.2 hb;have HX:Hi (rq t (k+1)):=(Ju t k).2 ⟨HO,fun h=>hb (HE.trans h.2)⟩;have HY:Hi (decide ((t[k].toNat:Int)<128)=true↔uo t (k+1)):=by show _↔_;rw[ur,HE.out];exact⟨fun h=> .inr (by rw[Ck];exact h),fun h=>by rcases h with h|h;(·omega);(·rw[Ck]at h;exact h)⟩
  clear hb;cases q;all_goals go_wp2;go_round;(case rel=>exact⟨k+1,O,Gn,HX,_,X,HY⟩);exact Ms
 have aL:t.size=k:=O;have HF:Hi (q=true↔nf t):=⟨fun h=>⟨O,O,by rw[aL];exact HO,by rw[aL];exact HQ.1 h⟩,fun h=>HQ.2 (by rw[<-aL];exact h.2.2.2)⟩;clear aL;go_wp2;go_ret;exact od HF (gh w)
theorem Vu(t:Q)(w:M)(hm:t.size<=9223372036854775807):Cs prog 129 #[Y t] w fun e w'=>gz (nf t) w e w':=by
 by_cases h1:t.size<1;·(have iH:((t.size:Int)==0)=true:=by rw[jq];omega);go_enter func129,ntmps129;go_wp2;go_ret;exact ie (fun h:nf t=>by have:=h.1;omega) (gh w)
 have iH:((t.size:Int)==0)=false:=Bf;by_cases h2:20<t.size;·have kG:(20:Int)<t.size:=O;go_enter func129,ntmps129;go_wp2;go_ret;exact ie (fun h:nf t=>by have:=h.2.1;omega) (gh w)
 have h3:t.size-1<t.size:=O;have HL:Hi _:=gq t (t.size-1) h3;have h20:(t.size:Int)<=20:=O;by_cases h4:127<(t[t.size-1].toNat:Int)
 ·have HN:Hi (¬nf t):=fun h=>by
   rcases h.2.2.2 with h|h;(·omega);rw[<-HL.out]at h;omega
  go_enter func129,ntmps129;go_wp2;go_ret;exact ie HN (gh w)
 have HB:Hi (uo t t.size):= .inr (by rw[<-HL.out];omega);have hd:decide (127<(t[t.size-1].toNat:Int))=false:=br h4;go_enter func129,ntmps129;go_wp2;go_loop [3] (fun i=>∃k:Nat,k<=t.size/\i=I J k/\rq t k) (fun i=>t.size-(Io i).toNat);case atStart=>exact⟨0,O,X,Xq t⟩
 obtain⟨k,hk,rfl,(HO:Hi _)⟩:=hrel;by_cases aA:k<t.size
 ·have HE:Hi _:=gq t k aA;by_cases hb:(t[k].toNat:Int)=128
  ·have bV:=jq.2 hb;by_cases hz:k=0;(·have HN:Hi (¬nf t):=Pk t k aA ⟨.inl hz,by rw[<-HE.out];exact hb⟩;(have AX:((k:Int)==0)=true:=by rw[jq];omega);clear hb hz;go_wp2;go_ret;exact ie HN (gh w));have AX:((k:Int)==0)=false:=Bf;have bQ:k-1<t.size:=O;have HP:Hi _:=gq t (k-1) bQ;by_cases hp:(t[k-1].toNat:Int)<128;(·have HN:Hi (¬nf t):=Pk t k aA ⟨.inr (by rw[<-HP.out];exact hp),by rw[<-HE.out];exact hb⟩;have sI:1<=k:=O;clear hb hz;go_wp2;go_ret;exact ie HN (gh w));have HX:Hi (rq t (k+1)):=(Ju t k).2 ⟨HO,fun h=>by
    rcases h.1 with h|h;(·omega);rw[<-HP.out]at h;omega⟩
   have sI:1<=k:=O;clear hb hz;go_wp2;go_round;(case rel=>exact⟨k+1,O,Gn,HX⟩);exact Ms
  have bV:=lf.2 hb;have HX:Hi (rq t (k+1)):=(Ju t k).2 ⟨HO,fun h=>hb (HE.trans h.2)⟩;clear hb;go_wp2;go_round;case rel=>exact⟨k+1,O,Gn,HX⟩
  exact Ms
 have aL:t.size=k:=O;have HF:Hi (nf t):=⟨O,O,by rw[aL];exact HO,HB⟩;clear aL;go_wp2;go_ret;exact ru HF (gh w)
def Kv:Ls UInt8:=[32,39,40,41,43,44,45,46,47,58,61,63]
def pr(x:Nat):Bool:=(65<=x&&x<=90)||(97<=x&&x<=122)||(48<=x&&x<=57)||Kv.contains (Uo x)
def wh(t:Q):Prop:=∀i,i<t.size->pr (b8 t i).toNat=true
theorem ae8:∀x:Fin 256,decide (0<=Lib.indexByte Kv (Nat.toUInt8 x.val))=Kv.contains (Uo x.val):=by decide+kernel
def tm:Ls UInt8:=[48,49,50,51,52,53,54,55,56,57,97,98,99,100,101,102,103,104,105,106,107,108,109,110,111,112,113,114,115,116,117,118,119,120,121,122,65,66,67,68,69,70,71,72,73,74,75,76,77,78,79,80,81,82,83,84,85,86,87,88,89,90,32,39,40,41,43,44,45,46,47,58,61,63]
theorem ahs:∀x:Fin 256,pr x.val=tm.contains (Uo x.val):=by decide+kernel
theorem aa6(t:Q)(c:Int)(w:M):(callFunc 212 #[Y t,I .u8 c]).run prog w= .ok (.value (I J (Lib.indexByte t.data.toList c.toNat.toUInt8))) w:=by rw[@sq prog 212 _ Extern.BytealgIndexByte.indexByte func212 Kr Kr Kr Kr,Lib.run_indexByteString];rfl
theorem tw{a b:Bool}(h:a=b):Ending.returned (Bo a)=Rt (Bo b):=by rw[h]
theorem afL(x:Nat)(w:M)(hx:x<256):Cs prog 195 #[I .u8 x] w fun e w'=>e=Rt (Bo (pr x))/\w'=w:=by
 by_cases h1:65<=x/\x<=90;·(have HP:Hi (true=pr x):=by show _=_;simp[pr,h1]);obtain⟨h1,h2⟩:=h1;go_enter func195,ntmps195;go_wp2;go_ret;exact⟨tw HP,X⟩
 by_cases h2:97<=x/\x<=122;·(have HP:Hi (true=pr x):=by show _=_;simp[pr,h2]);have h3:decide ((x:Int)<=90)=false:=br O;obtain⟨h4,h5⟩:=h2;clear h1;go_enter func195,ntmps195;go_wp2;go_ret;exact⟨tw HP,X⟩
 by_cases h3:48<=x/\x<=57;·(have HP:Hi (true=pr x):=by show _=_;simp[pr,h3]);have h4:decide ((65:Int)<=(x:Int))=false:=br O;have h5:decide ((97:Int)<=(x:Int))=false:=br O;obtain⟨h6,h7⟩:=h3;clear h1 h2;go_enter func195,ntmps195;go_wp2;go_ret;exact⟨tw HP,X⟩
 have HP:Hi (decide (0<=Lib.indexByte Kv (Nat.toUInt8 x))=pr x):=by show _=_;rw[ae8 ⟨x,hx⟩];have e1:(decide (65<=x)&&decide (x<=90))=false:=So;have e2:(decide (97<=x)&&decide (x<=122))=false:=So;have e3:(decide (48<=x)&&decide (x<=57))=false:=So;simp only[pr,e1,e2,e3,Ed]
 have hi:=aa6;by_cases q1:x<48;·have c0:decide ((65:Int)<=(x:Int))=false:=br O;have c1:decide ((x:Int)<=90)=true:=ch O;have c2:decide ((97:Int)<=(x:Int))=false:=br O;have c3:decide ((x:Int)<=122)=true:=ch O;have c4:decide ((48:Int)<=(x:Int))=false:=br O;have c5:decide ((x:Int)<=57)=true:=ch O;clear h1 h2 h3 hx;go_enter func195,ntmps195;go_wp2;go_ret;exact⟨tw HP,X⟩
 by_cases q2:x<65;·have c0:decide ((65:Int)<=(x:Int))=false:=br O;have c1:decide ((x:Int)<=90)=true:=ch O;have c2:decide ((97:Int)<=(x:Int))=false:=br O;have c3:decide ((x:Int)<=122)=true:=ch O;have c4:decide ((48:Int)<=(x:Int))=true:=ch O;have c5:decide ((x:Int)<=57)=false:=br O;clear h1 h2 h3 hx;go_enter func195,ntmps195;go_wp2;go_ret;exact⟨tw HP,X⟩
 by_cases q3:x<97;·have c0:decide ((65:Int)<=(x:Int))=true:=ch O;have c1:decide ((x:Int)<=90)=false:=br O;have c2:decide ((97:Int)<=(x:Int))=false:=br O;have c3:decide ((x:Int)<=122)=true:=ch O;have c4:decide ((48:Int)<=(x:Int))=true:=ch O;have c5:decide ((x:Int)<=57)=false:=br O;clear h1 h2 h3 hx;go_enter func195,ntmps195;go_wp2;go_ret;exact⟨tw HP,X⟩
 have c0:decide ((65:Int)<=(x:Int))=true:=ch O;have c1:decide ((x:Int)<=90)=false:=br O;have c2:decide ((97:Int)<=(x:Int))=true:=ch O;have c3:decide ((x:Int)<=122)=false:=br O;have c4:decide ((48:Int)<=(x:Int))=true:=ch O;have c5:decide ((x:Int)<=57)=false:=br O;clear h1 h2 h3 hx;go_enter func195,ntmps195;go_wp2;go_ret;exact⟨tw HP,X⟩
theorem ae9(x:Nat)(s:Q)(w:M)(hm:s.size<=9223372036854775807):Cs prog 166 #[I .u8 x,Y s] w fun e w'=>gz (∃j,j<s.size/\b8 s j=x) w e w':=by
 go_enter func166,ntmps166;go_wp2;go_loop [5] (fun i=>∃k:Nat,k<=s.size/\i=I J k/\∀j,j<k->b8 s j≠x) (fun i=>s.size-(Io i).toNat);case atStart=>exact⟨0,O,X,fun j h=>Ab h (dh _)⟩
 obtain⟨k,hk,rfl,(HJ:Hi _)⟩:=hrel;by_cases aA:k<s.size
 ·have HE:Hi _:=gq s k aA;by_cases hb:(s[k].toNat:Int)=x;·have bV:=jq.2 hb;have HY:Hi (∃j,j<s.size/\b8 s j=x):=⟨k,aA,by rw[<-HE.out];exact hb⟩;clear hb;go_wp2;go_ret;exact ru HY (gh w)
  have bV:=lf.2 hb;have HX:Hi (∀j,j<k+1->b8 s j≠x):=fun j hj=>by
   by_cases e:j=k;(·subst e;rw[<-HE.out];exact hb);exact HJ j O
  clear hb;go_wp2;go_round;case rel=>exact⟨k+1,O,Gn,HX⟩
  exact Ms
 have HN:Hi (¬∃j,j<s.size/\b8 s j=x):=fun⟨j,h1,h2⟩=>HJ j O h2;go_wp2;go_ret;exact ie HN (gh w)
theorem Td(t s:Q)(w:M)(ht:t.size<=9223372036854775807)(hm:s.size<=9223372036854775807):Cs prog 123 #[Y t,Y s] w fun e w'=>gz (∀i,i<t.size->∃j,j<s.size/\b8 s j=b8 t i) w e w':=by
 go_enter func123,ntmps123;go_wp2;go_loopw [5] (fun i wr=>∃k:Nat,k<=t.size/\i=I J k/\(∀i,i<k->∃j,j<s.size/\b8 s j=b8 t i)/\∃q,wr=w.drewN q) (fun i _=>t.size-(Io i).toNat);case atStart=>exact⟨0,O,X,fun j h=>Ab h (dh _),gh w⟩
 obtain⟨k,hk,rfl,(HJ:Hi _),(HW:Hi _)⟩:=hrel;by_cases aA:k<t.size
 ·have HE:Hi _:=gq t k aA;go_wp2_with fail;refine(ae9 t[k].toNat s _ hm).mono ?_;rintro e w2 ⟨r,rfl,(HR:Hi _),hd⟩;have HD:Hi (∃q,w2=w.drewN q):=by obtain⟨a,e1⟩:=HW.out;obtain⟨b,e2⟩:=hd;exact⟨a+b,by rw[e2,e1,World.drewN_drewN]⟩
  clear hd;cases r;·(have HN:Hi (¬∀i,i<t.size->∃j,j<s.size/\b8 s j=b8 t i):=fun h=>by have:=h k aA;rw[<-HE.out]at this;cases HR.2 this);go_wp2;go_ret;exact ie HN HD
  have HX:Hi (∀i,i<k+1->∃j,j<s.size/\b8 s j=b8 t i):=fun i hi=>by
   by_cases e:i=k;(·subst e;rw[<-HE.out];exact HR.1 X);exact HJ i O
  go_wp2;go_roundw;case rel=>exact⟨k+1,O,Gn,HX,HD⟩
  exact Ms
 have HY:Hi (∀i,i<t.size->∃j,j<s.size/\b8 s j=b8 t i):=fun i hi=>HJ i O;go_wp2;go_ret;exact ru HY HW
theorem adR(t:Q)(w:M)(hm:t.size<=9223372036854775807):Cs prog 177 #[Y t] w fun e w'=>gz (wh t) w e w':=by
 go_enter func177,ntmps177;go_wp2;go_loop [6] (fun i=>∃k:Nat,k<=t.size/\i=I J k/\∀i,i<k->pr (b8 t i).toNat=true) (fun i=>t.size-(Io i).toNat);case atStart=>exact⟨0,O,X,fun j h=>Ab h (dh _)⟩
 obtain⟨k,hk,rfl,(HJ:Hi _)⟩:=hrel;by_cases aA:k<t.size
 ·have HE:Hi ((b8 t k).toNat=t[k].toNat):=by show _=_;rw[<-gq t k aA];rfl
  have hx:=t[k].toNat_lt;go_wp2_with fail;refine(afL t[k].toNat _ hx).mono ?_;rintro e w2 ⟨rfl,hw⟩;subst hw;cases hb:pr t[k].toNat;·(have HN:Hi (¬wh t):=fun h=>by have:=h k aA;rw[HE,hb]at this;cases this);clear hb;go_wp2;go_ret;exact ie HN (gh _)
  have HX:Hi (∀i,i<k+1->pr (b8 t i).toNat=true):=fun i hi=>by
   by_cases e:i=k;(·subst e;rw[HE.out];exact hb);exact HJ i O
  clear hb;go_wp2;go_round;case rel=>exact⟨k+1,O,Gn,HX⟩
  exact Ms
 have HY:Hi (wh t):=fun i hi=>HJ i O;go_wp2;go_ret;exact ru HY (gh w)
theorem Yg:(⟨tm.toArray⟩:Q).size=74:=by decide+kernel
theorem ahq:∀x:Fin 256,(tm.contains (Uo x.val)=true↔∃j:Fin 74,((tm.getD j.val 0).toNat)=x.val):=by decide+kernel
theorem ahr(t:Q):(∀i,i<t.size->∃j,j<(⟨tm.toArray⟩:Q).size/\b8 ⟨tm.toArray⟩ j=b8 t i)↔wh t:=by
 unfold wh;have key:∀i,(∃j,j<(⟨tm.toArray⟩:Q).size/\b8 ⟨tm.toArray⟩ j=b8 t i)↔pr (b8 t i).toNat=true:=fun i=>by
  have hb:=mr t i;have hx:(b8 t i).toNat<256:=O;rw[ahs ⟨_,hx⟩,ahq ⟨_,hx⟩,Yg];constructor;·rintro⟨j,hj,e⟩;refine⟨⟨j,hj⟩,?_⟩;(have:b8 ⟨tm.toArray⟩ j=((tm.getD j 0).toNat:Int):=by simp[b8]);simp only;omega
  rintro⟨j,e⟩;refine⟨j.val,j.isLt,?_⟩;have:b8 ⟨tm.toArray⟩ j.val=((tm.getD j.val 0).toNat:Int):=by simp[b8]
  simp only at e;omega
 exact⟨fun h i hi=>(key i).1 (h i hi),fun h i hi=>(key i).2 (h i hi)⟩
theorem Oq(t:Q)(w:M)(hm:t.size<=9223372036854775807):Cs prog 81 #[Y t] w fun e w'=>gz (wh t) w e w':=by
 go_enter func81,ntmps81;go_wp2_with fail;refine(Td t ⟨tm.toArray⟩ _ hm (by rw[Yg];decide)).mono ?_;rintro e w2 ⟨r,rfl,hr,(HD:Hi _)⟩;have HR:Hi _:=hr.trans (ahr t);clear hr;go_wp2_with fail;go_ret;exact od HR HD
def Qk:Q:=⟨#[8,0,1,0,2,0,1,0,3,0,1,0,2,0,1,0,4,0,1,0,2,0,1,0,3,0,1,0,2,0,1,0,5,0,1,0,2,0,1,0,3,0,1,0,2,0,1,0,4,0,1,0,2,0,1,0,3,0,1,0,2,0,1,0,6,0,1,0,2,0,1,0,3,0,1,0,2,0,1,0,4,0,1,0,2,0,1,0,3,0,1,0,2,0,1,0,5,0,1,0,2,0,1,0,3,0,1,0,2,0,1,0,4,0,1,0,2,0,1,0,3,0,1,0,2,0,1,0,7,0,1,0,2,0,1,0,3,0,1,0,2,0,1,0,4,0,1,0,2,0,1,0,3,0,1,0,2,0,1,0,5,0,1,0,2,0,1,0,3,0,1,0,2,0,1,0,4,0,1,0,2,0,1,0,3,0,1,0,2,0,1,0,6,0,1,0,2,0,1,0,3,0,1,0,2,0,1,0,4,0,1,0,2,0,1,0,3,0,1,0,2,0,1,0,5,0,1,0,2,0,1,0,3,0,1,0,2,0,1,0,4,0,1,0,2,0,1,0,3,0,1,0,2,0,1,0]⟩
theorem Zp:Qk.size=256:=by decide+kernel
theorem aiP:∀j:Fin 256,(Qk[j.val]'(by rw[Zp];exact j.isLt)).toNat=tz8 j.val:=by decide+kernel
theorem aiO:∀j:Fin 256,tz8 j.val<=8:=by decide+kernel
theorem jm{a b:Int}(h:a=b):Ending.returned (I J a)=Rt (I J b):=by rw[h]
theorem aiM(x:Nat)(w:M)(hx:x<256):Cs prog 193 #[I .u8 x] w fun e w'=>e=Rt (I J (tz8 x))/\w'=w:=by
 have HT:Hi (wrap64 ((Qk[x]'(by rw[Zp];exact hx)).toNat:Int)=(tz8 x:Int)):=by show _=_;rw[aiP ⟨x,hx⟩,Ri];have:=aiO ⟨x,hx⟩;simp only at this ⊢;omega
 go_enter func193,ntmps193;go_wp2;go_ret;exact⟨jm HT,X⟩
theorem adO(t:Q)(w:M)(hm:t.size<=9223372036854775807):Cs prog 175 #[Y t] w fun e w'=>gz (qo t) w e w':=by
 by_cases h0:t.size=0;·(have nP:((t.size:Int)==0)=true:=by rw[jq];omega);(have HN:Hi (¬qo t):=fun h=>by have:=h.1;omega);clear h0;go_enter func175,ntmps175;go_wp2;go_ret;exact ie HN (gh w)
 have nP:((t.size:Int)==0)=false:=Bf;have h6:0<t.size:=O;have e0:=gq t 0 h6;have bO:=mr t 0;have x0:(t[0].toNat:Int)<256:=O;by_cases h1:t.size=1;·(have iH:((t.size:Int)==1)=true:=by rw[jq];omega);(have HI:Hi (((t[0].toNat:Int)==0)=true↔qo t):=by show _↔_;rw[jq,e0];exact⟨fun h=>⟨O,O,fun _=>h,fun _=>O⟩,fun h=>h.2.2.1 h1⟩);clear h1 e0;go_enter func175,ntmps175;go_wp2;go_ret;exact od HI (gh w)
 have iH:((t.size:Int)==1)=false:=Bf;have h3:t.size-1<t.size:=O;by_cases h7:7<(t[0].toNat:Int);·have h7':decide ((t[0].toNat:Int)<=7)=false:=br O;(have HN:Hi (¬qo t):=fun h=>by have:=h.2.1;omega);clear e0;go_enter func175,ntmps175;go_wp2;go_quiet (fail);go_wp2;go_ret;exact ie HN ⟨_,X⟩
 have h7':decide ((t[0].toNat:Int)<=7)=true:=ch O;obtain⟨m,HM⟩:∃m,Hi (t.size=m+1):=⟨t.size-1,by show _=_;omega⟩;have RD:m<t.size:=by have:=HM.out;omega
 have XV:(m:Int)<t.size:=O;have rR:IntKind.i64.wrap ((t.size:Int)-1)=(m:Int):=by have:=HM.out;rw[Ak _ O O];omega
 have el:=gq t m RD;have jD:=t[m].toNat_lt;have HI:Hi (decide (t[0].toNat<=tz8 t[m].toNat)=true↔qo t):=by
  show _↔_;have hk:t[0].toNat<8:=O;have:=aiN ⟨t[m].toNat,jD⟩ ⟨t[0].toNat,hk⟩;simp only at this;rw[ur,this];have ep:(b8 t 0).toNat=t[0].toNat:=O;have em:t.size-1=m:=by have:=HM.out;omega
  constructor;·intro h;refine⟨O,O,fun _=>O,fun _=>?_⟩;rw[ep,em,<-el];exact_mod_cast h
  intro h;have:=h.2.2.2 O;rw[ep,em,<-el]at this;exact_mod_cast this
 clear e0 el h3;go_enter func175,ntmps175;go_wp2;go_quiet ((go_at_call 193;exact Calls.quiet_of_same (aiM _ _ jD)));go_wp2;go_ret;exact od HI ⟨_,X⟩
theorem Vq(t:Q)(w:M)(hm:t.size<=9223372036854775807):Cs prog 127 #[Y t] w fun e w'=>gz (qo t) w e w':=by
 by_cases h0:t.size=0;·(have nP:((t.size:Int)==0)=true:=by rw[jq];omega);(have HN:Hi (¬qo t):=fun h=>by have:=h.1;omega);clear h0;go_enter func127,ntmps127;go_wp2;go_ret;exact ie HN (gh w)
 have nP:((t.size:Int)==0)=false:=Bf;have h6:0<t.size:=O;have VI:(0:Int)<t.size:=O;have e0:=gq t 0 h6;have bO:=mr t 0;have x0:(t[0].toNat:Int)<256:=O;by_cases h7:7<(t[0].toNat:Int);·(have HN:Hi (¬qo t):=fun h=>by have:=h.2.1;omega);clear e0;go_enter func127,ntmps127;go_wp2;go_ret;exact ie HN (gh w)
 by_cases h1:t.size=1;·(have iH:((t.size:Int)==1)=true:=by rw[jq];omega);(have HI:Hi (((t[0].toNat:Int)==0)=true↔qo t):=by show _↔_;rw[jq,e0];exact⟨fun h=>⟨O,O,fun _=>h,fun _=>O⟩,fun h=>h.2.2.1 h1⟩);clear h1 e0;go_enter func127,ntmps127;go_wp2;go_ret;exact od HI (gh w)
 have iH:((t.size:Int)==1)=false:=Bf;have h3:t.size-1<t.size:=O;have DZ:(t.size:Int)-1<t.size:=O;have el:=gq t (t.size-1) h3;have jD:(t[t.size-1].toNat:Int)<256:=by have:=t[t.size-1].toNat_lt;omega
 have HI:Hi (((t[t.size-1].toNat:Int)%((2^t[0].toNat:Nat):Int)==0)=true↔qo t):=by
  show _↔_;have ep:(b8 t 0).toNat=t[0].toNat:=O;rw[jq];constructor;·intro h;refine⟨O,O,fun _=>O,fun _=>?_⟩;rw[ep,<-el];exact_mod_cast h
  intro h;have:=h.2.2.2 O;rw[ep,<-el]at this;exact_mod_cast this
 clear e0 el;go_enter func127,ntmps127;go_wp2;go_loop [3,4] (fun p i=>∃k:Nat,k<=t[0].toNat/\i=I J k/\p=I J ((2^k:Nat):Int)) (fun _ i=>t[0].toNat-(Io i).toNat);case atStart=>exact⟨0,O,X,X⟩
 obtain⟨k,hk,rfl,rfl⟩:=hrel;have YH:2^k<=2^7:=Nat.pow_le_pow_right O O;have YG:0<2^k:=Nat.two_pow_pos k;have HP:Hi _:=Nat.pow_succ 2 k;by_cases aA:k<t[0].toNat;·generalize hq:2^k=q at YH YG HP;have HQ:Hi _:=hq;clear hq;go_wp2;go_round;(case rel=>exact⟨k+1,O,Gn,by rw[HP.out];go_num⟩);exact Ms
 have aL:t[0].toNat=k:=O;rw[aL]at HI;generalize 2^k=q at YH YG HI;clear aL;go_wp2;go_ret;exact od HI (gh w)
def goB(t:Q)(a:Nat)(lo hi:Int):Bool:=decide (a<t.size/\lo<=b8 t a/\b8 t a<=hi)
def oc(b:Int):Int:=if b=224 then 160 else if b=240 then 144 else 128
def oa(b:Int):Int:=if b=237 then 159 else if b=244 then 143 else 191
def chr(t:Q)(a:Nat):Nat:=
 if b8 t a<128 then 1
 else if 194<=b8 t a/\b8 t a<224/\goB t (a+1) (oc (b8 t a)) (oa (b8 t a))=true then 2
 else if 224<=b8 t a/\b8 t a<240/\goB t (a+1) (oc (b8 t a)) (oa (b8 t a))=true/\goB t (a+2) 128 191=true then 3
 else if 240<=b8 t a/\b8 t a<245/\goB t (a+1) (oc (b8 t a)) (oa (b8 t a))=true/\goB t (a+2) 128 191=true/\goB t (a+3) 128 191=true then 4
 else 0
theorem jl(t:Q)(a:Nat)(lo hi:Int)(w:M)(DT:t.size<=9223372036854775807):Cs prog 190 #[Y t,I J a,I J lo,I J hi] w fun e w'=>e=Rt (Bo (goB t a lo hi))/\w'=w:=by
 by_cases h1:a<t.size
 ·have HE:Hi _:=gq t a h1;have hx:(t[a].toNat:Int)<256:=by have:=t[a].toNat_lt;omega
  by_cases h2:lo<=(t[a].toNat:Int);·(have HV:Hi (decide ((t[a].toNat:Int)<=hi)=goB t a lo hi):=by unfold goB;rw[Ao,ur,ur,<-HE.out];exact⟨fun h=>⟨h1,h2,h⟩,fun h=>h.2.2⟩);go_enter func190,ntmps190;go_wp2;go_ret;exact⟨tw HV,X⟩
  have HV:Hi (false=goB t a lo hi):=by unfold goB;rw[eq_comm,Oc,<-HE.out];exact fun h=>h2 h.2.1
  go_enter func190,ntmps190;go_wp2;go_ret;exact⟨tw HV,X⟩
 have HV:Hi (false=goB t a lo hi):=by unfold goB;rw[eq_comm,Oc];exact fun h=>h1 h.1
 go_enter func190,ntmps190;go_wp2;go_ret;exact⟨tw HV,X⟩
theorem Uh(t:Q)(a:Nat)(h:b8 t a<128):chr t a=1:=by unfold chr;rw[ba h]
theorem Iv(t:Q)(a:Nat)(h:(128<=b8 t a/\b8 t a<194)\/245<=b8 t a):chr t a=0:=by unfold chr;rw[G O,G O,G O,G O]
theorem Ui(t:Q)(a:Nat)(lo hi:Int)(h0:194<=b8 t a)(h1:b8 t a<224)(hl:oc (b8 t a)=lo)(hh:oa (b8 t a)=hi):chr t a=if goB t (a+1) lo hi=true then 2 else 0:=by
 unfold chr;rw[G O,hl,hh];by_cases h:goB t (a+1) lo hi=true;·rw[ba ⟨h0,h1,h⟩,ba h]
 rw[G (fun x=>h x.2.2),G O,G O,G h]
theorem Fk(t:Q)(a:Nat)(lo hi:Int)(h0:224<=b8 t a)(h1:b8 t a<240)(hl:oc (b8 t a)=lo)(hh:oa (b8 t a)=hi):chr t a=if goB t (a+1) lo hi=true/\goB t (a+2) 128 191=true then 3 else 0:=by
 unfold chr;rw[G O,G O,hl,hh];by_cases h:goB t (a+1) lo hi=true/\goB t (a+2) 128 191=true;·rw[ba ⟨h0,h1,h.1,h.2⟩,ba h]
 rw[G (fun x=>h x.2.2),G O,G h]
theorem Iw(t:Q)(a:Nat)(lo hi:Int)(h0:240<=b8 t a)(h1:b8 t a<245)(hl:oc (b8 t a)=lo)(hh:oa (b8 t a)=hi):chr t a=if goB t (a+1) lo hi=true/\goB t (a+2) 128 191=true/\goB t (a+3) 128 191=true then 4 else 0:=by
 unfold chr;rw[G O,G O,G O,hl,hh];by_cases h:goB t (a+1) lo hi=true/\goB t (a+2) 128 191=true/\goB t (a+3) 128 191=true;·rw[ba ⟨h0,h1,h.1,h.2.1,h.2.2⟩,ba h]
 rw[G (fun x=>h x.2.2),G h]
theorem ac1(t:Q)(a:Nat)(w:M)(hm:t.size<=140737488355328)(ha:a<t.size)(hr:(t[a].toNat:Int)<128):Cs prog 167 #[Y t,I J a] w fun e w'=>e=Rt (I J (chr t a))/\w'=w:=by
 have HE:Hi _:=gq t a ha;have hx:(t[a].toNat:Int)<256:=by have:=t[a].toNat_lt;omega
 have G1:Hi (∀w,Cs prog 190 #[Y t,I J ((a:Int)+1),I J 128,I J 191] w fun e w'=>e=Rt (Bo (goB t (a+1) 128 191))/\w=w'):=fun w=>(jl t (a+1) 128 191 w O).mono fun e w' h=>⟨h.1,h.2.symm⟩;have G2:Hi (∀w,Cs prog 190 #[Y t,I J ((a:Int)+2),I J 128,I J 191] w fun e w'=>e=Rt (Bo (goB t (a+2) 128 191))/\w=w'):=fun w=>(jl t (a+2) 128 191 w O).mono fun e w' h=>⟨h.1,h.2.symm⟩;have G3:Hi (∀w,Cs prog 190 #[Y t,I J ((a:Int)+3),I J 128,I J 191] w fun e w'=>e=Rt (Bo (goB t (a+3) 128 191))/\w=w'):=fun w=>(jl t (a+3) 128 191 w O).mono fun e w' h=>⟨h.1,h.2.symm⟩;have HC:Hi _:=Uh t a (by rw[<-HE.out];exact hr);have wD:((t[a].toNat:Int)==224)=false:=Bf;have xR:((t[a].toNat:Int)==237)=false:=Bf;have zP:((t[a].toNat:Int)==240)=false:=Bf;have CA:((t[a].toNat:Int)==244)=false:=Bf;have d1:decide ((t[a].toNat:Int)<128)=true:=ch O;generalize chr t a=res at HC ⊢;generalize goB t (a+1) 128 191=one at G1;generalize goB t (a+2) 128 191=n7 at G2;generalize goB t (a+3) 128 191=rW at G3;clear hr;go_enter func167,ntmps167;go_wp2_with fail;refine gd (G1 _) ?_;rintro e w2 ⟨rfl,rfl⟩;go_wp2_with fail;refine gd (G2 _) ?_;rintro e w3 ⟨rfl,rfl⟩;go_wp2_with fail;refine gd (G3 _) ?_;rintro e w4 ⟨rfl,rfl⟩;go_wp2_with fail;go_ret;exact⟨jm (by rw[HC.out];rfl),X⟩
theorem ac4(t:Q)(a:Nat)(w:M)(hm:t.size<=140737488355328)(ha:a<t.size)(hr:128<=(t[a].toNat:Int)/\(t[a].toNat:Int)<194):Cs prog 167 #[Y t,I J a] w fun e w'=>e=Rt (I J (chr t a))/\w'=w:=by
 have HE:Hi _:=gq t a ha;have hx:(t[a].toNat:Int)<256:=by have:=t[a].toNat_lt;omega
 have G1:Hi (∀w,Cs prog 190 #[Y t,I J ((a:Int)+1),I J 128,I J 191] w fun e w'=>e=Rt (Bo (goB t (a+1) 128 191))/\w=w'):=fun w=>(jl t (a+1) 128 191 w O).mono fun e w' h=>⟨h.1,h.2.symm⟩;have G2:Hi (∀w,Cs prog 190 #[Y t,I J ((a:Int)+2),I J 128,I J 191] w fun e w'=>e=Rt (Bo (goB t (a+2) 128 191))/\w=w'):=fun w=>(jl t (a+2) 128 191 w O).mono fun e w' h=>⟨h.1,h.2.symm⟩;have G3:Hi (∀w,Cs prog 190 #[Y t,I J ((a:Int)+3),I J 128,I J 191] w fun e w'=>e=Rt (Bo (goB t (a+3) 128 191))/\w=w'):=fun w=>(jl t (a+3) 128 191 w O).mono fun e w' h=>⟨h.1,h.2.symm⟩;have HC:Hi _:=Iv t a (by rw[<-HE.out];omega);have wD:((t[a].toNat:Int)==224)=false:=Bf;have xR:((t[a].toNat:Int)==237)=false:=Bf;have zP:((t[a].toNat:Int)==240)=false:=Bf;have CA:((t[a].toNat:Int)==244)=false:=Bf;have d1:decide ((t[a].toNat:Int)<128)=false:=br O;have d2:decide ((194:Int)<=(t[a].toNat:Int))=false:=br O;have d4:decide ((224:Int)<=(t[a].toNat:Int))=false:=br O;have d6:decide ((240:Int)<=(t[a].toNat:Int))=false:=br O;generalize chr t a=res at HC ⊢;generalize goB t (a+1) 128 191=one at G1;generalize goB t (a+2) 128 191=n7 at G2;generalize goB t (a+3) 128 191=rW at G3;clear hr;go_enter func167,ntmps167;go_wp2_with fail;refine gd (G1 _) ?_;rintro e w2 ⟨rfl,rfl⟩;go_wp2_with fail;refine gd (G2 _) ?_;rintro e w3 ⟨rfl,rfl⟩;go_wp2_with fail;refine gd (G3 _) ?_;rintro e w4 ⟨rfl,rfl⟩;go_wp2_with fail;go_ret;exact⟨jm (by rw[HC.out];rfl),X⟩
theorem ac5(t:Q)(a:Nat)(w:M)(hm:t.size<=140737488355328)(ha:a<t.size)(hr:194<=(t[a].toNat:Int)/\(t[a].toNat:Int)<224):Cs prog 167 #[Y t,I J a] w fun e w'=>e=Rt (I J (chr t a))/\w'=w:=by
 have HE:Hi _:=gq t a ha;have hx:(t[a].toNat:Int)<256:=by have:=t[a].toNat_lt;omega
 have G1:Hi (∀w,Cs prog 190 #[Y t,I J ((a:Int)+1),I J 128,I J 191] w fun e w'=>e=Rt (Bo (goB t (a+1) 128 191))/\w=w'):=fun w=>(jl t (a+1) 128 191 w O).mono fun e w' h=>⟨h.1,h.2.symm⟩;have G2:Hi (∀w,Cs prog 190 #[Y t,I J ((a:Int)+2),I J 128,I J 191] w fun e w'=>e=Rt (Bo (goB t (a+2) 128 191))/\w=w'):=fun w=>(jl t (a+2) 128 191 w O).mono fun e w' h=>⟨h.1,h.2.symm⟩;have G3:Hi (∀w,Cs prog 190 #[Y t,I J ((a:Int)+3),I J 128,I J 191] w fun e w'=>e=Rt (Bo (goB t (a+3) 128 191))/\w=w'):=fun w=>(jl t (a+3) 128 191 w O).mono fun e w' h=>⟨h.1,h.2.symm⟩;have HC:Hi (chr t a=if goB t (a+1) 128 191=true then 2 else 0):=by have e:=HE.out;exact Ui t a 128 191 O O (by unfold oc;rw[G O,G O]) (by unfold oa;rw[G O,G O])
 have wD:((t[a].toNat:Int)==224)=false:=Bf;have xR:((t[a].toNat:Int)==237)=false:=Bf;have zP:((t[a].toNat:Int)==240)=false:=Bf;have CA:((t[a].toNat:Int)==244)=false:=Bf;have d1:decide ((t[a].toNat:Int)<128)=false:=br O;have d2:decide ((194:Int)<=(t[a].toNat:Int))=true:=ch O;have d3:decide ((t[a].toNat:Int)<224)=true:=ch O;have d4:decide ((224:Int)<=(t[a].toNat:Int))=false:=br O;have d6:decide ((240:Int)<=(t[a].toNat:Int))=false:=br O;generalize chr t a=res at HC ⊢;generalize goB t (a+1) 128 191=one at G1 HC;generalize goB t (a+2) 128 191=n7 at G2;generalize goB t (a+3) 128 191=rW at G3;clear hr;go_enter func167,ntmps167;go_wp2_with fail;refine gd (G1 _) ?_;rintro e w2 ⟨rfl,rfl⟩;go_wp2_with fail;refine gd (G2 _) ?_;rintro e w3 ⟨rfl,rfl⟩;go_wp2_with fail;refine gd (G3 _) ?_;rintro e w4 ⟨rfl,rfl⟩;cases one;·go_wp2_with fail;go_ret;exact⟨jm (by rw[HC.out];rw[G Sq];rfl),X⟩
 go_wp2_with fail;go_ret;exact⟨jm (by rw[HC.out];rw[ba Sq];rfl),X⟩
theorem ac6(t:Q)(a:Nat)(w:M)(hm:t.size<=140737488355328)(ha:a<t.size)(hr:(t[a].toNat:Int)=224):Cs prog 167 #[Y t,I J a] w fun e w'=>e=Rt (I J (chr t a))/\w'=w:=by
 have HE:Hi _:=gq t a ha;have hx:(t[a].toNat:Int)<256:=by have:=t[a].toNat_lt;omega
 have G1:Hi (∀w,Cs prog 190 #[Y t,I J ((a:Int)+1),I J 160,I J 191] w fun e w'=>e=Rt (Bo (goB t (a+1) 160 191))/\w=w'):=fun w=>(jl t (a+1) 160 191 w O).mono fun e w' h=>⟨h.1,h.2.symm⟩;have G2:Hi (∀w,Cs prog 190 #[Y t,I J ((a:Int)+2),I J 128,I J 191] w fun e w'=>e=Rt (Bo (goB t (a+2) 128 191))/\w=w'):=fun w=>(jl t (a+2) 128 191 w O).mono fun e w' h=>⟨h.1,h.2.symm⟩;have G3:Hi (∀w,Cs prog 190 #[Y t,I J ((a:Int)+3),I J 128,I J 191] w fun e w'=>e=Rt (Bo (goB t (a+3) 128 191))/\w=w'):=fun w=>(jl t (a+3) 128 191 w O).mono fun e w' h=>⟨h.1,h.2.symm⟩;have HC:Hi (chr t a=if goB t (a+1) 160 191=true/\goB t (a+2) 128 191=true then 3 else 0):=by have e:=HE.out;exact Fk t a 160 191 O O (by unfold oc;rw[ba O]) (by unfold oa;rw[G O,G O])
 have wD:((t[a].toNat:Int)==224)=true:=by rw[jq];omega
 have d1:decide ((t[a].toNat:Int)<128)=false:=br O;have d2:decide ((194:Int)<=(t[a].toNat:Int))=true:=ch O;have d3:decide ((t[a].toNat:Int)<224)=false:=br O;have d4:decide ((224:Int)<=(t[a].toNat:Int))=true:=ch O;have d5:decide ((t[a].toNat:Int)<240)=true:=ch O;have d6:decide ((240:Int)<=(t[a].toNat:Int))=false:=br O;generalize chr t a=res at HC ⊢;generalize goB t (a+1) 160 191=one at G1 HC;generalize goB t (a+2) 128 191=n7 at G2 HC;generalize goB t (a+3) 128 191=rW at G3;clear hr;go_enter func167,ntmps167;go_wp2_with fail;refine gd (G1 _) ?_;rintro e w2 ⟨rfl,rfl⟩;go_wp2_with fail;refine gd (G2 _) ?_;rintro e w3 ⟨rfl,rfl⟩;go_wp2_with fail;refine gd (G3 _) ?_;rintro e w4 ⟨rfl,rfl⟩;cases one;·go_wp2_with fail;go_ret;exact⟨jm (by rw[HC.out];rw[G Sq];rfl),X⟩
 cases n7;·go_wp2_with fail;go_ret;exact⟨jm (by rw[HC.out];rw[G Sq];rfl),X⟩
 go_wp2_with fail;go_ret;exact⟨jm (by rw[HC.out];rw[ba Sq];rfl),X⟩
theorem ac7(t:Q)(a:Nat)(w:M)(hm:t.size<=140737488355328)(ha:a<t.size)(hr:225<=(t[a].toNat:Int)/\(t[a].toNat:Int)<237):Cs prog 167 #[Y t,I J a] w fun e w'=>e=Rt (I J (chr t a))/\w'=w:=by
 have HE:Hi _:=gq t a ha;have hx:(t[a].toNat:Int)<256:=by have:=t[a].toNat_lt;omega
 have G1:Hi (∀w,Cs prog 190 #[Y t,I J ((a:Int)+1),I J 128,I J 191] w fun e w'=>e=Rt (Bo (goB t (a+1) 128 191))/\w=w'):=fun w=>(jl t (a+1) 128 191 w O).mono fun e w' h=>⟨h.1,h.2.symm⟩;have G2:Hi (∀w,Cs prog 190 #[Y t,I J ((a:Int)+2),I J 128,I J 191] w fun e w'=>e=Rt (Bo (goB t (a+2) 128 191))/\w=w'):=fun w=>(jl t (a+2) 128 191 w O).mono fun e w' h=>⟨h.1,h.2.symm⟩;have G3:Hi (∀w,Cs prog 190 #[Y t,I J ((a:Int)+3),I J 128,I J 191] w fun e w'=>e=Rt (Bo (goB t (a+3) 128 191))/\w=w'):=fun w=>(jl t (a+3) 128 191 w O).mono fun e w' h=>⟨h.1,h.2.symm⟩;have HC:Hi (chr t a=if goB t (a+1) 128 191=true/\goB t (a+2) 128 191=true then 3 else 0):=by have e:=HE.out;exact Fk t a 128 191 O O (by unfold oc;rw[G O,G O]) (by unfold oa;rw[G O,G O])
 have wD:((t[a].toNat:Int)==224)=false:=Bf;have xR:((t[a].toNat:Int)==237)=false:=Bf;have zP:((t[a].toNat:Int)==240)=false:=Bf;have CA:((t[a].toNat:Int)==244)=false:=Bf;have d1:decide ((t[a].toNat:Int)<128)=false:=br O;have d2:decide ((194:Int)<=(t[a].toNat:Int))=true:=ch O;have d3:decide ((t[a].toNat:Int)<224)=false:=br O;have d4:decide ((224:Int)<=(t[a].toNat:Int))=true:=ch O;have d5:decide ((t[a].toNat:Int)<240)=true:=ch O;have d6:decide ((240:Int)<=(t[a].toNat:Int))=false:=br O;generalize chr t a=res at HC ⊢;generalize goB t (a+1) 128 191=one at G1 HC;generalize goB t (a+2) 128 191=n7 at G2 HC;generalize goB t (a+3) 128 191=rW at G3;clear hr;go_enter func167,ntmps167;go_wp2_with fail;refine gd (G1 _) ?_;rintro e w2 ⟨rfl,rfl⟩;go_wp2_with fail;refine gd (G2 _) ?_;rintro e w3 ⟨rfl,rfl⟩;go_wp2_with fail;refine gd (G3 _) ?_;rintro e w4 ⟨rfl,rfl⟩;cases one;·go_wp2_with fail;go_ret;exact⟨jm (by rw[HC.out];rw[G Sq];rfl),X⟩
 cases n7;·go_wp2_with fail;go_ret;exact⟨jm (by rw[HC.out];rw[G Sq];rfl),X⟩
 go_wp2_with fail;go_ret;exact⟨jm (by rw[HC.out];rw[ba Sq];rfl),X⟩
theorem ac8(t:Q)(a:Nat)(w:M)(hm:t.size<=140737488355328)(ha:a<t.size)(hr:(t[a].toNat:Int)=237):Cs prog 167 #[Y t,I J a] w fun e w'=>e=Rt (I J (chr t a))/\w'=w:=by
 have HE:Hi _:=gq t a ha;have hx:(t[a].toNat:Int)<256:=by have:=t[a].toNat_lt;omega
 have G1:Hi (∀w,Cs prog 190 #[Y t,I J ((a:Int)+1),I J 128,I J 159] w fun e w'=>e=Rt (Bo (goB t (a+1) 128 159))/\w=w'):=fun w=>(jl t (a+1) 128 159 w O).mono fun e w' h=>⟨h.1,h.2.symm⟩;have G2:Hi (∀w,Cs prog 190 #[Y t,I J ((a:Int)+2),I J 128,I J 191] w fun e w'=>e=Rt (Bo (goB t (a+2) 128 191))/\w=w'):=fun w=>(jl t (a+2) 128 191 w O).mono fun e w' h=>⟨h.1,h.2.symm⟩;have G3:Hi (∀w,Cs prog 190 #[Y t,I J ((a:Int)+3),I J 128,I J 191] w fun e w'=>e=Rt (Bo (goB t (a+3) 128 191))/\w=w'):=fun w=>(jl t (a+3) 128 191 w O).mono fun e w' h=>⟨h.1,h.2.symm⟩;have HC:Hi (chr t a=if goB t (a+1) 128 159=true/\goB t (a+2) 128 191=true then 3 else 0):=by have e:=HE.out;exact Fk t a 128 159 O O (by unfold oc;rw[G O,G O]) (by unfold oa;rw[ba O])
 have wD:((t[a].toNat:Int)==224)=false:=Bf;have xR:((t[a].toNat:Int)==237)=true:=by rw[jq];omega
 have d1:decide ((t[a].toNat:Int)<128)=false:=br O;have d2:decide ((194:Int)<=(t[a].toNat:Int))=true:=ch O;have d3:decide ((t[a].toNat:Int)<224)=false:=br O;have d4:decide ((224:Int)<=(t[a].toNat:Int))=true:=ch O;have d5:decide ((t[a].toNat:Int)<240)=true:=ch O;have d6:decide ((240:Int)<=(t[a].toNat:Int))=false:=br O;generalize chr t a=res at HC ⊢;generalize goB t (a+1) 128 159=one at G1 HC;generalize goB t (a+2) 128 191=n7 at G2 HC;generalize goB t (a+3) 128 191=rW at G3;clear hr;go_enter func167,ntmps167;go_wp2_with fail;refine gd (G1 _) ?_;rintro e w2 ⟨rfl,rfl⟩;go_wp2_with fail;refine gd (G2 _) ?_;rintro e w3 ⟨rfl,rfl⟩;go_wp2_with fail;refine gd (G3 _) ?_;rintro e w4 ⟨rfl,rfl⟩;cases one;·go_wp2_with fail;go_ret;exact⟨jm (by rw[HC.out];rw[G Sq];rfl),X⟩
 cases n7;·go_wp2_with fail;go_ret;exact⟨jm (by rw[HC.out];rw[G Sq];rfl),X⟩
 go_wp2_with fail;go_ret;exact⟨jm (by rw[HC.out];rw[ba Sq];rfl),X⟩
theorem ac9(t:Q)(a:Nat)(w:M)(hm:t.size<=140737488355328)(ha:a<t.size)(hr:238<=(t[a].toNat:Int)/\(t[a].toNat:Int)<240):Cs prog 167 #[Y t,I J a] w fun e w'=>e=Rt (I J (chr t a))/\w'=w:=by
 have HE:Hi _:=gq t a ha;have hx:(t[a].toNat:Int)<256:=by have:=t[a].toNat_lt;omega
 have G1:Hi (∀w,Cs prog 190 #[Y t,I J ((a:Int)+1),I J 128,I J 191] w fun e w'=>e=Rt (Bo (goB t (a+1) 128 191))/\w=w'):=fun w=>(jl t (a+1) 128 191 w O).mono fun e w' h=>⟨h.1,h.2.symm⟩;have G2:Hi (∀w,Cs prog 190 #[Y t,I J ((a:Int)+2),I J 128,I J 191] w fun e w'=>e=Rt (Bo (goB t (a+2) 128 191))/\w=w'):=fun w=>(jl t (a+2) 128 191 w O).mono fun e w' h=>⟨h.1,h.2.symm⟩;have G3:Hi (∀w,Cs prog 190 #[Y t,I J ((a:Int)+3),I J 128,I J 191] w fun e w'=>e=Rt (Bo (goB t (a+3) 128 191))/\w=w'):=fun w=>(jl t (a+3) 128 191 w O).mono fun e w' h=>⟨h.1,h.2.symm⟩;have HC:Hi (chr t a=if goB t (a+1) 128 191=true/\goB t (a+2) 128 191=true then 3 else 0):=by have e:=HE.out;exact Fk t a 128 191 O O (by unfold oc;rw[G O,G O]) (by unfold oa;rw[G O,G O])
 have wD:((t[a].toNat:Int)==224)=false:=Bf;have xR:((t[a].toNat:Int)==237)=false:=Bf;have zP:((t[a].toNat:Int)==240)=false:=Bf;have CA:((t[a].toNat:Int)==244)=false:=Bf;have d1:decide ((t[a].toNat:Int)<128)=false:=br O;have d2:decide ((194:Int)<=(t[a].toNat:Int))=true:=ch O;have d3:decide ((t[a].toNat:Int)<224)=false:=br O;have d4:decide ((224:Int)<=(t[a].toNat:Int))=true:=ch O;have d5:decide ((t[a].toNat:Int)<240)=true:=ch O;have d6:decide ((240:Int)<=(t[a].toNat:Int))=false:=br O;generalize chr t a=res at HC ⊢;generalize goB t (a+1) 128 191=one at G1 HC;generalize goB t (a+2) 128 191=n7 at G2 HC;generalize goB t (a+3) 128 191=rW at G3;clear hr;go_enter func167,ntmps167;go_wp2_with fail;refine gd (G1 _) ?_;rintro e w2 ⟨rfl,rfl⟩;go_wp2_with fail;refine gd (G2 _) ?_;rintro e w3 ⟨rfl,rfl⟩;go_wp2_with fail;refine gd (G3 _) ?_;rintro e w4 ⟨rfl,rfl⟩;cases one;·go_wp2_with fail;go_ret;exact⟨jm (by rw[HC.out];rw[G Sq];rfl),X⟩
 cases n7;·go_wp2_with fail;go_ret;exact⟨jm (by rw[HC.out];rw[G Sq];rfl),X⟩
 go_wp2_with fail;go_ret;exact⟨jm (by rw[HC.out];rw[ba Sq];rfl),X⟩
def oh(s:Q):Nat->Int
 |0=>0
 |k+1=>oh s k*10+(b8 s k-48)
def ud(s:Q)(n:Nat):Prop:=∀i,i<n->48<=b8 s i/\b8 s i<=57
theorem Nz(s:Q)(k:Nat)(hk:k<=4)(h:ud s k):0<=oh s k/\oh s k<10000:=by
 match k,hk,h with
 |0,_,_=>simp[oh]
 |1,_,h=>have:=h 0 O;simp only[oh];omega
 |2,_,h=>have:=h 0 O;have:=h 1 O;simp only[oh];omega
 |3,_,h=>have:=h 0 O;have:=h 1 O;have:=h 2 O;simp only[oh];omega
 |4,_,h=>have:=h 0 O;have:=h 1 O;have:=h 2 O;have:=h 3 O;simp only[oh];omega
theorem De(s:Q)(w:M)(h4:s.size<=4)(hd:ud s s.size):Cs prog 197 #[Y s] w fun e w'=>e=Rt (I J (oh s s.size))/\w'=w:=by
 have HD:Hi _:=hd;clear hd;go_enter func197,ntmps197;go_wp2;go_loop [3,7] (fun n i=>∃k:Nat,k<=s.size/\i=I J k/\n=I J (oh s k)) (fun _ i=>s.size-(Io i).toNat);case atStart=>exact⟨0,O,X,X⟩
 obtain⟨k,hk,rfl,rfl⟩:=hrel;have hb:=Nz s k O (fun i hi=>HD i O);have bO:=hb.1;have hb1:=hb.2;clear hb;by_cases aA:k<s.size;·have HE:Hi _:=gq s k aA;have hx:=HD k aA;(have nZ:48<=(s[k].toNat:Int):=by rw[HE.out];exact hx.1);(have bR:(s[k].toNat:Int)<=57:=by rw[HE.out];exact hx.2);clear hx;go_wp2;go_round;(case rel=>exact⟨k+1,O,Gn,by show _=Value.int J (oh s k*10+(b8 s k-48));rw[<-HE.out]⟩);exact Ms
 have aL:s.size=k:=O;have HF:Hi (oh s k=oh s s.size):=by show _=_;rw[aL]
 clear aL;go_wp2;go_ret;exact⟨jm HF,X⟩
theorem Dn(s:Q)(w:M)(h4:s.size<=4)(hd:ud s s.size):Cs prog 168 #[Y s] w fun e w'=>e=Rt (I J (oh s s.size))/\w'=w:=by
 have HD:Hi _:=hd;clear hd;go_enter func168,ntmps168;go_wp2;go_loop [3,4] (fun n i=>∃k:Nat,k<=s.size/\i=I J k/\n=I J (oh s k)) (fun _ i=>s.size-(Io i).toNat);case atStart=>exact⟨0,O,X,X⟩
 obtain⟨k,hk,rfl,rfl⟩:=hrel;have hb:=Nz s k O (fun i hi=>HD i O);have bO:=hb.1;have hb1:=hb.2;clear hb;by_cases aA:k<s.size;·have HE:Hi _:=gq s k aA;have hx:=HD k aA;(have nZ:48<=(s[k].toNat:Int):=by rw[HE.out];exact hx.1);(have bR:(s[k].toNat:Int)<=57:=by rw[HE.out];exact hx.2);clear hx;go_wp2;go_round;(case rel=>exact⟨k+1,O,Gn,by show _=Value.int J (oh s k*10+(b8 s k-48));rw[<-HE.out];go_num⟩);exact Ms
 have aL:s.size=k:=O;have HF:Hi (oh s k=oh s s.size):=by show _=_;rw[aL]
 clear aL;go_wp2;go_ret;exact⟨jm HF,X⟩
def lastDay(y m:Int):Int:=if m=2 then(if y%400=0\/y%4=0/\y%100≠0 then 29 else 28)else if m=4\/m=6\/m=9\/m=11 then 30 else 31
def sf(w:M):Prop:=∀i,i<12->w.cell? (D 18 i Z)=U (I J ([31,28,31,30,31,30,31,31,30,31,30,31].getD i 0))
theorem sf.drew(h:sf w)(k:Nat):sf (w.drewN k):=h
theorem afF(y:Int)(w:M)(h0:0<=y)(h1:y<10000):Cs prog 210 #[I J y] w fun e w'=>e=Rt (Bo (decide (y%400=0\/y%4=0/\y%100≠0)))/\w'=w:=by
 by_cases h4:y%4=0
 ·have D0:=jq.2 h4;by_cases LI:y%100=0;·(have ad5:(y%100!=0)=false:=by rw[qj];exact LI);(have HB:Hi ((y%400==0)=decide (y%400=0\/y%4=0/\y%100≠0)):=by show _=_;rw[Ao,jq,ur];omega);clear h4 LI;go_enter func210,ntmps210;go_wp2;go_ret;exact⟨tw HB,X⟩
  have ad5:(y%100!=0)=true:=by rw[ln];exact LI
  have HB:Hi (true=decide (y%400=0\/y%4=0/\y%100≠0)):=by show _=_;rw[eq_comm,ur];omega
  clear h4 LI;go_enter func210,ntmps210;go_wp2;go_ret;exact⟨tw HB,X⟩
 have D0:=lf.2 h4;have HB:Hi ((y%400==0)=decide (y%400=0\/y%4=0/\y%100≠0)):=by show _=_;rw[Ao,jq,ur];omega
 clear h4;go_enter func210,ntmps210;go_wp2;go_ret;exact⟨tw HB,X⟩
theorem af1(y:Int)(m:Nat)(w:M)(h0:0<=y)(h1:y<10000)(mX:1<=m)(iS:m<=12)(hD:sf w):Cs prog 207 #[I J y,I J m] w fun e w'=>e=Rt (I J (lastDay y m))/\w'=w:=by
 have hc:=hD (m-1) O;clear hD;by_cases h2:m=2
 ·have HL:Hi _:=afF y w h0 h1;subst h2;have hl:lastDay y ((2:Nat):Int)=if y%400=0\/y%4=0/\y%100≠0 then 29 else 28:=X
  rw[hl];by_cases hy:y%400=0\/y%4=0/\y%100≠0;·rw[ba hy];rw[ch hy]at HL;clear hy hl;go_enter func207,ntmps207;go_wp2_with fail;refine gd HL ?_;rintro e w2 ⟨rfl,rfl⟩;go_wp2_with fail;go_ret;exact⟨X,X⟩
  rw[G hy];rw[br hy]at HL;clear hy hl;go_enter func207,ntmps207;go_wp2_with fail;refine gd HL ?_;rintro e w2 ⟨rfl,hw⟩;subst hw;go_wp2_with fail;go_ret;exact⟨X,X⟩
 have kG:((m:Int)==2)=false:=Bf;have HV:Hi ([31,28,31,30,31,30,31,31,30,31,30,31].getD (m-1) 0=lastDay y m):=by
  show _=_;obtain⟨j,rfl⟩:∃j,m=j+1:=⟨m-1,O⟩
  match j,iS,h2 with
  |0,_,_=>rfl
  |2,_,_=>rfl
  |3,_,_=>rfl
  |4,_,_=>rfl
  |5,_,_=>rfl
  |6,_,_=>rfl
  |7,_,_=>rfl
  |8,_,_=>rfl
  |9,_,_=>rfl
  |10,_,_=>rfl
  |11,_,_=>rfl
 generalize([31,28,31,30,31,30,31,31,30,31,30,31].getD (m-1) 0:Int)=v at hc HV;clear h2;go_enter func207,ntmps207;go_wp2;go_ret;exact⟨jm HV,X⟩
def dec(t:Q)(a b:Nat):Int:=oh (t.extract a b) (t.extract a b).size
def vg(y m d:Int):Prop:=1<=m/\m<=12/\1<=d/\d<=lastDay y m
def mf(t:Q):Prop:=t.size=15/\b8 t 14=90/\ud t 14/\vg (dec t 0 4) (dec t 4 6) (dec t 6 8)/\dec t 8 10<=23/\dec t 10 12<=59/\dec t 12 14<=59
theorem Nc(t:Q)(a b i:Nat)(hi:i<b-a)(_hb:b<=t.size):b8 (t.extract a b) i=b8 t (a+i):=by
 unfold b8;rw[Lib.extract_data];rw[dy,dy]
 first
  |(rw[sh hi,zj];done)
  |(simp[sh hi,zj];done)
theorem sk(h:ud t 14)(hs:t.size=15)(a b:Nat)(hb:b<=14):ud (t.extract a b) (t.extract a b).size:=by
 intro i hi;rw[ot]at hi;rw[Nc t a b i O O];exact h (a+i) O
theorem Ur(h:ud t 14)(hs:t.size=15)(a b:Nat)(hb:b<=14)(pZ:b-a<=4):0<=dec t a b/\dec t a b<10000:=
 Nz _ _ (by rw[ot];omega) (sk h hs a b hb)
theorem oj(h:ud t 14)(hs:t.size=15)(a:Nat)(hb:a+2<=14):0<=dec t a (a+2)/\dec t a (a+2)<100:=by
 unfold dec;have hz:(t.extract a (a+2)).size=2:=by rw[ot];omega
 have hd:=sk h hs a (a+2) hb;rw[hz]at hd ⊢;have h0:=hd 0 O;have h1:=hd 1 O;simp only[oh];omega
theorem afD(y:Int)(m d:Nat)(w:M)(h0:0<=y)(h1:y<10000)(hm:m<100)(hd:d<100)(hD:sf w):Cs prog 198 #[I J y,I J m,I J d] w fun e w'=>∃r,e=Rt (Bo r)/\(r=true↔vg y m d)/\w'=w:=by
 have HD:Hi _:=hD;clear hD;by_cases q1:1<=m/\m<=12
 ·obtain⟨a1,a2⟩:=q1;by_cases q2:1<=d;·have HL:Hi _:=af1 y m w h0 h1 a1 a2 HD;(have HI:Hi (decide ((d:Int)<=lastDay y m)=true↔vg y m d):=by rw[ur];exact⟨fun h=>⟨O,O,O,h⟩,fun h=>h.2.2.2⟩);generalize lastDay y m=L at HL HI;go_enter func198,ntmps198;go_wp2_with fail;refine gd HL ?_;rintro e w2 ⟨rfl,hw⟩;subst hw;go_wp2_with fail;go_ret;exact⟨_,X,HI,X⟩
  have HN:Hi (¬vg y m d):=fun h=>by have:=h.2.2.1;omega
  have c1:decide ((1:Int)<=(d:Int))=false:=br O;go_enter func198,ntmps198;go_wp2;go_ret;exact⟨false,X,⟨fun e=>(by cases e),fun h=>Ab h HN⟩,X⟩
 have HN:Hi (¬vg y m d):=fun h=>q1 ⟨by have:=h.1;omega,by have:=h.2.1;omega⟩;by_cases q3:1<=m;·have c1:decide ((m:Int)<=12)=false:=br O;clear q1;go_enter func198,ntmps198;go_wp2;go_ret;exact⟨false,X,⟨fun e=>(by cases e),fun h=>Ab h HN⟩,X⟩
 have c1:decide ((1:Int)<=(m:Int))=false:=br O;clear q1;go_enter func198,ntmps198;go_wp2;go_ret;exact⟨false,X,⟨fun e=>(by cases e),fun h=>Ab h HN⟩,X⟩
theorem uQ{w1:M}{a:Nat}(h:w.drewN a=w1)(b:Nat):∃k,w1.drewN b=w.drewN k:=⟨a+b,by rw[<-h,World.drewN_drewN]⟩
theorem Zl(hs:t.size=15)(hz:b8 t 14=90)(hg:ud t 14):mf t↔vg (dec t 0 4) (dec t 4 6) (dec t 6 8)/\dec t 8 10<=23/\dec t 10 12<=59/\dec t 12 14<=59:=
 ⟨fun h=>h.2.2.2,fun h=>⟨hs,hz,hg,h⟩⟩
theorem adS(t:Q)(w:M)(hm:t.size<=9223372036854775807)(hD:sf w):Cs prog 178 #[Y t] w fun e w'=>gz (mf t) w e w':=by
 have HD:Hi (sf w):=hD;clear hD;by_cases hs:t.size=15
 ·have JJ:((t.size:Int)!=15)=false:=by rw[qj];omega
  have gR:14<t.size:=O;have ad6:(14:Int)<t.size:=O;have HZ:Hi ((t[14].toNat:Int)=b8 t 14):=gq t 14 gR;have HS:Hi _:=hs;have lB:15<=t.size:=O;clear hs;by_cases hz:(t[14].toNat:Int)=90
  ·(have AX:((t[14].toNat:Int)!=90)=false:=by rw[qj];exact hz);(have OW:Hi (b8 t 14=90):=by show _=_;rw[<-HZ.out];exact hz);clear hz;go_enter func178,ntmps178;go_wp2;go_loop [18] (fun i=>∃k:Nat,k<=14/\i=I J k/\ud t k) (fun i=>14-(Io i).toNat);(case atStart=>exact⟨0,O,X,fun j h=>Ab h (dh _)⟩);obtain⟨k,hk,rfl,(HG:Hi _)⟩:=hrel;by_cases aA:k<14
   ·have hkt:k<t.size:=O;have HE:Hi _:=gq t k hkt;by_cases hd:48<=(t[k].toNat:Int)/\(t[k].toNat:Int)<=57
    ·have HX:Hi (ud t (k+1)):=fun i hi=>by
      by_cases e:i=k;(·subst e;rw[<-HE.out];exact hd);exact HG i O
     obtain⟨d1,d2⟩:=hd;go_wp2;go_round;(case rel=>exact⟨k+1,O,Gn,HX⟩);exact Ms
    have HN:Hi (¬mf t):=fun h=>hd (by rw[HE.out];exact h.2.2.1 k aA);by_cases d1:48<=(t[k].toNat:Int);(·have c1:decide ((t[k].toNat:Int)<=57)=false:=br O;clear hd;go_wp2;go_ret;exact ie HN (gh w));have c1:decide ((48:Int)<=(t[k].toNat:Int))=false:=br d1;clear hd;go_wp2;go_ret;exact ie HN (gh w)
   have lD:k=14:=O;subst lD;have HG:=HG.out;have hs:=HS.out;have PY:Hi (∀w,Cs prog 197 #[Y (t.extract 0 4)] w fun e w'=>e=Rt (I J (dec t 0 4))/\w'=w):=fun w=>De _ w (by rw[ot];omega) (sk HG hs 0 4 O);have G0:Hi (∀w,Cs prog 197 #[Y (t.extract 4 6)] w fun e w'=>e=Rt (I J (dec t 4 6))/\w'=w):=fun w=>De _ w (by rw[ot];omega) (sk HG hs 4 6 O);have GX:Hi (∀w,Cs prog 197 #[Y (t.extract 6 8)] w fun e w'=>e=Rt (I J (dec t 6 8))/\w'=w):=fun w=>De _ w (by rw[ot];omega) (sk HG hs 6 8 O);have GY:Hi (∀w,Cs prog 197 #[Y (t.extract 8 10)] w fun e w'=>e=Rt (I J (dec t 8 10))/\w'=w):=fun w=>De _ w (by rw[ot];omega) (sk HG hs 8 10 O);have GZ:Hi (∀w,Cs prog 197 #[Y (t.extract 10 12)] w fun e w'=>e=Rt (I J (dec t 10 12))/\w'=w):=fun w=>De _ w (by rw[ot];omega) (sk HG hs 10 12 O);have G4:Hi (∀w,Cs prog 197 #[Y (t.extract 12 14)] w fun e w'=>e=Rt (I J (dec t 12 14))/\w'=w):=fun w=>De _ w (by rw[ot];omega) (sk HG hs 12 14 O);have HT:Hi _:=Zl hs OW HG;obtain⟨y0,y1⟩:=Ur HG hs 0 4 O O;obtain⟨A5,H6⟩:=sg (oj HG hs 4 O).1;(have ZN:A5<100:=by have:=(oj HG hs 4 O).2;omega);rw[H6]at G0 HT;obtain⟨FF,G9⟩:=sg (oj HG hs 6 O).1;(have ZM:FF<100:=by have:=(oj HG hs 6 O).2;omega);rw[G9]at GX HT;obtain⟨C8,H3⟩:=sg (oj HG hs 8 O).1;(have lHo:C8<100:=by have:=(oj HG hs 8 O).2;omega);rw[H3]at GY HT;obtain⟨C9,H5⟩:=sg (oj HG hs 10 O).1;(have lMi:C9<100:=by have:=(oj HG hs 10 O).2;omega);rw[H5]at GZ HT;obtain⟨yZ,H7⟩:=sg (oj HG hs 12 O).1;(have lSe:yZ<100:=by have:=(oj HG hs 12 O).2;omega);rw[H7]at G4 HT;generalize dec t 0 4=vY at PY HT y0 y1;have z8:(8:Int)<=t.size:=O;have Z7:(10:Int)<=t.size:=O;have z12:(12:Int)<=t.size:=O;have z14:(14:Int)<=t.size:=O;clear HG hs H6 G9 H3 H5 H7;go_wp2_with fail;go_quiet ((first|(go_at_call_of 197 (Value.string (t.extract 0 4));exact Calls.quiet_of_same (PY _))|(go_at_call_of 197 (Value.string (t.extract 4 6));exact Calls.quiet_of_same (G0 _))|(go_at_call_of 197 (Value.string (t.extract 6 8));exact Calls.quiet_of_same (GX _))));go_wp2_with fail;generalize lE:w.drewN nq=w1;(have KI:Hi (sf w1):=by rw[<-lE];exact HD);have eQ:Hi _:=lE;clear lE;go_quiet ((first|(go_at_call_of 197 (Value.string (t.extract 8 10));exact Calls.quiet_of_same (GY _))|(go_at_call_of 197 (Value.string (t.extract 10 12));exact Calls.quiet_of_same (GZ _))|(go_at_call_of 197 (Value.string (t.extract 12 14));exact Calls.quiet_of_same (G4 _))));go_wp2_with fail;refine(afD vY A5 FF _ y0 y1 ZN ZM (by exact KI)).mono ?_;rintro e w2 ⟨r,rfl,(HR:Hi _),hw⟩;subst hw;cases r;(·(have HN:Hi (¬mf t):=fun h=>by cases HR.2 (HT.1 h).1);go_wp2_with fail;go_ret;exact ie HN (uQ eQ _));by_cases g1:C8<=23
   ·by_cases g2:C9<=59
    ·by_cases g3:yZ<=59;(·have HY:Hi _:=HT.2 ⟨HR.1 X,O,O,O⟩;have c1:decide ((yZ:Int)<=59)=true:=ch O;go_wp2_with fail;go_ret;exact ru HY (uQ eQ _));(have HN:Hi (¬mf t):=fun h=>by have:=(HT.1 h).2.2.2;omega);have c1:decide ((yZ:Int)<=59)=false:=br O;go_wp2_with fail;go_ret;exact ie HN (uQ eQ _)
    (have HN:Hi (¬mf t):=fun h=>by have:=(HT.1 h).2.2.1;omega);have c1:decide ((C9:Int)<=59)=false:=br O;go_wp2_with fail;go_ret;exact ie HN (uQ eQ _)
   (have HN:Hi (¬mf t):=fun h=>by have:=(HT.1 h).2.1;omega);have c1:decide ((C8:Int)<=23)=false:=br O;go_wp2_with fail;go_ret;exact ie HN (uQ eQ _)
  have AX:((t[14].toNat:Int)!=90)=true:=by rw[ln];exact hz
  have HN:Hi (¬mf t):=fun h=>hz (HZ.trans h.2.1);clear hz;go_enter func178,ntmps178;go_wp2;go_ret;exact ie HN (gh w)
 have JJ:((t.size:Int)!=15)=true:=by rw[ln];omega
 have HN:Hi (¬mf t):=fun h=>hs h.1;clear hs;go_enter func178,ntmps178;go_wp2;go_ret;exact ie HN (gh w)
theorem ada(t:Q)(a:Nat)(w:M)(hm:t.size<=140737488355328)(ha:a<t.size)(hr:(t[a].toNat:Int)=240):Cs prog 167 #[Y t,I J a] w fun e w'=>e=Rt (I J (chr t a))/\w'=w:=by
 have HE:Hi _:=gq t a ha;have hx:(t[a].toNat:Int)<256:=by have:=t[a].toNat_lt;omega
 have G1:Hi (∀w,Cs prog 190 #[Y t,I J ((a:Int)+1),I J 144,I J 191] w fun e w'=>e=Rt (Bo (goB t (a+1) 144 191))/\w=w'):=fun w=>(jl t (a+1) 144 191 w O).mono fun e w' h=>⟨h.1,h.2.symm⟩;have G2:Hi (∀w,Cs prog 190 #[Y t,I J ((a:Int)+2),I J 128,I J 191] w fun e w'=>e=Rt (Bo (goB t (a+2) 128 191))/\w=w'):=fun w=>(jl t (a+2) 128 191 w O).mono fun e w' h=>⟨h.1,h.2.symm⟩;have G3:Hi (∀w,Cs prog 190 #[Y t,I J ((a:Int)+3),I J 128,I J 191] w fun e w'=>e=Rt (Bo (goB t (a+3) 128 191))/\w=w'):=fun w=>(jl t (a+3) 128 191 w O).mono fun e w' h=>⟨h.1,h.2.symm⟩;have HC:Hi (chr t a=if goB t (a+1) 144 191=true/\goB t (a+2) 128 191=true/\goB t (a+3) 128 191=true then 4 else 0):=by have e:=HE.out;exact Iw t a 144 191 O O (by unfold oc;rw[G O,ba O]) (by unfold oa;rw[G O,G O])
 have wD:((t[a].toNat:Int)==224)=false:=Bf;have xR:((t[a].toNat:Int)==237)=false:=Bf;have zP:((t[a].toNat:Int)==240)=true:=by rw[jq];omega
 have d1:decide ((t[a].toNat:Int)<128)=false:=br O;have d2:decide ((194:Int)<=(t[a].toNat:Int))=true:=ch O;have d3:decide ((t[a].toNat:Int)<224)=false:=br O;have d4:decide ((224:Int)<=(t[a].toNat:Int))=true:=ch O;have d5:decide ((t[a].toNat:Int)<240)=false:=br O;have d6:decide ((240:Int)<=(t[a].toNat:Int))=true:=ch O;have d7:decide ((t[a].toNat:Int)<245)=true:=ch O;generalize chr t a=res at HC ⊢;generalize goB t (a+1) 144 191=one at G1 HC;generalize goB t (a+2) 128 191=n7 at G2 HC;generalize goB t (a+3) 128 191=rW at G3 HC;clear hr;go_enter func167,ntmps167;go_wp2_with fail;refine gd (G1 _) ?_;rintro e w2 ⟨rfl,rfl⟩;go_wp2_with fail;refine gd (G2 _) ?_;rintro e w3 ⟨rfl,rfl⟩;go_wp2_with fail;refine gd (G3 _) ?_;rintro e w4 ⟨rfl,rfl⟩;cases one;·go_wp2_with fail;go_ret;exact⟨jm (by rw[HC.out];rw[G Sq];rfl),X⟩
 cases n7;·go_wp2_with fail;go_ret;exact⟨jm (by rw[HC.out];rw[G Sq];rfl),X⟩
 cases rW;·go_wp2_with fail;go_ret;exact⟨jm (by rw[HC.out];rw[G Sq];rfl),X⟩
 go_wp2_with fail;go_ret;exact⟨jm (by rw[HC.out];rw[ba Sq];rfl),X⟩
theorem adb(t:Q)(a:Nat)(w:M)(hm:t.size<=140737488355328)(ha:a<t.size)(hr:241<=(t[a].toNat:Int)/\(t[a].toNat:Int)<244):Cs prog 167 #[Y t,I J a] w fun e w'=>e=Rt (I J (chr t a))/\w'=w:=by
 have HE:Hi _:=gq t a ha;have hx:(t[a].toNat:Int)<256:=by have:=t[a].toNat_lt;omega
 have G1:Hi (∀w,Cs prog 190 #[Y t,I J ((a:Int)+1),I J 128,I J 191] w fun e w'=>e=Rt (Bo (goB t (a+1) 128 191))/\w=w'):=fun w=>(jl t (a+1) 128 191 w O).mono fun e w' h=>⟨h.1,h.2.symm⟩;have G2:Hi (∀w,Cs prog 190 #[Y t,I J ((a:Int)+2),I J 128,I J 191] w fun e w'=>e=Rt (Bo (goB t (a+2) 128 191))/\w=w'):=fun w=>(jl t (a+2) 128 191 w O).mono fun e w' h=>⟨h.1,h.2.symm⟩;have G3:Hi (∀w,Cs prog 190 #[Y t,I J ((a:Int)+3),I J 128,I J 191] w fun e w'=>e=Rt (Bo (goB t (a+3) 128 191))/\w=w'):=fun w=>(jl t (a+3) 128 191 w O).mono fun e w' h=>⟨h.1,h.2.symm⟩;have HC:Hi (chr t a=if goB t (a+1) 128 191=true/\goB t (a+2) 128 191=true/\goB t (a+3) 128 191=true then 4 else 0):=by have e:=HE.out;exact Iw t a 128 191 O O (by unfold oc;rw[G O,G O]) (by unfold oa;rw[G O,G O])
 have wD:((t[a].toNat:Int)==224)=false:=Bf;have xR:((t[a].toNat:Int)==237)=false:=Bf;have zP:((t[a].toNat:Int)==240)=false:=Bf;have CA:((t[a].toNat:Int)==244)=false:=Bf;have d1:decide ((t[a].toNat:Int)<128)=false:=br O;have d2:decide ((194:Int)<=(t[a].toNat:Int))=true:=ch O;have d3:decide ((t[a].toNat:Int)<224)=false:=br O;have d4:decide ((224:Int)<=(t[a].toNat:Int))=true:=ch O;have d5:decide ((t[a].toNat:Int)<240)=false:=br O;have d6:decide ((240:Int)<=(t[a].toNat:Int))=true:=ch O;have d7:decide ((t[a].toNat:Int)<245)=true:=ch O;generalize chr t a=res at HC ⊢;generalize goB t (a+1) 128 191=one at G1 HC;generalize goB t (a+2) 128 191=n7 at G2 HC;generalize goB t (a+3) 128 191=rW at G3 HC;clear hr;go_enter func167,ntmps167;go_wp2_with fail;refine gd (G1 _) ?_;rintro e w2 ⟨rfl,rfl⟩;go_wp2_with fail;refine gd (G2 _) ?_;rintro e w3 ⟨rfl,rfl⟩;go_wp2_with fail;refine gd (G3 _) ?_;rintro e w4 ⟨rfl,rfl⟩;cases one;·go_wp2_with fail;go_ret;exact⟨jm (by rw[HC.out];rw[G Sq];rfl),X⟩
 cases n7;·go_wp2_with fail;go_ret;exact⟨jm (by rw[HC.out];rw[G Sq];rfl),X⟩
 cases rW;·go_wp2_with fail;go_ret;exact⟨jm (by rw[HC.out];rw[G Sq];rfl),X⟩
 go_wp2_with fail;go_ret;exact⟨jm (by rw[HC.out];rw[ba Sq];rfl),X⟩
theorem ac2(t:Q)(a:Nat)(w:M)(hm:t.size<=140737488355328)(ha:a<t.size)(hr:(t[a].toNat:Int)=244):Cs prog 167 #[Y t,I J a] w fun e w'=>e=Rt (I J (chr t a))/\w'=w:=by
 have HE:Hi _:=gq t a ha;have hx:(t[a].toNat:Int)<256:=by have:=t[a].toNat_lt;omega
 have G1:Hi (∀w,Cs prog 190 #[Y t,I J ((a:Int)+1),I J 128,I J 143] w fun e w'=>e=Rt (Bo (goB t (a+1) 128 143))/\w=w'):=fun w=>(jl t (a+1) 128 143 w O).mono fun e w' h=>⟨h.1,h.2.symm⟩;have G2:Hi (∀w,Cs prog 190 #[Y t,I J ((a:Int)+2),I J 128,I J 191] w fun e w'=>e=Rt (Bo (goB t (a+2) 128 191))/\w=w'):=fun w=>(jl t (a+2) 128 191 w O).mono fun e w' h=>⟨h.1,h.2.symm⟩;have G3:Hi (∀w,Cs prog 190 #[Y t,I J ((a:Int)+3),I J 128,I J 191] w fun e w'=>e=Rt (Bo (goB t (a+3) 128 191))/\w=w'):=fun w=>(jl t (a+3) 128 191 w O).mono fun e w' h=>⟨h.1,h.2.symm⟩;have HC:Hi (chr t a=if goB t (a+1) 128 143=true/\goB t (a+2) 128 191=true/\goB t (a+3) 128 191=true then 4 else 0):=by have e:=HE.out;exact Iw t a 128 143 O O (by unfold oc;rw[G O,G O]) (by unfold oa;rw[G O,ba O])
 have wD:((t[a].toNat:Int)==224)=false:=Bf;have xR:((t[a].toNat:Int)==237)=false:=Bf;have zP:((t[a].toNat:Int)==240)=false:=Bf;have CA:((t[a].toNat:Int)==244)=true:=by rw[jq];omega
 have d1:decide ((t[a].toNat:Int)<128)=false:=br O;have d2:decide ((194:Int)<=(t[a].toNat:Int))=true:=ch O;have d3:decide ((t[a].toNat:Int)<224)=false:=br O;have d4:decide ((224:Int)<=(t[a].toNat:Int))=true:=ch O;have d5:decide ((t[a].toNat:Int)<240)=false:=br O;have d6:decide ((240:Int)<=(t[a].toNat:Int))=true:=ch O;have d7:decide ((t[a].toNat:Int)<245)=true:=ch O;generalize chr t a=res at HC ⊢;generalize goB t (a+1) 128 143=one at G1 HC;generalize goB t (a+2) 128 191=n7 at G2 HC;generalize goB t (a+3) 128 191=rW at G3 HC;clear hr;go_enter func167,ntmps167;go_wp2_with fail;refine gd (G1 _) ?_;rintro e w2 ⟨rfl,rfl⟩;go_wp2_with fail;refine gd (G2 _) ?_;rintro e w3 ⟨rfl,rfl⟩;go_wp2_with fail;refine gd (G3 _) ?_;rintro e w4 ⟨rfl,rfl⟩;cases one;·go_wp2_with fail;go_ret;exact⟨jm (by rw[HC.out];rw[G Sq];rfl),X⟩
 cases n7;·go_wp2_with fail;go_ret;exact⟨jm (by rw[HC.out];rw[G Sq];rfl),X⟩
 cases rW;·go_wp2_with fail;go_ret;exact⟨jm (by rw[HC.out];rw[G Sq];rfl),X⟩
 go_wp2_with fail;go_ret;exact⟨jm (by rw[HC.out];rw[ba Sq];rfl),X⟩
theorem ac3(t:Q)(a:Nat)(w:M)(hm:t.size<=140737488355328)(ha:a<t.size)(hr:245<=(t[a].toNat:Int)):Cs prog 167 #[Y t,I J a] w fun e w'=>e=Rt (I J (chr t a))/\w'=w:=by
 have HE:Hi _:=gq t a ha;have hx:(t[a].toNat:Int)<256:=by have:=t[a].toNat_lt;omega
 have G1:Hi (∀w,Cs prog 190 #[Y t,I J ((a:Int)+1),I J 128,I J 191] w fun e w'=>e=Rt (Bo (goB t (a+1) 128 191))/\w=w'):=fun w=>(jl t (a+1) 128 191 w O).mono fun e w' h=>⟨h.1,h.2.symm⟩;have G2:Hi (∀w,Cs prog 190 #[Y t,I J ((a:Int)+2),I J 128,I J 191] w fun e w'=>e=Rt (Bo (goB t (a+2) 128 191))/\w=w'):=fun w=>(jl t (a+2) 128 191 w O).mono fun e w' h=>⟨h.1,h.2.symm⟩;have G3:Hi (∀w,Cs prog 190 #[Y t,I J ((a:Int)+3),I J 128,I J 191] w fun e w'=>e=Rt (Bo (goB t (a+3) 128 191))/\w=w'):=fun w=>(jl t (a+3) 128 191 w O).mono fun e w' h=>⟨h.1,h.2.symm⟩;have HC:Hi _:=Iv t a (by rw[<-HE.out];omega);have wD:((t[a].toNat:Int)==224)=false:=Bf;have xR:((t[a].toNat:Int)==237)=false:=Bf;have zP:((t[a].toNat:Int)==240)=false:=Bf;have CA:((t[a].toNat:Int)==244)=false:=Bf;have d1:decide ((t[a].toNat:Int)<128)=false:=br O;have d2:decide ((194:Int)<=(t[a].toNat:Int))=true:=ch O;have d3:decide ((t[a].toNat:Int)<224)=false:=br O;have d4:decide ((224:Int)<=(t[a].toNat:Int))=true:=ch O;have d5:decide ((t[a].toNat:Int)<240)=false:=br O;have d6:decide ((240:Int)<=(t[a].toNat:Int))=true:=ch O;have d7:decide ((t[a].toNat:Int)<245)=false:=br O;generalize chr t a=res at HC ⊢;generalize goB t (a+1) 128 191=one at G1;generalize goB t (a+2) 128 191=n7 at G2;generalize goB t (a+3) 128 191=rW at G3;clear hr;go_enter func167,ntmps167;go_wp2_with fail;refine gd (G1 _) ?_;rintro e w2 ⟨rfl,rfl⟩;go_wp2_with fail;refine gd (G2 _) ?_;rintro e w3 ⟨rfl,rfl⟩;go_wp2_with fail;refine gd (G3 _) ?_;rintro e w4 ⟨rfl,rfl⟩;go_wp2_with fail;go_ret;exact⟨jm (by rw[HC.out];rfl),X⟩
theorem adc(t:Q)(a:Nat)(w:M)(hm:t.size<=140737488355328)(ha:a<t.size):Cs prog 167 #[Y t,I J a] w fun e w'=>e=Rt (I J (chr t a))/\w'=w:=by
 by_cases h1:(t[a].toNat:Int)<128;·exact ac1 t a w hm ha h1
 by_cases h2:128<=(t[a].toNat:Int)/\(t[a].toNat:Int)<194;·exact ac4 t a w hm ha h2
 by_cases h3:194<=(t[a].toNat:Int)/\(t[a].toNat:Int)<224;·exact ac5 t a w hm ha h3
 by_cases h4:(t[a].toNat:Int)=224;·exact ac6 t a w hm ha h4
 by_cases h5:225<=(t[a].toNat:Int)/\(t[a].toNat:Int)<237;·exact ac7 t a w hm ha h5
 by_cases h6:(t[a].toNat:Int)=237;·exact ac8 t a w hm ha h6
 by_cases h7:238<=(t[a].toNat:Int)/\(t[a].toNat:Int)<240;·exact ac9 t a w hm ha h7
 by_cases h8:(t[a].toNat:Int)=240;·exact ada t a w hm ha h8
 by_cases h9:241<=(t[a].toNat:Int)/\(t[a].toNat:Int)<244;·exact adb t a w hm ha h9
 by_cases bG:(t[a].toNat:Int)=244;·exact ac2 t a w hm ha bG
 exact ac3 t a w hm ha O
def Zq(t:Q):Nat->Nat->Prop
 |0,k=>t.size<=k
 |n+1,k=>t.size<=k\/(chr t k≠0/\Zq t n (k+chr t k))
def Cy(t:Q)(k:Nat):Prop:=∃n,Zq t n k
def yh(t:Q):Prop:=Cy t 0
theorem Zr(t:Q)(k:Nat)(h:t.size<=k):Cy t k:=⟨0,h⟩
theorem Zs(t:Q)(k:Nat)(h:k<t.size):Cy t k↔chr t k≠0/\Cy t (k+chr t k):=by
 constructor
 ·rintro⟨n,hn⟩
  cases n with
  |zero=>have:t.size<=k:=hn;omega
  |succ n=>
   rcases hn with h'|⟨h1,h2⟩
   ·omega
   ·exact⟨h1,n,h2⟩
 rintro⟨h1,n,h2⟩;exact⟨n+1,.inr ⟨h1,h2⟩⟩
theorem Uj(t:Q)(k:Nat)(h:k<t.size):k+chr t k<=t.size:=by
 have g:∀{a:Nat} {lo hi:Int},goB t a lo hi=true->a<t.size:=fun {a lo hi} e=>by unfold goB at e;exact(Bj e).1
 unfold chr;split;·omega
 split;·rename_i e;have:=g e.2.2;omega
 split;·rename_i e;have:=g e.2.2.2;omega
 split;·rename_i e;have:=g e.2.2.2.2;omega
 omega
theorem Vx(t:Q)(w:M)(hm:t.size<=140737488355328):Cs prog 125 #[Y t] w fun e w'=>gz (yh t) w e w':=by
 go_enter func125,ntmps125;go_wp2;go_loop [3] (fun i=>∃k:Nat,k<=t.size/\i=I J k/\(yh t↔Cy t k)) (fun i=>t.size-(Io i).toNat);case atStart=>exact⟨0,O,X,zi⟩
 obtain⟨k,hk,rfl,(HU:Hi _)⟩:=hrel;by_cases aA:k<t.size
 ·have HS:Hi _:=Zs t k aA;have hc:=Uj t k aA;have HC:Hi (∀w,Cs prog 167 #[Y t,I J k] w fun e w'=>e=Rt (I J (chr t k))/\w=w'):=fun w=>(adc t k w hm aA).mono fun e w' h=>⟨h.1,h.2.symm⟩;generalize chr t k=c at HS hc HC;go_wp2_with fail;refine gd (HC _) ?_;rintro e w2 ⟨rfl,rfl⟩;by_cases hz:c=0;·have HN:Hi _:=fun h=>(HS.1 (HU.1 h)).1 hz;(have AX:((c:Int)==0)=true:=by rw[jq];omega);clear hz;go_wp2_with fail;go_ret;exact ie HN (gh _)
  have HX:Hi _:=HU.trans (HS.trans ⟨fun h=>h.2,fun h=>⟨hz,h⟩⟩);have AX:((c:Int)==0)=false:=Bf;have sI:1<=c:=O;clear hz;go_wp2_with fail;go_round;case rel=>exact⟨k+c,O,Gn,HX⟩
  exact Ms
 have HY:Hi _:=HU.2 (Zr t k O);go_wp2;go_ret;exact ru HY (gh w)
def Df:Ls UInt8:=[48,49,50,51,52,53,54,55,56,57]
theorem adA(t:Q)(hs:t.size=15):(∀i,i<(t.extract 0 14).size->∃j,j<(⟨Df.toArray⟩:Q).size/\b8 ⟨Df.toArray⟩ j=b8 (t.extract 0 14) i)↔ud t 14:=by
 have hz:(t.extract 0 14).size=14:=by rw[ot];omega
 have hd:(⟨Df.toArray⟩:Q).size=10:=by decide+kernel
 have hb:∀j,j<10->b8 ⟨Df.toArray⟩ j=48+j:=by(have:∀j:Fin 10,b8 ⟨Df.toArray⟩ j.val=48+(j.val:Int):=by decide+kernel);exact fun j hj=>this ⟨j,hj⟩
 rw[hz,hd];constructor;·intro h i hi;obtain⟨j,hj,e⟩:=h i hi;rw[hb j hj,Nc t 0 14 i O O,ly]at e;omega
 intro h i hi;have:=h i hi;refine⟨(b8 t i-48).toNat,O,?_⟩;rw[hb _ O,Nc t 0 14 i O O,ly];omega
theorem Wh(y m:Int):(m=2/\(y%400=0\/y%4=0/\y%100≠0)/\lastDay y m=29)\/(m=2/\¬(y%400=0\/y%4=0/\y%100≠0)/\lastDay y m=28)\/(m≠2/\(m=4\/m=6\/m=9\/m=11)/\lastDay y m=30)\/(m≠2/\¬(m=4\/m=6\/m=9\/m=11)/\lastDay y m=31):=by
 unfold lastDay;by_cases h:m=2
 ·by_cases hl:y%400=0\/y%4=0/\y%100≠0;·left;exact⟨h,hl,by rw[ba h,ba hl]⟩
  right;left;exact⟨h,hl,by rw[ba h,G hl]⟩
 by_cases hl:m=4\/m=6\/m=9\/m=11;·right;right;left;exact⟨h,hl,by rw[G h,ba hl]⟩
 right;right;right;exact⟨h,hl,by rw[G h,G hl]⟩
theorem Ot(t:Q)(w:M)(hm:t.size<=9223372036854775807):Cs prog 126 #[Y t] w fun e w'=>gz (mf t) w e w':=by
 by_cases hs:t.size=15
 ·have JJ:((t.size:Int)!=15)=false:=by rw[qj];omega
  have gR:14<t.size:=O;have ad6:(14:Int)<t.size:=O;have HZ:Hi ((t[14].toNat:Int)=b8 t 14):=gq t 14 gR;have HS:Hi _:=hs;have lB:15<=t.size:=O;clear hs;by_cases hz:(t[14].toNat:Int)=90
  ·(have AX:((t[14].toNat:Int)!=90)=false:=by rw[qj];exact hz);(have OW:Hi (b8 t 14=90):=by show _=_;rw[<-HZ.out];exact hz);clear hz;go_enter func126,ntmps126;go_wp2_with fail;refine(Td (t.extract 0 14) ⟨Df.toArray⟩ _ (by rw[ot];omega) (by decide+kernel)).mono ?_;rintro e w1 ⟨r,rfl,hr,hd⟩;have HR:Hi _:=hr.trans (adA t HS);obtain⟨q,hd⟩:=hd;have eQ:Hi _:=hd.symm;clear hr hd;cases r;(·(have HN:Hi (¬mf t):=fun h=>by cases HR.2 h.2.2.1);go_wp2_with fail;go_ret;exact ie HN (uQ eQ 0));have HG:=HR.1 X;have hs:=HS.out;have PY:Hi (∀w,Cs prog 168 #[Y (t.extract 0 4)] w fun e w'=>e=Rt (I J (dec t 0 4))/\w'=w):=fun w=>Dn _ w (by rw[ot];omega) (sk HG hs 0 4 O);have G0:Hi (∀w,Cs prog 168 #[Y (t.extract 4 6)] w fun e w'=>e=Rt (I J (dec t 4 6))/\w'=w):=fun w=>Dn _ w (by rw[ot];omega) (sk HG hs 4 6 O);have GX:Hi (∀w,Cs prog 168 #[Y (t.extract 6 8)] w fun e w'=>e=Rt (I J (dec t 6 8))/\w'=w):=fun w=>Dn _ w (by rw[ot];omega) (sk HG hs 6 8 O);have GY:Hi (∀w,Cs prog 168 #[Y (t.extract 8 10)] w fun e w'=>e=Rt (I J (dec t 8 10))/\w'=w):=fun w=>Dn _ w (by rw[ot];omega) (sk HG hs 8 10 O);have GZ:Hi (∀w,Cs prog 168 #[Y (t.extract 10 12)] w fun e w'=>e=Rt (I J (dec t 10 12))/\w'=w):=fun w=>Dn _ w (by rw[ot];omega) (sk HG hs 10 12 O);have G4:Hi (∀w,Cs prog 168 #[Y (t.extract 12 14)] w fun e w'=>e=Rt (I J (dec t 12 14))/\w'=w):=fun w=>Dn _ w (by rw[ot];omega) (sk HG hs 12 14 O);have HT:Hi _:=Zl hs OW HG;obtain⟨y0,y1⟩:=Ur HG hs 0 4 O O;obtain⟨A5,H6⟩:=sg (oj HG hs 4 O).1;(have ZN:A5<100:=by have:=(oj HG hs 4 O).2;omega);rw[H6]at G0 HT;obtain⟨FF,G9⟩:=sg (oj HG hs 6 O).1;(have ZM:FF<100:=by have:=(oj HG hs 6 O).2;omega);rw[G9]at GX HT;obtain⟨C8,H3⟩:=sg (oj HG hs 8 O).1;(have lHo:C8<100:=by have:=(oj HG hs 8 O).2;omega);rw[H3]at GY HT;obtain⟨C9,H5⟩:=sg (oj HG hs 10 O).1;(have lMi:C9<100:=by have:=(oj HG hs 10 O).2;omega);rw[H5]at GZ HT;obtain⟨yZ,H7⟩:=sg (oj HG hs 12 O).1;(have lSe:yZ<100:=by have:=(oj HG hs 12 O).2;omega);rw[H7]at G4 HT;generalize dec t 0 4=vY at PY HT y0 y1;clear HG hs H6 G9 H3 H5 H7;go_wp2_with fail;refine gd (PY _) ?_;rintro e w2 ⟨rfl,rfl⟩;go_wp2_with fail;refine gd (G0 _) ?_;rintro e w3 ⟨rfl,rfl⟩;go_wp2_with fail;refine gd (GX _) ?_;rintro e w4 ⟨rfl,rfl⟩;go_wp2_with fail
   all_goals first
    |(go_ret
      refine ie (fun h=>?_) (uQ eQ 0)
      have hd:=(HT.1 h).1
      have hl:=Wh vY A5
      unfold vg at hd
      go_light
      simp only[jq,lf,ln,qj,ne_eq]at*
      omega)
    |(have HY:Hi (vg vY A5 FF):=by
       have hl:=Wh vY A5
       show vg vY A5 FF
       unfold vg
       go_light
       simp only[jq,lf,ln,qj,ne_eq]at*
       omega
      refine gd (GY _) ?_
      rintro e w5 ⟨rfl,rfl⟩
      by_cases g1:C8<24
      ·go_wp2_with fail
       refine gd (GZ _) ?_
       rintro e w6 ⟨rfl,rfl⟩
       by_cases g2:C9<60
       ·go_wp2_with fail
        refine gd (G4 _) ?_
        rintro e w7 ⟨rfl,rfl⟩
        by_cases g3:yZ<60
        ·have HF:Hi (mf t):=HT.2 ⟨HY,O,O,O⟩
         have c1:decide ((yZ:Int)<60)=true:=ch O
         go_wp2_with fail
         go_ret
         exact ru HF (uQ eQ 0)
        ·have HF:Hi (¬mf t):=fun h=>by have:=(HT.1 h).2.2.2;omega
         have c1:decide ((yZ:Int)<60)=false:=br O
         go_wp2_with fail
         go_ret
         exact ie HF (uQ eQ 0)
       ·have HF:Hi (¬mf t):=fun h=>by have:=(HT.1 h).2.2.1;omega
        have c1:decide ((C9:Int)<60)=false:=br O
        go_wp2_with fail
        go_ret
        exact ie HF (uQ eQ 0)
      ·have HF:Hi (¬mf t):=fun h=>by have:=(HT.1 h).2.1;omega
       have c1:decide ((C8:Int)<24)=false:=br O
       go_wp2_with fail
       go_ret
       exact ie HF (uQ eQ 0))
  have AX:((t[14].toNat:Int)!=90)=true:=by rw[ln];exact hz
  have HN:Hi (¬mf t):=fun h=>hz (HZ.trans h.2.1);clear hz;go_enter func126,ntmps126;go_wp2;go_ret;exact ie HN (gh w)
 have JJ:((t.size:Int)!=15)=true:=by rw[ln];omega
 have HN:Hi (¬mf t):=fun h=>hs h.1;clear hs;go_enter func126,ntmps126;go_wp2;go_ret;exact ie HN (gh w)
end
section
open Go.Lib
def bN(t:Q)(i:Nat):Nat:=(t.data.toList.getD i 0).toNat
theorem yj(t:Q)(i:Nat):b8 t i=(bN t i:Int):=rfl
theorem acn(t:Q)(i:Nat):bN t i<256:=(t.data.toList.getD i 0).toNat_lt
theorem Fh(t:Q)(k i:Nat):((t.data.toList.drop k).getD i 0).toNat=bN t (k+i):=by unfold bN;simp[dy,zj]
theorem Di(t:Q)(a lo hi:Nat):goB t a lo hi=true↔a<t.size/\lo<=bN t a/\bN t a<=hi:=by
 unfold goB;rw[ur,yj];omega
def told(c:Nat):Oo Nat:=if c=0 then Z else U c
theorem Qh(p:Prop) [Decidable p](q:Prop) [Decidable q](c:Nat)(hc:c≠0)(h:p↔¬q):(if q then Z else U c)=told (if p then c else 0):=by
 by_cases hq:q;·rw[ba hq,G (fun hp=>(h.1 hp) hq)];rfl
 rw[G hq,ba (h.2 hq)];unfold told;rw[G hc]
theorem ade(t:Q)(k lo hi:Nat)(h0:194<=bN t k)(h1:bN t k<224)(hl:oc (b8 t k)=(lo:Int))(hh:oa (b8 t k)=(hi:Int)):checkN (t.size-k) (bN t (k+1)) (bN t (k+2)) (bN t (k+3)) 2 lo hi=told (chr t k):=by
 rw[Ui t k lo hi (by rw[yj];omega) (by rw[yj];omega) hl hh];unfold checkN;rw[ba rfl];refine Qh _ _ 2 O ?_;rw[Di];omega
theorem Iu(t:Q)(k lo hi:Nat)(h0:224<=bN t k)(h1:bN t k<240)(hl:oc (b8 t k)=(lo:Int))(hh:oa (b8 t k)=(hi:Int)):checkN (t.size-k) (bN t (k+1)) (bN t (k+2)) (bN t (k+3)) 3 lo hi=told (chr t k):=by
 rw[Fk t k lo hi (by rw[yj];omega) (by rw[yj];omega) hl hh];unfold checkN;rw[G O,ba rfl];refine Qh _ _ 3 O ?_;rw[Di,show((128:Int)=((128:Nat):Int))from X,show((191:Int)=((191:Nat):Int))from X,Di];omega
theorem Ns(t:Q)(k lo hi:Nat)(h0:240<=bN t k)(h1:bN t k<245)(hl:oc (b8 t k)=(lo:Int))(hh:oa (b8 t k)=(hi:Int)):checkN (t.size-k) (bN t (k+1)) (bN t (k+2)) (bN t (k+3)) 4 lo hi=told (chr t k):=by
 rw[Iw t k lo hi (by rw[yj];omega) (by rw[yj];omega) hl hh];unfold checkN;rw[G O,G O,ba rfl];refine Qh _ _ 4 O ?_;rw[Di,show((128:Int)=((128:Nat):Int))from X,show((191:Int)=((191:Nat):Int))from X,Di,Di];omega
theorem adf(t:Q)(k:Nat)(h:128<=bN t k):checkN (t.size-k) (bN t (k+1)) (bN t (k+2)) (bN t (k+3)) (firstT (bN t k)%8) (accLo (firstT (bN t k)/16)) (accHi (firstT (bN t k)/16))=told (chr t k):=by
 have key:∀x sz lo hi,firstT (bN t k)=x->x%8=sz->accLo (x/16)=lo->accHi (x/16)=hi->checkN (t.size-k) (bN t (k+1)) (bN t (k+2)) (bN t (k+3)) sz lo hi=told (chr t k)->
  checkN (t.size-k) (bN t (k+1)) (bN t (k+2)) (bN t (k+3)) (firstT (bN t k)%8) (accLo (firstT (bN t k)/16)) (accHi (firstT (bN t k)/16))=told (chr t k):=fun x sz lo hi e0 e1 e2 e3 he=>by
  rw[e0,e1,e2,e3];exact he
 have hb:=acn t k;have e8:=yj t k;have FE:¬bN t k<128:=O;have zL:firstT (bN t k)=241->chr t k=0->checkN (t.size-k) (bN t (k+1)) (bN t (k+2)) (bN t (k+3)) (firstT (bN t k)%8) (accLo (firstT (bN t k)/16)) (accHi (firstT (bN t k)/16))=told (chr t k):=fun e0 ec=>by rw[e0,ec];rfl
 by_cases c0:bN t k<194;·exact zL (by unfold firstT;rw[G FE,ba c0]) (Iv t k (.inl (by rw[e8];omega)))
 by_cases c1:bN t k<224;·exact key 2 2 128 191 (by unfold firstT;rw[G FE,G c0,ba c1]) Dc Dc Dc (ade t k 128 191 O c1 (by rw[e8];unfold oc;rw[G O,G O];rfl) (by rw[e8];unfold oa;rw[G O,G O];rfl))
 by_cases c2:bN t k=224;·exact key 19 3 160 191 (by rw[c2];decide) Dc Dc Dc (Iu t k 160 191 O O (by rw[e8,c2];decide) (by rw[e8,c2];decide))
 by_cases c3:bN t k<237;·exact key 3 3 128 191 (by unfold firstT;rw[G FE,G c0,G c1,G c2,ba c3]) Dc Dc Dc (Iu t k 128 191 O O (by rw[e8];unfold oc;rw[G O,G O];rfl) (by rw[e8];unfold oa;rw[G O,G O];rfl))
 by_cases c4:bN t k=237;·exact key 35 3 128 159 (by rw[c4];decide) Dc Dc Dc (Iu t k 128 159 O O (by rw[e8,c4];decide) (by rw[e8,c4];decide))
 by_cases c5:bN t k<240;·exact key 3 3 128 191 (by unfold firstT;rw[G FE,G c0,G c1,G c2,G c3,G c4,ba c5]) Dc Dc Dc (Iu t k 128 191 O O (by rw[e8];unfold oc;rw[G O,G O];rfl) (by rw[e8];unfold oa;rw[G O,G O];rfl))
 by_cases c6:bN t k=240;·exact key 52 4 144 191 (by rw[c6];decide) Dc Dc Dc (Ns t k 144 191 O O (by rw[e8,c6];decide) (by rw[e8,c6];decide))
 by_cases c7:bN t k<244;·exact key 4 4 128 191 (by unfold firstT;rw[G FE,G c0,G c1,G c2,G c3,G c4,G c5,G c6,ba c7]) Dc Dc Dc (Ns t k 128 191 O O (by rw[e8];unfold oc;rw[G O,G O];rfl) (by rw[e8];unfold oa;rw[G O,G O];rfl))
 by_cases c8:bN t k=244;·exact key 68 4 128 143 (by rw[c8];decide) Dc Dc Dc (Ns t k 128 143 O O (by rw[e8,c8];decide) (by rw[e8,c8];decide))
 exact zL (by unfold firstT;rw[G FE,G c0,G c1,G c2,G c3,G c4,G c5,G c6,G c7,G c8]) (Iv t k (.inr (by rw[e8];omega)))
theorem Gu(t:Q):t.data.toList.length=t.size:=ri
theorem aiY(t:Q)(k:Nat)(hk:k<t.size):validD (t.data.toList.drop k)=if chr t k=0 then false else validD (t.data.toList.drop (k+chr t k)):=by
 have bP:(t.data.toList.drop k).length=t.size-k:=by rw[ug,Gu]
 have aI:t.data.toList.drop k≠ []:=fun e=>by rw[e]at bP;simp at bP;omega
 by_cases h:bN t k<128;·have hc:=Uh t k (by rw[yj];omega);(have eI:k<t.data.toList.length:=by rw[Gu];exact hk);rw[hc,G O,Hu eI,validD_cons];(have:bN t k=t.data.toList[k].toNat:=by unfold bN;rw[dy,dz eI];rfl);omega
 rw[validD_lead _ aI (by rw[Fh];show 128<=bN t k;omega),bP,Fh,Fh,Fh,Fh]
 show(match checkN (t.size-k) (bN t (k+1)) (bN t (k+2)) (bN t (k+3)) (firstT (bN t k)%8) (accLo (firstT (bN t k)/16)) (accHi (firstT (bN t k)/16))with
  |none=>false
  |some j=>validD ((t.data.toList.drop k).drop j))=_
 rw[adf t k O];unfold told;by_cases hc:chr t k=0;·rw[ba hc,ba hc]
 rw[G hc,G hc];show validD ((t.data.toList.drop k).drop (chr t k))=_;rw[List.drop_drop]
theorem Zt(t:Q):∀(n k:Nat),t.size-k<=n->k<=t.size->(Cy t k↔validD (t.data.toList.drop k)=true)
 |n,k,hn,hk=>by
  by_cases he:k=t.size
  ·have:t.data.toList.drop k=[]:=Av (by rw[Gu];omega)
   rw[this,validD_nil]
   exact⟨fun _=>rfl,fun _=>Zr t k O⟩
  ·have eI:k<t.size:=O
   rw[Zs t k eI,aiY t k eI]
   by_cases hc:chr t k=0
   ·rw[ba hc]
    exact⟨fun h=>Ab hc h.1,fun h=>by cases h⟩
   ·rw[G hc]
    match n,hn with
    |0,hn=>omega
    |n+1,hn=>
     have ih:=Zt t n (k+chr t k) O (Uj t k eI)
     exact⟨fun h=>ih.1 h.2,fun h=>⟨hc,ih.2 h⟩⟩
theorem aiU(t:Q):yh t↔validD t.data.toList=true:=by
 have:=Zt t t.size 0 O O;rw[Aw]at this;exact this
end
section
open Go.Proofs.Tryz
open Go.RowKit
def vf(t:Q):Prop:=t.size=1/\(b8 t 0=0\/b8 t 0=255)
theorem Oh(t:Q):t.toList.isEmpty=true↔t.size=0:=by rw[Lib.toList_data,List.isEmpty_iff,<-List.length_eq_zero_iff,Gu]
theorem Tn(t:Q):vf t↔t.toList=[0]\/t.toList=[255]:=by
 unfold vf b8;rw[Lib.toList_data,<-Gu];generalize t.data.toList=l
 match l with
 | []=>simp
 | [x]=>
   have h0:((x.toNat:Int)=0↔x=0):=⟨fun h=>UInt8.toNat_inj.1 (by show x.toNat=0;omega),fun h=>by rw[h];rfl⟩
   have h1:((x.toNat:Int)=255↔x=255):=⟨fun h=>UInt8.toNat_inj.1 (by show x.toNat=255;omega),fun h=>by rw[h];rfl⟩
   show([x].length=1/\((x.toNat:Int)=0\/(x.toNat:Int)=255))↔_
   rw[h0,h1]
   simp
 |_::_::_=>simp
theorem aft(t:Q)(w:M):Cs prog 108 #[I J 1,Y t] w fun e w'=>gz (vf t) w e w':=by
 go_enter func108,ntmps108;by_cases h1:t.size=1
 ·have e0:=gq t 0 O;have HB:Hi (vf t↔(t[0].toNat:Int)=0\/(t[0].toNat:Int)=255):=by show vf t↔_;rw[e0];exact⟨fun h=>h.2,fun h=>⟨h1,h⟩⟩
  clear e0;by_cases h2:(t[0].toNat:Int)=0;·have HY:Hi (vf t):=HB.2 (.inl h2);go_wp2;go_ret;exact ru HY (gh w)
  go_wp2;go_ret;refine od (Iff.trans ?_ HB.symm) (gh w);rw[xq,jq,jq]
 have HN:Hi (¬vf t):=fun h=>h1 h.1;go_wp2;go_ret;exact ie HN (gh w)
theorem afu(t:Q)(w:M)(hm:t.size<=9223372036854775807):Cs prog 108 #[I J 2,Y t] w fun e w'=>gz (pe t) w e w':=by
 go_enter func108,ntmps108;go_wp2_with fail;refine(Vt t _ hm).mono ?_;rintro e w2 ⟨r,rfl,(HR:Hi _),(HD:Hi _)⟩;go_wp2_with fail;go_ret;exact od HR HD
theorem afv(t:Q)(w:M):Cs prog 108 #[I J 3,Y t] w fun e w'=>gz (t.size=0) w e w':=by
 go_enter func108,ntmps108;go_wp2;go_ret;exact od (Oh t) (gh w)
theorem afw(t:Q)(w:M)(hm:t.size<=9223372036854775807):Cs prog 108 #[I J 4,Y t] w fun e w'=>gz (nf t) w e w':=by
 go_enter func108,ntmps108;go_wp2_with fail;refine(Vu t _ hm).mono ?_;rintro e w2 ⟨r,rfl,(HR:Hi _),(HD:Hi _)⟩;go_wp2_with fail;go_ret;exact od HR HD
theorem afx(t:Q)(w:M)(hm:t.size<=9223372036854775807):Cs prog 108 #[I J 5,Y t] w fun e w'=>gz (qo t) w e w':=by
 go_enter func108,ntmps108;go_wp2_with fail;refine(Vq t _ hm).mono ?_;rintro e w2 ⟨r,rfl,(HR:Hi _),(HD:Hi _)⟩;go_wp2_with fail;go_ret;exact od HR HD
theorem afy(t:Q)(w:M):Cs prog 108 #[I J 6,Y t] w fun e w'=>gz True w e w':=by
 go_enter func108,ntmps108;go_wp2;go_ret;exact ru trivial (gh w)
theorem afz(t:Q)(w:M)(hm:t.size<=140737488355328):Cs prog 108 #[I J 7,Y t] w fun e w'=>gz (yh t) w e w':=by
 go_enter func108,ntmps108;go_wp2_with fail;refine(Vx t _ hm).mono ?_;rintro e w2 ⟨r,rfl,(HR:Hi _),(HD:Hi _)⟩;go_wp2_with fail;go_ret;exact od HR HD
theorem afA(t:Q)(w:M)(hm:t.size<=9223372036854775807):Cs prog 108 #[I J 8,Y t] w fun e w'=>gz (wh t) w e w':=by
 go_enter func108,ntmps108;go_wp2_with fail;refine(Oq t _ hm).mono ?_;rintro e w2 ⟨r,rfl,(HR:Hi _),(HD:Hi _)⟩;go_wp2_with fail;go_ret;exact od HR HD
theorem afB(t:Q)(w:M)(hm:t.size<=9223372036854775807):Cs prog 108 #[I J 9,Y t] w fun e w'=>gz (mf t) w e w':=by
 go_enter func108,ntmps108;go_wp2_with fail;refine(Ot t _ hm).mono ?_;rintro e w2 ⟨r,rfl,(HR:Hi _),(HD:Hi _)⟩;go_wp2_with fail;go_ret;exact od HR HD
theorem afC(k:Int)(t:Q)(w:M)(hk:k<1\/9<k):Cs prog 108 #[I J k,Y t] w fun e w'=>gz False w e w':=by
 go_enter func108,ntmps108;have g:∀c:Int,1<=c->c<=9->(k==c)=false:=fun c h1 h2=>by rw[lf];omega
 have g1:=g 1 O O;have g2:=g 2 O O;have g3:=g 3 O O;have g4:=g 4 O O;have g5:=g 5 O O;have g6:=g 6 O O;have g7:=g 7 O O;have g8:=g 8 O O;have g9:=g 9 O O;clear g;go_wp2;go_ret;exact ie id (gh w)
theorem adU(t:Q)(w:M)(hm:t.size<=9223372036854775807):Cs prog 138 #[I J 2,Y t] w fun e w'=>gz (pe t) w e w':=by
 go_enter func138,ntmps138;go_wp2_with fail;refine(adP t _ hm).mono ?_;rintro e w2 ⟨r,rfl,(HR:Hi _),(HD:Hi _)⟩;go_wp2_with fail;go_ret;exact od HR HD
theorem adW(t:Q)(w:M)(hm:t.size<=9223372036854775807):Cs prog 138 #[I J 4,Y t] w fun e w'=>gz (nf t) w e w':=by
 go_enter func138,ntmps138;go_wp2_with fail;refine(adQ t _ hm).mono ?_;rintro e w2 ⟨r,rfl,(HR:Hi _),(HD:Hi _)⟩;go_wp2_with fail;go_ret;exact od HR HD
theorem adX(t:Q)(w:M)(hm:t.size<=9223372036854775807):Cs prog 138 #[I J 5,Y t] w fun e w'=>gz (qo t) w e w':=by
 go_enter func138,ntmps138;go_wp2_with fail;refine(adO t _ hm).mono ?_;rintro e w2 ⟨r,rfl,(HR:Hi _),(HD:Hi _)⟩;go_wp2_with fail;go_ret;exact od HR HD
theorem ad0(t:Q)(w:M)(hm:t.size<=9223372036854775807):Cs prog 138 #[I J 8,Y t] w fun e w'=>gz (wh t) w e w':=by
 go_enter func138,ntmps138;go_wp2_with fail;refine(adR t _ hm).mono ?_;rintro e w2 ⟨r,rfl,(HR:Hi _),(HD:Hi _)⟩;go_wp2_with fail;go_ret;exact od HR HD
theorem ad1(t:Q)(w:M)(hm:t.size<=9223372036854775807)(hD:sf w):Cs prog 138 #[I J 9,Y t] w fun e w'=>gz (mf t) w e w':=by
 go_enter func138,ntmps138;go_wp2_with fail;refine(adS t _ hm hD).mono ?_;rintro e w2 ⟨r,rfl,(HR:Hi _),(HD:Hi _)⟩;go_wp2_with fail;go_ret;exact od HR HD
theorem adV(t:Q)(w:M):Cs prog 138 #[I J 3,Y t] w fun e w'=>gz (t.size=0) w e w':=by
 go_enter func138,ntmps138;go_wp2;go_ret;exact od (Oh t) (gh w)
theorem adY(t:Q)(w:M):Cs prog 138 #[I J 6,Y t] w fun e w'=>gz True w e w':=by
 go_enter func138,ntmps138;go_wp2;go_ret;exact ru trivial (gh w)
theorem ad2(k:Int)(t:Q)(w:M)(hk:k<1\/9<k):Cs prog 138 #[I J k,Y t] w fun e w'=>gz False w e w':=by
 go_enter func138,ntmps138;have g:∀c:Int,1<=c->c<=9->(k==c)=false:=fun c h1 h2=>by rw[lf];omega
 have g1:=g 1 O O;have g2:=g 2 O O;have g3:=g 3 O O;have g4:=g 4 O O;have g5:=g 5 O O;have g6:=g 6 O O;have g7:=g 7 O O;have g8:=g 8 O O;have g9:=g 9 O O;clear g;go_wp2;go_ret;exact ie id (gh w)
theorem adT(t:Q)(w:M):Cs prog 138 #[I J 1,Y t] w fun e w'=>gz (vf t) w e w':=by
 go_enter func138,ntmps138;by_cases h0:t.toList=[0];·have HY:Hi _:=(Tn t).2 (.inl h0);go_wp2;go_ret;exact ru HY (gh w)
 go_wp2;go_ret;refine od (Iff.trans ?_ (Tn t).symm) (gh w);rw[xq,jq,jq]
end
