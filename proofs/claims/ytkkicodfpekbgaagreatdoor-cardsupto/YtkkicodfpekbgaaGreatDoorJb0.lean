/-
Several texts in one.
-/
import Derived.Test.YtkkicodfpekbgaaGreatDoorJa1
import Derived.Test.YtkkicodfpekbgaaGreatDoorJa0
open Go.Value renaming int->I,string->Y,slice->S,pointer->Po,bool->Bo,agg->Ag,tuple->Tu,iface->If
open Go.IntKind renaming i64->J
open Go.Obj renaming cells->C
open Go.Ending renaming returned->Rt
open Option renaming some->U,none->Z
open Go renaming World->M,Calls->Cs,Addr->Ad,Value->Vv
open _root_ renaming ByteArray->Q,List->Ls
open Go.RowKit renaming Below->H,intOf->Io,Hid->Hi
open Go.World renaming cell?->Wc
open UInt8 renaming ofNat->Uo
open Go.Addr renaming mk->D
set_option linter.unusedSimpArgs false
set_option linter.unusedVariables false
set_option maxRecDepth 100000
set_option maxHeartbeats 8000000
namespace Go.Proofs.YtkkicodfpekbgaaGreatDoor
open Go.Proofs.Tryz
open Go.RowKit
theorem De(t:Q)(w:M)(sn:Sn->Ad)(hs:dC w sn)(ht:t.size=0):Cs prog 186 #[Y t] w fun e w'=>e=Rt (Tu #[I J 0,I J 0,If 291 (Po (U (sn .End)))])/\H w.heap.size w w':=by
 have h0:=hs.cE;have he:=gJ ht;clear hs;go_enter func186,ntmps186;go_wp2;go_quiet (fail);go_wp2;go_ret3;exact⟨X,Go.below_drewN By _⟩
theorem Df(t:Q)(w:M)(h:0<t.size)(_hm:t.size<=9223372036854775807)(hb:(t[0].toNat:Int)<128):Cs prog 186 #[Y t] w fun e w'=>e=Rt (Tu #[I J 1,I J (t[0].toNat:Int),.nilIface])/\H w.heap.size w w':=by
 have he:=dR h;go_enter func186,ntmps186;go_wp2;go_quiet (fail);go_wp2;go_ret3;exact⟨X,Go.below_drewN By _⟩
theorem Gl(t:Q)(w:M)(sn:Sn->Ad)(hs:dC w sn)(h:0<t.size)(_hm:t.size<=9223372036854775807)(hb:128<=(t[0].toNat:Int))(hc:(t[0].toNat:Int)=128\/131<(t[0].toNat:Int)):Cs prog 186 #[Y t] w fun e w'=>e=Rt (Tu #[I J 0,I J 0,If 291 (Po (U (sn .Length)))])/\H w.heap.size w w':=by
 have h2:=hs.cL;have he:=dR h;have hx:(t[0].toNat:Int)<256:=by have:=t[0].toNat_lt;omega
 clear hs;by_cases hz:(t[0].toNat:Int)-128=0
 ·have hz1:((t[0].toNat:Int)-128==0)=true:=bV.2 hz;clear hc hz;go_enter func186,ntmps186;go_wp2;go_quiet (fail);go_wp2;go_ret3;exact⟨X,Go.below_drewN By _⟩
 have hz1:((t[0].toNat:Int)-128==0)=false:=aD.2 hz;have hz2:3<(t[0].toNat:Int)-128:=O;clear hc hz;go_enter func186,ntmps186;go_wp2;go_quiet (fail);go_wp2;go_ret3;exact⟨X,Go.below_drewN By _⟩
theorem Gm(t:Q)(w:M)(sn:Sn->Ad)(hs:dC w sn)(h:0<t.size)(_hm:t.size<=9223372036854775807)(hb:128<(t[0].toNat:Int))(hc:(t[0].toNat:Int)<=131)(hl:(t.size:Int)<=(t[0].toNat:Int)-128):Cs prog 186 #[Y t] w fun e w'=>e=Rt (Tu #[I J 0,I J 0,If 291 (Po (U (sn .End)))])/\H w.heap.size w w':=by
 have h2:=hs.cE;have he:=dR h;have hz1:((t[0].toNat:Int)-128==0)=false:=aD.2 O;have hz2:(t[0].toNat:Int)-128<=3:=O;clear hs;go_enter func186,ntmps186;go_wp2;go_quiet (fail);go_wp2;go_ret3;exact⟨X,Go.below_drewN By _⟩
theorem Gg{a b c d:Int}{v:Vv}(h1:a=c)(h2:b=d):Ending.returned (Tu #[I J a,I J b,v])=Rt (Tu #[I J c,I J d,v]):=by rw[h1,h2]
theorem Hk(t:Q)(w:M)(sn:Sn->Ad)(c:Nat)(hs:dC w sn)(h:0<t.size)(hm:t.size<=9223372036854775807)(hb1:(t[0].toNat:Int)-128<=c)(hb2:c<=(t[0].toNat:Int)-128)(h1:1<=c)(h3:c<=3)(hl:c<t.size)(hq:(c:Int)=cnt (bH t c)):Cs prog 186 #[Y t] w fun e w'=>e=Rt (Tu #[I J (1+c),I J (bH t c),.nilIface])/\H w.heap.size w w':=by
 have h2:=hs.cL;have he:=dR h;have hz1:((t[0].toNat:Int)-128==0)=false:=aD.2 O;have hz2:(t[0].toNat:Int)-128<=3:=O;have HQ:Hi _:=hq;clear hs hq;go_enter func186,ntmps186;go_wp2;go_loop [3,6] (fun n i=>∃k:Nat,1<=k/\k<=c+1/\i=I J k/\n=I J (bH t (k-1))) (fun _ i=>c+1-(Io i).toNat);case atStart=>exact⟨1,O,O,X,X⟩
 obtain⟨k,hk1,hk,rfl,rfl⟩:=hrel;have hn:=gy t (k-1);have hn0:0<=bH t (k-1):=hn.1;have hn1:bH t (k-1)<16777216:=hn.2.1 O;clear hn;by_cases hlt:k<=c
 ·have hk2:k<t.size:=O;have hbk:=gu t k;have HE:Hi _:=cH t k hk2;have HN:Hi (bH t k=bH t (k-1)*256+b8 t k):=by obtain⟨j,rfl⟩:∃j,k=j+1:=⟨k-1,O⟩;rfl
  go_wp2;go_round;case rel=>exact⟨k+1,O,O,Gn,by rw[HE,BR _ ⟨O,O⟩,zO _ _ O O O O O,fy,HN.out]⟩
  case measure=>exact Ms
 have hkc:k=c+1:=O;subst hkc;simp only[fy]at hn0 hn1 ⊢;have HX:Hi ((t[0].toNat:Int)-128=c):=by show _=_;omega
 rcases cnt_cases (bH t c)with⟨r1,r3⟩|⟨r1,r2,r3⟩|⟨r1,r2,r3⟩|⟨r1,r3⟩
 ·have:=HQ.out;omega
 ·have hbq:((t[0].toNat:Int)-128!=1)=false:=by rw[bK];have:=HQ.out;omega
  clear r3;go_wp2;go_ret3;exact⟨Gg (by rw[HX.out]) X,By⟩
 ·have hbq:((t[0].toNat:Int)-128!=2)=false:=by rw[bK];have:=HQ.out;omega
  clear r3;go_wp2;go_ret3;exact⟨Gg (by rw[HX.out]) X,By⟩
 have hbq:((t[0].toNat:Int)-128!=3)=false:=by rw[bK];have:=HQ.out;omega
 clear r3;go_wp2;go_ret3;exact⟨Gg (by rw[HX.out]) X,By⟩
theorem Hj(t:Q)(w:M)(sn:Sn->Ad)(c:Nat)(hs:dC w sn)(h:0<t.size)(hm:t.size<=9223372036854775807)(hb1:(t[0].toNat:Int)-128<=c)(hb2:c<=(t[0].toNat:Int)-128)(h1:1<=c)(h3:c<=3)(hl:c<t.size)(hq:¬(c:Int)=cnt (bH t c)):Cs prog 186 #[Y t] w fun e w'=>e=Rt (Tu #[I J 0,I J 0,If 291 (Po (U (sn .Length)))])/\H w.heap.size w w':=by
 have h2:=hs.cL;have he:=dR h;have hz1:((t[0].toNat:Int)-128==0)=false:=aD.2 O;have hz2:(t[0].toNat:Int)-128<=3:=O;have HQ:Hi (¬(c:Int)=cnt (bH t c)):=hq;clear hs hq;go_enter func186,ntmps186;go_wp2;go_loop [3,6] (fun n i=>∃k:Nat,1<=k/\k<=c+1/\i=I J k/\n=I J (bH t (k-1))) (fun _ i=>c+1-(Io i).toNat);case atStart=>exact⟨1,O,O,X,X⟩
 obtain⟨k,hk1,hk,rfl,rfl⟩:=hrel;have hn:=gy t (k-1);have hn0:0<=bH t (k-1):=hn.1;have hn1:bH t (k-1)<16777216:=hn.2.1 O;clear hn;by_cases hlt:k<=c
 ·have hk2:k<t.size:=O;have hbk:=gu t k;have HE:Hi ((t[k].toNat:Int)=b8 t k):=cH t k hk2;have HN:Hi (bH t k=bH t (k-1)*256+b8 t k):=by obtain⟨j,rfl⟩:∃j,k=j+1:=⟨k-1,O⟩;rfl
  go_wp2;go_round;case rel=>exact⟨k+1,O,O,Gn,by rw[HE,BR _ ⟨O,O⟩,zO _ _ O O O O O,fy,HN.out]⟩
  case measure=>exact Ms
 have hkc:k=c+1:=O;subst hkc;simp only[fy]at hn0 hn1 ⊢;have HX:Hi ((t[0].toNat:Int)-128=c):=by show _=_;omega
 rcases cnt_cases (bH t c)with⟨r1,r3⟩|⟨r1,r2,r3⟩|⟨r1,r2,r3⟩|⟨r1,r3⟩
 ·have hbq:((t[0].toNat:Int)-128!=0)=true:=by rw[ct];have:=HQ.out;omega
  clear r3;go_wp2;go_quiet (fail);go_wp2;go_ret3;exact⟨X,Go.below_drewN By _⟩
 ·have hbq:((t[0].toNat:Int)-128!=1)=true:=by rw[ct];have:=HQ.out;omega
  clear r3;go_wp2;go_quiet (fail);go_wp2;go_ret3;exact⟨X,Go.below_drewN By _⟩
 ·have hbq:((t[0].toNat:Int)-128!=2)=true:=by rw[ct];have:=HQ.out;omega
  clear r3;go_wp2;go_quiet (fail);go_wp2;go_ret3;exact⟨X,Go.below_drewN By _⟩
 have hbq:((t[0].toNat:Int)-128!=3)=true:=by rw[ct];have:=HQ.out;omega
 clear r3;go_wp2;go_quiet (fail);go_wp2;go_ret3;exact⟨X,Go.below_drewN By _⟩
def wT(sn:Sn->Ad)(c:Int):Vv:=if c=0 then .nilIface else if c=3 then If 291 (Po (U (sn .End)))else If 291 (Po (U (sn .Length)))
theorem rh(t:Q)(w:M)(sn:Sn->Ad)(hs:dC w sn)(hm:t.size<=9223372036854775807):Cs prog 186 #[Y t] w fun e w'=>e=Rt (Tu #[I J (rl t).2.1,I J (rl t).2.2,wT sn (rl t).1])/\H w.heap.size w w':=by
 unfold rl;split
 ·rename_i h;exact De t w sn hs h
 rename_i h;have h:0<t.size:=O;have hb:=gu t 0;have e0:=cH t 0 h;split
 ·rename_i h1;have:=Df t w h hm O;rw[e0]at this;exact this
 split
 ·rename_i h1;exact Gl t w sn hs h hm O O
 split
 ·exact Gm t w sn hs h hm O O O
 rename_i h1 h2 h3;obtain⟨c,hc⟩:=bI (show 0<=b8 t 0-128 by omega);rw[hc,br];split
 ·rename_i h4;exact Hj t w sn c hs h hm O O O O O h4
 rename_i h4;exact Hk t w sn c hs h hm O O O O O O
theorem kf(t:Q)(w:M)(sn:Sn->Ad)(c z1 z2:Int)(v:Vv)(hs:dC w sn)(hm:t.size<=9223372036854775807)(h:rl t=(c,z1,z2))(hv:wT sn c=v):Cs prog 186 #[Y t] w fun e w'=>e=Rt (Tu #[I J z1,I J z2,v])/\H w.heap.size w w':=by
 have:=rh t w sn hs hm;rw[h]at this;rw[<-hv];exact this
def hv(h:Hd):Vv:=Ag #[I J h.c,Bo h.b,I J h.n,I J h.s,I J h.l]
theorem oA{B:Nat}{w w1:M}(h:H B w w1)(b:Nat)(hb:B<=b)(v0 v1 v2 v3 v4:Vv):
 H B w (((((w1.setCell (D b 0 Z) v0).setCell (D b 1 Z) v1).setCell (D b 2 Z) v2).setCell (D b 3 Z) v3).setCell (D b 4 Z) v4):=
 ((((h.setCell (p:=D b 0 Z) hb v0).setCell (p:=D b 1 Z) hb v1).setCell (p:=D b 2 Z) hb v2).setCell (p:=D b 3 Z) hb v3).setCell (p:=D b 4 Z) hb v4
theorem C3(s:Q)(p:Nat)(w:M)(sn:Sn->Ad)(hs:dC w sn)(_hm:s.size<=9223372036854775807)(hp:p<=s.size)(hz:(s.extract p s.size).size=0):Cs prog 156 #[Y s,I J p] w fun e w'=>e=Rt (Tu #[hv .zero,aX p (sn .End)])/\H w.heap.size w w':=by
 have h0:=hs.cE;have h0':=kZ hs.cE;have he:=gJ hz;clear hs;unfold aX hv Hd.zero;go_enter func156,ntmps156;go_wp2;exact aS (v:=Tu #[Ag #[I J 0,Bo false,I J 0,I J 0,I J 0],If 155 (Ag #[I J p,If 291 (Po (U (sn .End)))])]) (by simp[results,results156,go_sem]) X ⟨X,Be⟩
theorem Gf(s:Q)(p:Nat)(w:M)(sn:Sn->Ad)(hs:dC w sn)(_hm:s.size<=9223372036854775807)(hp:p<=s.size)(hz:0<(s.extract p s.size).size)(hpos:0<s.size-p)(hx1:((s.extract p s.size)[0].toNat:Int)<256)(hx2:30<bits .and J ((s.extract p s.size)[0].toNat:Int) 31):Cs prog 156 #[Y s,I J p] w fun e w'=>e=Rt (Tu #[hv .zero,aX p (sn .Tag)])/\H w.heap.size w w':=by
 have h1:=hs.cT;have h1':=kZ hs.cT;have he:=dR hz;clear hs;unfold aX hv Hd.zero;go_enter func156,ntmps156;go_wp2;exact aS (v:=Tu #[Ag #[I J 0,Bo false,I J 0,I J 0,I J 0],If 155 (Ag #[I J p,If 291 (Po (U (sn .Tag)))])]) (by simp[results,results156,go_sem]) X ⟨X,Be⟩
theorem C4(s:Q)(p:Nat)(w:M)(sn:Sn->Ad)(z1 z2:Int)(hs:dC w sn)(hm:s.size<=9223372036854775807)(hp:p<=s.size)(hz:0<(s.extract p s.size).size)(hpos:0<s.size-p)(hx1:((s.extract p s.size)[0].toNat:Int)<256)(hx2:bits .and J ((s.extract p s.size)[0].toNat:Int) 31<=30)(c:Int)(a:Ad)(hw:rl ((s.extract p s.size).extract 1 (s.size-p))=(c,z1,z2))(hv':wT sn c=(If 291 (Po (U a)))):Cs prog 156 #[Y s,I J p] w fun e w'=>e=Rt (Tu #[hv .zero,aX p a])/\H w.heap.size w w':=by
 have HW:Hi _:=hw;have HV:Hi _:=hv';clear hw hv';have HS:Hi _:=hs;have he:=dR hz;clear hs;unfold aX hv Hd.zero;go_enter func156,ntmps156;go_wp2_with fail;refine(kf _ _ sn c z1 z2 (If 291 (Po (U a))) (HS.below Be) So HW HV).mono ?_;rintro e w1 ⟨rfl,hb⟩;obtain⟨hc,hf⟩:=mN hb;have hz':w.heap.size<w1.heap.size:=by have:=hb.size;simp at this;omega
 have HB:Hi _:=hb;clear hb;go_wp2;refine aS (v:=Tu #[Ag #[I J 0,Bo false,I J 0,I J 0,I J 0],If 155 (Ag #[I J p,If 291 (Po (U a))])]) (by simp[results,results156,go_sem,hc]) X ⟨X,?_⟩;exact oA (((aY w.heap.size w).alloc Ln _).trans (HB.mono Sq)) _ Ln _ _ _ _ _
theorem Ge(s:Q)(p:Nat)(w:M)(sn:Sn->Ad)(z1 z2:Int)(hs:dC w sn)(hm:s.size<=9223372036854775807)(hp:p<=s.size)(hz:0<(s.extract p s.size).size)(hpos:0<s.size-p)(hx1:((s.extract p s.size)[0].toNat:Int)<256)(hx2:bits .and J ((s.extract p s.size)[0].toNat:Int) 31<=30)(hw:rl ((s.extract p s.size).extract 1 (s.size-p))=(0,z1,z2))(b1:0<=z1)(b2:z1<=4)(b3:0<=z2)(b4:z2<16777216)(hl:((s.size-p:Nat):Int)-(z1+1)<z2):Cs prog 156 #[Y s,I J p] w fun e w'=>e=Rt (Tu #[hv .zero,aX p (sn .End)])/\H w.heap.size w w':=by
 have HW:Hi _:=hw;have HV:Hi (wT sn 0= .nilIface):=X;clear hw;have HS:Hi _:=hs;have he:=dR hz;have h0:=hs.cE;have h0':=kZ hs.cE;clear hs;unfold aX hv Hd.zero;go_enter func156,ntmps156;go_wp2_with fail;refine(kf _ _ sn 0 z1 z2 .nilIface (HS.below Be) So HW HV).mono ?_;rintro e w1 ⟨rfl,hb⟩;have h9:=((HS.below Be).below hb).cE;obtain⟨hc,hf⟩:=mN hb;have hz':w.heap.size<w1.heap.size:=by have:=hb.size;simp at this;omega
 have HB:Hi _:=hb;clear hb;go_wp2;refine aS (v:=Tu #[Ag #[I J 0,Bo false,I J 0,I J 0,I J 0],If 155 (Ag #[I J p,If 291 (Po (U (sn .End)))])]) (by simp[results,results156,go_sem,hc]) X ⟨X,?_⟩;exact oA (((aY w.heap.size w).alloc Ln _).trans (HB.mono Sq)) _ Ln _ _ _ _ _
theorem Hf(s:Q)(p:Nat)(w:M)(sn:Sn->Ad)(z1 z2:Int)(hs:dC w sn)(hm:s.size<=9223372036854775807)(hp:p<=s.size)(hz:0<(s.extract p s.size).size)(hpos:0<s.size-p)(hx1:((s.extract p s.size)[0].toNat:Int)<256)(hx2:bits .and J ((s.extract p s.size)[0].toNat:Int) 31<=30)(hw:rl ((s.extract p s.size).extract 1 (s.size-p))=(0,z1,z2))(b1:0<=z1)(b2:z1<=4)(b3:0<=z2)(b4:z2<16777216)(hl:z2<=((s.size-p:Nat):Int)-(z1+1)):Cs prog 156 #[Y s,I J p] w fun e w'=>e=Rt (Tu #[hv ⟨((s.extract p s.size)[0].toNat:Int)/64,bits .and J ((s.extract p s.size)[0].toNat:Int) 32!=0,bits .and J ((s.extract p s.size)[0].toNat:Int) 31,z1+1,z2⟩,.nilIface])/\H w.heap.size w w':=by
 have HW:Hi _:=hw;have HV:Hi (wT sn 0= .nilIface):=X;clear hw;have HS:Hi _:=hs;have he:=dR hz;clear hs;unfold hv;go_enter func156,ntmps156;go_wp2_with fail;refine(kf _ _ sn 0 z1 z2 .nilIface (HS.below Be) So HW HV).mono ?_;rintro e w1 ⟨rfl,hb⟩;obtain⟨hc,hf⟩:=mN hb;have hz':w.heap.size<w1.heap.size:=by have:=hb.size;simp at this;omega
 have HB:Hi _:=hb;clear hb;go_wp2;refine aS (v:=Tu #[Ag #[I J (((s.extract p s.size)[0].toNat:Int)/64),Bo (bits .and J ((s.extract p s.size)[0].toNat:Int) 32!=0),I J (bits .and J ((s.extract p s.size)[0].toNat:Int) 31),I J (z1+1),I J z2],.nilIface]) (by simp[results,results156,go_sem,hc]) X ⟨X,?_⟩;exact oA (((aY w.heap.size w).alloc Ln _).trans (HB.mono Sq)) _ Ln _ _ _ _ _
def iZ(p:Int)(sn:Sn->Ad)(c:Int):Vv:=if c=0 then .nilIface else if c=3 then aX p (sn .End)else if c=4 then aX p (sn .Tag)else aX p (sn .Length)
theorem ri(s:Q)(p:Nat)(w:M)(sn:Sn->Ad)(hs:dC w sn)(hm:s.size<=9223372036854775807)(hp:p<=s.size):Cs prog 156 #[Y s,I J p] w fun e w'=>e=Rt (Tu #[hv (hd (s.extract p s.size)).2,iZ p sn (hd (s.extract p s.size)).1])/\H w.heap.size w w':=by
 have hsz:(s.extract p s.size).size=s.size-p:=Sq;unfold hd;split
 ·rename_i h;exact C3 s p w sn hs hm hp h
 rename_i h;have hz:0<(s.extract p s.size).size:=O;have hpos:0<s.size-p:=O;have hb:=gu (s.extract p s.size) 0;have e0:=cH (s.extract p s.size) 0 hz;have ea:=AQ (b8 (s.extract p s.size) 0) hb.1 hb.2;split
 ·rename_i h1;exact Gf s p w sn hs hm hp hz hpos (by rw[e0];exact hb.2) (by rw[e0,ea];omega)
 rename_i h1;have hx1:((s.extract p s.size)[0].toNat:Int)<256:=by rw[e0];exact hb.2
 have hx2:bits .and J ((s.extract p s.size)[0].toNat:Int) 31<=30:=by rw[e0,ea];omega
 rw[hsz];have hr:=zY ((s.extract p s.size).extract 1 (s.size-p));obtain⟨c,z1,z2,hw⟩:∃c z1 z2,rl ((s.extract p s.size).extract 1 (s.size-p))=(c,z1,z2):=⟨_,_,_,X⟩;rw[hw]at hr ⊢;simp only at hr ⊢;split
 ·rename_i h2;rcases hr.1 with h|h|h
  ·exact Ab h h2
  ·subst h;exact C4 s p w sn z1 z2 hs hm hp hz hpos hx1 hx2 3 (sn .End) hw X
  subst h;exact C4 s p w sn z1 z2 hs hm hp hz hpos hx1 hx2 5 (sn .Length) hw X
 rename_i h2;have h2:c=0:=O;subst h2;split
 ·rename_i h3;exact Ge s p w sn z1 z2 hs hm hp hz hpos hx1 hx2 hw hr.2.1 hr.2.2.1 hr.2.2.2.1 hr.2.2.2.2 h3
 rename_i h3;have:=Hf s p w sn z1 z2 hs hm hp hz hpos hx1 hx2 hw hr.2.1 hr.2.2.1 hr.2.2.2.1 hr.2.2.2.2 O;rw[e0,ea,AR _ hb.1 hb.2]at this;exact this
theorem lQ(s:Q):s.extract 0 s.size=s:=by simp
theorem Hg(s:Q)(w:M)(sn:Sn->Ad)(hs:dC w sn)(hm:s.size<=9223372036854775807):Cs prog 156 #[Y s,I J 0] w fun e w'=>e=Rt (Tu #[hv (hd s).2,iZ 0 sn (hd s).1])/\H w.heap.size w w':=by
 have:=ri s 0 w sn hs hm Lz;rw[lQ]at this;exact this
theorem jv:(prog.info? 5).map (fun i=>(i.zero,i.size,i.bytes))=U (U (I .u8 0),1,1):=Kr
theorem lN{w:M}{B n:Nat}{v:Vv}{l:Ls UInt8}(h:w.ownsRow B 5 1 v n (l.map bv))(hl:l≠ []):(convert 52 9 v).run prog w= .ok (Y ⟨l.toArray⟩) w:=by
 obtain⟨h1,h2⟩:=h;have hn:n=l.length:=by simpa using h1.symm
 subst hn;rcases h2 with⟨_,h0⟩|⟨g,cap,cur,rfl,_,hg,hc,_,hs,ht⟩
 ·exact Ab (List.length_eq_zero_iff.1 h0) hl
 refine sk w 52 9 5 (D g 0 Z) cap l underlying52 underlying5 underlying9 fun j hj=>?_;have e1:((D g 0 Z):Ad).add j=(D g j Z):=by unfold Addr.add;split<;>simp_all
 rw[e1];have e2:w.cell? (D g j Z)=cur[j]? :=by simp[Wc,hg]
 rw[e2];have e3:(cur.toList.take (l.length*1))[j]? =(l.map bv)[j]? :=by rw[ht]
 rw[nv,bR hj,fW,aC hj]at e3;rw[<-rN,e3];rfl
theorem qE(x:Int)(h0:0<=x)(h1:x<256)(w:M):(convert 52 9 (S (U (D w.heap.size 0 Z)) 1 1)).run prog (w.alloc (C #[I .u8 x] 5))= .ok (Y ⟨#[Uo x.toNat]⟩) (w.alloc (C #[I .u8 x] 5)):=by refine lN (B:=0) (n:=1) (l:=[Uo x.toNat]) ⟨Sq,.inr ⟨w.heap.size,1,#[I .u8 x],X,Lz,aA w _,O,Dc,X,?_⟩⟩ Sq;simp[jy x h0 h1]
theorem fX(x:Int)(h0:0<=x)(h1:x<256)(w:M)(k:Nat)(hk:k=w.heap.size):(convert 52 9 (S (U (D k 0 Z)) 1 1)).run prog (w.alloc (C #[I .u8 x] 5))= .ok (Y ⟨#[Uo x.toNat]⟩) (w.alloc (C #[I .u8 x] 5)):=by subst hk;exact qE x h0 h1 w
theorem sE(x:Int)(h0:0<=x)(h1:x<256)(W:M)(k:Nat)(hk:W.cell? (D k 0 Z)=U (I .u8 x)):(convert 52 9 (S (U (D k 0 Z)) 1 1)).run prog W= .ok (Y ⟨#[Uo x.toNat]⟩) W:=by
 refine sk W 52 9 5 (D k 0 Z) 1 [Uo x.toNat] underlying52 underlying5 underlying9 fun j hj=>?_;have:j=0:=by simpa using hj
 subst this;have e1:((D k 0 Z):Ad).add 0=(D k 0 Z):=by unfold Addr.add;split<;>simp_all
 rw[e1,hk];have:=jy x h0 h1;unfold bv at this;simpa using this.symm
theorem nV{a b:Q}(h:a=b):Ending.returned (Y a)=Rt (Y b):=by rw[h]
theorem G5(L:Int)(w:M)(h0:0<=L)(h1:L<128):Cs prog 147 #[I J L] w fun e w'=>e=Rt (Y ⟨#[Uo L.toNat]⟩)/\H w.heap.size w w':=by
 have hc:=fX L h0 O;go_enter func147,ntmps147;go_wp2;go_ret;exact⟨X,Be⟩
theorem G6(L:Int)(w:M)(h0:128<=L)(h1:L<256):Cs prog 147 #[I J L] w fun e w'=>e=Rt (Y ⟨#[129,Uo L.toNat]⟩)/\H w.heap.size w w':=by
 have hc0:=fX (L) O O;have hc1:=fX (L%256) O O;have hc2:=fX (129) O O;go_enter func147,ntmps147;go_wp2;refine eJ 2 ?_;rw[ch];go_wp2;rw[ch];go_wp2;go_ret;refine⟨nV ?_,(((aY w.heap.size w).alloc (by simp;try omega) _).alloc (by simp;try omega) _)⟩;apply bC;simp;rw[show L%256=L by omega]
theorem G7(L:Int)(w:M)(h0:256<=L)(h1:L<65536):Cs prog 147 #[I J L] w fun e w'=>e=Rt (Y ⟨#[130,Uo (L/256).toNat,Uo (L%256).toNat]⟩)/\H w.heap.size w w':=by
 have hc0:=fX (L%256) O O;have hc1:=fX (L/256%256) O O;have hc2:=fX (L/256) O O;have hc3:=fX (130) O O;go_enter func147,ntmps147;go_wp2;refine eJ 3 ?_;rw[ch];go_wp2;rw[ch];go_wp2;rw[ch];go_wp2;go_ret;refine⟨nV ?_,((((aY w.heap.size w).alloc (by simp;try omega) _).alloc (by simp;try omega) _).alloc (by simp;try omega) _)⟩;apply bC;simp;rw[show L/256%256=L/256 by omega]
theorem G8(L:Int)(w:M)(h0:65536<=L)(h1:L<16777216):Cs prog 147 #[I J L] w fun e w'=>e=Rt (Y ⟨#[131,Uo (L/65536).toNat,Uo (L/256%256).toNat,Uo (L%256).toNat]⟩)/\H w.heap.size w w':=by
 have hc0:=fX (L%256) O O;have hc1:=fX (L/256%256) O O;have hc2:=fX (L/256/256%256) O O;have hc3:=fX (L/256/256) O O;have hc4:=fX (131) O O;go_enter func147,ntmps147;go_wp2;refine eJ 4 ?_;rw[ch];go_wp2;rw[ch];go_wp2;rw[ch];go_wp2;rw[ch];go_wp2;go_ret;refine⟨nV ?_,(((((aY w.heap.size w).alloc (by simp;try omega) _).alloc (by simp;try omega) _).alloc (by simp;try omega) _).alloc (by simp;try omega) _)⟩;apply bC;simp;rw[show L/256/256%256=L/65536 by omega]
theorem js(L:Int)(w:M)(h0:0<=L)(h1:L<16777216):Cs prog 147 #[I J L] w fun e w'=>e=Rt (Y ⟨(tl L).toArray⟩)/\H w.heap.size w w':=by
 unfold tl;split
 ·exact G5 L w h0 O
 split
 ·exact G6 L w O O
 split
 ·exact G7 L w O O
 exact G8 L w O O
theorem Da(s:Q)(w:M)(_hm:s.size<=9223372036854775807)(hz:s.size=0):Cs prog 105 #[Y s] w fun e w'=>e=Rt (Tu #[Ag #[I J 0,Bo false,I J 0,I J 0,I J 0],I J 3])/\H w.heap.size w w':=by
 have he:=gJ hz;go_enter func105,ntmps105;go_wp2;exact aS (v:=Tu #[Ag #[I J 0,Bo false,I J 0,I J 0,I J 0],I J 3]) (by simp[results,results105,go_sem]) X ⟨X,((aY w.heap.size w).alloc Ln _).alloc Sq _⟩
theorem Gk(s:Q)(w:M)(hm:s.size<=9223372036854775807)(h1:1<=s.size)(hx1:(s[0].toNat:Int)<256)(hx2:((s[0].toNat:Int)%32==31)=true):Cs prog 105 #[Y s] w fun e w'=>e=Rt (Tu #[Ag #[I J 0,Bo false,I J 0,I J 0,I J 0],I J 4])/\H w.heap.size w w':=by
 have he:=dR (t:=s) O;go_enter func105,ntmps105;go_wp2;exact aS (v:=Tu #[Ag #[I J 0,Bo false,I J 0,I J 0,I J 0],I J 4]) (by simp[results,results105,go_sem]) X ⟨X,((aY w.heap.size w).alloc Ln _).alloc Sq _⟩
theorem Gi(s:Q)(w:M)(hm:s.size<=9223372036854775807)(h1:1<=s.size)(hx1:(s[0].toNat:Int)<256)(hx2:((s[0].toNat:Int)%32==31)=false)(h2:s.size<2):Cs prog 105 #[Y s] w fun e w'=>e=Rt (Tu #[Ag #[I J 0,Bo false,I J 0,I J 0,I J 0],I J 3])/\H w.heap.size w w':=by
 have he:=dR (t:=s) O;go_enter func105,ntmps105;go_wp2;exact aS (v:=Tu #[Ag #[I J 0,Bo false,I J 0,I J 0,I J 0],I J 3]) (by simp[results,results105,go_sem]) X ⟨X,((aY w.heap.size w).alloc Ln _).alloc Sq _⟩
theorem Ew(s:Q)(w:M)(hm:s.size<=9223372036854775807)(h1:1<=s.size)(hx1:(s[0].toNat:Int)<256)(hx2:((s[0].toNat:Int)%32==31)=false)(h2:2<=s.size)(hy:(s[1].toNat:Int)<256)(hn:(s[1].toNat:Int)<128)(hl:(s.size:Int)<2+(s[1].toNat:Int)):Cs prog 105 #[Y s] w fun e w'=>e=Rt (Tu #[Ag #[I J 0,Bo false,I J 0,I J 0,I J 0],I J 3])/\H w.heap.size w w':=by
 have he:=dR (t:=s) O;go_enter func105,ntmps105;go_wp2;exact aS (v:=Tu #[Ag #[I J 0,Bo false,I J 0,I J 0,I J 0],I J 3]) (by simp[results,results105,go_sem]) X ⟨X,((aY w.heap.size w).alloc Ln _).alloc Sq _⟩
theorem Gj(s:Q)(w:M)(hm:s.size<=9223372036854775807)(h1:1<=s.size)(hx1:(s[0].toNat:Int)<256)(hx2:((s[0].toNat:Int)%32==31)=false)(h2:2<=s.size)(hy:(s[1].toNat:Int)<256)(hn:(s[1].toNat:Int)<128)(hl:2+(s[1].toNat:Int)<=(s.size:Int)):Cs prog 105 #[Y s] w fun e w'=>e=Rt (Tu #[Ag #[I J ((s[0].toNat:Int)/64),Bo ((s[0].toNat:Int)/32%2==1),I J ((s[0].toNat:Int)%32),I J 2,I J (s[1].toNat:Int)],I J 0])/\H w.heap.size w w':=by
 have he:=dR (t:=s) O;go_enter func105,ntmps105;go_wp2;exact aS (v:=Tu #[Ag #[I J ((s[0].toNat:Int)/64),Bo ((s[0].toNat:Int)/32%2==1),I J ((s[0].toNat:Int)%32),I J 2,I J (s[1].toNat:Int)],I J 0]) (by simp[results,results105,go_sem]) X ⟨X,((aY w.heap.size w).alloc Ln _).alloc Sq _⟩
theorem Et(s:Q)(w:M)(hm:s.size<=9223372036854775807)(h1:1<=s.size)(hx1:(s[0].toNat:Int)<256)(hx2:((s[0].toNat:Int)%32==31)=false)(h2:2<=s.size)(hy:(s[1].toNat:Int)<256)(hn:128<=(s[1].toNat:Int))(hz:((s[1].toNat:Int)-128==0)=true):Cs prog 105 #[Y s] w fun e w'=>e=Rt (Tu #[Ag #[I J 0,Bo false,I J 0,I J 0,I J 0],I J 5])/\H w.heap.size w w':=by
 have he:=dR (t:=s) O;go_enter func105,ntmps105;go_wp2;exact aS (v:=Tu #[Ag #[I J 0,Bo false,I J 0,I J 0,I J 0],I J 5]) (by simp[results,results105,go_sem]) X ⟨X,((aY w.heap.size w).alloc Ln _).alloc Sq _⟩
theorem Eu(s:Q)(w:M)(hm:s.size<=9223372036854775807)(h1:1<=s.size)(hx1:(s[0].toNat:Int)<256)(hx2:((s[0].toNat:Int)%32==31)=false)(h2:2<=s.size)(hy:(s[1].toNat:Int)<256)(hn:128<=(s[1].toNat:Int))(hz:((s[1].toNat:Int)-128==0)=false)(hz2:3<(s[1].toNat:Int)-128):Cs prog 105 #[Y s] w fun e w'=>e=Rt (Tu #[Ag #[I J 0,Bo false,I J 0,I J 0,I J 0],I J 5])/\H w.heap.size w w':=by
 have he:=dR (t:=s) O;go_enter func105,ntmps105;go_wp2;exact aS (v:=Tu #[Ag #[I J 0,Bo false,I J 0,I J 0,I J 0],I J 5]) (by simp[results,results105,go_sem]) X ⟨X,((aY w.heap.size w).alloc Ln _).alloc Sq _⟩
theorem Ev(s:Q)(w:M)(hm:s.size<=9223372036854775807)(h1:1<=s.size)(hx1:(s[0].toNat:Int)<256)(hx2:((s[0].toNat:Int)%32==31)=false)(h2:2<=s.size)(hy:(s[1].toNat:Int)<256)(hn:128<=(s[1].toNat:Int))(hz:((s[1].toNat:Int)-128==0)=false)(hz2:(s[1].toNat:Int)-128<=3)(hl:(s.size:Int)<2+((s[1].toNat:Int)-128)):Cs prog 105 #[Y s] w fun e w'=>e=Rt (Tu #[Ag #[I J 0,Bo false,I J 0,I J 0,I J 0],I J 3])/\H w.heap.size w w':=by
 have he:=dR (t:=s) O;go_enter func105,ntmps105;go_wp2;exact aS (v:=Tu #[Ag #[I J 0,Bo false,I J 0,I J 0,I J 0],I J 3]) (by simp[results,results105,go_sem]) X ⟨X,((aY w.heap.size w).alloc Ln _).alloc Sq _⟩
theorem Hh(s:Q)(w:M)(hm:s.size<=9223372036854775807)(h1:1<=s.size)(hx1:(s[0].toNat:Int)<256)(hx2:((s[0].toNat:Int)%32==31)=false)(h2:2<=s.size)(hy:(s[1].toNat:Int)<256)(hn:128<=(s[1].toNat:Int))(hz:((s[1].toNat:Int)-128==0)=false)(hz2:(s[1].toNat:Int)-128<=3)(c:Nat)(hb1:(s[1].toNat:Int)-128<=c)(hb2:c<=(s[1].toNat:Int)-128)(hl:2+(c:Int)<=(s.size:Int))(hq:¬(c:Int)=cnt (bH (s.extract 1 s.size) c)):Cs prog 105 #[Y s] w fun e w'=>e=Rt (Tu #[Ag #[I J 0,Bo false,I J 0,I J 0,I J 0],I J 5])/\H w.heap.size w w':=by
 have he:=dR (t:=s) O;have HX:Hi ((s[1].toNat:Int)-128=c):=by show _=_;omega
 have hnd:decide ((128:Int)<=(s[1].toNat:Int))=true:=aM hn;have hk3:c<=3:=O;have hnb:=gy (s.extract 1 s.size) c;have hnc0:0<=bH (s.extract 1 s.size) c:=hnb.1;have hnc1:bH (s.extract 1 s.size) c<16777216:=hnb.2.1 hk3;clear hnb;have HL:Hi _:=fun w=>js _ w hnc0 hnc1;have hts:Hi (((⟨(tl (bH (s.extract 1 s.size) c)).toArray⟩:Q).size:Int)=1+cnt (bH (s.extract 1 s.size) c)):=by have:=fM (bH (s.extract 1 s.size) c);show(((tl (bH (s.extract 1 s.size) c)).toArray.size:Nat):Int)=_;rw[dy];exact this
 generalize(⟨(tl (bH (s.extract 1 s.size) c)).toArray⟩:Q)=t at HL hts;have hq':(2+((s[1].toNat:Int)-128)!=(t.size:Int)+1)=true:=by rw[ct];have h1:=hts.out;have h2:=HX.out;omega
 clear hq;have htb:t.size<=4:=by have:=hts.out;have:=cnt_cases (bH (s.extract 1 s.size) c);omega
 go_enter func105,ntmps105;go_wp2;go_loop [6,9] (fun n i=>∃k:Nat,k<=c/\i=I J k/\n=I J (bH (s.extract 1 s.size) k)) (fun _ i=>c-(Io i).toNat);case atStart=>exact⟨0,O,X,X⟩
 obtain⟨k,hk,rfl,rfl⟩:=hrel;have hn:=gy (s.extract 1 s.size) k;have hn0:0<=bH (s.extract 1 s.size) k:=hn.1;have hn1:bH (s.extract 1 s.size) k<16777216:=hn.2.1 O;clear hn;by_cases hlt:k<c
 ·have hk2:2+k<s.size:=O;have hbk:=gu s (2+k);have HE:Hi _:=cH s (2+k) hk2;have hek:(s[2+k].toNat:Int)<256:=by rw[HE.out];omega
  have HN:Hi (bH (s.extract 1 s.size) (k+1)=bH (s.extract 1 s.size) k*256+b8 s (2+k)):=by show bH (s.extract 1 s.size) k*256+b8 (s.extract 1 s.size) (k+1)=_;rw[kY s 1 (k+1) O,show 1+(k+1)=2+k by omega]
  go_wp2;go_round;case rel=>exact⟨k+1,O,Gn,by rw[HN,HE.out];go_num⟩
  case measure=>exact Ms
 have hkc:c=k:=O;subst hkc;go_wp2_with fail;refine bp (HL _) ?_;rintro e w1 ⟨rfl,hb⟩;obtain⟨hc,hf⟩:=mN hb;have hz':w.heap.size+1<w1.heap.size:=by have:=hb.size;simp at this;omega
 have HB:Hi _:=hb;have hr0:w1.cell? (D w.heap.size 0 Z)=U (I J 0):=by rw[hc w.heap.size 0 So];simp
 have hr1:w1.cell? (D w.heap.size 1 Z)=U (Bo false):=by rw[hc w.heap.size 1 So];simp
 have hr2:w1.cell? (D w.heap.size 2 Z)=U (I J 0):=by rw[hc w.heap.size 2 So];simp
 have hr3:w1.cell? (D w.heap.size 3 Z)=U (I J 0):=by rw[hc w.heap.size 3 So];simp
 have hr4:w1.cell? (D w.heap.size 4 Z)=U (I J 0):=by rw[hc w.heap.size 4 So];simp
 clear hb;go_wp2;refine aS (v:=Tu #[Ag #[I J 0,Bo false,I J 0,I J 0,I J 0],I J 5]) (by simp[results,results105,go_sem,hr0,hr1,hr2,hr3,hr4]) X ⟨X,?_⟩;exact oA ((((aY w.heap.size w).alloc Ln _).alloc Sq _).trans (HB.mono So)) _ Ln _ _ _ _ _
theorem Db(s:Q)(w:M)(hm:s.size<=9223372036854775807)(h1:1<=s.size)(hx1:(s[0].toNat:Int)<256)(hx2:((s[0].toNat:Int)%32==31)=false)(h2:2<=s.size)(hy:(s[1].toNat:Int)<256)(hn:128<=(s[1].toNat:Int))(hz:((s[1].toNat:Int)-128==0)=false)(hz2:(s[1].toNat:Int)-128<=3)(c:Nat)(hb1:(s[1].toNat:Int)-128<=c)(hb2:c<=(s[1].toNat:Int)-128)(hl:2+(c:Int)<=(s.size:Int))(hq:(c:Int)=cnt (bH (s.extract 1 s.size) c))(hE:(s.size:Int)<2+c+bH (s.extract 1 s.size) c):Cs prog 105 #[Y s] w fun e w'=>e=Rt (Tu #[Ag #[I J 0,Bo false,I J 0,I J 0,I J 0],I J 3])/\H w.heap.size w w':=by
 have he:=dR (t:=s) O;have HX:Hi ((s[1].toNat:Int)-128=c):=by show _=_;omega
 have hnd:decide ((128:Int)<=(s[1].toNat:Int))=true:=aM hn;have hk3:c<=3:=O;have hnb:=gy (s.extract 1 s.size) c;have hnc0:0<=bH (s.extract 1 s.size) c:=hnb.1;have hnc1:bH (s.extract 1 s.size) c<16777216:=hnb.2.1 hk3;clear hnb;have HL:Hi _:=fun w=>js _ w hnc0 hnc1;have hts:Hi (((⟨(tl (bH (s.extract 1 s.size) c)).toArray⟩:Q).size:Int)=1+cnt (bH (s.extract 1 s.size) c)):=by have:=fM (bH (s.extract 1 s.size) c);show(((tl (bH (s.extract 1 s.size) c)).toArray.size:Nat):Int)=_;rw[dy];exact this
 generalize(⟨(tl (bH (s.extract 1 s.size) c)).toArray⟩:Q)=t at HL hts;have hq':(2+((s[1].toNat:Int)-128)!=(t.size:Int)+1)=false:=by rw[bK];have h1:=hts.out;have h2:=HX.out;omega
 clear hq;have htb:t.size<=4:=by have:=hts.out;have:=cnt_cases (bH (s.extract 1 s.size) c);omega
 go_enter func105,ntmps105;go_wp2;go_loop [6,9] (fun n i=>∃k:Nat,k<=c/\i=I J k/\n=I J (bH (s.extract 1 s.size) k)) (fun _ i=>c-(Io i).toNat);case atStart=>exact⟨0,O,X,X⟩
 obtain⟨k,hk,rfl,rfl⟩:=hrel;have hn:=gy (s.extract 1 s.size) k;have hn0:0<=bH (s.extract 1 s.size) k:=hn.1;have hn1:bH (s.extract 1 s.size) k<16777216:=hn.2.1 O;clear hn;by_cases hlt:k<c
 ·have hk2:2+k<s.size:=O;have hbk:=gu s (2+k);have HE:Hi _:=cH s (2+k) hk2;have hek:(s[2+k].toNat:Int)<256:=by rw[HE.out];omega
  have HN:Hi (bH (s.extract 1 s.size) (k+1)=bH (s.extract 1 s.size) k*256+b8 s (2+k)):=by show bH (s.extract 1 s.size) k*256+b8 (s.extract 1 s.size) (k+1)=_;rw[kY s 1 (k+1) O,show 1+(k+1)=2+k by omega]
  go_wp2;go_round;case rel=>exact⟨k+1,O,Gn,by rw[HN,HE.out];go_num⟩
  case measure=>exact Ms
 have hkc:c=k:=O;subst hkc;go_wp2_with fail;refine bp (HL _) ?_;rintro e w1 ⟨rfl,hb⟩;obtain⟨hc,hf⟩:=mN hb;have hz':w.heap.size+1<w1.heap.size:=by have:=hb.size;simp at this;omega
 have HB:Hi _:=hb;have hr0:w1.cell? (D w.heap.size 0 Z)=U (I J 0):=by rw[hc w.heap.size 0 So];simp
 have hr1:w1.cell? (D w.heap.size 1 Z)=U (Bo false):=by rw[hc w.heap.size 1 So];simp
 have hr2:w1.cell? (D w.heap.size 2 Z)=U (I J 0):=by rw[hc w.heap.size 2 So];simp
 have hr3:w1.cell? (D w.heap.size 3 Z)=U (I J 0):=by rw[hc w.heap.size 3 So];simp
 have hr4:w1.cell? (D w.heap.size 4 Z)=U (I J 0):=by rw[hc w.heap.size 4 So];simp
 clear hb;go_wp2;refine aS (v:=Tu #[Ag #[I J 0,Bo false,I J 0,I J 0,I J 0],I J 3]) (by simp[results,results105,go_sem,hr0,hr1,hr2,hr3,hr4]) X ⟨X,?_⟩;exact oA ((((aY w.heap.size w).alloc Ln _).alloc Sq _).trans (HB.mono So)) _ Ln _ _ _ _ _
theorem Gh(s:Q)(w:M)(hm:s.size<=9223372036854775807)(h1:1<=s.size)(hx1:(s[0].toNat:Int)<256)(hx2:((s[0].toNat:Int)%32==31)=false)(h2:2<=s.size)(hy:(s[1].toNat:Int)<256)(hn:128<=(s[1].toNat:Int))(hz:((s[1].toNat:Int)-128==0)=false)(hz2:(s[1].toNat:Int)-128<=3)(c:Nat)(hb1:(s[1].toNat:Int)-128<=c)(hb2:c<=(s[1].toNat:Int)-128)(hl:2+(c:Int)<=(s.size:Int))(hq:(c:Int)=cnt (bH (s.extract 1 s.size) c))(hE:2+c+bH (s.extract 1 s.size) c<=(s.size:Int)):Cs prog 105 #[Y s] w fun e w'=>e=Rt (Tu #[Ag #[I J ((s[0].toNat:Int)/64),Bo ((s[0].toNat:Int)/32%2==1),I J ((s[0].toNat:Int)%32),I J (2+((s[1].toNat:Int)-128)),I J (bH (s.extract 1 s.size) c)],I J 0])/\H w.heap.size w w':=by
 have he:=dR (t:=s) O;have HX:Hi ((s[1].toNat:Int)-128=c):=by show _=_;omega
 have hnd:decide ((128:Int)<=(s[1].toNat:Int))=true:=aM hn;have hk3:c<=3:=O;have hnb:=gy (s.extract 1 s.size) c;have hnc0:0<=bH (s.extract 1 s.size) c:=hnb.1;have hnc1:bH (s.extract 1 s.size) c<16777216:=hnb.2.1 hk3;clear hnb;have HL:Hi _:=fun w=>js _ w hnc0 hnc1;have hts:Hi (((⟨(tl (bH (s.extract 1 s.size) c)).toArray⟩:Q).size:Int)=1+cnt (bH (s.extract 1 s.size) c)):=by have:=fM (bH (s.extract 1 s.size) c);show(((tl (bH (s.extract 1 s.size) c)).toArray.size:Nat):Int)=_;rw[dy];exact this
 generalize(⟨(tl (bH (s.extract 1 s.size) c)).toArray⟩:Q)=t at HL hts;have hq':(2+((s[1].toNat:Int)-128)!=(t.size:Int)+1)=false:=by rw[bK];have h1:=hts.out;have h2:=HX.out;omega
 clear hq;have htb:t.size<=4:=by have:=hts.out;have:=cnt_cases (bH (s.extract 1 s.size) c);omega
 go_enter func105,ntmps105;go_wp2;go_loop [6,9] (fun n i=>∃k:Nat,k<=c/\i=I J k/\n=I J (bH (s.extract 1 s.size) k)) (fun _ i=>c-(Io i).toNat);case atStart=>exact⟨0,O,X,X⟩
 obtain⟨k,hk,rfl,rfl⟩:=hrel;have hn:=gy (s.extract 1 s.size) k;have hn0:0<=bH (s.extract 1 s.size) k:=hn.1;have hn1:bH (s.extract 1 s.size) k<16777216:=hn.2.1 O;clear hn;by_cases hlt:k<c
 ·have hk2:2+k<s.size:=O;have hbk:=gu s (2+k);have HE:Hi _:=cH s (2+k) hk2;have hek:(s[2+k].toNat:Int)<256:=by rw[HE.out];omega
  have HN:Hi (bH (s.extract 1 s.size) (k+1)=bH (s.extract 1 s.size) k*256+b8 s (2+k)):=by show bH (s.extract 1 s.size) k*256+b8 (s.extract 1 s.size) (k+1)=_;rw[kY s 1 (k+1) O,show 1+(k+1)=2+k by omega]
  go_wp2;go_round;case rel=>exact⟨k+1,O,Gn,by rw[HN,HE.out];go_num⟩
  case measure=>exact Ms
 have hkc:c=k:=O;subst hkc;go_wp2_with fail;refine bp (HL _) ?_;rintro e w1 ⟨rfl,hb⟩;obtain⟨hc,hf⟩:=mN hb;have hz':w.heap.size+1<w1.heap.size:=by have:=hb.size;simp at this;omega
 have HB:Hi _:=hb;have hr0:w1.cell? (D w.heap.size 0 Z)=U (I J 0):=by rw[hc w.heap.size 0 So];simp
 have hr1:w1.cell? (D w.heap.size 1 Z)=U (Bo false):=by rw[hc w.heap.size 1 So];simp
 have hr2:w1.cell? (D w.heap.size 2 Z)=U (I J 0):=by rw[hc w.heap.size 2 So];simp
 have hr3:w1.cell? (D w.heap.size 3 Z)=U (I J 0):=by rw[hc w.heap.size 3 So];simp
 have hr4:w1.cell? (D w.heap.size 4 Z)=U (I J 0):=by rw[hc w.heap.size 4 So];simp
 clear hb;go_wp2;refine aS (v:=Tu #[Ag #[I J ((s[0].toNat:Int)/64),Bo ((s[0].toNat:Int)/32%2==1),I J ((s[0].toNat:Int)%32),I J (2+((s[1].toNat:Int)-128)),I J (bH (s.extract 1 s.size) c)],I J 0]) (by simp[results,results105,go_sem,hr0,hr1,hr2,hr3,hr4]) X ⟨X,?_⟩;exact oA ((((aY w.heap.size w).alloc Ln _).alloc Sq _).trans (HB.mono So)) _ Ln _ _ _ _ _
theorem Bk(s:Q)(w:M)(hm:s.size<=9223372036854775807):Cs prog 105 #[Y s] w fun e w'=>e=Rt (Tu #[hv (hd s).2,I J (hd s).1])/\H w.heap.size w w':=by
 have hT:(s.extract 1 s.size).size=s.size-1:=Sq;unfold hd;split
 ·rename_i h;exact Da s w hm h
 rename_i h;have h1:1<=s.size:=O;have hb0:=gu s 0;have e0:=cH s 0 h1;have hx1:(s[0].toNat:Int)<256:=by rw[e0];omega
 split
 ·rename_i h2;exact Gk s w hm h1 hx1 (by rw[e0,bV];exact h2)
 rename_i h2;have hx2:((s[0].toNat:Int)%32==31)=false:=by rw[e0,aD];exact h2
 by_cases h3:s.size<2
 ·have hr:rl (s.extract 1 s.size)=(3,0,0):=by unfold rl;rw[aG O]
  rw[hr];exact Gi s w hm h1 hx1 hx2 h3
 have h3:2<=s.size:=O;have e1:=cH s 1 O;have hb1:=gu s 1;have eT:b8 (s.extract 1 s.size) 0=b8 s 1:=kY s 1 0 O;have hy:(s[1].toNat:Int)<256:=by rw[e1];omega
 by_cases hn:b8 s 1<128
 ·have hr:rl (s.extract 1 s.size)=(0,1,b8 s 1):=by unfold rl;rw[G O,eT,aG hn]
  rw[hr];simp only;rw[G O];split
  ·exact Ew s w hm h1 hx1 hx2 h3 hy (by rw[e1];exact hn) (by rw[e1];omega)
  have:=Gj s w hm h1 hx1 hx2 h3 hy (by rw[e1];exact hn) (by rw[e1];omega);rw[e0,e1]at this;exact this
 have hn':128<=(s[1].toNat:Int):=by rw[e1];omega
 by_cases hbad:b8 s 1=128\/131<b8 s 1
 ·have hr:rl (s.extract 1 s.size)=(5,0,0):=by unfold rl;rw[G O,eT,G hn,aG hbad]
  rw[hr];by_cases hz:b8 s 1=128
  ·exact Et s w hm h1 hx1 hx2 h3 hy hn' (by rw[e1,bV];omega)
  exact Eu s w hm h1 hx1 hx2 h3 hy hn' (by rw[e1,aD];omega) (by rw[e1];omega)
 have hz:((s[1].toNat:Int)-128==0)=false:=by rw[e1,aD];omega
 have hz2:(s[1].toNat:Int)-128<=3:=by rw[e1];omega
 by_cases hl:(s.size:Int)<2+(b8 s 1-128)
 ·have hr:rl (s.extract 1 s.size)=(3,0,0):=by unfold rl;rw[G O,eT,G hn,G hbad,aG O]
  rw[hr];exact Ev s w hm h1 hx1 hx2 h3 hy hn' hz hz2 (by rw[e1];exact hl)
 obtain⟨c,hc⟩:=bI (show 0<=b8 s 1-128 by omega);by_cases hq:(c:Int)=cnt (bH (s.extract 1 s.size) c)
 ·have hr:rl (s.extract 1 s.size)=(0,1+(c:Int),bH (s.extract 1 s.size) c):=by unfold rl;rw[G O,eT,G hn,G hbad,G O,hc,br,G O]
  rw[hr];simp only;rw[G O];split
  ·exact Db s w hm h1 hx1 hx2 h3 hy hn' hz hz2 c (by rw[e1];omega) (by rw[e1];omega) O hq O
  have:=Gh s w hm h1 hx1 hx2 h3 hy hn' hz hz2 c (by rw[e1];omega) (by rw[e1];omega) O hq O;rw[e0,e1,show((2:Nat):Int)+(b8 s 1-128)=1+(c:Int)+1 by omega]at this;exact this
 have hr:rl (s.extract 1 s.size)=(5,0,0):=by unfold rl;rw[G O,eT,G hn,G hbad,G O,hc,br,aG hq]
 rw[hr];exact Hh s w hm h1 hx1 hx2 h3 hy hn' hz hz2 c (by rw[e1];omega) (by rw[e1];omega) O hq
structure mJ(w:M)(k:Nat)(c:Int)(b:Bool)(n z l:Int):Prop where
 f0:w.cell? (D k 0 Z)=U (I J c)
 f1:w.cell? (D k 1 Z)=U (Bo b)
 f2:w.cell? (D k 2 Z)=U (I J n)
 f3:w.cell? (D k 3 Z)=U (I J z)
 f4:w.cell? (D k 4 Z)=U (I J l)
theorem mJ.lt{w:M}{k:Nat}{c:Int}{b:Bool}{n z l:Int}(h:mJ w k c b n z l):k<w.heap.size:=kZ h.f0
theorem mJ.below{w w':M}{k:Nat}{c:Int}{b:Bool}{n z l:Int}(h:mJ w k c b n z l)(hb:H w.heap.size w w'):mJ w' k c b n z l:=
 ⟨(hb.cell h.lt).trans h.f0,(hb.cell h.lt).trans h.f1,(hb.cell h.lt).trans h.f2,(hb.cell h.lt).trans h.f3,(hb.cell h.lt).trans h.f4⟩
theorem mJ.new(w:M)(c:Int)(b:Bool)(n z l:Int)(T:TypeId):mJ (w.alloc (C #[I J c,Bo b,I J n,I J z,I J l] T)) w.heap.size c b n z l:=
 ⟨Sq,Sq,Sq,Sq,Sq⟩
theorem mJ.alloc{w:M}{k:Nat}{c:Int}{b:Bool}{n z l:Int}(h:mJ w k c b n z l)(o:Obj):mJ (w.alloc o) k c b n z l:=h.below Be
theorem ew{w:M}{ops:Array Oper}{rest:Ls Oper}{o:Oper}{a:Act}{aq:Exit->Act->M->Prop}(hgd:o.guard=Z)(s x:Operand)(ho:o.op= .call {callee:= .builtin .append,args:=#[s,x],argTypes:=#[52,52]})(B:Nat)(v:Vv)(n:Nat)(xs:Ls Vv)(hs:a.eval s=v)(hown:w.ownsRow B 5 1 v n xs)(u:Int)(T:TypeId)(hx:a.eval x=S (U (D w.heap.size 0 Z)) 1 1)(hn:n<=1000)(hB:B<=w.heap.size)(h:∀v' w',w'.ownsRow B 5 1 v' (n+1) (xs++[I .u8 u])->H B w w'->wpList prog ops aq rest (a.put o.dst v') w'):wpList prog ops aq (o::rest) a (w.alloc (C #[I .u8 u] T)):=by
 obtain⟨i0,hi,hz0,hz1,hz2⟩:=dD jv;refine wpList_append_own _ hgd s x 52 ho B 5 i0 (I .u8 0) 1 1 underlying52 hi hz0 hz1 hz2 X Dc v n xs hs (hown.alloc _) (D w.heap.size 0 Z) 1 1 [I .u8 u] hx X ?_ ?_ ?_ ?_ ?_ ?_
 ·intro j y hj
  match j,hj with
  |0,hj=>simp at hj;subst hj;simp[Addr.add]
 ·intro y hy;simp at hy;subst hy;rfl
 ·unfold maxLen;omega
 ·omega
 ·simp;omega
 intro v' w' h1 h2 _;exact h v' w' h1 (((aY B w).alloc hB _).grown h2 So fun k hk=>(hown.lt k hk).1)
theorem eo{w:M}{B:Nat}{v:Vv}{n m:Nat}{xs ys:Ls Vv}(h:w.ownsRow B 5 1 v n xs)(hn:n=m)(hx:xs=ys):w.ownsRow B 5 1 v m ys:=by subst hn;subst hx;exact h
theorem Ie(B:Nat)(v:Vv)(n:Nat)(xs:Ls Vv)(L:Int)(w:M)(h0:0<=L)(h1:L<128)(hown:w.ownsRow B 5 1 v n xs)(hB:B<=w.heap.size)(hn:n<=900):Cs prog 185 #[v,I J L] w fun e w'=>∃v',e=Rt v'/\w'.ownsRow B 5 1 v' (n+1) (xs++[I .u8 L])/\H B w w':=by
 have HO:Hi (w.ownsRow B 5 1 v n xs):=hown;clear hown;go_enter func185,ntmps185;go_wp2_with (first|(at_builtin;refine ew X (.tmp 11) (.tmp 14) X B _ _ _ X HO.out _ _ X O hB ?_;intro v1 w1 o1 b1)|go_in);go_ret;exact⟨_,X,o1,b1⟩
theorem Ig(B:Nat)(v:Vv)(n:Nat)(xs:Ls Vv)(L:Int)(w:M)(h0:128<=L)(h1:L<256)(hown:w.ownsRow B 5 1 v n xs)(hB:B<=w.heap.size)(hn:n<=900):Cs prog 185 #[v,I J L] w fun e w'=>∃v',e=Rt v'/\w'.ownsRow B 5 1 v' (n+2) (xs++[I .u8 129,I .u8 L])/\H B w w':=by
 have HO:Hi (w.ownsRow B 5 1 v n xs):=hown;clear hown;go_enter func185,ntmps185;go_wp2_with (first|(at_builtin;refine ew X (.tmp 16) (.tmp 20) X B _ _ _ X HO.out _ _ X O hB ?_;intro v1 w1 o1 b1)|go_in);have HO1:Hi (w1.ownsRow B 5 1 v1 (n+1) (xs++[I .u8 129])):=o1;have HB1:Hi (H B w w1):=b1;have hB1:B<=w1.heap.size:=bl hB b1.size;clear o1 b1;refine eJ 2 ?_;rw[ch];go_wp2_with (first|(at_builtin;refine ew X (.tmp 28) (.tmp 34) X B _ _ _ X HO1.out _ _ X O hB1 ?_;intro v2 w2 o2 b2)|go_in);have HO2:Hi (w2.ownsRow B 5 1 v2 (n+1+1) (xs++[I .u8 129]++[I .u8 L])):=o2;have HB2:Hi (H B w w2):=HB1.out.trans b2;have hB2:B<=w2.heap.size:=bl hB1 b2.size;clear o2 b2;rw[ch];go_wp2_with fail;go_ret;exact⟨_,X,eo HO2.out X Sq,HB2.out⟩
theorem Ih(B:Nat)(v:Vv)(n:Nat)(xs:Ls Vv)(L:Int)(w:M)(h0:256<=L)(h1:L<65536)(hown:w.ownsRow B 5 1 v n xs)(hB:B<=w.heap.size)(hn:n<=900):Cs prog 185 #[v,I J L] w fun e w'=>∃v',e=Rt v'/\w'.ownsRow B 5 1 v' (n+3) (xs++[I .u8 130,I .u8 (L/256),I .u8 (L%256)])/\H B w w':=by
 have HO:Hi (w.ownsRow B 5 1 v n xs):=hown;clear hown;go_enter func185,ntmps185;go_wp2_with (first|(at_builtin;refine ew X (.tmp 16) (.tmp 20) X B _ _ _ X HO.out _ _ X O hB ?_;intro v1 w1 o1 b1)|go_in);have HO1:Hi (w1.ownsRow B 5 1 v1 (n+1) (xs++[I .u8 130])):=o1;have HB1:Hi (H B w w1):=b1;have hB1:B<=w1.heap.size:=bl hB b1.size;clear o1 b1;refine eJ 3 ?_;rw[ch];go_wp2_with (first|(at_builtin;refine ew X (.tmp 28) (.tmp 34) X B _ _ _ X HO1.out _ _ X O hB1 ?_;intro v2 w2 o2 b2)|go_in);have HO2:Hi (w2.ownsRow B 5 1 v2 (n+1+1) (xs++[I .u8 130]++[I .u8 (L/256)])):=o2;have HB2:Hi (H B w w2):=HB1.out.trans b2;have hB2:B<=w2.heap.size:=bl hB1 b2.size;clear o2 b2;rw[ch];go_wp2_with (first|(at_builtin;refine ew X (.tmp 28) (.tmp 34) X B _ _ _ X HO2.out _ _ X O hB2 ?_;intro v3 w3 o3 b3)|go_in);have HO3:Hi (w3.ownsRow B 5 1 v3 (n+1+1+1) (xs++[I .u8 130]++[I .u8 (L/256)]++[I .u8 (L%256)])):=o3;have HB3:Hi (H B w w3):=HB2.out.trans b3;have hB3:B<=w3.heap.size:=bl hB2 b3.size;clear o3 b3;rw[ch];go_wp2_with fail;go_ret;exact⟨_,X,eo HO3.out X Sq,HB3.out⟩
theorem Ii(B:Nat)(v:Vv)(n:Nat)(xs:Ls Vv)(L:Int)(w:M)(h0:65536<=L)(h1:L<16777216)(hown:w.ownsRow B 5 1 v n xs)(hB:B<=w.heap.size)(hn:n<=900):Cs prog 185 #[v,I J L] w fun e w'=>∃v',e=Rt v'/\w'.ownsRow B 5 1 v' (n+4) (xs++[I .u8 131,I .u8 (L/65536),I .u8 (L/256%256),I .u8 (L%256)])/\H B w w':=by
 have HO:Hi (w.ownsRow B 5 1 v n xs):=hown;clear hown;go_enter func185,ntmps185;go_wp2_with (first|(at_builtin;refine ew X (.tmp 16) (.tmp 20) X B _ _ _ X HO.out _ _ X O hB ?_;intro v1 w1 o1 b1)|go_in);have HO1:Hi (w1.ownsRow B 5 1 v1 (n+1) (xs++[I .u8 131])):=o1;have HB1:Hi (H B w w1):=b1;have hB1:B<=w1.heap.size:=bl hB b1.size;clear o1 b1;refine eJ 4 ?_;rw[ch];go_wp2_with (first|(at_builtin;refine ew X (.tmp 28) (.tmp 34) X B _ _ _ X HO1.out _ _ X O hB1 ?_;intro v2 w2 o2 b2)|go_in);have HO2:Hi (w2.ownsRow B 5 1 v2 (n+1+1) (xs++[I .u8 131]++[I .u8 (L/65536)])):=o2;have HB2:Hi (H B w w2):=HB1.out.trans b2;have hB2:B<=w2.heap.size:=bl hB1 b2.size;clear o2 b2;rw[ch];go_wp2_with (first|(at_builtin;refine ew X (.tmp 28) (.tmp 34) X B _ _ _ X HO2.out _ _ X O hB2 ?_;intro v3 w3 o3 b3)|go_in);have HO3:Hi (w3.ownsRow B 5 1 v3 (n+1+1+1) (xs++[I .u8 131]++[I .u8 (L/65536)]++[I .u8 (L/256%256)])):=o3;have HB3:Hi (H B w w3):=HB2.out.trans b3;have hB3:B<=w3.heap.size:=bl hB2 b3.size;clear o3 b3;rw[ch];go_wp2_with (first|(at_builtin;refine ew X (.tmp 28) (.tmp 34) X B _ _ _ X HO3.out _ _ X O hB3 ?_;intro v4 w4 o4 b4)|go_in);have HO4:Hi (w4.ownsRow B 5 1 v4 (n+1+1+1+1) (xs++[I .u8 131]++[I .u8 (L/65536)]++[I .u8 (L/256%256)]++[I .u8 (L%256)])):=o4;have HB4:Hi (H B w w4):=HB3.out.trans b4;have hB4:B<=w4.heap.size:=bl hB3 b4.size;clear o4 b4;rw[ch];go_wp2_with fail;go_ret;exact⟨_,X,eo HO4.out X Sq,HB4.out⟩
theorem kD(B:Nat)(v:Vv)(n:Nat)(xs:Ls Vv)(L:Int)(w:M)(h0:0<=L)(h1:L<16777216)(hown:w.ownsRow B 5 1 v n xs)(hB:B<=w.heap.size)(hn:n<=900):Cs prog 185 #[v,I J L] w fun e w'=>∃v' m,e=Rt v'/\w'.ownsRow B 5 1 v' m (xs++(tl L).map bv)/\H B w w':=by
 unfold tl;split
 ·refine(Ie B v n xs L w h0 O hown hB hn).mono ?_;rintro e w' ⟨v',rfl,ho,hb⟩;exact⟨v',_,X,eo ho X (by simp[jy L h0 O]),hb⟩
 split
 ·refine(Ig B v n xs L w O O hown hB hn).mono ?_;rintro e w' ⟨v',rfl,ho,hb⟩;exact⟨v',_,X,eo ho X (by simp[jy L h0 O];rfl),hb⟩
 split
 ·refine(Ih B v n xs L w O O hown hB hn).mono ?_;rintro e w' ⟨v',rfl,ho,hb⟩;exact⟨v',_,X,eo ho X (by simp[jy (L/256) O O,jy (L%256) O O];rfl),hb⟩
 refine(Ii B v n xs L w O O hown hB hn).mono ?_;rintro e w' ⟨v',rfl,ho,hb⟩;exact⟨v',_,X,eo ho X (by simp[jy (L/65536) O O,jy (L/256%256) O O,jy (L%256) O O];rfl),hb⟩
end Go.Proofs.YtkkicodfpekbgaaGreatDoor
