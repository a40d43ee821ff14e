/- Parts. -/
import Derived.Test.YtkkicodfpekbgaaGreatDoorJa1
import Derived.Test.YtkkicodfpekbgaaGreatDoorJa0
import Derived.Shelf.Lays
open Go.Value renaming int->I,string->Y,slice->S,pointer->Po,bool->Bo,agg->Ag,tuple->Tu,iface->If
open Go.IntKind renaming i64->J
open Go.Obj renaming cells->C
open Go.Ending renaming returned->Rt
open Option renaming some->U,none->Z
open Go renaming World->M,Calls->Cs,Addr->Ad,Value->Vv
open _root_ renaming ByteArray->Q,List->Ls
open Go.RowKit renaming Below->H,intOf->Io,Hid->Hi
open Go.World renaming cell?->Wc
open UInt8 renaming ofNat->Uo
open Go.Addr renaming mk->D
set_option linter.all false
set_option maxRecDepth 100000
set_option maxHeartbeats 8000000
namespace Go.Proofs.YtkkicodfpekbgaaGreatDoor
variable{b:Bool}{e:Ending}{c n z l:Int}{w w':M}{B k:Nat}{P ar:Prop}{v:Vv}
section
open Go.Proofs.Tryz
open Go.RowKit
theorem ah4(t:Q)(w:M)(sn:Sn->Ad)(hs:ei w sn)(ht:t.size=0):Cs prog 186 #[Y t] w fun e w'=>e=Rt (Tu #[I J 0,I J 0,If 291 (Po (U (sn .End)))])/\Bw w w':=by
 have h0:=hs.cE;have he:=jr ht;clear hs;go_enter func186,ntmps186;go_wp2;go_quiet (fail);go_wp2;go_ret3;exact⟨X,Go.below_drewN By _⟩
theorem aia(t:Q)(w:M)(h:0<t.size)(DT:t.size<=9223372036854775807)(hb:(t[0].toNat:Int)<128):Cs prog 186 #[Y t] w fun e w'=>e=Rt (Tu #[I J 1,I J (t[0].toNat:Int),.nilIface])/\Bw w w':=by
 have he:=gw h;go_enter func186,ntmps186;go_wp2;go_quiet (fail);go_wp2;go_ret3;exact⟨X,Go.below_drewN By _⟩
theorem ah3(t:Q)(w:M)(sn:Sn->Ad)(hs:ei w sn)(h:0<t.size)(DT:t.size<=9223372036854775807)(hb:128<=(t[0].toNat:Int))(hc:(t[0].toNat:Int)=128\/131<(t[0].toNat:Int)):Cs prog 186 #[Y t] w fun e w'=>e=Rt (Tu #[I J 0,I J 0,If 291 (Po (U (sn .Length)))])/\Bw w w':=by
 have h2:=hs.cL;have he:=gw h;have hx:(t[0].toNat:Int)<256:=by have:=t[0].toNat_lt;omega
 clear hs;by_cases hz:(t[0].toNat:Int)-128=0;·have dA:=jq.2 hz;clear hc hz;go_enter func186,ntmps186;go_wp2;go_quiet (fail);go_wp2;go_ret3;exact⟨X,Go.below_drewN By _⟩
 have dA:=lf.2 hz;have bL:3<(t[0].toNat:Int)-128:=O;clear hc hz;go_enter func186,ntmps186;go_wp2;go_quiet (fail);go_wp2;go_ret3;exact⟨X,Go.below_drewN By _⟩
theorem ah5(t:Q)(w:M)(sn:Sn->Ad)(hs:ei w sn)(h:0<t.size)(DT:t.size<=9223372036854775807)(hb:128<(t[0].toNat:Int))(hc:(t[0].toNat:Int)<=131)(hl:(t.size:Int)<=(t[0].toNat:Int)-128):Cs prog 186 #[Y t] w fun e w'=>e=Rt (Tu #[I J 0,I J 0,If 291 (Po (U (sn .End)))])/\Bw w w':=by
 have h2:=hs.cE;have he:=gw h;have dA:((t[0].toNat:Int)-128==0)=false:=lf.2 O;clear hs;go_enter func186,ntmps186;go_wp2;go_quiet (fail);go_wp2;go_ret3;exact⟨X,Go.below_drewN By _⟩
theorem Py{a b d:Int}(h1:a=c)(h2:b=d):Ending.returned (Tu #[I J a,I J b,v])=Rt (Tu #[I J c,I J d,v]):=by rw[h1,h2]
theorem ah8(t:Q)(w:M)(sn:Sn->Ad)(c:Nat)(hs:ei w sn)(h:0<t.size)(hm:t.size<=9223372036854775807)(hb1:(t[0].toNat:Int)-128<=c)(hb2:c<=(t[0].toNat:Int)-128)(h1:1<=c)(h3:c<=3)(hl:c<t.size)(hq:(c:Int)=cnt (dq t c)):Cs prog 186 #[Y t] w fun e w'=>e=Rt (Tu #[I J (1+c),I J (dq t c),.nilIface])/\Bw w w':=by
 have he:=gw h;have dA:((t[0].toNat:Int)-128==0)=false:=lf.2 O;have HQ:Hi _:=hq;clear hs hq;go_enter func186,ntmps186;go_wp2;go_loop [3,6] (fun n i=>∃k:Nat,1<=k/\k<=c+1/\i=I J k/\n=I J (dq t (k-1))) (fun _ i=>c+1-(Io i).toNat);case atStart=>exact⟨1,O,O,X,X⟩
 obtain⟨k,bQ,hk,rfl,rfl⟩:=hrel;have hn:=uU t (k-1);have fA:=hn.1;have nH:=hn.2.1 O;clear hn;by_cases aA:k<=c;·have iB:k<t.size:=O;have rF:=mr t k;have HE:Hi _:=gq t k iB;(have HN:Hi (dq t k=dq t (k-1)*256+b8 t k):=by obtain⟨j,rfl⟩:∃j,k=j+1:=⟨k-1,O⟩;rfl);go_wp2;go_round;(case rel=>exact⟨k+1,O,O,Gn,by rw[HE,Ri _ ⟨O,O⟩,Vp _ _ O O O O O,Ck,HN.out]⟩);exact Ms
 have aL:k=c+1:=O;subst aL;simp only[Ck]at fA nH ⊢;have HX:Hi ((t[0].toNat:Int)-128=c):=by show _=_;omega
 rcases cnt_cases (dq t c)with⟨r1,r3⟩|⟨r1,r2,r3⟩|⟨r1,r2,r3⟩|⟨r1,r3⟩;·have:=HQ.out;omega
 ·have oM:((t[0].toNat:Int)-128!=1)=false:=by rw[qj];have:=HQ.out;omega
  clear r3;go_wp2;go_ret3;exact⟨Py (by rw[HX.out]) X,By⟩
 ·have oM:((t[0].toNat:Int)-128!=2)=false:=by rw[qj];have:=HQ.out;omega
  clear r3;go_wp2;go_ret3;exact⟨Py (by rw[HX.out]) X,By⟩
 have oM:((t[0].toNat:Int)-128!=3)=false:=by rw[qj];have:=HQ.out;omega
 clear r3;go_wp2;go_ret3;exact⟨Py (by rw[HX.out]) X,By⟩
theorem ah7(t:Q)(w:M)(sn:Sn->Ad)(c:Nat)(hs:ei w sn)(h:0<t.size)(hm:t.size<=9223372036854775807)(hb1:(t[0].toNat:Int)-128<=c)(hb2:c<=(t[0].toNat:Int)-128)(h1:1<=c)(h3:c<=3)(hl:c<t.size)(hq:¬(c:Int)=cnt (dq t c)):Cs prog 186 #[Y t] w fun e w'=>e=Rt (Tu #[I J 0,I J 0,If 291 (Po (U (sn .Length)))])/\Bw w w':=by
 have h2:=hs.cL;have he:=gw h;have dA:((t[0].toNat:Int)-128==0)=false:=lf.2 O;have bL:(t[0].toNat:Int)-128<=3:=O;have HQ:Hi (¬(c:Int)=cnt (dq t c)):=hq;clear hs hq;go_enter func186,ntmps186;go_wp2;go_loop [3,6] (fun n i=>∃k:Nat,1<=k/\k<=c+1/\i=I J k/\n=I J (dq t (k-1))) (fun _ i=>c+1-(Io i).toNat);case atStart=>exact⟨1,O,O,X,X⟩
 obtain⟨k,bQ,hk,rfl,rfl⟩:=hrel;have hn:=uU t (k-1);have fA:=hn.1;have nH:=hn.2.1 O;clear hn;by_cases aA:k<=c;·have iB:k<t.size:=O;have rF:=mr t k;have HE:Hi ((t[k].toNat:Int)=b8 t k):=gq t k iB;(have HN:Hi (dq t k=dq t (k-1)*256+b8 t k):=by obtain⟨j,rfl⟩:∃j,k=j+1:=⟨k-1,O⟩;rfl);go_wp2;go_round;(case rel=>exact⟨k+1,O,O,Gn,by rw[HE,Ri _ ⟨O,O⟩,Vp _ _ O O O O O,Ck,HN.out]⟩);exact Ms
 have aL:k=c+1:=O;subst aL;simp only[Ck]at fA nH ⊢;rcases cnt_cases (dq t c)with⟨r1,r3⟩|⟨r1,r2,r3⟩|⟨r1,r2,r3⟩|⟨r1,r3⟩;·(have oM:((t[0].toNat:Int)-128!=0)=true:=by rw[ln];have:=HQ.out;omega);clear r3;go_wp2;go_quiet (fail);go_wp2;go_ret3;exact⟨X,Go.below_drewN By _⟩
 ·have oM:((t[0].toNat:Int)-128!=1)=true:=by rw[ln];have:=HQ.out;omega
  clear r3;go_wp2;go_quiet (fail);go_wp2;go_ret3;exact⟨X,Go.below_drewN By _⟩
 ·have oM:((t[0].toNat:Int)-128!=2)=true:=by rw[ln];have:=HQ.out;omega
  clear r3;go_wp2;go_quiet (fail);go_wp2;go_ret3;exact⟨X,Go.below_drewN By _⟩
 have oM:((t[0].toNat:Int)-128!=3)=true:=by rw[ln];have:=HQ.out;omega
 clear r3;go_wp2;go_quiet (fail);go_wp2;go_ret3;exact⟨X,Go.below_drewN By _⟩
def Hg(sn:Sn->Ad)(c:Int):Vv:=if c=0 then .nilIface else if c=3 then If 291 (Po (U (sn .End)))else If 291 (Po (U (sn .Length)))
theorem ahK(t:Q)(w:M)(sn:Sn->Ad)(hs:ei w sn)(hm:t.size<=9223372036854775807):Cs prog 186 #[Y t] w fun e w'=>e=Rt (Tu #[I J (rl t).2.1,I J (rl t).2.2,Hg sn (rl t).1])/\Bw w w':=by
 unfold rl;split;·rename_i h;exact ah4 t w sn hs h
 rename_i h;have h:0<t.size:=O;have hb:=mr t 0;have e0:=gq t 0 h;split;·rename_i h1;have:=aia t w h hm O;rw[e0]at this;exact this
 split;·rename_i h1;exact ah3 t w sn hs h hm O O
 split;·exact ah5 t w sn hs h hm O O O
 rename_i h1 h2 h3;obtain⟨c,hc⟩:=sg (show 0<=b8 t 0-128 by omega);rw[hc,ld];split;·rename_i h4;exact ah7 t w sn c hs h hm O O O O O h4
 rename_i h4;exact ah8 t w sn c hs h hm O O O O O O
theorem Pv(t:Q)(w:M)(sn:Sn->Ad)(c z1 z2:Int)(v:Vv)(hs:ei w sn)(hm:t.size<=9223372036854775807)(h:rl t=(c,z1,z2))(hv:Hg sn c=v):Cs prog 186 #[Y t] w fun e w'=>e=Rt (Tu #[I J z1,I J z2,v])/\Bw w w':=by
 have:=ahK t w sn hs hm;rw[h]at this;rw[<-hv];exact this
def hv(h:Hd):Vv:=Ag #[I J h.c,Bo h.b,I J h.n,I J h.s,I J h.l]
theorem Da{w1:M}(h:H B w w1)(b:Nat)(hb:B<=b)(v0 v1 v2 v3 v4:Vv):
 H B w (((((w1.setCell (D b 0 Z) v0).setCell (D b 1 Z) v1).setCell (D b 2 Z) v2).setCell (D b 3 Z) v3).setCell (D b 4 Z) v4):=
 ((((h.setCell (p:=D b 0 Z) hb v0).setCell (p:=D b 1 Z) hb v1).setCell (p:=D b 2 Z) hb v2).setCell (p:=D b 3 Z) hb v3).setCell (p:=D b 4 Z) hb v4
theorem ahB(s:Q)(p:Nat)(w:M)(sn:Sn->Ad)(hs:ei w sn)(DT:s.size<=9223372036854775807)(hp:p<=s.size)(hz:(s.extract p s.size).size=0):Cs prog 156 #[Y s,I J p] w fun e w'=>e=Rt (Tu #[hv .zero,be p (sn .End)])/\Bw w w':=by
 have h0:=hs.cE;have nP:=Dd hs.cE;have he:=jr hz;clear hs;unfold be hv Hd.zero;go_enter func156,ntmps156;go_wp2;exact db (v:=Tu #[Ag #[I J 0,Bo false,I J 0,I J 0,I J 0],If 155 (Ag #[I J p,If 291 (Po (U (sn .End)))])]) (by simp[results,results156,go_sem]) X ⟨X,Be⟩
theorem ahE(s:Q)(p:Nat)(w:M)(sn:Sn->Ad)(hs:ei w sn)(DT:s.size<=9223372036854775807)(hp:p<=s.size)(hz:0<(s.extract p s.size).size)(sI:0<s.size-p)(bR:((s.extract p s.size)[0].toNat:Int)<256)(aQ:30<bits .and J ((s.extract p s.size)[0].toNat:Int) 31):Cs prog 156 #[Y s,I J p] w fun e w'=>e=Rt (Tu #[hv .zero,be p (sn .Tag)])/\Bw w w':=by
 have h1:=hs.cT;have iH:=Dd hs.cT;have he:=gw hz;clear hs;unfold be hv Hd.zero;go_enter func156,ntmps156;go_wp2;exact db (v:=Tu #[Ag #[I J 0,Bo false,I J 0,I J 0,I J 0],If 155 (Ag #[I J p,If 291 (Po (U (sn .Tag)))])]) (by simp[results,results156,go_sem]) X ⟨X,Be⟩
theorem Yp(s:Q)(p:Nat)(w:M)(sn:Sn->Ad)(z1 z2:Int)(hs:ei w sn)(hm:s.size<=9223372036854775807)(hp:p<=s.size)(hz:0<(s.extract p s.size).size)(sI:0<s.size-p)(bR:((s.extract p s.size)[0].toNat:Int)<256)(aQ:bits .and J ((s.extract p s.size)[0].toNat:Int) 31<=30)(c:Int)(a:Ad)(hw:rl ((s.extract p s.size).extract 1 (s.size-p))=(c,z1,z2))(E8:Hg sn c=(If 291 (Po (U a)))):Cs prog 156 #[Y s,I J p] w fun e w'=>e=Rt (Tu #[hv .zero,be p a])/\Bw w w':=by
 have HW:Hi _:=hw;have HV:Hi _:=E8;clear hw E8;have HS:Hi _:=hs;have he:=gw hz;clear hs;unfold be hv Hd.zero;go_enter func156,ntmps156;go_wp2_with fail;refine(Pv _ _ sn c z1 z2 (If 291 (Po (U a))) (HS.below Be) So HW HV).mono ?_;rintro e w1 ⟨rfl,hb⟩;obtain⟨hc,hf⟩:=wu hb;have HB:Hi _:=hb;clear hb;go_wp2;refine db (v:=Tu #[Ag #[I J 0,Bo false,I J 0,I J 0,I J 0],If 155 (Ag #[I J p,If 291 (Po (U a))])]) (by simp[results,results156,go_sem,hc]) X ⟨X,?_⟩;exact Da (((cm w.heap.size w).alloc Ln _).trans (HB.mono Sq)) _ Ln _ _ _ _ _
theorem ahC(s:Q)(p:Nat)(w:M)(sn:Sn->Ad)(z1 z2:Int)(hs:ei w sn)(hm:s.size<=9223372036854775807)(hp:p<=s.size)(hz:0<(s.extract p s.size).size)(sI:0<s.size-p)(bR:((s.extract p s.size)[0].toNat:Int)<256)(aQ:bits .and J ((s.extract p s.size)[0].toNat:Int) 31<=30)(hw:rl ((s.extract p s.size).extract 1 (s.size-p))=(0,z1,z2))(b1:0<=z1)(b2:z1<=4)(b3:0<=z2)(b4:z2<16777216)(hl:((s.size-p:Nat):Int)-(z1+1)<z2):Cs prog 156 #[Y s,I J p] w fun e w'=>e=Rt (Tu #[hv .zero,be p (sn .End)])/\Bw w w':=by
 have HW:Hi _:=hw;have HV:Hi (Hg sn 0= .nilIface):=X;clear hw;have HS:Hi _:=hs;have he:=gw hz;clear hs;unfold be hv Hd.zero;go_enter func156,ntmps156;go_wp2_with fail;refine(Pv _ _ sn 0 z1 z2 .nilIface (HS.below Be) So HW HV).mono ?_;rintro e w1 ⟨rfl,hb⟩;have h9:=((HS.below Be).below hb).cE;obtain⟨hc,hf⟩:=wu hb;have HB:Hi _:=hb;clear hb;go_wp2;refine db (v:=Tu #[Ag #[I J 0,Bo false,I J 0,I J 0,I J 0],If 155 (Ag #[I J p,If 291 (Po (U (sn .End)))])]) (by simp[results,results156,go_sem,hc]) X ⟨X,?_⟩;exact Da (((cm w.heap.size w).alloc Ln _).trans (HB.mono Sq)) _ Ln _ _ _ _ _
theorem ahD(s:Q)(p:Nat)(w:M)(sn:Sn->Ad)(z1 z2:Int)(hs:ei w sn)(hm:s.size<=9223372036854775807)(hp:p<=s.size)(hz:0<(s.extract p s.size).size)(sI:0<s.size-p)(bR:((s.extract p s.size)[0].toNat:Int)<256)(aQ:bits .and J ((s.extract p s.size)[0].toNat:Int) 31<=30)(hw:rl ((s.extract p s.size).extract 1 (s.size-p))=(0,z1,z2))(b1:0<=z1)(b2:z1<=4)(b3:0<=z2)(b4:z2<16777216)(hl:z2<=((s.size-p:Nat):Int)-(z1+1)):Cs prog 156 #[Y s,I J p] w fun e w'=>e=Rt (Tu #[hv ⟨((s.extract p s.size)[0].toNat:Int)/64,bits .and J ((s.extract p s.size)[0].toNat:Int) 32!=0,bits .and J ((s.extract p s.size)[0].toNat:Int) 31,z1+1,z2⟩,.nilIface])/\Bw w w':=by
 have HW:Hi _:=hw;have HV:Hi (Hg sn 0= .nilIface):=X;clear hw;have HS:Hi _:=hs;have he:=gw hz;clear hs;unfold hv;go_enter func156,ntmps156;go_wp2_with fail;refine(Pv _ _ sn 0 z1 z2 .nilIface (HS.below Be) So HW HV).mono ?_;rintro e w1 ⟨rfl,hb⟩;obtain⟨hc,hf⟩:=wu hb;have HB:Hi _:=hb;clear hb;go_wp2;refine db (v:=Tu #[Ag #[I J (((s.extract p s.size)[0].toNat:Int)/64),Bo (bits .and J ((s.extract p s.size)[0].toNat:Int) 32!=0),I J (bits .and J ((s.extract p s.size)[0].toNat:Int) 31),I J (z1+1),I J z2],.nilIface]) (by simp[results,results156,go_sem,hc]) X ⟨X,?_⟩;exact Da (((cm w.heap.size w).alloc Ln _).trans (HB.mono Sq)) _ Ln _ _ _ _ _
def qu(p:Int)(sn:Sn->Ad)(c:Int):Vv:=if c=0 then .nilIface else if c=3 then be p (sn .End)else if c=4 then be p (sn .Tag)else be p (sn .Length)
theorem Pw(s:Q)(p:Nat)(w:M)(sn:Sn->Ad)(hs:ei w sn)(hm:s.size<=9223372036854775807)(hp:p<=s.size):Cs prog 156 #[Y s,I J p] w fun e w'=>e=Rt (Tu #[hv (hd (s.extract p s.size)).2,qu p sn (hd (s.extract p s.size)).1])/\Bw w w':=by
 have bX:(s.extract p s.size).size=s.size-p:=Sq;unfold hd;split;·rename_i h;exact ahB s p w sn hs hm hp h
 rename_i h;have hz:0<(s.extract p s.size).size:=O;have sI:0<s.size-p:=O;have hb:=mr (s.extract p s.size) 0;have e0:=gq (s.extract p s.size) 0 hz;have ea:=ae4 (b8 (s.extract p s.size) 0) hb.1 hb.2;split;·rename_i h1;exact ahE s p w sn hs hm hp hz sI (by rw[e0];exact hb.2) (by rw[e0,ea];omega)
 rename_i h1;have bR:((s.extract p s.size)[0].toNat:Int)<256:=by rw[e0];exact hb.2
 have aQ:bits .and J ((s.extract p s.size)[0].toNat:Int) 31<=30:=by rw[e0,ea];omega
 rw[bX];have hr:=Kh ((s.extract p s.size).extract 1 (s.size-p));obtain⟨c,z1,z2,hw⟩:∃c z1 z2,rl ((s.extract p s.size).extract 1 (s.size-p))=(c,z1,z2):=⟨_,_,_,X⟩;rw[hw]at hr ⊢;simp only at hr ⊢;split
 ·rename_i h2;rcases hr.1 with h|h|h;·exact Ab h h2
  ·subst h;exact Yp s p w sn z1 z2 hs hm hp hz sI bR aQ 3 (sn .End) hw X
  subst h;exact Yp s p w sn z1 z2 hs hm hp hz sI bR aQ 5 (sn .Length) hw X
 rename_i h2;have h2:c=0:=O;subst h2;split;·rename_i h3;exact ahC s p w sn z1 z2 hs hm hp hz sI bR aQ hw hr.2.1 hr.2.2.1 hr.2.2.2.1 hr.2.2.2.2 h3
 rename_i h3;have:=ahD s p w sn z1 z2 hs hm hp hz sI bR aQ hw hr.2.1 hr.2.2.1 hr.2.2.2.1 hr.2.2.2.2 O;rw[e0,ea,ae5 _ hb.1 hb.2]at this;exact this
theorem Oj(s:Q):s.extract 0 s.size=s:=by simp
theorem ahF(s:Q)(w:M)(sn:Sn->Ad)(hs:ei w sn)(hm:s.size<=9223372036854775807):Cs prog 156 #[Y s,I J 0] w fun e w'=>e=Rt (Tu #[hv (hd s).2,qu 0 sn (hd s).1])/\Bw w w':=by
 have:=Pw s 0 w sn hs hm Lz;rw[Oj]at this;exact this
theorem Fc:(prog.info? 5).map (fun i=>(i.zero,i.size,i.bytes))=U (U (I .u8 0),1,1):=Kr
theorem Fm{n:Nat}{l:Ls UInt8}(h:w.ownsRow B 5 1 v n (l.map bv))(hl:l≠ []):(convert 52 9 v).run prog w= .ok (Y ⟨l.toArray⟩) w:=by
 obtain⟨h1,h2⟩:=h;have hn:n=l.length:=by simpa using h1.symm
 subst hn;rcases h2 with⟨_,h0⟩|⟨g,cap,aB,rfl,_,hg,hc,_,hs,ht⟩;·exact Ab (List.length_eq_zero_iff.1 h0) hl
 refine Yy w 52 9 5 (D g 0 Z) cap l underlying52 underlying5 underlying9 fun j hj=>?_;have e1:((D g 0 Z):Ad).add j=(D g j Z):=by unfold Addr.add;split<;>simp_all
 rw[e1];have e2:w.cell? (D g j Z)=aB[j]? :=by simp[Wc,hg]
 rw[e2];have e3:(aB.toList.take (l.length*1))[j]? =(l.map bv)[j]? :=by rw[ht]
 rw[Es,sh hj,Ch,dz hj]at e3;rw[<-Qu,e3];rfl
theorem Nw(x:Int)(h0:0<=x)(h1:x<256)(w:M):(convert 52 9 (S (U (D w.heap.size 0 Z)) 1 1)).run prog (w.alloc (C #[I .u8 x] 5))= .ok (Y ⟨#[Uo x.toNat]⟩) (w.alloc (C #[I .u8 x] 5)):=by refine Fm (B:=0) (n:=1) (l:=[Uo x.toNat]) ⟨Sq,.inr ⟨w.heap.size,1,#[I .u8 x],X,Lz,bl w _,O,Dc,X,?_⟩⟩ Sq;simp[rp x h0 h1]
end
section
open Go.Proofs.Tryz
open Go.Shelf
def Kz:Ren where
 f:=fun|196=>176|259=>194|n=>n
 t:=fun|0=>0|3=>3|4=>4|5=>5|9=>9|12=>12|46=>266|53=>286|119=>275|138=>277|139=>278|n=>n
 g:=fun|3=>14|4=>15|n=>n
theorem Sl:Lays.n196 prog Kz where
 mixed:=Kr
 f196:=func176.trans (kr U Kr)
 f259:=func194.trans (kr U Kr)
 t0:=underlying0
 a0:=Tryz.isAgg0
 z0:=Tryz.sizeOf0
 v0:=Tryz.zeroValue0
 t3:=underlying3
 a3:=Tryz.isAgg3
 z3:=Tryz.sizeOf3
 v3:=Tryz.zeroValue3
 t4:=underlying4
 a4:=Tryz.isAgg4
 z4:=Tryz.sizeOf4
 v4:=Tryz.zeroValue4
 t5:=underlying5
 a5:=Tryz.isAgg5
 z5:=Tryz.sizeOf5
 v5:=Tryz.zeroValue5
 t9:=underlying9
 a9:=Tryz.isAgg9
 z9:=Tryz.sizeOf9
 v9:=Tryz.zeroValue9
 t12:=underlying12
 a12:=Tryz.isAgg12
 z12:=Tryz.sizeOf12
 v12:=Tryz.zeroValue12
 t46:=underlying266
 a46:=Tryz.isAgg266
 z46:=Tryz.sizeOf266
 v46:=Tryz.zeroValue266
 t53:=underlying286
 a53:=Tryz.isAgg286
 z53:=Tryz.sizeOf286
 v53:=Tryz.zeroValue286
 t119:=underlying275
 a119:=Tryz.isAgg275
 z119:=Tryz.sizeOf275
 t138:=underlying277
 a138:=Tryz.isAgg277
 z138:=Tryz.sizeOf277
 v138:=Tryz.zeroValue277
 t139:=underlying278
 a139:=Tryz.isAgg278
 z139:=Tryz.sizeOf278
 v139:=Tryz.zeroValue278
 g3:=Kr
 g4:=Kr
end
section
open Go.Proofs.Tryz
open Go.RowKit
def bu(k:Int)(t:Q):Prop:=
 (k=1/\vf t)\/(k=2/\pe t)\/(k=3/\t.size=0)\/(k=4/\nf t)\/(k=5/\qo t)\/(k=6/\True)\/(k=7/\yh t)\/(k=8/\wh t)\/(k=9/\mf t)
theorem Bc(t:Q):vf t↔bu 1 t:=by unfold bu;simp
theorem xd(t:Q):pe t↔bu 2 t:=by unfold bu;simp
theorem Um(t:Q):t.size=0↔bu 3 t:=by unfold bu;simp
theorem yn(t:Q):nf t↔bu 4 t:=by unfold bu;simp
theorem Ix(t:Q):qo t↔bu 5 t:=by unfold bu;simp
theorem Nu(t:Q):True↔bu 6 t:=by unfold bu;simp
theorem Nv(t:Q):yh t↔bu 7 t:=by unfold bu;simp
theorem Iy(t:Q):wh t↔bu 8 t:=by unfold bu;simp
theorem Fl(t:Q):mf t↔bu 9 t:=by unfold bu;simp
theorem Un(k:Int)(t:Q)(h:k<1\/9<k):False↔bu k t:=by
 unfold bu;refine⟨False.elim,fun c=>?_⟩;rcases c with c|c|c|c|c|c|c|c|c<;> (have:=c.1;omega)
theorem gz.to(h:gz P w e w')(i:P↔ar):gz ar w e w':=by obtain⟨r,h1,h2,h3⟩:=h;exact⟨r,h1,h2.trans i,h3⟩
def wk(P:Prop)(w:M)(e:Ending)(w':M):Prop:=∃r,e=Rt (Bo r)/\(r=true↔P)/\Bw w w'
theorem Tk{a:M}(h:H B a w):∀q,H B a (w.drewN q)
 |0=>h
 |q+1=>(Tk h q).drew
theorem gz.toW(h:gz P w e w'):wk P w e w':=by obtain⟨r,h1,h2,k,rfl⟩:=h;exact⟨r,h1,h2,Tk By k⟩
theorem wk.to(h:wk P w e w')(i:P↔ar):wk ar w e w':=by obtain⟨r,h1,h2,h3⟩:=h;exact⟨r,h1,h2.trans i,h3⟩
theorem Wd(k:Int):(k<1\/9<k)\/k=1\/k=2\/k=3\/k=4\/k=5\/k=6\/k=7\/k=8\/k=9:=O
theorem Vr(k:Int)(t:Q)(w:M)(hs:t.size<=140737488355328):Cs prog 108 #[I J k,Y t] w fun e w'=>gz (bu k t) w e w':=by
 have hm:t.size<=9223372036854775807:=O;rcases Wd k with h|rfl|rfl|rfl|rfl|rfl|rfl|rfl|rfl|rfl;·exact(afC k t w h).mono fun _ _ r=>r.to (Un k t h)
 ·exact(aft t w).mono fun _ _ r=>r.to (Bc t)
 ·exact(afu t w hm).mono fun _ _ r=>r.to (xd t)
 ·exact(afv t w).mono fun _ _ r=>r.to (Um t)
 ·exact(afw t w hm).mono fun _ _ r=>r.to (yn t)
 ·exact(afx t w hm).mono fun _ _ r=>r.to (Ix t)
 ·exact(afy t w).mono fun _ _ r=>r.to (Nu t)
 ·exact(afz t w hs).mono fun _ _ r=>r.to (Nv t)
 ·exact(afA t w hm).mono fun _ _ r=>r.to (Iy t)
 exact(afB t w hm).mono fun _ _ r=>r.to (Fl t)
def Mv(t:Q)(w:M):Prop:=Cs prog 176 #[Y t] w fun e w'=>wk (yh t) w e w'
theorem adZ(t:Q)(w:M)(hV:Mv t w):Cs prog 138 #[I J 7,Y t] w fun e w'=>wk (yh t) w e w':=by
 go_enter func138,ntmps138;go_wp2_with fail;refine gd hV ?_;rintro e w2 ⟨r,rfl,(HR:Hi _),(HD:Hi _)⟩;go_wp2_with fail;go_ret;exact⟨_,X,HR,HD⟩
theorem Dh(k:Int)(t:Q)(w:M)(hm:t.size<=9223372036854775807)(hD:sf w)(hV:Mv t w):Cs prog 138 #[I J k,Y t] w fun e w'=>wk (bu k t) w e w':=by
 rcases Wd k with h|rfl|rfl|rfl|rfl|rfl|rfl|rfl|rfl|rfl;·exact(ad2 k t w h).mono fun _ _ r=>(r.to (Un k t h)).toW
 ·exact(adT t w).mono fun _ _ r=>(r.to (Bc t)).toW
 ·exact(adU t w hm).mono fun _ _ r=>(r.to (xd t)).toW
 ·exact(adV t w).mono fun _ _ r=>(r.to (Um t)).toW
 ·exact(adW t w hm).mono fun _ _ r=>(r.to (yn t)).toW
 ·exact(adX t w hm).mono fun _ _ r=>(r.to (Ix t)).toW
 ·exact(adY t w).mono fun _ _ r=>(r.to (Nu t)).toW
 ·exact(adZ t w hV).mono fun _ _ r=>r.to (Nv t)
 ·exact(ad0 t w hm).mono fun _ _ r=>(r.to (Iy t)).toW
 exact(ad1 t w hm hD).mono fun _ _ r=>(r.to (Fl t)).toW
end
section
theorem oy(l:Ls UInt8)(i:Nat):b8 ⟨l.toArray⟩ i=((l.getD i 0).toNat:Int):=by simp[b8]
theorem re(l:Ls UInt8):(⟨l.toArray⟩:Q).size=l.length:=by show l.toArray.size=_;simp
theorem Vb(a:UInt8)(l:Ls UInt8):(⟨(a::l).toArray⟩:Q).extract 1 (⟨(a::l).toArray⟩:Q).size=⟨l.toArray⟩:=by
 apply je;rw[re];apply Array.toList_inj.1;rw[Lib.extract_data];simp
theorem Aj(x:Int)(h0:0<=x)(h1:x<256):((Uo x.toNat).toNat:Int)=x:=by(have:(Uo x.toNat).toNat=x.toNat:=by rw[UInt8.toNat_ofNat'];omega);omega
theorem aib(n:Int)(h0:0<=n)(h1:n<16777216)(rest:Ls UInt8):rl ⟨(tl n++rest).toArray⟩=(0,1+cnt n,n):=by
 have hc:=cnt_cases n;rcases hc with⟨a,b⟩|⟨a,a',b⟩|⟨a,a',b⟩|⟨a,b⟩;·(have e:tl n=[Uo n.toNat]:=by unfold tl;rw[ba a]);(have e0:b8 ⟨(tl n++rest).toArray⟩ 0=n:=by rw[oy,e];exact Aj n h0 O);unfold rl;rw[re,e0,G (by rw[e];simp),ba a,b];rfl
 ·have e:tl n=[129,Uo n.toNat]:=by unfold tl;rw[G O,ba a']
  have e0:b8 ⟨(tl n++rest).toArray⟩ 0=129:=by rw[oy,e];rfl
  have e1:b8 ⟨(tl n++rest).toArray⟩ 1=n:=by rw[oy,e];exact Aj n h0 O
  have en:dq ⟨(tl n++rest).toArray⟩ 1=n:=by simp only[dq];rw[e1];omega
  unfold rl;rw[re,e0,G (by rw[e];simp),G O,G O,G (by rw[e];simp;omega),show((129:Int)-128).toNat=1 by rfl,en,G O,b];rfl
 ·have e:tl n=[130,Uo (n/256).toNat,Uo (n%256).toNat]:=by unfold tl;rw[G O,G O,ba a']
  have e0:b8 ⟨(tl n++rest).toArray⟩ 0=130:=by rw[oy,e];rfl
  have e1:b8 ⟨(tl n++rest).toArray⟩ 1=n/256:=by rw[oy,e];exact Aj _ O O
  have e2:b8 ⟨(tl n++rest).toArray⟩ 2=n%256:=by rw[oy,e];exact Aj _ O O
  have en:dq ⟨(tl n++rest).toArray⟩ 2=n:=by simp only[dq];rw[e1,e2];omega
  unfold rl;rw[re,e0,G (by rw[e];simp),G O,G O,G (by rw[e];simp;omega),show((130:Int)-128).toNat=2 by rfl,en,G O,b];rfl
 have e:tl n=[131,Uo (n/65536).toNat,Uo (n/256%256).toNat,Uo (n%256).toNat]:=by unfold tl;rw[G O,G O,G O]
 have e0:b8 ⟨(tl n++rest).toArray⟩ 0=131:=by rw[oy,e];rfl
 have e1:b8 ⟨(tl n++rest).toArray⟩ 1=n/65536:=by rw[oy,e];exact Aj _ O O
 have e2:b8 ⟨(tl n++rest).toArray⟩ 2=n/256%256:=by rw[oy,e];exact Aj _ O O
 have e3:b8 ⟨(tl n++rest).toArray⟩ 3=n%256:=by rw[oy,e];exact Aj _ O O
 have en:dq ⟨(tl n++rest).toArray⟩ 3=n:=by simp only[dq];rw[e1,e2,e3];omega
 unfold rl;rw[re,e0,G (by rw[e];simp),G O,G O,G (by rw[e];simp;omega),show((131:Int)-128).toNat=3 by rfl,en,G O,b];rfl
theorem aep(c:Int)(b:Bool)(n l z:Int)(q1:0<=c)(q2:c<=3)(q3:0<=n)(q4:n<=30)(q5:0<=l)(q6:l<=16777215)(rest:Ls UInt8):hd ⟨(Uo (fb ⟨c,b,n,z,l⟩).toNat::(tl l++rest)).toArray⟩=if(rest.length:Int)<l then(3,.zero)else(0,⟨c,b,n,2+cnt l,l⟩):=by
 have hf:fb ⟨c,b,n,z,l⟩=c*64+n+(if b then 32 else 0):=by unfold fb;cases b<;>simp
 have W8:0<=fb ⟨c,b,n,z,l⟩/\fb ⟨c,b,n,z,l⟩<256:=by rw[hf];cases b<;>simp<;>omega
 have e0:b8 ⟨(Uo (fb ⟨c,b,n,z,l⟩).toNat::(tl l++rest)).toArray⟩ 0=fb ⟨c,b,n,z,l⟩:=by rw[oy];exact Aj _ W8.1 W8.2
 have bP:=yy l;have cP:fb ⟨c,b,n,z,l⟩%32=n:=by rw[hf];cases b<;>simp<;>omega
 have dD:fb ⟨c,b,n,z,l⟩/64=c:=by rw[hf];cases b<;>simp<;>omega
 have hd3:(fb ⟨c,b,n,z,l⟩/32%2==1)=b:=by
  rw[hf];cases b;·rw[lf];simp;omega
  rw[jq];simp;omega
 unfold hd;rw[Vb,aib l q5 O rest,e0,cP,dD,hd3,re];simp only;rw[G Sq,G O,G O];have hL:(((Uo (fb ⟨c,b,n,z,l⟩).toNat::(tl l++rest)).length:Nat):Int)=2+cnt l+rest.length:=by simp only[fu,ff];omega
 rw[hL];by_cases h:(rest.length:Int)<l;·rw[ba h,ba O]
 rw[G h,G O,show 1+cnt l+1=2+cnt l by omega]
theorem agu(x y:Ls UInt8):(⟨x.toArray⟩:Q)++⟨y.toArray⟩=⟨(x++y).toArray⟩:=by apply je;simp
theorem Pd(t:Q):t=⟨t.data.toList.toArray⟩:=by apply je;simp
end
section
open Go.Proofs.Tryz
open Go.RowKit
theorem uP(x:Int)(h0:0<=x)(h1:x<256)(w:M)(k:Nat)(hk:k=w.heap.size):(convert 52 9 (S (U (D k 0 Z)) 1 1)).run prog (w.alloc (C #[I .u8 x] 5))= .ok (Y ⟨#[Uo x.toNat]⟩) (w.alloc (C #[I .u8 x] 5)):=by subst hk;exact Nw x h0 h1 w
theorem Up(x:Int)(h0:0<=x)(h1:x<256)(W:M)(k:Nat)(hk:W.cell? (D k 0 Z)=U (I .u8 x)):(convert 52 9 (S (U (D k 0 Z)) 1 1)).run prog W= .ok (Y ⟨#[Uo x.toNat]⟩) W:=by
 refine Yy W 52 9 5 (D k 0 Z) 1 [Uo x.toNat] underlying52 underlying5 underlying9 fun j hj=>?_;have:j=0:=by simpa using hj
 subst this;have e1:((D k 0 Z):Ad).add 0=(D k 0 Z):=by unfold Addr.add;split<;>simp_all
 rw[e1,hk];have:=rp x h0 h1;unfold bv at this;simpa using this.symm
theorem Gp{a b:Q}(h:a=b):Ending.returned (Y a)=Rt (Y b):=by rw[h]
theorem aga(L:Int)(w:M)(h0:0<=L)(h1:L<128):Cs prog 147 #[I J L] w fun e w'=>e=Rt (Y ⟨#[Uo L.toNat]⟩)/\Bw w w':=by
 have hc:=uP L h0 O;go_enter func147,ntmps147;go_wp2;go_ret;exact⟨X,Be⟩
theorem agb(L:Int)(w:M)(h0:128<=L)(h1:L<256):Cs prog 147 #[I J L] w fun e w'=>e=Rt (Y ⟨#[129,Uo L.toNat]⟩)/\Bw w w':=by
 have j6:=uP (L%256) O O;have eU:=uP (129) O O;go_enter func147,ntmps147;go_wp2;refine rh 2 ?_;rw[js];go_wp2;rw[js];go_wp2;go_ret;refine⟨Gp ?_,(((cm w.heap.size w).alloc (by simp;try omega) _).alloc (by simp;try omega) _)⟩;apply je;simp;rw[show L%256=L by omega]
theorem agc(L:Int)(w:M)(h0:256<=L)(h1:L<65536):Cs prog 147 #[I J L] w fun e w'=>e=Rt (Y ⟨#[130,Uo (L/256).toNat,Uo (L%256).toNat]⟩)/\Bw w w':=by
 have hc0:=uP (L%256) O O;have j6:=uP (L/256%256) O O;have WT:=uP (130) O O;go_enter func147,ntmps147;go_wp2;refine rh 3 ?_;rw[js];go_wp2;rw[js];go_wp2;rw[js];go_wp2;go_ret;refine⟨Gp ?_,((((cm w.heap.size w).alloc (by simp;try omega) _).alloc (by simp;try omega) _).alloc (by simp;try omega) _)⟩;apply je;simp;rw[show L/256%256=L/256 by omega]
theorem agd(L:Int)(w:M)(h0:65536<=L)(h1:L<16777216):Cs prog 147 #[I J L] w fun e w'=>e=Rt (Y ⟨#[131,Uo (L/65536).toNat,Uo (L/256%256).toNat,Uo (L%256).toNat]⟩)/\Bw w w':=by
 have hc0:=uP (L%256) O O;have j6:=uP (L/256%256) O O;have eU:=uP (L/256/256%256) O O;have hc4:=uP (131) O O;go_enter func147,ntmps147;go_wp2;refine rh 4 ?_;rw[js];go_wp2;rw[js];go_wp2;rw[js];go_wp2;rw[js];go_wp2;go_ret;refine⟨Gp ?_,(((((cm w.heap.size w).alloc (by simp;try omega) _).alloc (by simp;try omega) _).alloc (by simp;try omega) _).alloc (by simp;try omega) _)⟩;apply je;simp;rw[show L/256/256%256=L/65536 by omega]
theorem Ej(L:Int)(w:M)(h0:0<=L)(h1:L<16777216):Cs prog 147 #[I J L] w fun e w'=>e=Rt (Y ⟨(tl L).toArray⟩)/\Bw w w':=by
 unfold tl;split;·exact aga L w h0 O
 split;·exact agb L w O O
 split;·exact agc L w O O
 exact agd L w O O
theorem xj{w:M}{gM:Array Oper}{rest:Ls Oper}{o:Oper}{a:Act}{ar:Exit->Act->M->Prop}(CS:o.guard=Z)(s x:Operand)(ho:o.op= .call {callee:= .builtin .append,args:=#[s,x],argTypes:=#[52,52]})(B:Nat)(v:Vv)(n:Nat)(xs:Ls Vv)(hs:a.eval s=v)(aG:w.ownsRow B 5 1 v n xs)(u:Int)(T:TypeId)(hx:a.eval x=S (U (D w.heap.size 0 Z)) 1 1)(hn:n<=1000)(hB:B<=w.heap.size)(h:∀v' w',w'.ownsRow B 5 1 v' (n+1) (xs++[I .u8 u])->H B w w'->wpList prog gM ar rest (a.put o.dst v') w'):wpList prog gM ar (o::rest) a (w.alloc (C #[I .u8 u] T)):=by
 obtain⟨i0,hi,cU,dA,bL⟩:=mh Fc;refine wpList_append_own _ CS s x 52 ho B 5 i0 (I .u8 0) 1 1 underlying52 hi cU dA bL X Dc v n xs hs (aG.alloc _) (D w.heap.size 0 Z) 1 1 [I .u8 u] hx X ?_ ?_ ?_ ?_ ?_ ?_
 ·intro j y hj
  match j,hj with
  |0,hj=>simp at hj;subst hj;simp[Addr.add]
 ·intro y hy;simp at hy;subst hy;rfl
 ·unfold maxLen;omega
 ·omega
 ·simp;omega
 intro v' w' h1 h2 _;exact h v' w' h1 (((cm B w).alloc hB _).grown h2 So fun k hk=>(aG.lt k hk).1)
theorem xf{n m:Nat}{xs ys:Ls Vv}(h:w.ownsRow B 5 1 v n xs)(hn:n=m)(hx:xs=ys):w.ownsRow B 5 1 v m ys:=by subst hn;subst hx;exact h
theorem ab2(B:Nat)(v:Vv)(n:Nat)(xs:Ls Vv)(L:Int)(w:M)(h0:0<=L)(h1:L<128)(aG:w.ownsRow B 5 1 v n xs)(hB:B<=w.heap.size)(hn:n<=900):Cs prog 185 #[v,I J L] w fun e w'=>∃v',e=Rt v'/\w'.ownsRow B 5 1 v' (n+1) (xs++[I .u8 L])/\H B w w':=by
 have HO:Hi (w.ownsRow B 5 1 v n xs):=aG;clear aG;go_enter func185,ntmps185;go_wp2_with (first|(at_builtin;refine xj X (.tmp 11) (.tmp 14) X B _ _ _ X HO.out _ _ X O hB ?_;intro v1 w1 o1 b1)|go_in);go_ret;exact⟨_,X,o1,b1⟩
theorem ab3(B:Nat)(v:Vv)(n:Nat)(xs:Ls Vv)(L:Int)(w:M)(h0:128<=L)(h1:L<256)(aG:w.ownsRow B 5 1 v n xs)(hB:B<=w.heap.size)(hn:n<=900):Cs prog 185 #[v,I J L] w fun e w'=>∃v',e=Rt v'/\w'.ownsRow B 5 1 v' (n+2) (xs++[I .u8 129,I .u8 L])/\H B w w':=by
 have HO:Hi (w.ownsRow B 5 1 v n xs):=aG;clear aG;go_enter func185,ntmps185;go_wp2_with (first|(at_builtin;refine xj X (.tmp 16) (.tmp 20) X B _ _ _ X HO.out _ _ X O hB ?_;intro v1 w1 o1 b1)|go_in);have lJ:Hi (w1.ownsRow B 5 1 v1 (n+1) (xs++[I .u8 129])):=o1;have aC:Hi (H B w w1):=b1;have bA:=fw hB b1.size;clear o1 b1;refine rh 2 ?_;rw[js];go_wp2_with (first|(at_builtin;refine xj X (.tmp 28) (.tmp 34) X B _ _ _ X lJ.out _ _ X O bA ?_;intro v2 w2 o2 b2)|go_in);have fQ:Hi (w2.ownsRow B 5 1 v2 (n+1+1) (xs++[I .u8 129]++[I .u8 L])):=o2;have aD:Hi (H B w w2):=aC.trans b2;clear o2 b2;rw[js];go_wp2_with fail;go_ret;exact⟨_,X,xf fQ X Sq,aD⟩
theorem ab4(B:Nat)(v:Vv)(n:Nat)(xs:Ls Vv)(L:Int)(w:M)(h0:256<=L)(h1:L<65536)(aG:w.ownsRow B 5 1 v n xs)(hB:B<=w.heap.size)(hn:n<=900):Cs prog 185 #[v,I J L] w fun e w'=>∃v',e=Rt v'/\w'.ownsRow B 5 1 v' (n+3) (xs++[I .u8 130,I .u8 (L/256),I .u8 (L%256)])/\H B w w':=by
 have HO:Hi (w.ownsRow B 5 1 v n xs):=aG;clear aG;go_enter func185,ntmps185;go_wp2_with (first|(at_builtin;refine xj X (.tmp 16) (.tmp 20) X B _ _ _ X HO.out _ _ X O hB ?_;intro v1 w1 o1 b1)|go_in);have lJ:Hi (w1.ownsRow B 5 1 v1 (n+1) (xs++[I .u8 130])):=o1;have aC:Hi (H B w w1):=b1;have bA:=fw hB b1.size;clear o1 b1;refine rh 3 ?_;rw[js];go_wp2_with (first|(at_builtin;refine xj X (.tmp 28) (.tmp 34) X B _ _ _ X lJ.out _ _ X O bA ?_;intro v2 w2 o2 b2)|go_in);have fQ:Hi (w2.ownsRow B 5 1 v2 (n+1+1) (xs++[I .u8 130]++[I .u8 (L/256)])):=o2;have aD:Hi (H B w w2):=aC.out.trans b2;have dW:=fw bA b2.size;clear o2 b2;rw[js];go_wp2_with (first|(at_builtin;refine xj X (.tmp 28) (.tmp 34) X B _ _ _ X fQ.out _ _ X O dW ?_;intro v3 w3 o3 b3)|go_in);have eK:Hi (w3.ownsRow B 5 1 v3 (n+1+1+1) (xs++[I .u8 130]++[I .u8 (L/256)]++[I .u8 (L%256)])):=o3;have aR:Hi (H B w w3):=aD.out.trans b3;clear o3 b3;rw[js];go_wp2_with fail;go_ret;exact⟨_,X,xf eK X Sq,aR⟩
theorem ab5(B:Nat)(v:Vv)(n:Nat)(xs:Ls Vv)(L:Int)(w:M)(h0:65536<=L)(h1:L<16777216)(aG:w.ownsRow B 5 1 v n xs)(hB:B<=w.heap.size)(hn:n<=900):Cs prog 185 #[v,I J L] w fun e w'=>∃v',e=Rt v'/\w'.ownsRow B 5 1 v' (n+4) (xs++[I .u8 131,I .u8 (L/65536),I .u8 (L/256%256),I .u8 (L%256)])/\H B w w':=by
 have HO:Hi (w.ownsRow B 5 1 v n xs):=aG;clear aG;go_enter func185,ntmps185;go_wp2_with (first|(at_builtin;refine xj X (.tmp 16) (.tmp 20) X B _ _ _ X HO.out _ _ X O hB ?_;intro v1 w1 o1 b1)|go_in);have lJ:Hi (w1.ownsRow B 5 1 v1 (n+1) (xs++[I .u8 131])):=o1;have aC:Hi (H B w w1):=b1;have bA:=fw hB b1.size;clear o1 b1;refine rh 4 ?_;rw[js];go_wp2_with (first|(at_builtin;refine xj X (.tmp 28) (.tmp 34) X B _ _ _ X lJ.out _ _ X O bA ?_;intro v2 w2 o2 b2)|go_in);have fQ:Hi (w2.ownsRow B 5 1 v2 (n+1+1) (xs++[I .u8 131]++[I .u8 (L/65536)])):=o2;have aD:Hi (H B w w2):=aC.out.trans b2;have dW:=fw bA b2.size;clear o2 b2;rw[js];go_wp2_with (first|(at_builtin;refine xj X (.tmp 28) (.tmp 34) X B _ _ _ X fQ.out _ _ X O dW ?_;intro v3 w3 o3 b3)|go_in);have eK:Hi (w3.ownsRow B 5 1 v3 (n+1+1+1) (xs++[I .u8 131]++[I .u8 (L/65536)]++[I .u8 (L/256%256)])):=o3;have aR:Hi (H B w w3):=aD.trans b3;have oJ:=fw dW b3.size;clear o3 b3;rw[js];go_wp2_with (first|(at_builtin;refine xj X (.tmp 28) (.tmp 34) X B _ _ _ X eK.out _ _ X O oJ ?_;intro v4 w4 o4 b4)|go_in);have oZ:Hi (w4.ownsRow B 5 1 v4 (n+1+1+1+1) (xs++[I .u8 131]++[I .u8 (L/65536)]++[I .u8 (L/256%256)]++[I .u8 (L%256)])):=o4;have aJ:Hi (H B w w4):=aR.out.trans b4;clear o4 b4;rw[js];go_wp2_with fail;go_ret;exact⟨_,X,xf oZ X Sq,aJ⟩
theorem Tf(B:Nat)(v:Vv)(n:Nat)(xs:Ls Vv)(L:Int)(w:M)(h0:0<=L)(h1:L<16777216)(aG:w.ownsRow B 5 1 v n xs)(hB:B<=w.heap.size)(hn:n<=900):Cs prog 185 #[v,I J L] w fun e w'=>∃v' m,e=Rt v'/\w'.ownsRow B 5 1 v' m (xs++(tl L).map bv)/\H B w w':=by
 unfold tl;split;·refine(ab2 B v n xs L w h0 O aG hB hn).mono ?_;rintro e w' ⟨v',rfl,ho,hb⟩;exact⟨v',_,X,xf ho X (by simp[rp L h0 O]),hb⟩
 split;·refine(ab3 B v n xs L w O O aG hB hn).mono ?_;rintro e w' ⟨v',rfl,ho,hb⟩;exact⟨v',_,X,xf ho X (by simp[rp L h0 O];rfl),hb⟩
 split;·refine(ab4 B v n xs L w O O aG hB hn).mono ?_;rintro e w' ⟨v',rfl,ho,hb⟩;exact⟨v',_,X,xf ho X (by simp[rp (L/256) O O,rp (L%256) O O];rfl),hb⟩
 refine(ab5 B v n xs L w O O aG hB hn).mono ?_;rintro e w' ⟨v',rfl,ho,hb⟩;exact⟨v',_,X,xf ho X (by simp[rp (L/65536) O O,rp (L/256%256) O O,rp (L%256) O O];rfl),hb⟩
theorem Yb(w:M)(x:Vv)(T:TypeId)(hB:B<=w.heap.size):(w.alloc (C #[x] T)).ownsRow B T 1 (S (U (D w.heap.size 0 Z)) 1 1) 1 [x]:=
 ⟨Sq,.inr ⟨w.heap.size,1,#[x],X,hB,bl w _,O,Dc,X,Sq⟩⟩
theorem aiB(c:Int)(b:Bool)(n s l:Int)(w:M)(sn:Sn->Ad)(hs:ei w sn)(h:c<0\/3<c\/n<0\/30<n):Cs prog 154 #[Ag #[I J c,Bo b,I J n,I J s,I J l]] w fun e w'=>e=Rt (Tu #[Y ⟨#[]⟩,be 0 (sn .Tag)])/\Bw w w':=by
 have h1:=hs.cT;have iH:=Dd hs.cT;clear hs;unfold be;by_cases q1:c<0;·clear h;go_enter func154,ntmps154;go_wp2;go_ret2;exact⟨X,Be⟩
 by_cases q2:3<c;·clear h;go_enter func154,ntmps154;go_wp2;go_ret2;exact⟨X,Be⟩
 by_cases q3:n<0;·clear h;go_enter func154,ntmps154;go_wp2;go_ret2;exact⟨X,Be⟩
 have q4:30<n:=O;clear h;go_enter func154,ntmps154;go_wp2;go_ret2;exact⟨X,Be⟩
theorem aiz(c:Int)(b:Bool)(n s l:Int)(w:M)(sn:Sn->Ad)(hs:ei w sn)(q1:0<=c)(q2:c<=3)(q3:0<=n)(q4:n<=30)(h:l<0\/16777215<l):Cs prog 154 #[Ag #[I J c,Bo b,I J n,I J s,I J l]] w fun e w'=>e=Rt (Tu #[Y ⟨#[]⟩,be 0 (sn .Length)])/\Bw w w':=by
 have h1:=hs.cL;have iH:=Dd hs.cL;clear hs;unfold be;by_cases q5:l<0;·clear h;go_enter func154,ntmps154;go_wp2;go_ret2;exact⟨X,Be⟩
 have q6:16777215<l:=O;clear h;go_enter func154,ntmps154;go_wp2;go_ret2;exact⟨X,Be⟩
theorem aiA(c:Int)(b:Bool)(n s l:Int)(w:M)(q1:0<=c)(q2:c<=3)(q3:0<=n)(q4:n<=30)(q5:0<=l)(q6:l<=16777215):Cs prog 154 #[Ag #[I J c,Bo b,I J n,I J s,I J l]] w fun e w'=>e=Rt (Tu #[Y ⟨(Uo (fb ⟨c,b,n,s,l⟩).toNat::tl l).toArray⟩,.nilIface])/\Bw w w':=by
 cases b;·(have hy:Hi (bits .or J (c*64) n%256=c*64+n):=by show _=_;rw[Vo _ _ O O O O O];omega);go_enter func154,ntmps154;go_wp2_with fail;rw[hy.out];(have nW:((w.alloc (C #[I J c,Bo false,I J n,I J s,I J l] 179)).alloc (C #[I .u8 (c*64+n)] 5)).ownsRow w.heap.size 5 1 (S (U (D (w.heap.size+1) 0 Z)) 1 1) 1 [I .u8 (c*64+n)]:=by have:=Yb (B:=w.heap.size) (w.alloc (C #[I J c,Bo false,I J n,I J s,I J l] 179)) (I .u8 (c*64+n)) 5 Sq;simpa using this);refine(Tf w.heap.size (S (U (D (w.heap.size+1) 0 Z)) 1 1) 1 [I .u8 (c*64+n)] l _ q5 O (by exact nW) So O).mono ?_;rintro e w2 ⟨v',m,rfl,ho,hb⟩;have yE:=Fm (l:=Uo (c*64+n).toNat::tl l) (xf ho X (by simp[rp (c*64+n) O O])) Sq;have HB:Hi (Bw w w2):=(((cm w.heap.size w).alloc Ln _).alloc Sq _).trans hb;clear ho hb;go_wp2;go_ret2;exact⟨X,HB⟩
 have hy:Hi (bits .or J (bits .or J (c*64) n) 32%256=c*64+n+32):=by show _=_;rw[Vo (c*64) n O O O O O,ae7 c n q1 q2 q3 q4];omega
 go_enter func154,ntmps154;go_wp2_with fail;rw[hy.out];have nW:((w.alloc (C #[I J c,Bo true,I J n,I J s,I J l] 179)).alloc (C #[I .u8 (c*64+n+32)] 5)).ownsRow w.heap.size 5 1 (S (U (D (w.heap.size+1) 0 Z)) 1 1) 1 [I .u8 (c*64+n+32)]:=by have:=Yb (B:=w.heap.size) (w.alloc (C #[I J c,Bo true,I J n,I J s,I J l] 179)) (I .u8 (c*64+n+32)) 5 Sq;simpa using this
 refine(Tf w.heap.size (S (U (D (w.heap.size+1) 0 Z)) 1 1) 1 [I .u8 (c*64+n+32)] l _ q5 O (by exact nW) So O).mono ?_;rintro e w2 ⟨v',m,rfl,ho,hb⟩;have yE:=Fm (l:=Uo (c*64+n+32).toNat::tl l) (xf ho X (by simp[rp (c*64+n+32) O O])) Sq;have HB:Hi (Bw w w2):=(((cm w.heap.size w).alloc Ln _).alloc Sq _).trans hb;clear ho hb;go_wp2;go_ret2;exact⟨X,HB⟩
theorem aix(h:Hd)(w:M)(sn:Sn->Ad)(hs:ei w sn):Cs prog 154 #[hv h] w fun e w'=>e=Rt (Tu #[Y ⟨(Gy h).2.toArray⟩,qu 0 sn (Gy h).1])/\Bw w w':=by
 obtain⟨c,b,n,s,l⟩:=h;unfold Gy;split;·rename_i q;exact aiB c b n s l w sn hs q
 rename_i q;simp only at q;split;·rename_i q';exact aiz c b n s l w sn hs O O O O q'
 rename_i q';simp only at q';exact aiA c b n s l w O O O O O O
theorem ahU(s:Q)(w:M)(DT:s.size<=9223372036854775807)(hz:s.size=0):Cs prog 105 #[Y s] w fun e w'=>e=Rt (Tu #[Ag #[I J 0,Bo false,I J 0,I J 0,I J 0],I J 3])/\Bw w w':=by
 have he:=jr hz;go_enter func105,ntmps105;go_wp2;exact db (v:=Tu #[Ag #[I J 0,Bo false,I J 0,I J 0,I J 0],I J 3]) (by simp[results,results105,go_sem]) X ⟨X,((cm w.heap.size w).alloc Ln _).alloc Sq _⟩
theorem ah2(s:Q)(w:M)(hm:s.size<=9223372036854775807)(h1:1<=s.size)(bR:(s[0].toNat:Int)<256)(aQ:((s[0].toNat:Int)%32==31)=true):Cs prog 105 #[Y s] w fun e w'=>e=Rt (Tu #[Ag #[I J 0,Bo false,I J 0,I J 0,I J 0],I J 4])/\Bw w w':=by
 have he:=gw (t:=s) O;go_enter func105,ntmps105;go_wp2;exact db (v:=Tu #[Ag #[I J 0,Bo false,I J 0,I J 0,I J 0],I J 4]) (by simp[results,results105,go_sem]) X ⟨X,((cm w.heap.size w).alloc Ln _).alloc Sq _⟩
theorem ahZ(s:Q)(w:M)(hm:s.size<=9223372036854775807)(h1:1<=s.size)(bR:(s[0].toNat:Int)<256)(aQ:((s[0].toNat:Int)%32==31)=false)(h2:s.size<2):Cs prog 105 #[Y s] w fun e w'=>e=Rt (Tu #[Ag #[I J 0,Bo false,I J 0,I J 0,I J 0],I J 3])/\Bw w w':=by
 have he:=gw (t:=s) O;go_enter func105,ntmps105;go_wp2;exact db (v:=Tu #[Ag #[I J 0,Bo false,I J 0,I J 0,I J 0],I J 3]) (by simp[results,results105,go_sem]) X ⟨X,((cm w.heap.size w).alloc Ln _).alloc Sq _⟩
theorem ah0(s:Q)(w:M)(hm:s.size<=9223372036854775807)(h1:1<=s.size)(bR:(s[0].toNat:Int)<256)(aQ:((s[0].toNat:Int)%32==31)=false)(h2:2<=s.size)(hy:(s[1].toNat:Int)<256)(hn:(s[1].toNat:Int)<128)(hl:(s.size:Int)<2+(s[1].toNat:Int)):Cs prog 105 #[Y s] w fun e w'=>e=Rt (Tu #[Ag #[I J 0,Bo false,I J 0,I J 0,I J 0],I J 3])/\Bw w w':=by
 have he:=gw (t:=s) O;go_enter func105,ntmps105;go_wp2;exact db (v:=Tu #[Ag #[I J 0,Bo false,I J 0,I J 0,I J 0],I J 3]) (by simp[results,results105,go_sem]) X ⟨X,((cm w.heap.size w).alloc Ln _).alloc Sq _⟩
theorem ah1(s:Q)(w:M)(hm:s.size<=9223372036854775807)(h1:1<=s.size)(bR:(s[0].toNat:Int)<256)(aQ:((s[0].toNat:Int)%32==31)=false)(h2:2<=s.size)(hy:(s[1].toNat:Int)<256)(hn:(s[1].toNat:Int)<128)(hl:2+(s[1].toNat:Int)<=(s.size:Int)):Cs prog 105 #[Y s] w fun e w'=>e=Rt (Tu #[Ag #[I J ((s[0].toNat:Int)/64),Bo ((s[0].toNat:Int)/32%2==1),I J ((s[0].toNat:Int)%32),I J 2,I J (s[1].toNat:Int)],I J 0])/\Bw w w':=by
 have he:=gw (t:=s) O;go_enter func105,ntmps105;go_wp2;exact db (v:=Tu #[Ag #[I J ((s[0].toNat:Int)/64),Bo ((s[0].toNat:Int)/32%2==1),I J ((s[0].toNat:Int)%32),I J 2,I J (s[1].toNat:Int)],I J 0]) (by simp[results,results105,go_sem]) X ⟨X,((cm w.heap.size w).alloc Ln _).alloc Sq _⟩
theorem ahS(s:Q)(w:M)(hm:s.size<=9223372036854775807)(h1:1<=s.size)(bR:(s[0].toNat:Int)<256)(aQ:((s[0].toNat:Int)%32==31)=false)(h2:2<=s.size)(hy:(s[1].toNat:Int)<256)(hn:128<=(s[1].toNat:Int))(hz:((s[1].toNat:Int)-128==0)=true):Cs prog 105 #[Y s] w fun e w'=>e=Rt (Tu #[Ag #[I J 0,Bo false,I J 0,I J 0,I J 0],I J 5])/\Bw w w':=by
 have he:=gw (t:=s) O;go_enter func105,ntmps105;go_wp2;exact db (v:=Tu #[Ag #[I J 0,Bo false,I J 0,I J 0,I J 0],I J 5]) (by simp[results,results105,go_sem]) X ⟨X,((cm w.heap.size w).alloc Ln _).alloc Sq _⟩
theorem ahT(s:Q)(w:M)(hm:s.size<=9223372036854775807)(h1:1<=s.size)(bR:(s[0].toNat:Int)<256)(aQ:((s[0].toNat:Int)%32==31)=false)(h2:2<=s.size)(hy:(s[1].toNat:Int)<256)(hn:128<=(s[1].toNat:Int))(hz:((s[1].toNat:Int)-128==0)=false)(bL:3<(s[1].toNat:Int)-128):Cs prog 105 #[Y s] w fun e w'=>e=Rt (Tu #[Ag #[I J 0,Bo false,I J 0,I J 0,I J 0],I J 5])/\Bw w w':=by
 have he:=gw (t:=s) O;go_enter func105,ntmps105;go_wp2;exact db (v:=Tu #[Ag #[I J 0,Bo false,I J 0,I J 0,I J 0],I J 5]) (by simp[results,results105,go_sem]) X ⟨X,((cm w.heap.size w).alloc Ln _).alloc Sq _⟩
theorem ahV(s:Q)(w:M)(hm:s.size<=9223372036854775807)(h1:1<=s.size)(bR:(s[0].toNat:Int)<256)(aQ:((s[0].toNat:Int)%32==31)=false)(h2:2<=s.size)(hy:(s[1].toNat:Int)<256)(hn:128<=(s[1].toNat:Int))(hz:((s[1].toNat:Int)-128==0)=false)(bL:(s[1].toNat:Int)-128<=3)(hl:(s.size:Int)<2+((s[1].toNat:Int)-128)):Cs prog 105 #[Y s] w fun e w'=>e=Rt (Tu #[Ag #[I J 0,Bo false,I J 0,I J 0,I J 0],I J 3])/\Bw w w':=by
 have he:=gw (t:=s) O;go_enter func105,ntmps105;go_wp2;exact db (v:=Tu #[Ag #[I J 0,Bo false,I J 0,I J 0,I J 0],I J 3]) (by simp[results,results105,go_sem]) X ⟨X,((cm w.heap.size w).alloc Ln _).alloc Sq _⟩
theorem ahY(s:Q)(w:M)(hm:s.size<=9223372036854775807)(h1:1<=s.size)(bR:(s[0].toNat:Int)<256)(aQ:((s[0].toNat:Int)%32==31)=false)(h2:2<=s.size)(hy:(s[1].toNat:Int)<256)(hn:128<=(s[1].toNat:Int))(hz:((s[1].toNat:Int)-128==0)=false)(bL:(s[1].toNat:Int)-128<=3)(c:Nat)(hb1:(s[1].toNat:Int)-128<=c)(hb2:c<=(s[1].toNat:Int)-128)(hl:2+(c:Int)<=(s.size:Int))(hq:¬(c:Int)=cnt (dq (s.extract 1 s.size) c)):Cs prog 105 #[Y s] w fun e w'=>e=Rt (Tu #[Ag #[I J 0,Bo false,I J 0,I J 0,I J 0],I J 5])/\Bw w w':=by
 have he:=gw (t:=s) O;have HX:Hi ((s[1].toNat:Int)-128=c):=by show _=_;omega
 have C1:decide ((128:Int)<=(s[1].toNat:Int))=true:=ch hn;have nG:c<=3:=O;have dH:=uU (s.extract 1 s.size) c;have JD:=dH.1;have JE:=dH.2.1 nG;clear dH;have HL:Hi _:=fun w=>Ej _ w JD JE;have fK:Hi (((⟨(tl (dq (s.extract 1 s.size) c)).toArray⟩:Q).size:Int)=1+cnt (dq (s.extract 1 s.size) c)):=by have:=yy (dq (s.extract 1 s.size) c);show(((tl (dq (s.extract 1 s.size) c)).toArray.size:Nat):Int)=_;rw[vy];exact this
 generalize(⟨(tl (dq (s.extract 1 s.size) c)).toArray⟩:Q)=t at HL fK;have wS:(2+((s[1].toNat:Int)-128)!=(t.size:Int)+1)=true:=by rw[ln];have h1:=fK.out;have h2:=HX.out;omega
 clear hq;have E4:t.size<=4:=by have:=fK.out;have:=cnt_cases (dq (s.extract 1 s.size) c);omega
 go_enter func105,ntmps105;go_wp2;go_loop [6,9] (fun n i=>∃k:Nat,k<=c/\i=I J k/\n=I J (dq (s.extract 1 s.size) k)) (fun _ i=>c-(Io i).toNat);case atStart=>exact⟨0,O,X,X⟩
 obtain⟨k,hk,rfl,rfl⟩:=hrel;have hn:=uU (s.extract 1 s.size) k;have fA:=hn.1;have nH:=hn.2.1 O;clear hn;by_cases aA:k<c;·have iB:2+k<s.size:=O;have rF:=mr s (2+k);have HE:Hi _:=gq s (2+k) iB;(have EF:(s[2+k].toNat:Int)<256:=by rw[HE.out];omega);(have HN:Hi (dq (s.extract 1 s.size) (k+1)=dq (s.extract 1 s.size) k*256+b8 s (2+k)):=by show dq (s.extract 1 s.size) k*256+b8 (s.extract 1 s.size) (k+1)=_;rw[Ip s 1 (k+1) O,show 1+(k+1)=2+k by omega]);go_wp2;go_round;(case rel=>exact⟨k+1,O,Gn,by rw[HN,HE.out];go_num⟩);exact Ms
 have aL:c=k:=O;subst aL;go_wp2_with fail;refine gd (HL _) ?_;rintro e w1 ⟨rfl,hb⟩;obtain⟨hc,hf⟩:=wu hb;have HB:Hi _:=hb;have C5:w1.cell? (D w.heap.size 0 Z)=U (I J 0):=by rw[hc w.heap.size 0 So];simp
 have bW:w1.cell? (D w.heap.size 1 Z)=U (Bo false):=by rw[hc w.heap.size 1 So];simp
 have gY:w1.cell? (D w.heap.size 2 Z)=U (I J 0):=by rw[hc w.heap.size 2 So];simp
 have nX:w1.cell? (D w.heap.size 3 Z)=U (I J 0):=by rw[hc w.heap.size 3 So];simp
 have mC:w1.cell? (D w.heap.size 4 Z)=U (I J 0):=by rw[hc w.heap.size 4 So];simp
 clear hb;go_wp2;refine db (v:=Tu #[Ag #[I J 0,Bo false,I J 0,I J 0,I J 0],I J 5]) (by simp[results,results105,go_sem,C5,bW,gY,nX,mC]) X ⟨X,?_⟩;exact Da ((((cm w.heap.size w).alloc Ln _).alloc Sq _).trans (HB.mono So)) _ Ln _ _ _ _ _
theorem ahW(s:Q)(w:M)(hm:s.size<=9223372036854775807)(h1:1<=s.size)(bR:(s[0].toNat:Int)<256)(aQ:((s[0].toNat:Int)%32==31)=false)(h2:2<=s.size)(hy:(s[1].toNat:Int)<256)(hn:128<=(s[1].toNat:Int))(hz:((s[1].toNat:Int)-128==0)=false)(bL:(s[1].toNat:Int)-128<=3)(c:Nat)(hb1:(s[1].toNat:Int)-128<=c)(hb2:c<=(s[1].toNat:Int)-128)(hl:2+(c:Int)<=(s.size:Int))(hq:(c:Int)=cnt (dq (s.extract 1 s.size) c))(hE:(s.size:Int)<2+c+dq (s.extract 1 s.size) c):Cs prog 105 #[Y s] w fun e w'=>e=Rt (Tu #[Ag #[I J 0,Bo false,I J 0,I J 0,I J 0],I J 3])/\Bw w w':=by
 have he:=gw (t:=s) O;have HX:Hi ((s[1].toNat:Int)-128=c):=by show _=_;omega
 have C1:decide ((128:Int)<=(s[1].toNat:Int))=true:=ch hn;have nG:c<=3:=O;have dH:=uU (s.extract 1 s.size) c;have JD:=dH.1;have JE:=dH.2.1 nG;clear dH;have HL:Hi _:=fun w=>Ej _ w JD JE;have fK:Hi (((⟨(tl (dq (s.extract 1 s.size) c)).toArray⟩:Q).size:Int)=1+cnt (dq (s.extract 1 s.size) c)):=by have:=yy (dq (s.extract 1 s.size) c);show(((tl (dq (s.extract 1 s.size) c)).toArray.size:Nat):Int)=_;rw[vy];exact this
 generalize(⟨(tl (dq (s.extract 1 s.size) c)).toArray⟩:Q)=t at HL fK;have wS:(2+((s[1].toNat:Int)-128)!=(t.size:Int)+1)=false:=by rw[qj];have h1:=fK.out;have h2:=HX.out;omega
 clear hq;have E4:t.size<=4:=by have:=fK.out;have:=cnt_cases (dq (s.extract 1 s.size) c);omega
 go_enter func105,ntmps105;go_wp2;go_loop [6,9] (fun n i=>∃k:Nat,k<=c/\i=I J k/\n=I J (dq (s.extract 1 s.size) k)) (fun _ i=>c-(Io i).toNat);case atStart=>exact⟨0,O,X,X⟩
 obtain⟨k,hk,rfl,rfl⟩:=hrel;have hn:=uU (s.extract 1 s.size) k;have fA:=hn.1;have nH:=hn.2.1 O;clear hn;by_cases aA:k<c;·have iB:2+k<s.size:=O;have rF:=mr s (2+k);have HE:Hi _:=gq s (2+k) iB;(have EF:(s[2+k].toNat:Int)<256:=by rw[HE.out];omega);(have HN:Hi (dq (s.extract 1 s.size) (k+1)=dq (s.extract 1 s.size) k*256+b8 s (2+k)):=by show dq (s.extract 1 s.size) k*256+b8 (s.extract 1 s.size) (k+1)=_;rw[Ip s 1 (k+1) O,show 1+(k+1)=2+k by omega]);go_wp2;go_round;(case rel=>exact⟨k+1,O,Gn,by rw[HN,HE.out];go_num⟩);exact Ms
 have aL:c=k:=O;subst aL;go_wp2_with fail;refine gd (HL _) ?_;rintro e w1 ⟨rfl,hb⟩;obtain⟨hc,hf⟩:=wu hb;have HB:Hi _:=hb;have C5:w1.cell? (D w.heap.size 0 Z)=U (I J 0):=by rw[hc w.heap.size 0 So];simp
 have bW:w1.cell? (D w.heap.size 1 Z)=U (Bo false):=by rw[hc w.heap.size 1 So];simp
 have gY:w1.cell? (D w.heap.size 2 Z)=U (I J 0):=by rw[hc w.heap.size 2 So];simp
 have nX:w1.cell? (D w.heap.size 3 Z)=U (I J 0):=by rw[hc w.heap.size 3 So];simp
 have mC:w1.cell? (D w.heap.size 4 Z)=U (I J 0):=by rw[hc w.heap.size 4 So];simp
 clear hb;go_wp2;refine db (v:=Tu #[Ag #[I J 0,Bo false,I J 0,I J 0,I J 0],I J 3]) (by simp[results,results105,go_sem,C5,bW,gY,nX,mC]) X ⟨X,?_⟩;exact Da ((((cm w.heap.size w).alloc Ln _).alloc Sq _).trans (HB.mono So)) _ Ln _ _ _ _ _
theorem ahX(s:Q)(w:M)(hm:s.size<=9223372036854775807)(h1:1<=s.size)(bR:(s[0].toNat:Int)<256)(aQ:((s[0].toNat:Int)%32==31)=false)(h2:2<=s.size)(hy:(s[1].toNat:Int)<256)(hn:128<=(s[1].toNat:Int))(hz:((s[1].toNat:Int)-128==0)=false)(bL:(s[1].toNat:Int)-128<=3)(c:Nat)(hb1:(s[1].toNat:Int)-128<=c)(hb2:c<=(s[1].toNat:Int)-128)(hl:2+(c:Int)<=(s.size:Int))(hq:(c:Int)=cnt (dq (s.extract 1 s.size) c))(hE:2+c+dq (s.extract 1 s.size) c<=(s.size:Int)):Cs prog 105 #[Y s] w fun e w'=>e=Rt (Tu #[Ag #[I J ((s[0].toNat:Int)/64),Bo ((s[0].toNat:Int)/32%2==1),I J ((s[0].toNat:Int)%32),I J (2+((s[1].toNat:Int)-128)),I J (dq (s.extract 1 s.size) c)],I J 0])/\Bw w w':=by
 have he:=gw (t:=s) O;have HX:Hi ((s[1].toNat:Int)-128=c):=by show _=_;omega
 have C1:decide ((128:Int)<=(s[1].toNat:Int))=true:=ch hn;have nG:c<=3:=O;have dH:=uU (s.extract 1 s.size) c;have JD:=dH.1;have JE:=dH.2.1 nG;clear dH;have HL:Hi _:=fun w=>Ej _ w JD JE;have fK:Hi (((⟨(tl (dq (s.extract 1 s.size) c)).toArray⟩:Q).size:Int)=1+cnt (dq (s.extract 1 s.size) c)):=by have:=yy (dq (s.extract 1 s.size) c);show(((tl (dq (s.extract 1 s.size) c)).toArray.size:Nat):Int)=_;rw[vy];exact this
 generalize(⟨(tl (dq (s.extract 1 s.size) c)).toArray⟩:Q)=t at HL fK;have wS:(2+((s[1].toNat:Int)-128)!=(t.size:Int)+1)=false:=by rw[qj];have h1:=fK.out;have h2:=HX.out;omega
 clear hq;have E4:t.size<=4:=by have:=fK.out;have:=cnt_cases (dq (s.extract 1 s.size) c);omega
 go_enter func105,ntmps105;go_wp2;go_loop [6,9] (fun n i=>∃k:Nat,k<=c/\i=I J k/\n=I J (dq (s.extract 1 s.size) k)) (fun _ i=>c-(Io i).toNat);case atStart=>exact⟨0,O,X,X⟩
 obtain⟨k,hk,rfl,rfl⟩:=hrel;have hn:=uU (s.extract 1 s.size) k;have fA:=hn.1;have nH:=hn.2.1 O;clear hn;by_cases aA:k<c;·have iB:2+k<s.size:=O;have rF:=mr s (2+k);have HE:Hi _:=gq s (2+k) iB;(have EF:(s[2+k].toNat:Int)<256:=by rw[HE.out];omega);(have HN:Hi (dq (s.extract 1 s.size) (k+1)=dq (s.extract 1 s.size) k*256+b8 s (2+k)):=by show dq (s.extract 1 s.size) k*256+b8 (s.extract 1 s.size) (k+1)=_;rw[Ip s 1 (k+1) O,show 1+(k+1)=2+k by omega]);go_wp2;go_round;(case rel=>exact⟨k+1,O,Gn,by rw[HN,HE.out];go_num⟩);exact Ms
 have aL:c=k:=O;subst aL;go_wp2_with fail;refine gd (HL _) ?_;rintro e w1 ⟨rfl,hb⟩;obtain⟨hc,hf⟩:=wu hb;have HB:Hi _:=hb;have C5:w1.cell? (D w.heap.size 0 Z)=U (I J 0):=by rw[hc w.heap.size 0 So];simp
 have bW:w1.cell? (D w.heap.size 1 Z)=U (Bo false):=by rw[hc w.heap.size 1 So];simp
 have gY:w1.cell? (D w.heap.size 2 Z)=U (I J 0):=by rw[hc w.heap.size 2 So];simp
 have nX:w1.cell? (D w.heap.size 3 Z)=U (I J 0):=by rw[hc w.heap.size 3 So];simp
 have mC:w1.cell? (D w.heap.size 4 Z)=U (I J 0):=by rw[hc w.heap.size 4 So];simp
 clear hb;go_wp2;refine db (v:=Tu #[Ag #[I J ((s[0].toNat:Int)/64),Bo ((s[0].toNat:Int)/32%2==1),I J ((s[0].toNat:Int)%32),I J (2+((s[1].toNat:Int)-128)),I J (dq (s.extract 1 s.size) c)],I J 0]) (by simp[results,results105,go_sem,C5,bW,gY,nX,mC]) X ⟨X,?_⟩;exact Da ((((cm w.heap.size w).alloc Ln _).alloc Sq _).trans (HB.mono So)) _ Ln _ _ _ _ _
theorem Yj(s:Q)(w:M)(hm:s.size<=9223372036854775807):Cs prog 105 #[Y s] w fun e w'=>e=Rt (Tu #[hv (hd s).2,I J (hd s).1])/\Bw w w':=by
 have hT:(s.extract 1 s.size).size=s.size-1:=Sq;unfold hd;split;·rename_i h;exact ahU s w hm h
 rename_i h;have h1:1<=s.size:=O;have bO:=mr s 0;have e0:=gq s 0 h1;have bR:(s[0].toNat:Int)<256:=by rw[e0];omega
 split;·rename_i h2;exact ah2 s w hm h1 bR (by rw[e0,jq];exact h2)
 rename_i h2;have aQ:((s[0].toNat:Int)%32==31)=false:=by rw[e0,lf];exact h2
 by_cases h3:s.size<2;·(have hr:rl (s.extract 1 s.size)=(3,0,0):=by unfold rl;rw[ba O]);rw[hr];exact ahZ s w hm h1 bR aQ h3
 have h3:2<=s.size:=O;have e1:=gq s 1 O;have hb1:=mr s 1;have eT:b8 (s.extract 1 s.size) 0=b8 s 1:=Ip s 1 0 O;have hy:(s[1].toNat:Int)<256:=by rw[e1];omega
 by_cases hn:b8 s 1<128
 ·have hr:rl (s.extract 1 s.size)=(0,1,b8 s 1):=by unfold rl;rw[G O,eT,ba hn]
  rw[hr];simp only;rw[G O];split;·exact ah0 s w hm h1 bR aQ h3 hy (by rw[e1];exact hn) (by rw[e1];omega)
  have:=ah1 s w hm h1 bR aQ h3 hy (by rw[e1];exact hn) (by rw[e1];omega);rw[e0,e1]at this;exact this
 have EO:128<=(s[1].toNat:Int):=by rw[e1];omega
 by_cases L2:b8 s 1=128\/131<b8 s 1
 ·have hr:rl (s.extract 1 s.size)=(5,0,0):=by unfold rl;rw[G O,eT,G hn,ba L2]
  rw[hr];by_cases hz:b8 s 1=128;·exact ahS s w hm h1 bR aQ h3 hy EO (by rw[e1,jq];omega)
  exact ahT s w hm h1 bR aQ h3 hy EO (by rw[e1,lf];omega) (by rw[e1];omega)
 have hz:((s[1].toNat:Int)-128==0)=false:=by rw[e1,lf];omega
 have bL:(s[1].toNat:Int)-128<=3:=by rw[e1];omega
 by_cases hl:(s.size:Int)<2+(b8 s 1-128);·(have hr:rl (s.extract 1 s.size)=(3,0,0):=by unfold rl;rw[G O,eT,G hn,G L2,ba O]);rw[hr];exact ahV s w hm h1 bR aQ h3 hy EO hz bL (by rw[e1];exact hl)
 obtain⟨c,hc⟩:=sg (show 0<=b8 s 1-128 by omega);by_cases hq:(c:Int)=cnt (dq (s.extract 1 s.size) c)
 ·have hr:rl (s.extract 1 s.size)=(0,1+(c:Int),dq (s.extract 1 s.size) c):=by unfold rl;rw[G O,eT,G hn,G L2,G O,hc,ld,G O]
  rw[hr];simp only;rw[G O];split;·exact ahW s w hm h1 bR aQ h3 hy EO hz bL c (by rw[e1];omega) (by rw[e1];omega) O hq O
  have:=ahX s w hm h1 bR aQ h3 hy EO hz bL c (by rw[e1];omega) (by rw[e1];omega) O hq O;rw[e0,e1,show((2:Nat):Int)+(b8 s 1-128)=1+(c:Int)+1 by omega]at this;exact this
 have hr:rl (s.extract 1 s.size)=(5,0,0):=by unfold rl;rw[G O,eT,G hn,G L2,G O,hc,ld,ba hq]
 rw[hr];exact ahY s w hm h1 bR aQ h3 hy EO hz bL c (by rw[e1];omega) (by rw[e1];omega) O hq
structure vw(w:M)(k:Nat)(c:Int)(b:Bool)(n z l:Int):Prop where
 f0:w.cell? (D k 0 Z)=U (I J c)
 f1:w.cell? (D k 1 Z)=U (Bo b)
 f2:w.cell? (D k 2 Z)=U (I J n)
 f3:w.cell? (D k 3 Z)=U (I J z)
 f4:w.cell? (D k 4 Z)=U (I J l)
theorem vw.lt(h:vw w k c b n z l):k<w.heap.size:=Dd h.f0
theorem vw.below(h:vw w k c b n z l)(hb:Bw w w'):vw w' k c b n z l:=
 ⟨(hb.cell h.lt).trans h.f0,(hb.cell h.lt).trans h.f1,(hb.cell h.lt).trans h.f2,(hb.cell h.lt).trans h.f3,(hb.cell h.lt).trans h.f4⟩
theorem vw.new(w:M)(c:Int)(b:Bool)(n z l:Int)(T:TypeId):vw (w.alloc (C #[I J c,Bo b,I J n,I J z,I J l] T)) w.heap.size c b n z l:=
 ⟨Sq,Sq,Sq,Sq,Sq⟩
theorem vw.alloc(h:vw w k c b n z l)(o:Obj):vw (w.alloc o) k c b n z l:=h.below Be
theorem aaU(c n l:Int)(w:M)(q1:0<=c)(q2:c<=3)(q3:0<=n)(q4:n<=30)(q5:0<=l)(q6:l<=16777215):Cs prog 130 #[I J c,Bo false,I J n,I J l] w fun e w'=>e=Rt (Y ⟨(Uo (c*64+n).toNat::tl l).toArray⟩)/\Bw w w':=by
 have hc:=Up (64*c+n) O O;have h8:IntKind.u8.wrap (64*c+n)=64*c+n:=by rw[IntKind.wrap_u8];omega
 have jP:Hi ((⟨#[Uo (64*c+n).toNat]⟩:Q)++⟨(tl l).toArray⟩=⟨(Uo (c*64+n).toNat::tl l).toArray⟩):=by show _=_;rw[show 64*c+n=c*64+n by omega];apply je;simp
 have fK:(⟨(tl l).toArray⟩:Q).size<=4:=by have h1:=yy l;have h2:=cnt_cases l;show(tl l).toArray.size<=4;rw[vy];omega
 have HL:Hi _:=fun w=>Ej l w q5 O;generalize(⟨(tl l).toArray⟩:Q)=t at jP fK HL;go_enter func130,ntmps130;go_wp2_with fail;go_region_with (go_at_call 147;refine(HL _).mono ?_;rintro e w2 ⟨rfl,hb2⟩;obtain⟨eU,lY⟩:=wu hb2);all_goals(try go_wp2)
 all_goals go_ret
 all_goals refine⟨Gp jP.out,?_⟩
 all_goals first
  |exact((cm w.heap.size w).alloc Ln _).drew.trans (hb2.mono Sq)
  |exact((cm w.heap.size w).drew.trans (hb2.mono Ln)).alloc hb2.size _
theorem aaV(c n l:Int)(w:M)(q1:0<=c)(q2:c<=3)(q3:0<=n)(q4:n<=30)(q5:0<=l)(q6:l<=16777215):Cs prog 130 #[I J c,Bo true,I J n,I J l] w fun e w'=>e=Rt (Y ⟨(Uo (c*64+n+32).toNat::tl l).toArray⟩)/\Bw w w':=by
 have hc:=Up (64*c+n+32) O O;have h8:IntKind.u8.wrap (64*c+n+32)=64*c+n+32:=by rw[IntKind.wrap_u8];omega
 have jP:Hi ((⟨#[Uo (64*c+n+32).toNat]⟩:Q)++⟨(tl l).toArray⟩=⟨(Uo (c*64+n+32).toNat::tl l).toArray⟩):=by show _=_;rw[show 64*c+n+32=c*64+n+32 by omega];apply je;simp
 have fK:(⟨(tl l).toArray⟩:Q).size<=4:=by have h1:=yy l;have h2:=cnt_cases l;show(tl l).toArray.size<=4;rw[vy];omega
 have HL:Hi _:=fun w=>Ej l w q5 O;generalize(⟨(tl l).toArray⟩:Q)=t at jP fK HL;go_enter func130,ntmps130;go_wp2_with fail;go_region_with (go_at_call 147;refine(HL _).mono ?_;rintro e w2 ⟨rfl,hb2⟩;obtain⟨eU,lY⟩:=wu hb2);all_goals(try go_wp2)
 all_goals go_ret
 all_goals refine⟨Gp jP.out,?_⟩
 all_goals first
  |exact((cm w.heap.size w).alloc Ln _).drew.trans (hb2.mono Sq)
  |exact((cm w.heap.size w).drew.trans (hb2.mono Ln)).alloc hb2.size _
theorem aaT(h:Hd)(w:M)(q1:0<=h.c)(q2:h.c<=3)(q3:0<=h.n)(q4:h.n<=30)(q5:0<=h.l)(q6:h.l<=16777215):Cs prog 130 #[I J h.c,Bo h.b,I J h.n,I J h.l] w fun e w'=>e=Rt (Y ⟨(Uo (fb h).toNat::tl h.l).toArray⟩)/\Bw w w':=by
 obtain⟨c,b,n,s,l⟩:=h;cases b;·exact aaU c n l w q1 q2 q3 q4 q5 q6
 exact aaV c n l w q1 q2 q3 q4 q5 q6
end
