/- Parts. -/
import Derived.Test.YtkkicodfpekbgaaGreatDoorJd0
import Derived.Test.YtkkicodfpekbgaaGreatDoorJc3
import Derived.Test.YtkkicodfpekbgaaGreatDoorJd2
import Derived.Handy
import Derived.Deep.RegionHeldLaw
open Go.Value renaming int->I,string->Y,slice->S,pointer->Po,bool->Bo,agg->Ag,tuple->Tu,iface->If
open Go.IntKind renaming i64->J
open Go.Obj renaming cells->C
open Go.Ending renaming returned->Rt
open Option renaming some->U,none->Z
open Go renaming World->M,Calls->Cs,Addr->Ad,Value->Vv
open _root_ renaming ByteArray->Q,Option->Oo,List->Ls
open Go.World renaming cell?->Wc,frozen?->Wf
open Go.Act renaming put->Ap,eval->Ae
open Go.RowKit renaming intOf->Io,Hid->Hi
open Go.Addr renaming mk->D
set_option linter.all false
set_option maxRecDepth 100000
set_option maxHeartbeats 8000000
namespace Go.Proofs.YtkkicodfpekbgaaGreatDoor
variable{A:Array Vv}{set:Bool}{h:Hd}{e p dp cl nu:Int}{s:Ls Nd}{tree vs aE:Ls Vl}{w W w1 w':M}{i k n j R c x tz m f z y gb:Nat}{N:Nd}{a:Oo Ad}{t u data last:Q}{T:TypeId}
section
open Go.Proofs.Tryz
open Go.RowKit
theorem Ow(ht:N.tag<0)(hm:N.mode=0):N.lays=[(0,own N.kind,false)]:=by unfold Nd.lays Nd.ownT;rw[G O,G O]
theorem af5(ht:0<=N.tag)(hm:N.mode=0):N.lays=[(2,N.tag,false)]:=by unfold Nd.lays Nd.ownT;rw[G O,ba ⟨hm,ht⟩]
theorem af6(hm:N.mode=1):N.lays=[(2,N.tag,true),(0,own N.kind,false)]:=by unfold Nd.lays Nd.ownT;rw[ba hm,G O]
theorem Gw{f:Int×Int×Bool}:ku [f] t=U u↔((hd t).1=0/\((hd t).2.c,(hd t).2.n,(hd t).2.b)=f/\(hd t).2.s+(hd t).2.l=t.size)/\u=t.extract (hd t).2.s.toNat t.size:=by
 show(if _ then U _ else Z)=_↔_;by_cases h:(hd t).1=0/\((hd t).2.c,(hd t).2.n,(hd t).2.b)=f/\(hd t).2.s+(hd t).2.l=t.size;·rw[ba h];exact⟨fun e=>⟨h,by injection e with e;exact e.symm⟩,fun e=>by rw[e.2]⟩
 rw[G h];exact⟨fun e=>(by cases e),fun e=>Ab e.1 h⟩
theorem Qc{f:Int×Int×Bool}{fs:Ls (Int×Int×Bool)}:ku (f::fs) t=U u↔((hd t).1=0/\((hd t).2.c,(hd t).2.n,(hd t).2.b)=f/\(hd t).2.s+(hd t).2.l=t.size)/\ku fs (t.extract (hd t).2.s.toNat t.size)=U u:=by
 show(if _ then _ else Z)=_↔_;by_cases h:(hd t).1=0/\((hd t).2.c,(hd t).2.n,(hd t).2.b)=f/\(hd t).2.s+(hd t).2.l=t.size;·rw[ba h];exact⟨fun e=>⟨h,e⟩,fun e=>e.2⟩
 rw[G h];exact⟨fun e=>(by cases e),fun e=>Ab e.1 h⟩
theorem uv(ht:N.tag<0->N.mode=0)(hm:N.mode=0\/N.mode=1):iv N t u↔(ku N.lays t=U u/\bu N.kind u):=by
 unfold iv pg;rw[Oj];by_cases h0:N.tag<0
 ·rw[Ow h0 (ht h0),Gw];constructor
  ·rintro⟨_,h1,h2,h3⟩;rcases h3 with⟨_,b,c,d,e,f⟩|⟨a,_⟩|⟨a,_⟩;(·exact⟨⟨⟨h1,by rw[b,c,d],O⟩,by rw[e,ly]⟩,f⟩);(·omega);omega
  rintro⟨⟨⟨h1,h2,h3⟩,h4⟩,h5⟩;injection h2 with b h2;injection h2 with c d;exact⟨O,h1,O,.inl ⟨h0,b,c,d,by rw[h4,ly],h5⟩⟩
 rcases hm with hm|hm
 ·rw[af5 O hm,Gw];constructor
  ·rintro⟨_,h1,h2,h3⟩;rcases h3 with⟨a,_⟩|⟨_,_,b,c,d,e,f⟩|⟨_,a,_⟩;(·omega);(·exact⟨⟨⟨h1,by rw[b,c,d],O⟩,by rw[e,ly]⟩,f⟩);omega
  rintro⟨⟨⟨h1,h2,h3⟩,h4⟩,h5⟩;injection h2 with b h2;injection h2 with c d;exact⟨O,h1,O,.inr (.inl ⟨O,hm,b,c,d,by rw[h4,ly],h5⟩)⟩
 rw[af6 hm,Qc,Gw];constructor
 ·rintro⟨_,h1,h2,h3⟩;rcases h3 with⟨a,_⟩|⟨_,a,_⟩|⟨_,_,b,c,d,t',e,f,g,h,i,j,k,l⟩;·omega
  ·omega
  rw[ly]at e k;have ho:=pq h1;have hz:t'.size=t.size-(hd t).2.s.toNat:=by rw[e];simp
  rw[<-e];refine⟨⟨⟨h1,by rw[b,c,d],O⟩,⟨f,by rw[g,h,i],O⟩,?_⟩,l⟩;have RE:min ((hd t).2.s.toNat+(t.size-(hd t).2.s.toNat)) t.size=t.size:=O;rw[k,hz,e,Ee,RE]
 rintro⟨⟨⟨h1,h2,h3⟩,⟨f,h4,h6⟩,h7⟩,h5⟩;injection h2 with b h2;injection h2 with c d;injection h4 with g h4;injection h4 with h i;have ho:=pq h1;have hz:(t.extract (hd t).2.s.toNat t.size).size=t.size-(hd t).2.s.toNat:=Sq;have RE:min ((hd t).2.s.toNat+(t.size-(hd t).2.s.toNat)) t.size=t.size:=O;refine⟨O,h1,O,.inr (.inr ⟨O,O,b,c,d,t.extract (hd t).2.s.toNat t.size,by rw[ly],f,g,h,i,?_,?_,h5⟩)⟩;·omega
 rw[h7,hz,Ee,ly,RE]
theorem Vs(n:Nd)(ka:Oo Ad)(kc:Nat)(t:Q)(w:M)(sn:Sn->Ad)(hl:gy w sn)(hT:fx n)(bQ:1<=n.kind)(hm:t.size<=140737488355328):Cs prog 95 #[Ag #[I J n.kind,I J n.tag,I J n.mode,S ka n.kids.length kc],Y t] w fun e w'=>dw (n.kind<=9/\∃u,iv n t u) w e w':=by
 by_cases h9:9<n.kind;·(have HX:Hi (¬(n.kind<=9/\∃u,iv n t u)):=fun q=>by have:=q.1;omega);clear hl hT;go_enter func95,ntmps95;go_wp2;go_ret;exact cg HX Be
 have D1:n.kind<=9:=O;have WG:=hT;unfold fx at WG;have HE:Hi (∀u,iv n t u↔(ku n.lays t=U u/\bu n.kind u)):=fun u=>uv O O;have HW:Hi (∀wq,Bw w wq->Cs prog 137 #[Ag #[I J n.kind,I J n.tag,I J n.mode,S ka n.kids.length kc],Y t] wq fun e w'=>Rz n t wq e w'):=fun wq q=>Zz n ka kc t wq sn (hl.below q).s (hl.below q).n O O D1 O hm;have HF:Hi (∀u wq,u.size<=t.size->Bw w wq->Cs prog 138 #[I J n.kind,Y u] wq fun e w'=>wk (bu n.kind u) wq e w'):=fun u wq hu q=>Dh n.kind u wq O (hl.below q).d (Bv u wq O (hl.below q).t);clear hl hT WG h9;go_enter func95,ntmps95;go_wp2_with fail;refine(HW _ Be).mono ?_;rintro e w1 ⟨u,r,rfl,hr,hb1,hu⟩;have aC:Hi (Bw w w1):=dj hb1;have HG:=bc (bl w (C #[I J n.kind,I J n.tag,I J n.mode,S ka n.kids.length kc] 58)) hb1;have q0:w1.cell? (D w.heap.size 0 Z)=U (I J n.kind):=by simp[Wc,HG]
 clear HG hb1;cases r
 ·have HX:Hi (¬(n.kind<=9/\∃u,iv n t u)):=by
   rcases hr with⟨e,_⟩|⟨_,e⟩;(·cases e);rintro⟨_,u,q⟩;rw[HE,e]at q;cases q.1
  clear hr;go_wp2;go_ret;exact cg HX aC
 have HX:Hi (ku n.lays t=U u):=by
  rcases hr with⟨_,e⟩|⟨e,_⟩;·exact e
  cases e
 clear hr;go_wp2_with fail;refine(HF u _ hu aC).mono ?_;rintro e w2 ⟨r,rfl,hr,hb2⟩;have HR:Hi (r=true↔(n.kind<=9/\∃u,iv n t u)):=by refine hr.trans ⟨fun q=>⟨D1,u,(HE u).2 ⟨HX,q⟩⟩,?_⟩;rintro⟨_,v,q⟩;rw[HE,HX.out]at q;obtain⟨q1,q2⟩:=q;injection q1 with q1;rw[q1];exact q2
 have aD:Hi (Bw w w2):=Tm aC hb2;clear hr hb2;go_wp2;go_ret;exact yv HR aD
theorem ady(s:Ls Nd)(a:Oo Ad)(c:Nat)(n:Nd)(ka:Oo Ad)(kc:Nat)(w:M)(sn:Sn->Ad)(hl:gy w sn)(hs:ew w a s)(aK:bn w ka n.kids)(gA:n.kids.length<=8)(hw:∀j,j<n.kids.length->∃t:Nat,(kd n j).node=t/\t<s.length)(hT:∀i,i<s.length->fx (nd s i))(dR:xw s)(hn:s.length<=40)(hd:∀j,j<n.kids.length->(kd n j).dflt.size<=140737488351232):Cs prog 62 #[S a s.length c,Ag #[I J n.kind,I J n.tag,I J n.mode,S ka n.kids.length kc]] w fun e w'=>dw (rk s n n.kids.length) w e w':=by
 have fN:Hi _:=aK;have kY:Hi _:=hw;have HS:Hi _:=hs;have HD:Hi (∀j,j<n.kids.length->(kd n j).dflt.size<=140737488351232):=hd;have HIE:Hi (∀(i:Nat) (ka:Oo Ad) (kc:Nat) (t:Q) (wq:M),i<s.length->t.size<=140737488351232->Bw w wq->Cs prog 95 #[Ag #[I J (nd s i).kind,I J (nd s i).tag,I J (nd s i).mode,S ka (nd s i).kids.length kc],Y t] wq fun e w'=>dw ((nd s i).kind<=9/\∃u,iv (nd s i) t u) wq e w'):=fun i ka kc t wq hi ht q=>Vs (nd s i) ka kc t wq sn (hl.below q) (hT i hi) (dR i hi).1 O;clear aK hw hs hd hl hT dR;go_enter func62,ntmps62;go_wp2;have aY:Hi (Bw w (w.alloc (C #[I J n.kind,I J n.tag,I J n.mode,S ka n.kids.length kc] 58))):=Be;go_loopw [10] (fun vi wr=>∃i:Nat,i<=n.kids.length/\vi=I J i/\rk s n i/\Bw w wr) (fun vi _=>n.kids.length-(Io vi).toNat);case atStart=>exact⟨0,Lz,X,fun _ h=>Ab h (dh _),aY⟩
 obtain⟨i,hi,rfl,(HA:Hi _),(HB:Hi _)⟩:=hrel;by_cases aA:i<n.kids.length
 ·have aN:(i:Int)<n.kids.length:=O;obtain⟨kb,ko,rfl,aX⟩:=fN i aA;obtain⟨ty,yo,yd,hy,vM⟩:=Fw kY aA;have HY:Hi (kd n i=⟨ty,yo,yd⟩):=hy;have qD:my w kb (ko+i*3) ⟨ty,yo,yd⟩:=by rw[<-hy];exact aX
  have AA:yd.size<=140737488351232:=by have:=HD i aA;rw[hy]at this;exact this
  obtain⟨k1,k2,k3⟩:=qD.below HB;simp only at k1 k2 k3;have aD:Hi (Bw w (wr.alloc (C #[I J ty,Bo yo,Y yd] 55))):=HB.alloc HB.size _;obtain⟨b,o,R5,gT,rfl,nc,_⟩:=HS ty vM;have X0:∀x:bh (wr.alloc (C #[I J ty,Bo yo,Y yd] 55)),x.v.cell? (D wr.heap.size 0 Z)=U (I J ty):=fun x=>x.new X;have X2:∀x:bh (wr.alloc (C #[I J ty,Bo yo,Y yd] 55)),x.v.cell? (D wr.heap.size 2 Z)=U (Y yd):=fun x=>x.new X;have X3:∀x:bh (wr.alloc (C #[I J ty,Bo yo,Y yd] 55)),x.v.cell? (D b (o+ty*4) Z)=U (I J (nd s ty).kind):=fun x=>bh.far aD x nc.kind;have X4:∀x:bh (wr.alloc (C #[I J ty,Bo yo,Y yd] 55)),x.v.cell? (D b (o+ty*4+1) Z)=U (I J (nd s ty).tag):=fun x=>bh.far aD x nc.tag;have X5:∀x:bh (wr.alloc (C #[I J ty,Bo yo,Y yd] 55)),x.v.cell? (D b (o+ty*4+2) Z)=U (I J (nd s ty).mode):=fun x=>bh.far aD x nc.mode;have X6:∀x:bh (wr.alloc (C #[I J ty,Bo yo,Y yd] 55)),x.v.cell? (D b (o+ty*4+3) Z)=U (S R5 (nd s ty).kids.length gT):=fun x=>bh.far aD x nc.kids;obtain⟨r,hr⟩:=It ((nd s ty).kind<=9/\∃u,iv (nd s ty) yd u);have HR:Hi _:=hr;have HM:Hi _:=fun x=>bh.callsR hr (HIE ty R5 gT yd x.v vM AA (bh.bel aD x));have YY:(ty:Int)<s.length:=O;have BW:Hi (yd.size=0\/((nd s ty).kind<=9/\∃u,iv (nd s ty) yd u)->rk s n (i+1)):=fun h j hj=>by
   by_cases e:j=i;(·subst e;rw[HY.out];simpa using h);exact HA j O
  have aad:Hi (0<yd.size->¬((nd s ty).kind<=9/\∃u,iv (nd s ty) yd u)->¬rk s n n.kids.length):=fun h1 h2 q=>by
   have:=q i aA;rw[HY.out]at this;simp only[ld]at this;rcases this with h|h;(·omega);exact h2 h
  clear hy aX qD nc hr;by_cases hz:yd.size=0;·have e0:=jr hz;have HZ:Hi _:=hz;clear hz;go_wp2_with fail;(have ne:=nh;refine nk Kr Kr ?_;(repeat(first|go_big_quiet_skip|(go_big_quiet_want;go_big_quiet_op;first|go_big_quiet_on|(apply Exists.intro;refine⟨fun x=>?_,?_⟩;(·(exact HM x));go_big_quiet_on))));refine nj ?_);intro w5 aH;have aO:Hi _:=Tm aD aH;clear X0 X2 X3 X4 X5 X6 aH HM;go_wp2;go_roundw;(case rel=>exact⟨i+1,O,Gn,BW (.inl HZ),aO⟩);exact Ms
  have e0:=gw (t:=yd) O;have HZ:Hi (0<yd.size):=by show 0<yd.size;omega
  clear hz;go_wp2_with fail;(have ne:=nh;refine nk Kr Kr ?_;(repeat(first|go_big_quiet_skip|(go_big_quiet_want;go_big_quiet_op;first|go_big_quiet_on|(apply Exists.intro;refine⟨fun x=>?_,?_⟩;(·(exact HM x));go_big_quiet_on))));refine nj ?_);intro w5 aH;have aO:Hi _:=Tm aD aH;clear X0 X2 X3 X4 X5 X6 aH HM;cases r;·go_wp2;go_ret;exact cg (aad HZ (fun q=>Bool.noConfusion (HR.2 q))) aO
  go_wp2;go_roundw;case rel=>exact⟨i+1,O,Gn,BW (.inr (HR.1 X)),aO⟩
  exact Ms
 have aN:(n.kids.length:Int)<=i:=O;have HI:Hi (i=n.kids.length):=by show i=_;omega
 go_wp2;go_ret;exact ia (HI▸HA) HB
def Ie(s:Ls Nd)(za:Ad)(w:M)(e:Ending)(w':M):Prop:=Bw w w'/\((e=Rt .nilIface/\ee s)\/((∃p:Int,e=Rt (be p za))/\¬ee s))
theorem Ov(h:∀i,i<s.length->mw s.length (nd s i))(hi:i<s.length):∀j,j<(nd s i).kids.length->∃t:Nat,(kd (nd s i) j).node=t/\t<s.length:=fun j hj=>by
 have q:=(h i hi).2.2.2 j hj;have q1:=q.1;have q2:=q.2.1;exact⟨(kd (nd s i) j).node.toNat,O,O⟩
theorem yx(h:∀i,i<s.length->mw s.length (nd s i)):∀i,i<s.length->fx (nd s i):=fun i hi=>((Kx _).1 ⟨(h i hi).1,(h i hi).2.1⟩).2.2
theorem adz(h:ky s)(hi:i<s.length):∀j,j<(nd s i).kids.length->(kd (nd s i) j).dflt.size<=140737488351232:=fun j hj=>by
 refine h i hi _ ?_;unfold kd;rw[dy,dz hj];exact me hj
theorem Yf(h:∀i,i<s.length->mw s.length (nd s i))(hb:∀i,i<s.length->¬se s i)(hi:i<s.length):zr s (nd s i)↔((nd s i).kind=10\/(nd s i).kind=13->Told (lz s) (nd s i)):=by
 have hw:=zc h;have XQ:∀i,i<s.length->∃j,mz s i j:=fun i hi=>af7 hw (fun i hi ho e=>by have h1:=(h i hi).2.2.1;have h2:=ho.1;unfold gp at h1;rw[G O,G O,ba h2,e]at h1;have:=h1.1;simp at this) hb hi;have ht:∀j,j<s.length->(nd s j).tag<=30:=fun j hj=>(yx h j hj).2.1;unfold zr;refine forall_congr' fun _=>(aiG (m:=s.length) (fun j hj=>?_) fun i k h1 h2=>(adm ht hw h1 h2 (XQ i h1) (XQ k h2)).symm);obtain⟨t,e,q⟩:=Ov h hi j hj;rw[e];simpa using q
theorem Tv(s:Ls Nd)(a:Oo Ad)(c:Nat)(w:M)(sn:Sn->Ad)(za:Ad)(hl:gy w sn)(hz:kv w sn za)(hs:ew w a s)(hok:ky s)(fA:s.length<=140737488351232):Cs prog 35 #[S a s.length c] w fun e w'=>Ie s za w e w':=by
 have HS:Hi (ew w a s):=hs;have dQ:Hi (ky s):=hok;have HL:Hi (gy w sn):=hl;have HZ:Hi (∀wq,Bw w wq->wq.cell? (D 12 0 Z)=U (If 291 (Po (U za)))):=fun wq q=>(hz.below q).c;have bS:Hi (∀(p:Int) (wq:M),Cs prog 60 #[I J p,If 291 (Po (U za))] wq fun e w'=>e=Rt (be p za)/\w'=wq):=fun p wq=>pj p za wq;have NO:Hi (∀(p:Int) (wq:M),¬ee s->Bw w wq->Ie s za w (Rt (be p za)) wq):=fun p wq h q=>⟨q,.inr ⟨⟨p,X⟩,h⟩⟩;have z0:=HZ w By;clear hs hok hl hz;by_cases hb:s.length<1;·have bV:(s.length:Int)<1:=O;(have HX:Hi (¬ee s):=fun h=>by have:=h.1;omega);clear hb;go_enter func35,ntmps35;go_wp2_with fail;refine(bS _ _).mono ?_;rintro e w1 ⟨rfl,rfl⟩;unfold be;go_wp2;go_ret;exact NO _ _ HX By
 by_cases hb2:40<s.length;·have bV:(40:Int)<s.length:=O;have aed:(1:Int)<=s.length:=O;(have HX:Hi (¬ee s):=fun h=>by have:=h.2.1;omega);clear hb hb2;go_enter func35,ntmps35;go_wp2_with fail;refine(bS _ _).mono ?_;rintro e w1 ⟨rfl,rfl⟩;unfold be;go_wp2;go_ret;exact NO _ _ HX By
 have h1:1<=s.length:=O;have eY:s.length<=40:=O;have iH:(1:Int)<=s.length:=O;clear hb hb2 fA z0;go_enter func35,ntmps35;go_wp2;go_loopw [22] (fun vi wr=>∃i:Nat,i<=s.length/\vi=I J i/\(∀j,j<i->mw s.length (nd s j))/\Bw w wr) (fun vi _=>s.length-(Io vi).toNat);case atStart=>exact⟨0,Lz,X,fun _ h=>Ab h (dh _),By⟩
 obtain⟨i,hi,rfl,(HA:Hi _),(HB:Hi _)⟩:=hrel;by_cases aA:i<s.length
 ·have aN:(i:Int)<s.length:=O;obtain⟨b,o,ka,kc,rfl,nc,kl,km,ks⟩:=HS i aA;obtain⟨n1,n2,n3,n4⟩:=nc.below HB;have aD:Hi (Bw w (wr.alloc (C #[I J (nd s i).kind,I J (nd s i).tag,I J (nd s i).mode,S ka (nd s i).kids.length kc] 58))):=HB.alloc HB.size _;have HC:Hi (∀wq,Bw w wq->Cs prog 61 #[Ag #[I J (nd s i).kind,I J (nd s i).tag,I J (nd s i).mode,S ka (nd s i).kids.length kc],I J s.length] wq fun e w'=>dw (mw s.length (nd s i)) wq e w'):=fun wq q=>afM s.length (nd s i) ka kc wq (ks.below q) O;clear ks nc;go_wp2_with fail;refine(HC _ aD).mono ?_;rintro e w1 ⟨r,rfl,(HR:Hi _),hb1⟩;have aC:Hi (Bw w w1):=Tm aD hb1;have z1:=HZ w1 aC;clear hb1 n1 n2 n3 n4 HC;cases r;·have HX:Hi (¬ee s):=fun h=>Bool.noConfusion (HR.2 (h.2.2.1 i aA));go_wp2_with fail;refine(bS _ _).mono ?_;rintro e w2 ⟨rfl,rfl⟩;unfold be;go_wp2;go_ret;exact NO _ _ HX aC
  go_wp2;go_roundw
  case rel=>exact⟨i+1,O,Gn,fun j hj=>by
   by_cases e:j=i;(·subst e;exact HR.1 trivial);exact HA j O,aC⟩
  exact Ms
 have aN:(s.length:Int)<=i:=O;obtain rfl:i=s.length:=O;go_wp2;go_loopw [38] (fun vi wr=>∃i:Nat,i<=s.length/\vi=I J i/\(∀j,j<i->rk s (nd s j) (nd s j).kids.length/\¬se s j)/\Bw w wr) (fun vi _=>s.length-(Io vi).toNat);case atStart=>exact⟨0,Lz,X,fun _ h=>Ab h (dh _),HB⟩
 obtain⟨i,hi,rfl,(jE:Hi _),(aD:Hi _)⟩:=hrel;by_cases aA:i<s.length
 ·have aN:(i:Int)<s.length:=O;obtain⟨b,o,ka,kc,rfl,nc,kl,km,ks⟩:=HS i aA;obtain⟨n1,n2,n3,n4⟩:=nc.below aD;have aR:Hi (Bw w (wr.alloc (C #[I J (nd s i).kind,I J (nd s i).tag,I J (nd s i).mode,S ka (nd s i).kids.length kc] 58))):=aD.alloc aD.size _;have HD:Hi (∀wq,Bw w wq->Cs prog 62 #[S (U (D b o Z)) s.length c,Ag #[I J (nd s i).kind,I J (nd s i).tag,I J (nd s i).mode,S ka (nd s i).kids.length kc]] wq fun e w'=>dw (rk s (nd s i) (nd s i).kids.length) wq e w'):=fun wq q=>ady s _ c (nd s i) ka kc wq sn (HL.below q) (HS.below q) (ks.below q) (Fo HA aA) (Ov HA aA) (yx HA) (qx HA) eY (adz dQ aA);have HC:Hi (∀wq,Bw w wq->Cs prog 63 #[S (U (D b o Z)) s.length c,I J i] wq fun e w'=>dw (se s i) wq e w'):=fun wq q=>adk s _ c i wq (HS.below q) (zc HA) (fun j hj=>(yx HA j hj).1) aA eY;clear ks nc;go_wp2_with fail;refine(HD _ aR).mono ?_;rintro e w1 ⟨r,rfl,(HR:Hi _),hb1⟩;have aC:Hi (Bw w w1):=Tm aR hb1;have z1:=HZ w1 aC;clear hb1 n1 n2 n3 n4 HD;cases r;·have HX:Hi (¬ee s):=fun h=>Bool.noConfusion (HR.2 (h.2.2.2.2 i aA).2);go_wp2_with fail;refine(bS _ _).mono ?_;rintro e w2 ⟨rfl,rfl⟩;unfold be;go_wp2;go_ret;exact NO _ _ HX aC
  have oV:Hi (rk s (nd s i) (nd s i).kids.length):=HR.1 X;go_wp2_with fail;refine(HC _ aC).mono ?_;rintro e w2 ⟨r,rfl,(eL:Hi _),hb2⟩;have aJ:Hi (Bw w w2):=Tm aC hb2;have z2:=HZ w2 aJ;clear hb2 HC;cases r
  ·go_wp2;go_roundw
   case rel=>exact⟨i+1,O,Gn,fun j hj=>by
    by_cases e:j=i;(·subst e;exact⟨oV,fun q=>Bool.noConfusion (eL.2 q)⟩);exact jE j O,aJ⟩
   exact Ms
  have HX:Hi (¬ee s):=fun h=>h.2.2.2.1 i aA (eL.1 X);go_wp2_with fail;refine(bS _ _).mono ?_;rintro e w3 ⟨rfl,rfl⟩;unfold be;go_wp2;go_ret;exact NO _ _ HX aJ
 have aN:(s.length:Int)<=i:=O;obtain rfl:i=s.length:=O;have HC:Hi (Cs prog 64 #[S a s.length c] wr fun e w'=>e=Rt (S (U (D wr.heap.size 0 Z)) s.length s.length)/\sr s wr w' s.length):=Tc s a c wr (HS.below aD) (zc HA) (fun j hj=>(yx HA j hj).1) (qx HA) (HL.below aD).n eY;go_wp2_with fail;refine HC.mono ?_;rintro e w1 ⟨rfl,pZ⟩;obtain⟨gb,qC⟩:∃gb,gb=wr.heap.size:=Ez;have pJ:Hi (uD w1 gb s):=by rw[qC];exact pZ.read
 have aR:Hi (Bw w w1):=Tm aD pZ.bel;rw[<-qC];clear pZ qC HC;go_wp2;go_loopw [60] (fun vi wr=>∃i:Nat,i<=s.length/\vi=I J i/\(∀j,j<i->zr s (nd s j))/\Bw w1 wr) (fun vi _=>s.length-(Io vi).toNat);case atStart=>exact⟨0,Lz,X,fun _ h=>Ab h (dh _),By⟩
 obtain⟨i,hi,rfl,(BQ:Hi _),aT⟩:=hrel;have aJ:Hi (Bw w1 wr):=aT;have aO:Hi (Bw w wr):=Tm aR aT;clear aT;by_cases aA:i<s.length
 ·have aN:(i:Int)<s.length:=O;obtain⟨b,o,ka,kc,rfl,nc,kl,km,ks⟩:=HS i aA;obtain⟨n1,n2,n3,n4⟩:=nc.below aO;have bB:Hi (Bw w1 (wr.alloc (C #[I J (nd s i).kind,I J (nd s i).tag,I J (nd s i).mode,S ka (nd s i).kids.length kc] 58))):=aJ.alloc aJ.size _;have HP:Hi (∀wq,Bw w1 wq->Cs prog 65 #[Ag #[I J (nd s i).kind,I J (nd s i).tag,I J (nd s i).mode,S ka (nd s i).kids.length kc],S (U (D gb 0 Z)) s.length s.length] wq fun e w'=>dw (zr s (nd s i)) wq e w'):=fun wq q=>afK s (nd s i) ka kc gb wq (ks.below (Tm aR q)) kl (Fo HA aA) (Ov HA aA) (pJ.below q) eY;clear ks nc;go_wp2_with fail;refine(HP _ bB).mono ?_;rintro e w2 ⟨r,rfl,(HR:Hi _),hb2⟩;have hP:Hi (Bw w1 w2):=Tm bB hb2;have dB:Hi (Bw w w2):=Tm aR hP;have z2:=HZ w2 dB;clear hb2 n1 n2 n3 n4 HP;cases r;·have HX:Hi (¬ee s):=fun h=>Bool.noConfusion (HR.2 ((Yf HA (fun j hj=>(jE j hj).2) aA).2 (h.2.2.2.2 i aA).1));go_wp2_with fail;refine(bS _ _).mono ?_;rintro e w3 ⟨rfl,rfl⟩;unfold be;go_wp2;go_ret;exact NO _ _ HX dB
  go_wp2;go_roundw
  case rel=>exact⟨i+1,O,Gn,fun j hj=>by
   by_cases e:j=i;(·subst e;exact HR.1 trivial);exact BQ j O,hP⟩
  exact Ms
 have aN:(s.length:Int)<=i:=O;obtain rfl:i=s.length:=O;go_wp2;go_ret;exact⟨aO,.inl ⟨X,h1,eY,HA,fun j hj=>(jE j hj).2,fun j hj=>⟨(Yf HA (fun j hj=>(jE j hj).2) hj).1 (BQ j hj),(jE j hj).1⟩⟩⟩
theorem ee.fine(h:ee s):zh s where
 within:=zc h.2.2.1
 back:=h.2.2.2.1
 len:=h.2.1
 tagged:=fun i hi hk ht hm=>by have:=(h.2.2.1 i hi).2.1;unfold kf at this;omega
 one:=fun i hi hk=>by
  have:=(h.2.2.1 i hi).2.2.1
  unfold gp at this
  rw[G O,ba hk]at this
  exact this
 eight:=fun i hi=>by
  have:=(h.2.2.1 i hi).2.2.1
  unfold gp at this
  repeat' split at this
  all_goals omega
theorem bq(h:w.heap[k]? =U (C A T (0,0))){u:Vv}(hi:A[i]? =U u):w.cell? (D k i Z)=U u:=by simp[Wc,h,hi]
theorem yp{n:Nd}(h:j<n.kids.length):n.kids.drop j=kd n j::n.kids.drop (j+1):=by
 rw[Hu h];congr 1;unfold kd;rw[dy,dz h];rfl
theorem ax{p:Prop}(h:p):Hi p:=h
theorem Dg{u':Q}(h:iv N t u)(h':iv N t u'):u=u':=by
 unfold iv pg at h h';obtain⟨_,_,_,h⟩:=h;obtain⟨_,_,_,h'⟩:=h';rcases h with⟨a1,_,_,_,a2,_⟩|⟨a1,b1,_,_,_,a2,_⟩|⟨a1,b1,_,_,_,t1,e1,_,_,_,_,_,a2,_⟩ <;>rcases h' with⟨c1,_,_,_,c2,_⟩|⟨c1,d1,_,_,_,c2,_⟩|⟨c1,d1,_,_,_,t2,e2,_,_,_,_,_,c2,_⟩;all_goals first|(rw[a2,c2];done)|(exfalso;omega)|(subst e1 e2;rw[a2,c2])
theorem Xv(k:Int)(h:0<=k)(w:M):Cs prog 103 #[I J k] w fun e w'=>e=Rt (I J (own0 k))/\Bw w w':=by
 by_cases fC:12<k;·(have HE:Hi (own0 k=0):=by show own0 k=0;unfold own0;rw[ba fC]);go_enter func103,ntmps103;go_wp2;go_ret;exact⟨by rw[HE.out];rfl,By⟩
 have e:own0 k=own k:=by unfold own0;rw[G fC]
 rw[e];exact Pn k h O w
theorem uT(h:w.heap[k]? =U (C A T (0,0))):w.frozen? (D k i Z)=false:=by simp[Wf,h]
def Ai(k:Int):Sn:=if k=3 then .End else if k=4 then .Tag else if k=5 then .Length else if k=6 then .Value else if k=7 then .More else if k=8 then .Order else if k=9 then .Default else .Deep
theorem Vm(t:Q):(hd t).1=0\/(hd t).1=3\/(hd t).1=4\/(hd t).1=5:=by
 unfold hd;repeat' split
 all_goals simp
 unfold rl;repeat' split
 all_goals simp
theorem Fq(x:Int)(sn:Sn->Ad)(h:(hd t).1≠0):qu x sn (hd t).1=be x (sn (Ai (hd t).1)):=by
 rcases Vm t with e|e|e|e;·exact Ab e h
 ·rw[e];rfl
 ·rw[e];rfl
 rw[e];rfl
theorem pw(h:ee s)(hi:i<s.length):1<=(nd s i).kind/\(nd s i).kind<=14/\fx (nd s i):=(Kx _).1 ⟨(h.2.2.1 i hi).1,(h.2.2.1 i hi).2.1⟩
theorem Us(s:Ls Nd)(a:Oo Ad)(c t:Nat)(ko:Bool)(yd u:Q)(w:M)(sn:Sn->Ad)(hl:gy w sn)(hs:ew w a s)(hr:ee s)(ht:t<s.length)(cY:(nd s t).kind<=9)(hu:iv (nd s t) yd u)(hz:yd.size<=140737488355328):Cs prog 202 #[S a s.length c,Ag #[I J t,Bo ko,Y yd]] w fun e w'=>e=Rt (Ag #[I J (nd s t).kind,Y u,I J 0,I J 0])/\Bw w w':=by
 obtain⟨bQ,_,lU,jN,gW,lV,lW⟩:=pw hr ht;obtain⟨b,o,ka,kc,rfl,sU,_⟩:=hs t ht;obtain⟨N,hN⟩:∃N,nd s t=N:=Ey;rw[hN]at sU bQ cY gW lV lW hu lU jN ⊢;have vJ:N.mode=0\/N.mode=1:=O;have JN:N.tag<0->N.mode=0:=fun q=>gW O;have fF:ku N.lays yd=U u:=((uv JN vJ).1 hu).1
 have HW:Hi (∀wq,Bw w wq->Cs prog 137 #[Ag #[I J N.kind,I J N.tag,I J N.mode,S ka N.kids.length kc],Y yd] wq fun e w'=>∃r,e=Rt (Tu #[Y u,Bo r])/\Bw wq w'):=fun wq q=>
  (Zz N ka kc yd wq sn (hl.below q).s (hl.below q).n O O cY O hz).mono fun e w' ⟨u',r,he,hc,hb,_⟩=>by
    rcases hc with⟨_,hc⟩|⟨_,hc⟩
    ·rw[fF]at hc;injection hc with hc;subst hc;exact⟨r,he,hb⟩
    ·rw[fF]at hc;cases hc
 obtain⟨n0,n1,n2,n3⟩:=sU;have iR:=lc n0;have qG:(t:Int)<s.length:=O;have HA:Hi (∀A B ae,Bw w (((w.alloc A).alloc B).alloc ae)):=fun A B ae=>(((cm w.heap.size w).alloc Ln A).alloc Sq B).alloc So ae;clear hl hs hr hu fF hN lU jN gW lV lW JN vJ bQ cY hz ht;go_enter func202,ntmps202;go_wp2_with fail;refine(HW _ (HA _ _ _)).mono ?_;rintro e w1 ⟨r,rfl,hb1⟩;have aC:Hi _:=(HA _ _ _).trans (hb1.mono (HA _ _ _).size);have hZ:w1.heap[w.heap.size+1]? =U (C #[I J 0,Y ⟨#[]⟩,I J 0,I J 0] 60 (0,0)):=bc (bc (by simpa using bl (w.alloc _) _) Be) hb1;have hK:w1.heap[w.heap.size+1+1]? =U (C #[I J N.kind,I J N.tag,I J N.mode,S ka N.kids.length kc] 58 (0,0)):=bc (by simpa using bl ((w.alloc _).alloc _) _) hb1;obtain⟨z0,z1,z2,z3⟩:=fi hZ;have f0:w1.frozen? (D (w.heap.size+1) 0 Z)=false:=uT hZ;have f1:w1.frozen? (D (w.heap.size+1) 1 Z)=false:=uT hZ;have f2:w1.frozen? (D (w.heap.size+1) 2 Z)=false:=uT hZ;have f3:w1.frozen? (D (w.heap.size+1) 3 Z)=false:=uT hZ;have k0:w1.cell? (D (w.heap.size+1+1) 0 Z)=U (I J N.kind):=bq hK X;clear hb1 hZ hK n0 n1 n2 n3 iR;go_wp2_with fail;refine db (v:=Ag #[I J N.kind,Y u,I J 0,I J 0]) (by simp[results,results202,go_sem,z0,z1,z2,z3]) X ⟨X,?_⟩;exact(((aC.setCell (p:=D (w.heap.size+1) 0 Z) (Az _) _).setCell (p:=D (w.heap.size+1) 1 Z) (Az _) _).setCell (p:=D (w.heap.size+1) 2 Z) (Az _) _).setCell (p:=D (w.heap.size+1) 3 Z) (Az _) _
theorem ahd(n:Nd)(ka:Oo Ad)(kc:Nat)(w:M)(hn:ll w)(ht: -1<=n.tag)(hk:10<=n.kind)(eI:n.kind<=12):Cs prog 152 #[Ag #[I J n.kind,I J n.tag,I J n.mode,S ka n.kids.length kc]] w fun e w'=>e=Rt (fv n.ownT.1 n.ownT.2 true)/\Bw w w':=by
 have HC:Hi (∀w',ll w'->Cs prog 140 #[Ag #[I J n.kind,I J n.tag,I J n.mode,S ka n.kids.length kc]] w' fun e eE=>e=Rt (Ag #[I J n.outer.1,I J n.outer.2])/\Bw w' eE):=fun w' q=>Jy n ka kc w' q ht O (fun h=>O);have HW:Hi (∀w',ll w'->Cs prog 179 #[I J n.kind] w' fun e eE=>e=Rt (Ag #[I J 0,I J (own n.kind)])/\Bw w' eE):=fun w' q=>Pp n.kind O O w' q;have HN:Hi (∀wq,Bw w wq->ll wq):=fun wq q=>hn.below q;have IY:decide (10<=n.kind)=true:=So;obtain⟨T1,T2,hT⟩:∃T1 T2,n.ownT=(T1,T2):=⟨_,_,X⟩;have HT:Hi (n.ownT=(T1,T2)):=hT;rw[hT];unfold fv;clear hn hT;go_enter func152,ntmps152;go_wp2_with fail;refine(HW _ (HN _ ((Be).alloc Sq _))).mono ?_;rintro e w1 ⟨rfl,hb⟩;have HB:Hi (Bw w w1):=dj (dj hb);have HG:Hi (w1.heap[w.heap.size+1]? =U (C #[I J 0,I J 0,Bo false] 149 (0,0))):=bc (by simpa using bl (w.alloc _) _) hb;have F9:Hi (w1.heap[w.heap.size]? =U (C #[I J n.kind,I J n.tag,I J n.mode,S ka n.kids.length kc] 58 (0,0))):=bc (bc (bl w _) Be) hb;have jB:w.heap.size+1<w1.heap.size:=by have:=hb.size;simp at this;omega
 have JK:w.heap.size<w1.heap.size:=O;obtain⟨p0,p1,p2,p3⟩:=fi F9;obtain⟨q0,q1,q2⟩:=pt HG;have f0:w1.frozen? (D (w.heap.size+1) 0 Z)=false:=Fz HG.out;have f1:w1.frozen? (D (w.heap.size+1) 1 Z)=false:=Fz HG.out;have f2:w1.frozen? (D (w.heap.size+1) 2 Z)=false:=Fz HG.out;clear hb;by_cases hm:n.mode=0
 ·have e0:(n.mode==0)=true:=by simp[hm]
  have HE:Hi (n.ownT=n.outer):=by
   show n.ownT=n.outer;unfold Nd.ownT Nd.outer;by_cases q:0<=n.tag;(·rw[ba ⟨hm,q⟩,ba q]);rw[G (fun r=>q r.2),G q]
  obtain⟨rfl,rfl⟩:T1=n.outer.1/\T2=n.outer.2:=by rw[<-HE,HT.out];exact⟨X,X⟩
  clear hm;go_wp2_with fail;refine(HC _ (HN _ (HB.alloc HB.size _))).mono ?_;rintro e w2 ⟨rfl,hb2⟩;have aD:Hi (Bw w w2):=Tm HB (dj hb2);have hA:w2.heap[w1.heap.size]? =U (C #[I J 0,I J (own n.kind)] 147 (0,0)):=bc (bl w1 _) hb2;have bH:=bc HG (dj hb2);have IH:=bc F9 (dj hb2);have t0:w2.cell? (D w1.heap.size 0 Z)=U (I J 0):=by simp[Wc,hA]
  have t1:w2.cell? (D w1.heap.size 1 Z)=U (I J (own n.kind)):=by simp[Wc,hA]
  have t2:w2.frozen? (D w1.heap.size 0 Z)=false:=Fz hA;have t3:w2.frozen? (D w1.heap.size 1 Z)=false:=Fz hA;obtain⟨r0,r1,r2⟩:=pt bH;have g0:w2.frozen? (D (w.heap.size+1) 0 Z)=false:=Fz bH;have g1:w2.frozen? (D (w.heap.size+1) 1 Z)=false:=Fz bH;have g2:w2.frozen? (D (w.heap.size+1) 2 Z)=false:=Fz bH;have d0:w2.cell? (D w.heap.size 0 Z)=U (I J n.kind):=by simp[Wc,IH]
  have sH:¬w1.heap.size=w.heap.size+1:=O;have yN:¬w.heap.size+1=w1.heap.size:=O;clear hb2 hA bH IH p0 p1 p2 p3 q0 q1 q2 f0 f1 f2;go_wp2;refine db (v:=Ag #[I J n.outer.1,I J n.outer.2,Bo true]) (by simp[results,results152,go_sem,r0,r1,r2,t0,t1,sH,yN,IY]) X ⟨X,?_⟩;exact yw ((aD.setCell (p:=D w1.heap.size 0 Z) (by exact Lu JK) _).setCell (p:=D w1.heap.size 1 Z) (by exact Lu JK) _) _ Sq _ _ _
 have e0:(n.mode==0)=false:=by simp[hm]
 have HE:Hi (n.ownT=(0,own n.kind)):=by show n.ownT=(0,own n.kind);unfold Nd.ownT;rw[G (fun r=>hm r.1)]
 obtain⟨rfl,rfl⟩:T1=0/\T2=own n.kind:=by have:=HE.out;rw[HT.out]at this;injection this with a b;exact⟨a,b⟩
 clear hm;go_wp2;refine db (v:=Ag #[I J 0,I J (own n.kind),Bo true]) (by simp[results,results152,go_sem,q0,q1,q2,jB,IY]) X ⟨X,?_⟩
 first
  |exact(yw HB _ Sq _ _ _).alloc (yw HB _ Sq _ _ _).size _
  |exact yw (HB.alloc HB.size _) _ Sq _ _ _
theorem Gh(n:Nd)(ka:Oo Ad)(kc:Nat)(w:M)(hn:ll w)(ht: -1<=n.tag)(hk:0<=n.kind)(eI:n.kind<=12):Cs prog 152 #[Ag #[I J n.kind,I J n.tag,I J n.mode,S ka n.kids.length kc]] w fun e w'=>e=Rt (fv n.ownT.1 n.ownT.2 (decide (10<=n.kind/\n.kind<=12)))/\Bw w w':=by
 by_cases h:n.kind<=9;·rw[br O];exact Xx n ka kc w hn ht hk h
 rw[ch O];exact ahd n ka kc w hn ht O eI
def ml(p:Int)(v:Vv):Vv:=If 155 (Ag #[I J p,v])
theorem acm(p:Int)(tt:TypeId)(u:Vv)(w:M):Cs prog 60 #[I J p,If tt u] w fun e w'=>e=Rt (ml p (If tt u))/\w'=w:=by
 unfold ml;go_enter func60,ntmps60;go_wp2;go_ret;exact⟨X,X⟩
def Mg(s:Ls Nd)(root:Int)(za:Ad)(w:M)(e:Ending)(w':M):Prop:=
 Bw w w'/\((e=Rt .nilIface/\ee s/\0<=root/\root<s.length)\/((∃p:Int,e=Rt (ml 0 (be p za)))/\¬ee s)\/(e=Rt (be 0 za)/\ee s/\¬(0<=root/\root<s.length)))
theorem Tt(s:Ls Nd)(a:Oo Ad)(c:Nat)(root:Int)(w:M)(sn:Sn->Ad)(za:Ad)(hl:gy w sn)(hz:kv w sn za)(hs:ew w a s)(hok:ky s)(fA:s.length<=140737488351232):Cs prog 74 #[S a s.length c,I J root] w fun e w'=>Mg s root za w e w':=by
 have HC:Hi (Cs prog 35 #[S a s.length c] w fun e w'=>Ie s za w e w'):=Tv s a c w sn za hl hz hs hok fA;have HZ:=ax hz;have bS:Hi (∀tt u wq,Cs prog 60 #[I J 0,If tt u] wq fun e w'=>e=Rt (ml 0 (If tt u))/\w'=wq):=fun tt u wq=>acm 0 tt u wq;unfold ml at bS;clear hl hz hs hok;go_enter func74,ntmps74;go_wp2_with fail;refine HC.mono ?_;rintro e w1 ⟨(aC:Hi _),h1⟩;rcases h1 with⟨rfl,hr⟩|⟨⟨p,rfl⟩,hr⟩
 ·have HR:=ax hr;clear hr;have cS:=(HZ.below aC).c;have dZ:=bp cS;simp only at dZ;by_cases h0:root<0;·go_wp2_with fail;refine(bS _ _ _).mono ?_;rintro e w2 ⟨rfl,rfl⟩;go_wp2;go_ret;exact⟨aC,.inr (.inr ⟨X,HR,O⟩)⟩
  have nP:0<=root:=O;by_cases h2:root<s.length;·go_wp2;go_ret;exact⟨aC,.inl ⟨X,HR,nP,h2⟩⟩
  have kG:(s.length:Int)<=root:=O;go_wp2_with fail;refine(bS _ _ _).mono ?_;rintro e w2 ⟨rfl,rfl⟩;go_wp2;go_ret;exact⟨aC,.inr (.inr ⟨X,HR,O⟩)⟩
 have HR:=ax hr;clear hr;unfold be;go_wp2_with fail;refine(bS _ _ _).mono ?_;rintro e w2 ⟨rfl,rfl⟩;go_wp2;go_ret;exact⟨aC,.inr (.inl ⟨⟨p,X⟩,HR⟩)⟩
structure RC(E:bj)(W:M)(a:Oo Ad):Prop where
 sch:ew W a E.s
 right:ee E.s
 sok:ky E.s
 bg:∀i,i<E.s.length->∀c m,E.bg i c m=true↔lv E.s i c m
 ok:∀k t,E.ok k t=true↔bu k t
 size:E.d.size<=1048576
def Ma(o:bz)(tree b9:Ls Vl)(e' p p':Int):Prop:=
 match o with
 | .error (e,q)=>e'=e/\p'=q/\e≠0
 | .ok (vs,_)=>e'=0/\b9=tree++vs/\p'=p
def nl(E:bj)(W:M)(R:Nat)(a:Oo Ad)(c:Nat)(o:bz)(tree:Ls Vl)(p:Int)(w w':M):Prop:=
 ∃b9 e' p',bm W w' R a E.s.length c E.d b9 e' p'/\Ma o tree b9 e' p p'/\Fr R w w'
def eu(tree:Ls Vl)(f x y:Nat):Prop:=tree.length+10*f+100*(y-x)<=1099511627776
def sw(E:bj)(W:M)(R:Nat)(a:Oo Ad)(c f:Nat):Prop:=
 ∀(i x y:Nat) (dp:Int) (o:bz) (tree:Ls Vl) (p:Int) (w:M),cd E f i x y dp=U o->i<E.s.length->x<=y->y<=E.d.size->1<=dp->dp<=13->eu tree f x y->bm W w R a E.s.length c E.d tree 0 p->
  Cs prog 69 #[Po (U (D R 0 Z)),I J i,I J x,I J y,I J dp] w fun e w'=>∃v:Int,e=Rt (I J v)/\nl E W R a c o tree p w w'/\∀vs z,o= .ok (vs,z)->v=z
theorem bm.r0(h:bm W w R a n c data tree e p):w.cell? (D R 0 Z)=U (S a n c):=by obtain⟨_,_,vt,hr,_⟩:=h;unfold ix at hr;simp[Wc,hr]
theorem bm.r1(h:bm W w R a n c data tree e p):w.cell? (D R 1 Z)=U (Y data):=by obtain⟨_,_,vt,hr,_⟩:=h;unfold ix at hr;simp[Wc,hr]
theorem bm.r3(h:bm W w R a n c data tree e p):w.cell? (D R 3 Z)=U (I J e):=by obtain⟨_,_,vt,hr,_⟩:=h;unfold ix at hr;simp[Wc,hr]
theorem Fr.below{w2:M}(h:Fr R w w1)(hb:Bw w1 w2):Fr R w w2:=h.trans (Fr.of_below hb)
theorem nl.of{E:bj}{o:bz}(h:nl E W R a c o tree p w1 w')(hf:Fr R w w1):nl E W R a c o tree p w w':=by obtain⟨t,e,q,h1,h2,h3⟩:=h;exact⟨t,e,q,h1,h2,hf.trans h3⟩
theorem mg{α:Type}{o:Oo bz}{k:Ls Vl->Nat->Oo (Except (Int×Int) α)}{v:Except (Int×Int) α}(h:bz.andThen o k=U v):(∃e,o=U (.error e)/\v= .error e)\/∃vs z,o=U (.ok (vs,z))/\k vs z=U v:=by
 unfold bz.andThen at h;split at h;·cases h
 ·rename_i e;exact .inl ⟨e,X,(dd h).symm⟩
 rename_i vs z;exact .inr ⟨vs,z,X,h⟩
def sv(o:bz):Prop:=∀e q,o= .error (e,q)->e≠0
theorem Nt{E:bj}{rec:fe}(hr:∀i x y dp o,rec i x y dp=U o->sv o):∀(ks:Ls Kd) (j:Nat) {o:bz},gu E rec h x tz dp ks j=U o->sv o
 | [],_,o,e=>by unfold gu at e;cases e;intro a b q;cases q;decide
 |k::ks,j,o,e=>by
  unfold gu at e
  split at e
  ·rcases mg e with⟨u,h1,rfl⟩|⟨vs,z,h1,h2⟩
   ·exact hr _ _ _ _ _ h1
   ·cases h2;intro a b q;cases q
  ·exact Nt hr ks (j+1) e
theorem Gq{E:bj}{rec:fe}(hr:∀i x y dp o,rec i x y dp=U o->sv o):∀(ks:Ls Kd) (x:Nat) (aE:Ls Vl) {o:bz},dr E rec tz dp ks x aE=U o->sv o
 | [],x,aE,o,e=>by unfold dr at e;split at e<;> (cases e;intro a b q;cases q<;>decide)
 |k::ks,x,aE,o,e=>by
  unfold dr at e
  split at e
  ·rename_i q;cases e;intro a b p;cases p;exact q.2
  split at e
  ·rcases mg e with⟨u,h1,rfl⟩|⟨vs,z,h1,h2⟩
   ·exact hr _ _ _ _ _ h1
   ·split at h2
    ·cases h2;intro a b q;cases q;decide
    ·exact Gq hr ks _ _ h2
  split at e
  ·exact Gq hr ks _ _ e
  split at e
  ·exact Gq hr ks _ _ e
  split at e<;> (cases e;intro a b q;cases q<;>decide)
theorem Ox{E:bj}{rec:fe}(hr:∀i x y dp o,rec i x y dp=U o->sv o):∀(m x:Nat) (last:Q) (j:Nat) (aE:Ls Vl) {v:Except (Int×Int) (Nat×Ls Vl)},ic E rec set i tz dp m x last j aE=U v->∀e q,v= .error (e,q)->e≠0
 |0,_,_,_,_,_,e=>by cases e
 |m+1,x,last,j,aE,v,e=>by
  unfold ic at e
  split at e
  ·rcases mg e with⟨u,h1,rfl⟩|⟨vs,z,h1,h2⟩
   ·intro a b q;cases q;exact hr _ _ _ _ _ h1 _ _ X
   ·split at h2
    ·cases h2;intro a b q;cases q;decide
    ·exact Ox hr m _ _ _ _ h2
  ·cases e;intro a b q;cases q
theorem Ng{E:bj}{rec:fe}(hr:∀i x y dp o,rec i x y dp=U o->sv o){n:Nd}{o:bz}(e:fc E rec m n cl nu h x tz dp=U o):sv o:=by
 unfold fc at e;split at e;·exact Nt hr _ _ e
 split at e;·cases e;intro a b q;cases q;decide
 split at e;·cases e;intro a b q;cases q;decide
 split at e;·cases e;intro a b q;cases q
 split at e
 ·split at e;·cases e
  ·rename_i u hs;cases e;intro a b q;cases q;exact Gq hr _ _ _ hs _ _ X
  cases e;intro a b q;cases q
 split at e
 ·split at e;·cases e
  ·rename_i u hs;cases e;intro a b q;cases q;exact Ox hr _ _ _ _ _ hs _ _ X
  cases e;intro a b q;cases q
 split at e;·cases e;intro a b q;cases q
 cases e;intro a b q;cases q;decide
theorem aiW{E:bj}{rec:fe}(hr:∀i x y dp o,rec i x y dp=U o->sv o){o:bz}(e:lr E rec m i h x tz dp=U o):sv o:=by
 unfold lr at e;split at e;·exact Ng hr e
 split at e;·exact Ng hr e
 split at e;·cases e;intro a b q;cases q;decide
 split at e;·cases e;intro a b q;cases q;decide
 split at e;·rename_i q;cases e;intro a b p;cases p;exact q
 rcases mg e with⟨u,h1,rfl⟩|⟨vs,z,h1,h2⟩;·exact Ng hr h1
 split at h2<;> (cases h2;intro a b q;cases q<;>decide)
theorem yu{E:bj}:∀(f i x y:Nat) (dp:Int) (o:bz),cd E f i x y dp=U o->sv o
 |0,_,_,_,_,_,e=>by cases e
 |f+1,i,x,y,dp,o,e=>by
  rw[cd]at e
  split at e
  ·rename_i q;cases e;intro a b p;cases p;exact q
  ·exact aiW (yu f) e
theorem Af{o:bz}{q:Int}(h:sv o)(ho:o= .error (e,q))(tree b9:Ls Vl)(p:Int):Ma o tree b9 e p q:=by subst ho;exact⟨X,X,h e q X⟩
theorem ag4(vs:Ls Vl)(z:Nat)(tree:Ls Vl)(p:Int):Ma (.ok (vs,z)) tree (tree++vs) 0 p p:=⟨X,X,X⟩
end
section
theorem Tz{E:bj}{rec:fe}{B:Nat}:∀(ks:Ls Kd) (j:Nat) {vs:Ls Vl} {z:Nat},(∀k∈ks,∀vs z,rec k.node.toNat x tz dp=U (.ok (vs,z))->vs.length+1<=B)->gu E rec h x tz dp ks j=U (.ok (vs,z))->vs.length<=B
 | [],_,_,_,_,e=>by cases e
 |k::ks,j,vs,z,hB,e=>by
  unfold gu at e
  split at e
  ·obtain⟨us,z',h1,h2⟩:=og e
   have:=hB k Sq us z' h1
   simp at h2
   rw[<-h2.1];simpa using this
  ·exact Tz ks (j+1) (fun k hk=>hB k (by simp[hk])) e
theorem Ko{E:bj}{rec:fe}:∀(ks:Ls Kd) (x:Nat) (aE:Ls Vl) {vs:Ls Vl} {z:Nat},(∀k∈ks,∀x vs z,rec k.node.toNat x tz dp=U (.ok (vs,z))->vs.length<=100*(z-x)/\x<=z/\z<=tz)->x<=tz->dr E rec tz dp ks x aE=U (.ok (vs,z))->vs.length<=aE.length+ks.length+100*(z-x)/\x<=z/\z<=tz
 | [],x,aE,vs,z,_,hx,e=>by
   unfold dr at e
   split at e
   ·cases e
   ·simp at e;obtain⟨rfl,rfl⟩:=e;simp;exact hx
 |k::ks,x,aE,vs,z,hr,hx,e=>by
  have pE:∀k∈ks,∀x vs z,rec k.node.toNat x tz dp=U (.ok (vs,z))->vs.length<=100*(z-x)/\x<=z/\z<=tz:=fun k hk=>hr k (by simp[hk])
  unfold dr at e
  split at e
  ·cases e
  split at e
  ·obtain⟨us,z',h1,h2⟩:=og e
   have h3:=hr k Sq x us z' h1
   split at h2
   ·cases h2
   ·have:=Ko ks z' _ pE O h2
    simp only[ff,fu]at this ⊢
    omega
  split at e
  ·have:=Ko ks x _ pE hx e
   simp only[ff,fu,lx]at this ⊢
   omega
  split at e
  ·have:=Ko ks x _ pE hx e
   simp only[ff,fu,lx]at this ⊢
   omega
  split at e<;>cases e
theorem Ws{E:bj}{rec:fe}(hr:∀x vs z,rec i x tz dp=U (.ok (vs,z))->vs.length<=100*(z-x)/\x<=z/\z<=tz):∀(m x:Nat) (last:Q) (j:Nat) (aE:Ls Vl) {j':Nat} {vs:Ls Vl},x<=tz->ic E rec set i tz dp m x last j aE=U (.ok (j',vs))->vs.length<=aE.length+100*(tz-x)
 |0,_,_,_,_,_,_,_,e=>by cases e
 |m+1,x,last,j,aE,j',vs,hx,e=>by
  unfold ic at e
  split at e
  ·obtain⟨us,z',h1,h2⟩:=og e
   have h3:=hr x us z' h1
   split at h2
   ·cases h2
   ·have:=Ws hr m z' _ _ _ O h2
    simp only[ff]at this
    omega
  ·simp at e;rw[<-e.2];omega
theorem Ni{E:bj}(hf:zh E.s)(hi:i<E.s.length){V ae:Nat}(hV:V<=40)(hh:2<=h.s.toNat)(nI:x+h.s.toNat<=tz)(hc:(nd E.s i).kind=13->∀k∈(nd E.s i).kids,∀vs z,cd E f k.node.toNat x tz dp=U (.ok (vs,z))->vs.length+(V+1)<=100*(tz-x)+ae)(hr:∀(j:Nat) (x':Nat) vs z,j<E.s.length->cd E f j x' tz (dp+1)=U (.ok (vs,z))->vs.length<=100*(z-x'))(e:fc E (cd E f) f (nd E.s i) cl nu h x tz dp=U (.ok (vs,z))):vs.length+V<=100*(tz-x)+ae:=by
 have aA:∀k∈(nd E.s i).kids,k.node.toNat<E.s.length:=fun k hk=>by have:=hf.within i hi k hk;omega
 have hz:∀i x vs z,cd E f i x tz (dp+1)=U (.ok (vs,z))->x<=z/\z<=tz:=fun i x vs z e=>by obtain⟨q1,q2⟩:=tp e;have:=lp q1;omega
 unfold fc at e;split at e;·rename_i q;have:=Tz (B:=100*(tz-x)+ae-V) _ _ (fun k hk us z' h1=>by have:=hc q k hk us z' h1;omega) e;omega
 split at e;·cases e
 split at e;·cases e
 split at e;·simp at e;rw[<-e.1];simp;omega
 split at e
 ·split at e;·cases e
  ·cases e
  rename_i us z' hs;have h8:=hf.eight i hi;have:=Ko _ _ _ (fun k hk x' us z' h1=>⟨hr _ _ _ _ (aA k hk) h1,hz _ _ _ _ h1⟩) nI hs;simp at e;rw[<-e.1];simp only[lx,fu]at this ⊢;omega
 split at e
 ·rename_i q;split at e;·cases e
  ·cases e
  rename_i j us hs;have h1:=hf.one i hi O;have hk:=aA _ (ni (n:=nd E.s i) (i:=0) O);have:=Ws (fun x' us z' h1=>⟨hr _ _ _ _ hk h1,hz _ _ _ _ h1⟩) _ _ _ _ _ nI hs;simp at e;rw[<-e.1];simp only[lx,fu]at this ⊢;omega
 split at e;·simp at e;rw[<-e.1];simp;omega
 cases e
theorem Ka{E:bj}(hf:zh E.s):∀(f i x y:Nat) (dp:Int) (V:Ls Nat),i<E.s.length->Way E.s V i->∀vs z,cd E f i x y dp=U (.ok (vs,z))->vs.length+V.length<=100*(z-x)
 |0,_,_,_,_,_,_,_,_,_,e=>by cases e
 |f+1,i,x,y,dp,V,hi,hV,vs,z,e=>by
  have P5:=hV.len hf
  obtain⟨hq,rfl⟩:=tp e
  have jP:=lp hq
  have aA:∀k∈(nd E.s i).kids,k.node.toNat<E.s.length:=fun k hk=>by have:=hf.within i hi k hk;omega
  have hr:∀(j:Nat) (x':Nat) (tz:Nat) vs z,j<E.s.length->cd E f j x' tz (dp+1)=U (.ok (vs,z))->vs.length<=100*(z-x'):=fun j x' tz vs z hj e=>by
   have:=Ka hf f j x' tz (dp+1) [] hj (Way.nil _ _) vs z e
   simpa using this
  rw[cd,G (by rw[hq];decide)]at e
  unfold lr at e
  split at e
  ·rename_i ht
   refine Ni (ae:=0) hf hi P5 O jP.2.1 (fun hk k dK us z' h1=>?_) (fun j x' us z' hj h1=>hr j x' _ us z' hj h1) e
   have:=Ka hf f k.node.toNat x _ dp (i::V) (aA k dK) (hV.cons hf hi ⟨hk,ht⟩ dK) us z' h1
   obtain⟨a1,a2⟩:=tp h1
   have:=lp a1
   simp only[fu]at*
   omega
  split at e
  ·rename_i ht hm
   exact Ni (ae:=0) hf hi P5 O jP.2.1 (fun hk=>Ab hm (hf.tagged i hi hk O)) (fun j x' us z' hj h1=>hr j x' _ us z' hj h1) e
  split at e
  ·cases e
  split at e
  ·cases e
  split at e
  ·cases e
  rename_i q'
  have wS:=Classical.not_not.1 q'
  have QU:=lp wS
  obtain⟨us,z',h1,h2⟩:=og e
  have h3:=Ni (V:=0) (ae:=1) hf hi O O QU.2.1 (fun hk k dK us z' h1=>by
   have:=Ka hf f k.node.toNat _ _ dp [] (aA k dK) (Way.nil _ _) us z' h1
   obtain⟨a1,a2⟩:=tp h1
   have:=lp a1
   simp only[lx]at*
   omega) (fun j x' us z' hj h1=>hr j x' _ us z' hj h1) h1
  split at h2
  ·cases h2
  ·simp at h2
   rw[<-h2]
   omega
theorem xh{E:bj}(hf:zh E.s)(hi:i<E.s.length)(e:cd E f i x y dp=U (.ok (vs,z))):vs.length<=100*(z-x)/\x+2<=z/\z<=y/\z<=E.d.size:=by
 have:=Ka hf f i x y dp [] hi (Way.nil _ _) vs z e;obtain⟨a1,a2⟩:=tp e;have:=lp a1;simp only[lx]at*;omega
end
section
open Go.RowKit
theorem Ds(l m:Ls Vl):df (l++m)=df l++df m:=by unfold df;simp
theorem Hb(l:Ls Vl):(df l).length=l.length*4:=by
 induction l with
 |nil=>rfl
 |cons v l ih=>show(v.cells++df l).length=_;rw[ff,ih];show 4+l.length*4=_;simp;omega
theorem Qn(v:Vl)(l:Ls Vl):df (v::l)=v.cells++df l:=by unfold df;simp
theorem Ue{E:bj}{rec:fe}{n:Nd}{o:bz}(hj:j<n.kids.length)(e:gu E rec h x tz dp (n.kids.drop j) j=U o)(hb:E.bg (kd n j).node.toNat h.c h.n=true):∃o',rec (kd n j).node.toNat x tz dp=U o'/\((∃u,o'= .error u/\o= .error u)\/∃vs z,o'= .ok (vs,z)/\o= .ok (⟨13,az,j,1⟩::vs,tz)):=by
 rw[yp hj]at e;unfold gu at e;rw[ba hb]at e;rcases mg e with⟨u,h1,rfl⟩|⟨vs,z,h1,h2⟩;·exact⟨_,h1,.inl ⟨u,X,X⟩⟩
 cases h2;exact⟨_,h1,.inr ⟨vs,z,X,X⟩⟩
theorem Ua{E:bj}{rec:fe}{n:Nd}{o:bz}(hj:j<n.kids.length)(e:gu E rec h x tz dp (n.kids.drop j) j=U o)(hb:E.bg (kd n j).node.toNat h.c h.n=false):gu E rec h x tz dp (n.kids.drop (j+1)) (j+1)=U o:=by
 rw[yp hj]at e;unfold gu at e;rw[G (by rw[hb];decide)]at e;exact e
theorem Wu{E:bj}{rec:fe}{o:Except (Int×Int) (Nat×Ls Vl)}(e:ic E rec set i tz dp m x last j aE=U o)(hx:x<tz):∃o',rec i x tz dp=U o'/\((∃u,o'= .error u/\o= .error u)\/∃vs z,o'= .ok (vs,z)/\((set=true/\jo (E.d.extract x z) last=true/\o= .error (8,(x:Int)))\/(¬(set=true/\jo (E.d.extract x z) last=true)/\∃m',ic E rec set i tz dp m' z (E.d.extract x z) (j+1) (aE++vs)=U o))):=by
 cases m with
 |zero=>cases e
 |succ m=>
  unfold ic at e
  rw[ba hx]at e
  rcases mg e with⟨u,h1,rfl⟩|⟨vs,z,h1,h2⟩
  ·exact⟨_,h1,.inl ⟨u,X,X⟩⟩
  ·refine⟨_,h1,.inr ⟨vs,z,X,?_⟩⟩
   split at h2
   ·rename_i q;cases h2;exact .inl ⟨q.1,q.2,X⟩
   ·rename_i q;exact .inr ⟨q,m,h2⟩
theorem Wt{E:bj}{rec:fe}{o:Except (Int×Int) (Nat×Ls Vl)}(e:ic E rec set i tz dp m x last j aE=U o)(hx:¬x<tz):o= .ok (j,aE):=by
 cases m with
 |zero=>cases e
 |succ m=>unfold ic at e;rw[G hx]at e;exact(dd e).symm
def Ic(kind:Int)(tz:Nat)(v:Except (Int×Int) (Nat×Ls Vl)):bz:=
 match v with
 | .error e=> .error e
 | .ok (j,vs)=> .ok (⟨kind,az,0,j⟩::vs,tz)
theorem Zv(l:Ls Vl)(v:Vl)(m:Ls Vl):(df (l++v::m))[l.length*4+3]? =U (I J v.kids):=by
 rw[Ds,qq (by rw[Hb];omega),Hb,Qn];rw[show l.length*4+3-l.length*4=3 by omega];rfl
theorem Zx(l:Ls Vl)(v:Vl)(m:Ls Vl)(k:Int):(df (l++v::m)).set (l.length*4+3) (I J k)=df (l++⟨v.kind,v.text,v.alt,k⟩::m):=by
 rw[Ds,Ds,List.set_append_right _ _ (by rw[Hb];omega),Hb,Qn,Qn];rw[show l.length*4+3-l.length*4=3 by omega];rfl
def pd(E:bj):Prop:=∀i,i<E.s.length->∀k∈(nd E.s i).kids,k.dflt.size≠0->∃u,iv (nd E.s k.node.toNat) k.dflt u/\E.dv k=⟨(nd E.s k.node.toNat).kind,u,0,0⟩/\1<=(nd E.s k.node.toNat).kind/\(nd E.s k.node.toNat).kind<=9
def wi(v:Except (Int×Int) (Ls Vl))(w:M)(e:Ending)(w':M):Prop:=
 Bw w w'/\
 match v with
 | .error (c,p)=>e=Rt (Tu #[S Z 0 0,I J p,I J c])
 | .ok vs=>∃ta tc,e=Rt (Tu #[S ta vs.length tc,I J 0,I J 0])/\w'.ownsRow w.heap.size 60 4 (S ta vs.length tc) vs.length (df vs)
theorem Gi{base U0:Nat}{e:TypeId}{size:Nat}{v:Vv}{xs:Ls Vv}(h:w.ownsRow base e size v n xs)(hb:U0<=base):w.ownsRow U0 e size v n xs:=by
 refine⟨h.1,?_⟩;rcases h.2 with q|⟨g,cap,aB,q,q2,r⟩;·exact .inl q
 exact .inr ⟨g,cap,aB,q,fw hb q2,r⟩
structure mo(E:bj):Prop where
 bg:∀i,i<E.s.length->∀c m,E.bg i c m=true↔lv E.s i c m
 ok:∀k t,E.ok k t=true↔bu k t
 dv:pd E
theorem Oi(s:Ls Nd)(d:Q)(h:ee s):∃E:bj,E.s=s/\E.d=d/\mo E:=by
 have hb:∃bg:Nat->Int->Int->Bool,∀i c m,bg i c m=true↔lv s i c m:=⟨fun i c m=> @decide (lv s i c m) (Classical.propDecidable _),fun i c m=>Sq⟩;have hk:∃ok:Int->Q->Bool,∀k t,ok k t=true↔bu k t:=⟨fun k t=> @decide (bu k t) (Classical.propDecidable _),fun k t=>Sq⟩;have hd:∃dv:Kd->Vl,∀k u,iv (nd s k.node.toNat) k.dflt u->dv k=⟨(nd s k.node.toNat).kind,u,0,0⟩:=by refine⟨fun k=>⟨(nd s k.node.toNat).kind,@dite _ (∃u,iv (nd s k.node.toNat) k.dflt u) (Classical.propDecidable _) (fun q=>Classical.choose q) (fun _=>⟨#[]⟩),0,0⟩,fun k u hu=>?_⟩;have q:∃u,iv (nd s k.node.toNat) k.dflt u:=⟨u,hu⟩;simp only[dif_pos q];rw[Dg (Classical.choose_spec q) hu]
 obtain⟨bg,hb⟩:=hb;obtain⟨ok,hk⟩:=hk;obtain⟨dv,hd⟩:=hd;refine⟨⟨s,d,bg,ok,dv⟩,X,X,fun i _ c m=>hb i c m,hk,fun i hi k dK aI=>?_⟩;obtain⟨j,hj,e⟩:=zk dK;have dR:kd (nd s i) j=k:=by unfold kd;rw[dy,dz hj];exact e
 have hw:=h.fine.within i hi k dK;rcases(h.2.2.2.2 i hi).2 j hj with q|⟨q1,u,q2⟩;·rw[dR]at q;exact Ab q aI
 rw[dR]at q1 q2;exact⟨u,q2,hd k u q2,(qx h.2.2.1 k.node.toNat O).1,q1⟩
def pb(E:bj)(s:Ls Nd)(root:Int)(d:Q)(v:Except (Int×Int) (Ls Vl)):Prop:=
 (¬(ee s/\0<=root/\root<s.length)/\v= .error (1,0))\/
 ((ee s/\0<=root/\root<s.length)/\4000<d.size/\v= .error (2,0))\/
 ((ee s/\0<=root/\root<s.length)/\d.size<=4000/\E.s=s/\E.d=d/\mo E/\∃f,f<=1000000/\jh E f root.toNat=U v)
theorem Ob(s:Ls Nd)(root:Int)(d:Q):∃E v,pb E s root d v:=by
 by_cases h:ee s/\0<=root/\root<s.length
 ·by_cases hd:d.size<=4000;·obtain⟨E,rfl,rfl,hE⟩:=Oi s d h.1;obtain⟨o,ho⟩:=Bp h.1.fine 168041 root.toNat 0 E.d.size 1 [] O (Way.nil _ _) (by simp only[lx];omega);(obtain⟨v,hv⟩:∃v,jh E 168041 root.toNat=U v:=by unfold jh;refine Fg ho fun vs z _=>?_;split<;>exact⟨_,X⟩);exact⟨E,v,.inr (.inr ⟨h,hd,X,X,hE,168041,O,hv⟩)⟩
  exact⟨⟨[],d,fun _ _ _=>false,fun _ _=>false,fun _=>⟨0,d,0,0⟩⟩,_,.inr (.inl ⟨h,O,X⟩)⟩
 exact⟨⟨[],d,fun _ _ _=>false,fun _ _=>false,fun _=>⟨0,d,0,0⟩⟩,_,.inl ⟨h,X⟩⟩
end
section
open Go.Proofs.Tryz
open Go.RowKit
def uq(a:Oo Ad)(n c gb:Nat)(data:Q)(vt:Vv):Obj:=C #[S a n c,S (U (D gb 0 Z)) n n,Y data,vt] 144 (0,0)
structure eh(W w:M)(R:Nat)(a:Oo Ad)(n c gb:Nat)(data:Q)(tree:Ls Vl):Prop where
 bel:Bw W w
 lo:W.heap.size<=R
 own:∃vt,w.heap[R]? =U (uq a n c gb data vt)/\w.ownsRow W.heap.size 60 4 vt tree.length (df tree)
theorem eh.below(h:eh W w R a n c gb data tree)(hb:Bw w w'):eh W w' R a n c gb data tree where
 bel:=Tm h.bel hb
 lo:=h.lo
 own:=by
  obtain⟨vt,h1,h2⟩:=h.own
  exact⟨vt,bc h1 hb,fm h2 hb⟩
theorem eh.r0(h:eh W w R a n c gb data tree):w.cell? (D R 0 Z)=U (S a n c):=by obtain⟨_,_,vt,hr,_⟩:=h;unfold uq at hr;simp[Wc,hr]
theorem eh.r1(h:eh W w R a n c gb data tree):w.cell? (D R 1 Z)=U (S (U (D gb 0 Z)) n n):=by obtain⟨_,_,vt,hr,_⟩:=h;unfold uq at hr;simp[Wc,hr]
theorem eh.r2(h:eh W w R a n c gb data tree):w.cell? (D R 2 Z)=U (Y data):=by obtain⟨_,_,vt,hr,_⟩:=h;unfold uq at hr;simp[Wc,hr]
theorem adu{tree:Ls Vl}{vt:Vv}(i:Nat)(u:Vv)(hb:Bw W w)(gK:W.heap.size<=R)(hg:w.heap[R]? =U (C A 144 (0,0)))
 (ho:w.ownsRow W.heap.size 60 4 vt tree.length (df tree)):
 Bw W (w.setCell (D R i Z) u)/\(w.setCell (D R i Z) u).heap[R]? =U (C (A.setIfInBounds i u) 144 (0,0))/\(w.setCell (D R i Z) u).ownsRow W.heap.size 60 4 vt tree.length (df tree):=
 ⟨hb.setCell gK u,iw w R i A _ u hg,dk ho (fg hg ho Dc) u⟩
theorem Cz(W w:M)(R:Nat)(a:Oo Ad)(n c gb:Nat)(data:Q)(tree:Ls Vl)(k:Int)(u:Q)(al ki:Int)(h:eh W w R a n c gb data tree)(hl:tree.length<=1099511627776):Cs prog 162 #[Po (U (D R 0 Z)),Ag #[I J k,Y u,I J al,I J ki]] w fun e' w'=>e'=Rt (Tu #[])/\eh W w' R a n c gb data (tree++[⟨k,u,al,ki⟩])/\Fr R w w':=by
 obtain⟨i0,dO,cU,dA,bL⟩:=mh Fe;obtain⟨hb,gK,vt,hr,ho⟩:=h;have HB:Hi (Bw W w):=hb;have HO:Hi (w.ownsRow W.heap.size 60 4 vt tree.length (df tree)):=ho;have HR:Hi (w.heap[R]? =U (uq a n c gb data vt)):=hr;unfold uq at hr;have y3:w.cell? (D R 3 Z)=U vt:=by simp[Wc,hr]
 have eS:=lc y3;have bX:W.heap.size<=w.heap.size+1+1:=by have:=hb.size;omega
 have eF:Hi (∀g cap w3,w3.ownsRow W.heap.size 60 4 (S (U (D g 0 Z)) (tree.length+1) cap) (tree.length+1) (df tree++[I J k,Y u,I J al,I J ki])->((w.alloc (C #[I J k,Y u,I J al,I J ki] 60)).drew.alloc (C #[I J k,Y u,I J al,I J ki] 60)).grownBy w3 vt.ownBlock->
  w3.cell? ⟨R,3,Z⟩=U vt/\w3.frozen? ⟨R,3,Z⟩=false/\eh W (w3.setCell ⟨R,3,Z⟩ (S (U ⟨g,0,Z⟩) (tree.length+1) cap)) R a n c gb data (tree++[⟨k,u,al,ki⟩])/\Fr R w (w3.setCell ⟨R,3,Z⟩ (S (U ⟨g,0,Z⟩) (tree.length+1) cap))):=fun g cap w3 h1 h2=>by
  have ZQ:∀j,j<w.heap.size->(U j≠vt.ownBlock)->w3.heap[j]? =w.heap[j]? :=fun j hj aI=>by
   rw[h2.block j So aI,nr _ _ _ So]
   exact nr w _ _ hj
  have iX:w3.heap[R]? =U (uq a n c gb data vt):=by
   rw[ZQ R eS (fun q=>fg HR HO Dc q.symm)];exact HR
  have hb3:Bw W w3:=by
   have bO:Bw W ((w.alloc (C #[I J k,Y u,I J al,I J ki] 60)).drew.alloc (C #[I J k,Y u,I J al,I J ki] 60)):=(HB.out.alloc HB.out.size _).drew.alloc (by have:=HB.out.size;simp;omega) _
   exact bO.grown h2 bO.size (fun k hk=>(HO.lt k hk).1)
  have mB:w3.ownsRow W.heap.size 60 4 (S (U (D g 0 Z)) (tree.length+1) cap) (tree++[(⟨k,u,al,ki⟩:Vl)]).length (df (tree++[(⟨k,u,al,ki⟩:Vl)])):=by rw[La,ff];exact h1
  obtain⟨b1,r1,o1⟩:=adu 3 (S (U (D g 0 Z)) (tree.length+1) cap) hb3 gK iX mB
  refine⟨by unfold uq at iX;simp[Wc,iX],by unfold uq at iX;simp[Wf,iX],⟨b1,gK,_,r1,o1⟩,fun j A T hj hT hg=>?_⟩
  rw[ez _ _ _ _ hj,ZQ j (eb hg) (fun q=>fg hg HO hT q.symm)]
  exact hg
 clear hb ho hr;go_enter func162,ntmps162;go_wp2_with fail;go_region_law (refine step_append_lies _ X (.tmp 8) (.tmp 10) 39 X W.heap.size 60 i0 zu 4 40 underlying39 dO cU dA bL X Dc vt tree.length (df tree) (by simp[Ae,Ap]) ((HO.alloc _).drew.alloc _) (D (w.heap.size+1) 0 Z) 1 1 [I J k,Y u,I J al,I J ki] (by simp[Ae,Ap]) X (by have q:=World.news_of_block (bl (w.alloc (C #[I J k,Y u,I J al,I J ki] 60)) (C #[I J k,Y u,I J al,I J ki] 60));simpa using q) (by intro u hu;simp at hu;rcases hu with rfl|rfl|rfl|rfl<;>rfl) Dc (by unfold maxLen;omega) O (by simpa using bX) (w.heap.size+1+1) Sq ?_;intro g6 dP w6 tN nQ pS CB;obtain⟨e3,q3,cZ,pU⟩:=eF g6 dP w6 tN nQ;have dN:=ax cZ;have eH:=ax pU;clear tN nQ pS CB cZ pU);all_goals go_simp;go_wp2;go_returns;exact⟨X,dN,eH⟩
theorem Xn(c n:Int)(b:Bool)(pl inn en dp:Int)(w:M)(sn:Sn->Ad)(hs:ei w sn):Cs prog 163 #[Ag #[I J c,I J n,Bo b,I J pl,I J inn,I J en],I J dp] w fun e w'=>e=Rt (if 12<dp then be pl (sn .Deep)else .nilIface)/\Bw w w':=by
 have cD:=hs.cDeep;have dZ:=bp cD;simp only at dZ;by_cases h:12<dp;·rw[ba h];have bS:Hi (∀wq,Cs prog 60 #[I J pl,If 291 (Po (U (sn .Deep)))] wq fun e w'=>e=Rt (be pl (sn .Deep))/\w'=wq):=fun wq=>pj pl _ wq;unfold be at bS ⊢;go_enter func163,ntmps163;go_wp2_with fail;refine(bS _).mono ?_;rintro e w1 ⟨rfl,rfl⟩;go_wp2;go_ret;exact⟨X,Be⟩
 rw[G h];have h':dp<=12:=O;clear h;go_enter func163,ntmps163;go_wp2;go_ret;exact⟨X,Be⟩
def expV(c n:Int)(b:Bool)(wc wn:Int)(wb:Bool)(pl dp:Int)(sn:Sn->Ad):Vv:=if¬(c=wc/\n=wn/\b=wb)then be pl (sn .Tag)else if 12<dp then be pl (sn .Deep)else .nilIface
theorem Va(c n:Int)(b:Bool)(pl inn en wc wn:Int)(wb:Bool)(dp:Int)(w:M)(sn:Sn->Ad)(hs:ei w sn):Cs prog 116 #[Ag #[I J c,I J n,Bo b,I J pl,I J inn,I J en],Ag #[I J wc,I J wn,Bo wb],I J dp] w fun e w'=>e=Rt (expV c n b wc wn wb pl dp sn)/\Bw w w':=by
 have cT:=hs.cTag;have dZ:=bp cT;simp only at dZ;have HS:Hi (ei w sn):=hs;have aY:Hi (∀A B,Bw w ((w.alloc A).alloc B)):=fun A B=>((cm w.heap.size w).alloc Ln A).alloc Sq B;by_cases q:c=wc/\n=wn/\b=wb;·(have HE:Hi (expV c n b wc wn wb pl dp sn=if 12<dp then be pl (sn .Deep)else .nilIface):=by show expV _ _ _ _ _ _ _ _ _=_;unfold expV;rw[G (fun h=>h q)]);obtain⟨rfl,rfl,rfl⟩:=q;(have xF:Hi (∀wq,ei wq sn->Cs prog 163 #[Ag #[I J c,I J n,Bo b,I J pl,I J inn,I J en],I J dp] wq fun e w'=>e=Rt (expV c n b c n b pl dp sn)/\Bw wq w'):=fun wq h=>by rw[HE.out];exact Xn c n b pl inn en dp wq sn h);generalize expV c n b c n b pl dp sn=r at xF HE ⊢;clear hs;go_enter func116,ntmps116;go_wp2_with fail;refine(xF _ (HS.below (aY _ _))).mono ?_;rintro e w1 ⟨rfl,hb1⟩;have aC:Hi (Bw w w1):=(aY _ _).trans (hb1.mono (aY _ _).size);clear hb1;go_wp2;go_ret;exact⟨X,aC⟩
 have HE:Hi (expV c n b wc wn wb pl dp sn=be pl (sn .Tag)):=by show expV _ _ _ _ _ _ _ _ _=_;unfold expV;rw[ba q]
 have bS:Hi (∀wq,Cs prog 60 #[I J pl,If 291 (Po (U (sn .Tag)))] wq fun e w'=>e=Rt (be pl (sn .Tag))/\w'=wq):=fun wq=>pj pl _ wq;have q':(c==wc)=false\/((c==wc)=true/\(n==wn)=false)\/((c==wc)=true/\(n==wn)=true/\(b==wb)=false):=by
  by_cases q1:c=wc
  ·by_cases q2:n=wn;(·right;right;refine⟨by simp[q1],by simp[q2],?_⟩;rw[lf];exact fun q3=>q ⟨q1,q2,q3⟩);right;left;exact⟨by simp[q1],by simp[q2]⟩
  left;simp[q1]
 rw[HE.out];unfold be at bS ⊢;clear hs q;rcases q' with e1|⟨e1,e2⟩|⟨e1,e2,e3⟩;all_goals go_enter func116,ntmps116;go_wp2_with fail;refine(bS _).mono ?_;rintro e w1 ⟨rfl,rfl⟩;go_wp2;go_ret;exact⟨X,aY _ _⟩
theorem acK{all:Bool}{ts:Ls (Int×Int)}(h:An s i all ts)(c m:Int):lv s i c m↔(all=true\/(c,m)∈ts):=by
 obtain⟨_,h1,h2⟩:=h;rw[h1,h2];unfold lv;constructor
 ·rintro⟨j,hj,hb⟩;rcases(zv _ _ _).1 hb with q|⟨q1,q2⟩;·exact .inl ⟨j,hj,q⟩
  exact .inr ⟨j,hj,q1,q2⟩
 rintro(⟨j,hj,q⟩|⟨j,hj,q1,q2⟩);·exact⟨j,hj,(zv _ _ _).2 (.inl q)⟩
 exact⟨j,hj,(zv _ _ _).2 (.inr ⟨q1,q2⟩)⟩
theorem Vk(s:Ls Nd)(gb i:Nat)(c m:Int)(w:M)(hA:uD w gb s)(hi:i<s.length)(hn:s.length<=40):Cs prog 187 #[S (U (D gb 0 Z)) s.length s.length,I J i,Ag #[I J c,I J m]] w fun e w'=>dw (lv s i c m) w e w':=by
 obtain⟨all,ta,tc,ts,p1,p2,p3,p4⟩:=hA i hi;have lC:(i:Int)<s.length:=O;have hb:=acK p4 c m;have dZ:=bp p1;simp only at dZ;cases all;·(have HB:Hi (lv s i c m↔(c,m)∈ts):=by show _↔_;rw[hb];simp);obtain⟨r,hr⟩:=It ((c,m)∈ts);have HR:Hi _:=hr;have aC:Hi (Bw w (w.alloc (C #[I J c,I J m] 147))):=Be;have HCN:Hi (∀x:bh (w.alloc (C #[I J c,I J m] 147)),Cs prog 180 #[S ta ts.length tc,Ag #[I J c,I J m]] x.v fun e eE=>e=Rt (Bo r)/\∃y:bh (w.alloc (C #[I J c,I J m] 147)),eE=y.v):=fun x=>bh.callsR hr (Ul ts ta tc (c,m) x.v (p3.below (bh.bel aC x)) p4.1);have X0:∀x:bh (w.alloc (C #[I J c,I J m] 147)),x.v.cell? (D gb (i*2) Z)=U (Bo false):=fun x=>x.old p1;have X1:∀x:bh (w.alloc (C #[I J c,I J m] 147)),x.v.cell? (D gb (i*2+1) Z)=U (S ta ts.length tc):=fun x=>x.old p2;have X2:∀x:bh (w.alloc (C #[I J c,I J m] 147)),x.v.cell? (D w.heap.size 0 Z)=U (I J c):=fun x=>x.new X;have X3:∀x:bh (w.alloc (C #[I J c,I J m] 147)),x.v.cell? (D w.heap.size 1 Z)=U (I J m):=fun x=>x.new X;clear hA hb hr p3 p4;go_enter func187,ntmps187;go_wp2_with fail;(have ne:=nh;refine nk Kr Kr ?_;(repeat(first|go_big_quiet_skip|(go_big_quiet_want;go_big_quiet_op;first|go_big_quiet_on|(apply Exists.intro;refine⟨fun x=>?_,?_⟩;(·(exact HCN x));go_big_quiet_on))));refine nj ?_);intro w5 aH;have aO:Hi _:=Tm aC aH;clear X0 X1 X2 X3 aH;go_wp2;go_ret;exact yv (HR.trans HB.symm) aO
 have HB:Hi _:=hb.2 (.inl X);clear hA hb p3 p4;go_enter func187,ntmps187;go_wp2_with fail;go_quiet (fail);go_wp2;go_ret;exact ia HB (Go.below_drewN Be _)
theorem adL(d:Q)(x y:Nat)(jQ:x<=y)(hy:y<=d.size):(d.extract 0 y).extract x (d.extract 0 y).size=d.extract x y:=by
 have hs:(d.extract 0 y).size=y:=by rw[sl];omega
 rw[hs];apply je;rw[Ra,Ra,Ra];apply Hn;rw[Qx,Qx,Qx,Rm,Rm,Rm];rw[Aw,Rr,List.drop_take,Lr];congr 1;omega
def gx(h:Hd)(x:Nat):Vv:=Ag #[I J h.c,I J h.n,Bo h.b,I J x,I J ((x:Int)+h.s),I J ((x:Int)+h.s+h.l)]
def Br:Vv:=Ag #[I J 0,I J 0,Bo false,I J 0,I J 0,I J 0]
theorem Jv(W w:M)(R:Nat)(a:Oo Ad)(n c gb0:Nat)(data:Q)(tree:Ls Vl)(x y:Nat)(sn:Sn->Ad)(h:eh W w R a n c gb0 data tree)(hs:ei w sn)(jQ:x<=y)(hy:y<=data.size)(hm:data.size<=140737488355328):Cs prog 114 #[Po (U (D R 0 Z)),I J x,I J y] w fun e w'=>Bw w w'/\(((hd (data.extract x y)).1=0/\e=Rt (Tu #[gx (hd (data.extract x y)).2 x,.nilIface]))\/((hd (data.extract x y)).1≠0/\e=Rt (Tu #[Br,qu x sn (hd (data.extract x y)).1]))):=by
 have r2:=h.r2;have eS:=lc r2;have YR:(data.extract 0 y).size=y:=by rw[sl];omega
 obtain⟨ag,hG⟩:∃ag,hd (data.extract x y)=ag:=Ey;obtain⟨ge,gc,gb,gn,gs,gl⟩:=ag;have iA:Hi (∀wq,ei wq sn->Cs prog 156 #[Y (data.extract 0 y),I J x] wq fun e w'=>e=Rt (Tu #[Ag #[I J gc,Bo gb,I J gn,I J gs,I J gl],qu x sn ge])/\Bw wq w'):=fun wq q=>by have:=Pw (data.extract 0 y) x wq sn q O O;rw[adL data x y jQ hy,hG]at this;exact this
 have F6:Hi (∀wq,Cs prog 157 #[Ag #[I J gc,Bo gb,I J gn,I J gs,I J gl]] wq fun e w'=>e=Rt (Ag #[I J gc,I J gn,Bo gb])/\Bw wq w'):=fun wq=>Vc gc gb gn gs gl wq;have HS:Hi (ei w sn):=hs;have OG:Hi (ge=0->1<=gs/\0<=gl/\gs+gl<=(data.extract x y).size):=fun q=>by have:=pq (r:=data.extract x y) (by rw[hG];exact q);rw[hG]at this;exact this
 have E3:(data.extract x y).size=y-x:=by rw[sl];omega
 rw[hG];simp only;have vN:(y:Int)<=data.size:=O;clear hG h hs;go_enter func114,ntmps114;go_wp2_with fail;refine(iA _ (HS.below Be)).mono ?_;rintro e w1 ⟨rfl,hb1⟩;have aC:Hi (Bw w w1):=dj hb1;have aV:Hi _:=bc (bl w _) hb1;have jB:=eb aV;obtain⟨z0,z1,z2,z3,z4,z5⟩:=oq aV;have f0:w1.frozen? (D w.heap.size 0 Z)=false:=Fz aV.out;have f1:w1.frozen? (D w.heap.size 1 Z)=false:=Fz aV.out;have f2:w1.frozen? (D w.heap.size 2 Z)=false:=Fz aV.out;have f3:w1.frozen? (D w.heap.size 3 Z)=false:=Fz aV.out;have f4:w1.frozen? (D w.heap.size 4 Z)=false:=Fz aV.out;have f5:w1.frozen? (D w.heap.size 5 Z)=false:=Fz aV.out;clear hb1 r2;by_cases lB:ge=0;·subst lB;(have e0:qu x sn 0= .nilIface:=by unfold qu;simp);obtain⟨gs0,gl0,gsl⟩:=OG X;have ajL:(x:Int)+gs+gl<=140737488355328:=O;rw[e0];clear e0 iA HS OG YR E3 jQ hy vN hm eS;go_upto_region 4 with fail;have HX:Hi (Bw w (w1.alloc (C #[I J gc,Bo gb,I J gn,I J gs,I J gl] 179))):=aC.alloc aC.size _;have hZ:(w1.alloc (C #[I J gc,Bo gb,I J gn,I J gs,I J gl] 179)).heap[w.heap.size]? =U (C #[I J 0,I J 0,Bo false,I J 0,I J 0,I J 0] 151 (0,0)):=(nr w1 _ _ jB).trans aV;have hH:=bl w1 (C #[I J gc,Bo gb,I J gn,I J gs,I J gl] 179);clear z0 z1 z2 z3 z4 z5 f0 f1 f2 f3 f4 f5;generalize w1.alloc _=wX at HX hZ hH ⊢;obtain⟨hb,XG⟩:∃hb,w1.heap.size=hb:=Ey;rw[XG]at hH jB ⊢;have aI:w.heap.size≠hb:=O;clear XG aV aC;have HZ:=ax hZ;have HH:=ax hH;have h3:wX.cell? (D hb 3 Z)=U (I J gs):=bq hH X;clear hZ hH;go_upto_region 5 with fail;have K3:Hi (∀w':M,w'.heap[hb]? =U (C #[I J gc,Bo gb,I J gn,I J gs,I J gl] 179 (0,0))->w'.cell? (D hb 0 Z)=U (I J gc)/\w'.cell? (D hb 1 Z)=U (Bo gb)/\w'.cell? (D hb 2 Z)=U (I J gn)/\w'.cell? (D hb 3 Z)=U (I J gs)/\w'.cell? (D hb 4 Z)=U (I J gl)):=fun w' q=>⟨bq q X,bq q X,bq q X,bq q X,bq q X⟩;obtain⟨p0,p1,p2,p3,p4⟩:=K3 _ HH;clear h3;go_region_held_law (fun w'=>w'.cell? (D hb 0 Z)=U (I J gc)/\w'.cell? (D hb 1 Z)=U (Bo gb)/\w'.cell? (D hb 2 Z)=U (I J gn)/\w'.cell? (D hb 3 Z)=U (I J gs)/\w'.cell? (D hb 4 Z)=U (I J gl)) (go_keep) ((go_at_call 157;refine(F6 _).mono ?_;rintro e w2 ⟨rfl,hb2⟩;have rC:=bc (w:=wX.drew) HH hb2;have pY:=bc (w:=wX.drew) HZ hb2;have aD:=ax (Tm HX.drew hb2);obtain⟨q0,q1,q2,q3,q4⟩:=K3 _ rC;have hlh:=eb rC;have hlz:=eb pY;clear rC;have z0:=bq (i:=0) pY X;have z1:=bq (i:=1) pY X;have z2:=bq (i:=2) pY X;have z3:=bq (i:=3) pY X;have z4:=bq (i:=4) pY X;have z5:=bq (i:=5) pY X;have f0:=uT (i:=0) pY;have f1:=uT (i:=1) pY;have f2:=uT (i:=2) pY;have f3:=uT (i:=3) pY;have f4:=uT (i:=4) pY;have f5:=uT (i:=5) pY;clear hb2 pY));(have rR:IntKind.i64.wrap ((x:Int)+gs+gl)=(x:Int)+gs+gl:=by simp[IntKind.wrap,IntKind.bits,IntKind.signed];omega);rw[rR];clear rR p0 p1 p2 p3 p4 q0 q1 q2 q3 q4;go_wp2_with fail;refine db (v:=Tu #[gx ⟨gc,gb,gn,gs,gl⟩ x,.nilIface]) (by simp[results,results114,go_sem,gx,z0,z1,z2,z3,z4,z5]) X ?_;refine⟨?_,by first|exact .inl ⟨X,X⟩|rfl⟩;exact(((((aD.setCell (p:=D w.heap.size 0 Z) Ln _).setCell (p:=D w.heap.size 1 Z) Ln _).setCell (p:=D w.heap.size 2 Z) Ln _).setCell (p:=D w.heap.size 3 Z) Ln _).setCell (p:=D w.heap.size 4 Z) Ln _).setCell (p:=D w.heap.size 5 Z) Ln _
 have DD:Hi _:=lB;obtain⟨za,hv⟩:∃za,qu x sn ge=be x za:=by unfold qu;rw[G lB];(repeat' split);all_goals exact⟨_,X⟩
 have HV:Hi _:=hv;rw[hv];unfold be;clear lB hv F6 iA HS OG YR E3 jQ hy vN hm eS;go_upto_region 3 with fail;have HX:Hi (Bw w (w1.alloc (C #[I J gc,Bo gb,I J gn,I J gs,I J gl] 179))):=aC.alloc aC.size _;have hZ:(w1.alloc (C #[I J gc,Bo gb,I J gn,I J gs,I J gl] 179)).heap[w.heap.size]? =U (C #[I J 0,I J 0,Bo false,I J 0,I J 0,I J 0] 151 (0,0)):=(nr w1 _ _ jB).trans aV;clear z0 z1 z2 z3 z4 z5 f0 f1 f2 f3 f4 f5;generalize w1.alloc _=wX at HX hZ ⊢;obtain⟨z0,z1,z2,z3,z4,z5⟩:=oq hZ;have f0:wX.frozen? (D w.heap.size 0 Z)=false:=Fz hZ;have f1:wX.frozen? (D w.heap.size 1 Z)=false:=Fz hZ;have f2:wX.frozen? (D w.heap.size 2 Z)=false:=Fz hZ;have f3:wX.frozen? (D w.heap.size 3 Z)=false:=Fz hZ;have f4:wX.frozen? (D w.heap.size 4 Z)=false:=Fz hZ;have f5:wX.frozen? (D w.heap.size 5 Z)=false:=Fz hZ;clear hZ jB;go_wp2_with fail;refine db (v:=Tu #[Br,be x za]) (by simp[results,results114,go_sem,Br,be,z0,z1,z2,z3,z4,z5]) X ?_;refine⟨?_,.inr ⟨DD,by rw[HV.out]⟩⟩;exact(((((HX.setCell (p:=D w.heap.size 0 Z) Ln _).setCell (p:=D w.heap.size 1 Z) Ln _).setCell (p:=D w.heap.size 2 Z) Ln _).setCell (p:=D w.heap.size 3 Z) Ln _).setCell (p:=D w.heap.size 4 Z) Ln _).setCell (p:=D w.heap.size 5 Z) Ln _
structure PC(E:bj)(W:M)(a:Oo Ad)(gb:Nat)(sn:Sn->Ad):Prop where
 sch:ew W a E.s
 right:ee E.s
 sok:ky E.s
 bg:∀i,i<E.s.length->∀c m,E.bg i c m=true↔lv E.s i c m
 ok:∀k t,E.ok k t=true↔bu k t
 size:E.d.size<=4000
 ab:uD W gb E.s
 lay:gy W sn
def iu(E:bj)(W:M)(R:Nat)(a:Oo Ad)(c gb:Nat)(sn:Sn->Ad)(o:bz)(tree:Ls Vl)(w:M)(e:Ending)(w':M):Prop:=
 Fr R w w'/\((∃vs z,o= .ok (vs,z)/\e=Rt .nilIface/\eh W w' R a E.s.length c gb E.d (tree++vs))\/
  ∃k q b9,o= .error (k,q)/\e=Rt (be q (sn (Ai k)))/\eh W w' R a E.s.length c gb E.d b9)
theorem iu.of{E:bj}{sn:Sn->Ad}{o:bz}{e:Ending}(h:iu E W R a c gb sn o tree w1 e w')(hf:Fr R w w1):iu E W R a c gb sn o tree w e w':=⟨hf.trans h.1,h.2⟩
def wg(E:bj)(W:M)(R:Nat)(a:Oo Ad)(c gb:Nat)(sn:Sn->Ad)(f:Nat):Prop:=
 ∀(i x y:Nat) (g:Hd) (dp:Int) (o:bz) (tree:Ls Vl) (w:M),E.hd x y=(0,g)->cd E f i x y dp=U o->i<E.s.length->x<=y->y<=E.d.size->1<=dp->dp<=13->eu tree f x y->eh W w R a E.s.length c gb E.d tree->
  Cs prog 78 #[Po (U (D R 0 Z)),I J i,I J dp,gx g x] w fun e w'=>iu E W R a c gb sn o tree w e w'
abbrev uZ(g:Hd)(x:Nat):Array Vv:=#[I J g.c,I J g.n,Bo g.b,I J x,I J ((x:Int)+g.s),I J ((x:Int)+g.s+g.l)]
theorem acg(E:bj)(W:M)(R:Nat)(a:Oo Ad)(c gb:Nat)(sn:Sn->Ad)(hc:PC E W a gb sn)(g:Hd)(x tz:Nat)(dp:Int)(tree:Ls Vl)(w:M)(j7:(tz:Int)=(x:Int)+g.s+g.l)(gZ:x<=tz)(hz:tz<=E.d.size)(bJ:tree.length<=1099511627776)(hI:eh W w R a E.s.length c gb E.d tree):Cs prog 159 #[Po (U (D R 0 Z)),I J dp,gx g x] w fun e w'=>iu E W R a c gb sn (if 12<dp then .error (10,x)else .ok ([⟨14,E.d.extract x tz,0,0⟩],tz)) tree w e w':=by
 have HI:Hi _:=hI;have xF:Hi (∀wq,Bw w wq->Cs prog 163 #[Ag (uZ g x),I J dp] wq fun e w'=>e=Rt (if 12<dp then be x (sn .Deep)else .nilIface)/\Bw wq w'):=fun wq q=>Xn _ _ _ _ _ _ _ wq sn ((hc.lay.below hI.bel).below q).s;have KD:Hi (∀wq,eh W wq R a E.s.length c gb E.d tree->Cs prog 162 #[Po (U (D R 0 Z)),Ag #[I J 14,Y (E.d.extract x tz),I J 0,I J 0]] wq fun e' w'=>e'=Rt (Tu #[])/\eh W w' R a E.s.length c gb E.d (tree++[⟨14,E.d.extract x tz,0,0⟩])/\Fr R wq w'):=fun wq q=>Cz W wq R a _ c gb E.d tree 14 _ 0 0 q bJ;have eS:=lc hI.r0;unfold gx;rw[<-j7];unfold uZ at xF;rw[<-j7]at xF;clear hI hc bJ j7;by_cases gJ:12<dp;·rw[ba gJ];(have KV:Hi (∀wq,Bw w wq->Cs prog 163 #[Ag #[I J g.c,I J g.n,Bo g.b,I J x,I J ((x:Int)+g.s),I J tz],I J dp] wq fun e w'=>e=Rt (be x (sn .Deep))/\Bw wq w'):=fun wq q=>by have:=xF wq q;rw[ba gJ]at this;exact this);unfold be at KV;clear xF gJ;go_enter func159,ntmps159;go_wp2_with fail;refine(KV _ Be).mono ?_;rintro e w1 ⟨rfl,hb1⟩;have aC:Hi _:=dj hb1;clear hb1;go_wp2;go_ret;exact⟨Fr.of_below aC,.inr ⟨10,x,tree,X,X,HI.below aC⟩⟩
 rw[G gJ];have KV:Hi (∀wq,Bw w wq->Cs prog 163 #[Ag #[I J g.c,I J g.n,Bo g.b,I J x,I J ((x:Int)+g.s),I J tz],I J dp] wq fun e w'=>e=Rt .nilIface/\Bw wq w'):=fun wq q=>by have:=xF wq q;rw[G gJ]at this;exact this
 clear xF gJ;have akd:(x:Int)<=tz:=O;have AX:(tz:Int)<=E.d.size:=O;go_enter func159,ntmps159;go_wp2_with fail;refine(KV _ Be).mono ?_;rintro e w1 ⟨rfl,hb1⟩;have aC:Hi _:=dj hb1;have aV:Hi _:=bc (bl w _) hb1;have aZ:Hi _:=HI.below aC;clear hb1;have q1:=aZ.out.r2;obtain⟨-, -, -,q2, -,q3⟩:=oq aV;have aI:w.heap.size≠R:=O;go_upto_region 4 with fail;go_region_held_law (fun w'=>w'.cell? (D R 2 Z)=U (Y E.d)/\w'.cell? (D w.heap.size 3 Z)=U (I J x)/\w'.cell? (D w.heap.size 5 Z)=U (I J tz)) (go_keep) ((go_at_call 162;refine(KD _ (aZ.below (By).drew)).mono ?_;rintro e w3 ⟨rfl,bI,dF⟩;have p1:=bI.r2;have gV:=dF _ _ _ aI Dc aV;have p2:w3.cell? (D w.heap.size 3 Z)=U (I J x):=bq gV X;have p3:w3.cell? (D w.heap.size 5 Z)=U (I J tz):=bq gV X;have cH:=ax bI;have dI:Hi (Fr R w w3):=(Fr.of_below (aC.drew)).trans dF;clear bI dF gV));go_wp2;go_ret;exact⟨dI,.inl ⟨_,_,X,X,cH⟩⟩
abbrev ql(n:Nd)(ka:Oo Ad)(kc:Nat):Array Vv:=#[I J n.kind,I J n.tag,I J n.mode,S ka n.kids.length kc]
theorem adj(E:bj)(W:M)(R:Nat)(a:Oo Ad)(c gb:Nat)(sn:Sn->Ad)(f:Nat)(hc:PC E W a gb sn)(hN:wg E W R a c gb sn f)(i:Nat)(hi:i<E.s.length)(ka:Oo Ad)(kc:Nat)(aK:bn W ka (nd E.s i).kids)(aL:(nd E.s i).kids.length<=kc)(g:Hd)(x tz:Nat)(dp:Int)(o:bz)(tree:Ls Vl)(w:M)(hg:E.hd x tz=(0,g))(hm:gu E (cd E f) g x tz dp (nd E.s i).kids 0=U o)(gZ:x<=tz)(hz:tz<=E.d.size)(cP:1<=dp)(dD:dp<=13)(bJ:eu tree (f+1) x tz)(hI:eh W w R a E.s.length c gb E.d tree):Cs prog 158 #[Po (U (D R 0 Z)),Ag (ql (nd E.s i) ka kc),I J dp,gx g x] w fun e w'=>iu E W R a c gb sn o tree w e w':=by
 have HC:Hi _:=hc;have HN:Hi _:=hN;have HG:Hi _:=hg;have fN:Hi _:=aK;have HM:Hi _:=hm;have HI:Hi (eh W w R a E.s.length c gb E.d tree):=hI;have eS:=lc hI.r0;have jU:Hi (eu tree (f+1) x tz):=bJ;have kY:Hi (∀j,j<(nd E.s i).kids.length->∃t:Nat,(kd (nd E.s i) j).node=t/\t<E.s.length):=fun j hj=>by have:=hc.right.fine.within i hi _ (ni hj);exact⟨(kd (nd E.s i) j).node.toNat,O,O⟩
 have gA:=hc.right.fine.eight i hi;have AP:=hc.right.fine.len;have bS:Hi (∀wq,Cs prog 60 #[I J x,If 291 (Po (U (sn .Tag)))] wq fun e w'=>e=Rt (be x (sn .Tag))/\w'=wq):=fun wq=>pj x _ wq;unfold be at bS;have HA:Hi (∀A B,Bw w ((w.alloc A).alloc B)):=fun A B=>((cm w.heap.size w).alloc Ln A).alloc Sq B;clear hc hN aK hm hI bJ hi hg;unfold gx ql;go_enter func158,ntmps158;go_wp2;generalize fD:(w.alloc _).alloc _=w0;have aY:Hi (Bw w w0):=by show Bw w w0;rw[<-fD];exact HA _ _
 have cJ:Hi (w0.heap[w.heap.size+1]? =U (C (uZ g x) 151 (0,0))):=by show w0.heap[w.heap.size+1]? =_;rw[<-fD];have q:=bl (w.alloc (C #[I J (nd E.s i).kind,I J (nd E.s i).tag,I J (nd E.s i).mode,S ka (nd E.s i).kids.length kc] 58)) (C (uZ g x) 151);simpa using q
 have kC:Hi _:=HI.below aY;clear fD HA;go_loopw [14] (fun vj wq=>∃j:Nat,j<=(nd E.s i).kids.length/\vj=I J j/\gu E (cd E f) g x tz dp ((nd E.s i).kids.drop j) j=U o/\Bw w0 wq) (fun vj _=>(nd E.s i).kids.length-(Io vj).toNat);case atStart=>exact⟨0,Lz,X,HM,By⟩
 obtain⟨j,hj,rfl,(qS:Hi _),aT⟩:=hrel;have HB:Hi (Bw w0 wr):=aT;have vU:Hi (eh W wr R a E.s.length c gb E.d tree):=kC.below aT;have F8:Hi (Fr R w wr):=(Fr.of_below aY).below aT;have eL:Hi (wr.heap[w.heap.size+1]? =U (C (uZ g x) 151 (0,0))):=bc cJ aT;have dW:=eb eL;clear aT;by_cases aA:j<(nd E.s i).kids.length
 ·have aN:(j:Int)<(nd E.s i).kids.length:=O;obtain⟨kb,ko,rfl,aX⟩:=fN j aA;obtain⟨t,ht,bC⟩:=kY j aA;obtain⟨k1,k2,k3⟩:=aX.below vU.bel;obtain⟨sQ,AH⟩:∃b,((nd E.s i).kids.getD j fy).opt=b:=Ey;obtain⟨yT,yI⟩:∃b,((nd E.s i).kids.getD j fy).dflt=b:=Ey;have MU:((nd E.s i).kids.getD j fy).node=t:=ht;rw[MU]at k1;rw[AH]at k2;rw[yI]at k3;have gC:(kd (nd E.s i) j).node.toNat=t:=O;have HT:Hi ((kd (nd E.s i) j).node.toNat=t):=gC;clear aX ht gC MU AH yI;go_upto_region 4 with fail;generalize P6:wr.alloc _=w4;have aJ:Hi (Bw wr w4):=by show Bw wr w4;rw[<-P6];exact Be
  have tD:Hi (w4.heap[wr.heap.size]? =U (C #[I J t,Bo sQ,Y yT] 55 (0,0))):=by show w4.heap[wr.heap.size]? =_;rw[<-P6];exact bl wr _
  have v7:Hi (w4.heap[w.heap.size+1]? =U (C (uZ g x) 151 (0,0))):=bc eL aJ;have bE:Hi (eh W w4 R a E.s.length c gb E.d tree):=vU.below aJ;clear P6 k1 k2 k3;have sY:Hi (∀x:bh w4,Cs prog 187 #[S (U (D gb 0 Z)) E.s.length E.s.length,I J t,Ag #[I J g.c,I J g.n]] x.v fun e eE=>e=Rt (Bo (E.bg t g.c g.n))/\∃y:bh w4,eE=y.v):=fun x=>bh.callsR (HC.bg t bC g.c g.n) (Vk E.s gb t g.c g.n x.v (HC.ab.below (Tm bE.bel x.h)) bC AP);have X0:∀x:bh w4,x.v.cell? (D R 1 Z)=U (S (U (D gb 0 Z)) E.s.length E.s.length):=fun x=>x.cell bE.r1;have X2:∀x:bh w4,x.v.cell? (D wr.heap.size 0 Z)=U (I J t):=fun x=>x.cell (bq tD X);have X3:∀y:bh w4,y.v.cell? (D (w.heap.size+1) 0 Z)=U (I J g.c):=fun y=>y.cell (bq v7 X);have X4:∀y:bh w4,y.v.cell? (D (w.heap.size+1) 1 Z)=U (I J g.n):=fun y=>y.cell (bq v7 X);(have ne:=nh;refine nk Kr Kr ?_;(repeat(first|go_big_quiet_skip|(go_big_quiet_want;go_big_quiet_op;first|go_big_quiet_on|(apply Exists.intro;refine⟨fun x=>?_,?_⟩;(·(exact sY x));go_big_quiet_on))));refine nj ?_);intro w5 aH;have aO:Hi (Bw wr w5):=Tm aJ aH;have fY:Hi (eh W w5 R a E.s.length c gb E.d tree):=bE.below aH;have oC:Hi (Fr R w w5):=F8.below aO;have vV:Hi (w5.heap[wr.heap.size]? =U (C #[I J t,Bo sQ,Y yT] 55 (0,0))):=bc tD aH;have o6:Hi (w5.heap[w.heap.size+1]? =U (C (uZ g x) 151 (0,0))):=bc v7 aH;clear X0 X2 X3 X4 aH sY aJ tD v7 bE;cases hbg:E.bg t g.c g.n;·have lI:Hi (gu E (cd E f) g x tz dp ((nd E.s i).kids.drop (j+1)) (j+1)=U o):=Ua aA qS (by rw[HT.out];exact hbg);clear hbg;go_wp2;go_roundw;(case rel=>exact⟨j+1,O,Gn,lI,Tm HB aO⟩);exact Ms
  obtain⟨o',hr,(HO:Hi _)⟩:=Ue aA qS (by rw[HT.out];exact hbg);rw[HT.out]at hr;have nA:Hi (cd E f t x tz dp=U o'):=hr;clear hbg hr;have i9:tree.length<=1099511627776:=by have:=jU.out;unfold eu at this;omega
  have rZ:Hi (eu (tree++[⟨13,⟨#[]⟩,(j:Int),1⟩]) f x tz):=by show eu _ _ _ _;have:=jU.out;unfold eu at this ⊢;simp only[ff,fu,lx];omega
  have sH:wr.heap.size≠R:=by have:=aY.out.size;have:=HB.out.size;omega
  have yN:w.heap.size+1≠R:=O;go_wp2_with fail;refine(Cz W _ R a E.s.length c gb E.d tree 13 ⟨#[]⟩ j 1 fY i9).mono ?_;rintro e w6 ⟨rfl,(dN:Hi _),qB⟩;have eH:Hi (Fr R w w6):=oC.trans qB;have wG:=qB _ _ _ sH Dc vV;have vA:=qB _ _ _ yN Dc o6;have m0:w6.cell? (D wr.heap.size 0 Z)=U (I J t):=bq wG X;obtain⟨s0,s1,s2,s3,s4,s5⟩:=oq vA;clear qB wG vA;go_wp2_with fail;refine(HN t x tz g dp o' _ _ HG nA bC gZ hz cP dD rZ dN).mono ?_;rintro e w7 EA;have FN:Hi (iu E W R a c gb sn o' (tree++[⟨13,⟨#[]⟩,(j:Int),1⟩]) w6 e w7):=EA;clear EA m0 s0 s1 s2 s3 s4 s5;have j4:Hi (∀e,iu E W R a c gb sn o' (tree++[⟨13,⟨#[]⟩,(j:Int),1⟩]) w6 e w7->iu E W R a c gb sn o tree w e w7):=fun e q=>by
   obtain⟨q1,q2⟩:=q;refine⟨eH.trans q1,?_⟩;rcases HO with⟨u,hu,ho⟩|⟨vs,z,hu,ho⟩
   ·rcases q2 with⟨vs,z,q3,_⟩|⟨k,q,tr,q3,q4,q5⟩;(·rw[hu]at q3;cases q3);exact .inr ⟨k,q,tr,by rw[ho,<-hu,q3],q4,q5⟩
   rcases q2 with⟨m6,z',q3,q4,q5⟩|⟨k,q,tr,q3,_⟩;(·rw[hu]at q3;cases q3;refine .inl ⟨_,_,ho,q4,?_⟩;rw[na]at q5;exact q5);rw[hu]at q3;cases q3
  have f8:(e=Rt .nilIface)\/∃q z,e=Rt (be q z):=by
   rcases FN.2 with⟨_,_,_,q4,_⟩|⟨k,q,_,_,q4,_⟩;(·exact .inl q4);exact .inr ⟨q,_,q4⟩
  rcases f8 with rfl|⟨q,za,rfl⟩;·go_wp2;go_ret;exact j4 _ FN
  unfold be;go_wp2;go_ret;exact j4 _ FN
 have aN:¬(j:Int)<(nd E.s i).kids.length:=O;have ho:o= .error (4,(x:Int)):=by have q:=qS.out;rw[Av O]at q;unfold gu at q;cases q;rfl
 have HO:Hi _:=ho;have cT:=(HC.lay.below vU.bel).s.cTag;have dZ:=bp cT;simp only at dZ;have s3:wr.cell? (D (w.heap.size+1) 3 Z)=U (I J x):=bq eL X;clear ho;go_wp2_with fail;refine(bS _).mono ?_;rintro e w6 ⟨rfl,rfl⟩;go_wp2;go_ret;exact⟨F8,.inr ⟨4,x,tree,HO,X,vU⟩⟩
theorem eh.r3(h:eh W w R a n c gb data tree):∃va vc,w.cell? (D R 3 Z)=U (S va tree.length vc):=by
 obtain⟨_,_,vt,hr,ho⟩:=h;obtain⟨va,vc,rfl,_⟩:=yr ho;unfold uq at hr;exact⟨va,vc,by simp[Wc,hr]⟩
theorem eh.bump{v:Vl}(h:eh W w R a n c gb data (tree++v::aE)):∃g cap,w.cell? (D R 3 Z)=U (S (U (D g 0 Z)) (tree++v::aE).length cap)/\w.cell? (D g (tree.length*4+3) Z)=U (I J v.kids)/\w.frozen? (D g (tree.length*4+3) Z)=false/\∀k:Int,eh W (w.setCell (D g (tree.length*4+3) Z) (I J k)) R a n c gb data (tree++⟨v.kind,v.text,v.alt,k⟩::aE)/\Fr R w (w.setCell (D g (tree.length*4+3) Z) (I J k)):=by
 obtain⟨hb,gK,vt,hr,ho⟩:=h;obtain⟨g,cap,rfl⟩:∃g cap,vt=S (U (D g 0 Z)) (tree++v::aE).length cap:=by obtain⟨g,cap,q⟩:=ho.form (by simp only[ff,fu];omega);exact⟨g,cap,q.1⟩
 have IZ:g≠R:=fun q=>fg hr ho Dc (by simp[Value.ownBlock,q]);have aA:=(ho.lt g X);have hT:∃aB,w.heap[g]? =U (C aB 60 (0,0)):=by
  rcases ho.2 with⟨q,_⟩|⟨g',O8,aB,q,_,q2,_⟩;·cases q
  injection q with q;injection q with q;injection q with q;subst q;exact⟨aB,q2⟩
 refine⟨g,cap,?_,?_,?_,fun k=>⟨⟨hb.setCell aA.1 _,gK,S (U (D g 0 Z)) (tree++v::aE).length cap,?_,?_⟩,?_⟩⟩;·unfold uq at hr;simp[Wc,hr]
 ·rw[ho.cellAt _ (by simp only[ff,fu];omega)];exact Zv tree v aE
 ·exact ho.frozenAt _
 ·rw[ez _ _ _ _ (Ne.symm IZ)];exact hr
 ·have:=(ho.stored (tree.length*4+3) (I J k)).1;rw[Zx]at this;simpa using this
 intro j A T hj P4 hA;obtain⟨aB,fU⟩:=hT;have aI:j≠g:=fun q=>by subst q;rw[fU]at hA;injection hA with hA;injection hA with _ q _;exact P4 q.symm
 rw[ez _ _ _ _ aI];exact hA
theorem Ym{E:bj}{o:bz}(e:cd E f i x y dp=U o)(h:(E.hd x y).1≠0):o= .error ((E.hd x y).1,(x:Int)):=by
 cases f with
 |zero=>cases e
 |succ f=>unfold cd at e;rw[ba h]at e;exact(dd e).symm
def aaD(E:bj)(W:M)(R:Nat)(a:Oo Ad)(c gb f:Nat)(kS:Bool)(t x tz:Nat)(dp kind:Int)(o:Except (Int×Int) (Nat×Ls Vl))(tree:Ls Vl)(x':Nat)(last:Q)(wq:M):Prop:=
 ∃(m j:Nat) (aE:Ls Vl),ic E (cd E f) kS t tz (dp+1) m x' last j aE=U o/\eh W wq R a E.s.length c gb E.d (tree++⟨kind,⟨#[]⟩,0,(j:Int)⟩::aE)/\aE.length<=100*(x'-x)/\j<=x'-x
theorem agj(E:bj)(W:M)(R:Nat)(a:Oo Ad)(c gb:Nat)(sn:Sn->Ad)(f:Nat)(hc:PC E W a gb sn)(hN:wg E W R a c gb sn f)(i:Nat)(hi:i<E.s.length)(hk:(nd E.s i).kind=11\/(nd E.s i).kind=12)(ka:Oo Ad)(kc:Nat)(aK:bn W ka (nd E.s i).kids)(aL:(nd E.s i).kids.length<=kc)(g:Hd)(x0 x tz m:Nat)(dp:Int)(o:Except (Int×Int) (Nat×Ls Vl))(tree:Ls Vl)(w:M)(nZ:(x:Int)=(x0:Int)+g.s)(j7:(tz:Int)=(x0:Int)+g.s+g.l)(hm:ic E (cd E f) (decide ((nd E.s i).kind=12)) (kd (nd E.s i) 0).node.toNat tz (dp+1) m x az 0 []=U o)(gZ:x<=tz)(hz:tz<=E.d.size)(cP:1<=dp)(dD:dp<=12)(bJ:eu tree (f+1) x tz)(hI:eh W w R a E.s.length c gb E.d tree):Cs prog 161 #[Po (U (D R 0 Z)),Ag (ql (nd E.s i) ka kc),I J dp,gx g x0] w fun e w'=>iu E W R a c gb sn (Ic (nd E.s i).kind tz o) tree w e w':=by
 have HC:Hi (PC E W a gb sn):=hc;have HN:Hi (wg E W R a c gb sn f):=hN;have HI:Hi (eh W w R a E.s.length c gb E.d tree):=hI;have eS:R<w.heap.size:=bp hI.r0;have jU:Hi (eu tree (f+1) x tz):=bJ;have h1:=hc.right.fine.one i hi hk;obtain⟨kb,ko,rfl,aX⟩:=aK 0 O;have sG:=hc.right.fine.within i hi _ (ni (n:=nd E.s i) (i:=0) O);obtain⟨t,ht⟩:∃t:Nat,(kd (nd E.s i) 0).node=t:=⟨(kd (nd E.s i) 0).node.toNat,O⟩;have bC:t<E.s.length:=O;have gC:(kd (nd E.s i) 0).node.toNat=t:=O;have k0:W.cell? (D kb ko Z)=U (I J t):=by rw[<-ht];have:=aX.node;rw[Lx,zp]at this;exact this
 have CX:(0:Int)<(nd E.s i).kids.length:=O;rw[gC]at hm;obtain⟨kS,pC⟩:∃b:Bool,b=decide ((nd E.s i).kind=12):=Ez;have EJ:((nd E.s i).kind==12)=kS:=by rw[pC];exact X
 rw[<-pC]at hm;have HM:Hi (ic E (cd E f) kS t tz (dp+1) m x az 0 []=U o):=hm;have oP:tree.length<=1099511627776:=by unfold eu at bJ;omega
 have xD:Hi (W.cell? (D kb ko Z)=U (I J t)):=k0;have AA:=hc.size;have bS:Hi (∀(x':Nat) wq,Cs prog 60 #[I J x',If 291 (Po (U (sn .Order)))] wq fun e w'=>e=Rt (be x' (sn .Order))/\w'=wq):=fun x' wq=>pj x' _ wq;unfold be at bS;have HA:Hi (∀A B,Bw w ((w.alloc A).alloc B)):=fun A B=>((cm w.heap.size w).alloc Ln A).alloc Sq B;unfold gx ql;rw[<-j7,<-nZ];clear hc hN aK hm hI bJ hi hk aX sG ht gC pC k0 h1 nZ j7;generalize fD:(w.alloc (C #[I J (nd E.s i).kind,I J (nd E.s i).tag,I J (nd E.s i).mode,S (U (D kb ko Z)) (nd E.s i).kids.length kc] 58)).alloc (C #[I J g.c,I J g.n,Bo g.b,I J x0,I J x,I J tz] 151)=w0;have aY:Hi (Bw w w0):=by show Bw w w0;rw[<-fD];exact HA _ _
 have aV:Hi (w0.heap[w.heap.size]? =U (C #[I J (nd E.s i).kind,I J (nd E.s i).tag,I J (nd E.s i).mode,S (U (D kb ko Z)) (nd E.s i).kids.length kc] 58 (0,0))):=by show w0.heap[w.heap.size]? =_;rw[<-fD];exact bc (bl w _) Be
 have cJ:Hi (w0.heap[w.heap.size+1]? =U (C #[I J g.c,I J g.n,Bo g.b,I J x0,I J x,I J tz] 151 (0,0))):=by show w0.heap[w.heap.size+1]? =_;rw[<-fD];have q:=bl (w.alloc (C #[I J (nd E.s i).kind,I J (nd E.s i).tag,I J (nd E.s i).mode,S (U (D kb ko Z)) (nd E.s i).kids.length kc] 58)) (C #[I J g.c,I J g.n,Bo g.b,I J x0,I J x,I J tz] 151);simpa using q
 have kC:Hi (eh W w0 R a E.s.length c gb E.d tree):=HI.below aY;have iW:=ax fD;clear fD HA;obtain⟨va,vc,r3⟩:=kC.out.r3;have n0:w0.cell? (D w.heap.size 0 Z)=U (I J (nd E.s i).kind):=bq aV X;go_enter func161,ntmps161;go_upto_region 1 with fail;rw[iW.out];clear iW;go_wp2_with fail;refine(Cz W _ R a E.s.length c gb E.d tree (nd E.s i).kind ⟨#[]⟩ 0 0 kC oP).mono ?_;rintro e w1 ⟨rfl,(aZ:Hi _),dJ⟩;have iE:Hi (Fr R w w1):=(Fr.of_below aY).trans dJ;have nH:w.heap.size≠R:=O;have iT:w.heap.size+1≠R:=O;have tE:=ax (dJ _ _ _ nH Dc aV);have m8:=ax (dJ _ _ _ iT Dc cJ);have s4:w1.cell? (D (w.heap.size+1) 4 Z)=U (I J x):=bq m8 X;clear dJ r3 n0;go_wp2;go_loopw [10,11] (fun vl vp wq=>∃(x':Nat) (last:Q),vl=Y last/\vp=I J x'/\x<=x'/\x'<=tz/\Fr R w wq/\wq.heap[w.heap.size]? =U (C #[I J (nd E.s i).kind,I J (nd E.s i).tag,I J (nd E.s i).mode,S (U (D kb ko Z)) (nd E.s i).kids.length kc] 58 (0,0))/\wq.heap[w.heap.size+1]? =U (C #[I J g.c,I J g.n,Bo g.b,I J x0,I J x,I J tz] 151 (0,0))/\aaD E W R a c gb f kS t x tz dp (nd E.s i).kind o tree x' last wq) (fun _ vp _=>tz-(Io vp).toNat);case atStart=>exact⟨x,⟨#[]⟩,X,X,Ln,gZ,iE,tE,m8,⟨m,0,[],HM,aZ,Sq,O⟩⟩
 obtain⟨x',last,rfl,rfl,bR,aQ,kN,(GU:Hi _),hb2,sL⟩:=hrel;have b7:Hi (Fr R w wr):=kN;have sB:Hi (wr.heap[w.heap.size+1]? =U (C #[I J g.c,I J g.n,Bo g.b,I J x0,I J x,I J tz] 151 (0,0))):=hb2;obtain⟨m',j,aE,(kE:Hi _),kH,L0,hjx⟩:=sL;have iV:Hi (eh W wr R a E.s.length c gb E.d (tree++⟨(nd E.s i).kind,⟨#[]⟩,0,(j:Int)⟩::aE)):=kH;have s5:wr.cell? (D (w.heap.size+1) 5 Z)=U (I J tz):=bq hb2 X;have wN:=lc s5;have zW:=lc kH.r0;clear kH kN hb2 s4;by_cases aA:x'<tz
 ·have aN:(x':Int)<tz:=O;obtain⟨o',(nA:Hi _),(HO:Hi _)⟩:=Wu kE aA;have rZ:Hi (eu (tree++⟨(nd E.s i).kind,⟨#[]⟩,0,(j:Int)⟩::aE) f x' tz):=by show eu _ _ _ _;have:=jU.out;unfold eu at this ⊢;simp only[ff,fu];omega
  have tG:=ax (Jv W wr R a E.s.length c gb E.d _ x' tz sn iV (HC.lay.below iV.bel).s O hz O);go_wp2_with fail;refine tG.mono ?_;rintro e w4 ⟨(aJ:Hi _),h4⟩;clear tG;rcases h4 with⟨eY,rfl⟩|⟨eY,rfl⟩
  ·obtain⟨h,hh⟩:∃h,(hd (E.d.extract x' tz)).2=h:=Ey;(have fB:Hi (E.hd x' tz=(0,h)):=by show E.hd x' tz=(0,h);unfold bj.hd;rw[<-eY,<-hh]);rw[hh];clear eY hh;obtain⟨z,lN⟩:∃z,z=fk x' h:=Ez;have eM:=uR (E:=E) (x:=x') (y:=tz) (by rw[fB.out]);have dM:=lp (E:=E) (x:=x') (y:=tz) (by rw[fB.out]);rw[fB.out]at eM dM;simp only at eM dM;rw[<-lN]at eM dM;have jZ:(x':Int)+h.s+h.l=z:=O;have KW:Hi (∀wq,eh W wq R a E.s.length c gb E.d (tree++⟨(nd E.s i).kind,⟨#[]⟩,0,(j:Int)⟩::aE)->Cs prog 78 #[Po (U (D R 0 Z)),I J t,I J (dp+1),Ag #[I J h.c,I J h.n,Bo h.b,I J x',I J ((x':Int)+h.s),I J z]] wq fun e w'=>∃ve,e=Rt ve/\iu E W R a c gb sn o' (tree++⟨(nd E.s i).kind,⟨#[]⟩,0,(j:Int)⟩::aE) wq (Rt ve) w'):=fun wq q=>by
    have:=HN t x' tz h (dp+1) o' _ wq fB nA bC O hz O O rZ q;unfold gx at this;rw[jZ]at this;exact this.mono fun e w' qa=>by
     rcases qa.2 with⟨_,_,_,q4,_⟩|⟨_,_,_,_,q4,_⟩;(·exact⟨_,q4,by rw[<-q4];exact qa⟩);exact⟨_,q4,by rw[<-q4];exact qa⟩
   have xO:Hi (z=fk x' h):=lN;have dA:x'+2<=z:=O;have bL:z<=tz:=O;unfold gx;rw[jZ];clear lN eM dM jZ;go_upto_region 9 with fail;generalize CI:w4.alloc _=w5;(have aO:Hi (Bw wr w5):=by show Bw wr w5;rw[<-CI];exact aJ.alloc aJ.size _);(have o6:Hi (w5.heap[w4.heap.size]? =U (C #[I J h.c,I J h.n,Bo h.b,I J x',I J ((x':Int)+h.s),I J z] 151 (0,0))):=by show w5.heap[w4.heap.size]? =_;rw[<-CI];exact bl w4 _);have fY:Hi (eh W w5 R a E.s.length c gb E.d (tree++⟨(nd E.s i).kind,⟨#[]⟩,0,(j:Int)⟩::aE)):=iV.below aO;have FL:=ax (bc GU aO);have KC:=ax (bc sB aO);obtain⟨b3,hb3⟩:∃b3,w4.heap.size=b3:=Ey;rw[hb3]at o6 ⊢;(have aef:wr.heap.size<=b3:=by rw[<-hb3];exact aJ.size);have L1:b3≠R:=O;clear CI hb3 s5;have n3:w5.cell? (D w.heap.size 3 Z)=U (S (U (D kb ko Z)) (nd E.s i).kids.length kc):=bq FL X;have k3:w5.cell? (D kb ko Z)=U (I J t):=(fY.bel.cell (p:=D kb ko Z) (bp xD)).trans xD;obtain⟨t0,t1,t2,t3,t4,t5⟩:=oq o6;go_region_held_law (fun w'=>w'.cell? (D w.heap.size 3 Z)=U (S (U (D kb ko Z)) (nd E.s i).kids.length kc)/\w'.cell? (D kb ko Z)=U (I J t)/\w'.cell? (D b3 0 Z)=U (I J h.c)/\w'.cell? (D b3 1 Z)=U (I J h.n)/\w'.cell? (D b3 2 Z)=U (Bo h.b)/\w'.cell? (D b3 3 Z)=U (I J x')/\w'.cell? (D b3 4 Z)=U (I J ((x':Int)+h.s))/\w'.cell? (D b3 5 Z)=U (I J z)) (first|exact⟨p3,pk,q0,q1,q2,q3,q4,q5⟩|exact⟨n3,k3,t0,t1,t2,t3,t4,t5⟩) ((go_at_call 78;refine(KW _ (fY.below (By).drew)).mono ?_;rintro e w6 ⟨ve,rfl,eA⟩;have lG:=ax eA;have pU:Fr R w5 w6:=(Fr.of_below ((cm w5.heap.size w5).drew)).trans eA.1;have WQ:Bw W w6:=(by rcases eA.2 with⟨_,_,_,_,q⟩|⟨_,_,_,_,_,q⟩ <;>exact q.bel);have vA:=pU _ _ _ L1 Dc o6;have PJ:=pU _ _ _ nH Dc FL;have VF:=pU _ _ _ iT Dc KC;have v8:=ax vA;have KA:=ax PJ;have M7:=ax VF;have p3:w6.cell? (D w.heap.size 3 Z)=U (S (U (D kb ko Z)) (nd E.s i).kids.length kc):=bq PJ X;have pk:w6.cell? (D kb ko Z)=U (I J t):=(WQ.cell (p:=D kb ko Z) (bp xD)).trans xD;have q0:w6.cell? (D b3 0 Z)=U (I J h.c):=bq vA X;have q1:w6.cell? (D b3 1 Z)=U (I J h.n):=bq vA X;have q2:w6.cell? (D b3 2 Z)=U (Bo h.b):=bq vA X;have q3:w6.cell? (D b3 3 Z)=U (I J x'):=bq vA X;have q4:w6.cell? (D b3 4 Z)=U (I J ((x':Int)+h.s)):=bq vA X;have q5:w6.cell? (D b3 5 Z)=U (I J z):=bq vA X;have eH:=ax pU;clear eA pU WQ vA PJ VF));clear n3 k3 t0 t1 t2 t3 t4 t5 p3 pk q0 q1 q2 q4;have TP:Hi (Fr R w w6):=(b7.below aO).trans eH;rcases lG.2 with⟨vs,zz,fW,fL,cZ⟩|⟨ke,qe,tr,fW,fL,cZ⟩
   ·(obtain rfl:ve= .nilIface:=by injection fL);obtain⟨_,jZ⟩:=tp (by rw[<-fW];exact nA);rw[fB.out]at jZ;(have ae3:zz=z:=by rw[jZ];exact xO.symm);subst ae3;have bP:=xh HC.right.fine bC (by rw[<-fW];exact nA);have xJ:Hi ((kS=true/\jo (E.d.extract x' zz) last=true/\o= .error (8,(x':Int)))\/(¬(kS=true/\jo (E.d.extract x' zz) last=true)/\∃m',ic E (cd E f) kS t tz (dp+1) m' zz (E.d.extract x' zz) (j+1) (aE++vs)=U o)):=by
     rcases HO with⟨u,hu,_⟩|⟨m6,z',hu,ho⟩;(·rw[fW]at hu;cases hu);rw[fW]at hu;cases hu;exact ho
    (have iQ:eh W w6 R a E.s.length c gb E.d (tree++⟨(nd E.s i).kind,⟨#[]⟩,0,(j:Int)⟩::(aE++vs)):=by have:=cZ;simpa using this);have lR:=ax iQ;clear fL fW jZ cZ iQ;have d2:=lR.out.r2;have EU:(x':Int)<=zz:=O;have EV:(zz:Int)<=E.d.size:=O;go_upto_region 12 with fail;go_quiet (fail);generalize ZB:w6.drewN nq=w7;(have hP:Hi (Bw w6 w7):=by show Bw w6 w7;rw[<-ZB];exact Go.below_drewN By _);have jT:=ax (lR.below hP);have GP:=ax (bc v8 hP);have KB:=ax (bc KA hP);have M8:=ax (bc M7 hP);have lQ:Hi (Fr R w w7):=TP.below hP;clear ZB d2 q3 q5;have g0:w7.cell? (D w.heap.size 0 Z)=U (I J (nd E.s i).kind):=bq KB X;have e5:w7.cell? (D b3 5 Z)=U (I J zz):=bq GP X;have EL:=lc g0;have QC:=lc e5;by_cases yP:kS=true/\jo (E.d.extract x' zz) last=true
    ·obtain⟨rfl,iR⟩:=yP;have aU:Hi (o= .error (8,(x':Int))):=by
      rcases xJ with q|q;(·exact q.2.2);exact Ab ⟨X,iR⟩ q.1
     unfold jo at iR;have cO:=(HC.lay.below jT.bel).s.cOrder;have dZ:=bp cO;simp only at dZ;go_wp2_with fail;refine(bS x' _).mono ?_;rintro e w8 ⟨rfl,rfl⟩;go_wp2;go_ret;exact⟨lQ,.inr ⟨8,x',_,by rw[aU.out];rfl,X,jT⟩⟩
    have lI:Hi (∃m',ic E (cd E f) kS t tz (dp+1) m' zz (E.d.extract x' zz) (j+1) (aE++vs)=U o):=by
     rcases xJ with q|q;(·exact Ab ⟨q.1,q.2.1⟩ yP);exact q.2
    have mV:kS=false\/(kS=true/\Op.bytesLess (E.d.extract x' zz).toList last.toList=false):=by
     cases kS;(·exact .inl X);refine .inr ⟨X,?_⟩
     cases hq:Op.bytesLess (E.d.extract x' zz).toList last.toList with
     |false=>rfl
     |true=>exact Ab ⟨X,hq⟩ yP
    (have XJ:(j:Int)+1<1000000:=by have:=HC.out.size;omega);(have hla:tree.length<(tree++⟨(nd E.s i).kind,⟨#[]⟩,0,(j:Int)⟩::(aE++vs)).length:=by simp only[ff,fu];omega);clear yP;rcases mV with rfl|⟨rfl,iR⟩;all_goals go_upto_region 15 with fail;go_quiet (fail);generalize JS:w7.drewN nq=w8;(have dB:Hi (Bw w7 w8):=by show Bw w7 w8;rw[<-JS];exact Go.below_drewN By _);have s8:=ax (jT.below dB);have H18:=ax (bc KB dB);have H28:=ax (bc M8 dB);have mG:Hi (Fr R w w8):=lQ.below dB;clear JS g0 e5 EL QC;obtain⟨gg,cap,b1,b2,b4,(sW:Hi _)⟩:=s8.out.bump;obtain⟨N,V8⟩:∃N,N=(tree++⟨(nd E.s i).kind,⟨#[]⟩,0,(j:Int)⟩::(aE++vs)).length:=Ez;have hNl:(tree.length:Int)<N:=O;rw[<-V8]at b1;simp only at b2;have dZ:=bp b2;simp only at dZ;clear V8 hla;go_wp2;go_roundw;(case rel=>exact⟨zz,_,X,X,O,O,mG.trans (sW _).2,(sW _).2 _ _ _ nH Dc H18,(sW _).2 _ _ _ iT Dc H28,by obtain⟨m2,wQ⟩:=lI.out;exact⟨m2,j+1,aE++vs,wQ,(sW _).1,by simp only[ff];omega,O⟩⟩);exact Ms
   (obtain rfl:ve=be qe (sn (Ai ke)):=by injection fL);have aU:Hi (o= .error (ke,qe)):=by
    rcases HO with⟨u,hu,ho⟩|⟨m6,z',hu,ho⟩;(·rw[fW]at hu;injection hu with hu;show o=_;rw[ho,<-hu]);rw[fW]at hu;cases hu
   have jT:=ax cZ;unfold be;clear fL fW cZ;go_wp2;go_ret;exact⟨TP,.inr ⟨ke,qe,tr,by rw[aU.out];rfl,X,jT⟩⟩
  have he:=Fq (t:=E.d.extract x' tz) x' sn eY;have fQ:Hi (o= .error ((hd (E.d.extract x' tz)).1,(x':Int))):=by
   have q:=Ym nA eY;rcases HO with⟨u,hu,ho⟩|⟨vs,z,hu,_⟩;(·rw[hu]at q;injection q with q;show o=_;rw[ho,q];rfl);rw[hu]at q;cases q
  generalize(hd (E.d.extract x' tz)).1=k at he fQ;rw[he];unfold Br be;clear he eY;go_wp2;go_ret;refine⟨b7.trans (Fr.of_below (aJ.alloc aJ.size _)),.inr ⟨k,x',_,by rw[fQ.out];rfl,X,iV.below (aJ.alloc aJ.size _)⟩⟩
 have aN:¬(x':Int)<tz:=O;have ho:=Wt kE aA;have HO:Hi (o= .ok (j,aE)):=ho;clear ho;go_wp2;go_ret;exact⟨b7,.inl ⟨_,_,by rw[HO.out];rfl,X,iV⟩⟩
end
section
open Go.RowKit
structure WC(E:de)(W:M)(a ta:Oo Ad):Prop where
 sch:ew W a E.s
 right:ee E.s
 sok:ky E.s
 ok:∀k t,E.ok k t=true↔bu k t
 tree:∀j,j<E.t.length->∃g o,ta=U (D g o Z)/\W.cell? (D g (o+j*4) Z)=U (I J (vl E.t j).kind)/\W.cell? (D g (o+j*4+1) Z)=U (Y (vl E.t j).text)/\W.cell? (D g (o+j*4+2) Z)=U (I J (vl E.t j).alt)/\W.cell? (D g (o+j*4+3) Z)=U (I J (vl E.t j).kids)
 size:pz E.t E.t.length<=16777000
 kids:∀j,j<E.t.length->(vl E.t j).kids<=9223372036854775807
theorem ja{t:Ls Vl}(h:x<=y)(hy:y<=t.length):pz t x<=pz t y:=by
 induction y with
 |zero=>obtain rfl:x=0:=O
        exact Ln
 |succ y ih=>
  by_cases e:x=y+1
  ·rw[e];exact Ln
  ·have:=ih O O
   have:=Ah (t:=t) (x:=y) O
   omega
def sy(r:cy)(n:Nat):Except Int Q:=
 match r with
 |none=> .error 11
 |some (b,x,u)=>if x<n then .error 11 else if 4000<b.size then .error 2 else if u=true then .error 8 else .ok b
def Cf(E:de)(s:Ls Nd)(root:Int)(t:Ls Vl)(v:Except Int Q):Prop:=
 (¬(ee s/\0<=root/\root<s.length)/\v= .error 1)\/
 ((ee s/\0<=root/\root<s.length)/\E.s=s/\E.t=t/\(∀k u,E.ok k u=true↔bu k u)/\∃f r,wrF E f root.toNat 0 1=U r/\v=sy r t.length)
theorem adE(s:Ls Nd)(root:Int)(t:Ls Vl):∃E v,Cf E s root t v:=by
 have hk:∃ok:Int->Q->Bool,∀k t,ok k t=true↔bu k t:=⟨fun k t=> @decide (bu k t) (Classical.propDecidable _),fun k t=>Sq⟩;obtain⟨ok,hk⟩:=hk;by_cases h:ee s/\0<=root/\root<s.length;·obtain⟨r,hr⟩:=Lc (E:=⟨s,t,ok⟩) (t.length+1) root.toNat 0 1 (by show t.length+1<=_;omega) O;exact⟨⟨s,t,ok⟩,_,.inr ⟨h,X,X,hk,t.length+1,r,hr,X⟩⟩
 exact⟨⟨s,t,ok⟩,_,.inl ⟨h,X⟩⟩
def Ct(v:Except Int Q)(w:M)(e:Ending)(w':M):Prop:=
 Bw w w'/\
 match v with
 | .error k=>e=Rt (Tu #[Y ⟨#[]⟩,I J k])
 | .ok b=>e=Rt (Tu #[Y b,I J 0])
def qb(w:M)(ta:Oo Ad)(t:Ls Vl):Prop:=∀j,j<t.length->∃g o,ta=U (D g o Z)/\w.cell? (D g (o+j*4) Z)=U (I J (vl t j).kind)/\w.cell? (D g (o+j*4+1) Z)=U (Y (vl t j).text)/\w.cell? (D g (o+j*4+2) Z)=U (I J (vl t j).alt)/\w.cell? (D g (o+j*4+3) Z)=U (I J (vl t j).kids)
theorem qb.below{ta:Oo Ad}{t:Ls Vl}(h:qb w ta t)(hb:Bw w w'):qb w' ta t:=fun j hj=>by obtain⟨g,o,e,h1,h2,h3,h4⟩:=h j hj;exact⟨g,o,e,Cb hb h1,Cb hb h2,Cb hb h3,Cb hb h4⟩
end
