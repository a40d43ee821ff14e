/-
Several texts in one.
-/
import Derived.Test.YtkkicodfpekbgaaGreatDoorJd1
import Derived.Test.YtkkicodfpekbgaaGreatDoorJc3
import Derived.Test.YtkkicodfpekbgaaGreatDoorJd0
import Derived.Test.YtkkicodfpekbgaaGreatDoorJd2
open Go.Value renaming int->I,string->Y,slice->S,pointer->Po,bool->Bo,agg->Ag,tuple->Tu,iface->If
open Go.IntKind renaming i64->J
open Go.Obj renaming cells->C
open Go.Ending renaming returned->Rt
open Option renaming some->U,none->Z
open Go renaming World->M,Calls->Cs,Addr->Ad,Value->Vv
open _root_ renaming ByteArray->Q,Option->Oo,List->Ls
open Go.RowKit renaming Below->H,intOf->Io,Hid->Hi
open Go.World renaming cell?->Wc,frozen?->Wf
open Go.Act renaming put->Ap,eval->Ae
open UInt8 renaming ofNat->Uo
open Go.Addr renaming mk->D
set_option linter.unusedSimpArgs false
set_option linter.unusedVariables false
set_option maxRecDepth 100000
set_option maxHeartbeats 8000000
namespace Go.Proofs.YtkkicodfpekbgaaGreatDoor
open Go.Proofs.Tryz
open Go.RowKit
theorem yA{N:Nd}(ht:N.tag<0)(hm:N.mode=0):N.lays=[(0,own N.kind,false)]:=by unfold Nd.lays Nd.ownT;rw[G O,G O]
theorem F3{N:Nd}(ht:0<=N.tag)(hm:N.mode=0):N.lays=[(2,N.tag,false)]:=by unfold Nd.lays Nd.ownT;rw[G O,aG ⟨hm,ht⟩]
theorem F4{N:Nd}(hm:N.mode=1):N.lays=[(2,N.tag,true),(0,own N.kind,false)]:=by unfold Nd.lays Nd.ownT;rw[aG hm,G O]
theorem ru{f:Int×Int×Bool}{t u:Q}:eS [f] t=U u↔((hd t).1=0/\((hd t).2.c,(hd t).2.n,(hd t).2.b)=f/\(hd t).2.s+(hd t).2.l=t.size)/\u=t.extract (hd t).2.s.toNat t.size:=by
 show(if _ then U _ else Z)=_↔_;by_cases h:(hd t).1=0/\((hd t).2.c,(hd t).2.n,(hd t).2.b)=f/\(hd t).2.s+(hd t).2.l=t.size
 ·rw[aG h];exact⟨fun e=>⟨h,by injection e with e;exact e.symm⟩,fun e=>by rw[e.2]⟩
 rw[G h];exact⟨fun e=>(by cases e),fun e=>Ab e.1 h⟩
theorem y8{f:Int×Int×Bool}{fs:Ls (Int×Int×Bool)}{t u:Q}:eS (f::fs) t=U u↔((hd t).1=0/\((hd t).2.c,(hd t).2.n,(hd t).2.b)=f/\(hd t).2.s+(hd t).2.l=t.size)/\eS fs (t.extract (hd t).2.s.toNat t.size)=U u:=by
 show(if _ then _ else Z)=_↔_;by_cases h:(hd t).1=0/\((hd t).2.c,(hd t).2.n,(hd t).2.b)=f/\(hd t).2.s+(hd t).2.l=t.size
 ·rw[aG h];exact⟨fun e=>⟨h,e⟩,fun e=>e.2⟩
 rw[G h];exact⟨fun e=>(by cases e),fun e=>Ab e.1 h⟩
theorem fE{N:Nd}{t u:Q}(ht:N.tag<0->N.mode=0)(hm:N.mode=0\/N.mode=1):cu N t u↔(eS N.lays t=U u/\aR N.kind u):=by
 unfold cu fP;rw[lQ];by_cases h0:N.tag<0
 ·rw[yA h0 (ht h0),ru];constructor
  ·rintro⟨_,h1,h2,h3⟩;rcases h3 with⟨_,b,c,d,e,f⟩|⟨a,_⟩|⟨a,_⟩
   ·exact⟨⟨⟨h1,by rw[b,c,d],O⟩,by rw[e,b9]⟩,f⟩
   ·omega
   omega
  rintro⟨⟨⟨h1,h2,h3⟩,h4⟩,h5⟩;injection h2 with b h2;injection h2 with c d;exact⟨O,h1,O,.inl ⟨h0,b,c,d,by rw[h4,b9],h5⟩⟩
 rcases hm with hm|hm
 ·rw[F3 O hm,ru];constructor
  ·rintro⟨_,h1,h2,h3⟩;rcases h3 with⟨a,_⟩|⟨_,_,b,c,d,e,f⟩|⟨_,a,_⟩
   ·omega
   ·exact⟨⟨⟨h1,by rw[b,c,d],O⟩,by rw[e,b9]⟩,f⟩
   omega
  rintro⟨⟨⟨h1,h2,h3⟩,h4⟩,h5⟩;injection h2 with b h2;injection h2 with c d;exact⟨O,h1,O,.inr (.inl ⟨O,hm,b,c,d,by rw[h4,b9],h5⟩)⟩
 rw[F4 hm,y8,ru];constructor
 ·rintro⟨_,h1,h2,h3⟩;rcases h3 with⟨a,_⟩|⟨_,a,_⟩|⟨_,_,b,c,d,t',e,f,g,h,i,j,k,l⟩
  ·omega
  ·omega
  rw[b9]at e k;have ho:=i3 h1;have hz:t'.size=t.size-(hd t).2.s.toNat:=by rw[e];simp
  rw[<-e];refine⟨⟨⟨h1,by rw[b,c,d],O⟩,⟨f,by rw[g,h,i],O⟩,?_⟩,l⟩;have hmn:min ((hd t).2.s.toNat+(t.size-(hd t).2.s.toNat)) t.size=t.size:=O;rw[k,hz,e,fH,hmn]
 rintro⟨⟨⟨h1,h2,h3⟩,⟨f,h4,h6⟩,h7⟩,h5⟩;injection h2 with b h2;injection h2 with c d;injection h4 with g h4;injection h4 with h i;have ho:=i3 h1;have hz:(t.extract (hd t).2.s.toNat t.size).size=t.size-(hd t).2.s.toNat:=Sq;have hmn:min ((hd t).2.s.toNat+(t.size-(hd t).2.s.toNat)) t.size=t.size:=O;refine⟨O,h1,O,.inr (.inr ⟨O,O,b,c,d,t.extract (hd t).2.s.toNat t.size,by rw[b9],f,g,h,i,?_,?_,h5⟩)⟩
 ·omega
 rw[h7,hz,fH,b9,hmn]
theorem mQ(n:Nd)(ka:Oo Ad)(kc:Nat)(t:Q)(w:M)(sn:Sn->Ad)(hl:ls w sn)(hT:cy n)(hk1:1<=n.kind)(hm:t.size<=140737488355328):Cs prog 95 #[Ag #[I J n.kind,I J n.tag,I J n.mode,S ka n.kids.length kc],Y t] w fun e w'=>dB (n.kind<=9/\∃u,cu n t u) w e w':=by
 by_cases h9:9<n.kind
 ·have HX:Hi (¬(n.kind<=9/\∃u,cu n t u)):=fun q=>by have:=q.1;omega
  clear hl hT;go_enter func95,ntmps95;go_wp2;go_ret;exact bc HX Be
 have h9':n.kind<=9:=O;have hT':=hT;unfold cy at hT';have HE:Hi (∀u,cu n t u↔(eS n.lays t=U u/\aR n.kind u)):=fun u=>fE O O;have HW:Hi (∀wq,H w.heap.size w wq->Cs prog 137 #[Ag #[I J n.kind,I J n.tag,I J n.mode,S ka n.kids.length kc],Y t] wq fun e w'=>GP n t wq e w'):=fun wq q=>rH n ka kc t wq sn (hl.below q).s (hl.below q).n O O h9' O hm;have HF:Hi (∀u wq,u.size<=t.size->H w.heap.size w wq->Cs prog 138 #[I J n.kind,Y u] wq fun e w'=>rT (aR n.kind u) wq e w'):=fun u wq hu q=>kH n.kind u wq O (hl.below q).d (nh u wq O (hl.below q).t);clear hl hT hT' h9;go_enter func95,ntmps95;go_wp2_with fail;refine(HW _ Be).mono ?_;rintro e w1 ⟨u,r,rfl,hr,hb1,hu⟩;have HB1:Hi (H w.heap.size w w1):=aT hb1;have HG:=ax (aA w (C #[I J n.kind,I J n.tag,I J n.mode,S ka n.kids.length kc] 58)) hb1;have q0:w1.cell? (D w.heap.size 0 Z)=U (I J n.kind):=by simp[Wc,HG]
 have hs1:=Fc HG;clear HG hb1;cases r
 ·have HX:Hi (¬(n.kind<=9/\∃u,cu n t u)):=by
   rcases hr with⟨e,_⟩|⟨_,e⟩
   ·cases e
   rintro⟨_,u,q⟩;rw[HE,e]at q;cases q.1
  clear hr;go_wp2;go_ret;exact bc HX HB1
 have HX:Hi (eS n.lays t=U u):=by
  rcases hr with⟨_,e⟩|⟨e,_⟩
  ·exact e
  cases e
 clear hr;go_wp2_with fail;refine(HF u _ hu HB1).mono ?_;rintro e w2 ⟨r,rfl,hr,hb2⟩;have HR:Hi (r=true↔(n.kind<=9/\∃u,cu n t u)):=by refine hr.trans ⟨fun q=>⟨h9',u,(HE u).2 ⟨HX,q⟩⟩,?_⟩;rintro⟨_,v,q⟩;rw[HE,HX.out]at q;obtain⟨q1,q2⟩:=q;injection q1 with q1;rw[q1];exact q2
 have HB2:Hi (H w.heap.size w w2):=HB1.trans (hb2.mono HB1.size);clear hr hb2;go_wp2;go_ret;exact iD HR HB2
theorem pn(s:Ls Nd)(a:Oo Ad)(c:Nat)(n:Nd)(ka:Oo Ad)(kc:Nat)(w:M)(sn:Sn->Ad)(hl:ls w sn)(hs:ju w a s)(hka:be w ka n.kids)(hk8:n.kids.length<=8)(hw:∀j,j<n.kids.length->∃t:Nat,(kd n j).node=t/\t<s.length)(hT:∀i,i<s.length->cy (nd s i))(hkd:nr s)(hn:s.length<=40)(hd:∀j,j<n.kids.length->(kd n j).dflt.size<=140737488351232):Cs prog 62 #[S a s.length c,Ag #[I J n.kind,I J n.tag,I J n.mode,S ka n.kids.length kc]] w fun e w'=>dB (eW s n n.kids.length) w e w':=by
 have HKI:Hi _:=hka;have HKR:Hi _:=hw;have HS:Hi _:=hs;have HD:Hi (∀j,j<n.kids.length->(kd n j).dflt.size<=140737488351232):=hd;have HIE:Hi (∀(i:Nat) (ka:Oo Ad) (kc:Nat) (t:Q) (wq:M),i<s.length->t.size<=140737488351232->H w.heap.size w wq->Cs prog 95 #[Ag #[I J (nd s i).kind,I J (nd s i).tag,I J (nd s i).mode,S ka (nd s i).kids.length kc],Y t] wq fun e w'=>dB ((nd s i).kind<=9/\∃u,cu (nd s i) t u) wq e w'):=fun i ka kc t wq hi ht q=>mQ (nd s i) ka kc t wq sn (hl.below q) (hT i hi) (hkd i hi).1 O;clear hka hw hs hd hl hT hkd;go_enter func62,ntmps62;go_wp2;have HB0:Hi (H w.heap.size w (w.alloc (C #[I J n.kind,I J n.tag,I J n.mode,S ka n.kids.length kc] 58))):=Be;go_loopw [10] (fun vi wr=>∃i:Nat,i<=n.kids.length/\vi=I J i/\eW s n i/\H w.heap.size w wr) (fun vi _=>n.kids.length-(Io vi).toNat);case atStart=>exact⟨0,Lz,X,fun _ h=>Ab h (aO _),HB0⟩
 obtain⟨i,hi,rfl,hall,hbr⟩:=hrel;have HA:Hi (eW s n i):=hall;have HB:Hi (H w.heap.size w wr):=hbr;clear hall hbr;by_cases hlt:i<n.kids.length
 ·have hlt':(i:Int)<n.kids.length:=O;obtain⟨kb,ko,rfl,kcl⟩:=HKI i hlt;obtain⟨ty,yo,yd,hy,hty⟩:=qN HKR hlt;have HY:Hi (kd n i=⟨ty,yo,yd⟩):=hy;have hkcl:dt w kb (ko+i*3) ⟨ty,yo,yd⟩:=by rw[<-hy];exact kcl
  have hds:yd.size<=140737488351232:=by have:=HD i hlt;rw[hy]at this;exact this
  obtain⟨k1,k2,k3⟩:=hkcl.below HB;simp only at k1 k2 k3;have HB2:Hi (H w.heap.size w (wr.alloc (C #[I J ty,Bo yo,Y yd] 55))):=HB.alloc HB.size _;obtain⟨b,o,ka2,kc2,rfl,nc,_⟩:=HS ty hty;have X0:∀x:b7 (wr.alloc (C #[I J ty,Bo yo,Y yd] 55)),x.v.cell? (D wr.heap.size 0 Z)=U (I J ty):=fun x=>x.new X;have X2:∀x:b7 (wr.alloc (C #[I J ty,Bo yo,Y yd] 55)),x.v.cell? (D wr.heap.size 2 Z)=U (Y yd):=fun x=>x.new X;have X3:∀x:b7 (wr.alloc (C #[I J ty,Bo yo,Y yd] 55)),x.v.cell? (D b (o+ty*4) Z)=U (I J (nd s ty).kind):=fun x=>b7.far HB2 x nc.kind;have X4:∀x:b7 (wr.alloc (C #[I J ty,Bo yo,Y yd] 55)),x.v.cell? (D b (o+ty*4+1) Z)=U (I J (nd s ty).tag):=fun x=>b7.far HB2 x nc.tag;have X5:∀x:b7 (wr.alloc (C #[I J ty,Bo yo,Y yd] 55)),x.v.cell? (D b (o+ty*4+2) Z)=U (I J (nd s ty).mode):=fun x=>b7.far HB2 x nc.mode;have X6:∀x:b7 (wr.alloc (C #[I J ty,Bo yo,Y yd] 55)),x.v.cell? (D b (o+ty*4+3) Z)=U (S ka2 (nd s ty).kids.length kc2):=fun x=>b7.far HB2 x nc.kids;obtain⟨r,hr⟩:=pC ((nd s ty).kind<=9/\∃u,cu (nd s ty) yd u);have HR:Hi _:=hr;have HM:Hi _:=fun x=>b7.callsR hr (HIE ty ka2 kc2 yd x.v hty hds (b7.bel HB2 x));have hty':(ty:Int)<s.length:=O;have STEP:Hi (yd.size=0\/((nd s ty).kind<=9/\∃u,cu (nd s ty) yd u)->eW s n (i+1)):=fun h j hj=>by
   by_cases e:j=i
   ·subst e;rw[HY.out];simpa using h
   exact HA j O
  have BADD:Hi (0<yd.size->¬((nd s ty).kind<=9/\∃u,cu (nd s ty) yd u)->¬eW s n n.kids.length):=fun h1 h2 q=>by
   have:=q i hlt;rw[HY.out]at this;simp only[br]at this;rcases this with h|h
   ·omega
   exact h2 h
  clear hy kcl hkcl nc hr;by_cases hz:yd.size=0
  ·have e0:=gJ hz;have HZ:Hi _:=hz;clear hz;go_wp2_with fail;(have ne:=eX;refine bP Kr Kr ?_;(repeat(first|go_big_quiet_skip|(go_big_quiet_want;go_big_quiet_op;first|go_big_quiet_on|(apply Exists.intro;refine⟨fun x=>?_,?_⟩;(·(exact HM x));go_big_quiet_on))));refine dW ?_);intro w5 hb5;have HB5:Hi _:=HB2.trans (hb5.mono HB2.size);clear X0 X2 X3 X4 X5 X6 hb5 HM;go_wp2;go_roundw;case rel=>exact⟨i+1,O,Gn,STEP (.inl HZ),HB5⟩
   case measure=>exact Ms
  have e0:=dR (t:=yd) O;have HZ:Hi (0<yd.size):=by show 0<yd.size;omega
  clear hz;go_wp2_with fail;(have ne:=eX;refine bP Kr Kr ?_;(repeat(first|go_big_quiet_skip|(go_big_quiet_want;go_big_quiet_op;first|go_big_quiet_on|(apply Exists.intro;refine⟨fun x=>?_,?_⟩;(·(exact HM x));go_big_quiet_on))));refine dW ?_);intro w5 hb5;have HB5:Hi _:=HB2.trans (hb5.mono HB2.size);clear X0 X2 X3 X4 X5 X6 hb5 HM;cases r
  ·go_wp2;go_ret;exact bc (BADD HZ (fun q=>Bool.noConfusion (HR.2 q))) HB5
  go_wp2;go_roundw;case rel=>exact⟨i+1,O,Gn,STEP (.inr (HR.1 X)),HB5⟩
  case measure=>exact Ms
 have hlt':(n.kids.length:Int)<=i:=O;have HI:Hi (i=n.kids.length):=by show i=_;omega
 go_wp2;go_ret;exact bS (HI▸HA) HB
def Ft(s:Ls Nd)(za:Ad)(w:M)(e:Ending)(w':M):Prop:=H w.heap.size w w'/\((e=Rt .nilIface/\cd s)\/((∃p:Int,e=Rt (aX p za))/\¬cd s))
theorem yy{s:Ls Nd}(h:∀i,i<s.length->fw s.length (nd s i)){i:Nat}(hi:i<s.length):∀j,j<(nd s i).kids.length->∃t:Nat,(kd (nd s i) j).node=t/\t<s.length:=fun j hj=>by
 have q:=(h i hi).2.2.2 j hj;have q1:=q.1;have q2:=q.2.1;exact⟨(kd (nd s i) j).node.toNat,O,O⟩
theorem kO{s:Ls Nd}(h:∀i,i<s.length->fw s.length (nd s i)):∀i,i<s.length->cy (nd s i):=fun i hi=>((ll _).1 ⟨(h i hi).1,(h i hi).2.1⟩).2.2
theorem FN{s:Ls Nd}(h:ie s){i:Nat}(hi:i<s.length):∀j,j<(nd s i).kids.length->(kd (nd s i) j).dflt.size<=140737488351232:=fun j hj=>by
 refine h i hi _ ?_;unfold kd;rw[aB,aC hj];exact bz hj
theorem tm{s:Ls Nd}(h:∀i,i<s.length->fw s.length (nd s i))(hb:∀i,i<s.length->¬kV s i){i:Nat}(hi:i<s.length):gU s (nd s i)↔((nd s i).kind=10\/(nd s i).kind=13->Told (dU s) (nd s i)):=by
 have hw:=gD h;have hlf:∀i,i<s.length->∃j,i9 s i j:=fun i hi=>Ec hw (fun i hi ho e=>by have h1:=(h i hi).2.2.1;have h2:=ho.1;unfold dr at h1;rw[G O,G O,aG h2,e]at h1;have:=h1.1;simp at this) hb hi;have ht:∀j,j<s.length->(nd s j).tag<=30:=fun j hj=>(kO h j hj).2.1;unfold gU;refine forall_congr' fun _=>(zc (m:=s.length) (fun j hj=>?_) fun i k h1 h2=>(x9 ht hw h1 h2 (hlf i h1) (hlf k h2)).symm);obtain⟨t,e,q⟩:=yy h hi j hj;rw[e];simpa using q
theorem AI(s:Ls Nd)(a:Oo Ad)(c:Nat)(w:M)(sn:Sn->Ad)(za:Ad)(hl:ls w sn)(hz:jM w sn za)(hs:ju w a s)(hok:ie s)(hn0:s.length<=140737488351232):Cs prog 35 #[S a s.length c] w fun e w'=>Ft s za w e w':=by
 have HS:Hi (ju w a s):=hs;have HOK:Hi (ie s):=hok;have HL:Hi (ls w sn):=hl;have HZ:Hi (∀wq,H w.heap.size w wq->wq.cell? (D 12 0 Z)=U (If 291 (Po (U za)))):=fun wq q=>(hz.below q).c;have HAT:Hi (∀(p:Int) (wq:M),Cs prog 60 #[I J p,If 291 (Po (U za))] wq fun e w'=>e=Rt (aX p za)/\w'=wq):=fun p wq=>fR p za wq;have NO:Hi (∀(p:Int) (wq:M),¬cd s->H w.heap.size w wq->Ft s za w (Rt (aX p za)) wq):=fun p wq h q=>⟨q,.inr ⟨⟨p,X⟩,h⟩⟩;have z0:=HZ w By;clear hs hok hl hz;by_cases hb:s.length<1
 ·have hb':(s.length:Int)<1:=O;have HX:Hi (¬cd s):=fun h=>by have:=h.1;omega
  clear hb;go_enter func35,ntmps35;go_wp2_with fail;refine(HAT _ _).mono ?_;rintro e w1 ⟨rfl,rfl⟩;unfold aX;go_wp2;go_ret;exact NO _ _ HX By
 by_cases hb2:40<s.length
 ·have hb':(40:Int)<s.length:=O;have hb1':(1:Int)<=s.length:=O;have HX:Hi (¬cd s):=fun h=>by have:=h.2.1;omega
  clear hb hb2;go_enter func35,ntmps35;go_wp2_with fail;refine(HAT _ _).mono ?_;rintro e w1 ⟨rfl,rfl⟩;unfold aX;go_wp2;go_ret;exact NO _ _ HX By
 have h1:1<=s.length:=O;have h40:s.length<=40:=O;have h1':(1:Int)<=s.length:=O;have h40':(s.length:Int)<=40:=O;clear hb hb2 hn0 z0;go_enter func35,ntmps35;go_wp2;go_loopw [22] (fun vi wr=>∃i:Nat,i<=s.length/\vi=I J i/\(∀j,j<i->fw s.length (nd s j))/\H w.heap.size w wr) (fun vi _=>s.length-(Io vi).toNat);case atStart=>exact⟨0,Lz,X,fun _ h=>Ab h (aO _),By⟩
 obtain⟨i,hi,rfl,hall,hbr⟩:=hrel;have HA:Hi (∀j,j<i->fw s.length (nd s j)):=hall;have HB:Hi (H w.heap.size w wr):=hbr;clear hall hbr;by_cases hlt:i<s.length
 ·have hlt':(i:Int)<s.length:=O;obtain⟨b,o,ka,kc,rfl,nc,kl,km,ks⟩:=HS i hlt;obtain⟨n1,n2,n3,n4⟩:=nc.below HB;have HB2:Hi (H w.heap.size w (wr.alloc (C #[I J (nd s i).kind,I J (nd s i).tag,I J (nd s i).mode,S ka (nd s i).kids.length kc] 58))):=HB.alloc HB.size _;have HC:Hi (∀wq,H w.heap.size w wq->Cs prog 61 #[Ag #[I J (nd s i).kind,I J (nd s i).tag,I J (nd s i).mode,S ka (nd s i).kids.length kc],I J s.length] wq fun e w'=>dB (fw s.length (nd s i)) wq e w'):=fun wq q=>ur s.length (nd s i) ka kc wq (ks.below q) O;clear ks nc;go_wp2_with fail;refine(HC _ HB2).mono ?_;rintro e w1 ⟨r,rfl,hr,hb1⟩;have HR:Hi (r=true↔fw s.length (nd s i)):=hr;have HB1:Hi (H w.heap.size w w1):=HB2.trans (hb1.mono HB2.size);have z1:=HZ w1 HB1;clear hr hb1 n1 n2 n3 n4 HC;cases r
  ·have HX:Hi (¬cd s):=fun h=>Bool.noConfusion (HR.2 (h.2.2.1 i hlt));go_wp2_with fail;refine(HAT _ _).mono ?_;rintro e w2 ⟨rfl,rfl⟩;unfold aX;go_wp2;go_ret;exact NO _ _ HX HB1
  go_wp2;go_roundw
  case rel=>exact⟨i+1,O,Gn,fun j hj=>by
   by_cases e:j=i
   ·subst e;exact HR.1 trivial
   exact HA j O,HB1⟩
  case measure=>exact Ms
 have hlt':(s.length:Int)<=i:=O;obtain rfl:i=s.length:=O;go_wp2;go_loopw [38] (fun vi wr=>∃i:Nat,i<=s.length/\vi=I J i/\(∀j,j<i->eW s (nd s j) (nd s j).kids.length/\¬kV s j)/\H w.heap.size w wr) (fun vi _=>s.length-(Io vi).toNat);case atStart=>exact⟨0,Lz,X,fun _ h=>Ab h (aO _),HB⟩
 obtain⟨i,hi,rfl,hall,hbr⟩:=hrel;have HBK:Hi (∀j,j<i->eW s (nd s j) (nd s j).kids.length/\¬kV s j):=hall;have HB2:Hi (H w.heap.size w wr):=hbr;clear hall hbr;by_cases hlt:i<s.length
 ·have hlt':(i:Int)<s.length:=O;obtain⟨b,o,ka,kc,rfl,nc,kl,km,ks⟩:=HS i hlt;obtain⟨n1,n2,n3,n4⟩:=nc.below HB2;have HB3:Hi (H w.heap.size w (wr.alloc (C #[I J (nd s i).kind,I J (nd s i).tag,I J (nd s i).mode,S ka (nd s i).kids.length kc] 58))):=HB2.alloc HB2.size _;have HD:Hi (∀wq,H w.heap.size w wq->Cs prog 62 #[S (U (D b o Z)) s.length c,Ag #[I J (nd s i).kind,I J (nd s i).tag,I J (nd s i).mode,S ka (nd s i).kids.length kc]] wq fun e w'=>dB (eW s (nd s i) (nd s i).kids.length) wq e w'):=fun wq q=>pn s _ c (nd s i) ka kc wq sn (HL.below q) (HS.below q) (ks.below q) (qF HA hlt) (yy HA hlt) (kO HA) (fu HA) h40 (FN HOK hlt);have HC:Hi (∀wq,H w.heap.size w wq->Cs prog 63 #[S (U (D b o Z)) s.length c,I J i] wq fun e w'=>dB (kV s i) wq e w'):=fun wq q=>r9 s _ c i wq (HS.below q) (gD HA) (fun j hj=>(kO HA j hj).1) hlt h40;clear ks nc;go_wp2_with fail;refine(HD _ HB3).mono ?_;rintro e w1 ⟨r,rfl,hr,hb1⟩;have HR:Hi (r=true↔eW s (nd s i) (nd s i).kids.length):=hr;have HB1:Hi (H w.heap.size w w1):=HB3.trans (hb1.mono HB3.size);have z1:=HZ w1 HB1;clear hr hb1 n1 n2 n3 n4 HD;cases r
  ·have HX:Hi (¬cd s):=fun h=>Bool.noConfusion (HR.2 (h.2.2.2.2 i hlt).2);go_wp2_with fail;refine(HAT _ _).mono ?_;rintro e w2 ⟨rfl,rfl⟩;unfold aX;go_wp2;go_ret;exact NO _ _ HX HB1
  have HDF:Hi (eW s (nd s i) (nd s i).kids.length):=HR.1 X;go_wp2_with fail;refine(HC _ HB1).mono ?_;rintro e w2 ⟨r,rfl,hr,hb2⟩;have HR2:Hi (r=true↔kV s i):=hr;have HB4:Hi (H w.heap.size w w2):=HB1.trans (hb2.mono HB1.size);have z2:=HZ w2 HB4;clear hr hb2 HC;cases r
  ·go_wp2;go_roundw
   case rel=>exact⟨i+1,O,Gn,fun j hj=>by
    by_cases e:j=i
    ·subst e;exact⟨HDF,fun q=>Bool.noConfusion (HR2.2 q)⟩
    exact HBK j O,HB4⟩
   case measure=>exact Ms
  have HX:Hi (¬cd s):=fun h=>h.2.2.2.1 i hlt (HR2.1 X);go_wp2_with fail;refine(HAT _ _).mono ?_;rintro e w3 ⟨rfl,rfl⟩;unfold aX;go_wp2;go_ret;exact NO _ _ HX HB4
 have hlt':(s.length:Int)<=i:=O;obtain rfl:i=s.length:=O;have HC:Hi (Cs prog 64 #[S a s.length c] wr fun e w'=>e=Rt (S (U (D wr.heap.size 0 Z)) s.length s.length)/\Al s wr w' s.length):=jS s a c wr (HS.below HB2) (gD HA) (fun j hj=>(kO HA j hj).1) (fu HA) (HL.below HB2).n h40;go_wp2_with fail;refine HC.mono ?_;rintro e w1 ⟨rfl,hab⟩;obtain⟨gb,hgb⟩:∃gb,gb=wr.heap.size:=Ez;have HAB:Hi (Ak w1 gb s):=by rw[hgb];exact hab.read
 have HB3:Hi (H w.heap.size w w1):=HB2.trans (hab.bel.mono HB2.size);rw[<-hgb];clear hab hgb HC;go_wp2;go_loopw [60] (fun vi wr=>∃i:Nat,i<=s.length/\vi=I J i/\(∀j,j<i->gU s (nd s j))/\H w1.heap.size w1 wr) (fun vi _=>s.length-(Io vi).toNat);case atStart=>exact⟨0,Lz,X,fun _ h=>Ab h (aO _),By⟩
 obtain⟨i,hi,rfl,hall,hbr⟩:=hrel;have HPL:Hi (∀j,j<i->gU s (nd s j)):=hall;have HB4:Hi (H w1.heap.size w1 wr):=hbr;have HB5:Hi (H w.heap.size w wr):=HB3.trans (hbr.mono HB3.size);clear hall hbr;by_cases hlt:i<s.length
 ·have hlt':(i:Int)<s.length:=O;obtain⟨b,o,ka,kc,rfl,nc,kl,km,ks⟩:=HS i hlt;obtain⟨n1,n2,n3,n4⟩:=nc.below HB5;have HB6:Hi (H w1.heap.size w1 (wr.alloc (C #[I J (nd s i).kind,I J (nd s i).tag,I J (nd s i).mode,S ka (nd s i).kids.length kc] 58))):=HB4.alloc HB4.size _;have HP:Hi (∀wq,H w1.heap.size w1 wq->Cs prog 65 #[Ag #[I J (nd s i).kind,I J (nd s i).tag,I J (nd s i).mode,S ka (nd s i).kids.length kc],S (U (D gb 0 Z)) s.length s.length] wq fun e w'=>dB (gU s (nd s i)) wq e w'):=fun wq q=>vX s (nd s i) ka kc gb wq (ks.below (HB3.trans (q.mono HB3.size))) kl (qF HA hlt) (yy HA hlt) (HAB.below q) h40;clear ks nc;go_wp2_with fail;refine(HP _ HB6).mono ?_;rintro e w2 ⟨r,rfl,hr,hb2⟩;have HR:Hi (r=true↔gU s (nd s i)):=hr;have HB7:Hi (H w1.heap.size w1 w2):=HB6.trans (hb2.mono HB6.size);have HB8:Hi (H w.heap.size w w2):=HB3.trans (HB7.mono HB3.size);have z2:=HZ w2 HB8;clear hr hb2 n1 n2 n3 n4 HP;cases r
  ·have HX:Hi (¬cd s):=fun h=>Bool.noConfusion (HR.2 ((tm HA (fun j hj=>(HBK j hj).2) hlt).2 (h.2.2.2.2 i hlt).1));go_wp2_with fail;refine(HAT _ _).mono ?_;rintro e w3 ⟨rfl,rfl⟩;unfold aX;go_wp2;go_ret;exact NO _ _ HX HB8
  go_wp2;go_roundw
  case rel=>exact⟨i+1,O,Gn,fun j hj=>by
   by_cases e:j=i
   ·subst e;exact HR.1 trivial
   exact HPL j O,HB7⟩
  case measure=>exact Ms
 have hlt':(s.length:Int)<=i:=O;obtain rfl:i=s.length:=O;go_wp2;go_ret;exact⟨HB5,.inl ⟨X,h1,h40,HA,fun j hj=>(HBK j hj).2,fun j hj=>⟨(tm HA (fun j hj=>(HBK j hj).2) hj).1 (HPL j hj),(HBK j hj).1⟩⟩⟩
theorem cd.fine{s:Ls Nd}(h:cd s):uN s where
 within:=gD h.2.2.1
 back:=h.2.2.2.1
 len:=h.2.1
 tagged:=fun i hi hk ht hm=>by have:=(h.2.2.1 i hi).2.1;unfold il at this;omega
 one:=fun i hi hk=>by
  have:=(h.2.2.1 i hi).2.2.1
  unfold dr at this
  rw[G O,aG hk]at this
  exact this
 eight:=fun i hi=>by
  have:=(h.2.2.1 i hi).2.2.1
  unfold dr at this
  repeat' split at this
  all_goals omega
theorem cell_of_row{w:M}{k:Nat}{A:Array Vv}{T:TypeId}(h:w.heap[k]? =U (C A T (0,0))){i:Nat}{u:Vv}(hi:A[i]? =U u):w.cell? (D k i Z)=U u:=by simp[Wc,h,hi]
theorem iY{n:Nd}{j:Nat}(h:j<n.kids.length):n.kids.drop j=kd n j::n.kids.drop (j+1):=by
 rw[fI h];congr 1;unfold kd;rw[aB,aC h];rfl
theorem aN{p:Prop}(h:p):Hi p:=h
theorem kG{N:Nd}{t u u':Q}(h:cu N t u)(h':cu N t u'):u=u':=by
 unfold cu fP at h h';obtain⟨_,_,_,h⟩:=h;obtain⟨_,_,_,h'⟩:=h';rcases h with⟨a1,_,_,_,a2,_⟩|⟨a1,b1,_,_,_,a2,_⟩|⟨a1,b1,_,_,_,t1,e1,_,_,_,_,_,a2,_⟩ <;>rcases h' with⟨c1,_,_,_,c2,_⟩|⟨c1,d1,_,_,_,c2,_⟩|⟨c1,d1,_,_,_,t2,e2,_,_,_,_,_,c2,_⟩;all_goals first|(rw[a2,c2];done)|(exfalso;omega)|(subst e1 e2;rw[a2,c2])
theorem CW(k:Int)(h:0<=k)(w:M):Cs prog 103 #[I J k] w fun e w'=>e=Rt (I J (jd k))/\H w.heap.size w w':=by
 by_cases h12:12<k
 ·have HE:Hi (jd k=0):=by show jd k=0;unfold jd;rw[aG h12]
  go_enter func103,ntmps103;go_wp2;go_ret;exact⟨by rw[HE.out];rfl,By⟩
 have e:jd k=own k:=by unfold jd;rw[G h12]
 rw[e];exact qY k h O w
theorem eQ{w:M}{k:Nat}{A:Array Vv}{T:TypeId}(h:w.heap[k]? =U (C A T (0,0))){i:Nat}:w.frozen? (D k i Z)=false:=by simp[Wf,h]
def wM(k:Int):Sn:=if k=3 then .End else if k=4 then .Tag else if k=5 then .Length else if k=6 then .Value else if k=7 then .More else if k=8 then .Order else if k=9 then .Default else .Deep
theorem zL(t:Q):(hd t).1=0\/(hd t).1=3\/(hd t).1=4\/(hd t).1=5:=by
 unfold hd;repeat' split
 all_goals simp
 unfold rl;repeat' split
 all_goals simp
theorem lP{t:Q}(x:Int)(sn:Sn->Ad)(h:(hd t).1≠0):iZ x sn (hd t).1=aX x (sn (wM (hd t).1)):=by
 rcases zL t with e|e|e|e
 ·exact Ab e h
 ·rw[e];rfl
 ·rw[e];rfl
 rw[e];rfl
theorem dE{s:Ls Nd}(h:cd s){i:Nat}(hi:i<s.length):1<=(nd s i).kind/\(nd s i).kind<=14/\cy (nd s i):=(ll _).1 ⟨(h.2.2.1 i hi).1,(h.2.2.1 i hi).2.1⟩
theorem oZ(s:Ls Nd)(a:Oo Ad)(c t:Nat)(ko:Bool)(yd u:Q)(w:M)(sn:Sn->Ad)(hl:ls w sn)(hs:ju w a s)(hr:cd s)(ht:t<s.length)(hk9:(nd s t).kind<=9)(hu:cu (nd s t) yd u)(hz:yd.size<=140737488355328):Cs prog 202 #[S a s.length c,Ag #[I J t,Bo ko,Y yd]] w fun e w'=>e=Rt (Ag #[I J (nd s t).kind,Y u,I J 0,I J 0])/\H w.heap.size w w':=by
 obtain⟨hk1,_,hT1,hT2,hT3,hT4,hT5⟩:=dE hr ht;obtain⟨b,o,ka,kc,rfl,ncl,_⟩:=hs t ht;obtain⟨N,hN⟩:∃N,nd s t=N:=Ey;rw[hN]at ncl hk1 hk9 hT3 hT4 hT5 hu hT1 hT2 ⊢;have hmode:N.mode=0\/N.mode=1:=O;have htm:N.tag<0->N.mode=0:=fun q=>hT3 O;have hst:eS N.lays yd=U u:=((fE htm hmode).1 hu).1
 have HW:Hi (∀wq,H w.heap.size w wq->Cs prog 137 #[Ag #[I J N.kind,I J N.tag,I J N.mode,S ka N.kids.length kc],Y yd] wq fun e w'=>∃r,e=Rt (Tu #[Y u,Bo r])/\H wq.heap.size wq w'):=fun wq q=>
  (rH N ka kc yd wq sn (hl.below q).s (hl.below q).n O O hk9 O hz).mono fun e w' ⟨u',r,he,hc,hb,_⟩=>by
    rcases hc with⟨_,hc⟩|⟨_,hc⟩
    ·rw[hst]at hc;injection hc with hc;subst hc;exact⟨r,he,hb⟩
    ·rw[hst]at hc;cases hc
 obtain⟨n0,n1,n2,n3⟩:=ncl;have hbl:b<w.heap.size:=aw n0;have ht':(t:Int)<s.length:=O;have HA:Hi (∀A B ae,H w.heap.size w (((w.alloc A).alloc B).alloc ae)):=fun A B ae=>(((aY w.heap.size w).alloc Ln A).alloc Sq B).alloc So ae;clear hl hs hr hu hst hN hT1 hT2 hT3 hT4 hT5 htm hmode hk1 hk9 hz ht;go_enter func202,ntmps202;go_wp2_with fail;refine(HW _ (HA _ _ _)).mono ?_;rintro e w1 ⟨r,rfl,hb1⟩;have HB1:Hi _:=(HA _ _ _).trans (hb1.mono (HA _ _ _).size);have hZ:w1.heap[w.heap.size+1]? =U (C #[I J 0,Y ⟨#[]⟩,I J 0,I J 0] 60 (0,0)):=ax (ax (by simpa using aA (w.alloc _) _) Be) hb1;have hK:w1.heap[w.heap.size+1+1]? =U (C #[I J N.kind,I J N.tag,I J N.mode,S ka N.kids.length kc] 58 (0,0)):=ax (by simpa using aA ((w.alloc _).alloc _) _) hb1;have z0:w1.cell? (D (w.heap.size+1) 0 Z)=U (I J 0):=cell_of_row hZ X;have z1:w1.cell? (D (w.heap.size+1) 1 Z)=U (Y ⟨#[]⟩):=cell_of_row hZ X;have z2:w1.cell? (D (w.heap.size+1) 2 Z)=U (I J 0):=cell_of_row hZ X;have z3:w1.cell? (D (w.heap.size+1) 3 Z)=U (I J 0):=cell_of_row hZ X;have f0:w1.frozen? (D (w.heap.size+1) 0 Z)=false:=eQ hZ;have f1:w1.frozen? (D (w.heap.size+1) 1 Z)=false:=eQ hZ;have f2:w1.frozen? (D (w.heap.size+1) 2 Z)=false:=eQ hZ;have f3:w1.frozen? (D (w.heap.size+1) 3 Z)=false:=eQ hZ;have k0:w1.cell? (D (w.heap.size+1+1) 0 Z)=U (I J N.kind):=cell_of_row hK X;have hl1:w.heap.size+1+1<w1.heap.size:=aw k0;clear hb1 hZ hK n0 n1 n2 n3 hbl;go_wp2_with fail;refine aS (v:=Ag #[I J N.kind,Y u,I J 0,I J 0]) (by simp[results,results202,go_sem,z0,z1,z2,z3]) X ⟨X,?_⟩;exact(((HB1.setCell (p:=D (w.heap.size+1) 0 Z) (jt _) _).setCell (p:=D (w.heap.size+1) 1 Z) (jt _) _).setCell (p:=D (w.heap.size+1) 2 Z) (jt _) _).setCell (p:=D (w.heap.size+1) 3 Z) (jt _) _
theorem Bh(n:Nd)(ka:Oo Ad)(kc:Nat)(w:M)(hn:iO w)(ht: -1<=n.tag)(hk:10<=n.kind)(hk':n.kind<=12):Cs prog 152 #[Ag #[I J n.kind,I J n.tag,I J n.mode,S ka n.kids.length kc]] w fun e w'=>e=Rt (fv n.ownT.1 n.ownT.2 true)/\H w.heap.size w w':=by
 have HC:Hi (∀w',iO w'->Cs prog 140 #[Ag #[I J n.kind,I J n.tag,I J n.mode,S ka n.kids.length kc]] w' fun e w''=>e=Rt (Ag #[I J n.outer.1,I J n.outer.2])/\H w'.heap.size w' w''):=fun w' q=>jm n ka kc w' q ht O (fun h=>O);have HW:Hi (∀w',iO w'->Cs prog 179 #[I J n.kind] w' fun e w''=>e=Rt (Ag #[I J 0,I J (own n.kind)])/\H w'.heap.size w' w''):=fun w' q=>na n.kind O O w' q;have HN:Hi (∀wq,H w.heap.size w wq->iO wq):=fun wq q=>hn.below q;have hd10:decide (10<=n.kind)=true:=So;obtain⟨T1,T2,hT⟩:∃T1 T2,n.ownT=(T1,T2):=⟨_,_,X⟩;have HT:Hi (n.ownT=(T1,T2)):=hT;rw[hT];unfold fv;clear hn hT;go_enter func152,ntmps152;go_wp2_with fail;refine(HW _ (HN _ ((Be).alloc Sq _))).mono ?_;rintro e w1 ⟨rfl,hb⟩;have HB:Hi (H w.heap.size w w1):=aT (aT hb);have HG:Hi (w1.heap[w.heap.size+1]? =U (C #[I J 0,I J 0,Bo false] 149 (0,0))):=ax (by simpa using aA (w.alloc _) _) hb;have HG0:Hi (w1.heap[w.heap.size]? =U (C #[I J n.kind,I J n.tag,I J n.mode,S ka n.kids.length kc] 58 (0,0))):=ax (ax (aA w _) Be) hb;have hs1:w.heap.size+1<w1.heap.size:=by have:=hb.size;simp at this;omega
 have hs0:w.heap.size<w1.heap.size:=O;have p0:w1.cell? (D w.heap.size 0 Z)=U (I J n.kind):=by simp[Wc,HG0.out]
 have p1:w1.cell? (D w.heap.size 1 Z)=U (I J n.tag):=by simp[Wc,HG0.out]
 have p2:w1.cell? (D w.heap.size 2 Z)=U (I J n.mode):=by simp[Wc,HG0.out]
 have p3:w1.cell? (D w.heap.size 3 Z)=U (S ka n.kids.length kc):=by simp[Wc,HG0.out]
 have q0:w1.cell? (D (w.heap.size+1) 0 Z)=U (I J 0):=by simp[Wc,HG.out]
 have q1:w1.cell? (D (w.heap.size+1) 1 Z)=U (I J 0):=by simp[Wc,HG.out]
 have q2:w1.cell? (D (w.heap.size+1) 2 Z)=U (Bo false):=by simp[Wc,HG.out]
 have f0:w1.frozen? (D (w.heap.size+1) 0 Z)=false:=by simp[Wf,HG.out]
 have f1:w1.frozen? (D (w.heap.size+1) 1 Z)=false:=by simp[Wf,HG.out]
 have f2:w1.frozen? (D (w.heap.size+1) 2 Z)=false:=by simp[Wf,HG.out]
 clear hb;by_cases hm:n.mode=0
 ·have e0:(n.mode==0)=true:=by simp[hm]
  have HE:Hi (n.ownT=n.outer):=by
   show n.ownT=n.outer;unfold Nd.ownT Nd.outer;by_cases q:0<=n.tag
   ·rw[aG ⟨hm,q⟩,aG q]
   rw[G (fun r=>q r.2),G q]
  obtain⟨rfl,rfl⟩:T1=n.outer.1/\T2=n.outer.2:=by rw[<-HE,HT.out];exact⟨X,X⟩
  clear hm;go_wp2_with fail;refine(HC _ (HN _ (HB.alloc HB.size _))).mono ?_;rintro e w2 ⟨rfl,hb2⟩;have HB2:Hi (H w.heap.size w w2):=HB.trans ((aT hb2).mono HB.size);have hA:w2.heap[w1.heap.size]? =U (C #[I J 0,I J (own n.kind)] 147 (0,0)):=ax (aA w1 _) hb2;have hG2:=ax HG (aT hb2);have hG02:=ax HG0 (aT hb2);have hs2:w1.heap.size<w2.heap.size:=by have:=hb2.size;simp at this;omega
  have t0:w2.cell? (D w1.heap.size 0 Z)=U (I J 0):=by simp[Wc,hA]
  have t1:w2.cell? (D w1.heap.size 1 Z)=U (I J (own n.kind)):=by simp[Wc,hA]
  have t2:w2.frozen? (D w1.heap.size 0 Z)=false:=by simp[Wf,hA]
  have t3:w2.frozen? (D w1.heap.size 1 Z)=false:=by simp[Wf,hA]
  have r0:w2.cell? (D (w.heap.size+1) 0 Z)=U (I J 0):=by simp[Wc,hG2]
  have r1:w2.cell? (D (w.heap.size+1) 1 Z)=U (I J 0):=by simp[Wc,hG2]
  have r2:w2.cell? (D (w.heap.size+1) 2 Z)=U (Bo false):=by simp[Wc,hG2]
  have g0:w2.frozen? (D (w.heap.size+1) 0 Z)=false:=by simp[Wf,hG2]
  have g1:w2.frozen? (D (w.heap.size+1) 1 Z)=false:=by simp[Wf,hG2]
  have g2:w2.frozen? (D (w.heap.size+1) 2 Z)=false:=by simp[Wf,hG2]
  have d0:w2.cell? (D w.heap.size 0 Z)=U (I J n.kind):=by simp[Wc,hG02]
  have hne1:¬w1.heap.size=w.heap.size+1:=O;have hne0:¬w1.heap.size=w.heap.size:=O;have hne2:¬w.heap.size+1=w1.heap.size:=O;have hne3:¬w.heap.size=w1.heap.size:=O;clear hb2 hA hG2 hG02 p0 p1 p2 p3 q0 q1 q2 f0 f1 f2;go_wp2;refine aS (v:=Ag #[I J n.outer.1,I J n.outer.2,Bo true]) (by simp[results,results152,go_sem,r0,r1,r2,t0,t1,hne1,hne2,hd10]) X ⟨X,?_⟩;exact iE ((HB2.setCell (p:=D w1.heap.size 0 Z) (by exact zy hs0) _).setCell (p:=D w1.heap.size 1 Z) (by exact zy hs0) _) _ Sq _ _ _
 have e0:(n.mode==0)=false:=by simp[hm]
 have HE:Hi (n.ownT=(0,own n.kind)):=by show n.ownT=(0,own n.kind);unfold Nd.ownT;rw[G (fun r=>hm r.1)]
 obtain⟨rfl,rfl⟩:T1=0/\T2=own n.kind:=by have:=HE.out;rw[HT.out]at this;injection this with a b;exact⟨a,b⟩
 clear hm;go_wp2;refine aS (v:=Ag #[I J 0,I J (own n.kind),Bo true]) (by simp[results,results152,go_sem,q0,q1,q2,hs1,hd10]) X ⟨X,?_⟩
 first
  |exact(iE HB _ Sq _ _ _).alloc (iE HB _ Sq _ _ _).size _
  |exact iE (HB.alloc HB.size _) _ Sq _ _ _
theorem nT(n:Nd)(ka:Oo Ad)(kc:Nat)(w:M)(hn:iO w)(ht: -1<=n.tag)(hk:0<=n.kind)(hk':n.kind<=12):Cs prog 152 #[Ag #[I J n.kind,I J n.tag,I J n.mode,S ka n.kids.length kc]] w fun e w'=>e=Rt (fv n.ownT.1 n.ownT.2 (decide (10<=n.kind/\n.kind<=12)))/\H w.heap.size w w':=by
 by_cases h:n.kind<=9
 ·rw[aE O];exact te n ka kc w hn ht hk h
 rw[aM O];exact Bh n ka kc w hn ht O hk'
def fq(p:Int)(v:Vv):Vv:=If 155 (Ag #[I J p,v])
theorem FB(p:Int)(tt:TypeId)(u:Vv)(w:M):Cs prog 60 #[I J p,If tt u] w fun e w'=>e=Rt (fq p (If tt u))/\w'=w:=by
 unfold fq;go_enter func60,ntmps60;go_wp2;go_ret;exact⟨X,X⟩
def Ce(s:Ls Nd)(root:Int)(za:Ad)(w:M)(e:Ending)(w':M):Prop:=
 H w.heap.size w w'/\((e=Rt .nilIface/\cd s/\0<=root/\root<s.length)\/((∃p:Int,e=Rt (fq 0 (aX p za)))/\¬cd s)\/(e=Rt (aX 0 za)/\cd s/\¬(0<=root/\root<s.length)))
theorem mP(s:Ls Nd)(a:Oo Ad)(c:Nat)(root:Int)(w:M)(sn:Sn->Ad)(za:Ad)(hl:ls w sn)(hz:jM w sn za)(hs:ju w a s)(hok:ie s)(hn0:s.length<=140737488351232):Cs prog 74 #[S a s.length c,I J root] w fun e w'=>Ce s root za w e w':=by
 have HC:Hi (Cs prog 35 #[S a s.length c] w fun e w'=>Ft s za w e w'):=AI s a c w sn za hl hz hs hok hn0;have HZ:=aN hz;have HAT:Hi (∀tt u wq,Cs prog 60 #[I J 0,If tt u] wq fun e w'=>e=Rt (fq 0 (If tt u))/\w'=wq):=fun tt u wq=>FB 0 tt u wq;unfold fq at HAT;clear hl hz hs hok;go_enter func74,ntmps74;go_wp2_with fail;refine HC.mono ?_;rintro e w1 ⟨hb1,h1⟩;have HB1:=aN hb1;clear hb1;rcases h1 with⟨rfl,hr⟩|⟨⟨p,rfl⟩,hr⟩
 ·have HR:=aN hr;clear hr;have cS:=(HZ.below HB1).c;have hgl:=aw cS;simp only at hgl;by_cases h0:root<0
  ·go_wp2_with fail;refine(HAT _ _ _).mono ?_;rintro e w2 ⟨rfl,rfl⟩;go_wp2;go_ret;exact⟨HB1,.inr (.inr ⟨X,HR,O⟩)⟩
  have h0':0<=root:=O;by_cases h2:root<s.length
  ·go_wp2;go_ret;exact⟨HB1,.inl ⟨X,HR,h0',h2⟩⟩
  have h2':(s.length:Int)<=root:=O;go_wp2_with fail;refine(HAT _ _ _).mono ?_;rintro e w2 ⟨rfl,rfl⟩;go_wp2;go_ret;exact⟨HB1,.inr (.inr ⟨X,HR,O⟩)⟩
 have HR:=aN hr;clear hr;unfold aX;go_wp2_with fail;refine(HAT _ _ _).mono ?_;rintro e w2 ⟨rfl,rfl⟩;go_wp2;go_ret;exact⟨HB1,.inr (.inl ⟨⟨p,X⟩,HR⟩)⟩
def gW(n:Nd)(v:Vl):Prop:=
 v.kind=n.kind/\
 if n.kind=13 then v.text.size=0/\v.kids=1/\0<=v.alt/\v.alt<n.kids.length
 else if n.kind=14 then(hd v.text).1=0/\(hd v.text).2.s+(hd v.text).2.l=v.text.size/\v.alt=0/\v.kids=0
 else if n.kind=10 then v.text.size=0/\v.alt=0/\v.kids=n.kids.length
 else if 10<=n.kind/\n.kind<=12 then v.text.size=0/\v.alt=0/\0<=v.kids
 else aR n.kind v.text/\v.alt=0/\v.kids=0
theorem E4{n:Nd}{v:Vl}(h:n.kind=10)(hv:v.kind=n.kind):gW n v↔v.text.size=0/\v.alt=0/\v.kids=n.kids.length:=by
 unfold gW;rw[G O,G O,aG h];exact⟨fun q=>q.2,fun q=>⟨hv,q⟩⟩
theorem vK{n:Nd}{v:Vl}(h:n.kind=11\/n.kind=12)(hv:v.kind=n.kind):gW n v↔v.text.size=0/\v.alt=0/\0<=v.kids:=by
 unfold gW;rw[G O,G O,G O,aG O];exact⟨fun q=>q.2,fun q=>⟨hv,q⟩⟩
theorem E5{n:Nd}{v:Vl}(h:n.kind=13)(hv:v.kind=n.kind):gW n v↔v.text.size=0/\v.kids=1/\0<=v.alt/\v.alt<n.kids.length:=by
 unfold gW;rw[aG h];exact⟨fun q=>q.2,fun q=>⟨hv,q⟩⟩
theorem E6{n:Nd}{v:Vl}(h:n.kind=14)(hv:v.kind=n.kind):gW n v↔(hd v.text).1=0/\(hd v.text).2.s+(hd v.text).2.l=v.text.size/\v.alt=0/\v.kids=0:=by
 unfold gW;rw[G O,aG h];exact⟨fun q=>q.2,fun q=>⟨hv,q⟩⟩
theorem GY{n:Nd}{v:Vl}(h:n.kind<10\/14<n.kind)(hv:v.kind=n.kind):gW n v↔aR n.kind v.text/\v.alt=0/\v.kids=0:=by
 unfold gW;rw[G O,G O,G O,G O];exact⟨fun q=>q.2,fun q=>⟨hv,q⟩⟩
theorem vZ(t:Q)(w:M)(sn:Sn->Ad)(hs:dC w sn)(hm:t.size<=9223372036854775807):Cs prog 181 #[Y t] w fun e w'=>dB ((hd t).1=0/\(hd t).2.s+(hd t).2.l=t.size) w e w':=by
 have h:=ri t 0 w sn hs hm Lz;rw[show t.extract 0 t.size=t by simp]at h;have HRD:Hi (Cs prog 156 #[Y t,I J 0] w fun e w'=>e=Rt (Tu #[hv (hd t).2,iZ 0 sn (hd t).1])/\H w.heap.size w w'):=h;unfold hv at HRD;clear hs h;by_cases q1:(hd t).1=0
 ·have hok:=i3 q1;have Q1:=aN q1;rw[q1]at HRD;have he:iZ 0 sn 0= .nilIface:=X;rw[he]at HRD;obtain⟨ah,hH⟩:∃ah,(hd t).2=ah:=Ey;have HH:=aN hH;rw[hH]at HRD hok;rw[hH];clear q1 he hH;go_enter func181,ntmps181;go_wp2_with fail;refine HRD.mono ?_;rintro e w1 ⟨rfl,hb1⟩;have HB1:=aN hb1;clear hb1;by_cases q2:ah.s+ah.l=t.size
  ·have Q2:=aN q2;(have q2b:(ah.s+ah.l==(t.size:Int))=true:=by simpa using q2);clear q2;go_wp2;go_ret;exact bS ⟨Q1,Q2⟩ (HB1.alloc HB1.size _)
  have Q2:=aN q2;have q2b:(ah.s+ah.l==(t.size:Int))=false:=by simpa using q2
  clear q2;go_wp2;go_ret;exact bc (fun h=>Q2 h.2) (HB1.alloc HB1.size _)
 have Q1:=aN q1;have he:=lP (t:=t) 0 sn q1;rw[he]at HRD;unfold aX at HRD;obtain⟨ah,hH⟩:∃ah,(hd t).2=ah:=Ey;rw[hH]at HRD;rw[hH];clear q1 he hH;go_enter func181,ntmps181;go_wp2_with fail;refine HRD.mono ?_;rintro e w1 ⟨rfl,hb1⟩;have HB1:=aN hb1;clear hb1;go_wp2;go_ret;exact bc (fun h=>Q1 h.1) (HB1.alloc HB1.size _)
theorem EN(n:Nd)(v:Vl)(ka:Oo Ad)(kc:Nat)(w:M)(hk:n.kind=10)(hvk:v.kind=n.kind)(hk8:n.kids.length<=8):Cs prog 148 #[Ag #[I J n.kind,I J n.tag,I J n.mode,S ka n.kids.length kc],Ag #[I J v.kind,Y v.text,I J v.alt,I J v.kids]] w fun e w'=>dB (gW n v) w e w':=by
 have HI:=aN (E4 (v:=v) hk hvk);rw[hvk,hk];go_enter func148,ntmps148;by_cases q1:v.text.size=0
 ·have t1:=gJ q1;have Q1:=aN q1;by_cases q2:v.alt=0
  ·have Q2:=aN q2;rw[q2];by_cases q3:v.kids=(n.kids.length:Int)
   ·have Q3:=aN q3;rw[q3];clear q1 q2 q3 hk hvk;go_wp2;go_ret;exact bS (HI.2 ⟨Q1,Q2,Q3⟩) ((Be).alloc Sq _)
   have Q3:=aN q3;(have q3b:(v.kids==(n.kids.length:Int))=false:=by simpa using q3);clear q1 q2 hk hvk;go_wp2;go_ret;exact bc (fun h=>Q3 (HI.1 h).2.2) ((Be).alloc Sq _)
  have Q2:=aN q2;have q2b:(v.alt==0)=false:=by simpa using q2
  clear q1 hk hvk;go_wp2;go_ret;exact bc (fun h=>Q2 (HI.1 h).2.1) ((Be).alloc Sq _)
 have t1:=dR (t:=v.text) O;have Q1:=aN q1;clear q1 hk hvk;go_wp2;go_ret;exact bc (fun h=>Q1 (HI.1 h).1) ((Be).alloc Sq _)
theorem EO(n:Nd)(v:Vl)(ka:Oo Ad)(kc:Nat)(w:M)(hk:n.kind=11\/n.kind=12)(hvk:v.kind=n.kind)(hk8:n.kids.length<=8):Cs prog 148 #[Ag #[I J n.kind,I J n.tag,I J n.mode,S ka n.kids.length kc],Ag #[I J v.kind,Y v.text,I J v.alt,I J v.kids]] w fun e w'=>dB (gW n v) w e w':=by
 have HI:=aN (vK (v:=v) hk hvk);rw[hvk];rcases hk with hk|hk;all_goals
  rw[hk];go_enter func148,ntmps148;by_cases q1:v.text.size=0
  ·have t1:=gJ q1;have Q1:=aN q1;by_cases q2:v.alt=0
   ·have Q2:=aN q2;rw[q2];by_cases q3:0<=v.kids
    ·have Q3:=aN q3;have hmx:max v.kids 0=v.kids:=O;clear q1 q2 hk hvk;go_wp2;go_ret;exact bS (HI.2 ⟨Q1,Q2,Q3⟩) ((Be).alloc Sq _)
    have Q3:=aN q3;have hmx:max v.kids 0=0:=O;have q3b:(v.kids==0)=false:=So;clear q1 q2 hk hvk;go_wp2;go_ret;exact bc (fun h=>by have h1:=(HI.out.1 h).2.2;have h2:=Q3.out;omega) ((Be).alloc Sq _)
   have Q2:=aN q2;(have q2b:(v.alt==0)=false:=by simpa using q2);clear q1 hk hvk;go_wp2;go_ret;exact bc (fun h=>Q2 (HI.1 h).2.1) ((Be).alloc Sq _)
  have t1:=dR (t:=v.text) O;have Q1:=aN q1;clear q1 hk hvk;go_wp2;go_ret;exact bc (fun h=>Q1 (HI.1 h).1) ((Be).alloc Sq _)
theorem EP(n:Nd)(v:Vl)(ka:Oo Ad)(kc:Nat)(w:M)(hk:n.kind=13)(hvk:v.kind=n.kind)(hk8:n.kids.length<=8):Cs prog 148 #[Ag #[I J n.kind,I J n.tag,I J n.mode,S ka n.kids.length kc],Ag #[I J v.kind,Y v.text,I J v.alt,I J v.kids]] w fun e w'=>dB (gW n v) w e w':=by
 have HI:=aN (E5 (v:=v) hk hvk);rw[hvk,hk];go_enter func148,ntmps148;by_cases q1:v.text.size=0
 ·have t1:=gJ q1;have Q1:=aN q1;by_cases q2:v.kids=1
  ·have Q2:=aN q2;rw[q2];by_cases q3:0<=v.alt
   ·have Q3:=aN q3;by_cases q4:v.alt<(n.kids.length:Int)
    ·have Q4:=aN q4;clear q1 q2 hk hvk;go_wp2;go_ret;exact bS (HI.2 ⟨Q1,Q2,Q3,Q4⟩) ((Be).alloc Sq _)
    have Q4:=aN q4;have q4b:decide (v.alt<(n.kids.length:Int))=false:=aE q4;clear q1 q2 hk hvk;go_wp2;go_ret;exact bc (fun h=>by have h1:=(HI.out.1 h).2.2.2;have h2:=Q4.out;omega) ((Be).alloc Sq _)
   have Q3:=aN q3;have q3b:decide (0<=v.alt)=false:=aE q3;clear q1 q2 hk hvk;go_wp2;go_ret;exact bc (fun h=>by have h1:=(HI.out.1 h).2.2.1;have h2:=Q3.out;omega) ((Be).alloc Sq _)
  have Q2:=aN q2;have q2b:(v.kids==1)=false:=by simpa using q2
  clear q1 hk hvk;go_wp2;go_ret;exact bc (fun h=>Q2 (HI.1 h).2.1) ((Be).alloc Sq _)
 have t1:=dR (t:=v.text) O;have Q1:=aN q1;clear q1 hk hvk;go_wp2;go_ret;exact bc (fun h=>Q1 (HI.1 h).1) ((Be).alloc Sq _)
theorem ER(n:Nd)(v:Vl)(ka:Oo Ad)(kc:Nat)(w:M)(hk:n.kind=14)(sn:Sn->Ad)(hl:ls w sn)(hts:v.text.size<=140737488355328)(hvk:v.kind=n.kind)(hk8:n.kids.length<=8):Cs prog 148 #[Ag #[I J n.kind,I J n.tag,I J n.mode,S ka n.kids.length kc],Ag #[I J v.kind,Y v.text,I J v.alt,I J v.kids]] w fun e w'=>dB (gW n v) w e w':=by
 have HI:=aN (E6 (v:=v) hk hvk);have HF:Hi _:=fun wq q=>vZ v.text wq sn (hl.below q).s O;have HA:Hi (∀A B,H w.heap.size w ((w.alloc A).alloc B)):=fun A B=>((aY w.heap.size w).alloc Ln A).alloc Sq B;rw[hvk,hk];clear hk hvk hl hts;go_enter func148,ntmps148;by_cases q2:v.alt=0
 ·have Q2:=aN q2;rw[q2];by_cases q3:v.kids=0
  ·have Q3:=aN q3;rw[q3];clear q2 q3;go_wp2_with fail;refine(HF _ (HA _ _)).mono ?_;rintro e w1 ⟨rv,rfl,hrv,hb1⟩;have HB1:Hi _:=(HA _ _).trans (hb1.mono (HA _ _).size);have HRV:=aN hrv;clear hb1 hrv;go_wp2;go_ret;exact⟨rv,X,⟨fun h=>HI.2 ⟨(HRV.1 h).1,(HRV.1 h).2,Q2,Q3⟩,fun h=>HRV.2 ⟨(HI.1 h).1,(HI.1 h).2.1⟩⟩,HB1⟩
  have Q3:=aN q3;have q3b:(v.kids !=0)=true:=by simpa using q3
  clear q2;go_wp2;go_ret;exact bc (fun h=>Q3 (HI.1 h).2.2.2) ((Be).alloc Sq _)
 have Q2:=aN q2;have q2b:(v.alt !=0)=true:=by simpa using q2
 go_wp2;go_ret;exact bc (fun h=>Q2 (HI.1 h).2.2.1) ((Be).alloc Sq _)
theorem Gw(n:Nd)(v:Vl)(ka:Oo Ad)(kc:Nat)(w:M)(hk:n.kind<10\/14<n.kind)(sn:Sn->Ad)(hl:ls w sn)(hts:v.text.size<=140737488355328)(hvk:v.kind=n.kind)(hk8:n.kids.length<=8):Cs prog 148 #[Ag #[I J n.kind,I J n.tag,I J n.mode,S ka n.kids.length kc],Ag #[I J v.kind,Y v.text,I J v.alt,I J v.kids]] w fun e w'=>dB (gW n v) w e w':=by
 have HI:=aN (GY (v:=v) hk hvk);have HF:Hi (∀wq,H w.heap.size w wq->Cs prog 138 #[I J n.kind,Y v.text] wq fun e w'=>∃rv,e=Rt (Bo rv)/\(rv=true↔aR n.kind v.text)/\H wq.heap.size wq w'):=fun wq q=>kH _ _ wq O (hl.below q).d (nh _ wq O (hl.below q).t);have HA:Hi (∀A B,H w.heap.size w ((w.alloc A).alloc B)):=fun A B=>((aY w.heap.size w).alloc Ln A).alloc Sq B;have t10:(n.kind==10)=false:=So;have t11:(n.kind==11)=false:=So;have t12:(n.kind==12)=false:=So;have t13:(n.kind==13)=false:=So;have t14:(n.kind==14)=false:=So;rw[hvk];clear hk hvk hl hts;go_enter func148,ntmps148;by_cases q2:v.alt=0
 ·have Q2:=aN q2;rw[q2];by_cases q3:v.kids=0
  ·have Q3:=aN q3;rw[q3];clear q2 q3;go_wp2_with fail;refine(HF _ (HA _ _)).mono ?_;rintro e w1 ⟨rv,rfl,hrv,hb1⟩;have HB1:Hi (H w.heap.size w w1):=(HA _ _).trans (hb1.mono (HA _ _).size);have HRV:=aN hrv;clear hb1 hrv;go_wp2;go_ret;exact⟨rv,X,⟨fun h=>HI.2 ⟨HRV.1 h,Q2,Q3⟩,fun h=>HRV.2 (HI.1 h).1⟩,HB1⟩
  have Q3:=aN q3;have q3b:(v.kids !=0)=true:=by simpa using q3
  clear q2;go_wp2;go_ret;exact bc (fun h=>Q3 (HI.1 h).2.2) ((Be).alloc Sq _)
 have Q2:=aN q2;have q2b:(v.alt !=0)=true:=by simpa using q2
 go_wp2;go_ret;exact bc (fun h=>Q2 (HI.1 h).2.1) ((Be).alloc Sq _)
theorem BD(n:Nd)(v:Vl)(ka:Oo Ad)(kc:Nat)(w:M)(sn:Sn->Ad)(hl:ls w sn)(hts:v.text.size<=140737488355328)(hk8:n.kids.length<=8):Cs prog 148 #[Ag #[I J n.kind,I J n.tag,I J n.mode,S ka n.kids.length kc],Ag #[I J v.kind,Y v.text,I J v.alt,I J v.kids]] w fun e w'=>dB (gW n v) w e w':=by
 by_cases hvk:v.kind=n.kind
 ·by_cases h13:n.kind=13
  ·exact EP n v ka kc w h13 hvk hk8
  by_cases h14:n.kind=14
  ·exact ER n v ka kc w h14 sn hl hts hvk hk8
  by_cases h10:n.kind=10
  ·exact EN n v ka kc w h10 hvk hk8
  by_cases h12:n.kind=11\/n.kind=12
  ·exact EO n v ka kc w h12 hvk hk8
  exact Gw n v ka kc w O sn hl hts hvk hk8
 have aq:=aN hvk;have hb:(v.kind !=n.kind)=true:=by simpa using hvk
 clear hl hts;go_enter func148,ntmps148;go_wp2;go_ret;exact bc (fun h=>aq h.1) ((Be).alloc Sq _)
structure RC(E:cw)(W:M)(a:Oo Ad):Prop where
 sch:ju W a E.s
 right:cd E.s
 sok:ie E.s
 bg:∀i,i<E.s.length->∀c m,E.bg i c m=true↔oQ E.s i c m
 ok:∀k t,E.ok k t=true↔aR k t
 size:E.d.size<=1048576
def BZ(o:dM)(tree tree':Ls Vl)(e' p p':Int):Prop:=
 match o with
 | .error (e,q)=>e'=e/\p'=q/\e≠0
 | .ok (vs,_)=>e'=0/\tree'=tree++vs/\p'=p
def fh(E:cw)(W:M)(R:Nat)(a:Oo Ad)(c:Nat)(o:dM)(tree:Ls Vl)(p:Int)(w w':M):Prop:=
 ∃tree' e' p',dk W w' R a E.s.length c E.d tree' e' p'/\BZ o tree tree' e' p p'/\Fr R w w'
def du(tree:Ls Vl)(f x y:Nat):Prop:=tree.length+10*f+100*(y-x)<=1099511627776
def kv(E:cw)(W:M)(R:Nat)(a:Oo Ad)(c f:Nat):Prop:=
 ∀(i x y:Nat) (dp:Int) (o:dM) (tree:Ls Vl) (p:Int) (w:M),dJ E f i x y dp=U o->i<E.s.length->x<=y->y<=E.d.size->1<=dp->dp<=13->du tree f x y->dk W w R a E.s.length c E.d tree 0 p->
  Cs prog 69 #[Po (U (D R 0 Z)),I J i,I J x,I J y,I J dp] w fun e w'=>∃v:Int,e=Rt (I J v)/\fh E W R a c o tree p w w'/\∀vs z,o= .ok (vs,z)->v=z
theorem dk.r0{W w:M}{R:Nat}{a:Oo Ad}{n c:Nat}{data:Q}{tree:Ls Vl}{e p:Int}(h:dk W w R a n c data tree e p):w.cell? (D R 0 Z)=U (S a n c):=by obtain⟨_,_,vt,hr,_⟩:=h;unfold eh at hr;simp[Wc,hr]
theorem dk.r1{W w:M}{R:Nat}{a:Oo Ad}{n c:Nat}{data:Q}{tree:Ls Vl}{e p:Int}(h:dk W w R a n c data tree e p):w.cell? (D R 1 Z)=U (Y data):=by obtain⟨_,_,vt,hr,_⟩:=h;unfold eh at hr;simp[Wc,hr]
theorem dk.r3{W w:M}{R:Nat}{a:Oo Ad}{n c:Nat}{data:Q}{tree:Ls Vl}{e p:Int}(h:dk W w R a n c data tree e p):w.cell? (D R 3 Z)=U (I J e):=by obtain⟨_,_,vt,hr,_⟩:=h;unfold eh at hr;simp[Wc,hr]
theorem Fr.below{R:Nat}{w w1 w2:M}(h:Fr R w w1)(hb:H w1.heap.size w1 w2):Fr R w w2:=h.trans (Fr.of_below hb)
theorem fh.of{E:cw}{W:M}{R:Nat}{a:Oo Ad}{c:Nat}{o:dM}{tree:Ls Vl}{p:Int}{w w1 w':M}(h:fh E W R a c o tree p w1 w')(hf:Fr R w w1):fh E W R a c o tree p w w':=by obtain⟨t,e,q,h1,h2,h3⟩:=h;exact⟨t,e,q,h1,h2,hf.trans h3⟩
theorem bJ{α:Type}{o:Oo dM}{k:Ls Vl->Nat->Oo (Except (Int×Int) α)}{v:Except (Int×Int) α}(h:dM.andThen o k=U v):(∃e,o=U (.error e)/\v= .error e)\/∃vs z,o=U (.ok (vs,z))/\k vs z=U v:=by
 unfold dM.andThen at h;split at h
 ·cases h
 ·rename_i e;exact .inl ⟨e,X,(aK h).symm⟩
 rename_i vs z;exact .inr ⟨vs,z,X,h⟩
def ku(o:dM):Prop:=∀e q,o= .error (e,q)->e≠0
theorem lK{E:cw}{rec:im}(hr:∀i x y dp o,rec i x y dp=U o->ku o){h:Hd}{x tz:Nat}{dp:Int}:∀(ks:Ls Kd) (j:Nat) {o:dM},bU E rec h x tz dp ks j=U o->ku o
 | [],_,o,e=>by unfold bU at e;cases e;intro a b q;cases q;decide
 |k::ks,j,o,e=>by
  unfold bU at e
  split at e
  ·rcases bJ e with⟨u,h1,rfl⟩|⟨vs,z,h1,h2⟩
   ·exact hr _ _ _ _ _ h1
   ·cases h2;intro a b q;cases q
  ·exact lK hr ks (j+1) e
theorem lV{E:cw}{rec:im}(hr:∀i x y dp o,rec i x y dp=U o->ku o){tz:Nat}{dp:Int}:∀(ks:Ls Kd) (x:Nat) (acc:Ls Vl) {o:dM},de E rec tz dp ks x acc=U o->ku o
 | [],x,acc,o,e=>by unfold de at e;split at e<;> (cases e;intro a b q;cases q<;>decide)
 |k::ks,x,acc,o,e=>by
  unfold de at e
  split at e
  ·rename_i q;cases e;intro a b p;cases p;exact q.2
  split at e
  ·rcases bJ e with⟨u,h1,rfl⟩|⟨vs,z,h1,h2⟩
   ·exact hr _ _ _ _ _ h1
   ·split at h2
    ·cases h2;intro a b q;cases q;decide
    ·exact lV hr ks _ _ h2
  split at e
  ·exact lV hr ks _ _ e
  split at e
  ·exact lV hr ks _ _ e
  split at e<;> (cases e;intro a b q;cases q<;>decide)
theorem oD{E:cw}{rec:im}(hr:∀i x y dp o,rec i x y dp=U o->ku o){set:Bool}{i tz:Nat}{dp:Int}:∀(m x:Nat) (last:Q) (j:Nat) (acc:Ls Vl) {v:Except (Int×Int) (Nat×Ls Vl)},dA E rec set i tz dp m x last j acc=U v->∀e q,v= .error (e,q)->e≠0
 |0,_,_,_,_,_,e=>by cases e
 |m+1,x,last,j,acc,v,e=>by
  unfold dA at e
  split at e
  ·rcases bJ e with⟨u,h1,rfl⟩|⟨vs,z,h1,h2⟩
   ·intro a b q;cases q;exact hr _ _ _ _ _ h1 _ _ X
   ·split at h2
    ·cases h2;intro a b q;cases q;decide
    ·exact oD hr m _ _ _ _ h2
  ·cases e;intro a b q;cases q
theorem ox{E:cw}{rec:im}(hr:∀i x y dp o,rec i x y dp=U o->ku o){m:Nat}{n:Nd}{cl nu:Int}{h:Hd}{x tz:Nat}{dp:Int}{o:dM}(e:cF E rec m n cl nu h x tz dp=U o):ku o:=by
 unfold cF at e;split at e
 ·exact lK hr _ _ e
 split at e
 ·cases e;intro a b q;cases q;decide
 split at e
 ·cases e;intro a b q;cases q;decide
 split at e
 ·cases e;intro a b q;cases q
 split at e
 ·split at e
  ·cases e
  ·rename_i u hs;cases e;intro a b q;cases q;exact lV hr _ _ _ hs _ _ X
  cases e;intro a b q;cases q
 split at e
 ·split at e
  ·cases e
  ·rename_i u hs;cases e;intro a b q;cases q;exact oD hr _ _ _ _ _ hs _ _ X
  cases e;intro a b q;cases q
 split at e
 ·cases e;intro a b q;cases q
 cases e;intro a b q;cases q;decide
theorem Dv{E:cw}{rec:im}(hr:∀i x y dp o,rec i x y dp=U o->ku o){m i:Nat}{h:Hd}{x tz:Nat}{dp:Int}{o:dM}(e:iQ E rec m i h x tz dp=U o):ku o:=by
 unfold iQ at e;split at e
 ·exact ox hr e
 split at e
 ·exact ox hr e
 split at e
 ·cases e;intro a b q;cases q;decide
 split at e
 ·cases e;intro a b q;cases q;decide
 split at e
 ·rename_i q;cases e;intro a b p;cases p;exact q
 rcases bJ e with⟨u,h1,rfl⟩|⟨vs,z,h1,h2⟩
 ·exact ox hr h1
 split at h2<;> (cases h2;intro a b q;cases q<;>decide)
theorem jn{E:cw}:∀(f i x y:Nat) (dp:Int) (o:dM),dJ E f i x y dp=U o->ku o
 |0,_,_,_,_,_,e=>by cases e
 |f+1,i,x,y,dp,o,e=>by
  rw[dJ]at e
  split at e
  ·rename_i q;cases e;intro a b p;cases p;exact q
  ·exact Dv (jn f) e
theorem jW{o:dM}{e q:Int}(h:ku o)(ho:o= .error (e,q))(tree tree':Ls Vl)(p:Int):BZ o tree tree' e p q:=by subst ho;exact⟨X,X,h e q X⟩
theorem Ga(vs:Ls Vl)(z:Nat)(tree:Ls Vl)(p:Int):BZ (.ok (vs,z)) tree (tree++vs) 0 p p:=⟨X,X,X⟩
end Go.Proofs.YtkkicodfpekbgaaGreatDoor
namespace Go.Proofs.YtkkicodfpekbgaaGreatDoor
theorem oW{E:cw}{rec:im}{h:Hd}{x tz B:Nat}{dp:Int}:∀(ks:Ls Kd) (j:Nat) {vs:Ls Vl} {z:Nat},(∀k∈ks,∀vs z,rec k.node.toNat x tz dp=U (.ok (vs,z))->vs.length+1<=B)->bU E rec h x tz dp ks j=U (.ok (vs,z))->vs.length<=B
 | [],_,_,_,_,e=>by cases e
 |k::ks,j,vs,z,hB,e=>by
  unfold bU at e
  split at e
  ·obtain⟨us,z',h1,h2⟩:=cY e
   have:=hB k Sq us z' h1
   simp at h2
   rw[<-h2.1];simpa using this
  ·exact oW ks (j+1) (fun k hk=>hB k (by simp[hk])) e
theorem oa{E:cw}{rec:im}{tz:Nat}{dp:Int}:∀(ks:Ls Kd) (x:Nat) (acc:Ls Vl) {vs:Ls Vl} {z:Nat},(∀k∈ks,∀x vs z,rec k.node.toNat x tz dp=U (.ok (vs,z))->vs.length<=100*(z-x)/\x<=z/\z<=tz)->x<=tz->de E rec tz dp ks x acc=U (.ok (vs,z))->vs.length<=acc.length+ks.length+100*(z-x)/\x<=z/\z<=tz
 | [],x,acc,vs,z,_,hx,e=>by
   unfold de at e
   split at e
   ·cases e
   ·simp at e;obtain⟨rfl,rfl⟩:=e;simp;exact hx
 |k::ks,x,acc,vs,z,hr,hx,e=>by
  have hr':∀k∈ks,∀x vs z,rec k.node.toNat x tz dp=U (.ok (vs,z))->vs.length<=100*(z-x)/\x<=z/\z<=tz:=fun k hk=>hr k (by simp[hk])
  unfold de at e
  split at e
  ·cases e
  split at e
  ·obtain⟨us,z',h1,h2⟩:=cY e
   have h3:=hr k Sq x us z' h1
   split at h2
   ·cases h2
   ·have:=oa ks z' _ hr' O h2
    simp only[aQ,aU]at this ⊢
    omega
  split at e
  ·have:=oa ks x _ hr' hx e
   simp only[aQ,aU,bD]at this ⊢
   omega
  split at e
  ·have:=oa ks x _ hr' hx e
   simp only[aQ,aU,bD]at this ⊢
   omega
  split at e<;>cases e
theorem sL{E:cw}{rec:im}{set:Bool}{i tz:Nat}{dp:Int}(hr:∀x vs z,rec i x tz dp=U (.ok (vs,z))->vs.length<=100*(z-x)/\x<=z/\z<=tz):∀(m x:Nat) (last:Q) (j:Nat) (acc:Ls Vl) {j':Nat} {vs:Ls Vl},x<=tz->dA E rec set i tz dp m x last j acc=U (.ok (j',vs))->vs.length<=acc.length+100*(tz-x)
 |0,_,_,_,_,_,_,_,e=>by cases e
 |m+1,x,last,j,acc,j',vs,hx,e=>by
  unfold dA at e
  split at e
  ·obtain⟨us,z',h1,h2⟩:=cY e
   have h3:=hr x us z' h1
   split at h2
   ·cases h2
   ·have:=sL hr m z' _ _ _ O h2
    simp only[aQ]at this
    omega
  ·simp at e;rw[<-e.2];omega
theorem oy{E:cw}(hf:uN E.s){f i:Nat}(hi:i<E.s.length){cl nu:Int}{x tz:Nat}{dp:Int}{h:Hd}{V ae:Nat}(hV:V<=40)(hh:2<=h.s.toNat)(hxt:x+h.s.toNat<=tz)(hc:(nd E.s i).kind=13->∀k∈(nd E.s i).kids,∀vs z,dJ E f k.node.toNat x tz dp=U (.ok (vs,z))->vs.length+(V+1)<=100*(tz-x)+ae)(hr:∀(j:Nat) (x':Nat) vs z,j<E.s.length->dJ E f j x' tz (dp+1)=U (.ok (vs,z))->vs.length<=100*(z-x')){vs:Ls Vl}{z:Nat}(e:cF E (dJ E f) f (nd E.s i) cl nu h x tz dp=U (.ok (vs,z))):vs.length+V<=100*(tz-x)+ae:=by
 have hlt:∀k∈(nd E.s i).kids,k.node.toNat<E.s.length:=fun k hk=>by have:=hf.within i hi k hk;omega
 have hz:∀i x vs z,dJ E f i x tz (dp+1)=U (.ok (vs,z))->x<=z/\z<=tz:=fun i x vs z e=>by obtain⟨q1,q2⟩:=gB e;have:=dZ q1;omega
 unfold cF at e;split at e
 ·rename_i q;have:=oW (B:=100*(tz-x)+ae-V) _ _ (fun k hk us z' h1=>by have:=hc q k hk us z' h1;omega) e;omega
 split at e
 ·cases e
 split at e
 ·cases e
 split at e
 ·simp at e;rw[<-e.1];simp;omega
 split at e
 ·split at e
  ·cases e
  ·cases e
  rename_i us z' hs;have h8:=hf.eight i hi;have:=oa _ _ _ (fun k hk x' us z' h1=>⟨hr _ _ _ _ (hlt k hk) h1,hz _ _ _ _ h1⟩) hxt hs;simp at e;rw[<-e.1];simp only[bD,aU]at this ⊢;omega
 split at e
 ·rename_i q;split at e
  ·cases e
  ·cases e
  rename_i j us hs;have h1:=hf.one i hi O;have hk:=hlt _ (fU (n:=nd E.s i) (i:=0) O);have:=sL (fun x' us z' h1=>⟨hr _ _ _ _ hk h1,hz _ _ _ _ h1⟩) _ _ _ _ _ hxt hs;simp at e;rw[<-e.1];simp only[bD,aU]at this ⊢;omega
 split at e
 ·simp at e;rw[<-e.1];simp;omega
 cases e
theorem pH{E:cw}(hf:uN E.s):∀(f i x y:Nat) (dp:Int) (V:Ls Nat),i<E.s.length->Way E.s V i->∀vs z,dJ E f i x y dp=U (.ok (vs,z))->vs.length+V.length<=100*(z-x)
 |0,_,_,_,_,_,_,_,_,_,e=>by cases e
 |f+1,i,x,y,dp,V,hi,hV,vs,z,e=>by
  have hVl:=hV.len hf
  obtain⟨hq,rfl⟩:=gB e
  have hfin:=dZ hq
  have hlt:∀k∈(nd E.s i).kids,k.node.toNat<E.s.length:=fun k hk=>by have:=hf.within i hi k hk;omega
  have hr:∀(j:Nat) (x':Nat) (tz:Nat) vs z,j<E.s.length->dJ E f j x' tz (dp+1)=U (.ok (vs,z))->vs.length<=100*(z-x'):=fun j x' tz vs z hj e=>by
   have:=pH hf f j x' tz (dp+1) [] hj (Way.nil _ _) vs z e
   simpa using this
  rw[dJ,G (by rw[hq];decide)]at e
  unfold iQ at e
  split at e
  ·rename_i ht
   refine oy (ae:=0) hf hi hVl O hfin.2.1 (fun hk k hkm us z' h1=>?_) (fun j x' us z' hj h1=>hr j x' _ us z' hj h1) e
   have:=pH hf f k.node.toNat x _ dp (i::V) (hlt k hkm) (hV.cons hf hi ⟨hk,ht⟩ hkm) us z' h1
   obtain⟨a1,a2⟩:=gB h1
   have:=dZ a1
   simp only[aU]at*
   omega
  split at e
  ·rename_i ht hm
   exact oy (ae:=0) hf hi hVl O hfin.2.1 (fun hk=>Ab hm (hf.tagged i hi hk O)) (fun j x' us z' hj h1=>hr j x' _ us z' hj h1) e
  split at e
  ·cases e
  split at e
  ·cases e
  split at e
  ·cases e
  rename_i q'
  have hq':(E.hd (x+(E.hd x y).2.s.toNat) (iH x (E.hd x y).2)).1=0:=Classical.not_not.1 q'
  have hfin':=dZ hq'
  obtain⟨us,z',h1,h2⟩:=cY e
  have h3:=oy (V:=0) (ae:=1) hf hi O O hfin'.2.1 (fun hk k hkm us z' h1=>by
   have:=pH hf f k.node.toNat _ _ dp [] (hlt k hkm) (Way.nil _ _) us z' h1
   obtain⟨a1,a2⟩:=gB h1
   have:=dZ a1
   simp only[bD]at*
   omega) (fun j x' us z' hj h1=>hr j x' _ us z' hj h1) h1
  split at h2
  ·cases h2
  ·simp at h2
   rw[<-h2]
   omega
theorem iC{E:cw}(hf:uN E.s){f i x y:Nat}{dp:Int}{vs:Ls Vl}{z:Nat}(hi:i<E.s.length)(e:dJ E f i x y dp=U (.ok (vs,z))):vs.length<=100*(z-x)/\x+2<=z/\z<=y/\z<=E.d.size:=by
 have:=pH hf f i x y dp [] hi (Way.nil _ _) vs z e;obtain⟨a1,a2⟩:=gB e;have:=dZ a1;simp only[bD]at*;omega
end Go.Proofs.YtkkicodfpekbgaaGreatDoor
namespace Go.Proofs.YtkkicodfpekbgaaGreatDoor
open Go.RowKit
theorem iR(l m:Ls Vl):bG (l++m)=bG l++bG m:=by unfold bG;simp
theorem jJ(l:Ls Vl):(bG l).length=l.length*4:=by
 induction l with
 |nil=>rfl
 |cons v l ih=>show(v.cells++bG l).length=_;rw[aQ,ih];show 4+l.length*4=_;simp;omega
theorem lX(v:Vl)(l:Ls Vl):bG (v::l)=v.cells++bG l:=by unfold bG;simp
theorem oX{E:cw}{rec:im}{h:Hd}{x tz:Nat}{dp:Int}{n:Nd}{j:Nat}{o:dM}(hj:j<n.kids.length)(e:bU E rec h x tz dp (n.kids.drop j) j=U o)(hb:E.bg (kd n j).node.toNat h.c h.n=true):∃o',rec (kd n j).node.toNat x tz dp=U o'/\((∃u,o'= .error u/\o= .error u)\/∃vs z,o'= .ok (vs,z)/\o= .ok (⟨13,bh,j,1⟩::vs,tz)):=by
 rw[iY hj]at e;unfold bU at e;rw[aG hb]at e;rcases bJ e with⟨u,h1,rfl⟩|⟨vs,z,h1,h2⟩
 ·exact⟨_,h1,.inl ⟨u,X,X⟩⟩
 cases h2;exact⟨_,h1,.inr ⟨vs,z,X,X⟩⟩
theorem qz{E:cw}{rec:im}{h:Hd}{x tz:Nat}{dp:Int}{n:Nd}{j:Nat}{o:dM}(hj:j<n.kids.length)(e:bU E rec h x tz dp (n.kids.drop j) j=U o)(hb:E.bg (kd n j).node.toNat h.c h.n=false):bU E rec h x tz dp (n.kids.drop (j+1)) (j+1)=U o:=by
 rw[iY hj]at e;unfold bU at e;rw[G (by rw[hb];decide)]at e;exact e
theorem wo{E:cw}{rec:im}{set:Bool}{i tz:Nat}{dp:Int}{m x:Nat}{last:Q}{j:Nat}{acc:Ls Vl}{o:Except (Int×Int) (Nat×Ls Vl)}(e:dA E rec set i tz dp m x last j acc=U o)(hx:x<tz):∃o',rec i x tz dp=U o'/\((∃u,o'= .error u/\o= .error u)\/∃vs z,o'= .ok (vs,z)/\((set=true/\eZ (E.d.extract x z) last=true/\o= .error (8,(x:Int)))\/(¬(set=true/\eZ (E.d.extract x z) last=true)/\∃m',dA E rec set i tz dp m' z (E.d.extract x z) (j+1) (acc++vs)=U o))):=by
 cases m with
 |zero=>cases e
 |succ m=>
  unfold dA at e
  rw[aG hx]at e
  rcases bJ e with⟨u,h1,rfl⟩|⟨vs,z,h1,h2⟩
  ·exact⟨_,h1,.inl ⟨u,X,X⟩⟩
  ·refine⟨_,h1,.inr ⟨vs,z,X,?_⟩⟩
   split at h2
   ·rename_i q;cases h2;exact .inl ⟨q.1,q.2,X⟩
   ·rename_i q;exact .inr ⟨q,m,h2⟩
theorem sM{E:cw}{rec:im}{set:Bool}{i tz:Nat}{dp:Int}{m x:Nat}{last:Q}{j:Nat}{acc:Ls Vl}{o:Except (Int×Int) (Nat×Ls Vl)}(e:dA E rec set i tz dp m x last j acc=U o)(hx:¬x<tz):o= .ok (j,acc):=by
 cases m with
 |zero=>cases e
 |succ m=>unfold dA at e;rw[G hx]at e;exact(aK e).symm
def DJ(kind:Int)(tz:Nat)(v:Except (Int×Int) (Nat×Ls Vl)):dM:=
 match v with
 | .error e=> .error e
 | .ok (j,vs)=> .ok (⟨kind,bh,0,j⟩::vs,tz)
theorem tK(l:Ls Vl)(v:Vl)(m:Ls Vl):(bG (l++v::m))[l.length*4+3]? =U (I J v.kids):=by
 rw[iR,bu (by rw[jJ];omega),jJ,lX];rw[show l.length*4+3-l.length*4=3 by omega];rfl
theorem rG(l:Ls Vl)(v:Vl)(m:Ls Vl)(k:Int):(bG (l++v::m)).set (l.length*4+3) (I J k)=bG (l++⟨v.kind,v.text,v.alt,k⟩::m):=by
 rw[iR,iR,List.set_append_right _ _ (by rw[jJ];omega),jJ,lX,lX];rw[show l.length*4+3-l.length*4=3 by omega];rfl
def j0(E:cw):Prop:=∀i,i<E.s.length->∀k∈(nd E.s i).kids,k.dflt.size≠0->∃u,cu (nd E.s k.node.toNat) k.dflt u/\E.dv k=⟨(nd E.s k.node.toNat).kind,u,0,0⟩/\1<=(nd E.s k.node.toNat).kind/\(nd E.s k.node.toNat).kind<=9
def pW(v:Except (Int×Int) (Ls Vl))(w:M)(e:Ending)(w':M):Prop:=
 H w.heap.size w w'/\
 match v with
 | .error (c,p)=>e=Rt (Tu #[S Z 0 0,I J p,I J c])
 | .ok vs=>∃ta tc,e=Rt (Tu #[S ta vs.length tc,I J 0,I J 0])/\w'.ownsRow w.heap.size 60 4 (S ta vs.length tc) vs.length (bG vs)
theorem mn{w:M}{base base':Nat}{e:TypeId}{size:Nat}{v:Vv}{n:Nat}{xs:Ls Vv}(h:w.ownsRow base e size v n xs)(hb:base'<=base):w.ownsRow base' e size v n xs:=by
 refine⟨h.1,?_⟩;rcases h.2 with q|⟨g,cap,cur,q,q2,r⟩
 ·exact .inl q
 exact .inr ⟨g,cap,cur,q,bl hb q2,r⟩
structure gp(E:cw):Prop where
 bg:∀i,i<E.s.length->∀c m,E.bg i c m=true↔oQ E.s i c m
 ok:∀k t,E.ok k t=true↔aR k t
 dv:j0 E
theorem yg(s:Ls Nd)(d:Q)(h:cd s):∃E:cw,E.s=s/\E.d=d/\gp E:=by
 have hb:∃bg:Nat->Int->Int->Bool,∀i c m,bg i c m=true↔oQ s i c m:=⟨fun i c m=> @decide (oQ s i c m) (Classical.propDecidable _),fun i c m=>Sq⟩;have hk:∃ok:Int->Q->Bool,∀k t,ok k t=true↔aR k t:=⟨fun k t=> @decide (aR k t) (Classical.propDecidable _),fun k t=>Sq⟩;have hd:∃dv:Kd->Vl,∀k u,cu (nd s k.node.toNat) k.dflt u->dv k=⟨(nd s k.node.toNat).kind,u,0,0⟩:=by refine⟨fun k=>⟨(nd s k.node.toNat).kind,@dite _ (∃u,cu (nd s k.node.toNat) k.dflt u) (Classical.propDecidable _) (fun q=>Classical.choose q) (fun _=>⟨#[]⟩),0,0⟩,fun k u hu=>?_⟩;have q:∃u,cu (nd s k.node.toNat) k.dflt u:=⟨u,hu⟩;simp only[dif_pos q];rw[kG (Classical.choose_spec q) hu]
 obtain⟨bg,hb⟩:=hb;obtain⟨ok,hk⟩:=hk;obtain⟨dv,hd⟩:=hd;refine⟨⟨s,d,bg,ok,dv⟩,X,X,fun i _ c m=>hb i c m,hk,fun i hi k hkm hne=>?_⟩;obtain⟨j,hj,e⟩:=dN hkm;have hkd:kd (nd s i) j=k:=by unfold kd;rw[aB,aC hj];exact e
 have hw:=h.fine.within i hi k hkm;rcases(h.2.2.2.2 i hi).2 j hj with q|⟨q1,u,q2⟩
 ·rw[hkd]at q;exact Ab q hne
 rw[hkd]at q1 q2;exact⟨u,q2,hd k u q2,(fu h.2.2.1 k.node.toNat O).1,q1⟩
def my(E:cw)(s:Ls Nd)(root:Int)(d:Q)(v:Except (Int×Int) (Ls Vl)):Prop:=
 (¬(cd s/\0<=root/\root<s.length)/\v= .error (1,0))\/
 ((cd s/\0<=root/\root<s.length)/\4000<d.size/\v= .error (2,0))\/
 ((cd s/\0<=root/\root<s.length)/\d.size<=4000/\E.s=s/\E.d=d/\gp E/\∃f,f<=1000000/\eI E f root.toNat=U v)
theorem zH(s:Ls Nd)(root:Int)(d:Q):∃E v,my E s root d v:=by
 by_cases h:cd s/\0<=root/\root<s.length
 ·by_cases hd:d.size<=4000
  ·obtain⟨E,rfl,rfl,hE⟩:=yg s d h.1;obtain⟨o,ho⟩:=jF h.1.fine 168041 root.toNat 0 E.d.size 1 [] O (Way.nil _ _) (by simp only[bD];omega);(obtain⟨v,hv⟩:∃v,eI E 168041 root.toNat=U v:=by unfold eI;refine iu ho fun vs z _=>?_;split<;>exact⟨_,X⟩);exact⟨E,v,.inr (.inr ⟨h,hd,X,X,hE,168041,O,hv⟩)⟩
  exact⟨⟨[],d,fun _ _ _=>false,fun _ _=>false,fun _=>⟨0,d,0,0⟩⟩,_,.inr (.inl ⟨h,O,X⟩)⟩
 exact⟨⟨[],d,fun _ _ _=>false,fun _ _=>false,fun _=>⟨0,d,0,0⟩⟩,_,.inl ⟨h,X⟩⟩
end Go.Proofs.YtkkicodfpekbgaaGreatDoor
namespace Go.Proofs.YtkkicodfpekbgaaGreatDoor
open Go.Proofs.Tryz
open Go.RowKit
def ly(a:Oo Ad)(n c gb:Nat)(data:Q)(vt:Vv):Obj:=C #[S a n c,S (U (D gb 0 Z)) n n,Y data,vt] 144 (0,0)
structure gh(W w:M)(R:Nat)(a:Oo Ad)(n c gb:Nat)(data:Q)(tree:Ls Vl):Prop where
 bel:H W.heap.size W w
 lo:W.heap.size<=R
 own:∃vt,w.heap[R]? =U (ly a n c gb data vt)/\w.ownsRow W.heap.size 60 4 vt tree.length (bG tree)
theorem gh.below{W w w':M}{R:Nat}{a:Oo Ad}{n c gb:Nat}{data:Q}{tree:Ls Vl}(h:gh W w R a n c gb data tree)(hb:H w.heap.size w w'):gh W w' R a n c gb data tree where
 bel:=h.bel.trans (hb.mono h.bel.size)
 lo:=h.lo
 own:=by
  obtain⟨vt,h1,h2⟩:=h.own
  exact⟨vt,ax h1 hb,bB h2 hb⟩
theorem gh.r0{W w:M}{R:Nat}{a:Oo Ad}{n c gb:Nat}{data:Q}{tree:Ls Vl}(h:gh W w R a n c gb data tree):w.cell? (D R 0 Z)=U (S a n c):=by obtain⟨_,_,vt,hr,_⟩:=h;unfold ly at hr;simp[Wc,hr]
theorem gh.r1{W w:M}{R:Nat}{a:Oo Ad}{n c gb:Nat}{data:Q}{tree:Ls Vl}(h:gh W w R a n c gb data tree):w.cell? (D R 1 Z)=U (S (U (D gb 0 Z)) n n):=by obtain⟨_,_,vt,hr,_⟩:=h;unfold ly at hr;simp[Wc,hr]
theorem gh.r2{W w:M}{R:Nat}{a:Oo Ad}{n c gb:Nat}{data:Q}{tree:Ls Vl}(h:gh W w R a n c gb data tree):w.cell? (D R 2 Z)=U (Y data):=by obtain⟨_,_,vt,hr,_⟩:=h;unfold ly at hr;simp[Wc,hr]
theorem FL{W w:M}{R:Nat}{A:Array Vv}{tree:Ls Vl}{vt:Vv}(i:Nat)(u:Vv)(hb:H W.heap.size W w)(hlo:W.heap.size<=R)(hg:w.heap[R]? =U (C A 144 (0,0)))
 (ho:w.ownsRow W.heap.size 60 4 vt tree.length (bG tree)):
 H W.heap.size W (w.setCell (D R i Z) u)/\(w.setCell (D R i Z) u).heap[R]? =U (C (A.setIfInBounds i u) 144 (0,0))/\(w.setCell (D R i Z) u).ownsRow W.heap.size 60 4 vt tree.length (bG tree):=
 ⟨hb.setCell hlo u,bn w R i A _ u hg,aJ ho (cA hg ho Dc) u⟩
theorem me(W w:M)(R:Nat)(a:Oo Ad)(n c gb:Nat)(data:Q)(tree:Ls Vl)(k:Int)(u:Q)(al ki:Int)(h:gh W w R a n c gb data tree)(hl:tree.length<=1099511627776):Cs prog 162 #[Po (U (D R 0 Z)),Ag #[I J k,Y u,I J al,I J ki]] w fun e' w'=>e'=Rt (Tu #[])/\gh W w' R a n c gb data (tree++[⟨k,u,al,ki⟩])/\Fr R w w':=by
 obtain⟨i0,hi0,hz0,hz1,hz2⟩:=dD jl;obtain⟨hb,hlo,vt,hr,ho⟩:=h;have HB:Hi (H W.heap.size W w):=hb;have HO:Hi (w.ownsRow W.heap.size 60 4 vt tree.length (bG tree)):=ho;have HR:Hi (w.heap[R]? =U (ly a n c gb data vt)):=hr;unfold ly at hr;have y3:w.cell? (D R 3 Z)=U vt:=by simp[Wc,hr]
 have f3:w.frozen? (D R 3 Z)=false:=by simp[Wf,hr]
 have hRl:R<w.heap.size:=aw y3;have hsz:W.heap.size<=w.heap.size+1+1:=by have:=hb.size;omega
 have HAP:Hi (∀g cap w3,w3.ownsRow W.heap.size 60 4 (S (U (D g 0 Z)) (tree.length+1) cap) (tree.length+1) (bG tree++[I J k,Y u,I J al,I J ki])->((w.alloc (C #[I J k,Y u,I J al,I J ki] 60)).drew.alloc (C #[I J k,Y u,I J al,I J ki] 60)).grownBy w3 vt.ownBlock->
  w3.cell? ⟨R,3,Z⟩=U vt/\w3.frozen? ⟨R,3,Z⟩=false/\gh W (w3.setCell ⟨R,3,Z⟩ (S (U ⟨g,0,Z⟩) (tree.length+1) cap)) R a n c gb data (tree++[⟨k,u,al,ki⟩])/\Fr R w (w3.setCell ⟨R,3,Z⟩ (S (U ⟨g,0,Z⟩) (tree.length+1) cap))):=fun g cap w3 h1 h2=>by
  have old:∀j,j<w.heap.size->(U j≠vt.ownBlock)->w3.heap[j]? =w.heap[j]? :=fun j hj hne=>by
   rw[h2.block j So hne,bM _ _ _ So]
   exact bM w _ _ hj
  have hR3:w3.heap[R]? =U (ly a n c gb data vt):=by
   rw[old R hRl (fun q=>cA HR HO Dc q.symm)];exact HR
  have hb3:H W.heap.size W w3:=by
   have hb0:H W.heap.size W ((w.alloc (C #[I J k,Y u,I J al,I J ki] 60)).drew.alloc (C #[I J k,Y u,I J al,I J ki] 60)):=(HB.out.alloc HB.out.size _).drew.alloc (by have:=HB.out.size;simp;omega) _
   exact hb0.grown h2 hb0.size (fun k hk=>(HO.lt k hk).1)
  have ho3:w3.ownsRow W.heap.size 60 4 (S (U (D g 0 Z)) (tree.length+1) cap) (tree++[(⟨k,u,al,ki⟩:Vl)]).length (bG (tree++[(⟨k,u,al,ki⟩:Vl)])):=by rw[kg,aQ];exact h1
  obtain⟨b1,r1,o1⟩:=FL 3 (S (U (D g 0 Z)) (tree.length+1) cap) hb3 hlo hR3 ho3
  refine⟨by unfold ly at hR3;simp[Wc,hR3],by unfold ly at hR3;simp[Wf,hR3],⟨b1,hlo,_,r1,o1⟩,fun j A T hj hT hg=>?_⟩
  rw[aP _ _ _ _ hj,old j (bm hg) (fun q=>cA hg HO hT q.symm)]
  exact hg
 clear hb ho hr;go_enter func162,ntmps162;go_wp2_with fail;go_region_law (refine step_append_lies _ X (.tmp 8) (.tmp 10) 39 X W.heap.size 60 i0 fA 4 40 underlying39 hi0 hz0 hz1 hz2 X Dc vt tree.length (bG tree) (by simp[Ae,Ap]) ((HO.alloc _).drew.alloc _) (D (w.heap.size+1) 0 Z) 1 1 [I J k,Y u,I J al,I J ki] (by simp[Ae,Ap]) X (by have q:=World.news_of_block (aA (w.alloc (C #[I J k,Y u,I J al,I J ki] 60)) (C #[I J k,Y u,I J al,I J ki] 60));simpa using q) (by intro u hu;simp at hu;rcases hu with rfl|rfl|rfl|rfl<;>rfl) Dc (by unfold maxLen;omega) O (by simpa using hsz) (w.heap.size+1+1) Sq ?_;intro g6 cap6 w6 h61 h62 h63 h64;obtain⟨e3,q3,hI6,hF6⟩:=HAP g6 cap6 w6 h61 h62;have HI6:=aN hI6;have HF6:=aN hF6;clear h61 h62 h63 h64 hI6 hF6);all_goals go_simp;go_wp2;go_returns;exact⟨X,HI6,HF6⟩
theorem o9(c n:Int)(b:Bool)(pl inn en dp:Int)(w:M)(sn:Sn->Ad)(hs:dC w sn):Cs prog 163 #[Ag #[I J c,I J n,Bo b,I J pl,I J inn,I J en],I J dp] w fun e w'=>e=Rt (if 12<dp then aX pl (sn .Deep)else .nilIface)/\H w.heap.size w w':=by
 have cD:=hs.cDeep;have hgl:=aw cD;simp only at hgl;by_cases h:12<dp
 ·rw[aG h];have HAT:Hi (∀wq,Cs prog 60 #[I J pl,If 291 (Po (U (sn .Deep)))] wq fun e w'=>e=Rt (aX pl (sn .Deep))/\w'=wq):=fun wq=>fR pl _ wq;unfold aX at HAT ⊢;go_enter func163,ntmps163;go_wp2_with fail;refine(HAT _).mono ?_;rintro e w1 ⟨rfl,rfl⟩;go_wp2;go_ret;exact⟨X,Be⟩
 rw[G h];have h':dp<=12:=O;clear h;go_enter func163,ntmps163;go_wp2;go_ret;exact⟨X,Be⟩
def expV(c n:Int)(b:Bool)(wc wn:Int)(wb:Bool)(pl dp:Int)(sn:Sn->Ad):Vv:=if¬(c=wc/\n=wn/\b=wb)then aX pl (sn .Tag)else if 12<dp then aX pl (sn .Deep)else .nilIface
theorem qJ(c n:Int)(b:Bool)(pl inn en:Int)(wc wn:Int)(wb:Bool)(dp:Int)(w:M)(sn:Sn->Ad)(hs:dC w sn):Cs prog 116 #[Ag #[I J c,I J n,Bo b,I J pl,I J inn,I J en],Ag #[I J wc,I J wn,Bo wb],I J dp] w fun e w'=>e=Rt (expV c n b wc wn wb pl dp sn)/\H w.heap.size w w':=by
 have cT:=hs.cTag;have hgl:=aw cT;simp only at hgl;have HS:Hi (dC w sn):=hs;have HB0:Hi (∀A B,H w.heap.size w ((w.alloc A).alloc B)):=fun A B=>((aY w.heap.size w).alloc Ln A).alloc Sq B;by_cases q:c=wc/\n=wn/\b=wb
 ·have HE:Hi (expV c n b wc wn wb pl dp sn=if 12<dp then aX pl (sn .Deep)else .nilIface):=by show expV _ _ _ _ _ _ _ _ _=_;unfold expV;rw[G (fun h=>h q)]
  obtain⟨rfl,rfl,rfl⟩:=q;have HND:Hi (∀wq,dC wq sn->Cs prog 163 #[Ag #[I J c,I J n,Bo b,I J pl,I J inn,I J en],I J dp] wq fun e w'=>e=Rt (expV c n b c n b pl dp sn)/\H wq.heap.size wq w'):=fun wq h=>by rw[HE.out];exact o9 c n b pl inn en dp wq sn h
  generalize expV c n b c n b pl dp sn=r at HND HE ⊢;clear hs;go_enter func116,ntmps116;go_wp2_with fail;refine(HND _ (HS.below (HB0 _ _))).mono ?_;rintro e w1 ⟨rfl,hb1⟩;have HB1:Hi (H w.heap.size w w1):=(HB0 _ _).trans (hb1.mono (HB0 _ _).size);clear hb1;go_wp2;go_ret;exact⟨X,HB1⟩
 have HE:Hi (expV c n b wc wn wb pl dp sn=aX pl (sn .Tag)):=by show expV _ _ _ _ _ _ _ _ _=_;unfold expV;rw[aG q]
 have HAT:Hi (∀wq,Cs prog 60 #[I J pl,If 291 (Po (U (sn .Tag)))] wq fun e w'=>e=Rt (aX pl (sn .Tag))/\w'=wq):=fun wq=>fR pl _ wq;have q':(c==wc)=false\/((c==wc)=true/\(n==wn)=false)\/((c==wc)=true/\(n==wn)=true/\(b==wb)=false):=by
  by_cases q1:c=wc
  ·by_cases q2:n=wn
   ·right;right;refine⟨by simp[q1],by simp[q2],?_⟩;rw[aD];exact fun q3=>q ⟨q1,q2,q3⟩
   right;left;exact⟨by simp[q1],by simp[q2]⟩
  left;simp[q1]
 rw[HE.out];unfold aX at HAT ⊢;clear hs q;rcases q' with e1|⟨e1,e2⟩|⟨e1,e2,e3⟩;all_goals go_enter func116,ntmps116;go_wp2_with fail;refine(HAT _).mono ?_;rintro e w1 ⟨rfl,rfl⟩;go_wp2;go_ret;exact⟨X,HB0 _ _⟩
theorem DT{s:Ls Nd}{i:Nat}{all:Bool}{ts:Ls (Int×Int)}(h:pQ s i all ts)(c m:Int):oQ s i c m↔(all=true\/(c,m)∈ts):=by
 obtain⟨_,h1,h2⟩:=h;rw[h1,h2];unfold oQ;constructor
 ·rintro⟨j,hj,hb⟩;rcases(ig _ _ _).1 hb with q|⟨q1,q2⟩
  ·exact .inl ⟨j,hj,q⟩
  exact .inr ⟨j,hj,q1,q2⟩
 rintro(⟨j,hj,q⟩|⟨j,hj,q1,q2⟩)
 ·exact⟨j,hj,(ig _ _ _).2 (.inl q)⟩
 exact⟨j,hj,(ig _ _ _).2 (.inr ⟨q1,q2⟩)⟩
theorem zK(s:Ls Nd)(gb i:Nat)(c m:Int)(w:M)(hA:Ak w gb s)(hi:i<s.length)(hn:s.length<=40):Cs prog 187 #[S (U (D gb 0 Z)) s.length s.length,I J i,Ag #[I J c,I J m]] w fun e w'=>dB (oQ s i c m) w e w':=by
 obtain⟨all,ta,tc,ts,p1,p2,p3,p4⟩:=hA i hi;have hi':(i:Int)<s.length:=O;have hb:=DT p4 c m;have hgl:=aw p1;simp only at hgl;cases all
 ·have HB:Hi (oQ s i c m↔(c,m)∈ts):=by show _↔_;rw[hb];simp
  obtain⟨r,hr⟩:=pC ((c,m)∈ts);have HR:Hi _:=hr;have HB1:Hi (H w.heap.size w (w.alloc (C #[I J c,I J m] 147))):=Be;have HCN:Hi (∀x:b7 (w.alloc (C #[I J c,I J m] 147)),Cs prog 180 #[S ta ts.length tc,Ag #[I J c,I J m]] x.v fun e w''=>e=Rt (Bo r)/\∃y:b7 (w.alloc (C #[I J c,I J m] 147)),w''=y.v):=fun x=>b7.callsR hr (nK ts ta tc (c,m) x.v (p3.below (b7.bel HB1 x)) p4.1);have X0:∀x:b7 (w.alloc (C #[I J c,I J m] 147)),x.v.cell? (D gb (i*2) Z)=U (Bo false):=fun x=>x.old p1;have X1:∀x:b7 (w.alloc (C #[I J c,I J m] 147)),x.v.cell? (D gb (i*2+1) Z)=U (S ta ts.length tc):=fun x=>x.old p2;have X2:∀x:b7 (w.alloc (C #[I J c,I J m] 147)),x.v.cell? (D w.heap.size 0 Z)=U (I J c):=fun x=>x.new X;have X3:∀x:b7 (w.alloc (C #[I J c,I J m] 147)),x.v.cell? (D w.heap.size 1 Z)=U (I J m):=fun x=>x.new X;clear hA hb hr p3 p4;go_enter func187,ntmps187;go_wp2_with fail;(have ne:=eX;refine bP Kr Kr ?_;(repeat(first|go_big_quiet_skip|(go_big_quiet_want;go_big_quiet_op;first|go_big_quiet_on|(apply Exists.intro;refine⟨fun x=>?_,?_⟩;(·(exact HCN x));go_big_quiet_on))));refine dW ?_);intro w5 hb5;have HB5:Hi _:=HB1.trans (hb5.mono HB1.size);clear X0 X1 X2 X3 hb5;go_wp2;go_ret;exact iD (HR.trans HB.symm) HB5
 have HB:Hi _:=hb.2 (.inl X);clear hA hb p3 p4;go_enter func187,ntmps187;go_wp2_with fail;go_quiet (fail);go_wp2;go_ret;exact bS HB (Go.below_drewN Be _)
theorem GX(d:Q)(x y:Nat)(hxy:x<=y)(hy:y<=d.size):(d.extract 0 y).extract x (d.extract 0 y).size=d.extract x y:=by
 have hs:(d.extract 0 y).size=y:=by rw[fB];omega
 rw[hs];apply bC;rw[pw,pw,pw];apply Array.ext';rw[ss,ss,ss,nj,nj,nj];rw[gE,Hz,List.drop_take,sv];congr 1;omega
def dw(h:Hd)(x:Nat):Vv:=Ag #[I J h.c,I J h.n,Bo h.b,I J x,I J ((x:Int)+h.s),I J ((x:Int)+h.s+h.l)]
def rp:Vv:=Ag #[I J 0,I J 0,Bo false,I J 0,I J 0,I J 0]
theorem ml(W w:M)(R:Nat)(a:Oo Ad)(n c gb0:Nat)(data:Q)(tree:Ls Vl)(x y:Nat)(sn:Sn->Ad)(h:gh W w R a n c gb0 data tree)(hs:dC w sn)(hxy:x<=y)(hy:y<=data.size)(hm:data.size<=140737488355328):Cs prog 114 #[Po (U (D R 0 Z)),I J x,I J y] w fun e w'=>H w.heap.size w w'/\(((hd (data.extract x y)).1=0/\e=Rt (Tu #[dw (hd (data.extract x y)).2 x,.nilIface]))\/((hd (data.extract x y)).1≠0/\e=Rt (Tu #[rp,iZ x sn (hd (data.extract x y)).1]))):=by
 have r2:=h.r2;have hRl:R<w.heap.size:=aw r2;have hsz0:(data.extract 0 y).size=y:=by rw[fB];omega
 obtain⟨ag,hG⟩:∃ag,hd (data.extract x y)=ag:=Ey;obtain⟨ge,gc,gb,gn,gs,gl⟩:=ag;have HRD:Hi (∀wq,dC wq sn->Cs prog 156 #[Y (data.extract 0 y),I J x] wq fun e w'=>e=Rt (Tu #[Ag #[I J gc,Bo gb,I J gn,I J gs,I J gl],iZ x sn ge])/\H wq.heap.size wq w'):=fun wq q=>by have:=ri (data.extract 0 y) x wq sn q O O;rw[GX data x y hxy hy,hG]at this;exact this
 have HFO:Hi (∀wq,Cs prog 157 #[Ag #[I J gc,Bo gb,I J gn,I J gs,I J gl]] wq fun e w'=>e=Rt (Ag #[I J gc,I J gn,Bo gb])/\H wq.heap.size wq w'):=fun wq=>o5 gc gb gn gs gl wq;have HS:Hi (dC w sn):=hs;have HOKH:Hi (ge=0->1<=gs/\0<=gl/\gs+gl<=(data.extract x y).size):=fun q=>by have:=i3 (r:=data.extract x y) (by rw[hG];exact q);rw[hG]at this;exact this
 have hsz1:(data.extract x y).size=y-x:=by rw[fB];omega
 rw[hG];simp only;have hxy':(x:Int)<=y:=O;have hy':(y:Int)<=data.size:=O;clear hG h hs;go_enter func114,ntmps114;go_wp2_with fail;refine(HRD _ (HS.below Be)).mono ?_;rintro e w1 ⟨rfl,hb1⟩;have HB1:Hi (H w.heap.size w w1):=aT hb1;have HG1:Hi (w1.heap[w.heap.size]? =U (C #[I J 0,I J 0,Bo false,I J 0,I J 0,I J 0] 151 (0,0))):=ax (aA w _) hb1;have hs1:w.heap.size<w1.heap.size:=bm HG1;have z0:w1.cell? (D w.heap.size 0 Z)=U (I J 0):=cell_of_row HG1 X;have z1:w1.cell? (D w.heap.size 1 Z)=U (I J 0):=cell_of_row HG1 X;have z2:w1.cell? (D w.heap.size 2 Z)=U (Bo false):=cell_of_row HG1 X;have z3:w1.cell? (D w.heap.size 3 Z)=U (I J 0):=cell_of_row HG1 X;have z4:w1.cell? (D w.heap.size 4 Z)=U (I J 0):=cell_of_row HG1 X;have z5:w1.cell? (D w.heap.size 5 Z)=U (I J 0):=cell_of_row HG1 X;have f0:w1.frozen? (D w.heap.size 0 Z)=false:=by simp[Wf,HG1.out]
 have f1:w1.frozen? (D w.heap.size 1 Z)=false:=by simp[Wf,HG1.out]
 have f2:w1.frozen? (D w.heap.size 2 Z)=false:=by simp[Wf,HG1.out]
 have f3:w1.frozen? (D w.heap.size 3 Z)=false:=by simp[Wf,HG1.out]
 have f4:w1.frozen? (D w.heap.size 4 Z)=false:=by simp[Wf,HG1.out]
 have f5:w1.frozen? (D w.heap.size 5 Z)=false:=by simp[Wf,HG1.out]
 clear hb1 r2;by_cases hge:ge=0
 ·subst hge;have e0:iZ x sn 0= .nilIface:=by unfold iZ;simp
  obtain⟨gs0,gl0,gsl⟩:=HOKH X;have gsl':(x:Int)+gs+gl<=140737488355328:=O;rw[e0];clear e0 HRD HS HOKH hsz0 hsz1 hxy hy hxy' hy' hm hRl;go_upto_region 4 with fail;have HX:Hi (H w.heap.size w (w1.alloc (C #[I J gc,Bo gb,I J gn,I J gs,I J gl] 179))):=HB1.alloc HB1.size _;have hZ:(w1.alloc (C #[I J gc,Bo gb,I J gn,I J gs,I J gl] 179)).heap[w.heap.size]? =U (C #[I J 0,I J 0,Bo false,I J 0,I J 0,I J 0] 151 (0,0)):=(bM w1 _ _ hs1).trans HG1;have hH:(w1.alloc (C #[I J gc,Bo gb,I J gn,I J gs,I J gl] 179)).heap[w1.heap.size]? =U (C #[I J gc,Bo gb,I J gn,I J gs,I J gl] 179 (0,0)):=aA w1 _;clear z0 z1 z2 z3 z4 z5 f0 f1 f2 f3 f4 f5;generalize w1.alloc (C #[I J gc,Bo gb,I J gn,I J gs,I J gl] 179)=wX at HX hZ hH ⊢;obtain⟨hb,hhb⟩:∃hb,w1.heap.size=hb:=Ey;rw[hhb]at hH hs1 ⊢;have hne:w.heap.size≠hb:=O;clear hhb HG1 HB1;have HZ:=aN hZ;have HH:=aN hH;have h3:wX.cell? (D hb 3 Z)=U (I J gs):=cell_of_row hH X;have hbl:hb<wX.heap.size:=bm hH;clear hZ hH;go_upto_region 5 with fail;have HSS:Hi (∀w':M,w'.heap[hb]? =U (C #[I J gc,Bo gb,I J gn,I J gs,I J gl] 179 (0,0))->w'.cell? (D hb 0 Z)=U (I J gc)/\w'.cell? (D hb 1 Z)=U (Bo gb)/\w'.cell? (D hb 2 Z)=U (I J gn)/\w'.cell? (D hb 3 Z)=U (I J gs)/\w'.cell? (D hb 4 Z)=U (I J gl)):=fun w' q=>⟨cell_of_row q X,cell_of_row q X,cell_of_row q X,cell_of_row q X,cell_of_row q X⟩;obtain⟨p0,p1,p2,p3,p4⟩:=HSS _ HH;clear h3;go_region_held_law (fun w'=>w'.cell? (D hb 0 Z)=U (I J gc)/\w'.cell? (D hb 1 Z)=U (Bo gb)/\w'.cell? (D hb 2 Z)=U (I J gn)/\w'.cell? (D hb 3 Z)=U (I J gs)/\w'.cell? (D hb 4 Z)=U (I J gl)) (go_keep) ((go_at_call 157;refine(HFO _).mono ?_;rintro e w2 ⟨rfl,hb2⟩;have hH2:=ax (w:=wX.drew) HH hb2;have hZ2:=ax (w:=wX.drew) HZ hb2;have HB2:=aN (HX.drew.trans (hb2.mono HX.drew.size));obtain⟨q0,q1,q2,q3,q4⟩:=HSS _ hH2;have hlh:=bm hH2;have hlz:=bm hZ2;clear hH2;have z0:=cell_of_row (i:=0) hZ2 X;have z1:=cell_of_row (i:=1) hZ2 X;have z2:=cell_of_row (i:=2) hZ2 X;have z3:=cell_of_row (i:=3) hZ2 X;have z4:=cell_of_row (i:=4) hZ2 X;have z5:=cell_of_row (i:=5) hZ2 X;have f0:=eQ (i:=0) hZ2;have f1:=eQ (i:=1) hZ2;have f2:=eQ (i:=2) hZ2;have f3:=eQ (i:=3) hZ2;have f4:=eQ (i:=4) hZ2;have f5:=eQ (i:=5) hZ2;clear hb2 hZ2));have hwr:IntKind.i64.wrap ((x:Int)+gs+gl)=(x:Int)+gs+gl:=by simp[IntKind.wrap,IntKind.bits,IntKind.signed];omega
  rw[hwr];clear hwr p0 p1 p2 p3 p4 q0 q1 q2 q3 q4;go_wp2_with fail;refine aS (v:=Tu #[dw ⟨gc,gb,gn,gs,gl⟩ x,.nilIface]) (by simp[results,results114,go_sem,dw,z0,z1,z2,z3,z4,z5]) X ?_;refine⟨?_,by first|exact .inl ⟨X,X⟩|rfl⟩;exact(((((HB2.setCell (p:=D w.heap.size 0 Z) Ln _).setCell (p:=D w.heap.size 1 Z) Ln _).setCell (p:=D w.heap.size 2 Z) Ln _).setCell (p:=D w.heap.size 3 Z) Ln _).setCell (p:=D w.heap.size 4 Z) Ln _).setCell (p:=D w.heap.size 5 Z) Ln _
 have HGE:Hi (ge≠0):=hge;obtain⟨za,hv⟩:∃za,iZ x sn ge=aX x za:=by unfold iZ;rw[G hge];(repeat' split);all_goals exact⟨_,X⟩
 have HV:Hi (iZ x sn ge=aX x za):=hv;rw[hv];unfold aX;clear hge hv HFO HRD HS HOKH hsz0 hsz1 hxy hy hxy' hy' hm hRl;go_upto_region 3 with fail;have HX:Hi (H w.heap.size w (w1.alloc (C #[I J gc,Bo gb,I J gn,I J gs,I J gl] 179))):=HB1.alloc HB1.size _;have hZ:(w1.alloc (C #[I J gc,Bo gb,I J gn,I J gs,I J gl] 179)).heap[w.heap.size]? =U (C #[I J 0,I J 0,Bo false,I J 0,I J 0,I J 0] 151 (0,0)):=(bM w1 _ _ hs1).trans HG1;clear z0 z1 z2 z3 z4 z5 f0 f1 f2 f3 f4 f5;generalize w1.alloc (C #[I J gc,Bo gb,I J gn,I J gs,I J gl] 179)=wX at HX hZ ⊢;have z0:wX.cell? (D w.heap.size 0 Z)=U (I J 0):=cell_of_row hZ X;have z1:wX.cell? (D w.heap.size 1 Z)=U (I J 0):=cell_of_row hZ X;have z2:wX.cell? (D w.heap.size 2 Z)=U (Bo false):=cell_of_row hZ X;have z3:wX.cell? (D w.heap.size 3 Z)=U (I J 0):=cell_of_row hZ X;have z4:wX.cell? (D w.heap.size 4 Z)=U (I J 0):=cell_of_row hZ X;have z5:wX.cell? (D w.heap.size 5 Z)=U (I J 0):=cell_of_row hZ X;have f0:wX.frozen? (D w.heap.size 0 Z)=false:=by simp[Wf,hZ]
 have f1:wX.frozen? (D w.heap.size 1 Z)=false:=by simp[Wf,hZ]
 have f2:wX.frozen? (D w.heap.size 2 Z)=false:=by simp[Wf,hZ]
 have f3:wX.frozen? (D w.heap.size 3 Z)=false:=by simp[Wf,hZ]
 have f4:wX.frozen? (D w.heap.size 4 Z)=false:=by simp[Wf,hZ]
 have f5:wX.frozen? (D w.heap.size 5 Z)=false:=by simp[Wf,hZ]
 clear hZ hs1;go_wp2_with fail;refine aS (v:=Tu #[rp,aX x za]) (by simp[results,results114,go_sem,rp,aX,z0,z1,z2,z3,z4,z5]) X ?_;refine⟨?_,.inr ⟨HGE,by rw[HV.out]⟩⟩;exact(((((HX.setCell (p:=D w.heap.size 0 Z) Ln _).setCell (p:=D w.heap.size 1 Z) Ln _).setCell (p:=D w.heap.size 2 Z) Ln _).setCell (p:=D w.heap.size 3 Z) Ln _).setCell (p:=D w.heap.size 4 Z) Ln _).setCell (p:=D w.heap.size 5 Z) Ln _
structure PC(E:cw)(W:M)(a:Oo Ad)(gb:Nat)(sn:Sn->Ad):Prop where
 sch:ju W a E.s
 right:cd E.s
 sok:ie E.s
 bg:∀i,i<E.s.length->∀c m,E.bg i c m=true↔oQ E.s i c m
 ok:∀k t,E.ok k t=true↔aR k t
 size:E.d.size<=4000
 ab:Ak W gb E.s
 lay:ls W sn
def df(E:cw)(W:M)(R:Nat)(a:Oo Ad)(c gb:Nat)(sn:Sn->Ad)(o:dM)(tree:Ls Vl)(w:M)(e:Ending)(w':M):Prop:=
 Fr R w w'/\((∃vs z,o= .ok (vs,z)/\e=Rt .nilIface/\gh W w' R a E.s.length c gb E.d (tree++vs))\/
  ∃k q tree',o= .error (k,q)/\e=Rt (aX q (sn (wM k)))/\gh W w' R a E.s.length c gb E.d tree')
theorem df.of{E:cw}{W:M}{R:Nat}{a:Oo Ad}{c gb:Nat}{sn:Sn->Ad}{o:dM}{tree:Ls Vl}{w w1 w':M}{e:Ending}(h:df E W R a c gb sn o tree w1 e w')(hf:Fr R w w1):df E W R a c gb sn o tree w e w':=⟨hf.trans h.1,h.2⟩
def lD(E:cw)(W:M)(R:Nat)(a:Oo Ad)(c gb:Nat)(sn:Sn->Ad)(f:Nat):Prop:=
 ∀(i x y:Nat) (g:Hd) (dp:Int) (o:dM) (tree:Ls Vl) (w:M),E.hd x y=(0,g)->dJ E f i x y dp=U o->i<E.s.length->x<=y->y<=E.d.size->1<=dp->dp<=13->du tree f x y->gh W w R a E.s.length c gb E.d tree->
  Cs prog 78 #[Po (U (D R 0 Z)),I J i,I J dp,dw g x] w fun e w'=>df E W R a c gb sn o tree w e w'
abbrev gC(g:Hd)(x:Nat):Array Vv:=#[I J g.c,I J g.n,Bo g.b,I J x,I J ((x:Int)+g.s),I J ((x:Int)+g.s+g.l)]
theorem DN(E:cw)(W:M)(R:Nat)(a:Oo Ad)(c gb:Nat)(sn:Sn->Ad)(hc:PC E W a gb sn)(g:Hd)(x tz:Nat)(dp:Int)(tree:Ls Vl)(w:M)(htz:(tz:Int)=(x:Int)+g.s+g.l)(hxz:x<=tz)(hz:tz<=E.d.size)(hroom:tree.length<=1099511627776)(hI:gh W w R a E.s.length c gb E.d tree):Cs prog 159 #[Po (U (D R 0 Z)),I J dp,dw g x] w fun e w'=>df E W R a c gb sn (if 12<dp then .error (10,x)else .ok ([⟨14,E.d.extract x tz,0,0⟩],tz)) tree w e w':=by
 have HI:Hi (gh W w R a E.s.length c gb E.d tree):=hI;have HND:Hi (∀wq,H w.heap.size w wq->Cs prog 163 #[Ag (gC g x),I J dp] wq fun e w'=>e=Rt (if 12<dp then aX x (sn .Deep)else .nilIface)/\H wq.heap.size wq w'):=fun wq q=>o9 _ _ _ _ _ _ _ wq sn ((hc.lay.below hI.bel).below q).s;have HAD:Hi (∀wq,gh W wq R a E.s.length c gb E.d tree->Cs prog 162 #[Po (U (D R 0 Z)),Ag #[I J 14,Y (E.d.extract x tz),I J 0,I J 0]] wq fun e' w'=>e'=Rt (Tu #[])/\gh W w' R a E.s.length c gb E.d (tree++[⟨14,E.d.extract x tz,0,0⟩])/\Fr R wq w'):=fun wq q=>me W wq R a _ c gb E.d tree 14 _ 0 0 q hroom;have hRl:R<w.heap.size:=aw hI.r0;have hds:=hc.size;unfold dw;rw[<-htz];unfold gC at HND;rw[<-htz]at HND;clear hI hc hroom htz;by_cases hdp:12<dp
 ·rw[aG hdp];have HND':Hi (∀wq,H w.heap.size w wq->Cs prog 163 #[Ag #[I J g.c,I J g.n,Bo g.b,I J x,I J ((x:Int)+g.s),I J tz],I J dp] wq fun e w'=>e=Rt (aX x (sn .Deep))/\H wq.heap.size wq w'):=fun wq q=>by have:=HND wq q;rw[aG hdp]at this;exact this
  unfold aX at HND';clear HND hdp;go_enter func159,ntmps159;go_wp2_with fail;refine(HND' _ Be).mono ?_;rintro e w1 ⟨rfl,hb1⟩;have HB1:Hi (H w.heap.size w w1):=aT hb1;clear hb1;go_wp2;go_ret;exact⟨Fr.of_below HB1,.inr ⟨10,x,tree,X,X,HI.below HB1⟩⟩
 rw[G hdp];have HND':Hi (∀wq,H w.heap.size w wq->Cs prog 163 #[Ag #[I J g.c,I J g.n,Bo g.b,I J x,I J ((x:Int)+g.s),I J tz],I J dp] wq fun e w'=>e=Rt .nilIface/\H wq.heap.size wq w'):=fun wq q=>by have:=HND wq q;rw[G hdp]at this;exact this
 clear HND hdp;have hxz':(x:Int)<=tz:=O;have hz':(tz:Int)<=E.d.size:=O;go_enter func159,ntmps159;go_wp2_with fail;refine(HND' _ Be).mono ?_;rintro e w1 ⟨rfl,hb1⟩;have HB1:Hi (H w.heap.size w w1):=aT hb1;have HG1:Hi (w1.heap[w.heap.size]? =U (C #[I J g.c,I J g.n,Bo g.b,I J x,I J ((x:Int)+g.s),I J tz] 151 (0,0))):=ax (aA w _) hb1;have HI1:Hi (gh W w1 R a E.s.length c gb E.d tree):=HI.below HB1;clear hb1;have q1:w1.cell? (D R 2 Z)=U (Y E.d):=HI1.out.r2;have q2:w1.cell? (D w.heap.size 3 Z)=U (I J x):=cell_of_row HG1 X;have q3:w1.cell? (D w.heap.size 5 Z)=U (I J tz):=cell_of_row HG1 X;have hR1:R<w1.heap.size:=aw q1;have hB1:w.heap.size<w1.heap.size:=aw q2;have hne:w.heap.size≠R:=O;go_upto_region 4 with fail;go_region_held_law (fun w'=>w'.cell? (D R 2 Z)=U (Y E.d)/\w'.cell? (D w.heap.size 3 Z)=U (I J x)/\w'.cell? (D w.heap.size 5 Z)=U (I J tz)) (go_keep) ((go_at_call 162;refine(HAD _ (HI1.below (By).drew)).mono ?_;rintro e w3 ⟨rfl,hI3,hF3⟩;have p1:=hI3.r2;have hG3:=hF3 _ _ _ hne Dc HG1;have p2:w3.cell? (D w.heap.size 3 Z)=U (I J x):=cell_of_row hG3 X;have p3:w3.cell? (D w.heap.size 5 Z)=U (I J tz):=cell_of_row hG3 X;have HI3:=aN hI3;have HF3:Hi (Fr R w w3):=(Fr.of_below (HB1.drew)).trans hF3;clear hI3 hF3 hG3));go_wp2;go_ret;exact⟨HF3,.inl ⟨_,_,X,X,HI3⟩⟩
abbrev fe(n:Nd)(ka:Oo Ad)(kc:Nat):Array Vv:=#[I J n.kind,I J n.tag,I J n.mode,S ka n.kids.length kc]
theorem Cy(E:cw)(W:M)(R:Nat)(a:Oo Ad)(c gb:Nat)(sn:Sn->Ad)(f:Nat)(hc:PC E W a gb sn)(hN:lD E W R a c gb sn f)(i:Nat)(hi:i<E.s.length)(ka:Oo Ad)(kc:Nat)(hka:be W ka (nd E.s i).kids)(hkc:(nd E.s i).kids.length<=kc)(g:Hd)(x tz:Nat)(dp:Int)(o:dM)(tree:Ls Vl)(w:M)(hg:E.hd x tz=(0,g))(hm:bU E (dJ E f) g x tz dp (nd E.s i).kids 0=U o)(hxz:x<=tz)(hz:tz<=E.d.size)(hd1:1<=dp)(hd2:dp<=13)(hroom:du tree (f+1) x tz)(hI:gh W w R a E.s.length c gb E.d tree):Cs prog 158 #[Po (U (D R 0 Z)),Ag (fe (nd E.s i) ka kc),I J dp,dw g x] w fun e w'=>df E W R a c gb sn o tree w e w':=by
 have HC:Hi (PC E W a gb sn):=hc;have HN:Hi (lD E W R a c gb sn f):=hN;have HG:Hi (E.hd x tz=(0,g)):=hg;have HKI:Hi (be W ka (nd E.s i).kids):=hka;have HM:Hi (bU E (dJ E f) g x tz dp ((nd E.s i).kids.drop 0) 0=U o):=hm;have HI:Hi (gh W w R a E.s.length c gb E.d tree):=hI;have hRl:R<w.heap.size:=aw hI.r0;have HRO:Hi (du tree (f+1) x tz):=hroom;have HKR:Hi (∀j,j<(nd E.s i).kids.length->∃t:Nat,(kd (nd E.s i) j).node=t/\t<E.s.length):=fun j hj=>by have:=hc.right.fine.within i hi _ (fU hj);exact⟨(kd (nd E.s i) j).node.toNat,O,O⟩
 have hk8:=hc.right.fine.eight i hi;have hs40:=hc.right.fine.len;have HAT:Hi (∀wq,Cs prog 60 #[I J x,If 291 (Po (U (sn .Tag)))] wq fun e w'=>e=Rt (aX x (sn .Tag))/\w'=wq):=fun wq=>fR x _ wq;unfold aX at HAT;have HA:Hi (∀A B,H w.heap.size w ((w.alloc A).alloc B)):=fun A B=>((aY w.heap.size w).alloc Ln A).alloc Sq B;clear hc hN hka hm hI hroom hi hg;unfold dw fe;go_enter func158,ntmps158;go_wp2;generalize hW0:(w.alloc (C #[I J (nd E.s i).kind,I J (nd E.s i).tag,I J (nd E.s i).mode,S ka (nd E.s i).kids.length kc] 58)).alloc (C #[I J g.c,I J g.n,Bo g.b,I J x,I J ((x:Int)+g.s),I J ((x:Int)+g.s+g.l)] 151)=w0;have HB0:Hi (H w.heap.size w w0):=by show H w.heap.size w w0;rw[<-hW0];exact HA _ _
 have HG2:Hi (w0.heap[w.heap.size+1]? =U (C (gC g x) 151 (0,0))):=by show w0.heap[w.heap.size+1]? =_;rw[<-hW0];have q:=aA (w.alloc (C #[I J (nd E.s i).kind,I J (nd E.s i).tag,I J (nd E.s i).mode,S ka (nd E.s i).kids.length kc] 58)) (C (gC g x) 151);simpa using q
 have HI0:Hi (gh W w0 R a E.s.length c gb E.d tree):=HI.below HB0;clear hW0 HA;go_loopw [14] (fun vj wq=>∃j:Nat,j<=(nd E.s i).kids.length/\vj=I J j/\bU E (dJ E f) g x tz dp ((nd E.s i).kids.drop j) j=U o/\H w0.heap.size w0 wq) (fun vj _=>(nd E.s i).kids.length-(Io vj).toNat);case atStart=>exact⟨0,Lz,X,HM,By⟩
 obtain⟨j,hj,rfl,hmj,hbr⟩:=hrel;have HMJ:Hi (bU E (dJ E f) g x tz dp ((nd E.s i).kids.drop j) j=U o):=hmj;have HB:Hi (H w0.heap.size w0 wr):=hbr;have HIr:Hi (gh W wr R a E.s.length c gb E.d tree):=HI0.below hbr;have HFr:Hi (Fr R w wr):=(Fr.of_below HB0).below hbr;have HR2:Hi (wr.heap[w.heap.size+1]? =U (C (gC g x) 151 (0,0))):=ax HG2 hbr;have hB2:w.heap.size+1<wr.heap.size:=bm HR2;clear hmj hbr;by_cases hlt:j<(nd E.s i).kids.length
 ·have hlt':(j:Int)<(nd E.s i).kids.length:=O;obtain⟨kb,ko,rfl,kcl⟩:=HKI j hlt;obtain⟨t,ht,htl⟩:=HKR j hlt;obtain⟨k1,k2,k3⟩:=kcl.below HIr.bel;obtain⟨ko2,hko2⟩:∃b,((nd E.s i).kids.getD j j6).opt=b:=Ey;obtain⟨kd2,hkd2⟩:∃b,((nd E.s i).kids.getD j j6).dflt=b:=Ey;have ht2:((nd E.s i).kids.getD j j6).node=t:=ht;rw[ht2]at k1;rw[hko2]at k2;rw[hkd2]at k3;have htn:(kd (nd E.s i) j).node.toNat=t:=O;have HT:Hi ((kd (nd E.s i) j).node.toNat=t):=htn;have hkbl:kb<wr.heap.size:=aw k1;clear kcl ht htn ht2 hko2 hkd2;go_upto_region 4 with fail;generalize hW4:wr.alloc (C #[I J t,Bo ko2,Y kd2] 55)=w4;have HB4:Hi (H wr.heap.size wr w4):=by show H wr.heap.size wr w4;rw[<-hW4];exact Be
  have HK4:Hi (w4.heap[wr.heap.size]? =U (C #[I J t,Bo ko2,Y kd2] 55 (0,0))):=by show w4.heap[wr.heap.size]? =_;rw[<-hW4];exact aA wr _
  have HS4:Hi (w4.heap[w.heap.size+1]? =U (C (gC g x) 151 (0,0))):=ax HR2 HB4;have HI4:Hi (gh W w4 R a E.s.length c gb E.d tree):=HIr.below HB4;clear hW4 k1 k2 k3;have HBG:Hi (∀x:b7 w4,Cs prog 187 #[S (U (D gb 0 Z)) E.s.length E.s.length,I J t,Ag #[I J g.c,I J g.n]] x.v fun e w''=>e=Rt (Bo (E.bg t g.c g.n))/\∃y:b7 w4,w''=y.v):=fun x=>b7.callsR (HC.bg t htl g.c g.n) (zK E.s gb t g.c g.n x.v (HC.ab.below (HI4.bel.trans (x.h.mono HI4.bel.size))) htl hs40);have X0:∀x:b7 w4,x.v.cell? (D R 1 Z)=U (S (U (D gb 0 Z)) E.s.length E.s.length):=fun x=>x.cell HI4.r1;have X2:∀x:b7 w4,x.v.cell? (D wr.heap.size 0 Z)=U (I J t):=fun x=>x.cell (cell_of_row HK4 X);have X3:∀y:b7 w4,y.v.cell? (D (w.heap.size+1) 0 Z)=U (I J g.c):=fun y=>y.cell (cell_of_row HS4 X);have X4:∀y:b7 w4,y.v.cell? (D (w.heap.size+1) 1 Z)=U (I J g.n):=fun y=>y.cell (cell_of_row HS4 X);(have ne:=eX;refine bP Kr Kr ?_;(repeat(first|go_big_quiet_skip|(go_big_quiet_want;go_big_quiet_op;first|go_big_quiet_on|(apply Exists.intro;refine⟨fun x=>?_,?_⟩;(·(exact HBG x));go_big_quiet_on))));refine dW ?_);intro w5 hb5;have HB5:Hi (H wr.heap.size wr w5):=HB4.trans (hb5.mono HB4.size);have HI5:Hi (gh W w5 R a E.s.length c gb E.d tree):=HI4.below hb5;have HF5:Hi (Fr R w w5):=HFr.below HB5;have HK5:Hi (w5.heap[wr.heap.size]? =U (C #[I J t,Bo ko2,Y kd2] 55 (0,0))):=ax HK4 hb5;have HS5:Hi (w5.heap[w.heap.size+1]? =U (C (gC g x) 151 (0,0))):=ax HS4 hb5;clear X0 X2 X3 X4 hb5 HBG HB4 HK4 HS4 HI4;cases hbg:E.bg t g.c g.n
  ·have HNX:Hi (bU E (dJ E f) g x tz dp ((nd E.s i).kids.drop (j+1)) (j+1)=U o):=qz hlt HMJ (by rw[HT.out];exact hbg);clear hbg;go_wp2;go_roundw;case rel=>exact⟨j+1,O,Gn,HNX,HB.trans (HB5.mono HB.size)⟩
   case measure=>exact Ms
  obtain⟨o',hr,ho⟩:=oX hlt HMJ (by rw[HT.out];exact hbg);rw[HT.out]at hr;have HREC:Hi (dJ E f t x tz dp=U o'):=hr;have HO:Hi ((∃u,o'= .error u/\o= .error u)\/∃vs z,o'= .ok (vs,z)/\o= .ok (⟨13,bh,j,1⟩::vs,tz)):=ho;clear hbg hr ho;have hl1:tree.length<=1099511627776:=by have:=HRO.out;unfold du at this;omega
  have HRO2:Hi (du (tree++[⟨13,⟨#[]⟩,(j:Int),1⟩]) f x tz):=by show du _ _ _ _;have:=HRO.out;unfold du at this ⊢;simp only[aQ,aU,bD];omega
  have hkl:wr.heap.size<w5.heap.size:=bm HK5;have hne1:wr.heap.size≠R:=by have:=HB0.out.size;have:=HB.out.size;omega
  have hne2:w.heap.size+1≠R:=O;go_wp2_with fail;refine(me W _ R a E.s.length c gb E.d tree 13 ⟨#[]⟩ j 1 HI5 hl1).mono ?_;rintro e w6 ⟨rfl,hI6,hf6⟩;have HI6:Hi (gh W w6 R a E.s.length c gb E.d (tree++[⟨13,⟨#[]⟩,(j:Int),1⟩])):=hI6;have HF6:Hi (Fr R w w6):=HF5.trans hf6;have hK6:=hf6 _ _ _ hne1 Dc HK5;have hS6:=hf6 _ _ _ hne2 Dc HS5;have m0:w6.cell? (D wr.heap.size 0 Z)=U (I J t):=cell_of_row hK6 X;have s0:w6.cell? (D (w.heap.size+1) 0 Z)=U (I J g.c):=cell_of_row hS6 X;have s1:w6.cell? (D (w.heap.size+1) 1 Z)=U (I J g.n):=cell_of_row hS6 X;have s2:w6.cell? (D (w.heap.size+1) 2 Z)=U (Bo g.b):=cell_of_row hS6 X;have s3:w6.cell? (D (w.heap.size+1) 3 Z)=U (I J x):=cell_of_row hS6 X;have s4:w6.cell? (D (w.heap.size+1) 4 Z)=U (I J ((x:Int)+g.s)):=cell_of_row hS6 X;have s5:w6.cell? (D (w.heap.size+1) 5 Z)=U (I J ((x:Int)+g.s+g.l)):=cell_of_row hS6 X;clear hI6 hf6 hK6 hS6;go_wp2_with fail;refine(HN t x tz g dp o' _ _ HG HREC htl hxz hz hd1 hd2 HRO2 HI6).mono ?_;rintro e w7 ha7;have HA7:Hi (df E W R a c gb sn o' (tree++[⟨13,⟨#[]⟩,(j:Int),1⟩]) w6 e w7):=ha7;clear ha7 m0 s0 s1 s2 s3 s4 s5;have HFIN:Hi (∀e,df E W R a c gb sn o' (tree++[⟨13,⟨#[]⟩,(j:Int),1⟩]) w6 e w7->df E W R a c gb sn o tree w e w7):=fun e q=>by
   obtain⟨q1,q2⟩:=q;refine⟨HF6.trans q1,?_⟩;rcases HO with⟨u,hu,ho⟩|⟨vs,z,hu,ho⟩
   ·rcases q2 with⟨vs,z,q3,_⟩|⟨k,q,tr,q3,q4,q5⟩
    ·rw[hu]at q3;cases q3
    exact .inr ⟨k,q,tr,by rw[ho,<-hu,q3],q4,q5⟩
   rcases q2 with⟨vs',z',q3,q4,q5⟩|⟨k,q,tr,q3,_⟩
   ·rw[hu]at q3;cases q3;refine .inl ⟨_,_,ho,q4,?_⟩;rw[bE]at q5;exact q5
   rw[hu]at q3;cases q3
  have hcase:(e=Rt .nilIface)\/∃q z,e=Rt (aX q z):=by
   rcases HA7.2 with⟨_,_,_,q4,_⟩|⟨k,q,_,_,q4,_⟩
   ·exact .inl q4
   exact .inr ⟨q,_,q4⟩
  rcases hcase with rfl|⟨q,za,rfl⟩
  ·go_wp2;go_ret;exact HFIN _ HA7
  unfold aX;go_wp2;go_ret;exact HFIN _ HA7
 have hlt':¬(j:Int)<(nd E.s i).kids.length:=O;have ho:o= .error (4,(x:Int)):=by have q:=HMJ.out;rw[eA O]at q;unfold bU at q;cases q;rfl
 have HO:Hi (o= .error (4,(x:Int))):=ho;have cT:=(HC.lay.below HIr.bel).s.cTag;have hgl:=aw cT;simp only at hgl;have s3:wr.cell? (D (w.heap.size+1) 3 Z)=U (I J x):=cell_of_row HR2 X;clear ho;go_wp2_with fail;refine(HAT _).mono ?_;rintro e w6 ⟨rfl,rfl⟩;go_wp2;go_ret;exact⟨HFr,.inr ⟨4,x,tree,HO,X,HIr⟩⟩
end Go.Proofs.YtkkicodfpekbgaaGreatDoor
namespace Go.Proofs.YtkkicodfpekbgaaGreatDoor
open Go.RowKit
theorem dk.bump{W w:M}{R:Nat}{a:Oo Ad}{n c:Nat}{data:Q}{tree acc:Ls Vl}{v:Vl}{e p:Int}(h:dk W w R a n c data (tree++v::acc) e p):∃g cap,w.cell? (D R 2 Z)=U (S (U (D g 0 Z)) (tree++v::acc).length cap)/\w.cell? (D g (tree.length*4+3) Z)=U (I J v.kids)/\w.frozen? (D g (tree.length*4+3) Z)=false/\∀k:Int,dk W (w.setCell (D g (tree.length*4+3) Z) (I J k)) R a n c data (tree++⟨v.kind,v.text,v.alt,k⟩::acc) e p/\Fr R w (w.setCell (D g (tree.length*4+3) Z) (I J k)):=by
 obtain⟨hb,hlo,vt,hr,ho⟩:=h;obtain⟨g,cap,rfl⟩:∃g cap,vt=S (U (D g 0 Z)) (tree++v::acc).length cap:=by obtain⟨g,cap,q⟩:=ho.form (by simp only[aQ,aU];omega);exact⟨g,cap,q.1⟩
 have hgR:g≠R:=fun q=>cA hr ho Dc (by simp[Value.ownBlock,q]);have hlt:=(ho.lt g X);have hT:∃cur,w.heap[g]? =U (C cur 60 (0,0)):=by
  rcases ho.2 with⟨q,_⟩|⟨g',cap',cur,q,_,q2,_⟩
  ·cases q
  injection q with q;injection q with q;injection q with q;subst q;exact⟨cur,q2⟩
 refine⟨g,cap,?_,?_,?_,fun k=>⟨⟨hb.setCell hlt.1 _,hlo,S (U (D g 0 Z)) (tree++v::acc).length cap,?_,?_⟩,?_⟩⟩
 ·unfold eh at hr;simp[Wc,hr]
 ·rw[ho.cellAt _ (by simp only[aQ,aU];omega)];exact tK tree v acc
 ·exact ho.frozenAt _
 ·rw[aP _ _ _ _ (Ne.symm hgR)];exact hr
 ·have:=(ho.stored (tree.length*4+3) (I J k)).1;rw[rG]at this;simpa using this
 intro j A T hj hTn hA;obtain⟨cur,hcur⟩:=hT;have hne:j≠g:=fun q=>by subst q;rw[hcur]at hA;injection hA with hA;injection hA with _ q _;exact hTn q.symm
 rw[aP _ _ _ _ hne];exact hA
def vI(r:cP)(n:Nat):Except Int Q:=
 match r with
 |none=> .error 11
 |some (b,x,u)=>if x<n then .error 11 else if 4000<b.size then .error 2 else if u=true then .error 8 else .ok b
def Fo(E:dF)(s:Ls Nd)(root:Int)(t:Ls Vl)(v:Except Int Q):Prop:=
 (¬(cd s/\0<=root/\root<s.length)/\v= .error 1)\/
 ((cd s/\0<=root/\root<s.length)/\E.s=s/\E.t=t/\(∀k u,E.ok k u=true↔aR k u)/\∃f r,wrF E f root.toNat 0 1=U r/\v=vI r t.length)
def pX(w:M)(ta:Oo Ad)(t:Ls Vl):Prop:=∀j,j<t.length->∃g o,ta=U (D g o Z)/\w.cell? (D g (o+j*4) Z)=U (I J (vl t j).kind)/\w.cell? (D g (o+j*4+1) Z)=U (Y (vl t j).text)/\w.cell? (D g (o+j*4+2) Z)=U (I J (vl t j).alt)/\w.cell? (D g (o+j*4+3) Z)=U (I J (vl t j).kids)
theorem pX.below{w w':M}{ta:Oo Ad}{t:Ls Vl}(h:pX w ta t)(hb:H w.heap.size w w'):pX w' ta t:=fun j hj=>by obtain⟨g,o,e,h1,h2,h3,h4⟩:=h j hj;exact⟨g,o,e,(hb.cell (aw h1)).trans h1,(hb.cell (aw h2)).trans h2,(hb.cell (aw h3)).trans h3,(hb.cell (aw h4)).trans h4⟩
end Go.Proofs.YtkkicodfpekbgaaGreatDoor
namespace Go.Proofs.YtkkicodfpekbgaaGreatDoor
theorem Bl{s:Ls Nd}{i j:Nat}(ho:¬(nd s i).opn)(hr:j4 s i j):j=i:=
 j4.ind (P:=fun j=>j=i) X (fun m k _ hop _ ih=>Ab (ih▸hop) ho) hr
def H6(n:Nd):Int×Int:=if 0<=n.tag then(2,n.tag)else(0,own n.kind)
def GE(s:Ls Nd)(i:Nat):Ls (Int×Int):=if(nd s i).opnB then(nd s i).kids.map (fun k=>H6 (nd s k.node.toNat))else [H6 (nd s i)]
def xe(s:Ls Nd):Prop:=∀i,(nd s i).kind≠14/\((nd s i).opn->∀k∈(nd s i).kids,¬(nd s k.node.toNat).opn)
def E7(s:Ls Nd):Bool:=s.all fun n=>decide (n.kind≠14)&&(!n.opnB||n.kids.all fun k=> !(nd s k.node.toNat).opnB)
theorem Fe(s:Ls Nd)(i:Nat):nd s i∈s\/nd s i=Iq:=by
 unfold nd;rw[aB];by_cases h:i<s.length
 ·rw[aC h];exact .inl (bz _)
 rw[eL O];exact .inr X
theorem D3{s:Ls Nd}(h:E7 s=true):xe s:=fun i=>by
 rcases Fe s i with hm|e
 ·have:=List.all_eq_true.1 h _ hm;rw[eb]at this;refine⟨ff this.1,fun ho k hk=>?_⟩;have h2:=this.2;rw[Nd.opnB_yes ho]at h2;have h3:=List.all_eq_true.1 h2 k hk;intro q;rw[Nd.opnB_yes q]at h3;cases h3
 rw[e];exact⟨Dc,fun ho=>Ab ho.1 Dc⟩
theorem nD{n:Nd}(h:n.kind≠14){c m:Int}:iW n c m↔(c,m)=H6 n:=by
 unfold iW H6;by_cases ht:0<=n.tag
 ·rw[aG ht];constructor
  ·rintro(⟨_,h1,h2⟩|⟨h1,_⟩|⟨h1,_⟩)
   ·rw[h1,h2]
   ·omega
   omega
  intro e;injection e with e1 e2;exact .inl ⟨ht,e1,e2⟩
 rw[G ht];constructor
 ·rintro(⟨h1,_⟩|⟨_,h1⟩|⟨_,_,h1,h2⟩)
  ·omega
  ·exact Ab h1 h
  rw[h1,h2]
 intro e;injection e with e1 e2;exact .inr (.inr ⟨O,h,e1,e2⟩)
theorem nG{s:Ls Nd}(hf:xe s){i:Nat}{c m:Int}:oQ s i c m↔(c,m)∈GE s i:=by
 unfold GE;by_cases ho:(nd s i).opn
 ·rw[aG (Nd.opnB_yes ho),List.mem_map];constructor
  ·rintro⟨j,⟨hr,hn⟩,hb⟩;have hc:j=i\/∃k∈(nd s i).kids,j=k.node.toNat:=j4.ind (P:=fun j=>j=i\/∃k∈(nd s i).kids,j=k.node.toNat) (.inl X) (fun m k _ hop hk ih=>by
    rcases ih with rfl|⟨k',hk',rfl⟩
    ·exact .inr ⟨k,hk,X⟩
    exact Ab hop ((hf i).2 ho k' hk')) hr
   rcases hc with rfl|⟨k,hk,rfl⟩
   ·exact Ab ho hn
   exact⟨k,hk,((nD (hf _).1).1 hb).symm⟩
  rintro⟨k,hk,e⟩;exact⟨k.node.toNat,⟨j4.refl.step ho hk,(hf i).2 ho k hk⟩,(nD (hf _).1).2 e.symm⟩
 rw[G (by rw[Nd.opnB_no ho];decide),List.mem_singleton];constructor
 ·rintro⟨j,⟨hr,_⟩,hb⟩;obtain rfl:=Bl ho hr;exact(nD (hf _).1).1 hb
 intro e;exact⟨i,⟨.refl,ho⟩,(nD (hf _).1).2 e⟩
def zR(k:Kd):Bool:= !k.opt&&decide (k.dflt.size=0)
def GZ(len:Nat)(n:Nd)(k:Kd):Bool:=decide (0<=k.node)&&decide (k.node<len)&&(zR k||decide (n.kind=10))&& !(k.opt&&decide (k.dflt.size≠0))
def CA(k:Int)(m:Nat):Bool:=if k=10 then decide (m<=8)else if k=11\/k=12 then decide (m=1)else if k=13 then decide (1<=m/\m<=8)else decide (m=0)
def xH(len:Nat)(n:Nd):Bool:=decide (1<=n.kind/\n.kind<=13/\ -1<=n.tag/\n.tag<=30/\(n.mode=0\/n.mode=1))&&decide (¬(n.mode=1/\n.tag= -1)/\¬(n.kind=13/\0<=n.tag/\n.mode=0))&&CA n.kind n.kids.length&&n.kids.all (GZ len n)
def Af(n:Nd)(k:Kd):Bool:=decide (n.kind=10)&&zR k
def Fj(s:Ls Nd)(n:Nd):Bool:=(List.range n.kids.length).all fun i=>Af n (kd n i)||(List.range n.kids.length).all fun k=>decide (k<=i)||(List.range k).any (fun j=>decide (i<j)&&Af n (kd n j))||(GE s (kd n i).node.toNat).all fun b=> !(GE s (kd n k).node.toNat).contains b
abbrev kR:Q:=⟨#[160,3,2,1,0]⟩
abbrev lB:Q:=⟨#[1,1,0]⟩
abbrev Fk:Q:=⟨#[0]⟩
def FM(s:Ls Nd)(k:Kd):Bool:=decide (k.dflt.size=0)||(decide (k.dflt=kR)&&decide ((nd s k.node.toNat).kind=2/\(nd s k.node.toNat).tag=0/\(nd s k.node.toNat).mode=1))||(decide (k.dflt=lB)&&decide ((nd s k.node.toNat).kind=1/\(nd s k.node.toNat).tag= -1/\(nd s k.node.toNat).mode=0))
def Dd(s:Ls Nd):Bool:=decide (1<=s.length/\s.length<=40)&&E7 s&&s.all (xH s.length)&&s.all (fun n=>(n.kids.all fun k=> !n.opnB||decide ((nd s k.node.toNat).kind≠13))&&Fj s n&&n.kids.all (FM s))
theorem sU(k:Kd):zR k=true↔k.must:=by unfold zR Kd.must;simp
theorem tH(n:Nd)(k:Kd):Af n k=true↔n.stops k:=by unfold Af Nd.stops;rw[eb,sU];simp
theorem D1{n:Nd}(h1:n.kind=2)(h2:n.tag=0)(h3:n.mode=1):cu n kR Fk:=by
 obtain⟨a,b,c,d⟩:=n;simp only at h1 h2 h3;subst h1 h2 h3;exact(fE (fun q=>Ab q (by show¬(0:Int)<0;decide)) (.inr X)).2 ⟨X,(eM _).1 ⟨Ln,Dc,fun h=>Ab h Dc⟩⟩
theorem D0{n:Nd}(h1:n.kind=1)(h2:n.tag= -1)(h3:n.mode=0):cu n lB Fk:=by
 obtain⟨a,b,c,d⟩:=n;simp only at h1 h2 h3;subst h1 h2 h3;exact(fE (fun q=>rfl) (.inl X)).2 ⟨X,(gx _).1 ⟨X,.inl X⟩⟩
theorem Cp{len:Nat}{n:Nd}(h:xH len n=true):fw len n:=by
 unfold xH at h;simp only[eb,eD]at h;obtain⟨⟨⟨h1,h2⟩,h3⟩,h4⟩:=h;refine⟨by unfold iN;omega,by unfold il;omega,?_,fun j hj=>?_⟩
 ·unfold CA at h3;unfold dr;repeat' split at h3
  all_goals simp only[eD]at h3
  ·rw[aG As];exact h3
  ·rename_i a b;rw[G a,aG b];exact h3
  ·rename_i a b c;rw[G a,G b,aG c];exact h3
  rename_i a b c;rw[G a,G b,G c];exact h3
 have:=List.all_eq_true.1 h4 _ (fU hj);unfold GZ at this;simp only[eb,eH,eD,sU]at this;refine⟨this.1.1.1,this.1.1.2,this.1.2,fun q=>?_⟩;have h5:=this.2;rw[q.1,aM q.2]at h5;cases h5
theorem nW{s:Ls Nd}(h:Dd s=true):cd s/\xe s:=by
 unfold Dd at h;simp only[eb,eD]at h;obtain⟨⟨⟨hl,hf⟩,ha⟩,hk⟩:=h;have hF:=D3 hf;have hmem:∀i,i<s.length->nd s i∈s:=fun i hi=>by unfold nd;rw[aB,aC hi];exact bz _
 have hall:∀i,i<s.length->(∀k∈(nd s i).kids,(nd s i).opn->(nd s k.node.toNat).kind≠13)/\Fj s (nd s i)=true/\∀k∈(nd s i).kids,FM s k=true:=fun i hi=>by have:=List.all_eq_true.1 hk _ (hmem i hi);simp only[eb]at this;refine⟨fun k hk2 ho=>?_,this.1.2,List.all_eq_true.1 this.2⟩;have h3:=List.all_eq_true.1 this.1.1 k hk2;rw[Nd.opnB_yes ho]at h3;exact ff h3
 refine⟨⟨hl.1,hl.2,fun i hi=>Cp (List.all_eq_true.1 ha _ (hmem i hi)),fun i hi=>?_,fun i hi=>⟨fun _ a haa=>?_,fun j hj=>?_⟩⟩,hF⟩
 ·rintro⟨j,hr,ho,k,hk2,e⟩;have hij:j=i\/∃k∈(nd s i).kids,(nd s i).opn/\j=k.node.toNat:=j4.ind (P:=fun j=>j=i\/∃k∈(nd s i).kids,(nd s i).opn/\j=k.node.toNat) (.inl X) (fun m k _ hop hk ih=>by
   rcases ih with rfl|⟨k',hk',ho',rfl⟩
   ·exact .inr ⟨k,hk,hop,X⟩
   exact Ab hop ((hF i).2 ho' k' hk')) hr
  rcases hij with rfl|⟨k',hk',ho',rfl⟩
  ·have:=(hall j hi).1 k hk2 ho;rw[e,br]at this;exact this ho.1
  exact(hF i).2 ho' k' hk' ho
 ·have h1:=List.all_eq_true.1 (hall i hi).2.1 a (List.mem_range.2 haa);rw[eH,tH]at h1;rcases h1 with h1|h1
  ·exact .inl h1
  refine .inr fun k hak hkm hns=>?_;have h2:=List.all_eq_true.1 h1 k (List.mem_range.2 hkm);rw[eH,eH,eD]at h2;rcases h2 with(h2|h2)|h2
  ·omega
  ·obtain⟨j,hj,h3⟩:=List.any_eq_true.1 h2;rw[eb,eD,tH]at h3;exact Ab h3.2 (hns j h3.1 (List.mem_range.1 hj))
  rintro⟨c,m,_,_,_,_,b1,b2⟩;have b1':=(nG hF).1 b1;have b2':=(nG hF).1 b2;have h3:=List.all_eq_true.1 h2 _ b1';rw[zr,List.contains_eq_mem,jA]at h3;exact h3 b2'
 have h1:=(hall i hi).2.2 _ (fU hj);unfold FM at h1;simp only[eH,eb,eD]at h1;rcases h1 with(h1|⟨h1,h2,h3,h4⟩)|⟨h1,h2,h3,h4⟩
 ·exact .inl h1
 ·exact .inr ⟨O,_,by rw[h1];exact D1 h2 h3 h4⟩
 exact .inr ⟨O,_,by rw[h1];exact D0 h2 h3 h4⟩
theorem nZ{s:Ls Nd}(h:(s.all fun n=>n.kids.all fun k=>decide (k.dflt.size<=140737488351232))=true):ie s:=fun i hi k hk=>by
 have hm:nd s i∈s:=by unfold nd;rw[aB,aC hi];exact bz _
 have:=List.all_eq_true.1 (List.all_eq_true.1 h _ hm) k hk;exact ff this
def cS:Ls Nd:=[⟨10, -1,0,[⟨1,false,kR⟩,⟨2,false,bh⟩,⟨3,false,bh⟩,⟨6,false,bh⟩,⟨8,false,bh⟩,⟨9,true,bh⟩]⟩,⟨2,0,1,[]⟩,⟨2, -1,0,[]⟩,⟨13, -1,0,[⟨4,false,bh⟩,⟨5,false,bh⟩]⟩,⟨8, -1,0,[]⟩,⟨7, -1,0,[]⟩,⟨10, -1,0,[⟨7,false,bh⟩,⟨7,false,bh⟩]⟩,⟨9, -1,0,[]⟩,⟨5, -1,0,[]⟩,
 ⟨11,3,1,[⟨10,false,bh⟩]⟩,⟨10, -1,0,[⟨11,false,bh⟩,⟨12,false,lB⟩,⟨13,false,bh⟩]⟩,⟨4, -1,0,[]⟩,⟨1, -1,0,[]⟩,⟨6, -1,0,[]⟩]
def lS:Ls Nd:=[⟨10, -1,0,[⟨1,false,lB⟩,⟨2,true,bh⟩]⟩,⟨1, -1,0,[]⟩,⟨2, -1,0,[]⟩]
theorem jz:cd cS/\xe cS:=nW (by decide+kernel)
theorem nR:cd lS/\xe lS:=nW (by decide+kernel)
theorem Cv:ie cS:=nZ (by decide+kernel)
theorem Fb:ie lS:=nZ (by decide+kernel)
end Go.Proofs.YtkkicodfpekbgaaGreatDoor
namespace Go.Proofs.YtkkicodfpekbgaaGreatDoor
open Go.Proofs.Tryz
open Go.RowKit
theorem vH(c:Int)(b:Bool)(n:Int)(s:Q)(w:M)(q1:0<=c)(q2:c<=3)(q3:0<=n)(q4:n<=30)(hs:s.size<=16777215):Cs prog 83 #[I J c,Bo b,I J n,Y s] w fun e w'=>e=Rt (Y (eN c b n s))/\H w.heap.size w w':=by
 have HT:Hi (∀wq,Cs prog 130 #[I J c,Bo b,I J n,I J s.size] wq fun e w'=>e=Rt (Y ⟨(Uo (fb ⟨c,b,n,0,s.size⟩).toNat::tl s.size).toArray⟩)/\H wq.heap.size wq w'):=fun wq=>Ci ⟨c,b,n,0,s.size⟩ wq q1 q2 q3 q4 (by show(0:Int)<=s.size;omega) (by show(s.size:Int)<=16777215;omega);have hts:(⟨(Uo (fb ⟨c,b,n,0,s.size⟩).toNat::tl s.size).toArray⟩:Q).size<=5:=by have h:=Dp s.size;show(Uo _::tl s.size).toArray.size<=5;rw[dy,aU];omega
 have hel:Hi (eN c b n s=⟨(Uo (fb ⟨c,b,n,0,s.size⟩).toNat::tl s.size).toArray⟩++s):=X;rw[hel.out];clear hel;generalize(⟨(Uo (fb ⟨c,b,n,0,s.size⟩).toNat::tl s.size).toArray⟩:Q)=t at HT hts;go_enter func83,ntmps83;go_wp2_with fail;refine(HT _).mono ?_;rintro e w1 ⟨rfl,hb1⟩;have HB1:=aN hb1;clear hb1;go_wp2;go_ret;exact⟨X,HB1⟩
def Hu(a:Oo Ad)(n c:Nat)(ta:Oo Ad)(tn tc:Nat)(x:Nat)(no tu:Bool):Obj:=C #[S a n c,S ta tn tc,I J x,Bo no,Bo tu] 133 (0,0)
structure GS(W w:M)(R:Nat)(a:Oo Ad)(n c:Nat)(ta:Oo Ad)(tn tc:Nat)(x:Nat)(no tu:Bool):Prop where
 bel:H W.heap.size W w
 lo:W.heap.size<=R
 own:w.heap[R]? =U (Hu a n c ta tn tc x no tu)
theorem GS.below{W w w':M}{R:Nat}{a:Oo Ad}{n c:Nat}{ta:Oo Ad}{tn tc x:Nat}{no tu:Bool}(h:GS W w R a n c ta tn tc x no tu)(hb:H w.heap.size w w'):GS W w' R a n c ta tn tc x no tu:=
 ⟨h.bel.trans (hb.mono h.bel.size),h.lo,ax h.own hb⟩
def BJ(R:Nat)(w w':M):Prop:=∀(k:Nat) (o:Obj),k≠R->w.heap[k]? =U o->w'.heap[k]? =U o
theorem BJ.refl(R:Nat)(w:M):BJ R w w:=fun _ _ _ h=>h
theorem BJ.trans{R:Nat}{w w1 w2:M}(h:BJ R w w1)(k:BJ R w1 w2):BJ R w w2:=fun j o hj hg=>k j o hj (h j o hj hg)
theorem BJ.of_below{R:Nat}{w w':M}(h:H w.heap.size w w'):BJ R w w':=fun _ _ _ hg=>ax hg h
theorem BJ.set{R:Nat}{w:M}(i:Nat)(u:Vv):BJ R w (w.setCell (D R i Z) u):=fun j o hj hg=>by rw[aP _ _ _ _ hj];exact hg
def xd(E:dF)(W:M)(R:Nat)(a:Oo Ad)(c:Nat)(ta:Oo Ad)(tc:Nat)(r:cP)(x0:Nat)(u0:Bool)(w:M)(e:Ending)(w':M):Prop:=
 BJ R w w'/\((∃b x u,r=U (b,x,u)/\e=Rt (Y b)/\b.size+pz E.t x0<=pz E.t x/\x<=E.t.length/\GS W w' R a E.s.length c ta E.t.length tc x false (u0||u))\/
  (r=Z/\∃b x u,e=Rt (Y b)/\b.size+pz E.t x0<=pz E.t x/\x<=E.t.length/\GS W w' R a E.s.length c ta E.t.length tc x true u))
theorem xd.of{E:dF}{W:M}{R:Nat}{a:Oo Ad}{c:Nat}{ta:Oo Ad}{tc:Nat}{r:cP}{x0:Nat}{u0:Bool}{w w1 w':M}{e:Ending}(h:xd E W R a c ta tc r x0 u0 w1 e w')(hf:BJ R w w1):xd E W R a c ta tc r x0 u0 w e w':=⟨hf.trans h.1,h.2⟩
end Go.Proofs.YtkkicodfpekbgaaGreatDoor
