/-
Several texts in one.
-/
import Derived.Test.YtkkicodfpekbgaaGreatDoorJf5
import Derived.Test.YtkkicodfpekbgaaGreatDoorJf2
open Go.Value renaming int->I,string->Y,slice->S,bool->Bo,agg->Ag,tuple->Tu
open Go.IntKind renaming i64->J
open Go.Obj renaming cells->C
open Go.Ending renaming returned->Rt
open Option renaming some->U,none->Z
open Go renaming World->M,Calls->Cs,Addr->Ad,Value->Vv
open _root_ renaming ByteArray->Q,Option->Oo,List->Ls
open Go.RowKit renaming Below->H,intOf->Io,Hid->Hi
open Go.Addr renaming mk->D
set_option linter.unusedSimpArgs false
set_option linter.unusedVariables false
set_option maxRecDepth 100000
set_option maxHeartbeats 8000000
namespace Go.Proofs.YtkkicodfpekbgaaGreatDoor
open Go.Proofs.Tryz
open Go.RowKit
def dS:Ls Nd:=[⟨10, -1,0,[⟨1,false,kR⟩,⟨2,false,bh⟩,⟨3,false,bh⟩,⟨4,false,bh⟩,⟨5,false,bh⟩,⟨6,true,bh⟩]⟩,⟨2,0,1,[]⟩,⟨2, -1,0,[]⟩,⟨13, -1,0,[⟨7,false,bh⟩,⟨8,false,bh⟩]⟩,⟨10, -1,0,[⟨9,false,bh⟩,⟨9,false,bh⟩]⟩,⟨5, -1,0,[]⟩,⟨11,3,1,[⟨10,false,bh⟩]⟩,⟨8, -1,0,[]⟩,⟨7, -1,0,[]⟩,
 ⟨9, -1,0,[]⟩,⟨10, -1,0,[⟨11,false,bh⟩,⟨12,false,lB⟩,⟨13,false,bh⟩]⟩,⟨4, -1,0,[]⟩,⟨1, -1,0,[]⟩,⟨6, -1,0,[]⟩]
theorem qG:cd dS/\xe dS:=nW (by decide+kernel)
theorem GW:ie dS:=nZ (by decide+kernel)
def pD(i:Nat):Nat:=[0,1,2,3,7,8,4,9,5,6,10,11,12,13].getD i i
theorem uD(i:Nat)(hi:i<14):nd dS (pD i)=⟨(nd cS i).kind,(nd cS i).tag,(nd cS i).mode,(nd cS i).kids.map (wW pD)⟩:=by rcases(show i=0\/i=1\/i=2\/i=3\/i=4\/i=5\/i=6\/i=7\/i=8\/i=9\/i=10\/i=11\/i=12\/i=13 by omega)with rfl|rfl|rfl|rfl|rfl|rfl|rfl|rfl|rfl|rfl|rfl|rfl|rfl|rfl<;>rfl
theorem Hc:∀i:Fin 14,pD i.val<14:=Dc
theorem Hb:∀i:Fin 14,GE dS (pD i.val)=GE cS i.val:=by decide+kernel
theorem A6{E1 E2:cw}(h1:E1.s=cS)(h2:E2.s=dS)(hd:E2.d=E1.d)(e1:gp E1)(e2:gp E2):xf E1 E2 pD:=by
 have hlen:∀{i},i<E1.s.length->i<14:=fun {i} h=>by rw[h1]at h;exact h
 have hlen2:∀{i},i<14->pD i<E2.s.length:=fun {i} h=>by rw[h2];exact Hc ⟨i,h⟩
 have hw:∀i,i<E1.s.length->∀k∈(nd E1.s i).kids,k.node.toNat<E1.s.length:=fun i hi k hk=>by rw[h1]at hi hk ⊢;have:=jz.1.fine.within i hi k hk;omega
 refine⟨hd,fun k t=>fN.2 ((e2.ok k t).trans (e1.ok k t).symm),fun i hi=>?_,hw,fun i hi a b=>?_,fun i hi c m=>?_,fun i hi k hk hz=>?_⟩
 ·rw[h1,h2];exact uD i (hlen hi)
 ·rw[h1]at hi a b ⊢;exact jz.1.fine.one i hi O
 ·have q1:=e1.bg i hi c m;have q2:=e2.bg (pD i) (hlen2 (hlen hi)) c m;rw[h1,nG jz.2]at q1;rw[h2,nG qG.2,Hb ⟨i,hlen hi⟩]at q2;exact fN.2 (q2.trans q1.symm)
 obtain⟨u,a1,a2,_⟩:=e1.dv i hi k hk hz;have hm:wW pD k∈(nd E2.s (pD i)).kids:=by rw[h2,uD i (hlen hi)];rw[h1]at hk;exact List.mem_map_of_mem hk
 obtain⟨u',b1,b2,_⟩:=e2.dv (pD i) (hlen2 (hlen hi)) (wW pD k) hm hz;have hn:nd E2.s (wW pD k).node.toNat=⟨(nd E1.s k.node.toNat).kind,(nd E1.s k.node.toNat).tag,(nd E1.s k.node.toNat).mode,(nd E1.s k.node.toNat).kids.map (wW pD)⟩:=by rw[nQ,h1,h2];exact uD _ (hlen (hw i hi k hk))
 rw[hn]at b1 b2;have b1':cu (nd E1.s k.node.toNat) k.dflt u':=b1;rw[a2,b2,kG a1 b1']
theorem CB{E1:cw}{d:Q}{v:Except (Int×Int) (Ls Vl)}(h:my E1 cS 0 d v):∃E2,my E2 dS 0 d v:=by
 have hr:cd dS/\(0:Int)<=0/\(0:Int)<dS.length:=⟨qG.1,Dc,Dc⟩;rcases h with⟨q,_⟩|⟨_,z,rfl⟩|⟨_,z,hs,rfl,e1,f,hf,hv⟩
 ·exact Ab ⟨jz.1,Dc,Dc⟩ q
 ·exact⟨E1,.inr (.inl ⟨hr,z,X⟩)⟩
 obtain⟨E2,h2,hd,e2⟩:=yg dS E1.d qG.1;refine⟨E2,.inr (.inr ⟨hr,z,h2,hd,e2,f,hf,?_⟩)⟩;have ah:=A6 hs h2 hd e1 e2;have hi:=uH ah f 0 (by rw[hs];decide);rw[show pD 0=0 from rfl]at hi;unfold eI at hv ⊢;rw[hd];have e0:(0:Int).toNat=0:=X;rw[e0]at hv ⊢;rw[hi];exact hv
theorem tC(k:Int)(ka:Oo Ad)(n kc:Nat)(w:M):Cs prog 122 #[I J k,S ka n kc] w fun e w'=>e=Rt (Ag #[I J k,I J (-1),I J 0,S ka n kc])/\H w.heap.size w w':=by
 go_enter func122,ntmps122;go_wp2;exact aS (v:=Ag #[I J k,I J (-1),I J 0,S ka n kc]) (by simp[results,results122,go_sem]) X ⟨X,Be⟩
def uS:Ls Nd:=[⟨5, -1,0,[]⟩]
def xg(P:Prop)(w:M)(e:Ending)(w':M):Prop:=H w.heap.size w w'/\∃(x y:Vv) (c:Int),e=Rt (Tu #[x,y,I J c])/\(c=0↔P)
def pR(b:Q):Prop:=(∀wq g,ju wq (U (D g 0 Z)) lS->Cs prog 39 #[S (U (D g 0 Z)) 3 3,I J 0,Y b] wq fun e w'=>xg (ns b) wq e w')/\
 (∀wq g,ju wq (U (D g 0 Z)) uS->Cs prog 39 #[S (U (D g 0 Z)) 1 1,I J 0,Y b] wq fun e w'=>xg (lI b) wq e w')
def GN(m:fO)(w:M)(e:Ending)(w':M):Prop:=H w.heap.size w w'/\∃r k:Bool,e=Rt (Tu #[Bo r,Bo k])/\(k=true↔m.kind=mF\/m.kind=mG)/\(m.kind=mF->(r=true↔ns m.body))/\(m.kind=mG->(r=true↔lI m.body))
theorem Cu(m:fO)(w:M)(hbd:pR m.body):Cs prog 128 #[Ag #[Y m.kind,Bo m.must,Y m.body]] w fun e w'=>GN m w e w':=by
 obtain⟨mk,mm,mb⟩:=m;have HP:Hi _:=fun k ka n kc wq=>tC k ka n kc wq;obtain⟨hL,hU⟩:=hbd;have HL:Hi _:=hL;have HU:Hi _:=hU;clear hL hU;have HB0:∀o,Hi (H w.heap.size w (w.alloc o)):=fun o=>Be;have HX0:∀o,Hi ((w.alloc o).heap[w.heap.size]? =U o):=fun o=>aA w o;by_cases h1:mk=mF
 ·subst h1;go_enter func128,ntmps128;go_wp2_with fail;generalize hW0:w.alloc _=W0;have HX:Hi (W0.heap[w.heap.size]? =U (C #[Y mF,Bo mm,Y mb] 73 (0,0))):=by rw[<-hW0];exact HX0 _
  have HB:Hi (H w.heap.size w W0):=by rw[<-hW0];exact HB0 _
  have HWS:Hi (W0.heap.size=w.heap.size+1):=by show _=_;rw[<-hW0];simp
  clear hW0 HX0 HB0;refine(HP 10 _ _ _ _).mono ?_;rintro e w1 ⟨rfl,hb⟩;have hb0:H W0.heap.size W0 (W0.alloc (C (eR [⟨1,false,lB⟩,⟨2,true,bh⟩]).toArray 55)):=Be;have HK2:Hi (be w1 (U (D (w.heap.size+1) 0 Z)) [⟨1,false,lB⟩,⟨2,true,bh⟩]):=by have h:=(eF [⟨1,false,lB⟩,⟨2,true,bh⟩] W0).below hb;rw[HWS.out]at h;exact h
  have hc:H W0.heap.size W0 w1:=hb0.trans (hb.mono hb0.size);have HX:Hi _:=ax HX hc;have HB:Hi _:=HB.trans (hc.mono HB.size);clear hb hc hb0;go_wp2_with fail;refine(HP 1 _ _ _ _).mono ?_;rintro e w2 ⟨rfl,hc⟩;have HK2:Hi (be w2 (U (D (w.heap.size+1) 0 Z)) [⟨1,false,lB⟩,⟨2,true,bh⟩]):=HK2.below hc;have HX:Hi _:=ax HX hc;have HB:Hi _:=HB.trans (hc.mono HB.size);clear hc;go_wp2_with fail;refine(HP 2 _ _ _ _).mono ?_;rintro e w3 ⟨rfl,hc⟩;have HK2:Hi (be w3 (U (D (w.heap.size+1) 0 Z)) [⟨1,false,lB⟩,⟨2,true,bh⟩]):=HK2.below hc;have HX:Hi _:=ax HX hc;have HB:Hi _:=HB.trans (hc.mono HB.size);clear hc;have c2:w3.cell? (D w.heap.size 2 Z)=U (Y mb):=(iw HX 2).trans X;have l3:w.heap.size<w3.heap.size:=aw c2;have HSC:=i5 [(⟨10, -1,0,[⟨1,false,lB⟩,⟨2,true,bh⟩]⟩,U (D (w.heap.size+1) 0 Z),2),(⟨1, -1,0,[]⟩,Z,0),(⟨2, -1,0,[]⟩,Z,0)] w3 (cg Ln Dc HK2 (cg Ln Dc (fun j hj=>Ab hj (aO _)) (cg Ln Dc (fun j hj=>Ab hj (aO _)) nS)));have HSC:=HSC;have HS:Hi _:=HSC;clear HSC;go_wp2_with fail;refine(HL _ _ HS).mono ?_;rintro e w4 ⟨hb4,x,y,c,rfl,hc⟩;have HC:Hi _:=hc;have HB4:Hi (H w.heap.size w w4):=by have h3:=HB.alloc HB.size (C (j9 [(⟨10, -1,0,[⟨1,false,lB⟩,⟨2,true,bh⟩]⟩,U (D (w.heap.size+1) 0 Z),2),(⟨1, -1,0,[]⟩,Z,0),(⟨2, -1,0,[]⟩,Z,0)]).toArray 58);exact h3.trans (hb4.mono h3.size)
  clear hb4 hc;go_wp2;go_ret2;exact⟨HB4,_,_,X,⟨fun _=> .inl X,fun _=>rfl⟩,fun _=>by rw[<-HC.out];exact bV,fun q=>Ab q (show mF≠mG by decide)⟩
 by_cases h2:mk=mG
 ·subst h2;have b1:=gY h1;go_enter func128,ntmps128;go_wp2_with fail;generalize hW0:w.alloc _=W0;have HX:Hi (W0.heap[w.heap.size]? =U (C #[Y mG,Bo mm,Y mb] 73 (0,0))):=by rw[<-hW0];exact HX0 _
  have HB:Hi (H w.heap.size w W0):=by rw[<-hW0];exact HB0 _
  clear hW0 HX0 HB0;refine(HP 5 _ _ _ _).mono ?_;rintro e w3 ⟨rfl,hc⟩;have HX:Hi _:=ax HX hc;have HB:Hi _:=HB.trans (hc.mono HB.size);clear hc;have c2:w3.cell? (D w.heap.size 2 Z)=U (Y mb):=(iw HX 2).trans X;have l3:w.heap.size<w3.heap.size:=aw c2;have HS:Hi (ju (w3.alloc (C (j9 [(⟨5, -1,0,[]⟩,Z,0)]).toArray 58)) (U (D w3.heap.size 0 Z)) uS):=i5 [(⟨5, -1,0,[]⟩,Z,0)] w3 (cg Ln Dc (fun j hj=>Ab hj (aO _)) nS);go_wp2_with fail;refine(HU _ _ HS).mono ?_;rintro e w4 ⟨hb4,x,y,c,rfl,hc⟩;have HC:Hi _:=hc;have HB4:Hi (H w.heap.size w w4):=by have h3:=HB.alloc HB.size (C (j9 [(⟨5, -1,0,[]⟩,Z,0)]).toArray 58);exact h3.trans (hb4.mono h3.size)
  clear hb4 hc;go_wp2;go_ret2;exact⟨HB4,_,_,X,⟨fun _=> .inr X,fun _=>rfl⟩,fun q=>Ab q h1,fun _=>by rw[<-HC.out];exact bV⟩
 have b1:(mk.toList== [85,29,19])=false:=by have q:=gY h1;rwa[show mF.toList=[85,29,19]by rw[Lib.toList_data]]at q
 have b2:(mk.toList== [85,29,15])=false:=by have q:=gY h2;rwa[show mG.toList=[85,29,15]by rw[Lib.toList_data]]at q
 go_enter func128,ntmps128;go_wp2;go_ret2;exact⟨(HB0 _).out,_,_,X,⟨fun q=>Ab q gR,fun q=>q.elim (fun z=>Ab z h1) (fun z=>Ab z h2)⟩,fun q=>Ab q h1,fun q=>Ab q h2⟩
theorem bx{p:Prop}(h:p):Hi p:=h
theorem sN{m:fO}(h:gX m):aR 4 m.kind:=by
 rcases h with⟨h,_⟩|⟨h,_⟩|⟨_,_,h,_⟩
 ·rw[h];exact(fc _).1 (by unfold gI jD BP;decide)
 ·rw[h];exact(fc _).1 (by unfold gI jD BP;decide)
 exact h
def Ca(v:Int)(s n f t k:Q)(ms:Ls fO)(w:M)(e:Ending)(w':M):Prop:=
 H w.heap.size w w'/\((¬cN v s n f t k ms.length/\e=Rt (I J 12))\/(cN v s n f t k ms.length/\¬dd ms/\e=Rt (I J 13))\/(cN v s n f t k ms.length/\dd ms/\e=Rt (I J 0)))
theorem wj(v:Int)(s n f t k:Q)(ms:Ls fO)(ma:Oo Ad)(mc:Nat)(w:M)(hbd:∀j,j<ms.length->pR (ms.getD j iy).body)(hin:fj w ma ms)(z1:s.size<=140737488355328)(z2:n.size<=140737488355328)(z3:f.size<=140737488355328)(z4:t.size<=140737488355328)(z5:k.size<=140737488355328)(hZ:Hy ms)(hn:ms.length<=140737488351232)(hcap:ms.length<=mc):Cs prog 82 #[bW v s n f t k (S ma ms.length mc)] w fun e w'=>Ca v s n f t k ms w e w':=by
 have HBO:Hi _:=fun j wq hj=>Cu _ wq (hbd j hj);have HOI:Hi (∀j wq,j<ms.length->Cs prog 129 #[Y (ms.getD j iy).kind] wq fun e w'=>fi (gI (ms.getD j iy).kind) wq e w'):=fun j wq hj=>sI _ wq (by have:=(hZ j hj).1;omega);have HI:Hi _:=fun wq=>sH s wq O;have HU:Hi _:=fun wq=>qM n wq z2;have HF:Hi _:=fun wq=>m7 f wq O;have HT:Hi _:=fun wq=>m7 t wq O;have HK:Hi _:=fun wq=>qL k wq O;have HIN:=bx hin;clear hbd hin hZ;unfold bW;go_enter func82,ntmps82;go_wp2_with fail;generalize hW:w.alloc _=W;have hX:W.heap[w.heap.size]? =U (C #[I J v,Y s,Y n,Y f,Y t,Y k,S ma ms.length mc] 68 (0,0)):=by rw[<-hW];exact aA w _
 have HB:Hi (H w.heap.size w W):=by show H _ _ _;rw[<-hW];exact Be
 have HIW:Hi (fj W ma ms):=HIN.below HB;have c0:=(iw hX 0).trans X;have c1:=(iw hX 1).trans X;have c2:=(iw hX 2).trans X;have c3:=(iw hX 3).trans X;have c4:=(iw hX 4).trans X;have c5:=(iw hX 5).trans X;have c6:=(iw hX 6).trans X;have l0:w.heap.size<W.heap.size:=aw c0;clear hX hW HIN;refine(HI _).mono ?_;rintro e w1 ⟨r1,rfl,hr1,k1,rfl⟩;go_wp2_with fail;refine(HU _).mono ?_;rintro e w2 ⟨r2,rfl,hr2,k2,rfl⟩;go_wp2_with fail;refine(HF _).mono ?_;rintro e w3 ⟨r3,rfl,hr3,k3,rfl⟩;go_wp2_with fail;refine(HT _).mono ?_;rintro e w4 ⟨r4,rfl,hr4,k4,rfl⟩;go_wp2_with fail;refine(HK _).mono ?_;rintro e w5 ⟨r5,rfl,hr5,k5,rfl⟩;have HBD:Hi (∀q,H w.heap.size w (W.drewN q)):=fun q=>Go.below_drewN HB q;have HR1:=bx hr1;have HR2:=bx hr2;have HR3:=bx hr3;have HR4:=bx hr4;have HR5:=bx hr5;clear hr1 hr2 hr3 hr4 hr5 HI HU HF HT HK;go_upto_region 6 with fail;go_cut [74] (fun x wx=>(∃c:Bool,x=Bo c/\(c=false↔(0<=v/\v<=2/\iI s/\tN n/\ey f/\ey t/\(Op.bytesLess f.toList t.toList||f.toList==t.toList)=true/\gL k)))/\∃q,wx=W.drewN q)
 case first=>
  by_cases q0:v<0
  ·have d0:decide (v<0)=true:=aM q0;go_wp2;go_meet;exact⟨⟨true,X,⟨fun q=>(by cases q),fun q=>Ab q (fun q=>by have:=q.1;omega)⟩⟩,_,X⟩
  have d0:decide (v<0)=false:=aE q0;by_cases q1:2<v
  ·have d1:decide (2<v)=true:=aM q1;go_wp2;go_meet;exact⟨⟨true,X,⟨fun q=>(by cases q),fun q=>Ab q (fun q=>by have:=q.2.1;omega)⟩⟩,_,X⟩
  have d1:decide (2<v)=false:=aE q1
  cases r1 with
  |false=>
   go_wp2
   go_meet
   exact⟨⟨true,X,⟨fun q=>(by cases q),fun q=>Ab q (fun q=>Ab (HR1.2 q.2.2.1) gR)⟩⟩,_,X⟩
  |true=>
  cases r2 with
  |false=>
   go_wp2
   go_meet
   exact⟨⟨true,X,⟨fun q=>(by cases q),fun q=>Ab q (fun q=>Ab (HR2.2 q.2.2.2.1.2.2) gR)⟩⟩,_,X⟩
  |true=>
  cases r3 with
  |false=>
   go_wp2
   go_meet
   exact⟨⟨true,X,⟨fun q=>(by cases q),fun q=>Ab q (fun q=>Ab (HR3.2 q.2.2.2.2.1) gR)⟩⟩,_,X⟩
  |true=>
  cases r4 with
  |false=>
   go_wp2
   go_meet
   exact⟨⟨true,X,⟨fun q=>(by cases q),fun q=>Ab q (fun q=>Ab (HR4.2 q.2.2.2.2.2.1) gR)⟩⟩,_,X⟩
  |true=>
  cases r5 with
  |false=>
   go_wp2
   go_meet
   exact⟨⟨true,X,⟨fun q=>(by cases q),fun q=>Ab q (fun q=>Ab (HR5.2 q.2.2.2.2.2.2.2) gR)⟩⟩,_,X⟩
  |true=>
  have hz0:=oC n
  cases g7:n.toList.isEmpty with
  |true=>
   have HE:Hi _:=hz0.1 g7
   clear hz0
   go_wp2
   go_meet
   exact⟨⟨true,X,⟨fun q=>(by cases q),fun q=>Ab q (fun q=>by have:=q.2.2.2.1.1;have:=HE.out;omega)⟩⟩,_,X⟩
  |false=>
  have HE:Hi (n.size≠0):=fun q=>by rw[hz0.2 q]at g7;cases g7
  clear hz0;by_cases q8:64<n.size
  ·have d8:(64:Int)<n.size:=O;go_wp2;go_meet;exact⟨⟨true,X,⟨fun q=>(by cases q),fun q=>Ab q (fun q=>by have:=q.2.2.2.1.2.1;omega)⟩⟩,_,X⟩
  have d8:(n.size:Int)<=64:=O;have d9:decide ((64:Int)<n.size)=false:=aE O
  cases ga:Op.bytesLess f.toList t.toList with
  |true=>
   have HG:Hi ((Op.bytesLess f.toList t.toList||f.toList==t.toList)=true):=by show _=_;rw[ga];rfl
   go_wp2
   go_meet
   exact⟨⟨false,X,⟨fun _=>⟨O,O,HR1.out.1 (by first|rfl|trivial),⟨by have:=HE.out;omega,O,HR2.out.1 (by first|rfl|trivial)⟩,HR3.out.1 (by first|rfl|trivial),HR4.out.1 (by first|rfl|trivial),HG.out,HR5.out.1 (by first|rfl|trivial)⟩,fun _=>rfl⟩⟩,_,X⟩
  |false=>
  cases gb:(f.toList==t.toList)with
  |true=>
   have HG:Hi ((Op.bytesLess f.toList t.toList||f.toList==t.toList)=true):=by show _=_;rw[ga,gb];rfl
   go_wp2
   go_meet
   exact⟨⟨false,X,⟨fun _=>⟨O,O,HR1.out.1 (by first|rfl|trivial),⟨by have:=HE.out;omega,O,HR2.out.1 (by first|rfl|trivial)⟩,HR3.out.1 (by first|rfl|trivial),HR4.out.1 (by first|rfl|trivial),HG.out,HR5.out.1 (by first|rfl|trivial)⟩,fun _=>rfl⟩⟩,_,X⟩
  |false=>
   have HG:Hi ((Op.bytesLess f.toList t.toList||f.toList==t.toList)=false):=by show _=_;rw[ga,gb];rfl
   go_wp2
   go_meet
   exact⟨⟨true,X,⟨fun q=>(by cases q),fun q=>Ab q (fun q=>by have h:=q.2.2.2.2.2.2.1;rw[HG.out]at h;cases h)⟩⟩,_,X⟩
 case rest=>
  obtain⟨⟨cc,rfl,hcc⟩,kk,rfl⟩:=hcut;have HCC:=bx hcc;clear hcc HR1 HR2 HR3 HR4 HR5
  cases cc with
  |true=>
   go_wp2
   go_ret
   exact⟨HBD _,.inl ⟨fun q=>Ab (HCC.2 ⟨q.v0,q.v2,q.ser,q.nam,q.frm,q.til,q.ord,q.key⟩) Dc,X⟩⟩
  |false=>
  have HFL:=bx (HCC.1 X);clear HCC;go_upto_region 8 with fail;go_cut [89] (fun x wx=>(∃c:Bool,x=Bo c/\(c=false↔cN v s n f t k ms.length))/\∃q,wx=W.drewN q)
  case first=>
   obtain⟨e1,e2,e3,e4,e5,e6,e7,e8⟩:=HFL.out;by_cases qa:8<ms.length
   ·have da:(8:Int)<ms.length:=O;clear e1 e2 e3 e4 e5 e6 e7 e8;go_wp2;go_meet;exact⟨⟨true,X,⟨fun q=>(by cases q),fun q=>Ab q (fun q=>by have h:=q.mks;unfold oG at h;split at h<;>omega)⟩⟩,_,X⟩
   have da:(ms.length:Int)<=8:=O;have da2:decide ((8:Int)<ms.length)=false:=aE O;by_cases hp:0<ms.length
   ·have hp':(0:Int)<ms.length:=O;by_cases h2:v=2
    ·have HCO:Hi (cN v s n f t k ms.length):=⟨e1,e2,e3,e4,e5,e6,e7,e8,by unfold oG;rw[aG h2];exact da⟩;subst h2;clear e1 e2 e3 e4 e5 e6 e7 e8;go_wp2;go_meet;exact⟨⟨false,X,⟨fun _=>HCO,fun _=>rfl⟩⟩,_,X⟩
    have HN2:Hi (v≠2):=h2;(have b2:(v==2)=false:=by simp[h2]);(have b3:(v !=2)=true:=by simp[h2]);clear e1 e2 e3 e4 e5 e6 e7 e8;go_wp2;go_meet;exact⟨⟨true,X,⟨fun q=>(by cases q),fun q=>Ab q (fun q=>by have h:=q.mks;unfold oG at h;rw[G HN2.out]at h;omega)⟩⟩,_,X⟩
   have hp':(ms.length:Int)<=0:=O;have HCO:Hi (cN v s n f t k ms.length):=⟨e1,e2,e3,e4,e5,e6,e7,e8,by unfold oG;split<;>omega⟩;clear e1 e2 e3 e4 e5 e6 e7 e8;go_wp2;go_meet;exact⟨⟨false,X,⟨fun _=>HCO,fun _=>rfl⟩⟩,_,X⟩
  case rest=>
   obtain⟨⟨cc,rfl,hcc⟩,kq,rfl⟩:=hcut
   cases cc with
   |true=>
    have HN:Hi (¬cN v s n f t k ms.length):=fun q=>by cases hcc.2 q
    clear hcc
    go_wp2
    go_ret
    exact⟨HBD _,.inl ⟨HN,X⟩⟩
   |false=>
   have HCO:=bx (hcc.1 X);have HB0:Hi _:=HBD kq;clear hcc HFL HBD c0 c1 c2 c3 c4 c5;have hbW:H W.heap.size W (W.drewN kq):=Go.below_drewN By kq;have hc6:(W.drewN kq).cell? (D w.heap.size 6 Z)=U (S ma ms.length mc):=(hbW.cell l0).trans c6;have HI0:Hi (fj (W.drewN kq) ma ms):=HIW.below hbW;have HC6:=bx hc6;clear hbW hc6 c6 l0 HIW;generalize W.drewN kq=W0 at*;go_wp2_with fail;go_loopw [8] (fun vi wr=>∃j:Nat,j<=ms.length/\vi=I J j/\tM ms j/\H W0.heap.size W0 wr) (fun vi _=>ms.length-(Io vi).toNat);case atStart=>exact⟨0,Lz,X,fun i hi=>Ab hi (aO _),By⟩
   obtain⟨j,hj,rfl,hto,hbr⟩:=hrel;have HTO:=bx hto;have HBR:=bx hbr;have x6:wr.cell? (D w.heap.size 6 Z)=U (S ma ms.length mc):=(hbr.cell (aw HC6)).trans HC6;have l6:w.heap.size<wr.heap.size:=aw x6;have HBw:Hi _:=HB0.trans (hbr.mono HB0.size);clear hto hbr;by_cases hlt:j<ms.length
   ·have hlt':(j:Int)<ms.length:=O;obtain⟨g,o,rfl,d0,d1,d2⟩:=(HI0.below HBR) j hlt;have HBJ:=bx (fun wq=>HBO j wq hlt);have HOJ:=bx (fun wq=>HOI j wq hlt);obtain⟨m,hm⟩:∃m,ms.getD j iy=m:=Ey;rw[hm]at d0 d1 d2 HBJ HOJ;have HMM:=bx hm;have hgl:g<wr.heap.size:=aw d0;clear hm;go_wp2_with fail;refine(HBJ _).mono ?_;rintro e w1 ⟨hb1,rr,kn,rfl,hkn,hli,hus⟩;have HB1:Hi _:=aT hb1;have x0:w1.cell? (D wr.heap.size 0 Z)=U (Y m.kind):=b7.new (A:=#[Y m.kind,Bo m.must,Y m.body]) ⟨w1,hb1⟩ X;have x1:w1.cell? (D wr.heap.size 1 Z)=U (Bo m.must):=b7.new (A:=#[Y m.kind,Bo m.must,Y m.body]) ⟨w1,hb1⟩ X;have hl1:wr.heap.size<w1.heap.size:=aw x0;have HK:Hi ((kn=true↔m.kind=mF\/m.kind=mG)/\(m.kind=mF->(rr=true↔ns m.body))/\(m.kind=mG->(rr=true↔lI m.body))):=⟨hkn,hli,hus⟩;clear hb1 hkn hli hus d0 d1 d2;go_wp2_with fail;refine(HOJ _).mono ?_;rintro e w2 ⟨ro,rfl,hro,kz,rfl⟩;have HO:=bx hro;clear hro;obtain⟨mu,hmu⟩:∃mu,m.must=mu:=Ey;rw[hmu]at x1;have HMU:=bx hmu;clear hmu;obtain⟨xb,hxb⟩:∃xb,wr.heap.size=xb:=Ey;have x6':w1.cell? (D w.heap.size 6 Z)=U (S (U (D g o Z)) ms.length mc):=(HB1.cell l6).trans x6;have l61:w.heap.size<w1.heap.size:=aw x6';have HI1:Hi (fj w1 (U (D g o Z)) ms):=(HI0.below HBR).below HB1;have HB1w:Hi _:=HBR.trans (HB1.mono HBR.size);rw[hxb]at x0 x1 hl1 ⊢;clear hxb x6 l6 hgl HB1 HBw HBR;go_upto_region 16 with fail;go_cut [126] (fun x wx=>(∃c:Bool,x=Bo c/\(c=false↔gX m))/\∃q,wx=w1.drewN q)
    case first=>
     obtain⟨hk1,hk2,hk3⟩:=HK.out;have ho:=HO.out;have hmu:=HMU.out;by_cases hok:gX m
     ·have HOK:=bx hok;have hcs:ro=true/\((kn=true/\rr=true)\/(kn=false/\mu=false)):=by
       refine⟨ho.2 ((fc _).2 (sN hok)),?_⟩;rcases hok with⟨q1,q2⟩|⟨q1,q2⟩|⟨q1,q2,_,q4⟩
       ·exact .inl ⟨hk1.2 (.inl q1),(hk2 q1).2 q2⟩
       ·exact .inl ⟨hk1.2 (.inr q1),(hk3 q1).2 q2⟩
       exact .inr ⟨Bool.eq_false_iff.2 fun q=>(hk1.1 q).elim q1 q2,by rw[<-hmu];exact q4⟩
      clear hk1 hk2 hk3 ho hmu hok HK HO HMU;rcases hcs with⟨rfl,⟨rfl,rfl⟩|⟨rfl,rfl⟩⟩
      ·go_wp2;(all_goals go_meet);all_goals exact⟨⟨false,X,⟨fun _=>HOK,fun _=>rfl⟩⟩,_,X⟩
      go_wp2;(all_goals go_meet);all_goals exact⟨⟨false,X,⟨fun _=>HOK,fun _=>rfl⟩⟩,_,X⟩
     have HNO:=bx hok;have hcs:(kn=true/\rr=false)\/(kn=false/\mu=true)\/ro=false:=by
      cases hro:ro with
      |false=>exact .inr (.inr X)
      |true=>
       have hoid:=ho.1 hro
       cases hkn:kn with
       |true=>
        refine .inl ⟨X,Bool.eq_false_iff.2 fun q=>hok ?_⟩
        rcases hk1.1 hkn with q1|q1
        ·exact .inl ⟨q1,(hk2 q1).1 q⟩
        ·exact .inr (.inl ⟨q1,(hk3 q1).1 q⟩)
       |false=>
        refine .inr (.inl ⟨X,?_⟩)
        cases hmm:mu with
        |true=>rfl
        |false=>exact Ab (.inr (.inr ⟨fun q=>(by rw[hk1.2 (.inl q)]at hkn;cases hkn),fun q=>(by rw[hk1.2 (.inr q)]at hkn;cases hkn),(fc _).1 hoid,by rw[hmu];exact hmm⟩)) hok
     clear hk1 hk2 hk3 ho hmu hok HK HO HMU;rcases hcs with⟨rfl,rfl⟩|⟨rfl,rfl⟩|rfl
     ·go_wp2;(all_goals go_meet);all_goals exact⟨⟨true,X,⟨fun q=>Ab q Dc,fun q=>Ab q HNO⟩⟩,_,X⟩
     ·go_wp2;(all_goals go_meet);all_goals exact⟨⟨true,X,⟨fun q=>Ab q Dc,fun q=>Ab q HNO⟩⟩,_,X⟩
     cases kn<;>cases rr<;>cases mu;(all_goals go_wp2);(all_goals go_meet);all_goals exact⟨⟨true,X,⟨fun q=>Ab q Dc,fun q=>Ab q HNO⟩⟩,_,X⟩
    case rest=>
     obtain⟨⟨cc,rfl,hcc⟩,kw,rfl⟩:=hcut;have hbk:H w1.heap.size w1 (w1.drewN kw):=Go.below_drewN By kw;have HBk:Hi _:=HB1w.trans (hbk.mono HB1w.size);have HBkw:Hi _:=HB0.trans (HBk.mono HB0.size)
     cases cc with
     |true=>
      have HN:Hi (¬dd ms):=fun q=>by
       have:=(q j hlt).1
       rw[HMM.out]at this
       cases hcc.2 this
      clear hcc hbk
      go_wp2
      go_ret
      exact⟨HBkw,.inr (.inl ⟨HCO,HN,X⟩)⟩
     |false=>
      have HOK:Hi _:=hcc.1 X
      have y0:=(hbk.cell hl1).trans x0
      have y6:=(hbk.cell l61).trans x6'
      have HI2:Hi (fj (w1.drewN kw) (U (D g o Z)) ms):=HI1.below hbk
      have HY0:=bx y0
      have HY6:=bx y6
      clear hcc hbk y0 y6 x0 x1 x6' l61 hl1 HI1 HB1w HK HO HMU
      generalize w1.drewN kw=w3 at*
      go_wp2_with fail
      go_loopw [13] (fun vj wx=>∃i:Nat,i<=j/\vj=I J i/\(∀l,l<i->(ms.getD l iy).kind≠m.kind)/\∃q,wx=w3.drewN q) (fun vj _=>j-(Io vj).toNat)
      case atStart=>exact⟨0,Lz,X,fun i hi=>Ab hi (aO _),0,X⟩
      case round=>
       obtain⟨i,hi,rfl,hne,qd,rfl⟩:=hrel
       have HNE:=bx hne
       have y0:w3.cell? (D xb 0 Z)=U (Y m.kind):=HY0.out
       have y6:w3.cell? (D w.heap.size 6 Z)=U (S (U (D g o Z)) ms.length mc):=HY6.out
       have ly0:xb<w3.heap.size:=aw y0
       have ly6:w.heap.size<w3.heap.size:=aw y6
       clear hne
       by_cases hl2:i<j
       ·have hl2':(i:Int)<j:=O
        have hil:(i:Int)<ms.length:=O
        obtain⟨g',o',e',u0,u1,u2⟩:=HI2 i O
        injection e' with e'
        injection e' with e1 e2 _
        subst e1 e2
        obtain⟨kj,hkj⟩:∃kj,(ms.getD i iy).kind=kj:=Ey
        rw[hkj]at u0
        have HKJ:=bx hkj
        clear u1 u2 hkj
        have lg:g<w3.heap.size:=aw u0
        by_cases heq:kj=m.kind
        ·have hbe:(kj.toList==m.kind.toList)=true:=ue.2 heq
         have HN:Hi (¬dd ms):=fun q=>by
          have:=(q j hlt).2 i hl2
          rw[HMM,HKJ.out]at this
          exact this heq
         clear heq
         go_wp2
         go_quiet (fail)
         go_wp2
         go_ret
         exact⟨Go.below_drewN (Go.below_drewN HBkw _) _,.inr (.inl ⟨HCO,HN,X⟩)⟩
        ·have hbe:(kj.toList==m.kind.toList)=false:=gY heq
         have HNJ:Hi ((ms.getD i iy).kind≠m.kind):=by
          show(ms.getD i iy).kind≠m.kind
          rw[HKJ.out];exact heq
         clear heq
         go_wp2
         go_quiet (fail)
         go_wp2
         go_roundw
         case rel=>
          refine⟨i+1,O,Gn,fun l hl=>?_,_,X⟩
          by_cases hij:l=i
          ·rw[hij];exact HNJ
          ·exact HNE l O
         case measure=>exact Ms
       ·have hl2':(j:Int)<=i:=O
        obtain rfl:i=j:=O
        go_wp2
        go_roundw
        case rel=>
         refine⟨i+1,O,Gn,fun l hl=>?_,Go.below_drewN HBk _⟩
         by_cases hij:l=i
         ·rw[hij,HMM.out];exact⟨HOK,HNE⟩
         ·exact HTO l O
        case measure=>exact Ms
   have hlt':¬(j:Int)<ms.length:=O;obtain rfl:j=ms.length:=O;go_wp2;go_ret;exact⟨HBw,.inr (.inr ⟨HCO,HTO,X⟩)⟩
theorem yT(w:M):Cs prog 80 #[] w fun e w'=>∃g,e=Rt (S (U (D g 0 Z)) 14 14)/\ju w' (U (D g 0 Z)) dS/\H w.heap.size w w':=by
 have HP:Hi (∀(k:Int) (ka:Oo Ad) (n kc:Nat) wq,Cs prog 122 #[I J k,S ka n kc] wq fun e w'=>e=Rt (Ag #[I J k,I J (-1),I J 0,S ka n kc])/\H wq.heap.size wq w'):=fun k ka n kc wq=>tC k ka n kc wq;have HB:Hi (H w.heap.size w w):=By;go_enter func80,ntmps80;go_wp2_with fail;refine(HP 10 _ _ _ _).mono ?_;rintro e w1 ⟨rfl,hb⟩;have hb0:H w.heap.size w (w.alloc (C (eR [⟨1,false,kR⟩,⟨2,false,bh⟩,⟨3,false,bh⟩,⟨4,false,bh⟩,⟨5,false,bh⟩,⟨6,true,bh⟩]).toArray 55)):=Be;have HK6:Hi (be w1 (U (D w.heap.size 0 Z)) [⟨1,false,kR⟩,⟨2,false,bh⟩,⟨3,false,bh⟩,⟨4,false,bh⟩,⟨5,false,bh⟩,⟨6,true,bh⟩]):=(eF [⟨1,false,kR⟩,⟨2,false,bh⟩,⟨3,false,bh⟩,⟨4,false,bh⟩,⟨5,false,bh⟩,⟨6,true,bh⟩] w).below hb;have hc:H w.heap.size w w1:=hb0.trans (hb.mono hb0.size);have HB:Hi (H w.heap.size w w1):=HB.trans (hc.mono HB.size);clear hb hc hb0;go_wp2_with fail;refine(HP 2 _ _ _ _).mono ?_;rintro e w2 ⟨rfl,hb⟩;have hc:H w1.heap.size w1 w2:=hb;have HK6:Hi (be w2 (U (D w.heap.size 0 Z)) [⟨1,false,kR⟩,⟨2,false,bh⟩,⟨3,false,bh⟩,⟨4,false,bh⟩,⟨5,false,bh⟩,⟨6,true,bh⟩]):=HK6.below hc;have HB:Hi (H w.heap.size w w2):=HB.trans (hc.mono HB.size);clear hb hc;go_wp2_with fail;refine(HP 13 _ _ _ _).mono ?_;rintro e w3 ⟨rfl,hb⟩;have hb0:H w2.heap.size w2 (w2.alloc (C (eR [⟨7,false,bh⟩,⟨8,false,bh⟩]).toArray 55)):=Be;have HK12:Hi (be w3 (U (D w2.heap.size 0 Z)) [⟨7,false,bh⟩,⟨8,false,bh⟩]):=(eF [⟨7,false,bh⟩,⟨8,false,bh⟩] w2).below hb;have hc:H w2.heap.size w2 w3:=hb0.trans (hb.mono hb0.size);have HK6:Hi (be w3 (U (D w.heap.size 0 Z)) [⟨1,false,kR⟩,⟨2,false,bh⟩,⟨3,false,bh⟩,⟨4,false,bh⟩,⟨5,false,bh⟩,⟨6,true,bh⟩]):=HK6.below hc;have HB:Hi (H w.heap.size w w3):=HB.trans (hc.mono HB.size);clear hb hc hb0;go_wp2_with fail;refine(HP 10 _ _ _ _).mono ?_;rintro e w4 ⟨rfl,hb⟩;have hb0:H w3.heap.size w3 (w3.alloc (C (eR [⟨9,false,bh⟩,⟨9,false,bh⟩]).toArray 55)):=Be;have HK16:Hi (be w4 (U (D w3.heap.size 0 Z)) [⟨9,false,bh⟩,⟨9,false,bh⟩]):=(eF [⟨9,false,bh⟩,⟨9,false,bh⟩] w3).below hb;have hc:H w3.heap.size w3 w4:=hb0.trans (hb.mono hb0.size);have HK6:Hi (be w4 (U (D w.heap.size 0 Z)) [⟨1,false,kR⟩,⟨2,false,bh⟩,⟨3,false,bh⟩,⟨4,false,bh⟩,⟨5,false,bh⟩,⟨6,true,bh⟩]):=HK6.below hc;have HK12:Hi (be w4 (U (D w2.heap.size 0 Z)) [⟨7,false,bh⟩,⟨8,false,bh⟩]):=HK12.below hc;have HB:Hi (H w.heap.size w w4):=HB.trans (hc.mono HB.size);clear hb hc hb0;go_wp2_with fail;refine(HP 5 _ _ _ _).mono ?_;rintro e w5 ⟨rfl,hb⟩;have hc:H w4.heap.size w4 w5:=hb;have HK6:Hi (be w5 (U (D w.heap.size 0 Z)) [⟨1,false,kR⟩,⟨2,false,bh⟩,⟨3,false,bh⟩,⟨4,false,bh⟩,⟨5,false,bh⟩,⟨6,true,bh⟩]):=HK6.below hc;have HK12:Hi (be w5 (U (D w2.heap.size 0 Z)) [⟨7,false,bh⟩,⟨8,false,bh⟩]):=HK12.below hc;have HK16:Hi (be w5 (U (D w3.heap.size 0 Z)) [⟨9,false,bh⟩,⟨9,false,bh⟩]):=HK16.below hc;have HB:Hi (H w.heap.size w w5):=HB.trans (hc.mono HB.size);clear hb hc;go_wp2_with fail;refine(HP 8 _ _ _ _).mono ?_;rintro e w6 ⟨rfl,hb⟩;have hb0:H w5.heap.size w5 (w5.alloc (C (eR [⟨10,false,bh⟩]).toArray 55)):=Be;have HK20:Hi (be w6 (U (D w5.heap.size 0 Z)) [⟨10,false,bh⟩]):=(eF [⟨10,false,bh⟩] w5).below hb;have hc:H w5.heap.size w5 w6:=hb0.trans (hb.mono hb0.size);have HK6:Hi (be w6 (U (D w.heap.size 0 Z)) [⟨1,false,kR⟩,⟨2,false,bh⟩,⟨3,false,bh⟩,⟨4,false,bh⟩,⟨5,false,bh⟩,⟨6,true,bh⟩]):=HK6.below hc;have HK12:Hi (be w6 (U (D w2.heap.size 0 Z)) [⟨7,false,bh⟩,⟨8,false,bh⟩]):=HK12.below hc;have HK16:Hi (be w6 (U (D w3.heap.size 0 Z)) [⟨9,false,bh⟩,⟨9,false,bh⟩]):=HK16.below hc;have HB:Hi (H w.heap.size w w6):=HB.trans (hc.mono HB.size);clear hb hc hb0;go_wp2_with fail;refine(HP 7 _ _ _ _).mono ?_;rintro e w7 ⟨rfl,hb⟩;have hc:H w6.heap.size w6 w7:=hb;have HK6:Hi (be w7 (U (D w.heap.size 0 Z)) [⟨1,false,kR⟩,⟨2,false,bh⟩,⟨3,false,bh⟩,⟨4,false,bh⟩,⟨5,false,bh⟩,⟨6,true,bh⟩]):=HK6.below hc;have HK12:Hi (be w7 (U (D w2.heap.size 0 Z)) [⟨7,false,bh⟩,⟨8,false,bh⟩]):=HK12.below hc;have HK16:Hi (be w7 (U (D w3.heap.size 0 Z)) [⟨9,false,bh⟩,⟨9,false,bh⟩]):=HK16.below hc;have HK20:Hi (be w7 (U (D w5.heap.size 0 Z)) [⟨10,false,bh⟩]):=HK20.below hc;have HB:Hi (H w.heap.size w w7):=HB.trans (hc.mono HB.size);clear hb hc;go_wp2_with fail;refine(HP 9 _ _ _ _).mono ?_;rintro e w8 ⟨rfl,hb⟩;have hc:H w7.heap.size w7 w8:=hb;have HK6:Hi (be w8 (U (D w.heap.size 0 Z)) [⟨1,false,kR⟩,⟨2,false,bh⟩,⟨3,false,bh⟩,⟨4,false,bh⟩,⟨5,false,bh⟩,⟨6,true,bh⟩]):=HK6.below hc;have HK12:Hi (be w8 (U (D w2.heap.size 0 Z)) [⟨7,false,bh⟩,⟨8,false,bh⟩]):=HK12.below hc;have HK16:Hi (be w8 (U (D w3.heap.size 0 Z)) [⟨9,false,bh⟩,⟨9,false,bh⟩]):=HK16.below hc;have HK20:Hi (be w8 (U (D w5.heap.size 0 Z)) [⟨10,false,bh⟩]):=HK20.below hc;have HB:Hi (H w.heap.size w w8):=HB.trans (hc.mono HB.size);clear hb hc;go_wp2_with fail;refine(HP 10 _ _ _ _).mono ?_;rintro e w9 ⟨rfl,hb⟩;have hb0:H w8.heap.size w8 (w8.alloc (C (eR [⟨11,false,bh⟩,⟨12,false,lB⟩,⟨13,false,bh⟩]).toArray 55)):=Be;have HK28:Hi (be w9 (U (D w8.heap.size 0 Z)) [⟨11,false,bh⟩,⟨12,false,lB⟩,⟨13,false,bh⟩]):=(eF [⟨11,false,bh⟩,⟨12,false,lB⟩,⟨13,false,bh⟩] w8).below hb;have hc:H w8.heap.size w8 w9:=hb0.trans (hb.mono hb0.size);have HK6:Hi (be w9 (U (D w.heap.size 0 Z)) [⟨1,false,kR⟩,⟨2,false,bh⟩,⟨3,false,bh⟩,⟨4,false,bh⟩,⟨5,false,bh⟩,⟨6,true,bh⟩]):=HK6.below hc;have HK12:Hi (be w9 (U (D w2.heap.size 0 Z)) [⟨7,false,bh⟩,⟨8,false,bh⟩]):=HK12.below hc;have HK16:Hi (be w9 (U (D w3.heap.size 0 Z)) [⟨9,false,bh⟩,⟨9,false,bh⟩]):=HK16.below hc;have HK20:Hi (be w9 (U (D w5.heap.size 0 Z)) [⟨10,false,bh⟩]):=HK20.below hc;have HB:Hi (H w.heap.size w w9):=HB.trans (hc.mono HB.size);clear hb hc hb0;go_wp2_with fail;refine(HP 4 _ _ _ _).mono ?_;rintro e w10 ⟨rfl,hb⟩;have hc:H w9.heap.size w9 w10:=hb;have HK6:Hi (be w10 (U (D w.heap.size 0 Z)) [⟨1,false,kR⟩,⟨2,false,bh⟩,⟨3,false,bh⟩,⟨4,false,bh⟩,⟨5,false,bh⟩,⟨6,true,bh⟩]):=HK6.below hc;have HK12:Hi (be w10 (U (D w2.heap.size 0 Z)) [⟨7,false,bh⟩,⟨8,false,bh⟩]):=HK12.below hc;have HK16:Hi (be w10 (U (D w3.heap.size 0 Z)) [⟨9,false,bh⟩,⟨9,false,bh⟩]):=HK16.below hc;have HK20:Hi (be w10 (U (D w5.heap.size 0 Z)) [⟨10,false,bh⟩]):=HK20.below hc;have HK28:Hi (be w10 (U (D w8.heap.size 0 Z)) [⟨11,false,bh⟩,⟨12,false,lB⟩,⟨13,false,bh⟩]):=HK28.below hc;have HB:Hi (H w.heap.size w w10):=HB.trans (hc.mono HB.size);clear hb hc;go_wp2_with fail;refine(HP 1 _ _ _ _).mono ?_;rintro e w11 ⟨rfl,hb⟩;have hc:H w10.heap.size w10 w11:=hb;have HK6:Hi (be w11 (U (D w.heap.size 0 Z)) [⟨1,false,kR⟩,⟨2,false,bh⟩,⟨3,false,bh⟩,⟨4,false,bh⟩,⟨5,false,bh⟩,⟨6,true,bh⟩]):=HK6.below hc;have HK12:Hi (be w11 (U (D w2.heap.size 0 Z)) [⟨7,false,bh⟩,⟨8,false,bh⟩]):=HK12.below hc;have HK16:Hi (be w11 (U (D w3.heap.size 0 Z)) [⟨9,false,bh⟩,⟨9,false,bh⟩]):=HK16.below hc;have HK20:Hi (be w11 (U (D w5.heap.size 0 Z)) [⟨10,false,bh⟩]):=HK20.below hc;have HK28:Hi (be w11 (U (D w8.heap.size 0 Z)) [⟨11,false,bh⟩,⟨12,false,lB⟩,⟨13,false,bh⟩]):=HK28.below hc;have HB:Hi (H w.heap.size w w11):=HB.trans (hc.mono HB.size);clear hb hc;go_wp2_with fail;refine(HP 6 _ _ _ _).mono ?_;rintro e w12 ⟨rfl,hb⟩;have hc:H w11.heap.size w11 w12:=hb;have HK6:Hi (be w12 (U (D w.heap.size 0 Z)) [⟨1,false,kR⟩,⟨2,false,bh⟩,⟨3,false,bh⟩,⟨4,false,bh⟩,⟨5,false,bh⟩,⟨6,true,bh⟩]):=HK6.below hc;have HK12:Hi (be w12 (U (D w2.heap.size 0 Z)) [⟨7,false,bh⟩,⟨8,false,bh⟩]):=HK12.below hc;have HK16:Hi (be w12 (U (D w3.heap.size 0 Z)) [⟨9,false,bh⟩,⟨9,false,bh⟩]):=HK16.below hc;have HK20:Hi (be w12 (U (D w5.heap.size 0 Z)) [⟨10,false,bh⟩]):=HK20.below hc;have HK28:Hi (be w12 (U (D w8.heap.size 0 Z)) [⟨11,false,bh⟩,⟨12,false,lB⟩,⟨13,false,bh⟩]):=HK28.below hc;have HB:Hi (H w.heap.size w w12):=HB.trans (hc.mono HB.size);clear hb hc;go_wp2;go_ret;exact⟨_,X,i5 [(⟨10, -1,0,[⟨1,false,kR⟩,⟨2,false,bh⟩,⟨3,false,bh⟩,⟨4,false,bh⟩,⟨5,false,bh⟩,⟨6,true,bh⟩]⟩,U (D w.heap.size 0 Z),6),(⟨2,0,1,[]⟩,Z,0),(⟨2, -1,0,[]⟩,Z,0),(⟨13, -1,0,[⟨7,false,bh⟩,⟨8,false,bh⟩]⟩,U (D w2.heap.size 0 Z),2),(⟨10, -1,0,[⟨9,false,bh⟩,⟨9,false,bh⟩]⟩,U (D w3.heap.size 0 Z),2),(⟨5, -1,0,[]⟩,Z,0),(⟨11,3,1,[⟨10,false,bh⟩]⟩,U (D w5.heap.size 0 Z),1),(⟨8, -1,0,[]⟩,Z,0),(⟨7, -1,0,[]⟩,Z,0),(⟨9, -1,0,[]⟩,Z,0),(⟨10, -1,0,[⟨11,false,bh⟩,⟨12,false,lB⟩,⟨13,false,bh⟩]⟩,U (D w8.heap.size 0 Z),3),(⟨4, -1,0,[]⟩,Z,0),(⟨1, -1,0,[]⟩,Z,0),(⟨6, -1,0,[]⟩,Z,0)] w12 (cg Ln Dc HK6 (cg Ln Dc (fun j hj=>Ab hj (aO _)) (cg Ln Dc (fun j hj=>Ab hj (aO _)) (cg Ln Dc HK12 (cg Ln Dc HK16 (cg Ln Dc (fun j hj=>Ab hj (aO _)) (cg Ln Dc HK20 (cg Ln Dc (fun j hj=>Ab hj (aO _)) (cg Ln Dc (fun j hj=>Ab hj (aO _)) (cg Ln Dc (fun j hj=>Ab hj (aO _)) (cg Ln Dc HK28 (cg Ln Dc (fun j hj=>Ab hj (aO _)) (cg Ln Dc (fun j hj=>Ab hj (aO _)) (cg Ln Dc (fun j hj=>Ab hj (aO _)) nS)))))))))))))),HB.alloc HB.size _⟩
end Go.Proofs.YtkkicodfpekbgaaGreatDoor
