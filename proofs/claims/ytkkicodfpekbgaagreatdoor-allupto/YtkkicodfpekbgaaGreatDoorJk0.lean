/- Parts. -/
import Derived.Test.YtkkicodfpekbgaaGreatDoorJIl
open Go.Value renaming int->I,string->Y,slice->S,pointer->Po,bool->Bo,tuple->Tu
open Go.IntKind renaming i64->J
open Go.Obj renaming cells->C
open Go.Ending renaming returned->Rt
open Option renaming some->U,none->Z
open Go renaming World->M,Calls->Cs,Addr->Ad,Value->Vv
open _root_ renaming ByteArray->Q,Option->Oo,List->Ls
open Go.World renaming cell?->Wc,frozen?->Wf
open Go.Act renaming put->Ap,eval->Ae
open Go.RowKit renaming intOf->Io,Hid->Hi
open Go.Addr renaming mk->D
set_option linter.all false
set_option maxRecDepth 100000
set_option maxHeartbeats 8000000
namespace Go.Proofs.YtkkicodfpekbgaaGreatDoor
variable{v:Int}{W wr w':M}{s n f t k:Q}{cv mv:Vv}
open Go.Proofs.Tryz
open Go.RowKit
theorem aiK{c c':CT}(h:c.tree=c'.tree):c.vt=c'.vt/\c.s=c'.s/\c.n=c'.n/\c.ft=c'.ft/\c.tt=c'.tt/\c.k=c'.k/\cu c=cu c':=by
 have e:∀j,(vl c.tree j).text=(vl c'.tree j).text:=fun j=>by rw[h]
 refine⟨e 1,e 2,e 4,e 6,e 7,e 8,?_⟩;have hl:(mi c.ms).length=(mi c'.ms).length:=by have a:=u7 c;have b:=u7 c';rw[h]at a;omega
 have hq:mi c.ms=mi c'.ms:=by refine Ll hl fun j h1 h2=>?_;(have g1:(mi c.ms)[j]=(mi c.ms).getD j (az,az,az):=by rw[dy,dz h1];rfl);(have g2:(mi c'.ms)[j]=(mi c'.ms).getD j (az,az,az):=by rw[dy,dz h2];rfl);have a1:=e (10+4*j+1);have a2:=e (10+4*j+2);have a3:=e (10+4*j+3);rw[rz c j h1 1 Dc,rz c' j h2 1 Dc]at a1;rw[rz c j h1 2 Dc,rz c' j h2 2 Dc]at a2;rw[rz c j h1 3 Dc,rz c' j h2 3 Dc]at a3;rw[g1,g2];exact Prod.ext a1 (Prod.ext a2 a3)
 unfold cu;rw[hq]
theorem ahO{E:bj}{d:Q}{v:Except (Int×Int) (Ls Vl)}(hv:pb E cS 0 d v):∃(V:Int) (au N F T K:Q) (ms:Ls du) (q k:Int),ms.length<=100000/\∀w e w',wj v w e w'->Bw w w'/\∃a c,e=Rt (Tu #[dm V au N F T K (S a ms.length c),I J q,I J k])/\w'.ownsRow w.heap.size 73 3 (S a ms.length c) ms.length (lj ms):=by
 cases v with
 |error u=>
  obtain⟨k,q⟩:=u
  refine⟨0,⟨#[]⟩,⟨#[]⟩,⟨#[]⟩,⟨#[]⟩,⟨#[]⟩,[],q,k,Dc,fun w e w' h=>⟨h.1,Z,0,?_,nz _ _ _ _⟩⟩
  rcases h.2 with⟨k',q',e1,e2⟩|⟨c,pr,e1,_⟩
  ·cases e1;exact e2
  ·cases e1
 |ok vs=>
  obtain⟨bP,c,rfl,hok⟩:=Oa hv
  have hq:=u7 c
  have hms:(cu c).length=(mi c.ms).length:=by unfold cu;rw[ou]
  obtain⟨pr,hp⟩:∃pr:Bool,pr=true↔bu 8 c.n:=⟨@decide (bu 8 c.n) (Classical.propDecidable _),Sq⟩
  have SF:∀c' qI,(Except.ok c.tree:Except (Int×Int) (Ls Vl))= .ok (CT.tree c')->(qI=true↔bu 8 c'.n)->c'.vt=c.vt/\c'.s=c.s/\c'.n=c.n/\c'.ft=c.ft/\c'.tt=c.tt/\c'.k=c.k/\cu c'=cu c/\c'.tree=c.tree/\(c'.again qI).tree=(c.again pr).tree:=fun c' qI e rL=>by
   injection e with e
   obtain⟨a1,a2,a3,a4,a5,a6,a7⟩:=aiK e.symm
   have ep:qI=pr:=by rw[Ao,rL,hp,a3]
   refine⟨a1,a2,a3,a4,a5,a6,a7,e.symm,?_⟩
   unfold CT.again
   rw[a1,a2,a3,a4,a5,a6,a7,ep]
  by_cases hg:c.tree=(c.again pr).tree/\ij (b8 c.vt 0) c.s c.n c.ft c.tt c.k (cu c).length/\kx (cu c)
  ·refine⟨b8 c.vt 0,c.s,c.n,c.ft,c.tt,c.k,cu c,0,0,O,fun w e w' h=>⟨h.1,?_⟩⟩
   rcases h.2 with⟨_,_,e1,_⟩|⟨c',qI,e1,_,_,rL,h2⟩
   ·cases e1
   ·obtain⟨a1,a2,a3,a4,a5,a6,a7,a8,a9⟩:=SF c' qI e1 rL
    rw[a1,a2,a3,a4,a5,a6,a7,a8,a9]at h2
    rcases h2 with⟨h2|h2,_⟩|⟨_,_,h2,_⟩|⟨_,_,_,ma,mc,h3,h4⟩
    ·exact Ab hg.1 h2
    ·exact Ab hg.2.1 h2
    ·exact Ab hg.2.2 h2
    ·exact⟨ma,mc,h3,h4⟩
  ·by_cases hc:c.tree≠(c.again pr).tree\/¬ij (b8 c.vt 0) c.s c.n c.ft c.tt c.k (cu c).length
   ·refine⟨0,⟨#[]⟩,⟨#[]⟩,⟨#[]⟩,⟨#[]⟩,⟨#[]⟩,[],0,12,Dc,fun w e w' h=>⟨h.1,Z,0,?_,nz _ _ _ _⟩⟩
    rcases h.2 with⟨_,_,e1,_⟩|⟨c',qI,e1,_,_,rL,h2⟩
    ·cases e1
    ·obtain⟨a1,a2,a3,a4,a5,a6,a7,a8,a9⟩:=SF c' qI e1 rL
     rw[a1,a2,a3,a4,a5,a6,a7,a8,a9]at h2
     rcases h2 with⟨_,h2⟩|⟨q1,q2,_⟩|⟨q1,q2,_⟩
     ·exact h2
     ·exact Ab hc (fun z=>z.elim (fun z=>z q1) (fun z=>z q2))
     ·exact Ab hc (fun z=>z.elim (fun z=>z q1) (fun z=>z q2))
   ·have h1:=zg fun q=>hc (.inl q)
    have h2:=zg fun q=>hc (.inr q)
    have h3:¬kx (cu c):=fun q=>hg ⟨h1,h2,q⟩
    refine⟨0,⟨#[]⟩,⟨#[]⟩,⟨#[]⟩,⟨#[]⟩,⟨#[]⟩,[],0,13,Dc,fun w e w' h=>⟨h.1,Z,0,?_,nz _ _ _ _⟩⟩
    rcases h.2 with⟨_,_,e1,_⟩|⟨c',qI,e1,_,_,rL,h4⟩
    ·cases e1
    ·obtain⟨a1,a2,a3,a4,a5,a6,a7,a8,a9⟩:=SF c' qI e1 rL
     rw[a1,a2,a3,a4,a5,a6,a7,a8,a9]at h4
     rcases h4 with⟨q,_⟩|⟨_,_,_,h4⟩|⟨_,_,q,_⟩
     ·exact Ab q hc
     ·exact h4
     ·exact Ab q h3
theorem acS(d:Q)(W w:M)(B:Nat)(L:Ls (Vv×Nat×Int))(an:Ls (Vv×Nat×Q))(nx:Int)(sn:Sn->Ad)(za:Ad)(hl:gy W sn)(hz:kv W sn za)(i7:uf W)(hd:d.size<=1048576)(hI:oz W w B L an nx)(hM:an.length<=1099511627776)(bR: -1099511627776<=nx)(aQ:nx<=0):Cs prog 27 #[Po (U (D B 0 Z)),Y d] w fun e w'=>e=Rt (Bo true)/\∃M',oz W w' B L M' (nx-1)/\M'.length=an.length+4:=by
 obtain⟨E,v,hv,f8⟩:=aiS Bb.1 Nr 0 Dc d;have bX:∀vs,v= .ok vs->Sz vs:=fun vs e=>by
  rcases f8 with⟨_,_,q,_⟩|⟨m6,F,q,_,hS,_⟩;·rw[q]at e;cases e
  rw[q]at e;cases e;exact hS
 obtain⟨V,au,N,F,T,K,ms,q,k,hm,CP⟩:=ahO hv;have HP:Hi _:=fun wq hq=>(ahG E d v wq sn za (hl.below hq) (hz.below hq) (i7.below hq) O hv bX).mono fun e w' h=>CP _ _ _ h;have HR:Hi _:=fun wq=>(ahy E d v wq hd hv bX (fun b hb=>Tl b hb)).mono fun e w' h=>CP _ _ _ h;have nJ:Hi (∀a1 c1 a2 c2 wq,il wq a1 ms->il wq a2 ms->Cs prog 50 #[dm V au N F T K (S a1 ms.length c1),dm V au N F T K (S a2 ms.length c2)] wq fun e w'=>dw True wq e w'):=fun a1 c1 a2 c2 wq h1 h2=>(Wm V V au N F T K au N F T K ms ms a1 a2 c1 c2 wq h1 h2 O O).mono fun e w' h=>by obtain⟨r,e1,e2,e3⟩:=h;exact⟨r,e1,⟨fun _=>trivial,fun _=>e2.2 ⟨⟨X,X,X,X,X,X⟩,X⟩⟩,e3⟩
 have UC:Hi _:=fun la lc wq hb ho=>ahk W w wq B L an nx la lc ms.length (lj ms) hI hb ho O hM bR aQ;have xG:Hi _:=Gd;have HIB:Hi _:=hI.bel;clear hl hz i7 hv f8 bX CP hI;unfold dm at HP HR nJ;go_enter func27,ntmps27;go_wp2_with fail;refine(HP _ HIB).mono ?_;rintro e w1 ⟨(aC:Hi _),a1,c1,rfl,(lJ:Hi _)⟩;have zC:Hi (Bw w1 (w1.alloc (C (ib V au N F T K (S a1 ms.length c1)) 68))):=Be;have fG:Hi ((w1.alloc (C (ib V au N F T K (S a1 ms.length c1)) 68)).heap[w1.heap.size]? =U (C (ib V au N F T K (S a1 ms.length c1)) 68 (0,0))):=bl w1 _;clear HP;go_wp2_with fail;refine(HR _).mono ?_;rintro e w2 ⟨hb2,a2,c2,rfl,(fQ:Hi _)⟩;have aD:Hi _:=Tm zC hb2;have vR:Hi _:=bc fG hb2;obtain⟨x0,x1,x2,x3,x4,x5,x6⟩:=wv vR;have i9:=lc x0;clear hb2 HR fG zC;have kT:Hi (Bw w2 (w2.alloc (C (ib V au N F T K (S a2 ms.length c2)) 68))):=Be;have eO:=dt (nJ a1 c1 a2 c2 (w2.alloc (C (ib V au N F T K (S a2 ms.length c2)) 68)) ((il.of_own lJ).below (Tm aD kT)) ((il.of_own fQ).below kT));go_wp2_with fail;refine eO.mono ?_;rintro e w3 ⟨r,rfl,hr,hb3⟩;obtain rfl:r=true:=hr.2 trivial;have SO:Hi _:=Tm aD (Tm kT hb3);have aR:Hi _:=Tm aC SO;have FP:Hi _:=bc vR (Tm kT hb3);clear x0 x1 x2 x3 x4 x5 x6 i9 hr hb3;have x6:=(wv FP).2.2.2.2.2.2;have i9:=lc x6;have aar:=dt (UC a1 c1 w3 aR (fm lJ SO));clear UC eO nJ;go_wp2_with fail;refine aar.mono ?_;rintro e w4 ⟨rfl,(H4:Hi _)⟩;clear x6 i9;go_wp2_with fail;refine(xG _ _).mono ?_;rintro e w5 ⟨rfl,rfl⟩;go_wp2;go_ret;exact⟨X,H4⟩
theorem ahR(v:Int)(s n f t k:Q)(ms:Ls du):∃(b:Q) (x:Int),∀w e w',Ex v s n f t k ms w e w'->Bw w w'/\e=Rt (Tu #[Y b,I J x]):=by
 obtain⟨pr,hp⟩:∃pr:Bool,pr=true↔bu 8 n:=⟨@decide (bu 8 n) (Classical.propDecidable _),Sq⟩;by_cases hc:ij v s n f t k ms.length
 ·by_cases hm:kx ms
  ·by_cases hb:4000<(ctOf v s n pr f t k ms).bytes.size
   ·refine⟨⟨#[]⟩,2,fun w e w' h=>⟨h.1,?_⟩⟩;rcases h.2 with⟨q,_⟩|⟨_,q,_⟩|⟨_,_,qI,rL,h2⟩;(·exact Ab hc q);(·exact Ab hm q);(obtain rfl:qI=pr:=by rw[Ao,rL,hp]);rcases h2 with⟨_,h2⟩|⟨q,_⟩;(·exact h2);omega
   refine⟨(ctOf v s n pr f t k ms).bytes,0,fun w e w' h=>⟨h.1,?_⟩⟩;rcases h.2 with⟨q,_⟩|⟨_,q,_⟩|⟨_,_,qI,rL,h2⟩;(·exact Ab hc q);(·exact Ab hm q);(obtain rfl:qI=pr:=by rw[Ao,rL,hp]);rcases h2 with⟨q,_⟩|⟨_,h2⟩;(·exact Ab q hb);exact h2
  refine⟨⟨#[]⟩,13,fun w e w' h=>⟨h.1,?_⟩⟩;rcases h.2 with⟨q,_⟩|⟨_,_,h2⟩|⟨_,q,_⟩;·exact Ab hc q
  ·exact h2
  exact Ab q hm
 refine⟨⟨#[]⟩,12,fun w e w' h=>⟨h.1,?_⟩⟩;rcases h.2 with⟨_,h2⟩|⟨q,_⟩|⟨q,_⟩;·exact h2
 ·exact Ab q hc
 exact Ab q hc
structure uk(W wr:M)(v:Int)(s n f t k:Q)(cv mv:Vv)(ms:Ls du):Prop where
 bel:Bw W wr
 res:wr.heap[W.heap.size]? =U (C (ib v s n f t k cv) 68 (0,0))
 box:wr.heap[W.heap.size+1]? =U (C (ib v s n f t k mv) 68 (0,0))
 own:wr.ownsRow W.heap.size 73 3 mv ms.length (lj ms)
theorem uk.below{ms:Ls du}(h:uk W wr v s n f t k cv mv ms)(hb:Bw wr w'):uk W w' v s n f t k cv mv ms:=
 ⟨Tm h.bel hb,bc h.res hb,bc h.box hb,fm h.own hb⟩
theorem uk.put{ms:Ls du}{g cap:Nat}(h:uk W wr v s n f t k cv mv ms)(m:du)(h1:w'.ownsRow W.heap.size 73 3 (S (U (D g 0 Z)) (ms.length+1) cap) (ms.length+1) (lj ms++[Y m.kind,Bo m.must,Y m.body]))(h2:wr.grownBy w' mv.ownBlock):uk W (w'.setCell (D (W.heap.size+1) 6 Z) (S (U (D g 0 Z)) (ms.length+1) cap)) v s n f t k cv (S (U (D g 0 Z)) (ms.length+1) cap) (ms++[m])/\w'.cell? (D (W.heap.size+1) 6 Z)=U mv/\w'.frozen? (D (W.heap.size+1) 6 Z)=false/\w'.heap[W.heap.size]? =U (C (ib v s n f t k cv) 68 (0,0))/\Bw W w':=by
 have hC:w'.heap[W.heap.size+1]? =U (C (ib v s n f t k mv) 68 (0,0)):=by rw[h2.block _ (eb h.box) (fun q=>jb h.box h.own Dc q.symm)];exact h.box
 have hR:w'.heap[W.heap.size]? =U (C (ib v s n f t k cv) 68 (0,0)):=by rw[h2.block _ (eb h.res) (fun q=>jb h.res h.own Dc q.symm)];exact h.res
 have LN:=h.bel.grown h2 h.bel.size (fun k hk=>(h.own.lt k hk).1);refine⟨⟨LN.setCell (Az _) _,by rw[ez _ _ _ _ Sq];exact hR,iw w' _ 6 _ _ _ hC,?_⟩,by simp[Wc,hC],by simp[Wf,hC],hR,LN⟩;rw[Oy,ff];exact dk h1 (jb hC h1 Dc) _
theorem agn(v:Int)(s n f t k:Q)(ms:Ls du)(ma:Oo Ad)(mc:Nat)(w:M)(sn:Sn->Ad)(za:Ad)(hl:gy w sn)(hz:kv w sn za)(eN:il w ma ms)(hS:Ho s n f t k ms)(hn:ms.length<=400000)(kK:ms.length<=mc):Cs prog 28 #[dm v s n f t k (S ma ms.length mc)] w fun e w'=>e=Rt (Bo true)/\Bw w w':=by
 obtain⟨bb,xx,CP⟩:=ahR v s n f t k ms;have HP:Hi _:=fun ga gc wq hq hi hg=>(ajw v s n f t k ms ga gc wq sn za (hl.below hq) (hz.below hq) hS.cdT hi O hg).mono fun e w' h=>CP _ _ _ h;have HR:Hi _:=fun wq hq=>(ahz v s n f t k ms ma mc wq (fun j hj=>Tl _ (hS.ms j hj).2) (eN.below hq) hS O kK).mono fun e w' h=>CP _ _ _ h;have nJ:Hi (∀a1 c1 wq,Bw w wq->il wq a1 ms->Cs prog 50 #[dm v s n f t k (S a1 ms.length c1),dm v s n f t k (S ma ms.length mc)] wq fun e w'=>dw True wq e w'):=fun a1 c1 wq hq h1=>(Wm v v s n f t k s n f t k ms ms a1 ma c1 mc wq h1 (eN.below hq) O O).mono fun e w' h=>by obtain⟨r,e1,e2,e3⟩:=h;exact⟨r,e1,⟨fun _=>trivial,fun _=>e2.2 ⟨⟨X,X,X,X,X,X⟩,X⟩⟩,e3⟩
 have xG:Hi _:=Gd;have mH:=dt eN;have kC:Hi (uk w ((w.alloc (C (ib v s n f t k (S ma ms.length mc)) 68)).alloc (C (ib v s n f t k (S Z 0 0)) 68)) v s n f t k (S ma ms.length mc) (S Z 0 0) []):=by have h1:=bl w (C (ib v s n f t k (S ma ms.length mc)) 68);have h2:=bl (w.alloc (C (ib v s n f t k (S ma ms.length mc)) 68)) (C (ib v s n f t k (S Z 0 0)) 68);have e:(w.alloc (C (ib v s n f t k (S ma ms.length mc)) 68)).heap.size=w.heap.size+1:=Sq;rw[e]at h2;exact⟨(Be).alloc Sq _,bc h1 Be,h2,nz _ _ _ _⟩
 clear hl hz eN hS CP;unfold dm at HP HR nJ ⊢;obtain⟨i0,dO,cU,dA,bL⟩:=mh Ig;go_enter func28,ntmps28;go_wp2_with fail;go_loopw [4] (fun vi wr=>∃(j:Nat) (mv:Vv),j<=ms.length/\vi=I J j/\uk w wr v s n f t k (S ma ms.length mc) mv (ms.take j)) (fun vi _=>ms.length-(Io vi).toNat);case atStart=>exact⟨0,_,Lz,X,kC⟩
 obtain⟨j,mv,hj,rfl,hI⟩:=hrel;have HI:=dt hI;have AJ:(ms.take j).length=j:=by rw[Ax];omega
 have mM:=dt AJ;obtain⟨x0,x1,x2,x3,x4,x5,x6⟩:=wv hI.res;clear hI AJ x0 x1 x2 x3 x4 x5;by_cases aA:j<ms.length
 ·have aN:(j:Int)<ms.length:=O;obtain⟨g,o,rfl,e0,e1,e2⟩:=mH j aA;have iS:ms.take (j+1)=ms.take j++[ms.getD j fh]:=by rw[vz,dz aA,dy,dz aA];rfl
  obtain⟨m,hm⟩:∃m,ms.getD j fh=m:=Ey;rw[hm]at iS e0 e1 e2;obtain⟨L,hL⟩:∃L,ms.take j=L:=Ey;rw[hL]at HI mM iS;have HM:=dt iS;have c6:wr.cell? (D (w.heap.size+1) 6 Z)=U mv:=by simp[Wc,HI.box]
  have W5:=eb HI.box;have eX:Hi (∀wq,Bw w wq->wq.heap[w.heap.size]? =U (C (ib v s n f t k (S (U (D g o Z)) ms.length mc)) 68 (0,0))->wq.cell? (D w.heap.size 6 Z)=U (S (U (D g o Z)) ms.length mc)/\wq.cell? (D g (o+j*3) Z)=U (Y m.kind)/\wq.cell? (D g (o+j*3+1) Z)=U (Bo m.must)/\wq.cell? (D g (o+j*3+2) Z)=U (Y m.body)):=fun wq q hr=>⟨(wv hr).2.2.2.2.2.2,Cb q e0,Cb q e1,Cb q e2⟩;clear e0 e1 e2 hm iS hL;go_upto_region 6 with fail;have eF:Hi (∀(w6:M) (g6 dP:Nat),w6.ownsRow w.heap.size 73 3 (S (U (D g6 0 Z)) (L.length+1) dP) (L.length+1) (lj L++[Y m.kind,Bo m.must,Y m.body])->(wr.alloc (C #[Y m.kind,Bo m.must,Y m.body] 73)).drew.grownBy w6 mv.ownBlock->uk w (w6.setCell (D (w.heap.size+1) 6 Z) (S (U (D g6 0 Z)) (L.length+1) dP)) v s n f t k (S (U (D g o Z)) ms.length mc) (S (U (D g6 0 Z)) (L.length+1) dP) (ms.take (j+1))/\w6.cell? (D (w.heap.size+1) 6 Z)=U mv/\w6.frozen? (D (w.heap.size+1) 6 Z)=false/\(Bw w w6/\w6.heap[w.heap.size]? =U (C (ib v s n f t k (S (U (D g o Z)) ms.length mc)) 68 (0,0)))):=fun w6 g6 dP h1 h2=>by have hA:=HI.below (((By).alloc Ln (C #[Y m.kind,Bo m.must,Y m.body] 73)).drew);obtain⟨q1,q2,q3,q4,q5⟩:=hA.put m h1 h2;refine⟨?_,q2,q3,q5,q4⟩;rw[HM.out];exact q1
  have pN:Hi (Bw w (wr.alloc (C #[Y m.kind,Bo m.must,Y m.body] 73)).drew/\(wr.alloc (C #[Y m.kind,Bo m.must,Y m.body] 73)).drew.heap[w.heap.size]? =U (C (ib v s n f t k (S (U (D g o Z)) ms.length mc)) 68 (0,0))):=⟨(HI.bel.alloc HI.bel.size _).drew,bc HI.res ((Be).drew)⟩;refine wp_region_held_drew (S:=fun w'=>w'.cell? (D w.heap.size 6 Z)=U (S (U (D g o Z)) ms.length mc)/\w'.cell? (D g (o+j*3) Z)=U (Y m.kind)/\w'.cell? (D g (o+j*3+1) Z)=U (Bo m.must)/\w'.cell? (D g (o+j*3+2) Z)=U (Y m.body)) Kr ?_ (fun hHeld=>?_);·exact eX _ HI.bel.drew HI.res
  refine tk 0 ?_;try simp only[Ap,cq,ct,cr]
  refine tk 2 ?_;try simp only[Ap,cq,ct,cr]
  refine tk 3 ?_;try simp only[Ap,cq,ct,cr]
  refine tk 4 ?_;try simp only[Ap,cq,ct,cr]
  refine tk 5 ?_;try simp only[Ap,cq,ct,cr]
  refine tk 6 ?_;try simp only[Ap,cq,ct,cr]
  refine wpAnyH_ready (rs:=[1,7]) Kr Sq ?_;refine AllReadyH.cons X (fun K hK=>?_) (AllReadyH.cons X (fun K hK=>?_) AllReadyH.nil)
  ·go_simp;refine hK.out _ _ ?_ (fun hHeld2=>?_);(·exact eX _ HI.bel.drew HI.res);clear hK K;refine wpAnyH_ready (rs:=[7]) Kr Sq ?_;refine AllReadyH.cons X (fun K hK=>?_) AllReadyH.nil;go_simp;refine hK.out _ _ ?_ (fun tT=>?_);(·exact eX _ pN.1 pN.2);clear hK K;refine wpAnyH_ready (rs:=[8]) Kr Sq ?_;refine AllReadyH.cons X (fun K hK=>?_) AllReadyH.nil;refine step_append_lies _ X (.tmp 20) (.tmp 26) 66 X w.heap.size 73 i0 wt 3 40 underlying66 dO cU dA bL X Dc mv L.length (lj L) (by simp[Ae,Ap]) ((HI.out.own.alloc _).drew) (D wr.heap.size 0 Z) 1 1 [Y m.kind,Bo m.must,Y m.body] (by simp[Ae,Ap]) X (World.news_of_block (w:=(wr.alloc (C #[Y m.kind,Bo m.must,Y m.body] 73)).drew) (bl wr (C #[Y m.kind,Bo m.must,Y m.body] 73))) (by intro u hu;simp at hu;rcases hu with rfl|rfl|rfl<;>rfl) Dc (by have:=mM.out;unfold maxLen;omega) (by have:=mM.out;omega) (by have:=HI.out.bel.size;simp;omega) (wr.heap.size+1) Sq ?_;intro g6 dP w6 h1 h2 h3 h4;obtain⟨(i4:Hi _),t6,y6,(bB:Hi _)⟩:=eF w6 g6 dP h1 h2;clear h1 h2 h3 h4;refine hK.out _ _ ?_ (fun tU=>?_);(·exact eX _ bB.1 bB.2);clear hK K;refine tk 9 ?_;(try simp only[Ap,cq,ct,cr]);refine wpAnyH_ready (rs:=[10]) Kr Sq ?_;refine AllReadyH.cons X (fun K hK=>?_) AllReadyH.nil;go_simp;refine hK.out _ _ ?_ (fun tV=>?_);(·exact eX _ i4.bel i4.res);clear hK K;refine wpAnyH_done Kr ?_ _;have kU:Hi (∃mv',uk w (w6.setCell (D (w.heap.size+1) 6 Z) (S (U (D g6 0 Z)) (L.length+1) dP)) v s n f t k (S (U (D g o Z)) ms.length mc) mv' (ms.take (j+1))):=⟨_,i4⟩;generalize w6.setCell (D (w.heap.size+1) 6 Z) (S (U (D g6 0 Z)) (L.length+1) dP)=w7 at kU ⊢;clear hHeld hHeld2 tT tU tV c6 t6 y6 i4 bB eF eX;go_wp2;obtain⟨mv',h7⟩:=kU.out;exact⟨⟨j+1,mv',O,Gn,h7⟩,by simp[Io];omega⟩
  go_simp;refine hK.out _ _ ?_ (fun hHeld2=>?_);·exact eX _ pN.1 pN.2
  clear hK K;refine wpAnyH_ready (rs:=[1]) Kr Sq ?_;refine AllReadyH.cons X (fun K hK=>?_) AllReadyH.nil;go_simp;refine hK.out _ _ ?_ (fun tT=>?_);·exact eX _ pN.1 pN.2
  clear hK K;refine wpAnyH_ready (rs:=[8]) Kr Sq ?_;refine AllReadyH.cons X (fun K hK=>?_) AllReadyH.nil;refine step_append_lies _ X (.tmp 20) (.tmp 26) 66 X w.heap.size 73 i0 wt 3 40 underlying66 dO cU dA bL X Dc mv L.length (lj L) (by simp[Ae,Ap]) ((HI.out.own.alloc _).drew) (D wr.heap.size 0 Z) 1 1 [Y m.kind,Bo m.must,Y m.body] (by simp[Ae,Ap]) X (World.news_of_block (w:=(wr.alloc (C #[Y m.kind,Bo m.must,Y m.body] 73)).drew) (bl wr (C #[Y m.kind,Bo m.must,Y m.body] 73))) (by intro u hu;simp at hu;rcases hu with rfl|rfl|rfl<;>rfl) Dc (by have:=mM.out;unfold maxLen;omega) (by have:=mM.out;omega) (by have:=HI.out.bel.size;simp;omega) (wr.heap.size+1) Sq ?_;intro g6 dP w6 h1 h2 h3 h4;obtain⟨(i4:Hi _),t6,y6,(bB:Hi _)⟩:=eF w6 g6 dP h1 h2;clear h1 h2 h3 h4;refine hK.out _ _ ?_ (fun tU=>?_);·exact eX _ bB.1 bB.2
  clear hK K;refine tk 9 ?_;try simp only[Ap,cq,ct,cr]
  refine wpAnyH_ready (rs:=[10]) Kr Sq ?_;refine AllReadyH.cons X (fun K hK=>?_) AllReadyH.nil;go_simp;refine hK.out _ _ ?_ (fun tV=>?_);·exact eX _ i4.bel i4.res
  clear hK K;refine wpAnyH_done Kr ?_ _;have kU:Hi (∃mv',uk w (w6.setCell (D (w.heap.size+1) 6 Z) (S (U (D g6 0 Z)) (L.length+1) dP)) v s n f t k (S (U (D g o Z)) ms.length mc) mv' (ms.take (j+1))):=⟨_,i4⟩;generalize w6.setCell (D (w.heap.size+1) 6 Z) (S (U (D g6 0 Z)) (L.length+1) dP)=w7 at kU ⊢;clear hHeld hHeld2 tT tU tV c6 t6 y6 i4 bB eF eX;go_wp2;obtain⟨mv',h7⟩:=kU.out;exact⟨⟨j+1,mv',O,Gn,h7⟩,by simp[Io];omega⟩
 have aN:(ms.length:Int)<=j:=O;obtain rfl:j=ms.length:=O;have hms:ms.take ms.length=ms:=we;have HE:Hi (uk w wr v s n f t k (S ma ms.length mc) mv ms):=by have h:=HI.out;rw[hms]at h;exact h
 obtain⟨ga,gc,rfl,i6⟩:=yr HE.own;have UF:=dt (HP ga gc wr HE.bel (il.of_own HE.own) (Do HE.own));obtain⟨c0,c1,c2,c3,c4,c5,c6⟩:=wv HE.box;clear HI mM hms i6 HP kC hj;go_wp2_with fail;refine UF.mono ?_;rintro e w2 ⟨hb2,rfl⟩;have eO:=dt (HE.below hb2);have eL:=dt (HR w2 eO.bel);clear hb2 c0 c1 c2 c3 c4 c5 c6 x6 UF HR HE;obtain⟨x0,x1,x2,x3,x4,x5,x6⟩:=wv eO.res;go_wp2_with fail;refine eL.mono ?_;rintro e w3 ⟨hb3,rfl⟩;have iO:=dt (eO.below hb3);have jK:=dt (nJ ga gc w3 iO.bel (il.of_own iO.own));clear hb3 x0 x1 x2 x3 x4 x5 x6 eL nJ eO;obtain⟨x0,x1,x2,x3,x4,x5,x6⟩:=wv iO.res;obtain⟨c0,c1,c2,c3,c4,c5,c6⟩:=wv iO.box;go_wp2_with fail;refine jK.mono ?_;rintro e w4 ⟨r,rfl,hr,hb4⟩;obtain rfl:r=true:=hr.2 trivial;have aJ:Hi _:=Tm iO.bel hb4;clear hr hb4 x0 x1 x2 x3 x4 x5 x6 c0 c1 c2 c3 c4 c5 c6;go_wp2_with fail;refine(xG _ _).mono ?_;rintro e w5 ⟨rfl,rfl⟩;go_wp2;go_ret;exact⟨X,aJ⟩
