/-
Several texts in one.
-/
import Derived.Test.YtkkicodfpekbgaaGreatDoorJj1
import Derived.Test.YtkkicodfpekbgaaGreatDoorJIl
import Derived.Test.YtkkicodfpekbgaaGreatDoorJi1
open Go.Value renaming int->I,string->Y,slice->S,pointer->Po,bool->Bo,tuple->Tu
open Go.IntKind renaming i64->J
open Go.Obj renaming cells->C
open Go.Ending renaming returned->Rt
open Option renaming some->U,none->Z
open Go renaming World->M,Calls->Cs,Addr->Ad,Value->Vv
open _root_ renaming ByteArray->Q,Option->Oo,List->Ls
open Go.RowKit renaming Below->H,intOf->Io,Hid->Hi
open Go.World renaming cell?->Wc,frozen?->Wf
open Go.Act renaming put->Ap,eval->Ae
open Go.Addr renaming mk->D
set_option linter.unusedSimpArgs false
set_option linter.unusedVariables false
set_option maxRecDepth 100000
set_option maxHeartbeats 8000000
namespace Go.Proofs.YtkkicodfpekbgaaGreatDoor
open Go.Proofs.Tryz
open Go.RowKit
theorem Bt{c c':CT}(h:c.tree=c'.tree):c.vt=c'.vt/\c.s=c'.s/\c.n=c'.n/\c.ft=c'.ft/\c.tt=c'.tt/\c.k=c'.k/\bZ c=bZ c':=by
 have e:∀j,(vl c.tree j).text=(vl c'.tree j).text:=fun j=>by rw[h]
 refine⟨e 1,e 2,e 4,e 6,e 7,e 8,?_⟩;have hl:(pt c.ms).length=(pt c'.ms).length:=by have a:=jH c;have b:=jH c';rw[h]at a;omega
 have hq:pt c.ms=pt c'.ms:=by refine oR hl fun j h1 h2=>?_;(have g1:(pt c.ms)[j]=(pt c.ms).getD j (bh,bh,bh):=by rw[aB,aC h1];rfl);(have g2:(pt c'.ms)[j]=(pt c'.ms).getD j (bh,bh,bh):=by rw[aB,aC h2];rfl);have a1:=e (10+4*j+1);have a2:=e (10+4*j+2);have a3:=e (10+4*j+3);rw[fD c j h1 1 Dc,fD c' j h2 1 Dc]at a1;rw[fD c j h1 2 Dc,fD c' j h2 2 Dc]at a2;rw[fD c j h1 3 Dc,fD c' j h2 3 Dc]at a3;rw[g1,g2];exact Prod.ext a1 (Prod.ext a2 a3)
 unfold bZ;rw[hq]
theorem yW{E:cw}{d:Q}{v:Except (Int×Int) (Ls Vl)}(hv:my E cS 0 d v):∃(V:Int) (ar N F T K:Q) (ms:Ls fO) (q k:Int),ms.length<=100000/\∀w e w',mM v w e w'->H w.heap.size w w'/\∃a c,e=Rt (Tu #[bW V ar N F T K (S a ms.length c),I J q,I J k])/\w'.ownsRow w.heap.size 73 3 (S a ms.length c) ms.length (dV ms):=by
 cases v with
 |error u=>
  obtain⟨k,q⟩:=u
  refine⟨0,⟨#[]⟩,⟨#[]⟩,⟨#[]⟩,⟨#[]⟩,⟨#[]⟩,[],q,k,Dc,fun w e w' h=>⟨h.1,Z,0,?_,bX _ _ _ _⟩⟩
  rcases h.2 with⟨k',q',e1,e2⟩|⟨c,pr,e1,_⟩
  ·cases e1;exact e2
  ·cases e1
 |ok vs=>
  obtain⟨hlen,c,rfl,hok⟩:=oB hv
  have hq:=jH c
  have hms:(bZ c).length=(pt c.ms).length:=by unfold bZ;rw[bY]
  obtain⟨pr,hp⟩:∃pr:Bool,pr=true↔aR 8 c.n:=⟨@decide (aR 8 c.n) (Classical.propDecidable _),Sq⟩
  have uni:∀c' pr',(Except.ok c.tree:Except (Int×Int) (Ls Vl))= .ok (CT.tree c')->(pr'=true↔aR 8 c'.n)->c'.vt=c.vt/\c'.s=c.s/\c'.n=c.n/\c'.ft=c.ft/\c'.tt=c.tt/\c'.k=c.k/\bZ c'=bZ c/\c'.tree=c.tree/\(c'.again pr').tree=(c.again pr).tree:=fun c' pr' e hp'=>by
   injection e with e
   obtain⟨a1,a2,a3,a4,a5,a6,a7⟩:=Bt e.symm
   have ep:pr'=pr:=by rw[fN,hp',hp,a3]
   refine⟨a1,a2,a3,a4,a5,a6,a7,e.symm,?_⟩
   unfold CT.again
   rw[a1,a2,a3,a4,a5,a6,a7,ep]
  by_cases hg:c.tree=(c.again pr).tree/\cN (b8 c.vt 0) c.s c.n c.ft c.tt c.k (bZ c).length/\dd (bZ c)
  ·refine⟨b8 c.vt 0,c.s,c.n,c.ft,c.tt,c.k,bZ c,0,0,O,fun w e w' h=>⟨h.1,?_⟩⟩
   rcases h.2 with⟨_,_,e1,_⟩|⟨c',pr',e1,_,_,hp',h2⟩
   ·cases e1
   ·obtain⟨a1,a2,a3,a4,a5,a6,a7,a8,a9⟩:=uni c' pr' e1 hp'
    rw[a1,a2,a3,a4,a5,a6,a7,a8,a9]at h2
    rcases h2 with⟨h2|h2,_⟩|⟨_,_,h2,_⟩|⟨_,_,_,ma,mc,h3,h4⟩
    ·exact Ab hg.1 h2
    ·exact Ab hg.2.1 h2
    ·exact Ab hg.2.2 h2
    ·exact⟨ma,mc,h3,h4⟩
  ·by_cases hc:c.tree≠(c.again pr).tree\/¬cN (b8 c.vt 0) c.s c.n c.ft c.tt c.k (bZ c).length
   ·refine⟨0,⟨#[]⟩,⟨#[]⟩,⟨#[]⟩,⟨#[]⟩,⟨#[]⟩,[],0,12,Dc,fun w e w' h=>⟨h.1,Z,0,?_,bX _ _ _ _⟩⟩
    rcases h.2 with⟨_,_,e1,_⟩|⟨c',pr',e1,_,_,hp',h2⟩
    ·cases e1
    ·obtain⟨a1,a2,a3,a4,a5,a6,a7,a8,a9⟩:=uni c' pr' e1 hp'
     rw[a1,a2,a3,a4,a5,a6,a7,a8,a9]at h2
     rcases h2 with⟨_,h2⟩|⟨q1,q2,_⟩|⟨q1,q2,_⟩
     ·exact h2
     ·exact Ab hc (fun z=>z.elim (fun z=>z q1) (fun z=>z q2))
     ·exact Ab hc (fun z=>z.elim (fun z=>z q1) (fun z=>z q2))
   ·have h1:c.tree=(c.again pr).tree:=cW fun q=>hc (.inl q)
    have h2:cN (b8 c.vt 0) c.s c.n c.ft c.tt c.k (bZ c).length:=cW fun q=>hc (.inr q)
    have h3:¬dd (bZ c):=fun q=>hg ⟨h1,h2,q⟩
    refine⟨0,⟨#[]⟩,⟨#[]⟩,⟨#[]⟩,⟨#[]⟩,⟨#[]⟩,[],0,13,Dc,fun w e w' h=>⟨h.1,Z,0,?_,bX _ _ _ _⟩⟩
    rcases h.2 with⟨_,_,e1,_⟩|⟨c',pr',e1,_,_,hp',h4⟩
    ·cases e1
    ·obtain⟨a1,a2,a3,a4,a5,a6,a7,a8,a9⟩:=uni c' pr' e1 hp'
     rw[a1,a2,a3,a4,a5,a6,a7,a8,a9]at h4
     rcases h4 with⟨q,_⟩|⟨_,_,_,h4⟩|⟨_,_,q,_⟩
     ·exact Ab q hc
     ·exact h4
     ·exact Ab q h3
theorem AE(d:Q)(W w:M)(B:Nat)(L:Ls (Vv×Nat×Int))(ak:Ls (Vv×Nat×Q))(nx:Int)(sn:Sn->Ad)(za:Ad)(hl:ls W sn)(hz:jM W sn za)(het:DE W)(hd:d.size<=1048576)(hI:zp W w B L ak nx)(hM:ak.length<=1099511627776)(hx1: -1099511627776<=nx)(hx2:nx<=0):Cs prog 27 #[Po (U (D B 0 Z)),Y d] w fun e w'=>e=Rt (Bo true)/\∃M',zp W w' B L M' (nx-1)/\M'.length=ak.length+4:=by
 obtain⟨E,v,hv,hcase⟩:=Bw jz.1 Cv 0 Dc d;have hsz:∀vs,v= .ok vs->Sz vs:=fun vs e=>by
  rcases hcase with⟨_,_,q,_⟩|⟨vs',F,q,_,hS,_⟩
  ·rw[q]at e;cases e
  rw[q]at e;cases e;exact hS
 obtain⟨V,ar,N,F,T,K,ms,q,k,hm,hflat⟩:=yW hv;have HP:Hi _:=fun wq hq=>(uJ E d v wq sn za (hl.below hq) (hz.below hq) (het.below hq) O hv hsz).mono fun e w' h=>hflat _ _ _ h;have HR:Hi _:=fun wq=>(sj E d v wq hd hv hsz (fun b hb=>qt b hb)).mono fun e w' h=>hflat _ _ _ h;have HEQ:Hi (∀a1 c1 a2 c2 wq,fj wq a1 ms->fj wq a2 ms->Cs prog 50 #[bW V ar N F T K (S a1 ms.length c1),bW V ar N F T K (S a2 ms.length c2)] wq fun e w'=>dB True wq e w'):=fun a1 c1 a2 c2 wq h1 h2=>(qR V V ar N F T K ar N F T K ms ms a1 a2 c1 c2 wq h1 h2 O O).mono fun e w' h=>by obtain⟨r,e1,e2,e3⟩:=h;exact⟨r,e1,⟨fun _=>trivial,fun _=>e2.2 ⟨⟨X,X,X,X,X,X⟩,X⟩⟩,e3⟩
 have HOM:Hi _:=fun la lc wq hb ho=>si W w wq B L ak nx la lc ms.length (dV ms) hI hb ho O hM hx1 hx2;have HNU:Hi _:=zT;have HIB:Hi _:=hI.bel;clear hl hz het hv hcase hsz hflat hI;unfold bW at HP HR HEQ;go_enter func27,ntmps27;go_wp2_with fail;refine(HP _ HIB).mono ?_;rintro e w1 ⟨hb1,a1,c1,rfl,ho1⟩;have HB1:=bx hb1;have HO1:=bx ho1;have HAL:Hi (H w1.heap.size w1 (w1.alloc (C (dz V ar N F T K (S a1 ms.length c1)) 68))):=Be;have HBX:Hi ((w1.alloc (C (dz V ar N F T K (S a1 ms.length c1)) 68)).heap[w1.heap.size]? =U (C (dz V ar N F T K (S a1 ms.length c1)) 68 (0,0))):=aA w1 _;clear hb1 ho1 HP;go_wp2_with fail;refine(HR _).mono ?_;rintro e w2 ⟨hb2,a2,c2,rfl,ho2⟩;have HB2:Hi _:=HAL.trans (hb2.mono HAL.size);have HBX2:Hi _:=ax HBX hb2;have HO2:=bx ho2;obtain⟨x0,x1,x2,x3,x4,x5,x6⟩:=r8 HBX2;have hl1:w1.heap.size<w2.heap.size:=aw x0;clear hb2 ho2 HR HBX HAL;have HA2:Hi (H w2.heap.size w2 (w2.alloc (C (dz V ar N F T K (S a2 ms.length c2)) 68))):=Be;have HE2:=bx (HEQ a1 c1 a2 c2 (w2.alloc (C (dz V ar N F T K (S a2 ms.length c2)) 68)) ((fj.of_own HO1).below (HB2.trans (HA2.mono HB2.size))) ((fj.of_own HO2).below HA2));go_wp2_with fail;refine HE2.mono ?_;rintro e w3 ⟨r,rfl,hr,hb3⟩;obtain rfl:r=true:=hr.2 trivial;have HB13:Hi _:=HB2.trans ((HA2.trans (hb3.mono HA2.size)).mono HB2.size);have HB3:Hi _:=HB1.trans (HB13.mono HB1.size);have HBX3:Hi _:=ax HBX2 (HA2.trans (hb3.mono HA2.size));clear x0 x1 x2 x3 x4 x5 x6 hl1 hr hb3;have x6:w3.cell? (D w1.heap.size 6 Z)=U (S a1 ms.length c1):=(r8 HBX3).2.2.2.2.2.2;have hl1:w1.heap.size<w3.heap.size:=aw x6;have HOM1:=bx (HOM a1 c1 w3 HB3 (bB HO1 HB13));clear HOM HE2 HEQ;go_wp2_with fail;refine HOM1.mono ?_;rintro e w4 ⟨rfl,h4⟩;have H4:=bx h4;clear h4 x6 hl1;go_wp2_with fail;refine(HNU _ _).mono ?_;rintro e w5 ⟨rfl,rfl⟩;go_wp2;go_ret;exact⟨X,H4⟩
theorem yY(v:Int)(s n f t k:Q)(ms:Ls fO):∃(b:Q) (x:Int),∀w e w',uO v s n f t k ms w e w'->H w.heap.size w w'/\e=Rt (Tu #[Y b,I J x]):=by
 obtain⟨pr,hp⟩:∃pr:Bool,pr=true↔aR 8 n:=⟨@decide (aR 8 n) (Classical.propDecidable _),Sq⟩;by_cases hc:cN v s n f t k ms.length
 ·by_cases hm:dd ms
  ·by_cases hb:4000<(ctOf v s n pr f t k ms).bytes.size
   ·refine⟨⟨#[]⟩,2,fun w e w' h=>⟨h.1,?_⟩⟩;rcases h.2 with⟨q,_⟩|⟨_,q,_⟩|⟨_,_,pr',hp',h2⟩
    ·exact Ab hc q
    ·exact Ab hm q
    (obtain rfl:pr'=pr:=by rw[fN,hp',hp]);rcases h2 with⟨_,h2⟩|⟨q,_⟩
    ·exact h2
    omega
   refine⟨(ctOf v s n pr f t k ms).bytes,0,fun w e w' h=>⟨h.1,?_⟩⟩;rcases h.2 with⟨q,_⟩|⟨_,q,_⟩|⟨_,_,pr',hp',h2⟩
   ·exact Ab hc q
   ·exact Ab hm q
   (obtain rfl:pr'=pr:=by rw[fN,hp',hp]);rcases h2 with⟨q,_⟩|⟨_,h2⟩
   ·exact Ab q hb
   exact h2
  refine⟨⟨#[]⟩,13,fun w e w' h=>⟨h.1,?_⟩⟩;rcases h.2 with⟨q,_⟩|⟨_,_,h2⟩|⟨_,q,_⟩
  ·exact Ab hc q
  ·exact h2
  exact Ab q hm
 refine⟨⟨#[]⟩,12,fun w e w' h=>⟨h.1,?_⟩⟩;rcases h.2 with⟨_,h2⟩|⟨q,_⟩|⟨q,_⟩
 ·exact h2
 ·exact Ab q hc
 exact Ab q hc
structure BO(W wr:M)(v:Int)(s n f t k:Q)(cv mv:Vv)(ms:Ls fO):Prop where
 bel:H W.heap.size W wr
 res:wr.heap[W.heap.size]? =U (C (dz v s n f t k cv) 68 (0,0))
 box:wr.heap[W.heap.size+1]? =U (C (dz v s n f t k mv) 68 (0,0))
 own:wr.ownsRow W.heap.size 73 3 mv ms.length (dV ms)
theorem BO.below{W wr w':M}{v:Int}{s n f t k:Q}{cv mv:Vv}{ms:Ls fO}(h:BO W wr v s n f t k cv mv ms)(hb:H wr.heap.size wr w'):BO W w' v s n f t k cv mv ms:=
 ⟨h.bel.trans (hb.mono h.bel.size),ax h.res hb,ax h.box hb,bB h.own hb⟩
theorem BO.put{W wr w':M}{v:Int}{s n f t k:Q}{cv mv:Vv}{ms:Ls fO}{g cap:Nat}(h:BO W wr v s n f t k cv mv ms)(m:fO)(h1:w'.ownsRow W.heap.size 73 3 (S (U (D g 0 Z)) (ms.length+1) cap) (ms.length+1) (dV ms++[Y m.kind,Bo m.must,Y m.body]))(h2:wr.grownBy w' mv.ownBlock):BO W (w'.setCell (D (W.heap.size+1) 6 Z) (S (U (D g 0 Z)) (ms.length+1) cap)) v s n f t k cv (S (U (D g 0 Z)) (ms.length+1) cap) (ms++[m])/\w'.cell? (D (W.heap.size+1) 6 Z)=U mv/\w'.frozen? (D (W.heap.size+1) 6 Z)=false/\w'.heap[W.heap.size]? =U (C (dz v s n f t k cv) 68 (0,0))/\H W.heap.size W w':=by
 have hC:w'.heap[W.heap.size+1]? =U (C (dz v s n f t k mv) 68 (0,0)):=by rw[h2.block _ (bm h.box) (fun q=>cJ h.box h.own Dc q.symm)];exact h.box
 have hR:w'.heap[W.heap.size]? =U (C (dz v s n f t k cv) 68 (0,0)):=by rw[h2.block _ (bm h.res) (fun q=>cJ h.res h.own Dc q.symm)];exact h.res
 have hBl:H W.heap.size W w':=h.bel.grown h2 h.bel.size (fun k hk=>(h.own.lt k hk).1);refine⟨⟨hBl.setCell (jt _) _,by rw[aP _ _ _ _ Sq];exact hR,bn w' _ 6 _ _ _ hC,?_⟩,by simp[Wc,hC],by simp[Wf,hC],hR,hBl⟩;rw[j7,aQ];exact aJ h1 (cJ hC h1 Dc) _
theorem yD(v:Int)(s n f t k:Q)(ms:Ls fO)(ma:Oo Ad)(mc:Nat)(w:M)(sn:Sn->Ad)(za:Ad)(hl:ls w sn)(hz:jM w sn za)(hin:fj w ma ms)(hS:Gz s n f t k ms)(hn:ms.length<=400000)(hcap:ms.length<=mc):Cs prog 28 #[bW v s n f t k (S ma ms.length mc)] w fun e w'=>e=Rt (Bo true)/\H w.heap.size w w':=by
 obtain⟨bb,xx,hflat⟩:=yY v s n f t k ms;have HP:Hi _:=fun ga gc wq hq hi hg=>(so v s n f t k ms ga gc wq sn za (hl.below hq) (hz.below hq) hS.cdT hi O hg).mono fun e w' h=>hflat _ _ _ h;have HR:Hi _:=fun wq hq=>(rf v s n f t k ms ma mc wq (fun j hj=>qt _ (hS.ms j hj).2) (hin.below hq) hS O hcap).mono fun e w' h=>hflat _ _ _ h;have HEQ:Hi (∀a1 c1 wq,H w.heap.size w wq->fj wq a1 ms->Cs prog 50 #[bW v s n f t k (S a1 ms.length c1),bW v s n f t k (S ma ms.length mc)] wq fun e w'=>dB True wq e w'):=fun a1 c1 wq hq h1=>(qR v v s n f t k s n f t k ms ms a1 ma c1 mc wq h1 (hin.below hq) O O).mono fun e w' h=>by obtain⟨r,e1,e2,e3⟩:=h;exact⟨r,e1,⟨fun _=>trivial,fun _=>e2.2 ⟨⟨X,X,X,X,X,X⟩,X⟩⟩,e3⟩
 have HNU:Hi _:=zT;have HIN:=bx hin;have HI0:Hi (BO w ((w.alloc (C (dz v s n f t k (S ma ms.length mc)) 68)).alloc (C (dz v s n f t k (S Z 0 0)) 68)) v s n f t k (S ma ms.length mc) (S Z 0 0) []):=by have h1:=aA w (C (dz v s n f t k (S ma ms.length mc)) 68);have h2:=aA (w.alloc (C (dz v s n f t k (S ma ms.length mc)) 68)) (C (dz v s n f t k (S Z 0 0)) 68);have e:(w.alloc (C (dz v s n f t k (S ma ms.length mc)) 68)).heap.size=w.heap.size+1:=Sq;rw[e]at h2;exact⟨(Be).alloc Sq _,ax h1 Be,h2,bX _ _ _ _⟩
 clear hl hz hin hS hflat;unfold bW at HP HR HEQ ⊢;obtain⟨i0,hi0,hz0,hz1,hz2⟩:=dD jk;go_enter func28,ntmps28;go_wp2_with fail;go_loopw [4] (fun vi wr=>∃(j:Nat) (mv:Vv),j<=ms.length/\vi=I J j/\BO w wr v s n f t k (S ma ms.length mc) mv (ms.take j)) (fun vi _=>ms.length-(Io vi).toNat);case atStart=>exact⟨0,_,Lz,X,HI0⟩
 obtain⟨j,mv,hj,rfl,hI⟩:=hrel;have HI:=bx hI;have hlj:(ms.take j).length=j:=by rw[gF];omega
 have HLJ:=bx hlj;obtain⟨x0,x1,x2,x3,x4,x5,x6⟩:=r8 hI.res;have hlw:w.heap.size<wr.heap.size:=aw x0;clear hI hlj x0 x1 x2 x3 x4 x5;by_cases hlt:j<ms.length
 ·have hlt':(j:Int)<ms.length:=O;obtain⟨g,o,rfl,e0,e1,e2⟩:=HIN j hlt;have hm1:ms.take (j+1)=ms.take j++[ms.getD j iy]:=by rw[eB,aC hlt,aB,aC hlt];rfl
  obtain⟨m,hm⟩:∃m,ms.getD j iy=m:=Ey;rw[hm]at hm1 e0 e1 e2;obtain⟨L,hL⟩:∃L,ms.take j=L:=Ey;rw[hL]at HI HLJ hm1;have HM:=bx hm1;have c6:wr.cell? (D (w.heap.size+1) 6 Z)=U mv:=by simp[Wc,HI.box]
  have hcw:w.heap.size+1<wr.heap.size:=bm HI.box;have HSK:Hi (∀wq,H w.heap.size w wq->wq.heap[w.heap.size]? =U (C (dz v s n f t k (S (U (D g o Z)) ms.length mc)) 68 (0,0))->wq.cell? (D w.heap.size 6 Z)=U (S (U (D g o Z)) ms.length mc)/\wq.cell? (D g (o+j*3) Z)=U (Y m.kind)/\wq.cell? (D g (o+j*3+1) Z)=U (Bo m.must)/\wq.cell? (D g (o+j*3+2) Z)=U (Y m.body)):=fun wq q hr=>⟨(r8 hr).2.2.2.2.2.2,(q.cell (aw e0)).trans e0,(q.cell (aw e1)).trans e1,(q.cell (aw e2)).trans e2⟩;clear e0 e1 e2 hm hm1 hL;go_upto_region 6 with fail;have HAP:Hi (∀(w6:M) (g6 cap6:Nat),w6.ownsRow w.heap.size 73 3 (S (U (D g6 0 Z)) (L.length+1) cap6) (L.length+1) (dV L++[Y m.kind,Bo m.must,Y m.body])->(wr.alloc (C #[Y m.kind,Bo m.must,Y m.body] 73)).drew.grownBy w6 mv.ownBlock->BO w (w6.setCell (D (w.heap.size+1) 6 Z) (S (U (D g6 0 Z)) (L.length+1) cap6)) v s n f t k (S (U (D g o Z)) ms.length mc) (S (U (D g6 0 Z)) (L.length+1) cap6) (ms.take (j+1))/\w6.cell? (D (w.heap.size+1) 6 Z)=U mv/\w6.frozen? (D (w.heap.size+1) 6 Z)=false/\(H w.heap.size w w6/\w6.heap[w.heap.size]? =U (C (dz v s n f t k (S (U (D g o Z)) ms.length mc)) 68 (0,0)))):=fun w6 g6 cap6 h1 h2=>by have hA:=HI.below (((By).alloc Ln (C #[Y m.kind,Bo m.must,Y m.body] 73)).drew);obtain⟨q1,q2,q3,q4,q5⟩:=hA.put m h1 h2;refine⟨?_,q2,q3,q5,q4⟩;rw[HM.out];exact q1
  have HTA:Hi (H w.heap.size w (wr.alloc (C #[Y m.kind,Bo m.must,Y m.body] 73)).drew/\(wr.alloc (C #[Y m.kind,Bo m.must,Y m.body] 73)).drew.heap[w.heap.size]? =U (C (dz v s n f t k (S (U (D g o Z)) ms.length mc)) 68 (0,0))):=⟨(HI.bel.alloc HI.bel.size _).drew,ax HI.res ((Be).drew)⟩;refine wp_region_held_drew (S:=fun w'=>w'.cell? (D w.heap.size 6 Z)=U (S (U (D g o Z)) ms.length mc)/\w'.cell? (D g (o+j*3) Z)=U (Y m.kind)/\w'.cell? (D g (o+j*3+1) Z)=U (Bo m.must)/\w'.cell? (D g (o+j*3+2) Z)=U (Y m.body)) Kr ?_ (fun hHeld=>?_)
  ·exact HSK _ HI.bel.drew HI.res
  refine tk 0 ?_;try simp only[Ap,az,aI,aH]
  refine tk 2 ?_;try simp only[Ap,az,aI,aH]
  refine tk 3 ?_;try simp only[Ap,az,aI,aH]
  refine tk 4 ?_;try simp only[Ap,az,aI,aH]
  refine tk 5 ?_;try simp only[Ap,az,aI,aH]
  refine tk 6 ?_;try simp only[Ap,az,aI,aH]
  refine wpAnyH_ready (rs:=[1,7]) Kr Sq ?_;refine AllReadyH.cons X (fun K hK=>?_) (AllReadyH.cons X (fun K hK=>?_) AllReadyH.nil)
  ·go_simp;refine hK.out _ _ ?_ (fun hHeld2=>?_)
   ·exact HSK _ HI.bel.drew HI.res
   clear hK K;refine wpAnyH_ready (rs:=[7]) Kr Sq ?_;refine AllReadyH.cons X (fun K hK=>?_) AllReadyH.nil;go_simp;refine hK.out _ _ ?_ (fun hHeld3=>?_)
   ·exact HSK _ HTA.1 HTA.2
   clear hK K;refine wpAnyH_ready (rs:=[8]) Kr Sq ?_;refine AllReadyH.cons X (fun K hK=>?_) AllReadyH.nil;refine step_append_lies _ X (.tmp 20) (.tmp 26) 66 X w.heap.size 73 i0 ei 3 40 underlying66 hi0 hz0 hz1 hz2 X Dc mv L.length (dV L) (by simp[Ae,Ap]) ((HI.out.own.alloc _).drew) (D wr.heap.size 0 Z) 1 1 [Y m.kind,Bo m.must,Y m.body] (by simp[Ae,Ap]) X (World.news_of_block (w:=(wr.alloc (C #[Y m.kind,Bo m.must,Y m.body] 73)).drew) (aA wr (C #[Y m.kind,Bo m.must,Y m.body] 73))) (by intro u hu;simp at hu;rcases hu with rfl|rfl|rfl<;>rfl) Dc (by have:=HLJ.out;unfold maxLen;omega) (by have:=HLJ.out;omega) (by have:=HI.out.bel.size;simp;omega) (wr.heap.size+1) Sq ?_;intro g6 cap6 w6 h1 h2 h3 h4;obtain⟨hC6,t6,y6,hb6⟩:=HAP w6 g6 cap6 h1 h2;have HC6:=bx hC6;have hl6:w.heap.size+1<w6.heap.size:=aw t6;have HB6:=bx hb6;clear h1 h2 h3 h4 hC6 hb6;refine hK.out _ _ ?_ (fun hHeld4=>?_)
   ·exact HSK _ HB6.1 HB6.2
   clear hK K;refine tk 9 ?_;(try simp only[Ap,az,aI,aH]);refine wpAnyH_ready (rs:=[10]) Kr Sq ?_;refine AllReadyH.cons X (fun K hK=>?_) AllReadyH.nil;go_simp;refine hK.out _ _ ?_ (fun hHeld5=>?_)
   ·exact HSK _ HC6.bel HC6.res
   clear hK K;refine wpAnyH_done Kr ?_ _;have HC7:Hi (∃mv',BO w (w6.setCell (D (w.heap.size+1) 6 Z) (S (U (D g6 0 Z)) (L.length+1) cap6)) v s n f t k (S (U (D g o Z)) ms.length mc) mv' (ms.take (j+1))):=⟨_,HC6⟩;generalize w6.setCell (D (w.heap.size+1) 6 Z) (S (U (D g6 0 Z)) (L.length+1) cap6)=w7 at HC7 ⊢;clear hHeld hHeld2 hHeld3 hHeld4 hHeld5 c6 t6 y6 HC6 hl6 HB6 HAP HSK;go_wp2;obtain⟨mv',h7⟩:=HC7.out;exact⟨⟨j+1,mv',O,Gn,h7⟩,by simp[Io];omega⟩
  go_simp;refine hK.out _ _ ?_ (fun hHeld2=>?_)
  ·exact HSK _ HTA.1 HTA.2
  clear hK K;refine wpAnyH_ready (rs:=[1]) Kr Sq ?_;refine AllReadyH.cons X (fun K hK=>?_) AllReadyH.nil;go_simp;refine hK.out _ _ ?_ (fun hHeld3=>?_)
  ·exact HSK _ HTA.1 HTA.2
  clear hK K;refine wpAnyH_ready (rs:=[8]) Kr Sq ?_;refine AllReadyH.cons X (fun K hK=>?_) AllReadyH.nil;refine step_append_lies _ X (.tmp 20) (.tmp 26) 66 X w.heap.size 73 i0 ei 3 40 underlying66 hi0 hz0 hz1 hz2 X Dc mv L.length (dV L) (by simp[Ae,Ap]) ((HI.out.own.alloc _).drew) (D wr.heap.size 0 Z) 1 1 [Y m.kind,Bo m.must,Y m.body] (by simp[Ae,Ap]) X (World.news_of_block (w:=(wr.alloc (C #[Y m.kind,Bo m.must,Y m.body] 73)).drew) (aA wr (C #[Y m.kind,Bo m.must,Y m.body] 73))) (by intro u hu;simp at hu;rcases hu with rfl|rfl|rfl<;>rfl) Dc (by have:=HLJ.out;unfold maxLen;omega) (by have:=HLJ.out;omega) (by have:=HI.out.bel.size;simp;omega) (wr.heap.size+1) Sq ?_;intro g6 cap6 w6 h1 h2 h3 h4;obtain⟨hC6,t6,y6,hb6⟩:=HAP w6 g6 cap6 h1 h2;have HC6:=bx hC6;have hl6:w.heap.size+1<w6.heap.size:=aw t6;have HB6:=bx hb6;clear h1 h2 h3 h4 hC6 hb6;refine hK.out _ _ ?_ (fun hHeld4=>?_)
  ·exact HSK _ HB6.1 HB6.2
  clear hK K;refine tk 9 ?_;try simp only[Ap,az,aI,aH]
  refine wpAnyH_ready (rs:=[10]) Kr Sq ?_;refine AllReadyH.cons X (fun K hK=>?_) AllReadyH.nil;go_simp;refine hK.out _ _ ?_ (fun hHeld5=>?_)
  ·exact HSK _ HC6.bel HC6.res
  clear hK K;refine wpAnyH_done Kr ?_ _;have HC7:Hi (∃mv',BO w (w6.setCell (D (w.heap.size+1) 6 Z) (S (U (D g6 0 Z)) (L.length+1) cap6)) v s n f t k (S (U (D g o Z)) ms.length mc) mv' (ms.take (j+1))):=⟨_,HC6⟩;generalize w6.setCell (D (w.heap.size+1) 6 Z) (S (U (D g6 0 Z)) (L.length+1) cap6)=w7 at HC7 ⊢;clear hHeld hHeld2 hHeld3 hHeld4 hHeld5 c6 t6 y6 HC6 hl6 HB6 HAP HSK;go_wp2;obtain⟨mv',h7⟩:=HC7.out;exact⟨⟨j+1,mv',O,Gn,h7⟩,by simp[Io];omega⟩
 have hlt':(ms.length:Int)<=j:=O;obtain rfl:j=ms.length:=O;have hms:ms.take ms.length=ms:=gG;have HE:Hi (BO w wr v s n f t k (S ma ms.length mc) mv ms):=by have h:=HI.out;rw[hms]at h;exact h
 obtain⟨ga,gc,rfl,hcp⟩:=iB HE.own;have HP1:=bx (HP ga gc wr HE.bel (fj.of_own HE.own) (jr HE.own));obtain⟨c0,c1,c2,c3,c4,c5,c6⟩:=r8 HE.box;have hlb:w.heap.size+1<wr.heap.size:=aw c0;clear HI HLJ hms hcp HP HI0 hj;go_wp2_with fail;refine HP1.mono ?_;rintro e w2 ⟨hb2,rfl⟩;have HE2:=bx (HE.below hb2);have HR2:=bx (HR w2 HE2.bel);clear hb2 c0 c1 c2 c3 c4 c5 c6 x6 hlw hlb HP1 HR HE;obtain⟨x0,x1,x2,x3,x4,x5,x6⟩:=r8 HE2.res;have hlw:w.heap.size<w2.heap.size:=aw x0;go_wp2_with fail;refine HR2.mono ?_;rintro e w3 ⟨hb3,rfl⟩;have HE3:=bx (HE2.below hb3);have HQ3:=bx (HEQ ga gc w3 HE3.bel (fj.of_own HE3.own));clear hb3 x0 x1 x2 x3 x4 x5 x6 hlw HR2 HEQ HE2;obtain⟨x0,x1,x2,x3,x4,x5,x6⟩:=r8 HE3.res;obtain⟨c0,c1,c2,c3,c4,c5,c6⟩:=r8 HE3.box;have hlw:w.heap.size<w3.heap.size:=aw x0;have hlb:w.heap.size+1<w3.heap.size:=aw c0;go_wp2_with fail;refine HQ3.mono ?_;rintro e w4 ⟨r,rfl,hr,hb4⟩;obtain rfl:r=true:=hr.2 trivial;have HB4:Hi _:=HE3.bel.trans (hb4.mono HE3.bel.size);clear hr hb4 x0 x1 x2 x3 x4 x5 x6 c0 c1 c2 c3 c4 c5 c6 hlw hlb;go_wp2_with fail;refine(HNU _ _).mono ?_;rintro e w5 ⟨rfl,rfl⟩;go_wp2;go_ret;exact⟨X,HB4⟩
end Go.Proofs.YtkkicodfpekbgaaGreatDoor
