/-
hallmarkref.ReadCard: what it answers.
-/
import Derived.Test.YtkkicodfpekbgaaGreatDoorJi0
open Go.Value renaming int->I,string->Y,slice->S,pointer->Po,bool->Bo,tuple->Tu
open Go.IntKind renaming i64->J
open Go.Obj renaming cells->C
open Go.Ending renaming returned->Rt
open Option renaming some->U,none->Z
open Go renaming World->M,Calls->Cs,Addr->Ad,Value->Vv
open _root_ renaming ByteArray->Q,Option->Oo,List->Ls
open Go.World renaming cell?->Wc,frozen?->Wf
open Go.Act renaming put->Ap,eval->Ae
open Go.RowKit renaming intOf->Io,Hid->Hi
open Go.Addr renaming mk->D
set_option linter.all false
set_option maxRecDepth 100000
set_option maxHeartbeats 8000000
namespace Go.Proofs.YtkkicodfpekbgaaGreatDoor
variable{aB:Array Vv}{pr:Bool}{c:CT}{v:Except (Int×Int) (Ls Vl)}{W wr w' w:M}{ag B g:Nat}{s n f t k:Q}{mv:Vv}
open Go.RowKit
structure ue(W wr:M)(ag:Nat)(aB:Array Vv)(B:Nat)(v:Int)(s n f t k:Q)(mv:Vv)(ms:Ls du):Prop where
 bel:Bw W wr
 res:wr.heap[W.heap.size]? =U (C lh 68 (0,0))
 non:wr.heap[W.heap.size+1]? =U (C lh 68 (0,0))
 box:wr.heap[B]? =U (C (ib v s n f t k mv) 68 (0,0))
 far:W.heap.size+1<B
 tr:wr.heap[ag]? =U (C aB 60 (0,0))
 own:wr.ownsRow W.heap.size 73 3 mv ms.length (lj ms)
theorem ue.below{v:Int}{ms:Ls du}(h:ue W wr ag aB B v s n f t k mv ms)(hb:Bw wr w'):ue W w' ag aB B v s n f t k mv ms:=
 ⟨Tm h.bel hb,bc h.res hb,bc h.non hb,bc h.box hb,h.far,bc h.tr hb,fm h.own hb⟩
theorem ue.put{v:Int}{ms:Ls du}{cap:Nat}(h:ue W wr ag aB B v s n f t k mv ms)(m:du)(h1:w'.ownsRow W.heap.size 73 3 (S (U (D g 0 Z)) (ms.length+1) cap) (ms.length+1) (lj ms++[Y m.kind,Bo m.must,Y m.body]))(h2:wr.grownBy w' mv.ownBlock):ue W (w'.setCell (D B 6 Z) (S (U (D g 0 Z)) (ms.length+1) cap)) ag aB B v s n f t k (S (U (D g 0 Z)) (ms.length+1) cap) (ms++[m])/\w'.cell? (D B 6 Z)=U mv/\w'.frozen? (D B 6 Z)=false/\w'.heap[ag]? =U (C aB 60 (0,0)):=by
 have hf:=h.far;have hGB:ag≠B:=fun e=>by have a:=h.tr;rw[e,h.box]at a;injection a with a;injection a with _ a;exact Ab a Dc
 have hT:w'.heap[ag]? =U (C aB 60 (0,0)):=by rw[h2.block _ (eb h.tr) (fun q=>jb h.tr h.own Dc q.symm)];exact h.tr
 have hC:w'.heap[B]? =U (C (ib v s n f t k mv) 68 (0,0)):=by rw[h2.block _ (eb h.box) (fun q=>jb h.box h.own Dc q.symm)];exact h.box
 have hR:w'.heap[W.heap.size]? =U (C lh 68 (0,0)):=by rw[h2.block _ (eb h.res) (fun q=>jb h.res h.own Dc q.symm)];exact h.res
 have hN:w'.heap[W.heap.size+1]? =U (C lh 68 (0,0)):=by rw[h2.block _ (eb h.non) (fun q=>jb h.non h.own Dc q.symm)];exact h.non
 refine⟨⟨(h.bel.grown h2 h.bel.size (fun k hk=>(h.own.lt k hk).1)).setCell (by show W.heap.size<=B;omega) _,by rw[ez _ _ _ _ (by show W.heap.size≠B;omega)];exact hR,by rw[ez _ _ _ _ (by show W.heap.size+1≠B;omega)];exact hN,iw w' _ 6 _ _ _ hC,hf,by rw[ez _ _ _ _ (by show ag≠B;exact hGB)];exact hT,?_⟩,by simp[Wc,hC],by simp[Wf,hC],hT⟩;rw[Oy,ff];exact dk h1 (jb hC h1 Dc) _
theorem agG(c:CT):((vl c.tree 9).kind=11/\(vl c.tree 9).kids=0/\c.ms=U [])\/((vl c.tree 9).kind=15/\c.ms≠U [])\/((vl c.tree 9).kind=11/\(vl c.tree 9).kids≠0/\c.ms≠U []):=by
 have e:vl c.tree 9=vl (qt c.ms) 0:=by unfold CT.tree;exact Du (a:=wy c.vt c.s c.n c.pr c.ft c.tt c.k) (b:=qt c.ms) (j:=0)
 rw[e]
 cases hm:c.ms with
 |none=>exact .inr (.inl ⟨X,fun q=>by cases q⟩)
 |some qs=>
  cases qs with
  |nil=>exact .inl ⟨X,X,X⟩
  |cons q qs=>exact .inr (.inr ⟨X,by show(((q::qs).length:Nat):Int)≠0;rw[fu];omega,fun z=>by cases z⟩)
theorem wv{v:Int}(h:w.heap[g]? =U (C (ib v s n f t k mv) 68 (0,0))):w.cell? (D g 0 Z)=U (I J v)/\w.cell? (D g 1 Z)=U (Y s)/\w.cell? (D g 2 Z)=U (Y n)/\w.cell? (D g 3 Z)=U (Y f)/\w.cell? (D g 4 Z)=U (Y t)/\w.cell? (D g 5 Z)=U (Y k)/\w.cell? (D g 6 Z)=U mv:=⟨by simp[Wc,h],by simp[Wc,h],by simp[Wc,h],by simp[Wc,h],by simp[Wc,h],by simp[Wc,h],by simp[Wc,h]⟩
theorem ahN{k q:Int}(hb:Bw w w')(hv:v= .error (k,q)):wj v w (Rt (Tu #[po,I J q,I J k])) w':=⟨hb,.inl ⟨k,q,hv,X⟩⟩
theorem Yr(hb:Bw w w')(hx:v= .ok c.tree/\c.Ok/\Sz c.tree/\c.tree.length<=400000)(hp:pr=true↔bu 8 c.n)(h:c.tree≠(c.again pr).tree\/¬ij (b8 c.vt 0) c.s c.n c.ft c.tt c.k (cu c).length):wj v w (Rt (Tu #[po,I J 0,I J 12])) w':=⟨hb,.inr ⟨c,pr,hx.1,hx.2.1,hx.2.2.1,hp,.inl ⟨h,X⟩⟩⟩
theorem ahP(hb:Bw w w')(hx:v= .ok c.tree/\c.Ok/\Sz c.tree/\c.tree.length<=400000)(hp:pr=true↔bu 8 c.n)(he:c.tree=(c.again pr).tree)(hc:ij (b8 c.vt 0) c.s c.n c.ft c.tt c.k (cu c).length)(hm:¬kx (cu c)):wj v w (Rt (Tu #[po,I J 0,I J 13])) w':=⟨hb,.inr ⟨c,pr,hx.1,hx.2.1,hx.2.2.1,hp,.inr (.inl ⟨he,hc,hm,X⟩)⟩⟩
theorem ahQ{ma:Oo Ad}{mc:Nat}(hb:Bw w w')(hx:v= .ok c.tree/\c.Ok/\Sz c.tree/\c.tree.length<=400000)(hp:pr=true↔bu 8 c.n)(he:c.tree=(c.again pr).tree)(hc:ij (b8 c.vt 0) c.s c.n c.ft c.tt c.k (cu c).length)(hm:kx (cu c))(ho:w'.ownsRow w.heap.size 73 3 (S ma (cu c).length mc) (cu c).length (lj (cu c))):wj v w (Rt (Tu #[dm (b8 c.vt 0) c.s c.n c.ft c.tt c.k (S ma (cu c).length mc),I J 0,I J 0])) w':=⟨hb,.inr ⟨c,pr,hx.1,hx.2.1,hx.2.2.1,hp,.inr (.inr ⟨he,hc,hm,ma,mc,X,ho⟩)⟩⟩
theorem ahy(E:bj)(d:Q)(v:Except (Int×Int) (Ls Vl))(w:M)(hd:d.size<=1048576)(hv:pb E cS 0 d v)(bX:∀vs,v= .ok vs->Sz vs)(fT:∀b:Q,b.size<=1048576->Ea b):Cs Tryz.prog 49 #[Y d] w fun e w'=>wj v w e w':=by
 have TC:Hi (∀wq,Cs Tryz.prog 80 #[] wq fun e w'=>∃g,e=Rt (S (U (D g 0 Z)) 14 14)/\ew w' (U (D g 0 Z)) dS/\Bw wq w'):=fun wq=>ahw wq;have TI:Hi (∀g wq,ew wq (U (D g 0 Z)) dS->Cs Tryz.prog 40 #[S (U (D g 0 Z)) 14 14,I J 0,Y d] wq fun e w'=>wi v wq e w'):=fun g wq hs=>by obtain⟨E2,h2⟩:=adv hv;exact Yi E2 dS (U (D g 0 Z)) 14 0 d v wq hs ads Dc O h2
 have oF:Hi (∀(c:CT) wq,Sz c.tree->Cs Tryz.prog 81 #[Y c.n] wq fun e w'=>∃pr:Bool,e=Rt (Bo pr)/\(pr=true↔bu 8 c.n)/\Bw wq w'):=fun c wq hz=>(Oq c.n wq (by have:=(Iz hz).n;omega)).mono fun e w' r=>(r.to (Iy c.n)).toW;have BL:Hi (∀(c:CT) wq,v= .ok c.tree->Sz c.tree->c.tree.length<=400000->∀ma mc,il wq ma (cu c)->(cu c).length<=mc->Cs Tryz.prog 82 #[dm (b8 c.vt 0) c.s c.n c.ft c.tt c.k (S ma (cu c).length mc)] wq fun e w'=>Me (b8 c.vt 0) c.s c.n c.ft c.tt c.k (cu c) wq e w'):=fun c wq E9 hz hl ma mc eN kK=>by have hT:=Iz hz;exact Wo _ _ _ _ _ _ _ ma mc wq (fun j hj=>fT _ (acV (acY (by rw[<-E9];exact hv)) j hj)) eN hT.s hT.n hT.f hT.t hT.k hT.ms (by have:=u7 c;unfold cu;rw[ou];omega) kK
 have HNZ:Hi (∀k q,v= .error (k,q)->k≠0):=fun k q e=>by
  subst e;rcases hv with⟨_,q⟩|⟨_,_,q⟩|⟨_,_,_,_,_,f,_,hf⟩;·cases q;decide
  ·cases q;decide
  unfold jh at hf;rcases mg hf with⟨u,h1,h2⟩|⟨us,z,h1,h2⟩;·cases h2;exact yu _ _ _ _ _ _ h1 _ _ X
  split at h2;·cases h2;decide
  cases h2
 have HV:=dt hv;have gU:=dt bX;clear hv bX fT;have T4:Hi ((w.alloc (C lh 68)).heap[w.heap.size]? =U (C lh 68 (0,0))):=bl w _;have tE:Hi (((w.alloc (C lh 68)).alloc (C lh 68)).heap[w.heap.size+1]? =U (C lh 68 (0,0))):=by have h:=bl (w.alloc (C lh 68)) (C lh 68);rw[show(w.alloc (C lh 68)).heap.size=w.heap.size+1 by simp]at h;exact h
 go_enter Tryz.func49,Tryz.ntmps49;go_wp2_with fail;refine(TC _).mono ?_;rintro e w1 ⟨g,rfl,jB,hb1⟩;have aC:Hi (Bw w w1):=by have h:=((cm w.heap.size w).alloc Ln (C lh 68)).alloc Sq (C lh 68);exact Tm h hb1
 have cF:Hi (w1.heap[w.heap.size]? =U (C lh 68 (0,0))/\w1.heap[w.heap.size+1]? =U (C lh 68 (0,0))):=⟨bc (bc T4 Be) hb1,bc tE hb1⟩;have KI:=dt (TI g w1 jB);clear jB hb1 TI TC T4 tE;go_wp2_with fail;refine KI.mono ?_;rintro e w2 ⟨hb2,h2⟩;have aD:Hi (Bw w w2):=Tm aC hb2;have eL:Hi (w2.heap[w.heap.size]? =U (C lh 68 (0,0))/\w2.heap[w.heap.size+1]? =U (C lh 68 (0,0))):=⟨bc cF.1 hb2,bc cF.2 hb2⟩;have eZ:=eb eL.2;have kG:(∃k q,v= .error (k,q)/\k≠0/\e=Rt (Tu #[S Z 0 0,I J q,I J k]))\/(∃vs ta tc,v= .ok vs/\e=Rt (Tu #[S ta vs.length tc,I J 0,I J 0])/\w2.ownsRow w1.heap.size 60 4 (S ta vs.length tc) vs.length (df vs)):=by
  cases cR:v with
  |error u=>
   obtain⟨k,q⟩:=u
   rw[cR]at h2
   exact .inl ⟨k,q,X,HNZ k q cR,h2⟩
  |ok vs=>
   rw[cR]at h2
   obtain⟨ta,tc,h3,h4⟩:=h2
   exact .inr ⟨vs,ta,tc,X,h3,h4⟩
 clear h2 hb2 KI;rcases kG with⟨k,q,cR,fI,rfl⟩|⟨vs,ta,tc,cR,rfl,ho⟩;·have HF:=dt cR;(have iB:(k !=0)=true:=by simp[fI]);obtain⟨z0,z1,z2,z3,z4,z5,z6,y0,y1,y2,y3,y4,y5,y6⟩:=uX eL.1;obtain⟨n0,n1,n2,n3,n4,n5,n6,_⟩:=uX eL.2;clear cR fI;go_wp2_with fail;refine db (v:=Tu #[po,I J q,I J k]) (by simp[results,Tryz.results49,go_sem,dm,z0,z1,z2,z3,z4,z5,z6]) X ?_;exact ahN (uO aD _ _ _ _ _ _ _) HF
 obtain⟨bP,c,rfl,hok⟩:=Oa (by rw[<-cR];exact HV);have hS:=gU _ cR;have AU:=qf.of_own ho;have kK:=Do ho;have HX:=dt (And.intro cR (And.intro hok (And.intro hS bP)));have UI:=dt (fun wq=>oF c wq hS);have hq:=u7 c;obtain⟨n,hn⟩:∃n,c.tree.length=n:=Ey;have wU:1<=c.vt.size:=((xd _).2 hok.vt).1;have UP:=dt AU;obtain⟨ga,o,rfl,_⟩:=AU 0 O;have cell:∀j,j<c.tree.length->w2.cell? (D ga (o+j*4) Z)=U (I J (vl c.tree j).kind)/\w2.cell? (D ga (o+j*4+1) Z)=U (Y (vl c.tree j).text)/\w2.cell? (D ga (o+j*4+3) Z)=U (I J (vl c.tree j).kids):=fun j hj=>by obtain⟨g',o',e,h1,h2,_,h4⟩:=UP j hj;injection e with e;injection e with e1 e2 _;subst e1 e2;exact⟨h1,h2,h4⟩
 have d1:=(cell 1 O).2.1;have d2:w2.cell? (D ga (o+9) Z)=U (Y c.s):=(cell 2 O).2.1;have d4:w2.cell? (D ga (o+17) Z)=U (Y c.n):=(cell 4 O).2.1;have U3:w2.cell? (D ga (o+16) Z)=U (I J (if c.pr then 8 else 7)):=(cell 4 O).1;have d6:w2.cell? (D ga (o+25) Z)=U (Y c.ft):=(cell 6 O).2.1;have d7:w2.cell? (D ga (o+29) Z)=U (Y c.tt):=(cell 7 O).2.1;have d8:w2.cell? (D ga (o+33) Z)=U (Y c.k):=(cell 8 O).2.1;have U4:w2.cell? (D ga (o+36) Z)=U (I J (vl c.tree 9).kind):=(cell 9 O).1;have U5:w2.cell? (D ga (o+39) Z)=U (I J (vl c.tree 9).kids):=(cell 9 O).2.2;obtain⟨aB,fU⟩:∃aB,w2.heap[ga]? =U (C aB 60 (0,0)):=by
  rcases ho.2 with⟨_,q⟩|⟨g',cap,aB,e,_,dY,_⟩;·omega
  injection e with e;injection e with e;injection e with e1;subst e1;exact⟨aB,dY⟩
 have oU:=dt cell;have TE:=dt fU;have dZ:ga<w2.heap.size:=bp d1;rw[hn];have XX:(10:Int)<=n:=O;have HD:Hi (∀wq,Bw w2 wq->wq.cell? (D ga (o+9) Z)=U (Y c.s)/\wq.cell? (D ga (o+17) Z)=U (Y c.n)/\wq.cell? (D ga (o+25) Z)=U (Y c.ft)/\wq.cell? (D ga (o+29) Z)=U (Y c.tt)/\wq.cell? (D ga (o+33) Z)=U (Y c.k)):=fun wq q=>⟨Cb q d2,Cb q d4,Cb q d6,Cb q d7,Cb q d8⟩;have NM:Hi (∀wq,Bw w2 wq->wq.cell? (D ga (o+5) Z)=U (Y c.vt)/\wq.cell? (D ga (o+16) Z)=U (I J (if c.pr then 8 else 7))/\wq.cell? (D ga (o+36) Z)=U (I J (vl c.tree 9).kind)/\wq.cell? (D ga (o+39) Z)=U (I J (vl c.tree 9).kids)):=fun wq q=>⟨Cb q d1,Cb q U3,Cb q U4,Cb q U5⟩;have jI:=dt (And.intro hn hq);have dB:=dt (gq c.vt 0 O);have Y9:(0:Int)<c.vt.size:=O;have ZA:0<c.vt.size:=O;have k1:(1:Int)<n:=O;have k2:(2:Int)<n:=O;have k4:(4:Int)<n:=O;have k6:(6:Int)<n:=O;have k7:(7:Int)<n:=O;have k8:(8:Int)<n:=O;have k9:(9:Int)<n:=O;clear cR ho cell hok hS AU hn hq d1 U3 U4 U5 fU;go_upto_region 5 with fail;go_cut [9] (fun v9 wx=>v9=Po (U (D w2.heap.size 0 Z))/\wx=(w2.alloc (C (ib 0 c.s c.n c.ft c.tt c.k (S Z 0 0)) 68)).drew);case first=>go_region_held_law (fun wq=>wq.cell? (D ga (o+9) Z)=U (Y c.s)/\wq.cell? (D ga (o+17) Z)=U (Y c.n)/\wq.cell? (D ga (o+25) Z)=U (Y c.ft)/\wq.cell? (D ga (o+29) Z)=U (Y c.tt)/\wq.cell? (D ga (o+33) Z)=U (Y c.k)) (go_keep) (fail);all_goals go_wp2_with fail;go_meet;exact⟨X,X⟩
 obtain⟨rfl,rfl⟩:=hcut;have zR:Bw w2 (w2.alloc (C (ib 0 c.s c.n c.ft c.tt c.k (S Z 0 0)) 68)).drew:=(Be).drew;have lA:(w2.alloc (C (ib 0 c.s c.n c.ft c.tt c.k (S Z 0 0)) 68)).drew.heap[w2.heap.size]? =U (C (ib 0 c.s c.n c.ft c.tt c.k (S Z 0 0)) 68 (0,0)):=bl w2 _;obtain⟨B,hB⟩:∃B,w2.heap.size=B:=Ey;rw[hB]at lA;rw[hB];generalize(w2.alloc _).drew=w3 at zR lA ⊢;obtain⟨e5,_,_,_⟩:=NM _ zR;have b0:w3.cell? (D B 0 Z)=U (I J 0):=by simp[Wc,lA]
 have f0:w3.frozen? (D B 0 Z)=false:=Fz lA;have JS:IntKind.i64.wrap (c.vt[0].toNat:Int)=b8 c.vt 0:=by rw[dB,su];have:=mr c.vt 0;omega
 have bE:Hi (ue w (w3.setCell (D B 0 Z) (I J (b8 c.vt 0))) ga aB B (b8 c.vt 0) c.s c.n c.ft c.tt c.k (S Z 0 0) []):=by
  have aI:∀x,x<w2.heap.size->x≠B:=fun x hx e=>O;refine⟨(Tm aD zR).setCell (p:=D B 0 Z) (by show w.heap.size<=B;omega) _,?_,?_,iw w3 B 0 _ _ _ lA,O,by rw[ez _ _ _ _ (by show ga≠B;omega)];exact bc TE zR,nz _ _ _ _⟩;·rw[ez _ _ _ _ (by show w.heap.size≠B;omega)];exact bc eL.1 zR
  rw[ez _ _ _ _ (by show w.heap.size+1≠B;omega)];exact bc eL.2 zR
 have tD:Hi (∀i u,w2.cell? (D ga i Z)=U u->(w3.setCell (D B 0 Z) (I J (b8 c.vt 0))).cell? (D ga i Z)=U u):=fun i u hu=>by rw[World.cell?_setCell_far _ _ _ _ (by show B≠ga;omega)];exact Cb zR hu
 have b2:w3.cell? (D B 2 Z)=U (Y c.n):=by simp[Wc,lA]
 clear zR lA hB;go_wp2_with fail;refine(UI _).mono ?_;rintro e w5 ⟨pr,rfl,hpr,aH⟩;have fY:=dt (bE.below aH);have xK:=dt hpr;have BK:Hi (∀i u,w2.cell? (D ga i Z)=U u->w5.cell? (D ga i Z)=U u):=fun i u hu=>(aH.cell (bp (tD i u hu))).trans (tD i u hu);obtain⟨q1,q2,q3,q4⟩:=NM _ By;have c1:=BK _ _ q1;have c4:=BK _ _ q2;have c9:=BK _ _ q3;have U2:=BK _ _ q4;have hg5:=lc c1;have wN:=eb fY.box;have KX:=dt (ab1 HX.2.1 hpr);have qO:=dt (agG c);clear hpr aH q1 q2 q3 q4 b0 b2 f0 e5 bE tD dB eL oF UI cF aC NM HD d2 d4 d6 d7 d8 dZ;go_upto_region 8 with fail;go_cut [85] (fun x wx=>(∃LC:Bool,x=Bo LC/\(LC=true↔Eu c pr))/\wx=w5)
 case first=>
  obtain⟨kk,gX⟩:∃kk,(if c.pr then(8:Int)else 7)=kk:=Ey;obtain⟨k9',cY⟩:∃x,(vl c.tree 9).kind=x:=Ey;obtain⟨n9,JC⟩:∃x,(vl c.tree 9).kids=x:=Ey;rw[gX]at c4;rw[cY]at c9;rw[JC]at U2;have h9:=qO.out;rw[cY,JC]at h9;by_cases wT:1<c.vt.size;·have aeS:(1:Int)<c.vt.size:=O;clear gX cY JC h9;go_wp2;go_meet;exact⟨⟨true,X,⟨fun _=> .inl wT,fun _=>rfl⟩⟩,X⟩
  have aeS:(c.vt.size:Int)<=1:=O;have aj9:decide ((1:Int)<c.vt.size)=false:=br O;by_cases h2:pr=true/\c.pr=false;·obtain⟨rfl,i6⟩:=h2;have BC:=dt i6;rw[i6]at gX;obtain rfl:kk=7:=gX.symm;clear cY JC h9 i6 gX;go_wp2;go_meet;exact⟨⟨true,X,⟨fun _=> .inr (.inl ⟨X,BC⟩),fun _=>rfl⟩⟩,X⟩
  have m8:=dt h2;have gP:pr=false\/(pr=true/\kk=8):=by
   cases pr with
   |false=>exact .inl X
   |true=>
    cases i6:c.pr with
    |false=>exact Ab ⟨X,i6⟩ h2
    |true=>rw[i6]at gX;exact .inr ⟨X,gX.symm⟩
  have h9c:=h9;clear gX cY JC h9 h2;rcases h9c with⟨rfl,rfl,hms⟩|⟨rfl,hms⟩|⟨rfl,fA,hms⟩
  ·have HM:=dt hms;clear hms;rcases gP with rfl|⟨rfl,rfl⟩;(·go_wp2;go_meet;exact⟨⟨true,X,⟨fun _=> .inr (.inr HM),fun _=>rfl⟩⟩,X⟩);go_wp2;go_meet;exact⟨⟨true,X,⟨fun _=> .inr (.inr HM),fun _=>rfl⟩⟩,X⟩
  ·(have bM:Hi (¬Eu c pr):=fun q=>by rcases q with q|q|q;exact wT q;exact m8 q;exact hms q);clear hms m8;rcases gP with rfl|⟨rfl,rfl⟩;(·go_wp2;go_meet;exact⟨⟨false,X,⟨fun q=>(by cases q),fun q=>Ab q bM⟩⟩,X⟩);go_wp2;go_meet;exact⟨⟨false,X,⟨fun q=>(by cases q),fun q=>Ab q bM⟩⟩,X⟩
  have bM:Hi (¬Eu c pr):=fun q=>by rcases q with q|q|q;exact wT q;exact m8 q;exact hms q
  have nH:(n9==0)=false:=by simp[fA]
  clear hms m8;rcases gP with rfl|⟨rfl,rfl⟩;·go_wp2;go_meet;exact⟨⟨false,X,⟨fun q=>(by cases q),fun q=>Ab q bM⟩⟩,X⟩
  go_wp2;go_meet;exact⟨⟨false,X,⟨fun q=>(by cases q),fun q=>Ab q bM⟩⟩,X⟩
 obtain⟨⟨LC,rfl,(aU:Hi _)⟩,rfl⟩:=hcut;clear c1 c4 c9 U2 k1 k2 k4 k6 k7 k8 k9
 cases LC with
 |true=>
  have oY:Hi (c.tree≠(c.again pr).tree):=KX.2 (aU.1 X)
  clear KX aU qO
  obtain⟨z0,z1,z2,z3,z4,z5,z6,y0,y1,y2,y3,y4,y5,y6⟩:=uX fY.res
  obtain⟨n0,n1,n2,n3,n4,n5,n6,_⟩:=uX fY.non
  go_wp2_with fail
  refine db (v:=Tu #[po,I J 0,I J 12]) (by simp[results,Tryz.results49,go_sem,dm,z0,z1,z2,z3,z4,z5,z6]) X ?_
  exact Yr (uO fY.bel _ _ _ _ _ _ _) HX xK (.inl oY)
 |false=>
  have nJ:Hi (c.tree=(c.again pr).tree):=zg fun q=>by have:=aU.2 (KX.1 q);cases this
  clear aU KX qO
  obtain⟨hn,hq⟩:=jI.out
  obtain⟨q,yQ⟩:∃q,(mi c.ms).length=q:=Ey
  rw[yQ]at hq
  have HQ:=dt yQ
  have hms:(cu c).length=q:=by unfold cu;rw[ou];exact yQ
  have GH:=dt hms
  have FR:Hi (∀j,j<q->∃m:du,∃mt:Q,(cu c).take (j+1)=(cu c).take j++[m]/\m.must=(mt.toList== [255])/\∀wq:M,wq.heap[ga]? =U (C aB 60 (0,0))->wq.cell? (D ga (o+(10+4*j+1)*4+1) Z)=U (Y m.kind)/\wq.cell? (D ga (o+(10+4*j+2)*4+1) Z)=U (Y mt)/\wq.cell? (D ga (o+(10+4*j+3)*4+1) Z)=U (Y m.body)):=fun j hj=>by
   have iY:j<(mi c.ms).length:=by rw[HQ.out];exact hj
   have e1:=(oU (10+4*j+1) (by rw[hn];omega)).2.1
   have e2:=(oU (10+4*j+2) (by rw[hn];omega)).2.1
   have e3:=(oU (10+4*j+3) (by rw[hn];omega)).2.1
   rw[rz c j iY 1 Dc]at e1
   rw[rz c j iY 2 Dc]at e2
   rw[rz c j iY 3 Dc]at e3
   have key:∀wq:M,wq.heap[ga]? =U (C aB 60 (0,0))->∀i,wq.cell? (D ga i Z)=w2.cell? (D ga i Z):=fun wq hw i=>by simp[Wc,hw,TE.out]
   refine⟨Bl ((mi c.ms).getD j (az,az,az)),_,?_,X,fun wq hw=>⟨(key wq hw _).trans e1,(key wq hw _).trans e2,(key wq hw _).trans e3⟩⟩
   unfold cu
   rw[vz,Ch,dz iY,dy,dz iY]
   rfl
  have OE:=dt hq
  have YB:10+4*q<=n/\n<=10+4*q:=O
  have hq6:q<=100000:=O
  clear oU UP hms yQ hq hn hg5 wN jI BK
  obtain⟨i0,dO,cU,dA,bL⟩:=mh Ig
  go_wp2_with fail
  go_loopw [11] (fun vi wr=>∃(j:Nat) (mv:Vv),j<=q/\vi=I J (10+4*(j:Int))/\ue w wr ga aB B (b8 c.vt 0) c.s c.n c.ft c.tt c.k mv ((cu c).take j)) (fun vi _=>10+4*q-(Io vi).toNat)
  case atStart=>exact⟨0,_,Lz,X,fY⟩
  case round=>
   obtain⟨j,mv,hj,rfl,(HI:Hi _)⟩:=hrel
   have AJ:((cu c).take j).length=j:=by rw[Ax,GH.out];omega
   have mM:=dt AJ
   clear AJ
   by_cases aA:j<q
   ·obtain⟨m,mt,iS,wQ,L3⟩:=FR j aA
    obtain⟨L,hL⟩:∃L,(cu c).take j=L:=Ey
    rw[hL]at HI mM iS
    have HM:=dt (And.intro iS wQ)
    obtain⟨ai,PZ⟩:∃ai,10+4*j=ai:=Ey
    have V1:10+4*(j:Int)=ai:=O
    rw[PZ]at L3
    rw[V1]
    have TV:=dt PZ
    have r0:(ai:Int)<n:=O
    obtain⟨I1,eR⟩:∃x,ai+1=x:=Ey
    obtain⟨I2,dG⟩:∃x,ai+2=x:=Ey
    obtain⟨I3,bI⟩:∃x,ai+3=x:=Ey
    rw[eR,dG,bI]at L3
    have r1:(I1:Int)<n:=O
    have r2:(I2:Int)<n:=O
    have r3:(I3:Int)<n:=O
    have rI:ai<=500000:=O
    have v1:IntKind.i64.wrap ((ai:Int)+1)=(I1:Int):=by rw[su];omega
    have v2:IntKind.i64.wrap ((ai:Int)+2)=(I2:Int):=by rw[su];omega
    have v3:IntKind.i64.wrap ((ai:Int)+3)=(I3:Int):=by rw[su];omega
    have eX:=dt L3
    have c6:wr.cell? (D B 6 Z)=U mv:=by simp[Wc,HI.box]
    have W5:=eb HI.box
    clear L3 iS wQ hL PZ V1 eR dG bI
    go_upto_region 13 with fail
    have eF:Hi (∀(w6:M) (g6 dP:Nat),w6.ownsRow w.heap.size 73 3 (S (U (D g6 0 Z)) (L.length+1) dP) (L.length+1) (lj L++[Y m.kind,Bo (mt.toList== [255]),Y m.body])->(wr.alloc (C #[Y m.kind,Bo (mt.toList== [255]),Y m.body] 73)).drew.grownBy w6 mv.ownBlock->ue w (w6.setCell (D B 6 Z) (S (U (D g6 0 Z)) (L.length+1) dP)) ga aB B (b8 c.vt 0) c.s c.n c.ft c.tt c.k (S (U (D g6 0 Z)) (L.length+1) dP) ((cu c).take (j+1))/\w6.cell? (D B 6 Z)=U mv/\w6.frozen? (D B 6 Z)=false/\w6.heap[ga]? =U (C aB 60 (0,0))):=fun w6 g6 dP h1 h2=>by
     have hA:=HI.below (((By).alloc Ln (C #[Y m.kind,Bo (mt.toList== [255]),Y m.body] 73)).drew)
     obtain⟨q1,q2,q3,q4⟩:=hA.put ⟨m.kind,mt.toList== [255],m.body⟩ h1 h2
     refine⟨?_,q2,q3,q4⟩
     rw[HM.1]
     rw[<-HM.2]at q1
     exact q1
    have pN:Hi ((wr.alloc (C #[Y m.kind,Bo (mt.toList== [255]),Y m.body] 73)).drew.heap[ga]? =U (C aB 60 (0,0))):=bc HI.tr ((Be).drew)
    refine wp_region_held_drew (S:=fun w'=>w'.cell? (D ga (o+I1*4+1) Z)=U (Y m.kind)/\w'.cell? (D ga (o+I2*4+1) Z)=U (Y mt)/\w'.cell? (D ga (o+I3*4+1) Z)=U (Y m.body)) Kr ?_ (fun hHeld=>?_)
    ·exact eX _ HI.tr
    refine tk 0 ?_
    try simp only[Ap,cq,ct,cr]
    refine tk 2 ?_
    try simp only[Ap,cq,ct,cr]
    refine tk 3 ?_
    try simp only[Ap,cq,ct,cr]
    refine tk 4 ?_
    try simp only[Ap,cq,ct,cr]
    refine tk 5 ?_
    try simp only[Ap,cq,ct,cr]
    refine tk 6 ?_
    try simp only[Ap,cq,ct,cr]
    refine tk 7 ?_
    try simp only[Ap,cq,ct,cr]
    refine tk 8 ?_
    try simp only[Ap,cq,ct,cr]
    refine tk 9 ?_
    try simp only[Ap,cq,ct,cr]
    refine tk 10 ?_
    try simp only[Ap,cq,ct,cr]
    refine tk 11 ?_
    try simp only[Ap,cq,ct,cr]
    refine tk 12 ?_
    try simp only[Ap,cq,ct,cr]
    refine tk 13 ?_
    try simp only[Ap,cq,ct,cr]
    refine tk 14 ?_
    try simp only[Ap,cq,ct,cr]
    refine tk 15 ?_
    try simp only[Ap,cq,ct,cr]
    refine tk 16 ?_
    try simp only[Ap,cq,ct,cr]
    refine tk 17 ?_
    try simp only[Ap,cq,ct,cr]
    refine tk 18 ?_
    try simp only[Ap,cq,ct,cr]
    refine tk 19 ?_
    try simp only[Ap,cq,ct,cr]
    refine tk 20 ?_
    try simp only[Ap,cq,ct,cr]
    refine tk 21 ?_
    try simp only[Ap,cq,ct,cr]
    refine wpAnyH_ready (rs:=[1,22]) Kr Sq ?_
    refine AllReadyH.cons X (fun K hK=>?_) (AllReadyH.cons X (fun K hK=>?_) AllReadyH.nil)
    ·go_simp
     refine hK.out _ _ ?_ (fun hHeld2=>?_)
     ·exact eX _ HI.tr
     clear hK K
     refine wpAnyH_ready (rs:=[22]) Kr Sq ?_
     refine AllReadyH.cons X (fun K hK=>?_) AllReadyH.nil
     go_simp
     refine hK.out _ _ ?_ (fun tT=>?_)
     ·exact eX _ pN
     clear hK K
     refine wpAnyH_ready (rs:=[23]) Kr Sq ?_
     refine AllReadyH.cons X (fun K hK=>?_) AllReadyH.nil
     refine step_append_lies _ X (.tmp 94) (.tmp 115) 66 X w.heap.size 73 i0 wt 3 40 Tryz.underlying66 dO cU dA bL X Dc mv L.length (lj L) (by simp[Ae,Ap]) ((HI.out.own.alloc _).drew) (D wr.heap.size 0 Z) 1 1 [Y m.kind,Bo (mt.toList== [255]),Y m.body] (by simp[Ae,Ap]) X (World.news_of_block (w:=(wr.alloc (C #[Y m.kind,Bo (mt.toList== [255]),Y m.body] 73)).drew) (bl wr (C #[Y m.kind,Bo (mt.toList== [255]),Y m.body] 73))) (by intro u hu;simp at hu;rcases hu with rfl|rfl|rfl<;>rfl) Dc (by have:=mM.out;unfold maxLen;omega) (by have:=mM.out;omega) (by have:=HI.out.bel.size;simp;omega) (wr.heap.size+1) Sq ?_
     intro g6 dP w6 h1 h2 h3 h4
     obtain⟨(i4:Hi _),t6,y6,(bB:Hi _)⟩:=eF w6 g6 dP h1 h2
     clear h1 h2 h3 h4
     refine hK.out _ _ ?_ (fun tU=>?_)
     ·exact eX _ bB
     clear hK K
     refine tk 24 ?_
     try simp only[Ap,cq,ct,cr]
     refine wpAnyH_ready (rs:=[25]) Kr Sq ?_
     refine AllReadyH.cons X (fun K hK=>?_) AllReadyH.nil
     go_simp
     refine hK.out _ _ ?_ (fun tV=>?_)
     ·exact eX _ i4.tr
     clear hK K
     refine wpAnyH_done Kr ?_ _
     have kU:Hi (∃mv',ue w (w6.setCell (D B 6 Z) (S (U (D g6 0 Z)) (L.length+1) dP)) ga aB B (b8 c.vt 0) c.s c.n c.ft c.tt c.k mv' ((cu c).take (j+1))):=⟨_,i4⟩
     generalize w6.setCell (D B 6 Z) (S (U (D g6 0 Z)) (L.length+1) dP)=w7 at kU ⊢
     clear hHeld hHeld2 tT tU tV c6 t6 y6 i4 bB eF eX
     go_wp2
     obtain⟨mv',h7⟩:=kU.out
     have e4:=TV.out
     exact⟨⟨j+1,mv',O,Gn,h7⟩,by simp[Io];omega⟩
    ·go_simp
     refine hK.out _ _ ?_ (fun hHeld2=>?_)
     ·exact eX _ pN
     clear hK K
     refine wpAnyH_ready (rs:=[1]) Kr Sq ?_
     refine AllReadyH.cons X (fun K hK=>?_) AllReadyH.nil
     go_simp
     refine hK.out _ _ ?_ (fun tT=>?_)
     ·exact eX _ pN
     clear hK K
     refine wpAnyH_ready (rs:=[23]) Kr Sq ?_
     refine AllReadyH.cons X (fun K hK=>?_) AllReadyH.nil
     refine step_append_lies _ X (.tmp 94) (.tmp 115) 66 X w.heap.size 73 i0 wt 3 40 Tryz.underlying66 dO cU dA bL X Dc mv L.length (lj L) (by simp[Ae,Ap]) ((HI.out.own.alloc _).drew) (D wr.heap.size 0 Z) 1 1 [Y m.kind,Bo (mt.toList== [255]),Y m.body] (by simp[Ae,Ap]) X (World.news_of_block (w:=(wr.alloc (C #[Y m.kind,Bo (mt.toList== [255]),Y m.body] 73)).drew) (bl wr (C #[Y m.kind,Bo (mt.toList== [255]),Y m.body] 73))) (by intro u hu;simp at hu;rcases hu with rfl|rfl|rfl<;>rfl) Dc (by have:=mM.out;unfold maxLen;omega) (by have:=mM.out;omega) (by have:=HI.out.bel.size;simp;omega) (wr.heap.size+1) Sq ?_
     intro g6 dP w6 h1 h2 h3 h4
     obtain⟨(i4:Hi _),t6,y6,(bB:Hi _)⟩:=eF w6 g6 dP h1 h2
     clear h1 h2 h3 h4
     refine hK.out _ _ ?_ (fun tU=>?_)
     ·exact eX _ bB
     clear hK K
     refine tk 24 ?_
     try simp only[Ap,cq,ct,cr]
     refine wpAnyH_ready (rs:=[25]) Kr Sq ?_
     refine AllReadyH.cons X (fun K hK=>?_) AllReadyH.nil
     go_simp
     refine hK.out _ _ ?_ (fun tV=>?_)
     ·exact eX _ i4.tr
     clear hK K
     refine wpAnyH_done Kr ?_ _
     have kU:Hi (∃mv',ue w (w6.setCell (D B 6 Z) (S (U (D g6 0 Z)) (L.length+1) dP)) ga aB B (b8 c.vt 0) c.s c.n c.ft c.tt c.k mv' ((cu c).take (j+1))):=⟨_,i4⟩
     generalize w6.setCell (D B 6 Z) (S (U (D g6 0 Z)) (L.length+1) dP)=w7 at kU ⊢
     clear hHeld hHeld2 tT tU tV c6 t6 y6 i4 bB eF eX
     go_wp2
     obtain⟨mv',h7⟩:=kU.out
     have e4:=TV.out
     exact⟨⟨j+1,mv',O,Gn,h7⟩,by simp[Io];omega⟩
   ·obtain rfl:j=q:=O
    have hms:=ye (by rw[GH.out];exact Ln)
    have HE:Hi (ue w wr ga aB B (b8 c.vt 0) c.s c.n c.ft c.tt c.k mv (cu c)):=by have h:=HI.out;rw[hms]at h;exact h
    have TZ:=dt (BL c wr HX.1 HX.2.2.1 HX.2.2.2)
    obtain⟨ma,mc,rfl,i6⟩:=yr HE.own
    have N8:=dt (TZ ma mc (il.of_own HE.own) (Do HE.own))
    obtain⟨c0,c1,c2,c3,c4,c5,c6⟩:=wv HE.box
    unfold dm at N8
    clear HI FR mM hms i6 TZ BL
    go_wp2_with fail
    refine N8.mono ?_
    rintro e w9 ⟨nC,h9⟩
    have gN:=dt (HE.below nC)
    clear nC N8 c0 c1 c2 c3 c4 c5 c6
    obtain⟨z0,z1,z2,z3,z4,z5,z6,y0,y1,y2,y3,y4,y5,y6⟩:=uX gN.res
    rcases h9 with⟨hc,rfl⟩|⟨hc,hm,rfl⟩|⟨hc,hm,rfl⟩
    ·have HN:=dt hc
     obtain⟨n0,n1,n2,n3,n4,n5,n6,_⟩:=uX gN.non
     clear hc
     go_wp2_with fail
     refine db (v:=Tu #[po,I J 0,I J 12]) (by simp[results,Tryz.results49,go_sem,dm,z0,z1,z2,z3,z4,z5,z6]) X ?_
     exact Yr (uO gN.bel _ _ _ _ _ _ _) HX xK (.inr HN)
    ·have HN:=dt (And.intro hc hm)
     obtain⟨n0,n1,n2,n3,n4,n5,n6,_⟩:=uX gN.non
     clear hc hm
     go_wp2_with fail
     refine db (v:=Tu #[po,I J 0,I J 13]) (by simp[results,Tryz.results49,go_sem,dm,z0,z1,z2,z3,z4,z5,z6]) X ?_
     exact ahP (uO gN.bel _ _ _ _ _ _ _) HX xK nJ HN.1 HN.2
    ·have HN:=dt (And.intro hc hm)
     obtain⟨c0,c1,c2,c3,c4,c5,c6⟩:=wv gN.box
     clear hc hm
     go_wp2_with fail
     refine db (v:=Tu #[dm (b8 c.vt 0) c.s c.n c.ft c.tt c.k (S ma (cu c).length mc),I J 0,I J 0]) (by simp[results,Tryz.results49,go_sem,dm,z0,z1,z2,z3,z4,z5,z6]) X ?_
     have aI:=jb gN.res gN.own Dc
     exact ahQ (uO gN.bel _ _ _ _ _ _ _) HX xK nJ HN.1 HN.2 (dk (dk (dk (dk (dk (dk (dk gN.own aI _) aI _) aI _) aI _) aI _) aI _) aI _)
end Go.Proofs.YtkkicodfpekbgaaGreatDoor
