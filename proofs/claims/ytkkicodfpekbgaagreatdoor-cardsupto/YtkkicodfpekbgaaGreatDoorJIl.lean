/-
hallmarkref.ReadCard: what it answers.
-/
import Derived.Test.YtkkicodfpekbgaaGreatDoorJi0
open Go.Value renaming int->I,string->Y,slice->S,pointer->Po,bool->Bo,tuple->Tu
open Go.IntKind renaming i64->J
open Go.Obj renaming cells->C
open Go.Ending renaming returned->Rt
open Option renaming some->U,none->Z
open Go renaming World->M,Calls->Cs,Addr->Ad,Value->Vv
open _root_ renaming ByteArray->Q,Option->Oo,List->Ls
open Go.RowKit renaming Below->H,intOf->Io,Hid->Hi
open Go.World renaming cell?->Wc,frozen?->Wf
open Go.Act renaming put->Ap,eval->Ae
open Go.Addr renaming mk->D
set_option linter.unusedSimpArgs false
set_option linter.unusedVariables false
set_option maxRecDepth 100000
set_option maxHeartbeats 8000000
namespace Go.Proofs.YtkkicodfpekbgaaGreatDoor
open Go.RowKit
structure BI(W wr:M)(ag:Nat)(cur:Array Vv)(B:Nat)(v:Int)(s n f t k:Q)(mv:Vv)(ms:Ls fO):Prop where
 bel:H W.heap.size W wr
 res:wr.heap[W.heap.size]? =U (C dK 68 (0,0))
 non:wr.heap[W.heap.size+1]? =U (C dK 68 (0,0))
 box:wr.heap[B]? =U (C (dz v s n f t k mv) 68 (0,0))
 far:W.heap.size+1<B
 tr:wr.heap[ag]? =U (C cur 60 (0,0))
 own:wr.ownsRow W.heap.size 73 3 mv ms.length (dV ms)
theorem BI.below{W wr w':M}{ag:Nat}{cur:Array Vv}{B:Nat}{v:Int}{s n f t k:Q}{mv:Vv}{ms:Ls fO}(h:BI W wr ag cur B v s n f t k mv ms)(hb:H wr.heap.size wr w'):BI W w' ag cur B v s n f t k mv ms:=
 ⟨h.bel.trans (hb.mono h.bel.size),ax h.res hb,ax h.non hb,ax h.box hb,h.far,ax h.tr hb,bB h.own hb⟩
theorem BI.put{W wr w':M}{ag:Nat}{cur:Array Vv}{B:Nat}{v:Int}{s n f t k:Q}{mv:Vv}{ms:Ls fO}{g cap:Nat}(h:BI W wr ag cur B v s n f t k mv ms)(m:fO)(h1:w'.ownsRow W.heap.size 73 3 (S (U (D g 0 Z)) (ms.length+1) cap) (ms.length+1) (dV ms++[Y m.kind,Bo m.must,Y m.body]))(h2:wr.grownBy w' mv.ownBlock):BI W (w'.setCell (D B 6 Z) (S (U (D g 0 Z)) (ms.length+1) cap)) ag cur B v s n f t k (S (U (D g 0 Z)) (ms.length+1) cap) (ms++[m])/\w'.cell? (D B 6 Z)=U mv/\w'.frozen? (D B 6 Z)=false/\w'.heap[ag]? =U (C cur 60 (0,0)):=by
 have hf:=h.far;have hGB:ag≠B:=fun e=>by have a:=h.tr;rw[e,h.box]at a;injection a with a;injection a with _ a;exact Ab a Dc
 have hT:w'.heap[ag]? =U (C cur 60 (0,0)):=by rw[h2.block _ (bm h.tr) (fun q=>cJ h.tr h.own Dc q.symm)];exact h.tr
 have hC:w'.heap[B]? =U (C (dz v s n f t k mv) 68 (0,0)):=by rw[h2.block _ (bm h.box) (fun q=>cJ h.box h.own Dc q.symm)];exact h.box
 have hR:w'.heap[W.heap.size]? =U (C dK 68 (0,0)):=by rw[h2.block _ (bm h.res) (fun q=>cJ h.res h.own Dc q.symm)];exact h.res
 have hN:w'.heap[W.heap.size+1]? =U (C dK 68 (0,0)):=by rw[h2.block _ (bm h.non) (fun q=>cJ h.non h.own Dc q.symm)];exact h.non
 refine⟨⟨(h.bel.grown h2 h.bel.size (fun k hk=>(h.own.lt k hk).1)).setCell (by show W.heap.size<=B;omega) _,by rw[aP _ _ _ _ (by show W.heap.size≠B;omega)];exact hR,by rw[aP _ _ _ _ (by show W.heap.size+1≠B;omega)];exact hN,bn w' _ 6 _ _ _ hC,hf,by rw[aP _ _ _ _ (by show ag≠B;exact hGB)];exact hT,?_⟩,by simp[Wc,hC],by simp[Wf,hC],hT⟩;rw[j7,aQ];exact aJ h1 (cJ hC h1 Dc) _
theorem Il(c:CT):((vl c.tree 9).kind=11/\(vl c.tree 9).kids=0/\c.ms=U [])\/((vl c.tree 9).kind=15/\c.ms≠U [])\/((vl c.tree 9).kind=11/\(vl c.tree 9).kids≠0/\c.ms≠U []):=by
 have e:vl c.tree 9=vl (jf c.ms) 0:=by unfold CT.tree;exact oN (a:=mO c.vt c.s c.n c.pr c.ft c.tt c.k) (b:=jf c.ms) (j:=0)
 rw[e]
 cases hm:c.ms with
 |none=>exact .inr (.inl ⟨X,fun q=>by cases q⟩)
 |some qs=>
  cases qs with
  |nil=>exact .inl ⟨X,X,X⟩
  |cons q qs=>exact .inr (.inr ⟨X,by show(((q::qs).length:Nat):Int)≠0;rw[aU];omega,fun z=>by cases z⟩)
theorem r8{w:M}{g:Nat}{v:Int}{s n f t k:Q}{mv:Vv}(h:w.heap[g]? =U (C (dz v s n f t k mv) 68 (0,0))):w.cell? (D g 0 Z)=U (I J v)/\w.cell? (D g 1 Z)=U (Y s)/\w.cell? (D g 2 Z)=U (Y n)/\w.cell? (D g 3 Z)=U (Y f)/\w.cell? (D g 4 Z)=U (Y t)/\w.cell? (D g 5 Z)=U (Y k)/\w.cell? (D g 6 Z)=U mv:=⟨by simp[Wc,h],by simp[Wc,h],by simp[Wc,h],by simp[Wc,h],by simp[Wc,h],by simp[Wc,h],by simp[Wc,h]⟩
theorem Bp{v:Except (Int×Int) (Ls Vl)}{w w':M}{k q:Int}(hb:H w.heap.size w w')(hv:v= .error (k,q)):mM v w (Rt (Tu #[iL,I J q,I J k])) w':=⟨hb,.inl ⟨k,q,hv,X⟩⟩
theorem rk{v:Except (Int×Int) (Ls Vl)}{w w':M}{c:CT}{pr:Bool}(hb:H w.heap.size w w')(hx:v= .ok c.tree/\c.Ok/\Sz c.tree/\c.tree.length<=400000)(hp:pr=true↔aR 8 c.n)(h:c.tree≠(c.again pr).tree\/¬cN (b8 c.vt 0) c.s c.n c.ft c.tt c.k (bZ c).length):mM v w (Rt (Tu #[iL,I J 0,I J 12])) w':=⟨hb,.inr ⟨c,pr,hx.1,hx.2.1,hx.2.2.1,hp,.inl ⟨h,X⟩⟩⟩
theorem yX{v:Except (Int×Int) (Ls Vl)}{w w':M}{c:CT}{pr:Bool}(hb:H w.heap.size w w')(hx:v= .ok c.tree/\c.Ok/\Sz c.tree/\c.tree.length<=400000)(hp:pr=true↔aR 8 c.n)(he:c.tree=(c.again pr).tree)(hc:cN (b8 c.vt 0) c.s c.n c.ft c.tt c.k (bZ c).length)(hm:¬dd (bZ c)):mM v w (Rt (Tu #[iL,I J 0,I J 13])) w':=⟨hb,.inr ⟨c,pr,hx.1,hx.2.1,hx.2.2.1,hp,.inr (.inl ⟨he,hc,hm,X⟩)⟩⟩
theorem C9{v:Except (Int×Int) (Ls Vl)}{w w':M}{c:CT}{pr:Bool}{ma:Oo Ad}{mc:Nat}(hb:H w.heap.size w w')(hx:v= .ok c.tree/\c.Ok/\Sz c.tree/\c.tree.length<=400000)(hp:pr=true↔aR 8 c.n)(he:c.tree=(c.again pr).tree)(hc:cN (b8 c.vt 0) c.s c.n c.ft c.tt c.k (bZ c).length)(hm:dd (bZ c))(ho:w'.ownsRow w.heap.size 73 3 (S ma (bZ c).length mc) (bZ c).length (dV (bZ c))):mM v w (Rt (Tu #[bW (b8 c.vt 0) c.s c.n c.ft c.tt c.k (S ma (bZ c).length mc),I J 0,I J 0])) w':=⟨hb,.inr ⟨c,pr,hx.1,hx.2.1,hx.2.2.1,hp,.inr (.inr ⟨he,hc,hm,ma,mc,X,ho⟩)⟩⟩
theorem sj(E:cw)(d:Q)(v:Except (Int×Int) (Ls Vl))(w:M)(hd:d.size<=1048576)(hv:my E cS 0 d v)(hsz:∀vs,v= .ok vs->Sz vs)(hbd:∀b:Q,b.size<=1048576->pR b):Cs Tryz.prog 49 #[Y d] w fun e w'=>mM v w e w':=by
 have HCD:Hi (∀wq,Cs Tryz.prog 80 #[] wq fun e w'=>∃g,e=Rt (S (U (D g 0 Z)) 14 14)/\ju w' (U (D g 0 Z)) dS/\H wq.heap.size wq w'):=fun wq=>yT wq;have HDE:Hi (∀g wq,ju wq (U (D g 0 Z)) dS->Cs Tryz.prog 40 #[S (U (D g 0 Z)) 14 14,I J 0,Y d] wq fun e w'=>pW v wq e w'):=fun g wq hs=>by obtain⟨E2,h2⟩:=CB hv;exact wK E2 dS (U (D g 0 Z)) 14 0 d v wq hs GW Dc O h2
 have HPR:Hi (∀(c:CT) wq,Sz c.tree->Cs Tryz.prog 81 #[Y c.n] wq fun e w'=>∃pr:Bool,e=Rt (Bo pr)/\(pr=true↔aR 8 c.n)/\H wq.heap.size wq w'):=fun c wq hz=>(gZ c.n wq (by have:=(nM hz).n;omega)).mono fun e w' r=>(r.to (jU c.n)).toW;have HLK:Hi (∀(c:CT) wq,v= .ok c.tree->Sz c.tree->c.tree.length<=400000->∀ma mc,fj wq ma (bZ c)->(bZ c).length<=mc->Cs Tryz.prog 82 #[bW (b8 c.vt 0) c.s c.n c.ft c.tt c.k (S ma (bZ c).length mc)] wq fun e w'=>Ca (b8 c.vt 0) c.s c.n c.ft c.tt c.k (bZ c) wq e w'):=fun c wq hvc hz hl ma mc hin hcap=>by have hT:=nM hz;exact wj _ _ _ _ _ _ _ ma mc wq (fun j hj=>hbd _ (AG (xX (by rw[<-hvc];exact hv)) j hj)) hin hT.s hT.n hT.f hT.t hT.k hT.ms (by have:=jH c;unfold bZ;rw[bY];omega) hcap
 have HNZ:Hi (∀k q,v= .error (k,q)->k≠0):=fun k q e=>by
  subst e;rcases hv with⟨_,q⟩|⟨_,_,q⟩|⟨_,_,_,_,_,f,_,hf⟩
  ·cases q;decide
  ·cases q;decide
  unfold eI at hf;rcases bJ hf with⟨u,h1,h2⟩|⟨us,z,h1,h2⟩
  ·cases h2;exact jn _ _ _ _ _ _ h1 _ _ X
  split at h2
  ·cases h2;decide
  cases h2
 have HV:=bx hv;have HSZ:=bx hsz;clear hv hsz hbd;have HN0:Hi ((w.alloc (C dK 68)).heap[w.heap.size]? =U (C dK 68 (0,0))):=aA w _;have HN1:Hi (((w.alloc (C dK 68)).alloc (C dK 68)).heap[w.heap.size+1]? =U (C dK 68 (0,0))):=by have h:=aA (w.alloc (C dK 68)) (C dK 68);rw[show(w.alloc (C dK 68)).heap.size=w.heap.size+1 by simp]at h;exact h
 go_enter Tryz.func49,Tryz.ntmps49;go_wp2_with fail;refine(HCD.out _).mono ?_;rintro e w1 ⟨g,rfl,hs1,hb1⟩;have HB1:Hi (H w.heap.size w w1):=by have h:=((aY w.heap.size w).alloc Ln (C dK 68)).alloc Sq (C dK 68);exact h.trans (hb1.mono h.size)
 have HR1:Hi (w1.heap[w.heap.size]? =U (C dK 68 (0,0))/\w1.heap[w.heap.size+1]? =U (C dK 68 (0,0))):=⟨ax (ax HN0.out Be) hb1,ax HN1.out hb1⟩;have HD1:=bx (HDE.out g w1 hs1);have hl1:w.heap.size+1<w1.heap.size:=bm HR1.out.2;clear hs1 hb1 HDE HCD HN0 HN1;go_wp2_with fail;refine HD1.out.mono ?_;rintro e w2 ⟨hb2,h2⟩;have HB2:Hi (H w.heap.size w w2):=HB1.out.trans (hb2.mono HB1.out.size);have HR2:Hi (w2.heap[w.heap.size]? =U (C dK 68 (0,0))/\w2.heap[w.heap.size+1]? =U (C dK 68 (0,0))):=⟨ax HR1.out.1 hb2,ax HR1.out.2 hb2⟩;have hl2:w.heap.size+1<w2.heap.size:=bm HR2.out.2;have h2':(∃k q,v= .error (k,q)/\k≠0/\e=Rt (Tu #[S Z 0 0,I J q,I J k]))\/(∃vs ta tc,v= .ok vs/\e=Rt (Tu #[S ta vs.length tc,I J 0,I J 0])/\w2.ownsRow w1.heap.size 60 4 (S ta vs.length tc) vs.length (bG vs)):=by
  cases hvv:v with
  |error u=>
   obtain⟨k,q⟩:=u
   rw[hvv]at h2
   exact .inl ⟨k,q,X,HNZ.out k q hvv,h2⟩
  |ok vs=>
   rw[hvv]at h2
   obtain⟨ta,tc,h3,h4⟩:=h2
   exact .inr ⟨vs,ta,tc,X,h3,h4⟩
 clear h2 hb2 HD1;rcases h2' with⟨k,q,hvv,hk0,rfl⟩|⟨vs,ta,tc,hvv,rfl,ho⟩
 ·have HF:=bx hvv;have hk1:(k==0)=false:=by simp[hk0]
  have hk2:(k !=0)=true:=by simp[hk0]
  obtain⟨z0,z1,z2,z3,z4,z5,z6,y0,y1,y2,y3,y4,y5,y6⟩:=rj HR2.out.1;obtain⟨n0,n1,n2,n3,n4,n5,n6,_⟩:=rj HR2.out.2;clear hvv hk0;go_wp2_with fail;refine aS (v:=Tu #[iL,I J q,I J k]) (by simp[results,Tryz.results49,go_sem,bW,z0,z1,z2,z3,z4,z5,z6]) X ?_;exact Bp (qq HB2.out _ _ _ _ _ _ _) HF.out
 obtain⟨hlen,c,rfl,hok⟩:=oB (by rw[<-hvv];exact HV.out);have hS:=HSZ.out _ hvv;have hval:=iV.of_own ho;have hcap:=jr ho;have HX:=bx (And.intro hvv (And.intro hok (And.intro hS hlen)));have HPR1:=bx (fun wq=>HPR.out c wq hS);have hq:=jH c;obtain⟨n,hn⟩:∃n,c.tree.length=n:=Ey;have hvt:1<=c.vt.size:=((eM _).2 hok.vt).1;have HVA:=bx hval;obtain⟨ga,o,rfl,_⟩:=hval 0 O;have cell:∀j,j<c.tree.length->w2.cell? (D ga (o+j*4) Z)=U (I J (vl c.tree j).kind)/\w2.cell? (D ga (o+j*4+1) Z)=U (Y (vl c.tree j).text)/\w2.cell? (D ga (o+j*4+3) Z)=U (I J (vl c.tree j).kids):=fun j hj=>by obtain⟨g',o',e,h1,h2,_,h4⟩:=HVA.out j hj;injection e with e;injection e with e1 e2 _;subst e1 e2;exact⟨h1,h2,h4⟩
 have d1:w2.cell? (D ga (o+5) Z)=U (Y c.vt):=(cell 1 O).2.1;have d2:w2.cell? (D ga (o+9) Z)=U (Y c.s):=(cell 2 O).2.1;have d4:w2.cell? (D ga (o+17) Z)=U (Y c.n):=(cell 4 O).2.1;have d4k:w2.cell? (D ga (o+16) Z)=U (I J (if c.pr then 8 else 7)):=(cell 4 O).1;have d6:w2.cell? (D ga (o+25) Z)=U (Y c.ft):=(cell 6 O).2.1;have d7:w2.cell? (D ga (o+29) Z)=U (Y c.tt):=(cell 7 O).2.1;have d8:w2.cell? (D ga (o+33) Z)=U (Y c.k):=(cell 8 O).2.1;have d9k:w2.cell? (D ga (o+36) Z)=U (I J (vl c.tree 9).kind):=(cell 9 O).1;have d9n:w2.cell? (D ga (o+39) Z)=U (I J (vl c.tree 9).kids):=(cell 9 O).2.2;obtain⟨cur,hcur⟩:∃cur,w2.heap[ga]? =U (C cur 60 (0,0)):=by
  rcases ho.2 with⟨_,q⟩|⟨g',cap,cur,e,_,hg',_⟩
  ·omega
  injection e with e;injection e with e;injection e with e1;subst e1;exact⟨cur,hg'⟩
 have HCE:=bx cell;have HCU:=bx hcur;have hgl:ga<w2.heap.size:=aw d1;rw[hn];have hn10:(10:Int)<=n:=O;have HD:Hi (∀wq,H w2.heap.size w2 wq->wq.cell? (D ga (o+9) Z)=U (Y c.s)/\wq.cell? (D ga (o+17) Z)=U (Y c.n)/\wq.cell? (D ga (o+25) Z)=U (Y c.ft)/\wq.cell? (D ga (o+29) Z)=U (Y c.tt)/\wq.cell? (D ga (o+33) Z)=U (Y c.k)):=fun wq q=>⟨(q.cell (aw d2)).trans d2,(q.cell (aw d4)).trans d4,(q.cell (aw d6)).trans d6,(q.cell (aw d7)).trans d7,(q.cell (aw d8)).trans d8⟩;have HDK:Hi (∀wq,H w2.heap.size w2 wq->wq.cell? (D ga (o+5) Z)=U (Y c.vt)/\wq.cell? (D ga (o+16) Z)=U (I J (if c.pr then 8 else 7))/\wq.cell? (D ga (o+36) Z)=U (I J (vl c.tree 9).kind)/\wq.cell? (D ga (o+39) Z)=U (I J (vl c.tree 9).kids)):=fun wq q=>⟨(q.cell (aw d1)).trans d1,(q.cell (aw d4k)).trans d4k,(q.cell (aw d9k)).trans d9k,(q.cell (aw d9n)).trans d9n⟩;have HNN:=bx (And.intro hn hq);have HB8:=bx (cH c.vt 0 O);have hvt':(0:Int)<c.vt.size:=O;have hvt2:0<c.vt.size:=O;have k1:(1:Int)<n:=O;have k2:(2:Int)<n:=O;have k4:(4:Int)<n:=O;have k6:(6:Int)<n:=O;have k7:(7:Int)<n:=O;have k8:(8:Int)<n:=O;have k9:(9:Int)<n:=O;clear hvv ho cell hok hS hval hn hq d1 d4k d9k d9n hcur;go_upto_region 5 with fail;go_cut [9] (fun v9 wx=>v9=Po (U (D w2.heap.size 0 Z))/\wx=(w2.alloc (C (dz 0 c.s c.n c.ft c.tt c.k (S Z 0 0)) 68)).drew);case first=>go_region_held_law (fun wq=>wq.cell? (D ga (o+9) Z)=U (Y c.s)/\wq.cell? (D ga (o+17) Z)=U (Y c.n)/\wq.cell? (D ga (o+25) Z)=U (Y c.ft)/\wq.cell? (D ga (o+29) Z)=U (Y c.tt)/\wq.cell? (D ga (o+33) Z)=U (Y c.k)) (go_keep) (fail);all_goals go_wp2_with fail;go_meet;exact⟨X,X⟩
 case rest=>
  obtain⟨rfl,rfl⟩:=hcut;have hBB:H w2.heap.size w2 (w2.alloc (C (dz 0 c.s c.n c.ft c.tt c.k (S Z 0 0)) 68)).drew:=(Be).drew;have hbx:(w2.alloc (C (dz 0 c.s c.n c.ft c.tt c.k (S Z 0 0)) 68)).drew.heap[w2.heap.size]? =U (C (dz 0 c.s c.n c.ft c.tt c.k (S Z 0 0)) 68 (0,0)):=aA w2 _;obtain⟨B,hB⟩:∃B,w2.heap.size=B:=Ey;rw[hB]at hbx;rw[hB];generalize(w2.alloc (C (dz 0 c.s c.n c.ft c.tt c.k (S Z 0 0)) 68)).drew=w3 at hBB hbx ⊢;obtain⟨e5,_,_,_⟩:=HDK.out _ hBB;have b0:w3.cell? (D B 0 Z)=U (I J 0):=by simp[Wc,hbx]
  have f0:w3.frozen? (D B 0 Z)=false:=by simp[Wf,hbx]
  have hl3:B<w3.heap.size:=aw b0;have hg3:ga<w3.heap.size:=aw e5;have hw8:IntKind.i64.wrap (c.vt[0].toNat:Int)=b8 c.vt 0:=by rw[HB8.out,db];have:=gu c.vt 0;omega
  have HI4:Hi (BI w (w3.setCell (D B 0 Z) (I J (b8 c.vt 0))) ga cur B (b8 c.vt 0) c.s c.n c.ft c.tt c.k (S Z 0 0) []):=by
   have hne:∀x,x<w2.heap.size->x≠B:=fun x hx e=>O;refine⟨(HB2.out.trans (hBB.mono HB2.out.size)).setCell (p:=D B 0 Z) (by show w.heap.size<=B;omega) _,?_,?_,bn w3 B 0 _ _ _ hbx,O,by rw[aP _ _ _ _ (by show ga≠B;omega)];exact ax HCU.out hBB,bX _ _ _ _⟩
   ·rw[aP _ _ _ _ (by show w.heap.size≠B;omega)];exact ax HR2.out.1 hBB
   rw[aP _ _ _ _ (by show w.heap.size+1≠B;omega)];exact ax HR2.out.2 hBB
  have HK4:Hi (∀i u,w2.cell? (D ga i Z)=U u->(w3.setCell (D B 0 Z) (I J (b8 c.vt 0))).cell? (D ga i Z)=U u):=fun i u hu=>by rw[World.cell?_setCell_far _ _ _ _ (by show B≠ga;omega)];exact(hBB.cell (aw hu)).trans hu
  have b2:w3.cell? (D B 2 Z)=U (Y c.n):=by simp[Wc,hbx]
  clear hBB hbx hB;go_wp2_with fail;refine(HPR1.out _).mono ?_;rintro e w5 ⟨pr,rfl,hpr,hb5⟩;have HI5:=bx (HI4.out.below hb5);have HPP:=bx hpr;have HKC:Hi (∀i u,w2.cell? (D ga i Z)=U u->w5.cell? (D ga i Z)=U u):=fun i u hu=>(hb5.cell (aw (HK4.out i u hu))).trans (HK4.out i u hu);obtain⟨q1,q2,q3,q4⟩:=HDK.out _ By;have c1:=HKC.out _ _ q1;have c4:=HKC.out _ _ q2;have c9:=HKC.out _ _ q3;have c9n:=HKC.out _ _ q4;have hg5:ga<w5.heap.size:=aw c1;have hl5:B<w5.heap.size:=bm HI5.out.box;have HOD:=bx (Ay HX.out.2.1 hpr);have HG9:=bx (Il c);clear hpr hb5 q1 q2 q3 q4 b0 b2 f0 e5 hl3 hg3 HI4 HK4 HB8 HR2 HPR HPR1 HR1 HB1 HDK HD d2 d4 d6 d7 d8 hgl;go_upto_region 8 with fail;go_cut [85] (fun x wx=>(∃c85:Bool,x=Bo c85/\(c85=true↔GK c pr))/\wx=w5)
  case first=>
   obtain⟨kk,hkk⟩:∃kk,(if c.pr then(8:Int)else 7)=kk:=Ey;obtain⟨k9',hk9⟩:∃x,(vl c.tree 9).kind=x:=Ey;obtain⟨n9,hn9⟩:∃x,(vl c.tree 9).kids=x:=Ey;rw[hkk]at c4;rw[hk9]at c9;rw[hn9]at c9n;have h9:=HG9.out;rw[hk9,hn9]at h9;by_cases hv1:1<c.vt.size
   ·have hv1':(1:Int)<c.vt.size:=O;clear hkk hk9 hn9 h9;go_wp2;go_meet;exact⟨⟨true,X,⟨fun _=> .inl hv1,fun _=>rfl⟩⟩,X⟩
   have hv1':(c.vt.size:Int)<=1:=O;have hv1d:decide ((1:Int)<c.vt.size)=false:=aE O;by_cases h2:pr=true/\c.pr=false
   ·obtain⟨rfl,hcp⟩:=h2;have HCP:=bx hcp;rw[hcp]at hkk;obtain rfl:kk=7:=hkk.symm;clear hk9 hn9 h9 hcp hkk;go_wp2;go_meet;exact⟨⟨true,X,⟨fun _=> .inr (.inl ⟨X,HCP.out⟩),fun _=>rfl⟩⟩,X⟩
   have HN2:=bx h2;have hcs:pr=false\/(pr=true/\kk=8):=by
    cases pr with
    |false=>exact .inl X
    |true=>
     cases hcp:c.pr with
     |false=>exact Ab ⟨X,hcp⟩ h2
     |true=>rw[hcp]at hkk;exact .inr ⟨X,hkk.symm⟩
   have h9c:(k9'=11/\n9=0/\c.ms=U [])\/(k9'=15/\c.ms≠U [])\/(k9'=11/\n9≠0/\c.ms≠U []):=h9;clear hkk hk9 hn9 h9 h2;rcases h9c with⟨rfl,rfl,hms⟩|⟨rfl,hms⟩|⟨rfl,hn0,hms⟩
   ·have HM:=bx hms;clear hms;rcases hcs with rfl|⟨rfl,rfl⟩
    ·go_wp2;go_meet;exact⟨⟨true,X,⟨fun _=> .inr (.inr HM.out),fun _=>rfl⟩⟩,X⟩
    go_wp2;go_meet;exact⟨⟨true,X,⟨fun _=> .inr (.inr HM.out),fun _=>rfl⟩⟩,X⟩
   ·(have HNO:Hi (¬GK c pr):=fun q=>by rcases q with q|q|q;exact hv1 q;exact HN2.out q;exact hms q);clear hms HN2;rcases hcs with rfl|⟨rfl,rfl⟩
    ·go_wp2;go_meet;exact⟨⟨false,X,⟨fun q=>(by cases q),fun q=>Ab q HNO.out⟩⟩,X⟩
    go_wp2;go_meet;exact⟨⟨false,X,⟨fun q=>(by cases q),fun q=>Ab q HNO.out⟩⟩,X⟩
   (have HNO:Hi (¬GK c pr):=fun q=>by rcases q with q|q|q;exact hv1 q;exact HN2.out q;exact hms q);(have hn1:(n9==0)=false:=by simp[hn0]);clear hms HN2;rcases hcs with rfl|⟨rfl,rfl⟩
   ·go_wp2;go_meet;exact⟨⟨false,X,⟨fun q=>(by cases q),fun q=>Ab q HNO.out⟩⟩,X⟩
   go_wp2;go_meet;exact⟨⟨false,X,⟨fun q=>(by cases q),fun q=>Ab q HNO.out⟩⟩,X⟩
  case rest=>
   obtain⟨⟨c85,rfl,hod⟩,rfl⟩:=hcut;have HOE:=bx hod;clear hod c1 c4 c9 c9n k1 k2 k4 k6 k7 k8 k9
   cases c85 with
   |true=>
    have HNE:Hi (c.tree≠(c.again pr).tree):=HOD.out.2 (HOE.out.1 X)
    clear HOD HOE HG9
    obtain⟨z0,z1,z2,z3,z4,z5,z6,y0,y1,y2,y3,y4,y5,y6⟩:=rj HI5.out.res
    obtain⟨n0,n1,n2,n3,n4,n5,n6,_⟩:=rj HI5.out.non
    have hlw:w.heap.size+1<wc.heap.size:=aw n0
    go_wp2_with fail
    refine aS (v:=Tu #[iL,I J 0,I J 12]) (by simp[results,Tryz.results49,go_sem,bW,z0,z1,z2,z3,z4,z5,z6]) X ?_
    exact rk (qq HI5.out.bel _ _ _ _ _ _ _) HX.out HPP.out (.inl HNE.out)
   |false=>
    have HEQ:Hi (c.tree=(c.again pr).tree):=cW fun q=>by have:=HOE.out.2 (HOD.out.1 q);cases this
    clear HOE HOD HG9
    obtain⟨hn,hq⟩:=HNN.out
    obtain⟨q,hqq⟩:∃q,(pt c.ms).length=q:=Ey
    rw[hqq]at hq
    have HQ:=bx hqq
    have hms:(bZ c).length=q:=by unfold bZ;rw[bY];exact hqq
    have HMS:=bx hms
    have HCM:Hi (∀j,j<q->∃m:fO,∃mt:Q,(bZ c).take (j+1)=(bZ c).take j++[m]/\m.must=(mt.toList== [255])/\∀wq:M,wq.heap[ga]? =U (C cur 60 (0,0))->wq.cell? (D ga (o+(10+4*j+1)*4+1) Z)=U (Y m.kind)/\wq.cell? (D ga (o+(10+4*j+2)*4+1) Z)=U (Y mt)/\wq.cell? (D ga (o+(10+4*j+3)*4+1) Z)=U (Y m.body)):=fun j hj=>by
     have hj':j<(pt c.ms).length:=by rw[HQ.out];exact hj
     have e1:=(HCE.out (10+4*j+1) (by rw[hn];omega)).2.1
     have e2:=(HCE.out (10+4*j+2) (by rw[hn];omega)).2.1
     have e3:=(HCE.out (10+4*j+3) (by rw[hn];omega)).2.1
     rw[fD c j hj' 1 Dc]at e1
     rw[fD c j hj' 2 Dc]at e2
     rw[fD c j hj' 3 Dc]at e3
     have key:∀wq:M,wq.heap[ga]? =U (C cur 60 (0,0))->∀i,wq.cell? (D ga i Z)=w2.cell? (D ga i Z):=fun wq hw i=>by simp[Wc,hw,HCU.out]
     refine⟨Gd ((pt c.ms).getD j (bh,bh,bh)),_,?_,X,fun wq hw=>⟨(key wq hw _).trans e1,(key wq hw _).trans e2,(key wq hw _).trans e3⟩⟩
     unfold bZ
     rw[eB,fW,aC hj',aB,aC hj']
     rfl
    have HNQ:=bx hq
    have hnq:10+4*q<=n/\n<=10+4*q:=O
    have hq6:q<=100000:=O
    clear HCE HVA hms hqq hq hn hg5 hl5 HNN HKC
    obtain⟨i0,hi0,hz0,hz1,hz2⟩:=dD jk
    go_wp2_with fail
    go_loopw [11] (fun vi wr=>∃(j:Nat) (mv:Vv),j<=q/\vi=I J (10+4*(j:Int))/\BI w wr ga cur B (b8 c.vt 0) c.s c.n c.ft c.tt c.k mv ((bZ c).take j)) (fun vi _=>10+4*q-(Io vi).toNat)
    case atStart=>exact⟨0,_,Lz,X,HI5.out⟩
    case round=>
     obtain⟨j,mv,hj,rfl,hI⟩:=hrel
     have HI:=bx hI
     have hlj:((bZ c).take j).length=j:=by rw[gF,HMS.out];omega
     have HLJ:=bx hlj
     clear hI hlj
     by_cases hlt:j<q
     ·obtain⟨m,mt,hm1,hm2,hce⟩:=HCM.out j hlt
      obtain⟨L,hL⟩:∃L,(bZ c).take j=L:=Ey
      rw[hL]at HI HLJ hm1
      have HM:=bx (And.intro hm1 hm2)
      obtain⟨ai,hIJ⟩:∃ai,10+4*j=ai:=Ey
      have hIJ':10+4*(j:Int)=ai:=O
      rw[hIJ]at hce
      rw[hIJ']
      have HIJ:=bx hIJ
      have r0:(ai:Int)<n:=O
      obtain⟨I1,hI1⟩:∃x,ai+1=x:=Ey
      obtain⟨I2,hI2⟩:∃x,ai+2=x:=Ey
      obtain⟨I3,hI3⟩:∃x,ai+3=x:=Ey
      rw[hI1,hI2,hI3]at hce
      have r1:(I1:Int)<n:=O
      have r2:(I2:Int)<n:=O
      have r3:(I3:Int)<n:=O
      have rI:ai<=500000:=O
      have v1:IntKind.i64.wrap ((ai:Int)+1)=(I1:Int):=by rw[db];omega
      have v2:IntKind.i64.wrap ((ai:Int)+2)=(I2:Int):=by rw[db];omega
      have v3:IntKind.i64.wrap ((ai:Int)+3)=(I3:Int):=by rw[db];omega
      have HSK:=bx hce
      have c6:wr.cell? (D B 6 Z)=U mv:=by simp[Wc,HI.out.box]
      have hcw:B<wr.heap.size:=bm HI.out.box
      have hgw:ga<wr.heap.size:=bm HI.out.tr
      clear hce hm1 hm2 hL hIJ hIJ' hI1 hI2 hI3
      go_upto_region 13 with fail
      have HAP:Hi (∀(w6:M) (g6 cap6:Nat),w6.ownsRow w.heap.size 73 3 (S (U (D g6 0 Z)) (L.length+1) cap6) (L.length+1) (dV L++[Y m.kind,Bo (mt.toList== [255]),Y m.body])->(wr.alloc (C #[Y m.kind,Bo (mt.toList== [255]),Y m.body] 73)).drew.grownBy w6 mv.ownBlock->BI w (w6.setCell (D B 6 Z) (S (U (D g6 0 Z)) (L.length+1) cap6)) ga cur B (b8 c.vt 0) c.s c.n c.ft c.tt c.k (S (U (D g6 0 Z)) (L.length+1) cap6) ((bZ c).take (j+1))/\w6.cell? (D B 6 Z)=U mv/\w6.frozen? (D B 6 Z)=false/\w6.heap[ga]? =U (C cur 60 (0,0))):=fun w6 g6 cap6 h1 h2=>by
       have hA:=HI.out.below (((By).alloc Ln (C #[Y m.kind,Bo (mt.toList== [255]),Y m.body] 73)).drew)
       obtain⟨q1,q2,q3,q4⟩:=hA.put ⟨m.kind,mt.toList== [255],m.body⟩ h1 h2
       refine⟨?_,q2,q3,q4⟩
       rw[HM.out.1]
       rw[<-HM.out.2]at q1
       exact q1
      have HTA:Hi ((wr.alloc (C #[Y m.kind,Bo (mt.toList== [255]),Y m.body] 73)).drew.heap[ga]? =U (C cur 60 (0,0))):=ax HI.out.tr ((Be).drew)
      refine wp_region_held_drew (S:=fun w'=>w'.cell? (D ga (o+I1*4+1) Z)=U (Y m.kind)/\w'.cell? (D ga (o+I2*4+1) Z)=U (Y mt)/\w'.cell? (D ga (o+I3*4+1) Z)=U (Y m.body)) Kr ?_ (fun hHeld=>?_)
      ·exact HSK.out _ HI.out.tr
      refine tk 0 ?_
      try simp only[Ap,az,aI,aH]
      refine tk 2 ?_
      try simp only[Ap,az,aI,aH]
      refine tk 3 ?_
      try simp only[Ap,az,aI,aH]
      refine tk 4 ?_
      try simp only[Ap,az,aI,aH]
      refine tk 5 ?_
      try simp only[Ap,az,aI,aH]
      refine tk 6 ?_
      try simp only[Ap,az,aI,aH]
      refine tk 7 ?_
      try simp only[Ap,az,aI,aH]
      refine tk 8 ?_
      try simp only[Ap,az,aI,aH]
      refine tk 9 ?_
      try simp only[Ap,az,aI,aH]
      refine tk 10 ?_
      try simp only[Ap,az,aI,aH]
      refine tk 11 ?_
      try simp only[Ap,az,aI,aH]
      refine tk 12 ?_
      try simp only[Ap,az,aI,aH]
      refine tk 13 ?_
      try simp only[Ap,az,aI,aH]
      refine tk 14 ?_
      try simp only[Ap,az,aI,aH]
      refine tk 15 ?_
      try simp only[Ap,az,aI,aH]
      refine tk 16 ?_
      try simp only[Ap,az,aI,aH]
      refine tk 17 ?_
      try simp only[Ap,az,aI,aH]
      refine tk 18 ?_
      try simp only[Ap,az,aI,aH]
      refine tk 19 ?_
      try simp only[Ap,az,aI,aH]
      refine tk 20 ?_
      try simp only[Ap,az,aI,aH]
      refine tk 21 ?_
      try simp only[Ap,az,aI,aH]
      refine wpAnyH_ready (rs:=[1,22]) Kr Sq ?_
      refine AllReadyH.cons X (fun K hK=>?_) (AllReadyH.cons X (fun K hK=>?_) AllReadyH.nil)
      ·go_simp
       refine hK.out _ _ ?_ (fun hHeld2=>?_)
       ·exact HSK.out _ HI.out.tr
       clear hK K
       refine wpAnyH_ready (rs:=[22]) Kr Sq ?_
       refine AllReadyH.cons X (fun K hK=>?_) AllReadyH.nil
       go_simp
       refine hK.out _ _ ?_ (fun hHeld3=>?_)
       ·exact HSK.out _ HTA.out
       clear hK K
       refine wpAnyH_ready (rs:=[23]) Kr Sq ?_
       refine AllReadyH.cons X (fun K hK=>?_) AllReadyH.nil
       refine step_append_lies _ X (.tmp 94) (.tmp 115) 66 X w.heap.size 73 i0 ei 3 40 Tryz.underlying66 hi0 hz0 hz1 hz2 X Dc mv L.length (dV L) (by simp[Ae,Ap]) ((HI.out.own.alloc _).drew) (D wr.heap.size 0 Z) 1 1 [Y m.kind,Bo (mt.toList== [255]),Y m.body] (by simp[Ae,Ap]) X (World.news_of_block (w:=(wr.alloc (C #[Y m.kind,Bo (mt.toList== [255]),Y m.body] 73)).drew) (aA wr (C #[Y m.kind,Bo (mt.toList== [255]),Y m.body] 73))) (by intro u hu;simp at hu;rcases hu with rfl|rfl|rfl<;>rfl) Dc (by have:=HLJ.out;unfold maxLen;omega) (by have:=HLJ.out;omega) (by have:=HI.out.bel.size;simp;omega) (wr.heap.size+1) Sq ?_
       intro g6 cap6 w6 h1 h2 h3 h4
       obtain⟨hC6,t6,y6,hb6⟩:=HAP.out w6 g6 cap6 h1 h2
       have HC6:=bx hC6
       have hl6:B<w6.heap.size:=aw t6
       have HB6:=bx hb6
       clear h1 h2 h3 h4 hC6 hb6
       refine hK.out _ _ ?_ (fun hHeld4=>?_)
       ·exact HSK.out _ HB6.out
       clear hK K
       refine tk 24 ?_
       try simp only[Ap,az,aI,aH]
       refine wpAnyH_ready (rs:=[25]) Kr Sq ?_
       refine AllReadyH.cons X (fun K hK=>?_) AllReadyH.nil
       go_simp
       refine hK.out _ _ ?_ (fun hHeld5=>?_)
       ·exact HSK.out _ HC6.out.tr
       clear hK K
       refine wpAnyH_done Kr ?_ _
       have HC7:Hi (∃mv',BI w (w6.setCell (D B 6 Z) (S (U (D g6 0 Z)) (L.length+1) cap6)) ga cur B (b8 c.vt 0) c.s c.n c.ft c.tt c.k mv' ((bZ c).take (j+1))):=⟨_,HC6.out⟩
       generalize w6.setCell (D B 6 Z) (S (U (D g6 0 Z)) (L.length+1) cap6)=w7 at HC7 ⊢
       clear hHeld hHeld2 hHeld3 hHeld4 hHeld5 c6 t6 y6 HC6 hl6 HB6 HAP HSK
       go_wp2
       obtain⟨mv',h7⟩:=HC7.out
       have e4:=HIJ.out
       exact⟨⟨j+1,mv',O,Gn,h7⟩,by simp[Io];omega⟩
      ·go_simp
       refine hK.out _ _ ?_ (fun hHeld2=>?_)
       ·exact HSK.out _ HTA.out
       clear hK K
       refine wpAnyH_ready (rs:=[1]) Kr Sq ?_
       refine AllReadyH.cons X (fun K hK=>?_) AllReadyH.nil
       go_simp
       refine hK.out _ _ ?_ (fun hHeld3=>?_)
       ·exact HSK.out _ HTA.out
       clear hK K
       refine wpAnyH_ready (rs:=[23]) Kr Sq ?_
       refine AllReadyH.cons X (fun K hK=>?_) AllReadyH.nil
       refine step_append_lies _ X (.tmp 94) (.tmp 115) 66 X w.heap.size 73 i0 ei 3 40 Tryz.underlying66 hi0 hz0 hz1 hz2 X Dc mv L.length (dV L) (by simp[Ae,Ap]) ((HI.out.own.alloc _).drew) (D wr.heap.size 0 Z) 1 1 [Y m.kind,Bo (mt.toList== [255]),Y m.body] (by simp[Ae,Ap]) X (World.news_of_block (w:=(wr.alloc (C #[Y m.kind,Bo (mt.toList== [255]),Y m.body] 73)).drew) (aA wr (C #[Y m.kind,Bo (mt.toList== [255]),Y m.body] 73))) (by intro u hu;simp at hu;rcases hu with rfl|rfl|rfl<;>rfl) Dc (by have:=HLJ.out;unfold maxLen;omega) (by have:=HLJ.out;omega) (by have:=HI.out.bel.size;simp;omega) (wr.heap.size+1) Sq ?_
       intro g6 cap6 w6 h1 h2 h3 h4
       obtain⟨hC6,t6,y6,hb6⟩:=HAP.out w6 g6 cap6 h1 h2
       have HC6:=bx hC6
       have hl6:B<w6.heap.size:=aw t6
       have HB6:=bx hb6
       clear h1 h2 h3 h4 hC6 hb6
       refine hK.out _ _ ?_ (fun hHeld4=>?_)
       ·exact HSK.out _ HB6.out
       clear hK K
       refine tk 24 ?_
       try simp only[Ap,az,aI,aH]
       refine wpAnyH_ready (rs:=[25]) Kr Sq ?_
       refine AllReadyH.cons X (fun K hK=>?_) AllReadyH.nil
       go_simp
       refine hK.out _ _ ?_ (fun hHeld5=>?_)
       ·exact HSK.out _ HC6.out.tr
       clear hK K
       refine wpAnyH_done Kr ?_ _
       have HC7:Hi (∃mv',BI w (w6.setCell (D B 6 Z) (S (U (D g6 0 Z)) (L.length+1) cap6)) ga cur B (b8 c.vt 0) c.s c.n c.ft c.tt c.k mv' ((bZ c).take (j+1))):=⟨_,HC6.out⟩
       generalize w6.setCell (D B 6 Z) (S (U (D g6 0 Z)) (L.length+1) cap6)=w7 at HC7 ⊢
       clear hHeld hHeld2 hHeld3 hHeld4 hHeld5 c6 t6 y6 HC6 hl6 HB6 HAP HSK
       go_wp2
       obtain⟨mv',h7⟩:=HC7.out
       have e4:=HIJ.out
       exact⟨⟨j+1,mv',O,Gn,h7⟩,by simp[Io];omega⟩
     ·obtain rfl:j=q:=O
      have hms:(bZ c).take j=bZ c:=cZ (by rw[HMS.out];exact Ln)
      have HE:Hi (BI w wr ga cur B (b8 c.vt 0) c.s c.n c.ft c.tt c.k mv (bZ c)):=by have h:=HI.out;rw[hms]at h;exact h
      have HLK1:=bx (HLK.out c wr HX.out.1 HX.out.2.2.1 HX.out.2.2.2)
      obtain⟨ma,mc,rfl,hcp⟩:=iB HE.out.own
      have HL2:=bx (HLK1.out ma mc (fj.of_own HE.out.own) (jr HE.out.own))
      obtain⟨c0,c1,c2,c3,c4,c5,c6⟩:=r8 HE.out.box
      have hlb:B<wr.heap.size:=aw c0
      have hnj:(n:Int)<=10+4*(j:Int):=O
      unfold bW at HL2
      clear HI HCM HLJ hms hcp HLK1 HLK
      go_wp2_with fail
      refine HL2.out.mono ?_
      rintro e w9 ⟨hb9,h9⟩
      have HE9:=bx (HE.out.below hb9)
      have hfar:=HE.out.far
      clear hb9 HL2 c0 c1 c2 c3 c4 c5 c6 hlb
      obtain⟨z0,z1,z2,z3,z4,z5,z6,y0,y1,y2,y3,y4,y5,y6⟩:=rj HE9.out.res
      rcases h9 with⟨hc,rfl⟩|⟨hc,hm,rfl⟩|⟨hc,hm,rfl⟩
      ·have HN:=bx hc
       obtain⟨n0,n1,n2,n3,n4,n5,n6,_⟩:=rj HE9.out.non
       have hlw:w.heap.size+1<w9.heap.size:=aw n0
       clear hc
       go_wp2_with fail
       refine aS (v:=Tu #[iL,I J 0,I J 12]) (by simp[results,Tryz.results49,go_sem,bW,z0,z1,z2,z3,z4,z5,z6]) X ?_
       exact rk (qq HE9.out.bel _ _ _ _ _ _ _) HX.out HPP.out (.inr HN.out)
      ·have HN:=bx (And.intro hc hm)
       obtain⟨n0,n1,n2,n3,n4,n5,n6,_⟩:=rj HE9.out.non
       have hlw:w.heap.size+1<w9.heap.size:=aw n0
       clear hc hm
       go_wp2_with fail
       refine aS (v:=Tu #[iL,I J 0,I J 13]) (by simp[results,Tryz.results49,go_sem,bW,z0,z1,z2,z3,z4,z5,z6]) X ?_
       exact yX (qq HE9.out.bel _ _ _ _ _ _ _) HX.out HPP.out HEQ.out HN.out.1 HN.out.2
      ·have HN:=bx (And.intro hc hm)
       obtain⟨c0,c1,c2,c3,c4,c5,c6⟩:=r8 HE9.out.box
       have hlb:B<w9.heap.size:=aw c0
       clear hc hm
       go_wp2_with fail
       refine aS (v:=Tu #[bW (b8 c.vt 0) c.s c.n c.ft c.tt c.k (S ma (bZ c).length mc),I J 0,I J 0]) (by simp[results,Tryz.results49,go_sem,bW,z0,z1,z2,z3,z4,z5,z6]) X ?_
       have hne:=cJ HE9.out.res HE9.out.own Dc
       exact C9 (qq HE9.out.bel _ _ _ _ _ _ _) HX.out HPP.out HEQ.out HN.out.1 HN.out.2 (aJ (aJ (aJ (aJ (aJ (aJ (aJ HE9.out.own hne _) hne _) hne _) hne _) hne _) hne _) hne _)
end Go.Proofs.YtkkicodfpekbgaaGreatDoor
