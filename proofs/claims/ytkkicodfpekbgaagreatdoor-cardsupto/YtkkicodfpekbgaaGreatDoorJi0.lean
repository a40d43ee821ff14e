/-
Several texts in one.
-/
import Derived.Test.YtkkicodfpekbgaaGreatDoorJh1
import Derived.Test.YtkkicodfpekbgaaGreatDoorJh0
open Go.Value renaming int->I,string->Y,slice->S,pointer->Po,bool->Bo,agg->Ag,tuple->Tu,iface->If
open Go.IntKind renaming i64->J
open Go.Obj renaming cells->C
open Go.Ending renaming returned->Rt
open Option renaming some->U,none->Z
open Go renaming World->M,Calls->Cs,Addr->Ad,Value->Vv
open _root_ renaming ByteArray->Q,Option->Oo,List->Ls
open Go.RowKit renaming Below->H,intOf->Io,Hid->Hi
open Go.World renaming cell?->Wc,frozen?->Wf
open Go.Act renaming put->Ap,eval->Ae
open UInt8 renaming ofNat->Uo
open Go.Addr renaming mk->D
set_option linter.unusedSimpArgs false
set_option linter.unusedVariables false
set_option maxRecDepth 100000
set_option maxHeartbeats 8000000
namespace Go.Proofs.YtkkicodfpekbgaaGreatDoor
open Go.RowKit
theorem jr{w:M}{B:Nat}{e:TypeId}{s n c:Nat}{a:Oo Ad}{xs:Ls Vv}(h:w.ownsRow B e s (S a n c) n xs):n<=c:=by
 rcases h.2 with⟨h',hn⟩|⟨g',cap',cur,h',_,hg,hnc,hcm,_⟩
 ·injection h' with _ _ h3;omega
 injection h' with _ _ h3;omega
structure GH(s n f t k:Q)(ms:Ls fO):Prop where
 s:s.size<=140737488355328
 n:n.size<=140737488355328
 f:f.size<=140737488355328
 t:t.size<=140737488355328
 k:k.size<=140737488355328
 ms:Hy ms
theorem GU(b:Bool):aR 1 (bT b):=by
 cases b
 ·exact(gx _).1 ⟨X,.inl X⟩
 exact(gx _).1 ⟨X,.inr X⟩
theorem pB(b:Bool):(bT b).size=1:=by cases b<;>rfl
theorem CR{m:fO}(h:gX m):aR 4 m.kind:=by
 rcases h with⟨h,_⟩|⟨h,_⟩|⟨_,_,h,_⟩
 ·rw[h];exact(fc _).1 (by unfold gI jD BP;decide)
 ·rw[h];exact(fc _).1 (by unfold gI jD BP;decide)
 exact h
theorem vN{ms:Ls fO}{m:fO}(h:m∈ms):∃j,j<ms.length/\ms.getD j iy=m:=by obtain⟨j,hj,e⟩:=dN h;exact⟨j,hj,by rw[aB,aC hj,BM,e]⟩
theorem GV{v:Int}{s n f t k:Q}{ms:Ls fO}{pr:Bool}(hc:cN v s n f t k ms.length)(hm:dd ms)(hp:pr=true↔aR 8 n):(ctOf v s n pr f t k ms).Ok where
 vt:=(eM _).1 ⟨Ln,by show(1:Nat)<=20;decide,fun h=>by have h:2<=1:=h;omega⟩
 s:=(eM _).1 hc.ser
 n:=by
  show aR (if pr then 8 else 7) n
  cases pr with
  |true=>exact hp.1 X
  |false=>exact(lM _).1 hc.nam.2.2
 ft:=(iX _).1 hc.frm
 tt:=(iX _).1 hc.til
 k:=(jT _).1 hc.key
 ms:=fun qs e q hq=>by
  have e':sS ms=U qs:=e
  unfold sS at e'
  split at e'
  ·cases e'
  ·cases e'
   obtain⟨m,hmm,rfl⟩:=List.mem_map.1 hq
   obtain⟨j,hj,rfl⟩:=vN hmm
   exact⟨CR (hm j hj).1,GU _⟩
theorem wR{v:Int}{s n f t k:Q}{ms:Ls fO}{pr:Bool}:(ctOf v s n pr f t k ms).tree.length<=10+4*ms.length:=by
 unfold CT.tree;rw[aQ];show 9+(jf (sS ms)).length<=_;unfold sS;split
 ·show 9+1<=_;omega
 unfold jf;rw[aU];have:∀l:Ls (Q×Q×Q),(l.flatMap fG).length=4*l.length:=fun l=>by
  induction l with
  |nil=>rfl
  |cons a l ih=>rw[dx,aQ,ih];show 4+_=_;rw[aU];omega
 simp only[this,bY];omega
theorem Ds{v:Int}{s n f t k:Q}{ms:Ls fO}{pr:Bool}(hz:GH s n f t k ms)(hn:ms.length<=1000000):∀x∈(ctOf v s n pr f t k ms).tree,x.text.size<=140737488355328/\x.kids<=9223372036854775807:=by
 intro x hx;have h1:∀(k:Int) (u:Q) (a c:Int),u.size<=140737488355328->c<=1000000->(⟨k,u,a,c⟩:Vl).text.size<=140737488355328/\(⟨k,u,a,c⟩:Vl).kids<=9223372036854775807:=fun k u a c q1 q2=>⟨q1,by show c<=_;omega⟩;unfold CT.tree at hx;rcases DG.1 hx with hx|hx
 ·have hx':x∈mO ⟨#[Uo v.toNat]⟩ s n pr f t k:=hx;unfold mO at hx';simp only[GA,BK,or_false]at hx';rcases hx' with rfl|rfl|rfl|rfl|rfl|rfl|rfl|rfl|rfl
  ·exact h1 _ _ _ _ Lz Dc
  ·exact h1 _ _ _ _ (by show(1:Nat)<=_;omega) Dc
  ·exact h1 _ _ _ _ hz.s Dc
  ·exact h1 _ _ _ _ Lz Dc
  ·exact h1 _ _ _ _ hz.n Dc
  ·exact h1 _ _ _ _ Lz Dc
  ·exact h1 _ _ _ _ hz.f Dc
  ·exact h1 _ _ _ _ hz.t Dc
  exact h1 _ _ _ _ hz.k Dc
 have hx':x∈jf (sS ms):=hx;unfold sS at hx';split at hx'
 ·obtain rfl:=List.mem_singleton.1 hx';exact h1 _ _ _ _ Lz Dc
 unfold jf at hx';rcases GA.1 hx' with rfl|hx'
 ·exact h1 _ _ _ _ Lz (by rw[bY];omega)
 obtain⟨q,hq,hx2⟩:=List.mem_flatMap.1 hx';obtain⟨m,hm,rfl⟩:=List.mem_map.1 hq;obtain⟨j,hj,rfl⟩:=vN hm;have hz2:=hz.ms j hj;unfold fG at hx2;simp only[GA,BK,or_false]at hx2;rcases hx2 with rfl|rfl|rfl|rfl
 ·exact h1 _ _ _ _ Lz Dc
 ·exact h1 _ _ _ _ hz2.1 Dc
 ·exact h1 _ _ _ _ (by show(bT _).size<=_;rw[pB];omega) Dc
 exact h1 _ _ _ _ hz2.2 Dc
theorem Cw{v:Int}{s n f t k:Q}{ms:Ls fO}{pr:Bool}(hc:cN v s n f t k ms.length)(hm:dd ms)(hp:pr=true↔aR 8 n):∃F,Fo F cS 0 (ctOf v s n pr f t k ms).tree (if 4000<(ctOf v s n pr f t k ms).bytes.size then .error 2 else .ok (ctOf v s n pr f t k ms).bytes):=by
 have hk:∃ok:Int->Q->Bool,∀k t,ok k t=true↔aR k t:=⟨fun k t=> @decide (aR k t) (Classical.propDecidable _),fun k t=>Sq⟩;obtain⟨ok,hok⟩:=hk;have hw:=DU (F:=⟨cS,(ctOf v s n pr f t k ms).tree,ok⟩) X hok X (GV hc hm hp) (f:=ms.length) (fun qs e=>by
  have e':sS ms=U qs:=e;unfold sS at e';split at e'
  ·cases e'
  cases e';rw[bY];exact Ln)
 refine⟨_,.inr ⟨⟨jz.1,Dc,Dc⟩,X,X,hok,_,_,hw,?_⟩⟩;unfold vI;simp only;rw[G (show¬(ctOf v s n pr f t k ms).tree.length<(ctOf v s n pr f t k ms).tree.length from oo _)];by_cases h:4000<(ctOf v s n pr f t k ms).bytes.size
 ·rw[aG h,aG h]
 rw[G h,G h,G Dc]
end Go.Proofs.YtkkicodfpekbgaaGreatDoor
namespace Go.Proofs.YtkkicodfpekbgaaGreatDoor
open Go.Proofs.Tryz
open Go.RowKit
def Gd(q:Q×Q×Q):fO:=⟨q.1,q.2.1.toList== [255],q.2.2⟩
def pt(o:Oo (Ls (Q×Q×Q))):Ls (Q×Q×Q):=o.getD []
def bZ(c:CT):Ls fO:=(pt c.ms).map Gd
theorem jH(c:CT):c.tree.length=10+4*(pt c.ms).length:=by
 have:∀l:Ls (Q×Q×Q),(l.flatMap fG).length=4*l.length:=fun l=>by
  induction l with
  |nil=>rfl
  |cons a l ih=>rw[dx,aQ,ih];show 4+_=_;rw[aU];omega
 unfold CT.tree jf pt;rw[aQ]
 cases c.ms with
 |none=>rfl
 |some qs=>
  show 9+((qs.flatMap fG).length+1)=10+4*qs.length
  rw[this];omega
theorem fD(c:CT)(j:Nat)(hj:j<(pt c.ms).length)(i:Nat)(hi:i<4):vl c.tree (10+4*j+i)=vl (fG ((pt c.ms).getD j (bh,bh,bh))) i:=by
 have key:∀(l:Ls (Q×Q×Q)) (j:Nat),j<l.length->vl (l.flatMap fG) (4*j+i)=vl (fG (l.getD j (bh,bh,bh))) i:=fun l=>by
  induction l with
  |nil=>intro j hj;exact Ab hj (aO _)
  |cons a l ih=>
   intro j hj
   match j,hj with
   |0,_=>
    rw[dx]
    unfold vl
    rw[aB,cm (by show 4*0+i<4;omega),aB,Nat.mul_zero,b9]
    rfl
   |j+1,hj=>
    rw[dx,show 4*(j+1)+i=(fG a).length+(4*j+i)by show _=4+_;omega,oN,ih j (by simpa using hj),Iv]
 cases hm:c.ms with
 |none=>rw[hm]at hj;exact Ab hj (aO _)
 |some qs=>
  rw[hm]at hj
  unfold CT.tree
  rw[hm]
  show vl (mO c.vt c.s c.n c.pr c.ft c.tt c.k++(⟨11,bh,0,(qs.length:Nat)⟩::qs.flatMap fG)) (10+4*j+i)=_
  rw[show 10+4*j+i=(mO c.vt c.s c.n c.pr c.ft c.tt c.k).length+(1+(4*j+i))by show _=9+_;omega,oN,show(⟨11,bh,0,(qs.length:Nat)⟩:Vl)::qs.flatMap fG=[(⟨11,bh,0,(qs.length:Nat)⟩:Vl)]++qs.flatMap fG from X,show 1+(4*j+i)=[(⟨11,bh,0,(qs.length:Nat)⟩:Vl)].length+(4*j+i)from X,oN]
  exact key qs j hj
def GO(c:CT)(w:M)(e:Ending)(w':M):Prop:=
 H w.heap.size w w'/\∃ma mc,e=Rt (bW (b8 c.vt 0) c.s c.n c.ft c.tt c.k (S ma (bZ c).length mc))/\w'.ownsRow w.heap.size 73 3 (S ma (bZ c).length mc) (bZ c).length (dV (bZ c))
abbrev dK:Array Vv:=#[I J 0,Y ⟨#[]⟩,Y ⟨#[]⟩,Y ⟨#[]⟩,Y ⟨#[]⟩,Y ⟨#[]⟩,S Z 0 0]
abbrev dz(v:Int)(s n f t k:Q)(mv:Vv):Array Vv:=#[I J v,Y s,Y n,Y f,Y t,Y k,mv]
structure BG(W wr:M)(v:Int)(s n f t k:Q)(mv:Vv)(ms:Ls fO):Prop where
 bel:H W.heap.size W wr
 res:wr.heap[W.heap.size]? =U (C dK 68 (0,0))
 box:wr.heap[W.heap.size+1]? =U (C (dz v s n f t k mv) 68 (0,0))
 own:wr.ownsRow W.heap.size 73 3 mv ms.length (dV ms)
theorem BG.below{W wr w':M}{v:Int}{s n f t k:Q}{mv:Vv}{ms:Ls fO}(h:BG W wr v s n f t k mv ms)(hb:H wr.heap.size wr w'):BG W w' v s n f t k mv ms:=
 ⟨h.bel.trans (hb.mono h.bel.size),ax h.res hb,ax h.box hb,bB h.own hb⟩
theorem BG.put{W wr w':M}{v:Int}{s n f t k:Q}{mv:Vv}{ms:Ls fO}{g cap:Nat}(h:BG W wr v s n f t k mv ms)(m:fO)(h1:w'.ownsRow W.heap.size 73 3 (S (U (D g 0 Z)) (ms.length+1) cap) (ms.length+1) (dV ms++[Y m.kind,Bo m.must,Y m.body]))(h2:wr.grownBy w' mv.ownBlock):BG W (w'.setCell (D (W.heap.size+1) 6 Z) (S (U (D g 0 Z)) (ms.length+1) cap)) v s n f t k (S (U (D g 0 Z)) (ms.length+1) cap) (ms++[m])/\w'.cell? (D (W.heap.size+1) 6 Z)=U mv/\w'.frozen? (D (W.heap.size+1) 6 Z)=false:=by
 have hC:w'.heap[W.heap.size+1]? =U (C (dz v s n f t k mv) 68 (0,0)):=by rw[h2.block _ (bm h.box) (fun q=>cJ h.box h.own Dc q.symm)];exact h.box
 have hR:w'.heap[W.heap.size]? =U (C dK 68 (0,0)):=by rw[h2.block _ (bm h.res) (fun q=>cJ h.res h.own Dc q.symm)];exact h.res
 refine⟨⟨(h.bel.grown h2 h.bel.size (fun k hk=>(h.own.lt k hk).1)).setCell (jt _) _,by rw[aP _ _ _ _ Sq];exact hR,bn w' _ 6 _ _ _ hC,?_⟩,by simp[Wc,hC],by simp[Wf,hC]⟩;rw[j7,aQ];exact aJ h1 (cJ hC h1 Dc) _
def ei:Vv:=Ag #[Y ⟨#[]⟩,Bo false,Y ⟨#[]⟩]
theorem jk:(prog.info? 73).map (fun i=>(i.zero,i.size,i.bytes))=U (U ei,3,40):=Kr
def Gq:Vv->Nat
 |S _ n _=>n
 |_=>0
theorem xV(c:CT)(hok:c.Ok)(a:Oo Ad)(tc:Nat)(w:M)(hv:iV w a c.tree)(htc:c.tree.length<=tc)(htl:c.tree.length<=1000000):Cs prog 88 #[S a c.tree.length tc] w fun e w'=>GO c w e w':=by
 have hq:=jH c;obtain⟨n,hn⟩:∃n,c.tree.length=n:=Ey;have hvt:1<=c.vt.size:=((eM _).2 hok.vt).1;have HV:=bF hv;obtain⟨g,o,rfl,_⟩:=hv 0 O;have cell:∀j,j<c.tree.length->w.cell? (D g (o+j*4+1) Z)=U (Y (vl c.tree j).text):=fun j hj=>by obtain⟨g',o',e,_,h,_⟩:=HV j hj;injection e with e;injection e with e1 e2 _;subst e1 e2;exact h
 have d1:w.cell? (D g (o+5) Z)=U (Y c.vt):=cell 1 O;have d2:w.cell? (D g (o+9) Z)=U (Y c.s):=cell 2 O;have d4:w.cell? (D g (o+17) Z)=U (Y c.n):=cell 4 O;have d6:w.cell? (D g (o+25) Z)=U (Y c.ft):=cell 6 O;have d7:w.cell? (D g (o+29) Z)=U (Y c.tt):=cell 7 O;have d8:w.cell? (D g (o+33) Z)=U (Y c.k):=cell 8 O;have HCE:=bF cell;have hgl:g<w.heap.size:=aw d1;rw[hn];rw[hn]at hq htc htl;have hn10:(10:Int)<=n:=O;have HD:Hi (∀wq,H w.heap.size w wq->wq.cell? (D g (o+5) Z)=U (Y c.vt)/\wq.cell? (D g (o+9) Z)=U (Y c.s)/\wq.cell? (D g (o+17) Z)=U (Y c.n)/\wq.cell? (D g (o+25) Z)=U (Y c.ft)/\wq.cell? (D g (o+29) Z)=U (Y c.tt)/\wq.cell? (D g (o+33) Z)=U (Y c.k)):=fun wq q=>⟨(q.cell (aw d1)).trans d1,(q.cell (aw d2)).trans d2,(q.cell (aw d4)).trans d4,(q.cell (aw d6)).trans d6,(q.cell (aw d7)).trans d7,(q.cell (aw d8)).trans d8⟩;have HNN:=bF (And.intro hn hq);have HB8:=bF (cH c.vt 0 O);have hvt':(0:Int)<c.vt.size:=O;have hvt2:0<c.vt.size:=O;have k1:(1:Int)<n:=O;have k2:(2:Int)<n:=O;have k4:(4:Int)<n:=O;have k6:(6:Int)<n:=O;have k7:(7:Int)<n:=O;have k8:(8:Int)<n:=O;clear hv cell hok hn hq;go_enter func88,ntmps88;go_upto_region 1 with fail;have hw8:IntKind.i64.wrap (c.vt[0].toNat:Int)=b8 c.vt 0:=by rw[HB8,db];have:=gu c.vt 0;omega
 go_cut [3] (fun v3 wx=>v3=Po (U (D (w.heap.size+1) 0 Z))/\BG w wx (b8 c.vt 0) c.s c.n c.ft c.tt c.k (S Z 0 0) []);case first=>go_region_held_law (fun wq=>wq.cell? (D g (o+5) Z)=U (Y c.vt)/\wq.cell? (D g (o+9) Z)=U (Y c.s)/\wq.cell? (D g (o+17) Z)=U (Y c.n)/\wq.cell? (D g (o+25) Z)=U (Y c.ft)/\wq.cell? (D g (o+29) Z)=U (Y c.tt)/\wq.cell? (D g (o+33) Z)=U (Y c.k)) (go_keep) (fail);all_goals go_wp2_with fail;go_meet;have h1:=aA w (C dK 68);have h2:=aA (w.alloc (C dK 68)) (C (dz (b8 c.vt 0) c.s c.n c.ft c.tt c.k (S Z 0 0)) 68);have e:(w.alloc (C dK 68)).heap.size=w.heap.size+1:=Sq;rw[e]at h2;exact⟨X,((Be).alloc Sq _).drew,ax h1 (Be).drew,h2,bX _ _ _ _⟩
 case rest=>
  obtain⟨rfl,hC⟩:=hcut;have HC:=bF hC;clear hC hw8 HB8 d1 d2 d4 d6 d7 d8 k1 k2 k4 k6 k7 k8 hvt hvt' hvt2 HD;obtain⟨hn,hq⟩:=HNN.out;obtain⟨q,hqq⟩:∃q,(pt c.ms).length=q:=Ey;rw[hqq]at hq;have HQ:=bF hqq;have hms:(bZ c).length=q:=by unfold bZ;rw[bY];exact hqq
  have HMS:=bF hms;have HCM:Hi (∀j,j<q->∃m:fO,∃mt:Q,(bZ c).take (j+1)=(bZ c).take j++[m]/\m.must=(mt.toList== [255])/\w.cell? (D g (o+(10+4*j)*4+5) Z)=U (Y m.kind)/\w.cell? (D g (o+(10+4*j)*4+9) Z)=U (Y mt)/\w.cell? (D g (o+(10+4*j)*4+13) Z)=U (Y m.body)):=fun j hj=>by(have hj':j<(pt c.ms).length:=by rw[HQ.out];exact hj);have e1:=HCE (10+4*j+1) (by rw[hn];omega);have e2:=HCE (10+4*j+2) (by rw[hn];omega);have e3:=HCE (10+4*j+3) (by rw[hn];omega);rw[fD c j hj' 1 Dc,show o+(10+4*j+1)*4+1=o+(10+4*j)*4+5 by omega]at e1;rw[fD c j hj' 2 Dc,show o+(10+4*j+2)*4+1=o+(10+4*j)*4+9 by omega]at e2;rw[fD c j hj' 3 Dc,show o+(10+4*j+3)*4+1=o+(10+4*j)*4+13 by omega]at e3;refine⟨Gd ((pt c.ms).getD j (bh,bh,bh)),_,?_,X,e1,e2,e3⟩;unfold bZ;rw[eB,fW,aC hj',aB,aC hj'];rfl
  have HNQ:=bF hq;have hnq:n-10=4*q:=O;have hn1:10<=n:=O;clear HCE HV hms hqq hq hn;obtain⟨i0,hi0,hz0,hz1,hz2⟩:=dD jk;go_upto_region 2 with fail;go_cut [4] (fun v4 wx=>∃ra:Oo Ad,v4=S ra (4*q) (tc-10)/\(0<q->ra=U (D g (o+40) Z))/\wx=wc)
  case first=>
   go_wp2_with fail
   ·subst h;go_meet;exact⟨_,X,fun h=>by have:=HNQ.out;omega,X⟩
   go_meet;exact⟨_,X,fun _=>rfl,X⟩
  case rest=>
   obtain⟨ra,rfl,hra,rfl⟩:=hcut;have HRA:=bF hra;have hrc:4*q<=tc-10:=O;have HRC:=bF hrc;clear hra hrc hnq hn1 hn10;generalize tc-10=rc at HRC ⊢;go_wp2_with fail;go_loopw [4] (fun v4 wr=>∃(j:Nat) (ra:Oo Ad) (rc:Nat) (mv:Vv),j<=q/\v4=S ra (4*(q-j)) rc/\4*(q-j)<=rc/\(j<q->ra=U (D g (o+(10+4*j)*4) Z))/\BG w wr (b8 c.vt 0) c.s c.n c.ft c.tt c.k mv ((bZ c).take j)) (fun v4 _=>Gq v4);case atStart=>exact⟨0,ra,rc,_,Lz,X,HRC,fun h=>HRA h,HC⟩
   obtain⟨j,ra,rc,mv,hj,rfl,hrc,hra,hI⟩:=hrel;have HI:=bF hI;have HRC:=bF hrc;(have hlj:((bZ c).take j).length=j:=by rw[gF,HMS.out];omega);have HLJ:=bF hlj;clear hI hrc hlj;by_cases hlt:j<q
   ·obtain rfl:=hra hlt;obtain⟨m,mt,hm1,hm2,e1,e2,e3⟩:=HCM j hlt;obtain⟨L,hL⟩:∃L,(bZ c).take j=L:=Ey;rw[hL]at HI HLJ hm1;have HM:=bF (And.intro hm1 hm2);obtain⟨r,hr⟩:∃r,4*(q-j)=r:=Ey;have HR:=bF hr;(have hjb:j<250000:=by have:=HNQ.out;omega);have r0:(0:Int)<r:=O;have r1:(1:Int)<r:=O;have r2:(2:Int)<r:=O;have r3:(3:Int)<r:=O;have r4:(4:Int)<=r:=O;obtain⟨an,hO⟩:∃an,o+(10+4*j)*4=an:=Ey;have HO:=bF hO;rw[hO]at e1 e2 e3 ⊢;(have c6:wr.cell? (D (w.heap.size+1) 6 Z)=U mv:=by simp[Wc,HI.box]);have hcw:w.heap.size+1<wr.heap.size:=bm HI.box;have HSK:Hi (∀wq,H w.heap.size w wq->wq.cell? (D g (an+5) Z)=U (Y m.kind)/\wq.cell? (D g (an+9) Z)=U (Y mt)/\wq.cell? (D g (an+13) Z)=U (Y m.body)):=fun wq q=>⟨(q.cell (aw e1)).trans e1,(q.cell (aw e2)).trans e2,(q.cell (aw e3)).trans e3⟩;rw[hr];clear e1 e2 e3 hm1 hm2 hr hO hL;go_upto_region 5 with fail;(have HAP:Hi (∀(w6:M) (g6 cap6:Nat),w6.ownsRow w.heap.size 73 3 (S (U (D g6 0 Z)) (L.length+1) cap6) (L.length+1) (dV L++[Y m.kind,Bo (mt.toList== [255]),Y m.body])->(wr.alloc (C #[Y m.kind,Bo (mt.toList== [255]),Y m.body] 73)).drew.grownBy w6 mv.ownBlock->BG w (w6.setCell (D (w.heap.size+1) 6 Z) (S (U (D g6 0 Z)) (L.length+1) cap6)) (b8 c.vt 0) c.s c.n c.ft c.tt c.k (S (U (D g6 0 Z)) (L.length+1) cap6) ((bZ c).take (j+1))/\w6.cell? (D (w.heap.size+1) 6 Z)=U mv/\w6.frozen? (D (w.heap.size+1) 6 Z)=false/\H w.heap.size w w6):=fun w6 g6 cap6 h1 h2=>by have hA:=HI.below (((By).alloc Ln (C #[Y m.kind,Bo (mt.toList== [255]),Y m.body] 73)).drew);obtain⟨q1,q2,q3⟩:=hA.put ⟨m.kind,mt.toList== [255],m.body⟩ h1 h2;refine⟨?_,q2,q3,hA.bel.grown h2 hA.bel.size (fun k hk=>(hA.own.lt k hk).1)⟩;rw[HM.1];rw[<-HM.2]at q1;exact q1);refine wp_region_held_drew (S:=fun w'=>w'.cell? (D g (an+5) Z)=U (Y m.kind)/\w'.cell? (D g (an+9) Z)=U (Y mt)/\w'.cell? (D g (an+13) Z)=U (Y m.body)) Kr ?_ (fun hHeld=>?_)
    ·exact HSK _ HI.bel.drew
    refine tk 0 ?_;(try simp only[Ap,az,aI,aH]);refine tk 2 ?_;(try simp only[Ap,az,aI,aH]);refine tk 3 ?_;(try simp only[Ap,az,aI,aH]);refine tk 4 ?_;(try simp only[Ap,az,aI,aH]);refine tk 5 ?_;(try simp only[Ap,az,aI,aH]);refine tk 6 ?_;(try simp only[Ap,az,aI,aH]);refine tk 7 ?_;(try simp only[Ap,az,aI,aH]);refine tk 8 ?_;(try simp only[Ap,az,aI,aH]);refine tk 9 ?_;(try simp only[Ap,az,aI,aH]);refine tk 10 ?_;(try simp only[Ap,az,aI,aH]);refine tk 11 ?_;(try simp only[Ap,az,aI,aH]);refine tk 12 ?_;(try simp only[Ap,az,aI,aH]);refine tk 13 ?_;(try simp only[Ap,az,aI,aH]);refine tk 14 ?_;(try simp only[Ap,az,aI,aH]);refine tk 15 ?_;(try simp only[Ap,az,aI,aH]);refine wpAnyH_ready (rs:=[1,16]) Kr Sq ?_;refine AllReadyH.cons X (fun K hK=>?_) (AllReadyH.cons X (fun K hK=>?_) AllReadyH.nil)
    ·go_simp;refine hK.out _ _ ?_ (fun hHeld2=>?_)
     ·exact HSK _ HI.bel.drew
     clear hK K;refine wpAnyH_ready (rs:=[16]) Kr Sq ?_;refine AllReadyH.cons X (fun K hK=>?_) AllReadyH.nil;go_simp;refine hK.out _ _ ?_ (fun hHeld3=>?_)
     ·exact HSK _ (HI.bel.alloc HI.bel.size _).drew
     clear hK K;refine wpAnyH_ready (rs:=[17]) Kr Sq ?_;refine AllReadyH.cons X (fun K hK=>?_) AllReadyH.nil;refine step_append_lies _ X (.tmp 40) (.tmp 55) 66 X w.heap.size 73 i0 ei 3 40 underlying66 hi0 hz0 hz1 hz2 X Dc mv L.length (dV L) (by simp[Ae,Ap]) ((HI.out.own.alloc _).drew) (D wr.heap.size 0 Z) 1 1 [Y m.kind,Bo (mt.toList== [255]),Y m.body] (by simp[Ae,Ap]) X (World.news_of_block (w:=(wr.alloc (C #[Y m.kind,Bo (mt.toList== [255]),Y m.body] 73)).drew) (aA wr (C #[Y m.kind,Bo (mt.toList== [255]),Y m.body] 73))) (by intro u hu;simp at hu;rcases hu with rfl|rfl|rfl<;>rfl) Dc (by have:=HLJ.out;unfold maxLen;omega) (by have:=HLJ.out;omega) (by have:=HI.out.bel.size;simp;omega) (wr.heap.size+1) Sq ?_;intro g6 cap6 w6 h1 h2 h3 h4;obtain⟨hC6,t6,y6,hb6⟩:=HAP w6 g6 cap6 h1 h2;have HC6:=bF hC6;have hl6:w.heap.size+1<w6.heap.size:=aw t6;have HB6:=bF hb6;clear h1 h2 h3 h4 hC6 hb6;refine hK.out _ _ ?_ (fun hHeld4=>?_)
     ·exact HSK _ HB6
     clear hK K;refine tk 18 ?_;(try simp only[Ap,az,aI,aH]);refine wpAnyH_ready (rs:=[19]) Kr Sq ?_;refine AllReadyH.cons X (fun K hK=>?_) AllReadyH.nil;go_simp;refine hK.out _ _ ?_ (fun hHeld5=>?_)
     ·exact HSK _ HC6.bel
     clear hK K;refine wpAnyH_done Kr ?_ _;have HC7:Hi (∃mv',BG w (w6.setCell (D (w.heap.size+1) 6 Z) (S (U (D g6 0 Z)) (L.length+1) cap6)) (b8 c.vt 0) c.s c.n c.ft c.tt c.k mv' ((bZ c).take (j+1))):=⟨_,HC6⟩;generalize w6.setCell (D (w.heap.size+1) 6 Z) (S (U (D g6 0 Z)) (L.length+1) cap6)=w7 at HC7 ⊢;clear hHeld hHeld2 hHeld3 hHeld4 hHeld5 c6 t6 y6 HC6 hl6 HB6 HAP HSK;go_wp2;obtain⟨mv',h7⟩:=HC7.out;have e4:=HR.out;have e5:=HRC.out;have e6:=HO.out;refine⟨⟨j+1,_,_,mv',O,by rw[show r-4=4*(q-(j+1))by omega],O,fun hlt2=>?_,h7⟩,by simp[Gq];omega⟩;rw[G O,show an+16=o+(10+4*(j+1))*4 by omega]
    go_simp;refine hK.out _ _ ?_ (fun hHeld2=>?_)
    ·exact HSK _ (HI.bel.alloc HI.bel.size _).drew
    clear hK K;refine wpAnyH_ready (rs:=[1]) Kr Sq ?_;refine AllReadyH.cons X (fun K hK=>?_) AllReadyH.nil;go_simp;refine hK.out _ _ ?_ (fun hHeld3=>?_)
    ·exact HSK _ (HI.bel.alloc HI.bel.size _).drew
    clear hK K;refine wpAnyH_ready (rs:=[17]) Kr Sq ?_;refine AllReadyH.cons X (fun K hK=>?_) AllReadyH.nil;refine step_append_lies _ X (.tmp 40) (.tmp 55) 66 X w.heap.size 73 i0 ei 3 40 underlying66 hi0 hz0 hz1 hz2 X Dc mv L.length (dV L) (by simp[Ae,Ap]) ((HI.out.own.alloc _).drew) (D wr.heap.size 0 Z) 1 1 [Y m.kind,Bo (mt.toList== [255]),Y m.body] (by simp[Ae,Ap]) X (World.news_of_block (w:=(wr.alloc (C #[Y m.kind,Bo (mt.toList== [255]),Y m.body] 73)).drew) (aA wr (C #[Y m.kind,Bo (mt.toList== [255]),Y m.body] 73))) (by intro u hu;simp at hu;rcases hu with rfl|rfl|rfl<;>rfl) Dc (by have:=HLJ.out;unfold maxLen;omega) (by have:=HLJ.out;omega) (by have:=HI.out.bel.size;simp;omega) (wr.heap.size+1) Sq ?_;intro g6 cap6 w6 h1 h2 h3 h4;obtain⟨hC6,t6,y6,hb6⟩:=HAP w6 g6 cap6 h1 h2;have HC6:=bF hC6;have hl6:w.heap.size+1<w6.heap.size:=aw t6;have HB6:=bF hb6;clear h1 h2 h3 h4 hC6 hb6;refine hK.out _ _ ?_ (fun hHeld4=>?_)
    ·exact HSK _ HB6
    clear hK K;refine tk 18 ?_;(try simp only[Ap,az,aI,aH]);refine wpAnyH_ready (rs:=[19]) Kr Sq ?_;refine AllReadyH.cons X (fun K hK=>?_) AllReadyH.nil;go_simp;refine hK.out _ _ ?_ (fun hHeld5=>?_)
    ·exact HSK _ HC6.bel
    clear hK K;refine wpAnyH_done Kr ?_ _;have HC7:Hi (∃mv',BG w (w6.setCell (D (w.heap.size+1) 6 Z) (S (U (D g6 0 Z)) (L.length+1) cap6)) (b8 c.vt 0) c.s c.n c.ft c.tt c.k mv' ((bZ c).take (j+1))):=⟨_,HC6⟩;generalize w6.setCell (D (w.heap.size+1) 6 Z) (S (U (D g6 0 Z)) (L.length+1) cap6)=w7 at HC7 ⊢;clear hHeld hHeld2 hHeld3 hHeld4 hHeld5 c6 t6 y6 HC6 hl6 HB6 HAP HSK;go_wp2;obtain⟨mv',h7⟩:=HC7.out;have e4:=HR.out;have e5:=HRC.out;have e6:=HO.out;refine⟨⟨j+1,_,_,mv',O,by rw[show r-4=4*(q-(j+1))by omega],O,fun hlt2=>?_,h7⟩,by simp[Gq];omega⟩;rw[G O,show an+16=o+(10+4*(j+1))*4 by omega]
   obtain rfl:j=q:=O;have e0:4*(j-j)=0:=O;rw[e0];have hms:(bZ c).take j=bZ c:=cZ (by rw[HMS.out];exact Ln);(have HE:Hi (BG w wr (b8 c.vt 0) c.s c.n c.ft c.tt c.k mv (bZ c)):=by have h:=HI.out;rw[hms]at h;exact h);obtain⟨ma,mc,rfl,_⟩:=iB HE.own;have hbx:=HE.out.box;have hrs:=HE.out.res;(have c0:wr.cell? (D (w.heap.size+1) 0 Z)=U (I J (b8 c.vt 0)):=by simp[Wc,hbx]);(have c1:wr.cell? (D (w.heap.size+1) 1 Z)=U (Y c.s):=by simp[Wc,hbx]);(have c2:wr.cell? (D (w.heap.size+1) 2 Z)=U (Y c.n):=by simp[Wc,hbx]);(have c3:wr.cell? (D (w.heap.size+1) 3 Z)=U (Y c.ft):=by simp[Wc,hbx]);(have c4:wr.cell? (D (w.heap.size+1) 4 Z)=U (Y c.tt):=by simp[Wc,hbx]);(have c5:wr.cell? (D (w.heap.size+1) 5 Z)=U (Y c.k):=by simp[Wc,hbx]);(have c6:wr.cell? (D (w.heap.size+1) 6 Z)=U (S ma (bZ c).length mc):=by simp[Wc,hbx]);(have z0:wr.cell? (D w.heap.size 0 Z)=U (I J 0):=by simp[Wc,hrs]);(have z1:wr.cell? (D w.heap.size 1 Z)=U (Y ⟨#[]⟩):=by simp[Wc,hrs]);(have z2:wr.cell? (D w.heap.size 2 Z)=U (Y ⟨#[]⟩):=by simp[Wc,hrs]);(have z3:wr.cell? (D w.heap.size 3 Z)=U (Y ⟨#[]⟩):=by simp[Wc,hrs]);(have z4:wr.cell? (D w.heap.size 4 Z)=U (Y ⟨#[]⟩):=by simp[Wc,hrs]);(have z5:wr.cell? (D w.heap.size 5 Z)=U (Y ⟨#[]⟩):=by simp[Wc,hrs]);(have z6:wr.cell? (D w.heap.size 6 Z)=U (S Z 0 0):=by simp[Wc,hrs]);(have y0:wr.frozen? (D w.heap.size 0 Z)=false:=by simp[Wf,hrs]);(have y1:wr.frozen? (D w.heap.size 1 Z)=false:=by simp[Wf,hrs]);(have y2:wr.frozen? (D w.heap.size 2 Z)=false:=by simp[Wf,hrs]);(have y3:wr.frozen? (D w.heap.size 3 Z)=false:=by simp[Wf,hrs]);(have y4:wr.frozen? (D w.heap.size 4 Z)=false:=by simp[Wf,hrs]);(have y5:wr.frozen? (D w.heap.size 5 Z)=false:=by simp[Wf,hrs]);(have y6:wr.frozen? (D w.heap.size 6 Z)=false:=by simp[Wf,hrs]);have hl1:w.heap.size+1<wr.heap.size:=bm hbx;clear hbx hrs hms e0 hra HC HCM HRC hj hlt;go_wp2_with fail;refine aS (v:=bW (b8 c.vt 0) c.s c.n c.ft c.tt c.k (S ma (bZ c).length mc)) (by simp[results,results88,go_sem,bW,z0,z1,z2,z3,z4,z5,z6]) X ?_;refine⟨?_,ma,mc,X,?_⟩
   ·exact(((((((HE.bel.setCell (p:=D w.heap.size 0 Z) Ln _).setCell (p:=D w.heap.size 1 Z) Ln _).setCell (p:=D w.heap.size 2 Z) Ln _).setCell (p:=D w.heap.size 3 Z) Ln _).setCell (p:=D w.heap.size 4 Z) Ln _).setCell (p:=D w.heap.size 5 Z) Ln _).setCell (p:=D w.heap.size 6 Z) Ln _)
   have hne:=cJ HE.res HE.own Dc;exact aJ (aJ (aJ (aJ (aJ (aJ (aJ HE.own hne _) hne _) hne _) hne _) hne _) hne _) hne _
def Ch(v:Int)(s n f t k:Q)(ms:Ls fO)(sn:Sn->Ad)(w:M)(e:Ending)(w':M):Prop:=
 H w.heap.size w w'/\((¬cN v s n f t k ms.length/\e=Rt (Tu #[Y ⟨#[]⟩,aX 0 (sn .Card)]))\/(cN v s n f t k ms.length/\¬dd ms/\e=Rt (Tu #[Y ⟨#[]⟩,aX 0 (sn .Mark)]))\/
  (cN v s n f t k ms.length/\dd ms/\∃pr:Bool,(pr=true↔aR 8 n)/\((4000<(ctOf v s n pr f t k ms).bytes.size/\∃q,e=Rt (Tu #[Y ⟨#[]⟩,aX q (sn .Long)]))\/((ctOf v s n pr f t k ms).bytes.size<=4000/\e=Rt (Tu #[Y (ctOf v s n pr f t k ms).bytes,.nilIface])))))
theorem Bm{sn:Sn->Ad}{za:Ad}{b:Q}{e:Ending}(h:(∃c,(if 4000<b.size then(.error 2:Except Int Q)else .ok b)= .ok c/\e=Rt (Tu #[Y c,.nilIface]))\/(∃p,(if 4000<b.size then(.error 2:Except Int Q)else .ok b)= .error 1/\e=Rt (Tu #[Y ⟨#[]⟩,fq 0 (aX p za)]))\/((if 4000<b.size then(.error 2:Except Int Q)else .ok b)= .error 1/\e=Rt (Tu #[Y ⟨#[]⟩,aX 0 za]))\/(∃k q,(if 4000<b.size then(.error 2:Except Int Q)else .ok b)= .error k/\(k=2\/k=8\/k=11)/\e=Rt (Tu #[Y ⟨#[]⟩,aX q (sn (Is k))]))):∃(x:Q) (y:Vv),e=Rt (Tu #[Y x,y])/\((4000<b.size/\x=⟨#[]⟩/\∃q,y=aX q (sn .Long))\/(b.size<=4000/\x=b/\y= .nilIface)):=by
 by_cases hb:4000<b.size
 ·simp only[aG hb]at h;rcases h with⟨c,q,_⟩|⟨p,q,_⟩|⟨q,_⟩|⟨k,p,q,_,he⟩
  ·cases q
  ·cases q
  ·cases q
  cases q;exact⟨_,_,he,.inl ⟨hb,X,p,X⟩⟩
 simp only[G hb]at h;rcases h with⟨c,q,he⟩|⟨p,q,_⟩|⟨q,_⟩|⟨k,p,q,_⟩
 ·cases q;exact⟨_,_,he,.inr ⟨O,X,X⟩⟩
 ·cases q
 ·cases q
 cases q
theorem ye(v:Int)(s n f t k:Q)(ms:Ls fO)(ma:Oo Ad)(mc:Nat)(w:M)(sn:Sn->Ad)(za:Ad)(hl:ls w sn)(hz:jM w sn za)(hT:GH s n f t k ms)(hin:fj w ma ms)(hn:ms.length<=1000000)(hcap:ms.length<=mc):Cs prog 57 #[bW v s n f t k (S ma ms.length mc)] w fun e w'=>Ch v s n f t k ms sn w e w':=by
 have HCK:Hi (∀wq,H w.heap.size w wq->Cs prog 85 #[bW v s n f t k (S ma ms.length mc)] wq fun e w'=>sx v s n f t k ms sn wq e w'):=fun wq q=>qw v s n f t k ms ma mc wq sn za (hl.below q) (hz.below q) (by have:=hT.s;omega) (by have:=hT.n;omega) (by have:=hT.f;omega) (by have:=hT.t;omega) (by have:=hT.k;omega) (hin.below q) hT.ms O hcap;have HSC:Hi _:=fun wq=>rm wq;have HTO:Hi (∀wq,H w.heap.size w wq->cN v s n f t k ms.length->Cs prog 87 #[bW v s n f t k (S ma ms.length mc)] wq fun e w'=>Cf v s n f t k ms wq e w'):=fun wq q hc=>rD v s n f t k ms ma mc wq sn (hl.below q) (by have:=hT.n;omega) hc.v0 (by have:=hc.v2;omega) (hin.below q) hn;have HBY:Hi (∀(g:Nat) (pr:Bool) (ta:Oo Ad) (tc:Nat) wq,H w.heap.size w wq->cN v s n f t k ms.length->dd ms->(pr=true↔aR 8 n)->ju wq (U (D g 0 Z)) cS->iV wq ta (ctOf v s n pr f t k ms).tree->(ctOf v s n pr f t k ms).tree.length<=tc->Cs prog 46 #[S (U (D g 0 Z)) 14 14,I J 0,S ta (ctOf v s n pr f t k ms).tree.length tc] wq fun e w'=>EW sn za (if 4000<(ctOf v s n pr f t k ms).bytes.size then .error 2 else .ok (ctOf v s n pr f t k ms).bytes) wq e w'):=fun g pr ta tc wq q hc hm hp hs ht htc=>by obtain⟨F,hF⟩:=Cw hc hm hp;have hal:=Ds (v:=v) (pr:=pr) hT hn;have hle:=wR (v:=v) (s:=s) (n:=n) (f:=f) (t:=t) (k:=k) (ms:=ms) (pr:=pr);(have hin:∀j,j<(ctOf v s n pr f t k ms).tree.length->vl (ctOf v s n pr f t k ms).tree j∈(ctOf v s n pr f t k ms).tree:=fun j hj=>by unfold vl;rw[aB,aC hj];exact bz _);exact AF F cS (U (D g 0 Z)) 14 0 _ ta tc _ wq sn za (hl.below q) (hz.below q) hs Cv Dc ht htc ⟨O,fun j hj=>(hal _ (hin j hj)).1⟩ (fun j hj=>(hal _ (hin j hj)).2) hF
 unfold Ch;unfold sx at HCK;unfold aX at HCK ⊢;unfold bW at HCK HTO ⊢;clear hl hz hin hT;go_enter func57,ntmps57;go_wp2_with fail;refine(HCK _ Be).mono ?_;rintro e w1 ⟨hb1,h1⟩;have HB1:Hi _:=aT hb1;have HC1:Hi (w1.heap[w.heap.size]? =U (C #[I J v,Y s,Y n,Y f,Y t,Y k,S ma ms.length mc] 68 (0,0))):=ax (aA w _) hb1;clear hb1 HCK;rcases h1 with⟨hc,rfl⟩|⟨hc,hm,rfl⟩|⟨hc,hm,rfl⟩
 ·have HN:=bF hc;clear hc;go_wp2;go_ret2;exact⟨HB1,.inl ⟨HN,X⟩⟩
 ·have HN:=bF (And.intro hc hm);clear hc hm;go_wp2;go_ret2;exact⟨HB1,.inr (.inl ⟨HN.1,HN.2,X⟩)⟩
 have HOK:=bF (And.intro hc hm);have hcell:∀(wq:M),w1.heap[w.heap.size]? =wq.heap[w.heap.size]? ->∀(i:Nat) (u:Vv),(#[I J v,Y s,Y n,Y f,Y t,Y k,S ma ms.length mc]:Array Vv)[i]? =U u->wq.cell? (D w.heap.size i Z)=U u:=fun wq hq i u hu=>by have:=HC1.out;rw[hq]at this;simp only[Wc,this];exact hu
 have c0:w1.cell? (D w.heap.size 0 Z)=U (I J v):=hcell w1 X 0 _ X;have c1:w1.cell? (D w.heap.size 1 Z)=U (Y s):=hcell w1 X 1 _ X;have c2:w1.cell? (D w.heap.size 2 Z)=U (Y n):=hcell w1 X 2 _ X;have c3:w1.cell? (D w.heap.size 3 Z)=U (Y f):=hcell w1 X 3 _ X;have c4:w1.cell? (D w.heap.size 4 Z)=U (Y t):=hcell w1 X 4 _ X;have c5:w1.cell? (D w.heap.size 5 Z)=U (Y k):=hcell w1 X 5 _ X;have c6:w1.cell? (D w.heap.size 6 Z)=U (S ma ms.length mc):=hcell w1 X 6 _ X;have hlw:w.heap.size<w1.heap.size:=aw c0;have HKP:Hi (∀wq,H w1.heap.size w1 wq->wq.cell? (D w.heap.size 0 Z)=U (I J v)/\wq.cell? (D w.heap.size 1 Z)=U (Y s)/\wq.cell? (D w.heap.size 2 Z)=U (Y n)/\wq.cell? (D w.heap.size 3 Z)=U (Y f)/\wq.cell? (D w.heap.size 4 Z)=U (Y t)/\wq.cell? (D w.heap.size 5 Z)=U (Y k)/\wq.cell? (D w.heap.size 6 Z)=U (S ma ms.length mc)):=fun wq q=>⟨(q.cell (aw c0)).trans c0,(q.cell (aw c1)).trans c1,(q.cell (aw c2)).trans c2,(q.cell (aw c3)).trans c3,(q.cell (aw c4)).trans c4,(q.cell (aw c5)).trans c5,(q.cell (aw c6)).trans c6⟩;have HR1:Hi (H w1.heap.size w1 w1.drew):=(By).drew;clear hc hm hcell;go_wp2_with fail
 go_region_held_law (fun w'=>w'.cell? (D w.heap.size 0 Z)=U (I J v)/\w'.cell? (D w.heap.size 1 Z)=U (Y s)/\w'.cell? (D w.heap.size 2 Z)=U (Y n)/\w'.cell? (D w.heap.size 3 Z)=U (Y f)/\w'.cell? (D w.heap.size 4 Z)=U (Y t)/\w'.cell? (D w.heap.size 5 Z)=U (Y k)/\w'.cell? (D w.heap.size 6 Z)=U (S ma ms.length mc)) (first|exact HKP _ HR1|exact HKP _ HR2|exact HKP _ HR3|exact HKP _ HR4) (first
  |(go_at_call 86;refine(HSC _).mono ?_;rintro e w2 ⟨g,rfl,hs2,hb2⟩;have HR2:Hi (H w1.heap.size w1 w2):=HR1.trans (hb2.mono HR1.size);have HS2:=bF hs2;clear hs2 hb2)
  |(go_at_call 87;refine(HTO _ (HB1.trans (HR2.mono HB1.size)) HOK.1).mono ?_;rintro e w3 ⟨hb3,pr,ta,tc,hpr,rfl,ho3⟩;have HR3:Hi (H w1.heap.size w1 w3):=HR2.trans (hb3.mono HR2.size);have HS3:=bF (HS2.below hb3);have HV3:=bF (iV.of_own ho3);have HTC:=bF (jr ho3);have HPR:=bF hpr;clear hb3 hpr ho3)
  |(go_at_call 46;refine(HBY g pr ta tc _ (HB1.trans (HR3.mono HB1.size)) HOK.1 HOK.2 HPR HS3 HV3 HTC).mono ?_;rintro e w4 ⟨hb4,h4⟩;have HR4:Hi (H w1.heap.size w1 w4):=HR3.trans (hb4.mono HR3.size);have h4':∃(x:Q) (y:Vv),e=Rt (Tu #[Y x,y])/\((4000<(ctOf v s n pr f t k ms).bytes.size/\x=⟨#[]⟩/\∃q,y=aX q (sn .Long))\/((ctOf v s n pr f t k ms).bytes.size<=4000/\x=(ctOf v s n pr f t k ms).bytes/\y= .nilIface)):=Bm h4;obtain⟨x,y,rfl,hxy⟩:=h4';have HXY:=bF hxy;clear hb4 h4 hxy))
 have HB4:Hi _:=HB1.trans (HR4.mono HB1.size);go_wp2;go_ret2;refine⟨HB4,.inr (.inr ⟨HOK.1,HOK.2,pr,HPR,?_⟩)⟩;rcases HXY with⟨q1,q2,q,q3⟩|⟨q1,q2,q3⟩
 ·rw[q2,q3];exact .inl ⟨q1,q,X⟩
 rw[q2,q3];exact .inr ⟨q1,X⟩
def uO(v:Int)(s n f t k:Q)(ms:Ls fO)(w:M)(e:Ending)(w':M):Prop:=
 H w.heap.size w w'/\((¬cN v s n f t k ms.length/\e=Rt (Tu #[Y ⟨#[]⟩,I J 12]))\/(cN v s n f t k ms.length/\¬dd ms/\e=Rt (Tu #[Y ⟨#[]⟩,I J 13]))\/
  (cN v s n f t k ms.length/\dd ms/\∃pr:Bool,(pr=true↔aR 8 n)/\((4000<(ctOf v s n pr f t k ms).bytes.size/\e=Rt (Tu #[Y ⟨#[]⟩,I J 2]))\/((ctOf v s n pr f t k ms).bytes.size<=4000/\e=Rt (Tu #[Y (ctOf v s n pr f t k ms).bytes,I J 0])))))
theorem so(v:Int)(s n f t k:Q)(ms:Ls fO)(ma:Oo Ad)(mc:Nat)(w:M)(sn:Sn->Ad)(za:Ad)(hl:ls w sn)(hz:jM w sn za)(hT:GH s n f t k ms)(hin:fj w ma ms)(hn:ms.length<=1000000)(hcap:ms.length<=mc):Cs prog 31 #[bW v s n f t k (S ma ms.length mc)] w fun e w'=>uO v s n f t k ms w e w':=by
 have HW:Hi _:=fun wq q=>ye v s n f t k ms ma mc wq sn za (hl.below q) (hz.below q) hT (hin.below q) hn hcap;have HN:Hi (∀q x wq,H w.heap.size w wq->Cs prog 34 #[aX q (sn x)] wq fun e w'=>e=Rt (I J x.code)/\H w.heap.size w w'):=fun q x wq hq=>(oH q x wq sn (hl.below hq).s).mono fun e w' h=>⟨h.1,hq.trans (h.2.mono hq.size)⟩;have HNN:Hi _:=fun wq=>qW wq;unfold uO;unfold Ch at HW;unfold bW at HW ⊢;clear hl hz hin hT;go_enter func31,ntmps31;go_wp2_with fail;refine(HW _ Be).mono ?_;rintro e w1 ⟨hb1,h1⟩;have HB1:Hi _:=aT hb1;clear hb1 HW
 have h2:(∃(x:Q) (q:Int) (y:Sn),e=Rt (Tu #[Y x,aX q (sn y)])/\∀w',H w.heap.size w w'->H w.heap.size w w'/\((¬cN v s n f t k ms.length/\Ending.returned (Tu #[Y x,I J y.code])=Rt (Tu #[Y ⟨#[]⟩,I J 12]))\/(cN v s n f t k ms.length/\¬dd ms/\Ending.returned (Tu #[Y x,I J y.code])=Rt (Tu #[Y ⟨#[]⟩,I J 13]))\/
  (cN v s n f t k ms.length/\dd ms/\∃pr:Bool,(pr=true↔aR 8 n)/\((4000<(ctOf v s n pr f t k ms).bytes.size/\Ending.returned (Tu #[Y x,I J y.code])=Rt (Tu #[Y ⟨#[]⟩,I J 2]))\/((ctOf v s n pr f t k ms).bytes.size<=4000/\Ending.returned (Tu #[Y x,I J y.code])=Rt (Tu #[Y (ctOf v s n pr f t k ms).bytes,I J 0]))))))\/
  (∃b:Q,e=Rt (Tu #[Y b,.nilIface])/\cN v s n f t k ms.length/\dd ms/\∃pr:Bool,(pr=true↔aR 8 n)/\(ctOf v s n pr f t k ms).bytes.size<=4000/\b=(ctOf v s n pr f t k ms).bytes):=by
  rcases h1 with⟨hc,he⟩|⟨hc,hm,he⟩|⟨hc,hm,pr,hp,⟨hb,q,he⟩|⟨hb,he⟩⟩
  ·exact .inl ⟨_,0,.Card,he,fun w' hw=>⟨hw,.inl ⟨hc,X⟩⟩⟩
  ·exact .inl ⟨_,0,.Mark,he,fun w' hw=>⟨hw,.inr (.inl ⟨hc,hm,X⟩)⟩⟩
  ·exact .inl ⟨_,q,.Long,he,fun w' hw=>⟨hw,.inr (.inr ⟨hc,hm,pr,hp,.inl ⟨hb,X⟩⟩)⟩⟩
  ·exact .inr ⟨_,he,hc,hm,pr,hp,hb,X⟩
 clear h1;rcases h2 with⟨x,q,y,rfl,h2⟩|⟨b,rfl,hc,hm,pr,hp,hb,hbb⟩
 ·have H2:=bF h2;have HN1:=bF (HN q y w1 HB1);unfold aX at HN1 ⊢;generalize sn y=ay at HN1 ⊢;generalize y.code=yc at HN1 H2;clear h2;go_wp2_with fail;refine HN1.mono ?_;rintro e w2 ⟨rfl,hb2⟩;have HB2:=bF hb2;clear hb2;go_wp2;go_ret2;exact H2 _ HB2
 have H2:=bF (And.intro hc (And.intro hm (And.intro hp (And.intro hb hbb))));clear hc hm hp hb hbb;go_wp2_with fail;refine(HNN _).mono ?_;rintro e w2 ⟨rfl,rfl⟩;go_wp2;go_ret2;obtain⟨hc,hm,hp,hb,hbb⟩:=H2.out;exact⟨HB1,.inr (.inr ⟨hc,hm,pr,hp,.inr ⟨hb,by rw[hbb];rfl⟩⟩)⟩
structure Gz(s n f t k:Q)(ms:Ls fO):Prop where
 s:s.size<=1048576
 n:n.size<=1048576
 f:f.size<=1048576
 t:t.size<=1048576
 k:k.size<=1048576
 ms:∀j,j<ms.length->(ms.getD j iy).kind.size<=1048576/\(ms.getD j iy).body.size<=1048576
theorem Gz.cdT{s n f t k:Q}{ms:Ls fO}(h:Gz s n f t k ms):GH s n f t k ms:=⟨bl h.s Dc,bl h.n Dc,bl h.f Dc,bl h.t Dc,bl h.k Dc,fun j hj=>⟨bl (h.ms j hj).1 Dc,bl (h.ms j hj).2 Dc⟩⟩
theorem wI(l:Ls (Q×Q×Q))(q:Q×Q×Q):nf (l++[q])=nf l++lU q:=by unfold nf;rw[List.foldl_append];rfl
def wY(ms:Ls fO)(j:Nat):Q:=nf ((ms.take j).map i6)
theorem CS(ms:Ls fO):wY ms 0=bh:=rfl
theorem wC{ms:Ls fO}{j:Nat}(h:j<ms.length):wY ms (j+1)=wY ms j++lU (i6 (ms.getD j iy)):=by
 unfold wY;have e1:ms.take (j+1)=ms.take j++[ms.getD j iy]:=by rw[eB,aC h,aB,aC h];rfl
 rw[e1,ji,gd,jQ,wI]
theorem Ef(ms:Ls fO):wY ms ms.length=nf (ms.map i6):=by unfold wY;rw[gG]
theorem Ba(b:Bool):(A9 (bT b)).size<=6:=by
 unfold A9;split
 ·exact Lz
 have:=cQ 0 false 1 (bT b);rw[pB]at this;exact this
theorem CU:A9 (bT true)=eN 0 false 1 (bT true):=G (by decide+kernel)
theorem Bb:A9 (bT false)=bh:=aG (by decide+kernel)
theorem Hp:BB ⟨#[Uo (0:Int).toNat]⟩=bh:=aG (by decide+kernel)
theorem Hq:BB ⟨#[Uo (1:Int).toNat]⟩=eN 2 true 0 (eN 0 false 2 ⟨#[1]⟩):=G (by decide+kernel)
theorem Hr:BB ⟨#[Uo (2:Int).toNat]⟩=eN 2 true 0 (eN 0 false 2 ⟨#[2]⟩):=G (by decide+kernel)
theorem yS(m:fO)(h1:m.kind.size<=20)(h2:m.body.size<=1048576):(lU (i6 m)).size<=1048630:=by
 unfold lU i6;simp only;have a:=cQ 0 false 6 m.kind;have b:=Ba m.must;have c:=cQ 0 false 4 m.body;have d:=cQ 0 true 16 (eN 0 false 6 m.kind++A9 (bT m.must)++eN 0 false 4 m.body);rw[ba,ba]at d;omega
theorem qV{ms:Ls fO}(h:∀j,j<ms.length->(ms.getD j iy).kind.size<=20/\(ms.getD j iy).body.size<=1048576):∀j,j<=ms.length->(wY ms j).size<=j*1048630
 |0,_=>by rw[CS];exact Lz
 |j+1,hj=>by
  have ih:=qV h j O
  rw[wC O,ba]
  have:=yS _ (h j O).1 (h j O).2
  omega
theorem rf(v:Int)(s n f t k:Q)(ms:Ls fO)(ma:Oo Ad)(mc:Nat)(w:M)(hbd:∀j,j<ms.length->pR (ms.getD j iy).body)(hin:fj w ma ms)(hS:Gz s n f t k ms)(hn:ms.length<=1000000)(hcap:ms.length<=mc):Cs prog 52 #[bW v s n f t k (S ma ms.length mc)] w fun e w'=>uO v s n f t k ms w e w':=by
 have hT:=hS.cdT;have HLK:Hi _:=fun wq q=>wj v s n f t k ms ma mc wq hbd (hin.below q) hT.s hT.n hT.f hT.t hT.k hT.ms O hcap;have HEL:Hi _:=fun c b m u wq a1 a2 a3 a4 a5=>vH c b m u wq a1 a2 a3 a4 a5;have HPR:Hi (∀wq,Cs prog 81 #[Y n] wq fun e w'=>∃pr:Bool,e=Rt (Bo pr)/\(pr=true↔aR 8 n)/\H wq.heap.size wq w'):=fun wq=>(gZ n wq (by have:=hS.n;omega)).mono fun e w' r=>(r.to (jU n)).toW;have HTR:Hi _:=fun wq=>Bu true wq;have HIN:=bx hin;have HS:=bx hS;clear hin hbd hT;unfold uO;unfold Ca at HLK;unfold bW at HLK ⊢;go_enter func52,ntmps52;go_wp2_with fail;refine(HLK _ Be).mono ?_;rintro e w1 ⟨hb1,h1⟩;have HB1:Hi _:=aT hb1;have HC1:Hi (w1.heap[w.heap.size]? =U (C #[I J v,Y s,Y n,Y f,Y t,Y k,S ma ms.length mc] 68 (0,0))):=ax (aA w _) hb1;clear hb1 HLK;rcases h1 with⟨hc,rfl⟩|⟨hc,hm,rfl⟩|⟨hc,hm,rfl⟩
 ·have HN:=bx hc;clear hc;go_wp2;go_ret2;exact⟨HB1,.inl ⟨HN,X⟩⟩
 ·have HN:=bx (And.intro hc hm);clear hc hm;go_wp2;go_ret2;exact⟨HB1,.inr (.inl ⟨HN.1,HN.2,X⟩)⟩
 have HOK:=bx (And.intro hc hm);have hcell:∀(wq:M),w1.heap[w.heap.size]? =wq.heap[w.heap.size]? ->∀(i:Nat) (u:Vv),(#[I J v,Y s,Y n,Y f,Y t,Y k,S ma ms.length mc]:Array Vv)[i]? =U u->wq.cell? (D w.heap.size i Z)=U u:=fun wq hq i u hu=>by have:=HC1.out;rw[hq]at this;simp only[Wc,this];exact hu
 have c0:w1.cell? (D w.heap.size 0 Z)=U (I J v):=hcell w1 X 0 _ X;have c1:w1.cell? (D w.heap.size 1 Z)=U (Y s):=hcell w1 X 1 _ X;have c2:w1.cell? (D w.heap.size 2 Z)=U (Y n):=hcell w1 X 2 _ X;have c3:w1.cell? (D w.heap.size 3 Z)=U (Y f):=hcell w1 X 3 _ X;have c4:w1.cell? (D w.heap.size 4 Z)=U (Y t):=hcell w1 X 4 _ X;have c5:w1.cell? (D w.heap.size 5 Z)=U (Y k):=hcell w1 X 5 _ X;have c6:w1.cell? (D w.heap.size 6 Z)=U (S ma ms.length mc):=hcell w1 X 6 _ X;have HKP:Hi (∀wq,H w1.heap.size w1 wq->wq.cell? (D w.heap.size 0 Z)=U (I J v)/\wq.cell? (D w.heap.size 1 Z)=U (Y s)/\wq.cell? (D w.heap.size 2 Z)=U (Y n)/\wq.cell? (D w.heap.size 3 Z)=U (Y f)/\wq.cell? (D w.heap.size 4 Z)=U (Y t)/\wq.cell? (D w.heap.size 5 Z)=U (Y k)/\wq.cell? (D w.heap.size 6 Z)=U (S ma ms.length mc)):=fun wq q=>⟨(q.cell (aw c0)).trans c0,(q.cell (aw c1)).trans c1,(q.cell (aw c2)).trans c2,(q.cell (aw c3)).trans c3,(q.cell (aw c4)).trans c4,(q.cell (aw c5)).trans c5,(q.cell (aw c6)).trans c6⟩;have HIN1:Hi (fj w1 ma ms):=HIN.below HB1;have hl0:w.heap.size<w1.heap.size:=aw c0;have hv3:v=0\/v=1\/v=2:=by have:=hc.v0;have:=hc.v2;omega
 clear hc hm hcell HIN HC1;obtain⟨vb,hvb⟩:∃vb,BB ⟨#[Uo v.toNat]⟩=vb:=Ey;have HVB:=bx hvb;clear hvb;go_upto_if 18 with fail;go_cut [5] (fun x wx=>x=Y vb/\H w1.heap.size w1 wx)
 case first=>
  clear HOK c1 c2 c3 c4 c5 c6;rcases hv3 with rfl|rfl|rfl
  ·go_wp2;go_meet;exact⟨by rw[<-HVB,Hp],By⟩
  ·go_wp2_with fail;rw[qE 1 Dc Dc w1];go_wp2_with fail;refine(HEL 0 false 2 _ _ Dc Dc Dc Dc (by show 1<=16777215;decide)).mono ?_;rintro e w2 ⟨rfl,hb2⟩;have HB2:Hi _:=aT hb2;clear hb2;go_wp2_with fail;refine(HEL 2 true 0 _ _ Dc Dc Dc Dc (bl (cQ 0 false 2 ⟨#[Uo (1:Int).toNat]⟩) (by show 1+5<=16777215;decide))).mono ?_;rintro e w3 ⟨rfl,hb3⟩;have HB3:Hi _:=HB2.trans (hb3.mono HB2.size);clear hb3;go_wp2;go_meet;exact⟨by rw[<-HVB,Hq],HB3⟩
  go_wp2_with fail;rw[qE 2 Dc Dc w1];go_wp2_with fail;refine(HEL 0 false 2 _ _ Dc Dc Dc Dc (by show 1<=16777215;decide)).mono ?_;rintro e w2 ⟨rfl,hb2⟩;have HB2:Hi _:=aT hb2;clear hb2;go_wp2_with fail;refine(HEL 2 true 0 _ _ Dc Dc Dc Dc (bl (cQ 0 false 2 ⟨#[Uo (2:Int).toNat]⟩) (by show 1+5<=16777215;decide))).mono ?_;rintro e w3 ⟨rfl,hb3⟩;have HB3:Hi _:=HB2.trans (hb3.mono HB2.size);clear hb3;go_wp2;go_meet;exact⟨by rw[<-HVB,Hr],HB3⟩
 case rest=>
  obtain⟨rfl,hbc⟩:=hcut;have HBC:=bx hbc;have hS2:=HS.out;have hm8:ms.length<=8:=by have:=HOK.out.1.mks;unfold oG at this;split at this<;>omega
  have HMB:Hi (∀j,j<ms.length->(ms.getD j iy).kind.size<=20/\(ms.getD j iy).body.size<=1048576):=fun j hj=>⟨((fc _).2 (sN (HOK.2 j hj).1)).2.1,(HS.ms j hj).2⟩;have HES:=bx (fun wq=>HEL 0 false 2 s wq Dc Dc Dc Dc (bl hS2.s Dc));have HEN1:=bx (fun wq=>HEL 0 false 19 n wq Dc Dc Dc Dc (bl hS2.n Dc));have HEN2:=bx (fun wq=>HEL 0 false 12 n wq Dc Dc Dc Dc (bl hS2.n Dc));have zvb:vb.size<=20:=by
   rw[<-HVB.out];unfold BB;split
   ·exact Lz
   have a:=cQ 2 true 0 (eN 0 false 2 ⟨#[Uo v.toNat]⟩);have b:=cQ 0 false 2 ⟨#[Uo v.toNat]⟩;have c:(⟨#[Uo v.toNat]⟩:Q).size=1:=X;omega
  have zes:=cQ 0 false 2 s;have zn1:=cQ 0 false 19 n;have zn2:=cQ 0 false 12 n;have zef:=cQ 0 false 24 f;have zet:=cQ 0 false 24 t;have zek:=cQ 0 false 3 k;have s1:=hS2.s;have s2:=hS2.n;have s3:=hS2.f;have s4:=hS2.t;have s5:=hS2.k;obtain⟨es,hes⟩:∃x,eN 0 false 2 s=x:=Ey;obtain⟨en1,hen1⟩:∃x,eN 0 false 19 n=x:=Ey;obtain⟨en2,hen2⟩:∃x,eN 0 false 12 n=x:=Ey;obtain⟨ef,hef⟩:∃x,eN 0 false 24 f=x:=Ey;obtain⟨et,het⟩:∃x,eN 0 false 24 t=x:=Ey;obtain⟨ek,hek⟩:∃x,eN 0 false 3 k=x:=Ey;have zsp:=cQ 0 true 16 (ef++et);rw[ba]at zsp;obtain⟨esp,hesp⟩:∃x,eN 0 true 16 (ef++et)=x:=Ey;rw[hes]at HES zes;rw[hen1]at HEN1 zn1;rw[hen2]at HEN2 zn2;rw[hef]at zef;rw[het]at zet;rw[hek]at zek;rw[hesp]at zsp;have HNM:=bx (And.intro hes (And.intro hen1 (And.intro hen2 (And.intro hef (And.intro het (And.intro hek hesp))))));have zes':es.size<=1048581:=O;have zn1':en1.size<=1048581:=O;have zn2':en2.size<=1048581:=O;have zef':ef.size<=1048581:=O;have zet':et.size<=1048581:=O;have zek':ek.size<=1048581:=O;have zsp':esp.size<=2097167:=O;clear hes hen1 hen2 zes zn1 zn2 zef zet zek zsp s1 s2 hS2 hS;obtain⟨d0,d1,d2,d3,d4,d5,d6⟩:=HKP _ hbc;have hlc:w.heap.size<wc.heap.size:=aw d0;clear hbc c0 c1 c2 c3 c4 c5 c6 hl0 hv3;go_wp2_with fail;refine(HES _).mono ?_;rintro e w2 ⟨rfl,hb2⟩;have HB2:Hi _:=HBC.trans (hb2.mono HBC.size);clear hb2 d0 d1 d2 d3 d4 d5 d6 hlc;obtain⟨d0,d1,d2,d3,d4,d5,d6⟩:=HKP _ HB2;have hlc:w.heap.size<w2.heap.size:=aw d0;obtain⟨o1,ho1⟩:∃x,vb++es=x:=Ey;have zo1:o1.size<=1048601:=by rw[<-ho1,ba];omega
  have HO1:=bx ho1;go_wp2_with fail;clear ho1;refine(HPR _).mono ?_;rintro e w3 ⟨pr,rfl,hpr,hb3⟩;have HB3:Hi _:=HB2.trans (hb3.mono HB2.size);have HPP:=bx hpr;clear hpr hb3 d0 d1 d2 d3 d4 d5 d6 hlc;obtain⟨d0,d1,d2,d3,d4,d5,d6⟩:=HKP _ HB3;have hlc:w.heap.size<w3.heap.size:=aw d0;go_upto_if 34 with fail;go_cut [5] (fun x wx=>x=Y (o1++if pr then en1 else en2)/\H w1.heap.size w1 wx)
  case first=>
   cases pr
   ·go_wp2_with fail;refine(HEN2 _).mono ?_;rintro e w4 ⟨rfl,hb4⟩;have HB4:Hi _:=HB3.trans (hb4.mono HB3.size);clear hb4;go_wp2;go_meet;exact⟨X,HB4⟩
   go_wp2_with fail;refine(HEN1 _).mono ?_;rintro e w4 ⟨rfl,hb4⟩;have HB4:Hi _:=HB3.trans (hb4.mono HB3.size);clear hb4;go_wp2;go_meet;exact⟨X,HB4⟩
  case rest=>
   obtain⟨rfl,hb4⟩:=hcut;have HB4:=bx hb4;obtain⟨o2,ho2⟩:∃x,(o1++if pr then en1 else en2)=x:=Ey;(have zo2:o2.size<=2097182:=by rw[<-ho2,ba];cases pr<;>simp only[IB,if_false,if_true] <;>omega);have HO2:=bx ho2;rw[ho2];obtain⟨o2b,ho2b⟩:∃x,o2++esp=x:=Ey;(have zo2b:o2b.size<=4194349:=by rw[<-ho2b,ba];omega);obtain⟨o3,ho3⟩:∃x,o2b++ek=x:=Ey;(have zo3:o3.size<=5242930:=by rw[<-ho3,ba];omega);have HO3:=bx (And.intro ho2b ho3);clear hb4 ho2 d0 d1 d2 d3 d4 d5 d6 hlc;(have zft:(ef++et).size<=2097162:=by rw[ba];omega);(have zsq:(o2++esp).size<=4194349:=by rw[ho2b];exact zo2b);obtain⟨d0,d1,d2,d3,d4,d5,d6⟩:=HKP _ HB4;have hlc:w.heap.size<wc.heap.size:=aw d0;have HK3:Hi (∀wq,H w1.heap.size w1 wq->wq.cell? (D w.heap.size 3 Z)=U (Y f)/\wq.cell? (D w.heap.size 4 Z)=U (Y t)/\wq.cell? (D w.heap.size 5 Z)=U (Y k)):=fun wq q=>⟨(HKP wq q).2.2.2.1,(HKP wq q).2.2.2.2.1,(HKP wq q).2.2.2.2.2.1⟩;go_upto_region 12 with fail;go_cut [5] (fun x wx=>x=Y o3/\H w1.heap.size w1 wx)
   case first=>
    have HR:=bx (HB4.drew)
    go_region_held_law (fun wq=>wq.cell? (D w.heap.size 3 Z)=U (Y f)/\wq.cell? (D w.heap.size 4 Z)=U (Y t)/\wq.cell? (D w.heap.size 5 Z)=U (Y k)) (exact HK3 _ HR) (first
     |(go_at_call 83;refine(HEL _ _ _ _ _ Dc Dc Dc Dc (by first|omega|(rw[ba,hef,het];omega))).mono ?_;rintro e w5 ⟨rfl,hb5⟩;have HR:=bx (HR.trans (hb5.mono HR.size));clear hb5))
    all_goals go_wp2_with fail;go_meet;exact⟨X,HR⟩
   case rest=>
    obtain⟨rfl,hb5⟩:=hcut;have HB5:=bx hb5;have HI5:Hi (fj wc ma ms):=HIN1.below hb5;obtain⟨d0,d1,d2,d3,d4,d5,d6⟩:=HKP _ hb5;have D6:=bx d6;clear hb5 d0 d1 d2 d3 d4 d5 ho2b ho3 hef het hek hesp zft zsq zo2b zo2 zo1 zes' zn1' zn2' zef' zet' zek' zsp' s3 s4 s5 HK3 HES HEN1 HEN2 HPR HIN1;have HBw5:Hi _:=HB1.trans (HB5.mono HB1.size);generalize wc=W0 at*;go_wp2_with fail;go_loopw [7,8] (fun vm vi wr=>∃j:Nat,j<=ms.length/\vm=Y (wY ms j)/\vi=I J j/\H W0.heap.size W0 wr) (fun _ vi _=>ms.length-(Io vi).toNat);case atStart=>exact⟨0,Lz,X,X,By⟩
    obtain⟨j,hj,rfl,rfl,hbr⟩:=hrel;have HBR:=bx hbr;have x6:wr.cell? (D w.heap.size 6 Z)=U (S ma ms.length mc):=(hbr.cell (aw D6)).trans D6;have l6:w.heap.size<wr.heap.size:=aw x6;have HBw:Hi _:=HBw5.trans (hbr.mono HBw5.size);clear hbr;have zq:=qV HMB j hj;by_cases hlt:j<ms.length
    ·have hlt':(j:Int)<ms.length:=O;obtain⟨g,o,rfl,e0,e1,e2⟩:=(HI5.below HBR) j hlt;have hMj:=HMB j hlt;have hQ:=wC hlt;have zQ:=qV HMB (j+1) hlt;obtain⟨m,hm⟩:∃m,ms.getD j iy=m:=Ey;rw[hm]at e0 e1 e2 hMj hQ;rw[hQ]at zQ;obtain⟨mk,mm,mb⟩:=m;simp only at e0 e1 e2 hMj;obtain⟨aq,hq⟩:∃aq,wY ms j=aq:=Ey;rw[hq]at zq hQ zQ;rw[hq];have hgl:g<wr.heap.size:=aw e0;have z1:=cQ 0 false 6 mk;have z2:=cQ 0 false 4 mb;obtain⟨k1,hk1⟩:∃x,eN 0 false 6 mk=x:=Ey;obtain⟨k2,hk2⟩:∃x,eN 0 false 4 mb=x:=Ey;have z3:=cQ 0 false 1 (bT true);rw[pB]at z3;obtain⟨k3,hk3⟩:∃x,eN 0 false 1 (bT true)=x:=Ey;rw[hk1]at z1;rw[hk2]at z2;rw[hk3]at z3;have y1:k1.size<=25:=O;have y2:k2.size<=1048581:=O;(have zq8:aq.size<=8389040:=by have:=iJ 1048630 (bl hj hm8);omega);have HQ:=bx hQ;have HMQ:=bx hq;clear hm zq zQ z1 z2 hq hQ
     cases mm with
     |true=>
      have y4:(k1++k3).size<=31:=by rw[ba];omega
      have y5:(k1++k3++k2).size<=1048612:=by rw[ba];omega
      have y6:=cQ 0 true 16 (k1++k3++k2)
      have HQ2:Hi (wY ms (j+1)=aq++eN 0 true 16 (k1++k3++k2)):=by
       have h:=HQ.out
       unfold lU i6 at h
       simp only at h
       rw[CU,hk1,hk2,hk3]at h
       exact h
      go_wp2_with fail
      refine(HEL 0 false 6 mk _ Dc Dc Dc Dc O).mono ?_
      rintro e w2 ⟨rfl,hb2⟩
      have HB2:Hi _:=aT hb2
      have x1:w2.cell? (D wr.heap.size 1 Z)=U (Bo true):=b7.new (A:=#[Y mk,Bo true,Y mb]) ⟨w2,hb2⟩ X
      have x2:w2.cell? (D wr.heap.size 2 Z)=U (Y mb):=b7.new (A:=#[Y mk,Bo true,Y mb]) ⟨w2,hb2⟩ X
      have hl2:wr.heap.size<w2.heap.size:=aw x1
      obtain⟨xb,hxb⟩:∃xb,wr.heap.size=xb:=Ey
      rw[hxb]at x1 x2 hl2 ⊢
      clear hb2 hxb e0 e1 e2 x6 l6 hgl
      go_wp2_with fail
      refine(HTR _).mono ?_
      rintro e w3 ⟨rfl,rfl⟩
      go_wp2_with fail
      refine(HEL 0 false 1 (bT true) _ Dc Dc Dc Dc (by rw[pB];decide)).mono ?_
      rintro e w4 ⟨rfl,hb4⟩
      have HB4:Hi _:=HB2.trans (hb4.mono HB2.size)
      have x2':w4.cell? (D xb 2 Z)=U (Y mb):=(hb4.cell (aw x2)).trans x2
      have hl4:xb<w4.heap.size:=aw x2'
      clear hb4 x1 x2 hl2
      go_wp2_with fail
      refine(HEL 0 false 4 mb _ Dc Dc Dc Dc O).mono ?_
      rintro e w5 ⟨rfl,hb5⟩
      have HB5':Hi _:=HB4.trans (hb5.mono HB4.size)
      clear hb5 x2' hl4
      go_wp2_with fail
      refine(HEL 0 true 16 (k1++k3++k2) _ Dc Dc Dc Dc O).mono ?_
      rintro e w6 ⟨rfl,hb6⟩
      have HB6:Hi _:=HB5'.trans (hb6.mono HB5'.size)
      clear hb6
      go_wp2
      go_roundw
      case rel=>exact⟨j+1,O,by rw[HQ2.out],Gn,HBR.trans (HB6.mono HBR.size)⟩
      case measure=>exact Ms
     |false=>
      have y5:(k1++k2).size<=1048612:=by rw[ba];omega
      have y6:=cQ 0 true 16 (k1++k2)
      have HQ2:Hi (wY ms (j+1)=aq++eN 0 true 16 (k1++k2)):=by
       have h:=HQ.out
       unfold lU i6 at h
       simp only at h
       rw[Bb,hk1,hk2,py]at h
       exact h
      go_wp2_with fail
      refine(HEL 0 false 6 mk _ Dc Dc Dc Dc O).mono ?_
      rintro e w2 ⟨rfl,hb2⟩
      have HB2:Hi _:=aT hb2
      have x1:w2.cell? (D wr.heap.size 1 Z)=U (Bo false):=b7.new (A:=#[Y mk,Bo false,Y mb]) ⟨w2,hb2⟩ X
      have x2:w2.cell? (D wr.heap.size 2 Z)=U (Y mb):=b7.new (A:=#[Y mk,Bo false,Y mb]) ⟨w2,hb2⟩ X
      have hl2:wr.heap.size<w2.heap.size:=aw x1
      obtain⟨xb,hxb⟩:∃xb,wr.heap.size=xb:=Ey
      rw[hxb]at x1 x2 hl2 ⊢
      clear hb2 hxb e0 e1 e2 x6 l6 hgl
      go_wp2_with fail
      refine(HEL 0 false 4 mb _ Dc Dc Dc Dc O).mono ?_
      rintro e w5 ⟨rfl,hb5⟩
      have HB5':Hi _:=HB2.trans (hb5.mono HB2.size)
      clear hb5 x1 x2 hl2
      go_wp2_with fail
      refine(HEL 0 true 16 (k1++k2) _ Dc Dc Dc Dc O).mono ?_
      rintro e w6 ⟨rfl,hb6⟩
      have HB6:Hi _:=HB5'.trans (hb6.mono HB5'.size)
      clear hb6
      go_wp2
      go_roundw
      case rel=>exact⟨j+1,O,by rw[HQ2.out],Gn,HBR.trans (HB6.mono HBR.size)⟩
      case measure=>exact Ms
    have hlt':(ms.length:Int)<=j:=O;obtain rfl:j=ms.length:=O;have HBY:Hi ((ctOf v s n pr f t k ms).bytes=eN 0 true 16 (o3++H5 (sS ms))):=by
     show _=_;obtain⟨q1,q2,q3,q4,q5,q6,q7⟩:=HNM.out;have e1:=HO1.out;have e2:=HO2.out;obtain⟨e3,e4⟩:=HO3.out;unfold CT.bytes CT.inner ctOf;simp only;rw[HVB,q1,q4,q5,q7,q6,e1,<-e4,<-e3,<-e2];cases pr
     ·simp only[IB,if_false];rw[q3]
     simp only[if_true];rw[q2]
    (have zq8:(wY ms ms.length).size<=8389040:=by have:=iJ 1048630 hm8;omega);by_cases h0:ms.length=0
    ·have hz0:(ms.length:Int)<=0:=O;(have HB0:Hi ((ctOf v s n pr f t k ms).bytes=eN 0 true 16 o3):=by show _=_;have h:=HBY.out;(have e:sS ms=Z:=by unfold sS;rw[aG h0]);rw[e]at h;rw[h];show eN 0 true 16 (o3++bh)=_;rw[py]);go_wp2_with fail;refine(HEL 0 true 16 o3 _ Dc Dc Dc Dc O).mono ?_;rintro e w2 ⟨rfl,hb2⟩;have HB2:Hi _:=HBw.trans (hb2.mono HBw.size);have zb:=cQ 0 true 16 o3;obtain⟨bb,hbb⟩:∃x,eN 0 true 16 o3=x:=Ey;rw[hbb]at HB0 zb;clear hb2;by_cases hb4:4000<bb.size
     ·have hb4':(4000:Int)<bb.size:=O;go_wp2;go_ret2;exact⟨HB2,.inr (.inr ⟨HOK.1,HOK.2,pr,HPP,.inl ⟨by rw[HB0.out];exact hb4,X⟩⟩)⟩
     have hb4':(bb.size:Int)<=4000:=O;go_wp2;go_ret2;exact⟨HB2,.inr (.inr ⟨HOK.1,HOK.2,pr,HPP,.inr ⟨by rw[HB0.out];omega,by rw[HB0.out];rfl⟩⟩)⟩
    have hz0:(0:Int)<ms.length:=O;have zm:=cQ 0 true 16 (wY ms ms.length);have zm2:=cQ 2 true 3 (eN 0 true 16 (wY ms ms.length));obtain⟨m1,hm1⟩:∃x,eN 0 true 16 (wY ms ms.length)=x:=Ey;rw[hm1]at zm zm2;obtain⟨m2,hm2⟩:∃x,eN 2 true 3 m1=x:=Ey;rw[hm2]at zm2;(have HB0:Hi ((ctOf v s n pr f t k ms).bytes=eN 0 true 16 (o3++m2)):=by show _=_;have h:=HBY.out;(have e:sS ms=U (ms.map i6):=by unfold sS;rw[G h0]);rw[e]at h;rw[h];show eN 0 true 16 (o3++eN 2 true 3 (eN 0 true 16 (nf (ms.map i6))))=_;rw[<-Ef,hm1,hm2]);(have zt:(o3++m2).size<=14000000:=by rw[ba];omega);go_wp2_with fail;refine(HEL 0 true 16 (wY ms ms.length) _ Dc Dc Dc Dc O).mono ?_;rintro e w2 ⟨rfl,hb2⟩;have HB2:Hi _:=HBw.trans (hb2.mono HBw.size);clear hb2 x6 l6;go_wp2_with fail;refine(HEL 2 true 3 m1 _ Dc Dc Dc Dc O).mono ?_;rintro e w3 ⟨rfl,hb3⟩;have HB3:Hi _:=HB2.trans (hb3.mono HB2.size);clear hb3;go_wp2_with fail;refine(HEL 0 true 16 (o3++m2) _ Dc Dc Dc Dc O).mono ?_;rintro e w4 ⟨rfl,hb4⟩;have HB4:Hi _:=HB3.trans (hb4.mono HB3.size);have zb:=cQ 0 true 16 (o3++m2);obtain⟨bb,hbb⟩:∃x,eN 0 true 16 (o3++m2)=x:=Ey;rw[hbb]at HB0 zb;clear hb4;by_cases hb4:4000<bb.size
    ·have hb4':(4000:Int)<bb.size:=O;go_wp2;go_ret2;exact⟨HB4,.inr (.inr ⟨HOK.1,HOK.2,pr,HPP,.inl ⟨by rw[HB0.out];exact hb4,X⟩⟩)⟩
    have hb4':(bb.size:Int)<=4000:=O;go_wp2;go_ret2;exact⟨HB4,.inr (.inr ⟨HOK.1,HOK.2,pr,HPP,.inr ⟨by rw[HB0.out];omega,by rw[HB0.out];rfl⟩⟩)⟩
def Hs(x y:Vl):Bool:=x.kind==y.kind&&(x.text.toList==y.text.toList&&(x.alt==y.alt&&x.kids==y.kids))
theorem Ah(x y:Vl):Hs x y=true↔x=y:=by
 unfold Hs;simp only[eb,bV];obtain⟨a,b,c,d⟩:=x;obtain⟨a',b',c',d'⟩:=y;constructor
 ·rintro⟨h1,h2,h3,h4⟩;simp only at h1 h2 h3 h4;rw[Lib.toList_data,Lib.toList_data]at h2;have hb:b=b':=bC (Array.toList_inj.1 h2);subst h1 hb h3 h4;rfl
 intro h;injection h with h1 h2 h3 h4;subst h1 h2 h3 h4;exact⟨X,X,X,X⟩
theorem Gv{vs us:Ls Vl}(hl:vs.length=us.length)(h:∀j,j<vs.length->vl vs j=vl us j):vs=us:=by
 apply oR hl;intro j h1 h2;have:=h j h1;unfold vl at this;rw[aB,aB,aC h1,aC h2]at this;exact this
theorem yh(vs us:Ls Vl)(a1 a2:Oo Ad)(c1 c2:Nat)(w:M)(h1:iV w a1 vs)(h2:iV w a2 us)(hn:vs.length<=140737488351232)(hm:us.length<=140737488351232):Cs prog 89 #[S a1 vs.length c1,S a2 us.length c2] w fun e w'=>dB (vs=us) w e w':=by
 have H1:=bF h1;have H2:=bF h2;clear h1 h2;by_cases hl:vs.length=us.length
 ·have HL:=bF hl;rw[<-hl];obtain⟨n,hnn⟩:∃n,vs.length=n:=Ey;have HNN:=bF hnn;rw[hnn]at hn ⊢;clear hl hm hnn;go_enter func89,ntmps89;go_wp2;go_loopw [13] (fun i wr=>∃k:Nat,k<=n/\i=I J k/\(∀j,j<k->vl vs j=vl us j)/\∃q,wr=w.drewN q) (fun i _=>n-(Io i).toNat);case atStart=>exact⟨0,Lz,X,fun j hj=>Ab hj (aO _),0,X⟩
  obtain⟨k,hk,rfl,hsame,q,rfl⟩:=hrel;have HSM:=bF hsame;clear hsame;by_cases hlt:k<n
  ·obtain⟨g1,o1,e1,x1,x2,x3,x4⟩:=H1 k (by rw[HNN.out];exact hlt);obtain⟨g2,o2,e2,y1,y2,y3,y4⟩:=H2 k (by rw[<-HL,HNN.out];exact hlt);subst e1 e2;have hlt':(k:Int)<n:=O;have HX:Hi (Hs (vl vs k) (vl us k)=true->vl vs k=vl us k):=(Ah _ _).1;(have HY:Hi (Hs (vl vs k) (vl us k)=false->¬vs=us):=fun q e=>by have:=(Ah (vl vs k) (vl us k)).2 (by rw[e]);rw[q]at this;cases this);have HZ:Hi (vl vs k=vl us k->∀j,j<k+1->vl vs j=vl us j):=fun q j hj=>by
    by_cases hjk:j=k
    ·rw[hjk];exact q
    exact HSM j O
   generalize vl vs k=x at x1 x2 x3 x4 HX HY HZ;generalize vl us k=y at y1 y2 y3 y4 HX HY HZ;obtain⟨xk,xt,xa,xc⟩:=x;obtain⟨yk,yt,ya,yc⟩:=y;unfold Hs at HX HY;simp only at x1 x2 x3 x4 y1 y2 y3 y4 HX HY;cases hb1:(xk==yk);case false=>have HN:=bF (HY (by rw[hb1];rfl));clear HX HY HZ;go_wp2;go_quiet (fail);go_wp2;go_ret;exact bc HN (Go.below_drewN (Go.below_drewN By _) _)
   case true=>
   cases hb2:(xt.toList==yt.toList);case false=>have HN:=bF (HY (by rw[hb2,Bool.false_and,jN]));clear HX HY HZ;go_wp2;go_quiet (fail);go_wp2;go_ret;exact bc HN (Go.below_drewN (Go.below_drewN By _) _)
   case true=>
   cases hb3:(xa==ya);case false=>have HN:=bF (HY (by rw[hb3,Bool.false_and,jN,jN]));clear HX HY HZ;go_wp2;go_quiet (fail);go_wp2;go_ret;exact bc HN (Go.below_drewN (Go.below_drewN By _) _)
   case true=>
   cases hb4:(xc==yc);case false=>have HN:=bF (HY (by rw[hb4,jN,jN,jN]));clear HX HY HZ;go_wp2;go_quiet (fail);go_wp2;go_ret;exact bc HN (Go.below_drewN (Go.below_drewN By _) _)
   case true=>
    have HS2:=bF (HZ (HX (by rw[hb1,hb2,hb3,hb4];rfl)));clear HX HY HZ;go_wp2;go_quiet (fail);go_wp2;go_roundw;case rel=>exact⟨k+1,O,Gn,HS2,_,X⟩
    case measure=>exact Ms
  have hlt':(n:Int)<=k:=O;obtain rfl:k=n:=O;have HEQ:Hi (vs=us):=Gv HL fun j hj=>HSM j (by rw[HNN.out]at hj;exact hj);go_wp2;go_ret;exact bS HEQ (Go.below_drewN By _)
 have hl':¬((vs.length:Int)=us.length):=O;have hlb:((vs.length:Int)==us.length)=false:=So;have HNE:Hi (¬vs=us):=fun h=>hl (by rw[h]);clear hl;go_enter func89,ntmps89;go_wp2;go_ret;exact bc HNE By
theorem oB{E:cw}{d:Q}{vs:Ls Vl}(h:my E cS 0 d (.ok vs)):vs.length<=400000/\∃c:CT,vs=c.tree/\c.Ok:=by
 rcases h with⟨_,q⟩|⟨_,_,q⟩|⟨hr,hd,hs,he,hE,f,_,hv⟩
 ·cases q
 ·cases q
 unfold eI at hv;obtain⟨us,z,h1,h2⟩:=cY hv;have h1':dJ E f 0 0 E.d.size 1=U (.ok (us,z)):=h1;split at h2
 ·cases h2
 cases h2;have hl:=iC (E:=E) (by rw[hs];exact hr.1.fine) (by rw[hs];decide) h1';rw[he]at hl;exact⟨O,xW hs hE ⟨_,_,_,_,_,h1'⟩⟩
def CT.again(c:CT)(pr:Bool):CT:=ctOf (b8 c.vt 0) c.s c.n pr c.ft c.tt c.k (bZ c)
theorem nM{c:CT}(h:Sz c.tree):GH c.s c.n c.ft c.tt c.k (bZ c):=by
 have hq:=jH c;have key:∀j,j<c.tree.length->(vl c.tree j).text.size<=140737488355328:=h.txt;refine⟨key 2 O,key 4 O,key 6 O,key 7 O,key 8 O,fun j hj=>?_⟩;have hj':j<(pt c.ms).length:=by unfold bZ at hj;rw[bY]at hj;exact hj
 have e:(bZ c).getD j iy=Gd ((pt c.ms).getD j (bh,bh,bh)):=by unfold bZ;rw[aB,fW,aC hj',aB,aC hj'];rfl
 have k1:=key (10+4*j+1) O;have k3:=key (10+4*j+3) O;rw[fD c j hj' 1 Dc]at k1;rw[fD c j hj' 3 Dc]at k3;rw[e];exact⟨k1,k3⟩
abbrev iL:Vv:=bW 0 ⟨#[]⟩ ⟨#[]⟩ ⟨#[]⟩ ⟨#[]⟩ ⟨#[]⟩ (S Z 0 0)
def Hx(sn:Sn->Ad)(za:Ad)(k q:Int)(er:Vv):Prop:=(k=1/\q=0/\((∃p,er=fq 0 (aX p za))\/er=aX 0 za))\/(2<=k/\k<=10/\er=aX q (sn (Fi k)))
def Cd(sn:Sn->Ad)(za:Ad)(v:Except (Int×Int) (Ls Vl))(w:M)(e:Ending)(w':M):Prop:=
 H w.heap.size w w'/\((∃k q er,v= .error (k,q)/\Hx sn za k q er/\e=Rt (Tu #[iL,er]))\/
  (∃(c:CT) (pr:Bool),v= .ok c.tree/\c.Ok/\Sz c.tree/\(pr=true↔aR 8 c.n)/\
    ((c.tree≠(c.again pr).tree/\e=Rt (Tu #[iL,aX 0 (sn .Card)]))\/
     (c.tree=(c.again pr).tree/\¬cN (b8 c.vt 0) c.s c.n c.ft c.tt c.k (bZ c).length/\e=Rt (Tu #[iL,aX 0 (sn .Card)]))\/
     (c.tree=(c.again pr).tree/\cN (b8 c.vt 0) c.s c.n c.ft c.tt c.k (bZ c).length/\¬dd (bZ c)/\e=Rt (Tu #[iL,aX 0 (sn .Mark)]))\/
     (c.tree=(c.again pr).tree/\cN (b8 c.vt 0) c.s c.n c.ft c.tt c.k (bZ c).length/\dd (bZ c)/\∃ma mc,e=Rt (Tu #[bW (b8 c.vt 0) c.s c.n c.ft c.tt c.k (S ma (bZ c).length mc),.nilIface])/\w'.ownsRow w.heap.size 73 3 (S ma (bZ c).length mc) (bZ c).length (dV (bZ c))))))
theorem rj{w:M}{g:Nat}(h:w.heap[g]? =U (C dK 68 (0,0))):w.cell? (D g 0 Z)=U (I J 0)/\w.cell? (D g 1 Z)=U (Y ⟨#[]⟩)/\w.cell? (D g 2 Z)=U (Y ⟨#[]⟩)/\w.cell? (D g 3 Z)=U (Y ⟨#[]⟩)/\w.cell? (D g 4 Z)=U (Y ⟨#[]⟩)/\w.cell? (D g 5 Z)=U (Y ⟨#[]⟩)/\w.cell? (D g 6 Z)=U (S Z 0 0)/\w.frozen? (D g 0 Z)=false/\w.frozen? (D g 1 Z)=false/\w.frozen? (D g 2 Z)=false/\w.frozen? (D g 3 Z)=false/\w.frozen? (D g 4 Z)=false/\w.frozen? (D g 5 Z)=false/\w.frozen? (D g 6 Z)=false:=⟨by simp[Wc,h],by simp[Wc,h],by simp[Wc,h],by simp[Wc,h],by simp[Wc,h],by simp[Wc,h],by simp[Wc,h],by simp[Wf,h],by simp[Wf,h],by simp[Wf,h],by simp[Wf,h],by simp[Wf,h],by simp[Wf,h],by simp[Wf,h]⟩
theorem qq{W w:M}(h:H W.heap.size W w)(a b c d e f g:Vv):H W.heap.size W (((((((w.setCell (D W.heap.size 0 Z) a).setCell (D W.heap.size 1 Z) b).setCell (D W.heap.size 2 Z) c).setCell (D W.heap.size 3 Z) d).setCell (D W.heap.size 4 Z) e).setCell (D W.heap.size 5 Z) f).setCell (D W.heap.size 6 Z) g):=
 ((((((h.setCell Ln _).setCell Ln _).setCell Ln _).setCell Ln _).setCell Ln _).setCell Ln _).setCell Ln _
theorem AM(E:cw)(d:Q)(v:Except (Int×Int) (Ls Vl))(w:M)(sn:Sn->Ad)(za:Ad)(hl:ls w sn)(hz:jM w sn za)(hd:d.size<=9223372036854775807)(hv:my E cS 0 d v)(hsz:∀vs,v= .ok vs->Sz vs):Cs prog 58 #[Y d] w fun e w'=>Cd sn za v w e w':=by
 have HSC:Hi (∀wq,Cs prog 86 #[] wq fun e w'=>∃g,e=Rt (S (U (D g 0 Z)) 14 14)/\ju w' (U (D g 0 Z)) cS/\H wq.heap.size wq w'):=fun wq=>rm wq;have HT:Hi (∀g wq,H w.heap.size w wq->ju wq (U (D g 0 Z)) cS->Cs prog 47 #[S (U (D g 0 Z)) 14 14,I J 0,Y d] wq fun e w'=>Cg sn za v wq e w'):=fun g wq q hs=>wQ E cS (U (D g 0 Z)) 14 0 d v wq sn za (hl.below q) (hz.below q) hs Cv Dc hd hv;have HTO:Hi (∀(c:CT) (ma:Oo Ad) (mc:Nat) wq,H w.heap.size w wq->Sz c.tree->c.tree.length<=400000->fj wq ma (bZ c)->Cs prog 87 #[bW (b8 c.vt 0) c.s c.n c.ft c.tt c.k (S ma (bZ c).length mc)] wq fun e w'=>Cf (b8 c.vt 0) c.s c.n c.ft c.tt c.k (bZ c) wq e w'):=fun c ma mc wq q hz2 hln hin=>rD _ _ _ _ _ _ _ ma mc wq sn (hl.below q) (by have:=(nM hz2).n;omega) (gu c.vt 0).1 (gu c.vt 0).2 hin (by have:=jH c;unfold bZ;rw[bY];omega);have HCK:Hi (∀(c:CT) (ma:Oo Ad) (mc:Nat) wq,H w.heap.size w wq->Sz c.tree->c.tree.length<=400000->fj wq ma (bZ c)->(bZ c).length<=mc->Cs prog 85 #[bW (b8 c.vt 0) c.s c.n c.ft c.tt c.k (S ma (bZ c).length mc)] wq fun e w'=>sx (b8 c.vt 0) c.s c.n c.ft c.tt c.k (bZ c) sn wq e w'):=fun c ma mc wq q hz2 hln hin hcap=>by have hT:=nM hz2;exact qw _ _ _ _ _ _ _ ma mc wq sn za (hl.below q) (hz.below q) (by have:=hT.s;omega) (by have:=hT.n;omega) (by have:=hT.f;omega) (by have:=hT.t;omega) (by have:=hT.k;omega) hin hT.ms (by have:=jH c;unfold bZ;rw[bY];omega) hcap
 have HL:Hi (ls w sn):=hl;have HAT:Hi (∀x wq,Cs prog 60 #[I J 0,If 291 (Po (U (sn x)))] wq fun e w'=>e=Rt (aX 0 (sn x))/\w'=wq):=fun x wq=>fR 0 _ wq;have HV:=bF hv;have HSZ:=bF hsz;unfold Cd;clear hl hz hv hsz;go_enter func58,ntmps58;go_wp2_with fail;have HB0:Hi (H w.heap.size w (w.alloc (C dK 68))):=Be;refine(HSC _).mono ?_;rintro e w1 ⟨g,rfl,hs1,hb1⟩;have HB1:Hi (H w.heap.size w w1):=aT hb1;have HR1:Hi (w1.heap[w.heap.size]? =U (C dK 68 (0,0))):=ax (aA w _) hb1;have HT1:=bF (HT g w1 HB1 hs1);clear hs1 hb1 HT HSC;go_wp2_with fail;refine HT1.mono ?_;rintro e w2 ⟨hb2,h2⟩;have HB2:Hi (H w.heap.size w w2):=HB1.trans (hb2.mono HB1.size);have HR2:Hi (w2.heap[w.heap.size]? =U (C dK 68 (0,0))):=ax HR1 hb2;have hlw:w.heap.size<w1.heap.size:=bm HR1;have h2':(∃k q er,v= .error (k,q)/\Hx sn za k q er/\(∃T u,er=If T u)/\e=Rt (Tu #[S Z 0 0,er]))\/(∃vs ta tc,v= .ok vs/\e=Rt (Tu #[S ta vs.length tc,.nilIface])/\w2.ownsRow w1.heap.size 60 4 (S ta vs.length tc) vs.length (bG vs)):=by
  rcases h2 with⟨vs,ta,tc,hvv,he,ho⟩|⟨p,hvv,he⟩|⟨hvv,he⟩|⟨k,q,hvv,k1,k2,he⟩
  ·exact .inr ⟨vs,ta,tc,hvv,he,ho⟩
  ·exact .inl ⟨1,0,_,hvv,.inl ⟨X,X,.inl ⟨p,X⟩⟩,⟨_,_,X⟩,he⟩
  ·exact .inl ⟨1,0,_,hvv,.inl ⟨X,X,.inr X⟩,⟨_,_,X⟩,he⟩
  exact .inl ⟨k,q,_,hvv,.inr ⟨k1,k2,X⟩,⟨_,_,X⟩,he⟩
 clear h2 hb2 HT1;rcases h2' with⟨k,q,er,hvv,hF,⟨T,u,rfl⟩,rfl⟩|⟨vs,ta,tc,hvv,rfl,ho⟩
 ·have HF:=bF (And.intro hvv hF);obtain⟨z0,z1,z2,z3,z4,z5,z6,y0,y1,y2,y3,y4,y5,y6⟩:=rj HR2;have hl2:w.heap.size<w2.heap.size:=aw z0;clear hvv hF;go_wp2_with fail;refine aS (v:=Tu #[iL,If T u]) (by simp[results,results58,go_sem,bW,z0,z1,z2,z3,z4,z5,z6]) X ?_;exact⟨qq HB2 _ _ _ _ _ _ _,.inl ⟨k,q,_,HF.1,HF.2,X⟩⟩
 obtain⟨hlen,c,rfl,hok⟩:=oB (by rw[<-hvv];exact HV);have hS:=HSZ _ hvv;have HO2:=bF ho;have HX:=bF (And.intro hvv (And.intro hok (And.intro hS hlen)));have HCO:=bF (xV c hok ta tc w2 (iV.of_own ho) (jr ho) O);clear hvv hok hS ho;go_wp2_with fail;refine HCO.mono ?_;rintro e w3 ⟨hb3,ma,mc,rfl,ho3⟩;have HB3:Hi (H w.heap.size w w3):=HB2.trans (hb3.mono HB2.size);have HR3:Hi (w3.heap[w.heap.size]? =U (C dK 68 (0,0))):=ax HR2 hb3;have HO3:=bF ho3;have HV3:Hi (iV w3 ta c.tree):=(iV.of_own HO2).below hb3;clear hb3 ho3 HCO HSZ;unfold bW at HTO HCK;unfold bW;have HBA:Hi (H w3.heap.size w3 (w3.alloc (C #[I J (b8 c.vt 0),Y c.s,Y c.n,Y c.ft,Y c.tt,Y c.k,S ma (bZ c).length mc] 68))):=Be;have HTO3:=bF (HTO c ma mc (w3.alloc (C #[I J (b8 c.vt 0),Y c.s,Y c.n,Y c.ft,Y c.tt,Y c.k,S ma (bZ c).length mc] 68)) (HB3.trans (HBA.mono HB3.size)) HX.2.2.1 HX.2.2.2 ((fj.of_own HO3).below HBA));have HCB0:Hi ((w3.alloc (C #[I J (b8 c.vt 0),Y c.s,Y c.n,Y c.ft,Y c.tt,Y c.k,S ma (bZ c).length mc] 68)).heap[w3.heap.size]? =U (C #[I J (b8 c.vt 0),Y c.s,Y c.n,Y c.ft,Y c.tt,Y c.k,S ma (bZ c).length mc] 68 (0,0))):=aA w3 _;have HEQ:Hi (∀(pr:Bool) (tb:Oo Ad) (td:Nat) wq,iV wq ta c.tree->iV wq tb (c.again pr).tree->Cs prog 89 #[S ta c.tree.length tc,S tb (c.again pr).tree.length td] wq fun e w'=>dB (c.tree=(c.again pr).tree) wq e w'):=fun pr tb td wq h1 h2=>yh _ _ ta tb tc td wq h1 h2 (by have:=HX.out.2.2.2;omega) (by have h3:=wR (v:=b8 c.vt 0) (s:=c.s) (n:=c.n) (f:=c.ft) (t:=c.tt) (k:=c.k) (ms:=bZ c) (pr:=pr);have h4:=jH c;have h5:=HX.out.2.2.2;(have h6:(bZ c).length=(pt c.ms).length:=by unfold bZ;rw[bY]);have h7:(c.again pr).tree.length<=10+4*(bZ c).length:=h3;omega);go_wp2_with fail;refine HTO3.mono ?_;rintro e w4 ⟨hb4,pr,tb,td,hpr,rfl,ho4⟩;have HB34:Hi (H w3.heap.size w3 w4):=HBA.trans (hb4.mono HBA.size);have HCB4:=bF (ax HCB0 hb4);have HPR:=bF hpr;have HQ4:=bF (HEQ pr tb td w4 (HV3.below HB34) (iV.of_own ho4));have e4:(ctOf (b8 c.vt 0) c.s c.n pr c.ft c.tt c.k (bZ c)).tree=(c.again pr).tree:=X;rw[e4];clear hb4 hpr ho4 HTO3 HCB0 HEQ HTO e4 HBA;go_wp2_with fail;refine HQ4.mono ?_;rintro e w5 ⟨r,rfl,hr,hb5⟩;have HB35:Hi (H w3.heap.size w3 w5):=HB34.trans (hb5.mono HB34.size);have HCB5:=bF (ax HCB4 hb5);have HB5:Hi (H w.heap.size w w5):=HB3.trans (HB35.mono HB3.size);have HR5:=bF (ax HR3 HB35);have HO5:=bF (bB HO3 HB35);clear hb5 HQ4 HCB4 HB34
 cases r with
 |false=>
  have HNE:Hi (c.tree≠(c.again pr).tree):=fun q=>by cases hr.2 q
  obtain⟨z0,z1,z2,z3,z4,z5,z6,y0,y1,y2,y3,y4,y5,y6⟩:=rj HR5
  have hl5:w.heap.size<w5.heap.size:=aw z0
  have cC:=(HL.below HB5).s.cCard
  have hgl:=aw cC
  simp only at hgl
  have HA:=bF (HAT .Card w5)
  unfold aX at HA
  clear hr HCK
  go_wp2_with fail
  refine HA.mono ?_
  rintro e w6 ⟨rfl,rfl⟩
  go_wp2_with fail
  refine aS (v:=Tu #[iL,aX 0 (sn .Card)]) (by simp[results,results58,go_sem,bW,aX,z0,z1,z2,z3,z4,z5,z6]) X ?_
  exact⟨qq HB5 _ _ _ _ _ _ _,.inr ⟨c,pr,HX.1,HX.2.1,HX.2.2.1,HPR,.inl ⟨HNE,X⟩⟩⟩
 |true=>
  have HEQT:Hi (c.tree=(c.again pr).tree):=hr.1 X
  have hCB:=HCB5.out
  have HC5:=bF (HCK c ma mc w5 HB5 HX.2.2.1 HX.2.2.2 ((fj.of_own HO3).below HB35) (jr HO3))
  have k0:w5.cell? (D w3.heap.size 0 Z)=U (I J (b8 c.vt 0)):=by simp[Wc,hCB]
  have k1:w5.cell? (D w3.heap.size 1 Z)=U (Y c.s):=by simp[Wc,hCB]
  have k2:w5.cell? (D w3.heap.size 2 Z)=U (Y c.n):=by simp[Wc,hCB]
  have k3:w5.cell? (D w3.heap.size 3 Z)=U (Y c.ft):=by simp[Wc,hCB]
  have k4:w5.cell? (D w3.heap.size 4 Z)=U (Y c.tt):=by simp[Wc,hCB]
  have k5:w5.cell? (D w3.heap.size 5 Z)=U (Y c.k):=by simp[Wc,hCB]
  have k6:w5.cell? (D w3.heap.size 6 Z)=U (S ma (bZ c).length mc):=by simp[Wc,hCB]
  have hl5:w3.heap.size<w5.heap.size:=aw k0
  unfold sx at HC5
  clear hr HCK hCB
  go_wp2_with fail
  refine HC5.mono ?_
  rintro e w6 ⟨hb6,h6⟩
  have HB6:Hi (H w.heap.size w w6):=HB5.trans (hb6.mono HB5.size)
  have hR6:=ax HR5 hb6
  have hCB:=ax HCB5 hb6
  have HR6:=bF hR6
  have HO6:=bF (bB HO5 hb6)
  obtain⟨z0,z1,z2,z3,z4,z5,z6,y0,y1,y2,y3,y4,y5,y6⟩:=rj hR6
  have hl6:w.heap.size<w6.heap.size:=aw z0
  clear hb6 HC5 k0 k1 k2 k3 k4 k5 k6 hl5 hR6 HCB5
  have k0:w6.cell? (D w3.heap.size 0 Z)=U (I J (b8 c.vt 0)):=by simp[Wc,hCB]
  have k1:w6.cell? (D w3.heap.size 1 Z)=U (Y c.s):=by simp[Wc,hCB]
  have k2:w6.cell? (D w3.heap.size 2 Z)=U (Y c.n):=by simp[Wc,hCB]
  have k3:w6.cell? (D w3.heap.size 3 Z)=U (Y c.ft):=by simp[Wc,hCB]
  have k4:w6.cell? (D w3.heap.size 4 Z)=U (Y c.tt):=by simp[Wc,hCB]
  have k5:w6.cell? (D w3.heap.size 5 Z)=U (Y c.k):=by simp[Wc,hCB]
  have k6:w6.cell? (D w3.heap.size 6 Z)=U (S ma (bZ c).length mc):=by simp[Wc,hCB]
  have hl7:w3.heap.size<w6.heap.size:=aw k0
  clear hCB
  rcases h6 with⟨hc,rfl⟩|⟨hc,hm,rfl⟩|⟨hc,hm,rfl⟩
  ·have HN:=bF hc
   clear hc
   unfold aX
   go_wp2_with fail
   refine aS (v:=Tu #[iL,aX 0 (sn .Card)]) (by simp[results,results58,go_sem,bW,aX,z0,z1,z2,z3,z4,z5,z6]) X ?_
   exact⟨qq HB6 _ _ _ _ _ _ _,.inr ⟨c,pr,HX.1,HX.2.1,HX.2.2.1,HPR,.inr (.inl ⟨HEQT,HN,X⟩)⟩⟩
  ·have HN:=bF (And.intro hc hm)
   clear hc hm
   unfold aX
   go_wp2_with fail
   refine aS (v:=Tu #[iL,aX 0 (sn .Mark)]) (by simp[results,results58,go_sem,bW,aX,z0,z1,z2,z3,z4,z5,z6]) X ?_
   exact⟨qq HB6 _ _ _ _ _ _ _,.inr ⟨c,pr,HX.1,HX.2.1,HX.2.2.1,HPR,.inr (.inr (.inl ⟨HEQT,HN.1,HN.2,X⟩))⟩⟩
  ·have HN:=bF (And.intro hc hm)
   clear hc hm
   go_wp2_with fail
   refine aS (v:=Tu #[bW (b8 c.vt 0) c.s c.n c.ft c.tt c.k (S ma (bZ c).length mc),.nilIface]) (by simp[results,results58,go_sem,bW,z0,z1,z2,z3,z4,z5,z6]) X ?_
   have hne:=cJ HR6 HO6 Dc
   have ho7:=mn HO6 HB2.size
   exact⟨qq HB6 _ _ _ _ _ _ _,.inr ⟨c,pr,HX.1,HX.2.1,HX.2.2.1,HPR,.inr (.inr (.inr ⟨HEQT,HN.1,HN.2,ma,mc,X,aJ (aJ (aJ (aJ (aJ (aJ (aJ ho7 hne _) hne _) hne _) hne _) hne _) hne _) hne _⟩))⟩⟩
theorem D9{sn:Sn->Ad}{za:Ad}{k q:Int}{er:Vv}(w:M)(hl:ls w sn)(hz:jM w sn za)(het:DE w)(h:Hx sn za k q er):∀wq,H w.heap.size w wq->Cs prog 48 #[er] wq (fun e w'=>e=Rt (I J q)/\H wq.heap.size wq w')/\Cs prog 34 #[er] wq (fun e w'=>e=Rt (I J k)/\H wq.heap.size wq w'):=fun wq hq=>by
 have HP:∀p u,u.oneCell'=true->Cs prog 48 #[If 155 (Ag #[I J p,u])] wq fun e w'=>e=Rt (I J p)/\H wq.heap.size wq w':=fun p u h1=>wH p u wq h1 (het.below hq);rcases h with⟨rfl,rfl,⟨p,rfl⟩|rfl⟩|⟨k1,k2,rfl⟩
 ·exact⟨HP 0 _ X,yL 0 p za wq sn (hl.below hq).s (hz.below hq)⟩
 ·refine⟨HP 0 _ X,?_⟩;have h:=sX 0 za wq sn (hl.below hq).s (hz.below hq).r;rw[Eg (fun s q=>hz.d s q.symm)]at h;exact h
 refine⟨HP q _ X,?_⟩;have h:=oH q (Fi k) wq sn (hl.below hq).s;rw[Dj k k1 k2]at h;exact h
theorem Gr{sn:Sn->Ad}{za:Ad}(x:Sn)(w:M)(hl:ls w sn)(het:DE w):∀wq,H w.heap.size w wq->
 Cs prog 48 #[aX 0 (sn x)] wq (fun e w'=>e=Rt (I J 0)/\H wq.heap.size wq w')/\Cs prog 34 #[aX 0 (sn x)] wq (fun e w'=>e=Rt (I J x.code)/\H wq.heap.size wq w'):=fun wq hq=>
 ⟨wH 0 _ wq X (het.below hq),oH 0 x wq sn (hl.below hq).s⟩
def mM(v:Except (Int×Int) (Ls Vl))(w:M)(e:Ending)(w':M):Prop:=
 H w.heap.size w w'/\((∃k q,v= .error (k,q)/\e=Rt (Tu #[iL,I J q,I J k]))\/
  (∃(c:CT) (pr:Bool),v= .ok c.tree/\c.Ok/\Sz c.tree/\(pr=true↔aR 8 c.n)/\
    (((c.tree≠(c.again pr).tree\/¬cN (b8 c.vt 0) c.s c.n c.ft c.tt c.k (bZ c).length)/\e=Rt (Tu #[iL,I J 0,I J 12]))\/
     (c.tree=(c.again pr).tree/\cN (b8 c.vt 0) c.s c.n c.ft c.tt c.k (bZ c).length/\¬dd (bZ c)/\e=Rt (Tu #[iL,I J 0,I J 13]))\/
     (c.tree=(c.again pr).tree/\cN (b8 c.vt 0) c.s c.n c.ft c.tt c.k (bZ c).length/\dd (bZ c)/\∃ma mc,e=Rt (Tu #[bW (b8 c.vt 0) c.s c.n c.ft c.tt c.k (S ma (bZ c).length mc),I J 0,I J 0])/\w'.ownsRow w.heap.size 73 3 (S ma (bZ c).length mc) (bZ c).length (dV (bZ c))))))
theorem Ik{w:M}{B ae:Nat}{u0 u1 u2 u3 u4 u5 u6:Vv}(hlt:B<ae)(h:w.cell? (D ae 0 Z)=U u0/\w.cell? (D ae 1 Z)=U u1/\w.cell? (D ae 2 Z)=U u2/\w.cell? (D ae 3 Z)=U u3/\w.cell? (D ae 4 Z)=U u4/\w.cell? (D ae 5 Z)=U u5/\w.cell? (D ae 6 Z)=U u6):∀a b c d e f g:Vv,(((((((w.setCell (D B 0 Z) a).setCell (D B 1 Z) b).setCell (D B 2 Z) c).setCell (D B 3 Z) d).setCell (D B 4 Z) e).setCell (D B 5 Z) f).setCell (D B 6 Z) g).cell? (D ae 0 Z)=U u0/\(((((((w.setCell (D B 0 Z) a).setCell (D B 1 Z) b).setCell (D B 2 Z) c).setCell (D B 3 Z) d).setCell (D B 4 Z) e).setCell (D B 5 Z) f).setCell (D B 6 Z) g).cell? (D ae 1 Z)=U u1/\(((((((w.setCell (D B 0 Z) a).setCell (D B 1 Z) b).setCell (D B 2 Z) c).setCell (D B 3 Z) d).setCell (D B 4 Z) e).setCell (D B 5 Z) f).setCell (D B 6 Z) g).cell? (D ae 2 Z)=U u2/\(((((((w.setCell (D B 0 Z) a).setCell (D B 1 Z) b).setCell (D B 2 Z) c).setCell (D B 3 Z) d).setCell (D B 4 Z) e).setCell (D B 5 Z) f).setCell (D B 6 Z) g).cell? (D ae 3 Z)=U u3/\(((((((w.setCell (D B 0 Z) a).setCell (D B 1 Z) b).setCell (D B 2 Z) c).setCell (D B 3 Z) d).setCell (D B 4 Z) e).setCell (D B 5 Z) f).setCell (D B 6 Z) g).cell? (D ae 4 Z)=U u4/\(((((((w.setCell (D B 0 Z) a).setCell (D B 1 Z) b).setCell (D B 2 Z) c).setCell (D B 3 Z) d).setCell (D B 4 Z) e).setCell (D B 5 Z) f).setCell (D B 6 Z) g).cell? (D ae 5 Z)=U u5/\(((((((w.setCell (D B 0 Z) a).setCell (D B 1 Z) b).setCell (D B 2 Z) c).setCell (D B 3 Z) d).setCell (D B 4 Z) e).setCell (D B 5 Z) f).setCell (D B 6 Z) g).cell? (D ae 6 Z)=U u6:=fun a b c d e f g=>by
 obtain⟨h0,h1,h2,h3,h4,h5,h6⟩:=h;have hne:B≠ae:=Nat.ne_of_lt hlt;have key:∀i,(((((((w.setCell (D B 0 Z) a).setCell (D B 1 Z) b).setCell (D B 2 Z) c).setCell (D B 3 Z) d).setCell (D B 4 Z) e).setCell (D B 5 Z) f).setCell (D B 6 Z) g).cell? (D ae i Z)=w.cell? (D ae i Z):=fun i=>by repeat rw[World.cell?_setCell_far _ _ _ _ hne]
 exact⟨(key 0).trans h0,(key 1).trans h1,(key 2).trans h2,(key 3).trans h3,(key 4).trans h4,(key 5).trans h5,(key 6).trans h6⟩
theorem uJ(E:cw)(d:Q)(v:Except (Int×Int) (Ls Vl))(w:M)(sn:Sn->Ad)(za:Ad)(hl:ls w sn)(hz:jM w sn za)(het:DE w)(hd:d.size<=9223372036854775807)(hv:my E cS 0 d v)(hsz:∀vs,v= .ok vs->Sz vs):Cs prog 32 #[Y d] w fun e w'=>mM v w e w':=by
 have HRD:Hi (∀wq,H w.heap.size w wq->Cs prog 58 #[Y d] wq fun e w'=>Cd sn za v wq e w'):=fun wq q=>AM E d v wq sn za (hl.below q) (hz.below q) hd hv hsz;have HIF:Hi (∀k q er,Hx sn za k q er->∀wq,H w.heap.size w wq->Cs prog 48 #[er] wq (fun e w'=>e=Rt (I J q)/\H wq.heap.size wq w')/\Cs prog 34 #[er] wq (fun e w'=>e=Rt (I J k)/\H wq.heap.size wq w')):=fun k q er h=>D9 w hl hz het h;have HSN:Hi (∀x wq,H w.heap.size w wq->Cs prog 48 #[aX 0 (sn x)] wq (fun e w'=>e=Rt (I J 0)/\H wq.heap.size wq w')/\Cs prog 34 #[aX 0 (sn x)] wq (fun e w'=>e=Rt (I J x.code)/\H wq.heap.size wq w')):=fun x=>Gr (za:=za) x w hl het;have HPN:Hi (∀wq,Cs prog 48 #[.nilIface] wq fun e w'=>e=Rt (I J 0)/\H wq.heap.size wq w'):=fun wq=>Bj wq;have HNN:Hi (∀wq,Cs prog 34 #[.nilIface] wq fun e w'=>e=Rt (I J 0)/\w'=wq):=fun wq=>qW wq;clear hl hz het hv hsz;unfold mM;go_enter func32,ntmps32;go_wp2_with fail;refine(HRD _ Be).mono ?_;rintro e w1 ⟨hb1,h1⟩;have HB1:Hi (H w.heap.size w w1):=aT hb1;have HR1:Hi (w1.heap[w.heap.size]? =U (C dK 68 (0,0))):=ax (aA w _) hb1;have hlow:∀{v:Vv} {n:Nat} {xs:Ls Vv},w1.ownsRow (w.alloc (C dK 68)).heap.size 73 3 v n xs->w1.ownsRow w.heap.size 73 3 v n xs:=fun h=>mn h Sq
 have h2:∃(V:Int) (ar N F T K:Q) (xa:Oo Ad) (xl xc:Nat) (er:Vv) (q0 k0:Int),e=Rt (Tu #[bW V ar N F T K (S xa xl xc),er])/\(∀wq,H w.heap.size w wq->Cs prog 48 #[er] wq (fun e w'=>e=Rt (I J q0)/\H wq.heap.size wq w')/\Cs prog 34 #[er] wq (fun e w'=>e=Rt (I J k0)/\H wq.heap.size wq w'))/\
  ∀w',H w.heap.size w w'->(∀(v:Vv) (n:Nat) (xs:Ls Vv),w1.ownsRow w.heap.size 73 3 v n xs->w'.ownsRow w.heap.size 73 3 v n xs)->mM v w (Rt (Tu #[bW V ar N F T K (S xa xl xc),I J q0,I J k0])) w':=by
  rcases h1 with⟨k,q,er,hv,hF,he⟩|⟨c,pr,hv,hok,hS,hp,⟨hn,he⟩|⟨hq,hn,he⟩|⟨hq,hc,hm,he⟩|⟨hq,hc,hm,ma,mc,he,ho⟩⟩
  ·exact⟨_,_,_,_,_,_,_,_,_,_,_,_,he,HIF k q er hF,fun w' hb _=>⟨hb,.inl ⟨k,q,hv,X⟩⟩⟩
  ·exact⟨_,_,_,_,_,_,_,_,_,_,_,_,he,HSN .Card,fun w' hb _=>⟨hb,.inr ⟨c,pr,hv,hok,hS,hp,.inl ⟨.inl hn,X⟩⟩⟩⟩
  ·exact⟨_,_,_,_,_,_,_,_,_,_,_,_,he,HSN .Card,fun w' hb _=>⟨hb,.inr ⟨c,pr,hv,hok,hS,hp,.inl ⟨.inr hn,X⟩⟩⟩⟩
  ·exact⟨_,_,_,_,_,_,_,_,_,_,_,_,he,HSN .Mark,fun w' hb _=>⟨hb,.inr ⟨c,pr,hv,hok,hS,hp,.inr (.inl ⟨hq,hc,hm,X⟩)⟩⟩⟩
  ·exact⟨_,_,_,_,_,_,_,_,_,_,_,_,he,fun wq q=>⟨HPN wq,(HNN wq).mono fun e w' h=>⟨h.1,by rw[h.2];exact By⟩⟩,fun w' hb hk=>⟨hb,.inr ⟨c,pr,hv,hok,hS,hp,.inr (.inr ⟨hq,hc,hm,ma,mc,X,hk _ _ _ (hlow ho)⟩)⟩⟩⟩
 obtain⟨V,ar,N,F,T,K,xa,xl,xc,er,q0,k0,rfl,hpn,hfin⟩:=h2;have HPQ:=bF hpn;have HFIN:=bF hfin;unfold mM at HFIN;have HBA:Hi (H w1.heap.size w1 (w1.alloc (C (dz V ar N F T K (S xa xl xc)) 68)).drew):=(Be).drew;have HBW:Hi (H w.heap.size w (w1.alloc (C (dz V ar N F T K (S xa xl xc)) 68)).drew):=HB1.trans (HBA.mono HB1.size);have hAN:(w1.alloc (C (dz V ar N F T K (S xa xl xc)) 68)).heap[w1.heap.size]? =U (C (dz V ar N F T K (S xa xl xc)) 68 (0,0)):=aA w1 _;have HKP:Hi (∀wq,H (w1.alloc (C (dz V ar N F T K (S xa xl xc)) 68)).heap.size (w1.alloc (C (dz V ar N F T K (S xa xl xc)) 68)) wq->wq.cell? (D w1.heap.size 0 Z)=U (I J V)/\wq.cell? (D w1.heap.size 1 Z)=U (Y ar)/\wq.cell? (D w1.heap.size 2 Z)=U (Y N)/\wq.cell? (D w1.heap.size 3 Z)=U (Y F)/\wq.cell? (D w1.heap.size 4 Z)=U (Y T)/\wq.cell? (D w1.heap.size 5 Z)=U (Y K)/\wq.cell? (D w1.heap.size 6 Z)=U (S xa xl xc)):=fun wq q=>by have hg:=ax hAN q;refine⟨?_,?_,?_,?_,?_,?_,?_⟩ <;>simp[Wc,hg]
 have hlw:w.heap.size<w1.heap.size:=bm HR1;clear hb1 h1 hlow hpn hfin HRD HIF HSN HPN HNN hAN;unfold bW;go_upto_region 2 with fail;obtain⟨c0,c1,c2,c3,c4,c5,c6⟩:=HKP _ By;have HD0:Hi (H (w1.alloc (C (dz V ar N F T K (S xa xl xc)) 68)).heap.size (w1.alloc (C (dz V ar N F T K (S xa xl xc)) 68)) (w1.alloc (C (dz V ar N F T K (S xa xl xc)) 68)).drew):=(By).drew;have HBA1:Hi (H w1.heap.size w1 (w1.alloc (C (dz V ar N F T K (S xa xl xc)) 68))):=Be;have KP0:=bF (HKP _ HD0)
 go_region_held_law (fun wq=>wq.cell? (D w1.heap.size 0 Z)=U (I J V)/\wq.cell? (D w1.heap.size 1 Z)=U (Y ar)/\wq.cell? (D w1.heap.size 2 Z)=U (Y N)/\wq.cell? (D w1.heap.size 3 Z)=U (Y F)/\wq.cell? (D w1.heap.size 4 Z)=U (Y T)/\wq.cell? (D w1.heap.size 5 Z)=U (Y K)/\wq.cell? (D w1.heap.size 6 Z)=U (S xa xl xc)) (first|with_reducible exact KP0.out|with_reducible exact KP1.out|with_reducible exact KP2.out|with_reducible exact KP3.out _ _ _ _ _ _ _) (first
  |(go_at_call 48;refine(HPQ _ HBW).1.mono ?_;rintro e w2 ⟨rfl,hb2⟩;have HD2:Hi (H (w1.alloc (C (dz V ar N F T K (S xa xl xc)) 68)).heap.size (w1.alloc (C (dz V ar N F T K (S xa xl xc)) 68)) w2):=HD0.trans (hb2.mono HD0.size);have HB2:Hi (H w.heap.size w w2):=HBW.trans (hb2.mono HBW.size);have KP1:=bF (HKP _ HD2);clear hb2)
  |(go_at_call 34;refine(HPQ _ HB2).2.mono ?_;rintro e w3 ⟨rfl,hb3⟩;have HD3:Hi (H (w1.alloc (C (dz V ar N F T K (S xa xl xc)) 68)).heap.size (w1.alloc (C (dz V ar N F T K (S xa xl xc)) 68)) w3):=HD2.trans (hb3.mono HD2.size);have HB3:Hi (H w.heap.size w w3):=HB2.trans (hb3.mono HB2.size);have KP2:=bF (HKP _ HD3);have KP3:Hi (∀a b c d e f g:Vv,(((((((w3.setCell ⟨w.heap.size,0,Z⟩ a).setCell ⟨w.heap.size,1,Z⟩ b).setCell ⟨w.heap.size,2,Z⟩ c).setCell ⟨w.heap.size,3,Z⟩ d).setCell ⟨w.heap.size,4,Z⟩ e).setCell ⟨w.heap.size,5,Z⟩ f).setCell ⟨w.heap.size,6,Z⟩ g).cell? ⟨w1.heap.size,0,Z⟩=U (I J V)/\(((((((w3.setCell ⟨w.heap.size,0,Z⟩ a).setCell ⟨w.heap.size,1,Z⟩ b).setCell ⟨w.heap.size,2,Z⟩ c).setCell ⟨w.heap.size,3,Z⟩ d).setCell ⟨w.heap.size,4,Z⟩ e).setCell ⟨w.heap.size,5,Z⟩ f).setCell ⟨w.heap.size,6,Z⟩ g).cell? ⟨w1.heap.size,1,Z⟩=U (Y ar)/\(((((((w3.setCell ⟨w.heap.size,0,Z⟩ a).setCell ⟨w.heap.size,1,Z⟩ b).setCell ⟨w.heap.size,2,Z⟩ c).setCell ⟨w.heap.size,3,Z⟩ d).setCell ⟨w.heap.size,4,Z⟩ e).setCell ⟨w.heap.size,5,Z⟩ f).setCell ⟨w.heap.size,6,Z⟩ g).cell? ⟨w1.heap.size,2,Z⟩=U (Y N)/\(((((((w3.setCell ⟨w.heap.size,0,Z⟩ a).setCell ⟨w.heap.size,1,Z⟩ b).setCell ⟨w.heap.size,2,Z⟩ c).setCell ⟨w.heap.size,3,Z⟩ d).setCell ⟨w.heap.size,4,Z⟩ e).setCell ⟨w.heap.size,5,Z⟩ f).setCell ⟨w.heap.size,6,Z⟩ g).cell? ⟨w1.heap.size,3,Z⟩=U (Y F)/\(((((((w3.setCell ⟨w.heap.size,0,Z⟩ a).setCell ⟨w.heap.size,1,Z⟩ b).setCell ⟨w.heap.size,2,Z⟩ c).setCell ⟨w.heap.size,3,Z⟩ d).setCell ⟨w.heap.size,4,Z⟩ e).setCell ⟨w.heap.size,5,Z⟩ f).setCell ⟨w.heap.size,6,Z⟩ g).cell? ⟨w1.heap.size,4,Z⟩=U (Y T)/\(((((((w3.setCell ⟨w.heap.size,0,Z⟩ a).setCell ⟨w.heap.size,1,Z⟩ b).setCell ⟨w.heap.size,2,Z⟩ c).setCell ⟨w.heap.size,3,Z⟩ d).setCell ⟨w.heap.size,4,Z⟩ e).setCell ⟨w.heap.size,5,Z⟩ f).setCell ⟨w.heap.size,6,Z⟩ g).cell? ⟨w1.heap.size,5,Z⟩=U (Y K)/\(((((((w3.setCell ⟨w.heap.size,0,Z⟩ a).setCell ⟨w.heap.size,1,Z⟩ b).setCell ⟨w.heap.size,2,Z⟩ c).setCell ⟨w.heap.size,3,Z⟩ d).setCell ⟨w.heap.size,4,Z⟩ e).setCell ⟨w.heap.size,5,Z⟩ f).setCell ⟨w.heap.size,6,Z⟩ g).cell? ⟨w1.heap.size,6,Z⟩=U (S xa xl xc)):=Ik hlw KP2;have HR3:=bF (ax HR1 (HBA1.trans (HD3.mono HBA1.size)));obtain⟨z0,z1,z2,z3,z4,z5,z6,y0,y1,y2,y3,y4,y5,y6⟩:=rj HR3;have hl3:w.heap.size<w3.heap.size:=aw z0;have hl4:w1.heap.size<w3.heap.size:=aw KP2.1;clear hb3))
 rename_i hHeld;clear hHeld KP0 KP1 KP2 KP3 HKP c0 c1 c2 c3 c4 c5 c6;go_wp2_with fail;refine aS (v:=Tu #[bW V ar N F T K (S xa xl xc),I J q0,I J k0]) (by simp[results,results32,go_sem,bW,z0,z1,z2,z3,z4,z5,z6]) X ?_;refine HFIN _ (qq HB3 _ _ _ _ _ _ _) fun v n xs ho=>?_;have ho3:=bB ho (HBA1.trans (HD3.mono HBA1.size));have hne:=cJ HR3 ho3 Dc;exact aJ (aJ (aJ (aJ (aJ (aJ (aJ ho3 hne _) hne _) hne _) hne _) hne _) hne _) hne _
end Go.Proofs.YtkkicodfpekbgaaGreatDoor
namespace Go.Proofs.YtkkicodfpekbgaaGreatDoor
def GK(c:CT)(pr:Bool):Prop:=1<c.vt.size\/(pr=true/\c.pr=false)\/c.ms=U []
theorem xS{t:Q}(h:aR 1 t):bT (t.toList== [255])=t:=by
 obtain⟨h1,h2⟩:=(gx t).2 h;have e:t=⟨#[t.data[0]'(by show 0<t.size;omega)]⟩:=by
  apply bC;apply Array.ext
  ·exact h1
  intro i hi hj;have:i=0:=by have:i<1:=hj;omega
  subst this;rfl
 generalize t.data[0]'(by show 0<t.size;omega)=a at e;subst e;have e2:(ByteArray.toList ⟨#[a]⟩)=[a]:=by rw[Lib.toList_data]
 have hb:b8 ⟨#[a]⟩ 0=a.toNat:=by unfold b8;rfl
 rw[e2];rcases h2 with h2|h2
 ·rw[hb]at h2;have:a=0:=UInt8.toNat_inj.1 (by show a.toNat=0;omega);subst this;rfl
 rw[hb]at h2;have:a=255:=UInt8.toNat_inj.1 (by show a.toNat=255;omega);subst this;rfl
theorem Dy{t:Q}(h:t.size=1):(⟨#[Uo (b8 t 0).toNat]⟩:Q)=t:=by
 apply bC;apply Array.ext
 ·exact h.symm
 intro i hi hj;have:i=0:=by have:i<1:=hi;omega
 subst this;have e:b8 t 0=((t.data[0]'(by show 0<t.size;omega)).toNat:Int):=by have:=cH t 0 O;exact this.symm
 show Uo (b8 t 0).toNat=_;rw[e,br,UInt8.ofNat_toNat]
theorem Ay{c:CT}(hok:c.Ok){pr:Bool}(hp:pr=true↔aR 8 c.n):c.tree≠(c.again pr).tree↔GK c pr:=by
 have h9:c.ms=U []->vl c.tree 9=⟨11,bh,0,0⟩:=fun h=>by unfold CT.tree;rw[h];rfl
 constructor
 ·intro hne;refine cW fun hno=>hne ?_;unfold GK at hno;have n1:¬1<c.vt.size:=fun q=>hno (.inl q);have n2:¬(pr=true/\c.pr=false):=fun q=>hno (.inr (.inl q));have n3:c.ms≠U []:=fun q=>hno (.inr (.inr q));have h1:=((eM _).2 hok.vt).1;have e1:=Dy (t:=c.vt) O;have e2:pr=c.pr:=by
   cases hc:c.pr with
   |true=>
    have:=hok.n
    rw[hc]at this
    exact hp.2 this
   |false=>
    cases hpp:pr with
    |false=>rfl
    |true=>exact Ab ⟨hpp,hc⟩ n2
  have e3:sS (bZ c)=c.ms:=by
   unfold sS bZ
   cases hm:c.ms with
   |none=>rfl
   |some qs=>
    show(if((qs.map Gd).length=0)then Z else U ((qs.map Gd).map i6))=U qs
    rw[bY,G (fun q=>n3 (by rw[hm,List.length_eq_zero_iff.1 q])),List.map_map]
    congr 1
    conv=>rhs;rw[<-List.map_id qs]
    refine Iw fun q hq=>?_
    have:=(hok.ms qs hm q hq).2
    show(q.1,bT (q.2.1.toList== [255]),q.2.2)=q
    rw[xS this]
  have:c.again pr=c:=by unfold CT.again ctOf;rw[e1,e2,e3]
  rw[this]
 intro ho he;rcases ho with ho|⟨q1,q2⟩|ho
 ·have:=dj (fun l=>(vl l 1).text.size) he;have a1:(vl c.tree 1).text.size=c.vt.size:=X;have a2:(vl (c.again pr).tree 1).text.size=1:=X;simp only[a1,a2]at this;omega
 ·have:=dj (fun l=>(vl l 4).kind) he;have a1:(vl c.tree 4).kind=if c.pr then 8 else 7:=X
  have a2:(vl (c.again pr).tree 4).kind=if pr then 8 else 7:=X
  simp only[a1,a2]at this;rw[q1,q2]at this;exact Ab this Dc
 have:=dj (fun l=>vl l 9) he;simp only[h9 ho]at this;have e3:sS (bZ c)=Z:=by unfold sS bZ;rw[ho];rfl
 have a2:vl (c.again pr).tree 9=⟨15,bh,0,0⟩:=by unfold CT.again ctOf CT.tree;simp only;rw[e3];rfl
 rw[a2]at this;injection this with this;exact Ab this Dc
theorem xX{E:cw}{d:Q}{c:CT}(h:my E cS 0 d (.ok c.tree)):∀j,j<c.tree.length->(vl c.tree j).text.size<=1048576:=by
 rcases h with⟨_,q⟩|⟨_,_,q⟩|⟨hr,hd,hs,he,hE,f,hf,hv⟩
 ·cases q
 ·cases q
 unfold eI at hv;obtain⟨us,z,h1,h2⟩:=cY hv;split at h2
 ·cases h2
 cases h2;have hcs:∀n∈cS,∀k∈n.kids,k.dflt.size<=5:=by decide+kernel
 have hr':cd E.s:=by rw[hs];exact jz.1
 have hvb:=yU (E:=E) (B:=1048576) Dc (by rw[he];omega) (fun i=>by
  by_cases hi:i<E.s.length
  ·exact hr'.fine.eight i hi
  ·rw[uA hi];exact Lz) (fun i k hk hd=>by
  by_cases hi:i<E.s.length
  ·obtain⟨u,e1,e2,_⟩:=hE.dv i hi k hk hd;have hw:=hr'.fine.within i hi k hk;obtain⟨_,_,hT1,hT2,hT3,hT4,hT5⟩:=dE hr' (i:=k.node.toNat) O;have hst:=((fE (fun z=>hT3 O) O).1 e1).1;have h3:=rz _ _ _ hst;have hm:nd E.s i∈cS:=by
    rcases Fe E.s i with q|q
    ·rw[<-hs];exact q
    rw[q]at hk;cases hk
   have h4:=hcs _ hm k hk;rw[e2];exact⟨by show u.size<=_;omega,fx _⟩
  rw[uA hi]at hk;cases hk) f O _ _ _ _ _ _ h1
 intro j hj;exact(hvb _ (Dx hj)).1
theorem AG{c:CT}(h:∀j,j<c.tree.length->(vl c.tree j).text.size<=1048576):∀j,j<(bZ c).length->((bZ c).getD j iy).body.size<=1048576:=fun j hj=>by
 have hq:=jH c;have hj':j<(pt c.ms).length:=by unfold bZ at hj;rw[bY]at hj;exact hj
 have e:(bZ c).getD j iy=Gd ((pt c.ms).getD j (bh,bh,bh)):=by unfold bZ;rw[aB,fW,aC hj',aB,aC hj'];rfl
 have k3:=h (10+4*j+3) O;rw[fD c j hj' 3 Dc]at k3;rw[e];exact k3
end Go.Proofs.YtkkicodfpekbgaaGreatDoor
