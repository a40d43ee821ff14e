/- Parts. -/
import Derived.Test.YtkkicodfpekbgaaGreatDoorJc4
import Derived.Test.YtkkicodfpekbgaaGreatDoorJc0
import Derived.Deep.RegionHeldLaw
import Derived.Handy
open Go.Value renaming int->I,string->Y,slice->S,pointer->Po,bool->Bo,agg->Ag,tuple->Tu
open Go.IntKind renaming i64->J
open Go.Obj renaming cells->C
open Go.Ending renaming returned->Rt
open Option renaming some->U,none->Z
open Go renaming World->M,Calls->Cs,Addr->Ad,Value->Vv
open _root_ renaming ByteArray->Q,Option->Oo,List->Ls
open Go.World renaming cell?->Wc,frozen?->Wf
open Go.Act renaming put->Ap,eval->Ae
open Go.RowKit renaming intOf->Io,Hid->Hi
open Go.Addr renaming mk->D
set_option linter.all false
set_option maxRecDepth 100000
set_option maxHeartbeats 8000000
namespace Go.Proofs.YtkkicodfpekbgaaGreatDoor
variable{aB A:Array Vv}{nx m:Int}{vs:Ls Vl}{xs x1 x2:Ls Vv}{w w' W w0 wx:M}{base B n g k size b1 b2 s1 s2 n1 n2:Nat}{o:Obj}{a:Oo Ad}{e T e1 e2:TypeId}{vv vm v u v1 v2 vv' vm' mv mm:Vv}
section
open Go.Proofs.Tryz
open Go.RowKit
theorem di{p:Prop}(h:p):Hi p:=h
theorem Zw(v:Vl)(l:Ls Vl):df (v::l)=v.cells++df l:=by unfold df;simp
def xi:Vl:=⟨0,⟨#[]⟩,0,0⟩
def yi(w:M)(a:Oo Ad)(vs:Ls Vl):Prop:=∀j,j<vs.length->∃g,a=U (D g 0 Z)/\w.cell? (D g (j*4) Z)=U (I J (vs.getD j xi).kind)/\w.cell? (D g (j*4+1) Z)=U (Y (vs.getD j xi).text)/\
 w.cell? (D g (j*4+2) Z)=U (I J (vs.getD j xi).alt)/\w.cell? (D g (j*4+3) Z)=U (I J (vs.getD j xi).kids)
theorem Gz:∀(l:Ls Vl) (i:Nat),i<l.length->∀j,j<4->(df l)[i*4+j]? =(l.getD i xi).cells[j]?
 | [],i,h,_,_=>Ab h (dh _)
 |v::l,0,_,j,hj=>by
  rw[Zw,uH (by show 0*4+j<4;omega)]
  simp
 |v::l,i+1,h,j,hj=>by
  have hl:v.cells.length=4:=X
  rw[Zw,qq O,hl,show(i+1)*4+j-4=i*4+j by omega,Gz l i (by simpa using h) j hj]
  simp
theorem yi.of_own{c:Nat}(h:w.ownsRow base 60 4 (S a vs.length c) vs.length (df vs)):yi w a vs:=fun j hj=>by
 obtain⟨a',c',e,hf⟩:=uV h;obtain⟨g,rfl⟩:=hf O;injection e with e1 _ _;subst e1;have q:=h.cells (g:=g) X;refine⟨g,X,?_,?_,?_,?_⟩;·have:=q (j*4) (I J (vs.getD j xi).kind) (by rw[show j*4=j*4+0 by omega,Gz vs j hj 0 Dc];rfl);rwa[um]at this
 ·have:=q (j*4+1) (Y (vs.getD j xi).text) (by rw[Gz vs j hj 1 Dc];rfl);rwa[um]at this
 ·have:=q (j*4+2) (I J (vs.getD j xi).alt) (by rw[Gz vs j hj 2 Dc];rfl);rwa[um]at this
 have:=q (j*4+3) (I J (vs.getD j xi).kids) (by rw[Gz vs j hj 3 Dc];rfl);rwa[um]at this
theorem yi.below(h:yi w a vs)(hb:Bw w w'):yi w' a vs:=fun j hj=>by obtain⟨g,e,h1,h2,h3,h4⟩:=h j hj;exact⟨g,e,Cb hb h1,Cb hb h2,Cb hb h3,Cb hb h4⟩
theorem aif(vs:Ls Vl)(a1 a2:Oo Ad)(c1 c2:Nat)(w:M)(h1:yi w a1 vs)(h2:yi w a2 vs)(hn:vs.length<=140737488351232):Cs prog 41 #[S a1 vs.length c1,S a2 vs.length c2] w fun e w'=>dw True w e w':=by
 have H1:=di h1;have H2:=di h2;clear h1 h2;go_enter func41,ntmps41;go_wp2;go_loopw [5] (fun i wr=>∃k:Nat,k<=vs.length/\i=I J k/\∃q,wr=w.drewN q) (fun i _=>vs.length-(Io i).toNat);case atStart=>exact⟨0,Lz,X,0,X⟩
 obtain⟨k,hk,rfl,q,rfl⟩:=hrel;by_cases aA:k<vs.length;·obtain⟨g1,e1,x1,x2,x3,x4⟩:=H1 k aA;obtain⟨g2,e2,y1,y2,y3,y4⟩:=H2 k aA;subst e1 e2;have aN:(k:Int)<vs.length:=O;generalize vs.getD k xi=x at x1 x2 x3 x4 y1 y2 y3 y4;go_wp2;go_quiet (fail);go_wp2;go_roundw;(case rel=>exact⟨k+1,O,Gn,_,X⟩);exact Ms
 have aN:(vs.length:Int)<=k:=O;go_wp2;go_ret;exact ia trivial (Go.below_drewN By _)
def Ii:Vv:=Ag #[I J 0,Y ⟨#[]⟩,I J 0,I J 0]
theorem abt:(prog.info? 60).map (fun i=>(i.zero,i.size,i.bytes))=U (U Ii,4,40):=Kr
theorem abu:(prog.info? 39).map (fun i=>(i.zero,i.size,i.bytes))=U (U (S Z 0 0),1,24):=Kr
theorem abm:(prog.info? 3).map (fun i=>(i.zero,i.size,i.bytes))=U (U (I J 0),1,8):=Kr
structure sx(W w0 w:M)(B:Nat)(L:Ls (Vv×Nat×Int))(vv vm:Vv)(m:Int):Prop where
 bel:Bw W w
 lo:W.heap.size<=B
 s0:W.heap.size<=w0.heap.size
 s1:w0.heap.size<=w.heap.size
 row:w.heap[B]? =U (C #[vv,vm,S Z 0 0,S Z 0 0,I J m] 35 (0,0))
 ov:w.ownsRow W.heap.size 39 1 vv L.length (L.map (·.1))
 om:w.ownsRow W.heap.size 3 1 vm L.length (L.map fun x=>I J x.2.2)
 full:∀x∈L,ir w x.1 x.2.1 x.2.2/\∀g,x.1.ownBlock=U g->g<w0.heap.size
theorem sx.of{L:Ls (Vv×Nat×Int)}(h:Dz W w0 B L nx)(hb:Bw w0 w)(m:Int):∃vv vm,sx W w0 (w.setCell (D B 4 Z) (I J m)) B L vv vm m/\w.heap[B]? =U (C #[vv,vm,S Z 0 0,S Z 0 0,I J nx] 35 (0,0)):=by
 have hw:=h.below hb;obtain⟨vv,vm,h1,h2,h3⟩:=hw.row;refine⟨vv,vm,⟨hw.bel.setCell (p:=D B 4 Z) h.lo _,h.lo,h.bel.size,?_,iw w B 4 _ _ _ h1,?_,?_,fun x hx=>⟨?_,fun g hg=>(h.full x hx).lt hg⟩⟩,h1⟩;·simpa [World.setCell]using hb.size
 ·exact dk h2 (fg h1 h2 Dc) _
 ·exact dk h3 (fg h1 h3 Dc) _
 refine(hw.full x hx).keep fun g o hv hg=>?_;rw[ez _ _ _ _ (fun e=>?_)];·exact hg
 subst e;rcases hw.full x hx with⟨q,_⟩|⟨g',_,aB,q,_,q2,_⟩;·rw[q]at hv;cases hv
 rw[q]at hv;injection hv with hv;subst hv;rw[h1]at q2;injection q2 with q2;injection q2 with _ q2;exact Ab q2 Dc
theorem sx.kp{L:Ls (Vv×Nat×Int)}(h:sx W w0 w B L vv vm m)(ho:w.ownsRow w0.heap.size 60 4 v n xs)(hk:Kp w w' m v.ownBlock):sx W w0 w' B L vv vm m where
 bel:=hk.below h.bel h.bel.size (fun g hg=>fw h.s0 (ho.lt g hg).1)
 lo:=h.lo
 s0:=h.s0
 s1:=fw h.s1 hk.gr.size
 row:=hk.block h.row (fg h.row ho Dc)
 ov:=hk.row ho h.ov Dc
 om:=hk.row ho h.om Dc
 full:=fun x hx=>⟨hk.other (h.full x hx).1 (fun g hg e=>by have:=(h.full x hx).2 g hg;have:=(ho.lt g e).1;omega),(h.full x hx).2⟩
theorem sx.below{L:Ls (Vv×Nat×Int)}(h:sx W w0 w B L vv vm m)(hb:Bw w w'):sx W w0 w' B L vv vm m where
 bel:=Tm h.bel hb
 lo:=h.lo
 s0:=h.s0
 s1:=fw h.s1 hb.size
 row:=bc h.row hb
 ov:=fm h.ov hb
 om:=fm h.om hb
 full:=fun x hx=>⟨(h.full x hx).1.below hb,(h.full x hx).2⟩
theorem Kp.store(m:Int)(hg:w.heap[g]? =U (C aB 60 (0,0))):Kp w ((((w.setCell (D g (k*4) Z) (I J m)).setCell (D g (k*4+1) Z) (Y ⟨#[]⟩)).setCell (D g (k*4+2) Z) (I J m)).setCell (D g (k*4+3) Z) (I J 0)) m (U g)/\((((w.setCell (D g (k*4) Z) (I J m)).setCell (D g (k*4+1) Z) (Y ⟨#[]⟩)).setCell (D g (k*4+2) Z) (I J m)).setCell (D g (k*4+3) Z) (I J 0)).heap[g]? =U (C ((((aB.setIfInBounds (k*4) (I J m)).setIfInBounds (k*4+1) (Y ⟨#[]⟩)).setIfInBounds (k*4+2) (I J m)).setIfInBounds (k*4+3) (I J 0)) 60 (0,0)):=by
 have e:=iw _ g (k*4+3) _ _ (I J 0) (iw _ g (k*4+2) _ _ (I J m) (iw _ g (k*4+1) _ _ (Y ⟨#[]⟩) (iw w g (k*4) _ _ (I J m) hg)));have hb:=((((cm 0 w).setCell (p:=D g (k*4) Z) Lz (I J m)).setCell (p:=D g (k*4+1) Z) Lz (Y ⟨#[]⟩)).setCell (p:=D g (k*4+2) Z) Lz (I J m)).setCell (p:=D g (k*4+3) Z) Lz (I J 0);refine⟨⟨⟨hb.os,hb.tape,hb.output,hb.size,fun j _ hj=>?_⟩,fun g' gF bV hc=>?_⟩,e⟩;·have aI:j≠g:=fun q=>hj (by rw[q]);rw[ez _ _ _ _ aI,ez _ _ _ _ aI,ez _ _ _ _ aI,ez _ _ _ _ aI]
 injection bV with bV;subst bV;obtain rfl:aB=gF:=by rw[hg]at hc;injection hc with q;injection q
 refine⟨_,e,Sq,fun p=>?_⟩;have hm:∀i,i<4->sm m (k*4+i)=(Bg m).getD i .nilIface:=fun i hi=>by rw[Ji];unfold sm;rw[Er hi]
 simp only[uG,Lh];by_cases q3:k*4+3=p
 ·subst q3;rw[ba rfl];split;·right;rw[hm 3 Dc];rfl
  left;rw[lu O]
 rw[G q3];by_cases q2:k*4+2=p
 ·subst q2;rw[ba rfl];split;·right;rw[hm 2 Dc];rfl
  left;rw[lu O]
 rw[G q2];by_cases q1:k*4+1=p
 ·subst q1;rw[ba rfl];split;·right;rw[hm 1 Dc];rfl
  left;rw[lu O]
 rw[G q1];by_cases q0:k*4=p
 ·subst q0;rw[ba rfl];split;·right;have:=hm 0 Dc;rw[zp]at this;rw[this];rfl
  left;rw[lu O]
 rw[G q0];exact .inl X
def En(w:M)(v:Vv)(k:Nat)(m:Int):Prop:=∀g aB,v.ownBlock=U g->w.heap[g]? =U (C aB 60 (0,0))->∀p,p<k*4->aB[p]? =U (sm m p)
theorem En.store(h:En w v k m)(hv:v.ownBlock=U g)(hg:w.heap[g]? =U (C aB 60 (0,0)))(hs:k*4+3<aB.size):En ((((w.setCell (D g (k*4) Z) (I J m)).setCell (D g (k*4+1) Z) (Y ⟨#[]⟩)).setCell (D g (k*4+2) Z) (I J m)).setCell (D g (k*4+3) Z) (I J 0)) v (k+1) m:=fun g' gF E8 hc p hp=>by
 obtain rfl:g=g':=dd (hv.symm.trans E8);rw[(Kp.store m hg).2]at hc;injection hc with hc;injection hc with hc _ _;subst hc;have hm:∀i,i<4->sm m (k*4+i)=(Bg m).getD i .nilIface:=fun i hi=>by rw[Ji];unfold sm;rw[Er hi]
 simp only[uG,Lh];by_cases q3:k*4+3=p;·subst q3;rw[ba X,ba hs,hm 3 Dc];rfl
 by_cases q2:k*4+2=p;·subst q2;rw[G q3,ba X,ba O,hm 2 Dc];rfl
 by_cases q1:k*4+1=p;·subst q1;rw[G q3,G q2,ba X,ba O,hm 1 Dc];rfl
 by_cases q0:k*4=p;·subst q0;rw[G q3,G q2,G q1,ba X,ba O];have:=hm 0 Dc;rw[zp]at this;rw[this];rfl
 rw[G q3,G q2,G q1,G q0];exact h g aB hv hg p O
theorem ahg(ho:w.ownsRow base 60 4 v n xs)(hk:Kp w w' m v.ownBlock)(hm:En w' v n m):w'.ownsRow base 60 4 v n (mkRow m n):=by
 refine⟨Jk m n,?_⟩;rcases ho.2 with q|⟨g,cap,aB,rfl,hb,hg,h1,h2,h3,h4⟩;·exact .inl q
 obtain⟨gF,q1,q2,q3⟩:=hk.own g aB X hg;refine .inr ⟨g,cap,gF,X,hb,q1,h1,h2,O,?_⟩;refine Rl fun p=>?_;by_cases hp:p<n*4;·rw[sh hp,Jj m n p hp];simpa using hm g gF X q1 p hp
 have:n*4<=cap*4:=Cl _ h1;rw[xz So,xz (by rw[Jk];omega)]
theorem ir.grown(h:ir w v n m)(ho:w.ownsRow base e size u k xs)(hT:60≠e)(hg:w.grownBy w' u.ownBlock):ir w' v n m:=by
 rcases h with q|⟨g,cap,aB,rfl,h1,h2,h3⟩;·exact .inl q
 exact .inr ⟨g,cap,aB,X,h1,(hg.block g (eb h2) (fun q=>fg h2 ho hT q.symm)).trans h2,h3⟩
theorem ir.set(h:ir w v n m)(hB:w.heap[B]? =U (C A T (0,0)))(hT:T≠60)(i:Nat)(u:Vv):ir (w.setCell (D B i Z) u) v n m:=by
 rcases h with q|⟨g,cap,aB,rfl,h1,h2,h3⟩;·exact .inl q
 refine .inr ⟨g,cap,aB,X,h1,?_,h3⟩;rw[ez _ _ _ _ (fun e=>?_)];·exact h2
 subst e;rw[hB]at h2;injection h2 with q;injection q with _ q _;exact hT q
theorem sx.app{L:Ls (Vv×Nat×Int)}(h:sx W w0 w B L vv vm m)(ho:w.ownsRow w0.heap.size 60 4 v n (mkRow m n))(h1:w'.ownsRow w0.heap.size 60 4 u (n+k) (mkRow m n++mkRow m k))(h2:(w.alloc o).grownBy w' v.ownBlock)(h3:vu (w.alloc o) w' 60 v (n*4) (mkRow m k)):sx W w0 w' B L vv vm m/\w'.ownsRow w0.heap.size 60 4 v n (mkRow m n)/\ir w' u (n+k) m/\Kp w w' m v.ownBlock:=by
 have hk:Kp w w' m v.ownBlock:=((Kp.refl w m v.ownBlock).alloc o).trans (Kp.append h2 h3);refine⟨h.kp ho hk,h3.own (ho.alloc o),ir.of_own (base:=w0.heap.size) ?_,hk⟩;rw[Pb]at h1;exact h1
structure Co(W w:M)(B:Nat)(L LL:Ls (Vv×Nat×Int))(vv vm:Vv)(m:Int):Prop where
 bel:Bw W w
 lo:W.heap.size<=B
 row:w.heap[B]? =U (C #[vv,vm,S Z 0 0,S Z 0 0,I J m] 35 (0,0))
 ov:w.ownsRow W.heap.size 39 1 vv LL.length (LL.map (·.1))
 om:w.ownsRow W.heap.size 3 1 vm L.length (L.map fun x=>I J x.2.2)
 full:∀x∈LL,ir w x.1 x.2.1 x.2.2
theorem Ya(h1:w.ownsRow b1 e1 s1 v1 n1 x1)(h2:w.ownsRow b2 e2 s2 v2 n2 x2)(hT:e2≠e1)(hg:w.grownBy w' v1.ownBlock):w'.ownsRow b2 e2 s2 v2 n2 x2:=by
 refine⟨h2.1,?_⟩;rcases h2.2 with q|⟨g,cap,aB,rfl,hb,hc,r⟩;·exact .inl q
 exact .inr ⟨g,cap,aB,X,hb,(hg.block g (eb hc) (fun q=>fg hc h1 hT q.symm)).trans hc,r⟩
theorem sx.put{L LL:Ls (Vv×Nat×Int)}(h:sx W w0 w B L vv vm m)(hF:∀x∈LL,ir w x.1 x.2.1 x.2.2)(h1:w'.ownsRow W.heap.size 39 1 vv' LL.length (LL.map (·.1)))(h2:(w.alloc o).grownBy w' vv.ownBlock):w'.cell? (D B 0 Z)=U vv/\w'.frozen? (D B 0 Z)=false/\Co W (w'.setCell (D B 0 Z) vv') B L LL vv' vm m:=by
 have ha:Bw w (w.alloc o):=Be;have h':=h.below ha;have hB:=(h2.block B (eb h'.row) (fun q=>fg h'.row h'.ov Dc q.symm)).trans h'.row;have hm:=Ya h'.ov h'.om Dc h2;refine⟨by simp[Wc,hB],by simp[Wf,hB],?_,h.lo,iw w' B 0 _ _ _ hB,?_,?_,fun x hx=>?_⟩;·exact(h'.bel.grown h2 h'.bel.size (fun g hg=>(h'.ov.lt g hg).1)).setCell (p:=D B 0 Z) h.lo _
 ·exact dk h1 (fg hB h1 Dc) _
 ·exact dk hm (fg hB hm Dc) _
 exact(((hF x hx).below ha).grown h'.ov Dc h2).set hB Dc _ _
theorem Co.below{L LL:Ls (Vv×Nat×Int)}(h:Co W w B L LL vv vm m)(hb:Bw w w'):Co W w' B L LL vv vm m:=
 ⟨Tm h.bel hb,h.lo,bc h.row hb,fm h.ov hb,fm h.om hb,fun x hx=>(h.full x hx).below hb⟩
theorem Co.put{L LL:Ls (Vv×Nat×Int)}(h:Co W w B L LL vv vm m)(hx:Bw w wx)(h1:w'.ownsRow W.heap.size 3 1 vm' LL.length (LL.map fun x=>I J x.2.2))(h2:wx.grownBy w' vm.ownBlock):w'.cell? (D B 1 Z)=U vm/\w'.frozen? (D B 1 Z)=false/\Dz W (w'.setCell (D B 1 Z) vm') B LL m:=by
 have h':=h.below hx;have hB:=(h2.block B (eb h'.row) (fun q=>fg h'.row h'.om Dc q.symm)).trans h'.row;have hv:=Ya h'.om h'.ov Dc h2;refine⟨by simp[Wc,hB],by simp[Wf,hB],?_,h.lo,⟨vv,vm',iw w' B 1 _ _ _ hB,?_,?_⟩,fun x hx=>?_⟩;·exact(h'.bel.grown h2 h'.bel.size (fun g hg=>(h'.om.lt g hg).1)).setCell (p:=D B 1 Z) h.lo _
 ·exact dk hv (fg hB hv Dc) _
 ·exact dk h1 (fg hB h1 Dc) _
 exact((h'.full x hx).grown h'.om Dc h2).set hB Dc _ _
end
section
open Go.RowKit
theorem ik.store(m:Q)(hg:w.heap[g]? =U (C aB 73 (0,0))):ik w (((w.setCell (D g (k*3) Z) (Y m)).setCell (D g (k*3+1) Z) (Bo false)).setCell (D g (k*3+2) Z) (Y m)) m (U g)/\(((w.setCell (D g (k*3) Z) (Y m)).setCell (D g (k*3+1) Z) (Bo false)).setCell (D g (k*3+2) Z) (Y m)).heap[g]? =U (C (((aB.setIfInBounds (k*3) (Y m)).setIfInBounds (k*3+1) (Bo false)).setIfInBounds (k*3+2) (Y m)) 73 (0,0)):=by
 have e:=iw _ g (k*3+2) _ _ (Y m) (iw _ g (k*3+1) _ _ (Bo false) (iw w g (k*3) _ _ (Y m) hg));have hb:=(((cm 0 w).setCell (p:=D g (k*3) Z) Lz (Y m)).setCell (p:=D g (k*3+1) Z) Lz (Bo false)).setCell (p:=D g (k*3+2) Z) Lz (Y m);refine⟨⟨⟨hb.os,hb.tape,hb.output,hb.size,fun j _ hj=>?_⟩,fun g' gF bV hc=>?_⟩,e⟩;·have aI:j≠g:=fun q=>hj (by rw[q]);rw[ez _ _ _ _ aI,ez _ _ _ _ aI,ez _ _ _ _ aI]
 injection bV with bV;subst bV;obtain rfl:aB=gF:=by rw[hg]at hc;injection hc with q;injection q
 refine⟨_,e,Sq,fun p=>?_⟩;have hm:∀i,i<3->so m (k*3+i)=(Bh m).getD i .nilIface:=fun i hi=>by rw[Jl];unfold so;rw[Er hi]
 simp only[uG,Lh];by_cases q2:k*3+2=p
 ·subst q2;rw[ba rfl];split;·right;rw[hm 2 Dc];rfl
  left;rw[lu O]
 rw[G q2];by_cases q1:k*3+1=p
 ·subst q1;rw[ba rfl];split;·right;rw[hm 1 Dc];rfl
  left;rw[lu O]
 rw[G q1];by_cases q0:k*3=p
 ·subst q0;rw[ba rfl];split;·right;have:=hm 0 Dc;rw[zp]at this;rw[this];rfl
  left;rw[lu O]
 rw[G q0];exact .inl X
def Eo(w:M)(v:Vv)(k:Nat)(m:Q):Prop:=∀g aB,v.ownBlock=U g->w.heap[g]? =U (C aB 73 (0,0))->∀p,p<k*3->aB[p]? =U (so m p)
theorem Eo.store{m:Q}(h:Eo w v k m)(hv:v.ownBlock=U g)(hg:w.heap[g]? =U (C aB 73 (0,0)))(hs:k*3+2<aB.size):Eo (((w.setCell (D g (k*3) Z) (Y m)).setCell (D g (k*3+1) Z) (Bo false)).setCell (D g (k*3+2) Z) (Y m)) v (k+1) m:=fun g' gF E8 hc p hp=>by
 obtain rfl:g=g':=dd (hv.symm.trans E8);rw[(ik.store m hg).2]at hc;injection hc with hc;injection hc with hc _ _;subst hc;have hm:∀i,i<3->so m (k*3+i)=(Bh m).getD i .nilIface:=fun i hi=>by rw[Jl];unfold so;rw[Er hi]
 simp only[uG,Lh];by_cases q2:k*3+2=p;·subst q2;rw[ba X,ba hs,hm 2 Dc];rfl
 by_cases q1:k*3+1=p;·subst q1;rw[G q2,ba X,ba O,hm 1 Dc];rfl
 by_cases q0:k*3=p;·subst q0;rw[G q2,G q1,ba X,ba O];have:=hm 0 Dc;rw[zp]at this;rw[this];rfl
 rw[G q2,G q1,G q0];exact h g aB hv hg p O
theorem ahh{m:Q}(ho:w.ownsRow base 73 3 v n xs)(hk:ik w w' m v.ownBlock)(hm:Eo w' v n m):w'.ownsRow base 73 3 v n (mmRow m n):=by
 refine⟨Jn m n,?_⟩;rcases ho.2 with q|⟨g,cap,aB,rfl,hb,hg,h1,h2,h3,h4⟩;·exact .inl q
 obtain⟨gF,q1,q2,q3⟩:=hk.own g aB X hg;refine .inr ⟨g,cap,gF,X,hb,q1,h1,h2,O,?_⟩;refine Rl fun p=>?_;by_cases hp:p<n*3;·rw[sh hp,Jm m n p hp];simpa using hm g gF X q1 p hp
 have:n*3<=cap*3:=Cl _ h1;rw[xz So,xz (by rw[Jn];omega)]
theorem ju.grown{m:Q}(h:ju w v n m)(ho:w.ownsRow base e size u k xs)(hT:73≠e)(hg:w.grownBy w' u.ownBlock):ju w' v n m:=by
 rcases h with q|⟨g,cap,aB,rfl,h1,h2,h3⟩;·exact .inl q
 exact .inr ⟨g,cap,aB,X,h1,(hg.block g (eb h2) (fun q=>fg h2 ho hT q.symm)).trans h2,h3⟩
theorem ju.set{m:Q}(h:ju w v n m)(hB:w.heap[B]? =U (C A T (0,0)))(hT:T≠73)(i:Nat)(u:Vv):ju (w.setCell (D B i Z) u) v n m:=by
 rcases h with q|⟨g,cap,aB,rfl,h1,h2,h3⟩;·exact .inl q
 refine .inr ⟨g,cap,aB,X,h1,?_,h3⟩;rw[ez _ _ _ _ (fun e=>?_)];·exact h2
 subst e;rw[hB]at h2;injection h2 with q;injection q with _ q _;exact hT q
structure mq(W w0 w:M)(B:Nat)(L:Ls (Vv×Nat×Int))(an:Ls (Vv×Nat×Q))(vv vm mv mm:Vv)(nx:Int):Prop where
 bel:Bw W w
 lo:W.heap.size<=B
 s0:W.heap.size<=w0.heap.size
 s1:w0.heap.size<=w.heap.size
 row:w.heap[B]? =U (C #[vv,vm,mv,mm,I J nx] 35 (0,0))
 ov:w.ownsRow W.heap.size 39 1 vv L.length (L.map (·.1))
 om:w.ownsRow W.heap.size 3 1 vm L.length (L.map fun x=>I J x.2.2)
 pv:w.ownsRow W.heap.size 66 1 mv an.length (an.map (·.1))
 pm:w.ownsRow W.heap.size 9 1 mm an.length (an.map fun x=>Y x.2.2)
 full:∀x∈L,ir w x.1 x.2.1 x.2.2/\∀g,x.1.ownBlock=U g->g<w0.heap.size
 fullM:∀x∈an,ju w x.1 x.2.1 x.2.2/\∀g,x.1.ownBlock=U g->g<w0.heap.size
theorem mq.of{L:Ls (Vv×Nat×Int)}{an:Ls (Vv×Nat×Q)}(h:oz W w0 B L an nx)(hb:Bw w0 w)(n:Int):∃vv vm mv mm,mq W w0 (w.setCell (D B 4 Z) (I J n)) B L an vv vm mv mm n/\w.heap[B]? =U (C #[vv,vm,mv,mm,I J nx] 35 (0,0)):=by
 have hw:=h.below hb;obtain⟨vv,vm,mv,mm,h1,h2,h3,h4,h5⟩:=hw.row;refine⟨vv,vm,mv,mm,⟨hw.bel.setCell (p:=D B 4 Z) h.lo _,h.lo,h.bel.size,?_,iw w B 4 _ _ _ h1,?_,?_,?_,?_,fun x hx=>⟨(hw.full x hx).set h1 Dc _ _,fun g hg=>(h.full x hx).lt hg⟩,fun x hx=>⟨(hw.fullM x hx).set h1 Dc _ _,fun g hg=>(h.fullM x hx).lt hg⟩⟩,h1⟩;·simpa [World.setCell]using hb.size
 ·exact dk h2 (fg h1 h2 Dc) _
 ·exact dk h3 (fg h1 h3 Dc) _
 ·exact dk h4 (fg h1 h4 Dc) _
 exact dk h5 (fg h1 h5 Dc) _
theorem mq.kp{L:Ls (Vv×Nat×Int)}{an:Ls (Vv×Nat×Q)}{m:Q}(h:mq W w0 w B L an vv vm mv mm nx)(ho:w.ownsRow w0.heap.size 73 3 v n xs)(hk:ik w w' m v.ownBlock):mq W w0 w' B L an vv vm mv mm nx where
 bel:=hk.below h.bel h.bel.size (fun g hg=>fw h.s0 (ho.lt g hg).1)
 lo:=h.lo
 s0:=h.s0
 s1:=fw h.s1 hk.gr.size
 row:=hk.block h.row (fg h.row ho Dc)
 ov:=hk.row ho h.ov Dc
 om:=hk.row ho h.om Dc
 pv:=hk.row ho h.pv Dc
 pm:=hk.row ho h.pm Dc
 full:=fun x hx=>⟨hk.fullV ho (h.full x hx).1,(h.full x hx).2⟩
 fullM:=fun x hx=>⟨hk.other (h.fullM x hx).1 (fun g hg e=>by have:=(h.fullM x hx).2 g hg;have:=(ho.lt g e).1;omega),(h.fullM x hx).2⟩
theorem mq.below{L:Ls (Vv×Nat×Int)}{an:Ls (Vv×Nat×Q)}(h:mq W w0 w B L an vv vm mv mm nx)(hb:Bw w w'):mq W w0 w' B L an vv vm mv mm nx where
 bel:=Tm h.bel hb
 lo:=h.lo
 s0:=h.s0
 s1:=fw h.s1 hb.size
 row:=bc h.row hb
 ov:=fm h.ov hb
 om:=fm h.om hb
 pv:=fm h.pv hb
 pm:=fm h.pm hb
 full:=fun x hx=>⟨(h.full x hx).1.below hb,(h.full x hx).2⟩
 fullM:=fun x hx=>⟨(h.fullM x hx).1.below hb,(h.fullM x hx).2⟩
theorem mq.app{L:Ls (Vv×Nat×Int)}{an:Ls (Vv×Nat×Q)}{m:Q}(h:mq W w0 w B L an vv vm mv mm nx)(ho:w.ownsRow w0.heap.size 73 3 v n (mmRow m n))(h1:w'.ownsRow w0.heap.size 73 3 u (n+k) (mmRow m n++mmRow m k))(h2:(w.alloc o).grownBy w' v.ownBlock)(h3:vu (w.alloc o) w' 73 v (n*3) (mmRow m k)):mq W w0 w' B L an vv vm mv mm nx/\w'.ownsRow w0.heap.size 73 3 v n (mmRow m n)/\ju w' u (n+k) m/\ik w w' m v.ownBlock:=by
 have hk:ik w w' m v.ownBlock:=((ik.refl w m v.ownBlock).alloc o).trans (ik.append h2 h3);refine⟨h.kp ho hk,h3.own (ho.alloc o),ju.of_own (base:=w0.heap.size) ?_,hk⟩;rw[Xf]at h1;exact h1
structure Cn(W w:M)(B:Nat)(L:Ls (Vv×Nat×Int))(an MM:Ls (Vv×Nat×Q))(vv vm mv mm:Vv)(nx:Int):Prop where
 bel:Bw W w
 lo:W.heap.size<=B
 row:w.heap[B]? =U (C #[vv,vm,mv,mm,I J nx] 35 (0,0))
 ov:w.ownsRow W.heap.size 39 1 vv L.length (L.map (·.1))
 om:w.ownsRow W.heap.size 3 1 vm L.length (L.map fun x=>I J x.2.2)
 pv:w.ownsRow W.heap.size 66 1 mv MM.length (MM.map (·.1))
 pm:w.ownsRow W.heap.size 9 1 mm an.length (an.map fun x=>Y x.2.2)
 full:∀x∈L,ir w x.1 x.2.1 x.2.2
 fullM:∀x∈MM,ju w x.1 x.2.1 x.2.2
theorem uB(h1:w.ownsRow b1 e1 s1 v1 n1 x1)(h2:w.ownsRow b2 e2 s2 v2 n2 x2)(hT:e2≠e1)(hg:w.grownBy w' v1.ownBlock):w'.ownsRow b2 e2 s2 v2 n2 x2:=by
 refine⟨h2.1,?_⟩;rcases h2.2 with q|⟨g,cap,aB,rfl,hb,hc,r⟩;·exact .inl q
 exact .inr ⟨g,cap,aB,X,hb,(hg.block g (eb hc) (fun q=>fg hc h1 hT q.symm)).trans hc,r⟩
theorem mq.put{L:Ls (Vv×Nat×Int)}{an MM:Ls (Vv×Nat×Q)}{mv':Vv}(h:mq W w0 w B L an vv vm mv mm nx)(hF:∀x∈MM,ju w x.1 x.2.1 x.2.2)(h1:w'.ownsRow W.heap.size 66 1 mv' MM.length (MM.map (·.1)))(h2:(w.alloc o).grownBy w' mv.ownBlock):w'.cell? (D B 2 Z)=U mv/\w'.frozen? (D B 2 Z)=false/\Cn W (w'.setCell (D B 2 Z) mv') B L an MM vv vm mv' mm nx:=by
 have ha:Bw w (w.alloc o):=Be;have h':=h.below ha;have hB:=(h2.block B (eb h'.row) (fun q=>fg h'.row h'.pv Dc q.symm)).trans h'.row;have q1:=uB h'.pv h'.ov Dc h2;have q2:=uB h'.pv h'.om Dc h2;have q3:=uB h'.pv h'.pm Dc h2;refine⟨by simp[Wc,hB],by simp[Wf,hB],?_,h.lo,iw w' B 2 _ _ _ hB,?_,?_,?_,?_,fun x hx=>?_,fun x hx=>?_⟩;·exact(h'.bel.grown h2 h'.bel.size (fun g hg=>(h'.pv.lt g hg).1)).setCell (p:=D B 2 Z) h.lo _
 ·exact dk q1 (fg hB q1 Dc) _
 ·exact dk q2 (fg hB q2 Dc) _
 ·exact dk h1 (fg hB h1 Dc) _
 ·exact dk q3 (fg hB q3 Dc) _
 ·exact((h'.full x hx).1.grown h'.pv Dc h2).set hB Dc _ _
 exact(((hF x hx).below ha).grown h'.pv Dc h2).set hB Dc _ _
theorem Cn.below{L:Ls (Vv×Nat×Int)}{an MM:Ls (Vv×Nat×Q)}(h:Cn W w B L an MM vv vm mv mm nx)(hb:Bw w w'):Cn W w' B L an MM vv vm mv mm nx:=
 ⟨Tm h.bel hb,h.lo,bc h.row hb,fm h.ov hb,fm h.om hb,fm h.pv hb,fm h.pm hb,fun x hx=>(h.full x hx).below hb,fun x hx=>(h.fullM x hx).below hb⟩
theorem Cn.put{L:Ls (Vv×Nat×Int)}{an MM:Ls (Vv×Nat×Q)}{mm':Vv}(h:Cn W w B L an MM vv vm mv mm nx)(hx:Bw w wx)(h1:w'.ownsRow W.heap.size 9 1 mm' MM.length (MM.map fun x=>Y x.2.2))(h2:wx.grownBy w' mm.ownBlock):w'.cell? (D B 3 Z)=U mm/\w'.frozen? (D B 3 Z)=false/\oz W (w'.setCell (D B 3 Z) mm') B L MM nx:=by
 have h':=h.below hx;have hB:=(h2.block B (eb h'.row) (fun q=>fg h'.row h'.pm Dc q.symm)).trans h'.row;have q1:=uB h'.pm h'.ov Dc h2;have q2:=uB h'.pm h'.om Dc h2;have q3:=uB h'.pm h'.pv Dc h2;refine⟨by simp[Wc,hB],by simp[Wf,hB],?_,h.lo,⟨vv,vm,mv,mm',iw w' B 3 _ _ _ hB,?_,?_,?_,?_⟩,fun x hx=>?_,fun x hx=>?_⟩;·exact(h'.bel.grown h2 h'.bel.size (fun g hg=>(h'.pm.lt g hg).1)).setCell (p:=D B 3 Z) h.lo _
 ·exact dk q1 (fg hB q1 Dc) _
 ·exact dk q2 (fg hB q2 Dc) _
 ·exact dk q3 (fg hB q3 Dc) _
 ·exact dk h1 (fg hB h1 Dc) _
 ·exact((h'.full x hx).grown h'.pm Dc h2).set hB Dc _ _
 exact((h'.fullM x hx).grown h'.pm Dc h2).set hB Dc _ _
end
section
open Go.Proofs.Tryz
open Go.RowKit
theorem mq.kpV{L:Ls (Vv×Nat×Int)}{an:Ls (Vv×Nat×Q)}(h:mq W w0 w B L an vv vm mv mm nx)(ho:w.ownsRow w0.heap.size 60 4 v n xs)(hk:Kp w w' m v.ownBlock):mq W w0 w' B L an vv vm mv mm nx where
 bel:=hk.below h.bel h.bel.size (fun g hg=>fw h.s0 (ho.lt g hg).1)
 lo:=h.lo
 s0:=h.s0
 s1:=fw h.s1 hk.gr.size
 row:=hk.block h.row (fg h.row ho Dc)
 ov:=hk.row ho h.ov Dc
 om:=hk.row ho h.om Dc
 pv:=hk.row ho h.pv Dc
 pm:=hk.row ho h.pm Dc
 full:=fun x hx=>⟨hk.other (h.full x hx).1 (fun g hg e=>by have:=(h.full x hx).2 g hg;have:=(ho.lt g e).1;omega),(h.full x hx).2⟩
 fullM:=fun x hx=>⟨(h.fullM x hx).1.keep fun g _ hv hg=>hk.block hg (fun e=>by have:=(h.fullM x hx).2 g hv;have:=(ho.lt g e).1;omega),(h.fullM x hx).2⟩
theorem mq.appV{L:Ls (Vv×Nat×Int)}{an:Ls (Vv×Nat×Q)}(h:mq W w0 w B L an vv vm mv mm nx)(ho:w.ownsRow w0.heap.size 60 4 v n (mkRow m n))(h1:w'.ownsRow w0.heap.size 60 4 u (n+k) (mkRow m n++mkRow m k))(h2:(w.alloc o).grownBy w' v.ownBlock)(h3:vu (w.alloc o) w' 60 v (n*4) (mkRow m k)):mq W w0 w' B L an vv vm mv mm nx/\w'.ownsRow w0.heap.size 60 4 v n (mkRow m n)/\ir w' u (n+k) m/\Kp w w' m v.ownBlock:=by
 have hk:Kp w w' m v.ownBlock:=((Kp.refl w m v.ownBlock).alloc o).trans (Kp.append h2 h3);refine⟨h.kpV ho hk,h3.own (ho.alloc o),ir.of_own (base:=w0.heap.size) ?_,hk⟩;rw[Pb]at h1;exact h1
structure Cp(W w:M)(B:Nat)(L LL:Ls (Vv×Nat×Int))(an:Ls (Vv×Nat×Q))(vv vm mv mm:Vv)(nx:Int):Prop where
 bel:Bw W w
 lo:W.heap.size<=B
 row:w.heap[B]? =U (C #[vv,vm,mv,mm,I J nx] 35 (0,0))
 ov:w.ownsRow W.heap.size 39 1 vv LL.length (LL.map (·.1))
 om:w.ownsRow W.heap.size 3 1 vm L.length (L.map fun x=>I J x.2.2)
 pv:w.ownsRow W.heap.size 66 1 mv an.length (an.map (·.1))
 pm:w.ownsRow W.heap.size 9 1 mm an.length (an.map fun x=>Y x.2.2)
 full:∀x∈LL,ir w x.1 x.2.1 x.2.2
 fullM:∀x∈an,ju w x.1 x.2.1 x.2.2
theorem mq.putV{L LL:Ls (Vv×Nat×Int)}{an:Ls (Vv×Nat×Q)}(h:mq W w0 w B L an vv vm mv mm nx)(hF:∀x∈LL,ir w x.1 x.2.1 x.2.2)(h1:w'.ownsRow W.heap.size 39 1 vv' LL.length (LL.map (·.1)))(h2:(w.alloc o).grownBy w' vv.ownBlock):w'.cell? (D B 0 Z)=U vv/\w'.frozen? (D B 0 Z)=false/\Cp W (w'.setCell (D B 0 Z) vv') B L LL an vv' vm mv mm nx:=by
 have ha:Bw w (w.alloc o):=Be;have h':=h.below ha;have hB:=(h2.block B (eb h'.row) (fun q=>fg h'.row h'.ov Dc q.symm)).trans h'.row;have q1:=uB h'.ov h'.om Dc h2;have q2:=uB h'.ov h'.pv Dc h2;have q3:=uB h'.ov h'.pm Dc h2;refine⟨by simp[Wc,hB],by simp[Wf,hB],?_,h.lo,iw w' B 0 _ _ _ hB,?_,?_,?_,?_,fun x hx=>?_,fun x hx=>?_⟩;·exact(h'.bel.grown h2 h'.bel.size (fun g hg=>(h'.ov.lt g hg).1)).setCell (p:=D B 0 Z) h.lo _
 ·exact dk h1 (fg hB h1 Dc) _
 ·exact dk q1 (fg hB q1 Dc) _
 ·exact dk q2 (fg hB q2 Dc) _
 ·exact dk q3 (fg hB q3 Dc) _
 ·exact(((hF x hx).below ha).grown h'.ov Dc h2).set hB Dc _ _
 exact((h'.fullM x hx).1.grown h'.ov Dc h2).set hB Dc _ _
theorem Cp.below{L LL:Ls (Vv×Nat×Int)}{an:Ls (Vv×Nat×Q)}(h:Cp W w B L LL an vv vm mv mm nx)(hb:Bw w w'):Cp W w' B L LL an vv vm mv mm nx:=
 ⟨Tm h.bel hb,h.lo,bc h.row hb,fm h.ov hb,fm h.om hb,fm h.pv hb,fm h.pm hb,fun x hx=>(h.full x hx).below hb,fun x hx=>(h.fullM x hx).below hb⟩
theorem Cp.put{L LL:Ls (Vv×Nat×Int)}{an:Ls (Vv×Nat×Q)}(h:Cp W w B L LL an vv vm mv mm nx)(hx:Bw w wx)(h1:w'.ownsRow W.heap.size 3 1 vm' LL.length (LL.map fun x=>I J x.2.2))(h2:wx.grownBy w' vm.ownBlock):w'.cell? (D B 1 Z)=U vm/\w'.frozen? (D B 1 Z)=false/\oz W (w'.setCell (D B 1 Z) vm') B LL an nx:=by
 have h':=h.below hx;have hB:=(h2.block B (eb h'.row) (fun q=>fg h'.row h'.om Dc q.symm)).trans h'.row;have q1:=uB h'.om h'.ov Dc h2;have q2:=uB h'.om h'.pv Dc h2;have q3:=uB h'.om h'.pm Dc h2;refine⟨by simp[Wc,hB],by simp[Wf,hB],?_,h.lo,⟨vv,vm',mv,mm,iw w' B 1 _ _ _ hB,?_,?_,?_,?_⟩,fun x hx=>?_,fun x hx=>?_⟩;·exact(h'.bel.grown h2 h'.bel.size (fun g hg=>(h'.om.lt g hg).1)).setCell (p:=D B 1 Z) h.lo _
 ·exact dk q1 (fg hB q1 Dc) _
 ·exact dk h1 (fg hB h1 Dc) _
 ·exact dk q2 (fg hB q2 Dc) _
 ·exact dk q3 (fg hB q3 Dc) _
 ·exact((h'.full x hx).grown h'.om Dc h2).set hB Dc _ _
 exact((h'.fullM x hx).grown h'.om Dc h2).set hB Dc _ _
theorem ahm(W w0 w:M)(B:Nat)(L:Ls (Vv×Nat×Int))(an:Ls (Vv×Nat×Q))(nx:Int)(la:Oo Ad)(lc n:Nat)(xs:Ls Vv)(hI:oz W w0 B L an nx)(hb:Bw w0 w)(ho:w.ownsRow w0.heap.size 60 4 (S la n lc) n xs)(hn:n<=400000)(hL:L.length<=1099511627776)(bR: -1099511627776<=nx)(aQ:nx<=0):Cs prog 42 #[Po (U (D B 0 Z)),S la n lc] w fun e w'=>e=Rt (Tu #[])/\∃L',oz W w' B L' an (nx-1)/\L'.length=L.length+4:=by
 obtain⟨i0,dO,cU,dA,bL⟩:=mh abt;obtain⟨i1,MC,iL,R0,R1⟩:=mh abu;obtain⟨i2,wL,E6,qH,E7⟩:=mh abm;obtain⟨vv,vm,mv,mm,hO,hB⟩:=mq.of hI hb (nx-1);have c4:w.cell? (D B 4 Z)=U (I J nx):=by simp[Wc,hB]
 have f4:w.frozen? (D B 4 Z)=false:=Fz hB;have oQ:B<w.heap.size:=bp c4;have CH:(w.setCell (D B 4 Z) (I J (nx-1))).ownsRow w0.heap.size 60 4 (S la n lc) n xs:=dk ho (fg hB ho Dc) _;obtain⟨m,hm⟩:∃m,nx-1=m:=Ey;have HM:=di hm;rw[hm]at hO CH;rw[hm];clear hm;have HO:=di hO;have tF:=di CH;clear hI hb ho hB hO CH;go_enter func42,ntmps42;go_wp2_with fail;rw[HM.out];generalize w.setCell (D B 4 Z) (I J m)=w1 at HO tF ⊢;clear c4 f4 oQ;have c4:w1.cell? (D B 4 Z)=U (I J m):=by simp[Wc,HO.row]
 have oQ:B<w1.heap.size:=bp c4;go_region_held_law (fun w'=>w'.cell? (D B 4 Z)=U (I J m)) (go_keep) (fail);rename_i hHeld;clear hHeld;go_wp2;have mS:(w1.alloc (C #[I J m,Y ⟨#[]⟩,I J m,I J 0] 60)).drew.heap[w1.heap.size]? =U (C #[I J m,Y ⟨#[]⟩,I J m,I J 0] 60 (0,0)):=bl w1 _;have dW:Bw w1 (w1.alloc (C #[I J m,Y ⟨#[]⟩,I J m,I J 0] 60)).drew:=(Be).drew;have jD:∀g,(Value.slice la n lc).ownBlock=U g->g<w1.heap.size:=fun g hg=>(tF.lt g hg).2;obtain⟨xb,gL⟩:∃xb,w1.heap.size=xb:=Ey;rw[gL]at mS jD;rw[gL];generalize(w1.alloc _).drew=w2 at mS dW ⊢;have fQ:=di (HO.below dW);have xI:=di (fm tF dW);have sB:=di mS;have xN:Hi _:=fun q=>Ep _ (jD xb q);clear mS dW jD gL c4 oQ HO tF;go_loopw [5] (fun i wr=>∃k:Nat,k<=n/\i=I J k/\Kp w2 wr m (Value.slice la n lc).ownBlock/\En wr (S la n lc) k m) (fun i _=>n-(Io i).toNat);case atStart=>exact⟨0,Lz,X,Kp.refl _ _ _,fun _ _ _ _ p hp=>O⟩
 obtain⟨k,hk,rfl,hK,hM⟩:=hrel;have HK:=di hK;have pL:=di hM;have pX:=hK.block sB xN;have nN:=di pX;obtain⟨x0,x1,x2,x3⟩:=fi pX;clear hK hM pX;by_cases aA:k<n
 ·have aN:(k:Int)<n:=O;obtain⟨g,aB,rfl,fU,bX⟩:∃g aB,la=U (D g 0 Z)/\wr.heap[g]? =U (C aB 60 (0,0))/\k*4+3<aB.size:=by
   rcases xI.2 with⟨_,q⟩|⟨g,cap,aB,q,_,q1,q2,_,q3,_⟩;(·omega);injection q with q4 _ q5;subst q4 q5;obtain⟨gF,r1,r2,_⟩:=HK.own g aB X q1;have:(k+1)*4<=lc*4:=Cl _ O;exact⟨g,gF,X,r1,O⟩
  have o0:wr.cell? (D g (k*4) Z)=U (aB[k*4]' O):=by simp[Wc,fU,show k*4<aB.size by omega]
  have o1:wr.cell? (D g (k*4+1) Z)=U (aB[k*4+1]' O):=by simp[Wc,fU,show k*4+1<aB.size by omega]
  have o2:wr.cell? (D g (k*4+2) Z)=U (aB[k*4+2]' O):=by simp[Wc,fU,show k*4+2<aB.size by omega]
  have o3:wr.cell? (D g (k*4+3) Z)=U (aB[k*4+3]' O):=by simp[Wc,fU,bX]
  have f0:wr.frozen? (D g (k*4) Z)=false:=Fz fU;have f1:wr.frozen? (D g (k*4+1) Z)=false:=Fz fU;have f2:wr.frozen? (D g (k*4+2) Z)=false:=Fz fU;have f3:wr.frozen? (D g (k*4+3) Z)=false:=Fz fU;have qV:=di (HK.trans (Kp.store (k:=k) m fU).1);have o5:=di (pL.store (g:=g) X fU bX);generalize aB[k*4]' O=z0 at o0;generalize aB[k*4+1]' O=z1 at o1;generalize aB[k*4+2]' O=z2 at o2;generalize aB[k*4+3]' O=z3 at o3;clear fU bX;go_wp2;go_roundw;case rel=>exact⟨k+1,O,Gn,qV,o5⟩
  exact Ms
 have aN:(n:Int)<=k:=O;obtain rfl:n=k:=O;have eK:=di (fQ.kpV xI HK);have BM:=di (ahg xI HK pL);have EY:w0.heap.size<=wr.heap.size+1:=by have:=eK.out.s1;omega
 clear fQ xI HK pL sB hk aA aN;go_wp2_with (at_builtin;refine Dw _ X (.tmp 35) (.tmp 37) 39 X w0.heap.size 60 i0 Ii 4 40 underlying39 dO cU dA bL X Dc (S la n lc) n (mkRow m n) (by simp[Ae,Ap]) (BM.alloc _) (D wr.heap.size 0 Z) 1 1 (mkRow m 1) (by simp[Ae,Ap]) X (World.news_of_block (bl wr (C #[I J m,Y ⟨#[]⟩,I J m,I J 0] 60))) (Pc m 1) Dc (by unfold maxLen;omega) O (by simpa using EY) ?_);intro g1 BX w4 h1 h2 h3;obtain⟨wH,IL,CC,jW⟩:=eK.appV BM h1 h2 h3;have oZ:=di wH;have BN:=di IL;have iE:=di CC;have tD:=di jW;have jY:=jW.block nN xN;have wB:=di jY;have v7:Hi _:=wH.s1;clear x0 x1 x2 x3;obtain⟨x0,x1,x2,x3⟩:=fi jY;have JL:w0.heap.size<=w4.heap.size+1:=by have:=v7.out;omega
 clear h1 h2 h3 wH IL CC jW jY;go_wp2_with (at_builtin;refine Dw _ X (.tmp 39) (.tmp 42) 39 X w0.heap.size 60 i0 Ii 4 40 underlying39 dO cU dA bL X Dc (S la n lc) n (mkRow m n) (by simp[Ae,Ap]) (BN.alloc _) (D w4.heap.size 0 Z) 2 2 (mkRow m 2) (by simp[Ae,Ap]) X (World.news_of_block (bl w4 (C #[I J m,Y ⟨#[]⟩,I J m,I J 0,I J m,Y ⟨#[]⟩,I J m,I J 0] 60))) (Pc m 2) Dc (by unfold maxLen;omega) O (by simpa using JL) ?_);intro g2 BY w5 h1 h2 h3;obtain⟨sD,IM,gH,CF⟩:=oZ.appV BN h1 h2 h3;have nM:=di sD;have BO:=di IM;have dC:=di gH;have vV:=di CF;have oL:=CF.block wB xN;have wC:=di oL;have o6:Hi _:=sD.s1;clear x0 x1 x2 x3;have x0:w5.cell? (D xb 0 Z)=U (I J m):=by simp[Wc,oL]
 have x1:w5.cell? (D xb 1 Z)=U (Y ⟨#[]⟩):=by simp[Wc,oL]
 have x2:w5.cell? (D xb 2 Z)=U (I J m):=by simp[Wc,oL]
 have x3:w5.cell? (D xb 3 Z)=U (I J 0):=by simp[Wc,oL]
 have sM:w0.heap.size<=w5.heap.size+1:=by have:=o6.out;omega
 clear h1 h2 h3 sD IM gH CF oL;have F1:=di (vV.full iE);go_wp2_with (at_builtin;refine Dw _ X (.tmp 44) (.tmp 48) 39 X w0.heap.size 60 i0 Ii 4 40 underlying39 dO cU dA bL X Dc (S la n lc) n (mkRow m n) (by simp[Ae,Ap]) (BO.alloc _) (D w5.heap.size 0 Z) 3 3 (mkRow m 3) (by simp[Ae,Ap]) X (World.news_of_block (bl w5 (C #[I J m,Y ⟨#[]⟩,I J m,I J 0,I J m,Y ⟨#[]⟩,I J m,I J 0,I J m,Y ⟨#[]⟩,I J m,I J 0] 60))) (Pc m 3) Dc (by unfold maxLen;omega) O (by simpa using sM) ?_);intro g3 BZ w6 h1 h2 h3;obtain⟨CG,(GK:Hi _),(dI:Hi _),wG⟩:=nM.appV BO h1 h2 h3;have hU:=di CG;have bY:=di wG;have pB:=wG.block wC xN;have OU:=di pB;have v8:Hi _:=CG.s1;clear x0 x1 x2 x3;obtain⟨x0,x1,x2,x3⟩:=fi pB;have hs6:w0.heap.size<=w6.heap.size+1:=by have:=v8.out;omega
 clear h1 h2 h3 CG wG pB;have F2:=di (bY.full F1);have F3:=di (bY.full dC);have F0:=di (ir.of_own GK);have gB:=hU.out.row;have c0:w6.cell? (D B 0 Z)=U vv:=by simp[Wc,gB]
 have f0:w6.frozen? (D B 0 Z)=false:=Fz gB;have oQ:B<w6.heap.size:=bp c0;clear gB iE F1 dC tD vV bY eK oZ nM BM BN BO GK nN wB wC OU v7 o6 x0 x1 x2 x3 EY JL sM;have rO:W.heap.size<=w6.heap.size+1:=by have:=hU.out.bel.size;omega
 have hLL:L.length+4<=1099511627780:=O;go_wp2_with (at_builtin;refine wpList_append_lies _ X (.tmp 54) (.tmp 59) 31 X W.heap.size 39 i1 (S Z 0 0) 1 24 underlying31 MC iL R0 R1 X Dc vv L.length (L.map (·.1)) (by simp[Ae,Ap]) (hU.ov.alloc _) (D w6.heap.size 0 Z) 4 4 [S la n lc,S (U (D g1 0 Z)) (n+1) BX,S (U (D g2 0 Z)) (n+2) BY,S (U (D g3 0 Z)) (n+3) BZ] (by simp[Ae,Ap]) X (World.news_of_block (bl w6 (C #[S la n lc,S (U (D g1 0 Z)) (n+1) BX,S (U (D g2 0 Z)) (n+2) BY,S (U (D g3 0 Z)) (n+3) BZ] 39))) (by intro u hu;simp at hu;rcases hu with rfl|rfl|rfl|rfl<;>rfl) Dc (by unfold maxLen;omega) O (by simpa using rO) (w6.heap.size+1) Sq ?_);intro gv G5 w7 h1 h2 h3 h4;obtain⟨LL,tW⟩:∃LL,L++[((S la n lc:Vv),n,m),(S (U (D g1 0 Z)) (n+1) BX,n+1,m),(S (U (D g2 0 Z)) (n+2) BY,n+2,m),(S (U (D g3 0 Z)) (n+3) BZ,n+3,m)]=LL:=Ey;have qR:Hi (LL.length=L.length+4):=by show LL.length=_;rw[<-tW];simp
 have mN:Hi ((LL.map fun x=>Value.int J x.2.2)=(L.map fun x=>Value.int J x.2.2)++[I J m,I J m,I J m,I J m]):=by show(LL.map fun x=>Value.int J x.2.2)=_;rw[<-tW];simp
 have IG:∀x∈LL,ir w6 x.1 x.2.1 x.2.2:=fun x hx=>by
  rw[<-tW,Ek]at hx;rcases hx with hx|hx;·exact(hU.full x hx).1
  simp only[Lo,Lq,Pm]at hx;rcases hx with rfl|rfl|rfl|rfl;·exact F0
  ·exact F2
  ·exact F3
  exact dI
 obtain⟨e0,q0,(HJ:Hi _)⟩:=hU.putV (LL:=LL) (vv':=S (U (D gv 0 Z)) (L.length+4) G5) IG (by rw[qR,<-tW,Ci];exact h1) h2;have EL:B<w7.heap.size:=bp e0;clear h1 h2 h3 h4 tW IG hU F0 F2 F3 dI c0 f0 oQ rO;go_wp2_with fail;generalize w7.setCell (D B 0 Z) (S (U (D gv 0 Z)) (L.length+4) G5)=w8 at HJ ⊢;clear e0 q0 EL;have gB:=HJ.out.row;obtain⟨-,c1, -, -,c4⟩:=uC gB;have oQ:B<w8.heap.size:=bp c1;have rO:W.heap.size<=w8.heap.size+1:=by have:=HJ.out.bel.size;omega
 clear gB
 have KZ:Hi (∀(wx w9:M) (gm oI:Nat),Bw w8 wx->w9.ownsRow W.heap.size 3 1 (S (U (D gm 0 Z)) (L.length+4) oI) (L.length+4) ((L.map fun x=>Value.int J x.2.2)++[I J m,I J m,I J m,I J m])->wx.grownBy w9 vm.ownBlock->
  w9.cell? ⟨B,1,Z⟩=U vm/\w9.cell? ⟨B,4,Z⟩=U (I J m)/\w9.frozen? ⟨B,1,Z⟩=false/\(w9.setCell ⟨B,1,Z⟩ (S (U ⟨gm,0,Z⟩) (L.length+4) oI)).cell? ⟨B,4,Z⟩=U (I J m)/\oz W (w9.setCell ⟨B,1,Z⟩ (S (U ⟨gm,0,Z⟩) (L.length+4) oI)) B LL an m):=fun wx w9 gm oI hx h1 h2=>by
  have hp:=HJ.put (vm':=S (U (D gm 0 Z)) (L.length+4) oI) hx (by rw[qR,mN.out];exact h1) h2
  have h':=HJ.below hx
  have hB:=(h2.block B (eb h'.row) (fun q=>fg h'.row h'.om Dc q.symm)).trans h'.row
  exact⟨hp.1,by simp[Wc,hB],hp.2.1,by have:=iw w9 B 1 _ _ (S (U (D gm 0 Z)) (L.length+4) oI) hB;simp[Wc,this],hp.2.2⟩
 refine wp_region_held_drew (S:=fun w'=>w'.cell? (D B 4 Z)=U (I J m)) Kr ?_ (fun hHeld=>?_);·go_keep
 refine tk 0 ?_;try simp only[Ap,cq,ct,cr]
 refine tk 1 ?_;try simp only[Ap,cq,ct,cr]
 refine tk 2 ?_;try simp only[Ap,cq,ct,cr]
 refine tk 3 ?_;try simp only[Ap,cq,ct,cr]
 refine tk 5 ?_;try simp only[Ap,cq,ct,cr]
 refine tk 6 ?_;try simp only[Ap,cq,ct,cr]
 refine tk 7 ?_;try simp only[Ap,cq,ct,cr]
 refine tk 8 ?_;try simp only[Ap,cq,ct,cr]
 refine tk 9 ?_;try simp only[Ap,cq,ct,cr]
 refine tk 10 ?_;try simp only[Ap,cq,ct,cr]
 refine tk 11 ?_;try simp only[Ap,cq,ct,cr]
 refine tk 12 ?_;try simp only[Ap,cq,ct,cr]
 refine tk 13 ?_;try simp only[Ap,cq,ct,cr]
 refine tk 14 ?_;try simp only[Ap,cq,ct,cr]
 refine tk 15 ?_;try simp only[Ap,cq,ct,cr]
 refine tk 16 ?_;try simp only[Ap,cq,ct,cr]
 refine tk 17 ?_;try simp only[Ap,cq,ct,cr]
 refine tk 18 ?_;try simp only[Ap,cq,ct,cr]
 refine tk 19 ?_;try simp only[Ap,cq,ct,cr]
 refine tk 20 ?_;try simp only[Ap,cq,ct,cr]
 refine wpAnyH_ready (rs:=[4,21]) Kr Sq ?_;refine AllReadyH.cons X (fun K hK=>?_) (AllReadyH.cons X (fun K hK=>?_) AllReadyH.nil)
 ·skip;go_simp;refine hK.out _ _ ?_ (fun hHeld2=>?_);·go_keep
  clear hK K;refine wpAnyH_ready (rs:=[21]) Kr Sq ?_;refine AllReadyH.cons X (fun K hK=>?_) AllReadyH.nil;go_simp;refine hK.out _ _ ?_ (fun hHeld2=>?_);·go_keep
  clear hK K;refine wpAnyH_ready (rs:=[22]) Kr Sq ?_;refine AllReadyH.cons X (fun K hK=>?_) AllReadyH.nil;first|(refine step_append_lies _ X (.tmp 67) (.tmp 84) 32 X W.heap.size 3 i2 (I J 0) 1 8 underlying32 wL E6 qH E7 X Dc vm L.length (L.map fun x=>I J x.2.2) (by simp[Ae,Ap]) (HJ.om.alloc _).drew (D w8.heap.size 0 Z) 4 4 [I J m,I J m,I J m,I J m] (by simp[Ae,Ap]) X (World.news_of_block (w:=(w8.alloc (C #[I J m,I J m,I J m,I J m] 3)).drew) (bl w8 (C #[I J m,I J m,I J m,I J m] 3))) (by intro u hu;simp at hu;subst hu;rfl) Dc (by unfold maxLen;omega) O (by simpa using rO) (w8.heap.size+1) Sq ?_;intro gm oI w9 h1 h2 h3 h4;obtain⟨e1,e4,q1,e5,pT⟩:=KZ ((w8.alloc (C #[I J m,I J m,I J m,I J m] 3)).drew) w9 gm oI (Be).drew h1 h2;have jE:=di pT;have yK:=bp e1;have E5:=di e5;clear e5;clear h1 h2 h3 h4 pT)|(refine step_append_lies _ X (.tmp 67) (.tmp 84) 32 X W.heap.size 3 i2 (I J 0) 1 8 underlying32 wL E6 qH E7 X Dc vm L.length (L.map fun x=>I J x.2.2) (by simp[Ae,Ap]) (HJ.om.drew.alloc _) (D w8.heap.size 0 Z) 4 4 [I J m,I J m,I J m,I J m] (by simp[Ae,Ap]) X (World.news_of_block (bl w8.drew (C #[I J m,I J m,I J m,I J m] 3))) (by intro u hu;simp at hu;subst hu;rfl) Dc (by unfold maxLen;omega) O (by simpa using rO) (w8.heap.size+1) Sq ?_;intro gm oI w9 h1 h2 h3 h4;obtain⟨e1,e4,q1,e5,pT⟩:=KZ (w8.drew.alloc (C #[I J m,I J m,I J m,I J m] 3)) w9 gm oI ((By).drew.alloc Ln _) h1 h2;have jE:=di pT;have yK:=bp e1;have E5:=di e5;clear e5;clear h1 h2 h3 h4 pT)
  refine hK.out _ _ ?_ (fun hHeld2=>?_);·exact e4
  clear hK K;refine tk 23 ?_;try simp only[Ap,cq,ct,cr]
  refine tk 24 ?_;try simp only[Ap,cq,ct,cr]
  refine wpAnyH_ready (rs:=[25]) Kr Sq ?_;refine AllReadyH.cons X (fun K hK=>?_) AllReadyH.nil;go_simp;refine hK.out _ _ ?_ (fun hHeld2=>?_);·exact E5
  clear hK K;refine wpAnyH_done Kr ?_ _;go_wp2;go_returns;exact⟨X,LL,jE,qR⟩
 skip;go_simp;refine hK.out _ _ ?_ (fun hHeld2=>?_);·go_keep
 clear hK K;refine wpAnyH_ready (rs:=[4]) Kr Sq ?_;refine AllReadyH.cons X (fun K hK=>?_) AllReadyH.nil;go_simp;refine hK.out _ _ ?_ (fun hHeld2=>?_);·go_keep
 clear hK K;refine wpAnyH_ready (rs:=[22]) Kr Sq ?_;refine AllReadyH.cons X (fun K hK=>?_) AllReadyH.nil;first|(refine step_append_lies _ X (.tmp 67) (.tmp 84) 32 X W.heap.size 3 i2 (I J 0) 1 8 underlying32 wL E6 qH E7 X Dc vm L.length (L.map fun x=>I J x.2.2) (by simp[Ae,Ap]) (HJ.om.alloc _).drew (D w8.heap.size 0 Z) 4 4 [I J m,I J m,I J m,I J m] (by simp[Ae,Ap]) X (World.news_of_block (w:=(w8.alloc (C #[I J m,I J m,I J m,I J m] 3)).drew) (bl w8 (C #[I J m,I J m,I J m,I J m] 3))) (by intro u hu;simp at hu;subst hu;rfl) Dc (by unfold maxLen;omega) O (by simpa using rO) (w8.heap.size+1) Sq ?_;intro gm oI w9 h1 h2 h3 h4;obtain⟨e1,e4,q1,e5,pT⟩:=KZ ((w8.alloc (C #[I J m,I J m,I J m,I J m] 3)).drew) w9 gm oI (Be).drew h1 h2;have jE:=di pT;have yK:=bp e1;have E5:=di e5;clear e5;clear h1 h2 h3 h4 pT)|(refine step_append_lies _ X (.tmp 67) (.tmp 84) 32 X W.heap.size 3 i2 (I J 0) 1 8 underlying32 wL E6 qH E7 X Dc vm L.length (L.map fun x=>I J x.2.2) (by simp[Ae,Ap]) (HJ.om.drew.alloc _) (D w8.heap.size 0 Z) 4 4 [I J m,I J m,I J m,I J m] (by simp[Ae,Ap]) X (World.news_of_block (bl w8.drew (C #[I J m,I J m,I J m,I J m] 3))) (by intro u hu;simp at hu;subst hu;rfl) Dc (by unfold maxLen;omega) O (by simpa using rO) (w8.heap.size+1) Sq ?_;intro gm oI w9 h1 h2 h3 h4;obtain⟨e1,e4,q1,e5,pT⟩:=KZ (w8.drew.alloc (C #[I J m,I J m,I J m,I J m] 3)) w9 gm oI ((By).drew.alloc Ln _) h1 h2;have jE:=di pT;have yK:=bp e1;have E5:=di e5;clear e5;clear h1 h2 h3 h4 pT)
 refine hK.out _ _ ?_ (fun hHeld2=>?_);·exact e4
 clear hK K;refine tk 23 ?_;try simp only[Ap,cq,ct,cr]
 refine tk 24 ?_;try simp only[Ap,cq,ct,cr]
 refine wpAnyH_ready (rs:=[25]) Kr Sq ?_;refine AllReadyH.cons X (fun K hK=>?_) AllReadyH.nil;go_simp;refine hK.out _ _ ?_ (fun hHeld2=>?_);·exact E5
 clear hK K;refine wpAnyH_done Kr ?_ _;go_wp2;go_returns;exact⟨X,LL,jE,qR⟩
theorem ir.form(h:ir w v n m):n<=maxLen/\∃a c,v=S a n c/\∀j,j<n->∃g,a=U (D g 0 Z)/\w.cell? (D g (j*4) Z)=U (I J m)/\w.cell? (D g (j*4+1) Z)=U (Y ⟨#[]⟩)/\w.cell? (D g (j*4+2) Z)=U (I J m)/\w.cell? (D g (j*4+3) Z)=U (I J 0):=by
 rcases h with⟨rfl,rfl⟩|⟨g,cap,aB,rfl,h1,hg,h2⟩;·exact⟨Lz,Z,0,X,fun j hj=>Ab hj (dh _)⟩
 have q:∀j i,j<n->i<4->w.cell? (D g (j*4+i) Z)=U (sm m i):=fun j i hj hi=>by have:=h2 (j*4+i) O;rw[Ji]at this;simp[Wc,hg,this]
 exact⟨h1,U (D g 0 Z),cap,X,fun j hj=>⟨g,X,q j 0 hj Dc,q j 1 hj Dc,q j 2 hj Dc,q j 3 hj Dc⟩⟩
theorem ju.form{m:Q}(h:ju w v n m):n<=maxLen/\∃a c,v=S a n c/\∀j,j<n->∃g,a=U (D g 0 Z)/\w.cell? (D g (j*3) Z)=U (Y m)/\w.cell? (D g (j*3+1) Z)=U (Bo false)/\w.cell? (D g (j*3+2) Z)=U (Y m):=by
 rcases h with⟨rfl,rfl⟩|⟨g,cap,aB,rfl,h1,hg,h2⟩;·exact⟨Lz,Z,0,X,fun j hj=>Ab hj (dh _)⟩
 have q:∀j i,j<n->i<3->w.cell? (D g (j*3+i) Z)=U (so m i):=fun j i hj hi=>by have:=h2 (j*3+i) O;rw[Jl]at this;simp[Wc,hg,this]
 exact⟨h1,U (D g 0 Z),cap,X,fun j hj=>⟨g,X,q j 0 hj Dc,q j 1 hj Dc,q j 2 hj Dc⟩⟩
theorem agm(W w:M)(B:Nat)(L:Ls (Vv×Nat×Int))(an:Ls (Vv×Nat×Q))(nx:Int)(h:oz W w B L an nx)(hL:L.length<=1099511627776)(hM:an.length<=1099511627776):Cs prog 19 #[Po (U (D B 0 Z))] w fun e w'=>e=Rt (Bo true)/\Bw w w':=by
 obtain⟨vv,vm,mv,mm,hB,ov,om,pv,pm⟩:=h.row;obtain⟨va,vc,rfl,nY⟩:=uV ov;obtain⟨ma,mc,rfl,XU⟩:=uV om;obtain⟨pa,pc,rfl,YI⟩:=uV pv;obtain⟨qa,qc,rfl,YK⟩:=uV pm;obtain⟨c0,c1,c2,c3, -⟩:=uC hB
 have HE:Hi (∀k,k<L.length->∃g1 g2 xa xn xc m,va=U (D g1 0 Z)/\ma=U (D g2 0 Z)/\w.cell? (D g1 k Z)=U (S xa xn xc)/\w.cell? (D g2 k Z)=U (I J m)/\xn<=maxLen/\
  ∀j,j<xn->∃g,xa=U ⟨g,0,Z⟩/\w.cell? ⟨g,j*4,Z⟩=U (I J m)/\w.cell? ⟨g,j*4+1,Z⟩=U (Y ⟨#[]⟩)/\w.cell? ⟨g,j*4+2,Z⟩=U (I J m)/\w.cell? ⟨g,j*4+3,Z⟩=U (I J 0)):=fun k hk=>by
  obtain⟨g1,rfl⟩:=nY O
  obtain⟨g2,rfl⟩:=XU O
  have q1:=ov.cells (g:=g1) X k L[k].1 (by simp[hk])
  have q2:=om.cells (g:=g2) X k (I J L[k].2.2) (by simp[hk])
  rw[um]at q1 q2
  obtain⟨f1,xa,xc,f2,f3⟩:=(h.full L[k] (me hk)).form
  rw[f2]at q1
  exact⟨g1,g2,xa,_,xc,_,X,X,q1,q2,f1,f3⟩
 have HEM:Hi (∀k,k<an.length->∃g1 g2 xa xn xc m,pa=U (D g1 0 Z)/\qa=U (D g2 0 Z)/\w.cell? (D g1 k Z)=U (S xa xn xc)/\w.cell? (D g2 k Z)=U (Y m)/\xn<=maxLen/\
  ∀j,j<xn->∃g,xa=U ⟨g,0,Z⟩/\w.cell? ⟨g,j*3,Z⟩=U (Y m)/\w.cell? ⟨g,j*3+1,Z⟩=U (Bo false)/\w.cell? ⟨g,j*3+2,Z⟩=U (Y m)):=fun k hk=>by
  obtain⟨g1,rfl⟩:=YI O
  obtain⟨g2,rfl⟩:=YK O
  have q1:=pv.cells (g:=g1) X k an[k].1 (by simp[hk])
  have q2:=pm.cells (g:=g2) X k (Y an[k].2.2) (by simp[hk])
  rw[um]at q1 q2
  obtain⟨f1,xa,xc,f2,f3⟩:=(h.fullM an[k] (me hk)).form
  rw[f2]at q1
  exact⟨g1,g2,xa,_,xc,_,X,X,q1,q2,f1,f3⟩
 clear nY XU ov om hB h YI YK pv pm;generalize L.length=n at*;generalize an.length=nm at*;go_enter func19,ntmps19;go_wp2;go_loopw [3] (fun i wr=>∃k:Nat,k<=n/\i=I J k/\Bw w wr) (fun i _=>n-(Io i).toNat);case atStart=>exact⟨0,Lz,X,By⟩
 obtain⟨k,hk,rfl,aT⟩:=hrel;have dU:=di aT;have oQ:=bp c0;simp only at oQ;have d0:=Cb aT c0;have d1:=Cb aT c1;clear aT;by_cases aA:k<n
 ·have aN:(k:Int)<n:=O;obtain⟨g1,g2,xa,xn,xc,m,rfl,rfl,e1,e2,RY,(dV:Hi _)⟩:=HE k aA;have aeW:xn<=9223372036854775807:=by unfold maxLen at RY;omega
  have y2:=Cb dU e2;have eZ:=lc y2;go_wp2_with fail;go_region_held_law (fun w'=>w'.cell? (D B 1 Z)=U (S (U (D g2 0 Z)) n mc)/\w'.cell? (D g2 k Z)=U (I J m)) (go_keep) (fail);go_wp2;rename_i hHeld;clear hHeld;obtain⟨xb,gL⟩:∃xb,wr.heap.size=xb:=Ey;have mS:(wr.alloc (C #[I J m,Y ⟨#[]⟩,I J m,I J 0] 60)).drew.heap[wr.heap.size]? =U (C #[I J m,Y ⟨#[]⟩,I J m,I J 0] 60 (0,0)):=bl wr _;have dW:Bw w (wr.alloc (C #[I J m,Y ⟨#[]⟩,I J m,I J 0] 60)).drew:=(dU.alloc dU.size _).drew;rw[gL]at mS;rw[gL];generalize(wr.alloc _).drew=w2 at mS dW ⊢;have aD:=di dW;have z0:=Cb dW c0;have z1:=Cb dW e1;obtain⟨x0,x1,x2,x3⟩:=fi mS;clear mS dW gL d0 d1 y2 eZ;go_loopw [5] (fun i wx=>∃j:Nat,j<=xn/\i=I J j/\∃q,wx=w2.drewN q) (fun i _=>xn-(Io i).toNat);case atStart=>exact⟨0,Lz,X,0,X⟩
  obtain⟨j,hj,rfl,q',rfl⟩:=hrel;by_cases eZ:j<xn;·obtain⟨g,rfl,u0,u1,u2,u3⟩:=dV j eZ;have v0:=Cb aD u0;have v1:=Cb aD u1;have v2:=Cb aD u2;have v3:=Cb aD u3;have yJ:(j:Int)<xn:=O;clear u0 u1 u2 u3;go_wp2;go_quiet (fail);go_wp2;go_roundw;(case rel=>exact⟨j+1,O,Gn,_,X⟩);exact Ms
  have yJ:(xn:Int)<=j:=O;go_wp2;go_roundw;case rel=>exact⟨k+1,O,Gn,Go.below_drewN aD _⟩
  exact Ms
 have aN:(n:Int)<=k:=O;go_wp2;clear aA d0 d1 hk;go_loopw [6] (fun i wr=>∃k:Nat,k<=nm/\i=I J k/\Bw w wr) (fun i _=>nm-(Io i).toNat);case atStart=>exact⟨0,Lz,X,dU⟩
 clear dU aN;obtain⟨k,hk,rfl,aT⟩:=hrel;have dU:=di aT;have d2:=Cb aT c2;have d3:=Cb aT c3;clear aT;by_cases aA:k<nm
 ·have aN:(k:Int)<nm:=O;obtain⟨g1,g2,xa,xn,xc,m,rfl,rfl,e1,e2,RY,(dV:Hi _)⟩:=HEM k aA;have aeW:xn<=9223372036854775807:=by unfold maxLen at RY;omega
  have y2:=Cb dU e2;have eZ:=lc y2;go_wp2_with fail;go_region_held_law (fun w'=>w'.cell? (D B 3 Z)=U (S (U (D g2 0 Z)) nm qc)/\w'.cell? (D g2 k Z)=U (Y m)) (go_keep) (fail);go_wp2;rename_i hHeld;clear hHeld;obtain⟨xb,gL⟩:∃xb,wr.heap.size=xb:=Ey;have mS:(wr.alloc (C #[Y m,Bo false,Y m] 73)).drew.heap[wr.heap.size]? =U (C #[Y m,Bo false,Y m] 73 (0,0)):=bl wr _;have dW:Bw w (wr.alloc (C #[Y m,Bo false,Y m] 73)).drew:=(dU.alloc dU.size _).drew;rw[gL]at mS;rw[gL];generalize(wr.alloc _).drew=w2 at mS dW ⊢;have aD:=di dW;have z0:=Cb dW c2;have z1:=Cb dW e1;obtain⟨x0,x1,x2⟩:=pt mS;clear mS dW gL d2 d3 y2 eZ;go_loopw [8] (fun i wx=>∃j:Nat,j<=xn/\i=I J j/\∃q,wx=w2.drewN q) (fun i _=>xn-(Io i).toNat);case atStart=>exact⟨0,Lz,X,0,X⟩
  obtain⟨j,hj,rfl,q',rfl⟩:=hrel;by_cases eZ:j<xn;·obtain⟨g,rfl,u0,u1,u2⟩:=dV j eZ;have v0:=Cb aD u0;have v1:=Cb aD u1;have v2:=Cb aD u2;have yJ:(j:Int)<xn:=O;clear u0 u1 u2;go_wp2;go_quiet (fail);go_wp2;go_roundw;(case rel=>exact⟨j+1,O,Gn,_,X⟩);exact Ms
  have yJ:(xn:Int)<=j:=O;go_wp2;go_roundw;case rel=>exact⟨k+1,O,Gn,Go.below_drewN aD _⟩
  exact Ms
 have aN:(nm:Int)<=k:=O;go_wp2;go_ret;exact⟨X,dU⟩
end
