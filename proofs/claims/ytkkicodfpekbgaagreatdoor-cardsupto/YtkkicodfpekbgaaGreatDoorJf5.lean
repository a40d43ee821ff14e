/-
Several texts in one.
-/
import Derived.Test.YtkkicodfpekbgaaGreatDoorJe0
open Go.Value renaming int->I,string->Y,slice->S,pointer->Po,bool->Bo,agg->Ag,tuple->Tu
open Go.IntKind renaming i64->J
open Go.Obj renaming cells->C
open Go.Ending renaming returned->Rt
open Option renaming some->U,none->Z
open Go renaming World->M,Calls->Cs,Addr->Ad,Value->Vv
open _root_ renaming ByteArray->Q,Option->Oo,List->Ls
open Go.RowKit renaming Below->H,intOf->Io,Hid->Hi
open Go.World renaming cell?->Wc
open Go.Addr renaming mk->D
set_option linter.unusedSimpArgs false
set_option linter.unusedVariables false
set_option maxRecDepth 100000
set_option maxHeartbeats 8000000
namespace Go.Proofs.YtkkicodfpekbgaaGreatDoor
theorem uG{E:cw}:∀(k f i x y:Nat) (dp:Int) (o:dM),dJ E f i x y dp=U o->dJ E (f+k) i x y dp=U o
 |0,_,_,_,_,_,_,h=>h
 |k+1,f,i,x,y,dp,o,h=>C1 (f+k) i x y dp o (uG k f i x y dp o h)
def wW(π:Nat->Nat)(k:Kd):Kd:=⟨(π k.node.toNat:Nat),k.opt,k.dflt⟩
theorem nQ(π:Nat->Nat)(k:Kd):(wW π k).node.toNat=π k.node.toNat:=br _
structure xf(E1 E2:cw)(π:Nat->Nat):Prop where
 d:E2.d=E1.d
 ok:∀k t,E2.ok k t=E1.ok k t
 node:∀i,i<E1.s.length->nd E2.s (π i)=⟨(nd E1.s i).kind,(nd E1.s i).tag,(nd E1.s i).mode,(nd E1.s i).kids.map (wW π)⟩
 within:∀i,i<E1.s.length->∀k∈(nd E1.s i).kids,k.node.toNat<E1.s.length
 one:∀i,i<E1.s.length->11<=(nd E1.s i).kind->(nd E1.s i).kind<=12->(nd E1.s i).kids.length=1
 bg:∀i,i<E1.s.length->∀c m,E2.bg (π i) c m=E1.bg i c m
 dv:∀i,i<E1.s.length->∀k∈(nd E1.s i).kids,k.dflt.size≠0->E2.dv (wW π k)=E1.dv k
theorem yx{E1 E2:cw}(h:E2.d=E1.d)(x y:Nat):E2.hd x y=E1.hd x y:=by unfold cw.hd;rw[h]
theorem qD{E1 E2:cw}{π:Nat->Nat}(ah:xf E1 E2 π){r1 r2:im}(hr:∀i,i<E1.s.length->r2 (π i)=r1 i){h:Hd}{x tz:Nat}{dp:Int}{i:Nat}(hi:i<E1.s.length):∀(ks:Ls Kd) (j:Nat),(∀k∈ks,k∈(nd E1.s i).kids)->bU E2 r2 h x tz dp (ks.map (wW π)) j=bU E1 r1 h x tz dp ks j
 | [],_,_=>rfl
 |k::ks,j,hk=>by
  have hw:=ah.within i hi k (hk k Sq)
  rw[gd,bU,bU,nQ,ah.bg _ hw,hr _ hw,qD ah hr hi ks (j+1) fun k h=>hk k (by simp[h])]
theorem Aa{E1 E2:cw}{π:Nat->Nat}(ah:xf E1 E2 π){r1 r2:im}(hr:∀i,i<E1.s.length->r2 (π i)=r1 i){tz:Nat}{dp:Int}{i:Nat}(hi:i<E1.s.length):∀(ks:Ls Kd) (x:Nat) (acc:Ls Vl),(∀k∈ks,k∈(nd E1.s i).kids)->de E2 r2 tz dp (ks.map (wW π)) x acc=de E1 r1 tz dp ks x acc
 | [],_,_,_=>rfl
 |k::ks,x,acc,hk=>by
  have hw:=ah.within i hi k (hk k Sq)
  have ih:∀x acc,de E2 r2 tz dp (ks.map (wW π)) x acc=de E1 r1 tz dp ks x acc:=fun x acc=>Aa ah hr hi ks x acc fun k h=>hk k (by simp[h])
  rw[gd,de,de,nQ,ah.bg _ hw,hr _ hw,yx ah.d,ah.d]
  simp only[ih]
  by_cases hd:k.dflt.size≠0
  ·rw[ah.dv i hi k (hk k Sq) hd]
   rfl
  ·have e1:(wW π k).dflt=k.dflt:=X
   have e2:(wW π k).opt=k.opt:=X
   rw[e1,e2,G hd,G hd]
theorem wy{E1 E2:cw}{π:Nat->Nat}(ah:xf E1 E2 π){r1 r2:im}(hr:∀i,i<E1.s.length->r2 (π i)=r1 i){set:Bool}{tz:Nat}{dp:Int}{i:Nat}(hi:i<E1.s.length):∀(m x:Nat) (last:Q) (j:Nat) (acc:Ls Vl),dA E2 r2 set (π i) tz dp m x last j acc=dA E1 r1 set i tz dp m x last j acc
 |0,_,_,_,_=>rfl
 |m+1,x,last,j,acc=>by
  rw[dA,dA,hr i hi,ah.d]
  simp only[wy ah hr hi m]
theorem qn{E1 E2:cw}{π:Nat->Nat}(ah:xf E1 E2 π){r1 r2:im}(hr:∀i,i<E1.s.length->r2 (π i)=r1 i){m:Nat}{cl nu:Int}{h:Hd}{x tz:Nat}{dp:Int}{i:Nat}(hi:i<E1.s.length):cF E2 r2 m (nd E2.s (π i)) cl nu h x tz dp=cF E1 r1 m (nd E1.s i) cl nu h x tz dp:=by
 rw[ah.node i hi];unfold cF;simp only;rw[qD ah hr hi _ _ fun k h=>h,Aa ah hr hi _ _ _ fun k h=>h,bY,ah.d];simp only[ah.ok];by_cases h10:(nd E1.s i).kind=10
 ·simp only[aG h10]
 by_cases h12:10<=(nd E1.s i).kind/\(nd E1.s i).kind<=12
 ·have h1:=ah.one i hi O h12.2;have hk:(kd ⟨(nd E1.s i).kind,(nd E1.s i).tag,(nd E1.s i).mode,(nd E1.s i).kids.map (wW π)⟩ 0).node.toNat=π (kd (nd E1.s i) 0).node.toNat:=by
   unfold kd
   match hk:(nd E1.s i).kids,h1 with
   | [k],_=>exact nQ π k
  have hw:=ah.within i hi _ (fU (n:=nd E1.s i) (i:=0) O);rw[hk,wy ah hr hw]
 simp only[G h12]
theorem uH{E1 E2:cw}{π:Nat->Nat}(ah:xf E1 E2 π):∀f i,i<E1.s.length->dJ E2 f (π i)=dJ E1 f i
 |0,_,_=>rfl
 |f+1,i,hi=>by
  funext x y dp
  have ih:=uH ah f
  rw[dJ,dJ,yx ah.d]
  unfold iQ
  rw[qn ah ih hi,qn ah ih hi,qn ah ih hi,ah.node i hi,yx ah.d]
theorem v7{E1 E2:cw}(hr:cd E1.s)(hs:E2.s=E1.s)(hd:E2.d=E1.d)(h1:gp E1)(h2:gp E2):xf E1 E2 id where
 d:=hd
 ok:=fun k t=>fN.2 ((h2.ok k t).trans (h1.ok k t).symm)
 node:=fun i hi=>by
  rw[hs]
  have e:(nd E1.s i).kids.map (wW id)=(nd E1.s i).kids:=by
   conv=>rhs;rw[<-List.map_id (nd E1.s i).kids]
   refine Iw fun k hk=>?_
   have:=hr.fine.within i hi k hk
   obtain⟨a,b,c⟩:=k
   show(⟨((a.toNat:Nat):Int),b,c⟩:Kd)=⟨a,b,c⟩
   rw[dh this.1]
  rw[e]
  rfl
 within:=fun i hi k hk=>by have:=hr.fine.within i hi k hk;omega
 one:=fun i hi a b=>hr.fine.one i hi O
 bg:=fun i hi c m=>fN.2 (by
  have q:=h2.bg i (by rw[hs];exact hi) c m
  rw[hs]at q
  exact q.trans (h1.bg i hi c m).symm)
 dv:=fun i hi k hk hd=>by
  have hw:=hr.fine.within i hi k hk
  obtain⟨u,a1,a2,_⟩:=h1.dv i hi k hk hd
  have e:wW id k=k:=by
   obtain⟨a,b,c⟩:=k
   show(⟨((a.toNat:Nat):Int),b,c⟩:Kd)=⟨a,b,c⟩
   rw[dh hw.1]
  obtain⟨u',b1,b2,_⟩:=h2.dv i (by rw[hs];exact hi) k (by rw[hs];exact hk) hd
  rw[hs]at b1 b2
  rw[e,a2,b2,kG a1 b1]
theorem CC{s:Ls Nd}{root:Int}{d:Q}{E1 E2:cw}{v1 v2:Except (Int×Int) (Ls Vl)}(h1:my E1 s root d v1)(h2:my E2 s root d v2):v1=v2:=by
 rcases h1 with⟨q,rfl⟩|⟨q,z,rfl⟩|⟨q,z,rfl,rfl,e1,f1,_,r1⟩
 ·rcases h2 with⟨_,rfl⟩|⟨q',_⟩|⟨q',_⟩
  ·rfl
  ·exact Ab q' q
  exact Ab q' q
 ·rcases h2 with⟨q',_⟩|⟨_,_,rfl⟩|⟨_,z',_⟩
  ·exact Ab q q'
  ·rfl
  omega
 rcases h2 with⟨q',_⟩|⟨_,z',_⟩|⟨_,_,hs,hd,e2,f2,_,r2⟩
 ·exact Ab q q'
 ·omega
 have ah:=v7 q.1 hs hd e1 e2;have hlt:root.toNat<E1.s.length:=O;unfold eI at r1 r2;rw[hd]at r2;have key:∀{E:cw} {f k:Nat} {v:Except (Int×Int) (Ls Vl)},dM.andThen (dJ E f root.toNat 0 E1.d.size 1) (fun vs z=>if z<E1.d.size then U (.error (7,z))else U (.ok vs))=U v->dM.andThen (dJ E (f+k) root.toNat 0 E1.d.size 1) (fun vs z=>if z<E1.d.size then U (.error (7,(z:Int)))else U (.ok vs))=U v:=fun {E f k v} h=>dM.andThen_le (fun u hu=>uG k f _ _ _ _ _ hu) (fun _ _ _ q=>q) h;have a1:=key (k:=f2) r1;have a2:=key (k:=f1) r2;have hiso:=uH ah (f2+f1) root.toNat hlt;rw[id]at hiso;rw[hiso,jR f2 f1,a1]at a2;exact aK a2
end Go.Proofs.YtkkicodfpekbgaaGreatDoor
namespace Go.Proofs.YtkkicodfpekbgaaGreatDoor
open Go.RowKit
def rR(o:dM):Prop:=∀e q,o= .error (e,q)->3<=e/\e<=10
theorem CJ{E:cw}{x y:Nat}(h:(E.hd x y).1≠0):3<=(E.hd x y).1/\(E.hd x y).1<=10:=by
 have:=zL (E.d.extract x y);unfold cw.hd at h ⊢;omega
theorem qx{E:cw}{rec:im}(hr:∀i x y dp o,rec i x y dp=U o->rR o){h:Hd}{x tz:Nat}{dp:Int}:∀(ks:Ls Kd) (j:Nat) {o:dM},bU E rec h x tz dp ks j=U o->rR o
 | [],_,o,e=>by unfold bU at e;cases e;intro a b q;cases q;decide
 |k::ks,j,o,e=>by
  unfold bU at e
  split at e
  ·rcases bJ e with⟨u,h1,rfl⟩|⟨vs,z,h1,h2⟩
   ·exact hr _ _ _ _ _ h1
   ·cases h2;intro a b q;cases q
  ·exact qx hr ks (j+1) e
theorem pJ{E:cw}{rec:im}(hr:∀i x y dp o,rec i x y dp=U o->rR o){tz:Nat}{dp:Int}:∀(ks:Ls Kd) (x:Nat) (acc:Ls Vl) {o:dM},de E rec tz dp ks x acc=U o->rR o
 | [],x,acc,o,e=>by unfold de at e;split at e<;> (cases e;intro a b q;cases q<;>decide)
 |k::ks,x,acc,o,e=>by
  unfold de at e
  split at e
  ·rename_i q;cases e;intro a b p;cases p;exact CJ q.2
  split at e
  ·rcases bJ e with⟨u,h1,rfl⟩|⟨vs,z,h1,h2⟩
   ·exact hr _ _ _ _ _ h1
   ·split at h2
    ·cases h2;intro a b q;cases q;decide
    ·exact pJ hr ks _ _ h2
  split at e
  ·exact pJ hr ks _ _ e
  split at e
  ·exact pJ hr ks _ _ e
  split at e<;> (cases e;intro a b q;cases q<;>decide)
theorem wk{E:cw}{rec:im}(hr:∀i x y dp o,rec i x y dp=U o->rR o){set:Bool}{i tz:Nat}{dp:Int}:∀(m x:Nat) (last:Q) (j:Nat) (acc:Ls Vl) {v:Except (Int×Int) (Nat×Ls Vl)},dA E rec set i tz dp m x last j acc=U v->∀e q,v= .error (e,q)->3<=e/\e<=10
 |0,_,_,_,_,_,e=>by cases e
 |m+1,x,last,j,acc,v,e=>by
  unfold dA at e
  split at e
  ·rcases bJ e with⟨u,h1,rfl⟩|⟨vs,z,h1,h2⟩
   ·intro a b q;cases q;exact hr _ _ _ _ _ h1 _ _ X
   ·split at h2
    ·cases h2;intro a b q;cases q;decide
    ·exact wk hr m _ _ _ _ h2
  ·cases e;intro a b q;cases q
theorem qi{E:cw}{rec:im}(hr:∀i x y dp o,rec i x y dp=U o->rR o){m:Nat}{n:Nd}{cl nu:Int}{h:Hd}{x tz:Nat}{dp:Int}{o:dM}(e:cF E rec m n cl nu h x tz dp=U o):rR o:=by
 unfold cF at e;split at e
 ·exact qx hr _ _ e
 split at e
 ·cases e;intro a b q;cases q;decide
 split at e
 ·cases e;intro a b q;cases q;decide
 split at e
 ·cases e;intro a b q;cases q
 split at e
 ·split at e
  ·cases e
  ·rename_i u hs;cases e;intro a b q;cases q;exact pJ hr _ _ _ hs _ _ X
  cases e;intro a b q;cases q
 split at e
 ·split at e
  ·cases e
  ·rename_i u hs;cases e;intro a b q;cases q;exact wk hr _ _ _ _ _ hs _ _ X
  cases e;intro a b q;cases q
 split at e
 ·cases e;intro a b q;cases q
 cases e;intro a b q;cases q;decide
theorem EK{E:cw}{rec:im}(hr:∀i x y dp o,rec i x y dp=U o->rR o){m i:Nat}{h:Hd}{x tz:Nat}{dp:Int}{o:dM}(e:iQ E rec m i h x tz dp=U o):rR o:=by
 unfold iQ at e;split at e
 ·exact qi hr e
 split at e
 ·exact qi hr e
 split at e
 ·cases e;intro a b q;cases q;decide
 split at e
 ·cases e;intro a b q;cases q;decide
 split at e
 ·rename_i q;cases e;intro a b p;cases p;exact CJ q
 rcases bJ e with⟨u,h1,rfl⟩|⟨vs,z,h1,h2⟩
 ·exact qi hr h1
 split at h2<;> (cases h2;intro a b q;cases q<;>decide)
theorem C0{E:cw}:∀(f i x y:Nat) (dp:Int) (o:dM),dJ E f i x y dp=U o->rR o
 |0,_,_,_,_,_,e=>by cases e
 |f+1,i,x,y,dp,o,e=>by
  rw[dJ]at e
  split at e
  ·rename_i q;cases e;intro a b p;cases p;exact CJ q
  ·exact EK (C0 f) e
theorem C5{E:cw}{f root:Nat}{v:Except (Int×Int) (Ls Vl)}(h:eI E f root=U v):∀e q,v= .error (e,q)->3<=e/\e<=10:=by
 unfold eI at h;rcases bJ h with⟨u,h1,rfl⟩|⟨vs,z,h1,h2⟩
 ·intro a b q;cases q;exact C0 _ _ _ _ _ _ h1 _ _ X
 split at h2<;> (cases h2;intro a b q;cases q<;>decide)
structure fO where
 kind:Q
 must:Bool
 body:Q
def dV(ms:Ls fO):Ls Vv:=ms.flatMap fun m=> [Y m.kind,Bo m.must,Y m.body]
theorem j7(ms:Ls fO)(m:fO):dV (ms++[m])=dV ms++[Y m.kind,Bo m.must,Y m.body]:=by unfold dV;simp
def iy:fO:=⟨bh,false,bh⟩
theorem lf:∀(l:Ls fO) (i:Nat),i<l.length->∀j,j<3->(dV l)[i*3+j]? =[Value.string (l.getD i iy).kind,Bo (l.getD i iy).must,Y (l.getD i iy).body][j]?
 | [],i,h,_,_=>Ab h (aO _)
 |v::l,0,_,j,hj=>by
  unfold dV
  rw[dx,cm (by show 0*3+j<3;omega),zA,b9]
  rfl
 |v::l,i+1,h,j,hj=>by
  have ih:=lf l i (by simpa using h) j hj
  unfold dV at ih ⊢
  rw[dx,bu (by show 3<=_;omega)]
  show(l.flatMap _)[(i+1)*3+j-3]? =_
  rw[show(i+1)*3+j-3=i*3+j by omega,ih,Iv]
def fj(w:M)(a:Oo Ad)(ms:Ls fO):Prop:=∀j,j<ms.length->∃g o,a=U (D g o Z)/\w.cell? (D g (o+j*3) Z)=U (Y (ms.getD j iy).kind)/\w.cell? (D g (o+j*3+1) Z)=U (Bo (ms.getD j iy).must)/\w.cell? (D g (o+j*3+2) Z)=U (Y (ms.getD j iy).body)
theorem fj.below{w w':M}{a:Oo Ad}{ms:Ls fO}(h:fj w a ms)(hb:H w.heap.size w w'):fj w' a ms:=fun j hj=>by obtain⟨g,o,e,h1,h2,h3⟩:=h j hj;exact⟨g,o,e,(hb.cell (aw h1)).trans h1,(hb.cell (aw h2)).trans h2,(hb.cell (aw h3)).trans h3⟩
theorem fj.of_own{w:M}{base:Nat}{a:Oo Ad}{c:Nat}{ms:Ls fO}(h:w.ownsRow base 73 3 (S a ms.length c) ms.length (dV ms)):fj w a ms:=fun j hj=>by
 rcases h.2 with⟨_,h0⟩|⟨g,cap,cur,e,_⟩
 ·omega
 injection e with e1 _ _;subst e1;have q:=h.cells (g:=g) X;have add0':∀k,((D g 0 Z):Ad).add k=(D g k Z):=fun k=>by unfold Addr.add;split<;>simp_all
 refine⟨g,0,X,?_,?_,?_⟩ <;>rw[b9]
 ·have:=q (j*3) _ ((lf ms j hj 0 Dc).trans X);rwa[add0']at this
 ·have:=q (j*3+1) _ ((lf ms j hj 1 Dc).trans X);rwa[add0']at this
 have:=q (j*3+2) _ ((lf ms j hj 2 Dc).trans X);rwa[add0']at this
abbrev mF:Q:=⟨#[85,29,19]⟩
abbrev mG:Q:=⟨#[85,29,15]⟩
def ns(b:Q):Prop:=∃E vs,my E lS 0 b (.ok vs)
def lI(b:Q):Prop:=∃u,cu ⟨5, -1,0,[]⟩ b u
def gX(m:fO):Prop:=(m.kind=mF/\ns m.body)\/(m.kind=mG/\lI m.body)\/(m.kind≠mF/\m.kind≠mG/\aR 4 m.kind/\m.must=false)
def tM(ms:Ls fO)(n:Nat):Prop:=∀i,i<n->gX (ms.getD i iy)/\∀j,j<i->(ms.getD j iy).kind≠(ms.getD i iy).kind
def dd(ms:Ls fO):Prop:=tM ms ms.length
def Hy(ms:Ls fO):Prop:=∀j,j<ms.length->(ms.getD j iy).kind.size<=140737488355328/\(ms.getD j iy).body.size<=140737488355328
theorem ue{a b:Q}:(a.toList==b.toList)=true↔a=b:=by
 rw[bV,Lib.toList_data,Lib.toList_data];constructor
 ·intro h;exact bC (Array.toList_inj.1 h)
 rintro rfl;rfl
theorem gY{a b:Q}(h:a≠b):(a.toList==b.toList)=false:=Bool.eq_false_iff.2 fun q=>h (ue.1 q)
end Go.Proofs.YtkkicodfpekbgaaGreatDoor
namespace Go.Proofs.YtkkicodfpekbgaaGreatDoor
open Go.Proofs.Tryz
open Go.RowKit
theorem xZ(E:cw)(W:M)(R:Nat)(a:Oo Ad)(c f:Nat)(hc:RC E W a)(hN:kv E W R a c f)(i:Nat)(hi:i<E.s.length)(ka:Oo Ad)(kc:Nat)(hka:be W ka (nd E.s i).kids)(hkc:(nd E.s i).kids.length<=kc)(g:Hd)(x tz:Nat)(dp:Int)(o:dM)(tree:Ls Vl)(p:Int)(w:M)(hm:bU E (dJ E f) g x tz dp (nd E.s i).kids 0=U o)(hxz:x<=tz)(hz:tz<=E.d.size)(hd1:1<=dp)(hd2:dp<=13)(hroom:du tree (f+1) x tz)(hI:dk W w R a E.s.length c E.d tree 0 p):Cs prog 143 #[Po (U (D R 0 Z)),Ag #[I J (nd E.s i).kind,I J (nd E.s i).tag,I J (nd E.s i).mode,S ka (nd E.s i).kids.length kc],Ag #[I J g.c,Bo g.b,I J g.n,I J g.s,I J g.l],I J x,I J tz,I J dp] w fun e w'=>e=Rt (Tu #[])/\fh E W R a c o tree p w w':=by
 have hE:=lK (jn f) _ _ hm;have HE:Hi _:=hE;have HC:Hi _:=hc;have HN:Hi (kv E W R a c f):=hN;have HKI:Hi (be W ka (nd E.s i).kids):=hka;have HM:Hi (bU E (dJ E f) g x tz dp ((nd E.s i).kids.drop 0) 0=U o):=hm;have HI:Hi (dk W w R a E.s.length c E.d tree 0 p):=hI;have hRl:R<w.heap.size:=aw hI.r0;have HRO:Hi (du tree (f+1) x tz):=hroom;have HKR:Hi (∀j,j<(nd E.s i).kids.length->∃t:Nat,(kd (nd E.s i) j).node=t/\t<E.s.length):=fun j hj=>by have:=hc.right.fine.within i hi _ (fU hj);exact⟨(kd (nd E.s i) j).node.toNat,O,O⟩
 have hk8:=hc.right.fine.eight i hi;have hs40:=hc.right.fine.len;have HA:Hi (∀A B,H w.heap.size w ((w.alloc A).alloc B)):=fun A B=>((aY w.heap.size w).alloc Ln A).alloc Sq B;clear hc hN hka hm hI hroom hE hi;go_enter func143,ntmps143;go_wp2;generalize hW0:(w.alloc (C #[I J (nd E.s i).kind,I J (nd E.s i).tag,I J (nd E.s i).mode,S ka (nd E.s i).kids.length kc] 58)).alloc (C #[I J g.c,Bo g.b,I J g.n,I J g.s,I J g.l] 179)=w0;have HB0:Hi (H w.heap.size w w0):=by show H w.heap.size w w0;rw[<-hW0];exact HA _ _
 have HG1:Hi (w0.heap[w.heap.size]? =U (C #[I J (nd E.s i).kind,I J (nd E.s i).tag,I J (nd E.s i).mode,S ka (nd E.s i).kids.length kc] 58 (0,0))):=by show w0.heap[w.heap.size]? =_;rw[<-hW0];exact ax (aA w _) Be
 have HG2:Hi (w0.heap[w.heap.size+1]? =U (C #[I J g.c,Bo g.b,I J g.n,I J g.s,I J g.l] 179 (0,0))):=by show w0.heap[w.heap.size+1]? =_;rw[<-hW0];have q:=aA (w.alloc (C #[I J (nd E.s i).kind,I J (nd E.s i).tag,I J (nd E.s i).mode,S ka (nd E.s i).kids.length kc] 58)) (C #[I J g.c,Bo g.b,I J g.n,I J g.s,I J g.l] 179);simpa using q
 have HI0:Hi (dk W w0 R a E.s.length c E.d tree 0 p):=HI.below HB0;clear hW0 HA;go_loopw [12] (fun vj wq=>∃j:Nat,j<=(nd E.s i).kids.length/\vj=I J j/\bU E (dJ E f) g x tz dp ((nd E.s i).kids.drop j) j=U o/\H w0.heap.size w0 wq) (fun vj _=>(nd E.s i).kids.length-(Io vj).toNat);case atStart=>exact⟨0,Lz,X,HM,By⟩
 obtain⟨j,hj,rfl,hmj,hbr⟩:=hrel;have HMJ:Hi (bU E (dJ E f) g x tz dp ((nd E.s i).kids.drop j) j=U o):=hmj;have HB:Hi (H w0.heap.size w0 wr):=hbr;have HIr:Hi (dk W wr R a E.s.length c E.d tree 0 p):=HI0.below hbr;have HFr:Hi (Fr R w wr):=(Fr.of_below HB0).below hbr;have HR1:Hi _:=ax HG1 hbr;have HR2:Hi _:=ax HG2 hbr;have n3:wr.cell? (D w.heap.size 3 Z)=U (S ka (nd E.s i).kids.length kc):=cell_of_row HR1 X;clear hmj hbr;by_cases hlt:j<(nd E.s i).kids.length
 ·have hlt':(j:Int)<(nd E.s i).kids.length:=O;obtain⟨kb,ko,rfl,kcl⟩:=HKI j hlt;obtain⟨t,ht,htl⟩:=HKR j hlt;obtain⟨k1,_,_⟩:=kcl.below HIr.bel;have k1':wr.cell? (D kb (ko+j*3) Z)=U (I J t):=by rw[<-ht];exact k1
  have htn:(kd (nd E.s i) j).node.toNat=t:=O;have HT:Hi _:=htn;have HBG:Hi (∀x:b7 wr,Cs prog 100 #[S a E.s.length c,I J t,I J g.c,I J g.n] x.v fun e w''=>e=Rt (Bo (E.bg t g.c g.n))/\∃y:b7 wr,w''=y.v):=fun x=>b7.callsR (HC.bg t htl g.c g.n) (mY E.s a c t g.c g.n x.v (HC.sch.below (HIr.bel.trans (x.h.mono HIr.bel.size))) (gD HC.right.2.2.1) (fu HC.right.2.2.1) htl hs40);have X0:∀x:b7 wr,x.v.cell? (D R 0 Z)=U (S a E.s.length c):=fun x=>x.cell HIr.r0;have X1:∀x:b7 wr,x.v.cell? (D w.heap.size 3 Z)=U (S (U (D kb ko Z)) (nd E.s i).kids.length kc):=fun x=>x.cell n3;have X2:∀x:b7 wr,x.v.cell? (D kb (ko+j*3) Z)=U (I J t):=fun x=>x.cell k1';have X3:∀x:b7 wr,x.v.cell? (D (w.heap.size+1) 0 Z)=U (I J g.c):=fun x=>x.cell (cell_of_row HR2 X);have X4:∀x:b7 wr,x.v.cell? (D (w.heap.size+1) 2 Z)=U (I J g.n):=fun x=>x.cell (cell_of_row HR2 X);clear k1 kcl ht htn;go_wp2_with fail;(have ne:=eX;refine bP Kr Kr ?_;(repeat(first|go_big_quiet_skip|(go_big_quiet_want;go_big_quiet_op;first|go_big_quiet_on|(apply Exists.intro;refine⟨fun x=>?_,?_⟩;(·(exact HBG x));go_big_quiet_on))));refine dW ?_);intro w5 hb5;have HB5:Hi _:=hb5;have HI5:Hi _:=HIr.below hb5;have HF5:Hi (Fr R w w5):=HFr.below hb5;have HS1:Hi _:=ax HR1 hb5;have HK5:Hi _:=(hb5.cell (aw k1')).trans k1';have HBW:Hi (kb<W.heap.size/\W.cell? (D kb (ko+j*3) Z)=U (I J t)):=by obtain⟨kb',ko',he,kcl⟩:=HKI j hlt;(obtain⟨rfl,rfl⟩:kb=kb'/\ko=ko':=by injection he with he;injection he with e1 e2;exact⟨e1,e2⟩);obtain⟨t',ht',_⟩:=HKR j hlt;(have:t'=t:=by have:=HT.out;omega);subst this;exact⟨aw kcl.node,by rw[<-ht'];exact kcl.node⟩
  clear X0 X1 X2 X3 X4 hb5 HBG n3 k1';cases hbg:E.bg t g.c g.n
  ·have HNX:Hi (bU E (dJ E f) g x tz dp ((nd E.s i).kids.drop (j+1)) (j+1)=U o):=qz hlt HMJ (by rw[HT.out];exact hbg);clear hbg;go_wp2;go_roundw;case rel=>exact⟨j+1,O,Gn,HNX,HB.trans (HB5.mono HB.size)⟩
   case measure=>exact Ms
  obtain⟨o',hr,ho⟩:=oX hlt HMJ (by rw[HT.out];exact hbg);rw[HT.out]at hr;have HREC:Hi _:=hr;have HO:Hi _:=ho;clear hbg hr ho;have hl1:tree.length<=1099511627776:=by have:=HRO.out;unfold du at this;omega
  have HRO2:Hi (du (tree++[⟨13,⟨#[]⟩,(j:Int),1⟩]) f x tz):=by show du _ _ _ _;have:=HRO.out;unfold du at this ⊢;simp only[aQ,aU,bD];omega
  go_wp2_with fail;refine(mo W _ R a E.s.length c E.d tree 0 p ⟨13,⟨#[]⟩,j,1⟩ HI5 hl1).mono ?_;rintro e w6 ⟨rfl,hI6,hf6⟩;have HI6:Hi _:=hI6;have HF6:Hi (Fr R w w6):=HF5.trans hf6;have m3:w6.cell? (D w.heap.size 3 Z)=U (S (U (D kb ko Z)) (nd E.s i).kids.length kc):=cell_of_row (hf6 _ _ _ O Dc HS1) X;have k6:w6.cell? (D kb (ko+j*3) Z)=U (I J t):=(hI6.bel.cell (p:=D kb (ko+j*3) Z) HBW.1).trans HBW.2;clear hI6 hf6;go_wp2_with fail;refine(HN t x tz dp o' _ p _ HREC htl hxz hz hd1 hd2 HRO2 HI6).mono ?_;rintro e w7 ⟨v,rfl,ha7,_⟩;have HA7:Hi _:=ha7;clear ha7 m3 k6;go_wp2;refine aS (C8 X _ _ _) X ?_;refine⟨X,?_⟩;obtain⟨t',e',p',q1,q2,q3⟩:=HA7.out;refine⟨t',e',p',q1,?_,HF6.trans q3⟩;rcases HO with⟨u,rfl,ho⟩|⟨vs,z,rfl,ho⟩
  ·obtain⟨u1,u2⟩:=u;obtain⟨r1,r2,_⟩:=q2;subst r1 r2;exact jW HE ho _ _ _
  obtain⟨r1,r2,r3⟩:=q2;subst r1 r2 r3 ho;have:=Ga (⟨13,bh,(j:Int),1⟩::vs) tz tree p';simpa using this
 have hlt':((nd E.s i).kids.length:Int)<=j:=O;have HEQ:Hi (o= .error (4,(x:Int))):=by show o=_;have:=HMJ.out;rw[gT O]at this;unfold bU at this;exact(aK this).symm
 go_wp2_with fail;refine(bO W _ R a E.s.length c E.d tree p 4 x HIr).mono ?_;rintro e w6 ⟨rfl,hI6,hoth⟩;have HI6:Hi _:=hI6;have HF6:Hi _:=HFr.trans (Fr.of_same hoth);clear hI6 hoth;go_wp2;go_end0;exact⟨X,tree,4,x,HI6,jW HE HEQ _ _ _,HF6⟩
theorem mZ{a b:Q}(h:a≠b):(a.toList !=b.toList)=true:=by unfold bne;rw[gY h];rfl
theorem F9{a b:Ls fO}(hl:a.length=b.length)(h:∀i,i<a.length->a.getD i iy=b.getD i iy):a=b:=by
 apply oR hl;intro i h1 h2;have:=h i h1;rwa[aB,aB,aC h1,aC h2]at this
def Alike(v1 v2:Int)(s1 n1 f1 t1 k1 s2 n2 f2 t2 k2:Q):Prop:=v1=v2/\s1=s2/\n1=n2/\f1=f2/\t1=t2/\k1=k2
theorem qR(v1 v2:Int)(s1 n1 f1 t1 k1 s2 n2 f2 t2 k2:Q)(m1 m2:Ls fO)(a1 a2:Oo Ad)(c1 c2:Nat)(w:M)(h1:fj w a1 m1)(h2:fj w a2 m2)(z1:m1.length<=1000000)(z2:m2.length<=1000000):Cs prog 50 #[bW v1 s1 n1 f1 t1 k1 (S a1 m1.length c1),bW v2 s2 n2 f2 t2 k2 (S a2 m2.length c2)] w fun e w'=>dB (Alike v1 v2 s1 n1 f1 t1 k1 s2 n2 f2 t2 k2/\m1=m2) w e w':=by
 have HB2:∀x y,Hi (H w.heap.size w ((w.alloc x).alloc y)):=fun x y=>(Be).alloc Sq _;have H1:∀x y,Hi (fj ((w.alloc x).alloc y) a1 m1):=fun x y=>h1.below (HB2 x y).out;have H2:∀x y,Hi (fj ((w.alloc x).alloc y) a2 m2):=fun x y=>h2.below (HB2 x y).out;clear h1 h2;unfold bW;by_cases e1:v1=v2
 ·subst e1;by_cases e2:s1=s2
  ·subst e2;by_cases e3:n1=n2
   ·subst e3;by_cases e4:f1=f2
    ·subst e4;by_cases e5:t1=t2
     ·subst e5;by_cases e6:k1=k2
      ·subst e6;by_cases e7:m1.length=m2.length
       ·have e7':(m1.length:Int)=m2.length:=O;go_enter func50,ntmps50;go_wp2_with fail;generalize hW:(w.alloc _).alloc _=W;(have hb2:W.heap[w.heap.size+1]? =U (C #[I J v1,Y s1,Y n1,Y f1,Y t1,Y k1,S a2 m2.length c2] 68 (0,0)):=by rw[<-hW];simpa using aA (w.alloc _) _);(have hb1:W.heap[w.heap.size]? =U (C #[I J v1,Y s1,Y n1,Y f1,Y t1,Y k1,S a1 m2.length c1] 68 (0,0)):=by rw[<-hW];exact(bM _ _ _ Sq).trans (aA w _));(have G1:Hi (fj W a1 m1):=by rw[<-hW];exact H1 _ _);(have G2:Hi (fj W a2 m2):=by rw[<-hW];exact H2 _ _);(have GB:Hi (H w.heap.size w W):=by rw[<-hW];exact HB2 _ _);(have d1:W.cell? (D w.heap.size 6 Z)=U (S a1 m2.length c1):=by simp[Wc,hb1]);(have d2:W.cell? (D (w.heap.size+1) 6 Z)=U (S a2 m2.length c2):=by simp[Wc,hb2]);have l2:w.heap.size+1<W.heap.size:=aw d2;clear hW hb1 hb2 H1 H2 HB2;go_loopw [5] (fun i wr=>∃k:Nat,k<=m1.length/\i=I J k/\(∃q,wr=W.drewN q)/\∀j,j<k->m1.getD j iy=m2.getD j iy) (fun i _=>m1.length-(Io i).toNat);case atStart=>exact⟨0,Lz,X,⟨0,X⟩,fun j hj=>Ab hj (aO _)⟩
        obtain⟨k,hk,rfl,⟨q,rfl⟩,hE⟩:=hrel;have HE:Hi _:=hE;clear hE;by_cases hlt:k<m1.length
        ·obtain⟨g1,o1,rfl,x1,x2,x3⟩:=G1 k hlt;obtain⟨g2,o2,rfl,y1,y2,y3⟩:=G2 k O;have hlt2:(k:Int)<m2.length:=O;obtain⟨x,hx⟩:∃x,m1.getD k iy=x:=Ey;obtain⟨y,hy⟩:∃y,m2.getD k iy=y:=Ey;have HX:Hi _:=hx;have HY:Hi _:=hy;rw[hx]at x1 x2 x3;rw[hy]at y1 y2 y3;clear hx hy;obtain⟨xk,xm,xb⟩:=x;obtain⟨yk,ym,yb⟩:=y;simp only at x1 x2 x3 y1 y2 y3;by_cases q1:xk=yk
         ·subst q1;by_cases q2:xm=ym
          ·subst q2;by_cases q3:xb=yb
           ·subst q3;go_wp2;go_quiet (fail);go_wp2;go_roundw
            case rel=>exact⟨k+1,O,Gn,⟨_,X⟩,fun j hj=>by
             by_cases hjk:j<k
             ·exact HE j hjk
             obtain rfl:j=k:=O;rw[HX,HY.out]⟩
            case measure=>exact Ms
           have b6:=gY q3;have b6':=mZ q3;go_wp2;go_quiet (fail);go_wp2;go_ret;exact bc (fun z=>q3 (by have e:=HX.out;rw[z.2,HY.out]at e;injection e with _ _ e;exact e.symm)) (Go.below_drewN (Go.below_drewN GB.out _) _)
          (have b6:(xm==ym)=false:=by simp[q2]);(have b6':(xm !=ym)=true:=by simp[q2]);go_wp2;go_quiet (fail);go_wp2;go_ret;exact bc (fun z=>q2 (by have e:=HX.out;rw[z.2,HY.out]at e;injection e with _ e _;exact e.symm)) (Go.below_drewN (Go.below_drewN GB.out _) _)
         have b6:=gY q1;have b6':=mZ q1;go_wp2;go_quiet (fail);go_wp2;go_ret;exact bc (fun z=>q1 (by have e:=HX.out;rw[z.2,HY.out]at e;injection e with e _ _;exact e.symm)) (Go.below_drewN (Go.below_drewN GB.out _) _)
        have hlt':¬(k:Int)<m2.length:=O;have HL:Hi (k=m1.length/\m1.length=m2.length):=⟨O,e7⟩;go_wp2;go_ret;exact bS ⟨⟨X,X,X,X,X,X⟩,F9 HL.2 (by rw[<-HL.1];exact HE)⟩ (Go.below_drewN GB _)
       have e7':¬(m1.length:Int)=m2.length:=O;have e7b:((m1.length:Int)==m2.length)=false:=So;clear H1 H2;go_enter func50,ntmps50;go_wp2;go_ret;exact bc (fun q=>e7 (by rw[q.2])) (HB2 _ _).out
      have b6:=gY e6;have b6':=mZ e6;clear H1 H2;go_enter func50,ntmps50;go_wp2;go_ret;exact bc (fun q=>e6 q.1.2.2.2.2.2) (HB2 _ _).out
     have b6:=gY e5;have b6':=mZ e5;clear H1 H2;go_enter func50,ntmps50;go_wp2;go_ret;exact bc (fun q=>e5 q.1.2.2.2.2.1) (HB2 _ _).out
    have b6:=gY e4;have b6':=mZ e4;clear H1 H2;go_enter func50,ntmps50;go_wp2;go_ret;exact bc (fun q=>e4 q.1.2.2.2.1) (HB2 _ _).out
   have b6:=gY e3;have b6':=mZ e3;clear H1 H2;go_enter func50,ntmps50;go_wp2;go_ret;exact bc (fun q=>e3 q.1.2.2.1) (HB2 _ _).out
  have b6:=gY e2;have b6':=mZ e2;clear H1 H2;go_enter func50,ntmps50;go_wp2;go_ret;exact bc (fun q=>e2 q.1.2.1) (HB2 _ _).out
 have b6:(v1==v2)=false:=by simp[e1]
 have b6':(v1 !=v2)=true:=by simp[e1]
 clear H1 H2;go_enter func50,ntmps50;go_wp2;go_ret;exact bc (fun q=>e1 q.1.1) (HB2 _ _).out
end Go.Proofs.YtkkicodfpekbgaaGreatDoor
