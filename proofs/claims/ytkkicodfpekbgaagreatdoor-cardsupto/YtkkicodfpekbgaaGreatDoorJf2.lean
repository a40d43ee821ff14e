/-
Several texts in one.
-/
import Derived.Test.YtkkicodfpekbgaaGreatDoorJe0
import Derived.Test.YtkkicodfpekbgaaGreatDoorJe1
import Derived.Test.YtkkicodfpekbgaaGreatDoorJd4
open Go.Value renaming int->I,string->Y,slice->S,pointer->Po,bool->Bo,agg->Ag,tuple->Tu,iface->If
open Go.IntKind renaming i64->J
open Go.Obj renaming cells->C
open Go.Ending renaming returned->Rt
open Option renaming some->U,none->Z
open Go renaming World->M,Calls->Cs,Addr->Ad,Value->Vv
open _root_ renaming ByteArray->Q,Option->Oo,List->Ls
open Go.RowKit renaming Below->H,intOf->Io,Hid->Hi
open Go.World renaming cell?->Wc
open Go.Addr renaming mk->D
set_option linter.unusedSimpArgs false
set_option linter.unusedVariables false
set_option maxRecDepth 100000
set_option maxHeartbeats 8000000
namespace Go.Proofs.YtkkicodfpekbgaaGreatDoor
theorem pI{E:cw}{f i x y:Nat}{dp:Int}{vs:Ls Vl}{z:Nat}(h:dJ E (f+1) i x y dp=U (.ok (vs,z))):∃cl nu hh x' tz z',cF E (dJ E f) f (nd E.s i) cl nu hh x' tz dp=U (.ok (vs,z')):=by
 rw[dJ]at h;split at h
 ·cases h
 unfold iQ at h;split at h
 ·exact⟨_,_,_,_,_,_,h⟩
 split at h
 ·exact⟨_,_,_,_,_,_,h⟩
 split at h
 ·cases h
 split at h
 ·cases h
 split at h
 ·cases h
 obtain⟨us,z',h1,h2⟩:=cY h;split at h2
 ·cases h2
 cases h2;exact⟨_,_,_,_,_,_,h1⟩
def Rd(E:cw)(i:Nat)(vs:Ls Vl):Prop:=∃f x y dp z,dJ E f i x y dp=U (.ok (vs,z))
theorem Rd.leaf{E:cw}{i:Nat}{vs:Ls Vl}(h:Rd E i vs)(hk:(nd E.s i).kind<=9):∃t,vs=[⟨(nd E.s i).kind,t,0,0⟩]/\E.ok (nd E.s i).kind t=true:=by
 obtain⟨f,x,y,dp,z,h⟩:=h
 cases f with
 |zero=>cases h
 |succ f=>
  obtain⟨cl,nu,hh,x',tz,z',e⟩:=pI h
  unfold cF at e
  rw[G O]at e
  split at e
  ·cases e
  split at e
  ·cases e
  rw[G O,G O,G O]at e
  split at e
  ·rename_i q;cases e;exact⟨_,X,q⟩
  ·cases e
theorem Rd.choice{E:cw}{i:Nat}{vs:Ls Vl}(h:Rd E i vs)(hk:(nd E.s i).kind=13):∃j us,j<(nd E.s i).kids.length/\vs=⟨13,bh,(j:Nat),1⟩::us/\Rd E (kd (nd E.s i) j).node.toNat us:=by
 obtain⟨f,x,y,dp,z,h⟩:=h
 cases f with
 |zero=>cases h
 |succ f=>
  obtain⟨cl,nu,hh,x',tz,z',e⟩:=pI h
  unfold cF at e
  rw[aG hk]at e
  have key:∀(c j:Nat),j+c=(nd E.s i).kids.length->bU E (dJ E f) hh x' tz dp ((nd E.s i).kids.drop j) j=U (.ok (vs,z'))->∃j us,j<(nd E.s i).kids.length/\vs=⟨13,bh,(j:Nat),1⟩::us/\Rd E (kd (nd E.s i) j).node.toNat us:=fun c=>by
   induction c with
   |zero=>
    intro j hj e
    rw[eA O]at e
    cases e
   |succ c ih=>
    intro j hj e
    rw[iY O]at e
    unfold bU at e
    split at e
    ·obtain⟨us,z2,h1,h2⟩:=cY e
     cases h2
     exact⟨j,us,O,X,_,_,_,_,_,h1⟩
    ·exact ih (j+1) O e
  exact key _ 0 (b9 _) (by rw[gE];exact e)
def oq(E:cw):Ls Kd->Ls Vl->Prop
 | [],us=>us=[]
 |k::ks,us=>∃a b,us=a++b/\(Rd E k.node.toNat a\/(k.opt=true/\a=[⟨15,bh,0,0⟩])\/(k.opt=false/\k.dflt.size≠0/\a=[E.dv k]))/\oq E ks b
theorem n7{E:cw}{f:Nat}{tz:Nat}{dp:Int}:∀(ks:Ls Kd) (x:Nat) (acc vs:Ls Vl) (z:Nat),de E (dJ E f) tz dp ks x acc=U (.ok (vs,z))->∃us,vs=acc++us/\oq E ks us
 | [],x,acc,vs,z,e=>by
   unfold de at e
   split at e
   ·cases e
   ·cases e;exact⟨[],Sq,X⟩
 |k::ks,x,acc,vs,z,e=>by
  unfold de at e
  split at e
  ·cases e
  split at e
  ·obtain⟨us,z',h1,h2⟩:=cY e
   split at h2
   ·cases h2
   ·obtain⟨b,hb,hI⟩:=n7 ks z' _ vs z h2
    exact⟨us++b,by rw[hb,bE],us,b,X,.inl ⟨_,_,_,_,_,h1⟩,hI⟩
  split at e
  ·rename_i ho
   obtain⟨b,hb,hI⟩:=n7 ks x _ vs z e
   exact⟨_++b,by rw[hb,bE],_,b,X,.inr (.inl ⟨ho,X⟩),hI⟩
  rename_i ho
  split at e
  ·rename_i hd
   obtain⟨b,hb,hI⟩:=n7 ks x _ vs z e
   exact⟨_++b,by rw[hb,bE],_,b,X,.inr (.inr ⟨by simpa using ho,hd,X⟩),hI⟩
  split at e<;>cases e
theorem Rd.seq{E:cw}{i:Nat}{vs:Ls Vl}(h:Rd E i vs)(hk:(nd E.s i).kind=10):∃us,vs=⟨10,bh,0,((nd E.s i).kids.length:Nat)⟩::us/\oq E (nd E.s i).kids us:=by
 obtain⟨f,x,y,dp,z,h⟩:=h
 cases f with
 |zero=>cases h
 |succ f=>
  obtain⟨cl,nu,hh,x',tz,z',e⟩:=pI h
  unfold cF at e
  rw[G O]at e
  split at e
  ·cases e
  split at e
  ·cases e
  rw[G O]at e
  try rw[aG hk]at e
  split at e
  ·cases e
  ·cases e
  ·rename_i us z2 hs
   cases e
   obtain⟨us',hu,hI⟩:=n7 _ _ _ _ _ hs
   rw[fg]at hu
   subst hu
   exact⟨_,X,hI⟩
def zx(E:cw)(i:Nat):Nat->Ls Vl->Prop
 |0,us=>us=[]
 |n+1,us=>∃a b,us=a++b/\Rd E i a/\zx E i n b
theorem sK{E:cw}{f:Nat}{set:Bool}{i tz:Nat}{dp:Int}:∀(m x:Nat) (last:Q) (j:Nat) (acc:Ls Vl) (j':Nat) (vs:Ls Vl),dA E (dJ E f) set i tz dp m x last j acc=U (.ok (j',vs))->∃n us,j'=j+n/\vs=acc++us/\zx E i n us
 |0,_,_,_,_,_,_,e=>by cases e
 |m+1,x,last,j,acc,j',vs,e=>by
  unfold dA at e
  split at e
  ·obtain⟨us,z',h1,h2⟩:=cY e
   split at h2
   ·cases h2
   ·obtain⟨n,b,hj,hb,hI⟩:=sK m z' _ _ _ _ _ h2
    exact⟨n+1,us++b,O,by rw[hb,bE],us,b,X,⟨_,_,_,_,_,h1⟩,hI⟩
  ·cases e;exact⟨0,[],X,Sq,X⟩
theorem Rd.many{E:cw}{i:Nat}{vs:Ls Vl}(h:Rd E i vs)(hk:(nd E.s i).kind=11):∃n us,vs=⟨11,bh,0,(n:Nat)⟩::us/\zx E (kd (nd E.s i) 0).node.toNat n us:=by
 obtain⟨f,x,y,dp,z,h⟩:=h
 cases f with
 |zero=>cases h
 |succ f=>
  obtain⟨cl,nu,hh,x',tz,z',e⟩:=pI h
  unfold cF at e
  rw[G O]at e
  split at e
  ·cases e
  split at e
  ·cases e
  rw[G O,G O,aG O]at e
  split at e
  ·cases e
  ·cases e
  ·rename_i j us hs
   cases e
   obtain⟨n,us',hj,hu,hI⟩:=sK _ _ _ _ _ _ _ hs
   rw[fg]at hu
   rw[b9]at hj
   subst hu hj
   rw[hk]
   exact⟨_,_,X,hI⟩
def mO(vt s n:Q)(pr:Bool)(ft tt k:Q):Ls Vl:=[⟨10,bh,0,6⟩,⟨2,vt,0,0⟩,⟨2,s,0,0⟩,⟨13,bh,if pr then 0 else 1,1⟩,⟨if pr then 8 else 7,n,0,0⟩,⟨10,bh,0,2⟩,⟨9,ft,0,0⟩,⟨9,tt,0,0⟩,⟨5,k,0,0⟩]
def fG(q:Q×Q×Q):Ls Vl:=[⟨10,bh,0,3⟩,⟨4,q.1,0,0⟩,⟨1,q.2.1,0,0⟩,⟨6,q.2.2,0,0⟩]
def jf(o:Oo (Ls (Q×Q×Q))):Ls Vl:=
 match o with
 |none=> [⟨15,bh,0,0⟩]
 |some qs=>⟨11,bh,0,(qs.length:Nat)⟩::qs.flatMap fG
structure CT where
 vt:Q
 s:Q
 n:Q
 pr:Bool
 ft:Q
 tt:Q
 k:Q
 ms:Oo (Ls (Q×Q×Q))
def CT.tree(c:CT):Ls Vl:=mO c.vt c.s c.n c.pr c.ft c.tt c.k++jf c.ms
structure CT.Ok(c:CT):Prop where
 vt:aR 2 c.vt
 s:aR 2 c.s
 n:aR (if c.pr then 8 else 7) c.n
 ft:aR 9 c.ft
 tt:aR 9 c.tt
 k:aR 5 c.k
 ms:∀qs,c.ms=U qs->∀q∈qs,aR 4 q.1/\aR 1 q.2.1
theorem tG{E:cw}{k:Kd}{ks:Ls Kd}{us:Ls Vl}(h:oq E (k::ks) us)(ho:k.opt=false)(hd:k.dflt.size=0):∃a b,us=a++b/\Rd E k.node.toNat a/\oq E ks b:=by
 obtain⟨a,b,e,h1,h2⟩:=h;rcases h1 with h1|⟨h1,_⟩|⟨_,h1,_⟩
 ·exact⟨a,b,e,h1,h2⟩
 ·rw[ho]at h1;cases h1
 exact Ab hd h1
theorem tF{E:cw}(hE:gp E){i:Nat}(hi:i<E.s.length){k:Kd}(hk:k∈(nd E.s i).kids){ks:Ls Kd}{us:Ls Vl}(h:oq E (k::ks) us)(ho:k.opt=false)(h9:(nd E.s k.node.toNat).kind<=9)(ht:(nd E.s k.node.toNat).tag<0->(nd E.s k.node.toNat).mode=0)(hm:(nd E.s k.node.toNat).mode=0\/(nd E.s k.node.toNat).mode=1):∃t b,us=⟨(nd E.s k.node.toNat).kind,t,0,0⟩::b/\aR (nd E.s k.node.toNat).kind t/\oq E ks b:=by
 obtain⟨a,b,e,h1,h2⟩:=h;rcases h1 with h1|⟨h1,_⟩|⟨_,h1,h3⟩
 ·obtain⟨t,e1,e2⟩:=h1.leaf h9;exact⟨t,b,by rw[e,e1];rfl,(hE.ok _ _).1 e2,h2⟩
 ·rw[ho]at h1;cases h1
 obtain⟨u,e1,e2,_⟩:=hE.dv i hi k hk h1;exact⟨u,b,by rw[e,h3,e2];rfl,((fE ht hm).1 e1).2,h2⟩
theorem jV{E:cw}(hs:E.s=cS)(hE:gp E){i:Nat}{k:Kd}{ks:Ls Kd}{us:Ls Vl}(kind:Int)(hi:i<14)(hk:k∈(nd cS i).kids)(ho:k.opt=false)(h:oq E (k::ks) us)(e:(nd cS k.node.toNat).kind=kind)(h9:kind<=9)(h1:(nd cS k.node.toNat).tag<0->(nd cS k.node.toNat).mode=0)(h2:(nd cS k.node.toNat).mode=0\/(nd cS k.node.toNat).mode=1):∃t b,us=⟨kind,t,0,0⟩::b/\aR kind t/\oq E ks b:=by
 subst e;have:=tF hE (i:=i) (by rw[hs];exact hi) (by rw[hs];exact hk) h ho (by rw[hs];exact h9) (by rw[hs];exact h1) (by rw[hs];exact h2);rw[hs]at this;exact this
theorem yG{E:cw}(hs:E.s=cS)(hE:gp E){a:Ls Vl}(h:Rd E 3 a):∃(n:Q) (pr:Bool),a=[⟨13,bh,if pr then 0 else 1,1⟩,⟨if pr then 8 else 7,n,0,0⟩]/\aR (if pr then 8 else 7) n:=by
 obtain⟨j,us,hj,rfl,r⟩:=h.choice (by rw[hs];rfl);rw[hs]at hj r;have hj':j<2:=hj;have hc:j=0\/j=1:=O;clear hj hj';rcases hc with rfl|rfl
 ·have r4:Rd E 4 us:=r;obtain⟨n,e1,e2⟩:=r4.leaf (by rw[hs];decide);rw[hs]at e1 e2;exact⟨n,true,by rw[e1];rfl,(hE.ok _ _).1 e2⟩
 have r5:Rd E 5 us:=r;obtain⟨n,e1,e2⟩:=r5.leaf (by rw[hs];decide);rw[hs]at e1 e2;exact⟨n,false,by rw[e1];rfl,(hE.ok _ _).1 e2⟩
theorem y7{E:cw}(hs:E.s=cS)(hE:gp E){a:Ls Vl}(h:Rd E 6 a):∃ft tt:Q,a=[⟨10,bh,0,2⟩,⟨9,ft,0,0⟩,⟨9,tt,0,0⟩]/\aR 9 ft/\aR 9 tt:=by
 obtain⟨us,rfl,hq0⟩:=h.seq (by rw[hs];rfl);clear h;rw[hs]at hq0 ⊢;have h0:oq E [⟨7,false,bh⟩,⟨7,false,bh⟩] us:=hq0;obtain⟨ft,b1,rfl,c1,h1⟩:=jV hs hE (i:=6) 9 Dc (dY ..) X h0 X Dc Dc Dc;obtain⟨tt,b2,rfl,c2,h2⟩:=jV hs hE (i:=6) 9 Dc (dY ..) X h1 X Dc Dc Dc;cases h2;exact⟨ft,tt,X,c1,c2⟩
theorem yE{E:cw}(hs:E.s=cS)(hE:gp E){a:Ls Vl}(h:Rd E 10 a):∃q:Q×Q×Q,a=fG q/\aR 4 q.1/\aR 1 q.2.1:=by
 obtain⟨us,rfl,hq0⟩:=h.seq (by rw[hs];rfl);clear h;rw[hs]at hq0 ⊢;have h0:oq E [⟨11,false,bh⟩,⟨12,false,lB⟩,⟨13,false,bh⟩] us:=hq0;obtain⟨q1,b1,rfl,c1,h1⟩:=jV hs hE (i:=10) 4 Dc (dY ..) X h0 X Dc Dc Dc;obtain⟨q2,b2,rfl,c2,h2⟩:=jV hs hE (i:=10) 1 Dc (ee _ (dY ..)) X h1 X Dc Dc Dc;obtain⟨q3,b3,rfl,c3,h3⟩:=jV hs hE (i:=10) 6 Dc (ee _ (ee _ (dY ..))) X h2 X Dc Dc Dc;cases h3;exact⟨(q1,q2,q3),X,c1,c2⟩
theorem qT{E:cw}(hs:E.s=cS)(hE:gp E):∀(m:Nat) (us:Ls Vl),zx E 10 m us->∃qs:Ls (Q×Q×Q),qs.length=m/\us=qs.flatMap fG/\∀q∈qs,aR 4 q.1/\aR 1 q.2.1
 |0,us,h=>by cases h;exact⟨[],X,X,fun q hq=>by cases hq⟩
 |m+1,us,⟨a,b,e,hr,hb⟩=>by
  obtain⟨qs,hl,hu,hq⟩:=qT hs hE m b hb
  obtain⟨q,hq1,hq2⟩:=yE hs hE hr
  refine⟨q::qs,by rw[aU,hl],by rw[e,hq1,hu];rfl,fun q' hq'=>?_⟩
  rcases GA.1 hq' with rfl|hq'
  ·exact hq2
  ·exact hq q' hq'
theorem wA{E:cw}(hs:E.s=cS)(hE:gp E){a:Ls Vl}(h:Rd E 9 a):∃qs:Ls (Q×Q×Q),a=jf (U qs)/\∀q∈qs,aR 4 q.1/\aR 1 q.2.1:=by
 obtain⟨m,us,rfl,hM⟩:=h.many (by rw[hs];rfl);rw[hs]at hM;obtain⟨qs,hl,rfl,hq⟩:=qT hs hE m us hM;subst hl;exact⟨qs,X,hq⟩
theorem xW{E:cw}(hs:E.s=cS)(hE:gp E){vs:Ls Vl}(h:Rd E 0 vs):∃c:CT,vs=c.tree/\c.Ok:=by
 obtain⟨us,rfl,hq0⟩:=h.seq (by rw[hs];rfl);clear h;rw[hs]at hq0 ⊢;have h0:oq E [⟨1,false,kR⟩,⟨2,false,bh⟩,⟨3,false,bh⟩,⟨6,false,bh⟩,⟨8,false,bh⟩,⟨9,true,bh⟩] us:=hq0;clear hq0;obtain⟨vt,b1,rfl,c1,h1⟩:=jV hs hE (i:=0) 2 Dc (dY ..) X h0 X Dc Dc Dc;obtain⟨s,b2,rfl,c2,h2⟩:=jV hs hE (i:=0) 2 Dc (ee _ (dY ..)) X h1 X Dc Dc Dc;obtain⟨a3,b3,rfl,r3,h3⟩:=tG h2 X X;obtain⟨n,pr,rfl,cn⟩:=yG hs hE r3;obtain⟨a4,b4,rfl,r4,h4⟩:=tG h3 X X;obtain⟨ft,tt,rfl,c41,c42⟩:=y7 hs hE r4;obtain⟨kt,b5,rfl,c5,h5⟩:=jV hs hE (i:=0) 5 Dc (ee _ (ee _ (ee _ (ee _ (dY ..))))) X h4 X Dc Dc Dc;obtain⟨a6,b6,rfl,h6,h7⟩:=h5;cases h7;have hms:∃o,a6=jf o/\∀qs,o=U qs->∀q∈qs,aR 4 q.1/\aR 1 q.2.1:=by
  rcases h6 with h6|⟨_,e⟩|⟨e,_⟩
  ·obtain⟨qs,e,hq⟩:=wA hs hE h6;exact⟨U qs,e,fun qs' e=>by cases e;exact hq⟩
  ·exact⟨Z,e,fun qs e=>by cases e⟩
  cases e
 obtain⟨o,rfl,ho⟩:=hms;exact⟨⟨vt,s,n,pr,ft,tt,kt,o⟩,by rw[pS];rfl,c1,c2,cn,c41,c42,c5,ho⟩
end Go.Proofs.YtkkicodfpekbgaaGreatDoor
namespace Go.Proofs.YtkkicodfpekbgaaGreatDoor
open Go.Proofs.Tryz
open Go.RowKit
theorem eF(ks:Ls Kd)(w:M):be (w.alloc (C (eR ks).toArray 55)) (U (D w.heap.size 0 Z)) ks:=fun j hj=>by
 have hn:=aA w (C (eR ks).toArray 55);have c:∀i,(w.alloc (C (eR ks).toArray 55)).cell? (D w.heap.size i Z)=(eR ks)[i]? :=fun i=>by simp only[Wc,hn];simp
 refine⟨w.heap.size,0,X,?_⟩;rw[b9];exact⟨(c _).trans (ld ks j hj 0 Dc),(c _).trans (ld ks j hj 1 Dc),(c _).trans (ld ks j hj 2 Dc)⟩
def j9(rows:Ls (Nd×Oo Ad×Nat)):Ls Vv:=rows.flatMap fun r=> [I J r.1.kind,I J r.1.tag,I J r.1.mode,S r.2.1 r.1.kids.length r.2.2]
theorem jE:∀(l:Ls (Nd×Oo Ad×Nat)) (i:Nat) (hi:i<l.length) (j:Nat),j<4->(j9 l)[i*4+j]? =[Value.int J l[i].1.kind,I J l[i].1.tag,I J l[i].1.mode,S l[i].2.1 l[i].1.kids.length l[i].2.2][j]?
 | [],i,hi,_,_=>Ab hi (aO _)
 |r::l,0,_,j,hj=>by
  unfold j9
  rw[dx,cm (by show 0*4+j<4;omega),zA,b9]
  rfl
 |r::l,i+1,hi,j,hj=>by
  have ih:=jE l i (by simpa using hi) j hj
  unfold j9 at ih ⊢
  rw[dx,bu (by show 4<=_;omega)]
  show(l.flatMap _)[(i+1)*4+j-4]? =_
  rw[show(i+1)*4+j-4=i*4+j by omega,ih]
  rfl
def H0(w:M)(rows:Ls (Nd×Oo Ad×Nat)):Prop:=∀r∈rows,r.1.kids.length<=r.2.2/\r.2.2<=maxLen/\be w r.2.1 r.1.kids
theorem nS{w:M}:H0 w []:=fun r hr=>by cases hr
theorem cg{w:M}{n:Nd}{a:Oo Ad}{c:Nat}{rows:Ls (Nd×Oo Ad×Nat)}(h1:n.kids.length<=c)(h2:c<=maxLen)(h3:be w a n.kids)(h:H0 w rows):H0 w ((n,a,c)::rows):=fun r hr=>by
 rcases GA.1 hr with rfl|hr
 ·exact⟨h1,h2,h3⟩
 exact h r hr
theorem i5(rows:Ls (Nd×Oo Ad×Nat))(w:M)(h:H0 w rows):ju (w.alloc (C (j9 rows).toArray 58)) (U (D w.heap.size 0 Z)) (rows.map (·.1)):=fun i hi=>by
 have hi':i<rows.length:=by simpa using hi
 have hn:=aA w (C (j9 rows).toArray 58);have c:∀i,(w.alloc (C (j9 rows).toArray 58)).cell? (D w.heap.size i Z)=(j9 rows)[i]? :=fun i=>by simp only[Wc,hn];simp
 have e:nd (rows.map (·.1)) i=rows[i].1:=by unfold nd;rw[aB,fW,aC hi'];rfl
 obtain⟨h1,h2,h3⟩:=h rows[i] (bz _);rw[e];refine⟨w.heap.size,0,rows[i].2.1,rows[i].2.2,X,?_,h1,h2,h3.below Be⟩;rw[b9];exact⟨(c _).trans (jE rows i hi' 0 Dc),(c _).trans (jE rows i hi' 1 Dc),(c _).trans (jE rows i hi' 2 Dc),(c _).trans (jE rows i hi' 3 Dc)⟩
theorem oK(k:Int)(ka:Oo Ad)(n kc:Nat)(w:M):Cs prog 133 #[I J k,S ka n kc] w fun e w'=>e=Rt (Ag #[I J k,I J (-1),I J 0,S ka n kc])/\H w.heap.size w w':=by
 go_enter func133,ntmps133;go_wp2;exact aS (v:=Ag #[I J k,I J (-1),I J 0,S ka n kc]) (by simp[results,results133,go_sem]) X ⟨X,Be⟩
theorem xI(t k g m:Int)(ka:Oo Ad)(n kc:Nat)(w:M):Cs prog 134 #[I J t,Ag #[I J k,I J g,I J m,S ka n kc]] w fun e w'=>e=Rt (Ag #[I J k,I J t,I J 1,S ka n kc])/\H w.heap.size w w':=by
 go_enter func134,ntmps134;go_wp2;exact aS (v:=Ag #[I J k,I J t,I J 1,S ka n kc]) (by simp[results,results134,go_sem]) X ⟨X,(Be).alloc Sq _⟩
theorem yB(w:M):Cs prog 205 #[] w fun e w'=>∃g,e=Rt (S (U (D g 0 Z)) 3 3)/\ju w' (U (D g 0 Z)) lS/\H w.heap.size w w':=by
 have HP:Hi (∀(k:Int) (ka:Oo Ad) (n kc:Nat) wq,Cs prog 133 #[I J k,S ka n kc] wq fun e w'=>e=Rt (Ag #[I J k,I J (-1),I J 0,S ka n kc])/\H wq.heap.size wq w'):=fun k ka n kc wq=>oK k ka n kc wq;have HB:Hi (H w.heap.size w w):=By;go_enter func205,ntmps205;go_wp2_with fail;refine(HP 10 _ _ _ _).mono ?_;rintro e w1 ⟨rfl,hb⟩;have hb0:H w.heap.size w (w.alloc (C (eR [⟨1,false,lB⟩,⟨2,true,bh⟩]).toArray 55)):=Be;have HK2:Hi (be w1 (U (D w.heap.size 0 Z)) [⟨1,false,lB⟩,⟨2,true,bh⟩]):=(eF [⟨1,false,lB⟩,⟨2,true,bh⟩] w).below hb;have hc:H w.heap.size w w1:=hb0.trans (hb.mono hb0.size);have HB:Hi (H w.heap.size w w1):=HB.trans (hc.mono HB.size);clear hb hc hb0;go_wp2_with fail;refine(HP 1 _ _ _ _).mono ?_;rintro e w2 ⟨rfl,hb⟩;have hc:H w1.heap.size w1 w2:=hb;have HK2:Hi (be w2 (U (D w.heap.size 0 Z)) [⟨1,false,lB⟩,⟨2,true,bh⟩]):=HK2.below hc;have HB:Hi (H w.heap.size w w2):=HB.trans (hc.mono HB.size);clear hb hc;go_wp2_with fail;refine(HP 2 _ _ _ _).mono ?_;rintro e w3 ⟨rfl,hb⟩;have hc:H w2.heap.size w2 w3:=hb;have HK2:Hi (be w3 (U (D w.heap.size 0 Z)) [⟨1,false,lB⟩,⟨2,true,bh⟩]):=HK2.below hc;have HB:Hi (H w.heap.size w w3):=HB.trans (hc.mono HB.size);clear hb hc;go_wp2;go_ret;exact⟨_,X,i5 [(⟨10, -1,0,[⟨1,false,lB⟩,⟨2,true,bh⟩]⟩,U (D w.heap.size 0 Z),2),(⟨1, -1,0,[]⟩,Z,0),(⟨2, -1,0,[]⟩,Z,0)] w3 (cg Ln Dc HK2 (cg Ln Dc (fun j hj=>Ab hj (aO _)) (cg Ln Dc (fun j hj=>Ab hj (aO _)) nS))),HB.alloc HB.size _⟩
theorem rm(w:M):Cs prog 86 #[] w fun e w'=>∃g,e=Rt (S (U (D g 0 Z)) 14 14)/\ju w' (U (D g 0 Z)) cS/\H w.heap.size w w':=by
 have HP:Hi (∀(k:Int) (ka:Oo Ad) (n kc:Nat) wq,Cs prog 133 #[I J k,S ka n kc] wq fun e w'=>e=Rt (Ag #[I J k,I J (-1),I J 0,S ka n kc])/\H wq.heap.size wq w'):=fun k ka n kc wq=>oK k ka n kc wq;have HA:Hi (∀(t k g m:Int) (ka:Oo Ad) (n kc:Nat) wq,Cs prog 134 #[I J t,Ag #[I J k,I J g,I J m,S ka n kc]] wq fun e w'=>e=Rt (Ag #[I J k,I J t,I J 1,S ka n kc])/\H wq.heap.size wq w'):=fun t k g m ka n kc wq=>xI t k g m ka n kc wq;have HB:Hi (H w.heap.size w w):=By;go_enter func86,ntmps86;go_wp2_with fail;refine(HP 10 _ _ _ _).mono ?_;rintro e w1 ⟨rfl,hb⟩;have hb0:H w.heap.size w (w.alloc (C (eR [⟨1,false,kR⟩,⟨2,false,bh⟩,⟨3,false,bh⟩,⟨6,false,bh⟩,⟨8,false,bh⟩,⟨9,true,bh⟩]).toArray 55)):=Be;have HK6:Hi (be w1 (U (D w.heap.size 0 Z)) [⟨1,false,kR⟩,⟨2,false,bh⟩,⟨3,false,bh⟩,⟨6,false,bh⟩,⟨8,false,bh⟩,⟨9,true,bh⟩]):=(eF [⟨1,false,kR⟩,⟨2,false,bh⟩,⟨3,false,bh⟩,⟨6,false,bh⟩,⟨8,false,bh⟩,⟨9,true,bh⟩] w).below hb;have hc:H w.heap.size w w1:=hb0.trans (hb.mono hb0.size);have HB:Hi (H w.heap.size w w1):=HB.trans (hc.mono HB.size);clear hb hc hb0;go_wp2_with fail;refine(HP 2 _ _ _ _).mono ?_;rintro e w2 ⟨rfl,hb⟩;have hc:H w1.heap.size w1 w2:=hb;have HK6:Hi (be w2 (U (D w.heap.size 0 Z)) [⟨1,false,kR⟩,⟨2,false,bh⟩,⟨3,false,bh⟩,⟨6,false,bh⟩,⟨8,false,bh⟩,⟨9,true,bh⟩]):=HK6.below hc;have HB:Hi (H w.heap.size w w2):=HB.trans (hc.mono HB.size);clear hb hc;go_wp2_with fail;refine(HA 0 2 (-1) 0 _ _ _ _).mono ?_;rintro e w3 ⟨rfl,hb⟩;have hc:H w2.heap.size w2 w3:=hb;have HK6:Hi (be w3 (U (D w.heap.size 0 Z)) [⟨1,false,kR⟩,⟨2,false,bh⟩,⟨3,false,bh⟩,⟨6,false,bh⟩,⟨8,false,bh⟩,⟨9,true,bh⟩]):=HK6.below hc;have HB:Hi (H w.heap.size w w3):=HB.trans (hc.mono HB.size);clear hb hc;go_wp2_with fail;refine(HP 2 _ _ _ _).mono ?_;rintro e w4 ⟨rfl,hb⟩;have hc:H w3.heap.size w3 w4:=hb;have HK6:Hi (be w4 (U (D w.heap.size 0 Z)) [⟨1,false,kR⟩,⟨2,false,bh⟩,⟨3,false,bh⟩,⟨6,false,bh⟩,⟨8,false,bh⟩,⟨9,true,bh⟩]):=HK6.below hc;have HB:Hi (H w.heap.size w w4):=HB.trans (hc.mono HB.size);clear hb hc;go_wp2_with fail;refine(HP 13 _ _ _ _).mono ?_;rintro e w5 ⟨rfl,hb⟩;have hb0:H w4.heap.size w4 (w4.alloc (C (eR [⟨4,false,bh⟩,⟨5,false,bh⟩]).toArray 55)):=Be;have HK13:Hi (be w5 (U (D w4.heap.size 0 Z)) [⟨4,false,bh⟩,⟨5,false,bh⟩]):=(eF [⟨4,false,bh⟩,⟨5,false,bh⟩] w4).below hb;have hc:H w4.heap.size w4 w5:=hb0.trans (hb.mono hb0.size);have HK6:Hi (be w5 (U (D w.heap.size 0 Z)) [⟨1,false,kR⟩,⟨2,false,bh⟩,⟨3,false,bh⟩,⟨6,false,bh⟩,⟨8,false,bh⟩,⟨9,true,bh⟩]):=HK6.below hc;have HB:Hi (H w.heap.size w w5):=HB.trans (hc.mono HB.size);clear hb hc hb0;go_wp2_with fail;refine(HP 8 _ _ _ _).mono ?_;rintro e w6 ⟨rfl,hb⟩;have hc:H w5.heap.size w5 w6:=hb;have HK6:Hi (be w6 (U (D w.heap.size 0 Z)) [⟨1,false,kR⟩,⟨2,false,bh⟩,⟨3,false,bh⟩,⟨6,false,bh⟩,⟨8,false,bh⟩,⟨9,true,bh⟩]):=HK6.below hc;have HK13:Hi (be w6 (U (D w4.heap.size 0 Z)) [⟨4,false,bh⟩,⟨5,false,bh⟩]):=HK13.below hc;have HB:Hi (H w.heap.size w w6):=HB.trans (hc.mono HB.size);clear hb hc;go_wp2_with fail;refine(HP 7 _ _ _ _).mono ?_;rintro e w7 ⟨rfl,hb⟩;have hc:H w6.heap.size w6 w7:=hb;have HK6:Hi (be w7 (U (D w.heap.size 0 Z)) [⟨1,false,kR⟩,⟨2,false,bh⟩,⟨3,false,bh⟩,⟨6,false,bh⟩,⟨8,false,bh⟩,⟨9,true,bh⟩]):=HK6.below hc;have HK13:Hi (be w7 (U (D w4.heap.size 0 Z)) [⟨4,false,bh⟩,⟨5,false,bh⟩]):=HK13.below hc;have HB:Hi (H w.heap.size w w7):=HB.trans (hc.mono HB.size);clear hb hc;go_wp2_with fail;refine(HP 10 _ _ _ _).mono ?_;rintro e w8 ⟨rfl,hb⟩;have hb0:H w7.heap.size w7 (w7.alloc (C (eR [⟨7,false,bh⟩,⟨7,false,bh⟩]).toArray 55)):=Be;have HK19:Hi (be w8 (U (D w7.heap.size 0 Z)) [⟨7,false,bh⟩,⟨7,false,bh⟩]):=(eF [⟨7,false,bh⟩,⟨7,false,bh⟩] w7).below hb;have hc:H w7.heap.size w7 w8:=hb0.trans (hb.mono hb0.size);have HK6:Hi (be w8 (U (D w.heap.size 0 Z)) [⟨1,false,kR⟩,⟨2,false,bh⟩,⟨3,false,bh⟩,⟨6,false,bh⟩,⟨8,false,bh⟩,⟨9,true,bh⟩]):=HK6.below hc;have HK13:Hi (be w8 (U (D w4.heap.size 0 Z)) [⟨4,false,bh⟩,⟨5,false,bh⟩]):=HK13.below hc;have HB:Hi (H w.heap.size w w8):=HB.trans (hc.mono HB.size);clear hb hc hb0;go_wp2_with fail;refine(HP 9 _ _ _ _).mono ?_;rintro e w9 ⟨rfl,hb⟩;have hc:H w8.heap.size w8 w9:=hb;have HK6:Hi (be w9 (U (D w.heap.size 0 Z)) [⟨1,false,kR⟩,⟨2,false,bh⟩,⟨3,false,bh⟩,⟨6,false,bh⟩,⟨8,false,bh⟩,⟨9,true,bh⟩]):=HK6.below hc;have HK13:Hi (be w9 (U (D w4.heap.size 0 Z)) [⟨4,false,bh⟩,⟨5,false,bh⟩]):=HK13.below hc;have HK19:Hi (be w9 (U (D w7.heap.size 0 Z)) [⟨7,false,bh⟩,⟨7,false,bh⟩]):=HK19.below hc;have HB:Hi (H w.heap.size w w9):=HB.trans (hc.mono HB.size);clear hb hc;go_wp2_with fail;refine(HP 5 _ _ _ _).mono ?_;rintro e w10 ⟨rfl,hb⟩;have hc:H w9.heap.size w9 w10:=hb;have HK6:Hi (be w10 (U (D w.heap.size 0 Z)) [⟨1,false,kR⟩,⟨2,false,bh⟩,⟨3,false,bh⟩,⟨6,false,bh⟩,⟨8,false,bh⟩,⟨9,true,bh⟩]):=HK6.below hc;have HK13:Hi (be w10 (U (D w4.heap.size 0 Z)) [⟨4,false,bh⟩,⟨5,false,bh⟩]):=HK13.below hc;have HK19:Hi (be w10 (U (D w7.heap.size 0 Z)) [⟨7,false,bh⟩,⟨7,false,bh⟩]):=HK19.below hc;have HB:Hi (H w.heap.size w w10):=HB.trans (hc.mono HB.size);clear hb hc;go_wp2_with fail;refine(HP 11 _ _ _ _).mono ?_;rintro e w11 ⟨rfl,hb⟩;have hb0:H w10.heap.size w10 (w10.alloc (C (eR [⟨10,false,bh⟩]).toArray 55)):=Be;have HK24:Hi (be w11 (U (D w10.heap.size 0 Z)) [⟨10,false,bh⟩]):=(eF [⟨10,false,bh⟩] w10).below hb;have hc:H w10.heap.size w10 w11:=hb0.trans (hb.mono hb0.size);have HK6:Hi (be w11 (U (D w.heap.size 0 Z)) [⟨1,false,kR⟩,⟨2,false,bh⟩,⟨3,false,bh⟩,⟨6,false,bh⟩,⟨8,false,bh⟩,⟨9,true,bh⟩]):=HK6.below hc;have HK13:Hi (be w11 (U (D w4.heap.size 0 Z)) [⟨4,false,bh⟩,⟨5,false,bh⟩]):=HK13.below hc;have HK19:Hi (be w11 (U (D w7.heap.size 0 Z)) [⟨7,false,bh⟩,⟨7,false,bh⟩]):=HK19.below hc;have HB:Hi (H w.heap.size w w11):=HB.trans (hc.mono HB.size);clear hb hc hb0;go_wp2_with fail;refine(HA 3 11 (-1) 0 _ _ _ _).mono ?_;rintro e w12 ⟨rfl,hb⟩;have hc:H w11.heap.size w11 w12:=hb;have HK6:Hi (be w12 (U (D w.heap.size 0 Z)) [⟨1,false,kR⟩,⟨2,false,bh⟩,⟨3,false,bh⟩,⟨6,false,bh⟩,⟨8,false,bh⟩,⟨9,true,bh⟩]):=HK6.below hc;have HK13:Hi (be w12 (U (D w4.heap.size 0 Z)) [⟨4,false,bh⟩,⟨5,false,bh⟩]):=HK13.below hc;have HK19:Hi (be w12 (U (D w7.heap.size 0 Z)) [⟨7,false,bh⟩,⟨7,false,bh⟩]):=HK19.below hc;have HK24:Hi (be w12 (U (D w10.heap.size 0 Z)) [⟨10,false,bh⟩]):=HK24.below hc;have HB:Hi (H w.heap.size w w12):=HB.trans (hc.mono HB.size);clear hb hc;go_wp2_with fail;refine(HP 10 _ _ _ _).mono ?_;rintro e w13 ⟨rfl,hb⟩;have hb0:H w12.heap.size w12 (w12.alloc (C (eR [⟨11,false,bh⟩,⟨12,false,lB⟩,⟨13,false,bh⟩]).toArray 55)):=Be;have HK30:Hi (be w13 (U (D w12.heap.size 0 Z)) [⟨11,false,bh⟩,⟨12,false,lB⟩,⟨13,false,bh⟩]):=(eF [⟨11,false,bh⟩,⟨12,false,lB⟩,⟨13,false,bh⟩] w12).below hb;have hc:H w12.heap.size w12 w13:=hb0.trans (hb.mono hb0.size);have HK6:Hi (be w13 (U (D w.heap.size 0 Z)) [⟨1,false,kR⟩,⟨2,false,bh⟩,⟨3,false,bh⟩,⟨6,false,bh⟩,⟨8,false,bh⟩,⟨9,true,bh⟩]):=HK6.below hc;have HK13:Hi (be w13 (U (D w4.heap.size 0 Z)) [⟨4,false,bh⟩,⟨5,false,bh⟩]):=HK13.below hc;have HK19:Hi (be w13 (U (D w7.heap.size 0 Z)) [⟨7,false,bh⟩,⟨7,false,bh⟩]):=HK19.below hc;have HK24:Hi (be w13 (U (D w10.heap.size 0 Z)) [⟨10,false,bh⟩]):=HK24.below hc;have HB:Hi (H w.heap.size w w13):=HB.trans (hc.mono HB.size);clear hb hc hb0;go_wp2_with fail;refine(HP 4 _ _ _ _).mono ?_;rintro e w14 ⟨rfl,hb⟩;have hc:H w13.heap.size w13 w14:=hb;have HK6:Hi (be w14 (U (D w.heap.size 0 Z)) [⟨1,false,kR⟩,⟨2,false,bh⟩,⟨3,false,bh⟩,⟨6,false,bh⟩,⟨8,false,bh⟩,⟨9,true,bh⟩]):=HK6.below hc;have HK13:Hi (be w14 (U (D w4.heap.size 0 Z)) [⟨4,false,bh⟩,⟨5,false,bh⟩]):=HK13.below hc;have HK19:Hi (be w14 (U (D w7.heap.size 0 Z)) [⟨7,false,bh⟩,⟨7,false,bh⟩]):=HK19.below hc;have HK24:Hi (be w14 (U (D w10.heap.size 0 Z)) [⟨10,false,bh⟩]):=HK24.below hc;have HK30:Hi (be w14 (U (D w12.heap.size 0 Z)) [⟨11,false,bh⟩,⟨12,false,lB⟩,⟨13,false,bh⟩]):=HK30.below hc;have HB:Hi (H w.heap.size w w14):=HB.trans (hc.mono HB.size);clear hb hc;go_wp2_with fail;refine(HP 1 _ _ _ _).mono ?_;rintro e w15 ⟨rfl,hb⟩;have hc:H w14.heap.size w14 w15:=hb;have HK6:Hi (be w15 (U (D w.heap.size 0 Z)) [⟨1,false,kR⟩,⟨2,false,bh⟩,⟨3,false,bh⟩,⟨6,false,bh⟩,⟨8,false,bh⟩,⟨9,true,bh⟩]):=HK6.below hc;have HK13:Hi (be w15 (U (D w4.heap.size 0 Z)) [⟨4,false,bh⟩,⟨5,false,bh⟩]):=HK13.below hc;have HK19:Hi (be w15 (U (D w7.heap.size 0 Z)) [⟨7,false,bh⟩,⟨7,false,bh⟩]):=HK19.below hc;have HK24:Hi (be w15 (U (D w10.heap.size 0 Z)) [⟨10,false,bh⟩]):=HK24.below hc;have HK30:Hi (be w15 (U (D w12.heap.size 0 Z)) [⟨11,false,bh⟩,⟨12,false,lB⟩,⟨13,false,bh⟩]):=HK30.below hc;have HB:Hi (H w.heap.size w w15):=HB.trans (hc.mono HB.size);clear hb hc;go_wp2_with fail;refine(HP 6 _ _ _ _).mono ?_;rintro e w16 ⟨rfl,hb⟩;have hc:H w15.heap.size w15 w16:=hb;have HK6:Hi (be w16 (U (D w.heap.size 0 Z)) [⟨1,false,kR⟩,⟨2,false,bh⟩,⟨3,false,bh⟩,⟨6,false,bh⟩,⟨8,false,bh⟩,⟨9,true,bh⟩]):=HK6.below hc;have HK13:Hi (be w16 (U (D w4.heap.size 0 Z)) [⟨4,false,bh⟩,⟨5,false,bh⟩]):=HK13.below hc;have HK19:Hi (be w16 (U (D w7.heap.size 0 Z)) [⟨7,false,bh⟩,⟨7,false,bh⟩]):=HK19.below hc;have HK24:Hi (be w16 (U (D w10.heap.size 0 Z)) [⟨10,false,bh⟩]):=HK24.below hc;have HK30:Hi (be w16 (U (D w12.heap.size 0 Z)) [⟨11,false,bh⟩,⟨12,false,lB⟩,⟨13,false,bh⟩]):=HK30.below hc;have HB:Hi (H w.heap.size w w16):=HB.trans (hc.mono HB.size);clear hb hc;go_wp2;go_ret;exact⟨_,X,i5 [(⟨10, -1,0,[⟨1,false,kR⟩,⟨2,false,bh⟩,⟨3,false,bh⟩,⟨6,false,bh⟩,⟨8,false,bh⟩,⟨9,true,bh⟩]⟩,U (D w.heap.size 0 Z),6),(⟨2,0,1,[]⟩,Z,0),(⟨2, -1,0,[]⟩,Z,0),(⟨13, -1,0,[⟨4,false,bh⟩,⟨5,false,bh⟩]⟩,U (D w4.heap.size 0 Z),2),(⟨8, -1,0,[]⟩,Z,0),(⟨7, -1,0,[]⟩,Z,0),(⟨10, -1,0,[⟨7,false,bh⟩,⟨7,false,bh⟩]⟩,U (D w7.heap.size 0 Z),2),(⟨9, -1,0,[]⟩,Z,0),(⟨5, -1,0,[]⟩,Z,0),(⟨11,3,1,[⟨10,false,bh⟩]⟩,U (D w10.heap.size 0 Z),1),(⟨10, -1,0,[⟨11,false,bh⟩,⟨12,false,lB⟩,⟨13,false,bh⟩]⟩,U (D w12.heap.size 0 Z),3),(⟨4, -1,0,[]⟩,Z,0),(⟨1, -1,0,[]⟩,Z,0),(⟨6, -1,0,[]⟩,Z,0)] w16 (cg Ln Dc HK6 (cg Ln Dc (fun j hj=>Ab hj (aO _)) (cg Ln Dc (fun j hj=>Ab hj (aO _)) (cg Ln Dc HK13 (cg Ln Dc (fun j hj=>Ab hj (aO _)) (cg Ln Dc (fun j hj=>Ab hj (aO _)) (cg Ln Dc HK19 (cg Ln Dc (fun j hj=>Ab hj (aO _)) (cg Ln Dc (fun j hj=>Ab hj (aO _)) (cg Ln Dc HK24 (cg Ln Dc HK30 (cg Ln Dc (fun j hj=>Ab hj (aO _)) (cg Ln Dc (fun j hj=>Ab hj (aO _)) (cg Ln Dc (fun j hj=>Ab hj (aO _)) nS)))))))))))))),HB.alloc HB.size _⟩
end Go.Proofs.YtkkicodfpekbgaaGreatDoor
namespace Go.Proofs.YtkkicodfpekbgaaGreatDoor
open Go.Proofs.Tryz
open Go.RowKit Go.Extern.Stop Go.Stop Go.Extern
theorem F2(p0 p:Int)(a b:Ad)(ca cb:Array Vv)(ta tb:TypeId)(w:M)(hne:a≠b)(ha:w.heap[a.block]? =U (C ca ta (0,0)))(hb:w.heap[b.block]? =U (C cb tb (0,0))):Cs prog 59 #[If 155 (Ag #[I J p0,If 155 (Ag #[I J p,If 291 (Po (U a))])]),If 291 (Po (U b))] w fun e w'=>e=Rt (Bo false)/\H w.heap.size w w':=by
 obtain⟨i,hi,hcmp⟩:=Option.map_eq_some_iff.1 lE;obtain⟨j,hj,hjs⟩:=Option.map_eq_some_iff.1 lF;have lt:∀{k:Nat} {o:Obj},w.heap[k]? =U o->k<w.heap.size:=fun {k o} h=>by
  rcases cG k w.heap.size with h'|h'
  ·exact h'
  rw[bj h']at h;cases h
 have heq:=fun o o2=>run_eql_iface_ptr_other (P:=prog) ((w.alloc o).alloc o2) underlying85 underlying291 hi hcmp hj (by rw[hjs];decide) hne ((bM (w.alloc o) o2 _ (by have:=lt ha;simp;omega)).trans ((bM w o _ (lt ha)).trans ha)) ((bM (w.alloc o) o2 _ (by have:=lt hb;simp;omega)).trans ((bM w o _ (lt hb)).trans hb));clear lt ha hb;have h8:=jb;have h32:=gN;have mR:=fo;have nF:=mV;have uF:=jc;have mU:=ir;have nE:=qb;have uE:=lH;have vE:=lx;have hty:=fun x w=>run_eql_iface_types (P:=prog) 155 291 x (Po (U b)) underlying85 Dc w;go_enter func59,ntmps59;go_wp2;refine eJ 3 ?_;rw[ch];go_wp2;rw[ch];go_wp2;rw[ch];go_wp2;go_ret;exact⟨X,(Be).alloc Sq _⟩
theorem yL(p0 p:Int)(za:Ad)(w:M)(sn:Sn->Ad)(hs:dC w sn)(hz:jM w sn za):Cs prog 34 #[fq p0 (aX p za)] w fun e w'=>e=Rt (I J 1)/\H w.heap.size w w':=by
 have IS:Hi (∀(s:Sn) wq,H w.heap.size w wq->Cs prog 59 #[If 155 (Ag #[I J p0,If 155 (Ag #[I J p,If 291 (Po (U za))])]),If 291 (Po (U (sn s)))] wq fun e w'=>e=Rt (Bo false)/\H w.heap.size w w'):=fun s wq hq=>by obtain⟨c1,t1,r1⟩:=dQ hz.r hq;obtain⟨c2,t2,r2⟩:=dQ (hs.r s) hq;refine(F2 p0 p za (sn s) c1 c2 t1 t2 wq (fun q=>hz.d s q.symm) r1 r2).mono ?_;rintro e w' ⟨he,hb⟩;exact⟨he,hq.trans (hb.mono hq.size)⟩
 have S0:=aN hs;have B0:Hi (H w.heap.size w w):=By;have h0:=hs.cLong;clear hs hz;unfold fq aX;go_enter func34,ntmps34;go_wp2_with fail;refine(IS .Long _ B0).mono ?_;rintro e w1 ⟨rfl,hb⟩;have B1:=aN hb;clear hb h0;have h1:=(S0.below B1).cEnd;go_wp2_with fail;refine(IS .End _ B1).mono ?_;rintro e w2 ⟨rfl,hb⟩;have B2:=aN hb;clear hb h1;have h2:=(S0.below B2).cTag;go_wp2_with fail;refine(IS .Tag _ B2).mono ?_;rintro e w3 ⟨rfl,hb⟩;have B3:=aN hb;clear hb h2;have h3:=(S0.below B3).cLength;go_wp2_with fail;refine(IS .Length _ B3).mono ?_;rintro e w4 ⟨rfl,hb⟩;have B4:=aN hb;clear hb h3;have h4:=(S0.below B4).cValue;go_wp2_with fail;refine(IS .Value _ B4).mono ?_;rintro e w5 ⟨rfl,hb⟩;have B5:=aN hb;clear hb h4;have h5:=(S0.below B5).cMore;go_wp2_with fail;refine(IS .More _ B5).mono ?_;rintro e w6 ⟨rfl,hb⟩;have B6:=aN hb;clear hb h5;have h6:=(S0.below B6).cOrder;go_wp2_with fail;refine(IS .Order _ B6).mono ?_;rintro e w7 ⟨rfl,hb⟩;have B7:=aN hb;clear hb h6;have h7:=(S0.below B7).cDefault;go_wp2_with fail;refine(IS .Default _ B7).mono ?_;rintro e w8 ⟨rfl,hb⟩;have B8:=aN hb;clear hb h7;have h8:=(S0.below B8).cDeep;go_wp2_with fail;refine(IS .Deep _ B8).mono ?_;rintro e w9 ⟨rfl,hb⟩;have B9:=aN hb;clear hb h8;have h9:=(S0.below B9).cTree;go_wp2_with fail;refine(IS .Tree _ B9).mono ?_;rintro e w10 ⟨rfl,hb⟩;have B10:=aN hb;clear hb h9;have h10:=(S0.below B10).cCard;go_wp2_with fail;refine(IS .Card _ B10).mono ?_;rintro e w11 ⟨rfl,hb⟩;have B11:=aN hb;clear hb h10;have h11:=(S0.below B11).cMark;go_wp2_with fail;refine(IS .Mark _ B11).mono ?_;rintro e w12 ⟨rfl,hb⟩;have B12:=aN hb;clear hb h11;go_wp2_with fail;go_ret;exact⟨X,B12⟩
end Go.Proofs.YtkkicodfpekbgaaGreatDoor
namespace Go.Proofs.YtkkicodfpekbgaaGreatDoor
open Go.Proofs.Tryz
open Go.RowKit
theorem Bc(s:Ls Nd)(W w:M)(R:Nat)(a:Oo Ad)(c:Nat)(data:Q)(tree:Ls Vl)(p:Int)(i x y:Nat)(dp:Int)(h:dk W w R a s.length c data tree 0 p)(hs:ju W a s)(hi:i<s.length)(hk1:1<=(nd s i).kind)(hk9:(nd s i).kind<=9)(hmo:0<=(nd s i).tag->(nd s i).mode=0\/(nd s i).mode=1)(hxy:x<=y)(hy:y<=data.size)(hm:data.size<=140737488355328)(ht:tree.length<=1099511627776):Cs prog 69 #[Po (U (D R 0 Z)),I J i,I J x,I J y,I J dp] w fun e w'=>Cb W R a s.length c data (nd s i) x y dp tree e w':=by
 by_cases htg:(nd s i).tag<0
 ·exact yI s W w R a c data tree p i x y dp h hs hi hk1 hk9 htg hxy hy hm ht
 have htg':0<=(nd s i).tag:=O;rcases hmo htg' with hm0|hm0
 ·exact yJ s W w R a c data tree p i x y dp h hs hi hk1 hk9 htg' hm0 hxy hy hm ht
 exact yK s W w R a c data tree p i x y dp h hs hi hk1 hk9 htg' hm0 hxy hy hm ht
def zC(N:Nd)(t:Q)(w:M)(e:Ending)(w':M):Prop:=
 ∃(v:Vv) (p c:Int),e=Rt (Tu #[v,I J p,I J c])/\H w.heap.size w w'/\
  ((c=0/\p=0/\∃u,cu N t u/\w'.ownsRow w.heap.size 60 4 v 1 (bG [⟨N.kind,u,0,0⟩]))\/(c≠0/\v=S Z 0 0/\∀u,¬cu N t u))
theorem mq(s:Ls Nd)(a:Oo Ad)(c i:Nat)(t:Q)(w:M)(hs:ju w a s)(hi:i<s.length)(hk1:1<=(nd s i).kind)(hk9:(nd s i).kind<=9)(hmo:0<=(nd s i).tag->(nd s i).mode=0\/(nd s i).mode=1)(hm:t.size<=140737488355328):Cs prog 39 #[S a s.length c,I J i,Y t] w fun e w'=>zC (nd s i) t w e w':=by
 have HI:Hi (dk w (w.alloc (eh a s.length c t (S Z 0 0) 0 0)) w.heap.size a s.length c t [] 0 0):=⟨Be,Ln,_,aA w _,bX _ _ _ _⟩;have HN:Hi (Cs prog 69 #[Po (U (D w.heap.size 0 Z)),I J i,I J 0,I J t.size,I J 1] (w.alloc (eh a s.length c t (S Z 0 0) 0 0)) fun e w'=>Cb w w.heap.size a s.length c t (nd s i) 0 t.size 1 [] e w'):=Bc s w _ w.heap.size a c t [] 0 i 0 t.size 1 HI hs hi hk1 hk9 hmo Lz Ln hm Sq;clear hs hmo;generalize nd s i=N at*;unfold eh at HN;go_enter func39,ntmps39;go_wp2_with fail;refine HN.mono ?_;rintro e w1 ⟨v,tree',e',p',rfl,hI1,hD⟩;have HI1:Hi _:=hI1;have HD:Hi _:=hD;obtain⟨_,_,vt,hr,ho⟩:=hI1;have HO:Hi _:=ho;unfold eh at hr;have c2:w1.cell? (D w.heap.size 2 Z)=U vt:=by simp[Wc,hr]
 have c3:w1.cell? (D w.heap.size 3 Z)=U (I J e'):=by simp[Wc,hr]
 have c4:w1.cell? (D w.heap.size 4 Z)=U (I J p'):=by simp[Wc,hr]
 clear hr ho HN HI;rcases hD with⟨rfl,tq,u,rfl,hAt,htr⟩|⟨he,hno⟩
 ·have hto:tq<=t.size:=by obtain⟨_,h1,h2,_⟩:=hAt;have:=i3 h1;rw[show(t.extract 0 t.size).size=t.size by simp]at this;omega
  have HAT:Hi _:=hAt;have HTR:Hi _:=htr;clear hAt htr HD;by_cases hlt:tq<t.size
  ·have hlt':(tq:Int)<t.size:=O;go_wp2_with fail;refine(bO w _ w.heap.size a s.length c t tree' p' 7 tq HI1).mono ?_;rintro e w2 ⟨rfl,hI2,_⟩;have HI2:Hi _:=hI2;obtain⟨_,_,vt2,hr2,_⟩:=hI2;unfold eh at hr2;(have d3:w2.cell? (D w.heap.size 3 Z)=U (I J 7):=by simp[Wc,hr2]);(have d4:w2.cell? (D w.heap.size 4 Z)=U (I J tq):=by simp[Wc,hr2]);clear hr2 c2 c3 c4;go_wp2;go_quiet (fail);go_wp2;refine aS (v:=Tu #[S Z 0 0,I J tq,I J 7]) (by simp[results,results39,go_sem]) X ⟨_,tq,7,X,Go.below_drewN HI2.bel _,.inr ⟨Dc,X,fun u' q=>?_⟩⟩;have q1:=q.2.2.1;have q2:=HAT.out.2.2.1;omega
  have hlt':(t.size:Int)<=tq:=O;obtain rfl:tq=t.size:=O;obtain⟨ta,tc,rfl,_⟩:∃ta tc,vt=S ta tree'.length tc/\True:=by
   rcases HO.2 with⟨q,q'⟩|⟨g,cap,cur,q,_⟩
   ·exact⟨Z,0,by rw[q,q'],trivial⟩
   exact⟨_,cap,q,trivial⟩
  go_wp2;refine aS (v:=Tu #[S ta tree'.length tc,I J 0,I J 0]) (by simp[results,results39,go_sem]) X ⟨_,0,0,X,HI1.bel,.inl ⟨X,X,u,HAT,?_⟩⟩;have:=HO.out;rw[HTR.out]at this ⊢;exact this
 have HE:Hi (e'≠0):=he;have HNO:Hi _:=hno;have he1:(e'==0)=false:=by simp[he]
 have he2:(e' !=0)=true:=by simp[he]
 clear he hno HD;go_wp2;go_quiet (fail);go_wp2;refine aS (v:=Tu #[S Z 0 0,I J p',I J e']) (by simp[results,results39,go_sem]) X ⟨_,p',e',X,Go.below_drewN HI1.bel _,.inr ⟨HE,X,fun u' q=>HNO _ _ q⟩⟩
theorem Bq(s:Ls Nd)(a:Oo Ad)(c:Nat)(w:M)(hs:ju w a s)(hok:ie s)(hn0:s.length<=140737488351232):Cs prog 15 #[S a s.length c] w fun e w'=>dB (cd s) w e w':=by
 have HS:Hi (ju w a s):=hs;have HOK:Hi (ie s):=hok;by_cases hb:s.length<1
 ·have hb':(s.length:Int)<1:=O;have HX:Hi (¬cd s):=fun h=>by have:=h.1;omega
  clear hs hok;go_enter func15,ntmps15;go_wp2;go_ret;exact bc HX By
 by_cases hb2:40<s.length
 ·have hb':(40:Int)<s.length:=O;have hb1':(1:Int)<=s.length:=O;have HX:Hi (¬cd s):=fun h=>by have:=h.2.1;omega
  clear hs hok hb;go_enter func15,ntmps15;go_wp2;go_ret;exact bc HX By
 have h1:1<=s.length:=O;have h40:s.length<=40:=O;have h1':(1:Int)<=s.length:=O;have h40':(s.length:Int)<=40:=O;clear hb hb2 hs hok hn0;go_enter func15,ntmps15;go_wp2;go_loopw [3] (fun vi wr=>∃i:Nat,i<=s.length/\vi=I J i/\(∀j,j<i->fw s.length (nd s j))/\H w.heap.size w wr) (fun vi _=>s.length-(Io vi).toNat);case atStart=>exact⟨0,Lz,X,fun _ h=>Ab h (aO _),By⟩
 obtain⟨i,hi,rfl,hall,hbr⟩:=hrel;have HA:Hi (∀j,j<i->fw s.length (nd s j)):=hall;have HB:Hi (H w.heap.size w wr):=hbr;clear hall hbr;by_cases hlt:i<s.length
 ·have hlt':(i:Int)<s.length:=O;obtain⟨b,o,ka,kc,rfl,nc,kl,km,ks⟩:=(HS.below HB) i hlt;obtain⟨n1,n2,n3,n4⟩:=nc;have HC:Hi (Cs prog 36 #[S (U (D b o Z)) s.length c,Ag #[I J (nd s i).kind,I J (nd s i).tag,I J (nd s i).mode,S ka (nd s i).kids.length kc]] wr fun e w'=>dB (fw s.length (nd s i)) wr e w'):=Az s _ c (nd s i) ka kc wr h40 ks O;clear ks;go_wp2_with fail;refine HC.mono ?_;rintro e w1 ⟨r,rfl,hr,hb1⟩;have HR:Hi (r=true↔fw s.length (nd s i)):=hr;have HB1:Hi (H w.heap.size w w1):=HB.trans (hb1.mono HB.size);clear hr hb1 n1 n2 n3 n4 HC;cases r
  ·go_wp2;go_ret;exact bc (fun h=>Bool.noConfusion (HR.2 (h.2.2.1 i hlt))) HB1
  go_wp2;go_roundw
  case rel=>exact⟨i+1,O,Gn,fun j hj=>by
   by_cases e:j=i
   ·subst e;exact HR.1 trivial
   exact HA j O,HB1⟩
  case measure=>exact Ms
 have hlt':(s.length:Int)<=i:=O;obtain rfl:i=s.length:=O;go_wp2;go_loopw [5] (fun vi wr=>∃i:Nat,i<=s.length/\vi=I J i/\(∀j,j<i->¬kV s j)/\H w.heap.size w wr) (fun vi _=>s.length-(Io vi).toNat);case atStart=>exact⟨0,Lz,X,fun _ h=>Ab h (aO _),HB⟩
 obtain⟨i,hi,rfl,hall,hbr⟩:=hrel;have HBK:Hi (∀j,j<i->¬kV s j):=hall;have HB2:Hi (H w.heap.size w wr):=hbr;clear hall hbr;by_cases hlt:i<s.length
 ·have hlt':(i:Int)<s.length:=O;have HC:Hi (Cs prog 37 #[S a s.length c,I J i] wr fun e w'=>Fu s i wr e w'):=qQ s a c i wr (HS.below HB2) (gD HA) hlt h40;go_wp2_with fail;refine HC.mono ?_;rintro e w1 ⟨v,l,bk,rfl,hown,hb1,_,_,hbk⟩;have HR:Hi (bk=true↔kV s i):=hbk;have HB3:Hi (H w.heap.size w w1):=HB2.trans (hb1.mono HB2.size);clear hown hb1 hbk HC;cases bk
  ·go_wp2;go_roundw
   case rel=>exact⟨i+1,O,Gn,fun j hj=>by
    by_cases e:j=i
    ·subst e;exact fun q=>Bool.noConfusion (HR.2 q)
    exact HBK j O,HB3⟩
   case measure=>exact Ms
  go_wp2;go_ret;exact bc (fun h=>h.2.2.2.1 i hlt (HR.1 trivial)) HB3
 have hlt':(s.length:Int)<=i:=O;obtain rfl:i=s.length:=O;go_wp2;go_loopw [8] (fun vi wr=>∃i:Nat,i<=s.length/\vi=I J i/\(∀j,j<i->((nd s j).kind=10\/(nd s j).kind=13->Told (dU s) (nd s j))/\eW s (nd s j) (nd s j).kids.length)/\H w.heap.size w wr) (fun vi _=>s.length-(Io vi).toNat);case atStart=>exact⟨0,Lz,X,fun _ h=>Ab h (aO _),HB2⟩
 obtain⟨i,hi,rfl,hall,hbr⟩:=hrel;have HL:Hi (∀j,j<i->((nd s j).kind=10\/(nd s j).kind=13->Told (dU s) (nd s j))/\eW s (nd s j) (nd s j).kids.length):=hall;have HB3:Hi (H w.heap.size w wr):=hbr;clear hall hbr;by_cases hlt:i<s.length
 ·have hlt':(i:Int)<s.length:=O;obtain⟨b,o,ka,kc,rfl,nc,kl,km,ks⟩:=HS i hlt;obtain⟨n1,n2,n3,n4⟩:=nc.below HB3;have KS:Hi (be w ka (nd s i).kids):=ks;have h8:=qF HA hlt;obtain⟨Bn,hBn⟩:∃Bn,Bn=wr.heap.size:=Ez;have HBN:Hi (Bn=wr.heap.size):=hBn;have HB4':Hi (H w.heap.size w (wr.alloc (C #[I J (nd s i).kind,I J (nd s i).tag,I J (nd s i).mode,S ka (nd s i).kids.length kc] 58))):=HB3.alloc HB3.size _;have W3':(wr.alloc (C #[I J (nd s i).kind,I J (nd s i).tag,I J (nd s i).mode,S ka (nd s i).kids.length kc] 58)).cell? (D Bn 3 Z)=U (S ka (nd s i).kids.length kc):=by rw[hBn];simp
  clear ks nc hBn;by_cases hk:(nd s i).kind=10\/(nd s i).kind=13
  ·have hkb:((nd s i).kind==10)=true\/(((nd s i).kind==10)=false/\((nd s i).kind==13)=true):=by
    rcases hk with hk|hk
    ·left;simp[hk]
    right;simp[hk]
   have HTD:Hi (Cs prog 38 #[S (U (D b o Z)) s.length c,Ag #[I J (nd s i).kind,I J (nd s i).tag,I J (nd s i).mode,S ka (nd s i).kids.length kc]] (wr.alloc (C #[I J (nd s i).kind,I J (nd s i).tag,I J (nd s i).mode,S ka (nd s i).kids.length kc] 58)) fun e w'=>dB (Told (dU s) (nd s i)) (wr.alloc (C #[I J (nd s i).kind,I J (nd s i).tag,I J (nd s i).mode,S ka (nd s i).kids.length kc] 58)) e w'):=Dq s _ c i ka kc _ (HS.below HB4') (gD HA) (fu HA) hlt h40 (KS.below HB4') h8;have HK:Hi ((nd s i).kind=10\/(nd s i).kind=13):=hk;clear hk;rcases hkb with e1|⟨e1,e2⟩
   ·go_wp2_with fail;refine HTD.mono ?_;rintro e W1 ⟨r,rfl,hr,hb4⟩;have HR:Hi (r=true↔Told (dU s) (nd s i)):=hr;have HB4:Hi (H w.heap.size w W1):=HB4'.trans (hb4.mono HB4'.size);have W3:W1.cell? (D Bn 3 Z)=U (S ka (nd s i).kids.length kc):=(hb4.cell (aw W3')).trans W3';clear hr hb4 n1 n2 n3 n4 W3' HTD;cases r
    ·go_wp2;go_ret;exact bc (fun h=>Bool.noConfusion (HR.2 ((h.2.2.2.2 i hlt).1 HK))) HB4
    go_wp2;rw[<-HBN.out];go_loopw [11] (fun vj wx=>∃j:Nat,j<=(nd s i).kids.length/\vj=I J j/\eW s (nd s i) j/\H W1.heap.size W1 wx) (fun vj _=>(nd s i).kids.length-(Io vj).toNat);case atStart=>exact⟨0,Lz,X,fun _ h=>Ab h (aO _),By⟩
    obtain⟨j,hj,rfl,hdf,hbr⟩:=hrel;have HDF:Hi (eW s (nd s i) j):=hdf;have HBX:Hi (H W1.heap.size W1 wr):=hbr;have HBW:Hi (H w.heap.size w wr):=HB4.trans (hbr.mono HB4.size);have g3:wr.cell? (D Bn 3 Z)=U (S ka (nd s i).kids.length kc):=(hbr.cell (aw W3)).trans W3;clear hdf hbr;by_cases hjl:j<(nd s i).kids.length
    ·have hjl':(j:Int)<(nd s i).kids.length:=O;obtain⟨kb,ko,rfl,kcl⟩:=KS j hjl;obtain⟨y,hy⟩:∃y,kd (nd s i) j=y:=Ey;have HY:Hi (kd (nd s i) j=y):=hy;(have hkc:dt w kb (ko+j*3) y:=by rw[<-hy];exact kcl);obtain⟨k1,k2,k3⟩:=hkc.below HBW;have hko:=(HA i hlt).2.2.2 j hjl;rw[hy]at hko;obtain⟨t,ht⟩:∃t:Nat,y.node=t:=⟨_,(dh hko.1).symm⟩;have HT:Hi (y.node=t):=ht;(have htl:t<s.length:=by have:=hko.2.1;omega);have htl':(t:Int)<s.length:=O;have hds:y.dflt.size<=140737488351232:=HOK i hlt y (by rw[<-hy];unfold kd;rw[aB,aC hjl];exact bz hjl);rw[ht]at k1;have YES:Hi ((y.dflt.size=0\/((nd s t).kind<=9/\∃u,cu (nd s t) y.dflt u))->eW s (nd s i) (j+1)):=fun h q hq=>by
      by_cases e:q=j
      ·subst e;rw[HY,HT.out];exact h
      exact HDF q O
     have NO:Hi (¬(y.dflt.size=0\/((nd s t).kind<=9/\∃u,cu (nd s t) y.dflt u))->¬cd s):=fun h q=>h (by have:=(q.2.2.2.2 i hlt).2 j hjl;rw[HY,HT.out]at this;exact this);clear hy kcl hkc hko ht;by_cases hz:y.dflt.size=0
     ·have e:=gJ hz;have HZ:Hi (y.dflt.size=0):=hz;have HB5:Hi (∀o,H W1.heap.size W1 (wr.alloc o)):=fun o=>HBX.alloc HBX.size o;clear hz;go_wp2;go_roundw;case rel=>exact⟨j+1,O,Gn,YES (.inl HZ),HB5 _⟩
      case measure=>exact Ms
     have e:=dR (t:=y.dflt) O;have HZ:Hi (¬y.dflt.size=0):=hz;obtain⟨b',o',ka',kc',e',nc',_,_,_⟩:=(HS.below HBW) t htl;have nt:=nc'.kind;(obtain⟨rfl,rfl⟩:b=b'/\o=o':=by injection e' with e';injection e' with a1 a2 _;exact⟨a1,a2⟩);have hbl:=aw nt;simp only at hbl;clear hz e' nc';by_cases hk9:9<(nd s t).kind
     ·have HK:Hi (9<(nd s t).kind):=hk9;have HB6:Hi (∀o,H w.heap.size w (wr.alloc o)):=fun o=>HBW.alloc HBW.size o;go_wp2;go_ret;exact bc (NO.out (fun q=>by rcases q with q|q;exact HZ.out q;have:=HK.out;have:=q.1;omega)) (HB6.out _)
     have hk9':(nd s t).kind<=9:=O;have HK:Hi ((nd s t).kind<=9):=hk9';have HB6:Hi (∀o,H w.heap.size w (wr.alloc o)):=fun o=>HBW.alloc HBW.size o;have HB7:Hi (∀o,H W1.heap.size W1 (wr.alloc o)):=fun o=>HBX.alloc HBX.size o;have HRD:Hi (∀wq,H w.heap.size w wq->Cs prog 39 #[S (U (D b o Z)) s.length c,I J t,Y y.dflt] wq fun e w'=>zC (nd s t) y.dflt wq e w'):=fun wq hq=>mq s _ c t y.dflt wq (HS.below hq) htl (fu HA t htl).1 hk9' (fun _=>pF HA htl) O;clear hk9;go_wp2_with fail;refine(HRD _ (HB6 _)).mono ?_;rintro e w5 ⟨v5,p5,c5,rfl,hb5,hD⟩;have HD:Hi ((c5=0/\p5=0/\∃u,cu (nd s t) y.dflt u/\w5.ownsRow _ 60 4 v5 1 (bG [⟨(nd s t).kind,u,0,0⟩]))\/(c5≠0/\v5=S Z 0 0/\∀u,¬cu (nd s t) y.dflt u)):=hD;have HB8:Hi (H w.heap.size w w5):=(HB6 _).trans (hb5.mono (HB6 _).size);have HB9:Hi (H W1.heap.size W1 w5):=(HB7 _).trans (hb5.mono (HB7 _).size);clear hb5;rcases hD with⟨rfl,_,u,hu,_⟩|⟨hne,_,hno⟩
     ·have HU:Hi (cu (nd s t) y.dflt u):=hu;clear hu HD;go_wp2;go_roundw;case rel=>exact⟨j+1,O,Gn,YES (.inr ⟨HK,u,HU⟩),HB9⟩
      case measure=>exact Ms
     (have hne':(c5 !=0)=true:=by simp[hne]);have HNO:Hi (∀u,¬cu (nd s t) y.dflt u):=hno;clear hno hne HD;go_wp2;go_ret;exact bc (NO (fun q=>by rcases q with q|⟨_,u,q⟩;exact HZ q;exact HNO u q)) HB8
    have hjl':((nd s i).kids.length:Int)<=j:=O;obtain rfl:j=(nd s i).kids.length:=O;go_wp2;go_roundw
    case rel=>exact⟨i+1,O,Gn,fun q hq=>by
     by_cases e:q=i
     ·subst e;exact⟨fun _=>HR.1 trivial,HDF⟩
     exact HL q O,HBW⟩
    case measure=>exact Ms
   go_wp2_with fail;refine HTD.mono ?_;rintro e W1 ⟨r,rfl,hr,hb4⟩;have HR:Hi (r=true↔Told (dU s) (nd s i)):=hr;have HB4:Hi (H w.heap.size w W1):=HB4'.trans (hb4.mono HB4'.size);have W3:W1.cell? (D Bn 3 Z)=U (S ka (nd s i).kids.length kc):=(hb4.cell (aw W3')).trans W3';clear hr hb4 n1 n2 n3 n4 W3' HTD;cases r
   ·go_wp2;go_ret;exact bc (fun h=>Bool.noConfusion (HR.2 ((h.2.2.2.2 i hlt).1 HK))) HB4
   go_wp2;rw[<-HBN.out];go_loopw [11] (fun vj wx=>∃j:Nat,j<=(nd s i).kids.length/\vj=I J j/\eW s (nd s i) j/\H W1.heap.size W1 wx) (fun vj _=>(nd s i).kids.length-(Io vj).toNat);case atStart=>exact⟨0,Lz,X,fun _ h=>Ab h (aO _),By⟩
   obtain⟨j,hj,rfl,hdf,hbr⟩:=hrel;have HDF:Hi (eW s (nd s i) j):=hdf;have HBX:Hi (H W1.heap.size W1 wr):=hbr;have HBW:Hi (H w.heap.size w wr):=HB4.trans (hbr.mono HB4.size);have g3:wr.cell? (D Bn 3 Z)=U (S ka (nd s i).kids.length kc):=(hbr.cell (aw W3)).trans W3;clear hdf hbr;by_cases hjl:j<(nd s i).kids.length
   ·have hjl':(j:Int)<(nd s i).kids.length:=O;obtain⟨kb,ko,rfl,kcl⟩:=KS j hjl;obtain⟨y,hy⟩:∃y,kd (nd s i) j=y:=Ey;have HY:Hi (kd (nd s i) j=y):=hy;(have hkc:dt w kb (ko+j*3) y:=by rw[<-hy];exact kcl);obtain⟨k1,k2,k3⟩:=hkc.below HBW;have hko:=(HA i hlt).2.2.2 j hjl;rw[hy]at hko;obtain⟨t,ht⟩:∃t:Nat,y.node=t:=⟨_,(dh hko.1).symm⟩;have HT:Hi (y.node=t):=ht;(have htl:t<s.length:=by have:=hko.2.1;omega);have htl':(t:Int)<s.length:=O;have hds:y.dflt.size<=140737488351232:=HOK i hlt y (by rw[<-hy];unfold kd;rw[aB,aC hjl];exact bz hjl);rw[ht]at k1;have YES:Hi ((y.dflt.size=0\/((nd s t).kind<=9/\∃u,cu (nd s t) y.dflt u))->eW s (nd s i) (j+1)):=fun h q hq=>by
     by_cases e:q=j
     ·subst e;rw[HY,HT.out];exact h
     exact HDF q O
    have NO:Hi (¬(y.dflt.size=0\/((nd s t).kind<=9/\∃u,cu (nd s t) y.dflt u))->¬cd s):=fun h q=>h (by have:=(q.2.2.2.2 i hlt).2 j hjl;rw[HY,HT.out]at this;exact this);clear hy kcl hkc hko ht;by_cases hz:y.dflt.size=0
    ·have e:=gJ hz;have HZ:Hi (y.dflt.size=0):=hz;have HB5:Hi (∀o,H W1.heap.size W1 (wr.alloc o)):=fun o=>HBX.alloc HBX.size o;clear hz;go_wp2;go_roundw;case rel=>exact⟨j+1,O,Gn,YES (.inl HZ),HB5 _⟩
     case measure=>exact Ms
    have e:=dR (t:=y.dflt) O;have HZ:Hi (¬y.dflt.size=0):=hz;obtain⟨b',o',ka',kc',e',nc',_,_,_⟩:=(HS.below HBW) t htl;have nt:=nc'.kind;(obtain⟨rfl,rfl⟩:b=b'/\o=o':=by injection e' with e';injection e' with a1 a2 _;exact⟨a1,a2⟩);have hbl:=aw nt;simp only at hbl;clear hz e' nc';by_cases hk9:9<(nd s t).kind
    ·have HK:Hi (9<(nd s t).kind):=hk9;have HB6:Hi (∀o,H w.heap.size w (wr.alloc o)):=fun o=>HBW.alloc HBW.size o;go_wp2;go_ret;exact bc (NO.out (fun q=>by rcases q with q|q;exact HZ.out q;have:=HK.out;have:=q.1;omega)) (HB6.out _)
    have hk9':(nd s t).kind<=9:=O;have HK:Hi ((nd s t).kind<=9):=hk9';have HB6:Hi (∀o,H w.heap.size w (wr.alloc o)):=fun o=>HBW.alloc HBW.size o;have HB7:Hi (∀o,H W1.heap.size W1 (wr.alloc o)):=fun o=>HBX.alloc HBX.size o;have HRD:Hi (∀wq,H w.heap.size w wq->Cs prog 39 #[S (U (D b o Z)) s.length c,I J t,Y y.dflt] wq fun e w'=>zC (nd s t) y.dflt wq e w'):=fun wq hq=>mq s _ c t y.dflt wq (HS.below hq) htl (fu HA t htl).1 hk9' (fun _=>pF HA htl) O;clear hk9;go_wp2_with fail;refine(HRD _ (HB6 _)).mono ?_;rintro e w5 ⟨v5,p5,c5,rfl,hb5,hD⟩;have HD:Hi ((c5=0/\p5=0/\∃u,cu (nd s t) y.dflt u/\w5.ownsRow _ 60 4 v5 1 (bG [⟨(nd s t).kind,u,0,0⟩]))\/(c5≠0/\v5=S Z 0 0/\∀u,¬cu (nd s t) y.dflt u)):=hD;have HB8:Hi (H w.heap.size w w5):=(HB6 _).trans (hb5.mono (HB6 _).size);have HB9:Hi (H W1.heap.size W1 w5):=(HB7 _).trans (hb5.mono (HB7 _).size);clear hb5;rcases hD with⟨rfl,_,u,hu,_⟩|⟨hne,_,hno⟩
    ·have HU:Hi (cu (nd s t) y.dflt u):=hu;clear hu HD;go_wp2;go_roundw;case rel=>exact⟨j+1,O,Gn,YES (.inr ⟨HK,u,HU⟩),HB9⟩
     case measure=>exact Ms
    (have hne':(c5 !=0)=true:=by simp[hne]);have HNO:Hi (∀u,¬cu (nd s t) y.dflt u):=hno;clear hno hne HD;go_wp2;go_ret;exact bc (NO (fun q=>by rcases q with q|⟨_,u,q⟩;exact HZ q;exact HNO u q)) HB8
   have hjl':((nd s i).kids.length:Int)<=j:=O;obtain rfl:j=(nd s i).kids.length:=O;go_wp2;go_roundw
   case rel=>exact⟨i+1,O,Gn,fun q hq=>by
    by_cases e:q=i
    ·subst e;exact⟨fun _=>HR.1 trivial,HDF⟩
    exact HL q O,HBW⟩
   case measure=>exact Ms
  have e1:((nd s i).kind==10)=false:=by simp;exact fun q=>hk (.inl q)
  have e2:((nd s i).kind==13)=false:=by simp;exact fun q=>hk (.inr q)
  have HK:Hi (¬((nd s i).kind=10\/(nd s i).kind=13)):=hk;have W3:=W3';have HB4:=HB4';clear hk W3' HB4';go_wp2;rw[<-HBN.out];generalize(wr.alloc (C #[I J (nd s i).kind,I J (nd s i).tag,I J (nd s i).mode,S ka (nd s i).kids.length kc] 58))=W1 at*;go_loopw [11] (fun vj wx=>∃j:Nat,j<=(nd s i).kids.length/\vj=I J j/\eW s (nd s i) j/\H W1.heap.size W1 wx) (fun vj _=>(nd s i).kids.length-(Io vj).toNat);case atStart=>exact⟨0,Lz,X,fun _ h=>Ab h (aO _),By⟩
  obtain⟨j,hj,rfl,hdf,hbr⟩:=hrel;have HDF:Hi (eW s (nd s i) j):=hdf;have HBX:Hi (H W1.heap.size W1 wr):=hbr;have HBW:Hi (H w.heap.size w wr):=HB4.trans (hbr.mono HB4.size);have g3:wr.cell? (D Bn 3 Z)=U (S ka (nd s i).kids.length kc):=(hbr.cell (aw W3)).trans W3;clear hdf hbr;by_cases hjl:j<(nd s i).kids.length
  ·have hjl':(j:Int)<(nd s i).kids.length:=O;obtain⟨kb,ko,rfl,kcl⟩:=KS j hjl;obtain⟨y,hy⟩:∃y,kd (nd s i) j=y:=Ey;have HY:Hi (kd (nd s i) j=y):=hy;(have hkc:dt w kb (ko+j*3) y:=by rw[<-hy];exact kcl);obtain⟨k1,k2,k3⟩:=hkc.below HBW;have hko:=(HA i hlt).2.2.2 j hjl;rw[hy]at hko;obtain⟨t,ht⟩:∃t:Nat,y.node=t:=⟨_,(dh hko.1).symm⟩;have HT:Hi (y.node=t):=ht;(have htl:t<s.length:=by have:=hko.2.1;omega);have htl':(t:Int)<s.length:=O;have hds:y.dflt.size<=140737488351232:=HOK i hlt y (by rw[<-hy];unfold kd;rw[aB,aC hjl];exact bz hjl);rw[ht]at k1;have YES:Hi ((y.dflt.size=0\/((nd s t).kind<=9/\∃u,cu (nd s t) y.dflt u))->eW s (nd s i) (j+1)):=fun h q hq=>by
    by_cases e:q=j
    ·subst e;rw[HY,HT.out];exact h
    exact HDF q O
   have NO:Hi (¬(y.dflt.size=0\/((nd s t).kind<=9/\∃u,cu (nd s t) y.dflt u))->¬cd s):=fun h q=>h (by have:=(q.2.2.2.2 i hlt).2 j hjl;rw[HY,HT.out]at this;exact this);clear hy kcl hkc hko ht;by_cases hz:y.dflt.size=0
   ·have e:=gJ hz;have HZ:Hi (y.dflt.size=0):=hz;have HB5:Hi (∀o,H W1.heap.size W1 (wr.alloc o)):=fun o=>HBX.alloc HBX.size o;clear hz;go_wp2;go_roundw;case rel=>exact⟨j+1,O,Gn,YES (.inl HZ),HB5 _⟩
    case measure=>exact Ms
   have e:=dR (t:=y.dflt) O;have HZ:Hi (¬y.dflt.size=0):=hz;obtain⟨b',o',ka',kc',e',nc',_,_,_⟩:=(HS.below HBW) t htl;have nt:=nc'.kind;(obtain⟨rfl,rfl⟩:b=b'/\o=o':=by injection e' with e';injection e' with a1 a2 _;exact⟨a1,a2⟩);have hbl:=aw nt;simp only at hbl;clear hz e' nc';by_cases hk9:9<(nd s t).kind
   ·have HK:Hi (9<(nd s t).kind):=hk9;have HB6:Hi (∀o,H w.heap.size w (wr.alloc o)):=fun o=>HBW.alloc HBW.size o;go_wp2;go_ret;exact bc (NO.out (fun q=>by rcases q with q|q;exact HZ.out q;have:=HK.out;have:=q.1;omega)) (HB6.out _)
   have hk9':(nd s t).kind<=9:=O;have HK:Hi ((nd s t).kind<=9):=hk9';have HB6:Hi (∀o,H w.heap.size w (wr.alloc o)):=fun o=>HBW.alloc HBW.size o;have HB7:Hi (∀o,H W1.heap.size W1 (wr.alloc o)):=fun o=>HBX.alloc HBX.size o;have HRD:Hi (∀wq,H w.heap.size w wq->Cs prog 39 #[S (U (D b o Z)) s.length c,I J t,Y y.dflt] wq fun e w'=>zC (nd s t) y.dflt wq e w'):=fun wq hq=>mq s _ c t y.dflt wq (HS.below hq) htl (fu HA t htl).1 hk9' (fun _=>pF HA htl) O;clear hk9;go_wp2_with fail;refine(HRD _ (HB6 _)).mono ?_;rintro e w5 ⟨v5,p5,c5,rfl,hb5,hD⟩;have HD:Hi ((c5=0/\p5=0/\∃u,cu (nd s t) y.dflt u/\w5.ownsRow _ 60 4 v5 1 (bG [⟨(nd s t).kind,u,0,0⟩]))\/(c5≠0/\v5=S Z 0 0/\∀u,¬cu (nd s t) y.dflt u)):=hD;have HB8:Hi (H w.heap.size w w5):=(HB6 _).trans (hb5.mono (HB6 _).size);have HB9:Hi (H W1.heap.size W1 w5):=(HB7 _).trans (hb5.mono (HB7 _).size);clear hb5;rcases hD with⟨rfl,_,u,hu,_⟩|⟨hne,_,hno⟩
   ·have HU:Hi (cu (nd s t) y.dflt u):=hu;clear hu HD;go_wp2;go_roundw;case rel=>exact⟨j+1,O,Gn,YES (.inr ⟨HK,u,HU⟩),HB9⟩
    case measure=>exact Ms
   (have hne':(c5 !=0)=true:=by simp[hne]);have HNO:Hi (∀u,¬cu (nd s t) y.dflt u):=hno;clear hno hne HD;go_wp2;go_ret;exact bc (NO (fun q=>by rcases q with q|⟨_,u,q⟩;exact HZ q;exact HNO u q)) HB8
  have hjl':((nd s i).kids.length:Int)<=j:=O;obtain rfl:j=(nd s i).kids.length:=O;go_wp2;go_roundw
  case rel=>exact⟨i+1,O,Gn,fun q hq=>by
   by_cases e:q=i
   ·subst e;exact⟨fun q=>Ab q HK,HDF⟩
   exact HL q O,HBW⟩
  case measure=>exact Ms
 have hlt':(s.length:Int)<=i:=O;obtain rfl:i=s.length:=O;go_wp2;go_ret;exact bS ⟨h1,h40,HA,HBK,HL⟩ HB3
def DI(E:cw)(W:M)(R:Nat)(a:Oo Ad)(c f:Nat)(kset:Bool)(t x tz:Nat)(dp kind:Int)(o:Except (Int×Int) (Nat×Ls Vl))(tree:Ls Vl)(p:Int)(x':Nat)(last:Q)(wq:M):Prop:=
 ∃(m j:Nat) (acc:Ls Vl),dA E (dJ E f) kset t tz (dp+1) m x' last j acc=U o/\dk W wq R a E.s.length c E.d (tree++⟨kind,⟨#[]⟩,0,(j:Int)⟩::acc) 0 p/\acc.length<=100*(x'-x)/\j<=x'-x
def BV(E:cw)(W:M)(R:Nat)(a:Oo Ad)(c:Nat)(o:Except (Int×Int) (Nat×Ls Vl))(wq:M):Prop:=
 ∃(e q:Int) (tree':Ls Vl),o= .error (e,q)/\dk W wq R a E.s.length c E.d tree' e q
theorem CQ(E:cw)(W:M)(R:Nat)(a:Oo Ad)(c f:Nat)(hc:RC E W a)(hN:kv E W R a c f)(i:Nat)(hi:i<E.s.length)(hk:(nd E.s i).kind=11\/(nd E.s i).kind=12)(ka:Oo Ad)(kc:Nat)(hka:be W ka (nd E.s i).kids)(hkc:(nd E.s i).kids.length<=kc)(x tz m:Nat)(dp:Int)(o:Except (Int×Int) (Nat×Ls Vl))(tree:Ls Vl)(p:Int)(w:M)(hm:dA E (dJ E f) (decide ((nd E.s i).kind=12)) (kd (nd E.s i) 0).node.toNat tz (dp+1) m x bh 0 []=U o)(hxz:x<=tz)(hz:tz<=E.d.size)(hd1:1<=dp)(hd2:dp<=12)(hroom:du tree (f+1) x tz)(hI:dk W w R a E.s.length c E.d tree 0 p):Cs prog 146 #[Po (U (D R 0 Z)),Ag #[I J (nd E.s i).kind,I J (nd E.s i).tag,I J (nd E.s i).mode,S ka (nd E.s i).kids.length kc],I J x,I J tz,I J dp] w fun e w'=>e=Rt (Tu #[])/\fh E W R a c (DJ (nd E.s i).kind tz o) tree p w w':=by
 have HE:Hi _:=oD (jn f) _ _ _ _ _ hm;have HC:Hi _:=hc;have HN:Hi _:=hN;have HI:Hi _:=hI;have hRl:R<w.heap.size:=aw hI.r0;have HRO:Hi _:=hroom;have h1:=hc.right.fine.one i hi hk;obtain⟨kb,ko,rfl,kcl⟩:=hka 0 O;have hkr:=hc.right.fine.within i hi _ (fU (n:=nd E.s i) (i:=0) O);obtain⟨t,ht⟩:∃t:Nat,(kd (nd E.s i) 0).node=t:=⟨(kd (nd E.s i) 0).node.toNat,O⟩;have htl:t<E.s.length:=O;have htn:(kd (nd E.s i) 0).node.toNat=t:=O;have k0:W.cell? (D kb ko Z)=U (I J t):=by rw[<-ht];have:=kcl.node;rw[zA,iS]at this;exact this
 have hkl:(0:Int)<(nd E.s i).kids.length:=O;rw[htn]at hm;obtain⟨kset,hks⟩:∃b:Bool,b=decide ((nd E.s i).kind=12):=Ez;have hkb:((nd E.s i).kind==12)=kset:=by rw[hks];exact X
 rw[<-hks]at hm;have HM:Hi _:=hm;have hl0:tree.length<=1099511627776:=by unfold du at hroom;omega
 have HKD:Hi _:=hk;have HKN:Hi _:=k0;have HB0:Hi (∀A,H w.heap.size w (w.alloc A)):=fun A=>(aY w.heap.size w).alloc Ln A;clear hc hN hka hm hI hroom hi hk kcl hkr ht htn hks k0 h1;go_enter func146,ntmps146;go_wp2_with fail;refine(mo W _ R a E.s.length c E.d tree 0 p ⟨(nd E.s i).kind,⟨#[]⟩,0,0⟩ (HI.below (HB0 _)) hl0).mono ?_;rintro e w1 ⟨rfl,hI1,hf1⟩;have HI1:Hi _:=hI1;have HG1:Hi (w1.heap[w.heap.size]? =U (C #[I J (nd E.s i).kind,I J (nd E.s i).tag,I J (nd E.s i).mode,S (U (D kb ko Z)) (nd E.s i).kids.length kc] 58 (0,0))):=hf1 _ _ _ O Dc (aA w _);have HF1:Hi _:=(Fr.of_below (HB0 _)).trans hf1;clear hI1 hf1;go_wp2;go_loopw [2,11] (fun va vl wq=>∃(x':Nat) (last:Q),va=I J x'/\vl=Y last/\x<=x'/\x'<=tz/\Fr R w wq/\wq.heap[w.heap.size]? =U (C #[I J (nd E.s i).kind,I J (nd E.s i).tag,I J (nd E.s i).mode,S (U (D kb ko Z)) (nd E.s i).kids.length kc] 58 (0,0))/\(DI E W R a c f kset t x tz dp (nd E.s i).kind o tree p x' last wq\/BV E W R a c o wq)) (fun va _ _=>tz-(Io va).toNat);case atStart=>exact⟨x,⟨#[]⟩,X,X,Ln,hxz,HF1,HG1,.inl ⟨m,0,[],HM,HI1,Sq,O⟩⟩
 obtain⟨x',last,rfl,rfl,hx1,hx2,hfr,hbox,hcase⟩:=hrel;have HFR:Hi (Fr R w wr):=hfr;have HBX:Hi _:=hbox;clear hfr hbox;rcases hcase with hrun|hstop
 ·obtain⟨m',j,acc,hmm,hIr,hacc,hjx⟩:=hrun;have HMM:Hi _:=hmm;have HIR:Hi _:=hIr;have r3:=hIr.r3;have hRr:R<wr.heap.size:=aw r3;clear hmm hIr;by_cases hlt:x'<tz
  ·have hlt':(x':Int)<tz:=O;obtain⟨o',hrec,ho⟩:=wo HMM hlt;have HREC:Hi _:=hrec;have HO:Hi _:=ho;have n3:wr.cell? (D w.heap.size 3 Z)=U (S (U (D kb ko Z)) (nd E.s i).kids.length kc):=cell_of_row HBX X;have k3:wr.cell? (D kb ko Z)=U (I J t):=(HIR.bel.cell (p:=D kb ko Z) (aw HKN)).trans HKN;(have HRO2:Hi (du (tree++⟨(nd E.s i).kind,⟨#[]⟩,0,(j:Int)⟩::acc) f x' tz):=by show du _ _ _ _;have:=HRO.out;unfold du at this ⊢;simp only[aQ,aU];omega);clear hrec ho;go_wp2_with fail;refine(HN t x' tz (dp+1) o' _ p _ HREC htl O hz O O HRO2 HIR).mono ?_;rintro e w7 ⟨v,rfl,ha7,hv7⟩;obtain⟨t7,e7,p7,hI7,hO7,hF7⟩:=ha7;have HI7:Hi _:=hI7;have HF7:Hi (Fr R w w7):=HFR.trans hF7;have HG7:Hi _:=hF7 _ _ _ O Dc HBX;have s3:=hI7.r3;clear hI7 hF7 n3 k3 r3;rcases HO with⟨u,rfl,ho⟩|⟨vs,z,rfl,ho⟩
   ·obtain⟨u1,u2⟩:=u;obtain⟨r1,r2,r3⟩:=hO7;subst r1 r2;(have hne:(e7 !=0)=true:=by rw[ct];exact r3);have HOE:Hi _:=ho;clear r3 ho hv7;go_wp2;refine aS (C8 X _ _ _) X ?_;refine⟨X,t7,e7,p7,HI7,?_,HF7⟩;rw[HOE.out];exact⟨X,X,HE _ _ HOE⟩
   obtain⟨r1,r2,r3⟩:=hO7;subst r1 r2 r3;obtain rfl:v=(z:Int):=hv7 vs z X;have hlen:=iC HC.right.fine htl HREC;have HOO:Hi _:=ho;have s1:=HI7.out.r1;have hq1:(x':Int)<=z:=O;have hq2:(z:Int)<=E.d.size:=O;have g0:w7.cell? (D w.heap.size 0 Z)=U (I J (nd E.s i).kind):=cell_of_row HG7 X;(have hI8:dk W w7 R a E.s.length c E.d (tree++⟨(nd E.s i).kind,⟨#[]⟩,0,(j:Int)⟩::(acc++vs)) 0 p7:=by have:=HI7.out;simpa using this);obtain⟨gg,cap,b1,b2,b3,b4⟩:=hI8.bump;obtain⟨N,hN⟩:∃N,N=(tree++⟨(nd E.s i).kind,⟨#[]⟩,0,(j:Int)⟩::(acc++vs)).length:=Ez;(have hNl:(tree.length:Int)<N:=by rw[hN];simp;omega);rw[<-hN]at b1;have HB4:Hi _:=b4;(have hj1:(j:Int)+1<2000000:=by have:=HC.out.size;omega);simp only at b2;clear ho hv7 hI8 b4 hN;have HFZ:Hi _:=fun k=>HF7.trans (HB4 k).2;have HBZ:Hi _:=fun k=>(HB4 k).2 _ _ _ O Dc HG7;by_cases hord:kset=true/\eZ (E.d.extract x' z) last=true
   ·obtain⟨rfl,hbl⟩:=hord;have HOE:Hi (o= .error (8,(x':Int))):=by
     rcases HOO with q|q
     ·exact q.2.2
     exact Ab ⟨X,hbl⟩ q.1
    unfold eZ at hbl;go_wp2_with fail;refine(bO W _ R a E.s.length c E.d _ p7 8 x' HI7).mono ?_;rintro e w8 ⟨rfl,hI8,hoth⟩;(have hI9:dk W w8 R a E.s.length c E.d (tree++⟨(nd E.s i).kind,⟨#[]⟩,0,(j:Int)⟩::(acc++vs)) 8 x':=by have:=hI8;simpa using this);obtain⟨gg',cap',d1,d2,d3,d4⟩:=hI9.bump;have hF8:Fr R w w8:=HF7.trans (Fr.of_same hoth);have hG8:w8.heap[w.heap.size]? =U (C #[I J (nd E.s i).kind,I J (nd E.s i).tag,I J (nd E.s i).mode,S (U (D kb ko Z)) (nd E.s i).kids.length kc] 58 (0,0)):=(hoth _ O).trans HG7;have HD4:Hi (dk W (w8.setCell (D gg' (tree.length*4+3) Z) (I J ((j:Int)+1))) R a E.s.length c E.d (tree++⟨(nd E.s i).kind,⟨#[]⟩,0,(j:Int)+1⟩::(acc++vs)) 8 x'/\Fr R w (w8.setCell (D gg' (tree.length*4+3) Z) (I J ((j:Int)+1)))/\(w8.setCell (D gg' (tree.length*4+3) Z) (I J ((j:Int)+1))).heap[w.heap.size]? =U (C #[I J (nd E.s i).kind,I J (nd E.s i).tag,I J (nd E.s i).mode,S (U (D kb ko Z)) (nd E.s i).kids.length kc] 58 (0,0))):=⟨(d4 _).1,hF8.trans (d4 _).2,(d4 _).2 _ _ _ O Dc hG8⟩;obtain⟨N',hN'⟩:∃N,N=(tree++⟨(nd E.s i).kind,⟨#[]⟩,0,(j:Int)⟩::(acc++vs)).length:=Ez;(have hNl':(tree.length:Int)<N':=by rw[hN'];simp;omega);rw[<-hN']at d1;simp only at d2;clear hI8 hoth hI9 d4 hF8 hG8 hN' b1 b2 b3 hbl;go_wp2;go_roundw;case rel=>exact⟨z,_,X,X,O,O,HD4.2.1,HD4.2.2,.inr ⟨8,x',_,HOE,HD4.1⟩⟩
    case measure=>exact Ms
   have HNX:Hi (∃m',dA E (dJ E f) kset t tz (dp+1) m' z (E.d.extract x' z) (j+1) (acc++vs)=U o):=by
    rcases HOO with q|q
    ·exact Ab ⟨q.1,q.2.1⟩ hord
    exact q.2
   have hd:kset=false\/(kset=true/\Op.bytesLess (E.d.extract x' z).toList last.toList=false):=by
    cases kset
    ·exact .inl X
    refine .inr ⟨X,?_⟩;cases q:Op.bytesLess (E.d.extract x' z).toList last.toList
    ·rfl
    exact Ab ⟨X,q⟩ hord
   clear hord;rcases hd with rfl|⟨rfl,hbl⟩;all_goals
    go_wp2;go_roundw;case rel=>obtain⟨m'',hm''⟩:=HNX.out;exact⟨z,_,X,X,O,O,HFZ _,HBZ _,.inl ⟨m'',j+1,acc++vs,hm'',by have:=(HB4 ((j:Int)+1)).1;simpa using this,by simp only[aQ];omega,O⟩⟩
    case measure=>exact Ms
  have hlt':(tz:Int)<=x':=O;have HOK:Hi _:=sM HMM hlt;go_wp2;go_end0;refine⟨X,_,_,_,HIR,?_,HFR⟩;rw[HOK.out];exact⟨X,X,X⟩
 obtain⟨e,q,tree',ho,hIr⟩:=hstop;have HOE:Hi _:=ho;have HIR:Hi _:=hIr;have r3:=hIr.r3;have hne:(e==0)=false:=by rw[aD];exact HE _ _ ho
 clear hIr ho;by_cases hlt:x'<tz
 ·have hlt':(x':Int)<tz:=O;go_wp2;go_end0;refine⟨X,_,_,_,HIR,?_,HFR⟩;rw[HOE.out];exact⟨X,X,HE _ _ HOE⟩
 have hlt':(tz:Int)<=x':=O;go_wp2;go_end0;refine⟨X,_,_,_,HIR,?_,HFR⟩;rw[HOE.out];exact⟨X,X,HE _ _ HOE⟩

end Go.Proofs.YtkkicodfpekbgaaGreatDoor
