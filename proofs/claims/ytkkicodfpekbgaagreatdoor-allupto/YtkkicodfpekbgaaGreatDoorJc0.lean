/- Parts. -/
import Derived.Test.YtkkicodfpekbgaaGreatDoorJb0
import Derived.Test.YtkkicodfpekbgaaGreatDoorJb1
import Derived.RangeFuncNested
import Derived.RangeFuncBound
import Derived.Shelf.RegionOpen
import Derived.OwnWalkIn
import Derived.LoopNIn
import Derived.LoopIn
open Go.Value renaming int->I,string->Y,slice->S,pointer->Po,bool->Bo,agg->Ag,tuple->Tu
open Go.IntKind renaming i64->J
open Go.Obj renaming cells->C
open Go.Ending renaming returned->Rt
open Option renaming some->U,none->Z
open Go renaming World->M,Calls->Cs,Addr->Ad,Value->Vv
open _root_ renaming ByteArray->Q,Option->Oo,List->Ls
open Go.RowKit renaming Below->H,intOf->Io,Hid->Hi
open Go.World renaming cell?->Wc,frozen?->Wf
open Go.Act renaming put->Ap,eval->Ae
open UInt8 renaming ofNat->Uo
open Go.Addr renaming mk->D
set_option linter.all false
set_option maxRecDepth 100000
set_option maxHeartbeats 8000000
namespace Go.Proofs.YtkkicodfpekbgaaGreatDoor
section
open Go.Proofs.Tryz
open Go.RowKit
theorem My(s:Ls Nd)(a1 a2:Oo Ad)(c1 c2:Nat)(w:M)(h1:ew w a1 s)(h2:ew w a2 s)(hn:s.length<=140737488351232):Cs prog 16 #[S a1 s.length c1,S a2 s.length c2] w fun e w'=>dw True w e w':=by
 have H1:Hi _:=h1;have H2:Hi _:=h2;clear h1 h2;go_enter func16,ntmps16;go_wp2;go_loopw [5] (fun i wr=>∃k:Nat,k<=s.length/\i=I J k/\∃q,wr=w.drewN q) (fun i _=>s.length-(Io i).toNat);case atStart=>exact⟨0,Lz,X,0,X⟩
 obtain⟨k,hk,rfl,q,rfl⟩:=hrel;by_cases aA:k<s.length
 ·obtain⟨b1,o1,ka1,R6,e1,n1,m1,M1,(K1:Hi _)⟩:=H1 k aA;obtain⟨b2,o2,R5,gT,e2,n2,m2,M2,(K2:Hi _)⟩:=H2 k aA;subst e1 e2;have aN:(k:Int)<s.length:=O;obtain⟨x1,x2,x3,x4⟩:=n1;obtain⟨y1,y2,y3,y4⟩:=n2;go_wp2;go_quiet (fail);go_wp2;go_loopw [6] (fun i wr=>∃m:Nat,m<=(nd s k).kids.length/\i=I J m/\∃q,wr=w.drewN q) (fun i _=>(nd s k).kids.length-(Io i).toNat);case atStart=>exact⟨0,Lz,X,q+nq,by rw[World.drewN_drewN]⟩
  obtain⟨m,hm,rfl,q',rfl⟩:=hrel;have RD:(nd s k).kids.length<=9223372036854775807:=by unfold maxLen at M1;omega
  by_cases eZ:m<(nd s k).kids.length;·obtain⟨d1,p1,f1,r1⟩:=K1 m eZ;obtain⟨d2,p2,f2,r2⟩:=K2 m eZ;subst f1 f2;obtain⟨i1,i2,i3⟩:=r1;obtain⟨j1,j2,j3⟩:=r2;generalize(nd s k).kids.getD m fy=kd at i1 i2 i3 j1 j2 j3;have yJ:(m:Int)<(nd s k).kids.length:=O;go_wp2;go_quiet (fail);go_wp2;go_roundw;(case rel=>exact⟨m+1,O,Gn,_,X⟩);exact Ms
  have yJ:((nd s k).kids.length:Int)<=m:=O;go_wp2;go_roundw;case rel=>exact⟨k+1,O,Gn,_,X⟩
  exact Ms
 have aN:(s.length:Int)<=k:=O;go_wp2;go_ret;exact ia trivial (Go.below_drewN By _)
end
section
open Go.RowKit
def Kd.cells(k:Kd):Ls Vv:=[I J k.node,Bo k.opt,Y k.dflt]
def jw(ks:Ls Kd):Ls Vv:=ks.flatMap Kd.cells
theorem afX(l:Ls Kd)(k:Kd):jw (l++[k])=jw l++k.cells:=by unfold jw;simp
def Ac(n:Nd)(K:Vv):Ls Vv:=[I J n.kind,I J n.tag,I J n.mode,K]
def uz(s:Ls Nd)(K:Nat->Vv)(k:Nat):Ls Vv:=(List.range k).flatMap fun i=>Ac (nd s i) (K i)
theorem Ga(s:Ls Nd)(K:Nat->Vv)(k:Nat):uz s K (k+1)=uz s K k++Ac (nd s k) (K k):=by unfold uz;rw[List.range_succ];simp
theorem agE{s:Ls Nd}{K K':Nat->Vv}{k:Nat}(h:∀i,i<k->K i=K' i):uz s K k=uz s K' k:=by
 induction k with
 |zero=>rfl
 |succ k ih=>rw[Ga,Ga,ih (fun i hi=>h i O),h k O]
theorem Pg(s:Ls Nd)(K:Nat->Vv)(k:Nat):(uz s K k).length=k*4:=by
 induction k with
 |zero=>rfl
 |succ k ih=>rw[Ga,ff,ih];simp[Ac];omega
theorem agF(s:Ls Nd)(K:Nat->Vv)(k i:Nat)(hi:i<k)(j:Nat)(hj:j<4):(uz s K k)[i*4+j]? =(Ac (nd s i) (K i))[j]? :=by
 induction k with
 |zero=>omega
 |succ k ih=>
  rw[Ga]
  by_cases e:i=k
  ·subst e
   rw[qq (by rw[Pg];omega),Pg]
   congr 1;omega
  ·rw[uH (by rw[Pg];omega)]
   exact ih O
theorem Jd(l:Ls Kd)(i:Nat)(hi:i<l.length)(j:Nat)(hj:j<3):(jw l)[i*3+j]? =(l.getD i fy).cells[j]? :=by
 induction l generalizing i with
 |nil=>simp at hi
 |cons a l ih=>
  have e:jw (a::l)=a.cells++jw l:=by unfold jw;simp
  rw[e]
  cases i with
  |zero=>rw[uH (by simp[Kd.cells];omega)];simp
  |succ i=>
   rw[qq (by simp[Kd.cells];omega)]
   have:(i+1)*3+j-a.cells.length=i*3+j:=by simp[Kd.cells];omega
   rw[this,ih i (by simp at hi;omega)]
   simp
structure rj(s:Ls Nd)(w wr:M)(k:Nat)(eJ:Vv):Prop where
 bel:Bw w wr
 own:∃K:Nat->Vv,wr.ownsRow w.heap.size 58 4 eJ k (uz s K k)/\∀i,i<k->wr.ownsRow w.heap.size 55 3 (K i) (nd s i).kids.length (jw (nd s i).kids)
theorem rj.below{s:Ls Nd}{w wr w':M}{k:Nat}{eJ:Vv}(h:rj s w wr k eJ)(hb:Bw wr w'):rj s w w' k eJ where
 bel:=Tm h.bel hb
 own:=by obtain⟨K,h1,h2⟩:=h.own;exact⟨K,fm h1 hb,fun i hi=>fm (h2 i hi) hb⟩
theorem ahl{w:M}{b b':Nat}{e:TypeId}{size:Nat}{v:Vv}{n:Nat}{xs:Ls Vv}(h:w.ownsRow b e size v n xs)(hb:b'<=b):w.ownsRow b' e size v n xs:=by
 obtain⟨h1,h2⟩:=h;refine⟨h1,?_⟩;rcases h2 with h2|⟨g,cap,aB,h3,h4,h5⟩;·exact .inl h2
 exact .inr ⟨g,cap,aB,h3,fw hb h4,h5⟩
theorem Yw{w:M}{b1 b2 s1 s2 n1 n2:Nat}{e1 e2:TypeId}{v1 v2:Vv}{x1 x2:Ls Vv}(h1:w.ownsRow b1 e1 s1 v1 n1 x1)(h2:w.ownsRow b2 e2 s2 v2 n2 x2)(hT:e2≠e1):v2.ownBlock=Z\/v2.ownBlock≠v1.ownBlock:=by
 rcases h2.2 with⟨q,_⟩|⟨g,cap,aB,q,_,hg,_⟩;·left;rw[q];rfl
 right;intro e;have:v1.ownBlock=U g:=by rw[<-e,q];rfl
 exact jb hg h1 hT this
theorem rj.put{s:Ls Nd}{w wr w':M}{k g cap:Nat}{eJ vk:Vv}{o:Obj}{K:Nat->Vv}(bO:Bw w wr)(q1:wr.ownsRow w.heap.size 58 4 eJ k (uz s K k))(q2:∀i,i<k->wr.ownsRow w.heap.size 55 3 (K i) (nd s i).kids.length (jw (nd s i).kids))(hk:wr.ownsRow w.heap.size 55 3 vk (nd s k).kids.length (jw (nd s k).kids))(h1:w'.ownsRow w.heap.size 58 4 (S (U (D g 0 Z)) (k+1) cap) (k+1) (uz s K k++Ac (nd s k) vk))(h2:(wr.alloc o).grownBy w' eJ.ownBlock):rj s w w' (k+1) (S (U (D g 0 Z)) (k+1) cap):=by
 have hb:=bO.alloc bO.size o;refine⟨hb.grown h2 hb.size (fun j hj=>(q1.lt j hj).1),fun i=>if i=k then vk else K i,?_,fun i hi=>?_⟩;·rw[Ga,ba X,agE (K':=K) (fun i hi=>G O)];exact h1
 show w'.ownsRow _ _ _ (if i=k then vk else K i) _ _;by_cases e:i=k;·subst e;rw[ba rfl];exact(hk.alloc o).kept h2 (Yw q1 hk Dc)
 rw[G e];exact((q2 i O).alloc o).kept h2 (Yw q1 (q2 i O) Dc)
theorem uV{w:M}{base:Nat}{e:TypeId}{size:Nat}{v:Vv}{n:Nat}{xs:Ls Vv}(h:w.ownsRow base e size v n xs):∃a cap,v=S a n cap/\(0<n->∃g,a=U (D g 0 Z)):=by
 rcases h.2 with⟨hv,hn⟩|⟨g,cap,aB,hv,_⟩;·subst hn;exact⟨Z,0,hv,fun h=>Ab h (Ep _)⟩
 exact⟨_,cap,hv,fun _=>⟨g,X⟩⟩
theorem um(g j:Nat):((D g 0 Z):Ad).add j=(D g j Z):=by unfold Addr.add;split<;>simp_all
theorem rj.sch{s:Ls Nd}{w wr:M}{eJ:Vv}(h:rj s w wr s.length eJ):∃a c,eJ=S a s.length c/\ew wr a s:=by
 obtain⟨K,q1,q2⟩:=h.own;obtain⟨a,c,rfl,ha⟩:=uV q1;refine⟨a,c,X,fun i hi=>?_⟩;obtain⟨g,rfl⟩:=ha O;have cell:∀j,j<4->∀u,(Ac (nd s i) (K i))[j]? =U u->wr.cell? (D g (i*4+j) Z)=U u:=fun j hj u hu=>by have:=q1.cells (g:=g) X (i*4+j) u (by rw[agF s K s.length i hi j hj];exact hu);rwa[um]at this
 obtain⟨ka,kc,hK,aK⟩:=uV (q2 i hi);have hq:=q2 i hi;rw[hK]at hq cell;have kK:(nd s i).kids.length<=kc/\kc<=maxLen:=by
  rcases hq.2 with⟨q,e⟩|⟨g',cap,aB,q,_,_,q3,q4,_⟩;·injection q with _ e1 e2;subst e2;rw[e];exact⟨Ln,Lz⟩
  injection q with _ _ e2;subst e2;exact⟨q3,q4⟩
 refine⟨g,0,ka,kc,X,⟨?_,?_,?_,?_⟩,kK.1,kK.2,fun j hj=>?_⟩;·simpa using cell 0 O _ X
 ·simpa using cell 1 O _ X
 ·simpa using cell 2 O _ X
 ·simpa using cell 3 O _ X
 obtain⟨g',rfl⟩:=aK O;have R7:∀p,p<3->∀u,((nd s i).kids.getD j fy).cells[p]? =U u->wr.cell? (D g' (j*3+p) Z)=U u:=fun p hp u hu=>by have:=hq.cells (g:=g') X (j*3+p) u (by rw[Jd _ j hj p hp];exact hu);rwa[um]at this
 exact⟨g',0,X,by simpa using R7 0 O _ X,by simpa using R7 1 O _ X,by simpa using R7 2 O _ X⟩
end
section
open Go.Proofs.Tryz
open Go.RowKit
theorem pq{r:Q}(h:(hd r).1=0):1<=(hd r).2.s/\0<=(hd r).2.l/\(hd r).2.s+(hd r).2.l<=r.size:=by
 have hr:=Kh (r.extract 1 r.size);unfold hd at h ⊢;repeat' split at h
 all_goals first|(exfalso;simp at h;done)|skip
 ·rename_i h1;exfalso;exact h1 h
 rename_i h1 h2 h3 h4;rw[G h1,G h2,G h3,G h4];simp only;omega
theorem Pn(k:Int)(h:0<=k)(h':k<=12)(w:M):Cs prog 103 #[I J k] w fun e w'=>e=Rt (I J (own k))/\Bw w w':=by
 have HO:Hi _:=fun w=>Xw k h h' w;go_enter func103,ntmps103;go_wp2_with fail;refine(HO _).mono ?_;rintro e w1 ⟨rfl,(HB:Hi _)⟩;go_wp2;go_ret;exact⟨X,HB⟩
def pg(N:Nd)(data:Q)(x y:Nat)(dp:Int)(to:Nat)(u:Q):Prop:=
 dp<=12/\(hd (data.extract x y)).1=0/\(to:Int)=x+(hd (data.extract x y)).2.s+(hd (data.extract x y)).2.l/\
 ((N.tag<0/\(hd (data.extract x y)).2.c=0/\(hd (data.extract x y)).2.n=own N.kind/\(hd (data.extract x y)).2.b=false/\u=data.extract (x+(hd (data.extract x y)).2.s.toNat) to/\bu N.kind u)\/
  (0<=N.tag/\N.mode=0/\(hd (data.extract x y)).2.c=2/\(hd (data.extract x y)).2.n=N.tag/\(hd (data.extract x y)).2.b=false/\u=data.extract (x+(hd (data.extract x y)).2.s.toNat) to/\bu N.kind u)\/
  (0<=N.tag/\N.mode≠0/\(hd (data.extract x y)).2.c=2/\(hd (data.extract x y)).2.n=N.tag/\(hd (data.extract x y)).2.b=true/\
    ∃t,t=data.extract (x+(hd (data.extract x y)).2.s.toNat) to/\(hd t).1=0/\(hd t).2.c=0/\(hd t).2.n=own N.kind/\(hd t).2.b=false/\(x:Int)+(hd (data.extract x y)).2.s+(hd t).2.s+(hd t).2.l=to/\
     u=data.extract (x+(hd (data.extract x y)).2.s.toNat+(hd t).2.s.toNat) to/\bu N.kind u))
end
section
open Go.RowKit
def Nd.stops(n:Nd)(k:Kd):Prop:=n.kind=10/\k.must
def kd(n:Nd)(i:Nat):Kd:=n.kids.getD i fy
def yg(ae:Nat->Nat->Prop)(n:Nd)(i m:Nat):Prop:=n.stops (kd n i)\/∀k,i<k->k<m->(∀j,i<j->j<k->¬n.stops (kd n j))->¬ae (kd n i).node.toNat (kd n k).node.toNat
def Told(ae:Nat->Nat->Prop)(n:Nd):Prop:=∀i,i<n.kids.length->yg ae n i n.kids.length
def gp(k:Int)(m:Nat):Prop:=if k=10 then m<=8 else if k=11\/k=12 then m=1 else if k=13 then 1<=m/\m<=8 else m=0
def fj(len:Nat)(n:Nd)(k:Kd):Prop:=0<=k.node/\k.node<len/\(k.must\/n.kind=10)/\¬(k.opt=true/\k.dflt.size≠0)
def lk(n:Nd):Prop:=n.kind<1\/14<n.kind\/n.tag< -1\/30<n.tag\/(n.mode≠0/\n.mode≠1)
def kf(n:Nd):Prop:=(n.mode=1/\n.tag= -1)\/((n.kind=13\/n.kind=14)/\0<=n.tag/\n.mode=0)
def mw(len:Nat)(n:Nd):Prop:=¬lk n/\¬kf n/\gp n.kind n.kids.length/\∀j,j<n.kids.length->fj len n (kd n j)
def iv(N:Nd)(t u:Q):Prop:=pg N t 0 t.size 1 t.size u
def rk(s:Ls Nd)(n:Nd)(m:Nat):Prop:=∀j,j<m->(kd n j).dflt.size=0\/((nd s (kd n j).node.toNat).kind<=9/\∃u,iv (nd s (kd n j).node.toNat) (kd n j).dflt u)
def ee(s:Ls Nd):Prop:=1<=s.length/\s.length<=40/\(∀i,i<s.length->mw s.length (nd s i))/\(∀i,i<s.length->¬se s i)/\
 ∀i,i<s.length->((nd s i).kind=10\/(nd s i).kind=13->Told (lz s) (nd s i))/\rk s (nd s i) (nd s i).kids.length
theorem zc{s:Ls Nd}(h:∀i,i<s.length->mw s.length (nd s i)):qg s:=fun i hi k hk=>by
 obtain⟨j,hj,e⟩:=zk hk;have:=(h i hi).2.2.2 j hj;unfold kd at this;rw[dy,dz hj]at this;simp only[Ru,e]at this;exact⟨this.1,this.2.1⟩
theorem qx{s:Ls Nd}(h:∀i,i<s.length->mw s.length (nd s i)):xw s:=fun i hi=>by have:=(h i hi).1;unfold lk at this;omega
theorem Fo{s:Ls Nd}(h:∀i,i<s.length->mw s.length (nd s i)){i:Nat}(hi:i<s.length):(nd s i).kids.length<=8:=by
 have:=(h i hi).2.2.1;unfold gp at this;repeat' split at this
 all_goals omega
theorem Jo{s:Ls Nd}(h:∀i,i<s.length->mw s.length (nd s i)){i:Nat}(hi:i<s.length):(nd s i).mode=0\/(nd s i).mode=1:=by have:=(h i hi).1;unfold lk at this;omega
end
section
abbrev bz:=Except (Int×Int) (Ls Vl×Nat)
structure bj where
 s:Ls Nd
 d:Q
 bg:Nat->Int->Int->Bool
 ok:Int->Q->Bool
 dv:Kd->Vl
def own0(k:Int):Int:=if 12<k then 0 else own k
abbrev az:Q:=⟨#[]⟩
abbrev fe:=Nat->Nat->Nat->Int->Oo bz
def bj.hd(E:bj)(x y:Nat):Int×Hd:=Go.Proofs.YtkkicodfpekbgaaGreatDoor.hd (E.d.extract x y)
def bz.andThen{α:Type}(o:Oo bz)(k:Ls Vl->Nat->Oo (Except (Int×Int) α)):Oo (Except (Int×Int) α):=
 match o with
 |none=>Z
 |some (.error e)=>U (.error e)
 |some (.ok (vs,z))=>k vs z
def gu(E:bj)(rec:fe)(h:Hd)(x to:Nat)(dp:Int):Ls Kd->Nat->Oo bz
 | [],_=>U (.error (4,x))
 |k::ks,j=>if E.bg k.node.toNat h.c h.n=true then bz.andThen (rec k.node.toNat x to dp) fun vs _=>U (.ok (⟨13,az,j,1⟩::vs,to))else gu E rec h x to dp ks (j+1)
def dr(E:bj)(rec:fe)(to:Nat)(dp:Int):Ls Kd->Nat->Ls Vl->Oo bz
 | [],x,aE=>if x<to then U (.error (7,x))else U (.ok (aE,x))
 |k::ks,x,aE=>
  if x<to/\(E.hd x to).1≠0 then U (.error ((E.hd x to).1,x))
  else if x<to/\E.bg k.node.toNat (E.hd x to).2.c (E.hd x to).2.n=true then
   bz.andThen (rec k.node.toNat x to dp) fun vs z=>if E.d.extract x z=k.dflt then U (.error (9,x))else dr E rec to dp ks z (aE++vs)
  else if k.opt=true then dr E rec to dp ks x (aE++[⟨15,az,0,0⟩])
  else if k.dflt.size≠0 then dr E rec to dp ks x (aE++[E.dv k])
  else if x<to then U (.error (4,x))else U (.error (3,x))
def jo(a b:Q):Bool:=Op.bytesLess a.toList b.toList
def ic(E:bj)(rec:fe)(set:Bool)(i to:Nat)(dp:Int):Nat->Nat->Q->Nat->Ls Vl->Oo (Except (Int×Int) (Nat×Ls Vl))
 |0,_,_,_,_=>Z
 |m+1,x,last,j,aE=>
  if x<to then
   bz.andThen (rec i x to dp) fun vs z=>if set=true/\jo (E.d.extract x z) last=true then U (.error (8,x))else ic E rec set i to dp m z (E.d.extract x z) (j+1) (aE++vs)
  else U (.ok (j,aE))
def fc(E:bj)(rec:fe)(m:Nat)(n:Nd)(cl nu:Int)(h:Hd)(x to:Nat)(dp:Int):Oo bz:=
 if n.kind=13 then gu E rec h x to dp n.kids 0
 else if n.kind≠14/\¬(h.c=cl/\h.n=nu/\h.b=decide (10<=n.kind/\n.kind<=12))then U (.error (4,x))
 else if 12<dp then U (.error (10,x))
 else if n.kind=14 then U (.ok ([⟨14,E.d.extract x to,0,0⟩],to))
 else if n.kind=10 then
  match dr E rec to (dp+1) n.kids (x+h.s.toNat) []with
  |none=>Z
  |some (.error e)=>U (.error e)
  |some (.ok (vs,_))=>U (.ok (⟨10,az,0,n.kids.length⟩::vs,to))
 else if 10<=n.kind/\n.kind<=12 then
  match ic E rec (decide (n.kind=12)) (kd n 0).node.toNat to (dp+1) m (x+h.s.toNat) az 0 []with
  |none=>Z
  |some (.error e)=>U (.error e)
  |some (.ok (j,vs))=>U (.ok (⟨n.kind,az,0,j⟩::vs,to))
 else if E.ok n.kind (E.d.extract (x+h.s.toNat) to)=true then U (.ok ([⟨n.kind,E.d.extract (x+h.s.toNat) to,0,0⟩],to))
 else U (.error (6,x))
def fk(x:Nat)(h:Hd):Nat:=x+h.s.toNat+h.l.toNat
def lr(E:bj)(rec:fe)(m i:Nat)(h:Hd)(x to:Nat)(dp:Int):Oo bz:=
 if(nd E.s i).tag<0 then fc E rec m (nd E.s i) 0 (own0 (nd E.s i).kind) h x to dp
 else if(nd E.s i).mode=0 then fc E rec m (nd E.s i) 2 (nd E.s i).tag h x to dp
 else if¬(h.c=2/\h.n=(nd E.s i).tag/\h.b=true)then U (.error (4,x))
 else if 12<dp then U (.error (10,x))
 else if(E.hd (x+h.s.toNat) to).1≠0 then U (.error ((E.hd (x+h.s.toNat) to).1,x+h.s.toNat))
 else
  bz.andThen (fc E rec m (nd E.s i) 0 (own0 (nd E.s i).kind) (E.hd (x+h.s.toNat) to).2 (x+h.s.toNat) (fk (x+h.s.toNat) (E.hd (x+h.s.toNat) to).2) dp) fun vs _=>
   if fk (x+h.s.toNat) (E.hd (x+h.s.toNat) to).2<to then U (.error (7,fk (x+h.s.toNat) (E.hd (x+h.s.toNat) to).2))else U (.ok (vs,to))
def cd(E:bj):Nat->fe
 |0,_,_,_,_=>Z
 |f+1,i,x,y,dp=>if(E.hd x y).1≠0 then U (.error ((E.hd x y).1,x))else lr E (cd E f) f i (E.hd x y).2 x (fk x (E.hd x y).2) dp
def jh(E:bj)(f root:Nat):Oo (Except (Int×Int) (Ls Vl)):=
 bz.andThen (cd E f root 0 E.d.size 1) fun vs z=>if z<E.d.size then U (.error (7,z))else U (.ok vs)
def Cq(r r':fe):Prop:=∀i x y dp o,r i x y dp=U o->r' i x y dp=U o
theorem bz.andThen_le{α:Type}{o o':Oo bz}{k k':Ls Vl->Nat->Oo (Except (Int×Int) α)}{v:Except (Int×Int) α}(ho:∀u,o=U u->o'=U u)(hk:∀vs z v,k vs z=U v->k' vs z=U v)(h:bz.andThen o k=U v):bz.andThen o' k'=U v:=by
 unfold bz.andThen at h ⊢;split at h;·cases h
 ·rename_i e;rw[ho _ rfl];exact h
 rename_i vs z;rw[ho _ rfl];exact hk _ _ _ h
theorem Ty{E:bj}{r r':fe}(hr:Cq r r'){h:Hd}{x to:Nat}{dp:Int}:∀(ks:Ls Kd) (j:Nat) (v:bz),gu E r h x to dp ks j=U v->gu E r' h x to dp ks j=U v
 | [],_,_,e=>e
 |k::ks,j,v,e=>by
  unfold gu at e ⊢
  split
  ·rename_i q;rw[ba q]at e;exact bz.andThen_le (fun u=>hr _ _ _ _ u) (fun _ _ _ q=>q) e
  ·rename_i q;rw[G q]at e;exact Ty hr ks (j+1) v e
theorem Kn{E:bj}{r r':fe}(hr:Cq r r'){to:Nat}{dp:Int}:∀(ks:Ls Kd) (x:Nat) (aE:Ls Vl) (v:bz),dr E r to dp ks x aE=U v->dr E r' to dp ks x aE=U v
 | [],_,_,_,e=>e
 |k::ks,x,aE,v,e=>by
  unfold dr at e ⊢
  split
  ·rename_i q;rw[ba q]at e;exact e
  rename_i q;rw[G q]at e
  split
  ·rename_i q;rw[ba q]at e
   refine bz.andThen_le (fun u=>hr _ _ _ _ u) (fun vs z v q=>?_) e
   split
   ·rename_i q';rw[ba q']at q;exact q
   ·rename_i q';rw[G q']at q;exact Kn hr ks _ _ _ q
  rename_i q;rw[G q]at e
  split
  ·rename_i q;rw[ba q]at e;exact Kn hr ks _ _ _ e
  rename_i q;rw[G q]at e
  split
  ·rename_i q;rw[ba q]at e;exact Kn hr ks _ _ _ e
  rename_i q;rw[G q]at e
  exact e
theorem Wr{E:bj}{r r':fe}(hr:Cq r r'){set:Bool}{i to:Nat}{dp:Int}:∀(m m':Nat) (x:Nat) (last:Q) (j:Nat) (aE:Ls Vl) (v:Except (Int×Int) (Nat×Ls Vl)),m<=m'->ic E r set i to dp m x last j aE=U v->ic E r' set i to dp m' x last j aE=U v
 |0,_,_,_,_,_,_,_,e=>by cases e
 |m+1,m',x,last,j,aE,v,hm,e=>by
  obtain⟨R9,rfl⟩:∃k,m'=k+1:=⟨m'-1,O⟩
  unfold ic at e ⊢
  split
  ·rename_i q;rw[ba q]at e
   refine bz.andThen_le (fun u=>hr _ _ _ _ u) (fun vs z v q=>?_) e
   split
   ·rename_i q';rw[ba q']at q;exact q
   ·rename_i q';rw[G q']at q;exact Wr hr m R9 _ _ _ _ _ O q
  ·rename_i q;rw[G q]at e;exact e
theorem Nh{E:bj}{r r':fe}(hr:Cq r r'){m m':Nat}(hm:m<=m'){n:Nd}{cl nu:Int}{h:Hd}{x to:Nat}{dp:Int}{v:bz}(e:fc E r m n cl nu h x to dp=U v):fc E r' m' n cl nu h x to dp=U v:=by
 unfold fc at e ⊢;split;·rename_i q;rw[ba q]at e;exact Ty hr _ _ _ e
 rename_i q;rw[G q]at e;split;·rename_i q;rw[ba q]at e;exact e
 rename_i q;rw[G q]at e;split;·rename_i q;rw[ba q]at e;exact e
 rename_i q;rw[G q]at e;split;·rename_i q;rw[ba q]at e;exact e
 rename_i q;rw[G q]at e;split
 ·rename_i q;rw[ba q]at e
  cases hs:dr E r to (dp+1) n.kids (x+h.s.toNat) []with
  |none=>rw[hs]at e;cases e
  |some o=>rw[hs]at e;rw[Kn hr _ _ _ _ hs];exact e
 rename_i q;rw[G q]at e;split
 ·rename_i q;rw[ba q]at e
  cases hs:ic E r (decide (n.kind=12)) (kd n 0).node.toNat to (dp+1) m (x+h.s.toNat) az 0 []with
  |none=>rw[hs]at e;cases e
  |some o=>rw[hs]at e;rw[Wr hr _ _ _ _ _ _ _ hm hs];exact e
 rename_i q;rw[G q]at e;exact e
theorem aiX{E:bj}{r r':fe}(hr:Cq r r'){m m':Nat}(hm:m<=m'){i:Nat}{h:Hd}{x to:Nat}{dp:Int}{v:bz}(e:lr E r m i h x to dp=U v):lr E r' m' i h x to dp=U v:=by
 unfold lr at e ⊢;split;·rename_i q;rw[ba q]at e;exact Nh hr hm e
 rename_i q;rw[G q]at e;split;·rename_i q;rw[ba q]at e;exact Nh hr hm e
 rename_i q;rw[G q]at e;split;·rename_i q;rw[ba q]at e;exact e
 rename_i q;rw[G q]at e;split;·rename_i q;rw[ba q]at e;exact e
 rename_i q;rw[G q]at e;split;·rename_i q;rw[ba q]at e;exact e
 rename_i q;rw[G q]at e;exact bz.andThen_le (fun u=>Nh hr hm) (fun _ _ _ q=>q) e
theorem Yn{E:bj}:∀f,Cq (cd E f) (cd E (f+1))
 |0=>fun _ _ _ _ _ e=>by cases e
 |f+1=>fun i x y dp o e=>by
  rw[cd]at e ⊢
  split
  ·rename_i q;rw[ba q]at e;exact e
  ·rename_i q;rw[G q]at e;exact aiX (Yn f) (Az f) e
theorem Im(t:Q)(a b i:Nat)(h:a+i<b)(hb:b<=t.size):b8 (t.extract a b) i=b8 t (a+i):=by
 unfold b8;rw[Lib.extract_data];congr 2;rw[dy,dy];congr 1;rw[Hw];rw[ba O,zj]
theorem sl(t:Q)(a b:Nat):(t.extract a b).size=min b t.size-a:=ot
theorem Xp{u u':Q}:∀k:Nat,(∀i,1<=i->i<=k->b8 u' i=b8 u i)->dq u' k=dq u k
 |0,_=>rfl
 |k+1,h=>by
  simp only[dq]
  rw[Xp k (fun i a b=>h i a O),h (k+1) O O]
theorem ah9{u u':Q}(h:(rl u).1=0)(hs:(rl u).2.1<=u'.size)(hb:∀i:Nat,(i:Int)<(rl u).2.1->b8 u' i=b8 u i):rl u'=rl u/\1<=(rl u).2.1:=by
 have h0:=mr u 0;unfold rl at h hs hb ⊢;by_cases q1:u.size=0;·rw[ba q1]at h;cases h
 rw[G q1]at h hs hb ⊢;by_cases q2:b8 u 0<128;·rw[ba q2]at h hs hb ⊢;have e0:=hb 0 (by show(0:Int)<1;decide);(have s0:¬u'.size=0:=by simp only at hs;omega);rw[G s0,e0,ba q2];exact⟨X,Sq⟩
 rw[G q2]at h hs hb ⊢;by_cases q3:b8 u 0=128\/131<b8 u 0;·rw[ba q3]at h;cases h
 rw[G q3]at h hs hb ⊢;by_cases q4:(u.size:Int)<=b8 u 0-128;·rw[ba q4]at h;cases h
 rw[G q4]at h hs hb ⊢;by_cases q5:b8 u 0-128≠cnt (dq u (b8 u 0-128).toNat);·rw[ba q5]at h;cases h
 rw[G q5]at h hs hb ⊢;simp only at hs hb;have e0:=hb 0 O;have s0:¬u'.size=0:=O;have en:dq u' (b8 u 0-128).toNat=dq u (b8 u 0-128).toNat:=Xp _ fun i _ b=>hb i O;rw[G s0,e0,G q2,G q3,G O,en,G q5];exact⟨X,by simp only;omega⟩
theorem Vn{t t':Q}(h:(hd t).1=0)(hs:(hd t).2.s+(hd t).2.l<=t'.size)(hb:∀i:Nat,(i:Int)<(hd t).2.s->b8 t' i=b8 t i):hd t'=hd t/\2<=(hd t).2.s:=by
 have hr:=Kh (t.extract 1 t.size);unfold hd at h hs hb ⊢;by_cases q1:t.size=0;·rw[ba q1]at h;cases h
 rw[G q1]at h hs hb ⊢;by_cases q2:b8 t 0%32=31;·rw[ba q2]at h;cases h
 rw[G q2]at h hs hb ⊢;by_cases q3:(rl (t.extract 1 t.size)).1≠0;·rw[ba q3]at h;exact Ab h q3
 rw[G q3]at h hs hb ⊢;by_cases q4:(t.size:Int)-((rl (t.extract 1 t.size)).2.1+1)<(rl (t.extract 1 t.size)).2.2;·rw[ba q4]at h;cases h
 rw[G q4]at h hs hb ⊢;simp only at hs hb;have M3:=Classical.not_not.1 q3;have e0:=hb 0 O;have s1:(t'.extract 1 t'.size).size=t'.size-1:=by rw[sl];omega
 obtain⟨er,r1⟩:=ah9 (u:=t.extract 1 t.size) (u':=t'.extract 1 t'.size) M3 (by rw[s1];omega) (fun i hi=>by rw[Im t' 1 t'.size i O Ln,Im t 1 t.size i O Ln];exact hb (1+i) O);rw[G O,e0,G q2,er,G q3,G O];exact⟨X,by simp only;omega⟩
theorem Jb{t:Q}(h:(hd t).1=0):2<=(hd t).2.s:=(Vn (t':=t) h (pq h).2.2 fun _ _=>rfl).2
theorem lp{E:bj}{x y:Nat}(h:(E.hd x y).1=0):x+2<=x+(E.hd x y).2.s.toNat/\x+(E.hd x y).2.s.toNat<=fk x (E.hd x y).2/\fk x (E.hd x y).2<=y/\fk x (E.hd x y).2<=E.d.size:=by
 have h1:=Jb h;have h2:=pq h;have h3:=sl E.d x y;unfold fk;unfold bj.hd at*;omega
theorem uR{E:bj}{x y:Nat}(h:(E.hd x y).1=0):((fk x (E.hd x y).2:Nat):Int)=x+(E.hd x y).2.s+(E.hd x y).2.l/\(((E.hd x y).2.s.toNat:Nat):Int)=(E.hd x y).2.s:=by
 have h1:=Jb h;have h2:=pq h;unfold fk;unfold bj.hd at*;omega
theorem Ja{E:bj}{x y z:Nat}(h:(E.hd x y).1=0)(hz:fk x (E.hd x y).2<=z)(hs:z<=E.d.size)(hy:y<=E.d.size):E.hd x z=E.hd x y:=by
 have h1:=Jb h;have h2:=pq h;have h4:=sl E.d x z;have h5:=lp h;have h6:=uR h;unfold bj.hd at*;exact(Vn h O fun i hi=>by rw[Im _ _ _ _ O hs,Im _ _ _ _ O hy]).1
theorem og{α:Type}{o:Oo bz}{k:Ls Vl->Nat->Oo (Except (Int×Int) α)}{v:α}(h:bz.andThen o k=U (.ok v)):∃vs z,o=U (.ok (vs,z))/\k vs z=U (.ok v):=by
 unfold bz.andThen at h;split at h;·cases h
 ·cases h
 rename_i vs z;exact⟨vs,z,X,h⟩
theorem Fg{α:Type}{o:Oo bz}{k:Ls Vl->Nat->Oo (Except (Int×Int) α)}{u:bz}(ho:o=U u)(hk:∀vs z,u= .ok (vs,z)->∃v,k vs z=U v):∃v,bz.andThen o k=U v:=by
 subst ho;unfold bz.andThen
 cases u with
 |error e=>exact⟨_,X⟩
 |ok p=>obtain⟨vs,z⟩:=p;exact hk vs z X
theorem Tx{E:bj}{rec:fe}{h:Hd}{x to:Nat}{dp:Int}:∀(ks:Ls Kd) (j:Nat) {vs:Ls Vl} {z:Nat},gu E rec h x to dp ks j=U (.ok (vs,z))->z=to
 | [],_,_,_,e=>by cases e
 |k::ks,j,vs,z,e=>by
  unfold gu at e
  split at e
  ·obtain⟨_,_,_,e⟩:=og e
   simp at e;exact e.2.symm
  ·exact Tx ks (j+1) e
theorem Th{E:bj}{rec:fe}{m:Nat}{n:Nd}{cl nu:Int}{h:Hd}{x to:Nat}{dp:Int}{vs:Ls Vl}{z:Nat}(e:fc E rec m n cl nu h x to dp=U (.ok (vs,z))):z=to:=by
 unfold fc at e;repeat' split at e
 all_goals first|(exact Tx _ _ e)|(cases e;done)|(simp at e;exact e.2.symm)
theorem Qm{E:bj}{rec:fe}{m i:Nat}{h:Hd}{x to:Nat}{dp:Int}{vs:Ls Vl}{z:Nat}(e:lr E rec m i h x to dp=U (.ok (vs,z))):z=to:=by
 unfold lr at e;split at e;·exact Th e
 split at e;·exact Th e
 split at e;·cases e
 split at e;·cases e
 split at e;·cases e
 obtain⟨_,_,_,e⟩:=og e;split at e;·cases e
 simp at e;exact e.2.symm
theorem tp{E:bj}{f i x y:Nat}{dp:Int}{vs:Ls Vl}{z:Nat}(e:cd E f i x y dp=U (.ok (vs,z))):(E.hd x y).1=0/\z=fk x (E.hd x y).2:=by
 cases f with
 |zero=>cases e
 |succ f=>
  rw[cd]at e
  split at e
  ·cases e
  ·rename_i q;exact⟨Classical.not_not.1 q,Qm e⟩
structure zh(s:Ls Nd):Prop where
 within:qg s
 back:∀i,i<s.length->¬se s i
 len:s.length<=40
 tagged:∀i,i<s.length->(nd s i).kind=13->0<=(nd s i).tag->(nd s i).mode≠0
 one:∀i,i<s.length->((nd s i).kind=11\/(nd s i).kind=12)->(nd s i).kids.length=1
 eight:∀i,i<s.length->(nd s i).kids.length<=8
def aaJ(s:Ls Nd)(v i:Nat):Prop:=∃j,ig s v j/\(nd s j).opn/\∃k∈(nd s j).kids,k.node.toNat=i
structure Way(s:Ls Nd)(V:Ls Nat)(i:Nat):Prop where
 nodup:V.Nodup
 lt:∀v∈V,v<s.length
 to:∀v∈V,aaJ s v i
theorem Way.nil(s:Ls Nd)(i:Nat):Way s [] i:=⟨.nil,Sq,Sq⟩
theorem Way.len{s:Ls Nd}{V:Ls Nat}{i:Nat}(h:Way s V i)(hf:zh s):V.length<=40:=fw (Bi _ _ h.nodup h.lt) hf.len
theorem Way.cons{s:Ls Nd}{V:Ls Nat}{i:Nat}(h:Way s V i)(hf:zh s)(hi:i<s.length)(ho:(nd s i).opn){k:Kd}(hk:k∈(nd s i).kids):Way s (i::V) k.node.toNat where
 nodup:=by
  refine List.nodup_cons.2 ⟨fun hm=>hf.back i hi ?_,h.nodup⟩
  obtain⟨j,hj,QV,k',eI,e⟩:=h.to i hm
  have:=hf.within j (hj.lt hf.within hi) k' eI
  exact⟨j,hj,QV,k',eI,O⟩
 lt:=fun v hv=>by
  rcases Lo.1 hv with rfl|hv
  ·exact hi
  ·exact h.lt v hv
 to:=fun v hv=>by
  rcases Lo.1 hv with rfl|hv
  ·exact⟨v,.refl,ho,k,hk,X⟩
  ·obtain⟨j,hj,QV,k',eI,e⟩:=h.to v hv
   exact⟨i,e▸hj.step QV eI,ho,k,hk,X⟩
theorem Uc{E:bj}{rec:fe}{h:Hd}{x to:Nat}{dp:Int}:∀(ks:Ls Kd) (j:Nat),(∀k∈ks,∃o,rec k.node.toNat x to dp=U o)->∃o,gu E rec h x to dp ks j=U o
 | [],_,_=>⟨_,X⟩
 |k::ks,j,hr=>by
  unfold gu
  split
  ·obtain⟨o,ho⟩:=hr k Sq
   exact Fg ho fun _ _ _=>⟨_,X⟩
  ·exact Uc ks (j+1) fun k hk=>hr k (by simp[hk])
theorem Ks{E:bj}{rec:fe}{to x0:Nat}{dp:Int}(hz:∀i x vs z,rec i x to dp=U (.ok (vs,z))->x<=z/\z<=to):∀(ks:Ls Kd) (x:Nat) (aE:Ls Vl),x0<=x->x<=to->(∀k∈ks,∀x',x0<=x'->x'<=to->∃o,rec k.node.toNat x' to dp=U o)->∃o,dr E rec to dp ks x aE=U o
 | [],x,_,_,_,_=>by unfold dr;split<;>exact⟨_,X⟩
 |k::ks,x,aE,h0,h1,hr=>by
  have pE:∀k∈ks,∀x',x0<=x'->x'<=to->∃o,rec k.node.toNat x' to dp=U o:=fun k hk=>hr k (by simp[hk])
  unfold dr
  split
  ·exact⟨_,X⟩
  split
  ·obtain⟨o,ho⟩:=hr k Sq x h0 h1
   refine Fg ho fun vs z e=>?_
   subst e
   have:=hz _ _ _ _ ho
   split
   ·exact⟨_,X⟩
   ·exact Ks hz ks z _ O O pE
  split
  ·exact Ks hz ks x _ h0 h1 pE
  split
  ·exact Ks hz ks x _ h0 h1 pE
  split<;>exact⟨_,X⟩
theorem Ww{E:bj}{rec:fe}{set:Bool}{i to x0:Nat}{dp:Int}(hz:∀x vs z,rec i x to dp=U (.ok (vs,z))->x<z/\z<=to)(hr:∀x',x0<=x'->x'<=to->∃o,rec i x' to dp=U o):∀(m x:Nat) (last:Q) (j:Nat) (aE:Ls Vl),x0<=x->x<=to->to-x<m->∃o,ic E rec set i to dp m x last j aE=U o
 |0,_,_,_,_,_,_,h=>Ab h (dh _)
 |m+1,x,last,j,aE,h0,h1,hm=>by
  unfold ic
  split
  ·obtain⟨o,ho⟩:=hr x h0 h1
   refine Fg ho fun vs z e=>?_
   subst e
   have:=hz _ _ _ ho
   split
   ·exact⟨_,X⟩
   ·exact Ww hz hr m z _ _ _ O O O
  ·exact⟨_,X⟩
theorem ni{n:Nd}{i:Nat}(h:i<n.kids.length):kd n i∈n.kids:=by unfold kd;rw[dy,dz h];exact me h
theorem Nk{E:bj}(hf:zh E.s){f i:Nat}(hi:i<E.s.length){cl nu:Int}{x x1 to:Nat}{dp:Int}{h:Hd}(bR:x+h.s.toNat=x1)(nI:x1<=to)(hfu:to-x1<f)(hc:(nd E.s i).kind=13->∀k∈(nd E.s i).kids,∃o,cd E f k.node.toNat x to dp=U o)(hr:∀(j:Nat) (x':Nat),j<E.s.length->x1<=x'->x'<=to->∃o,cd E f j x' to (dp+1)=U o):∃o,fc E (cd E f) f (nd E.s i) cl nu h x to dp=U o:=by
 have aA:∀k∈(nd E.s i).kids,k.node.toNat<E.s.length:=fun k hk=>by have:=hf.within i hi k hk;omega
 have hz:∀i x vs z,cd E f i x to (dp+1)=U (.ok (vs,z))->x<z/\z<=to:=fun i x vs z e=>by obtain⟨q1,q2⟩:=tp e;have:=lp q1;omega
 unfold fc;split;·rename_i q;exact Uc _ _ (hc q)
 split;·exact⟨_,X⟩
 split;·exact⟨_,X⟩
 split;·exact⟨_,X⟩
 split
 ·obtain⟨o,ho⟩:=Ks (x0:=x1) (fun i x vs z e=>by have:=hz i x vs z e;omega) (nd E.s i).kids (x+h.s.toNat) [] O O (fun k hk x' a b=>hr _ x' (aA k hk) a b);rw[ho]
  cases o with
  |error e=>exact⟨_,X⟩
  |ok p=>obtain⟨vs,z⟩:=p;exact⟨_,X⟩
 split
 ·rename_i A2 q;have h1:=hf.one i hi O;have hk:=aA _ (ni (n:=nd E.s i) (i:=0) O);obtain⟨o,ho⟩:=Ww (set:=decide ((nd E.s i).kind=12)) (x0:=x1) (fun x vs z e=>hz _ x vs z e) (fun x' a b=>hr _ x' hk a b) f (x+h.s.toNat) az 0 [] O O O;rw[ho]
  cases o with
  |error e=>exact⟨_,X⟩
  |ok p=>obtain⟨vs,z⟩:=p;exact⟨_,X⟩
 split<;>exact⟨_,X⟩
theorem Bp{E:bj}(hf:zh E.s):∀(f i x y:Nat) (dp:Int) (V:Ls Nat),i<E.s.length->Way E.s V i->42*(y-x)+41<=f+V.length->∃o,cd E f i x y dp=U o
 |0,i,x,y,dp,V,_,hV,h=>by have:=hV.len hf;omega
 |f+1,i,x,y,dp,V,hi,hV,h=>by
  have P5:=hV.len hf
  rw[cd]
  split
  ·exact⟨_,X⟩
  rename_i q
  have hq:=Classical.not_not.1 q
  have jP:=lp hq
  have aA:∀k∈(nd E.s i).kids,k.node.toNat<E.s.length:=fun k hk=>by have:=hf.within i hi k hk;omega
  unfold lr
  split
  ·rename_i ht
   exact Nk hf hi X jP.2.1 O (fun hk k dK=>Bp hf f k.node.toNat x _ dp (i::V) (aA k dK) (hV.cons hf hi ⟨hk,ht⟩ dK) (by simp only[fu];omega))
    (fun j x' hj a b=>Bp hf f j x' _ (dp+1) [] hj (Way.nil _ _) (by simp only[lx];omega))
  split
  ·rename_i ht hm
   exact Nk hf hi X jP.2.1 O (fun hk=>Ab hm (hf.tagged i hi hk O))
    (fun j x' hj a b=>Bp hf f j x' _ (dp+1) [] hj (Way.nil _ _) (by simp only[lx];omega))
  split
  ·exact⟨_,X⟩
  split
  ·exact⟨_,X⟩
  split
  ·exact⟨_,X⟩
  rename_i q'
  have wS:=Classical.not_not.1 q'
  have QU:=lp wS
  obtain⟨o,ho⟩:=Nk (cl:=0) (nu:=own0 (nd E.s i).kind) (dp:=dp) hf hi X QU.2.1 (f:=f) O (fun hk k dK=>Bp hf f k.node.toNat _ _ dp [] (aA k dK) (Way.nil _ _) (by simp only[lx];omega))
   (fun j x' hj a b=>Bp hf f j x' _ (dp+1) [] hj (Way.nil _ _) (by simp only[lx];omega))
  refine Fg ho fun vs z _=>?_
  split<;>exact⟨_,X⟩
end
section
open Go.Proofs.Tryz
open Go.RowKit
def Nd.lays(n:Nd):Ls (Int×Int×Bool):=if n.mode=1 then [(2,n.tag,true),(n.ownT.1,n.ownT.2,false)]else [(n.ownT.1,n.ownT.2,false)]
def Jg(l:Ls (Int×Int×Bool)):Ls Vv:=l.flatMap fun t=> [I J t.1,I J t.2.1,Bo t.2.2]
theorem af4(n:Nd)(ka:Oo Ad)(kc:Nat)(w:M)(hn:ll w)(ht: -1<=n.tag)(hk:0<=n.kind)(eI:n.kind<=9)(iS:n.mode=1->0<=n.tag):Cs prog 172 #[Ag #[I J n.kind,I J n.tag,I J n.mode,S ka n.kids.length kc]] w fun e w'=>∃g,e=Rt (S (U (D g 0 Z)) n.lays.length n.lays.length)/\(∃T,w'.heap[g]? =U (C (Jg n.lays).toArray T (0,0)))/\Bw w w':=by
 have HO:Hi (∀wq,Bw w wq->Cs prog 152 #[Ag #[I J n.kind,I J n.tag,I J n.mode,S ka n.kids.length kc]] wq fun e w'=>e=Rt (Ag #[I J n.ownT.1,I J n.ownT.2,Bo false])/\Bw wq w'):=fun wq q=>Xx n ka kc wq (hn.below q) ht hk eI;by_cases hm:n.mode=1;·have HA:Hi (∀wq,Bw w wq->Cs prog 110 #[Ag #[I J n.kind,I J n.tag,I J n.mode,S ka n.kids.length kc]] wq fun e w'=>e=Rt (Tu #[Ag #[I J 2,I J n.tag,Bo true],Bo true])/\Bw wq w'):=fun wq q=>Nb n ka kc wq hm (hn.below q) (iS hm) hk;(have e:n.lays=[(2,n.tag,true),(n.ownT.1,n.ownT.2,false)]:=by unfold Nd.lays;rw[ba hm]);rw[e];have BV:Hi (∀args w,(callFunc 152 args).run prog w= .ok (.enter 152 args) w):=fun args w=>Bq func152 Kr Rf args w;clear hm hn iS e;go_enter func172,ntmps172;go_wp2_with fail;refine(HA _ Be).mono ?_;rintro e w1 ⟨rfl,hb1⟩;have aC:Hi (Bw w w1):=dj hb1;have hG:=bc (bl w (C #[I J n.kind,I J n.tag,I J n.mode,S ka n.kids.length kc] 58)) hb1;have jB:=lt_of_block hG;obtain⟨p0,p1,p2,p3⟩:=fi hG;have aD:Hi (∀o,Bw w (w1.alloc o).drew):=fun o=>(aC.alloc aC.size o).drew;clear hb1 hG;go_wp2_with fail;go_region_law (refine Bt X 152 _ _ X #[Ag #[I J n.kind,I J n.tag,I J n.mode,S ka n.kids.length kc]] (by simp[Ae,Ap]) (Ag #[I J n.ownT.1,I J n.ownT.2,Bo false]) (fun eE=>H ((w1.alloc (C #[I J 2,I J n.tag,Bo true] 149)).drew).heap.size ((w1.alloc (C #[I J 2,I J n.tag,Bo true] 149)).drew) eE) (BV _ _) (HO _ (aD _)) ?_;intro w5 aH;have aO:=(aD _).trans (aH.mono (aD _).size);have hF:=bc (bl w1.drew (C #[I J 2,I J n.tag,Bo true] 149)) aH;have t0:w5.cell? (D w1.heap.size 0 Z)=U (I J 2):=(by simp[Wc]at hF ⊢;simp[hF]);have t1:w5.cell? (D w1.heap.size 1 Z)=U (I J n.tag):=(by simp[Wc]at hF ⊢;simp[hF]);have t2:w5.cell? (D w1.heap.size 2 Z)=U (Bo true):=(by simp[Wc]at hF ⊢;simp[hF]);clear aH hF);all_goals have bB:Hi _:=aO;clear aO;go_wp2;go_ret;exact⟨w5.heap.size,X,⟨_,bl w5 _⟩,bB.alloc bB.size _⟩
 have HA:Hi (∀wq,Cs prog 110 #[Ag #[I J n.kind,I J n.tag,I J n.mode,S ka n.kids.length kc]] wq fun e w'=>e=Rt (Tu #[Ag #[I J 0,I J 0,Bo false],Bo false])/\Bw wq w'):=fun wq=>Na n ka kc wq hm;have e:n.lays=[(n.ownT.1,n.ownT.2,false)]:=by unfold Nd.lays;rw[G hm]
 rw[e];clear hm hn iS e;go_enter func172,ntmps172;go_wp2_with fail;refine(HA _).mono ?_;rintro e w1 ⟨rfl,hb1⟩;have aC:Hi (Bw w w1):=dj hb1;have hG:=bc (bl w (C #[I J n.kind,I J n.tag,I J n.mode,S ka n.kids.length kc] 58)) hb1;have jB:=lt_of_block hG;obtain⟨p0,p1,p2,p3⟩:=fi hG;clear hb1 hG;go_wp2_with fail;refine(HO _ (aC.alloc aC.size _)).mono ?_;rintro e w2 ⟨rfl,hb2⟩;have aD:Hi _:=Tm aC (dj hb2);clear hb2;go_wp2;go_ret;exact⟨w2.heap.size,X,⟨_,bl w2 _⟩,aD.alloc aD.size _⟩
def An(s:Ls Nd)(i:Nat)(all:Bool)(ts:Ls (Int×Int)):Prop:=ts.length<=41/\(all=true↔∃j,mz s i j/\(nd s j).every)/\(∀t,t∈ts↔∃j,mz s i j/\¬(nd s j).every/\(nd s j).outer=t)
structure sr(s:Ls Nd)(w wr:M)(m:Nat):Prop where
 bel:Bw w wr
 row:∃ae:Array Vv,wr.heap[w.heap.size]? =U (C ae 174 (0,0))/\ae.size=s.length*2/\
  ∀j,j<m->∃all vt ts,ae[j*2]? =U (Bo all)/\ae[j*2+1]? =U vt/\wr.ownsRow w.heap.size 147 2 vt ts.length (px ts)/\An s j all ts
theorem sr.below{s:Ls Nd}{w wr w':M}{m:Nat}(h:sr s w wr m)(hb:Bw wr w'):sr s w w' m where
 bel:=Tm h.bel hb
 row:=by
  obtain⟨ae,h1,h2,h3⟩:=h.row
  refine⟨ae,bc h1 hb,h2,fun j hj=>?_⟩
  obtain⟨all,vt,ts,q1,q2,q3,q4⟩:=h3 j hj
  exact⟨all,vt,ts,q1,q2,fm q3 hb,q4⟩
theorem sr.put{s:Ls Nd}{w wr:M}{m:Nat}{all:Bool}{vt:Vv}{ts:Ls (Int×Int)}(h:sr s w wr m)(hm:m<s.length)(ho:wr.ownsRow w.heap.size 147 2 vt ts.length (px ts))(hb:An s m all ts):
 sr s w ((wr.setCell (D w.heap.size (m*2) Z) (Bo all)).setCell (D w.heap.size (m*2+1) Z) vt) (m+1) where
 bel:=(h.bel.setCell (p:=D w.heap.size (m*2) Z) Ln _).setCell (p:=D w.heap.size (m*2+1) Z) Ln _
 row:=by
  obtain⟨ae,h1,h2,h3⟩:=h.row
  refine⟨(ae.setIfInBounds (m*2) (Bo all)).setIfInBounds (m*2+1) vt,iw _ _ _ _ _ _ (iw wr _ _ _ _ _ h1),by simp[h2],fun j hj=>?_⟩
  have own:∀{v:Vv} {ts:Ls (Int×Int)},wr.ownsRow w.heap.size 147 2 v ts.length (px ts)->((wr.setCell (D w.heap.size (m*2) Z) (Bo all)).setCell (D w.heap.size (m*2+1) Z) vt).ownsRow w.heap.size 147 2 v ts.length (px ts):=fun q=>by
   have ne:=jb h1 q Dc
   exact dk (dk q ne _) ne _
  by_cases e:j=m
  ·subst e
   refine⟨all,vt,ts,?_,?_,own ho,hb⟩
   ·rw[uG,G O,uG,ba X,ba O]
   ·rw[uG,ba X,ba So]
  ·obtain⟨ab6,vt',ts',q1,q2,q3,q4⟩:=h3 j O
   refine⟨ab6,vt',ts',?_,?_,own q3,q4⟩
   ·rw[uG,G O,uG,G O];exact q1
   ·rw[uG,G O,uG,G O];exact q2
def Sy:Vv:=Ag #[Bo false,S Z 0 0]
theorem abs:(prog.info? 174).map (fun i=>(i.zero,i.size,i.bytes))=U (U Sy,2,32):=Kr
theorem Tc(s:Ls Nd)(a:Oo Ad)(c:Nat)(w:M)(hs:ew w a s)(hw:qg s)(fX:Cw s)(dR:xw s)(AM:ll w)(hn:s.length<=40):Cs prog 64 #[S a s.length c] w fun e w'=>e=Rt (S (U (D w.heap.size 0 Z)) s.length s.length)/\sr s w w' s.length:=by
 have HR:Hi _:=fun wr i hb hi=>acL s a c i wr (hs.below hb) hw fX dR (AM.below hb) hi hn;clear hs hw fX dR AM;obtain⟨i0,dO,cU,dA,bL⟩:=mh abs;obtain⟨w1,sL,aG,XD⟩:=run_make_full (P:=prog) w w.heap.size 120 174 i0 Sy 2 underlying120 dO cU dA J J s.length (by rw[bL];omega) (by unfold maxLen;omega) Ln;have HA0:Hi (sr s w w1 0):=by
  refine⟨(cm w.heap.size w).grown XD Ln (fun k hk=>by cases hk),?_⟩;rcases aG.2 with⟨q,_⟩|⟨g,cap,aB,q,_,q1,_,_,q2,_⟩;·cases q
  injection q with e1 _ e3;injection e1 with e1;injection e1 with e1 _ _;subst e1 e3;exact⟨aB,q1,q2,fun j hj=>Ab hj (dh _)⟩
 clear aG XD;go_enter func64,ntmps64;go_wp2;go_loopw [10] (fun vj wr=>∃j:Nat,vj=I J j/\j<=s.length/\sr s w wr j) (fun vj _=>s.length-(Io vj).toNat);case atStart=>exact⟨0,X,Lz,HA0⟩
 obtain⟨j,rfl,hj,hA⟩:=hrel;have HA:Hi _:=hA;by_cases aA:j<s.length
 ·have aN:(j:Int)<s.length:=O;clear hA;go_wp2_with fail;refine(HR _ j HA.bel aA).mono ?_;rintro e w2 ⟨all,vt,ts,rfl,aG,hb2,hl,h1,h2⟩;have kT:Hi _:=HA.below hb2;obtain⟨ta,tc,rfl,_⟩:=yr aG;have fQ:Hi (w2.ownsRow w.heap.size 147 2 (S ta ts.length tc) ts.length (px ts)):=by
   obtain⟨q1,q2⟩:=aG;refine⟨q1,?_⟩;rcases q2 with q2|⟨g,cap,aB,q3,q4,q5⟩;(·exact .inl q2);exact .inr ⟨g,cap,aB,q3,fw HA.bel.size q4,q5⟩
  have HBI:Hi (An s j all ts):=⟨hl,h1,h2⟩;have hC:∀k,k<s.length*2->(∃u,w2.cell? (D w.heap.size k Z)=U u)/\w2.frozen? (D w.heap.size k Z)=false:=fun k hk=>by obtain⟨ae,q1,q2,_⟩:=kT.out.row;refine⟨⟨ae[k]' O,by simp only[Wc,q1];simp⟩,by simp[Wf,q1]⟩
  obtain⟨⟨u0,c0⟩,f0⟩:=hC (j*2) O;obtain⟨⟨u1,c1⟩,f1⟩:=hC (j*2+1) O;clear aG hb2 h1 h2 hl hC;go_wp2;go_roundw;case rel=>exact⟨j+1,Gn,O,kT.put aA fQ HBI⟩
  exact Ms
 have aN:(s.length:Int)<=j:=O;obtain rfl:j=s.length:=O;clear hA;go_wp2;go_ret;exact⟨X,HA⟩
end
section
abbrev cy:=Oo (Q×Nat×Bool)
structure de where
 s:Ls Nd
 t:Ls Vl
 ok:Int->Q->Bool
abbrev ow:=Nat->Nat->Int->Oo cy
def vl(t:Ls Vl)(j:Nat):Vl:=t.getD j ⟨0,az,0,0⟩
def cf(c:Int)(b:Bool)(n:Int)(s:Q):Q:=⟨(Uo (fb ⟨c,b,n,0,s.size⟩).toNat::tl s.size).toArray⟩++s
def cy.andThen(o:Oo cy)(k:Q->Nat->Bool->Oo cy):Oo cy:=
 match o with
 |none=>Z
 |some Z=>U Z
 |some (U (b,x,u))=>k b x u
def dx(E:de)(rec:ow)(dp:Int):Ls Kd->Nat->Q->Bool->Oo cy
 | [],x,out,u=>U (U (out,x,u))
 |k::ks,x,out,u=>
  if k.opt=true/\x<E.t.length/\(vl E.t x).kind=15 then
   if(vl E.t x).text.size=0/\(vl E.t x).alt=0/\(vl E.t x).kids=0 then dx E rec dp ks (x+1) out u else U Z
  else cy.andThen (rec k.node.toNat x (if k.dflt.size=0 then dp+1 else 1)) fun b x' u'=>
   if k.dflt.size≠0/\b=k.dflt then dx E rec dp ks x' out (u||u')
   else if 12<dp+1 then U Z
   else dx E rec dp ks x' (out++b) (u||u')
def jd(E:de)(rec:ow)(set:Bool)(i:Nat)(dp:Int):Nat->Int->Nat->Q->Q->Bool->Oo cy
 |0,_,_,_,_,_=>Z
 |m+1,c,x,out,last,u=>
  if 0<c then cy.andThen (rec i x dp) fun b x' u'=>jd E rec set i dp m (c-1) x' (out++b) b (u||u'||(set&&jo b last))
  else U (U (out,x,u))
def jc(E:de)(rec:ow)(m:Nat)(n:Nd)(cl nu:Int)(v:Vl)(x:Nat)(dp:Int):Oo cy:=
 if n.kind=13 then
  if v.text.size=0/\v.kids=1/\0<=v.alt/\v.alt<n.kids.length then rec (kd n v.alt.toNat).node.toNat x dp else U Z
 else if n.kind=14 then
  if(hd v.text).1=0/\(hd v.text).2.s+(hd v.text).2.l=v.text.size/\v.alt=0/\v.kids=0 then U (U (v.text,x,false))else U Z
 else if n.kind=10 then
  if v.text.size=0/\v.alt=0/\v.kids=n.kids.length then cy.andThen (dx E rec dp n.kids x az false) fun b x' u=>U (U (cf cl true nu b,x',u))else U Z
 else if 10<=n.kind/\n.kind<=12 then
  if v.text.size=0/\v.alt=0/\0<=v.kids then cy.andThen (jd E rec (decide (n.kind=12)) (kd n 0).node.toNat (dp+1) m v.kids x az az false) fun b x' u=>U (U (cf cl true nu b,x',u))else U Z
 else if E.ok n.kind v.text=true/\v.alt=0/\v.kids=0 then U (U (cf cl false nu v.text,x,false))else U Z
def fo(n:Nd):Int:=if 0<=n.tag/\n.mode=0 then 2 else 0
def fq(n:Nd):Int:=if 0<=n.tag/\n.mode=0 then n.tag else own0 n.kind
def wrF(E:de):Nat->ow
 |0,_,_,_=>Z
 |f+1,i,x,dp=>
  if x<E.t.length/\(vl E.t x).kind=(nd E.s i).kind/\dp<=12 then
   cy.andThen (jc E (wrF E f) f (nd E.s i) (fo (nd E.s i)) (fq (nd E.s i)) (vl E.t x) (x+1) dp) fun b x' u=>U (U (if(nd E.s i).mode=1 then cf 2 true (nd E.s i).tag b else b,x',u))
  else U Z
theorem qn{o:Oo cy}{k:Q->Nat->Bool->Oo cy}{r:cy}(h:cy.andThen o k=U r):(o=U Z/\r=Z)\/∃b x u,o=U (U (b,x,u))/\k b x u=U r:=by
 unfold cy.andThen at h;split at h;·cases h
 ·exact .inl ⟨X,(dd h).symm⟩
 exact .inr ⟨_,_,_,X,h⟩
theorem Hf{o:Oo cy}{r:cy}{k:Q->Nat->Bool->Oo cy}(h:o=U r)(hk:∀b x u,r=U (b,x,u)->∃r',k b x u=U r'):∃r',cy.andThen o k=U r':=by
 subst h;unfold cy.andThen
 match r with
 |none=>exact⟨Z,X⟩
 |some (b,x,u)=>exact hk b x u X
def pz(t:Ls Vl)(x:Nat):Nat:=((t.take x).map (·.text.size)).sum+10*x
theorem Ah{t:Ls Vl}{x:Nat}(h:x<t.length):pz t (x+1)=pz t x+(vl t x).text.size+10:=by
 have e1:t.take (x+1)=t.take x++[t[x]]:=by rw[vz,dz h];rfl
 have e2:vl t x=t[x]:=by unfold vl;rw[dy,dz h];rfl
 unfold pz;rw[e1,e2,Ci,List.sum_append];simp only[uI,zl,List.sum_cons,List.sum_nil];omega
theorem Qg(n:Int):(tl n).length<=4:=by
 unfold tl;repeat' split
 all_goals simp
theorem jv(c:Int)(b:Bool)(n:Int)(s:Q):(cf c b n s).size<=s.size+5:=by
 unfold cf;have h:=Qg s.size;rw[iq];show(Uo _::tl s.size).toArray.size+s.size<=_;rw[vy,fu];omega
def Ca(E:de)(x:Nat)(r:cy):Prop:=∀b x' u,r=U (b,x',u)->x<x'/\x'<=E.t.length/\b.size+pz E.t x<=pz E.t x'
theorem Ld{E:de}{rec:ow}(hr:∀i x dp r,rec i x dp=U r->Ca E x r){dp:Int}:∀(ks:Ls Kd) (x:Nat) (out:Q) (u:Bool) (r:cy),x<=E.t.length->dx E rec dp ks x out u=U r->∀b x' u',r=U (b,x',u')->x<=x'/\x'<=E.t.length/\b.size+pz E.t x<=out.size+pz E.t x'
 | [],x,out,u,r,hx,e=>by
   unfold dx at e
   cases e
   intro b x' u' q
   cases q
   exact⟨Ln,hx,Ln⟩
 |k::ks,x,out,u,r,hx,e=>by
  unfold dx at e
  split at e
  ·rename_i q
   split at e
   ·intro b x' u' h
    have:=Ld hr ks (x+1) out u r q.2.1 e b x' u' h
    have hp:=Ah q.2.1
    omega
   ·cases e;intro b x' u' h;cases h
  ·rcases qn e with⟨_,rfl⟩|⟨b1,x1,u1,h1,h2⟩
   ·intro b x' u' h;cases h
   ·have a1:=hr _ _ _ _ h1 b1 x1 u1 X
    split at h2
    ·intro b x' u' h
     have:=Ld hr ks x1 out _ r a1.2.1 h2 b x' u' h
     omega
    ·split at h2
     ·cases h2;intro b x' u' h;cases h
     ·intro b x' u' h
      have:=Ld hr ks x1 _ _ r a1.2.1 h2 b x' u' h
      rw[iq]at this
      omega
theorem ZX{E:de}{rec:ow}(hr:∀i x dp r,rec i x dp=U r->Ca E x r){set:Bool}{i:Nat}{dp:Int}:∀(m:Nat) (c:Int) (x:Nat) (out last:Q) (u:Bool) (r:cy),x<=E.t.length->jd E rec set i dp m c x out last u=U r->∀b x' u',r=U (b,x',u')->x<=x'/\x'<=E.t.length/\b.size+pz E.t x<=out.size+pz E.t x'
 |0,_,_,_,_,_,_,_,e=>by cases e
 |m+1,c,x,out,last,u,r,hx,e=>by
  unfold jd at e
  split at e
  ·rcases qn e with⟨_,rfl⟩|⟨b1,x1,u1,h1,h2⟩
   ·intro b x' u' h;cases h
   ·have a1:=hr _ _ _ _ h1 b1 x1 u1 X
    intro b x' u' h
    have:=ZX hr m _ x1 _ _ _ r a1.2.1 h2 b x' u' h
    rw[iq]at this
    omega
  ·cases e
   intro b x' u' h
   cases h
   exact⟨Ln,hx,Ln⟩
theorem ai7{E:de}{rec:ow}(hr:∀i x dp r,rec i x dp=U r->Ca E x r){m:Nat}{n:Nd}{cl nu:Int}{x:Nat}{dp:Int}{r:cy}(hx:x<E.t.length)(e:jc E rec m n cl nu (vl E.t x) (x+1) dp=U r):∀b x' u,r=U (b,x',u)->x<x'/\x'<=E.t.length/\b.size+pz E.t x+5<=pz E.t x':=by
 have hp:=Ah hx;have h0:az.size=0:=X;unfold jc at e;split at e
 ·split at e;·intro b x' u h;have:=hr _ _ _ _ e b x' u h;omega
  cases e;intro b x' u h;cases h
 split at e
 ·split at e;·cases e;intro b x' u h;cases h;exact⟨O,O,O⟩
  cases e;intro b x' u h;cases h
 split at e
 ·split at e
  ·rcases qn e with⟨_,rfl⟩|⟨b1,x1,u1,h1,h2⟩;(·intro b x' u' h;cases h);have a1:=Ld hr _ _ _ _ _ O h1 b1 x1 u1 X;cases h2;intro b x' u' h;cases h;have:=jv cl true nu b1;omega
  cases e;intro b x' u h;cases h
 split at e
 ·split at e
  ·rcases qn e with⟨_,rfl⟩|⟨b1,x1,u1,h1,h2⟩;(·intro b x' u' h;cases h);have a1:=ZX hr _ _ _ _ _ _ _ O h1 b1 x1 u1 X;cases h2;intro b x' u' h;cases h;have:=jv cl true nu b1;omega
  cases e;intro b x' u h;cases h
 split at e;·cases e;intro b x' u h;cases h;have:=jv cl false nu (vl E.t x).text;exact⟨O,O,O⟩
 cases e;intro b x' u h;cases h
theorem Hk{E:de}:∀(f i x:Nat) (dp:Int) (r:cy),wrF E f i x dp=U r->Ca E x r
 |0,_,_,_,_,e=>by cases e
 |f+1,i,x,dp,r,e=>by
  rw[wrF]at e
  split at e
  ·rename_i q
   rcases qn e with⟨_,rfl⟩|⟨b1,x1,u1,h1,h2⟩
   ·intro b x' u h;cases h
   ·have a1:=ai7 (Hk f) q.1 h1 b1 x1 u1 X
    cases h2
    intro b x' u h
    cases h
    refine⟨a1.1,a1.2.1,?_⟩
    split
    ·have:=jv 2 true (nd E.s i).tag b1
     omega
    ·omega
  ·cases e;intro b x' u h;cases h
theorem Lf{E:de}{rec:ow}(ha:∀i x dp r,rec i x dp=U r->Ca E x r){dp:Int}(x0:Nat)(hr:∀i x dp,x0<=x->∃r,rec i x dp=U r):∀(ks:Ls Kd) (x:Nat) (out:Q) (u:Bool),x0<=x->∃r,dx E rec dp ks x out u=U r
 | [],x,out,u,_=>⟨_,X⟩
 |k::ks,x,out,u,hx=>by
  unfold dx
  split
  ·split
   ·exact Lf ha x0 hr ks (x+1) out u O
   ·exact⟨_,X⟩
  ·obtain⟨r1,h1⟩:=hr k.node.toNat x (if k.dflt.size=0 then dp+1 else 1) hx
   refine Hf h1 fun b x' u' q=>?_
   have a1:=ha _ _ _ _ h1 b x' u' q
   split
   ·exact Lf ha x0 hr ks x' _ _ O
   split
   ·exact⟨_,X⟩
   ·exact Lf ha x0 hr ks x' _ _ O
theorem ZY{E:de}{rec:ow}(ha:∀i x dp r,rec i x dp=U r->Ca E x r){set:Bool}{i:Nat}{dp:Int}(x0:Nat)(hr:∀i x dp,x0<=x->∃r,rec i x dp=U r):∀(m:Nat) (c:Int) (x:Nat) (out last:Q) (u:Bool),x0<=x->x<=E.t.length->E.t.length+1<=m+x->∃r,jd E rec set i dp m c x out last u=U r
 |0,c,x,out,last,u,_,h1,h2=>O
 |m+1,c,x,out,last,u,hx,h1,h2=>by
  unfold jd
  split
  ·obtain⟨r1,g1⟩:=hr i x dp hx
   refine Hf g1 fun b x' u' q=>?_
   have a1:=ha _ _ _ _ g1 b x' u' q
   exact ZY ha x0 hr m _ x' _ _ _ O a1.2.1 O
  ·exact⟨_,X⟩
theorem Lc{E:de}:∀(f i x:Nat) (dp:Int),E.t.length+1<=f+x->1<=f->∃r,wrF E f i x dp=U r
 |0,_,_,_,_,h=>O
 |f+1,i,x,dp,h,_=>by
  rw[wrF]
  split
  ·rename_i q
   have hr:∀i' x' PD,x+1<=x'->∃r,wrF E f i' x' PD=U r:=fun i' x' PD hx=>Lc f i' x' PD O O
   have ha:=Hk (E:=E) f
   have hb:∃r,jc E (wrF E f) f (nd E.s i) (fo (nd E.s i)) (fq (nd E.s i)) (vl E.t x) (x+1) dp=U r:=by
    unfold jc
    split
    ·split
     ·exact hr _ _ _ Ln
     ·exact⟨_,X⟩
    split
    ·split<;>exact⟨_,X⟩
    split
    ·split
     ·obtain⟨r1,g1⟩:=Lf (E:=E) ha (dp:=dp) (x+1) hr (nd E.s i).kids (x+1) az false Ln
      exact Hf g1 fun _ _ _ _=>⟨_,X⟩
     ·exact⟨_,X⟩
    split
    ·split
     ·obtain⟨r1,g1⟩:=ZY (E:=E) ha (set:=decide ((nd E.s i).kind=12)) (i:=(kd (nd E.s i) 0).node.toNat) (dp:=dp+1) (x+1) hr f (vl E.t x).kids (x+1) az az false Ln q.1 O
      exact Hf g1 fun _ _ _ _=>⟨_,X⟩
     ·exact⟨_,X⟩
    split<;>exact⟨_,X⟩
   obtain⟨r1,g1⟩:=hb
   exact Hf g1 fun _ _ _ _=>⟨_,X⟩
  ·exact⟨_,X⟩
theorem Of(c:Int)(b:Bool)(n:Int)(s:Q):cf c b n s=⟨(Uo (fb ⟨c,b,n,0,s.size⟩).toNat::(tl s.size++s.data.toList)).toArray⟩:=by
 unfold cf;conv=>lhs;rw[Pd s]
 rw[agu,<-Pd s];rfl
theorem aeo(c:Int)(b:Bool)(n:Int)(s:Q)(q1:0<=c)(q2:c<=3)(q3:0<=n)(q4:n<=30)(hs:s.size<=16777215):hd (cf c b n s)=(0,⟨c,b,n,2+cnt s.size,s.size⟩):=by rw[Of,aep c b n s.size 0 q1 q2 q3 q4 O O,G (by show¬(((s.data.toList.length:Nat):Int)<s.size);simp)]
theorem Bd(c:Int)(b:Bool)(n:Int)(s:Q):((cf c b n s).size:Int)=2+cnt s.size+s.size:=by
 have h:=yy s.size;unfold cf;rw[iq,re,fu];omega
theorem adB(c:Int)(b:Bool)(n:Int)(s:Q):(cf c b n s).extract (2+cnt s.size).toNat (cf c b n s).size=s:=by
 have h:=yy s.size;have hz:=Bd c b n s;rw[Of];apply je;apply Array.toList_inj.1;rw[Lib.extract_data,re,show(2+cnt s.size).toNat=(tl s.size).length+1 by omega];show((Uo (fb ⟨c,b,n,0,s.size⟩).toNat::(tl s.size++s.data.toList)).drop _).take _=_;rw[List.drop_succ_cons,List.drop_left,ye Sq]
theorem ah6(r:Ls UInt8)(h:(rl ⟨r.toArray⟩).1=0):∃rest,r=tl (rl ⟨r.toArray⟩).2.2++rest/\(rl ⟨r.toArray⟩).2.1=1+cnt (rl ⟨r.toArray⟩).2.2:=by
 obtain⟨u,hu⟩:∃u,rl ⟨r.toArray⟩=u:=Ey;rw[hu]at h ⊢;have C4:∀a:UInt8,Uo ((a.toNat:Int)).toNat=a:=fun a=>Sq;unfold rl at hu;rw[re]at hu;rcases r with _|⟨a,r⟩;·rw[ba lx]at hu;rw[<-hu]at h;cases h
 have ha:=Cx a;rw[G Sq,show b8 ⟨(a::r).toArray⟩ 0=(a.toNat:Int)by rw[oy];rfl]at hu;by_cases h1:(a.toNat:Int)<128
 ·rw[ba h1]at hu;subst hu;refine⟨r,?_,?_⟩;·show _=tl (a.toNat:Int)++r;unfold tl;rw[ba h1,C4];rfl
  show(1:Int)=1+cnt (a.toNat:Int);unfold cnt;rw[ba h1];rfl
 rw[G h1]at hu;by_cases h2:(a.toNat:Int)=128\/131<(a.toNat:Int);·rw[ba h2]at hu;rw[<-hu]at h;cases h
 rw[G h2]at hu;by_cases h3:(((a::r).length:Nat):Int)<=(a.toNat:Int)-128;·rw[ba h3]at hu;rw[<-hu]at h;cases h
 rw[G h3]at hu;by_cases h4:(a.toNat:Int)-128≠cnt (dq ⟨(a::r).toArray⟩ ((a.toNat:Int)-128).toNat);·rw[ba h4]at hu;rw[<-hu]at h;cases h
 rw[G h4]at hu;have D0:=Classical.not_not.1 h4;subst hu;have hN:=uU ⟨(a::r).toArray⟩ ((a.toNat:Int)-128).toNat;obtain⟨N,LU⟩:∃N,dq ⟨(a::r).toArray⟩ ((a.toNat:Int)-128).toNat=N:=Ey;rw[LU]at D0 hN ⊢;show∃rest,a::r=tl N++rest/\1+((a.toNat:Int)-128)=1+cnt N;have bP:((a.toNat:Int)-128)<((a::r).length:Nat):=O;simp only[fu]at bP;have hc:=cnt_cases N;have zY:∀k:Nat,k<256->a.toNat=k->a=Uo k:=fun k hk e=>by rw[<-e];simp
 have hA:a.toNat=129\/a.toNat=130\/a.toNat=131:=O;rcases hA with hA|hA|hA
 ·have j6:128<=N/\N<256:=O;rcases r with _|⟨r1,rest⟩;·simp at bP;omega
  have e1:N=(r1.toNat:Int):=by rw[<-LU,show((a.toNat:Int)-128).toNat=1 by omega];simp only[dq];rw[oy];simp
  refine⟨rest,?_,O⟩;unfold tl;rw[G O,ba j6.2,e1,C4,zY 129 Dc hA];rfl
 ·have j6:256<=N/\N<65536:=O;rcases r with _|⟨r1,_|⟨r2,rest⟩⟩;·simp at bP;omega
  ·simp at bP;omega
  have b1:=Cx r1;have b2:=Cx r2;have e1:N=(r1.toNat:Int)*256+(r2.toNat:Int):=by rw[<-LU,show((a.toNat:Int)-128).toNat=2 by omega];simp only[dq];rw[oy,oy];simp
  refine⟨rest,?_,O⟩;unfold tl;rw[G O,G O,ba j6.2,show N/256=(r1.toNat:Int)by omega,show N%256=(r2.toNat:Int)by omega,C4,C4,zY 130 Dc hA];rfl
 have j6:65536<=N:=O;rcases r with _|⟨r1,_|⟨r2,_|⟨r3,rest⟩⟩⟩;·simp at bP;omega
 ·simp at bP;omega
 ·simp at bP;omega
 have b1:=Cx r1;have b2:=Cx r2;have b3:=Cx r3;have e1:N=((r1.toNat:Int)*256+(r2.toNat:Int))*256+(r3.toNat:Int):=by rw[<-LU,show((a.toNat:Int)-128).toNat=3 by omega];simp only[dq];rw[oy,oy,oy];simp
 refine⟨rest,?_,O⟩;unfold tl;rw[G O,G O,G O,show N/65536=(r1.toNat:Int)by omega,show N/256%256=(r2.toNat:Int)by omega,show N%256=(r3.toNat:Int)by omega,C4,C4,C4,zY 131 Dc hA];rfl
theorem Oe{t:Q}(h:(hd t).1=0)(hz:(hd t).2.s+(hd t).2.l=t.size):t=cf (hd t).2.c (hd t).2.b (hd t).2.n (t.extract (hd t).2.s.toNat t.size)/\0<=(hd t).2.c/\(hd t).2.c<=3/\0<=(hd t).2.n/\(hd t).2.n<=30/\((t.extract (hd t).2.s.toNat t.size).size:Int)=(hd t).2.l/\(hd t).2.l<=16777215:=by
 have e:=Pd t;generalize t.data.toList=l at e;subst e;rcases l with _|⟨a,r⟩;·unfold hd at h;rw[re,ba lx]at h;cases h
 have ha:=Cx a;have hb:b8 ⟨(a::r).toArray⟩ 0=(a.toNat:Int):=by rw[oy];rfl
 unfold hd at h hz ⊢;rw[Vb,hb]at h hz ⊢;have JU:((⟨(a::r).toArray⟩:Q).size)≠0:=by rw[re];simp
 rw[G JU]at h hz ⊢;by_cases q1:(a.toNat:Int)%32=31;·rw[ba q1]at h;cases h
 rw[G q1]at h hz ⊢;by_cases q2:(rl ⟨r.toArray⟩).1≠0;·rw[ba q2]at h;exact Ab h q2
 rw[G q2]at h hz ⊢;have vP:=Classical.not_not.1 q2;have fT:=Kh ⟨r.toArray⟩;obtain⟨rest,e1,e2⟩:=ah6 r vP;generalize rl ⟨r.toArray⟩=u at h hz e1 e2 vP fT ⊢;obtain⟨u0,u1,u2⟩:=u;simp only at h hz e1 e2 vP fT ⊢;split at h;·cases h
 rename_i q3;rw[G q3]at hz ⊢;simp only at hz ⊢;have hl:=yy u2;have aeI:(⟨(a::r).toArray⟩:Q).extract (u1+1).toNat (⟨(a::r).toArray⟩:Q).size=⟨rest.toArray⟩:=by apply je;apply Array.toList_inj.1;rw[Lib.extract_data,re];show((a::r).toArray.toList.drop (u1+1).toNat).take _=_;rw[show(u1+1).toNat=(tl u2).length+1 by omega,e1];simp
 have bX:(⟨(a::r).toArray⟩:Q).size=(tl u2).length+1+rest.length:=by rw[re,e1];simp;omega
 rw[bX]at hz;have hr:(rest.length:Int)=u2:=O;rw[aeI,re];refine⟨?_,O,O,O,O,O,O⟩;rw[Of,re,hr];have hf:fb ⟨(a.toNat:Int)/64,(a.toNat:Int)/32%2==1,(a.toNat:Int)%32,0,u2⟩=(a.toNat:Int):=by
  unfold fb;simp only;split;·rename_i hh;have:=jq.1 hh;omega
  rename_i hh;have:¬(a.toNat:Int)/32%2=1:=fun q=>hh (jq.2 q);omega
 rw[hf,show Uo ((a.toNat:Int)).toNat=a by simp,show(⟨rest.toArray⟩:Q).data.toList=rest by simp,<-e1]
def hdB(c:Int)(b:Bool)(n:Int)(l:Nat):Q:=⟨(Uo (fb ⟨c,b,n,0,l⟩).toNat::tl l).toArray⟩
theorem Uu(c:Int)(b:Bool)(n:Int)(s:Q):cf c b n s=hdB c b n s.size++s:=rfl
def qv(t:Q)(p:Nat)(tx:Q):Q:=t.extract 0 p++tx++t.extract p t.size
theorem Jc{t:Q}{p:Nat}(tx:Q)(hp:p<=t.size):(qv t p tx).size=t.size+tx.size:=by
 unfold qv;rw[iq,iq,ot,ot];omega
def Hr(t0:Q)(l0:Bool)(p:Nat)(tx t1:Q)(l1:Bool):Prop:=
 ((l0=true\/4000<t0.size+tx.size)/\t1=t0/\l1=true)\/(l0=false/\t0.size+tx.size<=4000/\t1=qv t0 p tx/\l1=false)
structure kg(t0:Q)(l0:Bool)(o0:Oo Int)(b:Q)(u:Bool)(t1:Q)(l1:Bool)(o1:Oo Int):Prop where
 le:t0.size<=t1.size
 mx:t1.size<=4000
 mono:l0=true->l1=true
 told:l1=false->t1=t0++b
 ord:l1=false->o1.isSome=(o0.isSome||u)
 long:l0=false->l1=true->4000<t0.size+b.size
theorem Il(t:Q):t++az=t:=by apply je;simp[az]
theorem kg.refl{t:Q}{l:Bool}{o:Oo Int}(h:t.size<=4000):kg t l o az false t l o where
 le:=Ln
 mx:=h
 mono:=id
 told:=fun _=>(Il t).symm
 ord:=fun _=>Sq
 long:=fun h1 h2=>by rw[h1]at h2;cases h2
theorem kg.trans{t0 t1 t2:Q}{l0 l1 l2:Bool}{o0 o1 o2:Oo Int}{b1 b2:Q}{u1 u2:Bool}(h:kg t0 l0 o0 b1 u1 t1 l1 o1)(k:kg t1 l1 o1 b2 u2 t2 l2 o2):kg t0 l0 o0 (b1++b2) (u1||u2) t2 l2 o2:=by
 have h1:l2=false->l1=false:=fun q=>by
  cases hl:l1;·rfl
  rw[k.mono hl]at q;cases q
 refine⟨fw h.le k.le,k.mx,fun q=>k.mono (h.mono q),fun q=>?_,fun q=>?_,fun q1 q2=>?_⟩;·rw[k.told q,h.told (h1 q),Li]
 ·rw[k.ord q,h.ord (h1 q),u9]
 rw[iq];cases hl:l1;·have:=k.long hl q2;rw[h.told hl,iq]at this;omega
 have:=h.long q1 hl;omega
theorem afd(t tx:Q):qv t t.size tx=t++tx:=by unfold qv;rw[show t.extract 0 t.size=t by simp,show t.extract t.size t.size=az by apply je;simp[az],Il]
theorem kg.ofIns{t0 t1:Q}{l0 l1:Bool}{o:Oo Int}{tx:Q}(h4:t0.size<=4000)(h:Hr t0 l0 t0.size tx t1 l1):kg t0 l0 o tx false t1 l1 o:=by
 rcases h with⟨h1,rfl,rfl⟩|⟨rfl,h2,rfl,rfl⟩
 ·refine⟨Ln,h4,fun _=>rfl,fun q=>(by cases q),fun q=>(by cases q),fun q _=>?_⟩;rcases h1 with h1|h1;·rw[q]at h1;cases h1
  exact h1
 refine⟨?_,?_,fun q=>q,fun _=>afd _ _,fun _=>Sq,fun _ q=>(by cases q)⟩;·rw[Jc tx Ln];omega
 rw[Jc tx Ln];exact h2
theorem aff(t b tx:Q):qv (t++b) t.size tx=t++(tx++b):=by
 unfold qv;have e1:(t++b).extract 0 t.size=t:=by apply je;simp
 have e2:(t++b).extract t.size (t++b).size=b:=by apply je;apply Array.toList_inj.1;rw[Lib.extract_data,iq];simp;exact ye Sq
 rw[e1,e2,Li]
theorem kg.wrap{t0 t1 t2:Q}{l0 l1 l2:Bool}{o0 o1:Oo Int}{b:Q}{u:Bool}{c:Int}{bt:Bool}{n:Int}(h:kg t0 l0 o0 b u t1 l1 o1)(k:Hr t1 l1 t0.size (hdB c bt n (t1.size-t0.size)) t2 l2):kg t0 l0 o0 (cf c bt n b) u t2 l2 o1:=by
 have bX:l1=false->t1.size-t0.size=b.size:=fun q=>by rw[h.told q,iq];omega
 have cG:(cf c bt n b).size=(hdB c bt n b.size).size+b.size:=by rw[Uu,iq]
 rcases k with⟨h1,rfl,rfl⟩|⟨rfl,h2,rfl,rfl⟩
 ·refine⟨h.le,h.mx,fun _=>rfl,fun q=>(by cases q),fun q=>(by cases q),fun q _=>?_⟩;rw[cG];cases hl:l1
  ·rcases h1 with h1|h1;(·rw[hl]at h1;cases h1);rw[bX hl,h.told hl,iq]at h1;omega
  have:=h.long q hl;omega
 have hs:=Jc (hdB c bt n (t1.size-t0.size)) h.le;refine⟨?_,?_,fun q=>h.mono q,fun _=>?_,fun q=>h.ord X,fun _ q=>(by cases q)⟩;·have:=h.le;omega
 ·omega
 rw[bX X,h.told X,aff,Uu]
theorem kg.order{t0 t1:Q}{l0 l1:Bool}{o0 o1 o2:Oo Int}{b:Q}{u z:Bool}(h:kg t0 l0 o0 b u t1 l1 o1)(k:l1=false->o2.isSome=(o1.isSome||z)):kg t0 l0 o0 b (u||z) t1 l1 o2:=
 ⟨h.le,h.mx,h.mono,h.told,fun q=>by rw[k q,h.ord q,u9],h.long⟩
theorem kg.longer{t0 t1:Q}{l0:Bool}{o0 o1 o2:Oo Int}{b b':Q}{u u':Bool}(h:kg t0 true o0 b u t1 true o1)(k:l0=false->4000<b'.size):kg t0 l0 o2 b' u' t1 true o1:=
 ⟨h.le,h.mx,fun _=>rfl,fun q=>(by cases q),fun q=>(by cases q),fun q _=>by have:=k q;omega⟩
def sd(l:Ls Int)(b:Q):Q:=l.foldr (fun t b=>cf 2 true t b) b
theorem ajv(l:Ls Int)(t:Int)(b:Q):sd (l++[t]) b=sd l (cf 2 true t b):=by simp[sd]
theorem aju(l:Ls Int)(t:Int)(b:Q):sd (t::l) b=cf 2 true t (sd l b):=by simp[sd]
theorem Z4:∀(l:Ls Int) (b:Q),2*l.length+b.size<=(sd l b).size
 | [],b=>by simp[sd]
 |t::l,b=>by
  have h:=Z4 l b
  have h2:=Bd 2 true t (sd l b)
  have h3:=cnt_cases (sd l b).size
  rw[aju]
  simp only[fu]
  omega
theorem Wn:∀(a b:Ls UInt8),(decide (Lib.compareBytes a b<0))=Op.bytesLess a b
 | [],[]=>rfl
 | [],_::_=>rfl
 |_::_,[]=>rfl
 |a::x,b::y=>by
  rw[Lib.compareBytes,Op.bytesLess]
  by_cases h:a<b
  ·simp[h]
  ·rw[G h]
   by_cases h2:b<a
   ·have aI:(a==b)=false:=by
     rw[lf]
     rintro rfl
     exact UInt8.lt_irrefl _ h2
    rw[ba h2,aI]
    simp[h]
   ·rw[G h2]
    have he:a=b:=by
     apply UInt8.toNat_inj.1
     rw[UInt8.lt_iff_toNat_lt]at h h2
     omega
    subst he
    rw[Wn x y]
    simp[UInt8.lt_irrefl]
end
section
open Go.Proofs.Tryz
open Go.RowKit Go.Shelf
attribute [local go_sem] Oper.semAt_some
abbrev jn:={t:Int//0<=t/\t<=30}
def Bu:jn:=⟨0,Dc,Dc⟩
def Fp(x:Nat×jn):Array Vv:=#[I J (x.1:Int),Ag #[I J 2,I J x.2.1,Bo true]]
def Ei(R:Nat)(w w':M):Prop:=∀(k:Nat) (A:Array Vv) (T:TypeId),k≠R->T≠5->w.heap[k]? =U (C A T (0,0))->w'.heap[k]? =U (C A T (0,0))
def pn(aP:Ls jn)(k:Nat):Ls (Nat×jn):=(List.range k).map fun j=>(aP.length-1-j,aP[aP.length-1-j]?.getD Bu)
theorem acs(aP:Ls jn)(k:Nat):pn aP (k+1)=pn aP k++[(aP.length-1-k,aP[aP.length-1-k]?.getD Bu)]:=by simp[pn,List.range_succ]
theorem acq(aP:Ls jn)(k:Nat):(pn aP k).length=k:=by simp[pn]
def zf(w:M)(Bs R:Nat)(aP:Ls jn):Prop:=
 Bs≠R/\((aP=[]/\w.heap[Bs]? =U (C #[S Z 0 0] 186 (0,0)))\/
  ∃g cap aB,g≠R/\cap<=9223372036854775807/\aP.length<=cap/\w.heap[Bs]? =U (C #[S (U (D g 0 Z)) aP.length cap] 186 (0,0))/\w.heap[g]? =U (C aB 149 (0,0))/\
   ∀j,j<aP.length->aB[j*3]? =U (I J 2)/\aB[j*3+1]? =U (I J (aP[j]?.getD Bu).1)/\aB[j*3+2]? =U (Bo true))
theorem zf.keep{w w':M}{Bs R:Nat}{aP:Ls jn}(h:zf w Bs R aP)(k:Ei R w w'):zf w' Bs R aP:=by
 refine⟨h.1,?_⟩;rcases h.2 with⟨h1,h2⟩|⟨g,cap,aB,h1,h2,h3,h4,h5,h6⟩;·exact .inl ⟨h1,k _ _ _ h.1 Dc h2⟩
 exact .inr ⟨g,cap,aB,h1,h2,h3,k _ _ _ h.1 Dc h4,k _ _ _ h1 Dc h5,h6⟩
theorem acp(n:Nat)(hn:1<=n)(l Bs R:Nat)(aP:Ls jn)(hl:aP.length<=1000000)(aj Jx:Ls (Nat×jn)->M->Prop)(hY:∀pre x W,aj pre W->pre.length<aP.length->YieldAt Fence.wide (n-1) prog l (Fp x) W fun e W'=>(e=Rt (Bo true)/\aj (pre++[x]) W'/\Ei R W W')\/(e=Rt (Bo false)/\Jx (pre++[x]) W'))(W:M)(hA:zf W Bs R aP)(h0:aj [] W):CallsIn Fence.wide n prog 153 #[.func (.yield l) #[] #[],Po (U (D Bs 0 Z))] W fun e W'=>(∃v,e=Rt v)/\((∃ys,ys=pn aP aP.length/\aj ys W')\/(∃pre,True/\Jx pre W')):=by
 rcases hA.2 with⟨rfl,hb⟩|⟨g,cap,aB,hg1,AC,f9,hb,hg,gP⟩;·(have c0:W.cell? (D Bs 0 Z)=U (S Z 0 0):=by simp[Wc,hb]);clear hb hY hA;refine callsIn_of_wp func153 X trivial ?_ X;simp only[ntmps153,vy,fu,lx,Nat.reduceAdd,Nat.reduceSub,Qv,Qw,Rp,Rj,zn,Ht];gi_wp2;gi_loopw [3] (fun i wr=>i=I J (-1)/\aj [] wr) (fun _ _=>0);(case atStart=>exact⟨X,h0⟩);obtain⟨rfl,LS⟩:=hrel;gi_wp2;go_end0;exact⟨⟨_,X⟩,.inl ⟨_,X,LS⟩⟩
 have c0:W.cell? (D Bs 0 Z)=U (S (U (D g 0 Z)) aP.length cap):=by simp[Wc,hb]
 obtain⟨L,hL⟩:∃L,aP.length=L:=Ey;have lE:IntKind.i64.wrap ((L:Int)-1)=(L:Int)-1:=by rw[su];omega
 rw[hL]at c0 hY f9 gP hl hb ⊢;refine callsIn_of_wp func153 X trivial ?_ X;simp only[ntmps153,vy,fu,lx,Nat.reduceAdd,Nat.reduceSub,Qv,Qw,Rp,Rj,zn,Ht];gi_wp2;gi_loopw [3] (fun i wr=>∃k:Nat,k<=L/\i=I J ((L:Int)-1-k)/\aj (pn aP k) wr/\Ei R W wr) (fun i _=>(Io i+1).toNat);case atStart=>exact⟨0,Lz,Sq,h0,fun _ _ _ _ _ h=>h⟩
 obtain⟨k,hk,rfl,LS,qF⟩:=hrel;have bV:=qF _ _ _ hA.1 Dc hb;have dY:=qF _ _ _ hg1 Dc hg;have d0:wr.cell? (D Bs 0 Z)=U (S (U (D g 0 Z)) L cap):=by simp[Wc,bV]
 by_cases aA:k<L
 ·obtain⟨j,hj⟩:∃j:Nat,L-1-k=j:=Ey;have hji:(L:Int)-1-(k:Int)=(j:Int):=O;have eC:j<L:=O;obtain⟨z0,z1,z2⟩:=gP j eC;have e0:wr.cell? (D g (j*3) Z)=U (I J 2):=by simp[Wc,dY,z0]
  have e1:wr.cell? (D g (j*3+1) Z)=U (I J (aP[j]?.getD Bu).1):=by simp[Wc,dY,z1]
  have e2:wr.cell? (D g (j*3+2) Z)=U (Bo true):=by simp[Wc,dY,z2]
  obtain⟨fn,tmps,assign,body,hy,hR⟩:=hY (pn aP k) (j,aP[j]?.getD Bu) wr LS (by rw[acq];exact aA);unfold Fp at hy;dsimp only at hy;obtain⟨tg,fX⟩:∃tg,(aP[j]?.getD Bu)=tg:=Ey;rw[fX]at e1 hy hR;have rF:pn aP (k+1)=pn aP k++[(j,tg)]:=by rw[acs,hL,hj,fX]
  rw[hji];have hj0:(0:Int)<=(j:Int):=O;have oO:(j:Int)<(L:Int):=O;have rQ:IntKind.i64.wrap ((j:Int)-1)=(j:Int)-1:=by rw[su];omega
  clear z0 z1 z2 bV dY hb hg gP fX hY;gi_wp2;first|refine hR.mono ?_ |(refine⟨fun _=>hn,?_⟩;refine hR.mono ?_)
  rintro e W3 (⟨rfl,D5,nG⟩|⟨rfl,ad9⟩);·gi_wp2;go_roundw;(case rel=>exact⟨k+1,O,by congr 1<;>omega,by rw[rF];exact D5,fun q A T h1 h2 h3=>nG q A T h1 h2 (qF q A T h1 h2 h3)⟩);(simp[Io];try omega)
  gi_wp2;refine db (Px X _ _ _) X ?_;exact⟨⟨_,X⟩,.inr ⟨_,trivial,ad9⟩⟩
 obtain rfl:k=L:=O;have aeF:(k:Int)-1-(k:Int)= -1:=O;rw[aeF];gi_wp2;go_end0;exact⟨⟨_,X⟩,.inl ⟨_,X,LS⟩⟩
theorem act(n:Nat)(hn:1<=n)(Bs R:Nat)(aP:Ls jn)(hl:aP.length<=1000000)(w:M)(hA:zf w Bs R aP):SeqStopsK Fence.wide n prog 153 #[Po (U (D Bs 0 Z))] Fp (Ei R) (fun ys=>ys=pn aP aP.length) (fun _=>True) aP.length w:=fun l aj Jx W hW _ _ hY h0=>by
 have PO:=hA.keep fun k A T _ _ hg=>bc hg hW;refine(acp n hn l Bs R aP hl aj Jx hY W PO h0).mono ?_;rintro e W' ⟨he,h|h⟩;·exact⟨he,.inl h⟩
 exact⟨he,.inr h⟩
theorem acu(a:Oo Ad)(len cap:Nat)(w:M):Cs prog 112 #[S a len cap] w fun e w'=>e=Rt (.func (.func 153) #[] #[Po (U (D w.heap.size 0 Z))])/\w'=w.alloc (C #[S a len cap] 186):=by
 go_enter func112,ntmps112;go_wp2;go_ret;exact⟨X,X⟩
theorem ajm{P:Program}{F:Fence}{n:Nat}{α:Type}{g:Operand}{ps:Array Tmp}{assign body:Code}{ar:Exit->Act->M->Prop}{a:Act}{w:M}(hro:F.round=Z)(h1:1<=n){gf:Nat}{lb:Array Vv}(hg:a.eval g= .func (.func gf) #[] lb)(hFg:F.fn gf)(eg:∀args w,(callFunc gf args).run P w= .ok (.enter gf args) w){DX:α->Array Vv}{Kp:M->M->Prop}{au Sp:Ls α->Prop}{N:Nat}{w0:M}(aeJ:SeqStopsK F (n-1) P gf lb DX Kp au Sp N w0)(hKt:∀{A B ae:M},Kp A B->Kp B ae->Kp A ae)(V4:∀(W:M) (l:Nat) (o o':Obj),w.heap.size<=l->W.heap[l]? =U o->o.isCells=false->o.isWalk=false->Kp W (W.putObj l o'))(hKa:∀(W:M) (o:Obj),Kp W (W.alloc o))(bO:Bw w0 w)(MQ:∀x,(DX x).size=ps.size)(ai:Ls α->M->Prop)(hI:OwnFrom w.heap.size ai)(h0:ai [] w)(t:Tmp)(T:TypeId)(cl:α->Array Vv)(aec:∀(l:Nat) (x:α) (W:M) (K:Act->M->Prop),K {tmps:=((ps.zip (DX x)).foldl (fun t (p,v)=>t.setIfInBounds p v) a.tmps).setIfInBounds t (Po (U (D W.heap.size 0 Z))),defers:=[]} (W.alloc (C (cl x) T))->assign.wpIn (F.inRound l) (n-1-1) P (Exit.then K (fun _ _ _=>False)) {tmps:=(ps.zip (DX x)).foldl (fun t (p,v)=>t.setIfInBounds p v) a.tmps,defers:=[]} W)(aej:∀(l:Nat) (pre:Ls α) (x:α) (Bx:Nat) (W:M),ai pre W->W.heap[Bx]? =U (C (cl x) T (0,0))->pre.length<N->body.wpIn (F.inRound l) (n-1-1) P (ownPostG w.heap.size Kp ai (fun _ _ _=>False) (pre++[x]) W) {tmps:=((ps.zip (DX x)).foldl (fun t (p,v)=>t.setIfInBounds p v) a.tmps).setIfInBounds t (Po (U (D Bx 0 Z))),defers:=[]} W)(aeq:∀(af:Nat) (xs:Ls α) (W:M),w.heap.size<=af->au xs->ai xs W->W.heap[af]? =U (.deferred (U []))->ar .normal {a with defers:={target:= .collected af,args:=#[]}::a.defers} W):(Code.rangeFunc g ps assign body).wpIn F n P ar a w:=by
 refine wpIn_rangeFunc_ownH hro h1 hg hFg eg aeJ hKt V4 bO MQ ai (fun _ _ _=>False) hI (fun _ _ _ _ _ h _ _=>h) h0 (fun x a' W=>∃Bx,W.heap[Bx]? =U (C (cl x) T (0,0))/\a'={tmps:=((ps.zip (DX x)).foldl (fun t (p,v)=>t.setIfInBounds p v) a.tmps).setIfInBounds t (Po (U (D Bx 0 Z))),defers:=[]}) (fun x a' _ av aw row hs dY hr=>?_) (fun l pre x W K hi hK=>?_) (fun l pre x a' W _ _ hi hax aA=>?_) aeq (fun _ _ _ _ _ _ h=>h.elim)
 ·obtain⟨Bx,h2,h3⟩:=hs;refine⟨Bx,?_,h3⟩;rw[dY.block Bx (Array.getElem?_eq_some_iff.1 h2).1 (fun e=>?_)];·exact h2
  obtain⟨_,o,ho,hc⟩:=hr Bx e.symm;rw[h2]at ho;injection ho with ho;subst ho;cases hc
 ·exact aec l x W K (hK _ _ ((KeepsOthers.alloc _ _).from _) (hKa _ _) (hI.alloc _ hi) ⟨W.heap.size,World.alloc_heap_new W _,X⟩)
 obtain⟨Bx,h2,rfl⟩:=hax;exact aej l pre x Bx W hi h2 aA
theorem Wk{P:Program}{F:Fence}{n:Nat}{fn:Func}{R:Ending->M->Prop}{a:Act}{w:M}{v:Vv}(hr:(results fn a.tmps).run P w= .ok v w)(hd:a.defers=[])(hR:R (Rt v) w):bodyPostM F n P fn R .ret a w:=by
 show LeavesInM F n P fn a.tmps R a.defers .returning w;rw[hd];exact⟨v,hr,hR⟩
theorem af8{P:Program}{F:Fence}{n:Nat}{fn:Func}{R:Ending->M->Prop}{a:Act}{w:M}{v:Vv}{af:Nat}(hK:w.heap[af]? =U (.deferred (U [])))(hr:(results fn a.tmps).run P (w.putObj af (.deferred Z))= .ok v (w.putObj af (.deferred Z)))(hd:a.defers=[{target:= .collected af,args:=#[]}])(hR:R (Rt v) (w.putObj af (.deferred Z))):bodyPostM F n P fn R .ret a w:=by
 show LeavesInM F n P fn a.tmps R a.defers .returning w;rw[hd];exact⟨Sq,.inl ⟨_,_,X,run_takeDeferred hK,v,hr,hR⟩⟩
end
section
def Ff(r r':ow):Prop:=∀i x dp o,r i x dp=U o->r' i x dp=U o
theorem He{o o':Oo cy}{k k':Q->Nat->Bool->Oo cy}{v:cy}(ho:∀u,o=U u->o'=U u)(hk:∀b x u v,k b x u=U v->k' b x u=U v)(h:cy.andThen o k=U v):cy.andThen o' k'=U v:=by
 rcases qn h with⟨h1,h2⟩|⟨b,x,u,h1,h2⟩;·rw[ho _ h1,h2];rfl
 rw[ho _ h1];exact hk b x u v h2
theorem Le{E:de}{r r':ow}(hr:Ff r r'){dp:Int}:∀(ks:Ls Kd) (x:Nat) (out:Q) (u:Bool) (v:cy),dx E r dp ks x out u=U v->dx E r' dp ks x out u=U v
 | [],x,out,u,v,h=>h
 |k::ks,x,out,u,v,h=>by
  unfold dx at h ⊢
  split at h
  ·rename_i q
   rw[ba q]
   split at h
   ·rename_i q2
    rw[ba q2]
    exact Le hr ks _ _ _ _ h
   ·rename_i q2
    rw[G q2]
    exact h
  ·rename_i q
   rw[G q]
   refine He (fun o ho=>hr _ _ _ _ ho) (fun b x' u' v h=>?_) h
   split at h
   ·rename_i q2
    rw[ba q2]
    exact Le hr ks _ _ _ _ h
   ·rename_i q2
    rw[G q2]
    split at h
    ·rename_i q3
     rw[ba q3]
     exact h
    ·rename_i q3
     rw[G q3]
     exact Le hr ks _ _ _ _ h
theorem Qp{E:de}{r r':ow}(hr:Ff r r'){set:Bool}{i:Nat}{dp:Int}:∀(m m':Nat) (c:Int) (x:Nat) (out last:Q) (u:Bool) (v:cy),m<=m'->jd E r set i dp m c x out last u=U v->jd E r' set i dp m' c x out last u=U v
 |0,_,_,_,_,_,_,_,_,h=>by cases h
 |m+1,0,_,_,_,_,_,_,hm,_=>O
 |m+1,m'+1,c,x,out,last,u,v,hm,h=>by
  unfold jd at h ⊢
  split at h
  ·rename_i q
   rw[ba q]
   exact He (fun o ho=>hr _ _ _ _ ho) (fun b x' u' v h=>Qp hr m m' _ _ _ _ _ _ O h) h
  ·rename_i q
   rw[G q]
   exact h
theorem ai8{E:de}{r r':ow}(hr:Ff r r'){m m':Nat}(hm:m<=m'){n:Nd}{cl nu:Int}{v:Vl}{x:Nat}{dp:Int}{o:cy}(h:jc E r m n cl nu v x dp=U o):jc E r' m' n cl nu v x dp=U o:=by
 unfold jc at h ⊢;split at h
 ·rename_i q;rw[ba q];split at h;·rename_i q2;rw[ba q2];exact hr _ _ _ _ h
  rename_i q2;rw[G q2];exact h
 rename_i q0;rw[G q0];split at h;·rename_i q;rw[ba q];exact h
 rename_i q1;rw[G q1];split at h
 ·rename_i q;rw[ba q];split at h;·rename_i q2;rw[ba q2];exact He (fun o ho=>Le hr _ _ _ _ _ ho) (fun _ _ _ _ h=>h) h
  rename_i q2;rw[G q2];exact h
 rename_i q3;rw[G q3];split at h
 ·rename_i q;rw[ba q];split at h;·rename_i q2;rw[ba q2];exact He (fun o ho=>Qp hr _ _ _ _ _ _ _ _ hm ho) (fun _ _ _ _ h=>h) h
  rename_i q2;rw[G q2];exact h
 rename_i q4;rw[G q4];exact h
theorem Z2{E:de}:∀f,Ff (wrF E f) (wrF E (f+1))
 |0=>fun _ _ _ _ h=>by cases h
 |f+1=>fun i x dp o h=>by
  rw[wrF]at h ⊢
  split at h
  ·rename_i q
   rw[ba q]
   exact He (fun o ho=>ai8 (Z2 f) (Az _) ho) (fun _ _ _ _ h=>h) h
  ·rename_i q
   rw[G q]
   exact h
theorem Z0{E:de}(f:Nat):∀k,Ff (wrF E f) (wrF E (f+k))
 |0=>fun _ _ _ _ h=>h
 |k+1=>fun i x dp o h=>Z2 (f+k) i x dp o (Z0 f k i x dp o h)
def At(d:Q)(x:Nat)(b:Q):Prop:=x+b.size<=d.size/\d.extract x (x+b.size)=b
theorem At.all(d:Q):At d 0 d:=⟨O,by rw[ly];exact Rb⟩
theorem At.nil{d:Q}{x:Nat}(h:x<=d.size):At d x az:=⟨h,by
 apply je
 apply Array.toList_inj.1
 apply aay
 show(d.extract x (x+0)).size=0
 rw[sl];omega⟩
theorem At.left{d a b:Q}{x:Nat}(h:At d x (a++b)):At d x a:=by
 have e:=h.2;have hz:=h.1;rw[iq]at e hz;refine⟨O,?_⟩;have q:(d.extract x (x+(a.size+b.size))).extract 0 a.size=(a++b).extract 0 a.size:=by rw[e]
 rw[Ee,aaf X,zp,Ia O]at q;exact q
theorem At.right{d a b:Q}{x:Nat}(h:At d x (a++b)):At d (x+a.size) b:=by
 have e:=h.2;have hz:=h.1;rw[iq]at e hz;refine⟨O,?_⟩;have q:(d.extract x (x+(a.size+b.size))).extract a.size (a.size+b.size)=(a++b).extract a.size (a.size+b.size):=by rw[e]
 rw[Ee,ByteArray.extract_append_eq_right X X,Nat.min_self,<-pf]at q;exact q
theorem At.more{d b:Q}(r:Q){x:Nat}(h:At d x b):At (d++r) x b:=by
 refine⟨by have:=h.1;rw[iq];omega,?_⟩;have h1:=h.1;have e:=h.2;have q:((d++r).extract 0 d.size).extract x (x+b.size)=b:=by rw[aaf rfl];exact e
 rw[Ee,ly,ly,Ia h1]at q;exact q
theorem At.hd{E:bj}{b:Q}{x y:Nat}(h:At E.d x b)(h0:(hd b).1=0)(hz:(hd b).2.s+(hd b).2.l=b.size)(hy:x+b.size<=y)(m4:y<=E.d.size):E.hd x y=Go.Proofs.YtkkicodfpekbgaaGreatDoor.hd b/\fk x (E.hd x y).2=x+b.size:=by
 have e:E.hd x (x+b.size)=Go.Proofs.YtkkicodfpekbgaaGreatDoor.hd b:=by unfold bj.hd;rw[h.2]
 have h1:(E.hd x (x+b.size)).1=0:=by rw[e];exact h0
 have hf:fk x (E.hd x (x+b.size)).2=x+b.size:=by have:=uR h1;rw[e]at this ⊢;omega
 have ha:=Ja h1 (z:=y) O m4 h.1;rw[ha];exact⟨e,hf⟩
theorem At.el{d s:Q}{x:Nat}{c:Int}{b:Bool}{n:Int}(h:At d x (cf c b n s)):At d (x+(2+cnt s.size).toNat) s:=by
 have hz:=Bd c b n s;unfold cf at h hz;have q:=h.right;rw[iq]at hz;rw[show(2+cnt s.size).toNat=(⟨(Uo (fb ⟨c,b,n,0,s.size⟩).toNat::tl s.size).toArray⟩:Q).size by omega];exact q
end
section
open Go.Proofs.Tryz
open Go.RowKit
theorem Gm(W w:M)(R:Nat)(a:Oo Ad)(n c:Nat)(data:Q)(tree:Ls Vl)(p:Int)(x y:Nat)(h:bm W w R a n c data tree 0 p)(jQ:x<=y)(hy:y<=data.size)(hm:data.size<=140737488355328):Cs prog 101 #[Po (U (D R 0 Z)),I J x,I J y] w fun e w'=>e=Rt (hv (hd (data.extract x y)).2)/\bm W w' R a n c data tree (hd (data.extract x y)).1 (if(hd (data.extract x y)).1=0 then p else x)/\Fr R w w':=by
 have HI:Hi _:=h;have HH:Hi (∀w,Cs prog 105 #[Y (data.extract x y)] w fun e w'=>e=Rt (Tu #[hv (hd (data.extract x y)).2,I J (hd (data.extract x y)).1])/\Bw w w'):=fun w=>Yj _ w So;obtain⟨_,gK,vt,hr,_⟩:=h;unfold ix at hr;obtain⟨-,c1, -,c3, -⟩:=uC hr;have eS:=lc c1;clear hr;have akb:(x:Int)<=y:=O;have vN:(y:Int)<=data.size:=O;generalize(hd (data.extract x y)).1=k at HH ⊢;generalize(hd (data.extract x y)).2=ah at HH ⊢;obtain⟨hc,hb,hn,hs,hl⟩:=ah;unfold hv at HH ⊢;go_enter func101,ntmps101;go_wp2_with fail;refine(HH _).mono ?_;rintro e w1 ⟨rfl,hb1⟩;have aC:Hi _:=dj hb1;have aV:Hi (w1.heap[w.heap.size]? =U (C #[I J 0,Bo false,I J 0,I J 0,I J 0] 179 (0,0))):=bc (bl w _) hb1;have jB:w.heap.size<w1.heap.size:=by have:=hb1.size;simp at this;omega
 clear hb1;have q0:w1.cell? (D w.heap.size 0 Z)=U (I J 0):=by simp[Wc,aV.out]
 have f0:w1.frozen? (D w.heap.size 0 Z)=false:=Fz aV.out;have q1:w1.cell? (D w.heap.size 1 Z)=U (Bo false):=by simp[Wc,aV.out]
 have f1:w1.frozen? (D w.heap.size 1 Z)=false:=Fz aV.out;have q2:w1.cell? (D w.heap.size 2 Z)=U (I J 0):=by simp[Wc,aV.out]
 have f2:w1.frozen? (D w.heap.size 2 Z)=false:=Fz aV.out;have q3:w1.cell? (D w.heap.size 3 Z)=U (I J 0):=by simp[Wc,aV.out]
 have f3:w1.frozen? (D w.heap.size 3 Z)=false:=Fz aV.out;have q4:w1.cell? (D w.heap.size 4 Z)=U (I J 0):=by simp[Wc,aV.out]
 have f4:w1.frozen? (D w.heap.size 4 Z)=false:=Fz aV.out;have aI:w.heap.size≠R:=O;have hW:W.heap.size<=w.heap.size:=O;by_cases hk:k=0
 ·subst hk;have HF:Hi (bm W (w1.alloc (C #[I J hc,Bo hb,I J hn,I J hs,I J hl] 179)) R a n c data tree 0 p):=(HI.below aC).below Be;have HG:Hi ((w1.alloc (C #[I J hc,Bo hb,I J hn,I J hs,I J hl] 179)).heap[w.heap.size]? =U (C #[I J 0,Bo false,I J 0,I J 0,I J 0] 179 (0,0))):=bc aV Be;go_wp2;refine db (v:=Ag #[I J hc,Bo hb,I J hn,I J hs,I J hl]) (by simp[results,results101,go_sem,jB,q0,q1,q2,q3,q4]) X ⟨X,?_,?_⟩;·exact((HI.below aC).set5 hW aI Dc aV _ _ _ _ _).below Be
  exact((Fr.of_below aC).set5 Ln _ _ _ _ _).trans (Fr.of_below Be)
 have eI:(k !=0)=true:=by simp[hk]
 have HK:Hi _:=hk;clear hk;have HF:Hi (bm W (w1.alloc (C #[I J hc,Bo hb,I J hn,I J hs,I J hl] 179)) R a n c data tree 0 p):=(HI.below aC).below Be;have HG:Hi ((w1.alloc (C #[I J hc,Bo hb,I J hn,I J hs,I J hl] 179)).heap[w.heap.size]? =U (C #[I J 0,Bo false,I J 0,I J 0,I J 0] 179 (0,0))):=bc aV Be;go_wp2_with fail;refine(jy W _ R a n c data tree p k x HF).mono ?_;rintro e w2 ⟨rfl,(aS:Hi _),bD⟩;have cJ:Hi _:=(bD _ aI).trans HG;have gV:w2.heap[w1.heap.size]? =U (C #[I J hc,Bo hb,I J hn,I J hs,I J hl] 179 (0,0)):=(bD _ O).trans (bl w1 _);have r0:w2.cell? (D w.heap.size 0 Z)=U (I J 0):=by simp[Wc,cJ.out]
 have g0:w2.frozen? (D w.heap.size 0 Z)=false:=Fz cJ.out;have r1:w2.cell? (D w.heap.size 1 Z)=U (Bo false):=by simp[Wc,cJ.out]
 have g1:w2.frozen? (D w.heap.size 1 Z)=false:=Fz cJ.out;have r2:w2.cell? (D w.heap.size 2 Z)=U (I J 0):=by simp[Wc,cJ.out]
 have g2:w2.frozen? (D w.heap.size 2 Z)=false:=Fz cJ.out;have r3:w2.cell? (D w.heap.size 3 Z)=U (I J 0):=by simp[Wc,cJ.out]
 have g3:w2.frozen? (D w.heap.size 3 Z)=false:=Fz cJ.out;have r4:w2.cell? (D w.heap.size 4 Z)=U (I J 0):=by simp[Wc,cJ.out]
 have g4:w2.frozen? (D w.heap.size 4 Z)=false:=Fz cJ.out;obtain⟨t0,t1,t2,t3,t4⟩:=uC gV;have b7:Hi (Fr R w w2):=((Fr.of_below aC).trans (Fr.of_below Be)).trans (Fr.of_same bD);clear bD gV q0 q1 q2 q3 q4 f0 f1 f2 f3 f4;go_wp2;refine db (v:=Ag #[I J hc,Bo hb,I J hn,I J hs,I J hl]) (by simp[results,results101,go_sem,r0,r1,r2,r3,r4]) X ⟨X,?_,?_⟩;·exact aS.set5 hW aI Dc cJ _ _ _ _ _
 exact b7.set5 Ln _ _ _ _ _
def Sx:Vv:=Ag #[I J 0,I J 0,I J 0,S Z 0 0]
theorem abp:(prog.info? 58).map (fun i=>(i.zero,i.size,i.bytes))=U (U Sx,4,48):=Kr
def Sw:Vv:=Ag #[I J 0,Bo false,Y ⟨#[]⟩]
theorem abn:(prog.info? 55).map (fun i=>(i.zero,i.size,i.bytes))=U (U Sw,3,32):=Kr
theorem Nx(s:Ls Nd)(a:Oo Ad)(c:Nat)(w:M)(hs:ew w a s)(hn:s.length*48<=140737488351232)(lZ:∀i,i<s.length->(nd s i).kids.length*32<=140737488351232):Cs prog 13 #[S a s.length c] w fun e w'=>∃eJ,e=Rt eJ/\rj s w w' s.length eJ:=by
 have HS:Hi (ew w a s):=hs;have xD:Hi (∀i,i<s.length->(nd s i).kids.length*32<=140737488351232):=lZ;clear hs lZ;obtain⟨iN,hiN,ae0,ae1,ae2⟩:=mh abp;obtain⟨iK,hiK,aeX,aeY,aeZ⟩:=mh abn;go_enter func13,ntmps13;go_wp2;go_loopw [3,4] (fun eJ vi wr=>∃k:Nat,k<=s.length/\vi=I J k/\rj s w wr k eJ) (fun _ vi _=>s.length-(Io vi).toNat);case atStart=>exact⟨0,Lz,X,By,fun _=>S Z 0 0,nz _ _ _ _,fun i hi=>Ab hi (dh _)⟩
 obtain⟨k,hk,rfl,hC⟩:=hrel;have HC:Hi (rj s w wr k u3):=hC;by_cases aA:k<s.length
 ·have aN:(k:Int)<s.length:=O;have EJ:=xD k aA;obtain⟨b,o,ka,kc,rfl,nc,kl,km,(KS:Hi _)⟩:=HS k aA;obtain⟨n1,n2,n3,n4⟩:=nc.below hC.bel;have DI:Hi (w.cell? (D b (o+k*4+3) Z)=U (S ka (nd s k).kids.length kc)):=nc.kids;clear hC nc;go_wp2;obtain⟨w0,JQ⟩:∃w0,w0=wr:=Ez;subst JQ;obtain⟨Bn,tP⟩:∃Bn,Bn=w0.heap.size:=Ez;have zD:Hi (Bn=w0.heap.size):=tP;rw[<-tP];clear tP;go_loopw [6] (fun vj wx=>∃(j:Nat) (vk:Vv),vj=I J j/\j<=(nd s k).kids.length/\Hi (wx.heap[Bn]? =U (C #[I J (nd s k).kind,I J (nd s k).tag,I J (nd s k).mode,vk] 58 (0,0)))/\Hi (wx.ownsRow (Bn+1) 55 3 vk j (jw ((nd s k).kids.take j)))/\Hi (H Bn w0 wx)) (fun vj _=>(nd s k).kids.length-(Io vj).toNat);case atStart=>obtain rfl:=zD.out;exact⟨0,_,X,Lz,bl w0 _,nz _ _ _ _,Be⟩
  obtain⟨j,vk,rfl,hj,HB,HO,A8⟩:=hrel;obtain⟨va,vc,rfl,nY⟩:=uV HO;have aM:Hi (Bw w wr):=HC.out.bel.trans (by have:=A8.out;rw[zD.out]at this;exact this.mono HC.out.bel.size);have g3:wr.cell? (D Bn 3 Z)=U (S va j vc):=by simp[Wc,HB.out]
  obtain⟨g0,g1,g2, -⟩:=fi HB;have LN:=bp g3;simp only at LN;have e4:wr.cell? (D b (o+k*4+3) Z)=U (S ka (nd s k).kids.length kc):=Cb aM DI;have YS:Bn<=wr.heap.size:=O;clear nY;by_cases eC:j<(nd s k).kids.length;·obtain⟨kb,ko,rfl,aX⟩:=KS j eC;obtain⟨y,hy⟩:∃y,(nd s k).kids.getD j fy=y:=Ey;(have HY:Hi ((nd s k).kids.take (j+1)=(nd s k).kids.take j++[y]):=by show(nd s k).kids.take (j+1)=_;rw[vz,dz eC,<-hy];simp[eC]);rw[hy]at aX;obtain⟨k1,k2,k3⟩:=aX.below aM;have oO:(j:Int)<(nd s k).kids.length:=O;(have NEB:Hi ((Value.slice va j vc).ownBlock≠U Bn):=fun e=>by have:=(HO.lt Bn e).1;omega);clear aX hy;go_wp2_with fail;have aeM:Bn+1<=(wr.drew.alloc (C #[I J y.node,Bo y.opt,Y y.dflt] 55)).heap.size:=So;go_region_law (refine step_append_lies _ X (.tmp 29) (.tmp 38) 56 X (Bn+1) 55 iK Sw 3 32 underlying56 hiK aeX aeY aeZ X Dc (S va j vc) j (jw ((nd s k).kids.take j)) (by simp[Ae,Ap]) (HO.drew.alloc _) (D wr.heap.size 0 Z) 1 1 y.cells (by simp[Ae,Ap]) X (World.news_of_block (bl wr.drew _)) (by intro u hu;unfold Kd.cells at hu;simp at hu;rcases hu with rfl|rfl|rfl<;>rfl) Dc (by unfold maxLen;omega) O aeM (wr.heap.size+1) Sq ?_;intro g cap w3 h1 h2 h3 h4;have gV:=Aa (w:=wr.drew) HB NEB h2;have oJ:=(A8.drew.alloc (by exact YS) _).grown h2 (fw YS Sq) (fun q hq=>by have:=(HO.lt q hq).1;omega);have d3:w3.cell? (D Bn 3 Z)=U (S va j vc):=(by simp[Wc,gV]);have e3:w3.frozen? (D Bn 3 Z)=false:=(by simp[Wf,gV]));all_goals have kW:Hi ((w3.setCell (D Bn 3 Z) (S (U (D g 0 Z)) (j+1) cap)).heap[Bn]? =U (C #[I J (nd s k).kind,I J (nd s k).tag,I J (nd s k).mode,S (U (D g 0 Z)) (j+1) cap] 58 (0,0))):=iw w3 Bn 3 _ _ _ gV;(have oZ:Hi ((w3.setCell (D Bn 3 Z) (S (U (D g 0 Z)) (j+1) cap)).ownsRow (Bn+1) 55 3 (S (U (D g 0 Z)) (j+1) cap) (j+1) (jw ((nd s k).kids.take (j+1)))):=by show World.ownsRow _ _ _ _ _ _ _;rw[HY,afX];exact dk h1 (fun e=>by have:=(h1.lt Bn e).1;omega) _);have aJ:Hi (H Bn w0 (w3.setCell (D Bn 3 Z) (S (U (D g 0 Z)) (j+1) cap))):=oJ.setCell (p:=D Bn 3 Z) Ln _;clear h1 h2 h3 h4 gV oJ;go_wp2;go_roundw;(case rel=>exact⟨j+1,_,Gn,O,kW,oZ,aJ⟩);exact Ms
  have oO:((nd s k).kids.length:Int)<=j:=O;obtain rfl:j=(nd s k).kids.length:=O;have VP:rj s w wr k u3:=HC.out.below (by have:=A8.out;rw[zD.out]at this;exact this);obtain⟨K,q1,q2⟩:=VP.own;have vW:Hi (wr.ownsRow w.heap.size 58 4 u3 k (uz s K k)):=q1;have qT:Hi (∀i,i<k->wr.ownsRow w.heap.size 55 3 (K i) (nd s i).kids.length (jw (nd s i).kids)):=q2;have jK:Hi (wr.ownsRow w.heap.size 55 3 (S va (nd s k).kids.length vc) (nd s k).kids.length (jw (nd s k).kids)):=by have:=HO.out;rw[we]at this;exact ahl this (by have:=HC.out.bel.size;have:=zD.out;omega)
  have aeN:w.heap.size<=wr.heap.size+1:=by have:=aM.out.size;omega
  clear VP q1 q2;go_wp2_with (at_builtin;refine wpList_append_lies _ X (.tmp 41) (.tmp 43) 22 X w.heap.size 58 iN Sx 4 48 underlying22 hiN ae0 ae1 ae2 X Dc u3 k (uz s K k) X (vW.alloc _) (D wr.heap.size 0 Z) 1 1 (Ac (nd s k) (S va (nd s k).kids.length vc)) X X (World.news_of_block (bl wr _)) (by intro u hu;unfold Ac at hu;simp at hu;rcases hu with rfl|rfl|rfl|rfl<;>rfl) Dc (by unfold maxLen;omega) O (by simpa using aeN) (wr.heap.size+1) Sq ?_);intro g cap w3 h1 h2 h3 h4;have HC3:Hi _:=rj.put aM vW qT jK h1 h2;clear h1 h2 h3 h4;go_wp2;go_roundw;case rel=>exact⟨k+1,O,Gn,HC3⟩
  exact Ms
 have aN:(s.length:Int)<=k:=O;obtain rfl:k=s.length:=O;clear hC;go_wp2;go_ret;exact⟨u3,X,HC⟩
end
