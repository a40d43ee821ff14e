/- Parts. -/
import Derived.Test.YtkkicodfpekbgaaGreatDoorJf4
import Derived.Test.YtkkicodfpekbgaaGreatDoorJf0
import Derived.Test.YtkkicodfpekbgaaGreatDoorJf1
import Derived.Test.YtkkicodfpekbgaaGreatDoorJf5
import Derived.Test.YtkkicodfpekbgaaGreatDoorJf2
open Go.Value renaming int->I,string->Y,slice->S,pointer->Po,bool->Bo,agg->Ag,tuple->Tu,iface->If
open Go.IntKind renaming i64->J
open Go.Obj renaming cells->C
open Go.Ending renaming returned->Rt
open Option renaming some->U,none->Z
open Go renaming World->M,Calls->Cs,Addr->Ad,Value->Vv
open _root_ renaming ByteArray->Q,Option->Oo,List->Ls
open Go.RowKit renaming Below->H,intOf->Io,Hid->Hi
open Go.Addr renaming mk->D
set_option linter.all false
set_option maxRecDepth 100000
set_option maxHeartbeats 8000000
namespace Go.Proofs.YtkkicodfpekbgaaGreatDoor
variable{u u' set:Bool}{h:Hd}{dp cl nu:Int}{k:Kd}{ks kids:Ls Kd}{s:Ls Nd}{a t vs:Ls Vl}{f i x x' p j y z B tz m aw root:Nat}{n:Nd}{out b:Q}{v:Vl}
section
def Dt(vt:Q):Q:=if cf 2 true 0 (cf 0 false 2 vt)=im then az else cf 2 true 0 (cf 0 false 2 vt)
def Dl(t:Q):Q:=if cf 0 false 1 t=jf then az else cf 0 false 1 t
def uW(q:Q×Q×Q):Q:=cf 0 true 16 (cf 0 false 6 q.1++Dl q.2.1++cf 0 false 4 q.2.2)
def Bm(qs:Ls (Q×Q×Q)):Q:=qs.foldl (fun a q=>a++uW q) az
def Jp(o:Oo (Ls (Q×Q×Q))):Q:=
 match o with
 |none=>az
 |some qs=>cf 2 true 3 (cf 0 true 16 (Bm qs))
def CT.inner(c:CT):Q:=Dt c.vt++cf 0 false 2 c.s++cf 0 false (if c.pr then 19 else 12) c.n++cf 0 true 16 (cf 0 false 24 c.ft++cf 0 false 24 c.tt)++cf 0 false 3 c.k++Jp c.ms
def CT.bytes(c:CT):Q:=cf 0 true 16 c.inner
theorem Pi(t:Q):az++t=t:=by
 apply je;rw[Ce];exact Array.empty_append
theorem Ik(t:Q):t++az=t:=by
 apply je;rw[Ce];exact Array.append_empty
theorem xo{F:de}(hok:∀k t,F.ok k t=true↔bu k t)(hn:nd F.s i=n)(h1:1<=n.kind)(h9:n.kind<=9){t:Q}(hx:x<F.t.length)(hv:vl F.t x=⟨n.kind,t,0,0⟩)(hd:dp<=12)(hc:bu n.kind t):wrF F (f+1) i x dp=U (U (Fy n t,x+1,false)):=by subst hn;rw[Dx h1 h9,hv,ba ⟨⟨hx,X,hd⟩,(hok _ _).2 hc,X,X⟩]
theorem Al{F:de}{rec:ow}(ho:k.opt=false)(hd:k.dflt.size=0)(gJ:dp+1<=12)(h:rec k.node.toNat x (dp+1)=U (U (b,x',u'))):dx F rec dp (k::ks) x out u=dx F rec dp ks x' (out++b) (u||u'):=by
 rw[dx,G (fun q=>by rw[ho]at q;cases q.1),ba hd,h];show(if _ then _ else if _ then _ else _)=_;rw[G (fun q=>q.1 hd),G O]
theorem Z5{F:de}{rec:ow}(ho:k.opt=false)(hd:k.dflt.size≠0)(gJ:dp+1<=12)(h:rec k.node.toNat x 1=U (U (b,x',u'))):dx F rec dp (k::ks) x out u=dx F rec dp ks x' (out++if b=k.dflt then az else b) (u||u'):=by
 rw[dx,G (fun q=>by rw[ho]at q;cases q.1),G hd,h];show(if _ then _ else if _ then _ else _)=_;by_cases q:b=k.dflt;·rw[ba ⟨hd,q⟩,ba q,Ik]
 rw[G (fun z=>q z.2),G O,G q]
theorem Qr{F:de}(hn:nd F.s i=⟨10, -1,0,kids⟩)(hx:x<F.t.length)(hv:vl F.t x=⟨10,az,0,(kids.length:Nat)⟩)(hd:dp<=12)(h:dx F (wrF F f) dp kids (x+1) az false=U (U (b,x',u))):wrF F (f+1) i x dp=U (U (cf 0 true 16 b,x',u)):=by
 rw[wrF,hn,hv,ba ⟨hx,X,hd⟩];unfold jc;rw[G (by show¬(10:Int)=13;decide),G (by show¬(10:Int)=14;decide),ba X,ba ⟨X,X,X⟩,h];rfl
theorem ahu{F:de}(hs:F.s=cS)(hok:∀k t,F.ok k t=true↔bu k t){q:Q×Q×Q}(hp:p+4<=F.t.length)(h0:vl F.t p=⟨10,az,0,3⟩)(h1:vl F.t (p+1)=⟨4,q.1,0,0⟩)(h2:vl F.t (p+2)=⟨1,q.2.1,0,0⟩)(h3:vl F.t (p+3)=⟨6,q.2.2,0,0⟩)(c1:bu 4 q.1)(c2:bu 1 q.2.1):wrF F (f+1+1) 10 p 3=U (U (uW q,p+4,false)):=by
 have l1:=xo (f:=f) (i:=11) (dp:=4) hok (n:=⟨4, -1,0,[]⟩) (by rw[hs];rfl) Dc Dc O h1 Dc c1;have l2:=xo (f:=f) (i:=12) (dp:=1) hok (n:=⟨1, -1,0,[]⟩) (by rw[hs];rfl) Dc Dc O h2 Dc c2;have l3:=xo (f:=f) (i:=13) (dp:=4) hok (n:=⟨6, -1,0,[]⟩) (by rw[hs];rfl) Dc Dc O h3 Dc ((Nu _).1 trivial);refine Qr (kids:=[⟨11,false,az⟩,⟨12,false,jf⟩,⟨13,false,az⟩]) (by rw[hs];rfl) O h0 Dc ?_;rw[Al X X Dc l1,Z5 X Dc Dc l2,Al X X Dc l3];unfold dx;rw[Pi];rfl
theorem Du{b:Ls Vl}:vl (a++b) (a.length+j)=vl b j:=by unfold vl;rw[dy,qq O,Nat.add_sub_cancel_left,dy]
theorem Yh{F:de}(hs:F.s=cS)(hok:∀k t,F.ok k t=true↔bu k t){f:Nat}:∀(qs:Ls (Q×Q×Q)) (pre:Ls Vl) (m:Nat) (out last:Q),F.t=pre++qs.flatMap mj->(∀q∈qs,bu 4 q.1/\bu 1 q.2.1)->qs.length<m->
 jd F (wrF F (f+1+1)) false 10 3 m (qs.length:Nat) pre.length out last false=U (U (qs.foldl (fun a q=>a++uW q) out,F.t.length,false))
 | [],pre,m,out,last,ht,_,hm=>by
   obtain⟨m,rfl⟩:∃k,m=k+1:=⟨m-1,O⟩
   unfold jd
   rw[G Dc,ht]
   simp
 |q::qs,pre,m,out,last,ht,hc,hm=>by
  obtain⟨m,rfl⟩:∃k,m=k+1:=⟨m-1,O⟩
  have hl:F.t.length=pre.length+4+(qs.flatMap mj).length:=by rw[ht,ff,vx,ff];show pre.length+(4+_)=_;omega
  have hv:∀j,vl F.t (pre.length+j)=vl (mj q++qs.flatMap mj) j:=fun j=>by rw[ht,vx];exact Du
  have hq:=ahu hs hok (f:=f) (p:=pre.length) (q:=q) O (hv 0) (hv 1) (hv 2) (hv 3) (hc q Sq).1 (hc q Sq).2
  have ih:=Yh hs hok (f:=f) qs (pre++mj q) m (out++uW q) (uW q) (by rw[ht,vx,na]) (fun q hq=>hc q (by simp[hq])) (by simpa using hm)
  unfold jd
  rw[ba (by rw[fu];omega),hq]
  show jd F _ false 10 3 m _ _ _ _ _=_
  rw[show((((q::qs).length:Nat):Int)-1)=(qs.length:Nat)by rw[fu];omega]
  rw[ff]at ih
  exact ih
theorem Z3{F:de}{a:Nat}(hn:nd F.s i=⟨13, -1,0,kids⟩)(hx:x<F.t.length)(hv:vl F.t x=⟨13,az,(a:Nat),1⟩)(hd:dp<=12)(ha:a<kids.length):wrF F (f+1) i x dp=wrF F f (kids.getD a fy).node.toNat (x+1) dp:=by
 rw[wrF,hn,hv,ba ⟨hx,X,hd⟩];unfold jc;rw[ba X,ba ⟨X,X,by show(0:Int)<=(a:Nat);omega,by show((a:Nat):Int)<kids.length;omega⟩];show cy.andThen (wrF F f (kids.getD ((a:Nat):Int).toNat fy).node.toNat (x+1) dp) (fun b x' u=>U (U (if(0:Int)=1 then _ else b,x',u)))=_;rw[ld];generalize wrF F f (kids.getD a fy).node.toNat (x+1) dp=r;unfold cy.andThen;split;·rfl
 ·rfl
 simp
theorem acZ{F:de}(hs:F.s=cS)(hok:∀k t,F.ok k t=true↔bu k t){c:CT}(ht:F.t=c.tree)(hc:c.Ok)(hf:∀qs,c.ms=U qs->qs.length<=f):wrF F (f+4) 0 0 1=U (U (c.bytes,c.tree.length,false)):=by
 have hl:c.tree.length=9+(qt c.ms).length:=by unfold CT.tree;rw[ff];rfl
 have hp:1<=(qt c.ms).length:=by unfold qt;split<;>simp
 have l1:=xo (f:=f+2) (i:=1) (x:=1) (dp:=1) hok (n:=⟨2,0,1,[]⟩) (by rw[hs];rfl) Dc Dc (t:=c.vt) (by rw[ht];omega) (by rw[ht];rfl) Dc hc.vt;have l2:=xo (f:=f+2) (i:=2) (x:=2) (dp:=2) hok (n:=⟨2, -1,0,[]⟩) (by rw[hs];rfl) Dc Dc (t:=c.s) (by rw[ht];omega) (by rw[ht];rfl) Dc hc.s;have l3:wrF F (f+2+1) 3 3 2=U (U (cf 0 false (if c.pr then 19 else 12) c.n,5,false)):=by
  cases hpr:c.pr with
  |true=>
   have jO:=hc.n
   rw[hpr]at jO
   have h3:=Z3 (f:=f+1+1) (i:=3) (x:=3) (a:=0) (dp:=2) (kids:=[⟨4,false,az⟩,⟨5,false,az⟩]) (by rw[hs];rfl) (by rw[ht];omega) (by rw[ht];show(⟨13,az,if c.pr then 0 else 1,1⟩:Vl)=_;rw[hpr];rfl) Dc Dc
   have h4:=xo (f:=f+1) (i:=4) (x:=4) (dp:=2) hok (n:=⟨8, -1,0,[]⟩) (by rw[hs];rfl) Dc Dc (t:=c.n) (by rw[ht];omega) (by rw[ht];show(⟨if c.pr then 8 else 7,c.n,0,0⟩:Vl)=_;rw[hpr];rfl) Dc jO
   exact h3.trans h4
  |false=>
   have jO:=hc.n
   rw[hpr]at jO
   have h3:=Z3 (f:=f+1+1) (i:=3) (x:=3) (a:=1) (dp:=2) (kids:=[⟨4,false,az⟩,⟨5,false,az⟩]) (by rw[hs];rfl) (by rw[ht];omega) (by rw[ht];show(⟨13,az,if c.pr then 0 else 1,1⟩:Vl)=_;rw[hpr];rfl) Dc Dc
   have h4:=xo (f:=f+1) (i:=5) (x:=4) (dp:=2) hok (n:=⟨7, -1,0,[]⟩) (by rw[hs];rfl) Dc Dc (t:=c.n) (by rw[ht];omega) (by rw[ht];show(⟨if c.pr then 8 else 7,c.n,0,0⟩:Vl)=_;rw[hpr];rfl) Dc jO
   exact h3.trans h4
 have l4:wrF F (f+2+1) 6 5 2=U (U (cf 0 true 16 (cf 0 false 24 c.ft++cf 0 false 24 c.tt),8,false)):=by have t1:=xo (f:=f+1) (i:=7) (x:=6) (dp:=3) hok (n:=⟨9, -1,0,[]⟩) (by rw[hs];rfl) Dc Dc (t:=c.ft) (by rw[ht];omega) (by rw[ht];rfl) Dc hc.ft;have t2:=xo (f:=f+1) (i:=7) (x:=7) (dp:=3) hok (n:=⟨9, -1,0,[]⟩) (by rw[hs];rfl) Dc Dc (t:=c.tt) (by rw[ht];omega) (by rw[ht];rfl) Dc hc.tt;refine Qr (f:=f+2) (kids:=[⟨7,false,az⟩,⟨7,false,az⟩]) (by rw[hs];rfl) (by rw[ht];omega) (by rw[ht];rfl) Dc ?_;rw[Al X X Dc t1,Al X X Dc t2];unfold dx;rw[Pi];rfl
 have l5:=xo (f:=f+2) (i:=8) (x:=8) (dp:=2) hok (n:=⟨5, -1,0,[]⟩) (by rw[hs];rfl) Dc Dc (t:=c.k) (by rw[ht];omega) (by rw[ht];rfl) Dc hc.k;refine Qr (f:=f+3) (kids:=[⟨1,false,im⟩,⟨2,false,az⟩,⟨3,false,az⟩,⟨6,false,az⟩,⟨8,false,az⟩,⟨9,true,az⟩]) (by rw[hs];rfl) (by rw[ht];omega) (by rw[ht];rfl) Dc ?_;rw[Z5 X Dc Dc l1,Al X X Dc l2,Al X X Dc l3,Al X X Dc l4,Al X X Dc l5,Pi];have MW:vl F.t 9=vl (qt c.ms) 0:=by rw[ht];exact Du (a:=wy c.vt c.s c.n c.pr c.ft c.tt c.k) (j:=0)
 have yK:9<F.t.length:=by rw[ht];omega
 unfold dx
 cases hms:c.ms with
 |none=>
  rw[hms]at MW hl
  have JO:vl F.t 9=⟨15,az,0,0⟩:=MW
  rw[ba ⟨X,yK,by rw[JO]⟩,JO,ba ⟨X,X,X⟩]
  unfold dx
  rw[hl]
  unfold CT.inner
  rw[hms]
  unfold Jp
  rw[Ik]
  rfl
 |some qs=>
  rw[hms]at MW hl
  have JO:=MW
  rw[G (fun q=>by have q2:=q.2.2;rw[JO]at q2;exact Ab q2 (by show¬(11:Int)=15;decide)),ba Rf]
  have XW:=Yh hs hok (f:=f) qs (wy c.vt c.s c.n c.pr c.ft c.tt c.k++[⟨11,az,0,(qs.length:Nat)⟩]) (f+2) az az (by rw[ht];unfold CT.tree;rw[hms];unfold qt;simp) (hc.ms qs hms) (by have:=hf qs hms;omega)
  have h9:wrF F (f+3) 9 9 2=U (U (Jp (U qs),F.t.length,false)):=by
   rw[wrF,show nd F.s 9=⟨11,3,1,[⟨10,false,az⟩]⟩by rw[hs];rfl,JO,ba ⟨yK,X,Dc⟩]
   unfold jc
   rw[G (by show¬(11:Int)=13;decide),G (by show¬(11:Int)=14;decide),G (by show¬(11:Int)=10;decide),ba (by show(10:Int)<=11/\(11:Int)<=12;decide),ba ⟨X,X,by show(0:Int)<=(qs.length:Nat);omega⟩]
   show cy.andThen (cy.andThen (jd F (wrF F (f+1+1)) false 10 3 (f+2) (qs.length:Nat) (9+1) az az false) _) _=_
   rw[ff]at XW
   rw[show(9+1:Nat)=(wy c.vt c.s c.n c.pr c.ft c.tt c.k).length+ [(⟨11,az,0,(qs.length:Nat)⟩:Vl)].length from X,XW]
   rfl
  show cy.andThen (wrF F (f+3) 9 9 2) _=_
  rw[h9]
  unfold cy.andThen
  simp only
  rw[G (fun q=>q.1 X),G Dc]
  unfold dx
  rw[<-ht]
  unfold CT.inner
  rw[hms]
  rfl
end
section
open Go.Proofs.Tryz
open Go.RowKit
def uY(k:Int):Sn:=if k=2 then .Long else Ai k
theorem Zf(k:Int)(h2:2<=k)(bG:k<=10):(uY k).code=k:=by obtain rfl|rfl|rfl|rfl|rfl|rfl|rfl|rfl|rfl:k=2\/k=3\/k=4\/k=5\/k=6\/k=7\/k=8\/k=9\/k=10:=O;all_goals rfl
def Mi(sn:Sn->Ad)(za:Ad)(v:Except (Int×Int) (Ls Vl))(w:M)(e:Ending)(w':M):Prop:=
 Bw w w'/\
 ((∃vs ta tc,v= .ok vs/\e=Rt (Tu #[S ta vs.length tc,.nilIface])/\w'.ownsRow w.heap.size 60 4 (S ta vs.length tc) vs.length (df vs))\/
  (∃p,v= .error (1,0)/\e=Rt (Tu #[S Z 0 0,ml 0 (be p za)]))\/
  (v= .error (1,0)/\e=Rt (Tu #[S Z 0 0,be 0 za]))\/
  (∃k q,v= .error (k,q)/\2<=k/\k<=10/\e=Rt (Tu #[S Z 0 0,be q (sn (uY k))])))
theorem Qi(E:bj)(s:Ls Nd)(a:Oo Ad)(c:Nat)(root:Int)(d:Q)(v:Except (Int×Int) (Ls Vl))(w:M)(sn:Sn->Ad)(za:Ad)(hl:gy w sn)(hz:kv w sn za)(hs:ew w a s)(hok:ky s)(fA:s.length<=140737488351232)(EE:d.size<=9223372036854775807)(hv:pb E s root d v):Cs prog 47 #[S a s.length c,I J root,Y d] w fun e w'=>Mi sn za v w e w':=by
 have KH:Hi (∀wq,Bw w wq->Cs prog 74 #[S a s.length c,I J root] wq fun e w'=>Mg s root za wq e w'):=fun wq q=>Tt s a c root wq sn za (hl.below q) (hz.below q) (hs.below q) hok fA;have HL:=ax hl;have HS:=ax hs;have dQ:=ax hok;have HV:=ax hv;clear hl hz hs hok hv;go_enter func47,ntmps47;go_wp2_with fail;refine(KH _ Be).mono ?_;rintro e w1 ⟨hb1,h1⟩;have aC:Hi (Bw w w1):=dj hb1;have aV:Hi (w1.heap[w.heap.size]? =U (C #[I J root] 3 (0,0))):=bc (bl w _) hb1;have g1:w1.cell? (D w.heap.size 0 Z)=U (I J root):=bq aV X;have aez:=lc g1;clear hb1;rcases h1 with⟨rfl,hr,h0,h1⟩|⟨⟨p,rfl⟩,hr⟩|⟨rfl,hr,h0⟩
 ·have HR:=ax hr;clear hr;by_cases h2:4000<d.size
  ·have kG:(4000:Int)<d.size:=O;have cL:=(HL.below aC).s.cLong;have dZ:=bp cL;simp only at dZ;have bS:Hi (∀wq,Cs prog 60 #[I J 0,If 291 (Po (U (sn .Long)))] wq fun e w'=>e=Rt (be 0 (sn .Long))/\w'=wq):=fun wq=>pj 0 _ wq;unfold be at bS;go_wp2_with fail;refine(bS _).mono ?_;rintro e w2 ⟨rfl,rfl⟩;go_wp2;refine db (v:=Tu #[S Z 0 0,be 0 (sn .Long)]) (by simp[results,results47,go_sem,be]) X ?_;refine⟨aC,.inr (.inr (.inr ⟨2,0,?_,Dc,Dc,X⟩))⟩;rcases HV with⟨q,_⟩|⟨_,_,q⟩|⟨_,q,_⟩;(·exact Ab ⟨HR,h0,h1⟩ q);(·exact q);omega
  have kG:(d.size:Int)<=4000:=O;obtain⟨L5,rfl,rfl,(HE:Hi _),f,hf,pF⟩:d.size<=4000/\E.s=s/\E.d=d/\mo E/\∃f,f<=1000000/\jh E f root.toNat=U v:=by
   rcases HV with⟨q,_⟩|⟨_,q,_⟩|⟨_,q⟩;(·exact Ab ⟨HR,h0,h1⟩ q);(·omega);exact q
  obtain⟨rt,rfl⟩:∃n:Nat,root=n:=⟨root.toNat,O⟩;have hrt:rt<E.s.length:=O;have VV:=ahH pF;have iA:Hi (jh E f rt=U v):=by show jh E f rt=U v;simpa using pF
  have xA:=ax VV;have LK:=HR.out.2.2.1;have eY:=HR.out.2.1;have pJ:Hi (Cs prog 64 #[S a E.s.length c] w1 fun e w'=>e=Rt (S (U (D w1.heap.size 0 Z)) E.s.length E.s.length)/\sr E.s w1 w' E.s.length):=Tc E.s a c w1 (HS.below aC) (zc LK) (fun j hj=>(yx LK j hj).1) (qx LK) (HL.below aC).n eY;clear LK eY pF VV KH;go_wp2_with fail;refine pJ.mono ?_;rintro e w2 ⟨rfl,pZ⟩;have aD:Hi (Bw w w2):=Tm aC pZ.bel;obtain⟨gb,qC⟩:∃gb,w1.heap.size=gb:=Ey;have VM:uD w2 gb E.s:=by rw[<-qC];exact pZ.read
  have UG:Hi (PC E w2 a gb sn):=⟨HS.below aD,HR,dQ,HE.bg,HE.ok,L5,VM,HL.below aD⟩;have cJ:Hi (w2.heap[w.heap.size]? =U (C #[I J (rt:Int)] 3 (0,0))):=bc aV pZ.bel;rw[qC];clear pZ VM qC g1 aez aV;obtain⟨o,nW,(UO:Hi _)⟩:=ahI iA;obtain⟨w4,JR⟩:∃w4,(w2.alloc (C #[S a E.s.length c,S (U (D gb 0 Z)) E.s.length E.s.length,Y E.d,S Z 0 0] 144)).alloc (C #[Po (U (D w2.heap.size 0 Z))] 142)=w4:=Ey;have QB:Bw w2 w4:=by rw[<-JR];exact(Be).alloc Sq _
  have kW:Hi (w4.heap[w2.heap.size+1]? =U (C #[Po (U (D w2.heap.size 0 Z))] 142 (0,0))):=by show w4.heap[w2.heap.size+1]? =_;rw[<-JR];have:=bl (w2.alloc (C #[S a E.s.length c,S (U (D gb 0 Z)) E.s.length E.s.length,Y E.d,S Z 0 0] 144)) (C #[Po (U (D w2.heap.size 0 Z))] 142);simpa using this
  have bZ:eh w2 w4 w2.heap.size a E.s.length c gb E.d []:=by refine⟨QB,Ln,S Z 0 0,?_,nz _ _ _ _⟩;rw[<-JR,nr _ _ _ Sq];exact bl w2 _
  have mO:Hi (Cs prog 76 #[Po (U (D w2.heap.size 0 Z)),I J 0,I J E.d.size,.func (.func 77) #[] #[Po (U (D (w2.heap.size+1) 0 Z)),Po (U (D w.heap.size 0 Z))]] w4 fun e w'=>iu E w2 w2.heap.size a c gb sn (iy E 0 E.d.size o) [] w4 e w'):=agk E w2 w2.heap.size a c gb sn UG 0 E.d.size o [] w4 (w2.heap.size+1) w.heap.size Lz Ln bZ (fun g hg wq hq=>aiI E w2 w2.heap.size a c gb sn rt g 0 o [] wq (w2.heap.size+1) w.heap.size (bq (bc kW hq) X) (bq (bc (bc cJ QB) hq) X) (fun wz hz=>Zu E w2 w2.heap.size a c gb sn UG HE.dv f rt 0 E.d.size g 1 o [] wz hg (nW g hg) hrt Lz Ln Dc Dc (by unfold eu;simp only[lx];omega) ((bZ.below hq).below hz)));have gE:=ax JR;clear nW QB bZ JR;go_wp2_with fail;rw[gE.out];clear gE;refine mO.mono ?_;rintro e w5 P8;have HA5:=ax P8;have D4:=P8.1 _ _ _ O Dc kW;have g5:w5.cell? (D (w2.heap.size+1) 0 Z)=U (Po (U (D w2.heap.size 0 Z))):=bq D4 X;clear P8 D4;rcases HA5.2 with⟨vs,z,ho,rfl,nT⟩|⟨k,q,b9,ho,rfl,nT⟩
  ·have HX:Hi (v= .ok vs):=by
    show v= .ok vs;rcases UO with⟨u,_,q2⟩|⟨ws,q1,q2⟩;(·rw[q2]at ho;cases ho);rw[q2]at ho;injection ho with ho;injection ho with ho _;rw[q1,ho]
   have fY:=ax nT;obtain⟨_,_,vt,LV,sD⟩:=nT;rw[zn]at sD;obtain⟨ta,tc,rfl,_⟩:=uV sD;have nM:Hi (w5.ownsRow w.heap.size 60 4 (S ta vs.length tc) vs.length (df vs)):=Gi sD aD.size;unfold uq at LV;have r5:w5.cell? (D w2.heap.size 3 Z)=U (S ta vs.length tc):=bq LV X;clear LV sD ho mO;go_wp2;refine db (v:=Tu #[S ta vs.length tc,.nilIface]) (by simp[results,results47,go_sem]) X ?_;exact⟨Tm aD fY.bel,.inl ⟨vs,ta,tc,HX,X,nM⟩⟩
  have HX:Hi (v= .error (k,q)):=by
   show v= .error (k,q);rcases UO with⟨u,q1,q2⟩|⟨ws,q1,q2⟩;(·rw[q2]at ho;injection ho with ho;rw[q1,ho]);rw[q2]at ho;cases ho
  have xC:=ax (xA k q HX);have fY:=ax nT;have DM:Hi (Ai k=uY k):=by show Ai k=uY k;unfold uY;rw[G (by have:=xC.out;omega)]
  rw[DM.out];unfold be;clear nT ho mO;go_wp2;refine db (v:=Tu #[S Z 0 0,be q (sn (uY k))]) (by simp[results,results47,go_sem,be]) X ?_;exact⟨Tm aD.out fY.out.bel,.inr (.inr (.inr ⟨k,q,HX.out,by have:=xC.out;omega,xC.out.2,X⟩))⟩
 ·have HX:Hi (v= .error (1,0)):=by
   rcases HV with⟨_,q⟩|⟨q,_⟩|⟨q,_⟩;(·exact q);(·exact Ab q.1 hr);exact Ab q.1 hr
  clear hr;unfold ml be;go_wp2;refine db (v:=Tu #[S Z 0 0,ml 0 (be p za)]) (by simp[results,results47,go_sem,be,ml]) X ?_;exact⟨aC,.inr (.inl ⟨p,HX,X⟩)⟩
 have HX:Hi (v= .error (1,0)):=by
  rcases HV with⟨_,q⟩|⟨q,_⟩|⟨q,_⟩;·exact q
  ·exact Ab q.2 h0
  exact Ab q.2 h0
 clear hr h0;unfold be;go_wp2;refine db (v:=Tu #[S Z 0 0,be 0 za]) (by simp[results,results47,go_sem,be]) X ?_;exact⟨aC,.inr (.inr (.inl ⟨HX,X⟩))⟩
theorem cw{p:Prop}(h:p):Hi p:=h
theorem afG(b:Q)(w:M)(sn:Sn->Ad)(za:Ad)(hl:gy w sn)(hz:kv w sn za)(hb:b.size<=9223372036854775807):Cs prog 191 #[Y b] w fun e w'=>dw (xy b) w e w':=by
 have HS:=cw (agi w);obtain⟨E,v,hv⟩:=Ob lS 0 b;have HT:Hi (∀g wq,Bw w wq->ew wq (U (D g 0 Z)) lS->Cs prog 47 #[S (U (D g 0 Z)) 3 3,I J 0,Y b] wq fun e w'=>Mi sn za v wq e w'):=fun g wq q hs=>Qi E lS (U (D g 0 Z)) 3 0 b v wq sn za (hl.below q) (hz.below q) hs We Dc hb hv;have HV:=cw hv;clear hl hz hv;go_enter func191,ntmps191;go_wp2_with fail;refine HS.mono ?_;rintro e w1 ⟨g,rfl,jB,hb1⟩;have GQ:=cw (HT g w1 hb1 jB);have aC:=cw hb1;clear jB hb1 HT HS;go_wp2_with fail;refine GQ.mono ?_;rintro e w2 ⟨hb2,h2⟩;have aD:Hi _:=Tm aC hb2;clear hb2 GQ;rcases h2 with⟨vs,ta,tc,cR,rfl,_⟩|⟨p,cR,rfl⟩|⟨cR,rfl⟩|⟨k,q,cR,_,_,rfl⟩;·have HL:Hi (xy b):=⟨E,vs,by rw[<-cR];exact HV⟩;clear cR HV;go_wp2;go_ret;exact ia HL aD
 all_goals(have HL:Hi (¬xy b):=fun⟨E',vs,h⟩=>by have:=adw HV h;rw[cR]at this;cases this);clear cR HV;(try unfold ml);unfold be;go_wp2;go_ret;exact cg HL aD
theorem afO(b:Q)(w:M)(sn:Sn->Ad)(hl:gy w sn)(hb:b.size<=140737488355328):Cs prog 192 #[Y b] w fun e w'=>dw (uM b) w e w':=by
 have HS:=cw (Ps 5 Z 0 0 w);have HE:Hi (∀wq,Bw w wq->Cs prog 95 #[Ag #[I J 5,I J (-1),I J 0,S Z 0 0],Y b] wq fun e w'=>dw (uM b) wq e w'):=fun wq q=>(Vs ⟨5, -1,0,[]⟩ Z 0 b wq sn (hl.below q) (by refine⟨?_,?_,?_,?_,?_⟩ <;>decide) Dc hb).mono fun e w' h=>by obtain⟨r,h1,h2,h3⟩:=h;exact⟨r,h1,h2.trans ⟨fun q=>q.2,fun q=>⟨Dc,q⟩⟩,h3⟩
 clear hl;go_enter func192,ntmps192;go_wp2_with fail;refine HS.mono ?_;rintro e w1 ⟨rfl,hb1⟩;have aC:=cw hb1;clear hb1;go_wp2_with fail;refine(HE _ aC).mono ?_;rintro e w2 ⟨r,rfl,hr,hb2⟩;have HR:=cw hr;have aD:Hi _:=Tm aC hb2;clear hr hb2;go_wp2;go_ret;exact yv HR aD
theorem afH(m:du)(w:M)(sn:Sn->Ad)(za:Ad)(hl:gy w sn)(hz:kv w sn za)(hk:m.kind.size<=140737488355328)(hb:m.body.size<=140737488355328):Cs prog 171 #[Ag #[Y m.kind,Bo m.must,Y m.body]] w fun e w'=>dw (rm m) w e w':=by
 have KT:Hi _:=fun wq q=>afG m.body wq sn za (hl.below q) (hz.below q) O;have K6:Hi (∀wq,Bw w wq->Cs prog 192 #[Y m.body] wq fun e w'=>dw (uM m.body) wq e w'):=fun wq q=>afO m.body wq sn (hl.below q) hb;have HF:Hi (∀wq,Bw w wq->Cs prog 138 #[I J 4,Y m.kind] wq fun e w'=>dw (bu 4 m.kind) wq e w'):=fun wq q=>Dh 4 m.kind wq O (hl.below q).d (Bv m.kind wq O (hl.below q).t);clear hl hz;obtain⟨k,mu,b⟩:=m;simp only at hk hb KT K6 HF;by_cases h1:k=qy
 ·subst h1;have HX:Hi (xy b↔rm ⟨qy,mu,b⟩):=⟨fun q=> .inl ⟨X,q⟩,fun q=>by
   rcases q with⟨_,q⟩|⟨q,_⟩|⟨q,_⟩;(·exact q);(·exact Ab (show qy=rf from q) Dc);exact Ab X q⟩
  clear K6 HF hk;go_enter func171,ntmps171;go_wp2_with fail;refine(KT _ Be).mono ?_;rintro e w1 ⟨r,rfl,hr,hb1⟩;have HR:Hi (r=true↔rm ⟨qy,mu,b⟩):=hr.trans HX;have HB:Hi (Bw w w1):=dj hb1;clear hr hb1;go_wp2;go_ret;exact yv HR HB
 have e1:(k.toList== [85,29,19])=false:=by have q:=rn h1;rwa[show qy.toList=[85,29,19]by rw[Lib.toList_data]]at q
 by_cases h2:k=rf
 ·subst h2;have HX:Hi (uM b↔rm ⟨rf,mu,b⟩):=⟨fun q=> .inr (.inl ⟨X,q⟩),fun q=>by
   rcases q with⟨q,_⟩|⟨_,q⟩|⟨_,q,_⟩;(·exact Ab (show rf=qy from q) Dc);(·exact q);exact Ab X q⟩
  clear KT HF hk e1 h1;go_enter func171,ntmps171;go_wp2_with fail;refine(K6 _ Be).mono ?_;rintro e w1 ⟨r,rfl,hr,hb1⟩;have HR:Hi (r=true↔rm ⟨rf,mu,b⟩):=hr.trans HX;have HB:Hi (Bw w w1):=dj hb1;clear hr hb1;go_wp2;go_ret;exact yv HR HB
 have e2:(k.toList== [85,29,15])=false:=by have q:=rn h2;rwa[show rf.toList=[85,29,15]by rw[Lib.toList_data]]at q
 have HX:Hi ((bu 4 k/\mu=false)↔rm ⟨k,mu,b⟩):=⟨fun q=> .inr (.inr ⟨h1,h2,q⟩),fun q=>by
  rcases q with⟨q,_⟩|⟨q,_⟩|⟨_,_,q⟩;·exact Ab q h1
  ·exact Ab q h2
  exact q⟩
 clear KT K6 h1 h2;go_enter func171,ntmps171;go_wp2_with fail;refine(HF _ Be).mono ?_;rintro e w1 ⟨r,rfl,hr,hb1⟩;have c1:w1.cell? (D w.heap.size 1 Z)=U (Bo mu):=bh.new (A:=#[Y k,Bo mu,Y b]) ⟨w1,hb1⟩ X;have HB:Hi (Bw w w1):=dj hb1;clear hb1
 cases r with
 |false=>
  have HN:Hi (¬rm ⟨k,mu,b⟩):=fun q=>by cases hr.2 (HX.2 q).1
  clear hr HX
  go_wp2
  go_ret
  exact cg HN HB
 |true=>
  have HC:Hi (mu=false↔rm ⟨k,mu,b⟩):=⟨fun q=>HX.1 ⟨hr.1 X,q⟩,fun q=>(HX.2 q).2⟩
  clear hr HX
  cases mu
  ·have HY:Hi (rm ⟨k,false,b⟩):=HC.1 X
   clear HC
   go_wp2
   go_ret
   exact ia HY HB
  ·have HN:Hi (¬rm ⟨k,true,b⟩):=fun q=>by cases HC.2 q
   clear HC
   go_wp2
   go_ret
   exact cg HN HB
theorem aci(ms:Ls du)(a:Oo Ad)(mc:Nat)(w:M)(sn:Sn->Ad)(za:Ad)(hl:gy w sn)(hz:kv w sn za)(eN:il w a ms)(hZ:Hy ms)(hn:ms.length<=140737488351232)(kK:ms.length<=mc):Cs prog 132 #[S a ms.length mc] w fun e w'=>dw (kx ms) w e w':=by
 have HM:Hi _:=fun j wq hj q=>afH _ wq sn za (hl.below q) (hz.below q) (hZ j hj).1 (hZ j hj).2;have HI:=cw eN;clear hl hz eN hZ;go_enter func132,ntmps132;go_wp2;go_loopw [9] (fun vi wr=>∃k:Nat,k<=ms.length/\vi=I J k/\Lt ms k/\Bw w wr) (fun vi _=>ms.length-(Io vi).toNat);case atStart=>exact⟨0,Lz,X,fun i hi=>Ab hi (dh _),By⟩
 obtain⟨k,hk,rfl,yR,aT⟩:=hrel;have r9:=cw yR;have dU:=cw aT;clear yR aT;by_cases aA:k<ms.length
 ·have aN:(k:Int)<ms.length:=O;have aL:(k:Int)<=mc:=O;obtain⟨g,o,rfl,c0,c1,c2⟩:=HI k aA;have pL:=cw (fun wq=>HM k wq aA);obtain⟨m,hm⟩:∃m,ms.getD k fh=m:=Ey;rw[hm]at c0 c1 c2 pL;have d0:=Cb dU c0;have d1:=Cb dU c1;have d2:=Cb dU c2;have kE:=cw hm;clear c0 c1 c2 hm;go_wp2_with fail;refine(pL _ (dU.alloc dU.size _)).mono ?_;rintro e w1 ⟨r,rfl,hr,hb1⟩;have aC:Hi _:=(dU.alloc dU.size _).trans (hb1.mono (dU.alloc dU.size _).size);have x0:w1.cell? (D wr.heap.size 0 Z)=U (Y m.kind):=bh.new (A:=#[Y m.kind,Bo m.must,Y m.body]) ⟨w1,hb1⟩ X;have i9:=lc x0;clear hb1 d0 d1 d2 pL
  cases r with
  |false=>
   have HN:Hi (¬kx ms):=fun q=>by
    have:=(q k aA).1
    rw[kE.out]at this
    cases hr.2 this
   clear hr
   go_wp2
   go_ret
   exact cg HN aC
  |true=>
   have dQ:Hi _:=hr.1 X
   clear hr
   obtain⟨xb,gL⟩:∃xb,wr.heap.size=xb:=Ey
   rw[gL]at x0 i9 ⊢
   have DP:=cw x0
   clear gL
   go_wp2
   go_loopw [21] (fun vj wx=>∃j:Nat,j<=k/\vj=I J j/\(∀i,i<j->(ms.getD i fh).kind≠m.kind)/\Bw w1 wx) (fun vj _=>k-(Io vj).toNat)
   case atStart=>exact⟨0,Lz,X,fun i hi=>Ab hi (dh _),By⟩
   case round=>
    obtain⟨j,hj,rfl,aI,lA⟩:=hrel
    have oY:=cw aI
    have fG:=cw lA
    have y0:=Cb lA DP
    have jD:=lc y0
    clear aI lA
    by_cases eZ:j<k
    ·have yJ:(j:Int)<k:=O
     obtain⟨g',o',e',z0,z1,z2⟩:=HI j O
     injection e' with e'
     injection e' with e1 e2 _
     subst e1 e2
     have aM:Hi _:=Tm aC fG
     obtain⟨kj,CW⟩:∃kj,(ms.getD j fh).kind=kj:=Ey
     rw[CW]at z0
     generalize(ms.getD j fh).must=muj at z1
     generalize(ms.getD j fh).body=boj at z2
     have u0:=Cb aM z0
     have u1:=Cb aM z1
     have u2:=Cb aM z2
     have GF:=cw CW
     clear z0 z1 z2 CW
     by_cases heq:kj=m.kind
     ·have p9:=Np.2 heq
      have HN:Hi (¬kx ms):=fun q=>by
       have:=(q k aA).2 j eZ
       rw[kE,GF.out]at this
       exact this heq
      clear heq
      go_wp2
      go_ret
      exact cg HN (aM.alloc aM.size _)
     ·have p9:=rn heq
      have OC:Hi ((ms.getD j fh).kind≠m.kind):=by
       rw[GF.out];exact heq
      clear heq
      go_wp2
      go_roundw
      case rel=>
       refine⟨j+1,O,Gn,fun i hi=>?_,fG.alloc fG.size _⟩
       by_cases yH:i=j
       ·rw[yH];exact OC
       ·exact oY i O
      case measure=>exact Ms
    ·have yJ:(k:Int)<=j:=O
     obtain rfl:j=k:=O
     go_wp2
     go_roundw
     case rel=>
      refine⟨j+1,O,Gn,fun i hi=>?_,Tm aC fG⟩
      by_cases yH:i=j
      ·rw[yH,kE.out];exact⟨dQ,oY⟩
      ·exact r9 i O
     case measure=>exact Ms
 have aN:(ms.length:Int)<=k:=O;obtain rfl:k=ms.length:=O;go_wp2;go_ret;exact ia r9 dU
def Cr(v:Int)(s n f t k:Q)(ms:Ls du)(sn:Sn->Ad)(w:M)(e:Ending)(w':M):Prop:=
 Bw w w'/\((¬ij v s n f t k ms.length/\e=Rt (be 0 (sn .Card)))\/(ij v s n f t k ms.length/\¬kx ms/\e=Rt (be 0 (sn .Mark)))\/(ij v s n f t k ms.length/\kx ms/\e=Rt .nilIface))
theorem Ts(v:Int)(s n f t k:Q)(ms:Ls du)(ma:Oo Ad)(mc:Nat)(w:M)(sn:Sn->Ad)(za:Ad)(hl:gy w sn)(hz:kv w sn za)(z1:s.size<=9223372036854775807)(z2:n.size<=9223372036854775807)(z3:f.size<=9223372036854775807)(z4:t.size<=9223372036854775807)(z5:k.size<=9223372036854775807)(eN:il w ma ms)(hZ:Hy ms)(hn:ms.length<=140737488351232)(kK:ms.length<=mc):Cs prog 85 #[dm v s n f t k (S ma ms.length mc)] w fun e w'=>Cr v s n f t k ms sn w e w':=by
 have oW:Hi _:=fun wq q=>afi v s n f t k ma ms.length mc wq (hl.below q).d (hl.below q).t z1 z2 z3 z4 z5;have HAM:Hi _:=fun wq q=>aci ms ma mc wq sn za (hl.below q) (hz.below q) (eN.below q) hZ hn kK;have HL:Hi _:=hl;have bS:Hi (∀x wq,Cs prog 60 #[I J 0,If 291 (Po (U (sn x)))] wq fun e w'=>e=Rt (be 0 (sn x))/\w'=wq):=fun x wq=>pj 0 _ wq;unfold Cr;unfold be at bS ⊢;unfold dm at oW ⊢;clear hl hz eN hZ z1 z2 z3 z4 z5;go_enter func85,ntmps85;go_wp2_with fail;refine(oW _ Be).mono ?_;rintro e w1 ⟨r,rfl,hr,hb⟩;have HB:Hi _:=dj hb
 cases r with
 |false=>
  have HN:Hi (¬ij v s n f t k ms.length):=fun q=>by cases hr.2 q
  have cC:=(HL.below HB).s.cCard
  have dZ:=bp cC
  simp only at dZ
  clear hb hr
  go_wp2_with fail
  refine(bS .Card _).mono ?_
  rintro e w2 ⟨rfl,rfl⟩
  go_wp2
  go_ret
  exact⟨HB,.inl ⟨HN,X⟩⟩
 |true=>
  have HC:Hi _:=hr.1 X
  have c6:w1.cell? (D w.heap.size 6 Z)=U (S ma ms.length mc):=bh.new (A:=#[I J v,Y s,Y n,Y f,Y t,Y k,S ma ms.length mc]) ⟨w1,hb⟩ X
  clear hb hr
  go_wp2_with fail
  refine(HAM _ HB).mono ?_
  rintro e w2 ⟨r,rfl,hr,hb2⟩
  have aD:Hi _:=Tm HB hb2
  cases r with
  |false=>
   have HN:Hi (¬kx ms):=fun q=>by cases hr.2 q
   have cC:=(HL.below aD).s.cMark
   have dZ:=bp cC
   simp only at dZ
   clear hb2 hr c6
   go_wp2_with fail
   refine(bS .Mark _).mono ?_
   rintro e w3 ⟨rfl,rfl⟩
   go_wp2
   go_ret
   exact⟨aD,.inr (.inl ⟨HC,HN,X⟩)⟩
  |true=>
   have HM:Hi _:=hr.1 X
   clear hb2 hr c6
   go_wp2
   go_ret
   exact⟨aD,.inr (.inr ⟨HC,HM,X⟩)⟩
end
section
def Hp(b:Q):Prop:=(hd b).1=0/\(hd b).2.s+(hd b).2.l=b.size
theorem Xk(t:Q):az++t=t:=by
 apply je;apply Array.toList_inj.1;rw[Ce,Am];rfl
theorem Te(t:Q):t++az=t:=by
 apply je;apply Array.toList_inj.1;rw[Ce,Am];exact Lk _
theorem Hp.bd(h:Hp b):0<=(hd b).2.c/\(hd b).2.c<4/\0<=(hd b).2.n/\(hd b).2.n<31:=by have:=Oe h.1 h.2;omega
structure Cd(E:bj)(F:de):Prop where
 s:E.s=F.s
 right:ee F.s
 bg:∀i,i<F.s.length->∀c m,E.bg i c m=true↔lv F.s i c m
 okE:∀k t,E.ok k t=true↔bu k t
 okF:∀k t,F.ok k t=true↔bu k t
 dv:pd E
def qp(t:Ls Vl)(p:Nat)(vs:Ls Vl):Prop:=∃pre post,t=pre++vs++post/\pre.length=p
theorem qp.left{b:Ls Vl}(h:qp t p (a++b)):qp t p a:=by obtain⟨pre,post,e,hp⟩:=h;exact⟨pre,b++post,by rw[e];simp,hp⟩
theorem qp.right{b:Ls Vl}(h:qp t p (a++b)):qp t (p+a.length) b:=by obtain⟨pre,post,e,hp⟩:=h;exact⟨pre++a,post,by rw[e];simp,by rw[ff,hp]⟩
theorem qp.head(h:qp t p (v::vs)):p<t.length/\vl t p=v:=by
 obtain⟨pre,post,e,hp⟩:=h;refine⟨by rw[e];simp;omega,?_⟩;rw[e];unfold vl;rw[dy,na,qq O,hp,Nat.sub_self];rfl
theorem qp.tail(h:qp t p (v::vs)):qp t (p+1) vs:=qp.right (a:=[v]) h
theorem Z1{F:de}{p':Nat}(h:wrF F f i p dp=U (U (b,p',u))):p<F.t.length/\(vl F.t p).kind=(nd F.s i).kind/\dp<=12:=by
 match f with
 |0=>cases h
 |f+1=>
  rw[wrF]at h
  split at h
  ·rename_i q;exact q
  ·cases h
def Hq(E:bj)(F:de)(f:Nat):Prop:=∀i x y dp vs z,i<F.s.length->cd E f i x y dp=U (.ok (vs,z))->y<=E.d.size->∀p,qp F.t p vs->wrF F (f+1) i p dp=U (U (E.d.extract x z,p+vs.length,false))
theorem Uy{d:Q}(h1:x<=y)(h2:y<=z):d.extract x y++d.extract y z=d.extract x z:=(ByteArray.extract_eq_extract_append_extract y h1 h2).symm
theorem Uz(d:Q)(x:Nat):d.extract x x=az:=by rw[ByteArray.extract_same];rfl
theorem Wy{E:bj}{F:de}(hB:Cd E F)(hN:Hq E F f)(hi:i<F.s.length)(hz:z<=E.d.size):∀(m x:Nat) (last:Q) (j:Nat) (aE:Ls Vl) (j':Nat) (m6:Ls Vl),x<=z->ic E (cd E f) set i z dp m x last j aE=U (.ok (j',m6))->
 ∃n vs,j'=j+n/\m6=aE++vs/\∀(p:Nat) (out:Q) (u:Bool),qp F.t p vs->jd F (wrF F (f+1)) set i dp m (n:Nat) p out last u=U (U (out++E.d.extract x z,p+vs.length,u))
 |0,_,_,_,_,_,_,_,e=>by cases e
 |m+1,x,last,j,aE,j',m6,hx,e=>by
  unfold ic at e
  split at e
  ·obtain⟨zB,z1,h1,h2⟩:=og e
   split at h2
   ·cases h2
   rename_i EZ
   have hb:=xh (by rw[hB.s];exact hB.right.fine) (by rw[hB.s];exact hi) h1
   obtain⟨n,vs,hj,hv,hw⟩:=Wy hB hN hi hz m z1 _ _ _ _ _ hb.2.2.1 h2
   refine⟨n+1,zB++vs,O,by rw[hv,na],fun p out u hl=>?_⟩
   unfold jd
   rw[ba O,hN i x z dp zB z1 hi h1 hz p hl.left]
   unfold cy.andThen
   simp only
   have cW:(set&&jo (E.d.extract x z1) last)=false:=by
    cases set with
    |false=>rfl
    |true=>exact Bool.eq_false_iff.2 fun q=>EZ ⟨X,q⟩
   rw[cW,Cc,Cc,show(((n+1:Nat):Int)-1)=(n:Int)by omega,hw _ _ _ hl.right,Li,Uy O hb.2.2.1,ff,pf]
  ·cases e
   refine⟨0,[],X,Sq,fun p out u _=>?_⟩
   unfold jd
   rw[G O,show x=z by omega,Uz,Te]
   rfl
theorem Ku{E:bj}{F:de}(hB:Cd E F)(hN:Hq E F f)(hi:i<F.s.length)(hz:z<=E.d.size):∀(c j x:Nat) (aE m6:Ls Vl) (z':Nat),j+c=(nd F.s i).kids.length->x<=z->dr E (cd E f) z (dp+1) ((nd F.s i).kids.drop j) x aE=U (.ok (m6,z'))->
 ∃vs,m6=aE++vs/\∀(p:Nat) (out:Q) (u:Bool),qp F.t p vs->dx F (wrF F (f+1)) dp ((nd F.s i).kids.drop j) p out u=U (U (out++E.d.extract x z,p+vs.length,u))
 |0,j,x,aE,m6,z',hj,hx,e=>by
  rw[Av O]at e ⊢
  unfold dr at e
  split at e
  ·cases e
  ·cases e
   refine⟨[],Sq,fun p out u _=>?_⟩
   unfold dx
   rw[show x=z by omega,Uz,Te]
   rfl
 |c+1,j,x,aE,m6,z',hj,hx,e=>by
  have eC:j<(nd F.s i).kids.length:=O
  have dK:=ni eC
  have hw:=hB.right.fine.within i hi _ dK
  have lC:(kd (nd F.s i) j).node.toNat<F.s.length:=O
  obtain⟨bQ,lD,_⟩:=pw hB.right lC
  have xV:=(hB.right.2.2.2.2 i hi).2 j eC
  have hKo:=(hB.right.2.2.1 i hi).2.2.2 j eC
  rw[yp eC]at e ⊢
  unfold dr at e
  split at e
  ·cases e
  split at e
  ·obtain⟨zB,z1,h1,h2⟩:=og e
   split at h2
   ·cases h2
   rename_i aI
   have hb:=xh (by rw[hB.s];exact hB.right.fine) (by rw[hB.s];exact lC) h1
   obtain⟨vs,hv,rQ⟩:=Ku hB hN hi hz c (j+1) z1 _ _ _ O hb.2.2.1 h2
   refine⟨zB++vs,by rw[hv,na],fun p out u hl=>?_⟩
   have lE:=hN _ _ _ _ _ _ lC h1 hz p hl.left
   have XH:=Z1 lE
   have aeU:wrF F (f+1) (kd (nd F.s i) j).node.toNat p (if(kd (nd F.s i) j).dflt.size=0 then dp+1 else 1)=U (U (E.d.extract x z1,p+zB.length,false)):=by
    by_cases hd:(kd (nd F.s i) j).dflt.size=0
    ·rw[ba hd];exact lE
    ·rw[G hd]
     obtain⟨cY,_⟩:=xV.resolve_left hd
     rw[Dx bQ cY]at lE ⊢
     split at lE
     ·rename_i q
      rw[ba ⟨⟨q.1.1,q.1.2.1,Dc⟩,q.2⟩]
      exact lE
     ·cases lE
   unfold dx
   rw[G (fun q=>by have:=q.2.2;omega),aeU]
   unfold cy.andThen
   simp only
   rw[G (fun q=>aI q.2),G O,Cc,rQ _ _ _ hl.right,Li,Uy O hb.2.2.1,ff,pf]
  split at e
  ·rename_i ho
   obtain⟨vs,hv,rQ⟩:=Ku hB hN hi hz c (j+1) x _ _ _ O hx e
   refine⟨⟨15,az,0,0⟩::vs,by rw[hv,na];rfl,fun p out u hl=>?_⟩
   obtain⟨g1,g2⟩:=hl.head
   unfold dx
   rw[ba ⟨ho,g1,by rw[g2]⟩,ba (by rw[g2];exact⟨X,X,X⟩),rQ _ _ _ hl.tail,fu,pf,Cj 1]
  split at e
  ·rename_i ho hd
   obtain⟨cY,_⟩:=xV.resolve_left hd
   obtain⟨y,e1,e2,_⟩:=hB.dv i (by rw[hB.s];exact hi) (kd (nd F.s i) j) (by rw[hB.s];exact dK) hd
   rw[hB.s]at e1 e2
   rw[e2]at e
   obtain⟨vs,hv,rQ⟩:=Ku hB hN hi hz c (j+1) x _ _ _ O hx e
   refine⟨⟨(nd F.s (kd (nd F.s i) j).node.toNat).kind,y,0,0⟩::vs,by rw[hv,na];rfl,fun p out u hl=>?_⟩
   obtain⟨g1,g2⟩:=hl.head
   have C0:=(Wi hB.right lC cY e1).2 X
   have QK:bu (nd F.s (kd (nd F.s i) j).node.toNat).kind y:=by
    obtain⟨_,_,lU,jN,gW,lV,lW⟩:=pw hB.right lC
    exact((uv (fun z=>gW O) O).1 e1).2
   unfold dx
   rw[G (fun q=>ho q.1),G hd,Dx bQ cY,g2,ba ⟨⟨g1,X,Dc⟩,(hB.okF _ _).2 QK,X,X⟩]
   unfold cy.andThen
   simp only
   rw[ba ⟨hd,C0⟩,Cc,rQ _ _ _ hl.tail,fu,pf,Cj 1]
  split at e<;>cases e
theorem Uf{E:bj}{rec:fe}:∀(c j:Nat) {m6:Ls Vl} {z':Nat},j+c=n.kids.length->gu E rec h x z dp (n.kids.drop j) j=U (.ok (m6,z'))->∃a vs z1,a<n.kids.length/\m6=⟨13,az,(a:Nat),1⟩::vs/\rec (kd n a).node.toNat x z dp=U (.ok (vs,z1))
 |0,j,m6,z',hj,e=>by
  rw[Av O]at e
  unfold gu at e
  cases e
 |c+1,j,m6,z',hj,e=>by
  rw[yp O]at e
  unfold gu at e
  split at e
  ·obtain⟨vs,z1,h1,h2⟩:=og e
   cases h2
   exact⟨j,vs,z1,O,X,h1⟩
  ·exact Uf c (j+1) O e
theorem Uw{E:bj}(h:(E.hd x y).1=0)(hy:y<=E.d.size):Hp (E.d.extract x (fk x (E.hd x y).2))/\hd (E.d.extract x (fk x (E.hd x y).2))=E.hd x y/\E.hd x (fk x (E.hd x y).2)=E.hd x y/\fk x (E.hd x y).2<=y/\E.d.extract x (fk x (E.hd x y).2)=cf (E.hd x y).2.c (E.hd x y).2.b (E.hd x y).2.n (E.d.extract (x+(E.hd x y).2.s.toNat) (fk x (E.hd x y).2)):=by
 have h1:=lp h;have h2:=uR h;have ha:=Ja h (z:=fk x (E.hd x y).2) Ln h1.2.2.2 hy;have he:hd (E.d.extract x (fk x (E.hd x y).2))=E.hd x y:=ha;have hz:=sl E.d x (fk x (E.hd x y).2);have cG:Hp (E.d.extract x (fk x (E.hd x y).2)):=⟨by rw[he];exact h,by rw[he];omega⟩;have hb:=(Oe cG.1 cG.2).1;rw[he]at hb;refine⟨cG,he,ha,h1.2.2.1,?_⟩;rw[Ee,hz]at hb;rw[Nat.min_eq_right O]at hb;exact hb
theorem Nm{E:bj}{F:de}(hB:Cd E F)(hN:Hq E F f)(hi:i<F.s.length)(hh:(E.hd x y).1=0)(hy:y<=E.d.size)(e:fc E (cd E f) f (nd F.s i) cl nu (E.hd x y).2 x (fk x (E.hd x y).2) dp=U (.ok (vs,z)))(hl:qp F.t p vs):p<F.t.length/\(vl F.t p).kind=(nd F.s i).kind/\dp<=12/\jc F (wrF F (f+1)) (f+1) (nd F.s i) cl nu (vl F.t p) (p+1) dp=U (U (E.d.extract x (fk x (E.hd x y).2),p+vs.length,false)):=by
 obtain⟨cG,he,ha,hfy,hb⟩:=Uw hh hy;have dM:=lp hh;unfold fc at e;unfold jc;by_cases wW:(nd F.s i).kind=13;·rw[ba wW]at e ⊢;obtain⟨a,zB,z1,h1,h2,h3⟩:=Uf (n:=nd F.s i) (nd F.s i).kids.length 0 O (by rw[Aw];exact e);subst h2;have hw:=hB.right.fine.within i hi _ (ni h1);obtain⟨g1,g2⟩:=hl.head;have dA:=(tp h3).2;rw[ha]at dA;have lE:=hN _ _ _ _ _ _ O h3 dM.2.2.2 (p+1) hl.tail;have XH:=Z1 lE;refine⟨g1,by rw[g2];exact wW.symm,XH.2.2,?_⟩;rw[g2];rw[ba ⟨X,X,Cg _,Int.ofNat_lt.2 h1⟩,show((a:Nat):Int).toNat=a by omega,lE,dA,fu,pf,Cj 1]
 rw[G wW]at e ⊢;split at e;·cases e
 rename_i QJ;split at e;·cases e
 rename_i gJ;by_cases vO:(nd F.s i).kind=14;·rw[ba vO]at e ⊢;cases e;obtain⟨g1,g2⟩:=hl.head;refine⟨g1,by rw[g2];exact vO.symm,O,?_⟩;rw[g2];rw[ba ⟨cG.1,cG.2,X,X⟩];rfl
 rw[G vO]at e ⊢;have ael:=Classical.not_not.1 fun q=>QJ ⟨vO,q⟩;obtain⟨c1,c2,c3⟩:=ael;rw[c1,c2,c3]at hb;by_cases wV:(nd F.s i).kind=10
 ·rw[ba wV]at e ⊢;split at e;·cases e
  ·cases e
  rename_i zB z1 h1;cases e;obtain⟨vs2,hv,hw⟩:=Ku hB hN hi dM.2.2.2 (nd F.s i).kids.length 0 _ _ _ _ O dM.2.1 (by rw[Aw];exact h1);rw[Aw]at hw;rw[zn]at hv;subst hv;obtain⟨g1,g2⟩:=hl.head;refine⟨g1,by rw[g2];exact wV.symm,O,?_⟩;rw[g2];rw[ba ⟨X,X,X⟩,hw _ _ _ hl.tail];unfold cy.andThen;simp only;rw[Xk,hb,fu,pf,Cj 1,show decide (10<=(nd F.s i).kind/\(nd F.s i).kind<=12)=true by rw[wV];rfl]
 rw[G wV]at e ⊢;by_cases FC:10<=(nd F.s i).kind/\(nd F.s i).kind<=12
 ·rw[ba FC]at e ⊢;split at e;·cases e
  ·cases e
  rename_i j1 zB h1;cases e;have VE:=hB.right.fine.one i hi O;have JQ:=hB.right.fine.within i hi _ (ni (n:=nd F.s i) (i:=0) O);obtain⟨n,vs2,hj,hv,hw⟩:=Wy hB hN (i:=(kd (nd F.s i) 0).node.toNat) O dM.2.2.2 f _ _ _ _ _ _ dM.2.1 h1;rw[zn]at hv;rw[ly]at hj;subst hv hj;obtain⟨g1,g2⟩:=hl.head;refine⟨g1,by rw[g2],O,?_⟩;rw[g2];rw[ba ⟨X,X,Cg _⟩,Qp (fun _ _ _ _ h=>h) f (f+1) _ _ _ _ _ _ O (hw _ az false hl.tail)];unfold cy.andThen;simp only;rw[Xk,hb,fu,pf,Cj 1,show decide (10<=(nd F.s i).kind/\(nd F.s i).kind<=12)=true by simp[FC]]
 rw[G FC]at e ⊢;split at e;·rename_i hok;cases e;obtain⟨g1,g2⟩:=hl.head;refine⟨g1,by rw[g2],O,?_⟩;rw[g2];rw[ba ⟨(hB.okF _ _).2 ((hB.okE _ _).1 hok),X,X⟩];(conv=>rhs;rw[hb]);rw[show decide (10<=(nd F.s i).kind/\(nd F.s i).kind<=12)=false by simp[FC]];rfl
 cases e
theorem Ft{E:bj}{F:de}(hB:Cd E F):∀f,Hq E F f
 |0=>fun _ _ _ _ _ _ _ h=>by cases h
 |f+1=>fun i x y dp vs z hi h hy p hl=>by
  obtain⟨bQ,lD,lU,jN,gW,lV,lW⟩:=pw hB.right hi
  obtain⟨hh,lN⟩:=tp h
  subst lN
  have dM:=lp hh
  obtain⟨cG,he,ha,hfy,hb⟩:=Uw hh hy
  rw[cd,G (fun q=>q hh)]at h
  unfold lr at h
  rw[hB.s]at h
  rw[wrF]
  by_cases ht:(nd F.s i).tag<0
  ·rw[ba ht]at h
   obtain⟨a1,a2,a3,a4⟩:=Nm hB (Ft hB f) hi hh hy h hl
   have hm:(nd F.s i).mode≠1:=by have:=gW O;omega
   unfold fo fq
   rw[ba ⟨a1,a2,a3⟩,G O,G O,a4]
   unfold cy.andThen
   simp only
   rw[G hm]
  rw[G ht]at h
  by_cases hm:(nd F.s i).mode=0
  ·rw[ba hm]at h
   obtain⟨a1,a2,a3,a4⟩:=Nm hB (Ft hB f) hi hh hy h hl
   unfold fo fq
   rw[ba ⟨a1,a2,a3⟩,ba ⟨O,hm⟩,ba ⟨O,hm⟩,a4]
   unfold cy.andThen
   simp only
   rw[G O]
  rw[G hm]at h
  have iS:(nd F.s i).mode=1:=by have:=Jo hB.right.2.2.1 hi;omega
  split at h
  ·cases h
  rename_i QJ
  obtain⟨c1,c2,c3⟩:=Classical.not_not.1 QJ
  split at h
  ·cases h
  split at h
  ·cases h
  rename_i MB
  have MB:=Classical.not_not.1 MB
  obtain⟨zB,z1,h1,h2⟩:=og h
  split at h2
  ·cases h2
  rename_i aA
  cases h2
  obtain⟨a1,a2,a3,a4⟩:=Nm hB (Ft hB f) hi MB dM.2.2.2 h1 hl
  have ajT:=lp MB
  unfold fo fq
  rw[ba ⟨a1,a2,a3⟩,G O,G O,a4]
  unfold cy.andThen
  simp only
  rw[ba iS,hb,c1,c2,c3,show fk (x+(E.hd x y).2.s.toNat) (E.hd (x+(E.hd x y).2.s.toNat) (fk x (E.hd x y).2)).2=fk x (E.hd x y).2 by omega]
def VB(B:Nat)(v:Vl):Prop:=v.text.size<=B/\v.kids<=B
theorem Ud{E:bj}{rec:fe}(hB:1<=B)(hr:∀i x y dp vs z,rec i x y dp=U (.ok (vs,z))->∀v∈vs,VB B v):∀(ks:Ls Kd) (j:Nat) (vs:Ls Vl) (z:Nat),gu E rec h x tz dp ks j=U (.ok (vs,z))->∀v∈vs,VB B v
 | [],_,_,_,e=>by cases e
 |k::ks,j,vs,z,e=>by
  unfold gu at e
  split at e
  ·obtain⟨us,z',h1,h2⟩:=og e
   cases h2
   intro v hv
   rcases Lo.1 hv with rfl|hv
   ·exact⟨Lz,by show(1:Int)<=B;omega⟩
   ·exact hr _ _ _ _ _ _ h1 v hv
  ·exact Ud hB hr ks (j+1) vs z e
theorem Kt{E:bj}{rec:fe}(hr:∀i x y dp vs z,rec i x y dp=U (.ok (vs,z))->∀v∈vs,VB B v):∀(ks:Ls Kd) (x:Nat) (aE vs:Ls Vl) (z:Nat),(∀k∈ks,k.dflt.size≠0->VB B (E.dv k))->(∀v∈aE,VB B v)->dr E rec tz dp ks x aE=U (.ok (vs,z))->∀v∈vs,VB B v
 | [],x,aE,vs,z,_,ha,e=>by
   unfold dr at e
   split at e
   ·cases e
   ·cases e;exact ha
 |k::ks,x,aE,vs,z,hk,ha,e=>by
  have eI:∀k∈ks,k.dflt.size≠0->VB B (E.dv k):=fun k h=>hk k (by simp[h])
  unfold dr at e
  split at e
  ·cases e
  split at e
  ·obtain⟨us,z',h1,h2⟩:=og e
   split at h2
   ·cases h2
   ·exact Kt hr ks z' _ vs z eI (fun v hv=>by
     rcases Ek.1 hv with h|h
     ·exact ha v h
     ·exact hr _ _ _ _ _ _ h1 v h) h2
  split at e
  ·exact Kt hr ks x _ vs z eI (fun v hv=>by
    rcases Ek.1 hv with h|h
    ·exact ha v h
    ·obtain rfl:=List.mem_singleton.1 h;exact⟨Lz,Cg _⟩) e
  split at e
  ·rename_i hd
   exact Kt hr ks x _ vs z eI (fun v hv=>by
    rcases Ek.1 hv with h|h
    ·exact ha v h
    ·obtain rfl:=List.mem_singleton.1 h;exact hk k Sq hd) e
  split at e<;>cases e
theorem Wx{E:bj}{rec:fe}(hr:∀i x y dp vs z,rec i x y dp=U (.ok (vs,z))->∀v∈vs,VB B v):∀(m x:Nat) (last:Q) (j:Nat) (aE:Ls Vl) (j':Nat) (vs:Ls Vl),(∀v∈aE,VB B v)->ic E rec set i tz dp m x last j aE=U (.ok (j',vs))->(∀v∈vs,VB B v)/\j'<=j+m
 |0,_,_,_,_,_,_,_,e=>by cases e
 |m+1,x,last,j,aE,j',vs,ha,e=>by
  unfold ic at e
  split at e
  ·obtain⟨us,z',h1,h2⟩:=og e
   split at h2
   ·cases h2
   ·have:=Wx hr m z' _ _ _ _ _ (fun v hv=>by
     rcases Ek.1 hv with h|h
     ·exact ha v h
     ·exact hr _ _ _ _ _ _ h1 v h) h2
    exact⟨this.1,O⟩
  ·cases e;exact⟨ha,O⟩
theorem Nl{E:bj}{rec:fe}(hB:8<=B)(hdB:E.d.size<=B)(hr:∀i x y dp vs z,rec i x y dp=U (.ok (vs,z))->∀v∈vs,VB B v)(hm:m<=B)(gA:n.kids.length<=8)(cQ:∀k∈n.kids,k.dflt.size≠0->VB B (E.dv k))(e:fc E rec m n cl nu h x tz dp=U (.ok (vs,z))):∀v∈vs,VB B v:=by
 have hex:∀a b,(E.d.extract a b).size<=B:=fun a b=>by rw[sl];omega
 unfold fc at e;split at e;·exact Ud O hr _ _ _ _ e
 split at e;·cases e
 split at e;·cases e
 split at e;·cases e;intro v hv;obtain rfl:=List.mem_singleton.1 hv;exact⟨hex _ _,Cg _⟩
 split at e
 ·split at e;·cases e
  ·cases e
  rename_i us z' hs;cases e;intro v hv;rcases Lo.1 hv with rfl|hv;·exact⟨Lz,by show((n.kids.length:Nat):Int)<=B;omega⟩
  exact Kt hr _ _ _ _ _ cQ (fun v h=>by cases h) hs v hv
 split at e
 ·split at e;·cases e
  ·cases e
  rename_i j us hs;cases e;have:=Wx hr _ _ _ _ _ _ _ (fun v h=>by cases h) hs;intro v hv;rcases Lo.1 hv with rfl|hv;·exact⟨Lz,by show((j:Nat):Int)<=B;omega⟩
  exact this.1 v hv
 split at e;·cases e;intro v hv;obtain rfl:=List.mem_singleton.1 hv;exact⟨hex _ _,Cg _⟩
 cases e
theorem Pu{E:bj}(hB:8<=B)(hdB:E.d.size<=B)(gA:∀i,(nd E.s i).kids.length<=8)(cQ:∀i,∀k∈(nd E.s i).kids,k.dflt.size≠0->VB B (E.dv k)):∀f,f<=B->∀i x y dp vs z,cd E f i x y dp=U (.ok (vs,z))->∀v∈vs,VB B v
 |0,_,_,_,_,_,_,_,e=>by cases e
 |f+1,hf,i,x,y,dp,vs,z,e=>by
  have ih:=Pu hB hdB gA cQ f O
  rw[cd]at e
  split at e
  ·cases e
  unfold lr at e
  split at e
  ·exact Nl hB hdB ih O (gA i) (cQ i) e
  split at e
  ·exact Nl hB hdB ih O (gA i) (cQ i) e
  split at e
  ·cases e
  split at e
  ·cases e
  split at e
  ·cases e
  obtain⟨us,z',h1,h2⟩:=og e
  split at h2
  ·cases h2
  ·cases h2
   exact Nl hB hdB ih O (gA i) (cQ i) h1
def PL(y:Nat)(o:bz):Prop:=∀e q,o= .error (e,q)->0<=q/\q<=y
theorem Ub{E:bj}{rec:fe}(nI:x<=aw)(hr:∀i o,rec i x tz dp=U o->PL aw o):∀(ks:Ls Kd) (j:Nat) (o:bz),gu E rec h x tz dp ks j=U o->PL aw o
 | [],_,_,e=>by cases e;intro e q h;cases h;exact⟨O,O⟩
 |k::ks,j,o,e=>by
  unfold gu at e
  split at e
  ·rcases mg e with⟨u,h1,rfl⟩|⟨us,z',h1,h2⟩
   ·intro e q h;exact hr _ _ h1 e q h
   ·cases h2;intro e q h;cases h
  ·exact Ub nI hr ks (j+1) o e
theorem Kq{E:bj}{rec:fe}(hY:tz<=aw)(hr:∀i x o,x<=tz->rec i x tz dp=U o->PL aw o/\∀vs z,o= .ok (vs,z)->z<=tz):∀(ks:Ls Kd) (x:Nat) (aE:Ls Vl) (o:bz),x<=tz->dr E rec tz dp ks x aE=U o->PL aw o
 | [],x,aE,o,hx,e=>by
   unfold dr at e
   split at e
   ·cases e;intro e q h;cases h;exact⟨O,O⟩
   ·cases e;intro e q h;cases h
 |k::ks,x,aE,o,hx,e=>by
  unfold dr at e
  split at e
  ·cases e;intro e q h;cases h;exact⟨O,O⟩
  split at e
  ·rcases mg e with⟨u,h1,rfl⟩|⟨us,z',h1,h2⟩
   ·intro e q h;exact(hr _ _ _ hx h1).1 e q h
   ·have hz:=(hr _ _ _ hx h1).2 _ _ X
    split at h2
    ·cases h2;intro e q h;cases h;exact⟨O,O⟩
    ·exact Kq hY hr ks z' _ o hz h2
  split at e
  ·exact Kq hY hr ks x _ o hx e
  split at e
  ·exact Kq hY hr ks x _ o hx e
  split at e<;> (cases e;intro e q h;cases h;exact⟨O,O⟩)
theorem Wv{E:bj}{rec:fe}(hY:tz<=aw)(hr:∀x o,x<=tz->rec i x tz dp=U o->PL aw o/\∀vs z,o= .ok (vs,z)->z<=tz):∀(m x:Nat) (last:Q) (j:Nat) (aE:Ls Vl) (o:Except (Int×Int) (Nat×Ls Vl)),x<=tz->ic E rec set i tz dp m x last j aE=U o->∀e q,o= .error (e,q)->0<=q/\q<=aw
 |0,_,_,_,_,_,_,e=>by cases e
 |m+1,x,last,j,aE,o,hx,e=>by
  unfold ic at e
  split at e
  ·rcases mg e with⟨u,h1,rfl⟩|⟨us,z',h1,h2⟩
   ·intro e q h;cases h;exact(hr _ _ hx h1).1 _ _ X
   ·have hz:=(hr _ _ hx h1).2 _ _ X
    split at h2
    ·cases h2;intro e q h;cases h;exact⟨O,O⟩
    ·exact Wv hY hr m z' _ _ _ o hz h2
  ·cases e;intro e q h;cases h
theorem Nj{E:bj}{rec:fe}(nI:x+h.s.toNat<=tz)(hY:tz<=aw)(hr:∀i x dp o,x<=tz->rec i x tz dp=U o->PL aw o/\∀vs z,o= .ok (vs,z)->z<=tz){o:bz}(e:fc E rec m n cl nu h x tz dp=U o):PL aw o:=by
 have hx:∀e' q,(Except.error (e',q):bz)= .error (e',(x:Int))->0<=q/\q<=aw:=fun e' q h=>by cases h;exact⟨O,O⟩
 unfold fc at e;split at e;·exact Ub O (fun i o h=>(hr i x dp o O h).1) _ _ _ e
 split at e;·cases e;intro e q h;cases h;exact⟨O,O⟩
 split at e;·cases e;intro e q h;cases h;exact⟨O,O⟩
 split at e;·cases e;intro e q h;cases h
 split at e
 ·split at e;·cases e
  ·rename_i u hs;cases e;intro e q h;cases h;exact Kq hY (fun i x o hx h=>hr i x _ o hx h) _ _ _ _ nI hs _ _ X
  cases e;intro e q h;cases h
 split at e
 ·split at e;·cases e
  ·rename_i u hs;cases e;intro e q h;cases h;exact Wv hY (fun x o hx h=>hr _ x _ o hx h) _ _ _ _ _ _ nI hs _ _ X
  cases e;intro e q h;cases h
 split at e;·cases e;intro e q h;cases h
 cases e;intro e q h;cases h;exact⟨O,O⟩
theorem Gj{o:bz}{k q:Int}(h:U (Except.error (k,q))=U o)(hq:0<=q/\q<=y):PL y o:=fun e p he=>by
 rw[<-dd h]at he;injection he with he;injection he with _ he;omega
theorem ahp{o:bz}{u:Ls Vl×Nat}(h:U (Except.ok u)=U o):PL y o:=fun e p he=>by rw[<-dd h]at he;cases he
theorem Yo{E:bj}:∀f i x y dp o,x<=y->cd E f i x y dp=U o->PL y o/\∀vs z,o= .ok (vs,z)->z<=y
 |0,_,_,_,_,_,_,e=>by cases e
 |f+1,i,x,y,dp,o,hx,e=>by
  refine⟨?_,fun vs z h=>by subst h;obtain⟨q1,q2⟩:=tp e;have:=lp q1;omega⟩
  rw[cd]at e
  split at e
  ·exact Gj e ⟨O,O⟩
  rename_i q0
  have dM:=lp (Classical.not_not.1 q0)
  have ih:∀tz,tz<=y->∀i x dp o,x<=tz->cd E f i x tz dp=U o->PL y o/\∀vs z,o= .ok (vs,z)->z<=tz:=fun tz ht i x dp o hx h=>by
   obtain⟨a,b⟩:=Yo f i x tz dp o hx h
   exact⟨fun e q h=>by have:=a e q h;omega,b⟩
  unfold lr at e
  split at e
  ·exact Nj dM.2.1 dM.2.2.1 (ih _ dM.2.2.1) e
  split at e
  ·exact Nj dM.2.1 dM.2.2.1 (ih _ dM.2.2.1) e
  split at e
  ·exact Gj e ⟨O,O⟩
  split at e
  ·exact Gj e ⟨O,O⟩
  split at e
  ·exact Gj e ⟨O,O⟩
  rename_i q1
  have dJ:=lp (Classical.not_not.1 q1)
  rcases mg e with⟨u,h1,rfl⟩|⟨us,z',h1,h2⟩
  ·exact Nj dJ.2.1 O (ih _ O) h1
  ·split at h2
   ·exact Gj h2 ⟨O,O⟩
   ·exact ahp h2
theorem Qe:∀(fs:Ls (Int×Int×Bool)) (t u:Q),ku fs t=U u->u.size<=t.size
 | [],t,u,h=>by cases h;exact Ln
 |f::fs,t,u,h=>by
  have:=Qe fs _ _ (Qc.1 h).2
  rw[sl]at this
  omega
theorem Js(h:¬i<s.length):(nd s i).kids=[]:=by
 unfold nd;rw[dy,xz O];rfl
theorem Qo(hj:j<t.length):vl t j∈t:=by
 unfold vl;rw[dy,dz hj];exact me _
theorem aiS(hr:ee s)(hok:ky s)(root:Nat)(EX:root<s.length)(d:Q):∃E v,pb E s root d v/\((∃k q,v= .error (k,q)/\k≠0/\0<=q/\q<=d.size)\/(∃vs F,v= .ok vs/\Cf F s root vs (.ok d)/\Sz vs/\(∀j,j<vs.length->(vl vs j).kids<=9223372036854775807)/\2<=d.size/\d.size<=4000)):=by
 obtain⟨E,v,h⟩:=Ob s root d;refine⟨E,v,h,?_⟩;have h0:ee s/\(0:Int)<=root/\(root:Int)<s.length:=⟨hr,O,O⟩;rcases h with⟨q,_⟩|⟨_,_,rfl⟩|⟨_,hd,rfl,rfl,hE,f,hf,hv⟩;·exact Ab h0 q
 ·exact .inl ⟨2,0,X,Dc,O,O⟩
 rw[ld]at hv;unfold jh at hv;rcases mg hv with⟨⟨k,q⟩,h1,rfl⟩|⟨vs,z,h1,h2⟩;·have:=(Yo _ _ _ _ _ _ Lz h1).1 k q X;exact .inl ⟨k,q,X,yu _ _ _ _ _ _ h1 k q X,this.1,this.2⟩
 have hl:=xh hr.fine EX h1;split at h2;·cases h2;exact .inl ⟨7,z,X,Dc,O,O⟩
 cases h2;obtain rfl:z=E.d.size:=O;have eD:=Pu (E:=E) (B:=140737488351232) O O (fun i=>by
  by_cases hi:i<E.s.length;·exact hr.fine.eight i hi
  ·rw[Js hi];exact Lz) (fun i k hk hd=>by
  by_cases hi:i<E.s.length;·obtain⟨u,e1,e2,_⟩:=hE.dv i hi k hk hd;have hw:=hr.fine.within i hi k hk;obtain⟨_,_,lU,jN,gW,lV,lW⟩:=pw hr (i:=k.node.toNat) O;have fF:=((uv (fun z=>gW O) O).1 e1).1;have h3:=Qe _ _ _ fF;have h4:=hok i hi k hk;rw[e2];exact⟨by show u.size<=_;omega,Cg _⟩
  rw[Js hi]at hk;cases hk) f O _ _ _ _ _ _ h1
 have hB:Cd E ⟨E.s,vs,E.ok⟩:=⟨X,hr,hE.bg,hE.ok,hE.ok,hE.dv⟩;have hw:=Ft hB f root 0 E.d.size 1 vs E.d.size EX h1 Ln 0 ⟨[],[],Sq,X⟩;refine .inr ⟨vs,⟨E.s,vs,E.ok⟩,X,.inr ⟨h0,X,X,hE.ok,f+1,_,by rw[ld];exact hw,?_⟩,⟨O,fun j hj=>?_⟩,fun j hj=>?_,O,hd⟩;·unfold sy;simp only;rw[G O,G (by rw[sl];omega),G Dc,Rb]
 ·have:=(eD _ (Qo hj)).1;omega
 have:=(eD _ (Qo hj)).2;omega
end
section
open Go.Proofs.Tryz
open Go.RowKit Go.Extern.Stop Go.Stop Go.Extern
theorem acN{g:Nat}{w0 w:M}(hb:H B w0 w)(hg:B<=g)(cs:Array Vv):H B w0 (w.setRow g cs):=
 ⟨hb.os,hb.tape,hb.output,by simpa [World.setRow]using hb.size,fun k hk=>(setRow_other w g k cs O).trans (hb.block k hk)⟩
theorem acl(t:Vv)(w:M):Cs prog 79 #[.nilIface,t] w fun e w'=>e=Rt (Bo false)/\w'=w:=by
 go_enter func79,ntmps79;go_wp2;go_ret;exact⟨X,X⟩
theorem abT(t:Ad)(w:M):(ReflectliteValue.unpack (If 157 (Po (U t)))).run prog w
 = .ok (Ag #[Po (U (D 19 157 Z)),Po (U (D w.heap.size 0 Z)),I .u64 150]) (w.alloc (C #[Po (U t)] 157)):=Kr
theorem abQ(a:Ad)(w:M):(ReflectliteValue.methodAny (ReflectliteValue.valueError "reflectlite.Value.Type" 0) (fun t _ _ _=>ReflectliteType.toType t) #[(Ag #[Po (U (D 19 157 Z)),Po (U a),I .u64 150])]).run prog w
 = .ok (If 220 (Ag #[Po (U (D 19 157 Z))])) w:=Kr
theorem abE(h:Vv)(w:M):(Go.method 424 220 (Ag #[h]) "Kind").run prog w= .ok (227,h) w:=Kr
theorem abz(w:M):((ReflectliteType.abiMethod fun t=>(fun a:Nat=>Value.int IntKind.u8 (a:Int)) <$> Rtype.kind t) #[Po (U (D 19 157 Z))]).run prog w= .ok (I .u8 22) w:=Kr
theorem aby(w:M):((ReflectliteType.abiMethod fun t=>(fun a:Nat=>Value.int IntKind.u8 (a:Int)) <$> Rtype.kind t) #[Po (U (D 19 155 Z))]).run prog w= .ok (I .u8 25) w:=Kr
theorem Yt(z:Sem Vv)(f:TypeId->Ad->Nat->Nat->Sem Vv)(v:Vv):
 ReflectliteValue.method z f #[v]=(do match<-ReflectliteValue.parts v with|none=>z|some (t,a,fl)=>f t a fl (fl%32)):=X
theorem St(a:Ad)(w:M):(ReflectliteValue.parts (Ag #[Po (U (D 19 157 Z)),Po (U a),I .u64 150])).run prog w= .ok (U (157,a,150)) w:=Kr
theorem abw(a p:Ad)(W:M)(ha:W.cell? a=U (Po (U p))):(ReflectliteValue.method (ReflectliteValue.valueError "reflectlite.Value.IsNil" 0) ReflectliteValue.isNil #[(Ag #[Po (U (D 19 157 Z)),Po (U a),I .u64 150])]).run prog W= .ok (Bo false) W:=by
 rw[Yt];simp only[Cu,St,Result.andThen];simp[ReflectliteValue.isNil,loadVar,isAgg,underlying,underlying157,ha,Result.andThen]
theorem abC(h:Vv)(w:M):(Go.method 424 220 (Ag #[h]) "Elem").run prog w= .ok (238,Ag #[h]) w:=Kr
theorem abD(h:Vv)(w:M):(Go.method 424 220 (Ag #[h]) "Implements").run prog w= .ok (239,Ag #[h]) w:=Kr
theorem abB(h:Vv)(w:M):(Go.method 424 220 (Ag #[h]) "AssignableTo").run prog w= .ok (236,Ag #[h]) w:=Kr
theorem abc(w:M):(ReflectliteType.method ReflectliteType.elem #[Ag #[Po (U (D 19 157 Z))]]).run prog w= .ok (If 220 (Ag #[Po (U (D 19 155 Z))])) w:=Kr
theorem abk(w:M):(ReflectliteType.relation "Implements" ReflectliteType.implements_ #[Ag #[Po (U (D 19 155 Z))],(If 220 (Ag #[Po (U (D 19 85 Z))]))]).run prog w= .ok (Bo true) w:=Kr
theorem abP(v:Vv)(w:M):(ReflectliteType.typeOf #[If 155 v]).run prog w= .ok (If 220 (Ag #[Po (U (D 19 155 Z))])) w:=Kr
theorem aaW(w:M):(ReflectliteType.relation "AssignableTo" ReflectliteType.assignableTo #[Ag #[Po (U (D 19 155 Z))],(If 220 (Ag #[Po (U (D 19 155 Z))]))]).run prog w= .ok (Bo true) w:=Kr
theorem abS(p:Int)(u:Vv)(w:M):(ReflectliteValue.unpack (If 155 (Ag #[I J p,u]))).run prog w
 = .ok (Ag #[Po (U (D 19 155 Z)),Po (U (D w.heap.size 0 Z)),I .u64 153]) (w.alloc (C #[I J p,u] 155)):=Kr
theorem abb(w:M):(Rtype.elem? 157).run prog w= .ok (U 155) w:=Kr
theorem abF(p:Ad)(w:M):(ReflectliteValue.mk 155 p ReflectliteValue.flagAddr).run prog w= .ok (Ag #[Po (U (D 19 155 Z)),Po (U p),I .u64 409]) w:=Kr
theorem abd(a p:Ad)(W:M)(ha:W.cell? a=U (Po (U p))):(ReflectliteValue.method (ReflectliteValue.valueError "reflectlite.Value.Elem" 0) ReflectliteValue.elem #[(Ag #[Po (U (D 19 157 Z)),Po (U a),I .u64 150])]).run prog W= .ok (Ag #[Po (U (D 19 155 Z)),Po (U p),I .u64 409]) W:=by
 rw[Yt];simp only[Cu,St,Result.andThen];simp[ReflectliteValue.elem,loadVar,isAgg,underlying,underlying157,ha,Result.andThen,abb,abF]
theorem abJ(a:Ad)(w:M):(ReflectliteValue.parts (Ag #[Po (U (D 19 155 Z)),Po (U a),I .u64 409])).run prog w= .ok (U (155,a,409)) w:=Kr
theorem abI(a:Ad)(w:M):(ReflectliteValue.parts (Ag #[Po (U (D 19 155 Z)),Po (U a),I .u64 153])).run prog w= .ok (U (155,a,153)) w:=Kr
theorem aba(w:M):(Rtype.directlyAssignable 155 155).run prog w= .ok true w:=Kr
theorem Su:(prog.info? 155).map (·.size)=U 2:=Kr
theorem abM(g b:Nat)(p:Int)(u o1 o2:Vv)(W:M)(hb:W.heap[b]? =U (C #[I J p,u] 155 (0,0)))(qH:u.oneCell'=true)(hg:W.heap[g]? =U (C #[o1,o2] 155 (0,0))):(ReflectliteValue.set #[Ag #[Po (U (D 19 155 Z)),Po (U (D g 0 Z)),I .u64 409],Ag #[Po (U (D 19 155 Z)),Po (U (D b 0 Z)),I .u64 153]]).run prog W= .ok (Tu #[]) (W.setRow g #[I J p,u]):=by
 have hl:=run_loadVar_row (P:=prog) W b _ 155 _ _ _ hb underlying155 X Su;have hs:=run_storeVar_row (P:=prog) W g _ 155 _ #[I J p,u] hg Su X (by rw[Array.all_eq_true_iff_forall_mem];intro v hv;simp at hv;rcases hv with rfl|rfl;exact X;exact qH);have e:ReflectliteValue.set #[Ag #[Po (U (D 19 155 Z)),Po (U (D g 0 Z)),I .u64 409],Ag #[Po (U (D 19 155 Z)),Po (U (D b 0 Z)),I .u64 153]]=bind (ReflectliteValue.parts (Ag #[Po (U (D 19 155 Z)),Po (U (D g 0 Z)),I .u64 409])) (fun p=>bind (ReflectliteValue.parts (Ag #[Po (U (D 19 155 Z)),Po (U (D b 0 Z)),I .u64 153])) _):=X;rw[e];simp only[Cu,abJ,abI,Result.andThen];simp[ReflectliteValue.flagAddr,hl,Result.andThen,aba,hs]
theorem ack(p:Int)(u o1 o2:Vv)(g:Nat)(w:M)(qH:u.oneCell'=true)(hg:w.cell? (D 13 0 Z)=U (If 220 (Ag #[Po (U (D 19 85 Z))])))(ht:w.heap[g]? =U (C #[o1,o2] 155 (0,0))):Cs prog 79 #[If 155 (Ag #[I J p,u]),If 157 (Po (U (D g 0 Z)))] w fun ev w'=>ev=Rt (Bo true)/\H g w w'/\w'.cell? (D g 0 Z)=U (I J p):=by
 have h6:= @sq prog 118 _ (fun args=>ReflectliteValue.unpack (args.getD 0 (Tu #[]))) func118 Kr Kr Kr Kr;have h7:= @sq prog 119 _ (ReflectliteValue.methodAny (ReflectliteValue.valueError "reflectlite.Value.Type" 0) (fun t _ _ _=>ReflectliteType.toType t)) func119 Kr Kr Kr Kr;have h8:= @sq prog 120 _ (ReflectliteValue.method (ReflectliteValue.valueError "reflectlite.Value.IsNil" 0) ReflectliteValue.isNil) func120 Kr Kr Kr Kr;have h27:= @sq prog 227 _ (ReflectliteType.abiMethod fun t=>do pure (I .u8 (<-Rtype.kind t))) func227 Kr Kr Kr Kr;have h37:= @sq prog 238 _ (ReflectliteType.method ReflectliteType.elem) func238 Kr Kr Kr Kr;have h38:= @sq prog 239 _ (ReflectliteType.relation "Implements" ReflectliteType.implements_) func239 Kr Kr Kr Kr;have bG:= @sq prog 90 _ ReflectliteType.typeOf func90 Kr Kr Kr Kr;have h35:= @sq prog 236 _ (ReflectliteType.relation "AssignableTo" ReflectliteType.assignableTo) func236 Kr Kr Kr Kr;have fZ:= @sq prog 164 _ (ReflectliteValue.method (ReflectliteValue.valueError "reflectlite.Value.Elem" 0) ReflectliteValue.elem) func164 Kr Kr Kr Kr;have fC:= @sq prog 165 _ ReflectliteValue.set func165 Kr Kr Kr Kr;have tO:=abP;have mA:=abB;have aF:=aaW;have vF:=abS p u;have f6:=abT;have f7:=abQ;have mK:=abE;have mE:=abC;have mI:=abD;have kP:=abz;have kF:=aby;have eP:=abc;have iF:=abk;have dZ:=eb ht;have aA:=lc hg;have n8:=abw (D w.heap.size 0 Z) (D g 0 Z) ((w.alloc (C #[Po (U (D g 0 Z))] 157)).alloc (C #[Po (U (D 19 157 Z)),Po (U (D w.heap.size 0 Z)),I .u64 150] 203)) Sq;have AC:((w.alloc (C #[Po (U (D g 0 Z))] 157)).alloc (C #[Po (U (D 19 157 Z)),Po (U (D w.heap.size 0 Z)),I .u64 150] 203)).cell? (D 13 0 Z)=U (If 220 (Ag #[Po (U (D 19 85 Z))])):=by rw[Mw _ _ (D 13 0 Z) So,Mw _ _ (D 13 0 Z) aA];exact hg
 have el:=abd (D w.heap.size 0 Z) (D g 0 Z) (((w.alloc (C #[Po (U (D g 0 Z))] 157)).alloc (C #[Po (U (D 19 157 Z)),Po (U (D w.heap.size 0 Z)),I .u64 150] 203)).alloc (C #[Po (U (D 19 157 Z)),Po (U (D w.heap.size 0 Z)),I .u64 150] 203)) (by rw[Mw _ _ (D w.heap.size 0 Z) So];simp);have vK:((((w.alloc (C #[Po (U (D g 0 Z))] 157)).alloc (C #[Po (U (D 19 157 Z)),Po (U (D w.heap.size 0 Z)),I .u64 150] 203)).alloc (C #[Po (U (D 19 157 Z)),Po (U (D w.heap.size 0 Z)),I .u64 150] 203)).alloc (C #[I J p,u] 155)).heap[g]? =U (C #[o1,o2] 155 (0,0)):=by rw[nr _ _ _ So,nr _ _ _ So,nr _ _ _ So,nr _ _ _ dZ];exact ht
 have st:=abM g (w.heap.size+1+1+1) p u o1 o2 ((((w.alloc (C #[Po (U (D g 0 Z))] 157)).alloc (C #[Po (U (D 19 157 Z)),Po (U (D w.heap.size 0 Z)),I .u64 150] 203)).alloc (C #[Po (U (D 19 157 Z)),Po (U (D w.heap.size 0 Z)),I .u64 150] 203)).alloc (C #[I J p,u] 155)) (by have:=bl (((w.alloc (C #[Po (U (D g 0 Z))] 157)).alloc (C #[Po (U (D 19 157 Z)),Po (U (D w.heap.size 0 Z)),I .u64 150] 203)).alloc (C #[Po (U (D 19 157 Z)),Po (U (D w.heap.size 0 Z)),I .u64 150] 203)) (C #[I J p,u] 155);simpa using this) qH vK;have aaq:=ax vK;clear vK ht qH;go_enter func79,ntmps79;go_wp2;refine rh 1 ?_;rw[js];go_wp2;go_ret;refine⟨X,acN ?_ (Nat.le_refl g) _,?_⟩;·exact((((cm g w).alloc O _).alloc So _).alloc So _).alloc So _
 rw[cell_setRow_same _ _ _ _ _ _ _ aaq.out];rfl
theorem Ye(w:M):Cs prog 48 #[.nilIface] w fun e w'=>e=Rt (I J 0)/\Bw w w':=by
 have HA:=acl;go_enter func48,ntmps48;go_wp2_with fail;refine(HA _ _).mono ?_;rintro e w1 ⟨rfl,rfl⟩;go_wp2;go_ret;exact⟨X,Be⟩
theorem Pr(p:Int)(u:Vv)(w:M)(qH:u.oneCell'=true)(hg:w.cell? (D 13 0 Z)=U (If 220 (Ag #[Po (U (D 19 85 Z))]))):Cs prog 48 #[ml p u] w fun e w'=>e=Rt (I J p)/\Bw w w':=by
 have aA:=lc hg;have HA:Hi (∀o1 o2,Cs prog 79 #[If 155 (Ag #[I J p,u]),If 157 (Po (U (D w.heap.size 0 Z)))] (w.alloc (C #[o1,o2] 155)) fun ev w'=>ev=Rt (Bo true)/\H w.heap.size (w.alloc (C #[o1,o2] 155)) w'/\w'.cell? (D w.heap.size 0 Z)=U (I J p)):=fun o1 o2=>ack p u o1 o2 w.heap.size _ qH (by rw[Mw _ _ (D 13 0 Z) aA];exact hg) (bl w _);unfold ml;clear hg qH;go_enter func48,ntmps48;go_wp2_with fail;refine(HA _ _).mono ?_;rintro e w1 ⟨rfl,hb1,j6⟩;have aC:Hi (Bw w w1):=(Be).trans hb1;have i9:=bp j6;simp only at i9;clear hb1;go_wp2;go_ret;exact⟨X,aC⟩
end
section
theorem aiR:ee uS/\Ar uS:=Kg (by decide+kernel)
theorem aiQ:ky uS:=Kk (by decide+kernel)
theorem ahL{E1 E2:bj}(hr:ee E1.s)(hs:E2.s=E1.s)(hd:E2.d=E1.d)(e1:mo E1)(e2:mo E2){f1 f2:Nat}(aA:root<E1.s.length){v1 v2:Except (Int×Int) (Ls Vl)}(r1:jh E1 f1 root=U v1)(r2:jh E2 f2 root=U v2):v1=v2:=by
 have ah:=Vy hr hs hd e1 e2;unfold jh at r1 r2;rw[hd]at r2;have key:∀{E:bj} {f k:Nat} {v:Except (Int×Int) (Ls Vl)},bz.andThen (cd E f root 0 E1.d.size 1) (fun vs z=>if z<E1.d.size then U (.error (7,z))else U (.ok vs))=U v->bz.andThen (cd E (f+k) root 0 E1.d.size 1) (fun vs z=>if z<E1.d.size then U (.error (7,(z:Int)))else U (.ok vs))=U v:=fun {E f k v} h=>bz.andThen_le (fun u hu=>Pt k f _ _ _ _ _ hu) (fun _ _ _ q=>q) h;have a1:=key (k:=f2) r1;have a2:=key (k:=f1) r2;have I6:=Kc ah (f2+f1) root aA;rw[id]at I6;rw[I6,Cj f2 f1,a1]at a2;exact dd a2
theorem ahJ{E:bj}(h:jh E f root=U (.ok vs)):∃z,cd E f root 0 E.d.size 1=U (.ok (vs,z))/\¬z<E.d.size:=by
 unfold jh at h;rcases mg h with⟨u,_,h2⟩|⟨us,z,h1,h2⟩;·cases h2
 split at h2;·cases h2
 rename_i q;cases h2;exact⟨z,h1,q⟩
theorem agh{E:bj}(hs:E.s=lS)(hE:mo E)(h:jh E f 0=U (.ok vs)):E.d.size<=4000:=by
 obtain⟨z,h1,hz⟩:=ahJ h;have EX:0<E.s.length:=by rw[hs];decide
 have hr:ee E.s:=by rw[hs];exact Jf.1
 have hl:=xh hr.fine EX h1;obtain rfl:z=E.d.size:=O;have hB:Cd E ⟨E.s,vs,E.ok⟩:=⟨X,hr,hE.bg,hE.ok,hE.ok,hE.dv⟩;have hw:=Ft hB f 0 0 E.d.size 1 vs E.d.size EX h1 Ln 0 ⟨[],[],Sq,X⟩;have ha:=(Hk _ _ _ _ _ hw _ _ _ X).2.2;rw[Rb]at ha;have hR:Rd E 0 vs:=⟨f,0,_,1,_,h1⟩;obtain⟨us,rfl,sJ⟩:=hR.seq (by rw[hs];rfl);rw[hs]at sJ;have h0:=sJ;have q0:=Zc hE (i:=0) EX (by rw[hs];exact uK ..) h0 X (by rw[hs];decide) (by rw[hs];decide) (by rw[hs];decide);rw[hs]at q0;obtain⟨t,b,rfl,c1,h2⟩:=q0;have LA:=((Bc t).2 c1).1;obtain⟨a,b',rfl,hh,hn⟩:=h2;cases hn;have bX:∃k u x y,a=[⟨k,u,x,y⟩]/\u.size<=20:=by
  rcases hh with hh|⟨_,rfl⟩|⟨q,_⟩;·obtain⟨u,e1,e2⟩:=hh.leaf (by rw[hs];decide);rw[hs]at e1 e2;have:=(xd u).2 ((hE.ok _ _).1 e2);exact⟨_,u,_,_,e1,this.2.1⟩
  ·exact⟨_,_,_,_,X,Dc⟩
  cases q
 obtain⟨k,u,x,y,rfl,hu⟩:=bX;unfold pz at ha;simp at ha;have e0:az.size=0:=X;omega
theorem agf{E:bj}(hs:E.s=lS)(hE:mo E){v:Except (Int×Int) (Ls Vl)}(h:jh E (42*E.d.size+41) 0=U v):(∃vs,v= .ok vs)↔xy E.d:=by
 constructor;·rintro⟨vs,rfl⟩;have:=agh hs hE h;exact⟨E,vs,.inr (.inr ⟨⟨Jf.1,Dc,Dc⟩,this,hs,X,hE,_,O,h⟩)⟩
 rintro⟨E',vs,q|q|⟨_,_,JJ,yF,ID,f,_,hv⟩⟩;·cases q.2
 ·cases q.2.2
 exact⟨vs,ahL (E1:=E) (E2:=E') (by rw[hs];exact Jf.1) (by rw[JJ,hs]) yF hE ID (by rw[hs];decide) h hv⟩
theorem aiT{E:bj}(hs:E.s=uS)(hE:mo E){v:Except (Int×Int) (Ls Vl)}(h:jh E (f+1) 0=U v):(∃vs,v= .ok vs)↔uM E.d:=by
 have hn:nd E.s 0=⟨5, -1,0,[]⟩:=by rw[hs];rfl
 have hH:E.hd 0 E.d.size=hd E.d:=by unfold bj.hd;rw[Oj]
 have cG:uM E.d↔((hd E.d).1=0/\((hd E.d).2.c,(hd E.d).2.n,(hd E.d).2.b)=((0:Int),(3:Int),false)/\(hd E.d).2.s+(hd E.d).2.l=E.d.size)/\bu 5 (E.d.extract (hd E.d).2.s.toNat E.d.size):=by
  unfold uM;constructor;·rintro⟨u,hu⟩;have q:=(uv (fun _=>rfl) (.inl X)).1 hu;rw[Ow Dc X,Gw]at q;obtain⟨⟨q1,rfl⟩,q2⟩:=q;exact⟨q1,q2⟩
  rintro⟨q1,q2⟩;refine⟨E.d.extract (hd E.d).2.s.toNat E.d.size,(uv (fun _=>rfl) (.inl X)).2 ⟨?_,q2⟩⟩;rw[Ow Dc X,Gw];exact⟨q1,X⟩
 rw[cG];unfold jh at h;rw[cd,hH]at h;by_cases h0:(hd E.d).1≠0;·rw[ba h0]at h;cases h;exact⟨fun q=>(by obtain⟨_,q⟩:=q;cases q),fun q=>Ab q.1.1 h0⟩
 rw[G h0]at h;have nP:=Classical.not_not.1 h0;have k1:=pq nP;have k2:=Jb nP;have jP:((fk 0 (hd E.d).2:Nat):Int)=(hd E.d).2.s+(hd E.d).2.l:=by unfold fk;omega
 unfold lr at h;rw[hn]at h;rw[ba Dc]at h;unfold fc at h;rw[G Dc]at h;by_cases hc:(hd E.d).2.c=0/\(hd E.d).2.n=3/\(hd E.d).2.b=false
 ·rw[G (fun q=>q.2 ⟨hc.1,hc.2.1,hc.2.2⟩),G Dc,G Dc,G Dc,G Dc]at h;rw[ly]at h;by_cases hl:fk 0 (hd E.d).2<E.d.size
  ·refine⟨?_,fun q=>O⟩;rintro⟨vs,rfl⟩;exfalso;split at h;(·unfold bz.andThen at h;simp only at h;rw[ba hl]at h;cases h);cases h
  have e:fk 0 (hd E.d).2=E.d.size:=O;rw[e]at h;by_cases ho:E.ok 5 (E.d.extract (hd E.d).2.s.toNat E.d.size)=true;·rw[ba ho]at h;unfold bz.andThen at h;simp only at h;rw[G (Ep _)]at h;cases h;exact⟨fun _=>⟨⟨nP,by rw[hc.1,hc.2.1,hc.2.2],O⟩,(hE.ok _ _).1 ho⟩,fun _=>⟨_,X⟩⟩
  rw[G ho]at h;cases h;exact⟨fun q=>(by obtain⟨_,q⟩:=q;cases q),fun q=>Ab ((hE.ok _ _).2 q.2) ho⟩
 rw[ba ⟨Dc,fun q=>hc ⟨q.1,q.2.1,q.2.2⟩⟩]at h;cases h;exact⟨fun q=>(by obtain⟨_,q⟩:=q;cases q),fun q=>by have q2:=q.1.2.1;injection q2 with a q2;injection q2 with b c;exact Ab ⟨a,b,c⟩ hc⟩
theorem acP(s:Ls Nd)(b:Q)(hr:ee s)(hl:0<s.length):∃E v,E.s=s/\E.d=b/\mo E/\jh E (42*b.size+41) 0=U v/\∀k q,v= .error (k,q)->k≠0:=by
 obtain⟨E,hs,hd,hE⟩:=Oi s b hr;obtain⟨o,ho⟩:=Bp (E:=E) (by rw[hs];exact hr.fine) (42*b.size+41) 0 0 b.size 1 [] (by rw[hs];exact hl) (Way.nil _ _) (by simp only[lx];omega);have aI:=yu _ _ _ _ _ _ ho
 cases o with
 |error u=>
  refine⟨E,.error u,hs,hd,hE,by unfold jh;rw[hd,ho];rfl,fun k q e=>?_⟩
  cases e
  exact aI _ _ X
 |ok u=>
  obtain⟨vs,z⟩:=u
  by_cases hz:z<b.size
  ·exact⟨E,.error (7,z),hs,hd,hE,by unfold jh;rw[hd,ho];unfold bz.andThen;simp only;rw[ba hz],fun k q e=>by cases e;decide⟩
  ·exact⟨E,.ok vs,hs,hd,hE,by unfold jh;rw[hd,ho];unfold bz.andThen;simp only;rw[G hz],fun k q e=>by cases e⟩
end
section
open Go.Proofs.Tryz
open Go.RowKit
theorem Gd(z:Int)(w:M):Cs prog 17 #[I J z] w fun e w'=>e=Rt (I J z)/\w'=w:=by
 go_enter func17,ntmps17;go_wp2;go_ret;exact⟨X,X⟩
theorem adg(s:Ls Nd)(a:Oo Ad)(c:Nat)(w:M)(sn:Sn->Ad)(za:Ad)(hl:gy w sn)(hz:kv w sn za)(hs:ew w a s)(hok:ky s)(hn:s.length*48<=140737488351232)(lZ:∀i,i<s.length->(nd s i).kids.length*32<=140737488351232):Cs prog 3 #[S a s.length c] w fun e w'=>e=Rt (Bo true)/\Bw w w':=by
 have BC:Hi (Cs prog 13 #[S a s.length c] w fun e w'=>∃eJ,e=Rt eJ/\rj s w w' s.length eJ):=Nx s a c w hs hn lZ;have HL:Hi (gy w sn):=hl;have HZ:Hi (kv w sn za):=hz;have HS:Hi (ew w a s):=hs;have dQ:Hi (ky s):=hok;have fA:s.length<=140737488351232:=O;have xG:Hi (∀(z:Int) (wq:M),Cs prog 17 #[I J z] wq fun e w'=>e=Rt (I J z)/\w'=wq):=Gd;clear hl hz hs hok lZ;go_enter func3,ntmps3;go_wp2_with fail;refine BC.mono ?_;rintro e w1 ⟨eJ,rfl,i6⟩;have aC:Hi (Bw w w1):=i6.bel;obtain⟨a2,c2,rfl,mD⟩:=i6.sch;have o5:Hi (ew w1 a2 s):=mD;have rX:Hi (Cs prog 14 #[S a2 s.length c2] w1 fun e w'=>Ry s w1 e w'):=aek s a2 c2 w1 sn za (HL.below aC) (HZ.below aC) mD dQ fA;clear i6 mD;go_wp2_with fail;refine rX.mono ?_;rintro e w2 ⟨hb2,h2⟩;have aD:Hi (Bw w1 w2):=hb2;have aR:Hi (Bw w w2):=Tm aC hb2;have GO:Hi (Cs prog 15 #[S a s.length c] w2 fun e w'=>dw (ee s) w2 e w'):=Pz s a c w2 (HS.below aR) dQ fA;clear hb2;obtain⟨z,r,rfl,JU⟩:∃(z:Int) (r:Bool),e=Rt (I J z)/\((r=true/\z=0/\ee s)\/(r=false/\z=1/\¬ee s)):=by
  rcases h2 with⟨rfl,h⟩|⟨rfl,h⟩;·exact⟨0,true,X,.inl ⟨X,X,h⟩⟩
  exact⟨1,false,X,.inr ⟨X,X,h⟩⟩
 clear h2;go_wp2_with fail;refine GO.mono ?_;rintro e w3 ⟨r',rfl,pE,hb3⟩;have aJ:Hi (Bw w1 w3):=Tm aD hb3;have aO:Hi (Bw w w3):=Tm aR hb3;have zC:Hi (Cs prog 16 #[S a2 s.length c2,S a s.length c] w3 fun e w'=>dw True w3 e w'):=My s a2 a c2 c w3 (o5.below aJ) (HS.below aO) fA;have hrr:r'=r:=by
  rcases JU with⟨rfl,_,h⟩|⟨rfl,_,h⟩;·exact pE.2 h
  cases r';·rfl
  exact Ab (pE.1 X) h
 subst hrr;have bL:(r'=true/\z=0)\/(r'=false/\z=1):=by
  rcases JU with⟨h1,h2,_⟩|⟨h1,h2,_⟩;·exact .inl ⟨h1,h2⟩
  exact .inr ⟨h1,h2⟩
 clear hb3 pE JU;go_wp2_with fail;refine zC.mono ?_;rintro e w4 ⟨r4,rfl,mC,hb4⟩;obtain rfl:r4=true:=mC.2 trivial;have bB:Hi (Bw w w4):=Tm aO hb4;clear hb4 mC;rcases bL with⟨rfl,rfl⟩|⟨rfl,rfl⟩;·go_wp2;go_ret;exact⟨X,bB⟩
 go_wp2_with fail;refine(xG _ _).mono ?_;rintro e w5 ⟨rfl,rfl⟩;go_wp2;go_ret;exact⟨X,bB⟩
end
