/-
Several texts in one.
-/
import Derived.Test.YtkkicodfpekbgaaGreatDoorJf0
import Derived.Test.YtkkicodfpekbgaaGreatDoorJf2
import Derived.Test.YtkkicodfpekbgaaGreatDoorJf1
import Derived.Test.YtkkicodfpekbgaaGreatDoorJf5
import Derived.Test.YtkkicodfpekbgaaGreatDoorJd5
open Go.Value renaming int->I,string->Y,slice->S,pointer->Po,bool->Bo,agg->Ag,tuple->Tu,iface->If
open Go.IntKind renaming i64->J
open Go.Obj renaming cells->C
open Go.Ending renaming returned->Rt
open Option renaming some->U,none->Z
open Go renaming World->M,Calls->Cs,Addr->Ad,Value->Vv
open _root_ renaming ByteArray->Q,Option->Oo,List->Ls
open Go.RowKit renaming Below->H,intOf->Io,Hid->Hi
open Go.World renaming cell?->Wc,frozen?->Wf
open UInt8 renaming ofNat->Uo
open Go.Addr renaming mk->D
set_option linter.unusedSimpArgs false
set_option linter.unusedVariables false
set_option maxRecDepth 100000
set_option maxHeartbeats 8000000
namespace Go.Proofs.YtkkicodfpekbgaaGreatDoor
theorem Dz{E:dF}{rec:mB}{m:Nat}{n:Nd}{cl nu:Int}{v:Vl}{x:Nat}{dp:Int}(hok:∀k t,E.ok k t=true↔aR k t)(hv:v.kind=n.kind)(h:¬gW n v):dO E rec m n cl nu v x dp=U Z:=by
 unfold gW at h;have h':=fun q=>h ⟨hv,q⟩;clear h;unfold dO;by_cases h13:n.kind=13
 ·rw[aG h13]at h' ⊢;rw[G h']
 rw[G h13]at h' ⊢;by_cases h14:n.kind=14
 ·rw[aG h14]at h' ⊢;rw[G h']
 rw[G h14]at h' ⊢;by_cases h10:n.kind=10
 ·rw[aG h10]at h' ⊢;rw[G h']
 rw[G h10]at h' ⊢;by_cases h12:10<=n.kind/\n.kind<=12
 ·rw[aG h12]at h' ⊢;rw[G h']
 rw[G h12]at h' ⊢;rw[G (by rw[hok];exact h')]
theorem Gx{E:dF}{f i x:Nat}{dp:Int}(hok:∀k t,E.ok k t=true↔aR k t)(h:¬(x<E.t.length/\dp<=12/\gW (nd E.s i) (vl E.t x))):wrF E (f+1) i x dp=U Z:=by
 rw[wrF];split
 ·rename_i q;rw[Dz hok q.2.1 (fun hf=>h ⟨q.1,q.2.2,hf⟩)];rfl
 rfl
theorem ES{E:dF}{f i x:Nat}{dp:Int}(h1:x<E.t.length)(h2:dp<=12)(h3:gW (nd E.s i) (vl E.t x)):wrF E (f+1) i x dp=cP.andThen (dO E (wrF E f) f (nd E.s i) (nl (nd E.s i)) (np (nd E.s i)) (vl E.t x) (x+1) dp) fun b x' u=>U (U (if(nd E.s i).mode=1 then eN 2 true (nd E.s i).tag b else b,x',u)):=by rw[wrF,aG ⟨h1,h3.1,h2⟩]
theorem oP{s:Ls Nd}(h:cd s){i:Nat}(hi:i<s.length):0<=nl (nd s i)/\nl (nd s i)<=3/\0<=np (nd s i)/\np (nd s i)<=30:=by
 have hk:=fu h.2.2.1 i hi;have ht:=(kO h.2.2.1 i hi).2.1;unfold nl np;split
 ·rename_i q;omega
 refine⟨Dc,Dc,?_⟩;unfold jd;split
 ·omega
 obtain⟨k,hkk⟩:∃k,(nd s i).kind=k:=Ey;rw[hkk]at hk ⊢;obtain rfl|rfl|rfl|rfl|rfl|rfl|rfl|rfl|rfl|rfl|rfl|rfl:k=1\/k=2\/k=3\/k=4\/k=5\/k=6\/k=7\/k=8\/k=9\/k=10\/k=11\/k=12:=O;all_goals decide
def we(n:Nd)(t:Q):Q:=if n.mode=1 then eN 2 true n.tag (eN (nl n) false (np n) t)else eN (nl n) false (np n) t
theorem od{n:Nd}(h:n.kind<=12):(nl n,np n)=n.ownT:=by
 unfold nl np Nd.ownT jd;by_cases q:n.mode=0/\0<=n.tag
 ·rw[aG ⟨q.2,q.1⟩,aG ⟨q.2,q.1⟩,aG q]
 rw[G (fun z=>q ⟨z.2,z.1⟩),G (fun z=>q ⟨z.2,z.1⟩),G q,G O]
theorem ry{c:Int}{b:Bool}{n:Int}{fs:Ls (Int×Int×Bool)}{t:Q}(q1:0<=c)(q2:c<=3)(q3:0<=n)(q4:n<=30)(ht:t.size<=16777215):eS ((c,n,b)::fs) (eN c b n t)=eS fs t:=by
 have h:=FZ c b n t q1 q2 q3 q4 ht;have hz:=m5 c b n t;show(if _ then _ else Z)=_;rw[h];rw[aG ⟨X,X,by simp only;omega⟩];simp only;rw[CE]
theorem kN{f:Int×Int×Bool}{fs:Ls (Int×Int×Bool)}{d u:Q}(h:eS (f::fs) d=U u):∃d',d=eN f.1 f.2.2 f.2.1 d'/\eS fs d'=U u/\d'.size<=16777215:=by
 obtain⟨⟨h1,h2,h3⟩,h4⟩:=y8.1 h;obtain⟨e,_,_,_,_,e2,e3⟩:=yf h1 h3;refine⟨_,?_,h4,O⟩;rw[<-h2];exact e
theorem zJ{c c':Int}{b b':Bool}{n n':Int}{s t:Q}(h:(eN c b n s).size=(eN c' b' n' t).size):s.size=t.size:=by
 have h1:=m5 c b n s;have h2:=m5 c' b' n' t;rcases cnt_cases s.size with q|q|q|q<;>rcases cnt_cases t.size with q'|q'|q'|q'<;>omega
theorem sJ{s:Ls Nd}{i:Nat}(hr:cd s)(hi:i<s.length)(hk:(nd s i).kind<=9){d u t:Q}(hu:cu (nd s i) d u):we (nd s i) t=d↔t=u:=by
 obtain⟨hk1,_,hT1,hT2,hT3,hT4,hT5⟩:=dE hr hi;obtain⟨b1,b2,b3,b4⟩:=oP hr hi;have hw:=od (n:=nd s i) O;generalize nd s i=N at*;have hmode:N.mode=0\/N.mode=1:=O;have htm:N.tag<0->N.mode=0:=fun q=>hT3 O;have hst:eS N.lays d=U u:=((fE htm hmode).1 hu).1;have hl:N.lays=if N.mode=1 then [(2,N.tag,true),(nl N,np N,false)]else [(nl N,np N,false)]:=by unfold Nd.lays;rw[<-hw]
 rw[hl]at hst;unfold we;by_cases hm:N.mode=1
 ·have htg:0<=N.tag:=by
   by_cases q:N.tag<0
   ·have:=htm q;omega
   omega
  rw[aG hm]at hst ⊢;constructor
  ·rintro rfl;obtain⟨d1,e1,_,z1⟩:=kN hst;have z2:=zJ (dj ByteArray.size e1);have z3:=m5 (nl N) false (np N) t;have z4:=cnt_cases t.size;rw[ry Dc Dc htg O O,ry b1 b2 b3 b4 O]at hst;injection hst
  rintro rfl;obtain⟨d1,e1,h1,_⟩:=kN hst;obtain⟨d2,e2,h2,_⟩:=kN h1;injection h2 with h2;rw[e1,e2,h2]
 rw[G hm]at hst ⊢;constructor
 ·rintro rfl;obtain⟨d1,e1,_,z1⟩:=kN hst;have z2:=zJ (dj ByteArray.size e1);rw[ry b1 b2 b3 b4 O]at hst;injection hst
 rintro rfl;obtain⟨d2,e2,h2,_⟩:=kN hst;injection h2 with h2;rw[e2,h2]
theorem kS{E:dF}{f i x:Nat}{dp:Int}(hk1:1<=(nd E.s i).kind)(hk9:(nd E.s i).kind<=9):wrF E (f+1) i x dp=if(x<E.t.length/\(vl E.t x).kind=(nd E.s i).kind/\dp<=12)/\E.ok (nd E.s i).kind (vl E.t x).text=true/\(vl E.t x).alt=0/\(vl E.t x).kids=0 then U (U (we (nd E.s i) (vl E.t x).text,x+1,false))else U Z:=by
 rw[wrF];by_cases q:x<E.t.length/\(vl E.t x).kind=(nd E.s i).kind/\dp<=12
 ·rw[aG q];unfold dO;rw[G O,G O,G O,G O];by_cases q2:E.ok (nd E.s i).kind (vl E.t x).text=true/\(vl E.t x).alt=0/\(vl E.t x).kids=0
  ·rw[aG q2,aG ⟨q,q2⟩];rfl
  rw[G q2,G (fun z=>q2 z.2)];rfl
 rw[G q,G (fun z=>q z.1)]
theorem DB{E:dF}{f i x:Nat}{dp:Int}{b:Q}{x':Nat}{u:Bool}(h:wrF E f i x dp=U (U (b,x',u))):dp<=12:=by
 match f with
 |0=>cases h
 |f+1=>
  rw[wrF]at h
  split at h
  ·rename_i q;exact q.2.2
  ·cases h
def LO(E:dF)(k:Kd)(x:Nat):Prop:=x<E.t.length/\((k.opt=true/\vl E.t x=⟨15,bh,0,0⟩)\/(k.dflt.size≠0/\∃u,cu (nd E.s k.node.toNat) k.dflt u/\vl E.t x=⟨(nd E.s k.node.toNat).kind,u,0,0⟩))
theorem E9{n:Nd}{k:Kd}(hk:k∈n.kids):∃j,j<n.kids.length/\kd n j=k:=by
 obtain⟨j,hj,e⟩:=dN hk;refine⟨j,hj,?_⟩;unfold kd;rw[aB,aC hj,BM,e]
theorem uC{t:Q}(h:t.size=0):t=bh:=by
 apply bC;have:t.data.size=0:=h;exact BE this
theorem DD{E:dF}{f:Nat}{dp:Int}{k:Kd}{ks:Ls Kd}{x:Nat}{out:Q}{u:Bool}{r:cP}(hr:cd E.s)(hok:∀k t,E.ok k t=true↔aR k t){i:Nat}(hi:i<E.s.length)(hk:k∈(nd E.s i).kids)(hf:1<=f)(e:dP E (wrF E f) dp (k::ks) x out u=U r):(LO E k x/\dP E (wrF E f) dp ks (x+1) out u=U r)\/(¬LO E k x/\∀r1,wrF E f k.node.toNat x (dp+1)=U r1->(r1=Z/\r=Z)\/∃b x' u',r1=U (b,x',u')/\dP E (wrF E f) dp ks x' (out++b) (u||u')=U r):=by
 obtain⟨f,rfl⟩:∃g,f=g+1:=⟨f-1,O⟩;obtain⟨j,hj,hjk⟩:=E9 hk;have hKid:=(hr.2.2.1 i hi).2.2.2 j hj;have hDf:=(hr.2.2.2.2 i hi).2 j hj;rw[hjk]at hKid hDf;obtain⟨hn0,hn1,_,hod⟩:=hKid;have ht:k.node.toNat<E.s.length:=O;obtain⟨hk1,hk14,_⟩:=dE hr ht;unfold dP at e;by_cases q:k.opt=true/\x<E.t.length/\(vl E.t x).kind=15
 ·rw[aG q]at e;have hd0:¬k.dflt.size≠0:=fun z=>hod ⟨q.1,z⟩;by_cases q2:(vl E.t x).text.size=0/\(vl E.t x).alt=0/\(vl E.t x).kids=0
  ·rw[aG q2]at e;refine .inl ⟨⟨q.2.1,.inl ⟨q.1,?_⟩⟩,e⟩;have h1:=q.2.2;have h2:=uC q2.1;have h3:=q2.2.1;have h4:=q2.2.2;generalize vl E.t x=v at*;obtain⟨a,b,c,d⟩:=v;simp only at h1 h2 h3 h4;subst h1 h2 h3 h4;rfl
  rw[G q2]at e;refine .inr ⟨?_,fun r1 h1=> .inl ⟨?_,?_⟩⟩
  ·rintro⟨_,⟨_,h⟩|⟨h,_⟩⟩
   ·rw[h]at q2;exact q2 ⟨X,X,X⟩
   exact hd0 h
  ·rw[wrF,G (fun z=>by have:=z.2.1;omega)]at h1;injection h1 with h1;exact h1.symm
  injection e with e;exact e.symm
 rw[G q]at e;by_cases hd:k.dflt.size=0
 ·rw[aG hd]at e;refine .inr ⟨?_,fun r1 h1=>?_⟩
  ·rintro⟨h0,⟨h,h'⟩|⟨h,_⟩⟩
   ·exact q ⟨h,h0,by rw[h']⟩
   exact h hd
  rcases dg e with⟨h2,h3⟩|⟨b,x',u',h2,h3⟩
  ·rw[h2]at h1;injection h1 with h1;exact .inl ⟨h1.symm,h3⟩
  have hdp:=DB h2;rw[h2]at h1;injection h1 with h1;rw[G (fun z=>z.1 hd),G O]at h3;exact .inr ⟨b,x',u',h1.symm,h3⟩
 rw[G hd]at e;obtain⟨hk9,y,hy⟩:(nd E.s k.node.toNat).kind<=9/\∃u,cu (nd E.s k.node.toNat) k.dflt u:=by
  rcases hDf with h|h
  ·exact Ab h hd
  exact h
 have hno:¬k.opt=true:=fun z=>hod ⟨z,hd⟩;rw[kS hk1 hk9]at e;by_cases q3:(x<E.t.length/\(vl E.t x).kind=(nd E.s k.node.toNat).kind/\(1:Int)<=12)/\E.ok (nd E.s k.node.toNat).kind (vl E.t x).text=true/\(vl E.t x).alt=0/\(vl E.t x).kids=0
 ·rw[aG q3]at e;unfold cP.andThen at e;simp only at e;have hle:=sJ hr ht hk9 (t:=(vl E.t x).text) hy;by_cases q4:we (nd E.s k.node.toNat) (vl E.t x).text=k.dflt
  ·rw[aG ⟨hd,q4⟩,oj]at e;refine .inl ⟨⟨q3.1.1,.inr ⟨hd,y,hy,?_⟩⟩,e⟩;have h1:=q3.1.2.1;have h2:=hle.1 q4;have h3:=q3.2.2.1;have h4:=q3.2.2.2;generalize vl E.t x=v at*;obtain⟨a,b,c,d⟩:=v;simp only at h1 h2 h3 h4;subst h1 h2 h3 h4;rfl
  rw[G (fun z=>q4 z.2)]at e;refine .inr ⟨?_,fun r1 h1=>?_⟩
  ·rintro⟨h0,⟨h,_⟩|⟨_,y',hy',h'⟩⟩
   ·exact hno h
   have:=kG hy' hy;subst this;exact q4 (hle.2 (by rw[h']))
  rw[kS hk1 hk9]at h1;by_cases hdp:12<dp+1
  ·rw[aG hdp]at e;rw[G (fun z=>by have:=z.1.2.2;omega)]at h1;injection h1 with h1;injection e with e;exact .inl ⟨h1.symm,e.symm⟩
  rw[G hdp]at e;rw[aG ⟨⟨q3.1.1,q3.1.2.1,O⟩,q3.2⟩]at h1;injection h1 with h1;exact .inr ⟨_,_,_,h1.symm,e⟩
 rw[G q3]at e;refine .inr ⟨?_,fun r1 h1=> .inl ⟨?_,?_⟩⟩
 ·rintro⟨h0,⟨h,_⟩|⟨_,y',hy',h'⟩⟩
  ·exact hno h
  have hco:aR (nd E.s k.node.toNat).kind y':=by obtain⟨_,_,hT1,hT2,hT3,hT4,hT5⟩:=dE hr ht;exact((fE (fun z=>hT3 O) O).1 hy').2
  exact q3 ⟨⟨h0,by rw[h'],Dc⟩,by rw[h'];exact(hok _ _).2 hco,by rw[h'],by rw[h']⟩
 ·rw[kS hk1 hk9,G (fun z=>q3 ⟨⟨z.1.1,z.1.2.1,Dc⟩,z.2⟩)]at h1;injection h1 with h1;exact h1.symm
 injection e with e;exact e.symm
def BB(vt:Q):Q:=if eN 2 true 0 (eN 0 false 2 vt)=kR then bh else eN 2 true 0 (eN 0 false 2 vt)
def A9(t:Q):Q:=if eN 0 false 1 t=lB then bh else eN 0 false 1 t
def lU(q:Q×Q×Q):Q:=eN 0 true 16 (eN 0 false 6 q.1++A9 q.2.1++eN 0 false 4 q.2.2)
def nf(qs:Ls (Q×Q×Q)):Q:=qs.foldl (fun a q=>a++lU q) bh
def H5(o:Oo (Ls (Q×Q×Q))):Q:=
 match o with
 |none=>bh
 |some qs=>eN 2 true 3 (eN 0 true 16 (nf qs))
def CT.inner(c:CT):Q:=BB c.vt++eN 0 false 2 c.s++eN 0 false (if c.pr then 19 else 12) c.n++eN 0 true 16 (eN 0 false 24 c.ft++eN 0 false 24 c.tt)++eN 0 false 3 c.k++H5 c.ms
def CT.bytes(c:CT):Q:=eN 0 true 16 c.inner
theorem uB(t:Q):bh++t=t:=by
 apply bC;rw[eK];exact Array.empty_append
theorem py(t:Q):t++bh=t:=by
 apply bC;rw[eK];exact Array.append_empty
theorem iU{F:dF}(hok:∀k t,F.ok k t=true↔aR k t){f i x:Nat}{dp:Int}{n:Nd}(hn:nd F.s i=n)(h1:1<=n.kind)(h9:n.kind<=9){t:Q}(hx:x<F.t.length)(hv:vl F.t x=⟨n.kind,t,0,0⟩)(hd:dp<=12)(hc:aR n.kind t):wrF F (f+1) i x dp=U (U (we n t,x+1,false)):=by subst hn;rw[kS h1 h9,hv,aG ⟨⟨hx,X,hd⟩,(hok _ _).2 hc,X,X⟩]
theorem jY{F:dF}{rec:mB}{dp:Int}{k:Kd}{ks:Ls Kd}{x:Nat}{out:Q}{u:Bool}(ho:k.opt=false)(hd:k.dflt.size=0)(hdp:dp+1<=12){b:Q}{x':Nat}{u':Bool}(h:rec k.node.toNat x (dp+1)=U (U (b,x',u'))):dP F rec dp (k::ks) x out u=dP F rec dp ks x' (out++b) (u||u'):=by
 rw[dP,G (fun q=>by rw[ho]at q;cases q.1),aG hd,h];show(if _ then _ else if _ then _ else _)=_;rw[G (fun q=>q.1 hd),G O]
theorem Aj{F:dF}{rec:mB}{dp:Int}{k:Kd}{ks:Ls Kd}{x:Nat}{out:Q}{u:Bool}(ho:k.opt=false)(hd:k.dflt.size≠0)(hdp:dp+1<=12){b:Q}{x':Nat}{u':Bool}(h:rec k.node.toNat x 1=U (U (b,x',u'))):dP F rec dp (k::ks) x out u=dP F rec dp ks x' (out++if b=k.dflt then bh else b) (u||u'):=by
 rw[dP,G (fun q=>by rw[ho]at q;cases q.1),G hd,h];show(if _ then _ else if _ then _ else _)=_;by_cases q:b=k.dflt
 ·rw[aG ⟨hd,q⟩,aG q,py]
 rw[G (fun z=>q z.2),G O,G q]
theorem zi{F:dF}{f i x:Nat}{dp:Int}{kids:Ls Kd}(hn:nd F.s i=⟨10, -1,0,kids⟩)(hx:x<F.t.length)(hv:vl F.t x=⟨10,bh,0,(kids.length:Nat)⟩)(hd:dp<=12){b:Q}{x':Nat}{u:Bool}(h:dP F (wrF F f) dp kids (x+1) bh false=U (U (b,x',u))):wrF F (f+1) i x dp=U (U (eN 0 true 16 b,x',u)):=by
 rw[wrF,hn,hv,aG ⟨hx,X,hd⟩];unfold dO;rw[G (by show¬(10:Int)=13;decide),G (by show¬(10:Int)=14;decide),aG X,aG ⟨X,X,X⟩,h];rfl
theorem Es{F:dF}(hs:F.s=cS)(hok:∀k t,F.ok k t=true↔aR k t){f p:Nat}{q:Q×Q×Q}(hp:p+4<=F.t.length)(h0:vl F.t p=⟨10,bh,0,3⟩)(h1:vl F.t (p+1)=⟨4,q.1,0,0⟩)(h2:vl F.t (p+2)=⟨1,q.2.1,0,0⟩)(h3:vl F.t (p+3)=⟨6,q.2.2,0,0⟩)(c1:aR 4 q.1)(c2:aR 1 q.2.1):wrF F (f+1+1) 10 p 3=U (U (lU q,p+4,false)):=by
 have l1:=iU (f:=f) (i:=11) (dp:=4) hok (n:=⟨4, -1,0,[]⟩) (by rw[hs];rfl) Dc Dc O h1 Dc c1;have l2:=iU (f:=f) (i:=12) (dp:=1) hok (n:=⟨1, -1,0,[]⟩) (by rw[hs];rfl) Dc Dc O h2 Dc c2;have l3:=iU (f:=f) (i:=13) (dp:=4) hok (n:=⟨6, -1,0,[]⟩) (by rw[hs];rfl) Dc Dc O h3 Dc ((lL _).1 trivial);refine zi (kids:=[⟨11,false,bh⟩,⟨12,false,lB⟩,⟨13,false,bh⟩]) (by rw[hs];rfl) O h0 Dc ?_;rw[jY X X Dc l1,Aj X Dc Dc l2,jY X X Dc l3];unfold dP;rw[uB];rfl
theorem oN{a b:Ls Vl}{j:Nat}:vl (a++b) (a.length+j)=vl b j:=by unfold vl;rw[aB,bu O,Nat.add_sub_cancel_left,aB]
theorem wJ{F:dF}(hs:F.s=cS)(hok:∀k t,F.ok k t=true↔aR k t){f:Nat}:∀(qs:Ls (Q×Q×Q)) (pre:Ls Vl) (m:Nat) (out last:Q),F.t=pre++qs.flatMap fG->(∀q∈qs,aR 4 q.1/\aR 1 q.2.1)->qs.length<m->
 eG F (wrF F (f+1+1)) false 10 3 m (qs.length:Nat) pre.length out last false=U (U (qs.foldl (fun a q=>a++lU q) out,F.t.length,false))
 | [],pre,m,out,last,ht,_,hm=>by
   obtain⟨m,rfl⟩:∃k,m=k+1:=⟨m-1,O⟩
   unfold eG
   rw[G Dc,ht]
   simp
 |q::qs,pre,m,out,last,ht,hc,hm=>by
  obtain⟨m,rfl⟩:∃k,m=k+1:=⟨m-1,O⟩
  have hl:F.t.length=pre.length+4+(qs.flatMap fG).length:=by rw[ht,aQ,dx,aQ];show pre.length+(4+_)=_;omega
  have hv:∀j,vl F.t (pre.length+j)=vl (fG q++qs.flatMap fG) j:=fun j=>by rw[ht,dx];exact oN
  have hq:=Es hs hok (f:=f) (p:=pre.length) (q:=q) O (hv 0) (hv 1) (hv 2) (hv 3) (hc q Sq).1 (hc q Sq).2
  have ih:=wJ hs hok (f:=f) qs (pre++fG q) m (out++lU q) (lU q) (by rw[ht,dx,bE]) (fun q hq=>hc q (by simp[hq])) (by simpa using hm)
  unfold eG
  rw[aG (by rw[aU];omega),hq]
  show eG F _ false 10 3 m _ _ _ _ _=_
  rw[show((((q::qs).length:Nat):Int)-1)=(qs.length:Nat)by rw[aU];omega]
  rw[aQ]at ih
  exact ih
theorem tL{F:dF}{f i x a:Nat}{dp:Int}{kids:Ls Kd}(hn:nd F.s i=⟨13, -1,0,kids⟩)(hx:x<F.t.length)(hv:vl F.t x=⟨13,bh,(a:Nat),1⟩)(hd:dp<=12)(ha:a<kids.length):wrF F (f+1) i x dp=wrF F f (kids.getD a j6).node.toNat (x+1) dp:=by
 rw[wrF,hn,hv,aG ⟨hx,X,hd⟩];unfold dO;rw[aG X,aG ⟨X,X,by show(0:Int)<=(a:Nat);omega,by show((a:Nat):Int)<kids.length;omega⟩];show cP.andThen (wrF F f (kids.getD ((a:Nat):Int).toNat j6).node.toNat (x+1) dp) (fun b x' u=>U (U (if(0:Int)=1 then _ else b,x',u)))=_;rw[br];generalize wrF F f (kids.getD a j6).node.toNat (x+1) dp=r;unfold cP.andThen;split
 ·rfl
 ·rfl
 simp
theorem DU{F:dF}(hs:F.s=cS)(hok:∀k t,F.ok k t=true↔aR k t){c:CT}(ht:F.t=c.tree)(hc:c.Ok){f:Nat}(hf:∀qs,c.ms=U qs->qs.length<=f):wrF F (f+4) 0 0 1=U (U (c.bytes,c.tree.length,false)):=by
 have hl:c.tree.length=9+(jf c.ms).length:=by unfold CT.tree;rw[aQ];rfl
 have hp:1<=(jf c.ms).length:=by unfold jf;split<;>simp
 have l1:=iU (f:=f+2) (i:=1) (x:=1) (dp:=1) hok (n:=⟨2,0,1,[]⟩) (by rw[hs];rfl) Dc Dc (t:=c.vt) (by rw[ht];omega) (by rw[ht];rfl) Dc hc.vt;have l2:=iU (f:=f+2) (i:=2) (x:=2) (dp:=2) hok (n:=⟨2, -1,0,[]⟩) (by rw[hs];rfl) Dc Dc (t:=c.s) (by rw[ht];omega) (by rw[ht];rfl) Dc hc.s;have l3:wrF F (f+2+1) 3 3 2=U (U (eN 0 false (if c.pr then 19 else 12) c.n,5,false)):=by
  cases hpr:c.pr with
  |true=>
   have hcn:=hc.n
   rw[hpr]at hcn
   have h3:=tL (f:=f+1+1) (i:=3) (x:=3) (a:=0) (dp:=2) (kids:=[⟨4,false,bh⟩,⟨5,false,bh⟩]) (by rw[hs];rfl) (by rw[ht];omega) (by rw[ht];show(⟨13,bh,if c.pr then 0 else 1,1⟩:Vl)=_;rw[hpr];rfl) Dc Dc
   have h4:=iU (f:=f+1) (i:=4) (x:=4) (dp:=2) hok (n:=⟨8, -1,0,[]⟩) (by rw[hs];rfl) Dc Dc (t:=c.n) (by rw[ht];omega) (by rw[ht];show(⟨if c.pr then 8 else 7,c.n,0,0⟩:Vl)=_;rw[hpr];rfl) Dc hcn
   exact h3.trans h4
  |false=>
   have hcn:=hc.n
   rw[hpr]at hcn
   have h3:=tL (f:=f+1+1) (i:=3) (x:=3) (a:=1) (dp:=2) (kids:=[⟨4,false,bh⟩,⟨5,false,bh⟩]) (by rw[hs];rfl) (by rw[ht];omega) (by rw[ht];show(⟨13,bh,if c.pr then 0 else 1,1⟩:Vl)=_;rw[hpr];rfl) Dc Dc
   have h4:=iU (f:=f+1) (i:=5) (x:=4) (dp:=2) hok (n:=⟨7, -1,0,[]⟩) (by rw[hs];rfl) Dc Dc (t:=c.n) (by rw[ht];omega) (by rw[ht];show(⟨if c.pr then 8 else 7,c.n,0,0⟩:Vl)=_;rw[hpr];rfl) Dc hcn
   exact h3.trans h4
 have l4:wrF F (f+2+1) 6 5 2=U (U (eN 0 true 16 (eN 0 false 24 c.ft++eN 0 false 24 c.tt),8,false)):=by have t1:=iU (f:=f+1) (i:=7) (x:=6) (dp:=3) hok (n:=⟨9, -1,0,[]⟩) (by rw[hs];rfl) Dc Dc (t:=c.ft) (by rw[ht];omega) (by rw[ht];rfl) Dc hc.ft;have t2:=iU (f:=f+1) (i:=7) (x:=7) (dp:=3) hok (n:=⟨9, -1,0,[]⟩) (by rw[hs];rfl) Dc Dc (t:=c.tt) (by rw[ht];omega) (by rw[ht];rfl) Dc hc.tt;refine zi (f:=f+2) (kids:=[⟨7,false,bh⟩,⟨7,false,bh⟩]) (by rw[hs];rfl) (by rw[ht];omega) (by rw[ht];rfl) Dc ?_;rw[jY X X Dc t1,jY X X Dc t2];unfold dP;rw[uB];rfl
 have l5:=iU (f:=f+2) (i:=8) (x:=8) (dp:=2) hok (n:=⟨5, -1,0,[]⟩) (by rw[hs];rfl) Dc Dc (t:=c.k) (by rw[ht];omega) (by rw[ht];rfl) Dc hc.k;refine zi (f:=f+3) (kids:=[⟨1,false,kR⟩,⟨2,false,bh⟩,⟨3,false,bh⟩,⟨6,false,bh⟩,⟨8,false,bh⟩,⟨9,true,bh⟩]) (by rw[hs];rfl) (by rw[ht];omega) (by rw[ht];rfl) Dc ?_;rw[Aj X Dc Dc l1,jY X X Dc l2,jY X X Dc l3,jY X X Dc l4,jY X X Dc l5,uB];have hv9:vl F.t 9=vl (jf c.ms) 0:=by rw[ht];exact oN (a:=mO c.vt c.s c.n c.pr c.ft c.tt c.k) (j:=0)
 have hl9:9<F.t.length:=by rw[ht];omega
 unfold dP
 cases hms:c.ms with
 |none=>
  rw[hms]at hv9 hl
  have hv9':vl F.t 9=⟨15,bh,0,0⟩:=hv9
  rw[aG ⟨X,hl9,by rw[hv9']⟩,hv9',aG ⟨X,X,X⟩]
  unfold dP
  rw[hl]
  unfold CT.inner
  rw[hms]
  unfold H5
  rw[py]
  rfl
 |some qs=>
  rw[hms]at hv9 hl
  have hv9':vl F.t 9=⟨11,bh,0,(qs.length:Nat)⟩:=hv9
  rw[G (fun q=>by have q2:=q.2.2;rw[hv9']at q2;exact Ab q2 (by show¬(11:Int)=15;decide)),aG Rf]
  have hmy:=wJ hs hok (f:=f) qs (mO c.vt c.s c.n c.pr c.ft c.tt c.k++[⟨11,bh,0,(qs.length:Nat)⟩]) (f+2) bh bh (by rw[ht];unfold CT.tree;rw[hms];unfold jf;simp) (hc.ms qs hms) (by have:=hf qs hms;omega)
  have h9:wrF F (f+3) 9 9 2=U (U (H5 (U qs),F.t.length,false)):=by
   rw[wrF,show nd F.s 9=⟨11,3,1,[⟨10,false,bh⟩]⟩by rw[hs];rfl,hv9',aG ⟨hl9,X,Dc⟩]
   unfold dO
   rw[G (by show¬(11:Int)=13;decide),G (by show¬(11:Int)=14;decide),G (by show¬(11:Int)=10;decide),aG (by show(10:Int)<=11/\(11:Int)<=12;decide),aG ⟨X,X,by show(0:Int)<=(qs.length:Nat);omega⟩]
   show cP.andThen (cP.andThen (eG F (wrF F (f+1+1)) false 10 3 (f+2) (qs.length:Nat) (9+1) bh bh false) _) _=_
   rw[aQ]at hmy
   rw[show(9+1:Nat)=(mO c.vt c.s c.n c.pr c.ft c.tt c.k).length+ [(⟨11,bh,0,(qs.length:Nat)⟩:Vl)].length from X,hmy]
   rfl
  show cP.andThen (wrF F (f+3) 9 9 2) _=_
  rw[h9]
  unfold cP.andThen
  simp only
  rw[G (fun q=>q.1 X),G Dc]
  unfold dP
  rw[<-ht]
  unfold CT.inner
  rw[hms]
  rfl
end Go.Proofs.YtkkicodfpekbgaaGreatDoor
namespace Go.Proofs.YtkkicodfpekbgaaGreatDoor
open Go.Proofs.Tryz
open Go.RowKit
def Fi(k:Int):Sn:=if k=2 then .Long else wM k
theorem Dj(k:Int)(h2:2<=k)(h10:k<=10):(Fi k).code=k:=by obtain rfl|rfl|rfl|rfl|rfl|rfl|rfl|rfl|rfl:k=2\/k=3\/k=4\/k=5\/k=6\/k=7\/k=8\/k=9\/k=10:=O;all_goals rfl
def Cg(sn:Sn->Ad)(za:Ad)(v:Except (Int×Int) (Ls Vl))(w:M)(e:Ending)(w':M):Prop:=
 H w.heap.size w w'/\
 ((∃vs ta tc,v= .ok vs/\e=Rt (Tu #[S ta vs.length tc,.nilIface])/\w'.ownsRow w.heap.size 60 4 (S ta vs.length tc) vs.length (bG vs))\/
  (∃p,v= .error (1,0)/\e=Rt (Tu #[S Z 0 0,fq 0 (aX p za)]))\/
  (v= .error (1,0)/\e=Rt (Tu #[S Z 0 0,aX 0 za]))\/
  (∃k q,v= .error (k,q)/\2<=k/\k<=10/\e=Rt (Tu #[S Z 0 0,aX q (sn (Fi k))])))
theorem wQ(E:cw)(s:Ls Nd)(a:Oo Ad)(c:Nat)(root:Int)(d:Q)(v:Except (Int×Int) (Ls Vl))(w:M)(sn:Sn->Ad)(za:Ad)(hl:ls w sn)(hz:jM w sn za)(hs:ju w a s)(hok:ie s)(hn0:s.length<=140737488351232)(hdm:d.size<=9223372036854775807)(hv:my E s root d v):Cs prog 47 #[S a s.length c,I J root,Y d] w fun e w'=>Cg sn za v w e w':=by
 have HCR:Hi (∀wq,H w.heap.size w wq->Cs prog 74 #[S a s.length c,I J root] wq fun e w'=>Ce s root za wq e w'):=fun wq q=>mP s a c root wq sn za (hl.below q) (hz.below q) (hs.below q) hok hn0;have HL:=aN hl;have HS:=aN hs;have HOK:=aN hok;have HV:=aN hv;clear hl hz hs hok hv;go_enter func47,ntmps47;go_wp2_with fail;refine(HCR _ Be).mono ?_;rintro e w1 ⟨hb1,h1⟩;have HB1:Hi (H w.heap.size w w1):=aT hb1;have HG1:Hi (w1.heap[w.heap.size]? =U (C #[I J root] 3 (0,0))):=ax (aA w _) hb1;have g1:w1.cell? (D w.heap.size 0 Z)=U (I J root):=cell_of_row HG1 X;have hlt1:w.heap.size<w1.heap.size:=aw g1;clear hb1;rcases h1 with⟨rfl,hr,h0,h1⟩|⟨⟨p,rfl⟩,hr⟩|⟨rfl,hr,h0⟩
 ·have HR:=aN hr;clear hr;by_cases h2:4000<d.size
  ·have h2':(4000:Int)<d.size:=O;have cL:=(HL.below HB1).s.cLong;have hgl:=aw cL;simp only at hgl;have HAT:Hi (∀wq,Cs prog 60 #[I J 0,If 291 (Po (U (sn .Long)))] wq fun e w'=>e=Rt (aX 0 (sn .Long))/\w'=wq):=fun wq=>fR 0 _ wq;unfold aX at HAT;go_wp2_with fail;refine(HAT _).mono ?_;rintro e w2 ⟨rfl,rfl⟩;go_wp2;refine aS (v:=Tu #[S Z 0 0,aX 0 (sn .Long)]) (by simp[results,results47,go_sem,aX]) X ?_;refine⟨HB1,.inr (.inr (.inr ⟨2,0,?_,Dc,Dc,X⟩))⟩;rcases HV with⟨q,_⟩|⟨_,_,q⟩|⟨_,q,_⟩
   ·exact Ab ⟨HR,h0,h1⟩ q
   ·exact q
   omega
  have h2':(d.size:Int)<=4000:=O;obtain⟨hd4,rfl,rfl,hE,f,hf,hrd⟩:d.size<=4000/\E.s=s/\E.d=d/\gp E/\∃f,f<=1000000/\eI E f root.toNat=U v:=by
   rcases HV with⟨q,_⟩|⟨_,q,_⟩|⟨_,q⟩
   ·exact Ab ⟨HR,h0,h1⟩ q
   ·omega
   exact q
  obtain⟨rt,rfl⟩:∃n:Nat,root=n:=⟨root.toNat,O⟩;have hrt:rt<E.s.length:=O;have hER:=C5 hrd;have HRD:Hi (eI E f rt=U v):=by show eI E f rt=U v;simpa using hrd
  have HE:=aN hE;have HER:=aN hER;have hAl:=HR.out.2.2.1;have h40:E.s.length<=40:=HR.out.2.1;have HAB:Hi (Cs prog 64 #[S a E.s.length c] w1 fun e w'=>e=Rt (S (U (D w1.heap.size 0 Z)) E.s.length E.s.length)/\Al E.s w1 w' E.s.length):=jS E.s a c w1 (HS.below HB1) (gD hAl) (fun j hj=>(kO hAl j hj).1) (fu hAl) (HL.below HB1).n h40;clear hAl h40 hrd hE hER HCR;go_wp2_with fail;refine HAB.mono ?_;rintro e w2 ⟨rfl,hab⟩;have HB2:Hi (H w.heap.size w w2):=HB1.trans (hab.bel.mono HB1.size);obtain⟨gb,hgb⟩:∃gb,w1.heap.size=gb:=Ey;have hAR:Ak w2 gb E.s:=by rw[<-hgb];exact hab.read
  have HPC:Hi (PC E w2 a gb sn):=⟨HS.below HB2,HR,HOK,HE.bg,HE.ok,hd4,hAR,HL.below HB2⟩;have HG2:Hi (w2.heap[w.heap.size]? =U (C #[I J (rt:Int)] 3 (0,0))):=ax HG1 hab.bel;have hlt2:w.heap.size<w2.heap.size:=bm HG2;rw[hgb];clear hab hAR hgb g1 hlt1 HG1;obtain⟨o,ho1,ho2⟩:=yV HRD;have HV2:=aN ho2;obtain⟨w4,hw4⟩:∃w4,(w2.alloc (C #[S a E.s.length c,S (U (D gb 0 Z)) E.s.length E.s.length,Y E.d,S Z 0 0] 144)).alloc (C #[Po (U (D w2.heap.size 0 Z))] 142)=w4:=Ey;have hb24:H w2.heap.size w2 w4:=by rw[<-hw4];exact(Be).alloc Sq _
  have HG4:Hi (w4.heap[w2.heap.size+1]? =U (C #[Po (U (D w2.heap.size 0 Z))] 142 (0,0))):=by show w4.heap[w2.heap.size+1]? =_;rw[<-hw4];have:=aA (w2.alloc (C #[S a E.s.length c,S (U (D gb 0 Z)) E.s.length E.s.length,Y E.d,S Z 0 0] 144)) (C #[Po (U (D w2.heap.size 0 Z))] 142);simpa using this
  have hI4:gh w2 w4 w2.heap.size a E.s.length c gb E.d []:=by refine⟨hb24,Ln,S Z 0 0,?_,bX _ _ _ _⟩;rw[<-hw4,bM _ _ _ Sq];exact aA w2 _
  have HLO:Hi (Cs prog 76 #[Po (U (D w2.heap.size 0 Z)),I J 0,I J E.d.size,.func (.func 77) #[] #[Po (U (D (w2.heap.size+1) 0 Z)),Po (U (D w.heap.size 0 Z))]] w4 fun e w'=>df E w2 w2.heap.size a c gb sn (ez E 0 E.d.size o) [] w4 e w'):=F6 E w2 w2.heap.size a c gb sn HPC 0 E.d.size o [] w4 (w2.heap.size+1) w.heap.size Lz Ln hI4 (fun g hg wq hq=>EH E w2 w2.heap.size a c gb sn rt g 0 o [] wq (w2.heap.size+1) w.heap.size (cell_of_row (ax HG4 hq) X) (cell_of_row (ax (ax HG2 hb24) hq) X) (fun wz hz=>tJ E w2 w2.heap.size a c gb sn HPC HE.dv f rt 0 E.d.size g 1 o [] wz hg (ho1 g hg) hrt Lz Ln Dc Dc (by unfold du;simp only[bD];omega) ((hI4.below hq).below hz)));have HB24:=aN hb24;have HW4:=aN hw4;clear ho1 ho2 hb24 hI4 hw4;go_wp2_with fail;rw[HW4.out];clear HW4;refine HLO.mono ?_;rintro e w5 ha5;have HA5:=aN ha5;have hG5:=ha5.1 _ _ _ O Dc HG4;have g5:w5.cell? (D (w2.heap.size+1) 0 Z)=U (Po (U (D w2.heap.size 0 Z))):=cell_of_row hG5 X;have hl5:w2.heap.size+1<w5.heap.size:=aw g5;clear ha5 hG5;rcases HA5.2 with⟨vs,z,ho,rfl,hI5⟩|⟨k,q,tree',ho,rfl,hI5⟩
  ·have HX:Hi (v= .ok vs):=by
    show v= .ok vs;rcases HV2 with⟨u,_,q2⟩|⟨ws,q1,q2⟩
    ·rw[q2]at ho;cases ho
    rw[q2]at ho;injection ho with ho;injection ho with ho _;rw[q1,ho]
   have HI5:=aN hI5;obtain⟨_,_,vt,hR5,hO5⟩:=hI5;rw[fg]at hO5;obtain⟨ta,tc,rfl,_⟩:=fL hO5;have HO5:Hi (w5.ownsRow w.heap.size 60 4 (S ta vs.length tc) vs.length (bG vs)):=mn hO5 HB2.size;unfold ly at hR5;have r5:w5.cell? (D w2.heap.size 3 Z)=U (S ta vs.length tc):=cell_of_row hR5 X;clear hR5 hO5 ho HLO;go_wp2;refine aS (v:=Tu #[S ta vs.length tc,.nilIface]) (by simp[results,results47,go_sem]) X ?_;exact⟨HB2.trans (HI5.bel.mono HB2.size),.inl ⟨vs,ta,tc,HX,X,HO5⟩⟩
  have HX:Hi (v= .error (k,q)):=by
   show v= .error (k,q);rcases HV2 with⟨u,q1,q2⟩|⟨ws,q1,q2⟩
   ·rw[q2]at ho;injection ho with ho;rw[q1,ho]
   rw[q2]at ho;cases ho
  have HKK:=aN (HER k q HX);have HI5:=aN hI5;have HSN:Hi (wM k=Fi k):=by show wM k=Fi k;unfold Fi;rw[G (by have:=HKK.out;omega)]
  rw[HSN.out];unfold aX;clear hI5 ho HLO;go_wp2;refine aS (v:=Tu #[S Z 0 0,aX q (sn (Fi k))]) (by simp[results,results47,go_sem,aX]) X ?_;exact⟨HB2.out.trans (HI5.out.bel.mono HB2.out.size),.inr (.inr (.inr ⟨k,q,HX.out,by have:=HKK.out;omega,HKK.out.2,X⟩))⟩
 ·have HX:Hi (v= .error (1,0)):=by
   rcases HV with⟨_,q⟩|⟨q,_⟩|⟨q,_⟩
   ·exact q
   ·exact Ab q.1 hr
   exact Ab q.1 hr
  clear hr;unfold fq aX;go_wp2;refine aS (v:=Tu #[S Z 0 0,fq 0 (aX p za)]) (by simp[results,results47,go_sem,aX,fq]) X ?_;exact⟨HB1,.inr (.inl ⟨p,HX,X⟩)⟩
 have HX:Hi (v= .error (1,0)):=by
  rcases HV with⟨_,q⟩|⟨q,_⟩|⟨q,_⟩
  ·exact q
  ·exact Ab q.2 h0
  exact Ab q.2 h0
 clear hr h0;unfold aX;go_wp2;refine aS (v:=Tu #[S Z 0 0,aX 0 za]) (by simp[results,results47,go_sem,aX]) X ?_;exact⟨HB1,.inr (.inr (.inl ⟨HX,X⟩))⟩
theorem bF{p:Prop}(h:p):Hi p:=h
theorem uq(b:Q)(w:M)(sn:Sn->Ad)(za:Ad)(hl:ls w sn)(hz:jM w sn za)(hb:b.size<=9223372036854775807):Cs prog 191 #[Y b] w fun e w'=>dB (ns b) w e w':=by
 have HS:=bF (yB w);obtain⟨E,v,hv⟩:=zH lS 0 b;have HT:Hi (∀g wq,H w.heap.size w wq->ju wq (U (D g 0 Z)) lS->Cs prog 47 #[S (U (D g 0 Z)) 3 3,I J 0,Y b] wq fun e w'=>Cg sn za v wq e w'):=fun g wq q hs=>wQ E lS (U (D g 0 Z)) 3 0 b v wq sn za (hl.below q) (hz.below q) hs Fb Dc hb hv;have HV:=bF hv;clear hl hz hv;go_enter func191,ntmps191;go_wp2_with fail;refine HS.mono ?_;rintro e w1 ⟨g,rfl,hs1,hb1⟩;have HT1:=bF (HT g w1 hb1 hs1);have HB1:=bF hb1;clear hs1 hb1 HT HS;go_wp2_with fail;refine HT1.mono ?_;rintro e w2 ⟨hb2,h2⟩;have HB2:Hi _:=HB1.trans (hb2.mono HB1.size);clear hb2 HT1;rcases h2 with⟨vs,ta,tc,hvv,rfl,_⟩|⟨p,hvv,rfl⟩|⟨hvv,rfl⟩|⟨k,q,hvv,_,_,rfl⟩
 ·have HL:Hi (ns b):=⟨E,vs,by rw[<-hvv];exact HV⟩;clear hvv HV;go_wp2;go_ret;exact bS HL HB2
 all_goals(have HL:Hi (¬ns b):=fun⟨E',vs,h⟩=>by have:=CC HV h;rw[hvv]at this;cases this);clear hvv HV;(try unfold fq);unfold aX;go_wp2;go_ret;exact bc HL HB2
theorem yw(b:Q)(w:M)(sn:Sn->Ad)(hl:ls w sn)(hb:b.size<=140737488355328):Cs prog 192 #[Y b] w fun e w'=>dB (lI b) w e w':=by
 have HS:=bF (oK 5 Z 0 0 w);have HE:Hi (∀wq,H w.heap.size w wq->Cs prog 95 #[Ag #[I J 5,I J (-1),I J 0,S Z 0 0],Y b] wq fun e w'=>dB (lI b) wq e w'):=fun wq q=>(mQ ⟨5, -1,0,[]⟩ Z 0 b wq sn (hl.below q) (by refine⟨?_,?_,?_,?_,?_⟩ <;>decide) Dc hb).mono fun e w' h=>by obtain⟨r,h1,h2,h3⟩:=h;exact⟨r,h1,h2.trans ⟨fun q=>q.2,fun q=>⟨Dc,q⟩⟩,h3⟩
 clear hl;go_enter func192,ntmps192;go_wp2_with fail;refine HS.mono ?_;rintro e w1 ⟨rfl,hb1⟩;have HB1:=bF hb1;clear hb1;go_wp2_with fail;refine(HE _ HB1).mono ?_;rintro e w2 ⟨r,rfl,hr,hb2⟩;have HR:=bF hr;have HB2:Hi _:=HB1.trans (hb2.mono HB1.size);clear hr hb2;go_wp2;go_ret;exact iD HR HB2
theorem yr(m:fO)(w:M)(sn:Sn->Ad)(za:Ad)(hl:ls w sn)(hz:jM w sn za)(hk:m.kind.size<=140737488355328)(hb:m.body.size<=140737488355328):Cs prog 171 #[Ag #[Y m.kind,Bo m.must,Y m.body]] w fun e w'=>dB (gX m) w e w':=by
 have HLi:Hi _:=fun wq q=>uq m.body wq sn za (hl.below q) (hz.below q) O;have HUs:Hi (∀wq,H w.heap.size w wq->Cs prog 192 #[Y m.body] wq fun e w'=>dB (lI m.body) wq e w'):=fun wq q=>yw m.body wq sn (hl.below q) hb;have HF:Hi (∀wq,H w.heap.size w wq->Cs prog 138 #[I J 4,Y m.kind] wq fun e w'=>dB (aR 4 m.kind) wq e w'):=fun wq q=>kH 4 m.kind wq O (hl.below q).d (nh m.kind wq O (hl.below q).t);clear hl hz;obtain⟨k,mu,b⟩:=m;simp only at hk hb HLi HUs HF;by_cases h1:k=mF
 ·subst h1;have HX:Hi (ns b↔gX ⟨mF,mu,b⟩):=⟨fun q=> .inl ⟨X,q⟩,fun q=>by
   rcases q with⟨_,q⟩|⟨q,_⟩|⟨q,_⟩
   ·exact q
   ·exact Ab (show mF=mG from q) Dc
   exact Ab X q⟩
  clear HUs HF hk;go_enter func171,ntmps171;go_wp2_with fail;refine(HLi _ Be).mono ?_;rintro e w1 ⟨r,rfl,hr,hb1⟩;have HR:Hi (r=true↔gX ⟨mF,mu,b⟩):=hr.trans HX;have HB:Hi (H w.heap.size w w1):=aT hb1;clear hr hb1;go_wp2;go_ret;exact iD HR HB
 have e1:(k.toList== [85,29,19])=false:=by have q:=gY h1;rwa[show mF.toList=[85,29,19]by rw[Lib.toList_data]]at q
 by_cases h2:k=mG
 ·subst h2;have HX:Hi (lI b↔gX ⟨mG,mu,b⟩):=⟨fun q=> .inr (.inl ⟨X,q⟩),fun q=>by
   rcases q with⟨q,_⟩|⟨_,q⟩|⟨_,q,_⟩
   ·exact Ab (show mG=mF from q) Dc
   ·exact q
   exact Ab X q⟩
  clear HLi HF hk e1 h1;go_enter func171,ntmps171;go_wp2_with fail;refine(HUs _ Be).mono ?_;rintro e w1 ⟨r,rfl,hr,hb1⟩;have HR:Hi (r=true↔gX ⟨mG,mu,b⟩):=hr.trans HX;have HB:Hi (H w.heap.size w w1):=aT hb1;clear hr hb1;go_wp2;go_ret;exact iD HR HB
 have e2:(k.toList== [85,29,15])=false:=by have q:=gY h2;rwa[show mG.toList=[85,29,15]by rw[Lib.toList_data]]at q
 have HX:Hi ((aR 4 k/\mu=false)↔gX ⟨k,mu,b⟩):=⟨fun q=> .inr (.inr ⟨h1,h2,q⟩),fun q=>by
  rcases q with⟨q,_⟩|⟨q,_⟩|⟨_,_,q⟩
  ·exact Ab q h1
  ·exact Ab q h2
  exact q⟩
 clear HLi HUs h1 h2;go_enter func171,ntmps171;go_wp2_with fail;refine(HF _ Be).mono ?_;rintro e w1 ⟨r,rfl,hr,hb1⟩;have c1:w1.cell? (D w.heap.size 1 Z)=U (Bo mu):=b7.new (A:=#[Y k,Bo mu,Y b]) ⟨w1,hb1⟩ X;have hl1:w.heap.size<w1.heap.size:=aw c1;have HB:Hi (H w.heap.size w w1):=aT hb1;clear hb1
 cases r with
 |false=>
  have HN:Hi (¬gX ⟨k,mu,b⟩):=fun q=>by cases hr.2 (HX.2 q).1
  clear hr HX
  go_wp2
  go_ret
  exact bc HN HB
 |true=>
  have HC:Hi (mu=false↔gX ⟨k,mu,b⟩):=⟨fun q=>HX.1 ⟨hr.1 X,q⟩,fun q=>(HX.2 q).2⟩
  clear hr HX
  cases mu
  ·have HY:Hi (gX ⟨k,false,b⟩):=HC.1 X
   clear HC
   go_wp2
   go_ret
   exact bS HY HB
  ·have HN:Hi (¬gX ⟨k,true,b⟩):=fun q=>by cases HC.2 q
   clear HC
   go_wp2
   go_ret
   exact bc HN HB
theorem uc(ms:Ls fO)(a:Oo Ad)(mc:Nat)(w:M)(sn:Sn->Ad)(za:Ad)(hl:ls w sn)(hz:jM w sn za)(hin:fj w a ms)(hZ:Hy ms)(hn:ms.length<=140737488351232)(hcap:ms.length<=mc):Cs prog 132 #[S a ms.length mc] w fun e w'=>dB (dd ms) w e w':=by
 have HM:Hi _:=fun j wq hj q=>yr _ wq sn za (hl.below q) (hz.below q) (hZ j hj).1 (hZ j hj).2;have HI:=bF hin;clear hl hz hin hZ;go_enter func132,ntmps132;go_wp2;go_loopw [9] (fun vi wr=>∃k:Nat,k<=ms.length/\vi=I J k/\tM ms k/\H w.heap.size w wr) (fun vi _=>ms.length-(Io vi).toNat);case atStart=>exact⟨0,Lz,X,fun i hi=>Ab hi (aO _),By⟩
 obtain⟨k,hk,rfl,hto,hbr⟩:=hrel;have HTO:=bF hto;have HBR:=bF hbr;clear hto hbr;by_cases hlt:k<ms.length
 ·have hlt':(k:Int)<ms.length:=O;have hkc:(k:Int)<=mc:=O;obtain⟨g,o,rfl,c0,c1,c2⟩:=HI k hlt;have HMK:=bF (fun wq=>HM k wq hlt);obtain⟨m,hm⟩:∃m,ms.getD k iy=m:=Ey;rw[hm]at c0 c1 c2 HMK;have d0:wr.cell? (D g (o+k*3) Z)=U (Y m.kind):=(HBR.cell (aw c0)).trans c0;have d1:wr.cell? (D g (o+k*3+1) Z)=U (Bo m.must):=(HBR.cell (aw c1)).trans c1;have d2:wr.cell? (D g (o+k*3+2) Z)=U (Y m.body):=(HBR.cell (aw c2)).trans c2;have hgl:g<wr.heap.size:=aw d0;have HMM:=bF hm;clear c0 c1 c2 hm;go_wp2_with fail;refine(HMK _ (HBR.alloc HBR.size _)).mono ?_;rintro e w1 ⟨r,rfl,hr,hb1⟩;have HB1:Hi _:=(HBR.alloc HBR.size _).trans (hb1.mono (HBR.alloc HBR.size _).size);have x0:w1.cell? (D wr.heap.size 0 Z)=U (Y m.kind):=b7.new (A:=#[Y m.kind,Bo m.must,Y m.body]) ⟨w1,hb1⟩ X;have hl1:wr.heap.size<w1.heap.size:=aw x0;clear hb1 d0 d1 d2 HMK
  cases r with
  |false=>
   have HN:Hi (¬dd ms):=fun q=>by
    have:=(q k hlt).1
    rw[HMM.out]at this
    cases hr.2 this
   clear hr
   go_wp2
   go_ret
   exact bc HN HB1
  |true=>
   have HOK:Hi _:=hr.1 X
   clear hr
   obtain⟨xb,hxb⟩:∃xb,wr.heap.size=xb:=Ey
   rw[hxb]at x0 hl1 ⊢
   have HX0:=bF x0
   have hgl1:g<w1.heap.size:=O
   clear hxb hgl
   go_wp2
   go_loopw [21] (fun vj wx=>∃j:Nat,j<=k/\vj=I J j/\(∀i,i<j->(ms.getD i iy).kind≠m.kind)/\H w1.heap.size w1 wx) (fun vj _=>k-(Io vj).toNat)
   case atStart=>exact⟨0,Lz,X,fun i hi=>Ab hi (aO _),By⟩
   case round=>
    obtain⟨j,hj,rfl,hne,hbx⟩:=hrel
    have HNE:=bF hne
    have HBX:=bF hbx
    have y0:wr.cell? (D xb 0 Z)=U (Y m.kind):=(hbx.cell (aw HX0)).trans HX0
    have hxl:xb<wr.heap.size:=aw y0
    clear hne hbx
    by_cases hl2:j<k
    ·have hl2':(j:Int)<k:=O
     obtain⟨g',o',e',z0,z1,z2⟩:=HI j O
     injection e' with e'
     injection e' with e1 e2 _
     subst e1 e2
     have HBW:Hi _:=HB1.trans (HBX.mono HB1.size)
     obtain⟨kj,hkj⟩:∃kj,(ms.getD j iy).kind=kj:=Ey
     rw[hkj]at z0
     generalize(ms.getD j iy).must=muj at z1
     generalize(ms.getD j iy).body=boj at z2
     have u0:wr.cell? (D g (o+j*3) Z)=U (Y kj):=(HBW.cell (aw z0)).trans z0
     have u1:wr.cell? (D g (o+j*3+1) Z)=U (Bo muj):=(HBW.cell (aw z1)).trans z1
     have u2:wr.cell? (D g (o+j*3+2) Z)=U (Y boj):=(HBW.cell (aw z2)).trans z2
     have hgx:g<wr.heap.size:=aw u0
     have HKJ:=bF hkj
     clear z0 z1 z2 hkj
     by_cases heq:kj=m.kind
     ·have hbe:(kj.toList==m.kind.toList)=true:=ue.2 heq
      have HN:Hi (¬dd ms):=fun q=>by
       have:=(q k hlt).2 j hl2
       rw[HMM,HKJ.out]at this
       exact this heq
      clear heq
      go_wp2
      go_ret
      exact bc HN (HBW.alloc HBW.size _)
     ·have hbe:(kj.toList==m.kind.toList)=false:=gY heq
      have HNJ:Hi ((ms.getD j iy).kind≠m.kind):=by
       show(ms.getD j iy).kind≠m.kind
       rw[HKJ.out];exact heq
      clear heq
      go_wp2
      go_roundw
      case rel=>
       refine⟨j+1,O,Gn,fun i hi=>?_,HBX.alloc HBX.size _⟩
       by_cases hij:i=j
       ·rw[hij];exact HNJ
       ·exact HNE i O
      case measure=>exact Ms
    ·have hl2':(k:Int)<=j:=O
     obtain rfl:j=k:=O
     go_wp2
     go_roundw
     case rel=>
      refine⟨j+1,O,Gn,fun i hi=>?_,HB1.trans (HBX.mono HB1.size)⟩
      by_cases hij:i=j
      ·rw[hij,HMM.out];exact⟨HOK,HNE⟩
      ·exact HTO i O
     case measure=>exact Ms
 have hlt':(ms.length:Int)<=k:=O;obtain rfl:k=ms.length:=O;go_wp2;go_ret;exact bS HTO HBR
def sx(v:Int)(s n f t k:Q)(ms:Ls fO)(sn:Sn->Ad)(w:M)(e:Ending)(w':M):Prop:=
 H w.heap.size w w'/\((¬cN v s n f t k ms.length/\e=Rt (aX 0 (sn .Card)))\/(cN v s n f t k ms.length/\¬dd ms/\e=Rt (aX 0 (sn .Mark)))\/(cN v s n f t k ms.length/\dd ms/\e=Rt .nilIface))
theorem qw(v:Int)(s n f t k:Q)(ms:Ls fO)(ma:Oo Ad)(mc:Nat)(w:M)(sn:Sn->Ad)(za:Ad)(hl:ls w sn)(hz:jM w sn za)(z1:s.size<=9223372036854775807)(z2:n.size<=9223372036854775807)(z3:f.size<=9223372036854775807)(z4:t.size<=9223372036854775807)(z5:k.size<=9223372036854775807)(hin:fj w ma ms)(hZ:Hy ms)(hn:ms.length<=140737488351232)(hcap:ms.length<=mc):Cs prog 85 #[bW v s n f t k (S ma ms.length mc)] w fun e w'=>sx v s n f t k ms sn w e w':=by
 have HIC:Hi (∀wq,H w.heap.size w wq->Cs prog 131 #[bW v s n f t k (S ma ms.length mc)] wq fun e w'=>dB (cN v s n f t k ms.length) wq e w'):=fun wq q=>yn v s n f t k ma ms.length mc wq (hl.below q).d (hl.below q).t z1 z2 z3 z4 z5;have HAM:Hi (∀wq,H w.heap.size w wq->Cs prog 132 #[S ma ms.length mc] wq fun e w'=>dB (dd ms) wq e w'):=fun wq q=>uc ms ma mc wq sn za (hl.below q) (hz.below q) (hin.below q) hZ hn hcap;have HL:Hi (ls w sn):=hl;have HAT:Hi (∀x wq,Cs prog 60 #[I J 0,If 291 (Po (U (sn x)))] wq fun e w'=>e=Rt (aX 0 (sn x))/\w'=wq):=fun x wq=>fR 0 _ wq;unfold sx;unfold aX at HAT ⊢;unfold bW at HIC ⊢;clear hl hz hin hZ z1 z2 z3 z4 z5;go_enter func85,ntmps85;go_wp2_with fail;refine(HIC _ Be).mono ?_;rintro e w1 ⟨r,rfl,hr,hb⟩;have HB:Hi (H w.heap.size w w1):=aT hb
 cases r with
 |false=>
  have HN:Hi (¬cN v s n f t k ms.length):=fun q=>by cases hr.2 q
  have cC:=(HL.below HB).s.cCard
  have hgl:=aw cC
  simp only at hgl
  clear hb hr
  go_wp2_with fail
  refine(HAT .Card _).mono ?_
  rintro e w2 ⟨rfl,rfl⟩
  go_wp2
  go_ret
  exact⟨HB,.inl ⟨HN,X⟩⟩
 |true=>
  have HC:Hi (cN v s n f t k ms.length):=hr.1 X
  have c6:w1.cell? (D w.heap.size 6 Z)=U (S ma ms.length mc):=b7.new (A:=#[I J v,Y s,Y n,Y f,Y t,Y k,S ma ms.length mc]) ⟨w1,hb⟩ X
  have hl6:w.heap.size<w1.heap.size:=aw c6
  clear hb hr
  go_wp2_with fail
  refine(HAM _ HB).mono ?_
  rintro e w2 ⟨r,rfl,hr,hb2⟩
  have HB2:Hi (H w.heap.size w w2):=HB.trans (hb2.mono HB.size)
  cases r with
  |false=>
   have HN:Hi (¬dd ms):=fun q=>by cases hr.2 q
   have cC:=(HL.below HB2).s.cMark
   have hgl:=aw cC
   simp only at hgl
   clear hb2 hr c6 hl6
   go_wp2_with fail
   refine(HAT .Mark _).mono ?_
   rintro e w3 ⟨rfl,rfl⟩
   go_wp2
   go_ret
   exact⟨HB2,.inr (.inl ⟨HC,HN,X⟩)⟩
  |true=>
   have HM:Hi (dd ms):=hr.1 X
   clear hb2 hr c6 hl6
   go_wp2
   go_ret
   exact⟨HB2,.inr (.inr ⟨HC,HM,X⟩)⟩
structure rQ(R:Nat)(w w':M):Prop where
 size:w.heap.size<=w'.heap.size
 stay:∀(k:Nat) (o:Obj),k≠R->(∀A,o≠C A 5 (0,0))->w.heap[k]? =U o->w'.heap[k]? =U o
theorem rQ.refl(R:Nat)(w:M):rQ R w w:=⟨Ln,fun _ _ _ _ h=>h⟩
theorem rQ.trans{R:Nat}{w w1 w2:M}(h:rQ R w w1)(k:rQ R w1 w2):rQ R w w2:=⟨bl h.size k.size,fun j o hj ho hg=>k.stay j o hj ho (h.stay j o hj ho hg)⟩
theorem rQ.of_below{R:Nat}{w w':M}(h:H w.heap.size w w'):rQ R w w':=⟨h.size,fun _ _ _ _ hg=>ax hg h⟩
theorem rQ.set{R:Nat}{w:M}(i:Nat)(u:Vv):rQ R w (w.setCell (D R i Z) u):=⟨by simp[World.setCell],fun j o hj _ hg=>by rw[aP _ _ _ _ hj];exact hg⟩
theorem rQ.fr{R:Nat}{w w':M}(h:rQ R w w'):dL R w w':=fun k A T hk hT hg=>h.stay k _ hk (fun B q=>hT (by injection q)) hg
theorem xR(t:Q):(bcells t).length=t.size:=by
 unfold bcells;rw[bY];exact cq
theorem qo(t tx:Q){p:Nat}(hp:p<=t.size):(bcells t).take p++bcells tx++(bcells t).drop p=bcells (mC t p tx):=by
 unfold bcells mC;rw[<-List.map_take,<-List.map_drop,<-ji,<-ji];congr 1;rw[eK,eK,eE,eE,Lib.extract_data,Lib.extract_data];rw[gE,Hz,cZ (l:=List.drop p t.data.toList) (by rw[di];exact Ln)]
theorem qp(t:Q):∀v∈bcells t,v.oneCell'=true:=by
 intro v hv;unfold bcells at hv;obtain⟨b,_,rfl⟩:=List.mem_map.1 hv;rfl
theorem Dg(tx:Q)(c:Nat):(bytesRow tx c).toList.take tx.size=bcells tx:=by
 unfold bytesRow bcells;rw[eE,Array.toList_map];exact jj (by rw[bY];exact cq)
theorem gS.setLong{W w:M}{R:Nat}{a:Oo Ad}{n c:Nat}{ta:Oo Ad}{tn tc x:Nat}{told:Q}{lg:Bool}{ov:Vv}(h:gS W w R a n c ta tn tc x told lg ov)(l:Bool):gS W (w.setCell (D R 4 Z) (Bo l)) R a n c ta tn tc x told l ov:=by obtain⟨tv,h1,h2⟩:=h.own;exact⟨h.bel.setCell (p:=D R 4 Z) h.lo _,h.lo,tv,bn w R 4 _ _ _ h1,aJ h2 (cA h1 h2 Dc) _⟩
theorem gS.setOrder{W w:M}{R:Nat}{a:Oo Ad}{n c:Nat}{ta:Oo Ad}{tn tc x:Nat}{told:Q}{lg:Bool}{ov:Vv}(h:gS W w R a n c ta tn tc x told lg ov)(ov':Vv):gS W (w.setCell (D R 5 Z) ov') R a n c ta tn tc x told lg ov':=by obtain⟨tv,h1,h2⟩:=h.own;exact⟨h.bel.setCell (p:=D R 5 Z) h.lo _,h.lo,tv,bn w R 5 _ _ _ h1,aJ h2 (cA h1 h2 Dc) _⟩
theorem FO{W w:M}{R:Nat}{a:Oo Ad}{n c:Nat}{ta:Oo Ad}{tn tc x:Nat}{tv:Vv}{lg:Bool}{ov:Vv}(hb:H W.heap.size W w)(lo:W.heap.size<=R)(hg:w.heap[R]? =U (dm a n c ta tn tc x tv lg ov)){v':Vv}{told:Q}(ho:w.ownsRow W.heap.size 5 1 v' told.size (bcells told)):
 gS W (w.setCell (D R 3 Z) v') R a n c ta tn tc x told lg ov:=
 ⟨hb.setCell (p:=D R 3 Z) lo _,lo,v',bn w R 3 _ _ _ hg,aJ ho (cA hg ho Dc) _⟩
theorem oI{w:M}{B:Nat}{v:Vv}{n:Nat}{xs:Ls Vv}(h:w.ownsRow B 5 1 v n xs):∃bs cp,v=S bs n cp/\n<=cp/\cp<=9223372036854775807/\(bs=Z\/∃g,bs=U (D g 0 Z)):=by
 rcases h.2 with⟨rfl,h0⟩|⟨g,cp,cur,rfl,_,_,h1,h2,_⟩
 ·exact⟨Z,0,by rw[h0],O,O,.inl X⟩
 exact⟨_,_,X,h1,by unfold maxLen at h2;omega,.inr ⟨g,X⟩⟩
theorem CO(bs:Oo Ad)(n cp i vb vc:Nat)(w:M)(hbs:bs=Z\/∃g,bs=U (D g 0 Z))(hi:i<=n)(hn:n<=cp)(hcp:cp<=9223372036854775807)(h0:bs=Z->n=0/\cp=0):Cs prog 182 #[S bs n cp,I J i,S (U (D vb 0 Z)) 0 vc] w fun e w'=>e=Rt (S bs n cp)/\w'=w:=by
 go_enter func182,ntmps182;rcases hbs with rfl|⟨g,rfl⟩
 ·obtain⟨rfl,rfl⟩:=h0 X;obtain rfl:i=0:=O;go_wp2;go_ret;exact⟨X,X⟩
 have h1:(i:Int)<=(n:Int):=O;by_cases h2:cp=i;all_goals go_wp2;go_ret;exact⟨X,X⟩
def pP(W:M)(R:Nat)(a:Oo Ad)(m c:Nat)(ta:Oo Ad)(tn tc x:Nat)(told:Q)(lg:Bool)(ov:Vv)(p:Nat)(tx:Q)(w:M)(e:Ending)(w':M):Prop:=
 e=Rt (Tu #[])/\rQ R w w'/\∃told' lg',Hw told lg p tx told' lg'/\gS W w' R a m c ta tn tc x told' lg' ov
theorem m6(W w:M)(R:Nat)(a:Oo Ad)(m c:Nat)(ta:Oo Ad)(tn tc x:Nat)(told:Q)(lg:Bool)(ov:Vv)(p:Nat)(tx:Q)(hp:p<=told.size)(h4:told.size<=4000)(htx:tx.size<=140737488355328)(hI:gS W w R a m c ta tn tc x told lg ov):Cs prog 149 #[Po (U (D R 0 Z)),I J p,Y tx] w fun e w'=>pP W R a m c ta tn tc x told lg ov p tx w e w':=by
 have HI:=aN hI;obtain⟨tv,hown,hrow⟩:=hI.own;obtain⟨bs,cp,rfl,hc1,hc2,hbs⟩:=oI hrow;have HG:=aN hown;have HR:=aN hrow;unfold dm at hown;have c3:w.cell? (D R 3 Z)=U (S bs told.size cp):=by simp[Wc,hown]
 have c4:w.cell? (D R 4 Z)=U (Bo lg):=by simp[Wc,hown]
 have f3:w.frozen? (D R 3 Z)=false:=by simp[Wf,hown]
 have f4:w.frozen? (D R 4 Z)=false:=by simp[Wf,hown]
 have hRl:R<w.heap.size:=aw c3;clear hown hrow
 cases lg with
 |true=>
  clear hI
  go_enter func149,ntmps149
  go_wp2
  go_returns
  exact⟨X,rQ.set _ _,told,true,.inl ⟨.inl X,X,X⟩,HI.setLong _⟩
 |false=>
  clear hI
  by_cases hz:told.size+tx.size<=4000
  ·have hzb:decide ((4000:Int)-(told.size:Int)<(tx.size:Int))=false:=aE O
   have hzc:¬((4000:Int)-(told.size:Int)<(tx.size:Int)):=O
   obtain⟨CAP,hCAP⟩:∃CAP,grownCap w tx.size 0 5=CAP:=Ey
   have hcv:=run_bytes_of_string (P:=prog) w 9 52 5 tx underlying9 underlying52 underlying5
   rw[hCAP]at hcv
   have hBR:tx.size<=(bytesRow tx CAP).size:=by
    unfold bytesRow
    rw[Array.size_append,Array.size_map]
    exact Nat.le_add_right _ _
   obtain⟨w1,hw1⟩:∃w1,w.drew.alloc (C (bytesRow tx CAP) 5 ((bytesRow tx CAP).size,(bytesRow tx CAP).size+1))=w1:=Ey
   have hB1:H w.heap.size w w1:=by rw[<-hw1];exact(By).drew.alloc Ln _
   have hv1:w1.heap[w.heap.size]? =U (C (bytesRow tx CAP) 5 ((bytesRow tx CAP).size,(bytesRow tx CAP).size+1)):=by rw[<-hw1];exact aA w.drew _
   rw[hw1]at hcv
   have HB1:=aN hB1
   have hs1:=hB1.size
   have hW1:W.heap.size<=w1.heap.size:=by have:=HI.out.bel.size;omega
   have HR1:=aN (bB HR hB1)
   have HFIN:Hi (∀v2 w2 (t2:Q),t2=mC told p tx->w2.ownsRow W.heap.size 5 1 v2 t2.size (bcells t2)->H W.heap.size w1 w2->(∀(k:Nat) (o:Obj),(∀A,o≠C A 5 (0,0))->w1.heap[k]? =U o->w2.heap[k]? =U o)->
    w2.cell? ⟨R,3,Z⟩=U (S bs told.size cp)/\w2.frozen? ⟨R,3,Z⟩=false/\R<w2.heap.size/\pP W R a m c ta tn tc x told false ov p tx w (Rt (Tu #[])) (w2.setCell ⟨R,3,Z⟩ v2)):=fun v2 w2 t2 e1 h1 h2 h3=>by
    have hg2:w2.heap[R]? =U (dm a m c ta tn tc x (S bs told.size cp) false ov):=h3 R _ (fun A q=>by injection q with _ q _;revert q;decide) (ax HG HB1)
    have hg3:=hg2
    unfold dm at hg3
    refine⟨by simp[Wc,hg3],by simp[Wf,hg3],bm hg2,X,?_,t2,false,.inr ⟨X,hz,e1,X⟩,FO ((HI.bel.trans (HB1.mono HI.bel.size)).trans h2) HI.lo hg2 h1⟩
    exact(rQ.of_below HB1).trans ((⟨h2.size,fun k o _ ho hk=>h3 k o ho hk⟩:rQ R w1 w2).trans (rQ.set _ _))
   by_cases h0:tx.size=0
   ·have HINS:Hi (Cs prog 182 #[S bs told.size cp,I J p,S (U (D w.heap.size 0 Z)) tx.size CAP] w1 fun e w'=>∃v2,e=Rt v2/\w'.ownsRow W.heap.size 5 1 v2 (mC told p tx).size (bcells (mC told p tx))/\H W.heap.size w1 w'/\∀(k:Nat) (o:Obj),(∀A,o≠C A 5 (0,0))->w1.heap[k]? =U o->w'.heap[k]? =U o):=by
     rw[h0]
     refine(CO bs told.size cp p w.heap.size CAP w1 hbs hp hc1 hc2 (fun q=>?_)).mono ?_
     ·subst q
      rcases HR.2 with⟨h,h'⟩|⟨g,_,_,h,_⟩
      ·injection h with _ _ h;exact⟨h',h⟩
      ·injection h with h;cases h
     ·rintro e w' ⟨rfl,rfl⟩
      have e1:mC told p tx=told:=by
       have hb:=qo told tx hp
       have hn:tx=bh:=by
        apply bC
        exact BE h0
       unfold mC
       rw[hn,pA]
       apply bC
       apply Array.toList_inj.1
       rw[eK,eE,Lib.extract_data,Lib.extract_data,gE,Hz,cZ (l:=List.drop p told.data.toList) (by rw[di];exact Ln),List.take_append_drop]
      rw[e1]
      exact⟨_,X,HR1,By,fun _ _ _ h=>h⟩
    clear hv1 hB1 hs1 hW1 hw1 hbs h0
    go_enter func149,ntmps149
    go_wp2_with fail
    refine HINS.mono ?_
    rintro e w2 ⟨v2,rfl,ho2,hb2,hf2⟩
    obtain⟨d3,q3,hR2,hA⟩:=HFIN v2 w2 _ X ho2 hb2 hf2
    obtain⟨bs2,cp2,rfl,_,_,_⟩:=oI ho2
    have HA:=aN hA
    clear ho2 hb2 hf2 hA
    go_wp2
    go_returns
    exact HA
   ·have HINS:Hi (Cs prog 182 #[S bs told.size cp,I J p,S (U (D w.heap.size 0 Z)) tx.size CAP] w1 fun e w'=>∃v2,e=Rt v2/\w'.ownsRow W.heap.size 5 1 v2 (mC told p tx).size (bcells (mC told p tx))/\H W.heap.size w1 w'/\∀(k:Nat) (o:Obj),(∀A,o≠C A 5 (0,0))->w1.heap[k]? =U o->w'.heap[k]? =U o):=by
     rw[mg tx hp,<-qo told tx hp]
     exact D7 W.heap.size _ told.size p w.heap.size tx.size CAP (bcells told) (bcells tx) (bytesRow tx CAP) _ w1 HR1 hp O O hW1 hv1 (by show 0<(bytesRow tx CAP).size;omega) (Dg tx CAP) (xR tx) (qp told) (qp tx)
    clear hv1 hB1 hs1 hW1 hw1 hbs h0
    go_enter func149,ntmps149
    go_wp2_with fail
    refine HINS.mono ?_
    rintro e w2 ⟨v2,rfl,ho2,hb2,hf2⟩
    obtain⟨d3,q3,hR2,hA⟩:=HFIN v2 w2 _ X ho2 hb2 hf2
    obtain⟨bs2,cp2,rfl,_,_,_⟩:=oI ho2
    have HA:=aN hA
    clear ho2 hb2 hf2 hA
    go_wp2
    go_returns
    exact HA
  ·have hzb:decide ((4000:Int)-(told.size:Int)<(tx.size:Int))=true:=aM O
   have hzc:(4000:Int)-(told.size:Int)<(tx.size:Int):=O
   go_enter func149,ntmps149
   go_wp2
   go_returns
   exact⟨X,rQ.set _ _,told,true,.inl ⟨.inr O,X,X⟩,HI.setLong _⟩
theorem AO(c n:Int)(b:Bool)(l:Int)(w:M):Cs prog 155 #[Ag #[I J c,I J n,Bo b],I J l] w fun e w'=>e=Rt (Ag #[I J c,Bo b,I J n,I J 0,I J l])/\H w.heap.size w w':=by
 have HB:Hi (H w.heap.size w w):=By;go_enter func155,ntmps155;go_wp2;refine aS (v:=Ag #[I J c,Bo b,I J n,I J 0,I J l]) (by simp[results,results155,go_sem]) X ⟨X,?_⟩;exact(Be).alloc Sq _
theorem EE(c n:Int)(b:Bool)(l:Nat)(w:M)(sn:Sn->Ad)(hs:dC w sn)(q1:0<=c)(q2:c<=3)(q3:0<=n)(q4:n<=30)(q5:l<=16777215):Cs prog 154 #[Ag #[I J c,Bo b,I J n,I J 0,I J l]] w fun e w'=>e=Rt (Tu #[Y (hdB c b n l),.nilIface])/\H w.heap.size w w':=by
 have h:=Dl ⟨c,b,n,0,l⟩ w sn hs;have e:Hn ⟨c,b,n,0,(l:Int)⟩=(0,Uo (fb ⟨c,b,n,0,(l:Int)⟩).toNat::tl (l:Int)):=by unfold Hn;rw[G (by simp only;omega),G (by simp only;omega)]
 rw[e]at h;exact h
def BQ(W:M)(R:Nat)(a:Oo Ad)(m c:Nat)(ta:Oo Ad)(tn tc x:Nat)(told:Q)(lg:Bool)(ov:Vv)(st:Nat)(cl:Int)(bt:Bool)(nu:Int)(w:M)(e:Ending)(w':M):Prop:=
 pP W R a m c ta tn tc x told lg ov st (hdB cl bt nu (told.size-st)) w e w'
theorem lY(W w:M)(R:Nat)(a:Oo Ad)(m c:Nat)(ta:Oo Ad)(tn tc x:Nat)(told:Q)(lg:Bool)(ov:Vv)(sn:Sn->Ad)(hl:ls W sn)(st:Nat)(cl nu:Int)(bt:Bool)(q1:0<=cl)(q2:cl<=3)(q3:0<=nu)(q4:nu<=30)(hp:st<=told.size)(h4:told.size<=4000)(hI:gS W w R a m c ta tn tc x told lg ov):Cs prog 113 #[Po (U (D R 0 Z)),I J st,Ag #[I J cl,I J nu,Bo bt]] w fun e w'=>BQ W R a m c ta tn tc x told lg ov st cl bt nu w e w':=by
 have HI:=aN hI;have HL:=aN hl;obtain⟨tv,hown,hrow⟩:=hI.own;obtain⟨bs,cp,rfl,hc1,hc2,hbs⟩:=oI hrow;have HG:=aN hown;have HW1:Hi (∀A,H w.heap.size w (w.alloc A)):=fun A=>(By).alloc Ln A;have HFH:Hi _:=fun wq l=>AO cl nu bt l wq;obtain⟨af,hD⟩:∃af:Nat,told.size-st=af:=Ey;have hDi:(told.size:Int)-(st:Int)=(af:Int):=O;have hD4:af<=4000:=O;have HTL:Hi _:=fun wq q=>EE cl nu bt af wq sn ((HL.below HI.bel).below q).s q1 q2 q3 q4 O;have hhs:(hdB cl bt nu af).size<=140737488355328:=by have:=Dp af;unfold hdB;rw[fk,aU];omega
 have HIN:Hi _:=fun wq q=>m6 W wq R a m c ta tn tc x told lg ov st (hdB cl bt nu af) hp h4 hhs q;unfold BQ;rw[hD];have HS:Hi (∀wq,H w.heap.size w wq->wq.cell? (D R 3 Z)=U (S bs told.size cp)):=fun wq q=>by have h:=ax HG q;unfold dm at h;simp[Wc,h]
 have hRl:R<w.heap.size:=bm hown;have hwr:IntKind.i64.wrap ((told.size:Int)-(st:Int))=(af:Int):=by rw[hDi];simp[IntKind.wrap,IntKind.bits,IntKind.signed];omega
 have hwr2:IntKind.i64.wrap (af:Int)=(af:Int):=by simp[IntKind.wrap,IntKind.bits,IntKind.signed];omega
 clear hI hl hown hrow hbs hD q1 q2 q3 q4 hhs;go_enter func113,ntmps113;go_wp2_with fail;generalize hW1:w.alloc (C #[I J cl,I J nu,Bo bt] 149)=w1;have hB1:H w.heap.size w w1:=by rw[<-hW1];exact HW1 _
 have hG1:w1.heap[w.heap.size]? =U (C #[I J cl,I J nu,Bo bt] 149 (0,0)):=by rw[<-hW1];exact aA w _
 have HB1:=aN hB1;have HST:Hi (∀wq,H w1.heap.size w1 wq->wq.cell? (D R 3 Z)=U (S bs told.size cp)/\wq.cell? (D w.heap.size 0 Z)=U (I J cl)/\wq.cell? (D w.heap.size 1 Z)=U (I J nu)/\wq.cell? (D w.heap.size 2 Z)=U (Bo bt)):=fun wq q=>⟨HS wq (HB1.trans (q.mono HB1.size)),cell_of_row (ax hG1 q) X,cell_of_row (ax hG1 q) X,cell_of_row (ax hG1 q) X⟩;obtain⟨k0,k1,k2,k3⟩:=HST w1 By;have hl1:=bm hG1;have hR1:R<w1.heap.size:=by have:=hB1.size;omega
 clear hW1 hB1 hG1;go_region_held_law (fun w'=>w'.cell? (D R 3 Z)=U (S bs told.size cp)/\w'.cell? (D w.heap.size 0 Z)=U (I J cl)/\w'.cell? (D w.heap.size 1 Z)=U (I J nu)/\w'.cell? (D w.heap.size 2 Z)=U (Bo bt)) (first|exact HST _ HB3|exact HST _ HB2|exact HST _ (By).drew |go_keep) (first|(go_at_call 155;refine(HFH _ _).mono ?_;rintro e w2 ⟨rfl,hb2⟩;have HB2:Hi (H w1.heap.size w1 w2):=(aY w1.heap.size w1).drew.trans hb2;clear hb2)|(go_at_call 154;refine(HTL _ (HB1.trans (HB2.mono HB1.size))).mono ?_;rintro e w3 ⟨rfl,hb3⟩;have HB3:Hi (H w1.heap.size w1 w3):=HB2.trans (hb3.mono HB2.size);clear hb3));rename_i hHeld;clear hHeld;go_wp2_with fail;refine(HIN _ (HI.below (HB1.trans (HB3.mono HB1.size)))).mono ?_;rintro e w4 ⟨rfl,hF4,t4,l4,hi4,hE4⟩;have HF4:=aN hF4;have HI4:=aN hi4;have HE4:=aN hE4;clear hF4 hi4 hE4;go_wp2;go_returns;exact⟨X,(rQ.of_below (HB1.trans (HB3.mono HB1.size))).trans HF4,t4,l4,HI4,HE4⟩
end Go.Proofs.YtkkicodfpekbgaaGreatDoor
namespace Go.Proofs.YtkkicodfpekbgaaGreatDoor
def DH(b:Q):Prop:=(hd b).1=0/\(hd b).2.s+(hd b).2.l=b.size
theorem zS(t:Q):bh++t=t:=by
 apply bC;apply Array.toList_inj.1;rw[eK,eE];rfl
theorem vz(t:Q):t++bh=t:=by
 apply bC;apply Array.toList_inj.1;rw[eK,eE];exact pS _
theorem DH.bd{b:Q}(h:DH b):0<=(hd b).2.c/\(hd b).2.c<4/\0<=(hd b).2.n/\(hd b).2.n<31:=by have:=yf h.1 h.2;omega
structure Am(E:cw)(F:dF):Prop where
 s:E.s=F.s
 right:cd F.s
 bg:∀i,i<F.s.length->∀c m,E.bg i c m=true↔oQ F.s i c m
 okE:∀k t,E.ok k t=true↔aR k t
 okF:∀k t,F.ok k t=true↔aR k t
 dv:j0 E
def mz(t:Ls Vl)(p:Nat)(vs:Ls Vl):Prop:=∃pre post,t=pre++vs++post/\pre.length=p
theorem mz.left{t:Ls Vl}{p:Nat}{a b:Ls Vl}(h:mz t p (a++b)):mz t p a:=by obtain⟨pre,post,e,hp⟩:=h;exact⟨pre,b++post,by rw[e];simp,hp⟩
theorem mz.right{t:Ls Vl}{p:Nat}{a b:Ls Vl}(h:mz t p (a++b)):mz t (p+a.length) b:=by obtain⟨pre,post,e,hp⟩:=h;exact⟨pre++a,post,by rw[e];simp,by rw[aQ,hp]⟩
theorem mz.head{t:Ls Vl}{p:Nat}{v:Vl}{vs:Ls Vl}(h:mz t p (v::vs)):p<t.length/\vl t p=v:=by
 obtain⟨pre,post,e,hp⟩:=h;refine⟨by rw[e];simp;omega,?_⟩;rw[e];unfold vl;rw[aB,bE,bu O,hp,Nat.sub_self];rfl
theorem mz.tail{t:Ls Vl}{p:Nat}{v:Vl}{vs:Ls Vl}(h:mz t p (v::vs)):mz t (p+1) vs:=mz.right (a:=[v]) h
theorem wU{F:dF}{f i p:Nat}{dp:Int}{b:Q}{p':Nat}{u:Bool}(h:wrF F f i p dp=U (U (b,p',u))):p<F.t.length/\(vl F.t p).kind=(nd F.s i).kind/\dp<=12:=by
 match f with
 |0=>cases h
 |f+1=>
  rw[wrF]at h
  split at h
  ·rename_i q;exact q
  ·cases h
def Hv(E:cw)(F:dF)(f:Nat):Prop:=∀i x y dp vs z,i<F.s.length->dJ E f i x y dp=U (.ok (vs,z))->y<=E.d.size->∀p,mz F.t p vs->wrF F (f+1) i p dp=U (U (E.d.extract x z,p+vs.length,false))
theorem CH{d:Q}{x y z:Nat}(h1:x<=y)(h2:y<=z):d.extract x y++d.extract y z=d.extract x z:=(ByteArray.extract_eq_extract_append_extract y h1 h2).symm
theorem CI(d:Q)(x:Nat):d.extract x x=bh:=by rw[ByteArray.extract_same];rfl
theorem wv{E:cw}{F:dF}{f:Nat}(hB:Am E F)(hN:Hv E F f){set:Bool}{i:Nat}(hi:i<F.s.length){dp:Int}{z:Nat}(hz:z<=E.d.size):∀(m x:Nat) (last:Q) (j:Nat) (acc:Ls Vl) (j':Nat) (vs':Ls Vl),x<=z->dA E (dJ E f) set i z dp m x last j acc=U (.ok (j',vs'))->
 ∃n vs,j'=j+n/\vs'=acc++vs/\∀(p:Nat) (out:Q) (u:Bool),mz F.t p vs->eG F (wrF F (f+1)) set i dp m (n:Nat) p out last u=U (U (out++E.d.extract x z,p+vs.length,u))
 |0,_,_,_,_,_,_,_,e=>by cases e
 |m+1,x,last,j,acc,j',vs',hx,e=>by
  unfold dA at e
  split at e
  ·obtain⟨vs1,z1,h1,h2⟩:=cY e
   split at h2
   ·cases h2
   rename_i hset
   have hb:=iC (by rw[hB.s];exact hB.right.fine) (by rw[hB.s];exact hi) h1
   obtain⟨n,vs,hj,hv,hw⟩:=wv hB hN hi hz m z1 _ _ _ _ _ hb.2.2.1 h2
   refine⟨n+1,vs1++vs,O,by rw[hv,bE],fun p out u hl=>?_⟩
   unfold eG
   rw[aG O,hN i x z dp vs1 z1 hi h1 hz p hl.left]
   unfold cP.andThen
   simp only
   have hsb:(set&&eZ (E.d.extract x z1) last)=false:=by
    cases set with
    |false=>rfl
    |true=>exact Bool.eq_false_iff.2 fun q=>hset ⟨X,q⟩
   rw[hsb,oj,oj,show(((n+1:Nat):Int)-1)=(n:Int)by omega,hw _ _ _ hl.right,jO,CH O hb.2.2.1,aQ,eU]
  ·cases e
   refine⟨0,[],X,Sq,fun p out u _=>?_⟩
   unfold eG
   rw[G O,show x=z by omega,CI,vz]
   rfl
theorem pN{E:cw}{F:dF}{f:Nat}(hB:Am E F)(hN:Hv E F f){i:Nat}(hi:i<F.s.length){dp:Int}{z:Nat}(hz:z<=E.d.size):∀(c j x:Nat) (acc vs':Ls Vl) (z':Nat),j+c=(nd F.s i).kids.length->x<=z->de E (dJ E f) z (dp+1) ((nd F.s i).kids.drop j) x acc=U (.ok (vs',z'))->
 ∃vs,vs'=acc++vs/\∀(p:Nat) (out:Q) (u:Bool),mz F.t p vs->dP F (wrF F (f+1)) dp ((nd F.s i).kids.drop j) p out u=U (U (out++E.d.extract x z,p+vs.length,u))
 |0,j,x,acc,vs',z',hj,hx,e=>by
  rw[eA O]at e ⊢
  unfold de at e
  split at e
  ·cases e
  ·cases e
   refine⟨[],Sq,fun p out u _=>?_⟩
   unfold dP
   rw[show x=z by omega,CI,vz]
   rfl
 |c+1,j,x,acc,vs',z',hj,hx,e=>by
  have hjl:j<(nd F.s i).kids.length:=O
  have hkm:=fU hjl
  have hw:=hB.right.fine.within i hi _ hkm
  have hi':(kd (nd F.s i) j).node.toNat<F.s.length:=O
  obtain⟨hk1,hk14,_⟩:=dE hB.right hi'
  have hDf:=(hB.right.2.2.2.2 i hi).2 j hjl
  have hKo:=(hB.right.2.2.1 i hi).2.2.2 j hjl
  rw[iY hjl]at e ⊢
  unfold de at e
  split at e
  ·cases e
  split at e
  ·obtain⟨vs1,z1,h1,h2⟩:=cY e
   split at h2
   ·cases h2
   rename_i hne
   have hb:=iC (by rw[hB.s];exact hB.right.fine) (by rw[hB.s];exact hi') h1
   obtain⟨vs,hv,hw2⟩:=pN hB hN hi hz c (j+1) z1 _ _ _ O hb.2.2.1 h2
   refine⟨vs1++vs,by rw[hv,bE],fun p out u hl=>?_⟩
   have hw1:=hN _ _ _ _ _ _ hi' h1 hz p hl.left
   have hhere:=wU hw1
   have hw1':wrF F (f+1) (kd (nd F.s i) j).node.toNat p (if(kd (nd F.s i) j).dflt.size=0 then dp+1 else 1)=U (U (E.d.extract x z1,p+vs1.length,false)):=by
    by_cases hd:(kd (nd F.s i) j).dflt.size=0
    ·rw[aG hd];exact hw1
    ·rw[G hd]
     obtain⟨hk9,_⟩:=hDf.resolve_left hd
     rw[kS hk1 hk9]at hw1 ⊢
     split at hw1
     ·rename_i q
      rw[aG ⟨⟨q.1.1,q.1.2.1,Dc⟩,q.2⟩]
      exact hw1
     ·cases hw1
   unfold dP
   rw[G (fun q=>by have:=q.2.2;omega),hw1']
   unfold cP.andThen
   simp only
   rw[G (fun q=>hne q.2),G O,oj,hw2 _ _ _ hl.right,jO,CH O hb.2.2.1,aQ,eU]
  split at e
  ·rename_i ho
   obtain⟨vs,hv,hw2⟩:=pN hB hN hi hz c (j+1) x _ _ _ O hx e
   refine⟨⟨15,bh,0,0⟩::vs,by rw[hv,bE];rfl,fun p out u hl=>?_⟩
   obtain⟨g1,g2⟩:=hl.head
   unfold dP
   rw[aG ⟨ho,g1,by rw[g2]⟩,aG (by rw[g2];exact⟨X,X,X⟩),hw2 _ _ _ hl.tail,aU,eU,jR 1]
  split at e
  ·rename_i ho hd
   obtain⟨hk9,_⟩:=hDf.resolve_left hd
   obtain⟨y,e1,e2,_⟩:=hB.dv i (by rw[hB.s];exact hi) (kd (nd F.s i) j) (by rw[hB.s];exact hkm) hd
   rw[hB.s]at e1 e2
   rw[e2]at e
   obtain⟨vs,hv,hw2⟩:=pN hB hN hi hz c (j+1) x _ _ _ O hx e
   refine⟨⟨(nd F.s (kd (nd F.s i) j).node.toNat).kind,y,0,0⟩::vs,by rw[hv,bE];rfl,fun p out u hl=>?_⟩
   obtain⟨g1,g2⟩:=hl.head
   have hle:=(sJ hB.right hi' hk9 e1).2 X
   have hco:aR (nd F.s (kd (nd F.s i) j).node.toNat).kind y:=by
    obtain⟨_,_,hT1,hT2,hT3,hT4,hT5⟩:=dE hB.right hi'
    exact((fE (fun z=>hT3 O) O).1 e1).2
   unfold dP
   rw[G (fun q=>ho q.1),G hd,kS hk1 hk9,g2,aG ⟨⟨g1,X,Dc⟩,(hB.okF _ _).2 hco,X,X⟩]
   unfold cP.andThen
   simp only
   rw[aG ⟨hd,hle⟩,oj,hw2 _ _ _ hl.tail,aU,eU,jR 1]
  split at e<;>cases e
theorem qC{E:cw}{rec:im}{h:Hd}{x z:Nat}{dp:Int}{n:Nd}:∀(c j:Nat) {vs':Ls Vl} {z':Nat},j+c=n.kids.length->bU E rec h x z dp (n.kids.drop j) j=U (.ok (vs',z'))->∃a vs z1,a<n.kids.length/\vs'=⟨13,bh,(a:Nat),1⟩::vs/\rec (kd n a).node.toNat x z dp=U (.ok (vs,z1))
 |0,j,vs',z',hj,e=>by
  rw[eA O]at e
  unfold bU at e
  cases e
 |c+1,j,vs',z',hj,e=>by
  rw[iY O]at e
  unfold bU at e
  split at e
  ·obtain⟨vs,z1,h1,h2⟩:=cY e
   cases h2
   exact⟨j,vs,z1,O,X,h1⟩
  ·exact qC c (j+1) O e
theorem E3{E:cw}{x y:Nat}(h:(E.hd x y).1=0)(hy:y<=E.d.size):DH (E.d.extract x (iH x (E.hd x y).2))/\hd (E.d.extract x (iH x (E.hd x y).2))=E.hd x y/\E.hd x (iH x (E.hd x y).2)=E.hd x y/\iH x (E.hd x y).2<=y/\E.d.extract x (iH x (E.hd x y).2)=eN (E.hd x y).2.c (E.hd x y).2.b (E.hd x y).2.n (E.d.extract (x+(E.hd x y).2.s.toNat) (iH x (E.hd x y).2)):=by
 have h1:=dZ h;have h2:=ix h;have ha:=nP h (z:=iH x (E.hd x y).2) Ln h1.2.2.2 hy;have he:hd (E.d.extract x (iH x (E.hd x y).2))=E.hd x y:=ha;have hz:=fB E.d x (iH x (E.hd x y).2);have hel:DH (E.d.extract x (iH x (E.hd x y).2)):=⟨by rw[he];exact h,by rw[he];omega⟩;have hb:=(yf hel.1 hel.2).1;rw[he]at hb;refine⟨hel,he,ha,h1.2.2.1,?_⟩;rw[fH,hz]at hb;rw[Nat.min_eq_right O]at hb;exact hb
theorem qm{E:cw}{F:dF}{f:Nat}(hB:Am E F)(hN:Hv E F f){i:Nat}(hi:i<F.s.length){x y:Nat}{dp cl nu:Int}{vs:Ls Vl}{z:Nat}(hh:(E.hd x y).1=0)(hy:y<=E.d.size)(e:cF E (dJ E f) f (nd F.s i) cl nu (E.hd x y).2 x (iH x (E.hd x y).2) dp=U (.ok (vs,z))){p:Nat}(hl:mz F.t p vs):p<F.t.length/\(vl F.t p).kind=(nd F.s i).kind/\dp<=12/\dO F (wrF F (f+1)) (f+1) (nd F.s i) cl nu (vl F.t p) (p+1) dp=U (U (E.d.extract x (iH x (E.hd x y).2),p+vs.length,false)):=by
 obtain⟨hel,he,ha,hfy,hb⟩:=E3 hh hy;have hfl:=dZ hh;unfold cF at e;unfold dO;by_cases k13:(nd F.s i).kind=13
 ·rw[aG k13]at e ⊢;obtain⟨a,vs1,z1,h1,h2,h3⟩:=qC (n:=nd F.s i) (nd F.s i).kids.length 0 O (by rw[gE];exact e);subst h2;have hw:=hB.right.fine.within i hi _ (fU h1);obtain⟨g1,g2⟩:=hl.head;have hz1:=(gB h3).2;rw[ha]at hz1;have hw1:=hN _ _ _ _ _ _ O h3 hfl.2.2.2 (p+1) hl.tail;have hhere:=wU hw1;refine⟨g1,by rw[g2];exact k13.symm,hhere.2.2,?_⟩;rw[g2];rw[aG ⟨X,X,fx _,Int.ofNat_lt.2 h1⟩,show((a:Nat):Int).toNat=a by omega,hw1,hz1,aU,eU,jR 1]
 rw[G k13]at e ⊢;split at e
 ·cases e
 rename_i hck;split at e
 ·cases e
 rename_i hdp;by_cases k14:(nd F.s i).kind=14
 ·rw[aG k14]at e ⊢;cases e;obtain⟨g1,g2⟩:=hl.head;refine⟨g1,by rw[g2];exact k14.symm,O,?_⟩;rw[g2];rw[aG ⟨hel.1,hel.2,X,X⟩];rfl
 rw[G k14]at e ⊢;have hck':(E.hd x y).2.c=cl/\(E.hd x y).2.n=nu/\(E.hd x y).2.b=decide (10<=(nd F.s i).kind/\(nd F.s i).kind<=12):=Classical.not_not.1 fun q=>hck ⟨k14,q⟩;obtain⟨c1,c2,c3⟩:=hck';rw[c1,c2,c3]at hb;by_cases k10:(nd F.s i).kind=10
 ·rw[aG k10]at e ⊢;split at e
  ·cases e
  ·cases e
  rename_i vs1 z1 h1;cases e;obtain⟨vs2,hv,hw⟩:=pN hB hN hi hfl.2.2.2 (nd F.s i).kids.length 0 _ _ _ _ O hfl.2.1 (by rw[gE];exact h1);rw[gE]at hw;rw[fg]at hv;subst hv;obtain⟨g1,g2⟩:=hl.head;refine⟨g1,by rw[g2];exact k10.symm,O,?_⟩;rw[g2];rw[aG ⟨X,X,X⟩,hw _ _ _ hl.tail];unfold cP.andThen;simp only;rw[zS,hb,aU,eU,jR 1,show decide (10<=(nd F.s i).kind/\(nd F.s i).kind<=12)=true by rw[k10];rfl]
 rw[G k10]at e ⊢;by_cases k12:10<=(nd F.s i).kind/\(nd F.s i).kind<=12
 ·rw[aG k12]at e ⊢;split at e
  ·cases e
  ·cases e
  rename_i j1 vs1 h1;cases e;have h1k:=hB.right.fine.one i hi O;have hw0:=hB.right.fine.within i hi _ (fU (n:=nd F.s i) (i:=0) O);obtain⟨n,vs2,hj,hv,hw⟩:=wv hB hN (i:=(kd (nd F.s i) 0).node.toNat) O hfl.2.2.2 f _ _ _ _ _ _ hfl.2.1 h1;rw[fg]at hv;rw[b9]at hj;subst hv hj;obtain⟨g1,g2⟩:=hl.head;refine⟨g1,by rw[g2],O,?_⟩;rw[g2];rw[aG ⟨X,X,fx _⟩,oO (fun _ _ _ _ h=>h) f (f+1) _ _ _ _ _ _ O (hw _ bh false hl.tail)];unfold cP.andThen;simp only;rw[zS,hb,aU,eU,jR 1,show decide (10<=(nd F.s i).kind/\(nd F.s i).kind<=12)=true by simp[k12]]
 rw[G k12]at e ⊢;split at e
 ·rename_i hok;cases e;obtain⟨g1,g2⟩:=hl.head;refine⟨g1,by rw[g2],O,?_⟩;rw[g2];rw[aG ⟨(hB.okF _ _).2 ((hB.okE _ _).1 hok),X,X⟩];conv=>rhs;rw[hb]
  rw[show decide (10<=(nd F.s i).kind/\(nd F.s i).kind<=12)=false by simp[k12]];rfl
 cases e
theorem nO{E:cw}{F:dF}(hB:Am E F):∀f,Hv E F f
 |0=>fun _ _ _ _ _ _ _ h=>by cases h
 |f+1=>fun i x y dp vs z hi h hy p hl=>by
  obtain⟨hk1,hk14,hT1,hT2,hT3,hT4,hT5⟩:=dE hB.right hi
  obtain⟨hh,hzf⟩:=gB h
  subst hzf
  have hfl:=dZ hh
  obtain⟨hel,he,ha,hfy,hb⟩:=E3 hh hy
  rw[dJ,G (fun q=>q hh)]at h
  unfold iQ at h
  rw[hB.s]at h
  rw[wrF]
  by_cases ht:(nd F.s i).tag<0
  ·rw[aG ht]at h
   obtain⟨a1,a2,a3,a4⟩:=qm hB (nO hB f) hi hh hy h hl
   have hm:(nd F.s i).mode≠1:=by have:=hT3 O;omega
   unfold nl np
   rw[aG ⟨a1,a2,a3⟩,G O,G O,a4]
   unfold cP.andThen
   simp only
   rw[G hm]
  rw[G ht]at h
  by_cases hm:(nd F.s i).mode=0
  ·rw[aG hm]at h
   obtain⟨a1,a2,a3,a4⟩:=qm hB (nO hB f) hi hh hy h hl
   unfold nl np
   rw[aG ⟨a1,a2,a3⟩,aG ⟨O,hm⟩,aG ⟨O,hm⟩,a4]
   unfold cP.andThen
   simp only
   rw[G O]
  rw[G hm]at h
  have hm1:(nd F.s i).mode=1:=by have:=pF hB.right.2.2.1 hi;omega
  split at h
  ·cases h
  rename_i hck
  obtain⟨c1,c2,c3⟩:=Classical.not_not.1 hck
  split at h
  ·cases h
  split at h
  ·cases h
  rename_i hh1
  have hh1:=Classical.not_not.1 hh1
  obtain⟨vs1,z1,h1,h2⟩:=cY h
  split at h2
  ·cases h2
  rename_i hlt
  cases h2
  obtain⟨a1,a2,a3,a4⟩:=qm hB (nO hB f) hi hh1 hfl.2.2.2 h1 hl
  have hfl1:=dZ hh1
  unfold nl np
  rw[aG ⟨a1,a2,a3⟩,G O,G O,a4]
  unfold cP.andThen
  simp only
  rw[aG hm1,hb,c1,c2,c3,show iH (x+(E.hd x y).2.s.toNat) (E.hd (x+(E.hd x y).2.s.toNat) (iH x (E.hd x y).2)).2=iH x (E.hd x y).2 by omega]
end Go.Proofs.YtkkicodfpekbgaaGreatDoor
namespace Go.Proofs.YtkkicodfpekbgaaGreatDoor
open Go.Proofs.Tryz
open Go.RowKit
def DE(w:M):Prop:=w.cell? (D 13 0 Z)=U (If 220 (Ag #[Po (U (D 19 85 Z))]))
theorem DE.below{w w':M}(h:DE w)(hb:H w.heap.size w w'):DE w':=(hb.cell (aw h)).trans h
theorem zT(z:Int)(w:M):Cs prog 17 #[I J z] w fun e w'=>e=Rt (I J z)/\w'=w:=by
 go_enter func17,ntmps17;go_wp2;go_ret;exact⟨X,X⟩
end Go.Proofs.YtkkicodfpekbgaaGreatDoor
namespace Go.Proofs.YtkkicodfpekbgaaGreatDoor
open Go.Proofs.Tryz
open Go.ChangeShapes Go.WideShapes Go.ChangeAt Go.WideMaps Go.WideElems Go.RowKit Go.Lib
theorem Ck:prog.globalNamed "errors.errorType" =U 13:=Kr
theorem Aw:(prog.cutTypes.find? (·.1== "internal/reflectlite.rtype")).map (·.2)=U 220:=Kr
theorem vw:((List.range 324).filter fun t=>prog.rowNamed t [101,114,114,111,114])=[85]:=Kr
theorem xE:prog.types.size=324:=Kr
theorem Av:typeHandle prog 85= .pointer (U (D 19 85 Z)):=Kr
theorem mD{W:M}(h:laidMetH prog [("unicode/utf8.acceptRanges",Rows.laid_unicode_utf8_acceptRanges),("errors.errorType",Rows.laid_errors_errorType),("hallmark/fault.Schema",Rows.laid_hallmark_fault_Schema),("hallmark/fault.Long",Rows.laid_hallmark_fault_Long),("hallmark/fault.End",Rows.laid_hallmark_fault_End),("hallmark/fault.Tag",Rows.laid_hallmark_fault_Tag),("hallmark/fault.Length",Rows.laid_hallmark_fault_Length),("hallmark/fault.Value",Rows.laid_hallmark_fault_Value),("hallmark/fault.More",Rows.laid_hallmark_fault_More),("hallmark/fault.Order",Rows.laid_hallmark_fault_Order),("hallmark/fault.Default",Rows.laid_hallmark_fault_Default),("hallmark/fault.Deep",Rows.laid_hallmark_fault_Deep),("hallmark/fault.Tree",Rows.laid_hallmark_fault_Tree),("hallmark/fault.Card",Rows.laid_hallmark_fault_Card),("hallmark/fault.Mark",Rows.laid_hallmark_fault_Mark),("hallmark/content.monthDays",Rows.laid_hallmark_content_monthDays),("hallmark/schemas.ownNumbers",Rows.laid_hallmark_schemas_ownNumbers),("unicode/utf8.first",Rows.laid_unicode_utf8_first)] W):∃sn za,ls W sn/\jM W sn za/\DE W:=by
 have h':laidMet prog [("unicode/utf8.acceptRanges",Rows.laid_unicode_utf8_acceptRanges),("hallmark/fault.Schema",Rows.laid_hallmark_fault_Schema),("hallmark/fault.Long",Rows.laid_hallmark_fault_Long),("hallmark/fault.End",Rows.laid_hallmark_fault_End),("hallmark/fault.Tag",Rows.laid_hallmark_fault_Tag),("hallmark/fault.Length",Rows.laid_hallmark_fault_Length),("hallmark/fault.Value",Rows.laid_hallmark_fault_Value),("hallmark/fault.More",Rows.laid_hallmark_fault_More),("hallmark/fault.Order",Rows.laid_hallmark_fault_Order),("hallmark/fault.Default",Rows.laid_hallmark_fault_Default),("hallmark/fault.Deep",Rows.laid_hallmark_fault_Deep),("hallmark/fault.Tree",Rows.laid_hallmark_fault_Tree),("hallmark/fault.Card",Rows.laid_hallmark_fault_Card),("hallmark/fault.Mark",Rows.laid_hallmark_fault_Mark),("hallmark/content.monthDays",Rows.laid_hallmark_content_monthDays),("hallmark/schemas.ownNumbers",Rows.laid_hallmark_schemas_ownNumbers),("unicode/utf8.first",Rows.laid_unicode_utf8_first)] W/\handlesMet prog [("errors.errorType",Rows.laid_errors_errorType)] W:=h;obtain⟨sn,za,h1,h2⟩:=m8 (W:=W) (by rw[MakeChecks.laidMetH_plain _ _ _ Kr];exact h'.1);refine⟨sn,za,h1,h2,?_⟩;obtain⟨name,u,ty,e1,e2,e3,e4,e5⟩:=h'.2 _ (List.mem_singleton.2 X);have en:name=[101,114,114,111,114]:=(aK e1).symm;subst en;obtain rfl:=aK (Aw.symm.trans e2);have hm:ty∈(List.range 324).filter fun t=>prog.rowNamed t [101,114,114,111,114]:=pT.2 ⟨List.mem_range.2 (by rw[<-xE];exact e3),e4⟩;rw[vw]at hm;obtain rfl:=List.mem_singleton.1 hm;rw[Av]at e5;have:=bA Ck e5 0;unfold DE;simpa using this
def pO(w:M):M:=
 {w with heap:=w.heap.modify 13 fun o=>match o with
  | .cells _ t fr=> .cells #[.iface 220 (.agg #[.pointer (U (D 19 85 Z))])] t fr
  |o=>o}
theorem uw{P:Program}{w0:M}{laid:Ls (String×DataW Unit)}(args:Array Vv)(hf:w0.layFits P laid []=true)(hi:w0.layIfaces P laid (w0.layVars P laid)=true):laidMet P laid ((w0.layVars P laid).forCall (fun _ _=>0) ⟨#[],args,[]⟩).memory:=by
 have hin:∀x∈laid,(laid.map (·.1)).contains x.1=true:=fun x hx=>List.contains_iff_mem.2 (List.mem_map.2 ⟨x,hx,X⟩);have e1:(laid.filter fun x=>(laid.map (·.1)).contains x.1)=laid:=List.filter_eq_self.2 hin;have e2:(laid.filter fun x=> !(laid.map (·.1)).contains x.1)=[]:=List.filter_eq_nil_iff.2 fun x hx=>by rw[hin x hx];simp
 have h:laidMet P laid (w0.layVars P laid):=laidMet_layVars (w0:=w0) (laid.map (·.1)) [] (by rw[e1]) (by rw[e1];exact hf) (by rw[e1];exact hi) (by rw[e2];exact LaidIn.none);exact h.of_heap (by simp[World.memory,World.forCall,Input.heap])
theorem wB(os:Os)(args:Array Vv):laidMetH prog [("unicode/utf8.acceptRanges",Rows.laid_unicode_utf8_acceptRanges),("errors.errorType",Rows.laid_errors_errorType),("hallmark/fault.Schema",Rows.laid_hallmark_fault_Schema),("hallmark/fault.Long",Rows.laid_hallmark_fault_Long),("hallmark/fault.End",Rows.laid_hallmark_fault_End),("hallmark/fault.Tag",Rows.laid_hallmark_fault_Tag),("hallmark/fault.Length",Rows.laid_hallmark_fault_Length),("hallmark/fault.Value",Rows.laid_hallmark_fault_Value),("hallmark/fault.More",Rows.laid_hallmark_fault_More),("hallmark/fault.Order",Rows.laid_hallmark_fault_Order),("hallmark/fault.Default",Rows.laid_hallmark_fault_Default),("hallmark/fault.Deep",Rows.laid_hallmark_fault_Deep),("hallmark/fault.Tree",Rows.laid_hallmark_fault_Tree),("hallmark/fault.Card",Rows.laid_hallmark_fault_Card),("hallmark/fault.Mark",Rows.laid_hallmark_fault_Mark),("hallmark/content.monthDays",Rows.laid_hallmark_content_monthDays),("hallmark/schemas.ownNumbers",Rows.laid_hallmark_schemas_ownNumbers),("unicode/utf8.first",Rows.laid_unicode_utf8_first)] (((pO (World.holding prog os ⟨#[],#[],[]⟩)).layVars prog [("unicode/utf8.acceptRanges",Rows.laid_unicode_utf8_acceptRanges),("hallmark/fault.Schema",Rows.laid_hallmark_fault_Schema),("hallmark/fault.Long",Rows.laid_hallmark_fault_Long),("hallmark/fault.End",Rows.laid_hallmark_fault_End),("hallmark/fault.Tag",Rows.laid_hallmark_fault_Tag),("hallmark/fault.Length",Rows.laid_hallmark_fault_Length),("hallmark/fault.Value",Rows.laid_hallmark_fault_Value),("hallmark/fault.More",Rows.laid_hallmark_fault_More),("hallmark/fault.Order",Rows.laid_hallmark_fault_Order),("hallmark/fault.Default",Rows.laid_hallmark_fault_Default),("hallmark/fault.Deep",Rows.laid_hallmark_fault_Deep),("hallmark/fault.Tree",Rows.laid_hallmark_fault_Tree),("hallmark/fault.Card",Rows.laid_hallmark_fault_Card),("hallmark/fault.Mark",Rows.laid_hallmark_fault_Mark),("hallmark/content.monthDays",Rows.laid_hallmark_content_monthDays),("hallmark/schemas.ownNumbers",Rows.laid_hallmark_schemas_ownNumbers),("unicode/utf8.first",Rows.laid_unicode_utf8_first)]).forCall (fun _ _=>0) ⟨#[],args,[]⟩).memory:=by
 have e0:([("unicode/utf8.acceptRanges",Rows.laid_unicode_utf8_acceptRanges),("errors.errorType",Rows.laid_errors_errorType),("hallmark/fault.Schema",Rows.laid_hallmark_fault_Schema),("hallmark/fault.Long",Rows.laid_hallmark_fault_Long),("hallmark/fault.End",Rows.laid_hallmark_fault_End),("hallmark/fault.Tag",Rows.laid_hallmark_fault_Tag),("hallmark/fault.Length",Rows.laid_hallmark_fault_Length),("hallmark/fault.Value",Rows.laid_hallmark_fault_Value),("hallmark/fault.More",Rows.laid_hallmark_fault_More),("hallmark/fault.Order",Rows.laid_hallmark_fault_Order),("hallmark/fault.Default",Rows.laid_hallmark_fault_Default),("hallmark/fault.Deep",Rows.laid_hallmark_fault_Deep),("hallmark/fault.Tree",Rows.laid_hallmark_fault_Tree),("hallmark/fault.Card",Rows.laid_hallmark_fault_Card),("hallmark/fault.Mark",Rows.laid_hallmark_fault_Mark),("hallmark/content.monthDays",Rows.laid_hallmark_content_monthDays),("hallmark/schemas.ownNumbers",Rows.laid_hallmark_schemas_ownNumbers),("unicode/utf8.first",Rows.laid_unicode_utf8_first)].filter fun(x:String×DataW Unit)=>x.2.handleName?.isNone)=[("unicode/utf8.acceptRanges",Rows.laid_unicode_utf8_acceptRanges),("hallmark/fault.Schema",Rows.laid_hallmark_fault_Schema),("hallmark/fault.Long",Rows.laid_hallmark_fault_Long),("hallmark/fault.End",Rows.laid_hallmark_fault_End),("hallmark/fault.Tag",Rows.laid_hallmark_fault_Tag),("hallmark/fault.Length",Rows.laid_hallmark_fault_Length),("hallmark/fault.Value",Rows.laid_hallmark_fault_Value),("hallmark/fault.More",Rows.laid_hallmark_fault_More),("hallmark/fault.Order",Rows.laid_hallmark_fault_Order),("hallmark/fault.Default",Rows.laid_hallmark_fault_Default),("hallmark/fault.Deep",Rows.laid_hallmark_fault_Deep),("hallmark/fault.Tree",Rows.laid_hallmark_fault_Tree),("hallmark/fault.Card",Rows.laid_hallmark_fault_Card),("hallmark/fault.Mark",Rows.laid_hallmark_fault_Mark),("hallmark/content.monthDays",Rows.laid_hallmark_content_monthDays),("hallmark/schemas.ownNumbers",Rows.laid_hallmark_schemas_ownNumbers),("unicode/utf8.first",Rows.laid_unicode_utf8_first)]:=X;refine laidMetH_of_parts ?_ Kr;rw[e0];exact uw args Kr Kr
end Go.Proofs.YtkkicodfpekbgaaGreatDoor
