/- Parts. -/
import Derived.Test.YtkkicodfpekbgaaGreatDoorJe0
open Go.Value renaming int->I,string->Y,slice->S,pointer->Po,bool->Bo,agg->Ag
open Go.IntKind renaming i64->J
open Go.Obj renaming cells->C
open Go.Ending renaming returned->Rt
open Option renaming some->U,none->Z
open Go renaming World->M,Calls->Cs,Addr->Ad,Value->Vv
open _root_ renaming ByteArray->Q,Option->Oo,List->Ls
open Go.RowKit renaming Below->H,intOf->Io,Hid->Hi
open Go.World renaming cell?->Wc
open UInt8 renaming ofNat->Uo
open Go.Addr renaming mk->D
set_option linter.all false
set_option maxRecDepth 100000
set_option maxHeartbeats 8000000
namespace Go.Proofs.YtkkicodfpekbgaaGreatDoor
variable{no tu u:Bool}{h:Hd}{dp:Int}{W w w' w1:M}{x tz i m n R c tn tc:Nat}{a ta:Oo Ad}{out last:Q}
section
open Go.RowKit
def vr(o:bz):Prop:=∀e q,o= .error (e,q)->3<=e/\e<=10
theorem Ol{E:bj}{y:Nat}(h:(E.hd x y).1≠0):3<=(E.hd x y).1/\(E.hd x y).1<=10:=by
 have:=Vm (E.d.extract x y);unfold bj.hd at h ⊢;omega
theorem Tw{E:bj}{rec:fe}(hr:∀i x y dp o,rec i x y dp=U o->vr o):∀(ks:Ls Kd) (j:Nat) {o:bz},gu E rec h x tz dp ks j=U o->vr o
 | [],_,o,e=>by unfold gu at e;cases e;intro a b q;cases q;decide
 |k::ks,j,o,e=>by
  unfold gu at e
  split at e
  ·rcases mg e with⟨u,h1,rfl⟩|⟨vs,z,h1,h2⟩
   ·exact hr _ _ _ _ _ h1
   ·cases h2;intro a b q;cases q
  ·exact Tw hr ks (j+1) e
theorem Kl{E:bj}{rec:fe}(hr:∀i x y dp o,rec i x y dp=U o->vr o):∀(ks:Ls Kd) (x:Nat) (aE:Ls Vl) {o:bz},dr E rec tz dp ks x aE=U o->vr o
 | [],x,aE,o,e=>by unfold dr at e;split at e<;> (cases e;intro a b q;cases q<;>decide)
 |k::ks,x,aE,o,e=>by
  unfold dr at e
  split at e
  ·rename_i q;cases e;intro a b p;cases p;exact Ol q.2
  split at e
  ·rcases mg e with⟨u,h1,rfl⟩|⟨vs,z,h1,h2⟩
   ·exact hr _ _ _ _ _ h1
   ·split at h2
    ·cases h2;intro a b q;cases q;decide
    ·exact Kl hr ks _ _ h2
  split at e
  ·exact Kl hr ks _ _ e
  split at e
  ·exact Kl hr ks _ _ e
  split at e<;> (cases e;intro a b q;cases q<;>decide)
theorem Wp{set:Bool}{E:bj}{rec:fe}(hr:∀i x y dp o,rec i x y dp=U o->vr o):∀(m x:Nat) (last:Q) (j:Nat) (aE:Ls Vl) {v:Except (Int×Int) (Nat×Ls Vl)},ic E rec set i tz dp m x last j aE=U v->∀e q,v= .error (e,q)->3<=e/\e<=10
 |0,_,_,_,_,_,e=>by cases e
 |m+1,x,last,j,aE,v,e=>by
  unfold ic at e
  split at e
  ·rcases mg e with⟨u,h1,rfl⟩|⟨vs,z,h1,h2⟩
   ·intro a b q;cases q;exact hr _ _ _ _ _ h1 _ _ X
   ·split at h2
    ·cases h2;intro a b q;cases q;decide
    ·exact Wp hr m _ _ _ _ h2
  ·cases e;intro a b q;cases q
theorem Nf{E:bj}{rec:fe}(hr:∀i x y dp o,rec i x y dp=U o->vr o){n:Nd}{cl nu:Int}{o:bz}(e:fc E rec m n cl nu h x tz dp=U o):vr o:=by
 unfold fc at e;split at e;·exact Tw hr _ _ e
 split at e;·cases e;intro a b q;cases q;decide
 split at e;·cases e;intro a b q;cases q;decide
 split at e;·cases e;intro a b q;cases q
 split at e
 ·split at e;·cases e
  ·rename_i u hs;cases e;intro a b q;cases q;exact Kl hr _ _ _ hs _ _ X
  cases e;intro a b q;cases q
 split at e
 ·split at e;·cases e
  ·rename_i u hs;cases e;intro a b q;cases q;exact Wp hr _ _ _ _ _ hs _ _ X
  cases e;intro a b q;cases q
 split at e;·cases e;intro a b q;cases q
 cases e;intro a b q;cases q;decide
theorem aiV{E:bj}{rec:fe}(hr:∀i x y dp o,rec i x y dp=U o->vr o){o:bz}(e:lr E rec m i h x tz dp=U o):vr o:=by
 unfold lr at e;split at e;·exact Nf hr e
 split at e;·exact Nf hr e
 split at e;·cases e;intro a b q;cases q;decide
 split at e;·cases e;intro a b q;cases q;decide
 split at e;·rename_i q;cases e;intro a b p;cases p;exact Ol q
 rcases mg e with⟨u,h1,rfl⟩|⟨vs,z,h1,h2⟩;·exact Nf hr h1
 split at h2<;> (cases h2;intro a b q;cases q<;>decide)
theorem Yl{E:bj}:∀(f i x y:Nat) (dp:Int) (o:bz),cd E f i x y dp=U o->vr o
 |0,_,_,_,_,_,e=>by cases e
 |f+1,i,x,y,dp,o,e=>by
  rw[cd]at e
  split at e
  ·rename_i q;cases e;intro a b p;cases p;exact Ol q
  ·exact aiV (Yl f) e
theorem ahH{E:bj}{f root:Nat}{v:Except (Int×Int) (Ls Vl)}(h:jh E f root=U v):∀e q,v= .error (e,q)->3<=e/\e<=10:=by
 unfold jh at h;rcases mg h with⟨u,h1,rfl⟩|⟨vs,z,h1,h2⟩;·intro a b q;cases q;exact Yl _ _ _ _ _ _ h1 _ _ X
 split at h2<;> (cases h2;intro a b q;cases q<;>decide)
end
section
open Go.Proofs.Tryz
open Go.RowKit
theorem Og(c:Int)(b:Bool)(n:Int)(s:Q)(w:M)(q1:0<=c)(q2:c<=3)(q3:0<=n)(q4:n<=30)(hs:s.size<=16777215):Cs prog 83 #[I J c,Bo b,I J n,Y s] w fun e w'=>e=Rt (Y (cf c b n s))/\Bw w w':=by
 have HT:Hi (∀wq,Cs prog 130 #[I J c,Bo b,I J n,I J s.size] wq fun e w'=>e=Rt (Y ⟨(Uo (fb ⟨c,b,n,0,s.size⟩).toNat::tl s.size).toArray⟩)/\Bw wq w'):=fun wq=>aaT ⟨c,b,n,0,s.size⟩ wq q1 q2 q3 q4 (by show(0:Int)<=s.size;omega) (by show(s.size:Int)<=16777215;omega);have fK:(⟨(Uo (fb ⟨c,b,n,0,s.size⟩).toNat::tl s.size).toArray⟩:Q).size<=5:=by have h:=Qg s.size;show(Uo _::tl s.size).toArray.size<=5;rw[vy,fu];omega
 have cG:Hi (cf c b n s=⟨(Uo (fb ⟨c,b,n,0,s.size⟩).toNat::tl s.size).toArray⟩++s):=X;rw[cG.out];clear cG;generalize(⟨(Uo (fb ⟨c,b,n,0,s.size⟩).toNat::tl s.size).toArray⟩:Q)=t at HT fK;go_enter func83,ntmps83;go_wp2_with fail;refine(HT _).mono ?_;rintro e w1 ⟨rfl,(aC:Hi _)⟩;go_wp2;go_ret;exact⟨X,aC⟩
def ls(a:Oo Ad)(n c:Nat)(ta:Oo Ad)(tn tc x:Nat)(no tu:Bool):Obj:=C #[S a n c,S ta tn tc,I J x,Bo no,Bo tu] 133 (0,0)
structure kh(W w:M)(R:Nat)(a:Oo Ad)(n c:Nat)(ta:Oo Ad)(tn tc:Nat)(x:Nat)(no tu:Bool):Prop where
 bel:Bw W w
 lo:W.heap.size<=R
 own:w.heap[R]? =U (ls a n c ta tn tc x no tu)
theorem kh.below(h:kh W w R a n c ta tn tc x no tu)(hb:Bw w w'):kh W w' R a n c ta tn tc x no tu:=
 ⟨Tm h.bel hb,h.lo,bc h.own hb⟩
def dg(R:Nat)(w w':M):Prop:=∀(k:Nat) (o:Obj),k≠R->w.heap[k]? =U o->w'.heap[k]? =U o
theorem dg.refl(R:Nat)(w:M):dg R w w:=fun _ _ _ h=>h
theorem dg.trans{w2:M}(h:dg R w w1)(k:dg R w1 w2):dg R w w2:=fun j o hj hg=>k j o hj (h j o hj hg)
theorem dg.of_below(h:Bw w w'):dg R w w':=fun _ _ _ hg=>bc hg h
theorem dg.set(i:Nat)(u:Vv):dg R w (w.setCell (D R i Z) u):=fun j o hj hg=>by rw[ez _ _ _ _ hj];exact hg
def np(E:de)(W:M)(R:Nat)(a:Oo Ad)(c:Nat)(ta:Oo Ad)(tc:Nat)(r:cy)(x0:Nat)(u0:Bool)(w:M)(e:Ending)(w':M):Prop:=
 dg R w w'/\((∃b x u,r=U (b,x,u)/\e=Rt (Y b)/\b.size+pz E.t x0<=pz E.t x/\x<=E.t.length/\kh W w' R a E.s.length c ta E.t.length tc x false (u0||u))\/
  (r=Z/\∃b x u,e=Rt (Y b)/\b.size+pz E.t x0<=pz E.t x/\x<=E.t.length/\kh W w' R a E.s.length c ta E.t.length tc x true u))
theorem np.of{E:de}{r:cy}{x0:Nat}{u0:Bool}{e:Ending}(h:np E W R a c ta tc r x0 u0 w1 e w')(hf:dg R w w1):np E W R a c ta tc r x0 u0 w e w':=⟨hf.trans h.1,h.2⟩
def Cm(E:de)(W:M)(R:Nat)(a:Oo Ad)(c:Nat)(ta:Oo Ad)(tc f:Nat):Prop:=
 ∀(i x:Nat) (dp:Int) (r:cy) (u0:Bool) (w:M),wrF E f i x dp=U r->i<E.s.length->x<=E.t.length->1<=dp->dp<=13->kh W w R a E.s.length c ta E.t.length tc x false u0->
  Cs prog 71 #[Po (U (D R 0 Z)),I J i,I J dp] w fun e w'=>np E W R a c ta tc r x u0 w e w'
end
section
open Go.RowKit
abbrev yz(v:Vl):Array Vv:=#[I J v.kind,Y v.text,I J v.alt,I J v.kids]
abbrev yq(n:Nd)(ka:Oo Ad)(kc:Nat):Array Vv:=#[I J n.kind,I J n.tag,I J n.mode,S ka n.kids.length kc]
theorem kh.setNo(h:kh W w R a n c ta tn tc x no tu)(b:Bool):kh W (w.setCell (D R 3 Z) (Bo b)) R a n c ta tn tc x b tu:=
 ⟨h.bel.setCell (p:=D R 3 Z) h.lo _,h.lo,iw w R 3 _ _ _ h.own⟩
theorem aja(E:de)(W:M)(R:Nat)(a:Oo Ad)(c:Nat)(ta:Oo Ad)(tc f:Nat)(hc:WC E W a ta)(hN:Cm E W R a c ta tc f)(i:Nat)(hi:i<E.s.length)(ka:Oo Ad)(kc:Nat)(aK:bn W ka (nd E.s i).kids)(aL:(nd E.s i).kids.length<=kc)(v:Vl)(x:Nat)(dp:Int)(r:cy)(u0:Bool)(w:M)(hm:(if v.text.size=0/\v.kids=1/\0<=v.alt/\v.alt<(nd E.s i).kids.length then wrF E f (kd (nd E.s i) v.alt.toNat).node.toNat x dp else U Z)=U r)(hx:x<=E.t.length)(cP:1<=dp)(dD:dp<=13)(hI:kh W w R a E.s.length c ta E.t.length tc x false u0):Cs Tryz.prog 104 #[Po (U (D R 0 Z)),Ag (yq (nd E.s i) ka kc),Ag (yz v),I J dp] w fun e w'=>np E W R a c ta tc r x u0 w e w':=by
 have HI:=ax hI;have gA:=hc.right.fine.eight i hi;have fN:=ax aK;have HN:=ax hN;have own0:=hI.own;unfold ls at own0;have c3:w.cell? (D R 3 Z)=U (Bo false):=by simp[Wc,own0]
 have f3:w.frozen? (D R 3 Z)=false:=Fz own0;have eS:=lc c3;have kY:Hi (∀j,j<(nd E.s i).kids.length->∃t:Nat,(kd (nd E.s i) j).node=t/\t<E.s.length):=fun j hj=>by have:=hc.right.fine.within i hi _ (ni hj);exact⟨(kd (nd E.s i) j).node.toNat,O,O⟩
 have bM:Hi (r=Z->∀A B,np E W R a c ta tc r x u0 w (Rt (Y ⟨#[]⟩)) (((w.setCell (D R 3 Z) (Bo true)).alloc A).alloc B)):=fun hr A B=>by have hb:H (w.setCell (D R 3 Z) (Bo true)).heap.size (w.setCell (D R 3 Z) (Bo true)) (((w.setCell (D R 3 Z) (Bo true)).alloc A).alloc B):=((By).alloc Ln A).alloc Sq B;exact⟨(dg.set 3 _).trans (dg.of_below hb),.inr ⟨hr,⟨#[]⟩,x,u0,X,by show 0+pz E.t x<=pz E.t x;omega,hx,(hI.setNo true).below hb⟩⟩
 have HA:Hi (∀A B,Bw w ((w.alloc A).alloc B)):=fun A B=>((cm w.heap.size w).alloc Ln A).alloc Sq B;unfold yq yz;by_cases q:v.text.size=0/\v.kids=1/\0<=v.alt/\v.alt<(nd E.s i).kids.length
 ·rw[ba q]at hm;obtain⟨q1,q2,q3,q4⟩:=q;obtain⟨al,p8⟩:∃al:Nat,v.alt=al:=⟨v.alt.toNat,O⟩;rw[p8,ld]at hm;have XR:al<(nd E.s i).kids.length:=O;have ajZ:(al:Int)<(nd E.s i).kids.length:=O;have t1:=jr q1;obtain⟨kb,ko,rfl,aX⟩:=aK al XR;obtain⟨t,ht,bC⟩:=kY al XR;rw[ht,ld]at hm;obtain⟨k1,_,_⟩:=aX.below hI.bel;have C6:w.cell? (D kb (ko+al*3) Z)=U (I J t):=by rw[<-ht];exact k1
  have CX:=bp C6;simp only at CX;have dV:Hi (∀wq,Bw w wq->Cs Tryz.prog 71 #[Po (U (D R 0 Z)),I J t,I J dp] wq fun e w'=>np E W R a c ta tc r x u0 wq e w'):=fun wq hq=>hN t x dp r u0 wq hm bC hx cP dD (hI.below hq);rw[p8,q2];clear hI hN hc aK hm own0 k1 aX p8 q1 q2 q3 q4 bM;go_enter Tryz.func104,Tryz.ntmps104;go_wp2_with fail;refine(dV _ (HA _ _)).mono ?_;rintro e w1 kI;have m7:=ax (kI.of (dg.of_below (HA _ _)));have f8:∃b,e=Rt (Y b):=by
   rcases kI.2 with⟨b,_,_,_,he,_⟩|⟨_,b,_,_,he,_⟩;(·exact⟨b,he⟩);exact⟨b,he⟩
  clear kI;obtain⟨b,rfl⟩:=f8;go_wp2;go_ret;exact m7
 rw[G q]at hm;have HR:Hi (r=Z):=(dd hm).symm;clear hI hN hc aK hm own0;go_enter Tryz.func104,Tryz.ntmps104;by_cases q1:v.text.size=0
 ·have t1:=jr q1;by_cases q2:v.kids=1
  ·rw[q2];by_cases q3:v.alt<0;(·clear q q1 q2;go_wp2;go_ret;exact bM HR _ _);have M3:0<=v.alt:=O;have q4:((nd E.s i).kids.length:Int)<=v.alt:=by
    by_cases h:v.alt<(nd E.s i).kids.length;(·exact Ab ⟨q1,q2,M3,h⟩ q);omega
   clear q q1 q2 q3;go_wp2;go_ret;exact bM HR _ _
  clear q q1;go_wp2;go_ret;exact bM HR _ _
 have t1:=gw (t:=v.text) O;clear q q1;go_wp2;go_ret;exact bM HR _ _
theorem aji{set:Bool}{E:de}{rec:ow}{c:Int}{r:cy}(hc:0<c)(e:jd E rec set i dp m c x out last u=U r):∃r1,rec i x dp=U r1/\((r1=Z/\r=Z)\/∃b x' u',r1=U (b,x',u')/\∃m',jd E rec set i dp m' (c-1) x' (out++b) b (u||u'||(set&&jo b last))=U r):=by
 cases m with
 |zero=>cases e
 |succ m=>
  unfold jd at e
  rw[ba hc]at e
  rcases qn e with⟨h1,rfl⟩|⟨b1,x1,u1,h1,h2⟩
  ·exact⟨_,h1,.inl ⟨X,X⟩⟩
  ·exact⟨_,h1,.inr ⟨b1,x1,u1,X,m,h2⟩⟩
theorem ajh{set:Bool}{E:de}{rec:ow}{c:Int}{r:cy}(hc:¬0<c)(e:jd E rec set i dp m c x out last u=U r):r=U (out,x,u):=by
 cases m with
 |zero=>cases e
 |succ m=>unfold jd at e;rw[G hc]at e;exact(dd e).symm
theorem kh.setTu(h:kh W w R a n c ta tn tc x no tu)(b:Bool):kh W (w.setCell (D R 4 Z) (Bo b)) R a n c ta tn tc x no b:=
 ⟨h.bel.setCell (p:=D R 4 Z) h.lo _,h.lo,iw w R 4 _ _ _ h.own⟩
def Rq(E:de)(W:M)(R:Nat)(a:Oo Ad)(c:Nat)(ta:Oo Ad)(tc f:Nat)(set:Bool)(t:Nat)(dp cnt:Int)(r:cy)(x0:Nat)(u0:Bool)(w0:M)(vo SH vk:Vv)(wr:M):Prop:=
 ∃(k:Nat) (out last:Q) (x:Nat) (no tu:Bool),vo=Y out/\SH=Y last/\vk=I J k/\(k:Int)<=cnt/\dg R w0 wr/\kh W wr R a E.s.length c ta E.t.length tc x no tu/\x<=E.t.length/\out.size+pz E.t x0<=pz E.t x/\
  ((no=false/\∃m u1,tu=(u0||u1)/\jd E (wrF E f) set t dp m (cnt-k) x out last u1=U r)\/(no=true/\r=Z))
theorem ajj(E:de)(W:M)(R:Nat)(a:Oo Ad)(c:Nat)(ta:Oo Ad)(tc f:Nat)(hc:WC E W a ta)(hN:Cm E W R a c ta tc f)(i:Nat)(hi:i<E.s.length)(dR:(nd E.s i).kind=11\/(nd E.s i).kind=12)(ka:Oo Ad)(kc:Nat)(aK:bn W ka (nd E.s i).kids)(aL:(nd E.s i).kids.length<=kc)(v:Vl)(x:Nat)(dp:Int)(r:cy)(u0:Bool)(w:M)(hm:(if v.text.size=0/\v.alt=0/\0<=v.kids then jd E (wrF E f) (decide ((nd E.s i).kind=12)) (kd (nd E.s i) 0).node.toNat (dp+1) f v.kids x az az false else U Z)=U r)(hx:x<=E.t.length)(eW:v.kids<=9223372036854775807)(cP:1<=dp)(dD:dp<=12)(hI:kh W w R a E.s.length c ta E.t.length tc x false u0):Cs Tryz.prog 107 #[Po (U (D R 0 Z)),Ag (yq (nd E.s i) ka kc),Ag (yz v),I J dp] w fun e w'=>np E W R a c ta tc r x u0 w e w':=by
 have HC:=ax hc;have HI:=ax hI;have VE:0<(nd E.s i).kids.length:=by have:=hc.right.fine.one i hi dR;omega
 have HN:=ax hN;have own0:=hI.own;unfold ls at own0;have c3:w.cell? (D R 3 Z)=U (Bo false):=by simp[Wc,own0]
 have f3:w.frozen? (D R 3 Z)=false:=Fz own0;have eS:=lc c3;obtain⟨kb,ko,rfl,aX⟩:=aK 0 O;obtain⟨t,ht,bC⟩:∃t:Nat,(kd (nd E.s i) 0).node=t/\t<E.s.length:=by have:=hc.right.fine.within i hi _ (ni (n:=nd E.s i) (i:=0) VE);exact⟨(kd (nd E.s i) 0).node.toNat,O,O⟩
 rw[ht,ld]at hm;have qP:Hi (W.cell? (D kb ko Z)=U (I J t)):=by have:=aX.node;rw[show(nd E.s i).kids.getD 0 fy=kd (nd E.s i) 0 from X,ht]at this;show W.cell? (D kb ko Z)=_;simpa using this
 have bM:Hi (r=Z->∀A B,np E W R a c ta tc r x u0 w (Rt (Y ⟨#[]⟩)) (((w.setCell (D R 3 Z) (Bo true)).alloc A).alloc B)):=fun hr A B=>by have hb:H (w.setCell (D R 3 Z) (Bo true)).heap.size (w.setCell (D R 3 Z) (Bo true)) (((w.setCell (D R 3 Z) (Bo true)).alloc A).alloc B):=((By).alloc Ln A).alloc Sq B;exact⟨(dg.set 3 _).trans (dg.of_below hb),.inr ⟨hr,⟨#[]⟩,x,u0,X,by show 0+pz E.t x<=pz E.t x;omega,hx,(hI.setNo true).below hb⟩⟩
 have HA:Hi (∀A B,Bw w ((w.alloc A).alloc B)):=fun A B=>((cm w.heap.size w).alloc Ln A).alloc Sq B;unfold yq yz;clear hc hN aK own0 aX hI;by_cases q:v.text.size=0/\v.alt=0/\0<=v.kids
 ·rw[ba q]at hm;have HM:=ax hm;obtain⟨q1,q2,q3⟩:=q;have t1:=jr q1;have M3:decide (v.kids<0)=false:=by simpa using q3
  rw[q2];clear hm q1 q2 bM;go_enter Tryz.func107,Tryz.ntmps107;go_wp2;have bF:((w.alloc (C #[I J (nd E.s i).kind,I J (nd E.s i).tag,I J (nd E.s i).mode,S (U (D kb ko Z)) (nd E.s i).kids.length kc] 58)).alloc (C #[I J v.kind,Y v.text,I J 0,I J v.kids] 60)).heap[w.heap.size]? =U (C #[I J (nd E.s i).kind,I J (nd E.s i).tag,I J (nd E.s i).mode,S (U (D kb ko Z)) (nd E.s i).kids.length kc] 58 (0,0)):=bc (bl w _) Be;have bH:((w.alloc (C #[I J (nd E.s i).kind,I J (nd E.s i).tag,I J (nd E.s i).mode,S (U (D kb ko Z)) (nd E.s i).kids.length kc] 58)).alloc (C #[I J v.kind,Y v.text,I J 0,I J v.kids] 60)).heap[w.heap.size+1]? =U (C #[I J v.kind,Y v.text,I J 0,I J v.kids] 60 (0,0)):=by have q:=bl (w.alloc (C #[I J (nd E.s i).kind,I J (nd E.s i).tag,I J (nd E.s i).mode,S (U (D kb ko Z)) (nd E.s i).kids.length kc] 58)) (C #[I J v.kind,Y v.text,I J 0,I J v.kids] 60);simpa using q
  have xU:Bw w ((w.alloc (C #[I J (nd E.s i).kind,I J (nd E.s i).tag,I J (nd E.s i).mode,S (U (D kb ko Z)) (nd E.s i).kids.length kc] 58)).alloc (C #[I J v.kind,Y v.text,I J 0,I J v.kids] 60)):=HA _ _;generalize(w.alloc _).alloc _=w0 at bF bH xU ⊢;have aV:=ax bF;have cJ:=ax bH;have aY:=ax xU;have kC:=ax (HI.below xU);have sH:w.heap.size≠R:=O;have yN:w.heap.size+1≠R:=O;clear bF bH xU HA c3 f3;go_loopw [9,10,11] (fun vo SH vk wr=>Rq E W R a c ta tc f (decide ((nd E.s i).kind=12)) t (dp+1) v.kids r x u0 w0 vo SH vk wr) (fun _ _ vk _=>v.kids.toNat-(Io vk).toNat);case atStart=>exact⟨0,az,az,x,false,u0,X,X,X,q3,dg.refl _ _,kC.out,hx,by show 0+pz E.t x<=pz E.t x;omega,.inl ⟨X,f,false,Sq,by simpa using HM.out⟩⟩
  obtain⟨k,out,last,x1,no,tu,rfl,rfl,rfl,hk,hF,eR,bR,(gU:Hi _),(FT:Hi _)⟩:=hrel;have HF:=ax hF;have aZ:=ax eR;have sV:=eR.own;unfold ls at sV;have d3:wr.cell? (D R 3 Z)=U (Bo no):=by simp[Wc,sV]
  have WE:=lc d3;have IK:=hF _ _ sH aV;have WI:=hF _ _ yN cJ;have n3:wr.cell? (D w.heap.size 3 Z)=U (S (U (D kb ko Z)) (nd E.s i).kids.length kc):=bq IK X;have v3:wr.cell? (D (w.heap.size+1) 3 Z)=U (I J v.kids):=bq WI X;have k0:wr.cell? (D kb ko Z)=U (I J t):=Cb eR.bel qP;have AI:=bp n3;have Q5:=bp v3;have hlK:=bp k0;simp only at AI Q5 hlK;clear hF eR sV IK WI
  cases no with
  |true=>
   have HR:Hi (r=Z):=by
    rcases FT with⟨h,_⟩|⟨_,h⟩
    ·cases h
    ·exact h
   by_cases aA:(k:Int)<v.kids
   ·go_wp2
    go_ret
    exact⟨(dg.of_below aY).trans HF,.inr ⟨HR,out,x1,tu,X,gU,bR,aZ⟩⟩
   ·go_wp2
    go_ret
    exact⟨(dg.of_below aY).trans HF,.inr ⟨HR,out,x1,tu,X,gU,bR,aZ⟩⟩
  |false=>
   obtain⟨m,u1,AS,hmm⟩:∃m u1,tu=(u0||u1)/\jd E (wrF E f) (decide ((nd E.s i).kind=12)) t (dp+1) m (v.kids-k) x1 out last u1=U r:=by
    rcases FT with⟨_,h⟩|⟨h,_⟩
    ·exact h
    ·cases h
   by_cases aA:(k:Int)<v.kids
   ·obtain⟨r1,iZ,bW⟩:=aji O hmm
    have dV:=ax (HN t x1 (dp+1) r1 tu wr iZ bC bR O O aZ)
    obtain⟨ks,pC⟩:∃ks,decide ((nd E.s i).kind=12)=ks:=Ey
    have N6:=ax pC
    rw[pC]at bW
    have cF:=ax bW
    have sA:=ax AS
    clear hmm iZ bW AS pC
    go_wp2_with fail
    refine dV.mono ?_
    rintro e w1 kI
    have iE:Hi (dg R w0 w1):=HF.trans kI.1
    have V6:=kI.1 _ _ sH (HF _ _ sH aV)
    have LY:=kI.1 _ _ yN (HF _ _ yN cJ)
    obtain⟨b,x2,dE,fM,rfl,cW,aQ,dG,(oD:Hi _)⟩:∃b x2 dE fM,e=Rt (Y b)/\b.size+pz E.t x1<=pz E.t x2/\x2<=E.t.length/\kh W w1 R a E.s.length c ta E.t.length tc x2 dE fM/\((dE=false/\∃m u1,(fM||(ks&&jo b last))=(u0||u1)/\jd E (wrF E f) ks t (dp+1) m (v.kids-((k+1:Nat):Int)) x2 (out++b) b u1=U r)\/(dE=true/\r=Z)):=by
     rcases kI.2 with⟨b,x2,u2,hr,he,cW,aQ,dG⟩|⟨hr,b,x2,u2,he,cW,aQ,dG⟩
     ·refine⟨b,x2,false,_,he,cW,aQ,dG,.inl ⟨X,?_⟩⟩
      rcases cF with⟨q,_⟩|⟨b',x',u',q,m',vH⟩
      ·rw[q]at hr;cases hr
      ·rw[q]at hr
       cases hr
       refine⟨m',(u1||u2||(ks&&jo b last)),?_,?_⟩
       ·rw[sA,u9,u9,u9]
       ·rw[show v.kids-((k+1:Nat):Int)=v.kids-k-1 by omega];exact vH
     ·refine⟨b,x2,true,u2,he,cW,aQ,dG,.inr ⟨X,?_⟩⟩
      rcases cF with⟨_,q⟩|⟨b',x',u',q,_⟩
      ·exact q
      ·rw[q]at hr;cases hr
    have iP:=ax cW
    have aS:=ax dG
    have A0:=dG.own
    unfold ls at A0
    have e4:w1.cell? (D R 4 Z)=U (Bo fM):=by simp[Wc,A0]
    have g4:w1.frozen? (D R 4 Z)=false:=Fz A0
    have xY:=lc e4
    have n0:w1.cell? (D w.heap.size 0 Z)=U (I J (nd E.s i).kind):=bq V6 X
    have aex:=bp n0
    simp only at aex
    have ET:(out.size:Int)+b.size<=16777000:=by
     have h1:=gU.out
     have h2:=HC.out.size
     have h3:=ja aQ Ln
     omega
    have gX:(k:Int)+1<=v.kids:=O
    have F5:Hi (∀tn,tn=(fM||(ks&&jo b last))->Rq E W R a c ta tc f (decide ((nd E.s i).kind=12)) t (dp+1) v.kids r x u0 w0 (Y (out++b)) (Y b) (I J ((k+1:Nat):Int)) (w1.setCell (D R 4 Z) (Bo tn))):=fun tn gC=>by
     refine⟨k+1,out++b,b,x2,dE,tn,X,X,X,O,iE.trans (dg.set 4 _),aS.setTu tn,aQ,?_,?_⟩
     ·rw[iq];have:=gU.out;have:=iP.out;omega
     ·rw[N6,gC];exact oD
    clear kI cW dG A0 V6 LY dV cF d3 n3 v3 k0
    cases fM with
    |true=>
     go_wp2
     go_roundw
     case rel=>exact F5 true Sq
     case measure=>exact Ms
    |false=>
     rcases dR with fZ|fC
     ·have aeu:ks=false:=by rw[<-N6,fZ];rfl
      rw[fZ]at n0
      clear fZ
      go_wp2
      go_roundw
      case rel=>exact F5 false (by rw[aeu];rfl)
      case measure=>exact Ms
     ·have CU:ks=true:=by rw[<-N6,fC];rfl
      rw[fC]at n0
      clear fC
      go_wp2
      go_roundw
      case rel=>exact F5 _ (by rw[CU,Ed,Bool.true_and];unfold jo;rfl)
      case measure=>exact Ms
   ·have HE:=ax (ajh O hmm)
    have sA:=ax AS
    clear hmm AS
    go_wp2
    go_ret
    refine⟨(dg.of_below aY).trans HF,.inl ⟨out,x1,u1,HE,X,gU,bR,?_⟩⟩
    have:=aZ.out
    rwa[sA.out]at this
 rw[G q]at hm;have HR:Hi (r=Z):=(dd hm).symm;clear hm;go_enter Tryz.func107,Tryz.ntmps107;by_cases q1:v.text.size=0
 ·have t1:=jr q1;by_cases q2:v.alt=0
  ·rw[q2];have q3:v.kids<0:=by
    by_cases h:v.kids<0;(·exact h);exact Ab ⟨q1,q2,O⟩ q
   clear q q1 q2;go_wp2;refine rh 1 ?_;rw[js];go_wp2;go_ret;exact bM HR _ _
  clear q q1;go_wp2;refine rh 1 ?_;rw[js];by_cases fI:0<v.kids;·go_wp2;go_ret;exact bM HR _ _
  go_wp2;go_ret;exact bM HR _ _
 have t1:=gw (t:=v.text) O;clear q q1;go_wp2;refine rh 1 ?_;rw[js];by_cases fI:0<v.kids;·go_wp2;go_ret;exact bM HR _ _
 go_wp2;go_ret;exact bM HR _ _
theorem ajx{E:de}{rec:ow}{n:Nd}{k:Nat}{r:cy}(hk:k<n.kids.length)(e:dx E rec dp (n.kids.drop k) x out u=U r):((kd n k).opt=true/\x<E.t.length/\(vl E.t x).kind=15/\(((vl E.t x).text.size=0/\(vl E.t x).alt=0/\(vl E.t x).kids=0/\dx E rec dp (n.kids.drop (k+1)) (x+1) out u=U r)\/(¬((vl E.t x).text.size=0/\(vl E.t x).alt=0/\(vl E.t x).kids=0)/\r=Z)))\/(¬((kd n k).opt=true/\x<E.t.length/\(vl E.t x).kind=15)/\∃r1,rec (kd n k).node.toNat x (if(kd n k).dflt.size=0 then dp+1 else 1)=U r1/\((r1=Z/\r=Z)\/∃b x' u',r1=U (b,x',u')/\(((kd n k).dflt.size≠0/\b=(kd n k).dflt/\dx E rec dp (n.kids.drop (k+1)) x' out (u||u')=U r)\/(¬((kd n k).dflt.size≠0/\b=(kd n k).dflt)/\12<dp+1/\r=Z)\/(¬((kd n k).dflt.size≠0/\b=(kd n k).dflt)/\dp+1<=12/\dx E rec dp (n.kids.drop (k+1)) x' (out++b) (u||u')=U r)))):=by
 rw[yp hk]at e;unfold dx at e;split at e
 ·rename_i q;left;split at e;·rename_i q';exact⟨q.1,q.2.1,q.2.2,.inl ⟨q'.1,q'.2.1,q'.2.2,e⟩⟩
  rename_i q';exact⟨q.1,q.2.1,q.2.2,.inr ⟨q',(dd e).symm⟩⟩
 rename_i q;right;refine⟨q,?_⟩;rcases qn e with⟨h1,rfl⟩|⟨b1,x1,u1,h1,h2⟩;·exact⟨_,h1,.inl ⟨X,X⟩⟩
 refine⟨_,h1,.inr ⟨b1,x1,u1,X,?_⟩⟩;split at h2;·rename_i q';exact .inl ⟨q'.1,q'.2,h2⟩
 rename_i q';split at h2;·rename_i q2;exact .inr (.inl ⟨q',q2,(dd h2).symm⟩)
 rename_i q2;exact .inr (.inr ⟨q',O,h2⟩)
def uN(E:de)(W:M)(R:Nat)(a:Oo Ad)(c:Nat)(ta:Oo Ad)(tc f:Nat)(n:Nd)(dp:Int)(r:cy)(x0:Nat)(u0:Bool)(w0:M)(vo vk:Vv)(wr:M):Prop:=
 ∃(k:Nat) (out:Q) (x:Nat) (no tu:Bool),vo=Y out/\vk=I J k/\k<=n.kids.length/\dg R w0 wr/\kh W wr R a E.s.length c ta E.t.length tc x no tu/\x<=E.t.length/\out.size+pz E.t x0<=pz E.t x/\
  ((no=false/\∃u1,tu=(u0||u1)/\dx E (wrF E f) dp (n.kids.drop k) x out u1=U r)\/(no=true/\r=Z))
theorem kh.setAt(h:kh W w R a n c ta tn tc x no tu)(y:Nat):kh W (w.setCell (D R 2 Z) (I J y)) R a n c ta tn tc y no tu:=
 ⟨h.bel.setCell (p:=D R 2 Z) h.lo _,h.lo,iw w R 2 _ _ _ h.own⟩
theorem ajy(E:de)(W:M)(R:Nat)(a:Oo Ad)(c:Nat)(ta:Oo Ad)(tc f:Nat)(hc:WC E W a ta)(hN:Cm E W R a c ta tc f)(i:Nat)(hi:i<E.s.length)(ka:Oo Ad)(kc:Nat)(aK:bn W ka (nd E.s i).kids)(aL:(nd E.s i).kids.length<=kc)(v:Vl)(x:Nat)(dp:Int)(r:cy)(u0:Bool)(w:M)(hm:(if v.text.size=0/\v.alt=0/\v.kids=(nd E.s i).kids.length then dx E (wrF E f) dp (nd E.s i).kids x az false else U Z)=U r)(hx:x<=E.t.length)(cP:1<=dp)(dD:dp<=12)(dX:E.t.length<=tc)(hI:kh W w R a E.s.length c ta E.t.length tc x false u0):Cs Tryz.prog 106 #[Po (U (D R 0 Z)),Ag (yq (nd E.s i) ka kc),Ag (yz v),I J dp] w fun e w'=>np E W R a c ta tc r x u0 w e w':=by
 have HC:=ax hc;have HI:=ax hI;have gA:=hc.right.fine.eight i hi;have HN:=ax hN;have fN:=ax aK;have GR:Hi (E.t.length<=16777000):=by have:=hc.size;show E.t.length<=16777000;unfold pz at this;omega
 have aeP:(E.t.length:Int)<=16777000:=by have:=GR.out;omega
 have own0:=hI.own;unfold ls at own0;have c3:w.cell? (D R 3 Z)=U (Bo false):=by simp[Wc,own0]
 have f3:w.frozen? (D R 3 Z)=false:=Fz own0;have eS:=lc c3;have kY:Hi (∀j,j<(nd E.s i).kids.length->∃t:Nat,(kd (nd E.s i) j).node=t/\t<E.s.length):=fun j hj=>by have:=hc.right.fine.within i hi _ (ni hj);exact⟨(kd (nd E.s i) j).node.toNat,O,O⟩
 have HSO:Hi (∀j,j<(nd E.s i).kids.length->(kd (nd E.s i) j).dflt.size<=140737488351232):=fun j hj=>hc.sok i hi _ (ni hj);have bM:Hi (r=Z->∀A B,np E W R a c ta tc r x u0 w (Rt (Y ⟨#[]⟩)) (((w.setCell (D R 3 Z) (Bo true)).alloc A).alloc B)):=fun hr A B=>by have hb:H (w.setCell (D R 3 Z) (Bo true)).heap.size (w.setCell (D R 3 Z) (Bo true)) (((w.setCell (D R 3 Z) (Bo true)).alloc A).alloc B):=((By).alloc Ln A).alloc Sq B;exact⟨(dg.set 3 _).trans (dg.of_below hb),.inr ⟨hr,⟨#[]⟩,x,u0,X,by show 0+pz E.t x<=pz E.t x;omega,hx,(hI.setNo true).below hb⟩⟩
 have HA:Hi (∀A B,Bw w ((w.alloc A).alloc B)):=fun A B=>((cm w.heap.size w).alloc Ln A).alloc Sq B;unfold yq yz;clear hc hN aK own0 hI;by_cases q:v.text.size=0/\v.alt=0/\v.kids=(nd E.s i).kids.length
 ·rw[ba q]at hm;have HM:=ax hm;obtain⟨q1,q2,q3⟩:=q;have t1:=jr q1;rw[q2,q3];clear hm q1 q2 q3 bM;go_enter Tryz.func106,Tryz.ntmps106;go_wp2;have bF:((w.alloc (C #[I J (nd E.s i).kind,I J (nd E.s i).tag,I J (nd E.s i).mode,S ka (nd E.s i).kids.length kc] 58)).alloc (C #[I J v.kind,Y v.text,I J 0,I J ((nd E.s i).kids.length:Int)] 60)).heap[w.heap.size]? =U (C #[I J (nd E.s i).kind,I J (nd E.s i).tag,I J (nd E.s i).mode,S ka (nd E.s i).kids.length kc] 58 (0,0)):=bc (bl w _) Be;have xU:Bw w ((w.alloc (C #[I J (nd E.s i).kind,I J (nd E.s i).tag,I J (nd E.s i).mode,S ka (nd E.s i).kids.length kc] 58)).alloc (C #[I J v.kind,Y v.text,I J 0,I J ((nd E.s i).kids.length:Int)] 60)):=HA.out _ _;generalize(w.alloc _).alloc _=w0 at bF xU ⊢;have aV:=ax bF;have aY:=ax xU;have kC:=ax (HI.out.below xU);have sH:w.heap.size≠R:=O;clear bF xU HA c3 f3;go_loopw [9,10] (fun vo vk wr=>uN E W R a c ta tc f (nd E.s i) dp r x u0 w0 vo vk wr) (fun _ vk _=>(nd E.s i).kids.length-(Io vk).toNat);case atStart=>exact⟨0,az,x,false,u0,X,X,Lz,dg.refl _ _,kC.out,hx,by show 0+pz E.t x<=pz E.t x;omega,.inl ⟨X,false,Sq,by simpa using HM.out⟩⟩
  obtain⟨k,out,x1,no,tu,rfl,rfl,hk,hF,eR,bR,bX,gP⟩:=hrel;have HF:=ax hF;have aZ:=ax eR;have gU:=ax bX;have FT:=ax gP;have sV:=eR.own;unfold ls at sV;have d3:wr.cell? (D R 3 Z)=U (Bo no):=by simp[Wc,sV]
  have WE:=lc d3;have IK:=hF _ _ sH aV.out;have n3:wr.cell? (D w.heap.size 3 Z)=U (S ka (nd E.s i).kids.length kc):=bq IK X;have AI:=bp n3;simp only at AI;clear hF eR bX gP sV IK
  cases no with
  |true=>
   have HR:Hi (r=Z):=by
    rcases FT.out with⟨h,_⟩|⟨_,h⟩
    ·cases h
    ·exact h
   by_cases aA:(k:Int)<(nd E.s i).kids.length
   ·go_wp2
    go_ret
    exact⟨(dg.of_below aY.out).trans HF.out,.inr ⟨HR.out,out,x1,tu,X,gU.out,bR,aZ.out⟩⟩
   ·go_wp2
    go_ret
    exact⟨(dg.of_below aY.out).trans HF.out,.inr ⟨HR.out,out,x1,tu,X,gU.out,bR,aZ.out⟩⟩
  |false=>
   obtain⟨u1,AS,hmm⟩:∃u1,tu=(u0||u1)/\dx E (wrF E f) dp ((nd E.s i).kids.drop k) x1 out u1=U r:=by
    rcases FT.out with⟨_,h⟩|⟨h,_⟩
    ·exact h
    ·cases h
   have sA:=ax AS
   by_cases aA:k<(nd E.s i).kids.length
   ·have aN:(k:Int)<(nd E.s i).kids.length:=O
    have RO:=ajx aA hmm
    obtain⟨kb,ko,rfl,aX⟩:=fN.out k aA
    obtain⟨t,ht,bC⟩:=kY.out k aA
    have hys:=HSO.out k aA
    obtain⟨kn,yU,R8⟩:=aX.below aZ.out.bel
    obtain⟨yo,iC⟩:∃yo,(kd (nd E.s i) k).opt=yo:=Ey
    obtain⟨yd,m4⟩:∃yd,(kd (nd E.s i) k).dflt=yd:=Ey
    rw[show(nd E.s i).kids.getD k fy=kd (nd E.s i) k from rfl]at kn yU R8
    rw[ht]at kn
    rw[iC]at yU
    rw[m4]at R8 hys
    rw[ht,iC,m4,ld]at RO
    have fH:=ax RO
    clear hmm AS RO ht iC m4 aX
    go_wp2_with fail
    obtain⟨xb,gL⟩:∃xb,wr.heap.size=xb:=Ey
    have IJ:=bl wr (C #[I J (t:Int),Bo yo,Y yd] 55)
    have dW:=(cm _ wr).alloc Ln (C #[I J (t:Int),Bo yo,Y yd] 55)
    rw[gL]at IJ
    rw[gL]
    have EP:xb≠R:=O
    generalize wr.alloc _=w2 at IJ dW ⊢
    have dG:=aZ.out.below dW
    have aS:=ax dG
    have dC:Hi (dg R w0 w2):=HF.out.trans (dg.of_below dW)
    have kX:=ax IJ
    have A0:=dG.own
    unfold ls at A0
    obtain⟨-,s1,s2, -, -⟩:=uC A0
    have pW:=lc s1
    obtain⟨y0,y1,y2⟩:=pt IJ
    have JA:=bp y0
    simp only at JA
    have wA:=ax (HC.out.tree)
    have fE:=dG.bel
    have aM:=ax fE
    clear IJ dW dG A0 gL d3 n3 kn yU R8 fE WE AI
    rcases fH.out with⟨ho,gS,QY,rM⟩|⟨jA,cW⟩
    ·obtain⟨g,o,iJ,p0,p1,p2,p3⟩:=wA.out x1 gS
     rw[iJ]at s1
     rw[QY]at p0
     have FB:(x1:Int)<E.t.length:=O
     obtain⟨vt,wU⟩:∃vt,(vl E.t x1).text=vt:=Ey
     obtain⟨va,nY⟩:∃va,(vl E.t x1).alt=va:=Ey
     obtain⟨pI,eW⟩:∃pI,(vl E.t x1).kids=pI:=Ey
     rw[wU]at p1
     rw[nY]at p2
     rw[eW]at p3
     rw[wU,nY,eW]at rM
     have BQ:=ax rM
     have m0:w2.cell? (D g (o+x1*4) Z)=U (I J 15):=Cb aM.out p0
     have m1:w2.cell? (D g (o+x1*4+1) Z)=U (Y vt):=Cb aM.out p1
     have m2:w2.cell? (D g (o+x1*4+2) Z)=U (I J va):=Cb aM.out p2
     have m3:w2.cell? (D g (o+x1*4+3) Z)=U (I J pI):=Cb aM.out p3
     have wO:=bp m0
     simp only at wO
     rw[ho]at y1
     clear p0 p1 p2 p3 iJ rM QY wU nY eW fH
     go_quiet (fail)
     have bI:=aS.out.below (Go.below_drewN By nq)
     have dF:=dC.out.trans (dg.of_below (Go.below_drewN By nq))
     have SB:(w2.drewN nq).cell? (D R 1 Z)=U (S (U (D g o Z)) E.t.length tc):=by simpa using s1
     have ZU:(w2.drewN nq).cell? (D R 2 Z)=U (I J (x1:Int)):=by simpa using s2
     have C7:(w2.drewN nq).cell? (D g (o+x1*4) Z)=U (I J 15):=by simpa using m0
     have JX:(w2.drewN nq).cell? (D g (o+x1*4+1) Z)=U (Y vt):=by simpa using m1
     have JY:(w2.drewN nq).cell? (D g (o+x1*4+2) Z)=U (I J va):=by simpa using m2
     have JZ:(w2.drewN nq).cell? (D g (o+x1*4+3) Z)=U (I J pI):=by simpa using m3
     generalize w2.drewN nq=w3 at bI dF SB ZU C7 JX JY JZ ⊢
     have cH:=ax bI
     have dI:=ax dF
     have iX:=lc SB
     have XO:=bp C7
     simp only at XO
     clear bI dF s1 s2 y0 y1 y2 m0 m1 m2 m3 JA pW wO
     go_wp2_with fail
     go_region_held_law (fun w'=>w'.cell? (D R 1 Z)=U (S (U (D g o Z)) E.t.length tc)/\w'.cell? (D R 2 Z)=U (I J (x1:Int))/\w'.cell? (D g (o+x1*4) Z)=U (I J 15)/\w'.cell? (D g (o+x1*4+1) Z)=U (Y vt)/\w'.cell? (D g (o+x1*4+2) Z)=U (I J va)/\w'.cell? (D g (o+x1*4+3) Z)=U (I J pI)) (go_keep) (fail)
     rename_i hHeld
     clear hHeld
     have wF:Bw w3 (w3.alloc (C #[I J 15,Y vt,I J va,I J pI] 60)).drew:=(Be).drew
     have jY:(w3.alloc (C #[I J 15,Y vt,I J va,I J pI] 60)).drew.heap[w3.heap.size]? =U (C #[I J 15,Y vt,I J va,I J pI] 60 (0,0)):=bl w3 _
     generalize pZ:w3.heap.size=ab at jY ⊢
     generalize(w3.alloc _).drew=w4 at wF jY ⊢
     have bZ:=cH.out.below wF
     have bE:=ax bZ
     have cA:Hi (dg R w0 w4):=dI.out.trans (dg.of_below wF)
     have aj2:ab≠R:=O
     have gD:=bZ.own
     unfold ls at gD
     have e3:w4.cell? (D R 3 Z)=U (Bo false):=by simp[Wc,gD]
     have g3:w4.frozen? (D R 3 Z)=false:=Fz gD
     have e2:w4.cell? (D R 2 Z)=U (I J (x1:Int)):=by simp[Wc,gD]
     have g2:w4.frozen? (D R 2 Z)=false:=Fz gD
     obtain⟨-,a1,a2,a3⟩:=fi jY
     have wI:=lc e3
     have MJ:=bp a1
     simp only at MJ
     have pJ:Hi (∀nn:Bool,nn=(!decide (vt.size=0/\va=0/\pI=0))->uN E W R a c ta tc f (nd E.s i) dp r x u0 w0 (Y out) (I J ((k+1:Nat):Int)) ((w4.setCell (D R 3 Z) (Bo nn)).setCell (D R 2 Z) (I J ((x1+1:Nat):Int)))):=fun nn fJ=>by
      refine⟨k+1,out,x1+1,nn,tu,X,X,O,(cA.out.trans (dg.set 3 _)).trans (dg.set 2 _),(bE.out.setNo nn).setAt (x1+1),O,by have:=gU.out;have:=Ah gS;omega,?_⟩
      rcases BQ.out with⟨h1,h2,h3,h4⟩|⟨h1,h2⟩
      ·left;rw[fJ,ch ⟨h1,h2,h3⟩];exact⟨X,u1,sA.out,h4⟩
      ·right;rw[fJ,br h1];exact⟨X,h2⟩
     clear jY wF bZ gD SB ZU C7 JX JY JZ pZ iX XO
     by_cases q1:vt.size=0
     ·have yG:=jr q1
      by_cases q2:va=0
      ·rw[q2]at a2
       by_cases q3:pI=0
       ·rw[q3]at a3
        have HQ:Hi (false=(!decide (vt.size=0/\va=0/\pI=0))):=by show false=_;rw[ch ⟨q1,q2,q3⟩];rfl
        clear q1 q2 q3
        go_wp2
        go_roundw
        case rel=>exact pJ.out false HQ.out
        case measure=>exact Ms
       ·have HQ:Hi (true=(!decide (vt.size=0/\va=0/\pI=0))):=by show true=_;rw[br (fun h=>q3 h.2.2)];rfl
        have A3:(pI !=0)=true:=by simpa using q3
        clear q1 q2
        go_wp2
        go_roundw
        case rel=>exact pJ.out true HQ.out
        case measure=>exact Ms
      ·have HQ:Hi (true=(!decide (vt.size=0/\va=0/\pI=0))):=by show true=_;rw[br (fun h=>q2 h.2.1)];rfl
       clear q1
       go_wp2
       go_roundw
       case rel=>exact pJ.out true HQ.out
       case measure=>exact Ms
     ·have yG:=gw (t:=vt) O
      have HQ:Hi (true=(!decide (vt.size=0/\va=0/\pI=0))):=by show true=_;rw[br (fun h=>q1 h.1)];rfl
      clear q1
      go_wp2
      go_roundw
      case rel=>exact pJ.out true HQ.out
      case measure=>exact Ms
    ·have iP:=ax cW
     clear cW fH
     cases yo with
     |false=>
      go_quiet (fail)
      have bI:=aS.out.below (Go.below_drewN By nq)
      have pV:=bc kX.out (Go.below_drewN By nq)
      have dF:=dC.out.trans (dg.of_below (Go.below_drewN By nq))
      generalize w2.drewN nq=w3 at bI pV dF ⊢
      have cH:=ax bI
      have tC:=ax pV
      have dI:=ax dF
      obtain⟨z0, -,z2⟩:=pt pV
      have JB:=bp z0
      simp only at JB
      clear bI pV dF s1 s2 y0 y1 y2 JA pW
      by_cases iL:yd.size=0
      ·have yG:yd.toList.isEmpty=true:=jr iL
       obtain⟨r1,iZ,bW⟩:∃r1,wrF E f t x1 (dp+1)=U r1/\((r1=Z/\r=Z)\/∃b x' u',r1=U (b,x',u')/\((yd.size≠0/\b=yd/\dx E (wrF E f) dp ((nd E.s i).kids.drop (k+1)) x' out (u1||u')=U r)\/(¬(yd.size≠0/\b=yd)/\12<dp+1/\r=Z)\/(¬(yd.size≠0/\b=yd)/\dp+1<=12/\dx E (wrF E f) dp ((nd E.s i).kids.drop (k+1)) x' (out++b) (u1||u')=U r))):=by
        obtain⟨r1,h1,h2⟩:=iP.out
        rw[ba iL]at h1
        exact⟨r1,h1,h2⟩
       have cF:=ax bW
       have dV:=ax (HN.out t x1 (dp+1) r1 tu w3 iZ bC bR O O cH.out)
       clear iZ bW iP
       go_wp2_with fail
       refine dV.out.mono ?_
       rintro e w4 fO
       have cA:Hi (dg R w0 w4):=dI.out.trans fO.1
       have jW:=fO.1 _ _ EP tC.out
       obtain⟨b,x2,dE,fM,rfl,cW,aQ,bZ,nV⟩:∃b x2 dE fM,e=Rt (Y b)/\b.size+pz E.t x1<=pz E.t x2/\x2<=E.t.length/\kh W w4 R a E.s.length c ta E.t.length tc x2 dE fM/\((dE=false/\∃u2,fM=(u0||u2)/\((yd.size≠0/\b=yd/\dx E (wrF E f) dp ((nd E.s i).kids.drop (k+1)) x2 out u2=U r)\/(¬(yd.size≠0/\b=yd)/\12<dp+1/\r=Z)\/(¬(yd.size≠0/\b=yd)/\dp+1<=12/\dx E (wrF E f) dp ((nd E.s i).kids.drop (k+1)) x2 (out++b) u2=U r)))\/(dE=true/\r=Z)):=by
        rcases fO.2 with⟨b,x2,u2,hr,he,cW,aQ,bZ⟩|⟨hr,b,x2,u2,he,cW,aQ,bZ⟩
        ·refine⟨b,x2,false,_,he,cW,aQ,bZ,.inl ⟨X,u1||u2,by rw[sA.out,u9],?_⟩⟩
         rcases cF.out with⟨q,_⟩|⟨b',x',u',q,h⟩
         ·rw[q]at hr;cases hr
         ·rw[q]at hr;cases hr;exact h
        ·refine⟨b,x2,true,u2,he,cW,aQ,bZ,.inr ⟨X,?_⟩⟩
         rcases cF.out with⟨_,q⟩|⟨b',x',u',q,_⟩
         ·exact q
         ·rw[q]at hr;cases hr
       have iP:=ax cW
       have bE:=ax bZ
       have oD:=ax nV
       have gD:=bZ.own
       unfold ls at gD
       have e3:w4.cell? (D R 3 Z)=U (Bo dE):=by simp[Wc,gD]
       have g3:w4.frozen? (D R 3 Z)=false:=Fz gD
       have wI:=lc e3
       have y2:w4.cell? (D xb 2 Z)=U (Y yd):=bq jW X
       have vD:=bp y2
       simp only at vD
       have ET:(out.size:Int)+b.size<=16777000:=by
        have h1:=gU.out
        have h2:=HC.out.size
        have h3:=ja aQ Ln
        omega
       have eF:Hi (∀nn:Bool,nn=(dE||decide (12<dp+1))->¬(yd.size≠0/\b=yd)->uN E W R a c ta tc f (nd E.s i) dp r x u0 w0 (Y (out++b)) (I J ((k+1:Nat):Int)) (w4.setCell (D R 3 Z) (Bo nn))):=fun nn fJ dH=>by
        refine⟨k+1,out++b,x2,nn,fM,X,X,O,cA.out.trans (dg.set 3 _),bE.out.setNo nn,aQ,?_,?_⟩
        ·rw[iq];have:=gU.out;have:=iP.out;omega
        ·rcases oD.out with⟨h1,u2,h2,h3⟩|⟨h1,h2⟩
         ·rcases h3 with⟨p1,p2,_⟩|⟨_,p1,p2⟩|⟨_,p1,p2⟩
          ·exact Ab ⟨p1,p2⟩ dH
          ·right;rw[fJ,h1,ch p1];exact⟨X,p2⟩
          ·left;rw[fJ,h1,br (show¬12<dp+1 by omega)];exact⟨X,u2,h2,p2⟩
         ·right;rw[fJ,h1];exact⟨X,h2⟩
       clear fO cW bZ nV gD jW dV cF
       cases dE with
       |true=>
        go_wp2
        go_roundw
        case rel=>exact eF.out true X (fun h=>h.1 iL)
        case measure=>exact Ms
       |false=>
        by_cases mV:12<dp+1
        ·have sE:decide (12<dp+1)=true:=ch mV
         go_wp2
         go_roundw
         case rel=>exact eF.out true (by rw[ch (show 12<dp+1 by omega)];rfl) (fun h=>h.1 iL)
         case measure=>exact Ms
        ·have sE:decide (12<dp+1)=false:=br mV
         go_wp2
         go_roundw
         case rel=>exact eF.out false (by rw[br (show¬12<dp+1 by omega)];rfl) (fun h=>h.1 iL)
         case measure=>exact Ms
      ·have yG:yd.toList.isEmpty=false:=gw (t:=yd) O
       obtain⟨r1,iZ,bW⟩:∃r1,wrF E f t x1 (1)=U r1/\((r1=Z/\r=Z)\/∃b x' u',r1=U (b,x',u')/\((yd.size≠0/\b=yd/\dx E (wrF E f) dp ((nd E.s i).kids.drop (k+1)) x' out (u1||u')=U r)\/(¬(yd.size≠0/\b=yd)/\12<dp+1/\r=Z)\/(¬(yd.size≠0/\b=yd)/\dp+1<=12/\dx E (wrF E f) dp ((nd E.s i).kids.drop (k+1)) x' (out++b) (u1||u')=U r))):=by
        obtain⟨r1,h1,h2⟩:=iP.out
        rw[G iL]at h1
        exact⟨r1,h1,h2⟩
       have cF:=ax bW
       have dV:=ax (HN.out t x1 (1) r1 tu w3 iZ bC bR O O cH.out)
       clear iZ bW iP
       go_wp2_with fail
       refine dV.out.mono ?_
       rintro e w4 fO
       have cA:Hi (dg R w0 w4):=dI.out.trans fO.1
       have jW:=fO.1 _ _ EP tC.out
       obtain⟨b,x2,dE,fM,rfl,cW,aQ,bZ,nV⟩:∃b x2 dE fM,e=Rt (Y b)/\b.size+pz E.t x1<=pz E.t x2/\x2<=E.t.length/\kh W w4 R a E.s.length c ta E.t.length tc x2 dE fM/\((dE=false/\∃u2,fM=(u0||u2)/\((yd.size≠0/\b=yd/\dx E (wrF E f) dp ((nd E.s i).kids.drop (k+1)) x2 out u2=U r)\/(¬(yd.size≠0/\b=yd)/\12<dp+1/\r=Z)\/(¬(yd.size≠0/\b=yd)/\dp+1<=12/\dx E (wrF E f) dp ((nd E.s i).kids.drop (k+1)) x2 (out++b) u2=U r)))\/(dE=true/\r=Z)):=by
        rcases fO.2 with⟨b,x2,u2,hr,he,cW,aQ,bZ⟩|⟨hr,b,x2,u2,he,cW,aQ,bZ⟩
        ·refine⟨b,x2,false,_,he,cW,aQ,bZ,.inl ⟨X,u1||u2,by rw[sA.out,u9],?_⟩⟩
         rcases cF.out with⟨q,_⟩|⟨b',x',u',q,h⟩
         ·rw[q]at hr;cases hr
         ·rw[q]at hr;cases hr;exact h
        ·refine⟨b,x2,true,u2,he,cW,aQ,bZ,.inr ⟨X,?_⟩⟩
         rcases cF.out with⟨_,q⟩|⟨b',x',u',q,_⟩
         ·exact q
         ·rw[q]at hr;cases hr
       have iP:=ax cW
       have bE:=ax bZ
       have oD:=ax nV
       have gD:=bZ.own
       unfold ls at gD
       have e3:w4.cell? (D R 3 Z)=U (Bo dE):=by simp[Wc,gD]
       have g3:w4.frozen? (D R 3 Z)=false:=Fz gD
       have wI:=lc e3
       have y2:w4.cell? (D xb 2 Z)=U (Y yd):=bq jW X
       have vD:=bp y2
       simp only at vD
       have ET:(out.size:Int)+b.size<=16777000:=by
        have h1:=gU.out
        have h2:=HC.out.size
        have h3:=ja aQ Ln
        omega
       have eF:Hi (∀nn:Bool,nn=(dE||decide (12<dp+1))->¬(yd.size≠0/\b=yd)->uN E W R a c ta tc f (nd E.s i) dp r x u0 w0 (Y (out++b)) (I J ((k+1:Nat):Int)) (w4.setCell (D R 3 Z) (Bo nn))):=fun nn fJ dH=>by
        refine⟨k+1,out++b,x2,nn,fM,X,X,O,cA.out.trans (dg.set 3 _),bE.out.setNo nn,aQ,?_,?_⟩
        ·rw[iq];have:=gU.out;have:=iP.out;omega
        ·rcases oD.out with⟨h1,u2,h2,h3⟩|⟨h1,h2⟩
         ·rcases h3 with⟨p1,p2,_⟩|⟨_,p1,p2⟩|⟨_,p1,p2⟩
          ·exact Ab ⟨p1,p2⟩ dH
          ·right;rw[fJ,h1,ch p1];exact⟨X,p2⟩
          ·left;rw[fJ,h1,br (show¬12<dp+1 by omega)];exact⟨X,u2,h2,p2⟩
         ·right;rw[fJ,h1];exact⟨X,h2⟩
       have eX:Hi (b=yd->uN E W R a c ta tc f (nd E.s i) dp r x u0 w0 (Y out) (I J ((k+1:Nat):Int)) w4):=fun hb=>by
        refine⟨k+1,out,x2,dE,fM,X,X,O,cA.out,bE.out,aQ,by have:=gU.out;have:=iP.out;omega,?_⟩
        rcases oD.out with⟨h1,u2,h2,h3⟩|⟨h1,h2⟩
        ·rcases h3 with⟨p1,p2,p3⟩|⟨p0,_⟩|⟨p0,_⟩
         ·exact .inl ⟨h1,u2,h2,p3⟩
         ·exact Ab ⟨iL,hb⟩ p0
         ·exact Ab ⟨iL,hb⟩ p0
        ·exact .inr ⟨h1,h2⟩
       clear fO cW bZ nV gD jW dV cF
       by_cases fT:b=yd
       ·have j0:=ax fT
        have p9:(b.toList==yd.toList)=true:=by rw[fT];simp
        clear fT
        go_wp2
        go_roundw
        case rel=>exact eX.out j0.out
        case measure=>exact Ms
       ·have p9:(b.toList==yd.toList)=false:=by
         rw[lf]
         intro q
         rw[Lib.toList_data,Lib.toList_data]at q
         exact fT (je (Hn q))
        have j0:=ax fT
        clear fT
        cases dE with
        |true=>
         go_wp2
         go_roundw
         case rel=>exact eF.out true X (fun h=>j0.out h.2)
         case measure=>exact Ms
        |false=>
         by_cases mV:12<dp+1
         ·have sE:decide (12<dp+1)=true:=ch mV
          go_wp2
          go_roundw
          case rel=>exact eF.out true (by rw[ch (show 12<dp+1 by omega)];rfl) (fun h=>j0.out h.2)
          case measure=>exact Ms
         ·have sE:decide (12<dp+1)=false:=br mV
          go_wp2
          go_roundw
          case rel=>exact eF.out false (by rw[br (show¬12<dp+1 by omega)];rfl) (fun h=>j0.out h.2)
          case measure=>exact Ms
     |true=>
      by_cases gS:x1<E.t.length
      ·have FB:(x1:Int)<E.t.length:=O
       have QY:¬(vl E.t x1).kind=15:=fun h=>jA ⟨X,gS,h⟩
       obtain⟨g,o,iJ,p0,_,_,_⟩:=wA.out x1 gS
       rw[iJ]at s1
       have m0:w2.cell? (D g (o+x1*4) Z)=U (I J (vl E.t x1).kind):=Cb aM.out p0
       clear p0 jA iJ
       go_quiet (fail)
       have bI:=aS.out.below (Go.below_drewN By nq)
       have pV:=bc kX.out (Go.below_drewN By nq)
       have dF:=dC.out.trans (dg.of_below (Go.below_drewN By nq))
       generalize w2.drewN nq=w3 at bI pV dF ⊢
       have cH:=ax bI
       have tC:=ax pV
       have dI:=ax dF
       obtain⟨z0, -,z2⟩:=pt pV
       have JB:=bp z0
       simp only at JB
       clear bI pV dF s1 s2 y0 y1 y2 JA pW
       by_cases iL:yd.size=0
       ·have yG:yd.toList.isEmpty=true:=jr iL
        obtain⟨r1,iZ,bW⟩:∃r1,wrF E f t x1 (dp+1)=U r1/\((r1=Z/\r=Z)\/∃b x' u',r1=U (b,x',u')/\((yd.size≠0/\b=yd/\dx E (wrF E f) dp ((nd E.s i).kids.drop (k+1)) x' out (u1||u')=U r)\/(¬(yd.size≠0/\b=yd)/\12<dp+1/\r=Z)\/(¬(yd.size≠0/\b=yd)/\dp+1<=12/\dx E (wrF E f) dp ((nd E.s i).kids.drop (k+1)) x' (out++b) (u1||u')=U r))):=by
         obtain⟨r1,h1,h2⟩:=iP.out
         rw[ba iL]at h1
         exact⟨r1,h1,h2⟩
        have cF:=ax bW
        have dV:=ax (HN.out t x1 (dp+1) r1 tu w3 iZ bC bR O O cH.out)
        clear iZ bW iP
        go_wp2_with fail
        refine dV.out.mono ?_
        rintro e w4 fO
        have cA:Hi (dg R w0 w4):=dI.out.trans fO.1
        have jW:=fO.1 _ _ EP tC.out
        obtain⟨b,x2,dE,fM,rfl,cW,aQ,bZ,nV⟩:∃b x2 dE fM,e=Rt (Y b)/\b.size+pz E.t x1<=pz E.t x2/\x2<=E.t.length/\kh W w4 R a E.s.length c ta E.t.length tc x2 dE fM/\((dE=false/\∃u2,fM=(u0||u2)/\((yd.size≠0/\b=yd/\dx E (wrF E f) dp ((nd E.s i).kids.drop (k+1)) x2 out u2=U r)\/(¬(yd.size≠0/\b=yd)/\12<dp+1/\r=Z)\/(¬(yd.size≠0/\b=yd)/\dp+1<=12/\dx E (wrF E f) dp ((nd E.s i).kids.drop (k+1)) x2 (out++b) u2=U r)))\/(dE=true/\r=Z)):=by
         rcases fO.2 with⟨b,x2,u2,hr,he,cW,aQ,bZ⟩|⟨hr,b,x2,u2,he,cW,aQ,bZ⟩
         ·refine⟨b,x2,false,_,he,cW,aQ,bZ,.inl ⟨X,u1||u2,by rw[sA.out,u9],?_⟩⟩
          rcases cF.out with⟨q,_⟩|⟨b',x',u',q,h⟩
          ·rw[q]at hr;cases hr
          ·rw[q]at hr;cases hr;exact h
         ·refine⟨b,x2,true,u2,he,cW,aQ,bZ,.inr ⟨X,?_⟩⟩
          rcases cF.out with⟨_,q⟩|⟨b',x',u',q,_⟩
          ·exact q
          ·rw[q]at hr;cases hr
        have iP:=ax cW
        have bE:=ax bZ
        have oD:=ax nV
        have gD:=bZ.own
        unfold ls at gD
        have e3:w4.cell? (D R 3 Z)=U (Bo dE):=by simp[Wc,gD]
        have g3:w4.frozen? (D R 3 Z)=false:=Fz gD
        have wI:=lc e3
        have y2:w4.cell? (D xb 2 Z)=U (Y yd):=bq jW X
        have vD:=bp y2
        simp only at vD
        have ET:(out.size:Int)+b.size<=16777000:=by
         have h1:=gU.out
         have h2:=HC.out.size
         have h3:=ja aQ Ln
         omega
        have eF:Hi (∀nn:Bool,nn=(dE||decide (12<dp+1))->¬(yd.size≠0/\b=yd)->uN E W R a c ta tc f (nd E.s i) dp r x u0 w0 (Y (out++b)) (I J ((k+1:Nat):Int)) (w4.setCell (D R 3 Z) (Bo nn))):=fun nn fJ dH=>by
         refine⟨k+1,out++b,x2,nn,fM,X,X,O,cA.out.trans (dg.set 3 _),bE.out.setNo nn,aQ,?_,?_⟩
         ·rw[iq];have:=gU.out;have:=iP.out;omega
         ·rcases oD.out with⟨h1,u2,h2,h3⟩|⟨h1,h2⟩
          ·rcases h3 with⟨p1,p2,_⟩|⟨_,p1,p2⟩|⟨_,p1,p2⟩
           ·exact Ab ⟨p1,p2⟩ dH
           ·right;rw[fJ,h1,ch p1];exact⟨X,p2⟩
           ·left;rw[fJ,h1,br (show¬12<dp+1 by omega)];exact⟨X,u2,h2,p2⟩
          ·right;rw[fJ,h1];exact⟨X,h2⟩
        clear fO cW bZ nV gD jW dV cF
        cases dE with
        |true=>
         go_wp2
         go_roundw
         case rel=>exact eF.out true X (fun h=>h.1 iL)
         case measure=>exact Ms
        |false=>
         by_cases mV:12<dp+1
         ·have sE:decide (12<dp+1)=true:=ch mV
          go_wp2
          go_roundw
          case rel=>exact eF.out true (by rw[ch (show 12<dp+1 by omega)];rfl) (fun h=>h.1 iL)
          case measure=>exact Ms
         ·have sE:decide (12<dp+1)=false:=br mV
          go_wp2
          go_roundw
          case rel=>exact eF.out false (by rw[br (show¬12<dp+1 by omega)];rfl) (fun h=>h.1 iL)
          case measure=>exact Ms
       ·have yG:yd.toList.isEmpty=false:=gw (t:=yd) O
        obtain⟨r1,iZ,bW⟩:∃r1,wrF E f t x1 (1)=U r1/\((r1=Z/\r=Z)\/∃b x' u',r1=U (b,x',u')/\((yd.size≠0/\b=yd/\dx E (wrF E f) dp ((nd E.s i).kids.drop (k+1)) x' out (u1||u')=U r)\/(¬(yd.size≠0/\b=yd)/\12<dp+1/\r=Z)\/(¬(yd.size≠0/\b=yd)/\dp+1<=12/\dx E (wrF E f) dp ((nd E.s i).kids.drop (k+1)) x' (out++b) (u1||u')=U r))):=by
         obtain⟨r1,h1,h2⟩:=iP.out
         rw[G iL]at h1
         exact⟨r1,h1,h2⟩
        have cF:=ax bW
        have dV:=ax (HN.out t x1 (1) r1 tu w3 iZ bC bR O O cH.out)
        clear iZ bW iP
        go_wp2_with fail
        refine dV.out.mono ?_
        rintro e w4 fO
        have cA:Hi (dg R w0 w4):=dI.out.trans fO.1
        have jW:=fO.1 _ _ EP tC.out
        obtain⟨b,x2,dE,fM,rfl,cW,aQ,bZ,nV⟩:∃b x2 dE fM,e=Rt (Y b)/\b.size+pz E.t x1<=pz E.t x2/\x2<=E.t.length/\kh W w4 R a E.s.length c ta E.t.length tc x2 dE fM/\((dE=false/\∃u2,fM=(u0||u2)/\((yd.size≠0/\b=yd/\dx E (wrF E f) dp ((nd E.s i).kids.drop (k+1)) x2 out u2=U r)\/(¬(yd.size≠0/\b=yd)/\12<dp+1/\r=Z)\/(¬(yd.size≠0/\b=yd)/\dp+1<=12/\dx E (wrF E f) dp ((nd E.s i).kids.drop (k+1)) x2 (out++b) u2=U r)))\/(dE=true/\r=Z)):=by
         rcases fO.2 with⟨b,x2,u2,hr,he,cW,aQ,bZ⟩|⟨hr,b,x2,u2,he,cW,aQ,bZ⟩
         ·refine⟨b,x2,false,_,he,cW,aQ,bZ,.inl ⟨X,u1||u2,by rw[sA.out,u9],?_⟩⟩
          rcases cF.out with⟨q,_⟩|⟨b',x',u',q,h⟩
          ·rw[q]at hr;cases hr
          ·rw[q]at hr;cases hr;exact h
         ·refine⟨b,x2,true,u2,he,cW,aQ,bZ,.inr ⟨X,?_⟩⟩
          rcases cF.out with⟨_,q⟩|⟨b',x',u',q,_⟩
          ·exact q
          ·rw[q]at hr;cases hr
        have iP:=ax cW
        have bE:=ax bZ
        have oD:=ax nV
        have gD:=bZ.own
        unfold ls at gD
        have e3:w4.cell? (D R 3 Z)=U (Bo dE):=by simp[Wc,gD]
        have g3:w4.frozen? (D R 3 Z)=false:=Fz gD
        have wI:=lc e3
        have y2:w4.cell? (D xb 2 Z)=U (Y yd):=bq jW X
        have vD:=bp y2
        simp only at vD
        have ET:(out.size:Int)+b.size<=16777000:=by
         have h1:=gU.out
         have h2:=HC.out.size
         have h3:=ja aQ Ln
         omega
        have eF:Hi (∀nn:Bool,nn=(dE||decide (12<dp+1))->¬(yd.size≠0/\b=yd)->uN E W R a c ta tc f (nd E.s i) dp r x u0 w0 (Y (out++b)) (I J ((k+1:Nat):Int)) (w4.setCell (D R 3 Z) (Bo nn))):=fun nn fJ dH=>by
         refine⟨k+1,out++b,x2,nn,fM,X,X,O,cA.out.trans (dg.set 3 _),bE.out.setNo nn,aQ,?_,?_⟩
         ·rw[iq];have:=gU.out;have:=iP.out;omega
         ·rcases oD.out with⟨h1,u2,h2,h3⟩|⟨h1,h2⟩
          ·rcases h3 with⟨p1,p2,_⟩|⟨_,p1,p2⟩|⟨_,p1,p2⟩
           ·exact Ab ⟨p1,p2⟩ dH
           ·right;rw[fJ,h1,ch p1];exact⟨X,p2⟩
           ·left;rw[fJ,h1,br (show¬12<dp+1 by omega)];exact⟨X,u2,h2,p2⟩
          ·right;rw[fJ,h1];exact⟨X,h2⟩
        have eX:Hi (b=yd->uN E W R a c ta tc f (nd E.s i) dp r x u0 w0 (Y out) (I J ((k+1:Nat):Int)) w4):=fun hb=>by
         refine⟨k+1,out,x2,dE,fM,X,X,O,cA.out,bE.out,aQ,by have:=gU.out;have:=iP.out;omega,?_⟩
         rcases oD.out with⟨h1,u2,h2,h3⟩|⟨h1,h2⟩
         ·rcases h3 with⟨p1,p2,p3⟩|⟨p0,_⟩|⟨p0,_⟩
          ·exact .inl ⟨h1,u2,h2,p3⟩
          ·exact Ab ⟨iL,hb⟩ p0
          ·exact Ab ⟨iL,hb⟩ p0
         ·exact .inr ⟨h1,h2⟩
        clear fO cW bZ nV gD jW dV cF
        by_cases fT:b=yd
        ·have j0:=ax fT
         have p9:(b.toList==yd.toList)=true:=by rw[fT];simp
         clear fT
         go_wp2
         go_roundw
         case rel=>exact eX.out j0.out
         case measure=>exact Ms
        ·have p9:(b.toList==yd.toList)=false:=by
          rw[lf]
          intro q
          rw[Lib.toList_data,Lib.toList_data]at q
          exact fT (je (Hn q))
         have j0:=ax fT
         clear fT
         cases dE with
         |true=>
          go_wp2
          go_roundw
          case rel=>exact eF.out true X (fun h=>j0.out h.2)
          case measure=>exact Ms
         |false=>
          by_cases mV:12<dp+1
          ·have sE:decide (12<dp+1)=true:=ch mV
           go_wp2
           go_roundw
           case rel=>exact eF.out true (by rw[ch (show 12<dp+1 by omega)];rfl) (fun h=>j0.out h.2)
           case measure=>exact Ms
          ·have sE:decide (12<dp+1)=false:=br mV
           go_wp2
           go_roundw
           case rel=>exact eF.out false (by rw[br (show¬12<dp+1 by omega)];rfl) (fun h=>j0.out h.2)
           case measure=>exact Ms
      ·have FB:(E.t.length:Int)<=x1:=O
       clear jA
       go_quiet (fail)
       have bI:=aS.out.below (Go.below_drewN By nq)
       have pV:=bc kX.out (Go.below_drewN By nq)
       have dF:=dC.out.trans (dg.of_below (Go.below_drewN By nq))
       generalize w2.drewN nq=w3 at bI pV dF ⊢
       have cH:=ax bI
       have tC:=ax pV
       have dI:=ax dF
       obtain⟨z0, -,z2⟩:=pt pV
       have JB:=bp z0
       simp only at JB
       clear bI pV dF s1 s2 y0 y1 y2 JA pW
       by_cases iL:yd.size=0
       ·have yG:yd.toList.isEmpty=true:=jr iL
        obtain⟨r1,iZ,bW⟩:∃r1,wrF E f t x1 (dp+1)=U r1/\((r1=Z/\r=Z)\/∃b x' u',r1=U (b,x',u')/\((yd.size≠0/\b=yd/\dx E (wrF E f) dp ((nd E.s i).kids.drop (k+1)) x' out (u1||u')=U r)\/(¬(yd.size≠0/\b=yd)/\12<dp+1/\r=Z)\/(¬(yd.size≠0/\b=yd)/\dp+1<=12/\dx E (wrF E f) dp ((nd E.s i).kids.drop (k+1)) x' (out++b) (u1||u')=U r))):=by
         obtain⟨r1,h1,h2⟩:=iP.out
         rw[ba iL]at h1
         exact⟨r1,h1,h2⟩
        have cF:=ax bW
        have dV:=ax (HN.out t x1 (dp+1) r1 tu w3 iZ bC bR O O cH.out)
        clear iZ bW iP
        go_wp2_with fail
        refine dV.out.mono ?_
        rintro e w4 fO
        have cA:Hi (dg R w0 w4):=dI.out.trans fO.1
        have jW:=fO.1 _ _ EP tC.out
        obtain⟨b,x2,dE,fM,rfl,cW,aQ,bZ,nV⟩:∃b x2 dE fM,e=Rt (Y b)/\b.size+pz E.t x1<=pz E.t x2/\x2<=E.t.length/\kh W w4 R a E.s.length c ta E.t.length tc x2 dE fM/\((dE=false/\∃u2,fM=(u0||u2)/\((yd.size≠0/\b=yd/\dx E (wrF E f) dp ((nd E.s i).kids.drop (k+1)) x2 out u2=U r)\/(¬(yd.size≠0/\b=yd)/\12<dp+1/\r=Z)\/(¬(yd.size≠0/\b=yd)/\dp+1<=12/\dx E (wrF E f) dp ((nd E.s i).kids.drop (k+1)) x2 (out++b) u2=U r)))\/(dE=true/\r=Z)):=by
         rcases fO.2 with⟨b,x2,u2,hr,he,cW,aQ,bZ⟩|⟨hr,b,x2,u2,he,cW,aQ,bZ⟩
         ·refine⟨b,x2,false,_,he,cW,aQ,bZ,.inl ⟨X,u1||u2,by rw[sA.out,u9],?_⟩⟩
          rcases cF.out with⟨q,_⟩|⟨b',x',u',q,h⟩
          ·rw[q]at hr;cases hr
          ·rw[q]at hr;cases hr;exact h
         ·refine⟨b,x2,true,u2,he,cW,aQ,bZ,.inr ⟨X,?_⟩⟩
          rcases cF.out with⟨_,q⟩|⟨b',x',u',q,_⟩
          ·exact q
          ·rw[q]at hr;cases hr
        have iP:=ax cW
        have bE:=ax bZ
        have oD:=ax nV
        have gD:=bZ.own
        unfold ls at gD
        have e3:w4.cell? (D R 3 Z)=U (Bo dE):=by simp[Wc,gD]
        have g3:w4.frozen? (D R 3 Z)=false:=Fz gD
        have wI:=lc e3
        have y2:w4.cell? (D xb 2 Z)=U (Y yd):=bq jW X
        have vD:=bp y2
        simp only at vD
        have ET:(out.size:Int)+b.size<=16777000:=by
         have h1:=gU.out
         have h2:=HC.out.size
         have h3:=ja aQ Ln
         omega
        have eF:Hi (∀nn:Bool,nn=(dE||decide (12<dp+1))->¬(yd.size≠0/\b=yd)->uN E W R a c ta tc f (nd E.s i) dp r x u0 w0 (Y (out++b)) (I J ((k+1:Nat):Int)) (w4.setCell (D R 3 Z) (Bo nn))):=fun nn fJ dH=>by
         refine⟨k+1,out++b,x2,nn,fM,X,X,O,cA.out.trans (dg.set 3 _),bE.out.setNo nn,aQ,?_,?_⟩
         ·rw[iq];have:=gU.out;have:=iP.out;omega
         ·rcases oD.out with⟨h1,u2,h2,h3⟩|⟨h1,h2⟩
          ·rcases h3 with⟨p1,p2,_⟩|⟨_,p1,p2⟩|⟨_,p1,p2⟩
           ·exact Ab ⟨p1,p2⟩ dH
           ·right;rw[fJ,h1,ch p1];exact⟨X,p2⟩
           ·left;rw[fJ,h1,br (show¬12<dp+1 by omega)];exact⟨X,u2,h2,p2⟩
          ·right;rw[fJ,h1];exact⟨X,h2⟩
        clear fO cW bZ nV gD jW dV cF
        cases dE with
        |true=>
         go_wp2
         go_roundw
         case rel=>exact eF.out true X (fun h=>h.1 iL)
         case measure=>exact Ms
        |false=>
         by_cases mV:12<dp+1
         ·have sE:decide (12<dp+1)=true:=ch mV
          go_wp2
          go_roundw
          case rel=>exact eF.out true (by rw[ch (show 12<dp+1 by omega)];rfl) (fun h=>h.1 iL)
          case measure=>exact Ms
         ·have sE:decide (12<dp+1)=false:=br mV
          go_wp2
          go_roundw
          case rel=>exact eF.out false (by rw[br (show¬12<dp+1 by omega)];rfl) (fun h=>h.1 iL)
          case measure=>exact Ms
       ·have yG:yd.toList.isEmpty=false:=gw (t:=yd) O
        obtain⟨r1,iZ,bW⟩:∃r1,wrF E f t x1 (1)=U r1/\((r1=Z/\r=Z)\/∃b x' u',r1=U (b,x',u')/\((yd.size≠0/\b=yd/\dx E (wrF E f) dp ((nd E.s i).kids.drop (k+1)) x' out (u1||u')=U r)\/(¬(yd.size≠0/\b=yd)/\12<dp+1/\r=Z)\/(¬(yd.size≠0/\b=yd)/\dp+1<=12/\dx E (wrF E f) dp ((nd E.s i).kids.drop (k+1)) x' (out++b) (u1||u')=U r))):=by
         obtain⟨r1,h1,h2⟩:=iP.out
         rw[G iL]at h1
         exact⟨r1,h1,h2⟩
        have cF:=ax bW
        have dV:=ax (HN.out t x1 (1) r1 tu w3 iZ bC bR O O cH.out)
        clear iZ bW iP
        go_wp2_with fail
        refine dV.out.mono ?_
        rintro e w4 fO
        have cA:Hi (dg R w0 w4):=dI.out.trans fO.1
        have jW:=fO.1 _ _ EP tC.out
        obtain⟨b,x2,dE,fM,rfl,cW,aQ,bZ,nV⟩:∃b x2 dE fM,e=Rt (Y b)/\b.size+pz E.t x1<=pz E.t x2/\x2<=E.t.length/\kh W w4 R a E.s.length c ta E.t.length tc x2 dE fM/\((dE=false/\∃u2,fM=(u0||u2)/\((yd.size≠0/\b=yd/\dx E (wrF E f) dp ((nd E.s i).kids.drop (k+1)) x2 out u2=U r)\/(¬(yd.size≠0/\b=yd)/\12<dp+1/\r=Z)\/(¬(yd.size≠0/\b=yd)/\dp+1<=12/\dx E (wrF E f) dp ((nd E.s i).kids.drop (k+1)) x2 (out++b) u2=U r)))\/(dE=true/\r=Z)):=by
         rcases fO.2 with⟨b,x2,u2,hr,he,cW,aQ,bZ⟩|⟨hr,b,x2,u2,he,cW,aQ,bZ⟩
         ·refine⟨b,x2,false,_,he,cW,aQ,bZ,.inl ⟨X,u1||u2,by rw[sA.out,u9],?_⟩⟩
          rcases cF.out with⟨q,_⟩|⟨b',x',u',q,h⟩
          ·rw[q]at hr;cases hr
          ·rw[q]at hr;cases hr;exact h
         ·refine⟨b,x2,true,u2,he,cW,aQ,bZ,.inr ⟨X,?_⟩⟩
          rcases cF.out with⟨_,q⟩|⟨b',x',u',q,_⟩
          ·exact q
          ·rw[q]at hr;cases hr
        have iP:=ax cW
        have bE:=ax bZ
        have oD:=ax nV
        have gD:=bZ.own
        unfold ls at gD
        have e3:w4.cell? (D R 3 Z)=U (Bo dE):=by simp[Wc,gD]
        have g3:w4.frozen? (D R 3 Z)=false:=Fz gD
        have wI:=lc e3
        have y2:w4.cell? (D xb 2 Z)=U (Y yd):=bq jW X
        have vD:=bp y2
        simp only at vD
        have ET:(out.size:Int)+b.size<=16777000:=by
         have h1:=gU.out
         have h2:=HC.out.size
         have h3:=ja aQ Ln
         omega
        have eF:Hi (∀nn:Bool,nn=(dE||decide (12<dp+1))->¬(yd.size≠0/\b=yd)->uN E W R a c ta tc f (nd E.s i) dp r x u0 w0 (Y (out++b)) (I J ((k+1:Nat):Int)) (w4.setCell (D R 3 Z) (Bo nn))):=fun nn fJ dH=>by
         refine⟨k+1,out++b,x2,nn,fM,X,X,O,cA.out.trans (dg.set 3 _),bE.out.setNo nn,aQ,?_,?_⟩
         ·rw[iq];have:=gU.out;have:=iP.out;omega
         ·rcases oD.out with⟨h1,u2,h2,h3⟩|⟨h1,h2⟩
          ·rcases h3 with⟨p1,p2,_⟩|⟨_,p1,p2⟩|⟨_,p1,p2⟩
           ·exact Ab ⟨p1,p2⟩ dH
           ·right;rw[fJ,h1,ch p1];exact⟨X,p2⟩
           ·left;rw[fJ,h1,br (show¬12<dp+1 by omega)];exact⟨X,u2,h2,p2⟩
          ·right;rw[fJ,h1];exact⟨X,h2⟩
        have eX:Hi (b=yd->uN E W R a c ta tc f (nd E.s i) dp r x u0 w0 (Y out) (I J ((k+1:Nat):Int)) w4):=fun hb=>by
         refine⟨k+1,out,x2,dE,fM,X,X,O,cA.out,bE.out,aQ,by have:=gU.out;have:=iP.out;omega,?_⟩
         rcases oD.out with⟨h1,u2,h2,h3⟩|⟨h1,h2⟩
         ·rcases h3 with⟨p1,p2,p3⟩|⟨p0,_⟩|⟨p0,_⟩
          ·exact .inl ⟨h1,u2,h2,p3⟩
          ·exact Ab ⟨iL,hb⟩ p0
          ·exact Ab ⟨iL,hb⟩ p0
         ·exact .inr ⟨h1,h2⟩
        clear fO cW bZ nV gD jW dV cF
        by_cases fT:b=yd
        ·have j0:=ax fT
         have p9:(b.toList==yd.toList)=true:=by rw[fT];simp
         clear fT
         go_wp2
         go_roundw
         case rel=>exact eX.out j0.out
         case measure=>exact Ms
        ·have p9:(b.toList==yd.toList)=false:=by
          rw[lf]
          intro q
          rw[Lib.toList_data,Lib.toList_data]at q
          exact fT (je (Hn q))
         have j0:=ax fT
         clear fT
         cases dE with
         |true=>
          go_wp2
          go_roundw
          case rel=>exact eF.out true X (fun h=>j0.out h.2)
          case measure=>exact Ms
         |false=>
          by_cases mV:12<dp+1
          ·have sE:decide (12<dp+1)=true:=ch mV
           go_wp2
           go_roundw
           case rel=>exact eF.out true (by rw[ch (show 12<dp+1 by omega)];rfl) (fun h=>j0.out h.2)
           case measure=>exact Ms
          ·have sE:decide (12<dp+1)=false:=br mV
           go_wp2
           go_roundw
           case rel=>exact eF.out false (by rw[br (show¬12<dp+1 by omega)];rfl) (fun h=>j0.out h.2)
           case measure=>exact Ms
   ·have aN:((nd E.s i).kids.length:Int)<=k:=O
    have HE:Hi (r=U (out,x1,u1)):=by
     rw[Av O]at hmm
     exact(dd hmm).symm
    clear hmm AS
    go_wp2
    go_ret
    refine⟨(dg.of_below aY.out).trans HF.out,.inl ⟨out,x1,u1,HE.out,X,gU.out,bR,?_⟩⟩
    have:=aZ.out
    rwa[sA.out]at this
 rw[G q]at hm;have HR:Hi (r=Z):=(dd hm).symm;clear hm;go_enter Tryz.func106,Tryz.ntmps106;by_cases q1:v.text.size=0
 ·have t1:=jr q1;by_cases q2:v.alt=0
  ·rw[q2];have q3:¬v.kids=((nd E.s i).kids.length:Int):=fun h=>q ⟨q1,q2,h⟩;clear q q1 q2;go_wp2;refine rh 1 ?_;rw[js];by_cases fI:0<((nd E.s i).kids.length:Int);(·go_wp2;go_ret;exact bM.out HR.out _ _);go_wp2;go_ret;exact bM.out HR.out _ _
  clear q q1;go_wp2;refine rh 1 ?_;rw[js];by_cases fI:0<((nd E.s i).kids.length:Int);·go_wp2;go_ret;exact bM.out HR.out _ _
  go_wp2;go_ret;exact bM.out HR.out _ _
 have t1:=gw (t:=v.text) O;clear q q1;go_wp2;refine rh 1 ?_;rw[js];by_cases fI:0<((nd E.s i).kids.length:Int);·go_wp2;go_ret;exact bM.out HR.out _ _
 go_wp2;go_ret;exact bM.out HR.out _ _
end
