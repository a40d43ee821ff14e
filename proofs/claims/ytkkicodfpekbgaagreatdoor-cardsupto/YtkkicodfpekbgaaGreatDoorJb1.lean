/-
Several texts in one.
-/
import Derived.Test.YtkkicodfpekbgaaGreatDoorJa1
import Derived.Test.YtkkicodfpekbgaaGreatDoorJa0
open Go.Value renaming int->I,string->Y,slice->S,pointer->Po,bool->Bo,agg->Ag,tuple->Tu
open Go.IntKind renaming i64->J
open Go.Obj renaming cells->C
open Go.Ending renaming returned->Rt
open Option renaming some->U,none->Z
open Go renaming World->M,Calls->Cs,Addr->Ad,Value->Vv
open _root_ renaming ByteArray->Q,Option->Oo,List->Ls
open Go.RowKit renaming Below->H,intOf->Io,Hid->Hi
open Go.World renaming cell?->Wc,frozen?->Wf
open Go.Addr renaming mk->D
set_option linter.unusedSimpArgs false
set_option linter.unusedVariables false
set_option maxRecDepth 100000
set_option maxHeartbeats 8000000
namespace Go.Proofs.YtkkicodfpekbgaaGreatDoor
open Go.RowKit
structure dt(w:M)(b o:Nat)(k:Kd):Prop where
 node:w.cell? (D b o Z)=U (I J k.node)
 opt:w.cell? (D b (o+1) Z)=U (Bo k.opt)
 dflt:w.cell? (D b (o+2) Z)=U (Y k.dflt)
structure kx(w:M)(b o:Nat)(n:Nd)(ka:Oo Ad)(kc:Nat):Prop where
 kind:w.cell? (D b o Z)=U (I J n.kind)
 tag:w.cell? (D b (o+1) Z)=U (I J n.tag)
 mode:w.cell? (D b (o+2) Z)=U (I J n.mode)
 kids:w.cell? (D b (o+3) Z)=U (S ka n.kids.length kc)
def be(w:M)(ka:Oo Ad)(ks:Ls Kd):Prop:=∀j,j<ks.length->∃b o,ka=U (D b o Z)/\dt w b (o+j*3) (ks.getD j j6)
def ju(w:M)(a:Oo Ad)(s:Ls Nd):Prop:=∀i,i<s.length->∃b o ka kc,a=U (D b o Z)/\kx w b (o+i*4) (nd s i) ka kc/\(nd s i).kids.length<=kc/\kc<=maxLen/\be w ka (nd s i).kids
def ie(s:Ls Nd):Prop:=∀i,i<s.length->∀k∈(nd s i).kids,k.dflt.size<=140737488351232
theorem aw{w:M}{a:Ad}{v:Vv}(h:w.cell? a=U v):a.block<w.heap.size:=by
 rcases cG a.block w.heap.size with h'|h'
 ·exact h'
 simp[Wc,bj h']at h
theorem dt.below{w w':M}{b o:Nat}{k:Kd}(h:dt w b o k)(hb:H w.heap.size w w'):dt w' b o k:=
 ⟨(hb.cell (aw h.node)).trans h.node,(hb.cell (aw h.opt)).trans h.opt,(hb.cell (aw h.dflt)).trans h.dflt⟩
theorem kx.below{w w':M}{b o:Nat}{n:Nd}{ka:Oo Ad}{kc:Nat}(h:kx w b o n ka kc)(hb:H w.heap.size w w'):kx w' b o n ka kc:=
 ⟨(hb.cell (aw h.kind)).trans h.kind,(hb.cell (aw h.tag)).trans h.tag,(hb.cell (aw h.mode)).trans h.mode,(hb.cell (aw h.kids)).trans h.kids⟩
theorem be.below{w w':M}{ka:Oo Ad}{ks:Ls Kd}(h:be w ka ks)(hb:H w.heap.size w w'):be w' ka ks:=fun j hj=>by obtain⟨b,o,e,hc⟩:=h j hj;exact⟨b,o,e,hc.below hb⟩
theorem ju.below{w w':M}{a:Oo Ad}{s:Ls Nd}(h:ju w a s)(hb:H w.heap.size w w'):ju w' a s:=fun i hi=>by obtain⟨b,o,ka,kc,e,hc,h1,h2,hk⟩:=h i hi;exact⟨b,o,ka,kc,e,hc.below hb,h1,h2,hk.below hb⟩
def sW(n:Nd)(ka:Oo Ad)(kc:Nat):Vv:=Ag #[I J n.kind,I J n.tag,I J n.mode,S ka n.kids.length kc]
def G0(k:Kd):Vv:=Ag #[I J k.node,Bo k.opt,Y k.dflt]
def dB(P:Prop)(w:M)(e:Ending)(w':M):Prop:=∃r,e=Rt (Bo r)/\(r=true↔P)/\H w.heap.size w w'
theorem bc{P:Prop}{w w':M}(h:¬P)(hw:H w.heap.size w w'):dB P w (Rt (Bo false)) w':=⟨false,X,⟨fun e=>(by cases e),fun p=>Ab p h⟩,hw⟩
theorem bS{P:Prop}{w w':M}(h:P)(hw:H w.heap.size w w'):dB P w (Rt (Bo true)) w':=⟨true,X,⟨fun _=>h,fun _=>rfl⟩,hw⟩
theorem iD{P:Prop}{w w':M}{r:Bool}(h:r=true↔P)(hw:H w.heap.size w w'):dB P w (Rt (Bo r)) w':=⟨r,X,h,hw⟩
end Go.Proofs.YtkkicodfpekbgaaGreatDoor
namespace Go.Proofs.YtkkicodfpekbgaaGreatDoor
open Go.Proofs.Tryz
open Go.RowKit
theorem zU(k:Int)(h:0<=k)(h':k<=12)(w:M):Cs prog 142 #[I J k] w fun e w'=>e=Rt (I J (own k))/\H w.heap.size w w':=by
 obtain⟨n,rfl⟩:∃n:Nat,k=n:=⟨k.toNat,O⟩;have hn:n<=12:=O;clear h h'
 match n,hn with
 |0,_|1,_|2,_|3,_|4,_|5,_|6,_|7,_|8,_|9,_|10,_|11,_|12,_=>
  go_enter func142,ntmps142
  go_wp2
  go_ret
  exact⟨X,Be⟩
theorem wF(n:Nd)(ka:Oo Ad)(kc:Nat)(w:M):Cs prog 67 #[sW n ka kc] w fun e w'=>dB n.opn w e w':=by
 unfold sW;by_cases h1:n.kind=13
 ·have h1':(n.kind==13)=true:=by simp[h1]
  by_cases h2:n.tag<0
  ·have HP:Hi n.opn:=⟨h1,h2⟩;clear h1;go_enter func67,ntmps67;go_wp2;go_ret;exact bS HP Be
  have HP:Hi (¬n.opn):=fun h=>h2 h.2;have h2':0<=n.tag:=O;clear h1;go_enter func67,ntmps67;go_wp2;go_ret;exact bc HP Be
 have h1':(n.kind==13)=false:=by simp[h1]
 have HP:Hi (¬n.opn):=fun h=>h1 h.1;clear h1;go_enter func67,ntmps67;go_wp2;go_ret;exact bc HP Be
theorem dB.yes{P:Prop}{w w':M}{e:Ending}(h:dB P w e w')(p:P):e=Rt (Bo true)/\H w.heap.size w w':=by obtain⟨r,rfl,hr,hb⟩:=h;rw[hr.2 p];exact⟨X,hb⟩
theorem dB.no{P:Prop}{w w':M}{e:Ending}(h:dB P w e w')(p:¬P):e=Rt (Bo false)/\H w.heap.size w w':=by
 obtain⟨r,rfl,hr,hb⟩:=h;cases r
 ·exact⟨X,hb⟩
 exact Ab (hr.1 X) p
theorem CV(n:Nd)(ka:Oo Ad)(kc:Nat)(w:M)(h:n.opn):
 Cs prog 67 #[Ag #[I J n.kind,I J n.tag,I J n.mode,S ka n.kids.length kc]] w fun e w'=>e=Rt (Bo true)/\H w.heap.size w w':=
 (wF n ka kc w).mono fun _ _ q=>q.yes h
theorem Ei(n:Nd)(ka:Oo Ad)(kc:Nat)(w:M)(h:¬n.opn):
 Cs prog 67 #[Ag #[I J n.kind,I J n.tag,I J n.mode,S ka n.kids.length kc]] w fun e w'=>e=Rt (Bo false)/\H w.heap.size w w':=
 (wF n ka kc w).mono fun _ _ q=>q.no h
def Kd.must(k:Kd):Prop:=k.opt=false/\k.dflt.size=0
theorem wD(k:Kd)(w:M):Cs prog 66 #[G0 k] w fun e w'=>dB k.must w e w':=by
 unfold G0
 cases h:k.opt with
 |true=>
  have HP:Hi (¬k.must):=fun q=>by have:=q.1;rw[h]at this;cases this
  clear h
  go_enter func66,ntmps66
  go_wp2
  go_ret
  exact bc HP Be
 |false=>
  have HO:Hi _:=h
  clear h
  by_cases h2:k.dflt.size=0
  ·have e:=gJ h2
   have HP:Hi k.must:=⟨HO,h2⟩
   clear h2
   go_enter func66,ntmps66
   go_wp2
   go_ret
   exact bS HP Be
  ·have e:=dR (t:=k.dflt) O
   have HP:Hi (¬k.must):=fun q=>h2 q.2
   clear h2
   go_enter func66,ntmps66
   go_wp2
   go_ret
   exact bc HP Be
def mh(l:Ls Nat):Ls Vv:=l.map fun(j:Nat)=>Value.int J (j:Int)
structure zw(s:Ls Nd)(w wr:M)(i:Nat)(done q:Ls Nat)(gi ci:Nat)(vout:Vv):Prop where
 inn:wr.ownsRow w.heap.size 3 1 (S (U (D gi 0 Z)) q.length ci) q.length (mh q)
 out:wr.ownsRow w.heap.size 3 1 vout (ia s done).length (mh (ia s done))
 ap:vout.ownBlock≠U gi
 bel:H w.heap.size w wr
theorem nw:(prog.info? 3).map (fun i=>(i.zero,i.size,i.bytes))=U (U (I J 0),1,8):=Kr
theorem Eb{l:Ls Nat}{j:Nat}(h:j<l.length):(mh l)[j]? =U (I J ((l.getD j 0:Nat):Int)):=by unfold mh;simp[h]
theorem kJ{w:M}{base g n c:Nat}{l:Ls Nat}(h:w.ownsRow base 3 1 (S (U (D g 0 Z)) n c) l.length (mh l)){j:Nat}(hj:j<l.length):w.cell? (D g j Z)=U (I J ((l.getD j 0:Nat):Int)):=by
 have:=h.cells (g:=g) X j _ (Eb hj);have e:((D g 0 Z):Ad).add j=(D g j Z):=by unfold Addr.add;split<;>simp_all
 rwa[e]at this
theorem bB{w w':M}{base:Nat}{e:TypeId}{size:Nat}{v:Vv}{n:Nat}{xs:Ls Vv}(h:w.ownsRow base e size v n xs)(hb:H w.heap.size w w'):w'.ownsRow base e size v n xs:=by
 obtain⟨h1,h2⟩:=h;refine⟨h1,?_⟩;rcases h2 with h2|⟨g,cap,cur,rfl,h3,h4,h5⟩
 ·exact .inl h2
 refine .inr ⟨g,cap,cur,X,h3,?_,h5⟩;have hlt:g<w.heap.size:=by
  rcases cG g w.heap.size with h'|h'
  ·exact h'
  rw[bj h']at h4;cases h4
 exact(hb.block _ hlt).trans h4
theorem zw.below{s:Ls Nd}{w wr w':M}{i:Nat}{done q:Ls Nat}{gi ci:Nat}{vout:Vv}(h:zw s w wr i done q gi ci vout)(hb:H wr.heap.size wr w'):zw s w w' i done q gi ci vout where
 inn:=bB h.inn hb
 out:=bB h.out hb
 ap:=h.ap
 bel:=h.bel.trans (hb.mono h.bel.size)
theorem aT{w w':M}{o:Obj}(hb:H (w.alloc o).heap.size (w.alloc o) w'):H w.heap.size w w':=
 ((aY w.heap.size w).alloc Ln o).trans (hb.mono Sq)
theorem jB(l:Ls Nat)(x:Nat):mh (l++[x])=mh l++[I J (x:Int)]:=by unfold mh;simp
theorem zw.put{s:Ls Nd}{w wr w':M}{i x:Nat}{done q:Ls Nat}{gi ci g cap:Nat}{vout:Vv}{o:Obj}(h:zw s w wr i done q gi ci vout)(ho:¬(nd s x).opn)(h1:w'.ownsRow w.heap.size 3 1 (S (U (D g 0 Z)) ((ia s done).length+1) cap) ((ia s done).length+1) (mh (ia s done)++[I J (x:Int)]))(h2:(wr.alloc o).grownBy w' vout.ownBlock)(h3:vout.ownBlock=U g\/g=wr.heap.size+1):zw s w w' i (done++[x]) q gi ci (S (U (D g 0 Z)) ((ia s done).length+1) cap):=by
 have hgi:gi<wr.heap.size:=(h.inn.lt gi X).2;have hb:H w.heap.size w (wr.alloc o):=h.bel.alloc h.bel.size o
 exact {
  inn:=(h.inn.alloc o).kept h2 (.inr (fun e=>h.ap e.symm))
  out:=by rw[sY ho,jB,aQ];exact h1
  ap:=by
   intro e
   have e':g=gi:=by simpa [Value.ownBlock]using e
   rcases h3 with h3|h3
   ·exact h.ap (by rw[h3,e'])
   ·omega
  bel:=hb.grown h2 hb.size (fun k hk=>(h.out.lt k hk).1)}
theorem zw.push{s:Ls Nd}{w wr w':M}{i t:Nat}{done q:Ls Nat}{gi ci g cap:Nat}{vout:Vv}{o:Obj}(h:zw s w wr i done q gi ci vout)(h1:w'.ownsRow w.heap.size 3 1 (S (U (D g 0 Z)) (q.length+1) cap) (q.length+1) (mh q++[I J (t:Int)]))(h2:(wr.alloc o).grownBy w' (U gi))(h3:U gi=U g\/g=wr.heap.size+1):zw s w w' i done (q++[t]) g cap vout:=by
 have hb:H w.heap.size w (wr.alloc o):=h.bel.alloc h.bel.size o
 exact {
  inn:=by rw[jB,aQ];exact h1
  out:=(h.out.alloc o).kept h2 (.inr h.ap)
  ap:=by
   intro e
   rcases h3 with h3|h3
   ·exact h.ap (by rw[e,h3])
   ·have:=(h.out.lt g e).2;omega
  bel:=hb.grown h2 hb.size (fun k hk=>by have:=(h.inn.lt k hk).1;exact this)}
theorem zw.beside{s:Ls Nd}{w wr w':M}{i:Nat}{done q:Ls Nat}{gi ci gn:Nat}{vout:Vv}{A:Array Vv}{T:TypeId}{o:Obj}(h:zw s w wr i done q gi ci vout)(hT:T≠3)(hg:wr.heap[gn]? =U (C A T (0,0)))(h2:(wr.alloc o).grownBy w' (U gi)):w'.heap[gn]? =U (C A T (0,0)):=by
 have hlt:gn<wr.heap.size:=by
  rcases cG gn wr.heap.size with h'|h'
  ·exact h'
  rw[bj h']at hg;cases hg
 have hne:gn≠gi:=by
  rintro rfl;rcases h.inn.2 with⟨h',_⟩|⟨g,cap,cur,hv,_,hg',_⟩
  ·cases h'
  obtain rfl:g=gn:=by injection hv with h1 _ _;injection h1 with h1;injection h1 with h1 _ _;exact h1.symm
  rw[hg]at hg';injection hg' with hg';injection hg' with _ e _;exact hT e
 have h3:=h2.block gn So (fun e=>hne (by injection e));rw[h3,bM wr o _ hlt,hg]
theorem ax{w w':M}{k:Nat}{o:Obj}(h:w.heap[k]? =U o)(hb:H w.heap.size w w'):w'.heap[k]? =U o:=by
 have hlt:k<w.heap.size:=by
  rcases cG k w.heap.size with h'|h'
  ·exact h'
  rw[bj h']at h;cases h
 exact(hb.block _ hlt).trans h
theorem fJ{q:Ls Nat}{p t:Nat}(hp:p<q.length):t∈q.take (p+1)↔t∈q.take p\/q.getD p 0=t:=by rw[eB,DG,aC hp];simp[hp,eq_comm]
def EY(P:Prop)(v:Vv):Prop:=∃q:Bool,v=Bo q/\(q=true↔P)
def Fu(s:Ls Nd)(i:Nat)(w:M)(e:Ending)(w':M):Prop:=
 ∃(v:Vv) (l:Ls Nat) (bk:Bool),e=Rt (Tu #[v,Bo bk])/\w'.ownsRow w.heap.size 3 1 v l.length (mh l)/\H w.heap.size w w'/\l.length<=s.length/\(∀j,j∈l↔i9 s i j)/\(bk=true↔kV s i)
theorem qQ(s:Ls Nd)(a:Oo Ad)(c i:Nat)(w:M)(hs:ju w a s)(hw:gq s)(hi:i<s.length)(hn:s.length<=40):Cs prog 37 #[S a s.length c,I J i] w fun e w'=>Fu s i w e w':=by
 have HS:Hi _:=hs;have HW:Hi _:=hw;clear hs hw;obtain⟨i0,hi0,hz0,hz1,hz2⟩:=dD nw;go_enter func37,ntmps37;go_wp2;go_loopw [6,7,8,9] (fun vin vbk vout vi wr=>∃done q gi ci bk,vin=S (U (D gi 0 Z)) q.length ci/\vbk=Bo bk/\vi=I J (done.length:Nat)/\Lv s i done q bk/\zw s w wr i done q gi ci vout) (fun _ _ _ vi _=>s.length-(Io vi).toNat);case atStart=>exact⟨[],[i],w.heap.size,1,false,X,X,X,Lv.start s i,⟨⟨X,.inr ⟨w.heap.size,1,_,X,Ln,aA w _,Ln,Dc,X,X⟩⟩,bX _ _ _ _,by simp[Value.ownBlock],Be⟩⟩
 obtain⟨done,q,gi,ci,bk,rfl,rfl,rfl,hL,hM⟩:=hrel;have hlen:=hL.len HW hi;have HL:Hi _:=hL;have HM:Hi _:=hM;by_cases hlt:done.length<q.length
 ·obtain⟨x,r,hq⟩:=hL.at hlt;have HQ:Hi _:=hq;have hx:q.getD done.length 0=x:=by simp[hq]
  have cin:=kJ hM.inn hlt;rw[hx]at cin;have hxs:x<s.length:=(hL.rch x (by simp[hq])).lt HW hi;obtain⟨b,o,ka,kc,rfl,nc,kl,km,ks⟩:=HS x hxs;obtain⟨n1,n2,n3,n4⟩:=nc.below hM.bel;have KS:Hi _:=ks;have hlt':(done.length:Int)<q.length:=O;have hxs':(x:Int)<s.length:=O;clear hL hM hq hx ks nc;by_cases ho:(nd s x).opn
  ·go_wp2_with fail;refine(CV _ ka kc _ ho).mono ?_;rintro e w2 ⟨rfl,hb2⟩;have HM2:Hi _:=HM.below (aT hb2);have HG2:Hi (w2.heap[wr.heap.size]? =U (C #[I J (nd s x).kind,I J (nd s x).tag,I J (nd s x).mode,S ka (nd s x).kids.length kc] 58 (0,0))):=ax (aA wr _) hb2;have HLM:Hi _:=HL.mid HQ;obtain⟨gn,hgn⟩:∃gn,gn=wr.heap.size:=Ez;rw[<-hgn]at HG2;clear hb2 cin n1 n2 n3 n4;go_wp2;rw[<-hgn];clear hgn;go_loopw [6,7,11] (fun vin vbk vj wx=>∃q' gi' ci' bk' j,vin=S (U (D gi' 0 Z)) q'.length ci'/\vbk=Bo bk'/\vj=I J (j:Nat)/\j<=(nd s x).kids.length/\BL s i done x j q' bk'/\zw s w wx i done q' gi' ci' u8/\Hi (wx.heap[gn]? =U (C #[I J (nd s x).kind,I J (nd s x).tag,I J (nd s x).mode,S ka (nd s x).kids.length kc] 58 (0,0)))) (fun _ _ vj _=>(nd s x).kids.length-(Io vj).toNat);case atStart=>exact⟨q,gi,ci,bk,0,X,X,X,Lz,HLM,HM2,HG2⟩
   clear HLM HM2 HG2;obtain⟨q',gi',ci',bk',j,rfl,rfl,rfl,hj,hLM,hM2,HG⟩:=hrel;have hlen':=hLM.len HW hi;(have g3:wr.cell? (D gn 3 Z)=U (S ka (nd s x).kids.length kc):=by simp[Wc,HG.out]);have HLM:Hi _:=hLM;have HM2:Hi _:=hM2;(have hkm:(nd s x).kids.length<=9223372036854775807:=by unfold maxLen at km;omega);by_cases hjl:j<(nd s x).kids.length
   ·obtain⟨kb,ko,rfl,kcl⟩:=KS j hjl;have hkr:=HW x hxs ((nd s x).kids.getD j j6) (by rw[aB,aC hjl];exact bz hjl);obtain⟨t,ht⟩:∃t:Nat,((nd s x).kids.getD j j6).node=t:=⟨_,(dh hkr.1).symm⟩;have kn:=(kcl.below hM2.bel).node;rw[ht]at kn hkr;have HT:Hi _:=ht;have htl:t<s.length:=O;have hjl':(j:Int)<(nd s x).kids.length:=O;clear hLM hM2 kcl ht hkr;obtain⟨bk2,hbk2⟩:∃b2,b2=(bk'||decide ((t:Int)=i)):=Ez;have HBK:Hi _:=hbk2;have hcs:(bk'=true/\bk2=true)\/(bk'=false/\((t:Int)==i)=bk2):=by
     cases bk'
     ·right;exact⟨X,by rw[hbk2,oh,fN];simp⟩
     left;exact⟨X,by rw[hbk2];simp⟩
    clear hbk2;rcases hcs with⟨rfl,rfl⟩|⟨rfl,hti⟩
    ·go_wp2;go_loop [13,14] (fun f m=>∃p:Nat,p<=q'.length/\m=I J p/\EY (t∉q'.take p) f) (fun _ m=>q'.length-(Io m).toNat);case atStart=>exact⟨0,Lz,X,true,X,Sq⟩
     obtain⟨p,hp,rfl,fb,rfl,hf⟩:=hrel;have HP:Hi _:=hf;clear hf;by_cases hpl:p<q'.length
     ·have cp:=kJ HM2.inn hpl;have hpl':(p:Int)<q'.length:=O;cases fb
      ·go_wp2;go_round;case rel=>exact⟨p+1,O,Gn,false,X,by have h:=HP.out;rw[fJ hpl];refine⟨fun h=>(by cases h),fun h'=>?_⟩;exact h.2 (fun q=>h' (.inl q))⟩
       case measure=>exact Ms
      by_cases hqt:q'.getD p 0=t
      ·have HQT:Hi _:=hqt;rw[hqt]at cp;clear hqt;go_wp2;go_round;case rel=>exact⟨p+1,O,Gn,false,X,by rw[fJ hpl];exact⟨fun h=>(by cases h),fun h'=>Ab (.inr HQT) h'⟩⟩
       case measure=>exact Ms
      have HQT:Hi _:=hqt;generalize q'.getD p 0=y at cp hqt;(have e1:((y:Int)!=(t:Int))=true:=by rw[ct];omega);clear hqt;go_wp2;go_round;case rel=>exact⟨p+1,O,Gn,true,X,by rw[fJ hpl];exact⟨fun _ h=>h.elim (HP.1 X) HQT,fun _=>rfl⟩⟩
      case measure=>exact Ms
     have hpl':(q'.length:Int)<=p:=O;obtain rfl:p=q'.length:=O;rw[gG]at HP;cases fb
     ·(have hm:t∈q':=cW fun h=>by have:=HP.2 h;cases this);have HLM':Hi _:=HBK▸HLM.step_old HT hm;clear hm;go_wp2;go_roundw;case rel=>exact⟨q',gi',ci',true,j+1,X,X,Gn,O,HLM',HM2,HG⟩
      case measure=>exact Ms
     have hm:t∉q':=HP.1 X;have HLM':Hi _:=HBK▸HLM.step_new HT hjl ho hm;(have hsz:w.heap.size<=wr.heap.size+1:=by have:=HM2.out.bel.size;omega);clear hm;go_wp2_with (at_builtin;refine wpList_append_lies _ X (.tmp 75) (.tmp 77) 32 X w.heap.size 3 i0 (I J 0) 1 8 underlying32 hi0 hz0 hz1 hz2 X Dc (S (U (D gi' 0 Z)) q'.length ci') q'.length (mh q') X (HM2.inn.alloc _) (D wr.heap.size 0 Z) 1 1 [I J (t:Int)] X X (cell_one_new _ _ _) (by intro u hu;simp at hu;subst hu;rfl) Dc (by unfold maxLen;omega) O (by simpa using hsz) (wr.heap.size+1) Sq ?_);intro g cap w3 h1 h2 h3 h4;have HM3:Hi _:=HM2.push h1 h2 h3;have HG3:Hi _:=HM2.beside Dc HG h2;clear h1 h2 h3 h4;go_wp2;go_roundw;case rel=>exact⟨q'++[t],g,cap,true,j+1,Sq,X,Gn,O,HLM',HM3,HG3⟩
     case measure=>exact Ms
    go_wp2;go_loop [13,14] (fun f m=>∃p:Nat,p<=q'.length/\m=I J p/\EY (t∉q'.take p) f) (fun _ m=>q'.length-(Io m).toNat);case atStart=>exact⟨0,Lz,X,true,X,Sq⟩
    obtain⟨p,hp,rfl,fb,rfl,hf⟩:=hrel;have HP:Hi _:=hf;clear hf;by_cases hpl:p<q'.length
    ·have cp:=kJ HM2.inn hpl;have hpl':(p:Int)<q'.length:=O;cases fb
     ·go_wp2;go_round;case rel=>exact⟨p+1,O,Gn,false,X,by have h:=HP.out;rw[fJ hpl];refine⟨fun h=>(by cases h),fun h'=>?_⟩;exact h.2 (fun q=>h' (.inl q))⟩
      case measure=>exact Ms
     by_cases hqt:q'.getD p 0=t
     ·have HQT:Hi _:=hqt;rw[hqt]at cp;clear hqt;go_wp2;go_round;case rel=>exact⟨p+1,O,Gn,false,X,by rw[fJ hpl];exact⟨fun h=>(by cases h),fun h'=>Ab (.inr HQT) h'⟩⟩
      case measure=>exact Ms
     have HQT:Hi _:=hqt;generalize q'.getD p 0=y at cp hqt;(have e1:((y:Int)!=(t:Int))=true:=by rw[ct];omega);clear hqt;go_wp2;go_round;case rel=>exact⟨p+1,O,Gn,true,X,by rw[fJ hpl];exact⟨fun _ h=>h.elim (HP.1 X) HQT,fun _=>rfl⟩⟩
     case measure=>exact Ms
    have hpl':(q'.length:Int)<=p:=O;obtain rfl:p=q'.length:=O;rw[gG]at HP;cases fb
    ·(have hm:t∈q':=cW fun h=>by have:=HP.2 h;cases this);have HLM':Hi _:=HBK▸HLM.step_old HT hm;clear hm;go_wp2;go_roundw;case rel=>exact⟨q',gi',ci',bk2,j+1,X,X,Gn,O,HLM',HM2,HG⟩
     case measure=>exact Ms
    have hm:t∉q':=HP.1 X;have HLM':Hi _:=HBK▸HLM.step_new HT hjl ho hm;(have hsz:w.heap.size<=wr.heap.size+1:=by have:=HM2.out.bel.size;omega);clear hm;go_wp2_with (at_builtin;refine wpList_append_lies _ X (.tmp 75) (.tmp 77) 32 X w.heap.size 3 i0 (I J 0) 1 8 underlying32 hi0 hz0 hz1 hz2 X Dc (S (U (D gi' 0 Z)) q'.length ci') q'.length (mh q') X (HM2.inn.alloc _) (D wr.heap.size 0 Z) 1 1 [I J (t:Int)] X X (cell_one_new _ _ _) (by intro u hu;simp at hu;subst hu;rfl) Dc (by unfold maxLen;omega) O (by simpa using hsz) (wr.heap.size+1) Sq ?_);intro g cap w3 h1 h2 h3 h4;have HM3:Hi _:=HM2.push h1 h2 h3;have HG3:Hi _:=HM2.beside Dc HG h2;clear h1 h2 h3 h4;go_wp2;go_roundw;case rel=>exact⟨q'++[t],g,cap,bk2,j+1,Sq,X,Gn,O,HLM',HM3,HG3⟩
    case measure=>exact Ms
   have hjl':((nd s x).kids.length:Int)<=j:=O;obtain rfl:j=(nd s x).kids.length:=O;have HL':Hi _:=hLM.finish ho;have HM':Hi (zw s w wr i (done++[x]) q' gi' ci' u8):=⟨hM2.inn,by rw[sZ ho];exact hM2.out,hM2.ap,hM2.bel⟩;clear hLM hM2;go_wp2;go_roundw;case rel=>exact⟨done++[x],q',gi',ci',bk',X,X,Sq,HL',HM'⟩
   case measure=>exact Ms
  go_wp2_with fail;refine(Ei _ ka kc _ ho).mono ?_;rintro e w2 ⟨rfl,hb2⟩;have HM2:Hi _:=HM.below (aT hb2);have cin2:w2.cell? (D gi done.length Z)=U (I J (x:Int)):=((aT hb2).cell (aw cin)).trans cin;have hol:(ia s done).length<=40:=by have:=pG s done;omega
  have hsz:w.heap.size<=w2.heap.size+1:=by have:=HM2.out.bel.size;omega
  clear hb2 cin n1 n2 n3 n4;go_wp2_with (at_builtin;refine wpList_append_lies _ X (.tmp 33) (.tmp 38) 32 X w.heap.size 3 i0 (I J 0) 1 8 underlying32 hi0 hz0 hz1 hz2 X Dc u8 (ia s done).length (mh (ia s done)) X (HM2.out.out.alloc _) (D w2.heap.size 0 Z) 1 1 [I J (x:Int)] X X (cell_one_new _ _ _) (by intro u hu;simp at hu;subst hu;rfl) Dc (by unfold maxLen;omega) O (by simpa using hsz) (w2.heap.size+1) Sq ?_);intro g cap w3 h1 h2 h3 h4;have HM3:Hi _:=HM2.out.put ho h1 h2 h3;clear h1 h2 h3 h4;go_wp2;go_roundw;case rel=>exact⟨done++[x],q,gi,ci,bk,X,X,Sq,HL.leaf HQ ho,HM3⟩
  case measure=>exact Ms
 obtain rfl:done=q:=hL.done_eq O;have hlt':(done.length:Int)<=done.length:=Int.le_refl _;clear hL hM;go_wp2;go_ret2;exact⟨u8,ia s done,bk,X,HM.out.out,HM.out.bel,bl (pG s done) hlen,HL.out.leaves,HL.out.backs⟩
def Nd.opn1(n:Nd):Prop:=n.kind=13/\n.tag= -1
def cy(n:Nd):Prop:= -1<=n.tag/\n.tag<=30/\(n.tag= -1->n.mode=0)/\(0<=n.tag->(n.kind=13\/n.kind=14)->n.mode=1)/\(0<=n.tag->n.kind≠13->n.kind≠14->n.mode=0\/n.mode=1)
theorem yv(n:Nd)(ka:Oo Ad)(kc:Nat)(w:M):Cs prog 139 #[Ag #[I J n.kind,I J n.tag,I J n.mode,S ka n.kids.length kc]] w fun e w'=>dB n.opn1 w e w':=by
 by_cases h1:n.kind=13
 ·have h1':(n.kind==13)=true:=by simp[h1]
  by_cases h2:n.tag= -1
  ·have HP:Hi n.opn1:=⟨h1,h2⟩;(have h2':(n.tag== -1)=true:=by simp[h2]);clear h1 h2;go_enter func139,ntmps139;go_wp2;go_ret;exact bS HP Be
  have HP:Hi (¬n.opn1):=fun h=>h2 h.2;have h2':(n.tag== -1)=false:=by simp[h2]
  clear h1 h2;go_enter func139,ntmps139;go_wp2;go_ret;exact bc HP Be
 have h1':(n.kind==13)=false:=by simp[h1]
 have HP:Hi (¬n.opn1):=fun h=>h1 h.1;clear h1;go_enter func139,ntmps139;go_wp2;go_ret;exact bc HP Be
theorem o7(k:Kd)(w:M):Cs prog 94 #[Ag #[I J k.node,Bo k.opt,Y k.dflt]] w fun e w'=>dB (¬k.must) w e w':=by
 cases h:k.opt with
 |true=>
  have HP:Hi (¬k.must):=fun q=>by have:=q.1;rw[h]at this;cases this
  clear h
  go_enter func94,ntmps94
  go_wp2
  go_ret
  exact bS HP Be
 |false=>
  have HO:Hi _:=h
  clear h
  by_cases h2:k.dflt.size=0
  ·have e:=gJ h2
   have HP:Hi (¬¬k.must):=fun q=>q ⟨HO,h2⟩
   clear h2
   go_enter func94,ntmps94
   go_wp2
   go_ret
   exact bc HP Be
  ·have e:=dR (t:=k.dflt) O
   have HP:Hi (¬k.must):=fun q=>h2 q.2
   clear h2
   go_enter func94,ntmps94
   go_wp2
   go_ret
   exact bS HP Be
theorem uv(n:Nd)(ka:Oo Ad)(kc:Nat)(w:M):Cs prog 92 #[Ag #[I J n.kind,I J n.tag,I J n.mode,S ka n.kids.length kc]] w fun e w'=>dB (cy n) w e w':=by
 by_cases h1:n.tag< -1
 ·have HP:Hi (¬cy n):=by show¬cy n;unfold cy;omega
  go_enter func92,ntmps92;go_wp2;go_ret;exact bc HP Be
 have h1': -1<=n.tag:=O;clear h1;by_cases h2:30<n.tag
 ·have HP:Hi (¬cy n):=by show¬cy n;unfold cy;omega
  go_enter func92,ntmps92;go_wp2;go_ret;exact bc HP Be
 have h2':n.tag<=30:=O;clear h2;by_cases h3:n.tag= -1
 ·have e3:(n.tag== -1)=true:=by simp[h3]
  by_cases h4:n.mode=0
  ·(have e4:(n.mode==0)=true:=by simp[h4]);(have HP:Hi (cy n):=by show cy n;unfold cy;omega);clear h3 h4 h1' h2';(have h1': -1<=n.tag:=by have:=HP.out.1;omega);(have h2':n.tag<=30:=by have:=HP.out.2.1;omega);go_enter func92,ntmps92;go_wp2;go_ret;exact bS HP Be
  have e4:(n.mode==0)=false:=by simp[h4]
  have HP:Hi (¬cy n):=by show¬cy n;unfold cy;omega
  clear h3 h4;go_enter func92,ntmps92;go_wp2;go_ret;exact bc HP Be
 have e3:(n.tag== -1)=false:=by simp[h3]
 have h3':0<=n.tag:=O;clear h3;have hk:(n.kind=13/\(n.kind==13)=true)\/(n.kind=14/\(n.kind==13)=false/\(n.kind==14)=true)\/(n.kind≠13/\n.kind≠14/\(n.kind==13)=false/\(n.kind==14)=false):=by
  by_cases a:n.kind=13
  ·exact .inl ⟨a,by simp[a]⟩
  by_cases b:n.kind=14
  ·exact .inr (.inl ⟨b,by simp[b],by simp[b]⟩)
  exact .inr (.inr ⟨a,b,by simp[a],by simp[b]⟩)
 have hm:(n.mode=0/\(n.mode==0)=true/\(n.mode==1)=false)\/(n.mode=1/\(n.mode==0)=false/\(n.mode==1)=true)\/(n.mode≠0/\n.mode≠1/\(n.mode==0)=false/\(n.mode==1)=false):=by
  by_cases a:n.mode=0
  ·exact .inl ⟨a,by simp[a],by simp[a]⟩
  by_cases b:n.mode=1
  ·exact .inr (.inl ⟨b,by simp[b],by simp[b]⟩)
  exact .inr (.inr ⟨a,b,by simp[a],by simp[b]⟩)
 rcases hk with⟨k0,k1⟩|⟨k0,k1,k2⟩|⟨k0,k3,k1,k2⟩
 ·rcases hm with⟨m0,m1,m2⟩|⟨m0,m1,m2⟩|⟨m0,m3,m1,m2⟩
  ·(have HP:Hi (¬cy n):=by show¬cy n;unfold cy;omega);clear k0 m0;go_enter func92,ntmps92;go_wp2;go_ret;exact bc HP Be
  ·(have HP:Hi (cy n):=by show cy n;unfold cy;omega);clear k0 m0;go_enter func92,ntmps92;go_wp2;go_ret;exact bS HP Be
  have HP:Hi (¬cy n):=by show¬cy n;unfold cy;omega
  clear k0 m0 m3;go_enter func92,ntmps92;go_wp2;go_ret;exact bc HP Be
 ·rcases hm with⟨m0,m1,m2⟩|⟨m0,m1,m2⟩|⟨m0,m3,m1,m2⟩
  ·(have HP:Hi (¬cy n):=by show¬cy n;unfold cy;omega);clear k0 m0;go_enter func92,ntmps92;go_wp2;go_ret;exact bc HP Be
  ·(have HP:Hi (cy n):=by show cy n;unfold cy;omega);clear k0 m0;go_enter func92,ntmps92;go_wp2;go_ret;exact bS HP Be
  have HP:Hi (¬cy n):=by show¬cy n;unfold cy;omega
  clear k0 m0 m3;go_enter func92,ntmps92;go_wp2;go_ret;exact bc HP Be
 rcases hm with⟨m0,m1,m2⟩|⟨m0,m1,m2⟩|⟨m0,m3,m1,m2⟩
 ·have HP:Hi (cy n):=by show cy n;unfold cy;omega
  clear k0 m0 k3;go_enter func92,ntmps92;go_wp2;go_ret;exact bS HP Be
 ·have HP:Hi (cy n):=by show cy n;unfold cy;omega
  clear k0 m0 k3;go_enter func92,ntmps92;go_wp2;go_ret;exact bS HP Be
 have HP:Hi (¬cy n):=by show¬cy n;unfold cy;omega
 clear k0 m0 k3 m3;go_enter func92,ntmps92;go_wp2;go_ret;exact bc HP Be
def vC(k:Int):Int×Int:=if k=10 then(0,8)else if k=11\/k=12 then(1,1)else if k=13 then(1,8)else(0,0)
theorem se(k:Int)(w:M):Cs prog 93 #[I J k] w fun e w'=>e=Rt (Tu #[I J (vC k).1,I J (vC k).2])/\H w.heap.size w w':=by
 by_cases h10:k=10
 ·subst h10;have e:vC 10=(0,8):=by unfold vC;rfl
  rw[e];clear e;go_enter func93,ntmps93;go_wp2;go_ret2;exact⟨X,By⟩
 have e10:(k==10)=false:=by simp[h10]
 by_cases h11:k=11
 ·subst h11;have e:vC 11=(1,1):=by unfold vC;rfl
  rw[e];clear e;go_enter func93,ntmps93;go_wp2;go_ret2;exact⟨X,By⟩
 have e11:(k==11)=false:=by simp[h11]
 by_cases h12:k=12
 ·subst h12;have e:vC 12=(1,1):=by unfold vC;rfl
  rw[e];clear e;go_enter func93,ntmps93;go_wp2;go_ret2;exact⟨X,By⟩
 have e12:(k==12)=false:=by simp[h12]
 by_cases h13:k=13
 ·subst h13;have e:vC 13=(1,8):=by unfold vC;rfl
  rw[e];clear e;go_enter func93,ntmps93;go_wp2;go_ret2;exact⟨X,By⟩
 have e13:(k==13)=false:=by simp[h13]
 have e:vC k=(0,0):=by unfold vC;rw[G h10,G O,G h13]
 rw[e];clear e h10 h11 h12 h13;go_enter func93,ntmps93;go_wp2;go_ret2;exact⟨X,By⟩
theorem iB{w:M}{base e size:Nat}{v:Vv}{n:Nat}{xs:Ls Vv}(h:w.ownsRow base e size v n xs):∃a cap,v=S a n cap/\(0<n->∃g,a=U (D g 0 Z)):=by
 rcases h.2 with⟨hv,hn⟩|⟨g,cap,cur,hv,_⟩
 ·subst hn;exact⟨Z,0,hv,fun h=>Ab h (oo _)⟩
 exact⟨_,cap,hv,fun _=>⟨g,X⟩⟩
def nr(s:Ls Nd):Prop:=∀j,j<s.length->1<=(nd s j).kind/\(nd s j).kind<=14
theorem mY(s:Ls Nd)(a:Oo Ad)(cp i:Nat)(c m:Int)(w:M)(hs:ju w a s)(hw:gq s)(hkd:nr s)(hi:i<s.length)(hn:s.length<=40):Cs prog 100 #[S a s.length cp,I J i,I J c,I J m] w fun e w'=>dB (oQ s i c m) w e w':=by
 have HS:Hi (ju w a s):=hs;have HW:Hi (gq s):=hw;have HK:Hi (nr s):=hkd;have HC:Hi (Cs prog 37 #[S a s.length cp,I J i] w fun e w'=>Fu s i w e w'):=qQ s a cp i w hs hw hi hn;clear hs hw hkd;go_enter func100,ntmps100;go_wp2_with fail;refine HC.mono ?_;rintro e w1 ⟨v,l,bk,rfl,hown,hb,hl,hlf,_⟩;obtain⟨va,vc,rfl,hva⟩:=iB hown;have HO:Hi (w1.ownsRow w.heap.size 3 1 (S va l.length vc) l.length (mh l)):=hown;have HB:Hi (H w.heap.size w w1):=hb;have HF:Hi (∀j,j∈l↔i9 s i j):=hlf;have HA:Hi (0<l.length->∃g,va=U (D g 0 Z)):=hva;clear hown hb hlf hva HC;go_wp2;go_loopw [11] (fun vk wr=>∃k:Nat,k<=l.length/\vk=I J k/\(∀p,p<k->¬iW (nd s (l.getD p 0)) c m)/\H w1.heap.size w1 wr) (fun vk _=>l.length-(Io vk).toNat);case atStart=>exact⟨0,Lz,X,fun p hp=>Ab hp (aO _),By⟩
 obtain⟨k,hk,rfl,hno,hbr⟩:=hrel;have HN:Hi (∀p,p<k->¬iW (nd s (l.getD p 0)) c m):=hno;have HBR:Hi (H w1.heap.size w1 wr):=hbr;by_cases hlt:k<l.length
 ·obtain⟨g,rfl⟩:=HA O;have ck:=kJ (bB HO hbr) hlt;have HX:Hi (l.getD k 0∈l):=by show _∈l;rw[aB,aC hlt];exact bz hlt
  generalize hx:l.getD k 0=x at ck HX;have HXE:Hi (l.getD k 0=x):=hx;have hxs:x<s.length:=((HF x).1 HX).1.lt HW hi;have hkx:=HK x hxs;have HLX:Hi (i9 s i x):=(HF x).1 HX;obtain⟨b,o,ka,kc,rfl,nc,kl,km,ks⟩:=HS x hxs;have HBW:Hi (H w.heap.size w wr):=HB.trans (hbr.mono HB.size);obtain⟨n1,n2,n3,n4⟩:=nc.below HBW;have hlt':(k:Int)<l.length:=O;have hxs':(x:Int)<s.length:=O;have NX:Hi (∀(h:¬iW (nd s x) c m),∀p,p<k+1->¬iW (nd s (l.getD p 0)) c m):=fun h p hp=>by
   by_cases e:p=k
   ·subst e;rw[HXE.out];exact h
   exact HN p O
  have YES:Hi (iW (nd s x) c m->oQ s i c m):=fun h=>⟨x,HLX,h⟩;clear hno hbr hx nc ks;by_cases ht:0<=(nd s x).tag
  ·by_cases hc:c=2
   ·subst hc;by_cases hm:m=(nd s x).tag
    ·have HH:Hi (iW (nd s x) 2 m):= .inl ⟨ht,X,hm⟩;subst hm;go_wp2;go_ret;exact bS (YES HH) (HBW.alloc HBW.size _)
    (have HH:Hi (¬iW (nd s x) 2 m):=fun h=>by rcases h with h|h|h<;>omega);(have hm':(m==(nd s x).tag)=false:=by rw[aD];exact hm);clear hm;go_wp2;go_roundw;case rel=>exact⟨k+1,O,Gn,NX HH,HBR.alloc HBR.size _⟩
    case measure=>exact Ms
   (have HH:Hi (¬iW (nd s x) c m):=fun h=>by rcases h with h|h|h<;>omega);(have hc':(c==2)=false:=by rw[aD];exact hc);clear hc;go_wp2;go_roundw;case rel=>exact⟨k+1,O,Gn,NX HH,HBR.alloc HBR.size _⟩
   case measure=>exact Ms
  have ht':(nd s x).tag<0:=O;clear ht;by_cases ha:(nd s x).kind=14
  ·have HH:Hi (iW (nd s x) c m):= .inr (.inl ⟨ht',ha⟩);(have ha':((nd s x).kind==14)=true:=by rw[bV];exact ha);clear ha hkx;go_wp2;go_ret;exact bS (YES HH) (HBW.alloc HBW.size _)
  have ha':((nd s x).kind==14)=false:=by rw[aD];exact ha
  by_cases hc:c=0
  ·subst hc;have HO1:Hi (∀w,Cs prog 142 #[I J (nd s x).kind] w fun e w'=>e=Rt (I J (own (nd s x).kind))/\H w.heap.size w w'):=fun w=>zU _ O (by have h3:=HLX.out.2;have:(nd s x).kind≠13:=fun e=>h3 ⟨e,ht'⟩;omega) w;by_cases hm:m=own (nd s x).kind
   ·have HH:Hi (iW (nd s x) 0 m):= .inr (.inr ⟨ht',ha,X,hm⟩);(have hm':(m==own (nd s x).kind)=true:=by rw[bV];exact hm);clear hm ha;go_wp2_with fail;refine(HO1 _).mono ?_;rintro e w2 ⟨rfl,hb2⟩;have HB2:Hi (H w.heap.size w w2):=HBW.trans ((aT hb2).mono HBW.size);clear hb2;go_wp2;go_ret;exact bS (YES HH) HB2
   (have HH:Hi (¬iW (nd s x) 0 m):=fun h=>by rcases h with h|h|h<;>omega);(have hm':(m==own (nd s x).kind)=false:=by rw[aD];exact hm);clear hm ha;go_wp2_with fail;refine(HO1 _).mono ?_;rintro e w2 ⟨rfl,hb2⟩;have HB2:Hi (H w1.heap.size w1 w2):=HBR.trans ((aT hb2).mono HBR.size);clear hb2;go_wp2;go_roundw;case rel=>exact⟨k+1,O,Gn,NX HH,HB2⟩
   case measure=>exact Ms
  have HH:Hi (¬iW (nd s x) c m):=fun h=>by rcases h with h|h|h<;>omega
  have hc':(c==0)=false:=by rw[aD];exact hc
  clear hc ha;go_wp2;go_roundw;case rel=>exact⟨k+1,O,Gn,NX HH,HBR.alloc HBR.size _⟩
  case measure=>exact Ms
 have hlt':(l.length:Int)<=k:=O;clear hno hbr;go_wp2;go_ret;exact bc (fun⟨j,hj,hbg⟩=>by obtain⟨p,hp,e⟩:=dN ((HF j).2 hj);refine HN p O ?_;rw[aB,aC hp];simpa [e]using hbg) (HB.trans (HBR.mono HB.size))
structure Vl where
 kind:Int
 text:Q
 alt:Int
 kids:Int
def Vl.cells(v:Vl):Ls Vv:=[I J v.kind,Y v.text,I J v.alt,I J v.kids]
def bG(l:Ls Vl):Ls Vv:=l.flatMap Vl.cells
theorem kg(l:Ls Vl)(v:Vl):bG (l++[v])=bG l++v.cells:=by unfold bG;simp
def eh(a:Oo Ad)(n c:Nat)(data:Q)(vt:Vv)(e p:Int):Obj:=C #[S a n c,Y data,vt,I J e,I J p] 128 (0,0)
structure dk(W w:M)(R:Nat)(a:Oo Ad)(n c:Nat)(data:Q)(tree:Ls Vl)(e p:Int):Prop where
 bel:H W.heap.size W w
 lo:W.heap.size<=R
 own:∃vt,w.heap[R]? =U (eh a n c data vt e p)/\w.ownsRow W.heap.size 60 4 vt tree.length (bG tree)
def Fr(R:Nat)(w w':M):Prop:=∀(k:Nat) (A:Array Vv) (T:TypeId),k≠R->T≠60->w.heap[k]? =U (C A T (0,0))->w'.heap[k]? =U (C A T (0,0))
theorem Fr.refl(R:Nat)(w:M):Fr R w w:=fun _ _ _ _ _ h=>h
theorem Fr.trans{R:Nat}{w w1 w2:M}(h1:Fr R w w1)(h2:Fr R w1 w2):Fr R w w2:=fun k A T a b h=>h2 k A T a b (h1 k A T a b h)
theorem Fr.of_below{R:Nat}{w w':M}(h:H w.heap.size w w'):Fr R w w':=fun _ _ _ _ _ q=>ax q h
theorem Fr.of_same{R:Nat}{w w':M}(h:∀k,k≠R->w'.heap[k]? =w.heap[k]?):Fr R w w':=fun k _ _ a _ q=>(h k a).trans q
theorem Fr.set5{R:Nat}{w w2:M}(h:Fr R w w2){q:Nat}(hq:w.heap.size<=q)(v0 v1 v2 v3 v4:Vv):Fr R w (((((w2.setCell (D q 0 Z) v0).setCell (D q 1 Z) v1).setCell (D q 2 Z) v2).setCell (D q 3 Z) v3).setCell (D q 4 Z) v4):=fun k A T a b g=>by
 have hlt:k<w.heap.size:=by
  rcases cG k w.heap.size with h'|h'
  ·exact h'
  rw[bj h']at g;cases g
 have hne:k≠q:=O;rw[aP _ _ _ _ hne,aP _ _ _ _ hne,aP _ _ _ _ hne,aP _ _ _ _ hne,aP _ _ _ _ hne];exact h k A T a b g
theorem dk.below{W w w':M}{R:Nat}{a:Oo Ad}{n c:Nat}{data:Q}{tree:Ls Vl}{e p:Int}(h:dk W w R a n c data tree e p)(hb:H w.heap.size w w'):dk W w' R a n c data tree e p where
 bel:=h.bel.trans (hb.mono h.bel.size)
 lo:=h.lo
 own:=by
  obtain⟨vt,h1,h2⟩:=h.own
  exact⟨vt,ax h1 hb,bB h2 hb⟩
def fA:Vv:=Ag #[I J 0,Y ⟨#[]⟩,I J 0,I J 0]
theorem jl:(prog.info? 60).map (fun i=>(i.zero,i.size,i.bytes))=U (U fA,4,40):=Kr
theorem cA{w:M}{R base size n:Nat}{e T:TypeId}{v:Vv}{xs:Ls Vv}{A:Array Vv}(hg:w.heap[R]? =U (C A T (0,0)))(h:w.ownsRow base e size v n xs)(hT:T≠e):v.ownBlock≠U R:=by
 intro hv;rcases h.2 with⟨h',_⟩|⟨g,cap,cur,h',_,hg',_⟩
 ·subst h';cases hv
 subst h';obtain rfl:g=R:=by simpa [Value.ownBlock]using hv
 rw[hg]at hg';injection hg' with hg';injection hg' with _ e _;exact hT e
theorem uI{W w:M}{R:Nat}{A:Array Vv}{tree:Ls Vl}{vt:Vv}(i:Nat)(u:Vv)(hb:H W.heap.size W w)(hlo:W.heap.size<=R)(hg:w.heap[R]? =U (C A 128 (0,0)))
 (ho:w.ownsRow W.heap.size 60 4 vt tree.length (bG tree)):
 H W.heap.size W (w.setCell (D R i Z) u)/\(w.setCell (D R i Z) u).heap[R]? =U (C (A.setIfInBounds i u) 128 (0,0))/\(w.setCell (D R i Z) u).ownsRow W.heap.size 60 4 vt tree.length (bG tree):=
 ⟨hb.setCell hlo u,bn w R i A _ u hg,aJ ho (cA hg ho Dc) u⟩
theorem dk.set_other{W w:M}{R:Nat}{a:Oo Ad}{n c:Nat}{data:Q}{tree:Ls Vl}{e p:Int}(h:dk W w R a n c data tree e p){k:Nat}{A:Array Vv}{T:TypeId}(hk:W.heap.size<=k)(hkR:k≠R)(hT:T≠60)(hg:w.heap[k]? =U (C A T (0,0)))(i:Nat)(u:Vv):dk W (w.setCell (D k i Z) u) R a n c data tree e p/\(w.setCell (D k i Z) u).heap[k]? =U (C (A.setIfInBounds i u) T (0,0)):=by obtain⟨hb,hlo,vt,hr,ho⟩:=h;exact⟨⟨hb.setCell hk u,hlo,vt,by rw[aP _ _ _ _ (by exact Ne.symm hkR)];exact hr,aJ ho (cA hg ho hT) u⟩,bn w k i A _ u hg⟩
theorem dk.set5{W w:M}{R:Nat}{a:Oo Ad}{n c:Nat}{data:Q}{tree:Ls Vl}{e p:Int}(h:dk W w R a n c data tree e p){k:Nat}{A:Array Vv}{T:TypeId}(hk:W.heap.size<=k)(hkR:k≠R)(hT:T≠60)(hg:w.heap[k]? =U (C A T (0,0)))(v0 v1 v2 v3 v4:Vv):dk W (((((w.setCell (D k 0 Z) v0).setCell (D k 1 Z) v1).setCell (D k 2 Z) v2).setCell (D k 3 Z) v3).setCell (D k 4 Z) v4) R a n c data tree e p:=by
 obtain⟨h0,g0⟩:=h.set_other hk hkR hT hg 0 v0;obtain⟨h1,g1⟩:=h0.set_other hk hkR hT g0 1 v1;obtain⟨h2,g2⟩:=h1.set_other hk hkR hT g1 2 v2;obtain⟨h3,g3⟩:=h2.set_other hk hkR hT g2 3 v3;exact(h3.set_other hk hkR hT g3 4 v4).1
theorem bO(W w:M)(R:Nat)(a:Oo Ad)(n c:Nat)(data:Q)(tree:Ls Vl)(p e1 p1:Int)(h:dk W w R a n c data tree 0 p):Cs prog 70 #[Po (U (D R 0 Z)),I J e1,I J p1] w fun e w'=>e=Rt (Tu #[])/\dk W w' R a n c data tree e1 p1/\∀k,k≠R->w'.heap[k]? =w.heap[k]? :=by
 obtain⟨hb,hlo,vt,hr,ho⟩:=h;have HB:Hi _:=hb;have HO:Hi _:=ho;have HR:Hi _:=hr;unfold eh at hr;have c3:w.cell? (D R 3 Z)=U (I J 0):=by simp[Wc,hr]
 have f3:w.frozen? (D R 3 Z)=false:=by simp[Wf,hr]
 have c4:w.cell? (D R 4 Z)=U (I J p):=by simp[Wc,hr]
 have f4:w.frozen? (D R 4 Z)=false:=by simp[Wf,hr]
 clear hb ho hr;go_enter func70,ntmps70;go_wp2;go_end0;obtain⟨b1,r1,o1⟩:=uI 3 (I J e1) HB hlo HR HO;obtain⟨b2,r2,o2⟩:=uI 4 (I J p1) b1 hlo r1 o1;exact⟨X,⟨b2,hlo,vt,r2,o2⟩,fun k hk=>by rw[aP _ _ _ _ hk,aP _ _ _ _ hk]⟩
theorem mo(W w:M)(R:Nat)(a:Oo Ad)(n c:Nat)(data:Q)(tree:Ls Vl)(e p:Int)(v:Vl)(h:dk W w R a n c data tree e p)(hl:tree.length<=1099511627776):Cs prog 144 #[Po (U (D R 0 Z)),I J v.kind,Y v.text,I J v.alt,I J v.kids] w fun e' w'=>e'=Rt (I J (tree.length:Nat))/\dk W w' R a n c data (tree++[v]) e p/\Fr R w w':=by
 obtain⟨i0,hi0,hz0,hz1,hz2⟩:=dD jl;obtain⟨hb,hlo,vt,hr,ho⟩:=h;have HB:Hi (H W.heap.size W w):=hb;have HO:Hi (w.ownsRow W.heap.size 60 4 vt tree.length (bG tree)):=ho;have HR:Hi (w.heap[R]? =U (eh a n c data vt e p)):=hr;unfold eh at hr;have c2:w.cell? (D R 2 Z)=U vt:=by simp[Wc,hr]
 have f2:w.frozen? (D R 2 Z)=false:=by simp[Wf,hr]
 have hRl:R<w.heap.size:=aw c2;have hsz:W.heap.size<=w.heap.size+1:=by have:=hb.size;omega
 clear hb ho hr;go_enter func144,ntmps144;go_wp2_with (at_builtin;refine wpList_append_lies _ X (.tmp 15) (.tmp 21) 39 X W.heap.size 60 i0 fA 4 40 underlying39 hi0 hz0 hz1 hz2 X Dc vt tree.length (bG tree) X (HO.alloc _) (D w.heap.size 0 Z) 1 1 v.cells X X (World.news_of_block (aA w _)) (by intro u hu;unfold Vl.cells at hu;simp at hu;rcases hu with rfl|rfl|rfl|rfl<;>rfl) Dc (by unfold maxLen;omega) O (by simpa using hsz) (w.heap.size+1) Sq ?_);intro g cap w3 h1 h2 h3 h4;have hR3:w3.heap[R]? =U (eh a n c data vt e p):=by rw[h2.block R So (fun q=>cA HR HO Dc q.symm),bM w _ _ hRl];exact HR
 have hb3:H W.heap.size W w3:=by have hb0:H W.heap.size W (w.alloc (C #[I J v.kind,Y v.text,I J v.alt,I J v.kids] 60)):=HB.alloc HB.size _;exact hb0.grown h2 hb0.size (fun k hk=>(HO.lt k hk).1)
 have ho3:w3.ownsRow W.heap.size 60 4 (S (U (D g 0 Z)) (tree.length+1) cap) (tree++[v]).length (bG (tree++[v])):=by rw[kg,aQ];exact h1
 have FIN:Hi (dk W (w3.setCell (D R 2 Z) (S (U (D g 0 Z)) (tree.length+1) cap)) R a n c data (tree++[v]) e p):=by obtain⟨b1,r1,o1⟩:=uI 2 (S (U (D g 0 Z)) (tree.length+1) cap) hb3 hlo hR3 ho3;exact⟨b1,hlo,_,r1,o1⟩
 have HFR:Hi (Fr R w (w3.setCell (D R 2 Z) (S (U (D g 0 Z)) (tree.length+1) cap))):=fun k A T hk hT hg=>by
  have hlt:k<w.heap.size:=by
   rcases cG k w.heap.size with h'|h'
   ·exact h'
   rw[bj h']at hg;cases hg
  rw[aP _ _ _ _ hk,h2.block k So (fun q=>cA hg HO hT q.symm),bM w _ _ hlt];exact hg
 unfold eh at hR3;have d2:w3.cell? (D R 2 Z)=U vt:=by simp[Wc,hR3]
 have g2:w3.frozen? (D R 2 Z)=false:=by simp[Wf,hR3]
 clear h1 h2 h3 h4 hR3 hb3 ho3 c2 f2;go_wp2;go_ret;exact⟨by congr 1,FIN,HFR⟩
theorem x7(s:Ls Nd)(a:Oo Ad)(cp i k:Nat)(w:M)(hs:ju w a s)(hw:gq s)(hkd:nr s)(hi:i<s.length)(hk:k<s.length)(hn:s.length<=40):Cs prog 68 #[S a s.length cp,I J i,I J k] w fun e w'=>dB (dU s i k) w e w':=by
 have HC:Hi (∀(wr:M) (j:Nat) (c m:Int),H w.heap.size w wr->j<s.length->Cs prog 100 #[S a s.length cp,I J j,I J c,I J m] wr fun e w'=>dB (oQ s j c m) wr e w'):=fun wr j c m hb hj=>mY s a cp j c m wr (hs.below hb) hw hkd hj hn;clear hs hw hkd;go_enter func68,ntmps68;go_wp2;go_loopw [7] (fun vc wr=>∃c:Nat,c<=4/\vc=I J c/\(∀c' m':Nat,c'<c->m'<31->¬(oQ s i c' m'/\oQ s k c' m'))/\H w.heap.size w wr) (fun vc _=>4-(Io vc).toNat);case atStart=>exact⟨0,O,X,fun _ _ h=>Ab h (aO _),By⟩
 obtain⟨c,hc,rfl,hno,hbr⟩:=hrel;have HN:Hi _:=hno;have HB:Hi _:=hbr;clear hno hbr;by_cases hlt:c<4
 ·have hlt':(c:Int)<4:=O;go_wp2;go_loopw [8] (fun vm wx=>∃m:Nat,m<=31/\vm=I J m/\(∀m':Nat,m'<m->¬(oQ s i c m'/\oQ s k c m'))/\H w.heap.size w wx) (fun vm _=>31-(Io vm).toNat);case atStart=>exact⟨0,O,X,fun _ h=>Ab h (aO _),HB⟩
  obtain⟨m,hm,rfl,hno,hbr⟩:=hrel;have HN2:Hi _:=hno;have HB2:Hi _:=hbr;clear hno hbr;by_cases hml:m<31
  ·have hml':(m:Int)<31:=O;have NX:Hi (∀(h:¬(oQ s i c m/\oQ s k c m)),∀m':Nat,m'<m+1->¬(oQ s i c m'/\oQ s k c m')):=fun h m' hm'=>by
    by_cases e:m'=m
    ·subst e;exact h
    exact HN2 m' O
   go_wp2_with fail;refine(HC _ i c m HB2 hi).mono ?_;rintro e w1 ⟨r,rfl,hr,hb1⟩;have HR:Hi _:=hr;have HB3:Hi _:=HB2.trans (hb1.mono HB2.size);clear hr hb1;cases r
   ·go_wp2;go_roundw;case rel=>exact⟨m+1,O,Gn,NX (fun h=>by have:=HR.2 h.1;cases this),HB3⟩
    case measure=>exact Ms
   go_wp2_with fail;refine(HC _ k c m HB3 hk).mono ?_;rintro e w2 ⟨r,rfl,hr,hb2⟩;have HR2:Hi _:=hr;have HB4:Hi _:=HB3.trans (hb2.mono HB3.size);clear hr hb2;cases r
   ·go_wp2;go_roundw;case rel=>exact⟨m+1,O,Gn,NX (fun h=>by have:=HR2.2 h.2;cases this),HB4⟩
    case measure=>exact Ms
   go_wp2;go_ret;exact bS ⟨c,m,O,O,O,O,HR.1 trivial,HR2.1 trivial⟩ HB4
  have hml':(31:Int)<=m:=O;go_wp2;go_roundw
  case rel=>exact⟨c+1,O,Gn,fun c' m' h1 h2=>by
   by_cases e:c'=c
   ·subst e;exact HN2 m' O
   exact HN c' m' O h2,HB2⟩
  case measure=>exact Ms
 have hlt':(4:Int)<=c:=O;go_wp2;go_ret;exact bc (fun⟨c',m',h1,h2,h3,h4,h5,h6⟩=>HN c'.toNat m'.toNat O O (by rw[dh h1,dh h3];exact⟨h5,h6⟩)) HB
def iO(w:M):Prop:=∀j:Nat,j<=12->w.cell? (D 16 j Z)=U (I J (own j))
theorem iO.below{w w':M}(h:iO w)(hb:H w.heap.size w w'):iO w':=fun j hj=>(hb.cell (aw (h j hj))).trans (h j hj)
theorem na(k:Int)(h:0<=k)(h':k<=12)(w:M)(hn:iO w):Cs prog 179 #[I J k] w fun e w'=>e=Rt (Ag #[I J 0,I J (own k)])/\H w.heap.size w w':=by
 obtain⟨n,rfl⟩:∃n:Nat,k=n:=⟨k.toNat,O⟩;have c:=hn n O;have hl:=aw c;simp only at hl;clear hn;have h13:(n:Int)<13:=O;go_enter func179,ntmps179;go_wp2;refine aS (v:=Ag #[I J 0,I J (own n)]) (by simp[results,results179,go_sem]) X ⟨X,?_⟩;exact Be
theorem jm(n:Nd)(ka:Oo Ad)(kc:Nat)(w:M)(hn:iO w)(ht: -1<=n.tag)(hk:0<=n.kind)(hk':n.tag<0->n.kind<=12):Cs prog 140 #[Ag #[I J n.kind,I J n.tag,I J n.mode,S ka n.kids.length kc]] w fun e w'=>e=Rt (Ag #[I J n.outer.1,I J n.outer.2])/\H w.heap.size w w':=by
 by_cases h:0<=n.tag
 ·have e:n.outer=(2,n.tag):=by unfold Nd.outer;rw[aG h]
  have h1:(n.tag != -1)=true:=by rw[ct];omega
  rw[e];clear e hk' hn;go_enter func140,ntmps140;go_wp2;refine aS (v:=Ag #[I J 2,I J n.tag]) (by simp[results,results140,go_sem]) X ⟨X,?_⟩;exact(Be).alloc Sq _
 have e:n.outer=(0,own n.kind):=by unfold Nd.outer;rw[G h]
 have h1:(n.tag != -1)=false:=by rw[bK];omega
 have HC:Hi _:=fun w q=>na n.kind hk (hk' O) w q;have HN:Hi (∀o1 o2,iO ((w.alloc o1).alloc o2)):=fun o1 o2=>hn.below ((Be).alloc Sq _);rw[e];clear e hk' hn;go_enter func140,ntmps140;go_wp2_with fail;refine(HC _ (HN _ _)).mono ?_;rintro e w1 ⟨rfl,hb⟩;have HB:Hi _:=aT (aT hb);have hG:w1.heap[w.heap.size+1]? =U (C #[I J 0,I J 0] 147 (0,0)):=ax (by simpa using aA (w.alloc _) _) hb;have q0:w1.cell? (D (w.heap.size+1) 0 Z)=U (I J 0):=by simp[Wc,hG]
 have q1:w1.cell? (D (w.heap.size+1) 1 Z)=U (I J 0):=by simp[Wc,hG]
 have f0:w1.frozen? (D (w.heap.size+1) 0 Z)=false:=by simp[Wf,hG]
 have f1:w1.frozen? (D (w.heap.size+1) 1 Z)=false:=by simp[Wf,hG]
 clear hb hG;go_wp2;refine aS (v:=Ag #[I J 0,I J (own n.kind)]) (by simp[results,results140,go_sem,q0,q1]) X ⟨X,?_⟩;exact(HB.setCell (p:=D (w.heap.size+1) 0 Z) Sq _).setCell (p:=D (w.heap.size+1) 1 Z) Sq _
end Go.Proofs.YtkkicodfpekbgaaGreatDoor
namespace Go.Proofs.YtkkicodfpekbgaaGreatDoor
open Go.RowKit
structure b7(w:M) where
 v:M
 h:H w.heap.size w v
theorem eX(w:M):Nonempty (b7 w):=⟨⟨w,By⟩⟩
theorem b7.cell{w:M}(x:b7 w){a:Ad}{u:Vv}(h:w.cell? a=U u):x.v.cell? a=U u:=(x.h.cell (aw h)).trans h
theorem b7.block{w:M}(x:b7 w){g:Nat}{o:Obj}(h:w.heap[g]? =U o):x.v.heap[g]? =U o:=ax h x.h
theorem b7.old{w:M}{o:Obj}(x:b7 (w.alloc o)){a:Ad}{u:Vv}(h:w.cell? a=U u):x.v.cell? a=U u:=x.cell ((((aY w.heap.size w).alloc Ln o).cell (aw h)).trans h)
theorem b7.bel{w0 w:M}(hb:H w0.heap.size w0 w)(x:b7 w):H w0.heap.size w0 x.v:=hb.trans (x.h.mono hb.size)
theorem b7.far{w0 w:M}(hb:H w0.heap.size w0 w)(x:b7 w){a:Ad}{u:Vv}(h:w0.cell? a=U u):x.v.cell? a=U u:=((b7.bel hb x).cell (aw h)).trans h
theorem b7.new{w:M}{A:Array Vv}{T:TypeId}(x:b7 (w.alloc (C A T))){i:Nat}{u:Vv}(h:A[i]? =U u):x.v.cell? (D w.heap.size i Z)=U u:=x.cell (by have q:=aA w (C A T);unfold Wc;simp only[q];exact h)
theorem bP{P:Program}{id:Nat}{aq:Exit->Act->M->Prop}{a:Act}{w:M}{l:Ls Oper}(hm:P.follows .mixedOrders=true)(hB:Region.lexB .any l.toArray=true)
 (h:wpQuiet P l.toArray (fun w'=>∃x:b7 w,w'=x.v) (fun a'=>∀w',(∃x:b7 w,w'=x.v)->aq .normal a' w') l a):(Code.region id l.toArray true).wp P aq a w:=
 wp_region_quiet (C:=fun w'=>∃x:b7 w,w'=x.v) hm hB ⟨⟨w.drew,(By).drew⟩,X⟩ (by simpa using h)
theorem dW{P:Program}{ops:Array Oper}{aq:Exit->Act->M->Prop}{a:Act}{w:M}(h:∀w',H w.heap.size w w'->aq .normal a w'):
 wpQuiet P ops (fun w'=>∃x:b7 w,w'=x.v) (fun a'=>∀w',(∃x:b7 w,w'=x.v)->aq .normal a' w') [] a:=fun _ hx=>by obtain⟨x,rfl⟩:=hx;exact h x.v x.h
theorem b7.calls{P:Program}{f:FuncId}{args:Array Vv}{w:M}{x:b7 w}{v:Vv}(h:Cs P f args x.v fun e w'=>e=Rt v/\H x.v.heap.size x.v w'):
 Cs P f args x.v fun e w''=>e=Rt v/\∃y:b7 w,w''=y.v:=h.mono fun _ w' q=>⟨q.1,⟨w',x.h.trans (q.2.mono x.h.size)⟩,X⟩
theorem b7.callsR{P:Program}{f:FuncId}{args:Array Vv}{w:M}{x:b7 w}{R:Prop}{r:Bool}(hr:r=true↔R)(h:Cs P f args x.v fun e w'=>dB R x.v e w'):Cs P f args x.v fun e w''=>e=Rt (Bo r)/\∃y:b7 w,w''=y.v:=h.mono fun _ w' q=>by
 obtain⟨r',rfl,h1,h2⟩:=q;refine⟨?_,⟨w',x.h.trans (h2.mono x.h.size)⟩,X⟩;have:r'=r:=by
  cases r<;>cases r'
  ·rfl
  ·exact Ab (hr.2 (h1.1 X)) Sq
  ·exact Ab (h1.2 (hr.1 X)) Sq
  rfl
 rw[this]
theorem pC(R:Prop):∃r:Bool,r=true↔R:=by
 by_cases h:R
 ·exact⟨true,by simp[h]⟩
 exact⟨false,by simp[h]⟩
def GF(m:Int):Ls Vv:=[I J m,Y ⟨#[]⟩,I J m,I J 0]
def iz(m:Int)(p:Nat):Vv:=(GF m).getD (p%4) .nilIface
def iM(m:Int):Nat->Ls Vv
 |0=> []
 |k+1=>GF m++iM m k
theorem sQ(m:Int):∀k,(iM m k).length=k*4
 |0=>rfl
 |k+1=>by rw[iM,aQ,sQ m k];show 4+k*4=_;omega
theorem oE(m:Int):∀k p,p<k*4->(iM m k)[p]? =U (iz m p)
 |0,p,h=>O
 |k+1,p,h=>by
  rw[iM]
  by_cases q:p<4
  ·rw[cm (by simpa [GF]using q)]
   unfold iz
   rw[iT q]
   match p,q with
   |0,_=>rfl
   |1,_=>rfl
   |2,_=>rfl
   |3,_=>rfl
  ·have hl:(GF m).length=4:=X
   rw[bu O,hl,oE m k (p-4) O]
   unfold iz
   rw[<-ID O]
theorem sP(m:Int)(j:Nat):∀k,iM m k++iM m j=iM m (k+j)
 |0=>by simp[iM]
 |k+1=>by rw[iM,bE,sP m j k,show k+1+j=(k+j)+1 by omega,iM]
theorem lh(m:Int)(n j:Nat):iz m (n*4+j)=iz m j:=by unfold iz;rw[show(n*4+j)%4=j%4 by omega]
def gM(w:M)(v:Vv)(n:Nat)(m:Int):Prop:=
 (v=S Z 0 0/\n=0)\/∃g cap cur,v=S (U (D g 0 Z)) n cap/\n<=maxLen/\w.heap[g]? =U (C cur 60 (0,0))/\∀p,p<n*4->cur[p]? =U (iz m p)
theorem gM.of_own{w:M}{base:Nat}{v:Vv}{n:Nat}{m:Int}(h:w.ownsRow base 60 4 v n (iM m n)):gM w v n m:=by
 rcases h.2 with q|⟨g,cap,cur,rfl,_,hg,h1,h2,h3,h4⟩
 ·exact .inl q
 refine .inr ⟨g,cap,cur,X,O,hg,fun p hp=>?_⟩;have:=oE m n p hp;rw[<-h4,bR hp]at this;simpa using this
theorem gM.keep{w w':M}{v:Vv}{n:Nat}{m:Int}(h:gM w v n m)(hk:∀g o,v.ownBlock=U g->w.heap[g]? =U o->w'.heap[g]? =U o):gM w' v n m:=by
 rcases h with q|⟨g,cap,cur,rfl,h1,hg,h2⟩
 ·exact .inl q
 exact .inr ⟨g,cap,cur,X,h1,hk g _ X hg,h2⟩
theorem gM.below{w w':M}{v:Vv}{n:Nat}{m:Int}(h:gM w v n m)(hb:H w.heap.size w w'):gM w' v n m:=h.keep fun _ _ _ hg=>ax hg hb
theorem gM.lt{w:M}{v:Vv}{n:Nat}{m:Int}(h:gM w v n m){g:Nat}(hv:v.ownBlock=U g):g<w.heap.size:=by
 rcases h with⟨rfl,_⟩|⟨g',cap,cur,rfl,_,hg,_⟩
 ·cases hv
 injection hv with q;subst q;exact bm hg
structure Kp(w w':M)(m:Int)(b:Oo Nat):Prop where
 gr:w.grownBy w' b
 own:∀g cur,b=U g->w.heap[g]? =U (C cur 60 (0,0))->∃cur':Array Vv,w'.heap[g]? =U (C cur' 60 (0,0))/\cur'.size=cur.size/\∀p:Nat,cur'[p]? =cur[p]? \/cur'[p]? =U (iz m p)
theorem Kp.refl(w:M)(m:Int)(b:Oo Nat):Kp w w m b where
 gr:=⟨X,X,X,Ln,fun _ _ _=>rfl⟩
 own:=fun g cur _ h=>⟨cur,h,X,fun _=> .inl X⟩
theorem Kp.trans{w w1 w2:M}{m:Int}{b:Oo Nat}(h:Kp w w1 m b)(k:Kp w1 w2 m b):Kp w w2 m b where
 gr:=⟨k.gr.os.trans h.gr.os,k.gr.tape.trans h.gr.tape,k.gr.output.trans h.gr.output,bl h.gr.size k.gr.size,fun g hg hb=>(k.gr.block g (IC hg h.gr.size) hb).trans (h.gr.block g hg hb)⟩
 own:=fun g cur hb hg=>by
  obtain⟨c1,q1,q2,q3⟩:=h.own g cur hb hg
  obtain⟨c2,r1,r2,r3⟩:=k.own g c1 hb q1
  refine⟨c2,r1,O,fun p=>?_⟩
  rcases r3 p with e|e
  ·rw[e];exact q3 p
  ·exact .inr e
theorem Kp.of_below{w w':M}{m:Int}{b:Oo Nat}(h:H w.heap.size w w'):Kp w w' m b where
 gr:=⟨h.os,h.tape,h.output,h.size,fun g hg _=>h.block g hg⟩
 own:=fun g cur _ hg=>⟨cur,ax hg h,X,fun _=> .inl X⟩
theorem Kp.alloc{w w':M}{m:Int}{b:Oo Nat}(h:Kp w w' m b)(o:Obj):Kp w (w'.alloc o) m b:=h.trans (.of_below Be)
theorem Kp.drew{w w':M}{m:Int}{b:Oo Nat}(h:Kp w w' m b):Kp w w'.drew m b:=h.trans (.of_below (By).drew)
theorem Kp.append{w w':M}{m:Int}{v:Vv}{n k:Nat}(hg:w.grownBy w' v.ownBlock)(hk:jh w w' 60 v (n*4) (iM m k)):Kp w w' m v.ownBlock where
 gr:=hg
 own:=fun g cur hb hc=>by
  obtain⟨c1,q1,q2,q3⟩:=hk g cur hb hc
  refine⟨c1,q1,q2,fun p=>?_⟩
  rcases q3 p with e|⟨j,rfl,hj,e⟩
  ·exact .inl e
  ·right
   rw[sQ]at hj
   rw[e,oE m k j hj,lh]
theorem Kp.full{w w':M}{m:Int}{b:Oo Nat}(h:Kp w w' m b){v:Vv}{n:Nat}(hf:gM w v n m):gM w' v n m:=by
 rcases hf with q|⟨g,cap,cur,rfl,h1,hg,h2⟩
 ·exact .inl q
 by_cases e:b=U g
 ·obtain⟨c1,q1,q2,q3⟩:=h.own g cur e hg;refine .inr ⟨g,cap,c1,X,h1,q1,fun p hp=>?_⟩;rcases q3 p with e|e
  ·rw[e];exact h2 p hp
  exact e
 exact .inr ⟨g,cap,cur,X,h1,(h.gr.block g (bm hg) (fun q=>e q.symm)).trans hg,h2⟩
theorem Kp.other{w w':M}{m m':Int}{b:Oo Nat}(h:Kp w w' m b){v:Vv}{n:Nat}(hf:gM w v n m')(hne:∀g,v.ownBlock=U g->b≠U g):gM w' v n m':=
 hf.keep fun g _ hv hg=>(h.gr.block g (bm hg) (fun q=>hne g hv q.symm)).trans hg
theorem Kp.block{w w':M}{m:Int}{b:Oo Nat}(h:Kp w w' m b){g:Nat}{o:Obj}(hg:w.heap[g]? =U o)(hne:b≠U g):w'.heap[g]? =U o:=(h.gr.block g (bm hg) (fun q=>hne q.symm)).trans hg
theorem Kp.row{w w':M}{m:Int}{v:Vv}{n:Nat}{xs:Ls Vv}{base:Nat}(h:Kp w w' m v.ownBlock)(hv:w.ownsRow base 60 4 v n xs){b2 s2 n2:Nat}{e2:TypeId}{v2:Vv}{x2:Ls Vv}(h2:w.ownsRow b2 e2 s2 v2 n2 x2)(hT:e2≠60):w'.ownsRow b2 e2 s2 v2 n2 x2:=by
 refine⟨h2.1,?_⟩;rcases h2.2 with q|⟨g,cap,cur,rfl,hb,hg,r⟩
 ·exact .inl q
 refine .inr ⟨g,cap,cur,X,hb,h.block hg (fun e=>?_),r⟩;rcases hv.2 with⟨rfl,_⟩|⟨g',_,cur',rfl,_,hg',_⟩
 ·cases e
 injection e with e;subst e;rw[show((D g' 0 Z):Ad).block=g' from rfl]at hg;rw[hg']at hg;injection hg with q;injection q with _ q;exact hT q.symm
theorem Kp.below{w w':M}{m:Int}{b:Oo Nat}(h:Kp w w' m b){B:Nat}{w0:M}(hb:H B w0 w)(hB:B<=w.heap.size)(hlo:∀g,b=U g->B<=g):H B w0 w':=hb.grown h.gr hB hlo
structure GG(W w:M)(B:Nat)(L:Ls (Vv×Nat×Int))(nx:Int):Prop where
 bel:H W.heap.size W w
 lo:W.heap.size<=B
 row:∃vv vm,w.heap[B]? =U (C #[vv,vm,S Z 0 0,S Z 0 0,I J nx] 35 (0,0))/\
  w.ownsRow W.heap.size 39 1 vv L.length (L.map (·.1))/\w.ownsRow W.heap.size 3 1 vm L.length (L.map fun x=>I J x.2.2)
 full:∀x∈L,gM w x.1 x.2.1 x.2.2
theorem GG.below{W w w':M}{B:Nat}{L:Ls (Vv×Nat×Int)}{nx:Int}(h:GG W w B L nx)(hb:H w.heap.size w w'):GG W w' B L nx where
 bel:=h.bel.trans (hb.mono h.bel.size)
 lo:=h.lo
 row:=by
  obtain⟨vv,vm,h1,h2,h3⟩:=h.row
  exact⟨vv,vm,ax h1 hb,bB h2 hb,bB h3 hb⟩
 full:=fun x hx=>(h.full x hx).below hb
end Go.Proofs.YtkkicodfpekbgaaGreatDoor
