/- Parts. -/
import Derived.Test.YtkkicodfpekbgaaGreatDoorJa1
import Derived.Test.YtkkicodfpekbgaaGreatDoorJa0
open Go.Value renaming int->I,string->Y,slice->S,pointer->Po,bool->Bo,agg->Ag,tuple->Tu
open Go.IntKind renaming i64->J
open Go.Obj renaming cells->C
open Go.Ending renaming returned->Rt
open Option renaming some->U,none->Z
open Go renaming World->M,Calls->Cs,Addr->Ad,Value->Vv
open _root_ renaming ByteArray->Q,Option->Oo,List->Ls
open Go.RowKit renaming Below->H,intOf->Io,Hid->Hi
open Go.World renaming cell?->Wc,frozen?->Wf
open Go.Act renaming put->Ap,eval->Ae
open Go.Addr renaming mk->D
set_option linter.all false
set_option maxRecDepth 100000
set_option maxHeartbeats 8000000
namespace Go.Proofs.YtkkicodfpekbgaaGreatDoor
variable{A args:Array Vv}{r all:Bool}{f:FuncId}{p:Int}{l done q V au dn:Ls Nat}{s:Ls Nd}{xs:Ls Vv}{w w' wr w1 w2 W w0:M}{b n j base g c size i gi ci x cap t k gs R:Nat}{o:Obj}{a ka:Oo Ad}{P:Prop}{data:Q}{e T:TypeId}{v eJ va lO vt u:Vv}
section
open Go.RowKit
structure my(w:M)(b o:Nat)(k:Kd):Prop where
 node:w.cell? (D b o Z)=U (I J k.node)
 opt:w.cell? (D b (o+1) Z)=U (Bo k.opt)
 dflt:w.cell? (D b (o+2) Z)=U (Y k.dflt)
structure Et(w:M)(b o:Nat)(n:Nd)(ka:Oo Ad)(kc:Nat):Prop where
 kind:w.cell? (D b o Z)=U (I J n.kind)
 tag:w.cell? (D b (o+1) Z)=U (I J n.tag)
 mode:w.cell? (D b (o+2) Z)=U (I J n.mode)
 kids:w.cell? (D b (o+3) Z)=U (S ka n.kids.length kc)
def bn(w:M)(ka:Oo Ad)(ks:Ls Kd):Prop:=∀j,j<ks.length->∃b o,ka=U (D b o Z)/\my w b (o+j*3) (ks.getD j fy)
def ew(w:M)(a:Oo Ad)(s:Ls Nd):Prop:=∀i,i<s.length->∃b o ka kc,a=U (D b o Z)/\Et w b (o+i*4) (nd s i) ka kc/\(nd s i).kids.length<=kc/\kc<=maxLen/\bn w ka (nd s i).kids
def ky(s:Ls Nd):Prop:=∀i,i<s.length->∀k∈(nd s i).kids,k.dflt.size<=140737488351232
theorem bp{a:Ad}(h:w.cell? a=U v):a.block<w.heap.size:=by
 rcases ny a.block w.heap.size with h'|h';·exact h'
 simp[Wc,lu h']at h
theorem my.below{o:Nat}{k:Kd}(h:my w b o k)(hb:Bw w w'):my w' b o k:=
 ⟨Cb hb h.node,Cb hb h.opt,Cb hb h.dflt⟩
theorem Et.below{o:Nat}{n:Nd}{kc:Nat}(h:Et w b o n ka kc)(hb:Bw w w'):Et w' b o n ka kc:=
 ⟨Cb hb h.kind,Cb hb h.tag,Cb hb h.mode,Cb hb h.kids⟩
theorem bn.below{ks:Ls Kd}(h:bn w ka ks)(hb:Bw w w'):bn w' ka ks:=fun j hj=>by obtain⟨b,o,e,hc⟩:=h j hj;exact⟨b,o,e,hc.below hb⟩
theorem ew.below(h:ew w a s)(hb:Bw w w'):ew w' a s:=fun i hi=>by obtain⟨b,o,ka,kc,e,hc,h1,h2,hk⟩:=h i hi;exact⟨b,o,ka,kc,e,hc.below hb,h1,h2,hk.below hb⟩
def Dm(n:Nd)(ka:Oo Ad)(kc:Nat):Vv:=Ag #[I J n.kind,I J n.tag,I J n.mode,S ka n.kids.length kc]
def Wb(k:Kd):Vv:=Ag #[I J k.node,Bo k.opt,Y k.dflt]
def dw(P:Prop)(w:M)(e:Ending)(w':M):Prop:=∃r,e=Rt (Bo r)/\(r=true↔P)/\Bw w w'
theorem cg(h:¬P)(hw:Bw w w'):dw P w (Rt (Bo false)) w':=⟨false,X,⟨fun e=>(by cases e),fun p=>Ab p h⟩,hw⟩
theorem ia(h:P)(hw:Bw w w'):dw P w (Rt (Bo true)) w':=⟨true,X,⟨fun _=>h,fun _=>rfl⟩,hw⟩
theorem yv(h:r=true↔P)(hw:Bw w w'):dw P w (Rt (Bo r)) w':=⟨r,X,h,hw⟩
end
section
open Go.Proofs.Tryz
open Go.RowKit
theorem Xr(n:Nd)(ka:Oo Ad)(kc:Nat)(w:M):Cs prog 67 #[Dm n ka kc] w fun e w'=>dw n.opn w e w':=by
 unfold Dm;by_cases h1:n.kind=13
 ·have iH:(n.kind==13)=true:=by simp[h1]
  by_cases h2:n.tag<0;·have HP:Hi n.opn:=⟨h1,h2⟩;clear h1;go_enter func67,ntmps67;go_wp2;go_ret;exact ia HP Be
  have HP:Hi (¬n.opn):=fun h=>h2 h.2;clear h1;go_enter func67,ntmps67;go_wp2;go_ret;exact cg HP Be
 have iH:(n.kind==13)=false:=by simp[h1]
 have HP:Hi (¬n.opn):=fun h=>h1 h.1;clear h1;go_enter func67,ntmps67;go_wp2;go_ret;exact cg HP Be
theorem dw.yes{e:Ending}(h:dw P w e w')(p:P):e=Rt (Bo true)/\Bw w w':=by obtain⟨r,rfl,hr,hb⟩:=h;rw[hr.2 p];exact⟨X,hb⟩
theorem dw.no{e:Ending}(h:dw P w e w')(p:¬P):e=Rt (Bo false)/\Bw w w':=by
 obtain⟨r,rfl,hr,hb⟩:=h;cases r;·exact⟨X,hb⟩
 exact Ab (hr.1 X) p
theorem ag1(n:Nd)(ka:Oo Ad)(kc:Nat)(w:M)(h:n.opn):
 Cs prog 67 #[Ag #[I J n.kind,I J n.tag,I J n.mode,S ka n.kids.length kc]] w fun e w'=>e=Rt (Bo true)/\Bw w w':=
 (Xr n ka kc w).mono fun _ _ q=>q.yes h
theorem agU(n:Nd)(ka:Oo Ad)(kc:Nat)(w:M)(h:¬n.opn):
 Cs prog 67 #[Ag #[I J n.kind,I J n.tag,I J n.mode,S ka n.kids.length kc]] w fun e w'=>e=Rt (Bo false)/\Bw w w':=
 (Xr n ka kc w).mono fun _ _ q=>q.no h
def Kd.must(k:Kd):Prop:=k.opt=false/\k.dflt.size=0
theorem Xi(k:Kd)(w:M):Cs prog 66 #[Wb k] w fun e w'=>dw k.must w e w':=by
 unfold Wb
 cases h:k.opt with
 |true=>
  have HP:Hi (¬k.must):=fun q=>by have:=q.1;rw[h]at this;cases this
  clear h
  go_enter func66,ntmps66
  go_wp2
  go_ret
  exact cg HP Be
 |false=>
  have HO:Hi _:=h
  clear h
  by_cases h2:k.dflt.size=0
  ·have e:=jr h2
   have HP:Hi k.must:=⟨HO,h2⟩
   clear h2
   go_enter func66,ntmps66
   go_wp2
   go_ret
   exact ia HP Be
  ·have e:=gw (t:=k.dflt) O
   have HP:Hi (¬k.must):=fun q=>h2 q.2
   clear h2
   go_enter func66,ntmps66
   go_wp2
   go_ret
   exact cg HP Be
def jg(l:Ls Nat):Ls Vv:=l.map fun(j:Nat)=>Value.int J (j:Int)
structure si(s:Ls Nd)(w wr:M)(i:Nat)(done q:Ls Nat)(gi ci:Nat)(eJ:Vv):Prop where
 inn:wr.ownsRow w.heap.size 3 1 (S (U (D gi 0 Z)) q.length ci) q.length (jg q)
 out:wr.ownsRow w.heap.size 3 1 eJ (jx s done).length (jg (jx s done))
 ap:eJ.ownBlock≠U gi
 bel:Bw w wr
theorem Sk:(prog.info? 3).map (fun i=>(i.zero,i.size,i.bytes))=U (U (I J 0),1,8):=Kr
theorem afV(h:j<l.length):(jg l)[j]? =U (I J ((l.getD j 0:Nat):Int)):=by unfold jg;simp[h]
theorem Dp(h:w.ownsRow base 3 1 (S (U (D g 0 Z)) n c) l.length (jg l))(hj:j<l.length):w.cell? (D g j Z)=U (I J ((l.getD j 0:Nat):Int)):=by
 have:=h.cells (g:=g) X j _ (afV hj);have e:((D g 0 Z):Ad).add j=(D g j Z):=by unfold Addr.add;split<;>simp_all
 rwa[e]at this
theorem fm(h:w.ownsRow base e size v n xs)(hb:Bw w w'):w'.ownsRow base e size v n xs:=by
 obtain⟨h1,h2⟩:=h;refine⟨h1,?_⟩;rcases h2 with h2|⟨g,cap,aB,rfl,h3,h4,h5⟩;·exact .inl h2
 refine .inr ⟨g,cap,aB,X,h3,?_,h5⟩;have aA:g<w.heap.size:=by
  rcases ny g w.heap.size with h'|h';·exact h'
  rw[lu h']at h4;cases h4
 exact(hb.block _ aA).trans h4
theorem si.below(h:si s w wr i done q gi ci eJ)(hb:Bw wr w'):si s w w' i done q gi ci eJ where
 inn:=fm h.inn hb
 out:=fm h.out hb
 ap:=h.ap
 bel:=Tm h.bel hb
theorem dj(hb:H (w.alloc o).heap.size (w.alloc o) w'):Bw w w':=
 ((cm w.heap.size w).alloc Ln o).trans (hb.mono Sq)
theorem Fv(l:Ls Nat)(x:Nat):jg (l++[x])=jg l++[I J (x:Int)]:=by unfold jg;simp
theorem si.put(h:si s w wr i done q gi ci eJ)(ho:¬(nd s x).opn)(h1:w'.ownsRow w.heap.size 3 1 (S (U (D g 0 Z)) ((jx s done).length+1) cap) ((jx s done).length+1) (jg (jx s done)++[I J (x:Int)]))(h2:(wr.alloc o).grownBy w' eJ.ownBlock)(h3:eJ.ownBlock=U g\/g=wr.heap.size+1):si s w w' i (done++[x]) q gi ci (S (U (D g 0 Z)) ((jx s done).length+1) cap):=by
 have hgi:=(h.inn.lt gi X).2;have hb:=h.bel.alloc h.bel.size o
 exact {
  inn:=(h.inn.alloc o).kept h2 (.inr (fun e=>h.ap e.symm))
  out:=by rw[Xt ho,Fv,ff];exact h1
  ap:=by
   intro e
   have e':g=gi:=by simpa [Value.ownBlock]using e
   rcases h3 with h3|h3
   ·exact h.ap (by rw[h3,e'])
   ·omega
  bel:=hb.grown h2 hb.size (fun k hk=>(h.out.lt k hk).1)}
theorem si.push(h:si s w wr i done q gi ci eJ)(h1:w'.ownsRow w.heap.size 3 1 (S (U (D g 0 Z)) (q.length+1) cap) (q.length+1) (jg q++[I J (t:Int)]))(h2:(wr.alloc o).grownBy w' (U gi))(h3:U gi=U g\/g=wr.heap.size+1):si s w w' i done (q++[t]) g cap eJ:=by
 have hb:=h.bel.alloc h.bel.size o
 exact {
  inn:=by rw[Fv,ff];exact h1
  out:=(h.out.alloc o).kept h2 (.inr h.ap)
  ap:=by
   intro e
   rcases h3 with h3|h3
   ·exact h.ap (by rw[e,h3])
   ·have:=(h.out.lt g e).2;omega
  bel:=hb.grown h2 hb.size (fun k hk=>by have:=(h.inn.lt k hk).1;exact this)}
theorem si.beside{gn:Nat}(h:si s w wr i done q gi ci eJ)(hT:T≠3)(hg:wr.heap[gn]? =U (C A T (0,0)))(h2:(wr.alloc o).grownBy w' (U gi)):w'.heap[gn]? =U (C A T (0,0)):=by
 have aA:gn<wr.heap.size:=by
  rcases ny gn wr.heap.size with h'|h';·exact h'
  rw[lu h']at hg;cases hg
 have aI:gn≠gi:=by
  rintro rfl;rcases h.inn.2 with⟨h',_⟩|⟨g,cap,aB,hv,_,dY,_⟩;·cases h'
  obtain rfl:g=gn:=by injection hv with h1 _ _;injection h1 with h1;injection h1 with h1 _ _;exact h1.symm
  rw[hg]at dY;injection dY with dY;injection dY with _ e _;exact hT e
 have h3:=h2.block gn So (fun e=>aI (by injection e));rw[h3,nr wr o _ aA,hg]
theorem bc(h:w.heap[k]? =U o)(hb:Bw w w'):w'.heap[k]? =U o:=by
 have aA:k<w.heap.size:=by
  rcases ny k w.heap.size with h'|h';·exact h'
  rw[lu h']at h;cases h
 exact(hb.block _ aA).trans h
theorem Dk{p:Nat}(hp:p<q.length):t∈q.take (p+1)↔t∈q.take p\/q.getD p 0=t:=by rw[vz,Ek,dz hp];simp[hp,eq_comm]
def Sb(P:Prop)(v:Vv):Prop:=∃q:Bool,v=Bo q/\(q=true↔P)
def Md(s:Ls Nd)(i:Nat)(w:M)(e:Ending)(w':M):Prop:=
 ∃(v:Vv) (l:Ls Nat) (bk:Bool),e=Rt (Tu #[v,Bo bk])/\w'.ownsRow w.heap.size 3 1 v l.length (jg l)/\Bw w w'/\l.length<=s.length/\(∀j,j∈l↔mz s i j)/\(bk=true↔se s i)
theorem Wl(s:Ls Nd)(a:Oo Ad)(c i:Nat)(w:M)(hs:ew w a s)(hw:qg s)(hi:i<s.length)(hn:s.length<=40):Cs prog 37 #[S a s.length c,I J i] w fun e w'=>Md s i w e w':=by
 have HS:Hi _:=hs;have HW:Hi _:=hw;clear hs hw;obtain⟨i0,dO,cU,dA,bL⟩:=mh Sk;go_enter func37,ntmps37;go_wp2;go_loopw [6,7,8,9] (fun SG DB eJ vi wr=>∃done q gi ci bk,SG=S (U (D gi 0 Z)) q.length ci/\DB=Bo bk/\vi=I J (done.length:Nat)/\Lv s i done q bk/\si s w wr i done q gi ci eJ) (fun _ _ _ vi _=>s.length-(Io vi).toNat);case atStart=>exact⟨[],[i],w.heap.size,1,false,X,X,X,Lv.start s i,⟨⟨X,.inr ⟨w.heap.size,1,_,X,Ln,bl w _,Ln,Dc,X,X⟩⟩,nz _ _ _ _,by simp[Value.ownBlock],Be⟩⟩
 obtain⟨done,q,gi,ci,bk,rfl,rfl,rfl,hL,hM⟩:=hrel;have bP:=hL.len HW hi;have HL:Hi _:=hL;have HM:Hi _:=hM;by_cases aA:done.length<q.length
 ·obtain⟨x,r,hq⟩:=hL.at aA;have HQ:Hi _:=hq;have hx:q.getD done.length 0=x:=by simp[hq]
  have G6:=Dp hM.inn aA;rw[hx]at G6;have rS:=(hL.rch x (by simp[hq])).lt HW hi;obtain⟨b,o,ka,kc,rfl,nc,kl,km,(KS:Hi _)⟩:=HS x rS;obtain⟨n1,n2,n3,n4⟩:=nc.below hM.bel;have aN:(done.length:Int)<q.length:=O;have RZ:(x:Int)<s.length:=O;clear hL hM hq hx nc;by_cases ho:(nd s x).opn
  ·go_wp2_with fail;refine(ag1 _ ka kc _ ho).mono ?_;rintro e w2 ⟨rfl,hb2⟩;have jH:Hi _:=HM.below (dj hb2);have cJ:Hi (w2.heap[wr.heap.size]? =U (C #[I J (nd s x).kind,I J (nd s x).tag,I J (nd s x).mode,S ka (nd s x).kids.length kc] 58 (0,0))):=bc (bl wr _) hb2;have mN:Hi _:=HL.mid HQ;obtain⟨gn,sF⟩:∃gn,gn=wr.heap.size:=Ez;rw[<-sF]at cJ;clear hb2 G6 n1 n2 n3 n4;go_wp2;rw[<-sF];clear sF;go_loopw [6,7,11] (fun SG DB vj wx=>∃q' xS xQ zM j,SG=S (U (D xS 0 Z)) q'.length xQ/\DB=Bo zM/\vj=I J (j:Nat)/\j<=(nd s x).kids.length/\uh s i done x j q' zM/\si s w wx i done q' xS xQ u8/\Hi (wx.heap[gn]? =U (C #[I J (nd s x).kind,I J (nd s x).tag,I J (nd s x).mode,S ka (nd s x).kids.length kc] 58 (0,0)))) (fun _ _ vj _=>(nd s x).kids.length-(Io vj).toNat);(case atStart=>exact⟨q,gi,ci,bk,0,X,X,X,Lz,mN,jH,cJ⟩);clear mN jH cJ;obtain⟨q',xS,xQ,zM,j,rfl,rfl,rfl,hj,tX,zU,HG⟩:=hrel;have ajX:=tX.len HW hi;(have g3:wr.cell? (D gn 3 Z)=U (S ka (nd s x).kids.length kc):=by simp[Wc,HG.out]);have mN:Hi _:=tX;have jH:Hi _:=zU;(have dK:(nd s x).kids.length<=9223372036854775807:=by unfold maxLen at km;omega);by_cases eC:j<(nd s x).kids.length
   ·obtain⟨kb,ko,rfl,aX⟩:=KS j eC;have sG:=HW x rS ((nd s x).kids.getD j fy) (by rw[dy,dz eC];exact me eC);obtain⟨t,ht⟩:∃t:Nat,((nd s x).kids.getD j fy).node=t:=⟨_,(vh sG.1).symm⟩;have kn:=(aX.below zU.bel).node;rw[ht]at kn sG;have HT:Hi _:=ht;have oO:(j:Int)<(nd s x).kids.length:=O;clear tX zU aX ht sG;obtain⟨xP,yC⟩:∃b2,b2=(zM||decide ((t:Int)=i)):=Ez;have jE:Hi _:=yC;have gP:(zM=true/\xP=true)\/(zM=false/\((t:Int)==i)=xP):=by
     cases zM;(·right;exact⟨X,by rw[yC,Ed,Ao];simp⟩);left;exact⟨X,by rw[yC];simp⟩
    clear yC;rcases gP with⟨rfl,rfl⟩|⟨rfl,MV⟩
    ·go_wp2;go_loop [13,14] (fun f m=>∃p:Nat,p<=q'.length/\m=I J p/\Sb (t∉q'.take p) f) (fun _ m=>q'.length-(Io m).toNat);(case atStart=>exact⟨0,Lz,X,true,X,Sq⟩);obtain⟨p,hp,rfl,fb,rfl,(HP:Hi _)⟩:=hrel;by_cases rM:p<q'.length
     ·have cp:=Dp jH.inn rM;have RJ:(p:Int)<q'.length:=O;cases fb;(·go_wp2;go_round;(case rel=>exact⟨p+1,O,Gn,false,X,by have h:=HP.out;rw[Dk rM];refine⟨fun h=>(by cases h),fun h'=>?_⟩;exact h.2 (fun q=>h' (.inl q))⟩);exact Ms);by_cases rN:q'.getD p 0=t;(·have BR:Hi _:=rN;rw[rN]at cp;clear rN;go_wp2;go_round;(case rel=>exact⟨p+1,O,Gn,false,X,by rw[Dk rM];exact⟨fun h=>(by cases h),fun h'=>Ab (.inr BR) h'⟩⟩);exact Ms);have BR:Hi _:=rN;generalize q'.getD p 0=y at cp rN;(have e1:((y:Int)!=(t:Int))=true:=by rw[ln];omega);clear rN;go_wp2;go_round;(case rel=>exact⟨p+1,O,Gn,true,X,by rw[Dk rM];exact⟨fun _ h=>h.elim (HP.1 X) BR,fun _=>rfl⟩⟩);exact Ms
     have RJ:(q'.length:Int)<=p:=O;obtain rfl:p=q'.length:=O;rw[we]at HP;cases fb;(·(have hm:=zg fun h=>by have:=HP.2 h;cases this);have oX:Hi _:=jE▸mN.step_old HT hm;clear hm;go_wp2;go_roundw;(case rel=>exact⟨q',xS,xQ,true,j+1,X,X,Gn,O,oX,jH,HG⟩);exact Ms);have hm:=HP.1 X;have oX:Hi _:=jE▸mN.step_new HT eC ho hm;(have bX:w.heap.size<=wr.heap.size+1:=by have:=jH.out.bel.size;omega);clear hm;go_wp2_with (at_builtin;refine wpList_append_lies _ X (.tmp 75) (.tmp 77) 32 X w.heap.size 3 i0 (I J 0) 1 8 underlying32 dO cU dA bL X Dc (S (U (D xS 0 Z)) q'.length xQ) q'.length (jg q') X (jH.inn.alloc _) (D wr.heap.size 0 Z) 1 1 [I J (t:Int)] X X (cell_one_new _ _ _) (by intro u hu;simp at hu;subst hu;rfl) Dc (by unfold maxLen;omega) O (by simpa using bX) (wr.heap.size+1) Sq ?_);intro g cap w3 h1 h2 h3 h4;have rY:Hi _:=jH.push h1 h2 h3;have gQ:Hi _:=jH.beside Dc HG h2;clear h1 h2 h3 h4;go_wp2;go_roundw;(case rel=>exact⟨q'++[t],g,cap,true,j+1,Sq,X,Gn,O,oX,rY,gQ⟩);exact Ms
    go_wp2;go_loop [13,14] (fun f m=>∃p:Nat,p<=q'.length/\m=I J p/\Sb (t∉q'.take p) f) (fun _ m=>q'.length-(Io m).toNat);(case atStart=>exact⟨0,Lz,X,true,X,Sq⟩);obtain⟨p,hp,rfl,fb,rfl,(HP:Hi _)⟩:=hrel;by_cases rM:p<q'.length
    ·have cp:=Dp jH.inn rM;have RJ:(p:Int)<q'.length:=O;cases fb;(·go_wp2;go_round;(case rel=>exact⟨p+1,O,Gn,false,X,by have h:=HP.out;rw[Dk rM];refine⟨fun h=>(by cases h),fun h'=>?_⟩;exact h.2 (fun q=>h' (.inl q))⟩);exact Ms);by_cases rN:q'.getD p 0=t;(·have BR:Hi _:=rN;rw[rN]at cp;clear rN;go_wp2;go_round;(case rel=>exact⟨p+1,O,Gn,false,X,by rw[Dk rM];exact⟨fun h=>(by cases h),fun h'=>Ab (.inr BR) h'⟩⟩);exact Ms);have BR:Hi _:=rN;generalize q'.getD p 0=y at cp rN;(have e1:((y:Int)!=(t:Int))=true:=by rw[ln];omega);clear rN;go_wp2;go_round;(case rel=>exact⟨p+1,O,Gn,true,X,by rw[Dk rM];exact⟨fun _ h=>h.elim (HP.1 X) BR,fun _=>rfl⟩⟩);exact Ms
    have RJ:(q'.length:Int)<=p:=O;obtain rfl:p=q'.length:=O;rw[we]at HP;cases fb;(·(have hm:=zg fun h=>by have:=HP.2 h;cases this);have oX:Hi _:=jE▸mN.step_old HT hm;clear hm;go_wp2;go_roundw;(case rel=>exact⟨q',xS,xQ,xP,j+1,X,X,Gn,O,oX,jH,HG⟩);exact Ms);have hm:=HP.1 X;have oX:Hi _:=jE▸mN.step_new HT eC ho hm;(have bX:w.heap.size<=wr.heap.size+1:=by have:=jH.out.bel.size;omega);clear hm;go_wp2_with (at_builtin;refine wpList_append_lies _ X (.tmp 75) (.tmp 77) 32 X w.heap.size 3 i0 (I J 0) 1 8 underlying32 dO cU dA bL X Dc (S (U (D xS 0 Z)) q'.length xQ) q'.length (jg q') X (jH.inn.alloc _) (D wr.heap.size 0 Z) 1 1 [I J (t:Int)] X X (cell_one_new _ _ _) (by intro u hu;simp at hu;subst hu;rfl) Dc (by unfold maxLen;omega) O (by simpa using bX) (wr.heap.size+1) Sq ?_);intro g cap w3 h1 h2 h3 h4;have rY:Hi _:=jH.push h1 h2 h3;have gQ:Hi _:=jH.beside Dc HG h2;clear h1 h2 h3 h4;go_wp2;go_roundw;(case rel=>exact⟨q'++[t],g,cap,xP,j+1,Sq,X,Gn,O,oX,rY,gQ⟩);exact Ms
   have oO:((nd s x).kids.length:Int)<=j:=O;obtain rfl:j=(nd s x).kids.length:=O;have N7:Hi _:=tX.finish ho;have DH:Hi (si s w wr i (done++[x]) q' xS xQ u8):=⟨zU.inn,by rw[Xu ho];exact zU.out,zU.ap,zU.bel⟩;clear tX zU;go_wp2;go_roundw;(case rel=>exact⟨done++[x],q',xS,xQ,zM,X,X,Sq,N7,DH⟩);exact Ms
  go_wp2_with fail;refine(agU _ ka kc _ ho).mono ?_;rintro e w2 ⟨rfl,hb2⟩;have jH:Hi _:=HM.below (dj hb2);have ajJ:w2.cell? (D gi done.length Z)=U (I J (x:Int)):=((dj hb2).cell (bp G6)).trans G6;have hol:(jx s done).length<=40:=by have:=Jz s done;omega
  have bX:w.heap.size<=w2.heap.size+1:=by have:=jH.out.bel.size;omega
  clear hb2 G6 n1 n2 n3 n4;go_wp2_with (at_builtin;refine wpList_append_lies _ X (.tmp 33) (.tmp 38) 32 X w.heap.size 3 i0 (I J 0) 1 8 underlying32 dO cU dA bL X Dc u8 (jx s done).length (jg (jx s done)) X (jH.out.out.alloc _) (D w2.heap.size 0 Z) 1 1 [I J (x:Int)] X X (cell_one_new _ _ _) (by intro u hu;simp at hu;subst hu;rfl) Dc (by unfold maxLen;omega) O (by simpa using bX) (w2.heap.size+1) Sq ?_);intro g cap w3 h1 h2 h3 h4;have rY:Hi _:=jH.put ho h1 h2 h3;clear h1 h2 h3 h4;go_wp2;go_roundw;case rel=>exact⟨done++[x],q,gi,ci,bk,X,X,Sq,HL.leaf HQ ho,rY⟩
  exact Ms
 obtain rfl:done=q:=hL.done_eq O;have aN:(done.length:Int)<=done.length:=Rh _;clear hL hM;go_wp2;go_ret2;exact⟨u8,jx s done,bk,X,HM.out.out,HM.out.bel,fw (Jz s done) bP,HL.out.leaves,HL.out.backs⟩
def Nd.opn1(n:Nd):Prop:=n.kind=13/\n.tag= -1
def fx(n:Nd):Prop:= -1<=n.tag/\n.tag<=30/\(n.tag= -1->n.mode=0)/\(0<=n.tag->(n.kind=13\/n.kind=14)->n.mode=1)/\(0<=n.tag->n.kind≠13->n.kind≠14->n.mode=0\/n.mode=1)
theorem afJ(n:Nd)(ka:Oo Ad)(kc:Nat)(w:M):Cs prog 139 #[Ag #[I J n.kind,I J n.tag,I J n.mode,S ka n.kids.length kc]] w fun e w'=>dw n.opn1 w e w':=by
 by_cases h1:n.kind=13
 ·have iH:(n.kind==13)=true:=by simp[h1]
  by_cases h2:n.tag= -1;·have HP:Hi n.opn1:=⟨h1,h2⟩;(have kG:(n.tag== -1)=true:=by simp[h2]);clear h1 h2;go_enter func139,ntmps139;go_wp2;go_ret;exact ia HP Be
  have HP:Hi (¬n.opn1):=fun h=>h2 h.2;have kG:(n.tag== -1)=false:=by simp[h2]
  clear h1 h2;go_enter func139,ntmps139;go_wp2;go_ret;exact cg HP Be
 have iH:(n.kind==13)=false:=by simp[h1]
 have HP:Hi (¬n.opn1):=fun h=>h1 h.1;clear h1;go_enter func139,ntmps139;go_wp2;go_ret;exact cg HP Be
theorem Xc(k:Kd)(w:M):Cs prog 94 #[Ag #[I J k.node,Bo k.opt,Y k.dflt]] w fun e w'=>dw (¬k.must) w e w':=by
 cases h:k.opt with
 |true=>
  have HP:Hi (¬k.must):=fun q=>by have:=q.1;rw[h]at this;cases this
  clear h
  go_enter func94,ntmps94
  go_wp2
  go_ret
  exact ia HP Be
 |false=>
  have HO:Hi _:=h
  clear h
  by_cases h2:k.dflt.size=0
  ·have e:=jr h2
   have HP:Hi (¬¬k.must):=fun q=>q ⟨HO,h2⟩
   clear h2
   go_enter func94,ntmps94
   go_wp2
   go_ret
   exact cg HP Be
  ·have e:=gw (t:=k.dflt) O
   have HP:Hi (¬k.must):=fun q=>h2 q.2
   clear h2
   go_enter func94,ntmps94
   go_wp2
   go_ret
   exact ia HP Be
theorem afN(n:Nd)(ka:Oo Ad)(kc:Nat)(w:M):Cs prog 92 #[Ag #[I J n.kind,I J n.tag,I J n.mode,S ka n.kids.length kc]] w fun e w'=>dw (fx n) w e w':=by
 by_cases h1:n.tag< -1;·(have HP:Hi (¬fx n):=by show¬fx n;unfold fx;omega);go_enter func92,ntmps92;go_wp2;go_ret;exact cg HP Be
 have iH: -1<=n.tag:=O;clear h1;by_cases h2:30<n.tag;·(have HP:Hi (¬fx n):=by show¬fx n;unfold fx;omega);go_enter func92,ntmps92;go_wp2;go_ret;exact cg HP Be
 have kG:n.tag<=30:=O;clear h2;by_cases h3:n.tag= -1
 ·have e3:(n.tag== -1)=true:=by simp[h3]
  by_cases h4:n.mode=0;·(have e4:(n.mode==0)=true:=by simp[h4]);(have HP:Hi (fx n):=by show fx n;unfold fx;omega);clear h3 h4 iH kG;(have iH: -1<=n.tag:=by have:=HP.out.1;omega);(have kG:n.tag<=30:=by have:=HP.out.2.1;omega);go_enter func92,ntmps92;go_wp2;go_ret;exact ia HP Be
  have e4:(n.mode==0)=false:=by simp[h4]
  have HP:Hi (¬fx n):=by show¬fx n;unfold fx;omega
  clear h3 h4;go_enter func92,ntmps92;go_wp2;go_ret;exact cg HP Be
 have e3:(n.tag== -1)=false:=by simp[h3]
 have DZ:0<=n.tag:=O;clear h3;have hk:(n.kind=13/\(n.kind==13)=true)\/(n.kind=14/\(n.kind==13)=false/\(n.kind==14)=true)\/(n.kind≠13/\n.kind≠14/\(n.kind==13)=false/\(n.kind==14)=false):=by
  by_cases a:n.kind=13;·exact .inl ⟨a,by simp[a]⟩
  by_cases b:n.kind=14;·exact .inr (.inl ⟨b,by simp[b],by simp[b]⟩)
  exact .inr (.inr ⟨a,b,by simp[a],by simp[b]⟩)
 have hm:(n.mode=0/\(n.mode==0)=true/\(n.mode==1)=false)\/(n.mode=1/\(n.mode==0)=false/\(n.mode==1)=true)\/(n.mode≠0/\n.mode≠1/\(n.mode==0)=false/\(n.mode==1)=false):=by
  by_cases a:n.mode=0;·exact .inl ⟨a,by simp[a],by simp[a]⟩
  by_cases b:n.mode=1;·exact .inr (.inl ⟨b,by simp[b],by simp[b]⟩)
  exact .inr (.inr ⟨a,b,by simp[a],by simp[b]⟩)
 rcases hk with⟨k0,k1⟩|⟨k0,k1,k2⟩|⟨k0,k3,k1,k2⟩
 ·rcases hm with⟨m0,m1,m2⟩|⟨m0,m1,m2⟩|⟨m0,m3,m1,m2⟩;·(have HP:Hi (¬fx n):=by show¬fx n;unfold fx;omega);clear k0 m0;go_enter func92,ntmps92;go_wp2;go_ret;exact cg HP Be
  ·(have HP:Hi (fx n):=by show fx n;unfold fx;omega);clear k0 m0;go_enter func92,ntmps92;go_wp2;go_ret;exact ia HP Be
  have HP:Hi (¬fx n):=by show¬fx n;unfold fx;omega
  clear k0 m0 m3;go_enter func92,ntmps92;go_wp2;go_ret;exact cg HP Be
 ·rcases hm with⟨m0,m1,m2⟩|⟨m0,m1,m2⟩|⟨m0,m3,m1,m2⟩;·(have HP:Hi (¬fx n):=by show¬fx n;unfold fx;omega);clear k0 m0;go_enter func92,ntmps92;go_wp2;go_ret;exact cg HP Be
  ·(have HP:Hi (fx n):=by show fx n;unfold fx;omega);clear k0 m0;go_enter func92,ntmps92;go_wp2;go_ret;exact ia HP Be
  have HP:Hi (¬fx n):=by show¬fx n;unfold fx;omega
  clear k0 m0 m3;go_enter func92,ntmps92;go_wp2;go_ret;exact cg HP Be
 rcases hm with⟨m0,m1,m2⟩|⟨m0,m1,m2⟩|⟨m0,m3,m1,m2⟩;·(have HP:Hi (fx n):=by show fx n;unfold fx;omega);clear k0 m0 k3;go_enter func92,ntmps92;go_wp2;go_ret;exact ia HP Be
 ·have HP:Hi (fx n):=by show fx n;unfold fx;omega
  clear k0 m0 k3;go_enter func92,ntmps92;go_wp2;go_ret;exact ia HP Be
 have HP:Hi (¬fx n):=by show¬fx n;unfold fx;omega
 clear k0 m0 k3 m3;go_enter func92,ntmps92;go_wp2;go_ret;exact cg HP Be
def qi(k:Int):Int×Int:=if k=10 then(0,8)else if k=11\/k=12 then(1,1)else if k=13 then(1,8)else(0,0)
theorem afY(k:Int)(w:M):Cs prog 93 #[I J k] w fun e w'=>e=Rt (Tu #[I J (qi k).1,I J (qi k).2])/\Bw w w':=by
 by_cases bG:k=10;·subst bG;(have e:qi 10=(0,8):=by unfold qi;rfl);rw[e];clear e;go_enter func93,ntmps93;go_wp2;go_ret2;exact⟨X,By⟩
 have G8:(k==10)=false:=by simp[bG]
 by_cases fZ:k=11;·subst fZ;(have e:qi 11=(1,1):=by unfold qi;rfl);rw[e];clear e;go_enter func93,ntmps93;go_wp2;go_ret2;exact⟨X,By⟩
 have DV:(k==11)=false:=by simp[fZ]
 by_cases fC:k=12;·subst fC;(have e:qi 12=(1,1):=by unfold qi;rfl);rw[e];clear e;go_enter func93,ntmps93;go_wp2;go_ret2;exact⟨X,By⟩
 have DW:(k==12)=false:=by simp[fC]
 by_cases bU:k=13;·subst bU;(have e:qi 13=(1,8):=by unfold qi;rfl);rw[e];clear e;go_enter func93,ntmps93;go_wp2;go_ret2;exact⟨X,By⟩
 have LG:(k==13)=false:=by simp[bU]
 have e:qi k=(0,0):=by unfold qi;rw[G bG,G O,G bU]
 rw[e];clear e bG fZ fC bU;go_enter func93,ntmps93;go_wp2;go_ret2;exact⟨X,By⟩
def Cw(s:Ls Nd):Prop:=∀j,j<s.length-> -1<=(nd s j).tag
theorem ag2{n:Nd}(h: -1<=n.tag):n.opn1↔n.opn:=by unfold Nd.opn1 Nd.opn;omega
structure ng(s:Ls Nd)(w wr:M)(V A au:Ls Nat)(va lO:Vv)(gs:Nat):Prop where
 inn:wr.ownsRow w.heap.size 3 1 va A.length (jg A)
 out:wr.ownsRow w.heap.size 3 1 lO (jx s V).length (jg (jx s V))
 ap:va.ownBlock=Z\/lO.ownBlock=Z\/lO.ownBlock≠va.ownBlock
 bel:Bw w wr
 glo:w.heap.size<=gs
 see:∃ae:Array Vv,wr.heap[gs]? =U (C ae 232 (0,0))/\∀j,j<40->ae[j]? =U (Bo (decide (j∈au)))
def Mc(s:Ls Nd)(i:Nat)(w:M)(e:Ending)(w':M):Prop:=
 ∃(v:Vv) (l:Ls Nat) (bk:Bool),e=Rt (Tu #[v,Bo bk])/\w'.ownsRow w.heap.size 3 1 v l.length (jg l)/\Bw w w'/\l.length<=s.length+1/\(∀j,j∈l↔mz s i j)/\(bk=true↔se s i)
theorem ahi{ca:Nat}{A:Ls Nat}(h:w.ownsRow base 3 1 (S (U (D g 0 Z)) (A++[x]).length ca) (A++[x]).length (jg (A++[x]))):w.ownsRow base 3 1 (S (U (D g 0 Z)) A.length ca) A.length (jg A):=by
 obtain⟨h1,h2⟩:=h;refine⟨by simp[jg],?_⟩;rcases h2 with⟨h2,_⟩|⟨g',cap,aB,hv,h3,h4,h5,h6,h7,h8⟩;·cases h2
 refine .inr ⟨g',cap,aB,?_,h3,h4,?_,h6,h7,?_⟩;·injection hv with a b d;rw[a,d]
 ·simp at h5;omega
 have e:aB.toList.take A.length=(aB.toList.take (A.length+1)).take A.length:=by rw[Lr];congr 1;omega
 simp only[Es,ff,List.length_singleton]at h8 ⊢;rw[e,h8,Fv,aaC (by simp[jg]),ye (by simp[jg])]
theorem ng.below{A:Ls Nat}(h:ng s w wr V A au va lO gs)(hb:Bw wr w'):ng s w w' V A au va lO gs where
 inn:=fm h.inn hb
 out:=fm h.out hb
 ap:=h.ap
 bel:=Tm h.bel hb
 glo:=h.glo
 see:=by obtain⟨ae,h1,h2⟩:=h.see;exact⟨ae,bc h1 hb,h2⟩
theorem Aa{row:Oo Nat}(hg:w.heap[k]? =U (C A T (0,0)))(aI:row≠U k)(h2:(w.alloc o).grownBy w' row):w'.heap[k]? =U (C A T (0,0)):=by
 have aA:k<w.heap.size:=by
  rcases ny k w.heap.size with h'|h';·exact h'
  rw[lu h']at hg;cases hg
 rw[h2.block k So (fun e=>aI e.symm),nr w o _ aA,hg]
theorem jb(hg:w.heap[R]? =U (C A T (0,0)))(h:w.ownsRow base e size v n xs)(hT:T≠e):v.ownBlock≠U R:=by
 intro hv;rcases h.2 with⟨h',_⟩|⟨g,cap,aB,h',_,dY,_⟩;·subst h';cases hv
 subst h';obtain rfl:g=R:=by simpa [Value.ownBlock]using hv
 rw[hg]at dY;injection dY with dY;injection dY with _ e _;exact hT e
theorem ng.put{A:Ls Nat}(h:ng s w wr V A au va lO gs)(ho:¬(nd s x).opn)(h1:w'.ownsRow w.heap.size 3 1 (S (U (D g 0 Z)) ((jx s V).length+1) cap) ((jx s V).length+1) (jg (jx s V)++[I J (x:Int)]))(h2:(wr.alloc o).grownBy w' lO.ownBlock)(h3:lO.ownBlock=U g\/g=wr.heap.size+1):ng s w w' (V++[x]) A au va (S (U (D g 0 Z)) ((jx s V).length+1) cap) gs:=by
 have hb:=h.bel.alloc h.bel.size o
 exact {
  inn:=by
   refine(h.inn.alloc o).kept h2 ?_
   rcases h.ap with q|q|q
   ·exact .inl q
   ·rw[q]
    by_cases e:va.ownBlock=Z
    ·exact .inl e
    ·exact .inr e
   ·exact .inr (fun e=>q e.symm)
  out:=by rw[Xt ho,Fv,ff];exact h1
  ap:=by
   by_cases e:va.ownBlock=Z
   ·exact .inl e
   ·refine .inr (.inr (fun e'=>?_))
    have G7:va.ownBlock=U g:=by rw[<-e'];rfl
    rcases h3 with h3|h3
    ·rcases h.ap with q|q|q
     ·exact e q
     ·rw[h3]at q;cases q
     ·exact q (by rw[h3,G7])
    ·have:=(h.inn.lt g G7).2;omega
  bel:=hb.grown h2 hb.size (fun k hk=>(h.out.lt k hk).1)
  glo:=h.glo
  see:=by
   obtain⟨ae,q1,q2⟩:=h.see
   exact⟨ae,Aa q1 (jb q1 h.out Dc) h2,q2⟩}
theorem ng.push{A:Ls Nat}(h:ng s w wr V A au va lO gs)(h1:w'.ownsRow w.heap.size 3 1 (S (U (D g 0 Z)) (A.length+1) cap) (A.length+1) (jg A++[I J (t:Int)]))(h2:(wr.alloc o).grownBy w' va.ownBlock)(h3:va.ownBlock=U g\/g=wr.heap.size+1):ng s w w' V (A++[t]) au (S (U (D g 0 Z)) (A.length+1) cap) lO gs:=by
 have hb:=h.bel.alloc h.bel.size o
 exact {
  inn:=by rw[Fv,ff];exact h1
  out:=by
   refine(h.out.alloc o).kept h2 ?_
   rcases h.ap with q|q|q
   ·rw[q]
    by_cases e:lO.ownBlock=Z
    ·exact .inl e
    ·exact .inr e
   ·exact .inl q
   ·exact .inr q
  ap:=by
   by_cases e:lO.ownBlock=Z
   ·exact .inr (.inl e)
   ·refine .inr (.inr (fun e'=>?_))
    have G7:lO.ownBlock=U g:=by rw[e'];rfl
    rcases h3 with h3|h3
    ·rcases h.ap with q|q|q
     ·rw[h3]at q;cases q
     ·exact e q
     ·exact q (by rw[h3,G7])
    ·have:=(h.out.lt g G7).2;omega
  bel:=hb.grown h2 hb.size (fun k hk=>(h.inn.lt k hk).1)
  glo:=h.glo
  see:=by
   obtain⟨ae,q1,q2⟩:=h.see
   exact⟨ae,Aa q1 (jb q1 h.inn Dc) h2,q2⟩}
theorem ng.mark{A:Ls Nat}(h:ng s w wr V A au va lO gs)(ht:t<40):ng s w (wr.setCell (D gs t Z) (Bo true)) V A (au++[t]) va lO gs:=by
 obtain⟨ae,q1,q2⟩:=h.see
 exact {
  inn:=dk h.inn (jb q1 h.inn Dc) _
  out:=dk h.out (jb q1 h.out Dc) _
  ap:=h.ap
  bel:=h.bel.setCell h.glo _
  glo:=h.glo
  see:=⟨ae.setIfInBounds t (Bo true),iw wr gs t ae _ _ q1,fun j hj=>by
   have bX:t<ae.size:=by
    have:=q2 t ht
    rcases ny t ae.size with h'|h'
    ·exact h'
    ·rw[lu h']at this;cases this
   rw[uG]
   by_cases e:t=j
   ·subst e;rw[ba X,ba bX];simp
   ·rw[G e,q2 j hj];congr 2;simp;omega⟩}
theorem Yq(s:Ls Nd)(a:Oo Ad)(c i:Nat)(w:M)(hs:ew w a s)(hw:qg s)(fX:Cw s)(hi:i<s.length)(hn:s.length<=40):Cs prog 96 #[S a s.length c,I J i] w fun e w'=>Mc s i w e w':=by
 have HS:Hi _:=hs;have HW:Hi _:=hw;have DN:Hi (Cw s):=fX;clear hs hw fX;obtain⟨i0,dO,cU,dA,bL⟩:=mh Sk;go_enter func96,ntmps96;go_wp2;go_loopg [4,5,7] 41 (fun gk lO DB va wr=>∃V A au bk aa ca,va=S aa A.length ca/\(0<A.length->∃g,aa=U (D g 0 Z))/\DB=Bo bk/\gk+V.length=41/\Re s i V A au bk/\ng s w wr V A au va lO w.heap.size)
 case atStart=>
  refine⟨[],[i],[],false,_,1,X,fun _=>⟨w.heap.size+1,X⟩,X,X,Re.start s i,?_⟩;exact⟨⟨X,.inr ⟨w.heap.size+1,1,_,X,O,by simpa using bl (w.alloc _) _,Ln,Dc,X,X⟩⟩,nz _ _ _ _,.inr (.inl X),(Be).alloc Sq _,Ln,_,bc (bl w _) Be,fun j hj=>by
   match j,hj with
   |0,_|1,_|2,_|3,_|4,_|5,_|6,_|7,_|8,_|9,_|10,_|11,_|12,_|13,_|14,_|15,_|16,_|17,_|18,_|19,_|20,_|21,_|22,_|23,_|24,_|25,_|26,_|27,_|28,_|29,_|30,_|31,_|32,_|33,_|34,_|35,_|36,_|37,_|38,_|39,_=>rfl
   |n+40,h=>exact Ab h O⟩
 obtain⟨V,A,au,bk,aa,ca,rfl,zY,rfl,I5,hL,hM⟩:=hrel;have bP:=hL.len;have HL:Hi _:=hL;have HM:Hi _:=hM;rcases List.eq_nil_or_concat A with rfl|⟨A',x,hA⟩;·clear hL hM;go_wp2;go_ret2;exact⟨u4,jx s V,bk,X,HM.out.out,HM.out.bel,fw (Jz s V) (by simp at bP;omega),HL.out.leaves,HL.out.backs⟩
 have PO:A=A'++[x]:=by rw[hA];simp
 subst PO;clear hA;have EM:(A'++[x]).length=A'.length+1:=Sq;obtain⟨g,rfl⟩:=zY O;have cx:wr.cell? (D g A'.length Z)=U (I J (x:Int)):=by have:=Dp (j:=A'.length) hM.inn O;rw[this];congr 3;simp
 have DH:Hi (ng s w wr V A' au (S (U (D g 0 Z)) A'.length ca) u4 w.heap.size):=⟨ahi hM.inn,hM.out,hM.ap,hM.bel,hM.glo,hM.see⟩;have rS:=(hL.rch x Sq).lt HW hi;obtain⟨b,o,ka,kc,rfl,nc,kl,km,ks⟩:=HS x rS;obtain⟨n1,n2,n3,n4⟩:=nc.below hM.bel;have KS:Hi _:=ks;have RZ:(x:Int)<s.length:=O;have hmc:A'.length+1<=ca/\ca<=maxLen:=by
  rcases hM.inn.2 with⟨q,_⟩|⟨g',cap,aB,hv,_,_,q1,q2,_⟩;·cases q
  injection hv with _ _ e;subst e;exact⟨O,q2⟩
 have aj0:A'.length<=40:=O;have HO:Hi (∀wr,Cs prog 139 #[Ag #[I J (nd s x).kind,I J (nd s x).tag,I J (nd s x).mode,S ka (nd s x).kids.length kc]] wr fun e w'=>dw (nd s x).opn wr e w'):=fun wr=>by have:=afJ (nd s x) ka kc wr;refine this.mono fun e w' q=>?_;obtain⟨r,h1,h2,h3⟩:=q;exact⟨r,h1,h2.trans (ag2 (DN x rS)),h3⟩
 have hV:V.length+A'.length<=s.length:=O;clear hL hM EM ks nc zY;go_wp2_with fail;refine(HO _).mono ?_;by_cases ho:(nd s x).opn
 ·intro e w2 hq;obtain⟨rfl,hb2⟩:=hq.yes ho;have jH:Hi _:=DH.below hb2;have mN:Hi _:=HL.out.mid;have e4:w2.cell? (D b (o+x*4+3) Z)=U (S ka (nd s x).kids.length kc):=Cb hb2 n4;have dK:(nd s x).kids.length<=9223372036854775807:=by unfold maxLen at km;omega
  clear hq hb2 cx n1 n2 n3 n4;go_wp2;go_loopw [5,7,43] (fun DB va vj wx=>∃A1 S1 zN pP qX j,va=S pP A1.length qX/\(0<A1.length->∃g,pP=U (D g 0 Z))/\DB=Bo zN/\vj=I J (j:Nat)/\j<=(nd s x).kids.length/\ui s i V x j A1 S1 zN/\ng s w wx V A1 S1 (S pP A1.length qX) u4 w.heap.size) (fun _ _ vj _=>(nd s x).kids.length-(Io vj).toNat);case atStart=>exact⟨A',au,bk,_,ca,0,X,fun _=>⟨g,X⟩,X,X,Lz,mN,jH⟩
  clear mN jH e4;obtain⟨A1,S1,zN,pP,qX,j,rfl,P9,rfl,rfl,hj,tX,rE⟩:=hrel;have NA:Hi _:=P9;have mN:Hi _:=tX;have rY:Hi _:=rE;have ajY:=tX.len;have YT:w.heap.size<wr.heap.size:=by
   obtain⟨ae,q1,_⟩:=rE.see;rcases ny w.heap.size wr.heap.size with h'|h';(·exact h');rw[lu h']at q1;cases q1
  have cS:∀t,t<40->wr.cell? (D w.heap.size t Z)=U (Bo (decide (t∈S1))):=fun t ht=>by obtain⟨ae,q1,q2⟩:=rE.see;simp only[Wc,q1];exact q2 t ht
  have fS:∀t,wr.frozen? (D w.heap.size t Z)=false:=fun t=>by obtain⟨ae,q1,q2⟩:=rE.see;simp[Wf,q1]
  by_cases eC:j<(nd s x).kids.length
  ·obtain⟨kb,ko,rfl,aX⟩:=KS j eC;have sG:=HW x rS ((nd s x).kids.getD j fy) (by rw[dy,dz eC];exact me eC);obtain⟨t,ht⟩:∃t:Nat,((nd s x).kids.getD j fy).node=t:=⟨_,(vh sG.1).symm⟩;obtain⟨k1,k2,k3⟩:=aX.below rE.bel;have HT:Hi _:=ht;rw[ht]at k1 sG;obtain⟨bo,WS⟩:∃v,((nd s x).kids.getD j fy).opt=v:=Ey;obtain⟨bd,fT⟩:∃v,((nd s x).kids.getD j fy).dflt=v:=Ey;rw[WS]at k2;rw[fT]at k3;have bC:t<s.length:=O;have RS:t<40:=O;have aj6:(t:Int)<40:=O;have oO:(j:Int)<(nd s x).kids.length:=O;have ft:=fS t;have cs:=cS t RS;obtain⟨xP,yC⟩:∃b2,b2=(zN||decide ((t:Int)=i)):=Ez;have jE:Hi _:=yC;have gP:(zN=true/\xP=true)\/(zN=false/\((t:Int)==i)=xP):=by
    cases zN;(·right;exact⟨X,by rw[yC,Ed,Ao];simp⟩);left;exact⟨X,by rw[yC];simp⟩
   clear yC tX rE aX ht sG WS fT fS cS P9;rcases gP with⟨rfl,rfl⟩|⟨rfl,MV⟩
   ·by_cases fK:t∈S1;(·have qV:Hi (t∈S1):=fK;rw[ch fK]at cs;clear fK;have oX:Hi _:=jE▸mN.step_old HT qV;have xE:Hi (∀o,ng s w (wr.alloc o) V A1 S1 (S pP A1.length qX) u4 w.heap.size):=fun o=>rY.below ((By).alloc Ln o);go_wp2;go_roundw;(case rel=>exact⟨A1,S1,true,pP,qX,j+1,X,NA,X,Gn,O,oX,xE _⟩);exact Ms);have qV:Hi (t∉S1):=fK;rw[br fK]at cs;clear fK;have oX:Hi _:=jE▸mN.step_new HT eC ho bC qV;have xE:Hi (∀o,ng s w ((wr.setCell (D w.heap.size t Z) (Bo true)).alloc o) V A1 (S1++[t]) (S pP A1.length qX) u4 w.heap.size):=fun o=>(rY.mark RS).below ((By).alloc Ln o);have RR:w.heap.size<=wr.heap.size+2:=O;(have OY:Hi (∀(j:Nat) (u:Vv),[Value.int J (t:Int)][j]? =U u->(((wr.setCell (D w.heap.size t Z) (Bo true)).alloc (C #[I J (t:Int),Bo bo,Y bd] 55)).alloc (C #[I J (t:Int)] 3)).cell? (((D (wr.heap.size+1) 0 Z):Ad).add j)=U u):=by have q:=cell_one_new ((wr.setCell (D w.heap.size t Z) (Bo true)).alloc (C #[I J (t:Int),Bo bo,Y bd] 55)) (I J (t:Int)) 3;rw[show((wr.setCell (D w.heap.size t Z) (Bo true)).alloc (C #[I J (t:Int),Bo bo,Y bd] 55)).heap.size=wr.heap.size+1 by simp]at q;exact q);go_wp2_with (at_builtin;refine wpList_append_lies _ X (.tmp 62) (.tmp 65) 32 X w.heap.size 3 i0 (I J 0) 1 8 underlying32 dO cU dA bL X Dc (S pP A1.length qX) A1.length (jg A1) X ((xE _).inn.alloc _) (D (wr.heap.size+1) 0 Z) 1 1 [I J (t:Int)] X X OY (by intro u hu;simp at hu;subst hu;rfl) Dc (by unfold maxLen;omega) O (by simpa using RR) (wr.heap.size+2) Sq ?_);intro g' cap w3 h1 h2 h3 h4;have N9:Hi (ng s w w3 V (A1++[t]) (S1++[t]) (S (U (D g' 0 Z)) (A1.length+1) cap) u4 w.heap.size):=(xE _).push h1 h2 (by simpa using h3);clear h1 h2 h3 h4;go_wp2;go_roundw;(case rel=>exact⟨A1++[t],S1++[t],true,_,cap,j+1,Sq,fun _=>⟨g',X⟩,X,Gn,O,oX.out,by simpa using N9.out⟩);exact Ms
   by_cases fK:t∈S1;(·have qV:Hi (t∈S1):=fK;rw[ch fK]at cs;clear fK;have oX:Hi _:=jE▸mN.step_old HT qV;have xE:Hi (∀o,ng s w (wr.alloc o) V A1 S1 (S pP A1.length qX) u4 w.heap.size):=fun o=>rY.below ((By).alloc Ln o);go_wp2;go_roundw;(case rel=>exact⟨A1,S1,xP,pP,qX,j+1,X,NA,X,Gn,O,oX,xE _⟩);exact Ms);have qV:Hi (t∉S1):=fK;rw[br fK]at cs;clear fK;have oX:Hi _:=jE▸mN.step_new HT eC ho bC qV;have xE:Hi (∀o,ng s w ((wr.setCell (D w.heap.size t Z) (Bo true)).alloc o) V A1 (S1++[t]) (S pP A1.length qX) u4 w.heap.size):=fun o=>(rY.mark RS).below ((By).alloc Ln o);have RR:w.heap.size<=wr.heap.size+2:=O;(have OY:Hi (∀(j:Nat) (u:Vv),[Value.int J (t:Int)][j]? =U u->(((wr.setCell (D w.heap.size t Z) (Bo true)).alloc (C #[I J (t:Int),Bo bo,Y bd] 55)).alloc (C #[I J (t:Int)] 3)).cell? (((D (wr.heap.size+1) 0 Z):Ad).add j)=U u):=by have q:=cell_one_new ((wr.setCell (D w.heap.size t Z) (Bo true)).alloc (C #[I J (t:Int),Bo bo,Y bd] 55)) (I J (t:Int)) 3;rw[show((wr.setCell (D w.heap.size t Z) (Bo true)).alloc (C #[I J (t:Int),Bo bo,Y bd] 55)).heap.size=wr.heap.size+1 by simp]at q;exact q);go_wp2_with (at_builtin;refine wpList_append_lies _ X (.tmp 62) (.tmp 65) 32 X w.heap.size 3 i0 (I J 0) 1 8 underlying32 dO cU dA bL X Dc (S pP A1.length qX) A1.length (jg A1) X ((xE _).inn.alloc _) (D (wr.heap.size+1) 0 Z) 1 1 [I J (t:Int)] X X OY (by intro u hu;simp at hu;subst hu;rfl) Dc (by unfold maxLen;omega) O (by simpa using RR) (wr.heap.size+2) Sq ?_);intro g' cap w3 h1 h2 h3 h4;have N9:Hi (ng s w w3 V (A1++[t]) (S1++[t]) (S (U (D g' 0 Z)) (A1.length+1) cap) u4 w.heap.size):=(xE _).push h1 h2 (by simpa using h3);clear h1 h2 h3 h4;go_wp2;go_roundw;(case rel=>exact⟨A1++[t],S1++[t],xP,_,cap,j+1,Sq,fun _=>⟨g',X⟩,X,Gn,O,oX.out,by simpa using N9.out⟩);exact Ms
  have oO:((nd s x).kids.length:Int)<=j:=O;obtain rfl:j=(nd s x).kids.length:=O;have N7:Hi _:=tX.finish ho;have DH:Hi (ng s w wr (V++[x]) A1 S1 (S pP A1.length qX) u4 w.heap.size):=⟨rE.inn,by rw[Xu ho];exact rE.out,rE.ap,rE.bel,rE.glo,rE.see⟩;clear tX rE cS fS P9;go_wp2;go_roundg (gk-1);case rel=>exact⟨V++[x],A1,S1,zN,pP,qX,X,NA,X,So,N7,DH⟩
  omega
 intro e w2 hq;obtain⟨rfl,hb2⟩:=hq.no ho;have jH:Hi _:=DH.below hb2;have hol:(jx s V).length<=41:=by have:=Jz s V;omega
 have aeL:w.heap.size<=w2.heap.size+1:=by have:=jH.out.bel.size;omega
 clear hq hb2 cx n1 n2 n3 n4;go_wp2_with (at_builtin;refine wpList_append_lies _ X (.tmp 33) (.tmp 35) 32 X w.heap.size 3 i0 (I J 0) 1 8 underlying32 dO cU dA bL X Dc u4 (jx s V).length (jg (jx s V)) X (jH.out.out.alloc _) (D w2.heap.size 0 Z) 1 1 [I J (x:Int)] X X (cell_one_new _ _ _) (by intro u hu;simp at hu;subst hu;rfl) Dc (by unfold maxLen;omega) O (by simpa using aeL) (w2.heap.size+1) Sq ?_);intro g' cap w3 h1 h2 h3 h4;have rY:Hi _:=jH.put ho h1 h2 h3;clear h1 h2 h3 h4;go_wp2;go_roundg (gk-1);case rel=>exact⟨V++[x],A',au,bk,_,ca,X,fun _=>⟨g,X⟩,X,So,HL.leaf ho,rY⟩
 omega
theorem Xw(k:Int)(h:0<=k)(h':k<=12)(w:M):Cs prog 142 #[I J k] w fun e w'=>e=Rt (I J (own k))/\Bw w w':=by
 obtain⟨n,rfl⟩:∃n:Nat,k=n:=⟨k.toNat,O⟩;have hn:n<=12:=O;clear h h'
 match n,hn with
 |0,_|1,_|2,_|3,_|4,_|5,_|6,_|7,_|8,_|9,_|10,_|11,_|12,_=>
  go_enter func142,ntmps142
  go_wp2
  go_ret
  exact⟨X,Be⟩
theorem yr{e:Nat}(h:w.ownsRow base e size v n xs):∃a cap,v=S a n cap/\(0<n->∃g,a=U (D g 0 Z)):=by
 rcases h.2 with⟨hv,hn⟩|⟨g,cap,aB,hv,_⟩;·subst hn;exact⟨Z,0,hv,fun h=>Ab h (Ep _)⟩
 exact⟨_,cap,hv,fun _=>⟨g,X⟩⟩
def xw(s:Ls Nd):Prop:=∀j,j<s.length->1<=(nd s j).kind/\(nd s j).kind<=14
theorem No(s:Ls Nd)(a:Oo Ad)(cp i:Nat)(c m:Int)(w:M)(hs:ew w a s)(hw:qg s)(dR:xw s)(hi:i<s.length)(hn:s.length<=40):Cs prog 100 #[S a s.length cp,I J i,I J c,I J m] w fun e w'=>dw (lv s i c m) w e w':=by
 have HS:Hi (ew w a s):=hs;have HW:Hi (qg s):=hw;have HK:Hi (xw s):=dR;have HC:Hi (Cs prog 37 #[S a s.length cp,I J i] w fun e w'=>Md s i w e w'):=Wl s a cp i w hs hw hi hn;clear hs hw dR;go_enter func100,ntmps100;go_wp2_with fail;refine HC.mono ?_;rintro e w1 ⟨v,l,bk,rfl,aG,(HB:Hi _),hl,(HF:Hi _),_⟩;obtain⟨va,vc,rfl,nY⟩:=yr aG;have HO:Hi (w1.ownsRow w.heap.size 3 1 (S va l.length vc) l.length (jg l)):=aG;have HA:Hi (0<l.length->∃g,va=U (D g 0 Z)):=nY;clear aG nY HC;go_wp2;go_loopw [11] (fun vk wr=>∃k:Nat,k<=l.length/\vk=I J k/\(∀p,p<k->¬qh (nd s (l.getD p 0)) c m)/\Bw w1 wr) (fun vk _=>l.length-(Io vk).toNat);case atStart=>exact⟨0,Lz,X,fun p hp=>Ab hp (dh _),By⟩
 obtain⟨k,hk,rfl,jA,aT⟩:=hrel;have HN:Hi (∀p,p<k->¬qh (nd s (l.getD p 0)) c m):=jA;have dU:Hi (Bw w1 wr):=aT;by_cases aA:k<l.length
 ·obtain⟨g,rfl⟩:=HA O;have ck:=Dp (fm HO aT) aA;have HX:Hi (l.getD k 0∈l):=by show _∈l;rw[dy,dz aA];exact me aA
  generalize hx:l.getD k 0=x at ck HX;have HXE:Hi (l.getD k 0=x):=hx;have rS:x<s.length:=((HF x).1 HX).1.lt HW hi;have MI:=HK x rS;have T0:Hi (mz s i x):=(HF x).1 HX;obtain⟨b,o,ka,kc,rfl,nc,kl,km,ks⟩:=HS x rS;have aM:Hi (Bw w wr):=Tm HB aT;obtain⟨n1,n2,n3,n4⟩:=nc.below aM;have aN:(k:Int)<l.length:=O;have RZ:(x:Int)<s.length:=O;have NX:Hi (∀(h:¬qh (nd s x) c m),∀p,p<k+1->¬qh (nd s (l.getD p 0)) c m):=fun h p hp=>by
   by_cases e:p=k;(·subst e;rw[HXE.out];exact h);exact HN p O
  have fR:Hi (qh (nd s x) c m->lv s i c m):=fun h=>⟨x,T0,h⟩;clear jA aT hx nc ks;by_cases ht:0<=(nd s x).tag
  ·by_cases hc:c=2
   ·subst hc;by_cases hm:m=(nd s x).tag;(·have HH:Hi (qh (nd s x) 2 m):= .inl ⟨ht,X,hm⟩;subst hm;go_wp2;go_ret;exact ia (fR HH) (aM.alloc aM.size _));(have HH:Hi (¬qh (nd s x) 2 m):=fun h=>by rcases h with h|h|h<;>omega);(have vH:(m==(nd s x).tag)=false:=by rw[lf];exact hm);clear hm;go_wp2;go_roundw;(case rel=>exact⟨k+1,O,Gn,NX HH,dU.alloc dU.size _⟩);exact Ms
   (have HH:Hi (¬qh (nd s x) c m):=fun h=>by rcases h with h|h|h<;>omega);(have fP:(c==2)=false:=by rw[lf];exact hc);clear hc;go_wp2;go_roundw;(case rel=>exact⟨k+1,O,Gn,NX HH,dU.alloc dU.size _⟩);exact Ms
  have qG:(nd s x).tag<0:=O;clear ht;by_cases ha:(nd s x).kind=14;·have HH:Hi (qh (nd s x) c m):= .inr (.inl ⟨qG,ha⟩);(have ha':((nd s x).kind==14)=true:=by rw[jq];exact ha);clear ha MI;go_wp2;go_ret;exact ia (fR HH) (aM.alloc aM.size _)
  have ha':((nd s x).kind==14)=false:=by rw[lf];exact ha
  by_cases hc:c=0
  ·subst hc;have lJ:Hi (∀w,Cs prog 142 #[I J (nd s x).kind] w fun e w'=>e=Rt (I J (own (nd s x).kind))/\Bw w w'):=fun w=>Xw _ O (by have h3:=T0.out.2;have:(nd s x).kind≠13:=fun e=>h3 ⟨e,qG⟩;omega) w;by_cases hm:m=own (nd s x).kind;(·have HH:Hi (qh (nd s x) 0 m):= .inr (.inr ⟨qG,ha,X,hm⟩);(have vH:(m==own (nd s x).kind)=true:=by rw[jq];exact hm);clear hm ha;go_wp2_with fail;refine(lJ _).mono ?_;rintro e w2 ⟨rfl,hb2⟩;have aD:Hi (Bw w w2):=Tm aM (dj hb2);clear hb2;go_wp2;go_ret;exact ia (fR HH) aD);(have HH:Hi (¬qh (nd s x) 0 m):=fun h=>by rcases h with h|h|h<;>omega);(have vH:(m==own (nd s x).kind)=false:=by rw[lf];exact hm);clear hm ha;go_wp2_with fail;refine(lJ _).mono ?_;rintro e w2 ⟨rfl,hb2⟩;have aD:Hi (Bw w1 w2):=Tm dU (dj hb2);clear hb2;go_wp2;go_roundw;(case rel=>exact⟨k+1,O,Gn,NX HH,aD⟩);exact Ms
  have HH:Hi (¬qh (nd s x) c m):=fun h=>by rcases h with h|h|h<;>omega
  have fP:(c==0)=false:=by rw[lf];exact hc
  clear hc ha;go_wp2;go_roundw;case rel=>exact⟨k+1,O,Gn,NX HH,dU.alloc dU.size _⟩
  exact Ms
 have aN:(l.length:Int)<=k:=O;clear jA aT;go_wp2;go_ret;exact cg (fun⟨j,hj,hbg⟩=>by obtain⟨p,hp,e⟩:=zk ((HF j).2 hj);refine HN p O ?_;rw[dy,dz hp];simpa [e]using hbg) (Tm HB dU)
def ll(w:M):Prop:=∀j:Nat,j<=12->w.cell? (D 16 j Z)=U (I J (own j))
theorem ll.below(h:ll w)(hb:Bw w w'):ll w':=fun j hj=>(hb.cell (bp (h j hj))).trans (h j hj)
theorem Pp(k:Int)(h:0<=k)(h':k<=12)(w:M)(hn:ll w):Cs prog 179 #[I J k] w fun e w'=>e=Rt (Ag #[I J 0,I J (own k)])/\Bw w w':=by
 obtain⟨n,rfl⟩:∃n:Nat,k=n:=⟨k.toNat,O⟩;have c:=hn n O;have hl:=bp c;simp only at hl;clear hn;have bU:(n:Int)<13:=O;go_enter func179,ntmps179;go_wp2;refine db (v:=Ag #[I J 0,I J (own n)]) (by simp[results,results179,go_sem]) X ⟨X,?_⟩;exact Be
theorem Jy(n:Nd)(ka:Oo Ad)(kc:Nat)(w:M)(hn:ll w)(ht: -1<=n.tag)(hk:0<=n.kind)(eI:n.tag<0->n.kind<=12):Cs prog 140 #[Ag #[I J n.kind,I J n.tag,I J n.mode,S ka n.kids.length kc]] w fun e w'=>e=Rt (Ag #[I J n.outer.1,I J n.outer.2])/\Bw w w':=by
 by_cases h:0<=n.tag;·(have e:n.outer=(2,n.tag):=by unfold Nd.outer;rw[ba h]);(have h1:(n.tag != -1)=true:=by rw[ln];omega);rw[e];clear e eI hn;go_enter func140,ntmps140;go_wp2;refine db (v:=Ag #[I J 2,I J n.tag]) (by simp[results,results140,go_sem]) X ⟨X,?_⟩;exact(Be).alloc Sq _
 have e:n.outer=(0,own n.kind):=by unfold Nd.outer;rw[G h]
 have h1:(n.tag != -1)=false:=by rw[qj];omega
 have HC:Hi _:=fun w q=>Pp n.kind hk (eI O) w q;have HN:Hi (∀o1 o2,ll ((w.alloc o1).alloc o2)):=fun o1 o2=>hn.below ((Be).alloc Sq _);rw[e];clear e eI hn;go_enter func140,ntmps140;go_wp2_with fail;refine(HC _ (HN _ _)).mono ?_;rintro e w1 ⟨rfl,hb⟩;have HB:Hi _:=dj (dj hb);have hG:w1.heap[w.heap.size+1]? =U (C #[I J 0,I J 0] 147 (0,0)):=bc (by simpa using bl (w.alloc _) _) hb;have q0:w1.cell? (D (w.heap.size+1) 0 Z)=U (I J 0):=by simp[Wc,hG]
 have q1:w1.cell? (D (w.heap.size+1) 1 Z)=U (I J 0):=by simp[Wc,hG]
 have f0:w1.frozen? (D (w.heap.size+1) 0 Z)=false:=Fz hG;have f1:w1.frozen? (D (w.heap.size+1) 1 Z)=false:=Fz hG;clear hb hG;go_wp2;refine db (v:=Ag #[I J 0,I J (own n.kind)]) (by simp[results,results140,go_sem,q0,q1]) X ⟨X,?_⟩;exact(HB.setCell (p:=D (w.heap.size+1) 0 Z) Sq _).setCell (p:=D (w.heap.size+1) 1 Z) Sq _
def px(ts:Ls (Int×Int)):Ls Vv:=ts.flatMap fun t=> [I J t.1,I J t.2]
theorem aiw(l:Ls (Int×Int))(t:Int×Int):px (l++[t])=px l++[I J t.1,I J t.2]:=by unfold px;simp
def jz(s:Ls Nd)(l:Ls Nat):Ls (Int×Int):=(l.filter fun j=> !(nd s j).everyB).map fun j=>(nd s j).outer
theorem aiC(h:¬(nd s x).every):jz s (l++[x])=jz s l++[(nd s x).outer]:=by unfold jz;rw[Lm];simp[Nd.everyB_no h]
theorem aiD(h:(nd s x).every):jz s (l++[x])=jz s l:=by unfold jz;rw[Lm];simp[Nd.everyB_yes h]
theorem Zk(s:Ls Nd)(l:Ls Nat):(jz s l).length<=l.length:=by unfold jz;simp;exact aaA _ _
theorem ags{t:Int×Int}:t∈jz s l↔∃j∈l,¬(nd s j).every/\(nd s j).outer=t:=by
 unfold jz;rw[List.mem_map];constructor;·rintro⟨j,hj,e⟩;rw[Lp]at hj;exact⟨j,hj.1,fun q=>(by have:=hj.2;rw[Nd.everyB_yes q]at this;cases this),e⟩
 rintro⟨j,hj,h,e⟩;exact⟨j,by rw[Lp];exact⟨hj,by rw[Nd.everyB_no h];rfl⟩,e⟩
def aaO(s:Ls Nd)(i:Nat)(w:M)(e:Ending)(w':M):Prop:=
 ∃(all:Bool) (vt:Vv) (ts:Ls (Int×Int)),e=Rt (Ag #[Bo all,vt])/\w'.ownsRow w.heap.size 147 2 vt ts.length (px ts)/\Bw w w'/\ts.length<=41/\
  (all=true↔∃j,mz s i j/\(nd s j).every)/\(∀t,t∈ts↔∃j,mz s i j/\¬(nd s j).every/\(nd s j).outer=t)
def Mu:Vv:=Ag #[I J 0,I J 0]
theorem abr:(prog.info? 147).map (fun i=>(i.zero,i.size,i.bytes))=U (U Mu,2,16):=Kr
structure ns(s:Ls Nd)(w wr:M)(dn:Ls Nat)(all:Bool)(vt:Vv):Prop where
 res:wr.heap[w.heap.size]? =U (C #[Bo false,S Z 0 0] 174 (0,0))
 blk:wr.heap[w.heap.size+1]? =U (C #[Bo all,vt] 174 (0,0))
 own:wr.ownsRow w.heap.size 147 2 vt (jz s dn).length (px (jz s dn))
 alls:all=true↔∃j∈dn,(nd s j).every
 bel:Bw w wr
theorem ns.below(h:ns s w wr dn all vt)(hb:Bw wr w'):ns s w w' dn all vt:=
 ⟨bc h.res hb,bc h.blk hb,fm h.own hb,h.alls,Tm h.bel hb⟩
theorem ns.setAll(h:ns s w wr dn all vt)(hx:(nd s x).every):ns s w (wr.setCell (D (w.heap.size+1) 0 Z) (Bo true)) (dn++[x]) true vt where
 res:=by rw[ez _ _ _ _ Sq];exact h.res
 blk:=iw wr _ 0 _ _ _ h.blk
 own:=by rw[aiD hx];exact dk h.own (jb h.blk h.own Dc) _
 alls:=⟨fun _=>⟨x,Sq,hx⟩,fun _=>rfl⟩
 bel:=h.bel.setCell Sq _
theorem ns.put(h:ns s w wr dn all vt)(hx:¬(nd s x).every)(h1:w'.ownsRow w.heap.size 147 2 (S (U (D g 0 Z)) ((jz s dn).length+1) cap) ((jz s dn).length+1) (px (jz s dn)++[I J (nd s x).outer.1,I J (nd s x).outer.2]))(h2:(wr.alloc o).grownBy w' vt.ownBlock):ns s w (w'.setCell (D (w.heap.size+1) 1 Z) (S (U (D g 0 Z)) ((jz s dn).length+1) cap)) (dn++[x]) all (S (U (D g 0 Z)) ((jz s dn).length+1) cap):=by
 have hb:=h.bel.alloc h.bel.size o;have k1:=Aa h.res (jb h.res h.own Dc) h2;have k2:=Aa h.blk (jb h.blk h.own Dc) h2
 exact {
  res:=by rw[ez _ _ _ _ Sq];exact k1
  blk:=iw w' _ 1 _ _ _ k2
  own:=by
   rw[aiC hx,aiw,ff]
   exact dk h1 (jb k2 h1 Dc) _
  alls:=by
   rw[h.alls]
   constructor
   ·rintro⟨j,hj,q⟩;exact⟨j,by simp[hj],q⟩
   ·rintro⟨j,hj,q⟩
    rcases Ek.1 hj with hj|hj
    ·exact⟨j,hj,q⟩
    ·simp at hj;subst hj;exact Ab q hx
  bel:=(hb.grown h2 hb.size (fun k hk=>(h.own.lt k hk).1)).setCell Sq _}
theorem ns.cell1(h:ns s w wr dn all vt):wr.cell? (D (w.heap.size+1) 1 Z)=U vt:=by simp[Wc,h.blk]
theorem ns.froz1(h:ns s w wr dn all vt):wr.frozen? (D (w.heap.size+1) 1 Z)=false:=by simp[Wf,h.blk]
theorem ns.cell_kept(h:ns s w wr dn all vt)(h2:(wr.alloc o).grownBy w' vt.ownBlock):w'.cell? (D (w.heap.size+1) 1 Z)=U vt/\w'.frozen? (D (w.heap.size+1) 1 Z)=false:=by have k2:=Aa h.blk (jb h.blk h.own Dc) h2;exact⟨by simp[Wc,k2],by simp[Wf,k2]⟩
theorem Yv{b1 b2 s1 s2 n1 n2:Nat}{e1 e2:TypeId}{v1 v2:Vv}{x1 x2:Ls Vv}(h1:w.ownsRow b1 e1 s1 v1 n1 x1)(h2:w.ownsRow b2 e2 s2 v2 n2 x2)(hT:e2≠e1):v2.ownBlock=Z\/v2.ownBlock≠v1.ownBlock:=by
 rcases h2.2 with⟨q,_⟩|⟨g,cap,aB,q,_,hg,_⟩;·left;rw[q];rfl
 right;intro e;have:v1.ownBlock=U g:=by rw[<-e,q];rfl
 exact jb hg h1 hT this
theorem acL(s:Ls Nd)(a:Oo Ad)(c i:Nat)(w:M)(hs:ew w a s)(hw:qg s)(fX:Cw s)(dR:xw s)(AM:ll w)(hi:i<s.length)(hn:s.length<=40):Cs prog 97 #[S a s.length c,I J i] w fun e w'=>aaO s i w e w':=by
 have HS:Hi (ew w a s):=hs;have HN:Hi (ll w):=AM;have DN:Hi (Cw s):=fX;have DG:Hi (xw s):=dR;have HW:Hi (qg s):=hw;have HR:Hi (∀wr,Bw w wr->Cs prog 96 #[S a s.length c,I J i] wr fun e w'=>Mc s i wr e w'):=fun wr hb=>Yq s a c i wr (hs.below hb) hw fX hi hn;clear hs hw fX dR AM;obtain⟨i0,dO,cU,dA,bL⟩:=mh abr;go_enter func97,ntmps97;go_wp2_with fail;refine(HR _ ((Be).alloc Sq _)).mono ?_;rintro e w1 ⟨v,l,bk,rfl,aG,hb1,hl,(HF:Hi _),_⟩;obtain⟨va,vc,rfl,(HA:Hi _)⟩:=yr aG;have aY:Hi (ns s w w1 [] false (S Z 0 0)):=⟨bc (bc (bl w _) Be) hb1,bc (by simpa using bl (w.alloc _) _) hb1,nz _ _ _ _,Sq,dj (dj hb1)⟩;have HO:Hi (w1.ownsRow w.heap.size 3 1 (S va l.length vc) l.length (jg l)):=by
  obtain⟨q1,q2⟩:=aG;refine⟨q1,?_⟩;rcases q2 with q2|⟨g,cap,aB,q3,q4,q5⟩;·exact .inl q2
  exact .inr ⟨g,cap,aB,q3,by simp at q4;omega,q5⟩
 clear aG hb1 HR;go_wp2;go_loopw [19] (fun vj wr=>∃j all vt,vj=I J (j:Nat)/\j<=l.length/\ns s w wr (l.take j) all vt/\wr.ownsRow w.heap.size 3 1 (S va l.length vc) l.length (jg l)) (fun vj _=>l.length-(Io vj).toNat);case atStart=>exact⟨0,false,_,X,Lz,by simpa using aY.out,HO.out⟩
 obtain⟨j,all,vt,rfl,hj,hB,hO⟩:=hrel;have HB:Hi (ns s w wr (l.take j) all vt):=hB;have OK:Hi (wr.ownsRow w.heap.size 3 1 (S va l.length vc) l.length (jg l)):=hO;have bX:w.heap.size+1<wr.heap.size:=by
  have:=hB.blk;rcases ny (w.heap.size+1) wr.heap.size with h'|h';·exact h'
  rw[lu h']at this;cases this
 have t0:wr.cell? (D (w.heap.size+1) 0 Z)=U (Bo all):=by simp[Wc,hB.blk]
 have t1:wr.cell? (D (w.heap.size+1) 1 Z)=U vt:=by simp[Wc,hB.blk]
 have f0:wr.frozen? (D (w.heap.size+1) 0 Z)=false:=Fz hB.blk;by_cases aA:j<l.length
 ·obtain⟨g,rfl⟩:=HA O;have cj:=Dp hO aA;have HX:Hi (l.getD j 0∈l):=by show _∈l;rw[dy,dz aA];exact me aA
  have oG:Hi (l.take (j+1)=l.take j++[l.getD j 0]):=by show l.take (j+1)=_;rw[vz,dz aA];simp[aA]
  generalize l.getD j 0=x at cj HX oG;have P1:=(HF x).1 HX;have rS:=P1.1.lt HW hi;have MI:=DG x rS;have vL:=DN x rS;have ZE:¬(nd s x).every->(nd s x).tag<0->(nd s x).kind<=12:=fun h1 h2=>by have a1:(nd s x).kind≠14:=fun e=>h1 ⟨e,h2⟩;have a2:(nd s x).kind≠13:=fun e=>P1.2 ⟨e,h2⟩;omega
  have aav:Hi (¬(nd s x).every->(nd s x).tag<0->(nd s x).kind<=12):=ZE;obtain⟨b,o,ka,kc,rfl,nc,kl,km,ks⟩:=HS x rS;obtain⟨n1,n2,n3,n4⟩:=nc.below hB.bel;have aN:(j:Int)<l.length:=O;have RZ:(x:Int)<s.length:=O;clear hB hO ks nc P1 ZE;by_cases CO:(nd s x).every;·(have e1:((nd s x).kind==14)=true:=by simp[CO.1]);(have e2:((nd s x).tag== -1)=true:=by have:=CO.2;rw[jq];omega);have FZ:Hi (nd s x).every:=CO;clear CO MI vL;go_wp2;go_roundw;(case rel=>exact⟨j+1,true,vt,Gn,O,by rw[oG.out];exact(HB.setAll FZ).below Be,(dk OK (jb HB.blk OK Dc) _).alloc _⟩);exact Ms
  have FZ:Hi (¬(nd s x).every):=CO;have DW:((nd s x).kind==14)=false\/(((nd s x).kind==14)=true/\((nd s x).tag== -1)=false):=by
   by_cases q:(nd s x).kind=14;(·right;exact⟨by simp[q],by rw[lf];intro q2;exact CO ⟨q,O⟩⟩);left;simp[q]
  have UD:Hi (∀w',ll w'->Cs prog 140 #[Ag #[I J (nd s x).kind,I J (nd s x).tag,I J (nd s x).mode,S ka (nd s x).kids.length kc]] w' fun e eE=>e=Rt (Ag #[I J (nd s x).outer.1,I J (nd s x).outer.2])/\Bw w' eE):=fun w' q=>Jy (nd s x) ka kc w' q vL O (fun q'=>aav FZ q');have BV:Hi (∀args w,(callFunc 140 args).run prog w= .ok (.enter 140 args) w):=fun args w=>Bq func140 Kr Rf args w;have T7:Hi (∀o,ll (wr.alloc o).drew):=fun o=>HN.below ((HB.bel.alloc HB.bel.size o).drew);have BH:Hi (∀o w5,H (wr.alloc o).drew.heap.size (wr.alloc o).drew w5->ns s w w5 (l.take j) all vt):=fun o w5 q=>(HB.below ((cm wr.heap.size wr).alloc Ln o).drew).below q;have OH:Hi (∀o w5,H (wr.alloc o).drew.heap.size (wr.alloc o).drew w5->w5.ownsRow w.heap.size 3 1 (S (U (D g 0 Z)) l.length vc) l.length (jg l)):=fun o w5 q=>fm (fm OK ((cm wr.heap.size wr).alloc Ln o).drew) q;have bC:(jz s (l.take j)).length<=41:=by have:=Zk s (l.take j);have:=List.length_take_le j l;omega
  clear CO MI vL;rcases DW with e1|⟨e1,e2⟩;·go_wp2_with fail;go_region_law (first|(refine Bt X 140 _ _ X #[Ag #[I J (nd s x).kind,I J (nd s x).tag,I J (nd s x).mode,S ka (nd s x).kids.length kc]] (by simp[Ae,Ap]) (Ag #[I J (nd s x).outer.1,I J (nd s x).outer.2]) (fun eE=>H ((wr.alloc (C #[I J (nd s x).kind,I J (nd s x).tag,I J (nd s x).mode,S ka (nd s x).kids.length kc] 58)).drew).heap.size ((wr.alloc (C #[I J (nd s x).kind,I J (nd s x).tag,I J (nd s x).mode,S ka (nd s x).kids.length kc] 58)).drew) eE) (BV _ _) (UD _ (T7 _)) ?_;intro w5 aH;have aO:=BH _ _ aH;have nM:=OH _ _ aH;have J0:=aO.cell1;have PH:=aO.froz1;have sM:=aO.bel.size;have wN:w.heap.size+1<w5.heap.size:=bp J0;clear aH)|(refine step_append_lies _ X (.tmp 37) (.tmp 40) 172 X w.heap.size 147 i0 Mu 2 16 underlying172 dO cU dA bL X Dc vt (jz s (l.take j)).length (px (jz s (l.take j))) (by simp[Ae,Ap]) (aO.own.alloc _) (D w5.heap.size 0 Z) 1 1 [I J (nd s x).outer.1,I J (nd s x).outer.2] (by simp[Ae,Ap]) X (World.news_of_block (bl w5 _)) (by intro u hu;simp at hu;rcases hu with rfl|rfl<;>rfl) Dc (by unfold maxLen;omega) O So (w5.heap.size+1) Sq ?_;intro g6 dP w6 tN nQ pS CB;have bB:=aO.put FZ tN nQ;have hU:=(nM.alloc _).kept nQ (Yv aO.own nM Dc);have SD:=aO.cell_kept nQ;have FK:=Aa aO.blk (jb aO.blk aO.own Dc) nQ;clear tN nQ pS CB));all_goals have hP:Hi (ns s w (w6.setCell (D (w.heap.size+1) 1 Z) (S (U (D g6 0 Z)) ((jz s (l.take j)).length+1) dP)) (l.take j++[x]) all (S (U (D g6 0 Z)) ((jz s (l.take j)).length+1) dP)):=bB;have xH:Hi ((w6.setCell (D (w.heap.size+1) 1 Z) (S (U (D g6 0 Z)) ((jz s (l.take j)).length+1) dP)).ownsRow w.heap.size 3 1 (S (U (D g 0 Z)) l.length vc) l.length (jg l)):=dk hU (jb FK hU Dc) _;clear bB hU aO nM J0 PH SD sM wN FK;go_wp2;go_roundw;(case rel=>exact⟨j+1,all,_,Gn,O,by rw[oG.out];exact hP,xH⟩);exact Ms
  go_wp2_with fail;go_region_law (first|(refine Bt X 140 _ _ X #[Ag #[I J (nd s x).kind,I J (nd s x).tag,I J (nd s x).mode,S ka (nd s x).kids.length kc]] (by simp[Ae,Ap]) (Ag #[I J (nd s x).outer.1,I J (nd s x).outer.2]) (fun eE=>H ((wr.alloc (C #[I J (nd s x).kind,I J (nd s x).tag,I J (nd s x).mode,S ka (nd s x).kids.length kc] 58)).drew).heap.size ((wr.alloc (C #[I J (nd s x).kind,I J (nd s x).tag,I J (nd s x).mode,S ka (nd s x).kids.length kc] 58)).drew) eE) (BV _ _) (UD _ (T7 _)) ?_;intro w5 aH;have aO:=BH _ _ aH;have nM:=OH _ _ aH;have J0:=aO.cell1;have PH:=aO.froz1;have sM:=aO.bel.size;have wN:w.heap.size+1<w5.heap.size:=bp J0;clear aH)|(refine step_append_lies _ X (.tmp 37) (.tmp 40) 172 X w.heap.size 147 i0 Mu 2 16 underlying172 dO cU dA bL X Dc vt (jz s (l.take j)).length (px (jz s (l.take j))) (by simp[Ae,Ap]) (aO.own.alloc _) (D w5.heap.size 0 Z) 1 1 [I J (nd s x).outer.1,I J (nd s x).outer.2] (by simp[Ae,Ap]) X (World.news_of_block (bl w5 _)) (by intro u hu;simp at hu;rcases hu with rfl|rfl<;>rfl) Dc (by unfold maxLen;omega) O So (w5.heap.size+1) Sq ?_;intro g6 dP w6 tN nQ pS CB;have bB:=aO.put FZ tN nQ;have hU:=(nM.alloc _).kept nQ (Yv aO.own nM Dc);have SD:=aO.cell_kept nQ;have FK:=Aa aO.blk (jb aO.blk aO.own Dc) nQ;clear tN nQ pS CB));all_goals have hP:Hi (ns s w (w6.setCell (D (w.heap.size+1) 1 Z) (S (U (D g6 0 Z)) ((jz s (l.take j)).length+1) dP)) (l.take j++[x]) all (S (U (D g6 0 Z)) ((jz s (l.take j)).length+1) dP)):=bB;have xH:Hi ((w6.setCell (D (w.heap.size+1) 1 Z) (S (U (D g6 0 Z)) ((jz s (l.take j)).length+1) dP)).ownsRow w.heap.size 3 1 (S (U (D g 0 Z)) l.length vc) l.length (jg l)):=dk hU (jb FK hU Dc) _;clear bB hU aO nM J0 PH SD sM wN FK;go_wp2;go_roundw;(case rel=>exact⟨j+1,all,_,Gn,O,by rw[oG.out];exact hP,xH⟩);exact Ms
 have aN:(l.length:Int)<=j:=O;obtain rfl:j=l.length:=O;have q0:wr.cell? (D w.heap.size 0 Z)=U (Bo false):=by simp[Wc,hB.res]
 have q1:wr.cell? (D w.heap.size 1 Z)=U (S Z 0 0):=by simp[Wc,hB.res]
 have p0:wr.frozen? (D w.heap.size 0 Z)=false:=Fz hB.res;have p1:wr.frozen? (D w.heap.size 1 Z)=false:=Fz hB.res;have RQ:w.heap.size<wr.heap.size:=O;rw[we]at HB;obtain⟨ta,tc,rfl,_⟩:=yr hB.own;have C0:(jz s l).length<=41:=by have:=Zk s l;omega
 clear hB hO;go_wp2;refine db (v:=Ag #[Bo all,S ta (jz s (l.take l.length)).length tc]) (by simp[results,results97,go_sem,q0,q1,RQ]) X ⟨all,_,jz s l,X,?_,?_,C0,?_,?_⟩;·rw[we]at*;have ne:=jb HB.res HB.own Dc;exact dk (dk HB.own ne _) ne _
 ·exact(HB.bel.setCell (p:=D w.heap.size 0 Z) Ln _).setCell (p:=D w.heap.size 1 Z) Ln _
 ·rw[HB.alls];exact⟨fun⟨j,h1,h2⟩=>⟨j,(HF j).1 h1,h2⟩,fun⟨j,h1,h2⟩=>⟨j,(HF j).2 h1,h2⟩⟩
 intro t;rw[ags];exact⟨fun⟨j,h1,h2⟩=>⟨j,(HF j).1 h1,h2⟩,fun⟨j,h1,h2⟩=>⟨j,(HF j).2 h1,h2⟩⟩
def uj(w:M)(a:Oo Ad)(ts:Ls (Int×Int)):Prop:=∀j,j<ts.length->∃b o,a=U (D b o Z)/\w.cell? (D b (o+j*2) Z)=U (I J (ts.getD j (0,0)).1)/\w.cell? (D b (o+j*2+1) Z)=U (I J (ts.getD j (0,0)).2)
theorem uj.below{ts:Ls (Int×Int)}(h:uj w a ts)(hb:Bw w w'):uj w' a ts:=fun j hj=>by obtain⟨b,o,e,h1,h2⟩:=h j hj;exact⟨b,o,e,Cb hb h1,Cb hb h2⟩
theorem afa(ts:Ls (Int×Int))(a:Oo Ad)(c:Nat)(t:Int×Int)(w:M)(h:uj w a ts)(hl:ts.length<=41):Cs prog 199 #[S a ts.length c,Ag #[I J t.1,I J t.2]] w fun e w'=>∃r,e=Rt (I J r)/\(0<=r↔t∈ts)/\Bw w w':=by
 obtain⟨t1,t2⟩:=t;have HI:Hi _:=h;clear h;go_enter func199,ntmps199;go_wp2;go_loopw [8] (fun vj wr=>∃j:Nat,vj=I J j/\j<=ts.length/\(∀p,p<j->ts.getD p (0,0)≠(t1,t2))/\∃q,wr=(w.alloc (C #[I J t1,I J t2] 147)).drewN q) (fun vj _=>ts.length-(Io vj).toNat);case atStart=>exact⟨0,X,Lz,fun _ h=>Ab h (dh _),0,X⟩
 obtain⟨j,rfl,hj,(HN:Hi _),q,rfl⟩:=hrel;have HB:Hi (∀q,Bw w ((w.alloc (C #[I J t1,I J t2] 147)).drewN q)):=fun q=>Go.below_drewN Be q;by_cases aA:j<ts.length
 ·obtain⟨b,o,rfl,c1,c2⟩:=HI j aA;have iR:=lc c1;have aN:(j:Int)<ts.length:=O;have HM:Hi (ts.getD j (0,0)∈ts):=by show _∈ts;rw[dy,dz aA];exact me aA
  obtain⟨u,hu⟩:∃u,ts.getD j (0,0)=u:=Ey;have HU:Hi _:=hu;rw[hu]at c1 c2;clear hu;obtain⟨u1,u2⟩:=u;simp only at c1 c2;by_cases e:t1=u1/\t2=u2;·obtain⟨rfl,rfl⟩:=e;go_wp2;go_quiet (fail);go_wp2;go_ret;exact⟨j,X,⟨fun _=>by rw[<-HU.out];exact HM,fun _=>O⟩,Go.below_drewN (HB _) _⟩
  have HE:Hi ((u1,u2)≠(t1,t2)):=fun q=>e (by injection q with q1 q2;exact⟨q1.symm,q2.symm⟩);by_cases e1:t1=u1
  ·subst e1;(have e2:(t2==u2)=false:=by rw[lf];exact fun q=>e ⟨X,q⟩);clear e;go_wp2;go_quiet (fail);go_wp2;go_roundw
   case rel=>exact⟨j+1,Gn,O,fun p hp=>by
    by_cases ep:p=j;(·subst ep;rw[HU.out];exact HE);exact HN p O,_,X⟩
   exact Ms
  have e2:(t1==u1)=false:=by rw[lf];exact e1
  clear e e1;go_wp2;go_quiet (fail);go_wp2;go_roundw
  case rel=>exact⟨j+1,Gn,O,fun p hp=>by
   by_cases ep:p=j;(·subst ep;rw[HU.out];exact HE);exact HN p O,_,X⟩
  exact Ms
 have aN:(ts.length:Int)<=j:=O;go_wp2;go_ret;exact⟨-1,X,⟨fun h=>Ab h Dc,fun h=>by obtain⟨p,hp,e⟩:=zk h;exact Ab (by rw[dy,dz hp];simpa using e) (HN p O)⟩,HB _⟩
theorem Ul(ts:Ls (Int×Int))(a:Oo Ad)(c:Nat)(t:Int×Int)(w:M)(h:uj w a ts)(hl:ts.length<=41):Cs prog 180 #[S a ts.length c,Ag #[I J t.1,I J t.2]] w fun e w'=>dw (t∈ts) w e w':=by
 have HC:Hi _:=fun w q=>afa ts a c t w q hl;have HI:Hi (∀o,uj (w.alloc o) a ts):=fun o=>h.below Be;clear h;go_enter func180,ntmps180;go_wp2_with fail;refine(HC _ (HI _)).mono ?_;rintro e w1 ⟨r,rfl,(HR:Hi _),hb⟩;have HB:Hi _:=dj hb;clear hb;go_wp2;go_ret;exact yv (by rw[ur];exact HR) HB
def Em(pQ pR:Bool)(t1 t2:Ls (Int×Int)):Prop:=pQ=true\/pR=true\/∃t,t∈t1/\t∈t2
theorem Xe(pQ pR:Bool)(a1 a2:Oo Ad)(c1 c2:Nat)(t1 t2:Ls (Int×Int))(w:M)(h1:uj w a1 t1)(h2:uj w a2 t2)(i9:t1.length<=41)(eZ:t2.length<=41):Cs prog 141 #[Ag #[Bo pQ,S a1 t1.length c1],Ag #[Bo pR,S a2 t2.length c2]] w fun e w'=>dw (Em pQ pR t1 t2) w e w':=by
 have HC:Hi (∀w t,uj w a2 t2->Cs prog 180 #[S a2 t2.length c2,Ag #[I J t.1,I J t.2]] w fun e w'=>dw (t∈t2) w e w'):=fun w t q=>Ul t2 a2 c2 t w q eZ;have H1:Hi (uj w a1 t1):=h1;have H2:Hi (uj w a2 t2):=h2;clear h1 h2;have bO:Bw w ((w.alloc (C #[Bo pQ,S a1 t1.length c1] 174)).alloc (C #[Bo pR,S a2 t2.length c2] 174)):=(Be).alloc Sq _;cases pQ
 ·cases pR
  ·have aY:Hi (Bw w ((w.alloc (C #[Bo false,S a1 t1.length c1] 174)).alloc (C #[Bo false,S a2 t2.length c2] 174))):=bO;clear bO;go_enter func141,ntmps141;go_wp2;obtain⟨B,hB⟩:∃B,B=w.heap.size+1:=Ez
   have iW:Hi (∀wr,H ((w.alloc (C #[Bo false,S a1 t1.length c1] 174)).alloc (C #[Bo false,S a2 t2.length c2] 174)).heap.size ((w.alloc (C #[Bo false,S a1 t1.length c1] 174)).alloc (C #[Bo false,S a2 t2.length c2] 174)) wr->
    wr.cell? ⟨B,1,Z⟩=U (S a2 t2.length c2)/\Bw w wr):=fun wr h=>by
    have q:=bc (show _=U (Obj.cells _ _ _)from bl (w.alloc (C #[Bo false,S a1 t1.length c1] 174)) (C #[Bo false,S a2 t2.length c2] 174)) h
    subst hB
    exact⟨by simp at q;simp[Wc,q],dj (dj h)⟩
   generalize((w.alloc _).alloc _)=W0 at*;rw[<-hB];clear hB;go_loopw [16] (fun vj wr=>∃j:Nat,vj=I J j/\j<=t1.length/\(∀p,p<j->t1.getD p (0,0)∉t2)/\Bw W0 wr) (fun vj _=>t1.length-(Io vj).toNat);(case atStart=>exact⟨0,X,Lz,fun _ h=>Ab h (dh _),By⟩);obtain⟨j,rfl,hj,(HN:Hi _),aT⟩:=hrel;have HB:Hi (Bw W0 wr):=aT;obtain⟨d1,(aM:Hi _)⟩:=iW wr aT;clear aT;by_cases aA:j<t1.length
   ·obtain⟨b,o,rfl,LA,LB⟩:=(H1.below aM) j aA;have aN:(j:Int)<t1.length:=O;(have HM:Hi (t1.getD j (0,0)∈t1):=by show _∈t1;rw[dy,dz aA];exact me aA);obtain⟨u,hu⟩:∃u,t1.getD j (0,0)=u:=Ey;have HU:Hi _:=hu;rw[hu]at LA LB;clear hu;have hbB:=bp d1;go_wp2_with fail;refine(HC _ u ((H2.below aM).below Be)).mono ?_;rintro e w3 ⟨r,rfl,(HR:Hi _),hb3⟩;have aR:Hi _:=Tm HB (dj hb3);have zE:Hi _:=Tm aM (dj hb3);clear hb3;cases r
    ·go_wp2;go_roundw
     case rel=>exact⟨j+1,Gn,O,fun p hp=>by
      by_cases ep:p=j;(·subst ep;rw[HU.out];exact fun q=>Bool.noConfusion (HR.2 q));exact HN p O,aR⟩
     exact Ms
    go_wp2;go_ret;exact ia (.inr (.inr ⟨u,by rw[<-HU.out];exact HM,HR.1 trivial⟩)) zE
   have aN:(t1.length:Int)<=j:=O;go_wp2;go_ret;exact cg (fun h=>by
    rcases h with h|h|⟨t,h1,h2⟩;(·cases h);(·cases h);obtain⟨p,hp,e⟩:=zk h1;refine HN p O ?_;rw[dy,dz hp];simpa [e]using h2) aM
  have aY:Hi _:=bO;clear bO;go_enter func141,ntmps141;go_wp2;go_ret;exact ia (.inr (.inl X)) aY
 have aY:Hi _:=bO;clear bO;go_enter func141,ntmps141;go_wp2;go_ret;exact ia (.inl X) aY
def fv(c n:Int)(b:Bool):Vv:=Ag #[I J c,I J n,Bo b]
theorem Vc(c:Int)(b:Bool)(n z l:Int)(w:M):Cs prog 157 #[Ag #[I J c,Bo b,I J n,I J z,I J l]] w fun e w'=>e=Rt (fv c n b)/\Bw w w':=by
 unfold fv;go_enter func157,ntmps157;go_wp2;refine db (v:=Ag #[I J c,I J n,Bo b]) (by simp[results,results157,go_sem]) X ⟨X,?_⟩;exact(Be).alloc Sq _
theorem Na(n:Nd)(ka:Oo Ad)(kc:Nat)(w:M)(hm:n.mode≠1):Cs prog 110 #[Ag #[I J n.kind,I J n.tag,I J n.mode,S ka n.kids.length kc]] w fun e w'=>e=Rt (Tu #[fv 0 0 false,Bo false])/\Bw w w':=by
 have e:(n.mode !=1)=true:=by simp[hm]
 unfold fv;clear hm;go_enter func110,ntmps110;go_wp2;refine db (v:=Tu #[Ag #[I J 0,I J 0,Bo false],Bo false]) (by simp[results,results110,go_sem]) X ⟨X,?_⟩;exact(Be).alloc Sq _
theorem yw{B:Nat}(h:H B w w1)(b:Nat)(hb:B<=b)(v0 v1 v2:Vv):H B w (((w1.setCell (D b 0 Z) v0).setCell (D b 1 Z) v1).setCell (D b 2 Z) v2):=
 ((h.setCell (p:=D b 0 Z) hb v0).setCell (p:=D b 1 Z) hb v1).setCell (p:=D b 2 Z) hb v2
theorem Nb(n:Nd)(ka:Oo Ad)(kc:Nat)(w:M)(hm:n.mode=1)(hn:ll w)(ht:0<=n.tag)(hk:0<=n.kind):Cs prog 110 #[Ag #[I J n.kind,I J n.tag,I J n.mode,S ka n.kids.length kc]] w fun e w'=>e=Rt (Tu #[fv 2 n.tag true,Bo true])/\Bw w w':=by
 have e:(n.mode !=1)=false:=by simp[hm]
 have HC:Hi (∀w',ll w'->Cs prog 140 #[Ag #[I J n.kind,I J n.tag,I J n.mode,S ka n.kids.length kc]] w' fun e eE=>e=Rt (Ag #[I J 2,I J n.tag])/\Bw w' eE):=fun w' q=>by have:=Jy n ka kc w' q O hk (fun h=>O);unfold Nd.outer at this;rw[ba ht]at this;exact this
 have HN:Hi (∀o1 o2,ll ((w.alloc o1).alloc o2)):=fun o1 o2=>hn.below ((Be).alloc Sq _);unfold fv;clear hm hn;go_enter func110,ntmps110;go_wp2_with fail;refine(HC _ (HN _ _)).mono ?_;rintro e w1 ⟨rfl,hb⟩;have HB:Hi _:=dj (dj hb);have hG:w1.heap[w.heap.size+1]? =U (C #[I J 0,I J 0,Bo false] 149 (0,0)):=bc (by simpa using bl (w.alloc _) _) hb;obtain⟨q0,q1,q2⟩:=pt hG;have f0:w1.frozen? (D (w.heap.size+1) 0 Z)=false:=Fz hG;have f1:w1.frozen? (D (w.heap.size+1) 1 Z)=false:=Fz hG;have f2:w1.frozen? (D (w.heap.size+1) 2 Z)=false:=Fz hG;clear hb hG;go_wp2;refine db (v:=Tu #[Ag #[I J 2,I J n.tag,Bo true],Bo true]) (by simp[results,results110,go_sem,q0,q1,q2]) X ⟨X,?_⟩;exact yw HB _ Sq _ _ _
def Nd.ownT(n:Nd):Int×Int:=if n.mode=0/\0<=n.tag then(2,n.tag)else(0,own n.kind)
theorem Xx(n:Nd)(ka:Oo Ad)(kc:Nat)(w:M)(hn:ll w)(ht: -1<=n.tag)(hk:0<=n.kind)(eI:n.kind<=9):Cs prog 152 #[Ag #[I J n.kind,I J n.tag,I J n.mode,S ka n.kids.length kc]] w fun e w'=>e=Rt (fv n.ownT.1 n.ownT.2 false)/\Bw w w':=by
 have HC:Hi (∀w',ll w'->Cs prog 140 #[Ag #[I J n.kind,I J n.tag,I J n.mode,S ka n.kids.length kc]] w' fun e eE=>e=Rt (Ag #[I J n.outer.1,I J n.outer.2])/\Bw w' eE):=fun w' q=>Jy n ka kc w' q ht hk (fun h=>O);have HW:Hi (∀w',ll w'->Cs prog 179 #[I J n.kind] w' fun e eE=>e=Rt (Ag #[I J 0,I J (own n.kind)])/\Bw w' eE):=fun w' q=>Pp n.kind hk O w' q;have HN:Hi (∀wq,Bw w wq->ll wq):=fun wq q=>hn.below q;have AF:n.kind<10:=O;have IY:decide (10<=n.kind)=false:=So;obtain⟨T1,T2,hT⟩:∃T1 T2,n.ownT=(T1,T2):=⟨_,_,X⟩;have HT:Hi (n.ownT=(T1,T2)):=hT;rw[hT];unfold fv;clear hn hT;go_enter func152,ntmps152;go_wp2_with fail;refine(HW _ (HN _ ((Be).alloc Sq _))).mono ?_;rintro e w1 ⟨rfl,hb⟩;have HB:Hi (Bw w w1):=dj (dj hb);have HG:Hi (w1.heap[w.heap.size+1]? =U (C #[I J 0,I J 0,Bo false] 149 (0,0))):=bc (by simpa using bl (w.alloc _) _) hb;have F9:Hi (w1.heap[w.heap.size]? =U (C #[I J n.kind,I J n.tag,I J n.mode,S ka n.kids.length kc] 58 (0,0))):=bc (bc (bl w _) Be) hb;have jB:w.heap.size+1<w1.heap.size:=by have:=hb.size;simp at this;omega
 have JK:w.heap.size<w1.heap.size:=O;obtain⟨p0,p1,p2,p3⟩:=fi F9;obtain⟨q0,q1,q2⟩:=pt HG;have f0:w1.frozen? (D (w.heap.size+1) 0 Z)=false:=Fz HG.out;have f1:w1.frozen? (D (w.heap.size+1) 1 Z)=false:=Fz HG.out;have f2:w1.frozen? (D (w.heap.size+1) 2 Z)=false:=Fz HG.out;clear hb;by_cases hm:n.mode=0
 ·have e0:(n.mode==0)=true:=by simp[hm]
  have HE:Hi (n.ownT=n.outer):=by
   show n.ownT=n.outer;unfold Nd.ownT Nd.outer;by_cases q:0<=n.tag;(·rw[ba ⟨hm,q⟩,ba q]);rw[G (fun r=>q r.2),G q]
  obtain⟨rfl,rfl⟩:T1=n.outer.1/\T2=n.outer.2:=by rw[<-HE,HT.out];exact⟨X,X⟩
  clear hm;go_wp2_with fail;refine(HC _ (HN _ (HB.alloc HB.size _))).mono ?_;rintro e w2 ⟨rfl,hb2⟩;have aD:Hi (Bw w w2):=Tm HB (dj hb2);have hA:w2.heap[w1.heap.size]? =U (C #[I J 0,I J (own n.kind)] 147 (0,0)):=bc (bl w1 _) hb2;have bH:=bc HG (dj hb2);have IH:=bc F9 (dj hb2);have t0:w2.cell? (D w1.heap.size 0 Z)=U (I J 0):=by simp[Wc,hA]
  have t1:w2.cell? (D w1.heap.size 1 Z)=U (I J (own n.kind)):=by simp[Wc,hA]
  have t2:w2.frozen? (D w1.heap.size 0 Z)=false:=Fz hA;have t3:w2.frozen? (D w1.heap.size 1 Z)=false:=Fz hA;obtain⟨r0,r1,r2⟩:=pt bH;have g0:w2.frozen? (D (w.heap.size+1) 0 Z)=false:=Fz bH;have g1:w2.frozen? (D (w.heap.size+1) 1 Z)=false:=Fz bH;have g2:w2.frozen? (D (w.heap.size+1) 2 Z)=false:=Fz bH;have d0:w2.cell? (D w.heap.size 0 Z)=U (I J n.kind):=by simp[Wc,IH]
  have sH:¬w1.heap.size=w.heap.size+1:=O;have yN:¬w.heap.size+1=w1.heap.size:=O;clear hb2 hA bH IH p0 p1 p2 p3 q0 q1 q2 f0 f1 f2;go_wp2;refine db (v:=Ag #[I J n.outer.1,I J n.outer.2,Bo false]) (by simp[results,results152,go_sem,r0,r1,r2,t0,t1,sH,yN,IY]) X ⟨X,?_⟩;exact yw ((aD.setCell (p:=D w1.heap.size 0 Z) (by exact Lu JK) _).setCell (p:=D w1.heap.size 1 Z) (by exact Lu JK) _) _ Sq _ _ _
 have e0:(n.mode==0)=false:=by simp[hm]
 have HE:Hi (n.ownT=(0,own n.kind)):=by show n.ownT=(0,own n.kind);unfold Nd.ownT;rw[G (fun r=>hm r.1)]
 obtain⟨rfl,rfl⟩:T1=0/\T2=own n.kind:=by have:=HE.out;rw[HT.out]at this;injection this with a b;exact⟨a,b⟩
 clear hm;go_wp2;refine db (v:=Ag #[I J 0,I J (own n.kind),Bo false]) (by simp[results,results152,go_sem,q0,q1,q2,jB,IY]) X ⟨X,?_⟩
 first
  |exact(yw HB _ Sq _ _ _).alloc (yw HB _ Sq _ _ _).size _
  |exact yw (HB.alloc HB.size _) _ Sq _ _ _
structure Vl where
 kind:Int
 text:Q
 alt:Int
 kids:Int
def Vl.cells(v:Vl):Ls Vv:=[I J v.kind,Y v.text,I J v.alt,I J v.kids]
def df(l:Ls Vl):Ls Vv:=l.flatMap Vl.cells
theorem La(l:Ls Vl)(v:Vl):df (l++[v])=df l++v.cells:=by unfold df;simp
def ix(a:Oo Ad)(n c:Nat)(data:Q)(vt:Vv)(e p:Int):Obj:=C #[S a n c,Y data,vt,I J e,I J p] 128 (0,0)
structure bm(W w:M)(R:Nat)(a:Oo Ad)(n c:Nat)(data:Q)(tree:Ls Vl)(e p:Int):Prop where
 bel:Bw W w
 lo:W.heap.size<=R
 own:∃vt,w.heap[R]? =U (ix a n c data vt e p)/\w.ownsRow W.heap.size 60 4 vt tree.length (df tree)
def Fr(R:Nat)(w w':M):Prop:=∀(k:Nat) (A:Array Vv) (T:TypeId),k≠R->T≠60->w.heap[k]? =U (C A T (0,0))->w'.heap[k]? =U (C A T (0,0))
theorem Fr.refl(R:Nat)(w:M):Fr R w w:=fun _ _ _ _ _ h=>h
theorem Fr.trans(h1:Fr R w w1)(h2:Fr R w1 w2):Fr R w w2:=fun k A T a b h=>h2 k A T a b (h1 k A T a b h)
theorem Fr.of_below(h:Bw w w'):Fr R w w':=fun _ _ _ _ _ q=>bc q h
theorem Fr.of_same(h:∀k,k≠R->w'.heap[k]? =w.heap[k]?):Fr R w w':=fun k _ _ a _ q=>(h k a).trans q
theorem Fr.set5(h:Fr R w w2){q:Nat}(hq:w.heap.size<=q)(v0 v1 v2 v3 v4:Vv):Fr R w (((((w2.setCell (D q 0 Z) v0).setCell (D q 1 Z) v1).setCell (D q 2 Z) v2).setCell (D q 3 Z) v3).setCell (D q 4 Z) v4):=fun k A T a b g=>by
 have aA:k<w.heap.size:=by
  rcases ny k w.heap.size with h'|h';·exact h'
  rw[lu h']at g;cases g
 have aI:k≠q:=O;rw[ez _ _ _ _ aI,ez _ _ _ _ aI,ez _ _ _ _ aI,ez _ _ _ _ aI,ez _ _ _ _ aI];exact h k A T a b g
theorem bm.below{tree:Ls Vl}{e:Int}(h:bm W w R a n c data tree e p)(hb:Bw w w'):bm W w' R a n c data tree e p where
 bel:=Tm h.bel hb
 lo:=h.lo
 own:=by
  obtain⟨vt,h1,h2⟩:=h.own
  exact⟨vt,bc h1 hb,fm h2 hb⟩
def zu:Vv:=Ag #[I J 0,Y ⟨#[]⟩,I J 0,I J 0]
theorem Fe:(prog.info? 60).map (fun i=>(i.zero,i.size,i.bytes))=U (U zu,4,40):=Kr
theorem fg(hg:w.heap[R]? =U (C A T (0,0)))(h:w.ownsRow base e size v n xs)(hT:T≠e):v.ownBlock≠U R:=by
 intro hv;rcases h.2 with⟨h',_⟩|⟨g,cap,aB,h',_,dY,_⟩;·subst h';cases hv
 subst h';obtain rfl:g=R:=by simpa [Value.ownBlock]using hv
 rw[hg]at dY;injection dY with dY;injection dY with _ e _;exact hT e
theorem Ke{tree:Ls Vl}{vt:Vv}(i:Nat)(u:Vv)(hb:Bw W w)(gK:W.heap.size<=R)(hg:w.heap[R]? =U (C A 128 (0,0)))
 (ho:w.ownsRow W.heap.size 60 4 vt tree.length (df tree)):
 Bw W (w.setCell (D R i Z) u)/\(w.setCell (D R i Z) u).heap[R]? =U (C (A.setIfInBounds i u) 128 (0,0))/\(w.setCell (D R i Z) u).ownsRow W.heap.size 60 4 vt tree.length (df tree):=
 ⟨hb.setCell gK u,iw w R i A _ u hg,dk ho (fg hg ho Dc) u⟩
theorem bm.set_other{tree:Ls Vl}{e:Int}(h:bm W w R a n c data tree e p)(hk:W.heap.size<=k)(wM:k≠R)(hT:T≠60)(hg:w.heap[k]? =U (C A T (0,0)))(i:Nat)(u:Vv):bm W (w.setCell (D k i Z) u) R a n c data tree e p/\(w.setCell (D k i Z) u).heap[k]? =U (C (A.setIfInBounds i u) T (0,0)):=by obtain⟨hb,gK,vt,hr,ho⟩:=h;exact⟨⟨hb.setCell hk u,gK,vt,by rw[ez _ _ _ _ (by exact Ne.symm wM)];exact hr,dk ho (fg hg ho hT) u⟩,iw w k i A _ u hg⟩
theorem bm.set5{tree:Ls Vl}{e:Int}(h:bm W w R a n c data tree e p)(hk:W.heap.size<=k)(wM:k≠R)(hT:T≠60)(hg:w.heap[k]? =U (C A T (0,0)))(v0 v1 v2 v3 v4:Vv):bm W (((((w.setCell (D k 0 Z) v0).setCell (D k 1 Z) v1).setCell (D k 2 Z) v2).setCell (D k 3 Z) v3).setCell (D k 4 Z) v4) R a n c data tree e p:=by
 obtain⟨h0,g0⟩:=h.set_other hk wM hT hg 0 v0;obtain⟨h1,g1⟩:=h0.set_other hk wM hT g0 1 v1;obtain⟨h2,g2⟩:=h1.set_other hk wM hT g1 2 v2;obtain⟨h3,g3⟩:=h2.set_other hk wM hT g2 3 v3;exact(h3.set_other hk wM hT g3 4 v4).1
theorem jy(W w:M)(R:Nat)(a:Oo Ad)(n c:Nat)(data:Q)(tree:Ls Vl)(p e1 p1:Int)(h:bm W w R a n c data tree 0 p):Cs prog 70 #[Po (U (D R 0 Z)),I J e1,I J p1] w fun e w'=>e=Rt (Tu #[])/\bm W w' R a n c data tree e1 p1/\∀k,k≠R->w'.heap[k]? =w.heap[k]? :=by
 obtain⟨(HB:Hi _),gK,vt,hr,(HO:Hi _)⟩:=h;have HR:Hi _:=hr;unfold ix at hr;have c3:w.cell? (D R 3 Z)=U (I J 0):=by simp[Wc,hr]
 have f3:w.frozen? (D R 3 Z)=false:=Fz hr;have c4:w.cell? (D R 4 Z)=U (I J p):=by simp[Wc,hr]
 have f4:w.frozen? (D R 4 Z)=false:=Fz hr;clear hr;go_enter func70,ntmps70;go_wp2;go_end0;obtain⟨b1,r1,o1⟩:=Ke 3 (I J e1) HB gK HR HO;obtain⟨b2,r2,o2⟩:=Ke 4 (I J p1) b1 gK r1 o1;exact⟨X,⟨b2,gK,vt,r2,o2⟩,fun k hk=>by rw[ez _ _ _ _ hk,ez _ _ _ _ hk]⟩
theorem Dq(W w:M)(R:Nat)(a:Oo Ad)(n c:Nat)(data:Q)(tree:Ls Vl)(e p:Int)(v:Vl)(h:bm W w R a n c data tree e p)(hl:tree.length<=1099511627776):Cs prog 144 #[Po (U (D R 0 Z)),I J v.kind,Y v.text,I J v.alt,I J v.kids] w fun e' w'=>e'=Rt (I J (tree.length:Nat))/\bm W w' R a n c data (tree++[v]) e p/\Fr R w w':=by
 obtain⟨i0,dO,cU,dA,bL⟩:=mh Fe;obtain⟨hb,gK,vt,hr,ho⟩:=h;have HB:Hi (Bw W w):=hb;have HO:Hi (w.ownsRow W.heap.size 60 4 vt tree.length (df tree)):=ho;have HR:Hi (w.heap[R]? =U (ix a n c data vt e p)):=hr;unfold ix at hr;have c2:w.cell? (D R 2 Z)=U vt:=by simp[Wc,hr]
 have eS:=lc c2;have bX:W.heap.size<=w.heap.size+1:=by have:=hb.size;omega
 clear hb ho hr;go_enter func144,ntmps144;go_wp2_with (at_builtin;refine wpList_append_lies _ X (.tmp 15) (.tmp 21) 39 X W.heap.size 60 i0 zu 4 40 underlying39 dO cU dA bL X Dc vt tree.length (df tree) X (HO.alloc _) (D w.heap.size 0 Z) 1 1 v.cells X X (World.news_of_block (bl w _)) (by intro u hu;unfold Vl.cells at hu;simp at hu;rcases hu with rfl|rfl|rfl|rfl<;>rfl) Dc (by unfold maxLen;omega) O (by simpa using bX) (w.heap.size+1) Sq ?_);intro g cap w3 h1 h2 h3 h4;have iX:w3.heap[R]? =U (ix a n c data vt e p):=by rw[h2.block R So (fun q=>fg HR HO Dc q.symm),nr w _ _ eS];exact HR
 have hb3:Bw W w3:=by have bO:Bw W (w.alloc (C #[I J v.kind,Y v.text,I J v.alt,I J v.kids] 60)):=HB.alloc HB.size _;exact bO.grown h2 bO.size (fun k hk=>(HO.lt k hk).1)
 have mB:w3.ownsRow W.heap.size 60 4 (S (U (D g 0 Z)) (tree.length+1) cap) (tree++[v]).length (df (tree++[v])):=by rw[La,ff];exact h1
 have FIN:Hi (bm W (w3.setCell (D R 2 Z) (S (U (D g 0 Z)) (tree.length+1) cap)) R a n c data (tree++[v]) e p):=by obtain⟨b1,r1,o1⟩:=Ke 2 (S (U (D g 0 Z)) (tree.length+1) cap) hb3 gK iX mB;exact⟨b1,gK,_,r1,o1⟩
 have b7:Hi (Fr R w (w3.setCell (D R 2 Z) (S (U (D g 0 Z)) (tree.length+1) cap))):=fun k A T hk hT hg=>by
  have aA:k<w.heap.size:=by
   rcases ny k w.heap.size with h'|h';(·exact h');rw[lu h']at hg;cases hg
  rw[ez _ _ _ _ hk,h2.block k So (fun q=>fg hg HO hT q.symm),nr w _ _ aA];exact hg
 unfold ix at iX;have d2:w3.cell? (D R 2 Z)=U vt:=by simp[Wc,iX]
 have g2:w3.frozen? (D R 2 Z)=false:=Fz iX;clear h1 h2 h3 h4 iX hb3 mB c2;go_wp2;go_ret;exact⟨by congr 1,FIN,b7⟩
end
section
open Go.RowKit
structure bh(w:M) where
 v:M
 h:Bw w v
theorem nh(w:M):Nonempty (bh w):=⟨⟨w,By⟩⟩
theorem bh.cell(x:bh w){a:Ad}(h:w.cell? a=U u):x.v.cell? a=U u:=Cb x.h h
theorem bh.block(x:bh w)(h:w.heap[g]? =U o):x.v.heap[g]? =U o:=bc h x.h
theorem bh.old(x:bh (w.alloc o)){a:Ad}(h:w.cell? a=U u):x.v.cell? a=U u:=x.cell ((((cm w.heap.size w).alloc Ln o).cell (bp h)).trans h)
theorem bh.bel(hb:Bw w0 w)(x:bh w):Bw w0 x.v:=Tm hb x.h
theorem bh.far(hb:Bw w0 w)(x:bh w){a:Ad}(h:w0.cell? a=U u):x.v.cell? a=U u:=((bh.bel hb x).cell (bp h)).trans h
theorem bh.new(x:bh (w.alloc (C A T)))(h:A[i]? =U u):x.v.cell? (D w.heap.size i Z)=U u:=x.cell (by have q:=bl w (C A T);unfold Wc;simp only[q];exact h)
theorem nk{P:Program}{id:Nat}{ar:Exit->Act->M->Prop}{a:Act}{w:M}{l:Ls Oper}(hm:P.follows .mixedOrders=true)(hB:Region.lexB .any l.toArray=true)
 (h:wpQuiet P l.toArray (fun w'=>∃x:bh w,w'=x.v) (fun a'=>∀w',(∃x:bh w,w'=x.v)->ar .normal a' w') l a):(Code.region id l.toArray true).wp P ar a w:=
 wp_region_quiet (C:=fun w'=>∃x:bh w,w'=x.v) hm hB ⟨⟨w.drew,(By).drew⟩,X⟩ (by simpa using h)
theorem nj{P:Program}{gM:Array Oper}{ar:Exit->Act->M->Prop}{a:Act}(h:∀w',Bw w w'->ar .normal a w'):
 wpQuiet P gM (fun w'=>∃x:bh w,w'=x.v) (fun a'=>∀w',(∃x:bh w,w'=x.v)->ar .normal a' w') [] a:=fun _ hx=>by obtain⟨x,rfl⟩:=hx;exact h x.v x.h
theorem bh.calls{P:Program}{x:bh w}(h:Cs P f args x.v fun e w'=>e=Rt v/\H x.v.heap.size x.v w'):
 Cs P f args x.v fun e eE=>e=Rt v/\∃y:bh w,eE=y.v:=h.mono fun _ w' q=>⟨q.1,⟨w',Tm x.h q.2⟩,X⟩
theorem bh.callsR{P:Program}{x:bh w}{R:Prop}(hr:r=true↔R)(h:Cs P f args x.v fun e w'=>dw R x.v e w'):Cs P f args x.v fun e eE=>e=Rt (Bo r)/\∃y:bh w,eE=y.v:=h.mono fun _ w' q=>by
 obtain⟨r',rfl,h1,h2⟩:=q;refine⟨?_,⟨w',Tm x.h h2⟩,X⟩;have:r'=r:=by
  cases r<;>cases r';·rfl
  ·exact Ab (hr.2 (h1.1 X)) Sq
  ·exact Ab (h1.2 (hr.1 X)) Sq
  rfl
 rw[this]
theorem It(R:Prop):∃r:Bool,r=true↔R:=by
 by_cases h:R;·exact⟨true,by simp[h]⟩
 exact⟨false,by simp[h]⟩
end
