/- Parts. -/
import Derived.Deep.AppendLies
import Derived.Test.YtkkicodfpekbgaaGreatDoorRows
import Derived.WalkSpells
import Derived.WalkLawsBesides
import Derived.Stop.Asserts
import Derived.RowKitTokens
import Derived.Deep.RegionLaw
import Derived.OrdersHeld
import Derived.Test.YtkkicodfpekbgaaGreatDoorJA
open Go.Value renaming int->I,slice->S,pointer->Po,bool->Bo,agg->Ag,tuple->Tu,iface->If
open Go.IntKind renaming i64->J
open Go.Obj renaming cells->C
open Go.Ending renaming returned->Rt
open Option renaming some->U,none->Z
open Go renaming World->M,Calls->Cs,Addr->Ad,Value->Vv
open _root_ renaming ByteArray->Q,Option->Oo,List->Ls
open Go.World renaming cell?->Wc
open Go.Act renaming eval->Ae
open Go.RowKit renaming Hid->Hi
open Go.Addr renaming mk->D
set_option linter.all false
set_option maxRecDepth 100000
set_option maxHeartbeats 8000000
namespace Go.Proofs.YtkkicodfpekbgaaGreatDoor
variable{a:Act}{l:Array Bool}{gM:Array Oper}{bk:Bool}{done q r V A au:Ls Nat}{w w':M}{i j k x t gO:Nat}{o oi:Oper}{P:Program}{E:Prop}{T:TypeId}{v b c d e f:Vv}
section
open Go
def vu(w w':M)(e:TypeId)(v:Vv)(at_:Nat)(news:Ls Vv):Prop:=
 ∀g aB,v.ownBlock=U g->w.heap[g]? =U (C aB e (0,0))->∃gF:Array Vv,w'.heap[g]? =U (C gF e (0,0))/\gF.size=aB.size/\∀p:Nat,gF[p]? =aB[p]? \/∃j,p=at_+j/\j<news.length/\gF[p]? =news[j]?
theorem ach(w:M)(t ty:TypeId)(base:Nat)(e:TypeId)(i:TypeInfo)(z:Vv)(size bytes:Nat)(ht:P.underlying t=U (.slice e))(hi:P.info? e=U i)(hz:i.zero=U z)(E0:i.size=size)(EB:i.bytes=bytes)(rU:z.cells.size=size)(bX:0<size)(v:Vv)(n:Nat)(xs:Ls Vv)(aG:w.ownsRow base e size v n xs)(ad:Ad)(m c:Nat)(news:Ls Vv)(hl:news.length=m*size)(C3:∀j u,news[j]? =U u->w.cell? (ad.add j)=U u)(h1:∀u∈news,u.oneCell'=true)(hm:0<m)(pS:n+m<=maxLen)(ED:(n+m)*bytes<=140737488355328)(IU:base<=w.heap.size):∃g cap w',(Builtin.append_ #[t,t] ty #[v,S (U ad) m c]).run P w= .ok (S (U (D g 0 Z)) (n+m) cap) w'/\w'.ownsRow base e size (S (U (D g 0 Z)) (n+m) cap) (n+m) (xs++news)/\w.grownBy w' v.ownBlock/\(v.ownBlock=U g\/g=w.heap.size)/\g<w'.heap.size/\vu w w' e v (n*size) news:=by
 obtain⟨g,cap,w',hr,h2,h3,h4,h5⟩:=run_append_lies (P:=P) w t ty base e i z size bytes ht hi hz E0 EB rU bX v n xs aG ad m c news hl C3 h1 hm pS ED IU _ X;refine⟨g,cap,w',hr,h2,h3,h4,h5,fun b aB hb hg=>?_⟩;subst E0 EB;rcases aG.2 with⟨rfl,rfl⟩|⟨g0,O9,DU,rfl,hbg,EI,yM,L4,gP,RU⟩;·cases hb
 obtain rfl:g0=b:=by injection hb
 obtain rfl:DU=aB:=by rw[EI]at hg;injection hg with q;injection q
 by_cases bJ:n+m<=O9
 ·have fV:n*i.size+news.length<=DU.size:=by rw[hl,gP,<-Nat.add_mul];exact Cl _ bJ
  have gY:=run_append_room (P:=P) w t ty e i ht hi g0 n O9 DU EI ad m c news hl C3 h1 bJ fV;rw[hr]at gY;injection gY with _ hw;subst hw;refine⟨_,setRow_heap w g0 DU _ e _ EI,?_,fun p=>?_⟩;·simp only[vy,ff,Ax,ug,ri];omega
  simp only[List.getElem?_toArray];have aA:(DU.toList.take (n*i.size)).length=n*i.size:=So;by_cases p1:p<n*i.size;·left;rw[na,uH O,sh p1];simp
  by_cases p2:p<n*i.size+news.length;·right;refine⟨p-n*i.size,O,O,?_⟩;rw[na,qq O,aA,uH O]
  left;rw[qq So,zj];simp only[ff,aA,Qu];congr 1;omega
 have holds:=aG.cells (g:=g0) X;have gY:=run_append_grow (P:=P) w t ty e i z ht hi hz (D g0 0 Z) n O9 xs aG.1 holds ad m c news hl C3 O (by simp only[maxLen]at pS;omega) (growslice_fits O ED);rw[hr]at gY;injection gY with _ hw;subst hw;have aA:g0<w.heap.size:=by
  rcases ny g0 w.heap.size with h'|h';·exact h'
  rw[lu h']at EI;cases EI
 exact⟨DU,(Go.RowKit.Below.heap_alloc w.drew _ _ aA).trans EI,X,fun p=> .inl X⟩
theorem vu.own{base:Nat}{e:TypeId}{size n:Nat}{xs news:Ls Vv}(h:vu w w' e v (n*size) news)(ho:w.ownsRow base e size v n xs):w'.ownsRow base e size v n xs:=by
 refine⟨ho.1,?_⟩;rcases ho.2 with q|⟨g,cap,aB,rfl,hb,hg,h1,h2,h3,h4⟩;·exact .inl q
 obtain⟨gF,q1,q2,q3⟩:=h g aB X hg;refine .inr ⟨g,cap,gF,X,hb,q1,h1,h2,O,?_⟩;rw[<-h4];refine Rl fun p=>?_;by_cases hp:p<n*size
 ·rw[sh hp,sh hp];rcases q3 p with q|⟨j,rfl,_⟩;·simpa using q
  omega
 rw[xz So,xz So]
theorem ajn{P:Program}(w:M){a:Act}{K:Act->M->Prop}{ar:Exit->Act->M->Prop}(s x:Operand)(t:TypeId)(ho:o.op= .call {callee:= .builtin .append,args:=#[s,x],argTypes:=#[t,t]})(base:Nat)(e:TypeId)(i:TypeInfo)(z:Vv)(size bytes:Nat)(ht:P.underlying t=U (.slice e))(hi:P.info? e=U i)(hz:i.zero=U z)(E0:i.size=size)(EB:i.bytes=bytes)(rU:z.cells.size=size)(bX:0<size)(v:Vv)(n:Nat)(xs:Ls Vv)(hs:a.eval s=v)(aG:w.ownsRow base e size v n xs)(ad:Ad)(m c:Nat)(news:Ls Vv)(hx:a.eval x=S (U ad) m c)(hl:news.length=m*size)(C3:∀j u,news[j]? =U u->w.cell? (ad.add j)=U u)(h1:∀u∈news,u.oneCell'=true)(hm:0<m)(pS:n+m<=maxLen)(ED:(n+m)*bytes<=140737488355328)(IU:base<=w.heap.size)(h:∀g cap w',w'.ownsRow base e size (S (U (D g 0 Z)) (n+m) cap) (n+m) (xs++news)->w.grownBy w' v.ownBlock->vu w w' e v (n*size) news->K (a.put o.dst (S (U (D g 0 Z)) (n+m) cap)) w'):o.wp P a w K ar:=by
 obtain⟨g,cap,w',hr,h2,h3,_,_,h6⟩:=ach (P:=P) w t o.type base e i z size bytes ht hi hz E0 EB rU bX v n xs aG ad m c news hl C3 h1 hm pS ED IU;unfold Oper.wp execOp;simp only[ho,resolve,invoke,builtin,Cu,Sc,Result.andThen_ok,List.map_toArray,uI,zl,hs,hx,hr];exact h g cap w' h2 h3 h6
theorem Dw{P:Program}(w:M){gM:Array Oper}{rest:Ls Oper}{a:Act}{ar:Exit->Act->M->Prop}(CS:o.guard=Z)(s x:Operand)(t:TypeId)
 (ho:o.op= .call {callee:= .builtin .append,args:=#[s,x],argTypes:=#[t,t]})
 (base:Nat)(e:TypeId)(i:TypeInfo)(z:Vv)(size bytes:Nat)(ht:P.underlying t=U (.slice e))(hi:P.info? e=U i)(hz:i.zero=U z)
 (E0:i.size=size)(EB:i.bytes=bytes)(rU:z.cells.size=size)(bX:0<size)
 (v:Vv)(n:Nat)(xs:Ls Vv)(hs:a.eval s=v)(aG:w.ownsRow base e size v n xs)
 (ad:Ad)(m c:Nat)(news:Ls Vv)(hx:a.eval x=S (U ad) m c)(hl:news.length=m*size)(C3:∀j u,news[j]? =U u->w.cell? (ad.add j)=U u)(h1:∀u∈news,u.oneCell'=true)
 (hm:0<m)(pS:n+m<=maxLen)(ED:(n+m)*bytes<=140737488355328)(IU:base<=w.heap.size)
 (h:∀g cap w',w'.ownsRow base e size (S (U (D g 0 Z)) (n+m) cap) (n+m) (xs++news)->w.grownBy w' v.ownBlock->vu w w' e v (n*size) news->wpList P gM ar rest (a.put o.dst (S (U (D g 0 Z)) (n+m) cap)) w'):wpList P gM ar (o::rest) a w:=
 wpList_plain CS fun _ hK=>ajn w s x t ho base e i z size bytes ht hi hz E0 EB rU bX v n xs hs aG ad m c news hx hl C3 h1 hm pS ED IU fun g cap w' h2 h3 h4=>hK _ _ (h g cap w' h2 h3 h4)
end
section
structure Kd where
 node:Int
 opt:Bool
 dflt:Q
structure Nd where
 kind:Int
 tag:Int
 mode:Int
 kids:Ls Kd
def Jr:Nd:=⟨0,0,0,[]⟩
def fy:Kd:=⟨0,false,⟨#[]⟩⟩
def nd(s:Ls Nd)(i:Nat):Nd:=s.getD i Jr
def Nd.opn(n:Nd):Prop:=n.kind=13/\n.tag<0
def Nd.opnB(n:Nd):Bool:=decide (n.kind=13)&&decide (n.tag<0)
theorem Nd.opnB_iff(n:Nd):n.opnB=true↔n.opn:=by simp[Nd.opnB,Nd.opn]
theorem Nd.opnB_yes{n:Nd}(h:n.opn):n.opnB=true:=n.opnB_iff.2 h
theorem Nd.opnB_no{n:Nd}(h:¬n.opn):n.opnB=false:=Bool.eq_false_iff.2 fun q=>h (n.opnB_iff.1 q)
def ig(s:Ls Nd)(i j:Nat):Prop:=∀P:Nat->Prop,P i->(∀(m:Nat) (k:Kd),P m->(nd s m).opn->k∈(nd s m).kids->P k.node.toNat)->P j
theorem ig.refl{s:Ls Nd}:ig s i i:=fun _ h _=>h
theorem ig.step{s:Ls Nd}{k:Kd}(h:ig s i j)(ho:(nd s j).opn)(hk:k∈(nd s j).kids):ig s i k.node.toNat:=fun P h0 hs=>hs j k (h P h0 hs) ho hk
theorem ig.ind{s:Ls Nd}{P:Nat->Prop}(h0:P i)(hs:∀(m:Nat) (k:Kd),ig s i m->(nd s m).opn->k∈(nd s m).kids->P m->P k.node.toNat)(h:ig s i j):P j:=
 (h (fun j=>ig s i j/\P j) ⟨.refl,h0⟩ fun m k q ho hk=>⟨q.1.step ho hk,hs m k q.1 ho hk q.2⟩).2
def se(s:Ls Nd)(i:Nat):Prop:=∃j,ig s i j/\(nd s j).opn/\∃k∈(nd s j).kids,k.node=i
def mz(s:Ls Nd)(i j:Nat):Prop:=ig s i j/\¬(nd s j).opn
def qg(s:Ls Nd):Prop:=∀i,i<s.length->∀k∈(nd s i).kids,0<=k.node/\k.node<s.length
theorem ig.lt{s:Ls Nd}(hw:qg s)(hi:i<s.length)(h:ig s i j):j<s.length:=by refine ig.ind (P:=fun j=>j<s.length) hi (fun m k _ _ hk ih=>?_) h;have:=hw _ ih _ hk;omega
theorem ig.trans{s:Ls Nd}(h1:ig s i j)(h2:ig s j k):ig s i k:=by exact ig.ind (P:=fun k=>ig s i k) h1 (fun _ _ _ ho hk ih=>ih.step ho hk) h2
theorem Bi:∀(n:Nat) (l:Ls Nat),l.Nodup->(∀x∈l,x<n)->l.length<=n
 |0,[],_,_=>Ln
 |0,x::_,_,h=>Ab (h x Sq) O
 |n+1,l,hd,h=>by
  have h2:=Bi n (l.erase n) (hd.erase n) (fun x hx=>by
   have h3:=h x (List.mem_of_mem_erase hx)
   have h4:x≠n:=fun e=>by subst e;exact hd.not_mem_erase hx
   omega)
  have h5:=List.length_erase (a:=n) (l:=l)
  split at h5<;>omega
theorem af7{s:Ls Nd}(hw:qg s)(hk:∀i,i<s.length->(nd s i).opn->(nd s i).kids≠ [])(hb:∀i,i<s.length->¬se s i)(hi:i<s.length):∃j,mz s i j:=by
 apply zg;intro jA;have ho:∀j,ig s i j->(nd s j).opn:=fun j hj=>zg fun h=>jA ⟨j,hj,h⟩;have key:∀n:Nat,∃l:Ls Nat,l.length=n+1/\l.Nodup/\(∀x∈l,ig s i x)/\(∃c r,l=c::r/\∀x∈l,ig s x c):=by
  intro n
  induction n with
  |zero=>exact⟨[i],X,Sq,by simp[ig.refl],i,[],X,by simp[ig.refl]⟩
  |succ n ih=>
   obtain⟨l,hl,hd,hr,c,r,hc,hx⟩:=ih
   have sK:=hr c (by simp[hc])
   have mT:=sK.lt hw hi
   obtain⟨k,ks,pC⟩:=List.exists_cons_of_ne_nil (hk c mT (ho c sK))
   have dK:k∈(nd s c).kids:=by simp[pC]
   have sG:=hw c mT k dK
   have fF:∀x∈l,ig s x k.node.toNat:=fun x h=> .step (hx x h) (ho c sK) dK
   refine⟨k.node.toNat::l,by simp[hl],?_,?_,k.node.toNat,l,X,?_⟩
   ·rw[List.nodup_cons]
    refine⟨fun hm=>?_,hd⟩
    have aA:k.node.toNat<s.length:=O
    exact hb _ aA ⟨c,hx _ hm,ho c sK,k,dK,O⟩
   ·intro x h
    rcases Lo.1 h with rfl|h
    ·exact .step sK (ho c sK) dK
    ·exact hr x h
   ·intro x h
    rcases Lo.1 h with rfl|h
    ·exact .refl
    ·exact fF x h
 obtain⟨l,hl,hd,hr,_⟩:=key s.length;have:=Bi s.length l hd (fun x h=>(hr x h).lt hw hi);omega
def own(k:Int):Int:=[0,1,2,5,6,3,4,12,19,24,16,16,17].getD k.toNat 0
def qh(n:Nd)(c m:Int):Prop:=(0<=n.tag/\c=2/\m=n.tag)\/(n.tag<0/\n.kind=14)\/(n.tag<0/\n.kind≠14/\c=0/\m=own n.kind)
def lv(s:Ls Nd)(i:Nat)(c m:Int):Prop:=∃j,mz s i j/\qh (nd s j) c m
def lz(s:Ls Nd)(i k:Nat):Prop:=∃c m:Int,0<=c/\c<4/\0<=m/\m<31/\lv s i c m/\lv s k c m
def Nd.every(n:Nd):Prop:=n.kind=14/\n.tag<0
def Nd.everyB(n:Nd):Bool:=decide (n.kind=14)&&decide (n.tag<0)
theorem Nd.everyB_iff(n:Nd):n.everyB=true↔n.every:=by simp[Nd.everyB,Nd.every]
theorem Nd.everyB_yes{n:Nd}(h:n.every):n.everyB=true:=n.everyB_iff.2 h
theorem Nd.everyB_no{n:Nd}(h:¬n.every):n.everyB=false:=Bool.eq_false_iff.2 fun q=>h (n.everyB_iff.1 q)
def Nd.outer(n:Nd):Int×Int:=if 0<=n.tag then(2,n.tag)else(0,own n.kind)
theorem zv(n:Nd)(c m:Int):qh n c m↔n.every\/(¬n.every/\n.outer=(c,m)):=by
 unfold qh Nd.every Nd.outer;by_cases h:0<=n.tag
 ·rw[ba h,Prod.mk.injEq];constructor
  ·rintro(⟨_,a,b⟩|⟨a,_⟩|⟨a,_⟩);(·exact .inr ⟨fun q=>O,a.symm,b.symm⟩);(·omega);omega
  rintro(⟨_,a⟩|⟨_,a,b⟩);·omega
  exact .inl ⟨h,a.symm,b.symm⟩
 rw[G h,Prod.mk.injEq];constructor
 ·rintro(⟨a,_⟩|⟨a,b⟩|⟨a,b,e,f⟩);·omega
  ·exact .inl ⟨b,a⟩
  exact .inr ⟨fun q=>b q.1,e.symm,f.symm⟩
 rintro(⟨a,b⟩|⟨a,b,e⟩);·exact .inr (.inl ⟨b,a⟩)
 exact .inr (.inr ⟨O,fun q=>a ⟨q,O⟩,b.symm,e.symm⟩)
theorem ahj(k:Int):0<=own k/\own k<31:=by
 unfold own
 match k.toNat with
 |0|1|2|3|4|5|6|7|8|9|10|11|12=>decide
 |n+13=>simp
def py(s:Ls Nd)(i k:Nat):Prop:=
 (∃j,mz s i j/\(nd s j).every)\/(∃j,mz s k j/\(nd s j).every)\/∃j l,mz s i j/\¬(nd s j).every/\mz s k l/\¬(nd s l).every/\(nd s j).outer=(nd s l).outer
theorem Xs{n:Nd}(h:n.tag<=30):0<=n.outer.1/\n.outer.1<4/\0<=n.outer.2/\n.outer.2<31:=by
 have:=ahj n.kind;unfold Nd.outer;split<;>simp only<;>omega
theorem adm{s:Ls Nd}(ht:∀j,j<s.length->(nd s j).tag<=30)(hw:qg s)(hi:i<s.length)(hk:k<s.length)(MK:∃j,mz s i j)(hlk:∃j,mz s k j):lz s i k↔py s i k:=by
 constructor
 ·rintro⟨c,m,_,_,_,_,⟨j,hj,WR⟩,⟨l,hl,iR⟩⟩;rw[zv]at WR iR;rcases WR with e|⟨e,ej⟩;·exact .inl ⟨j,hj,e⟩
  rcases iR with f|⟨f,fl⟩;·exact .inr (.inl ⟨l,hl,f⟩)
  exact .inr (.inr ⟨j,l,hj,e,hl,f,ej.trans fl.symm⟩)
 have pick:∀{a:Nat},a<s.length->(∃j,mz s a j)->∀{b:Nat},(∃j,mz s b j/\(nd s j).every)->∃c m:Int,0<=c/\c<4/\0<=m/\m<31/\lv s a c m/\lv s b c m:=by
  rintro a ha ⟨l,hl⟩ b ⟨j,hj,e⟩;have hr:=Xs (ht l (hl.1.lt hw ha));refine⟨(nd s l).outer.1,(nd s l).outer.2,hr.1,hr.2.1,hr.2.2.1,hr.2.2.2,⟨l,hl,?_⟩,⟨j,hj,(zv _ _ _).2 (.inl e)⟩⟩;rw[zv];by_cases h:(nd s l).every;·exact .inl h
  exact .inr ⟨h,X⟩
 rintro(h|h|⟨j,l,hj,e,hl,f,eC⟩);·obtain⟨c,m,h1,h2,h3,h4,h5,h6⟩:=pick hk hlk h;exact⟨c,m,h1,h2,h3,h4,h6,h5⟩
 ·exact pick hi MK h
 have hr:=Xs (ht j (hj.1.lt hw hi));exact⟨(nd s j).outer.1,(nd s j).outer.2,hr.1,hr.2.1,hr.2.2.1,hr.2.2.2,⟨j,hj,(zv _ _ _).2 (.inr ⟨e,X⟩)⟩,⟨l,hl,(zv _ _ _).2 (.inr ⟨f,eC.symm⟩)⟩⟩
structure Lv(s:Ls Nd)(i:Nat)(done q:Ls Nat)(bk:Bool):Prop where
 pre:∃r,q=done++r
 mem:i∈q
 nodup:q.Nodup
 rch:∀x∈q,ig s i x
 cl:∀x∈done,(nd s x).opn->∀k∈(nd s x).kids,k.node.toNat∈q
 back:bk=true↔∃x∈done,(nd s x).opn/\∃k∈(nd s x).kids,k.node=i
structure uh(s:Ls Nd)(i:Nat)(done:Ls Nat)(x j:Nat)(q:Ls Nat)(bk:Bool):Prop where
 pre:∃r,q=done++x::r
 mem:i∈q
 nodup:q.Nodup
 rch:∀x∈q,ig s i x
 cl:∀x∈done,(nd s x).opn->∀k∈(nd s x).kids,k.node.toNat∈q
 cl2:∀m,m<j->((nd s x).kids.getD m fy).node.toNat∈q
 back:bk=true↔(∃x∈done,(nd s x).opn/\∃k∈(nd s x).kids,k.node=i)\/∃m,m<j/\((nd s x).kids.getD m fy).node=i
def jx(s:Ls Nd)(l:Ls Nat):Ls Nat:=l.filter (fun j=> !(nd s j).opnB)
theorem Lv.start(s:Ls Nd)(i:Nat):Lv s i [] [i] false where
 pre:=⟨[i],X⟩
 mem:=Sq
 nodup:=Sq
 rch:=fun x hx=>by simp at hx;subst hx;exact .refl
 cl:=fun x hx=>by cases hx
 back:=Sq
theorem Lv.at{s:Ls Nd}(h:Lv s i done q bk)(hl:done.length<q.length):∃x r,q=done++x::r:=by
 obtain⟨r,e⟩:=h.pre
 cases r with
 |nil=>subst e;simp at hl
 |cons x r=>exact⟨x,r,e⟩
theorem Lv.le{s:Ls Nd}(h:Lv s i done q bk):done.length<=q.length:=by obtain⟨r,e⟩:=h.pre;subst e;simp
theorem Lv.len{s:Ls Nd}(h:Lv s i done q bk)(hw:qg s)(hi:i<s.length):q.length<=s.length:=
 Bi _ q h.nodup fun x hx=>(h.rch x hx).lt hw hi
theorem uh.len{s:Ls Nd}(h:uh s i done x j q bk)(hw:qg s)(hi:i<s.length):q.length<=s.length:=
 Bi _ q h.nodup fun x hx=>(h.rch x hx).lt hw hi
theorem Lv.leaf{s:Ls Nd}(h:Lv s i done q bk)(e:q=done++x::r)(ho:¬(nd s x).opn):Lv s i (done++[x]) q bk where
 pre:=⟨r,by simp[e]⟩
 mem:=h.mem
 nodup:=h.nodup
 rch:=h.rch
 cl:=fun y hy iC=>by
  rcases Ek.1 hy with hy|hy
  ·exact h.cl y hy iC
  ·simp at hy;subst hy;exact Ab iC ho
 back:=by
  rw[h.back]
  constructor
  ·rintro⟨y,hy,hr⟩;exact⟨y,by simp[hy],hr⟩
  ·rintro⟨y,hy,iC,hr⟩
   rcases Ek.1 hy with hy|hy
   ·exact⟨y,hy,iC,hr⟩
   ·simp at hy;subst hy;exact Ab iC ho
theorem Xt{s:Ls Nd}(ho:¬(nd s x).opn):jx s (done++[x])=jx s done++[x]:=by unfold jx;rw[Lm];simp[Nd.opnB_no ho]
theorem Xu{s:Ls Nd}(ho:(nd s x).opn):jx s (done++[x])=jx s done:=by unfold jx;rw[Lm];simp[Nd.opnB_yes ho]
theorem Jz(s:Ls Nd)(l:Ls Nat):(jx s l).length<=l.length:=aaA _ _
theorem Lv.mid{s:Ls Nd}(h:Lv s i done q bk)(e:q=done++x::r):uh s i done x 0 q bk where
 pre:=⟨r,e⟩
 mem:=h.mem
 nodup:=h.nodup
 rch:=h.rch
 cl:=h.cl
 cl2:=fun m hm=>Ab hm (dh _)
 back:=by rw[h.back];simp
theorem uh.step_old{s:Ls Nd}(h:uh s i done x j q bk)(ht:((nd s x).kids.getD j fy).node=t)(hm:t∈q):
 uh s i done x (j+1) q (bk||decide ((t:Int)=i)) where
 pre:=h.pre
 mem:=h.mem
 nodup:=h.nodup
 rch:=h.rch
 cl:=h.cl
 cl2:=fun m vH=>by
  by_cases e:m=j
  ·subst e;rw[ht];exact hm
  ·exact h.cl2 m O
 back:=by
  rw[xq,h.back,or_assoc,ur]
  refine Jw zi ⟨?_,?_⟩
  ·rintro(⟨m,h1,h2⟩|e)
   ·exact⟨m,O,h2⟩
   ·exact⟨j,O,ht.trans e⟩
  ·rintro⟨m,h1,h2⟩
   by_cases e:m=j
   ·subst e;exact .inr (ht.symm.trans h2)
   ·exact .inl ⟨m,O,h2⟩
theorem uh.step_new{s:Ls Nd}(h:uh s i done x j q bk)(ht:((nd s x).kids.getD j fy).node=t)(hj:j<(nd s x).kids.length)(ho:(nd s x).opn)(hm:t∉q):uh s i done x (j+1) (q++[t]) (bk||decide ((t:Int)=i)):=by
 have hk:(nd s x).kids.getD j fy∈(nd s x).kids:=by rw[dy,dz hj];exact me hj
 have hx:ig s i x:=by obtain⟨r,e⟩:=h.pre;exact h.rch x (by simp[e])
 have qG:((nd s x).kids.getD j fy).node.toNat=t:=by rw[ht];rfl
 exact {
  pre:=by obtain⟨r,e⟩:=h.pre;exact⟨r++[t],by simp[e]⟩
  mem:=by simp[h.mem]
  nodup:=by rw[List.nodup_append];exact⟨h.nodup,Sq,fun a ha b hb=>by simp at hb;subst hb;intro e;subst e;exact hm ha⟩
  rch:=fun y hy=>by
   rcases Ek.1 hy with hy|hy
   ·exact h.rch y hy
   ·simp at hy;subst hy;rw[<-qG];exact .step hx ho hk
  cl:=fun y hy iC k hk=>Ay _ (h.cl y hy iC k hk)
  cl2:=fun m vH=>by
   by_cases e:m=j
   ·subst e;rw[qG];simp
   ·exact Ay _ (h.cl2 m O)
  back:=(by
   rw[xq,h.back,or_assoc,ur]
   refine Jw zi ⟨?_,?_⟩
   ·rintro(⟨m,h1,h2⟩|e)
    ·exact⟨m,O,h2⟩
    ·exact⟨j,O,ht.trans e⟩
   ·rintro⟨m,h1,h2⟩
    by_cases e:m=j
    ·subst e;exact .inr (ht.symm.trans h2)
    ·exact .inl ⟨m,O,h2⟩)}
theorem uh.finish{s:Ls Nd}(h:uh s i done x (nd s x).kids.length q bk)(ho:(nd s x).opn):Lv s i (done++[x]) q bk:=by
 have wK:∀k∈(nd s x).kids,∃m,m<(nd s x).kids.length/\(nd s x).kids.getD m fy=k:=fun k hk=>by obtain⟨m,hm,e⟩:=zk hk;exact⟨m,hm,by rw[dy,dz hm];exact e⟩
 exact {
  pre:=by obtain⟨r,e⟩:=h.pre;exact⟨r,by simp[e]⟩
  mem:=h.mem
  nodup:=h.nodup
  rch:=h.rch
  cl:=fun y hy iC k hk=>by
   rcases Ek.1 hy with hy|hy
   ·exact h.cl y hy iC k hk
   ·simp at hy;subst hy
    obtain⟨m,hm,e⟩:=wK k hk
    rw[<-e];exact h.cl2 m hm
  back:=by
   rw[h.back]
   constructor
   ·rintro(⟨y,hy,hr⟩|⟨m,hm,e⟩)
    ·exact⟨y,by simp[hy],hr⟩
    ·exact⟨x,Sq,ho,_,by rw[dy,dz hm];exact me hm,e⟩
   ·rintro⟨y,hy,iC,k,hk,e⟩
    rcases Ek.1 hy with hy|hy
    ·exact .inl ⟨y,hy,iC,k,hk,e⟩
    ·simp at hy;subst hy
     obtain⟨m,hm,e'⟩:=wK k hk
     exact .inr ⟨m,hm,by rw[e'];exact e⟩}
theorem Lv.reached{s:Ls Nd}(h:Lv s i q q bk)(hj:ig s i j):j∈q:=by exact ig.ind (P:=fun j=>j∈q) h.mem (fun _ _ _ ho hk ih=>h.cl _ ih ho _ hk) hj
theorem Lv.leaves{s:Ls Nd}(h:Lv s i q q bk)(j:Nat):j∈jx s q↔mz s i j:=by
 unfold jx mz;rw[Lp];simp only[Qz,<-Bool.not_eq_true,Nd.opnB_iff];exact and_congr ⟨fun hm=>h.rch j hm,fun hr=>h.reached hr⟩ zi
theorem Lv.backs{s:Ls Nd}(h:Lv s i q q bk):bk=true↔se s i:=by
 rw[h.back];unfold se;constructor;·rintro⟨x,hx,ho,k,hk,e⟩;exact⟨x,h.rch x hx,ho,k,hk,e⟩
 rintro⟨x,hx,ho,k,hk,e⟩;exact⟨x,h.reached hx,ho,k,hk,e⟩
theorem Lv.done_eq{s:Ls Nd}(h:Lv s i done q bk)(hl:q.length<=done.length):done=q:=by
 obtain⟨r,e⟩:=h.pre;subst e;have:r=[]:=aay (by simp at hl;omega);simp[this]
end
section
open Go.Proofs.Tryz
open Go.RowKit Go.Extern.Stop Go.Stop Go.Extern
theorem abx(v:Vv)(w:M):(Extern.ReflectliteType.typeOf #[If 291 v]).run prog w= .ok (If 220 (Ag #[Po (U (D 19 291 Z))])) w:=Kr
def Uk:Array Vv->Sem Vv:=Extern.ReflectliteType.method fun t=>do Extern.Rtype.noPackHeld "Comparable" t;pure (Bo (<-typeInfo t).comparable)
theorem abv(w:M):(Uk #[Ag #[Po (U (D 19 291 Z))]]).run prog w= .ok (Bo true) w:=Kr
theorem Mk(w:M):(callFunc 237 #[Ag #[Po (U (D 19 291 Z))]]).run prog w= .ok (.value (Bo true)) w:=by rw[@sq prog 237 _ Uk func237 Kr Kr Kr Kr,abv];rfl
theorem Ml(v:Vv)(w:M):(callFunc 90 #[If 291 v]).run prog w= .ok (.value (If 220 (Ag #[Po (U (D 19 291 Z))]))) w:=by rw[@sq prog 90 _ Extern.ReflectliteType.typeOf func90 Kr Kr Kr Kr,abx];rfl
theorem Mo(v:Vv)(w:M):(Go.method 424 220 v "Comparable").run prog w= .ok (237,v) w:=Kr
theorem Mn:(prog.info? 291).map (·.comparable)=U true:=Kr
theorem Mp:(prog.info? 312).map (·.size)=U 1:=Kr
theorem Sm(v:Vv)(xT:TypeId)(w:M):(Instr.typeAssert (If 291 v) xT 222 true).run prog w= .ok (Tu #[.nilIface,Bo false]) w:=run_typeAssert_lacksB underlying222 Kr Kr v xT w
theorem Sr(v:Vv)(xT:TypeId)(w:M):(Instr.typeAssert (If 291 v) xT 225 true).run prog w= .ok (Tu #[.nilIface,Bo false]) w:=run_typeAssert_lacksB underlying225 Kr Kr v xT w
theorem Ss(v:Vv)(xT:TypeId)(w:M):(Instr.typeAssert (If 291 v) xT 227 true).run prog w= .ok (Tu #[.nilIface,Bo false]) w:=run_typeAssert_lacksB underlying227 Kr Kr v xT w
theorem Mt(v:Vv)(xT:TypeId)(w:M):(Instr.typeAssert (If 155 v) xT 222 true).run prog w= .ok (Tu #[.nilIface,Bo false]) w:=run_typeAssert_lacksB underlying222 Kr Kr v xT w
theorem Mm(v:Vv)(xT:TypeId)(w:M):(Instr.typeAssert (If 155 v) xT 225 true).run prog w= .ok (Tu #[If 155 v,Bo true]) w:=run_typeAssert_hasB underlying225 Kr v xT w
theorem Mq(v:Vv)(w:M):(Go.method 424 155 v "Unwrap").run prog w= .ok (231,v) w:=Kr
def be(p:Int)(a:Ad):Vv:=If 155 (Ag #[I J p,If 291 (Po (U a))])
theorem afS(p:Int)(b:Ad)(w:M):Cs prog 59 #[be p b,If 291 (Po (U b))] w fun e w'=>e=Rt (Bo true)/\Bw w w':=by
 obtain⟨i,hi,IW⟩:=Option.map_eq_some_iff.1 Mn;obtain⟨j,hj,ME⟩:=Option.map_eq_some_iff.1 Mp;have h8:=Ml;have VG:=Mk;have mR:=Mo;have nF:=Mt;have uF:=Mm;have mU:=Mq;have heq:=fun w=>run_eql_iface_ptr_same (P:=prog) w b underlying85 underlying291 hi IW hj;have vM:=fun x w=>run_eql_iface_types (P:=prog) 155 291 x (Po (U b)) underlying85 Dc w;unfold be;go_enter func59,ntmps59;go_wp2;refine rh 2 ?_;rw[js];go_wp2;rw[js];go_wp2;go_ret;exact⟨X,Be⟩
theorem afR(p:Int)(a b:Ad)(ca cb:Array Vv)(ta tb:TypeId)(w:M)(aI:a≠b)(ha:w.heap[a.block]? =U (C ca ta (0,0)))(hb:w.heap[b.block]? =U (C cb tb (0,0))):Cs prog 59 #[be p a,If 291 (Po (U b))] w fun e w'=>e=Rt (Bo false)/\Bw w w':=by
 obtain⟨i,hi,IW⟩:=Option.map_eq_some_iff.1 Mn;obtain⟨j,hj,ME⟩:=Option.map_eq_some_iff.1 Mp;have lt:∀{k:Nat} {o:Obj},w.heap[k]? =U o->k<w.heap.size:=fun {k o} h=>by
  rcases ny k w.heap.size with h'|h';·exact h'
  rw[lu h']at h;cases h
 have heq:=fun o=>run_eql_iface_ptr_other (P:=prog) (w.alloc o) underlying85 underlying291 hi IW hj (by rw[ME];decide) aI ((nr w o _ (lt ha)).trans ha) ((nr w o _ (lt hb)).trans hb);clear lt ha hb;have h8:=Ml;have VG:=Mk;have mR:=Mo;have nF:=Mt;have uF:=Mm;have mU:=Mq;have nE:=Sm;have uE:=Sr;have vE:=Ss;have vM:=fun x w=>run_eql_iface_types (P:=prog) 155 291 x (Po (U b)) underlying85 Dc w;unfold be;go_enter func59,ntmps59;go_wp2;refine rh 2 ?_;rw[js];go_wp2;rw[js];go_wp2;go_ret;exact⟨X,Be⟩
theorem afQ(p:Int)(a b:Ad)(w:M)(ha:∃c t,w.heap[a.block]? =U (C c t (0,0)))(hb:∃c t,w.heap[b.block]? =U (C c t (0,0))):Cs prog 59 #[be p a,If 291 (Po (U b))] w fun e w'=>e=Rt (Bo (decide (a=b)))/\Bw w w':=by
 by_cases h:a=b;·subst h;simpa using afS p a w
 obtain⟨c,t,ha⟩:=ha;obtain⟨c',t',hb⟩:=hb;simpa [h]using afR p a b c c' t t' w h ha hb
end
section
open Go.RowKit
abbrev Sn:=Fin 12
def Sn.Long:Sn:=⟨0,Dc⟩
def Sn.End:Sn:=⟨1,Dc⟩
def Sn.Tag:Sn:=⟨2,Dc⟩
def Sn.Length:Sn:=⟨3,Dc⟩
def Sn.Value:Sn:=⟨4,Dc⟩
def Sn.More:Sn:=⟨5,Dc⟩
def Sn.Order:Sn:=⟨6,Dc⟩
def Sn.Default:Sn:=⟨7,Dc⟩
def Sn.Deep:Sn:=⟨8,Dc⟩
def Sn.Tree:Sn:=⟨9,Dc⟩
def Sn.Card:Sn:=⟨10,Dc⟩
def Sn.Mark:Sn:=⟨11,Dc⟩
theorem Sn.all{P:Sn->Prop}(h0:P .Long)(h1:P .End)(h2:P .Tag)(h3:P .Length)(h4:P .Value)(h5:P .More)(h6:P .Order)(h7:P .Default)(h8:P .Deep)(h9:P .Tree)(bG:P .Card)(fZ:P .Mark):∀s,P s
 |⟨0,_⟩=>h0
 |⟨1,_⟩=>h1
 |⟨2,_⟩=>h2
 |⟨3,_⟩=>h3
 |⟨4,_⟩=>h4
 |⟨5,_⟩=>h5
 |⟨6,_⟩=>h6
 |⟨7,_⟩=>h7
 |⟨8,_⟩=>h8
 |⟨9,_⟩=>h9
 |⟨10,_⟩=>bG
 |⟨11,_⟩=>fZ
 |⟨n+12,h⟩=>Ab h O
def Sn.var(s:Sn):Nat:=[0,1,2,3,4,5,6,7,8,9,10,11].getD s.val 0
def Sn.code(s:Sn):Int:=[2,3,4,5,6,7,8,9,10,11,12,13].getD s.val 0
structure ei(w:M)(sn:Sn->Ad):Prop where
 c:∀s:Sn,w.cell? (D s.var 0 Z)=U (If 291 (Po (U (sn s))))
 r:∀s:Sn,∃c t,w.heap[(sn s).block]? =U (C c t (0,0))
 inj:∀s t:Sn,sn s=sn t->s=t
theorem Dd{a:Ad}(h:w.cell? a=U v):a.block<w.heap.size:=by
 rcases ny a.block w.heap.size with h'|h';·exact h'
 simp[Wc,lu h']at h
theorem eb{o:Obj}(h:w.heap[k]? =U o):k<w.heap.size:=by
 rcases ny k w.heap.size with h'|h';·exact h'
 rw[lu h']at h;cases h
theorem ry(h:∃c t,w.heap[k]? =U (C c t (0,0)))(hb:Bw w w'):∃c t,w'.heap[k]? =U (C c t (0,0)):=by obtain⟨c,t,e⟩:=h;exact⟨c,t,(hb.block _ (eb e)).trans e⟩
theorem ei.below{sn:Sn->Ad}(h:ei w sn)(hb:Bw w w'):ei w' sn where
 c:=fun s=>(hb.cell (Dd (h.c s))).trans (h.c s)
 r:=fun s=>ry (h.r s) hb
 inj:=h.inj
theorem wu{W w1:M}(hb:Bw W w1):(∀b o,b<W.heap.size->w1.cell? (D b o Z)=W.cell? (D b o Z))/\(∀b o,b<W.heap.size->w1.frozen? (D b o Z)=W.frozen? (D b o Z)):=
 ⟨fun b o h=>hb.cell (p:=D b o Z) h,fun b o h=>hb.frozen (p:=D b o Z) h⟩
theorem ei.cLong{sn:Sn->Ad}(h:ei w sn):w.cell? (D 0 0 Z)=U (If 291 (Po (U (sn .Long)))):=h.c .Long
theorem ei.cEnd{sn:Sn->Ad}(h:ei w sn):w.cell? (D 1 0 Z)=U (If 291 (Po (U (sn .End)))):=h.c .End
theorem ei.cTag{sn:Sn->Ad}(h:ei w sn):w.cell? (D 2 0 Z)=U (If 291 (Po (U (sn .Tag)))):=h.c .Tag
theorem ei.cLength{sn:Sn->Ad}(h:ei w sn):w.cell? (D 3 0 Z)=U (If 291 (Po (U (sn .Length)))):=h.c .Length
theorem ei.cValue{sn:Sn->Ad}(h:ei w sn):w.cell? (D 4 0 Z)=U (If 291 (Po (U (sn .Value)))):=h.c .Value
theorem ei.cMore{sn:Sn->Ad}(h:ei w sn):w.cell? (D 5 0 Z)=U (If 291 (Po (U (sn .More)))):=h.c .More
theorem ei.cOrder{sn:Sn->Ad}(h:ei w sn):w.cell? (D 6 0 Z)=U (If 291 (Po (U (sn .Order)))):=h.c .Order
theorem ei.cDefault{sn:Sn->Ad}(h:ei w sn):w.cell? (D 7 0 Z)=U (If 291 (Po (U (sn .Default)))):=h.c .Default
theorem ei.cDeep{sn:Sn->Ad}(h:ei w sn):w.cell? (D 8 0 Z)=U (If 291 (Po (U (sn .Deep)))):=h.c .Deep
theorem ei.cTree{sn:Sn->Ad}(h:ei w sn):w.cell? (D 9 0 Z)=U (If 291 (Po (U (sn .Tree)))):=h.c .Tree
theorem ei.cCard{sn:Sn->Ad}(h:ei w sn):w.cell? (D 10 0 Z)=U (If 291 (Po (U (sn .Card)))):=h.c .Card
theorem ei.cMark{sn:Sn->Ad}(h:ei w sn):w.cell? (D 11 0 Z)=U (If 291 (Po (U (sn .Mark)))):=h.c .Mark
theorem ei.cE{sn:Sn->Ad}(h:ei w sn):w.cell? (D 1 0 Z)=U (If 291 (Po (U (sn .End)))):=h.c .End
theorem ei.cT{sn:Sn->Ad}(h:ei w sn):w.cell? (D 2 0 Z)=U (If 291 (Po (U (sn .Tag)))):=h.c .Tag
theorem ei.cL{sn:Sn->Ad}(h:ei w sn):w.cell? (D 3 0 Z)=U (If 291 (Po (U (sn .Length)))):=h.c .Length
def nm(sn:Sn->Ad)(x:Ad):Int:=
 if x=sn .Long then 2 else if x=sn .End then 3 else if x=sn .Tag then 4 else if x=sn .Length then 5 else if x=sn .Value then 6 else if x=sn .More then 7 else if x=sn .Order then 8 else if x=sn .Default then 9 else if x=sn .Deep then 10 else if x=sn .Tree then 11 else if x=sn .Card then 12 else if x=sn .Mark then 13 else 1
theorem ei.nm{sn:Sn->Ad}(h:ei w sn)(s:Sn):nm sn (sn s)=s.code:=by
 have e:∀s t:Sn,s≠t->¬sn s=sn t:=fun s t q p=>q (h.inj s t p);revert s;unfold Go.Proofs.YtkkicodfpekbgaaGreatDoor.nm;refine Sn.all ?_ ?_ ?_ ?_ ?_ ?_ ?_ ?_ ?_ ?_ ?_ ?_;·rw[ba rfl];rfl
 ·rw[G (e .End .Long Dc),ba rfl];rfl
 ·rw[G (e .Tag .Long Dc),G (e .Tag .End Dc),ba rfl];rfl
 ·rw[G (e .Length .Long Dc),G (e .Length .End Dc),G (e .Length .Tag Dc),ba rfl];rfl
 ·rw[G (e .Value .Long Dc),G (e .Value .End Dc),G (e .Value .Tag Dc),G (e .Value .Length Dc),ba rfl];rfl
 ·rw[G (e .More .Long Dc),G (e .More .End Dc),G (e .More .Tag Dc),G (e .More .Length Dc),G (e .More .Value Dc),ba rfl];rfl
 ·rw[G (e .Order .Long Dc),G (e .Order .End Dc),G (e .Order .Tag Dc),G (e .Order .Length Dc),G (e .Order .Value Dc),G (e .Order .More Dc),ba rfl];rfl
 ·rw[G (e .Default .Long Dc),G (e .Default .End Dc),G (e .Default .Tag Dc),G (e .Default .Length Dc),G (e .Default .Value Dc),G (e .Default .More Dc),G (e .Default .Order Dc),ba rfl];rfl
 ·rw[G (e .Deep .Long Dc),G (e .Deep .End Dc),G (e .Deep .Tag Dc),G (e .Deep .Length Dc),G (e .Deep .Value Dc),G (e .Deep .More Dc),G (e .Deep .Order Dc),G (e .Deep .Default Dc),ba rfl];rfl
 ·rw[G (e .Tree .Long Dc),G (e .Tree .End Dc),G (e .Tree .Tag Dc),G (e .Tree .Length Dc),G (e .Tree .Value Dc),G (e .Tree .More Dc),G (e .Tree .Order Dc),G (e .Tree .Default Dc),G (e .Tree .Deep Dc),ba rfl];rfl
 ·rw[G (e .Card .Long Dc),G (e .Card .End Dc),G (e .Card .Tag Dc),G (e .Card .Length Dc),G (e .Card .Value Dc),G (e .Card .More Dc),G (e .Card .Order Dc),G (e .Card .Default Dc),G (e .Card .Deep Dc),G (e .Card .Tree Dc),ba rfl];rfl
 rw[G (e .Mark .Long Dc),G (e .Mark .End Dc),G (e .Mark .Tag Dc),G (e .Mark .Length Dc),G (e .Mark .Value Dc),G (e .Mark .More Dc),G (e .Mark .Order Dc),G (e .Mark .Default Dc),G (e .Mark .Deep Dc),G (e .Mark .Tree Dc),G (e .Mark .Card Dc),ba rfl];rfl
theorem Ph{sn:Sn->Ad}{x:Ad}(h:∀s,x≠sn s):nm sn x=1:=by unfold nm;simp[h]
end
section
structure Re(s:Ls Nd)(i:Nat)(V A au:Ls Nat)(bk:Bool):Prop where
 mem:i∈V++A
 rch:∀x∈V++A,ig s i x
 sin:∀x∈au,x∈V++A
 snd:au.Nodup
 slt:∀x∈au,x<s.length
 cnt:V.length+A.length=1+au.length
 cl:∀x∈V,(nd s x).opn->∀k∈(nd s x).kids,k.node.toNat∈au
 back:bk=true↔∃x∈V,(nd s x).opn/\∃k∈(nd s x).kids,k.node=i
structure ui(s:Ls Nd)(i:Nat)(V:Ls Nat)(x j:Nat)(A au:Ls Nat)(bk:Bool):Prop where
 mem:i∈V++x::A
 rch:∀y∈V++x::A,ig s i y
 sin:∀y∈au,y∈V++x::A
 snd:au.Nodup
 slt:∀y∈au,y<s.length
 cnt:V.length+(A.length+1)=1+au.length
 cl:∀y∈V,(nd s y).opn->∀k∈(nd s y).kids,k.node.toNat∈au
 cl2:∀m,m<j->((nd s x).kids.getD m fy).node.toNat∈au
 back:bk=true↔(∃y∈V,(nd s y).opn/\∃k∈(nd s y).kids,k.node=i)\/∃m,m<j/\((nd s x).kids.getD m fy).node=i
theorem Re.start(s:Ls Nd)(i:Nat):Re s i [] [i] [] false where
 mem:=Sq
 rch:=fun x hx=>by simp at hx;subst hx;exact .refl
 sin:=fun x hx=>by cases hx
 snd:=List.nodup_nil
 slt:=fun x hx=>by cases hx
 cnt:=X
 cl:=fun x hx=>by cases hx
 back:=Sq
theorem Re.len{s:Ls Nd}(h:Re s i V A au bk):V.length+A.length<=1+s.length:=by have:=Bi s.length au h.snd h.slt;have:=h.cnt;omega
theorem ui.len{s:Ls Nd}(h:ui s i V x j A au bk):V.length+A.length<=s.length/\au.length<=s.length:=by have:=Bi s.length au h.snd h.slt;have:=h.cnt;omega
theorem Oz{y:Nat}:y∈V++x::A↔y∈V++[x]++A:=Sq
theorem Re.leaf{s:Ls Nd}(h:Re s i V (A++[x]) au bk)(ho:¬(nd s x).opn):Re s i (V++[x]) A au bk where
 mem:=by have:=h.mem;simp at this ⊢;rcases this with q|q|q<;>simp[q]
 rch:=fun y hy=>h.rch y (by simp at hy ⊢;rcases hy with hy|hy|hy<;>simp[hy])
 sin:=fun y hy=>by have:=h.sin y hy;simp at this ⊢;rcases this with q|q|q<;>simp[q]
 snd:=h.snd
 slt:=h.slt
 cnt:=by have:=h.cnt;simp at this ⊢;omega
 cl:=fun y hy iC=>by
  rcases Ek.1 hy with hy|hy
  ·exact h.cl y hy iC
  ·simp at hy;subst hy;exact Ab iC ho
 back:=by
  rw[h.back]
  constructor
  ·rintro⟨y,hy,hr⟩;exact⟨y,by simp[hy],hr⟩
  ·rintro⟨y,hy,iC,hr⟩
   rcases Ek.1 hy with hy|hy
   ·exact⟨y,hy,iC,hr⟩
   ·simp at hy;subst hy;exact Ab iC ho
theorem Re.mid{s:Ls Nd}(h:Re s i V (A++[x]) au bk):ui s i V x 0 A au bk where
 mem:=by have:=h.mem;simp at this ⊢;rcases this with q|q|q<;>simp[q]
 rch:=fun y hy=>h.rch y (by simp at hy ⊢;rcases hy with hy|hy|hy<;>simp[hy])
 sin:=fun y hy=>by have:=h.sin y hy;simp at this ⊢;rcases this with q|q|q<;>simp[q]
 snd:=h.snd
 slt:=h.slt
 cnt:=by have:=h.cnt;simp at this ⊢;omega
 cl:=h.cl
 cl2:=fun m hm=>Ab hm (dh _)
 back:=by rw[h.back];simp
theorem Tg{P:Prop}{f:Nat->Int}(h:bk=true↔P\/∃m,m<j/\f m=i)(ht:f j=t):(bk||decide ((t:Int)=i))=true↔P\/∃m,m<j+1/\f m=i:=by
 rw[xq,h,or_assoc,ur];refine Jw zi ⟨?_,?_⟩
 ·rintro(⟨m,h1,h2⟩|e);·exact⟨m,O,h2⟩
  exact⟨j,O,ht.trans e⟩
 rintro⟨m,h1,h2⟩;by_cases e:m=j;·subst e;exact .inr (ht.symm.trans h2)
 exact .inl ⟨m,O,h2⟩
theorem ui.step_old{s:Ls Nd}(h:ui s i V x j A au bk)(ht:((nd s x).kids.getD j fy).node=t)(hm:t∈au):
 ui s i V x (j+1) A au (bk||decide ((t:Int)=i)) where
 mem:=h.mem
 rch:=h.rch
 sin:=h.sin
 snd:=h.snd
 slt:=h.slt
 cnt:=h.cnt
 cl:=h.cl
 cl2:=fun m vH=>by
  by_cases e:m=j
  ·subst e;rw[ht];exact hm
  ·exact h.cl2 m O
 back:=Tg (f:=fun m=>((nd s x).kids.getD m fy).node) h.back ht
theorem ui.step_new{s:Ls Nd}(h:ui s i V x j A au bk)(ht:((nd s x).kids.getD j fy).node=t)(hj:j<(nd s x).kids.length)(ho:(nd s x).opn)(bC:t<s.length)(hm:t∉au):ui s i V x (j+1) (A++[t]) (au++[t]) (bk||decide ((t:Int)=i)):=by
 have hk:(nd s x).kids.getD j fy∈(nd s x).kids:=by rw[dy,dz hj];exact me hj
 have hx:=h.rch x Sq;have qG:((nd s x).kids.getD j fy).node.toNat=t:=by rw[ht];rfl
 exact {
  mem:=by have:=h.mem;simp at this ⊢;rcases this with q|q|q<;>simp[q]
  rch:=fun y hy=>by
   rw[<-Ht,<-na]at hy
   rcases Ek.1 hy with hy|hy
   ·exact h.rch y hy
   ·simp at hy;subst hy;rw[<-qG];exact .step hx ho hk
  sin:=fun y hy=>by
   rcases Ek.1 hy with hy|hy
   ·have:=h.sin y hy;simp at this ⊢;rcases this with q|q|q<;>simp[q]
   ·simp at hy;subst hy;simp
  snd:=by rw[List.nodup_append];exact⟨h.snd,Sq,fun a ha b hb=>by simp at hb;subst hb;intro e;subst e;exact hm ha⟩
  slt:=fun y hy=>by
   rcases Ek.1 hy with hy|hy
   ·exact h.slt y hy
   ·simp at hy;subst hy;exact bC
  cnt:=by have:=h.cnt;simp;omega
  cl:=fun y hy iC k hk=>Ay _ (h.cl y hy iC k hk)
  cl2:=fun m vH=>by
   by_cases e:m=j
   ·subst e;rw[qG];simp
   ·exact Ay _ (h.cl2 m O)
  back:=Tg (f:=fun m=>((nd s x).kids.getD m fy).node) h.back ht}
theorem ui.finish{s:Ls Nd}(h:ui s i V x (nd s x).kids.length A au bk)(ho:(nd s x).opn):Re s i (V++[x]) A au bk:=by
 have wK:∀k∈(nd s x).kids,∃m,m<(nd s x).kids.length/\(nd s x).kids.getD m fy=k:=fun k hk=>by obtain⟨m,hm,e⟩:=zk hk;exact⟨m,hm,by rw[dy,dz hm];exact e⟩
 exact {
  mem:=Oz.1 h.mem
  rch:=fun y hy=>h.rch y (Oz.2 hy)
  sin:=fun y hy=>Oz.1 (h.sin y hy)
  snd:=h.snd
  slt:=h.slt
  cnt:=by have:=h.cnt;simp;omega
  cl:=fun y hy iC k hk=>by
   rcases Ek.1 hy with hy|hy
   ·exact h.cl y hy iC k hk
   ·simp at hy;subst hy
    obtain⟨m,hm,e⟩:=wK k hk
    rw[<-e];exact h.cl2 m hm
  back:=by
   rw[h.back]
   constructor
   ·rintro(⟨y,hy,hr⟩|⟨m,hm,e⟩)
    ·exact⟨y,by simp[hy],hr⟩
    ·exact⟨x,Sq,ho,_,by rw[dy,dz hm];exact me hm,e⟩
   ·rintro⟨y,hy,iC,k,hk,e⟩
    rcases Ek.1 hy with hy|hy
    ·exact .inl ⟨y,hy,iC,k,hk,e⟩
    ·simp at hy;subst hy
     obtain⟨m,hm,e'⟩:=wK k hk
     exact .inr ⟨m,hm,by rw[e'];exact e⟩}
theorem Re.reached{s:Ls Nd}(h:Re s i V [] au bk)(hj:ig s i j):j∈V:=by exact ig.ind (P:=fun j=>j∈V) (by simpa using h.mem) (fun _ _ _ ho hk ih=>by simpa using h.sin _ (h.cl _ ih ho _ hk)) hj
theorem Re.leaves{s:Ls Nd}(h:Re s i V [] au bk)(j:Nat):j∈jx s V↔mz s i j:=by
 unfold jx mz;rw[Lp];simp only[Qz,<-Bool.not_eq_true,Nd.opnB_iff];exact and_congr ⟨fun hm=>h.rch j (by simp[hm]),fun hr=>h.reached hr⟩ zi
theorem Re.backs{s:Ls Nd}(h:Re s i V [] au bk):bk=true↔se s i:=by
 rw[h.back];unfold se;constructor;·rintro⟨x,hx,ho,k,hk,e⟩;exact⟨x,h.rch x (by simp[hx]),ho,k,hk,e⟩
 rintro⟨x,hx,ho,k,hk,e⟩;exact⟨x,h.reached hx,ho,k,hk,e⟩
end
section
open Go.RowKit
theorem Bt{P:Program}{gM:Array Oper}{a:Act}{w:M}{K:Act->M->Prop}{ar:Exit->Act->M->Prop}{E:Prop}(CS:o.guard=Z)(f:FuncId)(args:Array Operand)(SE:Array TypeId)(ho:o.op= .call {callee:= .value (.func f),args:=args,argTypes:=SE})(zA:Array Vv)(hv:args.map a.eval=zA)(v:Vv)(au:M->Prop)(sL:(callFunc f zA).run P w= .ok (.enter f zA) w)(hc:Cs P f zA w fun e w'=>e=Rt v/\au w')(hk:∀w',au w'->K (a.put o.dst v) w'):if Region.wanted o (yielded gM a.tmps)=true then Oper.wp P o a w K ar else E:=by
 have hw:Region.wanted o (yielded gM a.tmps)=true:=by simp[Region.wanted,CS]
 rw[ba hw];unfold Oper.wp;simp only[execOp,ho,resolve,invoke];simp[Ae,Deferred.ofValue,hv,sL,Oper.upon_enter];exact hc.mono fun e w' ⟨h1,h2⟩=>by subst h1;exact hk w' h2
theorem Bq{f:FuncId}{fn:Func}{c:Code}(hf:P.funcs[f]? =U fn)(aeD:(fn.name== "runtime.NumGoroutine")=false)(hb:fn.body=U c)(args:Array Vv)(w:M):(callFunc f args).run P w= .ok (.enter f args) w:=by(have h1:fn.name≠ "runtime.NumGoroutine" :=by simpa using aeD);simp[callFunc,hf,h1,hb]
theorem pt{a:Vv}{z:Nat×Nat}(h:w.heap[k]? =U (C #[a,b,c] T z)):w.cell? (D k 0 Z)=U a/\w.cell? (D k 1 Z)=U b/\w.cell? (D k 2 Z)=U c:=by simp[Wc,h]
theorem fi{a:Vv}{z:Nat×Nat}(h:w.heap[k]? =U (C #[a,b,c,d] T z)):w.cell? (D k 0 Z)=U a/\w.cell? (D k 1 Z)=U b/\w.cell? (D k 2 Z)=U c/\w.cell? (D k 3 Z)=U d:=by simp[Wc,h]
theorem uC{a:Vv}{z:Nat×Nat}(h:w.heap[k]? =U (C #[a,b,c,d,e] T z)):w.cell? (D k 0 Z)=U a/\w.cell? (D k 1 Z)=U b/\w.cell? (D k 2 Z)=U c/\w.cell? (D k 3 Z)=U d/\w.cell? (D k 4 Z)=U e:=by simp[Wc,h]
theorem oq{a:Vv}{z:Nat×Nat}(h:w.heap[k]? =U (C #[a,b,c,d,e,f] T z)):w.cell? (D k 0 Z)=U a/\w.cell? (D k 1 Z)=U b/\w.cell? (D k 2 Z)=U c/\w.cell? (D k 3 Z)=U d/\w.cell? (D k 4 Z)=U e/\w.cell? (D k 5 Z)=U f:=by simp[Wc,h]
theorem Ki{a g:Vv}{z:Nat×Nat}(h:w.heap[k]? =U (C #[a,b,c,d,e,f,g] T z)):w.cell? (D k 0 Z)=U a/\w.cell? (D k 1 Z)=U b/\w.cell? (D k 2 Z)=U c/\w.cell? (D k 3 Z)=U d/\w.cell? (D k 4 Z)=U e/\w.cell? (D k 5 Z)=U f/\w.cell? (D k 6 Z)=U g:=by simp[Wc,h]
theorem lc{b o:Nat}{s:Oo Nat}(h:w.cell? ⟨b,o,s⟩=U v):b<w.heap.size:=by
 rcases ny b w.heap.size with q|q;·exact q
 rw[Wc,lu q]at h;cases h
end
section
theorem tk{P:Program}{gM:Array Oper}{ar:Exit->Act->M->Prop}{md:Region.Mode}{au:M->Prop}(i:Nat){oi:Oper}{v:Vv}{gO:Nat}{l:Array Bool}{a:Act}{w:M}
 (h:wpAnyH P md gM ar au gO (l.setIfInBounds i true) (a.put oi.dst v) w)
 (hi:gM[i]? =U oi:=by rfl)(hs:Region.noSelect gM=true:=by kernel_rfl)(hf:Region.free md gM l i=true:=by kernel_rfl)(hr:(Region.ready md gM l).contains i=true:=by kernel_rfl)
 (hQ:∀c a w,ar (.panic c) (a.put oi.dst v) w->ar (.panic c) a w:=by exact fun _ _ _ h=>h)(hg:Region.wanted oi (yielded gM a.tmps)=true:=by rfl)
 (hy:∀w,au w->(execOp a.eval oi).run P w= .ok (.value v) w:=by intro wz hSw;(try dsimp only at hSw);go_simp;all_goals with_reducible rfl)(hS:au w:=by assumption):wpAnyH P md gM ar au (gO+1) l a w:=
 wpAnyH_take hi hs hf hr hQ (.inl ⟨hg,hy⟩) hS h
theorem Qf{P:Program}{gM:Array Oper}{ar:Exit->Act->M->Prop}{md:Region.Mode}{au:M->Prop}(i:Nat){oi:Oper}{gO:Nat}{l:Array Bool}{a:Act}{w:M}
 (h:wpAnyH P md gM ar au gO (l.setIfInBounds i true) (a.put oi.dst undef) w)
 (hi:gM[i]? =U oi:=by rfl)(hs:Region.noSelect gM=true:=by kernel_rfl)(hf:Region.free md gM l i=true:=by kernel_rfl)(hr:(Region.ready md gM l).contains i=true:=by kernel_rfl)
 (hQ:∀c a w,ar (.panic c) (a.put oi.dst undef) w->ar (.panic c) a w:=by exact fun _ _ _ h=>h)(hg:Region.wanted oi (yielded gM a.tmps)=false:=by rfl)(hS:au w:=by assumption):wpAnyH P md gM ar au (gO+1) l a w:=
 wpAnyH_take hi hs hf hr hQ (.inr ⟨hg,X⟩) hS h
end
section
open Go.Proofs.Tryz
open Go.RowKit
theorem uw(p:Int)(a b:Ad)(w:M)(ha:∃c t,w.heap[a.block]? =U (C c t (0,0)))(hb:∃c t,w.heap[b.block]? =U (C c t (0,0))):
 Cs prog 59 #[If 155 (Ag #[I J p,If 291 (Po (U a))]),If 291 (Po (U b))] w fun e w'=>e=Rt (Bo (decide (a=b)))/\Bw w w':=afQ p a b w ha hb
theorem Gf(w:M):Cs prog 34 #[.nilIface] w fun e w'=>e=Rt (I J 0)/\w'=w:=by
 go_enter func34,ntmps34;go_wp2;go_ret;exact⟨X,X⟩
theorem Ge(p:Int)(x:Ad)(w:M)(sn:Sn->Ad)(hs:ei w sn)(hx:∃c t,w.heap[x.block]? =U (C c t (0,0))):Cs prog 34 #[be p x] w fun e w'=>e=Rt (I J (nm sn x))/\Bw w w':=by
 have h0:=hs.cLong;have S0:Hi _:=hs;have X0:Hi _:=hx;have B0:Hi (Bw w w):=By;clear hs hx;unfold be;go_enter func34,ntmps34;go_wp2_with fail;refine(uw p x (sn .Long) w X0 (S0.r .Long)).mono ?_;rintro e w1 ⟨rfl,hb⟩;have B1:Hi _:=Tm B0 hb;have S1:Hi _:=S0.below hb;have X1:Hi _:=ry X0 hb;clear hb h0;by_cases q0:x=sn .Long;·rw[ch q0];(have e:Hi (nm sn x=2):=by show nm sn x=2;unfold nm;rw[ba q0]);go_wp2_with fail;go_ret;exact⟨by rw[e.out];rfl,B1⟩
 rw[br q0];have h1:=S1.out.cEnd;go_wp2_with fail;refine(uw p x (sn .End) w1 X1 (S1.r .End)).mono ?_;rintro e w2 ⟨rfl,hb⟩;have B2:Hi _:=Tm B1 hb;have S2:Hi _:=S1.below hb;have X2:Hi _:=ry X1 hb;clear hb h1;by_cases q1:x=sn .End;·rw[ch q1];(have e:Hi (nm sn x=3):=by show nm sn x=3;unfold nm;rw[G q0,ba q1]);go_wp2_with fail;go_ret;exact⟨by rw[e.out];rfl,B2⟩
 rw[br q1];have h2:=S2.out.cTag;go_wp2_with fail;refine(uw p x (sn .Tag) w2 X2 (S2.r .Tag)).mono ?_;rintro e w3 ⟨rfl,hb⟩;have B3:Hi _:=Tm B2 hb;have S3:Hi _:=S2.below hb;have X3:Hi _:=ry X2 hb;clear hb h2;by_cases q2:x=sn .Tag;·rw[ch q2];(have e:Hi (nm sn x=4):=by show nm sn x=4;unfold nm;rw[G q0,G q1,ba q2]);go_wp2_with fail;go_ret;exact⟨by rw[e.out];rfl,B3⟩
 rw[br q2];have h3:=S3.out.cLength;go_wp2_with fail;refine(uw p x (sn .Length) w3 X3 (S3.r .Length)).mono ?_;rintro e w4 ⟨rfl,hb⟩;have B4:Hi _:=Tm B3 hb;have S4:Hi _:=S3.below hb;have X4:Hi _:=ry X3 hb;clear hb h3;by_cases q3:x=sn .Length;·rw[ch q3];(have e:Hi (nm sn x=5):=by show nm sn x=5;unfold nm;rw[G q0,G q1,G q2,ba q3]);go_wp2_with fail;go_ret;exact⟨by rw[e.out];rfl,B4⟩
 rw[br q3];have h4:=S4.out.cValue;go_wp2_with fail;refine(uw p x (sn .Value) w4 X4 (S4.r .Value)).mono ?_;rintro e w5 ⟨rfl,hb⟩;have B5:Hi _:=Tm B4 hb;have S5:Hi _:=S4.below hb;have X5:Hi _:=ry X4 hb;clear hb h4;by_cases q4:x=sn .Value;·rw[ch q4];(have e:Hi (nm sn x=6):=by show nm sn x=6;unfold nm;rw[G q0,G q1,G q2,G q3,ba q4]);go_wp2_with fail;go_ret;exact⟨by rw[e.out];rfl,B5⟩
 rw[br q4];have h5:=S5.out.cMore;go_wp2_with fail;refine(uw p x (sn .More) w5 X5 (S5.r .More)).mono ?_;rintro e w6 ⟨rfl,hb⟩;have B6:Hi _:=Tm B5 hb;have S6:Hi _:=S5.below hb;have X6:Hi _:=ry X5 hb;clear hb h5;by_cases q5:x=sn .More;·rw[ch q5];(have e:Hi (nm sn x=7):=by show nm sn x=7;unfold nm;rw[G q0,G q1,G q2,G q3,G q4,ba q5]);go_wp2_with fail;go_ret;exact⟨by rw[e.out];rfl,B6⟩
 rw[br q5];have h6:=S6.out.cOrder;go_wp2_with fail;refine(uw p x (sn .Order) w6 X6 (S6.r .Order)).mono ?_;rintro e w7 ⟨rfl,hb⟩;have B7:Hi _:=Tm B6 hb;have S7:Hi _:=S6.below hb;have X7:Hi _:=ry X6 hb;clear hb h6;by_cases q6:x=sn .Order;·rw[ch q6];(have e:Hi (nm sn x=8):=by show nm sn x=8;unfold nm;rw[G q0,G q1,G q2,G q3,G q4,G q5,ba q6]);go_wp2_with fail;go_ret;exact⟨by rw[e.out];rfl,B7⟩
 rw[br q6];have h7:=S7.out.cDefault;go_wp2_with fail;refine(uw p x (sn .Default) w7 X7 (S7.r .Default)).mono ?_;rintro e w8 ⟨rfl,hb⟩;have B8:Hi _:=Tm B7 hb;have S8:Hi _:=S7.below hb;have X8:Hi _:=ry X7 hb;clear hb h7;by_cases q7:x=sn .Default;·rw[ch q7];(have e:Hi (nm sn x=9):=by show nm sn x=9;unfold nm;rw[G q0,G q1,G q2,G q3,G q4,G q5,G q6,ba q7]);go_wp2_with fail;go_ret;exact⟨by rw[e.out];rfl,B8⟩
 rw[br q7];have h8:=S8.out.cDeep;go_wp2_with fail;refine(uw p x (sn .Deep) w8 X8 (S8.r .Deep)).mono ?_;rintro e w9 ⟨rfl,hb⟩;have B9:Hi _:=Tm B8 hb;have S9:Hi _:=S8.below hb;have X9:Hi _:=ry X8 hb;clear hb h8;by_cases q8:x=sn .Deep;·rw[ch q8];(have e:Hi (nm sn x=10):=by show nm sn x=10;unfold nm;rw[G q0,G q1,G q2,G q3,G q4,G q5,G q6,G q7,ba q8]);go_wp2_with fail;go_ret;exact⟨by rw[e.out];rfl,B9⟩
 rw[br q8];have h9:=S9.out.cTree;go_wp2_with fail;refine(uw p x (sn .Tree) w9 X9 (S9.r .Tree)).mono ?_;rintro e lF ⟨rfl,hb⟩;have FI:Hi _:=Tm B9 hb;have O1:Hi _:=S9.below hb;have UZ:Hi _:=ry X9 hb;clear hb h9;by_cases q9:x=sn .Tree;·rw[ch q9];(have e:Hi (nm sn x=11):=by show nm sn x=11;unfold nm;rw[G q0,G q1,G q2,G q3,G q4,G q5,G q6,G q7,G q8,ba q9]);go_wp2_with fail;go_ret;exact⟨by rw[e.out];rfl,FI⟩
 rw[br q9];have bG:=O1.out.cCard;go_wp2_with fail;refine(uw p x (sn .Card) lF UZ (O1.r .Card)).mono ?_;rintro e qL ⟨rfl,hb⟩;have FJ:Hi _:=Tm FI hb;have UY:Hi _:=O1.below hb;have X11:Hi _:=ry UZ hb;clear hb bG;by_cases A2:x=sn .Card;·rw[ch A2];(have e:Hi (nm sn x=12):=by show nm sn x=12;unfold nm;rw[G q0,G q1,G q2,G q3,G q4,G q5,G q6,G q7,G q8,G q9,ba A2]);go_wp2_with fail;go_ret;exact⟨by rw[e.out];rfl,FJ⟩
 rw[br A2];have fZ:=UY.out.cMark;go_wp2_with fail;refine(uw p x (sn .Mark) qL X11 (UY.r .Mark)).mono ?_;rintro e lP ⟨rfl,hb⟩;have J8:Hi _:=Tm FJ hb;clear hb fZ;by_cases M0:x=sn .Mark;·rw[ch M0];(have e:Hi (nm sn x=13):=by show nm sn x=13;unfold nm;rw[G q0,G q1,G q2,G q3,G q4,G q5,G q6,G q7,G q8,G q9,G A2,ba M0]);go_wp2_with fail;go_ret;exact⟨by rw[e.out];rfl,J8⟩
 rw[br M0];have e:Hi (nm sn x=1):=by show nm sn x=1;unfold nm;rw[G q0,G q1,G q2,G q3,G q4,G q5,G q6,G q7,G q8,G q9,G A2,G M0]
 go_wp2_with fail;go_ret;exact⟨by rw[e.out];rfl,J8⟩
theorem Gg(p:Int)(s:Sn)(w:M)(sn:Sn->Ad)(hs:ei w sn):Cs prog 34 #[be p (sn s)] w fun e w'=>e=Rt (I J s.code)/\Bw w w':=by rw[<-hs.nm s];exact Ge p (sn s) w sn hs (hs.r s)
end
section
open Go.RowKit
theorem ait{P:Program}{w:M}{K:Act->M->Prop}{ar:Exit->Act->M->Prop}{E:Prop}(hw:Region.wanted o (yielded gM a.tmps)=true)(f:FuncId)(args:Array Operand)(SE:Array TypeId)(ho:o.op= .call {callee:= .value (.func f),args:=args,argTypes:=SE})(zA:Array Vv)(hv:args.map a.eval=zA)(R:Ending->M->Prop)(sL:(callFunc f zA).run P w= .ok (.enter f zA) w)(hc:Cs P f zA w R)(hk:∀e w',R e w'->∃v,e=Rt v/\K (a.put o.dst v) w'):if Region.wanted o (yielded gM a.tmps)=true then Oper.wp P o a w K ar else E:=by
 rw[ba hw];unfold Oper.wp;simp only[execOp,ho,resolve,invoke];simp[Ae,Deferred.ofValue,hv,sL,Oper.upon_enter];refine hc.mono fun e w' h=>?_;obtain⟨v,rfl,h2⟩:=hk e w' h;exact h2
end
