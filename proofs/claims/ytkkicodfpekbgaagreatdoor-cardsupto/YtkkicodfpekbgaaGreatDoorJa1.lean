/-
Several texts in one.
-/
import Derived.Deep.AppendLies
import Derived.Test.YtkkicodfpekbgaaGreatDoorRows
import Derived.WalkSpells
import Derived.WalkLawsBesides
import Derived.Stop.Asserts
import Derived.RowKitTokens
import Derived.Deep.RegionLaw
import Derived.OrdersHeld
import Derived.Test.YtkkicodfpekbgaaGreatDoorJA
open Go.Value renaming int->I,slice->S,pointer->Po,bool->Bo,agg->Ag,tuple->Tu,iface->If
open Go.IntKind renaming i64->J
open Go.Obj renaming cells->C
open Go.Ending renaming returned->Rt
open Option renaming some->U,none->Z
open Go renaming World->M,Calls->Cs,Addr->Ad,Value->Vv
open _root_ renaming ByteArray->Q,List->Ls
open Go.RowKit renaming Below->H,Hid->Hi
open Go.World renaming cell?->Wc
open Go.Act renaming eval->Ae
open Go.Addr renaming mk->D
set_option linter.unusedSimpArgs false
set_option linter.unusedVariables false
set_option maxRecDepth 100000
set_option maxHeartbeats 8000000
namespace Go.Proofs.YtkkicodfpekbgaaGreatDoor
open Go
def jh(w w':M)(e:TypeId)(v:Vv)(at_:Nat)(news:Ls Vv):Prop:=
 ∀g cur,v.ownBlock=U g->w.heap[g]? =U (C cur e (0,0))->∃cur':Array Vv,w'.heap[g]? =U (C cur' e (0,0))/\cur'.size=cur.size/\∀p:Nat,cur'[p]? =cur[p]? \/∃j,p=at_+j/\j<news.length/\cur'[p]? =news[j]?
theorem vA{P:Program}(w:M)(t ty:TypeId)(base:Nat)(e:TypeId)(i:TypeInfo)(z:Vv)(size bytes:Nat)(ht:P.underlying t=U (.slice e))(hi:P.info? e=U i)(hz:i.zero=U z)(hsize:i.size=size)(hby:i.bytes=bytes)(hzs:z.cells.size=size)(hsz:0<size)(v:Vv)(n:Nat)(xs:Ls Vv)(hown:w.ownsRow base e size v n xs)(ad:Ad)(m c:Nat)(news:Ls Vv)(hl:news.length=m*size)(hnews:∀j u,news[j]? =U u->w.cell? (ad.add j)=U u)(h1:∀u∈news,u.oneCell'=true)(hm:0<m)(h63:n+m<=maxLen)(hbytes:(n+m)*bytes<=140737488355328)(hbase:base<=w.heap.size):∃g cap w',(Builtin.append_ #[t,t] ty #[v,S (U ad) m c]).run P w= .ok (S (U (D g 0 Z)) (n+m) cap) w'/\w'.ownsRow base e size (S (U (D g 0 Z)) (n+m) cap) (n+m) (xs++news)/\w.grownBy w' v.ownBlock/\(v.ownBlock=U g\/g=w.heap.size)/\g<w'.heap.size/\jh w w' e v (n*size) news:=by
 obtain⟨g,cap,w',hr,h2,h3,h4,h5⟩:=run_append_lies (P:=P) w t ty base e i z size bytes ht hi hz hsize hby hzs hsz v n xs hown ad m c news hl hnews h1 hm h63 hbytes hbase _ X;refine⟨g,cap,w',hr,h2,h3,h4,h5,fun b cur hb hg=>?_⟩;subst hsize hby;rcases hown.2 with⟨rfl,rfl⟩|⟨g0,cap0,cur0,rfl,hbg,hg0,hnc,hcm,hcs,htake⟩
 ·cases hb
 obtain rfl:g0=b:=by injection hb
 obtain rfl:cur0=cur:=by rw[hg0]at hg;injection hg with q;injection q
 by_cases hroom:n+m<=cap0
 ·have hfit:n*i.size+news.length<=cur0.size:=by rw[hl,hcs,<-Nat.add_mul];exact iJ _ hroom
  have hr2:=run_append_room (P:=P) w t ty e i ht hi g0 n cap0 cur0 hg0 ad m c news hl hnews h1 hroom hfit;rw[hr]at hr2;injection hr2 with _ hw;subst hw;refine⟨_,setRow_heap w g0 cur0 _ e _ hg0,?_,fun p=>?_⟩
  ·simp only[dy,aQ,gF,di,cq];omega
  simp only[List.getElem?_toArray];have hlt:(cur0.toList.take (n*i.size)).length=n*i.size:=So;by_cases p1:p<n*i.size
  ·left;rw[bE,cm O,bR p1];simp
  by_cases p2:p<n*i.size+news.length
  ·right;refine⟨p-n*i.size,O,O,?_⟩;rw[bE,bu O,hlt,cm O]
  left;rw[bu So,dX];simp only[aQ,hlt,rN];congr 1;omega
 have holds:∀j u,xs[j]? =U u->w.cell? (((D g0 0 Z):Ad).add j)=U u:=hown.cells (g:=g0) X;have hr2:=run_append_grow (P:=P) w t ty e i z ht hi hz (D g0 0 Z) n cap0 xs hown.1 holds ad m c news hl hnews O (by simp only[maxLen]at h63;omega) (growslice_fits O hbytes);rw[hr]at hr2;injection hr2 with _ hw;subst hw;have hlt:g0<w.heap.size:=by
  rcases cG g0 w.heap.size with h'|h'
  ·exact h'
  rw[bj h']at hg0;cases hg0
 exact⟨cur0,(Go.RowKit.Below.heap_alloc w.drew _ _ hlt).trans hg0,X,fun p=> .inl X⟩
theorem jh.own{w w':M}{base:Nat}{e:TypeId}{size:Nat}{v:Vv}{n:Nat}{xs news:Ls Vv}(h:jh w w' e v (n*size) news)(ho:w.ownsRow base e size v n xs):w'.ownsRow base e size v n xs:=by
 refine⟨ho.1,?_⟩;rcases ho.2 with q|⟨g,cap,cur,rfl,hb,hg,h1,h2,h3,h4⟩
 ·exact .inl q
 obtain⟨cur',q1,q2,q3⟩:=h g cur X hg;refine .inr ⟨g,cap,cur',X,hb,q1,h1,h2,O,?_⟩;rw[<-h4];refine List.ext_getElem? fun p=>?_;by_cases hp:p<n*size
 ·rw[bR hp,bR hp];rcases q3 p with q|⟨j,rfl,_⟩
  ·simpa using q
  omega
 rw[eL So,eL So]
theorem rK{P:Program}(w:M){o:Oper}{a:Act}{K:Act->M->Prop}{aq:Exit->Act->M->Prop}(s x:Operand)(t:TypeId)(ho:o.op= .call {callee:= .builtin .append,args:=#[s,x],argTypes:=#[t,t]})(base:Nat)(e:TypeId)(i:TypeInfo)(z:Vv)(size bytes:Nat)(ht:P.underlying t=U (.slice e))(hi:P.info? e=U i)(hz:i.zero=U z)(hsize:i.size=size)(hby:i.bytes=bytes)(hzs:z.cells.size=size)(hsz:0<size)(v:Vv)(n:Nat)(xs:Ls Vv)(hs:a.eval s=v)(hown:w.ownsRow base e size v n xs)(ad:Ad)(m c:Nat)(news:Ls Vv)(hx:a.eval x=S (U ad) m c)(hl:news.length=m*size)(hnews:∀j u,news[j]? =U u->w.cell? (ad.add j)=U u)(h1:∀u∈news,u.oneCell'=true)(hm:0<m)(h63:n+m<=maxLen)(hbytes:(n+m)*bytes<=140737488355328)(hbase:base<=w.heap.size)(h:∀g cap w',w'.ownsRow base e size (S (U (D g 0 Z)) (n+m) cap) (n+m) (xs++news)->w.grownBy w' v.ownBlock->jh w w' e v (n*size) news->K (a.put o.dst (S (U (D g 0 Z)) (n+m) cap)) w'):o.wp P a w K aq:=by
 obtain⟨g,cap,w',hr,h2,h3,_,_,h6⟩:=vA (P:=P) w t o.type base e i z size bytes ht hi hz hsize hby hzs hsz v n xs hown ad m c news hl hnews h1 hm h63 hbytes hbase;unfold Oper.wp execOp;simp only[ho,resolve,invoke,builtin,ky,Ix,Result.andThen_ok,List.map_toArray,gd,jQ,hs,hx,hr];exact h g cap w' h2 h3 h6
theorem ic{P:Program}(w:M){ops:Array Oper}{rest:Ls Oper}{o:Oper}{a:Act}{aq:Exit->Act->M->Prop}(hgd:o.guard=Z)(s x:Operand)(t:TypeId)
 (ho:o.op= .call {callee:= .builtin .append,args:=#[s,x],argTypes:=#[t,t]})
 (base:Nat)(e:TypeId)(i:TypeInfo)(z:Vv)(size bytes:Nat)(ht:P.underlying t=U (.slice e))(hi:P.info? e=U i)(hz:i.zero=U z)
 (hsize:i.size=size)(hby:i.bytes=bytes)(hzs:z.cells.size=size)(hsz:0<size)
 (v:Vv)(n:Nat)(xs:Ls Vv)(hs:a.eval s=v)(hown:w.ownsRow base e size v n xs)
 (ad:Ad)(m c:Nat)(news:Ls Vv)(hx:a.eval x=S (U ad) m c)(hl:news.length=m*size)(hnews:∀j u,news[j]? =U u->w.cell? (ad.add j)=U u)(h1:∀u∈news,u.oneCell'=true)
 (hm:0<m)(h63:n+m<=maxLen)(hbytes:(n+m)*bytes<=140737488355328)(hbase:base<=w.heap.size)
 (h:∀g cap w',w'.ownsRow base e size (S (U (D g 0 Z)) (n+m) cap) (n+m) (xs++news)->w.grownBy w' v.ownBlock->jh w w' e v (n*size) news->wpList P ops aq rest (a.put o.dst (S (U (D g 0 Z)) (n+m) cap)) w'):wpList P ops aq (o::rest) a w:=
 wpList_plain hgd fun _ hK=>rK w s x t ho base e i z size bytes ht hi hz hsize hby hzs hsz v n xs hs hown ad m c news hx hl hnews h1 hm h63 hbytes hbase fun g cap w' h2 h3 h4=>hK _ _ (h g cap w' h2 h3 h4)
end Go.Proofs.YtkkicodfpekbgaaGreatDoor
namespace Go.Proofs.YtkkicodfpekbgaaGreatDoor
structure Kd where
 node:Int
 opt:Bool
 dflt:Q
structure Nd where
 kind:Int
 tag:Int
 mode:Int
 kids:Ls Kd
def Iq:Nd:=⟨0,0,0,[]⟩
def j6:Kd:=⟨0,false,⟨#[]⟩⟩
def nd(s:Ls Nd)(i:Nat):Nd:=s.getD i Iq
def Nd.opn(n:Nd):Prop:=n.kind=13/\n.tag<0
def Nd.opnB(n:Nd):Bool:=decide (n.kind=13)&&decide (n.tag<0)
theorem Nd.opnB_iff(n:Nd):n.opnB=true↔n.opn:=by simp[Nd.opnB,Nd.opn]
theorem Nd.opnB_yes{n:Nd}(h:n.opn):n.opnB=true:=n.opnB_iff.2 h
theorem Nd.opnB_no{n:Nd}(h:¬n.opn):n.opnB=false:=Bool.eq_false_iff.2 fun q=>h (n.opnB_iff.1 q)
def j4(s:Ls Nd)(i j:Nat):Prop:=∀P:Nat->Prop,P i->(∀(m:Nat) (k:Kd),P m->(nd s m).opn->k∈(nd s m).kids->P k.node.toNat)->P j
theorem j4.refl{s:Ls Nd}{i:Nat}:j4 s i i:=fun _ h _=>h
theorem j4.step{s:Ls Nd}{i j:Nat}{k:Kd}(h:j4 s i j)(ho:(nd s j).opn)(hk:k∈(nd s j).kids):j4 s i k.node.toNat:=fun P h0 hs=>hs j k (h P h0 hs) ho hk
theorem j4.ind{s:Ls Nd}{i:Nat}{P:Nat->Prop}(h0:P i)(hs:∀(m:Nat) (k:Kd),j4 s i m->(nd s m).opn->k∈(nd s m).kids->P m->P k.node.toNat){j:Nat}(h:j4 s i j):P j:=
 (h (fun j=>j4 s i j/\P j) ⟨.refl,h0⟩ fun m k q ho hk=>⟨q.1.step ho hk,hs m k q.1 ho hk q.2⟩).2
def kV(s:Ls Nd)(i:Nat):Prop:=∃j,j4 s i j/\(nd s j).opn/\∃k∈(nd s j).kids,k.node=i
def i9(s:Ls Nd)(i j:Nat):Prop:=j4 s i j/\¬(nd s j).opn
def gq(s:Ls Nd):Prop:=∀i,i<s.length->∀k∈(nd s i).kids,0<=k.node/\k.node<s.length
theorem j4.lt{s:Ls Nd}(hw:gq s){i j:Nat}(hi:i<s.length)(h:j4 s i j):j<s.length:=by refine j4.ind (P:=fun j=>j<s.length) hi (fun m k _ _ hk ih=>?_) h;have:=hw _ ih _ hk;omega
theorem j4.trans{s:Ls Nd}{i j k:Nat}(h1:j4 s i j)(h2:j4 s j k):j4 s i k:=by exact j4.ind (P:=fun k=>j4 s i k) h1 (fun _ _ _ ho hk ih=>ih.step ho hk) h2
theorem jC:∀(n:Nat) (l:Ls Nat),l.Nodup->(∀x∈l,x<n)->l.length<=n
 |0,[],_,_=>Ln
 |0,x::_,_,h=>Ab (h x Sq) O
 |n+1,l,hd,h=>by
  have h2:=jC n (l.erase n) (hd.erase n) (fun x hx=>by
   have h3:=h x (List.mem_of_mem_erase hx)
   have h4:x≠n:=fun e=>by subst e;exact hd.not_mem_erase hx
   omega)
  have h5:=List.length_erase (a:=n) (l:=l)
  split at h5<;>omega
theorem Ec{s:Ls Nd}(hw:gq s)(hk:∀i,i<s.length->(nd s i).opn->(nd s i).kids≠ [])(hb:∀i,i<s.length->¬kV s i){i:Nat}(hi:i<s.length):∃j,i9 s i j:=by
 apply cW;intro hno;have ho:∀j,j4 s i j->(nd s j).opn:=fun j hj=>cW fun h=>hno ⟨j,hj,h⟩;have key:∀n:Nat,∃l:Ls Nat,l.length=n+1/\l.Nodup/\(∀x∈l,j4 s i x)/\(∃c r,l=c::r/\∀x∈l,j4 s x c):=by
  intro n
  induction n with
  |zero=>exact⟨[i],X,Sq,by simp[j4.refl],i,[],X,by simp[j4.refl]⟩
  |succ n ih=>
   obtain⟨l,hl,hd,hr,c,r,hc,hx⟩:=ih
   have hrc:j4 s i c:=hr c (by simp[hc])
   have hcl:=hrc.lt hw hi
   obtain⟨k,ks,hks⟩:=List.exists_cons_of_ne_nil (hk c hcl (ho c hrc))
   have hkm:k∈(nd s c).kids:=by simp[hks]
   have hkr:=hw c hcl k hkm
   have hst:∀x∈l,j4 s x k.node.toNat:=fun x h=> .step (hx x h) (ho c hrc) hkm
   refine⟨k.node.toNat::l,by simp[hl],?_,?_,k.node.toNat,l,X,?_⟩
   ·rw[List.nodup_cons]
    refine⟨fun hm=>?_,hd⟩
    have hlt:k.node.toNat<s.length:=O
    exact hb _ hlt ⟨c,hx _ hm,ho c hrc,k,hkm,O⟩
   ·intro x h
    rcases GA.1 h with rfl|h
    ·exact .step hrc (ho c hrc) hkm
    ·exact hr x h
   ·intro x h
    rcases GA.1 h with rfl|h
    ·exact .refl
    ·exact hst x h
 obtain⟨l,hl,hd,hr,_⟩:=key s.length;have:=jC s.length l hd (fun x h=>(hr x h).lt hw hi);omega
def own(k:Int):Int:=[0,1,2,5,6,3,4,12,19,24,16,16,17].getD k.toNat 0
def iW(n:Nd)(c m:Int):Prop:=(0<=n.tag/\c=2/\m=n.tag)\/(n.tag<0/\n.kind=14)\/(n.tag<0/\n.kind≠14/\c=0/\m=own n.kind)
def oQ(s:Ls Nd)(i:Nat)(c m:Int):Prop:=∃j,i9 s i j/\iW (nd s j) c m
def dU(s:Ls Nd)(i k:Nat):Prop:=∃c m:Int,0<=c/\c<4/\0<=m/\m<31/\oQ s i c m/\oQ s k c m
def Nd.every(n:Nd):Prop:=n.kind=14/\n.tag<0
def Nd.everyB(n:Nd):Bool:=decide (n.kind=14)&&decide (n.tag<0)
theorem Nd.everyB_iff(n:Nd):n.everyB=true↔n.every:=by simp[Nd.everyB,Nd.every]
theorem Nd.everyB_yes{n:Nd}(h:n.every):n.everyB=true:=n.everyB_iff.2 h
theorem Nd.everyB_no{n:Nd}(h:¬n.every):n.everyB=false:=Bool.eq_false_iff.2 fun q=>h (n.everyB_iff.1 q)
def Nd.outer(n:Nd):Int×Int:=if 0<=n.tag then(2,n.tag)else(0,own n.kind)
theorem ig(n:Nd)(c m:Int):iW n c m↔n.every\/(¬n.every/\n.outer=(c,m)):=by
 unfold iW Nd.every Nd.outer;by_cases h:0<=n.tag
 ·rw[aG h,Prod.mk.injEq];constructor
  ·rintro(⟨_,a,b⟩|⟨a,_⟩|⟨a,_⟩)
   ·exact .inr ⟨fun q=>O,a.symm,b.symm⟩
   ·omega
   omega
  rintro(⟨_,a⟩|⟨_,a,b⟩)
  ·omega
  exact .inl ⟨h,a.symm,b.symm⟩
 rw[G h,Prod.mk.injEq];constructor
 ·rintro(⟨a,_⟩|⟨a,b⟩|⟨a,b,e,f⟩)
  ·omega
  ·exact .inl ⟨b,a⟩
  exact .inr ⟨fun q=>b q.1,e.symm,f.symm⟩
 rintro(⟨a,b⟩|⟨a,b,e⟩)
 ·exact .inr (.inl ⟨b,a⟩)
 exact .inr (.inr ⟨O,fun q=>a ⟨q,O⟩,b.symm,e.symm⟩)
theorem Bi(k:Int):0<=own k/\own k<31:=by
 unfold own
 match k.toNat with
 |0|1|2|3|4|5|6|7|8|9|10|11|12=>decide
 |n+13=>simp
def gH(s:Ls Nd)(i k:Nat):Prop:=
 (∃j,i9 s i j/\(nd s j).every)\/(∃j,i9 s k j/\(nd s j).every)\/∃j l,i9 s i j/\¬(nd s j).every/\i9 s k l/\¬(nd s l).every/\(nd s j).outer=(nd s l).outer
theorem pd{n:Nd}(h:n.tag<=30):0<=n.outer.1/\n.outer.1<4/\0<=n.outer.2/\n.outer.2<31:=by
 have:=Bi n.kind;unfold Nd.outer;split<;>simp only<;>omega
theorem x9{s:Ls Nd}(ht:∀j,j<s.length->(nd s j).tag<=30)(hw:gq s){i k:Nat}(hi:i<s.length)(hk:k<s.length)(hli:∃j,i9 s i j)(hlk:∃j,i9 s k j):dU s i k↔gH s i k:=by
 constructor
 ·rintro⟨c,m,_,_,_,_,⟨j,hj,hbj⟩,⟨l,hl,hbl⟩⟩;rw[ig]at hbj hbl;rcases hbj with e|⟨e,ej⟩
  ·exact .inl ⟨j,hj,e⟩
  rcases hbl with f|⟨f,fl⟩
  ·exact .inr (.inl ⟨l,hl,f⟩)
  exact .inr (.inr ⟨j,l,hj,e,hl,f,ej.trans fl.symm⟩)
 have pick:∀{a:Nat},a<s.length->(∃j,i9 s a j)->∀{b:Nat},(∃j,i9 s b j/\(nd s j).every)->∃c m:Int,0<=c/\c<4/\0<=m/\m<31/\oQ s a c m/\oQ s b c m:=by
  rintro a ha ⟨l,hl⟩ b ⟨j,hj,e⟩;have hr:=pd (ht l (hl.1.lt hw ha));refine⟨(nd s l).outer.1,(nd s l).outer.2,hr.1,hr.2.1,hr.2.2.1,hr.2.2.2,⟨l,hl,?_⟩,⟨j,hj,(ig _ _ _).2 (.inl e)⟩⟩;rw[ig];by_cases h:(nd s l).every
  ·exact .inl h
  exact .inr ⟨h,X⟩
 rintro(h|h|⟨j,l,hj,e,hl,f,hjl⟩)
 ·obtain⟨c,m,h1,h2,h3,h4,h5,h6⟩:=pick hk hlk h;exact⟨c,m,h1,h2,h3,h4,h6,h5⟩
 ·exact pick hi hli h
 have hr:=pd (ht j (hj.1.lt hw hi));exact⟨(nd s j).outer.1,(nd s j).outer.2,hr.1,hr.2.1,hr.2.2.1,hr.2.2.2,⟨j,hj,(ig _ _ _).2 (.inr ⟨e,X⟩)⟩,⟨l,hl,(ig _ _ _).2 (.inr ⟨f,hjl.symm⟩)⟩⟩
structure Lv(s:Ls Nd)(i:Nat)(done q:Ls Nat)(bk:Bool):Prop where
 pre:∃r,q=done++r
 mem:i∈q
 nodup:q.Nodup
 rch:∀x∈q,j4 s i x
 cl:∀x∈done,(nd s x).opn->∀k∈(nd s x).kids,k.node.toNat∈q
 back:bk=true↔∃x∈done,(nd s x).opn/\∃k∈(nd s x).kids,k.node=i
structure BL(s:Ls Nd)(i:Nat)(done:Ls Nat)(x j:Nat)(q:Ls Nat)(bk:Bool):Prop where
 pre:∃r,q=done++x::r
 mem:i∈q
 nodup:q.Nodup
 rch:∀x∈q,j4 s i x
 cl:∀x∈done,(nd s x).opn->∀k∈(nd s x).kids,k.node.toNat∈q
 cl2:∀m,m<j->((nd s x).kids.getD m j6).node.toNat∈q
 back:bk=true↔(∃x∈done,(nd s x).opn/\∃k∈(nd s x).kids,k.node=i)\/∃m,m<j/\((nd s x).kids.getD m j6).node=i
def ia(s:Ls Nd)(l:Ls Nat):Ls Nat:=l.filter (fun j=> !(nd s j).opnB)
theorem Lv.start(s:Ls Nd)(i:Nat):Lv s i [] [i] false where
 pre:=⟨[i],X⟩
 mem:=Sq
 nodup:=Sq
 rch:=fun x hx=>by simp at hx;subst hx;exact .refl
 cl:=fun x hx=>by cases hx
 back:=Sq
theorem Lv.at{s:Ls Nd}{i:Nat}{done q:Ls Nat}{bk:Bool}(h:Lv s i done q bk)(hl:done.length<q.length):∃x r,q=done++x::r:=by
 obtain⟨r,e⟩:=h.pre
 cases r with
 |nil=>subst e;simp at hl
 |cons x r=>exact⟨x,r,e⟩
theorem Lv.le{s:Ls Nd}{i:Nat}{done q:Ls Nat}{bk:Bool}(h:Lv s i done q bk):done.length<=q.length:=by obtain⟨r,e⟩:=h.pre;subst e;simp
theorem Lv.len{s:Ls Nd}{i:Nat}{done q:Ls Nat}{bk:Bool}(h:Lv s i done q bk)(hw:gq s)(hi:i<s.length):q.length<=s.length:=
 jC _ q h.nodup fun x hx=>(h.rch x hx).lt hw hi
theorem BL.len{s:Ls Nd}{i:Nat}{done q:Ls Nat}{x j:Nat}{bk:Bool}(h:BL s i done x j q bk)(hw:gq s)(hi:i<s.length):q.length<=s.length:=
 jC _ q h.nodup fun x hx=>(h.rch x hx).lt hw hi
theorem Lv.leaf{s:Ls Nd}{i:Nat}{done q r:Ls Nat}{bk:Bool}{x:Nat}(h:Lv s i done q bk)(e:q=done++x::r)(ho:¬(nd s x).opn):Lv s i (done++[x]) q bk where
 pre:=⟨r,by simp[e]⟩
 mem:=h.mem
 nodup:=h.nodup
 rch:=h.rch
 cl:=fun y hy hyo=>by
  rcases DG.1 hy with hy|hy
  ·exact h.cl y hy hyo
  ·simp at hy;subst hy;exact Ab hyo ho
 back:=by
  rw[h.back]
  constructor
  ·rintro⟨y,hy,hr⟩;exact⟨y,by simp[hy],hr⟩
  ·rintro⟨y,hy,hyo,hr⟩
   rcases DG.1 hy with hy|hy
   ·exact⟨y,hy,hyo,hr⟩
   ·simp at hy;subst hy;exact Ab hyo ho
theorem sY{s:Ls Nd}{done:Ls Nat}{x:Nat}(ho:¬(nd s x).opn):ia s (done++[x])=ia s done++[x]:=by unfold ia;rw[mL];simp[Nd.opnB_no ho]
theorem sZ{s:Ls Nd}{done:Ls Nat}{x:Nat}(ho:(nd s x).opn):ia s (done++[x])=ia s done:=by unfold ia;rw[mL];simp[Nd.opnB_yes ho]
theorem pG(s:Ls Nd)(l:Ls Nat):(ia s l).length<=l.length:=H8 _ _
theorem Lv.mid{s:Ls Nd}{i:Nat}{done q r:Ls Nat}{bk:Bool}{x:Nat}(h:Lv s i done q bk)(e:q=done++x::r):BL s i done x 0 q bk where
 pre:=⟨r,e⟩
 mem:=h.mem
 nodup:=h.nodup
 rch:=h.rch
 cl:=h.cl
 cl2:=fun m hm=>Ab hm (aO _)
 back:=by rw[h.back];simp
theorem BL.step_old{s:Ls Nd}{i:Nat}{done q:Ls Nat}{x j t:Nat}{bk:Bool}(h:BL s i done x j q bk)(ht:((nd s x).kids.getD j j6).node=t)(hm:t∈q):
 BL s i done x (j+1) q (bk||decide ((t:Int)=i)) where
 pre:=h.pre
 mem:=h.mem
 nodup:=h.nodup
 rch:=h.rch
 cl:=h.cl
 cl2:=fun m hm'=>by
  by_cases e:m=j
  ·subst e;rw[ht];exact hm
  ·exact h.cl2 m O
 back:=by
  rw[eH,h.back,or_assoc,cK]
  refine Fg px ⟨?_,?_⟩
  ·rintro(⟨m,h1,h2⟩|e)
   ·exact⟨m,O,h2⟩
   ·exact⟨j,O,ht.trans e⟩
  ·rintro⟨m,h1,h2⟩
   by_cases e:m=j
   ·subst e;exact .inr (ht.symm.trans h2)
   ·exact .inl ⟨m,O,h2⟩
theorem BL.step_new{s:Ls Nd}{i:Nat}{done q:Ls Nat}{x j t:Nat}{bk:Bool}(h:BL s i done x j q bk)(ht:((nd s x).kids.getD j j6).node=t)(hj:j<(nd s x).kids.length)(ho:(nd s x).opn)(hm:t∉q):BL s i done x (j+1) (q++[t]) (bk||decide ((t:Int)=i)):=by
 have hk:(nd s x).kids.getD j j6∈(nd s x).kids:=by rw[aB,aC hj];exact bz hj
 have hx:j4 s i x:=by obtain⟨r,e⟩:=h.pre;exact h.rch x (by simp[e])
 have ht':((nd s x).kids.getD j j6).node.toNat=t:=by rw[ht];rfl
 exact {
  pre:=by obtain⟨r,e⟩:=h.pre;exact⟨r++[t],by simp[e]⟩
  mem:=by simp[h.mem]
  nodup:=by rw[aL];exact⟨h.nodup,Sq,fun a ha b hb=>by simp at hb;subst hb;intro e;subst e;exact hm ha⟩
  rch:=fun y hy=>by
   rcases DG.1 hy with hy|hy
   ·exact h.rch y hy
   ·simp at hy;subst hy;rw[<-ht'];exact .step hx ho hk
  cl:=fun y hy hyo k hk=>lu _ (h.cl y hy hyo k hk)
  cl2:=fun m hm'=>by
   by_cases e:m=j
   ·subst e;rw[ht'];simp
   ·exact lu _ (h.cl2 m O)
  back:=(by
   rw[eH,h.back,or_assoc,cK]
   refine Fg px ⟨?_,?_⟩
   ·rintro(⟨m,h1,h2⟩|e)
    ·exact⟨m,O,h2⟩
    ·exact⟨j,O,ht.trans e⟩
   ·rintro⟨m,h1,h2⟩
    by_cases e:m=j
    ·subst e;exact .inr (ht.symm.trans h2)
    ·exact .inl ⟨m,O,h2⟩)}
theorem BL.finish{s:Ls Nd}{i:Nat}{done q:Ls Nat}{x:Nat}{bk:Bool}(h:BL s i done x (nd s x).kids.length q bk)(ho:(nd s x).opn):Lv s i (done++[x]) q bk:=by
 have hget:∀k∈(nd s x).kids,∃m,m<(nd s x).kids.length/\(nd s x).kids.getD m j6=k:=fun k hk=>by obtain⟨m,hm,e⟩:=dN hk;exact⟨m,hm,by rw[aB,aC hm];exact e⟩
 exact {
  pre:=by obtain⟨r,e⟩:=h.pre;exact⟨r,by simp[e]⟩
  mem:=h.mem
  nodup:=h.nodup
  rch:=h.rch
  cl:=fun y hy hyo k hk=>by
   rcases DG.1 hy with hy|hy
   ·exact h.cl y hy hyo k hk
   ·simp at hy;subst hy
    obtain⟨m,hm,e⟩:=hget k hk
    rw[<-e];exact h.cl2 m hm
  back:=by
   rw[h.back]
   constructor
   ·rintro(⟨y,hy,hr⟩|⟨m,hm,e⟩)
    ·exact⟨y,by simp[hy],hr⟩
    ·exact⟨x,Sq,ho,_,by rw[aB,aC hm];exact bz hm,e⟩
   ·rintro⟨y,hy,hyo,k,hk,e⟩
    rcases DG.1 hy with hy|hy
    ·exact .inl ⟨y,hy,hyo,k,hk,e⟩
    ·simp at hy;subst hy
     obtain⟨m,hm,e'⟩:=hget k hk
     exact .inr ⟨m,hm,by rw[e'];exact e⟩}
theorem Lv.reached{s:Ls Nd}{i:Nat}{q:Ls Nat}{bk:Bool}(h:Lv s i q q bk){j:Nat}(hj:j4 s i j):j∈q:=by exact j4.ind (P:=fun j=>j∈q) h.mem (fun _ _ _ ho hk ih=>h.cl _ ih ho _ hk) hj
theorem Lv.leaves{s:Ls Nd}{i:Nat}{q:Ls Nat}{bk:Bool}(h:Lv s i q q bk)(j:Nat):j∈ia s q↔i9 s i j:=by
 unfold ia i9;rw[pT];simp only[zr,<-Bool.not_eq_true,Nd.opnB_iff];exact and_congr ⟨fun hm=>h.rch j hm,fun hr=>h.reached hr⟩ px
theorem Lv.backs{s:Ls Nd}{i:Nat}{q:Ls Nat}{bk:Bool}(h:Lv s i q q bk):bk=true↔kV s i:=by
 rw[h.back];unfold kV;constructor
 ·rintro⟨x,hx,ho,k,hk,e⟩;exact⟨x,h.rch x hx,ho,k,hk,e⟩
 rintro⟨x,hx,ho,k,hk,e⟩;exact⟨x,h.reached hx,ho,k,hk,e⟩
theorem Lv.done_eq{s:Ls Nd}{i:Nat}{done q:Ls Nat}{bk:Bool}(h:Lv s i done q bk)(hl:q.length<=done.length):done=q:=by
 obtain⟨r,e⟩:=h.pre;subst e;have:r=[]:=BS (by simp at hl;omega);simp[this]
end Go.Proofs.YtkkicodfpekbgaaGreatDoor
namespace Go.Proofs.YtkkicodfpekbgaaGreatDoor
open Go.Proofs.Tryz
open Go.RowKit Go.Extern.Stop Go.Stop Go.Extern
theorem rX(v:Vv)(w:M):(Extern.ReflectliteType.typeOf #[If 291 v]).run prog w= .ok (If 220 (Ag #[Po (U (D 19 291 Z))])) w:=Kr
def sD:Array Vv->Sem Vv:=Extern.ReflectliteType.method fun t=>do Extern.Rtype.noPackHeld "Comparable" t;pure (Bo (<-typeInfo t).comparable)
theorem ny(w:M):(sD #[Ag #[Po (U (D 19 291 Z))]]).run prog w= .ok (Bo true) w:=Kr
theorem gN(w:M):(callFunc 237 #[Ag #[Po (U (D 19 291 Z))]]).run prog w= .ok (.value (Bo true)) w:=by rw[@cf prog 237 _ sD func237 Kr Kr Kr Kr,ny];rfl
theorem jb(v:Vv)(w:M):(callFunc 90 #[If 291 v]).run prog w= .ok (.value (If 220 (Ag #[Po (U (D 19 291 Z))]))) w:=by rw[@cf prog 90 _ Extern.ReflectliteType.typeOf func90 Kr Kr Kr Kr,rX];rfl
theorem fo(v:Vv)(w:M):(Go.method 424 220 v "Comparable").run prog w= .ok (237,v) w:=Kr
theorem lE:(prog.info? 291).map (·.comparable)=U true:=Kr
theorem lF:(prog.info? 312).map (·.size)=U 1:=Kr
theorem qb(v:Vv)(xT:TypeId)(w:M):(Instr.typeAssert (If 291 v) xT 222 true).run prog w= .ok (Tu #[.nilIface,Bo false]) w:=run_typeAssert_lacksB underlying222 Kr Kr v xT w
theorem lH(v:Vv)(xT:TypeId)(w:M):(Instr.typeAssert (If 291 v) xT 225 true).run prog w= .ok (Tu #[.nilIface,Bo false]) w:=run_typeAssert_lacksB underlying225 Kr Kr v xT w
theorem lx(v:Vv)(xT:TypeId)(w:M):(Instr.typeAssert (If 291 v) xT 227 true).run prog w= .ok (Tu #[.nilIface,Bo false]) w:=run_typeAssert_lacksB underlying227 Kr Kr v xT w
theorem mV(v:Vv)(xT:TypeId)(w:M):(Instr.typeAssert (If 155 v) xT 222 true).run prog w= .ok (Tu #[.nilIface,Bo false]) w:=run_typeAssert_lacksB underlying222 Kr Kr v xT w
theorem jc(v:Vv)(xT:TypeId)(w:M):(Instr.typeAssert (If 155 v) xT 225 true).run prog w= .ok (Tu #[If 155 v,Bo true]) w:=run_typeAssert_hasB underlying225 Kr v xT w
theorem ir(v:Vv)(w:M):(Go.method 424 155 v "Unwrap").run prog w= .ok (231,v) w:=Kr
def aX(p:Int)(a:Ad):Vv:=If 155 (Ag #[I J p,If 291 (Po (U a))])
theorem Ea(p:Int)(b:Ad)(w:M):Cs prog 59 #[aX p b,If 291 (Po (U b))] w fun e w'=>e=Rt (Bo true)/\H w.heap.size w w':=by
 obtain⟨i,hi,hcmp⟩:=Option.map_eq_some_iff.1 lE;obtain⟨j,hj,hjs⟩:=Option.map_eq_some_iff.1 lF;have h8:=jb;have h32:=gN;have mR:=fo;have nF:=mV;have uF:=jc;have mU:=ir;have heq:=fun w=>run_eql_iface_ptr_same (P:=prog) w b underlying85 underlying291 hi hcmp hj;have hty:=fun x w=>run_eql_iface_types (P:=prog) 155 291 x (Po (U b)) underlying85 Dc w;unfold aX;go_enter func59,ntmps59;go_wp2;refine eJ 2 ?_;rw[ch];go_wp2;rw[ch];go_wp2;go_ret;exact⟨X,Be⟩
theorem CP(p:Int)(a b:Ad)(ca cb:Array Vv)(ta tb:TypeId)(w:M)(hne:a≠b)(ha:w.heap[a.block]? =U (C ca ta (0,0)))(hb:w.heap[b.block]? =U (C cb tb (0,0))):Cs prog 59 #[aX p a,If 291 (Po (U b))] w fun e w'=>e=Rt (Bo false)/\H w.heap.size w w':=by
 obtain⟨i,hi,hcmp⟩:=Option.map_eq_some_iff.1 lE;obtain⟨j,hj,hjs⟩:=Option.map_eq_some_iff.1 lF;have lt:∀{k:Nat} {o:Obj},w.heap[k]? =U o->k<w.heap.size:=fun {k o} h=>by
  rcases cG k w.heap.size with h'|h'
  ·exact h'
  rw[bj h']at h;cases h
 have heq:=fun o=>run_eql_iface_ptr_other (P:=prog) (w.alloc o) underlying85 underlying291 hi hcmp hj (by rw[hjs];decide) hne ((bM w o _ (lt ha)).trans ha) ((bM w o _ (lt hb)).trans hb);clear lt ha hb;have h8:=jb;have h32:=gN;have mR:=fo;have nF:=mV;have uF:=jc;have mU:=ir;have nE:=qb;have uE:=lH;have vE:=lx;have hty:=fun x w=>run_eql_iface_types (P:=prog) 155 291 x (Po (U b)) underlying85 Dc w;unfold aX;go_enter func59,ntmps59;go_wp2;refine eJ 2 ?_;rw[ch];go_wp2;rw[ch];go_wp2;go_ret;exact⟨X,Be⟩
theorem F1(p:Int)(a b:Ad)(w:M)(ha:∃c t,w.heap[a.block]? =U (C c t (0,0)))(hb:∃c t,w.heap[b.block]? =U (C c t (0,0))):Cs prog 59 #[aX p a,If 291 (Po (U b))] w fun e w'=>e=Rt (Bo (decide (a=b)))/\H w.heap.size w w':=by
 by_cases h:a=b
 ·subst h;simpa using Ea p a w
 obtain⟨c,t,ha⟩:=ha;obtain⟨c',t',hb⟩:=hb;simpa [h]using CP p a b c c' t t' w h ha hb
end Go.Proofs.YtkkicodfpekbgaaGreatDoor
namespace Go.Proofs.YtkkicodfpekbgaaGreatDoor
open Go.RowKit
abbrev Sn:=Fin 12
def Sn.Long:Sn:=⟨0,Dc⟩
def Sn.End:Sn:=⟨1,Dc⟩
def Sn.Tag:Sn:=⟨2,Dc⟩
def Sn.Length:Sn:=⟨3,Dc⟩
def Sn.Value:Sn:=⟨4,Dc⟩
def Sn.More:Sn:=⟨5,Dc⟩
def Sn.Order:Sn:=⟨6,Dc⟩
def Sn.Default:Sn:=⟨7,Dc⟩
def Sn.Deep:Sn:=⟨8,Dc⟩
def Sn.Tree:Sn:=⟨9,Dc⟩
def Sn.Card:Sn:=⟨10,Dc⟩
def Sn.Mark:Sn:=⟨11,Dc⟩
theorem Sn.all{P:Sn->Prop}(h0:P .Long)(h1:P .End)(h2:P .Tag)(h3:P .Length)(h4:P .Value)(h5:P .More)(h6:P .Order)(h7:P .Default)(h8:P .Deep)(h9:P .Tree)(h10:P .Card)(h11:P .Mark):∀s,P s
 |⟨0,_⟩=>h0
 |⟨1,_⟩=>h1
 |⟨2,_⟩=>h2
 |⟨3,_⟩=>h3
 |⟨4,_⟩=>h4
 |⟨5,_⟩=>h5
 |⟨6,_⟩=>h6
 |⟨7,_⟩=>h7
 |⟨8,_⟩=>h8
 |⟨9,_⟩=>h9
 |⟨10,_⟩=>h10
 |⟨11,_⟩=>h11
 |⟨n+12,h⟩=>Ab h O
def Sn.var(s:Sn):Nat:=[0,1,2,3,4,5,6,7,8,9,10,11].getD s.val 0
def Sn.code(s:Sn):Int:=[2,3,4,5,6,7,8,9,10,11,12,13].getD s.val 0
structure dC(w:M)(sn:Sn->Ad):Prop where
 c:∀s:Sn,w.cell? (D s.var 0 Z)=U (If 291 (Po (U (sn s))))
 r:∀s:Sn,∃c t,w.heap[(sn s).block]? =U (C c t (0,0))
 inj:∀s t:Sn,sn s=sn t->s=t
theorem kZ{w:M}{a:Ad}{v:Vv}(h:w.cell? a=U v):a.block<w.heap.size:=by
 rcases cG a.block w.heap.size with h'|h'
 ·exact h'
 simp[Wc,bj h']at h
theorem bm{w:M}{k:Nat}{o:Obj}(h:w.heap[k]? =U o):k<w.heap.size:=by
 rcases cG k w.heap.size with h'|h'
 ·exact h'
 rw[bj h']at h;cases h
theorem dQ{w w':M}{k:Nat}(h:∃c t,w.heap[k]? =U (C c t (0,0)))(hb:H w.heap.size w w'):∃c t,w'.heap[k]? =U (C c t (0,0)):=by obtain⟨c,t,e⟩:=h;exact⟨c,t,(hb.block _ (bm e)).trans e⟩
theorem dC.below{w w':M}{sn:Sn->Ad}(h:dC w sn)(hb:H w.heap.size w w'):dC w' sn where
 c:=fun s=>(hb.cell (kZ (h.c s))).trans (h.c s)
 r:=fun s=>dQ (h.r s) hb
 inj:=h.inj
theorem mN{W w1:M}(hb:H W.heap.size W w1):(∀b o,b<W.heap.size->w1.cell? (D b o Z)=W.cell? (D b o Z))/\(∀b o,b<W.heap.size->w1.frozen? (D b o Z)=W.frozen? (D b o Z)):=
 ⟨fun b o h=>hb.cell (p:=D b o Z) h,fun b o h=>hb.frozen (p:=D b o Z) h⟩
theorem dC.cLong{w:M}{sn:Sn->Ad}(h:dC w sn):w.cell? (D 0 0 Z)=U (If 291 (Po (U (sn .Long)))):=h.c .Long
theorem dC.cEnd{w:M}{sn:Sn->Ad}(h:dC w sn):w.cell? (D 1 0 Z)=U (If 291 (Po (U (sn .End)))):=h.c .End
theorem dC.cTag{w:M}{sn:Sn->Ad}(h:dC w sn):w.cell? (D 2 0 Z)=U (If 291 (Po (U (sn .Tag)))):=h.c .Tag
theorem dC.cLength{w:M}{sn:Sn->Ad}(h:dC w sn):w.cell? (D 3 0 Z)=U (If 291 (Po (U (sn .Length)))):=h.c .Length
theorem dC.cValue{w:M}{sn:Sn->Ad}(h:dC w sn):w.cell? (D 4 0 Z)=U (If 291 (Po (U (sn .Value)))):=h.c .Value
theorem dC.cMore{w:M}{sn:Sn->Ad}(h:dC w sn):w.cell? (D 5 0 Z)=U (If 291 (Po (U (sn .More)))):=h.c .More
theorem dC.cOrder{w:M}{sn:Sn->Ad}(h:dC w sn):w.cell? (D 6 0 Z)=U (If 291 (Po (U (sn .Order)))):=h.c .Order
theorem dC.cDefault{w:M}{sn:Sn->Ad}(h:dC w sn):w.cell? (D 7 0 Z)=U (If 291 (Po (U (sn .Default)))):=h.c .Default
theorem dC.cDeep{w:M}{sn:Sn->Ad}(h:dC w sn):w.cell? (D 8 0 Z)=U (If 291 (Po (U (sn .Deep)))):=h.c .Deep
theorem dC.cTree{w:M}{sn:Sn->Ad}(h:dC w sn):w.cell? (D 9 0 Z)=U (If 291 (Po (U (sn .Tree)))):=h.c .Tree
theorem dC.cCard{w:M}{sn:Sn->Ad}(h:dC w sn):w.cell? (D 10 0 Z)=U (If 291 (Po (U (sn .Card)))):=h.c .Card
theorem dC.cMark{w:M}{sn:Sn->Ad}(h:dC w sn):w.cell? (D 11 0 Z)=U (If 291 (Po (U (sn .Mark)))):=h.c .Mark
theorem dC.cE{w:M}{sn:Sn->Ad}(h:dC w sn):w.cell? (D 1 0 Z)=U (If 291 (Po (U (sn .End)))):=h.c .End
theorem dC.cT{w:M}{sn:Sn->Ad}(h:dC w sn):w.cell? (D 2 0 Z)=U (If 291 (Po (U (sn .Tag)))):=h.c .Tag
theorem dC.cL{w:M}{sn:Sn->Ad}(h:dC w sn):w.cell? (D 3 0 Z)=U (If 291 (Po (U (sn .Length)))):=h.c .Length
def nm(sn:Sn->Ad)(x:Ad):Int:=
 if x=sn .Long then 2 else if x=sn .End then 3 else if x=sn .Tag then 4 else if x=sn .Length then 5 else if x=sn .Value then 6 else if x=sn .More then 7 else if x=sn .Order then 8 else if x=sn .Default then 9 else if x=sn .Deep then 10 else if x=sn .Tree then 11 else if x=sn .Card then 12 else if x=sn .Mark then 13 else 1
theorem dC.nm{w:M}{sn:Sn->Ad}(h:dC w sn)(s:Sn):nm sn (sn s)=s.code:=by
 have e:∀s t:Sn,s≠t->¬sn s=sn t:=fun s t q p=>q (h.inj s t p);revert s;unfold Go.Proofs.YtkkicodfpekbgaaGreatDoor.nm;refine Sn.all ?_ ?_ ?_ ?_ ?_ ?_ ?_ ?_ ?_ ?_ ?_ ?_
 ·rw[aG rfl];rfl
 ·rw[G (e .End .Long Dc),aG rfl];rfl
 ·rw[G (e .Tag .Long Dc),G (e .Tag .End Dc),aG rfl];rfl
 ·rw[G (e .Length .Long Dc),G (e .Length .End Dc),G (e .Length .Tag Dc),aG rfl];rfl
 ·rw[G (e .Value .Long Dc),G (e .Value .End Dc),G (e .Value .Tag Dc),G (e .Value .Length Dc),aG rfl];rfl
 ·rw[G (e .More .Long Dc),G (e .More .End Dc),G (e .More .Tag Dc),G (e .More .Length Dc),G (e .More .Value Dc),aG rfl];rfl
 ·rw[G (e .Order .Long Dc),G (e .Order .End Dc),G (e .Order .Tag Dc),G (e .Order .Length Dc),G (e .Order .Value Dc),G (e .Order .More Dc),aG rfl];rfl
 ·rw[G (e .Default .Long Dc),G (e .Default .End Dc),G (e .Default .Tag Dc),G (e .Default .Length Dc),G (e .Default .Value Dc),G (e .Default .More Dc),G (e .Default .Order Dc),aG rfl];rfl
 ·rw[G (e .Deep .Long Dc),G (e .Deep .End Dc),G (e .Deep .Tag Dc),G (e .Deep .Length Dc),G (e .Deep .Value Dc),G (e .Deep .More Dc),G (e .Deep .Order Dc),G (e .Deep .Default Dc),aG rfl];rfl
 ·rw[G (e .Tree .Long Dc),G (e .Tree .End Dc),G (e .Tree .Tag Dc),G (e .Tree .Length Dc),G (e .Tree .Value Dc),G (e .Tree .More Dc),G (e .Tree .Order Dc),G (e .Tree .Default Dc),G (e .Tree .Deep Dc),aG rfl];rfl
 ·rw[G (e .Card .Long Dc),G (e .Card .End Dc),G (e .Card .Tag Dc),G (e .Card .Length Dc),G (e .Card .Value Dc),G (e .Card .More Dc),G (e .Card .Order Dc),G (e .Card .Default Dc),G (e .Card .Deep Dc),G (e .Card .Tree Dc),aG rfl];rfl
 rw[G (e .Mark .Long Dc),G (e .Mark .End Dc),G (e .Mark .Tag Dc),G (e .Mark .Length Dc),G (e .Mark .Value Dc),G (e .Mark .More Dc),G (e .Mark .Order Dc),G (e .Mark .Default Dc),G (e .Mark .Deep Dc),G (e .Mark .Tree Dc),G (e .Mark .Card Dc),aG rfl];rfl
theorem Eg{sn:Sn->Ad}{x:Ad}(h:∀s,x≠sn s):nm sn x=1:=by unfold nm;simp[h]
end Go.Proofs.YtkkicodfpekbgaaGreatDoor
namespace Go.Proofs.YtkkicodfpekbgaaGreatDoor
structure Re(s:Ls Nd)(i:Nat)(V A ar:Ls Nat)(bk:Bool):Prop where
 mem:i∈V++A
 rch:∀x∈V++A,j4 s i x
 sin:∀x∈ar,x∈V++A
 snd:ar.Nodup
 slt:∀x∈ar,x<s.length
 cnt:V.length+A.length=1+ar.length
 cl:∀x∈V,(nd s x).opn->∀k∈(nd s x).kids,k.node.toNat∈ar
 back:bk=true↔∃x∈V,(nd s x).opn/\∃k∈(nd s x).kids,k.node=i
structure BN(s:Ls Nd)(i:Nat)(V:Ls Nat)(x j:Nat)(A ar:Ls Nat)(bk:Bool):Prop where
 mem:i∈V++x::A
 rch:∀y∈V++x::A,j4 s i y
 sin:∀y∈ar,y∈V++x::A
 snd:ar.Nodup
 slt:∀y∈ar,y<s.length
 cnt:V.length+(A.length+1)=1+ar.length
 cl:∀y∈V,(nd s y).opn->∀k∈(nd s y).kids,k.node.toNat∈ar
 cl2:∀m,m<j->((nd s x).kids.getD m j6).node.toNat∈ar
 back:bk=true↔(∃y∈V,(nd s y).opn/\∃k∈(nd s y).kids,k.node=i)\/∃m,m<j/\((nd s x).kids.getD m j6).node=i
theorem Re.start(s:Ls Nd)(i:Nat):Re s i [] [i] [] false where
 mem:=Sq
 rch:=fun x hx=>by simp at hx;subst hx;exact .refl
 sin:=fun x hx=>by cases hx
 snd:=List.nodup_nil
 slt:=fun x hx=>by cases hx
 cnt:=X
 cl:=fun x hx=>by cases hx
 back:=Sq
theorem Re.len{s:Ls Nd}{i:Nat}{V A ar:Ls Nat}{bk:Bool}(h:Re s i V A ar bk):V.length+A.length<=1+s.length:=by have:=jC s.length ar h.snd h.slt;have:=h.cnt;omega
theorem BN.len{s:Ls Nd}{i:Nat}{V A ar:Ls Nat}{x j:Nat}{bk:Bool}(h:BN s i V x j A ar bk):V.length+A.length<=s.length/\ar.length<=s.length:=by have:=jC s.length ar h.snd h.slt;have:=h.cnt;omega
theorem ux{V A:Ls Nat}{x y:Nat}:y∈V++x::A↔y∈V++[x]++A:=Sq
theorem Re.leaf{s:Ls Nd}{i x:Nat}{V A ar:Ls Nat}{bk:Bool}(h:Re s i V (A++[x]) ar bk)(ho:¬(nd s x).opn):Re s i (V++[x]) A ar bk where
 mem:=by have:=h.mem;simp at this ⊢;rcases this with q|q|q<;>simp[q]
 rch:=fun y hy=>h.rch y (by simp at hy ⊢;rcases hy with hy|hy|hy<;>simp[hy])
 sin:=fun y hy=>by have:=h.sin y hy;simp at this ⊢;rcases this with q|q|q<;>simp[q]
 snd:=h.snd
 slt:=h.slt
 cnt:=by have:=h.cnt;simp at this ⊢;omega
 cl:=fun y hy hyo=>by
  rcases DG.1 hy with hy|hy
  ·exact h.cl y hy hyo
  ·simp at hy;subst hy;exact Ab hyo ho
 back:=by
  rw[h.back]
  constructor
  ·rintro⟨y,hy,hr⟩;exact⟨y,by simp[hy],hr⟩
  ·rintro⟨y,hy,hyo,hr⟩
   rcases DG.1 hy with hy|hy
   ·exact⟨y,hy,hyo,hr⟩
   ·simp at hy;subst hy;exact Ab hyo ho
theorem Re.mid{s:Ls Nd}{i x:Nat}{V A ar:Ls Nat}{bk:Bool}(h:Re s i V (A++[x]) ar bk):BN s i V x 0 A ar bk where
 mem:=by have:=h.mem;simp at this ⊢;rcases this with q|q|q<;>simp[q]
 rch:=fun y hy=>h.rch y (by simp at hy ⊢;rcases hy with hy|hy|hy<;>simp[hy])
 sin:=fun y hy=>by have:=h.sin y hy;simp at this ⊢;rcases this with q|q|q<;>simp[q]
 snd:=h.snd
 slt:=h.slt
 cnt:=by have:=h.cnt;simp at this ⊢;omega
 cl:=h.cl
 cl2:=fun m hm=>Ab hm (aO _)
 back:=by rw[h.back];simp
theorem sA{P:Prop}{f:Nat->Int}{j t i:Nat}{bk:Bool}(h:bk=true↔P\/∃m,m<j/\f m=i)(ht:f j=t):(bk||decide ((t:Int)=i))=true↔P\/∃m,m<j+1/\f m=i:=by
 rw[eH,h,or_assoc,cK];refine Fg px ⟨?_,?_⟩
 ·rintro(⟨m,h1,h2⟩|e)
  ·exact⟨m,O,h2⟩
  exact⟨j,O,ht.trans e⟩
 rintro⟨m,h1,h2⟩;by_cases e:m=j
 ·subst e;exact .inr (ht.symm.trans h2)
 exact .inl ⟨m,O,h2⟩
theorem BN.step_old{s:Ls Nd}{i:Nat}{V A ar:Ls Nat}{x j t:Nat}{bk:Bool}(h:BN s i V x j A ar bk)(ht:((nd s x).kids.getD j j6).node=t)(hm:t∈ar):
 BN s i V x (j+1) A ar (bk||decide ((t:Int)=i)) where
 mem:=h.mem
 rch:=h.rch
 sin:=h.sin
 snd:=h.snd
 slt:=h.slt
 cnt:=h.cnt
 cl:=h.cl
 cl2:=fun m hm'=>by
  by_cases e:m=j
  ·subst e;rw[ht];exact hm
  ·exact h.cl2 m O
 back:=sA (f:=fun m=>((nd s x).kids.getD m j6).node) h.back ht
theorem BN.step_new{s:Ls Nd}{i:Nat}{V A ar:Ls Nat}{x j t:Nat}{bk:Bool}(h:BN s i V x j A ar bk)(ht:((nd s x).kids.getD j j6).node=t)(hj:j<(nd s x).kids.length)(ho:(nd s x).opn)(htl:t<s.length)(hm:t∉ar):BN s i V x (j+1) (A++[t]) (ar++[t]) (bk||decide ((t:Int)=i)):=by
 have hk:(nd s x).kids.getD j j6∈(nd s x).kids:=by rw[aB,aC hj];exact bz hj
 have hx:j4 s i x:=h.rch x Sq;have ht':((nd s x).kids.getD j j6).node.toNat=t:=by rw[ht];rfl
 exact {
  mem:=by have:=h.mem;simp at this ⊢;rcases this with q|q|q<;>simp[q]
  rch:=fun y hy=>by
   rw[<-kU,<-bE]at hy
   rcases DG.1 hy with hy|hy
   ·exact h.rch y hy
   ·simp at hy;subst hy;rw[<-ht'];exact .step hx ho hk
  sin:=fun y hy=>by
   rcases DG.1 hy with hy|hy
   ·have:=h.sin y hy;simp at this ⊢;rcases this with q|q|q<;>simp[q]
   ·simp at hy;subst hy;simp
  snd:=by rw[aL];exact⟨h.snd,Sq,fun a ha b hb=>by simp at hb;subst hb;intro e;subst e;exact hm ha⟩
  slt:=fun y hy=>by
   rcases DG.1 hy with hy|hy
   ·exact h.slt y hy
   ·simp at hy;subst hy;exact htl
  cnt:=by have:=h.cnt;simp;omega
  cl:=fun y hy hyo k hk=>lu _ (h.cl y hy hyo k hk)
  cl2:=fun m hm'=>by
   by_cases e:m=j
   ·subst e;rw[ht'];simp
   ·exact lu _ (h.cl2 m O)
  back:=sA (f:=fun m=>((nd s x).kids.getD m j6).node) h.back ht}
theorem BN.finish{s:Ls Nd}{i:Nat}{V A ar:Ls Nat}{x:Nat}{bk:Bool}(h:BN s i V x (nd s x).kids.length A ar bk)(ho:(nd s x).opn):Re s i (V++[x]) A ar bk:=by
 have hget:∀k∈(nd s x).kids,∃m,m<(nd s x).kids.length/\(nd s x).kids.getD m j6=k:=fun k hk=>by obtain⟨m,hm,e⟩:=dN hk;exact⟨m,hm,by rw[aB,aC hm];exact e⟩
 exact {
  mem:=ux.1 h.mem
  rch:=fun y hy=>h.rch y (ux.2 hy)
  sin:=fun y hy=>ux.1 (h.sin y hy)
  snd:=h.snd
  slt:=h.slt
  cnt:=by have:=h.cnt;simp;omega
  cl:=fun y hy hyo k hk=>by
   rcases DG.1 hy with hy|hy
   ·exact h.cl y hy hyo k hk
   ·simp at hy;subst hy
    obtain⟨m,hm,e⟩:=hget k hk
    rw[<-e];exact h.cl2 m hm
  back:=by
   rw[h.back]
   constructor
   ·rintro(⟨y,hy,hr⟩|⟨m,hm,e⟩)
    ·exact⟨y,by simp[hy],hr⟩
    ·exact⟨x,Sq,ho,_,by rw[aB,aC hm];exact bz hm,e⟩
   ·rintro⟨y,hy,hyo,k,hk,e⟩
    rcases DG.1 hy with hy|hy
    ·exact .inl ⟨y,hy,hyo,k,hk,e⟩
    ·simp at hy;subst hy
     obtain⟨m,hm,e'⟩:=hget k hk
     exact .inr ⟨m,hm,by rw[e'];exact e⟩}
theorem Re.reached{s:Ls Nd}{i:Nat}{V ar:Ls Nat}{bk:Bool}(h:Re s i V [] ar bk){j:Nat}(hj:j4 s i j):j∈V:=by exact j4.ind (P:=fun j=>j∈V) (by simpa using h.mem) (fun _ _ _ ho hk ih=>by simpa using h.sin _ (h.cl _ ih ho _ hk)) hj
theorem Re.leaves{s:Ls Nd}{i:Nat}{V ar:Ls Nat}{bk:Bool}(h:Re s i V [] ar bk)(j:Nat):j∈ia s V↔i9 s i j:=by
 unfold ia i9;rw[pT];simp only[zr,<-Bool.not_eq_true,Nd.opnB_iff];exact and_congr ⟨fun hm=>h.rch j (by simp[hm]),fun hr=>h.reached hr⟩ px
theorem Re.backs{s:Ls Nd}{i:Nat}{V ar:Ls Nat}{bk:Bool}(h:Re s i V [] ar bk):bk=true↔kV s i:=by
 rw[h.back];unfold kV;constructor
 ·rintro⟨x,hx,ho,k,hk,e⟩;exact⟨x,h.rch x (by simp[hx]),ho,k,hk,e⟩
 rintro⟨x,hx,ho,k,hk,e⟩;exact⟨x,h.reached hx,ho,k,hk,e⟩
end Go.Proofs.YtkkicodfpekbgaaGreatDoor
namespace Go.Proofs.YtkkicodfpekbgaaGreatDoor
open Go.RowKit
theorem ib{P:Program}{ops:Array Oper}{o:Oper}{a:Act}{w:M}{K:Act->M->Prop}{aq:Exit->Act->M->Prop}{E:Prop}(hgd:o.guard=Z)(f:FuncId)(args:Array Operand)(tys:Array TypeId)(ho:o.op= .call {callee:= .value (.func f),args:=args,argTypes:=tys})(vals:Array Vv)(hv:args.map a.eval=vals)(v:Vv)(ar:M->Prop)(hrun:(callFunc f vals).run P w= .ok (.enter f vals) w)(hc:Cs P f vals w fun e w'=>e=Rt v/\ar w')(hk:∀w',ar w'->K (a.put o.dst v) w'):if Region.wanted o (yielded ops a.tmps)=true then Oper.wp P o a w K aq else E:=by
 have hw:Region.wanted o (yielded ops a.tmps)=true:=by simp[Region.wanted,hgd]
 rw[aG hw];unfold Oper.wp;simp only[execOp,ho,resolve,invoke];simp[Ae,Deferred.ofValue,hv,hrun,Oper.upon_enter];exact hc.mono fun e w' ⟨h1,h2⟩=>by subst h1;exact hk w' h2
theorem eY{P:Program}{f:FuncId}{fn:Func}{c:Code}(hf:P.funcs[f]? =U fn)(hname:(fn.name== "runtime.NumGoroutine")=false)(hb:fn.body=U c)(args:Array Vv)(w:M):(callFunc f args).run P w= .ok (.enter f args) w:=by(have h1:fn.name≠ "runtime.NumGoroutine" :=by simpa using hname);simp[callFunc,hf,h1,hb]
end Go.Proofs.YtkkicodfpekbgaaGreatDoor
namespace Go.Proofs.YtkkicodfpekbgaaGreatDoor
theorem tk{P:Program}{ops:Array Oper}{aq:Exit->Act->M->Prop}{md:Region.Mode}{ar:M->Prop}(i:Nat){oi:Oper}{v:Vv}{fuel:Nat}{l:Array Bool}{a:Act}{w:M}
 (h:wpAnyH P md ops aq ar fuel (l.setIfInBounds i true) (a.put oi.dst v) w)
 (hi:ops[i]? =U oi:=by rfl)(hs:Region.noSelect ops=true:=by kernel_rfl)(hf:Region.free md ops l i=true:=by kernel_rfl)(hr:(Region.ready md ops l).contains i=true:=by kernel_rfl)
 (hQ:∀c a w,aq (.panic c) (a.put oi.dst v) w->aq (.panic c) a w:=by exact fun _ _ _ h=>h)(hg:Region.wanted oi (yielded ops a.tmps)=true:=by rfl)
 (hy:∀w,ar w->(execOp a.eval oi).run P w= .ok (.value v) w:=by intro wz hSw;(try dsimp only at hSw);go_simp;all_goals with_reducible rfl)(hS:ar w:=by assumption):wpAnyH P md ops aq ar (fuel+1) l a w:=
 wpAnyH_take hi hs hf hr hQ (.inl ⟨hg,hy⟩) hS h
theorem Im{P:Program}{ops:Array Oper}{aq:Exit->Act->M->Prop}{md:Region.Mode}{ar:M->Prop}(i:Nat){oi:Oper}{fuel:Nat}{l:Array Bool}{a:Act}{w:M}
 (h:wpAnyH P md ops aq ar fuel (l.setIfInBounds i true) (a.put oi.dst undef) w)
 (hi:ops[i]? =U oi:=by rfl)(hs:Region.noSelect ops=true:=by kernel_rfl)(hf:Region.free md ops l i=true:=by kernel_rfl)(hr:(Region.ready md ops l).contains i=true:=by kernel_rfl)
 (hQ:∀c a w,aq (.panic c) (a.put oi.dst undef) w->aq (.panic c) a w:=by exact fun _ _ _ h=>h)(hg:Region.wanted oi (yielded ops a.tmps)=false:=by rfl)(hS:ar w:=by assumption):wpAnyH P md ops aq ar (fuel+1) l a w:=
 wpAnyH_take hi hs hf hr hQ (.inr ⟨hg,X⟩) hS h
end Go.Proofs.YtkkicodfpekbgaaGreatDoor
namespace Go.Proofs.YtkkicodfpekbgaaGreatDoor
open Go.Proofs.Tryz
open Go.RowKit
theorem pq(p:Int)(a b:Ad)(w:M)(ha:∃c t,w.heap[a.block]? =U (C c t (0,0)))(hb:∃c t,w.heap[b.block]? =U (C c t (0,0))):
 Cs prog 59 #[If 155 (Ag #[I J p,If 291 (Po (U a))]),If 291 (Po (U b))] w fun e w'=>e=Rt (Bo (decide (a=b)))/\H w.heap.size w w':=F1 p a b w ha hb
theorem qW(w:M):Cs prog 34 #[.nilIface] w fun e w'=>e=Rt (I J 0)/\w'=w:=by
 go_enter func34,ntmps34;go_wp2;go_ret;exact⟨X,X⟩
theorem sX(p:Int)(x:Ad)(w:M)(sn:Sn->Ad)(hs:dC w sn)(hx:∃c t,w.heap[x.block]? =U (C c t (0,0))):Cs prog 34 #[aX p x] w fun e w'=>e=Rt (I J (nm sn x))/\H w.heap.size w w':=by
 have h0:=hs.cLong;have S0:Hi _:=hs;have X0:Hi _:=hx;have B0:Hi (H w.heap.size w w):=By;clear hs hx;unfold aX;go_enter func34,ntmps34;go_wp2_with fail;refine(pq p x (sn .Long) w X0 (S0.r .Long)).mono ?_;rintro e w1 ⟨rfl,hb⟩;have B1:Hi _:=B0.trans (hb.mono B0.size);have S1:Hi _:=S0.below hb;have X1:Hi _:=dQ X0 hb;clear hb h0;by_cases q0:x=sn .Long
 ·rw[aM q0];have e:Hi (nm sn x=2):=by show nm sn x=2;unfold nm;rw[aG q0]
  go_wp2_with fail;go_ret;exact⟨by rw[e.out];rfl,B1⟩
 rw[aE q0];have h1:=S1.out.cEnd;go_wp2_with fail;refine(pq p x (sn .End) w1 X1 (S1.r .End)).mono ?_;rintro e w2 ⟨rfl,hb⟩;have B2:Hi _:=B1.trans (hb.mono B1.size);have S2:Hi _:=S1.below hb;have X2:Hi _:=dQ X1 hb;clear hb h1;by_cases q1:x=sn .End
 ·rw[aM q1];have e:Hi (nm sn x=3):=by show nm sn x=3;unfold nm;rw[G q0,aG q1]
  go_wp2_with fail;go_ret;exact⟨by rw[e.out];rfl,B2⟩
 rw[aE q1];have h2:=S2.out.cTag;go_wp2_with fail;refine(pq p x (sn .Tag) w2 X2 (S2.r .Tag)).mono ?_;rintro e w3 ⟨rfl,hb⟩;have B3:Hi _:=B2.trans (hb.mono B2.size);have S3:Hi _:=S2.below hb;have X3:Hi _:=dQ X2 hb;clear hb h2;by_cases q2:x=sn .Tag
 ·rw[aM q2];have e:Hi (nm sn x=4):=by show nm sn x=4;unfold nm;rw[G q0,G q1,aG q2]
  go_wp2_with fail;go_ret;exact⟨by rw[e.out];rfl,B3⟩
 rw[aE q2];have h3:=S3.out.cLength;go_wp2_with fail;refine(pq p x (sn .Length) w3 X3 (S3.r .Length)).mono ?_;rintro e w4 ⟨rfl,hb⟩;have B4:Hi _:=B3.trans (hb.mono B3.size);have S4:Hi _:=S3.below hb;have X4:Hi _:=dQ X3 hb;clear hb h3;by_cases q3:x=sn .Length
 ·rw[aM q3];have e:Hi (nm sn x=5):=by show nm sn x=5;unfold nm;rw[G q0,G q1,G q2,aG q3]
  go_wp2_with fail;go_ret;exact⟨by rw[e.out];rfl,B4⟩
 rw[aE q3];have h4:=S4.out.cValue;go_wp2_with fail;refine(pq p x (sn .Value) w4 X4 (S4.r .Value)).mono ?_;rintro e w5 ⟨rfl,hb⟩;have B5:Hi _:=B4.trans (hb.mono B4.size);have S5:Hi _:=S4.below hb;have X5:Hi _:=dQ X4 hb;clear hb h4;by_cases q4:x=sn .Value
 ·rw[aM q4];have e:Hi (nm sn x=6):=by show nm sn x=6;unfold nm;rw[G q0,G q1,G q2,G q3,aG q4]
  go_wp2_with fail;go_ret;exact⟨by rw[e.out];rfl,B5⟩
 rw[aE q4];have h5:=S5.out.cMore;go_wp2_with fail;refine(pq p x (sn .More) w5 X5 (S5.r .More)).mono ?_;rintro e w6 ⟨rfl,hb⟩;have B6:Hi _:=B5.trans (hb.mono B5.size);have S6:Hi _:=S5.below hb;have X6:Hi _:=dQ X5 hb;clear hb h5;by_cases q5:x=sn .More
 ·rw[aM q5];have e:Hi (nm sn x=7):=by show nm sn x=7;unfold nm;rw[G q0,G q1,G q2,G q3,G q4,aG q5]
  go_wp2_with fail;go_ret;exact⟨by rw[e.out];rfl,B6⟩
 rw[aE q5];have h6:=S6.out.cOrder;go_wp2_with fail;refine(pq p x (sn .Order) w6 X6 (S6.r .Order)).mono ?_;rintro e w7 ⟨rfl,hb⟩;have B7:Hi _:=B6.trans (hb.mono B6.size);have S7:Hi _:=S6.below hb;have X7:Hi _:=dQ X6 hb;clear hb h6;by_cases q6:x=sn .Order
 ·rw[aM q6];have e:Hi (nm sn x=8):=by show nm sn x=8;unfold nm;rw[G q0,G q1,G q2,G q3,G q4,G q5,aG q6]
  go_wp2_with fail;go_ret;exact⟨by rw[e.out];rfl,B7⟩
 rw[aE q6];have h7:=S7.out.cDefault;go_wp2_with fail;refine(pq p x (sn .Default) w7 X7 (S7.r .Default)).mono ?_;rintro e w8 ⟨rfl,hb⟩;have B8:Hi _:=B7.trans (hb.mono B7.size);have S8:Hi _:=S7.below hb;have X8:Hi _:=dQ X7 hb;clear hb h7;by_cases q7:x=sn .Default
 ·rw[aM q7];have e:Hi (nm sn x=9):=by show nm sn x=9;unfold nm;rw[G q0,G q1,G q2,G q3,G q4,G q5,G q6,aG q7]
  go_wp2_with fail;go_ret;exact⟨by rw[e.out];rfl,B8⟩
 rw[aE q7];have h8:=S8.out.cDeep;go_wp2_with fail;refine(pq p x (sn .Deep) w8 X8 (S8.r .Deep)).mono ?_;rintro e w9 ⟨rfl,hb⟩;have B9:Hi _:=B8.trans (hb.mono B8.size);have S9:Hi _:=S8.below hb;have X9:Hi _:=dQ X8 hb;clear hb h8;by_cases q8:x=sn .Deep
 ·rw[aM q8];have e:Hi (nm sn x=10):=by show nm sn x=10;unfold nm;rw[G q0,G q1,G q2,G q3,G q4,G q5,G q6,G q7,aG q8]
  go_wp2_with fail;go_ret;exact⟨by rw[e.out];rfl,B9⟩
 rw[aE q8];have h9:=S9.out.cTree;go_wp2_with fail;refine(pq p x (sn .Tree) w9 X9 (S9.r .Tree)).mono ?_;rintro e w10 ⟨rfl,hb⟩;have B10:Hi _:=B9.trans (hb.mono B9.size);have S10:Hi _:=S9.below hb;have X10:Hi _:=dQ X9 hb;clear hb h9;by_cases q9:x=sn .Tree
 ·rw[aM q9];have e:Hi (nm sn x=11):=by show nm sn x=11;unfold nm;rw[G q0,G q1,G q2,G q3,G q4,G q5,G q6,G q7,G q8,aG q9]
  go_wp2_with fail;go_ret;exact⟨by rw[e.out];rfl,B10⟩
 rw[aE q9];have h10:=S10.out.cCard;go_wp2_with fail;refine(pq p x (sn .Card) w10 X10 (S10.r .Card)).mono ?_;rintro e w11 ⟨rfl,hb⟩;have B11:Hi _:=B10.trans (hb.mono B10.size);have S11:Hi _:=S10.below hb;have X11:Hi _:=dQ X10 hb;clear hb h10;by_cases q10:x=sn .Card
 ·rw[aM q10];have e:Hi (nm sn x=12):=by show nm sn x=12;unfold nm;rw[G q0,G q1,G q2,G q3,G q4,G q5,G q6,G q7,G q8,G q9,aG q10]
  go_wp2_with fail;go_ret;exact⟨by rw[e.out];rfl,B11⟩
 rw[aE q10];have h11:=S11.out.cMark;go_wp2_with fail;refine(pq p x (sn .Mark) w11 X11 (S11.r .Mark)).mono ?_;rintro e w12 ⟨rfl,hb⟩;have B12:Hi _:=B11.trans (hb.mono B11.size);have S12:Hi _:=S11.below hb;have X12:Hi _:=dQ X11 hb;clear hb h11;by_cases q11:x=sn .Mark
 ·rw[aM q11];have e:Hi (nm sn x=13):=by show nm sn x=13;unfold nm;rw[G q0,G q1,G q2,G q3,G q4,G q5,G q6,G q7,G q8,G q9,G q10,aG q11]
  go_wp2_with fail;go_ret;exact⟨by rw[e.out];rfl,B12⟩
 rw[aE q11];have e:Hi (nm sn x=1):=by show nm sn x=1;unfold nm;rw[G q0,G q1,G q2,G q3,G q4,G q5,G q6,G q7,G q8,G q9,G q10,G q11]
 go_wp2_with fail;go_ret;exact⟨by rw[e.out];rfl,B12⟩
theorem oH(p:Int)(s:Sn)(w:M)(sn:Sn->Ad)(hs:dC w sn):Cs prog 34 #[aX p (sn s)] w fun e w'=>e=Rt (I J s.code)/\H w.heap.size w w':=by rw[<-hs.nm s];exact sX p (sn s) w sn hs (hs.r s)
end Go.Proofs.YtkkicodfpekbgaaGreatDoor
namespace Go.Proofs.YtkkicodfpekbgaaGreatDoor
open Go.RowKit
theorem wN{P:Program}{ops:Array Oper}{o:Oper}{a:Act}{w:M}{K:Act->M->Prop}{aq:Exit->Act->M->Prop}{E:Prop}(hw:Region.wanted o (yielded ops a.tmps)=true)(f:FuncId)(args:Array Operand)(tys:Array TypeId)(ho:o.op= .call {callee:= .value (.func f),args:=args,argTypes:=tys})(vals:Array Vv)(hv:args.map a.eval=vals)(R:Ending->M->Prop)(hrun:(callFunc f vals).run P w= .ok (.enter f vals) w)(hc:Cs P f vals w R)(hk:∀e w',R e w'->∃v,e=Rt v/\K (a.put o.dst v) w'):if Region.wanted o (yielded ops a.tmps)=true then Oper.wp P o a w K aq else E:=by
 rw[aG hw];unfold Oper.wp;simp only[execOp,ho,resolve,invoke];simp[Ae,Deferred.ofValue,hv,hrun,Oper.upon_enter];refine hc.mono fun e w' h=>?_;obtain⟨v,rfl,h2⟩:=hk e w' h;exact h2
end Go.Proofs.YtkkicodfpekbgaaGreatDoor
