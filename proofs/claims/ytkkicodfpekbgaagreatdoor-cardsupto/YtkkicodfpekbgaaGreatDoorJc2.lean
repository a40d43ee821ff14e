/-
Several texts in one.
-/
import Derived.Test.YtkkicodfpekbgaaGreatDoorJb1
import Derived.Test.YtkkicodfpekbgaaGreatDoorJb0
import Derived.Lib.AppendZerosOnto
import Derived.RangeFuncNested
import Derived.RangeFuncBound
import Derived.Shelf.RegionOpen
import Derived.OwnWalkIn
import Derived.LoopNIn
import Derived.LoopIn
import Derived.Test.YtkkicodfpekbgaaGreatDoorJb2
import Derived.Deep.Slices
open Go.Value renaming int->I,string->Y,slice->S,pointer->Po,bool->Bo,agg->Ag,tuple->Tu
open Go.IntKind renaming i64->J
open Go.Obj renaming cells->C
open Go.Ending renaming returned->Rt
open Option renaming some->U,none->Z
open Go renaming World->M,Calls->Cs,Addr->Ad,Value->Vv
open _root_ renaming ByteArray->Q,Option->Oo,List->Ls
open Go.RowKit renaming Below->H,intOf->Io,Hid->Hi
open Go.World renaming cell?->Wc,frozen?->Wf
open Go.Act renaming put->Ap,eval->Ae
open Go.Addr renaming mk->D
set_option linter.unusedSimpArgs false
set_option linter.unusedVariables false
set_option maxRecDepth 100000
set_option maxHeartbeats 8000000
namespace Go.Proofs.YtkkicodfpekbgaaGreatDoor
open Go.RowKit
def F8(m:Q):Ls Vv:=[Y m,Bo false,Y m]
def iA(m:Q)(p:Nat):Vv:=(F8 m).getD (p%3) .nilIface
def mmRow(m:Q):Nat->Ls Vv
 |0=> []
 |k+1=>F8 m++mmRow m k
theorem mj(m:Q):∀k,(mmRow m k).length=k*3
 |0=>rfl
 |k+1=>by rw[mmRow,aQ,mj m k];show 3+k*3=_;omega
theorem mi(m:Q):∀k p,p<k*3->(mmRow m k)[p]? =U (iA m p)
 |0,p,h=>O
 |k+1,p,h=>by
  rw[mmRow]
  by_cases q:p<3
  ·rw[cm (by simpa [F8]using q)]
   unfold iA
   rw[iT q]
   match p,q with
   |0,_=>rfl
   |1,_=>rfl
   |2,_=>rfl
  ·have hl:(F8 m).length=3:=X
   rw[bu O,hl,mi m k (p-3) O]
   unfold iA
   rw[<-ID O]
theorem sR(m:Q)(j:Nat):∀k,mmRow m k++mmRow m j=mmRow m (k+j)
 |0=>by simp[mmRow]
 |k+1=>by rw[mmRow,bE,sR m j k,show k+1+j=(k+j)+1 by omega,mmRow]
theorem oF(m:Q)(k:Nat):∀u∈mmRow m k,u.oneCell'=true:=by
 induction k with
 |zero=>intro u hu;cases hu
 |succ k ih=>
  intro u hu
  rw[mmRow,DG]at hu
  rcases hu with hu|hu
  ·unfold F8 at hu;simp at hu;rcases hu with rfl|rfl|rfl<;>rfl
  ·exact ih u hu
theorem lj(m:Q)(n j:Nat):iA m (n*3+j)=iA m j:=by unfold iA;rw[show(n*3+j)%3=j%3 by omega]
def eV(w:M)(v:Vv)(n:Nat)(m:Q):Prop:=
 (v=S Z 0 0/\n=0)\/∃g cap cur,v=S (U (D g 0 Z)) n cap/\n<=maxLen/\w.heap[g]? =U (C cur 73 (0,0))/\∀p,p<n*3->cur[p]? =U (iA m p)
theorem eV.of_own{w:M}{base:Nat}{v:Vv}{n:Nat}{m:Q}(h:w.ownsRow base 73 3 v n (mmRow m n)):eV w v n m:=by
 rcases h.2 with q|⟨g,cap,cur,rfl,_,hg,h1,h2,h3,h4⟩
 ·exact .inl q
 refine .inr ⟨g,cap,cur,X,O,hg,fun p hp=>?_⟩;have:=mi m n p hp;rw[<-h4,bR hp]at this;simpa using this
theorem eV.keep{w w':M}{v:Vv}{n:Nat}{m:Q}(h:eV w v n m)(hk:∀g o,v.ownBlock=U g->w.heap[g]? =U o->w'.heap[g]? =U o):eV w' v n m:=by
 rcases h with q|⟨g,cap,cur,rfl,h1,hg,h2⟩
 ·exact .inl q
 exact .inr ⟨g,cap,cur,X,h1,hk g _ X hg,h2⟩
theorem eV.below{w w':M}{v:Vv}{n:Nat}{m:Q}(h:eV w v n m)(hb:H w.heap.size w w'):eV w' v n m:=h.keep fun _ _ _ hg=>ax hg hb
theorem eV.lt{w:M}{v:Vv}{n:Nat}{m:Q}(h:eV w v n m){g:Nat}(hv:v.ownBlock=U g):g<w.heap.size:=by
 rcases h with⟨rfl,_⟩|⟨g',cap,cur,rfl,_,hg,_⟩
 ·cases hv
 injection hv with q;subst q;exact bm hg
structure kT(w w':M)(m:Q)(b:Oo Nat):Prop where
 gr:w.grownBy w' b
 own:∀g cur,b=U g->w.heap[g]? =U (C cur 73 (0,0))->∃cur':Array Vv,w'.heap[g]? =U (C cur' 73 (0,0))/\cur'.size=cur.size/\∀p:Nat,cur'[p]? =cur[p]? \/cur'[p]? =U (iA m p)
theorem kT.refl(w:M)(m:Q)(b:Oo Nat):kT w w m b where
 gr:=⟨X,X,X,Ln,fun _ _ _=>rfl⟩
 own:=fun g cur _ h=>⟨cur,h,X,fun _=> .inl X⟩
theorem kT.trans{w w1 w2:M}{m:Q}{b:Oo Nat}(h:kT w w1 m b)(k:kT w1 w2 m b):kT w w2 m b where
 gr:=⟨k.gr.os.trans h.gr.os,k.gr.tape.trans h.gr.tape,k.gr.output.trans h.gr.output,bl h.gr.size k.gr.size,fun g hg hb=>(k.gr.block g (IC hg h.gr.size) hb).trans (h.gr.block g hg hb)⟩
 own:=fun g cur hb hg=>by
  obtain⟨c1,q1,q2,q3⟩:=h.own g cur hb hg
  obtain⟨c2,r1,r2,r3⟩:=k.own g c1 hb q1
  refine⟨c2,r1,O,fun p=>?_⟩
  rcases r3 p with e|e
  ·rw[e];exact q3 p
  ·exact .inr e
theorem kT.of_below{w w':M}{m:Q}{b:Oo Nat}(h:H w.heap.size w w'):kT w w' m b where
 gr:=⟨h.os,h.tape,h.output,h.size,fun g hg _=>h.block g hg⟩
 own:=fun g cur _ hg=>⟨cur,ax hg h,X,fun _=> .inl X⟩
theorem kT.alloc{w w':M}{m:Q}{b:Oo Nat}(h:kT w w' m b)(o:Obj):kT w (w'.alloc o) m b:=h.trans (.of_below Be)
theorem kT.drew{w w':M}{m:Q}{b:Oo Nat}(h:kT w w' m b):kT w w'.drew m b:=h.trans (.of_below (By).drew)
theorem kT.append{w w':M}{m:Q}{v:Vv}{n k:Nat}(hg:w.grownBy w' v.ownBlock)(hk:jh w w' 73 v (n*3) (mmRow m k)):kT w w' m v.ownBlock where
 gr:=hg
 own:=fun g cur hb hc=>by
  obtain⟨c1,q1,q2,q3⟩:=hk g cur hb hc
  refine⟨c1,q1,q2,fun p=>?_⟩
  rcases q3 p with e|⟨j,rfl,hj,e⟩
  ·exact .inl e
  ·right
   rw[mj]at hj
   rw[e,mi m k j hj,lj]
theorem kT.full{w w':M}{m:Q}{b:Oo Nat}(h:kT w w' m b){v:Vv}{n:Nat}(hf:eV w v n m):eV w' v n m:=by
 rcases hf with q|⟨g,cap,cur,rfl,h1,hg,h2⟩
 ·exact .inl q
 by_cases e:b=U g
 ·obtain⟨c1,q1,q2,q3⟩:=h.own g cur e hg;refine .inr ⟨g,cap,c1,X,h1,q1,fun p hp=>?_⟩;rcases q3 p with e|e
  ·rw[e];exact h2 p hp
  exact e
 exact .inr ⟨g,cap,cur,X,h1,(h.gr.block g (bm hg) (fun q=>e q.symm)).trans hg,h2⟩
theorem kT.other{w w':M}{m m':Q}{b:Oo Nat}(h:kT w w' m b){v:Vv}{n:Nat}(hf:eV w v n m')(hne:∀g,v.ownBlock=U g->b≠U g):eV w' v n m':=
 hf.keep fun g _ hv hg=>(h.gr.block g (bm hg) (fun q=>hne g hv q.symm)).trans hg
theorem kT.block{w w':M}{m:Q}{b:Oo Nat}(h:kT w w' m b){g:Nat}{o:Obj}(hg:w.heap[g]? =U o)(hne:b≠U g):w'.heap[g]? =U o:=(h.gr.block g (bm hg) (fun q=>hne q.symm)).trans hg
theorem kT.row{w w':M}{m:Q}{v:Vv}{n:Nat}{xs:Ls Vv}{base:Nat}(h:kT w w' m v.ownBlock)(hv:w.ownsRow base 73 3 v n xs){b2 s2 n2:Nat}{e2:TypeId}{v2:Vv}{x2:Ls Vv}(h2:w.ownsRow b2 e2 s2 v2 n2 x2)(hT:e2≠73):w'.ownsRow b2 e2 s2 v2 n2 x2:=by
 refine⟨h2.1,?_⟩;rcases h2.2 with q|⟨g,cap,cur,rfl,hb,hg,r⟩
 ·exact .inl q
 refine .inr ⟨g,cap,cur,X,hb,h.block hg (fun e=>?_),r⟩;rcases hv.2 with⟨rfl,_⟩|⟨g',_,cur',rfl,_,hg',_⟩
 ·cases e
 injection e with e;subst e;rw[show((D g' 0 Z):Ad).block=g' from rfl]at hg;rw[hg']at hg;injection hg with q;injection q with _ q;exact hT q.symm
theorem kT.below{w w':M}{m:Q}{b:Oo Nat}(h:kT w w' m b){B:Nat}{w0:M}(hb:H B w0 w)(hB:B<=w.heap.size)(hlo:∀g,b=U g->B<=g):H B w0 w':=hb.grown h.gr hB hlo
structure zp(W w:M)(B:Nat)(L:Ls (Vv×Nat×Int))(ak:Ls (Vv×Nat×Q))(nx:Int):Prop where
 bel:H W.heap.size W w
 lo:W.heap.size<=B
 row:∃vv vm mv mm,w.heap[B]? =U (C #[vv,vm,mv,mm,I J nx] 35 (0,0))/\
  w.ownsRow W.heap.size 39 1 vv L.length (L.map (·.1))/\w.ownsRow W.heap.size 3 1 vm L.length (L.map fun x=>I J x.2.2)/\
  w.ownsRow W.heap.size 66 1 mv ak.length (ak.map (·.1))/\w.ownsRow W.heap.size 9 1 mm ak.length (ak.map fun x=>Y x.2.2)
 full:∀x∈L,gM w x.1 x.2.1 x.2.2
 fullM:∀x∈ak,eV w x.1 x.2.1 x.2.2
theorem zp.below{W w w':M}{B:Nat}{L:Ls (Vv×Nat×Int)}{ak:Ls (Vv×Nat×Q)}{nx:Int}(h:zp W w B L ak nx)(hb:H w.heap.size w w'):zp W w' B L ak nx where
 bel:=h.bel.trans (hb.mono h.bel.size)
 lo:=h.lo
 row:=by
  obtain⟨vv,vm,mv,mm,h1,h2,h3,h4,h5⟩:=h.row
  exact⟨vv,vm,mv,mm,ax h1 hb,bB h2 hb,bB h3 hb,bB h4 hb,bB h5 hb⟩
 full:=fun x hx=>(h.full x hx).below hb
 fullM:=fun x hx=>(h.fullM x hx).below hb
theorem kT.fullV{w w':M}{m:Q}{v:Vv}{n:Nat}{xs:Ls Vv}{base:Nat}(h:kT w w' m v.ownBlock)(hv:w.ownsRow base 73 3 v n xs){u:Vv}{k:Nat}{m':Int}(hf:gM w u k m'):gM w' u k m':=by
 rcases hf with q|⟨g,cap,cur,rfl,h1,hg,h2⟩
 ·exact .inl q
 refine .inr ⟨g,cap,cur,X,h1,h.block hg (fun e=>?_),h2⟩;rcases hv.2 with⟨rfl,_⟩|⟨g',_,cur',rfl,_,hg',_⟩
 ·cases e
 injection e with e;subst e;rw[show((D g' 0 Z):Ad).block=g' from rfl]at hg;rw[hg']at hg;injection hg with q;injection q with _ q;exact Ab q Dc
end Go.Proofs.YtkkicodfpekbgaaGreatDoor
namespace Go.Proofs.YtkkicodfpekbgaaGreatDoor
open Go.Proofs.Tryz
open Go.RowKit

end Go.Proofs.YtkkicodfpekbgaaGreatDoor
namespace Go.Proofs.YtkkicodfpekbgaaGreatDoor
open Go.Proofs.Tryz
open Go.RowKit Go.Lib
def sf:Array Vv->Nat->Ls Vv->Array Vv
 |cur,_,[]=>cur
 |cur,o,v::r=>sf (cur.setIfInBounds o v) (o+1) r
theorem kI:∀(vs:Ls Vv) (cur:Array Vv) (o:Nat),o+vs.length<=cur.size->(sf cur o vs).toList=cur.toList.take o++vs++cur.toList.drop (o+vs.length)
 | [],cur,o,_=>by simp[sf]
 |v::r,cur,o,h=>by
  simp only[aU]at h
  rw[sf,kI r _ _ So]
  have hl:o<cur.toList.length:=So
  rw[Array.toList_setIfInBounds,eB,List.getElem?_set_self hl,List.take_set_of_le Ln,List.drop_set_of_lt O]
  simp only[Option.toList_some,bE,kU,aU,fg]
  rw[show o+1+r.length=o+(r.length+1)by omega]
theorem jq(vs:Ls Vv):∀(cur:Array Vv) (o:Nat),(sf cur o vs).size=cur.size:=by
 induction vs with
 |nil=>intro cur o;rfl
 |cons v r ih=>intro cur o;rw[sf,ih];simp
theorem iG(g:Nat)(T:TypeId)(fz:Nat×Nat):∀(vs:Ls Vv) (o:Nat) (w:M) (cur:Array Vv),w.heap[g]? =U (C cur T fz)->(w.setCells g o vs).heap[g]? =U (C (sf cur o vs) T fz)
 | [],_,_,_,h=>h
 |v::r,o,w,cur,h=>by
  rw[World.setCells,sf]
  refine iG g T fz r (o+1) _ _ ?_
  simp[World.setCell,H7,h]
theorem gA(g:Nat):∀(vs:Ls Vv) (o:Nat) (w:M) (k:Nat),k≠g->(w.setCells g o vs).heap[k]? =w.heap[k]?
 | [],_,_,_,_=>rfl
 |v::r,o,w,k,h=>by
  rw[World.setCells,gA g r _ _ k h]
  simp[World.setCell,H7,Ne.symm h]
theorem gz{B g:Nat}(hb:B<=g){w0:M}:∀(vs:Ls Vv) (o:Nat) (w:M),H B w0 w->H B w0 (w.setCells g o vs)
 | [],_,_,h=>h
 |v::r,o,w,h=>by
  rw[World.setCells]
  exact gz hb r _ _ (h.setCell (p:=D g o Z) hb _)
theorem oL{P:Program}(w:M)(tS tR e:TypeId)(ht:P.underlying tS=U (.slice e))(size:Nat)(hz:∀w,(Go.sizeOf e).run P w= .ok size w)(a b:Ad)(la ca lb cb:Nat)(hne:a.block≠b.block)(tA tB:TypeId)(kA kB:Nat)(hsa:w.shape? a.block=U (tA,kA))(hsb:w.shape? b.block=U (tB,kB))(hkA:kA≠0)(hfa:w.frozen? a=false)(hfb:w.frozen? b=false)(hfe:w.frozen? {block:=b.block,off:=kB}=false):(Extern.SlicesOverlaps.overlaps #[tS,tS] #[tR] #[S (U a) la ca,S (U b) lb cb]).run P w= .ok (Bo false) w:=by
 have hnb:(a.block !=b.block)=true:=by simpa using hne
 have hnb':(a.block==b.block)=false:=by simpa using hne
 change Sem.run P (α:=Vv) (do
  let U t:=(#[tS,tS]:Array TypeId)[0]? |stuck "slices.overlaps: no parameter types"
  let .slice elem<-underlying t|stuck "slices.overlaps: slice type expected"
  let size<-sizeOf elem
  match(U a:Oo Ad),(U b:Oo Ad)with
  |some a,U b=>
   if la=0\/lb=0\/size=0 then pure (Value.bool false)
   else if a.block !=b.block&&(<-frozen a)&&(<-frozen b)then unsupported .addressObserved
   else do
    if a.block !=b.block then do
     noView a;noView b
     if<-mayBeOne a b then return Value.bool ((<-choose (.extern "sameAddr.stringBytes" 2))==1)
    pure (Value.bool (a.block==b.block&&a.off<b.off+lb*size&&b.off<a.off+la*size))
  |_,_=>pure (Value.bool false)) w=_
 by_cases h0:la=0\/lb=0\/size=0
 ·simp[nY ht,hz,h0]
 cases kA with
 |zero=>exact Ab X hkA
 |succ kA=>
  cases hq:w.frozen? {block:=a.block,off:=kA+1} <;>
  simp[nY ht,hz,h0,hnb,hnb',frozen,noView,viewAt,mayBeOne,stringish,shape,Sem.run,hsa,hsb,hfa,hfb,hfe,hq]
theorem CK{p:Prop}(h:p):Hi p:=h
theorem DA(w:M){o:Oper}{a:Act}{K:Act->M->Prop}{aq:Exit->Act->M->Prop}(d s:Operand)(t t':TypeId)(ho:o.op= .call {callee:= .builtin .copy,args:=#[d,s],argTypes:=#[t,t']})(v u:Vv)(hd:a.eval d=v)(hs:a.eval s=u){v':Vv}{w':M}(hr:(Builtin.copy_ #[t,t'] o.type #[v,u]).run prog w= .ok v' w')(h:K (a.put o.dst v') w'):o.wp prog a w K aq:=by
 unfold Oper.wp execOp;simp only[ho,resolve,invoke,builtin,ky,Ix,Result.andThen_ok,List.map_toArray,gd,jQ,hd,hs,hr];exact h
theorem ln(w:M){ops:Array Oper}{rest:Ls Oper}{o:Oper}{a:Act}{aq:Exit->Act->M->Prop}(hgd:o.guard=Z)(d s:Operand)(t t':TypeId)
 (ho:o.op= .call {callee:= .builtin .copy,args:=#[d,s],argTypes:=#[t,t']})(v u:Vv)(hd:a.eval d=v)(hs:a.eval s=u){v':Vv}{w':M}
 (hr:(Builtin.copy_ #[t,t'] o.type #[v,u]).run prog w= .ok v' w')(h:wpList prog ops aq rest (a.put o.dst v') w'):wpList prog ops aq (o::rest) a w:=
 wpList_plain hgd fun _ hK=>DA w d s t t' ho v u hd hs hr (hK _ _ h)
theorem rq{ops:Array Oper}{o:Oper}{a:Act}{w:M}{K:Act->M->Prop}{aq:Exit->Act->M->Prop}{E:Prop}(hg:o.guard=Z)(d x:Operand)(dT sT:TypeId)(hop:o.op=Op.call {callee:=Callee.builtin Builtin.copy,args:=#[d,x],argTypes:=#[dT,sT]})(v u:Vv)(hd:a.eval d=v)(hx:a.eval x=u){v':Vv}{w':M}(hr:(Builtin.copy_ #[dT,sT] o.type #[v,u]).run prog w= .ok v' w')(hK:K (a.put o.dst v') w'):if Region.wanted o (yielded ops a.tmps)=true then Oper.wp prog o a w K aq else E:=by
 have hw:Region.wanted o (yielded ops a.tmps)=true:=by simp[Region.wanted,hg]
 rw[aG hw];unfold Oper.wp;simp[execOp,hop,resolve,invoke,builtin,hd,hx,hr,Result.andThen];exact hK
theorem zP(b:Nat)(vs:Ls Vv)(o:Nat)(w:M)(h:∀j,j<vs.length->(w.cell? (D b (o+j) Z)).isSome=true)(k:Nat)(hk:(w.cell? (D b k Z)).isSome=true):((w.setCells b o vs).cell? (D b k Z)).isSome=true:=by
 by_cases hin:o<=k/\k<o+vs.length
 ·have:=World.cell?_setCells_in b vs o w h (k-o) O;rw[show o+(k-o)=k by omega]at this;rw[this];rfl
 rw[ph b vs o w (D b k Z) (fun _ _=>by show k<o\/o+vs.length<=k;omega)];exact hk
theorem xD(w:M):(Go.sizeOf 5).run prog w= .ok 1 w:=by obtain⟨i0,hi,hz0,hz1,hz2⟩:=dD jv;simp[sizeOf,typeInfo,hi,hz1]
theorem AU(b n c i vb m vc:Nat)(cs vs:Ls Vv)(w:M)(hi:i<n)(hm:0<m)(hroom:n+m<=c)(hc63:c<=9223372036854775807)(hvb:vb≠b)(hcl:cs.length=n)(hvl:vs.length=m)(hcs:∀j v,cs[j]? =U v->w.cell? (D b j Z)=U v)(hsp:∀j,j<n+m->(w.cell? (D b j Z)).isSome=true)(hfz:∀j,w.frozen? (D b j Z)=false)(hvs:∀j v,vs[j]? =U v->w.cell? (D vb j Z)=U v)(h1c:∀v∈cs,v.oneCell'=true)(h1v:∀v∈vs,v.oneCell'=true)(tA tB:TypeId)(kA kB:Nat)(hsa:w.shape? vb=U (tA,kA))(hsb:w.shape? b=U (tB,kB))(hkA:kA≠0)(hfa:w.frozen? (D vb 0 Z)=false):Cs prog 182 #[S (U (D b 0 Z)) n c,I J i,S (U (D vb 0 Z)) m vc] w fun e w'=>e=Rt (S (U (D b 0 Z)) (n+m) c)/\w'=(w.drew.setCells b (i+m) (cs.drop i)).setCells b i vs:=by
 obtain⟨i0,hi0,hz0,hzs,hzb⟩:=dD jv;have hz1:¬((m:Int)=0):=O;have hz2:¬((i:Int)=(n:Int)):=O;have hsz:(prog.info? 5).map (·.size)=U 1:=by rw[hi0];simp[hzs]
 have hov:∀lb cb,(callFunc 200 #[S (U (D vb 0 Z)) m vc,S (U (D b (i+m) Z)) lb cb]).run prog w= .ok (.value (Bo false)) w:=fun lb cb=>by rw[cf func200 Kr Kr Kr (e:=Extern.SlicesOverlaps.overlaps #[52,52] #[4]) Kr,oL w 52 4 5 underlying52 1 xD (D vb 0 Z) (D b (i+m) Z) m vc lb cb hvb tA tB kA kB hsa hsb hkA hfa (hfz _) (hfz _)];rfl
 have hdl:(cs.drop i).length=n-i:=by rw[di,hcl]
 have hw1:IntKind.i64.wrap ((i:Int)+(m:Int))=(i:Int)+(m:Int):=by rw[db];omega
 have hb1:(0:Int)<=(i:Int)+(m:Int):=O;have hin:i<=n:=O;have htn:((i:Int)+(m:Int)).toNat=i+m:=O;have hb2:¬(c=i+m):=O;have hb3:(i:Int)<=(n:Int)+(m:Int):=O;have hb4:¬(c=i):=O;have hcp1:∀ty dc sc,(Builtin.copy_ #[52,52] ty #[S (U (D b (i+m) Z)) (n+m-(i+m)) dc,S (U (D b i Z)) (n+m-i) sc]).run prog w.drew= .ok (goInt (cs.drop i).length) (w.drew.setCells b (i+m) (cs.drop i)):=fun ty dc sc=>wL w.drew _ _ ty 5 b (i+m) (n+m-(i+m)) dc (D b i Z) (n+m-i) sc (cs.drop i) underlying52 hsz (by rw[hdl];simp only[BX];split<;>omega) (fun j v hj=>by rw[kh];exact hcs (i+j) v (by rwa[dX]at hj)) (fun j hj=>hsp _ O) (fun j hj=>hfz _) (fun v hv=>h1c v (su hv));obtain⟨W1,hW1⟩:∃W1,W1=w.drew.setCells b (i+m) (cs.drop i):=Ez;have hsp1:∀k,k<n+m->(W1.cell? (D b k Z)).isSome=true:=fun k hk=>by rw[hW1];exact zP b (cs.drop i) (i+m) w.drew (fun j hj=>hsp (i+m+j) (by rw[hdl]at hj;omega)) k (hsp k hk)
 have hcp2:∀(W:M),(∀x,W.cell? x=W1.cell? x)->(∀x,W.frozen? x=W1.frozen? x)->∀ty dc,(Builtin.copy_ #[52,52] ty #[S (U (D b i Z)) (n+m-i) dc,S (U (D vb 0 Z)) m vc]).run prog W= .ok (goInt vs.length) (W.setCells b i vs):=fun W hWc hWf ty dc=>wL W _ _ ty 5 b i (n+m-i) dc (D vb 0 Z) m vc vs underlying52 hsz (by rw[hvl];simp only[BX];split<;>omega) (fun j v hj=>by rw[kh,hWc,hW1,ph b _ _ _ _ (fun h _=>Ab h hvb),b9];exact hvs j v hj) (fun j hj=>by rw[hWc];exact hsp1 _ O) (fun j hj=>by rw[hWf,hW1,IA];exact hfz _) h1v;rw[<-hW1]at hcp1;go_enter func182,ntmps182;go_wp2_with (simp only[hov]);go_region_law (refine rq X _ _ 52 52 X _ _ (by simp[Ae,Ap]) (by simp[Ae,Ap]) (hcp1 _ _ _) ?_);go_wp2_with (at_builtin;refine ln _ X _ _ 52 52 X _ _ X X (hcp2 _ (fun _=>rfl) (fun _=>rfl) _ _) ?_);go_ret;first|exact⟨X,X⟩|exact⟨X,by rw[hW1]⟩
theorem CN(b n c i vb m vc:Nat)(cs vs:Ls Vv)(w:M)(hi:i<n)(hm:0<m)(hnc:n<=c)(hroom:c<n+m)(hbig:(n+m)*1<=140737488355328)(hcl:cs.length=n)(hvl:vs.length=m)(hcs:∀j v,cs[j]? =U v->w.cell? (D b j Z)=U v)(hvs:∀j v,vs[j]? =U v->w.cell? (D vb j Z)=U v)(h1c:∀v∈cs,v.oneCell'=true)(h1v:∀v∈vs,v.oneCell'=true):Cs prog 182 #[S (U (D b 0 Z)) n c,I J i,S (U (D vb 0 Z)) m vc] w fun e w'=>∃ag,n+m<=ag/\ag<=maxLen/\e=Rt (S (U (D w.heap.size 0 Z)) (n+m) ag)/\w'=(((w.alloc (C ((cs.take i).toArray++Builtin.zeroCells (Value.int .u8 0).cells (n+m-i)++Builtin.zeroCells (Value.int .u8 0).cells (ag-(n+m))) 5)).drew.setCells w.heap.size i vs).drew).setCells w.heap.size (i+m) (cs.drop i):=by
 obtain⟨i0,hi0,hz0,hzs,hzb⟩:=dD jv;have hz1:¬((m:Int)=0):=O;have hz2:¬((i:Int)=(n:Int)):=O;have hz3:(c:Int)<(n:Int)+(m:Int):=O;have hsz:(prog.info? 5).map (·.size)=U 1:=by rw[hi0];simp[hzs]
 have hbw:b<w.heap.size:=block_lt_of_cell (hcs 0 _ (aC O));have hvw:vb<w.heap.size:=block_lt_of_cell (hvs 0 _ (aC O));have hkk:(n:Int)+(m:Int)-(i:Int)=((n+m-i:Nat):Int):=O;have hik:i+(n+m-i)=n+m:=O;have hold:(Builtin.firstCells i0.size i (S (U (D b 0 Z)) i c)).run prog w.drew= .ok (cs.take i).toArray w.drew:=by
  rw[hzs];exact run_firstCells_some w.drew 1 i (D b 0 Z) i c (cs.take i) (by rw[gF];omega) (fun j v hj=>by
   rw[kh,b9];rw[jo]at hj;split at hj
   ·exact hcs j v hj
   cases hj)
 have hrz:∀ty,(Builtin.append_ #[52,3] ty #[S (U (D b 0 Z)) i c,I J ((n:Int)+(m:Int)-(i:Int))]).run prog w=
  .ok (S (U (D w.heap.size 0 Z)) (n+m) (grownCap w (n+m) c 5)) (w.drew.alloc (C ((cs.take i).toArray++Builtin.zeroCells (Value.int .u8 0).cells (n+m-i)++Builtin.zeroCells (Value.int .u8 0).cells (grownCap w (n+m) c 5-(n+m))) 5)):=fun ty=>by
  have h:=Lib.run_append_grow_zeros w 52 3 ty 5 i0 _ J J underlying52 underlying3 hi0 hz0 (U (D b 0 Z)) i c (cs.take i) hold (n+m-i) O O O O (by rw[hzb];omega) (by rw[hzb,hik];exact growslice_fits hroom hbig)
  rw[hik]at h
  rw[hkk]
  exact h
 obtain⟨ag,hG⟩:∃ag,ag=grownCap w (n+m) c 5:=Ez;obtain⟨ROW,hROW⟩:∃ROW:Array Vv,ROW=(cs.take i).toArray++Builtin.zeroCells (Value.int .u8 0).cells (n+m-i)++Builtin.zeroCells (Value.int .u8 0).cells (ag-(n+m)):=Ez;have HROW:=CK hROW;rw[<-hG]at hrz;rw[<-hROW]at hrz;have hRl:n+m<=ROW.size:=by rw[hROW];simp[Builtin.zeroCells,Value.cells];omega
 obtain⟨W1,hW1⟩:∃W1,W1=w.drew.alloc (C ROW 5):=Ez;rw[<-hW1]at hrz;have hN:∀j,j<n+m->(W1.cell? (D w.heap.size j Z)).isSome=true:=fun j hj=>by rw[hW1,World.cell?_alloc_at (w:=w.drew) ROW _ w.heap.size j X,Array.getElem?_eq_getElem O];rfl
 have hNf:∀j,W1.frozen? (D w.heap.size j Z)=false:=fun j=>by rw[hW1];exact World.frozen?_alloc_at (w:=w.drew) ROW _ w.heap.size j X
 have hOb:∀j v,w.cell? (D b j Z)=U v->W1.cell? (D b j Z)=U v:=fun j v h=>by rw[hW1,Iz (w:=w.drew) _ b j hbw];exact h
 have hOv:∀j v,w.cell? (D vb j Z)=U v->W1.cell? (D vb j Z)=U v:=fun j v h=>by rw[hW1,Iz (w:=w.drew) _ vb j hvw];exact h
 have hcpA:∀(W:M),(∀x,W.cell? x=W1.cell? x)->(∀x,W.frozen? x=W1.frozen? x)->∀ty dc,(Builtin.copy_ #[52,52] ty #[S (U (D w.heap.size i Z)) (n+m-i) dc,S (U (D vb 0 Z)) m vc]).run prog W= .ok (goInt vs.length) (W.setCells w.heap.size i vs):=fun W hWc hWf ty dc=>wL W _ _ ty 5 w.heap.size i (n+m-i) dc (D vb 0 Z) m vc vs underlying52 hsz (by rw[hvl];simp only[BX];split<;>omega) (fun j v hj=>by rw[kh,hWc,b9];exact hOv _ v (hvs j v hj)) (fun j hj=>by rw[hWc];exact hN _ O) (fun j hj=>by rw[hWf];exact hNf _) h1v;have hGn:n+m<=ag:=by rw[hG];exact grownCap_ge w _ _ _
 have hGm:ag<=maxLen:=by have:=grownCap_le_maxLen w (n+m) c 5 (by unfold maxLen;omega);rw[<-hG]at this;exact this
 have hG63:ag<=9223372036854775807:=by unfold maxLen at hGm;omega
 have HGN:Hi (n+m<=ag/\ag<=maxLen):=⟨hGn,hGm⟩;have hGi:¬(ag=i):=O;have hGim:¬(ag=i+m):=O;have hci:¬(c=i):=O;have hbN:b≠w.heap.size:=O;have hdl:(cs.drop i).length=n-i:=by rw[di,hcl]
 have hcpB:∀(W:M),(∀x,W.cell? x=(W1.setCells w.heap.size i vs).cell? x)->(∀x,W.frozen? x=(W1.setCells w.heap.size i vs).frozen? x)->∀ty dc sc,(Builtin.copy_ #[52,52] ty #[S (U (D w.heap.size (i+m) Z)) (n+m-(i+m)) dc,S (U (D b i Z)) (n-i) sc]).run prog W= .ok (goInt (cs.drop i).length) (W.setCells w.heap.size (i+m) (cs.drop i)):=fun W hWc hWf ty dc sc=>wL W _ _ ty 5 w.heap.size (i+m) (n+m-(i+m)) dc (D b i Z) (n-i) sc (cs.drop i) underlying52 hsz (by rw[hdl];simp only[BX];split<;>omega) (fun j v hj=>by rw[kh,hWc,ph _ _ _ _ _ (fun h _=>Ab h hbN)];exact hOb _ v (hcs (i+j) v (by rwa[dX]at hj))) (fun j hj=>by rw[hWc];exact zP _ _ _ _ (fun t ht=>hN _ O) _ (hN _ O)) (fun j hj=>by rw[hWf,IA];exact hNf _) (fun v hv=>h1c v (su hv));subst hW1;have hE1:∀x,((w.alloc (C ROW 5)).drew).cell? x=(w.drew.alloc (C ROW 5)).cell? x:=fun x=>rfl;have hE2:∀x,((w.alloc (C ROW 5)).drew).frozen? x=(w.drew.alloc (C ROW 5)).frozen? x:=fun x=>rfl;have hF1:∀x,(((w.alloc (C ROW 5)).drew.setCells w.heap.size i vs).drew).cell? x=((w.drew.alloc (C ROW 5)).setCells w.heap.size i vs).cell? x:=fun x=>rfl;have hF2:∀x,(((w.alloc (C ROW 5)).drew.setCells w.heap.size i vs).drew).frozen? x=((w.drew.alloc (C ROW 5)).setCells w.heap.size i vs).frozen? x:=fun x=>rfl;have hw1:IntKind.i64.wrap ((i:Int)+(m:Int))=(i:Int)+(m:Int):=by rw[db];omega
 have hb1:(0:Int)<=(i:Int)+(m:Int):=O;have hin:i<=n:=O;have htn:((i:Int)+(m:Int)).toNat=i+m:=O;have hb3:(i:Int)<=(n:Int):=O;clear hkk hik hold hROW hG hRl;go_enter func182,ntmps182
 go_wp2_with (first
  |(at_builtin;refine Lib.wpList_append_run _ X _ _ _ _ X _ _ X X _ _ (hrz _) ?_)
  |(at_builtin;refine ln _ X _ _ 52 52 X _ _ X X (hcpA _ hE1 hE2 _ _) ?_)
  |(at_builtin;refine ln _ X _ _ 52 52 X _ _ X X (hcpB _ (fun _=>rfl) (fun _=>rfl) _ _ _) ?_))
 go_region_law (refine rq X _ _ 52 52 X (S (U (D w.heap.size (i+m) Z)) (n+m-(i+m)) (ag-(i+m))) (S (U (D b i Z)) (n-i) (c-i)) (by simp[Ae,Ap]) (by simp[Ae,Ap]) (hcpB _ hF1 hF2 3 (ag-(i+m)) (c-i)) ?_);go_wp2;go_ret;exact⟨ag,HGN.1,HGN.2,X,by rw[<-HROW.out]⟩
def Fp(B:Nat)(n:Nat)(cs:Ls Vv)(w:M)(e:Ending)(w':M):Prop:=
 ∃v',e=Rt v'/\w'.ownsRow B 5 1 v' n cs/\H B w w'/\∀(k:Nat) (o:Obj),(∀A,o≠C A 5 (0,0))->w.heap[k]? =U o->w'.heap[k]? =U o
theorem D8(B:Nat)(tv:Vv)(n vb m vc:Nat)(cs vs:Ls Vv)(w:M)(hown:w.ownsRow B 5 1 tv n cs)(hm:0<m)(hnm:n+m<=4000)(hB:B<=w.heap.size)(hvl:vs.length=m)(hvs:∀j v,vs[j]? =U v->w.cell? (D vb j Z)=U v)(h1v:∀v∈vs,v.oneCell'=true):Cs prog 182 #[tv,I J n,S (U (D vb 0 Z)) m vc] w fun e w'=>Fp B (n+m) (cs++vs) w e w':=by
 obtain⟨i0,hi0,hz0,hzs,hzb⟩:=dD jv;have HO:=CK hown;have hz1:¬((m:Int)=0):=O;have hvs':∀j u,vs[j]? =U u->w.cell? (((D vb 0 Z):Ad).add j)=U u:=fun j u hj=>by rw[kh,b9];exact hvs j u hj
 have hfin:∀g cap w',w'.ownsRow B 5 1 (S (U (D g 0 Z)) (n+m) cap) (n+m) (cs++vs)->w.grownBy w' tv.ownBlock->Fp B (n+m) (cs++vs) w (Rt (S (U (D g 0 Z)) (n+m) cap)) w':=fun g cap w' h1 h2=>by
  refine⟨_,X,h1,(aY B w).grown h2 hB fun k hk=>(hown.lt k hk).1,fun k o hT hg=>?_⟩;rw[h2.block k (bm hg) ?_]
  ·exact hg
  rcases hown.2 with⟨rfl,_⟩|⟨g',c',cur,rfl,_,hgg,_⟩
  ·intro q;cases q
  intro q;simp only[Value.ownBlock,Option.some.injEq]at q;subst q;rw[hgg]at hg;injection hg with hg;exact hT cur hg.symm
 have HFIN:=CK hfin;clear hfin;have hnc:∃bs cp,tv=S bs n cp:=by
  rcases hown.2 with⟨rfl,h⟩|⟨g',c',cur,rfl,_⟩
  ·exact⟨Z,0,by rw[h]⟩
  exact⟨_,_,X⟩
 have hcap:∃bs cp,tv=S bs n cp/\n<=cp/\cp<=maxLen:=by
  rcases hown.2 with⟨rfl,h⟩|⟨g',c',cur,rfl,_,_,h1,h2,_⟩
  ·exact⟨Z,0,by rw[h],O,by unfold maxLen;omega⟩
  exact⟨_,_,X,h1,h2⟩
 obtain⟨bs,cp,rfl,hc1,hc2⟩:=hcap;have hc3:cp<=9223372036854775807:=by unfold maxLen at hc2;omega
 have hbs:bs=Z\/∃g,bs=U (D g 0 Z):=by
  rcases hown.2 with⟨h,_⟩|⟨g',c',cur,h,_⟩
  ·injection h with h;exact .inl h
  injection h with h;exact .inr ⟨g',h⟩
 clear hown hnc hvs;go_enter func182,ntmps182;rcases hbs with rfl|⟨g0,rfl⟩
 ·go_wp2_with (at_builtin;refine wpList_append_lies _ X _ _ 52 X B 5 i0 (I .u8 0) 1 1 underlying52 hi0 hz0 hzs hzb X Dc _ n cs X HO (D vb 0 Z) m vc vs X O hvs' h1v hm (by unfold maxLen;omega) O hB w.heap.size X ?_;intro g cap w' h1 h2 h3 h4);all_goals go_ret;exact HFIN _ _ _ h1 h2
 go_wp2_with (at_builtin;refine wpList_append_lies _ X _ _ 52 X B 5 i0 (I .u8 0) 1 1 underlying52 hi0 hz0 hzs hzb X Dc _ n cs X HO (D vb 0 Z) m vc vs X O hvs' h1v hm (by unfold maxLen;omega) O hB w.heap.size X ?_;intro g cap w' h1 h2 h3 h4);all_goals go_ret;exact HFIN _ _ _ h1 h2
theorem D7(B:Nat)(tv:Vv)(n i vb m vc:Nat)(cs vs:Ls Vv)(CUR:Array Vv)(fz:Nat×Nat)(w:M)(hown:w.ownsRow B 5 1 tv n cs)(hi:i<=n)(hm:0<m)(hnm:n+m<=4000)(hB:B<=w.heap.size)(hvb:w.heap[vb]? =U (C CUR 5 fz))(hfz:0<fz.1)(hCUR:CUR.toList.take m=vs)(hvl:vs.length=m)(h1c:∀v∈cs,v.oneCell'=true)(h1v:∀v∈vs,v.oneCell'=true):Cs prog 182 #[tv,I J i,S (U (D vb 0 Z)) m vc] w fun e w'=>Fp B (n+m) (cs.take i++vs++cs.drop i) w e w':=by
 have hcl:cs.length=n:=by have:=hown.1;omega
 have hvs:∀j v,vs[j]? =U v->w.cell? (D vb j Z)=U v:=fun j v hj=>by
  rw[<-hCUR,jo]at hj;split at hj
  ·simp[Wc,hvb];simpa using hj
  cases hj
 have hCs:m<=CUR.size:=by have:=dj List.length hCUR;rw[gF]at this;simp at this;omega
 by_cases hin:i=n
 ·subst hin;rw[cZ O,gT O,pS];exact D8 B tv i vb m vc cs vs w hown hm hnm hB hvl hvs h1v
 have hlt:i<n:=O;rcases hown.2 with⟨_,h⟩|⟨g,cap,cur,rfl,hBg,hg,hnc,hcm,hcs,hct⟩
 ·omega
 rw[nv]at hcs hct;have hct':cur.toList.take n=cs:=hct;have hne:vb≠g:=by rintro rfl;rw[hg]at hvb;injection hvb with hvb;injection hvb with _ _ h3;subst h3;simp at hfz
 have hcell:∀j v,cs[j]? =U v->w.cell? (D g j Z)=U v:=fun j v hj=>by
  rw[<-hct',jo]at hj;split at hj
  ·simp[Wc,hg];simpa using hj
  cases hj
 have hcap:cap<=9223372036854775807:=by unfold maxLen at hcm;omega
 by_cases hroom:n+m<=cap
 ·refine(AU g n cap i vb m vc cs vs w hlt hm hroom hcap hne hcl hvl hcell (fun j hj=>?_) (fun j=>frozen_of_row w g j cur _ hg) hvs h1c h1v 5 5 CUR.size cur.size ?_ ?_ O ?_).mono ?_
  ·simp[Wc,hg];omega
  ·simp[World.shape?,hvb]
  ·simp[World.shape?,hg]
  ·simp[Wf,hvb];omega
  rintro e w' ⟨rfl,rfl⟩;have hr1:w.drew.heap[g]? =U (C cur 5 (0,0)):=hg;have hr2:=iG g 5 (0,0) vs i _ _ (iG g 5 (0,0) (cs.drop i) (i+m) _ _ hr1);have hdl:(cs.drop i).length=n-i:=by rw[di,hcl]
  have l1:=kI (cs.drop i) cur (i+m) (by rw[hdl];omega);have l2:=kI vs (sf cur (i+m) (cs.drop i)) i (by rw[jq];omega);refine⟨_,X,⟨So,.inr ⟨g,cap,_,X,hBg,hr2,hroom,hcm,by rw[jq,jq];omega,?_⟩⟩,gz hBg _ _ _ (gz hBg _ _ _ (By).drew),fun k o hT hk=>?_⟩
  ·rw[l2,l1,hdl,hvl,nv];(have e1:((cur.toList.take (i+m)++cs.drop i++cur.toList.drop (i+m+(n-i))).take i)=cs.take i:=by rw[bE,BU So,sv,pV O,<-hct',sv,pV O]);(have e2:((cur.toList.take (i+m)++cs.drop i++cur.toList.drop (i+m+(n-i))).drop (i+m))=cs.drop i++cur.toList.drop (i+m+(n-i)):=by rw[bE];exact DF So);rw[e1,e2,<-bE];exact jj So
  have hkg:k≠g:=by rintro rfl;rw[hg]at hk;injection hk with hk;exact hT cur hk.symm
  rw[gA g _ _ _ k hkg,gA g _ _ _ k hkg];exact hk
 refine(CN g n cap i vb m vc cs vs w hlt hm hnc O O hcl hvl hcell hvs h1c h1v).mono ?_;rintro e w' ⟨ag,hG1,hG2,rfl,rfl⟩;have hdl:(cs.drop i).length=n-i:=by rw[di,hcl]
 obtain⟨ROW,hROW⟩:∃ROW:Array Vv,ROW=(cs.take i).toArray++Builtin.zeroCells (Value.int .u8 0).cells (n+m-i)++Builtin.zeroCells (Value.int .u8 0).cells (ag-(n+m)):=Ez;have hRs:ROW.size=ag:=by rw[hROW];simp[Builtin.zeroCells,Value.cells];omega
 have hRt:ROW.toList.take i=cs.take i:=by rw[hROW,eE,eE,bE];exact jj So
 rw[<-hROW];have hr1:(w.alloc (C ROW 5)).drew.heap[w.heap.size]? =U (C ROW 5 (0,0)):=aA w _;have hr2:=iG w.heap.size 5 (0,0) vs i _ _ hr1;have hr3:=iG w.heap.size 5 (0,0) (cs.drop i) (i+m) _ _ (show(((w.alloc (C ROW 5)).drew.setCells w.heap.size i vs).drew).heap[w.heap.size]? =_ from hr2);have l1:=kI vs ROW i O;have l2:=kI (cs.drop i) (sf ROW i vs) (i+m) (by rw[jq,hdl];omega);have hbw:H B w (w.alloc (C ROW 5)).drew:=((By).alloc hB _).drew;refine⟨_,X,⟨So,.inr ⟨w.heap.size,ag,_,X,hB,hr3,hG1,hG2,by rw[jq,jq];omega,?_⟩⟩,gz hB _ _ _ (gz hB _ _ _ hbw).drew,fun k o hT hk=>?_⟩
 ·rw[l2,l1,hvl,hRt,hdl,nv];have e1:(cs.take i++vs++ROW.toList.drop (i+m)).take (i+m)=cs.take i++vs:=jj So;rw[e1];exact jj So
 have hkg:k≠w.heap.size:=by have:=bm hk;omega
 rw[gA _ _ _ _ k hkg];show((w.alloc (C ROW 5)).drew.setCells w.heap.size i vs).heap[k]? =_;rw[gA _ _ _ _ k hkg];exact ax hk (Be).drew
end Go.Proofs.YtkkicodfpekbgaaGreatDoor
namespace Go.Proofs.YtkkicodfpekbgaaGreatDoor
open Go.Proofs.Tryz
open Go.RowKit
def jg(w:M)(v:Vv)(l:Ls UInt8):Prop:=
 (v=S Z 0 0/\l=[])\/∃a c,v=S (U a) l.length c/\∀j x,l[j]? =U x->w.cell? (a.add j)=U (I .u8 (x.toNat:Int))
theorem tD(w:M):∀(l:Ls UInt8) (a:Ad) (acc:Q),(∀j x,l[j]? =U x->w.cell? (a.add j)=U (I .u8 (x.toNat:Int)))->(Extern.Bytes.loadBytes a l.length acc).run prog w= .ok ⟨acc.data++l.toArray⟩ w
 | [],a,acc,_=>by simp[Extern.Bytes.loadBytes]
 |x::l,a,acc,h=>by
  have h0:w.cell? a=U (I .u8 (x.toNat:Int)):=by
   have:=h 0 x X
   simpa [Addr.add]using this
  have ih:=tD w l (a.add 1) (acc.push ((x.toNat:Int).toNat.toUInt8)) (fun j y hy=>by
   have:=h (j+1) y (by simpa using hy)
   have e:(a.add 1).add j=a.add (j+1):=by
    unfold Addr.add
    by_cases hj:j=0
    ·subst hj;simp
    ·simp[hj];omega
   rw[e];exact this)
  simp only[aU,Extern.Bytes.loadBytes,ky,run_load,h0,Result.andThen]
  rw[ih]
  congr 1
  apply bC
  simp[ByteArray.push]
theorem nX{w:M}{v:Vv}{l:Ls UInt8}(h:jg w v l):(Extern.Bytes.bytesOf v).run prog w= .ok ⟨l.toArray⟩ w:=by
 rcases h with⟨rfl,rfl⟩|⟨a,c,rfl,h⟩
 ·rfl
 have:=tD w l a .empty h;simpa [Extern.Bytes.bytesOf]using this
theorem uK{w:M}{v u:Vv}{l m:Ls UInt8}(h:jg w v l)(k:jg w u m):(Extern.BytealgCompare.compare #[v,u]).run prog w= .ok (I J (Lib.compareBytes l m)) w:=by
 change Sem.run prog (α:=Vv) (do pure (goInt (Extern.BytealgCompare.cmp (<-Extern.Bytes.bytesOf v) (<-Extern.Bytes.bytesOf u)))) w=_;simp only[ky,nX h,nX k,Result.andThen,Ix];rw[Lib.cmp_eq];rfl
theorem nC(v u:Vv)(l m:Ls UInt8)(w:M)(h:jg w v l)(k:jg w u m):Cs prog 184 #[v,u] w fun e w'=>e=Rt (I J (Lib.compareBytes l m))/\w'=w:=by
 have HR:Hi ((callFunc 203 #[v,u]).run prog w= .ok (.value (I J (Lib.compareBytes l m))) w):=by unfold Hi;rw[cf func203 Kr Kr Kr (e:=Extern.BytealgCompare.compare) Kr,uK h k];rfl
 clear h k;go_enter func184,ntmps184;go_wp2;rw[HR.out];try simp only[Result.andThen]
 try rw[Oper.upon_value]
 go_wp2;go_ret;exact⟨X,X⟩
end Go.Proofs.YtkkicodfpekbgaaGreatDoor
namespace Go.Proofs.YtkkicodfpekbgaaGreatDoor
open Go.Proofs.Tryz
open Go.RowKit Go.Shelf
attribute [local go_sem] Oper.semAt_some
abbrev gP:={t:Int//0<=t/\t<=30}
def y9:gP:=⟨0,Dc,Dc⟩
def CF(x:Nat×gP):Array Vv:=#[I J (x.1:Int),Ag #[I J 2,I J x.2.1,Bo true]]
def GI(R:Nat)(w w':M):Prop:=∀(k:Nat) (A:Array Vv) (T:TypeId),k≠R->T≠5->w.heap[k]? =U (C A T (0,0))->w'.heap[k]? =U (C A T (0,0))
def fT(ars:Ls gP)(k:Nat):Ls (Nat×gP):=(List.range k).map fun j=>(ars.length-1-j,ars[ars.length-1-j]?.getD y9)
theorem vB(ars:Ls gP)(k:Nat):fT ars (k+1)=fT ars k++[(ars.length-1-k,ars[ars.length-1-k]?.getD y9)]:=by simp[fT,List.range_succ]
theorem xK(ars:Ls gP)(k:Nat):(fT ars k).length=k:=by simp[fT]
def iq(w:M)(Bs R:Nat)(ars:Ls gP):Prop:=
 Bs≠R/\((ars=[]/\w.heap[Bs]? =U (C #[S Z 0 0] 186 (0,0)))\/
  ∃g cap cur,g≠R/\cap<=9223372036854775807/\ars.length<=cap/\w.heap[Bs]? =U (C #[S (U (D g 0 Z)) ars.length cap] 186 (0,0))/\w.heap[g]? =U (C cur 149 (0,0))/\
   ∀j,j<ars.length->cur[j*3]? =U (I J 2)/\cur[j*3+1]? =U (I J (ars[j]?.getD y9).1)/\cur[j*3+2]? =U (Bo true))
theorem iq.keep{w w':M}{Bs R:Nat}{ars:Ls gP}(h:iq w Bs R ars)(k:GI R w w'):iq w' Bs R ars:=by
 refine⟨h.1,?_⟩;rcases h.2 with⟨h1,h2⟩|⟨g,cap,cur,h1,h2,h3,h4,h5,h6⟩
 ·exact .inl ⟨h1,k _ _ _ h.1 Dc h2⟩
 exact .inr ⟨g,cap,cur,h1,h2,h3,k _ _ _ h.1 Dc h4,k _ _ _ h1 Dc h5,h6⟩
theorem Cq(n:Nat)(hn:1<=n)(l Bs R:Nat)(ars:Ls gP)(hl:ars.length<=1000000)(aj Jx:Ls (Nat×gP)->M->Prop)(hY:∀pre x W,aj pre W->pre.length<ars.length->YieldAt Fence.wide (n-1) prog l (CF x) W fun e W'=>(e=Rt (Bo true)/\aj (pre++[x]) W'/\GI R W W')\/(e=Rt (Bo false)/\Jx (pre++[x]) W'))(W:M)(hA:iq W Bs R ars)(h0:aj [] W):CallsIn Fence.wide n prog 153 #[.func (.yield l) #[] #[],Po (U (D Bs 0 Z))] W fun e W'=>(∃v,e=Rt v)/\((∃ys,ys=fT ars ars.length/\aj ys W')\/(∃pre,True/\Jx pre W')):=by
 rcases hA.2 with⟨rfl,hb⟩|⟨g,cap,cur,hg1,hg2,hg3,hb,hg,hcs⟩
 ·have c0:W.cell? (D Bs 0 Z)=U (S Z 0 0):=by simp[Wc,hb]
  have hlb:Bs<W.heap.size:=(Array.getElem?_eq_some_iff.1 hb).1;clear hb hY hA;refine callsIn_of_wp func153 X trivial ?_ X;simp only[ntmps153,dy,aU,bD,Nat.reduceAdd,Nat.reduceSub,sq,sr,zv,uM,fg,kU];gi_wp2;gi_loopw [3] (fun i wr=>i=I J (-1)/\aj [] wr) (fun _ _=>0);case atStart=>exact⟨X,h0⟩
  obtain⟨rfl,hJs⟩:=hrel;gi_wp2;go_end0;exact⟨⟨_,X⟩,.inl ⟨_,X,hJs⟩⟩
 have c0:W.cell? (D Bs 0 Z)=U (S (U (D g 0 Z)) ars.length cap):=by simp[Wc,hb]
 have hlb:Bs<W.heap.size:=(Array.getElem?_eq_some_iff.1 hb).1;obtain⟨L,hL⟩:∃L,ars.length=L:=Ey;have hw1:IntKind.i64.wrap ((L:Int)-1)=(L:Int)-1:=by rw[db];omega
 rw[hL]at c0 hY hg3 hcs hl hb ⊢;refine callsIn_of_wp func153 X trivial ?_ X;simp only[ntmps153,dy,aU,bD,Nat.reduceAdd,Nat.reduceSub,sq,sr,zv,uM,fg,kU];gi_wp2;gi_loopw [3] (fun i wr=>∃k:Nat,k<=L/\i=I J ((L:Int)-1-k)/\aj (fT ars k) wr/\GI R W wr) (fun i _=>(Io i+1).toNat);case atStart=>exact⟨0,Lz,Sq,h0,fun _ _ _ _ _ h=>h⟩
 obtain⟨k,hk,rfl,hJs,hnx⟩:=hrel;have hb':=hnx _ _ _ hA.1 Dc hb;have hg':=hnx _ _ _ hg1 Dc hg;have d0:wr.cell? (D Bs 0 Z)=U (S (U (D g 0 Z)) L cap):=by simp[Wc,hb']
 have hlb':Bs<wr.heap.size:=(Array.getElem?_eq_some_iff.1 hb').1;have hlg':g<wr.heap.size:=(Array.getElem?_eq_some_iff.1 hg').1;by_cases hlt:k<L
 ·obtain⟨j,hj⟩:∃j:Nat,L-1-k=j:=Ey;have hji:(L:Int)-1-(k:Int)=(j:Int):=O;have hjl:j<L:=O;obtain⟨z0,z1,z2⟩:=hcs j hjl;have e0:wr.cell? (D g (j*3) Z)=U (I J 2):=by simp[Wc,hg',z0]
  have e1:wr.cell? (D g (j*3+1) Z)=U (I J (ars[j]?.getD y9).1):=by simp[Wc,hg',z1]
  have e2:wr.cell? (D g (j*3+2) Z)=U (Bo true):=by simp[Wc,hg',z2]
  obtain⟨fn,tmps,assign,body,hy,hR⟩:=hY (fT ars k) (j,ars[j]?.getD y9) wr hJs (by rw[xK];exact hlt);unfold CF at hy;dsimp only at hy;obtain⟨tg,htg⟩:∃tg,(ars[j]?.getD y9)=tg:=Ey;rw[htg]at e1 hy hR;have hbk:fT ars (k+1)=fT ars k++[(j,tg)]:=by rw[vB,hL,hj,htg]
  rw[hji];have hj0:(0:Int)<=(j:Int):=O;have hjl':(j:Int)<(L:Int):=O;have hw2:IntKind.i64.wrap ((j:Int)-1)=(j:Int)-1:=by rw[db];omega
  clear z0 z1 z2 hb' hg' hb hg hcs htg hY;gi_wp2;first|refine hR.mono ?_ |(refine⟨fun _=>hn,?_⟩;refine hR.mono ?_)
  rintro e W3 (⟨rfl,hJ3,hk3⟩|⟨rfl,hJx3⟩)
  ·gi_wp2;go_roundw;case rel=>exact⟨k+1,O,by congr 1<;>omega,by rw[hbk];exact hJ3,fun q A T h1 h2 h3=>hk3 q A T h1 h2 (hnx q A T h1 h2 h3)⟩
   case measure=>(simp[Io];try omega)
  gi_wp2;refine aS (C8 X _ _ _) X ?_;exact⟨⟨_,X⟩,.inr ⟨_,trivial,hJx3⟩⟩
 obtain rfl:k=L:=O;have hneg:(k:Int)-1-(k:Int)= -1:=O;rw[hneg];gi_wp2;go_end0;exact⟨⟨_,X⟩,.inl ⟨_,X,hJs⟩⟩
theorem xM(n:Nat)(hn:1<=n)(Bs R:Nat)(ars:Ls gP)(hl:ars.length<=1000000)(w:M)(hA:iq w Bs R ars):SeqStopsK Fence.wide n prog 153 #[Po (U (D Bs 0 Z))] CF (GI R) (fun ys=>ys=fT ars ars.length) (fun _=>True) ars.length w:=fun l aj Jx W hW _ _ hY h0=>by
 have hA':iq W Bs R ars:=hA.keep fun k A T _ _ hg=>ax hg hW;refine(Cq n hn l Bs R ars hl aj Jx hY W hA' h0).mono ?_;rintro e W' ⟨he,h|h⟩
 ·exact⟨he,.inl h⟩
 exact⟨he,.inr h⟩
theorem ud(a:Oo Ad)(len cap:Nat)(w:M):Cs prog 112 #[S a len cap] w fun e w'=>e=Rt (.func (.func 153) #[] #[Po (U (D w.heap.size 0 Z))])/\w'=w.alloc (C #[S a len cap] 186):=by
 go_enter func112,ntmps112;go_wp2;go_ret;exact⟨X,X⟩
theorem ni{P:Program}{F:Fence}{n:Nat}{α:Type}{g:Operand}{ps:Array Tmp}{assign body:Code}{aq:Exit->Act->M->Prop}{a:Act}{w:M}(hro:F.round=Z)(h1:1<=n){gf:Nat}{lb:Array Vv}(hg:a.eval g= .func (.func gf) #[] lb)(hFg:F.fn gf)(eg:∀args w,(callFunc gf args).run P w= .ok (.enter gf args) w){encs:α->Array Vv}{Kp:M->M->Prop}{ar Sp:Ls α->Prop}{N:Nat}{w0:M}(hseq:SeqStopsK F (n-1) P gf lb encs Kp ar Sp N w0)(hKt:∀{A B ae:M},Kp A B->Kp B ae->Kp A ae)(hKb:∀(W:M) (l:Nat) (o o':Obj),w.heap.size<=l->W.heap[l]? =U o->o.isCells=false->o.isWalk=false->Kp W (W.putObj l o'))(hKa:∀(W:M) (o:Obj),Kp W (W.alloc o))(hb0:H w0.heap.size w0 w)(hps:∀x,(encs x).size=ps.size)(ai:Ls α->M->Prop)(hI:OwnFrom w.heap.size ai)(h0:ai [] w)(t:Tmp)(T:TypeId)(cl:α->Array Vv)(hassign:∀(l:Nat) (x:α) (W:M) (K:Act->M->Prop),K {tmps:=((ps.zip (encs x)).foldl (fun t (p,v)=>t.setIfInBounds p v) a.tmps).setIfInBounds t (Po (U (D W.heap.size 0 Z))),defers:=[]} (W.alloc (C (cl x) T))->assign.wpIn (F.inRound l) (n-1-1) P (Exit.then K (fun _ _ _=>False)) {tmps:=(ps.zip (encs x)).foldl (fun t (p,v)=>t.setIfInBounds p v) a.tmps,defers:=[]} W)(hbody:∀(l:Nat) (pre:Ls α) (x:α) (Bx:Nat) (W:M),ai pre W->W.heap[Bx]? =U (C (cl x) T (0,0))->pre.length<N->body.wpIn (F.inRound l) (n-1-1) P (ownPostG w.heap.size Kp ai (fun _ _ _=>False) (pre++[x]) W) {tmps:=((ps.zip (encs x)).foldl (fun t (p,v)=>t.setIfInBounds p v) a.tmps).setIfInBounds t (Po (U (D Bx 0 Z))),defers:=[]} W)(hdone:∀(af:Nat) (xs:Ls α) (W:M),w.heap.size<=af->ar xs->ai xs W->W.heap[af]? =U (.deferred (U []))->aq .normal {a with defers:={target:= .collected af,args:=#[]}::a.defers} W):(Code.rangeFunc g ps assign body).wpIn F n P aq a w:=by
 refine wpIn_rangeFunc_ownH hro h1 hg hFg eg hseq hKt hKb hb0 hps ai (fun _ _ _=>False) hI (fun _ _ _ _ _ h _ _=>h) h0 (fun x a' W=>∃Bx,W.heap[Bx]? =U (C (cl x) T (0,0))/\a'={tmps:=((ps.zip (encs x)).foldl (fun t (p,v)=>t.setIfInBounds p v) a.tmps).setIfInBounds t (Po (U (D Bx 0 Z))),defers:=[]}) (fun x a' _ au av row hs hg' hr=>?_) (fun l pre x W K hi hK=>?_) (fun l pre x a' W _ _ hi hax hlt=>?_) hdone (fun _ _ _ _ _ _ h=>h.elim)
 ·obtain⟨Bx,h2,h3⟩:=hs;refine⟨Bx,?_,h3⟩;rw[hg'.block Bx (Array.getElem?_eq_some_iff.1 h2).1 (fun e=>?_)]
  ·exact h2
  obtain⟨_,o,ho,hc⟩:=hr Bx e.symm;rw[h2]at ho;injection ho with ho;subst ho;cases hc
 ·exact hassign l x W K (hK _ _ ((KeepsOthers.alloc _ _).from _) (hKa _ _) (hI.alloc _ hi) ⟨W.heap.size,World.alloc_heap_new W _,X⟩)
 obtain⟨Bx,h2,rfl⟩:=hax;exact hbody l pre x Bx W hi h2 hlt
theorem o6{P:Program}{F:Fence}{n:Nat}{fn:Func}{R:Ending->M->Prop}{a:Act}{w:M}{v:Vv}(hr:(results fn a.tmps).run P w= .ok v w)(hd:a.defers=[])(hR:R (Rt v) w):bodyPostM F n P fn R .ret a w:=by
 show LeavesInM F n P fn a.tmps R a.defers .returning w;rw[hd];exact⟨v,hr,hR⟩
theorem wg{P:Program}{F:Fence}{n:Nat}{fn:Func}{R:Ending->M->Prop}{a:Act}{w:M}{v:Vv}{af:Nat}(hK:w.heap[af]? =U (.deferred (U [])))(hr:(results fn a.tmps).run P (w.putObj af (.deferred Z))= .ok v (w.putObj af (.deferred Z)))(hd:a.defers=[{target:= .collected af,args:=#[]}])(hR:R (Rt v) (w.putObj af (.deferred Z))):bodyPostM F n P fn R .ret a w:=by
 show LeavesInM F n P fn a.tmps R a.defers .returning w;rw[hd];exact⟨Sq,.inl ⟨_,_,X,run_takeDeferred hK,v,hr,hR⟩⟩
end Go.Proofs.YtkkicodfpekbgaaGreatDoor
namespace Go.Proofs.YtkkicodfpekbgaaGreatDoor
open Go.Proofs.Tryz
open Go.RowKit
def kr(k cl nu:Int)(h:Hd)(data:Q)(x z y:Nat)(dp:Int)(tree:Ls Vl)(p:Int)(tree':Ls Vl)(e' p':Int):Prop:=
 (¬(h.c=cl/\h.n=nu/\h.b=false)/\tree'=tree/\e'=4/\p'=x)\/
 ((h.c=cl/\h.n=nu/\h.b=false)/\12<dp/\tree'=tree/\e'=10/\p'=x)\/
 ((h.c=cl/\h.n=nu/\h.b=false)/\dp<=12/\aR k (data.extract (x+z) y)/\tree'=tree++[⟨k,data.extract (x+z) y,0,0⟩]/\e'=0/\p'=p)\/
 ((h.c=cl/\h.n=nu/\h.b=false)/\dp<=12/\¬aR k (data.extract (x+z) y)/\tree'=tree/\e'=6/\p'=x)
def Cc(W w:M)(R:Nat)(a:Oo Ad)(n c:Nat)(data:Q)(v:Vv)(aq:Ls Vl->Int->Int->Prop)(e:Ending)(w':M):Prop:=
 e=Rt v/\∃tree' e' p',dk W w' R a n c data tree' e' p'/\aq tree' e' p'/\Fr R w w'
theorem kE(W w:M)(R:Nat)(a:Oo Ad)(n c:Nat)(data:Q)(tree:Ls Vl)(p:Int)(N:Nd)(ka:Oo Ad)(kc:Nat)(cl nu:Int)(hc:Int)(hb:Bool)(hn:Int)(z:Nat)(hl:Int)(x y:Nat)(dp:Int)(h:dk W w R a n c data tree 0 p)(hk1:1<=N.kind)(hk9:N.kind<=9)(hxy:x+z<=y)(hy:y<=data.size)(hm:data.size<=140737488355328)(ht:tree.length<=1099511627776):Cs prog 102 #[Po (U (D R 0 Z)),Ag #[I J N.kind,I J N.tag,I J N.mode,S ka N.kids.length kc],I J cl,I J nu,Ag #[I J hc,Bo hb,I J hn,I J z,I J hl],I J x,I J y,I J dp] w fun e w'=>Cc W w R a n c data (Tu #[]) (kr N.kind cl nu ⟨hc,hb,hn,z,hl⟩ data x z y dp tree p) e w':=by
 have HI:Hi _:=h;have HC:Hi (∀w,Cs prog 108 #[I J N.kind,Y (data.extract (x+z) y)] w fun e w'=>fi (aR N.kind (data.extract (x+z) y)) w e w'):=fun w=>sd _ _ w So;obtain⟨_,hlo,vt,hr,_⟩:=h;unfold eh at hr;have c1:w.cell? (D R 1 Z)=U (Y data):=by simp[Wc,hr]
 have hRl:R<w.heap.size:=aw c1;clear hr;have k13:(N.kind==13)=false:=by rw[aD];omega
 have k14:(N.kind==14)=false:=by rw[aD];omega
 have k14':(N.kind !=14)=true:=by rw[ct];omega
 have k10:(N.kind==10)=false:=by rw[aD];omega
 have k10':N.kind<10:=O;have HW1:Hi (∀o1 o2,dk W ((w.alloc o1).alloc o2) R a n c data tree 0 p):=fun o1 o2=>(HI.below Be).below Be;have FW:Hi (∀o1 o2 k,Fr R w (((w.alloc o1).alloc o2).drewN k)):=fun o1 o2 k=>Fr.of_below (Go.below_drewN (((aY w.heap.size w).alloc Ln o1).alloc Sq o2) k);by_cases q:hc=cl/\hn=nu/\hb=false
 ·have HQ:Hi _:=q;obtain⟨rfl,rfl,rfl⟩:=q;by_cases hd:12<dp
  ·have HD:Hi _:=hd;go_enter func102,ntmps102;go_wp2_with fail;refine(bO W _ R a n c data tree p 10 x (HW1 _ _)).mono ?_;rintro e w2 ⟨rfl,hI2,hoth⟩;have HI2:Hi _:=hI2;have HFR:Hi _:=(FW _ _ 0).trans (Fr.of_same hoth);clear hI2 hoth;go_wp2;go_end0;exact⟨X,tree,10,x,HI2,.inr (.inl ⟨⟨X,X,X⟩,HD,X,X,X⟩),HFR⟩
  have hd':dp<=12:=O;have HD:Hi _:=hd';have hxy':(x:Int)+z<=y:=O;have hy':(y:Int)<=data.size:=O;have hx0:(x:Int)+z<=140737488355328:=O;clear hd;go_enter func102,ntmps102;go_wp2_with fail;go_quiet (fail);go_wp2_with fail;refine(HC _).mono ?_;rintro e w2 ⟨r,rfl,hr2,kq,rfl⟩;have HR2:Hi _:=hr2;clear hr2;cases r
  ·go_wp2_with fail;refine(bO W _ R a n c data tree p 6 x ((HW1 _ _).below (Go.below_drewN By _))).mono ?_;rintro e w3 ⟨rfl,hI3,hoth⟩;have HI3:Hi _:=hI3;have HFR:Hi _:=(FW _ _ _).trans (Fr.of_same hoth);clear hI3 hoth;go_wp2;go_end0;exact⟨X,tree,6,x,HI3,.inr (.inr (.inr ⟨⟨X,X,X⟩,HD,fun h=>Bool.noConfusion (HR2.2 h),X,X,X⟩)),HFR⟩
  go_wp2_with fail;refine(mo W _ R a n c data tree 0 p ⟨N.kind,data.extract (x+z) y,0,0⟩ ((HW1 _ _).below (Go.below_drewN By _)) ht).mono ?_;rintro e w3 ⟨rfl,hI3,hfr⟩;have HI3:Hi _:=hI3;have HFR:Hi _:=(FW _ _ _).trans hfr;clear hI3 hfr;go_wp2;go_end0;exact⟨X,_,0,p,HI3,.inr (.inr (.inl ⟨⟨X,X,X⟩,HD,HR2.1 trivial,X,X,X⟩)),HFR⟩
 have HQ:Hi _:=q;have q':(hc !=cl)=true\/((hc !=cl)=false/\(hn !=nu)=true)\/((hc !=cl)=false/\(hn !=nu)=false/\hb=true):=by
  by_cases q1:hc=cl
  ·by_cases q2:hn=nu
   ·right;right;refine⟨by simp[q1],by simp[q2],?_⟩;cases hb
    ·exact Ab ⟨q1,q2,X⟩ q
    rfl
   right;left;exact⟨by simp[q1],by simp[q2]⟩
  left;simp[q1]
 clear q;rcases q' with e1|⟨e1,e2⟩|⟨e1,e2,rfl⟩
 ·go_enter func102,ntmps102;go_wp2_with fail;refine(bO W _ R a n c data tree p 4 x (HW1 _ _)).mono ?_;rintro e w2 ⟨rfl,hI2,hoth⟩;have HI2:Hi _:=hI2;have HFR:Hi _:=(FW _ _ 0).trans (Fr.of_same hoth);clear hI2 hoth;go_wp2;go_end0;exact⟨X,tree,4,x,HI2,.inl ⟨HQ,X,X,X⟩,HFR⟩
 ·go_enter func102,ntmps102;go_wp2_with fail;refine(bO W _ R a n c data tree p 4 x (HW1 _ _)).mono ?_;rintro e w2 ⟨rfl,hI2,hoth⟩;have HI2:Hi _:=hI2;have HFR:Hi _:=(FW _ _ 0).trans (Fr.of_same hoth);clear hI2 hoth;go_wp2;go_end0;exact⟨X,tree,4,x,HI2,.inl ⟨HQ,X,X,X⟩,HFR⟩
 go_enter func102,ntmps102;go_wp2_with fail;refine(bO W _ R a n c data tree p 4 x (HW1 _ _)).mono ?_;rintro e w2 ⟨rfl,hI2,hoth⟩;have HI2:Hi _:=hI2;have HFR:Hi _:=(FW _ _ 0).trans (Fr.of_same hoth);clear hI2 hoth;go_wp2;go_end0;exact⟨X,tree,4,x,HI2,.inl ⟨HQ,X,X,X⟩,HFR⟩
end Go.Proofs.YtkkicodfpekbgaaGreatDoor
namespace Go.Proofs.YtkkicodfpekbgaaGreatDoor
open Go.Proofs.Tryz
open Go.RowKit Go.Deep Go.ChangeShapes Go.WideShapes
theorem DM:prog.cellsOf 3=1:=Kr
theorem DL:prog.cellsOf 4=1:=Kr
theorem tP:prog.cellsOf 9=1:=Kr
theorem H3:prog.bytesOf 58=48:=Kr
theorem oJ(b o n:Nat):((D b o Z):Ad).add n=(D b (o+n) Z):=by unfold Addr.add;split<;>simp_all
theorem oM{w:M}{a:Ad}{v:Vv}(h:w.cell? a=U v):a=(D a.block a.off Z):=by
 obtain⟨b,o,sp⟩:=a
 cases sp with
 |none=>rfl
 |some k=>
  unfold Wc at h
  simp only at h
  split at h
  ·simp at h
  ·cases h
theorem lR{α:Type}(f:Nat->α)(d:α){n i:Nat}(h:i<n):((List.range n).map f).getD i d=f i:=by rw[aB,aC (by simpa using h)];simp
section
variable{ah:Type}{enc:TypeId×Vv->ah}{w:M}{base:Nat}{sp:Nat->Bool}{held:Bool}
end
end Go.Proofs.YtkkicodfpekbgaaGreatDoor
