/- Parts. -/
import Derived.Test.YtkkicodfpekbgaaGreatDoorJb0
import Derived.Test.YtkkicodfpekbgaaGreatDoorJb1
import Derived.Lib.AppendZerosOnto
import Derived.Deep.Slices
open Go.Value renaming int->I,string->Y,slice->S,pointer->Po,bool->Bo,agg->Ag,tuple->Tu
open Go.IntKind renaming i64->J
open Go.Obj renaming cells->C
open Go.Ending renaming returned->Rt
open Option renaming some->U,none->Z
open Go renaming World->M,Calls->Cs,Addr->Ad,Value->Vv
open _root_ renaming ByteArray->Q,Option->Oo,List->Ls
open Go.RowKit renaming Below->H,intOf->Io,Hid->Hi
open Go.World renaming cell?->Wc,frozen?->Wf
open Go.Act renaming put->Ap,eval->Ae
open Go.Addr renaming mk->D
set_option linter.all false
set_option maxRecDepth 100000
set_option maxHeartbeats 8000000
namespace Go.Proofs.YtkkicodfpekbgaaGreatDoor
section
open Go.RowKit
def Bg(m:Int):Ls Vv:=[I J m,Y ⟨#[]⟩,I J m,I J 0]
def sm(m:Int)(p:Nat):Vv:=(Bg m).getD (p%4) .nilIface
def mkRow(m:Int):Nat->Ls Vv
 |0=> []
 |k+1=>Bg m++mkRow m k
theorem Jk(m:Int):∀k,(mkRow m k).length=k*4
 |0=>rfl
 |k+1=>by rw[mkRow,ff,Jk m k];show 4+k*4=_;omega
theorem Jj(m:Int):∀k p,p<k*4->(mkRow m k)[p]? =U (sm m p)
 |0,p,h=>O
 |k+1,p,h=>by
  rw[mkRow]
  by_cases q:p<4
  ·rw[uH (by simpa [Bg]using q)]
   unfold sm
   rw[Er q]
   match p,q with
   |0,_=>rfl
   |1,_=>rfl
   |2,_=>rfl
   |3,_=>rfl
  ·have hl:(Bg m).length=4:=X
   rw[qq O,hl,Jj m k (p-4) O]
   unfold sm
   rw[<-Nat.mod_eq_sub_mod O]
theorem Pb(m:Int)(j:Nat):∀k,mkRow m k++mkRow m j=mkRow m (k+j)
 |0=>by simp[mkRow]
 |k+1=>by rw[mkRow,na,Pb m j k,show k+1+j=(k+j)+1 by omega,mkRow]
theorem Pc(m:Int)(k:Nat):∀u∈mkRow m k,u.oneCell'=true:=by
 induction k with
 |zero=>intro u hu;cases hu
 |succ k ih=>
  intro u hu
  rw[mkRow,Ek]at hu
  rcases hu with hu|hu
  ·unfold Bg at hu;simp at hu;rcases hu with rfl|rfl|rfl|rfl<;>rfl
  ·exact ih u hu
theorem Ji(m:Int)(n j:Nat):sm m (n*4+j)=sm m j:=by unfold sm;rw[show(n*4+j)%4=j%4 by omega]
def ir(w:M)(v:Vv)(n:Nat)(m:Int):Prop:=
 (v=S Z 0 0/\n=0)\/∃g cap aB,v=S (U (D g 0 Z)) n cap/\n<=maxLen/\w.heap[g]? =U (C aB 60 (0,0))/\∀p,p<n*4->aB[p]? =U (sm m p)
theorem ir.of_own{w:M}{base:Nat}{v:Vv}{n:Nat}{m:Int}(h:w.ownsRow base 60 4 v n (mkRow m n)):ir w v n m:=by
 rcases h.2 with q|⟨g,cap,aB,rfl,_,hg,h1,h2,h3,h4⟩;·exact .inl q
 refine .inr ⟨g,cap,aB,X,O,hg,fun p hp=>?_⟩;have:=Jj m n p hp;rw[<-h4,sh hp]at this;simpa using this
theorem ir.keep{w w':M}{v:Vv}{n:Nat}{m:Int}(h:ir w v n m)(hk:∀g o,v.ownBlock=U g->w.heap[g]? =U o->w'.heap[g]? =U o):ir w' v n m:=by
 rcases h with q|⟨g,cap,aB,rfl,h1,hg,h2⟩;·exact .inl q
 exact .inr ⟨g,cap,aB,X,h1,hk g _ X hg,h2⟩
theorem ir.below{w w':M}{v:Vv}{n:Nat}{m:Int}(h:ir w v n m)(hb:Bw w w'):ir w' v n m:=h.keep fun _ _ _ hg=>bc hg hb
theorem ir.lt{w:M}{v:Vv}{n:Nat}{m:Int}(h:ir w v n m){g:Nat}(hv:v.ownBlock=U g):g<w.heap.size:=by
 rcases h with⟨rfl,_⟩|⟨g',cap,aB,rfl,_,hg,_⟩;·cases hv
 injection hv with q;subst q;exact eb hg
structure Kp(w w':M)(m:Int)(b:Oo Nat):Prop where
 gr:w.grownBy w' b
 own:∀g aB,b=U g->w.heap[g]? =U (C aB 60 (0,0))->∃gF:Array Vv,w'.heap[g]? =U (C gF 60 (0,0))/\gF.size=aB.size/\∀p:Nat,gF[p]? =aB[p]? \/gF[p]? =U (sm m p)
theorem Kp.refl(w:M)(m:Int)(b:Oo Nat):Kp w w m b where
 gr:=⟨X,X,X,Ln,fun _ _ _=>rfl⟩
 own:=fun g aB _ h=>⟨aB,h,X,fun _=> .inl X⟩
theorem Kp.trans{w w1 w2:M}{m:Int}{b:Oo Nat}(h:Kp w w1 m b)(k:Kp w1 w2 m b):Kp w w2 m b where
 gr:=⟨k.gr.os.trans h.gr.os,k.gr.tape.trans h.gr.tape,k.gr.output.trans h.gr.output,fw h.gr.size k.gr.size,fun g hg hb=>(k.gr.block g (Nat.lt_of_lt_of_le hg h.gr.size) hb).trans (h.gr.block g hg hb)⟩
 own:=fun g aB hb hg=>by
  obtain⟨c1,q1,q2,q3⟩:=h.own g aB hb hg
  obtain⟨c2,r1,r2,r3⟩:=k.own g c1 hb q1
  refine⟨c2,r1,O,fun p=>?_⟩
  rcases r3 p with e|e
  ·rw[e];exact q3 p
  ·exact .inr e
theorem Kp.of_below{w w':M}{m:Int}{b:Oo Nat}(h:Bw w w'):Kp w w' m b where
 gr:=⟨h.os,h.tape,h.output,h.size,fun g hg _=>h.block g hg⟩
 own:=fun g aB _ hg=>⟨aB,bc hg h,X,fun _=> .inl X⟩
theorem Kp.alloc{w w':M}{m:Int}{b:Oo Nat}(h:Kp w w' m b)(o:Obj):Kp w (w'.alloc o) m b:=h.trans (.of_below Be)
theorem Kp.drew{w w':M}{m:Int}{b:Oo Nat}(h:Kp w w' m b):Kp w w'.drew m b:=h.trans (.of_below (By).drew)
theorem Kp.append{w w':M}{m:Int}{v:Vv}{n k:Nat}(hg:w.grownBy w' v.ownBlock)(hk:vu w w' 60 v (n*4) (mkRow m k)):Kp w w' m v.ownBlock where
 gr:=hg
 own:=fun g aB hb hc=>by
  obtain⟨c1,q1,q2,q3⟩:=hk g aB hb hc
  refine⟨c1,q1,q2,fun p=>?_⟩
  rcases q3 p with e|⟨j,rfl,hj,e⟩
  ·exact .inl e
  ·right
   rw[Jk]at hj
   rw[e,Jj m k j hj,Ji]
theorem Kp.full{w w':M}{m:Int}{b:Oo Nat}(h:Kp w w' m b){v:Vv}{n:Nat}(hf:ir w v n m):ir w' v n m:=by
 rcases hf with q|⟨g,cap,aB,rfl,h1,hg,h2⟩;·exact .inl q
 by_cases e:b=U g
 ·obtain⟨c1,q1,q2,q3⟩:=h.own g aB e hg;refine .inr ⟨g,cap,c1,X,h1,q1,fun p hp=>?_⟩;rcases q3 p with e|e;·rw[e];exact h2 p hp
  exact e
 exact .inr ⟨g,cap,aB,X,h1,(h.gr.block g (eb hg) (fun q=>e q.symm)).trans hg,h2⟩
theorem Kp.other{w w':M}{m m':Int}{b:Oo Nat}(h:Kp w w' m b){v:Vv}{n:Nat}(hf:ir w v n m')(aI:∀g,v.ownBlock=U g->b≠U g):ir w' v n m':=
 hf.keep fun g _ hv hg=>(h.gr.block g (eb hg) (fun q=>aI g hv q.symm)).trans hg
theorem Kp.block{w w':M}{m:Int}{b:Oo Nat}(h:Kp w w' m b){g:Nat}{o:Obj}(hg:w.heap[g]? =U o)(aI:b≠U g):w'.heap[g]? =U o:=(h.gr.block g (eb hg) (fun q=>aI q.symm)).trans hg
theorem Kp.row{w w':M}{m:Int}{v:Vv}{n:Nat}{xs:Ls Vv}{base:Nat}(h:Kp w w' m v.ownBlock)(hv:w.ownsRow base 60 4 v n xs){b2 s2 n2:Nat}{e2:TypeId}{v2:Vv}{x2:Ls Vv}(h2:w.ownsRow b2 e2 s2 v2 n2 x2)(hT:e2≠60):w'.ownsRow b2 e2 s2 v2 n2 x2:=by
 refine⟨h2.1,?_⟩;rcases h2.2 with q|⟨g,cap,aB,rfl,hb,hg,r⟩;·exact .inl q
 refine .inr ⟨g,cap,aB,X,hb,h.block hg (fun e=>?_),r⟩;rcases hv.2 with⟨rfl,_⟩|⟨g',_,gF,rfl,_,dY,_⟩;·cases e
 injection e with e;subst e;rw[show((D g' 0 Z):Ad).block=g' from rfl]at hg;rw[dY]at hg;injection hg with q;injection q with _ q;exact hT q.symm
theorem Kp.below{w w':M}{m:Int}{b:Oo Nat}(h:Kp w w' m b){B:Nat}{w0:M}(hb:H B w0 w)(hB:B<=w.heap.size)(gK:∀g,b=U g->B<=g):H B w0 w':=hb.grown h.gr hB gK
structure Dz(W w:M)(B:Nat)(L:Ls (Vv×Nat×Int))(nx:Int):Prop where
 bel:Bw W w
 lo:W.heap.size<=B
 row:∃vv vm,w.heap[B]? =U (C #[vv,vm,S Z 0 0,S Z 0 0,I J nx] 35 (0,0))/\
  w.ownsRow W.heap.size 39 1 vv L.length (L.map (·.1))/\w.ownsRow W.heap.size 3 1 vm L.length (L.map fun x=>I J x.2.2)
 full:∀x∈L,ir w x.1 x.2.1 x.2.2
theorem Dz.below{W w w':M}{B:Nat}{L:Ls (Vv×Nat×Int)}{nx:Int}(h:Dz W w B L nx)(hb:Bw w w'):Dz W w' B L nx where
 bel:=Tm h.bel hb
 lo:=h.lo
 row:=by
  obtain⟨vv,vm,h1,h2,h3⟩:=h.row
  exact⟨vv,vm,bc h1 hb,fm h2 hb,fm h3 hb⟩
 full:=fun x hx=>(h.full x hx).below hb
def Bh(m:Q):Ls Vv:=[Y m,Bo false,Y m]
def so(m:Q)(p:Nat):Vv:=(Bh m).getD (p%3) .nilIface
def mmRow(m:Q):Nat->Ls Vv
 |0=> []
 |k+1=>Bh m++mmRow m k
theorem Jn(m:Q):∀k,(mmRow m k).length=k*3
 |0=>rfl
 |k+1=>by rw[mmRow,ff,Jn m k];show 3+k*3=_;omega
theorem Jm(m:Q):∀k p,p<k*3->(mmRow m k)[p]? =U (so m p)
 |0,p,h=>O
 |k+1,p,h=>by
  rw[mmRow]
  by_cases q:p<3
  ·rw[uH (by simpa [Bh]using q)]
   unfold so
   rw[Er q]
   match p,q with
   |0,_=>rfl
   |1,_=>rfl
   |2,_=>rfl
  ·have hl:(Bh m).length=3:=X
   rw[qq O,hl,Jm m k (p-3) O]
   unfold so
   rw[<-Nat.mod_eq_sub_mod O]
theorem Xf(m:Q)(j:Nat):∀k,mmRow m k++mmRow m j=mmRow m (k+j)
 |0=>by simp[mmRow]
 |k+1=>by rw[mmRow,na,Xf m j k,show k+1+j=(k+j)+1 by omega,mmRow]
theorem Pe(m:Q)(k:Nat):∀u∈mmRow m k,u.oneCell'=true:=by
 induction k with
 |zero=>intro u hu;cases hu
 |succ k ih=>
  intro u hu
  rw[mmRow,Ek]at hu
  rcases hu with hu|hu
  ·unfold Bh at hu;simp at hu;rcases hu with rfl|rfl|rfl<;>rfl
  ·exact ih u hu
theorem Jl(m:Q)(n j:Nat):so m (n*3+j)=so m j:=by unfold so;rw[show(n*3+j)%3=j%3 by omega]
def ju(w:M)(v:Vv)(n:Nat)(m:Q):Prop:=
 (v=S Z 0 0/\n=0)\/∃g cap aB,v=S (U (D g 0 Z)) n cap/\n<=maxLen/\w.heap[g]? =U (C aB 73 (0,0))/\∀p,p<n*3->aB[p]? =U (so m p)
theorem ju.of_own{w:M}{base:Nat}{v:Vv}{n:Nat}{m:Q}(h:w.ownsRow base 73 3 v n (mmRow m n)):ju w v n m:=by
 rcases h.2 with q|⟨g,cap,aB,rfl,_,hg,h1,h2,h3,h4⟩;·exact .inl q
 refine .inr ⟨g,cap,aB,X,O,hg,fun p hp=>?_⟩;have:=Jm m n p hp;rw[<-h4,sh hp]at this;simpa using this
theorem ju.keep{w w':M}{v:Vv}{n:Nat}{m:Q}(h:ju w v n m)(hk:∀g o,v.ownBlock=U g->w.heap[g]? =U o->w'.heap[g]? =U o):ju w' v n m:=by
 rcases h with q|⟨g,cap,aB,rfl,h1,hg,h2⟩;·exact .inl q
 exact .inr ⟨g,cap,aB,X,h1,hk g _ X hg,h2⟩
theorem ju.below{w w':M}{v:Vv}{n:Nat}{m:Q}(h:ju w v n m)(hb:Bw w w'):ju w' v n m:=h.keep fun _ _ _ hg=>bc hg hb
theorem ju.lt{w:M}{v:Vv}{n:Nat}{m:Q}(h:ju w v n m){g:Nat}(hv:v.ownBlock=U g):g<w.heap.size:=by
 rcases h with⟨rfl,_⟩|⟨g',cap,aB,rfl,_,hg,_⟩;·cases hv
 injection hv with q;subst q;exact eb hg
structure ik(w w':M)(m:Q)(b:Oo Nat):Prop where
 gr:w.grownBy w' b
 own:∀g aB,b=U g->w.heap[g]? =U (C aB 73 (0,0))->∃gF:Array Vv,w'.heap[g]? =U (C gF 73 (0,0))/\gF.size=aB.size/\∀p:Nat,gF[p]? =aB[p]? \/gF[p]? =U (so m p)
theorem ik.refl(w:M)(m:Q)(b:Oo Nat):ik w w m b where
 gr:=⟨X,X,X,Ln,fun _ _ _=>rfl⟩
 own:=fun g aB _ h=>⟨aB,h,X,fun _=> .inl X⟩
theorem ik.trans{w w1 w2:M}{m:Q}{b:Oo Nat}(h:ik w w1 m b)(k:ik w1 w2 m b):ik w w2 m b where
 gr:=⟨k.gr.os.trans h.gr.os,k.gr.tape.trans h.gr.tape,k.gr.output.trans h.gr.output,fw h.gr.size k.gr.size,fun g hg hb=>(k.gr.block g (Nat.lt_of_lt_of_le hg h.gr.size) hb).trans (h.gr.block g hg hb)⟩
 own:=fun g aB hb hg=>by
  obtain⟨c1,q1,q2,q3⟩:=h.own g aB hb hg
  obtain⟨c2,r1,r2,r3⟩:=k.own g c1 hb q1
  refine⟨c2,r1,O,fun p=>?_⟩
  rcases r3 p with e|e
  ·rw[e];exact q3 p
  ·exact .inr e
theorem ik.of_below{w w':M}{m:Q}{b:Oo Nat}(h:Bw w w'):ik w w' m b where
 gr:=⟨h.os,h.tape,h.output,h.size,fun g hg _=>h.block g hg⟩
 own:=fun g aB _ hg=>⟨aB,bc hg h,X,fun _=> .inl X⟩
theorem ik.alloc{w w':M}{m:Q}{b:Oo Nat}(h:ik w w' m b)(o:Obj):ik w (w'.alloc o) m b:=h.trans (.of_below Be)
theorem ik.drew{w w':M}{m:Q}{b:Oo Nat}(h:ik w w' m b):ik w w'.drew m b:=h.trans (.of_below (By).drew)
theorem ik.append{w w':M}{m:Q}{v:Vv}{n k:Nat}(hg:w.grownBy w' v.ownBlock)(hk:vu w w' 73 v (n*3) (mmRow m k)):ik w w' m v.ownBlock where
 gr:=hg
 own:=fun g aB hb hc=>by
  obtain⟨c1,q1,q2,q3⟩:=hk g aB hb hc
  refine⟨c1,q1,q2,fun p=>?_⟩
  rcases q3 p with e|⟨j,rfl,hj,e⟩
  ·exact .inl e
  ·right
   rw[Jn]at hj
   rw[e,Jm m k j hj,Jl]
theorem ik.full{w w':M}{m:Q}{b:Oo Nat}(h:ik w w' m b){v:Vv}{n:Nat}(hf:ju w v n m):ju w' v n m:=by
 rcases hf with q|⟨g,cap,aB,rfl,h1,hg,h2⟩;·exact .inl q
 by_cases e:b=U g
 ·obtain⟨c1,q1,q2,q3⟩:=h.own g aB e hg;refine .inr ⟨g,cap,c1,X,h1,q1,fun p hp=>?_⟩;rcases q3 p with e|e;·rw[e];exact h2 p hp
  exact e
 exact .inr ⟨g,cap,aB,X,h1,(h.gr.block g (eb hg) (fun q=>e q.symm)).trans hg,h2⟩
theorem ik.other{w w':M}{m m':Q}{b:Oo Nat}(h:ik w w' m b){v:Vv}{n:Nat}(hf:ju w v n m')(aI:∀g,v.ownBlock=U g->b≠U g):ju w' v n m':=
 hf.keep fun g _ hv hg=>(h.gr.block g (eb hg) (fun q=>aI g hv q.symm)).trans hg
theorem ik.block{w w':M}{m:Q}{b:Oo Nat}(h:ik w w' m b){g:Nat}{o:Obj}(hg:w.heap[g]? =U o)(aI:b≠U g):w'.heap[g]? =U o:=(h.gr.block g (eb hg) (fun q=>aI q.symm)).trans hg
theorem ik.row{w w':M}{m:Q}{v:Vv}{n:Nat}{xs:Ls Vv}{base:Nat}(h:ik w w' m v.ownBlock)(hv:w.ownsRow base 73 3 v n xs){b2 s2 n2:Nat}{e2:TypeId}{v2:Vv}{x2:Ls Vv}(h2:w.ownsRow b2 e2 s2 v2 n2 x2)(hT:e2≠73):w'.ownsRow b2 e2 s2 v2 n2 x2:=by
 refine⟨h2.1,?_⟩;rcases h2.2 with q|⟨g,cap,aB,rfl,hb,hg,r⟩;·exact .inl q
 refine .inr ⟨g,cap,aB,X,hb,h.block hg (fun e=>?_),r⟩;rcases hv.2 with⟨rfl,_⟩|⟨g',_,gF,rfl,_,dY,_⟩;·cases e
 injection e with e;subst e;rw[show((D g' 0 Z):Ad).block=g' from rfl]at hg;rw[dY]at hg;injection hg with q;injection q with _ q;exact hT q.symm
theorem ik.below{w w':M}{m:Q}{b:Oo Nat}(h:ik w w' m b){B:Nat}{w0:M}(hb:H B w0 w)(hB:B<=w.heap.size)(gK:∀g,b=U g->B<=g):H B w0 w':=hb.grown h.gr hB gK
structure oz(W w:M)(B:Nat)(L:Ls (Vv×Nat×Int))(an:Ls (Vv×Nat×Q))(nx:Int):Prop where
 bel:Bw W w
 lo:W.heap.size<=B
 row:∃vv vm mv mm,w.heap[B]? =U (C #[vv,vm,mv,mm,I J nx] 35 (0,0))/\
  w.ownsRow W.heap.size 39 1 vv L.length (L.map (·.1))/\w.ownsRow W.heap.size 3 1 vm L.length (L.map fun x=>I J x.2.2)/\
  w.ownsRow W.heap.size 66 1 mv an.length (an.map (·.1))/\w.ownsRow W.heap.size 9 1 mm an.length (an.map fun x=>Y x.2.2)
 full:∀x∈L,ir w x.1 x.2.1 x.2.2
 fullM:∀x∈an,ju w x.1 x.2.1 x.2.2
theorem oz.below{W w w':M}{B:Nat}{L:Ls (Vv×Nat×Int)}{an:Ls (Vv×Nat×Q)}{nx:Int}(h:oz W w B L an nx)(hb:Bw w w'):oz W w' B L an nx where
 bel:=Tm h.bel hb
 lo:=h.lo
 row:=by
  obtain⟨vv,vm,mv,mm,h1,h2,h3,h4,h5⟩:=h.row
  exact⟨vv,vm,mv,mm,bc h1 hb,fm h2 hb,fm h3 hb,fm h4 hb,fm h5 hb⟩
 full:=fun x hx=>(h.full x hx).below hb
 fullM:=fun x hx=>(h.fullM x hx).below hb
theorem ik.fullV{w w':M}{m:Q}{v:Vv}{n:Nat}{xs:Ls Vv}{base:Nat}(h:ik w w' m v.ownBlock)(hv:w.ownsRow base 73 3 v n xs){u:Vv}{k:Nat}{m':Int}(hf:ir w u k m'):ir w' u k m':=by
 rcases hf with q|⟨g,cap,aB,rfl,h1,hg,h2⟩;·exact .inl q
 refine .inr ⟨g,cap,aB,X,h1,h.block hg (fun e=>?_),h2⟩;rcases hv.2 with⟨rfl,_⟩|⟨g',_,gF,rfl,_,dY,_⟩;·cases e
 injection e with e;subst e;rw[show((D g' 0 Z):Ad).block=g' from rfl]at hg;rw[dY]at hg;injection hg with q;injection q with _ q;exact Ab q Dc
end
section
open Go.Proofs.Tryz
open Go.RowKit Go.Lib
def xe:Array Vv->Nat->Ls Vv->Array Vv
 |aB,_,[]=>aB
 |aB,o,v::r=>xe (aB.setIfInBounds o v) (o+1) r
theorem Fx:∀(vs:Ls Vv) (aB:Array Vv) (o:Nat),o+vs.length<=aB.size->(xe aB o vs).toList=aB.toList.take o++vs++aB.toList.drop (o+vs.length)
 | [],aB,o,_=>by simp[xe]
 |v::r,aB,o,h=>by
  simp only[fu]at h
  rw[xe,Fx r _ _ So]
  have hl:o<aB.toList.length:=So
  rw[Array.toList_setIfInBounds,vz,List.getElem?_set_self hl,List.take_set_of_le Ln,List.drop_set_of_lt O]
  simp only[Option.toList_some,na,Ht,fu,zn]
  rw[show o+1+r.length=o+(r.length+1)by omega]
theorem Dj(vs:Ls Vv):∀(aB:Array Vv) (o:Nat),(xe aB o vs).size=aB.size:=by
 induction vs with
 |nil=>intro aB o;rfl
 |cons v r ih=>intro aB o;rw[xe,ih];simp
theorem Gt(g:Nat)(T:TypeId)(fz:Nat×Nat):∀(vs:Ls Vv) (o:Nat) (w:M) (aB:Array Vv),w.heap[g]? =U (C aB T fz)->(w.setCells g o vs).heap[g]? =U (C (xe aB o vs) T fz)
 | [],_,_,_,h=>h
 |v::r,o,w,aB,h=>by
  rw[World.setCells,xe]
  refine Gt g T fz r (o+1) _ _ ?_
  simp[World.setCell,aac,h]
theorem Gs(g:Nat):∀(vs:Ls Vv) (o:Nat) (w:M) (k:Nat),k≠g->(w.setCells g o vs).heap[k]? =w.heap[k]?
 | [],_,_,_,_=>rfl
 |v::r,o,w,k,h=>by
  rw[World.setCells,Gs g r _ _ k h]
  simp[World.setCell,aac,Ne.symm h]
theorem Gr{B g:Nat}(hb:B<=g){w0:M}:∀(vs:Ls Vv) (o:Nat) (w:M),H B w0 w->H B w0 (w.setCells g o vs)
 | [],_,_,h=>h
 |v::r,o,w,h=>by
  rw[World.setCells]
  exact Gr hb r _ _ (h.setCell (p:=D g o Z) hb _)
theorem aie{P:Program}(w:M)(tS tR e:TypeId)(ht:P.underlying tS=U (.slice e))(size:Nat)(hz:∀w,(Go.sizeOf e).run P w= .ok size w)(a b:Ad)(la ca lb cb:Nat)(aI:a.block≠b.block)(tA tB:TypeId)(kA kB:Nat)(RM:w.shape? a.block=U (tA,kA))(cW:w.shape? b.block=U (tB,kB))(QZ:kA≠0)(QT:w.frozen? a=false)(L7:w.frozen? b=false)(hfe:w.frozen? {block:=b.block,off:=kB}=false):(Extern.SlicesOverlaps.overlaps #[tS,tS] #[tR] #[S (U a) la ca,S (U b) lb cb]).run P w= .ok (Bo false) w:=by
 have dH:(a.block !=b.block)=true:=by simpa using aI
 have aeE:(a.block==b.block)=false:=by simpa using aI
 change Sem.run P (α:=Vv) (do
  let U t:=(#[tS,tS]:Array TypeId)[0]? |stuck "slices.overlaps: no parameter types"
  let .slice elem<-underlying t|stuck "slices.overlaps: slice type expected"
  let size<-sizeOf elem
  match(U a:Oo Ad),(U b:Oo Ad)with
  |some a,U b=>
   if la=0\/lb=0\/size=0 then pure (Value.bool false)
   else if a.block !=b.block&&(<-frozen a)&&(<-frozen b)then unsupported .addressObserved
   else do
    if a.block !=b.block then do
     noView a;noView b
     if<-mayBeOne a b then return Value.bool ((<-choose (.extern "sameAddr.stringBytes" 2))==1)
    pure (Value.bool (a.block==b.block&&a.off<b.off+lb*size&&b.off<a.off+la*size))
  |_,_=>pure (Value.bool false)) w=_
 by_cases h0:la=0\/lb=0\/size=0;·simp[Kj ht,hz,h0]
 cases kA with
 |zero=>exact Ab X QZ
 |succ kA=>
  cases hq:w.frozen? {block:=a.block,off:=kA+1} <;>
  simp[Kj ht,hz,h0,dH,aeE,frozen,noView,viewAt,mayBeOne,stringish,shape,Sem.run,RM,cW,QT,L7,hfe,hq]
theorem Om{p:Prop}(h:p):Hi p:=h
theorem ajo(w:M){o:Oper}{a:Act}{K:Act->M->Prop}{ar:Exit->Act->M->Prop}(d s:Operand)(t t':TypeId)(ho:o.op= .call {callee:= .builtin .copy,args:=#[d,s],argTypes:=#[t,t']})(v u:Vv)(hd:a.eval d=v)(hs:a.eval s=u){v':Vv}{w':M}(hr:(Builtin.copy_ #[t,t'] o.type #[v,u]).run prog w= .ok v' w')(h:K (a.put o.dst v') w'):o.wp prog a w K ar:=by
 unfold Oper.wp execOp;simp only[ho,resolve,invoke,builtin,Cu,Sc,Result.andThen_ok,List.map_toArray,uI,zl,hd,hs,hr];exact h
theorem Qq(w:M){gM:Array Oper}{rest:Ls Oper}{o:Oper}{a:Act}{ar:Exit->Act->M->Prop}(CS:o.guard=Z)(d s:Operand)(t t':TypeId)
 (ho:o.op= .call {callee:= .builtin .copy,args:=#[d,s],argTypes:=#[t,t']})(v u:Vv)(hd:a.eval d=v)(hs:a.eval s=u){v':Vv}{w':M}
 (hr:(Builtin.copy_ #[t,t'] o.type #[v,u]).run prog w= .ok v' w')(h:wpList prog gM ar rest (a.put o.dst v') w'):wpList prog gM ar (o::rest) a w:=
 wpList_plain CS fun _ hK=>ajo w d s t t' ho v u hd hs hr (hK _ _ h)
theorem Zg{gM:Array Oper}{o:Oper}{a:Act}{w:M}{K:Act->M->Prop}{ar:Exit->Act->M->Prop}{E:Prop}(hg:o.guard=Z)(d x:Operand)(dT sT:TypeId)(AN:o.op=Op.call {callee:=Callee.builtin Builtin.copy,args:=#[d,x],argTypes:=#[dT,sT]})(v u:Vv)(hd:a.eval d=v)(hx:a.eval x=u){v':Vv}{w':M}(hr:(Builtin.copy_ #[dT,sT] o.type #[v,u]).run prog w= .ok v' w')(hK:K (a.put o.dst v') w'):if Region.wanted o (yielded gM a.tmps)=true then Oper.wp prog o a w K ar else E:=by
 have hw:Region.wanted o (yielded gM a.tmps)=true:=by simp[Region.wanted,hg]
 rw[ba hw];unfold Oper.wp;simp[execOp,AN,resolve,invoke,builtin,hd,hx,hr,Result.andThen];exact hK
theorem Vw(b:Nat)(vs:Ls Vv)(o:Nat)(w:M)(h:∀j,j<vs.length->(w.cell? (D b (o+j) Z)).isSome=true)(k:Nat)(hk:(w.cell? (D b k Z)).isSome=true):((w.setCells b o vs).cell? (D b k Z)).isSome=true:=by
 by_cases eN:o<=k/\k<o+vs.length;·have:=World.cell?_setCells_in b vs o w h (k-o) O;rw[show o+(k-o)=k by omega]at this;rw[this];rfl
 rw[Ta b vs o w (D b k Z) (fun _ _=>by show k<o\/o+vs.length<=k;omega)];exact hk
theorem abN(w:M):(Go.sizeOf 5).run prog w= .ok 1 w:=by obtain⟨i0,hi,cU,dA,bL⟩:=mh Fc;simp[sizeOf,typeInfo,hi,dA]
theorem afh(b n c i vb m vc:Nat)(cs vs:Ls Vv)(w:M)(hi:i<n)(hm:0<m)(bJ:n+m<=c)(ajS:c<=9223372036854775807)(eD:vb≠b)(mT:cs.length=n)(rP:vs.length=m)(gP:∀j v,cs[j]? =U v->w.cell? (D b j Z)=U v)(RN:∀j,j<n+m->(w.cell? (D b j Z)).isSome=true)(CQ:∀j,w.frozen? (D b j Z)=false)(pH:∀j v,vs[j]? =U v->w.cell? (D vb j Z)=U v)(DY:∀v∈cs,v.oneCell'=true)(wE:∀v∈vs,v.oneCell'=true)(tA tB:TypeId)(kA kB:Nat)(RM:w.shape? vb=U (tA,kA))(cW:w.shape? b=U (tB,kB))(QZ:kA≠0)(QT:w.frozen? (D vb 0 Z)=false):Cs prog 182 #[S (U (D b 0 Z)) n c,I J i,S (U (D vb 0 Z)) m vc] w fun e w'=>e=Rt (S (U (D b 0 Z)) (n+m) c)/\w'=(w.drew.setCells b (i+m) (cs.drop i)).setCells b i vs:=by
 obtain⟨i0,dO,cU,rU,AY⟩:=mh Fc;have bX:(prog.info? 5).map (·.size)=U 1:=by rw[dO];simp[rU]
 have hov:∀lb cb,(callFunc 200 #[S (U (D vb 0 Z)) m vc,S (U (D b (i+m) Z)) lb cb]).run prog w= .ok (.value (Bo false)) w:=fun lb cb=>by rw[sq func200 Kr Kr Kr (e:=Extern.SlicesOverlaps.overlaps #[52,52] #[4]) Kr,aie w 52 4 5 underlying52 1 abN (D vb 0 Z) (D b (i+m) Z) m vc lb cb eD tA tB kA kB RM cW QZ QT (CQ _) (CQ _)];rfl
 have lX:(cs.drop i).length=n-i:=by rw[ug,mT]
 have lE:IntKind.i64.wrap ((i:Int)+(m:Int))=(i:Int)+(m:Int):=by rw[su];omega
 have hb1:(0:Int)<=(i:Int)+(m:Int):=O;have eN:i<=n:=O;have gC:((i:Int)+(m:Int)).toNat=i+m:=O;have hb2:¬(c=i+m):=O;have hb3:(i:Int)<=(n:Int)+(m:Int):=O;have hb4:¬(c=i):=O;have QL:∀ty dc sc,(Builtin.copy_ #[52,52] ty #[S (U (D b (i+m) Z)) (n+m-(i+m)) dc,S (U (D b i Z)) (n+m-i) sc]).run prog w.drew= .ok (goInt (cs.drop i).length) (w.drew.setCells b (i+m) (cs.drop i)):=fun ty dc sc=>Qa w.drew _ _ ty 5 b (i+m) (n+m-(i+m)) dc (D b i Z) (n+m-i) sc (cs.drop i) underlying52 bX (by rw[lX];simp only[Lw];split<;>omega) (fun j v hj=>by rw[Bz];exact gP (i+j) v (by rwa[zj]at hj)) (fun j hj=>RN _ O) (fun j hj=>CQ _) (fun v hv=>DY v (Ro hv));obtain⟨W1,jX⟩:∃W1,W1=w.drew.setCells b (i+m) (cs.drop i):=Ez;have aeK:∀k,k<n+m->(W1.cell? (D b k Z)).isSome=true:=fun k hk=>by rw[jX];exact Vw b (cs.drop i) (i+m) w.drew (fun j hj=>RN (i+m+j) (by rw[lX]at hj;omega)) k (RN k hk)
 have WX:∀(W:M),(∀x,W.cell? x=W1.cell? x)->(∀x,W.frozen? x=W1.frozen? x)->∀ty dc,(Builtin.copy_ #[52,52] ty #[S (U (D b i Z)) (n+m-i) dc,S (U (D vb 0 Z)) m vc]).run prog W= .ok (goInt vs.length) (W.setCells b i vs):=fun W zX IQ ty dc=>Qa W _ _ ty 5 b i (n+m-i) dc (D vb 0 Z) m vc vs underlying52 bX (by rw[rP];simp only[Lw];split<;>omega) (fun j v hj=>by rw[Bz,zX,jX,Ta b _ _ _ _ (fun h _=>Ab h eD),ly];exact pH j v hj) (fun j hj=>by rw[zX];exact aeK _ O) (fun j hj=>by rw[IQ,jX,World.frozen?_setCells];exact CQ _) wE;rw[<-jX]at QL;go_enter func182,ntmps182;go_wp2_with (simp only[hov]);go_region_law (refine Zg X _ _ 52 52 X _ _ (by simp[Ae,Ap]) (by simp[Ae,Ap]) (QL _ _ _) ?_);go_wp2_with (at_builtin;refine Qq _ X _ _ 52 52 X _ _ X X (WX _ (fun _=>rfl) (fun _=>rfl) _ _) ?_);go_ret;first|exact⟨X,X⟩|exact⟨X,by rw[jX]⟩
theorem afe(b n c i vb m vc:Nat)(cs vs:Ls Vv)(w:M)(hi:i<n)(hm:0<m)(yM:n<=c)(bJ:c<n+m)(aeh:(n+m)*1<=140737488355328)(mT:cs.length=n)(rP:vs.length=m)(gP:∀j v,cs[j]? =U v->w.cell? (D b j Z)=U v)(pH:∀j v,vs[j]? =U v->w.cell? (D vb j Z)=U v)(DY:∀v∈cs,v.oneCell'=true)(wE:∀v∈vs,v.oneCell'=true):Cs prog 182 #[S (U (D b 0 Z)) n c,I J i,S (U (D vb 0 Z)) m vc] w fun e w'=>∃ag,n+m<=ag/\ag<=maxLen/\e=Rt (S (U (D w.heap.size 0 Z)) (n+m) ag)/\w'=(((w.alloc (C ((cs.take i).toArray++Builtin.zeroCells (Value.int .u8 0).cells (n+m-i)++Builtin.zeroCells (Value.int .u8 0).cells (ag-(n+m))) 5)).drew.setCells w.heap.size i vs).drew).setCells w.heap.size (i+m) (cs.drop i):=by
 obtain⟨i0,dO,cU,rU,AY⟩:=mh Fc;have hz3:(c:Int)<(n:Int)+(m:Int):=O;have bX:(prog.info? 5).map (·.size)=U 1:=by rw[dO];simp[rU]
 have nD:b<w.heap.size:=block_lt_of_cell (gP 0 _ (dz O));have hvw:vb<w.heap.size:=block_lt_of_cell (pH 0 _ (dz O));have gX:(n:Int)+(m:Int)-(i:Int)=((n+m-i:Nat):Int):=O;have AD:i+(n+m-i)=n+m:=O;have vK:(Builtin.firstCells i0.size i (S (U (D b 0 Z)) i c)).run prog w.drew= .ok (cs.take i).toArray w.drew:=by
  rw[rU];exact run_firstCells_some w.drew 1 i (D b 0 Z) i c (cs.take i) (by rw[Ax];omega) (fun j v hj=>by
   rw[Bz,ly];rw[Hw]at hj;split at hj;(·exact gP j v hj);cases hj)
 have MT:∀ty,(Builtin.append_ #[52,3] ty #[S (U (D b 0 Z)) i c,I J ((n:Int)+(m:Int)-(i:Int))]).run prog w=
  .ok (S (U (D w.heap.size 0 Z)) (n+m) (grownCap w (n+m) c 5)) (w.drew.alloc (C ((cs.take i).toArray++Builtin.zeroCells (Value.int .u8 0).cells (n+m-i)++Builtin.zeroCells (Value.int .u8 0).cells (grownCap w (n+m) c 5-(n+m))) 5)):=fun ty=>by
  have h:=Lib.run_append_grow_zeros w 52 3 ty 5 i0 _ J J underlying52 underlying3 dO cU (U (D b 0 Z)) i c (cs.take i) vK (n+m-i) O O O O (by rw[AY];omega) (by rw[AY,AD];exact growslice_fits bJ aeh)
  rw[AD]at h
  rw[gX]
  exact h
 obtain⟨ag,hG⟩:∃ag,ag=grownCap w (n+m) c 5:=Ez;obtain⟨i5,zV⟩:∃i5:Array Vv,i5=(cs.take i).toArray++Builtin.zeroCells (Value.int .u8 0).cells (n+m-i)++Builtin.zeroCells (Value.int .u8 0).cells (ag-(n+m)):=Ez;have DK:=Om zV;rw[<-hG]at MT;rw[<-zV]at MT;have eS:n+m<=i5.size:=by rw[zV];simp[Builtin.zeroCells,Value.cells];omega
 obtain⟨W1,jX⟩:∃W1,W1=w.drew.alloc (C i5 5):=Ez;rw[<-jX]at MT;have hN:∀j,j<n+m->(W1.cell? (D w.heap.size j Z)).isSome=true:=fun j hj=>by rw[jX,World.cell?_alloc_at (w:=w.drew) i5 _ w.heap.size j X,Array.getElem?_eq_getElem O];rfl
 have V9:∀j,W1.frozen? (D w.heap.size j Z)=false:=fun j=>by rw[jX];exact World.frozen?_alloc_at (w:=w.drew) i5 _ w.heap.size j X
 have hOb:∀j v,w.cell? (D b j Z)=U v->W1.cell? (D b j Z)=U v:=fun j v h=>by rw[jX,World.cell?_alloc_past (w:=w.drew) _ b j nD];exact h
 have hOv:∀j v,w.cell? (D vb j Z)=U v->W1.cell? (D vb j Z)=U v:=fun j v h=>by rw[jX,World.cell?_alloc_past (w:=w.drew) _ vb j hvw];exact h
 have aen:∀(W:M),(∀x,W.cell? x=W1.cell? x)->(∀x,W.frozen? x=W1.frozen? x)->∀ty dc,(Builtin.copy_ #[52,52] ty #[S (U (D w.heap.size i Z)) (n+m-i) dc,S (U (D vb 0 Z)) m vc]).run prog W= .ok (goInt vs.length) (W.setCells w.heap.size i vs):=fun W zX IQ ty dc=>Qa W _ _ ty 5 w.heap.size i (n+m-i) dc (D vb 0 Z) m vc vs underlying52 bX (by rw[rP];simp only[Lw];split<;>omega) (fun j v hj=>by rw[Bz,zX,ly];exact hOv _ v (pH j v hj)) (fun j hj=>by rw[zX];exact hN _ O) (fun j hj=>by rw[IQ];exact V9 _) wE;have hGn:n+m<=ag:=by rw[hG];exact grownCap_ge w _ _ _
 have VZ:ag<=maxLen:=by have:=grownCap_le_maxLen w (n+m) c 5 (by unfold maxLen;omega);rw[<-hG]at this;exact this
 have ajN:ag<=9223372036854775807:=by unfold maxLen at VZ;omega
 have zH:Hi (n+m<=ag/\ag<=maxLen):=⟨hGn,VZ⟩;have hGi:¬(ag=i):=O;have ajO:¬(ag=i+m):=O;have hci:¬(c=i):=O;have hbN:b≠w.heap.size:=O;have lX:(cs.drop i).length=n-i:=by rw[ug,mT]
 have WY:∀(W:M),(∀x,W.cell? x=(W1.setCells w.heap.size i vs).cell? x)->(∀x,W.frozen? x=(W1.setCells w.heap.size i vs).frozen? x)->∀ty dc sc,(Builtin.copy_ #[52,52] ty #[S (U (D w.heap.size (i+m) Z)) (n+m-(i+m)) dc,S (U (D b i Z)) (n-i) sc]).run prog W= .ok (goInt (cs.drop i).length) (W.setCells w.heap.size (i+m) (cs.drop i)):=fun W zX IQ ty dc sc=>Qa W _ _ ty 5 w.heap.size (i+m) (n+m-(i+m)) dc (D b i Z) (n-i) sc (cs.drop i) underlying52 bX (by rw[lX];simp only[Lw];split<;>omega) (fun j v hj=>by rw[Bz,zX,Ta _ _ _ _ _ (fun h _=>Ab h hbN)];exact hOb _ v (gP (i+j) v (by rwa[zj]at hj))) (fun j hj=>by rw[zX];exact Vw _ _ _ _ (fun t ht=>hN _ O) _ (hN _ O)) (fun j hj=>by rw[IQ,World.frozen?_setCells];exact V9 _) (fun v hv=>DY v (Ro hv));subst jX;have hE1:∀x,((w.alloc (C i5 5)).drew).cell? x=(w.drew.alloc (C i5 5)).cell? x:=fun x=>rfl;have jV:∀x,((w.alloc (C i5 5)).drew).frozen? x=(w.drew.alloc (C i5 5)).frozen? x:=fun x=>rfl;have CC:∀x,(((w.alloc (C i5 5)).drew.setCells w.heap.size i vs).drew).cell? x=((w.drew.alloc (C i5 5)).setCells w.heap.size i vs).cell? x:=fun x=>rfl;have gH:∀x,(((w.alloc (C i5 5)).drew.setCells w.heap.size i vs).drew).frozen? x=((w.drew.alloc (C i5 5)).setCells w.heap.size i vs).frozen? x:=fun x=>rfl;have lE:IntKind.i64.wrap ((i:Int)+(m:Int))=(i:Int)+(m:Int):=by rw[su];omega
 have hb1:(0:Int)<=(i:Int)+(m:Int):=O;have gC:((i:Int)+(m:Int)).toNat=i+m:=O;have hb3:(i:Int)<=(n:Int):=O;clear gX AD vK zV hG eS;go_enter func182,ntmps182
 go_wp2_with (first
  |(at_builtin;refine Lib.wpList_append_run _ X _ _ _ _ X _ _ X X _ _ (MT _) ?_)
  |(at_builtin;refine Qq _ X _ _ 52 52 X _ _ X X (aen _ hE1 jV _ _) ?_)
  |(at_builtin;refine Qq _ X _ _ 52 52 X _ _ X X (WY _ (fun _=>rfl) (fun _=>rfl) _ _ _) ?_))
 go_region_law (refine Zg X _ _ 52 52 X (S (U (D w.heap.size (i+m) Z)) (n+m-(i+m)) (ag-(i+m))) (S (U (D b i Z)) (n-i) (c-i)) (by simp[Ae,Ap]) (by simp[Ae,Ap]) (WY _ CC gH 3 (ag-(i+m)) (c-i)) ?_);go_wp2;go_ret;exact⟨ag,zH.1,zH.2,X,by rw[<-DK.out]⟩
def Lj(B n:Nat)(cs:Ls Vv)(w:M)(e:Ending)(w':M):Prop:=
 ∃v',e=Rt v'/\w'.ownsRow B 5 1 v' n cs/\H B w w'/\∀(k:Nat) (o:Obj),(∀A,o≠C A 5 (0,0))->w.heap[k]? =U o->w'.heap[k]? =U o
theorem afc(B:Nat)(tv:Vv)(n vb m vc:Nat)(cs vs:Ls Vv)(w:M)(aG:w.ownsRow B 5 1 tv n cs)(hm:0<m)(AM:n+m<=4000)(hB:B<=w.heap.size)(rP:vs.length=m)(pH:∀j v,vs[j]? =U v->w.cell? (D vb j Z)=U v)(wE:∀v∈vs,v.oneCell'=true):Cs prog 182 #[tv,I J n,S (U (D vb 0 Z)) m vc] w fun e w'=>Lj B (n+m) (cs++vs) w e w':=by
 obtain⟨i0,dO,cU,rU,AY⟩:=mh Fc;have HO:=Om aG;have Y8:∀j u,vs[j]? =U u->w.cell? (((D vb 0 Z):Ad).add j)=U u:=fun j u hj=>by rw[Bz,ly];exact pH j u hj
 have jP:∀g cap w',w'.ownsRow B 5 1 (S (U (D g 0 Z)) (n+m) cap) (n+m) (cs++vs)->w.grownBy w' tv.ownBlock->Lj B (n+m) (cs++vs) w (Rt (S (U (D g 0 Z)) (n+m) cap)) w':=fun g cap w' h1 h2=>by
  refine⟨_,X,h1,(cm B w).grown h2 hB fun k hk=>(aG.lt k hk).1,fun k o hT hg=>?_⟩;rw[h2.block k (eb hg) ?_];·exact hg
  rcases aG.2 with⟨rfl,_⟩|⟨g',c',aB,rfl,_,I4,_⟩;·intro q;cases q
  intro q;simp only[Value.ownBlock,Option.some.injEq]at q;subst q;rw[I4]at hg;injection hg with hg;exact hT aB hg.symm
 have j4:=Om jP;clear jP;have yM:∃bs cp,tv=S bs n cp:=by
  rcases aG.2 with⟨rfl,h⟩|⟨g',c',aB,rfl,_⟩;·exact⟨Z,0,by rw[h]⟩
  exact⟨_,_,X⟩
 have kK:∃bs cp,tv=S bs n cp/\n<=cp/\cp<=maxLen:=by
  rcases aG.2 with⟨rfl,h⟩|⟨g',c',aB,rfl,_,_,h1,h2,_⟩;·exact⟨Z,0,by rw[h],O,by unfold maxLen;omega⟩
  exact⟨_,_,X,h1,h2⟩
 obtain⟨bs,cp,rfl,j6,eU⟩:=kK;have qA:bs=Z\/∃g,bs=U (D g 0 Z):=by
  rcases aG.2 with⟨h,_⟩|⟨g',c',aB,h,_⟩;·injection h with h;exact .inl h
  injection h with h;exact .inr ⟨g',h⟩
 clear aG yM pH;go_enter func182,ntmps182;rcases qA with rfl|⟨g0,rfl⟩;·go_wp2_with (at_builtin;refine wpList_append_lies _ X _ _ 52 X B 5 i0 (I .u8 0) 1 1 underlying52 dO cU rU AY X Dc _ n cs X HO (D vb 0 Z) m vc vs X O Y8 wE hm (by unfold maxLen;omega) O hB w.heap.size X ?_;intro g cap w' h1 h2 h3 h4);all_goals go_ret;exact j4 _ _ _ h1 h2
 go_wp2_with (at_builtin;refine wpList_append_lies _ X _ _ 52 X B 5 i0 (I .u8 0) 1 1 underlying52 dO cU rU AY X Dc _ n cs X HO (D vb 0 Z) m vc vs X O Y8 wE hm (by unfold maxLen;omega) O hB w.heap.size X ?_;intro g cap w' h1 h2 h3 h4);all_goals go_ret;exact j4 _ _ _ h1 h2
theorem afb(B:Nat)(tv:Vv)(n i vb m vc:Nat)(cs vs:Ls Vv)(J9:Array Vv)(fz:Nat×Nat)(w:M)(aG:w.ownsRow B 5 1 tv n cs)(hi:i<=n)(hm:0<m)(AM:n+m<=4000)(hB:B<=w.heap.size)(eD:w.heap[vb]? =U (C J9 5 fz))(CQ:0<fz.1)(VS:J9.toList.take m=vs)(rP:vs.length=m)(DY:∀v∈cs,v.oneCell'=true)(wE:∀v∈vs,v.oneCell'=true):Cs prog 182 #[tv,I J i,S (U (D vb 0 Z)) m vc] w fun e w'=>Lj B (n+m) (cs.take i++vs++cs.drop i) w e w':=by
 have mT:cs.length=n:=by have:=aG.1;omega
 have pH:∀j v,vs[j]? =U v->w.cell? (D vb j Z)=U v:=fun j v hj=>by
  rw[<-VS,Hw]at hj;split at hj;·simp[Wc,eD];simpa using hj
  cases hj
 have hCs:m<=J9.size:=by have:=kr List.length VS;rw[Ax]at this;simp at this;omega
 by_cases eN:i=n;·subst eN;rw[ye O,Hv O,Lk];exact afc B tv i vb m vc cs vs w aG hm AM hB rP pH wE
 have aA:i<n:=O;rcases aG.2 with⟨_,h⟩|⟨g,cap,aB,rfl,PS,hg,yM,L4,gP,zZ⟩;·omega
 rw[Es]at gP zZ;have WZ:=zZ;have aI:vb≠g:=by rintro rfl;rw[hg]at eD;injection eD with eD;injection eD with _ _ h3;subst h3;simp at CQ
 have eV:∀j v,cs[j]? =U v->w.cell? (D g j Z)=U v:=fun j v hj=>by
  rw[<-WZ,Hw]at hj;split at hj;·simp[Wc,hg];simpa using hj
  cases hj
 have kK:cap<=9223372036854775807:=by unfold maxLen at L4;omega
 by_cases bJ:n+m<=cap
 ·refine(afh g n cap i vb m vc cs vs w aA hm bJ kK aI mT rP eV (fun j hj=>?_) (fun j=>frozen_of_row w g j aB _ hg) pH DY wE 5 5 J9.size aB.size ?_ ?_ O ?_).mono ?_;·simp[Wc,hg];omega
  ·simp[World.shape?,eD]
  ·simp[World.shape?,hg]
  ·simp[Wf,eD];omega
  rintro e w' ⟨rfl,rfl⟩;have bW:w.drew.heap[g]? =U (C aB 5 (0,0)):=hg;have gY:=Gt g 5 (0,0) vs i _ _ (Gt g 5 (0,0) (cs.drop i) (i+m) _ _ bW);have lX:(cs.drop i).length=n-i:=by rw[ug,mT]
  have l1:=Fx (cs.drop i) aB (i+m) (by rw[lX];omega);have l2:=Fx vs (xe aB (i+m) (cs.drop i)) i (by rw[Dj];omega);refine⟨_,X,⟨So,.inr ⟨g,cap,_,X,PS,gY,bJ,L4,by rw[Dj,Dj];omega,?_⟩⟩,Gr PS _ _ _ (Gr PS _ _ _ (By).drew),fun k o hT hk=>?_⟩;·rw[l2,l1,lX,rP,Es];(have e1:((aB.toList.take (i+m)++cs.drop i++aB.toList.drop (i+m+(n-i))).take i)=cs.take i:=by rw[na,aaC So,Lr,Ia O,<-WZ,Lr,Ia O]);(have e2:((aB.toList.take (i+m)++cs.drop i++aB.toList.drop (i+m+(n-i))).drop (i+m))=cs.drop i++aB.toList.drop (i+m+(n-i)):=by rw[na];exact Rk So);rw[e1,e2,<-na];exact El So
  have I8:k≠g:=by rintro rfl;rw[hg]at hk;injection hk with hk;exact hT aB hk.symm
  rw[Gs g _ _ _ k I8,Gs g _ _ _ k I8];exact hk
 refine(afe g n cap i vb m vc cs vs w aA hm yM O O mT rP eV pH DY wE).mono ?_;rintro e w' ⟨ag,bF,bH,rfl,rfl⟩;have lX:(cs.drop i).length=n-i:=by rw[ug,mT]
 obtain⟨i5,zV⟩:∃i5:Array Vv,i5=(cs.take i).toArray++Builtin.zeroCells (Value.int .u8 0).cells (n+m-i)++Builtin.zeroCells (Value.int .u8 0).cells (ag-(n+m)):=Ez;have P3:i5.size=ag:=by rw[zV];simp[Builtin.zeroCells,Value.cells];omega
 have hRt:i5.toList.take i=cs.take i:=by rw[zV,Am,Am,na];exact El So
 rw[<-zV];have bW:(w.alloc (C i5 5)).drew.heap[w.heap.size]? =U (C i5 5 (0,0)):=bl w _;have gY:=Gt w.heap.size 5 (0,0) vs i _ _ bW;have nX:=Gt w.heap.size 5 (0,0) (cs.drop i) (i+m) _ _ (show(((w.alloc (C i5 5)).drew.setCells w.heap.size i vs).drew).heap[w.heap.size]? =_ from gY);have l1:=Fx vs i5 i O;have l2:=Fx (cs.drop i) (xe i5 i vs) (i+m) (by rw[Dj,lX];omega);have nD:H B w (w.alloc (C i5 5)).drew:=((By).alloc hB _).drew;refine⟨_,X,⟨So,.inr ⟨w.heap.size,ag,_,X,hB,nX,bF,bH,by rw[Dj,Dj];omega,?_⟩⟩,Gr hB _ _ _ (Gr hB _ _ _ nD).drew,fun k o hT hk=>?_⟩;·rw[l2,l1,rP,hRt,lX,Es];have e1:(cs.take i++vs++i5.toList.drop (i+m)).take (i+m)=cs.take i++vs:=El So;rw[e1];exact El So
 have I8:k≠w.heap.size:=by have:=eb hk;omega
 rw[Gs _ _ _ _ k I8];show((w.alloc (C i5 5)).drew.setCells w.heap.size i vs).heap[k]? =_;rw[Gs _ _ _ _ k I8];exact bc hk (Be).drew
end
section
open Go.Proofs.Tryz
open Go.RowKit
def xr(w:M)(v:Vv)(l:Ls UInt8):Prop:=
 (v=S Z 0 0/\l=[])\/∃a c,v=S (U a) l.length c/\∀j x,l[j]? =U x->w.cell? (a.add j)=U (I .u8 (x.toNat:Int))
theorem Yz(w:M):∀(l:Ls UInt8) (a:Ad) (aE:Q),(∀j x,l[j]? =U x->w.cell? (a.add j)=U (I .u8 (x.toNat:Int)))->(Extern.Bytes.loadBytes a l.length aE).run prog w= .ok ⟨aE.data++l.toArray⟩ w
 | [],a,aE,_=>by simp[Extern.Bytes.loadBytes]
 |x::l,a,aE,h=>by
  have h0:w.cell? a=U (I .u8 (x.toNat:Int)):=by
   have:=h 0 x X
   simpa [Addr.add]using this
  have ih:=Yz w l (a.add 1) (aE.push ((x.toNat:Int).toNat.toUInt8)) (fun j y hy=>by
   have:=h (j+1) y (by simpa using hy)
   have e:(a.add 1).add j=a.add (j+1):=by
    unfold Addr.add
    by_cases hj:j=0
    ·subst hj;simp
    ·simp[hj];omega
   rw[e];exact this)
  simp only[fu,Extern.Bytes.loadBytes,Cu,run_load,h0,Result.andThen]
  rw[ih]
  congr 1
  apply je
  simp[ByteArray.push]
theorem Yx{w:M}{v:Vv}{l:Ls UInt8}(h:xr w v l):(Extern.Bytes.bytesOf v).run prog w= .ok ⟨l.toArray⟩ w:=by
 rcases h with⟨rfl,rfl⟩|⟨a,c,rfl,h⟩;·rfl
 have:=Yz w l a .empty h;simpa [Extern.Bytes.bytesOf]using this
theorem aid{w:M}{v u:Vv}{l m:Ls UInt8}(h:xr w v l)(k:xr w u m):(Extern.BytealgCompare.compare #[v,u]).run prog w= .ok (I J (Lib.compareBytes l m)) w:=by
 change Sem.run prog (α:=Vv) (do pure (goInt (Extern.BytealgCompare.cmp (<-Extern.Bytes.bytesOf v) (<-Extern.Bytes.bytesOf u)))) w=_;simp only[Cu,Yx h,Yx k,Result.andThen,Sc];rw[Lib.cmp_eq];rfl
theorem Tj(v u:Vv)(l m:Ls UInt8)(w:M)(h:xr w v l)(k:xr w u m):Cs prog 184 #[v,u] w fun e w'=>e=Rt (I J (Lib.compareBytes l m))/\w'=w:=by
 have HR:Hi ((callFunc 203 #[v,u]).run prog w= .ok (.value (I J (Lib.compareBytes l m))) w):=by unfold Hi;rw[sq func203 Kr Kr Kr (e:=Extern.BytealgCompare.compare) Kr,aid h k];rfl
 clear h k;go_enter func184,ntmps184;go_wp2;rw[HR.out];try simp only[Result.andThen]
 try rw[Oper.upon_value]
 go_wp2;go_ret;exact⟨X,X⟩
theorem adl(s:Ls Nd)(a:Oo Ad)(cp i k:Nat)(w:M)(hs:ew w a s)(hw:qg s)(dR:xw s)(hi:i<s.length)(hk:k<s.length)(hn:s.length<=40):Cs prog 68 #[S a s.length cp,I J i,I J k] w fun e w'=>dw (lz s i k) w e w':=by
 have HC:Hi (∀(wr:M) (j:Nat) (c m:Int),Bw w wr->j<s.length->Cs prog 100 #[S a s.length cp,I J j,I J c,I J m] wr fun e w'=>dw (lv s j c m) wr e w'):=fun wr j c m hb hj=>No s a cp j c m wr (hs.below hb) hw dR hj hn;clear hs hw dR;go_enter func68,ntmps68;go_wp2;go_loopw [7] (fun vc wr=>∃c:Nat,c<=4/\vc=I J c/\(∀c' m':Nat,c'<c->m'<31->¬(lv s i c' m'/\lv s k c' m'))/\Bw w wr) (fun vc _=>4-(Io vc).toNat);case atStart=>exact⟨0,O,X,fun _ _ h=>Ab h (dh _),By⟩
 obtain⟨c,hc,rfl,(HN:Hi _),(HB:Hi _)⟩:=hrel;by_cases aA:c<4
 ·have aN:(c:Int)<4:=O;go_wp2;go_loopw [8] (fun vm wx=>∃m:Nat,m<=31/\vm=I J m/\(∀m':Nat,m'<m->¬(lv s i c m'/\lv s k c m'))/\Bw w wx) (fun vm _=>31-(Io vm).toNat);case atStart=>exact⟨0,O,X,fun _ h=>Ab h (dh _),HB⟩
  obtain⟨m,hm,rfl,(m8:Hi _),(aD:Hi _)⟩:=hrel;by_cases RD:m<31
  ·have XV:(m:Int)<31:=O;have NX:Hi (∀(h:¬(lv s i c m/\lv s k c m)),∀m':Nat,m'<m+1->¬(lv s i c m'/\lv s k c m')):=fun h m' vH=>by
    by_cases e:m'=m;(·subst e;exact h);exact m8 m' O
   go_wp2_with fail;refine(HC _ i c m aD hi).mono ?_;rintro e w1 ⟨r,rfl,(HR:Hi _),hb1⟩;have aR:Hi _:=Tm aD hb1;clear hb1;cases r;(·go_wp2;go_roundw;(case rel=>exact⟨m+1,O,Gn,NX (fun h=>by have:=HR.2 h.1;cases this),aR⟩);exact Ms);go_wp2_with fail;refine(HC _ k c m aR hk).mono ?_;rintro e w2 ⟨r,rfl,(eL:Hi _),hb2⟩;have aJ:Hi _:=Tm aR hb2;clear hb2;cases r;(·go_wp2;go_roundw;(case rel=>exact⟨m+1,O,Gn,NX (fun h=>by have:=eL.2 h.2;cases this),aJ⟩);exact Ms);go_wp2;go_ret;exact ia ⟨c,m,O,O,O,O,HR.1 trivial,eL.1 trivial⟩ aJ
  have XV:(31:Int)<=m:=O;go_wp2;go_roundw
  case rel=>exact⟨c+1,O,Gn,fun c' m' h1 h2=>by
   by_cases e:c'=c;(·subst e;exact m8 m' O);exact HN c' m' O h2,aD⟩
  exact Ms
 have aN:(4:Int)<=c:=O;go_wp2;go_ret;exact cg (fun⟨c',m',h1,h2,h3,h4,h5,h6⟩=>HN c'.toNat m'.toNat O O (by rw[vh h1,vh h3];exact⟨h5,h6⟩)) HB
def ua(k cl nu:Int)(h:Hd)(data:Q)(x z y:Nat)(dp:Int)(tree:Ls Vl)(p:Int)(b9:Ls Vl)(e' p':Int):Prop:=
 (¬(h.c=cl/\h.n=nu/\h.b=false)/\b9=tree/\e'=4/\p'=x)\/
 ((h.c=cl/\h.n=nu/\h.b=false)/\12<dp/\b9=tree/\e'=10/\p'=x)\/
 ((h.c=cl/\h.n=nu/\h.b=false)/\dp<=12/\bu k (data.extract (x+z) y)/\b9=tree++[⟨k,data.extract (x+z) y,0,0⟩]/\e'=0/\p'=p)\/
 ((h.c=cl/\h.n=nu/\h.b=false)/\dp<=12/\¬bu k (data.extract (x+z) y)/\b9=tree/\e'=6/\p'=x)
def Ew(W w:M)(R:Nat)(a:Oo Ad)(n c:Nat)(data:Q)(v:Vv)(ar:Ls Vl->Int->Int->Prop)(e:Ending)(w':M):Prop:=
 e=Rt v/\∃b9 e' p',bm W w' R a n c data b9 e' p'/\ar b9 e' p'/\Fr R w w'
theorem Fi(W w:M)(R:Nat)(a:Oo Ad)(n c:Nat)(data:Q)(tree:Ls Vl)(p:Int)(N:Nd)(ka:Oo Ad)(kc:Nat)(cl nu hc:Int)(hb:Bool)(hn:Int)(z:Nat)(hl:Int)(x y:Nat)(dp:Int)(h:bm W w R a n c data tree 0 p)(bQ:1<=N.kind)(cY:N.kind<=9)(jQ:x+z<=y)(hy:y<=data.size)(hm:data.size<=140737488355328)(ht:tree.length<=1099511627776):Cs prog 102 #[Po (U (D R 0 Z)),Ag #[I J N.kind,I J N.tag,I J N.mode,S ka N.kids.length kc],I J cl,I J nu,Ag #[I J hc,Bo hb,I J hn,I J z,I J hl],I J x,I J y,I J dp] w fun e w'=>Ew W w R a n c data (Tu #[]) (ua N.kind cl nu ⟨hc,hb,hn,z,hl⟩ data x z y dp tree p) e w':=by
 have HI:Hi _:=h;have HC:Hi (∀w,Cs prog 108 #[I J N.kind,Y (data.extract (x+z) y)] w fun e w'=>gz (bu N.kind (data.extract (x+z) y)) w e w'):=fun w=>Vr _ _ w So;obtain⟨_,gK,vt,hr,_⟩:=h;unfold ix at hr;have c1:w.cell? (D R 1 Z)=U (Y data):=by simp[Wc,hr]
 have eS:=lc c1;clear hr;have wW:(N.kind==13)=false:=Bf;have vO:(N.kind==14)=false:=Bf;have R4:(N.kind !=14)=true:=by rw[ln];omega
 have wV:(N.kind==10)=false:=Bf;have eQ:Hi (∀o1 o2,bm W ((w.alloc o1).alloc o2) R a n c data tree 0 p):=fun o1 o2=>(HI.below Be).below Be;have FW:Hi (∀o1 o2 k,Fr R w (((w.alloc o1).alloc o2).drewN k)):=fun o1 o2 k=>Fr.of_below (Go.below_drewN (((cm w.heap.size w).alloc Ln o1).alloc Sq o2) k);by_cases q:hc=cl/\hn=nu/\hb=false
 ·have HQ:Hi _:=q;obtain⟨rfl,rfl,rfl⟩:=q;by_cases hd:12<dp;·have HD:Hi _:=hd;go_enter func102,ntmps102;go_wp2_with fail;refine(jy W _ R a n c data tree p 10 x (eQ _ _)).mono ?_;rintro e w2 ⟨rfl,(aS:Hi _),bD⟩;have b7:Hi _:=(FW _ _ 0).trans (Fr.of_same bD);clear bD;go_wp2;go_end0;exact⟨X,tree,10,x,aS,.inr (.inl ⟨⟨X,X,X⟩,HD,X,X,X⟩),b7⟩
  have yF:dp<=12:=O;have HD:Hi _:=yF;have vN:(y:Int)<=data.size:=O;have nZ:(x:Int)+z<=140737488355328:=O;clear hd;go_enter func102,ntmps102;go_wp2_with fail;go_quiet (fail);go_wp2_with fail;refine(HC _).mono ?_;rintro e w2 ⟨r,rfl,(eL:Hi _),kq,rfl⟩;cases r;·go_wp2_with fail;refine(jy W _ R a n c data tree p 6 x ((eQ _ _).below (Go.below_drewN By _))).mono ?_;rintro e w3 ⟨rfl,(cH:Hi _),bD⟩;have b7:Hi _:=(FW _ _ _).trans (Fr.of_same bD);clear bD;go_wp2;go_end0;exact⟨X,tree,6,x,cH,.inr (.inr (.inr ⟨⟨X,X,X⟩,HD,fun h=>Bool.noConfusion (eL.2 h),X,X,X⟩)),b7⟩
  go_wp2_with fail;refine(Dq W _ R a n c data tree 0 p ⟨N.kind,data.extract (x+z) y,0,0⟩ ((eQ _ _).below (Go.below_drewN By _)) ht).mono ?_;rintro e w3 ⟨rfl,(cH:Hi _),kN⟩;have b7:Hi _:=(FW _ _ _).trans kN;clear kN;go_wp2;go_end0;exact⟨X,_,0,p,cH,.inr (.inr (.inl ⟨⟨X,X,X⟩,HD,eL.1 trivial,X,X,X⟩)),b7⟩
 have HQ:Hi _:=q;have q':(hc !=cl)=true\/((hc !=cl)=false/\(hn !=nu)=true)\/((hc !=cl)=false/\(hn !=nu)=false/\hb=true):=by
  by_cases q1:hc=cl
  ·by_cases q2:hn=nu
   ·right;right;refine⟨by simp[q1],by simp[q2],?_⟩;cases hb;(·exact Ab ⟨q1,q2,X⟩ q);rfl
   right;left;exact⟨by simp[q1],by simp[q2]⟩
  left;simp[q1]
 clear q;rcases q' with e1|⟨e1,e2⟩|⟨e1,e2,rfl⟩;·go_enter func102,ntmps102;go_wp2_with fail;refine(jy W _ R a n c data tree p 4 x (eQ _ _)).mono ?_;rintro e w2 ⟨rfl,(aS:Hi _),bD⟩;have b7:Hi _:=(FW _ _ 0).trans (Fr.of_same bD);clear bD;go_wp2;go_end0;exact⟨X,tree,4,x,aS,.inl ⟨HQ,X,X,X⟩,b7⟩
 ·go_enter func102,ntmps102;go_wp2_with fail;refine(jy W _ R a n c data tree p 4 x (eQ _ _)).mono ?_;rintro e w2 ⟨rfl,(aS:Hi _),bD⟩;have b7:Hi _:=(FW _ _ 0).trans (Fr.of_same bD);clear bD;go_wp2;go_end0;exact⟨X,tree,4,x,aS,.inl ⟨HQ,X,X,X⟩,b7⟩
 go_enter func102,ntmps102;go_wp2_with fail;refine(jy W _ R a n c data tree p 4 x (eQ _ _)).mono ?_;rintro e w2 ⟨rfl,(aS:Hi _),bD⟩;have b7:Hi _:=(FW _ _ 0).trans (Fr.of_same bD);clear bD;go_wp2;go_end0;exact⟨X,tree,4,x,aS,.inl ⟨HQ,X,X,X⟩,b7⟩
end
section
open Go.Proofs.Tryz
open Go.RowKit Go.Deep Go.ChangeShapes Go.WideShapes
theorem Sf:prog.cellsOf 55=3:=Kr
theorem Sh:prog.cellsOf 58=4:=Kr
theorem Fa:prog.cellsOf 3=1:=Kr
theorem Sd:prog.cellsOf 4=1:=Kr
theorem Fb:prog.cellsOf 9=1:=Kr
theorem aa0:prog.cellsOf 56=1:=Kr
theorem aaX:prog.bytesOf 55=32:=Kr
theorem aaY:prog.bytesOf 58=48:=Kr
theorem Pa{ah:Type}{P:Program}{e:TypeId}{l:Ls (DataW ah)}{d:DataW ah}(hd:d∈l){n:Nat}(hn:n∈d.weights P e):n∈DataW.weightsAll P e l:=by
 induction l with
 |nil=>cases hd
 |cons x r ih=>
  simp only[DataW.weightsAll,Ek]
  rcases Lo.1 hd with rfl|h
  ·exact .inl hn
  ·exact .inr (ih h)
theorem Gk(b o n:Nat):((D b o Z):Ad).add n=(D b (o+n) Z):=by unfold Addr.add;split<;>simp_all
theorem Gv{w:M}{a:Ad}{v:Vv}(h:w.cell? a=U v):a=(D a.block a.off Z):=by
 obtain⟨b,o,sp⟩:=a
 cases sp with
 |none=>rfl
 |some k=>
  unfold Wc at h
  simp only at h
  split at h
  ·simp at h
  ·cases h
theorem Fu{α:Type}(f:Nat->α)(d:α){n i:Nat}(h:i<n):((List.range n).map f).getD i d=f i:=by rw[dy,dz (by simpa using h)];simp
section
variable{ah:Type}{jM:TypeId×Vv->ah}{w:M}{base:Nat}{sp:Nat->Bool}{held:Bool}
theorem agQ{gO:Nat}{cs:Ls Vv}{x:DataW ah×Ls MemPlace}(h:DataW.trod jM prog w base sp held gO 55 cs=U x):∃k:Kd,cs=[.int .i64 k.node,.bool k.opt,.string k.dflt]/\k.dflt.size∈x.1.weights prog 55:=by
 obtain⟨xs,n,_,hx,hl,bP,cG⟩:=Eg underlying55 h;rw[Sf]at hl
 match cs,hl,xs,bP,hx,cG with
 | [c0,c1,c2],_,[x0,x1,x2],_,hx,cG=>
   have k0:=cG 0 _ X
   have k1:=cG 1 _ X
   have k2:=cG 2 _ X
   obtain⟨y0,e0,_⟩:=xu underlying3 k0
   obtain⟨y1,e1,_⟩:=DataW.trod_bool underlying4 k1
   obtain⟨y2,e2,f2,_⟩:=xv underlying9 k2
   simp[Fa,Sd,Fb]at e0 e1 e2
   subst e0 e1 e2
   refine⟨⟨y0,y1,y2⟩,X,?_⟩
   rw[hx]
   simp only[DataW.weights,underlying55]
   refine DataW.weights_mem_each (j:=2) (t:=9) (d:=x2.1) X X _ ?_
   rw[f2]
   simp only[DataW.weights]
   exact List.mem_singleton.2 (ri (xs:=y2.data)).symm
theorem agR{gO:Nat}{cs:Ls Vv}{x:DataW ah×Ls MemPlace}(h:DataW.trod jM prog w base sp held gO 56 cs=U x):∃(ka:Oo Ad) (ks:Ls Kd) (kc:Nat),cs=[.slice ka ks.length kc]/\ks.length<=kc/\kc<=maxLen/\bn w ka ks/\∀N,(∀n∈x.1.weights prog 56,n<=N)->ks.length*32<=N/\∀k∈ks,k.dflt.size<=N:=by
 rcases open_slice underlying56 h with⟨rfl,rfl⟩|⟨a,len,cap,m,n,af,Pl,rfl,hb,hl,hm,hmm,rfl,hx⟩;·exact⟨Z,[],0,X,Ln,Lz,fun j hj=>Ab hj (dh _),fun N _=>⟨Sq,fun k hk=>by cases hk⟩⟩
 have EM:len<=m:=by rw[hmm];split<;>omega
 rw[Sf]at hx;have each:∀i,i<len->∃k:Kd,w.cell? (a.add (i*3))=U (.int .i64 k.node)/\w.cell? (a.add (i*3+1))=U (.bool k.opt)/\w.cell? (a.add (i*3+2))=U (.string k.dflt)/\k.dflt.size∈(af i).weights prog 55:=by intro i hi;obtain⟨LD,h1,h2⟩:=hx i O;obtain⟨k,rfl,hk⟩:=agQ h2;obtain⟨_,_,eV⟩:=Ij h1;have e0:=eV 0 O;have e1:=eV 1 O;have e2:=eV 2 O;rw[add_add]at e0 e1 e2;exact⟨k,by simpa using e0,by simpa using e1,by simpa using e2,hk⟩
 obtain⟨K,hK⟩:= @choose_lt Kd ⟨fy⟩ _ _ each;have bP:((List.range len).map K).length=len:=Sq;refine⟨U a,(List.range len).map K,cap,by rw[bP],by rw[bP];exact hl,hm,fun j hj=>?_,fun N hN=>?_⟩;·rw[bP]at hj;have h0:=(hK 0 O).1;have ea:=Gv (w:=w) (a:=a) (v:= .int .i64 (K 0).node) (by simpa [Addr.add]using h0);obtain⟨q0,q1,q2,_⟩:=hK j hj;rw[ea,Gk]at q0 q1 q2;rw[Fu K fy hj];exact⟨a.block,a.off,kr U ea,q0,by rw[<-pf]at q1;exact q1,by rw[<-pf]at q2;exact q2⟩
 simp only[DataW.weights,underlying56]at hN;refine⟨?_,fun k hk=>?_⟩;·have:=hN _ (uK ..);rw[aaX]at this;simp at this ⊢;omega
 obtain⟨i,hi,rfl⟩:=List.mem_map.1 hk;have lC:=List.mem_range.1 hi;exact hN _ (uJ _ (Ay _ (Pa (d:=af i) (List.mem_map.2 ⟨i,hi,X⟩) (hK i lC).2.2.2)))
theorem agV{gO:Nat}{cs:Ls Vv}{x:DataW ah×Ls MemPlace}(h:DataW.trod jM prog w base sp held gO 58 cs=U x):∃(n:Nd) (ka:Oo Ad) (kc:Nat),cs=[.int .i64 n.kind,.int .i64 n.tag,.int .i64 n.mode,.slice ka n.kids.length kc]/\n.kids.length<=kc/\kc<=maxLen/\bn w ka n.kids/\∀N,(∀m∈x.1.weights prog 58,m<=N)->n.kids.length*32<=N/\∀k∈n.kids,k.dflt.size<=N:=by
 obtain⟨xs,n,_,hx,hl,bP,cG⟩:=Eg underlying58 h;rw[Sh]at hl
 match cs,hl,xs,bP,hx,cG with
 | [c0,c1,c2,c3],_,[x0,x1,x2,x3],_,hx,cG=>
   have k0:=cG 0 _ X
   have k1:=cG 1 _ X
   have k2:=cG 2 _ X
   have k3:=cG 3 _ X
   obtain⟨y0,e0,_⟩:=xu underlying3 k0
   obtain⟨y1,e1,_⟩:=xu underlying3 k1
   obtain⟨y2,e2,_⟩:=xu underlying3 k2
   obtain⟨ka,ks,kc,e3,g1,g2,g3,g4⟩:=agR k3
   simp[Fa,aa0]at e0 e1 e2 e3
   subst e0 e1 e2 e3
   refine⟨⟨y0,y1,y2,ks⟩,ka,kc,X,g1,g2,g3,fun N hN=>g4 N fun m hm=>hN m ?_⟩
   rw[hx]
   simp only[DataW.weights,underlying58]
   exact DataW.weights_mem_each (j:=3) (t:=56) (d:=x3.1) X X _ hm
structure Rg(s:Ls Nd):Prop where
 len:s.length*48<=140737488351232
 kids:∀i,i<s.length->(nd s i).kids.length*32<=140737488351232
 ok:ky s
theorem agY{gO:Nat}{cs:Ls Vv}{x:DataW ah×Ls MemPlace}(h:DataW.trod jM prog w base sp held gO 22 cs=U x):∃(a:Oo Ad) (s:Ls Nd) (c:Nat),cs=[.slice a s.length c]/\s.length<=c/\c<=maxLen/\ew w a s/\((∀n∈x.1.weights prog 22,n<=140737488351232)->Rg s):=by
 rcases open_slice underlying22 h with⟨rfl,rfl⟩|⟨a,len,cap,m,n,af,Pl,rfl,hb,hl,hm,hmm,rfl,hx⟩;·exact⟨Z,[],0,X,Ln,Lz,fun j hj=>Ab hj (dh _),fun _=>⟨Sq,fun i hi=>Ab hi (dh _),fun i hi=>Ab hi (dh _)⟩⟩
 have EM:len<=m:=by rw[hmm];split<;>omega
 rw[Sh]at hx
 have each:∀i,i<len->∃q:Nd×Oo Ad×Nat,w.cell? (a.add (i*4))=U (.int .i64 q.1.kind)/\w.cell? (a.add (i*4+1))=U (.int .i64 q.1.tag)/\w.cell? (a.add (i*4+2))=U (.int .i64 q.1.mode)/\
  w.cell? (a.add (i*4+3))=U (.slice q.2.1 q.1.kids.length q.2.2)/\q.1.kids.length<=q.2.2/\q.2.2<=maxLen/\bn w q.2.1 q.1.kids/\
  ∀N,(∀m∈(af i).weights prog 58,m<=N)->q.1.kids.length*32<=N/\∀k∈q.1.kids,k.dflt.size<=N:=by
  intro i hi
  obtain⟨LD,h1,h2⟩:=hx i O
  obtain⟨k,ka,kc,rfl,g1,g2,g3,g4⟩:=agV h2
  obtain⟨_,_,eV⟩:=Ij h1
  have e0:=eV 0 O
  have e1:=eV 1 O
  have e2:=eV 2 O
  have e3:=eV 3 O
  rw[add_add]at e0 e1 e2 e3
  exact⟨(k,ka,kc),by simpa using e0,by simpa using e1,by simpa using e2,by simpa using e3,g1,g2,g3,g4⟩
 obtain⟨K,hK⟩:= @choose_lt (Nd×Oo Ad×Nat) ⟨(Jr,Z,0)⟩ _ _ each;have bP:((List.range len).map fun i=>(K i).1).length=len:=Sq;have C1:∀i,i<len->nd ((List.range len).map fun i=>(K i).1) i=(K i).1:=fun i hi=>Fu (fun i=>(K i).1) Jr hi;refine⟨U a,(List.range len).map fun i=>(K i).1,cap,by rw[bP],by rw[bP];exact hl,hm,fun j hj=>?_,fun hN=>?_⟩;·rw[bP]at hj;have h0:=(hK 0 O).1;have ea:=Gv (w:=w) (a:=a) (v:= .int .i64 (K 0).1.kind) (by simpa [Addr.add]using h0);obtain⟨q0,q1,q2,q3,g1,g2,g3,_⟩:=hK j hj;rw[ea,Gk]at q0 q1 q2 q3;rw[C1 j hj];exact⟨a.block,a.off,(K j).2.1,(K j).2.2,kr U ea,⟨q0,by rw[<-pf]at q1;exact q1,by rw[<-pf]at q2;exact q2,by rw[<-pf]at q3;exact q3⟩,g1,g2,g3⟩
 simp only[DataW.weights,underlying22]at hN;have U8:∀i,i<len->(K i).1.kids.length*32<=140737488351232/\∀k∈(K i).1.kids,k.dflt.size<=140737488351232:=fun i hi=>(hK i hi).2.2.2.2.2.2.2 _ fun m hm=>hN m (uJ _ (Ay _ (Pa (d:=af i) (List.mem_map.2 ⟨i,List.mem_range.2 hi,X⟩) hm)));refine⟨?_,fun i hi=>?_,fun i hi=>?_⟩;·have:=hN _ (uK ..);rw[aaY]at this;simp at this ⊢;omega
 ·rw[bP]at hi;rw[C1 i hi];exact(U8 i hi).1
 rw[bP]at hi;rw[C1 i hi];exact(U8 i hi).2
end
end
