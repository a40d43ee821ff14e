/- Parts. -/
import Derived.Test.YtkkicodfpekbgaaGreatDoorJk0
import Derived.SevenTiedAt
open Go.Value renaming int->I,string->Y,slice->S,pointer->Po,bool->Bo
open Go.IntKind renaming i64->J
open Go.Ending renaming returned->Rt
open Option renaming some->U,none->Z
open Go renaming World->M,Calls->Cs,Addr->Ad,Value->Vv
open _root_ renaming ByteArray->Q,Option->Oo,List->Ls
open Go.RowKit renaming intOf->Io,Hid->Hi
open Go.Addr renaming mk->D
set_option linter.all false
set_option maxRecDepth 100000
set_option maxHeartbeats 8000000
namespace Go.Proofs.YtkkicodfpekbgaaGreatDoor
section
open Go.Proofs.Tryz
open Go.RowKit
structure sj where
 kd:Int
 rt:Int
 s:Ls Nd
 sa:Oo Ad
 sc:Nat
 d:Q
 t:Ls Vl
 ta:Oo Ad
 tc:Nat
 c:Aq
def sj.cs(p:sj):Ls Vv:=[I J p.kd,I J p.rt,S p.sa p.s.length p.sc,Y p.d,S p.ta p.t.length p.tc,I J p.c.v,Y p.c.s,Y p.c.n,Y p.c.f,Y p.c.t,Y p.c.k,S p.c.ma p.c.ms.length p.c.mc]
structure sj.In(p:sj)(w:M):Prop where
 s:ew w p.sa p.s
 f:Rg p.s
 d:p.d.size<=1048576
 t:qb w p.ta p.t
 tc:p.t.length<=p.tc
 pz:pz p.t p.t.length<=16777000
 kd:∀j,j<p.t.length->(vl p.t j).kids<=9223372036854775807
 c:p.c.Fit w 1048576
def Rs(w:M)(a:Oo Ad)(n:Nat):Prop:=∀i,i<n->∃(b o:Nat) (p:sj),a=U (D b o Z)/\(∀j u,p.cs[j]? =U u->w.cell? (D b (o+i*12+j) Z)=U u)/\p.In w
def mn(w wr:M)(k:Nat):Prop:=∃(L:Ls (Vv×Nat×Int)) (an:Ls (Vv×Nat×Q)) (nx:Int),L.length<=k*4/\an.length<=k*4/\ -(k:Int)<=nx/\nx<=0/\oz w wr w.heap.size L an nx
theorem mn.below{w wr wx:M}{k:Nat}(h:mn w wr k)(hb:Bw wr wx):mn w wx k:=by obtain⟨L,an,nx,h1,h2,h3,h4,h5⟩:=h;exact⟨L,an,nx,h1,h2,h3,h4,h5.below hb⟩
theorem mn.more{w wr:M}{k:Nat}(h:mn w wr k):mn w wr (k+1):=by obtain⟨L,an,nx,h1,h2,h3,h4,h5⟩:=h;exact⟨L,an,nx,O,O,O,h4,h5⟩
theorem mn.bel{w wr:M}{k:Nat}(h:mn w wr k):Bw w wr:=by obtain⟨L,an,nx,h1,h2,h3,h4,h5⟩:=h;exact h5.bel
theorem ab7(a:Oo Ad)(n c:Nat)(w:M)(sn:Sn->Ad)(za:Ad)(hl:gy w sn)(hz:kv w sn za)(i7:uf w)(hs:Rs w a n)(hn:n<=1048576):Cs prog 12 #[S a n c] w fun e w'=>e=Rt (Bo true)/\Bw w w':=by
 have HC:Hi (∀(p:sj) wq,p.In w->Bw w wq->Cs prog 3 #[S p.sa p.s.length p.sc] wq fun e w'=>e=Rt (Bo true)/\Bw wq w'):=fun p wq h q=>adg p.s p.sa p.sc wq sn za (hl.below q) (hz.below q) (h.s.below q) h.f.ok h.f.len h.f.kids;have HD:Hi (∀(p:sj) wq k,p.In w->mn w wq k->k<=1048576->Cs prog 18 #[Po (U (D w.heap.size 0 Z)),S p.sa p.s.length p.sc,I J p.rt,Y p.d] wq fun e w'=>e=Rt (Bo true)/\mn w w' (k+1)):=fun p wq k h ⟨L,an,nx,h1,h2,h3,h4,h5⟩ hk=>(acJ p.s p.sa p.sc p.rt p.d w wq _ L an nx sn za hl hz i7 h.s h.f.ok h.f.len h.f.kids (by have:=h.d;omega) h5 O O h4).mono fun e w' ⟨q1,L',q2,q3⟩=>⟨q1,L',an,nx-1,O,O,O,O,q2⟩;have HE:Hi (∀(p:sj) wq,p.In w->Bw w wq->Cs prog 20 #[S p.sa p.s.length p.sc,I J p.rt,S p.ta p.t.length p.tc] wq fun e w'=>e=Rt (Bo true)/\Bw wq w'):=fun p wq h q=>age p.s p.sa p.sc p.rt p.t p.ta p.tc wq sn za (hl.below q) (hz.below q) (h.s.below q) h.f.ok h.f.len h.f.kids (h.t.below q) h.tc h.pz h.kd;have HR:Hi (∀(p:sj) wq k,p.In w->mn w wq k->k<=1048576->Cs prog 27 #[Po (U (D w.heap.size 0 Z)),Y p.d] wq fun e w'=>e=Rt (Bo true)/\mn w w' (k+1)):=fun p wq k h ⟨L,an,nx,h1,h2,h3,h4,h5⟩ hk=>(acS p.d w wq _ L an nx sn za hl hz i7 h.d h5 O O h4).mono fun e w' ⟨q1,M',q2,q3⟩=>⟨q1,L,M',nx-1,O,O,O,O,q2⟩;have HW:Hi (∀(p:sj) wq,p.In w->Bw w wq->Cs prog 28 #[dm p.c.v p.c.s p.c.n p.c.f p.c.t p.c.k (S p.c.ma p.c.ms.length p.c.mc)] wq fun e w'=>e=Rt (Bo true)/\Bw wq w'):=fun p wq h q=>by obtain⟨a1,a2,a3,a4,a5,a6,a7,a8,a9⟩:=h.c;exact agn p.c.v p.c.s p.c.n p.c.f p.c.t p.c.k p.c.ms p.c.ma p.c.mc wq sn za (hl.below q) (hz.below q) (a8.below q) ⟨a1,a2,a3,a4,a5,a7⟩ O a9
 have HK:Hi (∀wq k,mn w wq k->k<=1048577->Cs prog 19 #[Po (U (D w.heap.size 0 Z))] wq fun e w'=>e=Rt (Bo true)/\Bw wq w'):=fun wq k ⟨L,an,nx,h1,h2,h3,h4,h5⟩ hk=>agm w wq _ L an nx h5 O O;have HX:=dt hs;clear hl hz i7 hs;unfold dm at HW;go_enter func12,ntmps12;go_wp2;go_loopw [4] (fun vi wr=>∃k:Nat,k<=n/\vi=I J k/\mn w wr k) (fun vi _=>n-(Io vi).toNat);case atStart=>exact⟨0,Lz,X,[],[],0,Lz,Lz,Rh _,Rh _,Be,Ln,⟨_,_,_,_,bl w _,nz _ _ _ _,nz _ _ _ _,nz _ _ _ _,nz _ _ _ _⟩,(fun x hx=>by cases hx),fun x hx=>by cases hx⟩
 obtain⟨k,hk,rfl,hI⟩:=hrel;have HI:=dt hI;clear hI;by_cases aA:k<n
 ·have aN:(k:Int)<n:=O;obtain⟨b,o,p,rfl,hc,hp⟩:=HX k aA;have HP:=dt hp;have hy:∀j u,p.cs[j]? =U u->wr.cell? (D b (o+k*12+j) Z)=U u:=fun j u h=>(HI.bel.cell (bp (hc j u h))).trans (hc j u h);have y0:=hy 0 _ X;have y1:=hy 1 _ X;have y2:=hy 2 _ X;have y3:=hy 3 _ X;have y4:=hy 4 _ X;have y5:=hy 5 _ X;have y6:=hy 6 _ X;have y7:=hy 7 _ X;have y8:=hy 8 _ X;have y9:=hy 9 _ X;have y10:=hy 10 _ X;have y11:=hy 11 _ X;simp only[zp]at y0;clear hc hp hy;go_upto_block 2 with fail;generalize hW:wr.alloc _=w1;have aC:Hi (Bw wr w1):=by rw[<-hW];exact Be
  have m7:Hi (mn w w1 k):=HI.below aC;have aM:Hi (Bw w w1):=m7.bel;have hz:∀j u,p.cs[j]? =U u->w1.cell? (D wr.heap.size j Z)=U u:=fun j u h=>by rw[<-hW];exact bq (bl wr _) (by simpa [sj.cs]using h)
  have z1:=hz 1 _ X;have z2:=hz 2 _ X;have z3:=hz 3 _ X;have z4:=hz 4 _ X;have z5:=hz 5 _ X;have z6:=hz 6 _ X;have z7:=hz 7 _ X;have z8:=hz 8 _ X;have z9:=hz 9 _ X;have Z7:=hz 10 _ X;have z11:=hz 11 _ X;have wP:wr.heap.size<w1.heap.size:=bp z1;clear hW hz y0 y1 y2 y3 y4 y5 y6 y7 y8 y9 y10 y11;go_cut [6] (fun v6 wx=>v6=Bo true/\mn w wx (k+1))
  case first=>
   have b1:=fun i (h:p.kd≠i)=>lf.2 h;by_cases h1:p.kd=1;(·have e1:(p.kd==1)=true:=jq.2 h1;clear h1;go_wp2_with fail;refine(HC p w1 HP aM).mono ?_;rintro e w2 ⟨rfl,hb2⟩;have kT:Hi (mn w w2 (k+1)):=(m7.below hb2).more;clear hb2;go_wp2;go_meet;exact⟨X,kT⟩);have e1:=b1 1 h1;clear h1;by_cases h2:p.kd=2;(·have e2:(p.kd==2)=true:=jq.2 h2;clear h2;go_wp2_with fail;refine(HD p w1 k HP m7 O).mono ?_;rintro e w2 ⟨rfl,(kT:Hi (mn w w2 (k+1)))⟩;go_wp2;go_meet;exact⟨X,kT⟩);have e2:=b1 2 h2;clear h2;by_cases h3:p.kd=3;(·have e3:(p.kd==3)=true:=jq.2 h3;clear h3;go_wp2_with fail;refine(HE p w1 HP aM).mono ?_;rintro e w2 ⟨rfl,hb2⟩;have kT:Hi (mn w w2 (k+1)):=(m7.below hb2).more;clear hb2;go_wp2;go_meet;exact⟨X,kT⟩);have e3:=b1 3 h3;clear h3;by_cases h4:p.kd=4;(·have e4:(p.kd==4)=true:=jq.2 h4;clear h4;go_wp2_with fail;refine(HR p w1 k HP m7 O).mono ?_;rintro e w2 ⟨rfl,(kT:Hi (mn w w2 (k+1)))⟩;go_wp2;go_meet;exact⟨X,kT⟩);have e4:=b1 4 h4;clear h4;by_cases h5:p.kd=5;(·have e5:(p.kd==5)=true:=jq.2 h5;clear h5;go_wp2_with fail;refine(HW p w1 HP aM).mono ?_;rintro e w2 ⟨rfl,hb2⟩;have kT:Hi (mn w w2 (k+1)):=(m7.below hb2).more;clear hb2;go_wp2;go_meet;exact⟨X,kT⟩);have e5:=b1 5 h5;clear h5;go_wp2;go_meet;exact⟨X,m7.more⟩
  clear z1 z2 z3 z4 z5 z6 z7 z8 z9 Z7 z11 wP m7 aM aC HI;obtain⟨rfl,(kT:Hi (mn w wc (k+1)))⟩:=hcut;go_wp2_with fail;refine(HK _ (k+1) kT O).mono ?_;rintro e w3 ⟨rfl,hb3⟩;have FM:Hi (mn w w3 (k+1)):=kT.below hb3;clear hb3;go_wp2;go_roundw;case rel=>exact⟨k+1,O,Gn,FM⟩
  exact Ms
 have aN:(n:Int)<=k:=O;have A8:Hi (Bw w wr):=HI.bel;go_wp2;go_ret;exact⟨X,A8⟩
end
section
open Go.RowKit Go.Deep Go.ChangeShapes Go.WideShapes
theorem Sj:Tryz.prog.cellsOf 60=4:=Kr
theorem aa3:Tryz.prog.cellsOf 22=1:=Kr
theorem aa5:Tryz.prog.cellsOf 39=1:=Kr
theorem Si:Tryz.prog.cellsOf 81=12:=Kr
theorem Tp{ah:Type}(V:Nat->Vl)(af:Nat->DataW ah):∀l:Ls Nat,(∀i∈l,(V i).text.size+5<=Rows.uptoBulk (af i))->((l.map V).map (·.text.size)).sum+5*l.length<=Rows.uptoBulkAll (l.map af)
 | [],_=>by simp[Rows.uptoBulkAll]
 |i::l,h=>by
  have h1:=Tp V af l fun j hj=>h j (uJ _ hj)
  have h2:=h i (uK ..)
  simp only[uI,List.sum_cons,fu,Rows.uptoBulkAll]
  omega
section
variable{ah:Type}{jM:TypeId×Vv->ah}{w:M}{base:Nat}{sp:Nat->Bool}{held:Bool}
theorem ag0{gO:Nat}{cs:Ls Vv}{x:DataW ah×Ls MemPlace}(h:DataW.trod jM Tryz.prog w base sp held gO 60 cs=U x):∃v:Vl,cs=[I J v.kind,Y v.text,I J v.alt,I J v.kids]/\v.kids<=9223372036854775807/\v.text.size+5<=Rows.uptoBulk x.1:=by
 obtain⟨xs,n,_,hx,hl,bP,cG⟩:=Eg Tryz.underlying60 h;rw[Sj]at hl
 match cs,hl,xs,bP,hx,cG with
 | [c0,c1,c2,c3],_,[x0,x1,x2,x3],_,hx,cG=>
   have k0:=cG 0 _ X
   have k1:=cG 1 _ X
   have k2:=cG 2 _ X
   have k3:=cG 3 _ X
   obtain⟨y0,e0,f0,_⟩:=xu Tryz.underlying3 k0
   obtain⟨y1,e1,f1,_⟩:=xv Tryz.underlying9 k1
   obtain⟨y2,e2,f2,_⟩:=xu Tryz.underlying3 k2
   obtain⟨y3,e3,f3,g3⟩:=xu Tryz.underlying3 k3
   simp[Fa,Fb]at e0 e1 e2 e3
   subst e0 e1 e2 e3
   refine⟨⟨y0,y1,y2,y3⟩,X,?_,?_⟩
   ·exact(bounds_i64 g3).2
   ·rw[hx]
    have i9:y1.data.toList.length=y1.size:=ri
    simp only[uI,zl,Rows.uptoBulk,Rows.uptoBulkAll,f0,f1,f2,f3]
    omega
theorem agZ{gO:Nat}{cs:Ls Vv}{x:DataW ah×Ls MemPlace}(h:DataW.trod jM Tryz.prog w base sp held gO 39 cs=U x):∃(ta:Oo Ad) (t:Ls Vl) (tc:Nat),cs=[S ta t.length tc]/\t.length<=tc/\qb w ta t/\(∀j,j<t.length->(vl t j).kids<=9223372036854775807)/\pz t t.length<=2*Rows.uptoBulk x.1:=by
 rcases open_slice Tryz.underlying39 h with⟨rfl,rfl⟩|⟨a,len,cap,m,n,af,Pl,rfl,hb,hl,hm,hmm,rfl,hx⟩;·exact⟨Z,[],0,X,Ln,fun j hj=>Ab hj (dh _),fun j hj=>Ab hj (dh _),Lz⟩
 have EM:len<=m:=by rw[hmm];split<;>omega
 rw[Sj]at hx;have each:∀i,i<len->∃v:Vl,w.cell? (a.add (i*4))=U (I J v.kind)/\w.cell? (a.add (i*4+1))=U (Y v.text)/\w.cell? (a.add (i*4+2))=U (I J v.alt)/\w.cell? (a.add (i*4+3))=U (I J v.kids)/\v.kids<=9223372036854775807/\v.text.size+5<=Rows.uptoBulk (af i):=by intro i hi;obtain⟨LD,h1,h2⟩:=hx i O;obtain⟨v,rfl,hk,hv⟩:=ag0 h2;obtain⟨_,_,eV⟩:=Ij h1;have e0:=eV 0 O;have e1:=eV 1 O;have e2:=eV 2 O;have e3:=eV 3 O;rw[add_add]at e0 e1 e2 e3;exact⟨v,by simpa using e0,by simpa using e1,by simpa using e2,by simpa using e3,hk,hv⟩
 obtain⟨V,hV⟩:= @choose_lt Vl ⟨⟨0,az,0,0⟩⟩ _ _ each;have bP:((List.range len).map V).length=len:=Sq;have wK:∀j,j<len->vl ((List.range len).map V) j=V j:=fun j hj=>by unfold vl;exact Fu V _ hj
 refine⟨U a,(List.range len).map V,cap,by rw[bP],by rw[bP];exact hl,fun j hj=>?_,fun j hj=>?_,?_⟩;·rw[bP]at hj;have h0:=(hV 0 O).1;have ea:a=(D a.block a.off Z):=Gv (w:=w) (a:=a) (v:=I J (V 0).kind) (by simpa [Addr.add]using h0);obtain⟨q0,q1,q2,q3,_⟩:=hV j hj;rw[ea,Gk]at q0 q1 q2 q3;rw[wK j hj];exact⟨a.block,a.off,kr U ea,q0,by rw[<-pf]at q1;exact q1,by rw[<-pf]at q2;exact q2,by rw[<-pf]at q3;exact q3⟩
 ·rw[bP]at hj;rw[wK j hj];exact(hV j hj).2.2.2.2.1
 have hb1:=Tp V af (List.range len) fun i hi=>(hV i (List.mem_range.1 hi)).2.2.2.2.2;unfold pz;rw[we];simp only[Rn]at hb1;simp only[Rows.uptoBulk,bP];omega
theorem agW{gO:Nat}{cs:Ls Vv}{x:DataW ah×Ls MemPlace}(h:DataW.trod jM Tryz.prog w base sp held gO 81 cs=U x):∃p:sj,cs=p.cs/\1<=Rows.uptoBulk x.1/\(Rows.uptoBulk x.1<=1048576->(∀n∈x.1.weights Tryz.prog 81,n<=140737488351232)->p.In w):=by
 obtain⟨xs,n,_,hx,hl,bP,cG⟩:=Eg Tryz.underlying81 h;rw[Si]at hl
 match cs,hl,xs,bP,hx,cG with
 | [c0,c1,c2,c3,c4,c5,c6,c7,c8,c9,c10,c11],_,[x0,x1,x2,x3,x4,x5],_,hx,cG=>
   have k0:=cG 0 _ X
   have k1:=cG 1 _ X
   have k2:=cG 2 _ X
   have k3:=cG 3 _ X
   have k4:=cG 4 _ X
   have k5:=cG 5 _ X
   obtain⟨y0,e0,_⟩:=xu Tryz.underlying3 k0
   obtain⟨y1,e1,_⟩:=xu Tryz.underlying3 k1
   obtain⟨sa,s,sc,e2,_,_,hs,fV⟩:=agY k2
   obtain⟨y3,e3,f3,_⟩:=xv Tryz.underlying9 k3
   obtain⟨ta,t,tc,e4,dX,ht,dR,oS⟩:=agZ k4
   obtain⟨c,e5,hc⟩:=agP k5
   simp[Fa,Fb,aa3,aa5,Se]at e0 e1 e2 e3 e4 e5
   obtain⟨d0,d1,d2,d3,d4,d5,d6⟩:=e5
   subst e0 e1 e2 e3 e4 d0 d1 d2 d3 d4 d5 d6
   have b3:Rows.uptoBulk x3.1=y3.size+1:=by rw[f3];exact zw y3
   have hb:Rows.uptoBulk x.1=Rows.uptoBulk x0.1+(Rows.uptoBulk x1.1+(Rows.uptoBulk x2.1+(Rows.uptoBulk x3.1+(Rows.uptoBulk x4.1+(Rows.uptoBulk x5.1+0)))))+1:=by rw[hx];simp only[Rows.uptoBulk,Rows.uptoBulkAll,uI,zl]
   refine⟨⟨y0,y1,s,sa,sc,y3,t,ta,tc,c⟩,X,O,fun hN hw=>⟨hs,fV fun n hn=>hw n ?_,?_,ht,dX,?_,dR,hc.le ?_⟩⟩
   ·rw[hx]
    simp only[DataW.weights,Tryz.underlying81]
    exact DataW.weights_mem_each (j:=2) (t:=22) (d:=x2.1) X X _ hn
   ·show y3.size<=_
    omega
   ·show pz t t.length<=_
    omega
   ·omega
theorem agX{gO:Nat}{cs:Ls Vv}{x:DataW ah×Ls MemPlace}(h:DataW.trod jM Tryz.prog w base sp held gO 79 cs=U x):∃(a:Oo Ad) (n c:Nat),cs=[S a n c]/\(Rows.uptoBulk x.1<=1048576->(∀n∈x.1.weights Tryz.prog 79,n<=140737488351232)->Rs w a n/\n<=1048576):=by
 rcases open_slice Tryz.underlying79 h with⟨rfl,rfl⟩|⟨a,len,cap,m,n,af,Pl,rfl,hb,hl,hm,hmm,rfl,hx⟩;·exact⟨Z,0,0,X,fun _ _=>⟨fun i hi=>Ab hi (dh _),Lz⟩⟩
 have EM:len<=m:=by rw[hmm];split<;>omega
 rw[Si]at hx;have each:∀i,i<len->∃p:sj,(∀j u,p.cs[j]? =U u->w.cell? (a.add (i*12+j))=U u)/\1<=Rows.uptoBulk (af i)/\(Rows.uptoBulk (af i)<=1048576->(∀n∈(af i).weights Tryz.prog 81,n<=140737488351232)->p.In w):=by
  intro i hi;obtain⟨LD,h1,h2⟩:=hx i O;obtain⟨p,rfl,g1,g2⟩:=agW h2;obtain⟨_,hlc,eV⟩:=Ij h1;refine⟨p,fun j u hj=>?_,g1,g2⟩;have iY:j<12:=by
   rcases ny j 12 with q|q;(·exact q);rw[xz (by rw[hlc];exact q)]at hj;cases hj
  have e:=eV j iY;rw[add_add]at e;rw[e,hj]
 obtain⟨K,hK⟩:= @choose_lt sj ⟨⟨0,0,[],Z,0,az,[],Z,0,ac0⟩⟩ _ _ each;have hS:Rows.uptoBulkAll ((List.range len).map af)<=Rows.uptoBulk (.slice ((List.range len).map af) ((List.range (m-len)).map fun j=>af (len+j))):=by simp only[Rows.uptoBulk];omega
 refine⟨U a,len,cap,X,fun hN hW=>⟨fun j hj=>?_,?_⟩⟩
 ·have h0:=(hK 0 O).1 0 _ X;have ea:a=(D a.block a.off Z):=Gv (w:=w) (a:=a) (v:=I J (K 0).kd) (by simpa [Addr.add]using h0);obtain⟨q0,_,q2⟩:=hK j hj;refine⟨a.block,a.off,K j,kr U ea,fun i u hu=>?_,q2 ?_ fun n hn=>hW n ?_⟩;·have q:=q0 i u hu;rw[ea,Gk]at q;rw[pf];exact q
  ·exact fw (Nq (d:=af j) (l:=(List.range len).map af) (List.mem_map.2 ⟨j,List.mem_range.2 hj,X⟩)) (fw hS hN)
  simp only[DataW.weights,Tryz.underlying79];exact uJ _ (Ay _ (Pa (d:=af j) (List.mem_map.2 ⟨j,List.mem_range.2 hj,X⟩) hn))
 have h2:=To (c:=1) (l:=(List.range len).map af) fun d hd=>by obtain⟨i,hi,rfl⟩:=List.mem_map.1 hd;exact(hK i (List.mem_range.1 hi)).2.1
 rw[ou,Rn]at h2;have:=fw h2 (fw hS hN);omega
end
end
