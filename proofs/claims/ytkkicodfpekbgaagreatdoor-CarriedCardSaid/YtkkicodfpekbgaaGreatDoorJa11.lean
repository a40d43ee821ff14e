/-
Several texts in one.
-/
import Derived.Test.YtkkicodfpekbgaaGreatDoorJa10
import Derived.Test.YtkkicodfpekbgaaGreatDoorJa5
import Derived.Test.YtkkicodfpekbgaaGreatDoorJa8
import Derived.Test.YtkkicodfpekbgaaGreatDoorJa0
import Derived.Deep.DeepCutAuto
import Derived.Handy
import Derived.Laws.OwnMore
import Derived.Deep.RegionHeldLaw
namespace Go.Proofs.YtkkicodfpekbgaaGreatDoor
set_option linter.unusedSimpArgs false
set_option linter.unusedVariables false
set_option maxRecDepth 100000
set_option maxHeartbeats 8000000
theorem wbare_no{E:WEnv}{rec:WRec}{m:Nat}{n:Nd}{cl nu:Int}{v:Vl}{x:Nat}{dp:Int}(hok:∀k t,E.ok k t=true↔ContentOk k t)(hv:v.kind=n.kind)(h:¬FitP n v):wbareF E rec m n cl nu v x dp=some none:=by
 unfold FitP at h
 have h':=fun q=>h ⟨hv,q⟩
 clear h
 unfold wbareF
 by_cases h13:n.kind=13
 ·rw[if_pos h13]at h' ⊢
  rw[if_neg h']
 rw[if_neg h13]at h' ⊢
 by_cases h14:n.kind=14
 ·rw[if_pos h14]at h' ⊢
  rw[if_neg h']
 rw[if_neg h14]at h' ⊢
 by_cases h10:n.kind=10
 ·rw[if_pos h10]at h' ⊢
  rw[if_neg h']
 rw[if_neg h10]at h' ⊢
 by_cases h12:10≤n.kind∧n.kind≤12
 ·rw[if_pos h12]at h' ⊢
  rw[if_neg h']
 rw[if_neg h12]at h' ⊢
 rw[if_neg (by rw[hok];exact h')]
theorem wrF_no{E:WEnv}{f i x:Nat}{dp:Int}(hok:∀k t,E.ok k t=true↔ContentOk k t)(h:¬(x<E.t.length∧dp≤12∧FitP (nd E.s i) (vl E.t x))):wrF E (f+1) i x dp=some none:=by
 rw[wrF]
 split
 ·rename_i q
  rw[wbare_no hok q.2.1 (fun hf=>h ⟨q.1,q.2.2,hf⟩)]
  rfl
 ·rfl
theorem wrF_yes{E:WEnv}{f i x:Nat}{dp:Int}(h1:x<E.t.length)(h2:dp≤12)(h3:FitP (nd E.s i) (vl E.t x)):wrF E (f+1) i x dp=WOut.andThen (wbareF E (wrF E f) f (nd E.s i) (wcl (nd E.s i)) (wnu (nd E.s i)) (vl E.t x) (x+1) dp) fun b x' u=>some (some (if(nd E.s i).mode=1 then elB 2 true (nd E.s i).tag b else b,x',u)):=by
 rw[wrF,if_pos ⟨h1,h3.1,h2⟩]
theorem wnu_bd{s:List Nd}(h:RightP s){i:Nat}(hi:i<s.length):0≤wcl (nd s i)∧wcl (nd s i)≤3∧0≤wnu (nd s i)∧wnu (nd s i)≤30:=by
 have hk:=kinds_of h.2.2.1 i hi
 have ht:=(taggedOf h.2.2.1 i hi).2.1
 unfold wcl wnu
 split
 ·rename_i q;omega
 ·refine⟨by decide,by decide,?_⟩
  unfold own0
  split
  ·omega
  ·obtain⟨k,hkk⟩:∃k,(nd s i).kind=k:=⟨_,rfl⟩
   rw[hkk]at hk ⊢
   obtain rfl|rfl|rfl|rfl|rfl|rfl|rfl|rfl|rfl|rfl|rfl|rfl:k=1∨k=2∨k=3∨k=4∨k=5∨k=6∨k=7∨k=8∨k=9∨k=10∨k=11∨k=12:=by omega
   all_goals decide
def leafB(n:Nd)(t:ByteArray):ByteArray:=if n.mode=1 then elB 2 true n.tag (elB (wcl n) false (wnu n) t)else elB (wcl n) false (wnu n) t
theorem wnu_own{n:Nd}(h:n.kind≤12):(wcl n,wnu n)=n.ownT:=by
 unfold wcl wnu Nd.ownT own0
 by_cases q:n.mode=0∧0≤n.tag
 ·rw[if_pos ⟨q.2,q.1⟩,if_pos ⟨q.2,q.1⟩,if_pos q]
 ·rw[if_neg (fun z=>q ⟨z.2,z.1⟩),if_neg (fun z=>q ⟨z.2,z.1⟩),if_neg q,if_neg (by omega)]
theorem strip_el{c:Int}{b:Bool}{n:Int}{fs:List (Int×Int×Bool)}{t:ByteArray}(q1:0≤c)(q2:c≤3)(q3:0≤n)(q4:n≤30)(ht:t.size≤16777215):strip ((c,n,b)::fs) (elB c b n t)=strip fs t:=by
 have h:=hd_elB c b n t q1 q2 q3 q4 ht
 have hz:=elB_sz c b n t
 show(if _ then _ else none)=_
 rw[h]
 rw[if_pos ⟨rfl,rfl,by simp only;omega⟩]
 simp only
 rw[elB_rest]
theorem strip_inv{f:Int×Int×Bool}{fs:List (Int×Int×Bool)}{d u:ByteArray}(h:strip (f::fs) d=some u):∃d',d=elB f.1 f.2.2 f.2.1 d'∧strip fs d'=some u∧d'.size≤16777215:=by
 obtain⟨⟨h1,h2,h3⟩,h4⟩:=strip2.1 h
 obtain⟨e,_,_,_,_,e2,e3⟩:=elB_hd h1 h3
 refine⟨_,?_,h4,by omega⟩
 rw[←h2]
 exact e
theorem elB_one{c c':Int}{b b':Bool}{n n':Int}{s t:ByteArray}(h:(elB c b n s).size=(elB c' b' n' t).size):s.size=t.size:=by
 have h1:=elB_sz c b n s
 have h2:=elB_sz c' b' n' t
 rcases cnt_cases s.size with q|q|q|q<;>rcases cnt_cases t.size with q'|q'|q'|q'<;>omega
theorem leaf_elem{s:List Nd}{i:Nat}(hr:RightP s)(hi:i<s.length)(hk:(nd s i).kind≤9){d u t:ByteArray}(hu:ElemOk (nd s i) d u):leafB (nd s i) t=d↔t=u:=by
 obtain⟨hk1,_,hT1,hT2,hT3,hT4,hT5⟩:=tagged_of hr hi
 obtain⟨b1,b2,b3,b4⟩:=wnu_bd hr hi
 have hw:=wnu_own (n:=nd s i) (by omega)
 generalize nd s i=N at*
 have hmode:N.mode=0∨N.mode=1:=by omega
 have htm:N.tag<0→N.mode=0:=fun q=>hT3 (by omega)
 have hst:strip N.lays d=some u:=((elem_iff htm hmode).1 hu).1
 have hl:N.lays=if N.mode=1 then [(2,N.tag,true),(wcl N,wnu N,false)]else [(wcl N,wnu N,false)]:=by
  unfold Nd.lays
  rw[←hw]
 rw[hl]at hst
 unfold leafB
 by_cases hm:N.mode=1
 ·have htg:0≤N.tag:=by
   by_cases q:N.tag<0
   ·have:=htm q;omega
   ·omega
  rw[if_pos hm]at hst ⊢
  constructor
  ·rintro rfl
   obtain⟨d1,e1,_,z1⟩:=strip_inv hst
   have z2:=elB_one (congrArg ByteArray.size e1)
   have z3:=elB_sz (wcl N) false (wnu N) t
   have z4:=cnt_cases t.size
   rw[strip_el (by decide) (by decide) htg (by omega) (by omega),strip_el b1 b2 b3 b4 (by omega)]at hst
   injection hst
  ·rintro rfl
   obtain⟨d1,e1,h1,_⟩:=strip_inv hst
   obtain⟨d2,e2,h2,_⟩:=strip_inv h1
   injection h2 with h2
   rw[e1,e2,h2]
 ·rw[if_neg hm]at hst ⊢
  constructor
  ·rintro rfl
   obtain⟨d1,e1,_,z1⟩:=strip_inv hst
   have z2:=elB_one (congrArg ByteArray.size e1)
   rw[strip_el b1 b2 b3 b4 (by omega)]at hst
   injection hst
  ·rintro rfl
   obtain⟨d2,e2,h2,_⟩:=strip_inv hst
   injection h2 with h2
   rw[e2,h2]
theorem wrF_leaf{E:WEnv}{f i x:Nat}{dp:Int}(hk1:1≤(nd E.s i).kind)(hk9:(nd E.s i).kind≤9):wrF E (f+1) i x dp=
 if(x<E.t.length∧(vl E.t x).kind=(nd E.s i).kind∧dp≤12)∧E.ok (nd E.s i).kind (vl E.t x).text=true∧(vl E.t x).alt=0∧(vl E.t x).kids=0 then some (some (leafB (nd E.s i) (vl E.t x).text,x+1,false))else some none:=by
 rw[wrF]
 by_cases q:x<E.t.length∧(vl E.t x).kind=(nd E.s i).kind∧dp≤12
 ·rw[if_pos q]
  unfold wbareF
  rw[if_neg (by omega),if_neg (by omega),if_neg (by omega),if_neg (by omega)]
  by_cases q2:E.ok (nd E.s i).kind (vl E.t x).text=true∧(vl E.t x).alt=0∧(vl E.t x).kids=0
  ·rw[if_pos q2,if_pos ⟨q,q2⟩]
   rfl
  ·rw[if_neg q2,if_neg (fun z=>q2 z.2)]
   rfl
 ·rw[if_neg q,if_neg (fun z=>q z.1)]
theorem wrF_deep{E:WEnv}{f i x:Nat}{dp:Int}{b:ByteArray}{x':Nat}{u:Bool}(h:wrF E f i x dp=some (some (b,x',u))):dp≤12:=by
 match f with
 |0=>cases h
 |f+1=>
  rw[wrF]at h
  split at h
  ·rename_i q;exact q.2.2
  ·cases h
def LO(E:WEnv)(k:Kd)(x:Nat):Prop:=x<E.t.length∧((k.opt=true∧vl E.t x=⟨15,noB,0,0⟩)∨(k.dflt.size≠0∧∃u,ElemOk (nd E.s k.node.toNat) k.dflt u∧vl E.t x=⟨(nd E.s k.node.toNat).kind,u,0,0⟩))
theorem kidOf{n:Nd}{k:Kd}(hk:k∈n.kids):∃j,j<n.kids.length∧kd n j=k:=by
 obtain⟨j,hj,e⟩:=List.getElem_of_mem hk
 refine⟨j,hj,?_⟩
 unfold kd
 rw[List.getD_eq_getElem?_getD,List.getElem?_eq_getElem hj,Option.getD_some,e]
theorem noB_of{t:ByteArray}(h:t.size=0):t=noB:=by
 apply ByteArray.ext
 have:t.data.size=0:=h
 exact Array.eq_empty_of_size_eq_zero this
theorem wseq_kid{E:WEnv}{f:Nat}{dp:Int}{k:Kd}{ks:List Kd}{x:Nat}{out:ByteArray}{u:Bool}{r:WOut}(hr:RightP E.s)(hok:∀k t,E.ok k t=true↔ContentOk k t){i:Nat}(hi:i<E.s.length)(hk:k∈(nd E.s i).kids)
 (hf:1≤f)(e:wseqF E (wrF E f) dp (k::ks) x out u=some r):
 (LO E k x∧wseqF E (wrF E f) dp ks (x+1) out u=some r)∨(¬LO E k x∧∀r1,wrF E f k.node.toNat x (dp+1)=some r1→(r1=none∧r=none)∨∃b x' u',r1=some (b,x',u')∧wseqF E (wrF E f) dp ks x' (out++b) (u||u')=some r):=by
 obtain⟨f,rfl⟩:∃g,f=g+1:=⟨f-1,by omega⟩
 obtain⟨j,hj,hjk⟩:=kidOf hk
 have hKid:=(hr.2.2.1 i hi).2.2.2 j hj
 have hDf:=(hr.2.2.2.2 i hi).2 j hj
 rw[hjk]at hKid hDf
 obtain⟨hn0,hn1,_,hod⟩:=hKid
 have ht:k.node.toNat<E.s.length:=by omega
 obtain⟨hk1,hk14,_⟩:=tagged_of hr ht
 unfold wseqF at e
 by_cases q:k.opt=true∧x<E.t.length∧(vl E.t x).kind=15
 ·rw[if_pos q]at e
  have hd0:¬k.dflt.size≠0:=fun z=>hod ⟨q.1,z⟩
  by_cases q2:(vl E.t x).text.size=0∧(vl E.t x).alt=0∧(vl E.t x).kids=0
  ·rw[if_pos q2]at e
   refine .inl ⟨⟨q.2.1,.inl ⟨q.1,?_⟩⟩,e⟩
   have h1:=q.2.2
   have h2:=noB_of q2.1
   have h3:=q2.2.1
   have h4:=q2.2.2
   generalize vl E.t x=v at*
   obtain⟨a,b,c,d⟩:=v
   simp only at h1 h2 h3 h4
   subst h1 h2 h3 h4
   rfl
  ·rw[if_neg q2]at e
   refine .inr ⟨?_,fun r1 h1=> .inl ⟨?_,?_⟩⟩
   ·rintro⟨_,⟨_,h⟩|⟨h,_⟩⟩
    ·rw[h]at q2;exact q2 ⟨rfl,rfl,rfl⟩
    ·exact hd0 h
   ·rw[wrF,if_neg (fun z=>by have:=z.2.1;omega)]at h1
    injection h1 with h1;exact h1.symm
   ·injection e with e;exact e.symm
 rw[if_neg q]at e
 by_cases hd:k.dflt.size=0
 ·rw[if_pos hd]at e
  refine .inr ⟨?_,fun r1 h1=>?_⟩
  ·rintro⟨h0,⟨h,h'⟩|⟨h,_⟩⟩
   ·exact q ⟨h,h0,by rw[h']⟩
   ·exact h hd
  ·rcases wandThen_cases e with⟨h2,h3⟩|⟨b,x',u',h2,h3⟩
   ·rw[h2]at h1;injection h1 with h1;exact .inl ⟨h1.symm,h3⟩
   ·have hdp:=wrF_deep h2
    rw[h2]at h1
    injection h1 with h1
    rw[if_neg (fun z=>z.1 hd),if_neg (by omega)]at h3
    exact .inr ⟨b,x',u',h1.symm,h3⟩
 ·rw[if_neg hd]at e
  obtain⟨hk9,y,hy⟩:(nd E.s k.node.toNat).kind≤9∧∃u,ElemOk (nd E.s k.node.toNat) k.dflt u:=by
   rcases hDf with h|h
   ·exact absurd h hd
   ·exact h
  have hno:¬k.opt=true:=fun z=>hod ⟨z,hd⟩
  rw[wrF_leaf hk1 hk9]at e
  by_cases q3:(x<E.t.length∧(vl E.t x).kind=(nd E.s k.node.toNat).kind∧(1:Int)≤12)∧E.ok (nd E.s k.node.toNat).kind (vl E.t x).text=true∧(vl E.t x).alt=0∧(vl E.t x).kids=0
  ·rw[if_pos q3]at e
   unfold WOut.andThen at e
   simp only at e
   have hle:=leaf_elem hr ht hk9 (t:=(vl E.t x).text) hy
   by_cases q4:leafB (nd E.s k.node.toNat) (vl E.t x).text=k.dflt
   ·rw[if_pos ⟨hd,q4⟩,Bool.or_false]at e
    refine .inl ⟨⟨q3.1.1,.inr ⟨hd,y,hy,?_⟩⟩,e⟩
    have h1:=q3.1.2.1
    have h2:=hle.1 q4
    have h3:=q3.2.2.1
    have h4:=q3.2.2.2
    generalize vl E.t x=v at*
    obtain⟨a,b,c,d⟩:=v
    simp only at h1 h2 h3 h4
    subst h1 h2 h3 h4
    rfl
   ·rw[if_neg (fun z=>q4 z.2)]at e
    refine .inr ⟨?_,fun r1 h1=>?_⟩
    ·rintro⟨h0,⟨h,_⟩|⟨_,y',hy',h'⟩⟩
     ·exact hno h
     ·have:=elem_one hy' hy
      subst this
      exact q4 (hle.2 (by rw[h']))
    ·rw[wrF_leaf hk1 hk9]at h1
     by_cases hdp:12<dp+1
     ·rw[if_pos hdp]at e
      rw[if_neg (fun z=>by have:=z.1.2.2;omega)]at h1
      injection h1 with h1
      injection e with e
      exact .inl ⟨h1.symm,e.symm⟩
     ·rw[if_neg hdp]at e
      rw[if_pos ⟨⟨q3.1.1,q3.1.2.1,by omega⟩,q3.2⟩]at h1
      injection h1 with h1
      exact .inr ⟨_,_,_,h1.symm,e⟩
  ·rw[if_neg q3]at e
   refine .inr ⟨?_,fun r1 h1=> .inl ⟨?_,?_⟩⟩
   ·rintro⟨h0,⟨h,_⟩|⟨_,y',hy',h'⟩⟩
    ·exact hno h
    ·have hco:ContentOk (nd E.s k.node.toNat).kind y':=by
      obtain⟨_,_,hT1,hT2,hT3,hT4,hT5⟩:=tagged_of hr ht
      exact((elem_iff (fun z=>hT3 (by omega)) (by omega)).1 hy').2
     exact q3 ⟨⟨h0,by rw[h'],by decide⟩,by rw[h'];exact(hok _ _).2 hco,by rw[h'],by rw[h']⟩
   ·rw[wrF_leaf hk1 hk9,if_neg (fun z=>q3 ⟨⟨z.1.1,z.1.2.1,by decide⟩,z.2⟩)]at h1
    injection h1 with h1;exact h1.symm
   ·injection e with e;exact e.symm
end Go.Proofs.YtkkicodfpekbgaaGreatDoor
namespace Go.Proofs.YtkkicodfpekbgaaGreatDoor
open Go.RowKit
set_option linter.unusedSimpArgs false
set_option linter.unusedVariables false
set_option maxRecDepth 100000
set_option maxHeartbeats 8000000
def encR(r:WOut)(n:Nat):Except Int ByteArray:=
 match r with
 |none=> .error 11
 |some (b,x,u)=>if x<n then .error 11 else if 4000<b.size then .error 2 else if u=true then .error 8 else .ok b
def EncV(E:WEnv)(s:List Nd)(root:Int)(t:List Vl)(v:Except Int ByteArray):Prop:=
 (¬(RightP s∧0≤root∧root<s.length)∧v= .error 1)∨
 ((RightP s∧0≤root∧root<s.length)∧E.s=s∧E.t=t∧(∀k u,E.ok k u=true↔ContentOk k u)∧∃f r,wrF E f root.toNat 0 1=some r∧v=encR r t.length)
def TreeIn(w:World)(ta:Option Addr)(t:List Vl):Prop:=∀j,j<t.length→∃g o,ta=some ⟨g,o,none⟩∧w.cell? ⟨g,o+j*4,none⟩=some (.int .i64 (vl t j).kind)∧w.cell? ⟨g,o+j*4+1,none⟩=some (.string (vl t j).text)∧w.cell? ⟨g,o+j*4+2,none⟩=some (.int .i64 (vl t j).alt)∧w.cell? ⟨g,o+j*4+3,none⟩=some (.int .i64 (vl t j).kids)
theorem TreeIn.below{w w':World}{ta:Option Addr}{t:List Vl}(h:TreeIn w ta t)(hb:Below w.heap.size w w'):TreeIn w' ta t:=fun j hj=>by
 obtain⟨g,o,e,h1,h2,h3,h4⟩:=h j hj
 exact⟨g,o,e,(hb.cell (lt_of_cell h1)).trans h1,(hb.cell (lt_of_cell h2)).trans h2,(hb.cell (lt_of_cell h3)).trans h3,(hb.cell (lt_of_cell h4)).trans h4⟩
end Go.Proofs.YtkkicodfpekbgaaGreatDoor
namespace Go.Proofs.YtkkicodfpekbgaaGreatDoor
set_option linter.unusedSimpArgs false
set_option linter.unusedVariables false
set_option maxRecDepth 100000
set_option maxHeartbeats 8000000
def verB(vt:ByteArray):ByteArray:=if elB 2 true 0 (elB 0 false 2 vt)=vdB then noB else elB 2 true 0 (elB 0 false 2 vt)
def mstB(t:ByteArray):ByteArray:=if elB 0 false 1 t=fdB then noB else elB 0 false 1 t
def quadB(q:ByteArray×ByteArray×ByteArray):ByteArray:=elB 0 true 16 (elB 0 false 6 q.1++mstB q.2.1++elB 0 false 4 q.2.2)
def quadsB(qs:List (ByteArray×ByteArray×ByteArray)):ByteArray:=qs.foldl (fun a q=>a++quadB q) noB
def msB(o:Option (List (ByteArray×ByteArray×ByteArray))):ByteArray:=
 match o with
 |none=>noB
 |some qs=>elB 2 true 3 (elB 0 true 16 (quadsB qs))
def CT.inner(c:CT):ByteArray:=verB c.vt++elB 0 false 2 c.s++elB 0 false (if c.pr then 19 else 12) c.n++elB 0 true 16 (elB 0 false 24 c.ft++elB 0 false 24 c.tt)++elB 0 false 3 c.k++msB c.ms
def CT.bytes(c:CT):ByteArray:=elB 0 true 16 c.inner
theorem noB_add(t:ByteArray):noB++t=t:=by
 apply ByteArray.ext
 rw[ByteArray.data_append]
 exact Array.empty_append
theorem add_noB(t:ByteArray):t++noB=t:=by
 apply ByteArray.ext
 rw[ByteArray.data_append]
 exact Array.append_empty
theorem wr_leaf{F:WEnv}(hok:∀k t,F.ok k t=true↔ContentOk k t){f i x:Nat}{dp:Int}{n:Nd}(hn:nd F.s i=n)(h1:1≤n.kind)(h9:n.kind≤9){t:ByteArray}(hx:x<F.t.length)(hv:vl F.t x=⟨n.kind,t,0,0⟩)(hd:dp≤12)(hc:ContentOk n.kind t):wrF F (f+1) i x dp=some (some (leafB n t,x+1,false)):=by
 subst hn
 rw[wrF_leaf h1 h9,hv,if_pos ⟨⟨hx,rfl,hd⟩,(hok _ _).2 hc,rfl,rfl⟩]
theorem ws_must{F:WEnv}{rec:WRec}{dp:Int}{k:Kd}{ks:List Kd}{x:Nat}{out:ByteArray}{u:Bool}(ho:k.opt=false)(hd:k.dflt.size=0)(hdp:dp+1≤12){b:ByteArray}{x':Nat}{u':Bool}(h:rec k.node.toNat x (dp+1)=some (some (b,x',u'))):wseqF F rec dp (k::ks) x out u=wseqF F rec dp ks x' (out++b) (u||u'):=by
 rw[wseqF,if_neg (fun q=>by rw[ho]at q;cases q.1),if_pos hd,h]
 show(if _ then _ else if _ then _ else _)=_
 rw[if_neg (fun q=>q.1 hd),if_neg (by omega)]
theorem ws_dflt{F:WEnv}{rec:WRec}{dp:Int}{k:Kd}{ks:List Kd}{x:Nat}{out:ByteArray}{u:Bool}(ho:k.opt=false)(hd:k.dflt.size≠0)(hdp:dp+1≤12){b:ByteArray}{x':Nat}{u':Bool}(h:rec k.node.toNat x 1=some (some (b,x',u'))):wseqF F rec dp (k::ks) x out u=wseqF F rec dp ks x' (out++if b=k.dflt then noB else b) (u||u'):=by
 rw[wseqF,if_neg (fun q=>by rw[ho]at q;cases q.1),if_neg hd,h]
 show(if _ then _ else if _ then _ else _)=_
 by_cases q:b=k.dflt
 ·rw[if_pos ⟨hd,q⟩,if_pos q,add_noB]
 ·rw[if_neg (fun z=>q z.2),if_neg (by omega),if_neg q]
theorem wr_seq{F:WEnv}{f i x:Nat}{dp:Int}{kids:List Kd}(hn:nd F.s i=⟨10, -1,0,kids⟩)(hx:x<F.t.length)(hv:vl F.t x=⟨10,noB,0,(kids.length:Nat)⟩)(hd:dp≤12){b:ByteArray}{x':Nat}{u:Bool}(h:wseqF F (wrF F f) dp kids (x+1) noB false=some (some (b,x',u))):wrF F (f+1) i x dp=some (some (elB 0 true 16 b,x',u)):=by
 rw[wrF,hn,hv,if_pos ⟨hx,rfl,hd⟩]
 unfold wbareF
 rw[if_neg (by show¬(10:Int)=13;decide),if_neg (by show¬(10:Int)=14;decide),if_pos rfl,if_pos ⟨rfl,rfl,rfl⟩,h]
 rfl
theorem quad_wr{F:WEnv}(hs:F.s=cS)(hok:∀k t,F.ok k t=true↔ContentOk k t){f p:Nat}{q:ByteArray×ByteArray×ByteArray}(hp:p+4≤F.t.length)(h0:vl F.t p=⟨10,noB,0,3⟩)(h1:vl F.t (p+1)=⟨4,q.1,0,0⟩)(h2:vl F.t (p+2)=⟨1,q.2.1,0,0⟩)(h3:vl F.t (p+3)=⟨6,q.2.2,0,0⟩)(c1:ContentOk 4 q.1)(c2:ContentOk 1 q.2.1):wrF F (f+1+1) 10 p 3=some (some (quadB q,p+4,false)):=by
 have l1:=wr_leaf (f:=f) (i:=11) (dp:=4) hok (n:=⟨4, -1,0,[]⟩) (by rw[hs];rfl) (by decide) (by decide) (by omega) h1 (by decide) c1
 have l2:=wr_leaf (f:=f) (i:=12) (dp:=1) hok (n:=⟨1, -1,0,[]⟩) (by rw[hs];rfl) (by decide) (by decide) (by omega) h2 (by decide) c2
 have l3:=wr_leaf (f:=f) (i:=13) (dp:=4) hok (n:=⟨6, -1,0,[]⟩) (by rw[hs];rfl) (by decide) (by decide) (by omega) h3 (by decide) ((contentOk_6 _).1 trivial)
 refine wr_seq (kids:=[⟨11,false,noB⟩,⟨12,false,fdB⟩,⟨13,false,noB⟩]) (by rw[hs];rfl) (by omega) h0 (by decide) ?_
 rw[ws_must rfl rfl (by decide) l1,ws_dflt rfl (by decide) (by decide) l2,ws_must rfl rfl (by decide) l3]
 unfold wseqF
 rw[noB_add]
 rfl
theorem vl_app{a b:List Vl}{j:Nat}:vl (a++b) (a.length+j)=vl b j:=by
 unfold vl
 rw[List.getD_eq_getElem?_getD,List.getElem?_append_right (by omega),Nat.add_sub_cancel_left,List.getD_eq_getElem?_getD]
theorem quads_wr{F:WEnv}(hs:F.s=cS)(hok:∀k t,F.ok k t=true↔ContentOk k t){f:Nat}:∀(qs:List (ByteArray×ByteArray×ByteArray)) (pre:List Vl) (m:Nat) (out last:ByteArray),F.t=pre++qs.flatMap quadL→(∀q∈qs,ContentOk 4 q.1∧ContentOk 1 q.2.1)→qs.length<m→
 wmanyF F (wrF F (f+1+1)) false 10 3 m (qs.length:Nat) pre.length out last false=some (some (qs.foldl (fun a q=>a++quadB q) out,F.t.length,false))
 | [],pre,m,out,last,ht,_,hm=>by
   obtain⟨m,rfl⟩:∃k,m=k+1:=⟨m-1,by omega⟩
   unfold wmanyF
   rw[if_neg (by decide),ht]
   simp
 |q::qs,pre,m,out,last,ht,hc,hm=>by
  obtain⟨m,rfl⟩:∃k,m=k+1:=⟨m-1,by omega⟩
  have hl:F.t.length=pre.length+4+(qs.flatMap quadL).length:=by rw[ht,List.length_append,List.flatMap_cons,List.length_append];show pre.length+(4+_)=_;omega
  have hv:∀j,vl F.t (pre.length+j)=vl (quadL q++qs.flatMap quadL) j:=fun j=>by rw[ht,List.flatMap_cons];exact vl_app
  have hq:=quad_wr hs hok (f:=f) (p:=pre.length) (q:=q) (by omega) (hv 0) (hv 1) (hv 2) (hv 3) (hc q (by simp)).1 (hc q (by simp)).2
  have ih:=quads_wr hs hok (f:=f) qs (pre++quadL q) m (out++quadB q) (quadB q) (by rw[ht,List.flatMap_cons,List.append_assoc]) (fun q hq=>hc q (by simp[hq])) (by simpa using hm)
  unfold wmanyF
  rw[if_pos (by rw[List.length_cons];omega),hq]
  show wmanyF F _ false 10 3 m _ _ _ _ _=_
  rw[show((((q::qs).length:Nat):Int)-1)=(qs.length:Nat)by rw[List.length_cons];omega]
  rw[List.length_append]at ih
  exact ih
theorem wr_choice{F:WEnv}{f i x a:Nat}{dp:Int}{kids:List Kd}(hn:nd F.s i=⟨13, -1,0,kids⟩)(hx:x<F.t.length)(hv:vl F.t x=⟨13,noB,(a:Nat),1⟩)(hd:dp≤12)(ha:a<kids.length):wrF F (f+1) i x dp=wrF F f (kids.getD a kd0).node.toNat (x+1) dp:=by
 rw[wrF,hn,hv,if_pos ⟨hx,rfl,hd⟩]
 unfold wbareF
 rw[if_pos rfl,if_pos ⟨rfl,rfl,by show(0:Int)≤(a:Nat);omega,by show((a:Nat):Int)<kids.length;omega⟩]
 show WOut.andThen (wrF F f (kids.getD ((a:Nat):Int).toNat kd0).node.toNat (x+1) dp) (fun b x' u=>some (some (if(0:Int)=1 then _ else b,x',u)))=_
 rw[Int.toNat_natCast]
 generalize wrF F f (kids.getD a kd0).node.toNat (x+1) dp=r
 unfold WOut.andThen
 split
 ·rfl
 ·rfl
 ·simp
theorem card_wr{F:WEnv}(hs:F.s=cS)(hok:∀k t,F.ok k t=true↔ContentOk k t){c:CT}(ht:F.t=c.tree)(hc:c.Ok){f:Nat}(hf:∀qs,c.ms=some qs→qs.length≤f):wrF F (f+4) 0 0 1=some (some (c.bytes,c.tree.length,false)):=by
 have hl:c.tree.length=9+(cTail c.ms).length:=by unfold CT.tree;rw[List.length_append];rfl
 have hp:1≤(cTail c.ms).length:=by unfold cTail;split<;>simp
 have l1:=wr_leaf (f:=f+2) (i:=1) (x:=1) (dp:=1) hok (n:=⟨2,0,1,[]⟩) (by rw[hs];rfl) (by decide) (by decide) (t:=c.vt) (by rw[ht];omega) (by rw[ht];rfl) (by decide) hc.vt
 have l2:=wr_leaf (f:=f+2) (i:=2) (x:=2) (dp:=2) hok (n:=⟨2, -1,0,[]⟩) (by rw[hs];rfl) (by decide) (by decide) (t:=c.s) (by rw[ht];omega) (by rw[ht];rfl) (by decide) hc.s
 have l3:wrF F (f+2+1) 3 3 2=some (some (elB 0 false (if c.pr then 19 else 12) c.n,5,false)):=by
  cases hpr:c.pr with
  |true=>
   have hcn:=hc.n
   rw[hpr]at hcn
   have h3:=wr_choice (f:=f+1+1) (i:=3) (x:=3) (a:=0) (dp:=2) (kids:=[⟨4,false,noB⟩,⟨5,false,noB⟩]) (by rw[hs];rfl) (by rw[ht];omega) (by rw[ht];show(⟨13,noB,if c.pr then 0 else 1,1⟩:Vl)=_;rw[hpr];rfl) (by decide) (by decide)
   have h4:=wr_leaf (f:=f+1) (i:=4) (x:=4) (dp:=2) hok (n:=⟨8, -1,0,[]⟩) (by rw[hs];rfl) (by decide) (by decide) (t:=c.n) (by rw[ht];omega) (by rw[ht];show(⟨if c.pr then 8 else 7,c.n,0,0⟩:Vl)=_;rw[hpr];rfl) (by decide) hcn
   exact h3.trans h4
  |false=>
   have hcn:=hc.n
   rw[hpr]at hcn
   have h3:=wr_choice (f:=f+1+1) (i:=3) (x:=3) (a:=1) (dp:=2) (kids:=[⟨4,false,noB⟩,⟨5,false,noB⟩]) (by rw[hs];rfl) (by rw[ht];omega) (by rw[ht];show(⟨13,noB,if c.pr then 0 else 1,1⟩:Vl)=_;rw[hpr];rfl) (by decide) (by decide)
   have h4:=wr_leaf (f:=f+1) (i:=5) (x:=4) (dp:=2) hok (n:=⟨7, -1,0,[]⟩) (by rw[hs];rfl) (by decide) (by decide) (t:=c.n) (by rw[ht];omega) (by rw[ht];show(⟨if c.pr then 8 else 7,c.n,0,0⟩:Vl)=_;rw[hpr];rfl) (by decide) hcn
   exact h3.trans h4
 have l4:wrF F (f+2+1) 6 5 2=some (some (elB 0 true 16 (elB 0 false 24 c.ft++elB 0 false 24 c.tt),8,false)):=by
  have t1:=wr_leaf (f:=f+1) (i:=7) (x:=6) (dp:=3) hok (n:=⟨9, -1,0,[]⟩) (by rw[hs];rfl) (by decide) (by decide) (t:=c.ft) (by rw[ht];omega) (by rw[ht];rfl) (by decide) hc.ft
  have t2:=wr_leaf (f:=f+1) (i:=7) (x:=7) (dp:=3) hok (n:=⟨9, -1,0,[]⟩) (by rw[hs];rfl) (by decide) (by decide) (t:=c.tt) (by rw[ht];omega) (by rw[ht];rfl) (by decide) hc.tt
  refine wr_seq (f:=f+2) (kids:=[⟨7,false,noB⟩,⟨7,false,noB⟩]) (by rw[hs];rfl) (by rw[ht];omega) (by rw[ht];rfl) (by decide) ?_
  rw[ws_must rfl rfl (by decide) t1,ws_must rfl rfl (by decide) t2]
  unfold wseqF
  rw[noB_add]
  rfl
 have l5:=wr_leaf (f:=f+2) (i:=8) (x:=8) (dp:=2) hok (n:=⟨5, -1,0,[]⟩) (by rw[hs];rfl) (by decide) (by decide) (t:=c.k) (by rw[ht];omega) (by rw[ht];rfl) (by decide) hc.k
 refine wr_seq (f:=f+3) (kids:=[⟨1,false,vdB⟩,⟨2,false,noB⟩,⟨3,false,noB⟩,⟨6,false,noB⟩,⟨8,false,noB⟩,⟨9,true,noB⟩]) (by rw[hs];rfl) (by rw[ht];omega) (by rw[ht];rfl) (by decide) ?_
 rw[ws_dflt rfl (by decide) (by decide) l1,ws_must rfl rfl (by decide) l2,ws_must rfl rfl (by decide) l3,ws_must rfl rfl (by decide) l4,ws_must rfl rfl (by decide) l5,noB_add]
 have hv9:vl F.t 9=vl (cTail c.ms) 0:=by rw[ht];exact vl_app (a:=cHead c.vt c.s c.n c.pr c.ft c.tt c.k) (j:=0)
 have hl9:9<F.t.length:=by rw[ht];omega
 unfold wseqF
 cases hms:c.ms with
 |none=>
  rw[hms]at hv9 hl
  have hv9':vl F.t 9=⟨15,noB,0,0⟩:=hv9
  rw[if_pos ⟨rfl,hl9,by rw[hv9']⟩,hv9',if_pos ⟨rfl,rfl,rfl⟩]
  unfold wseqF
  rw[hl]
  unfold CT.inner
  rw[hms]
  unfold msB
  rw[add_noB]
  rfl
 |some qs=>
  rw[hms]at hv9 hl
  have hv9':vl F.t 9=⟨11,noB,0,(qs.length:Nat)⟩:=hv9
  rw[if_neg (fun q=>by have q2:=q.2.2;rw[hv9']at q2;exact absurd q2 (by show¬(11:Int)=15;decide)),if_pos (by rfl)]
  have hmy:=quads_wr hs hok (f:=f) qs (cHead c.vt c.s c.n c.pr c.ft c.tt c.k++[⟨11,noB,0,(qs.length:Nat)⟩]) (f+2) noB noB (by rw[ht];unfold CT.tree;rw[hms];unfold cTail;simp) (hc.ms qs hms) (by have:=hf qs hms;omega)
  have h9:wrF F (f+3) 9 9 2=some (some (msB (some qs),F.t.length,false)):=by
   rw[wrF,show nd F.s 9=⟨11,3,1,[⟨10,false,noB⟩]⟩by rw[hs];rfl,hv9',if_pos ⟨hl9,rfl,by decide⟩]
   unfold wbareF
   rw[if_neg (by show¬(11:Int)=13;decide),if_neg (by show¬(11:Int)=14;decide),if_neg (by show¬(11:Int)=10;decide),if_pos (by show(10:Int)≤11∧(11:Int)≤12;decide),if_pos ⟨rfl,rfl,by show(0:Int)≤(qs.length:Nat);omega⟩]
   show WOut.andThen (WOut.andThen (wmanyF F (wrF F (f+1+1)) false 10 3 (f+2) (qs.length:Nat) (9+1) noB noB false) _) _=_
   rw[List.length_append]at hmy
   rw[show(9+1:Nat)=(cHead c.vt c.s c.n c.pr c.ft c.tt c.k).length+ [(⟨11,noB,0,(qs.length:Nat)⟩:Vl)].length from rfl,hmy]
   rfl
  show WOut.andThen (wrF F (f+3) 9 9 2) _=_
  rw[h9]
  unfold WOut.andThen
  simp only
  rw[if_neg (fun q=>q.1 rfl),if_neg (by decide)]
  unfold wseqF
  rw[←ht]
  unfold CT.inner
  rw[hms]
  rfl
theorem rdF_add{E:Env}:∀(k f i x y:Nat) (dp:Int) (o:Out),rdF E f i x y dp=some o→rdF E (f+k) i x y dp=some o
 |0,_,_,_,_,_,_,h=>h
 |k+1,f,i,x,y,dp,o,h=>rdF_le (f+k) i x y dp o (rdF_add k f i x y dp o h)
def kdP(π:Nat→Nat)(k:Kd):Kd:=⟨(π k.node.toNat:Nat),k.opt,k.dflt⟩
theorem kdP_node(π:Nat→Nat)(k:Kd):(kdP π k).node.toNat=π k.node.toNat:=Int.toNat_natCast _
structure IsoE(E1 E2:Env)(π:Nat→Nat):Prop where
 d:E2.d=E1.d
 ok:∀k t,E2.ok k t=E1.ok k t
 node:∀i,i<E1.s.length→nd E2.s (π i)=⟨(nd E1.s i).kind,(nd E1.s i).tag,(nd E1.s i).mode,(nd E1.s i).kids.map (kdP π)⟩
 within:∀i,i<E1.s.length→∀k∈(nd E1.s i).kids,k.node.toNat<E1.s.length
 one:∀i,i<E1.s.length→11≤(nd E1.s i).kind→(nd E1.s i).kind≤12→(nd E1.s i).kids.length=1
 bg:∀i,i<E1.s.length→∀c m,E2.bg (π i) c m=E1.bg i c m
 dv:∀i,i<E1.s.length→∀k∈(nd E1.s i).kids,k.dflt.size≠0→E2.dv (kdP π k)=E1.dv k
theorem iso_hd{E1 E2:Env}(h:E2.d=E1.d)(x y:Nat):E2.hd x y=E1.hd x y:=by unfold Env.hd;rw[h]
theorem choice_iso{E1 E2:Env}{π:Nat→Nat}(H:IsoE E1 E2 π){r1 r2:Rec}(hr:∀i,i<E1.s.length→r2 (π i)=r1 i){h:Hd}{x tz:Nat}{dp:Int}{i:Nat}(hi:i<E1.s.length):∀(ks:List Kd) (j:Nat),(∀k∈ks,k∈(nd E1.s i).kids)→choiceF E2 r2 h x tz dp (ks.map (kdP π)) j=choiceF E1 r1 h x tz dp ks j
 | [],_,_=>rfl
 |k::ks,j,hk=>by
  have hw:=H.within i hi k (hk k (by simp))
  rw[List.map_cons,choiceF,choiceF,kdP_node,H.bg _ hw,hr _ hw,choice_iso H hr hi ks (j+1) fun k h=>hk k (by simp[h])]
theorem seq_iso{E1 E2:Env}{π:Nat→Nat}(H:IsoE E1 E2 π){r1 r2:Rec}(hr:∀i,i<E1.s.length→r2 (π i)=r1 i){tz:Nat}{dp:Int}{i:Nat}(hi:i<E1.s.length):∀(ks:List Kd) (x:Nat) (acc:List Vl),(∀k∈ks,k∈(nd E1.s i).kids)→seqF E2 r2 tz dp (ks.map (kdP π)) x acc=seqF E1 r1 tz dp ks x acc
 | [],_,_,_=>rfl
 |k::ks,x,acc,hk=>by
  have hw:=H.within i hi k (hk k (by simp))
  have ih:∀x acc,seqF E2 r2 tz dp (ks.map (kdP π)) x acc=seqF E1 r1 tz dp ks x acc:=fun x acc=>seq_iso H hr hi ks x acc fun k h=>hk k (by simp[h])
  rw[List.map_cons,seqF,seqF,kdP_node,H.bg _ hw,hr _ hw,iso_hd H.d,H.d]
  simp only[ih]
  by_cases hd:k.dflt.size≠0
  ·rw[H.dv i hi k (hk k (by simp)) hd]
   rfl
  ·have e1:(kdP π k).dflt=k.dflt:=rfl
   have e2:(kdP π k).opt=k.opt:=rfl
   rw[e1,e2,if_neg hd,if_neg hd]
theorem many_iso{E1 E2:Env}{π:Nat→Nat}(H:IsoE E1 E2 π){r1 r2:Rec}(hr:∀i,i<E1.s.length→r2 (π i)=r1 i){set:Bool}{tz:Nat}{dp:Int}{i:Nat}(hi:i<E1.s.length):∀(m x:Nat) (last:ByteArray) (j:Nat) (acc:List Vl),manyF E2 r2 set (π i) tz dp m x last j acc=manyF E1 r1 set i tz dp m x last j acc
 |0,_,_,_,_=>rfl
 |m+1,x,last,j,acc=>by
  rw[manyF,manyF,hr i hi,H.d]
  simp only[many_iso H hr hi m]
theorem bare_iso{E1 E2:Env}{π:Nat→Nat}(H:IsoE E1 E2 π){r1 r2:Rec}(hr:∀i,i<E1.s.length→r2 (π i)=r1 i){m:Nat}{cl nu:Int}{h:Hd}{x tz:Nat}{dp:Int}{i:Nat}(hi:i<E1.s.length):bareF E2 r2 m (nd E2.s (π i)) cl nu h x tz dp=bareF E1 r1 m (nd E1.s i) cl nu h x tz dp:=by
 rw[H.node i hi]
 unfold bareF
 simp only
 rw[choice_iso H hr hi _ _ fun k h=>h,seq_iso H hr hi _ _ _ fun k h=>h,List.length_map,H.d]
 simp only[H.ok]
 by_cases h10:(nd E1.s i).kind=10
 ·simp only[if_pos h10]
 by_cases h12:10≤(nd E1.s i).kind∧(nd E1.s i).kind≤12
 ·have h1:=H.one i hi (by omega) h12.2
  have hk:(kd ⟨(nd E1.s i).kind,(nd E1.s i).tag,(nd E1.s i).mode,(nd E1.s i).kids.map (kdP π)⟩ 0).node.toNat=π (kd (nd E1.s i) 0).node.toNat:=by
   unfold kd
   match hk:(nd E1.s i).kids,h1 with
   | [k],_=>exact kdP_node π k
  have hw:=H.within i hi _ (kd_mem (n:=nd E1.s i) (i:=0) (by omega))
  rw[hk,many_iso H hr hw]
 ·simp only[if_neg h12]
theorem rd_iso{E1 E2:Env}{π:Nat→Nat}(H:IsoE E1 E2 π):∀f i,i<E1.s.length→rdF E2 f (π i)=rdF E1 f i
 |0,_,_=>rfl
 |f+1,i,hi=>by
  funext x y dp
  have ih:=rd_iso H f
  rw[rdF,rdF,iso_hd H.d]
  unfold valF
  rw[bare_iso H ih hi,bare_iso H ih hi,bare_iso H ih hi,H.node i hi,iso_hd H.d]
theorem iso_same{E1 E2:Env}(hr:RightP E1.s)(hs:E2.s=E1.s)(hd:E2.d=E1.d)(h1:EnvOk E1)(h2:EnvOk E2):IsoE E1 E2 id where
 d:=hd
 ok:=fun k t=>Bool.eq_iff_iff.2 ((h2.ok k t).trans (h1.ok k t).symm)
 node:=fun i hi=>by
  rw[hs]
  have e:(nd E1.s i).kids.map (kdP id)=(nd E1.s i).kids:=by
   conv=>rhs;rw[←List.map_id (nd E1.s i).kids]
   refine List.map_congr_left fun k hk=>?_
   have:=hr.fine.within i hi k hk
   obtain⟨a,b,c⟩:=k
   show(⟨((a.toNat:Nat):Int),b,c⟩:Kd)=⟨a,b,c⟩
   rw[Int.toNat_of_nonneg this.1]
  rw[e]
  rfl
 within:=fun i hi k hk=>by have:=hr.fine.within i hi k hk;omega
 one:=fun i hi a b=>hr.fine.one i hi (by omega)
 bg:=fun i hi c m=>Bool.eq_iff_iff.2 (by
  have q:=h2.bg i (by rw[hs];exact hi) c m
  rw[hs]at q
  exact q.trans (h1.bg i hi c m).symm)
 dv:=fun i hi k hk hd=>by
  have hw:=hr.fine.within i hi k hk
  obtain⟨u,a1,a2,_⟩:=h1.dv i hi k hk hd
  have e:kdP id k=k:=by
   obtain⟨a,b,c⟩:=k
   show(⟨((a.toNat:Nat):Int),b,c⟩:Kd)=⟨a,b,c⟩
   rw[Int.toNat_of_nonneg hw.1]
  obtain⟨u',b1,b2,_⟩:=h2.dv i (by rw[hs];exact hi) k (by rw[hs];exact hk) hd
  rw[hs]at b1 b2
  rw[e,a2,b2,elem_one a1 b1]
theorem decV_one{s:List Nd}{root:Int}{d:ByteArray}{E1 E2:Env}{v1 v2:Except (Int×Int) (List Vl)}(h1:DecV E1 s root d v1)(h2:DecV E2 s root d v2):v1=v2:=by
 rcases h1 with⟨q,rfl⟩|⟨q,z,rfl⟩|⟨q,z,rfl,rfl,e1,f1,_,r1⟩
 ·rcases h2 with⟨_,rfl⟩|⟨q',_⟩|⟨q',_⟩
  ·rfl
  ·exact absurd q' q
  ·exact absurd q' q
 ·rcases h2 with⟨q',_⟩|⟨_,_,rfl⟩|⟨_,z',_⟩
  ·exact absurd q q'
  ·rfl
  ·omega
 ·rcases h2 with⟨q',_⟩|⟨_,z',_⟩|⟨_,_,hs,hd,e2,f2,_,r2⟩
  ·exact absurd q q'
  ·omega
  ·have H:=iso_same q.1 hs hd e1 e2
   have hlt:root.toNat<E1.s.length:=by omega
   unfold readF at r1 r2
   rw[hd]at r2
   have key:∀{E:Env} {f k:Nat} {v:Except (Int×Int) (List Vl)},Out.andThen (rdF E f root.toNat 0 E1.d.size 1) (fun vs z=>if z<E1.d.size then some (.error (7,z))else some (.ok vs))=some v→Out.andThen (rdF E (f+k) root.toNat 0 E1.d.size 1) (fun vs z=>if z<E1.d.size then some (.error (7,(z:Int)))else some (.ok vs))=some v:=fun {E f k v} h=>Out.andThen_le (fun u hu=>rdF_add k f _ _ _ _ _ hu) (fun _ _ _ q=>q) h
   have a1:=key (k:=f2) r1
   have a2:=key (k:=f1) r2
   have hiso:=rd_iso H (f2+f1) root.toNat hlt
   rw[id]at hiso
   rw[hiso,Nat.add_comm f2 f1,a1]at a2
   exact Option.some.inj a2
end Go.Proofs.YtkkicodfpekbgaaGreatDoor
namespace Go.Proofs.YtkkicodfpekbgaaGreatDoor
open Go.RowKit
set_option linter.unusedSimpArgs false
set_option linter.unusedVariables false
set_option maxRecDepth 100000
set_option maxHeartbeats 8000000
structure Mks where
 kind:ByteArray
 must:Bool
 body:ByteArray
def mcells(ms:List Mks):List Value:=ms.flatMap fun m=> [.string m.kind,.bool m.must,.string m.body]
theorem mcells_append(ms:List Mks)(m:Mks):mcells (ms++[m])=mcells ms++[.string m.kind,.bool m.must,.string m.body]:=by unfold mcells;simp
def mk0:Mks:=⟨noB,false,noB⟩
theorem mcells_get:∀(l:List Mks) (i:Nat),i<l.length→∀j,j<3→(mcells l)[i*3+j]? =[Value.string (l.getD i mk0).kind,.bool (l.getD i mk0).must,.string (l.getD i mk0).body][j]?
 | [],i,h,_,_=>absurd h (Nat.not_lt_zero _)
 |v::l,0,_,j,hj=>by
  unfold mcells
  rw[List.flatMap_cons,List.getElem?_append_left (by show 0*3+j<3;omega),Nat.zero_mul,Nat.zero_add]
  rfl
 |v::l,i+1,h,j,hj=>by
  have ih:=mcells_get l i (by simpa using h) j hj
  unfold mcells at ih ⊢
  rw[List.flatMap_cons,List.getElem?_append_right (by show 3≤_;omega)]
  show(l.flatMap _)[(i+1)*3+j-3]? =_
  rw[show(i+1)*3+j-3=i*3+j by omega,ih,List.getD_cons_succ]
def MkIn(w:World)(a:Option Addr)(ms:List Mks):Prop:=∀j,j<ms.length→∃g o,a=some ⟨g,o,none⟩∧w.cell? ⟨g,o+j*3,none⟩=some (.string (ms.getD j mk0).kind)∧w.cell? ⟨g,o+j*3+1,none⟩=some (.bool (ms.getD j mk0).must)∧w.cell? ⟨g,o+j*3+2,none⟩=some (.string (ms.getD j mk0).body)
theorem MkIn.below{w w':World}{a:Option Addr}{ms:List Mks}(h:MkIn w a ms)(hb:Below w.heap.size w w'):MkIn w' a ms:=fun j hj=>by
 obtain⟨g,o,e,h1,h2,h3⟩:=h j hj
 exact⟨g,o,e,(hb.cell (lt_of_cell h1)).trans h1,(hb.cell (lt_of_cell h2)).trans h2,(hb.cell (lt_of_cell h3)).trans h3⟩
theorem MkIn.of_own{w:World}{base:Nat}{a:Option Addr}{c:Nat}{ms:List Mks}(h:w.ownsRow base 73 3 (.slice a ms.length c) ms.length (mcells ms)):MkIn w a ms:=fun j hj=>by
 rcases h.2 with⟨_,h0⟩|⟨g,cap,cur,e,_⟩
 ·omega
 ·injection e with e1 _ _
  subst e1
  have q:=h.cells (g:=g) rfl
  have add0':∀k,(⟨g,0,none⟩:Addr).add k=⟨g,k,none⟩:=fun k=>by unfold Addr.add;split<;>simp_all
  refine⟨g,0,rfl,?_,?_,?_⟩ <;>rw[Nat.zero_add]
  ·have:=q (j*3) _ ((mcells_get ms j hj 0 (by decide)).trans rfl);rwa[add0']at this
  ·have:=q (j*3+1) _ ((mcells_get ms j hj 1 (by decide)).trans rfl);rwa[add0']at this
  ·have:=q (j*3+2) _ ((mcells_get ms j hj 2 (by decide)).trans rfl);rwa[add0']at this
abbrev limK:ByteArray:=⟨#[85,29,19]⟩
abbrev useK:ByteArray:=⟨#[85,29,15]⟩
def LimOk(b:ByteArray):Prop:=∃E vs,DecV E lS 0 b (.ok vs)
def UseOk(b:ByteArray):Prop:=∃u,ElemOk ⟨5, -1,0,[]⟩ b u
def MarkOk(m:Mks):Prop:=(m.kind=limK∧LimOk m.body)∨(m.kind=useK∧UseOk m.body)∨(m.kind≠limK∧m.kind≠useK∧ContentOk 4 m.kind∧m.must=false)
def MarksTo(ms:List Mks)(n:Nat):Prop:=∀i,i<n→MarkOk (ms.getD i mk0)∧∀j,j<i→(ms.getD j mk0).kind≠(ms.getD i mk0).kind
def MarksOk(ms:List Mks):Prop:=MarksTo ms ms.length
def MkZ(ms:List Mks):Prop:=∀j,j<ms.length→(ms.getD j mk0).kind.size≤140737488355328∧(ms.getD j mk0).body.size≤140737488355328
theorem beq_iff{a b:ByteArray}:(a.toList==b.toList)=true↔a=b:=by
 rw[beq_iff_eq,Lib.toList_data,Lib.toList_data]
 constructor
 ·intro h;exact ByteArray.ext (Array.toList_inj.1 h)
 ·rintro rfl;rfl
theorem beq_no{a b:ByteArray}(h:a≠b):(a.toList==b.toList)=false:=Bool.eq_false_iff.2 fun q=>h (beq_iff.1 q)
theorem kids_alloc(ks:List Kd)(w:World):KidsIn (w.alloc (.cells (kcells ks).toArray 55)) (some ⟨w.heap.size,0,none⟩) ks:=fun j hj=>by
 have hn:=heap_alloc_new w (.cells (kcells ks).toArray 55)
 have c:∀i,(w.alloc (.cells (kcells ks).toArray 55)).cell? ⟨w.heap.size,i,none⟩=(kcells ks)[i]? :=fun i=>by simp only[World.cell?,hn];simp
 refine⟨w.heap.size,0,rfl,?_⟩
 rw[Nat.zero_add]
 exact⟨(c _).trans (kcells_get ks j hj 0 (by decide)),(c _).trans (kcells_get ks j hj 1 (by decide)),(c _).trans (kcells_get ks j hj 2 (by decide))⟩
def rcells(rows:List (Nd×Option Addr×Nat)):List Value:=rows.flatMap fun r=> [.int .i64 r.1.kind,.int .i64 r.1.tag,.int .i64 r.1.mode,.slice r.2.1 r.1.kids.length r.2.2]
theorem rcells_get:∀(l:List (Nd×Option Addr×Nat)) (i:Nat) (hi:i<l.length) (j:Nat),j<4→(rcells l)[i*4+j]? =[Value.int .i64 l[i].1.kind,.int .i64 l[i].1.tag,.int .i64 l[i].1.mode,.slice l[i].2.1 l[i].1.kids.length l[i].2.2][j]?
 | [],i,hi,_,_=>absurd hi (Nat.not_lt_zero _)
 |r::l,0,_,j,hj=>by
  unfold rcells
  rw[List.flatMap_cons,List.getElem?_append_left (by show 0*4+j<4;omega),Nat.zero_mul,Nat.zero_add]
  rfl
 |r::l,i+1,hi,j,hj=>by
  have ih:=rcells_get l i (by simpa using hi) j hj
  unfold rcells at ih ⊢
  rw[List.flatMap_cons,List.getElem?_append_right (by show 4≤_;omega)]
  show(l.flatMap _)[(i+1)*4+j-4]? =_
  rw[show(i+1)*4+j-4=i*4+j by omega,ih]
  rfl
def Nod(w:World)(rows:List (Nd×Option Addr×Nat)):Prop:=∀r∈rows,r.1.kids.length≤r.2.2∧r.2.2≤maxLen∧KidsIn w r.2.1 r.1.kids
theorem nod_nil{w:World}:Nod w []:=fun r hr=>by cases hr
theorem nod_cons{w:World}{n:Nd}{a:Option Addr}{c:Nat}{rows:List (Nd×Option Addr×Nat)}(h1:n.kids.length≤c)(h2:c≤maxLen)(h3:KidsIn w a n.kids)(h:Nod w rows):Nod w ((n,a,c)::rows):=fun r hr=>by
 rcases List.mem_cons.1 hr with rfl|hr
 ·exact⟨h1,h2,h3⟩
 ·exact h r hr
theorem nodes_alloc(rows:List (Nd×Option Addr×Nat))(w:World)(h:Nod w rows):Sch (w.alloc (.cells (rcells rows).toArray 58)) (some ⟨w.heap.size,0,none⟩) (rows.map (·.1)):=fun i hi=>by
 have hi':i<rows.length:=by simpa using hi
 have hn:=heap_alloc_new w (.cells (rcells rows).toArray 58)
 have c:∀i,(w.alloc (.cells (rcells rows).toArray 58)).cell? ⟨w.heap.size,i,none⟩=(rcells rows)[i]? :=fun i=>by simp only[World.cell?,hn];simp
 have e:nd (rows.map (·.1)) i=rows[i].1:=by unfold nd;rw[List.getD_eq_getElem?_getD,List.getElem?_map,List.getElem?_eq_getElem hi'];rfl
 obtain⟨h1,h2,h3⟩:=h rows[i] (List.getElem_mem _)
 rw[e]
 refine⟨w.heap.size,0,rows[i].2.1,rows[i].2.2,rfl,?_,h1,h2,h3.below ((Below.refl _ _).alloc (Nat.le_refl _) _)⟩
 rw[Nat.zero_add]
 exact⟨(c _).trans (rcells_get rows i hi' 0 (by decide)),(c _).trans (rcells_get rows i hi' 1 (by decide)),(c _).trans (rcells_get rows i hi' 2 (by decide)),(c _).trans (rcells_get rows i hi' 3 (by decide))⟩
theorem plain_any(k:Int)(ka:Option Addr)(n kc:Nat)(w:World):
 Calls Tryz.prog 133 #[.int .i64 k,.slice ka n kc] w fun e w'=>e= .returned (.agg #[.int .i64 k,.int .i64 (-1),.int .i64 0,.slice ka n kc])∧Below w.heap.size w w':=by
 go_enter Tryz.func133,Tryz.ntmps133
 go_wp2
 exact bodyPost_ret (v:= .agg #[.int .i64 k,.int .i64 (-1),.int .i64 0,.slice ka n kc]) (by simp[results,Tryz.results133,go_sem]) rfl ⟨rfl,(Below.refl _ _).alloc (Nat.le_refl _) _⟩
theorem around_any(t k g m:Int)(ka:Option Addr)(n kc:Nat)(w:World):
 Calls Tryz.prog 134 #[.int .i64 t,.agg #[.int .i64 k,.int .i64 g,.int .i64 m,.slice ka n kc]] w fun e w'=>e= .returned (.agg #[.int .i64 k,.int .i64 t,.int .i64 1,.slice ka n kc])∧Below w.heap.size w w':=by
 go_enter Tryz.func134,Tryz.ntmps134
 go_wp2
 exact bodyPost_ret (v:= .agg #[.int .i64 k,.int .i64 t,.int .i64 1,.slice ka n kc]) (by simp[results,Tryz.results134,go_sem]) rfl ⟨rfl,((Below.refl _ _).alloc (Nat.le_refl _) _).alloc (by simp) _⟩
theorem limits_any(w:World):Calls Tryz.prog 205 #[] w fun e w'=>∃g,e= .returned (.slice (some ⟨g,0,none⟩) 3 3)∧Sch w' (some ⟨g,0,none⟩) lS∧Below w.heap.size w w':=by
 have HP:Hid (∀(k:Int) (ka:Option Addr) (n kc:Nat) wq,Calls Tryz.prog 133 #[.int .i64 k,.slice ka n kc] wq fun e w'=>e= .returned (.agg #[.int .i64 k,.int .i64 (-1),.int .i64 0,.slice ka n kc])∧Below wq.heap.size wq w'):=fun k ka n kc wq=>plain_any k ka n kc wq
 have HB:Hid (Below w.heap.size w w):=Below.refl _ _
 go_enter Tryz.func205,Tryz.ntmps205
 go_wp2_with fail
 refine(HP.out 10 _ _ _ _).mono ?_
 rintro e w1 ⟨rfl,hb⟩
 have hb0:Below w.heap.size w (w.alloc (.cells (kcells [⟨1,false,fdB⟩,⟨2,true,noB⟩]).toArray 55)):=(Below.refl _ _).alloc (Nat.le_refl _) _
 have HK2:Hid (KidsIn w1 (some ⟨w.heap.size,0,none⟩) [⟨1,false,fdB⟩,⟨2,true,noB⟩]):=(kids_alloc [⟨1,false,fdB⟩,⟨2,true,noB⟩] w).below hb
 have hc:Below w.heap.size w w1:=hb0.trans (hb.mono hb0.size)
 have HB:Hid (Below w.heap.size w w1):=HB.out.trans (hc.mono HB.out.size)
 clear hb hc hb0
 go_wp2_with fail
 refine(HP.out 1 _ _ _ _).mono ?_
 rintro e w2 ⟨rfl,hb⟩
 have hc:Below w1.heap.size w1 w2:=hb
 have HK2:Hid (KidsIn w2 (some ⟨w.heap.size,0,none⟩) [⟨1,false,fdB⟩,⟨2,true,noB⟩]):=HK2.out.below hc
 have HB:Hid (Below w.heap.size w w2):=HB.out.trans (hc.mono HB.out.size)
 clear hb hc
 go_wp2_with fail
 refine(HP.out 2 _ _ _ _).mono ?_
 rintro e w3 ⟨rfl,hb⟩
 have hc:Below w2.heap.size w2 w3:=hb
 have HK2:Hid (KidsIn w3 (some ⟨w.heap.size,0,none⟩) [⟨1,false,fdB⟩,⟨2,true,noB⟩]):=HK2.out.below hc
 have HB:Hid (Below w.heap.size w w3):=HB.out.trans (hc.mono HB.out.size)
 clear hb hc
 go_wp2
 go_ret
 exact⟨_,rfl,nodes_alloc [(⟨10, -1,0,[⟨1,false,fdB⟩,⟨2,true,noB⟩]⟩,some ⟨w.heap.size,0,none⟩,2),(⟨1, -1,0,[]⟩,none,0),(⟨2, -1,0,[]⟩,none,0)] w3 (nod_cons (Nat.le_refl _) (by decide) HK2.out (nod_cons (Nat.le_refl _) (by decide) (fun j hj=>absurd hj (Nat.not_lt_zero _)) (nod_cons (Nat.le_refl _) (by decide) (fun j hj=>absurd hj (Nat.not_lt_zero _)) nod_nil))),HB.out.alloc HB.out.size _⟩
def ddObj(a:Option Addr)(n c gb:Nat)(data:ByteArray)(vt:Value):Obj:= .cells #[.slice a n c,.slice (some ⟨gb,0,none⟩) n n,.string data,vt] 144 (0,0)
structure RdD(W w:World)(R:Nat)(a:Option Addr)(n c gb:Nat)(data:ByteArray)(tree:List Vl):Prop where
 bel:Below W.heap.size W w
 lo:W.heap.size≤R
 own:∃vt,w.heap[R]? =some (ddObj a n c gb data vt)∧w.ownsRow W.heap.size 60 4 vt tree.length (vcells tree)
theorem RdD.below{W w w':World}{R:Nat}{a:Option Addr}{n c gb:Nat}{data:ByteArray}{tree:List Vl}(h:RdD W w R a n c gb data tree)(hb:Below w.heap.size w w'):RdD W w' R a n c gb data tree where
 bel:=h.bel.trans (hb.mono h.bel.size)
 lo:=h.lo
 own:=by
  obtain⟨vt,h1,h2⟩:=h.own
  exact⟨vt,block_below h1 hb,own_below h2 hb⟩
theorem RdD.r0{W w:World}{R:Nat}{a:Option Addr}{n c gb:Nat}{data:ByteArray}{tree:List Vl}(h:RdD W w R a n c gb data tree):w.cell? ⟨R,0,none⟩=some (.slice a n c):=by
 obtain⟨_,_,vt,hr,_⟩:=h;unfold ddObj at hr;simp[World.cell?,hr]
theorem RdD.r1{W w:World}{R:Nat}{a:Option Addr}{n c gb:Nat}{data:ByteArray}{tree:List Vl}(h:RdD W w R a n c gb data tree):w.cell? ⟨R,1,none⟩=some (.slice (some ⟨gb,0,none⟩) n n):=by
 obtain⟨_,_,vt,hr,_⟩:=h;unfold ddObj at hr;simp[World.cell?,hr]
theorem RdD.r2{W w:World}{R:Nat}{a:Option Addr}{n c gb:Nat}{data:ByteArray}{tree:List Vl}(h:RdD W w R a n c gb data tree):w.cell? ⟨R,2,none⟩=some (.string data):=by
 obtain⟨_,_,vt,hr,_⟩:=h;unfold ddObj at hr;simp[World.cell?,hr]
theorem dd_set{W w:World}{R:Nat}{A:Array Value}{tree:List Vl}{vt:Value}(i:Nat)(u:Value)(hb:Below W.heap.size W w)(hlo:W.heap.size≤R)(hg:w.heap[R]? =some (.cells A 144 (0,0)))
 (ho:w.ownsRow W.heap.size 60 4 vt tree.length (vcells tree)):
 Below W.heap.size W (w.setCell ⟨R,i,none⟩ u)∧(w.setCell ⟨R,i,none⟩ u).heap[R]? =some (.cells (A.setIfInBounds i u) 144 (0,0))∧(w.setCell ⟨R,i,none⟩ u).ownsRow W.heap.size 60 4 vt tree.length (vcells tree):=
 ⟨hb.setCell hlo u,heap_setCell_same w R i A _ u hg,ownsRow_setCell_other ho (row_ne hg ho (by decide)) u⟩
theorem add_any(W w:World)(R:Nat)(a:Option Addr)(n c gb:Nat)(data:ByteArray)(tree:List Vl)(k:Int)(u:ByteArray)(al ki:Int)(h:RdD W w R a n c gb data tree)(hl:tree.length≤1099511627776):
 Calls Tryz.prog 162 #[.pointer (some ⟨R,0,none⟩),.agg #[.int .i64 k,.string u,.int .i64 al,.int .i64 ki]] w fun e' w'=>e'= .returned (.tuple #[])∧RdD W w' R a n c gb data (tree++[⟨k,u,al,ki⟩])∧Fr R w w':=by
 obtain⟨i0,hi0,hz0,hz1,hz2⟩:=info_parts Tryz.infoVal
 obtain⟨hb,hlo,vt,hr,ho⟩:=h
 have HB:Hid (Below W.heap.size W w):=hb
 have HO:Hid (w.ownsRow W.heap.size 60 4 vt tree.length (vcells tree)):=ho
 have HR:Hid (w.heap[R]? =some (ddObj a n c gb data vt)):=hr
 unfold ddObj at hr
 have y3:w.cell? ⟨R,3,none⟩=some vt:=by simp[World.cell?,hr]
 have f3:w.frozen? ⟨R,3,none⟩=false:=by simp[World.frozen?,hr]
 have hRl:R<w.heap.size:=lt_of_cell y3
 have hsz:W.heap.size≤w.heap.size+1+1:=by have:=hb.size;omega
 have HAP:Hid (∀g cap w3,w3.ownsRow W.heap.size 60 4 (.slice (some ⟨g,0,none⟩) (tree.length+1) cap) (tree.length+1) (vcells tree++[.int .i64 k,.string u,.int .i64 al,.int .i64 ki])→((w.alloc (.cells #[.int .i64 k,.string u,.int .i64 al,.int .i64 ki] 60)).drew.alloc (.cells #[.int .i64 k,.string u,.int .i64 al,.int .i64 ki] 60)).grownBy w3 vt.ownBlock→
  w3.cell? ⟨R,3,none⟩=some vt∧w3.frozen? ⟨R,3,none⟩=false∧RdD W (w3.setCell ⟨R,3,none⟩ (.slice (some ⟨g,0,none⟩) (tree.length+1) cap)) R a n c gb data (tree++[⟨k,u,al,ki⟩])∧Fr R w (w3.setCell ⟨R,3,none⟩ (.slice (some ⟨g,0,none⟩) (tree.length+1) cap))):=fun g cap w3 h1 h2=>by
  have old:∀j,j<w.heap.size→(some j≠vt.ownBlock)→w3.heap[j]? =w.heap[j]? :=fun j hj hne=>by
   rw[h2.block j (by simp;omega) hne,Below.heap_alloc _ _ _ (by simp;omega)]
   exact Below.heap_alloc w _ _ hj
  have hR3:w3.heap[R]? =some (ddObj a n c gb data vt):=by
   rw[old R hRl (fun q=>row_ne HR.out HO.out (by decide) q.symm)];exact HR.out
  have hb3:Below W.heap.size W w3:=by
   have hb0:Below W.heap.size W ((w.alloc (.cells #[.int .i64 k,.string u,.int .i64 al,.int .i64 ki] 60)).drew.alloc (.cells #[.int .i64 k,.string u,.int .i64 al,.int .i64 ki] 60)):=(HB.out.alloc HB.out.size _).drew.alloc (by have:=HB.out.size;simp;omega) _
   exact hb0.grown h2 hb0.size (fun k hk=>(HO.out.lt k hk).1)
  have ho3:w3.ownsRow W.heap.size 60 4 (.slice (some ⟨g,0,none⟩) (tree.length+1) cap) (tree++[(⟨k,u,al,ki⟩:Vl)]).length (vcells (tree++[(⟨k,u,al,ki⟩:Vl)])):=by rw[vcells_append,List.length_append];exact h1
  obtain⟨b1,r1,o1⟩:=dd_set 3 (.slice (some ⟨g,0,none⟩) (tree.length+1) cap) hb3 hlo hR3 ho3
  refine⟨by unfold ddObj at hR3;simp[World.cell?,hR3],by unfold ddObj at hR3;simp[World.frozen?,hR3],⟨b1,hlo,_,r1,o1⟩,fun j A T hj hT hg=>?_⟩
  rw[heap_setCell_other _ _ _ _ hj,old j (row_lt hg) (fun q=>row_ne hg HO.out hT q.symm)]
  exact hg
 clear hb ho hr
 go_enter Tryz.func162,Tryz.ntmps162
 go_wp2_with fail
 go_region_law (refine step_append_lies _ rfl (.tmp 8) (.tmp 10) 39 rfl W.heap.size 60 i0 Tryz.zeroVal 4 40 Tryz.underlying39 hi0 hz0 hz1 hz2 rfl (by decide) vt tree.length (vcells tree) (by simp[Act.eval,Act.put]) ((HO.out.alloc _).drew.alloc _) ⟨w.heap.size+1,0,none⟩ 1 1 [.int .i64 k,.string u,.int .i64 al,.int .i64 ki] (by simp[Act.eval,Act.put]) rfl (by have q:=World.news_of_block (heap_alloc_new (w.alloc (.cells #[.int .i64 k,.string u,.int .i64 al,.int .i64 ki] 60)) (.cells #[.int .i64 k,.string u,.int .i64 al,.int .i64 ki] 60));simpa using q) (by intro u hu;simp at hu;rcases hu with rfl|rfl|rfl|rfl<;>rfl) (by decide) (by unfold maxLen;omega) (by omega) (by simpa using hsz) (w.heap.size+1+1) (by simp) ?_;intro g6 cap6 w6 h61 h62 h63 h64;obtain⟨e3,q3,hI6,hF6⟩:=HAP.out g6 cap6 w6 h61 h62;have HI6:=hide hI6;have HF6:=hide hF6;clear h61 h62 h63 h64 hI6 hF6)
 all_goals
  go_simp
  go_wp2
  go_returns
  exact⟨rfl,HI6.out,HF6.out⟩
theorem notDeep_any(c n:Int)(b:Bool)(pl inn en dp:Int)(w:World)(sn:Sn→Addr)(hs:Sent w sn):
 Calls Tryz.prog 163 #[.agg #[.int .i64 c,.int .i64 n,.bool b,.int .i64 pl,.int .i64 inn,.int .i64 en],.int .i64 dp] w fun e w'=>e= .returned (if 12<dp then fault pl (sn .Deep)else .nilIface)∧Below w.heap.size w w':=by
 have cD:=hs.cDeep
 have hgl:=lt_of_cell cD
 simp only at hgl
 by_cases h:12<dp
 ·rw[if_pos h]
  have HAT:Hid (∀wq,Calls Tryz.prog 60 #[.int .i64 pl,.iface 291 (.pointer (some (sn .Deep)))] wq fun e w'=>e= .returned (fault pl (sn .Deep))∧w'=wq):=fun wq=>at_any pl _ wq
  unfold fault at HAT ⊢
  go_enter Tryz.func163,Tryz.ntmps163
  go_wp2_with fail
  refine(HAT.out _).mono ?_
  rintro e w1 ⟨rfl,rfl⟩
  go_wp2
  go_ret
  exact⟨rfl,(Below.refl _ _).alloc (Nat.le_refl _) _⟩
 ·rw[if_neg h]
  have h':dp≤12:=by omega
  clear h
  go_enter Tryz.func163,Tryz.ntmps163
  go_wp2
  go_ret
  exact⟨rfl,(Below.refl _ _).alloc (Nat.le_refl _) _⟩
def expV(c n:Int)(b:Bool)(wc wn:Int)(wb:Bool)(pl dp:Int)(sn:Sn→Addr):Value:=if¬(c=wc∧n=wn∧b=wb)then fault pl (sn .Tag)else if 12<dp then fault pl (sn .Deep)else .nilIface
theorem expect_any(c n:Int)(b:Bool)(pl inn en:Int)(wc wn:Int)(wb:Bool)(dp:Int)(w:World)(sn:Sn→Addr)(hs:Sent w sn):
 Calls Tryz.prog 116 #[.agg #[.int .i64 c,.int .i64 n,.bool b,.int .i64 pl,.int .i64 inn,.int .i64 en],.agg #[.int .i64 wc,.int .i64 wn,.bool wb],.int .i64 dp] w fun e w'=>e= .returned (expV c n b wc wn wb pl dp sn)∧Below w.heap.size w w':=by
 have cT:=hs.cTag
 have hgl:=lt_of_cell cT
 simp only at hgl
 have HS:Hid (Sent w sn):=hs
 have HB0:Hid (∀A B,Below w.heap.size w ((w.alloc A).alloc B)):=fun A B=>((Below.refl w.heap.size w).alloc (Nat.le_refl _) A).alloc (by simp) B
 by_cases q:c=wc∧n=wn∧b=wb
 ·have HE:Hid (expV c n b wc wn wb pl dp sn=if 12<dp then fault pl (sn .Deep)else .nilIface):=by show expV _ _ _ _ _ _ _ _ _=_;unfold expV;rw[if_neg (fun h=>h q)]
  obtain⟨rfl,rfl,rfl⟩:=q
  have HND:Hid (∀wq,Sent wq sn→Calls Tryz.prog 163 #[.agg #[.int .i64 c,.int .i64 n,.bool b,.int .i64 pl,.int .i64 inn,.int .i64 en],.int .i64 dp] wq fun e w'=>e= .returned (expV c n b c n b pl dp sn)∧Below wq.heap.size wq w'):=fun wq h=>by rw[HE.out];exact notDeep_any c n b pl inn en dp wq sn h
  generalize expV c n b c n b pl dp sn=r at HND HE ⊢
  clear hs
  go_enter Tryz.func116,Tryz.ntmps116
  go_wp2_with fail
  refine(HND.out _ (HS.out.below (HB0.out _ _))).mono ?_
  rintro e w1 ⟨rfl,hb1⟩
  have HB1:Hid (Below w.heap.size w w1):=(HB0.out _ _).trans (hb1.mono (HB0.out _ _).size)
  clear hb1
  go_wp2
  go_ret
  exact⟨rfl,HB1.out⟩
 ·have HE:Hid (expV c n b wc wn wb pl dp sn=fault pl (sn .Tag)):=by show expV _ _ _ _ _ _ _ _ _=_;unfold expV;rw[if_pos q]
  have HAT:Hid (∀wq,Calls Tryz.prog 60 #[.int .i64 pl,.iface 291 (.pointer (some (sn .Tag)))] wq fun e w'=>e= .returned (fault pl (sn .Tag))∧w'=wq):=fun wq=>at_any pl _ wq
  have q':(c==wc)=false∨((c==wc)=true∧(n==wn)=false)∨((c==wc)=true∧(n==wn)=true∧(b==wb)=false):=by
   by_cases q1:c=wc
   ·by_cases q2:n=wn
    ·right;right
     refine⟨by simp[q1],by simp[q2],?_⟩
     rw[beq_eq_false_iff_ne]
     exact fun q3=>q ⟨q1,q2,q3⟩
    ·right;left;exact⟨by simp[q1],by simp[q2]⟩
   ·left;simp[q1]
  rw[HE.out]
  unfold fault at HAT ⊢
  clear hs q
  rcases q' with e1|⟨e1,e2⟩|⟨e1,e2,e3⟩
  all_goals
   go_enter Tryz.func116,Tryz.ntmps116
   go_wp2_with fail
   refine(HAT.out _).mono ?_
   rintro e w1 ⟨rfl,rfl⟩
   go_wp2
   go_ret
   exact⟨rfl,HB0.out _ _⟩
theorem beg_iff{s:List Nd}{i:Nat}{all:Bool}{ts:List (Int×Int)}(h:BegIs s i all ts)(c m:Int):Beg s i c m↔(all=true∨(c,m)∈ts):=by
 obtain⟨_,h1,h2⟩:=h
 rw[h1,h2]
 unfold Beg
 constructor
 ·rintro⟨j,hj,hb⟩
  rcases(begAt_iff _ _ _).1 hb with q|⟨q1,q2⟩
  ·exact .inl ⟨j,hj,q⟩
  ·exact .inr ⟨j,hj,q1,q2⟩
 ·rintro(⟨j,hj,q⟩|⟨j,hj,q1,q2⟩)
  ·exact⟨j,hj,(begAt_iff _ _ _).2 (.inl q)⟩
  ·exact⟨j,hj,(begAt_iff _ _ _).2 (.inr ⟨q1,q2⟩)⟩
theorem has_any(s:List Nd)(gb i:Nat)(c m:Int)(w:World)(hA:AbR w gb s)(hi:i<s.length)(hn:s.length≤40):
 Calls Tryz.prog 187 #[.slice (some ⟨gb,0,none⟩) s.length s.length,.int .i64 i,.agg #[.int .i64 c,.int .i64 m]] w fun e w'=>RetO (Beg s i c m) w e w':=by
 obtain⟨all,ta,tc,ts,p1,p2,p3,p4⟩:=hA i hi
 have hi':(i:Int)<s.length:=by omega
 have hb:=beg_iff p4 c m
 have hgl:=lt_of_cell p1
 simp only at hgl
 cases all
 ·have HB:Hid (Beg s i c m↔(c,m)∈ts):=by show _↔_;rw[hb];simp
  obtain⟨r,hr⟩:=bool_of ((c,m)∈ts)
  have HR:Hid (r=true↔(c,m)∈ts):=hr
  have HB1:Hid (Below w.heap.size w (w.alloc (.cells #[.int .i64 c,.int .i64 m] 147))):=(Below.refl _ _).alloc (Nat.le_refl _) _
  have HCN:Hid (∀x:Ext (w.alloc (.cells #[.int .i64 c,.int .i64 m] 147)),Calls Tryz.prog 180 #[.slice ta ts.length tc,.agg #[.int .i64 c,.int .i64 m]] x.v fun e w''=>e= .returned (.bool r)∧∃y:Ext (w.alloc (.cells #[.int .i64 c,.int .i64 m] 147)),w''=y.v):=fun x=>
   Ext.callsR hr (contains_any ts ta tc (c,m) x.v (p3.below (Ext.bel HB1.out x)) p4.1)
  have X0:∀x:Ext (w.alloc (.cells #[.int .i64 c,.int .i64 m] 147)),x.v.cell? ⟨gb,i*2,none⟩=some (.bool false):=fun x=>x.old p1
  have X1:∀x:Ext (w.alloc (.cells #[.int .i64 c,.int .i64 m] 147)),x.v.cell? ⟨gb,i*2+1,none⟩=some (.slice ta ts.length tc):=fun x=>x.old p2
  have X2:∀x:Ext (w.alloc (.cells #[.int .i64 c,.int .i64 m] 147)),x.v.cell? ⟨w.heap.size,0,none⟩=some (.int .i64 c):=fun x=>x.new rfl
  have X3:∀x:Ext (w.alloc (.cells #[.int .i64 c,.int .i64 m] 147)),x.v.cell? ⟨w.heap.size,1,none⟩=some (.int .i64 m):=fun x=>x.new rfl
  clear hA hb hr p3 p4
  go_enter Tryz.func187,Tryz.ntmps187
  go_wp2_with fail
  (have ne:=ext_ne;refine wp_region_ext (by kernel_rfl) (by kernel_rfl) ?_;(repeat(first|go_big_quiet_skip|(go_big_quiet_want;go_big_quiet_op;first|go_big_quiet_on|(apply Exists.intro;refine⟨fun x=>?_,?_⟩;(·(exact HCN.out x));go_big_quiet_on))));refine nil_ext ?_)
  intro w5 hb5
  have HB5:Hid (Below w.heap.size w w5):=HB1.out.trans (hb5.mono HB1.out.size)
  clear X0 X1 X2 X3 hb5
  go_wp2
  go_ret
  exact reto_iff (HR.out.trans HB.out.symm) HB5.out
 ·have HB:Hid (Beg s i c m):=hb.2 (.inl rfl)
  clear hA hb p3 p4
  go_enter Tryz.func187,Tryz.ntmps187
  go_wp2_with fail
  go_quiet (fail)
  go_wp2
  go_ret
  exact reto_yes HB.out (Go.below_drewN ((Below.refl _ _).alloc (Nat.le_refl _) _) _)
theorem ex_ex(d:ByteArray)(x y:Nat)(hxy:x≤y)(hy:y≤d.size):(d.extract 0 y).extract x (d.extract 0 y).size=d.extract x y:=by
 have hs:(d.extract 0 y).size=y:=by rw[ex_size];omega
 rw[hs]
 apply ByteArray.ext
 rw[ByteArray.data_extract,ByteArray.data_extract,ByteArray.data_extract]
 apply Array.ext'
 rw[Array.toList_extract,Array.toList_extract,Array.toList_extract,List.extract_eq_take_drop,List.extract_eq_take_drop,List.extract_eq_take_drop]
 rw[List.drop_zero,Nat.sub_zero,List.drop_take,List.take_take]
 congr 1
 omega
def spanV(h:Hd)(x:Nat):Value:= .agg #[.int .i64 h.c,.int .i64 h.n,.bool h.b,.int .i64 x,.int .i64 ((x:Int)+h.s),.int .i64 ((x:Int)+h.s+h.l)]
def span0:Value:= .agg #[.int .i64 0,.int .i64 0,.bool false,.int .i64 0,.int .i64 0,.int .i64 0]
theorem open_any1(W w:World)(R:Nat)(a:Option Addr)(n c gb0:Nat)(data:ByteArray)(tree:List Vl)(x y:Nat)(sn:Sn→Addr)(h:RdD W w R a n c gb0 data tree)(hs:Sent w sn)(hxy:x≤y)(hy:y≤data.size)(hm:data.size≤140737488355328):
 Calls Tryz.prog 114 #[.pointer (some ⟨R,0,none⟩),.int .i64 x,.int .i64 y] w fun e w'=>Below w.heap.size w w'∧
  (((hd (data.extract x y)).1=0∧e= .returned (.tuple #[spanV (hd (data.extract x y)).2 x,.nilIface]))∨((hd (data.extract x y)).1≠0∧e= .returned (.tuple #[span0,errAt x sn (hd (data.extract x y)).1]))):=by
 have r2:=h.r2
 have hRl:R<w.heap.size:=lt_of_cell r2
 have hsz0:(data.extract 0 y).size=y:=by rw[ex_size];omega
 obtain⟨G,hG⟩:∃G,hd (data.extract x y)=G:=⟨_,rfl⟩
 obtain⟨ge,gc,gb,gn,gs,gl⟩:=G
 have HRD:Hid (∀wq,Sent wq sn→Calls Tryz.prog 156 #[.string (data.extract 0 y),.int .i64 x] wq fun e w'=>e= .returned (.tuple #[.agg #[.int .i64 gc,.bool gb,.int .i64 gn,.int .i64 gs,.int .i64 gl],errAt x sn ge])∧Below wq.heap.size wq w'):=fun wq q=>by
  have:=read_any (data.extract 0 y) x wq sn q (by omega) (by omega)
  rw[ex_ex data x y hxy hy,hG]at this
  exact this
 have HFO:Hid (∀wq,Calls Tryz.prog 157 #[.agg #[.int .i64 gc,.bool gb,.int .i64 gn,.int .i64 gs,.int .i64 gl]] wq fun e w'=>e= .returned (.agg #[.int .i64 gc,.int .i64 gn,.bool gb])∧Below wq.heap.size wq w'):=fun wq=>firstOf_any gc gb gn gs gl wq
 have HS:Hid (Sent w sn):=hs
 have HOKH:Hid (ge=0→1≤gs∧0≤gl∧gs+gl≤(data.extract x y).size):=fun q=>by
  have:=hd_ok (r:=data.extract x y) (by rw[hG];exact q)
  rw[hG]at this
  exact this
 have hsz1:(data.extract x y).size=y-x:=by rw[ex_size];omega
 rw[hG]
 simp only
 have hxy':(x:Int)≤y:=by omega
 have hy':(y:Int)≤data.size:=by omega
 clear hG h hs
 go_enter Tryz.func114,Tryz.ntmps114
 go_wp2_with fail
 refine(HRD.out _ (HS.out.below ((Below.refl _ _).alloc (Nat.le_refl _) _))).mono ?_
 rintro e w1 ⟨rfl,hb1⟩
 have HB1:Hid (Below w.heap.size w w1):=below_alloc hb1
 have HG1:Hid (w1.heap[w.heap.size]? =some (.cells #[.int .i64 0,.int .i64 0,.bool false,.int .i64 0,.int .i64 0,.int .i64 0] 151 (0,0))):=block_below (heap_alloc_new w _) hb1
 have hs1:w.heap.size<w1.heap.size:=row_lt HG1.out
 have z0:w1.cell? ⟨w.heap.size,0,none⟩=some (.int .i64 0):=cell_of_row HG1.out rfl
 have z1:w1.cell? ⟨w.heap.size,1,none⟩=some (.int .i64 0):=cell_of_row HG1.out rfl
 have z2:w1.cell? ⟨w.heap.size,2,none⟩=some (.bool false):=cell_of_row HG1.out rfl
 have z3:w1.cell? ⟨w.heap.size,3,none⟩=some (.int .i64 0):=cell_of_row HG1.out rfl
 have z4:w1.cell? ⟨w.heap.size,4,none⟩=some (.int .i64 0):=cell_of_row HG1.out rfl
 have z5:w1.cell? ⟨w.heap.size,5,none⟩=some (.int .i64 0):=cell_of_row HG1.out rfl
 have f0:w1.frozen? ⟨w.heap.size,0,none⟩=false:=by simp[World.frozen?,HG1.out]
 have f1:w1.frozen? ⟨w.heap.size,1,none⟩=false:=by simp[World.frozen?,HG1.out]
 have f2:w1.frozen? ⟨w.heap.size,2,none⟩=false:=by simp[World.frozen?,HG1.out]
 have f3:w1.frozen? ⟨w.heap.size,3,none⟩=false:=by simp[World.frozen?,HG1.out]
 have f4:w1.frozen? ⟨w.heap.size,4,none⟩=false:=by simp[World.frozen?,HG1.out]
 have f5:w1.frozen? ⟨w.heap.size,5,none⟩=false:=by simp[World.frozen?,HG1.out]
 clear hb1 r2
 by_cases hge:ge=0
 ·subst hge
  have e0:errAt x sn 0= .nilIface:=by unfold errAt;simp
  obtain⟨gs0,gl0,gsl⟩:=HOKH.out rfl
  have gsl':(x:Int)+gs+gl≤140737488355328:=by omega
  rw[e0]
  clear e0 HRD HS HOKH hsz0 hsz1 hxy hy hxy' hy' hm hRl
  go_upto_region 4 with fail
  have HX:Hid (Below w.heap.size w (w1.alloc (.cells #[.int .i64 gc,.bool gb,.int .i64 gn,.int .i64 gs,.int .i64 gl] 179))):=HB1.out.alloc HB1.out.size _
  have hZ:(w1.alloc (.cells #[.int .i64 gc,.bool gb,.int .i64 gn,.int .i64 gs,.int .i64 gl] 179)).heap[w.heap.size]? =some (.cells #[.int .i64 0,.int .i64 0,.bool false,.int .i64 0,.int .i64 0,.int .i64 0] 151 (0,0)):=(Below.heap_alloc w1 _ _ hs1).trans HG1.out
  have hH:(w1.alloc (.cells #[.int .i64 gc,.bool gb,.int .i64 gn,.int .i64 gs,.int .i64 gl] 179)).heap[w1.heap.size]? =some (.cells #[.int .i64 gc,.bool gb,.int .i64 gn,.int .i64 gs,.int .i64 gl] 179 (0,0)):=heap_alloc_new w1 _
  clear z0 z1 z2 z3 z4 z5 f0 f1 f2 f3 f4 f5
  generalize w1.alloc (.cells #[.int .i64 gc,.bool gb,.int .i64 gn,.int .i64 gs,.int .i64 gl] 179)=wX at HX hZ hH ⊢
  obtain⟨hb,hhb⟩:∃hb,w1.heap.size=hb:=⟨_,rfl⟩
  rw[hhb]at hH hs1 ⊢
  have hne:w.heap.size≠hb:=by omega
  clear hhb HG1 HB1
  have HZ:=hide hZ
  have HH:=hide hH
  have h3:wX.cell? ⟨hb,3,none⟩=some (.int .i64 gs):=cell_of_row hH rfl
  have hbl:hb<wX.heap.size:=row_lt hH
  clear hZ hH
  go_upto_region 5 with fail
  have HSS:Hid (∀w':World,w'.heap[hb]? =some (.cells #[.int .i64 gc,.bool gb,.int .i64 gn,.int .i64 gs,.int .i64 gl] 179 (0,0))→w'.cell? ⟨hb,0,none⟩=some (.int .i64 gc)∧w'.cell? ⟨hb,1,none⟩=some (.bool gb)∧w'.cell? ⟨hb,2,none⟩=some (.int .i64 gn)∧w'.cell? ⟨hb,3,none⟩=some (.int .i64 gs)∧w'.cell? ⟨hb,4,none⟩=some (.int .i64 gl)):=fun w' q=>⟨cell_of_row q rfl,cell_of_row q rfl,cell_of_row q rfl,cell_of_row q rfl,cell_of_row q rfl⟩
  obtain⟨p0,p1,p2,p3,p4⟩:=HSS.out _ HH.out
  clear h3
  go_region_held_law (fun w'=>w'.cell? ⟨hb,0,none⟩=some (.int .i64 gc)∧w'.cell? ⟨hb,1,none⟩=some (.bool gb)∧w'.cell? ⟨hb,2,none⟩=some (.int .i64 gn)∧w'.cell? ⟨hb,3,none⟩=some (.int .i64 gs)∧w'.cell? ⟨hb,4,none⟩=some (.int .i64 gl)) (go_keep) ((go_at_call 157;refine(HFO.out _).mono ?_;rintro e w2 ⟨rfl,hb2⟩;have hH2:=block_below (w:=wX.drew) HH.out hb2;have hZ2:=block_below (w:=wX.drew) HZ.out hb2;have HB2:=hide (HX.out.drew.trans (hb2.mono HX.out.drew.size));obtain⟨q0,q1,q2,q3,q4⟩:=HSS.out _ hH2;have hlh:=row_lt hH2;have hlz:=row_lt hZ2;clear hH2;have z0:=cell_of_row (i:=0) hZ2 rfl;have z1:=cell_of_row (i:=1) hZ2 rfl;have z2:=cell_of_row (i:=2) hZ2 rfl;have z3:=cell_of_row (i:=3) hZ2 rfl;have z4:=cell_of_row (i:=4) hZ2 rfl;have z5:=cell_of_row (i:=5) hZ2 rfl;have f0:=frozen_row (i:=0) hZ2;have f1:=frozen_row (i:=1) hZ2;have f2:=frozen_row (i:=2) hZ2;have f3:=frozen_row (i:=3) hZ2;have f4:=frozen_row (i:=4) hZ2;have f5:=frozen_row (i:=5) hZ2;clear hb2 hZ2))
  have hwr:IntKind.i64.wrap ((x:Int)+gs+gl)=(x:Int)+gs+gl:=by simp[IntKind.wrap,IntKind.bits,IntKind.signed];omega
  rw[hwr]
  clear hwr p0 p1 p2 p3 p4 q0 q1 q2 q3 q4
  go_wp2_with fail
  refine bodyPost_ret (v:= .tuple #[spanV ⟨gc,gb,gn,gs,gl⟩ x,.nilIface]) (by simp[results,Tryz.results114,go_sem,spanV,z0,z1,z2,z3,z4,z5]) rfl ?_
  refine⟨?_,by first|exact .inl ⟨rfl,rfl⟩|rfl⟩
  exact(((((HB2.out.setCell (p:=⟨w.heap.size,0,none⟩) (Nat.le_refl _) _).setCell (p:=⟨w.heap.size,1,none⟩) (Nat.le_refl _) _).setCell (p:=⟨w.heap.size,2,none⟩) (Nat.le_refl _) _).setCell (p:=⟨w.heap.size,3,none⟩) (Nat.le_refl _) _).setCell (p:=⟨w.heap.size,4,none⟩) (Nat.le_refl _) _).setCell (p:=⟨w.heap.size,5,none⟩) (Nat.le_refl _) _
 ·have HGE:Hid (ge≠0):=hge
  obtain⟨za,hv⟩:∃za,errAt x sn ge=fault x za:=by
   unfold errAt
   rw[if_neg hge]
   repeat' split
   all_goals exact⟨_,rfl⟩
  have HV:Hid (errAt x sn ge=fault x za):=hv
  rw[hv]
  unfold fault
  clear hge hv HFO HRD HS HOKH hsz0 hsz1 hxy hy hxy' hy' hm hRl
  go_upto_region 3 with fail
  have HX:Hid (Below w.heap.size w (w1.alloc (.cells #[.int .i64 gc,.bool gb,.int .i64 gn,.int .i64 gs,.int .i64 gl] 179))):=HB1.out.alloc HB1.out.size _
  have hZ:(w1.alloc (.cells #[.int .i64 gc,.bool gb,.int .i64 gn,.int .i64 gs,.int .i64 gl] 179)).heap[w.heap.size]? =some (.cells #[.int .i64 0,.int .i64 0,.bool false,.int .i64 0,.int .i64 0,.int .i64 0] 151 (0,0)):=(Below.heap_alloc w1 _ _ hs1).trans HG1.out
  clear z0 z1 z2 z3 z4 z5 f0 f1 f2 f3 f4 f5
  generalize w1.alloc (.cells #[.int .i64 gc,.bool gb,.int .i64 gn,.int .i64 gs,.int .i64 gl] 179)=wX at HX hZ ⊢
  have z0:wX.cell? ⟨w.heap.size,0,none⟩=some (.int .i64 0):=cell_of_row hZ rfl
  have z1:wX.cell? ⟨w.heap.size,1,none⟩=some (.int .i64 0):=cell_of_row hZ rfl
  have z2:wX.cell? ⟨w.heap.size,2,none⟩=some (.bool false):=cell_of_row hZ rfl
  have z3:wX.cell? ⟨w.heap.size,3,none⟩=some (.int .i64 0):=cell_of_row hZ rfl
  have z4:wX.cell? ⟨w.heap.size,4,none⟩=some (.int .i64 0):=cell_of_row hZ rfl
  have z5:wX.cell? ⟨w.heap.size,5,none⟩=some (.int .i64 0):=cell_of_row hZ rfl
  have f0:wX.frozen? ⟨w.heap.size,0,none⟩=false:=by simp[World.frozen?,hZ]
  have f1:wX.frozen? ⟨w.heap.size,1,none⟩=false:=by simp[World.frozen?,hZ]
  have f2:wX.frozen? ⟨w.heap.size,2,none⟩=false:=by simp[World.frozen?,hZ]
  have f3:wX.frozen? ⟨w.heap.size,3,none⟩=false:=by simp[World.frozen?,hZ]
  have f4:wX.frozen? ⟨w.heap.size,4,none⟩=false:=by simp[World.frozen?,hZ]
  have f5:wX.frozen? ⟨w.heap.size,5,none⟩=false:=by simp[World.frozen?,hZ]
  clear hZ hs1
  go_wp2_with fail
  refine bodyPost_ret (v:= .tuple #[span0,fault x za]) (by simp[results,Tryz.results114,go_sem,span0,fault,z0,z1,z2,z3,z4,z5]) rfl ?_
  refine⟨?_,.inr ⟨HGE.out,by rw[HV.out]⟩⟩
  exact(((((HX.out.setCell (p:=⟨w.heap.size,0,none⟩) (Nat.le_refl _) _).setCell (p:=⟨w.heap.size,1,none⟩) (Nat.le_refl _) _).setCell (p:=⟨w.heap.size,2,none⟩) (Nat.le_refl _) _).setCell (p:=⟨w.heap.size,3,none⟩) (Nat.le_refl _) _).setCell (p:=⟨w.heap.size,4,none⟩) (Nat.le_refl _) _).setCell (p:=⟨w.heap.size,5,none⟩) (Nat.le_refl _) _
structure PC(E:Env)(W:World)(a:Option Addr)(gb:Nat)(sn:Sn→Addr):Prop where
 sch:Sch W a E.s
 right:RightP E.s
 sok:SchOk E.s
 bg:∀i,i<E.s.length→∀c m,E.bg i c m=true↔Beg E.s i c m
 ok:∀k t,E.ok k t=true↔ContentOk k t
 size:E.d.size≤4000
 ab:AbR W gb E.s
 lay:Lay W sn
def AfterD(E:Env)(W:World)(R:Nat)(a:Option Addr)(c gb:Nat)(sn:Sn→Addr)(o:Out)(tree:List Vl)(w:World)(e:Ending)(w':World):Prop:=
 Fr R w w'∧((∃vs z,o= .ok (vs,z)∧e= .returned .nilIface∧RdD W w' R a E.s.length c gb E.d (tree++vs))∨
  ∃k q tree',o= .error (k,q)∧e= .returned (fault q (sn (snOf k)))∧RdD W w' R a E.s.length c gb E.d tree')
theorem AfterD.of{E:Env}{W:World}{R:Nat}{a:Option Addr}{c gb:Nat}{sn:Sn→Addr}{o:Out}{tree:List Vl}{w w1 w':World}{e:Ending}(h:AfterD E W R a c gb sn o tree w1 e w')(hf:Fr R w w1):AfterD E W R a c gb sn o tree w e w':=⟨hf.trans h.1,h.2⟩
def NodeP(E:Env)(W:World)(R:Nat)(a:Option Addr)(c gb:Nat)(sn:Sn→Addr)(f:Nat):Prop:=
 ∀(i x y:Nat) (g:Hd) (dp:Int) (o:Out) (tree:List Vl) (w:World),E.hd x y=(0,g)→rdF E f i x y dp=some o→i<E.s.length→x≤y→y≤E.d.size→1≤dp→dp≤13→Room tree f x y→RdD W w R a E.s.length c gb E.d tree→
  Calls Tryz.prog 78 #[.pointer (some ⟨R,0,none⟩),.int .i64 i,.int .i64 dp,spanV g x] w fun e w'=>AfterD E W R a c gb sn o tree w e w'
abbrev spCells(g:Hd)(x:Nat):Array Value:=#[.int .i64 g.c,.int .i64 g.n,.bool g.b,.int .i64 x,.int .i64 ((x:Int)+g.s),.int .i64 ((x:Int)+g.s+g.l)]
theorem any_any(E:Env)(W:World)(R:Nat)(a:Option Addr)(c gb:Nat)(sn:Sn→Addr)(hc:PC E W a gb sn)(g:Hd)(x tz:Nat)(dp:Int)(tree:List Vl)(w:World)(htz:(tz:Int)=(x:Int)+g.s+g.l)(hxz:x≤tz)(hz:tz≤E.d.size)(hroom:tree.length≤1099511627776)(hI:RdD W w R a E.s.length c gb E.d tree):
 Calls Tryz.prog 159 #[.pointer (some ⟨R,0,none⟩),.int .i64 dp,spanV g x] w fun e w'=>AfterD E W R a c gb sn (if 12<dp then .error (10,x)else .ok ([⟨14,E.d.extract x tz,0,0⟩],tz)) tree w e w':=by
 have HI:Hid (RdD W w R a E.s.length c gb E.d tree):=hI
 have HND:Hid (∀wq,Below w.heap.size w wq→Calls Tryz.prog 163 #[.agg (spCells g x),.int .i64 dp] wq fun e w'=>e= .returned (if 12<dp then fault x (sn .Deep)else .nilIface)∧Below wq.heap.size wq w'):=fun wq q=>notDeep_any _ _ _ _ _ _ _ wq sn ((hc.lay.below hI.bel).below q).s
 have HAD:Hid (∀wq,RdD W wq R a E.s.length c gb E.d tree→Calls Tryz.prog 162 #[.pointer (some ⟨R,0,none⟩),.agg #[.int .i64 14,.string (E.d.extract x tz),.int .i64 0,.int .i64 0]] wq fun e' w'=>e'= .returned (.tuple #[])∧RdD W w' R a E.s.length c gb E.d (tree++[⟨14,E.d.extract x tz,0,0⟩])∧Fr R wq w'):=fun wq q=>add_any W wq R a _ c gb E.d tree 14 _ 0 0 q hroom
 have hRl:R<w.heap.size:=lt_of_cell hI.r0
 have hds:=hc.size
 unfold spanV
 rw[←htz]
 unfold spCells at HND
 rw[←htz]at HND
 clear hI hc hroom htz
 by_cases hdp:12<dp
 ·rw[if_pos hdp]
  have HND':Hid (∀wq,Below w.heap.size w wq→Calls Tryz.prog 163 #[.agg #[.int .i64 g.c,.int .i64 g.n,.bool g.b,.int .i64 x,.int .i64 ((x:Int)+g.s),.int .i64 tz],.int .i64 dp] wq fun e w'=>e= .returned (fault x (sn .Deep))∧Below wq.heap.size wq w'):=fun wq q=>by
   have:=HND.out wq q
   rw[if_pos hdp]at this
   exact this
  unfold fault at HND'
  clear HND hdp
  go_enter Tryz.func159,Tryz.ntmps159
  go_wp2_with fail
  refine(HND'.out _ ((Below.refl _ _).alloc (Nat.le_refl _) _)).mono ?_
  rintro e w1 ⟨rfl,hb1⟩
  have HB1:Hid (Below w.heap.size w w1):=below_alloc hb1
  clear hb1
  go_wp2
  go_ret
  exact⟨Fr.of_below HB1.out,.inr ⟨10,x,tree,rfl,rfl,HI.out.below HB1.out⟩⟩
 ·rw[if_neg hdp]
  have HND':Hid (∀wq,Below w.heap.size w wq→Calls Tryz.prog 163 #[.agg #[.int .i64 g.c,.int .i64 g.n,.bool g.b,.int .i64 x,.int .i64 ((x:Int)+g.s),.int .i64 tz],.int .i64 dp] wq fun e w'=>e= .returned .nilIface∧Below wq.heap.size wq w'):=fun wq q=>by
   have:=HND.out wq q
   rw[if_neg hdp]at this
   exact this
  clear HND hdp
  have hxz':(x:Int)≤tz:=by omega
  have hz':(tz:Int)≤E.d.size:=by omega
  go_enter Tryz.func159,Tryz.ntmps159
  go_wp2_with fail
  refine(HND'.out _ ((Below.refl _ _).alloc (Nat.le_refl _) _)).mono ?_
  rintro e w1 ⟨rfl,hb1⟩
  have HB1:Hid (Below w.heap.size w w1):=below_alloc hb1
  have HG1:Hid (w1.heap[w.heap.size]? =some (.cells #[.int .i64 g.c,.int .i64 g.n,.bool g.b,.int .i64 x,.int .i64 ((x:Int)+g.s),.int .i64 tz] 151 (0,0))):=block_below (heap_alloc_new w _) hb1
  have HI1:Hid (RdD W w1 R a E.s.length c gb E.d tree):=HI.out.below HB1.out
  clear hb1
  have q1:w1.cell? ⟨R,2,none⟩=some (.string E.d):=HI1.out.r2
  have q2:w1.cell? ⟨w.heap.size,3,none⟩=some (.int .i64 x):=cell_of_row HG1.out rfl
  have q3:w1.cell? ⟨w.heap.size,5,none⟩=some (.int .i64 tz):=cell_of_row HG1.out rfl
  have hR1:R<w1.heap.size:=lt_of_cell q1
  have hB1:w.heap.size<w1.heap.size:=lt_of_cell q2
  have hne:w.heap.size≠R:=by omega
  go_upto_region 4 with fail
  go_region_held_law (fun w'=>w'.cell? ⟨R,2,none⟩=some (.string E.d)∧w'.cell? ⟨w.heap.size,3,none⟩=some (.int .i64 x)∧w'.cell? ⟨w.heap.size,5,none⟩=some (.int .i64 tz)) (go_keep) ((go_at_call 162;refine(HAD.out _ (HI1.out.below (Below.refl _ _).drew)).mono ?_;rintro e w3 ⟨rfl,hI3,hF3⟩;have p1:=hI3.r2;have hG3:=hF3 _ _ _ hne (by decide) HG1.out;have p2:w3.cell? ⟨w.heap.size,3,none⟩=some (.int .i64 x):=cell_of_row hG3 rfl;have p3:w3.cell? ⟨w.heap.size,5,none⟩=some (.int .i64 tz):=cell_of_row hG3 rfl;have HI3:=hide hI3;have HF3:Hid (Fr R w w3):=(Fr.of_below (HB1.out.drew)).trans hF3;clear hI3 hF3 hG3))
  go_wp2
  go_ret
  exact⟨HF3.out,.inl ⟨_,_,rfl,rfl,HI3.out⟩⟩
abbrev ndCells(n:Nd)(ka:Option Addr)(kc:Nat):Array Value:=#[.int .i64 n.kind,.int .i64 n.tag,.int .i64 n.mode,.slice ka n.kids.length kc]
theorem choice_p(E:Env)(W:World)(R:Nat)(a:Option Addr)(c gb:Nat)(sn:Sn→Addr)(f:Nat)(hc:PC E W a gb sn)(hN:NodeP E W R a c gb sn f)(i:Nat)(hi:i<E.s.length)(ka:Option Addr)(kc:Nat)(hka:KidsIn W ka (nd E.s i).kids)(hkc:(nd E.s i).kids.length≤kc)
 (g:Hd)(x tz:Nat)(dp:Int)(o:Out)(tree:List Vl)(w:World)(hg:E.hd x tz=(0,g))(hm:choiceF E (rdF E f) g x tz dp (nd E.s i).kids 0=some o)(hxz:x≤tz)(hz:tz≤E.d.size)(hd1:1≤dp)(hd2:dp≤13)(hroom:Room tree (f+1) x tz)(hI:RdD W w R a E.s.length c gb E.d tree):
 Calls Tryz.prog 158 #[.pointer (some ⟨R,0,none⟩),.agg (ndCells (nd E.s i) ka kc),.int .i64 dp,spanV g x] w fun e w'=>AfterD E W R a c gb sn o tree w e w':=by
 have HC:Hid (PC E W a gb sn):=hc
 have HN:Hid (NodeP E W R a c gb sn f):=hN
 have HG:Hid (E.hd x tz=(0,g)):=hg
 have HKI:Hid (KidsIn W ka (nd E.s i).kids):=hka
 have HM:Hid (choiceF E (rdF E f) g x tz dp ((nd E.s i).kids.drop 0) 0=some o):=hm
 have HI:Hid (RdD W w R a E.s.length c gb E.d tree):=hI
 have hRl:R<w.heap.size:=lt_of_cell hI.r0
 have HRO:Hid (Room tree (f+1) x tz):=hroom
 have HKR:Hid (∀j,j<(nd E.s i).kids.length→∃t:Nat,(kd (nd E.s i) j).node=t∧t<E.s.length):=fun j hj=>by
  have:=hc.right.fine.within i hi _ (kd_mem hj)
  exact⟨(kd (nd E.s i) j).node.toNat,by omega,by omega⟩
 have hk8:=hc.right.fine.eight i hi
 have hs40:=hc.right.fine.len
 have HAT:Hid (∀wq,Calls Tryz.prog 60 #[.int .i64 x,.iface 291 (.pointer (some (sn .Tag)))] wq fun e w'=>e= .returned (fault x (sn .Tag))∧w'=wq):=fun wq=>at_any x _ wq
 unfold fault at HAT
 have HA:Hid (∀A B,Below w.heap.size w ((w.alloc A).alloc B)):=fun A B=>((Below.refl w.heap.size w).alloc (Nat.le_refl _) A).alloc (by simp) B
 clear hc hN hka hm hI hroom hi hg
 unfold spanV ndCells
 go_enter Tryz.func158,Tryz.ntmps158
 go_wp2
 generalize hW0:(w.alloc (.cells #[.int .i64 (nd E.s i).kind,.int .i64 (nd E.s i).tag,.int .i64 (nd E.s i).mode,.slice ka (nd E.s i).kids.length kc] 58)).alloc (.cells #[.int .i64 g.c,.int .i64 g.n,.bool g.b,.int .i64 x,.int .i64 ((x:Int)+g.s),.int .i64 ((x:Int)+g.s+g.l)] 151)=w0
 have HB0:Hid (Below w.heap.size w w0):=by show Below w.heap.size w w0;rw[←hW0];exact HA.out _ _
 have HG2:Hid (w0.heap[w.heap.size+1]? =some (.cells (spCells g x) 151 (0,0))):=by
  show w0.heap[w.heap.size+1]? =_
  rw[←hW0]
  have q:=heap_alloc_new (w.alloc (.cells #[.int .i64 (nd E.s i).kind,.int .i64 (nd E.s i).tag,.int .i64 (nd E.s i).mode,.slice ka (nd E.s i).kids.length kc] 58)) (.cells (spCells g x) 151)
  simpa using q
 have HI0:Hid (RdD W w0 R a E.s.length c gb E.d tree):=HI.out.below HB0.out
 clear hW0 HA
 go_loopw [14] (fun vj wq=>∃j:Nat,j≤(nd E.s i).kids.length∧vj= .int .i64 j∧choiceF E (rdF E f) g x tz dp ((nd E.s i).kids.drop j) j=some o∧Below w0.heap.size w0 wq) (fun vj _=>(nd E.s i).kids.length-(intOf vj).toNat)
 case atStart=>exact⟨0,Nat.zero_le _,rfl,HM.out,Below.refl _ _⟩
 case round=>
  obtain⟨j,hj,rfl,hmj,hbr⟩:=hrel
  have HMJ:Hid (choiceF E (rdF E f) g x tz dp ((nd E.s i).kids.drop j) j=some o):=hmj
  have HB:Hid (Below w0.heap.size w0 wr):=hbr
  have HIr:Hid (RdD W wr R a E.s.length c gb E.d tree):=HI0.out.below hbr
  have HFr:Hid (Fr R w wr):=(Fr.of_below HB0.out).below hbr
  have HR2:Hid (wr.heap[w.heap.size+1]? =some (.cells (spCells g x) 151 (0,0))):=block_below HG2.out hbr
  have hB2:w.heap.size+1<wr.heap.size:=row_lt HR2.out
  clear hmj hbr
  by_cases hlt:j<(nd E.s i).kids.length
  ·have hlt':(j:Int)<(nd E.s i).kids.length:=by omega
   obtain⟨kb,ko,rfl,kcl⟩:=HKI.out j hlt
   obtain⟨t,ht,htl⟩:=HKR.out j hlt
   obtain⟨k1,k2,k3⟩:=kcl.below HIr.out.bel
   obtain⟨ko2,hko2⟩:∃b,((nd E.s i).kids.getD j kd0).opt=b:=⟨_,rfl⟩
   obtain⟨kd2,hkd2⟩:∃b,((nd E.s i).kids.getD j kd0).dflt=b:=⟨_,rfl⟩
   have ht2:((nd E.s i).kids.getD j kd0).node=t:=ht
   rw[ht2]at k1
   rw[hko2]at k2
   rw[hkd2]at k3
   have htn:(kd (nd E.s i) j).node.toNat=t:=by omega
   have HT:Hid ((kd (nd E.s i) j).node.toNat=t):=htn
   have hkbl:kb<wr.heap.size:=lt_of_cell k1
   clear kcl ht htn ht2 hko2 hkd2
   go_upto_region 4 with fail
   generalize hW4:wr.alloc (.cells #[.int .i64 t,.bool ko2,.string kd2] 55)=w4
   have HB4:Hid (Below wr.heap.size wr w4):=by show Below wr.heap.size wr w4;rw[←hW4];exact(Below.refl _ _).alloc (Nat.le_refl _) _
   have HK4:Hid (w4.heap[wr.heap.size]? =some (.cells #[.int .i64 t,.bool ko2,.string kd2] 55 (0,0))):=by show w4.heap[wr.heap.size]? =_;rw[←hW4];exact heap_alloc_new wr _
   have HS4:Hid (w4.heap[w.heap.size+1]? =some (.cells (spCells g x) 151 (0,0))):=block_below HR2.out HB4.out
   have HI4:Hid (RdD W w4 R a E.s.length c gb E.d tree):=HIr.out.below HB4.out
   clear hW4 k1 k2 k3
   have HBG:Hid (∀x:Ext w4,Calls Tryz.prog 187 #[.slice (some ⟨gb,0,none⟩) E.s.length E.s.length,.int .i64 t,.agg #[.int .i64 g.c,.int .i64 g.n]] x.v fun e w''=>e= .returned (.bool (E.bg t g.c g.n))∧∃y:Ext w4,w''=y.v):=fun x=>
    Ext.callsR (HC.out.bg t htl g.c g.n) (has_any E.s gb t g.c g.n x.v (HC.out.ab.below (HI4.out.bel.trans (x.h.mono HI4.out.bel.size))) htl hs40)
   have X0:∀x:Ext w4,x.v.cell? ⟨R,1,none⟩=some (.slice (some ⟨gb,0,none⟩) E.s.length E.s.length):=fun x=>x.cell HI4.out.r1
   have X2:∀x:Ext w4,x.v.cell? ⟨wr.heap.size,0,none⟩=some (.int .i64 t):=fun x=>x.cell (cell_of_row HK4.out rfl)
   have X3:∀y:Ext w4,y.v.cell? ⟨w.heap.size+1,0,none⟩=some (.int .i64 g.c):=fun y=>y.cell (cell_of_row HS4.out rfl)
   have X4:∀y:Ext w4,y.v.cell? ⟨w.heap.size+1,1,none⟩=some (.int .i64 g.n):=fun y=>y.cell (cell_of_row HS4.out rfl)
   (have ne:=ext_ne;refine wp_region_ext (by kernel_rfl) (by kernel_rfl) ?_;(repeat(first|go_big_quiet_skip|(go_big_quiet_want;go_big_quiet_op;first|go_big_quiet_on|(apply Exists.intro;refine⟨fun x=>?_,?_⟩;(·(exact HBG.out x));go_big_quiet_on))));refine nil_ext ?_)
   intro w5 hb5
   have HB5:Hid (Below wr.heap.size wr w5):=HB4.out.trans (hb5.mono HB4.out.size)
   have HI5:Hid (RdD W w5 R a E.s.length c gb E.d tree):=HI4.out.below hb5
   have HF5:Hid (Fr R w w5):=HFr.out.below HB5.out
   have HK5:Hid (w5.heap[wr.heap.size]? =some (.cells #[.int .i64 t,.bool ko2,.string kd2] 55 (0,0))):=block_below HK4.out hb5
   have HS5:Hid (w5.heap[w.heap.size+1]? =some (.cells (spCells g x) 151 (0,0))):=block_below HS4.out hb5
   clear X0 X2 X3 X4 hb5 HBG HB4 HK4 HS4 HI4
   cases hbg:E.bg t g.c g.n
   ·have HNX:Hid (choiceF E (rdF E f) g x tz dp ((nd E.s i).kids.drop (j+1)) (j+1)=some o):=choiceF_no hlt HMJ.out (by rw[HT.out];exact hbg)
    clear hbg
    go_wp2
    go_roundw
    case rel=>exact⟨j+1,by omega,by go_num,HNX.out,HB.out.trans (HB5.out.mono HB.out.size)⟩
    case measure=>simp[intOf];omega
   ·obtain⟨o',hr,ho⟩:=choiceF_yes hlt HMJ.out (by rw[HT.out];exact hbg)
    rw[HT.out]at hr
    have HREC:Hid (rdF E f t x tz dp=some o'):=hr
    have HO:Hid ((∃u,o'= .error u∧o= .error u)∨∃vs z,o'= .ok (vs,z)∧o= .ok (⟨13,noB,j,1⟩::vs,tz)):=ho
    clear hbg hr ho
    have hl1:tree.length≤1099511627776:=by have:=HRO.out;unfold Room at this;omega
    have HRO2:Hid (Room (tree++[⟨13,⟨#[]⟩,(j:Int),1⟩]) f x tz):=by show Room _ _ _ _;have:=HRO.out;unfold Room at this ⊢;simp only[List.length_append,List.length_cons,List.length_nil];omega
    have hkl:wr.heap.size<w5.heap.size:=row_lt HK5.out
    have hne1:wr.heap.size≠R:=by have:=HB0.out.size;have:=HB.out.size;omega
    have hne2:w.heap.size+1≠R:=by omega
    go_wp2_with fail
    refine(add_any W _ R a E.s.length c gb E.d tree 13 ⟨#[]⟩ j 1 HI5.out hl1).mono ?_
    rintro e w6 ⟨rfl,hI6,hf6⟩
    have HI6:Hid (RdD W w6 R a E.s.length c gb E.d (tree++[⟨13,⟨#[]⟩,(j:Int),1⟩])):=hI6
    have HF6:Hid (Fr R w w6):=HF5.out.trans hf6
    have hK6:=hf6 _ _ _ hne1 (by decide) HK5.out
    have hS6:=hf6 _ _ _ hne2 (by decide) HS5.out
    have m0:w6.cell? ⟨wr.heap.size,0,none⟩=some (.int .i64 t):=cell_of_row hK6 rfl
    have s0:w6.cell? ⟨w.heap.size+1,0,none⟩=some (.int .i64 g.c):=cell_of_row hS6 rfl
    have s1:w6.cell? ⟨w.heap.size+1,1,none⟩=some (.int .i64 g.n):=cell_of_row hS6 rfl
    have s2:w6.cell? ⟨w.heap.size+1,2,none⟩=some (.bool g.b):=cell_of_row hS6 rfl
    have s3:w6.cell? ⟨w.heap.size+1,3,none⟩=some (.int .i64 x):=cell_of_row hS6 rfl
    have s4:w6.cell? ⟨w.heap.size+1,4,none⟩=some (.int .i64 ((x:Int)+g.s)):=cell_of_row hS6 rfl
    have s5:w6.cell? ⟨w.heap.size+1,5,none⟩=some (.int .i64 ((x:Int)+g.s+g.l)):=cell_of_row hS6 rfl
    clear hI6 hf6 hK6 hS6
    go_wp2_with fail
    refine(HN.out t x tz g dp o' _ _ HG.out HREC.out htl hxz hz hd1 hd2 HRO2.out HI6.out).mono ?_
    rintro e w7 ha7
    have HA7:Hid (AfterD E W R a c gb sn o' (tree++[⟨13,⟨#[]⟩,(j:Int),1⟩]) w6 e w7):=ha7
    clear ha7 m0 s0 s1 s2 s3 s4 s5
    have HFIN:Hid (∀e,AfterD E W R a c gb sn o' (tree++[⟨13,⟨#[]⟩,(j:Int),1⟩]) w6 e w7→AfterD E W R a c gb sn o tree w e w7):=fun e q=>by
     obtain⟨q1,q2⟩:=q
     refine⟨HF6.out.trans q1,?_⟩
     rcases HO.out with⟨u,hu,ho⟩|⟨vs,z,hu,ho⟩
     ·rcases q2 with⟨vs,z,q3,_⟩|⟨k,q,tr,q3,q4,q5⟩
      ·rw[hu]at q3;cases q3
      ·exact .inr ⟨k,q,tr,by rw[ho,←hu,q3],q4,q5⟩
     ·rcases q2 with⟨vs',z',q3,q4,q5⟩|⟨k,q,tr,q3,_⟩
      ·rw[hu]at q3
       cases q3
       refine .inl ⟨_,_,ho,q4,?_⟩
       rw[List.append_assoc]at q5
       exact q5
      ·rw[hu]at q3;cases q3
    have hcase:(e= .returned .nilIface)∨∃q z,e= .returned (fault q z):=by
     rcases HA7.out.2 with⟨_,_,_,q4,_⟩|⟨k,q,_,_,q4,_⟩
     ·exact .inl q4
     ·exact .inr ⟨q,_,q4⟩
    rcases hcase with rfl|⟨q,za,rfl⟩
    ·go_wp2
     go_ret
     exact HFIN.out _ HA7.out
    ·unfold fault
     go_wp2
     go_ret
     exact HFIN.out _ HA7.out
  ·have hlt':¬(j:Int)<(nd E.s i).kids.length:=by omega
   have ho:o= .error (4,(x:Int)):=by
    have q:=HMJ.out
    rw[List.drop_eq_nil_of_le (by omega)]at q
    unfold choiceF at q
    cases q
    rfl
   have HO:Hid (o= .error (4,(x:Int))):=ho
   have cT:=(HC.out.lay.below HIr.out.bel).s.cTag
   have hgl:=lt_of_cell cT
   simp only at hgl
   have s3:wr.cell? ⟨w.heap.size+1,3,none⟩=some (.int .i64 x):=cell_of_row HR2.out rfl
   clear ho
   go_wp2_with fail
   refine(HAT.out _).mono ?_
   rintro e w6 ⟨rfl,rfl⟩
   go_wp2
   go_ret
   exact⟨HFr.out,.inr ⟨4,x,tree,HO.out,rfl,HIr.out⟩⟩
theorem RdD.r3{W w:World}{R:Nat}{a:Option Addr}{n c gb:Nat}{data:ByteArray}{tree:List Vl}(h:RdD W w R a n c gb data tree):∃va vc,w.cell? ⟨R,3,none⟩=some (.slice va tree.length vc):=by
 obtain⟨_,_,vt,hr,ho⟩:=h
 obtain⟨va,vc,rfl,_⟩:=own_form ho
 unfold ddObj at hr
 exact⟨va,vc,by simp[World.cell?,hr]⟩
theorem RdD.bump{W w:World}{R:Nat}{a:Option Addr}{n c gb:Nat}{data:ByteArray}{tree acc:List Vl}{v:Vl}(h:RdD W w R a n c gb data (tree++v::acc)):
 ∃g cap,w.cell? ⟨R,3,none⟩=some (.slice (some ⟨g,0,none⟩) (tree++v::acc).length cap)∧w.cell? ⟨g,tree.length*4+3,none⟩=some (.int .i64 v.kids)∧w.frozen? ⟨g,tree.length*4+3,none⟩=false∧
  ∀k:Int,RdD W (w.setCell ⟨g,tree.length*4+3,none⟩ (.int .i64 k)) R a n c gb data (tree++⟨v.kind,v.text,v.alt,k⟩::acc)∧Fr R w (w.setCell ⟨g,tree.length*4+3,none⟩ (.int .i64 k)):=by
 obtain⟨hb,hlo,vt,hr,ho⟩:=h
 obtain⟨g,cap,rfl⟩:∃g cap,vt= .slice (some ⟨g,0,none⟩) (tree++v::acc).length cap:=by
  obtain⟨g,cap,q⟩:=ho.form (by simp only[List.length_append,List.length_cons];omega)
  exact⟨g,cap,q.1⟩
 have hgR:g≠R:=fun q=>row_ne hr ho (by decide) (by simp[Value.ownBlock,q])
 have hlt:=(ho.lt g rfl)
 have hT:∃cur,w.heap[g]? =some (.cells cur 60 (0,0)):=by
  rcases ho.2 with⟨q,_⟩|⟨g',cap',cur,q,_,q2,_⟩
  ·cases q
  ·injection q with q;injection q with q;injection q with q;subst q;exact⟨cur,q2⟩
 refine⟨g,cap,?_,?_,?_,fun k=>⟨⟨hb.setCell hlt.1 _,hlo,.slice (some ⟨g,0,none⟩) (tree++v::acc).length cap,?_,?_⟩,?_⟩⟩
 ·unfold ddObj at hr;simp[World.cell?,hr]
 ·rw[ho.cellAt _ (by simp only[List.length_append,List.length_cons];omega)];exact vcells_at tree v acc
 ·exact ho.frozenAt _
 ·rw[heap_setCell_other _ _ _ _ (Ne.symm hgR)];exact hr
 ·have:=(ho.stored (tree.length*4+3) (.int .i64 k)).1
  rw[vcells_set]at this
  simpa using this
 ·intro j A T hj hTn hA
  obtain⟨cur,hcur⟩:=hT
  have hne:j≠g:=fun q=>by
   subst q;rw[hcur]at hA;injection hA with hA;injection hA with _ q _;exact hTn q.symm
  rw[heap_setCell_other _ _ _ _ hne];exact hA
theorem rdF_head_err{E:Env}{f i x y:Nat}{dp:Int}{o:Out}(e:rdF E f i x y dp=some o)(h:(E.hd x y).1≠0):o= .error ((E.hd x y).1,(x:Int)):=by
 cases f with
 |zero=>cases e
 |succ f=>unfold rdF at e;rw[if_pos h]at e;exact(Option.some.inj e).symm
def ManyP(E:Env)(W:World)(R:Nat)(a:Option Addr)(c gb f:Nat)(kset:Bool)(t x tz:Nat)(dp kind:Int)(o:Except (Int×Int) (Nat×List Vl))(tree:List Vl)(x':Nat)(last:ByteArray)(wq:World):Prop:=
 ∃(m j:Nat) (acc:List Vl),manyF E (rdF E f) kset t tz (dp+1) m x' last j acc=some o∧RdD W wq R a E.s.length c gb E.d (tree++⟨kind,⟨#[]⟩,0,(j:Int)⟩::acc)∧acc.length≤100*(x'-x)∧j≤x'-x
theorem list_p(E:Env)(W:World)(R:Nat)(a:Option Addr)(c gb:Nat)(sn:Sn→Addr)(f:Nat)(hc:PC E W a gb sn)(hN:NodeP E W R a c gb sn f)(i:Nat)(hi:i<E.s.length)(hk:(nd E.s i).kind=11∨(nd E.s i).kind=12)(ka:Option Addr)(kc:Nat)(hka:KidsIn W ka (nd E.s i).kids)(hkc:(nd E.s i).kids.length≤kc)
 (g:Hd)(x0 x tz m:Nat)(dp:Int)(o:Except (Int×Int) (Nat×List Vl))(tree:List Vl)(w:World)(hx0:(x:Int)=(x0:Int)+g.s)(htz:(tz:Int)=(x0:Int)+g.s+g.l)(hm:manyF E (rdF E f) (decide ((nd E.s i).kind=12)) (kd (nd E.s i) 0).node.toNat tz (dp+1) m x noB 0 []=some o)(hxz:x≤tz)(hz:tz≤E.d.size)(hd1:1≤dp)(hd2:dp≤12)(hroom:Room tree (f+1) x tz)(hI:RdD W w R a E.s.length c gb E.d tree):
 Calls Tryz.prog 161 #[.pointer (some ⟨R,0,none⟩),.agg (ndCells (nd E.s i) ka kc),.int .i64 dp,spanV g x0] w fun e w'=>AfterD E W R a c gb sn (OutM (nd E.s i).kind tz o) tree w e w':=by
 have HC:Hid (PC E W a gb sn):=hc
 have HN:Hid (NodeP E W R a c gb sn f):=hN
 have HI:Hid (RdD W w R a E.s.length c gb E.d tree):=hI
 have hRl:R<w.heap.size:=lt_of_cell hI.r0
 have HRO:Hid (Room tree (f+1) x tz):=hroom
 have h1:=hc.right.fine.one i hi hk
 obtain⟨kb,ko,rfl,kcl⟩:=hka 0 (by omega)
 have hkr:=hc.right.fine.within i hi _ (kd_mem (n:=nd E.s i) (i:=0) (by omega))
 obtain⟨t,ht⟩:∃t:Nat,(kd (nd E.s i) 0).node=t:=⟨(kd (nd E.s i) 0).node.toNat,by omega⟩
 have htl:t<E.s.length:=by omega
 have htn:(kd (nd E.s i) 0).node.toNat=t:=by omega
 have k0:W.cell? ⟨kb,ko,none⟩=some (.int .i64 t):=by rw[←ht];have:=kcl.node;rw[Nat.zero_mul,Nat.add_zero]at this;exact this
 have hkl:(0:Int)<(nd E.s i).kids.length:=by omega
 rw[htn]at hm
 obtain⟨kset,hks⟩:∃b:Bool,b=decide ((nd E.s i).kind=12):=⟨_,rfl⟩
 have hkb:((nd E.s i).kind==12)=kset:=by rw[hks];exact rfl
 rw[←hks]at hm
 have HM:Hid (manyF E (rdF E f) kset t tz (dp+1) m x noB 0 []=some o):=hm
 have hl0:tree.length≤1099511627776:=by unfold Room at hroom;omega
 have HKN:Hid (W.cell? ⟨kb,ko,none⟩=some (.int .i64 t)):=k0
 have hds:=hc.size
 have HAT:Hid (∀(x':Nat) wq,Calls Tryz.prog 60 #[.int .i64 x',.iface 291 (.pointer (some (sn .Order)))] wq fun e w'=>e= .returned (fault x' (sn .Order))∧w'=wq):=fun x' wq=>at_any x' _ wq
 unfold fault at HAT
 have HA:Hid (∀A B,Below w.heap.size w ((w.alloc A).alloc B)):=fun A B=>((Below.refl w.heap.size w).alloc (Nat.le_refl _) A).alloc (by simp) B
 unfold spanV ndCells
 rw[←htz,←hx0]
 clear hc hN hka hm hI hroom hi hk kcl hkr ht htn hks k0 h1 hx0 htz
 generalize hW0:(w.alloc (.cells #[.int .i64 (nd E.s i).kind,.int .i64 (nd E.s i).tag,.int .i64 (nd E.s i).mode,.slice (some ⟨kb,ko,none⟩) (nd E.s i).kids.length kc] 58)).alloc (.cells #[.int .i64 g.c,.int .i64 g.n,.bool g.b,.int .i64 x0,.int .i64 x,.int .i64 tz] 151)=w0
 have HB0:Hid (Below w.heap.size w w0):=by show Below w.heap.size w w0;rw[←hW0];exact HA.out _ _
 have HG1:Hid (w0.heap[w.heap.size]? =some (.cells #[.int .i64 (nd E.s i).kind,.int .i64 (nd E.s i).tag,.int .i64 (nd E.s i).mode,.slice (some ⟨kb,ko,none⟩) (nd E.s i).kids.length kc] 58 (0,0))):=by
  show w0.heap[w.heap.size]? =_
  rw[←hW0];exact block_below (heap_alloc_new w _) ((Below.refl _ _).alloc (Nat.le_refl _) _)
 have HG2:Hid (w0.heap[w.heap.size+1]? =some (.cells #[.int .i64 g.c,.int .i64 g.n,.bool g.b,.int .i64 x0,.int .i64 x,.int .i64 tz] 151 (0,0))):=by
  show w0.heap[w.heap.size+1]? =_
  rw[←hW0]
  have q:=heap_alloc_new (w.alloc (.cells #[.int .i64 (nd E.s i).kind,.int .i64 (nd E.s i).tag,.int .i64 (nd E.s i).mode,.slice (some ⟨kb,ko,none⟩) (nd E.s i).kids.length kc] 58)) (.cells #[.int .i64 g.c,.int .i64 g.n,.bool g.b,.int .i64 x0,.int .i64 x,.int .i64 tz] 151)
  simpa using q
 have HI0:Hid (RdD W w0 R a E.s.length c gb E.d tree):=HI.out.below HB0.out
 have HW0:=hide hW0
 clear hW0 HA
 obtain⟨va,vc,r3⟩:=HI0.out.r3
 have hR0:R<w0.heap.size:=lt_of_cell r3
 have n0:w0.cell? ⟨w.heap.size,0,none⟩=some (.int .i64 (nd E.s i).kind):=cell_of_row HG1.out rfl
 go_enter Tryz.func161,Tryz.ntmps161
 go_upto_region 1 with fail
 rw[HW0.out]
 clear HW0
 go_wp2_with fail
 refine(add_any W _ R a E.s.length c gb E.d tree (nd E.s i).kind ⟨#[]⟩ 0 0 HI0.out hl0).mono ?_
 rintro e w1 ⟨rfl,hI1,hf1⟩
 have HI1:Hid (RdD W w1 R a E.s.length c gb E.d (tree++[⟨(nd E.s i).kind,⟨#[]⟩,0,0⟩])):=hI1
 have HF1:Hid (Fr R w w1):=(Fr.of_below HB0.out).trans hf1
 have hn1:w.heap.size≠R:=by omega
 have hn2:w.heap.size+1≠R:=by omega
 have HN1:=hide (hf1 _ _ _ hn1 (by decide) HG1.out)
 have HN2:=hide (hf1 _ _ _ hn2 (by decide) HG2.out)
 have s4:w1.cell? ⟨w.heap.size+1,4,none⟩=some (.int .i64 x):=cell_of_row HN2.out rfl
 have hl2:w.heap.size+1<w1.heap.size:=lt_of_cell s4
 clear hI1 hf1 r3 n0 hR0
 go_wp2
 go_loopw [10,11] (fun vl vp wq=>∃(x':Nat) (last:ByteArray),vl= .string last∧vp= .int .i64 x'∧x≤x'∧x'≤tz∧Fr R w wq∧wq.heap[w.heap.size]? =some (.cells #[.int .i64 (nd E.s i).kind,.int .i64 (nd E.s i).tag,.int .i64 (nd E.s i).mode,.slice (some ⟨kb,ko,none⟩) (nd E.s i).kids.length kc] 58 (0,0))∧wq.heap[w.heap.size+1]? =some (.cells #[.int .i64 g.c,.int .i64 g.n,.bool g.b,.int .i64 x0,.int .i64 x,.int .i64 tz] 151 (0,0))∧ManyP E W R a c gb f kset t x tz dp (nd E.s i).kind o tree x' last wq) (fun _ vp _=>tz-(intOf vp).toNat)
 case atStart=>exact⟨x,⟨#[]⟩,rfl,rfl,Nat.le_refl _,hxz,HF1.out,HN1.out,HN2.out,⟨m,0,[],HM.out,HI1.out,by simp,by omega⟩⟩
 case round=>
  obtain⟨x',last,rfl,rfl,hx1,hx2,hfr,hb1,hb2,hrun⟩:=hrel
  have HFR:Hid (Fr R w wr):=hfr
  have HX1:Hid (wr.heap[w.heap.size]? =some (.cells #[.int .i64 (nd E.s i).kind,.int .i64 (nd E.s i).tag,.int .i64 (nd E.s i).mode,.slice (some ⟨kb,ko,none⟩) (nd E.s i).kids.length kc] 58 (0,0))):=hb1
  have HX2:Hid (wr.heap[w.heap.size+1]? =some (.cells #[.int .i64 g.c,.int .i64 g.n,.bool g.b,.int .i64 x0,.int .i64 x,.int .i64 tz] 151 (0,0))):=hb2
  obtain⟨m',j,acc,hmm,hIr,hacc,hjx⟩:=hrun
  have HMM:Hid (manyF E (rdF E f) kset t tz (dp+1) m' x' last j acc=some o):=hmm
  have HIR:Hid (RdD W wr R a E.s.length c gb E.d (tree++⟨(nd E.s i).kind,⟨#[]⟩,0,(j:Int)⟩::acc)):=hIr
  have s5:wr.cell? ⟨w.heap.size+1,5,none⟩=some (.int .i64 tz):=cell_of_row hb2 rfl
  have hl5:w.heap.size+1<wr.heap.size:=lt_of_cell s5
  have hRr:R<wr.heap.size:=lt_of_cell hIr.r0
  clear hmm hIr hfr hb1 hb2 s4 hl2
  by_cases hlt:x'<tz
  ·have hlt':(x':Int)<tz:=by omega
   obtain⟨o',hrec,ho⟩:=manyF_on HMM.out hlt
   have HREC:Hid (rdF E f t x' tz (dp+1)=some o'):=hrec
   have HO:Hid ((∃u,o'= .error u∧o= .error u)∨∃vs z,o'= .ok (vs,z)∧((kset=true∧below (E.d.extract x' z) last=true∧o= .error (8,(x':Int)))∨(¬(kset=true∧below (E.d.extract x' z) last=true)∧∃m',manyF E (rdF E f) kset t tz (dp+1) m' z (E.d.extract x' z) (j+1) (acc++vs)=some o))):=ho
   have HRO2:Hid (Room (tree++⟨(nd E.s i).kind,⟨#[]⟩,0,(j:Int)⟩::acc) f x' tz):=by
    show Room _ _ _ _
    have:=HRO.out
    unfold Room at this ⊢
    simp only[List.length_append,List.length_cons]
    omega
   have HOP:=hide (open_any1 W wr R a E.s.length c gb E.d _ x' tz sn HIR.out (HC.out.lay.below HIR.out.bel).s (by omega) hz (by omega))
   clear hrec ho
   go_wp2_with fail
   refine HOP.out.mono ?_
   rintro e w4 ⟨hb4,h4⟩
   have HB4:=hide hb4
   clear HOP hb4
   rcases h4 with⟨h40,rfl⟩|⟨h40,rfl⟩
   ·obtain⟨h,hh⟩:∃h,(hd (E.d.extract x' tz)).2=h:=⟨_,rfl⟩
    have HHD:Hid (E.hd x' tz=(0,h)):=by
     show E.hd x' tz=(0,h)
     unfold Env.hd
     rw[←h40,←hh]
    rw[hh]
    clear h40 hh
    obtain⟨z,hzf⟩:∃z,z=fin x' h:=⟨_,rfl⟩
    have hfi:=fin_int (E:=E) (x:=x') (y:=tz) (by rw[HHD.out])
    have hfl:=fin_le (E:=E) (x:=x') (y:=tz) (by rw[HHD.out])
    rw[HHD.out]at hfi hfl
    simp only at hfi hfl
    rw[←hzf]at hfi hfl
    have hzz:(x':Int)+h.s+h.l=z:=by omega
    have HNV:Hid (∀wq,RdD W wq R a E.s.length c gb E.d (tree++⟨(nd E.s i).kind,⟨#[]⟩,0,(j:Int)⟩::acc)→Calls Tryz.prog 78 #[.pointer (some ⟨R,0,none⟩),.int .i64 t,.int .i64 (dp+1),.agg #[.int .i64 h.c,.int .i64 h.n,.bool h.b,.int .i64 x',.int .i64 ((x':Int)+h.s),.int .i64 z]] wq fun e w'=>∃ve,e= .returned ve∧AfterD E W R a c gb sn o' (tree++⟨(nd E.s i).kind,⟨#[]⟩,0,(j:Int)⟩::acc) wq (.returned ve) w'):=fun wq q=>by
     have:=HN.out t x' tz h (dp+1) o' _ wq HHD.out HREC.out htl (by omega) hz (by omega) (by omega) HRO2.out q
     unfold spanV at this
     rw[hzz]at this
     exact this.mono fun e w' qa=>by
      rcases qa.2 with⟨_,_,_,q4,_⟩|⟨_,_,_,_,q4,_⟩
      ·exact⟨_,q4,by rw[←q4];exact qa⟩
      ·exact⟨_,q4,by rw[←q4];exact qa⟩
    have HZF:Hid (z=fin x' h):=hzf
    have hz1:x'+2≤z:=by omega
    have hz2:z≤tz:=by omega
    unfold spanV
    rw[hzz]
    clear hzf hfi hfl hzz
    go_upto_region 9 with fail
    generalize hW5:w4.alloc (.cells #[.int .i64 h.c,.int .i64 h.n,.bool h.b,.int .i64 x',.int .i64 ((x':Int)+h.s),.int .i64 z] 151)=w5
    have HB5:Hid (Below wr.heap.size wr w5):=by show Below wr.heap.size wr w5;rw[←hW5];exact HB4.out.alloc HB4.out.size _
    have HS5:Hid (w5.heap[w4.heap.size]? =some (.cells #[.int .i64 h.c,.int .i64 h.n,.bool h.b,.int .i64 x',.int .i64 ((x':Int)+h.s),.int .i64 z] 151 (0,0))):=by show w5.heap[w4.heap.size]? =_;rw[←hW5];exact heap_alloc_new w4 _
    have HI5:Hid (RdD W w5 R a E.s.length c gb E.d (tree++⟨(nd E.s i).kind,⟨#[]⟩,0,(j:Int)⟩::acc)):=HIR.out.below HB5.out
    have H15:=hide (block_below HX1.out HB5.out)
    have H25:=hide (block_below HX2.out HB5.out)
    obtain⟨b3,hb3⟩:∃b3,w4.heap.size=b3:=⟨_,rfl⟩
    rw[hb3]at HS5 ⊢
    have hb3w:wr.heap.size≤b3:=by rw[←hb3];exact HB4.out.size
    have hb3R:b3≠R:=by omega
    clear hW5 hb3 s5
    have n3:w5.cell? ⟨w.heap.size,3,none⟩=some (.slice (some ⟨kb,ko,none⟩) (nd E.s i).kids.length kc):=cell_of_row H15.out rfl
    have k3:w5.cell? ⟨kb,ko,none⟩=some (.int .i64 t):=(HI5.out.bel.cell (p:=⟨kb,ko,none⟩) (lt_of_cell HKN.out)).trans HKN.out
    have t0:w5.cell? ⟨b3,0,none⟩=some (.int .i64 h.c):=cell_of_row HS5.out rfl
    have t1:w5.cell? ⟨b3,1,none⟩=some (.int .i64 h.n):=cell_of_row HS5.out rfl
    have t2:w5.cell? ⟨b3,2,none⟩=some (.bool h.b):=cell_of_row HS5.out rfl
    have t3:w5.cell? ⟨b3,3,none⟩=some (.int .i64 x'):=cell_of_row HS5.out rfl
    have t4:w5.cell? ⟨b3,4,none⟩=some (.int .i64 ((x':Int)+h.s)):=cell_of_row HS5.out rfl
    have t5:w5.cell? ⟨b3,5,none⟩=some (.int .i64 z):=cell_of_row HS5.out rfl
    go_region_held_law (fun w'=>w'.cell? ⟨w.heap.size,3,none⟩=some (.slice (some ⟨kb,ko,none⟩) (nd E.s i).kids.length kc)∧w'.cell? ⟨kb,ko,none⟩=some (.int .i64 t)∧w'.cell? ⟨b3,0,none⟩=some (.int .i64 h.c)∧w'.cell? ⟨b3,1,none⟩=some (.int .i64 h.n)∧w'.cell? ⟨b3,2,none⟩=some (.bool h.b)∧w'.cell? ⟨b3,3,none⟩=some (.int .i64 x')∧w'.cell? ⟨b3,4,none⟩=some (.int .i64 ((x':Int)+h.s))∧w'.cell? ⟨b3,5,none⟩=some (.int .i64 z)) (first|exact⟨p3,pk,q0,q1,q2,q3,q4,q5⟩|exact⟨n3,k3,t0,t1,t2,t3,t4,t5⟩) ((go_at_call 78;refine(HNV.out _ (HI5.out.below (Below.refl _ _).drew)).mono ?_;rintro e w6 ⟨ve,rfl,ha6⟩;have HA6:=hide ha6;have hF6:Fr R w5 w6:=(Fr.of_below ((Below.refl w5.heap.size w5).drew)).trans ha6.1;have hbel:Below W.heap.size W w6:=(by rcases ha6.2 with⟨_,_,_,_,q⟩|⟨_,_,_,_,_,q⟩ <;>exact q.bel);have hS6:=hF6 _ _ _ hb3R (by decide) HS5.out;have h16:=hF6 _ _ _ hn1 (by decide) H15.out;have h26:=hF6 _ _ _ hn2 (by decide) H25.out;have HS6:=hide hS6;have H16:=hide h16;have H26:=hide h26;have p3:w6.cell? ⟨w.heap.size,3,none⟩=some (.slice (some ⟨kb,ko,none⟩) (nd E.s i).kids.length kc):=cell_of_row h16 rfl;have pk:w6.cell? ⟨kb,ko,none⟩=some (.int .i64 t):=(hbel.cell (p:=⟨kb,ko,none⟩) (lt_of_cell HKN.out)).trans HKN.out;have q0:w6.cell? ⟨b3,0,none⟩=some (.int .i64 h.c):=cell_of_row hS6 rfl;have q1:w6.cell? ⟨b3,1,none⟩=some (.int .i64 h.n):=cell_of_row hS6 rfl;have q2:w6.cell? ⟨b3,2,none⟩=some (.bool h.b):=cell_of_row hS6 rfl;have q3:w6.cell? ⟨b3,3,none⟩=some (.int .i64 x'):=cell_of_row hS6 rfl;have q4:w6.cell? ⟨b3,4,none⟩=some (.int .i64 ((x':Int)+h.s)):=cell_of_row hS6 rfl;have q5:w6.cell? ⟨b3,5,none⟩=some (.int .i64 z):=cell_of_row hS6 rfl;have HF6:=hide hF6;clear ha6 hF6 hbel hS6 h16 h26))
    clear n3 k3 t0 t1 t2 t3 t4 t5 p3 pk q0 q1 q2 q4
    have HFW:Hid (Fr R w w6):=(HFR.out.below HB5.out).trans HF6.out
    rcases HA6.out.2 with⟨vs,zz,ho',hve,hI6⟩|⟨ke,qe,tr,ho',hve,hI6⟩
    ·obtain rfl:ve= .nilIface:=by injection hve
     obtain⟨_,hzz⟩:=rdF_fin (by rw[←ho'];exact HREC.out)
     rw[HHD.out]at hzz
     have hzz2:zz=z:=by rw[hzz];exact HZF.out.symm
     subst hzz2
     have hlen:=rdF_len0 HC.out.right.fine htl (by rw[←ho'];exact HREC.out)
     have HOO:Hid ((kset=true∧below (E.d.extract x' zz) last=true∧o= .error (8,(x':Int)))∨(¬(kset=true∧below (E.d.extract x' zz) last=true)∧∃m',manyF E (rdF E f) kset t tz (dp+1) m' zz (E.d.extract x' zz) (j+1) (acc++vs)=some o)):=by
      rcases HO.out with⟨u,hu,_⟩|⟨vs',z',hu,ho⟩
      ·rw[ho']at hu;cases hu
      ·rw[ho']at hu;cases hu;exact ho
     have hI8:RdD W w6 R a E.s.length c gb E.d (tree++⟨(nd E.s i).kind,⟨#[]⟩,0,(j:Int)⟩::(acc++vs)):=by have:=hI6;simpa using this
     have HI8:=hide hI8
     clear hve ho' hzz hI6 hI8
     have d2:w6.cell? ⟨R,2,none⟩=some (.string E.d):=HI8.out.r2
     have hR6:R<w6.heap.size:=lt_of_cell d2
     have hb36:b3<w6.heap.size:=lt_of_cell q3
     have hq1:(x':Int)≤zz:=by omega
     have hq2:(zz:Int)≤E.d.size:=by omega
     go_upto_region 12 with fail
     go_quiet (fail)
     generalize hw7:w6.drewN nq=w7
     have HB7:Hid (Below w6.heap.size w6 w7):=by show Below w6.heap.size w6 w7;rw[←hw7];exact Go.below_drewN (Below.refl _ _) _
     have HI7:=hide (HI8.out.below HB7.out)
     have HS7:=hide (block_below HS6.out HB7.out)
     have H17:=hide (block_below H16.out HB7.out)
     have H27:=hide (block_below H26.out HB7.out)
     have HF7:Hid (Fr R w w7):=HFW.out.below HB7.out
     clear hw7 d2 q3 q5 hR6 hb36
     have g0:w7.cell? ⟨w.heap.size,0,none⟩=some (.int .i64 (nd E.s i).kind):=cell_of_row H17.out rfl
     have e5:w7.cell? ⟨b3,5,none⟩=some (.int .i64 zz):=cell_of_row HS7.out rfl
     have hl7:w.heap.size<w7.heap.size:=lt_of_cell g0
     have hb37:b3<w7.heap.size:=lt_of_cell e5
     by_cases hord:kset=true∧below (E.d.extract x' zz) last=true
     ·obtain⟨rfl,hbl⟩:=hord
      have HOE:Hid (o= .error (8,(x':Int))):=by
       rcases HOO.out with q|q
       ·exact q.2.2
       ·exact absurd ⟨rfl,hbl⟩ q.1
      unfold below at hbl
      have cO:=(HC.out.lay.below HI7.out.bel).s.cOrder
      have hgl:=lt_of_cell cO
      simp only at hgl
      go_wp2_with fail
      refine(HAT.out x' _).mono ?_
      rintro e w8 ⟨rfl,rfl⟩
      go_wp2
      go_ret
      exact⟨HF7.out,.inr ⟨8,x',_,by rw[HOE.out];rfl,rfl,HI7.out⟩⟩
     ·have HNX:Hid (∃m',manyF E (rdF E f) kset t tz (dp+1) m' zz (E.d.extract x' zz) (j+1) (acc++vs)=some o):=by
       rcases HOO.out with q|q
       ·exact absurd ⟨q.1,q.2.1⟩ hord
       ·exact q.2
      have hdd:kset=false∨(kset=true∧Op.bytesLess (E.d.extract x' zz).toList last.toList=false):=by
       cases kset
       ·exact .inl rfl
       ·refine .inr ⟨rfl,?_⟩
        cases hq:Op.bytesLess (E.d.extract x' zz).toList last.toList with
        |false=>rfl
        |true=>exact absurd ⟨rfl,hq⟩ hord
      have hj1:(j:Int)+1<1000000:=by have:=HC.out.size;omega
      have hla:tree.length<(tree++⟨(nd E.s i).kind,⟨#[]⟩,0,(j:Int)⟩::(acc++vs)).length:=by simp only[List.length_append,List.length_cons];omega
      clear hord
      rcases hdd with rfl|⟨rfl,hbl⟩
      all_goals
       go_upto_region 15 with fail
       go_quiet (fail)
       generalize hw8:w7.drewN nq=w8
       have HB8:Hid (Below w7.heap.size w7 w8):=by show Below w7.heap.size w7 w8;rw[←hw8];exact Go.below_drewN (Below.refl _ _) _
       have HI9:=hide (HI7.out.below HB8.out)
       have H18:=hide (block_below H17.out HB8.out)
       have H28:=hide (block_below H27.out HB8.out)
       have HF8:Hid (Fr R w w8):=HF7.out.below HB8.out
       clear hw8 g0 e5 hl7 hb37
       obtain⟨gg,cap,b1,b2,b4,b5⟩:=HI9.out.bump
       have HB4':=hide b5
       obtain⟨N,hNN⟩:∃N,N=(tree++⟨(nd E.s i).kind,⟨#[]⟩,0,(j:Int)⟩::(acc++vs)).length:=⟨_,rfl⟩
       have hNl:(tree.length:Int)<N:=by omega
       rw[←hNN]at b1
       simp only at b2
       have hgl:=lt_of_cell b2
       have hRl8:R<w8.heap.size:=lt_of_cell b1
       simp only at hgl
       clear b5 hNN hla
       go_wp2
       go_roundw
       case rel=>exact⟨zz,_,rfl,rfl,by omega,by omega,HF8.out.trans (HB4'.out _).2,(HB4'.out _).2 _ _ _ hn1 (by decide) H18.out,(HB4'.out _).2 _ _ _ hn2 (by decide) H28.out,by
        obtain⟨m2,hm2⟩:=HNX.out
        exact⟨m2,j+1,acc++vs,hm2,(HB4'.out _).1,by simp only[List.length_append];omega,by omega⟩⟩
       case measure=>simp[intOf];omega
    ·obtain rfl:ve=fault qe (sn (snOf ke)):=by injection hve
     have HOE:Hid (o= .error (ke,qe)):=by
      rcases HO.out with⟨u,hu,ho⟩|⟨vs',z',hu,ho⟩
      ·rw[ho']at hu;injection hu with hu;show o=_;rw[ho,←hu]
      ·rw[ho']at hu;cases hu
     have HI7:=hide hI6
     unfold fault
     clear hve ho' hI6
     go_wp2
     go_ret
     exact⟨HFW.out,.inr ⟨ke,qe,tr,by rw[HOE.out];rfl,rfl,HI7.out⟩⟩
   ·have he:=errAt_of (t:=E.d.extract x' tz) x' sn h40
    have HO2:Hid (o= .error ((hd (E.d.extract x' tz)).1,(x':Int))):=by
     have q:=rdF_head_err HREC.out h40
     rcases HO.out with⟨u,hu,ho⟩|⟨vs,z,hu,_⟩
     ·rw[hu]at q;injection q with q;show o=_;rw[ho,q];rfl
     ·rw[hu]at q;cases q
    generalize(hd (E.d.extract x' tz)).1=k at he HO2
    rw[he]
    unfold span0 fault
    clear he h40
    go_wp2
    go_ret
    refine⟨HFR.out.trans (Fr.of_below (HB4.out.alloc HB4.out.size _)),.inr ⟨k,x',_,by rw[HO2.out];rfl,rfl,HIR.out.below (HB4.out.alloc HB4.out.size _)⟩⟩
  ·have hlt':¬(x':Int)<tz:=by omega
   have ho:=manyF_off HMM.out hlt
   have HO:Hid (o= .ok (j,acc)):=ho
   clear ho
   go_wp2
   go_ret
   exact⟨HFR.out,.inl ⟨_,_,by rw[HO.out];rfl,rfl,HIR.out⟩⟩
def leftOut(E:Env)(k:Kd):Option Vl:=if k.opt=true then some ⟨15,noB,0,0⟩else if k.dflt.size≠0 then some (E.dv k)else none
def AfterL(E:Env)(W:World)(R:Nat)(a:Option Addr)(c gb:Nat)(r:Option Vl)(tree:List Vl)(w:World)(e:Ending)(w':World):Prop:=
 Fr R w w'∧((∃v,r=some v∧e= .returned (.bool true)∧RdD W w' R a E.s.length c gb E.d (tree++[v]))∨(r=none∧e= .returned (.bool false)∧RdD W w' R a E.s.length c gb E.d tree))
theorem leaveOut_p(E:Env)(W:World)(R:Nat)(a:Option Addr)(c gb:Nat)(sn:Sn→Addr)(hc:PC E W a gb sn)(hdv:DvOk E)(i:Nat)(hi:i<E.s.length)(k:Kd)(hk:k∈(nd E.s i).kids)(tree:List Vl)(w:World)(hl:tree.length≤1099511627776)(hI:RdD W w R a E.s.length c gb E.d tree):
 Calls Tryz.prog 189 #[.pointer (some ⟨R,0,none⟩),.agg #[.int .i64 k.node,.bool k.opt,.string k.dflt]] w fun e w'=>AfterL E W R a c gb (leftOut E k) tree w e w':=by
 have HI:Hid (RdD W w R a E.s.length c gb E.d tree):=hI
 have HAD:Hid (∀wq kk (uu:ByteArray),RdD W wq R a E.s.length c gb E.d tree→Calls Tryz.prog 162 #[.pointer (some ⟨R,0,none⟩),.agg #[.int .i64 kk,.string uu,.int .i64 0,.int .i64 0]] wq fun e' w'=>e'= .returned (.tuple #[])∧RdD W w' R a E.s.length c gb E.d (tree++[⟨kk,uu,0,0⟩])∧Fr R wq w'):=fun wq kk uu q=>add_any W wq R a _ c gb E.d tree kk uu 0 0 q hl
 have hRl:R<w.heap.size:=lt_of_cell hI.r0
 have hw:=hc.right.fine.within i hi k hk
 obtain⟨t,ht⟩:∃t:Nat,k.node=t:=⟨k.node.toNat,by omega⟩
 have htl:t<E.s.length:=by omega
 have htn:k.node.toNat=t:=by omega
 have hB1:Below w.heap.size w (w.alloc (.cells #[.int .i64 k.node,.bool k.opt,.string k.dflt] 55)):=(Below.refl _ _).alloc (Nat.le_refl _) _
 by_cases ho:k.opt=true
 ·have e1:leftOut E k=some ⟨15,noB,0,0⟩:=by unfold leftOut;rw[if_pos ho]
  have HE1:=hide e1
  have HB1:=hide hB1
  rw[ht,ho]at HB1 ⊢
  clear e1 hI hc hdv hk hw ht htn hB1 ho
  go_enter Tryz.func189,Tryz.ntmps189
  go_wp2_with fail
  refine(HAD.out _ 15 ⟨#[]⟩ (HI.out.below HB1.out)).mono ?_
  rintro e w1 ⟨rfl,hI1,hF1⟩
  have HI1:=hide hI1
  have HF1:=hide hF1
  clear hI1 hF1
  go_wp2
  go_ret
  exact⟨(Fr.of_below HB1.out).trans HF1.out,.inl ⟨_,HE1.out,rfl,HI1.out⟩⟩
 have ho':k.opt=false:=by simpa using ho
 by_cases hd:k.dflt.size=0
 ·have e1:leftOut E k=none:=by unfold leftOut;rw[if_neg ho,if_neg (by omega)]
  have HE1:=hide e1
  have HB1:=hide hB1
  have hem:=emp_t hd
  rw[ht,ho']at HB1 ⊢
  clear e1 hI hc hdv hk hw ht htn hB1 ho ho' hd
  go_enter Tryz.func189,Tryz.ntmps189
  go_wp2
  go_ret
  exact⟨Fr.of_below HB1.out,.inr ⟨HE1.out,rfl,HI.out.below HB1.out⟩⟩
 ·have e1:leftOut E k=some (E.dv k):=by unfold leftOut;rw[if_neg ho,if_pos hd]
  obtain⟨u,hu,hv,hk1,hk9⟩:=hdv i hi k hk hd
  rw[htn]at hu hv hk9
  have HV:=hide hv
  have HE1:=hide e1
  have HB1:=hide hB1
  have hem:=emp_f (t:=k.dflt) (by omega)
  have hyz:=hc.sok i hi k hk
  obtain⟨yd,hyd⟩:∃y,k.dflt=y:=⟨_,rfl⟩
  rw[hyd]at hu hyz hem
  rw[ht,ho',hyd]at HB1 ⊢
  have HDF:Hid (∀wq,Below W.heap.size W wq→Calls Tryz.prog 202 #[.slice a E.s.length c,.agg #[.int .i64 t,.bool false,.string yd]] wq fun e w'=>e= .returned (.agg #[.int .i64 (nd E.s t).kind,.string u,.int .i64 0,.int .i64 0])∧Below wq.heap.size wq w'):=fun wq q=>default_any E.s a c t false yd u wq sn (hc.lay.below q) (hc.sch.below q) hc.right htl hk9 hu (by omega)
  clear e1 hI hc hdv hk hw ht htn hB1 ho ho' hd hu hv hk1 hk9 hyd hyz
  go_enter Tryz.func189,Tryz.ntmps189
  go_upto_region 5 with fail
  generalize hW1:w.alloc (.cells #[.int .i64 t,.bool false,.string yd] 55)=w1
  have hG1:w1.heap[w.heap.size]? =some (.cells #[.int .i64 t,.bool false,.string yd] 55 (0,0)):=by rw[←hW1];exact heap_alloc_new w _
  rw[hW1]at HB1
  have HG1:=hide hG1
  have HI1:=hide (HI.out.below HB1.out)
  clear hW1 hG1
  have r0:w1.cell? ⟨R,0,none⟩=some (.slice a E.s.length c):=HI1.out.r0
  have g0:w1.cell? ⟨w.heap.size,0,none⟩=some (.int .i64 t):=cell_of_row HG1.out rfl
  have g1:w1.cell? ⟨w.heap.size,1,none⟩=some (.bool false):=cell_of_row HG1.out rfl
  have g2:w1.cell? ⟨w.heap.size,2,none⟩=some (.string yd):=cell_of_row HG1.out rfl
  have hn1:w.heap.size≠R:=by omega
  go_region_held_law (fun w'=>w'.cell? ⟨R,0,none⟩=some (.slice a E.s.length c)∧w'.cell? ⟨w.heap.size,0,none⟩=some (.int .i64 t)∧w'.cell? ⟨w.heap.size,1,none⟩=some (.bool false)∧w'.cell? ⟨w.heap.size,2,none⟩=some (.string yd)) (first|exact⟨x0,x1,x2,x3⟩|exact⟨y0,y1,y2,y3⟩|exact⟨r0,g0,g1,g2⟩) (first|(go_at_call 202;refine(HDF.out _ HI1.out.bel.drew).mono ?_;rintro e w2 ⟨rfl,hb2⟩;have hI2:=(HI1.out.below (Below.refl _ _).drew).below hb2;have hG2:=block_below (w:=w1.drew) HG1.out hb2;have HI2:=hide hI2;have HG2:=hide hG2;have HF2:Hid (Fr R w w2):=(Fr.of_below HB1.out.drew).below hb2;have y0:=hI2.r0;have y1:w2.cell? ⟨w.heap.size,0,none⟩=some (.int .i64 t):=cell_of_row hG2 rfl;have y2:w2.cell? ⟨w.heap.size,1,none⟩=some (.bool false):=cell_of_row hG2 rfl;have y3:w2.cell? ⟨w.heap.size,2,none⟩=some (.string yd):=cell_of_row hG2 rfl;clear hb2 hI2 hG2)|(go_at_call 162;refine(HAD.out _ _ _ HI2.out).mono ?_;rintro e w3 ⟨rfl,hI3,hF3⟩;have hG3:=hF3 _ _ _ hn1 (by decide) HG2.out;have HI3:=hide hI3;have HF3:Hid (Fr R w w3):=HF2.out.trans hF3;have x0:=hI3.r0;have x1:w3.cell? ⟨w.heap.size,0,none⟩=some (.int .i64 t):=cell_of_row hG3 rfl;have x2:w3.cell? ⟨w.heap.size,1,none⟩=some (.bool false):=cell_of_row hG3 rfl;have x3:w3.cell? ⟨w.heap.size,2,none⟩=some (.string yd):=cell_of_row hG3 rfl;clear hI3 hF3 hG3))
  clear x0 x1 x2 x3 y0 y1 y2 y3 r0 g0 g1 g2
  go_wp2
  go_ret
  exact⟨HF3.out,.inl ⟨_,HE1.out,rfl,by rw[HV.out];exact HI3.out⟩⟩
def kidO(E:Env)(x:Nat)(yd:ByteArray)(o':Out):Out:=
 match o' with
 | .error u=> .error u
 | .ok (vs,z)=>if E.d.extract x z=yd then .error (9,x)else .ok (vs,z)
theorem kid_p(E:Env)(W:World)(R:Nat)(a:Option Addr)(c gb:Nat)(sn:Sn→Addr)(f:Nat)(hc:PC E W a gb sn)(hN:NodeP E W R a c gb sn f)(t:Nat)(htl:t<E.s.length)(ko:Bool)(yd:ByteArray)
 (g:Hd)(x y:Nat)(dp:Int)(o':Out)(tree:List Vl)(w:World)(hg:E.hd x y=(0,g))(hrec:rdF E f t x y dp=some o')(hxz:x≤y)(hz:y≤E.d.size)(hd1:1≤dp)(hd2:dp≤13)(hroom:Room tree f x y)(hI:RdD W w R a E.s.length c gb E.d tree):
 Calls Tryz.prog 188 #[.pointer (some ⟨R,0,none⟩),.agg #[.int .i64 t,.bool ko,.string yd],.int .i64 dp,spanV g x] w fun e w'=>AfterD E W R a c gb sn (kidO E x yd o') tree w e w':=by
 have HI:Hid (RdD W w R a E.s.length c gb E.d tree):=hI
 have hRl:R<w.heap.size:=lt_of_cell hI.r0
 have HC:=hide hc
 obtain⟨z,hzf⟩:∃z,z=fin x g:=⟨_,rfl⟩
 have hfi:=fin_int (E:=E) (x:=x) (y:=y) (by rw[hg])
 have hfl:=fin_le (E:=E) (x:=x) (y:=y) (by rw[hg])
 rw[hg]at hfi hfl
 simp only at hfi hfl
 rw[←hzf]at hfi hfl
 have hzz:(x:Int)+g.s+g.l=z:=by omega
 have HNV:Hid (∀wq,RdD W wq R a E.s.length c gb E.d tree→Calls Tryz.prog 78 #[.pointer (some ⟨R,0,none⟩),.int .i64 t,.int .i64 dp,.agg #[.int .i64 g.c,.int .i64 g.n,.bool g.b,.int .i64 x,.int .i64 ((x:Int)+g.s),.int .i64 z]] wq fun e w'=>∃ve,e= .returned ve∧AfterD E W R a c gb sn o' tree wq (.returned ve) w'):=fun wq q=>by
  have:=hN t x y g dp o' tree wq hg hrec htl hxz hz hd1 hd2 hroom q
  unfold spanV at this
  rw[hzz]at this
  exact this.mono fun e w' qa=>by
   rcases qa.2 with⟨_,_,_,q4,_⟩|⟨_,_,_,_,q4,_⟩
   ·exact⟨_,q4,by rw[←q4];exact qa⟩
   ·exact⟨_,q4,by rw[←q4];exact qa⟩
 have HZO:Hid (∀vs zz,o'= .ok (vs,zz)→zz=z):=fun vs zz q=>by
  obtain⟨_,h⟩:=rdF_fin (by rw[←q];exact hrec)
  rw[hg]at h
  rw[h];exact hzf.symm
 have hz1:x+2≤z:=by omega
 have hz2:z≤E.d.size:=by omega
 have HAT:Hid (∀wq,Calls Tryz.prog 60 #[.int .i64 x,.iface 291 (.pointer (some (sn .Default)))] wq fun e w'=>e= .returned (fault x (sn .Default))∧w'=wq):=fun wq=>at_any x _ wq
 unfold fault at HAT
 have HA:Hid (∀A B,Below w.heap.size w ((w.alloc A).alloc B)):=fun A B=>((Below.refl w.heap.size w).alloc (Nat.le_refl _) A).alloc (by simp) B
 unfold spanV
 rw[hzz]
 clear hI hc hN hg hrec hroom hzf hfi hfl hzz hd1 hd2 hxz
 go_enter Tryz.func188,Tryz.ntmps188
 go_wp2_with fail
 refine(HNV.out _ (HI.out.below (HA.out _ _))).mono ?_
 rintro e w1 ⟨ve,rfl,ha1⟩
 have HA1:=hide ha1
 have hn1:w.heap.size≠R:=by omega
 have hn2:w.heap.size+1≠R:=by omega
 have hG1:w1.heap[w.heap.size]? =some (.cells #[.int .i64 t,.bool ko,.string yd] 55 (0,0)):=ha1.1 _ _ _ hn1 (by decide) (block_below (heap_alloc_new w _) ((Below.refl _ _).alloc (Nat.le_refl _) _))
 have hG2:w1.heap[w.heap.size+1]? =some (.cells #[.int .i64 g.c,.int .i64 g.n,.bool g.b,.int .i64 x,.int .i64 ((x:Int)+g.s),.int .i64 z] 151 (0,0)):=ha1.1 _ _ _ hn2 (by decide) (by simpa using heap_alloc_new (w.alloc _) _)
 have HF1:Hid (Fr R w w1):=(Fr.of_below (HA.out _ _)).trans ha1.1
 have k2:w1.cell? ⟨w.heap.size,2,none⟩=some (.string yd):=cell_of_row hG1 rfl
 have s3:w1.cell? ⟨w.heap.size+1,3,none⟩=some (.int .i64 x):=cell_of_row hG2 rfl
 have s5:w1.cell? ⟨w.heap.size+1,5,none⟩=some (.int .i64 z):=cell_of_row hG2 rfl
 have hl1:w.heap.size+1<w1.heap.size:=lt_of_cell s3
 have HG2:=hide hG2
 clear ha1 hG1 hG2 HA HNV
 rcases HA1.out.2 with⟨vs,zz,ho',hve,hI1⟩|⟨ke,qe,tr,ho',hve,hI1⟩
 ·obtain rfl:ve= .nilIface:=by injection hve
  have hzz:=HZO.out vs zz ho'
  subst hzz
  have HO:=hide ho'
  have HI1:=hide hI1
  have d2:w1.cell? ⟨R,2,none⟩=some (.string E.d):=HI1.out.r2
  have hR1:R<w1.heap.size:=lt_of_cell d2
  have hq1:(x:Int)≤zz:=by omega
  have hq2:(zz:Int)≤E.d.size:=by omega
  clear ho' hve hI1
  by_cases hd:yd.size=0
  ·have hem:=emp_t hd
   have hne:E.d.extract x zz≠yd:=fun q=>by
    have h1:(E.d.extract x zz).size=yd.size:=by rw[q]
    rw[ex_size]at h1
    omega
   have HK:Hid (kidO E x yd o'= .ok (vs,zz)):=by show kidO E x yd o'=_;rw[HO.out];unfold kidO;simp only;rw[if_neg hne]
   clear hd hne
   go_wp2_with fail
   go_quiet (fail)
   go_wp2
   go_ret
   exact⟨HF1.out.below (Go.below_drewN (Below.refl _ _) _),.inl ⟨vs,zz,HK.out,rfl,HI1.out.below (Go.below_drewN (Below.refl _ _) _)⟩⟩
  ·have hem:=emp_f (t:=yd) (by omega)
   by_cases heq:E.d.extract x zz=yd
   ·have hbe:((E.d.extract x zz).toList==yd.toList)=true:=by rw[heq];simp
    have HK:Hid (kidO E x yd o'= .error (9,(x:Int))):=by show kidO E x yd o'=_;rw[HO.out];unfold kidO;simp only;rw[if_pos heq]
    clear hd heq
    go_wp2_with fail
    go_quiet (fail)
    generalize hw2:w1.drewN nq=w2
    have HB2:Hid (Below w1.heap.size w1 w2):=by show Below w1.heap.size w1 w2;rw[←hw2];exact Go.below_drewN (Below.refl _ _) _
    have HI2:=hide (HI1.out.below HB2.out)
    have t3:w2.cell? ⟨w.heap.size+1,3,none⟩=some (.int .i64 x):=cell_of_row (block_below HG2.out HB2.out) rfl
    have hl2:w.heap.size+1<w2.heap.size:=lt_of_cell t3
    have cD:=(HC.out.lay.below HI2.out.bel).s.cDefault
    have hgl:=lt_of_cell cD
    simp only at hgl
    clear hw2 d2 s3 s5 k2 hR1 hl1
    go_wp2_with fail
    refine(HAT.out _).mono ?_
    rintro e w3 ⟨rfl,rfl⟩
    go_wp2
    go_ret
    exact⟨HF1.out.below HB2.out,.inr ⟨9,x,_,HK.out,rfl,HI2.out⟩⟩
   ·have hbe:((E.d.extract x zz).toList==yd.toList)=false:=by
     rw[beq_eq_false_iff_ne,Lib.toList_data,Lib.toList_data]
     intro q
     exact heq (ByteArray.ext (Array.toList_inj.1 q))
    have HK:Hid (kidO E x yd o'= .ok (vs,zz)):=by show kidO E x yd o'=_;rw[HO.out];unfold kidO;simp only;rw[if_neg heq]
    clear hd heq
    go_wp2_with fail
    go_quiet (fail)
    go_wp2
    go_ret
    exact⟨HF1.out.below (Go.below_drewN (Below.refl _ _) _),.inl ⟨vs,zz,HK.out,rfl,HI1.out.below (Go.below_drewN (Below.refl _ _) _)⟩⟩
 ·obtain rfl:ve=fault qe (sn (snOf ke)):=by injection hve
  have HK:Hid (kidO E x yd o'= .error (ke,qe)):=by show kidO E x yd o'=_;rw[ho'];rfl
  have HI1:=hide hI1
  unfold fault
  clear hve ho' hI1
  go_wp2
  go_ret
  exact⟨HF1.out,.inr ⟨ke,qe,tr,HK.out,rfl,HI1.out⟩⟩
end Go.Proofs.YtkkicodfpekbgaaGreatDoor
