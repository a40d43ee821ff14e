/-
Several texts in one.
-/
import Derived.Test.YtkkicodfpekbgaaGreatDoorJa6
import Derived.Test.YtkkicodfpekbgaaGreatDoorJa3
import Derived.Test.YtkkicodfpekbgaaGreatDoorJa5
import Derived.Test.YtkkicodfpekbgaaGreatDoorJa1
import Derived.Deep.DeepCutAuto
import Derived.Handy
import Derived.Laws.OwnMore
import Derived.Deep.RegionHeldLaw
import Derived.Lib.OwnKind
import Derived.Test.YtkkicodfpekbgaaGreatDoorJa4
namespace Go.Proofs.YtkkicodfpekbgaaGreatDoor
set_option linter.unusedSimpArgs false
set_option linter.unusedVariables false
set_option maxRecDepth 100000
set_option maxHeartbeats 8000000
theorem wbare_no{E:WEnv}{rec:WRec}{m:Nat}{n:Nd}{cl nu:Int}{v:Vl}{x:Nat}{dp:Int}(hok:∀k t,E.ok k t=true↔ContentOk k t)(hv:v.kind=n.kind)(h:¬FitP n v):wbareF E rec m n cl nu v x dp=some none:=by
 unfold FitP at h
 have h':=fun q=>h ⟨hv,q⟩
 clear h
 unfold wbareF
 by_cases h13:n.kind=13
 ·rw[if_pos h13]at h' ⊢
  rw[if_neg h']
 rw[if_neg h13]at h' ⊢
 by_cases h14:n.kind=14
 ·rw[if_pos h14]at h' ⊢
  rw[if_neg h']
 rw[if_neg h14]at h' ⊢
 by_cases h10:n.kind=10
 ·rw[if_pos h10]at h' ⊢
  rw[if_neg h']
 rw[if_neg h10]at h' ⊢
 by_cases h12:10≤n.kind∧n.kind≤12
 ·rw[if_pos h12]at h' ⊢
  rw[if_neg h']
 rw[if_neg h12]at h' ⊢
 rw[if_neg (by rw[hok];exact h')]
theorem wrF_no{E:WEnv}{f i x:Nat}{dp:Int}(hok:∀k t,E.ok k t=true↔ContentOk k t)(h:¬(x<E.t.length∧dp≤12∧FitP (nd E.s i) (vl E.t x))):wrF E (f+1) i x dp=some none:=by
 rw[wrF]
 split
 ·rename_i q
  rw[wbare_no hok q.2.1 (fun hf=>h ⟨q.1,q.2.2,hf⟩)]
  rfl
 ·rfl
theorem wrF_yes{E:WEnv}{f i x:Nat}{dp:Int}(h1:x<E.t.length)(h2:dp≤12)(h3:FitP (nd E.s i) (vl E.t x)):wrF E (f+1) i x dp=WOut.andThen (wbareF E (wrF E f) f (nd E.s i) (wcl (nd E.s i)) (wnu (nd E.s i)) (vl E.t x) (x+1) dp) fun b x' u=>some (some (if(nd E.s i).mode=1 then elB 2 true (nd E.s i).tag b else b,x',u)):=by
 rw[wrF,if_pos ⟨h1,h3.1,h2⟩]
theorem wnu_bd{s:List Nd}(h:RightP s){i:Nat}(hi:i<s.length):0≤wcl (nd s i)∧wcl (nd s i)≤3∧0≤wnu (nd s i)∧wnu (nd s i)≤30:=by
 have hk:=kinds_of h.2.2.1 i hi
 have ht:=(taggedOf h.2.2.1 i hi).2.1
 unfold wcl wnu
 split
 ·rename_i q;omega
 ·refine⟨by decide,by decide,?_⟩
  unfold own0
  split
  ·omega
  ·obtain⟨k,hkk⟩:∃k,(nd s i).kind=k:=⟨_,rfl⟩
   rw[hkk]at hk ⊢
   obtain rfl|rfl|rfl|rfl|rfl|rfl|rfl|rfl|rfl|rfl|rfl|rfl:k=1∨k=2∨k=3∨k=4∨k=5∨k=6∨k=7∨k=8∨k=9∨k=10∨k=11∨k=12:=by omega
   all_goals decide
def leafB(n:Nd)(t:ByteArray):ByteArray:=if n.mode=1 then elB 2 true n.tag (elB (wcl n) false (wnu n) t)else elB (wcl n) false (wnu n) t
theorem wnu_own{n:Nd}(h:n.kind≤12):(wcl n,wnu n)=n.ownT:=by
 unfold wcl wnu Nd.ownT own0
 by_cases q:n.mode=0∧0≤n.tag
 ·rw[if_pos ⟨q.2,q.1⟩,if_pos ⟨q.2,q.1⟩,if_pos q]
 ·rw[if_neg (fun z=>q ⟨z.2,z.1⟩),if_neg (fun z=>q ⟨z.2,z.1⟩),if_neg q,if_neg (by omega)]
theorem strip_el{c:Int}{b:Bool}{n:Int}{fs:List (Int×Int×Bool)}{t:ByteArray}(q1:0≤c)(q2:c≤3)(q3:0≤n)(q4:n≤30)(ht:t.size≤16777215):strip ((c,n,b)::fs) (elB c b n t)=strip fs t:=by
 have h:=hd_elB c b n t q1 q2 q3 q4 ht
 have hz:=elB_sz c b n t
 show(if _ then _ else none)=_
 rw[h]
 rw[if_pos ⟨rfl,rfl,by simp only;omega⟩]
 simp only
 rw[elB_rest]
theorem strip_inv{f:Int×Int×Bool}{fs:List (Int×Int×Bool)}{d u:ByteArray}(h:strip (f::fs) d=some u):∃d',d=elB f.1 f.2.2 f.2.1 d'∧strip fs d'=some u∧d'.size≤16777215:=by
 obtain⟨⟨h1,h2,h3⟩,h4⟩:=strip2.1 h
 obtain⟨e,_,_,_,_,e2,e3⟩:=elB_hd h1 h3
 refine⟨_,?_,h4,by omega⟩
 rw[←h2]
 exact e
theorem elB_one{c c':Int}{b b':Bool}{n n':Int}{s t:ByteArray}(h:(elB c b n s).size=(elB c' b' n' t).size):s.size=t.size:=by
 have h1:=elB_sz c b n s
 have h2:=elB_sz c' b' n' t
 rcases cnt_cases s.size with q|q|q|q<;>rcases cnt_cases t.size with q'|q'|q'|q'<;>omega
theorem leaf_elem{s:List Nd}{i:Nat}(hr:RightP s)(hi:i<s.length)(hk:(nd s i).kind≤9){d u t:ByteArray}(hu:ElemOk (nd s i) d u):leafB (nd s i) t=d↔t=u:=by
 obtain⟨hk1,_,hT1,hT2,hT3,hT4,hT5⟩:=tagged_of hr hi
 obtain⟨b1,b2,b3,b4⟩:=wnu_bd hr hi
 have hw:=wnu_own (n:=nd s i) (by omega)
 generalize nd s i=N at*
 have hmode:N.mode=0∨N.mode=1:=by omega
 have htm:N.tag<0→N.mode=0:=fun q=>hT3 (by omega)
 have hst:strip N.lays d=some u:=((elem_iff htm hmode).1 hu).1
 have hl:N.lays=if N.mode=1 then [(2,N.tag,true),(wcl N,wnu N,false)]else [(wcl N,wnu N,false)]:=by
  unfold Nd.lays
  rw[←hw]
 rw[hl]at hst
 unfold leafB
 by_cases hm:N.mode=1
 ·have htg:0≤N.tag:=by
   by_cases q:N.tag<0
   ·have:=htm q;omega
   ·omega
  rw[if_pos hm]at hst ⊢
  constructor
  ·rintro rfl
   obtain⟨d1,e1,_,z1⟩:=strip_inv hst
   have z2:=elB_one (congrArg ByteArray.size e1)
   have z3:=elB_sz (wcl N) false (wnu N) t
   have z4:=cnt_cases t.size
   rw[strip_el (by decide) (by decide) htg (by omega) (by omega),strip_el b1 b2 b3 b4 (by omega)]at hst
   injection hst
  ·rintro rfl
   obtain⟨d1,e1,h1,_⟩:=strip_inv hst
   obtain⟨d2,e2,h2,_⟩:=strip_inv h1
   injection h2 with h2
   rw[e1,e2,h2]
 ·rw[if_neg hm]at hst ⊢
  constructor
  ·rintro rfl
   obtain⟨d1,e1,_,z1⟩:=strip_inv hst
   have z2:=elB_one (congrArg ByteArray.size e1)
   rw[strip_el b1 b2 b3 b4 (by omega)]at hst
   injection hst
  ·rintro rfl
   obtain⟨d2,e2,h2,_⟩:=strip_inv hst
   injection h2 with h2
   rw[e2,h2]
theorem wrF_leaf{E:WEnv}{f i x:Nat}{dp:Int}(hk1:1≤(nd E.s i).kind)(hk9:(nd E.s i).kind≤9):wrF E (f+1) i x dp=
 if(x<E.t.length∧(vl E.t x).kind=(nd E.s i).kind∧dp≤12)∧E.ok (nd E.s i).kind (vl E.t x).text=true∧(vl E.t x).alt=0∧(vl E.t x).kids=0 then some (some (leafB (nd E.s i) (vl E.t x).text,x+1,false))else some none:=by
 rw[wrF]
 by_cases q:x<E.t.length∧(vl E.t x).kind=(nd E.s i).kind∧dp≤12
 ·rw[if_pos q]
  unfold wbareF
  rw[if_neg (by omega),if_neg (by omega),if_neg (by omega),if_neg (by omega)]
  by_cases q2:E.ok (nd E.s i).kind (vl E.t x).text=true∧(vl E.t x).alt=0∧(vl E.t x).kids=0
  ·rw[if_pos q2,if_pos ⟨q,q2⟩]
   rfl
  ·rw[if_neg q2,if_neg (fun z=>q2 z.2)]
   rfl
 ·rw[if_neg q,if_neg (fun z=>q z.1)]
theorem wrF_deep{E:WEnv}{f i x:Nat}{dp:Int}{b:ByteArray}{x':Nat}{u:Bool}(h:wrF E f i x dp=some (some (b,x',u))):dp≤12:=by
 match f with
 |0=>cases h
 |f+1=>
  rw[wrF]at h
  split at h
  ·rename_i q;exact q.2.2
  ·cases h
def LO(E:WEnv)(k:Kd)(x:Nat):Prop:=x<E.t.length∧((k.opt=true∧vl E.t x=⟨15,noB,0,0⟩)∨(k.dflt.size≠0∧∃u,ElemOk (nd E.s k.node.toNat) k.dflt u∧vl E.t x=⟨(nd E.s k.node.toNat).kind,u,0,0⟩))
theorem kidOf{n:Nd}{k:Kd}(hk:k∈n.kids):∃j,j<n.kids.length∧kd n j=k:=by
 obtain⟨j,hj,e⟩:=List.getElem_of_mem hk
 refine⟨j,hj,?_⟩
 unfold kd
 rw[List.getD_eq_getElem?_getD,List.getElem?_eq_getElem hj,Option.getD_some,e]
theorem noB_of{t:ByteArray}(h:t.size=0):t=noB:=by
 apply ByteArray.ext
 have:t.data.size=0:=h
 exact Array.eq_empty_of_size_eq_zero this
theorem wseq_kid{E:WEnv}{f:Nat}{dp:Int}{k:Kd}{ks:List Kd}{x:Nat}{out:ByteArray}{u:Bool}{r:WOut}(hr:RightP E.s)(hok:∀k t,E.ok k t=true↔ContentOk k t){i:Nat}(hi:i<E.s.length)(hk:k∈(nd E.s i).kids)
 (hf:1≤f)(e:wseqF E (wrF E f) dp (k::ks) x out u=some r):
 (LO E k x∧wseqF E (wrF E f) dp ks (x+1) out u=some r)∨(¬LO E k x∧∀r1,wrF E f k.node.toNat x (dp+1)=some r1→(r1=none∧r=none)∨∃b x' u',r1=some (b,x',u')∧wseqF E (wrF E f) dp ks x' (out++b) (u||u')=some r):=by
 obtain⟨f,rfl⟩:∃g,f=g+1:=⟨f-1,by omega⟩
 obtain⟨j,hj,hjk⟩:=kidOf hk
 have hKid:=(hr.2.2.1 i hi).2.2.2 j hj
 have hDf:=(hr.2.2.2.2 i hi).2 j hj
 rw[hjk]at hKid hDf
 obtain⟨hn0,hn1,_,hod⟩:=hKid
 have ht:k.node.toNat<E.s.length:=by omega
 obtain⟨hk1,hk14,_⟩:=tagged_of hr ht
 unfold wseqF at e
 by_cases q:k.opt=true∧x<E.t.length∧(vl E.t x).kind=15
 ·rw[if_pos q]at e
  have hd0:¬k.dflt.size≠0:=fun z=>hod ⟨q.1,z⟩
  by_cases q2:(vl E.t x).text.size=0∧(vl E.t x).alt=0∧(vl E.t x).kids=0
  ·rw[if_pos q2]at e
   refine .inl ⟨⟨q.2.1,.inl ⟨q.1,?_⟩⟩,e⟩
   have h1:=q.2.2
   have h2:=noB_of q2.1
   have h3:=q2.2.1
   have h4:=q2.2.2
   generalize vl E.t x=v at*
   obtain⟨a,b,c,d⟩:=v
   simp only at h1 h2 h3 h4
   subst h1 h2 h3 h4
   rfl
  ·rw[if_neg q2]at e
   refine .inr ⟨?_,fun r1 h1=> .inl ⟨?_,?_⟩⟩
   ·rintro⟨_,⟨_,h⟩|⟨h,_⟩⟩
    ·rw[h]at q2;exact q2 ⟨rfl,rfl,rfl⟩
    ·exact hd0 h
   ·rw[wrF,if_neg (fun z=>by have:=z.2.1;omega)]at h1
    injection h1 with h1;exact h1.symm
   ·injection e with e;exact e.symm
 rw[if_neg q]at e
 by_cases hd:k.dflt.size=0
 ·rw[if_pos hd]at e
  refine .inr ⟨?_,fun r1 h1=>?_⟩
  ·rintro⟨h0,⟨h,h'⟩|⟨h,_⟩⟩
   ·exact q ⟨h,h0,by rw[h']⟩
   ·exact h hd
  ·rcases wandThen_cases e with⟨h2,h3⟩|⟨b,x',u',h2,h3⟩
   ·rw[h2]at h1;injection h1 with h1;exact .inl ⟨h1.symm,h3⟩
   ·have hdp:=wrF_deep h2
    rw[h2]at h1
    injection h1 with h1
    rw[if_neg (fun z=>z.1 hd),if_neg (by omega)]at h3
    exact .inr ⟨b,x',u',h1.symm,h3⟩
 ·rw[if_neg hd]at e
  obtain⟨hk9,y,hy⟩:(nd E.s k.node.toNat).kind≤9∧∃u,ElemOk (nd E.s k.node.toNat) k.dflt u:=by
   rcases hDf with h|h
   ·exact absurd h hd
   ·exact h
  have hno:¬k.opt=true:=fun z=>hod ⟨z,hd⟩
  rw[wrF_leaf hk1 hk9]at e
  by_cases q3:(x<E.t.length∧(vl E.t x).kind=(nd E.s k.node.toNat).kind∧(1:Int)≤12)∧E.ok (nd E.s k.node.toNat).kind (vl E.t x).text=true∧(vl E.t x).alt=0∧(vl E.t x).kids=0
  ·rw[if_pos q3]at e
   unfold WOut.andThen at e
   simp only at e
   have hle:=leaf_elem hr ht hk9 (t:=(vl E.t x).text) hy
   by_cases q4:leafB (nd E.s k.node.toNat) (vl E.t x).text=k.dflt
   ·rw[if_pos ⟨hd,q4⟩,Bool.or_false]at e
    refine .inl ⟨⟨q3.1.1,.inr ⟨hd,y,hy,?_⟩⟩,e⟩
    have h1:=q3.1.2.1
    have h2:=hle.1 q4
    have h3:=q3.2.2.1
    have h4:=q3.2.2.2
    generalize vl E.t x=v at*
    obtain⟨a,b,c,d⟩:=v
    simp only at h1 h2 h3 h4
    subst h1 h2 h3 h4
    rfl
   ·rw[if_neg (fun z=>q4 z.2)]at e
    refine .inr ⟨?_,fun r1 h1=>?_⟩
    ·rintro⟨h0,⟨h,_⟩|⟨_,y',hy',h'⟩⟩
     ·exact hno h
     ·have:=elem_one hy' hy
      subst this
      exact q4 (hle.2 (by rw[h']))
    ·rw[wrF_leaf hk1 hk9]at h1
     by_cases hdp:12<dp+1
     ·rw[if_pos hdp]at e
      rw[if_neg (fun z=>by have:=z.1.2.2;omega)]at h1
      injection h1 with h1
      injection e with e
      exact .inl ⟨h1.symm,e.symm⟩
     ·rw[if_neg hdp]at e
      rw[if_pos ⟨⟨q3.1.1,q3.1.2.1,by omega⟩,q3.2⟩]at h1
      injection h1 with h1
      exact .inr ⟨_,_,_,h1.symm,e⟩
  ·rw[if_neg q3]at e
   refine .inr ⟨?_,fun r1 h1=> .inl ⟨?_,?_⟩⟩
   ·rintro⟨h0,⟨h,_⟩|⟨_,y',hy',h'⟩⟩
    ·exact hno h
    ·have hco:ContentOk (nd E.s k.node.toNat).kind y':=by
      obtain⟨_,_,hT1,hT2,hT3,hT4,hT5⟩:=tagged_of hr ht
      exact((elem_iff (fun z=>hT3 (by omega)) (by omega)).1 hy').2
     exact q3 ⟨⟨h0,by rw[h'],by decide⟩,by rw[h'];exact(hok _ _).2 hco,by rw[h'],by rw[h']⟩
   ·rw[wrF_leaf hk1 hk9,if_neg (fun z=>q3 ⟨⟨z.1.1,z.1.2.1,by decide⟩,z.2⟩)]at h1
    injection h1 with h1;exact h1.symm
   ·injection e with e;exact e.symm
end Go.Proofs.YtkkicodfpekbgaaGreatDoor
namespace Go.Proofs.YtkkicodfpekbgaaGreatDoor
open Go.RowKit
set_option linter.unusedSimpArgs false
set_option linter.unusedVariables false
set_option maxRecDepth 100000
set_option maxHeartbeats 8000000
def KidI(s:List Nd)(i:Nat)(kind:Int)(j:Nat)(k:Kd):Prop:=
 ∃m:Nat,k.node=(m:Int)∧i<m∧m<s.length∧(nd s m).tag=(j:Int)∧
  ((k.dflt=noB∧(k.opt=true→kind=10))∨(kind=10∧k.opt=false∧k.dflt=⟨#[UInt8.ofNat (128+j),1,0]⟩∧nd s m=⟨1,j,0,[]⟩))
structure NodeI(s:List Nd)(i:Nat):Prop where
 kind:1≤(nd s i).kind∧(nd s i).kind≤13
 tag: -1≤(nd s i).tag∧(nd s i).tag≤2
 mode:(nd s i).mode=0∨((nd s i).mode=1∧0≤(nd s i).tag)
 cho:(nd s i).kind=13→0≤(nd s i).tag→(nd s i).mode=1
 leaf:(nd s i).kind≤9→(nd s i).kids=[]
 seq:(nd s i).kind=10∨(nd s i).kind=13→1≤(nd s i).kids.length∧(nd s i).kids.length≤3∧∀j,j<(nd s i).kids.length→KidI s i (nd s i).kind j (kd (nd s i) j)
 sof:(nd s i).kind=11→∃k:Nat,(nd s i).kids=[⟨k,false,noB⟩]∧i<k∧k<s.length∧(nd s k).tag= -1
 set:(nd s i).kind=12→∃k:Nat,(nd s i).kids=[⟨k,false,noB⟩]∧i<k∧k<s.length∧nd s k=⟨2, -1,0,[]⟩
theorem NodeI.within{s:List Nd}{i:Nat}(h:NodeI s i):∀k∈(nd s i).kids,∃m:Nat,k.node=(m:Int)∧i<m∧m<s.length:=fun k hk=>by
 have hkind:=h.kind
 by_cases h1:(nd s i).kind≤9
 ·rw[h.leaf h1]at hk;cases hk
 by_cases h2:(nd s i).kind=10∨(nd s i).kind=13
 ·obtain⟨j,hj,e⟩:=kidOf hk
  obtain⟨m,h3,h4,h5,_⟩:=(h.seq h2).2.2 j hj
  rw[e]at h3
  exact⟨m,h3,h4,h5⟩
 by_cases h3:(nd s i).kind=11
 ·obtain⟨m,e,h4,h5,_⟩:=h.sof h3
  rw[e]at hk
  obtain rfl:=List.mem_singleton.1 hk
  exact⟨m,rfl,h4,h5⟩
 ·obtain⟨m,e,h4,h5,_⟩:=h.set (by omega)
  rw[e]at hk
  obtain rfl:=List.mem_singleton.1 hk
  exact⟨m,rfl,h4,h5⟩
theorem KidI.congr{s s':List Nd}{i j:Nat}{kind:Int}{k:Kd}(h:KidI s i kind j k)(hl:s.length≤s'.length)(he:∀m,i<m→m<s.length→nd s' m=nd s m):KidI s' i kind j k:=by
 obtain⟨m,h1,h2,h3,h4,h5⟩:=h
 refine⟨m,h1,h2,by omega,by rw[he m h2 h3];exact h4,?_⟩
 rw[he m h2 h3]
 exact h5
theorem NodeI.congr{s s':List Nd}{i:Nat}(h:NodeI s i)(hl:s.length≤s'.length)(he:∀m,i≤m→m<s.length→nd s' m=nd s m)(hi:i<s.length):NodeI s' i:=by
 have e:=he i (Nat.le_refl _) hi
 have he':∀m,i<m→m<s.length→nd s' m=nd s m:=fun m h1 h2=>he m (by omega) h2
 refine⟨?_,?_,?_,?_,?_,?_,?_,?_⟩ <;>rw[e]
 ·exact h.kind
 ·exact h.tag
 ·exact h.mode
 ·exact h.cho
 ·exact h.leaf
 ·exact fun q=>⟨(h.seq q).1,(h.seq q).2.1,fun j hj=>((h.seq q).2.2 j hj).congr hl he'⟩
 ·intro q
  obtain⟨k,h1,h2,h3,h4⟩:=h.sof q
  exact⟨k,h1,h2,by omega,by rw[he' k h2 h3];exact h4⟩
 ·intro q
  obtain⟨k,h1,h2,h3,h4⟩:=h.set q
  exact⟨k,h1,h2,by omega,by rw[he' k h2 h3];exact h4⟩
def Dp(s:List Nd):Nat→Nat→Prop
 |0,i=>(nd s i).kids=[]
 |d+1,i=>∀k∈(nd s i).kids,Dp s d k.node.toNat
theorem Dp.succ{s:List Nd}:∀{d i:Nat},Dp s d i→Dp s (d+1) i
 |0,i,h=>fun k hk=>by rw[show(nd s i).kids=[]from h]at hk;cases hk
 |d+1,i,h=>fun k hk=>Dp.succ (h k hk)
theorem Dp.leaf{s:List Nd}{i:Nat}(h:(nd s i).kids=[]):∀d,Dp s d i
 |0=>h
 |d+1=>(Dp.leaf h d).succ
theorem Dp.congr{s s':List Nd}{a:Nat}(hn:∀i,a≤i→i<s.length→NodeI s i)(he:∀m,a≤m→m<s.length→nd s' m=nd s m):∀{d i:Nat},a≤i→i<s.length→Dp s d i→Dp s' d i
 |0,i,h1,h2,h=>by show(nd s' i).kids=[];rw[he i h1 h2];exact h
 |d+1,i,h1,h2,h=>fun k hk=>by
  rw[he i h1 h2]at hk
  obtain⟨m,e,h3,h4⟩:=(hn i h1 h2).within k hk
  have:=h k hk
  rw[e,Int.toNat_natCast]at this ⊢
  exact Dp.congr hn he (by omega) h4 this
theorem length_app{α:Type}(a b:List α):(a++b).length=a.length+b.length:=List.length_append
theorem nd_app_left{s e:List Nd}{i:Nat}(h:i<s.length):nd (s++e) i=nd s i:=by
 unfold nd
 rw[List.getD_eq_getElem?_getD,List.getD_eq_getElem?_getD,List.getElem?_append_left h]
theorem nd_app_at(s:List Nd)(n:Nd)(e:List Nd):nd (s++n::e) s.length=n:=by
 unfold nd
 rw[List.getD_eq_getElem?_getD,List.getElem?_append_right (Nat.le_refl _),Nat.sub_self]
 rfl
theorem nd_app_behind(s:List Nd)(n n':Nd)(e:List Nd){i:Nat}(h:s.length<i):nd (s++n::e) i=nd (s++n'::e) i:=by
 unfold nd
 rw[List.getD_eq_getElem?_getD,List.getD_eq_getElem?_getD,List.getElem?_append_right (by omega),List.getElem?_append_right (by omega)]
 obtain⟨m,rfl⟩:∃m,i=s.length+1+m:=⟨i-(s.length+1),by omega⟩
 rw[show s.length+1+m-s.length=m+1 by omega]
 rfl
structure Grown(s e:List Nd)(tag:Int)(d:Nat):Prop where
 pos:0<e.length
 new:∀i,s.length≤i→i<(s++e).length→NodeI (s++e) i
 tag:(nd (s++e) s.length).tag=tag
 dep:Dp (s++e) d s.length
 many:24<s.length→e.length=1
 bound:s.length≤24→s.length+e.length≤28+2*d
theorem Grown.ofLeaf(s:List Nd){k t m:Int}(d:Nat)(hk1:1≤k)(hk9:k≤9)(ht1: -1≤t)(ht2:t≤2)(hm:m=0∨(m=1∧0≤t)):Grown s [⟨k,t,m,[]⟩] t d where
 pos:=by simp
 new:=fun i h1 h2=>by
  obtain rfl:i=s.length:=by simp at h2;omega
  have e:=nd_app_at s ⟨k,t,m,[]⟩ []
  refine⟨?_,?_,?_,?_,?_,?_,?_,?_⟩ <;>rw[e]
  ·exact⟨hk1,by show k≤13;omega⟩
  ·exact⟨ht1,ht2⟩
  ·exact hm
  ·intro q;have:k=13:=q;omega
  ·intro _;rfl
  ·intro q;have:k=10∨k=13:=q;omega
  ·intro q;have:k=11:=q;omega
  ·intro q;have:k=12:=q;omega
 tag:=by rw[nd_app_at]
 dep:=Dp.leaf (by rw[nd_app_at]) d
 many:=fun _=>rfl
 bound:=fun h=>by simp;omega
structure Kids(s1 e:List Nd)(P:List Nd→Nat→Kd→Prop)(ks:List Kd)(d:Nat):Prop where
 new:∀i,s1.length≤i→i<(s1++e).length→NodeI (s1++e) i
 kid:∀j,j<ks.length→P (s1++e) j (ks.getD j kd0)∧s1.length≤(ks.getD j kd0).node.toNat∧(ks.getD j kd0).node.toNat<(s1++e).length∧Dp (s1++e) d (ks.getD j kd0).node.toNat
 bound:s1.length≤25→s1.length+e.length≤27+2*d+ks.length
theorem Kids.nil(s1:List Nd)(P:List Nd→Nat→Kd→Prop)(d:Nat):Kids s1 [] P [] d where
 new:=fun i h1 h2=>by simp at h2;omega
 kid:=fun j hj=>by cases hj
 bound:=fun h=>by simp;omega
theorem Kids.more{s1 e e':List Nd}{P:List Nd→Nat→Kd→Prop}{ks:List Kd}{d:Nat}{k:Kd}{t:Int}(h:Kids s1 e P ks d)(g:Grown (s1++e) e' t d)(hk:k.node=((s1++e).length:Nat))(hp:P (s1++(e++e')) ks.length k)
 (hP:∀s s' j k,P s j k→s.length≤s'.length→(∀m,s1.length≤m→m<s.length→nd s' m=nd s m)→P s' j k):Kids s1 (e++e') P (ks++[k]) d where
 new:=fun i h1 h2=>by
  rw[←List.append_assoc]at h2 ⊢
  by_cases hi:i<(s1++e).length
  ·exact(h.new i h1 hi).congr (by rw[length_app (s1++e) e'];omega) (fun m _ hm=>nd_app_left hm) hi
  ·exact g.new i (by omega) h2
 kid:=fun j hj=>by
  rw[←List.append_assoc]
  have hl:(s1++e).length<(s1++e++e').length:=by rw[length_app (s1++e) e'];have:=g.pos;omega
  by_cases hjl:j<ks.length
  ·have e1:(ks++[k]).getD j kd0=ks.getD j kd0:=by rw[List.getD_eq_getElem?_getD,List.getD_eq_getElem?_getD,List.getElem?_append_left hjl]
   rw[e1]
   obtain⟨q1,q2,q3,q4⟩:=h.kid j hjl
   refine⟨hP _ _ _ _ q1 (by omega) (fun m _ hm=>nd_app_left hm),q2,by omega,Dp.congr (fun i h1 h2=>h.new i h1 h2) (fun m _ hm=>nd_app_left hm) q2 q3 q4⟩
  ·have ej:j=ks.length:=by simp at hj;omega
   have e1:(ks++[k]).getD j kd0=k:=by rw[ej,List.getD_eq_getElem?_getD,List.getElem?_append_right (Nat.le_refl _),Nat.sub_self];rfl
   rw[e1,ej,hk,Int.toNat_natCast]
   refine⟨by rw[List.append_assoc];exact hp,by rw[List.length_append];omega,hl,g.dep⟩
 bound:=fun h1=>by
  have h2:=h.bound h1
  have h3:=g.many
  have h4:=g.bound
  rw[List.length_append]at h3 h4 ⊢
  rw[List.length_append]
  show _≤27+2*d+(ks.length+1)
  by_cases q:s1.length+e.length≤24
  ·have:=h4 q;omega
  ·have:=h3 (by omega);omega
theorem Kids.done{s e:List Nd}{P:List Nd→Nat→Kd→Prop}{ks:List Kd}{d:Nat}{k t m:Int}(h:Kids (s++[⟨k,t,m,[]⟩]) e P ks d)(hl:s.length≤24)(hn:ks.length≤3)(hN:NodeI (s++⟨k,t,m,ks⟩::e) s.length):Grown s (⟨k,t,m,ks⟩::e) t (d+1) where
 pos:=by simp
 new:=fun i h1 h2=>by
  by_cases hi:i=s.length
  ·rw[hi];exact hN
  ·have:=h.new i (by simp;omega) (by simp at h2 ⊢;omega)
   rw[List.append_assoc]at this
   refine this.congr (by simp) (fun m h3 _=>nd_app_behind s _ _ e (by omega)) (by simp at h2 ⊢;omega)
 tag:=by rw[nd_app_at]
 dep:=fun q hq=>by
  rw[nd_app_at]at hq
  obtain⟨j,hj,ej⟩:=List.getElem_of_mem hq
  have e1:ks.getD j kd0=q:=by rw[List.getD_eq_getElem?_getD,List.getElem?_eq_getElem hj];exact ej
  obtain⟨_,q2,q3,q4⟩:=h.kid j hj
  rw[e1]at q2 q3 q4
  rw[List.append_assoc]at q3 q4
  have hnew:∀i,(s++[(⟨k,t,m,[]⟩:Nd)]).length≤i→i<(s++([(⟨k,t,m,[]⟩:Nd)]++e)).length→NodeI (s++([(⟨k,t,m,[]⟩:Nd)]++e)) i:=fun i h1 h2=>by
   have:=h.new i h1 (by rw[List.append_assoc];exact h2)
   rw[List.append_assoc]at this
   exact this
  exact Dp.congr hnew (fun m h3 _=>nd_app_behind s _ _ e (by simp at h3;omega)) q2 q3 q4
 many:=fun q=>by omega
 bound:=fun _=>by
  have:=h.bound (by simp;omega)
  simp at this ⊢
  omega
structure RC(E:Env)(W:World)(a:Option Addr):Prop where
 sch:Sch W a E.s
 right:RightP E.s
 sok:SchOk E.s
 bg:∀i,i<E.s.length→∀c m,E.bg i c m=true↔Beg E.s i c m
 ok:∀k t,E.ok k t=true↔ContentOk k t
 size:E.d.size≤4000
def OutIs(o:Out)(tree tree':List Vl)(e' p p':Int):Prop:=
 match o with
 | .error (e,q)=>e'=e∧p'=q∧e≠0
 | .ok (vs,_)=>e'=0∧tree'=tree++vs∧p'=p
def AfterR(E:Env)(W:World)(R:Nat)(a:Option Addr)(c:Nat)(o:Out)(tree:List Vl)(p:Int)(w w':World):Prop:=
 ∃tree' e' p',RdI W w' R a E.s.length c E.d tree' e' p'∧OutIs o tree tree' e' p p'∧Fr R w w'
def Room(tree:List Vl)(f x y:Nat):Prop:=tree.length+10*f+100*(y-x)≤1099511627776
def NodeC(E:Env)(W:World)(R:Nat)(a:Option Addr)(c f:Nat):Prop:=
 ∀(i x y:Nat) (dp:Int) (o:Out) (tree:List Vl) (p:Int) (w:World),rdF E f i x y dp=some o→i<E.s.length→x≤y→y≤E.d.size→1≤dp→dp≤13→Room tree f x y→RdI W w R a E.s.length c E.d tree 0 p→
  Calls Tryz.prog 69 #[.pointer (some ⟨R,0,none⟩),.int .i64 i,.int .i64 x,.int .i64 y,.int .i64 dp] w fun e w'=>∃v:Int,e= .returned (.int .i64 v)∧AfterR E W R a c o tree p w w'∧∀vs z,o= .ok (vs,z)→v=z
theorem RdI.r0{W w:World}{R:Nat}{a:Option Addr}{n c:Nat}{data:ByteArray}{tree:List Vl}{e p:Int}(h:RdI W w R a n c data tree e p):w.cell? ⟨R,0,none⟩=some (.slice a n c):=by
 obtain⟨_,_,vt,hr,_⟩:=h;unfold rdObj at hr;simp[World.cell?,hr]
theorem RdI.r1{W w:World}{R:Nat}{a:Option Addr}{n c:Nat}{data:ByteArray}{tree:List Vl}{e p:Int}(h:RdI W w R a n c data tree e p):w.cell? ⟨R,1,none⟩=some (.string data):=by
 obtain⟨_,_,vt,hr,_⟩:=h;unfold rdObj at hr;simp[World.cell?,hr]
theorem RdI.r3{W w:World}{R:Nat}{a:Option Addr}{n c:Nat}{data:ByteArray}{tree:List Vl}{e p:Int}(h:RdI W w R a n c data tree e p):w.cell? ⟨R,3,none⟩=some (.int .i64 e):=by
 obtain⟨_,_,vt,hr,_⟩:=h;unfold rdObj at hr;simp[World.cell?,hr]
theorem Fr.below{R:Nat}{w w1 w2:World}(h:Fr R w w1)(hb:Below w1.heap.size w1 w2):Fr R w w2:=h.trans (Fr.of_below hb)
theorem AfterR.of{E:Env}{W:World}{R:Nat}{a:Option Addr}{c:Nat}{o:Out}{tree:List Vl}{p:Int}{w w1 w':World}(h:AfterR E W R a c o tree p w1 w')(hf:Fr R w w1):AfterR E W R a c o tree p w w':=by
 obtain⟨t,e,q,h1,h2,h3⟩:=h
 exact⟨t,e,q,h1,h2,hf.trans h3⟩
theorem andThen_cases{α:Type}{o:Option Out}{k:List Vl→Nat→Option (Except (Int×Int) α)}{v:Except (Int×Int) α}(h:Out.andThen o k=some v):(∃e,o=some (.error e)∧v= .error e)∨∃vs z,o=some (.ok (vs,z))∧k vs z=some v:=by
 unfold Out.andThen at h
 split at h
 ·cases h
 ·rename_i e;exact .inl ⟨e,rfl,(Option.some.inj h).symm⟩
 ·rename_i vs z;exact .inr ⟨vs,z,rfl,h⟩
def IsErr(o:Out):Prop:=∀e q,o= .error (e,q)→e≠0
theorem choiceF_err{E:Env}{rec:Rec}(hr:∀i x y dp o,rec i x y dp=some o→IsErr o){h:Hd}{x tz:Nat}{dp:Int}:∀(ks:List Kd) (j:Nat) {o:Out},choiceF E rec h x tz dp ks j=some o→IsErr o
 | [],_,o,e=>by unfold choiceF at e;cases e;intro a b q;cases q;decide
 |k::ks,j,o,e=>by
  unfold choiceF at e
  split at e
  ·rcases andThen_cases e with⟨u,h1,rfl⟩|⟨vs,z,h1,h2⟩
   ·exact hr _ _ _ _ _ h1
   ·cases h2;intro a b q;cases q
  ·exact choiceF_err hr ks (j+1) e
theorem seqF_err{E:Env}{rec:Rec}(hr:∀i x y dp o,rec i x y dp=some o→IsErr o){tz:Nat}{dp:Int}:∀(ks:List Kd) (x:Nat) (acc:List Vl) {o:Out},seqF E rec tz dp ks x acc=some o→IsErr o
 | [],x,acc,o,e=>by unfold seqF at e;split at e<;> (cases e;intro a b q;cases q<;>decide)
 |k::ks,x,acc,o,e=>by
  unfold seqF at e
  split at e
  ·rename_i q;cases e;intro a b p;cases p;exact q.2
  split at e
  ·rcases andThen_cases e with⟨u,h1,rfl⟩|⟨vs,z,h1,h2⟩
   ·exact hr _ _ _ _ _ h1
   ·split at h2
    ·cases h2;intro a b q;cases q;decide
    ·exact seqF_err hr ks _ _ h2
  split at e
  ·exact seqF_err hr ks _ _ e
  split at e
  ·exact seqF_err hr ks _ _ e
  split at e<;> (cases e;intro a b q;cases q<;>decide)
theorem manyF_err{E:Env}{rec:Rec}(hr:∀i x y dp o,rec i x y dp=some o→IsErr o){set:Bool}{i tz:Nat}{dp:Int}:∀(m x:Nat) (last:ByteArray) (j:Nat) (acc:List Vl) {v:Except (Int×Int) (Nat×List Vl)},manyF E rec set i tz dp m x last j acc=some v→∀e q,v= .error (e,q)→e≠0
 |0,_,_,_,_,_,e=>by cases e
 |m+1,x,last,j,acc,v,e=>by
  unfold manyF at e
  split at e
  ·rcases andThen_cases e with⟨u,h1,rfl⟩|⟨vs,z,h1,h2⟩
   ·intro a b q;cases q;exact hr _ _ _ _ _ h1 _ _ rfl
   ·split at h2
    ·cases h2;intro a b q;cases q;decide
    ·exact manyF_err hr m _ _ _ _ h2
  ·cases e;intro a b q;cases q
theorem bareF_err{E:Env}{rec:Rec}(hr:∀i x y dp o,rec i x y dp=some o→IsErr o){m:Nat}{n:Nd}{cl nu:Int}{h:Hd}{x tz:Nat}{dp:Int}{o:Out}(e:bareF E rec m n cl nu h x tz dp=some o):IsErr o:=by
 unfold bareF at e
 split at e
 ·exact choiceF_err hr _ _ e
 split at e
 ·cases e;intro a b q;cases q;decide
 split at e
 ·cases e;intro a b q;cases q;decide
 split at e
 ·cases e;intro a b q;cases q
 split at e
 ·split at e
  ·cases e
  ·rename_i u hs;cases e;intro a b q;cases q;exact seqF_err hr _ _ _ hs _ _ rfl
  ·cases e;intro a b q;cases q
 split at e
 ·split at e
  ·cases e
  ·rename_i u hs;cases e;intro a b q;cases q;exact manyF_err hr _ _ _ _ _ hs _ _ rfl
  ·cases e;intro a b q;cases q
 split at e
 ·cases e;intro a b q;cases q
 ·cases e;intro a b q;cases q;decide
theorem valF_err{E:Env}{rec:Rec}(hr:∀i x y dp o,rec i x y dp=some o→IsErr o){m i:Nat}{h:Hd}{x tz:Nat}{dp:Int}{o:Out}(e:valF E rec m i h x tz dp=some o):IsErr o:=by
 unfold valF at e
 split at e
 ·exact bareF_err hr e
 split at e
 ·exact bareF_err hr e
 split at e
 ·cases e;intro a b q;cases q;decide
 split at e
 ·cases e;intro a b q;cases q;decide
 split at e
 ·rename_i q;cases e;intro a b p;cases p;exact q
 rcases andThen_cases e with⟨u,h1,rfl⟩|⟨vs,z,h1,h2⟩
 ·exact bareF_err hr h1
 ·split at h2<;> (cases h2;intro a b q;cases q<;>decide)
theorem rdF_err{E:Env}:∀(f i x y:Nat) (dp:Int) (o:Out),rdF E f i x y dp=some o→IsErr o
 |0,_,_,_,_,_,e=>by cases e
 |f+1,i,x,y,dp,o,e=>by
  rw[rdF]at e
  split at e
  ·rename_i q;cases e;intro a b p;cases p;exact q
  ·exact valF_err (rdF_err f) e
theorem out_err{o:Out}{e q:Int}(h:IsErr o)(ho:o= .error (e,q))(tree tree':List Vl)(p:Int):OutIs o tree tree' e p q:=by
 subst ho;exact⟨rfl,rfl,h e q rfl⟩
theorem out_ok(vs:List Vl)(z:Nat)(tree:List Vl)(p:Int):OutIs (.ok (vs,z)) tree (tree++vs) 0 p p:=⟨rfl,rfl,rfl⟩
end Go.Proofs.YtkkicodfpekbgaaGreatDoor
namespace Go.Proofs.YtkkicodfpekbgaaGreatDoor
set_option linter.unusedSimpArgs false
set_option linter.unusedVariables false
set_option maxRecDepth 100000
set_option maxHeartbeats 8000000
theorem choiceF_len{E:Env}{rec:Rec}{h:Hd}{x tz B:Nat}{dp:Int}:∀(ks:List Kd) (j:Nat) {vs:List Vl} {z:Nat},(∀k∈ks,∀vs z,rec k.node.toNat x tz dp=some (.ok (vs,z))→vs.length+1≤B)→choiceF E rec h x tz dp ks j=some (.ok (vs,z))→vs.length≤B
 | [],_,_,_,_,e=>by cases e
 |k::ks,j,vs,z,hB,e=>by
  unfold choiceF at e
  split at e
  ·obtain⟨us,z',h1,h2⟩:=andThen_ok e
   have:=hB k (by simp) us z' h1
   simp at h2
   rw[←h2.1];simpa using this
  ·exact choiceF_len ks (j+1) (fun k hk=>hB k (by simp[hk])) e
theorem seqF_len{E:Env}{rec:Rec}{tz:Nat}{dp:Int}:∀(ks:List Kd) (x:Nat) (acc:List Vl) {vs:List Vl} {z:Nat},(∀k∈ks,∀x vs z,rec k.node.toNat x tz dp=some (.ok (vs,z))→vs.length≤100*(z-x)∧x≤z∧z≤tz)→x≤tz→seqF E rec tz dp ks x acc=some (.ok (vs,z))→vs.length≤acc.length+ks.length+100*(z-x)∧x≤z∧z≤tz
 | [],x,acc,vs,z,_,hx,e=>by
   unfold seqF at e
   split at e
   ·cases e
   ·simp at e;obtain⟨rfl,rfl⟩:=e;simp;exact hx
 |k::ks,x,acc,vs,z,hr,hx,e=>by
  have hr':∀k∈ks,∀x vs z,rec k.node.toNat x tz dp=some (.ok (vs,z))→vs.length≤100*(z-x)∧x≤z∧z≤tz:=fun k hk=>hr k (by simp[hk])
  unfold seqF at e
  split at e
  ·cases e
  split at e
  ·obtain⟨us,z',h1,h2⟩:=andThen_ok e
   have h3:=hr k (by simp) x us z' h1
   split at h2
   ·cases h2
   ·have:=seqF_len ks z' _ hr' (by omega) h2
    simp only[List.length_append,List.length_cons]at this ⊢
    omega
  split at e
  ·have:=seqF_len ks x _ hr' hx e
   simp only[List.length_append,List.length_cons,List.length_nil]at this ⊢
   omega
  split at e
  ·have:=seqF_len ks x _ hr' hx e
   simp only[List.length_append,List.length_cons,List.length_nil]at this ⊢
   omega
  split at e<;>cases e
theorem manyF_len{E:Env}{rec:Rec}{set:Bool}{i tz:Nat}{dp:Int}(hr:∀x vs z,rec i x tz dp=some (.ok (vs,z))→vs.length≤100*(z-x)∧x≤z∧z≤tz):∀(m x:Nat) (last:ByteArray) (j:Nat) (acc:List Vl) {j':Nat} {vs:List Vl},x≤tz→manyF E rec set i tz dp m x last j acc=some (.ok (j',vs))→vs.length≤acc.length+100*(tz-x)
 |0,_,_,_,_,_,_,_,e=>by cases e
 |m+1,x,last,j,acc,j',vs,hx,e=>by
  unfold manyF at e
  split at e
  ·obtain⟨us,z',h1,h2⟩:=andThen_ok e
   have h3:=hr x us z' h1
   split at h2
   ·cases h2
   ·have:=manyF_len hr m z' _ _ _ (by omega) h2
    simp only[List.length_append]at this
    omega
  ·simp at e;rw[←e.2];omega
theorem bareF_len{E:Env}(hf:Fine E.s){f i:Nat}(hi:i<E.s.length){cl nu:Int}{x tz:Nat}{dp:Int}{h:Hd}{V C:Nat}(hV:V≤40)(hh:2≤h.s.toNat)(hxt:x+h.s.toNat≤tz)
 (hc:(nd E.s i).kind=13→∀k∈(nd E.s i).kids,∀vs z,rdF E f k.node.toNat x tz dp=some (.ok (vs,z))→vs.length+(V+1)≤100*(tz-x)+C)
 (hr:∀(j:Nat) (x':Nat) vs z,j<E.s.length→rdF E f j x' tz (dp+1)=some (.ok (vs,z))→vs.length≤100*(z-x'))
 {vs:List Vl}{z:Nat}(e:bareF E (rdF E f) f (nd E.s i) cl nu h x tz dp=some (.ok (vs,z))):vs.length+V≤100*(tz-x)+C:=by
 have hlt:∀k∈(nd E.s i).kids,k.node.toNat<E.s.length:=fun k hk=>by have:=hf.within i hi k hk;omega
 have hz:∀i x vs z,rdF E f i x tz (dp+1)=some (.ok (vs,z))→x≤z∧z≤tz:=fun i x vs z e=>by
  obtain⟨q1,q2⟩:=rdF_fin e
  have:=fin_le q1
  omega
 unfold bareF at e
 split at e
 ·rename_i q
  have:=choiceF_len (B:=100*(tz-x)+C-V) _ _ (fun k hk us z' h1=>by have:=hc q k hk us z' h1;omega) e
  omega
 split at e
 ·cases e
 split at e
 ·cases e
 split at e
 ·simp at e;rw[←e.1];simp;omega
 split at e
 ·split at e
  ·cases e
  ·cases e
  ·rename_i us z' hs
   have h8:=hf.eight i hi
   have:=seqF_len _ _ _ (fun k hk x' us z' h1=>⟨hr _ _ _ _ (hlt k hk) h1,hz _ _ _ _ h1⟩) hxt hs
   simp at e;rw[←e.1]
   simp only[List.length_nil,List.length_cons]at this ⊢
   omega
 split at e
 ·rename_i q
  split at e
  ·cases e
  ·cases e
  ·rename_i j us hs
   have h1:=hf.one i hi (by omega)
   have hk:=hlt _ (kd_mem (n:=nd E.s i) (i:=0) (by omega))
   have:=manyF_len (fun x' us z' h1=>⟨hr _ _ _ _ hk h1,hz _ _ _ _ h1⟩) _ _ _ _ _ hxt hs
   simp at e;rw[←e.1]
   simp only[List.length_nil,List.length_cons]at this ⊢
   omega
 split at e
 ·simp at e;rw[←e.1];simp;omega
 ·cases e
theorem rdF_len{E:Env}(hf:Fine E.s):∀(f i x y:Nat) (dp:Int) (V:List Nat),i<E.s.length→Way E.s V i→∀vs z,rdF E f i x y dp=some (.ok (vs,z))→vs.length+V.length≤100*(z-x)
 |0,_,_,_,_,_,_,_,_,_,e=>by cases e
 |f+1,i,x,y,dp,V,hi,hV,vs,z,e=>by
  have hVl:=hV.len hf
  obtain⟨hq,rfl⟩:=rdF_fin e
  have hfin:=fin_le hq
  have hlt:∀k∈(nd E.s i).kids,k.node.toNat<E.s.length:=fun k hk=>by have:=hf.within i hi k hk;omega
  have hr:∀(j:Nat) (x':Nat) (tz:Nat) vs z,j<E.s.length→rdF E f j x' tz (dp+1)=some (.ok (vs,z))→vs.length≤100*(z-x'):=fun j x' tz vs z hj e=>by
   have:=rdF_len hf f j x' tz (dp+1) [] hj (Way.nil _ _) vs z e
   simpa using this
  rw[rdF,if_neg (by rw[hq];decide)]at e
  unfold valF at e
  split at e
  ·rename_i ht
   refine bareF_len (C:=0) hf hi hVl (by omega) hfin.2.1 (fun hk k hkm us z' h1=>?_) (fun j x' us z' hj h1=>hr j x' _ us z' hj h1) e
   have:=rdF_len hf f k.node.toNat x _ dp (i::V) (hlt k hkm) (hV.cons hf hi ⟨hk,ht⟩ hkm) us z' h1
   obtain⟨a1,a2⟩:=rdF_fin h1
   have:=fin_le a1
   simp only[List.length_cons]at*
   omega
  split at e
  ·rename_i ht hm
   exact bareF_len (C:=0) hf hi hVl (by omega) hfin.2.1 (fun hk=>absurd hm (hf.tagged i hi hk (by omega))) (fun j x' us z' hj h1=>hr j x' _ us z' hj h1) e
  split at e
  ·cases e
  split at e
  ·cases e
  split at e
  ·cases e
  rename_i q'
  have hq':(E.hd (x+(E.hd x y).2.s.toNat) (fin x (E.hd x y).2)).1=0:=Classical.not_not.1 q'
  have hfin':=fin_le hq'
  obtain⟨us,z',h1,h2⟩:=andThen_ok e
  have h3:=bareF_len (V:=0) (C:=1) hf hi (by omega) (by omega) hfin'.2.1 (fun hk k hkm us z' h1=>by
   have:=rdF_len hf f k.node.toNat _ _ dp [] (hlt k hkm) (Way.nil _ _) us z' h1
   obtain⟨a1,a2⟩:=rdF_fin h1
   have:=fin_le a1
   simp only[List.length_nil]at*
   omega) (fun j x' us z' hj h1=>hr j x' _ us z' hj h1) h1
  split at h2
  ·cases h2
  ·simp at h2
   rw[←h2]
   omega
theorem rdF_len0{E:Env}(hf:Fine E.s){f i x y:Nat}{dp:Int}{vs:List Vl}{z:Nat}(hi:i<E.s.length)(e:rdF E f i x y dp=some (.ok (vs,z))):vs.length≤100*(z-x)∧x+2≤z∧z≤y∧z≤E.d.size:=by
 have:=rdF_len hf f i x y dp [] hi (Way.nil _ _) vs z e
 obtain⟨a1,a2⟩:=rdF_fin e
 have:=fin_le a1
 simp only[List.length_nil]at*
 omega
end Go.Proofs.YtkkicodfpekbgaaGreatDoor
namespace Go.Proofs.YtkkicodfpekbgaaGreatDoor
open Go.RowKit
set_option linter.unusedSimpArgs false
set_option linter.unusedVariables false
set_option maxRecDepth 100000
set_option maxHeartbeats 8000000
theorem vcells_app(l m:List Vl):vcells (l++m)=vcells l++vcells m:=by unfold vcells;simp
theorem vcells_len(l:List Vl):(vcells l).length=l.length*4:=by
 induction l with
 |nil=>rfl
 |cons v l ih=>show(v.cells++vcells l).length=_;rw[List.length_append,ih];show 4+l.length*4=_;simp;omega
theorem vcells_cons(v:Vl)(l:List Vl):vcells (v::l)=v.cells++vcells l:=by unfold vcells;simp
theorem choiceF_yes{E:Env}{rec:Rec}{h:Hd}{x tz:Nat}{dp:Int}{n:Nd}{j:Nat}{o:Out}(hj:j<n.kids.length)(e:choiceF E rec h x tz dp (n.kids.drop j) j=some o)(hb:E.bg (kd n j).node.toNat h.c h.n=true):
 ∃o',rec (kd n j).node.toNat x tz dp=some o'∧((∃u,o'= .error u∧o= .error u)∨∃vs z,o'= .ok (vs,z)∧o= .ok (⟨13,noB,j,1⟩::vs,tz)):=by
 rw[drop_kid hj]at e
 unfold choiceF at e
 rw[if_pos hb]at e
 rcases andThen_cases e with⟨u,h1,rfl⟩|⟨vs,z,h1,h2⟩
 ·exact⟨_,h1,.inl ⟨u,rfl,rfl⟩⟩
 ·cases h2;exact⟨_,h1,.inr ⟨vs,z,rfl,rfl⟩⟩
theorem choiceF_no{E:Env}{rec:Rec}{h:Hd}{x tz:Nat}{dp:Int}{n:Nd}{j:Nat}{o:Out}(hj:j<n.kids.length)(e:choiceF E rec h x tz dp (n.kids.drop j) j=some o)(hb:E.bg (kd n j).node.toNat h.c h.n=false):
 choiceF E rec h x tz dp (n.kids.drop (j+1)) (j+1)=some o:=by
 rw[drop_kid hj]at e
 unfold choiceF at e
 rw[if_neg (by rw[hb];decide)]at e
 exact e
theorem manyF_on{E:Env}{rec:Rec}{set:Bool}{i tz:Nat}{dp:Int}{m x:Nat}{last:ByteArray}{j:Nat}{acc:List Vl}{o:Except (Int×Int) (Nat×List Vl)}(e:manyF E rec set i tz dp m x last j acc=some o)(hx:x<tz):
 ∃o',rec i x tz dp=some o'∧((∃u,o'= .error u∧o= .error u)∨∃vs z,o'= .ok (vs,z)∧((set=true∧below (E.d.extract x z) last=true∧o= .error (8,(x:Int)))∨(¬(set=true∧below (E.d.extract x z) last=true)∧∃m',manyF E rec set i tz dp m' z (E.d.extract x z) (j+1) (acc++vs)=some o))):=by
 cases m with
 |zero=>cases e
 |succ m=>
  unfold manyF at e
  rw[if_pos hx]at e
  rcases andThen_cases e with⟨u,h1,rfl⟩|⟨vs,z,h1,h2⟩
  ·exact⟨_,h1,.inl ⟨u,rfl,rfl⟩⟩
  ·refine⟨_,h1,.inr ⟨vs,z,rfl,?_⟩⟩
   split at h2
   ·rename_i q;cases h2;exact .inl ⟨q.1,q.2,rfl⟩
   ·rename_i q;exact .inr ⟨q,m,h2⟩
theorem manyF_off{E:Env}{rec:Rec}{set:Bool}{i tz:Nat}{dp:Int}{m x:Nat}{last:ByteArray}{j:Nat}{acc:List Vl}{o:Except (Int×Int) (Nat×List Vl)}(e:manyF E rec set i tz dp m x last j acc=some o)(hx:¬x<tz):o= .ok (j,acc):=by
 cases m with
 |zero=>cases e
 |succ m=>unfold manyF at e;rw[if_neg hx]at e;exact(Option.some.inj e).symm
def OutM(kind:Int)(tz:Nat)(v:Except (Int×Int) (Nat×List Vl)):Out:=
 match v with
 | .error e=> .error e
 | .ok (j,vs)=> .ok (⟨kind,noB,0,j⟩::vs,tz)
theorem vcells_at(l:List Vl)(v:Vl)(m:List Vl):(vcells (l++v::m))[l.length*4+3]? =some (.int .i64 v.kids):=by
 rw[vcells_app,List.getElem?_append_right (by rw[vcells_len];omega),vcells_len,vcells_cons]
 rw[show l.length*4+3-l.length*4=3 by omega]
 rfl
theorem vcells_set(l:List Vl)(v:Vl)(m:List Vl)(k:Int):(vcells (l++v::m)).set (l.length*4+3) (.int .i64 k)=vcells (l++⟨v.kind,v.text,v.alt,k⟩::m):=by
 rw[vcells_app,vcells_app,List.set_append_right _ _ (by rw[vcells_len];omega),vcells_len,vcells_cons,vcells_cons]
 rw[show l.length*4+3-l.length*4=3 by omega]
 rfl
def DvOk(E:Env):Prop:=∀i,i<E.s.length→∀k∈(nd E.s i).kids,k.dflt.size≠0→∃u,ElemOk (nd E.s k.node.toNat) k.dflt u∧E.dv k=⟨(nd E.s k.node.toNat).kind,u,0,0⟩∧1≤(nd E.s k.node.toNat).kind∧(nd E.s k.node.toNat).kind≤9
def RetDec(v:Except (Int×Int) (List Vl))(w:World)(e:Ending)(w':World):Prop:=
 Below w.heap.size w w'∧
 match v with
 | .error (c,p)=>e= .returned (.tuple #[.slice none 0 0,.int .i64 p,.int .i64 c])
 | .ok vs=>∃ta tc,e= .returned (.tuple #[.slice ta vs.length tc,.int .i64 0,.int .i64 0])∧w'.ownsRow w.heap.size 60 4 (.slice ta vs.length tc) vs.length (vcells vs)
theorem own_lower{w:World}{base base':Nat}{e:TypeId}{size:Nat}{v:Value}{n:Nat}{xs:List Value}(h:w.ownsRow base e size v n xs)(hb:base'≤base):w.ownsRow base' e size v n xs:=by
 refine⟨h.1,?_⟩
 rcases h.2 with q|⟨g,cap,cur,q,q2,r⟩
 ·exact .inl q
 ·exact .inr ⟨g,cap,cur,q,Nat.le_trans hb q2,r⟩
structure EnvOk(E:Env):Prop where
 bg:∀i,i<E.s.length→∀c m,E.bg i c m=true↔Beg E.s i c m
 ok:∀k t,E.ok k t=true↔ContentOk k t
 dv:DvOk E
theorem env_ex(s:List Nd)(d:ByteArray)(h:RightP s):∃E:Env,E.s=s∧E.d=d∧EnvOk E:=by
 have hb:∃bg:Nat→Int→Int→Bool,∀i c m,bg i c m=true↔Beg s i c m:=
  ⟨fun i c m=> @decide (Beg s i c m) (Classical.propDecidable _),fun i c m=>by simp⟩
 have hk:∃ok:Int→ByteArray→Bool,∀k t,ok k t=true↔ContentOk k t:=
  ⟨fun k t=> @decide (ContentOk k t) (Classical.propDecidable _),fun k t=>by simp⟩
 have hd:∃dv:Kd→Vl,∀k u,ElemOk (nd s k.node.toNat) k.dflt u→dv k=⟨(nd s k.node.toNat).kind,u,0,0⟩:=by
  refine⟨fun k=>⟨(nd s k.node.toNat).kind,@dite _ (∃u,ElemOk (nd s k.node.toNat) k.dflt u) (Classical.propDecidable _) (fun q=>Classical.choose q) (fun _=>⟨#[]⟩),0,0⟩,fun k u hu=>?_⟩
  have q:∃u,ElemOk (nd s k.node.toNat) k.dflt u:=⟨u,hu⟩
  simp only[dif_pos q]
  rw[elem_one (Classical.choose_spec q) hu]
 obtain⟨bg,hb⟩:=hb
 obtain⟨ok,hk⟩:=hk
 obtain⟨dv,hd⟩:=hd
 refine⟨⟨s,d,bg,ok,dv⟩,rfl,rfl,fun i _ c m=>hb i c m,hk,fun i hi k hkm hne=>?_⟩
 obtain⟨j,hj,e⟩:=List.getElem_of_mem hkm
 have hkd:kd (nd s i) j=k:=by unfold kd;rw[List.getD_eq_getElem?_getD,List.getElem?_eq_getElem hj];exact e
 have hw:=h.fine.within i hi k hkm
 rcases(h.2.2.2.2 i hi).2 j hj with q|⟨q1,u,q2⟩
 ·rw[hkd]at q;exact absurd q hne
 ·rw[hkd]at q1 q2
  exact⟨u,q2,hd k u q2,(kinds_of h.2.2.1 k.node.toNat (by omega)).1,q1⟩
def DecV(E:Env)(s:List Nd)(root:Int)(d:ByteArray)(v:Except (Int×Int) (List Vl)):Prop:=
 (¬(RightP s∧0≤root∧root<s.length)∧v= .error (1,0))∨
 ((RightP s∧0≤root∧root<s.length)∧4000<d.size∧v= .error (2,0))∨
 ((RightP s∧0≤root∧root<s.length)∧d.size≤4000∧E.s=s∧E.d=d∧EnvOk E∧∃f,f≤1000000∧readF E f root.toNat=some v)
theorem decV_ex(s:List Nd)(root:Int)(d:ByteArray):∃E v,DecV E s root d v:=by
 by_cases h:RightP s∧0≤root∧root<s.length
 ·by_cases hd:d.size≤4000
  ·obtain⟨E,rfl,rfl,hE⟩:=env_ex s d h.1
   obtain⟨o,ho⟩:=rdF_some h.1.fine 168041 root.toNat 0 E.d.size 1 [] (by omega) (Way.nil _ _) (by simp only[List.length_nil];omega)
   obtain⟨v,hv⟩:∃v,readF E 168041 root.toNat=some v:=by
    unfold readF
    refine andThen_some ho fun vs z _=>?_
    split<;>exact⟨_,rfl⟩
   exact⟨E,v,.inr (.inr ⟨h,hd,rfl,rfl,hE,168041,by omega,hv⟩)⟩
  ·exact⟨⟨[],d,fun _ _ _=>false,fun _ _=>false,fun _=>⟨0,d,0,0⟩⟩,_,.inr (.inl ⟨h,by omega,rfl⟩)⟩
 ·exact⟨⟨[],d,fun _ _ _=>false,fun _ _=>false,fun _=>⟨0,d,0,0⟩⟩,_,.inl ⟨h,rfl⟩⟩
def ddObj(a:Option Addr)(n c gb:Nat)(data:ByteArray)(vt:Value):Obj:= .cells #[.slice a n c,.slice (some ⟨gb,0,none⟩) n n,.string data,vt] 144 (0,0)
structure RdD(W w:World)(R:Nat)(a:Option Addr)(n c gb:Nat)(data:ByteArray)(tree:List Vl):Prop where
 bel:Below W.heap.size W w
 lo:W.heap.size≤R
 own:∃vt,w.heap[R]? =some (ddObj a n c gb data vt)∧w.ownsRow W.heap.size 60 4 vt tree.length (vcells tree)
theorem RdD.below{W w w':World}{R:Nat}{a:Option Addr}{n c gb:Nat}{data:ByteArray}{tree:List Vl}(h:RdD W w R a n c gb data tree)(hb:Below w.heap.size w w'):RdD W w' R a n c gb data tree where
 bel:=h.bel.trans (hb.mono h.bel.size)
 lo:=h.lo
 own:=by
  obtain⟨vt,h1,h2⟩:=h.own
  exact⟨vt,block_below h1 hb,own_below h2 hb⟩
theorem RdD.r0{W w:World}{R:Nat}{a:Option Addr}{n c gb:Nat}{data:ByteArray}{tree:List Vl}(h:RdD W w R a n c gb data tree):w.cell? ⟨R,0,none⟩=some (.slice a n c):=by
 obtain⟨_,_,vt,hr,_⟩:=h;unfold ddObj at hr;simp[World.cell?,hr]
theorem RdD.r1{W w:World}{R:Nat}{a:Option Addr}{n c gb:Nat}{data:ByteArray}{tree:List Vl}(h:RdD W w R a n c gb data tree):w.cell? ⟨R,1,none⟩=some (.slice (some ⟨gb,0,none⟩) n n):=by
 obtain⟨_,_,vt,hr,_⟩:=h;unfold ddObj at hr;simp[World.cell?,hr]
theorem RdD.r2{W w:World}{R:Nat}{a:Option Addr}{n c gb:Nat}{data:ByteArray}{tree:List Vl}(h:RdD W w R a n c gb data tree):w.cell? ⟨R,2,none⟩=some (.string data):=by
 obtain⟨_,_,vt,hr,_⟩:=h;unfold ddObj at hr;simp[World.cell?,hr]
theorem dd_set{W w:World}{R:Nat}{A:Array Value}{tree:List Vl}{vt:Value}(i:Nat)(u:Value)(hb:Below W.heap.size W w)(hlo:W.heap.size≤R)(hg:w.heap[R]? =some (.cells A 144 (0,0)))
 (ho:w.ownsRow W.heap.size 60 4 vt tree.length (vcells tree)):
 Below W.heap.size W (w.setCell ⟨R,i,none⟩ u)∧(w.setCell ⟨R,i,none⟩ u).heap[R]? =some (.cells (A.setIfInBounds i u) 144 (0,0))∧(w.setCell ⟨R,i,none⟩ u).ownsRow W.heap.size 60 4 vt tree.length (vcells tree):=
 ⟨hb.setCell hlo u,heap_setCell_same w R i A _ u hg,ownsRow_setCell_other ho (row_ne hg ho (by decide)) u⟩
theorem add_any(W w:World)(R:Nat)(a:Option Addr)(n c gb:Nat)(data:ByteArray)(tree:List Vl)(k:Int)(u:ByteArray)(al ki:Int)(h:RdD W w R a n c gb data tree)(hl:tree.length≤1099511627776):
 Calls Tryz.prog 162 #[.pointer (some ⟨R,0,none⟩),.agg #[.int .i64 k,.string u,.int .i64 al,.int .i64 ki]] w fun e' w'=>e'= .returned (.tuple #[])∧RdD W w' R a n c gb data (tree++[⟨k,u,al,ki⟩])∧Fr R w w':=by
 obtain⟨i0,hi0,hz0,hz1,hz2⟩:=info_parts Tryz.infoVal
 obtain⟨hb,hlo,vt,hr,ho⟩:=h
 have HB:Hid (Below W.heap.size W w):=hb
 have HO:Hid (w.ownsRow W.heap.size 60 4 vt tree.length (vcells tree)):=ho
 have HR:Hid (w.heap[R]? =some (ddObj a n c gb data vt)):=hr
 unfold ddObj at hr
 have y3:w.cell? ⟨R,3,none⟩=some vt:=by simp[World.cell?,hr]
 have f3:w.frozen? ⟨R,3,none⟩=false:=by simp[World.frozen?,hr]
 have hRl:R<w.heap.size:=lt_of_cell y3
 have hsz:W.heap.size≤w.heap.size+1+1:=by have:=hb.size;omega
 have HAP:Hid (∀g cap w3,w3.ownsRow W.heap.size 60 4 (.slice (some ⟨g,0,none⟩) (tree.length+1) cap) (tree.length+1) (vcells tree++[.int .i64 k,.string u,.int .i64 al,.int .i64 ki])→((w.alloc (.cells #[.int .i64 k,.string u,.int .i64 al,.int .i64 ki] 60)).drew.alloc (.cells #[.int .i64 k,.string u,.int .i64 al,.int .i64 ki] 60)).grownBy w3 vt.ownBlock→
  w3.cell? ⟨R,3,none⟩=some vt∧w3.frozen? ⟨R,3,none⟩=false∧RdD W (w3.setCell ⟨R,3,none⟩ (.slice (some ⟨g,0,none⟩) (tree.length+1) cap)) R a n c gb data (tree++[⟨k,u,al,ki⟩])∧Fr R w (w3.setCell ⟨R,3,none⟩ (.slice (some ⟨g,0,none⟩) (tree.length+1) cap))):=fun g cap w3 h1 h2=>by
  have old:∀j,j<w.heap.size→(some j≠vt.ownBlock)→w3.heap[j]? =w.heap[j]? :=fun j hj hne=>by
   rw[h2.block j (by simp;omega) hne,Below.heap_alloc _ _ _ (by simp;omega)]
   exact Below.heap_alloc w _ _ hj
  have hR3:w3.heap[R]? =some (ddObj a n c gb data vt):=by
   rw[old R hRl (fun q=>row_ne HR.out HO.out (by decide) q.symm)];exact HR.out
  have hb3:Below W.heap.size W w3:=by
   have hb0:Below W.heap.size W ((w.alloc (.cells #[.int .i64 k,.string u,.int .i64 al,.int .i64 ki] 60)).drew.alloc (.cells #[.int .i64 k,.string u,.int .i64 al,.int .i64 ki] 60)):=(HB.out.alloc HB.out.size _).drew.alloc (by have:=HB.out.size;simp;omega) _
   exact hb0.grown h2 hb0.size (fun k hk=>(HO.out.lt k hk).1)
  have ho3:w3.ownsRow W.heap.size 60 4 (.slice (some ⟨g,0,none⟩) (tree.length+1) cap) (tree++[(⟨k,u,al,ki⟩:Vl)]).length (vcells (tree++[(⟨k,u,al,ki⟩:Vl)])):=by rw[vcells_append,List.length_append];exact h1
  obtain⟨b1,r1,o1⟩:=dd_set 3 (.slice (some ⟨g,0,none⟩) (tree.length+1) cap) hb3 hlo hR3 ho3
  refine⟨by unfold ddObj at hR3;simp[World.cell?,hR3],by unfold ddObj at hR3;simp[World.frozen?,hR3],⟨b1,hlo,_,r1,o1⟩,fun j A T hj hT hg=>?_⟩
  rw[heap_setCell_other _ _ _ _ hj,old j (row_lt hg) (fun q=>row_ne hg HO.out hT q.symm)]
  exact hg
 clear hb ho hr
 go_enter Tryz.func162,Tryz.ntmps162
 go_wp2_with fail
 go_region_law (refine step_append_lies _ rfl (.tmp 8) (.tmp 10) 39 rfl W.heap.size 60 i0 Tryz.zeroVal 4 40 Tryz.underlying39 hi0 hz0 hz1 hz2 rfl (by decide) vt tree.length (vcells tree) (by simp[Act.eval,Act.put]) ((HO.out.alloc _).drew.alloc _) ⟨w.heap.size+1,0,none⟩ 1 1 [.int .i64 k,.string u,.int .i64 al,.int .i64 ki] (by simp[Act.eval,Act.put]) rfl (by have q:=World.news_of_block (heap_alloc_new (w.alloc (.cells #[.int .i64 k,.string u,.int .i64 al,.int .i64 ki] 60)) (.cells #[.int .i64 k,.string u,.int .i64 al,.int .i64 ki] 60));simpa using q) (by intro u hu;simp at hu;rcases hu with rfl|rfl|rfl|rfl<;>rfl) (by decide) (by unfold maxLen;omega) (by omega) (by simpa using hsz) (w.heap.size+1+1) (by simp) ?_;intro g6 cap6 w6 h61 h62 h63 h64;obtain⟨e3,q3,hI6,hF6⟩:=HAP.out g6 cap6 w6 h61 h62;have HI6:=hide hI6;have HF6:=hide hF6;clear h61 h62 h63 h64 hI6 hF6)
 all_goals
  go_simp
  go_wp2
  go_returns
  exact⟨rfl,HI6.out,HF6.out⟩
theorem hideq{p:Prop}(h:p):Hid p:=h
abbrev Np:=Nd×Value
def pcells(ps:List Np):List Value:=ps.flatMap fun p=> [.int .i64 p.1.kind,.int .i64 p.1.tag,.int .i64 p.1.mode,p.2]
theorem pcells_app(a b:List Np):pcells (a++b)=pcells a++pcells b:=by unfold pcells;simp
theorem pcells_len(a:List Np):(pcells a).length=a.length*4:=by
 induction a with
 |nil=>rfl
 |cons p a ih=>
  have e:pcells (p::a)=[.int .i64 p.1.kind,.int .i64 p.1.tag,.int .i64 p.1.mode,p.2]++pcells a:=by unfold pcells;simp
  rw[e,List.length_append,ih]
  show 4+a.length*4=(a.length+1)*4
  omega
structure MkA(W w:World)(M:Nat)(na ta:Option Addr)(nl nc tl tc:Nat)(ps:List Np)(vs:Value)(tree:List Vl)(vl:Value):Prop where
 mak:MkI W w M na ta nl nc tl tc vs vl
 row:w.ownsRow W.heap.size 58 4 vs ps.length (pcells ps)
 kid:∀p∈ps,w.ownsRow W.heap.size 55 3 p.2 p.1.kids.length (kcells p.1.kids)
 val:w.ownsRow W.heap.size 60 4 vl tree.length (vcells tree)
theorem own_same{w w':World}{B:Nat}{e:TypeId}{size:Nat}{v:Value}{n:Nat}{xs:List Value}(h:w.ownsRow B e size v n xs)(hb:∀g,v.ownBlock=some g→w'.heap[g]? =w.heap[g]?):w'.ownsRow B e size v n xs:=by
 refine⟨h.1,?_⟩
 rcases h.2 with q|⟨g,cap,cur,q,q2,hg,r⟩
 ·exact .inl q
 ·exact .inr ⟨g,cap,cur,q,q2,(hb g (by rw[q];rfl)).trans hg,r⟩
theorem own_notM{w:World}{B:Nat}{e:TypeId}{size:Nat}{v:Value}{n:Nat}{xs:List Value}{M:Nat}{A:Array Value}(h:w.ownsRow B e size v n xs)(hM:w.heap[M]? =some (.cells A 97 (0,0)))(he:e≠97):∀g,v.ownBlock=some g→g≠M∧g<w.heap.size:=fun g hg=>by
 obtain⟨c,fz,hc⟩:=Lib.ownsRow_kind h g hg
 refine⟨fun e2=>?_,(h.lt g hg).2⟩
 subst e2
 rw[hM]at hc
 injection hc with hc
 injection hc with h1 h2 h3
 exact he h2.symm
theorem own_apart{w:World}{B B':Nat}{e e':TypeId}{s s':Nat}{v v':Value}{n n':Nat}{xs xs':List Value}(h:w.ownsRow B e s v n xs)(h':w.ownsRow B' e' s' v' n' xs')(hne:e≠e'):∀g,v.ownBlock=some g→v'.ownBlock≠some g:=fun g hb q=>by
 obtain⟨c,fz,h1⟩:=Lib.ownsRow_kind h g hb
 obtain⟨c',fz',h2⟩:=Lib.ownsRow_kind h' g q
 rw[h1]at h2
 injection h2 with h2
 injection h2 with _ h3 _
 exact hne h3
def FrN(M:Nat)(v v':Value)(w w':World):Prop:=w.heap.size≤w'.heap.size∧(∀j,j<w.heap.size→j≠M→v.ownBlock≠some j→w'.heap[j]? =w.heap[j]?)∧∀g,v'.ownBlock=some g→v.ownBlock=some g∨w.heap.size≤g
theorem FrN.refl(M:Nat)(v:Value)(w:World):FrN M v v w w:=⟨Nat.le_refl _,fun _ _ _ _=>rfl,fun _ h=> .inl h⟩
theorem FrN.ofM{M:Nat}{v:Value}{w w':World}(h:FrM M w w'):FrN M v v w w':=⟨h.1,fun j h1 h2 _=>h.2 j h2 h1,fun _ h=> .inl h⟩
theorem FrN.below{M:Nat}{v:Value}{w w':World}(h:Below w.heap.size w w'):FrN M v v w w':=FrN.ofM (FrM.below h)
theorem FrN.trans{M:Nat}{v v1 v2:Value}{w w1 w2:World}(h:FrN M v v1 w w1)(k:FrN M v1 v2 w1 w2):FrN M v v2 w w2:=by
 refine⟨Nat.le_trans h.1 k.1,fun j h1 h2 h3=>?_,fun g hg=>?_⟩
 ·rw[k.2.1 j (Nat.lt_of_lt_of_le h1 h.1) h2 (fun q=>by rcases h.2.2 j q with q|q;exact h3 q;omega)]
  exact h.2.1 j h1 h2 h3
 ·rcases k.2.2 g hg with q|q
  ·exact h.2.2 g q
  ·exact .inr (Nat.le_trans h.1 q)
theorem MkA.frm{W w w':World}{M:Nat}{na ta:Option Addr}{nl nc tl tc:Nat}{ps:List Np}{vs:Value}{tree:List Vl}{vl:Value}(h:MkA W w M na ta nl nc tl tc ps vs tree vl)(hI:MkI W w' M na ta nl nc tl tc vs vl)(hF:FrM M w w'):MkA W w' M na ta nl nc tl tc ps vs tree vl:=by
 obtain⟨n,t,_,_,hM⟩:=h.mak.own
 have hk:∀{B e s v n xs},w.ownsRow B e s v n xs→e≠97→w'.ownsRow B e s v n xs:=fun q he=>own_same q fun g hg=>hF.2 g (own_notM q hM he g hg).1 (own_notM q hM he g hg).2
 exact⟨hI,hk h.row (by decide),fun p hp=>hk (h.kid p hp) (by decide),hk h.val (by decide)⟩
theorem MkA.below{W w w':World}{M:Nat}{na ta:Option Addr}{nl nc tl tc:Nat}{ps:List Np}{vs:Value}{tree:List Vl}{vl:Value}(h:MkA W w M na ta nl nc tl tc ps vs tree vl)(hb:Below w.heap.size w w'):MkA W w' M na ta nl nc tl tc ps vs tree vl:=
 h.frm (h.mak.below hb) (FrM.below hb)
theorem MkA.lt{W w:World}{M:Nat}{na ta:Option Addr}{nl nc tl tc:Nat}{ps:List Np}{vs:Value}{tree:List Vl}{vl:Value}(h:MkA W w M na ta nl nc tl tc ps vs tree vl):M<w.heap.size:=by
 obtain⟨n,t,_,_,hM⟩:=h.mak.own
 exact row_lt hM
theorem MkA.c4{W w:World}{M:Nat}{na ta:Option Addr}{nl nc tl tc:Nat}{ps:List Np}{vs:Value}{tree:List Vl}{vl:Value}(h:MkA W w M na ta nl nc tl tc ps vs tree vl):w.cell? ⟨M,4,none⟩=some vs∧w.frozen? ⟨M,4,none⟩=false∧w.cell? ⟨M,5,none⟩=some vl∧w.frozen? ⟨M,5,none⟩=false:=by
 obtain⟨n,t,_,_,hM⟩:=h.mak.own
 exact⟨by simp[World.cell?,hM],by simp[World.frozen?,hM],by simp[World.cell?,hM],by simp[World.frozen?,hM]⟩
theorem MkA.put{W w wa w3:World}{M:Nat}{na ta:Option Addr}{nl nc tl tc:Nat}{ps:List Np}{vs:Value}{tree:List Vl}{vl:Value}(h:MkA W w M na ta nl nc tl tc ps vs tree vl)(hb:Below w.heap.size w wa){v3:Value}{n:Nd}{kv:Value}(hk:w.ownsRow W.heap.size 55 3 kv n.kids.length (kcells n.kids))
 (h1:w3.ownsRow W.heap.size 58 4 v3 (ps.length+1) (pcells ps++[.int .i64 n.kind,.int .i64 n.tag,.int .i64 n.mode,kv]))(h2:wa.grownBy w3 vs.ownBlock)(h3:∀g,v3.ownBlock=some g→vs.ownBlock=some g∨w.heap.size≤g):
 w3.cell? ⟨M,4,none⟩=some vs∧w3.frozen? ⟨M,4,none⟩=false∧M<w3.heap.size∧MkA W (w3.setCell ⟨M,4,none⟩ v3) M na ta nl nc tl tc (ps++[(n,kv)]) v3 tree vl∧FrN M vs v3 w (w3.setCell ⟨M,4,none⟩ v3):=by
 have hA:=h.below hb
 obtain⟨k,t,hk1,ht1,hM⟩:=hA.mak.own
 have hMne:vs.ownBlock≠some M:=fun q=>(own_notM hA.row hM (by decide) M q).1 rfl
 have hMl:M<wa.heap.size:=row_lt hM
 have hM3:w3.heap[M]? =some (.cells #[.slice na nl nc,.slice ta tl tc,.int .i64 k,.int .i64 t,vs,vl] 97 (0,0)):=by rw[h2.block M hMl (fun q=>hMne q.symm)];exact hM
 have keep:∀{B e s v n xs},wa.ownsRow B e s v n xs→e≠58→e≠97→(w3.setCell ⟨M,4,none⟩ v3).ownsRow B e s v n xs:=fun {B e s v n xs} q he1 he2=>own_same q fun g hg=>by
  have hn:=own_notM q hM he2 g hg
  rw[heap_setCell_other _ _ _ _ hn.1,h2.block g hn.2 (fun z=>own_apart q hA.row he1 g hg z.symm)]
 have hMn:(w3.setCell ⟨M,4,none⟩ v3).heap[M]? =some (.cells #[.slice na nl nc,.slice ta tl tc,.int .i64 k,.int .i64 t,v3,vl] 97 (0,0)):=by
  rw[heap_setCell_same w3 M 4 _ _ v3 hM3];rfl
 have hbw:Below W.heap.size W w3:=hA.mak.bel.grown h2 hA.mak.bel.size (fun g hg=>(hA.row.lt g hg).1)
 refine⟨by simp[World.cell?,hM3],by simp[World.frozen?,hM3],row_lt hM3,⟨⟨?_,hA.mak.lo,k,t,hk1,ht1,hMn⟩,?_,?_,keep hA.val (by decide) (by decide)⟩,?_,?_,h3⟩
 ·exact hbw.setCell (p:=⟨M,4,none⟩) hA.mak.lo v3
 ·rw[List.length_append,pcells_app]
  refine own_same h1 fun g hg=>heap_setCell_other _ _ _ _ fun e=>?_
  subst e
  rcases h3 _ hg with q|q
  ·exact hMne q
  ·have:=h.lt;omega
 ·intro p hp
  rcases List.mem_append.1 hp with hp|hp
  ·exact keep (hA.kid p hp) (by decide) (by decide)
  ·obtain rfl:=List.mem_singleton.1 hp
   exact keep (own_below hk hb) (by decide) (by decide)
 ·have:=h2.size
  have:=hb.size
  simp
  omega
 ·intro j j1 j2 j3
  rw[heap_setCell_other _ _ _ _ j2,h2.block j (by have:=hb.size;omega) (fun z=>j3 z.symm)]
  exact hb.block j j1
def Tryz.zeroNd:Value:= .agg #[.int .i64 0,.int .i64 0,.int .i64 0,.slice none 0 0]
theorem Tryz.infoNd:(Tryz.prog.info? 58).map (fun i=>(i.zero,i.size,i.bytes))=some (some Tryz.zeroNd,4,48):=by kernel_rfl
theorem madd_any(W w:World)(M:Nat)(na ta:Option Addr)(nl nc tl tc:Nat)(ps:List Np)(vs:Value)(tree:List Vl)(vl:Value)(k t m:Int)(h:MkA W w M na ta nl nc tl tc ps vs tree vl)(hl:ps.length≤1000):
 Calls Tryz.prog 72 #[.pointer (some ⟨M,0,none⟩),.agg #[.int .i64 k,.int .i64 t,.int .i64 m,.slice none 0 0]] w fun e w'=>e= .returned (.int .i64 ps.length)∧∃vs',MkA W w' M na ta nl nc tl tc (ps++[(⟨k,t,m,[]⟩,.slice none 0 0)]) vs' tree vl∧FrN M vs vs' w w':=by
 obtain⟨i0,hi0,hz0,hz1,hz2⟩:=info_parts Tryz.infoNd
 obtain⟨c4,f4,_,_⟩:=h.c4
 have HA:=hideq h
 have hMl:=h.lt
 have hsz:W.heap.size≤w.heap.size+1+1:=by have:=h.mak.bel.size;omega
 have HAP:Hid (∀g cap w3,w3.ownsRow W.heap.size 58 4 (.slice (some ⟨g,0,none⟩) (ps.length+1) cap) (ps.length+1) (pcells ps++[.int .i64 k,.int .i64 t,.int .i64 m,.slice none 0 0])→((w.alloc (.cells #[.int .i64 k,.int .i64 t,.int .i64 m,.slice none 0 0] 58)).drew.alloc (.cells #[.int .i64 k,.int .i64 t,.int .i64 m,.slice none 0 0] 58)).grownBy w3 vs.ownBlock→(vs.ownBlock=some g∨g=w.heap.size+1+1)→
  w3.cell? ⟨M,4,none⟩=some vs∧w3.frozen? ⟨M,4,none⟩=false∧M<w3.heap.size∧MkA W (w3.setCell ⟨M,4,none⟩ (.slice (some ⟨g,0,none⟩) (ps.length+1) cap)) M na ta nl nc tl tc (ps++[(⟨k,t,m,[]⟩,.slice none 0 0)]) (.slice (some ⟨g,0,none⟩) (ps.length+1) cap) tree vl∧FrN M vs (.slice (some ⟨g,0,none⟩) (ps.length+1) cap) w (w3.setCell ⟨M,4,none⟩ (.slice (some ⟨g,0,none⟩) (ps.length+1) cap))):=fun g cap w3 h1 h2 h3=>
  HA.out.put (n:=⟨k,t,m,[]⟩) (kv:= .slice none 0 0) (((Below.refl _ _).alloc (Nat.le_refl _) _).drew.alloc (by simp) _) (World.ownsRow_nil _ _ _ _) h1 h2 (fun g' hg=>by
   injection hg with hg
   subst hg
   rcases h3 with q|q
   ·exact .inl q
   ·exact .inr (by show w.heap.size≤g;omega))
 clear h
 go_enter Tryz.func72,Tryz.ntmps72
 go_wp2_with fail
 go_region_law (refine step_append_lies _ rfl (.tmp 9) (.tmp 11) 22 rfl W.heap.size 58 i0 Tryz.zeroNd 4 48 Tryz.underlying22 hi0 hz0 hz1 hz2 rfl (by decide) vs ps.length (pcells ps) (by simp[Act.eval,Act.put]) ((HA.out.row.alloc _).drew.alloc _) ⟨w.heap.size+1,0,none⟩ 1 1 [.int .i64 k,.int .i64 t,.int .i64 m,.slice none 0 0] (by simp[Act.eval,Act.put]) rfl (by have q:=World.news_of_block (heap_alloc_new (w.alloc (.cells #[.int .i64 k,.int .i64 t,.int .i64 m,.slice none 0 0] 58)) (.cells #[.int .i64 k,.int .i64 t,.int .i64 m,.slice none 0 0] 58));simpa using q) (by intro u hu;simp at hu;rcases hu with rfl|rfl|rfl|rfl<;>rfl) (by decide) (by unfold maxLen;omega) (by omega) (by simpa using hsz) (w.heap.size+1+1) (by simp) ?_;intro g6 cap6 w6 h61 h62 h63 h64;obtain⟨e3,q3,l3,hI6,hF6⟩:=HAP.out g6 cap6 w6 h61 h62 h63;have HI6:=hideq hI6;have HF6:=hideq hF6;clear h61 h62 h63 h64 hI6 hF6)
 all_goals
  go_simp
  go_wp2
  go_ret
  exact⟨rfl,_,HI6.out,HF6.out⟩
def Tryz.zeroStr:Value:= .string ⟨#[]⟩
theorem Tryz.infoStr:(Tryz.prog.info? 9).map (fun i=>(i.zero,i.size,i.bytes))=some (some Tryz.zeroStr,1,16):=by kernel_rfl
theorem conv_row(l:List UInt8)(W:World)(k:Nat)(hk:∀j,j<l.length→W.cell? ⟨k,j,none⟩=some (.int .u8 ((l.getD j 0).toNat:Int))):(convert 52 9 (.slice (some ⟨k,0,none⟩) l.length l.length)).run Tryz.prog W= .ok (.string ⟨l.toArray⟩) W:=by
 refine run_convert_bytes_back W 52 9 5 ⟨k,0,none⟩ l.length l Tryz.underlying52 Tryz.underlying5 Tryz.underlying9 fun j hj=>?_
 have e1:(⟨k,0,none⟩:Addr).add j=⟨k,j,none⟩:=add0 k j
 rw[e1,hk j hj,List.getD_eq_getElem?_getD,List.getElem?_eq_getElem hj]
 simp[hj]
theorem u8_of(x:Int)(h0:0≤x)(h1:x<256):((UInt8.ofNat x.toNat).toNat:Int)=x:=by
 have h:=UInt8.toNat_ofNat' (n:=x.toNat)
 omega
theorem conv_two(x y:Int)(h0:0≤x)(h1:x<256)(g0:0≤y)(g1:y<256)(w:World)(k:Nat)(hk:k=w.heap.size):(convert 52 9 (.slice (some ⟨k,0,none⟩) 2 2)).run Tryz.prog (w.alloc (.cells #[.int .u8 x,.int .u8 y] 5))= .ok (.string ⟨#[UInt8.ofNat x.toNat,UInt8.ofNat y.toNat]⟩) (w.alloc (.cells #[.int .u8 x,.int .u8 y] 5)):=by
 subst hk
 refine conv_row [UInt8.ofNat x.toNat,UInt8.ofNat y.toNat] _ _ fun j hj=>?_
 have hb:=heap_alloc_new w (.cells #[.int .u8 x,.int .u8 y] 5)
 match j,hj with
 |0,_=>show _=some (Value.int .u8 ((UInt8.ofNat x.toNat).toNat:Int));rw[u8_of x h0 h1];exact Go.cell_of_row _ _ _ _ _ _ hb
 |1,_=>show _=some (Value.int .u8 ((UInt8.ofNat y.toNat).toNat:Int));rw[u8_of y g0 g1];exact Go.cell_of_row _ _ _ _ _ _ hb
theorem conv_three(x y z:Int)(h0:0≤x)(h1:x<256)(g0:0≤y)(g1:y<256)(f0:0≤z)(f1:z<256)(w:World)(k:Nat)(hk:k=w.heap.size):(convert 52 9 (.slice (some ⟨k,0,none⟩) 3 3)).run Tryz.prog (w.alloc (.cells #[.int .u8 x,.int .u8 y,.int .u8 z] 5))= .ok (.string ⟨#[UInt8.ofNat x.toNat,UInt8.ofNat y.toNat,UInt8.ofNat z.toNat]⟩) (w.alloc (.cells #[.int .u8 x,.int .u8 y,.int .u8 z] 5)):=by
 subst hk
 refine conv_row [UInt8.ofNat x.toNat,UInt8.ofNat y.toNat,UInt8.ofNat z.toNat] _ _ fun j hj=>?_
 have hb:=heap_alloc_new w (.cells #[.int .u8 x,.int .u8 y,.int .u8 z] 5)
 match j,hj with
 |0,_=>show _=some (Value.int .u8 ((UInt8.ofNat x.toNat).toNat:Int));rw[u8_of x h0 h1];exact Go.cell_of_row _ _ _ _ _ _ hb
 |1,_=>show _=some (Value.int .u8 ((UInt8.ofNat y.toNat).toNat:Int));rw[u8_of y g0 g1];exact Go.cell_of_row _ _ _ _ _ _ hb
 |2,_=>show _=some (Value.int .u8 ((UInt8.ofNat z.toNat).toNat:Int));rw[u8_of z f0 f1];exact Go.cell_of_row _ _ _ _ _ _ hb
structure SrI(W w:World)(ts:List ByteArray)(vv lv:Value):Prop where
 bel:Below W.heap.size W w
 val:w.ownsRow W.heap.size 60 4 vv (ts.length+1) (vcells (srtT ts))
 txt:w.ownsRow W.heap.size 9 1 lv ts.length (ts.map Value.string)
theorem SrI.below{W w w':World}{ts:List ByteArray}{vv lv:Value}(h:SrI W w ts vv lv)(hb:Below w.heap.size w w'):SrI W w' ts vv lv:=
 ⟨h.bel.trans (hb.mono h.bel.size),own_below h.val hb,own_below h.txt hb⟩
def IntIn(w:World)(a:Option Addr)(n:Nat):Prop:=∀i,i<n→∃b o z,a=some ⟨b,o,none⟩∧w.cell? ⟨b,o+i,none⟩=some (.int .i64 z)∧ -9223372036854775808≤z∧z≤9223372036854775807
theorem srtT_snoc(ts:List ByteArray)(t:ByteArray):vcells (srtT (ts++[t]))=(vcells (srtT ts)++(⟨6,t,0,0⟩:Vl).cells).set 3 (.int .i64 ((ts.length:Int)+1)):=by
 unfold srtT vcells
 simp[Vl.cells]
theorem srt_cell(ts:List ByteArray)(t:ByteArray):(vcells (srtT ts)++(⟨6,t,0,0⟩:Vl).cells)[3]? =some (.int .i64 (ts.length:Int)):=by
 unfold srtT vcells
 simp[Vl.cells]
theorem cat_snoc:∀(ts:List ByteArray) (t:ByteArray),cat (ts++[t])=cat ts++oct t
 | [],t=>by
   show oct t++noB=noB++oct t
   apply ByteArray.ext
   apply Array.toList_inj.1
   rw[ByteArray.data_append,ByteArray.data_append,Array.toList_append,Array.toList_append]
   exact(List.append_nil _).trans (List.nil_append _).symm
 |u::ts,t=>by
  show oct u++cat (ts++[t])=oct u++cat ts++oct t
  rw[cat_snoc ts t,ByteArray.append_assoc]
theorem oct_two(t:ByteArray)(h:t.size=2):oct t=⟨#[4,2]⟩++t:=by
 unfold oct elB
 rw[h]
 rfl
theorem MkA.keep{W w w':World}{M:Nat}{na ta:Option Addr}{nl nc tl tc:Nat}{ps:List Np}{vs:Value}{tree:List Vl}{vl:Value}(h:MkA W w M na ta nl nc tl tc ps vs tree vl)(hb:Below W.heap.size W w')(hM:w'.heap[M]? =w.heap[M]?)
 (hr:∀g,(vs.ownBlock=some g∨vl.ownBlock=some g∨∃p∈ps,p.2.ownBlock=some g)→w'.heap[g]? =w.heap[g]?):MkA W w' M na ta nl nc tl tc ps vs tree vl:=by
 obtain⟨n,t,hn,ht,hm⟩:=h.mak.own
 exact⟨⟨hb,h.mak.lo,n,t,hn,ht,hM.trans hm⟩,own_same h.row fun g hg=>hr g (.inl hg),fun p hp=>own_same (h.kid p hp) fun g hg=>hr g (.inr (.inr ⟨p,hp,hg⟩)),own_same h.val fun g hg=>hr g (.inr (.inl hg))⟩
def Apart(ps:List Np)(kv:Value):Prop:=∀p∈ps,∀g,p.2.ownBlock=some g→kv.ownBlock≠some g
theorem MkA.other{W w w':World}{M:Nat}{na ta:Option Addr}{nl nc tl tc:Nat}{ps:List Np}{vs:Value}{tree:List Vl}{vl:Value}(h:MkA W w M na ta nl nc tl tc ps vs tree vl){R:Nat}{A:Array Value}(hR:w.heap[R]? =some (.cells A 55 (0,0)))(hlo:W.heap.size≤R)
 (hap:∀p∈ps,p.2.ownBlock≠some R)(hsz:w.heap.size≤w'.heap.size)(hs:∀k,k≠R→k<w.heap.size→w'.heap[k]? =w.heap[k]?)(hb:Below W.heap.size W w'):MkA W w' M na ta nl nc tl tc ps vs tree vl:=by
 obtain⟨n,t,hn,ht,hm⟩:=h.mak.own
 refine h.keep hb (hs M (fun e=>?_) (row_lt hm)) fun g hg=>?_
 ·subst e
  rw[hm]at hR
  injection hR with hR
  injection hR with _ q _
  exact absurd q (by decide)
 ·have hne:g≠R:=fun e=>by
   subst e
   rcases hg with hg|hg|⟨p,hp,hg⟩
   ·exact row_ne hR h.row (by decide) hg
   ·exact row_ne hR h.val (by decide) hg
   ·exact hap p hp hg
  refine hs g hne ?_
  rcases hg with hg|hg|⟨p,hp,hg⟩
  ·exact(h.row.lt g hg).2
  ·exact(h.val.lt g hg).2
  ·exact((h.kid p hp).lt g hg).2
def AfterN(W:World)(M:Nat)(na ta:Option Addr)(nl nc tl tc:Nat)(tree:List Vl)(vl:Value)(ps:List Np)(vs:Value)(t:Int)(d:Nat)(w w':World):Prop:=
 ∃ext vs',MkA W w' M na ta nl nc tl tc (ps++ext) vs' tree vl∧FrN M vs vs' w w'∧Grown (ps.map Prod.fst) (ext.map Prod.fst) t d∧∀p∈ext,∀g,p.2.ownBlock=some g→w.heap.size≤g
def NodeM(W:World)(M:Nat)(na ta:Option Addr)(nl nc tl tc:Nat)(tree:List Vl)(vl:Value)(d:Nat):Prop:=
 ∀(w:World) (ps:List Np) (vs:Value) (t:Int), -1≤t→t≤2→ps.length≤60→MkA W w M na ta nl nc tl tc ps vs tree vl→Calls Tryz.prog 44 #[.pointer (some ⟨M,0,none⟩),.int .i64 t,.int .i64 d] w fun e w'=>e= .returned (.int .i64 ps.length)∧AfterN W M na ta nl nc tl tc tree vl ps vs t d w w'
def KidP(kind:Int)(s:List Nd)(j:Nat)(k:Kd):Prop:=(k.dflt=noB∧(k.opt=true→kind=10))∨(kind=10∧k.opt=false∧k.dflt=⟨#[UInt8.ofNat (128+j),1,0]⟩∧nd s k.node.toNat=⟨1,j,0,[]⟩)
def AfterK(W:World)(M:Nat)(na ta:Option Addr)(nl nc tl tc:Nat)(tree:List Vl)(vl:Value)(ps:List Np)(vs:Value)(kind:Int)(j:Nat)(d:Nat)(w:World)(k:Kd)(w':World):Prop:=
 k.node=(ps.length:Nat)∧∃ext vs',MkA W w' M na ta nl nc tl tc (ps++ext) vs' tree vl∧FrN M vs vs' w w'∧Grown (ps.map Prod.fst) (ext.map Prod.fst) j d∧KidP kind ((ps++ext).map Prod.fst) j k∧∀p∈ext,∀g,p.2.ownBlock=some g→w.heap.size≤g
theorem mkid_any(W w:World)(M:Nat)(na ta:Option Addr)(nl nc tl tc:Nat)(ps:List Np)(vs:Value)(tree:List Vl)(vl:Value)(kind:Int)(j d:Nat)(hj:j≤2)(hkind:kind=10∨kind=13)(hd:d≤4)(hN:NodeM W M na ta nl nc tl tc tree vl d)(hp:PlanIn W na ta nl tl)(h:MkA W w M na ta nl nc tl tc ps vs tree vl)(hl:ps.length≤59):
 Calls Tryz.prog 73 #[.pointer (some ⟨M,0,none⟩),.int .i64 kind,.int .i64 j,.int .i64 d] w fun e w'=>∃k:Kd,e= .returned (.agg #[.int .i64 k.node,.bool k.opt,.string k.dflt])∧AfterK W M na ta nl nc tl tc tree vl ps vs kind j d w k w':=by
 have HA:Hid (MkA W (w.alloc (.cells #[.int .i64 0,.bool false,.string ⟨#[]⟩] 55)) M na ta nl nc tl tc ps vs tree vl):=h.below ((Below.refl _ _).alloc (Nat.le_refl _) _)
 have HNW:Hid (∀p∈ps,p.2.ownBlock≠some w.heap.size):=fun p hp q=>by have:=((h.kid p hp).lt _ q).2;omega
 have HLO:Hid (W.heap.size≤w.heap.size):=h.mak.bel.size
 have HO:Hid (∀wq (n:Int),0<n→n≤1000000→MkI W wq M na ta nl nc tl tc vs vl→Calls Tryz.prog 53 #[.pointer (some ⟨M,0,none⟩),.int .i64 n] wq fun e w'=>RetNo n (fun w'=>MkI W w' M na ta nl nc tl tc vs vl∧FrM M wq w') e w'):=fun wq n h1 h2 q=>one_any W wq M na ta nl nc tl tc vs vl n h1 h2 q hp
 have HN:=hideq hN
 clear h hp hN
 go_enter Tryz.func73,Tryz.ntmps73
 go_wp2_with fail
 refine(HO.out _ 4 (by omega) (by omega) HA.out.mak).mono ?_
 rintro e w1 ⟨r,rfl,r0,r1,hI1,hF1⟩
 have HA1:Hid (MkA W w1 M na ta nl nc tl tc ps vs tree vl):=HA.out.frm hI1 hF1
 have HMne:Hid (w.heap.size≠M):=by
  have:=HA.out.mak
  obtain⟨_,_,_,_,hM⟩:=this.own
  intro e
  have q:=heap_alloc_new w (.cells #[.int .i64 0,.bool false,.string ⟨#[]⟩] 55)
  rw[e,hM]at q
  injection q with q
  injection q with _ q _
  exact absurd q (by decide)
 have HR1:Hid (w1.heap[w.heap.size]? =some (.cells #[.int .i64 0,.bool false,.string ⟨#[]⟩] 55 (0,0))):=by
  show _=_
  rw[hF1.2 _ HMne.out (by simp)]
  exact heap_alloc_new w _
 have HF1:Hid (FrN M vs vs w w1):=(FrN.below ((Below.refl _ _).alloc (Nat.le_refl _) _)).trans (FrN.ofM hF1)
 clear hI1 hF1 HO HA
 have HFIN:Hid (∀(w2 w3:World) (ext:List Np) (vs':Value),MkA W w2 M na ta nl nc tl tc (ps++ext) vs' tree vl→FrN M vs vs' w1 w2→(∀p∈ext,∀g,p.2.ownBlock=some g→w1.heap.size≤g)→w2.heap.size≤w3.heap.size→(∀k,k≠w.heap.size→k<w2.heap.size→w3.heap[k]? =w2.heap[k]?)→Below W.heap.size W w3→MkA W w3 M na ta nl nc tl tc (ps++ext) vs' tree vl∧FrN M vs vs' w w3∧∀p∈ext,∀g,p.2.ownBlock=some g→w.heap.size≤g):=fun w2 w3 ext vs' h2 f2 hx hsz hs hb3=>by
  have hl1:=row_lt HR1.out
  have hR2:w2.heap[w.heap.size]? =some (.cells #[.int .i64 0,.bool false,.string ⟨#[]⟩] 55 (0,0)):=by
   rw[f2.2.1 _ hl1 HMne.out (row_ne HR1.out HA1.out.row (by decide))]
   exact HR1.out
  refine⟨h2.other hR2 HLO.out (fun p hp q=>?_) hsz hs hb3,?_,fun p hp g hg=>by have:=hx p hp g hg;omega⟩
  ·rcases List.mem_append.1 hp with hp|hp
   ·exact HNW.out p hp q
   ·have:=hx p hp _ q;omega
  ·have f3:=HF1.out.trans f2
   refine⟨Nat.le_trans f3.1 hsz,fun k k1 k2 k3=>?_,f3.2.2⟩
   rw[hs k (by omega) (by have:=f3.1;omega)]
   exact f3.2.1 k k1 k2 k3
 have hR1l:w.heap.size<w1.heap.size:=row_lt HR1.out
 by_cases hA:kind=10∧r=3
 ·obtain⟨hk,hr⟩:=hA
  subst hk hr
  have HAD:Hid (∀wq,wq=w1→Calls Tryz.prog 72 #[.pointer (some ⟨M,0,none⟩),.agg #[.int .i64 1,.int .i64 j,.int .i64 0,.slice none 0 0]] wq fun e w'=>e= .returned (.int .i64 ps.length)∧∃vs',MkA W w' M na ta nl nc tl tc (ps++[(⟨1,j,0,[]⟩,.slice none 0 0)]) vs' tree vl∧FrN M vs vs' w1 w'):=fun wq e=>by
   rw[e]
   exact madd_any W w1 M na ta nl nc tl tc ps vs tree vl 1 j 0 HA1.out (by omega)
  clear HN
  go_wp2_with fail
  refine(HAD.out _ rfl).mono ?_
  rintro e w2 ⟨rfl,vs',hA2,hF2⟩
  have HA2:=hideq hA2
  have HF2:=hideq hF2
  have hR2:w2.heap[w.heap.size]? =some (.cells #[.int .i64 0,.bool false,.string ⟨#[]⟩] 55 (0,0)):=by
   rw[hF2.2.1 _ hR1l HMne.out (row_ne HR1.out HA1.out.row (by decide))]
   exact HR1.out
  clear hA2 hF2
  have y0:w2.cell? ⟨w.heap.size,0,none⟩=some (.int .i64 0):=by simp[World.cell?,hR2]
  have y1:w2.cell? ⟨w.heap.size,1,none⟩=some (.bool false):=by simp[World.cell?,hR2]
  have y2:w2.cell? ⟨w.heap.size,2,none⟩=some (.string ⟨#[]⟩):=by simp[World.cell?,hR2]
  have z0:w2.frozen? ⟨w.heap.size,0,none⟩=false:=by simp[World.frozen?,hR2]
  have z1:w2.frozen? ⟨w.heap.size,1,none⟩=false:=by simp[World.frozen?,hR2]
  have z2:w2.frozen? ⟨w.heap.size,2,none⟩=false:=by simp[World.frozen?,hR2]
  have hl2:w.heap.size<w2.heap.size:=lt_of_cell y0
  obtain⟨db,hdb⟩:∃db:ByteArray,db=⟨#[UInt8.ofNat (128+(j:Int)).toNat,UInt8.ofNat (1:Int).toNat,UInt8.ofNat (0:Int).toNat]⟩:=⟨_,rfl⟩
  have hcv:=conv_three (128+j) 1 0 (by omega) (by omega) (by decide) (by decide) (by decide) (by decide)
  rw[←hdb]at hcv
  have HDB:Hid (db=⟨#[UInt8.ofNat (128+j),1,0]⟩):=by
   show _=_
   rw[hdb,show(128+(j:Int)).toNat=128+j by omega]
   rfl
  have hu:IntKind.u8.wrap (128+(j:Int))=128+(j:Int):=by simp[IntKind.wrap,IntKind.bits,IntKind.signed];omega
  have HB3:Hid (Below W.heap.size W ((((w2.setCell ⟨w.heap.size,0,none⟩ (.int .i64 ps.length)).setCell ⟨w.heap.size,1,none⟩ (.bool false)).setCell ⟨w.heap.size,2,none⟩ (.string db)).alloc (.cells #[.int .u8 (128+j),.int .u8 1,.int .u8 0] 5))):=(((HA2.out.mak.bel.setCell (p:=⟨w.heap.size,0,none⟩) HLO.out _).setCell (p:=⟨w.heap.size,1,none⟩) HLO.out _).setCell (p:=⟨w.heap.size,2,none⟩) HLO.out _).alloc (by have:=HA2.out.mak.bel.size;simp;omega) _
  have HEN:=hideq (HFIN.out w2 _ [(⟨1,j,0,[]⟩,.slice none 0 0)] vs' HA2.out HF2.out (fun p hp g hg=>by obtain rfl:=List.mem_singleton.1 hp;cases hg) (by simp) (fun k k1 k2=>by
   rw[Below.heap_alloc _ _ _ (by simpa using k2),heap_setCell_other _ _ _ _ k1,heap_setCell_other _ _ _ _ k1,heap_setCell_other _ _ _ _ k1]) HB3.out)
  clear hR2 hdb HFIN
  go_wp2
  have q0:((((w2.setCell ⟨w.heap.size,0,none⟩ (.int .i64 ps.length)).setCell ⟨w.heap.size,1,none⟩ (.bool false)).setCell ⟨w.heap.size,2,none⟩ (.string db)).alloc (.cells #[.int .u8 (128+(j:Int)),.int .u8 1,.int .u8 0] 5)).cell? ⟨w.heap.size,0,none⟩=some (.int .i64 ps.length):=(((Below.refl _ _).alloc (Nat.le_refl _) _).cell (p:=⟨w.heap.size,0,none⟩) (by simpa using hl2)).trans (by simp[go_sem,y0,y1,y2])
  have q1:((((w2.setCell ⟨w.heap.size,0,none⟩ (.int .i64 ps.length)).setCell ⟨w.heap.size,1,none⟩ (.bool false)).setCell ⟨w.heap.size,2,none⟩ (.string db)).alloc (.cells #[.int .u8 (128+(j:Int)),.int .u8 1,.int .u8 0] 5)).cell? ⟨w.heap.size,1,none⟩=some (.bool false):=(((Below.refl _ _).alloc (Nat.le_refl _) _).cell (p:=⟨w.heap.size,1,none⟩) (by simpa using hl2)).trans (by simp[go_sem,y0,y1,y2])
  have q2:((((w2.setCell ⟨w.heap.size,0,none⟩ (.int .i64 ps.length)).setCell ⟨w.heap.size,1,none⟩ (.bool false)).setCell ⟨w.heap.size,2,none⟩ (.string db)).alloc (.cells #[.int .u8 (128+(j:Int)),.int .u8 1,.int .u8 0] 5)).cell? ⟨w.heap.size,2,none⟩=some (.string db):=(((Below.refl _ _).alloc (Nat.le_refl _) _).cell (p:=⟨w.heap.size,2,none⟩) (by simpa using hl2)).trans (by simp[go_sem,y0,y1,y2])
  generalize((((w2.setCell ⟨w.heap.size,0,none⟩ (.int .i64 ps.length)).setCell ⟨w.heap.size,1,none⟩ (.bool false)).setCell ⟨w.heap.size,2,none⟩ (.string db)).alloc (.cells #[.int .u8 (128+(j:Int)),.int .u8 1,.int .u8 0] 5))=wF at q0 q1 q2 HEN ⊢
  refine bodyPost_ret (v:= .agg #[.int .i64 ps.length,.bool false,.string db]) (by simp[results,Tryz.results73,go_sem,q0,q1,q2]) rfl ?_
  refine⟨⟨ps.length,false,db⟩,rfl,rfl,_,vs',HEN.out.1,HEN.out.2.1,Grown.ofLeaf _ d (by decide) (by decide) (by omega) (by omega) (.inl rfl),.inr ⟨rfl,rfl,HDB.out,?_⟩,HEN.out.2.2⟩
  rw[List.map_append]
  show nd (ps.map Prod.fst++[⟨1,j,0,[]⟩]) (ps.length:Int).toNat=_
  have hl0:(ps.map Prod.fst).length=ps.length:=List.length_map Prod.fst
  rw[Int.toNat_natCast,←hl0]
  exact nd_app_at _ _ _
 ·have HNN:Hid (∀wq,wq=w1→Calls Tryz.prog 44 #[.pointer (some ⟨M,0,none⟩),.int .i64 j,.int .i64 d] wq fun e w'=>e= .returned (.int .i64 ps.length)∧AfterN W M na ta nl nc tl tc tree vl ps vs j d w1 w'):=fun wq e=>by
   rw[e]
   exact HN.out w1 ps vs j (by omega) (by omega) (by omega) HA1.out
  clear HN
  rcases hkind with rfl|rfl
  ·have hr3:(r==3)=false:=by simpa using hA
   clear hA
   by_cases hr2:r=2
   ·subst hr2
    clear hr3
    go_wp2_with fail
    refine(HNN.out _ rfl).mono ?_
    rintro e w2 ⟨rfl,ext,vs',hA2,hF2,hG2,hX2⟩
    have HA2:=hideq hA2
    have HF2:=hideq hF2
    have HG2:=hideq hG2
    have HX2:=hideq hX2
    have hR2:w2.heap[w.heap.size]? =some (.cells #[.int .i64 0,.bool false,.string ⟨#[]⟩] 55 (0,0)):=by
     rw[hF2.2.1 _ hR1l HMne.out (row_ne HR1.out HA1.out.row (by decide))]
     exact HR1.out
    clear hA2 hF2 hG2 hX2
    have y0:w2.cell? ⟨w.heap.size,0,none⟩=some (.int .i64 0):=by simp[World.cell?,hR2]
    have y1:w2.cell? ⟨w.heap.size,1,none⟩=some (.bool false):=by simp[World.cell?,hR2]
    have y2:w2.cell? ⟨w.heap.size,2,none⟩=some (.string ⟨#[]⟩):=by simp[World.cell?,hR2]
    have z0:w2.frozen? ⟨w.heap.size,0,none⟩=false:=by simp[World.frozen?,hR2]
    have z1:w2.frozen? ⟨w.heap.size,1,none⟩=false:=by simp[World.frozen?,hR2]
    have z2:w2.frozen? ⟨w.heap.size,2,none⟩=false:=by simp[World.frozen?,hR2]
    have hl2:w.heap.size<w2.heap.size:=lt_of_cell y0
    have HB3:Hid (Below W.heap.size W (((w2.setCell ⟨w.heap.size,0,none⟩ (.int .i64 ps.length)).setCell ⟨w.heap.size,1,none⟩ (.bool true)).setCell ⟨w.heap.size,2,none⟩ (.string ⟨#[]⟩))):=((HA2.out.mak.bel.setCell (p:=⟨w.heap.size,0,none⟩) HLO.out _).setCell (p:=⟨w.heap.size,1,none⟩) HLO.out _).setCell (p:=⟨w.heap.size,2,none⟩) HLO.out _
    have HEN:=hideq (HFIN.out w2 _ ext vs' HA2.out HF2.out HX2.out (by simp) (fun k k1 k2=>by
     rw[heap_setCell_other _ _ _ _ k1,heap_setCell_other _ _ _ _ k1,heap_setCell_other _ _ _ _ k1]) HB3.out)
    clear hR2 HFIN
    go_wp2
    refine bodyPost_ret (v:= .agg #[.int .i64 ps.length,.bool true,.string ⟨#[]⟩]) (by simp[results,Tryz.results73,go_sem,y0,y1,y2]) rfl ?_
    exact⟨⟨ps.length,true,⟨#[]⟩⟩,rfl,rfl,ext,vs',HEN.out.1,HEN.out.2.1,HG2.out,.inl ⟨rfl,fun _=>rfl⟩,HEN.out.2.2⟩
   ·have hr2':(r==2)=false:=by simpa using hr2
    clear hr2
    go_wp2_with fail
    refine(HNN.out _ rfl).mono ?_
    rintro e w2 ⟨rfl,ext,vs',hA2,hF2,hG2,hX2⟩
    have HA2:=hideq hA2
    have HF2:=hideq hF2
    have HG2:=hideq hG2
    have HX2:=hideq hX2
    have hR2:w2.heap[w.heap.size]? =some (.cells #[.int .i64 0,.bool false,.string ⟨#[]⟩] 55 (0,0)):=by
     rw[hF2.2.1 _ hR1l HMne.out (row_ne HR1.out HA1.out.row (by decide))]
     exact HR1.out
    clear hA2 hF2 hG2 hX2
    have y0:w2.cell? ⟨w.heap.size,0,none⟩=some (.int .i64 0):=by simp[World.cell?,hR2]
    have y1:w2.cell? ⟨w.heap.size,1,none⟩=some (.bool false):=by simp[World.cell?,hR2]
    have y2:w2.cell? ⟨w.heap.size,2,none⟩=some (.string ⟨#[]⟩):=by simp[World.cell?,hR2]
    have z0:w2.frozen? ⟨w.heap.size,0,none⟩=false:=by simp[World.frozen?,hR2]
    have z1:w2.frozen? ⟨w.heap.size,1,none⟩=false:=by simp[World.frozen?,hR2]
    have z2:w2.frozen? ⟨w.heap.size,2,none⟩=false:=by simp[World.frozen?,hR2]
    have hl2:w.heap.size<w2.heap.size:=lt_of_cell y0
    have HB3:Hid (Below W.heap.size W (((w2.setCell ⟨w.heap.size,0,none⟩ (.int .i64 ps.length)).setCell ⟨w.heap.size,1,none⟩ (.bool false)).setCell ⟨w.heap.size,2,none⟩ (.string ⟨#[]⟩))):=((HA2.out.mak.bel.setCell (p:=⟨w.heap.size,0,none⟩) HLO.out _).setCell (p:=⟨w.heap.size,1,none⟩) HLO.out _).setCell (p:=⟨w.heap.size,2,none⟩) HLO.out _
    have HEN:=hideq (HFIN.out w2 _ ext vs' HA2.out HF2.out HX2.out (by simp) (fun k k1 k2=>by
     rw[heap_setCell_other _ _ _ _ k1,heap_setCell_other _ _ _ _ k1,heap_setCell_other _ _ _ _ k1]) HB3.out)
    clear hR2 HFIN
    go_wp2
    refine bodyPost_ret (v:= .agg #[.int .i64 ps.length,.bool false,.string ⟨#[]⟩]) (by simp[results,Tryz.results73,go_sem,y0,y1,y2]) rfl ?_
    exact⟨⟨ps.length,false,⟨#[]⟩⟩,rfl,rfl,ext,vs',HEN.out.1,HEN.out.2.1,HG2.out,.inl ⟨rfl,fun q=>by cases q⟩,HEN.out.2.2⟩
  ·clear hA
   go_wp2_with fail
   refine(HNN.out _ rfl).mono ?_
   rintro e w2 ⟨rfl,ext,vs',hA2,hF2,hG2,hX2⟩
   have HA2:=hideq hA2
   have HF2:=hideq hF2
   have HG2:=hideq hG2
   have HX2:=hideq hX2
   have hR2:w2.heap[w.heap.size]? =some (.cells #[.int .i64 0,.bool false,.string ⟨#[]⟩] 55 (0,0)):=by
    rw[hF2.2.1 _ hR1l HMne.out (row_ne HR1.out HA1.out.row (by decide))]
    exact HR1.out
   clear hA2 hF2 hG2 hX2
   have y0:w2.cell? ⟨w.heap.size,0,none⟩=some (.int .i64 0):=by simp[World.cell?,hR2]
   have y1:w2.cell? ⟨w.heap.size,1,none⟩=some (.bool false):=by simp[World.cell?,hR2]
   have y2:w2.cell? ⟨w.heap.size,2,none⟩=some (.string ⟨#[]⟩):=by simp[World.cell?,hR2]
   have z0:w2.frozen? ⟨w.heap.size,0,none⟩=false:=by simp[World.frozen?,hR2]
   have z1:w2.frozen? ⟨w.heap.size,1,none⟩=false:=by simp[World.frozen?,hR2]
   have z2:w2.frozen? ⟨w.heap.size,2,none⟩=false:=by simp[World.frozen?,hR2]
   have hl2:w.heap.size<w2.heap.size:=lt_of_cell y0
   have HB3:Hid (Below W.heap.size W (((w2.setCell ⟨w.heap.size,0,none⟩ (.int .i64 ps.length)).setCell ⟨w.heap.size,1,none⟩ (.bool false)).setCell ⟨w.heap.size,2,none⟩ (.string ⟨#[]⟩))):=((HA2.out.mak.bel.setCell (p:=⟨w.heap.size,0,none⟩) HLO.out _).setCell (p:=⟨w.heap.size,1,none⟩) HLO.out _).setCell (p:=⟨w.heap.size,2,none⟩) HLO.out _
   have HEN:=hideq (HFIN.out w2 _ ext vs' HA2.out HF2.out HX2.out (by simp) (fun k k1 k2=>by
    rw[heap_setCell_other _ _ _ _ k1,heap_setCell_other _ _ _ _ k1,heap_setCell_other _ _ _ _ k1]) HB3.out)
   clear hR2 HFIN
   go_wp2
   refine bodyPost_ret (v:= .agg #[.int .i64 ps.length,.bool false,.string ⟨#[]⟩]) (by simp[results,Tryz.results73,go_sem,y0,y1,y2]) rfl ?_
   exact⟨⟨ps.length,false,⟨#[]⟩⟩,rfl,rfl,ext,vs',HEN.out.1,HEN.out.2.1,HG2.out,.inl ⟨rfl,fun q=>by cases q⟩,HEN.out.2.2⟩
theorem made_rch{s:List Nd}(h:∀i,i<s.length→NodeI s i){i j:Nat}(hi:i<s.length)(hr:Rch s i j):i≤j∧j<s.length:=
 Rch.ind (P:=fun j=>i≤j∧j<s.length) ⟨Nat.le_refl _,hi⟩ (fun m k _ _ hk ih=>by
  obtain⟨m',e,h1,h2⟩:=(h m ih.2).within k hk
  rw[e,Int.toNat_natCast]
  exact⟨by omega,h2⟩) hr
theorem rch_shut{s:List Nd}{i j:Nat}(ho:¬(nd s i).opn)(hr:Rch s i j):j=i:=
 Rch.ind (P:=fun j=>j=i) rfl (fun m k _ hop _ ih=>absurd (ih▸hop) ho) hr
theorem made_beg{s:List Nd}{i:Nat}(ht:0≤(nd s i).tag){c m:Int}(hb:Beg s i c m):c=2∧m=(nd s i).tag:=by
 obtain⟨j,⟨hr,_⟩,hbg⟩:=hb
 obtain rfl:=rch_shut (fun q=>by have:=q.2;omega) hr
 rcases hbg with⟨_,h1,h2⟩|⟨h1,_⟩|⟨h1,_⟩
 ·exact⟨h1,h2⟩
 ·omega
 ·omega
theorem dflt_elem(j:Nat)(hj:j≤2):ElemOk ⟨1,j,0,[]⟩ ⟨#[UInt8.ofNat (128+j),1,0]⟩ ⟨#[0]⟩:=by
 refine(elem_iff (fun q=>rfl) (.inl rfl)).2 ⟨?_,(contentOk_1 _).1 ⟨rfl,.inl rfl⟩⟩
 have hc:j=0∨j=1∨j=2:=by omega
 rcases hc with rfl|rfl|rfl<;>rfl
theorem made_right{s:List Nd}(h:∀i,i<s.length→NodeI s i)(h1:1≤s.length)(h40:s.length≤40):RightP s:=by
 refine⟨h1,h40,fun i hi=>?_,fun i hi=>?_,fun i hi=>?_⟩
 ·have hN:=h i hi
  have hk:=hN.kind
  have ht:=hN.tag
  have hm:=hN.mode
  have hc:=hN.cho
  refine⟨by unfold Bad1;omega,by unfold Bad2;omega,?_,fun j hj=>?_⟩
  ·unfold Count
   by_cases k9:(nd s i).kind≤9
   ·rw[if_neg (by omega),if_neg (by omega),if_neg (by omega),hN.leaf k9];rfl
   by_cases k10:(nd s i).kind=10
   ·rw[if_pos k10];have:=(hN.seq (.inl k10)).2.1;omega
   by_cases k13:(nd s i).kind=13
   ·rw[if_neg (by omega),if_neg (by omega),if_pos k13];have:=hN.seq (.inr k13);omega
   by_cases k11:(nd s i).kind=11
   ·rw[if_neg (by omega),if_pos (.inl k11)];obtain⟨k,e,_⟩:=hN.sof k11;rw[e];rfl
   ·have k12:(nd s i).kind=12:=by omega
    rw[if_neg (by omega),if_pos (.inr k12)];obtain⟨k,e,_⟩:=hN.set k12;rw[e];rfl
  ·by_cases k9:(nd s i).kind≤9
   ·rw[hN.leaf k9]at hj;cases hj
   by_cases ks:(nd s i).kind=10∨(nd s i).kind=13
   ·obtain⟨m,e,q1,q2,q3,q4⟩:=(hN.seq ks).2.2 j hj
    refine⟨by omega,by omega,?_,?_⟩
    ·by_cases k10:(nd s i).kind=10
     ·exact .inr k10
     ·rcases q4 with⟨e2,e3⟩|⟨e2,_⟩
      ·refine .inl ⟨?_,by rw[e2];rfl⟩
       cases ho:(kd (nd s i) j).opt
       ·rfl
       ·exact absurd (e3 ho) k10
      ·exact absurd e2 k10
    ·rintro⟨o1,o2⟩
     rcases q4 with⟨e2,_⟩|⟨_,e3,_⟩
     ·rw[e2]at o2;exact o2 rfl
     ·rw[e3]at o1;cases o1
   ·have key:∃k:Nat,(nd s i).kids=[⟨k,false,noB⟩]∧i<k∧k<s.length:=by
     by_cases k11:(nd s i).kind=11
     ·obtain⟨k,e,q1,q2,_⟩:=hN.sof k11;exact⟨k,e,q1,q2⟩
     ·obtain⟨k,e,q1,q2,_⟩:=hN.set (by omega);exact⟨k,e,q1,q2⟩
    obtain⟨k,e,q1,q2⟩:=key
    rw[e]at hj
    have hj0:j=0:=by simp at hj;omega
    have ek:kd (nd s i) j=⟨k,false,noB⟩:=by rw[hj0];unfold kd;rw[e];rfl
    rw[ek]
    exact⟨by show(0:Int)≤(k:Int);omega,by show(k:Int)<s.length;omega,.inl ⟨rfl,rfl⟩,fun q=>by cases q.1⟩
 ·rintro⟨j,hr,_,k,hk,e⟩
  obtain⟨h2,h3⟩:=made_rch h hi hr
  obtain⟨m,e2,h4,h5⟩:=(h j h3).within k hk
  omega
 ·have hN:=h i hi
  refine⟨fun ks a ha=> .inr fun b hab hb _=>?_,fun j hj=>?_⟩
  ·rintro⟨c,m,_,_,_,_,b1,b2⟩
   obtain⟨ma,ea,_,_,ta,_⟩:=(hN.seq ks).2.2 a ha
   obtain⟨mb,eb,_,_,tb,_⟩:=(hN.seq ks).2.2 b hb
   rw[ea,Int.toNat_natCast]at b1
   rw[eb,Int.toNat_natCast]at b2
   have r1:=made_beg (by rw[ta];omega) b1
   have r2:=made_beg (by rw[tb];omega) b2
   omega
  ·by_cases ks:(nd s i).kind=10∨(nd s i).kind=13
   ·obtain⟨m,e,q1,q2,q3,q4⟩:=(hN.seq ks).2.2 j hj
    rcases q4 with⟨e2,_⟩|⟨_,_,e3,e4⟩
    ·exact .inl (by rw[e2];rfl)
    ·refine .inr ?_
     rw[e,Int.toNat_natCast,e4,e3]
     exact⟨by show(1:Int)≤9;decide,⟨#[0]⟩,dflt_elem j (by have:=(hN.seq ks).2.1;omega)⟩
   ·refine .inl ?_
    have hk:=hN.kind
    by_cases k9:(nd s i).kind≤9
    ·rw[hN.leaf k9]at hj;cases hj
    have key:∃k:Nat,(nd s i).kids=[⟨k,false,noB⟩]:=by
     by_cases k11:(nd s i).kind=11
     ·obtain⟨k,e,_⟩:=hN.sof k11;exact⟨k,e⟩
     ·obtain⟨k,e,_⟩:=hN.set (by omega);exact⟨k,e⟩
    obtain⟨k,e⟩:=key
    rw[e]at hj
    have hj0:j=0:=by simp at hj;omega
    rw[hj0]
    unfold kd
    rw[e]
    rfl
theorem MkA.grow{W w wa w3:World}{M:Nat}{na ta:Option Addr}{nl nc tl tc:Nat}{ps:List Np}{vs:Value}{tree:List Vl}{vl:Value}(h:MkA W w M na ta nl nc tl tc ps vs tree vl)(hb:Below w.heap.size w wa){B:Nat}{kv:Value}{n:Nat}{xs:List Value}(hk:w.ownsRow B 55 3 kv n xs)(hB:W.heap.size≤B)
 (hap:Apart ps kv)(h2:wa.grownBy w3 kv.ownBlock):MkA W w3 M na ta nl nc tl tc ps vs tree vl:=by
 have hA:=h.below hb
 obtain⟨a,t,ha,ht,hm⟩:=hA.mak.own
 have hk':=own_below hk hb
 refine hA.keep (hA.mak.bel.grown h2 hA.mak.bel.size (fun g hg=>Nat.le_trans hB (hk.lt g hg).1)) (h2.block M (row_lt hm) fun q=>(own_notM hk' hm (by decide) M q.symm).1 rfl) fun g hg=>?_
 rcases hg with hg|hg|⟨p,hp,hg⟩
 ·exact h2.block g (hA.row.lt g hg).2 fun q=>own_apart hA.row hk' (by decide) g hg q.symm
 ·exact h2.block g (hA.val.lt g hg).2 fun q=>own_apart hA.val hk' (by decide) g hg q.symm
 ·exact h2.block g ((hA.kid p hp).lt g hg).2 fun q=>hap p hp g hg q.symm
theorem FrN.grow{M:Nat}{v v':Value}{w0 w wa w3:World}(h:FrN M v v' w0 w)(hb:Below w.heap.size w wa){kv:Value}(hk:∀g,kv.ownBlock=some g→w0.heap.size≤g)(h2:wa.grownBy w3 kv.ownBlock):FrN M v v' w0 w3:=by
 refine⟨by have:=h.1;have:=hb.size;have:=h2.size;omega,fun j j1 j2 j3=>?_,h.2.2⟩
 have:=h.1
 have:=hb.size
 rw[h2.block j (by omega) fun q=>by have:=hk j q.symm;omega,hb.block j (by omega)]
 exact h.2.1 j j1 j2 j3
theorem Apart.grow{W w wa:World}{M:Nat}{na ta:Option Addr}{nl nc tl tc:Nat}{ps:List Np}{vs:Value}{tree:List Vl}{vl:Value}{kv:Value}(hap:Apart ps kv)(h:MkA W w M na ta nl nc tl tc ps vs tree vl)(hb:w.heap.size≤wa.heap.size){g cap n:Nat}(hg:kv.ownBlock=some g∨g=wa.heap.size):Apart ps (.slice (some ⟨g,0,none⟩) n cap):=fun p hp g' hg' q=>by
 injection q with q
 have q:g=g':=q
 subst q
 rcases hg with hg|hg
 ·exact hap p hp g hg' hg
 ·have:=((h.kid p hp).lt g hg').2;omega
theorem pcells_mid(l:List Np)(p:Np)(m:List Np)(kv:Value)(ks:List Kd):(pcells (l++p::m)).set (l.length*4+3) kv=pcells (l++(⟨p.1.kind,p.1.tag,p.1.mode,ks⟩,kv)::m):=by
 have e:∀p:Np,pcells (l++p::m)=pcells l++[.int .i64 p.1.kind,.int .i64 p.1.tag,.int .i64 p.1.mode,p.2]++pcells m:=fun p=>by unfold pcells;simp
 rw[e,e,List.append_assoc,List.append_assoc,List.set_append_right _ _ (by rw[pcells_len];omega),pcells_len,show l.length*4+3-l.length*4=3 by omega]
 rfl
theorem pcells_at3(l:List Np)(p:Np)(m:List Np):(pcells (l++p::m))[l.length*4+3]? =some p.2:=by
 have e:pcells (l++p::m)=pcells l++[.int .i64 p.1.kind,.int .i64 p.1.tag,.int .i64 p.1.mode,p.2]++pcells m:=by unfold pcells;simp
 rw[e,List.append_assoc,List.getElem?_append_right (by rw[pcells_len];omega),pcells_len,show l.length*4+3-l.length*4=3 by omega]
 rfl
theorem MkA.setKids{W w:World}{M:Nat}{na ta:Option Addr}{nl nc tl tc:Nat}{l m:List Np}{p:Np}{g cap:Nat}{tree:List Vl}{vl:Value}(h:MkA W w M na ta nl nc tl tc (l++p::m) (.slice (some ⟨g,0,none⟩) (l++p::m).length cap) tree vl){B:Nat}{kv:Value}{ks:List Kd}(hk:w.ownsRow B 55 3 kv ks.length (kcells ks))(hB:W.heap.size≤B):
 w.cell? ⟨g,l.length*4+3,none⟩=some p.2∧w.frozen? ⟨g,l.length*4+3,none⟩=false∧MkA W (w.setCell ⟨g,l.length*4+3,none⟩ kv) M na ta nl nc tl tc (l++(⟨p.1.kind,p.1.tag,p.1.mode,ks⟩,kv)::m) (.slice (some ⟨g,0,none⟩) (l++p::m).length cap) tree vl∧FrN M (.slice (some ⟨g,0,none⟩) (l++p::m).length cap) (.slice (some ⟨g,0,none⟩) (l++p::m).length cap) w (w.setCell ⟨g,l.length*4+3,none⟩ kv):=by
 obtain⟨a,t,ha,ht,hM⟩:=h.mak.own
 have hgo:(Value.slice (some ⟨g,0,none⟩) (l++p::m).length cap).ownBlock=some g:=rfl
 have hgM:=own_notM h.row hM (by decide) g hgo
 have hst:=h.row.stored (l.length*4+3) kv
 have hlen:(l++p::m).length=(l++((⟨p.1.kind,p.1.tag,p.1.mode,ks⟩:Nd),kv)::m).length:=by simp
 have keep:∀{B e s v n xs},w.ownsRow B e s v n xs→e≠58→(w.setCell ⟨g,l.length*4+3,none⟩ kv).ownsRow B e s v n xs:=fun {B e s v n xs} q he=>own_same q fun g' hg'=>heap_setCell_other _ _ _ _ fun e=>own_apart q h.row he g' hg' (by rw[hgo];exact congrArg some e.symm)
 refine⟨?_,h.row.frozenAt _,⟨⟨?_,h.mak.lo,a,t,ha,ht,?_⟩,?_,?_,keep h.val (by decide)⟩,?_⟩
 ·rw[h.row.cellAt _ (by simp;omega)];exact pcells_at3 l p m
 ·exact h.mak.bel.setCell (p:=⟨g,l.length*4+3,none⟩) (h.row.lt g hgo).1 kv
 ·rw[heap_setCell_other _ _ _ _ (fun e=>hgM.1 e.symm)];exact hM
 ·rw[←hlen,←pcells_mid l p m kv ks]
  exact hst.1
 ·intro q hq
  rcases List.mem_append.1 hq with hq|hq
  ·exact keep (h.kid q (List.mem_append.2 (.inl hq))) (by decide)
  ·rcases List.mem_cons.1 hq with rfl|hq
   ·exact keep (own_lower hk hB) (by decide)
   ·exact keep (h.kid q (List.mem_append.2 (.inr (List.mem_cons.2 (.inr hq))))) (by decide)
 ·exact⟨by simp,fun j j1 j2 j3=>heap_setCell_other _ _ _ _ fun e=>j3 (by rw[hgo];exact congrArg some e.symm),fun g' q=> .inl q⟩
def ENDK(W:World)(M:Nat)(na ta:Option Addr)(nl nc tl tc:Nat)(tree:List Vl)(vl:Value)(ps:List Np)(vs:Value)(k t m:Int)(d:Nat)(w:World)(kv:Value)(wx:World):Prop:=
 ∃ext vs' ks,MkA W wx M na ta nl nc tl tc (ps++(⟨k,t,m,[]⟩,.slice none 0 0)::ext) vs' tree vl∧FrN M vs vs' w wx∧wx.ownsRow w.heap.size 55 3 kv ks.length (kcells ks)∧(∀p∈ext,∀g,p.2.ownBlock=some g→w.heap.size≤g)∧Grown (ps.map Prod.fst) (⟨k,t,m,ks⟩::ext.map Prod.fst) t d
theorem ENDK.fin{W:World}{M:Nat}{na ta:Option Addr}{nl nc tl tc:Nat}{tree:List Vl}{vl:Value}{ps:List Np}{vs:Value}{k t m:Int}{d:Nat}{w:World}{kv:Value}{wx:World}(h:ENDK W M na ta nl nc tl tc tree vl ps vs k t m d w kv wx)(hB:W.heap.size≤w.heap.size):
 ∃g cap L:Nat,ps.length<L∧wx.cell? ⟨M,4,none⟩=some (.slice (some ⟨g,0,none⟩) L cap)∧M<wx.heap.size∧g<wx.heap.size∧wx.cell? ⟨g,ps.length*4+3,none⟩=some (.slice none 0 0)∧wx.frozen? ⟨g,ps.length*4+3,none⟩=false∧AfterN W M na ta nl nc tl tc tree vl ps vs t d w (wx.setCell ⟨g,ps.length*4+3,none⟩ kv):=by
 obtain⟨ext,vs',ks,hA,hF,hk,hx,hG⟩:=h
 obtain⟨g,cap,e,hg1,hg2⟩:=World.ownsRow.form hA.row (by simp;omega)
 subst e
 obtain⟨h1,h2,h3,h4⟩:=hA.setKids (ks:=ks) hk hB
 refine⟨g,cap,(ps++((⟨k,t,m,[]⟩:Nd),Value.slice none 0 0)::ext).length,by simp,hA.c4.1,hA.lt,hg2,h1,h2,_,_,h3,hF.trans h4,?_,fun p hp g' hg'=>?_⟩
 ·rw[List.map_cons];exact hG
 ·rcases List.mem_cons.1 hp with rfl|hp
  ·exact(hk.lt g' hg').1
  ·exact hx p hp g' hg'
theorem endk_leaf{W:World}{M:Nat}{na ta:Option Addr}{nl nc tl tc:Nat}{tree:List Vl}{vl:Value}{ps:List Np}{vs vs':Value}{k t m:Int}{d:Nat}{w wx:World}(h:MkA W wx M na ta nl nc tl tc (ps++[(⟨k,t,m,[]⟩,.slice none 0 0)]) vs' tree vl)(hF:FrN M vs vs' w wx)(hk1:1≤k)(hk9:k≤9)(ht1: -1≤t)(ht2:t≤2)(hm:m=0∨(m=1∧0≤t)):ENDK W M na ta nl nc tl tc tree vl ps vs k t m d w (.slice none 0 0) wx:=
 ⟨[],vs',[],h,hF,World.ownsRow_nil _ _ _ _,(fun p hp=>by cases hp),Grown.ofLeaf _ d hk1 hk9 ht1 ht2 hm⟩
structure LoopK(W:World)(M:Nat)(na ta:Option Addr)(nl nc tl tc:Nat)(tree:List Vl)(vl:Value)(ps:List Np)(vs:Value)(k t m:Int)(d:Nat)(w:World)(ks:List Kd)(ext:List Np)(vs' kv:Value)(wx:World):Prop where
 mak:MkA W wx M na ta nl nc tl tc (ps++(⟨k,t,m,[]⟩,.slice none 0 0)::ext) vs' tree vl
 fr:FrN M vs vs' w wx
 row:wx.ownsRow w.heap.size 55 3 kv ks.length (kcells ks)
 ap:Apart (ps++(⟨k,t,m,[]⟩,.slice none 0 0)::ext) kv
 new:∀p∈ext,∀g,p.2.ownBlock=some g→w.heap.size≤g
 kids:Kids (ps.map Prod.fst++[⟨k,t,m,[]⟩]) (ext.map Prod.fst) (fun s j q=>KidI s ps.length k j q) ks d
theorem map_mid(ps:List Np)(n:Nd)(v:Value)(ext:List Np):(ps++(n,v)::ext).map Prod.fst=ps.map Prod.fst++[n]++ext.map Prod.fst:=by simp
theorem LoopK.start{W:World}{M:Nat}{na ta:Option Addr}{nl nc tl tc:Nat}{tree:List Vl}{vl:Value}{ps:List Np}{vs vs':Value}{k t m:Int}(d:Nat){w wx:World}(h:MkA W wx M na ta nl nc tl tc (ps++[(⟨k,t,m,[]⟩,.slice none 0 0)]) vs' tree vl)(hF:FrN M vs vs' w wx):LoopK W M na ta nl nc tl tc tree vl ps vs k t m d w [] [] vs' (.slice none 0 0) wx:=
 ⟨h,hF,World.ownsRow_nil _ _ _ _,fun _ _ _ _ q=>(by cases q),fun p hp=>(by cases hp),Kids.nil _ _ d⟩
theorem LoopK.len{W:World}{M:Nat}{na ta:Option Addr}{nl nc tl tc:Nat}{tree:List Vl}{vl:Value}{ps:List Np}{vs vs' kv:Value}{k t m:Int}{d:Nat}{w wx:World}{ks:List Kd}{ext:List Np}(h:LoopK W M na ta nl nc tl tc tree vl ps vs k t m d w ks ext vs' kv wx)(hl:ps.length≤24):(ps++((⟨k,t,m,[]⟩:Nd),Value.slice none 0 0)::ext).length≤27+2*d+ks.length:=by
 have:=h.kids.bound (by simp;omega)
 simp at this ⊢
 omega
theorem LoopK.keep{W:World}{M:Nat}{na ta:Option Addr}{nl nc tl tc:Nat}{tree:List Vl}{vl:Value}{ps:List Np}{vs vs' kv:Value}{k t m:Int}{d:Nat}{w wx w2:World}{ks:List Kd}{ext:List Np}(h:LoopK W M na ta nl nc tl tc tree vl ps vs k t m d w ks ext vs' kv wx){v2:Value}(hF:FrN M vs' v2 wx w2):w2.ownsRow w.heap.size 55 3 kv ks.length (kcells ks):=by
 obtain⟨_,_,_,_,hM⟩:=h.mak.mak.own
 exact own_same h.row fun g hg=>hF.2.1 g (h.row.lt g hg).2 (own_notM h.row hM (by decide) g hg).1 (own_apart h.row h.mak.row (by decide) g hg)
def Tryz.zeroKe:Value:= .agg #[.int .i64 0,.bool false,.string ⟨#[]⟩]
theorem Tryz.infoKe:(Tryz.prog.info? 55).map (fun i=>(i.zero,i.size,i.bytes))=some (some Tryz.zeroKe,3,32):=by kernel_rfl
theorem LoopK.more{W:World}{M:Nat}{na ta:Option Addr}{nl nc tl tc:Nat}{tree:List Vl}{vl:Value}{ps:List Np}{vs vs' kv:Value}{k t m:Int}{d:Nat}{w wx w2 w3 wa:World}{ks:List Kd}{ext:List Np}(hw:w.heap.size≤wx.heap.size)(hB:W.heap.size≤w.heap.size)(h:LoopK W M na ta nl nc tl tc tree vl ps vs k t m d w ks ext vs' kv wx){q:Kd}
 (hq:AfterK W M na ta nl nc tl tc tree vl (ps++(⟨k,t,m,[]⟩,.slice none 0 0)::ext) vs' k ks.length d wx q w2)(hb:Below w2.heap.size w2 wa){g cap:Nat}(h1:w3.ownsRow w.heap.size 55 3 (.slice (some ⟨g,0,none⟩) (ks.length+1) cap) (ks.length+1) (kcells ks++[.int .i64 q.node,.bool q.opt,.string q.dflt]))(h2:wa.grownBy w3 kv.ownBlock)(h3:kv.ownBlock=some g∨g=wa.heap.size):
 ∃ext2 vs2,LoopK W M na ta nl nc tl tc tree vl ps vs k t m d w (ks++[q]) (ext++ext2) vs2 (.slice (some ⟨g,0,none⟩) (ks.length+1) cap) w3:=by
 obtain⟨hn,ext2,vs2,hA,hF,hG,hKP,hX⟩:=hq
 have hkv:∀g,kv.ownBlock=some g→g<wx.heap.size:=fun g hg=>(h.row.lt g hg).2
 have hrow2:w2.ownsRow w.heap.size 55 3 kv ks.length (kcells ks):=by
  obtain⟨_,_,_,_,hM⟩:=h.mak.mak.own
  exact own_same h.row fun g hg=>hF.2.1 g (hkv g hg) (own_notM h.row hM (by decide) g hg).1 (own_apart h.row h.mak.row (by decide) g hg)
 have hap2:Apart (ps++(⟨k,t,m,[]⟩,.slice none 0 0)::ext++ext2) kv:=fun p hp g hg e=>by
  rcases List.mem_append.1 hp with hp|hp
  ·exact h.ap p hp g hg e
  ·have:=hX p hp g hg;have:=hkv g e;omega
 have eapp:ps++((⟨k,t,m,[]⟩:Nd),Value.slice none 0 0)::(ext++ext2)=ps++((⟨k,t,m,[]⟩:Nd),Value.slice none 0 0)::ext++ext2:=by simp
 have hA3:=hA.grow hb hrow2 hB hap2 h2
 have hlen:(ps.map Prod.fst++[(⟨k,t,m,[]⟩:Nd)]++ext.map Prod.fst).length=(ps++((⟨k,t,m,[]⟩:Nd),Value.slice none 0 0)::ext).length:=by simp
 refine⟨ext2,vs2,by rw[eapp];exact hA3,(h.fr.trans hF).grow hb (fun g hg=>(h.row.lt g hg).1) h2,?_,by rw[eapp];exact hap2.grow hA hb.size h3,?_,?_⟩
 ·rw[List.length_append,kcells_append];exact h1
 ·intro p hp g hg
  rcases List.mem_append.1 hp with hp|hp
  ·exact h.new p hp g hg
  ·have:=hX p hp g hg;omega
 ·rw[List.map_append]
  rw[map_mid]at hG
  have hKP':=hKP
  rw[List.map_append,map_mid]at hKP'
  refine h.kids.more hG (by rw[hn,hlen]) ?_ fun s s' j q hp hl he=>hp.congr hl fun m h3 h4=>he m (by simp;omega) h4
  refine⟨(ps++((⟨k,t,m,[]⟩:Nd),Value.slice none 0 0)::ext).length,hn,by simp,?_,?_,?_⟩
  ·rw[←List.append_assoc,length_app _ (ext2.map Prod.fst),hlen];have:=hG.pos;omega
  ·rw[←List.append_assoc,←hlen];exact hG.tag
  ·rw[←List.append_assoc]
   unfold KidP at hKP'
   rw[hn,Int.toNat_natCast]at hKP'
   exact hKP'
theorem endk_seq{W:World}{M:Nat}{na ta:Option Addr}{nl nc tl tc:Nat}{tree:List Vl}{vl:Value}{ps:List Np}{vs vs' kv:Value}{k t m:Int}{d:Nat}{w wx:World}{ks:List Kd}{ext:List Np}(h:LoopK W M na ta nl nc tl tc tree vl ps vs k t m d w ks ext vs' kv wx)(hk:k=10∨k=13)(ht1: -1≤t)(ht2:t≤2)(hm:m=0∨(m=1∧0≤t))(hc:k=13→0≤t→m=1)(h1:1≤ks.length)(h3:ks.length≤3)(hl:ps.length≤24):
 ENDK W M na ta nl nc tl tc tree vl ps vs k t m (d+1) w kv wx:=by
 refine⟨ext,vs',ks,h.mak,h.fr,h.row,h.new,h.kids.done (by simp;exact hl) h3 ?_⟩
 have e:nd (ps.map Prod.fst++⟨k,t,m,ks⟩::ext.map Prod.fst) (ps.map Prod.fst).length=⟨k,t,m,ks⟩:=nd_app_at _ _ _
 have el:(ps.map Prod.fst).length=ps.length:=List.length_map Prod.fst
 refine⟨?_,?_,?_,?_,?_,?_,?_,?_⟩ <;>rw[e]
 ·exact⟨by show(1:Int)≤k;omega,by show k≤13;omega⟩
 ·exact⟨ht1,ht2⟩
 ·exact hm
 ·exact hc
 ·intro q;have q:k≤9:=q;omega
 ·intro _
  refine⟨h1,h3,fun j hj=>?_⟩
  have q:=(h.kids.kid j hj).1
  rw[List.append_assoc]at q
  show KidI _ _ k j (ks.getD j kd0)
  rw[el]
  exact KidI.congr q (by simp) fun m' h4 _=>nd_app_behind _ _ _ _ (by rw[el];omega)
 ·intro q;have q:k=11:=q;omega
 ·intro q;have q:k=12:=q;omega
theorem endk_one{W:World}{M:Nat}{na ta:Option Addr}{nl nc tl tc:Nat}{tree:List Vl}{vl:Value}{ps:List Np}{vs vs1 vs2:Value}{k t m t2:Int}{d:Nat}{w wx w2 wa w3:World}{ext:List Np}(hB:W.heap.size≤w.heap.size)(hF1:FrN M vs vs1 w wx)
 (hA:MkA W w2 M na ta nl nc tl tc (ps++[(⟨k,t,m,[]⟩,.slice none 0 0)]++ext) vs2 tree vl)(hF:FrN M vs1 vs2 wx w2)(hG:Grown ((ps++[((⟨k,t,m,[]⟩:Nd),Value.slice none 0 0)]).map Prod.fst) (ext.map Prod.fst) t2 d)(hX:∀p∈ext,∀g,p.2.ownBlock=some g→wx.heap.size≤g)
 (hb:Below w2.heap.size w2 wa){g cap:Nat}(h1:w3.ownsRow w.heap.size 55 3 (.slice (some ⟨g,0,none⟩) 1 cap) 1 [.int .i64 (ps.length+1:Nat),.bool false,.string ⟨#[]⟩])(h2:wa.grownBy w3 none)
 (hk:(k=11∧t2= -1)∨(k=12∧ext.map Prod.fst=[⟨2, -1,0,[]⟩]))(ht1: -1≤t)(ht2:t≤2)(hm:m=0∨(m=1∧0≤t))(hl:ps.length≤24):ENDK W M na ta nl nc tl tc tree vl ps vs k t m (d+1) w (.slice (some ⟨g,0,none⟩) 1 cap) w3:=by
 have el:(ps.map Prod.fst).length=ps.length:=List.length_map Prod.fst
 have em:(ps++[((⟨k,t,m,[]⟩:Nd),Value.slice none 0 0)]).map Prod.fst=ps.map Prod.fst++[⟨k,t,m,[]⟩]:=by simp
 rw[em]at hG
 have hlen:(ps.map Prod.fst++[(⟨k,t,m,[]⟩:Nd)]).length=ps.length+1:=by simp
 have hK:Kids (ps.map Prod.fst++[⟨k,t,m,[]⟩]) (ext.map Prod.fst) (fun _ _ _=>True) [⟨((ps.length+1:Nat):Int),false,noB⟩] d:=by
  have:=(Kids.nil (ps.map Prod.fst++[⟨k,t,m,[]⟩]) (fun _ _ _=>True) d).more (e':=ext.map Prod.fst) (k:=⟨((ps.length+1:Nat):Int),false,noB⟩) (t:=t2) (by rw[List.append_nil];exact hG) (by rw[List.append_nil,hlen]) trivial fun _ _ _ _ _ _ _=>trivial
  simpa using this
 have e:nd (ps.map Prod.fst++⟨k,t,m,[⟨((ps.length+1:Nat):Int),false,noB⟩]⟩::ext.map Prod.fst) (ps.map Prod.fst).length=⟨k,t,m,[⟨((ps.length+1:Nat):Int),false,noB⟩]⟩:=nd_app_at _ _ _
 have e2:nd (ps.map Prod.fst++⟨k,t,m,[⟨((ps.length+1:Nat):Int),false,noB⟩]⟩::ext.map Prod.fst) (ps.length+1)=nd (ps.map Prod.fst++[⟨k,t,m,[]⟩]++ext.map Prod.fst) (ps.length+1):=by
  rw[List.append_assoc]
  exact nd_app_behind _ _ _ _ (by rw[el];omega)
 have hpos:=hG.pos
 have htag:=hG.tag
 rw[hlen]at htag
 refine⟨ext,vs2,[⟨((ps.length+1:Nat):Int),false,noB⟩],?_,?_,h1,?_,hK.done (by rw[el];exact hl) (by simp) ?_⟩
 ·have e3:ps++((⟨k,t,m,[]⟩:Nd),Value.slice none 0 0)::ext=ps++[((⟨k,t,m,[]⟩:Nd),Value.slice none 0 0)]++ext:=by simp
  rw[e3]
  exact hA.grow (kv:= .slice none 0 0) hb (World.ownsRow_nil _ W.heap.size _ _) (Nat.le_refl _) (fun _ _ _ _ q=>by cases q) h2
 ·exact(hF1.trans hF).grow (kv:= .slice none 0 0) hb (fun g hg=>by cases hg) h2
 ·intro p hp g hg
  have:=hX p hp g hg
  have:=hF1.1
  omega
 ·refine⟨?_,?_,?_,?_,?_,?_,?_,?_⟩ <;>rw[e]
  ·exact⟨by show(1:Int)≤k;omega,by show k≤13;omega⟩
  ·exact⟨ht1,ht2⟩
  ·exact hm
  ·intro q;have q:k=13:=q;omega
  ·intro q;have q:k≤9:=q;omega
  ·intro q;have q:k=10∨k=13:=q;omega
  ·intro q
   have q:k=11:=q
   refine⟨ps.length+1,rfl,by rw[el];omega,by simp at hpos ⊢;omega,?_⟩
   rw[e2,htag]
   rcases hk with⟨_,h⟩|⟨h,_⟩
   ·exact h
   ·omega
  ·intro q
   have q:k=12:=q
   refine⟨ps.length+1,rfl,by rw[el];omega,by simp at hpos ⊢;omega,?_⟩
   rw[e2]
   rcases hk with⟨h,_⟩|⟨_,h⟩
   ·omega
   ·rw[h,←hlen];exact nd_app_at _ _ _
theorem mnode_any(W:World)(M:Nat)(na ta:Option Addr)(nl nc tl tc:Nat)(tree:List Vl)(vl:Value)(dd:Nat)(hdd:dd≤4)(hN:∀d,dd=d+1→NodeM W M na ta nl nc tl tc tree vl d)(hp:PlanIn W na ta nl tl):NodeM W M na ta nl nc tl tc tree vl dd:=by
 intro w ps vs t ht1 ht2 hl h
 obtain⟨va,vcap,hvs,_⟩:=own_form h.row
 subst hvs
 have HA:=hideq h
 have HO:Hid (∀wq vs (n:Int),0<n→n≤1000000→MkI W wq M na ta nl nc tl tc vs vl→Calls Tryz.prog 53 #[.pointer (some ⟨M,0,none⟩),.int .i64 n] wq fun e w'=>RetNo n (fun w'=>MkI W w' M na ta nl nc tl tc vs vl∧FrM M wq w') e w'):=fun wq vs n h1 h2 q=>one_any W wq M na ta nl nc tl tc vs vl n h1 h2 q hp
 have HKM:Hid (∀d,dd=d+1→∀wq qs us kind j,j≤2→kind=10∨kind=13→MkA W wq M na ta nl nc tl tc qs us tree vl→qs.length≤59→Calls Tryz.prog 73 #[.pointer (some ⟨M,0,none⟩),.int .i64 kind,.int .i64 (j:Nat),.int .i64 d] wq fun e w'=>∃k:Kd,e= .returned (.agg #[.int .i64 k.node,.bool k.opt,.string k.dflt])∧AfterK W M na ta nl nc tl tc tree vl qs us kind j d wq k w'):=fun d e wq qs us kind j hj hk q hq=>mkid_any W wq M na ta nl nc tl tc qs us tree vl kind j d hj hk (by omega) (hN d e) hp q hq
 have HN:=hideq hN
 obtain⟨i0,hi0,hz0,hz1,hz2⟩:=info_parts Tryz.infoKe
 clear h hp hN
 go_enter Tryz.func44,Tryz.ntmps44
 go_wp2_with fail
 refine(HO.out _ _ 13 (by omega) (by omega) HA.out.mak).mono ?_
 rintro e w1 ⟨r,rfl,r0,r1,hI1,hF1⟩
 have HA1:Hid (MkA W w1 M na ta nl nc tl tc ps (.slice va ps.length vcap) tree vl):=HA.out.frm hI1 hF1
 have HF1:Hid (FrN M (.slice va ps.length vcap) (.slice va ps.length vcap) w w1):=FrN.ofM hF1
 clear hI1 hF1
 obtain⟨c4,_,_,_⟩:=HA1.out.c4
 have hM1:=HA1.out.lt
 go_upto_region 2 with fail
 go_cut [27] (fun v27 wx=>∃c:Bool,v27= .bool c∧(c=true↔dd=0∨24<ps.length)∧wx=w1)
 case first=>
  by_cases hd0:dd=0
  ·subst hd0
   go_wp2_with fail
   go_meet
   exact⟨true,rfl,by simp,rfl⟩
  ·have hd0':((dd:Int)==0)=false:=by simp;omega
   by_cases h24:24<ps.length
   ·have h24':(24:Int)<ps.length:=by omega
    go_wp2_with fail
    go_meet
    exact⟨true,rfl,by simp[h24],rfl⟩
   ·have h24':¬(24:Int)<ps.length:=by omega
    go_wp2_with fail
    go_meet
    exact⟨false,rfl,by simp[h24,hd0],rfl⟩
 case rest=>
  obtain⟨c,rfl,hc,rfl⟩:=hcut
  have HC:=hideq hc
  clear hc c4
  go_upto_if 27 with fail
  go_cut [7] (fun v7 wx=>∃k:Int,v7= .int .i64 k∧1≤k∧k≤13∧(k≤9∨(0<dd∧ps.length≤24))∧wx=wc)
  case first=>
   cases c with
   |true=>
    have hsub:(1+r-1)=r:=by omega
    have hrm:Int.tmod r 9=r%9:=Int.tmod_eq_emod_of_nonneg r0
    go_wp2_with fail
    go_meet
    exact⟨1+r%9,rfl,by omega,by omega,by omega,rfl⟩
   |false=>
    have hn:¬(dd=0∨24<ps.length):=fun q=>by have:=HC.out.2 q;cases this
    go_wp2_with fail
    go_meet
    exact⟨1+r,rfl,by omega,by omega,by omega,rfl⟩
  case rest=>
   obtain⟨k,rfl,hk1,hk13,hkk,rfl⟩:=hcut
   have HKK:=hideq hkk
   clear hkk HC c r0 r1 r
   go_upto_region 5 with fail
   go_cut [42] (fun v42 wx=>∃c:Bool,v42= .bool c∧(c=true→0≤t)∧(0≤t→k=13→c=true)∧MkA W wx M na ta nl nc tl tc ps (.slice va ps.length vcap) tree vl∧FrN M (.slice va ps.length vcap) (.slice va ps.length vcap) w wx)
   case first=>
    by_cases ht:0≤t
    ·by_cases h13:k=13
     ·subst h13
      go_wp2_with fail
      go_meet
      exact⟨true,rfl,fun _=>ht,fun _ _=>rfl,HA1.out,HF1.out⟩
     ·have h13':(k==13)=false:=by simpa using h13
      have H13:=hideq h13
      clear h13
      go_wp2_with fail
      refine(HO.out _ _ 3 (by omega) (by omega) HA1.out.mak).mono ?_
      rintro e w2 ⟨r,rfl,r0,r1,hI2,hF2⟩
      have HA2:=hideq (HA1.out.frm hI2 hF2)
      have HF2:=hideq (HF1.out.trans (FrN.ofM hF2))
      clear hI2 hF2
      go_wp2_with fail
      go_meet
      exact⟨r==2,rfl,fun _=>ht,fun _ q=>absurd q H13.out,HA2.out,HF2.out⟩
    ·have ht':t<0:=by omega
     have HT:=hideq ht
     clear ht
     go_wp2_with fail
     go_meet
     exact⟨false,rfl,(fun q=>by cases q),(fun q=>absurd q (by omega)),HA1.out,HF1.out⟩
   case rest=>
    obtain⟨c,rfl,hc1,hc2,hA2,hF2⟩:=hcut
    have HC1:=hideq hc1
    have HC2:=hideq hc2
    have HA2:=hideq hA2
    have HF2:=hideq hF2
    clear hc1 hc2 hA2 hF2 HA1 HF1 hM1
    go_upto_if 42 with fail
    go_cut [8] (fun v8 wx=>∃m:Int,v8= .int .i64 m∧(m=0∨(m=1∧0≤t))∧(k=13→0≤t→m=1)∧wx=wc)
    case first=>
     cases c with
     |true=>
      go_wp2_with fail
      go_meet
      exact⟨1,rfl,.inr ⟨rfl,HC1.out trivial⟩,fun _ _=>rfl,rfl⟩
     |false=>
      go_wp2_with fail
      go_meet
      exact⟨0,rfl,.inl rfl,(fun q1 q2=>by have:=HC2.out q2 q1;cases this),rfl⟩
    case rest=>
     obtain⟨m,rfl,hm1,hm2,rfl⟩:=hcut
     have HM1:=hideq hm1
     have HM2:=hideq hm2
     clear hm1 hm2 HC1 HC2 c
     have HAD:Hid (∀wq,wq=wc→Calls Tryz.prog 72 #[.pointer (some ⟨M,0,none⟩),.agg #[.int .i64 k,.int .i64 t,.int .i64 m,.slice none 0 0]] wq fun e w'=>e= .returned (.int .i64 ps.length)∧∃vs',MkA W w' M na ta nl nc tl tc (ps++[(⟨k,t,m,[]⟩,.slice none 0 0)]) vs' tree vl∧FrN M (.slice va ps.length vcap) vs' wc w'):=fun wq e=>by
      rw[e]
      exact madd_any W wc M na ta nl nc tl tc ps _ tree vl k t m HA2.out (by omega)
     go_wp2_with fail
     refine(HAD.out _ rfl).mono ?_
     rintro e w3 ⟨rfl,vs3,hA3,hF3⟩
     have HA3:=hideq hA3
     have HF3:=hideq (HF2.out.trans hF3)
     clear hA3 hF3 HA2 HF2 HAD
     have HB0:Hid (W.heap.size≤w.heap.size):=HA.out.mak.bel.size
     clear HA
     by_cases hk9:k≤9
     ·have HEK:Hid (ENDK W M na ta nl nc tl tc tree vl ps (.slice va ps.length vcap) k t m dd w (.slice none 0 0) w3):=endk_leaf HA3.out HF3.out hk1 hk9 ht1 ht2 HM1.out
      have b1:(k==10)=false:=by simp;omega
      have b2:(k==13)=false:=by simp;omega
      have b3:(k==11)=false:=by simp;omega
      have b4:(k==12)=false:=by simp;omega
      clear hk9 HKK HN HKM HO
      obtain⟨g9,cap9,L9,hL9,x1,x2,x3,x4,x5,hAN⟩:=HEK.out.fin HB0.out
      have HAN:=hideq hAN
      have hL9':(ps.length:Int)<L9:=by omega
      clear hAN
      go_wp2
      go_ret
      exact⟨rfl,HAN.out⟩
     ·obtain⟨hd0,hl24⟩:0<dd∧ps.length≤24:=by rcases HKK.out with q|q;exact absurd q hk9;exact q
      obtain⟨d,hd⟩:∃d,dd=d+1:=⟨dd-1,by omega⟩
      have hdi:(dd:Int)-1=d:=by omega
      have hdw:IntKind.i64.wrap ((dd:Int)-1)=(d:Int):=by rw[hdi];exact wraps_i64 _ (by omega) (by omega)
      by_cases hks:k=10∨k=13
      ·have HKMd:=hideq (HKM.out d hd)
       have HKS:=hideq hks
       have hb:((k==10)=true)∨((k==10)=false∧(k==13)=true):=by rcases hks with rfl|rfl<;>simp
       clear hks HKM HN hk9
       have HLS:=hideq (LoopK.start d HA3.out HF3.out)
       have HOn:=HO
       clear HO
       have HDD:=hideq hd
       have hd3:d≤3:=by omega
       clear hd hd0 hdi
       rcases hb with hb|⟨hb,hb2⟩
       all_goals
        go_wp2_with fail
        refine(HOn.out _ _ 3 (by omega) (by omega) HA3.out.mak).mono ?_
        rintro e w4 ⟨r,rfl,r0,r1,hI4,hF4⟩
        have HLS:=hideq (LoopK.start d (HA3.out.frm hI4 hF4) (HF3.out.trans (FrN.ofM hF4)))
        obtain⟨r,rfl⟩:=Int.eq_ofNat_of_zero_le r0
        clear hI4 hF4 r0
        go_wp2
        go_loopw [10,12] (fun v10 v12 wr=>∃(ks:List Kd) (ext:List Np) (vs':Value),v12= .int .i64 ks.length∧ks.length≤1+r∧LoopK W M na ta nl nc tl tc tree vl ps (.slice va ps.length vcap) k t m d w ks ext vs' v10 wr) (fun _ v12 _=>3-(intOf v12).toNat)
        case atStart=>exact⟨[],[],vs3,rfl,by simp,HLS.out⟩
        case round=>
         obtain⟨ks,ext,vs',rfl,hle,hLK⟩:=hrel
         have HLK:=hideq hLK
         obtain⟨ka,kc,rfl⟩:∃a cap,u10= .slice a ks.length cap:=by obtain⟨a,c,e,_⟩:=own_form hLK.row;exact⟨a,c,e⟩
         have hlen:=hLK.len hl24
         have hwx:w.heap.size≤wr.heap.size:=hLK.fr.1
         clear hLK
         by_cases hlt:ks.length<1+r
         ·have hlt':(ks.length:Int)<1+r:=by omega
          go_wp2_with fail
          refine(HKMd.out _ _ _ k ks.length (by omega) HKS.out HLK.out.mak (by omega)).mono ?_
          rintro e w5 ⟨q,rfl,hq⟩
          have HQ:=hideq hq
          have HR5:Hid (w5.ownsRow w.heap.size 55 3 (.slice ka ks.length kc) ks.length (kcells ks)):=by
           obtain⟨_,_,_,_,hF,_⟩:=hq
           exact HLK.out.keep hF
          have hw5:w.heap.size≤w5.heap.size+1:=by
           obtain⟨_,_,_,_,hF,_⟩:=hq
           have:=hF.1
           omega
          clear hq hlen
          go_wp2_with (at_builtin;refine wpList_append_lies _ rfl (.tmp 61) (.tmp 68) 56 rfl w.heap.size 55 i0 Tryz.zeroKe 3 32 Tryz.underlying56 hi0 hz0 hz1 hz2 rfl (by decide) (.slice ka ks.length kc) ks.length (kcells ks) rfl (HR5.out.alloc _) ⟨w5.heap.size,0,none⟩ 1 1 [.int .i64 q.node,.bool q.opt,.string q.dflt] rfl rfl (World.news_of_block (heap_alloc_new w5 _)) (by intro u hu;simp at hu;rcases hu with rfl|rfl|rfl<;>rfl) (by decide) (by unfold maxLen;omega) (by omega) (by simpa using hw5) (w5.heap.size+1) (by simp) ?_)
          intro g6 cap6 w6 h61 h62 h63 h64
          obtain⟨ext2,vs2,hL6⟩:=LoopK.more hwx HB0.out HLK.out HQ.out ((Below.refl _ _).alloc (Nat.le_refl _) _) h61 h62 (by rcases h63 with q|q;exact .inl q;exact .inr (by rw[q];simp))
          have HL6:=hideq hL6
          clear h61 h62 h63 h64 hL6
          go_wp2
          go_roundw
          case rel=>exact⟨ks++[q],ext++ext2,vs2,by rw[List.length_append];go_num,by rw[List.length_append];simp;omega,HL6.out⟩
          case measure=>simp[intOf];omega
         ·have hlt':¬((ks.length:Int)<1+r):=by omega
          have HEK:Hid (ENDK W M na ta nl nc tl tc tree vl ps (.slice va ps.length vcap) k t m dd w (.slice ka ks.length kc) wr):=by
           show ENDK _ _ _ _ _ _ _ _ _ _ _ _ _ _ _ _ _ _ _
           rw[HDD.out]
           exact endk_seq HLK.out HKS.out ht1 ht2 HM1.out HM2.out (by omega) (by omega) hl24
          clear HKMd HOn hlen
          obtain⟨g9,cap9,L9,hL9,x1,x2,x3,x4,x5,hAN⟩:=HEK.out.fin HB0.out
          have HAN:=hideq hAN
          have hL9':(ps.length:Int)<L9:=by omega
          clear hAN
          go_wp2
          go_ret
          exact⟨rfl,HAN.out⟩
      ·have hb1:(k==10)=false:=by simp;omega
       have hb2:(k==13)=false:=by simp;omega
       clear HKM
       by_cases hk11:k=11
       ·subst hk11
        obtain⟨L1,hL1⟩:∃L1:Nat,(ps++[((⟨11,t,m,[]⟩:Nd),Value.slice none 0 0)]).length=L1:=⟨_,rfl⟩
        have HNd:Hid (Calls Tryz.prog 44 #[.pointer (some ⟨M,0,none⟩),.int .i64 (-1),.int .i64 d] w3 fun e w'=>e= .returned (.int .i64 (L1:Nat))∧AfterN W M na ta nl nc tl tc tree vl (ps++[((⟨11,t,m,[]⟩:Nd),Value.slice none 0 0)]) vs3 (-1) d w3 w'):=by
         show Calls _ _ _ _ _
         rw[←hL1]
         exact HN.out d hd w3 _ vs3 (-1) (by decide) (by decide) (by simp;omega) HA3.out
        have HL1:Hid (L1=ps.length+1):=by show _=_;rw[←hL1];simp
        have HDD:=hideq hd
        have hw3:w.heap.size≤w3.heap.size:=HF3.out.1
        clear hd hd0 hdi HN HO HKK hk9 hks hk1 hk13 hL1
        go_wp2_with fail
        refine HNd.out.mono ?_
        rintro e w5 ⟨rfl,hq⟩
        have HQ:=hideq hq
        have hw5:w.heap.size≤w5.heap.size+1:=by
         obtain⟨_,_,_,hF,_⟩:=hq
         have:=hF.1
         omega
        clear hq
        go_wp2_with (at_builtin;refine wpList_append_lies _ rfl (.tmp 76) (.tmp 79) 56 rfl w.heap.size 55 i0 Tryz.zeroKe 3 32 Tryz.underlying56 hi0 hz0 hz1 hz2 rfl (by decide) (.slice none 0 0) 0 [] rfl (World.ownsRow_nil _ _ _ _) ⟨w5.heap.size,0,none⟩ 1 1 [.int .i64 (L1:Nat),.bool false,.string ⟨#[]⟩] rfl rfl (World.news_of_block (heap_alloc_new w5 _)) (by intro u hu;simp at hu;rcases hu with rfl|rfl|rfl<;>rfl) (by decide) (by unfold maxLen;omega) (by omega) (by simpa using hw5) (w5.heap.size+1) (by simp) ?_)
        intro g6 cap6 w6 h61 h62 h63 h64
        have HEK:Hid (ENDK W M na ta nl nc tl tc tree vl ps (.slice va ps.length vcap) 11 t m dd w (.slice (some ⟨g6,0,none⟩) 1 cap6) w6):=by
         show ENDK _ _ _ _ _ _ _ _ _ _ _ _ _ _ _ _ _ _ _
         rw[HDD.out]
         obtain⟨ext,vs2,q1,q2,q3,q4⟩:=HQ.out
         rw[HL1.out]at h61
         exact endk_one HB0.out HF3.out q1 q2 q3 q4 ((Below.refl _ _).alloc (Nat.le_refl _) _) h61 h62 (.inl ⟨rfl,rfl⟩) ht1 ht2 HM1.out hl24
        clear h61 h62 h63 h64
        obtain⟨g9,cap9,L9,hL9,x1,x2,x3,x4,x5,hAN⟩:=HEK.out.fin HB0.out
        have HAN:=hideq hAN
        have hL9':(ps.length:Int)<L9:=by omega
        clear hAN
        go_wp2
        go_ret
        exact⟨rfl,HAN.out⟩
       ·have hk12:k=12:=by omega
        subst hk12
        obtain⟨L1,hL1⟩:∃L1:Nat,(ps++[((⟨12,t,m,[]⟩:Nd),Value.slice none 0 0)]).length=L1:=⟨_,rfl⟩
        have HNd:Hid (Calls Tryz.prog 72 #[.pointer (some ⟨M,0,none⟩),.agg #[.int .i64 2,.int .i64 (-1),.int .i64 0,.slice none 0 0]] w3 fun e w'=>e= .returned (.int .i64 (L1:Nat))∧∃vs',MkA W w' M na ta nl nc tl tc (ps++[((⟨12,t,m,[]⟩:Nd),Value.slice none 0 0)]++[(⟨2, -1,0,[]⟩,.slice none 0 0)]) vs' tree vl∧FrN M vs3 vs' w3 w'):=by
         show Calls _ _ _ _ _
         rw[←hL1]
         exact madd_any W w3 M na ta nl nc tl tc _ vs3 tree vl 2 (-1) 0 HA3.out (by simp;omega)
        have HL1:Hid (L1=ps.length+1):=by show _=_;rw[←hL1];simp
        have HDD:=hideq hd
        have hw3:w.heap.size≤w3.heap.size:=HF3.out.1
        clear hd hd0 hdi HN HO HKK hk9 hks hk1 hk13 hL1 hk11
        go_wp2_with fail
        refine HNd.out.mono ?_
        rintro e w5 ⟨rfl,vs5,hA5,hF5⟩
        have HA5:=hideq hA5
        have HF5:=hideq hF5
        have hw5:w.heap.size≤w5.heap.size+1:=by have:=hF5.1;omega
        clear hA5 hF5
        go_wp2_with (at_builtin;refine wpList_append_lies _ rfl (.tmp 86) (.tmp 89) 56 rfl w.heap.size 55 i0 Tryz.zeroKe 3 32 Tryz.underlying56 hi0 hz0 hz1 hz2 rfl (by decide) (.slice none 0 0) 0 [] rfl (World.ownsRow_nil _ _ _ _) ⟨w5.heap.size,0,none⟩ 1 1 [.int .i64 (L1:Nat),.bool false,.string ⟨#[]⟩] rfl rfl (World.news_of_block (heap_alloc_new w5 _)) (by intro u hu;simp at hu;rcases hu with rfl|rfl|rfl<;>rfl) (by decide) (by unfold maxLen;omega) (by omega) (by simpa using hw5) (w5.heap.size+1) (by simp) ?_)
        intro g6 cap6 w6 h61 h62 h63 h64
        have HEK:Hid (ENDK W M na ta nl nc tl tc tree vl ps (.slice va ps.length vcap) 12 t m dd w (.slice (some ⟨g6,0,none⟩) 1 cap6) w6):=by
         show ENDK _ _ _ _ _ _ _ _ _ _ _ _ _ _ _ _ _ _ _
         rw[HDD.out]
         rw[HL1.out]at h61
         exact endk_one HB0.out HF3.out HA5.out HF5.out (Grown.ofLeaf _ d (by decide) (by decide) (by decide) (by decide) (.inl rfl)) (fun p hp g hg=>by obtain rfl:=List.mem_singleton.1 hp;cases hg) ((Below.refl _ _).alloc (Nat.le_refl _) _) h61 h62 (.inr ⟨rfl,rfl⟩) ht1 ht2 HM1.out hl24
        clear h61 h62 h63 h64
        obtain⟨g9,cap9,L9,hL9,x1,x2,x3,x4,x5,hAN⟩:=HEK.out.fin HB0.out
        have HAN:=hideq hAN
        have hL9':(ps.length:Int)<L9:=by omega
        clear hAN
        go_wp2
        go_ret
        exact⟨rfl,HAN.out⟩
theorem mnode_all(W:World)(M:Nat)(na ta:Option Addr)(nl nc tl tc:Nat)(tree:List Vl)(vl:Value)(hp:PlanIn W na ta nl tl):∀d,d≤4→NodeM W M na ta nl nc tl tc tree vl d
 |0,h=>mnode_any W M na ta nl nc tl tc tree vl 0 h (fun d e=>by omega) hp
 |d+1,h=>mnode_any W M na ta nl nc tl tc tree vl (d+1) h (fun d' e=>by
  obtain rfl:d=d':=by omega
  exact mnode_all W M na ta nl nc tl tc tree vl hp d (by omega)) hp
end Go.Proofs.YtkkicodfpekbgaaGreatDoor
namespace Go.Proofs.YtkkicodfpekbgaaGreatDoor
set_option linter.unusedSimpArgs false
set_option linter.unusedVariables false
set_option maxRecDepth 100000
set_option maxHeartbeats 8000000
def Elem(b:ByteArray):Prop:=(hd b).1=0∧(hd b).2.s+(hd b).2.l=b.size
theorem cnt_bd(n:Int):0≤cnt n∧cnt n≤3:=by
 unfold cnt
 repeat' split
 all_goals omega
theorem elem_elB(c:Int)(b:Bool)(n:Int)(s:ByteArray)(q1:0≤c)(q2:c≤3)(q3:0≤n)(q4:n≤30)(hs:(elB c b n s).size≤16777215):Elem (elB c b n s)∧hd (elB c b n s)=(0,⟨c,b,n,2+cnt s.size,s.size⟩):=by
 have hz:=elB_sz c b n s
 have hc:=cnt_bd s.size
 have h:=hd_elB c b n s q1 q2 q3 q4 (by omega)
 exact⟨⟨by rw[h],by rw[h];exact hz.symm⟩,h⟩
theorem Elem.pos{b:ByteArray}(h:Elem b):2≤b.size:=by
 have h1:=hd_two h.1
 have h2:=hd_ok h.1
 have h3:=h.2
 omega
def seg(t:List Vl)(p q:Nat):List Vl:=(t.drop p).take (q-p)
theorem seg_nil(t:List Vl)(p:Nat):seg t p p=[]:=by unfold seg;rw[Nat.sub_self];rfl
theorem seg_one{t:List Vl}{p:Nat}(h:p<t.length):seg t p (p+1)=[vl t p]:=by
 unfold seg vl
 rw[Nat.add_sub_cancel_left,List.drop_eq_getElem_cons h,List.getD_eq_getElem?_getD,List.getElem?_eq_getElem h]
 rfl
theorem seg_app{t:List Vl}{p q r:Nat}(h1:p≤q)(h2:q≤r):seg t p q++seg t q r=seg t p r:=by
 unfold seg
 rw[show r-p=(q-p)+(r-q)by omega,List.take_add,List.drop_drop,show p+(q-p)=q by omega]
theorem seg_cons{t:List Vl}{p r:Nat}(h:p<t.length)(h2:p+1≤r):vl t p::seg t (p+1) r=seg t p r:=by
 rw[←seg_app (Nat.le_succ p) h2,seg_one h];rfl
theorem wbare_elem{F:WEnv}(hr:RightP F.s){f i:Nat}(hi:i<F.s.length)(ih:∀i p dp b p' u,i<F.s.length→wrF F f i p dp=some (some (b,p',u))→b.size≤16777215→Elem b∧Beg F.s i (hd b).2.c (hd b).2.n){v:Vl}{x:Nat}{dp:Int}{b:ByteArray}{x':Nat}{u:Bool}
 (h:wbareF F (wrF F f) f (nd F.s i) (wcl (nd F.s i)) (wnu (nd F.s i)) v x dp=some (some (b,x',u)))(hb:b.size≤16777215):Elem b∧((nd F.s i).mode=0→Beg F.s i (hd b).2.c (hd b).2.n):=by
 obtain⟨hk1,hk14,hT1,hT2,hT3,hT4,hT5⟩:=tagged_of hr hi
 obtain⟨q1,q2,q3,q4⟩:=wnu_bd hr hi
 have hown:(nd F.s i).kind≤12→(nd F.s i).mode=0→Beg F.s i (wcl (nd F.s i)) (wnu (nd F.s i)):=fun h12 hm=>by
  refine⟨i,⟨Rch.refl,fun z=>by have:=z.1;omega⟩,?_⟩
  unfold wcl wnu begAt
  by_cases ht:0≤(nd F.s i).tag
  ·rw[if_pos ⟨ht,hm⟩,if_pos ⟨ht,hm⟩];exact .inl ⟨ht,rfl,rfl⟩
  ·rw[if_neg (fun z=>ht z.1),if_neg (fun z=>ht z.1)]
   exact .inr (.inr ⟨by omega,by omega,rfl,by unfold own0;rw[if_neg (by omega)]⟩)
 have hfin:∀(bt:Bool) (s:ByteArray),(nd F.s i).kind≤12→b=elB (wcl (nd F.s i)) bt (wnu (nd F.s i)) s→Elem b∧((nd F.s i).mode=0→Beg F.s i (hd b).2.c (hd b).2.n):=fun bt s h12 e=>by
  subst e
  obtain⟨e1,e2⟩:=elem_elB _ bt _ s q1 q2 q3 q4 hb
  refine⟨e1,fun hm=>?_⟩
  rw[e2]
  exact hown h12 hm
 unfold wbareF at h
 split at h
 ·rename_i k13
  split at h
  ·rename_i q
   have hm:=kd_mem (n:=nd F.s i) (i:=v.alt.toNat) (by omega)
   have hw:=hr.fine.within i hi _ hm
   obtain⟨e1,j,hj,hbg⟩:=ih _ _ _ _ _ _ (by omega) h hb
   refine⟨e1,fun hm0=>?_⟩
   have ho:(nd F.s i).opn:=⟨k13,by
    by_cases z:0≤(nd F.s i).tag
    ·have:=hT4 z (.inl k13);omega
    ·omega⟩
   exact⟨j,⟨(Rch.step Rch.refl ho hm).trans hj.1,hj.2⟩,hbg⟩
  ·cases h
 split at h
 ·rename_i k14
  split at h
  ·rename_i q
   cases h
   refine⟨⟨q.1,q.2.1⟩,fun hm0=>?_⟩
   have ht:(nd F.s i).tag<0:=by
    by_cases z:0≤(nd F.s i).tag
    ·have:=hT4 z (.inr k14);omega
    ·omega
   exact⟨i,⟨Rch.refl,fun z=>by have:=z.1;omega⟩,.inr (.inl ⟨ht,k14⟩)⟩
  ·cases h
 split at h
 ·rename_i k10
  split at h
  ·rcases wandThen_cases h with⟨_,h⟩|⟨b1,x1,u1,h1,h2⟩
   ·cases h
   ·cases h2;exact hfin _ _ (by omega) rfl
  ·cases h
 split at h
 ·rename_i k12
  split at h
  ·rcases wandThen_cases h with⟨_,h⟩|⟨b1,x1,u1,h1,h2⟩
   ·cases h
   ·cases h2;exact hfin _ _ (by omega) rfl
  ·cases h
 split at h
 ·cases h;exact hfin _ _ (by omega) rfl
 ·cases h
theorem wr_elem{F:WEnv}(hr:RightP F.s):∀f i p dp b p' u,i<F.s.length→wrF F f i p dp=some (some (b,p',u))→b.size≤16777215→Elem b∧Beg F.s i (hd b).2.c (hd b).2.n
 |0,_,_,_,_,_,_,_,h,_=>by cases h
 |f+1,i,p,dp,b,p',u,hi,h,hb=>by
  obtain⟨hk1,hk14,hT1,hT2,hT3,hT4,hT5⟩:=tagged_of hr hi
  rw[wrF]at h
  split at h
  ·rcases wandThen_cases h with⟨_,h⟩|⟨b1,x1,u1,h1,h2⟩
   ·cases h
   ·cases h2
    by_cases hm:(nd F.s i).mode=1
    ·rw[if_pos hm]at hb ⊢
     have ht:0≤(nd F.s i).tag:=by
      by_cases z:(nd F.s i).tag= -1
      ·have:=hT3 z;omega
      ·omega
     obtain⟨e1,e2⟩:=elem_elB 2 true (nd F.s i).tag b1 (by decide) (by decide) ht hT2 hb
     refine⟨e1,i,⟨Rch.refl,fun z=>by have:=z.2;omega⟩,.inl ?_⟩
     rw[e2]
     exact⟨ht,rfl,rfl⟩
    ·rw[if_neg hm]at hb ⊢
     have:=wbare_elem hr hi (wr_elem hr f) h1 hb
     exact⟨this.1,this.2 (by have:=mode_of hr.2.2.1 hi;omega)⟩
  ·cases h
theorem seq_inv{F:WEnv}{f:Nat}{dp:Int}{k:Kd}{ks:List Kd}{p:Nat}{out:ByteArray}{u:Bool}{b':ByteArray}{p':Nat}{u':Bool}(hr:RightP F.s)(hok:∀k t,F.ok k t=true↔ContentOk k t){i:Nat}(hi:i<F.s.length)(hk:k∈(nd F.s i).kids)
 (e:wseqF F (wrF F f) dp (k::ks) p out u=some (some (b',p',u'))):
 (LO F k p∧wseqF F (wrF F f) dp ks (p+1) out u=some (some (b',p',u')))∨∃b1 x1 u1,wrF F f k.node.toNat p (dp+1)=some (some (b1,x1,u1))∧b1≠k.dflt∧wseqF F (wrF F f) dp ks x1 (out++b1) (u||u1)=some (some (b',p',u')):=by
 obtain⟨j,hj,hjk⟩:=kidOf hk
 have hDf:=(hr.2.2.2.2 i hi).2 j hj
 have hw:=hr.fine.within i hi _ hk
 rw[hjk]at hDf
 have ht:k.node.toNat<F.s.length:=by omega
 obtain⟨hk1,hk14,_⟩:=tagged_of hr ht
 have h0:=e
 unfold wseqF at h0
 by_cases q:k.opt=true∧p<F.t.length∧(vl F.t p).kind=15
 ·rw[if_pos q]at h0
  by_cases q2:(vl F.t p).text.size=0∧(vl F.t p).alt=0∧(vl F.t p).kids=0
  ·rw[if_pos q2]at h0
   refine .inl ⟨⟨q.2.1,.inl ⟨q.1,?_⟩⟩,h0⟩
   have h1:=q.2.2
   have h2:=noB_of q2.1
   have h3:=q2.2.1
   have h4:=q2.2.2
   generalize vl F.t p=v at*
   obtain⟨a,b,c,d⟩:=v
   simp only at h1 h2 h3 h4
   subst h1 h2 h3 h4
   rfl
  ·rw[if_neg q2]at h0;cases h0
 rw[if_neg q]at h0
 have hf:1≤f:=by
  cases f with
  |zero=>rcases wandThen_cases h0 with⟨h,_⟩|⟨_,_,_,h,_⟩ <;>cases h
  |succ f=>omega
 have hsome:∃r1,wrF F f k.node.toNat p (dp+1)=some r1:=by
  by_cases hd:k.dflt.size=0
  ·rw[if_pos hd]at h0
   rcases wandThen_cases h0 with⟨h,_⟩|⟨_,_,_,h,_⟩ <;>exact⟨_,h⟩
  ·obtain⟨hk9,_⟩:=hDf.resolve_left hd
   obtain⟨g,rfl⟩:∃g,f=g+1:=⟨f-1,by omega⟩
   rw[wrF_leaf hk1 hk9]
   split<;>exact⟨_,rfl⟩
 rcases wseq_kid hr hok hi hk hf e with h|⟨hnl,hall⟩
 ·exact .inl h
 obtain⟨r1,h1⟩:=hsome
 rcases hall r1 h1 with⟨_,h⟩|⟨b1,x1,u1,rfl,h2⟩
 ·cases h
 refine .inr ⟨b1,x1,u1,h1,fun hbd=>?_,h2⟩
 have a1:=wrF_adv _ _ _ _ _ h1 b1 x1 u1 rfl
 obtain⟨g,rfl⟩:∃g,f=g+1:=⟨f-1,by omega⟩
 by_cases hd:k.dflt.size=0
 ·have hb0:b1.size≤16777215:=by rw[hbd];omega
  have:=(wr_elem hr _ _ _ _ _ _ _ ht h1 hb0).1.pos
  rw[hbd]at this
  omega
 ·obtain⟨hk9,y,hy⟩:=hDf.resolve_left hd
  rw[wrF_leaf hk1 hk9]at h1
  split at h1
  ·rename_i q3
   injection h1 with h1
   injection h1 with h1
   have hb1:leafB (nd F.s k.node.toNat) (vl F.t p).text=b1:=by injection h1
   have hu:=(leaf_elem hr ht hk9 hy).1 (hb1.trans hbd)
   refine hnl ⟨q3.1.1,.inr ⟨hd,y,hy,?_⟩⟩
   have h1:=q3.1.2.1
   have h3:=q3.2.2.1
   have h4:=q3.2.2.2
   generalize vl F.t p=v at*
   obtain⟨a,b,c,d⟩:=v
   simp only at h1 hu h3 h4
   subst h1 hu h3 h4
   rfl
  ·cases h1
theorem noB_app(t:ByteArray):noB++t=t:=by
 apply ByteArray.ext
 apply Array.toList_inj.1
 rw[ByteArray.data_append,Array.toList_append]
 rfl
theorem app_noB'(t:ByteArray):t++noB=t:=by
 apply ByteArray.ext
 apply Array.toList_inj.1
 rw[ByteArray.data_append,Array.toList_append]
 exact List.append_nil _
theorem app_cancel{a b c:ByteArray}(h:a++b=a++c):b=c:=by
 apply ByteArray.ext
 apply Array.toList_inj.1
 have h2:=congrArg (fun t:ByteArray=>t.data.toList) h
 simp only[ByteArray.data_append,Array.toList_append]at h2
 exact List.append_cancel_left h2
theorem Elem.bd{b:ByteArray}(h:Elem b):0≤(hd b).2.c∧(hd b).2.c<4∧0≤(hd b).2.n∧(hd b).2.n<31:=by
 have:=elB_hd h.1 h.2
 omega
theorem vl_parts{v:Vl}{k a c:Int}{t:ByteArray}(h1:v.kind=k)(h2:v.text=t)(h3:v.alt=a)(h4:v.kids=c):v=⟨k,t,a,c⟩:=by
 obtain⟨_,_,_,_⟩:=v
 subst h1 h2 h3 h4
 rfl
def Again(E:Env)(F:WEnv)(f:Nat):Prop:=∀i p dp b p',i<F.s.length→wrF F f i p dp=some (some (b,p',false))→b.size≤16777000→∀x y,At E.d x b→x+b.size≤y→y≤E.d.size→rdF E f i x y dp=some (.ok (seg F.t p p',x+b.size))
structure Both(E:Env)(F:WEnv):Prop where
 s:E.s=F.s
 right:RightP F.s
 bg:∀i,i<F.s.length→∀c m,E.bg i c m=true↔Beg F.s i c m
 okE:∀k t,E.ok k t=true↔ContentOk k t
 okF:∀k t,F.ok k t=true↔ContentOk k t
 dv:DvOk E
theorem many_again{E:Env}{F:WEnv}{f:Nat}(hB:Both E F)(hN:Again E F f){set:Bool}{i:Nat}(hi:i<F.s.length){dp:Int}{z:Nat}(hz:z≤E.d.size):∀(m:Nat) (c:Int) (p:Nat) (out last:ByteArray) (u:Bool) (b':ByteArray) (p':Nat),wmanyF F (wrF F f) set i dp m c p out last u=some (some (b',p',false))→0≤c→
 u=false∧p≤p'∧∃rest,b'=out++rest∧(rest.size≤16777000→∀(x:Nat) (acc:List Vl) (j:Nat),At E.d x rest→x+rest.size=z→manyF E (rdF E f) set i z dp m x last j acc=some (.ok (j+c.toNat,acc++seg F.t p p')))
 |0,_,_,_,_,_,_,_,e,_=>by cases e
 |m+1,c,p,out,last,u,b',p',e,hc=>by
  unfold wmanyF at e
  split at e
  ·rename_i hc0
   rcases wandThen_cases e with⟨_,h⟩|⟨b1,x1,u1,h1,h2⟩
   ·cases h
   obtain⟨hu,hp,rest,hb,hrest⟩:=many_again hB hN hi hz m (c-1) x1 (out++b1) b1 _ b' p' h2 (by omega)
   simp only[Bool.or_eq_false_iff]at hu
   obtain⟨⟨hu0,hu1⟩,hset⟩:=hu
   subst hu1
   have a1:=wrF_adv _ _ _ _ _ h1 b1 x1 _ rfl
   refine⟨hu0,by omega,b1++rest,by rw[hb,ByteArray.append_assoc],fun hsz x acc j hat hx=>?_⟩
   rw[ByteArray.size_append]at hsz hx
   have hpos:=(wr_elem hB.right _ _ _ _ _ _ _ hi h1 (by omega)).1.pos
   unfold manyF
   rw[if_pos (by omega),hN i p dp b1 x1 hi h1 (by omega) x z hat.left (by omega) hz]
   unfold Out.andThen
   simp only
   rw[hat.left.2,if_neg (by rintro⟨q1,q2⟩;rw[q1,q2]at hset;cases hset),hrest (by omega) (x+b1.size) (acc++seg F.t p x1) (j+1) hat.right (by omega)]
   rw[List.append_assoc,seg_app (by omega) hp,show j+1+(c-1).toNat=j+c.toNat by omega]
  ·rename_i hc0
   cases e
   refine⟨rfl,Nat.le_refl _,noB,(app_noB' _).symm,fun _ x acc j hat hx=>?_⟩
   unfold manyF
   have h0:noB.size=0:=rfl
   rw[if_neg (by omega),seg_nil,List.append_nil,show c.toNat=0 by omega]
   rfl
theorem seq_first{E:Env}{F:WEnv}{f:Nat}(hB:Both E F){i:Nat}(hi:i<F.s.length){dp:Int}:∀(c j p:Nat) (out:ByteArray) (u:Bool) (b':ByteArray) (p':Nat) (u':Bool),j+c=(nd F.s i).kids.length→wseqF F (wrF F f) dp ((nd F.s i).kids.drop j) p out u=some (some (b',p',u'))→
 ∃rest,b'=out++rest∧(rest.size≤16777215→rest=noB∨∃k,j≤k∧k<(nd F.s i).kids.length∧(∀l,j≤l→l<k→¬(kd (nd F.s i) l).must)∧∃b1 r1,rest=b1++r1∧Elem b1∧Beg F.s (kd (nd F.s i) k).node.toNat (hd b1).2.c (hd b1).2.n)
 |0,j,p,out,u,b',p',u',hj,e=>by
  rw[List.drop_eq_nil_of_le (by omega)]at e
  unfold wseqF at e
  cases e
  exact⟨noB,(app_noB' _).symm,fun _=> .inl rfl⟩
 |c+1,j,p,out,u,b',p',u',hj,e=>by
  have hjl:j<(nd F.s i).kids.length:=by omega
  rw[drop_kid hjl]at e
  rcases seq_inv hB.right hB.okF hi (kd_mem hjl) e with⟨hlo,h⟩|⟨b1,x1,u1,h1,hne,h⟩
  ·obtain⟨rest,hb,hrest⟩:=seq_first hB hi c (j+1) _ _ _ _ _ _ (by omega) h
   refine⟨rest,hb,fun hz=>?_⟩
   rcases hrest hz with h|⟨k,k1,k2,k3,k4⟩
   ·exact .inl h
   ·refine .inr ⟨k,by omega,k2,fun l l1 l2=>?_,k4⟩
    by_cases e:l=j
    ·subst e
     rintro⟨m1,m2⟩
     rcases hlo.2 with⟨o,_⟩|⟨o,_⟩
     ·rw[m1]at o;cases o
     ·exact o m2
    ·exact k3 l (by omega) l2
  ·obtain⟨rest,hb,_⟩:=seq_first hB hi c (j+1) _ _ _ _ _ _ (by omega) h
   refine⟨b1++rest,by rw[hb,ByteArray.append_assoc],fun hz=> .inr ⟨j,Nat.le_refl _,hjl,fun l l1 l2=>by omega,b1,rest,rfl,?_⟩⟩
   rw[ByteArray.size_append]at hz
   exact wr_elem hB.right _ _ _ _ _ _ _ (by have:=hB.right.fine.within i hi _ (kd_mem hjl);omega) h1 (by omega)
theorem seq_again{E:Env}{F:WEnv}{f:Nat}(hB:Both E F)(hN:Again E F f){i:Nat}(hi:i<F.s.length)(hk10:(nd F.s i).kind=10){dp:Int}{z:Nat}(hz:z≤E.d.size):∀(c j p:Nat) (out:ByteArray) (u:Bool) (b':ByteArray) (p':Nat),j+c=(nd F.s i).kids.length→wseqF F (wrF F f) dp ((nd F.s i).kids.drop j) p out u=some (some (b',p',false))→
 u=false∧p≤p'∧∃rest,b'=out++rest∧(rest.size≤16777000→∀(x:Nat) (acc:List Vl),At E.d x rest→x+rest.size=z→seqF E (rdF E f) z (dp+1) ((nd F.s i).kids.drop j) x acc=some (.ok (acc++seg F.t p p',z)))
 |0,j,p,out,u,b',p',hj,e=>by
  rw[List.drop_eq_nil_of_le (by omega)]at e ⊢
  unfold wseqF at e
  cases e
  refine⟨rfl,Nat.le_refl _,noB,(app_noB' _).symm,fun _ x acc hat hx=>?_⟩
  have h0:noB.size=0:=rfl
  unfold seqF
  rw[if_neg (by omega),seg_nil,List.append_nil,show x=z by omega]
 |c+1,j,p,out,u,b',p',hj,e=>by
  have hjl:j<(nd F.s i).kids.length:=by omega
  have hkm:=kd_mem hjl
  have hw:=hB.right.fine.within i hi _ hkm
  rw[drop_kid hjl]at e ⊢
  rcases seq_inv hB.right hB.okF hi hkm e with⟨hlo,h⟩|⟨b1,x1,u1,h1,hne,h⟩
  ·obtain⟨hu,hp,rest,hb,hrest⟩:=seq_again hB hN hi hk10 hz c (j+1) _ _ _ _ _ (by omega) h
   obtain⟨rest',hb',hfirst⟩:=seq_first hB hi c (j+1) _ _ _ _ _ _ (by omega) h
   obtain rfl:rest'=rest:=app_cancel (hb'.symm.trans hb)
   refine⟨hu,by omega,rest',hb,fun hsz x acc hat hx=>?_⟩
   have hhd:x<z→(E.hd x z).1=0∧E.bg (kd (nd F.s i) j).node.toNat (E.hd x z).2.c (E.hd x z).2.n=false:=fun hlt=>by
    rcases hfirst (by omega)with h0|⟨k,k1,k2,k3,b1,r1,hr1,hel,hbeg⟩
    ·rw[h0]at hx
     have h0:noB.size=0:=rfl
     omega
    ·rw[hr1]at hat hx
     rw[ByteArray.size_append]at hx
     obtain⟨e1,e2⟩:=hat.left.hd hel.1 hel.2 (y:=z) (by omega) hz
     rw[e1]
     refine⟨hel.1,Bool.eq_false_iff.2 fun hbg=>?_⟩
     have hBg:=(hB.bg _ (by omega) _ _).1 hbg
     obtain⟨d1,d2,d3,d4⟩:=hel.bd
     rcases((hB.right.2.2.2.2 i hi).1 (.inl hk10)) j hjl with hst|hT
     ·rcases hlo.2 with⟨o,_⟩|⟨o,_⟩
      ·have:=hst.2.1;rw[this]at o;cases o
      ·exact o hst.2.2
     ·exact hT k (by omega) k2 (fun l l1 l2 hst=>k3 l (by omega) l2 hst.2) ⟨_,_,d1,d2,d3,d4,hBg,hbeg⟩
   unfold seqF
   rw[if_neg (fun q=>q.2 (hhd q.1).1),if_neg (fun q=>by rw[(hhd q.1).2]at q;cases q.2)]
   have hcons:vl F.t p::seg F.t (p+1) p'=seg F.t p p':=seg_cons hlo.1 hp
   rcases hlo.2 with⟨o,hv⟩|⟨o,u',hu',hv⟩
   ·rw[if_pos o,hrest hsz x _ hat hx,List.append_assoc,←hcons,hv]
    rfl
   ·have hno:¬(kd (nd F.s i) j).opt=true:=fun q=>((hB.right.2.2.1 i hi).2.2.2 j hjl).2.2.2 ⟨q,o⟩
    obtain⟨u2,e1,e2,_⟩:=hB.dv i (by rw[hB.s];exact hi) (kd (nd F.s i) j) (by rw[hB.s];exact hkm) o
    rw[hB.s]at e1 e2
    rw[if_neg hno,if_pos o,hrest hsz x _ hat hx,List.append_assoc,←hcons,hv,e2,elem_one e1 hu']
    rfl
  ·obtain⟨hu,hp,rest,hb,hrest⟩:=seq_again hB hN hi hk10 hz c (j+1) _ _ _ _ _ (by omega) h
   simp only[Bool.or_eq_false_iff]at hu
   obtain⟨hu0,hu1⟩:=hu
   subst hu1
   have a1:=wrF_adv _ _ _ _ _ h1 b1 x1 _ rfl
   refine⟨hu0,by omega,b1++rest,by rw[hb,ByteArray.append_assoc],fun hsz x acc hat hx=>?_⟩
   rw[ByteArray.size_append]at hsz hx
   obtain⟨hel,hbeg⟩:=wr_elem hB.right _ _ _ _ _ _ _ (by omega) h1 (by omega)
   have hpos:=hel.pos
   obtain⟨e1,e2⟩:=hat.left.hd hel.1 hel.2 (y:=z) (by omega) hz
   unfold seqF
   rw[if_neg (fun q=>q.2 (by rw[e1];exact hel.1)),if_pos ⟨by omega,by rw[e1];exact(hB.bg _ (by omega) _ _).2 hbeg⟩,hN _ p (dp+1) b1 x1 (by omega) h1 (by omega) x z hat.left (by omega) hz]
   unfold Out.andThen
   simp only
   rw[hat.left.2,if_neg hne,hrest (by omega) (x+b1.size) (acc++seg F.t p x1) hat.right (by omega),List.append_assoc,seg_app (by omega) hp]
theorem choice_at{E:Env}{rec:Rec}{h:Hd}{x z:Nat}{dp:Int}{n:Nd}{a:Nat}(ha:a<n.kids.length)(hy:E.bg (kd n a).node.toNat h.c h.n=true):∀(c j:Nat),j+c=a→(∀l,j≤l→l<a→E.bg (kd n l).node.toNat h.c h.n=false)→
 choiceF E rec h x z dp (n.kids.drop j) j=Out.andThen (rec (kd n a).node.toNat x z dp) fun vs _=>some (.ok (⟨13,noB,a,1⟩::vs,z))
 |0,j,e,hn=>by
  obtain rfl:j=a:=by omega
  rw[drop_kid ha]
  unfold choiceF
  rw[if_pos hy]
 |c+1,j,e,hn=>by
  rw[drop_kid (by omega)]
  unfold choiceF
  rw[if_neg (by rw[hn j (by omega) (by omega)];decide)]
  exact choice_at ha hy c (j+1) (by omega) fun l l1 l2=>hn l (by omega) l2
theorem bare_again{E:Env}{F:WEnv}{f:Nat}(hB:Both E F)(hN:Again E F f){i:Nat}(hi:i<F.s.length){p:Nat}{dp cl nu:Int}{b:ByteArray}{p':Nat}(hp:p<F.t.length)(hkind:(vl F.t p).kind=(nd F.s i).kind)(hdp:dp≤12)(q1:0≤cl)(q2:cl≤3)(q3:0≤nu)(q4:nu≤30)
 (h:wbareF F (wrF F f) f (nd F.s i) cl nu (vl F.t p) (p+1) dp=some (some (b,p',false)))(hb:b.size≤16777000){x:Nat}(hat:At E.d x b):bareF E (rdF E f) f (nd F.s i) cl nu (hd b).2 x (x+b.size) dp=some (.ok (seg F.t p p',x+b.size)):=by
 obtain⟨hk1,hk14,hT1,hT2,hT3,hT4,hT5⟩:=tagged_of hB.right hi
 unfold wbareF at h
 unfold bareF
 by_cases k13:(nd F.s i).kind=13
 ·rw[if_pos k13]at h ⊢
  split at h
  ·rename_i q
   have ha:(vl F.t p).alt.toNat<(nd F.s i).kids.length:=by omega
   have hw:=hB.right.fine.within i hi _ (kd_mem ha)
   obtain⟨hel,hbeg⟩:=wr_elem hB.right _ _ _ _ _ _ _ (by omega) h (by omega)
   obtain⟨d1,d2,d3,d4⟩:=hel.bd
   have hy:=(hB.bg _ (by omega) _ _).2 hbeg
   have hc:=choice_at (E:=E) (rec:=rdF E f) (h:=(hd b).2) (x:=x) (z:=x+b.size) (dp:=dp) ha hy (vl F.t p).alt.toNat 0 (by omega) fun l _ l2=>Bool.eq_false_iff.2 fun hbg=>by
    have hwl:=hB.right.fine.within i hi _ (kd_mem (Nat.lt_trans l2 ha))
    have hBg:=(hB.bg _ (by omega) _ _).1 hbg
    rcases((hB.right.2.2.2.2 i hi).1 (.inr k13)) l (Nat.lt_trans l2 ha)with hst|hT
    ·have:=hst.1;omega
    ·exact hT _ l2 ha (fun l l1 l2 hst=>by have:=hst.1;omega) ⟨_,_,d1,d2,d3,d4,hBg,hbeg⟩
   rw[List.drop_zero]at hc
   have a1:=wrF_adv _ _ _ _ _ h b p' _ rfl
   rw[hc,hN _ (p+1) dp b p' (by omega) h hb x (x+b.size) hat (Nat.le_refl _) hat.1]
   unfold Out.andThen
   simp only
   rw[←seg_cons hp (by omega),vl_parts (hkind.trans k13) (noB_of q.1) rfl q.2.1]
   rw[show(((vl F.t p).alt.toNat:Nat):Int)=(vl F.t p).alt by omega]
  ·cases h
 rw[if_neg k13]at h ⊢
 by_cases k14:(nd F.s i).kind=14
 ·rw[if_pos k14]at h
  rw[if_neg (fun q=>q.1 k14),if_neg (by omega),if_pos k14]
  split at h
  ·rename_i q
   injection h with h
   injection h with h
   obtain⟨hbe,h⟩:=Prod.mk.inj h
   obtain⟨rfl,_⟩:=Prod.mk.inj h
   rw[seg_one hp,hat.2,vl_parts (hkind.trans k14) hbe q.2.2.1 q.2.2.2]
  ·cases h
 rw[if_neg k14]at h
 have hel:∀(bt:Bool) (s:ByteArray),b=elB cl bt nu s→bt=decide (10≤(nd F.s i).kind∧(nd F.s i).kind≤12)→hd b=(0,⟨cl,bt,nu,2+cnt s.size,s.size⟩)∧¬((nd F.s i).kind≠14∧¬((hd b).2.c=cl∧(hd b).2.n=nu∧(hd b).2.b=decide (10≤(nd F.s i).kind∧(nd F.s i).kind≤12)))∧At E.d (x+(hd b).2.s.toNat) s∧x+(hd b).2.s.toNat+s.size=x+b.size:=fun bt s e hbt=>by
  subst e
  obtain⟨_,e2⟩:=elem_elB cl bt nu s q1 q2 q3 q4 (by omega)
  have hz:=elB_sz cl bt nu s
  have hc:=cnt_bd s.size
  rw[e2]
  exact⟨rfl,fun q=>q.2 ⟨rfl,rfl,hbt⟩,hat.el,by show x+(2+cnt s.size).toNat+s.size=_;omega⟩
 by_cases k10:(nd F.s i).kind=10
 ·rw[if_pos k10]at h
  split at h
  ·rename_i q
   rcases wandThen_cases h with⟨_,h⟩|⟨b1,x1,u1,h1,h2⟩
   ·cases h
   injection h2 with h2
   injection h2 with h2
   obtain⟨hbe,h2⟩:=Prod.mk.inj h2
   obtain⟨rfl,rfl⟩:=Prod.mk.inj h2
   obtain⟨he,hck,hat1,hsz⟩:=hel true b1 hbe.symm (by rw[k10];rfl)
   rw[if_neg hck,if_neg (by omega),if_neg k14,if_pos k10]
   obtain⟨_,hpp,rest,hb1,hrest⟩:=seq_again hB hN hi k10 (z:=x+b.size) hat.1 (nd F.s i).kids.length 0 (p+1) noB false b1 x1 (by omega) h1
   rw[noB_app]at hb1
   subst hb1
   rw[List.drop_zero]at hrest
   rw[hrest (by omega) _ [] hat1 hsz]
   simp only[List.nil_append]
   rw[←seg_cons hp (by omega),vl_parts (hkind.trans k10) (noB_of q.1) q.2.1 q.2.2]
  ·cases h
 rw[if_neg k10]at h
 by_cases k12:10≤(nd F.s i).kind∧(nd F.s i).kind≤12
 ·rw[if_pos k12]at h
  split at h
  ·rename_i q
   rcases wandThen_cases h with⟨_,h⟩|⟨b1,x1,u1,h1,h2⟩
   ·cases h
   injection h2 with h2
   injection h2 with h2
   obtain⟨hbe,h2⟩:=Prod.mk.inj h2
   obtain⟨rfl,rfl⟩:=Prod.mk.inj h2
   obtain⟨he,hck,hat1,hsz⟩:=hel true b1 hbe.symm (by simp[k12])
   rw[if_neg hck,if_neg (by omega),if_neg k14,if_neg k10,if_pos k12]
   have h1k:=hB.right.fine.one i hi (by omega)
   have hw:=hB.right.fine.within i hi _ (kd_mem (n:=nd F.s i) (i:=0) (by omega))
   obtain⟨_,hpp,rest,hb1,hrest⟩:=many_again hB hN (i:=(kd (nd F.s i) 0).node.toNat) (by omega) (z:=x+b.size) hat.1 f _ (p+1) noB noB false b1 x1 h1 q.2.2
   rw[noB_app]at hb1
   subst hb1
   rw[hrest (by omega) _ [] 0 hat1 hsz]
   simp only[List.nil_append]
   rw[←seg_cons hp (by omega),vl_parts hkind (noB_of q.1) q.2.1 rfl,Nat.zero_add,show(((vl F.t p).kids.toNat:Nat):Int)=(vl F.t p).kids by omega]
  ·cases h
 rw[if_neg k12]at h
 split at h
 ·rename_i q
  injection h with h
  injection h with h
  obtain⟨hbe,h⟩:=Prod.mk.inj h
  obtain⟨rfl,_⟩:=Prod.mk.inj h
  obtain⟨he,hck,hat1,hsz⟩:=hel false _ hbe.symm (by simp[k12])
  rw[if_neg hck,if_neg (by omega),if_neg k14,if_neg k10,if_neg k12]
  have hx:=hat1.2
  rw[hsz]at hx
  rw[hx,if_pos ((hB.okE _ _).2 ((hB.okF _ _).1 q.1)),seg_one hp,vl_parts hkind rfl q.2.1 q.2.2]
 ·cases h
theorem again_all{E:Env}{F:WEnv}(hB:Both E F):∀f,Again E F f
 |0=>fun _ _ _ _ _ _ h=>by cases h
 |f+1=>fun i p dp b p' hi h hb x y hat hy hyd=>by
  have hel:=(wr_elem hB.right _ _ _ _ _ _ _ hi h (by omega)).1
  obtain⟨hk1,hk14,hT1,hT2,hT3,hT4,hT5⟩:=tagged_of hB.right hi
  obtain⟨w1,w2,w3,w4⟩:=wnu_bd hB.right hi
  obtain⟨e1,e2⟩:=hat.hd hel.1 hel.2 hy hyd
  rw[rdF,if_neg (fun q=>q (by rw[e1];exact hel.1)),e2,e1]
  rw[wrF]at h
  split at h
  ·rename_i q
   rcases wandThen_cases h with⟨_,h⟩|⟨b1,x1,u1,h1,h2⟩
   ·cases h
   injection h2 with h2
   injection h2 with h2
   obtain⟨hbe,h2⟩:=Prod.mk.inj h2
   obtain⟨rfl,rfl⟩:=Prod.mk.inj h2
   unfold valF
   rw[hB.s]
   by_cases hm:(nd F.s i).mode=1
   ·rw[if_pos hm]at hbe
    have ht:0≤(nd F.s i).tag:=by
     by_cases z:(nd F.s i).tag= -1
     ·have:=hT3 z;omega
     ·omega
    have hc0:wcl (nd F.s i)=0:=by unfold wcl;rw[if_neg (by omega)]
    have hn0:wnu (nd F.s i)=own0 (nd F.s i).kind:=by unfold wnu;rw[if_neg (by omega)]
    rw[if_neg (by omega),if_neg (by omega)]
    subst hbe
    have hz:=elB_sz 2 true (nd F.s i).tag b1
    have hc:=cnt_bd b1.size
    obtain⟨_,he2⟩:=elem_elB 2 true (nd F.s i).tag b1 (by decide) (by decide) ht hT2 (by omega)
    have hat1:=hat.el
    have hel1:=(wbare_elem hB.right hi (wr_elem hB.right f) h1 (by omega)).1
    have hsz:x+(2+cnt b1.size).toNat+b1.size=x+(elB 2 true (nd F.s i).tag b1).size:=by omega
    obtain⟨f1,f2⟩:=hat1.hd hel1.1 hel1.2 (y:=x+(elB 2 true (nd F.s i).tag b1).size) (by omega) hat.1
    rw[he2]
    simp only
    rw[if_neg (by simp),if_neg (by omega),if_neg (fun q=>q (by rw[f1];exact hel1.1)),f2,f1]
    rw[hc0,hn0]at h1
    rw[hc0]at w1 w2
    rw[hn0]at w3 w4
    rw[bare_again hB (again_all hB f) hi q.1 q.2.1 q.2.2 w1 w2 w3 w4 h1 (by omega) hat1]
    unfold Out.andThen
    simp only
    rw[if_neg (by omega)]
   ·rw[if_neg hm]at hbe
    subst hbe
    have hm0:(nd F.s i).mode=0:=by have:=mode_of hB.right.2.2.1 hi;omega
    have hbare:=bare_again hB (again_all hB f) hi q.1 q.2.1 q.2.2 w1 w2 w3 w4 h1 hb hat
    by_cases ht:(nd F.s i).tag<0
    ·rw[if_pos ht]
     unfold wcl wnu at hbare
     rw[if_neg (by omega),if_neg (by omega)]at hbare
     exact hbare
    ·rw[if_neg ht,if_pos hm0]
     unfold wcl wnu at hbare
     rw[if_pos ⟨by omega,hm0⟩,if_pos ⟨by omega,hm0⟩]at hbare
     exact hbare
  ·cases h
def Lies(t:List Vl)(p:Nat)(vs:List Vl):Prop:=∃pre post,t=pre++vs++post∧pre.length=p
theorem Lies.left{t:List Vl}{p:Nat}{a b:List Vl}(h:Lies t p (a++b)):Lies t p a:=by
 obtain⟨pre,post,e,hp⟩:=h
 exact⟨pre,b++post,by rw[e];simp,hp⟩
theorem Lies.right{t:List Vl}{p:Nat}{a b:List Vl}(h:Lies t p (a++b)):Lies t (p+a.length) b:=by
 obtain⟨pre,post,e,hp⟩:=h
 exact⟨pre++a,post,by rw[e];simp,by rw[List.length_append,hp]⟩
theorem Lies.head{t:List Vl}{p:Nat}{v:Vl}{vs:List Vl}(h:Lies t p (v::vs)):p<t.length∧vl t p=v:=by
 obtain⟨pre,post,e,hp⟩:=h
 refine⟨by rw[e];simp;omega,?_⟩
 rw[e]
 unfold vl
 rw[List.getD_eq_getElem?_getD,List.append_assoc,List.getElem?_append_right (by omega),hp,Nat.sub_self]
 rfl
theorem Lies.tail{t:List Vl}{p:Nat}{v:Vl}{vs:List Vl}(h:Lies t p (v::vs)):Lies t (p+1) vs:=Lies.right (a:=[v]) h
theorem wrF_here{F:WEnv}{f i p:Nat}{dp:Int}{b:ByteArray}{p':Nat}{u:Bool}(h:wrF F f i p dp=some (some (b,p',u))):p<F.t.length∧(vl F.t p).kind=(nd F.s i).kind∧dp≤12:=by
 match f with
 |0=>cases h
 |f+1=>
  rw[wrF]at h
  split at h
  ·rename_i q;exact q
  ·cases h
def Fwd(E:Env)(F:WEnv)(f:Nat):Prop:=∀i x y dp vs z,i<F.s.length→rdF E f i x y dp=some (.ok (vs,z))→y≤E.d.size→∀p,Lies F.t p vs→wrF F (f+1) i p dp=some (some (E.d.extract x z,p+vs.length,false))
theorem ex_app{d:ByteArray}{x y z:Nat}(h1:x≤y)(h2:y≤z):d.extract x y++d.extract y z=d.extract x z:=(ByteArray.extract_eq_extract_append_extract y h1 h2).symm
theorem ex_nil(d:ByteArray)(x:Nat):d.extract x x=noB:=by rw[ByteArray.extract_same];rfl
theorem many_fwd{E:Env}{F:WEnv}{f:Nat}(hB:Both E F)(hN:Fwd E F f){set:Bool}{i:Nat}(hi:i<F.s.length){dp:Int}{z:Nat}(hz:z≤E.d.size):∀(m x:Nat) (last:ByteArray) (j:Nat) (acc:List Vl) (j':Nat) (vs':List Vl),x≤z→manyF E (rdF E f) set i z dp m x last j acc=some (.ok (j',vs'))→
 ∃n vs,j'=j+n∧vs'=acc++vs∧∀(p:Nat) (out:ByteArray) (u:Bool),Lies F.t p vs→wmanyF F (wrF F (f+1)) set i dp m (n:Nat) p out last u=some (some (out++E.d.extract x z,p+vs.length,u))
 |0,_,_,_,_,_,_,_,e=>by cases e
 |m+1,x,last,j,acc,j',vs',hx,e=>by
  unfold manyF at e
  split at e
  ·obtain⟨vs1,z1,h1,h2⟩:=andThen_ok e
   split at h2
   ·cases h2
   rename_i hset
   have hb:=rdF_len0 (by rw[hB.s];exact hB.right.fine) (by rw[hB.s];exact hi) h1
   obtain⟨n,vs,hj,hv,hw⟩:=many_fwd hB hN hi hz m z1 _ _ _ _ _ hb.2.2.1 h2
   refine⟨n+1,vs1++vs,by omega,by rw[hv,List.append_assoc],fun p out u hl=>?_⟩
   unfold wmanyF
   rw[if_pos (by omega),hN i x z dp vs1 z1 hi h1 hz p hl.left]
   unfold WOut.andThen
   simp only
   have hsb:(set&&below (E.d.extract x z1) last)=false:=by
    cases set with
    |false=>rfl
    |true=>exact Bool.eq_false_iff.2 fun q=>hset ⟨rfl,q⟩
   rw[hsb,Bool.or_false,Bool.or_false,show(((n+1:Nat):Int)-1)=(n:Int)by omega,hw _ _ _ hl.right,ByteArray.append_assoc,ex_app (by omega) hb.2.2.1,List.length_append,Nat.add_assoc]
  ·cases e
   refine⟨0,[],rfl,by simp,fun p out u _=>?_⟩
   unfold wmanyF
   rw[if_neg (by omega),show x=z by omega,ex_nil,app_noB']
   rfl
theorem seq_fwd{E:Env}{F:WEnv}{f:Nat}(hB:Both E F)(hN:Fwd E F f){i:Nat}(hi:i<F.s.length){dp:Int}{z:Nat}(hz:z≤E.d.size):∀(c j x:Nat) (acc vs':List Vl) (z':Nat),j+c=(nd F.s i).kids.length→x≤z→seqF E (rdF E f) z (dp+1) ((nd F.s i).kids.drop j) x acc=some (.ok (vs',z'))→
 ∃vs,vs'=acc++vs∧∀(p:Nat) (out:ByteArray) (u:Bool),Lies F.t p vs→wseqF F (wrF F (f+1)) dp ((nd F.s i).kids.drop j) p out u=some (some (out++E.d.extract x z,p+vs.length,u))
 |0,j,x,acc,vs',z',hj,hx,e=>by
  rw[List.drop_eq_nil_of_le (by omega)]at e ⊢
  unfold seqF at e
  split at e
  ·cases e
  ·cases e
   refine⟨[],by simp,fun p out u _=>?_⟩
   unfold wseqF
   rw[show x=z by omega,ex_nil,app_noB']
   rfl
 |c+1,j,x,acc,vs',z',hj,hx,e=>by
  have hjl:j<(nd F.s i).kids.length:=by omega
  have hkm:=kd_mem hjl
  have hw:=hB.right.fine.within i hi _ hkm
  have hi':(kd (nd F.s i) j).node.toNat<F.s.length:=by omega
  obtain⟨hk1,hk14,_⟩:=tagged_of hB.right hi'
  have hDf:=(hB.right.2.2.2.2 i hi).2 j hjl
  have hKo:=(hB.right.2.2.1 i hi).2.2.2 j hjl
  rw[drop_kid hjl]at e ⊢
  unfold seqF at e
  split at e
  ·cases e
  split at e
  ·obtain⟨vs1,z1,h1,h2⟩:=andThen_ok e
   split at h2
   ·cases h2
   rename_i hne
   have hb:=rdF_len0 (by rw[hB.s];exact hB.right.fine) (by rw[hB.s];exact hi') h1
   obtain⟨vs,hv,hw2⟩:=seq_fwd hB hN hi hz c (j+1) z1 _ _ _ (by omega) hb.2.2.1 h2
   refine⟨vs1++vs,by rw[hv,List.append_assoc],fun p out u hl=>?_⟩
   have hw1:=hN _ _ _ _ _ _ hi' h1 hz p hl.left
   have hhere:=wrF_here hw1
   have hw1':wrF F (f+1) (kd (nd F.s i) j).node.toNat p (if(kd (nd F.s i) j).dflt.size=0 then dp+1 else 1)=some (some (E.d.extract x z1,p+vs1.length,false)):=by
    by_cases hd:(kd (nd F.s i) j).dflt.size=0
    ·rw[if_pos hd];exact hw1
    ·rw[if_neg hd]
     obtain⟨hk9,_⟩:=hDf.resolve_left hd
     rw[wrF_leaf hk1 hk9]at hw1 ⊢
     split at hw1
     ·rename_i q
      rw[if_pos ⟨⟨q.1.1,q.1.2.1,by decide⟩,q.2⟩]
      exact hw1
     ·cases hw1
   unfold wseqF
   rw[if_neg (fun q=>by have:=q.2.2;omega),hw1']
   unfold WOut.andThen
   simp only
   rw[if_neg (fun q=>hne q.2),if_neg (by omega),Bool.or_false,hw2 _ _ _ hl.right,ByteArray.append_assoc,ex_app (by omega) hb.2.2.1,List.length_append,Nat.add_assoc]
  split at e
  ·rename_i ho
   obtain⟨vs,hv,hw2⟩:=seq_fwd hB hN hi hz c (j+1) x _ _ _ (by omega) hx e
   refine⟨⟨15,noB,0,0⟩::vs,by rw[hv,List.append_assoc];rfl,fun p out u hl=>?_⟩
   obtain⟨g1,g2⟩:=hl.head
   unfold wseqF
   rw[if_pos ⟨ho,g1,by rw[g2]⟩,if_pos (by rw[g2];exact⟨rfl,rfl,rfl⟩),hw2 _ _ _ hl.tail,List.length_cons,Nat.add_assoc,Nat.add_comm 1]
  split at e
  ·rename_i ho hd
   obtain⟨hk9,_⟩:=hDf.resolve_left hd
   obtain⟨y,e1,e2,_⟩:=hB.dv i (by rw[hB.s];exact hi) (kd (nd F.s i) j) (by rw[hB.s];exact hkm) hd
   rw[hB.s]at e1 e2
   rw[e2]at e
   obtain⟨vs,hv,hw2⟩:=seq_fwd hB hN hi hz c (j+1) x _ _ _ (by omega) hx e
   refine⟨⟨(nd F.s (kd (nd F.s i) j).node.toNat).kind,y,0,0⟩::vs,by rw[hv,List.append_assoc];rfl,fun p out u hl=>?_⟩
   obtain⟨g1,g2⟩:=hl.head
   have hle:=(leaf_elem hB.right hi' hk9 e1).2 rfl
   have hco:ContentOk (nd F.s (kd (nd F.s i) j).node.toNat).kind y:=by
    obtain⟨_,_,hT1,hT2,hT3,hT4,hT5⟩:=tagged_of hB.right hi'
    exact((elem_iff (fun z=>hT3 (by omega)) (by omega)).1 e1).2
   unfold wseqF
   rw[if_neg (fun q=>ho q.1),if_neg hd,wrF_leaf hk1 hk9,g2,if_pos ⟨⟨g1,rfl,by decide⟩,(hB.okF _ _).2 hco,rfl,rfl⟩]
   unfold WOut.andThen
   simp only
   rw[if_pos ⟨hd,hle⟩,Bool.or_false,hw2 _ _ _ hl.tail,List.length_cons,Nat.add_assoc,Nat.add_comm 1]
  split at e<;>cases e
theorem choice_inv{E:Env}{rec:Rec}{h:Hd}{x z:Nat}{dp:Int}{n:Nd}:∀(c j:Nat) {vs':List Vl} {z':Nat},j+c=n.kids.length→choiceF E rec h x z dp (n.kids.drop j) j=some (.ok (vs',z'))→∃a vs z1,a<n.kids.length∧vs'=⟨13,noB,(a:Nat),1⟩::vs∧rec (kd n a).node.toNat x z dp=some (.ok (vs,z1))
 |0,j,vs',z',hj,e=>by
  rw[List.drop_eq_nil_of_le (by omega)]at e
  unfold choiceF at e
  cases e
 |c+1,j,vs',z',hj,e=>by
  rw[drop_kid (by omega)]at e
  unfold choiceF at e
  split at e
  ·obtain⟨vs,z1,h1,h2⟩:=andThen_ok e
   cases h2
   exact⟨j,vs,z1,by omega,rfl,h1⟩
  ·exact choice_inv c (j+1) (by omega) e
theorem el_of{E:Env}{x y:Nat}(h:(E.hd x y).1=0)(hy:y≤E.d.size):Elem (E.d.extract x (fin x (E.hd x y).2))∧hd (E.d.extract x (fin x (E.hd x y).2))=E.hd x y∧E.hd x (fin x (E.hd x y).2)=E.hd x y∧fin x (E.hd x y).2≤y∧
 E.d.extract x (fin x (E.hd x y).2)=elB (E.hd x y).2.c (E.hd x y).2.b (E.hd x y).2.n (E.d.extract (x+(E.hd x y).2.s.toNat) (fin x (E.hd x y).2)):=by
 have h1:=fin_le h
 have h2:=fin_int h
 have ha:=hd_again h (z:=fin x (E.hd x y).2) (Nat.le_refl _) h1.2.2.2 hy
 have he:hd (E.d.extract x (fin x (E.hd x y).2))=E.hd x y:=ha
 have hz:=ex_size E.d x (fin x (E.hd x y).2)
 have hel:Elem (E.d.extract x (fin x (E.hd x y).2)):=⟨by rw[he];exact h,by rw[he];omega⟩
 have hb:=(elB_hd hel.1 hel.2).1
 rw[he]at hb
 refine⟨hel,he,ha,h1.2.2.1,?_⟩
 rw[ByteArray.extract_extract,hz]at hb
 rw[Nat.min_eq_right (by omega)]at hb
 exact hb
theorem bare_fwd{E:Env}{F:WEnv}{f:Nat}(hB:Both E F)(hN:Fwd E F f){i:Nat}(hi:i<F.s.length){x y:Nat}{dp cl nu:Int}{vs:List Vl}{z:Nat}(hh:(E.hd x y).1=0)(hy:y≤E.d.size)
 (e:bareF E (rdF E f) f (nd F.s i) cl nu (E.hd x y).2 x (fin x (E.hd x y).2) dp=some (.ok (vs,z))){p:Nat}(hl:Lies F.t p vs):
 p<F.t.length∧(vl F.t p).kind=(nd F.s i).kind∧dp≤12∧wbareF F (wrF F (f+1)) (f+1) (nd F.s i) cl nu (vl F.t p) (p+1) dp=some (some (E.d.extract x (fin x (E.hd x y).2),p+vs.length,false)):=by
 obtain⟨hel,he,ha,hfy,hb⟩:=el_of hh hy
 have hfl:=fin_le hh
 unfold bareF at e
 unfold wbareF
 by_cases k13:(nd F.s i).kind=13
 ·rw[if_pos k13]at e ⊢
  obtain⟨a,vs1,z1,h1,h2,h3⟩:=choice_inv (n:=nd F.s i) (nd F.s i).kids.length 0 (by omega) (by rw[List.drop_zero];exact e)
  subst h2
  have hw:=hB.right.fine.within i hi _ (kd_mem h1)
  obtain⟨g1,g2⟩:=hl.head
  have hz1:=(rdF_fin h3).2
  rw[ha]at hz1
  have hw1:=hN _ _ _ _ _ _ (by omega) h3 hfl.2.2.2 (p+1) hl.tail
  have hhere:=wrF_here hw1
  refine⟨g1,by rw[g2];exact k13.symm,hhere.2.2,?_⟩
  rw[g2]
  rw[if_pos ⟨rfl,rfl,Int.natCast_nonneg _,Int.ofNat_lt.2 h1⟩,show((a:Nat):Int).toNat=a by omega,hw1,hz1,List.length_cons,Nat.add_assoc,Nat.add_comm 1]
 rw[if_neg k13]at e ⊢
 split at e
 ·cases e
 rename_i hck
 split at e
 ·cases e
 rename_i hdp
 by_cases k14:(nd F.s i).kind=14
 ·rw[if_pos k14]at e ⊢
  cases e
  obtain⟨g1,g2⟩:=hl.head
  refine⟨g1,by rw[g2];exact k14.symm,by omega,?_⟩
  rw[g2]
  rw[if_pos ⟨hel.1,hel.2,rfl,rfl⟩]
  rfl
 rw[if_neg k14]at e ⊢
 have hck':(E.hd x y).2.c=cl∧(E.hd x y).2.n=nu∧(E.hd x y).2.b=decide (10≤(nd F.s i).kind∧(nd F.s i).kind≤12):=Classical.not_not.1 fun q=>hck ⟨k14,q⟩
 obtain⟨c1,c2,c3⟩:=hck'
 rw[c1,c2,c3]at hb
 by_cases k10:(nd F.s i).kind=10
 ·rw[if_pos k10]at e ⊢
  split at e
  ·cases e
  ·cases e
  ·rename_i vs1 z1 h1
   cases e
   obtain⟨vs2,hv,hw⟩:=seq_fwd hB hN hi hfl.2.2.2 (nd F.s i).kids.length 0 _ _ _ _ (by omega) hfl.2.1 (by rw[List.drop_zero];exact h1)
   rw[List.drop_zero]at hw
   rw[List.nil_append]at hv
   subst hv
   obtain⟨g1,g2⟩:=hl.head
   refine⟨g1,by rw[g2];exact k10.symm,by omega,?_⟩
   rw[g2]
   rw[if_pos ⟨rfl,rfl,rfl⟩,hw _ _ _ hl.tail]
   unfold WOut.andThen
   simp only
   rw[noB_app,hb,List.length_cons,Nat.add_assoc,Nat.add_comm 1,show decide (10≤(nd F.s i).kind∧(nd F.s i).kind≤12)=true by rw[k10];rfl]
 rw[if_neg k10]at e ⊢
 by_cases k12:10≤(nd F.s i).kind∧(nd F.s i).kind≤12
 ·rw[if_pos k12]at e ⊢
  split at e
  ·cases e
  ·cases e
  ·rename_i j1 vs1 h1
   cases e
   have h1k:=hB.right.fine.one i hi (by omega)
   have hw0:=hB.right.fine.within i hi _ (kd_mem (n:=nd F.s i) (i:=0) (by omega))
   obtain⟨n,vs2,hj,hv,hw⟩:=many_fwd hB hN (i:=(kd (nd F.s i) 0).node.toNat) (by omega) hfl.2.2.2 f _ _ _ _ _ _ hfl.2.1 h1
   rw[List.nil_append]at hv
   rw[Nat.zero_add]at hj
   subst hv hj
   obtain⟨g1,g2⟩:=hl.head
   refine⟨g1,by rw[g2],by omega,?_⟩
   rw[g2]
   rw[if_pos ⟨rfl,rfl,Int.natCast_nonneg _⟩,wmanyF_le (fun _ _ _ _ h=>h) f (f+1) _ _ _ _ _ _ (by omega) (hw _ noB false hl.tail)]
   unfold WOut.andThen
   simp only
   rw[noB_app,hb,List.length_cons,Nat.add_assoc,Nat.add_comm 1,show decide (10≤(nd F.s i).kind∧(nd F.s i).kind≤12)=true by simp[k12]]
 rw[if_neg k12]at e ⊢
 split at e
 ·rename_i hok
  cases e
  obtain⟨g1,g2⟩:=hl.head
  refine⟨g1,by rw[g2],by omega,?_⟩
  rw[g2]
  rw[if_pos ⟨(hB.okF _ _).2 ((hB.okE _ _).1 hok),rfl,rfl⟩]
  conv=>rhs;rw[hb]
  rw[show decide (10≤(nd F.s i).kind∧(nd F.s i).kind≤12)=false by simp[k12]]
  rfl
 ·cases e
theorem fwd_all{E:Env}{F:WEnv}(hB:Both E F):∀f,Fwd E F f
 |0=>fun _ _ _ _ _ _ _ h=>by cases h
 |f+1=>fun i x y dp vs z hi h hy p hl=>by
  obtain⟨hk1,hk14,hT1,hT2,hT3,hT4,hT5⟩:=tagged_of hB.right hi
  obtain⟨hh,hzf⟩:=rdF_fin h
  subst hzf
  have hfl:=fin_le hh
  obtain⟨hel,he,ha,hfy,hb⟩:=el_of hh hy
  rw[rdF,if_neg (fun q=>q hh)]at h
  unfold valF at h
  rw[hB.s]at h
  rw[wrF]
  by_cases ht:(nd F.s i).tag<0
  ·rw[if_pos ht]at h
   obtain⟨a1,a2,a3,a4⟩:=bare_fwd hB (fwd_all hB f) hi hh hy h hl
   have hm:(nd F.s i).mode≠1:=by have:=hT3 (by omega);omega
   unfold wcl wnu
   rw[if_pos ⟨a1,a2,a3⟩,if_neg (by omega),if_neg (by omega),a4]
   unfold WOut.andThen
   simp only
   rw[if_neg hm]
  rw[if_neg ht]at h
  by_cases hm:(nd F.s i).mode=0
  ·rw[if_pos hm]at h
   obtain⟨a1,a2,a3,a4⟩:=bare_fwd hB (fwd_all hB f) hi hh hy h hl
   unfold wcl wnu
   rw[if_pos ⟨a1,a2,a3⟩,if_pos ⟨by omega,hm⟩,if_pos ⟨by omega,hm⟩,a4]
   unfold WOut.andThen
   simp only
   rw[if_neg (by omega)]
  rw[if_neg hm]at h
  have hm1:(nd F.s i).mode=1:=by have:=mode_of hB.right.2.2.1 hi;omega
  split at h
  ·cases h
  rename_i hck
  obtain⟨c1,c2,c3⟩:=Classical.not_not.1 hck
  split at h
  ·cases h
  split at h
  ·cases h
  rename_i hh1
  have hh1:=Classical.not_not.1 hh1
  obtain⟨vs1,z1,h1,h2⟩:=andThen_ok h
  split at h2
  ·cases h2
  rename_i hlt
  cases h2
  obtain⟨a1,a2,a3,a4⟩:=bare_fwd hB (fwd_all hB f) hi hh1 hfl.2.2.2 h1 hl
  have hfl1:=fin_le hh1
  unfold wcl wnu
  rw[if_pos ⟨a1,a2,a3⟩,if_neg (by omega),if_neg (by omega),a4]
  unfold WOut.andThen
  simp only
  rw[if_pos hm1,hb,c1,c2,c3,show fin (x+(E.hd x y).2.s.toNat) (E.hd (x+(E.hd x y).2.s.toNat) (fin x (E.hd x y).2)).2=fin x (E.hd x y).2 by omega]
end Go.Proofs.YtkkicodfpekbgaaGreatDoor
namespace Go.Proofs.YtkkicodfpekbgaaGreatDoor
open Go.RowKit
set_option linter.unusedSimpArgs false
set_option linter.unusedVariables false
set_option maxRecDepth 100000
set_option maxHeartbeats 8000000
def ValOf(s:List Nd)(i:Nat)(vs:List Vl)(d:Nat):Prop:=
 ∀(F:WEnv) (p:Nat) (dp:Int),F.s=s→(∀k t,F.ok k t=true↔ContentOk k t)→1≤dp→dp+d≤12→Lies F.t p vs→∃f b,wrF F f i p dp=some (some (b,p+vs.length,false))
theorem wrF_more{F:WEnv}{f g i p:Nat}{dp:Int}{r:WOut}(h:wrF F f i p dp=some r)(hg:f≤g):wrF F g i p dp=some r:=by
 obtain⟨k,rfl⟩:∃k,g=f+k:=⟨g-f,by omega⟩
 exact wrF_add f k i p dp r h
theorem wrF_by{F:WEnv}{f i p p':Nat}{dp:Int}{b:ByteArray}{v:Vl}(hp:p<F.t.length)(hv:vl F.t p=v)(hk:v.kind=(nd F.s i).kind)(hd:dp≤12)(h:wbareF F (wrF F f) f (nd F.s i) (wcl (nd F.s i)) (wnu (nd F.s i)) v (p+1) dp=some (some (b,p',false))):∃b',wrF F (f+1) i p dp=some (some (b',p',false)):=by
 rw[wrF,hv,if_pos ⟨hp,hk,hd⟩,h]
 exact⟨_,rfl⟩
theorem val_leaf{s:List Nd}{i:Nat}{t:ByteArray}(d:Nat)(hk1:1≤(nd s i).kind)(hk9:(nd s i).kind≤9)(hc:ContentOk (nd s i).kind t):ValOf s i [⟨(nd s i).kind,t,0,0⟩] d:=fun F p dp hs hok h0 hd hl=>by
 obtain⟨h1,h2⟩:=hl.head
 subst hs
 refine⟨1,leafB (nd F.s i) t,?_⟩
 rw[wrF_leaf hk1 hk9,h2,if_pos ⟨⟨h1,rfl,by omega⟩,(hok _ _).2 hc,rfl,rfl⟩]
 rfl
theorem val_choice{s:List Nd}{i c:Nat}{vs:List Vl}{d:Nat}(hk:(nd s i).kind=13)(hc:c<(nd s i).kids.length)(h:ValOf s (kd (nd s i) c).node.toNat vs d):ValOf s i (⟨13,noB,c,1⟩::vs) (d+1):=fun F p dp hs hok h0 hd hl=>by
 obtain⟨h1,h2⟩:=hl.head
 obtain⟨f,b,hf⟩:=h F (p+1) dp hs hok h0 (by omega) hl.tail
 subst hs
 obtain⟨b',hb'⟩:=wrF_by (f:=f) (p':=p+1+vs.length) (b:=b) (dp:=dp) h1 h2 (by rw[hk]) (by omega) (by
  unfold wbareF
  rw[if_pos hk,if_pos ⟨rfl,rfl,Int.natCast_nonneg _,Int.ofNat_lt.2 hc⟩]
  exact hf)
 exact⟨f+1,b',by rw[hb',List.length_cons,Nat.add_assoc,Nat.add_comm 1]⟩
def KidV(s:List Nd)(k:Kd)(vs:List Vl)(d:Nat):Prop:=(k.opt=true∧vs=[⟨15,noB,0,0⟩])∨(vs≠ []∧ValOf s k.node.toNat vs d)
theorem seq_val{F:WEnv}{s:List Nd}(hs:F.s=s)(hok:∀k t,F.ok k t=true↔ContentOk k t){dp:Int}{d:Nat}(hd:dp+1+d≤12)(h0:0≤dp)(hn:∀k:Kd,∀f p b p' u dq,wrF F f k.node.toNat p dq=some (some (b,p',u))→(vl F.t p).kind≠15):∀(ks:List Kd) (es:List (List Vl)) (p:Nat),ks.length=es.length→(∀j,j<ks.length→KidV s (ks.getD j kd0) (es.getD j []) d)→Lies F.t p es.flatten→
 ∃f,∀g,f≤g→∀out,∃b,wseqF F (wrF F g) dp ks p out false=some (some (b,p+es.flatten.length,false))
 | [],[],p,_,_,_=>⟨0,fun g _ out=>⟨out,rfl⟩⟩
 |k::ks,e::es,p,hl,hk,hlies=>by
  rw[List.flatten_cons]at hlies
  obtain⟨f2,h2⟩:=seq_val hs hok hd h0 hn ks es (p+e.length) (by simpa using hl) (fun j hj=>by have:=hk (j+1) (by simpa using hj);simpa using this) hlies.right
  have e1:∀n,p+(e++es.flatten).length=n↔p+e.length+es.flatten.length=n:=fun n=>by rw[List.length_append];omega
  rcases hk 0 (by simp)with⟨ho,he⟩|⟨hne,hv⟩
  ·have ho:k.opt=true:=ho
   have he:e=[⟨15,noB,0,0⟩]:=he
   subst he
   obtain⟨g1,g2⟩:=hlies.left.head
   refine⟨f2,fun g hg out=>?_⟩
   obtain⟨b,hb⟩:=h2 g hg out
   refine⟨b,?_⟩
   unfold wseqF
   rw[if_pos ⟨ho,g1,by rw[g2]⟩,if_pos (by rw[g2];exact⟨rfl,rfl,rfl⟩),List.flatten_cons]
   rw[List.length_append,←Nat.add_assoc]
   exact hb
  ·have hv:ValOf s k.node.toNat e d:=hv
   obtain⟨f1,b1,hf1⟩:=hv F p (if k.dflt.size=0 then dp+1 else 1) hs hok (by split<;>omega) (by split<;>omega) hlies.left
   refine⟨max f1 f2,fun g hg out=>?_⟩
   have hw:=wrF_more hf1 (Nat.le_trans (Nat.le_max_left _ _) hg)
   unfold wseqF
   rw[if_neg (fun q=>hn k g p b1 _ _ _ hw q.2.2),hw]
   unfold WOut.andThen
   simp only
   rw[List.flatten_cons,List.length_append,←Nat.add_assoc]
   by_cases hdf:k.dflt.size≠0∧b1=k.dflt
   ·obtain⟨b,hb⟩:=h2 g (Nat.le_trans (Nat.le_max_right _ _) hg) out
    exact⟨b,by rw[if_pos hdf];exact hb⟩
   ·obtain⟨b,hb⟩:=h2 g (Nat.le_trans (Nat.le_max_right _ _) hg) (out++b1)
    exact⟨b,by rw[if_neg hdf,if_neg (by omega)];exact hb⟩
theorem val_seq{s:List Nd}{i:Nat}{es:List (List Vl)}{d:Nat}(hnode:∀j,(nd s j).kind≤13)(hk:(nd s i).kind=10)(hl:(nd s i).kids.length=es.length)(hv:∀j,j<(nd s i).kids.length→KidV s ((nd s i).kids.getD j kd0) (es.getD j []) d):ValOf s i (⟨10,noB,0,es.length⟩::es.flatten) (d+1):=fun F p dp hs hok h0 hd hlies=>by
 obtain⟨h1,h2⟩:=hlies.head
 obtain⟨f,hf⟩:=seq_val hs hok (dp:=dp) (d:=d) (by omega) (by omega) (fun k f p b p' u dq hw=>by
  have:=(wrF_here hw).2.1
  have:=hnode k.node.toNat
  rw[hs]at*
  omega) (nd s i).kids es (p+1) hl hv hlies.tail
 obtain⟨b,hb⟩:=hf f (Nat.le_refl _) noB
 subst hs
 obtain⟨b',hb'⟩:=wrF_by (f:=f) (p':=p+1+es.flatten.length) (b:=elB (wcl (nd F.s i)) true (wnu (nd F.s i)) b) (dp:=dp) h1 h2 (by rw[hk]) (by omega) (by
  unfold wbareF
  rw[if_neg (by omega),if_neg (by omega),if_pos hk,if_pos ⟨rfl,rfl,by show((es.length:Nat):Int)=_;rw[hl]⟩,hb]
  rfl)
 exact⟨f+1,b',by rw[hb',List.length_cons,Nat.add_assoc,Nat.add_comm 1]⟩
theorem many_val{F:WEnv}{s:List Nd}(hs:F.s=s)(hok:∀k t,F.ok k t=true↔ContentOk k t){i0:Nat}{dp:Int}{d:Nat}(h0:1≤dp)(hd:dp+d≤12):∀(es:List (List Vl)) (p:Nat),(∀e∈es,ValOf s i0 e d)→Lies F.t p es.flatten→
 ∃f,∀g,f≤g→∀m,es.length<m→∀out last,∃b,wmanyF F (wrF F g) false i0 dp m (es.length:Nat) p out last false=some (some (b,p+es.flatten.length,false))
 | [],p,_,_=>⟨0,fun g _ m hm out last=>by
   obtain⟨m,rfl⟩:∃k,m=k+1:=⟨m-1,by simp at hm;omega⟩
   refine⟨out,?_⟩
   unfold wmanyF
   rw[if_neg (by simp)]
   rfl⟩
 |e::es,p,hv,hlies=>by
  rw[List.flatten_cons]at hlies
  obtain⟨f2,h2⟩:=many_val hs hok h0 hd es (p+e.length) (fun x hx=>hv x (by simp[hx])) hlies.right
  obtain⟨f1,b1,hf1⟩:=hv e (by simp) F p dp hs hok h0 hd hlies.left
  refine⟨max f1 f2,fun g hg m hm out last=>?_⟩
  obtain⟨m,rfl⟩:∃k,m=k+1:=⟨m-1,by omega⟩
  have hw:=wrF_more hf1 (Nat.le_trans (Nat.le_max_left _ _) hg)
  obtain⟨b,hb⟩:=h2 g (Nat.le_trans (Nat.le_max_right _ _) hg) m (by simp at hm;omega) (out++b1) b1
  refine⟨b,?_⟩
  unfold wmanyF
  rw[if_pos (by simp),hw]
  unfold WOut.andThen
  simp only
  rw[List.flatten_cons,List.length_append,←Nat.add_assoc,show(((e::es).length:Nat):Int)-1=(es.length:Nat)by simp]
  exact hb
theorem val_sof{s:List Nd}{i k0:Nat}{es:List (List Vl)}{d:Nat}(hk:(nd s i).kind=11)(hkid:(nd s i).kids=[⟨k0,false,noB⟩])(hv:∀e∈es,ValOf s k0 e d):ValOf s i (⟨11,noB,0,es.length⟩::es.flatten) (d+1):=fun F p dp hs hok h0 hd hlies=>by
 obtain⟨h1,h2⟩:=hlies.head
 obtain⟨f,hf⟩:=many_val hs hok (dp:=dp+1) (d:=d) (by omega) (by omega) es (p+1) hv hlies.tail
 obtain⟨b,hb⟩:=hf (max f (es.length+1)) (Nat.le_max_left _ _) (max f (es.length+1)) (by have:=Nat.le_max_right f (es.length+1);omega) noB noB
 have hk0:(kd (nd s i) 0).node.toNat=k0:=by unfold kd;rw[hkid];rfl
 subst hs
 obtain⟨b',hb'⟩:=wrF_by (f:=max f (es.length+1)) (p':=p+1+es.flatten.length) (b:=elB (wcl (nd F.s i)) true (wnu (nd F.s i)) b) (dp:=dp) h1 h2 (by rw[hk]) (by omega) (by
  unfold wbareF
  rw[if_neg (by omega),if_neg (by omega),if_neg (by omega),if_pos (by omega),if_pos ⟨rfl,rfl,Int.natCast_nonneg _⟩,hk0,show decide ((nd F.s i).kind=12)=false by rw[hk];rfl]
  show WOut.andThen (wmanyF F _ false k0 (dp+1) _ (es.length:Nat) (p+1) noB noB false) _=_
  rw[hb]
  rfl)
 exact⟨_,b',by rw[hb',List.length_cons,Nat.add_assoc,Nat.add_comm 1]⟩
def oneI(b:Nat):Vl:=⟨2,⟨#[UInt8.ofNat b]⟩,0,0⟩
theorem oneI_ok(b:Nat):ContentOk 2 ⟨#[UInt8.ofNat b]⟩:=(contentOk_2 _).1 ⟨Nat.le_refl _,by show(1:Nat)≤20;decide,fun h=>by have h:2≤1:=h;omega⟩
theorem oneI_el(x:UInt8):leafB ⟨2, -1,0,[]⟩ ⟨#[x]⟩=⟨#[2,1,x]⟩:=by
 unfold leafB wcl wnu
 rw[if_neg (by decide),if_neg (by decide),if_neg (by decide)]
 unfold elB
 have e1:(⟨#[x]⟩:ByteArray).size=1:=rfl
 rw[e1]
 have e2:UInt8.ofNat (fb ⟨0,false,own0 2,0,((1:Nat):Int)⟩).toNat=2:=by decide
 have e3:tl ((1:Nat):Int)=[1]:=by decide
 rw[e2,e3]
 rfl
theorem oneI_below{a b:Nat}(h:a≤b)(hb:b<256):below ⟨#[2,1,UInt8.ofNat b]⟩ ⟨#[2,1,UInt8.ofNat a]⟩=false:=by
 unfold below
 rw[Lib.toList_data,Lib.toList_data]
 show Op.bytesLess [2,1,UInt8.ofNat b] [2,1,UInt8.ofNat a]=false
 have e:¬UInt8.ofNat b<UInt8.ofNat a:=by
  rw[UInt8.lt_iff_toNat_lt]
  have h1:=UInt8.toNat_ofNat' (n:=a)
  have h2:=UInt8.toNat_ofNat' (n:=b)
  omega
 simp[Op.bytesLess,e]
def Rise:Nat→List Nat→Prop
 |_,[]=>True
 |a,b::bs=>a≤b∧b<256∧Rise b bs
theorem set_val{F:WEnv}{i0:Nat}(hi:nd F.s i0=⟨2, -1,0,[]⟩)(hok:∀k t,F.ok k t=true↔ContentOk k t){dp:Int}(hd:dp≤12){g:Nat}:∀(bs:List Nat) (a p m:Nat) (out last:ByteArray),bs.length<m→Rise a bs→(last=noB∨last=⟨#[2,1,UInt8.ofNat a]⟩)→Lies F.t p (bs.map oneI)→
 ∃b,wmanyF F (wrF F (g+1)) true i0 dp m (bs.length:Nat) p out last false=some (some (b,p+bs.length,false))
 | [],a,p,m,out,last,hm,_,_,_=>by
   obtain⟨m,rfl⟩:∃k,m=k+1:=⟨m-1,by simp at hm;omega⟩
   refine⟨out,?_⟩
   unfold wmanyF
   rw[if_neg (by simp)]
   rfl
 |x::bs,a,p,m,out,last,hm,hr,hla,hlies=>by
  obtain⟨m,rfl⟩:∃k,m=k+1:=⟨m-1,by omega⟩
  rw[List.map_cons]at hlies
  obtain⟨h1,h2⟩:=hlies.head
  obtain⟨r1,r2,r3⟩:=hr
  have hw:wrF F (g+1) i0 p dp=some (some (⟨#[2,1,UInt8.ofNat x]⟩,p+1,false)):=by
   rw[wrF_leaf (by rw[hi];decide) (by rw[hi];decide),h2,hi,if_pos ⟨⟨h1,rfl,hd⟩,(hok _ _).2 (oneI_ok x),rfl,rfl⟩]
   exact congrArg (fun z=>some (some (z,p+1,false))) (oneI_el (UInt8.ofNat x))
  obtain⟨b,hb⟩:=set_val hi hok hd (g:=g) bs x (p+1) m (out++⟨#[2,1,UInt8.ofNat x]⟩) ⟨#[2,1,UInt8.ofNat x]⟩ (by simp at hm;omega) r3 (.inr rfl) hlies.tail
  refine⟨b,?_⟩
  have hbl:below ⟨#[2,1,UInt8.ofNat x]⟩ last=false:=by
   rcases hla with rfl|rfl
   ·unfold below
    rw[Lib.toList_data,Lib.toList_data]
    rfl
   ·exact oneI_below r1 r2
  unfold wmanyF
  rw[if_pos (by simp),hw]
  unfold WOut.andThen
  simp only
  rw[hbl,show(((x::bs).length:Nat):Int)-1=(bs.length:Nat)by simp,List.length_cons,Nat.add_comm bs.length 1,←Nat.add_assoc]
  exact hb
theorem val_set{s:List Nd}{i k0:Nat}{bs:List Nat}(d:Nat)(hk:(nd s i).kind=12)(hkid:(nd s i).kids=[⟨k0,false,noB⟩])(hi:nd s k0=⟨2, -1,0,[]⟩)(hr:Rise 0 bs):ValOf s i (⟨12,noB,0,bs.length⟩::bs.map oneI) (d+1):=fun F p dp hs hok h0 hd hlies=>by
 obtain⟨h1,h2⟩:=hlies.head
 have hk0:(kd (nd s i) 0).node.toNat=k0:=by unfold kd;rw[hkid];rfl
 subst hs
 obtain⟨b,hb⟩:=set_val hi hok (dp:=dp+1) (by omega) (g:=bs.length) bs 0 (p+1) (bs.length+1) noB noB (by omega) hr (.inl rfl) hlies.tail
 obtain⟨b',hb'⟩:=wrF_by (f:=bs.length+1) (p':=p+1+bs.length) (b:=elB (wcl (nd F.s i)) true (wnu (nd F.s i)) b) (dp:=dp) h1 h2 (by rw[hk]) (by omega) (by
  unfold wbareF
  rw[if_neg (by omega),if_neg (by omega),if_neg (by omega),if_pos (by omega),if_pos ⟨rfl,rfl,Int.natCast_nonneg _⟩,hk0,show decide ((nd F.s i).kind=12)=true by rw[hk];rfl]
  show WOut.andThen (wmanyF F _ true k0 (dp+1) _ (bs.length:Nat) (p+1) noB noB false) _=_
  rw[hb]
  rfl)
 exact⟨_,b',by rw[hb',List.length_cons,List.length_map,Nat.add_assoc,Nat.add_comm 1]⟩
theorem MkA.putV{W w wa w3:World}{M:Nat}{na ta:Option Addr}{nl nc tl tc:Nat}{ps:List Np}{vs:Value}{tree:List Vl}{vl:Value}(h:MkA W w M na ta nl nc tl tc ps vs tree vl)(hb:Below w.heap.size w wa){v3:Value}{v:Vl}
 (h1:w3.ownsRow W.heap.size 60 4 v3 (tree.length+1) (vcells tree++v.cells))(h2:wa.grownBy w3 vl.ownBlock)(h3:∀g,v3.ownBlock=some g→vl.ownBlock=some g∨w.heap.size≤g):
 w3.cell? ⟨M,5,none⟩=some vl∧w3.frozen? ⟨M,5,none⟩=false∧M<w3.heap.size∧MkA W (w3.setCell ⟨M,5,none⟩ v3) M na ta nl nc tl tc ps vs (tree++[v]) v3∧FrN M vl v3 w (w3.setCell ⟨M,5,none⟩ v3):=by
 have hA:=h.below hb
 obtain⟨k,t,hk1,ht1,hM⟩:=hA.mak.own
 have hMne:vl.ownBlock≠some M:=fun q=>(own_notM hA.val hM (by decide) M q).1 rfl
 have hMl:M<wa.heap.size:=row_lt hM
 have hM3:w3.heap[M]? =some (.cells #[.slice na nl nc,.slice ta tl tc,.int .i64 k,.int .i64 t,vs,vl] 97 (0,0)):=by rw[h2.block M hMl (fun q=>hMne q.symm)];exact hM
 have keep:∀{B e s v n xs},wa.ownsRow B e s v n xs→e≠60→e≠97→(w3.setCell ⟨M,5,none⟩ v3).ownsRow B e s v n xs:=fun {B e s v n xs} q he1 he2=>own_same q fun g hg=>by
  have hn:=own_notM q hM he2 g hg
  rw[heap_setCell_other _ _ _ _ hn.1,h2.block g hn.2 (fun z=>own_apart q hA.val he1 g hg z.symm)]
 have hMn:(w3.setCell ⟨M,5,none⟩ v3).heap[M]? =some (.cells #[.slice na nl nc,.slice ta tl tc,.int .i64 k,.int .i64 t,vs,v3] 97 (0,0)):=by
  rw[heap_setCell_same w3 M 5 _ _ v3 hM3];rfl
 have hbw:Below W.heap.size W w3:=hA.mak.bel.grown h2 hA.mak.bel.size (fun g hg=>(hA.val.lt g hg).1)
 refine⟨by simp[World.cell?,hM3],by simp[World.frozen?,hM3],row_lt hM3,⟨⟨?_,hA.mak.lo,k,t,hk1,ht1,hMn⟩,keep hA.row (by decide) (by decide),fun p hp=>keep (hA.kid p hp) (by decide) (by decide),?_⟩,?_,?_,h3⟩
 ·exact hbw.setCell (p:=⟨M,5,none⟩) hA.mak.lo v3
 ·rw[List.length_append,vcells_append]
  refine own_same h1 fun g hg=>heap_setCell_other _ _ _ _ fun e=>?_
  subst e
  rcases h3 _ hg with q|q
  ·exact hMne q
  ·have:=h.lt;omega
 ·have:=h2.size
  have:=hb.size
  simp
  omega
 ·intro j j1 j2 j3
  rw[heap_setCell_other _ _ _ _ j2,h2.block j (by have:=hb.size;omega) (fun z=>j3 z.symm)]
  exact hb.block j j1
theorem MkA.setV{W w:World}{M:Nat}{na ta:Option Addr}{nl nc tl tc:Nat}{ps:List Np}{vs:Value}{tree:List Vl}{v v':Vl}{g cap:Nat}(h:MkA W w M na ta nl nc tl tc ps vs (tree++[v]) (.slice (some ⟨g,0,none⟩) (tree.length+1) cap))(f:Nat)(hf:f<4){u:Value}(hc:v.cells.set f u=v'.cells):
 w.cell? ⟨g,tree.length*4+f,none⟩=v.cells[f]? ∧w.frozen? ⟨g,tree.length*4+f,none⟩=false∧g<w.heap.size∧MkA W (w.setCell ⟨g,tree.length*4+f,none⟩ u) M na ta nl nc tl tc ps vs (tree++[v']) (.slice (some ⟨g,0,none⟩) (tree.length+1) cap)∧FrN M (.slice (some ⟨g,0,none⟩) (tree.length+1) cap) (.slice (some ⟨g,0,none⟩) (tree.length+1) cap) w (w.setCell ⟨g,tree.length*4+f,none⟩ u):=by
 obtain⟨a,t,ha,ht,hM⟩:=h.mak.own
 have hv:=h.val
 rw[List.length_append]at hv
 have hv:w.ownsRow W.heap.size 60 4 (.slice (some ⟨g,0,none⟩) (tree.length+1) cap) (tree.length+1) (vcells (tree++[v])):=hv
 have hgo:(Value.slice (some ⟨g,0,none⟩) (tree.length+1) cap).ownBlock=some g:=rfl
 have hgM:=own_notM hv hM (by decide) g hgo
 have hst:=hv.stored (tree.length*4+f) u
 have hl4:v.cells.length=4:=rfl
 have keep:∀{B e s v n xs},w.ownsRow B e s v n xs→e≠60→(w.setCell ⟨g,tree.length*4+f,none⟩ u).ownsRow B e s v n xs:=fun {B e s v n xs} q he=>own_same q fun g' hg'=>heap_setCell_other _ _ _ _ fun e=>own_apart q hv he g' hg' (by rw[hgo];exact congrArg some e.symm)
 refine⟨?_,hv.frozenAt _,hgM.2,⟨⟨?_,h.mak.lo,a,t,ha,ht,?_⟩,keep h.row (by decide),fun p hp=>keep (h.kid p hp) (by decide),?_⟩,?_⟩
 ·rw[hv.cellAt _ (by omega),vcells_append,List.getElem?_append_right (by rw[vcells_len];omega),vcells_len,show tree.length*4+f-tree.length*4=f by omega]
 ·exact h.mak.bel.setCell (p:=⟨g,tree.length*4+f,none⟩) (hv.lt g hgo).1 u
 ·rw[heap_setCell_other _ _ _ _ (fun e=>hgM.1 e.symm)];exact hM
 ·have e:vcells (tree++[v'])=(vcells (tree++[v])).set (tree.length*4+f) u:=by
   rw[vcells_append,vcells_append,List.set_append_right _ _ (by rw[vcells_len];omega),vcells_len,show tree.length*4+f-tree.length*4=f by omega,hc]
  rw[List.length_append,e]
  exact hst.1
 ·exact⟨by simp,fun j j1 j2 j3=>heap_setCell_other _ _ _ _ fun e=>j3 (by rw[hgo];exact congrArg some e.symm),fun g' q=> .inl q⟩
theorem pcells_in:∀(l:List Np) (i:Nat) (hi:i<l.length) (j:Nat),j<4→(pcells l)[i*4+j]? =[Value.int .i64 l[i].1.kind,.int .i64 l[i].1.tag,.int .i64 l[i].1.mode,l[i].2][j]?
 | [],i,h,_,_=>absurd h (Nat.not_lt_zero _)
 |p::l,0,_,j,hj=>by
  have e:pcells (p::l)=[.int .i64 p.1.kind,.int .i64 p.1.tag,.int .i64 p.1.mode,p.2]++pcells l:=by unfold pcells;simp
  rw[e,List.getElem?_append_left (by show 0*4+j<4;omega)]
  simp
 |p::l,i+1,h,j,hj=>by
  have e:pcells (p::l)=[.int .i64 p.1.kind,.int .i64 p.1.tag,.int .i64 p.1.mode,p.2]++pcells l:=by unfold pcells;simp
  rw[e,List.getElem?_append_right (by show 4≤_;omega),show(i+1)*4+j - [Value.int .i64 p.1.kind,.int .i64 p.1.tag,.int .i64 p.1.mode,p.2].length=i*4+j by show(i+1)*4+j-4=_;omega,pcells_in l i (by simpa using h) j hj]
  rfl
theorem nd_fst(ps:List Np)(i:Nat)(hi:i<ps.length):nd (ps.map Prod.fst) i=ps[i].1:=by
 unfold nd
 rw[List.getD_eq_getElem?_getD,List.getElem?_map,List.getElem?_eq_getElem hi]
 rfl
theorem MkA.node{W w:World}{M:Nat}{na ta:Option Addr}{nl nc tl tc:Nat}{ps:List Np}{vs:Value}{tree:List Vl}{vl:Value}(h:MkA W w M na ta nl nc tl tc ps vs tree vl){i:Nat}(hi:i<ps.length):∃g cap ka kc,vs= .slice (some ⟨g,0,none⟩) ps.length cap∧g<w.heap.size∧
 w.cell? ⟨g,i*4,none⟩=some (.int .i64 (nd (ps.map Prod.fst) i).kind)∧w.cell? ⟨g,i*4+1,none⟩=some (.int .i64 (nd (ps.map Prod.fst) i).tag)∧w.cell? ⟨g,i*4+2,none⟩=some (.int .i64 (nd (ps.map Prod.fst) i).mode)∧w.cell? ⟨g,i*4+3,none⟩=some (.slice ka (nd (ps.map Prod.fst) i).kids.length kc)∧
 w.ownsRow W.heap.size 55 3 (.slice ka (nd (ps.map Prod.fst) i).kids.length kc) (nd (ps.map Prod.fst) i).kids.length (kcells (nd (ps.map Prod.fst) i).kids):=by
 obtain⟨g,cap,e,_,hg⟩:=World.ownsRow.form h.row (by omega)
 subst e
 have hk:=h.kid ps[i] (List.getElem_mem hi)
 obtain⟨ka,kc,ek,_⟩:=own_form hk
 rw[nd_fst ps i hi]
 have c:=fun j hj=>(h.row.cellAt (i*4+j) (by omega)).trans (pcells_in ps i hi j hj)
 rw[ek]at hk
 refine⟨g,cap,ka,kc,rfl,hg,c 0 (by decide),c 1 (by decide),c 2 (by decide),?_,hk⟩
 rw[c 3 (by decide)]
 show some ps[i].2=_
 rw[ek]
theorem kid_in{w:World}{B:Nat}{ka:Option Addr}{kc:Nat}{ks:List Kd}(h:w.ownsRow B 55 3 (.slice ka ks.length kc) ks.length (kcells ks)){j:Nat}(hj:j<ks.length):∃g,ka=some ⟨g,0,none⟩∧g<w.heap.size∧w.cell? ⟨g,j*3,none⟩=some (.int .i64 (ks.getD j kd0).node)∧w.cell? ⟨g,j*3+1,none⟩=some (.bool (ks.getD j kd0).opt):=by
 obtain⟨g,cap,e,_,hg⟩:=World.ownsRow.form h (by omega)
 injection e with e1 _ e2
 subst e1 e2
 have c:=fun i hi=>(h.cellAt (j*3+i) (by omega)).trans (kcells_get ks j hj i hi)
 exact⟨g,rfl,hg,c 0 (by decide),c 1 (by decide)⟩
def nv:Nat→Nat
 |0=>1
 |d+1=>1+3*nv d
theorem nv_pos(d:Nat):1≤nv d:=by cases d<;>simp[nv]
def VOk(vs:List Vl):Prop:=∀v∈vs,v.text.size≤76∧v.kids≤3
theorem VOk.app{a b:List Vl}(h:VOk a)(k:VOk b):VOk (a++b):=fun v hv=>by
 rcases List.mem_append.1 hv with q|q
 ·exact h v q
 ·exact k v q
theorem VOk.cons{v:Vl}{b:List Vl}(h1:v.text.size≤76)(h2:v.kids≤3)(k:VOk b):VOk (v::b):=fun u hu=>by
 rcases List.mem_cons.1 hu with rfl|q
 ·exact⟨h1,h2⟩
 ·exact k u q
theorem VOk.nil:VOk []:=fun v hv=>by cases hv
def AfterVal(W:World)(M:Nat)(na ta:Option Addr)(nl nc tl tc:Nat)(ps:List Np)(vs:Value)(tree:List Vl)(vl:Value)(i d:Nat)(w w':World):Prop:=
 ∃ext vl',MkA W w' M na ta nl nc tl tc ps vs (tree++ext) vl'∧FrN M vl vl' w w'∧ValOf (ps.map Prod.fst) i ext d∧VOk ext∧ext.length≤nv d∧ext≠ []
def ValM(W:World)(M:Nat)(na ta:Option Addr)(nl nc tl tc:Nat)(ps:List Np)(vs:Value)(d:Nat):Prop:=
 ∀(w:World) (i:Nat) (tree:List Vl) (vl:Value),i<ps.length→Dp (ps.map Prod.fst) d i→tree.length+nv d≤1000→MkA W w M na ta nl nc tl tc ps vs tree vl→Calls Tryz.prog 45 #[.pointer (some ⟨M,0,none⟩),.int .i64 i] w fun e w'=>e= .returned (.tuple #[])∧AfterVal W M na ta nl nc tl tc ps vs tree vl i d w w'
structure Loc(W w:World)(N:Nat)(n:Nd)(ka:Option Addr)(kc:Nat):Prop where
 blk:w.heap[N]? =some (.cells #[.int .i64 n.kind,.int .i64 n.tag,.int .i64 n.mode,.slice ka n.kids.length kc] 58 (0,0))
 kid:w.ownsRow W.heap.size 55 3 (.slice ka n.kids.length kc) n.kids.length (kcells n.kids)
theorem Loc.fr{W w w':World}{N:Nat}{n:Nd}{ka:Option Addr}{kc M:Nat}{na ta:Option Addr}{nl nc tl tc:Nat}{ps:List Np}{vs:Value}{tree:List Vl}{vl vl':Value}(h:Loc W w N n ka kc)(hA:MkA W w M na ta nl nc tl tc ps vs tree vl)(hF:FrN M vl vl' w w'):Loc W w' N n ka kc:=by
 obtain⟨_,_,_,_,hM⟩:=hA.mak.own
 refine⟨?_,own_same h.kid fun g' hg'=>hF.2.1 g' (h.kid.lt g' hg').2 (own_notM h.kid hM (by decide) g' hg').1 (own_apart h.kid hA.val (by decide) g' hg')⟩
 rw[hF.2.1 N (row_lt h.blk) (fun e=>?_) (row_ne h.blk hA.val (by decide))]
 ·exact h.blk
 ·have q:=h.blk
  rw[e,hM]at q
  injection q with q
  injection q with _ q _
  exact absurd q (by decide)
theorem Loc.cells{W w:World}{N:Nat}{n:Nd}{ka:Option Addr}{kc:Nat}(h:Loc W w N n ka kc):w.cell? ⟨N,0,none⟩=some (.int .i64 n.kind)∧w.cell? ⟨N,3,none⟩=some (.slice ka n.kids.length kc)∧N<w.heap.size:=by
 have q:=h.blk
 exact⟨by simp[World.cell?,q],by simp[World.cell?,q],row_lt q⟩
structure SeqR(W:World)(M:Nat)(na ta:Option Addr)(nl nc tl tc:Nat)(ps:List Np)(vs:Value)(tree:List Vl)(vl:Value)(N:Nat)(n:Nd)(ka:Option Addr)(kc d:Nat)(w:World)(v0:Vl)(es:List (List Vl))(vl':Value)(wr:World):Prop where
 mak:MkA W wr M na ta nl nc tl tc ps vs (tree++v0::es.flatten) vl'
 fr:FrN M vl vl' w wr
 loc:Loc W wr N n ka kc
 ok:VOk es.flatten
 len:es.flatten.length≤es.length*nv d
theorem SeqR.more{W:World}{M:Nat}{na ta:Option Addr}{nl nc tl tc:Nat}{ps:List Np}{vs:Value}{tree:List Vl}{vl:Value}{N:Nat}{n:Nd}{ka:Option Addr}{kc d:Nat}{w:World}{v0:Vl}{es:List (List Vl)}{vl' vl2:Value}{wr w2:World}{e:List Vl}(h:SeqR W M na ta nl nc tl tc ps vs tree vl N n ka kc d w v0 es vl' wr)(hA:MkA W w2 M na ta nl nc tl tc ps vs (tree++v0::es.flatten++e) vl2)(hF:FrN M vl' vl2 wr w2)(ho:VOk e)(hl:e.length≤nv d):
 SeqR W M na ta nl nc tl tc ps vs tree vl N n ka kc d w v0 (es++[e]) vl2 w2:=by
 have ef:(es++[e]).flatten=es.flatten++e:=by simp
 refine⟨?_,h.fr.trans hF,h.loc.fr h.mak hF,by rw[ef];exact h.ok.app ho,?_⟩
 ·rw[ef]
  have:tree++v0::(es.flatten++e)=tree++v0::es.flatten++e:=by simp
  rw[this];exact hA
 ·rw[ef,List.length_append,List.length_append]
  show _≤(es.length+1)*nv d
  have:=h.len
  rw[Nat.add_mul,Nat.one_mul]
  omega
theorem SeqR.same{W:World}{M:Nat}{na ta:Option Addr}{nl nc tl tc:Nat}{ps:List Np}{vs:Value}{tree:List Vl}{vl:Value}{N:Nat}{n:Nd}{ka:Option Addr}{kc d:Nat}{w:World}{v0:Vl}{es:List (List Vl)}{vl':Value}{wr w2:World}(h:SeqR W M na ta nl nc tl tc ps vs tree vl N n ka kc d w v0 es vl' wr)(hI:MkI W w2 M na ta nl nc tl tc vs vl')(hF:FrM M wr w2):SeqR W M na ta nl nc tl tc ps vs tree vl N n ka kc d w v0 es vl' w2:=
 ⟨h.mak.frm hI hF,h.fr.trans (FrN.ofM hF),h.loc.fr h.mak (FrN.ofM (v:=vl') hF),h.ok,h.len⟩
theorem rise_snoc:∀(bs:List Nat) (a b:Nat),Rise a bs→(∀y∈bs,y≤b)→a≤b→b<256→Rise a (bs++[b])
 | [],a,b,_,_,h,hb=>⟨h,hb,trivial⟩
 |x::bs,a,b,hr,hy,h,hb=>⟨hr.1,hr.2.1,rise_snoc bs x b hr.2.2 (fun y q=>hy y (by simp[q])) (hy x (by simp)) hb⟩
def sing(bs:List Nat):List (List Vl):=bs.map fun b=> [oneI b]
theorem sing_flat:∀bs:List Nat,(sing bs).flatten=bs.map oneI
 | []=>rfl
 |b::bs=>by
  show [oneI b]++(sing bs).flatten=_
  rw[sing_flat bs]
  rfl
theorem sing_snoc(bs:List Nat)(b:Nat):sing (bs++[b])=sing bs++[[oneI b]]:=by unfold sing;simp
theorem sing_len(bs:List Nat):(sing bs).length=bs.length:=by unfold sing;simp
end Go.Proofs.YtkkicodfpekbgaaGreatDoor
