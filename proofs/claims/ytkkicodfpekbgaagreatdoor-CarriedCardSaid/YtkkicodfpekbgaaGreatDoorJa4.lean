/-
Several texts in one.
-/
import Derived.Test.YtkkicodfpekbgaaGreatDoorJa0
import Derived.Test.YtkkicodfpekbgaaGreatDoorJa3
import Derived.Deep.RegionWith
import Derived.Deep.LoopGhost
namespace Go.Proofs.YtkkicodfpekbgaaGreatDoor
open Go.RowKit
set_option linter.unusedSimpArgs false
set_option linter.unusedVariables false
set_option maxRecDepth 100000
set_option maxHeartbeats 8000000
theorem own_form{w:World}{base e size:Nat}{v:Value}{n:Nat}{xs:List Value}(h:w.ownsRow base e size v n xs):∃a cap,v= .slice a n cap∧(0<n→∃g,a=some ⟨g,0,none⟩):=by
 rcases h.2 with⟨hv,hn⟩|⟨g,cap,cur,hv,_⟩
 ·subst hn;exact⟨none,0,hv,fun h=>absurd h (Nat.lt_irrefl _)⟩
 ·exact⟨_,cap,hv,fun _=>⟨g,rfl⟩⟩
def Kinds(s:List Nd):Prop:=∀j,j<s.length→1≤(nd s j).kind∧(nd s j).kind≤14
def Nd.stops(n:Nd)(k:Kd):Prop:=n.kind=10∧k.must
def kd(n:Nd)(i:Nat):Kd:=n.kids.getD i kd0
def ToldAt(C:Nat→Nat→Prop)(n:Nd)(i m:Nat):Prop:=n.stops (kd n i)∨∀k,i<k→k<m→(∀j,i<j→j<k→¬n.stops (kd n j))→¬C (kd n i).node.toNat (kd n k).node.toNat
def Told(C:Nat→Nat→Prop)(n:Nd):Prop:=∀i,i<n.kids.length→ToldAt C n i n.kids.length
def Count(k:Int)(m:Nat):Prop:=if k=10 then m≤8 else if k=11∨k=12 then m=1 else if k=13 then 1≤m∧m≤8 else m=0
def KidOk(len:Nat)(n:Nd)(k:Kd):Prop:=0≤k.node∧k.node<len∧(k.must∨n.kind=10)∧¬(k.opt=true∧k.dflt.size≠0)
def Bad1(n:Nd):Prop:=n.kind<1∨14<n.kind∨n.tag< -1∨30<n.tag∨(n.mode≠0∧n.mode≠1)
def Bad2(n:Nd):Prop:=(n.mode=1∧n.tag= -1)∨((n.kind=13∨n.kind=14)∧0≤n.tag∧n.mode=0)
def Alone(len:Nat)(n:Nd):Prop:=¬Bad1 n∧¬Bad2 n∧Count n.kind n.kids.length∧∀j,j<n.kids.length→KidOk len n (kd n j)
def ElemOk(N:Nd)(t u:ByteArray):Prop:=NodeAt N t 0 t.size 1 t.size u
def DfltOk(s:List Nd)(n:Nd)(m:Nat):Prop:=∀j,j<m→(kd n j).dflt.size=0∨((nd s (kd n j).node.toNat).kind≤9∧∃u,ElemOk (nd s (kd n j).node.toNat) (kd n j).dflt u)
def RightP(s:List Nd):Prop:=1≤s.length∧s.length≤40∧(∀i,i<s.length→Alone s.length (nd s i))∧(∀i,i<s.length→¬Back s i)∧
 ∀i,i<s.length→((nd s i).kind=10∨(nd s i).kind=13→Told (Common s) (nd s i))∧DfltOk s (nd s i) (nd s i).kids.length
theorem within_of{s:List Nd}(h:∀i,i<s.length→Alone s.length (nd s i)):Within s:=fun i hi k hk=>by
 obtain⟨j,hj,e⟩:=List.getElem_of_mem hk
 have:=(h i hi).2.2.2 j hj
 unfold kd at this
 rw[List.getD_eq_getElem?_getD,List.getElem?_eq_getElem hj]at this
 simp only[Option.getD_some,e]at this
 exact⟨this.1,this.2.1⟩
theorem kinds_of{s:List Nd}(h:∀i,i<s.length→Alone s.length (nd s i)):Kinds s:=fun i hi=>by have:=(h i hi).1;unfold Bad1 at this;omega
theorem count8{s:List Nd}(h:∀i,i<s.length→Alone s.length (nd s i)){i:Nat}(hi:i<s.length):(nd s i).kids.length≤8:=by
 have:=(h i hi).2.2.1
 unfold Count at this
 repeat' split at this
 all_goals omega
theorem mode_of{s:List Nd}(h:∀i,i<s.length→Alone s.length (nd s i)){i:Nat}(hi:i<s.length):(nd s i).mode=0∨(nd s i).mode=1:=by have:=(h i hi).1;unfold Bad1 at this;omega
end Go.Proofs.YtkkicodfpekbgaaGreatDoor
namespace Go.Proofs.YtkkicodfpekbgaaGreatDoor
set_option linter.unusedSimpArgs false
set_option linter.unusedVariables false
set_option maxRecDepth 100000
set_option maxHeartbeats 8000000
abbrev Out:=Except (Int×Int) (List Vl×Nat)
structure Env where
 s:List Nd
 d:ByteArray
 bg:Nat→Int→Int→Bool
 ok:Int→ByteArray→Bool
 dv:Kd→Vl
def own0(k:Int):Int:=if 12<k then 0 else own k
abbrev noB:ByteArray:=⟨#[]⟩
abbrev Rec:=Nat→Nat→Nat→Int→Option Out
def Env.hd(E:Env)(x y:Nat):Int×Hd:=Go.Proofs.YtkkicodfpekbgaaGreatDoor.hd (E.d.extract x y)
def Out.andThen{α:Type}(o:Option Out)(k:List Vl→Nat→Option (Except (Int×Int) α)):Option (Except (Int×Int) α):=
 match o with
 |none=>none
 |some (.error e)=>some (.error e)
 |some (.ok (vs,z))=>k vs z
def choiceF(E:Env)(rec:Rec)(h:Hd)(x to:Nat)(dp:Int):List Kd→Nat→Option Out
 | [],_=>some (.error (4,x))
 |k::ks,j=>if E.bg k.node.toNat h.c h.n=true then Out.andThen (rec k.node.toNat x to dp) fun vs _=>some (.ok (⟨13,noB,j,1⟩::vs,to))else choiceF E rec h x to dp ks (j+1)
def seqF(E:Env)(rec:Rec)(to:Nat)(dp:Int):List Kd→Nat→List Vl→Option Out
 | [],x,acc=>if x<to then some (.error (7,x))else some (.ok (acc,x))
 |k::ks,x,acc=>
  if x<to∧(E.hd x to).1≠0 then some (.error ((E.hd x to).1,x))
  else if x<to∧E.bg k.node.toNat (E.hd x to).2.c (E.hd x to).2.n=true then
   Out.andThen (rec k.node.toNat x to dp) fun vs z=>if E.d.extract x z=k.dflt then some (.error (9,x))else seqF E rec to dp ks z (acc++vs)
  else if k.opt=true then seqF E rec to dp ks x (acc++[⟨15,noB,0,0⟩])
  else if k.dflt.size≠0 then seqF E rec to dp ks x (acc++[E.dv k])
  else if x<to then some (.error (4,x))else some (.error (3,x))
def below(a b:ByteArray):Bool:=Op.bytesLess a.toList b.toList
def manyF(E:Env)(rec:Rec)(set:Bool)(i to:Nat)(dp:Int):Nat→Nat→ByteArray→Nat→List Vl→Option (Except (Int×Int) (Nat×List Vl))
 |0,_,_,_,_=>none
 |m+1,x,last,j,acc=>
  if x<to then
   Out.andThen (rec i x to dp) fun vs z=>if set=true∧below (E.d.extract x z) last=true then some (.error (8,x))else manyF E rec set i to dp m z (E.d.extract x z) (j+1) (acc++vs)
  else some (.ok (j,acc))
def bareF(E:Env)(rec:Rec)(m:Nat)(n:Nd)(cl nu:Int)(h:Hd)(x to:Nat)(dp:Int):Option Out:=
 if n.kind=13 then choiceF E rec h x to dp n.kids 0
 else if n.kind≠14∧¬(h.c=cl∧h.n=nu∧h.b=decide (10≤n.kind∧n.kind≤12))then some (.error (4,x))
 else if 12<dp then some (.error (10,x))
 else if n.kind=14 then some (.ok ([⟨14,E.d.extract x to,0,0⟩],to))
 else if n.kind=10 then
  match seqF E rec to (dp+1) n.kids (x+h.s.toNat) []with
  |none=>none
  |some (.error e)=>some (.error e)
  |some (.ok (vs,_))=>some (.ok (⟨10,noB,0,n.kids.length⟩::vs,to))
 else if 10≤n.kind∧n.kind≤12 then
  match manyF E rec (decide (n.kind=12)) (kd n 0).node.toNat to (dp+1) m (x+h.s.toNat) noB 0 []with
  |none=>none
  |some (.error e)=>some (.error e)
  |some (.ok (j,vs))=>some (.ok (⟨n.kind,noB,0,j⟩::vs,to))
 else if E.ok n.kind (E.d.extract (x+h.s.toNat) to)=true then some (.ok ([⟨n.kind,E.d.extract (x+h.s.toNat) to,0,0⟩],to))
 else some (.error (6,x))
def fin(x:Nat)(h:Hd):Nat:=x+h.s.toNat+h.l.toNat
def valF(E:Env)(rec:Rec)(m i:Nat)(h:Hd)(x to:Nat)(dp:Int):Option Out:=
 if(nd E.s i).tag<0 then bareF E rec m (nd E.s i) 0 (own0 (nd E.s i).kind) h x to dp
 else if(nd E.s i).mode=0 then bareF E rec m (nd E.s i) 2 (nd E.s i).tag h x to dp
 else if¬(h.c=2∧h.n=(nd E.s i).tag∧h.b=true)then some (.error (4,x))
 else if 12<dp then some (.error (10,x))
 else if(E.hd (x+h.s.toNat) to).1≠0 then some (.error ((E.hd (x+h.s.toNat) to).1,x+h.s.toNat))
 else
  Out.andThen (bareF E rec m (nd E.s i) 0 (own0 (nd E.s i).kind) (E.hd (x+h.s.toNat) to).2 (x+h.s.toNat) (fin (x+h.s.toNat) (E.hd (x+h.s.toNat) to).2) dp) fun vs _=>
   if fin (x+h.s.toNat) (E.hd (x+h.s.toNat) to).2<to then some (.error (7,fin (x+h.s.toNat) (E.hd (x+h.s.toNat) to).2))else some (.ok (vs,to))
def rdF(E:Env):Nat→Rec
 |0,_,_,_,_=>none
 |f+1,i,x,y,dp=>if(E.hd x y).1≠0 then some (.error ((E.hd x y).1,x))else valF E (rdF E f) f i (E.hd x y).2 x (fin x (E.hd x y).2) dp
def readF(E:Env)(f root:Nat):Option (Except (Int×Int) (List Vl)):=
 Out.andThen (rdF E f root 0 E.d.size 1) fun vs z=>if z<E.d.size then some (.error (7,z))else some (.ok vs)
def RecLe(r r':Rec):Prop:=∀i x y dp o,r i x y dp=some o→r' i x y dp=some o
theorem Out.andThen_le{α:Type}{o o':Option Out}{k k':List Vl→Nat→Option (Except (Int×Int) α)}{v:Except (Int×Int) α}(ho:∀u,o=some u→o'=some u)(hk:∀vs z v,k vs z=some v→k' vs z=some v)(h:Out.andThen o k=some v):Out.andThen o' k'=some v:=by
 unfold Out.andThen at h ⊢
 split at h
 ·cases h
 ·rename_i e;rw[ho _ rfl];exact h
 ·rename_i vs z;rw[ho _ rfl];exact hk _ _ _ h
theorem choiceF_le{E:Env}{r r':Rec}(hr:RecLe r r'){h:Hd}{x to:Nat}{dp:Int}:∀(ks:List Kd) (j:Nat) (v:Out),choiceF E r h x to dp ks j=some v→choiceF E r' h x to dp ks j=some v
 | [],_,_,e=>e
 |k::ks,j,v,e=>by
  unfold choiceF at e ⊢
  split
  ·rename_i q;rw[if_pos q]at e;exact Out.andThen_le (fun u=>hr _ _ _ _ u) (fun _ _ _ q=>q) e
  ·rename_i q;rw[if_neg q]at e;exact choiceF_le hr ks (j+1) v e
theorem seqF_le{E:Env}{r r':Rec}(hr:RecLe r r'){to:Nat}{dp:Int}:∀(ks:List Kd) (x:Nat) (acc:List Vl) (v:Out),seqF E r to dp ks x acc=some v→seqF E r' to dp ks x acc=some v
 | [],_,_,_,e=>e
 |k::ks,x,acc,v,e=>by
  unfold seqF at e ⊢
  split
  ·rename_i q;rw[if_pos q]at e;exact e
  rename_i q;rw[if_neg q]at e
  split
  ·rename_i q;rw[if_pos q]at e
   refine Out.andThen_le (fun u=>hr _ _ _ _ u) (fun vs z v q=>?_) e
   split
   ·rename_i q';rw[if_pos q']at q;exact q
   ·rename_i q';rw[if_neg q']at q;exact seqF_le hr ks _ _ _ q
  rename_i q;rw[if_neg q]at e
  split
  ·rename_i q;rw[if_pos q]at e;exact seqF_le hr ks _ _ _ e
  rename_i q;rw[if_neg q]at e
  split
  ·rename_i q;rw[if_pos q]at e;exact seqF_le hr ks _ _ _ e
  rename_i q;rw[if_neg q]at e
  exact e
theorem manyF_le{E:Env}{r r':Rec}(hr:RecLe r r'){set:Bool}{i to:Nat}{dp:Int}:∀(m m':Nat) (x:Nat) (last:ByteArray) (j:Nat) (acc:List Vl) (v:Except (Int×Int) (Nat×List Vl)),m≤m'→manyF E r set i to dp m x last j acc=some v→manyF E r' set i to dp m' x last j acc=some v
 |0,_,_,_,_,_,_,_,e=>by cases e
 |m+1,m',x,last,j,acc,v,hm,e=>by
  obtain⟨m'',rfl⟩:∃k,m'=k+1:=⟨m'-1,by omega⟩
  unfold manyF at e ⊢
  split
  ·rename_i q;rw[if_pos q]at e
   refine Out.andThen_le (fun u=>hr _ _ _ _ u) (fun vs z v q=>?_) e
   split
   ·rename_i q';rw[if_pos q']at q;exact q
   ·rename_i q';rw[if_neg q']at q;exact manyF_le hr m m'' _ _ _ _ _ (by omega) q
  ·rename_i q;rw[if_neg q]at e;exact e
theorem bareF_le{E:Env}{r r':Rec}(hr:RecLe r r'){m m':Nat}(hm:m≤m'){n:Nd}{cl nu:Int}{h:Hd}{x to:Nat}{dp:Int}{v:Out}(e:bareF E r m n cl nu h x to dp=some v):bareF E r' m' n cl nu h x to dp=some v:=by
 unfold bareF at e ⊢
 split
 ·rename_i q;rw[if_pos q]at e;exact choiceF_le hr _ _ _ e
 rename_i q;rw[if_neg q]at e
 split
 ·rename_i q;rw[if_pos q]at e;exact e
 rename_i q;rw[if_neg q]at e
 split
 ·rename_i q;rw[if_pos q]at e;exact e
 rename_i q;rw[if_neg q]at e
 split
 ·rename_i q;rw[if_pos q]at e;exact e
 rename_i q;rw[if_neg q]at e
 split
 ·rename_i q;rw[if_pos q]at e
  cases hs:seqF E r to (dp+1) n.kids (x+h.s.toNat) []with
  |none=>rw[hs]at e;cases e
  |some o=>rw[hs]at e;rw[seqF_le hr _ _ _ _ hs];exact e
 rename_i q;rw[if_neg q]at e
 split
 ·rename_i q;rw[if_pos q]at e
  cases hs:manyF E r (decide (n.kind=12)) (kd n 0).node.toNat to (dp+1) m (x+h.s.toNat) noB 0 []with
  |none=>rw[hs]at e;cases e
  |some o=>rw[hs]at e;rw[manyF_le hr _ _ _ _ _ _ _ hm hs];exact e
 rename_i q;rw[if_neg q]at e
 exact e
theorem valF_le{E:Env}{r r':Rec}(hr:RecLe r r'){m m':Nat}(hm:m≤m'){i:Nat}{h:Hd}{x to:Nat}{dp:Int}{v:Out}(e:valF E r m i h x to dp=some v):valF E r' m' i h x to dp=some v:=by
 unfold valF at e ⊢
 split
 ·rename_i q;rw[if_pos q]at e;exact bareF_le hr hm e
 rename_i q;rw[if_neg q]at e
 split
 ·rename_i q;rw[if_pos q]at e;exact bareF_le hr hm e
 rename_i q;rw[if_neg q]at e
 split
 ·rename_i q;rw[if_pos q]at e;exact e
 rename_i q;rw[if_neg q]at e
 split
 ·rename_i q;rw[if_pos q]at e;exact e
 rename_i q;rw[if_neg q]at e
 split
 ·rename_i q;rw[if_pos q]at e;exact e
 rename_i q;rw[if_neg q]at e
 exact Out.andThen_le (fun u=>bareF_le hr hm) (fun _ _ _ q=>q) e
theorem rdF_le{E:Env}:∀f,RecLe (rdF E f) (rdF E (f+1))
 |0=>fun _ _ _ _ _ e=>by cases e
 |f+1=>fun i x y dp o e=>by
  rw[rdF]at e ⊢
  split
  ·rename_i q;rw[if_pos q]at e;exact e
  ·rename_i q;rw[if_neg q]at e;exact valF_le (rdF_le f) (Nat.le_succ f) e
theorem b8_ex(t:ByteArray)(a b i:Nat)(h:a+i<b)(hb:b≤t.size):b8 (t.extract a b) i=b8 t (a+i):=by
 unfold b8
 rw[Lib.extract_data]
 congr 2
 rw[List.getD_eq_getElem?_getD,List.getD_eq_getElem?_getD]
 congr 1
 rw[List.getElem?_take]
 rw[if_pos (by omega),List.getElem?_drop]
theorem ex_size(t:ByteArray)(a b:Nat):(t.extract a b).size=min b t.size-a:=ByteArray.size_extract
theorem numTo_congr{u u':ByteArray}:∀k:Nat,(∀i,1≤i→i≤k→b8 u' i=b8 u i)→numTo u' k=numTo u k
 |0,_=>rfl
 |k+1,h=>by
  simp only[numTo]
  rw[numTo_congr k (fun i a b=>h i a (by omega)),h (k+1) (by omega) (by omega)]
theorem rl_same{u u':ByteArray}(h:(rl u).1=0)(hs:(rl u).2.1≤u'.size)(hb:∀i:Nat,(i:Int)<(rl u).2.1→b8 u' i=b8 u i):rl u'=rl u∧1≤(rl u).2.1:=by
 have h0:=b8_bd u 0
 unfold rl at h hs hb ⊢
 by_cases q1:u.size=0
 ·rw[if_pos q1]at h;cases h
 rw[if_neg q1]at h hs hb ⊢
 by_cases q2:b8 u 0<128
 ·rw[if_pos q2]at h hs hb ⊢
  have e0:b8 u' 0=b8 u 0:=hb 0 (by show(0:Int)<1;decide)
  have s0:¬u'.size=0:=by simp only at hs;omega
  rw[if_neg s0,e0,if_pos q2]
  exact⟨rfl,by simp⟩
 rw[if_neg q2]at h hs hb ⊢
 by_cases q3:b8 u 0=128∨131<b8 u 0
 ·rw[if_pos q3]at h;cases h
 rw[if_neg q3]at h hs hb ⊢
 by_cases q4:(u.size:Int)≤b8 u 0-128
 ·rw[if_pos q4]at h;cases h
 rw[if_neg q4]at h hs hb ⊢
 by_cases q5:b8 u 0-128≠cnt (numTo u (b8 u 0-128).toNat)
 ·rw[if_pos q5]at h;cases h
 rw[if_neg q5]at h hs hb ⊢
 simp only at hs hb
 have e0:b8 u' 0=b8 u 0:=hb 0 (by omega)
 have s0:¬u'.size=0:=by omega
 have en:numTo u' (b8 u 0-128).toNat=numTo u (b8 u 0-128).toNat:=numTo_congr _ fun i _ b=>hb i (by omega)
 rw[if_neg s0,e0,if_neg q2,if_neg q3,if_neg (by omega),en,if_neg q5]
 exact⟨rfl,by simp only;omega⟩
theorem hd_same{t t':ByteArray}(h:(hd t).1=0)(hs:(hd t).2.s+(hd t).2.l≤t'.size)(hb:∀i:Nat,(i:Int)<(hd t).2.s→b8 t' i=b8 t i):hd t'=hd t∧2≤(hd t).2.s:=by
 have hr:=rl_bd (t.extract 1 t.size)
 unfold hd at h hs hb ⊢
 by_cases q1:t.size=0
 ·rw[if_pos q1]at h;cases h
 rw[if_neg q1]at h hs hb ⊢
 by_cases q2:b8 t 0%32=31
 ·rw[if_pos q2]at h;cases h
 rw[if_neg q2]at h hs hb ⊢
 by_cases q3:(rl (t.extract 1 t.size)).1≠0
 ·rw[if_pos q3]at h;exact absurd h q3
 rw[if_neg q3]at h hs hb ⊢
 by_cases q4:(t.size:Int)-((rl (t.extract 1 t.size)).2.1+1)<(rl (t.extract 1 t.size)).2.2
 ·rw[if_pos q4]at h;cases h
 rw[if_neg q4]at h hs hb ⊢
 simp only at hs hb
 have q3':(rl (t.extract 1 t.size)).1=0:=Classical.not_not.1 q3
 have e0:b8 t' 0=b8 t 0:=hb 0 (by omega)
 have s1:(t'.extract 1 t'.size).size=t'.size-1:=by rw[ex_size];omega
 obtain⟨er,r1⟩:=rl_same (u:=t.extract 1 t.size) (u':=t'.extract 1 t'.size) q3' (by rw[s1];omega) (fun i hi=>by
  rw[b8_ex t' 1 t'.size i (by omega) (Nat.le_refl _),b8_ex t 1 t.size i (by omega) (Nat.le_refl _)]
  exact hb (1+i) (by omega))
 rw[if_neg (by omega),e0,if_neg q2,er,if_neg q3,if_neg (by omega)]
 exact⟨rfl,by simp only;omega⟩
theorem hd_two{t:ByteArray}(h:(hd t).1=0):2≤(hd t).2.s:=(hd_same (t':=t) h (hd_ok h).2.2 fun _ _=>rfl).2
theorem fin_le{E:Env}{x y:Nat}(h:(E.hd x y).1=0):x+2≤x+(E.hd x y).2.s.toNat∧x+(E.hd x y).2.s.toNat≤fin x (E.hd x y).2∧fin x (E.hd x y).2≤y∧fin x (E.hd x y).2≤E.d.size:=by
 have h1:=hd_two h
 have h2:=hd_ok h
 have h3:=ex_size E.d x y
 unfold fin
 unfold Env.hd at*
 omega
theorem fin_int{E:Env}{x y:Nat}(h:(E.hd x y).1=0):((fin x (E.hd x y).2:Nat):Int)=x+(E.hd x y).2.s+(E.hd x y).2.l∧(((E.hd x y).2.s.toNat:Nat):Int)=(E.hd x y).2.s:=by
 have h1:=hd_two h
 have h2:=hd_ok h
 unfold fin
 unfold Env.hd at*
 omega
theorem hd_again{E:Env}{x y z:Nat}(h:(E.hd x y).1=0)(hz:fin x (E.hd x y).2≤z)(hs:z≤E.d.size)(hy:y≤E.d.size):E.hd x z=E.hd x y:=by
 have h1:=hd_two h
 have h2:=hd_ok h
 have h3:=ex_size E.d x y
 have h4:=ex_size E.d x z
 have h5:=fin_le h
 have h6:=fin_int h
 unfold Env.hd at*
 exact(hd_same h (by omega) fun i hi=>by rw[b8_ex _ _ _ _ (by omega) hs,b8_ex _ _ _ _ (by omega) hy]).1
theorem andThen_ok{α:Type}{o:Option Out}{k:List Vl→Nat→Option (Except (Int×Int) α)}{v:α}(h:Out.andThen o k=some (.ok v)):∃vs z,o=some (.ok (vs,z))∧k vs z=some (.ok v):=by
 unfold Out.andThen at h
 split at h
 ·cases h
 ·cases h
 ·rename_i vs z;exact⟨vs,z,rfl,h⟩
theorem andThen_some{α:Type}{o:Option Out}{k:List Vl→Nat→Option (Except (Int×Int) α)}{u:Out}(ho:o=some u)(hk:∀vs z,u= .ok (vs,z)→∃v,k vs z=some v):∃v,Out.andThen o k=some v:=by
 subst ho
 unfold Out.andThen
 cases u with
 |error e=>exact⟨_,rfl⟩
 |ok p=>obtain⟨vs,z⟩:=p;exact hk vs z rfl
theorem choiceF_fin{E:Env}{rec:Rec}{h:Hd}{x to:Nat}{dp:Int}:∀(ks:List Kd) (j:Nat) {vs:List Vl} {z:Nat},choiceF E rec h x to dp ks j=some (.ok (vs,z))→z=to
 | [],_,_,_,e=>by cases e
 |k::ks,j,vs,z,e=>by
  unfold choiceF at e
  split at e
  ·obtain⟨_,_,_,e⟩:=andThen_ok e
   simp at e;exact e.2.symm
  ·exact choiceF_fin ks (j+1) e
theorem bareF_fin{E:Env}{rec:Rec}{m:Nat}{n:Nd}{cl nu:Int}{h:Hd}{x to:Nat}{dp:Int}{vs:List Vl}{z:Nat}(e:bareF E rec m n cl nu h x to dp=some (.ok (vs,z))):z=to:=by
 unfold bareF at e
 repeat' split at e
 all_goals first|(exact choiceF_fin _ _ e)|(cases e;done)|(simp at e;exact e.2.symm)
theorem valF_fin{E:Env}{rec:Rec}{m i:Nat}{h:Hd}{x to:Nat}{dp:Int}{vs:List Vl}{z:Nat}(e:valF E rec m i h x to dp=some (.ok (vs,z))):z=to:=by
 unfold valF at e
 split at e
 ·exact bareF_fin e
 split at e
 ·exact bareF_fin e
 split at e
 ·cases e
 split at e
 ·cases e
 split at e
 ·cases e
 obtain⟨_,_,_,e⟩:=andThen_ok e
 split at e
 ·cases e
 ·simp at e;exact e.2.symm
theorem rdF_fin{E:Env}{f i x y:Nat}{dp:Int}{vs:List Vl}{z:Nat}(e:rdF E f i x y dp=some (.ok (vs,z))):(E.hd x y).1=0∧z=fin x (E.hd x y).2:=by
 cases f with
 |zero=>cases e
 |succ f=>
  rw[rdF]at e
  split at e
  ·cases e
  ·rename_i q;exact⟨Classical.not_not.1 q,valF_fin e⟩
structure Fine(s:List Nd):Prop where
 within:Within s
 back:∀i,i<s.length→¬Back s i
 len:s.length≤40
 tagged:∀i,i<s.length→(nd s i).kind=13→0≤(nd s i).tag→(nd s i).mode≠0
 one:∀i,i<s.length→((nd s i).kind=11∨(nd s i).kind=12)→(nd s i).kids.length=1
 eight:∀i,i<s.length→(nd s i).kids.length≤8
def Rch1(s:List Nd)(v i:Nat):Prop:=∃j,Rch s v j∧(nd s j).opn∧∃k∈(nd s j).kids,k.node.toNat=i
structure Way(s:List Nd)(V:List Nat)(i:Nat):Prop where
 nodup:V.Nodup
 lt:∀v∈V,v<s.length
 to:∀v∈V,Rch1 s v i
theorem Way.nil(s:List Nd)(i:Nat):Way s [] i:=⟨.nil,by simp,by simp⟩
theorem Way.len{s:List Nd}{V:List Nat}{i:Nat}(h:Way s V i)(hf:Fine s):V.length≤40:=Nat.le_trans (nodup_le _ _ h.nodup h.lt) hf.len
theorem Way.cons{s:List Nd}{V:List Nat}{i:Nat}(h:Way s V i)(hf:Fine s)(hi:i<s.length)(ho:(nd s i).opn){k:Kd}(hk:k∈(nd s i).kids):Way s (i::V) k.node.toNat where
 nodup:=by
  refine List.nodup_cons.2 ⟨fun hm=>hf.back i hi ?_,h.nodup⟩
  obtain⟨j,hj,hjo,k',hk',e⟩:=h.to i hm
  have:=hf.within j (hj.lt hf.within hi) k' hk'
  exact⟨j,hj,hjo,k',hk',by omega⟩
 lt:=fun v hv=>by
  rcases List.mem_cons.1 hv with rfl|hv
  ·exact hi
  ·exact h.lt v hv
 to:=fun v hv=>by
  rcases List.mem_cons.1 hv with rfl|hv
  ·exact⟨v,.refl,ho,k,hk,rfl⟩
  ·obtain⟨j,hj,hjo,k',hk',e⟩:=h.to v hv
   exact⟨i,e▸hj.step hjo hk',ho,k,hk,rfl⟩
theorem choiceF_some{E:Env}{rec:Rec}{h:Hd}{x to:Nat}{dp:Int}:∀(ks:List Kd) (j:Nat),(∀k∈ks,∃o,rec k.node.toNat x to dp=some o)→∃o,choiceF E rec h x to dp ks j=some o
 | [],_,_=>⟨_,rfl⟩
 |k::ks,j,hr=>by
  unfold choiceF
  split
  ·obtain⟨o,ho⟩:=hr k (by simp)
   exact andThen_some ho fun _ _ _=>⟨_,rfl⟩
  ·exact choiceF_some ks (j+1) fun k hk=>hr k (by simp[hk])
theorem seqF_some{E:Env}{rec:Rec}{to x0:Nat}{dp:Int}(hz:∀i x vs z,rec i x to dp=some (.ok (vs,z))→x≤z∧z≤to):∀(ks:List Kd) (x:Nat) (acc:List Vl),x0≤x→x≤to→(∀k∈ks,∀x',x0≤x'→x'≤to→∃o,rec k.node.toNat x' to dp=some o)→∃o,seqF E rec to dp ks x acc=some o
 | [],x,_,_,_,_=>by unfold seqF;split<;>exact⟨_,rfl⟩
 |k::ks,x,acc,h0,h1,hr=>by
  have hr':∀k∈ks,∀x',x0≤x'→x'≤to→∃o,rec k.node.toNat x' to dp=some o:=fun k hk=>hr k (by simp[hk])
  unfold seqF
  split
  ·exact⟨_,rfl⟩
  split
  ·obtain⟨o,ho⟩:=hr k (by simp) x h0 h1
   refine andThen_some ho fun vs z e=>?_
   subst e
   have:=hz _ _ _ _ ho
   split
   ·exact⟨_,rfl⟩
   ·exact seqF_some hz ks z _ (by omega) (by omega) hr'
  split
  ·exact seqF_some hz ks x _ h0 h1 hr'
  split
  ·exact seqF_some hz ks x _ h0 h1 hr'
  split<;>exact⟨_,rfl⟩
theorem manyF_some{E:Env}{rec:Rec}{set:Bool}{i to x0:Nat}{dp:Int}(hz:∀x vs z,rec i x to dp=some (.ok (vs,z))→x<z∧z≤to)(hr:∀x',x0≤x'→x'≤to→∃o,rec i x' to dp=some o):∀(m x:Nat) (last:ByteArray) (j:Nat) (acc:List Vl),x0≤x→x≤to→to-x<m→∃o,manyF E rec set i to dp m x last j acc=some o
 |0,_,_,_,_,_,_,h=>absurd h (Nat.not_lt_zero _)
 |m+1,x,last,j,acc,h0,h1,hm=>by
  unfold manyF
  split
  ·obtain⟨o,ho⟩:=hr x h0 h1
   refine andThen_some ho fun vs z e=>?_
   subst e
   have:=hz _ _ _ ho
   split
   ·exact⟨_,rfl⟩
   ·exact manyF_some hz hr m z _ _ _ (by omega) (by omega) (by omega)
  ·exact⟨_,rfl⟩
theorem kd_mem{n:Nd}{i:Nat}(h:i<n.kids.length):kd n i∈n.kids:=by
 unfold kd;rw[List.getD_eq_getElem?_getD,List.getElem?_eq_getElem h];exact List.getElem_mem h
theorem bareF_some{E:Env}(hf:Fine E.s){f i:Nat}(hi:i<E.s.length){cl nu:Int}{x x1 to:Nat}{dp:Int}{h:Hd}(hx1:x+h.s.toNat=x1)(hxt:x1≤to)(hfu:to-x1<f)
 (hc:(nd E.s i).kind=13→∀k∈(nd E.s i).kids,∃o,rdF E f k.node.toNat x to dp=some o)
 (hr:∀(j:Nat) (x':Nat),j<E.s.length→x1≤x'→x'≤to→∃o,rdF E f j x' to (dp+1)=some o):∃o,bareF E (rdF E f) f (nd E.s i) cl nu h x to dp=some o:=by
 have hlt:∀k∈(nd E.s i).kids,k.node.toNat<E.s.length:=fun k hk=>by have:=hf.within i hi k hk;omega
 have hz:∀i x vs z,rdF E f i x to (dp+1)=some (.ok (vs,z))→x<z∧z≤to:=fun i x vs z e=>by
  obtain⟨q1,q2⟩:=rdF_fin e
  have:=fin_le q1
  omega
 unfold bareF
 split
 ·rename_i q;exact choiceF_some _ _ (hc q)
 split
 ·exact⟨_,rfl⟩
 split
 ·exact⟨_,rfl⟩
 split
 ·exact⟨_,rfl⟩
 split
 ·obtain⟨o,ho⟩:=seqF_some (x0:=x1) (fun i x vs z e=>by have:=hz i x vs z e;omega) (nd E.s i).kids (x+h.s.toNat) [] (by omega) (by omega) (fun k hk x' a b=>hr _ x' (hlt k hk) a b)
  rw[ho]
  cases o with
  |error e=>exact⟨_,rfl⟩
  |ok p=>obtain⟨vs,z⟩:=p;exact⟨_,rfl⟩
 split
 ·rename_i q10 q
  have h1:=hf.one i hi (by omega)
  have hk:=hlt _ (kd_mem (n:=nd E.s i) (i:=0) (by omega))
  obtain⟨o,ho⟩:=manyF_some (set:=decide ((nd E.s i).kind=12)) (x0:=x1) (fun x vs z e=>hz _ x vs z e) (fun x' a b=>hr _ x' hk a b) f (x+h.s.toNat) noB 0 [] (by omega) (by omega) (by omega)
  rw[ho]
  cases o with
  |error e=>exact⟨_,rfl⟩
  |ok p=>obtain⟨vs,z⟩:=p;exact⟨_,rfl⟩
 split<;>exact⟨_,rfl⟩
theorem rdF_some{E:Env}(hf:Fine E.s):∀(f i x y:Nat) (dp:Int) (V:List Nat),i<E.s.length→Way E.s V i→42*(y-x)+41≤f+V.length→∃o,rdF E f i x y dp=some o
 |0,i,x,y,dp,V,_,hV,h=>by have:=hV.len hf;omega
 |f+1,i,x,y,dp,V,hi,hV,h=>by
  have hVl:=hV.len hf
  rw[rdF]
  split
  ·exact⟨_,rfl⟩
  rename_i q
  have hq:(E.hd x y).1=0:=Classical.not_not.1 q
  have hfin:=fin_le hq
  have hlt:∀k∈(nd E.s i).kids,k.node.toNat<E.s.length:=fun k hk=>by have:=hf.within i hi k hk;omega
  unfold valF
  split
  ·rename_i ht
   exact bareF_some hf hi rfl hfin.2.1 (by omega) (fun hk k hkm=>rdF_some hf f k.node.toNat x _ dp (i::V) (hlt k hkm) (hV.cons hf hi ⟨hk,ht⟩ hkm) (by simp only[List.length_cons];omega))
    (fun j x' hj a b=>rdF_some hf f j x' _ (dp+1) [] hj (Way.nil _ _) (by simp only[List.length_nil];omega))
  split
  ·rename_i ht hm
   exact bareF_some hf hi rfl hfin.2.1 (by omega) (fun hk=>absurd hm (hf.tagged i hi hk (by omega)))
    (fun j x' hj a b=>rdF_some hf f j x' _ (dp+1) [] hj (Way.nil _ _) (by simp only[List.length_nil];omega))
  split
  ·exact⟨_,rfl⟩
  split
  ·exact⟨_,rfl⟩
  split
  ·exact⟨_,rfl⟩
  rename_i q'
  have hq':(E.hd (x+(E.hd x y).2.s.toNat) (fin x (E.hd x y).2)).1=0:=Classical.not_not.1 q'
  have hfin':=fin_le hq'
  obtain⟨o,ho⟩:=bareF_some (cl:=0) (nu:=own0 (nd E.s i).kind) (dp:=dp) hf hi rfl hfin'.2.1 (f:=f) (by omega) (fun hk k hkm=>rdF_some hf f k.node.toNat _ _ dp [] (hlt k hkm) (Way.nil _ _) (by simp only[List.length_nil];omega))
   (fun j x' hj a b=>rdF_some hf f j x' _ (dp+1) [] hj (Way.nil _ _) (by simp only[List.length_nil];omega))
  refine andThen_some ho fun vs z _=>?_
  split<;>exact⟨_,rfl⟩
end Go.Proofs.YtkkicodfpekbgaaGreatDoor
namespace Go.Proofs.YtkkicodfpekbgaaGreatDoor
open Go.RowKit
set_option linter.unusedSimpArgs false
set_option linter.unusedVariables false
set_option maxRecDepth 100000
set_option maxHeartbeats 8000000
def Nums(w:World):Prop:=∀j:Nat,j≤12→w.cell? ⟨16,j,none⟩=some (.int .i64 (own j))
theorem Nums.below{w w':World}(h:Nums w)(hb:Below w.heap.size w w'):Nums w':=fun j hj=>(hb.cell (lt_of_cell (h j hj))).trans (h j hj)
theorem ownTag_any(k:Int)(h:0≤k)(h':k≤12)(w:World)(hn:Nums w):
 Calls Tryz.prog 179 #[.int .i64 k] w fun e w'=>e= .returned (.agg #[.int .i64 0,.int .i64 (own k)])∧Below w.heap.size w w':=by
 obtain⟨n,rfl⟩:∃n:Nat,k=n:=⟨k.toNat,by omega⟩
 have c:=hn n (by omega)
 have hl:=lt_of_cell c
 simp only at hl
 clear hn
 have h13:(n:Int)<13:=by omega
 go_enter Tryz.func179,Tryz.ntmps179
 go_wp2
 refine bodyPost_ret (v:= .agg #[.int .i64 0,.int .i64 (own n)]) (by simp[results,Tryz.results179,go_sem]) rfl ⟨rfl,?_⟩
 exact(Below.refl _ _).alloc (Nat.le_refl _) _
theorem outerTag_any(n:Nd)(ka:Option Addr)(kc:Nat)(w:World)(hn:Nums w)(ht: -1≤n.tag)(hk:0≤n.kind)(hk':n.tag<0→n.kind≤12):
 Calls Tryz.prog 140 #[.agg #[.int .i64 n.kind,.int .i64 n.tag,.int .i64 n.mode,.slice ka n.kids.length kc]] w fun e w'=>e= .returned (.agg #[.int .i64 n.outer.1,.int .i64 n.outer.2])∧Below w.heap.size w w':=by
 by_cases h:0≤n.tag
 ·have e:n.outer=(2,n.tag):=by unfold Nd.outer;rw[if_pos h]
  have h1:(n.tag != -1)=true:=by rw[bne_iff_ne];omega
  rw[e]
  clear e hk' hn
  go_enter Tryz.func140,Tryz.ntmps140
  go_wp2
  refine bodyPost_ret (v:= .agg #[.int .i64 2,.int .i64 n.tag]) (by simp[results,Tryz.results140,go_sem]) rfl ⟨rfl,?_⟩
  exact((Below.refl _ _).alloc (Nat.le_refl _) _).alloc (by simp) _
 ·have e:n.outer=(0,own n.kind):=by unfold Nd.outer;rw[if_neg h]
  have h1:(n.tag != -1)=false:=by rw[bne_eq_false_iff_eq];omega
  have HC:Hid (∀w,Nums w→Calls Tryz.prog 179 #[.int .i64 n.kind] w fun e w'=>e= .returned (.agg #[.int .i64 0,.int .i64 (own n.kind)])∧Below w.heap.size w w'):=fun w q=>ownTag_any n.kind hk (hk' (by omega)) w q
  have HN:Hid (∀o1 o2,Nums ((w.alloc o1).alloc o2)):=fun o1 o2=>hn.below (((Below.refl _ _).alloc (Nat.le_refl _) _).alloc (by simp) _)
  rw[e]
  clear e hk' hn
  go_enter Tryz.func140,Tryz.ntmps140
  go_wp2_with fail
  refine(HC.out _ (HN.out _ _)).mono ?_
  rintro e w1 ⟨rfl,hb⟩
  have HB:Hid (Below w.heap.size w w1):=below_alloc (below_alloc hb)
  have hG:w1.heap[w.heap.size+1]? =some (.cells #[.int .i64 0,.int .i64 0] 147 (0,0)):=block_below (by simpa using heap_alloc_new (w.alloc _) _) hb
  have q0:w1.cell? ⟨w.heap.size+1,0,none⟩=some (.int .i64 0):=by simp[World.cell?,hG]
  have q1:w1.cell? ⟨w.heap.size+1,1,none⟩=some (.int .i64 0):=by simp[World.cell?,hG]
  have f0:w1.frozen? ⟨w.heap.size+1,0,none⟩=false:=by simp[World.frozen?,hG]
  have f1:w1.frozen? ⟨w.heap.size+1,1,none⟩=false:=by simp[World.frozen?,hG]
  clear hb hG
  go_wp2
  refine bodyPost_ret (v:= .agg #[.int .i64 0,.int .i64 (own n.kind)]) (by simp[results,Tryz.results140,go_sem,q0,q1]) rfl ⟨rfl,?_⟩
  exact(HB.out.setCell (p:=⟨w.heap.size+1,0,none⟩) (by simp) _).setCell (p:=⟨w.heap.size+1,1,none⟩) (by simp) _
def Nd.opn1(n:Nd):Prop:=n.kind=13∧n.tag= -1
def Tagged(n:Nd):Prop:= -1≤n.tag∧n.tag≤30∧(n.tag= -1→n.mode=0)∧(0≤n.tag→(n.kind=13∨n.kind=14)→n.mode=1)∧(0≤n.tag→n.kind≠13→n.kind≠14→n.mode=0∨n.mode=1)
theorem isOpen_any(n:Nd)(ka:Option Addr)(kc:Nat)(w:World):
 Calls Tryz.prog 139 #[.agg #[.int .i64 n.kind,.int .i64 n.tag,.int .i64 n.mode,.slice ka n.kids.length kc]] w fun e w'=>RetO n.opn1 w e w':=by
 by_cases h1:n.kind=13
 ·have h1':(n.kind==13)=true:=by simp[h1]
  by_cases h2:n.tag= -1
  ·have HP:Hid n.opn1:=⟨h1,h2⟩
   have h2':(n.tag== -1)=true:=by simp[h2]
   clear h1 h2
   go_enter Tryz.func139,Tryz.ntmps139
   go_wp2
   go_ret
   exact reto_yes HP.out ((Below.refl _ _).alloc (Nat.le_refl _) _)
  ·have HP:Hid (¬n.opn1):=fun h=>h2 h.2
   have h2':(n.tag== -1)=false:=by simp[h2]
   clear h1 h2
   go_enter Tryz.func139,Tryz.ntmps139
   go_wp2
   go_ret
   exact reto_no HP.out ((Below.refl _ _).alloc (Nat.le_refl _) _)
 ·have h1':(n.kind==13)=false:=by simp[h1]
  have HP:Hid (¬n.opn1):=fun h=>h1 h.1
  clear h1
  go_enter Tryz.func139,Tryz.ntmps139
  go_wp2
  go_ret
  exact reto_no HP.out ((Below.refl _ _).alloc (Nat.le_refl _) _)
theorem mayLack_any(k:Kd)(w:World):
 Calls Tryz.prog 94 #[.agg #[.int .i64 k.node,.bool k.opt,.string k.dflt]] w fun e w'=>RetO (¬k.must) w e w':=by
 cases h:k.opt with
 |true=>
  have HP:Hid (¬k.must):=fun q=>by have:=q.1;rw[h]at this;cases this
  clear h
  go_enter Tryz.func94,Tryz.ntmps94
  go_wp2
  go_ret
  exact reto_yes HP.out ((Below.refl _ _).alloc (Nat.le_refl _) _)
 |false=>
  have HO:Hid (k.opt=false):=h
  clear h
  by_cases h2:k.dflt.size=0
  ·have e:=emp_t h2
   have HP:Hid (¬¬k.must):=fun q=>q ⟨HO.out,h2⟩
   clear h2
   go_enter Tryz.func94,Tryz.ntmps94
   go_wp2
   go_ret
   exact reto_no HP.out ((Below.refl _ _).alloc (Nat.le_refl _) _)
  ·have e:=emp_f (t:=k.dflt) (by omega)
   have HP:Hid (¬k.must):=fun q=>h2 q.2
   clear h2
   go_enter Tryz.func94,Tryz.ntmps94
   go_wp2
   go_ret
   exact reto_yes HP.out ((Below.refl _ _).alloc (Nat.le_refl _) _)
theorem isTagged_any(n:Nd)(ka:Option Addr)(kc:Nat)(w:World):
 Calls Tryz.prog 92 #[.agg #[.int .i64 n.kind,.int .i64 n.tag,.int .i64 n.mode,.slice ka n.kids.length kc]] w fun e w'=>RetO (Tagged n) w e w':=by
 by_cases h1:n.tag< -1
 ·have HP:Hid (¬Tagged n):=by show¬Tagged n;unfold Tagged;omega
  go_enter Tryz.func92,Tryz.ntmps92
  go_wp2
  go_ret
  exact reto_no HP.out ((Below.refl _ _).alloc (Nat.le_refl _) _)
 have h1': -1≤n.tag:=by omega
 clear h1
 by_cases h2:30<n.tag
 ·have HP:Hid (¬Tagged n):=by show¬Tagged n;unfold Tagged;omega
  go_enter Tryz.func92,Tryz.ntmps92
  go_wp2
  go_ret
  exact reto_no HP.out ((Below.refl _ _).alloc (Nat.le_refl _) _)
 have h2':n.tag≤30:=by omega
 clear h2
 by_cases h3:n.tag= -1
 ·have e3:(n.tag== -1)=true:=by simp[h3]
  by_cases h4:n.mode=0
  ·have e4:(n.mode==0)=true:=by simp[h4]
   have HP:Hid (Tagged n):=by show Tagged n;unfold Tagged;omega
   clear h3 h4 h1' h2'
   have h1': -1≤n.tag:=by have:=HP.out.1;omega
   have h2':n.tag≤30:=by have:=HP.out.2.1;omega
   go_enter Tryz.func92,Tryz.ntmps92
   go_wp2
   go_ret
   exact reto_yes HP.out ((Below.refl _ _).alloc (Nat.le_refl _) _)
  ·have e4:(n.mode==0)=false:=by simp[h4]
   have HP:Hid (¬Tagged n):=by show¬Tagged n;unfold Tagged;omega
   clear h3 h4
   go_enter Tryz.func92,Tryz.ntmps92
   go_wp2
   go_ret
   exact reto_no HP.out ((Below.refl _ _).alloc (Nat.le_refl _) _)
 have e3:(n.tag== -1)=false:=by simp[h3]
 have h3':0≤n.tag:=by omega
 clear h3
 have hk:(n.kind=13∧(n.kind==13)=true)∨(n.kind=14∧(n.kind==13)=false∧(n.kind==14)=true)∨(n.kind≠13∧n.kind≠14∧(n.kind==13)=false∧(n.kind==14)=false):=by
  by_cases a:n.kind=13
  ·exact .inl ⟨a,by simp[a]⟩
  ·by_cases b:n.kind=14
   ·exact .inr (.inl ⟨b,by simp[b],by simp[b]⟩)
   ·exact .inr (.inr ⟨a,b,by simp[a],by simp[b]⟩)
 have hm:(n.mode=0∧(n.mode==0)=true∧(n.mode==1)=false)∨(n.mode=1∧(n.mode==0)=false∧(n.mode==1)=true)∨(n.mode≠0∧n.mode≠1∧(n.mode==0)=false∧(n.mode==1)=false):=by
  by_cases a:n.mode=0
  ·exact .inl ⟨a,by simp[a],by simp[a]⟩
  ·by_cases b:n.mode=1
   ·exact .inr (.inl ⟨b,by simp[b],by simp[b]⟩)
   ·exact .inr (.inr ⟨a,b,by simp[a],by simp[b]⟩)
 rcases hk with⟨k0,k1⟩|⟨k0,k1,k2⟩|⟨k0,k3,k1,k2⟩
 ·rcases hm with⟨m0,m1,m2⟩|⟨m0,m1,m2⟩|⟨m0,m3,m1,m2⟩
  ·have HP:Hid (¬Tagged n):=by show¬Tagged n;unfold Tagged;omega
   clear k0 m0
   go_enter Tryz.func92,Tryz.ntmps92
   go_wp2
   go_ret
   exact reto_no HP.out ((Below.refl _ _).alloc (Nat.le_refl _) _)
  ·have HP:Hid (Tagged n):=by show Tagged n;unfold Tagged;omega
   clear k0 m0
   go_enter Tryz.func92,Tryz.ntmps92
   go_wp2
   go_ret
   exact reto_yes HP.out ((Below.refl _ _).alloc (Nat.le_refl _) _)
  ·have HP:Hid (¬Tagged n):=by show¬Tagged n;unfold Tagged;omega
   clear k0 m0 m3
   go_enter Tryz.func92,Tryz.ntmps92
   go_wp2
   go_ret
   exact reto_no HP.out ((Below.refl _ _).alloc (Nat.le_refl _) _)
 ·rcases hm with⟨m0,m1,m2⟩|⟨m0,m1,m2⟩|⟨m0,m3,m1,m2⟩
  ·have HP:Hid (¬Tagged n):=by show¬Tagged n;unfold Tagged;omega
   clear k0 m0
   go_enter Tryz.func92,Tryz.ntmps92
   go_wp2
   go_ret
   exact reto_no HP.out ((Below.refl _ _).alloc (Nat.le_refl _) _)
  ·have HP:Hid (Tagged n):=by show Tagged n;unfold Tagged;omega
   clear k0 m0
   go_enter Tryz.func92,Tryz.ntmps92
   go_wp2
   go_ret
   exact reto_yes HP.out ((Below.refl _ _).alloc (Nat.le_refl _) _)
  ·have HP:Hid (¬Tagged n):=by show¬Tagged n;unfold Tagged;omega
   clear k0 m0 m3
   go_enter Tryz.func92,Tryz.ntmps92
   go_wp2
   go_ret
   exact reto_no HP.out ((Below.refl _ _).alloc (Nat.le_refl _) _)
 ·rcases hm with⟨m0,m1,m2⟩|⟨m0,m1,m2⟩|⟨m0,m3,m1,m2⟩
  ·have HP:Hid (Tagged n):=by show Tagged n;unfold Tagged;omega
   clear k0 m0 k3
   go_enter Tryz.func92,Tryz.ntmps92
   go_wp2
   go_ret
   exact reto_yes HP.out ((Below.refl _ _).alloc (Nat.le_refl _) _)
  ·have HP:Hid (Tagged n):=by show Tagged n;unfold Tagged;omega
   clear k0 m0 k3
   go_enter Tryz.func92,Tryz.ntmps92
   go_wp2
   go_ret
   exact reto_yes HP.out ((Below.refl _ _).alloc (Nat.le_refl _) _)
  ·have HP:Hid (¬Tagged n):=by show¬Tagged n;unfold Tagged;omega
   clear k0 m0 k3 m3
   go_enter Tryz.func92,Tryz.ntmps92
   go_wp2
   go_ret
   exact reto_no HP.out ((Below.refl _ _).alloc (Nat.le_refl _) _)
def bnd(k:Int):Int×Int:=if k=10 then(0,8)else if k=11∨k=12 then(1,1)else if k=13 then(1,8)else(0,0)
theorem kidBounds_any(k:Int)(w:World):
 Calls Tryz.prog 93 #[.int .i64 k] w fun e w'=>e= .returned (.tuple #[.int .i64 (bnd k).1,.int .i64 (bnd k).2])∧Below w.heap.size w w':=by
 by_cases h10:k=10
 ·subst h10
  have e:bnd 10=(0,8):=by unfold bnd;rfl
  rw[e]
  clear e
  go_enter Tryz.func93,Tryz.ntmps93
  go_wp2
  go_ret2
  exact⟨rfl,Below.refl _ _⟩
 have e10:(k==10)=false:=by simp[h10]
 by_cases h11:k=11
 ·subst h11
  have e:bnd 11=(1,1):=by unfold bnd;rfl
  rw[e]
  clear e
  go_enter Tryz.func93,Tryz.ntmps93
  go_wp2
  go_ret2
  exact⟨rfl,Below.refl _ _⟩
 have e11:(k==11)=false:=by simp[h11]
 by_cases h12:k=12
 ·subst h12
  have e:bnd 12=(1,1):=by unfold bnd;rfl
  rw[e]
  clear e
  go_enter Tryz.func93,Tryz.ntmps93
  go_wp2
  go_ret2
  exact⟨rfl,Below.refl _ _⟩
 have e12:(k==12)=false:=by simp[h12]
 by_cases h13:k=13
 ·subst h13
  have e:bnd 13=(1,8):=by unfold bnd;rfl
  rw[e]
  clear e
  go_enter Tryz.func93,Tryz.ntmps93
  go_wp2
  go_ret2
  exact⟨rfl,Below.refl _ _⟩
 have e13:(k==13)=false:=by simp[h13]
 have e:bnd k=(0,0):=by unfold bnd;rw[if_neg h10,if_neg (by omega),if_neg h13]
 rw[e]
 clear e h10 h11 h12 h13
 go_enter Tryz.func93,Tryz.ntmps93
 go_wp2
 go_ret2
 exact⟨rfl,Below.refl _ _⟩
end Go.Proofs.YtkkicodfpekbgaaGreatDoor
namespace Go.Proofs.YtkkicodfpekbgaaGreatDoor
set_option linter.unusedSimpArgs false
set_option linter.unusedVariables false
set_option maxRecDepth 100000
set_option maxHeartbeats 8000000
structure Re(s:List Nd)(i:Nat)(V A S:List Nat)(bk:Bool):Prop where
 mem:i∈V++A
 rch:∀x∈V++A,Rch s i x
 sin:∀x∈S,x∈V++A
 snd:S.Nodup
 slt:∀x∈S,x<s.length
 cnt:V.length+A.length=1+S.length
 cl:∀x∈V,(nd s x).opn→∀k∈(nd s x).kids,k.node.toNat∈S
 back:bk=true↔∃x∈V,(nd s x).opn∧∃k∈(nd s x).kids,k.node=i
structure ReM(s:List Nd)(i:Nat)(V:List Nat)(x j:Nat)(A S:List Nat)(bk:Bool):Prop where
 mem:i∈V++x::A
 rch:∀y∈V++x::A,Rch s i y
 sin:∀y∈S,y∈V++x::A
 snd:S.Nodup
 slt:∀y∈S,y<s.length
 cnt:V.length+(A.length+1)=1+S.length
 cl:∀y∈V,(nd s y).opn→∀k∈(nd s y).kids,k.node.toNat∈S
 cl2:∀m,m<j→((nd s x).kids.getD m kd0).node.toNat∈S
 back:bk=true↔(∃y∈V,(nd s y).opn∧∃k∈(nd s y).kids,k.node=i)∨∃m,m<j∧((nd s x).kids.getD m kd0).node=i
theorem Re.start(s:List Nd)(i:Nat):Re s i [] [i] [] false where
 mem:=by simp
 rch:=fun x hx=>by simp at hx;subst hx;exact .refl
 sin:=fun x hx=>by cases hx
 snd:=List.nodup_nil
 slt:=fun x hx=>by cases hx
 cnt:=rfl
 cl:=fun x hx=>by cases hx
 back:=by simp
theorem Re.len{s:List Nd}{i:Nat}{V A S:List Nat}{bk:Bool}(h:Re s i V A S bk):V.length+A.length≤1+s.length:=by
 have:=nodup_le s.length S h.snd h.slt;have:=h.cnt;omega
theorem ReM.len{s:List Nd}{i:Nat}{V A S:List Nat}{x j:Nat}{bk:Bool}(h:ReM s i V x j A S bk):V.length+A.length≤s.length∧S.length≤s.length:=by
 have:=nodup_le s.length S h.snd h.slt;have:=h.cnt;omega
theorem mem_mid{V A:List Nat}{x y:Nat}:y∈V++x::A↔y∈V++[x]++A:=by simp
theorem Re.leaf{s:List Nd}{i x:Nat}{V A S:List Nat}{bk:Bool}(h:Re s i V (A++[x]) S bk)(ho:¬(nd s x).opn):Re s i (V++[x]) A S bk where
 mem:=by have:=h.mem;simp at this ⊢;rcases this with q|q|q<;>simp[q]
 rch:=fun y hy=>h.rch y (by simp at hy ⊢;rcases hy with hy|hy|hy<;>simp[hy])
 sin:=fun y hy=>by have:=h.sin y hy;simp at this ⊢;rcases this with q|q|q<;>simp[q]
 snd:=h.snd
 slt:=h.slt
 cnt:=by have:=h.cnt;simp at this ⊢;omega
 cl:=fun y hy hyo=>by
  rcases List.mem_append.1 hy with hy|hy
  ·exact h.cl y hy hyo
  ·simp at hy;subst hy;exact absurd hyo ho
 back:=by
  rw[h.back]
  constructor
  ·rintro⟨y,hy,hr⟩;exact⟨y,by simp[hy],hr⟩
  ·rintro⟨y,hy,hyo,hr⟩
   rcases List.mem_append.1 hy with hy|hy
   ·exact⟨y,hy,hyo,hr⟩
   ·simp at hy;subst hy;exact absurd hyo ho
theorem Re.mid{s:List Nd}{i x:Nat}{V A S:List Nat}{bk:Bool}(h:Re s i V (A++[x]) S bk):ReM s i V x 0 A S bk where
 mem:=by have:=h.mem;simp at this ⊢;rcases this with q|q|q<;>simp[q]
 rch:=fun y hy=>h.rch y (by simp at hy ⊢;rcases hy with hy|hy|hy<;>simp[hy])
 sin:=fun y hy=>by have:=h.sin y hy;simp at this ⊢;rcases this with q|q|q<;>simp[q]
 snd:=h.snd
 slt:=h.slt
 cnt:=by have:=h.cnt;simp at this ⊢;omega
 cl:=h.cl
 cl2:=fun m hm=>absurd hm (Nat.not_lt_zero _)
 back:=by rw[h.back];simp
theorem back_step{P:Prop}{f:Nat→Int}{j t i:Nat}{bk:Bool}(h:bk=true↔P∨∃m,m<j∧f m=i)(ht:f j=t):(bk||decide ((t:Int)=i))=true↔P∨∃m,m<j+1∧f m=i:=by
 rw[Bool.or_eq_true,h,or_assoc,decide_eq_true_iff]
 refine or_congr Iff.rfl ⟨?_,?_⟩
 ·rintro(⟨m,h1,h2⟩|e)
  ·exact⟨m,by omega,h2⟩
  ·exact⟨j,by omega,ht.trans e⟩
 ·rintro⟨m,h1,h2⟩
  by_cases e:m=j
  ·subst e;exact .inr (ht.symm.trans h2)
  ·exact .inl ⟨m,by omega,h2⟩
theorem ReM.step_old{s:List Nd}{i:Nat}{V A S:List Nat}{x j t:Nat}{bk:Bool}(h:ReM s i V x j A S bk)(ht:((nd s x).kids.getD j kd0).node=t)(hm:t∈S):
 ReM s i V x (j+1) A S (bk||decide ((t:Int)=i)) where
 mem:=h.mem
 rch:=h.rch
 sin:=h.sin
 snd:=h.snd
 slt:=h.slt
 cnt:=h.cnt
 cl:=h.cl
 cl2:=fun m hm'=>by
  by_cases e:m=j
  ·subst e;rw[ht];exact hm
  ·exact h.cl2 m (by omega)
 back:=back_step (f:=fun m=>((nd s x).kids.getD m kd0).node) h.back ht
theorem ReM.step_new{s:List Nd}{i:Nat}{V A S:List Nat}{x j t:Nat}{bk:Bool}(h:ReM s i V x j A S bk)(ht:((nd s x).kids.getD j kd0).node=t)(hj:j<(nd s x).kids.length)(ho:(nd s x).opn)(htl:t<s.length)(hm:t∉S):
 ReM s i V x (j+1) (A++[t]) (S++[t]) (bk||decide ((t:Int)=i)):=by
 have hk:(nd s x).kids.getD j kd0∈(nd s x).kids:=by
  rw[List.getD_eq_getElem?_getD,List.getElem?_eq_getElem hj];exact List.getElem_mem hj
 have hx:Rch s i x:=h.rch x (by simp)
 have ht':((nd s x).kids.getD j kd0).node.toNat=t:=by rw[ht];rfl
 exact {
  mem:=by have:=h.mem;simp at this ⊢;rcases this with q|q|q<;>simp[q]
  rch:=fun y hy=>by
   rw[←List.cons_append,←List.append_assoc]at hy
   rcases List.mem_append.1 hy with hy|hy
   ·exact h.rch y hy
   ·simp at hy;subst hy;rw[←ht'];exact .step hx ho hk
  sin:=fun y hy=>by
   rcases List.mem_append.1 hy with hy|hy
   ·have:=h.sin y hy;simp at this ⊢;rcases this with q|q|q<;>simp[q]
   ·simp at hy;subst hy;simp
  snd:=by rw[List.nodup_append];exact⟨h.snd,by simp,fun a ha b hb=>by simp at hb;subst hb;intro e;subst e;exact hm ha⟩
  slt:=fun y hy=>by
   rcases List.mem_append.1 hy with hy|hy
   ·exact h.slt y hy
   ·simp at hy;subst hy;exact htl
  cnt:=by have:=h.cnt;simp;omega
  cl:=fun y hy hyo k hk=>List.mem_append_left _ (h.cl y hy hyo k hk)
  cl2:=fun m hm'=>by
   by_cases e:m=j
   ·subst e;rw[ht'];simp
   ·exact List.mem_append_left _ (h.cl2 m (by omega))
  back:=back_step (f:=fun m=>((nd s x).kids.getD m kd0).node) h.back ht}
theorem ReM.finish{s:List Nd}{i:Nat}{V A S:List Nat}{x:Nat}{bk:Bool}(h:ReM s i V x (nd s x).kids.length A S bk)(ho:(nd s x).opn):Re s i (V++[x]) A S bk:=by
 have hget:∀k∈(nd s x).kids,∃m,m<(nd s x).kids.length∧(nd s x).kids.getD m kd0=k:=fun k hk=>by
  obtain⟨m,hm,e⟩:=List.getElem_of_mem hk
  exact⟨m,hm,by rw[List.getD_eq_getElem?_getD,List.getElem?_eq_getElem hm];exact e⟩
 exact {
  mem:=mem_mid.1 h.mem
  rch:=fun y hy=>h.rch y (mem_mid.2 hy)
  sin:=fun y hy=>mem_mid.1 (h.sin y hy)
  snd:=h.snd
  slt:=h.slt
  cnt:=by have:=h.cnt;simp;omega
  cl:=fun y hy hyo k hk=>by
   rcases List.mem_append.1 hy with hy|hy
   ·exact h.cl y hy hyo k hk
   ·simp at hy;subst hy
    obtain⟨m,hm,e⟩:=hget k hk
    rw[←e];exact h.cl2 m hm
  back:=by
   rw[h.back]
   constructor
   ·rintro(⟨y,hy,hr⟩|⟨m,hm,e⟩)
    ·exact⟨y,by simp[hy],hr⟩
    ·exact⟨x,by simp,ho,_,by rw[List.getD_eq_getElem?_getD,List.getElem?_eq_getElem hm];exact List.getElem_mem hm,e⟩
   ·rintro⟨y,hy,hyo,k,hk,e⟩
    rcases List.mem_append.1 hy with hy|hy
    ·exact .inl ⟨y,hy,hyo,k,hk,e⟩
    ·simp at hy;subst hy
     obtain⟨m,hm,e'⟩:=hget k hk
     exact .inr ⟨m,hm,by rw[e'];exact e⟩}
theorem Re.reached{s:List Nd}{i:Nat}{V S:List Nat}{bk:Bool}(h:Re s i V [] S bk){j:Nat}(hj:Rch s i j):j∈V:=by
 exact Rch.ind (P:=fun j=>j∈V) (by simpa using h.mem) (fun _ _ _ ho hk ih=>by simpa using h.sin _ (h.cl _ ih ho _ hk)) hj
theorem Re.leaves{s:List Nd}{i:Nat}{V S:List Nat}{bk:Bool}(h:Re s i V [] S bk)(j:Nat):j∈outs s V↔Leaf s i j:=by
 unfold outs Leaf
 rw[List.mem_filter]
 simp only[Bool.not_eq_true',←Bool.not_eq_true,Nd.opnB_iff]
 exact and_congr ⟨fun hm=>h.rch j (by simp[hm]),fun hr=>h.reached hr⟩ Iff.rfl
theorem Re.backs{s:List Nd}{i:Nat}{V S:List Nat}{bk:Bool}(h:Re s i V [] S bk):bk=true↔Back s i:=by
 rw[h.back]
 unfold Back
 constructor
 ·rintro⟨x,hx,ho,k,hk,e⟩;exact⟨x,h.rch x (by simp[hx]),ho,k,hk,e⟩
 ·rintro⟨x,hx,ho,k,hk,e⟩;exact⟨x,h.reached hx,ho,k,hk,e⟩
end Go.Proofs.YtkkicodfpekbgaaGreatDoor
namespace Go.Proofs.YtkkicodfpekbgaaGreatDoor
open Go.RowKit
set_option linter.unusedSimpArgs false
set_option linter.unusedVariables false
set_option maxRecDepth 100000
set_option maxHeartbeats 8000000
def Tags(s:List Nd):Prop:=∀j,j<s.length→ -1≤(nd s j).tag
theorem opn_iff{n:Nd}(h: -1≤n.tag):n.opn1↔n.opn:=by unfold Nd.opn1 Nd.opn;omega
structure ReW(s:List Nd)(w wr:World)(V A S:List Nat)(va vend:Value)(gs:Nat):Prop where
 inn:wr.ownsRow w.heap.size 3 1 va A.length (ivs A)
 out:wr.ownsRow w.heap.size 3 1 vend (outs s V).length (ivs (outs s V))
 ap:va.ownBlock=none∨vend.ownBlock=none∨vend.ownBlock≠va.ownBlock
 bel:Below w.heap.size w wr
 glo:w.heap.size≤gs
 see:∃C:Array Value,wr.heap[gs]? =some (.cells C 232 (0,0))∧∀j,j<40→C[j]? =some (.bool (decide (j∈S)))
def RetE(s:List Nd)(i:Nat)(w:World)(e:Ending)(w':World):Prop:=
 ∃(v:Value) (l:List Nat) (bk:Bool),e= .returned (.tuple #[v,.bool bk])∧w'.ownsRow w.heap.size 3 1 v l.length (ivs l)∧Below w.heap.size w w'∧l.length≤s.length+1∧(∀j,j∈l↔Leaf s i j)∧(bk=true↔Back s i)
theorem own_pop{w:World}{base g ca:Nat}{A:List Nat}{x:Nat}(h:w.ownsRow base 3 1 (.slice (some ⟨g,0,none⟩) (A++[x]).length ca) (A++[x]).length (ivs (A++[x]))):w.ownsRow base 3 1 (.slice (some ⟨g,0,none⟩) A.length ca) A.length (ivs A):=by
 obtain⟨h1,h2⟩:=h
 refine⟨by simp[ivs],?_⟩
 rcases h2 with⟨h2,_⟩|⟨g',cap,cur,hv,h3,h4,h5,h6,h7,h8⟩
 ·cases h2
 ·refine .inr ⟨g',cap,cur,?_,h3,h4,?_,h6,h7,?_⟩
  ·injection hv with a b d
   rw[a,d]
  ·simp at h5;omega
  ·have e:cur.toList.take A.length=(cur.toList.take (A.length+1)).take A.length:=by rw[List.take_take];congr 1;omega
   simp only[Nat.mul_one,List.length_append,List.length_singleton]at h8 ⊢
   rw[e,h8,ivs_append,List.take_append_of_le_length (by simp[ivs]),List.take_of_length_le (by simp[ivs])]
theorem ReW.below{s:List Nd}{w wr w':World}{V A S:List Nat}{va vend:Value}{gs:Nat}(h:ReW s w wr V A S va vend gs)(hb:Below wr.heap.size wr w'):ReW s w w' V A S va vend gs where
 inn:=own_below h.inn hb
 out:=own_below h.out hb
 ap:=h.ap
 bel:=h.bel.trans (hb.mono h.bel.size)
 glo:=h.glo
 see:=by obtain⟨C,h1,h2⟩:=h.see;exact⟨C,block_below h1 hb,h2⟩
theorem keep_other{w w':World}{k:Nat}{A:Array Value}{T:TypeId}{row:Option Nat}{o:Obj}(hg:w.heap[k]? =some (.cells A T (0,0)))(hne:row≠some k)(h2:(w.alloc o).grownBy w' row):w'.heap[k]? =some (.cells A T (0,0)):=by
 have hlt:k<w.heap.size:=by
  rcases Nat.lt_or_ge k w.heap.size with h'|h'
  ·exact h'
  ·rw[Array.getElem?_eq_none h']at hg;cases hg
 rw[h2.block k (by simp;omega) (fun e=>hne e.symm),Below.heap_alloc w o _ hlt,hg]
theorem row_ne1{w:World}{R base size n:Nat}{e T:TypeId}{v:Value}{xs:List Value}{A:Array Value}(hg:w.heap[R]? =some (.cells A T (0,0)))(h:w.ownsRow base e size v n xs)(hT:T≠e):v.ownBlock≠some R:=by
 intro hv
 rcases h.2 with⟨h',_⟩|⟨g,cap,cur,h',_,hg',_⟩
 ·subst h';cases hv
 ·subst h'
  obtain rfl:g=R:=by simpa [Value.ownBlock]using hv
  rw[hg]at hg'
  injection hg' with hg'
  injection hg' with _ e _
  exact hT e
theorem ReW.put{s:List Nd}{w wr w':World}{x:Nat}{V A S:List Nat}{va vend:Value}{gs g cap:Nat}{o:Obj}(h:ReW s w wr V A S va vend gs)(ho:¬(nd s x).opn)
 (h1:w'.ownsRow w.heap.size 3 1 (.slice (some ⟨g,0,none⟩) ((outs s V).length+1) cap) ((outs s V).length+1) (ivs (outs s V)++[.int .i64 (x:Int)]))
 (h2:(wr.alloc o).grownBy w' vend.ownBlock)(h3:vend.ownBlock=some g∨g=wr.heap.size+1):ReW s w w' (V++[x]) A S va (.slice (some ⟨g,0,none⟩) ((outs s V).length+1) cap) gs:=by
 have hb:Below w.heap.size w (wr.alloc o):=h.bel.alloc h.bel.size o
 exact {
  inn:=by
   refine(h.inn.alloc o).kept h2 ?_
   rcases h.ap with q|q|q
   ·exact .inl q
   ·rw[q]
    by_cases e:va.ownBlock=none
    ·exact .inl e
    ·exact .inr e
   ·exact .inr (fun e=>q e.symm)
  out:=by rw[outs_leaf ho,ivs_append,List.length_append];exact h1
  ap:=by
   by_cases e:va.ownBlock=none
   ·exact .inl e
   ·refine .inr (.inr (fun e'=>?_))
    have e'':va.ownBlock=some g:=by rw[←e'];rfl
    rcases h3 with h3|h3
    ·rcases h.ap with q|q|q
     ·exact e q
     ·rw[h3]at q;cases q
     ·exact q (by rw[h3,e''])
    ·have:=(h.inn.lt g e'').2;omega
  bel:=hb.grown h2 hb.size (fun k hk=>(h.out.lt k hk).1)
  glo:=h.glo
  see:=by
   obtain⟨C,q1,q2⟩:=h.see
   exact⟨C,keep_other q1 (row_ne1 q1 h.out (by decide)) h2,q2⟩}
theorem ReW.push{s:List Nd}{w wr w':World}{t:Nat}{V A S:List Nat}{va vend:Value}{gs g cap:Nat}{o:Obj}(h:ReW s w wr V A S va vend gs)
 (h1:w'.ownsRow w.heap.size 3 1 (.slice (some ⟨g,0,none⟩) (A.length+1) cap) (A.length+1) (ivs A++[.int .i64 (t:Int)]))
 (h2:(wr.alloc o).grownBy w' va.ownBlock)(h3:va.ownBlock=some g∨g=wr.heap.size+1):ReW s w w' V (A++[t]) S (.slice (some ⟨g,0,none⟩) (A.length+1) cap) vend gs:=by
 have hb:Below w.heap.size w (wr.alloc o):=h.bel.alloc h.bel.size o
 exact {
  inn:=by rw[ivs_append,List.length_append];exact h1
  out:=by
   refine(h.out.alloc o).kept h2 ?_
   rcases h.ap with q|q|q
   ·rw[q]
    by_cases e:vend.ownBlock=none
    ·exact .inl e
    ·exact .inr e
   ·exact .inl q
   ·exact .inr q
  ap:=by
   by_cases e:vend.ownBlock=none
   ·exact .inr (.inl e)
   ·refine .inr (.inr (fun e'=>?_))
    have e'':vend.ownBlock=some g:=by rw[e'];rfl
    rcases h3 with h3|h3
    ·rcases h.ap with q|q|q
     ·rw[h3]at q;cases q
     ·exact e q
     ·exact q (by rw[h3,e''])
    ·have:=(h.out.lt g e'').2;omega
  bel:=hb.grown h2 hb.size (fun k hk=>(h.inn.lt k hk).1)
  glo:=h.glo
  see:=by
   obtain⟨C,q1,q2⟩:=h.see
   exact⟨C,keep_other q1 (row_ne1 q1 h.inn (by decide)) h2,q2⟩}
theorem ReW.mark{s:List Nd}{w wr:World}{t:Nat}{V A S:List Nat}{va vend:Value}{gs:Nat}(h:ReW s w wr V A S va vend gs)(ht:t<40):ReW s w (wr.setCell ⟨gs,t,none⟩ (.bool true)) V A (S++[t]) va vend gs:=by
 obtain⟨C,q1,q2⟩:=h.see
 exact {
  inn:=ownsRow_setCell_other h.inn (row_ne1 q1 h.inn (by decide)) _
  out:=ownsRow_setCell_other h.out (row_ne1 q1 h.out (by decide)) _
  ap:=h.ap
  bel:=h.bel.setCell h.glo _
  glo:=h.glo
  see:=⟨C.setIfInBounds t (.bool true),heap_setCell_same wr gs t C _ _ q1,fun j hj=>by
   have hsz:t<C.size:=by
    have:=q2 t ht
    rcases Nat.lt_or_ge t C.size with h'|h'
    ·exact h'
    ·rw[Array.getElem?_eq_none h']at this;cases this
   rw[Array.getElem?_setIfInBounds]
   by_cases e:t=j
   ·subst e;rw[if_pos rfl,if_pos hsz];simp
   ·rw[if_neg e,q2 j hj];congr 2;simp;omega⟩}
theorem reach_any(s:List Nd)(a:Option Addr)(c i:Nat)(w:World)(hs:Sch w a s)(hw:Within s)(htg:Tags s)(hi:i<s.length)(hn:s.length≤40):
 Calls Tryz.prog 96 #[.slice a s.length c,.int .i64 i] w fun e w'=>RetE s i w e w':=by
 have HS:Hid (Sch w a s):=hs
 have HW:Hid (Within s):=hw
 have HTG:Hid (Tags s):=htg
 clear hs hw htg
 obtain⟨i0,hi0,hz0,hz1,hz2⟩:=info_parts Tryz.infoInt
 go_enter Tryz.func96,Tryz.ntmps96
 go_wp2
 go_loopg [4,5,7] 41 (fun gk vend vbk va wr=>∃V A S bk aa ca,va= .slice aa A.length ca∧(0<A.length→∃g,aa=some ⟨g,0,none⟩)∧vbk= .bool bk∧gk+V.length=41∧Re s i V A S bk∧ReW s w wr V A S va vend w.heap.size)
 case atStart=>
  refine⟨[],[i],[],false,_,1,rfl,fun _=>⟨w.heap.size+1,rfl⟩,rfl,rfl,Re.start s i,?_⟩
  exact⟨⟨rfl,.inr ⟨w.heap.size+1,1,_,rfl,by omega,by simpa using heap_alloc_new (w.alloc _) _,Nat.le_refl _,by decide,rfl,rfl⟩⟩,World.ownsRow_nil _ _ _ _,.inr (.inl rfl),((Below.refl _ _).alloc (Nat.le_refl _) _).alloc (by simp) _,Nat.le_refl _,_,block_below (heap_alloc_new w _) ((Below.refl _ _).alloc (Nat.le_refl _) _),fun j hj=>by
   match j,hj with
   |0,_|1,_|2,_|3,_|4,_|5,_|6,_|7,_|8,_|9,_|10,_|11,_|12,_|13,_|14,_|15,_|16,_|17,_|18,_|19,_|20,_|21,_|22,_|23,_|24,_|25,_|26,_|27,_|28,_|29,_|30,_|31,_|32,_|33,_|34,_|35,_|36,_|37,_|38,_|39,_=>rfl
   |n+40,h=>exact absurd h (by omega)⟩
 case round=>
  obtain⟨V,A,S,bk,aa,ca,rfl,haa,rfl,hgk,hL,hM⟩:=hrel
  have hlen:=hL.len
  have HL:Hid (Re s i V A S bk):=hL
  have HM:Hid (ReW s w wr V A S (.slice aa A.length ca) u4 w.heap.size):=hM
  rcases List.eq_nil_or_concat A with rfl|⟨A',x,hA⟩
  ·clear hL hM
   go_wp2
   go_ret2
   exact⟨u4,outs s V,bk,rfl,HM.out.out,HM.out.bel,Nat.le_trans (outs_le s V) (by simp at hlen;omega),HL.out.leaves,HL.out.backs⟩
  ·have hA':A=A'++[x]:=by rw[hA];simp
   subst hA'
   clear hA
   have hlm:(A'++[x]).length=A'.length+1:=by simp
   obtain⟨g,rfl⟩:=haa (by omega)
   have cx:wr.cell? ⟨g,A'.length,none⟩=some (.int .i64 (x:Int)):=by
    have:=own_cell (j:=A'.length) hM.inn (by omega)
    rw[this];congr 3;simp
   have HM':Hid (ReW s w wr V A' S (.slice (some ⟨g,0,none⟩) A'.length ca) u4 w.heap.size):=⟨own_pop hM.inn,hM.out,hM.ap,hM.bel,hM.glo,hM.see⟩
   have hxs:x<s.length:=(hL.rch x (by simp)).lt HW.out hi
   obtain⟨b,o,ka,kc,rfl,nc,kl,km,ks⟩:=HS.out x hxs
   obtain⟨n1,n2,n3,n4⟩:=nc.below hM.bel
   have KS:Hid (KidsIn w ka (nd s x).kids):=ks
   have hxs':(x:Int)<s.length:=by omega
   have hmc:A'.length+1≤ca∧ca≤maxLen:=by
    rcases hM.inn.2 with⟨q,_⟩|⟨g',cap,cur,hv,_,_,q1,q2,_⟩
    ·cases q
    ·injection hv with _ _ e;subst e;exact⟨by omega,q2⟩
   have hm40:A'.length≤40:=by omega
   have hsz:w.heap.size<wr.heap.size:=by
    obtain⟨C,q1,_⟩:=hM.see
    rcases Nat.lt_or_ge w.heap.size wr.heap.size with h'|h'
    ·exact h'
    ·rw[Array.getElem?_eq_none h']at q1;cases q1
   have HO:Hid (∀wr,Calls Tryz.prog 139 #[.agg #[.int .i64 (nd s x).kind,.int .i64 (nd s x).tag,.int .i64 (nd s x).mode,.slice ka (nd s x).kids.length kc]] wr fun e w'=>RetO (nd s x).opn wr e w'):=fun wr=>by
    have:=isOpen_any (nd s x) ka kc wr
    refine this.mono fun e w' q=>?_
    obtain⟨r,h1,h2,h3⟩:=q
    exact⟨r,h1,h2.trans (opn_iff (HTG.out x hxs)),h3⟩
   have hV:V.length+A'.length≤s.length:=by omega
   clear hL hM hlm ks nc haa
   go_wp2_with fail
   refine(HO.out _).mono ?_
   by_cases ho:(nd s x).opn
   ·intro e w2 hq
    obtain⟨rfl,hb2⟩:=hq.yes ho
    have HM2:Hid (ReW s w w2 V A' S (.slice (some ⟨g,0,none⟩) A'.length ca) u4 w.heap.size):=HM'.out.below hb2
    have HLM:Hid (ReM s i V x 0 A' S bk):=HL.out.mid
    have e4:w2.cell? ⟨b,o+x*4+3,none⟩=some (.slice ka (nd s x).kids.length kc):=(hb2.cell (lt_of_cell n4)).trans n4
    have hkm:(nd s x).kids.length≤9223372036854775807:=by unfold maxLen at km;omega
    clear hq hb2 cx n1 n2 n3 n4
    go_wp2
    go_loopw [5,7,43] (fun vbk va vj wx=>∃A1 S1 bk1 aa1 ca1 j,va= .slice aa1 A1.length ca1∧(0<A1.length→∃g,aa1=some ⟨g,0,none⟩)∧vbk= .bool bk1∧vj= .int .i64 (j:Nat)∧j≤(nd s x).kids.length∧ReM s i V x j A1 S1 bk1∧ReW s w wx V A1 S1 (.slice aa1 A1.length ca1) u4 w.heap.size)
     (fun _ _ vj _=>(nd s x).kids.length-(intOf vj).toNat)
    case atStart=>exact⟨A',S,bk,_,ca,0,rfl,fun _=>⟨g,rfl⟩,rfl,rfl,Nat.zero_le _,HLM.out,HM2.out⟩
    case round=>
     clear HLM HM2 e4
     obtain⟨A1,S1,bk1,aa1,ca1,j,rfl,haa1,rfl,rfl,hj,hLM,hM3⟩:=hrel
     have HAA:Hid (0<A1.length→∃g,aa1=some ⟨g,0,none⟩):=haa1
     have HLM:Hid (ReM s i V x j A1 S1 bk1):=hLM
     have HM3:Hid (ReW s w wr V A1 S1 (.slice aa1 A1.length ca1) u4 w.heap.size):=hM3
     have hlen1:=hLM.len
     have hszw:w.heap.size<wr.heap.size:=by
      obtain⟨C,q1,_⟩:=hM3.see
      rcases Nat.lt_or_ge w.heap.size wr.heap.size with h'|h'
      ·exact h'
      ·rw[Array.getElem?_eq_none h']at q1;cases q1
     have cS:∀t,t<40→wr.cell? ⟨w.heap.size,t,none⟩=some (.bool (decide (t∈S1))):=fun t ht=>by
      obtain⟨C,q1,q2⟩:=hM3.see
      simp only[World.cell?,q1]
      exact q2 t ht
     have fS:∀t,wr.frozen? ⟨w.heap.size,t,none⟩=false:=fun t=>by
      obtain⟨C,q1,q2⟩:=hM3.see
      simp[World.frozen?,q1]
     by_cases hjl:j<(nd s x).kids.length
     ·obtain⟨kb,ko,rfl,kcl⟩:=KS.out j hjl
      have hkr:=HW.out x hxs ((nd s x).kids.getD j kd0) (by rw[List.getD_eq_getElem?_getD,List.getElem?_eq_getElem hjl];exact List.getElem_mem hjl)
      obtain⟨t,ht⟩:∃t:Nat,((nd s x).kids.getD j kd0).node=t:=⟨_,(Int.toNat_of_nonneg hkr.1).symm⟩
      obtain⟨k1,k2,k3⟩:=kcl.below hM3.bel
      have HT:Hid (((nd s x).kids.getD j kd0).node=t):=ht
      rw[ht]at k1 hkr
      obtain⟨bo,hbo⟩:∃v,((nd s x).kids.getD j kd0).opt=v:=⟨_,rfl⟩
      obtain⟨bd,hbd⟩:∃v,((nd s x).kids.getD j kd0).dflt=v:=⟨_,rfl⟩
      rw[hbo]at k2
      rw[hbd]at k3
      have htl:t<s.length:=by omega
      have ht40:t<40:=by omega
      have ht40':(t:Int)<40:=by omega
      have hjl':(j:Int)<(nd s x).kids.length:=by omega
      have ft:=fS t
      have cs:=cS t ht40
      obtain⟨bk2,hbk2⟩:∃b2,b2=(bk1||decide ((t:Int)=i)):=⟨_,rfl⟩
      have HBK:Hid (bk2=(bk1||decide ((t:Int)=i))):=hbk2
      have hcs:(bk1=true∧bk2=true)∨(bk1=false∧((t:Int)==i)=bk2):=by
       cases bk1
       ·right;exact⟨rfl,by rw[hbk2,Bool.false_or,Bool.eq_iff_iff];simp⟩
       ·left;exact⟨rfl,by rw[hbk2];simp⟩
      clear hbk2 hLM hM3 kcl ht hkr hbo hbd fS cS haa1
      rcases hcs with⟨rfl,rfl⟩|⟨rfl,hti⟩
      ·by_cases hts:t∈S1
       ·have HS1:Hid (t∈S1):=hts
        rw[decide_eq_true hts]at cs
        clear hts
        have HLM':Hid (ReM s i V x (j+1) A1 S1 true):=HBK.out▸HLM.out.step_old HT.out HS1.out
        have HM4:Hid (∀o,ReW s w (wr.alloc o) V A1 S1 (.slice aa1 A1.length ca1) u4 w.heap.size):=fun o=>HM3.out.below ((Below.refl _ _).alloc (Nat.le_refl _) o)
        go_wp2
        go_roundw
        case rel=>exact⟨A1,S1,true,aa1,ca1,j+1,rfl,HAA.out,rfl,by go_num,by omega,HLM'.out,HM4.out _⟩
        case measure=>simp[intOf];omega
       ·have HS1:Hid (t∉S1):=hts
        rw[decide_eq_false hts]at cs
        clear hts
        have HLM':Hid (ReM s i V x (j+1) (A1++[t]) (S1++[t]) true):=HBK.out▸HLM.out.step_new HT.out hjl ho htl HS1.out
        have HM4:Hid (∀o,ReW s w ((wr.setCell ⟨w.heap.size,t,none⟩ (.bool true)).alloc o) V A1 (S1++[t]) (.slice aa1 A1.length ca1) u4 w.heap.size):=fun o=>(HM3.out.mark ht40).below ((Below.refl _ _).alloc (Nat.le_refl _) o)
        have hsz3:w.heap.size≤wr.heap.size+2:=by omega
        have NEWS:Hid (∀(j:Nat) (u:Value),[Value.int .i64 (t:Int)][j]? =some u→(((wr.setCell ⟨w.heap.size,t,none⟩ (.bool true)).alloc (.cells #[.int .i64 (t:Int),.bool bo,.string bd] 55)).alloc (.cells #[.int .i64 (t:Int)] 3)).cell? ((⟨wr.heap.size+1,0,none⟩:Addr).add j)=some u):=by
         have q:=cell_one_new ((wr.setCell ⟨w.heap.size,t,none⟩ (.bool true)).alloc (.cells #[.int .i64 (t:Int),.bool bo,.string bd] 55)) (.int .i64 (t:Int)) 3
         rw[show((wr.setCell ⟨w.heap.size,t,none⟩ (.bool true)).alloc (.cells #[.int .i64 (t:Int),.bool bo,.string bd] 55)).heap.size=wr.heap.size+1 by simp]at q
         exact q
        go_wp2_with (at_builtin;refine wpList_append_lies _ rfl (.tmp 62) (.tmp 65) 32 rfl w.heap.size 3 i0 (.int .i64 0) 1 8 Tryz.underlying32 hi0 hz0 hz1 hz2 rfl (by decide) (.slice aa1 A1.length ca1) A1.length (ivs A1) rfl ((HM4.out _).inn.alloc _) ⟨wr.heap.size+1,0,none⟩ 1 1 [.int .i64 (t:Int)] rfl rfl NEWS.out (by intro u hu;simp at hu;subst hu;rfl) (by decide) (by unfold maxLen;omega) (by omega) (by simpa using hsz3) (wr.heap.size+2) (by simp) ?_)
        intro g' cap w3 h1 h2 h3 h4
        have HM5:Hid (ReW s w w3 V (A1++[t]) (S1++[t]) (.slice (some ⟨g',0,none⟩) (A1.length+1) cap) u4 w.heap.size):=(HM4.out _).push h1 h2 (by simpa using h3)
        clear h1 h2 h3 h4
        go_wp2
        go_roundw
        case rel=>exact⟨A1++[t],S1++[t],true,_,cap,j+1,by simp,fun _=>⟨g',rfl⟩,rfl,by go_num,by omega,HLM'.out,by simpa using HM5.out⟩
        case measure=>simp[intOf];omega
      ·by_cases hts:t∈S1
       ·have HS1:Hid (t∈S1):=hts
        rw[decide_eq_true hts]at cs
        clear hts
        have HLM':Hid (ReM s i V x (j+1) A1 S1 bk2):=HBK.out▸HLM.out.step_old HT.out HS1.out
        have HM4:Hid (∀o,ReW s w (wr.alloc o) V A1 S1 (.slice aa1 A1.length ca1) u4 w.heap.size):=fun o=>HM3.out.below ((Below.refl _ _).alloc (Nat.le_refl _) o)
        go_wp2
        go_roundw
        case rel=>exact⟨A1,S1,bk2,aa1,ca1,j+1,rfl,HAA.out,rfl,by go_num,by omega,HLM'.out,HM4.out _⟩
        case measure=>simp[intOf];omega
       ·have HS1:Hid (t∉S1):=hts
        rw[decide_eq_false hts]at cs
        clear hts
        have HLM':Hid (ReM s i V x (j+1) (A1++[t]) (S1++[t]) bk2):=HBK.out▸HLM.out.step_new HT.out hjl ho htl HS1.out
        have HM4:Hid (∀o,ReW s w ((wr.setCell ⟨w.heap.size,t,none⟩ (.bool true)).alloc o) V A1 (S1++[t]) (.slice aa1 A1.length ca1) u4 w.heap.size):=fun o=>(HM3.out.mark ht40).below ((Below.refl _ _).alloc (Nat.le_refl _) o)
        have hsz3:w.heap.size≤wr.heap.size+2:=by omega
        have NEWS:Hid (∀(j:Nat) (u:Value),[Value.int .i64 (t:Int)][j]? =some u→(((wr.setCell ⟨w.heap.size,t,none⟩ (.bool true)).alloc (.cells #[.int .i64 (t:Int),.bool bo,.string bd] 55)).alloc (.cells #[.int .i64 (t:Int)] 3)).cell? ((⟨wr.heap.size+1,0,none⟩:Addr).add j)=some u):=by
         have q:=cell_one_new ((wr.setCell ⟨w.heap.size,t,none⟩ (.bool true)).alloc (.cells #[.int .i64 (t:Int),.bool bo,.string bd] 55)) (.int .i64 (t:Int)) 3
         rw[show((wr.setCell ⟨w.heap.size,t,none⟩ (.bool true)).alloc (.cells #[.int .i64 (t:Int),.bool bo,.string bd] 55)).heap.size=wr.heap.size+1 by simp]at q
         exact q
        go_wp2_with (at_builtin;refine wpList_append_lies _ rfl (.tmp 62) (.tmp 65) 32 rfl w.heap.size 3 i0 (.int .i64 0) 1 8 Tryz.underlying32 hi0 hz0 hz1 hz2 rfl (by decide) (.slice aa1 A1.length ca1) A1.length (ivs A1) rfl ((HM4.out _).inn.alloc _) ⟨wr.heap.size+1,0,none⟩ 1 1 [.int .i64 (t:Int)] rfl rfl NEWS.out (by intro u hu;simp at hu;subst hu;rfl) (by decide) (by unfold maxLen;omega) (by omega) (by simpa using hsz3) (wr.heap.size+2) (by simp) ?_)
        intro g' cap w3 h1 h2 h3 h4
        have HM5:Hid (ReW s w w3 V (A1++[t]) (S1++[t]) (.slice (some ⟨g',0,none⟩) (A1.length+1) cap) u4 w.heap.size):=(HM4.out _).push h1 h2 (by simpa using h3)
        clear h1 h2 h3 h4
        go_wp2
        go_roundw
        case rel=>exact⟨A1++[t],S1++[t],bk2,_,cap,j+1,by simp,fun _=>⟨g',rfl⟩,rfl,by go_num,by omega,HLM'.out,by simpa using HM5.out⟩
        case measure=>simp[intOf];omega
     ·have hjl':((nd s x).kids.length:Int)≤j:=by omega
      obtain rfl:j=(nd s x).kids.length:=by omega
      have HL':Hid (Re s i (V++[x]) A1 S1 bk1):=hLM.finish ho
      have HM':Hid (ReW s w wr (V++[x]) A1 S1 (.slice aa1 A1.length ca1) u4 w.heap.size):=⟨hM3.inn,by rw[outs_open ho];exact hM3.out,hM3.ap,hM3.bel,hM3.glo,hM3.see⟩
      clear hLM hM3 cS fS haa1
      go_wp2
      go_roundg (gk-1)
      case rel=>exact⟨V++[x],A1,S1,bk1,aa1,ca1,rfl,HAA.out,rfl,by simp;omega,HL'.out,HM'.out⟩
      case measure=>omega
   ·intro e w2 hq
    obtain⟨rfl,hb2⟩:=hq.no ho
    have HM2:Hid (ReW s w w2 V A' S (.slice (some ⟨g,0,none⟩) A'.length ca) u4 w.heap.size):=HM'.out.below hb2
    have hol:(outs s V).length≤41:=by have:=outs_le s V;omega
    have hsz2:w.heap.size≤w2.heap.size+1:=by have:=HM2.out.bel.size;omega
    clear hq hb2 cx n1 n2 n3 n4
    go_wp2_with (at_builtin;refine wpList_append_lies _ rfl (.tmp 33) (.tmp 35) 32 rfl w.heap.size 3 i0 (.int .i64 0) 1 8 Tryz.underlying32 hi0 hz0 hz1 hz2 rfl (by decide) u4 (outs s V).length (ivs (outs s V)) rfl (HM2.out.out.alloc _) ⟨w2.heap.size,0,none⟩ 1 1 [.int .i64 (x:Int)] rfl rfl (cell_one_new _ _ _) (by intro u hu;simp at hu;subst hu;rfl) (by decide) (by unfold maxLen;omega) (by omega) (by simpa using hsz2) (w2.heap.size+1) (by simp) ?_)
    intro g' cap w3 h1 h2 h3 h4
    have HM3:Hid (ReW s w w3 (V++[x]) A' S (.slice (some ⟨g,0,none⟩) A'.length ca) (.slice (some ⟨g',0,none⟩) ((outs s V).length+1) cap) w.heap.size):=HM2.out.put ho h1 h2 h3
    clear h1 h2 h3 h4
    go_wp2
    go_roundg (gk-1)
    case rel=>exact⟨V++[x],A',S,bk,_,ca,rfl,fun _=>⟨g,rfl⟩,rfl,by simp;omega,HL.out.leaf ho,HM3.out⟩
    case measure=>omega
def fv(c n:Int)(b:Bool):Value:= .agg #[.int .i64 c,.int .i64 n,.bool b]
theorem firstOf_any(c:Int)(b:Bool)(n z l:Int)(w:World):
 Calls Tryz.prog 157 #[.agg #[.int .i64 c,.bool b,.int .i64 n,.int .i64 z,.int .i64 l]] w fun e w'=>e= .returned (fv c n b)∧Below w.heap.size w w':=by
 unfold fv
 go_enter Tryz.func157,Tryz.ntmps157
 go_wp2
 refine bodyPost_ret (v:= .agg #[.int .i64 c,.int .i64 n,.bool b]) (by simp[results,Tryz.results157,go_sem]) rfl ⟨rfl,?_⟩
 exact((Below.refl _ _).alloc (Nat.le_refl _) _).alloc (by simp) _
theorem around_no(n:Nd)(ka:Option Addr)(kc:Nat)(w:World)(hm:n.mode≠1):
 Calls Tryz.prog 110 #[.agg #[.int .i64 n.kind,.int .i64 n.tag,.int .i64 n.mode,.slice ka n.kids.length kc]] w fun e w'=>e= .returned (.tuple #[fv 0 0 false,.bool false])∧Below w.heap.size w w':=by
 have e:(n.mode !=1)=true:=by simp[hm]
 unfold fv
 clear hm
 go_enter Tryz.func110,Tryz.ntmps110
 go_wp2
 refine bodyPost_ret (v:= .tuple #[.agg #[.int .i64 0,.int .i64 0,.bool false],.bool false]) (by simp[results,Tryz.results110,go_sem]) rfl ⟨rfl,?_⟩
 exact((Below.refl _ _).alloc (Nat.le_refl _) _).alloc (by simp) _
theorem setCell3{B:Nat}{w w1:World}(h:Below B w w1)(b:Nat)(hb:B≤b)(v0 v1 v2:Value):Below B w (((w1.setCell ⟨b,0,none⟩ v0).setCell ⟨b,1,none⟩ v1).setCell ⟨b,2,none⟩ v2):=
 ((h.setCell (p:=⟨b,0,none⟩) hb v0).setCell (p:=⟨b,1,none⟩) hb v1).setCell (p:=⟨b,2,none⟩) hb v2
theorem around_yes(n:Nd)(ka:Option Addr)(kc:Nat)(w:World)(hm:n.mode=1)(hn:Nums w)(ht:0≤n.tag)(hk:0≤n.kind):
 Calls Tryz.prog 110 #[.agg #[.int .i64 n.kind,.int .i64 n.tag,.int .i64 n.mode,.slice ka n.kids.length kc]] w fun e w'=>e= .returned (.tuple #[fv 2 n.tag true,.bool true])∧Below w.heap.size w w':=by
 have e:(n.mode !=1)=false:=by simp[hm]
 have HC:Hid (∀w',Nums w'→Calls Tryz.prog 140 #[.agg #[.int .i64 n.kind,.int .i64 n.tag,.int .i64 n.mode,.slice ka n.kids.length kc]] w' fun e w''=>e= .returned (.agg #[.int .i64 2,.int .i64 n.tag])∧Below w'.heap.size w' w''):=fun w' q=>by
  have:=outerTag_any n ka kc w' q (by omega) hk (fun h=>by omega)
  unfold Nd.outer at this
  rw[if_pos ht]at this
  exact this
 have HN:Hid (∀o1 o2,Nums ((w.alloc o1).alloc o2)):=fun o1 o2=>hn.below (((Below.refl _ _).alloc (Nat.le_refl _) _).alloc (by simp) _)
 unfold fv
 clear hm hn
 go_enter Tryz.func110,Tryz.ntmps110
 go_wp2_with fail
 refine(HC.out _ (HN.out _ _)).mono ?_
 rintro e w1 ⟨rfl,hb⟩
 have HB:Hid (Below w.heap.size w w1):=below_alloc (below_alloc hb)
 have hG:w1.heap[w.heap.size+1]? =some (.cells #[.int .i64 0,.int .i64 0,.bool false] 149 (0,0)):=block_below (by simpa using heap_alloc_new (w.alloc _) _) hb
 have q0:w1.cell? ⟨w.heap.size+1,0,none⟩=some (.int .i64 0):=by simp[World.cell?,hG]
 have q1:w1.cell? ⟨w.heap.size+1,1,none⟩=some (.int .i64 0):=by simp[World.cell?,hG]
 have q2:w1.cell? ⟨w.heap.size+1,2,none⟩=some (.bool false):=by simp[World.cell?,hG]
 have f0:w1.frozen? ⟨w.heap.size+1,0,none⟩=false:=by simp[World.frozen?,hG]
 have f1:w1.frozen? ⟨w.heap.size+1,1,none⟩=false:=by simp[World.frozen?,hG]
 have f2:w1.frozen? ⟨w.heap.size+1,2,none⟩=false:=by simp[World.frozen?,hG]
 clear hb hG
 go_wp2
 refine bodyPost_ret (v:= .tuple #[.agg #[.int .i64 2,.int .i64 n.tag,.bool true],.bool true]) (by simp[results,Tryz.results110,go_sem,q0,q1,q2]) rfl ⟨rfl,?_⟩
 exact setCell3 HB.out _ (by simp) _ _ _
def Nd.ownT(n:Nd):Int×Int:=if n.mode=0∧0≤n.tag then(2,n.tag)else(0,own n.kind)
theorem own_first(n:Nd)(ka:Option Addr)(kc:Nat)(w:World)(hn:Nums w)(ht: -1≤n.tag)(hk:0≤n.kind)(hk':n.kind≤9):
 Calls Tryz.prog 152 #[.agg #[.int .i64 n.kind,.int .i64 n.tag,.int .i64 n.mode,.slice ka n.kids.length kc]] w fun e w'=>e= .returned (fv n.ownT.1 n.ownT.2 false)∧Below w.heap.size w w':=by
 have HC:Hid (∀w',Nums w'→Calls Tryz.prog 140 #[.agg #[.int .i64 n.kind,.int .i64 n.tag,.int .i64 n.mode,.slice ka n.kids.length kc]] w' fun e w''=>e= .returned (.agg #[.int .i64 n.outer.1,.int .i64 n.outer.2])∧Below w'.heap.size w' w''):=fun w' q=>outerTag_any n ka kc w' q ht hk (fun h=>by omega)
 have HW:Hid (∀w',Nums w'→Calls Tryz.prog 179 #[.int .i64 n.kind] w' fun e w''=>e= .returned (.agg #[.int .i64 0,.int .i64 (own n.kind)])∧Below w'.heap.size w' w''):=fun w' q=>ownTag_any n.kind hk (by omega) w' q
 have HN:Hid (∀wq,Below w.heap.size w wq→Nums wq):=fun wq q=>hn.below q
 have hk10:n.kind<10:=by omega
 have hd10:decide (10≤n.kind)=false:=by simp;omega
 obtain⟨T1,T2,hT⟩:∃T1 T2,n.ownT=(T1,T2):=⟨_,_,rfl⟩
 have HT:Hid (n.ownT=(T1,T2)):=hT
 rw[hT]
 unfold fv
 clear hn hT
 go_enter Tryz.func152,Tryz.ntmps152
 go_wp2_with fail
 refine(HW.out _ (HN.out _ (((Below.refl _ _).alloc (Nat.le_refl _) _).alloc (by simp) _))).mono ?_
 rintro e w1 ⟨rfl,hb⟩
 have HB:Hid (Below w.heap.size w w1):=below_alloc (below_alloc hb)
 have HG:Hid (w1.heap[w.heap.size+1]? =some (.cells #[.int .i64 0,.int .i64 0,.bool false] 149 (0,0))):=block_below (by simpa using heap_alloc_new (w.alloc _) _) hb
 have HG0:Hid (w1.heap[w.heap.size]? =some (.cells #[.int .i64 n.kind,.int .i64 n.tag,.int .i64 n.mode,.slice ka n.kids.length kc] 58 (0,0))):=block_below (block_below (heap_alloc_new w _) ((Below.refl _ _).alloc (Nat.le_refl _) _)) hb
 have hs1:w.heap.size+1<w1.heap.size:=by have:=hb.size;simp at this;omega
 have hs0:w.heap.size<w1.heap.size:=by omega
 have p0:w1.cell? ⟨w.heap.size,0,none⟩=some (.int .i64 n.kind):=by simp[World.cell?,HG0.out]
 have p1:w1.cell? ⟨w.heap.size,1,none⟩=some (.int .i64 n.tag):=by simp[World.cell?,HG0.out]
 have p2:w1.cell? ⟨w.heap.size,2,none⟩=some (.int .i64 n.mode):=by simp[World.cell?,HG0.out]
 have p3:w1.cell? ⟨w.heap.size,3,none⟩=some (.slice ka n.kids.length kc):=by simp[World.cell?,HG0.out]
 have q0:w1.cell? ⟨w.heap.size+1,0,none⟩=some (.int .i64 0):=by simp[World.cell?,HG.out]
 have q1:w1.cell? ⟨w.heap.size+1,1,none⟩=some (.int .i64 0):=by simp[World.cell?,HG.out]
 have q2:w1.cell? ⟨w.heap.size+1,2,none⟩=some (.bool false):=by simp[World.cell?,HG.out]
 have f0:w1.frozen? ⟨w.heap.size+1,0,none⟩=false:=by simp[World.frozen?,HG.out]
 have f1:w1.frozen? ⟨w.heap.size+1,1,none⟩=false:=by simp[World.frozen?,HG.out]
 have f2:w1.frozen? ⟨w.heap.size+1,2,none⟩=false:=by simp[World.frozen?,HG.out]
 clear hb
 by_cases hm:n.mode=0
 ·have e0:(n.mode==0)=true:=by simp[hm]
  have HE:Hid (n.ownT=n.outer):=by
   show n.ownT=n.outer
   unfold Nd.ownT Nd.outer
   by_cases q:0≤n.tag
   ·rw[if_pos ⟨hm,q⟩,if_pos q]
   ·rw[if_neg (fun r=>q r.2),if_neg q]
  obtain⟨rfl,rfl⟩:T1=n.outer.1∧T2=n.outer.2:=by rw[←HE.out,HT.out];exact⟨rfl,rfl⟩
  clear hm
  go_wp2_with fail
  refine(HC.out _ (HN.out _ (HB.out.alloc HB.out.size _))).mono ?_
  rintro e w2 ⟨rfl,hb2⟩
  have HB2:Hid (Below w.heap.size w w2):=HB.out.trans ((below_alloc hb2).mono HB.out.size)
  have hA:w2.heap[w1.heap.size]? =some (.cells #[.int .i64 0,.int .i64 (own n.kind)] 147 (0,0)):=block_below (heap_alloc_new w1 _) hb2
  have hG2:=block_below HG.out (below_alloc hb2)
  have hG02:=block_below HG0.out (below_alloc hb2)
  have hs2:w1.heap.size<w2.heap.size:=by have:=hb2.size;simp at this;omega
  have t0:w2.cell? ⟨w1.heap.size,0,none⟩=some (.int .i64 0):=by simp[World.cell?,hA]
  have t1:w2.cell? ⟨w1.heap.size,1,none⟩=some (.int .i64 (own n.kind)):=by simp[World.cell?,hA]
  have t2:w2.frozen? ⟨w1.heap.size,0,none⟩=false:=by simp[World.frozen?,hA]
  have t3:w2.frozen? ⟨w1.heap.size,1,none⟩=false:=by simp[World.frozen?,hA]
  have r0:w2.cell? ⟨w.heap.size+1,0,none⟩=some (.int .i64 0):=by simp[World.cell?,hG2]
  have r1:w2.cell? ⟨w.heap.size+1,1,none⟩=some (.int .i64 0):=by simp[World.cell?,hG2]
  have r2:w2.cell? ⟨w.heap.size+1,2,none⟩=some (.bool false):=by simp[World.cell?,hG2]
  have g0:w2.frozen? ⟨w.heap.size+1,0,none⟩=false:=by simp[World.frozen?,hG2]
  have g1:w2.frozen? ⟨w.heap.size+1,1,none⟩=false:=by simp[World.frozen?,hG2]
  have g2:w2.frozen? ⟨w.heap.size+1,2,none⟩=false:=by simp[World.frozen?,hG2]
  have d0:w2.cell? ⟨w.heap.size,0,none⟩=some (.int .i64 n.kind):=by simp[World.cell?,hG02]
  have hne1:¬w1.heap.size=w.heap.size+1:=by omega
  have hne0:¬w1.heap.size=w.heap.size:=by omega
  have hne2:¬w.heap.size+1=w1.heap.size:=by omega
  have hne3:¬w.heap.size=w1.heap.size:=by omega
  clear hb2 hA hG2 hG02 p0 p1 p2 p3 q0 q1 q2 f0 f1 f2
  go_wp2
  refine bodyPost_ret (v:= .agg #[.int .i64 n.outer.1,.int .i64 n.outer.2,.bool false]) (by simp[results,Tryz.results152,go_sem,r0,r1,r2,t0,t1,hne1,hne2,hd10]) rfl ⟨rfl,?_⟩
  exact setCell3 ((HB2.out.setCell (p:=⟨w1.heap.size,0,none⟩) (by exact Nat.le_of_lt hs0) _).setCell (p:=⟨w1.heap.size,1,none⟩) (by exact Nat.le_of_lt hs0) _) _ (by simp) _ _ _
 ·have e0:(n.mode==0)=false:=by simp[hm]
  have HE:Hid (n.ownT=(0,own n.kind)):=by
   show n.ownT=(0,own n.kind)
   unfold Nd.ownT
   rw[if_neg (fun r=>hm r.1)]
  obtain⟨rfl,rfl⟩:T1=0∧T2=own n.kind:=by have:=HE.out;rw[HT.out]at this;injection this with a b;exact⟨a,b⟩
  clear hm
  go_wp2
  refine bodyPost_ret (v:= .agg #[.int .i64 0,.int .i64 (own n.kind),.bool false]) (by simp[results,Tryz.results152,go_sem,q0,q1,q2,hs1,hd10]) rfl ⟨rfl,?_⟩
  first
   |exact(setCell3 HB.out _ (by simp) _ _ _).alloc (setCell3 HB.out _ (by simp) _ _ _).size _
   |exact setCell3 (HB.out.alloc HB.out.size _) _ (by simp) _ _ _
def Nd.lays(n:Nd):List (Int×Int×Bool):=if n.mode=1 then [(2,n.tag,true),(n.ownT.1,n.ownT.2,false)]else [(n.ownT.1,n.ownT.2,false)]
def lcells(l:List (Int×Int×Bool)):List Value:=l.flatMap fun t=> [.int .i64 t.1,.int .i64 t.2.1,.bool t.2.2]
theorem layers_any(n:Nd)(ka:Option Addr)(kc:Nat)(w:World)(hn:Nums w)(ht: -1≤n.tag)(hk:0≤n.kind)(hk':n.kind≤9)(hm1:n.mode=1→0≤n.tag):
 Calls Tryz.prog 172 #[.agg #[.int .i64 n.kind,.int .i64 n.tag,.int .i64 n.mode,.slice ka n.kids.length kc]] w fun e w'=>∃g,e= .returned (.slice (some ⟨g,0,none⟩) n.lays.length n.lays.length)∧(∃T,w'.heap[g]? =some (.cells (lcells n.lays).toArray T (0,0)))∧Below w.heap.size w w':=by
 have HO:Hid (∀wq,Below w.heap.size w wq→Calls Tryz.prog 152 #[.agg #[.int .i64 n.kind,.int .i64 n.tag,.int .i64 n.mode,.slice ka n.kids.length kc]] wq fun e w'=>e= .returned (.agg #[.int .i64 n.ownT.1,.int .i64 n.ownT.2,.bool false])∧Below wq.heap.size wq w'):=fun wq q=>own_first n ka kc wq (hn.below q) ht hk hk'
 by_cases hm:n.mode=1
 ·have HA:Hid (∀wq,Below w.heap.size w wq→Calls Tryz.prog 110 #[.agg #[.int .i64 n.kind,.int .i64 n.tag,.int .i64 n.mode,.slice ka n.kids.length kc]] wq fun e w'=>e= .returned (.tuple #[.agg #[.int .i64 2,.int .i64 n.tag,.bool true],.bool true])∧Below wq.heap.size wq w'):=fun wq q=>around_yes n ka kc wq hm (hn.below q) (hm1 hm) hk
  have e:n.lays=[(2,n.tag,true),(n.ownT.1,n.ownT.2,false)]:=by unfold Nd.lays;rw[if_pos hm]
  rw[e]
  have RUN:Hid (∀args w,(callFunc 152 args).run Tryz.prog w= .ok (.enter 152 args) w):=fun args w=>run_enter Tryz.func152 (by kernel_rfl) (by rfl) args w
  clear hm hn hm1 e
  go_enter Tryz.func172,Tryz.ntmps172
  go_wp2_with fail
  refine(HA.out _ ((Below.refl _ _).alloc (Nat.le_refl _) _)).mono ?_
  rintro e w1 ⟨rfl,hb1⟩
  have HB1:Hid (Below w.heap.size w w1):=below_alloc hb1
  have hG:=block_below (heap_alloc_new w (.cells #[.int .i64 n.kind,.int .i64 n.tag,.int .i64 n.mode,.slice ka n.kids.length kc] 58)) hb1
  have hs1:=lt_of_block hG
  have p0:w1.cell? ⟨w.heap.size,0,none⟩=some (.int .i64 n.kind):=by simp[World.cell?,hG]
  have p1:w1.cell? ⟨w.heap.size,1,none⟩=some (.int .i64 n.tag):=by simp[World.cell?,hG]
  have p2:w1.cell? ⟨w.heap.size,2,none⟩=some (.int .i64 n.mode):=by simp[World.cell?,hG]
  have p3:w1.cell? ⟨w.heap.size,3,none⟩=some (.slice ka n.kids.length kc):=by simp[World.cell?,hG]
  have HB2:Hid (∀o,Below w.heap.size w (w1.alloc o).drew):=fun o=>(HB1.out.alloc HB1.out.size o).drew
  clear hb1 hG
  go_wp2_with fail
  go_region_law (refine step_calls rfl 152 _ _ rfl #[.agg #[.int .i64 n.kind,.int .i64 n.tag,.int .i64 n.mode,.slice ka n.kids.length kc]] (by simp[Act.eval,Act.put]) (.agg #[.int .i64 n.ownT.1,.int .i64 n.ownT.2,.bool false]) (fun w''=>Below ((w1.alloc (.cells #[.int .i64 2,.int .i64 n.tag,.bool true] 149)).drew).heap.size ((w1.alloc (.cells #[.int .i64 2,.int .i64 n.tag,.bool true] 149)).drew) w'') (RUN.out _ _) (HO.out _ (HB2.out _)) ?_;intro w5 hb5;have HB5:=(HB2.out _).trans (hb5.mono (HB2.out _).size);have hF:=block_below (heap_alloc_new w1.drew (.cells #[.int .i64 2,.int .i64 n.tag,.bool true] 149)) hb5;have t0:w5.cell? ⟨w1.heap.size,0,none⟩=some (.int .i64 2):=(by simp[World.cell?]at hF ⊢;simp[hF]);have t1:w5.cell? ⟨w1.heap.size,1,none⟩=some (.int .i64 n.tag):=(by simp[World.cell?]at hF ⊢;simp[hF]);have t2:w5.cell? ⟨w1.heap.size,2,none⟩=some (.bool true):=(by simp[World.cell?]at hF ⊢;simp[hF]);clear hb5 hF)
  all_goals
   have HB6:Hid (Below w.heap.size w w5):=HB5
   clear HB5
   go_wp2
   go_ret
   exact⟨w5.heap.size,rfl,⟨_,heap_alloc_new w5 _⟩,HB6.out.alloc HB6.out.size _⟩
 ·have HA:Hid (∀wq,Calls Tryz.prog 110 #[.agg #[.int .i64 n.kind,.int .i64 n.tag,.int .i64 n.mode,.slice ka n.kids.length kc]] wq fun e w'=>e= .returned (.tuple #[.agg #[.int .i64 0,.int .i64 0,.bool false],.bool false])∧Below wq.heap.size wq w'):=fun wq=>around_no n ka kc wq hm
  have e:n.lays=[(n.ownT.1,n.ownT.2,false)]:=by unfold Nd.lays;rw[if_neg hm]
  rw[e]
  clear hm hn hm1 e
  go_enter Tryz.func172,Tryz.ntmps172
  go_wp2_with fail
  refine(HA.out _).mono ?_
  rintro e w1 ⟨rfl,hb1⟩
  have HB1:Hid (Below w.heap.size w w1):=below_alloc hb1
  have hG:=block_below (heap_alloc_new w (.cells #[.int .i64 n.kind,.int .i64 n.tag,.int .i64 n.mode,.slice ka n.kids.length kc] 58)) hb1
  have hs1:=lt_of_block hG
  have p0:w1.cell? ⟨w.heap.size,0,none⟩=some (.int .i64 n.kind):=by simp[World.cell?,hG]
  have p1:w1.cell? ⟨w.heap.size,1,none⟩=some (.int .i64 n.tag):=by simp[World.cell?,hG]
  have p2:w1.cell? ⟨w.heap.size,2,none⟩=some (.int .i64 n.mode):=by simp[World.cell?,hG]
  have p3:w1.cell? ⟨w.heap.size,3,none⟩=some (.slice ka n.kids.length kc):=by simp[World.cell?,hG]
  clear hb1 hG
  go_wp2_with fail
  refine(HO.out _ (HB1.out.alloc HB1.out.size _)).mono ?_
  rintro e w2 ⟨rfl,hb2⟩
  have HB2:Hid (Below w.heap.size w w2):=HB1.out.trans ((below_alloc hb2).mono HB1.out.size)
  clear hb2
  go_wp2
  go_ret
  exact⟨w2.heap.size,rfl,⟨_,heap_alloc_new w2 _⟩,HB2.out.alloc HB2.out.size _⟩
end Go.Proofs.YtkkicodfpekbgaaGreatDoor
