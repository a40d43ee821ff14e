/-
Several texts in one.
-/
import Derived.Test.YtkkicodfpekbgaaGreatDoorRows
import Derived.WalkKit
import Derived.Laws.BitsLemmas
import Derived.Lib.Strings
import Derived.WalkSpells
import Derived.WalkLawsBesides
import Derived.BigQuiet
import Derived.Deep.QuietTactic
import Derived.Deep.AppendLies
import Derived.Lib.Bytealg
import Derived.Lib.ValidLaws
import Derived.Deep.RegionWith
namespace Go.Proofs.YtkkicodfpekbgaaGreatDoor
set_option linter.unusedSimpArgs false
set_option linter.unusedVariables false
set_option maxRecDepth 100000
set_option maxHeartbeats 8000000
structure Kd where
 node:Int
 opt:Bool
 dflt:ByteArray
structure Nd where
 kind:Int
 tag:Int
 mode:Int
 kids:List Kd
def nd0:Nd:=⟨0,0,0,[]⟩
def kd0:Kd:=⟨0,false,⟨#[]⟩⟩
def nd(s:List Nd)(i:Nat):Nd:=s.getD i nd0
def Nd.opn(n:Nd):Prop:=n.kind=13∧n.tag<0
def Nd.opnB(n:Nd):Bool:=decide (n.kind=13)&&decide (n.tag<0)
theorem Nd.opnB_iff(n:Nd):n.opnB=true↔n.opn:=by simp[Nd.opnB,Nd.opn]
theorem Nd.opnB_yes{n:Nd}(h:n.opn):n.opnB=true:=n.opnB_iff.2 h
theorem Nd.opnB_no{n:Nd}(h:¬n.opn):n.opnB=false:=Bool.eq_false_iff.2 fun q=>h (n.opnB_iff.1 q)
def Rch(s:List Nd)(i j:Nat):Prop:=∀P:Nat→Prop,P i→(∀(m:Nat) (k:Kd),P m→(nd s m).opn→k∈(nd s m).kids→P k.node.toNat)→P j
theorem Rch.refl{s:List Nd}{i:Nat}:Rch s i i:=fun _ h _=>h
theorem Rch.step{s:List Nd}{i j:Nat}{k:Kd}(h:Rch s i j)(ho:(nd s j).opn)(hk:k∈(nd s j).kids):Rch s i k.node.toNat:=fun P h0 hs=>hs j k (h P h0 hs) ho hk
theorem Rch.ind{s:List Nd}{i:Nat}{P:Nat→Prop}(h0:P i)(hs:∀(m:Nat) (k:Kd),Rch s i m→(nd s m).opn→k∈(nd s m).kids→P m→P k.node.toNat){j:Nat}(h:Rch s i j):P j:=
 (h (fun j=>Rch s i j∧P j) ⟨.refl,h0⟩ fun m k q ho hk=>⟨q.1.step ho hk,hs m k q.1 ho hk q.2⟩).2
def Back(s:List Nd)(i:Nat):Prop:=∃j,Rch s i j∧(nd s j).opn∧∃k∈(nd s j).kids,k.node=i
def Leaf(s:List Nd)(i j:Nat):Prop:=Rch s i j∧¬(nd s j).opn
def Within(s:List Nd):Prop:=∀i,i<s.length→∀k∈(nd s i).kids,0≤k.node∧k.node<s.length
theorem Rch.lt{s:List Nd}(hw:Within s){i j:Nat}(hi:i<s.length)(h:Rch s i j):j<s.length:=by
 refine Rch.ind (P:=fun j=>j<s.length) hi (fun m k _ _ hk ih=>?_) h
 have:=hw _ ih _ hk;omega
theorem Rch.trans{s:List Nd}{i j k:Nat}(h1:Rch s i j)(h2:Rch s j k):Rch s i k:=by
 exact Rch.ind (P:=fun k=>Rch s i k) h1 (fun _ _ _ ho hk ih=>ih.step ho hk) h2
theorem nodup_le:∀(n:Nat) (l:List Nat),l.Nodup→(∀x∈l,x<n)→l.length≤n
 |0,[],_,_=>Nat.le_refl _
 |0,x::_,_,h=>absurd (h x (by simp)) (by omega)
 |n+1,l,hd,h=>by
  have h2:=nodup_le n (l.erase n) (hd.erase n) (fun x hx=>by
   have h3:=h x (List.mem_of_mem_erase hx)
   have h4:x≠n:=fun e=>by subst e;exact hd.not_mem_erase hx
   omega)
  have h5:=List.length_erase (a:=n) (l:=l)
  split at h5<;>omega
theorem leaf_ex{s:List Nd}(hw:Within s)(hk:∀i,i<s.length→(nd s i).opn→(nd s i).kids≠ [])(hb:∀i,i<s.length→¬Back s i){i:Nat}(hi:i<s.length):
 ∃j,Leaf s i j:=by
 apply Classical.byContradiction
 intro hno
 have ho:∀j,Rch s i j→(nd s j).opn:=fun j hj=>Classical.byContradiction fun h=>hno ⟨j,hj,h⟩
 have key:∀n:Nat,∃l:List Nat,l.length=n+1∧l.Nodup∧(∀x∈l,Rch s i x)∧(∃c r,l=c::r∧∀x∈l,Rch s x c):=by
  intro n
  induction n with
  |zero=>exact⟨[i],rfl,by simp,by simp[Rch.refl],i,[],rfl,by simp[Rch.refl]⟩
  |succ n ih=>
   obtain⟨l,hl,hd,hr,c,r,hc,hx⟩:=ih
   have hrc:Rch s i c:=hr c (by simp[hc])
   have hcl:=hrc.lt hw hi
   obtain⟨k,ks,hks⟩:=List.exists_cons_of_ne_nil (hk c hcl (ho c hrc))
   have hkm:k∈(nd s c).kids:=by simp[hks]
   have hkr:=hw c hcl k hkm
   have hst:∀x∈l,Rch s x k.node.toNat:=fun x h=> .step (hx x h) (ho c hrc) hkm
   refine⟨k.node.toNat::l,by simp[hl],?_,?_,k.node.toNat,l,rfl,?_⟩
   ·rw[List.nodup_cons]
    refine⟨fun hm=>?_,hd⟩
    have hlt:k.node.toNat<s.length:=by omega
    exact hb _ hlt ⟨c,hx _ hm,ho c hrc,k,hkm,by omega⟩
   ·intro x h
    rcases List.mem_cons.1 h with rfl|h
    ·exact .step hrc (ho c hrc) hkm
    ·exact hr x h
   ·intro x h
    rcases List.mem_cons.1 h with rfl|h
    ·exact .refl
    ·exact hst x h
 obtain⟨l,hl,hd,hr,_⟩:=key s.length
 have:=nodup_le s.length l hd (fun x h=>(hr x h).lt hw hi)
 omega
def own(k:Int):Int:=[0,1,2,5,6,3,4,12,19,24,16,16,17].getD k.toNat 0
def begAt(n:Nd)(c m:Int):Prop:=(0≤n.tag∧c=2∧m=n.tag)∨(n.tag<0∧n.kind=14)∨(n.tag<0∧n.kind≠14∧c=0∧m=own n.kind)
def Beg(s:List Nd)(i:Nat)(c m:Int):Prop:=∃j,Leaf s i j∧begAt (nd s j) c m
def Common(s:List Nd)(i k:Nat):Prop:=∃c m:Int,0≤c∧c<4∧0≤m∧m<31∧Beg s i c m∧Beg s k c m
def Nd.every(n:Nd):Prop:=n.kind=14∧n.tag<0
def Nd.everyB(n:Nd):Bool:=decide (n.kind=14)&&decide (n.tag<0)
theorem Nd.everyB_iff(n:Nd):n.everyB=true↔n.every:=by simp[Nd.everyB,Nd.every]
theorem Nd.everyB_yes{n:Nd}(h:n.every):n.everyB=true:=n.everyB_iff.2 h
theorem Nd.everyB_no{n:Nd}(h:¬n.every):n.everyB=false:=Bool.eq_false_iff.2 fun q=>h (n.everyB_iff.1 q)
def Nd.outer(n:Nd):Int×Int:=if 0≤n.tag then(2,n.tag)else(0,own n.kind)
theorem begAt_iff(n:Nd)(c m:Int):begAt n c m↔n.every∨(¬n.every∧n.outer=(c,m)):=by
 unfold begAt Nd.every Nd.outer
 by_cases h:0≤n.tag
 ·rw[if_pos h,Prod.mk.injEq]
  constructor
  ·rintro(⟨_,a,b⟩|⟨a,_⟩|⟨a,_⟩)
   ·exact .inr ⟨fun q=>by omega,a.symm,b.symm⟩
   ·omega
   ·omega
  ·rintro(⟨_,a⟩|⟨_,a,b⟩)
   ·omega
   ·exact .inl ⟨h,a.symm,b.symm⟩
 ·rw[if_neg h,Prod.mk.injEq]
  constructor
  ·rintro(⟨a,_⟩|⟨a,b⟩|⟨a,b,e,f⟩)
   ·omega
   ·exact .inl ⟨b,a⟩
   ·exact .inr ⟨fun q=>b q.1,e.symm,f.symm⟩
  ·rintro(⟨a,b⟩|⟨a,b,e⟩)
   ·exact .inr (.inl ⟨b,a⟩)
   ·exact .inr (.inr ⟨by omega,fun q=>a ⟨q,by omega⟩,b.symm,e.symm⟩)
theorem own_range(k:Int):0≤own k∧own k<31:=by
 unfold own
 match k.toNat with
 |0|1|2|3|4|5|6|7|8|9|10|11|12=>decide
 |n+13=>simp
def Meets(s:List Nd)(i k:Nat):Prop:=
 (∃j,Leaf s i j∧(nd s j).every)∨(∃j,Leaf s k j∧(nd s j).every)∨∃j l,Leaf s i j∧¬(nd s j).every∧Leaf s k l∧¬(nd s l).every∧(nd s j).outer=(nd s l).outer
theorem outer_range{n:Nd}(h:n.tag≤30):0≤n.outer.1∧n.outer.1<4∧0≤n.outer.2∧n.outer.2<31:=by
 have:=own_range n.kind
 unfold Nd.outer
 split<;>simp only<;>omega
theorem common_iff{s:List Nd}(ht:∀j,j<s.length→(nd s j).tag≤30)(hw:Within s){i k:Nat}(hi:i<s.length)(hk:k<s.length)
 (hli:∃j,Leaf s i j)(hlk:∃j,Leaf s k j):Common s i k↔Meets s i k:=by
 constructor
 ·rintro⟨c,m,_,_,_,_,⟨j,hj,hbj⟩,⟨l,hl,hbl⟩⟩
  rw[begAt_iff]at hbj hbl
  rcases hbj with e|⟨e,ej⟩
  ·exact .inl ⟨j,hj,e⟩
  rcases hbl with f|⟨f,fl⟩
  ·exact .inr (.inl ⟨l,hl,f⟩)
  ·exact .inr (.inr ⟨j,l,hj,e,hl,f,ej.trans fl.symm⟩)
 ·have pick:∀{a:Nat},a<s.length→(∃j,Leaf s a j)→∀{b:Nat},(∃j,Leaf s b j∧(nd s j).every)→∃c m:Int,0≤c∧c<4∧0≤m∧m<31∧Beg s a c m∧Beg s b c m:=by
   rintro a ha ⟨l,hl⟩ b ⟨j,hj,e⟩
   have hr:=outer_range (ht l (hl.1.lt hw ha))
   refine⟨(nd s l).outer.1,(nd s l).outer.2,hr.1,hr.2.1,hr.2.2.1,hr.2.2.2,⟨l,hl,?_⟩,⟨j,hj,(begAt_iff _ _ _).2 (.inl e)⟩⟩
   rw[begAt_iff]
   by_cases h:(nd s l).every
   ·exact .inl h
   ·exact .inr ⟨h,rfl⟩
  rintro(h|h|⟨j,l,hj,e,hl,f,hjl⟩)
  ·obtain⟨c,m,h1,h2,h3,h4,h5,h6⟩:=pick hk hlk h
   exact⟨c,m,h1,h2,h3,h4,h6,h5⟩
  ·exact pick hi hli h
  ·have hr:=outer_range (ht j (hj.1.lt hw hi))
   exact⟨(nd s j).outer.1,(nd s j).outer.2,hr.1,hr.2.1,hr.2.2.1,hr.2.2.2,⟨j,hj,(begAt_iff _ _ _).2 (.inr ⟨e,rfl⟩)⟩,⟨l,hl,(begAt_iff _ _ _).2 (.inr ⟨f,hjl.symm⟩)⟩⟩
theorem emp_t{t:ByteArray}(h:t.size=0):t.toList.isEmpty=true:=by
 rw[Lib.toList_data]
 have:t.data.toList.length=0:=by rw[Array.length_toList];exact h
 cases hl:t.data.toList with
 |nil=>rfl
 |cons a l=>rw[hl]at this;simp at this
theorem emp_f{t:ByteArray}(h:0<t.size):t.toList.isEmpty=false:=by
 rw[Lib.toList_data]
 have h2:t.data.toList.length=t.size:=by rw[Array.length_toList];rfl
 cases hl:t.data.toList with
 |nil=>rw[hl]at h2;simp at h2;omega
 |cons a l=>rfl
def b8(t:ByteArray)(i:Nat):Int:=((t.data.toList.getD i 0).toNat:Int)
theorem b8_get(t:ByteArray)(i:Nat)(h:i<t.size):(t[i].toNat:Int)=b8 t i:=by
 unfold b8
 have hl:i<t.data.toList.length:=by rw[Array.length_toList];exact h
 rw[List.getD_eq_getElem?_getD,List.getElem?_eq_getElem hl]
 rfl
theorem b8_bd(t:ByteArray)(i:Nat):0≤b8 t i∧b8 t i<256:=by
 unfold b8
 have:=(t.data.toList.getD i 0).toNat_lt
 omega
theorem b8_extract(t:ByteArray)(a i:Nat)(_h:a≤t.size):b8 (t.extract a t.size) i=b8 t (a+i):=by
 unfold b8
 rw[Lib.extract_data]
 have e:(t.data.toList.drop a).take (t.size-a)=t.data.toList.drop a:=by
  apply List.take_of_length_le
  rw[List.length_drop,Array.length_toList];exact Nat.le_refl _
 first
  |(rw[e];simp[List.getD_eq_getElem?_getD])
  |(simp[List.getD_eq_getElem?_getD];done)
def numTo(t:ByteArray):Nat→Int
 |0=>0
 |k+1=>numTo t k*256+b8 t (k+1)
theorem numTo_bd(t:ByteArray):∀k:Nat,0≤numTo t k∧(k≤3→numTo t k<16777216)∧(k≤2→numTo t k<65536)∧(k≤1→numTo t k<256)
 |0=>by simp[numTo]
 |k+1=>by
  have ih:=numTo_bd t k
  have hb:=b8_bd t (k+1)
  simp only[numTo]
  refine⟨by omega,fun h=>?_,fun h=>?_,fun h=>?_⟩
  ·have:=ih.2.2.1 (by omega);omega
  ·have:=ih.2.2.2 (by omega);omega
  ·have:k=0:=by omega
   subst this
   simp only[numTo];omega
def cnt(n:Int):Int:=if n<128 then 0 else if n<256 then 1 else if n<65536 then 2 else 3
theorem cnt_cases(n:Int):(n<128∧cnt n=0)∨(128≤n∧n<256∧cnt n=1)∨(256≤n∧n<65536∧cnt n=2)∨(65536≤n∧cnt n=3):=by
 unfold cnt
 repeat' split
 all_goals omega
theorem wraps_i64(n:Int)(h₀:0≤n)(h₁:n<2^63):IntKind.i64.wrap n=n:=by rw[IntKind.wrap_i64];omega
theorem i64_or8(x y:Int)(h0:0≤x)(h1:x<4611686018427387904)(hx:x%256=0)(h2:0≤y)(h3:y<256):bits .or .i64 x y=x+y:=
 bits_join .i64 63 (by decide) wraps_i64 8 x y h0 hx (by omega) h2 h3 (by omega)
theorem i64_or6(x y:Int)(h0:0≤x)(h1:x<4611686018427387904)(hx:x%64=0)(h2:0≤y)(h3:y<64):bits .or .i64 x y=x+y:=
 bits_join .i64 63 (by decide) wraps_i64 6 x y h0 hx (by omega) h2 h3 (by omega)
theorem i64_and31(x:Int)(h0:0≤x)(h1:x<256):bits .and .i64 x 31=x%32:=bits_mask .i64 63 (by decide) wraps_i64 5 (by decide) x h0 (by omega)
theorem i64_and32(x:Int)(h0:0≤x)(h1:x<256):(bits .and .i64 x 32!=0)=(x/32%2==1):=by
 have all:∀j:Fin 256,(bits .and .i64 ((j.val:Nat):Int) 32!=0)=(((j.val:Nat):Int)/32%2==1):=by decide+kernel
 obtain⟨a,rfl⟩:=Int.eq_ofNat_of_zero_le h0
 exact all ⟨a,by omega⟩
theorem i64_or32(c n:Int)(h0:0≤c)(h1:c≤3)(h2:0≤n)(h3:n≤30):bits .or .i64 (c*64+n) 32=c*64+n+32:=by
 have all:∀j:Fin 4,∀k:Fin 31,bits .or .i64 (((j.val:Nat):Int)*64+((k.val:Nat):Int)) 32=((j.val:Nat):Int)*64+((k.val:Nat):Int)+32:=by decide+kernel
 obtain⟨a,rfl⟩:=Int.eq_ofNat_of_zero_le h0
 obtain⟨b,rfl⟩:=Int.eq_ofNat_of_zero_le h2
 exact all ⟨a,by omega⟩ ⟨b,by omega⟩
def rl(t:ByteArray):Int×Int×Int:=
 if t.size=0 then(3,0,0)
 else if b8 t 0<128 then(0,1,b8 t 0)
 else if b8 t 0=128∨131<b8 t 0 then(5,0,0)
 else if(t.size:Int)≤b8 t 0-128 then(3,0,0)
 else if b8 t 0-128≠cnt (numTo t (b8 t 0-128).toNat)then(5,0,0)
 else(0,1+(b8 t 0-128),numTo t (b8 t 0-128).toNat)
structure Hd where
 c:Int
 b:Bool
 n:Int
 s:Int
 l:Int
def Hd.zero:Hd:=⟨0,false,0,0,0⟩
def hd(r:ByteArray):Int×Hd:=
 if r.size=0 then(3,.zero)
 else if b8 r 0%32=31 then(4,.zero)
 else if(rl (r.extract 1 r.size)).1≠0 then((rl (r.extract 1 r.size)).1,.zero)
 else if(r.size:Int)-((rl (r.extract 1 r.size)).2.1+1)<(rl (r.extract 1 r.size)).2.2 then(3,.zero)
 else(0,⟨b8 r 0/64,b8 r 0/32%2==1,b8 r 0%32,(rl (r.extract 1 r.size)).2.1+1,(rl (r.extract 1 r.size)).2.2⟩)
theorem rl_bd(t:ByteArray):((rl t).1=0∨(rl t).1=3∨(rl t).1=5)∧0≤(rl t).2.1∧(rl t).2.1≤4∧0≤(rl t).2.2∧(rl t).2.2<16777216:=by
 have hb:=b8_bd t 0
 unfold rl
 split
 ·simp
 split
 ·simp;omega
 split
 ·simp
 split
 ·simp
 split
 ·simp
 ·rename_i h1 h2 h3 h4 h5
  have hn:=numTo_bd t (b8 t 0-128).toNat
  have:=hn.2.1 (by omega)
  refine⟨.inl rfl,?_,?_,hn.1,this⟩ <;>simp only<;>omega
def tl(n:Int):List UInt8:=
 if n<128 then [UInt8.ofNat n.toNat]
 else if n<256 then [129,UInt8.ofNat n.toNat]
 else if n<65536 then [130,UInt8.ofNat (n/256).toNat,UInt8.ofNat (n%256).toNat]
 else [131,UInt8.ofNat (n/65536).toNat,UInt8.ofNat (n/256%256).toNat,UInt8.ofNat (n%256).toNat]
theorem tl_length(n:Int):((tl n).length:Int)=1+cnt n:=by
 unfold tl cnt
 split
 ·rfl
 split
 ·rfl
 split<;>rfl
def fb(h:Hd):Int:=if h.b then h.c*64+h.n+32 else h.c*64+h.n
def tsp(h:Hd):Int×List UInt8:=
 if h.c<0∨3<h.c∨h.n<0∨30<h.n then(4,[])
 else if h.l<0∨16777215<h.l then(5,[])
 else(0,UInt8.ofNat (fb h).toNat::tl h.l)
theorem tsp_code(h:Hd):(tsp h).1=0∨(tsp h).1=3∨(tsp h).1=4∨(tsp h).1=5:=by
 unfold tsp
 repeat' split
 all_goals simp
def bv(u:UInt8):Value:= .int .u8 u.toNat
theorem bv_of(x:Int)(h0:0≤x)(h1:x<256):bv (UInt8.ofNat x.toNat)= .int .u8 x:=by
 unfold bv
 have:(UInt8.ofNat x.toNat).toNat=x.toNat:=by rw[UInt8.toNat_ofNat'];omega
 rw[this,Int.toNat_of_nonneg h0]
end Go.Proofs.YtkkicodfpekbgaaGreatDoor
namespace Go.Proofs.YtkkicodfpekbgaaGreatDoor
open Go.RowKit
set_option linter.unusedSimpArgs false
set_option linter.unusedVariables false
set_option maxRecDepth 100000
set_option maxHeartbeats 8000000
structure KidCells(w:World)(b o:Nat)(k:Kd):Prop where
 node:w.cell? ⟨b,o,none⟩=some (.int .i64 k.node)
 opt:w.cell? ⟨b,o+1,none⟩=some (.bool k.opt)
 dflt:w.cell? ⟨b,o+2,none⟩=some (.string k.dflt)
structure NodeCells(w:World)(b o:Nat)(n:Nd)(ka:Option Addr)(kc:Nat):Prop where
 kind:w.cell? ⟨b,o,none⟩=some (.int .i64 n.kind)
 tag:w.cell? ⟨b,o+1,none⟩=some (.int .i64 n.tag)
 mode:w.cell? ⟨b,o+2,none⟩=some (.int .i64 n.mode)
 kids:w.cell? ⟨b,o+3,none⟩=some (.slice ka n.kids.length kc)
def KidsIn(w:World)(ka:Option Addr)(ks:List Kd):Prop:=∀j,j<ks.length→∃b o,ka=some ⟨b,o,none⟩∧KidCells w b (o+j*3) (ks.getD j kd0)
def Sch(w:World)(a:Option Addr)(s:List Nd):Prop:=∀i,i<s.length→∃b o ka kc,a=some ⟨b,o,none⟩∧NodeCells w b (o+i*4) (nd s i) ka kc∧(nd s i).kids.length≤kc∧kc≤maxLen∧KidsIn w ka (nd s i).kids
def SchOk(s:List Nd):Prop:=∀i,i<s.length→∀k∈(nd s i).kids,k.dflt.size≤140737488351232
theorem lt_of_cell{w:World}{a:Addr}{v:Value}(h:w.cell? a=some v):a.block<w.heap.size:=by
 rcases Nat.lt_or_ge a.block w.heap.size with h'|h'
 ·exact h'
 ·simp[World.cell?,Array.getElem?_eq_none h']at h
theorem KidCells.below{w w':World}{b o:Nat}{k:Kd}(h:KidCells w b o k)(hb:Below w.heap.size w w'):KidCells w' b o k:=
 ⟨(hb.cell (lt_of_cell h.node)).trans h.node,(hb.cell (lt_of_cell h.opt)).trans h.opt,(hb.cell (lt_of_cell h.dflt)).trans h.dflt⟩
theorem NodeCells.below{w w':World}{b o:Nat}{n:Nd}{ka:Option Addr}{kc:Nat}(h:NodeCells w b o n ka kc)(hb:Below w.heap.size w w'):NodeCells w' b o n ka kc:=
 ⟨(hb.cell (lt_of_cell h.kind)).trans h.kind,(hb.cell (lt_of_cell h.tag)).trans h.tag,(hb.cell (lt_of_cell h.mode)).trans h.mode,(hb.cell (lt_of_cell h.kids)).trans h.kids⟩
theorem KidsIn.below{w w':World}{ka:Option Addr}{ks:List Kd}(h:KidsIn w ka ks)(hb:Below w.heap.size w w'):KidsIn w' ka ks:=fun j hj=>by
 obtain⟨b,o,e,hc⟩:=h j hj;exact⟨b,o,e,hc.below hb⟩
theorem Sch.below{w w':World}{a:Option Addr}{s:List Nd}(h:Sch w a s)(hb:Below w.heap.size w w'):Sch w' a s:=fun i hi=>by
 obtain⟨b,o,ka,kc,e,hc,h1,h2,hk⟩:=h i hi;exact⟨b,o,ka,kc,e,hc.below hb,h1,h2,hk.below hb⟩
def nodeV(n:Nd)(ka:Option Addr)(kc:Nat):Value:= .agg #[.int .i64 n.kind,.int .i64 n.tag,.int .i64 n.mode,.slice ka n.kids.length kc]
def kidV(k:Kd):Value:= .agg #[.int .i64 k.node,.bool k.opt,.string k.dflt]
def RetO(P:Prop)(w:World)(e:Ending)(w':World):Prop:=∃r,e= .returned (.bool r)∧(r=true↔P)∧Below w.heap.size w w'
theorem reto_no{P:Prop}{w w':World}(h:¬P)(hw:Below w.heap.size w w'):RetO P w (.returned (.bool false)) w':=⟨false,rfl,⟨fun e=>(by cases e),fun p=>absurd p h⟩,hw⟩
theorem reto_yes{P:Prop}{w w':World}(h:P)(hw:Below w.heap.size w w'):RetO P w (.returned (.bool true)) w':=⟨true,rfl,⟨fun _=>h,fun _=>rfl⟩,hw⟩
theorem reto_iff{P:Prop}{w w':World}{r:Bool}(h:r=true↔P)(hw:Below w.heap.size w w'):RetO P w (.returned (.bool r)) w':=⟨r,rfl,h,hw⟩
theorem open_any(n:Nd)(ka:Option Addr)(kc:Nat)(w:World):
 Calls Tryz.prog 67 #[nodeV n ka kc] w fun e w'=>RetO n.opn w e w':=by
 unfold nodeV
 by_cases h1:n.kind=13
 ·have h1':(n.kind==13)=true:=by simp[h1]
  by_cases h2:n.tag<0
  ·have HP:Hid n.opn:=⟨h1,h2⟩
   clear h1
   go_enter Tryz.func67,Tryz.ntmps67
   go_wp2
   go_ret
   exact reto_yes HP.out ((Below.refl _ _).alloc (Nat.le_refl _) _)
  ·have HP:Hid (¬n.opn):=fun h=>h2 h.2
   have h2':0≤n.tag:=by omega
   clear h1
   go_enter Tryz.func67,Tryz.ntmps67
   go_wp2
   go_ret
   exact reto_no HP.out ((Below.refl _ _).alloc (Nat.le_refl _) _)
 ·have h1':(n.kind==13)=false:=by simp[h1]
  have HP:Hid (¬n.opn):=fun h=>h1 h.1
  clear h1
  go_enter Tryz.func67,Tryz.ntmps67
  go_wp2
  go_ret
  exact reto_no HP.out ((Below.refl _ _).alloc (Nat.le_refl _) _)
theorem RetO.yes{P:Prop}{w w':World}{e:Ending}(h:RetO P w e w')(p:P):e= .returned (.bool true)∧Below w.heap.size w w':=by
 obtain⟨r,rfl,hr,hb⟩:=h;rw[hr.2 p];exact⟨rfl,hb⟩
theorem RetO.no{P:Prop}{w w':World}{e:Ending}(h:RetO P w e w')(p:¬P):e= .returned (.bool false)∧Below w.heap.size w w':=by
 obtain⟨r,rfl,hr,hb⟩:=h
 cases r
 ·exact⟨rfl,hb⟩
 ·exact absurd (hr.1 rfl) p
theorem open_yes(n:Nd)(ka:Option Addr)(kc:Nat)(w:World)(h:n.opn):
 Calls Tryz.prog 67 #[.agg #[.int .i64 n.kind,.int .i64 n.tag,.int .i64 n.mode,.slice ka n.kids.length kc]] w fun e w'=>e= .returned (.bool true)∧Below w.heap.size w w':=
 (open_any n ka kc w).mono fun _ _ q=>q.yes h
theorem open_no(n:Nd)(ka:Option Addr)(kc:Nat)(w:World)(h:¬n.opn):
 Calls Tryz.prog 67 #[.agg #[.int .i64 n.kind,.int .i64 n.tag,.int .i64 n.mode,.slice ka n.kids.length kc]] w fun e w'=>e= .returned (.bool false)∧Below w.heap.size w w':=
 (open_any n ka kc w).mono fun _ _ q=>q.no h
def Kd.must(k:Kd):Prop:=k.opt=false∧k.dflt.size=0
theorem must_any(k:Kd)(w:World):
 Calls Tryz.prog 66 #[kidV k] w fun e w'=>RetO k.must w e w':=by
 unfold kidV
 cases h:k.opt with
 |true=>
  have HP:Hid (¬k.must):=fun q=>by have:=q.1;rw[h]at this;cases this
  clear h
  go_enter Tryz.func66,Tryz.ntmps66
  go_wp2
  go_ret
  exact reto_no HP.out ((Below.refl _ _).alloc (Nat.le_refl _) _)
 |false=>
  have HO:Hid (k.opt=false):=h
  clear h
  by_cases h2:k.dflt.size=0
  ·have e:=emp_t h2
   have HP:Hid k.must:=⟨HO.out,h2⟩
   clear h2
   go_enter Tryz.func66,Tryz.ntmps66
   go_wp2
   go_ret
   exact reto_yes HP.out ((Below.refl _ _).alloc (Nat.le_refl _) _)
  ·have e:=emp_f (t:=k.dflt) (by omega)
   have HP:Hid (¬k.must):=fun q=>h2 q.2
   clear h2
   go_enter Tryz.func66,Tryz.ntmps66
   go_wp2
   go_ret
   exact reto_no HP.out ((Below.refl _ _).alloc (Nat.le_refl _) _)
end Go.Proofs.YtkkicodfpekbgaaGreatDoor
namespace Go.Proofs.YtkkicodfpekbgaaGreatDoor
set_option linter.unusedSimpArgs false
set_option linter.unusedVariables false
set_option maxRecDepth 100000
set_option maxHeartbeats 8000000
structure Lv(s:List Nd)(i:Nat)(done q:List Nat)(bk:Bool):Prop where
 pre:∃r,q=done++r
 mem:i∈q
 nodup:q.Nodup
 rch:∀x∈q,Rch s i x
 cl:∀x∈done,(nd s x).opn→∀k∈(nd s x).kids,k.node.toNat∈q
 back:bk=true↔∃x∈done,(nd s x).opn∧∃k∈(nd s x).kids,k.node=i
structure LvM(s:List Nd)(i:Nat)(done:List Nat)(x j:Nat)(q:List Nat)(bk:Bool):Prop where
 pre:∃r,q=done++x::r
 mem:i∈q
 nodup:q.Nodup
 rch:∀x∈q,Rch s i x
 cl:∀x∈done,(nd s x).opn→∀k∈(nd s x).kids,k.node.toNat∈q
 cl2:∀m,m<j→((nd s x).kids.getD m kd0).node.toNat∈q
 back:bk=true↔(∃x∈done,(nd s x).opn∧∃k∈(nd s x).kids,k.node=i)∨∃m,m<j∧((nd s x).kids.getD m kd0).node=i
def outs(s:List Nd)(l:List Nat):List Nat:=l.filter (fun j=> !(nd s j).opnB)
theorem Lv.start(s:List Nd)(i:Nat):Lv s i [] [i] false where
 pre:=⟨[i],rfl⟩
 mem:=by simp
 nodup:=by simp
 rch:=fun x hx=>by simp at hx;subst hx;exact .refl
 cl:=fun x hx=>by cases hx
 back:=by simp
theorem Lv.at{s:List Nd}{i:Nat}{done q:List Nat}{bk:Bool}(h:Lv s i done q bk)(hl:done.length<q.length):∃x r,q=done++x::r:=by
 obtain⟨r,e⟩:=h.pre
 cases r with
 |nil=>subst e;simp at hl
 |cons x r=>exact⟨x,r,e⟩
theorem Lv.le{s:List Nd}{i:Nat}{done q:List Nat}{bk:Bool}(h:Lv s i done q bk):done.length≤q.length:=by
 obtain⟨r,e⟩:=h.pre;subst e;simp
theorem Lv.len{s:List Nd}{i:Nat}{done q:List Nat}{bk:Bool}(h:Lv s i done q bk)(hw:Within s)(hi:i<s.length):q.length≤s.length:=
 nodup_le _ q h.nodup fun x hx=>(h.rch x hx).lt hw hi
theorem LvM.len{s:List Nd}{i:Nat}{done q:List Nat}{x j:Nat}{bk:Bool}(h:LvM s i done x j q bk)(hw:Within s)(hi:i<s.length):q.length≤s.length:=
 nodup_le _ q h.nodup fun x hx=>(h.rch x hx).lt hw hi
theorem Lv.leaf{s:List Nd}{i:Nat}{done q r:List Nat}{bk:Bool}{x:Nat}(h:Lv s i done q bk)(e:q=done++x::r)(ho:¬(nd s x).opn):Lv s i (done++[x]) q bk where
 pre:=⟨r,by simp[e]⟩
 mem:=h.mem
 nodup:=h.nodup
 rch:=h.rch
 cl:=fun y hy hyo=>by
  rcases List.mem_append.1 hy with hy|hy
  ·exact h.cl y hy hyo
  ·simp at hy;subst hy;exact absurd hyo ho
 back:=by
  rw[h.back]
  constructor
  ·rintro⟨y,hy,hr⟩;exact⟨y,by simp[hy],hr⟩
  ·rintro⟨y,hy,hyo,hr⟩
   rcases List.mem_append.1 hy with hy|hy
   ·exact⟨y,hy,hyo,hr⟩
   ·simp at hy;subst hy;exact absurd hyo ho
theorem outs_leaf{s:List Nd}{done:List Nat}{x:Nat}(ho:¬(nd s x).opn):outs s (done++[x])=outs s done++[x]:=by
 unfold outs;rw[List.filter_append];simp[Nd.opnB_no ho]
theorem outs_open{s:List Nd}{done:List Nat}{x:Nat}(ho:(nd s x).opn):outs s (done++[x])=outs s done:=by
 unfold outs;rw[List.filter_append];simp[Nd.opnB_yes ho]
theorem outs_le(s:List Nd)(l:List Nat):(outs s l).length≤l.length:=List.length_filter_le _ _
theorem Lv.mid{s:List Nd}{i:Nat}{done q r:List Nat}{bk:Bool}{x:Nat}(h:Lv s i done q bk)(e:q=done++x::r):LvM s i done x 0 q bk where
 pre:=⟨r,e⟩
 mem:=h.mem
 nodup:=h.nodup
 rch:=h.rch
 cl:=h.cl
 cl2:=fun m hm=>absurd hm (Nat.not_lt_zero _)
 back:=by rw[h.back];simp
theorem LvM.step_old{s:List Nd}{i:Nat}{done q:List Nat}{x j t:Nat}{bk:Bool}(h:LvM s i done x j q bk)(ht:((nd s x).kids.getD j kd0).node=t)(hm:t∈q):
 LvM s i done x (j+1) q (bk||decide ((t:Int)=i)) where
 pre:=h.pre
 mem:=h.mem
 nodup:=h.nodup
 rch:=h.rch
 cl:=h.cl
 cl2:=fun m hm'=>by
  by_cases e:m=j
  ·subst e;rw[ht];exact hm
  ·exact h.cl2 m (by omega)
 back:=by
  rw[Bool.or_eq_true,h.back,or_assoc,decide_eq_true_iff]
  refine or_congr Iff.rfl ⟨?_,?_⟩
  ·rintro(⟨m,h1,h2⟩|e)
   ·exact⟨m,by omega,h2⟩
   ·exact⟨j,by omega,ht.trans e⟩
  ·rintro⟨m,h1,h2⟩
   by_cases e:m=j
   ·subst e;exact .inr (ht.symm.trans h2)
   ·exact .inl ⟨m,by omega,h2⟩
theorem LvM.step_new{s:List Nd}{i:Nat}{done q:List Nat}{x j t:Nat}{bk:Bool}(h:LvM s i done x j q bk)(ht:((nd s x).kids.getD j kd0).node=t)(hj:j<(nd s x).kids.length)(ho:(nd s x).opn)(hm:t∉q):
 LvM s i done x (j+1) (q++[t]) (bk||decide ((t:Int)=i)):=by
 have hk:(nd s x).kids.getD j kd0∈(nd s x).kids:=by
  rw[List.getD_eq_getElem?_getD,List.getElem?_eq_getElem hj];exact List.getElem_mem hj
 have hx:Rch s i x:=by obtain⟨r,e⟩:=h.pre;exact h.rch x (by simp[e])
 have ht':((nd s x).kids.getD j kd0).node.toNat=t:=by rw[ht];rfl
 exact {
  pre:=by obtain⟨r,e⟩:=h.pre;exact⟨r++[t],by simp[e]⟩
  mem:=by simp[h.mem]
  nodup:=by rw[List.nodup_append];exact⟨h.nodup,by simp,fun a ha b hb=>by simp at hb;subst hb;intro e;subst e;exact hm ha⟩
  rch:=fun y hy=>by
   rcases List.mem_append.1 hy with hy|hy
   ·exact h.rch y hy
   ·simp at hy;subst hy;rw[←ht'];exact .step hx ho hk
  cl:=fun y hy hyo k hk=>List.mem_append_left _ (h.cl y hy hyo k hk)
  cl2:=fun m hm'=>by
   by_cases e:m=j
   ·subst e;rw[ht'];simp
   ·exact List.mem_append_left _ (h.cl2 m (by omega))
  back:=(by
   rw[Bool.or_eq_true,h.back,or_assoc,decide_eq_true_iff]
   refine or_congr Iff.rfl ⟨?_,?_⟩
   ·rintro(⟨m,h1,h2⟩|e)
    ·exact⟨m,by omega,h2⟩
    ·exact⟨j,by omega,ht.trans e⟩
   ·rintro⟨m,h1,h2⟩
    by_cases e:m=j
    ·subst e;exact .inr (ht.symm.trans h2)
    ·exact .inl ⟨m,by omega,h2⟩)}
theorem LvM.finish{s:List Nd}{i:Nat}{done q:List Nat}{x:Nat}{bk:Bool}(h:LvM s i done x (nd s x).kids.length q bk)(ho:(nd s x).opn):Lv s i (done++[x]) q bk:=by
 have hget:∀k∈(nd s x).kids,∃m,m<(nd s x).kids.length∧(nd s x).kids.getD m kd0=k:=fun k hk=>by
  obtain⟨m,hm,e⟩:=List.getElem_of_mem hk
  exact⟨m,hm,by rw[List.getD_eq_getElem?_getD,List.getElem?_eq_getElem hm];exact e⟩
 exact {
  pre:=by obtain⟨r,e⟩:=h.pre;exact⟨r,by simp[e]⟩
  mem:=h.mem
  nodup:=h.nodup
  rch:=h.rch
  cl:=fun y hy hyo k hk=>by
   rcases List.mem_append.1 hy with hy|hy
   ·exact h.cl y hy hyo k hk
   ·simp at hy;subst hy
    obtain⟨m,hm,e⟩:=hget k hk
    rw[←e];exact h.cl2 m hm
  back:=by
   rw[h.back]
   constructor
   ·rintro(⟨y,hy,hr⟩|⟨m,hm,e⟩)
    ·exact⟨y,by simp[hy],hr⟩
    ·exact⟨x,by simp,ho,_,by rw[List.getD_eq_getElem?_getD,List.getElem?_eq_getElem hm];exact List.getElem_mem hm,e⟩
   ·rintro⟨y,hy,hyo,k,hk,e⟩
    rcases List.mem_append.1 hy with hy|hy
    ·exact .inl ⟨y,hy,hyo,k,hk,e⟩
    ·simp at hy;subst hy
     obtain⟨m,hm,e'⟩:=hget k hk
     exact .inr ⟨m,hm,by rw[e'];exact e⟩}
theorem Lv.reached{s:List Nd}{i:Nat}{q:List Nat}{bk:Bool}(h:Lv s i q q bk){j:Nat}(hj:Rch s i j):j∈q:=by
 exact Rch.ind (P:=fun j=>j∈q) h.mem (fun _ _ _ ho hk ih=>h.cl _ ih ho _ hk) hj
theorem Lv.leaves{s:List Nd}{i:Nat}{q:List Nat}{bk:Bool}(h:Lv s i q q bk)(j:Nat):j∈outs s q↔Leaf s i j:=by
 unfold outs Leaf
 rw[List.mem_filter]
 simp only[Bool.not_eq_true',←Bool.not_eq_true,Nd.opnB_iff]
 exact and_congr ⟨fun hm=>h.rch j hm,fun hr=>h.reached hr⟩ Iff.rfl
theorem Lv.backs{s:List Nd}{i:Nat}{q:List Nat}{bk:Bool}(h:Lv s i q q bk):bk=true↔Back s i:=by
 rw[h.back]
 unfold Back
 constructor
 ·rintro⟨x,hx,ho,k,hk,e⟩;exact⟨x,h.rch x hx,ho,k,hk,e⟩
 ·rintro⟨x,hx,ho,k,hk,e⟩;exact⟨x,h.reached hx,ho,k,hk,e⟩
theorem Lv.done_eq{s:List Nd}{i:Nat}{done q:List Nat}{bk:Bool}(h:Lv s i done q bk)(hl:q.length≤done.length):done=q:=by
 obtain⟨r,e⟩:=h.pre
 subst e
 have:r=[]:=List.eq_nil_of_length_eq_zero (by simp at hl;omega)
 simp[this]
end Go.Proofs.YtkkicodfpekbgaaGreatDoor
namespace Go.Proofs.YtkkicodfpekbgaaGreatDoor
open Go.RowKit
set_option linter.unusedSimpArgs false
set_option linter.unusedVariables false
set_option maxRecDepth 100000
set_option maxHeartbeats 8000000
def ivs(l:List Nat):List Value:=l.map fun(j:Nat)=>Value.int .i64 (j:Int)
structure LvW(s:List Nd)(w wr:World)(i:Nat)(done q:List Nat)(gi ci:Nat)(vout:Value):Prop where
 inn:wr.ownsRow w.heap.size 3 1 (.slice (some ⟨gi,0,none⟩) q.length ci) q.length (ivs q)
 out:wr.ownsRow w.heap.size 3 1 vout (outs s done).length (ivs (outs s done))
 ap:vout.ownBlock≠some gi
 bel:Below w.heap.size w wr
theorem Tryz.infoInt:(Tryz.prog.info? 3).map (fun i=>(i.zero,i.size,i.bytes))=some (some (.int .i64 0),1,8):=by kernel_rfl
theorem ivs_get{l:List Nat}{j:Nat}(h:j<l.length):(ivs l)[j]? =some (.int .i64 ((l.getD j 0:Nat):Int)):=by
 unfold ivs;simp[h]
theorem own_cell{w:World}{base g n c:Nat}{l:List Nat}(h:w.ownsRow base 3 1 (.slice (some ⟨g,0,none⟩) n c) l.length (ivs l)){j:Nat}(hj:j<l.length):
 w.cell? ⟨g,j,none⟩=some (.int .i64 ((l.getD j 0:Nat):Int)):=by
 have:=h.cells (g:=g) rfl j _ (ivs_get hj)
 have e:(⟨g,0,none⟩:Addr).add j=⟨g,j,none⟩:=by unfold Addr.add;split<;>simp_all
 rwa[e]at this
theorem own_below{w w':World}{base:Nat}{e:TypeId}{size:Nat}{v:Value}{n:Nat}{xs:List Value}(h:w.ownsRow base e size v n xs)(hb:Below w.heap.size w w'):w'.ownsRow base e size v n xs:=by
 obtain⟨h1,h2⟩:=h
 refine⟨h1,?_⟩
 rcases h2 with h2|⟨g,cap,cur,rfl,h3,h4,h5⟩
 ·exact .inl h2
 ·refine .inr ⟨g,cap,cur,rfl,h3,?_,h5⟩
  have hlt:g<w.heap.size:=by
   rcases Nat.lt_or_ge g w.heap.size with h'|h'
   ·exact h'
   ·rw[Array.getElem?_eq_none h']at h4;cases h4
  exact(hb.block _ hlt).trans h4
theorem LvW.below{s:List Nd}{w wr w':World}{i:Nat}{done q:List Nat}{gi ci:Nat}{vout:Value}(h:LvW s w wr i done q gi ci vout)(hb:Below wr.heap.size wr w'):LvW s w w' i done q gi ci vout where
 inn:=own_below h.inn hb
 out:=own_below h.out hb
 ap:=h.ap
 bel:=h.bel.trans (hb.mono h.bel.size)
theorem below_alloc{w w':World}{o:Obj}(hb:Below (w.alloc o).heap.size (w.alloc o) w'):Below w.heap.size w w':=
 ((Below.refl w.heap.size w).alloc (Nat.le_refl _) o).trans (hb.mono (by simp))
theorem ivs_append(l:List Nat)(x:Nat):ivs (l++[x])=ivs l++[.int .i64 (x:Int)]:=by unfold ivs;simp
theorem LvW.put{s:List Nd}{w wr w':World}{i x:Nat}{done q:List Nat}{gi ci g cap:Nat}{vout:Value}{o:Obj}(h:LvW s w wr i done q gi ci vout)(ho:¬(nd s x).opn)
 (h1:w'.ownsRow w.heap.size 3 1 (.slice (some ⟨g,0,none⟩) ((outs s done).length+1) cap) ((outs s done).length+1) (ivs (outs s done)++[.int .i64 (x:Int)]))
 (h2:(wr.alloc o).grownBy w' vout.ownBlock)(h3:vout.ownBlock=some g∨g=wr.heap.size+1):LvW s w w' i (done++[x]) q gi ci (.slice (some ⟨g,0,none⟩) ((outs s done).length+1) cap):=by
 have hgi:gi<wr.heap.size:=(h.inn.lt gi rfl).2
 have hb:Below w.heap.size w (wr.alloc o):=h.bel.alloc h.bel.size o
 exact {
  inn:=(h.inn.alloc o).kept h2 (.inr (fun e=>h.ap e.symm))
  out:=by rw[outs_leaf ho,ivs_append,List.length_append];exact h1
  ap:=by
   intro e
   have e':g=gi:=by simpa [Value.ownBlock]using e
   rcases h3 with h3|h3
   ·exact h.ap (by rw[h3,e'])
   ·omega
  bel:=hb.grown h2 hb.size (fun k hk=>(h.out.lt k hk).1)}
theorem LvW.push{s:List Nd}{w wr w':World}{i t:Nat}{done q:List Nat}{gi ci g cap:Nat}{vout:Value}{o:Obj}(h:LvW s w wr i done q gi ci vout)
 (h1:w'.ownsRow w.heap.size 3 1 (.slice (some ⟨g,0,none⟩) (q.length+1) cap) (q.length+1) (ivs q++[.int .i64 (t:Int)]))
 (h2:(wr.alloc o).grownBy w' (some gi))(h3:some gi=some g∨g=wr.heap.size+1):LvW s w w' i done (q++[t]) g cap vout:=by
 have hb:Below w.heap.size w (wr.alloc o):=h.bel.alloc h.bel.size o
 exact {
  inn:=by rw[ivs_append,List.length_append];exact h1
  out:=(h.out.alloc o).kept h2 (.inr h.ap)
  ap:=by
   intro e
   rcases h3 with h3|h3
   ·exact h.ap (by rw[e,h3])
   ·have:=(h.out.lt g e).2;omega
  bel:=hb.grown h2 hb.size (fun k hk=>by have:=(h.inn.lt k hk).1;exact this)}
theorem LvW.beside{s:List Nd}{w wr w':World}{i:Nat}{done q:List Nat}{gi ci gn:Nat}{vout:Value}{A:Array Value}{T:TypeId}{o:Obj}(h:LvW s w wr i done q gi ci vout)(hT:T≠3)
 (hg:wr.heap[gn]? =some (.cells A T (0,0)))(h2:(wr.alloc o).grownBy w' (some gi)):w'.heap[gn]? =some (.cells A T (0,0)):=by
 have hlt:gn<wr.heap.size:=by
  rcases Nat.lt_or_ge gn wr.heap.size with h'|h'
  ·exact h'
  ·rw[Array.getElem?_eq_none h']at hg;cases hg
 have hne:gn≠gi:=by
  rintro rfl
  rcases h.inn.2 with⟨h',_⟩|⟨g,cap,cur,hv,_,hg',_⟩
  ·cases h'
  ·obtain rfl:g=gn:=by injection hv with h1 _ _;injection h1 with h1;injection h1 with h1 _ _;exact h1.symm
   rw[hg]at hg'
   injection hg' with hg'
   injection hg' with _ e _
   exact hT e
 have h3:=h2.block gn (by simp;omega) (fun e=>hne (by injection e))
 rw[h3,Below.heap_alloc wr o _ hlt,hg]
theorem block_below{w w':World}{k:Nat}{o:Obj}(h:w.heap[k]? =some o)(hb:Below w.heap.size w w'):w'.heap[k]? =some o:=by
 have hlt:k<w.heap.size:=by
  rcases Nat.lt_or_ge k w.heap.size with h'|h'
  ·exact h'
  ·rw[Array.getElem?_eq_none h']at h;cases h
 exact(hb.block _ hlt).trans h
theorem mem_take_succ{q:List Nat}{p t:Nat}(hp:p<q.length):t∈q.take (p+1)↔t∈q.take p∨q.getD p 0=t:=by
 rw[List.take_add_one,List.mem_append,List.getElem?_eq_getElem hp]
 simp[hp,eq_comm]
def SaysP(P:Prop)(v:Value):Prop:=∃q:Bool,v= .bool q∧(q=true↔P)
def RetL(s:List Nd)(i:Nat)(w:World)(e:Ending)(w':World):Prop:=
 ∃(v:Value) (l:List Nat) (bk:Bool),e= .returned (.tuple #[v,.bool bk])∧w'.ownsRow w.heap.size 3 1 v l.length (ivs l)∧Below w.heap.size w w'∧l.length≤s.length∧(∀j,j∈l↔Leaf s i j)∧(bk=true↔Back s i)
theorem leaves_any(s:List Nd)(a:Option Addr)(c i:Nat)(w:World)(hs:Sch w a s)(hw:Within s)(hi:i<s.length)(hn:s.length≤40):
 Calls Tryz.prog 37 #[.slice a s.length c,.int .i64 i] w fun e w'=>RetL s i w e w':=by
 have HS:Hid (Sch w a s):=hs
 have HW:Hid (Within s):=hw
 clear hs hw
 obtain⟨i0,hi0,hz0,hz1,hz2⟩:=info_parts Tryz.infoInt
 go_enter Tryz.func37,Tryz.ntmps37
 go_wp2
 go_loopw [6,7,8,9] (fun vin vbk vout vi wr=>∃done q gi ci bk,vin= .slice (some ⟨gi,0,none⟩) q.length ci∧vbk= .bool bk∧vi= .int .i64 (done.length:Nat)∧Lv s i done q bk∧LvW s w wr i done q gi ci vout)
  (fun _ _ _ vi _=>s.length-(intOf vi).toNat)
 case atStart=>
  exact⟨[],[i],w.heap.size,1,false,rfl,rfl,rfl,Lv.start s i,⟨⟨rfl,.inr ⟨w.heap.size,1,_,rfl,Nat.le_refl _,heap_alloc_new w _,Nat.le_refl _,by decide,rfl,rfl⟩⟩,World.ownsRow_nil _ _ _ _,by simp[Value.ownBlock],(Below.refl _ _).alloc (Nat.le_refl _) _⟩⟩
 case round=>
  obtain⟨done,q,gi,ci,bk,rfl,rfl,rfl,hL,hM⟩:=hrel
  have hlen:=hL.len HW.out hi
  have HL:Hid (Lv s i done q bk):=hL
  have HM:Hid (LvW s w wr i done q gi ci u8):=hM
  by_cases hlt:done.length<q.length
  ·obtain⟨x,r,hq⟩:=hL.at hlt
   have HQ:Hid (q=done++x::r):=hq
   have hx:q.getD done.length 0=x:=by simp[hq]
   have cin:=own_cell hM.inn hlt
   rw[hx]at cin
   have hxs:x<s.length:=(hL.rch x (by simp[hq])).lt HW.out hi
   obtain⟨b,o,ka,kc,rfl,nc,kl,km,ks⟩:=HS.out x hxs
   obtain⟨n1,n2,n3,n4⟩:=nc.below hM.bel
   have KS:Hid (KidsIn w ka (nd s x).kids):=ks
   have hlt':(done.length:Int)<q.length:=by omega
   have hxs':(x:Int)<s.length:=by omega
   clear hL hM hq hx ks nc
   by_cases ho:(nd s x).opn
   ·go_wp2_with fail
    refine(open_yes _ ka kc _ ho).mono ?_
    rintro e w2 ⟨rfl,hb2⟩
    have HM2:Hid (LvW s w w2 i done q gi ci u8):=HM.out.below (below_alloc hb2)
    have HG2:Hid (w2.heap[wr.heap.size]? =some (.cells #[.int .i64 (nd s x).kind,.int .i64 (nd s x).tag,.int .i64 (nd s x).mode,.slice ka (nd s x).kids.length kc] 58 (0,0))):=block_below (heap_alloc_new wr _) hb2
    have HLM:Hid (LvM s i done x 0 q bk):=HL.out.mid HQ.out
    obtain⟨gn,hgn⟩:∃gn,gn=wr.heap.size:=⟨_,rfl⟩
    rw[←hgn]at HG2
    clear hb2 cin n1 n2 n3 n4
    go_wp2
    rw[←hgn]
    clear hgn
    go_loopw [6,7,11] (fun vin vbk vj wx=>∃q' gi' ci' bk' j,vin= .slice (some ⟨gi',0,none⟩) q'.length ci'∧vbk= .bool bk'∧vj= .int .i64 (j:Nat)∧j≤(nd s x).kids.length∧LvM s i done x j q' bk'∧LvW s w wx i done q' gi' ci' u8∧
     Hid (wx.heap[gn]? =some (.cells #[.int .i64 (nd s x).kind,.int .i64 (nd s x).tag,.int .i64 (nd s x).mode,.slice ka (nd s x).kids.length kc] 58 (0,0))))
     (fun _ _ vj _=>(nd s x).kids.length-(intOf vj).toNat)
    case atStart=>exact⟨q,gi,ci,bk,0,rfl,rfl,rfl,Nat.zero_le _,HLM.out,HM2.out,HG2⟩
    case round=>
     clear HLM HM2 HG2
     obtain⟨q',gi',ci',bk',j,rfl,rfl,rfl,hj,hLM,hM2,HG⟩:=hrel
     have hlen':=hLM.len HW.out hi
     have g3:wr.cell? ⟨gn,3,none⟩=some (.slice ka (nd s x).kids.length kc):=by simp[World.cell?,HG.out]
     have HLM:Hid (LvM s i done x j q' bk'):=hLM
     have HM2:Hid (LvW s w wr i done q' gi' ci' u8):=hM2
     have hkm:(nd s x).kids.length≤9223372036854775807:=by unfold maxLen at km;omega
     by_cases hjl:j<(nd s x).kids.length
     ·obtain⟨kb,ko,rfl,kcl⟩:=KS.out j hjl
      have hkr:=HW.out x hxs ((nd s x).kids.getD j kd0) (by rw[List.getD_eq_getElem?_getD,List.getElem?_eq_getElem hjl];exact List.getElem_mem hjl)
      obtain⟨t,ht⟩:∃t:Nat,((nd s x).kids.getD j kd0).node=t:=⟨_,(Int.toNat_of_nonneg hkr.1).symm⟩
      have kn:=(kcl.below hM2.bel).node
      rw[ht]at kn hkr
      have HT:Hid (((nd s x).kids.getD j kd0).node=t):=ht
      have htl:t<s.length:=by omega
      have hjl':(j:Int)<(nd s x).kids.length:=by omega
      clear hLM hM2 kcl ht hkr
      obtain⟨bk2,hbk2⟩:∃b2,b2=(bk'||decide ((t:Int)=i)):=⟨_,rfl⟩
      have HBK:Hid (bk2=(bk'||decide ((t:Int)=i))):=hbk2
      have hcs:(bk'=true∧bk2=true)∨(bk'=false∧((t:Int)==i)=bk2):=by
       cases bk'
       ·right;exact⟨rfl,by rw[hbk2,Bool.false_or,Bool.eq_iff_iff];simp⟩
       ·left;exact⟨rfl,by rw[hbk2];simp⟩
      clear hbk2
      rcases hcs with⟨rfl,rfl⟩|⟨rfl,hti⟩
      ·go_wp2
       go_loop [13,14] (fun f m=>∃p:Nat,p≤q'.length∧m= .int .i64 p∧SaysP (t∉q'.take p) f) (fun _ m=>q'.length-(intOf m).toNat)
       case atStart=>exact⟨0,Nat.zero_le _,rfl,true,rfl,by simp⟩
       case round=>
        obtain⟨p,hp,rfl,fb,rfl,hf⟩:=hrel
        have HP:Hid (fb=true↔t∉q'.take p):=hf
        clear hf
        by_cases hpl:p<q'.length
        ·have cp:=own_cell HM2.out.inn hpl
         have hpl':(p:Int)<q'.length:=by omega
         cases fb
         ·go_wp2
          go_round
          case rel=>exact⟨p+1,by omega,by go_num,false,rfl,by
           have h:=HP.out
           rw[mem_take_succ hpl]
           refine⟨fun h=>(by cases h),fun h'=>?_⟩
           exact h.2 (fun q=>h' (.inl q))⟩
          case measure=>simp[intOf];omega
         ·by_cases hqt:q'.getD p 0=t
          ·have HQT:Hid (q'.getD p 0=t):=hqt
           rw[hqt]at cp
           clear hqt
           go_wp2
           go_round
           case rel=>exact⟨p+1,by omega,by go_num,false,rfl,by
            rw[mem_take_succ hpl]
            exact⟨fun h=>(by cases h),fun h'=>absurd (.inr HQT.out) h'⟩⟩
           case measure=>simp[intOf];omega
          ·have HQT:Hid (¬q'.getD p 0=t):=hqt
           generalize q'.getD p 0=y at cp hqt
           have e1:((y:Int)!=(t:Int))=true:=by rw[bne_iff_ne];omega
           clear hqt
           go_wp2
           go_round
           case rel=>exact⟨p+1,by omega,by go_num,true,rfl,by
            rw[mem_take_succ hpl]
            exact⟨fun _ h=>h.elim (HP.out.1 rfl) HQT.out,fun _=>rfl⟩⟩
           case measure=>simp[intOf];omega
        ·have hpl':(q'.length:Int)≤p:=by omega
         obtain rfl:p=q'.length:=by omega
         rw[List.take_length]at HP
         cases fb
         ·have hm:t∈q':=Classical.byContradiction fun h=>by have:=HP.out.2 h;cases this
          have HLM':Hid (LvM s i done x (j+1) q' true):=HBK.out▸HLM.out.step_old HT.out hm
          clear hm
          go_wp2
          go_roundw
          case rel=>exact⟨q',gi',ci',true,j+1,rfl,rfl,by go_num,by omega,HLM'.out,HM2.out,HG⟩
          case measure=>simp[intOf];omega
         ·have hm:t∉q':=HP.out.1 rfl
          have HLM':Hid (LvM s i done x (j+1) (q'++[t]) true):=HBK.out▸HLM.out.step_new HT.out hjl ho hm
          have hsz:w.heap.size≤wr.heap.size+1:=by have:=HM2.out.bel.size;omega
          clear hm
          go_wp2_with (at_builtin;refine wpList_append_lies _ rfl (.tmp 75) (.tmp 77) 32 rfl w.heap.size 3 i0 (.int .i64 0) 1 8 Tryz.underlying32 hi0 hz0 hz1 hz2 rfl (by decide) (.slice (some ⟨gi',0,none⟩) q'.length ci') q'.length (ivs q') rfl (HM2.out.inn.alloc _) ⟨wr.heap.size,0,none⟩ 1 1 [.int .i64 (t:Int)] rfl rfl (cell_one_new _ _ _) (by intro u hu;simp at hu;subst hu;rfl) (by decide) (by unfold maxLen;omega) (by omega) (by simpa using hsz) (wr.heap.size+1) (by simp) ?_)
          intro g cap w3 h1 h2 h3 h4
          have HM3:Hid (LvW s w w3 i done (q'++[t]) g cap u8):=HM2.out.push h1 h2 h3
          have HG3:Hid (w3.heap[gn]? =some (.cells #[.int .i64 (nd s x).kind,.int .i64 (nd s x).tag,.int .i64 (nd s x).mode,.slice (some ⟨kb,ko,none⟩) (nd s x).kids.length kc] 58 (0,0))):=HM2.out.beside (by decide) HG.out h2
          clear h1 h2 h3 h4
          go_wp2
          go_roundw
          case rel=>exact⟨q'++[t],g,cap,true,j+1,by simp,rfl,by go_num,by omega,HLM'.out,HM3.out,HG3⟩
          case measure=>simp[intOf];omega
      ·go_wp2
       go_loop [13,14] (fun f m=>∃p:Nat,p≤q'.length∧m= .int .i64 p∧SaysP (t∉q'.take p) f) (fun _ m=>q'.length-(intOf m).toNat)
       case atStart=>exact⟨0,Nat.zero_le _,rfl,true,rfl,by simp⟩
       case round=>
        obtain⟨p,hp,rfl,fb,rfl,hf⟩:=hrel
        have HP:Hid (fb=true↔t∉q'.take p):=hf
        clear hf
        by_cases hpl:p<q'.length
        ·have cp:=own_cell HM2.out.inn hpl
         have hpl':(p:Int)<q'.length:=by omega
         cases fb
         ·go_wp2
          go_round
          case rel=>exact⟨p+1,by omega,by go_num,false,rfl,by
           have h:=HP.out
           rw[mem_take_succ hpl]
           refine⟨fun h=>(by cases h),fun h'=>?_⟩
           exact h.2 (fun q=>h' (.inl q))⟩
          case measure=>simp[intOf];omega
         ·by_cases hqt:q'.getD p 0=t
          ·have HQT:Hid (q'.getD p 0=t):=hqt
           rw[hqt]at cp
           clear hqt
           go_wp2
           go_round
           case rel=>exact⟨p+1,by omega,by go_num,false,rfl,by
            rw[mem_take_succ hpl]
            exact⟨fun h=>(by cases h),fun h'=>absurd (.inr HQT.out) h'⟩⟩
           case measure=>simp[intOf];omega
          ·have HQT:Hid (¬q'.getD p 0=t):=hqt
           generalize q'.getD p 0=y at cp hqt
           have e1:((y:Int)!=(t:Int))=true:=by rw[bne_iff_ne];omega
           clear hqt
           go_wp2
           go_round
           case rel=>exact⟨p+1,by omega,by go_num,true,rfl,by
            rw[mem_take_succ hpl]
            exact⟨fun _ h=>h.elim (HP.out.1 rfl) HQT.out,fun _=>rfl⟩⟩
           case measure=>simp[intOf];omega
        ·have hpl':(q'.length:Int)≤p:=by omega
         obtain rfl:p=q'.length:=by omega
         rw[List.take_length]at HP
         cases fb
         ·have hm:t∈q':=Classical.byContradiction fun h=>by have:=HP.out.2 h;cases this
          have HLM':Hid (LvM s i done x (j+1) q' bk2):=HBK.out▸HLM.out.step_old HT.out hm
          clear hm
          go_wp2
          go_roundw
          case rel=>exact⟨q',gi',ci',bk2,j+1,rfl,rfl,by go_num,by omega,HLM'.out,HM2.out,HG⟩
          case measure=>simp[intOf];omega
         ·have hm:t∉q':=HP.out.1 rfl
          have HLM':Hid (LvM s i done x (j+1) (q'++[t]) bk2):=HBK.out▸HLM.out.step_new HT.out hjl ho hm
          have hsz:w.heap.size≤wr.heap.size+1:=by have:=HM2.out.bel.size;omega
          clear hm
          go_wp2_with (at_builtin;refine wpList_append_lies _ rfl (.tmp 75) (.tmp 77) 32 rfl w.heap.size 3 i0 (.int .i64 0) 1 8 Tryz.underlying32 hi0 hz0 hz1 hz2 rfl (by decide) (.slice (some ⟨gi',0,none⟩) q'.length ci') q'.length (ivs q') rfl (HM2.out.inn.alloc _) ⟨wr.heap.size,0,none⟩ 1 1 [.int .i64 (t:Int)] rfl rfl (cell_one_new _ _ _) (by intro u hu;simp at hu;subst hu;rfl) (by decide) (by unfold maxLen;omega) (by omega) (by simpa using hsz) (wr.heap.size+1) (by simp) ?_)
          intro g cap w3 h1 h2 h3 h4
          have HM3:Hid (LvW s w w3 i done (q'++[t]) g cap u8):=HM2.out.push h1 h2 h3
          have HG3:Hid (w3.heap[gn]? =some (.cells #[.int .i64 (nd s x).kind,.int .i64 (nd s x).tag,.int .i64 (nd s x).mode,.slice (some ⟨kb,ko,none⟩) (nd s x).kids.length kc] 58 (0,0))):=HM2.out.beside (by decide) HG.out h2
          clear h1 h2 h3 h4
          go_wp2
          go_roundw
          case rel=>exact⟨q'++[t],g,cap,bk2,j+1,by simp,rfl,by go_num,by omega,HLM'.out,HM3.out,HG3⟩
          case measure=>simp[intOf];omega
     ·have hjl':((nd s x).kids.length:Int)≤j:=by omega
      obtain rfl:j=(nd s x).kids.length:=by omega
      have HL':Hid (Lv s i (done++[x]) q' bk'):=hLM.finish ho
      have HM':Hid (LvW s w wr i (done++[x]) q' gi' ci' u8):=⟨hM2.inn,by rw[outs_open ho];exact hM2.out,hM2.ap,hM2.bel⟩
      clear hLM hM2
      go_wp2
      go_roundw
      case rel=>exact⟨done++[x],q',gi',ci',bk',rfl,rfl,by simp,HL'.out,HM'.out⟩
      case measure=>simp[intOf];omega
   ·go_wp2_with fail
    refine(open_no _ ka kc _ ho).mono ?_
    rintro e w2 ⟨rfl,hb2⟩
    have HM2:Hid (LvW s w w2 i done q gi ci u8):=HM.out.below (below_alloc hb2)
    have cin2:w2.cell? ⟨gi,done.length,none⟩=some (.int .i64 (x:Int)):=((below_alloc hb2).cell (lt_of_cell cin)).trans cin
    have hol:(outs s done).length≤40:=by have:=outs_le s done;omega
    have hsz:w.heap.size≤w2.heap.size+1:=by have:=HM2.out.bel.size;omega
    clear hb2 cin n1 n2 n3 n4
    go_wp2_with (at_builtin;refine wpList_append_lies _ rfl (.tmp 33) (.tmp 38) 32 rfl w.heap.size 3 i0 (.int .i64 0) 1 8 Tryz.underlying32 hi0 hz0 hz1 hz2 rfl (by decide) u8 (outs s done).length (ivs (outs s done)) rfl (HM2.out.out.alloc _) ⟨w2.heap.size,0,none⟩ 1 1 [.int .i64 (x:Int)] rfl rfl (cell_one_new _ _ _) (by intro u hu;simp at hu;subst hu;rfl) (by decide) (by unfold maxLen;omega) (by omega) (by simpa using hsz) (w2.heap.size+1) (by simp) ?_)
    intro g cap w3 h1 h2 h3 h4
    have HM3:Hid (LvW s w w3 i (done++[x]) q gi ci (.slice (some ⟨g,0,none⟩) ((outs s done).length+1) cap)):=HM2.out.put ho h1 h2 h3
    clear h1 h2 h3 h4
    go_wp2
    go_roundw
    case rel=>exact⟨done++[x],q,gi,ci,bk,rfl,rfl,by simp,HL.out.leaf HQ.out ho,HM3.out⟩
    case measure=>simp[intOf];omega
  ·obtain rfl:done=q:=hL.done_eq (by omega)
   have hlt':(done.length:Int)≤done.length:=Int.le_refl _
   clear hL hM
   go_wp2
   go_ret2
   exact⟨u8,outs s done,bk,rfl,HM.out.out,HM.out.bel,Nat.le_trans (outs_le s done) hlen,HL.out.leaves,HL.out.backs⟩
structure Vl where
 kind:Int
 text:ByteArray
 alt:Int
 kids:Int
def Vl.cells(v:Vl):List Value:=[.int .i64 v.kind,.string v.text,.int .i64 v.alt,.int .i64 v.kids]
def vcells(l:List Vl):List Value:=l.flatMap Vl.cells
theorem vcells_append(l:List Vl)(v:Vl):vcells (l++[v])=vcells l++v.cells:=by unfold vcells;simp
def rdObj(a:Option Addr)(n c:Nat)(data:ByteArray)(vt:Value)(e p:Int):Obj:= .cells #[.slice a n c,.string data,vt,.int .i64 e,.int .i64 p] 128 (0,0)
structure RdI(W w:World)(R:Nat)(a:Option Addr)(n c:Nat)(data:ByteArray)(tree:List Vl)(e p:Int):Prop where
 bel:Below W.heap.size W w
 lo:W.heap.size≤R
 own:∃vt,w.heap[R]? =some (rdObj a n c data vt e p)∧w.ownsRow W.heap.size 60 4 vt tree.length (vcells tree)
def Fr(R:Nat)(w w':World):Prop:=∀(k:Nat) (A:Array Value) (T:TypeId),k≠R→T≠60→w.heap[k]? =some (.cells A T (0,0))→w'.heap[k]? =some (.cells A T (0,0))
theorem Fr.refl(R:Nat)(w:World):Fr R w w:=fun _ _ _ _ _ h=>h
theorem Fr.trans{R:Nat}{w w1 w2:World}(h1:Fr R w w1)(h2:Fr R w1 w2):Fr R w w2:=fun k A T a b h=>h2 k A T a b (h1 k A T a b h)
theorem Fr.of_below{R:Nat}{w w':World}(h:Below w.heap.size w w'):Fr R w w':=fun _ _ _ _ _ q=>block_below q h
theorem Fr.of_same{R:Nat}{w w':World}(h:∀k,k≠R→w'.heap[k]? =w.heap[k]?):Fr R w w':=fun k _ _ a _ q=>(h k a).trans q
theorem Fr.set5{R:Nat}{w w2:World}(h:Fr R w w2){q:Nat}(hq:w.heap.size≤q)(v0 v1 v2 v3 v4:Value):
 Fr R w (((((w2.setCell ⟨q,0,none⟩ v0).setCell ⟨q,1,none⟩ v1).setCell ⟨q,2,none⟩ v2).setCell ⟨q,3,none⟩ v3).setCell ⟨q,4,none⟩ v4):=fun k A T a b g=>by
 have hlt:k<w.heap.size:=by
  rcases Nat.lt_or_ge k w.heap.size with h'|h'
  ·exact h'
  ·rw[Array.getElem?_eq_none h']at g;cases g
 have hne:k≠q:=by omega
 rw[heap_setCell_other _ _ _ _ hne,heap_setCell_other _ _ _ _ hne,heap_setCell_other _ _ _ _ hne,heap_setCell_other _ _ _ _ hne,heap_setCell_other _ _ _ _ hne]
 exact h k A T a b g
theorem RdI.below{W w w':World}{R:Nat}{a:Option Addr}{n c:Nat}{data:ByteArray}{tree:List Vl}{e p:Int}(h:RdI W w R a n c data tree e p)(hb:Below w.heap.size w w'):RdI W w' R a n c data tree e p where
 bel:=h.bel.trans (hb.mono h.bel.size)
 lo:=h.lo
 own:=by
  obtain⟨vt,h1,h2⟩:=h.own
  exact⟨vt,block_below h1 hb,own_below h2 hb⟩
def Tryz.zeroVal:Value:= .agg #[.int .i64 0,.string ⟨#[]⟩,.int .i64 0,.int .i64 0]
theorem Tryz.infoVal:(Tryz.prog.info? 60).map (fun i=>(i.zero,i.size,i.bytes))=some (some Tryz.zeroVal,4,40):=by kernel_rfl
theorem row_ne{w:World}{R base size n:Nat}{e T:TypeId}{v:Value}{xs:List Value}{A:Array Value}(hg:w.heap[R]? =some (.cells A T (0,0)))(h:w.ownsRow base e size v n xs)(hT:T≠e):v.ownBlock≠some R:=by
 intro hv
 rcases h.2 with⟨h',_⟩|⟨g,cap,cur,h',_,hg',_⟩
 ·subst h';cases hv
 ·subst h'
  obtain rfl:g=R:=by simpa [Value.ownBlock]using hv
  rw[hg]at hg'
  injection hg' with hg'
  injection hg' with _ e _
  exact hT e
theorem rd_set{W w:World}{R:Nat}{A:Array Value}{tree:List Vl}{vt:Value}(i:Nat)(u:Value)(hb:Below W.heap.size W w)(hlo:W.heap.size≤R)(hg:w.heap[R]? =some (.cells A 128 (0,0)))
 (ho:w.ownsRow W.heap.size 60 4 vt tree.length (vcells tree)):
 Below W.heap.size W (w.setCell ⟨R,i,none⟩ u)∧(w.setCell ⟨R,i,none⟩ u).heap[R]? =some (.cells (A.setIfInBounds i u) 128 (0,0))∧(w.setCell ⟨R,i,none⟩ u).ownsRow W.heap.size 60 4 vt tree.length (vcells tree):=
 ⟨hb.setCell hlo u,heap_setCell_same w R i A _ u hg,ownsRow_setCell_other ho (row_ne hg ho (by decide)) u⟩
theorem RdI.set_other{W w:World}{R:Nat}{a:Option Addr}{n c:Nat}{data:ByteArray}{tree:List Vl}{e p:Int}(h:RdI W w R a n c data tree e p){k:Nat}{A:Array Value}{T:TypeId}(hk:W.heap.size≤k)(hkR:k≠R)(hT:T≠60)
 (hg:w.heap[k]? =some (.cells A T (0,0)))(i:Nat)(u:Value):RdI W (w.setCell ⟨k,i,none⟩ u) R a n c data tree e p∧(w.setCell ⟨k,i,none⟩ u).heap[k]? =some (.cells (A.setIfInBounds i u) T (0,0)):=by
 obtain⟨hb,hlo,vt,hr,ho⟩:=h
 exact⟨⟨hb.setCell hk u,hlo,vt,by rw[heap_setCell_other _ _ _ _ (by exact Ne.symm hkR)];exact hr,ownsRow_setCell_other ho (row_ne hg ho hT) u⟩,heap_setCell_same w k i A _ u hg⟩
theorem RdI.set5{W w:World}{R:Nat}{a:Option Addr}{n c:Nat}{data:ByteArray}{tree:List Vl}{e p:Int}(h:RdI W w R a n c data tree e p){k:Nat}{A:Array Value}{T:TypeId}(hk:W.heap.size≤k)(hkR:k≠R)(hT:T≠60)
 (hg:w.heap[k]? =some (.cells A T (0,0)))(v0 v1 v2 v3 v4:Value):
 RdI W (((((w.setCell ⟨k,0,none⟩ v0).setCell ⟨k,1,none⟩ v1).setCell ⟨k,2,none⟩ v2).setCell ⟨k,3,none⟩ v3).setCell ⟨k,4,none⟩ v4) R a n c data tree e p:=by
 obtain⟨h0,g0⟩:=h.set_other hk hkR hT hg 0 v0
 obtain⟨h1,g1⟩:=h0.set_other hk hkR hT g0 1 v1
 obtain⟨h2,g2⟩:=h1.set_other hk hkR hT g1 2 v2
 obtain⟨h3,g3⟩:=h2.set_other hk hkR hT g2 3 v3
 exact(h3.set_other hk hkR hT g3 4 v4).1
theorem stop_first(W w:World)(R:Nat)(a:Option Addr)(n c:Nat)(data:ByteArray)(tree:List Vl)(p e1 p1:Int)(h:RdI W w R a n c data tree 0 p):
 Calls Tryz.prog 70 #[.pointer (some ⟨R,0,none⟩),.int .i64 e1,.int .i64 p1] w fun e w'=>e= .returned (.tuple #[])∧RdI W w' R a n c data tree e1 p1∧∀k,k≠R→w'.heap[k]? =w.heap[k]? :=by
 obtain⟨hb,hlo,vt,hr,ho⟩:=h
 have HB:Hid (Below W.heap.size W w):=hb
 have HO:Hid (w.ownsRow W.heap.size 60 4 vt tree.length (vcells tree)):=ho
 have HR:Hid (w.heap[R]? =some (rdObj a n c data vt 0 p)):=hr
 unfold rdObj at hr
 have c3:w.cell? ⟨R,3,none⟩=some (.int .i64 0):=by simp[World.cell?,hr]
 have f3:w.frozen? ⟨R,3,none⟩=false:=by simp[World.frozen?,hr]
 have c4:w.cell? ⟨R,4,none⟩=some (.int .i64 p):=by simp[World.cell?,hr]
 have f4:w.frozen? ⟨R,4,none⟩=false:=by simp[World.frozen?,hr]
 clear hb ho hr
 go_enter Tryz.func70,Tryz.ntmps70
 go_wp2
 go_end0
 obtain⟨b1,r1,o1⟩:=rd_set 3 (.int .i64 e1) HB.out hlo HR.out HO.out
 obtain⟨b2,r2,o2⟩:=rd_set 4 (.int .i64 p1) b1 hlo r1 o1
 exact⟨rfl,⟨b2,hlo,vt,r2,o2⟩,fun k hk=>by rw[heap_setCell_other _ _ _ _ hk,heap_setCell_other _ _ _ _ hk]⟩
theorem put_any(W w:World)(R:Nat)(a:Option Addr)(n c:Nat)(data:ByteArray)(tree:List Vl)(e p:Int)(v:Vl)(h:RdI W w R a n c data tree e p)(hl:tree.length≤1099511627776):
 Calls Tryz.prog 144 #[.pointer (some ⟨R,0,none⟩),.int .i64 v.kind,.string v.text,.int .i64 v.alt,.int .i64 v.kids] w fun e' w'=>e'= .returned (.int .i64 (tree.length:Nat))∧RdI W w' R a n c data (tree++[v]) e p∧Fr R w w':=by
 obtain⟨i0,hi0,hz0,hz1,hz2⟩:=info_parts Tryz.infoVal
 obtain⟨hb,hlo,vt,hr,ho⟩:=h
 have HB:Hid (Below W.heap.size W w):=hb
 have HO:Hid (w.ownsRow W.heap.size 60 4 vt tree.length (vcells tree)):=ho
 have HR:Hid (w.heap[R]? =some (rdObj a n c data vt e p)):=hr
 unfold rdObj at hr
 have c2:w.cell? ⟨R,2,none⟩=some vt:=by simp[World.cell?,hr]
 have f2:w.frozen? ⟨R,2,none⟩=false:=by simp[World.frozen?,hr]
 have hRl:R<w.heap.size:=lt_of_cell c2
 have hsz:W.heap.size≤w.heap.size+1:=by have:=hb.size;omega
 clear hb ho hr
 go_enter Tryz.func144,Tryz.ntmps144
 go_wp2_with (at_builtin;refine wpList_append_lies _ rfl (.tmp 15) (.tmp 21) 39 rfl W.heap.size 60 i0 Tryz.zeroVal 4 40 Tryz.underlying39 hi0 hz0 hz1 hz2 rfl (by decide) vt tree.length (vcells tree) rfl (HO.out.alloc _) ⟨w.heap.size,0,none⟩ 1 1 v.cells rfl rfl (World.news_of_block (heap_alloc_new w _)) (by intro u hu;unfold Vl.cells at hu;simp at hu;rcases hu with rfl|rfl|rfl|rfl<;>rfl) (by decide) (by unfold maxLen;omega) (by omega) (by simpa using hsz) (w.heap.size+1) (by simp) ?_)
 intro g cap w3 h1 h2 h3 h4
 have hR3:w3.heap[R]? =some (rdObj a n c data vt e p):=by
  rw[h2.block R (by simp;omega) (fun q=>row_ne HR.out HO.out (by decide) q.symm),Below.heap_alloc w _ _ hRl];exact HR.out
 have hb3:Below W.heap.size W w3:=by
  have hb0:Below W.heap.size W (w.alloc (.cells #[.int .i64 v.kind,.string v.text,.int .i64 v.alt,.int .i64 v.kids] 60)):=HB.out.alloc HB.out.size _
  exact hb0.grown h2 hb0.size (fun k hk=>(HO.out.lt k hk).1)
 have ho3:w3.ownsRow W.heap.size 60 4 (.slice (some ⟨g,0,none⟩) (tree.length+1) cap) (tree++[v]).length (vcells (tree++[v])):=by rw[vcells_append,List.length_append];exact h1
 have FIN:Hid (RdI W (w3.setCell ⟨R,2,none⟩ (.slice (some ⟨g,0,none⟩) (tree.length+1) cap)) R a n c data (tree++[v]) e p):=by
  obtain⟨b1,r1,o1⟩:=rd_set 2 (.slice (some ⟨g,0,none⟩) (tree.length+1) cap) hb3 hlo hR3 ho3
  exact⟨b1,hlo,_,r1,o1⟩
 have HFR:Hid (Fr R w (w3.setCell ⟨R,2,none⟩ (.slice (some ⟨g,0,none⟩) (tree.length+1) cap))):=fun k A T hk hT hg=>by
  have hlt:k<w.heap.size:=by
   rcases Nat.lt_or_ge k w.heap.size with h'|h'
   ·exact h'
   ·rw[Array.getElem?_eq_none h']at hg;cases hg
  rw[heap_setCell_other _ _ _ _ hk,h2.block k (by simp;omega) (fun q=>row_ne hg HO.out hT q.symm),Below.heap_alloc w _ _ hlt]
  exact hg
 unfold rdObj at hR3
 have d2:w3.cell? ⟨R,2,none⟩=some vt:=by simp[World.cell?,hR3]
 have g2:w3.frozen? ⟨R,2,none⟩=false:=by simp[World.frozen?,hR3]
 clear h1 h2 h3 h4 hR3 hb3 ho3 c2 f2
 go_wp2
 go_ret
 exact⟨by congr 1,FIN.out,HFR.out⟩
end Go.Proofs.YtkkicodfpekbgaaGreatDoor
namespace Go.Proofs.YtkkicodfpekbgaaGreatDoor
set_option linter.unusedSimpArgs false
set_option linter.unusedVariables false
set_option maxRecDepth 100000
set_option maxHeartbeats 8000000
def IntOk(t:ByteArray):Prop:=1≤t.size∧t.size≤20∧(2≤t.size→b8 t 0*2+b8 t 1/128≠0∧b8 t 0*2+b8 t 1/128≠511)
def btw(t:ByteArray)(k:Nat):Prop:=k=0∨b8 t (k-1)<128
def oidTo(t:ByteArray)(k:Nat):Prop:=∀j,j<k→¬(btw t j∧b8 t j=128)
def OidOk(t:ByteArray):Prop:=1≤t.size∧t.size≤20∧oidTo t t.size∧btw t t.size
theorem oidTo_succ(t:ByteArray)(k:Nat):oidTo t (k+1)↔oidTo t k∧¬(btw t k∧b8 t k=128):=by
 unfold oidTo
 constructor
 ·intro h;exact⟨fun j hj=>h j (by omega),h k (by omega)⟩
 ·intro h j hj
  by_cases e:j=k
  ·subst e;exact h.2
  ·exact h.1 j (by omega)
theorem oidTo_zero(t:ByteArray):oidTo t 0:=fun _ h=>absurd h (Nat.not_lt_zero _)
theorem oid_no(t:ByteArray)(k:Nat)(hk:k<t.size)(h:btw t k∧b8 t k=128):¬OidOk t:=fun o=>o.2.2.1 k hk h
def BitsOk(t:ByteArray):Prop:=1≤t.size∧b8 t 0≤7∧(t.size=1→b8 t 0=0)∧(2≤t.size→b8 t (t.size-1)%2^(b8 t 0).toNat=0)
theorem i64_or1(x y:Int)(h0:0≤x)(h1:x<4611686018427387904)(hx:x%2=0)(h2:0≤y)(h3:y<2):bits .or .i64 x y=x+y:=
 bits_join .i64 63 (by decide) wraps_i64 1 x y h0 hx (by omega) h2 h3 (by omega)
def tz8(x:Nat):Nat:=if x=0 then 8 else(List.range 8).findIdx (fun k=>x/2^k%2=1)
theorem tz8_ge:∀x:Fin 256,∀k:Fin 8,(k.val≤tz8 x.val↔x.val%2^k.val=0):=by decide+kernel
end Go.Proofs.YtkkicodfpekbgaaGreatDoor
namespace Go.Proofs.YtkkicodfpekbgaaGreatDoor
open Go.RowKit
set_option linter.unusedSimpArgs false
set_option linter.unusedVariables false
set_option maxRecDepth 100000
set_option maxHeartbeats 8000000
def RetB(P:Prop)(w:World)(e:Ending)(w':World):Prop:=∃r,e= .returned (.bool r)∧(r=true↔P)∧∃k,w'=w.drewN k
theorem ret_no{P:Prop}{w w':World}(h:¬P)(hw:∃k,w'=w.drewN k):RetB P w (.returned (.bool false)) w':=⟨false,rfl,⟨fun e=>(by cases e),fun p=>absurd p h⟩,hw⟩
theorem ret_yes{P:Prop}{w w':World}(h:P)(hw:∃k,w'=w.drewN k):RetB P w (.returned (.bool true)) w':=⟨true,rfl,⟨fun _=>h,fun _=>rfl⟩,hw⟩
theorem ret_iff{P:Prop}{w w':World}{r:Bool}(h:r=true↔P)(hw:∃k,w'=w.drewN k):RetB P w (.returned (.bool r)) w':=⟨r,rfl,h,hw⟩
def SaysB(P:Prop)(v:Value):Prop:=∃q:Bool,v= .bool q∧(q=true↔P)
theorem drew0(w:World):∃k,w=w.drewN k:=⟨0,rfl⟩
theorem fitsInt_any(t:ByteArray)(w:World)(hm:t.size≤9223372036854775807):
 Calls Tryz.prog 173 #[.string t] w fun e w'=>RetB (IntOk t) w e w':=by
 by_cases h1:t.size<1
 ·clear hm
  go_enter Tryz.func173,Tryz.ntmps173
  go_wp2
  go_ret
  exact ret_no (fun h:IntOk t=>by have:=h.1;omega) (drew0 w)
 by_cases h2:20<t.size
 ·have h2':(20:Int)<t.size:=by omega
  go_enter Tryz.func173,Tryz.ntmps173
  go_wp2
  go_ret
  exact ret_no (fun h:IntOk t=>by have:=h.2.1;omega) (drew0 w)
 by_cases h3:t.size=1
 ·have h3':((t.size:Int)==1)=true:=by rw[h3];rfl
  have HI:Hid (IntOk t):=⟨by omega,by omega,by omega⟩
  clear h3
  go_enter Tryz.func173,Tryz.ntmps173
  go_wp2
  go_ret
  exact ret_yes HI.out (drew0 w)
 have h3':((t.size:Int)==1)=false:=by rw[beq_eq_false_iff_ne];omega
 have h4:(0:Int)<t.size:=by omega
 have h5:(1:Int)<t.size:=by omega
 have h6:0<t.size:=by omega
 have h7:1<t.size:=by omega
 have e0:=b8_get t 0 h6
 have e1:=b8_get t 1 h7
 have b0:=b8_bd t 0
 have b1:=b8_bd t 1
 have x0:(t[0].toNat:Int)<256:=by omega
 have x1:(t[1].toNat:Int)<256:=by omega
 have HE:Hid (bits .or .i64 ((t[0].toNat:Int)*2) ((t[1].toNat:Int)/128)=b8 t 0*2+b8 t 1/128):=by
  show _=_
  rw[e0,e1,i64_or1 _ _ (by omega) (by omega) (by omega) (by omega) (by omega)]
 have HI:Hid (IntOk t↔b8 t 0*2+b8 t 1/128≠0∧b8 t 0*2+b8 t 1/128≠511):=⟨fun h=>h.2.2 (by omega),fun h=>⟨by omega,by omega,fun _=>h⟩⟩
 clear e0 e1
 go_enter Tryz.func173,Tryz.ntmps173
 go_wp2
 go_quiet (fail)
 rw[HE.out]
 generalize b8 t 0*2+b8 t 1/128=x at HI
 by_cases h8:x=0
 ·have h8':(x !=0)=false:=by rw[bne_eq_false_iff_eq];exact h8
  have HN:Hid (¬IntOk t):=fun h=>(HI.out.1 h).1 h8
  clear h8
  go_wp2
  go_ret
  exact ret_no HN.out ⟨_,rfl⟩
 have h8':(x !=0)=true:=by rw[bne_iff_ne];exact h8
 by_cases h9:x=511
 ·have h9':(x !=511)=false:=by rw[bne_eq_false_iff_eq];exact h9
  have HN:Hid (¬IntOk t):=fun h=>(HI.out.1 h).2 h9
  clear h9 h8
  go_wp2
  go_ret
  exact ret_no HN.out ⟨_,rfl⟩
 ·have h9':(x !=511)=true:=by rw[bne_iff_ne];exact h9
  have HN:Hid (IntOk t):=HI.out.2 ⟨h8,h9⟩
  clear h9 h8
  go_wp2
  go_ret
  exact ret_yes HN.out ⟨_,rfl⟩
theorem isInt_any(t:ByteArray)(w:World)(hm:t.size≤9223372036854775807):
 Calls Tryz.prog 124 #[.string t] w fun e w'=>RetB (IntOk t) w e w':=by
 by_cases h1:t.size<1
 ·have h1':((t.size:Int)==0)=true:=by rw[beq_iff_eq];omega
  go_enter Tryz.func124,Tryz.ntmps124
  go_wp2
  go_ret
  exact ret_no (fun h:IntOk t=>by have:=h.1;omega) (drew0 w)
 have h1':((t.size:Int)==0)=false:=by rw[beq_eq_false_iff_ne];omega
 by_cases h2:20<t.size
 ·have h2':(20:Int)<t.size:=by omega
  go_enter Tryz.func124,Tryz.ntmps124
  go_wp2
  go_ret
  exact ret_no (fun h:IntOk t=>by have:=h.2.1;omega) (drew0 w)
 by_cases h3:t.size=1
 ·have h3':((t.size:Int)==1)=true:=by rw[h3];rfl
  have HI:Hid (IntOk t):=⟨by omega,by omega,by omega⟩
  clear h3
  go_enter Tryz.func124,Tryz.ntmps124
  go_wp2
  go_ret
  exact ret_yes HI.out (drew0 w)
 have h3':((t.size:Int)==1)=false:=by rw[beq_eq_false_iff_ne];omega
 have h4:(0:Int)<t.size:=by omega
 have h5:(1:Int)<t.size:=by omega
 have h6:0<t.size:=by omega
 have h7:1<t.size:=by omega
 have e0:=b8_get t 0 h6
 have e1:=b8_get t 1 h7
 have b0:=b8_bd t 0
 have b1:=b8_bd t 1
 have x0:(t[0].toNat:Int)<256:=by omega
 have x1:(t[1].toNat:Int)<256:=by omega
 have HE:Hid ((2:Int)*(t[0].toNat:Int)+(t[1].toNat:Int)/128=b8 t 0*2+b8 t 1/128):=by
  show _=_
  rw[e0,e1];omega
 have HI:Hid (IntOk t↔b8 t 0*2+b8 t 1/128≠0∧b8 t 0*2+b8 t 1/128≠511):=⟨fun h=>h.2.2 (by omega),fun h=>⟨by omega,by omega,fun _=>h⟩⟩
 clear e0 e1
 go_enter Tryz.func124,Tryz.ntmps124
 go_wp2
 go_quiet (fail)
 rw[HE.out]
 generalize b8 t 0*2+b8 t 1/128=x at HI
 by_cases h8:x=0
 ·have h8':(x !=0)=false:=by rw[bne_eq_false_iff_eq];exact h8
  have HN:Hid (¬IntOk t):=fun h=>(HI.out.1 h).1 h8
  clear h8
  go_wp2
  go_ret
  exact ret_no HN.out ⟨_,rfl⟩
 have h8':(x !=0)=true:=by rw[bne_iff_ne];exact h8
 by_cases h9:x=511
 ·have h9':(x !=511)=false:=by rw[bne_eq_false_iff_eq];exact h9
  have HN:Hid (¬IntOk t):=fun h=>(HI.out.1 h).2 h9
  clear h9 h8
  go_wp2
  go_ret
  exact ret_no HN.out ⟨_,rfl⟩
 ·have h9':(x !=511)=true:=by rw[bne_iff_ne];exact h9
  have HN:Hid (IntOk t):=HI.out.2 ⟨h8,h9⟩
  clear h9 h8
  go_wp2
  go_ret
  exact ret_yes HN.out ⟨_,rfl⟩
theorem fitsOid_any(t:ByteArray)(w:World)(hm:t.size≤9223372036854775807):
 Calls Tryz.prog 174 #[.string t] w fun e w'=>RetB (OidOk t) w e w':=by
 by_cases h1:t.size<1
 ·clear hm
  go_enter Tryz.func174,Tryz.ntmps174
  go_wp2
  go_ret
  exact ret_no (fun h:OidOk t=>by have:=h.1;omega) (drew0 w)
 by_cases h2:20<t.size
 ·have h2':(20:Int)<t.size:=by omega
  go_enter Tryz.func174,Tryz.ntmps174
  go_wp2
  go_ret
  exact ret_no (fun h:OidOk t=>by have:=h.2.1;omega) (drew0 w)
 go_enter Tryz.func174,Tryz.ntmps174
 go_wp2
 go_loop [3,15] (fun bt i=>∃k:Nat,k≤t.size∧i= .int .i64 k∧oidTo t k∧SaysB (btw t k) bt) (fun _ i=>t.size-(intOf i).toNat)
 case atStart=>exact⟨0,by omega,rfl,oidTo_zero t,true,rfl,⟨fun _=> .inl rfl,fun _=>rfl⟩⟩
 case round=>
  obtain⟨k,hk,rfl,ho,q,rfl,hq⟩:=hrel
  have HO:Hid (oidTo t k):=ho
  have HQ:Hid (q=true↔btw t k):=hq
  clear ho hq
  by_cases hlt:k<t.size
  ·have HE:Hid ((t[k].toNat:Int)=b8 t k):=b8_get t k hlt
   by_cases hb:(t[k].toNat:Int)=128
   ·have hb':((t[k].toNat:Int)==128)=true:=beq_iff_eq.2 hb
    cases q
    ·have HX:Hid (oidTo t (k+1)):=(oidTo_succ t k).2 ⟨HO.out,fun h=>by cases HQ.out.2 h.1⟩
     have HY:Hid (¬btw t (k+1)):=fun h=>by
      rcases h with h|h
      ·omega
      ·rw[Nat.add_sub_cancel,←HE.out]at h;omega
     have hd:decide ((t[k].toNat:Int)<128)=false:=decide_eq_false (by omega)
     clear hb
     go_wp2
     go_round
     case rel=>exact⟨k+1,by omega,by go_num,HX.out,false,rfl,⟨fun e=>(by cases e),fun h=>absurd h HY.out⟩⟩
     case measure=>simp[intOf];omega
    ·have HN:Hid (¬OidOk t):=oid_no t k hlt ⟨HQ.out.1 rfl,by rw[←HE.out];exact hb⟩
     clear hb
     go_wp2
     go_ret
     exact ret_no HN.out (drew0 w)
   ·have hb':((t[k].toNat:Int)==128)=false:=beq_eq_false_iff_ne.2 hb
    have HX:Hid (oidTo t (k+1)):=(oidTo_succ t k).2 ⟨HO.out,fun h=>hb (HE.out.trans h.2)⟩
    have HY:Hid (decide ((t[k].toNat:Int)<128)=true↔btw t (k+1)):=by
     show _↔_
     rw[decide_eq_true_iff,HE.out]
     exact⟨fun h=> .inr (by rw[Nat.add_sub_cancel];exact h),fun h=>by rcases h with h|h;(·omega);(·rw[Nat.add_sub_cancel]at h;exact h)⟩
    clear hb
    cases q
    all_goals
     go_wp2
     go_round
     case rel=>exact⟨k+1,by omega,by go_num,HX.out,_,rfl,HY.out⟩
     case measure=>simp[intOf];omega
  ·have hkc:t.size=k:=by omega
   have HF:Hid (q=true↔OidOk t):=⟨fun h=>⟨by omega,by omega,by rw[hkc];exact HO.out,by rw[hkc];exact HQ.out.1 h⟩,fun h=>HQ.out.2 (by rw[←hkc];exact h.2.2.2)⟩
   clear hkc
   go_wp2
   go_ret
   exact ret_iff HF.out (drew0 w)
theorem isOid_any(t:ByteArray)(w:World)(hm:t.size≤9223372036854775807):
 Calls Tryz.prog 129 #[.string t] w fun e w'=>RetB (OidOk t) w e w':=by
 by_cases h1:t.size<1
 ·have h1':((t.size:Int)==0)=true:=by rw[beq_iff_eq];omega
  go_enter Tryz.func129,Tryz.ntmps129
  go_wp2
  go_ret
  exact ret_no (fun h:OidOk t=>by have:=h.1;omega) (drew0 w)
 have h1':((t.size:Int)==0)=false:=by rw[beq_eq_false_iff_ne];omega
 by_cases h2:20<t.size
 ·have h2':(20:Int)<t.size:=by omega
  go_enter Tryz.func129,Tryz.ntmps129
  go_wp2
  go_ret
  exact ret_no (fun h:OidOk t=>by have:=h.2.1;omega) (drew0 w)
 have h3:t.size-1<t.size:=by omega
 have HL:Hid ((t[t.size-1].toNat:Int)=b8 t (t.size-1)):=b8_get t (t.size-1) h3
 have h20:(t.size:Int)≤20:=by omega
 by_cases h4:127<(t[t.size-1].toNat:Int)
 ·have HN:Hid (¬OidOk t):=fun h=>by
   rcases h.2.2.2 with h|h
   ·omega
   ·rw[←HL.out]at h;omega
  go_enter Tryz.func129,Tryz.ntmps129
  go_wp2
  go_ret
  exact ret_no HN.out (drew0 w)
 have HB:Hid (btw t t.size):= .inr (by rw[←HL.out];omega)
 have hd:decide (127<(t[t.size-1].toNat:Int))=false:=decide_eq_false h4
 go_enter Tryz.func129,Tryz.ntmps129
 go_wp2
 go_loop [3] (fun i=>∃k:Nat,k≤t.size∧i= .int .i64 k∧oidTo t k) (fun i=>t.size-(intOf i).toNat)
 case atStart=>exact⟨0,by omega,rfl,oidTo_zero t⟩
 case round=>
  obtain⟨k,hk,rfl,ho⟩:=hrel
  have HO:Hid (oidTo t k):=ho
  clear ho
  by_cases hlt:k<t.size
  ·have HE:Hid ((t[k].toNat:Int)=b8 t k):=b8_get t k hlt
   by_cases hb:(t[k].toNat:Int)=128
   ·have hb':((t[k].toNat:Int)==128)=true:=beq_iff_eq.2 hb
    by_cases hz:k=0
    ·have HN:Hid (¬OidOk t):=oid_no t k hlt ⟨.inl hz,by rw[←HE.out];exact hb⟩
     have hz':((k:Int)==0)=true:=by rw[beq_iff_eq];omega
     clear hb hz
     go_wp2
     go_ret
     exact ret_no HN.out (drew0 w)
    have hz':((k:Int)==0)=false:=by rw[beq_eq_false_iff_ne];omega
    have hk1:k-1<t.size:=by omega
    have HP:Hid ((t[k-1].toNat:Int)=b8 t (k-1)):=b8_get t (k-1) hk1
    by_cases hp:(t[k-1].toNat:Int)<128
    ·have HN:Hid (¬OidOk t):=oid_no t k hlt ⟨.inr (by rw[←HP.out];exact hp),by rw[←HE.out];exact hb⟩
     have hpos:1≤k:=by omega
     clear hb hz
     go_wp2
     go_ret
     exact ret_no HN.out (drew0 w)
    ·have HX:Hid (oidTo t (k+1)):=(oidTo_succ t k).2 ⟨HO.out,fun h=>by
      rcases h.1 with h|h
      ·omega
      ·rw[←HP.out]at h;omega⟩
     have hpos:1≤k:=by omega
     clear hb hz
     go_wp2
     go_round
     case rel=>exact⟨k+1,by omega,by go_num,HX.out⟩
     case measure=>simp[intOf];omega
   ·have hb':((t[k].toNat:Int)==128)=false:=beq_eq_false_iff_ne.2 hb
    have HX:Hid (oidTo t (k+1)):=(oidTo_succ t k).2 ⟨HO.out,fun h=>hb (HE.out.trans h.2)⟩
    clear hb
    go_wp2
    go_round
    case rel=>exact⟨k+1,by omega,by go_num,HX.out⟩
    case measure=>simp[intOf];omega
  ·have hkc:t.size=k:=by omega
   have HF:Hid (OidOk t):=⟨by omega,by omega,by rw[hkc];exact HO.out,HB.out⟩
   clear hkc
   go_wp2
   go_ret
   exact ret_yes HF.out (drew0 w)
def tzTab:ByteArray:=⟨#[8,0,1,0,2,0,1,0,3,0,1,0,2,0,1,0,4,0,1,0,2,0,1,0,3,0,1,0,2,0,1,0,5,0,1,0,2,0,1,0,3,0,1,0,2,0,1,0,4,0,1,0,2,0,1,0,3,0,1,0,2,0,1,0,6,0,1,0,2,0,1,0,3,0,1,0,2,0,1,0,4,0,1,0,2,0,1,0,3,0,1,0,2,0,1,0,5,0,1,0,2,0,1,0,3,0,1,0,2,0,1,0,4,0,1,0,2,0,1,0,3,0,1,0,2,0,1,0,7,0,1,0,2,0,1,0,3,0,1,0,2,0,1,0,4,0,1,0,2,0,1,0,3,0,1,0,2,0,1,0,5,0,1,0,2,0,1,0,3,0,1,0,2,0,1,0,4,0,1,0,2,0,1,0,3,0,1,0,2,0,1,0,6,0,1,0,2,0,1,0,3,0,1,0,2,0,1,0,4,0,1,0,2,0,1,0,3,0,1,0,2,0,1,0,5,0,1,0,2,0,1,0,3,0,1,0,2,0,1,0,4,0,1,0,2,0,1,0,3,0,1,0,2,0,1,0]⟩
theorem tzTab_size:tzTab.size=256:=by decide+kernel
theorem tzTab_get:∀j:Fin 256,(tzTab[j.val]'(by rw[tzTab_size];exact j.isLt)).toNat=tz8 j.val:=by decide+kernel
theorem tz8_le:∀j:Fin 256,tz8 j.val≤8:=by decide+kernel
theorem ret_i64{a b:Int}(h:a=b):Ending.returned (.int .i64 a)= .returned (.int .i64 b):=by rw[h]
theorem tz8_any(x:Nat)(w:World)(hx:x<256):
 Calls Tryz.prog 193 #[.int .u8 x] w fun e w'=>e= .returned (.int .i64 (tz8 x))∧w'=w:=by
 have HT:Hid (wrap64 ((tzTab[x]'(by rw[tzTab_size];exact hx)).toNat:Int)=(tz8 x:Int)):=by
  show _=_
  rw[tzTab_get ⟨x,hx⟩,IntWalk.wrap64_in]
  have:=tz8_le ⟨x,hx⟩
  simp only at this ⊢
  omega
 go_enter Tryz.func193,Tryz.ntmps193
 go_wp2
 go_ret
 exact⟨ret_i64 HT.out,rfl⟩
theorem fitsBits_any(t:ByteArray)(w:World)(hm:t.size≤9223372036854775807):
 Calls Tryz.prog 175 #[.string t] w fun e w'=>RetB (BitsOk t) w e w':=by
 by_cases h0:t.size=0
 ·have h0':((t.size:Int)==0)=true:=by rw[beq_iff_eq];omega
  have HN:Hid (¬BitsOk t):=fun h=>by have:=h.1;omega
  clear h0
  go_enter Tryz.func175,Tryz.ntmps175
  go_wp2
  go_ret
  exact ret_no HN.out (drew0 w)
 have h0':((t.size:Int)==0)=false:=by rw[beq_eq_false_iff_ne];omega
 have h6:0<t.size:=by omega
 have h6':(0:Int)<t.size:=by omega
 have e0:=b8_get t 0 h6
 have hb0:=b8_bd t 0
 have x0:(t[0].toNat:Int)<256:=by omega
 by_cases h1:t.size=1
 ·have h1':((t.size:Int)==1)=true:=by rw[beq_iff_eq];omega
  have HI:Hid (((t[0].toNat:Int)==0)=true↔BitsOk t):=by
   show _↔_
   rw[beq_iff_eq,e0]
   exact⟨fun h=>⟨by omega,by omega,fun _=>h,fun _=>by omega⟩,fun h=>h.2.2.1 h1⟩
  clear h1 e0
  go_enter Tryz.func175,Tryz.ntmps175
  go_wp2
  go_ret
  exact ret_iff HI.out (drew0 w)
 have h1':((t.size:Int)==1)=false:=by rw[beq_eq_false_iff_ne];omega
 have h3:t.size-1<t.size:=by omega
 have h3':(t.size:Int)-1<t.size:=by omega
 by_cases h7:7<(t[0].toNat:Int)
 ·have h7':decide ((t[0].toNat:Int)≤7)=false:=decide_eq_false (by omega)
  have HN:Hid (¬BitsOk t):=fun h=>by have:=h.2.1;omega
  clear e0
  go_enter Tryz.func175,Tryz.ntmps175
  go_wp2
  go_quiet (fail)
  go_wp2
  go_ret
  exact ret_no HN.out ⟨_,rfl⟩
 have h7':decide ((t[0].toNat:Int)≤7)=true:=decide_eq_true (by omega)
 obtain⟨m,HM⟩:∃m,Hid (t.size=m+1):=⟨t.size-1,by show _=_;omega⟩
 have hml:m<t.size:=by have:=HM.out;omega
 have hml':(m:Int)<t.size:=by omega
 have hwr:IntKind.i64.wrap ((t.size:Int)-1)=(m:Int):=by have:=HM.out;rw[wraps_i64 _ (by omega) (by omega)];omega
 have el:=b8_get t m hml
 have hxl:t[m].toNat<256:=t[m].toNat_lt
 have HI:Hid (decide (t[0].toNat≤tz8 t[m].toNat)=true↔BitsOk t):=by
  show _↔_
  have hk:t[0].toNat<8:=by omega
  have:=tz8_ge ⟨t[m].toNat,hxl⟩ ⟨t[0].toNat,hk⟩
  simp only at this
  rw[decide_eq_true_iff,this]
  have ep:(b8 t 0).toNat=t[0].toNat:=by omega
  have em:t.size-1=m:=by have:=HM.out;omega
  constructor
  ·intro h
   refine⟨by omega,by omega,fun _=>by omega,fun _=>?_⟩
   rw[ep,em,←el]
   exact_mod_cast h
  ·intro h
   have:=h.2.2.2 (by omega)
   rw[ep,em,←el]at this
   exact_mod_cast this
 clear e0 el h3 h3'
 go_enter Tryz.func175,Tryz.ntmps175
 go_wp2
 go_quiet ((go_at_call 193;exact Calls.quiet_of_same (tz8_any _ _ hxl)))
 go_wp2
 go_ret
 exact ret_iff HI.out ⟨_,rfl⟩
theorem isBits_any(t:ByteArray)(w:World)(hm:t.size≤9223372036854775807):
 Calls Tryz.prog 127 #[.string t] w fun e w'=>RetB (BitsOk t) w e w':=by
 by_cases h0:t.size=0
 ·have h0':((t.size:Int)==0)=true:=by rw[beq_iff_eq];omega
  have HN:Hid (¬BitsOk t):=fun h=>by have:=h.1;omega
  clear h0
  go_enter Tryz.func127,Tryz.ntmps127
  go_wp2
  go_ret
  exact ret_no HN.out (drew0 w)
 have h0':((t.size:Int)==0)=false:=by rw[beq_eq_false_iff_ne];omega
 have h6:0<t.size:=by omega
 have h6':(0:Int)<t.size:=by omega
 have e0:=b8_get t 0 h6
 have hb0:=b8_bd t 0
 have x0:(t[0].toNat:Int)<256:=by omega
 by_cases h7:7<(t[0].toNat:Int)
 ·have HN:Hid (¬BitsOk t):=fun h=>by have:=h.2.1;omega
  clear e0
  go_enter Tryz.func127,Tryz.ntmps127
  go_wp2
  go_ret
  exact ret_no HN.out (drew0 w)
 by_cases h1:t.size=1
 ·have h1':((t.size:Int)==1)=true:=by rw[beq_iff_eq];omega
  have HI:Hid (((t[0].toNat:Int)==0)=true↔BitsOk t):=by
   show _↔_
   rw[beq_iff_eq,e0]
   exact⟨fun h=>⟨by omega,by omega,fun _=>h,fun _=>by omega⟩,fun h=>h.2.2.1 h1⟩
  clear h1 e0
  go_enter Tryz.func127,Tryz.ntmps127
  go_wp2
  go_ret
  exact ret_iff HI.out (drew0 w)
 have h1':((t.size:Int)==1)=false:=by rw[beq_eq_false_iff_ne];omega
 have h3:t.size-1<t.size:=by omega
 have h3':(t.size:Int)-1<t.size:=by omega
 have el:=b8_get t (t.size-1) h3
 have hxl:(t[t.size-1].toNat:Int)<256:=by have:=t[t.size-1].toNat_lt;omega
 have HI:Hid (((t[t.size-1].toNat:Int)%((2^t[0].toNat:Nat):Int)==0)=true↔BitsOk t):=by
  show _↔_
  have ep:(b8 t 0).toNat=t[0].toNat:=by omega
  rw[beq_iff_eq]
  constructor
  ·intro h
   refine⟨by omega,by omega,fun _=>by omega,fun _=>?_⟩
   rw[ep,←el]
   exact_mod_cast h
  ·intro h
   have:=h.2.2.2 (by omega)
   rw[ep,←el]at this
   exact_mod_cast this
 clear e0 el
 go_enter Tryz.func127,Tryz.ntmps127
 go_wp2
 go_loop [3,4] (fun p i=>∃k:Nat,k≤t[0].toNat∧i= .int .i64 k∧p= .int .i64 ((2^k:Nat):Int)) (fun _ i=>t[0].toNat-(intOf i).toNat)
 case atStart=>exact⟨0,by omega,rfl,rfl⟩
 case round=>
  obtain⟨k,hk,rfl,rfl⟩:=hrel
  have hp1:2^k≤2^7:=Nat.pow_le_pow_right (by omega) (by omega)
  have hp0:0<2^k:=Nat.two_pow_pos k
  have HP:Hid (2^(k+1)=2^k*2):=Nat.pow_succ 2 k
  by_cases hlt:k<t[0].toNat
  ·generalize hq:2^k=q at hp1 hp0 HP
   have HQ:Hid (2^k=q):=hq
   clear hq
   go_wp2
   go_round
   case rel=>exact⟨k+1,by omega,by go_num,by rw[HP.out];go_num⟩
   case measure=>simp[intOf];omega
  ·have hkc:t[0].toNat=k:=by omega
   rw[hkc]at HI
   generalize 2^k=q at hp1 hp0 HI
   have hq0:((q:Int)==0)=false:=by rw[beq_eq_false_iff_ne];omega
   clear hkc
   go_wp2
   go_ret
   exact ret_iff HI.out (drew0 w)
def signs:List UInt8:=[32,39,40,41,43,44,45,46,47,58,61,63]
def pr(x:Nat):Bool:=(65≤x&&x≤90)||(97≤x&&x≤122)||(48≤x&&x≤57)||signs.contains (UInt8.ofNat x)
def PrOk(t:ByteArray):Prop:=∀i,i<t.size→pr (b8 t i).toNat=true
theorem idx_signs:∀x:Fin 256,decide (0≤Lib.indexByte signs (Nat.toUInt8 x.val))=signs.contains (UInt8.ofNat x.val):=by decide+kernel
def prAll:List UInt8:=[48,49,50,51,52,53,54,55,56,57,97,98,99,100,101,102,103,104,105,106,107,108,109,110,111,112,113,114,115,116,117,118,119,120,121,122,65,66,67,68,69,70,71,72,73,74,75,76,77,78,79,80,81,82,83,84,85,86,87,88,89,90,32,39,40,41,43,44,45,46,47,58,61,63]
theorem pr_all:∀x:Fin 256,pr x.val=prAll.contains (UInt8.ofNat x.val):=by decide+kernel
theorem Tryz.callIdx(t:ByteArray)(c:Int)(w:World):(callFunc 212 #[.string t,.int .u8 c]).run Tryz.prog w= .ok (.value (.int .i64 (Lib.indexByte t.data.toList c.toNat.toUInt8))) w:=by
 rw[@run_callFunc_extern Tryz.prog 212 _ Extern.BytealgIndexByte.indexByte Tryz.func212 (by kernel_rfl) (by kernel_rfl) (by kernel_rfl) (by kernel_rfl),Lib.run_indexByteString]
 rfl
theorem ret_b{a b:Bool}(h:a=b):Ending.returned (.bool a)= .returned (.bool b):=by rw[h]
theorem isPrintable_any(x:Nat)(w:World)(hx:x<256):
 Calls Tryz.prog 195 #[.int .u8 x] w fun e w'=>e= .returned (.bool (pr x))∧w'=w:=by
 by_cases h1:65≤x∧x≤90
 ·have HP:Hid (true=pr x):=by show _=_;simp[pr,h1]
  obtain⟨h1,h2⟩:=h1
  go_enter Tryz.func195,Tryz.ntmps195
  go_wp2
  go_ret
  exact⟨ret_b HP.out,rfl⟩
 by_cases h2:97≤x∧x≤122
 ·have HP:Hid (true=pr x):=by show _=_;simp[pr,h2]
  have h3:decide ((x:Int)≤90)=false:=decide_eq_false (by omega)
  obtain⟨h4,h5⟩:=h2
  clear h1
  go_enter Tryz.func195,Tryz.ntmps195
  go_wp2
  go_ret
  exact⟨ret_b HP.out,rfl⟩
 by_cases h3:48≤x∧x≤57
 ·have HP:Hid (true=pr x):=by show _=_;simp[pr,h3]
  have h4:decide ((65:Int)≤(x:Int))=false:=decide_eq_false (by omega)
  have h5:decide ((97:Int)≤(x:Int))=false:=decide_eq_false (by omega)
  obtain⟨h6,h7⟩:=h3
  clear h1 h2
  go_enter Tryz.func195,Tryz.ntmps195
  go_wp2
  go_ret
  exact⟨ret_b HP.out,rfl⟩
 have HP:Hid (decide (0≤Lib.indexByte signs (Nat.toUInt8 x))=pr x):=by
  show _=_
  rw[idx_signs ⟨x,hx⟩]
  have e1:(decide (65≤x)&&decide (x≤90))=false:=by simp;omega
  have e2:(decide (97≤x)&&decide (x≤122))=false:=by simp;omega
  have e3:(decide (48≤x)&&decide (x≤57))=false:=by simp;omega
  simp only[pr,e1,e2,e3,Bool.false_or]
 have hi:=Tryz.callIdx
 by_cases q1:x<48
 ·have c0:decide ((65:Int)≤(x:Int))=false:=decide_eq_false (by omega)
  have c1:decide ((x:Int)≤90)=true:=decide_eq_true (by omega)
  have c2:decide ((97:Int)≤(x:Int))=false:=decide_eq_false (by omega)
  have c3:decide ((x:Int)≤122)=true:=decide_eq_true (by omega)
  have c4:decide ((48:Int)≤(x:Int))=false:=decide_eq_false (by omega)
  have c5:decide ((x:Int)≤57)=true:=decide_eq_true (by omega)
  clear h1 h2 h3 hx
  go_enter Tryz.func195,Tryz.ntmps195
  go_wp2
  go_ret
  exact⟨ret_b HP.out,rfl⟩
 by_cases q2:x<65
 ·have c0:decide ((65:Int)≤(x:Int))=false:=decide_eq_false (by omega)
  have c1:decide ((x:Int)≤90)=true:=decide_eq_true (by omega)
  have c2:decide ((97:Int)≤(x:Int))=false:=decide_eq_false (by omega)
  have c3:decide ((x:Int)≤122)=true:=decide_eq_true (by omega)
  have c4:decide ((48:Int)≤(x:Int))=true:=decide_eq_true (by omega)
  have c5:decide ((x:Int)≤57)=false:=decide_eq_false (by omega)
  clear h1 h2 h3 hx
  go_enter Tryz.func195,Tryz.ntmps195
  go_wp2
  go_ret
  exact⟨ret_b HP.out,rfl⟩
 by_cases q3:x<97
 ·have c0:decide ((65:Int)≤(x:Int))=true:=decide_eq_true (by omega)
  have c1:decide ((x:Int)≤90)=false:=decide_eq_false (by omega)
  have c2:decide ((97:Int)≤(x:Int))=false:=decide_eq_false (by omega)
  have c3:decide ((x:Int)≤122)=true:=decide_eq_true (by omega)
  have c4:decide ((48:Int)≤(x:Int))=true:=decide_eq_true (by omega)
  have c5:decide ((x:Int)≤57)=false:=decide_eq_false (by omega)
  clear h1 h2 h3 hx
  go_enter Tryz.func195,Tryz.ntmps195
  go_wp2
  go_ret
  exact⟨ret_b HP.out,rfl⟩
 have c0:decide ((65:Int)≤(x:Int))=true:=decide_eq_true (by omega)
 have c1:decide ((x:Int)≤90)=false:=decide_eq_false (by omega)
 have c2:decide ((97:Int)≤(x:Int))=true:=decide_eq_true (by omega)
 have c3:decide ((x:Int)≤122)=false:=decide_eq_false (by omega)
 have c4:decide ((48:Int)≤(x:Int))=true:=decide_eq_true (by omega)
 have c5:decide ((x:Int)≤57)=false:=decide_eq_false (by omega)
 clear h1 h2 h3 hx
 go_enter Tryz.func195,Tryz.ntmps195
 go_wp2
 go_ret
 exact⟨ret_b HP.out,rfl⟩
theorem in_any(x:Nat)(s:ByteArray)(w:World)(hm:s.size≤9223372036854775807):
 Calls Tryz.prog 166 #[.int .u8 x,.string s] w fun e w'=>RetB (∃j,j<s.size∧b8 s j=x) w e w':=by
 go_enter Tryz.func166,Tryz.ntmps166
 go_wp2
 go_loop [5] (fun i=>∃k:Nat,k≤s.size∧i= .int .i64 k∧∀j,j<k→b8 s j≠x) (fun i=>s.size-(intOf i).toNat)
 case atStart=>exact⟨0,by omega,rfl,fun j h=>absurd h (Nat.not_lt_zero _)⟩
 case round=>
  obtain⟨k,hk,rfl,hj⟩:=hrel
  have HJ:Hid (∀j,j<k→b8 s j≠x):=hj
  clear hj
  by_cases hlt:k<s.size
  ·have HE:Hid ((s[k].toNat:Int)=b8 s k):=b8_get s k hlt
   by_cases hb:(s[k].toNat:Int)=x
   ·have hb':((s[k].toNat:Int)==x)=true:=beq_iff_eq.2 hb
    have HY:Hid (∃j,j<s.size∧b8 s j=x):=⟨k,hlt,by rw[←HE.out];exact hb⟩
    clear hb
    go_wp2
    go_ret
    exact ret_yes HY.out (drew0 w)
   ·have hb':((s[k].toNat:Int)==x)=false:=beq_eq_false_iff_ne.2 hb
    have HX:Hid (∀j,j<k+1→b8 s j≠x):=fun j hj=>by
     by_cases e:j=k
     ·subst e;rw[←HE.out];exact hb
     ·exact HJ.out j (by omega)
    clear hb
    go_wp2
    go_round
    case rel=>exact⟨k+1,by omega,by go_num,HX.out⟩
    case measure=>simp[intOf];omega
  ·have HN:Hid (¬∃j,j<s.size∧b8 s j=x):=fun⟨j,h1,h2⟩=>HJ.out j (by omega) h2
   go_wp2
   go_ret
   exact ret_no HN.out (drew0 w)
theorem all_any(t s:ByteArray)(w:World)(ht:t.size≤9223372036854775807)(hm:s.size≤9223372036854775807):
 Calls Tryz.prog 123 #[.string t,.string s] w fun e w'=>RetB (∀i,i<t.size→∃j,j<s.size∧b8 s j=b8 t i) w e w':=by
 go_enter Tryz.func123,Tryz.ntmps123
 go_wp2
 go_loopw [5] (fun i wr=>∃k:Nat,k≤t.size∧i= .int .i64 k∧(∀i,i<k→∃j,j<s.size∧b8 s j=b8 t i)∧∃q,wr=w.drewN q) (fun i _=>t.size-(intOf i).toNat)
 case atStart=>exact⟨0,by omega,rfl,fun j h=>absurd h (Nat.not_lt_zero _),drew0 w⟩
 case round=>
  obtain⟨k,hk,rfl,hj,hw⟩:=hrel
  have HJ:Hid (∀i,i<k→∃j,j<s.size∧b8 s j=b8 t i):=hj
  have HW:Hid (∃q,wr=w.drewN q):=hw
  clear hj hw
  by_cases hlt:k<t.size
  ·have HE:Hid ((t[k].toNat:Int)=b8 t k):=b8_get t k hlt
   go_wp2_with fail
   refine(in_any t[k].toNat s _ hm).mono ?_
   rintro e w2 ⟨r,rfl,hr,hd⟩
   have HR:Hid (r=true↔∃j,j<s.size∧b8 s j=t[k].toNat):=hr
   have HD:Hid (∃q,w2=w.drewN q):=by
    obtain⟨a,e1⟩:=HW.out
    obtain⟨b,e2⟩:=hd
    exact⟨a+b,by rw[e2,e1,World.drewN_drewN]⟩
   clear hr hd
   cases r
   ·have HN:Hid (¬∀i,i<t.size→∃j,j<s.size∧b8 s j=b8 t i):=fun h=>by
     have:=h k hlt
     rw[←HE.out]at this
     cases HR.out.2 this
    go_wp2
    go_ret
    exact ret_no HN.out HD.out
   ·have HX:Hid (∀i,i<k+1→∃j,j<s.size∧b8 s j=b8 t i):=fun i hi=>by
     by_cases e:i=k
     ·subst e;rw[←HE.out];exact HR.out.1 rfl
     ·exact HJ.out i (by omega)
    go_wp2
    go_roundw
    case rel=>exact⟨k+1,by omega,by go_num,HX.out,HD.out⟩
    case measure=>simp[intOf];omega
  ·have HY:Hid (∀i,i<t.size→∃j,j<s.size∧b8 s j=b8 t i):=fun i hi=>HJ.out i (by omega)
   go_wp2
   go_ret
   exact ret_yes HY.out HW.out
theorem fitsPrintable_any(t:ByteArray)(w:World)(hm:t.size≤9223372036854775807):
 Calls Tryz.prog 177 #[.string t] w fun e w'=>RetB (PrOk t) w e w':=by
 go_enter Tryz.func177,Tryz.ntmps177
 go_wp2
 go_loop [6] (fun i=>∃k:Nat,k≤t.size∧i= .int .i64 k∧∀i,i<k→pr (b8 t i).toNat=true) (fun i=>t.size-(intOf i).toNat)
 case atStart=>exact⟨0,by omega,rfl,fun j h=>absurd h (Nat.not_lt_zero _)⟩
 case round=>
  obtain⟨k,hk,rfl,hj⟩:=hrel
  have HJ:Hid (∀i,i<k→pr (b8 t i).toNat=true):=hj
  clear hj
  by_cases hlt:k<t.size
  ·have HE:Hid ((b8 t k).toNat=t[k].toNat):=by show _=_;rw[←b8_get t k hlt];rfl
   have hx:t[k].toNat<256:=t[k].toNat_lt
   go_wp2_with fail
   refine(isPrintable_any t[k].toNat _ hx).mono ?_
   rintro e w2 ⟨rfl,hw⟩
   subst hw
   cases hb:pr t[k].toNat
   ·have HN:Hid (¬PrOk t):=fun h=>by
     have:=h k hlt
     rw[HE.out,hb]at this
     cases this
    clear hb
    go_wp2
    go_ret
    exact ret_no HN.out (drew0 _)
   ·have HX:Hid (∀i,i<k+1→pr (b8 t i).toNat=true):=fun i hi=>by
     by_cases e:i=k
     ·subst e;rw[HE.out];exact hb
     ·exact HJ.out i (by omega)
    clear hb
    go_wp2
    go_round
    case rel=>exact⟨k+1,by omega,by go_num,HX.out⟩
    case measure=>simp[intOf];omega
  ·have HY:Hid (PrOk t):=fun i hi=>HJ.out i (by omega)
   go_wp2
   go_ret
   exact ret_yes HY.out (drew0 w)
theorem prAll_size:(⟨prAll.toArray⟩:ByteArray).size=74:=by decide+kernel
theorem prAll_in:∀x:Fin 256,(prAll.contains (UInt8.ofNat x.val)=true↔∃j:Fin 74,((prAll.getD j.val 0).toNat)=x.val):=by decide+kernel
theorem prOk_iff(t:ByteArray):(∀i,i<t.size→∃j,j<(⟨prAll.toArray⟩:ByteArray).size∧b8 ⟨prAll.toArray⟩ j=b8 t i)↔PrOk t:=by
 unfold PrOk
 have key:∀i,(∃j,j<(⟨prAll.toArray⟩:ByteArray).size∧b8 ⟨prAll.toArray⟩ j=b8 t i)↔pr (b8 t i).toNat=true:=fun i=>by
  have hb:=b8_bd t i
  have hx:(b8 t i).toNat<256:=by omega
  rw[pr_all ⟨_,hx⟩,prAll_in ⟨_,hx⟩,prAll_size]
  constructor
  ·rintro⟨j,hj,e⟩
   refine⟨⟨j,hj⟩,?_⟩
   have:b8 ⟨prAll.toArray⟩ j=((prAll.getD j 0).toNat:Int):=by simp[b8]
   simp only
   omega
  ·rintro⟨j,e⟩
   refine⟨j.val,j.isLt,?_⟩
   have:b8 ⟨prAll.toArray⟩ j.val=((prAll.getD j.val 0).toNat:Int):=by simp[b8]
   simp only at e
   omega
 exact⟨fun h i hi=>(key i).1 (h i hi),fun h i hi=>(key i).2 (h i hi)⟩
theorem isPrintableRef_any(t:ByteArray)(w:World)(hm:t.size≤9223372036854775807):
 Calls Tryz.prog 81 #[.string t] w fun e w'=>RetB (PrOk t) w e w':=by
 go_enter Tryz.func81,Tryz.ntmps81
 go_wp2_with fail
 refine(all_any t ⟨prAll.toArray⟩ _ hm (by rw[prAll_size];decide)).mono ?_
 rintro e w2 ⟨r,rfl,hr,hd⟩
 have HR:Hid (r=true↔PrOk t):=hr.trans (prOk_iff t)
 have HD:Hid (∃k,w2=w.drewN k):=hd
 clear hr hd
 go_wp2_with fail
 go_ret
 exact ret_iff HR.out HD.out
def goB(t:ByteArray)(a:Nat)(lo hi:Int):Bool:=decide (a<t.size∧lo≤b8 t a∧b8 t a≤hi)
def loB(b:Int):Int:=if b=224 then 160 else if b=240 then 144 else 128
def hiB(b:Int):Int:=if b=237 then 159 else if b=244 then 143 else 191
def chr(t:ByteArray)(a:Nat):Nat:=
 if b8 t a<128 then 1
 else if 194≤b8 t a∧b8 t a<224∧goB t (a+1) (loB (b8 t a)) (hiB (b8 t a))=true then 2
 else if 224≤b8 t a∧b8 t a<240∧goB t (a+1) (loB (b8 t a)) (hiB (b8 t a))=true∧goB t (a+2) 128 191=true then 3
 else if 240≤b8 t a∧b8 t a<245∧goB t (a+1) (loB (b8 t a)) (hiB (b8 t a))=true∧goB t (a+2) 128 191=true∧goB t (a+3) 128 191=true then 4
 else 0
theorem goes_any(t:ByteArray)(a:Nat)(lo hi:Int)(w:World)(_hm:t.size≤9223372036854775807):
 Calls Tryz.prog 190 #[.string t,.int .i64 a,.int .i64 lo,.int .i64 hi] w fun e w'=>e= .returned (.bool (goB t a lo hi))∧w'=w:=by
 by_cases h1:a<t.size
 ·have HE:Hid ((t[a].toNat:Int)=b8 t a):=b8_get t a h1
  have hx:(t[a].toNat:Int)<256:=by have:=t[a].toNat_lt;omega
  by_cases h2:lo≤(t[a].toNat:Int)
  ·have HV:Hid (decide ((t[a].toNat:Int)≤hi)=goB t a lo hi):=by
    show _=_
    unfold goB
    rw[Bool.eq_iff_iff,decide_eq_true_iff,decide_eq_true_iff,←HE.out]
    exact⟨fun h=>⟨h1,h2,h⟩,fun h=>h.2.2⟩
   go_enter Tryz.func190,Tryz.ntmps190
   go_wp2
   go_ret
   exact⟨ret_b HV.out,rfl⟩
  ·have HV:Hid (false=goB t a lo hi):=by
    show _=_
    unfold goB
    rw[eq_comm,decide_eq_false_iff_not,←HE.out]
    exact fun h=>h2 h.2.1
   have c1:decide (lo≤(t[a].toNat:Int))=false:=decide_eq_false h2
   go_enter Tryz.func190,Tryz.ntmps190
   go_wp2
   go_ret
   exact⟨ret_b HV.out,rfl⟩
 ·have HV:Hid (false=goB t a lo hi):=by
   show _=_
   unfold goB
   rw[eq_comm,decide_eq_false_iff_not]
   exact fun h=>h1 h.1
  have c1:decide ((a:Int)<(t.size:Int))=false:=decide_eq_false (by omega)
  go_enter Tryz.func190,Tryz.ntmps190
  go_wp2
  go_ret
  exact⟨ret_b HV.out,rfl⟩
theorem chr_1(t:ByteArray)(a:Nat)(h:b8 t a<128):chr t a=1:=by unfold chr;rw[if_pos h]
theorem chr_0(t:ByteArray)(a:Nat)(h:(128≤b8 t a∧b8 t a<194)∨245≤b8 t a):chr t a=0:=by
 unfold chr
 rw[if_neg (by omega),if_neg (by omega),if_neg (by omega),if_neg (by omega)]
theorem chr_2(t:ByteArray)(a:Nat)(lo hi:Int)(h0:194≤b8 t a)(h1:b8 t a<224)(hl:loB (b8 t a)=lo)(hh:hiB (b8 t a)=hi):chr t a=if goB t (a+1) lo hi=true then 2 else 0:=by
 unfold chr
 rw[if_neg (by omega),hl,hh]
 by_cases h:goB t (a+1) lo hi=true
 ·rw[if_pos ⟨h0,h1,h⟩,if_pos h]
 ·rw[if_neg (fun x=>h x.2.2),if_neg (by omega),if_neg (by omega),if_neg h]
theorem chr_3(t:ByteArray)(a:Nat)(lo hi:Int)(h0:224≤b8 t a)(h1:b8 t a<240)(hl:loB (b8 t a)=lo)(hh:hiB (b8 t a)=hi):chr t a=if goB t (a+1) lo hi=true∧goB t (a+2) 128 191=true then 3 else 0:=by
 unfold chr
 rw[if_neg (by omega),if_neg (by omega),hl,hh]
 by_cases h:goB t (a+1) lo hi=true∧goB t (a+2) 128 191=true
 ·rw[if_pos ⟨h0,h1,h.1,h.2⟩,if_pos h]
 ·rw[if_neg (fun x=>h x.2.2),if_neg (by omega),if_neg h]
theorem chr_4(t:ByteArray)(a:Nat)(lo hi:Int)(h0:240≤b8 t a)(h1:b8 t a<245)(hl:loB (b8 t a)=lo)(hh:hiB (b8 t a)=hi):chr t a=if goB t (a+1) lo hi=true∧goB t (a+2) 128 191=true∧goB t (a+3) 128 191=true then 4 else 0:=by
 unfold chr
 rw[if_neg (by omega),if_neg (by omega),if_neg (by omega),hl,hh]
 by_cases h:goB t (a+1) lo hi=true∧goB t (a+2) 128 191=true∧goB t (a+3) 128 191=true
 ·rw[if_pos ⟨h0,h1,h.1,h.2.1,h.2.2⟩,if_pos h]
 ·rw[if_neg (fun x=>h x.2.2),if_neg h]
theorem char_1(t:ByteArray)(a:Nat)(w:World)(hm:t.size≤140737488355328)(ha:a<t.size)(hr:(t[a].toNat:Int)<128):
 Calls Tryz.prog 167 #[.string t,.int .i64 a] w fun e w'=>e= .returned (.int .i64 (chr t a))∧w'=w:=by
 have HE:Hid ((t[a].toNat:Int)=b8 t a):=b8_get t a ha
 have hx:(t[a].toNat:Int)<256:=by have:=t[a].toNat_lt;omega
 have G1:Hid (∀w,Calls Tryz.prog 190 #[.string t,.int .i64 ((a:Int)+1),.int .i64 128,.int .i64 191] w fun e w'=>e= .returned (.bool (goB t (a+1) 128 191))∧w=w'):=fun w=>(goes_any t (a+1) 128 191 w (by omega)).mono fun e w' h=>⟨h.1,h.2.symm⟩
 have G2:Hid (∀w,Calls Tryz.prog 190 #[.string t,.int .i64 ((a:Int)+2),.int .i64 128,.int .i64 191] w fun e w'=>e= .returned (.bool (goB t (a+2) 128 191))∧w=w'):=fun w=>(goes_any t (a+2) 128 191 w (by omega)).mono fun e w' h=>⟨h.1,h.2.symm⟩
 have G3:Hid (∀w,Calls Tryz.prog 190 #[.string t,.int .i64 ((a:Int)+3),.int .i64 128,.int .i64 191] w fun e w'=>e= .returned (.bool (goB t (a+3) 128 191))∧w=w'):=fun w=>(goes_any t (a+3) 128 191 w (by omega)).mono fun e w' h=>⟨h.1,h.2.symm⟩
 have HC:Hid (chr t a=1):=chr_1 t a (by rw[←HE.out];exact hr)
 have e224:((t[a].toNat:Int)==224)=false:=by rw[beq_eq_false_iff_ne];omega
 have e237:((t[a].toNat:Int)==237)=false:=by rw[beq_eq_false_iff_ne];omega
 have e240:((t[a].toNat:Int)==240)=false:=by rw[beq_eq_false_iff_ne];omega
 have e244:((t[a].toNat:Int)==244)=false:=by rw[beq_eq_false_iff_ne];omega
 have d1:decide ((t[a].toNat:Int)<128)=true:=decide_eq_true (by omega)
 have d2:decide ((194:Int)≤(t[a].toNat:Int))=false:=decide_eq_false (by omega)
 have d3:decide ((t[a].toNat:Int)<224)=true:=decide_eq_true (by omega)
 have d4:decide ((224:Int)≤(t[a].toNat:Int))=false:=decide_eq_false (by omega)
 have d5:decide ((t[a].toNat:Int)<240)=true:=decide_eq_true (by omega)
 have d6:decide ((240:Int)≤(t[a].toNat:Int))=false:=decide_eq_false (by omega)
 have d7:decide ((t[a].toNat:Int)<245)=true:=decide_eq_true (by omega)
 generalize chr t a=res at HC ⊢
 generalize goB t (a+1) 128 191=one at G1
 generalize goB t (a+2) 128 191=two at G2
 generalize goB t (a+3) 128 191=three at G3
 clear hr
 go_enter Tryz.func167,Tryz.ntmps167
 go_wp2_with fail
 refine Calls.mono (G1.out _) ?_
 rintro e w2 ⟨rfl,rfl⟩
 go_wp2_with fail
 refine Calls.mono (G2.out _) ?_
 rintro e w3 ⟨rfl,rfl⟩
 go_wp2_with fail
 refine Calls.mono (G3.out _) ?_
 rintro e w4 ⟨rfl,rfl⟩
 go_wp2_with fail
 go_ret
 exact⟨ret_i64 (by rw[HC.out];rfl),rfl⟩
theorem char_2(t:ByteArray)(a:Nat)(w:World)(hm:t.size≤140737488355328)(ha:a<t.size)(hr:128≤(t[a].toNat:Int)∧(t[a].toNat:Int)<194):
 Calls Tryz.prog 167 #[.string t,.int .i64 a] w fun e w'=>e= .returned (.int .i64 (chr t a))∧w'=w:=by
 have HE:Hid ((t[a].toNat:Int)=b8 t a):=b8_get t a ha
 have hx:(t[a].toNat:Int)<256:=by have:=t[a].toNat_lt;omega
 have G1:Hid (∀w,Calls Tryz.prog 190 #[.string t,.int .i64 ((a:Int)+1),.int .i64 128,.int .i64 191] w fun e w'=>e= .returned (.bool (goB t (a+1) 128 191))∧w=w'):=fun w=>(goes_any t (a+1) 128 191 w (by omega)).mono fun e w' h=>⟨h.1,h.2.symm⟩
 have G2:Hid (∀w,Calls Tryz.prog 190 #[.string t,.int .i64 ((a:Int)+2),.int .i64 128,.int .i64 191] w fun e w'=>e= .returned (.bool (goB t (a+2) 128 191))∧w=w'):=fun w=>(goes_any t (a+2) 128 191 w (by omega)).mono fun e w' h=>⟨h.1,h.2.symm⟩
 have G3:Hid (∀w,Calls Tryz.prog 190 #[.string t,.int .i64 ((a:Int)+3),.int .i64 128,.int .i64 191] w fun e w'=>e= .returned (.bool (goB t (a+3) 128 191))∧w=w'):=fun w=>(goes_any t (a+3) 128 191 w (by omega)).mono fun e w' h=>⟨h.1,h.2.symm⟩
 have HC:Hid (chr t a=0):=chr_0 t a (by rw[←HE.out];omega)
 have e224:((t[a].toNat:Int)==224)=false:=by rw[beq_eq_false_iff_ne];omega
 have e237:((t[a].toNat:Int)==237)=false:=by rw[beq_eq_false_iff_ne];omega
 have e240:((t[a].toNat:Int)==240)=false:=by rw[beq_eq_false_iff_ne];omega
 have e244:((t[a].toNat:Int)==244)=false:=by rw[beq_eq_false_iff_ne];omega
 have d1:decide ((t[a].toNat:Int)<128)=false:=decide_eq_false (by omega)
 have d2:decide ((194:Int)≤(t[a].toNat:Int))=false:=decide_eq_false (by omega)
 have d3:decide ((t[a].toNat:Int)<224)=true:=decide_eq_true (by omega)
 have d4:decide ((224:Int)≤(t[a].toNat:Int))=false:=decide_eq_false (by omega)
 have d5:decide ((t[a].toNat:Int)<240)=true:=decide_eq_true (by omega)
 have d6:decide ((240:Int)≤(t[a].toNat:Int))=false:=decide_eq_false (by omega)
 have d7:decide ((t[a].toNat:Int)<245)=true:=decide_eq_true (by omega)
 generalize chr t a=res at HC ⊢
 generalize goB t (a+1) 128 191=one at G1
 generalize goB t (a+2) 128 191=two at G2
 generalize goB t (a+3) 128 191=three at G3
 clear hr
 go_enter Tryz.func167,Tryz.ntmps167
 go_wp2_with fail
 refine Calls.mono (G1.out _) ?_
 rintro e w2 ⟨rfl,rfl⟩
 go_wp2_with fail
 refine Calls.mono (G2.out _) ?_
 rintro e w3 ⟨rfl,rfl⟩
 go_wp2_with fail
 refine Calls.mono (G3.out _) ?_
 rintro e w4 ⟨rfl,rfl⟩
 go_wp2_with fail
 go_ret
 exact⟨ret_i64 (by rw[HC.out];rfl),rfl⟩
theorem char_3(t:ByteArray)(a:Nat)(w:World)(hm:t.size≤140737488355328)(ha:a<t.size)(hr:194≤(t[a].toNat:Int)∧(t[a].toNat:Int)<224):
 Calls Tryz.prog 167 #[.string t,.int .i64 a] w fun e w'=>e= .returned (.int .i64 (chr t a))∧w'=w:=by
 have HE:Hid ((t[a].toNat:Int)=b8 t a):=b8_get t a ha
 have hx:(t[a].toNat:Int)<256:=by have:=t[a].toNat_lt;omega
 have G1:Hid (∀w,Calls Tryz.prog 190 #[.string t,.int .i64 ((a:Int)+1),.int .i64 128,.int .i64 191] w fun e w'=>e= .returned (.bool (goB t (a+1) 128 191))∧w=w'):=fun w=>(goes_any t (a+1) 128 191 w (by omega)).mono fun e w' h=>⟨h.1,h.2.symm⟩
 have G2:Hid (∀w,Calls Tryz.prog 190 #[.string t,.int .i64 ((a:Int)+2),.int .i64 128,.int .i64 191] w fun e w'=>e= .returned (.bool (goB t (a+2) 128 191))∧w=w'):=fun w=>(goes_any t (a+2) 128 191 w (by omega)).mono fun e w' h=>⟨h.1,h.2.symm⟩
 have G3:Hid (∀w,Calls Tryz.prog 190 #[.string t,.int .i64 ((a:Int)+3),.int .i64 128,.int .i64 191] w fun e w'=>e= .returned (.bool (goB t (a+3) 128 191))∧w=w'):=fun w=>(goes_any t (a+3) 128 191 w (by omega)).mono fun e w' h=>⟨h.1,h.2.symm⟩
 have HC:Hid (chr t a=if goB t (a+1) 128 191=true then 2 else 0):=by
  have e:=HE.out
  exact chr_2 t a 128 191 (by omega) (by omega) (by unfold loB;rw[if_neg (by omega),if_neg (by omega)]) (by unfold hiB;rw[if_neg (by omega),if_neg (by omega)])
 have e224:((t[a].toNat:Int)==224)=false:=by rw[beq_eq_false_iff_ne];omega
 have e237:((t[a].toNat:Int)==237)=false:=by rw[beq_eq_false_iff_ne];omega
 have e240:((t[a].toNat:Int)==240)=false:=by rw[beq_eq_false_iff_ne];omega
 have e244:((t[a].toNat:Int)==244)=false:=by rw[beq_eq_false_iff_ne];omega
 have d1:decide ((t[a].toNat:Int)<128)=false:=decide_eq_false (by omega)
 have d2:decide ((194:Int)≤(t[a].toNat:Int))=true:=decide_eq_true (by omega)
 have d3:decide ((t[a].toNat:Int)<224)=true:=decide_eq_true (by omega)
 have d4:decide ((224:Int)≤(t[a].toNat:Int))=false:=decide_eq_false (by omega)
 have d5:decide ((t[a].toNat:Int)<240)=true:=decide_eq_true (by omega)
 have d6:decide ((240:Int)≤(t[a].toNat:Int))=false:=decide_eq_false (by omega)
 have d7:decide ((t[a].toNat:Int)<245)=true:=decide_eq_true (by omega)
 generalize chr t a=res at HC ⊢
 generalize goB t (a+1) 128 191=one at G1 HC
 generalize goB t (a+2) 128 191=two at G2
 generalize goB t (a+3) 128 191=three at G3
 clear hr
 go_enter Tryz.func167,Tryz.ntmps167
 go_wp2_with fail
 refine Calls.mono (G1.out _) ?_
 rintro e w2 ⟨rfl,rfl⟩
 go_wp2_with fail
 refine Calls.mono (G2.out _) ?_
 rintro e w3 ⟨rfl,rfl⟩
 go_wp2_with fail
 refine Calls.mono (G3.out _) ?_
 rintro e w4 ⟨rfl,rfl⟩
 cases one
 ·go_wp2_with fail
  go_ret
  exact⟨ret_i64 (by rw[HC.out];rw[if_neg (by simp)];rfl),rfl⟩
 ·go_wp2_with fail
  go_ret
  exact⟨ret_i64 (by rw[HC.out];rw[if_pos (by simp)];rfl),rfl⟩
theorem char_4(t:ByteArray)(a:Nat)(w:World)(hm:t.size≤140737488355328)(ha:a<t.size)(hr:(t[a].toNat:Int)=224):
 Calls Tryz.prog 167 #[.string t,.int .i64 a] w fun e w'=>e= .returned (.int .i64 (chr t a))∧w'=w:=by
 have HE:Hid ((t[a].toNat:Int)=b8 t a):=b8_get t a ha
 have hx:(t[a].toNat:Int)<256:=by have:=t[a].toNat_lt;omega
 have G1:Hid (∀w,Calls Tryz.prog 190 #[.string t,.int .i64 ((a:Int)+1),.int .i64 160,.int .i64 191] w fun e w'=>e= .returned (.bool (goB t (a+1) 160 191))∧w=w'):=fun w=>(goes_any t (a+1) 160 191 w (by omega)).mono fun e w' h=>⟨h.1,h.2.symm⟩
 have G2:Hid (∀w,Calls Tryz.prog 190 #[.string t,.int .i64 ((a:Int)+2),.int .i64 128,.int .i64 191] w fun e w'=>e= .returned (.bool (goB t (a+2) 128 191))∧w=w'):=fun w=>(goes_any t (a+2) 128 191 w (by omega)).mono fun e w' h=>⟨h.1,h.2.symm⟩
 have G3:Hid (∀w,Calls Tryz.prog 190 #[.string t,.int .i64 ((a:Int)+3),.int .i64 128,.int .i64 191] w fun e w'=>e= .returned (.bool (goB t (a+3) 128 191))∧w=w'):=fun w=>(goes_any t (a+3) 128 191 w (by omega)).mono fun e w' h=>⟨h.1,h.2.symm⟩
 have HC:Hid (chr t a=if goB t (a+1) 160 191=true∧goB t (a+2) 128 191=true then 3 else 0):=by
  have e:=HE.out
  exact chr_3 t a 160 191 (by omega) (by omega) (by unfold loB;rw[if_pos (by omega)]) (by unfold hiB;rw[if_neg (by omega),if_neg (by omega)])
 have e224:((t[a].toNat:Int)==224)=true:=by rw[beq_iff_eq];omega
 have e237:((t[a].toNat:Int)==237)=false:=by rw[beq_eq_false_iff_ne];omega
 have e240:((t[a].toNat:Int)==240)=false:=by rw[beq_eq_false_iff_ne];omega
 have e244:((t[a].toNat:Int)==244)=false:=by rw[beq_eq_false_iff_ne];omega
 have d1:decide ((t[a].toNat:Int)<128)=false:=decide_eq_false (by omega)
 have d2:decide ((194:Int)≤(t[a].toNat:Int))=true:=decide_eq_true (by omega)
 have d3:decide ((t[a].toNat:Int)<224)=false:=decide_eq_false (by omega)
 have d4:decide ((224:Int)≤(t[a].toNat:Int))=true:=decide_eq_true (by omega)
 have d5:decide ((t[a].toNat:Int)<240)=true:=decide_eq_true (by omega)
 have d6:decide ((240:Int)≤(t[a].toNat:Int))=false:=decide_eq_false (by omega)
 have d7:decide ((t[a].toNat:Int)<245)=true:=decide_eq_true (by omega)
 generalize chr t a=res at HC ⊢
 generalize goB t (a+1) 160 191=one at G1 HC
 generalize goB t (a+2) 128 191=two at G2 HC
 generalize goB t (a+3) 128 191=three at G3
 clear hr
 go_enter Tryz.func167,Tryz.ntmps167
 go_wp2_with fail
 refine Calls.mono (G1.out _) ?_
 rintro e w2 ⟨rfl,rfl⟩
 go_wp2_with fail
 refine Calls.mono (G2.out _) ?_
 rintro e w3 ⟨rfl,rfl⟩
 go_wp2_with fail
 refine Calls.mono (G3.out _) ?_
 rintro e w4 ⟨rfl,rfl⟩
 cases one
 ·go_wp2_with fail
  go_ret
  exact⟨ret_i64 (by rw[HC.out];rw[if_neg (by simp)];rfl),rfl⟩
 cases two
 ·go_wp2_with fail
  go_ret
  exact⟨ret_i64 (by rw[HC.out];rw[if_neg (by simp)];rfl),rfl⟩
 ·go_wp2_with fail
  go_ret
  exact⟨ret_i64 (by rw[HC.out];rw[if_pos (by simp)];rfl),rfl⟩
theorem char_5(t:ByteArray)(a:Nat)(w:World)(hm:t.size≤140737488355328)(ha:a<t.size)(hr:225≤(t[a].toNat:Int)∧(t[a].toNat:Int)<237):
 Calls Tryz.prog 167 #[.string t,.int .i64 a] w fun e w'=>e= .returned (.int .i64 (chr t a))∧w'=w:=by
 have HE:Hid ((t[a].toNat:Int)=b8 t a):=b8_get t a ha
 have hx:(t[a].toNat:Int)<256:=by have:=t[a].toNat_lt;omega
 have G1:Hid (∀w,Calls Tryz.prog 190 #[.string t,.int .i64 ((a:Int)+1),.int .i64 128,.int .i64 191] w fun e w'=>e= .returned (.bool (goB t (a+1) 128 191))∧w=w'):=fun w=>(goes_any t (a+1) 128 191 w (by omega)).mono fun e w' h=>⟨h.1,h.2.symm⟩
 have G2:Hid (∀w,Calls Tryz.prog 190 #[.string t,.int .i64 ((a:Int)+2),.int .i64 128,.int .i64 191] w fun e w'=>e= .returned (.bool (goB t (a+2) 128 191))∧w=w'):=fun w=>(goes_any t (a+2) 128 191 w (by omega)).mono fun e w' h=>⟨h.1,h.2.symm⟩
 have G3:Hid (∀w,Calls Tryz.prog 190 #[.string t,.int .i64 ((a:Int)+3),.int .i64 128,.int .i64 191] w fun e w'=>e= .returned (.bool (goB t (a+3) 128 191))∧w=w'):=fun w=>(goes_any t (a+3) 128 191 w (by omega)).mono fun e w' h=>⟨h.1,h.2.symm⟩
 have HC:Hid (chr t a=if goB t (a+1) 128 191=true∧goB t (a+2) 128 191=true then 3 else 0):=by
  have e:=HE.out
  exact chr_3 t a 128 191 (by omega) (by omega) (by unfold loB;rw[if_neg (by omega),if_neg (by omega)]) (by unfold hiB;rw[if_neg (by omega),if_neg (by omega)])
 have e224:((t[a].toNat:Int)==224)=false:=by rw[beq_eq_false_iff_ne];omega
 have e237:((t[a].toNat:Int)==237)=false:=by rw[beq_eq_false_iff_ne];omega
 have e240:((t[a].toNat:Int)==240)=false:=by rw[beq_eq_false_iff_ne];omega
 have e244:((t[a].toNat:Int)==244)=false:=by rw[beq_eq_false_iff_ne];omega
 have d1:decide ((t[a].toNat:Int)<128)=false:=decide_eq_false (by omega)
 have d2:decide ((194:Int)≤(t[a].toNat:Int))=true:=decide_eq_true (by omega)
 have d3:decide ((t[a].toNat:Int)<224)=false:=decide_eq_false (by omega)
 have d4:decide ((224:Int)≤(t[a].toNat:Int))=true:=decide_eq_true (by omega)
 have d5:decide ((t[a].toNat:Int)<240)=true:=decide_eq_true (by omega)
 have d6:decide ((240:Int)≤(t[a].toNat:Int))=false:=decide_eq_false (by omega)
 have d7:decide ((t[a].toNat:Int)<245)=true:=decide_eq_true (by omega)
 generalize chr t a=res at HC ⊢
 generalize goB t (a+1) 128 191=one at G1 HC
 generalize goB t (a+2) 128 191=two at G2 HC
 generalize goB t (a+3) 128 191=three at G3
 clear hr
 go_enter Tryz.func167,Tryz.ntmps167
 go_wp2_with fail
 refine Calls.mono (G1.out _) ?_
 rintro e w2 ⟨rfl,rfl⟩
 go_wp2_with fail
 refine Calls.mono (G2.out _) ?_
 rintro e w3 ⟨rfl,rfl⟩
 go_wp2_with fail
 refine Calls.mono (G3.out _) ?_
 rintro e w4 ⟨rfl,rfl⟩
 cases one
 ·go_wp2_with fail
  go_ret
  exact⟨ret_i64 (by rw[HC.out];rw[if_neg (by simp)];rfl),rfl⟩
 cases two
 ·go_wp2_with fail
  go_ret
  exact⟨ret_i64 (by rw[HC.out];rw[if_neg (by simp)];rfl),rfl⟩
 ·go_wp2_with fail
  go_ret
  exact⟨ret_i64 (by rw[HC.out];rw[if_pos (by simp)];rfl),rfl⟩
theorem char_6(t:ByteArray)(a:Nat)(w:World)(hm:t.size≤140737488355328)(ha:a<t.size)(hr:(t[a].toNat:Int)=237):
 Calls Tryz.prog 167 #[.string t,.int .i64 a] w fun e w'=>e= .returned (.int .i64 (chr t a))∧w'=w:=by
 have HE:Hid ((t[a].toNat:Int)=b8 t a):=b8_get t a ha
 have hx:(t[a].toNat:Int)<256:=by have:=t[a].toNat_lt;omega
 have G1:Hid (∀w,Calls Tryz.prog 190 #[.string t,.int .i64 ((a:Int)+1),.int .i64 128,.int .i64 159] w fun e w'=>e= .returned (.bool (goB t (a+1) 128 159))∧w=w'):=fun w=>(goes_any t (a+1) 128 159 w (by omega)).mono fun e w' h=>⟨h.1,h.2.symm⟩
 have G2:Hid (∀w,Calls Tryz.prog 190 #[.string t,.int .i64 ((a:Int)+2),.int .i64 128,.int .i64 191] w fun e w'=>e= .returned (.bool (goB t (a+2) 128 191))∧w=w'):=fun w=>(goes_any t (a+2) 128 191 w (by omega)).mono fun e w' h=>⟨h.1,h.2.symm⟩
 have G3:Hid (∀w,Calls Tryz.prog 190 #[.string t,.int .i64 ((a:Int)+3),.int .i64 128,.int .i64 191] w fun e w'=>e= .returned (.bool (goB t (a+3) 128 191))∧w=w'):=fun w=>(goes_any t (a+3) 128 191 w (by omega)).mono fun e w' h=>⟨h.1,h.2.symm⟩
 have HC:Hid (chr t a=if goB t (a+1) 128 159=true∧goB t (a+2) 128 191=true then 3 else 0):=by
  have e:=HE.out
  exact chr_3 t a 128 159 (by omega) (by omega) (by unfold loB;rw[if_neg (by omega),if_neg (by omega)]) (by unfold hiB;rw[if_pos (by omega)])
 have e224:((t[a].toNat:Int)==224)=false:=by rw[beq_eq_false_iff_ne];omega
 have e237:((t[a].toNat:Int)==237)=true:=by rw[beq_iff_eq];omega
 have e240:((t[a].toNat:Int)==240)=false:=by rw[beq_eq_false_iff_ne];omega
 have e244:((t[a].toNat:Int)==244)=false:=by rw[beq_eq_false_iff_ne];omega
 have d1:decide ((t[a].toNat:Int)<128)=false:=decide_eq_false (by omega)
 have d2:decide ((194:Int)≤(t[a].toNat:Int))=true:=decide_eq_true (by omega)
 have d3:decide ((t[a].toNat:Int)<224)=false:=decide_eq_false (by omega)
 have d4:decide ((224:Int)≤(t[a].toNat:Int))=true:=decide_eq_true (by omega)
 have d5:decide ((t[a].toNat:Int)<240)=true:=decide_eq_true (by omega)
 have d6:decide ((240:Int)≤(t[a].toNat:Int))=false:=decide_eq_false (by omega)
 have d7:decide ((t[a].toNat:Int)<245)=true:=decide_eq_true (by omega)
 generalize chr t a=res at HC ⊢
 generalize goB t (a+1) 128 159=one at G1 HC
 generalize goB t (a+2) 128 191=two at G2 HC
 generalize goB t (a+3) 128 191=three at G3
 clear hr
 go_enter Tryz.func167,Tryz.ntmps167
 go_wp2_with fail
 refine Calls.mono (G1.out _) ?_
 rintro e w2 ⟨rfl,rfl⟩
 go_wp2_with fail
 refine Calls.mono (G2.out _) ?_
 rintro e w3 ⟨rfl,rfl⟩
 go_wp2_with fail
 refine Calls.mono (G3.out _) ?_
 rintro e w4 ⟨rfl,rfl⟩
 cases one
 ·go_wp2_with fail
  go_ret
  exact⟨ret_i64 (by rw[HC.out];rw[if_neg (by simp)];rfl),rfl⟩
 cases two
 ·go_wp2_with fail
  go_ret
  exact⟨ret_i64 (by rw[HC.out];rw[if_neg (by simp)];rfl),rfl⟩
 ·go_wp2_with fail
  go_ret
  exact⟨ret_i64 (by rw[HC.out];rw[if_pos (by simp)];rfl),rfl⟩
theorem char_7(t:ByteArray)(a:Nat)(w:World)(hm:t.size≤140737488355328)(ha:a<t.size)(hr:238≤(t[a].toNat:Int)∧(t[a].toNat:Int)<240):
 Calls Tryz.prog 167 #[.string t,.int .i64 a] w fun e w'=>e= .returned (.int .i64 (chr t a))∧w'=w:=by
 have HE:Hid ((t[a].toNat:Int)=b8 t a):=b8_get t a ha
 have hx:(t[a].toNat:Int)<256:=by have:=t[a].toNat_lt;omega
 have G1:Hid (∀w,Calls Tryz.prog 190 #[.string t,.int .i64 ((a:Int)+1),.int .i64 128,.int .i64 191] w fun e w'=>e= .returned (.bool (goB t (a+1) 128 191))∧w=w'):=fun w=>(goes_any t (a+1) 128 191 w (by omega)).mono fun e w' h=>⟨h.1,h.2.symm⟩
 have G2:Hid (∀w,Calls Tryz.prog 190 #[.string t,.int .i64 ((a:Int)+2),.int .i64 128,.int .i64 191] w fun e w'=>e= .returned (.bool (goB t (a+2) 128 191))∧w=w'):=fun w=>(goes_any t (a+2) 128 191 w (by omega)).mono fun e w' h=>⟨h.1,h.2.symm⟩
 have G3:Hid (∀w,Calls Tryz.prog 190 #[.string t,.int .i64 ((a:Int)+3),.int .i64 128,.int .i64 191] w fun e w'=>e= .returned (.bool (goB t (a+3) 128 191))∧w=w'):=fun w=>(goes_any t (a+3) 128 191 w (by omega)).mono fun e w' h=>⟨h.1,h.2.symm⟩
 have HC:Hid (chr t a=if goB t (a+1) 128 191=true∧goB t (a+2) 128 191=true then 3 else 0):=by
  have e:=HE.out
  exact chr_3 t a 128 191 (by omega) (by omega) (by unfold loB;rw[if_neg (by omega),if_neg (by omega)]) (by unfold hiB;rw[if_neg (by omega),if_neg (by omega)])
 have e224:((t[a].toNat:Int)==224)=false:=by rw[beq_eq_false_iff_ne];omega
 have e237:((t[a].toNat:Int)==237)=false:=by rw[beq_eq_false_iff_ne];omega
 have e240:((t[a].toNat:Int)==240)=false:=by rw[beq_eq_false_iff_ne];omega
 have e244:((t[a].toNat:Int)==244)=false:=by rw[beq_eq_false_iff_ne];omega
 have d1:decide ((t[a].toNat:Int)<128)=false:=decide_eq_false (by omega)
 have d2:decide ((194:Int)≤(t[a].toNat:Int))=true:=decide_eq_true (by omega)
 have d3:decide ((t[a].toNat:Int)<224)=false:=decide_eq_false (by omega)
 have d4:decide ((224:Int)≤(t[a].toNat:Int))=true:=decide_eq_true (by omega)
 have d5:decide ((t[a].toNat:Int)<240)=true:=decide_eq_true (by omega)
 have d6:decide ((240:Int)≤(t[a].toNat:Int))=false:=decide_eq_false (by omega)
 have d7:decide ((t[a].toNat:Int)<245)=true:=decide_eq_true (by omega)
 generalize chr t a=res at HC ⊢
 generalize goB t (a+1) 128 191=one at G1 HC
 generalize goB t (a+2) 128 191=two at G2 HC
 generalize goB t (a+3) 128 191=three at G3
 clear hr
 go_enter Tryz.func167,Tryz.ntmps167
 go_wp2_with fail
 refine Calls.mono (G1.out _) ?_
 rintro e w2 ⟨rfl,rfl⟩
 go_wp2_with fail
 refine Calls.mono (G2.out _) ?_
 rintro e w3 ⟨rfl,rfl⟩
 go_wp2_with fail
 refine Calls.mono (G3.out _) ?_
 rintro e w4 ⟨rfl,rfl⟩
 cases one
 ·go_wp2_with fail
  go_ret
  exact⟨ret_i64 (by rw[HC.out];rw[if_neg (by simp)];rfl),rfl⟩
 cases two
 ·go_wp2_with fail
  go_ret
  exact⟨ret_i64 (by rw[HC.out];rw[if_neg (by simp)];rfl),rfl⟩
 ·go_wp2_with fail
  go_ret
  exact⟨ret_i64 (by rw[HC.out];rw[if_pos (by simp)];rfl),rfl⟩
theorem char_8(t:ByteArray)(a:Nat)(w:World)(hm:t.size≤140737488355328)(ha:a<t.size)(hr:(t[a].toNat:Int)=240):
 Calls Tryz.prog 167 #[.string t,.int .i64 a] w fun e w'=>e= .returned (.int .i64 (chr t a))∧w'=w:=by
 have HE:Hid ((t[a].toNat:Int)=b8 t a):=b8_get t a ha
 have hx:(t[a].toNat:Int)<256:=by have:=t[a].toNat_lt;omega
 have G1:Hid (∀w,Calls Tryz.prog 190 #[.string t,.int .i64 ((a:Int)+1),.int .i64 144,.int .i64 191] w fun e w'=>e= .returned (.bool (goB t (a+1) 144 191))∧w=w'):=fun w=>(goes_any t (a+1) 144 191 w (by omega)).mono fun e w' h=>⟨h.1,h.2.symm⟩
 have G2:Hid (∀w,Calls Tryz.prog 190 #[.string t,.int .i64 ((a:Int)+2),.int .i64 128,.int .i64 191] w fun e w'=>e= .returned (.bool (goB t (a+2) 128 191))∧w=w'):=fun w=>(goes_any t (a+2) 128 191 w (by omega)).mono fun e w' h=>⟨h.1,h.2.symm⟩
 have G3:Hid (∀w,Calls Tryz.prog 190 #[.string t,.int .i64 ((a:Int)+3),.int .i64 128,.int .i64 191] w fun e w'=>e= .returned (.bool (goB t (a+3) 128 191))∧w=w'):=fun w=>(goes_any t (a+3) 128 191 w (by omega)).mono fun e w' h=>⟨h.1,h.2.symm⟩
 have HC:Hid (chr t a=if goB t (a+1) 144 191=true∧goB t (a+2) 128 191=true∧goB t (a+3) 128 191=true then 4 else 0):=by
  have e:=HE.out
  exact chr_4 t a 144 191 (by omega) (by omega) (by unfold loB;rw[if_neg (by omega),if_pos (by omega)]) (by unfold hiB;rw[if_neg (by omega),if_neg (by omega)])
 have e224:((t[a].toNat:Int)==224)=false:=by rw[beq_eq_false_iff_ne];omega
 have e237:((t[a].toNat:Int)==237)=false:=by rw[beq_eq_false_iff_ne];omega
 have e240:((t[a].toNat:Int)==240)=true:=by rw[beq_iff_eq];omega
 have e244:((t[a].toNat:Int)==244)=false:=by rw[beq_eq_false_iff_ne];omega
 have d1:decide ((t[a].toNat:Int)<128)=false:=decide_eq_false (by omega)
 have d2:decide ((194:Int)≤(t[a].toNat:Int))=true:=decide_eq_true (by omega)
 have d3:decide ((t[a].toNat:Int)<224)=false:=decide_eq_false (by omega)
 have d4:decide ((224:Int)≤(t[a].toNat:Int))=true:=decide_eq_true (by omega)
 have d5:decide ((t[a].toNat:Int)<240)=false:=decide_eq_false (by omega)
 have d6:decide ((240:Int)≤(t[a].toNat:Int))=true:=decide_eq_true (by omega)
 have d7:decide ((t[a].toNat:Int)<245)=true:=decide_eq_true (by omega)
 generalize chr t a=res at HC ⊢
 generalize goB t (a+1) 144 191=one at G1 HC
 generalize goB t (a+2) 128 191=two at G2 HC
 generalize goB t (a+3) 128 191=three at G3 HC
 clear hr
 go_enter Tryz.func167,Tryz.ntmps167
 go_wp2_with fail
 refine Calls.mono (G1.out _) ?_
 rintro e w2 ⟨rfl,rfl⟩
 go_wp2_with fail
 refine Calls.mono (G2.out _) ?_
 rintro e w3 ⟨rfl,rfl⟩
 go_wp2_with fail
 refine Calls.mono (G3.out _) ?_
 rintro e w4 ⟨rfl,rfl⟩
 cases one
 ·go_wp2_with fail
  go_ret
  exact⟨ret_i64 (by rw[HC.out];rw[if_neg (by simp)];rfl),rfl⟩
 cases two
 ·go_wp2_with fail
  go_ret
  exact⟨ret_i64 (by rw[HC.out];rw[if_neg (by simp)];rfl),rfl⟩
 cases three
 ·go_wp2_with fail
  go_ret
  exact⟨ret_i64 (by rw[HC.out];rw[if_neg (by simp)];rfl),rfl⟩
 ·go_wp2_with fail
  go_ret
  exact⟨ret_i64 (by rw[HC.out];rw[if_pos (by simp)];rfl),rfl⟩
theorem char_9(t:ByteArray)(a:Nat)(w:World)(hm:t.size≤140737488355328)(ha:a<t.size)(hr:241≤(t[a].toNat:Int)∧(t[a].toNat:Int)<244):
 Calls Tryz.prog 167 #[.string t,.int .i64 a] w fun e w'=>e= .returned (.int .i64 (chr t a))∧w'=w:=by
 have HE:Hid ((t[a].toNat:Int)=b8 t a):=b8_get t a ha
 have hx:(t[a].toNat:Int)<256:=by have:=t[a].toNat_lt;omega
 have G1:Hid (∀w,Calls Tryz.prog 190 #[.string t,.int .i64 ((a:Int)+1),.int .i64 128,.int .i64 191] w fun e w'=>e= .returned (.bool (goB t (a+1) 128 191))∧w=w'):=fun w=>(goes_any t (a+1) 128 191 w (by omega)).mono fun e w' h=>⟨h.1,h.2.symm⟩
 have G2:Hid (∀w,Calls Tryz.prog 190 #[.string t,.int .i64 ((a:Int)+2),.int .i64 128,.int .i64 191] w fun e w'=>e= .returned (.bool (goB t (a+2) 128 191))∧w=w'):=fun w=>(goes_any t (a+2) 128 191 w (by omega)).mono fun e w' h=>⟨h.1,h.2.symm⟩
 have G3:Hid (∀w,Calls Tryz.prog 190 #[.string t,.int .i64 ((a:Int)+3),.int .i64 128,.int .i64 191] w fun e w'=>e= .returned (.bool (goB t (a+3) 128 191))∧w=w'):=fun w=>(goes_any t (a+3) 128 191 w (by omega)).mono fun e w' h=>⟨h.1,h.2.symm⟩
 have HC:Hid (chr t a=if goB t (a+1) 128 191=true∧goB t (a+2) 128 191=true∧goB t (a+3) 128 191=true then 4 else 0):=by
  have e:=HE.out
  exact chr_4 t a 128 191 (by omega) (by omega) (by unfold loB;rw[if_neg (by omega),if_neg (by omega)]) (by unfold hiB;rw[if_neg (by omega),if_neg (by omega)])
 have e224:((t[a].toNat:Int)==224)=false:=by rw[beq_eq_false_iff_ne];omega
 have e237:((t[a].toNat:Int)==237)=false:=by rw[beq_eq_false_iff_ne];omega
 have e240:((t[a].toNat:Int)==240)=false:=by rw[beq_eq_false_iff_ne];omega
 have e244:((t[a].toNat:Int)==244)=false:=by rw[beq_eq_false_iff_ne];omega
 have d1:decide ((t[a].toNat:Int)<128)=false:=decide_eq_false (by omega)
 have d2:decide ((194:Int)≤(t[a].toNat:Int))=true:=decide_eq_true (by omega)
 have d3:decide ((t[a].toNat:Int)<224)=false:=decide_eq_false (by omega)
 have d4:decide ((224:Int)≤(t[a].toNat:Int))=true:=decide_eq_true (by omega)
 have d5:decide ((t[a].toNat:Int)<240)=false:=decide_eq_false (by omega)
 have d6:decide ((240:Int)≤(t[a].toNat:Int))=true:=decide_eq_true (by omega)
 have d7:decide ((t[a].toNat:Int)<245)=true:=decide_eq_true (by omega)
 generalize chr t a=res at HC ⊢
 generalize goB t (a+1) 128 191=one at G1 HC
 generalize goB t (a+2) 128 191=two at G2 HC
 generalize goB t (a+3) 128 191=three at G3 HC
 clear hr
 go_enter Tryz.func167,Tryz.ntmps167
 go_wp2_with fail
 refine Calls.mono (G1.out _) ?_
 rintro e w2 ⟨rfl,rfl⟩
 go_wp2_with fail
 refine Calls.mono (G2.out _) ?_
 rintro e w3 ⟨rfl,rfl⟩
 go_wp2_with fail
 refine Calls.mono (G3.out _) ?_
 rintro e w4 ⟨rfl,rfl⟩
 cases one
 ·go_wp2_with fail
  go_ret
  exact⟨ret_i64 (by rw[HC.out];rw[if_neg (by simp)];rfl),rfl⟩
 cases two
 ·go_wp2_with fail
  go_ret
  exact⟨ret_i64 (by rw[HC.out];rw[if_neg (by simp)];rfl),rfl⟩
 cases three
 ·go_wp2_with fail
  go_ret
  exact⟨ret_i64 (by rw[HC.out];rw[if_neg (by simp)];rfl),rfl⟩
 ·go_wp2_with fail
  go_ret
  exact⟨ret_i64 (by rw[HC.out];rw[if_pos (by simp)];rfl),rfl⟩
theorem char_10(t:ByteArray)(a:Nat)(w:World)(hm:t.size≤140737488355328)(ha:a<t.size)(hr:(t[a].toNat:Int)=244):
 Calls Tryz.prog 167 #[.string t,.int .i64 a] w fun e w'=>e= .returned (.int .i64 (chr t a))∧w'=w:=by
 have HE:Hid ((t[a].toNat:Int)=b8 t a):=b8_get t a ha
 have hx:(t[a].toNat:Int)<256:=by have:=t[a].toNat_lt;omega
 have G1:Hid (∀w,Calls Tryz.prog 190 #[.string t,.int .i64 ((a:Int)+1),.int .i64 128,.int .i64 143] w fun e w'=>e= .returned (.bool (goB t (a+1) 128 143))∧w=w'):=fun w=>(goes_any t (a+1) 128 143 w (by omega)).mono fun e w' h=>⟨h.1,h.2.symm⟩
 have G2:Hid (∀w,Calls Tryz.prog 190 #[.string t,.int .i64 ((a:Int)+2),.int .i64 128,.int .i64 191] w fun e w'=>e= .returned (.bool (goB t (a+2) 128 191))∧w=w'):=fun w=>(goes_any t (a+2) 128 191 w (by omega)).mono fun e w' h=>⟨h.1,h.2.symm⟩
 have G3:Hid (∀w,Calls Tryz.prog 190 #[.string t,.int .i64 ((a:Int)+3),.int .i64 128,.int .i64 191] w fun e w'=>e= .returned (.bool (goB t (a+3) 128 191))∧w=w'):=fun w=>(goes_any t (a+3) 128 191 w (by omega)).mono fun e w' h=>⟨h.1,h.2.symm⟩
 have HC:Hid (chr t a=if goB t (a+1) 128 143=true∧goB t (a+2) 128 191=true∧goB t (a+3) 128 191=true then 4 else 0):=by
  have e:=HE.out
  exact chr_4 t a 128 143 (by omega) (by omega) (by unfold loB;rw[if_neg (by omega),if_neg (by omega)]) (by unfold hiB;rw[if_neg (by omega),if_pos (by omega)])
 have e224:((t[a].toNat:Int)==224)=false:=by rw[beq_eq_false_iff_ne];omega
 have e237:((t[a].toNat:Int)==237)=false:=by rw[beq_eq_false_iff_ne];omega
 have e240:((t[a].toNat:Int)==240)=false:=by rw[beq_eq_false_iff_ne];omega
 have e244:((t[a].toNat:Int)==244)=true:=by rw[beq_iff_eq];omega
 have d1:decide ((t[a].toNat:Int)<128)=false:=decide_eq_false (by omega)
 have d2:decide ((194:Int)≤(t[a].toNat:Int))=true:=decide_eq_true (by omega)
 have d3:decide ((t[a].toNat:Int)<224)=false:=decide_eq_false (by omega)
 have d4:decide ((224:Int)≤(t[a].toNat:Int))=true:=decide_eq_true (by omega)
 have d5:decide ((t[a].toNat:Int)<240)=false:=decide_eq_false (by omega)
 have d6:decide ((240:Int)≤(t[a].toNat:Int))=true:=decide_eq_true (by omega)
 have d7:decide ((t[a].toNat:Int)<245)=true:=decide_eq_true (by omega)
 generalize chr t a=res at HC ⊢
 generalize goB t (a+1) 128 143=one at G1 HC
 generalize goB t (a+2) 128 191=two at G2 HC
 generalize goB t (a+3) 128 191=three at G3 HC
 clear hr
 go_enter Tryz.func167,Tryz.ntmps167
 go_wp2_with fail
 refine Calls.mono (G1.out _) ?_
 rintro e w2 ⟨rfl,rfl⟩
 go_wp2_with fail
 refine Calls.mono (G2.out _) ?_
 rintro e w3 ⟨rfl,rfl⟩
 go_wp2_with fail
 refine Calls.mono (G3.out _) ?_
 rintro e w4 ⟨rfl,rfl⟩
 cases one
 ·go_wp2_with fail
  go_ret
  exact⟨ret_i64 (by rw[HC.out];rw[if_neg (by simp)];rfl),rfl⟩
 cases two
 ·go_wp2_with fail
  go_ret
  exact⟨ret_i64 (by rw[HC.out];rw[if_neg (by simp)];rfl),rfl⟩
 cases three
 ·go_wp2_with fail
  go_ret
  exact⟨ret_i64 (by rw[HC.out];rw[if_neg (by simp)];rfl),rfl⟩
 ·go_wp2_with fail
  go_ret
  exact⟨ret_i64 (by rw[HC.out];rw[if_pos (by simp)];rfl),rfl⟩
theorem char_11(t:ByteArray)(a:Nat)(w:World)(hm:t.size≤140737488355328)(ha:a<t.size)(hr:245≤(t[a].toNat:Int)):
 Calls Tryz.prog 167 #[.string t,.int .i64 a] w fun e w'=>e= .returned (.int .i64 (chr t a))∧w'=w:=by
 have HE:Hid ((t[a].toNat:Int)=b8 t a):=b8_get t a ha
 have hx:(t[a].toNat:Int)<256:=by have:=t[a].toNat_lt;omega
 have G1:Hid (∀w,Calls Tryz.prog 190 #[.string t,.int .i64 ((a:Int)+1),.int .i64 128,.int .i64 191] w fun e w'=>e= .returned (.bool (goB t (a+1) 128 191))∧w=w'):=fun w=>(goes_any t (a+1) 128 191 w (by omega)).mono fun e w' h=>⟨h.1,h.2.symm⟩
 have G2:Hid (∀w,Calls Tryz.prog 190 #[.string t,.int .i64 ((a:Int)+2),.int .i64 128,.int .i64 191] w fun e w'=>e= .returned (.bool (goB t (a+2) 128 191))∧w=w'):=fun w=>(goes_any t (a+2) 128 191 w (by omega)).mono fun e w' h=>⟨h.1,h.2.symm⟩
 have G3:Hid (∀w,Calls Tryz.prog 190 #[.string t,.int .i64 ((a:Int)+3),.int .i64 128,.int .i64 191] w fun e w'=>e= .returned (.bool (goB t (a+3) 128 191))∧w=w'):=fun w=>(goes_any t (a+3) 128 191 w (by omega)).mono fun e w' h=>⟨h.1,h.2.symm⟩
 have HC:Hid (chr t a=0):=chr_0 t a (by rw[←HE.out];omega)
 have e224:((t[a].toNat:Int)==224)=false:=by rw[beq_eq_false_iff_ne];omega
 have e237:((t[a].toNat:Int)==237)=false:=by rw[beq_eq_false_iff_ne];omega
 have e240:((t[a].toNat:Int)==240)=false:=by rw[beq_eq_false_iff_ne];omega
 have e244:((t[a].toNat:Int)==244)=false:=by rw[beq_eq_false_iff_ne];omega
 have d1:decide ((t[a].toNat:Int)<128)=false:=decide_eq_false (by omega)
 have d2:decide ((194:Int)≤(t[a].toNat:Int))=true:=decide_eq_true (by omega)
 have d3:decide ((t[a].toNat:Int)<224)=false:=decide_eq_false (by omega)
 have d4:decide ((224:Int)≤(t[a].toNat:Int))=true:=decide_eq_true (by omega)
 have d5:decide ((t[a].toNat:Int)<240)=false:=decide_eq_false (by omega)
 have d6:decide ((240:Int)≤(t[a].toNat:Int))=true:=decide_eq_true (by omega)
 have d7:decide ((t[a].toNat:Int)<245)=false:=decide_eq_false (by omega)
 generalize chr t a=res at HC ⊢
 generalize goB t (a+1) 128 191=one at G1
 generalize goB t (a+2) 128 191=two at G2
 generalize goB t (a+3) 128 191=three at G3
 clear hr
 go_enter Tryz.func167,Tryz.ntmps167
 go_wp2_with fail
 refine Calls.mono (G1.out _) ?_
 rintro e w2 ⟨rfl,rfl⟩
 go_wp2_with fail
 refine Calls.mono (G2.out _) ?_
 rintro e w3 ⟨rfl,rfl⟩
 go_wp2_with fail
 refine Calls.mono (G3.out _) ?_
 rintro e w4 ⟨rfl,rfl⟩
 go_wp2_with fail
 go_ret
 exact⟨ret_i64 (by rw[HC.out];rfl),rfl⟩
theorem char_any(t:ByteArray)(a:Nat)(w:World)(hm:t.size≤140737488355328)(ha:a<t.size):
 Calls Tryz.prog 167 #[.string t,.int .i64 a] w fun e w'=>e= .returned (.int .i64 (chr t a))∧w'=w:=by
 by_cases h1:(t[a].toNat:Int)<128
 ·exact char_1 t a w hm ha h1
 by_cases h2:128≤(t[a].toNat:Int)∧(t[a].toNat:Int)<194
 ·exact char_2 t a w hm ha h2
 by_cases h3:194≤(t[a].toNat:Int)∧(t[a].toNat:Int)<224
 ·exact char_3 t a w hm ha h3
 by_cases h4:(t[a].toNat:Int)=224
 ·exact char_4 t a w hm ha h4
 by_cases h5:225≤(t[a].toNat:Int)∧(t[a].toNat:Int)<237
 ·exact char_5 t a w hm ha h5
 by_cases h6:(t[a].toNat:Int)=237
 ·exact char_6 t a w hm ha h6
 by_cases h7:238≤(t[a].toNat:Int)∧(t[a].toNat:Int)<240
 ·exact char_7 t a w hm ha h7
 by_cases h8:(t[a].toNat:Int)=240
 ·exact char_8 t a w hm ha h8
 by_cases h9:241≤(t[a].toNat:Int)∧(t[a].toNat:Int)<244
 ·exact char_9 t a w hm ha h9
 by_cases h10:(t[a].toNat:Int)=244
 ·exact char_10 t a w hm ha h10
 exact char_11 t a w hm ha (by omega)
def uTo(t:ByteArray):Nat→Nat→Prop
 |0,k=>t.size≤k
 |n+1,k=>t.size≤k∨(chr t k≠0∧uTo t n (k+chr t k))
theorem uTo_mono(t:ByteArray):∀(n k:Nat),uTo t n k→uTo t (n+1) k
 |0,_,h=> .inl h
 |n+1,k,h=>by
  rcases h with h|⟨h1,h2⟩
  ·exact .inl h
  ·exact .inr ⟨h1,uTo_mono t n _ h2⟩
def Utf8From(t:ByteArray)(k:Nat):Prop:=∃n,uTo t n k
def Utf8Ok(t:ByteArray):Prop:=Utf8From t 0
theorem utf8_end(t:ByteArray)(k:Nat)(h:t.size≤k):Utf8From t k:=⟨0,h⟩
theorem utf8_step(t:ByteArray)(k:Nat)(h:k<t.size):Utf8From t k↔chr t k≠0∧Utf8From t (k+chr t k):=by
 constructor
 ·rintro⟨n,hn⟩
  cases n with
  |zero=>have:t.size≤k:=hn;omega
  |succ n=>
   rcases hn with h'|⟨h1,h2⟩
   ·omega
   ·exact⟨h1,n,h2⟩
 ·rintro⟨h1,n,h2⟩
  exact⟨n+1,.inr ⟨h1,h2⟩⟩
theorem chr_le(t:ByteArray)(k:Nat)(h:k<t.size):k+chr t k≤t.size:=by
 have g:∀{a:Nat} {lo hi:Int},goB t a lo hi=true→a<t.size:=fun {a lo hi} e=>by
  unfold goB at e
  exact(of_decide_eq_true e).1
 unfold chr
 split
 ·omega
 split
 ·rename_i e;have:=g e.2.2;omega
 split
 ·rename_i e;have:=g e.2.2.2;omega
 split
 ·rename_i e;have:=g e.2.2.2.2;omega
 ·omega
theorem isUtf8_any(t:ByteArray)(w:World)(hm:t.size≤140737488355328):
 Calls Tryz.prog 125 #[.string t] w fun e w'=>RetB (Utf8Ok t) w e w':=by
 go_enter Tryz.func125,Tryz.ntmps125
 go_wp2
 go_loop [3] (fun i=>∃k:Nat,k≤t.size∧i= .int .i64 k∧(Utf8Ok t↔Utf8From t k)) (fun i=>t.size-(intOf i).toNat)
 case atStart=>exact⟨0,by omega,rfl,Iff.rfl⟩
 case round=>
  obtain⟨k,hk,rfl,hu⟩:=hrel
  have HU:Hid (Utf8Ok t↔Utf8From t k):=hu
  clear hu
  by_cases hlt:k<t.size
  ·have HS:Hid (Utf8From t k↔chr t k≠0∧Utf8From t (k+chr t k)):=utf8_step t k hlt
   have hc:=chr_le t k hlt
   have HC:Hid (∀w,Calls Tryz.prog 167 #[.string t,.int .i64 k] w fun e w'=>e= .returned (.int .i64 (chr t k))∧w=w'):=fun w=>(char_any t k w hm hlt).mono fun e w' h=>⟨h.1,h.2.symm⟩
   generalize chr t k=c at HS hc HC
   go_wp2_with fail
   refine Calls.mono (HC.out _) ?_
   rintro e w2 ⟨rfl,rfl⟩
   by_cases hz:c=0
   ·have HN:Hid (¬Utf8Ok t):=fun h=>(HS.out.1 (HU.out.1 h)).1 hz
    have hz':((c:Int)==0)=true:=by rw[beq_iff_eq];omega
    clear hz
    go_wp2_with fail
    go_ret
    exact ret_no HN.out (drew0 _)
   ·have HX:Hid (Utf8Ok t↔Utf8From t (k+c)):=HU.out.trans (HS.out.trans ⟨fun h=>h.2,fun h=>⟨hz,h⟩⟩)
    have hz':((c:Int)==0)=false:=by rw[beq_eq_false_iff_ne];omega
    have hpos:1≤c:=by omega
    clear hz
    go_wp2_with fail
    go_round
    case rel=>exact⟨k+c,by omega,by go_num,HX.out⟩
    case measure=>simp[intOf];omega
  ·have HY:Hid (Utf8Ok t):=HU.out.2 (utf8_end t k (by omega))
   go_wp2
   go_ret
   exact ret_yes HY.out (drew0 w)
end Go.Proofs.YtkkicodfpekbgaaGreatDoor
namespace Go.Proofs.YtkkicodfpekbgaaGreatDoor
open Go.Lib
set_option linter.unusedSimpArgs false
set_option linter.unusedVariables false
set_option maxRecDepth 100000
set_option maxHeartbeats 8000000
def bN(t:ByteArray)(i:Nat):Nat:=(t.data.toList.getD i 0).toNat
theorem b8_bN(t:ByteArray)(i:Nat):b8 t i=(bN t i:Int):=rfl
theorem bN_lt(t:ByteArray)(i:Nat):bN t i<256:=(t.data.toList.getD i 0).toNat_lt
theorem bN_drop(t:ByteArray)(k i:Nat):((t.data.toList.drop k).getD i 0).toNat=bN t (k+i):=by
 unfold bN
 simp[List.getD_eq_getElem?_getD,List.getElem?_drop]
theorem goB_iff(t:ByteArray)(a:Nat)(lo hi:Nat):goB t a lo hi=true↔a<t.size∧lo≤bN t a∧bN t a≤hi:=by
 unfold goB
 rw[decide_eq_true_iff,b8_bN]
 omega
def told(c:Nat):Option Nat:=if c=0 then none else some c
theorem told_ite(p:Prop) [Decidable p](q:Prop) [Decidable q](c:Nat)(hc:c≠0)(h:p↔¬q):(if q then none else some c)=told (if p then c else 0):=by
 by_cases hq:q
 ·rw[if_pos hq,if_neg (fun hp=>(h.1 hp) hq)];rfl
 ·rw[if_neg hq,if_pos (h.2 hq)];unfold told;rw[if_neg hc]
theorem check_2(t:ByteArray)(k lo hi:Nat)(h0:194≤bN t k)(h1:bN t k<224)(hl:loB (b8 t k)=(lo:Int))(hh:hiB (b8 t k)=(hi:Int)):
 checkN (t.size-k) (bN t (k+1)) (bN t (k+2)) (bN t (k+3)) 2 lo hi=told (chr t k):=by
 rw[chr_2 t k lo hi (by rw[b8_bN];omega) (by rw[b8_bN];omega) hl hh]
 unfold checkN
 rw[if_pos rfl]
 refine told_ite _ _ 2 (by omega) ?_
 rw[goB_iff]
 omega
theorem check_3(t:ByteArray)(k lo hi:Nat)(h0:224≤bN t k)(h1:bN t k<240)(hl:loB (b8 t k)=(lo:Int))(hh:hiB (b8 t k)=(hi:Int)):
 checkN (t.size-k) (bN t (k+1)) (bN t (k+2)) (bN t (k+3)) 3 lo hi=told (chr t k):=by
 rw[chr_3 t k lo hi (by rw[b8_bN];omega) (by rw[b8_bN];omega) hl hh]
 unfold checkN
 rw[if_neg (by omega),if_pos rfl]
 refine told_ite _ _ 3 (by omega) ?_
 rw[goB_iff,show((128:Int)=((128:Nat):Int))from rfl,show((191:Int)=((191:Nat):Int))from rfl,goB_iff]
 omega
theorem check_4(t:ByteArray)(k lo hi:Nat)(h0:240≤bN t k)(h1:bN t k<245)(hl:loB (b8 t k)=(lo:Int))(hh:hiB (b8 t k)=(hi:Int)):
 checkN (t.size-k) (bN t (k+1)) (bN t (k+2)) (bN t (k+3)) 4 lo hi=told (chr t k):=by
 rw[chr_4 t k lo hi (by rw[b8_bN];omega) (by rw[b8_bN];omega) hl hh]
 unfold checkN
 rw[if_neg (by omega),if_neg (by omega),if_pos rfl]
 refine told_ite _ _ 4 (by omega) ?_
 rw[goB_iff,show((128:Int)=((128:Nat):Int))from rfl,show((191:Int)=((191:Nat):Int))from rfl,goB_iff,goB_iff]
 omega
theorem check_chr(t:ByteArray)(k:Nat)(h:128≤bN t k):
 checkN (t.size-k) (bN t (k+1)) (bN t (k+2)) (bN t (k+3)) (firstT (bN t k)%8) (accLo (firstT (bN t k)/16)) (accHi (firstT (bN t k)/16))=told (chr t k):=by
 have key:∀x sz lo hi,firstT (bN t k)=x→x%8=sz→accLo (x/16)=lo→accHi (x/16)=hi→checkN (t.size-k) (bN t (k+1)) (bN t (k+2)) (bN t (k+3)) sz lo hi=told (chr t k)→
  checkN (t.size-k) (bN t (k+1)) (bN t (k+2)) (bN t (k+3)) (firstT (bN t k)%8) (accLo (firstT (bN t k)/16)) (accHi (firstT (bN t k)/16))=told (chr t k):=fun x sz lo hi e0 e1 e2 e3 he=>by
  rw[e0,e1,e2,e3];exact he
 have hb:=bN_lt t k
 have e8:=b8_bN t k
 have n128:¬bN t k<128:=by omega
 have bad:firstT (bN t k)=241→chr t k=0→checkN (t.size-k) (bN t (k+1)) (bN t (k+2)) (bN t (k+3)) (firstT (bN t k)%8) (accLo (firstT (bN t k)/16)) (accHi (firstT (bN t k)/16))=told (chr t k):=fun e0 ec=>by
  rw[e0,ec];rfl
 by_cases c0:bN t k<194
 ·exact bad (by unfold firstT;rw[if_neg n128,if_pos c0]) (chr_0 t k (.inl (by rw[e8];omega)))
 by_cases c1:bN t k<224
 ·exact key 2 2 128 191 (by unfold firstT;rw[if_neg n128,if_neg c0,if_pos c1]) (by decide) (by decide) (by decide)
   (check_2 t k 128 191 (by omega) c1 (by rw[e8];unfold loB;rw[if_neg (by omega),if_neg (by omega)];rfl) (by rw[e8];unfold hiB;rw[if_neg (by omega),if_neg (by omega)];rfl))
 by_cases c2:bN t k=224
 ·exact key 19 3 160 191 (by rw[c2];decide) (by decide) (by decide) (by decide)
   (check_3 t k 160 191 (by omega) (by omega) (by rw[e8,c2];decide) (by rw[e8,c2];decide))
 by_cases c3:bN t k<237
 ·exact key 3 3 128 191 (by unfold firstT;rw[if_neg n128,if_neg c0,if_neg c1,if_neg c2,if_pos c3]) (by decide) (by decide) (by decide)
   (check_3 t k 128 191 (by omega) (by omega) (by rw[e8];unfold loB;rw[if_neg (by omega),if_neg (by omega)];rfl) (by rw[e8];unfold hiB;rw[if_neg (by omega),if_neg (by omega)];rfl))
 by_cases c4:bN t k=237
 ·exact key 35 3 128 159 (by rw[c4];decide) (by decide) (by decide) (by decide)
   (check_3 t k 128 159 (by omega) (by omega) (by rw[e8,c4];decide) (by rw[e8,c4];decide))
 by_cases c5:bN t k<240
 ·exact key 3 3 128 191 (by unfold firstT;rw[if_neg n128,if_neg c0,if_neg c1,if_neg c2,if_neg c3,if_neg c4,if_pos c5]) (by decide) (by decide) (by decide)
   (check_3 t k 128 191 (by omega) (by omega) (by rw[e8];unfold loB;rw[if_neg (by omega),if_neg (by omega)];rfl) (by rw[e8];unfold hiB;rw[if_neg (by omega),if_neg (by omega)];rfl))
 by_cases c6:bN t k=240
 ·exact key 52 4 144 191 (by rw[c6];decide) (by decide) (by decide) (by decide)
   (check_4 t k 144 191 (by omega) (by omega) (by rw[e8,c6];decide) (by rw[e8,c6];decide))
 by_cases c7:bN t k<244
 ·exact key 4 4 128 191 (by unfold firstT;rw[if_neg n128,if_neg c0,if_neg c1,if_neg c2,if_neg c3,if_neg c4,if_neg c5,if_neg c6,if_pos c7]) (by decide) (by decide) (by decide)
   (check_4 t k 128 191 (by omega) (by omega) (by rw[e8];unfold loB;rw[if_neg (by omega),if_neg (by omega)];rfl) (by rw[e8];unfold hiB;rw[if_neg (by omega),if_neg (by omega)];rfl))
 by_cases c8:bN t k=244
 ·exact key 68 4 128 143 (by rw[c8];decide) (by decide) (by decide) (by decide)
   (check_4 t k 128 143 (by omega) (by omega) (by rw[e8,c8];decide) (by rw[e8,c8];decide))
 ·exact bad (by unfold firstT;rw[if_neg n128,if_neg c0,if_neg c1,if_neg c2,if_neg c3,if_neg c4,if_neg c5,if_neg c6,if_neg c7,if_neg c8]) (chr_0 t k (.inr (by rw[e8];omega)))
theorem size_list(t:ByteArray):t.data.toList.length=t.size:=Array.length_toList
theorem valid_chr(t:ByteArray)(k:Nat)(hk:k<t.size):
 validD (t.data.toList.drop k)=if chr t k=0 then false else validD (t.data.toList.drop (k+chr t k)):=by
 have hlen:(t.data.toList.drop k).length=t.size-k:=by rw[List.length_drop,size_list]
 have hne:t.data.toList.drop k≠ []:=fun e=>by rw[e]at hlen;simp at hlen;omega
 by_cases h:bN t k<128
 ·have hc:chr t k=1:=chr_1 t k (by rw[b8_bN];omega)
  have hk':k<t.data.toList.length:=by rw[size_list];exact hk
  rw[hc,if_neg (by omega),List.drop_eq_getElem_cons hk',validD_cons]
  have:bN t k=t.data.toList[k].toNat:=by
   unfold bN
   rw[List.getD_eq_getElem?_getD,List.getElem?_eq_getElem hk']
   rfl
  omega
 ·rw[validD_lead _ hne (by rw[bN_drop];show 128≤bN t k;omega),hlen,bN_drop,bN_drop,bN_drop,bN_drop]
  show(match checkN (t.size-k) (bN t (k+1)) (bN t (k+2)) (bN t (k+3)) (firstT (bN t k)%8) (accLo (firstT (bN t k)/16)) (accHi (firstT (bN t k)/16))with
   |none=>false
   |some j=>validD ((t.data.toList.drop k).drop j))=_
  rw[check_chr t k (by omega)]
  unfold told
  by_cases hc:chr t k=0
  ·rw[if_pos hc,if_pos hc]
  ·rw[if_neg hc,if_neg hc]
   show validD ((t.data.toList.drop k).drop (chr t k))=_
   rw[List.drop_drop]
theorem utf8_valid_from(t:ByteArray):∀(n k:Nat),t.size-k≤n→k≤t.size→(Utf8From t k↔validD (t.data.toList.drop k)=true)
 |n,k,hn,hk=>by
  by_cases he:k=t.size
  ·have:t.data.toList.drop k=[]:=List.drop_eq_nil_of_le (by rw[size_list];omega)
   rw[this,validD_nil]
   exact⟨fun _=>rfl,fun _=>utf8_end t k (by omega)⟩
  ·have hk':k<t.size:=by omega
   rw[utf8_step t k hk',valid_chr t k hk']
   by_cases hc:chr t k=0
   ·rw[if_pos hc]
    exact⟨fun h=>absurd hc h.1,fun h=>by cases h⟩
   ·rw[if_neg hc]
    match n,hn with
    |0,hn=>omega
    |n+1,hn=>
     have ih:=utf8_valid_from t n (k+chr t k) (by omega) (chr_le t k hk')
     exact⟨fun h=>ih.1 h.2,fun h=>⟨hc,ih.2 h⟩⟩
theorem utf8_valid(t:ByteArray):Utf8Ok t↔validD t.data.toList=true:=by
 have:=utf8_valid_from t t.size 0 (by omega) (by omega)
 rw[List.drop_zero]at this
 exact this
end Go.Proofs.YtkkicodfpekbgaaGreatDoor
namespace Go.Proofs.YtkkicodfpekbgaaGreatDoor
open Go.RowKit
set_option linter.unusedSimpArgs false
set_option linter.unusedVariables false
set_option maxRecDepth 100000
set_option maxHeartbeats 8000000
def decTo(s:ByteArray):Nat→Int
 |0=>0
 |k+1=>decTo s k*10+(b8 s k-48)
def DigTo(s:ByteArray)(n:Nat):Prop:=∀i,i<n→48≤b8 s i∧b8 s i≤57
theorem decTo_bd(s:ByteArray)(k:Nat)(hk:k≤4)(h:DigTo s k):0≤decTo s k∧decTo s k<10000:=by
 match k,hk,h with
 |0,_,_=>simp[decTo]
 |1,_,h=>have:=h 0 (by omega);simp only[decTo];omega
 |2,_,h=>have:=h 0 (by omega);have:=h 1 (by omega);simp only[decTo];omega
 |3,_,h=>have:=h 0 (by omega);have:=h 1 (by omega);have:=h 2 (by omega);simp only[decTo];omega
 |4,_,h=>have:=h 0 (by omega);have:=h 1 (by omega);have:=h 2 (by omega);have:=h 3 (by omega);simp only[decTo];omega
theorem decimal_any(s:ByteArray)(w:World)(h4:s.size≤4)(hd:DigTo s s.size):
 Calls Tryz.prog 197 #[.string s] w fun e w'=>e= .returned (.int .i64 (decTo s s.size))∧w'=w:=by
 have HD:Hid (DigTo s s.size):=hd
 clear hd
 go_enter Tryz.func197,Tryz.ntmps197
 go_wp2
 go_loop [3,7] (fun n i=>∃k:Nat,k≤s.size∧i= .int .i64 k∧n= .int .i64 (decTo s k)) (fun _ i=>s.size-(intOf i).toNat)
 case atStart=>exact⟨0,by omega,rfl,rfl⟩
 case round=>
  obtain⟨k,hk,rfl,rfl⟩:=hrel
  have hb:=decTo_bd s k (by omega) (fun i hi=>HD.out i (by omega))
  have hb0:0≤decTo s k:=hb.1
  have hb1:decTo s k<10000:=hb.2
  clear hb
  by_cases hlt:k<s.size
  ·have HE:Hid ((s[k].toNat:Int)=b8 s k):=b8_get s k hlt
   have hx:=HD.out k hlt
   have hx0:48≤(s[k].toNat:Int):=by rw[HE.out];exact hx.1
   have hx1:(s[k].toNat:Int)≤57:=by rw[HE.out];exact hx.2
   clear hx
   go_wp2
   go_round
   case rel=>exact⟨k+1,by omega,by go_num,by show _=Value.int .i64 (decTo s k*10+(b8 s k-48));rw[←HE.out]⟩
   case measure=>simp[intOf];omega
  ·have hkc:s.size=k:=by omega
   have HF:Hid (decTo s k=decTo s s.size):=by show _=_;rw[hkc]
   clear hkc
   go_wp2
   go_ret
   exact⟨ret_i64 HF.out,rfl⟩
theorem numberRef_any(s:ByteArray)(w:World)(h4:s.size≤4)(hd:DigTo s s.size):
 Calls Tryz.prog 168 #[.string s] w fun e w'=>e= .returned (.int .i64 (decTo s s.size))∧w'=w:=by
 have HD:Hid (DigTo s s.size):=hd
 clear hd
 go_enter Tryz.func168,Tryz.ntmps168
 go_wp2
 go_loop [3,4] (fun n i=>∃k:Nat,k≤s.size∧i= .int .i64 k∧n= .int .i64 (decTo s k)) (fun _ i=>s.size-(intOf i).toNat)
 case atStart=>exact⟨0,by omega,rfl,rfl⟩
 case round=>
  obtain⟨k,hk,rfl,rfl⟩:=hrel
  have hb:=decTo_bd s k (by omega) (fun i hi=>HD.out i (by omega))
  have hb0:0≤decTo s k:=hb.1
  have hb1:decTo s k<10000:=hb.2
  clear hb
  by_cases hlt:k<s.size
  ·have HE:Hid ((s[k].toNat:Int)=b8 s k):=b8_get s k hlt
   have hx:=HD.out k hlt
   have hx0:48≤(s[k].toNat:Int):=by rw[HE.out];exact hx.1
   have hx1:(s[k].toNat:Int)≤57:=by rw[HE.out];exact hx.2
   clear hx
   go_wp2
   go_round
   case rel=>exact⟨k+1,by omega,by go_num,by show _=Value.int .i64 (decTo s k*10+(b8 s k-48));rw[←HE.out];go_num⟩
   case measure=>simp[intOf];omega
  ·have hkc:s.size=k:=by omega
   have HF:Hid (decTo s k=decTo s s.size):=by show _=_;rw[hkc]
   clear hkc
   go_wp2
   go_ret
   exact⟨ret_i64 HF.out,rfl⟩
def lastDay(y m:Int):Int:=if m=2 then(if y%400=0∨y%4=0∧y%100≠0 then 29 else 28)else if m=4∨m=6∨m=9∨m=11 then 30 else 31
def Leap(y:Int):Prop:=y%400=0∨y%4=0∧y%100≠0
def Days(w:World):Prop:=∀i,i<12→w.cell? ⟨18,i,none⟩=some (.int .i64 ([31,28,31,30,31,30,31,31,30,31,30,31].getD i 0))
theorem Days.drew{w:World}(h:Days w)(k:Nat):Days (w.drewN k):=h
theorem isLeap_any(y:Int)(w:World)(h0:0≤y)(h1:y<10000):
 Calls Tryz.prog 210 #[.int .i64 y] w fun e w'=>e= .returned (.bool (decide (y%400=0∨y%4=0∧y%100≠0)))∧w'=w:=by
 by_cases h4:y%4=0
 ·have h4':(y%4==0)=true:=beq_iff_eq.2 h4
  by_cases h100:y%100=0
  ·have h100':(y%100!=0)=false:=by rw[bne_eq_false_iff_eq];exact h100
   have HB:Hid ((y%400==0)=decide (y%400=0∨y%4=0∧y%100≠0)):=by
    show _=_
    rw[Bool.eq_iff_iff,beq_iff_eq,decide_eq_true_iff];omega
   clear h4 h100
   go_enter Tryz.func210,Tryz.ntmps210
   go_wp2
   go_ret
   exact⟨ret_b HB.out,rfl⟩
  ·have h100':(y%100!=0)=true:=by rw[bne_iff_ne];exact h100
   have HB:Hid (true=decide (y%400=0∨y%4=0∧y%100≠0)):=by
    show _=_
    rw[eq_comm,decide_eq_true_iff];omega
   clear h4 h100
   go_enter Tryz.func210,Tryz.ntmps210
   go_wp2
   go_ret
   exact⟨ret_b HB.out,rfl⟩
 ·have h4':(y%4==0)=false:=beq_eq_false_iff_ne.2 h4
  have HB:Hid ((y%400==0)=decide (y%400=0∨y%4=0∧y%100≠0)):=by
   show _=_
   rw[Bool.eq_iff_iff,beq_iff_eq,decide_eq_true_iff];omega
  clear h4
  go_enter Tryz.func210,Tryz.ntmps210
  go_wp2
  go_ret
  exact⟨ret_b HB.out,rfl⟩
theorem lastDay_any(y:Int)(m:Nat)(w:World)(h0:0≤y)(h1:y<10000)(hm0:1≤m)(hm1:m≤12)(hD:Days w):
 Calls Tryz.prog 207 #[.int .i64 y,.int .i64 m] w fun e w'=>e= .returned (.int .i64 (lastDay y m))∧w'=w:=by
 have hc:w.cell? ⟨18,m-1,none⟩=some (.int .i64 ([31,28,31,30,31,30,31,31,30,31,30,31].getD (m-1) 0)):=hD (m-1) (by omega)
 clear hD
 by_cases h2:m=2
 ·have HL:Hid (Calls Tryz.prog 210 #[.int .i64 y] w fun e w'=>e= .returned (.bool (decide (y%400=0∨y%4=0∧y%100≠0)))∧w'=w):=isLeap_any y w h0 h1
  subst h2
  have hl:lastDay y ((2:Nat):Int)=if y%400=0∨y%4=0∧y%100≠0 then 29 else 28:=rfl
  rw[hl]
  by_cases hy:y%400=0∨y%4=0∧y%100≠0
  ·rw[if_pos hy]
   rw[decide_eq_true hy]at HL
   clear hy hl
   go_enter Tryz.func207,Tryz.ntmps207
   go_wp2_with fail
   refine Calls.mono HL.out ?_
   rintro e w2 ⟨rfl,rfl⟩
   go_wp2_with fail
   go_ret
   exact⟨rfl,rfl⟩
  ·rw[if_neg hy]
   rw[decide_eq_false hy]at HL
   clear hy hl
   go_enter Tryz.func207,Tryz.ntmps207
   go_wp2_with fail
   refine Calls.mono HL.out ?_
   rintro e w2 ⟨rfl,hw⟩
   subst hw
   go_wp2_with fail
   go_ret
   exact⟨rfl,rfl⟩
 ·have h2':((m:Int)==2)=false:=by rw[beq_eq_false_iff_ne];omega
  have HV:Hid ([31,28,31,30,31,30,31,31,30,31,30,31].getD (m-1) 0=lastDay y m):=by
   show _=_
   obtain⟨j,rfl⟩:∃j,m=j+1:=⟨m-1,by omega⟩
   match j,hm1,h2 with
   |0,_,_=>rfl
   |2,_,_=>rfl
   |3,_,_=>rfl
   |4,_,_=>rfl
   |5,_,_=>rfl
   |6,_,_=>rfl
   |7,_,_=>rfl
   |8,_,_=>rfl
   |9,_,_=>rfl
   |10,_,_=>rfl
   |11,_,_=>rfl
  generalize([31,28,31,30,31,30,31,31,30,31,30,31].getD (m-1) 0:Int)=v at hc HV
  clear h2
  go_enter Tryz.func207,Tryz.ntmps207
  go_wp2
  go_ret
  exact⟨ret_i64 HV.out,rfl⟩
def dec(t:ByteArray)(a b:Nat):Int:=decTo (t.extract a b) (t.extract a b).size
def DayOk(y m d:Int):Prop:=1≤m∧m≤12∧1≤d∧d≤lastDay y m
def TimeOk(t:ByteArray):Prop:=t.size=15∧b8 t 14=90∧DigTo t 14∧DayOk (dec t 0 4) (dec t 4 6) (dec t 6 8)∧dec t 8 10≤23∧dec t 10 12≤59∧dec t 12 14≤59
theorem b8_cut(t:ByteArray)(a b i:Nat)(hi:i<b-a)(_hb:b≤t.size):b8 (t.extract a b) i=b8 t (a+i):=by
 unfold b8
 rw[Lib.extract_data]
 rw[List.getD_eq_getElem?_getD,List.getD_eq_getElem?_getD]
 first
  |(rw[List.getElem?_take_of_lt hi,List.getElem?_drop];done)
  |(simp[List.getElem?_take_of_lt hi,List.getElem?_drop];done)
theorem dig_cut{t:ByteArray}(h:DigTo t 14)(hs:t.size=15)(a b:Nat)(hb:b≤14):DigTo (t.extract a b) (t.extract a b).size:=by
 intro i hi
 rw[ByteArray.size_extract]at hi
 rw[b8_cut t a b i (by omega) (by omega)]
 exact h (a+i) (by omega)
theorem dec_bd{t:ByteArray}(h:DigTo t 14)(hs:t.size=15)(a b:Nat)(hb:b≤14)(hab:b-a≤4):0≤dec t a b∧dec t a b<10000:=
 decTo_bd _ _ (by rw[ByteArray.size_extract];omega) (dig_cut h hs a b hb)
theorem dec_bd2{t:ByteArray}(h:DigTo t 14)(hs:t.size=15)(a:Nat)(hb:a+2≤14):0≤dec t a (a+2)∧dec t a (a+2)<100:=by
 unfold dec
 have hz:(t.extract a (a+2)).size=2:=by rw[ByteArray.size_extract];omega
 have hd:=dig_cut h hs a (a+2) hb
 rw[hz]at hd ⊢
 have h0:=hd 0 (by omega)
 have h1:=hd 1 (by omega)
 simp only[decTo]
 omega
theorem isDate_any(y:Int)(m d:Nat)(w:World)(h0:0≤y)(h1:y<10000)(hm:m<100)(hd:d<100)(hD:Days w):
 Calls Tryz.prog 198 #[.int .i64 y,.int .i64 m,.int .i64 d] w fun e w'=>∃r,e= .returned (.bool r)∧(r=true↔DayOk y m d)∧w'=w:=by
 have HD:Hid (Days w):=hD
 clear hD
 by_cases q1:1≤m∧m≤12
 ·obtain⟨a1,a2⟩:=q1
  by_cases q2:1≤d
  ·have HL:Hid (Calls Tryz.prog 207 #[.int .i64 y,.int .i64 m] w fun e w'=>e= .returned (.int .i64 (lastDay y m))∧w'=w):=lastDay_any y m w h0 h1 a1 a2 HD.out
   have HI:Hid (decide ((d:Int)≤lastDay y m)=true↔DayOk y m d):=by
    show _↔_
    rw[decide_eq_true_iff]
    exact⟨fun h=>⟨by omega,by omega,by omega,h⟩,fun h=>h.2.2.2⟩
   generalize lastDay y m=L at HL HI
   go_enter Tryz.func198,Tryz.ntmps198
   go_wp2_with fail
   refine Calls.mono HL.out ?_
   rintro e w2 ⟨rfl,hw⟩
   subst hw
   go_wp2_with fail
   go_ret
   exact⟨_,rfl,HI.out,rfl⟩
  ·have HN:Hid (¬DayOk y m d):=fun h=>by have:=h.2.2.1;omega
   have c1:decide ((1:Int)≤(d:Int))=false:=decide_eq_false (by omega)
   go_enter Tryz.func198,Tryz.ntmps198
   go_wp2
   go_ret
   exact⟨false,rfl,⟨fun e=>(by cases e),fun h=>absurd h HN.out⟩,rfl⟩
 ·have HN:Hid (¬DayOk y m d):=fun h=>q1 ⟨by have:=h.1;omega,by have:=h.2.1;omega⟩
  by_cases q3:1≤m
  ·have c1:decide ((m:Int)≤12)=false:=decide_eq_false (by omega)
   clear q1
   go_enter Tryz.func198,Tryz.ntmps198
   go_wp2
   go_ret
   exact⟨false,rfl,⟨fun e=>(by cases e),fun h=>absurd h HN.out⟩,rfl⟩
  ·have c1:decide ((1:Int)≤(m:Int))=false:=decide_eq_false (by omega)
   clear q1
   go_enter Tryz.func198,Tryz.ntmps198
   go_wp2
   go_ret
   exact⟨false,rfl,⟨fun e=>(by cases e),fun h=>absurd h HN.out⟩,rfl⟩
theorem drew2{w w1:World}{a:Nat}(h:w.drewN a=w1)(b:Nat):∃k,w1.drewN b=w.drewN k:=⟨a+b,by rw[←h,World.drewN_drewN]⟩
theorem timeOk_iff{t:ByteArray}(hs:t.size=15)(hz:b8 t 14=90)(hg:DigTo t 14):TimeOk t↔DayOk (dec t 0 4) (dec t 4 6) (dec t 6 8)∧dec t 8 10≤23∧dec t 10 12≤59∧dec t 12 14≤59:=
 ⟨fun h=>h.2.2.2,fun h=>⟨hs,hz,hg,h⟩⟩
theorem fitsTime_any(t:ByteArray)(w:World)(hm:t.size≤9223372036854775807)(hD:Days w):
 Calls Tryz.prog 178 #[.string t] w fun e w'=>RetB (TimeOk t) w e w':=by
 have HD:Hid (Days w):=hD
 clear hD
 by_cases hs:t.size=15
 ·have hs':((t.size:Int)!=15)=false:=by rw[bne_eq_false_iff_eq];omega
  have h14:14<t.size:=by omega
  have h14':(14:Int)<t.size:=by omega
  have HZ:Hid ((t[14].toNat:Int)=b8 t 14):=b8_get t 14 h14
  have HS:Hid (t.size=15):=hs
  have hge:15≤t.size:=by omega
  clear hs
  by_cases hz:(t[14].toNat:Int)=90
  ·have hz':((t[14].toNat:Int)!=90)=false:=by rw[bne_eq_false_iff_eq];exact hz
   have HZ2:Hid (b8 t 14=90):=by show _=_;rw[←HZ.out];exact hz
   clear hz
   go_enter Tryz.func178,Tryz.ntmps178
   go_wp2
   go_loop [18] (fun i=>∃k:Nat,k≤14∧i= .int .i64 k∧DigTo t k) (fun i=>14-(intOf i).toNat)
   case atStart=>exact⟨0,by omega,rfl,fun j h=>absurd h (Nat.not_lt_zero _)⟩
   case round=>
    obtain⟨k,hk,rfl,hg⟩:=hrel
    have HG:Hid (DigTo t k):=hg
    clear hg
    by_cases hlt:k<14
    ·have hkt:k<t.size:=by omega
     have HE:Hid ((t[k].toNat:Int)=b8 t k):=b8_get t k hkt
     by_cases hd:48≤(t[k].toNat:Int)∧(t[k].toNat:Int)≤57
     ·have HX:Hid (DigTo t (k+1)):=fun i hi=>by
       by_cases e:i=k
       ·subst e;rw[←HE.out];exact hd
       ·exact HG.out i (by omega)
      obtain⟨d1,d2⟩:=hd
      go_wp2
      go_round
      case rel=>exact⟨k+1,by omega,by go_num,HX.out⟩
      case measure=>simp[intOf];omega
     ·have HN:Hid (¬TimeOk t):=fun h=>hd (by rw[HE.out];exact h.2.2.1 k hlt)
      by_cases d1:48≤(t[k].toNat:Int)
      ·have c1:decide ((t[k].toNat:Int)≤57)=false:=decide_eq_false (by omega)
       clear hd
       go_wp2
       go_ret
       exact ret_no HN.out (drew0 w)
      ·have c1:decide ((48:Int)≤(t[k].toNat:Int))=false:=decide_eq_false d1
       clear hd
       go_wp2
       go_ret
       exact ret_no HN.out (drew0 w)
    ·have hk14:k=14:=by omega
     subst hk14
     have HG:DigTo t 14:=HG.out
     have hs:=HS.out
     have PY:Hid (∀w,Calls Tryz.prog 197 #[.string (t.extract 0 4)] w fun e w'=>e= .returned (.int .i64 (dec t 0 4))∧w'=w):=fun w=>decimal_any _ w (by rw[ByteArray.size_extract];omega) (dig_cut HG hs 0 4 (by omega))
     have PMo:Hid (∀w,Calls Tryz.prog 197 #[.string (t.extract 4 6)] w fun e w'=>e= .returned (.int .i64 (dec t 4 6))∧w'=w):=fun w=>decimal_any _ w (by rw[ByteArray.size_extract];omega) (dig_cut HG hs 4 6 (by omega))
     have PDa:Hid (∀w,Calls Tryz.prog 197 #[.string (t.extract 6 8)] w fun e w'=>e= .returned (.int .i64 (dec t 6 8))∧w'=w):=fun w=>decimal_any _ w (by rw[ByteArray.size_extract];omega) (dig_cut HG hs 6 8 (by omega))
     have PHo:Hid (∀w,Calls Tryz.prog 197 #[.string (t.extract 8 10)] w fun e w'=>e= .returned (.int .i64 (dec t 8 10))∧w'=w):=fun w=>decimal_any _ w (by rw[ByteArray.size_extract];omega) (dig_cut HG hs 8 10 (by omega))
     have PMi:Hid (∀w,Calls Tryz.prog 197 #[.string (t.extract 10 12)] w fun e w'=>e= .returned (.int .i64 (dec t 10 12))∧w'=w):=fun w=>decimal_any _ w (by rw[ByteArray.size_extract];omega) (dig_cut HG hs 10 12 (by omega))
     have PSe:Hid (∀w,Calls Tryz.prog 197 #[.string (t.extract 12 14)] w fun e w'=>e= .returned (.int .i64 (dec t 12 14))∧w'=w):=fun w=>decimal_any _ w (by rw[ByteArray.size_extract];omega) (dig_cut HG hs 12 14 (by omega))
     have HT:Hid (TimeOk t↔DayOk (dec t 0 4) (dec t 4 6) (dec t 6 8)∧dec t 8 10≤23∧dec t 10 12≤59∧dec t 12 14≤59):=timeOk_iff hs HZ2.out HG
     obtain⟨y0,y1⟩:=dec_bd HG hs 0 4 (by omega) (by omega)
     obtain⟨vMo,eMo⟩:=Int.eq_ofNat_of_zero_le (dec_bd2 HG hs 4 (by omega)).1
     have lMo:vMo<100:=by have:=(dec_bd2 HG hs 4 (by omega)).2;omega
     rw[eMo]at PMo HT
     obtain⟨vDa,eDa⟩:=Int.eq_ofNat_of_zero_le (dec_bd2 HG hs 6 (by omega)).1
     have lDa:vDa<100:=by have:=(dec_bd2 HG hs 6 (by omega)).2;omega
     rw[eDa]at PDa HT
     obtain⟨vHo,eHo⟩:=Int.eq_ofNat_of_zero_le (dec_bd2 HG hs 8 (by omega)).1
     have lHo:vHo<100:=by have:=(dec_bd2 HG hs 8 (by omega)).2;omega
     rw[eHo]at PHo HT
     obtain⟨vMi,eMi⟩:=Int.eq_ofNat_of_zero_le (dec_bd2 HG hs 10 (by omega)).1
     have lMi:vMi<100:=by have:=(dec_bd2 HG hs 10 (by omega)).2;omega
     rw[eMi]at PMi HT
     obtain⟨vSe,eSe⟩:=Int.eq_ofNat_of_zero_le (dec_bd2 HG hs 12 (by omega)).1
     have lSe:vSe<100:=by have:=(dec_bd2 HG hs 12 (by omega)).2;omega
     rw[eSe]at PSe HT
     generalize dec t 0 4=vY at PY HT y0 y1
     have z8:(8:Int)≤t.size:=by omega
     have z10:(10:Int)≤t.size:=by omega
     have z12:(12:Int)≤t.size:=by omega
     have z14:(14:Int)≤t.size:=by omega
     clear HG hs eMo eDa eHo eMi eSe
     go_wp2_with fail
     go_quiet ((first|(go_at_call_of 197 (Value.string (t.extract 0 4));exact Calls.quiet_of_same (PY.out _))|(go_at_call_of 197 (Value.string (t.extract 4 6));exact Calls.quiet_of_same (PMo.out _))|(go_at_call_of 197 (Value.string (t.extract 6 8));exact Calls.quiet_of_same (PDa.out _))))
     go_wp2_with fail
     generalize hw1:w.drewN nq=w1
     have HD1:Hid (Days w1):=by rw[←hw1];exact HD.out
     have HW1:Hid (w.drewN nq=w1):=hw1
     clear hw1
     go_quiet ((first|(go_at_call_of 197 (Value.string (t.extract 8 10));exact Calls.quiet_of_same (PHo.out _))|(go_at_call_of 197 (Value.string (t.extract 10 12));exact Calls.quiet_of_same (PMi.out _))|(go_at_call_of 197 (Value.string (t.extract 12 14));exact Calls.quiet_of_same (PSe.out _))))
     go_wp2_with fail
     refine(isDate_any vY vMo vDa _ y0 y1 lMo lDa (by exact HD1.out)).mono ?_
     rintro e w2 ⟨r,rfl,hr,hw⟩
     subst hw
     have HR:Hid (r=true↔DayOk vY vMo vDa):=hr
     clear hr
     cases r
     ·have HN:Hid (¬TimeOk t):=fun h=>by cases HR.out.2 (HT.out.1 h).1
      go_wp2_with fail
      go_ret
      exact ret_no HN.out (drew2 HW1.out _)
     by_cases g1:vHo≤23
     ·by_cases g2:vMi≤59
      ·by_cases g3:vSe≤59
       ·have HY:Hid (TimeOk t):=HT.out.2 ⟨HR.out.1 rfl,by omega,by omega,by omega⟩
        have c1:decide ((vSe:Int)≤59)=true:=decide_eq_true (by omega)
        go_wp2_with fail
        go_ret
        exact ret_yes HY.out (drew2 HW1.out _)
       ·have HN:Hid (¬TimeOk t):=fun h=>by have:=(HT.out.1 h).2.2.2;omega
        have c1:decide ((vSe:Int)≤59)=false:=decide_eq_false (by omega)
        go_wp2_with fail
        go_ret
        exact ret_no HN.out (drew2 HW1.out _)
      ·have HN:Hid (¬TimeOk t):=fun h=>by have:=(HT.out.1 h).2.2.1;omega
       have c1:decide ((vMi:Int)≤59)=false:=decide_eq_false (by omega)
       go_wp2_with fail
       go_ret
       exact ret_no HN.out (drew2 HW1.out _)
     ·have HN:Hid (¬TimeOk t):=fun h=>by have:=(HT.out.1 h).2.1;omega
      have c1:decide ((vHo:Int)≤23)=false:=decide_eq_false (by omega)
      go_wp2_with fail
      go_ret
      exact ret_no HN.out (drew2 HW1.out _)
  ·have hz':((t[14].toNat:Int)!=90)=true:=by rw[bne_iff_ne];exact hz
   have HN:Hid (¬TimeOk t):=fun h=>hz (HZ.out.trans h.2.1)
   clear hz
   go_enter Tryz.func178,Tryz.ntmps178
   go_wp2
   go_ret
   exact ret_no HN.out (drew0 w)
 ·have hs':((t.size:Int)!=15)=true:=by rw[bne_iff_ne];omega
  have HN:Hid (¬TimeOk t):=fun h=>hs h.1
  clear hs
  go_enter Tryz.func178,Tryz.ntmps178
  go_wp2
  go_ret
  exact ret_no HN.out (drew0 w)
end Go.Proofs.YtkkicodfpekbgaaGreatDoor
