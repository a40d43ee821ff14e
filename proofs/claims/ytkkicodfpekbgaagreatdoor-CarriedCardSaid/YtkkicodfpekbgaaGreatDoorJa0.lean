/-
Several texts in one.
-/
import Derived.WalkKit
import Derived.Laws.BitsLemmas
import Derived.Lib.Strings
import Derived.Test.YtkkicodfpekbgaaGreatDoorRows
import Derived.WalkSpells
import Derived.WalkLawsBesides
import Derived.BigQuiet
import Derived.Deep.QuietTactic
import Derived.Deep.AppendLies
import Derived.LaidEql
import Derived.Stop.Asserts
import Derived.RowKitTokens
namespace Go.Proofs.YtkkicodfpekbgaaGreatDoor
set_option linter.unusedSimpArgs false
set_option linter.unusedVariables false
set_option maxRecDepth 100000
set_option maxHeartbeats 8000000
theorem emp_t{t:ByteArray}(h:t.size=0):t.toList.isEmpty=true:=by
 rw[Lib.toList_data]
 have:t.data.toList.length=0:=by rw[Array.length_toList];exact h
 cases hl:t.data.toList with
 |nil=>rfl
 |cons a l=>rw[hl]at this;simp at this
theorem emp_f{t:ByteArray}(h:0<t.size):t.toList.isEmpty=false:=by
 rw[Lib.toList_data]
 have h2:t.data.toList.length=t.size:=by rw[Array.length_toList];rfl
 cases hl:t.data.toList with
 |nil=>rw[hl]at h2;simp at h2;omega
 |cons a l=>rfl
def b8(t:ByteArray)(i:Nat):Int:=((t.data.toList.getD i 0).toNat:Int)
theorem b8_get(t:ByteArray)(i:Nat)(h:i<t.size):(t[i].toNat:Int)=b8 t i:=by
 unfold b8
 have hl:i<t.data.toList.length:=by rw[Array.length_toList];exact h
 rw[List.getD_eq_getElem?_getD,List.getElem?_eq_getElem hl]
 rfl
theorem b8_bd(t:ByteArray)(i:Nat):0≤b8 t i∧b8 t i<256:=by
 unfold b8
 have:=(t.data.toList.getD i 0).toNat_lt
 omega
def numTo(t:ByteArray):Nat→Int
 |0=>0
 |k+1=>numTo t k*256+b8 t (k+1)
theorem numTo_bd(t:ByteArray):∀k:Nat,0≤numTo t k∧(k≤3→numTo t k<16777216)∧(k≤2→numTo t k<65536)∧(k≤1→numTo t k<256)
 |0=>by simp[numTo]
 |k+1=>by
  have ih:=numTo_bd t k
  have hb:=b8_bd t (k+1)
  simp only[numTo]
  refine⟨by omega,fun h=>?_,fun h=>?_,fun h=>?_⟩
  ·have:=ih.2.2.1 (by omega);omega
  ·have:=ih.2.2.2 (by omega);omega
  ·have:k=0:=by omega
   subst this
   simp only[numTo];omega
def cnt(n:Int):Int:=if n<128 then 0 else if n<256 then 1 else if n<65536 then 2 else 3
theorem cnt_cases(n:Int):(n<128∧cnt n=0)∨(128≤n∧n<256∧cnt n=1)∨(256≤n∧n<65536∧cnt n=2)∨(65536≤n∧cnt n=3):=by
 unfold cnt
 repeat' split
 all_goals omega
theorem wraps_i64(n:Int)(h₀:0≤n)(h₁:n<2^63):IntKind.i64.wrap n=n:=by rw[IntKind.wrap_i64];omega
theorem i64_or8(x y:Int)(h0:0≤x)(h1:x<4611686018427387904)(hx:x%256=0)(h2:0≤y)(h3:y<256):bits .or .i64 x y=x+y:=
 bits_join .i64 63 (by decide) wraps_i64 8 x y h0 hx (by omega) h2 h3 (by omega)
theorem i64_or6(x y:Int)(h0:0≤x)(h1:x<4611686018427387904)(hx:x%64=0)(h2:0≤y)(h3:y<64):bits .or .i64 x y=x+y:=
 bits_join .i64 63 (by decide) wraps_i64 6 x y h0 hx (by omega) h2 h3 (by omega)
theorem i64_and31(x:Int)(h0:0≤x)(h1:x<256):bits .and .i64 x 31=x%32:=bits_mask .i64 63 (by decide) wraps_i64 5 (by decide) x h0 (by omega)
theorem i64_and32(x:Int)(h0:0≤x)(h1:x<256):(bits .and .i64 x 32!=0)=(x/32%2==1):=by
 have all:∀j:Fin 256,(bits .and .i64 ((j.val:Nat):Int) 32!=0)=(((j.val:Nat):Int)/32%2==1):=by decide+kernel
 obtain⟨a,rfl⟩:=Int.eq_ofNat_of_zero_le h0
 exact all ⟨a,by omega⟩
theorem i64_or32(c n:Int)(h0:0≤c)(h1:c≤3)(h2:0≤n)(h3:n≤30):bits .or .i64 (c*64+n) 32=c*64+n+32:=by
 have all:∀j:Fin 4,∀k:Fin 31,bits .or .i64 (((j.val:Nat):Int)*64+((k.val:Nat):Int)) 32=((j.val:Nat):Int)*64+((k.val:Nat):Int)+32:=by decide+kernel
 obtain⟨a,rfl⟩:=Int.eq_ofNat_of_zero_le h0
 obtain⟨b,rfl⟩:=Int.eq_ofNat_of_zero_le h2
 exact all ⟨a,by omega⟩ ⟨b,by omega⟩
def rl(t:ByteArray):Int×Int×Int:=
 if t.size=0 then(3,0,0)
 else if b8 t 0<128 then(0,1,b8 t 0)
 else if b8 t 0=128∨131<b8 t 0 then(5,0,0)
 else if(t.size:Int)≤b8 t 0-128 then(3,0,0)
 else if b8 t 0-128≠cnt (numTo t (b8 t 0-128).toNat)then(5,0,0)
 else(0,1+(b8 t 0-128),numTo t (b8 t 0-128).toNat)
structure Hd where
 c:Int
 b:Bool
 n:Int
 s:Int
 l:Int
def Hd.zero:Hd:=⟨0,false,0,0,0⟩
def hd(r:ByteArray):Int×Hd:=
 if r.size=0 then(3,.zero)
 else if b8 r 0%32=31 then(4,.zero)
 else if(rl (r.extract 1 r.size)).1≠0 then((rl (r.extract 1 r.size)).1,.zero)
 else if(r.size:Int)-((rl (r.extract 1 r.size)).2.1+1)<(rl (r.extract 1 r.size)).2.2 then(3,.zero)
 else(0,⟨b8 r 0/64,b8 r 0/32%2==1,b8 r 0%32,(rl (r.extract 1 r.size)).2.1+1,(rl (r.extract 1 r.size)).2.2⟩)
theorem rl_bd(t:ByteArray):((rl t).1=0∨(rl t).1=3∨(rl t).1=5)∧0≤(rl t).2.1∧(rl t).2.1≤4∧0≤(rl t).2.2∧(rl t).2.2<16777216:=by
 have hb:=b8_bd t 0
 unfold rl
 split
 ·simp
 split
 ·simp;omega
 split
 ·simp
 split
 ·simp
 split
 ·simp
 ·rename_i h1 h2 h3 h4 h5
  have hn:=numTo_bd t (b8 t 0-128).toNat
  have:=hn.2.1 (by omega)
  refine⟨.inl rfl,?_,?_,hn.1,this⟩ <;>simp only<;>omega
def tl(n:Int):List UInt8:=
 if n<128 then [UInt8.ofNat n.toNat]
 else if n<256 then [129,UInt8.ofNat n.toNat]
 else if n<65536 then [130,UInt8.ofNat (n/256).toNat,UInt8.ofNat (n%256).toNat]
 else [131,UInt8.ofNat (n/65536).toNat,UInt8.ofNat (n/256%256).toNat,UInt8.ofNat (n%256).toNat]
theorem tl_length(n:Int):((tl n).length:Int)=1+cnt n:=by
 unfold tl cnt
 split
 ·rfl
 split
 ·rfl
 split<;>rfl
def fb(h:Hd):Int:=if h.b then h.c*64+h.n+32 else h.c*64+h.n
def tsp(h:Hd):Int×List UInt8:=
 if h.c<0∨3<h.c∨h.n<0∨30<h.n then(4,[])
 else if h.l<0∨16777215<h.l then(5,[])
 else(0,UInt8.ofNat (fb h).toNat::tl h.l)
def bv(u:UInt8):Value:= .int .u8 u.toNat
theorem bv_of(x:Int)(h0:0≤x)(h1:x<256):bv (UInt8.ofNat x.toNat)= .int .u8 x:=by
 unfold bv
 have:(UInt8.ofNat x.toNat).toNat=x.toNat:=by rw[UInt8.toNat_ofNat'];omega
 rw[this,Int.toNat_of_nonneg h0]
end Go.Proofs.YtkkicodfpekbgaaGreatDoor
namespace Go.Proofs.YtkkicodfpekbgaaGreatDoor
open Go.RowKit
set_option linter.unusedSimpArgs false
set_option linter.unusedVariables false
set_option maxRecDepth 100000
set_option maxHeartbeats 8000000
def pk(c n:Int):Int:=if c<0 then -(c+1)%n else c%n
theorem pk_bd(c n:Int)(hn:0<n):0≤pk c n∧pk c n<n:=by
 unfold pk
 split
 ·exact⟨Int.emod_nonneg _ (by omega),Int.emod_lt_of_pos _ hn⟩
 ·exact⟨Int.emod_nonneg _ (by omega),Int.emod_lt_of_pos _ hn⟩
theorem ret_int{a b:Int}(h:a=b):Ending.returned (.int .i64 a)= .returned (.int .i64 b):=by rw[h]
theorem pick_any(c n:Int)(w:World)(h0: -9223372036854775808≤c)(h1:c≤9223372036854775807)(hn:0<n)(hn1:n≤9223372036854775807):
 Calls Tryz.prog 25 #[.int .i64 c,.int .i64 n] w fun e w'=>e= .returned (.int .i64 (pk c n))∧w=w':=by
 unfold pk
 have hnz:(n==0)=false:=beq_eq_false_iff_ne.2 (by omega)
 by_cases h:c<0
 ·rw[if_pos h]
  go_enter Tryz.func25,Tryz.ntmps25
  go_wp2
  go_ret
  refine⟨ret_int ?_,rfl⟩
  rw[←Int.neg_tmod,Int.tmod_eq_emod_of_nonneg (by omega)]
 ·rw[if_neg h]
  go_enter Tryz.func25,Tryz.ntmps25
  go_wp2
  go_ret
  exact⟨rfl,rfl⟩
end Go.Proofs.YtkkicodfpekbgaaGreatDoor
namespace Go.Proofs.YtkkicodfpekbgaaGreatDoor
set_option linter.unusedSimpArgs false
set_option linter.unusedVariables false
set_option maxRecDepth 100000
set_option maxHeartbeats 8000000
structure Kd where
 node:Int
 opt:Bool
 dflt:ByteArray
structure Nd where
 kind:Int
 tag:Int
 mode:Int
 kids:List Kd
def nd0:Nd:=⟨0,0,0,[]⟩
def kd0:Kd:=⟨0,false,⟨#[]⟩⟩
def nd(s:List Nd)(i:Nat):Nd:=s.getD i nd0
def Nd.opn(n:Nd):Prop:=n.kind=13∧n.tag<0
def Nd.opnB(n:Nd):Bool:=decide (n.kind=13)&&decide (n.tag<0)
theorem Nd.opnB_iff(n:Nd):n.opnB=true↔n.opn:=by simp[Nd.opnB,Nd.opn]
theorem Nd.opnB_yes{n:Nd}(h:n.opn):n.opnB=true:=n.opnB_iff.2 h
theorem Nd.opnB_no{n:Nd}(h:¬n.opn):n.opnB=false:=Bool.eq_false_iff.2 fun q=>h (n.opnB_iff.1 q)
def Rch(s:List Nd)(i j:Nat):Prop:=∀P:Nat→Prop,P i→(∀(m:Nat) (k:Kd),P m→(nd s m).opn→k∈(nd s m).kids→P k.node.toNat)→P j
theorem Rch.refl{s:List Nd}{i:Nat}:Rch s i i:=fun _ h _=>h
theorem Rch.step{s:List Nd}{i j:Nat}{k:Kd}(h:Rch s i j)(ho:(nd s j).opn)(hk:k∈(nd s j).kids):Rch s i k.node.toNat:=fun P h0 hs=>hs j k (h P h0 hs) ho hk
theorem Rch.ind{s:List Nd}{i:Nat}{P:Nat→Prop}(h0:P i)(hs:∀(m:Nat) (k:Kd),Rch s i m→(nd s m).opn→k∈(nd s m).kids→P m→P k.node.toNat){j:Nat}(h:Rch s i j):P j:=
 (h (fun j=>Rch s i j∧P j) ⟨.refl,h0⟩ fun m k q ho hk=>⟨q.1.step ho hk,hs m k q.1 ho hk q.2⟩).2
def Back(s:List Nd)(i:Nat):Prop:=∃j,Rch s i j∧(nd s j).opn∧∃k∈(nd s j).kids,k.node=i
def Leaf(s:List Nd)(i j:Nat):Prop:=Rch s i j∧¬(nd s j).opn
def Within(s:List Nd):Prop:=∀i,i<s.length→∀k∈(nd s i).kids,0≤k.node∧k.node<s.length
theorem Rch.lt{s:List Nd}(hw:Within s){i j:Nat}(hi:i<s.length)(h:Rch s i j):j<s.length:=by
 refine Rch.ind (P:=fun j=>j<s.length) hi (fun m k _ _ hk ih=>?_) h
 have:=hw _ ih _ hk;omega
theorem Rch.trans{s:List Nd}{i j k:Nat}(h1:Rch s i j)(h2:Rch s j k):Rch s i k:=by
 exact Rch.ind (P:=fun k=>Rch s i k) h1 (fun _ _ _ ho hk ih=>ih.step ho hk) h2
theorem nodup_le:∀(n:Nat) (l:List Nat),l.Nodup→(∀x∈l,x<n)→l.length≤n
 |0,[],_,_=>Nat.le_refl _
 |0,x::_,_,h=>absurd (h x (by simp)) (by omega)
 |n+1,l,hd,h=>by
  have h2:=nodup_le n (l.erase n) (hd.erase n) (fun x hx=>by
   have h3:=h x (List.mem_of_mem_erase hx)
   have h4:x≠n:=fun e=>by subst e;exact hd.not_mem_erase hx
   omega)
  have h5:=List.length_erase (a:=n) (l:=l)
  split at h5<;>omega
theorem leaf_ex{s:List Nd}(hw:Within s)(hk:∀i,i<s.length→(nd s i).opn→(nd s i).kids≠ [])(hb:∀i,i<s.length→¬Back s i){i:Nat}(hi:i<s.length):
 ∃j,Leaf s i j:=by
 apply Classical.byContradiction
 intro hno
 have ho:∀j,Rch s i j→(nd s j).opn:=fun j hj=>Classical.byContradiction fun h=>hno ⟨j,hj,h⟩
 have key:∀n:Nat,∃l:List Nat,l.length=n+1∧l.Nodup∧(∀x∈l,Rch s i x)∧(∃c r,l=c::r∧∀x∈l,Rch s x c):=by
  intro n
  induction n with
  |zero=>exact⟨[i],rfl,by simp,by simp[Rch.refl],i,[],rfl,by simp[Rch.refl]⟩
  |succ n ih=>
   obtain⟨l,hl,hd,hr,c,r,hc,hx⟩:=ih
   have hrc:Rch s i c:=hr c (by simp[hc])
   have hcl:=hrc.lt hw hi
   obtain⟨k,ks,hks⟩:=List.exists_cons_of_ne_nil (hk c hcl (ho c hrc))
   have hkm:k∈(nd s c).kids:=by simp[hks]
   have hkr:=hw c hcl k hkm
   have hst:∀x∈l,Rch s x k.node.toNat:=fun x h=> .step (hx x h) (ho c hrc) hkm
   refine⟨k.node.toNat::l,by simp[hl],?_,?_,k.node.toNat,l,rfl,?_⟩
   ·rw[List.nodup_cons]
    refine⟨fun hm=>?_,hd⟩
    have hlt:k.node.toNat<s.length:=by omega
    exact hb _ hlt ⟨c,hx _ hm,ho c hrc,k,hkm,by omega⟩
   ·intro x h
    rcases List.mem_cons.1 h with rfl|h
    ·exact .step hrc (ho c hrc) hkm
    ·exact hr x h
   ·intro x h
    rcases List.mem_cons.1 h with rfl|h
    ·exact .refl
    ·exact hst x h
 obtain⟨l,hl,hd,hr,_⟩:=key s.length
 have:=nodup_le s.length l hd (fun x h=>(hr x h).lt hw hi)
 omega
def own(k:Int):Int:=[0,1,2,5,6,3,4,12,19,24,16,16,17].getD k.toNat 0
def begAt(n:Nd)(c m:Int):Prop:=(0≤n.tag∧c=2∧m=n.tag)∨(n.tag<0∧n.kind=14)∨(n.tag<0∧n.kind≠14∧c=0∧m=own n.kind)
def Beg(s:List Nd)(i:Nat)(c m:Int):Prop:=∃j,Leaf s i j∧begAt (nd s j) c m
def Common(s:List Nd)(i k:Nat):Prop:=∃c m:Int,0≤c∧c<4∧0≤m∧m<31∧Beg s i c m∧Beg s k c m
def Nd.every(n:Nd):Prop:=n.kind=14∧n.tag<0
def Nd.everyB(n:Nd):Bool:=decide (n.kind=14)&&decide (n.tag<0)
theorem Nd.everyB_iff(n:Nd):n.everyB=true↔n.every:=by simp[Nd.everyB,Nd.every]
theorem Nd.everyB_yes{n:Nd}(h:n.every):n.everyB=true:=n.everyB_iff.2 h
theorem Nd.everyB_no{n:Nd}(h:¬n.every):n.everyB=false:=Bool.eq_false_iff.2 fun q=>h (n.everyB_iff.1 q)
def Nd.outer(n:Nd):Int×Int:=if 0≤n.tag then(2,n.tag)else(0,own n.kind)
theorem begAt_iff(n:Nd)(c m:Int):begAt n c m↔n.every∨(¬n.every∧n.outer=(c,m)):=by
 unfold begAt Nd.every Nd.outer
 by_cases h:0≤n.tag
 ·rw[if_pos h,Prod.mk.injEq]
  constructor
  ·rintro(⟨_,a,b⟩|⟨a,_⟩|⟨a,_⟩)
   ·exact .inr ⟨fun q=>by omega,a.symm,b.symm⟩
   ·omega
   ·omega
  ·rintro(⟨_,a⟩|⟨_,a,b⟩)
   ·omega
   ·exact .inl ⟨h,a.symm,b.symm⟩
 ·rw[if_neg h,Prod.mk.injEq]
  constructor
  ·rintro(⟨a,_⟩|⟨a,b⟩|⟨a,b,e,f⟩)
   ·omega
   ·exact .inl ⟨b,a⟩
   ·exact .inr ⟨fun q=>b q.1,e.symm,f.symm⟩
  ·rintro(⟨a,b⟩|⟨a,b,e⟩)
   ·exact .inr (.inl ⟨b,a⟩)
   ·exact .inr (.inr ⟨by omega,fun q=>a ⟨q,by omega⟩,b.symm,e.symm⟩)
theorem own_range(k:Int):0≤own k∧own k<31:=by
 unfold own
 match k.toNat with
 |0|1|2|3|4|5|6|7|8|9|10|11|12=>decide
 |n+13=>simp
def Meets(s:List Nd)(i k:Nat):Prop:=
 (∃j,Leaf s i j∧(nd s j).every)∨(∃j,Leaf s k j∧(nd s j).every)∨∃j l,Leaf s i j∧¬(nd s j).every∧Leaf s k l∧¬(nd s l).every∧(nd s j).outer=(nd s l).outer
theorem outer_range{n:Nd}(h:n.tag≤30):0≤n.outer.1∧n.outer.1<4∧0≤n.outer.2∧n.outer.2<31:=by
 have:=own_range n.kind
 unfold Nd.outer
 split<;>simp only<;>omega
theorem common_iff{s:List Nd}(ht:∀j,j<s.length→(nd s j).tag≤30)(hw:Within s){i k:Nat}(hi:i<s.length)(hk:k<s.length)
 (hli:∃j,Leaf s i j)(hlk:∃j,Leaf s k j):Common s i k↔Meets s i k:=by
 constructor
 ·rintro⟨c,m,_,_,_,_,⟨j,hj,hbj⟩,⟨l,hl,hbl⟩⟩
  rw[begAt_iff]at hbj hbl
  rcases hbj with e|⟨e,ej⟩
  ·exact .inl ⟨j,hj,e⟩
  rcases hbl with f|⟨f,fl⟩
  ·exact .inr (.inl ⟨l,hl,f⟩)
  ·exact .inr (.inr ⟨j,l,hj,e,hl,f,ej.trans fl.symm⟩)
 ·have pick:∀{a:Nat},a<s.length→(∃j,Leaf s a j)→∀{b:Nat},(∃j,Leaf s b j∧(nd s j).every)→∃c m:Int,0≤c∧c<4∧0≤m∧m<31∧Beg s a c m∧Beg s b c m:=by
   rintro a ha ⟨l,hl⟩ b ⟨j,hj,e⟩
   have hr:=outer_range (ht l (hl.1.lt hw ha))
   refine⟨(nd s l).outer.1,(nd s l).outer.2,hr.1,hr.2.1,hr.2.2.1,hr.2.2.2,⟨l,hl,?_⟩,⟨j,hj,(begAt_iff _ _ _).2 (.inl e)⟩⟩
   rw[begAt_iff]
   by_cases h:(nd s l).every
   ·exact .inl h
   ·exact .inr ⟨h,rfl⟩
  rintro(h|h|⟨j,l,hj,e,hl,f,hjl⟩)
  ·obtain⟨c,m,h1,h2,h3,h4,h5,h6⟩:=pick hk hlk h
   exact⟨c,m,h1,h2,h3,h4,h6,h5⟩
  ·exact pick hi hli h
  ·have hr:=outer_range (ht j (hj.1.lt hw hi))
   exact⟨(nd s j).outer.1,(nd s j).outer.2,hr.1,hr.2.1,hr.2.2.1,hr.2.2.2,⟨j,hj,(begAt_iff _ _ _).2 (.inr ⟨e,rfl⟩)⟩,⟨l,hl,(begAt_iff _ _ _).2 (.inr ⟨f,hjl.symm⟩)⟩⟩
end Go.Proofs.YtkkicodfpekbgaaGreatDoor
namespace Go.Proofs.YtkkicodfpekbgaaGreatDoor
open Go.RowKit
set_option linter.unusedSimpArgs false
set_option linter.unusedVariables false
set_option maxRecDepth 100000
set_option maxHeartbeats 8000000
structure KidCells(w:World)(b o:Nat)(k:Kd):Prop where
 node:w.cell? ⟨b,o,none⟩=some (.int .i64 k.node)
 opt:w.cell? ⟨b,o+1,none⟩=some (.bool k.opt)
 dflt:w.cell? ⟨b,o+2,none⟩=some (.string k.dflt)
structure NodeCells(w:World)(b o:Nat)(n:Nd)(ka:Option Addr)(kc:Nat):Prop where
 kind:w.cell? ⟨b,o,none⟩=some (.int .i64 n.kind)
 tag:w.cell? ⟨b,o+1,none⟩=some (.int .i64 n.tag)
 mode:w.cell? ⟨b,o+2,none⟩=some (.int .i64 n.mode)
 kids:w.cell? ⟨b,o+3,none⟩=some (.slice ka n.kids.length kc)
def KidsIn(w:World)(ka:Option Addr)(ks:List Kd):Prop:=∀j,j<ks.length→∃b o,ka=some ⟨b,o,none⟩∧KidCells w b (o+j*3) (ks.getD j kd0)
def Sch(w:World)(a:Option Addr)(s:List Nd):Prop:=∀i,i<s.length→∃b o ka kc,a=some ⟨b,o,none⟩∧NodeCells w b (o+i*4) (nd s i) ka kc∧(nd s i).kids.length≤kc∧kc≤maxLen∧KidsIn w ka (nd s i).kids
def SchOk(s:List Nd):Prop:=∀i,i<s.length→∀k∈(nd s i).kids,k.dflt.size≤140737488351232
theorem lt_of_cell{w:World}{a:Addr}{v:Value}(h:w.cell? a=some v):a.block<w.heap.size:=by
 rcases Nat.lt_or_ge a.block w.heap.size with h'|h'
 ·exact h'
 ·simp[World.cell?,Array.getElem?_eq_none h']at h
theorem KidCells.below{w w':World}{b o:Nat}{k:Kd}(h:KidCells w b o k)(hb:Below w.heap.size w w'):KidCells w' b o k:=
 ⟨(hb.cell (lt_of_cell h.node)).trans h.node,(hb.cell (lt_of_cell h.opt)).trans h.opt,(hb.cell (lt_of_cell h.dflt)).trans h.dflt⟩
theorem NodeCells.below{w w':World}{b o:Nat}{n:Nd}{ka:Option Addr}{kc:Nat}(h:NodeCells w b o n ka kc)(hb:Below w.heap.size w w'):NodeCells w' b o n ka kc:=
 ⟨(hb.cell (lt_of_cell h.kind)).trans h.kind,(hb.cell (lt_of_cell h.tag)).trans h.tag,(hb.cell (lt_of_cell h.mode)).trans h.mode,(hb.cell (lt_of_cell h.kids)).trans h.kids⟩
theorem KidsIn.below{w w':World}{ka:Option Addr}{ks:List Kd}(h:KidsIn w ka ks)(hb:Below w.heap.size w w'):KidsIn w' ka ks:=fun j hj=>by
 obtain⟨b,o,e,hc⟩:=h j hj;exact⟨b,o,e,hc.below hb⟩
theorem Sch.below{w w':World}{a:Option Addr}{s:List Nd}(h:Sch w a s)(hb:Below w.heap.size w w'):Sch w' a s:=fun i hi=>by
 obtain⟨b,o,ka,kc,e,hc,h1,h2,hk⟩:=h i hi;exact⟨b,o,ka,kc,e,hc.below hb,h1,h2,hk.below hb⟩
def RetO(P:Prop)(w:World)(e:Ending)(w':World):Prop:=∃r,e= .returned (.bool r)∧(r=true↔P)∧Below w.heap.size w w'
theorem reto_no{P:Prop}{w w':World}(h:¬P)(hw:Below w.heap.size w w'):RetO P w (.returned (.bool false)) w':=⟨false,rfl,⟨fun e=>(by cases e),fun p=>absurd p h⟩,hw⟩
theorem reto_yes{P:Prop}{w w':World}(h:P)(hw:Below w.heap.size w w'):RetO P w (.returned (.bool true)) w':=⟨true,rfl,⟨fun _=>h,fun _=>rfl⟩,hw⟩
theorem reto_iff{P:Prop}{w w':World}{r:Bool}(h:r=true↔P)(hw:Below w.heap.size w w'):RetO P w (.returned (.bool r)) w':=⟨r,rfl,h,hw⟩
theorem RetO.yes{P:Prop}{w w':World}{e:Ending}(h:RetO P w e w')(p:P):e= .returned (.bool true)∧Below w.heap.size w w':=by
 obtain⟨r,rfl,hr,hb⟩:=h;rw[hr.2 p];exact⟨rfl,hb⟩
theorem RetO.no{P:Prop}{w w':World}{e:Ending}(h:RetO P w e w')(p:¬P):e= .returned (.bool false)∧Below w.heap.size w w':=by
 obtain⟨r,rfl,hr,hb⟩:=h
 cases r
 ·exact⟨rfl,hb⟩
 ·exact absurd (hr.1 rfl) p
def Kd.must(k:Kd):Prop:=k.opt=false∧k.dflt.size=0
end Go.Proofs.YtkkicodfpekbgaaGreatDoor
namespace Go.Proofs.YtkkicodfpekbgaaGreatDoor
set_option linter.unusedSimpArgs false
set_option linter.unusedVariables false
set_option maxRecDepth 100000
set_option maxHeartbeats 8000000
structure Lv(s:List Nd)(i:Nat)(done q:List Nat)(bk:Bool):Prop where
 pre:∃r,q=done++r
 mem:i∈q
 nodup:q.Nodup
 rch:∀x∈q,Rch s i x
 cl:∀x∈done,(nd s x).opn→∀k∈(nd s x).kids,k.node.toNat∈q
 back:bk=true↔∃x∈done,(nd s x).opn∧∃k∈(nd s x).kids,k.node=i
structure LvM(s:List Nd)(i:Nat)(done:List Nat)(x j:Nat)(q:List Nat)(bk:Bool):Prop where
 pre:∃r,q=done++x::r
 mem:i∈q
 nodup:q.Nodup
 rch:∀x∈q,Rch s i x
 cl:∀x∈done,(nd s x).opn→∀k∈(nd s x).kids,k.node.toNat∈q
 cl2:∀m,m<j→((nd s x).kids.getD m kd0).node.toNat∈q
 back:bk=true↔(∃x∈done,(nd s x).opn∧∃k∈(nd s x).kids,k.node=i)∨∃m,m<j∧((nd s x).kids.getD m kd0).node=i
def outs(s:List Nd)(l:List Nat):List Nat:=l.filter (fun j=> !(nd s j).opnB)
theorem Lv.start(s:List Nd)(i:Nat):Lv s i [] [i] false where
 pre:=⟨[i],rfl⟩
 mem:=by simp
 nodup:=by simp
 rch:=fun x hx=>by simp at hx;subst hx;exact .refl
 cl:=fun x hx=>by cases hx
 back:=by simp
theorem Lv.at{s:List Nd}{i:Nat}{done q:List Nat}{bk:Bool}(h:Lv s i done q bk)(hl:done.length<q.length):∃x r,q=done++x::r:=by
 obtain⟨r,e⟩:=h.pre
 cases r with
 |nil=>subst e;simp at hl
 |cons x r=>exact⟨x,r,e⟩
theorem Lv.le{s:List Nd}{i:Nat}{done q:List Nat}{bk:Bool}(h:Lv s i done q bk):done.length≤q.length:=by
 obtain⟨r,e⟩:=h.pre;subst e;simp
theorem Lv.len{s:List Nd}{i:Nat}{done q:List Nat}{bk:Bool}(h:Lv s i done q bk)(hw:Within s)(hi:i<s.length):q.length≤s.length:=
 nodup_le _ q h.nodup fun x hx=>(h.rch x hx).lt hw hi
theorem LvM.len{s:List Nd}{i:Nat}{done q:List Nat}{x j:Nat}{bk:Bool}(h:LvM s i done x j q bk)(hw:Within s)(hi:i<s.length):q.length≤s.length:=
 nodup_le _ q h.nodup fun x hx=>(h.rch x hx).lt hw hi
theorem Lv.leaf{s:List Nd}{i:Nat}{done q r:List Nat}{bk:Bool}{x:Nat}(h:Lv s i done q bk)(e:q=done++x::r)(ho:¬(nd s x).opn):Lv s i (done++[x]) q bk where
 pre:=⟨r,by simp[e]⟩
 mem:=h.mem
 nodup:=h.nodup
 rch:=h.rch
 cl:=fun y hy hyo=>by
  rcases List.mem_append.1 hy with hy|hy
  ·exact h.cl y hy hyo
  ·simp at hy;subst hy;exact absurd hyo ho
 back:=by
  rw[h.back]
  constructor
  ·rintro⟨y,hy,hr⟩;exact⟨y,by simp[hy],hr⟩
  ·rintro⟨y,hy,hyo,hr⟩
   rcases List.mem_append.1 hy with hy|hy
   ·exact⟨y,hy,hyo,hr⟩
   ·simp at hy;subst hy;exact absurd hyo ho
theorem outs_leaf{s:List Nd}{done:List Nat}{x:Nat}(ho:¬(nd s x).opn):outs s (done++[x])=outs s done++[x]:=by
 unfold outs;rw[List.filter_append];simp[Nd.opnB_no ho]
theorem outs_open{s:List Nd}{done:List Nat}{x:Nat}(ho:(nd s x).opn):outs s (done++[x])=outs s done:=by
 unfold outs;rw[List.filter_append];simp[Nd.opnB_yes ho]
theorem outs_le(s:List Nd)(l:List Nat):(outs s l).length≤l.length:=List.length_filter_le _ _
theorem Lv.mid{s:List Nd}{i:Nat}{done q r:List Nat}{bk:Bool}{x:Nat}(h:Lv s i done q bk)(e:q=done++x::r):LvM s i done x 0 q bk where
 pre:=⟨r,e⟩
 mem:=h.mem
 nodup:=h.nodup
 rch:=h.rch
 cl:=h.cl
 cl2:=fun m hm=>absurd hm (Nat.not_lt_zero _)
 back:=by rw[h.back];simp
theorem LvM.step_old{s:List Nd}{i:Nat}{done q:List Nat}{x j t:Nat}{bk:Bool}(h:LvM s i done x j q bk)(ht:((nd s x).kids.getD j kd0).node=t)(hm:t∈q):
 LvM s i done x (j+1) q (bk||decide ((t:Int)=i)) where
 pre:=h.pre
 mem:=h.mem
 nodup:=h.nodup
 rch:=h.rch
 cl:=h.cl
 cl2:=fun m hm'=>by
  by_cases e:m=j
  ·subst e;rw[ht];exact hm
  ·exact h.cl2 m (by omega)
 back:=by
  rw[Bool.or_eq_true,h.back,or_assoc,decide_eq_true_iff]
  refine or_congr Iff.rfl ⟨?_,?_⟩
  ·rintro(⟨m,h1,h2⟩|e)
   ·exact⟨m,by omega,h2⟩
   ·exact⟨j,by omega,ht.trans e⟩
  ·rintro⟨m,h1,h2⟩
   by_cases e:m=j
   ·subst e;exact .inr (ht.symm.trans h2)
   ·exact .inl ⟨m,by omega,h2⟩
theorem LvM.step_new{s:List Nd}{i:Nat}{done q:List Nat}{x j t:Nat}{bk:Bool}(h:LvM s i done x j q bk)(ht:((nd s x).kids.getD j kd0).node=t)(hj:j<(nd s x).kids.length)(ho:(nd s x).opn)(hm:t∉q):
 LvM s i done x (j+1) (q++[t]) (bk||decide ((t:Int)=i)):=by
 have hk:(nd s x).kids.getD j kd0∈(nd s x).kids:=by
  rw[List.getD_eq_getElem?_getD,List.getElem?_eq_getElem hj];exact List.getElem_mem hj
 have hx:Rch s i x:=by obtain⟨r,e⟩:=h.pre;exact h.rch x (by simp[e])
 have ht':((nd s x).kids.getD j kd0).node.toNat=t:=by rw[ht];rfl
 exact {
  pre:=by obtain⟨r,e⟩:=h.pre;exact⟨r++[t],by simp[e]⟩
  mem:=by simp[h.mem]
  nodup:=by rw[List.nodup_append];exact⟨h.nodup,by simp,fun a ha b hb=>by simp at hb;subst hb;intro e;subst e;exact hm ha⟩
  rch:=fun y hy=>by
   rcases List.mem_append.1 hy with hy|hy
   ·exact h.rch y hy
   ·simp at hy;subst hy;rw[←ht'];exact .step hx ho hk
  cl:=fun y hy hyo k hk=>List.mem_append_left _ (h.cl y hy hyo k hk)
  cl2:=fun m hm'=>by
   by_cases e:m=j
   ·subst e;rw[ht'];simp
   ·exact List.mem_append_left _ (h.cl2 m (by omega))
  back:=(by
   rw[Bool.or_eq_true,h.back,or_assoc,decide_eq_true_iff]
   refine or_congr Iff.rfl ⟨?_,?_⟩
   ·rintro(⟨m,h1,h2⟩|e)
    ·exact⟨m,by omega,h2⟩
    ·exact⟨j,by omega,ht.trans e⟩
   ·rintro⟨m,h1,h2⟩
    by_cases e:m=j
    ·subst e;exact .inr (ht.symm.trans h2)
    ·exact .inl ⟨m,by omega,h2⟩)}
theorem LvM.finish{s:List Nd}{i:Nat}{done q:List Nat}{x:Nat}{bk:Bool}(h:LvM s i done x (nd s x).kids.length q bk)(ho:(nd s x).opn):Lv s i (done++[x]) q bk:=by
 have hget:∀k∈(nd s x).kids,∃m,m<(nd s x).kids.length∧(nd s x).kids.getD m kd0=k:=fun k hk=>by
  obtain⟨m,hm,e⟩:=List.getElem_of_mem hk
  exact⟨m,hm,by rw[List.getD_eq_getElem?_getD,List.getElem?_eq_getElem hm];exact e⟩
 exact {
  pre:=by obtain⟨r,e⟩:=h.pre;exact⟨r,by simp[e]⟩
  mem:=h.mem
  nodup:=h.nodup
  rch:=h.rch
  cl:=fun y hy hyo k hk=>by
   rcases List.mem_append.1 hy with hy|hy
   ·exact h.cl y hy hyo k hk
   ·simp at hy;subst hy
    obtain⟨m,hm,e⟩:=hget k hk
    rw[←e];exact h.cl2 m hm
  back:=by
   rw[h.back]
   constructor
   ·rintro(⟨y,hy,hr⟩|⟨m,hm,e⟩)
    ·exact⟨y,by simp[hy],hr⟩
    ·exact⟨x,by simp,ho,_,by rw[List.getD_eq_getElem?_getD,List.getElem?_eq_getElem hm];exact List.getElem_mem hm,e⟩
   ·rintro⟨y,hy,hyo,k,hk,e⟩
    rcases List.mem_append.1 hy with hy|hy
    ·exact .inl ⟨y,hy,hyo,k,hk,e⟩
    ·simp at hy;subst hy
     obtain⟨m,hm,e'⟩:=hget k hk
     exact .inr ⟨m,hm,by rw[e'];exact e⟩}
theorem Lv.reached{s:List Nd}{i:Nat}{q:List Nat}{bk:Bool}(h:Lv s i q q bk){j:Nat}(hj:Rch s i j):j∈q:=by
 exact Rch.ind (P:=fun j=>j∈q) h.mem (fun _ _ _ ho hk ih=>h.cl _ ih ho _ hk) hj
theorem Lv.leaves{s:List Nd}{i:Nat}{q:List Nat}{bk:Bool}(h:Lv s i q q bk)(j:Nat):j∈outs s q↔Leaf s i j:=by
 unfold outs Leaf
 rw[List.mem_filter]
 simp only[Bool.not_eq_true',←Bool.not_eq_true,Nd.opnB_iff]
 exact and_congr ⟨fun hm=>h.rch j hm,fun hr=>h.reached hr⟩ Iff.rfl
theorem Lv.backs{s:List Nd}{i:Nat}{q:List Nat}{bk:Bool}(h:Lv s i q q bk):bk=true↔Back s i:=by
 rw[h.back]
 unfold Back
 constructor
 ·rintro⟨x,hx,ho,k,hk,e⟩;exact⟨x,h.rch x hx,ho,k,hk,e⟩
 ·rintro⟨x,hx,ho,k,hk,e⟩;exact⟨x,h.reached hx,ho,k,hk,e⟩
end Go.Proofs.YtkkicodfpekbgaaGreatDoor
namespace Go.Proofs.YtkkicodfpekbgaaGreatDoor
open Go.RowKit
set_option linter.unusedSimpArgs false
set_option linter.unusedVariables false
set_option maxRecDepth 100000
set_option maxHeartbeats 8000000
def ivs(l:List Nat):List Value:=l.map fun(j:Nat)=>Value.int .i64 (j:Int)
structure LvW(s:List Nd)(w wr:World)(i:Nat)(done q:List Nat)(gi ci:Nat)(vout:Value):Prop where
 inn:wr.ownsRow w.heap.size 3 1 (.slice (some ⟨gi,0,none⟩) q.length ci) q.length (ivs q)
 out:wr.ownsRow w.heap.size 3 1 vout (outs s done).length (ivs (outs s done))
 ap:vout.ownBlock≠some gi
 bel:Below w.heap.size w wr
theorem Tryz.infoInt:(Tryz.prog.info? 3).map (fun i=>(i.zero,i.size,i.bytes))=some (some (.int .i64 0),1,8):=by kernel_rfl
theorem ivs_get{l:List Nat}{j:Nat}(h:j<l.length):(ivs l)[j]? =some (.int .i64 ((l.getD j 0:Nat):Int)):=by
 unfold ivs;simp[h]
theorem own_cell{w:World}{base g n c:Nat}{l:List Nat}(h:w.ownsRow base 3 1 (.slice (some ⟨g,0,none⟩) n c) l.length (ivs l)){j:Nat}(hj:j<l.length):
 w.cell? ⟨g,j,none⟩=some (.int .i64 ((l.getD j 0:Nat):Int)):=by
 have:=h.cells (g:=g) rfl j _ (ivs_get hj)
 have e:(⟨g,0,none⟩:Addr).add j=⟨g,j,none⟩:=by unfold Addr.add;split<;>simp_all
 rwa[e]at this
theorem own_below{w w':World}{base:Nat}{e:TypeId}{size:Nat}{v:Value}{n:Nat}{xs:List Value}(h:w.ownsRow base e size v n xs)(hb:Below w.heap.size w w'):w'.ownsRow base e size v n xs:=by
 obtain⟨h1,h2⟩:=h
 refine⟨h1,?_⟩
 rcases h2 with h2|⟨g,cap,cur,rfl,h3,h4,h5⟩
 ·exact .inl h2
 ·refine .inr ⟨g,cap,cur,rfl,h3,?_,h5⟩
  have hlt:g<w.heap.size:=by
   rcases Nat.lt_or_ge g w.heap.size with h'|h'
   ·exact h'
   ·rw[Array.getElem?_eq_none h']at h4;cases h4
  exact(hb.block _ hlt).trans h4
theorem LvW.below{s:List Nd}{w wr w':World}{i:Nat}{done q:List Nat}{gi ci:Nat}{vout:Value}(h:LvW s w wr i done q gi ci vout)(hb:Below wr.heap.size wr w'):LvW s w w' i done q gi ci vout where
 inn:=own_below h.inn hb
 out:=own_below h.out hb
 ap:=h.ap
 bel:=h.bel.trans (hb.mono h.bel.size)
theorem below_alloc{w w':World}{o:Obj}(hb:Below (w.alloc o).heap.size (w.alloc o) w'):Below w.heap.size w w':=
 ((Below.refl w.heap.size w).alloc (Nat.le_refl _) o).trans (hb.mono (by simp))
theorem ivs_append(l:List Nat)(x:Nat):ivs (l++[x])=ivs l++[.int .i64 (x:Int)]:=by unfold ivs;simp
theorem LvW.put{s:List Nd}{w wr w':World}{i x:Nat}{done q:List Nat}{gi ci g cap:Nat}{vout:Value}{o:Obj}(h:LvW s w wr i done q gi ci vout)(ho:¬(nd s x).opn)
 (h1:w'.ownsRow w.heap.size 3 1 (.slice (some ⟨g,0,none⟩) ((outs s done).length+1) cap) ((outs s done).length+1) (ivs (outs s done)++[.int .i64 (x:Int)]))
 (h2:(wr.alloc o).grownBy w' vout.ownBlock)(h3:vout.ownBlock=some g∨g=wr.heap.size+1):LvW s w w' i (done++[x]) q gi ci (.slice (some ⟨g,0,none⟩) ((outs s done).length+1) cap):=by
 have hgi:gi<wr.heap.size:=(h.inn.lt gi rfl).2
 have hb:Below w.heap.size w (wr.alloc o):=h.bel.alloc h.bel.size o
 exact {
  inn:=(h.inn.alloc o).kept h2 (.inr (fun e=>h.ap e.symm))
  out:=by rw[outs_leaf ho,ivs_append,List.length_append];exact h1
  ap:=by
   intro e
   have e':g=gi:=by simpa [Value.ownBlock]using e
   rcases h3 with h3|h3
   ·exact h.ap (by rw[h3,e'])
   ·omega
  bel:=hb.grown h2 hb.size (fun k hk=>(h.out.lt k hk).1)}
theorem LvW.push{s:List Nd}{w wr w':World}{i t:Nat}{done q:List Nat}{gi ci g cap:Nat}{vout:Value}{o:Obj}(h:LvW s w wr i done q gi ci vout)
 (h1:w'.ownsRow w.heap.size 3 1 (.slice (some ⟨g,0,none⟩) (q.length+1) cap) (q.length+1) (ivs q++[.int .i64 (t:Int)]))
 (h2:(wr.alloc o).grownBy w' (some gi))(h3:some gi=some g∨g=wr.heap.size+1):LvW s w w' i done (q++[t]) g cap vout:=by
 have hb:Below w.heap.size w (wr.alloc o):=h.bel.alloc h.bel.size o
 exact {
  inn:=by rw[ivs_append,List.length_append];exact h1
  out:=(h.out.alloc o).kept h2 (.inr h.ap)
  ap:=by
   intro e
   rcases h3 with h3|h3
   ·exact h.ap (by rw[e,h3])
   ·have:=(h.out.lt g e).2;omega
  bel:=hb.grown h2 hb.size (fun k hk=>by have:=(h.inn.lt k hk).1;exact this)}
theorem block_below{w w':World}{k:Nat}{o:Obj}(h:w.heap[k]? =some o)(hb:Below w.heap.size w w'):w'.heap[k]? =some o:=by
 have hlt:k<w.heap.size:=by
  rcases Nat.lt_or_ge k w.heap.size with h'|h'
  ·exact h'
  ·rw[Array.getElem?_eq_none h']at h;cases h
 exact(hb.block _ hlt).trans h
end Go.Proofs.YtkkicodfpekbgaaGreatDoor
namespace Go.Proofs.YtkkicodfpekbgaaGreatDoor
open Go.RowKit Go.Extern.Stop Go.Stop Go.Extern
set_option linter.unusedSimpArgs false
set_option linter.unusedVariables false
set_option maxRecDepth 100000
set_option maxHeartbeats 8000000
theorem Tryz.isTypeOf(v:Value)(w:World):(Extern.ReflectliteType.typeOf #[.iface 291 v]).run Tryz.prog w= .ok (.iface 220 (.agg #[.pointer (some ⟨19,291,none⟩)])) w:=by kernel_rfl
def compEntry:Array Value→Sem Value:=Extern.ReflectliteType.method fun t=>do Extern.Rtype.noPackHeld "Comparable" t;pure (.bool (←typeInfo t).comparable)
theorem Tryz.isComparable(w:World):(compEntry #[.agg #[.pointer (some ⟨19,291,none⟩)]]).run Tryz.prog w= .ok (.bool true) w:=by kernel_rfl
theorem Tryz.callComparable(w:World):(callFunc 237 #[.agg #[.pointer (some ⟨19,291,none⟩)]]).run Tryz.prog w= .ok (.value (.bool true)) w:=by
 rw[@run_callFunc_extern Tryz.prog 237 _ compEntry Tryz.func237 (by kernel_rfl) (by kernel_rfl) (by kernel_rfl) (by kernel_rfl),Tryz.isComparable]
 rfl
theorem Tryz.callTypeOf(v:Value)(w:World):(callFunc 90 #[.iface 291 v]).run Tryz.prog w= .ok (.value (.iface 220 (.agg #[.pointer (some ⟨19,291,none⟩)]))) w:=by
 rw[@run_callFunc_extern Tryz.prog 90 _ Extern.ReflectliteType.typeOf Tryz.func90 (by kernel_rfl) (by kernel_rfl) (by kernel_rfl) (by kernel_rfl),Tryz.isTypeOf]
 rfl
theorem Tryz.isMethodComparable(v:Value)(w:World):(Go.method 424 220 v "Comparable").run Tryz.prog w= .ok (237,v) w:=by kernel_rfl
theorem Tryz.isComp:(Tryz.prog.info? 291).map (·.comparable)=some true:=by kernel_rfl
theorem Tryz.isSize:(Tryz.prog.info? 312).map (·.size)=some 1:=by kernel_rfl
theorem Tryz.noIsE(v:Value)(xT:TypeId)(w:World):(Instr.typeAssert (.iface 291 v) xT 222 true).run Tryz.prog w= .ok (.tuple #[.nilIface,.bool false]) w:=run_typeAssert_lacksB Tryz.underlying222 (by kernel_rfl) (by kernel_rfl) v xT w
theorem Tryz.noUnwrapE(v:Value)(xT:TypeId)(w:World):(Instr.typeAssert (.iface 291 v) xT 225 true).run Tryz.prog w= .ok (.tuple #[.nilIface,.bool false]) w:=run_typeAssert_lacksB Tryz.underlying225 (by kernel_rfl) (by kernel_rfl) v xT w
theorem Tryz.noUnwrapsE(v:Value)(xT:TypeId)(w:World):(Instr.typeAssert (.iface 291 v) xT 227 true).run Tryz.prog w= .ok (.tuple #[.nilIface,.bool false]) w:=run_typeAssert_lacksB Tryz.underlying227 (by kernel_rfl) (by kernel_rfl) v xT w
theorem Tryz.noIsF(v:Value)(xT:TypeId)(w:World):(Instr.typeAssert (.iface 155 v) xT 222 true).run Tryz.prog w= .ok (.tuple #[.nilIface,.bool false]) w:=run_typeAssert_lacksB Tryz.underlying222 (by kernel_rfl) (by kernel_rfl) v xT w
theorem Tryz.hasUnwrapF(v:Value)(xT:TypeId)(w:World):(Instr.typeAssert (.iface 155 v) xT 225 true).run Tryz.prog w= .ok (.tuple #[.iface 155 v,.bool true]) w:=run_typeAssert_hasB Tryz.underlying225 (by kernel_rfl) v xT w
theorem Tryz.methodUnwrap(v:Value)(w:World):(Go.method 424 155 v "Unwrap").run Tryz.prog w= .ok (231,v) w:=by kernel_rfl
def fault(p:Int)(a:Addr):Value:= .iface 155 (.agg #[.int .i64 p,.iface 291 (.pointer (some a))])
theorem is_same(p:Int)(b:Addr)(w:World):
 Calls Tryz.prog 59 #[fault p b,.iface 291 (.pointer (some b))] w fun e w'=>e= .returned (.bool true)∧Below w.heap.size w w':=by
 obtain⟨i,hi,hcmp⟩:=Option.map_eq_some_iff.1 Tryz.isComp
 obtain⟨j,hj,hjs⟩:=Option.map_eq_some_iff.1 Tryz.isSize
 have h8:=Tryz.callTypeOf
 have h32:=Tryz.callComparable
 have mR:=Tryz.isMethodComparable
 have nF:=Tryz.noIsF
 have uF:=Tryz.hasUnwrapF
 have mU:=Tryz.methodUnwrap
 have heq:=fun w=>run_eql_iface_ptr_same (P:=Tryz.prog) w b Tryz.underlying85 Tryz.underlying291 hi hcmp hj
 have hty:=fun x w=>run_eql_iface_types (P:=Tryz.prog) 155 291 x (.pointer (some b)) Tryz.underlying85 (by decide) w
 unfold fault
 go_enter Tryz.func59,Tryz.ntmps59
 go_wp2
 refine wp_loop_rounds 2 ?_
 rw[rounds_succ]
 go_wp2
 rw[rounds_succ]
 go_wp2
 go_ret
 exact⟨rfl,(Below.refl _ _).alloc (Nat.le_refl _) _⟩
theorem is_other(p:Int)(a b:Addr)(ca cb:Array Value)(ta tb:TypeId)(w:World)(hne:a≠b)(ha:w.heap[a.block]? =some (.cells ca ta (0,0)))(hb:w.heap[b.block]? =some (.cells cb tb (0,0))):
 Calls Tryz.prog 59 #[fault p a,.iface 291 (.pointer (some b))] w fun e w'=>e= .returned (.bool false)∧Below w.heap.size w w':=by
 obtain⟨i,hi,hcmp⟩:=Option.map_eq_some_iff.1 Tryz.isComp
 obtain⟨j,hj,hjs⟩:=Option.map_eq_some_iff.1 Tryz.isSize
 have lt:∀{k:Nat} {o:Obj},w.heap[k]? =some o→k<w.heap.size:=fun {k o} h=>by
  rcases Nat.lt_or_ge k w.heap.size with h'|h'
  ·exact h'
  ·rw[Array.getElem?_eq_none h']at h;cases h
 have heq:=fun o=>run_eql_iface_ptr_other (P:=Tryz.prog) (w.alloc o) Tryz.underlying85 Tryz.underlying291 hi hcmp hj (by rw[hjs];decide) hne ((Below.heap_alloc w o _ (lt ha)).trans ha) ((Below.heap_alloc w o _ (lt hb)).trans hb)
 clear lt ha hb
 have h8:=Tryz.callTypeOf
 have h32:=Tryz.callComparable
 have mR:=Tryz.isMethodComparable
 have nF:=Tryz.noIsF
 have uF:=Tryz.hasUnwrapF
 have mU:=Tryz.methodUnwrap
 have nE:=Tryz.noIsE
 have uE:=Tryz.noUnwrapE
 have vE:=Tryz.noUnwrapsE
 have hty:=fun x w=>run_eql_iface_types (P:=Tryz.prog) 155 291 x (.pointer (some b)) Tryz.underlying85 (by decide) w
 unfold fault
 go_enter Tryz.func59,Tryz.ntmps59
 go_wp2
 refine wp_loop_rounds 2 ?_
 rw[rounds_succ]
 go_wp2
 rw[rounds_succ]
 go_wp2
 go_ret
 exact⟨rfl,(Below.refl _ _).alloc (Nat.le_refl _) _⟩
theorem is_any(p:Int)(a b:Addr)(w:World)(ha:∃c t,w.heap[a.block]? =some (.cells c t (0,0)))(hb:∃c t,w.heap[b.block]? =some (.cells c t (0,0))):
 Calls Tryz.prog 59 #[fault p a,.iface 291 (.pointer (some b))] w fun e w'=>e= .returned (.bool (decide (a=b)))∧Below w.heap.size w w':=by
 by_cases h:a=b
 ·subst h
  simpa using is_same p a w
 ·obtain⟨c,t,ha⟩:=ha
  obtain⟨c',t',hb⟩:=hb
  simpa [h]using is_other p a b c c' t t' w h ha hb
end Go.Proofs.YtkkicodfpekbgaaGreatDoor
namespace Go.Proofs.YtkkicodfpekbgaaGreatDoor
open Go.RowKit
set_option linter.unusedSimpArgs false
set_option linter.unusedVariables false
set_option maxRecDepth 100000
set_option maxHeartbeats 8000000
abbrev Sn:=Fin 12
def Sn.Long:Sn:=⟨0,by decide⟩
def Sn.End:Sn:=⟨1,by decide⟩
def Sn.Tag:Sn:=⟨2,by decide⟩
def Sn.Length:Sn:=⟨3,by decide⟩
def Sn.Value:Sn:=⟨4,by decide⟩
def Sn.More:Sn:=⟨5,by decide⟩
def Sn.Order:Sn:=⟨6,by decide⟩
def Sn.Default:Sn:=⟨7,by decide⟩
def Sn.Deep:Sn:=⟨8,by decide⟩
def Sn.Tree:Sn:=⟨9,by decide⟩
def Sn.Card:Sn:=⟨10,by decide⟩
def Sn.Mark:Sn:=⟨11,by decide⟩
theorem Sn.all{P:Sn→Prop}(h0:P .Long)(h1:P .End)(h2:P .Tag)(h3:P .Length)(h4:P .Value)(h5:P .More)(h6:P .Order)(h7:P .Default)(h8:P .Deep)(h9:P .Tree)(h10:P .Card)(h11:P .Mark):∀s,P s
 |⟨0,_⟩=>h0
 |⟨1,_⟩=>h1
 |⟨2,_⟩=>h2
 |⟨3,_⟩=>h3
 |⟨4,_⟩=>h4
 |⟨5,_⟩=>h5
 |⟨6,_⟩=>h6
 |⟨7,_⟩=>h7
 |⟨8,_⟩=>h8
 |⟨9,_⟩=>h9
 |⟨10,_⟩=>h10
 |⟨11,_⟩=>h11
 |⟨n+12,h⟩=>absurd h (by omega)
def Sn.var(s:Sn):Nat:=[0,1,2,3,4,5,6,7,8,9,10,11].getD s.val 0
def Sn.code(s:Sn):Int:=[2,3,4,5,6,7,8,9,10,11,12,13].getD s.val 0
structure Sent(w:World)(sn:Sn→Addr):Prop where
 c:∀s:Sn,w.cell? ⟨s.var,0,none⟩=some (.iface 291 (.pointer (some (sn s))))
 r:∀s:Sn,∃c t,w.heap[(sn s).block]? =some (.cells c t (0,0))
 inj:∀s t:Sn,sn s=sn t→s=t
theorem cell_lt{w:World}{a:Addr}{v:Value}(h:w.cell? a=some v):a.block<w.heap.size:=by
 rcases Nat.lt_or_ge a.block w.heap.size with h'|h'
 ·exact h'
 ·simp[World.cell?,Array.getElem?_eq_none h']at h
theorem row_lt{w:World}{k:Nat}{o:Obj}(h:w.heap[k]? =some o):k<w.heap.size:=by
 rcases Nat.lt_or_ge k w.heap.size with h'|h'
 ·exact h'
 ·rw[Array.getElem?_eq_none h']at h;cases h
theorem row_below{w w':World}{k:Nat}(h:∃c t,w.heap[k]? =some (.cells c t (0,0)))(hb:Below w.heap.size w w'):∃c t,w'.heap[k]? =some (.cells c t (0,0)):=by
 obtain⟨c,t,e⟩:=h;exact⟨c,t,(hb.block _ (row_lt e)).trans e⟩
theorem Sent.below{w w':World}{sn:Sn→Addr}(h:Sent w sn)(hb:Below w.heap.size w w'):Sent w' sn where
 c:=fun s=>(hb.cell (cell_lt (h.c s))).trans (h.c s)
 r:=fun s=>row_below (h.r s) hb
 inj:=h.inj
theorem bcell{W w1:World}(hb:Below W.heap.size W w1):(∀b o,b<W.heap.size→w1.cell? ⟨b,o,none⟩=W.cell? ⟨b,o,none⟩)∧(∀b o,b<W.heap.size→w1.frozen? ⟨b,o,none⟩=W.frozen? ⟨b,o,none⟩):=
 ⟨fun b o h=>hb.cell (p:=⟨b,o,none⟩) h,fun b o h=>hb.frozen (p:=⟨b,o,none⟩) h⟩
theorem Sent.cLong{w:World}{sn:Sn→Addr}(h:Sent w sn):w.cell? ⟨0,0,none⟩=some (.iface 291 (.pointer (some (sn .Long)))):=h.c .Long
theorem Sent.cEnd{w:World}{sn:Sn→Addr}(h:Sent w sn):w.cell? ⟨1,0,none⟩=some (.iface 291 (.pointer (some (sn .End)))):=h.c .End
theorem Sent.cTag{w:World}{sn:Sn→Addr}(h:Sent w sn):w.cell? ⟨2,0,none⟩=some (.iface 291 (.pointer (some (sn .Tag)))):=h.c .Tag
theorem Sent.cLength{w:World}{sn:Sn→Addr}(h:Sent w sn):w.cell? ⟨3,0,none⟩=some (.iface 291 (.pointer (some (sn .Length)))):=h.c .Length
theorem Sent.cValue{w:World}{sn:Sn→Addr}(h:Sent w sn):w.cell? ⟨4,0,none⟩=some (.iface 291 (.pointer (some (sn .Value)))):=h.c .Value
theorem Sent.cMore{w:World}{sn:Sn→Addr}(h:Sent w sn):w.cell? ⟨5,0,none⟩=some (.iface 291 (.pointer (some (sn .More)))):=h.c .More
theorem Sent.cOrder{w:World}{sn:Sn→Addr}(h:Sent w sn):w.cell? ⟨6,0,none⟩=some (.iface 291 (.pointer (some (sn .Order)))):=h.c .Order
theorem Sent.cDefault{w:World}{sn:Sn→Addr}(h:Sent w sn):w.cell? ⟨7,0,none⟩=some (.iface 291 (.pointer (some (sn .Default)))):=h.c .Default
theorem Sent.cDeep{w:World}{sn:Sn→Addr}(h:Sent w sn):w.cell? ⟨8,0,none⟩=some (.iface 291 (.pointer (some (sn .Deep)))):=h.c .Deep
theorem Sent.cTree{w:World}{sn:Sn→Addr}(h:Sent w sn):w.cell? ⟨9,0,none⟩=some (.iface 291 (.pointer (some (sn .Tree)))):=h.c .Tree
theorem Sent.cCard{w:World}{sn:Sn→Addr}(h:Sent w sn):w.cell? ⟨10,0,none⟩=some (.iface 291 (.pointer (some (sn .Card)))):=h.c .Card
theorem Sent.cMark{w:World}{sn:Sn→Addr}(h:Sent w sn):w.cell? ⟨11,0,none⟩=some (.iface 291 (.pointer (some (sn .Mark)))):=h.c .Mark
theorem Sent.cE{w:World}{sn:Sn→Addr}(h:Sent w sn):w.cell? ⟨1,0,none⟩=some (.iface 291 (.pointer (some (sn .End)))):=h.c .End
theorem Sent.cT{w:World}{sn:Sn→Addr}(h:Sent w sn):w.cell? ⟨2,0,none⟩=some (.iface 291 (.pointer (some (sn .Tag)))):=h.c .Tag
theorem Sent.cL{w:World}{sn:Sn→Addr}(h:Sent w sn):w.cell? ⟨3,0,none⟩=some (.iface 291 (.pointer (some (sn .Length)))):=h.c .Length
def nm(sn:Sn→Addr)(x:Addr):Int:=
 if x=sn .Long then 2 else if x=sn .End then 3 else if x=sn .Tag then 4 else if x=sn .Length then 5 else if x=sn .Value then 6 else if x=sn .More then 7 else if x=sn .Order then 8 else if x=sn .Default then 9 else if x=sn .Deep then 10 else if x=sn .Tree then 11 else if x=sn .Card then 12 else if x=sn .Mark then 13 else 1
theorem Sent.nm{w:World}{sn:Sn→Addr}(h:Sent w sn)(s:Sn):nm sn (sn s)=s.code:=by
 have e:∀s t:Sn,s≠t→¬sn s=sn t:=fun s t q p=>q (h.inj s t p)
 revert s
 unfold Go.Proofs.YtkkicodfpekbgaaGreatDoor.nm
 refine Sn.all ?_ ?_ ?_ ?_ ?_ ?_ ?_ ?_ ?_ ?_ ?_ ?_
 ·rw[if_pos rfl];rfl
 ·rw[if_neg (e .End .Long (by decide)),if_pos rfl];rfl
 ·rw[if_neg (e .Tag .Long (by decide)),if_neg (e .Tag .End (by decide)),if_pos rfl];rfl
 ·rw[if_neg (e .Length .Long (by decide)),if_neg (e .Length .End (by decide)),if_neg (e .Length .Tag (by decide)),if_pos rfl];rfl
 ·rw[if_neg (e .Value .Long (by decide)),if_neg (e .Value .End (by decide)),if_neg (e .Value .Tag (by decide)),if_neg (e .Value .Length (by decide)),if_pos rfl];rfl
 ·rw[if_neg (e .More .Long (by decide)),if_neg (e .More .End (by decide)),if_neg (e .More .Tag (by decide)),if_neg (e .More .Length (by decide)),if_neg (e .More .Value (by decide)),if_pos rfl];rfl
 ·rw[if_neg (e .Order .Long (by decide)),if_neg (e .Order .End (by decide)),if_neg (e .Order .Tag (by decide)),if_neg (e .Order .Length (by decide)),if_neg (e .Order .Value (by decide)),if_neg (e .Order .More (by decide)),if_pos rfl];rfl
 ·rw[if_neg (e .Default .Long (by decide)),if_neg (e .Default .End (by decide)),if_neg (e .Default .Tag (by decide)),if_neg (e .Default .Length (by decide)),if_neg (e .Default .Value (by decide)),if_neg (e .Default .More (by decide)),if_neg (e .Default .Order (by decide)),if_pos rfl];rfl
 ·rw[if_neg (e .Deep .Long (by decide)),if_neg (e .Deep .End (by decide)),if_neg (e .Deep .Tag (by decide)),if_neg (e .Deep .Length (by decide)),if_neg (e .Deep .Value (by decide)),if_neg (e .Deep .More (by decide)),if_neg (e .Deep .Order (by decide)),if_neg (e .Deep .Default (by decide)),if_pos rfl];rfl
 ·rw[if_neg (e .Tree .Long (by decide)),if_neg (e .Tree .End (by decide)),if_neg (e .Tree .Tag (by decide)),if_neg (e .Tree .Length (by decide)),if_neg (e .Tree .Value (by decide)),if_neg (e .Tree .More (by decide)),if_neg (e .Tree .Order (by decide)),if_neg (e .Tree .Default (by decide)),if_neg (e .Tree .Deep (by decide)),if_pos rfl];rfl
 ·rw[if_neg (e .Card .Long (by decide)),if_neg (e .Card .End (by decide)),if_neg (e .Card .Tag (by decide)),if_neg (e .Card .Length (by decide)),if_neg (e .Card .Value (by decide)),if_neg (e .Card .More (by decide)),if_neg (e .Card .Order (by decide)),if_neg (e .Card .Default (by decide)),if_neg (e .Card .Deep (by decide)),if_neg (e .Card .Tree (by decide)),if_pos rfl];rfl
 ·rw[if_neg (e .Mark .Long (by decide)),if_neg (e .Mark .End (by decide)),if_neg (e .Mark .Tag (by decide)),if_neg (e .Mark .Length (by decide)),if_neg (e .Mark .Value (by decide)),if_neg (e .Mark .More (by decide)),if_neg (e .Mark .Order (by decide)),if_neg (e .Mark .Default (by decide)),if_neg (e .Mark .Deep (by decide)),if_neg (e .Mark .Tree (by decide)),if_neg (e .Mark .Card (by decide)),if_pos rfl];rfl
theorem nm_none{sn:Sn→Addr}{x:Addr}(h:∀s,x≠sn s):nm sn x=1:=by
 unfold nm
 simp[h]
structure PlanIn(w:World)(na ta:Option Addr)(nl tl:Nat):Prop where
 num:∀i,i<nl→∃b o z,na=some ⟨b,o,none⟩∧w.cell? ⟨b,o+i,none⟩=some (.int .i64 z)∧ -9223372036854775808≤z∧z≤9223372036854775807
 txt:∀i,i<tl→∃b o s,ta=some ⟨b,o,none⟩∧w.cell? ⟨b,o+i,none⟩=some (.string s)∧s.size≤9223372036854775807
 nle:nl≤maxLen
 tle:tl≤maxLen
structure MkI(W w:World)(M:Nat)(na ta:Option Addr)(nl nc tl tc:Nat)(vs vl:Value):Prop where
 bel:Below W.heap.size W w
 lo:W.heap.size≤M
 own:∃n t:Nat,n≤nl∧t≤tl∧w.heap[M]? =some (.cells #[.slice na nl nc,.slice ta tl tc,.int .i64 n,.int .i64 t,vs,vl] 97 (0,0))
def FrM(M:Nat)(w w':World):Prop:=w.heap.size≤w'.heap.size∧∀j,j≠M→j<w.heap.size→w'.heap[j]? =w.heap[j]?
theorem FrM.refl(M:Nat)(w:World):FrM M w w:=⟨Nat.le_refl _,fun _ _ _=>rfl⟩
theorem FrM.trans{M:Nat}{w w1 w2:World}(h:FrM M w w1)(h':FrM M w1 w2):FrM M w w2:=⟨Nat.le_trans h.1 h'.1,fun j hj hl=>(h'.2 j hj (Nat.lt_of_lt_of_le hl h.1)).trans (h.2 j hj hl)⟩
theorem FrM.below{M:Nat}{w w':World}(h:Below w.heap.size w w'):FrM M w w':=⟨h.size,fun j _ hl=>h.block j hl⟩
theorem MkI.below{W w w':World}{M:Nat}{na ta:Option Addr}{nl nc tl tc:Nat}{vs vl:Value}(h:MkI W w M na ta nl nc tl tc vs vl)(hb:Below w.heap.size w w'):MkI W w' M na ta nl nc tl tc vs vl:=by
 obtain⟨h1,h2,n,t,hn,ht,h3⟩:=h
 exact⟨h1.trans (hb.mono h1.size),h2,n,t,hn,ht,block_below h3 hb⟩
def RetNo(n:Int)(P:World→Prop)(e:Ending)(w':World):Prop:=∃r:Int,e= .returned (.int .i64 r)∧0≤r∧r<n∧P w'
def RetX(N:Nat)(P:World→Prop)(e:Ending)(w':World):Prop:=∃s:ByteArray,e= .returned (.string s)∧s.size≤N∧P w'
theorem one_any(W w:World)(M:Nat)(na ta:Option Addr)(nl nc tl tc:Nat)(vs vl:Value)(n:Int)(hn:0<n)(hn1:n≤1000000)(h:MkI W w M na ta nl nc tl tc vs vl)(hp:PlanIn W na ta nl tl):
 Calls Tryz.prog 53 #[.pointer (some ⟨M,0,none⟩),.int .i64 n] w fun e w'=>RetNo n (fun w'=>MkI W w' M na ta nl nc tl tc vs vl∧FrM M w w') e w':=by
 obtain⟨hb,hlo,k,t,hk,ht,hM⟩:=h
 have hml:M<w.heap.size:=row_lt hM
 have c0:w.cell? ⟨M,0,none⟩=some (.slice na nl nc):=by simp[World.cell?,hM]
 have c2:w.cell? ⟨M,2,none⟩=some (.int .i64 k):=by simp[World.cell?,hM]
 have f2:w.frozen? ⟨M,2,none⟩=false:=by simp[World.frozen?,hM]
 have hnl:=hp.nle
 unfold maxLen at hnl
 have HB:Hid (Below W.heap.size W w):=hb
 have HM:Hid (w.heap[M]? =some (.cells #[.slice na nl nc,.slice ta tl tc,.int .i64 k,.int .i64 t,vs,vl] 97 (0,0))):=hM
 have HPK:Hid (∀(z:Int) wq, -9223372036854775808≤z→z≤9223372036854775807→Calls Tryz.prog 25 #[.int .i64 z,.int .i64 n] wq fun e w'=>e= .returned (.int .i64 (pk z n))∧wq=w'):=fun z wq h0 h1=>pick_any z n wq h0 h1 hn (by omega)
 have HPD:Hid (∀z,0≤pk z n∧pk z n<n):=fun z=>pk_bd z n hn
 by_cases hlt:k<nl
 ·obtain⟨b,o,z,rfl,hc,z0,z1⟩:=hp.num k hlt
  have hbl:b<W.heap.size:=lt_of_cell hc
  have hbw:b<w.heap.size:=Nat.lt_of_lt_of_le hbl hb.size
  have cz:w.cell? ⟨b,o+k,none⟩=some (.int .i64 z):=(hb.cell (p:=⟨b,o+k,none⟩) hbl).trans hc
  have hlt':(k:Int)<nl:=by omega
  clear hb hM hc hp
  go_enter Tryz.func53,Tryz.ntmps53
  go_wp2_with fail
  go_quiet (fail)
  go_wp2_with fail
  generalize hw1:w.drewN nq=w1
  have HW1:Hid (w.drewN nq=w1):=hw1
  have d0:w1.cell? ⟨M,0,none⟩=some (.slice (some ⟨b,o,none⟩) nl nc):=by rw[←hw1];exact c0
  have d2:w1.cell? ⟨M,2,none⟩=some (.int .i64 k):=by rw[←hw1];exact c2
  have g2:w1.frozen? ⟨M,2,none⟩=false:=by rw[←hw1];exact f2
  have dz:w1.cell? ⟨b,o+k,none⟩=some (.int .i64 z):=by rw[←hw1];exact cz
  have hs1:w.heap.size=w1.heap.size:=by rw[←hw1];rfl
  have hbw1:b<w1.heap.size:=by omega
  have hml1:M<w1.heap.size:=by omega
  clear hw1 c0 c2 f2 cz hbw hml
  go_quiet (fail)
  go_wp2_with fail
  refine(HPK.out z _ z0 z1).mono ?_
  rintro e w2 ⟨rfl,rfl⟩
  go_wp2
  go_ret
  obtain rfl:=HW1.out
  refine⟨pk z n,rfl,(HPD.out z).1,(HPD.out z).2,⟨(Go.below_drewN (Go.below_drewN HB.out _) _).setCell hlo _,hlo,k+1,t,by omega,ht,?_⟩,by simp,fun j hj _=>heap_setCell_other _ _ _ _ hj⟩
  exact heap_setCell_same _ _ _ _ _ _ HM.out
 ·have hlt':¬(k:Int)<nl:=by omega
  clear hb hM hp
  go_enter Tryz.func53,Tryz.ntmps53
  go_wp2_with fail
  go_quiet (fail)
  go_wp2_with fail
  refine(HPK.out 0 _ (by omega) (by omega)).mono ?_
  rintro e w1 ⟨rfl,rfl⟩
  go_wp2
  go_ret
  exact⟨pk 0 n,rfl,(HPD.out 0).1,(HPD.out 0).2,⟨Go.below_drewN HB.out _,hlo,k,t,hk,ht,HM.out⟩,FrM.refl _ _⟩
theorem text_any(W w:World)(M:Nat)(na ta:Option Addr)(nl nc tl tc:Nat)(vs vl:Value)(h:MkI W w M na ta nl nc tl tc vs vl)(hp:PlanIn W na ta nl tl):
 Calls Tryz.prog 56 #[.pointer (some ⟨M,0,none⟩)] w fun e w'=>RetX 9223372036854775807 (fun w'=>MkI W w' M na ta nl nc tl tc vs vl∧FrM M w w') e w':=by
 obtain⟨hb,hlo,k,t,hk,ht,hM⟩:=h
 have hml:M<w.heap.size:=row_lt hM
 have c1:w.cell? ⟨M,1,none⟩=some (.slice ta tl tc):=by simp[World.cell?,hM]
 have c3:w.cell? ⟨M,3,none⟩=some (.int .i64 t):=by simp[World.cell?,hM]
 have f3:w.frozen? ⟨M,3,none⟩=false:=by simp[World.frozen?,hM]
 have htl:=hp.tle
 unfold maxLen at htl
 have HB:Hid (Below W.heap.size W w):=hb
 have HM:Hid (w.heap[M]? =some (.cells #[.slice na nl nc,.slice ta tl tc,.int .i64 k,.int .i64 t,vs,vl] 97 (0,0))):=hM
 by_cases hlt:t<tl
 ·obtain⟨b,o,z,rfl,hc,zs⟩:=hp.txt t hlt
  have hbl:b<W.heap.size:=lt_of_cell hc
  have hbw:b<w.heap.size:=Nat.lt_of_lt_of_le hbl hb.size
  have hbm:b≠M:=by omega
  have cz:w.cell? ⟨b,o+t,none⟩=some (.string z):=(hb.cell (p:=⟨b,o+t,none⟩) hbl).trans hc
  have hlt':(t:Int)<tl:=by omega
  clear hb hM hc hp
  go_enter Tryz.func56,Tryz.ntmps56
  go_wp2_with fail
  go_quiet (fail)
  go_wp2_with fail
  generalize hw1:(w.drewN nq).setCell ⟨M,3,none⟩ (.int .i64 (t+1))=w1
  have HW1:Hid ((w.drewN nq).setCell ⟨M,3,none⟩ (.int .i64 (t+1))=w1):=hw1
  have d1:w1.cell? ⟨M,1,none⟩=some (.slice (some ⟨b,o,none⟩) tl tc):=by rw[←hw1];simp[go_sem,c1]
  have d3:w1.cell? ⟨M,3,none⟩=some (.int .i64 (t+1)):=by rw[←hw1];simp[go_sem,c3]
  have dz:w1.cell? ⟨b,o+t,none⟩=some (.string z):=by rw[←hw1];simp[go_sem,cz,hbm]
  have hs1:w.heap.size=w1.heap.size:=by rw[←hw1];simp
  have hbw1:b<w1.heap.size:=by omega
  have hml1:M<w1.heap.size:=by omega
  clear hw1 c1 c3 f3 cz hbw hml
  go_quiet (fail)
  go_wp2
  go_ret
  obtain rfl:=HW1.out
  refine⟨z,rfl,zs,⟨Go.below_drewN ((Go.below_drewN HB.out _).setCell hlo _) _,hlo,k,t+1,hk,by omega,?_⟩,by simp,fun j hj _=>heap_setCell_other _ _ _ _ hj⟩
  exact heap_setCell_same _ _ _ _ _ _ HM.out
 ·have hlt':(tl:Int)≤t:=by omega
  clear hb hM hp
  go_enter Tryz.func56,Tryz.ntmps56
  go_wp2_with fail
  go_quiet (fail)
  go_wp2
  go_ret
  exact⟨⟨#[]⟩,rfl,Nat.zero_le _,⟨Go.below_drewN HB.out _,hlo,k,t,hk,ht,HM.out⟩,FrM.refl _ _⟩
theorem cut_any(s:ByteArray)(n:Nat)(w:World)(hs:s.size≤9223372036854775807)(hn:n≤1000000):
 Calls Tryz.prog 55 #[.string s,.int .i64 n] w fun e w'=>RetX n (fun w'=>w'=w) e w':=by
 by_cases h:n<s.size
 ·have h':(n:Int)<s.size:=by omega
  go_enter Tryz.func55,Tryz.ntmps55
  go_wp2
  go_ret
  exact⟨s.extract 0 n,rfl,by rw[ByteArray.size_extract];omega,rfl⟩
 ·have h':¬(n:Int)<s.size:=by omega
  go_enter Tryz.func55,Tryz.ntmps55
  go_wp2
  go_ret
  exact⟨s,rfl,by omega,rfl⟩
end Go.Proofs.YtkkicodfpekbgaaGreatDoor
namespace Go.Proofs.YtkkicodfpekbgaaGreatDoor
set_option linter.unusedSimpArgs false
set_option linter.unusedVariables false
set_option maxRecDepth 100000
set_option maxHeartbeats 8000000
def IntOk(t:ByteArray):Prop:=1≤t.size∧t.size≤20∧(2≤t.size→b8 t 0*2+b8 t 1/128≠0∧b8 t 0*2+b8 t 1/128≠511)
def btw(t:ByteArray)(k:Nat):Prop:=k=0∨b8 t (k-1)<128
def oidTo(t:ByteArray)(k:Nat):Prop:=∀j,j<k→¬(btw t j∧b8 t j=128)
def OidOk(t:ByteArray):Prop:=1≤t.size∧t.size≤20∧oidTo t t.size∧btw t t.size
theorem oidTo_succ(t:ByteArray)(k:Nat):oidTo t (k+1)↔oidTo t k∧¬(btw t k∧b8 t k=128):=by
 unfold oidTo
 constructor
 ·intro h;exact⟨fun j hj=>h j (by omega),h k (by omega)⟩
 ·intro h j hj
  by_cases e:j=k
  ·subst e;exact h.2
  ·exact h.1 j (by omega)
theorem oidTo_zero(t:ByteArray):oidTo t 0:=fun _ h=>absurd h (Nat.not_lt_zero _)
theorem oid_no(t:ByteArray)(k:Nat)(hk:k<t.size)(h:btw t k∧b8 t k=128):¬OidOk t:=fun o=>o.2.2.1 k hk h
def BitsOk(t:ByteArray):Prop:=1≤t.size∧b8 t 0≤7∧(t.size=1→b8 t 0=0)∧(2≤t.size→b8 t (t.size-1)%2^(b8 t 0).toNat=0)
theorem i64_or1(x y:Int)(h0:0≤x)(h1:x<4611686018427387904)(hx:x%2=0)(h2:0≤y)(h3:y<2):bits .or .i64 x y=x+y:=
 bits_join .i64 63 (by decide) wraps_i64 1 x y h0 hx (by omega) h2 h3 (by omega)
def tz8(x:Nat):Nat:=if x=0 then 8 else(List.range 8).findIdx (fun k=>x/2^k%2=1)
theorem tz8_ge:∀x:Fin 256,∀k:Fin 8,(k.val≤tz8 x.val↔x.val%2^k.val=0):=by decide+kernel
end Go.Proofs.YtkkicodfpekbgaaGreatDoor
namespace Go.Proofs.YtkkicodfpekbgaaGreatDoor
open Go.RowKit
set_option linter.unusedSimpArgs false
set_option linter.unusedVariables false
set_option maxRecDepth 100000
set_option maxHeartbeats 8000000
theorem is_u(p:Int)(a b:Addr)(w:World)(ha:∃c t,w.heap[a.block]? =some (.cells c t (0,0)))(hb:∃c t,w.heap[b.block]? =some (.cells c t (0,0))):
 Calls Tryz.prog 59 #[.iface 155 (.agg #[.int .i64 p,.iface 291 (.pointer (some a))]),.iface 291 (.pointer (some b))] w fun e w'=>e= .returned (.bool (decide (a=b)))∧Below w.heap.size w w':=is_any p a b w ha hb
theorem number_nil(w:World):Calls Tryz.prog 34 #[.nilIface] w fun e w'=>e= .returned (.int .i64 0)∧w'=w:=by
 go_enter Tryz.func34,Tryz.ntmps34
 go_wp2
 go_ret
 exact⟨rfl,rfl⟩
theorem number_at(p:Int)(x:Addr)(w:World)(sn:Sn→Addr)(hs:Sent w sn)(hx:∃c t,w.heap[x.block]? =some (.cells c t (0,0))):
 Calls Tryz.prog 34 #[fault p x] w fun e w'=>e= .returned (.int .i64 (nm sn x))∧Below w.heap.size w w':=by
 have h0:=hs.cLong
 have S0:Hid (Sent w sn):=hs
 have X0:Hid (∃c t,w.heap[x.block]? =some (.cells c t (0,0))):=hx
 have B0:Hid (Below w.heap.size w w):=Below.refl _ _
 clear hs hx
 unfold fault
 go_enter Tryz.func34,Tryz.ntmps34
 go_wp2_with fail
 refine(is_u p x (sn .Long) w X0.out (S0.out.r .Long)).mono ?_
 rintro e w1 ⟨rfl,hb⟩
 have B1:Hid (Below w.heap.size w w1):=B0.out.trans (hb.mono B0.out.size)
 have S1:Hid (Sent w1 sn):=S0.out.below hb
 have X1:Hid (∃c t,w1.heap[x.block]? =some (.cells c t (0,0))):=row_below X0.out hb
 clear hb h0
 by_cases q0:x=sn .Long
 ·rw[decide_eq_true q0]
  have e:Hid (nm sn x=2):=by
   show nm sn x=2
   unfold nm
   rw[if_pos q0]
  go_wp2_with fail
  go_ret
  exact⟨by rw[e.out];rfl,B1.out⟩
 rw[decide_eq_false q0]
 have h1:=S1.out.cEnd
 go_wp2_with fail
 refine(is_u p x (sn .End) w1 X1.out (S1.out.r .End)).mono ?_
 rintro e w2 ⟨rfl,hb⟩
 have B2:Hid (Below w.heap.size w w2):=B1.out.trans (hb.mono B1.out.size)
 have S2:Hid (Sent w2 sn):=S1.out.below hb
 have X2:Hid (∃c t,w2.heap[x.block]? =some (.cells c t (0,0))):=row_below X1.out hb
 clear hb h1
 by_cases q1:x=sn .End
 ·rw[decide_eq_true q1]
  have e:Hid (nm sn x=3):=by
   show nm sn x=3
   unfold nm
   rw[if_neg q0,if_pos q1]
  go_wp2_with fail
  go_ret
  exact⟨by rw[e.out];rfl,B2.out⟩
 rw[decide_eq_false q1]
 have h2:=S2.out.cTag
 go_wp2_with fail
 refine(is_u p x (sn .Tag) w2 X2.out (S2.out.r .Tag)).mono ?_
 rintro e w3 ⟨rfl,hb⟩
 have B3:Hid (Below w.heap.size w w3):=B2.out.trans (hb.mono B2.out.size)
 have S3:Hid (Sent w3 sn):=S2.out.below hb
 have X3:Hid (∃c t,w3.heap[x.block]? =some (.cells c t (0,0))):=row_below X2.out hb
 clear hb h2
 by_cases q2:x=sn .Tag
 ·rw[decide_eq_true q2]
  have e:Hid (nm sn x=4):=by
   show nm sn x=4
   unfold nm
   rw[if_neg q0,if_neg q1,if_pos q2]
  go_wp2_with fail
  go_ret
  exact⟨by rw[e.out];rfl,B3.out⟩
 rw[decide_eq_false q2]
 have h3:=S3.out.cLength
 go_wp2_with fail
 refine(is_u p x (sn .Length) w3 X3.out (S3.out.r .Length)).mono ?_
 rintro e w4 ⟨rfl,hb⟩
 have B4:Hid (Below w.heap.size w w4):=B3.out.trans (hb.mono B3.out.size)
 have S4:Hid (Sent w4 sn):=S3.out.below hb
 have X4:Hid (∃c t,w4.heap[x.block]? =some (.cells c t (0,0))):=row_below X3.out hb
 clear hb h3
 by_cases q3:x=sn .Length
 ·rw[decide_eq_true q3]
  have e:Hid (nm sn x=5):=by
   show nm sn x=5
   unfold nm
   rw[if_neg q0,if_neg q1,if_neg q2,if_pos q3]
  go_wp2_with fail
  go_ret
  exact⟨by rw[e.out];rfl,B4.out⟩
 rw[decide_eq_false q3]
 have h4:=S4.out.cValue
 go_wp2_with fail
 refine(is_u p x (sn .Value) w4 X4.out (S4.out.r .Value)).mono ?_
 rintro e w5 ⟨rfl,hb⟩
 have B5:Hid (Below w.heap.size w w5):=B4.out.trans (hb.mono B4.out.size)
 have S5:Hid (Sent w5 sn):=S4.out.below hb
 have X5:Hid (∃c t,w5.heap[x.block]? =some (.cells c t (0,0))):=row_below X4.out hb
 clear hb h4
 by_cases q4:x=sn .Value
 ·rw[decide_eq_true q4]
  have e:Hid (nm sn x=6):=by
   show nm sn x=6
   unfold nm
   rw[if_neg q0,if_neg q1,if_neg q2,if_neg q3,if_pos q4]
  go_wp2_with fail
  go_ret
  exact⟨by rw[e.out];rfl,B5.out⟩
 rw[decide_eq_false q4]
 have h5:=S5.out.cMore
 go_wp2_with fail
 refine(is_u p x (sn .More) w5 X5.out (S5.out.r .More)).mono ?_
 rintro e w6 ⟨rfl,hb⟩
 have B6:Hid (Below w.heap.size w w6):=B5.out.trans (hb.mono B5.out.size)
 have S6:Hid (Sent w6 sn):=S5.out.below hb
 have X6:Hid (∃c t,w6.heap[x.block]? =some (.cells c t (0,0))):=row_below X5.out hb
 clear hb h5
 by_cases q5:x=sn .More
 ·rw[decide_eq_true q5]
  have e:Hid (nm sn x=7):=by
   show nm sn x=7
   unfold nm
   rw[if_neg q0,if_neg q1,if_neg q2,if_neg q3,if_neg q4,if_pos q5]
  go_wp2_with fail
  go_ret
  exact⟨by rw[e.out];rfl,B6.out⟩
 rw[decide_eq_false q5]
 have h6:=S6.out.cOrder
 go_wp2_with fail
 refine(is_u p x (sn .Order) w6 X6.out (S6.out.r .Order)).mono ?_
 rintro e w7 ⟨rfl,hb⟩
 have B7:Hid (Below w.heap.size w w7):=B6.out.trans (hb.mono B6.out.size)
 have S7:Hid (Sent w7 sn):=S6.out.below hb
 have X7:Hid (∃c t,w7.heap[x.block]? =some (.cells c t (0,0))):=row_below X6.out hb
 clear hb h6
 by_cases q6:x=sn .Order
 ·rw[decide_eq_true q6]
  have e:Hid (nm sn x=8):=by
   show nm sn x=8
   unfold nm
   rw[if_neg q0,if_neg q1,if_neg q2,if_neg q3,if_neg q4,if_neg q5,if_pos q6]
  go_wp2_with fail
  go_ret
  exact⟨by rw[e.out];rfl,B7.out⟩
 rw[decide_eq_false q6]
 have h7:=S7.out.cDefault
 go_wp2_with fail
 refine(is_u p x (sn .Default) w7 X7.out (S7.out.r .Default)).mono ?_
 rintro e w8 ⟨rfl,hb⟩
 have B8:Hid (Below w.heap.size w w8):=B7.out.trans (hb.mono B7.out.size)
 have S8:Hid (Sent w8 sn):=S7.out.below hb
 have X8:Hid (∃c t,w8.heap[x.block]? =some (.cells c t (0,0))):=row_below X7.out hb
 clear hb h7
 by_cases q7:x=sn .Default
 ·rw[decide_eq_true q7]
  have e:Hid (nm sn x=9):=by
   show nm sn x=9
   unfold nm
   rw[if_neg q0,if_neg q1,if_neg q2,if_neg q3,if_neg q4,if_neg q5,if_neg q6,if_pos q7]
  go_wp2_with fail
  go_ret
  exact⟨by rw[e.out];rfl,B8.out⟩
 rw[decide_eq_false q7]
 have h8:=S8.out.cDeep
 go_wp2_with fail
 refine(is_u p x (sn .Deep) w8 X8.out (S8.out.r .Deep)).mono ?_
 rintro e w9 ⟨rfl,hb⟩
 have B9:Hid (Below w.heap.size w w9):=B8.out.trans (hb.mono B8.out.size)
 have S9:Hid (Sent w9 sn):=S8.out.below hb
 have X9:Hid (∃c t,w9.heap[x.block]? =some (.cells c t (0,0))):=row_below X8.out hb
 clear hb h8
 by_cases q8:x=sn .Deep
 ·rw[decide_eq_true q8]
  have e:Hid (nm sn x=10):=by
   show nm sn x=10
   unfold nm
   rw[if_neg q0,if_neg q1,if_neg q2,if_neg q3,if_neg q4,if_neg q5,if_neg q6,if_neg q7,if_pos q8]
  go_wp2_with fail
  go_ret
  exact⟨by rw[e.out];rfl,B9.out⟩
 rw[decide_eq_false q8]
 have h9:=S9.out.cTree
 go_wp2_with fail
 refine(is_u p x (sn .Tree) w9 X9.out (S9.out.r .Tree)).mono ?_
 rintro e w10 ⟨rfl,hb⟩
 have B10:Hid (Below w.heap.size w w10):=B9.out.trans (hb.mono B9.out.size)
 have S10:Hid (Sent w10 sn):=S9.out.below hb
 have X10:Hid (∃c t,w10.heap[x.block]? =some (.cells c t (0,0))):=row_below X9.out hb
 clear hb h9
 by_cases q9:x=sn .Tree
 ·rw[decide_eq_true q9]
  have e:Hid (nm sn x=11):=by
   show nm sn x=11
   unfold nm
   rw[if_neg q0,if_neg q1,if_neg q2,if_neg q3,if_neg q4,if_neg q5,if_neg q6,if_neg q7,if_neg q8,if_pos q9]
  go_wp2_with fail
  go_ret
  exact⟨by rw[e.out];rfl,B10.out⟩
 rw[decide_eq_false q9]
 have h10:=S10.out.cCard
 go_wp2_with fail
 refine(is_u p x (sn .Card) w10 X10.out (S10.out.r .Card)).mono ?_
 rintro e w11 ⟨rfl,hb⟩
 have B11:Hid (Below w.heap.size w w11):=B10.out.trans (hb.mono B10.out.size)
 have S11:Hid (Sent w11 sn):=S10.out.below hb
 have X11:Hid (∃c t,w11.heap[x.block]? =some (.cells c t (0,0))):=row_below X10.out hb
 clear hb h10
 by_cases q10:x=sn .Card
 ·rw[decide_eq_true q10]
  have e:Hid (nm sn x=12):=by
   show nm sn x=12
   unfold nm
   rw[if_neg q0,if_neg q1,if_neg q2,if_neg q3,if_neg q4,if_neg q5,if_neg q6,if_neg q7,if_neg q8,if_neg q9,if_pos q10]
  go_wp2_with fail
  go_ret
  exact⟨by rw[e.out];rfl,B11.out⟩
 rw[decide_eq_false q10]
 have h11:=S11.out.cMark
 go_wp2_with fail
 refine(is_u p x (sn .Mark) w11 X11.out (S11.out.r .Mark)).mono ?_
 rintro e w12 ⟨rfl,hb⟩
 have B12:Hid (Below w.heap.size w w12):=B11.out.trans (hb.mono B11.out.size)
 have S12:Hid (Sent w12 sn):=S11.out.below hb
 have X12:Hid (∃c t,w12.heap[x.block]? =some (.cells c t (0,0))):=row_below X11.out hb
 clear hb h11
 by_cases q11:x=sn .Mark
 ·rw[decide_eq_true q11]
  have e:Hid (nm sn x=13):=by
   show nm sn x=13
   unfold nm
   rw[if_neg q0,if_neg q1,if_neg q2,if_neg q3,if_neg q4,if_neg q5,if_neg q6,if_neg q7,if_neg q8,if_neg q9,if_neg q10,if_pos q11]
  go_wp2_with fail
  go_ret
  exact⟨by rw[e.out];rfl,B12.out⟩
 rw[decide_eq_false q11]
 have e:Hid (nm sn x=1):=by
  show nm sn x=1
  unfold nm
  rw[if_neg q0,if_neg q1,if_neg q2,if_neg q3,if_neg q4,if_neg q5,if_neg q6,if_neg q7,if_neg q8,if_neg q9,if_neg q10,if_neg q11]
 go_wp2_with fail
 go_ret
 exact⟨by rw[e.out];rfl,B12.out⟩
theorem number_sn(p:Int)(s:Sn)(w:World)(sn:Sn→Addr)(hs:Sent w sn):
 Calls Tryz.prog 34 #[fault p (sn s)] w fun e w'=>e= .returned (.int .i64 s.code)∧Below w.heap.size w w':=by
 rw[←hs.nm s];exact number_at p (sn s) w sn hs (hs.r s)
end Go.Proofs.YtkkicodfpekbgaaGreatDoor
