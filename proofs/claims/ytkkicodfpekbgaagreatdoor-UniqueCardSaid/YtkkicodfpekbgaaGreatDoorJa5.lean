/-
Several texts in one.
-/
import Derived.Test.YtkkicodfpekbgaaGreatDoorJa1
import Derived.Shelf.Unicode.ValidAny
import Derived.Test.YtkkicodfpekbgaaGreatDoorJa2
import Derived.Deep.DeepCutAuto
import Derived.Deep.RegionWith
import Derived.Test.YtkkicodfpekbgaaGreatDoorJa3
import Derived.Handy
import Derived.Deep.RegionHeldLaw
import Derived.Deep.LoopGhost
namespace Go.Proofs.YtkkicodfpekbgaaGreatDoor
open Go.RowKit
set_option linter.unusedSimpArgs false
set_option linter.unusedVariables false
set_option maxRecDepth 100000
set_option maxHeartbeats 8000000
def Tabs(w:World):Prop:=Lib.Utf8Tabs (valRen.g 3) (valRen.g 4) w
theorem valids(t:ByteArray)(w:World)(hm:t.size≤9223372036854775807)(hT:Tabs w):Valids t w:=by
 have c:Calls Tryz.prog 176 #[.string t] w _:=Any.utf8_ValidString Tryz.laysValid t w hm hT
 exact c.mono fun e w' h=>⟨_,h.1,(utf8_valid t).symm,h.2⟩
structure Lay(w:World)(sn:Sn→Addr):Prop where
 s:Sent w sn
 n:Nums w
 d:Days w
 t:Tabs w
theorem Lay.below{w w':World}{sn:Sn→Addr}(h:Lay w sn)(hb:Below w.heap.size w w'):Lay w' sn:=
 ⟨h.s.below hb,h.n.below hb,fun i hi=>(hb.cell (lt_of_cell (h.d i hi))).trans (h.d i hi),Utf8Tabs_below h.t hb⟩
structure LayZ(w:World)(sn:Sn→Addr)(za:Addr):Prop where
 c:w.cell? ⟨12,0,none⟩=some (.iface 291 (.pointer (some za)))
 r:∃c t,w.heap[za.block]? =some (.cells c t (0,0))
 d:∀s:Sn,sn s≠za
theorem LayZ.below{w w':World}{sn:Sn→Addr}{za:Addr}(h:LayZ w sn za)(hb:Below w.heap.size w w'):LayZ w' sn za:=⟨(hb.cell (lt_of_cell h.c)).trans h.c,row_below h.r hb,h.d⟩
theorem at_any(p:Int)(a:Addr)(w:World):
 Calls Tryz.prog 60 #[.int .i64 p,.iface 291 (.pointer (some a))] w fun e w'=>e= .returned (fault p a)∧w'=w:=by
 unfold fault
 go_enter Tryz.func60,Tryz.ntmps60
 go_wp2
 go_ret
 exact⟨rfl,rfl⟩
theorem comesBack_any(s:List Nd)(a:Option Addr)(c i:Nat)(w:World)(hs:Sch w a s)(hw:Within s)(htg:Tags s)(hi:i<s.length)(hn:s.length≤40):
 Calls Tryz.prog 63 #[.slice a s.length c,.int .i64 i] w fun e w'=>RetO (Back s i) w e w':=by
 have HC:Hid (Calls Tryz.prog 96 #[.slice a s.length c,.int .i64 i] w fun e w'=>RetE s i w e w'):=reach_any s a c i w hs hw htg hi hn
 clear hs hw htg
 go_enter Tryz.func63,Tryz.ntmps63
 go_wp2_with fail
 refine HC.out.mono ?_
 rintro e w1 ⟨v,l,bk,rfl,_,hb,_,_,hbk⟩
 have HB:Hid (Below w.heap.size w w1):=hb
 have HR:Hid (bk=true↔Back s i):=hbk
 clear hb hbk
 go_wp2
 go_ret
 exact reto_iff HR.out HB.out
theorem tagged_iff(n:Nd):(¬Bad1 n∧¬Bad2 n)↔(1≤n.kind∧n.kind≤14∧Tagged n):=by unfold Bad1 Bad2 Tagged;omega
theorem count_iff(k:Int)(m:Nat):Count k m↔((bnd k).1≤(m:Int)∧(m:Int)≤(bnd k).2):=by
 unfold Count bnd
 repeat' split
 all_goals simp only;omega
theorem isShaped_any(m:Nat)(n:Nd)(ka:Option Addr)(kc:Nat)(w:World)(hka:KidsIn w ka n.kids)(hkm:n.kids.length≤maxLen):
 Calls Tryz.prog 61 #[.agg #[.int .i64 n.kind,.int .i64 n.tag,.int .i64 n.mode,.slice ka n.kids.length kc],.int .i64 m] w fun e w'=>RetO (Alone m n) w e w':=by
 have HM:Hid (∀(wr:World) (k:Kd),Calls Tryz.prog 94 #[.agg #[.int .i64 k.node,.bool k.opt,.string k.dflt]] wr fun e w'=>RetO (¬k.must) wr e w'):=fun wr k=>mayLack_any k wr
 have HT:Hid (∀wr,Calls Tryz.prog 92 #[.agg #[.int .i64 n.kind,.int .i64 n.tag,.int .i64 n.mode,.slice ka n.kids.length kc]] wr fun e w'=>RetO (Tagged n) wr e w'):=fun wr=>isTagged_any n ka kc wr
 have HKB:Hid (∀wr,Calls Tryz.prog 93 #[.int .i64 n.kind] wr fun e w'=>e= .returned (.tuple #[.int .i64 (bnd n.kind).1,.int .i64 (bnd n.kind).2])∧Below wr.heap.size wr w'):=fun wr=>kidBounds_any n.kind wr
 have HKI:Hid (KidsIn w ka n.kids):=hka
 clear hka
 by_cases h1:n.kind<1
 ·have HX:Hid (¬Alone m n):=fun h=>h.1 (.inl h1)
  go_enter Tryz.func61,Tryz.ntmps61
  go_wp2
  go_ret
  exact reto_no HX.out ((Below.refl _ _).alloc (Nat.le_refl _) _)
 have h1':1≤n.kind:=by omega
 by_cases h2:14<n.kind
 ·have HX:Hid (¬Alone m n):=fun h=>h.1 (.inr (.inl h2))
  clear h1
  go_enter Tryz.func61,Tryz.ntmps61
  go_wp2
  go_ret
  exact reto_no HX.out ((Below.refl _ _).alloc (Nat.le_refl _) _)
 have h2':n.kind≤14:=by omega
 clear h1 h2
 go_enter Tryz.func61,Tryz.ntmps61
 go_wp2_with fail
 refine(HT.out _).mono ?_
 rintro e w1 ⟨r,rfl,hr,hb1⟩
 have HR:Hid (r=true↔Tagged n):=hr
 have HB1:Hid (Below w.heap.size w w1):=below_alloc hb1
 obtain⟨Bn,hBn⟩:∃Bn,Bn=w.heap.size:=⟨_,rfl⟩
 have HBN:Hid (Bn=w.heap.size):=hBn
 have HG1:Hid (w1.heap[Bn]? =some (.cells #[.int .i64 n.kind,.int .i64 n.tag,.int .i64 n.mode,.slice ka n.kids.length kc] 58 (0,0))):=by rw[hBn];exact block_below (heap_alloc_new w _) hb1
 have q0:w1.cell? ⟨Bn,0,none⟩=some (.int .i64 n.kind):=by simp[World.cell?,HG1.out]
 have q3:w1.cell? ⟨Bn,3,none⟩=some (.slice ka n.kids.length kc):=by simp[World.cell?,HG1.out]
 rw[←hBn]
 clear hr hb1 hBn
 cases r
 ·go_wp2
  go_ret
  exact reto_no (fun h=>Bool.noConfusion (HR.out.2 ((tagged_iff n).1 ⟨h.1,h.2.1⟩).2.2)) HB1.out
 ·have HTG:Hid (¬Bad1 n∧¬Bad2 n):=(tagged_iff n).2 ⟨h1',h2',HR.out.1 rfl⟩
  go_wp2_with fail
  refine(HKB.out _).mono ?_
  rintro e w2 ⟨rfl,hb2⟩
  have HB2:Hid (Below w.heap.size w w2):=HB1.out.trans (hb2.mono HB1.out.size)
  have HG2:Hid (w2.heap[Bn]? =some (.cells #[.int .i64 n.kind,.int .i64 n.tag,.int .i64 n.mode,.slice ka n.kids.length kc] 58 (0,0))):=block_below HG1.out hb2
  have p0:w2.cell? ⟨Bn,0,none⟩=some (.int .i64 n.kind):=by simp[World.cell?,HG2.out]
  have p3:w2.cell? ⟨Bn,3,none⟩=some (.slice ka n.kids.length kc):=by simp[World.cell?,HG2.out]
  have HCI:=count_iff n.kind n.kids.length
  have HCH:Hid (Count n.kind n.kids.length↔((bnd n.kind).1≤(n.kids.length:Int)∧(n.kids.length:Int)≤(bnd n.kind).2)):=HCI
  generalize(bnd n.kind).1=lo at*
  generalize(bnd n.kind).2=hi at*
  clear hb2 q0 q3 HCI
  by_cases c1:(n.kids.length:Int)<lo
  ·have HX:Hid (¬Count n.kind n.kids.length):=fun q=>by have:=HCH.out.1 q;omega
   go_wp2
   go_ret
   exact reto_no (fun h=>HX.out h.2.2.1) HB2.out
  have c1':lo≤(n.kids.length:Int):=by omega
  by_cases c2:hi<(n.kids.length:Int)
  ·have HX:Hid (¬Count n.kind n.kids.length):=fun q=>by have:=HCH.out.1 q;omega
   clear c1
   go_wp2
   go_ret
   exact reto_no (fun h=>HX.out h.2.2.1) HB2.out
  have c2':(n.kids.length:Int)≤hi:=by omega
  have HC:Hid (Count n.kind n.kids.length):=HCH.out.2 ⟨c1',c2'⟩
  have hk8:n.kids.length≤8:=by
   have:=HC.out
   unfold Count at this
   repeat' split at this
   all_goals omega
  clear c1 c2
  go_wp2
  go_loopw [43] (fun vi wr=>∃i:Nat,i≤n.kids.length∧vi= .int .i64 i∧(∀j,j<i→KidOk m n (kd n j))∧Below w2.heap.size w2 wr) (fun vi _=>n.kids.length-(intOf vi).toNat)
  case atStart=>exact⟨0,Nat.zero_le _,rfl,fun _ h=>absurd h (Nat.not_lt_zero _),Below.refl _ _⟩
  case round=>
   obtain⟨i,hi',rfl,hall,hbr⟩:=hrel
   have HA:Hid (∀j,j<i→KidOk m n (kd n j)):=hall
   have HB:Hid (Below w2.heap.size w2 wr):=hbr
   have HBW:Hid (Below w.heap.size w wr):=HB2.out.trans (hbr.mono HB2.out.size)
   have HG3:Hid (wr.heap[Bn]? =some (.cells #[.int .i64 n.kind,.int .i64 n.tag,.int .i64 n.mode,.slice ka n.kids.length kc] 58 (0,0))):=block_below HG2.out hbr
   clear hall hbr
   by_cases hlt:i<n.kids.length
   ·have hlt':(i:Int)<n.kids.length:=by omega
    obtain⟨kb,ko,rfl,kcl⟩:=HKI.out i hlt
    obtain⟨y,hy⟩:∃y,kd n i=y:=⟨_,rfl⟩
    have HY:Hid (kd n i=y):=hy
    have hkc:KidCells w kb (ko+i*3) y:=by rw[←hy];exact kcl
    obtain⟨k1,k2,k3⟩:=hkc.below HBW.out
    have HB6:Hid (∀o,Below w.heap.size w (wr.alloc o)):=fun o=>HBW.out.alloc HBW.out.size o
    have NO:Hid (¬KidOk m n y→¬Alone m n):=fun h h'=>h (HY.out▸h'.2.2.2 i hlt)
    have YES:Hid (KidOk m n y→∀j,j<i+1→KidOk m n (kd n j)):=fun h j hj=>by
     by_cases e:j=i
     ·subst e;rw[HY.out];exact h
     ·exact HA.out j (by omega)
    clear hy kcl hkc
    by_cases q1:y.node<0
    ·have HX:Hid (¬KidOk m n y):=fun h=>by have:=h.1;omega
     go_wp2
     go_ret
     exact reto_no (NO.out HX.out) (HB6.out _)
    have q1':0≤y.node:=by omega
    by_cases q2:¬y.node<m
    ·have HX:Hid (¬KidOk m n y):=fun h=>q2 h.2.1
     have q2':(m:Int)≤y.node:=by omega
     clear q1 q2
     go_wp2
     go_ret
     exact reto_no (NO.out HX.out) (HB6.out _)
    have q2':y.node<m:=by omega
    clear q1 q2
    go_wp2_with fail
    refine(HM.out _ y).mono ?_
    rintro e w3 ⟨r,rfl,hr,hb3⟩
    have HRM:Hid (r=true↔¬y.must):=hr
    have HB3:Hid (Below w2.heap.size w2 w3):=HB.out.trans ((below_alloc hb3).mono HB.out.size)
    have HBW3:Hid (Below w.heap.size w w3):=HBW.out.trans ((below_alloc hb3).mono HBW.out.size)
    have HG4:Hid (w3.heap[Bn]? =some (.cells #[.int .i64 n.kind,.int .i64 n.tag,.int .i64 n.mode,.slice (some ⟨kb,ko,none⟩) n.kids.length kc] 58 (0,0))):=block_below HG3.out (below_alloc hb3)
    have HYB:Hid (w3.heap[wr.heap.size]? =some (.cells #[.int .i64 y.node,.bool y.opt,.string y.dflt] 55 (0,0))):=block_below (heap_alloc_new wr _) hb3
    have f0:w3.cell? ⟨Bn,0,none⟩=some (.int .i64 n.kind):=by simp[World.cell?,HG4.out]
    have y1:w3.cell? ⟨wr.heap.size,1,none⟩=some (.bool y.opt):=by simp[World.cell?,HYB.out]
    have y2:w3.cell? ⟨wr.heap.size,2,none⟩=some (.string y.dflt):=by simp[World.cell?,HYB.out]
    clear hr hb3 k1 k2 k3
    by_cases q3:¬(y.must∨n.kind=10)
    ·have HX:Hid (¬KidOk m n y):=fun h=>q3 h.2.2.1
     obtain rfl:r=true:=HRM.out.2 (fun q=>q3 (.inl q))
     have q4:(n.kind !=10)=true:=by simp;exact fun e=>q3 (.inr e)
     clear q3
     go_wp2
     go_ret
     exact reto_no (NO.out HX.out) HBW3.out
    have q3:y.must∨n.kind=10:=Classical.not_not.1 q3
    have HQ3:Hid (y.must∨n.kind=10):=q3
    have q5:r=false∨(r=true∧(n.kind !=10)=false):=by
     cases r
     ·exact .inl rfl
     ·right
      refine⟨rfl,?_⟩
      rcases q3 with q3|q3
      ·exact absurd q3 (HRM.out.1 rfl)
      ·simp[q3]
    clear q3
    by_cases q6:y.opt=true
    ·by_cases q7:y.dflt.size=0
     ·have e7:=emp_t q7
      have HX:Hid (KidOk m n y):=⟨q1',q2',HQ3.out,fun h=>h.2 q7⟩
      clear q7
      rw[q6]at y1
      clear q6
      rcases q5 with rfl|⟨rfl,q8⟩
      ·go_wp2
       go_roundw
       case rel=>exact⟨i+1,by omega,by go_num,YES.out HX.out,HB3.out⟩
       case measure=>simp[intOf];omega
      ·go_wp2
       go_roundw
       case rel=>exact⟨i+1,by omega,by go_num,YES.out HX.out,HB3.out⟩
       case measure=>simp[intOf];omega
     ·have e7:=emp_f (t:=y.dflt) (by omega)
      have HX:Hid (¬KidOk m n y):=fun h=>h.2.2.2 ⟨q6,q7⟩
      clear q7
      rw[q6]at y1
      clear q6
      rcases q5 with rfl|⟨rfl,q8⟩
      ·go_wp2
       go_ret
       exact reto_no (NO.out HX.out) HBW3.out
      ·go_wp2
       go_ret
       exact reto_no (NO.out HX.out) HBW3.out
    ·have q6':y.opt=false:=by simpa using q6
     have HX:Hid (KidOk m n y):=⟨q1',q2',HQ3.out,fun h=>q6 h.1⟩
     rw[q6']at y1
     clear q6 q6'
     rcases q5 with rfl|⟨rfl,q8⟩
     ·go_wp2
      go_roundw
      case rel=>exact⟨i+1,by omega,by go_num,YES.out HX.out,HB3.out⟩
      case measure=>simp[intOf];omega
     ·go_wp2
      go_roundw
      case rel=>exact⟨i+1,by omega,by go_num,YES.out HX.out,HB3.out⟩
      case measure=>simp[intOf];omega
   ·have hlt':(n.kids.length:Int)≤i:=by omega
    go_wp2
    go_ret
    exact reto_yes ⟨HTG.out.1,HTG.out.2,HC.out,fun j h=>HA.out j (by omega)⟩ HBW.out
theorem lays_0{N:Nd}(ht:N.tag<0)(hm:N.mode=0):N.lays=[(0,own N.kind,false)]:=by unfold Nd.lays Nd.ownT;rw[if_neg (by omega),if_neg (by omega)]
theorem lays_1{N:Nd}(ht:0≤N.tag)(hm:N.mode=0):N.lays=[(2,N.tag,false)]:=by unfold Nd.lays Nd.ownT;rw[if_neg (by omega),if_pos ⟨hm,ht⟩]
theorem lays_2{N:Nd}(hm:N.mode=1):N.lays=[(2,N.tag,true),(0,own N.kind,false)]:=by unfold Nd.lays Nd.ownT;rw[if_pos hm,if_neg (by omega)]
theorem strip1{f:Int×Int×Bool}{t u:ByteArray}:strip [f] t=some u↔((hd t).1=0∧((hd t).2.c,(hd t).2.n,(hd t).2.b)=f∧(hd t).2.s+(hd t).2.l=t.size)∧u=t.extract (hd t).2.s.toNat t.size:=by
 show(if _ then some _ else none)=_↔_
 by_cases h:(hd t).1=0∧((hd t).2.c,(hd t).2.n,(hd t).2.b)=f∧(hd t).2.s+(hd t).2.l=t.size
 ·rw[if_pos h]
  exact⟨fun e=>⟨h,by injection e with e;exact e.symm⟩,fun e=>by rw[e.2]⟩
 ·rw[if_neg h]
  exact⟨fun e=>(by cases e),fun e=>absurd e.1 h⟩
theorem strip2{f:Int×Int×Bool}{fs:List (Int×Int×Bool)}{t u:ByteArray}:strip (f::fs) t=some u↔((hd t).1=0∧((hd t).2.c,(hd t).2.n,(hd t).2.b)=f∧(hd t).2.s+(hd t).2.l=t.size)∧strip fs (t.extract (hd t).2.s.toNat t.size)=some u:=by
 show(if _ then _ else none)=_↔_
 by_cases h:(hd t).1=0∧((hd t).2.c,(hd t).2.n,(hd t).2.b)=f∧(hd t).2.s+(hd t).2.l=t.size
 ·rw[if_pos h]
  exact⟨fun e=>⟨h,e⟩,fun e=>e.2⟩
 ·rw[if_neg h]
  exact⟨fun e=>(by cases e),fun e=>absurd e.1 h⟩
theorem elem_iff{N:Nd}{t u:ByteArray}(ht:N.tag<0→N.mode=0)(hm:N.mode=0∨N.mode=1):ElemOk N t u↔(strip N.lays t=some u∧ContentOk N.kind u):=by
 unfold ElemOk NodeAt
 rw[extract_all]
 by_cases h0:N.tag<0
 ·rw[lays_0 h0 (ht h0),strip1]
  constructor
  ·rintro⟨_,h1,h2,h3⟩
   rcases h3 with⟨_,b,c,d,e,f⟩|⟨a,_⟩|⟨a,_⟩
   ·exact⟨⟨⟨h1,by rw[b,c,d],by omega⟩,by rw[e,Nat.zero_add]⟩,f⟩
   ·omega
   ·omega
  ·rintro⟨⟨⟨h1,h2,h3⟩,h4⟩,h5⟩
   injection h2 with b h2
   injection h2 with c d
   exact⟨by omega,h1,by omega,.inl ⟨h0,b,c,d,by rw[h4,Nat.zero_add],h5⟩⟩
 ·rcases hm with hm|hm
  ·rw[lays_1 (by omega) hm,strip1]
   constructor
   ·rintro⟨_,h1,h2,h3⟩
    rcases h3 with⟨a,_⟩|⟨_,_,b,c,d,e,f⟩|⟨_,a,_⟩
    ·omega
    ·exact⟨⟨⟨h1,by rw[b,c,d],by omega⟩,by rw[e,Nat.zero_add]⟩,f⟩
    ·omega
   ·rintro⟨⟨⟨h1,h2,h3⟩,h4⟩,h5⟩
    injection h2 with b h2
    injection h2 with c d
    exact⟨by omega,h1,by omega,.inr (.inl ⟨by omega,hm,b,c,d,by rw[h4,Nat.zero_add],h5⟩)⟩
  ·rw[lays_2 hm,strip2,strip1]
   constructor
   ·rintro⟨_,h1,h2,h3⟩
    rcases h3 with⟨a,_⟩|⟨_,a,_⟩|⟨_,_,b,c,d,t',e,f,g,h,i,j,k,l⟩
    ·omega
    ·omega
    ·rw[Nat.zero_add]at e k
     have ho:=hd_ok h1
     have hz:t'.size=t.size-(hd t).2.s.toNat:=by rw[e];simp
     rw[←e]
     refine⟨⟨⟨h1,by rw[b,c,d],by omega⟩,⟨f,by rw[g,h,i],by omega⟩,?_⟩,l⟩
     have hmn:min ((hd t).2.s.toNat+(t.size-(hd t).2.s.toNat)) t.size=t.size:=by omega
     rw[k,hz,e,ByteArray.extract_extract,hmn]
   ·rintro⟨⟨⟨h1,h2,h3⟩,⟨f,h4,h6⟩,h7⟩,h5⟩
    injection h2 with b h2
    injection h2 with c d
    injection h4 with g h4
    injection h4 with h i
    have ho:=hd_ok h1
    have hz:(t.extract (hd t).2.s.toNat t.size).size=t.size-(hd t).2.s.toNat:=by simp
    have hmn:min ((hd t).2.s.toNat+(t.size-(hd t).2.s.toNat)) t.size=t.size:=by omega
    refine⟨by omega,h1,by omega,.inr (.inr ⟨by omega,by omega,b,c,d,t.extract (hd t).2.s.toNat t.size,by rw[Nat.zero_add],f,g,h,i,?_,?_,h5⟩)⟩
    ·omega
    ·rw[h7,hz,ByteArray.extract_extract,Nat.zero_add,hmn]
theorem isElement_any(n:Nd)(ka:Option Addr)(kc:Nat)(t:ByteArray)(w:World)(sn:Sn→Addr)(hl:Lay w sn)(hT:Tagged n)(hk1:1≤n.kind)(hm:t.size≤140737488355328):
 Calls Tryz.prog 95 #[.agg #[.int .i64 n.kind,.int .i64 n.tag,.int .i64 n.mode,.slice ka n.kids.length kc],.string t] w fun e w'=>RetO (n.kind≤9∧∃u,ElemOk n t u) w e w':=by
 by_cases h9:9<n.kind
 ·have HX:Hid (¬(n.kind≤9∧∃u,ElemOk n t u)):=fun q=>by have:=q.1;omega
  clear hl hT
  go_enter Tryz.func95,Tryz.ntmps95
  go_wp2
  go_ret
  exact reto_no HX.out ((Below.refl _ _).alloc (Nat.le_refl _) _)
 ·have h9':n.kind≤9:=by omega
  have hT':=hT
  unfold Tagged at hT'
  have HE:Hid (∀u,ElemOk n t u↔(strip n.lays t=some u∧ContentOk n.kind u)):=fun u=>elem_iff (by omega) (by omega)
  have HW:Hid (∀wq,Below w.heap.size w wq→Calls Tryz.prog 137 #[.agg #[.int .i64 n.kind,.int .i64 n.tag,.int .i64 n.mode,.slice ka n.kids.length kc],.string t] wq fun e w'=>RetI n t wq e w'):=fun wq q=>within_any n ka kc t wq sn (hl.below q).s (hl.below q).n (by omega) (by omega) h9' (by omega) hm
  have HF:Hid (∀u wq,u.size≤t.size→Below w.heap.size w wq→Calls Tryz.prog 138 #[.int .i64 n.kind,.string u] wq fun e w'=>RetW (ContentOk n.kind u) wq e w'):=fun u wq hu q=>fits_any n.kind u wq (by omega) (hl.below q).d (valids u wq (by omega) (hl.below q).t)
  clear hl hT hT' h9
  go_enter Tryz.func95,Tryz.ntmps95
  go_wp2_with fail
  refine(HW.out _ ((Below.refl _ _).alloc (Nat.le_refl _) _)).mono ?_
  rintro e w1 ⟨u,r,rfl,hr,hb1,hu⟩
  have HB1:Hid (Below w.heap.size w w1):=below_alloc hb1
  have HG:=block_below (heap_alloc_new w (.cells #[.int .i64 n.kind,.int .i64 n.tag,.int .i64 n.mode,.slice ka n.kids.length kc] 58)) hb1
  have q0:w1.cell? ⟨w.heap.size,0,none⟩=some (.int .i64 n.kind):=by simp[World.cell?,HG]
  have hs1:=lt_of_block HG
  clear HG hb1
  cases r
  ·have HX:Hid (¬(n.kind≤9∧∃u,ElemOk n t u)):=by
    rcases hr with⟨e,_⟩|⟨_,e⟩
    ·cases e
    ·rintro⟨_,u,q⟩
     rw[HE.out,e]at q
     cases q.1
   clear hr
   go_wp2
   go_ret
   exact reto_no HX.out HB1.out
  ·have HX:Hid (strip n.lays t=some u):=by
    rcases hr with⟨_,e⟩|⟨e,_⟩
    ·exact e
    ·cases e
   clear hr
   go_wp2_with fail
   refine(HF.out u _ hu HB1.out).mono ?_
   rintro e w2 ⟨r,rfl,hr,hb2⟩
   have HR:Hid (r=true↔(n.kind≤9∧∃u,ElemOk n t u)):=by
    refine hr.trans ⟨fun q=>⟨h9',u,(HE.out u).2 ⟨HX.out,q⟩⟩,?_⟩
    rintro⟨_,v,q⟩
    rw[HE.out,HX.out]at q
    obtain⟨q1,q2⟩:=q
    injection q1 with q1
    rw[q1];exact q2
   have HB2:Hid (Below w.heap.size w w2):=HB1.out.trans (hb2.mono HB1.out.size)
   clear hr hb2
   go_wp2
   go_ret
   exact reto_iff HR.out HB2.out
theorem defaultsFit_any(s:List Nd)(a:Option Addr)(c:Nat)(n:Nd)(ka:Option Addr)(kc:Nat)(w:World)(sn:Sn→Addr)(hl:Lay w sn)(hs:Sch w a s)(hka:KidsIn w ka n.kids)(hk8:n.kids.length≤8)(hw:∀j,j<n.kids.length→∃t:Nat,(kd n j).node=t∧t<s.length)
 (hT:∀i,i<s.length→Tagged (nd s i))(hkd:Kinds s)(hn:s.length≤40)(hd:∀j,j<n.kids.length→(kd n j).dflt.size≤140737488351232):
 Calls Tryz.prog 62 #[.slice a s.length c,.agg #[.int .i64 n.kind,.int .i64 n.tag,.int .i64 n.mode,.slice ka n.kids.length kc]] w fun e w'=>RetO (DfltOk s n n.kids.length) w e w':=by
 have HKI:Hid (KidsIn w ka n.kids):=hka
 have HKR:Hid (∀j,j<n.kids.length→∃t:Nat,(kd n j).node=t∧t<s.length):=hw
 have HS:Hid (Sch w a s):=hs
 have HD:Hid (∀j,j<n.kids.length→(kd n j).dflt.size≤140737488351232):=hd
 have HIE:Hid (∀(i:Nat) (ka:Option Addr) (kc:Nat) (t:ByteArray) (wq:World),i<s.length→t.size≤140737488351232→Below w.heap.size w wq→Calls Tryz.prog 95 #[.agg #[.int .i64 (nd s i).kind,.int .i64 (nd s i).tag,.int .i64 (nd s i).mode,.slice ka (nd s i).kids.length kc],.string t] wq fun e w'=>RetO ((nd s i).kind≤9∧∃u,ElemOk (nd s i) t u) wq e w'):=
  fun i ka kc t wq hi ht q=>isElement_any (nd s i) ka kc t wq sn (hl.below q) (hT i hi) (hkd i hi).1 (by omega)
 clear hka hw hs hd hl hT hkd
 go_enter Tryz.func62,Tryz.ntmps62
 go_wp2
 have HB0:Hid (Below w.heap.size w (w.alloc (.cells #[.int .i64 n.kind,.int .i64 n.tag,.int .i64 n.mode,.slice ka n.kids.length kc] 58))):=(Below.refl _ _).alloc (Nat.le_refl _) _
 go_loopw [10] (fun vi wr=>∃i:Nat,i≤n.kids.length∧vi= .int .i64 i∧DfltOk s n i∧Below w.heap.size w wr) (fun vi _=>n.kids.length-(intOf vi).toNat)
 case atStart=>exact⟨0,Nat.zero_le _,rfl,fun _ h=>absurd h (Nat.not_lt_zero _),HB0.out⟩
 case round=>
  obtain⟨i,hi,rfl,hall,hbr⟩:=hrel
  have HA:Hid (DfltOk s n i):=hall
  have HB:Hid (Below w.heap.size w wr):=hbr
  clear hall hbr
  by_cases hlt:i<n.kids.length
  ·have hlt':(i:Int)<n.kids.length:=by omega
   obtain⟨kb,ko,rfl,kcl⟩:=HKI.out i hlt
   obtain⟨ty,yo,yd,hy,hty⟩:=kid_at HKR.out hlt
   have HY:Hid (kd n i=⟨ty,yo,yd⟩):=hy
   have hkcl:KidCells w kb (ko+i*3) ⟨ty,yo,yd⟩:=by rw[←hy];exact kcl
   have hds:yd.size≤140737488351232:=by have:=HD.out i hlt;rw[hy]at this;exact this
   obtain⟨k1,k2,k3⟩:=hkcl.below HB.out
   simp only at k1 k2 k3
   have HB2:Hid (Below w.heap.size w (wr.alloc (.cells #[.int .i64 ty,.bool yo,.string yd] 55))):=HB.out.alloc HB.out.size _
   obtain⟨b,o,ka2,kc2,rfl,nc,_⟩:=HS.out ty hty
   have X0:∀x:Ext (wr.alloc (.cells #[.int .i64 ty,.bool yo,.string yd] 55)),x.v.cell? ⟨wr.heap.size,0,none⟩=some (.int .i64 ty):=fun x=>x.new rfl
   have X2:∀x:Ext (wr.alloc (.cells #[.int .i64 ty,.bool yo,.string yd] 55)),x.v.cell? ⟨wr.heap.size,2,none⟩=some (.string yd):=fun x=>x.new rfl
   have X3:∀x:Ext (wr.alloc (.cells #[.int .i64 ty,.bool yo,.string yd] 55)),x.v.cell? ⟨b,o+ty*4,none⟩=some (.int .i64 (nd s ty).kind):=fun x=>Ext.far HB2.out x nc.kind
   have X4:∀x:Ext (wr.alloc (.cells #[.int .i64 ty,.bool yo,.string yd] 55)),x.v.cell? ⟨b,o+ty*4+1,none⟩=some (.int .i64 (nd s ty).tag):=fun x=>Ext.far HB2.out x nc.tag
   have X5:∀x:Ext (wr.alloc (.cells #[.int .i64 ty,.bool yo,.string yd] 55)),x.v.cell? ⟨b,o+ty*4+2,none⟩=some (.int .i64 (nd s ty).mode):=fun x=>Ext.far HB2.out x nc.mode
   have X6:∀x:Ext (wr.alloc (.cells #[.int .i64 ty,.bool yo,.string yd] 55)),x.v.cell? ⟨b,o+ty*4+3,none⟩=some (.slice ka2 (nd s ty).kids.length kc2):=fun x=>Ext.far HB2.out x nc.kids
   obtain⟨r,hr⟩:=bool_of ((nd s ty).kind≤9∧∃u,ElemOk (nd s ty) yd u)
   have HR:Hid (r=true↔((nd s ty).kind≤9∧∃u,ElemOk (nd s ty) yd u)):=hr
   have HM:Hid (∀x:Ext (wr.alloc (.cells #[.int .i64 ty,.bool yo,.string yd] 55)),Calls Tryz.prog 95 #[.agg #[.int .i64 (nd s ty).kind,.int .i64 (nd s ty).tag,.int .i64 (nd s ty).mode,.slice ka2 (nd s ty).kids.length kc2],.string yd] x.v fun e w''=>e= .returned (.bool r)∧∃y:Ext (wr.alloc (.cells #[.int .i64 ty,.bool yo,.string yd] 55)),w''=y.v):=fun x=>Ext.callsR hr (HIE.out ty ka2 kc2 yd x.v hty hds (Ext.bel HB2.out x))
   have hty':(ty:Int)<s.length:=by omega
   have STEP:Hid (yd.size=0∨((nd s ty).kind≤9∧∃u,ElemOk (nd s ty) yd u)→DfltOk s n (i+1)):=fun h j hj=>by
    by_cases e:j=i
    ·subst e;rw[HY.out];simpa using h
    ·exact HA.out j (by omega)
   have BADD:Hid (0<yd.size→¬((nd s ty).kind≤9∧∃u,ElemOk (nd s ty) yd u)→¬DfltOk s n n.kids.length):=fun h1 h2 q=>by
    have:=q i hlt
    rw[HY.out]at this
    simp only[Int.toNat_natCast]at this
    rcases this with h|h
    ·omega
    ·exact h2 h
   clear hy kcl hkcl nc hr
   by_cases hz:yd.size=0
   ·have e0:=emp_t hz
    have HZ:Hid (yd.size=0):=hz
    clear hz
    go_wp2_with fail
    (have ne:=ext_ne;refine wp_region_ext (by kernel_rfl) (by kernel_rfl) ?_;(repeat(first|go_big_quiet_skip|(go_big_quiet_want;go_big_quiet_op;first|go_big_quiet_on|(apply Exists.intro;refine⟨fun x=>?_,?_⟩;(·(exact HM.out x));go_big_quiet_on))));refine nil_ext ?_)
    intro w5 hb5
    have HB5:Hid (Below w.heap.size w w5):=HB2.out.trans (hb5.mono HB2.out.size)
    clear X0 X2 X3 X4 X5 X6 hb5 HM
    go_wp2
    go_roundw
    case rel=>exact⟨i+1,by omega,by go_num,STEP.out (.inl HZ.out),HB5.out⟩
    case measure=>simp[intOf];omega
   ·have e0:=emp_f (t:=yd) (by omega)
    have HZ:Hid (0<yd.size):=by show 0<yd.size;omega
    clear hz
    go_wp2_with fail
    (have ne:=ext_ne;refine wp_region_ext (by kernel_rfl) (by kernel_rfl) ?_;(repeat(first|go_big_quiet_skip|(go_big_quiet_want;go_big_quiet_op;first|go_big_quiet_on|(apply Exists.intro;refine⟨fun x=>?_,?_⟩;(·(exact HM.out x));go_big_quiet_on))));refine nil_ext ?_)
    intro w5 hb5
    have HB5:Hid (Below w.heap.size w w5):=HB2.out.trans (hb5.mono HB2.out.size)
    clear X0 X2 X3 X4 X5 X6 hb5 HM
    cases r
    ·go_wp2
     go_ret
     exact reto_no (BADD.out HZ.out (fun q=>Bool.noConfusion (HR.out.2 q))) HB5.out
    ·go_wp2
     go_roundw
     case rel=>exact⟨i+1,by omega,by go_num,STEP.out (.inr (HR.out.1 rfl)),HB5.out⟩
     case measure=>simp[intOf];omega
  ·have hlt':(n.kids.length:Int)≤i:=by omega
   have HI:Hid (i=n.kids.length):=by show i=_;omega
   go_wp2
   go_ret
   exact reto_yes (HI.out▸HA.out) HB.out
def RetK(s:List Nd)(za:Addr)(w:World)(e:Ending)(w':World):Prop:=Below w.heap.size w w'∧((e= .returned .nilIface∧RightP s)∨((∃p:Int,e= .returned (fault p za))∧¬RightP s))
theorem kidsOf{s:List Nd}(h:∀i,i<s.length→Alone s.length (nd s i)){i:Nat}(hi:i<s.length):∀j,j<(nd s i).kids.length→∃t:Nat,(kd (nd s i) j).node=t∧t<s.length:=fun j hj=>by
 have q:=(h i hi).2.2.2 j hj
 have q1:=q.1
 have q2:=q.2.1
 exact⟨(kd (nd s i) j).node.toNat,by omega,by omega⟩
theorem taggedOf{s:List Nd}(h:∀i,i<s.length→Alone s.length (nd s i)):∀i,i<s.length→Tagged (nd s i):=fun i hi=>((tagged_iff _).1 ⟨(h i hi).1,(h i hi).2.1⟩).2.2
theorem dfltOf{s:List Nd}(h:SchOk s){i:Nat}(hi:i<s.length):∀j,j<(nd s i).kids.length→(kd (nd s i) j).dflt.size≤140737488351232:=fun j hj=>by
 refine h i hi _ ?_
 unfold kd
 rw[List.getD_eq_getElem?_getD,List.getElem?_eq_getElem hj]
 exact List.getElem_mem hj
theorem plain_iff{s:List Nd}(h:∀i,i<s.length→Alone s.length (nd s i))(hb:∀i,i<s.length→¬Back s i){i:Nat}(hi:i<s.length):
 PlainAt s (nd s i)↔((nd s i).kind=10∨(nd s i).kind=13→Told (Common s) (nd s i)):=by
 have hw:=within_of h
 have hlf:∀i,i<s.length→∃j,Leaf s i j:=fun i hi=>leaf_ex hw (fun i hi ho e=>by
  have h1:=(h i hi).2.2.1
  have h2:=ho.1
  unfold Count at h1
  rw[if_neg (by omega),if_neg (by omega),if_pos h2,e]at h1
  have:=h1.1
  simp at this) hb hi
 have ht:∀j,j<s.length→(nd s j).tag≤30:=fun j hj=>(taggedOf h j hj).2.1
 unfold PlainAt
 refine forall_congr' fun _=>(told_congr (m:=s.length) (fun j hj=>?_) fun i k h1 h2=>(common_iff ht hw h1 h2 (hlf i h1) (hlf k h2)).symm)
 obtain⟨t,e,q⟩:=kidsOf h hi j hj
 rw[e];simpa using q
theorem check_any(s:List Nd)(a:Option Addr)(c:Nat)(w:World)(sn:Sn→Addr)(za:Addr)(hl:Lay w sn)(hz:LayZ w sn za)(hs:Sch w a s)(hok:SchOk s)(hn0:s.length≤140737488351232):
 Calls Tryz.prog 35 #[.slice a s.length c] w fun e w'=>RetK s za w e w':=by
 have HS:Hid (Sch w a s):=hs
 have HOK:Hid (SchOk s):=hok
 have HL:Hid (Lay w sn):=hl
 have HZ:Hid (∀wq,Below w.heap.size w wq→wq.cell? ⟨12,0,none⟩=some (.iface 291 (.pointer (some za)))):=fun wq q=>(hz.below q).c
 have HAT:Hid (∀(p:Int) (wq:World),Calls Tryz.prog 60 #[.int .i64 p,.iface 291 (.pointer (some za))] wq fun e w'=>e= .returned (fault p za)∧w'=wq):=fun p wq=>at_any p za wq
 have NO:Hid (∀(p:Int) (wq:World),¬RightP s→Below w.heap.size w wq→RetK s za w (.returned (fault p za)) wq):=fun p wq h q=>⟨q,.inr ⟨⟨p,rfl⟩,h⟩⟩
 have z0:=HZ.out w (Below.refl _ _)
 clear hs hok hl hz
 by_cases hb:s.length<1
 ·have hb':(s.length:Int)<1:=by omega
  have HX:Hid (¬RightP s):=fun h=>by have:=h.1;omega
  clear hb
  go_enter Tryz.func35,Tryz.ntmps35
  go_wp2_with fail
  refine(HAT.out _ _).mono ?_
  rintro e w1 ⟨rfl,rfl⟩
  unfold fault
  go_wp2
  go_ret
  exact NO.out _ _ HX.out (Below.refl _ _)
 by_cases hb2:40<s.length
 ·have hb':(40:Int)<s.length:=by omega
  have hb1':(1:Int)≤s.length:=by omega
  have HX:Hid (¬RightP s):=fun h=>by have:=h.2.1;omega
  clear hb hb2
  go_enter Tryz.func35,Tryz.ntmps35
  go_wp2_with fail
  refine(HAT.out _ _).mono ?_
  rintro e w1 ⟨rfl,rfl⟩
  unfold fault
  go_wp2
  go_ret
  exact NO.out _ _ HX.out (Below.refl _ _)
 have h1:1≤s.length:=by omega
 have h40:s.length≤40:=by omega
 have h1':(1:Int)≤s.length:=by omega
 have h40':(s.length:Int)≤40:=by omega
 clear hb hb2 hn0 z0
 go_enter Tryz.func35,Tryz.ntmps35
 go_wp2
 go_loopw [22] (fun vi wr=>∃i:Nat,i≤s.length∧vi= .int .i64 i∧(∀j,j<i→Alone s.length (nd s j))∧Below w.heap.size w wr) (fun vi _=>s.length-(intOf vi).toNat)
 case atStart=>exact⟨0,Nat.zero_le _,rfl,fun _ h=>absurd h (Nat.not_lt_zero _),Below.refl _ _⟩
 case round=>
  obtain⟨i,hi,rfl,hall,hbr⟩:=hrel
  have HA:Hid (∀j,j<i→Alone s.length (nd s j)):=hall
  have HB:Hid (Below w.heap.size w wr):=hbr
  clear hall hbr
  by_cases hlt:i<s.length
  ·have hlt':(i:Int)<s.length:=by omega
   obtain⟨b,o,ka,kc,rfl,nc,kl,km,ks⟩:=HS.out i hlt
   obtain⟨n1,n2,n3,n4⟩:=nc.below HB.out
   have HB2:Hid (Below w.heap.size w (wr.alloc (.cells #[.int .i64 (nd s i).kind,.int .i64 (nd s i).tag,.int .i64 (nd s i).mode,.slice ka (nd s i).kids.length kc] 58))):=HB.out.alloc HB.out.size _
   have HC:Hid (∀wq,Below w.heap.size w wq→Calls Tryz.prog 61 #[.agg #[.int .i64 (nd s i).kind,.int .i64 (nd s i).tag,.int .i64 (nd s i).mode,.slice ka (nd s i).kids.length kc],.int .i64 s.length] wq fun e w'=>RetO (Alone s.length (nd s i)) wq e w'):=fun wq q=>isShaped_any s.length (nd s i) ka kc wq (ks.below q) (by omega)
   clear ks nc
   go_wp2_with fail
   refine(HC.out _ HB2.out).mono ?_
   rintro e w1 ⟨r,rfl,hr,hb1⟩
   have HR:Hid (r=true↔Alone s.length (nd s i)):=hr
   have HB1:Hid (Below w.heap.size w w1):=HB2.out.trans (hb1.mono HB2.out.size)
   have z1:=HZ.out w1 HB1.out
   clear hr hb1 n1 n2 n3 n4 HC
   cases r
   ·have HX:Hid (¬RightP s):=fun h=>Bool.noConfusion (HR.out.2 (h.2.2.1 i hlt))
    go_wp2_with fail
    refine(HAT.out _ _).mono ?_
    rintro e w2 ⟨rfl,rfl⟩
    unfold fault
    go_wp2
    go_ret
    exact NO.out _ _ HX.out HB1.out
   ·go_wp2
    go_roundw
    case rel=>exact⟨i+1,by omega,by go_num,fun j hj=>by
     by_cases e:j=i
     ·subst e;exact HR.out.1 trivial
     ·exact HA.out j (by omega),HB1.out⟩
    case measure=>simp[intOf];omega
  ·have hlt':(s.length:Int)≤i:=by omega
   obtain rfl:i=s.length:=by omega
   go_wp2
   go_loopw [38] (fun vi wr=>∃i:Nat,i≤s.length∧vi= .int .i64 i∧(∀j,j<i→DfltOk s (nd s j) (nd s j).kids.length∧¬Back s j)∧Below w.heap.size w wr) (fun vi _=>s.length-(intOf vi).toNat)
   case atStart=>exact⟨0,Nat.zero_le _,rfl,fun _ h=>absurd h (Nat.not_lt_zero _),HB.out⟩
   case round=>
    obtain⟨i,hi,rfl,hall,hbr⟩:=hrel
    have HBK:Hid (∀j,j<i→DfltOk s (nd s j) (nd s j).kids.length∧¬Back s j):=hall
    have HB2:Hid (Below w.heap.size w wr):=hbr
    clear hall hbr
    by_cases hlt:i<s.length
    ·have hlt':(i:Int)<s.length:=by omega
     obtain⟨b,o,ka,kc,rfl,nc,kl,km,ks⟩:=HS.out i hlt
     obtain⟨n1,n2,n3,n4⟩:=nc.below HB2.out
     have HB3:Hid (Below w.heap.size w (wr.alloc (.cells #[.int .i64 (nd s i).kind,.int .i64 (nd s i).tag,.int .i64 (nd s i).mode,.slice ka (nd s i).kids.length kc] 58))):=HB2.out.alloc HB2.out.size _
     have HD:Hid (∀wq,Below w.heap.size w wq→Calls Tryz.prog 62 #[.slice (some ⟨b,o,none⟩) s.length c,.agg #[.int .i64 (nd s i).kind,.int .i64 (nd s i).tag,.int .i64 (nd s i).mode,.slice ka (nd s i).kids.length kc]] wq fun e w'=>RetO (DfltOk s (nd s i) (nd s i).kids.length) wq e w'):=fun wq q=>defaultsFit_any s _ c (nd s i) ka kc wq sn (HL.out.below q) (HS.out.below q) (ks.below q) (count8 HA.out hlt) (kidsOf HA.out hlt) (taggedOf HA.out) (kinds_of HA.out) h40 (dfltOf HOK.out hlt)
     have HC:Hid (∀wq,Below w.heap.size w wq→Calls Tryz.prog 63 #[.slice (some ⟨b,o,none⟩) s.length c,.int .i64 i] wq fun e w'=>RetO (Back s i) wq e w'):=fun wq q=>comesBack_any s _ c i wq (HS.out.below q) (within_of HA.out) (fun j hj=>(taggedOf HA.out j hj).1) hlt h40
     clear ks nc
     go_wp2_with fail
     refine(HD.out _ HB3.out).mono ?_
     rintro e w1 ⟨r,rfl,hr,hb1⟩
     have HR:Hid (r=true↔DfltOk s (nd s i) (nd s i).kids.length):=hr
     have HB1:Hid (Below w.heap.size w w1):=HB3.out.trans (hb1.mono HB3.out.size)
     have z1:=HZ.out w1 HB1.out
     clear hr hb1 n1 n2 n3 n4 HD
     cases r
     ·have HX:Hid (¬RightP s):=fun h=>Bool.noConfusion (HR.out.2 (h.2.2.2.2 i hlt).2)
      go_wp2_with fail
      refine(HAT.out _ _).mono ?_
      rintro e w2 ⟨rfl,rfl⟩
      unfold fault
      go_wp2
      go_ret
      exact NO.out _ _ HX.out HB1.out
     ·have HDF:Hid (DfltOk s (nd s i) (nd s i).kids.length):=HR.out.1 rfl
      go_wp2_with fail
      refine(HC.out _ HB1.out).mono ?_
      rintro e w2 ⟨r,rfl,hr,hb2⟩
      have HR2:Hid (r=true↔Back s i):=hr
      have HB4:Hid (Below w.heap.size w w2):=HB1.out.trans (hb2.mono HB1.out.size)
      have z2:=HZ.out w2 HB4.out
      clear hr hb2 HC
      cases r
      ·go_wp2
       go_roundw
       case rel=>exact⟨i+1,by omega,by go_num,fun j hj=>by
        by_cases e:j=i
        ·subst e;exact⟨HDF.out,fun q=>Bool.noConfusion (HR2.out.2 q)⟩
        ·exact HBK.out j (by omega),HB4.out⟩
       case measure=>simp[intOf];omega
      ·have HX:Hid (¬RightP s):=fun h=>h.2.2.2.1 i hlt (HR2.out.1 rfl)
       go_wp2_with fail
       refine(HAT.out _ _).mono ?_
       rintro e w3 ⟨rfl,rfl⟩
       unfold fault
       go_wp2
       go_ret
       exact NO.out _ _ HX.out HB4.out
    ·have hlt':(s.length:Int)≤i:=by omega
     obtain rfl:i=s.length:=by omega
     have HC:Hid (Calls Tryz.prog 64 #[.slice a s.length c] wr fun e w'=>e= .returned (.slice (some ⟨wr.heap.size,0,none⟩) s.length s.length)∧AbW s wr w' s.length):=allBeginnings_any s a c wr (HS.out.below HB2.out) (within_of HA.out) (fun j hj=>(taggedOf HA.out j hj).1) (kinds_of HA.out) (HL.out.below HB2.out).n h40
     go_wp2_with fail
     refine HC.out.mono ?_
     rintro e w1 ⟨rfl,hab⟩
     obtain⟨gb,hgb⟩:∃gb,gb=wr.heap.size:=⟨_,rfl⟩
     have HAB:Hid (AbR w1 gb s):=by rw[hgb];exact hab.read
     have HB3:Hid (Below w.heap.size w w1):=HB2.out.trans (hab.bel.mono HB2.out.size)
     rw[←hgb]
     clear hab hgb HC
     go_wp2
     go_loopw [60] (fun vi wr=>∃i:Nat,i≤s.length∧vi= .int .i64 i∧(∀j,j<i→PlainAt s (nd s j))∧Below w1.heap.size w1 wr) (fun vi _=>s.length-(intOf vi).toNat)
     case atStart=>exact⟨0,Nat.zero_le _,rfl,fun _ h=>absurd h (Nat.not_lt_zero _),Below.refl _ _⟩
     case round=>
      obtain⟨i,hi,rfl,hall,hbr⟩:=hrel
      have HPL:Hid (∀j,j<i→PlainAt s (nd s j)):=hall
      have HB4:Hid (Below w1.heap.size w1 wr):=hbr
      have HB5:Hid (Below w.heap.size w wr):=HB3.out.trans (hbr.mono HB3.out.size)
      clear hall hbr
      by_cases hlt:i<s.length
      ·have hlt':(i:Int)<s.length:=by omega
       obtain⟨b,o,ka,kc,rfl,nc,kl,km,ks⟩:=HS.out i hlt
       obtain⟨n1,n2,n3,n4⟩:=nc.below HB5.out
       have HB6:Hid (Below w1.heap.size w1 (wr.alloc (.cells #[.int .i64 (nd s i).kind,.int .i64 (nd s i).tag,.int .i64 (nd s i).mode,.slice ka (nd s i).kids.length kc] 58))):=HB4.out.alloc HB4.out.size _
       have HP:Hid (∀wq,Below w1.heap.size w1 wq→Calls Tryz.prog 65 #[.agg #[.int .i64 (nd s i).kind,.int .i64 (nd s i).tag,.int .i64 (nd s i).mode,.slice ka (nd s i).kids.length kc],.slice (some ⟨gb,0,none⟩) s.length s.length] wq fun e w'=>RetO (PlainAt s (nd s i)) wq e w'):=fun wq q=>isPlain_any s (nd s i) ka kc gb wq (ks.below (HB3.out.trans (q.mono HB3.out.size))) kl (count8 HA.out hlt) (kidsOf HA.out hlt) (HAB.out.below q) h40
       clear ks nc
       go_wp2_with fail
       refine(HP.out _ HB6.out).mono ?_
       rintro e w2 ⟨r,rfl,hr,hb2⟩
       have HR:Hid (r=true↔PlainAt s (nd s i)):=hr
       have HB7:Hid (Below w1.heap.size w1 w2):=HB6.out.trans (hb2.mono HB6.out.size)
       have HB8:Hid (Below w.heap.size w w2):=HB3.out.trans (HB7.out.mono HB3.out.size)
       have z2:=HZ.out w2 HB8.out
       clear hr hb2 n1 n2 n3 n4 HP
       cases r
       ·have HX:Hid (¬RightP s):=fun h=>Bool.noConfusion (HR.out.2 ((plain_iff HA.out (fun j hj=>(HBK.out j hj).2) hlt).2 (h.2.2.2.2 i hlt).1))
        go_wp2_with fail
        refine(HAT.out _ _).mono ?_
        rintro e w3 ⟨rfl,rfl⟩
        unfold fault
        go_wp2
        go_ret
        exact NO.out _ _ HX.out HB8.out
       ·go_wp2
        go_roundw
        case rel=>exact⟨i+1,by omega,by go_num,fun j hj=>by
         by_cases e:j=i
         ·subst e;exact HR.out.1 trivial
         ·exact HPL.out j (by omega),HB7.out⟩
        case measure=>simp[intOf];omega
      ·have hlt':(s.length:Int)≤i:=by omega
       obtain rfl:i=s.length:=by omega
       go_wp2
       go_ret
       exact⟨HB5.out,.inl ⟨rfl,h1,h40,HA.out,fun j hj=>(HBK.out j hj).2,fun j hj=>⟨(plain_iff HA.out (fun j hj=>(HBK.out j hj).2) hj).1 (HPL.out j hj),(HBK.out j hj).1⟩⟩⟩
theorem RightP.fine{s:List Nd}(h:RightP s):Fine s where
 within:=within_of h.2.2.1
 back:=h.2.2.2.1
 len:=h.2.1
 tagged:=fun i hi hk ht hm=>by have:=(h.2.2.1 i hi).2.1;unfold Bad2 at this;omega
 one:=fun i hi hk=>by
  have:=(h.2.2.1 i hi).2.2.1
  unfold Count at this
  rw[if_neg (by omega),if_pos hk]at this
  exact this
 eight:=fun i hi=>by
  have:=(h.2.2.1 i hi).2.2.1
  unfold Count at this
  repeat' split at this
  all_goals omega
theorem cell_of_row{w:World}{k:Nat}{A:Array Value}{T:TypeId}(h:w.heap[k]? =some (.cells A T (0,0))){i:Nat}{u:Value}(hi:A[i]? =some u):w.cell? ⟨k,i,none⟩=some u:=by
 simp[World.cell?,h,hi]
theorem drop_kid{n:Nd}{j:Nat}(h:j<n.kids.length):n.kids.drop j=kd n j::n.kids.drop (j+1):=by
 rw[List.drop_eq_getElem_cons h]
 congr 1
 unfold kd
 rw[List.getD_eq_getElem?_getD,List.getElem?_eq_getElem h];rfl
theorem hide{p:Prop}(h:p):Hid p:=h
theorem elem_one{N:Nd}{t u u':ByteArray}(h:ElemOk N t u)(h':ElemOk N t u'):u=u':=by
 unfold ElemOk NodeAt at h h'
 obtain⟨_,_,_,h⟩:=h
 obtain⟨_,_,_,h'⟩:=h'
 rcases h with⟨a1,_,_,_,a2,_⟩|⟨a1,b1,_,_,_,a2,_⟩|⟨a1,b1,_,_,_,t1,e1,_,_,_,_,_,a2,_⟩ <;>rcases h' with⟨c1,_,_,_,c2,_⟩|⟨c1,d1,_,_,_,c2,_⟩|⟨c1,d1,_,_,_,t2,e2,_,_,_,_,_,c2,_⟩
 all_goals first|(rw[a2,c2];done)|(exfalso;omega)|(subst e1 e2;rw[a2,c2])
theorem own0_all(k:Int)(h:0≤k)(w:World):
 Calls Tryz.prog 103 #[.int .i64 k] w fun e w'=>e= .returned (.int .i64 (own0 k))∧Below w.heap.size w w':=by
 by_cases h12:12<k
 ·have HE:Hid (own0 k=0):=by show own0 k=0;unfold own0;rw[if_pos h12]
  go_enter Tryz.func103,Tryz.ntmps103
  go_wp2
  go_ret
  exact⟨by rw[HE.out];rfl,Below.refl _ _⟩
 ·have e:own0 k=own k:=by unfold own0;rw[if_neg h12]
  rw[e]
  exact own0_any k h (by omega) w
theorem frozen_row{w:World}{k:Nat}{A:Array Value}{T:TypeId}(h:w.heap[k]? =some (.cells A T (0,0))){i:Nat}:w.frozen? ⟨k,i,none⟩=false:=by simp[World.frozen?,h]
def snOf(k:Int):Sn:=if k=3 then .End else if k=4 then .Tag else if k=5 then .Length else if k=6 then .Value else if k=7 then .More else if k=8 then .Order else if k=9 then .Default else .Deep
theorem hd_c345(t:ByteArray):(hd t).1=0∨(hd t).1=3∨(hd t).1=4∨(hd t).1=5:=by
 unfold hd
 repeat' split
 all_goals simp
 unfold rl
 repeat' split
 all_goals simp
theorem errAt_of{t:ByteArray}(x:Int)(sn:Sn→Addr)(h:(hd t).1≠0):errAt x sn (hd t).1=fault x (sn (snOf (hd t).1)):=by
 rcases hd_c345 t with e|e|e|e
 ·exact absurd e h
 ·rw[e];rfl
 ·rw[e];rfl
 ·rw[e];rfl
theorem tagged_of{s:List Nd}(h:RightP s){i:Nat}(hi:i<s.length):1≤(nd s i).kind∧(nd s i).kind≤14∧Tagged (nd s i):=(tagged_iff _).1 ⟨(h.2.2.1 i hi).1,(h.2.2.1 i hi).2.1⟩
theorem default_any(s:List Nd)(a:Option Addr)(c t:Nat)(ko:Bool)(yd u:ByteArray)(w:World)(sn:Sn→Addr)(hl:Lay w sn)(hs:Sch w a s)(hr:RightP s)(ht:t<s.length)(hk9:(nd s t).kind≤9)(hu:ElemOk (nd s t) yd u)(hz:yd.size≤140737488355328):
 Calls Tryz.prog 202 #[.slice a s.length c,.agg #[.int .i64 t,.bool ko,.string yd]] w fun e w'=>e= .returned (.agg #[.int .i64 (nd s t).kind,.string u,.int .i64 0,.int .i64 0])∧Below w.heap.size w w':=by
 obtain⟨hk1,_,hT1,hT2,hT3,hT4,hT5⟩:=tagged_of hr ht
 obtain⟨b,o,ka,kc,rfl,ncl,_⟩:=hs t ht
 obtain⟨N,hN⟩:∃N,nd s t=N:=⟨_,rfl⟩
 rw[hN]at ncl hk1 hk9 hT3 hT4 hT5 hu hT1 hT2 ⊢
 have hmode:N.mode=0∨N.mode=1:=by omega
 have htm:N.tag<0→N.mode=0:=fun q=>hT3 (by omega)
 have hst:strip N.lays yd=some u:=((elem_iff htm hmode).1 hu).1
 have HW:Hid (∀wq,Below w.heap.size w wq→Calls Tryz.prog 137 #[.agg #[.int .i64 N.kind,.int .i64 N.tag,.int .i64 N.mode,.slice ka N.kids.length kc],.string yd] wq fun e w'=>∃r,e= .returned (.tuple #[.string u,.bool r])∧Below wq.heap.size wq w'):=fun wq q=>
  (within_any N ka kc yd wq sn (hl.below q).s (hl.below q).n (by omega) (by omega) hk9 (by omega) hz).mono fun e w' ⟨u',r,he,hc,hb,_⟩=>by
    rcases hc with⟨_,hc⟩|⟨_,hc⟩
    ·rw[hst]at hc;injection hc with hc;subst hc;exact⟨r,he,hb⟩
    ·rw[hst]at hc;cases hc
 obtain⟨n0,n1,n2,n3⟩:=ncl
 have hbl:b<w.heap.size:=lt_of_cell n0
 have ht':(t:Int)<s.length:=by omega
 have HA:Hid (∀A B C,Below w.heap.size w (((w.alloc A).alloc B).alloc C)):=fun A B C=>(((Below.refl w.heap.size w).alloc (Nat.le_refl _) A).alloc (by simp) B).alloc (by simp;omega) C
 clear hl hs hr hu hst hN hT1 hT2 hT3 hT4 hT5 htm hmode hk1 hk9 hz ht
 go_enter Tryz.func202,Tryz.ntmps202
 go_wp2_with fail
 refine(HW.out _ (HA.out _ _ _)).mono ?_
 rintro e w1 ⟨r,rfl,hb1⟩
 have HB1:Hid (Below w.heap.size w w1):=(HA.out _ _ _).trans (hb1.mono (HA.out _ _ _).size)
 have hZ:w1.heap[w.heap.size+1]? =some (.cells #[.int .i64 0,.string ⟨#[]⟩,.int .i64 0,.int .i64 0] 60 (0,0)):=block_below (block_below (by simpa using heap_alloc_new (w.alloc _) _) ((Below.refl _ _).alloc (Nat.le_refl _) _)) hb1
 have hK:w1.heap[w.heap.size+1+1]? =some (.cells #[.int .i64 N.kind,.int .i64 N.tag,.int .i64 N.mode,.slice ka N.kids.length kc] 58 (0,0)):=block_below (by simpa using heap_alloc_new ((w.alloc _).alloc _) _) hb1
 have z0:w1.cell? ⟨w.heap.size+1,0,none⟩=some (.int .i64 0):=cell_of_row hZ rfl
 have z1:w1.cell? ⟨w.heap.size+1,1,none⟩=some (.string ⟨#[]⟩):=cell_of_row hZ rfl
 have z2:w1.cell? ⟨w.heap.size+1,2,none⟩=some (.int .i64 0):=cell_of_row hZ rfl
 have z3:w1.cell? ⟨w.heap.size+1,3,none⟩=some (.int .i64 0):=cell_of_row hZ rfl
 have f0:w1.frozen? ⟨w.heap.size+1,0,none⟩=false:=frozen_row hZ
 have f1:w1.frozen? ⟨w.heap.size+1,1,none⟩=false:=frozen_row hZ
 have f2:w1.frozen? ⟨w.heap.size+1,2,none⟩=false:=frozen_row hZ
 have f3:w1.frozen? ⟨w.heap.size+1,3,none⟩=false:=frozen_row hZ
 have k0:w1.cell? ⟨w.heap.size+1+1,0,none⟩=some (.int .i64 N.kind):=cell_of_row hK rfl
 have hl1:w.heap.size+1+1<w1.heap.size:=lt_of_cell k0
 clear hb1 hZ hK n0 n1 n2 n3 hbl
 go_wp2_with fail
 refine bodyPost_ret (v:= .agg #[.int .i64 N.kind,.string u,.int .i64 0,.int .i64 0]) (by simp[results,Tryz.results202,go_sem,z0,z1,z2,z3]) rfl ⟨rfl,?_⟩
 exact(((HB1.out.setCell (p:=⟨w.heap.size+1,0,none⟩) (Nat.le_succ _) _).setCell (p:=⟨w.heap.size+1,1,none⟩) (Nat.le_succ _) _).setCell (p:=⟨w.heap.size+1,2,none⟩) (Nat.le_succ _) _).setCell (p:=⟨w.heap.size+1,3,none⟩) (Nat.le_succ _) _
theorem own_built(n:Nd)(ka:Option Addr)(kc:Nat)(w:World)(hn:Nums w)(ht: -1≤n.tag)(hk:10≤n.kind)(hk':n.kind≤12):
 Calls Tryz.prog 152 #[.agg #[.int .i64 n.kind,.int .i64 n.tag,.int .i64 n.mode,.slice ka n.kids.length kc]] w fun e w'=>e= .returned (fv n.ownT.1 n.ownT.2 true)∧Below w.heap.size w w':=by
 have HC:Hid (∀w',Nums w'→Calls Tryz.prog 140 #[.agg #[.int .i64 n.kind,.int .i64 n.tag,.int .i64 n.mode,.slice ka n.kids.length kc]] w' fun e w''=>e= .returned (.agg #[.int .i64 n.outer.1,.int .i64 n.outer.2])∧Below w'.heap.size w' w''):=fun w' q=>outerTag_any n ka kc w' q ht (by omega) (fun h=>by omega)
 have HW:Hid (∀w',Nums w'→Calls Tryz.prog 179 #[.int .i64 n.kind] w' fun e w''=>e= .returned (.agg #[.int .i64 0,.int .i64 (own n.kind)])∧Below w'.heap.size w' w''):=fun w' q=>ownTag_any n.kind (by omega) (by omega) w' q
 have HN:Hid (∀wq,Below w.heap.size w wq→Nums wq):=fun wq q=>hn.below q
 have hd10:decide (10≤n.kind)=true:=by simp;omega
 obtain⟨T1,T2,hT⟩:∃T1 T2,n.ownT=(T1,T2):=⟨_,_,rfl⟩
 have HT:Hid (n.ownT=(T1,T2)):=hT
 rw[hT]
 unfold fv
 clear hn hT
 go_enter Tryz.func152,Tryz.ntmps152
 go_wp2_with fail
 refine(HW.out _ (HN.out _ (((Below.refl _ _).alloc (Nat.le_refl _) _).alloc (by simp) _))).mono ?_
 rintro e w1 ⟨rfl,hb⟩
 have HB:Hid (Below w.heap.size w w1):=below_alloc (below_alloc hb)
 have HG:Hid (w1.heap[w.heap.size+1]? =some (.cells #[.int .i64 0,.int .i64 0,.bool false] 149 (0,0))):=block_below (by simpa using heap_alloc_new (w.alloc _) _) hb
 have HG0:Hid (w1.heap[w.heap.size]? =some (.cells #[.int .i64 n.kind,.int .i64 n.tag,.int .i64 n.mode,.slice ka n.kids.length kc] 58 (0,0))):=block_below (block_below (heap_alloc_new w _) ((Below.refl _ _).alloc (Nat.le_refl _) _)) hb
 have hs1:w.heap.size+1<w1.heap.size:=by have:=hb.size;simp at this;omega
 have hs0:w.heap.size<w1.heap.size:=by omega
 have p0:w1.cell? ⟨w.heap.size,0,none⟩=some (.int .i64 n.kind):=by simp[World.cell?,HG0.out]
 have p1:w1.cell? ⟨w.heap.size,1,none⟩=some (.int .i64 n.tag):=by simp[World.cell?,HG0.out]
 have p2:w1.cell? ⟨w.heap.size,2,none⟩=some (.int .i64 n.mode):=by simp[World.cell?,HG0.out]
 have p3:w1.cell? ⟨w.heap.size,3,none⟩=some (.slice ka n.kids.length kc):=by simp[World.cell?,HG0.out]
 have q0:w1.cell? ⟨w.heap.size+1,0,none⟩=some (.int .i64 0):=by simp[World.cell?,HG.out]
 have q1:w1.cell? ⟨w.heap.size+1,1,none⟩=some (.int .i64 0):=by simp[World.cell?,HG.out]
 have q2:w1.cell? ⟨w.heap.size+1,2,none⟩=some (.bool false):=by simp[World.cell?,HG.out]
 have f0:w1.frozen? ⟨w.heap.size+1,0,none⟩=false:=by simp[World.frozen?,HG.out]
 have f1:w1.frozen? ⟨w.heap.size+1,1,none⟩=false:=by simp[World.frozen?,HG.out]
 have f2:w1.frozen? ⟨w.heap.size+1,2,none⟩=false:=by simp[World.frozen?,HG.out]
 clear hb
 by_cases hm:n.mode=0
 ·have e0:(n.mode==0)=true:=by simp[hm]
  have HE:Hid (n.ownT=n.outer):=by
   show n.ownT=n.outer
   unfold Nd.ownT Nd.outer
   by_cases q:0≤n.tag
   ·rw[if_pos ⟨hm,q⟩,if_pos q]
   ·rw[if_neg (fun r=>q r.2),if_neg q]
  obtain⟨rfl,rfl⟩:T1=n.outer.1∧T2=n.outer.2:=by rw[←HE.out,HT.out];exact⟨rfl,rfl⟩
  clear hm
  go_wp2_with fail
  refine(HC.out _ (HN.out _ (HB.out.alloc HB.out.size _))).mono ?_
  rintro e w2 ⟨rfl,hb2⟩
  have HB2:Hid (Below w.heap.size w w2):=HB.out.trans ((below_alloc hb2).mono HB.out.size)
  have hA:w2.heap[w1.heap.size]? =some (.cells #[.int .i64 0,.int .i64 (own n.kind)] 147 (0,0)):=block_below (heap_alloc_new w1 _) hb2
  have hG2:=block_below HG.out (below_alloc hb2)
  have hG02:=block_below HG0.out (below_alloc hb2)
  have hs2:w1.heap.size<w2.heap.size:=by have:=hb2.size;simp at this;omega
  have t0:w2.cell? ⟨w1.heap.size,0,none⟩=some (.int .i64 0):=by simp[World.cell?,hA]
  have t1:w2.cell? ⟨w1.heap.size,1,none⟩=some (.int .i64 (own n.kind)):=by simp[World.cell?,hA]
  have t2:w2.frozen? ⟨w1.heap.size,0,none⟩=false:=by simp[World.frozen?,hA]
  have t3:w2.frozen? ⟨w1.heap.size,1,none⟩=false:=by simp[World.frozen?,hA]
  have r0:w2.cell? ⟨w.heap.size+1,0,none⟩=some (.int .i64 0):=by simp[World.cell?,hG2]
  have r1:w2.cell? ⟨w.heap.size+1,1,none⟩=some (.int .i64 0):=by simp[World.cell?,hG2]
  have r2:w2.cell? ⟨w.heap.size+1,2,none⟩=some (.bool false):=by simp[World.cell?,hG2]
  have g0:w2.frozen? ⟨w.heap.size+1,0,none⟩=false:=by simp[World.frozen?,hG2]
  have g1:w2.frozen? ⟨w.heap.size+1,1,none⟩=false:=by simp[World.frozen?,hG2]
  have g2:w2.frozen? ⟨w.heap.size+1,2,none⟩=false:=by simp[World.frozen?,hG2]
  have d0:w2.cell? ⟨w.heap.size,0,none⟩=some (.int .i64 n.kind):=by simp[World.cell?,hG02]
  have hne1:¬w1.heap.size=w.heap.size+1:=by omega
  have hne0:¬w1.heap.size=w.heap.size:=by omega
  have hne2:¬w.heap.size+1=w1.heap.size:=by omega
  have hne3:¬w.heap.size=w1.heap.size:=by omega
  clear hb2 hA hG2 hG02 p0 p1 p2 p3 q0 q1 q2 f0 f1 f2
  go_wp2
  refine bodyPost_ret (v:= .agg #[.int .i64 n.outer.1,.int .i64 n.outer.2,.bool true]) (by simp[results,Tryz.results152,go_sem,r0,r1,r2,t0,t1,hne1,hne2,hd10]) rfl ⟨rfl,?_⟩
  exact setCell3 ((HB2.out.setCell (p:=⟨w1.heap.size,0,none⟩) (by exact Nat.le_of_lt hs0) _).setCell (p:=⟨w1.heap.size,1,none⟩) (by exact Nat.le_of_lt hs0) _) _ (by simp) _ _ _
 ·have e0:(n.mode==0)=false:=by simp[hm]
  have HE:Hid (n.ownT=(0,own n.kind)):=by
   show n.ownT=(0,own n.kind)
   unfold Nd.ownT
   rw[if_neg (fun r=>hm r.1)]
  obtain⟨rfl,rfl⟩:T1=0∧T2=own n.kind:=by have:=HE.out;rw[HT.out]at this;injection this with a b;exact⟨a,b⟩
  clear hm
  go_wp2
  refine bodyPost_ret (v:= .agg #[.int .i64 0,.int .i64 (own n.kind),.bool true]) (by simp[results,Tryz.results152,go_sem,q0,q1,q2,hs1,hd10]) rfl ⟨rfl,?_⟩
  first
   |exact(setCell3 HB.out _ (by simp) _ _ _).alloc (setCell3 HB.out _ (by simp) _ _ _).size _
   |exact setCell3 (HB.out.alloc HB.out.size _) _ (by simp) _ _ _
theorem own_all(n:Nd)(ka:Option Addr)(kc:Nat)(w:World)(hn:Nums w)(ht: -1≤n.tag)(hk:0≤n.kind)(hk':n.kind≤12):
 Calls Tryz.prog 152 #[.agg #[.int .i64 n.kind,.int .i64 n.tag,.int .i64 n.mode,.slice ka n.kids.length kc]] w fun e w'=>e= .returned (fv n.ownT.1 n.ownT.2 (decide (10≤n.kind∧n.kind≤12)))∧Below w.heap.size w w':=by
 by_cases h:n.kind≤9
 ·rw[decide_eq_false (by omega)];exact own_first n ka kc w hn ht hk h
 ·rw[decide_eq_true (by omega)];exact own_built n ka kc w hn ht (by omega) hk'
def faultV(p:Int)(v:Value):Value:= .iface 155 (.agg #[.int .i64 p,v])
theorem fault_V(p:Int)(a:Addr):fault p a=faultV p (.iface 291 (.pointer (some a))):=rfl
theorem at_all(p:Int)(tt:TypeId)(u:Value)(w:World):
 Calls Tryz.prog 60 #[.int .i64 p,.iface tt u] w fun e w'=>e= .returned (faultV p (.iface tt u))∧w'=w:=by
 unfold faultV
 go_enter Tryz.func60,Tryz.ntmps60
 go_wp2
 go_ret
 exact⟨rfl,rfl⟩
def RetRt(s:List Nd)(root:Int)(za:Addr)(w:World)(e:Ending)(w':World):Prop:=
 Below w.heap.size w w'∧((e= .returned .nilIface∧RightP s∧0≤root∧root<s.length)∨((∃p:Int,e= .returned (faultV 0 (fault p za)))∧¬RightP s)∨(e= .returned (fault 0 za)∧RightP s∧¬(0≤root∧root<s.length)))
theorem checkRoot_any(s:List Nd)(a:Option Addr)(c:Nat)(root:Int)(w:World)(sn:Sn→Addr)(za:Addr)(hl:Lay w sn)(hz:LayZ w sn za)(hs:Sch w a s)(hok:SchOk s)(hn0:s.length≤140737488351232):
 Calls Tryz.prog 74 #[.slice a s.length c,.int .i64 root] w fun e w'=>RetRt s root za w e w':=by
 have HC:Hid (Calls Tryz.prog 35 #[.slice a s.length c] w fun e w'=>RetK s za w e w'):=check_any s a c w sn za hl hz hs hok hn0
 have HZ:=hide hz
 have HAT:Hid (∀tt u wq,Calls Tryz.prog 60 #[.int .i64 0,.iface tt u] wq fun e w'=>e= .returned (faultV 0 (.iface tt u))∧w'=wq):=fun tt u wq=>at_all 0 tt u wq
 unfold faultV at HAT
 clear hl hz hs hok
 go_enter Tryz.func74,Tryz.ntmps74
 go_wp2_with fail
 refine HC.out.mono ?_
 rintro e w1 ⟨hb1,h1⟩
 have HB1:=hide hb1
 clear hb1
 rcases h1 with⟨rfl,hr⟩|⟨⟨p,rfl⟩,hr⟩
 ·have HR:=hide hr
  clear hr
  have cS:=(HZ.out.below HB1.out).c
  have hgl:=lt_of_cell cS
  simp only at hgl
  by_cases h0:root<0
  ·go_wp2_with fail
   refine(HAT.out _ _ _).mono ?_
   rintro e w2 ⟨rfl,rfl⟩
   go_wp2
   go_ret
   exact⟨HB1.out,.inr (.inr ⟨rfl,HR.out,by omega⟩)⟩
  ·have h0':0≤root:=by omega
   by_cases h2:root<s.length
   ·go_wp2
    go_ret
    exact⟨HB1.out,.inl ⟨rfl,HR.out,h0',h2⟩⟩
   ·have h2':(s.length:Int)≤root:=by omega
    go_wp2_with fail
    refine(HAT.out _ _ _).mono ?_
    rintro e w2 ⟨rfl,rfl⟩
    go_wp2
    go_ret
    exact⟨HB1.out,.inr (.inr ⟨rfl,HR.out,by omega⟩)⟩
 ·have HR:=hide hr
  clear hr
  unfold fault
  go_wp2_with fail
  refine(HAT.out _ _ _).mono ?_
  rintro e w2 ⟨rfl,rfl⟩
  go_wp2
  go_ret
  exact⟨HB1.out,.inr (.inl ⟨⟨p,rfl⟩,HR.out⟩)⟩
def FitP(n:Nd)(v:Vl):Prop:=
 v.kind=n.kind∧
 if n.kind=13 then v.text.size=0∧v.kids=1∧0≤v.alt∧v.alt<n.kids.length
 else if n.kind=14 then(hd v.text).1=0∧(hd v.text).2.s+(hd v.text).2.l=v.text.size∧v.alt=0∧v.kids=0
 else if n.kind=10 then v.text.size=0∧v.alt=0∧v.kids=n.kids.length
 else if 10≤n.kind∧n.kind≤12 then v.text.size=0∧v.alt=0∧0≤v.kids
 else ContentOk n.kind v.text∧v.alt=0∧v.kids=0
theorem fit10{n:Nd}{v:Vl}(h:n.kind=10)(hv:v.kind=n.kind):FitP n v↔v.text.size=0∧v.alt=0∧v.kids=n.kids.length:=by
 unfold FitP
 rw[if_neg (by omega),if_neg (by omega),if_pos h]
 exact⟨fun q=>q.2,fun q=>⟨hv,q⟩⟩
theorem fit12{n:Nd}{v:Vl}(h:n.kind=11∨n.kind=12)(hv:v.kind=n.kind):FitP n v↔v.text.size=0∧v.alt=0∧0≤v.kids:=by
 unfold FitP
 rw[if_neg (by omega),if_neg (by omega),if_neg (by omega),if_pos (by omega)]
 exact⟨fun q=>q.2,fun q=>⟨hv,q⟩⟩
theorem fit13{n:Nd}{v:Vl}(h:n.kind=13)(hv:v.kind=n.kind):FitP n v↔v.text.size=0∧v.kids=1∧0≤v.alt∧v.alt<n.kids.length:=by
 unfold FitP
 rw[if_pos h]
 exact⟨fun q=>q.2,fun q=>⟨hv,q⟩⟩
theorem fit14{n:Nd}{v:Vl}(h:n.kind=14)(hv:v.kind=n.kind):FitP n v↔(hd v.text).1=0∧(hd v.text).2.s+(hd v.text).2.l=v.text.size∧v.alt=0∧v.kids=0:=by
 unfold FitP
 rw[if_neg (by omega),if_pos h]
 exact⟨fun q=>q.2,fun q=>⟨hv,q⟩⟩
theorem fit9{n:Nd}{v:Vl}(h:n.kind<10∨14<n.kind)(hv:v.kind=n.kind):FitP n v↔ContentOk n.kind v.text∧v.alt=0∧v.kids=0:=by
 unfold FitP
 rw[if_neg (by omega),if_neg (by omega),if_neg (by omega),if_neg (by omega)]
 exact⟨fun q=>q.2,fun q=>⟨hv,q⟩⟩
theorem isWhole_any(t:ByteArray)(w:World)(sn:Sn→Addr)(hs:Sent w sn)(hm:t.size≤9223372036854775807):
 Calls Tryz.prog 181 #[.string t] w fun e w'=>RetO ((hd t).1=0∧(hd t).2.s+(hd t).2.l=t.size) w e w':=by
 have h:=read_any t 0 w sn hs hm (Nat.zero_le _)
 rw[show t.extract 0 t.size=t by simp]at h
 have HRD:Hid (Calls Tryz.prog 156 #[.string t,.int .i64 0] w fun e w'=>e= .returned (.tuple #[hv (hd t).2,errAt 0 sn (hd t).1])∧Below w.heap.size w w'):=h
 unfold hv at HRD
 clear hs h
 by_cases q1:(hd t).1=0
 ·have hok:=hd_ok q1
  have Q1:=hide q1
  rw[q1]at HRD
  have he:errAt 0 sn 0= .nilIface:=rfl
  rw[he]at HRD
  obtain⟨H,hH⟩:∃H,(hd t).2=H:=⟨_,rfl⟩
  have HH:=hide hH
  rw[hH]at HRD hok
  rw[hH]
  clear q1 he hH
  go_enter Tryz.func181,Tryz.ntmps181
  go_wp2_with fail
  refine HRD.out.mono ?_
  rintro e w1 ⟨rfl,hb1⟩
  have HB1:=hide hb1
  clear hb1
  by_cases q2:H.s+H.l=t.size
  ·have Q2:=hide q2
   have q2b:(H.s+H.l==(t.size:Int))=true:=by simpa using q2
   clear q2
   go_wp2
   go_ret
   exact reto_yes ⟨Q1.out,Q2.out⟩ (HB1.out.alloc HB1.out.size _)
  ·have Q2:=hide q2
   have q2b:(H.s+H.l==(t.size:Int))=false:=by simpa using q2
   clear q2
   go_wp2
   go_ret
   exact reto_no (fun h=>Q2.out h.2) (HB1.out.alloc HB1.out.size _)
 ·have Q1:=hide q1
  have he:=errAt_of (t:=t) 0 sn q1
  rw[he]at HRD
  unfold fault at HRD
  obtain⟨H,hH⟩:∃H,(hd t).2=H:=⟨_,rfl⟩
  rw[hH]at HRD
  rw[hH]
  clear q1 he hH
  go_enter Tryz.func181,Tryz.ntmps181
  go_wp2_with fail
  refine HRD.out.mono ?_
  rintro e w1 ⟨rfl,hb1⟩
  have HB1:=hide hb1
  clear hb1
  go_wp2
  go_ret
  exact reto_no (fun h=>Q1.out h.1) (HB1.out.alloc HB1.out.size _)
theorem wfits10(n:Nd)(v:Vl)(ka:Option Addr)(kc:Nat)(w:World)(hk:n.kind=10)(hvk:v.kind=n.kind)(hk8:n.kids.length≤8):
 Calls Tryz.prog 148 #[.agg #[.int .i64 n.kind,.int .i64 n.tag,.int .i64 n.mode,.slice ka n.kids.length kc],.agg #[.int .i64 v.kind,.string v.text,.int .i64 v.alt,.int .i64 v.kids]] w fun e w'=>RetO (FitP n v) w e w':=by
 have HI:=hide (fit10 (v:=v) hk hvk)
 rw[hvk,hk]
 go_enter Tryz.func148,Tryz.ntmps148
 by_cases q1:v.text.size=0
 ·have t1:=emp_t q1
  have Q1:=hide q1
  by_cases q2:v.alt=0
  ·have Q2:=hide q2
   rw[q2]
   by_cases q3:v.kids=(n.kids.length:Int)
   ·have Q3:=hide q3
    rw[q3]
    clear q1 q2 q3 hk hvk
    go_wp2
    go_ret
    exact reto_yes (HI.out.2 ⟨Q1.out,Q2.out,Q3.out⟩) (((Below.refl _ _).alloc (Nat.le_refl _) _).alloc (by simp) _)
   ·have Q3:=hide q3
    have q3b:(v.kids==(n.kids.length:Int))=false:=by simpa using q3
    clear q1 q2 hk hvk
    go_wp2
    go_ret
    exact reto_no (fun h=>Q3.out (HI.out.1 h).2.2) (((Below.refl _ _).alloc (Nat.le_refl _) _).alloc (by simp) _)
  ·have Q2:=hide q2
   have q2b:(v.alt==0)=false:=by simpa using q2
   clear q1 hk hvk
   go_wp2
   go_ret
   exact reto_no (fun h=>Q2.out (HI.out.1 h).2.1) (((Below.refl _ _).alloc (Nat.le_refl _) _).alloc (by simp) _)
 ·have t1:=emp_f (t:=v.text) (by omega)
  have Q1:=hide q1
  clear q1 hk hvk
  go_wp2
  go_ret
  exact reto_no (fun h=>Q1.out (HI.out.1 h).1) (((Below.refl _ _).alloc (Nat.le_refl _) _).alloc (by simp) _)
theorem wfits12(n:Nd)(v:Vl)(ka:Option Addr)(kc:Nat)(w:World)(hk:n.kind=11∨n.kind=12)(hvk:v.kind=n.kind)(hk8:n.kids.length≤8):
 Calls Tryz.prog 148 #[.agg #[.int .i64 n.kind,.int .i64 n.tag,.int .i64 n.mode,.slice ka n.kids.length kc],.agg #[.int .i64 v.kind,.string v.text,.int .i64 v.alt,.int .i64 v.kids]] w fun e w'=>RetO (FitP n v) w e w':=by
 have HI:=hide (fit12 (v:=v) hk hvk)
 rw[hvk]
 rcases hk with hk|hk
 all_goals
  rw[hk]
  go_enter Tryz.func148,Tryz.ntmps148
  by_cases q1:v.text.size=0
  ·have t1:=emp_t q1
   have Q1:=hide q1
   by_cases q2:v.alt=0
   ·have Q2:=hide q2
    rw[q2]
    by_cases q3:0≤v.kids
    ·have Q3:=hide q3
     have hmx:max v.kids 0=v.kids:=by omega
     clear q1 q2 hk hvk
     go_wp2
     go_ret
     exact reto_yes (HI.out.2 ⟨Q1.out,Q2.out,Q3.out⟩) (((Below.refl _ _).alloc (Nat.le_refl _) _).alloc (by simp) _)
    ·have Q3:=hide q3
     have hmx:max v.kids 0=0:=by omega
     have q3b:(v.kids==0)=false:=by simp;omega
     clear q1 q2 hk hvk
     go_wp2
     go_ret
     exact reto_no (fun h=>by have h1:=(HI.out.1 h).2.2;have h2:=Q3.out;omega) (((Below.refl _ _).alloc (Nat.le_refl _) _).alloc (by simp) _)
   ·have Q2:=hide q2
    have q2b:(v.alt==0)=false:=by simpa using q2
    clear q1 hk hvk
    go_wp2
    go_ret
    exact reto_no (fun h=>Q2.out (HI.out.1 h).2.1) (((Below.refl _ _).alloc (Nat.le_refl _) _).alloc (by simp) _)
  ·have t1:=emp_f (t:=v.text) (by omega)
   have Q1:=hide q1
   clear q1 hk hvk
   go_wp2
   go_ret
   exact reto_no (fun h=>Q1.out (HI.out.1 h).1) (((Below.refl _ _).alloc (Nat.le_refl _) _).alloc (by simp) _)
theorem wfits13(n:Nd)(v:Vl)(ka:Option Addr)(kc:Nat)(w:World)(hk:n.kind=13)(hvk:v.kind=n.kind)(hk8:n.kids.length≤8):
 Calls Tryz.prog 148 #[.agg #[.int .i64 n.kind,.int .i64 n.tag,.int .i64 n.mode,.slice ka n.kids.length kc],.agg #[.int .i64 v.kind,.string v.text,.int .i64 v.alt,.int .i64 v.kids]] w fun e w'=>RetO (FitP n v) w e w':=by
 have HI:=hide (fit13 (v:=v) hk hvk)
 rw[hvk,hk]
 go_enter Tryz.func148,Tryz.ntmps148
 by_cases q1:v.text.size=0
 ·have t1:=emp_t q1
  have Q1:=hide q1
  by_cases q2:v.kids=1
  ·have Q2:=hide q2
   rw[q2]
   by_cases q3:0≤v.alt
   ·have Q3:=hide q3
    by_cases q4:v.alt<(n.kids.length:Int)
    ·have Q4:=hide q4
     clear q1 q2 hk hvk
     go_wp2
     go_ret
     exact reto_yes (HI.out.2 ⟨Q1.out,Q2.out,Q3.out,Q4.out⟩) (((Below.refl _ _).alloc (Nat.le_refl _) _).alloc (by simp) _)
    ·have Q4:=hide q4
     have q4b:decide (v.alt<(n.kids.length:Int))=false:=decide_eq_false q4
     clear q1 q2 hk hvk
     go_wp2
     go_ret
     exact reto_no (fun h=>by have h1:=(HI.out.1 h).2.2.2;have h2:=Q4.out;omega) (((Below.refl _ _).alloc (Nat.le_refl _) _).alloc (by simp) _)
   ·have Q3:=hide q3
    have q3b:decide (0≤v.alt)=false:=decide_eq_false q3
    clear q1 q2 hk hvk
    go_wp2
    go_ret
    exact reto_no (fun h=>by have h1:=(HI.out.1 h).2.2.1;have h2:=Q3.out;omega) (((Below.refl _ _).alloc (Nat.le_refl _) _).alloc (by simp) _)
  ·have Q2:=hide q2
   have q2b:(v.kids==1)=false:=by simpa using q2
   clear q1 hk hvk
   go_wp2
   go_ret
   exact reto_no (fun h=>Q2.out (HI.out.1 h).2.1) (((Below.refl _ _).alloc (Nat.le_refl _) _).alloc (by simp) _)
 ·have t1:=emp_f (t:=v.text) (by omega)
  have Q1:=hide q1
  clear q1 hk hvk
  go_wp2
  go_ret
  exact reto_no (fun h=>Q1.out (HI.out.1 h).1) (((Below.refl _ _).alloc (Nat.le_refl _) _).alloc (by simp) _)
theorem wfits14(n:Nd)(v:Vl)(ka:Option Addr)(kc:Nat)(w:World)(hk:n.kind=14)(sn:Sn→Addr)(hl:Lay w sn)(hts:v.text.size≤140737488355328)(hvk:v.kind=n.kind)(hk8:n.kids.length≤8):
 Calls Tryz.prog 148 #[.agg #[.int .i64 n.kind,.int .i64 n.tag,.int .i64 n.mode,.slice ka n.kids.length kc],.agg #[.int .i64 v.kind,.string v.text,.int .i64 v.alt,.int .i64 v.kids]] w fun e w'=>RetO (FitP n v) w e w':=by
 have HI:=hide (fit14 (v:=v) hk hvk)
 have HF:Hid (∀wq,Below w.heap.size w wq→Calls Tryz.prog 181 #[.string v.text] wq fun e w'=>∃rv,e= .returned (.bool rv)∧(rv=true↔((hd v.text).1=0∧(hd v.text).2.s+(hd v.text).2.l=v.text.size))∧Below wq.heap.size wq w'):=fun wq q=>isWhole_any v.text wq sn (hl.below q).s (by omega)
 have HA:Hid (∀A B,Below w.heap.size w ((w.alloc A).alloc B)):=fun A B=>((Below.refl w.heap.size w).alloc (Nat.le_refl _) A).alloc (by simp) B
 rw[hvk,hk]
 clear hk hvk hl hts
 go_enter Tryz.func148,Tryz.ntmps148
 by_cases q2:v.alt=0
 ·have Q2:=hide q2
  rw[q2]
  by_cases q3:v.kids=0
  ·have Q3:=hide q3
   rw[q3]
   clear q2 q3
   go_wp2_with fail
   refine(HF.out _ (HA.out _ _)).mono ?_
   rintro e w1 ⟨rv,rfl,hrv,hb1⟩
   have HB1:Hid (Below w.heap.size w w1):=(HA.out _ _).trans (hb1.mono (HA.out _ _).size)
   have HRV:=hide hrv
   clear hb1 hrv
   go_wp2
   go_ret
   exact⟨rv,rfl,⟨fun h=>HI.out.2 ⟨(HRV.out.1 h).1,(HRV.out.1 h).2,Q2.out,Q3.out⟩,fun h=>HRV.out.2 ⟨(HI.out.1 h).1,(HI.out.1 h).2.1⟩⟩,HB1.out⟩
  ·have Q3:=hide q3
   have q3b:(v.kids !=0)=true:=by simpa using q3
   clear q2
   go_wp2
   go_ret
   exact reto_no (fun h=>Q3.out (HI.out.1 h).2.2.2) (((Below.refl _ _).alloc (Nat.le_refl _) _).alloc (by simp) _)
 ·have Q2:=hide q2
  have q2b:(v.alt !=0)=true:=by simpa using q2
  go_wp2
  go_ret
  exact reto_no (fun h=>Q2.out (HI.out.1 h).2.2.1) (((Below.refl _ _).alloc (Nat.le_refl _) _).alloc (by simp) _)
theorem wfits9(n:Nd)(v:Vl)(ka:Option Addr)(kc:Nat)(w:World)(hk:n.kind<10∨14<n.kind)(sn:Sn→Addr)(hl:Lay w sn)(hts:v.text.size≤140737488355328)(hvk:v.kind=n.kind)(hk8:n.kids.length≤8):
 Calls Tryz.prog 148 #[.agg #[.int .i64 n.kind,.int .i64 n.tag,.int .i64 n.mode,.slice ka n.kids.length kc],.agg #[.int .i64 v.kind,.string v.text,.int .i64 v.alt,.int .i64 v.kids]] w fun e w'=>RetO (FitP n v) w e w':=by
 have HI:=hide (fit9 (v:=v) hk hvk)
 have HF:Hid (∀wq,Below w.heap.size w wq→Calls Tryz.prog 138 #[.int .i64 n.kind,.string v.text] wq fun e w'=>∃rv,e= .returned (.bool rv)∧(rv=true↔ContentOk n.kind v.text)∧Below wq.heap.size wq w'):=fun wq q=>fits_any _ _ wq (by omega) (hl.below q).d (valids _ wq (by omega) (hl.below q).t)
 have HA:Hid (∀A B,Below w.heap.size w ((w.alloc A).alloc B)):=fun A B=>((Below.refl w.heap.size w).alloc (Nat.le_refl _) A).alloc (by simp) B
 have t10:(n.kind==10)=false:=by simp;omega
 have t11:(n.kind==11)=false:=by simp;omega
 have t12:(n.kind==12)=false:=by simp;omega
 have t13:(n.kind==13)=false:=by simp;omega
 have t14:(n.kind==14)=false:=by simp;omega
 rw[hvk]
 clear hk hvk hl hts
 go_enter Tryz.func148,Tryz.ntmps148
 by_cases q2:v.alt=0
 ·have Q2:=hide q2
  rw[q2]
  by_cases q3:v.kids=0
  ·have Q3:=hide q3
   rw[q3]
   clear q2 q3
   go_wp2_with fail
   refine(HF.out _ (HA.out _ _)).mono ?_
   rintro e w1 ⟨rv,rfl,hrv,hb1⟩
   have HB1:Hid (Below w.heap.size w w1):=(HA.out _ _).trans (hb1.mono (HA.out _ _).size)
   have HRV:=hide hrv
   clear hb1 hrv
   go_wp2
   go_ret
   exact⟨rv,rfl,⟨fun h=>HI.out.2 ⟨HRV.out.1 h,Q2.out,Q3.out⟩,fun h=>HRV.out.2 (HI.out.1 h).1⟩,HB1.out⟩
  ·have Q3:=hide q3
   have q3b:(v.kids !=0)=true:=by simpa using q3
   clear q2
   go_wp2
   go_ret
   exact reto_no (fun h=>Q3.out (HI.out.1 h).2.2) (((Below.refl _ _).alloc (Nat.le_refl _) _).alloc (by simp) _)
 ·have Q2:=hide q2
  have q2b:(v.alt !=0)=true:=by simpa using q2
  go_wp2
  go_ret
  exact reto_no (fun h=>Q2.out (HI.out.1 h).2.1) (((Below.refl _ _).alloc (Nat.le_refl _) _).alloc (by simp) _)
theorem wfits_any(n:Nd)(v:Vl)(ka:Option Addr)(kc:Nat)(w:World)(sn:Sn→Addr)(hl:Lay w sn)(hts:v.text.size≤140737488355328)(hk8:n.kids.length≤8):
 Calls Tryz.prog 148 #[.agg #[.int .i64 n.kind,.int .i64 n.tag,.int .i64 n.mode,.slice ka n.kids.length kc],.agg #[.int .i64 v.kind,.string v.text,.int .i64 v.alt,.int .i64 v.kids]] w fun e w'=>RetO (FitP n v) w e w':=by
 by_cases hvk:v.kind=n.kind
 ·by_cases h13:n.kind=13
  ·exact wfits13 n v ka kc w h13 hvk hk8
  by_cases h14:n.kind=14
  ·exact wfits14 n v ka kc w h14 sn hl hts hvk hk8
  by_cases h10:n.kind=10
  ·exact wfits10 n v ka kc w h10 hvk hk8
  by_cases h12:n.kind=11∨n.kind=12
  ·exact wfits12 n v ka kc w h12 hvk hk8
  ·exact wfits9 n v ka kc w (by omega) sn hl hts hvk hk8
 ·have Q:=hide hvk
  have hb:(v.kind !=n.kind)=true:=by simpa using hvk
  clear hl hts
  go_enter Tryz.func148,Tryz.ntmps148
  go_wp2
  go_ret
  exact reto_no (fun h=>Q.out h.1) (((Below.refl _ _).alloc (Nat.le_refl _) _).alloc (by simp) _)
end Go.Proofs.YtkkicodfpekbgaaGreatDoor
