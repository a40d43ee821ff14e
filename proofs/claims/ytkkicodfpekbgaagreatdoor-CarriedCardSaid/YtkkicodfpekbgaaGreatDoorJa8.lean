/-
Several texts in one.
-/
import Derived.Test.YtkkicodfpekbgaaGreatDoorJa3
import Derived.Shelf.Unicode.ValidAny
import Derived.Test.YtkkicodfpekbgaaGreatDoorJa0
import Derived.Test.YtkkicodfpekbgaaGreatDoorJa4
import Derived.Deep.DeepCutAuto
import Derived.Deep.RegionWith
import Derived.Test.YtkkicodfpekbgaaGreatDoorJa5
import Derived.Handy
import Derived.Deep.RegionHeldLaw
import Derived.Deep.LoopGhost
namespace Go.Proofs.YtkkicodfpekbgaaGreatDoor
open Go.RowKit
set_option linter.unusedSimpArgs false
set_option linter.unusedVariables false
set_option maxRecDepth 100000
set_option maxHeartbeats 8000000
def Tabs(w:World):Prop:=Lib.Utf8Tabs (valRen.g 3) (valRen.g 4) w
theorem valids(t:ByteArray)(w:World)(hm:t.size≤9223372036854775807)(hT:Tabs w):Valids t w:=by
 have c:Calls Tryz.prog 176 #[.string t] w _:=Any.utf8_ValidString Tryz.laysValid t w hm hT
 exact c.mono fun e w' h=>⟨_,h.1,(utf8_valid t).symm,h.2⟩
theorem cells_of{w:World}{k:Nat}{A:Array Value}{T:TypeId}(h:w.heap[k]? =some (.cells A T (0,0))):∀i,w.cell? ⟨k,i,none⟩=A[i]? :=fun i=>by simp[World.cell?,h]
theorem frozen_of{w:World}{k:Nat}{A:Array Value}{T:TypeId}(h:w.heap[k]? =some (.cells A T (0,0))):∀i,w.frozen? ⟨k,i,none⟩=false:=fun i=>by simp[World.frozen?,h]
def NameOk(t:ByteArray):Prop:=1≤t.size∧t.size≤64∧Utf8Ok t
def most(v:Int):Int:=if v=2 then 8 else 0
theorem isName_any(t:ByteArray)(w:World)(hm:t.size≤9223372036854775807)(hT:Tabs w):
 Calls Tryz.prog 169 #[.string t] w fun e w'=>RetW (NameOk t) w e w':=by
 have HV:Hid (Calls Tryz.prog 176 #[.string t] w fun e w'=>RetW (Utf8Ok t) w e w'):=valids t w hm hT
 by_cases h1:1≤t.size
 ·by_cases h2:t.size≤64
  ·have h1':(1:Int)≤t.size:=by omega
   have h2':(t.size:Int)≤64:=by omega
   go_enter Tryz.func169,Tryz.ntmps169
   go_wp2_with fail
   refine HV.out.mono ?_
   rintro e w1 ⟨r,rfl,hr,hb⟩
   have HR:Hid (r=true↔Utf8Ok t):=hr
   have HB:Hid (Below w.heap.size w w1):=hb
   clear hr hb
   go_wp2
   go_ret
   exact⟨r,rfl,⟨fun q=>⟨h1,h2,HR.out.1 q⟩,fun q=>HR.out.2 q.2.2⟩,HB.out⟩
  ·have h1':(1:Int)≤t.size:=by omega
   have h2':¬(t.size:Int)≤64:=by omega
   go_enter Tryz.func169,Tryz.ntmps169
   go_wp2
   go_ret
   exact⟨false,rfl,⟨fun q=>(by cases q),fun q=>absurd q.2.1 h2⟩,Below.refl _ _⟩
 ·have h1':¬(1:Int)≤t.size:=by omega
  go_enter Tryz.func169,Tryz.ntmps169
  go_wp2
  go_ret
  exact⟨false,rfl,⟨fun q=>(by cases q),fun q=>absurd q.1 h1⟩,Below.refl _ _⟩
theorem mostMarks_any(v:Int)(w:World):
 Calls Tryz.prog 170 #[.int .i64 v] w fun e w'=>e= .returned (.int .i64 (most v))∧w'=w:=by
 by_cases h:v=2
 ·subst h
  go_enter Tryz.func170,Tryz.ntmps170
  go_wp2
  go_ret
  exact⟨rfl,rfl⟩
 ·have e:most v=0:=by unfold most;rw[if_neg h]
  have h':(v==2)=false:=by simp[h]
  rw[e]
  clear h e
  go_enter Tryz.func170,Tryz.ntmps170
  go_wp2
  go_ret
  exact⟨rfl,rfl⟩
structure CardOk(v:Int)(s n f t k:ByteArray)(m:Nat):Prop where
 v0:0≤v
 v2:v≤2
 ser:IntOk s
 nam:NameOk n
 frm:TimeOk f
 til:TimeOk t
 ord:(Op.bytesLess f.toList t.toList||f.toList==t.toList)=true
 key:BitsOk k
 mks:(m:Int)≤most v
theorem bool_ex(P:Prop):∃r:Bool,r=true↔P:=by
 by_cases h:P
 ·exact⟨true,by simp[h]⟩
 ·exact⟨false,by simp[h]⟩
def cardV(v:Int)(s n f t k:ByteArray)(mk:Value):Value:= .agg #[.int .i64 v,.string s,.string n,.string f,.string t,.string k,mk]
structure CdX(v:Int)(s n f t k:ByteArray)(mk:Value)(r1 r2 r3 r4 r5:Bool)(w:World):Prop where
 f1:∀x:Ext (w.alloc (.cells #[.int .i64 v,.string s,.string n,.string f,.string t,.string k,mk] 68)),Calls Tryz.prog 138 #[.int .i64 2,.string s] x.v fun e w''=>e= .returned (.bool r1)∧∃y:Ext (w.alloc (.cells #[.int .i64 v,.string s,.string n,.string f,.string t,.string k,mk] 68)),w''=y.v
 f2:∀x:Ext (w.alloc (.cells #[.int .i64 v,.string s,.string n,.string f,.string t,.string k,mk] 68)),Calls Tryz.prog 169 #[.string n] x.v fun e w''=>e= .returned (.bool r2)∧∃y:Ext (w.alloc (.cells #[.int .i64 v,.string s,.string n,.string f,.string t,.string k,mk] 68)),w''=y.v
 f3:∀x:Ext (w.alloc (.cells #[.int .i64 v,.string s,.string n,.string f,.string t,.string k,mk] 68)),Calls Tryz.prog 138 #[.int .i64 9,.string f] x.v fun e w''=>e= .returned (.bool r3)∧∃y:Ext (w.alloc (.cells #[.int .i64 v,.string s,.string n,.string f,.string t,.string k,mk] 68)),w''=y.v
 f4:∀x:Ext (w.alloc (.cells #[.int .i64 v,.string s,.string n,.string f,.string t,.string k,mk] 68)),Calls Tryz.prog 138 #[.int .i64 9,.string t] x.v fun e w''=>e= .returned (.bool r4)∧∃y:Ext (w.alloc (.cells #[.int .i64 v,.string s,.string n,.string f,.string t,.string k,mk] 68)),w''=y.v
 f5:∀x:Ext (w.alloc (.cells #[.int .i64 v,.string s,.string n,.string f,.string t,.string k,mk] 68)),Calls Tryz.prog 138 #[.int .i64 5,.string k] x.v fun e w''=>e= .returned (.bool r5)∧∃y:Ext (w.alloc (.cells #[.int .i64 v,.string s,.string n,.string f,.string t,.string k,mk] 68)),w''=y.v
 f6:∀x:Ext (w.alloc (.cells #[.int .i64 v,.string s,.string n,.string f,.string t,.string k,mk] 68)),Calls Tryz.prog 170 #[.int .i64 v] x.v fun e w''=>e= .returned (.int .i64 (most v))∧∃y:Ext (w.alloc (.cells #[.int .i64 v,.string s,.string n,.string f,.string t,.string k,mk] 68)),w''=y.v
structure Lay(w:World)(sn:Sn→Addr):Prop where
 s:Sent w sn
 n:Nums w
 d:Days w
 t:Tabs w
theorem Lay.below{w w':World}{sn:Sn→Addr}(h:Lay w sn)(hb:Below w.heap.size w w'):Lay w' sn:=
 ⟨h.s.below hb,h.n.below hb,fun i hi=>(hb.cell (lt_of_cell (h.d i hi))).trans (h.d i hi),Utf8Tabs_below h.t hb⟩
structure LayZ(w:World)(sn:Sn→Addr)(za:Addr):Prop where
 c:w.cell? ⟨12,0,none⟩=some (.iface 291 (.pointer (some za)))
 r:∃c t,w.heap[za.block]? =some (.cells c t (0,0))
 d:∀s:Sn,sn s≠za
theorem LayZ.below{w w':World}{sn:Sn→Addr}{za:Addr}(h:LayZ w sn za)(hb:Below w.heap.size w w'):LayZ w' sn za:=⟨(hb.cell (lt_of_cell h.c)).trans h.c,row_below h.r hb,h.d⟩
theorem at_any(p:Int)(a:Addr)(w:World):
 Calls Tryz.prog 60 #[.int .i64 p,.iface 291 (.pointer (some a))] w fun e w'=>e= .returned (fault p a)∧w'=w:=by
 unfold fault
 go_enter Tryz.func60,Tryz.ntmps60
 go_wp2
 go_ret
 exact⟨rfl,rfl⟩
theorem comesBack_any(s:List Nd)(a:Option Addr)(c i:Nat)(w:World)(hs:Sch w a s)(hw:Within s)(htg:Tags s)(hi:i<s.length)(hn:s.length≤40):
 Calls Tryz.prog 63 #[.slice a s.length c,.int .i64 i] w fun e w'=>RetO (Back s i) w e w':=by
 have HC:Hid (Calls Tryz.prog 96 #[.slice a s.length c,.int .i64 i] w fun e w'=>RetE s i w e w'):=reach_any s a c i w hs hw htg hi hn
 clear hs hw htg
 go_enter Tryz.func63,Tryz.ntmps63
 go_wp2_with fail
 refine HC.out.mono ?_
 rintro e w1 ⟨v,l,bk,rfl,_,hb,_,_,hbk⟩
 have HB:Hid (Below w.heap.size w w1):=hb
 have HR:Hid (bk=true↔Back s i):=hbk
 clear hb hbk
 go_wp2
 go_ret
 exact reto_iff HR.out HB.out
theorem tagged_iff(n:Nd):(¬Bad1 n∧¬Bad2 n)↔(1≤n.kind∧n.kind≤14∧Tagged n):=by unfold Bad1 Bad2 Tagged;omega
theorem count_iff(k:Int)(m:Nat):Count k m↔((bnd k).1≤(m:Int)∧(m:Int)≤(bnd k).2):=by
 unfold Count bnd
 repeat' split
 all_goals simp only;omega
theorem isShaped_any(m:Nat)(n:Nd)(ka:Option Addr)(kc:Nat)(w:World)(hka:KidsIn w ka n.kids)(hkm:n.kids.length≤maxLen):
 Calls Tryz.prog 61 #[.agg #[.int .i64 n.kind,.int .i64 n.tag,.int .i64 n.mode,.slice ka n.kids.length kc],.int .i64 m] w fun e w'=>RetO (Alone m n) w e w':=by
 have HM:Hid (∀(wr:World) (k:Kd),Calls Tryz.prog 94 #[.agg #[.int .i64 k.node,.bool k.opt,.string k.dflt]] wr fun e w'=>RetO (¬k.must) wr e w'):=fun wr k=>mayLack_any k wr
 have HT:Hid (∀wr,Calls Tryz.prog 92 #[.agg #[.int .i64 n.kind,.int .i64 n.tag,.int .i64 n.mode,.slice ka n.kids.length kc]] wr fun e w'=>RetO (Tagged n) wr e w'):=fun wr=>isTagged_any n ka kc wr
 have HKB:Hid (∀wr,Calls Tryz.prog 93 #[.int .i64 n.kind] wr fun e w'=>e= .returned (.tuple #[.int .i64 (bnd n.kind).1,.int .i64 (bnd n.kind).2])∧Below wr.heap.size wr w'):=fun wr=>kidBounds_any n.kind wr
 have HKI:Hid (KidsIn w ka n.kids):=hka
 clear hka
 by_cases h1:n.kind<1
 ·have HX:Hid (¬Alone m n):=fun h=>h.1 (.inl h1)
  go_enter Tryz.func61,Tryz.ntmps61
  go_wp2
  go_ret
  exact reto_no HX.out ((Below.refl _ _).alloc (Nat.le_refl _) _)
 have h1':1≤n.kind:=by omega
 by_cases h2:14<n.kind
 ·have HX:Hid (¬Alone m n):=fun h=>h.1 (.inr (.inl h2))
  clear h1
  go_enter Tryz.func61,Tryz.ntmps61
  go_wp2
  go_ret
  exact reto_no HX.out ((Below.refl _ _).alloc (Nat.le_refl _) _)
 have h2':n.kind≤14:=by omega
 clear h1 h2
 go_enter Tryz.func61,Tryz.ntmps61
 go_wp2_with fail
 refine(HT.out _).mono ?_
 rintro e w1 ⟨r,rfl,hr,hb1⟩
 have HR:Hid (r=true↔Tagged n):=hr
 have HB1:Hid (Below w.heap.size w w1):=below_alloc hb1
 obtain⟨Bn,hBn⟩:∃Bn,Bn=w.heap.size:=⟨_,rfl⟩
 have HBN:Hid (Bn=w.heap.size):=hBn
 have HG1:Hid (w1.heap[Bn]? =some (.cells #[.int .i64 n.kind,.int .i64 n.tag,.int .i64 n.mode,.slice ka n.kids.length kc] 58 (0,0))):=by rw[hBn];exact block_below (heap_alloc_new w _) hb1
 have q0:w1.cell? ⟨Bn,0,none⟩=some (.int .i64 n.kind):=by simp[World.cell?,HG1.out]
 have q3:w1.cell? ⟨Bn,3,none⟩=some (.slice ka n.kids.length kc):=by simp[World.cell?,HG1.out]
 rw[←hBn]
 clear hr hb1 hBn
 cases r
 ·go_wp2
  go_ret
  exact reto_no (fun h=>Bool.noConfusion (HR.out.2 ((tagged_iff n).1 ⟨h.1,h.2.1⟩).2.2)) HB1.out
 ·have HTG:Hid (¬Bad1 n∧¬Bad2 n):=(tagged_iff n).2 ⟨h1',h2',HR.out.1 rfl⟩
  go_wp2_with fail
  refine(HKB.out _).mono ?_
  rintro e w2 ⟨rfl,hb2⟩
  have HB2:Hid (Below w.heap.size w w2):=HB1.out.trans (hb2.mono HB1.out.size)
  have HG2:Hid (w2.heap[Bn]? =some (.cells #[.int .i64 n.kind,.int .i64 n.tag,.int .i64 n.mode,.slice ka n.kids.length kc] 58 (0,0))):=block_below HG1.out hb2
  have p0:w2.cell? ⟨Bn,0,none⟩=some (.int .i64 n.kind):=by simp[World.cell?,HG2.out]
  have p3:w2.cell? ⟨Bn,3,none⟩=some (.slice ka n.kids.length kc):=by simp[World.cell?,HG2.out]
  have HCI:=count_iff n.kind n.kids.length
  have HCH:Hid (Count n.kind n.kids.length↔((bnd n.kind).1≤(n.kids.length:Int)∧(n.kids.length:Int)≤(bnd n.kind).2)):=HCI
  generalize(bnd n.kind).1=lo at*
  generalize(bnd n.kind).2=hi at*
  clear hb2 q0 q3 HCI
  by_cases c1:(n.kids.length:Int)<lo
  ·have HX:Hid (¬Count n.kind n.kids.length):=fun q=>by have:=HCH.out.1 q;omega
   go_wp2
   go_ret
   exact reto_no (fun h=>HX.out h.2.2.1) HB2.out
  have c1':lo≤(n.kids.length:Int):=by omega
  by_cases c2:hi<(n.kids.length:Int)
  ·have HX:Hid (¬Count n.kind n.kids.length):=fun q=>by have:=HCH.out.1 q;omega
   clear c1
   go_wp2
   go_ret
   exact reto_no (fun h=>HX.out h.2.2.1) HB2.out
  have c2':(n.kids.length:Int)≤hi:=by omega
  have HC:Hid (Count n.kind n.kids.length):=HCH.out.2 ⟨c1',c2'⟩
  have hk8:n.kids.length≤8:=by
   have:=HC.out
   unfold Count at this
   repeat' split at this
   all_goals omega
  clear c1 c2
  go_wp2
  go_loopw [43] (fun vi wr=>∃i:Nat,i≤n.kids.length∧vi= .int .i64 i∧(∀j,j<i→KidOk m n (kd n j))∧Below w2.heap.size w2 wr) (fun vi _=>n.kids.length-(intOf vi).toNat)
  case atStart=>exact⟨0,Nat.zero_le _,rfl,fun _ h=>absurd h (Nat.not_lt_zero _),Below.refl _ _⟩
  case round=>
   obtain⟨i,hi',rfl,hall,hbr⟩:=hrel
   have HA:Hid (∀j,j<i→KidOk m n (kd n j)):=hall
   have HB:Hid (Below w2.heap.size w2 wr):=hbr
   have HBW:Hid (Below w.heap.size w wr):=HB2.out.trans (hbr.mono HB2.out.size)
   have HG3:Hid (wr.heap[Bn]? =some (.cells #[.int .i64 n.kind,.int .i64 n.tag,.int .i64 n.mode,.slice ka n.kids.length kc] 58 (0,0))):=block_below HG2.out hbr
   clear hall hbr
   by_cases hlt:i<n.kids.length
   ·have hlt':(i:Int)<n.kids.length:=by omega
    obtain⟨kb,ko,rfl,kcl⟩:=HKI.out i hlt
    obtain⟨y,hy⟩:∃y,kd n i=y:=⟨_,rfl⟩
    have HY:Hid (kd n i=y):=hy
    have hkc:KidCells w kb (ko+i*3) y:=by rw[←hy];exact kcl
    obtain⟨k1,k2,k3⟩:=hkc.below HBW.out
    have HB6:Hid (∀o,Below w.heap.size w (wr.alloc o)):=fun o=>HBW.out.alloc HBW.out.size o
    have NO:Hid (¬KidOk m n y→¬Alone m n):=fun h h'=>h (HY.out▸h'.2.2.2 i hlt)
    have YES:Hid (KidOk m n y→∀j,j<i+1→KidOk m n (kd n j)):=fun h j hj=>by
     by_cases e:j=i
     ·subst e;rw[HY.out];exact h
     ·exact HA.out j (by omega)
    clear hy kcl hkc
    by_cases q1:y.node<0
    ·have HX:Hid (¬KidOk m n y):=fun h=>by have:=h.1;omega
     go_wp2
     go_ret
     exact reto_no (NO.out HX.out) (HB6.out _)
    have q1':0≤y.node:=by omega
    by_cases q2:¬y.node<m
    ·have HX:Hid (¬KidOk m n y):=fun h=>q2 h.2.1
     have q2':(m:Int)≤y.node:=by omega
     clear q1 q2
     go_wp2
     go_ret
     exact reto_no (NO.out HX.out) (HB6.out _)
    have q2':y.node<m:=by omega
    clear q1 q2
    go_wp2_with fail
    refine(HM.out _ y).mono ?_
    rintro e w3 ⟨r,rfl,hr,hb3⟩
    have HRM:Hid (r=true↔¬y.must):=hr
    have HB3:Hid (Below w2.heap.size w2 w3):=HB.out.trans ((below_alloc hb3).mono HB.out.size)
    have HBW3:Hid (Below w.heap.size w w3):=HBW.out.trans ((below_alloc hb3).mono HBW.out.size)
    have HG4:Hid (w3.heap[Bn]? =some (.cells #[.int .i64 n.kind,.int .i64 n.tag,.int .i64 n.mode,.slice (some ⟨kb,ko,none⟩) n.kids.length kc] 58 (0,0))):=block_below HG3.out (below_alloc hb3)
    have HYB:Hid (w3.heap[wr.heap.size]? =some (.cells #[.int .i64 y.node,.bool y.opt,.string y.dflt] 55 (0,0))):=block_below (heap_alloc_new wr _) hb3
    have f0:w3.cell? ⟨Bn,0,none⟩=some (.int .i64 n.kind):=by simp[World.cell?,HG4.out]
    have y1:w3.cell? ⟨wr.heap.size,1,none⟩=some (.bool y.opt):=by simp[World.cell?,HYB.out]
    have y2:w3.cell? ⟨wr.heap.size,2,none⟩=some (.string y.dflt):=by simp[World.cell?,HYB.out]
    clear hr hb3 k1 k2 k3
    by_cases q3:¬(y.must∨n.kind=10)
    ·have HX:Hid (¬KidOk m n y):=fun h=>q3 h.2.2.1
     obtain rfl:r=true:=HRM.out.2 (fun q=>q3 (.inl q))
     have q4:(n.kind !=10)=true:=by simp;exact fun e=>q3 (.inr e)
     clear q3
     go_wp2
     go_ret
     exact reto_no (NO.out HX.out) HBW3.out
    have q3:y.must∨n.kind=10:=Classical.not_not.1 q3
    have HQ3:Hid (y.must∨n.kind=10):=q3
    have q5:r=false∨(r=true∧(n.kind !=10)=false):=by
     cases r
     ·exact .inl rfl
     ·right
      refine⟨rfl,?_⟩
      rcases q3 with q3|q3
      ·exact absurd q3 (HRM.out.1 rfl)
      ·simp[q3]
    clear q3
    by_cases q6:y.opt=true
    ·by_cases q7:y.dflt.size=0
     ·have e7:=emp_t q7
      have HX:Hid (KidOk m n y):=⟨q1',q2',HQ3.out,fun h=>h.2 q7⟩
      clear q7
      rw[q6]at y1
      clear q6
      rcases q5 with rfl|⟨rfl,q8⟩
      ·go_wp2
       go_roundw
       case rel=>exact⟨i+1,by omega,by go_num,YES.out HX.out,HB3.out⟩
       case measure=>simp[intOf];omega
      ·go_wp2
       go_roundw
       case rel=>exact⟨i+1,by omega,by go_num,YES.out HX.out,HB3.out⟩
       case measure=>simp[intOf];omega
     ·have e7:=emp_f (t:=y.dflt) (by omega)
      have HX:Hid (¬KidOk m n y):=fun h=>h.2.2.2 ⟨q6,q7⟩
      clear q7
      rw[q6]at y1
      clear q6
      rcases q5 with rfl|⟨rfl,q8⟩
      ·go_wp2
       go_ret
       exact reto_no (NO.out HX.out) HBW3.out
      ·go_wp2
       go_ret
       exact reto_no (NO.out HX.out) HBW3.out
    ·have q6':y.opt=false:=by simpa using q6
     have HX:Hid (KidOk m n y):=⟨q1',q2',HQ3.out,fun h=>q6 h.1⟩
     rw[q6']at y1
     clear q6 q6'
     rcases q5 with rfl|⟨rfl,q8⟩
     ·go_wp2
      go_roundw
      case rel=>exact⟨i+1,by omega,by go_num,YES.out HX.out,HB3.out⟩
      case measure=>simp[intOf];omega
     ·go_wp2
      go_roundw
      case rel=>exact⟨i+1,by omega,by go_num,YES.out HX.out,HB3.out⟩
      case measure=>simp[intOf];omega
   ·have hlt':(n.kids.length:Int)≤i:=by omega
    go_wp2
    go_ret
    exact reto_yes ⟨HTG.out.1,HTG.out.2,HC.out,fun j h=>HA.out j (by omega)⟩ HBW.out
theorem lays_0{N:Nd}(ht:N.tag<0)(hm:N.mode=0):N.lays=[(0,own N.kind,false)]:=by unfold Nd.lays Nd.ownT;rw[if_neg (by omega),if_neg (by omega)]
theorem lays_1{N:Nd}(ht:0≤N.tag)(hm:N.mode=0):N.lays=[(2,N.tag,false)]:=by unfold Nd.lays Nd.ownT;rw[if_neg (by omega),if_pos ⟨hm,ht⟩]
theorem lays_2{N:Nd}(hm:N.mode=1):N.lays=[(2,N.tag,true),(0,own N.kind,false)]:=by unfold Nd.lays Nd.ownT;rw[if_pos hm,if_neg (by omega)]
theorem strip1{f:Int×Int×Bool}{t u:ByteArray}:strip [f] t=some u↔((hd t).1=0∧((hd t).2.c,(hd t).2.n,(hd t).2.b)=f∧(hd t).2.s+(hd t).2.l=t.size)∧u=t.extract (hd t).2.s.toNat t.size:=by
 show(if _ then some _ else none)=_↔_
 by_cases h:(hd t).1=0∧((hd t).2.c,(hd t).2.n,(hd t).2.b)=f∧(hd t).2.s+(hd t).2.l=t.size
 ·rw[if_pos h]
  exact⟨fun e=>⟨h,by injection e with e;exact e.symm⟩,fun e=>by rw[e.2]⟩
 ·rw[if_neg h]
  exact⟨fun e=>(by cases e),fun e=>absurd e.1 h⟩
theorem strip2{f:Int×Int×Bool}{fs:List (Int×Int×Bool)}{t u:ByteArray}:strip (f::fs) t=some u↔((hd t).1=0∧((hd t).2.c,(hd t).2.n,(hd t).2.b)=f∧(hd t).2.s+(hd t).2.l=t.size)∧strip fs (t.extract (hd t).2.s.toNat t.size)=some u:=by
 show(if _ then _ else none)=_↔_
 by_cases h:(hd t).1=0∧((hd t).2.c,(hd t).2.n,(hd t).2.b)=f∧(hd t).2.s+(hd t).2.l=t.size
 ·rw[if_pos h]
  exact⟨fun e=>⟨h,e⟩,fun e=>e.2⟩
 ·rw[if_neg h]
  exact⟨fun e=>(by cases e),fun e=>absurd e.1 h⟩
theorem elem_iff{N:Nd}{t u:ByteArray}(ht:N.tag<0→N.mode=0)(hm:N.mode=0∨N.mode=1):ElemOk N t u↔(strip N.lays t=some u∧ContentOk N.kind u):=by
 unfold ElemOk NodeAt
 rw[extract_all]
 by_cases h0:N.tag<0
 ·rw[lays_0 h0 (ht h0),strip1]
  constructor
  ·rintro⟨_,h1,h2,h3⟩
   rcases h3 with⟨_,b,c,d,e,f⟩|⟨a,_⟩|⟨a,_⟩
   ·exact⟨⟨⟨h1,by rw[b,c,d],by omega⟩,by rw[e,Nat.zero_add]⟩,f⟩
   ·omega
   ·omega
  ·rintro⟨⟨⟨h1,h2,h3⟩,h4⟩,h5⟩
   injection h2 with b h2
   injection h2 with c d
   exact⟨by omega,h1,by omega,.inl ⟨h0,b,c,d,by rw[h4,Nat.zero_add],h5⟩⟩
 ·rcases hm with hm|hm
  ·rw[lays_1 (by omega) hm,strip1]
   constructor
   ·rintro⟨_,h1,h2,h3⟩
    rcases h3 with⟨a,_⟩|⟨_,_,b,c,d,e,f⟩|⟨_,a,_⟩
    ·omega
    ·exact⟨⟨⟨h1,by rw[b,c,d],by omega⟩,by rw[e,Nat.zero_add]⟩,f⟩
    ·omega
   ·rintro⟨⟨⟨h1,h2,h3⟩,h4⟩,h5⟩
    injection h2 with b h2
    injection h2 with c d
    exact⟨by omega,h1,by omega,.inr (.inl ⟨by omega,hm,b,c,d,by rw[h4,Nat.zero_add],h5⟩)⟩
  ·rw[lays_2 hm,strip2,strip1]
   constructor
   ·rintro⟨_,h1,h2,h3⟩
    rcases h3 with⟨a,_⟩|⟨_,a,_⟩|⟨_,_,b,c,d,t',e,f,g,h,i,j,k,l⟩
    ·omega
    ·omega
    ·rw[Nat.zero_add]at e k
     have ho:=hd_ok h1
     have hz:t'.size=t.size-(hd t).2.s.toNat:=by rw[e];simp
     rw[←e]
     refine⟨⟨⟨h1,by rw[b,c,d],by omega⟩,⟨f,by rw[g,h,i],by omega⟩,?_⟩,l⟩
     have hmn:min ((hd t).2.s.toNat+(t.size-(hd t).2.s.toNat)) t.size=t.size:=by omega
     rw[k,hz,e,ByteArray.extract_extract,hmn]
   ·rintro⟨⟨⟨h1,h2,h3⟩,⟨f,h4,h6⟩,h7⟩,h5⟩
    injection h2 with b h2
    injection h2 with c d
    injection h4 with g h4
    injection h4 with h i
    have ho:=hd_ok h1
    have hz:(t.extract (hd t).2.s.toNat t.size).size=t.size-(hd t).2.s.toNat:=by simp
    have hmn:min ((hd t).2.s.toNat+(t.size-(hd t).2.s.toNat)) t.size=t.size:=by omega
    refine⟨by omega,h1,by omega,.inr (.inr ⟨by omega,by omega,b,c,d,t.extract (hd t).2.s.toNat t.size,by rw[Nat.zero_add],f,g,h,i,?_,?_,h5⟩)⟩
    ·omega
    ·rw[h7,hz,ByteArray.extract_extract,Nat.zero_add,hmn]
theorem isElement_any(n:Nd)(ka:Option Addr)(kc:Nat)(t:ByteArray)(w:World)(sn:Sn→Addr)(hl:Lay w sn)(hT:Tagged n)(hk1:1≤n.kind)(hm:t.size≤140737488355328):
 Calls Tryz.prog 95 #[.agg #[.int .i64 n.kind,.int .i64 n.tag,.int .i64 n.mode,.slice ka n.kids.length kc],.string t] w fun e w'=>RetO (n.kind≤9∧∃u,ElemOk n t u) w e w':=by
 by_cases h9:9<n.kind
 ·have HX:Hid (¬(n.kind≤9∧∃u,ElemOk n t u)):=fun q=>by have:=q.1;omega
  clear hl hT
  go_enter Tryz.func95,Tryz.ntmps95
  go_wp2
  go_ret
  exact reto_no HX.out ((Below.refl _ _).alloc (Nat.le_refl _) _)
 ·have h9':n.kind≤9:=by omega
  have hT':=hT
  unfold Tagged at hT'
  have HE:Hid (∀u,ElemOk n t u↔(strip n.lays t=some u∧ContentOk n.kind u)):=fun u=>elem_iff (by omega) (by omega)
  have HW:Hid (∀wq,Below w.heap.size w wq→Calls Tryz.prog 137 #[.agg #[.int .i64 n.kind,.int .i64 n.tag,.int .i64 n.mode,.slice ka n.kids.length kc],.string t] wq fun e w'=>RetI n t wq e w'):=fun wq q=>within_any n ka kc t wq sn (hl.below q).s (hl.below q).n (by omega) (by omega) h9' (by omega) hm
  have HF:Hid (∀u wq,u.size≤t.size→Below w.heap.size w wq→Calls Tryz.prog 138 #[.int .i64 n.kind,.string u] wq fun e w'=>RetW (ContentOk n.kind u) wq e w'):=fun u wq hu q=>fits_any n.kind u wq (by omega) (hl.below q).d (valids u wq (by omega) (hl.below q).t)
  clear hl hT hT' h9
  go_enter Tryz.func95,Tryz.ntmps95
  go_wp2_with fail
  refine(HW.out _ ((Below.refl _ _).alloc (Nat.le_refl _) _)).mono ?_
  rintro e w1 ⟨u,r,rfl,hr,hb1,hu⟩
  have HB1:Hid (Below w.heap.size w w1):=below_alloc hb1
  have HG:=block_below (heap_alloc_new w (.cells #[.int .i64 n.kind,.int .i64 n.tag,.int .i64 n.mode,.slice ka n.kids.length kc] 58)) hb1
  have q0:w1.cell? ⟨w.heap.size,0,none⟩=some (.int .i64 n.kind):=by simp[World.cell?,HG]
  have hs1:=lt_of_block HG
  clear HG hb1
  cases r
  ·have HX:Hid (¬(n.kind≤9∧∃u,ElemOk n t u)):=by
    rcases hr with⟨e,_⟩|⟨_,e⟩
    ·cases e
    ·rintro⟨_,u,q⟩
     rw[HE.out,e]at q
     cases q.1
   clear hr
   go_wp2
   go_ret
   exact reto_no HX.out HB1.out
  ·have HX:Hid (strip n.lays t=some u):=by
    rcases hr with⟨_,e⟩|⟨e,_⟩
    ·exact e
    ·cases e
   clear hr
   go_wp2_with fail
   refine(HF.out u _ hu HB1.out).mono ?_
   rintro e w2 ⟨r,rfl,hr,hb2⟩
   have HR:Hid (r=true↔(n.kind≤9∧∃u,ElemOk n t u)):=by
    refine hr.trans ⟨fun q=>⟨h9',u,(HE.out u).2 ⟨HX.out,q⟩⟩,?_⟩
    rintro⟨_,v,q⟩
    rw[HE.out,HX.out]at q
    obtain⟨q1,q2⟩:=q
    injection q1 with q1
    rw[q1];exact q2
   have HB2:Hid (Below w.heap.size w w2):=HB1.out.trans (hb2.mono HB1.out.size)
   clear hr hb2
   go_wp2
   go_ret
   exact reto_iff HR.out HB2.out
theorem defaultsFit_any(s:List Nd)(a:Option Addr)(c:Nat)(n:Nd)(ka:Option Addr)(kc:Nat)(w:World)(sn:Sn→Addr)(hl:Lay w sn)(hs:Sch w a s)(hka:KidsIn w ka n.kids)(hk8:n.kids.length≤8)(hw:∀j,j<n.kids.length→∃t:Nat,(kd n j).node=t∧t<s.length)
 (hT:∀i,i<s.length→Tagged (nd s i))(hkd:Kinds s)(hn:s.length≤40)(hd:∀j,j<n.kids.length→(kd n j).dflt.size≤140737488351232):
 Calls Tryz.prog 62 #[.slice a s.length c,.agg #[.int .i64 n.kind,.int .i64 n.tag,.int .i64 n.mode,.slice ka n.kids.length kc]] w fun e w'=>RetO (DfltOk s n n.kids.length) w e w':=by
 have HKI:Hid (KidsIn w ka n.kids):=hka
 have HKR:Hid (∀j,j<n.kids.length→∃t:Nat,(kd n j).node=t∧t<s.length):=hw
 have HS:Hid (Sch w a s):=hs
 have HD:Hid (∀j,j<n.kids.length→(kd n j).dflt.size≤140737488351232):=hd
 have HIE:Hid (∀(i:Nat) (ka:Option Addr) (kc:Nat) (t:ByteArray) (wq:World),i<s.length→t.size≤140737488351232→Below w.heap.size w wq→Calls Tryz.prog 95 #[.agg #[.int .i64 (nd s i).kind,.int .i64 (nd s i).tag,.int .i64 (nd s i).mode,.slice ka (nd s i).kids.length kc],.string t] wq fun e w'=>RetO ((nd s i).kind≤9∧∃u,ElemOk (nd s i) t u) wq e w'):=
  fun i ka kc t wq hi ht q=>isElement_any (nd s i) ka kc t wq sn (hl.below q) (hT i hi) (hkd i hi).1 (by omega)
 clear hka hw hs hd hl hT hkd
 go_enter Tryz.func62,Tryz.ntmps62
 go_wp2
 have HB0:Hid (Below w.heap.size w (w.alloc (.cells #[.int .i64 n.kind,.int .i64 n.tag,.int .i64 n.mode,.slice ka n.kids.length kc] 58))):=(Below.refl _ _).alloc (Nat.le_refl _) _
 go_loopw [10] (fun vi wr=>∃i:Nat,i≤n.kids.length∧vi= .int .i64 i∧DfltOk s n i∧Below w.heap.size w wr) (fun vi _=>n.kids.length-(intOf vi).toNat)
 case atStart=>exact⟨0,Nat.zero_le _,rfl,fun _ h=>absurd h (Nat.not_lt_zero _),HB0.out⟩
 case round=>
  obtain⟨i,hi,rfl,hall,hbr⟩:=hrel
  have HA:Hid (DfltOk s n i):=hall
  have HB:Hid (Below w.heap.size w wr):=hbr
  clear hall hbr
  by_cases hlt:i<n.kids.length
  ·have hlt':(i:Int)<n.kids.length:=by omega
   obtain⟨kb,ko,rfl,kcl⟩:=HKI.out i hlt
   obtain⟨ty,yo,yd,hy,hty⟩:=kid_at HKR.out hlt
   have HY:Hid (kd n i=⟨ty,yo,yd⟩):=hy
   have hkcl:KidCells w kb (ko+i*3) ⟨ty,yo,yd⟩:=by rw[←hy];exact kcl
   have hds:yd.size≤140737488351232:=by have:=HD.out i hlt;rw[hy]at this;exact this
   obtain⟨k1,k2,k3⟩:=hkcl.below HB.out
   simp only at k1 k2 k3
   have HB2:Hid (Below w.heap.size w (wr.alloc (.cells #[.int .i64 ty,.bool yo,.string yd] 55))):=HB.out.alloc HB.out.size _
   obtain⟨b,o,ka2,kc2,rfl,nc,_⟩:=HS.out ty hty
   have X0:∀x:Ext (wr.alloc (.cells #[.int .i64 ty,.bool yo,.string yd] 55)),x.v.cell? ⟨wr.heap.size,0,none⟩=some (.int .i64 ty):=fun x=>x.new rfl
   have X2:∀x:Ext (wr.alloc (.cells #[.int .i64 ty,.bool yo,.string yd] 55)),x.v.cell? ⟨wr.heap.size,2,none⟩=some (.string yd):=fun x=>x.new rfl
   have X3:∀x:Ext (wr.alloc (.cells #[.int .i64 ty,.bool yo,.string yd] 55)),x.v.cell? ⟨b,o+ty*4,none⟩=some (.int .i64 (nd s ty).kind):=fun x=>Ext.far HB2.out x nc.kind
   have X4:∀x:Ext (wr.alloc (.cells #[.int .i64 ty,.bool yo,.string yd] 55)),x.v.cell? ⟨b,o+ty*4+1,none⟩=some (.int .i64 (nd s ty).tag):=fun x=>Ext.far HB2.out x nc.tag
   have X5:∀x:Ext (wr.alloc (.cells #[.int .i64 ty,.bool yo,.string yd] 55)),x.v.cell? ⟨b,o+ty*4+2,none⟩=some (.int .i64 (nd s ty).mode):=fun x=>Ext.far HB2.out x nc.mode
   have X6:∀x:Ext (wr.alloc (.cells #[.int .i64 ty,.bool yo,.string yd] 55)),x.v.cell? ⟨b,o+ty*4+3,none⟩=some (.slice ka2 (nd s ty).kids.length kc2):=fun x=>Ext.far HB2.out x nc.kids
   obtain⟨r,hr⟩:=bool_of ((nd s ty).kind≤9∧∃u,ElemOk (nd s ty) yd u)
   have HR:Hid (r=true↔((nd s ty).kind≤9∧∃u,ElemOk (nd s ty) yd u)):=hr
   have HM:Hid (∀x:Ext (wr.alloc (.cells #[.int .i64 ty,.bool yo,.string yd] 55)),Calls Tryz.prog 95 #[.agg #[.int .i64 (nd s ty).kind,.int .i64 (nd s ty).tag,.int .i64 (nd s ty).mode,.slice ka2 (nd s ty).kids.length kc2],.string yd] x.v fun e w''=>e= .returned (.bool r)∧∃y:Ext (wr.alloc (.cells #[.int .i64 ty,.bool yo,.string yd] 55)),w''=y.v):=fun x=>Ext.callsR hr (HIE.out ty ka2 kc2 yd x.v hty hds (Ext.bel HB2.out x))
   have hty':(ty:Int)<s.length:=by omega
   have STEP:Hid (yd.size=0∨((nd s ty).kind≤9∧∃u,ElemOk (nd s ty) yd u)→DfltOk s n (i+1)):=fun h j hj=>by
    by_cases e:j=i
    ·subst e;rw[HY.out];simpa using h
    ·exact HA.out j (by omega)
   have BADD:Hid (0<yd.size→¬((nd s ty).kind≤9∧∃u,ElemOk (nd s ty) yd u)→¬DfltOk s n n.kids.length):=fun h1 h2 q=>by
    have:=q i hlt
    rw[HY.out]at this
    simp only[Int.toNat_natCast]at this
    rcases this with h|h
    ·omega
    ·exact h2 h
   clear hy kcl hkcl nc hr
   by_cases hz:yd.size=0
   ·have e0:=emp_t hz
    have HZ:Hid (yd.size=0):=hz
    clear hz
    go_wp2_with fail
    (have ne:=ext_ne;refine wp_region_ext (by kernel_rfl) (by kernel_rfl) ?_;(repeat(first|go_big_quiet_skip|(go_big_quiet_want;go_big_quiet_op;first|go_big_quiet_on|(apply Exists.intro;refine⟨fun x=>?_,?_⟩;(·(exact HM.out x));go_big_quiet_on))));refine nil_ext ?_)
    intro w5 hb5
    have HB5:Hid (Below w.heap.size w w5):=HB2.out.trans (hb5.mono HB2.out.size)
    clear X0 X2 X3 X4 X5 X6 hb5 HM
    go_wp2
    go_roundw
    case rel=>exact⟨i+1,by omega,by go_num,STEP.out (.inl HZ.out),HB5.out⟩
    case measure=>simp[intOf];omega
   ·have e0:=emp_f (t:=yd) (by omega)
    have HZ:Hid (0<yd.size):=by show 0<yd.size;omega
    clear hz
    go_wp2_with fail
    (have ne:=ext_ne;refine wp_region_ext (by kernel_rfl) (by kernel_rfl) ?_;(repeat(first|go_big_quiet_skip|(go_big_quiet_want;go_big_quiet_op;first|go_big_quiet_on|(apply Exists.intro;refine⟨fun x=>?_,?_⟩;(·(exact HM.out x));go_big_quiet_on))));refine nil_ext ?_)
    intro w5 hb5
    have HB5:Hid (Below w.heap.size w w5):=HB2.out.trans (hb5.mono HB2.out.size)
    clear X0 X2 X3 X4 X5 X6 hb5 HM
    cases r
    ·go_wp2
     go_ret
     exact reto_no (BADD.out HZ.out (fun q=>Bool.noConfusion (HR.out.2 q))) HB5.out
    ·go_wp2
     go_roundw
     case rel=>exact⟨i+1,by omega,by go_num,STEP.out (.inr (HR.out.1 rfl)),HB5.out⟩
     case measure=>simp[intOf];omega
  ·have hlt':(n.kids.length:Int)≤i:=by omega
   have HI:Hid (i=n.kids.length):=by show i=_;omega
   go_wp2
   go_ret
   exact reto_yes (HI.out▸HA.out) HB.out
def RetK(s:List Nd)(za:Addr)(w:World)(e:Ending)(w':World):Prop:=Below w.heap.size w w'∧((e= .returned .nilIface∧RightP s)∨((∃p:Int,e= .returned (fault p za))∧¬RightP s))
theorem kidsOf{s:List Nd}(h:∀i,i<s.length→Alone s.length (nd s i)){i:Nat}(hi:i<s.length):∀j,j<(nd s i).kids.length→∃t:Nat,(kd (nd s i) j).node=t∧t<s.length:=fun j hj=>by
 have q:=(h i hi).2.2.2 j hj
 have q1:=q.1
 have q2:=q.2.1
 exact⟨(kd (nd s i) j).node.toNat,by omega,by omega⟩
theorem taggedOf{s:List Nd}(h:∀i,i<s.length→Alone s.length (nd s i)):∀i,i<s.length→Tagged (nd s i):=fun i hi=>((tagged_iff _).1 ⟨(h i hi).1,(h i hi).2.1⟩).2.2
theorem dfltOf{s:List Nd}(h:SchOk s){i:Nat}(hi:i<s.length):∀j,j<(nd s i).kids.length→(kd (nd s i) j).dflt.size≤140737488351232:=fun j hj=>by
 refine h i hi _ ?_
 unfold kd
 rw[List.getD_eq_getElem?_getD,List.getElem?_eq_getElem hj]
 exact List.getElem_mem hj
theorem plain_iff{s:List Nd}(h:∀i,i<s.length→Alone s.length (nd s i))(hb:∀i,i<s.length→¬Back s i){i:Nat}(hi:i<s.length):
 PlainAt s (nd s i)↔((nd s i).kind=10∨(nd s i).kind=13→Told (Common s) (nd s i)):=by
 have hw:=within_of h
 have hlf:∀i,i<s.length→∃j,Leaf s i j:=fun i hi=>leaf_ex hw (fun i hi ho e=>by
  have h1:=(h i hi).2.2.1
  have h2:=ho.1
  unfold Count at h1
  rw[if_neg (by omega),if_neg (by omega),if_pos h2,e]at h1
  have:=h1.1
  simp at this) hb hi
 have ht:∀j,j<s.length→(nd s j).tag≤30:=fun j hj=>(taggedOf h j hj).2.1
 unfold PlainAt
 refine forall_congr' fun _=>(told_congr (m:=s.length) (fun j hj=>?_) fun i k h1 h2=>(common_iff ht hw h1 h2 (hlf i h1) (hlf k h2)).symm)
 obtain⟨t,e,q⟩:=kidsOf h hi j hj
 rw[e];simpa using q
theorem check_any(s:List Nd)(a:Option Addr)(c:Nat)(w:World)(sn:Sn→Addr)(za:Addr)(hl:Lay w sn)(hz:LayZ w sn za)(hs:Sch w a s)(hok:SchOk s)(hn0:s.length≤140737488351232):
 Calls Tryz.prog 35 #[.slice a s.length c] w fun e w'=>RetK s za w e w':=by
 have HS:Hid (Sch w a s):=hs
 have HOK:Hid (SchOk s):=hok
 have HL:Hid (Lay w sn):=hl
 have HZ:Hid (∀wq,Below w.heap.size w wq→wq.cell? ⟨12,0,none⟩=some (.iface 291 (.pointer (some za)))):=fun wq q=>(hz.below q).c
 have HAT:Hid (∀(p:Int) (wq:World),Calls Tryz.prog 60 #[.int .i64 p,.iface 291 (.pointer (some za))] wq fun e w'=>e= .returned (fault p za)∧w'=wq):=fun p wq=>at_any p za wq
 have NO:Hid (∀(p:Int) (wq:World),¬RightP s→Below w.heap.size w wq→RetK s za w (.returned (fault p za)) wq):=fun p wq h q=>⟨q,.inr ⟨⟨p,rfl⟩,h⟩⟩
 have z0:=HZ.out w (Below.refl _ _)
 clear hs hok hl hz
 by_cases hb:s.length<1
 ·have hb':(s.length:Int)<1:=by omega
  have HX:Hid (¬RightP s):=fun h=>by have:=h.1;omega
  clear hb
  go_enter Tryz.func35,Tryz.ntmps35
  go_wp2_with fail
  refine(HAT.out _ _).mono ?_
  rintro e w1 ⟨rfl,rfl⟩
  unfold fault
  go_wp2
  go_ret
  exact NO.out _ _ HX.out (Below.refl _ _)
 by_cases hb2:40<s.length
 ·have hb':(40:Int)<s.length:=by omega
  have hb1':(1:Int)≤s.length:=by omega
  have HX:Hid (¬RightP s):=fun h=>by have:=h.2.1;omega
  clear hb hb2
  go_enter Tryz.func35,Tryz.ntmps35
  go_wp2_with fail
  refine(HAT.out _ _).mono ?_
  rintro e w1 ⟨rfl,rfl⟩
  unfold fault
  go_wp2
  go_ret
  exact NO.out _ _ HX.out (Below.refl _ _)
 have h1:1≤s.length:=by omega
 have h40:s.length≤40:=by omega
 have h1':(1:Int)≤s.length:=by omega
 have h40':(s.length:Int)≤40:=by omega
 clear hb hb2 hn0 z0
 go_enter Tryz.func35,Tryz.ntmps35
 go_wp2
 go_loopw [22] (fun vi wr=>∃i:Nat,i≤s.length∧vi= .int .i64 i∧(∀j,j<i→Alone s.length (nd s j))∧Below w.heap.size w wr) (fun vi _=>s.length-(intOf vi).toNat)
 case atStart=>exact⟨0,Nat.zero_le _,rfl,fun _ h=>absurd h (Nat.not_lt_zero _),Below.refl _ _⟩
 case round=>
  obtain⟨i,hi,rfl,hall,hbr⟩:=hrel
  have HA:Hid (∀j,j<i→Alone s.length (nd s j)):=hall
  have HB:Hid (Below w.heap.size w wr):=hbr
  clear hall hbr
  by_cases hlt:i<s.length
  ·have hlt':(i:Int)<s.length:=by omega
   obtain⟨b,o,ka,kc,rfl,nc,kl,km,ks⟩:=HS.out i hlt
   obtain⟨n1,n2,n3,n4⟩:=nc.below HB.out
   have HB2:Hid (Below w.heap.size w (wr.alloc (.cells #[.int .i64 (nd s i).kind,.int .i64 (nd s i).tag,.int .i64 (nd s i).mode,.slice ka (nd s i).kids.length kc] 58))):=HB.out.alloc HB.out.size _
   have HC:Hid (∀wq,Below w.heap.size w wq→Calls Tryz.prog 61 #[.agg #[.int .i64 (nd s i).kind,.int .i64 (nd s i).tag,.int .i64 (nd s i).mode,.slice ka (nd s i).kids.length kc],.int .i64 s.length] wq fun e w'=>RetO (Alone s.length (nd s i)) wq e w'):=fun wq q=>isShaped_any s.length (nd s i) ka kc wq (ks.below q) (by omega)
   clear ks nc
   go_wp2_with fail
   refine(HC.out _ HB2.out).mono ?_
   rintro e w1 ⟨r,rfl,hr,hb1⟩
   have HR:Hid (r=true↔Alone s.length (nd s i)):=hr
   have HB1:Hid (Below w.heap.size w w1):=HB2.out.trans (hb1.mono HB2.out.size)
   have z1:=HZ.out w1 HB1.out
   clear hr hb1 n1 n2 n3 n4 HC
   cases r
   ·have HX:Hid (¬RightP s):=fun h=>Bool.noConfusion (HR.out.2 (h.2.2.1 i hlt))
    go_wp2_with fail
    refine(HAT.out _ _).mono ?_
    rintro e w2 ⟨rfl,rfl⟩
    unfold fault
    go_wp2
    go_ret
    exact NO.out _ _ HX.out HB1.out
   ·go_wp2
    go_roundw
    case rel=>exact⟨i+1,by omega,by go_num,fun j hj=>by
     by_cases e:j=i
     ·subst e;exact HR.out.1 trivial
     ·exact HA.out j (by omega),HB1.out⟩
    case measure=>simp[intOf];omega
  ·have hlt':(s.length:Int)≤i:=by omega
   obtain rfl:i=s.length:=by omega
   go_wp2
   go_loopw [38] (fun vi wr=>∃i:Nat,i≤s.length∧vi= .int .i64 i∧(∀j,j<i→DfltOk s (nd s j) (nd s j).kids.length∧¬Back s j)∧Below w.heap.size w wr) (fun vi _=>s.length-(intOf vi).toNat)
   case atStart=>exact⟨0,Nat.zero_le _,rfl,fun _ h=>absurd h (Nat.not_lt_zero _),HB.out⟩
   case round=>
    obtain⟨i,hi,rfl,hall,hbr⟩:=hrel
    have HBK:Hid (∀j,j<i→DfltOk s (nd s j) (nd s j).kids.length∧¬Back s j):=hall
    have HB2:Hid (Below w.heap.size w wr):=hbr
    clear hall hbr
    by_cases hlt:i<s.length
    ·have hlt':(i:Int)<s.length:=by omega
     obtain⟨b,o,ka,kc,rfl,nc,kl,km,ks⟩:=HS.out i hlt
     obtain⟨n1,n2,n3,n4⟩:=nc.below HB2.out
     have HB3:Hid (Below w.heap.size w (wr.alloc (.cells #[.int .i64 (nd s i).kind,.int .i64 (nd s i).tag,.int .i64 (nd s i).mode,.slice ka (nd s i).kids.length kc] 58))):=HB2.out.alloc HB2.out.size _
     have HD:Hid (∀wq,Below w.heap.size w wq→Calls Tryz.prog 62 #[.slice (some ⟨b,o,none⟩) s.length c,.agg #[.int .i64 (nd s i).kind,.int .i64 (nd s i).tag,.int .i64 (nd s i).mode,.slice ka (nd s i).kids.length kc]] wq fun e w'=>RetO (DfltOk s (nd s i) (nd s i).kids.length) wq e w'):=fun wq q=>defaultsFit_any s _ c (nd s i) ka kc wq sn (HL.out.below q) (HS.out.below q) (ks.below q) (count8 HA.out hlt) (kidsOf HA.out hlt) (taggedOf HA.out) (kinds_of HA.out) h40 (dfltOf HOK.out hlt)
     have HC:Hid (∀wq,Below w.heap.size w wq→Calls Tryz.prog 63 #[.slice (some ⟨b,o,none⟩) s.length c,.int .i64 i] wq fun e w'=>RetO (Back s i) wq e w'):=fun wq q=>comesBack_any s _ c i wq (HS.out.below q) (within_of HA.out) (fun j hj=>(taggedOf HA.out j hj).1) hlt h40
     clear ks nc
     go_wp2_with fail
     refine(HD.out _ HB3.out).mono ?_
     rintro e w1 ⟨r,rfl,hr,hb1⟩
     have HR:Hid (r=true↔DfltOk s (nd s i) (nd s i).kids.length):=hr
     have HB1:Hid (Below w.heap.size w w1):=HB3.out.trans (hb1.mono HB3.out.size)
     have z1:=HZ.out w1 HB1.out
     clear hr hb1 n1 n2 n3 n4 HD
     cases r
     ·have HX:Hid (¬RightP s):=fun h=>Bool.noConfusion (HR.out.2 (h.2.2.2.2 i hlt).2)
      go_wp2_with fail
      refine(HAT.out _ _).mono ?_
      rintro e w2 ⟨rfl,rfl⟩
      unfold fault
      go_wp2
      go_ret
      exact NO.out _ _ HX.out HB1.out
     ·have HDF:Hid (DfltOk s (nd s i) (nd s i).kids.length):=HR.out.1 rfl
      go_wp2_with fail
      refine(HC.out _ HB1.out).mono ?_
      rintro e w2 ⟨r,rfl,hr,hb2⟩
      have HR2:Hid (r=true↔Back s i):=hr
      have HB4:Hid (Below w.heap.size w w2):=HB1.out.trans (hb2.mono HB1.out.size)
      have z2:=HZ.out w2 HB4.out
      clear hr hb2 HC
      cases r
      ·go_wp2
       go_roundw
       case rel=>exact⟨i+1,by omega,by go_num,fun j hj=>by
        by_cases e:j=i
        ·subst e;exact⟨HDF.out,fun q=>Bool.noConfusion (HR2.out.2 q)⟩
        ·exact HBK.out j (by omega),HB4.out⟩
       case measure=>simp[intOf];omega
      ·have HX:Hid (¬RightP s):=fun h=>h.2.2.2.1 i hlt (HR2.out.1 rfl)
       go_wp2_with fail
       refine(HAT.out _ _).mono ?_
       rintro e w3 ⟨rfl,rfl⟩
       unfold fault
       go_wp2
       go_ret
       exact NO.out _ _ HX.out HB4.out
    ·have hlt':(s.length:Int)≤i:=by omega
     obtain rfl:i=s.length:=by omega
     have HC:Hid (Calls Tryz.prog 64 #[.slice a s.length c] wr fun e w'=>e= .returned (.slice (some ⟨wr.heap.size,0,none⟩) s.length s.length)∧AbW s wr w' s.length):=allBeginnings_any s a c wr (HS.out.below HB2.out) (within_of HA.out) (fun j hj=>(taggedOf HA.out j hj).1) (kinds_of HA.out) (HL.out.below HB2.out).n h40
     go_wp2_with fail
     refine HC.out.mono ?_
     rintro e w1 ⟨rfl,hab⟩
     obtain⟨gb,hgb⟩:∃gb,gb=wr.heap.size:=⟨_,rfl⟩
     have HAB:Hid (AbR w1 gb s):=by rw[hgb];exact hab.read
     have HB3:Hid (Below w.heap.size w w1):=HB2.out.trans (hab.bel.mono HB2.out.size)
     rw[←hgb]
     clear hab hgb HC
     go_wp2
     go_loopw [60] (fun vi wr=>∃i:Nat,i≤s.length∧vi= .int .i64 i∧(∀j,j<i→PlainAt s (nd s j))∧Below w1.heap.size w1 wr) (fun vi _=>s.length-(intOf vi).toNat)
     case atStart=>exact⟨0,Nat.zero_le _,rfl,fun _ h=>absurd h (Nat.not_lt_zero _),Below.refl _ _⟩
     case round=>
      obtain⟨i,hi,rfl,hall,hbr⟩:=hrel
      have HPL:Hid (∀j,j<i→PlainAt s (nd s j)):=hall
      have HB4:Hid (Below w1.heap.size w1 wr):=hbr
      have HB5:Hid (Below w.heap.size w wr):=HB3.out.trans (hbr.mono HB3.out.size)
      clear hall hbr
      by_cases hlt:i<s.length
      ·have hlt':(i:Int)<s.length:=by omega
       obtain⟨b,o,ka,kc,rfl,nc,kl,km,ks⟩:=HS.out i hlt
       obtain⟨n1,n2,n3,n4⟩:=nc.below HB5.out
       have HB6:Hid (Below w1.heap.size w1 (wr.alloc (.cells #[.int .i64 (nd s i).kind,.int .i64 (nd s i).tag,.int .i64 (nd s i).mode,.slice ka (nd s i).kids.length kc] 58))):=HB4.out.alloc HB4.out.size _
       have HP:Hid (∀wq,Below w1.heap.size w1 wq→Calls Tryz.prog 65 #[.agg #[.int .i64 (nd s i).kind,.int .i64 (nd s i).tag,.int .i64 (nd s i).mode,.slice ka (nd s i).kids.length kc],.slice (some ⟨gb,0,none⟩) s.length s.length] wq fun e w'=>RetO (PlainAt s (nd s i)) wq e w'):=fun wq q=>isPlain_any s (nd s i) ka kc gb wq (ks.below (HB3.out.trans (q.mono HB3.out.size))) kl (count8 HA.out hlt) (kidsOf HA.out hlt) (HAB.out.below q) h40
       clear ks nc
       go_wp2_with fail
       refine(HP.out _ HB6.out).mono ?_
       rintro e w2 ⟨r,rfl,hr,hb2⟩
       have HR:Hid (r=true↔PlainAt s (nd s i)):=hr
       have HB7:Hid (Below w1.heap.size w1 w2):=HB6.out.trans (hb2.mono HB6.out.size)
       have HB8:Hid (Below w.heap.size w w2):=HB3.out.trans (HB7.out.mono HB3.out.size)
       have z2:=HZ.out w2 HB8.out
       clear hr hb2 n1 n2 n3 n4 HP
       cases r
       ·have HX:Hid (¬RightP s):=fun h=>Bool.noConfusion (HR.out.2 ((plain_iff HA.out (fun j hj=>(HBK.out j hj).2) hlt).2 (h.2.2.2.2 i hlt).1))
        go_wp2_with fail
        refine(HAT.out _ _).mono ?_
        rintro e w3 ⟨rfl,rfl⟩
        unfold fault
        go_wp2
        go_ret
        exact NO.out _ _ HX.out HB8.out
       ·go_wp2
        go_roundw
        case rel=>exact⟨i+1,by omega,by go_num,fun j hj=>by
         by_cases e:j=i
         ·subst e;exact HR.out.1 trivial
         ·exact HPL.out j (by omega),HB7.out⟩
        case measure=>simp[intOf];omega
      ·have hlt':(s.length:Int)≤i:=by omega
       obtain rfl:i=s.length:=by omega
       go_wp2
       go_ret
       exact⟨HB5.out,.inl ⟨rfl,h1,h40,HA.out,fun j hj=>(HBK.out j hj).2,fun j hj=>⟨(plain_iff HA.out (fun j hj=>(HBK.out j hj).2) hj).1 (HPL.out j hj),(HBK.out j hj).1⟩⟩⟩
theorem RightP.fine{s:List Nd}(h:RightP s):Fine s where
 within:=within_of h.2.2.1
 back:=h.2.2.2.1
 len:=h.2.1
 tagged:=fun i hi hk ht hm=>by have:=(h.2.2.1 i hi).2.1;unfold Bad2 at this;omega
 one:=fun i hi hk=>by
  have:=(h.2.2.1 i hi).2.2.1
  unfold Count at this
  rw[if_neg (by omega),if_pos hk]at this
  exact this
 eight:=fun i hi=>by
  have:=(h.2.2.1 i hi).2.2.1
  unfold Count at this
  repeat' split at this
  all_goals omega
theorem cell_of_row{w:World}{k:Nat}{A:Array Value}{T:TypeId}(h:w.heap[k]? =some (.cells A T (0,0))){i:Nat}{u:Value}(hi:A[i]? =some u):w.cell? ⟨k,i,none⟩=some u:=by
 simp[World.cell?,h,hi]
theorem drop_kid{n:Nd}{j:Nat}(h:j<n.kids.length):n.kids.drop j=kd n j::n.kids.drop (j+1):=by
 rw[List.drop_eq_getElem_cons h]
 congr 1
 unfold kd
 rw[List.getD_eq_getElem?_getD,List.getElem?_eq_getElem h];rfl
theorem hide{p:Prop}(h:p):Hid p:=h
theorem elem_one{N:Nd}{t u u':ByteArray}(h:ElemOk N t u)(h':ElemOk N t u'):u=u':=by
 unfold ElemOk NodeAt at h h'
 obtain⟨_,_,_,h⟩:=h
 obtain⟨_,_,_,h'⟩:=h'
 rcases h with⟨a1,_,_,_,a2,_⟩|⟨a1,b1,_,_,_,a2,_⟩|⟨a1,b1,_,_,_,t1,e1,_,_,_,_,_,a2,_⟩ <;>rcases h' with⟨c1,_,_,_,c2,_⟩|⟨c1,d1,_,_,_,c2,_⟩|⟨c1,d1,_,_,_,t2,e2,_,_,_,_,_,c2,_⟩
 all_goals first|(rw[a2,c2];done)|(exfalso;omega)|(subst e1 e2;rw[a2,c2])
theorem frozen_row{w:World}{k:Nat}{A:Array Value}{T:TypeId}(h:w.heap[k]? =some (.cells A T (0,0))){i:Nat}:w.frozen? ⟨k,i,none⟩=false:=by simp[World.frozen?,h]
def snOf(k:Int):Sn:=if k=3 then .End else if k=4 then .Tag else if k=5 then .Length else if k=6 then .Value else if k=7 then .More else if k=8 then .Order else if k=9 then .Default else .Deep
theorem hd_c345(t:ByteArray):(hd t).1=0∨(hd t).1=3∨(hd t).1=4∨(hd t).1=5:=by
 unfold hd
 repeat' split
 all_goals simp
 unfold rl
 repeat' split
 all_goals simp
theorem errAt_of{t:ByteArray}(x:Int)(sn:Sn→Addr)(h:(hd t).1≠0):errAt x sn (hd t).1=fault x (sn (snOf (hd t).1)):=by
 rcases hd_c345 t with e|e|e|e
 ·exact absurd e h
 ·rw[e];rfl
 ·rw[e];rfl
 ·rw[e];rfl
theorem tagged_of{s:List Nd}(h:RightP s){i:Nat}(hi:i<s.length):1≤(nd s i).kind∧(nd s i).kind≤14∧Tagged (nd s i):=(tagged_iff _).1 ⟨(h.2.2.1 i hi).1,(h.2.2.1 i hi).2.1⟩
theorem default_any(s:List Nd)(a:Option Addr)(c t:Nat)(ko:Bool)(yd u:ByteArray)(w:World)(sn:Sn→Addr)(hl:Lay w sn)(hs:Sch w a s)(hr:RightP s)(ht:t<s.length)(hk9:(nd s t).kind≤9)(hu:ElemOk (nd s t) yd u)(hz:yd.size≤140737488355328):
 Calls Tryz.prog 202 #[.slice a s.length c,.agg #[.int .i64 t,.bool ko,.string yd]] w fun e w'=>e= .returned (.agg #[.int .i64 (nd s t).kind,.string u,.int .i64 0,.int .i64 0])∧Below w.heap.size w w':=by
 obtain⟨hk1,_,hT1,hT2,hT3,hT4,hT5⟩:=tagged_of hr ht
 obtain⟨b,o,ka,kc,rfl,ncl,_⟩:=hs t ht
 obtain⟨N,hN⟩:∃N,nd s t=N:=⟨_,rfl⟩
 rw[hN]at ncl hk1 hk9 hT3 hT4 hT5 hu hT1 hT2 ⊢
 have hmode:N.mode=0∨N.mode=1:=by omega
 have htm:N.tag<0→N.mode=0:=fun q=>hT3 (by omega)
 have hst:strip N.lays yd=some u:=((elem_iff htm hmode).1 hu).1
 have HW:Hid (∀wq,Below w.heap.size w wq→Calls Tryz.prog 137 #[.agg #[.int .i64 N.kind,.int .i64 N.tag,.int .i64 N.mode,.slice ka N.kids.length kc],.string yd] wq fun e w'=>∃r,e= .returned (.tuple #[.string u,.bool r])∧Below wq.heap.size wq w'):=fun wq q=>
  (within_any N ka kc yd wq sn (hl.below q).s (hl.below q).n (by omega) (by omega) hk9 (by omega) hz).mono fun e w' ⟨u',r,he,hc,hb,_⟩=>by
    rcases hc with⟨_,hc⟩|⟨_,hc⟩
    ·rw[hst]at hc;injection hc with hc;subst hc;exact⟨r,he,hb⟩
    ·rw[hst]at hc;cases hc
 obtain⟨n0,n1,n2,n3⟩:=ncl
 have hbl:b<w.heap.size:=lt_of_cell n0
 have ht':(t:Int)<s.length:=by omega
 have HA:Hid (∀A B C,Below w.heap.size w (((w.alloc A).alloc B).alloc C)):=fun A B C=>(((Below.refl w.heap.size w).alloc (Nat.le_refl _) A).alloc (by simp) B).alloc (by simp;omega) C
 clear hl hs hr hu hst hN hT1 hT2 hT3 hT4 hT5 htm hmode hk1 hk9 hz ht
 go_enter Tryz.func202,Tryz.ntmps202
 go_wp2_with fail
 refine(HW.out _ (HA.out _ _ _)).mono ?_
 rintro e w1 ⟨r,rfl,hb1⟩
 have HB1:Hid (Below w.heap.size w w1):=(HA.out _ _ _).trans (hb1.mono (HA.out _ _ _).size)
 have hZ:w1.heap[w.heap.size+1]? =some (.cells #[.int .i64 0,.string ⟨#[]⟩,.int .i64 0,.int .i64 0] 60 (0,0)):=block_below (block_below (by simpa using heap_alloc_new (w.alloc _) _) ((Below.refl _ _).alloc (Nat.le_refl _) _)) hb1
 have hK:w1.heap[w.heap.size+1+1]? =some (.cells #[.int .i64 N.kind,.int .i64 N.tag,.int .i64 N.mode,.slice ka N.kids.length kc] 58 (0,0)):=block_below (by simpa using heap_alloc_new ((w.alloc _).alloc _) _) hb1
 have z0:w1.cell? ⟨w.heap.size+1,0,none⟩=some (.int .i64 0):=cell_of_row hZ rfl
 have z1:w1.cell? ⟨w.heap.size+1,1,none⟩=some (.string ⟨#[]⟩):=cell_of_row hZ rfl
 have z2:w1.cell? ⟨w.heap.size+1,2,none⟩=some (.int .i64 0):=cell_of_row hZ rfl
 have z3:w1.cell? ⟨w.heap.size+1,3,none⟩=some (.int .i64 0):=cell_of_row hZ rfl
 have f0:w1.frozen? ⟨w.heap.size+1,0,none⟩=false:=frozen_row hZ
 have f1:w1.frozen? ⟨w.heap.size+1,1,none⟩=false:=frozen_row hZ
 have f2:w1.frozen? ⟨w.heap.size+1,2,none⟩=false:=frozen_row hZ
 have f3:w1.frozen? ⟨w.heap.size+1,3,none⟩=false:=frozen_row hZ
 have k0:w1.cell? ⟨w.heap.size+1+1,0,none⟩=some (.int .i64 N.kind):=cell_of_row hK rfl
 have hl1:w.heap.size+1+1<w1.heap.size:=lt_of_cell k0
 clear hb1 hZ hK n0 n1 n2 n3 hbl
 go_wp2_with fail
 refine bodyPost_ret (v:= .agg #[.int .i64 N.kind,.string u,.int .i64 0,.int .i64 0]) (by simp[results,Tryz.results202,go_sem,z0,z1,z2,z3]) rfl ⟨rfl,?_⟩
 exact(((HB1.out.setCell (p:=⟨w.heap.size+1,0,none⟩) (Nat.le_succ _) _).setCell (p:=⟨w.heap.size+1,1,none⟩) (Nat.le_succ _) _).setCell (p:=⟨w.heap.size+1,2,none⟩) (Nat.le_succ _) _).setCell (p:=⟨w.heap.size+1,3,none⟩) (Nat.le_succ _) _
theorem own_built(n:Nd)(ka:Option Addr)(kc:Nat)(w:World)(hn:Nums w)(ht: -1≤n.tag)(hk:10≤n.kind)(hk':n.kind≤12):
 Calls Tryz.prog 152 #[.agg #[.int .i64 n.kind,.int .i64 n.tag,.int .i64 n.mode,.slice ka n.kids.length kc]] w fun e w'=>e= .returned (fv n.ownT.1 n.ownT.2 true)∧Below w.heap.size w w':=by
 have HC:Hid (∀w',Nums w'→Calls Tryz.prog 140 #[.agg #[.int .i64 n.kind,.int .i64 n.tag,.int .i64 n.mode,.slice ka n.kids.length kc]] w' fun e w''=>e= .returned (.agg #[.int .i64 n.outer.1,.int .i64 n.outer.2])∧Below w'.heap.size w' w''):=fun w' q=>outerTag_any n ka kc w' q ht (by omega) (fun h=>by omega)
 have HW:Hid (∀w',Nums w'→Calls Tryz.prog 179 #[.int .i64 n.kind] w' fun e w''=>e= .returned (.agg #[.int .i64 0,.int .i64 (own n.kind)])∧Below w'.heap.size w' w''):=fun w' q=>ownTag_any n.kind (by omega) (by omega) w' q
 have HN:Hid (∀wq,Below w.heap.size w wq→Nums wq):=fun wq q=>hn.below q
 have hd10:decide (10≤n.kind)=true:=by simp;omega
 obtain⟨T1,T2,hT⟩:∃T1 T2,n.ownT=(T1,T2):=⟨_,_,rfl⟩
 have HT:Hid (n.ownT=(T1,T2)):=hT
 rw[hT]
 unfold fv
 clear hn hT
 go_enter Tryz.func152,Tryz.ntmps152
 go_wp2_with fail
 refine(HW.out _ (HN.out _ (((Below.refl _ _).alloc (Nat.le_refl _) _).alloc (by simp) _))).mono ?_
 rintro e w1 ⟨rfl,hb⟩
 have HB:Hid (Below w.heap.size w w1):=below_alloc (below_alloc hb)
 have HG:Hid (w1.heap[w.heap.size+1]? =some (.cells #[.int .i64 0,.int .i64 0,.bool false] 149 (0,0))):=block_below (by simpa using heap_alloc_new (w.alloc _) _) hb
 have HG0:Hid (w1.heap[w.heap.size]? =some (.cells #[.int .i64 n.kind,.int .i64 n.tag,.int .i64 n.mode,.slice ka n.kids.length kc] 58 (0,0))):=block_below (block_below (heap_alloc_new w _) ((Below.refl _ _).alloc (Nat.le_refl _) _)) hb
 have hs1:w.heap.size+1<w1.heap.size:=by have:=hb.size;simp at this;omega
 have hs0:w.heap.size<w1.heap.size:=by omega
 have p0:w1.cell? ⟨w.heap.size,0,none⟩=some (.int .i64 n.kind):=by simp[World.cell?,HG0.out]
 have p1:w1.cell? ⟨w.heap.size,1,none⟩=some (.int .i64 n.tag):=by simp[World.cell?,HG0.out]
 have p2:w1.cell? ⟨w.heap.size,2,none⟩=some (.int .i64 n.mode):=by simp[World.cell?,HG0.out]
 have p3:w1.cell? ⟨w.heap.size,3,none⟩=some (.slice ka n.kids.length kc):=by simp[World.cell?,HG0.out]
 have q0:w1.cell? ⟨w.heap.size+1,0,none⟩=some (.int .i64 0):=by simp[World.cell?,HG.out]
 have q1:w1.cell? ⟨w.heap.size+1,1,none⟩=some (.int .i64 0):=by simp[World.cell?,HG.out]
 have q2:w1.cell? ⟨w.heap.size+1,2,none⟩=some (.bool false):=by simp[World.cell?,HG.out]
 have f0:w1.frozen? ⟨w.heap.size+1,0,none⟩=false:=by simp[World.frozen?,HG.out]
 have f1:w1.frozen? ⟨w.heap.size+1,1,none⟩=false:=by simp[World.frozen?,HG.out]
 have f2:w1.frozen? ⟨w.heap.size+1,2,none⟩=false:=by simp[World.frozen?,HG.out]
 clear hb
 by_cases hm:n.mode=0
 ·have e0:(n.mode==0)=true:=by simp[hm]
  have HE:Hid (n.ownT=n.outer):=by
   show n.ownT=n.outer
   unfold Nd.ownT Nd.outer
   by_cases q:0≤n.tag
   ·rw[if_pos ⟨hm,q⟩,if_pos q]
   ·rw[if_neg (fun r=>q r.2),if_neg q]
  obtain⟨rfl,rfl⟩:T1=n.outer.1∧T2=n.outer.2:=by rw[←HE.out,HT.out];exact⟨rfl,rfl⟩
  clear hm
  go_wp2_with fail
  refine(HC.out _ (HN.out _ (HB.out.alloc HB.out.size _))).mono ?_
  rintro e w2 ⟨rfl,hb2⟩
  have HB2:Hid (Below w.heap.size w w2):=HB.out.trans ((below_alloc hb2).mono HB.out.size)
  have hA:w2.heap[w1.heap.size]? =some (.cells #[.int .i64 0,.int .i64 (own n.kind)] 147 (0,0)):=block_below (heap_alloc_new w1 _) hb2
  have hG2:=block_below HG.out (below_alloc hb2)
  have hG02:=block_below HG0.out (below_alloc hb2)
  have hs2:w1.heap.size<w2.heap.size:=by have:=hb2.size;simp at this;omega
  have t0:w2.cell? ⟨w1.heap.size,0,none⟩=some (.int .i64 0):=by simp[World.cell?,hA]
  have t1:w2.cell? ⟨w1.heap.size,1,none⟩=some (.int .i64 (own n.kind)):=by simp[World.cell?,hA]
  have t2:w2.frozen? ⟨w1.heap.size,0,none⟩=false:=by simp[World.frozen?,hA]
  have t3:w2.frozen? ⟨w1.heap.size,1,none⟩=false:=by simp[World.frozen?,hA]
  have r0:w2.cell? ⟨w.heap.size+1,0,none⟩=some (.int .i64 0):=by simp[World.cell?,hG2]
  have r1:w2.cell? ⟨w.heap.size+1,1,none⟩=some (.int .i64 0):=by simp[World.cell?,hG2]
  have r2:w2.cell? ⟨w.heap.size+1,2,none⟩=some (.bool false):=by simp[World.cell?,hG2]
  have g0:w2.frozen? ⟨w.heap.size+1,0,none⟩=false:=by simp[World.frozen?,hG2]
  have g1:w2.frozen? ⟨w.heap.size+1,1,none⟩=false:=by simp[World.frozen?,hG2]
  have g2:w2.frozen? ⟨w.heap.size+1,2,none⟩=false:=by simp[World.frozen?,hG2]
  have d0:w2.cell? ⟨w.heap.size,0,none⟩=some (.int .i64 n.kind):=by simp[World.cell?,hG02]
  have hne1:¬w1.heap.size=w.heap.size+1:=by omega
  have hne0:¬w1.heap.size=w.heap.size:=by omega
  have hne2:¬w.heap.size+1=w1.heap.size:=by omega
  have hne3:¬w.heap.size=w1.heap.size:=by omega
  clear hb2 hA hG2 hG02 p0 p1 p2 p3 q0 q1 q2 f0 f1 f2
  go_wp2
  refine bodyPost_ret (v:= .agg #[.int .i64 n.outer.1,.int .i64 n.outer.2,.bool true]) (by simp[results,Tryz.results152,go_sem,r0,r1,r2,t0,t1,hne1,hne2,hd10]) rfl ⟨rfl,?_⟩
  exact setCell3 ((HB2.out.setCell (p:=⟨w1.heap.size,0,none⟩) (by exact Nat.le_of_lt hs0) _).setCell (p:=⟨w1.heap.size,1,none⟩) (by exact Nat.le_of_lt hs0) _) _ (by simp) _ _ _
 ·have e0:(n.mode==0)=false:=by simp[hm]
  have HE:Hid (n.ownT=(0,own n.kind)):=by
   show n.ownT=(0,own n.kind)
   unfold Nd.ownT
   rw[if_neg (fun r=>hm r.1)]
  obtain⟨rfl,rfl⟩:T1=0∧T2=own n.kind:=by have:=HE.out;rw[HT.out]at this;injection this with a b;exact⟨a,b⟩
  clear hm
  go_wp2
  refine bodyPost_ret (v:= .agg #[.int .i64 0,.int .i64 (own n.kind),.bool true]) (by simp[results,Tryz.results152,go_sem,q0,q1,q2,hs1,hd10]) rfl ⟨rfl,?_⟩
  first
   |exact(setCell3 HB.out _ (by simp) _ _ _).alloc (setCell3 HB.out _ (by simp) _ _ _).size _
   |exact setCell3 (HB.out.alloc HB.out.size _) _ (by simp) _ _ _
theorem own_all(n:Nd)(ka:Option Addr)(kc:Nat)(w:World)(hn:Nums w)(ht: -1≤n.tag)(hk:0≤n.kind)(hk':n.kind≤12):
 Calls Tryz.prog 152 #[.agg #[.int .i64 n.kind,.int .i64 n.tag,.int .i64 n.mode,.slice ka n.kids.length kc]] w fun e w'=>e= .returned (fv n.ownT.1 n.ownT.2 (decide (10≤n.kind∧n.kind≤12)))∧Below w.heap.size w w':=by
 by_cases h:n.kind≤9
 ·rw[decide_eq_false (by omega)];exact own_first n ka kc w hn ht hk h
 ·rw[decide_eq_true (by omega)];exact own_built n ka kc w hn ht (by omega) hk'
def faultV(p:Int)(v:Value):Value:= .iface 155 (.agg #[.int .i64 p,v])
theorem at_all(p:Int)(tt:TypeId)(u:Value)(w:World):
 Calls Tryz.prog 60 #[.int .i64 p,.iface tt u] w fun e w'=>e= .returned (faultV p (.iface tt u))∧w'=w:=by
 unfold faultV
 go_enter Tryz.func60,Tryz.ntmps60
 go_wp2
 go_ret
 exact⟨rfl,rfl⟩
def RetRt(s:List Nd)(root:Int)(za:Addr)(w:World)(e:Ending)(w':World):Prop:=
 Below w.heap.size w w'∧((e= .returned .nilIface∧RightP s∧0≤root∧root<s.length)∨((∃p:Int,e= .returned (faultV 0 (fault p za)))∧¬RightP s)∨(e= .returned (fault 0 za)∧RightP s∧¬(0≤root∧root<s.length)))
theorem checkRoot_any(s:List Nd)(a:Option Addr)(c:Nat)(root:Int)(w:World)(sn:Sn→Addr)(za:Addr)(hl:Lay w sn)(hz:LayZ w sn za)(hs:Sch w a s)(hok:SchOk s)(hn0:s.length≤140737488351232):
 Calls Tryz.prog 74 #[.slice a s.length c,.int .i64 root] w fun e w'=>RetRt s root za w e w':=by
 have HC:Hid (Calls Tryz.prog 35 #[.slice a s.length c] w fun e w'=>RetK s za w e w'):=check_any s a c w sn za hl hz hs hok hn0
 have HZ:=hide hz
 have HAT:Hid (∀tt u wq,Calls Tryz.prog 60 #[.int .i64 0,.iface tt u] wq fun e w'=>e= .returned (faultV 0 (.iface tt u))∧w'=wq):=fun tt u wq=>at_all 0 tt u wq
 unfold faultV at HAT
 clear hl hz hs hok
 go_enter Tryz.func74,Tryz.ntmps74
 go_wp2_with fail
 refine HC.out.mono ?_
 rintro e w1 ⟨hb1,h1⟩
 have HB1:=hide hb1
 clear hb1
 rcases h1 with⟨rfl,hr⟩|⟨⟨p,rfl⟩,hr⟩
 ·have HR:=hide hr
  clear hr
  have cS:=(HZ.out.below HB1.out).c
  have hgl:=lt_of_cell cS
  simp only at hgl
  by_cases h0:root<0
  ·go_wp2_with fail
   refine(HAT.out _ _ _).mono ?_
   rintro e w2 ⟨rfl,rfl⟩
   go_wp2
   go_ret
   exact⟨HB1.out,.inr (.inr ⟨rfl,HR.out,by omega⟩)⟩
  ·have h0':0≤root:=by omega
   by_cases h2:root<s.length
   ·go_wp2
    go_ret
    exact⟨HB1.out,.inl ⟨rfl,HR.out,h0',h2⟩⟩
   ·have h2':(s.length:Int)≤root:=by omega
    go_wp2_with fail
    refine(HAT.out _ _ _).mono ?_
    rintro e w2 ⟨rfl,rfl⟩
    go_wp2
    go_ret
    exact⟨HB1.out,.inr (.inr ⟨rfl,HR.out,by omega⟩)⟩
 ·have HR:=hide hr
  clear hr
  unfold fault
  go_wp2_with fail
  refine(HAT.out _ _ _).mono ?_
  rintro e w2 ⟨rfl,rfl⟩
  go_wp2
  go_ret
  exact⟨HB1.out,.inr (.inl ⟨⟨p,rfl⟩,HR.out⟩)⟩
end Go.Proofs.YtkkicodfpekbgaaGreatDoor
namespace Go.Proofs.YtkkicodfpekbgaaGreatDoor
set_option linter.unusedSimpArgs false
set_option linter.unusedVariables false
set_option maxRecDepth 100000
set_option maxHeartbeats 8000000
theorem rch_shut2{s:List Nd}{i j:Nat}(ho:¬(nd s i).opn)(hr:Rch s i j):j=i:=
 Rch.ind (P:=fun j=>j=i) rfl (fun m k _ hop _ ih=>absurd (ih▸hop) ho) hr
def tgN(n:Nd):Int×Int:=if 0≤n.tag then(2,n.tag)else(0,own n.kind)
def bgL(s:List Nd)(i:Nat):List (Int×Int):=if(nd s i).opnB then(nd s i).kids.map (fun k=>tgN (nd s k.node.toNat))else [tgN (nd s i)]
def Flat(s:List Nd):Prop:=∀i,(nd s i).kind≠14∧((nd s i).opn→∀k∈(nd s i).kids,¬(nd s k.node.toNat).opn)
def flatB(s:List Nd):Bool:=s.all fun n=>decide (n.kind≠14)&&(!n.opnB||n.kids.all fun k=> !(nd s k.node.toNat).opnB)
theorem nd_or(s:List Nd)(i:Nat):nd s i∈s∨nd s i=nd0:=by
 unfold nd
 rw[List.getD_eq_getElem?_getD]
 by_cases h:i<s.length
 ·rw[List.getElem?_eq_getElem h];exact .inl (List.getElem_mem _)
 ·rw[List.getElem?_eq_none (by omega)];exact .inr rfl
theorem flat_of{s:List Nd}(h:flatB s=true):Flat s:=fun i=>by
 rcases nd_or s i with hm|e
 ·have:=List.all_eq_true.1 h _ hm
  rw[Bool.and_eq_true]at this
  refine⟨of_decide_eq_true this.1,fun ho k hk=>?_⟩
  have h2:=this.2
  rw[Nd.opnB_yes ho]at h2
  have h3:=List.all_eq_true.1 h2 k hk
  intro q
  rw[Nd.opnB_yes q]at h3
  cases h3
 ·rw[e]
  exact⟨by decide,fun ho=>absurd ho.1 (by decide)⟩
theorem begAt_tg{n:Nd}(h:n.kind≠14){c m:Int}:begAt n c m↔(c,m)=tgN n:=by
 unfold begAt tgN
 by_cases ht:0≤n.tag
 ·rw[if_pos ht]
  constructor
  ·rintro(⟨_,h1,h2⟩|⟨h1,_⟩|⟨h1,_⟩)
   ·rw[h1,h2]
   ·omega
   ·omega
  ·intro e
   injection e with e1 e2
   exact .inl ⟨ht,e1,e2⟩
 ·rw[if_neg ht]
  constructor
  ·rintro(⟨h1,_⟩|⟨_,h1⟩|⟨_,_,h1,h2⟩)
   ·omega
   ·exact absurd h1 h
   ·rw[h1,h2]
  ·intro e
   injection e with e1 e2
   exact .inr (.inr ⟨by omega,h,e1,e2⟩)
theorem beg_flat{s:List Nd}(hf:Flat s){i:Nat}{c m:Int}:Beg s i c m↔(c,m)∈bgL s i:=by
 unfold bgL
 by_cases ho:(nd s i).opn
 ·rw[if_pos (Nd.opnB_yes ho),List.mem_map]
  constructor
  ·rintro⟨j,⟨hr,hn⟩,hb⟩
   have hc:j=i∨∃k∈(nd s i).kids,j=k.node.toNat:=Rch.ind (P:=fun j=>j=i∨∃k∈(nd s i).kids,j=k.node.toNat) (.inl rfl) (fun m k _ hop hk ih=>by
    rcases ih with rfl|⟨k',hk',rfl⟩
    ·exact .inr ⟨k,hk,rfl⟩
    ·exact absurd hop ((hf i).2 ho k' hk')) hr
   rcases hc with rfl|⟨k,hk,rfl⟩
   ·exact absurd ho hn
   ·exact⟨k,hk,((begAt_tg (hf _).1).1 hb).symm⟩
  ·rintro⟨k,hk,e⟩
   exact⟨k.node.toNat,⟨Rch.refl.step ho hk,(hf i).2 ho k hk⟩,(begAt_tg (hf _).1).2 e.symm⟩
 ·rw[if_neg (by rw[Nd.opnB_no ho];decide),List.mem_singleton]
  constructor
  ·rintro⟨j,⟨hr,_⟩,hb⟩
   obtain rfl:=rch_shut2 ho hr
   exact(begAt_tg (hf _).1).1 hb
  ·intro e
   exact⟨i,⟨.refl,ho⟩,(begAt_tg (hf _).1).2 e⟩
def mustB(k:Kd):Bool:= !k.opt&&decide (k.dflt.size=0)
def kidB(len:Nat)(n:Nd)(k:Kd):Bool:=decide (0≤k.node)&&decide (k.node<len)&&(mustB k||decide (n.kind=10))&& !(k.opt&&decide (k.dflt.size≠0))
def countB(k:Int)(m:Nat):Bool:=if k=10 then decide (m≤8)else if k=11∨k=12 then decide (m=1)else if k=13 then decide (1≤m∧m≤8)else decide (m=0)
def aloneB(len:Nat)(n:Nd):Bool:=decide (1≤n.kind∧n.kind≤13∧ -1≤n.tag∧n.tag≤30∧(n.mode=0∨n.mode=1))&&decide (¬(n.mode=1∧n.tag= -1)∧¬(n.kind=13∧0≤n.tag∧n.mode=0))&&countB n.kind n.kids.length&&n.kids.all (kidB len n)
def stopB(n:Nd)(k:Kd):Bool:=decide (n.kind=10)&&mustB k
def toldB(s:List Nd)(n:Nd):Bool:=(List.range n.kids.length).all fun i=>stopB n (kd n i)||(List.range n.kids.length).all fun k=>decide (k≤i)||(List.range k).any (fun j=>decide (i<j)&&stopB n (kd n j))||(bgL s (kd n i).node.toNat).all fun b=> !(bgL s (kd n k).node.toNat).contains b
abbrev vdB:ByteArray:=⟨#[160,3,2,1,0]⟩
abbrev fdB:ByteArray:=⟨#[1,1,0]⟩
abbrev zeroB:ByteArray:=⟨#[0]⟩
def dflB(s:List Nd)(k:Kd):Bool:=decide (k.dflt.size=0)||(decide (k.dflt=vdB)&&decide ((nd s k.node.toNat).kind=2∧(nd s k.node.toNat).tag=0∧(nd s k.node.toNat).mode=1))||(decide (k.dflt=fdB)&&decide ((nd s k.node.toNat).kind=1∧(nd s k.node.toNat).tag= -1∧(nd s k.node.toNat).mode=0))
def rightB(s:List Nd):Bool:=decide (1≤s.length∧s.length≤40)&&flatB s&&s.all (aloneB s.length)&&s.all (fun n=>(n.kids.all fun k=> !n.opnB||decide ((nd s k.node.toNat).kind≠13))&&toldB s n&&n.kids.all (dflB s))
theorem mustB_iff(k:Kd):mustB k=true↔k.must:=by unfold mustB Kd.must;simp
theorem stopB_iff(n:Nd)(k:Kd):stopB n k=true↔n.stops k:=by unfold stopB Nd.stops;rw[Bool.and_eq_true,mustB_iff];simp
theorem elem_vd{n:Nd}(h1:n.kind=2)(h2:n.tag=0)(h3:n.mode=1):ElemOk n vdB zeroB:=by
 obtain⟨a,b,c,d⟩:=n
 simp only at h1 h2 h3
 subst h1 h2 h3
 exact(elem_iff (fun q=>absurd q (by show¬(0:Int)<0;decide)) (.inr rfl)).2 ⟨rfl,(contentOk_2 _).1 ⟨Nat.le_refl _,by decide,fun h=>absurd h (by decide)⟩⟩
theorem elem_fd{n:Nd}(h1:n.kind=1)(h2:n.tag= -1)(h3:n.mode=0):ElemOk n fdB zeroB:=by
 obtain⟨a,b,c,d⟩:=n
 simp only at h1 h2 h3
 subst h1 h2 h3
 exact(elem_iff (fun q=>rfl) (.inl rfl)).2 ⟨rfl,(contentOk_1 _).1 ⟨rfl,.inl rfl⟩⟩
theorem alone_of{len:Nat}{n:Nd}(h:aloneB len n=true):Alone len n:=by
 unfold aloneB at h
 simp only[Bool.and_eq_true,decide_eq_true_eq]at h
 obtain⟨⟨⟨h1,h2⟩,h3⟩,h4⟩:=h
 refine⟨by unfold Bad1;omega,by unfold Bad2;omega,?_,fun j hj=>?_⟩
 ·unfold countB at h3
  unfold Count
  repeat' split at h3
  all_goals simp only[decide_eq_true_eq]at h3
  ·rw[if_pos (by assumption)];exact h3
  ·rename_i a b;rw[if_neg a,if_pos b];exact h3
  ·rename_i a b c;rw[if_neg a,if_neg b,if_pos c];exact h3
  ·rename_i a b c;rw[if_neg a,if_neg b,if_neg c];exact h3
 ·have:=List.all_eq_true.1 h4 _ (kd_mem hj)
  unfold kidB at this
  simp only[Bool.and_eq_true,Bool.or_eq_true,decide_eq_true_eq,mustB_iff]at this
  refine⟨this.1.1.1,this.1.1.2,this.1.2,fun q=>?_⟩
  have h5:=this.2
  rw[q.1,decide_eq_true q.2]at h5
  cases h5
theorem right_of{s:List Nd}(h:rightB s=true):RightP s∧Flat s:=by
 unfold rightB at h
 simp only[Bool.and_eq_true,decide_eq_true_eq]at h
 obtain⟨⟨⟨hl,hf⟩,ha⟩,hk⟩:=h
 have hF:=flat_of hf
 have hmem:∀i,i<s.length→nd s i∈s:=fun i hi=>by
  unfold nd
  rw[List.getD_eq_getElem?_getD,List.getElem?_eq_getElem hi]
  exact List.getElem_mem _
 have hall:∀i,i<s.length→(∀k∈(nd s i).kids,(nd s i).opn→(nd s k.node.toNat).kind≠13)∧toldB s (nd s i)=true∧∀k∈(nd s i).kids,dflB s k=true:=fun i hi=>by
  have:=List.all_eq_true.1 hk _ (hmem i hi)
  simp only[Bool.and_eq_true]at this
  refine⟨fun k hk2 ho=>?_,this.1.2,List.all_eq_true.1 this.2⟩
  have h3:=List.all_eq_true.1 this.1.1 k hk2
  rw[Nd.opnB_yes ho]at h3
  exact of_decide_eq_true h3
 refine⟨⟨hl.1,hl.2,fun i hi=>alone_of (List.all_eq_true.1 ha _ (hmem i hi)),fun i hi=>?_,fun i hi=>⟨fun _ a haa=>?_,fun j hj=>?_⟩⟩,hF⟩
 ·rintro⟨j,hr,ho,k,hk2,e⟩
  have hij:j=i∨∃k∈(nd s i).kids,(nd s i).opn∧j=k.node.toNat:=Rch.ind (P:=fun j=>j=i∨∃k∈(nd s i).kids,(nd s i).opn∧j=k.node.toNat) (.inl rfl) (fun m k _ hop hk ih=>by
   rcases ih with rfl|⟨k',hk',ho',rfl⟩
   ·exact .inr ⟨k,hk,hop,rfl⟩
   ·exact absurd hop ((hF i).2 ho' k' hk')) hr
  rcases hij with rfl|⟨k',hk',ho',rfl⟩
  ·have:=(hall j hi).1 k hk2 ho
   rw[e,Int.toNat_natCast]at this
   exact this ho.1
  ·exact(hF i).2 ho' k' hk' ho
 ·have h1:=List.all_eq_true.1 (hall i hi).2.1 a (List.mem_range.2 haa)
  rw[Bool.or_eq_true,stopB_iff]at h1
  rcases h1 with h1|h1
  ·exact .inl h1
  refine .inr fun k hak hkm hns=>?_
  have h2:=List.all_eq_true.1 h1 k (List.mem_range.2 hkm)
  rw[Bool.or_eq_true,Bool.or_eq_true,decide_eq_true_eq]at h2
  rcases h2 with(h2|h2)|h2
  ·omega
  ·obtain⟨j,hj,h3⟩:=List.any_eq_true.1 h2
   rw[Bool.and_eq_true,decide_eq_true_eq,stopB_iff]at h3
   exact absurd h3.2 (hns j h3.1 (List.mem_range.1 hj))
  ·rintro⟨c,m,_,_,_,_,b1,b2⟩
   have b1':=(beg_flat hF).1 b1
   have b2':=(beg_flat hF).1 b2
   have h3:=List.all_eq_true.1 h2 _ b1'
   rw[Bool.not_eq_true',List.contains_eq_mem,decide_eq_false_iff_not]at h3
   exact h3 b2'
 ·have h1:=(hall i hi).2.2 _ (kd_mem hj)
  unfold dflB at h1
  simp only[Bool.or_eq_true,Bool.and_eq_true,decide_eq_true_eq]at h1
  rcases h1 with(h1|⟨h1,h2,h3,h4⟩)|⟨h1,h2,h3,h4⟩
  ·exact .inl h1
  ·exact .inr ⟨by omega,_,by rw[h1];exact elem_vd h2 h3 h4⟩
  ·exact .inr ⟨by omega,_,by rw[h1];exact elem_fd h2 h3 h4⟩
theorem schOk_of{s:List Nd}(h:(s.all fun n=>n.kids.all fun k=>decide (k.dflt.size≤140737488351232))=true):SchOk s:=fun i hi k hk=>by
 have hm:nd s i∈s:=by
  unfold nd
  rw[List.getD_eq_getElem?_getD,List.getElem?_eq_getElem hi]
  exact List.getElem_mem _
 have:=List.all_eq_true.1 (List.all_eq_true.1 h _ hm) k hk
 exact of_decide_eq_true this
def cS:List Nd:=[⟨10, -1,0,[⟨1,false,vdB⟩,⟨2,false,noB⟩,⟨3,false,noB⟩,⟨6,false,noB⟩,⟨8,false,noB⟩,⟨9,true,noB⟩]⟩,⟨2,0,1,[]⟩,⟨2, -1,0,[]⟩,⟨13, -1,0,[⟨4,false,noB⟩,⟨5,false,noB⟩]⟩,⟨8, -1,0,[]⟩,⟨7, -1,0,[]⟩,⟨10, -1,0,[⟨7,false,noB⟩,⟨7,false,noB⟩]⟩,⟨9, -1,0,[]⟩,⟨5, -1,0,[]⟩,
 ⟨11,3,1,[⟨10,false,noB⟩]⟩,⟨10, -1,0,[⟨11,false,noB⟩,⟨12,false,fdB⟩,⟨13,false,noB⟩]⟩,⟨4, -1,0,[]⟩,⟨1, -1,0,[]⟩,⟨6, -1,0,[]⟩]
def lS:List Nd:=[⟨10, -1,0,[⟨1,false,fdB⟩,⟨2,true,noB⟩]⟩,⟨1, -1,0,[]⟩,⟨2, -1,0,[]⟩]
theorem cS_right:RightP cS∧Flat cS:=right_of (by decide+kernel)
theorem lS_right:RightP lS∧Flat lS:=right_of (by decide+kernel)
theorem cS_ok:SchOk cS:=schOk_of (by decide+kernel)
theorem lS_ok:SchOk lS:=schOk_of (by decide+kernel)
end Go.Proofs.YtkkicodfpekbgaaGreatDoor
namespace Go.Proofs.YtkkicodfpekbgaaGreatDoor
open Go.RowKit
set_option linter.unusedSimpArgs false
set_option linter.unusedVariables false
set_option maxRecDepth 100000
set_option maxHeartbeats 8000000
def OutIs(o:Out)(tree tree':List Vl)(e' p p':Int):Prop:=
 match o with
 | .error (e,q)=>e'=e∧p'=q∧e≠0
 | .ok (vs,_)=>e'=0∧tree'=tree++vs∧p'=p
def AfterR(E:Env)(W:World)(R:Nat)(a:Option Addr)(c:Nat)(o:Out)(tree:List Vl)(p:Int)(w w':World):Prop:=
 ∃tree' e' p',RdI W w' R a E.s.length c E.d tree' e' p'∧OutIs o tree tree' e' p p'∧Fr R w w'
def Room(tree:List Vl)(f x y:Nat):Prop:=tree.length+10*f+100*(y-x)≤1099511627776
theorem RdI.r0{W w:World}{R:Nat}{a:Option Addr}{n c:Nat}{data:ByteArray}{tree:List Vl}{e p:Int}(h:RdI W w R a n c data tree e p):w.cell? ⟨R,0,none⟩=some (.slice a n c):=by
 obtain⟨_,_,vt,hr,_⟩:=h;unfold rdObj at hr;simp[World.cell?,hr]
theorem RdI.r1{W w:World}{R:Nat}{a:Option Addr}{n c:Nat}{data:ByteArray}{tree:List Vl}{e p:Int}(h:RdI W w R a n c data tree e p):w.cell? ⟨R,1,none⟩=some (.string data):=by
 obtain⟨_,_,vt,hr,_⟩:=h;unfold rdObj at hr;simp[World.cell?,hr]
theorem RdI.r3{W w:World}{R:Nat}{a:Option Addr}{n c:Nat}{data:ByteArray}{tree:List Vl}{e p:Int}(h:RdI W w R a n c data tree e p):w.cell? ⟨R,3,none⟩=some (.int .i64 e):=by
 obtain⟨_,_,vt,hr,_⟩:=h;unfold rdObj at hr;simp[World.cell?,hr]
theorem Fr.below{R:Nat}{w w1 w2:World}(h:Fr R w w1)(hb:Below w1.heap.size w1 w2):Fr R w w2:=h.trans (Fr.of_below hb)
theorem AfterR.of{E:Env}{W:World}{R:Nat}{a:Option Addr}{c:Nat}{o:Out}{tree:List Vl}{p:Int}{w w1 w':World}(h:AfterR E W R a c o tree p w1 w')(hf:Fr R w w1):AfterR E W R a c o tree p w w':=by
 obtain⟨t,e,q,h1,h2,h3⟩:=h
 exact⟨t,e,q,h1,h2,hf.trans h3⟩
theorem andThen_cases{α:Type}{o:Option Out}{k:List Vl→Nat→Option (Except (Int×Int) α)}{v:Except (Int×Int) α}(h:Out.andThen o k=some v):(∃e,o=some (.error e)∧v= .error e)∨∃vs z,o=some (.ok (vs,z))∧k vs z=some v:=by
 unfold Out.andThen at h
 split at h
 ·cases h
 ·rename_i e;exact .inl ⟨e,rfl,(Option.some.inj h).symm⟩
 ·rename_i vs z;exact .inr ⟨vs,z,rfl,h⟩
def IsErr(o:Out):Prop:=∀e q,o= .error (e,q)→e≠0
theorem choiceF_err{E:Env}{rec:Rec}(hr:∀i x y dp o,rec i x y dp=some o→IsErr o){h:Hd}{x tz:Nat}{dp:Int}:∀(ks:List Kd) (j:Nat) {o:Out},choiceF E rec h x tz dp ks j=some o→IsErr o
 | [],_,o,e=>by unfold choiceF at e;cases e;intro a b q;cases q;decide
 |k::ks,j,o,e=>by
  unfold choiceF at e
  split at e
  ·rcases andThen_cases e with⟨u,h1,rfl⟩|⟨vs,z,h1,h2⟩
   ·exact hr _ _ _ _ _ h1
   ·cases h2;intro a b q;cases q
  ·exact choiceF_err hr ks (j+1) e
theorem seqF_err{E:Env}{rec:Rec}(hr:∀i x y dp o,rec i x y dp=some o→IsErr o){tz:Nat}{dp:Int}:∀(ks:List Kd) (x:Nat) (acc:List Vl) {o:Out},seqF E rec tz dp ks x acc=some o→IsErr o
 | [],x,acc,o,e=>by unfold seqF at e;split at e<;> (cases e;intro a b q;cases q<;>decide)
 |k::ks,x,acc,o,e=>by
  unfold seqF at e
  split at e
  ·rename_i q;cases e;intro a b p;cases p;exact q.2
  split at e
  ·rcases andThen_cases e with⟨u,h1,rfl⟩|⟨vs,z,h1,h2⟩
   ·exact hr _ _ _ _ _ h1
   ·split at h2
    ·cases h2;intro a b q;cases q;decide
    ·exact seqF_err hr ks _ _ h2
  split at e
  ·exact seqF_err hr ks _ _ e
  split at e
  ·exact seqF_err hr ks _ _ e
  split at e<;> (cases e;intro a b q;cases q<;>decide)
theorem manyF_err{E:Env}{rec:Rec}(hr:∀i x y dp o,rec i x y dp=some o→IsErr o){set:Bool}{i tz:Nat}{dp:Int}:∀(m x:Nat) (last:ByteArray) (j:Nat) (acc:List Vl) {v:Except (Int×Int) (Nat×List Vl)},manyF E rec set i tz dp m x last j acc=some v→∀e q,v= .error (e,q)→e≠0
 |0,_,_,_,_,_,e=>by cases e
 |m+1,x,last,j,acc,v,e=>by
  unfold manyF at e
  split at e
  ·rcases andThen_cases e with⟨u,h1,rfl⟩|⟨vs,z,h1,h2⟩
   ·intro a b q;cases q;exact hr _ _ _ _ _ h1 _ _ rfl
   ·split at h2
    ·cases h2;intro a b q;cases q;decide
    ·exact manyF_err hr m _ _ _ _ h2
  ·cases e;intro a b q;cases q
theorem bareF_err{E:Env}{rec:Rec}(hr:∀i x y dp o,rec i x y dp=some o→IsErr o){m:Nat}{n:Nd}{cl nu:Int}{h:Hd}{x tz:Nat}{dp:Int}{o:Out}(e:bareF E rec m n cl nu h x tz dp=some o):IsErr o:=by
 unfold bareF at e
 split at e
 ·exact choiceF_err hr _ _ e
 split at e
 ·cases e;intro a b q;cases q;decide
 split at e
 ·cases e;intro a b q;cases q;decide
 split at e
 ·cases e;intro a b q;cases q
 split at e
 ·split at e
  ·cases e
  ·rename_i u hs;cases e;intro a b q;cases q;exact seqF_err hr _ _ _ hs _ _ rfl
  ·cases e;intro a b q;cases q
 split at e
 ·split at e
  ·cases e
  ·rename_i u hs;cases e;intro a b q;cases q;exact manyF_err hr _ _ _ _ _ hs _ _ rfl
  ·cases e;intro a b q;cases q
 split at e
 ·cases e;intro a b q;cases q
 ·cases e;intro a b q;cases q;decide
theorem valF_err{E:Env}{rec:Rec}(hr:∀i x y dp o,rec i x y dp=some o→IsErr o){m i:Nat}{h:Hd}{x tz:Nat}{dp:Int}{o:Out}(e:valF E rec m i h x tz dp=some o):IsErr o:=by
 unfold valF at e
 split at e
 ·exact bareF_err hr e
 split at e
 ·exact bareF_err hr e
 split at e
 ·cases e;intro a b q;cases q;decide
 split at e
 ·cases e;intro a b q;cases q;decide
 split at e
 ·rename_i q;cases e;intro a b p;cases p;exact q
 rcases andThen_cases e with⟨u,h1,rfl⟩|⟨vs,z,h1,h2⟩
 ·exact bareF_err hr h1
 ·split at h2<;> (cases h2;intro a b q;cases q<;>decide)
theorem rdF_err{E:Env}:∀(f i x y:Nat) (dp:Int) (o:Out),rdF E f i x y dp=some o→IsErr o
 |0,_,_,_,_,_,e=>by cases e
 |f+1,i,x,y,dp,o,e=>by
  rw[rdF]at e
  split at e
  ·rename_i q;cases e;intro a b p;cases p;exact q
  ·exact valF_err (rdF_err f) e
end Go.Proofs.YtkkicodfpekbgaaGreatDoor
namespace Go.Proofs.YtkkicodfpekbgaaGreatDoor
set_option linter.unusedSimpArgs false
set_option linter.unusedVariables false
set_option maxRecDepth 100000
set_option maxHeartbeats 8000000
theorem choiceF_len{E:Env}{rec:Rec}{h:Hd}{x tz B:Nat}{dp:Int}:∀(ks:List Kd) (j:Nat) {vs:List Vl} {z:Nat},(∀k∈ks,∀vs z,rec k.node.toNat x tz dp=some (.ok (vs,z))→vs.length+1≤B)→choiceF E rec h x tz dp ks j=some (.ok (vs,z))→vs.length≤B
 | [],_,_,_,_,e=>by cases e
 |k::ks,j,vs,z,hB,e=>by
  unfold choiceF at e
  split at e
  ·obtain⟨us,z',h1,h2⟩:=andThen_ok e
   have:=hB k (by simp) us z' h1
   simp at h2
   rw[←h2.1];simpa using this
  ·exact choiceF_len ks (j+1) (fun k hk=>hB k (by simp[hk])) e
theorem seqF_len{E:Env}{rec:Rec}{tz:Nat}{dp:Int}:∀(ks:List Kd) (x:Nat) (acc:List Vl) {vs:List Vl} {z:Nat},(∀k∈ks,∀x vs z,rec k.node.toNat x tz dp=some (.ok (vs,z))→vs.length≤100*(z-x)∧x≤z∧z≤tz)→x≤tz→seqF E rec tz dp ks x acc=some (.ok (vs,z))→vs.length≤acc.length+ks.length+100*(z-x)∧x≤z∧z≤tz
 | [],x,acc,vs,z,_,hx,e=>by
   unfold seqF at e
   split at e
   ·cases e
   ·simp at e;obtain⟨rfl,rfl⟩:=e;simp;exact hx
 |k::ks,x,acc,vs,z,hr,hx,e=>by
  have hr':∀k∈ks,∀x vs z,rec k.node.toNat x tz dp=some (.ok (vs,z))→vs.length≤100*(z-x)∧x≤z∧z≤tz:=fun k hk=>hr k (by simp[hk])
  unfold seqF at e
  split at e
  ·cases e
  split at e
  ·obtain⟨us,z',h1,h2⟩:=andThen_ok e
   have h3:=hr k (by simp) x us z' h1
   split at h2
   ·cases h2
   ·have:=seqF_len ks z' _ hr' (by omega) h2
    simp only[List.length_append,List.length_cons]at this ⊢
    omega
  split at e
  ·have:=seqF_len ks x _ hr' hx e
   simp only[List.length_append,List.length_cons,List.length_nil]at this ⊢
   omega
  split at e
  ·have:=seqF_len ks x _ hr' hx e
   simp only[List.length_append,List.length_cons,List.length_nil]at this ⊢
   omega
  split at e<;>cases e
theorem manyF_len{E:Env}{rec:Rec}{set:Bool}{i tz:Nat}{dp:Int}(hr:∀x vs z,rec i x tz dp=some (.ok (vs,z))→vs.length≤100*(z-x)∧x≤z∧z≤tz):∀(m x:Nat) (last:ByteArray) (j:Nat) (acc:List Vl) {j':Nat} {vs:List Vl},x≤tz→manyF E rec set i tz dp m x last j acc=some (.ok (j',vs))→vs.length≤acc.length+100*(tz-x)
 |0,_,_,_,_,_,_,_,e=>by cases e
 |m+1,x,last,j,acc,j',vs,hx,e=>by
  unfold manyF at e
  split at e
  ·obtain⟨us,z',h1,h2⟩:=andThen_ok e
   have h3:=hr x us z' h1
   split at h2
   ·cases h2
   ·have:=manyF_len hr m z' _ _ _ (by omega) h2
    simp only[List.length_append]at this
    omega
  ·simp at e;rw[←e.2];omega
theorem bareF_len{E:Env}(hf:Fine E.s){f i:Nat}(hi:i<E.s.length){cl nu:Int}{x tz:Nat}{dp:Int}{h:Hd}{V C:Nat}(hV:V≤40)(hh:2≤h.s.toNat)(hxt:x+h.s.toNat≤tz)
 (hc:(nd E.s i).kind=13→∀k∈(nd E.s i).kids,∀vs z,rdF E f k.node.toNat x tz dp=some (.ok (vs,z))→vs.length+(V+1)≤100*(tz-x)+C)
 (hr:∀(j:Nat) (x':Nat) vs z,j<E.s.length→rdF E f j x' tz (dp+1)=some (.ok (vs,z))→vs.length≤100*(z-x'))
 {vs:List Vl}{z:Nat}(e:bareF E (rdF E f) f (nd E.s i) cl nu h x tz dp=some (.ok (vs,z))):vs.length+V≤100*(tz-x)+C:=by
 have hlt:∀k∈(nd E.s i).kids,k.node.toNat<E.s.length:=fun k hk=>by have:=hf.within i hi k hk;omega
 have hz:∀i x vs z,rdF E f i x tz (dp+1)=some (.ok (vs,z))→x≤z∧z≤tz:=fun i x vs z e=>by
  obtain⟨q1,q2⟩:=rdF_fin e
  have:=fin_le q1
  omega
 unfold bareF at e
 split at e
 ·rename_i q
  have:=choiceF_len (B:=100*(tz-x)+C-V) _ _ (fun k hk us z' h1=>by have:=hc q k hk us z' h1;omega) e
  omega
 split at e
 ·cases e
 split at e
 ·cases e
 split at e
 ·simp at e;rw[←e.1];simp;omega
 split at e
 ·split at e
  ·cases e
  ·cases e
  ·rename_i us z' hs
   have h8:=hf.eight i hi
   have:=seqF_len _ _ _ (fun k hk x' us z' h1=>⟨hr _ _ _ _ (hlt k hk) h1,hz _ _ _ _ h1⟩) hxt hs
   simp at e;rw[←e.1]
   simp only[List.length_nil,List.length_cons]at this ⊢
   omega
 split at e
 ·rename_i q
  split at e
  ·cases e
  ·cases e
  ·rename_i j us hs
   have h1:=hf.one i hi (by omega)
   have hk:=hlt _ (kd_mem (n:=nd E.s i) (i:=0) (by omega))
   have:=manyF_len (fun x' us z' h1=>⟨hr _ _ _ _ hk h1,hz _ _ _ _ h1⟩) _ _ _ _ _ hxt hs
   simp at e;rw[←e.1]
   simp only[List.length_nil,List.length_cons]at this ⊢
   omega
 split at e
 ·simp at e;rw[←e.1];simp;omega
 ·cases e
theorem rdF_len{E:Env}(hf:Fine E.s):∀(f i x y:Nat) (dp:Int) (V:List Nat),i<E.s.length→Way E.s V i→∀vs z,rdF E f i x y dp=some (.ok (vs,z))→vs.length+V.length≤100*(z-x)
 |0,_,_,_,_,_,_,_,_,_,e=>by cases e
 |f+1,i,x,y,dp,V,hi,hV,vs,z,e=>by
  have hVl:=hV.len hf
  obtain⟨hq,rfl⟩:=rdF_fin e
  have hfin:=fin_le hq
  have hlt:∀k∈(nd E.s i).kids,k.node.toNat<E.s.length:=fun k hk=>by have:=hf.within i hi k hk;omega
  have hr:∀(j:Nat) (x':Nat) (tz:Nat) vs z,j<E.s.length→rdF E f j x' tz (dp+1)=some (.ok (vs,z))→vs.length≤100*(z-x'):=fun j x' tz vs z hj e=>by
   have:=rdF_len hf f j x' tz (dp+1) [] hj (Way.nil _ _) vs z e
   simpa using this
  rw[rdF,if_neg (by rw[hq];decide)]at e
  unfold valF at e
  split at e
  ·rename_i ht
   refine bareF_len (C:=0) hf hi hVl (by omega) hfin.2.1 (fun hk k hkm us z' h1=>?_) (fun j x' us z' hj h1=>hr j x' _ us z' hj h1) e
   have:=rdF_len hf f k.node.toNat x _ dp (i::V) (hlt k hkm) (hV.cons hf hi ⟨hk,ht⟩ hkm) us z' h1
   obtain⟨a1,a2⟩:=rdF_fin h1
   have:=fin_le a1
   simp only[List.length_cons]at*
   omega
  split at e
  ·rename_i ht hm
   exact bareF_len (C:=0) hf hi hVl (by omega) hfin.2.1 (fun hk=>absurd hm (hf.tagged i hi hk (by omega))) (fun j x' us z' hj h1=>hr j x' _ us z' hj h1) e
  split at e
  ·cases e
  split at e
  ·cases e
  split at e
  ·cases e
  rename_i q'
  have hq':(E.hd (x+(E.hd x y).2.s.toNat) (fin x (E.hd x y).2)).1=0:=Classical.not_not.1 q'
  have hfin':=fin_le hq'
  obtain⟨us,z',h1,h2⟩:=andThen_ok e
  have h3:=bareF_len (V:=0) (C:=1) hf hi (by omega) (by omega) hfin'.2.1 (fun hk k hkm us z' h1=>by
   have:=rdF_len hf f k.node.toNat _ _ dp [] (hlt k hkm) (Way.nil _ _) us z' h1
   obtain⟨a1,a2⟩:=rdF_fin h1
   have:=fin_le a1
   simp only[List.length_nil]at*
   omega) (fun j x' us z' hj h1=>hr j x' _ us z' hj h1) h1
  split at h2
  ·cases h2
  ·simp at h2
   rw[←h2]
   omega
theorem rdF_len0{E:Env}(hf:Fine E.s){f i x y:Nat}{dp:Int}{vs:List Vl}{z:Nat}(hi:i<E.s.length)(e:rdF E f i x y dp=some (.ok (vs,z))):vs.length≤100*(z-x)∧x+2≤z∧z≤y∧z≤E.d.size:=by
 have:=rdF_len hf f i x y dp [] hi (Way.nil _ _) vs z e
 obtain⟨a1,a2⟩:=rdF_fin e
 have:=fin_le a1
 simp only[List.length_nil]at*
 omega
end Go.Proofs.YtkkicodfpekbgaaGreatDoor
namespace Go.Proofs.YtkkicodfpekbgaaGreatDoor
open Go.RowKit
set_option linter.unusedSimpArgs false
set_option linter.unusedVariables false
set_option maxRecDepth 100000
set_option maxHeartbeats 8000000
theorem vcells_app(l m:List Vl):vcells (l++m)=vcells l++vcells m:=by unfold vcells;simp
theorem vcells_len(l:List Vl):(vcells l).length=l.length*4:=by
 induction l with
 |nil=>rfl
 |cons v l ih=>show(v.cells++vcells l).length=_;rw[List.length_append,ih];show 4+l.length*4=_;simp;omega
theorem vcells_cons(v:Vl)(l:List Vl):vcells (v::l)=v.cells++vcells l:=by unfold vcells;simp
theorem choiceF_yes{E:Env}{rec:Rec}{h:Hd}{x tz:Nat}{dp:Int}{n:Nd}{j:Nat}{o:Out}(hj:j<n.kids.length)(e:choiceF E rec h x tz dp (n.kids.drop j) j=some o)(hb:E.bg (kd n j).node.toNat h.c h.n=true):
 ∃o',rec (kd n j).node.toNat x tz dp=some o'∧((∃u,o'= .error u∧o= .error u)∨∃vs z,o'= .ok (vs,z)∧o= .ok (⟨13,noB,j,1⟩::vs,tz)):=by
 rw[drop_kid hj]at e
 unfold choiceF at e
 rw[if_pos hb]at e
 rcases andThen_cases e with⟨u,h1,rfl⟩|⟨vs,z,h1,h2⟩
 ·exact⟨_,h1,.inl ⟨u,rfl,rfl⟩⟩
 ·cases h2;exact⟨_,h1,.inr ⟨vs,z,rfl,rfl⟩⟩
theorem choiceF_no{E:Env}{rec:Rec}{h:Hd}{x tz:Nat}{dp:Int}{n:Nd}{j:Nat}{o:Out}(hj:j<n.kids.length)(e:choiceF E rec h x tz dp (n.kids.drop j) j=some o)(hb:E.bg (kd n j).node.toNat h.c h.n=false):
 choiceF E rec h x tz dp (n.kids.drop (j+1)) (j+1)=some o:=by
 rw[drop_kid hj]at e
 unfold choiceF at e
 rw[if_neg (by rw[hb];decide)]at e
 exact e
theorem manyF_on{E:Env}{rec:Rec}{set:Bool}{i tz:Nat}{dp:Int}{m x:Nat}{last:ByteArray}{j:Nat}{acc:List Vl}{o:Except (Int×Int) (Nat×List Vl)}(e:manyF E rec set i tz dp m x last j acc=some o)(hx:x<tz):
 ∃o',rec i x tz dp=some o'∧((∃u,o'= .error u∧o= .error u)∨∃vs z,o'= .ok (vs,z)∧((set=true∧below (E.d.extract x z) last=true∧o= .error (8,(x:Int)))∨(¬(set=true∧below (E.d.extract x z) last=true)∧∃m',manyF E rec set i tz dp m' z (E.d.extract x z) (j+1) (acc++vs)=some o))):=by
 cases m with
 |zero=>cases e
 |succ m=>
  unfold manyF at e
  rw[if_pos hx]at e
  rcases andThen_cases e with⟨u,h1,rfl⟩|⟨vs,z,h1,h2⟩
  ·exact⟨_,h1,.inl ⟨u,rfl,rfl⟩⟩
  ·refine⟨_,h1,.inr ⟨vs,z,rfl,?_⟩⟩
   split at h2
   ·rename_i q;cases h2;exact .inl ⟨q.1,q.2,rfl⟩
   ·rename_i q;exact .inr ⟨q,m,h2⟩
theorem manyF_off{E:Env}{rec:Rec}{set:Bool}{i tz:Nat}{dp:Int}{m x:Nat}{last:ByteArray}{j:Nat}{acc:List Vl}{o:Except (Int×Int) (Nat×List Vl)}(e:manyF E rec set i tz dp m x last j acc=some o)(hx:¬x<tz):o= .ok (j,acc):=by
 cases m with
 |zero=>cases e
 |succ m=>unfold manyF at e;rw[if_neg hx]at e;exact(Option.some.inj e).symm
def OutM(kind:Int)(tz:Nat)(v:Except (Int×Int) (Nat×List Vl)):Out:=
 match v with
 | .error e=> .error e
 | .ok (j,vs)=> .ok (⟨kind,noB,0,j⟩::vs,tz)
theorem vcells_at(l:List Vl)(v:Vl)(m:List Vl):(vcells (l++v::m))[l.length*4+3]? =some (.int .i64 v.kids):=by
 rw[vcells_app,List.getElem?_append_right (by rw[vcells_len];omega),vcells_len,vcells_cons]
 rw[show l.length*4+3-l.length*4=3 by omega]
 rfl
theorem vcells_set(l:List Vl)(v:Vl)(m:List Vl)(k:Int):(vcells (l++v::m)).set (l.length*4+3) (.int .i64 k)=vcells (l++⟨v.kind,v.text,v.alt,k⟩::m):=by
 rw[vcells_app,vcells_app,List.set_append_right _ _ (by rw[vcells_len];omega),vcells_len,vcells_cons,vcells_cons]
 rw[show l.length*4+3-l.length*4=3 by omega]
 rfl
def DvOk(E:Env):Prop:=∀i,i<E.s.length→∀k∈(nd E.s i).kids,k.dflt.size≠0→∃u,ElemOk (nd E.s k.node.toNat) k.dflt u∧E.dv k=⟨(nd E.s k.node.toNat).kind,u,0,0⟩∧1≤(nd E.s k.node.toNat).kind∧(nd E.s k.node.toNat).kind≤9
theorem own_lower{w:World}{base base':Nat}{e:TypeId}{size:Nat}{v:Value}{n:Nat}{xs:List Value}(h:w.ownsRow base e size v n xs)(hb:base'≤base):w.ownsRow base' e size v n xs:=by
 refine⟨h.1,?_⟩
 rcases h.2 with q|⟨g,cap,cur,q,q2,r⟩
 ·exact .inl q
 ·exact .inr ⟨g,cap,cur,q,Nat.le_trans hb q2,r⟩
structure EnvOk(E:Env):Prop where
 bg:∀i,i<E.s.length→∀c m,E.bg i c m=true↔Beg E.s i c m
 ok:∀k t,E.ok k t=true↔ContentOk k t
 dv:DvOk E
theorem env_ex(s:List Nd)(d:ByteArray)(h:RightP s):∃E:Env,E.s=s∧E.d=d∧EnvOk E:=by
 have hb:∃bg:Nat→Int→Int→Bool,∀i c m,bg i c m=true↔Beg s i c m:=
  ⟨fun i c m=> @decide (Beg s i c m) (Classical.propDecidable _),fun i c m=>by simp⟩
 have hk:∃ok:Int→ByteArray→Bool,∀k t,ok k t=true↔ContentOk k t:=
  ⟨fun k t=> @decide (ContentOk k t) (Classical.propDecidable _),fun k t=>by simp⟩
 have hd:∃dv:Kd→Vl,∀k u,ElemOk (nd s k.node.toNat) k.dflt u→dv k=⟨(nd s k.node.toNat).kind,u,0,0⟩:=by
  refine⟨fun k=>⟨(nd s k.node.toNat).kind,@dite _ (∃u,ElemOk (nd s k.node.toNat) k.dflt u) (Classical.propDecidable _) (fun q=>Classical.choose q) (fun _=>⟨#[]⟩),0,0⟩,fun k u hu=>?_⟩
  have q:∃u,ElemOk (nd s k.node.toNat) k.dflt u:=⟨u,hu⟩
  simp only[dif_pos q]
  rw[elem_one (Classical.choose_spec q) hu]
 obtain⟨bg,hb⟩:=hb
 obtain⟨ok,hk⟩:=hk
 obtain⟨dv,hd⟩:=hd
 refine⟨⟨s,d,bg,ok,dv⟩,rfl,rfl,fun i _ c m=>hb i c m,hk,fun i hi k hkm hne=>?_⟩
 obtain⟨j,hj,e⟩:=List.getElem_of_mem hkm
 have hkd:kd (nd s i) j=k:=by unfold kd;rw[List.getD_eq_getElem?_getD,List.getElem?_eq_getElem hj];exact e
 have hw:=h.fine.within i hi k hkm
 rcases(h.2.2.2.2 i hi).2 j hj with q|⟨q1,u,q2⟩
 ·rw[hkd]at q;exact absurd q hne
 ·rw[hkd]at q1 q2
  exact⟨u,q2,hd k u q2,(kinds_of h.2.2.1 k.node.toNat (by omega)).1,q1⟩
def DecV(E:Env)(s:List Nd)(root:Int)(d:ByteArray)(v:Except (Int×Int) (List Vl)):Prop:=
 (¬(RightP s∧0≤root∧root<s.length)∧v= .error (1,0))∨
 ((RightP s∧0≤root∧root<s.length)∧4000<d.size∧v= .error (2,0))∨
 ((RightP s∧0≤root∧root<s.length)∧d.size≤4000∧E.s=s∧E.d=d∧EnvOk E∧∃f,f≤1000000∧readF E f root.toNat=some v)
theorem decV_ex(s:List Nd)(root:Int)(d:ByteArray):∃E v,DecV E s root d v:=by
 by_cases h:RightP s∧0≤root∧root<s.length
 ·by_cases hd:d.size≤4000
  ·obtain⟨E,rfl,rfl,hE⟩:=env_ex s d h.1
   obtain⟨o,ho⟩:=rdF_some h.1.fine 168041 root.toNat 0 E.d.size 1 [] (by omega) (Way.nil _ _) (by simp only[List.length_nil];omega)
   obtain⟨v,hv⟩:∃v,readF E 168041 root.toNat=some v:=by
    unfold readF
    refine andThen_some ho fun vs z _=>?_
    split<;>exact⟨_,rfl⟩
   exact⟨E,v,.inr (.inr ⟨h,hd,rfl,rfl,hE,168041,by omega,hv⟩)⟩
  ·exact⟨⟨[],d,fun _ _ _=>false,fun _ _=>false,fun _=>⟨0,d,0,0⟩⟩,_,.inr (.inl ⟨h,by omega,rfl⟩)⟩
 ·exact⟨⟨[],d,fun _ _ _=>false,fun _ _=>false,fun _=>⟨0,d,0,0⟩⟩,_,.inl ⟨h,rfl⟩⟩
end Go.Proofs.YtkkicodfpekbgaaGreatDoor
namespace Go.Proofs.YtkkicodfpekbgaaGreatDoor
set_option linter.unusedSimpArgs false
set_option linter.unusedVariables false
set_option maxRecDepth 100000
set_option maxHeartbeats 8000000
theorem rd_bare{E:Env}{f i x y:Nat}{dp:Int}{vs:List Vl}{z:Nat}(h:rdF E (f+1) i x y dp=some (.ok (vs,z))):∃cl nu hh x' tz z',bareF E (rdF E f) f (nd E.s i) cl nu hh x' tz dp=some (.ok (vs,z')):=by
 rw[rdF]at h
 split at h
 ·cases h
 unfold valF at h
 split at h
 ·exact⟨_,_,_,_,_,_,h⟩
 split at h
 ·exact⟨_,_,_,_,_,_,h⟩
 split at h
 ·cases h
 split at h
 ·cases h
 split at h
 ·cases h
 obtain⟨us,z',h1,h2⟩:=andThen_ok h
 split at h2
 ·cases h2
 ·cases h2;exact⟨_,_,_,_,_,_,h1⟩
def Rd(E:Env)(i:Nat)(vs:List Vl):Prop:=∃f x y dp z,rdF E f i x y dp=some (.ok (vs,z))
theorem Rd.leaf{E:Env}{i:Nat}{vs:List Vl}(h:Rd E i vs)(hk:(nd E.s i).kind≤9):∃t,vs=[⟨(nd E.s i).kind,t,0,0⟩]∧E.ok (nd E.s i).kind t=true:=by
 obtain⟨f,x,y,dp,z,h⟩:=h
 cases f with
 |zero=>cases h
 |succ f=>
  obtain⟨cl,nu,hh,x',tz,z',e⟩:=rd_bare h
  unfold bareF at e
  rw[if_neg (by omega)]at e
  split at e
  ·cases e
  split at e
  ·cases e
  rw[if_neg (by omega),if_neg (by omega),if_neg (by omega)]at e
  split at e
  ·rename_i q;cases e;exact⟨_,rfl,q⟩
  ·cases e
theorem Rd.choice{E:Env}{i:Nat}{vs:List Vl}(h:Rd E i vs)(hk:(nd E.s i).kind=13):∃j us,j<(nd E.s i).kids.length∧vs=⟨13,noB,(j:Nat),1⟩::us∧Rd E (kd (nd E.s i) j).node.toNat us:=by
 obtain⟨f,x,y,dp,z,h⟩:=h
 cases f with
 |zero=>cases h
 |succ f=>
  obtain⟨cl,nu,hh,x',tz,z',e⟩:=rd_bare h
  unfold bareF at e
  rw[if_pos hk]at e
  have key:∀(c j:Nat),j+c=(nd E.s i).kids.length→choiceF E (rdF E f) hh x' tz dp ((nd E.s i).kids.drop j) j=some (.ok (vs,z'))→∃j us,j<(nd E.s i).kids.length∧vs=⟨13,noB,(j:Nat),1⟩::us∧Rd E (kd (nd E.s i) j).node.toNat us:=fun c=>by
   induction c with
   |zero=>
    intro j hj e
    rw[List.drop_eq_nil_of_le (by omega)]at e
    cases e
   |succ c ih=>
    intro j hj e
    rw[drop_kid (by omega)]at e
    unfold choiceF at e
    split at e
    ·obtain⟨us,z2,h1,h2⟩:=andThen_ok e
     cases h2
     exact⟨j,us,by omega,rfl,_,_,_,_,_,h1⟩
    ·exact ih (j+1) (by omega) e
  exact key _ 0 (Nat.zero_add _) (by rw[List.drop_zero];exact e)
def SeqI(E:Env):List Kd→List Vl→Prop
 | [],us=>us=[]
 |k::ks,us=>∃a b,us=a++b∧(Rd E k.node.toNat a∨(k.opt=true∧a=[⟨15,noB,0,0⟩])∨(k.opt=false∧k.dflt.size≠0∧a=[E.dv k]))∧SeqI E ks b
theorem seqF_inv{E:Env}{f:Nat}{tz:Nat}{dp:Int}:∀(ks:List Kd) (x:Nat) (acc vs:List Vl) (z:Nat),seqF E (rdF E f) tz dp ks x acc=some (.ok (vs,z))→∃us,vs=acc++us∧SeqI E ks us
 | [],x,acc,vs,z,e=>by
   unfold seqF at e
   split at e
   ·cases e
   ·cases e;exact⟨[],by simp,rfl⟩
 |k::ks,x,acc,vs,z,e=>by
  unfold seqF at e
  split at e
  ·cases e
  split at e
  ·obtain⟨us,z',h1,h2⟩:=andThen_ok e
   split at h2
   ·cases h2
   ·obtain⟨b,hb,hI⟩:=seqF_inv ks z' _ vs z h2
    exact⟨us++b,by rw[hb,List.append_assoc],us,b,rfl,.inl ⟨_,_,_,_,_,h1⟩,hI⟩
  split at e
  ·rename_i ho
   obtain⟨b,hb,hI⟩:=seqF_inv ks x _ vs z e
   exact⟨_++b,by rw[hb,List.append_assoc],_,b,rfl,.inr (.inl ⟨ho,rfl⟩),hI⟩
  rename_i ho
  split at e
  ·rename_i hd
   obtain⟨b,hb,hI⟩:=seqF_inv ks x _ vs z e
   exact⟨_++b,by rw[hb,List.append_assoc],_,b,rfl,.inr (.inr ⟨by simpa using ho,hd,rfl⟩),hI⟩
  split at e<;>cases e
theorem Rd.seq{E:Env}{i:Nat}{vs:List Vl}(h:Rd E i vs)(hk:(nd E.s i).kind=10):∃us,vs=⟨10,noB,0,((nd E.s i).kids.length:Nat)⟩::us∧SeqI E (nd E.s i).kids us:=by
 obtain⟨f,x,y,dp,z,h⟩:=h
 cases f with
 |zero=>cases h
 |succ f=>
  obtain⟨cl,nu,hh,x',tz,z',e⟩:=rd_bare h
  unfold bareF at e
  rw[if_neg (by omega)]at e
  split at e
  ·cases e
  split at e
  ·cases e
  rw[if_neg (by omega)]at e
  try rw[if_pos hk]at e
  split at e
  ·cases e
  ·cases e
  ·rename_i us z2 hs
   cases e
   obtain⟨us',hu,hI⟩:=seqF_inv _ _ _ _ _ hs
   rw[List.nil_append]at hu
   subst hu
   exact⟨_,rfl,hI⟩
def ManyI(E:Env)(i:Nat):Nat→List Vl→Prop
 |0,us=>us=[]
 |n+1,us=>∃a b,us=a++b∧Rd E i a∧ManyI E i n b
theorem manyF_inv{E:Env}{f:Nat}{set:Bool}{i tz:Nat}{dp:Int}:∀(m x:Nat) (last:ByteArray) (j:Nat) (acc:List Vl) (j':Nat) (vs:List Vl),manyF E (rdF E f) set i tz dp m x last j acc=some (.ok (j',vs))→∃n us,j'=j+n∧vs=acc++us∧ManyI E i n us
 |0,_,_,_,_,_,_,e=>by cases e
 |m+1,x,last,j,acc,j',vs,e=>by
  unfold manyF at e
  split at e
  ·obtain⟨us,z',h1,h2⟩:=andThen_ok e
   split at h2
   ·cases h2
   ·obtain⟨n,b,hj,hb,hI⟩:=manyF_inv m z' _ _ _ _ _ h2
    exact⟨n+1,us++b,by omega,by rw[hb,List.append_assoc],us,b,rfl,⟨_,_,_,_,_,h1⟩,hI⟩
  ·cases e;exact⟨0,[],rfl,by simp,rfl⟩
theorem Rd.many{E:Env}{i:Nat}{vs:List Vl}(h:Rd E i vs)(hk:(nd E.s i).kind=11):∃n us,vs=⟨11,noB,0,(n:Nat)⟩::us∧ManyI E (kd (nd E.s i) 0).node.toNat n us:=by
 obtain⟨f,x,y,dp,z,h⟩:=h
 cases f with
 |zero=>cases h
 |succ f=>
  obtain⟨cl,nu,hh,x',tz,z',e⟩:=rd_bare h
  unfold bareF at e
  rw[if_neg (by omega)]at e
  split at e
  ·cases e
  split at e
  ·cases e
  rw[if_neg (by omega),if_neg (by omega),if_pos (by omega)]at e
  split at e
  ·cases e
  ·cases e
  ·rename_i j us hs
   cases e
   obtain⟨n,us',hj,hu,hI⟩:=manyF_inv _ _ _ _ _ _ _ hs
   rw[List.nil_append]at hu
   rw[Nat.zero_add]at hj
   subst hu hj
   rw[hk]
   exact⟨_,_,rfl,hI⟩
def cHead(vt s n:ByteArray)(pr:Bool)(ft tt k:ByteArray):List Vl:=[⟨10,noB,0,6⟩,⟨2,vt,0,0⟩,⟨2,s,0,0⟩,⟨13,noB,if pr then 0 else 1,1⟩,⟨if pr then 8 else 7,n,0,0⟩,⟨10,noB,0,2⟩,⟨9,ft,0,0⟩,⟨9,tt,0,0⟩,⟨5,k,0,0⟩]
def quadL(q:ByteArray×ByteArray×ByteArray):List Vl:=[⟨10,noB,0,3⟩,⟨4,q.1,0,0⟩,⟨1,q.2.1,0,0⟩,⟨6,q.2.2,0,0⟩]
def cTail(o:Option (List (ByteArray×ByteArray×ByteArray))):List Vl:=
 match o with
 |none=> [⟨15,noB,0,0⟩]
 |some qs=>⟨11,noB,0,(qs.length:Nat)⟩::qs.flatMap quadL
structure CT where
 vt:ByteArray
 s:ByteArray
 n:ByteArray
 pr:Bool
 ft:ByteArray
 tt:ByteArray
 k:ByteArray
 ms:Option (List (ByteArray×ByteArray×ByteArray))
def CT.tree(c:CT):List Vl:=cHead c.vt c.s c.n c.pr c.ft c.tt c.k++cTail c.ms
structure CT.Ok(c:CT):Prop where
 vt:ContentOk 2 c.vt
 s:ContentOk 2 c.s
 n:ContentOk (if c.pr then 8 else 7) c.n
 ft:ContentOk 9 c.ft
 tt:ContentOk 9 c.tt
 k:ContentOk 5 c.k
 ms:∀qs,c.ms=some qs→∀q∈qs,ContentOk 4 q.1∧ContentOk 1 q.2.1
theorem seqI_must{E:Env}{k:Kd}{ks:List Kd}{us:List Vl}(h:SeqI E (k::ks) us)(ho:k.opt=false)(hd:k.dflt.size=0):∃a b,us=a++b∧Rd E k.node.toNat a∧SeqI E ks b:=by
 obtain⟨a,b,e,h1,h2⟩:=h
 rcases h1 with h1|⟨h1,_⟩|⟨_,h1,_⟩
 ·exact⟨a,b,e,h1,h2⟩
 ·rw[ho]at h1;cases h1
 ·exact absurd hd h1
theorem seqI_leaf{E:Env}(hE:EnvOk E){i:Nat}(hi:i<E.s.length){k:Kd}(hk:k∈(nd E.s i).kids){ks:List Kd}{us:List Vl}(h:SeqI E (k::ks) us)(ho:k.opt=false)(h9:(nd E.s k.node.toNat).kind≤9)(ht:(nd E.s k.node.toNat).tag<0→(nd E.s k.node.toNat).mode=0)(hm:(nd E.s k.node.toNat).mode=0∨(nd E.s k.node.toNat).mode=1):∃t b,us=⟨(nd E.s k.node.toNat).kind,t,0,0⟩::b∧ContentOk (nd E.s k.node.toNat).kind t∧SeqI E ks b:=by
 obtain⟨a,b,e,h1,h2⟩:=h
 rcases h1 with h1|⟨h1,_⟩|⟨_,h1,h3⟩
 ·obtain⟨t,e1,e2⟩:=h1.leaf h9
  exact⟨t,b,by rw[e,e1];rfl,(hE.ok _ _).1 e2,h2⟩
 ·rw[ho]at h1;cases h1
 ·obtain⟨u,e1,e2,_⟩:=hE.dv i hi k hk h1
  exact⟨u,b,by rw[e,h3,e2];rfl,((elem_iff ht hm).1 e1).2,h2⟩
theorem cs_leaf{E:Env}(hs:E.s=cS)(hE:EnvOk E){i:Nat}{k:Kd}{ks:List Kd}{us:List Vl}(kind:Int)(hi:i<14)(hk:k∈(nd cS i).kids)(ho:k.opt=false)(h:SeqI E (k::ks) us)(e:(nd cS k.node.toNat).kind=kind)(h9:kind≤9)(h1:(nd cS k.node.toNat).tag<0→(nd cS k.node.toNat).mode=0)(h2:(nd cS k.node.toNat).mode=0∨(nd cS k.node.toNat).mode=1):∃t b,us=⟨kind,t,0,0⟩::b∧ContentOk kind t∧SeqI E ks b:=by
 subst e
 have:=seqI_leaf hE (i:=i) (by rw[hs];exact hi) (by rw[hs];exact hk) h ho (by rw[hs];exact h9) (by rw[hs];exact h1) (by rw[hs];exact h2)
 rw[hs]at this
 exact this
theorem name_shape{E:Env}(hs:E.s=cS)(hE:EnvOk E){a:List Vl}(h:Rd E 3 a):∃(n:ByteArray) (pr:Bool),a=[⟨13,noB,if pr then 0 else 1,1⟩,⟨if pr then 8 else 7,n,0,0⟩]∧ContentOk (if pr then 8 else 7) n:=by
 obtain⟨j,us,hj,rfl,r⟩:=h.choice (by rw[hs];rfl)
 rw[hs]at hj r
 have hj':j<2:=hj
 have hc:j=0∨j=1:=by omega
 clear hj hj'
 rcases hc with rfl|rfl
 ·have r4:Rd E 4 us:=r
  obtain⟨n,e1,e2⟩:=r4.leaf (by rw[hs];decide)
  rw[hs]at e1 e2
  exact⟨n,true,by rw[e1];rfl,(hE.ok _ _).1 e2⟩
 ·have r5:Rd E 5 us:=r
  obtain⟨n,e1,e2⟩:=r5.leaf (by rw[hs];decide)
  rw[hs]at e1 e2
  exact⟨n,false,by rw[e1];rfl,(hE.ok _ _).1 e2⟩
theorem span_shape{E:Env}(hs:E.s=cS)(hE:EnvOk E){a:List Vl}(h:Rd E 6 a):∃ft tt:ByteArray,a=[⟨10,noB,0,2⟩,⟨9,ft,0,0⟩,⟨9,tt,0,0⟩]∧ContentOk 9 ft∧ContentOk 9 tt:=by
 obtain⟨us,rfl,hq0⟩:=h.seq (by rw[hs];rfl)
 clear h
 rw[hs]at hq0 ⊢
 have h0:SeqI E [⟨7,false,noB⟩,⟨7,false,noB⟩] us:=hq0
 obtain⟨ft,b1,rfl,c1,h1⟩:=cs_leaf hs hE (i:=6) 9 (by decide) (List.mem_cons_self ..) rfl h0 rfl (by decide) (by decide) (by decide)
 obtain⟨tt,b2,rfl,c2,h2⟩:=cs_leaf hs hE (i:=6) 9 (by decide) (List.mem_cons_self ..) rfl h1 rfl (by decide) (by decide) (by decide)
 cases h2
 exact⟨ft,tt,rfl,c1,c2⟩
theorem mark_shape{E:Env}(hs:E.s=cS)(hE:EnvOk E){a:List Vl}(h:Rd E 10 a):∃q:ByteArray×ByteArray×ByteArray,a=quadL q∧ContentOk 4 q.1∧ContentOk 1 q.2.1:=by
 obtain⟨us,rfl,hq0⟩:=h.seq (by rw[hs];rfl)
 clear h
 rw[hs]at hq0 ⊢
 have h0:SeqI E [⟨11,false,noB⟩,⟨12,false,fdB⟩,⟨13,false,noB⟩] us:=hq0
 obtain⟨q1,b1,rfl,c1,h1⟩:=cs_leaf hs hE (i:=10) 4 (by decide) (List.mem_cons_self ..) rfl h0 rfl (by decide) (by decide) (by decide)
 obtain⟨q2,b2,rfl,c2,h2⟩:=cs_leaf hs hE (i:=10) 1 (by decide) (List.mem_cons_of_mem _ (List.mem_cons_self ..)) rfl h1 rfl (by decide) (by decide) (by decide)
 obtain⟨q3,b3,rfl,c3,h3⟩:=cs_leaf hs hE (i:=10) 6 (by decide) (List.mem_cons_of_mem _ (List.mem_cons_of_mem _ (List.mem_cons_self ..))) rfl h2 rfl (by decide) (by decide) (by decide)
 cases h3
 exact⟨(q1,q2,q3),rfl,c1,c2⟩
theorem marks_many{E:Env}(hs:E.s=cS)(hE:EnvOk E):∀(m:Nat) (us:List Vl),ManyI E 10 m us→∃qs:List (ByteArray×ByteArray×ByteArray),qs.length=m∧us=qs.flatMap quadL∧∀q∈qs,ContentOk 4 q.1∧ContentOk 1 q.2.1
 |0,us,h=>by cases h;exact⟨[],rfl,rfl,fun q hq=>by cases hq⟩
 |m+1,us,⟨a,b,e,hr,hb⟩=>by
  obtain⟨qs,hl,hu,hq⟩:=marks_many hs hE m b hb
  obtain⟨q,hq1,hq2⟩:=mark_shape hs hE hr
  refine⟨q::qs,by rw[List.length_cons,hl],by rw[e,hq1,hu];rfl,fun q' hq'=>?_⟩
  rcases List.mem_cons.1 hq' with rfl|hq'
  ·exact hq2
  ·exact hq q' hq'
theorem marks_shape{E:Env}(hs:E.s=cS)(hE:EnvOk E){a:List Vl}(h:Rd E 9 a):∃qs:List (ByteArray×ByteArray×ByteArray),a=cTail (some qs)∧∀q∈qs,ContentOk 4 q.1∧ContentOk 1 q.2.1:=by
 obtain⟨m,us,rfl,hM⟩:=h.many (by rw[hs];rfl)
 rw[hs]at hM
 obtain⟨qs,hl,rfl,hq⟩:=marks_many hs hE m us hM
 subst hl
 exact⟨qs,rfl,hq⟩
theorem card_shape{E:Env}(hs:E.s=cS)(hE:EnvOk E){vs:List Vl}(h:Rd E 0 vs):∃c:CT,vs=c.tree∧c.Ok:=by
 obtain⟨us,rfl,hq0⟩:=h.seq (by rw[hs];rfl)
 clear h
 rw[hs]at hq0 ⊢
 have h0:SeqI E [⟨1,false,vdB⟩,⟨2,false,noB⟩,⟨3,false,noB⟩,⟨6,false,noB⟩,⟨8,false,noB⟩,⟨9,true,noB⟩] us:=hq0
 clear hq0
 obtain⟨vt,b1,rfl,c1,h1⟩:=cs_leaf hs hE (i:=0) 2 (by decide) (List.mem_cons_self ..) rfl h0 rfl (by decide) (by decide) (by decide)
 obtain⟨s,b2,rfl,c2,h2⟩:=cs_leaf hs hE (i:=0) 2 (by decide) (List.mem_cons_of_mem _ (List.mem_cons_self ..)) rfl h1 rfl (by decide) (by decide) (by decide)
 obtain⟨a3,b3,rfl,r3,h3⟩:=seqI_must h2 rfl rfl
 obtain⟨n,pr,rfl,cn⟩:=name_shape hs hE r3
 obtain⟨a4,b4,rfl,r4,h4⟩:=seqI_must h3 rfl rfl
 obtain⟨ft,tt,rfl,c41,c42⟩:=span_shape hs hE r4
 obtain⟨kt,b5,rfl,c5,h5⟩:=cs_leaf hs hE (i:=0) 5 (by decide) (List.mem_cons_of_mem _ (List.mem_cons_of_mem _ (List.mem_cons_of_mem _ (List.mem_cons_of_mem _ (List.mem_cons_self ..))))) rfl h4 rfl (by decide) (by decide) (by decide)
 obtain⟨a6,b6,rfl,h6,h7⟩:=h5
 cases h7
 have hms:∃o,a6=cTail o∧∀qs,o=some qs→∀q∈qs,ContentOk 4 q.1∧ContentOk 1 q.2.1:=by
  rcases h6 with h6|⟨_,e⟩|⟨e,_⟩
  ·obtain⟨qs,e,hq⟩:=marks_shape hs hE h6
   exact⟨some qs,e,fun qs' e=>by cases e;exact hq⟩
  ·exact⟨none,e,fun qs e=>by cases e⟩
  ·cases e
 obtain⟨o,rfl,ho⟩:=hms
 exact⟨⟨vt,s,n,pr,ft,tt,kt,o⟩,by rw[List.append_nil];rfl,c1,c2,cn,c41,c42,c5,ho⟩
end Go.Proofs.YtkkicodfpekbgaaGreatDoor
