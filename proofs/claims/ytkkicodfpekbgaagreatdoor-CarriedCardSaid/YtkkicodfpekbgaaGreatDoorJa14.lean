/-
Several texts in one.
-/
import Derived.Test.YtkkicodfpekbgaaGreatDoorJa8
import Derived.Test.YtkkicodfpekbgaaGreatDoorJa13
import Derived.Test.YtkkicodfpekbgaaGreatDoorJa12
import Derived.Test.YtkkicodfpekbgaaGreatDoorJa11
import Derived.Test.YtkkicodfpekbgaaGreatDoorJa1
import Derived.Deep.AppendLies
import Derived.Deep.RegionHeldLaw
import Derived.Test.YtkkicodfpekbgaaGreatDoorJa10
import Derived.Test.YtkkicodfpekbgaaGreatDoorJa6
namespace Go.Proofs.YtkkicodfpekbgaaGreatDoor
open Go.RowKit
set_option linter.unusedSimpArgs false
set_option linter.unusedVariables false
set_option maxRecDepth 100000
set_option maxHeartbeats 8000000
set_option maxHeartbeats 16000000 in
theorem isCard_w9(v:Int)(s n f t k:ByteArray)(ma:Option Addr)(m mc:Nat)(w:World)(HX:Hid (CdX v s n f t k (.slice ma m mc) true true true true true w))(g0:decide (0≤v)=true)(g1:decide (v≤2)=true)(g6:(Op.bytesLess f.toList t.toList||f.toList==t.toList)=true)(g8:decide ((m:Int)≤most v)=true):
 Calls Tryz.prog 131 #[cardV v s n f t k (.slice ma m mc)] w fun e w'=>e= .returned (.bool true)∧Below w.heap.size w w':=by
 have X0:∀x:Ext (w.alloc (.cells #[.int .i64 v,.string s,.string n,.string f,.string t,.string k,.slice ma m mc] 68)),x.v.cell? ⟨w.heap.size,0,none⟩=some (.int .i64 v):=fun x=>x.new rfl
 have X1:∀x:Ext (w.alloc (.cells #[.int .i64 v,.string s,.string n,.string f,.string t,.string k,.slice ma m mc] 68)),x.v.cell? ⟨w.heap.size,1,none⟩=some (.string s):=fun x=>x.new rfl
 have X2:∀x:Ext (w.alloc (.cells #[.int .i64 v,.string s,.string n,.string f,.string t,.string k,.slice ma m mc] 68)),x.v.cell? ⟨w.heap.size,2,none⟩=some (.string n):=fun x=>x.new rfl
 have X3:∀x:Ext (w.alloc (.cells #[.int .i64 v,.string s,.string n,.string f,.string t,.string k,.slice ma m mc] 68)),x.v.cell? ⟨w.heap.size,3,none⟩=some (.string f):=fun x=>x.new rfl
 have X4:∀x:Ext (w.alloc (.cells #[.int .i64 v,.string s,.string n,.string f,.string t,.string k,.slice ma m mc] 68)),x.v.cell? ⟨w.heap.size,4,none⟩=some (.string t):=fun x=>x.new rfl
 have X5:∀x:Ext (w.alloc (.cells #[.int .i64 v,.string s,.string n,.string f,.string t,.string k,.slice ma m mc] 68)),x.v.cell? ⟨w.heap.size,5,none⟩=some (.string k):=fun x=>x.new rfl
 have X6:∀x:Ext (w.alloc (.cells #[.int .i64 v,.string s,.string n,.string f,.string t,.string k,.slice ma m mc] 68)),x.v.cell? ⟨w.heap.size,6,none⟩=some (.slice ma m mc):=fun x=>x.new rfl
 have HB0:Hid (∀w5,Below (w.alloc (.cells #[.int .i64 v,.string s,.string n,.string f,.string t,.string k,.slice ma m mc] 68)).heap.size (w.alloc (.cells #[.int .i64 v,.string s,.string n,.string f,.string t,.string k,.slice ma m mc] 68)) w5→Below w.heap.size w w5):=fun w5 q=>below_alloc q
 unfold cardV
 go_enter Tryz.func131,Tryz.ntmps131
 go_wp2_with fail
 (have ne:=ext_ne;refine wp_region_ext (by kernel_rfl) (by kernel_rfl) ?_;(repeat(first|go_big_quiet_skip|(go_big_quiet_want;go_big_quiet_op;first|go_big_quiet_on|(apply Exists.intro;refine⟨fun x=>?_,?_⟩;(·(first|(go_at_call_of 138 (Value.string s);exact HX.out.f1 x)|(go_at_call 169;exact HX.out.f2 x)|(go_at_call_of 138 (Value.string f);exact HX.out.f3 x)|(go_at_call_of 138 (Value.string t);exact HX.out.f4 x)|(go_at_call_of 138 (Value.string k);exact HX.out.f5 x)|(go_at_call 170;exact HX.out.f6 x)));go_big_quiet_on))));refine nil_ext ?_)
 intro w5 hb5
 have HB5:Hid (Below w.heap.size w w5):=HB0.out w5 hb5
 clear X0 X1 X2 X3 X4 X5 X6 hb5
 go_wp2
 go_ret
 exact⟨rfl,HB5.out⟩
theorem isCard_any(v:Int)(s n f t k:ByteArray)(ma:Option Addr)(m mc:Nat)(w:World)(hD:Days w)(hT:Tabs w)(z1:s.size≤9223372036854775807)(z2:n.size≤9223372036854775807)(z3:f.size≤9223372036854775807)(z4:t.size≤9223372036854775807)(z5:k.size≤9223372036854775807):
 Calls Tryz.prog 131 #[cardV v s n f t k (.slice ma m mc)] w fun e w'=>RetO (CardOk v s n f t k m) w e w':=by
 obtain⟨r1,h1⟩:=bool_ex (ContentOk 2 s)
 obtain⟨r2,h2⟩:=bool_ex (NameOk n)
 obtain⟨r3,h3⟩:=bool_ex (ContentOk 9 f)
 obtain⟨r4,h4⟩:=bool_ex (ContentOk 9 t)
 obtain⟨r5,h5⟩:=bool_ex (ContentOk 5 k)
 have hB:∀(A:Array Value) (T:TypeId) (x:Ext (w.alloc (.cells A T))),Below w.heap.size w x.v:=fun A T x=>Ext.bel ((Below.refl _ _).alloc (Nat.le_refl _) _) x
 have HX:Hid (CdX v s n f t k (.slice ma m mc) r1 r2 r3 r4 r5 w):=by
  show CdX v s n f t k (.slice ma m mc) r1 r2 r3 r4 r5 w
  have lay:∀(A:Array Value) (T:TypeId) (x:Ext (w.alloc (.cells A T))),Days x.v∧Tabs x.v:=fun A T x=>⟨fun i hi=>((hB A T x).cell (lt_of_cell (hD i hi))).trans (hD i hi),Utf8Tabs_below hT (hB A T x)⟩
  have ft:∀(A:Array Value) (T:TypeId) (x:Ext (w.alloc (.cells A T))) (kk:Int) (u:ByteArray) (r:Bool),u.size≤9223372036854775807→(r=true↔ContentOk kk u)→Calls Tryz.prog 138 #[.int .i64 kk,.string u] x.v fun e w''=>e= .returned (.bool r)∧∃y:Ext (w.alloc (.cells A T)),w''=y.v:=fun A T x kk u r hz hr=>
   Ext.callsR hr (fits_any kk u x.v hz (lay A T x).1 (valids u x.v hz (lay A T x).2))
  exact⟨fun x=>ft _ _ x 2 s r1 z1 h1,fun x=>Ext.callsR h2 (isName_any n x.v z2 (lay _ _ x).2),fun x=>ft _ _ x 9 f r3 z3 h3,fun x=>ft _ _ x 9 t r4 z4 h4,fun x=>ft _ _ x 5 k r5 z5 h5,fun x=>Ext.calls ((mostMarks_any v x.v).mono fun _ _ q=>⟨q.1,by rw[q.2];exact Below.refl _ _⟩)⟩
 rw[←contentOk_2]at h1
 rw[←contentOk_9]at h3 h4
 rw[←contentOk_5]at h5
 have no:∀{e:Ending} {w':World},¬CardOk v s n f t k m→e= .returned (.bool false)∧Below w.heap.size w w'→RetO (CardOk v s n f t k m) w e w':=fun hn q=>by rw[q.1];exact reto_no hn q.2
 by_cases g0:0≤v
 case neg=>exact(isCard_w0 v s n f t k ma m mc w r1 r2 r3 r4 r5 HX (by simp;omega)).mono fun e w' q=>no (fun c=>g0 c.v0) q
 by_cases g1:v≤2
 case neg=>exact(isCard_w1 v s n f t k ma m mc w r1 r2 r3 r4 r5 HX (by simp;omega) (by simp;omega)).mono fun e w' q=>no (fun c=>g1 c.v2) q
 have d0:decide (0≤v)=true:=by simp;omega
 have d1:decide (v≤2)=true:=by simp;omega
 cases r1 with
 |false=>exact(isCard_w2 v s n f t k ma m mc w r2 r3 r4 r5 HX d0 d1).mono fun e w' q=>no (fun c=>by cases h1.2 c.ser) q
 |true=>
 cases r2 with
 |false=>exact(isCard_w3 v s n f t k ma m mc w r3 r4 r5 HX d0 d1).mono fun e w' q=>no (fun c=>by cases h2.2 c.nam) q
 |true=>
 cases r3 with
 |false=>exact(isCard_w4 v s n f t k ma m mc w r4 r5 HX d0 d1).mono fun e w' q=>no (fun c=>by cases h3.2 c.frm) q
 |true=>
 cases r4 with
 |false=>exact(isCard_w5 v s n f t k ma m mc w r5 HX d0 d1).mono fun e w' q=>no (fun c=>by cases h4.2 c.til) q
 |true=>
 cases g6:(Op.bytesLess f.toList t.toList||f.toList==t.toList)with
 |false=>exact(isCard_w6 v s n f t k ma m mc w r5 HX d0 d1 g6).mono fun e w' q=>no (fun c=>by rw[c.ord]at g6;cases g6) q
 |true=>
 cases r5 with
 |false=>exact(isCard_w7 v s n f t k ma m mc w HX d0 d1 g6).mono fun e w' q=>no (fun c=>by cases h5.2 c.key) q
 |true=>
 by_cases g8:(m:Int)≤most v
 case neg=>exact(isCard_w8 v s n f t k ma m mc w HX d0 d1 g6 (by simp;omega)).mono fun e w' q=>no (fun c=>g8 c.mks) q
 exact(isCard_w9 v s n f t k ma m mc w HX d0 d1 g6 (by simp;omega)).mono fun e w' q=>by rw[q.1];exact reto_yes ⟨g0,g1,h1.1 rfl,h2.1 rfl,h3.1 rfl,h4.1 rfl,g6,h5.1 rfl,g8⟩ q.2
theorem areMarks_any(ms:List Mks)(a:Option Addr)(mc:Nat)(w:World)(sn:Sn→Addr)(za:Addr)(hl:Lay w sn)(hz:LayZ w sn za)(hin:MkIn w a ms)(hZ:MkZ ms)(hn:ms.length≤140737488351232)(hcap:ms.length≤mc):
 Calls Tryz.prog 132 #[.slice a ms.length mc] w fun e w'=>RetO (MarksOk ms) w e w':=by
 have HM:Hid (∀j wq,j<ms.length→Below w.heap.size w wq→Calls Tryz.prog 171 #[.agg #[.string (ms.getD j mk0).kind,.bool (ms.getD j mk0).must,.string (ms.getD j mk0).body]] wq fun e w'=>RetO (MarkOk (ms.getD j mk0)) wq e w'):=fun j wq hj q=>isMark_any _ wq sn za (hl.below q) (hz.below q) (hZ j hj).1 (hZ j hj).2
 have HI:=hidec hin
 clear hl hz hin hZ
 go_enter Tryz.func132,Tryz.ntmps132
 go_wp2
 go_loopw [9] (fun vi wr=>∃k:Nat,k≤ms.length∧vi= .int .i64 k∧MarksTo ms k∧Below w.heap.size w wr) (fun vi _=>ms.length-(intOf vi).toNat)
 case atStart=>exact⟨0,Nat.zero_le _,rfl,fun i hi=>absurd hi (Nat.not_lt_zero _),Below.refl _ _⟩
 case round=>
  obtain⟨k,hk,rfl,hto,hbr⟩:=hrel
  have HTO:=hidec hto
  have HBR:=hidec hbr
  clear hto hbr
  by_cases hlt:k<ms.length
  ·have hlt':(k:Int)<ms.length:=by omega
   have hkc:(k:Int)≤mc:=by omega
   obtain⟨g,o,rfl,c0,c1,c2⟩:=HI.out k hlt
   have HMK:=hidec (fun wq=>HM.out k wq hlt)
   obtain⟨m,hm⟩:∃m,ms.getD k mk0=m:=⟨_,rfl⟩
   rw[hm]at c0 c1 c2 HMK
   have d0:wr.cell? ⟨g,o+k*3,none⟩=some (.string m.kind):=(HBR.out.cell (lt_of_cell c0)).trans c0
   have d1:wr.cell? ⟨g,o+k*3+1,none⟩=some (.bool m.must):=(HBR.out.cell (lt_of_cell c1)).trans c1
   have d2:wr.cell? ⟨g,o+k*3+2,none⟩=some (.string m.body):=(HBR.out.cell (lt_of_cell c2)).trans c2
   have hgl:g<wr.heap.size:=lt_of_cell d0
   have HMM:=hidec hm
   clear c0 c1 c2 hm
   go_wp2_with fail
   refine(HMK.out _ (HBR.out.alloc HBR.out.size _)).mono ?_
   rintro e w1 ⟨r,rfl,hr,hb1⟩
   have HB1:Hid (Below w.heap.size w w1):=(HBR.out.alloc HBR.out.size _).trans (hb1.mono (HBR.out.alloc HBR.out.size _).size)
   have x0:w1.cell? ⟨wr.heap.size,0,none⟩=some (.string m.kind):=Ext.new (A:=#[.string m.kind,.bool m.must,.string m.body]) ⟨w1,hb1⟩ rfl
   have hl1:wr.heap.size<w1.heap.size:=lt_of_cell x0
   clear hb1 d0 d1 d2 HMK
   cases r with
   |false=>
    have HN:Hid (¬MarksOk ms):=fun q=>by
     have:=(q k hlt).1
     rw[HMM.out]at this
     cases hr.2 this
    clear hr
    go_wp2
    go_ret
    exact reto_no HN.out HB1.out
   |true=>
    have HOK:Hid (MarkOk m):=hr.1 rfl
    clear hr
    obtain⟨xb,hxb⟩:∃xb,wr.heap.size=xb:=⟨_,rfl⟩
    rw[hxb]at x0 hl1 ⊢
    have HX0:=hidec x0
    have hgl1:g<w1.heap.size:=by omega
    clear hxb hgl
    go_wp2
    go_loopw [21] (fun vj wx=>∃j:Nat,j≤k∧vj= .int .i64 j∧(∀i,i<j→(ms.getD i mk0).kind≠m.kind)∧Below w1.heap.size w1 wx) (fun vj _=>k-(intOf vj).toNat)
    case atStart=>exact⟨0,Nat.zero_le _,rfl,fun i hi=>absurd hi (Nat.not_lt_zero _),Below.refl _ _⟩
    case round=>
     obtain⟨j,hj,rfl,hne,hbx⟩:=hrel
     have HNE:=hidec hne
     have HBX:=hidec hbx
     have y0:wr.cell? ⟨xb,0,none⟩=some (.string m.kind):=(hbx.cell (lt_of_cell HX0.out)).trans HX0.out
     have hxl:xb<wr.heap.size:=lt_of_cell y0
     clear hne hbx
     by_cases hl2:j<k
     ·have hl2':(j:Int)<k:=by omega
      obtain⟨g',o',e',z0,z1,z2⟩:=HI.out j (by omega)
      injection e' with e'
      injection e' with e1 e2 _
      subst e1 e2
      have HBW:Hid (Below w.heap.size w wr):=HB1.out.trans (HBX.out.mono HB1.out.size)
      obtain⟨kj,hkj⟩:∃kj,(ms.getD j mk0).kind=kj:=⟨_,rfl⟩
      rw[hkj]at z0
      generalize(ms.getD j mk0).must=muj at z1
      generalize(ms.getD j mk0).body=boj at z2
      have u0:wr.cell? ⟨g,o+j*3,none⟩=some (.string kj):=(HBW.out.cell (lt_of_cell z0)).trans z0
      have u1:wr.cell? ⟨g,o+j*3+1,none⟩=some (.bool muj):=(HBW.out.cell (lt_of_cell z1)).trans z1
      have u2:wr.cell? ⟨g,o+j*3+2,none⟩=some (.string boj):=(HBW.out.cell (lt_of_cell z2)).trans z2
      have hgx:g<wr.heap.size:=lt_of_cell u0
      have HKJ:=hidec hkj
      clear z0 z1 z2 hkj
      by_cases heq:kj=m.kind
      ·have hbe:(kj.toList==m.kind.toList)=true:=beq_iff.2 heq
       have HN:Hid (¬MarksOk ms):=fun q=>by
        have:=(q k hlt).2 j hl2
        rw[HMM.out,HKJ.out]at this
        exact this heq
       clear heq
       go_wp2
       go_ret
       exact reto_no HN.out (HBW.out.alloc HBW.out.size _)
      ·have hbe:(kj.toList==m.kind.toList)=false:=beq_no heq
       have HNJ:Hid ((ms.getD j mk0).kind≠m.kind):=by
        show(ms.getD j mk0).kind≠m.kind
        rw[HKJ.out];exact heq
       clear heq
       go_wp2
       go_roundw
       case rel=>
        refine⟨j+1,by omega,by go_num,fun i hi=>?_,HBX.out.alloc HBX.out.size _⟩
        by_cases hij:i=j
        ·rw[hij];exact HNJ.out
        ·exact HNE.out i (by omega)
       case measure=>simp[intOf];omega
     ·have hl2':(k:Int)≤j:=by omega
      obtain rfl:j=k:=by omega
      go_wp2
      go_roundw
      case rel=>
       refine⟨j+1,by omega,by go_num,fun i hi=>?_,HB1.out.trans (HBX.out.mono HB1.out.size)⟩
       by_cases hij:i=j
       ·rw[hij,HMM.out];exact⟨HOK.out,HNE.out⟩
       ·exact HTO.out i (by omega)
      case measure=>simp[intOf];omega
  ·have hlt':(ms.length:Int)≤k:=by omega
   obtain rfl:k=ms.length:=by omega
   go_wp2
   go_ret
   exact reto_yes HTO.out HBR.out
def RetCk(v:Int)(s n f t k:ByteArray)(ms:List Mks)(sn:Sn→Addr)(w:World)(e:Ending)(w':World):Prop:=
 Below w.heap.size w w'∧((¬CardOk v s n f t k ms.length∧e= .returned (fault 0 (sn .Card)))∨(CardOk v s n f t k ms.length∧¬MarksOk ms∧e= .returned (fault 0 (sn .Mark)))∨(CardOk v s n f t k ms.length∧MarksOk ms∧e= .returned .nilIface))
theorem ccheck_any(v:Int)(s n f t k:ByteArray)(ms:List Mks)(ma:Option Addr)(mc:Nat)(w:World)(sn:Sn→Addr)(za:Addr)(hl:Lay w sn)(hz:LayZ w sn za)(z1:s.size≤9223372036854775807)(z2:n.size≤9223372036854775807)(z3:f.size≤9223372036854775807)(z4:t.size≤9223372036854775807)(z5:k.size≤9223372036854775807)(hin:MkIn w ma ms)(hZ:MkZ ms)(hn:ms.length≤140737488351232)(hcap:ms.length≤mc):
 Calls Tryz.prog 85 #[cardV v s n f t k (.slice ma ms.length mc)] w fun e w'=>RetCk v s n f t k ms sn w e w':=by
 have HIC:Hid (∀wq,Below w.heap.size w wq→Calls Tryz.prog 131 #[cardV v s n f t k (.slice ma ms.length mc)] wq fun e w'=>RetO (CardOk v s n f t k ms.length) wq e w'):=fun wq q=>isCard_any v s n f t k ma ms.length mc wq (hl.below q).d (hl.below q).t z1 z2 z3 z4 z5
 have HAM:Hid (∀wq,Below w.heap.size w wq→Calls Tryz.prog 132 #[.slice ma ms.length mc] wq fun e w'=>RetO (MarksOk ms) wq e w'):=fun wq q=>areMarks_any ms ma mc wq sn za (hl.below q) (hz.below q) (hin.below q) hZ hn hcap
 have HL:Hid (Lay w sn):=hl
 have HAT:Hid (∀x wq,Calls Tryz.prog 60 #[.int .i64 0,.iface 291 (.pointer (some (sn x)))] wq fun e w'=>e= .returned (fault 0 (sn x))∧w'=wq):=fun x wq=>at_any 0 _ wq
 unfold RetCk
 unfold fault at HAT ⊢
 unfold cardV at HIC ⊢
 clear hl hz hin hZ z1 z2 z3 z4 z5
 go_enter Tryz.func85,Tryz.ntmps85
 go_wp2_with fail
 refine(HIC.out _ ((Below.refl _ _).alloc (Nat.le_refl _) _)).mono ?_
 rintro e w1 ⟨r,rfl,hr,hb⟩
 have HB:Hid (Below w.heap.size w w1):=below_alloc hb
 cases r with
 |false=>
  have HN:Hid (¬CardOk v s n f t k ms.length):=fun q=>by cases hr.2 q
  have cC:=(HL.out.below HB.out).s.cCard
  have hgl:=lt_of_cell cC
  simp only at hgl
  clear hb hr
  go_wp2_with fail
  refine(HAT.out .Card _).mono ?_
  rintro e w2 ⟨rfl,rfl⟩
  go_wp2
  go_ret
  exact⟨HB.out,.inl ⟨HN.out,rfl⟩⟩
 |true=>
  have HC:Hid (CardOk v s n f t k ms.length):=hr.1 rfl
  have c6:w1.cell? ⟨w.heap.size,6,none⟩=some (.slice ma ms.length mc):=Ext.new (A:=#[.int .i64 v,.string s,.string n,.string f,.string t,.string k,.slice ma ms.length mc]) ⟨w1,hb⟩ rfl
  have hl6:w.heap.size<w1.heap.size:=lt_of_cell c6
  clear hb hr
  go_wp2_with fail
  refine(HAM.out _ HB.out).mono ?_
  rintro e w2 ⟨r,rfl,hr,hb2⟩
  have HB2:Hid (Below w.heap.size w w2):=HB.out.trans (hb2.mono HB.out.size)
  cases r with
  |false=>
   have HN:Hid (¬MarksOk ms):=fun q=>by cases hr.2 q
   have cC:=(HL.out.below HB2.out).s.cMark
   have hgl:=lt_of_cell cC
   simp only at hgl
   clear hb2 hr c6 hl6
   go_wp2_with fail
   refine(HAT.out .Mark _).mono ?_
   rintro e w3 ⟨rfl,rfl⟩
   go_wp2
   go_ret
   exact⟨HB2.out,.inr (.inl ⟨HC.out,HN.out,rfl⟩)⟩
  |true=>
   have HM:Hid (MarksOk ms):=hr.1 rfl
   clear hb2 hr c6 hl6
   go_wp2
   go_ret
   exact⟨HB2.out,.inr (.inr ⟨HC.out,HM.out,rfl⟩)⟩
def bT(b:Bool):ByteArray:=if b then⟨#[255]⟩else⟨#[0]⟩
def quadM(m:Mks):ByteArray×ByteArray×ByteArray:=(m.kind,bT m.must,m.body)
def msO(ms:List Mks):Option (List (ByteArray×ByteArray×ByteArray)):=if ms.length=0 then none else some (ms.map quadM)
def ctOf(v:Int)(s n:ByteArray)(pr:Bool)(f t k:ByteArray)(ms:List Mks):CT:=⟨⟨#[UInt8.ofNat v.toNat]⟩,s,n,pr,f,t,k,msO ms⟩
theorem nameKind_any(n:ByteArray)(w:World)(sn:Sn→Addr)(hl:Lay w sn)(hz:n.size≤9223372036854775807):
 Calls Tryz.prog 135 #[.string n] w fun e w'=>∃pr:Bool,e= .returned (.tuple #[.int .i64 (if pr then 8 else 7),.int .i64 (if pr then 0 else 1)])∧(pr=true↔ContentOk 8 n)∧Below w.heap.size w w':=by
 have HF:=hidec (fits_any 8 n w hz hl.d (valids n w hz hl.t))
 clear hl
 go_enter Tryz.func135,Tryz.ntmps135
 go_wp2_with fail
 refine HF.out.mono ?_
 rintro e w1 ⟨r,rfl,hr,hb⟩
 have HR:=hidec hr
 have HB:=hidec hb
 clear hr hb HF
 cases r
 ·go_wp2
  go_ret2
  exact⟨false,rfl,HR.out,HB.out⟩
 ·go_wp2
  go_ret2
  exact⟨true,rfl,by simpa using HR.out,HB.out⟩
theorem boolText_any(b:Bool)(w:World):Calls Tryz.prog 136 #[.bool b] w fun e w'=>e= .returned (.string (bT b))∧w'=w:=by
 go_enter Tryz.func136,Tryz.ntmps136
 cases b
 ·go_wp2
  go_ret
  exact⟨rfl,rfl⟩
 ·go_wp2
  go_ret
  exact⟨rfl,rfl⟩
def RetTo(v:Int)(s n f t k:ByteArray)(ms:List Mks)(w:World)(e:Ending)(w':World):Prop:=
 Below w.heap.size w w'∧∃(pr:Bool) (ta:Option Addr) (tc:Nat),(pr=true↔ContentOk 8 n)∧e= .returned (.slice ta (ctOf v s n pr f t k ms).tree.length tc)∧
  w'.ownsRow w.heap.size 60 4 (.slice ta (ctOf v s n pr f t k ms).tree.length tc) (ctOf v s n pr f t k ms).tree.length (vcells (ctOf v s n pr f t k ms).tree)
abbrev tHead(v:Int)(s n:ByteArray)(pr:Bool)(f t k:ByteArray):List Vl:=cHead ⟨#[UInt8.ofNat v.toNat]⟩ s n pr f t k
theorem treeOf_any(v:Int)(s n f t k:ByteArray)(ms:List Mks)(ma:Option Addr)(mc:Nat)(w:World)(sn:Sn→Addr)(hl:Lay w sn)(hz:n.size≤9223372036854775807)(hv0:0≤v)(hv1:v<256)(hin:MkIn w ma ms)(hlen:ms.length≤1000000):
 Calls Tryz.prog 87 #[cardV v s n f t k (.slice ma ms.length mc)] w fun e w'=>RetTo v s n f t k ms w e w':=by
 have HN:Hid (∀wq,Below w.heap.size w wq→Calls Tryz.prog 135 #[.string n] wq fun e w'=>∃pr:Bool,e= .returned (.tuple #[.int .i64 (if pr then 8 else 7),.int .i64 (if pr then 0 else 1)])∧(pr=true↔ContentOk 8 n)∧Below wq.heap.size wq w'):=fun wq q=>nameKind_any n wq sn (hl.below q) hz
 have HBT:Hid (∀b wq,Calls Tryz.prog 136 #[.bool b] wq fun e w'=>e= .returned (.string (bT b))∧w'=wq):=fun b wq=>boolText_any b wq
 have HI:=hidec hin
 obtain⟨i0,hi0,hz0,hz1,hz2⟩:=info_parts Tryz.infoVal
 have hcv:=conv_at v hv0 hv1
 have hwr:IntKind.u8.wrap v=v:=by simp[IntKind.wrap,IntKind.bits,IntKind.signed];omega
 unfold cardV
 clear hl hin hz
 go_enter Tryz.func87,Tryz.ntmps87
 go_wp2_with fail
 refine(HN.out _ ((Below.refl _ _).alloc (Nat.le_refl _) _)).mono ?_
 rintro e w1 ⟨pr,rfl,hpr,hb1⟩
 have hx:∀(i:Nat) (u:Value),(#[.int .i64 v,.string s,.string n,.string f,.string t,.string k,.slice ma ms.length mc]:Array Value)[i]? =some u→w1.cell? ⟨w.heap.size,i,none⟩=some u:=fun i u h=>Ext.new ⟨w1,hb1⟩ h
 have c0:w1.cell? ⟨w.heap.size,0,none⟩=some (.int .i64 v):=hx 0 _ rfl
 have c1:w1.cell? ⟨w.heap.size,1,none⟩=some (.string s):=hx 1 _ rfl
 have c2:w1.cell? ⟨w.heap.size,2,none⟩=some (.string n):=hx 2 _ rfl
 have c3:w1.cell? ⟨w.heap.size,3,none⟩=some (.string f):=hx 3 _ rfl
 have c4:w1.cell? ⟨w.heap.size,4,none⟩=some (.string t):=hx 4 _ rfl
 have c5:w1.cell? ⟨w.heap.size,5,none⟩=some (.string k):=hx 5 _ rfl
 have c6:w1.cell? ⟨w.heap.size,6,none⟩=some (.slice ma ms.length mc):=hx 6 _ rfl
 have HC1:Hid (w1.heap[w.heap.size]? =some (.cells #[.int .i64 v,.string s,.string n,.string f,.string t,.string k,.slice ma ms.length mc] 68 (0,0))):=block_below (heap_alloc_new w _) hb1
 have HB1:Hid (Below w.heap.size w w1):=below_alloc hb1
 have hl1:w.heap.size<w1.heap.size:=lt_of_cell c0
 have HPR:=hidec hpr
 obtain⟨kk,hkk⟩:∃kk:Int,(if pr=true then 8 else 7)=kk:=⟨_,rfl⟩
 obtain⟨al,hal⟩:∃al:Int,(if pr=true then 0 else 1)=al:=⟨_,rfl⟩
 rw[hkk,hal]
 have HKA:=hidec (And.intro hkk hal)
 clear hx hb1 hpr HN hkk hal
 go_upto_region 3 with fail
 have hvc:vcells (tHead v s n pr f t k)=[.int .i64 10,.string ⟨#[]⟩,.int .i64 0,.int .i64 6,.int .i64 2,.string ⟨#[UInt8.ofNat v.toNat]⟩,.int .i64 0,.int .i64 0,.int .i64 2,.string s,.int .i64 0,.int .i64 0,.int .i64 13,.string ⟨#[]⟩,.int .i64 al,.int .i64 1,.int .i64 kk,.string n,.int .i64 0,.int .i64 0,.int .i64 10,.string ⟨#[]⟩,.int .i64 0,.int .i64 2,.int .i64 9,.string f,.int .i64 0,.int .i64 0,.int .i64 9,.string t,.int .i64 0,.int .i64 0,.int .i64 5,.string k,.int .i64 0,.int .i64 0]:=by
  rw[←HKA.out.1,←HKA.out.2];rfl
 have hO0:=World.ownsRow_lit (base:=w.heap.size) (e:=60) (size:=4) (w1.alloc (.cells #[.int .u8 v] 5)) (vcells (tHead v s n pr f t k)).toArray 9 (by have:=HB1.out.size;simp;omega) (by decide) (by rw[hvc];rfl)
 have hBW0:Below w1.heap.size w1 ((w1.alloc (.cells #[.int .u8 v] 5)).alloc (.cells (vcells (tHead v s n pr f t k)).toArray 60)):=((Below.refl _ _).alloc (Nat.le_refl _) _).alloc (by simp) _
 rw[List.toList_toArray]at hO0
 have hsz:(w1.alloc (.cells #[.int .u8 v] 5)).heap.size=w1.heap.size+1:=by simp
 rw[hsz]at hO0
 have hO1:=hO0
 rw[hvc]at hO0 hBW0
 generalize hW2:((w1.alloc (.cells #[.int .u8 v] 5)).alloc (.cells #[.int .i64 10,.string ⟨#[]⟩,.int .i64 0,.int .i64 6,.int .i64 2,.string ⟨#[UInt8.ofNat v.toNat]⟩,.int .i64 0,.int .i64 0,.int .i64 2,.string s,.int .i64 0,.int .i64 0,.int .i64 13,.string ⟨#[]⟩,.int .i64 al,.int .i64 1,.int .i64 kk,.string n,.int .i64 0,.int .i64 0,.int .i64 10,.string ⟨#[]⟩,.int .i64 0,.int .i64 2,.int .i64 9,.string f,.int .i64 0,.int .i64 0,.int .i64 9,.string t,.int .i64 0,.int .i64 0,.int .i64 5,.string k,.int .i64 0,.int .i64 0] 60))=W2 at hO0 hBW0 ⊢
 have HOW:Hid (W2.ownsRow w.heap.size 60 4 (.slice (some ⟨w1.heap.size+1,0,none⟩) 9 9) 9 (vcells (tHead v s n pr f t k))):=by
  show W2.ownsRow _ _ _ _ _ _
  rw[hvc];exact hO0
 have HBW:Hid (Below w.heap.size w W2):=HB1.out.trans (hBW0.mono HB1.out.size)
 have c6':W2.cell? ⟨w.heap.size,6,none⟩=some (.slice ma ms.length mc):=(hBW0.cell (lt_of_cell c6)).trans c6
 have hlW:w.heap.size<W2.heap.size:=lt_of_cell c6'
 have HC2:Hid (W2.heap[w.heap.size]? =some (.cells #[.int .i64 v,.string s,.string n,.string f,.string t,.string k,.slice ma ms.length mc] 68 (0,0))):=block_below HC1.out hBW0
 generalize w1.heap.size+1=gb at HOW ⊢
 clear hO0 hO1 hBW0 hW2 hvc hsz c0 c1 c2 c3 c4 c5 c6 hl1 hcv hwr hv0 hv1 HKA HB1 HC1
 by_cases hm0:ms.length=0
 ·have hm0':((ms.length:Nat):Int)=0:=by omega
  have HO1:Hid ((W2.alloc (.cells #[.int .i64 15,.string ⟨#[]⟩,.int .i64 0,.int .i64 0] 60)).ownsRow w.heap.size 60 4 (.slice (some ⟨gb,0,none⟩) 9 9) 9 (vcells (tHead v s n pr f t k))):=HOW.out.alloc _
  go_wp2_with (at_builtin;refine wpList_append_lies _ rfl (.tmp 45) (.tmp 47) 39 rfl w.heap.size 60 i0 Tryz.zeroVal 4 40 Tryz.underlying39 hi0 hz0 hz1 hz2 rfl (by decide) (.slice (some ⟨gb,0,none⟩) 9 9) 9 (vcells (tHead v s n pr f t k)) rfl HO1.out ⟨W2.heap.size,0,none⟩ 1 1 (⟨15,noB,0,0⟩:Vl).cells rfl rfl (World.news_of_block (heap_alloc_new W2 _)) (by intro u hu;unfold Vl.cells at hu;simp at hu;rcases hu with rfl|rfl|rfl|rfl<;>rfl) (by decide) (by decide) (by decide) (by simp;omega) (W2.heap.size+1) (by simp) ?_;intro g cap w3 h1 h2 h3 h4;have HO3:=hidec h1;have HG3:=hidec h2;clear h1 h2 h3 h4)
  go_ret
  have hbW:=HBW.out.alloc HBW.out.size (.cells #[.int .i64 15,.string ⟨#[]⟩,.int .i64 0,.int .i64 0] 60)
  have htr:(ctOf v s n pr f t k ms).tree=tHead v s n pr f t k++[⟨15,noB,0,0⟩]:=by
   unfold ctOf CT.tree msO
   rw[if_pos hm0]
   rfl
  refine⟨hbW.grown HG3.out hbW.size (fun q hq=>(HO1.out.lt q hq).1),pr,some ⟨g,0,none⟩,cap,HPR.out,by rw[htr];rfl,?_⟩
  rw[htr,vcells_app]
  exact HO3.out
 ·have hm0':¬(((ms.length:Nat):Int)=0):=by omega
  have hmb:decide (((ms.length:Nat):Int)=0)=false:=decide_eq_false hm0'
  have HO1:Hid ((W2.alloc (.cells #[.int .i64 11,.string ⟨#[]⟩,.int .i64 0,.int .i64 ms.length] 60)).ownsRow w.heap.size 60 4 (.slice (some ⟨gb,0,none⟩) 9 9) 9 (vcells (tHead v s n pr f t k))):=HOW.out.alloc _
  go_upto_region 6 with(at_builtin;refine wpList_append_lies _ rfl (.tmp 49) (.tmp 54) 39 rfl w.heap.size 60 i0 Tryz.zeroVal 4 40 Tryz.underlying39 hi0 hz0 hz1 hz2 rfl (by decide) (.slice (some ⟨gb,0,none⟩) 9 9) 9 (vcells (tHead v s n pr f t k)) rfl HO1.out ⟨W2.heap.size,0,none⟩ 1 1 (⟨11,noB,0,ms.length⟩:Vl).cells rfl rfl (World.news_of_block (heap_alloc_new W2 _)) (by intro u hu;unfold Vl.cells at hu;simp at hu;rcases hu with rfl|rfl|rfl|rfl<;>rfl) (by decide) (by decide) (by decide) (by simp;omega) (W2.heap.size+1) (by simp) ?_;intro g cap w3 h1 h2 h3 h4;have HO3:=hidec h1;have HG3:=hidec h2;clear h1 h2 h3 h4)
  have hbW:=HBW.out.alloc HBW.out.size (.cells #[.int .i64 11,.string ⟨#[]⟩,.int .i64 0,.int .i64 ms.length] 60)
  have HB3:Hid (Below w.heap.size w w3):=hbW.grown HG3.out hbW.size (fun q hq=>(HO1.out.lt q hq).1)
  have hC3:w3.heap[w.heap.size]? =some (.cells #[.int .i64 v,.string s,.string n,.string f,.string t,.string k,.slice ma ms.length mc] 68 (0,0)):=by
   have hCa:=block_below HC2.out ((Below.refl _ _).alloc (Nat.le_refl _) (.cells #[.int .i64 11,.string ⟨#[]⟩,.int .i64 0,.int .i64 ms.length] 60))
   rw[HG3.out.block _ (row_lt hCa) (fun q=>row_ne1 hCa HO1.out (by decide) q.symm)]
   exact hCa
  have c63:w3.cell? ⟨w.heap.size,6,none⟩=some (.slice ma ms.length mc):=by simp[World.cell?,hC3]
  have hl3:w.heap.size<w3.heap.size:=lt_of_cell c63
  have HO3':Hid (w3.ownsRow w.heap.size 60 4 (.slice (some ⟨g,0,none⟩) 10 cap) 10 (vcells (tHead v s n pr f t k++[⟨11,noB,0,ms.length⟩]))):=by
   show w3.ownsRow _ _ _ _ _ _
   rw[vcells_app];exact HO3.out
  clear hbW hC3 HO3 HG3 HO1 HC2 HOW HBW c6' hlW
  go_wp2
  go_loopw [5,59] (fun v5 vi wr=>∃j:Nat,j≤ms.length∧vi= .int .i64 j∧Below w.heap.size w wr∧wr.ownsRow w.heap.size 60 4 v5 (10+j*4) (vcells (tHead v s n pr f t k++[⟨11,noB,0,ms.length⟩]++(ms.take j).flatMap fun m=>quadL (quadM m)))) (fun _ vi _=>ms.length-(intOf vi).toNat)
  case atStart=>exact⟨0,Nat.zero_le _,rfl,HB3.out,by rw[List.take_zero,List.flatMap_nil,List.append_nil];exact HO3'.out⟩
  case round=>
   obtain⟨j,hj,rfl,hbr,hor⟩:=hrel
   have HBR:=hidec hbr
   have HOR:=hidec hor
   clear hbr hor
   by_cases hlt:j<ms.length
   ·have hlt':(j:Int)<ms.length:=by omega
    obtain⟨g1,o1,rfl,c0,c1,c2⟩:=HI.out j hlt
    have htk:ms.take (j+1)=ms.take j++[ms.getD j mk0]:=by rw[List.take_add_one,List.getElem?_eq_getElem hlt,List.getD_eq_getElem?_getD,List.getElem?_eq_getElem hlt];rfl
    have HTK:=hidec htk
    obtain⟨m,hm⟩:∃m,ms.getD j mk0=m:=⟨_,rfl⟩
    rw[hm]at c0 c1 c2 HTK
    have d0:wr.cell? ⟨g1,o1+j*3,none⟩=some (.string m.kind):=(HBR.out.cell (lt_of_cell c0)).trans c0
    have d1:wr.cell? ⟨g1,o1+j*3+1,none⟩=some (.bool m.must):=(HBR.out.cell (lt_of_cell c1)).trans c1
    have d2:wr.cell? ⟨g1,o1+j*3+2,none⟩=some (.string m.body):=(HBR.out.cell (lt_of_cell c2)).trans c2
    have hgl:g1<wr.heap.size:=lt_of_cell d0
    clear c0 c1 c2 hm htk
    go_upto_region 9 with fail
    have HOA:Hid ((wr.alloc (.cells #[.string m.kind,.bool m.must,.string m.body] 73)).ownsRow w.heap.size 60 4 u5 (10+j*4) (vcells (tHead v s n pr f t k++[⟨11,noB,0,ms.length⟩]++(ms.take j).flatMap fun m=>quadL (quadM m)))):=HOR.out.alloc _
    have HBA:Hid (Below w.heap.size w (wr.alloc (.cells #[.string m.kind,.bool m.must,.string m.body] 73))):=HBR.out.alloc HBR.out.size _
    have hXA:(wr.alloc (.cells #[.string m.kind,.bool m.must,.string m.body] 73)).heap[wr.heap.size]? =some (.cells #[.string m.kind,.bool m.must,.string m.body] 73 (0,0)):=heap_alloc_new wr _
    generalize(wr.alloc (.cells #[.string m.kind,.bool m.must,.string m.body] 73))=w2 at HOA HBA hXA ⊢
    generalize wr.heap.size=mb at hXA ⊢
    have x0:w2.cell? ⟨mb,0,none⟩=some (.string m.kind):=by simp[World.cell?,hXA]
    have x1:w2.cell? ⟨mb,1,none⟩=some (.bool m.must):=by simp[World.cell?,hXA]
    have x2:w2.cell? ⟨mb,2,none⟩=some (.string m.body):=by simp[World.cell?,hXA]
    have hml:mb<w2.heap.size:=lt_of_cell x0
    clear d0 d1 d2 hgl HOR HBR
    have HXA:=hidec hXA
    have KP:Hid (w2.drew.cell? ⟨mb,0,none⟩=some (.string m.kind)∧w2.drew.cell? ⟨mb,1,none⟩=some (.bool m.must)∧w2.drew.cell? ⟨mb,2,none⟩=some (.string m.body)):=⟨x0,x1,x2⟩
    clear hXA
    go_region_held_law (fun w'=>w'.cell? ⟨mb,0,none⟩=some (.string m.kind)∧w'.cell? ⟨mb,1,none⟩=some (.bool m.must)∧w'.cell? ⟨mb,2,none⟩=some (.string m.body)) (first|exact KP.out|go_keep) (first
     |(go_at_call 136;refine(HBT.out _ _).mono ?_;rintro e wz ⟨rfl,rfl⟩)
     |(refine step_append_lies _ rfl (.tmp 63) (.tmp 75) 39 rfl w.heap.size 60 i0 Tryz.zeroVal 4 40 Tryz.underlying39 hi0 hz0 hz1 hz2 rfl (by decide) u5 (10+j*4) (vcells (tHead v s n pr f t k++[⟨11,noB,0,ms.length⟩]++(ms.take j).flatMap fun m=>quadL (quadM m))) (by simp[Act.eval,Act.put]) ((HOA.out.alloc _).drew) ⟨w2.heap.size,0,none⟩ 4 4 (vcells (quadL (quadM m))) (by simp[Act.eval,Act.put]) rfl (World.news_of_block (w:=(w2.alloc (.cells #[.int .i64 10,.string ⟨#[]⟩,.int .i64 0,.int .i64 3,.int .i64 4,.string m.kind,.int .i64 0,.int .i64 0,.int .i64 1,.string (bT m.must),.int .i64 0,.int .i64 0,.int .i64 6,.string m.body,.int .i64 0,.int .i64 0] 60)).drew) (heap_alloc_new w2 (.cells #[.int .i64 10,.string ⟨#[]⟩,.int .i64 0,.int .i64 3,.int .i64 4,.string m.kind,.int .i64 0,.int .i64 0,.int .i64 1,.string (bT m.must),.int .i64 0,.int .i64 0,.int .i64 6,.string m.body,.int .i64 0,.int .i64 0] 60))) (by intro u hu;unfold vcells quadL quadM Vl.cells at hu;simp at hu;rcases hu with rfl|rfl|rfl|rfl|rfl|rfl|rfl|rfl|rfl|rfl|rfl|rfl|rfl|rfl|rfl|rfl<;>rfl) (by decide) (by unfold maxLen;omega) (by omega) (by have:=HBA.out.size;simp;omega) (w2.heap.size+1) (by simp) ?_;intro g4 cap4 w4 h1 h2 h3 h4;have HO4:=hidec h1;have HG4:=hidec h2;have hXw:=block_below HXA.out ((Below.refl _ _).alloc (Nat.le_refl _) (.cells #[.int .i64 10,.string ⟨#[]⟩,.int .i64 0,.int .i64 3,.int .i64 4,.string m.kind,.int .i64 0,.int .i64 0,.int .i64 1,.string (bT m.must),.int .i64 0,.int .i64 0,.int .i64 6,.string m.body,.int .i64 0,.int .i64 0] 60));have hX4:w4.heap[mb]? =some (.cells #[.string m.kind,.bool m.must,.string m.body] 73 (0,0)):=(HG4.out.block mb (row_lt hXw) (fun q=>row_ne1 hXw (HOA.out.alloc _) (by decide) q.symm)).trans hXw;have y0:w4.cell? ⟨mb,0,none⟩=some (.string m.kind):=by {simp[World.cell?,hX4]};have y1:w4.cell? ⟨mb,1,none⟩=some (.bool m.must):=by {simp[World.cell?,hX4]};have y2:w4.cell? ⟨mb,2,none⟩=some (.string m.body):=by {simp[World.cell?,hX4]};clear h1 h2 h3 hXw hX4))
    have hbD:=(HBA.out.alloc HBA.out.size (.cells #[.int .i64 10,.string ⟨#[]⟩,.int .i64 0,.int .i64 3,.int .i64 4,.string m.kind,.int .i64 0,.int .i64 0,.int .i64 1,.string (bT m.must),.int .i64 0,.int .i64 0,.int .i64 6,.string m.body,.int .i64 0,.int .i64 0] 60)).drew
    have HB4:Hid (Below w.heap.size w w4):=hbD.grown HG4.out hbD.size (fun q hq=>((HOA.out.alloc (.cells #[.int .i64 10,.string ⟨#[]⟩,.int .i64 0,.int .i64 3,.int .i64 4,.string m.kind,.int .i64 0,.int .i64 0,.int .i64 1,.string (bT m.must),.int .i64 0,.int .i64 0,.int .i64 6,.string m.body,.int .i64 0,.int .i64 0] 60)).drew.lt q hq).1)
    clear hbD HOA HG4
    go_wp2
    go_roundw
    case rel=>
     refine⟨j+1,by omega,by go_num,HB4.out,?_⟩
     rw[HTK.out,List.flatMap_append,←List.append_assoc,vcells_app]
     have q:=HO4.out
     rw[show 10+(j+1)*4=10+j*4+4 by omega]
     simpa using q
    case measure=>simp[intOf];omega
   ·have hlt':(ms.length:Int)≤j:=by omega
    obtain rfl:j=ms.length:=by omega
    have htr:(ctOf v s n pr f t k ms).tree=tHead v s n pr f t k++[⟨11,noB,0,ms.length⟩]++(ms.take ms.length).flatMap fun m=>quadL (quadM m):=by
     unfold ctOf CT.tree msO
     rw[if_neg hm0,List.take_length]
     unfold cTail
     simp only[List.length_map,List.append_assoc,List.singleton_append,List.flatMap_map]
    have hlt2:(ctOf v s n pr f t k ms).tree.length=10+ms.length*4:=by
     have:=HOR.out.1
     rw[←htr,vcells_len]at this
     omega
    obtain⟨ta,tc,rfl,_⟩:=own_form2 HOR.out
    go_wp2
    go_ret
    refine⟨HBR.out,pr,ta,tc,HPR.out,by rw[hlt2];rfl,?_⟩
    rw[hlt2,htr]
    exact HOR.out
theorem schema_any(w:World):Calls Tryz.prog 86 #[] w fun e w'=>∃g,e= .returned (.slice (some ⟨g,0,none⟩) 14 14)∧Sch w' (some ⟨g,0,none⟩) cS∧Below w.heap.size w w':=by
 have HP:Hid (∀(k:Int) (ka:Option Addr) (n kc:Nat) wq,Calls Tryz.prog 133 #[.int .i64 k,.slice ka n kc] wq fun e w'=>e= .returned (.agg #[.int .i64 k,.int .i64 (-1),.int .i64 0,.slice ka n kc])∧Below wq.heap.size wq w'):=fun k ka n kc wq=>plain_any k ka n kc wq
 have HA:Hid (∀(t k g m:Int) (ka:Option Addr) (n kc:Nat) wq,Calls Tryz.prog 134 #[.int .i64 t,.agg #[.int .i64 k,.int .i64 g,.int .i64 m,.slice ka n kc]] wq fun e w'=>e= .returned (.agg #[.int .i64 k,.int .i64 t,.int .i64 1,.slice ka n kc])∧Below wq.heap.size wq w'):=fun t k g m ka n kc wq=>around_any t k g m ka n kc wq
 have HB:Hid (Below w.heap.size w w):=Below.refl _ _
 go_enter Tryz.func86,Tryz.ntmps86
 go_wp2_with fail
 refine(HP.out 10 _ _ _ _).mono ?_
 rintro e w1 ⟨rfl,hb⟩
 have hb0:Below w.heap.size w (w.alloc (.cells (kcells [⟨1,false,vdB⟩,⟨2,false,noB⟩,⟨3,false,noB⟩,⟨6,false,noB⟩,⟨8,false,noB⟩,⟨9,true,noB⟩]).toArray 55)):=(Below.refl _ _).alloc (Nat.le_refl _) _
 have HK6:Hid (KidsIn w1 (some ⟨w.heap.size,0,none⟩) [⟨1,false,vdB⟩,⟨2,false,noB⟩,⟨3,false,noB⟩,⟨6,false,noB⟩,⟨8,false,noB⟩,⟨9,true,noB⟩]):=(kids_alloc [⟨1,false,vdB⟩,⟨2,false,noB⟩,⟨3,false,noB⟩,⟨6,false,noB⟩,⟨8,false,noB⟩,⟨9,true,noB⟩] w).below hb
 have hc:Below w.heap.size w w1:=hb0.trans (hb.mono hb0.size)
 have HB:Hid (Below w.heap.size w w1):=HB.out.trans (hc.mono HB.out.size)
 clear hb hc hb0
 go_wp2_with fail
 refine(HP.out 2 _ _ _ _).mono ?_
 rintro e w2 ⟨rfl,hb⟩
 have hc:Below w1.heap.size w1 w2:=hb
 have HK6:Hid (KidsIn w2 (some ⟨w.heap.size,0,none⟩) [⟨1,false,vdB⟩,⟨2,false,noB⟩,⟨3,false,noB⟩,⟨6,false,noB⟩,⟨8,false,noB⟩,⟨9,true,noB⟩]):=HK6.out.below hc
 have HB:Hid (Below w.heap.size w w2):=HB.out.trans (hc.mono HB.out.size)
 clear hb hc
 go_wp2_with fail
 refine(HA.out 0 2 (-1) 0 _ _ _ _).mono ?_
 rintro e w3 ⟨rfl,hb⟩
 have hc:Below w2.heap.size w2 w3:=hb
 have HK6:Hid (KidsIn w3 (some ⟨w.heap.size,0,none⟩) [⟨1,false,vdB⟩,⟨2,false,noB⟩,⟨3,false,noB⟩,⟨6,false,noB⟩,⟨8,false,noB⟩,⟨9,true,noB⟩]):=HK6.out.below hc
 have HB:Hid (Below w.heap.size w w3):=HB.out.trans (hc.mono HB.out.size)
 clear hb hc
 go_wp2_with fail
 refine(HP.out 2 _ _ _ _).mono ?_
 rintro e w4 ⟨rfl,hb⟩
 have hc:Below w3.heap.size w3 w4:=hb
 have HK6:Hid (KidsIn w4 (some ⟨w.heap.size,0,none⟩) [⟨1,false,vdB⟩,⟨2,false,noB⟩,⟨3,false,noB⟩,⟨6,false,noB⟩,⟨8,false,noB⟩,⟨9,true,noB⟩]):=HK6.out.below hc
 have HB:Hid (Below w.heap.size w w4):=HB.out.trans (hc.mono HB.out.size)
 clear hb hc
 go_wp2_with fail
 refine(HP.out 13 _ _ _ _).mono ?_
 rintro e w5 ⟨rfl,hb⟩
 have hb0:Below w4.heap.size w4 (w4.alloc (.cells (kcells [⟨4,false,noB⟩,⟨5,false,noB⟩]).toArray 55)):=(Below.refl _ _).alloc (Nat.le_refl _) _
 have HK13:Hid (KidsIn w5 (some ⟨w4.heap.size,0,none⟩) [⟨4,false,noB⟩,⟨5,false,noB⟩]):=(kids_alloc [⟨4,false,noB⟩,⟨5,false,noB⟩] w4).below hb
 have hc:Below w4.heap.size w4 w5:=hb0.trans (hb.mono hb0.size)
 have HK6:Hid (KidsIn w5 (some ⟨w.heap.size,0,none⟩) [⟨1,false,vdB⟩,⟨2,false,noB⟩,⟨3,false,noB⟩,⟨6,false,noB⟩,⟨8,false,noB⟩,⟨9,true,noB⟩]):=HK6.out.below hc
 have HB:Hid (Below w.heap.size w w5):=HB.out.trans (hc.mono HB.out.size)
 clear hb hc hb0
 go_wp2_with fail
 refine(HP.out 8 _ _ _ _).mono ?_
 rintro e w6 ⟨rfl,hb⟩
 have hc:Below w5.heap.size w5 w6:=hb
 have HK6:Hid (KidsIn w6 (some ⟨w.heap.size,0,none⟩) [⟨1,false,vdB⟩,⟨2,false,noB⟩,⟨3,false,noB⟩,⟨6,false,noB⟩,⟨8,false,noB⟩,⟨9,true,noB⟩]):=HK6.out.below hc
 have HK13:Hid (KidsIn w6 (some ⟨w4.heap.size,0,none⟩) [⟨4,false,noB⟩,⟨5,false,noB⟩]):=HK13.out.below hc
 have HB:Hid (Below w.heap.size w w6):=HB.out.trans (hc.mono HB.out.size)
 clear hb hc
 go_wp2_with fail
 refine(HP.out 7 _ _ _ _).mono ?_
 rintro e w7 ⟨rfl,hb⟩
 have hc:Below w6.heap.size w6 w7:=hb
 have HK6:Hid (KidsIn w7 (some ⟨w.heap.size,0,none⟩) [⟨1,false,vdB⟩,⟨2,false,noB⟩,⟨3,false,noB⟩,⟨6,false,noB⟩,⟨8,false,noB⟩,⟨9,true,noB⟩]):=HK6.out.below hc
 have HK13:Hid (KidsIn w7 (some ⟨w4.heap.size,0,none⟩) [⟨4,false,noB⟩,⟨5,false,noB⟩]):=HK13.out.below hc
 have HB:Hid (Below w.heap.size w w7):=HB.out.trans (hc.mono HB.out.size)
 clear hb hc
 go_wp2_with fail
 refine(HP.out 10 _ _ _ _).mono ?_
 rintro e w8 ⟨rfl,hb⟩
 have hb0:Below w7.heap.size w7 (w7.alloc (.cells (kcells [⟨7,false,noB⟩,⟨7,false,noB⟩]).toArray 55)):=(Below.refl _ _).alloc (Nat.le_refl _) _
 have HK19:Hid (KidsIn w8 (some ⟨w7.heap.size,0,none⟩) [⟨7,false,noB⟩,⟨7,false,noB⟩]):=(kids_alloc [⟨7,false,noB⟩,⟨7,false,noB⟩] w7).below hb
 have hc:Below w7.heap.size w7 w8:=hb0.trans (hb.mono hb0.size)
 have HK6:Hid (KidsIn w8 (some ⟨w.heap.size,0,none⟩) [⟨1,false,vdB⟩,⟨2,false,noB⟩,⟨3,false,noB⟩,⟨6,false,noB⟩,⟨8,false,noB⟩,⟨9,true,noB⟩]):=HK6.out.below hc
 have HK13:Hid (KidsIn w8 (some ⟨w4.heap.size,0,none⟩) [⟨4,false,noB⟩,⟨5,false,noB⟩]):=HK13.out.below hc
 have HB:Hid (Below w.heap.size w w8):=HB.out.trans (hc.mono HB.out.size)
 clear hb hc hb0
 go_wp2_with fail
 refine(HP.out 9 _ _ _ _).mono ?_
 rintro e w9 ⟨rfl,hb⟩
 have hc:Below w8.heap.size w8 w9:=hb
 have HK6:Hid (KidsIn w9 (some ⟨w.heap.size,0,none⟩) [⟨1,false,vdB⟩,⟨2,false,noB⟩,⟨3,false,noB⟩,⟨6,false,noB⟩,⟨8,false,noB⟩,⟨9,true,noB⟩]):=HK6.out.below hc
 have HK13:Hid (KidsIn w9 (some ⟨w4.heap.size,0,none⟩) [⟨4,false,noB⟩,⟨5,false,noB⟩]):=HK13.out.below hc
 have HK19:Hid (KidsIn w9 (some ⟨w7.heap.size,0,none⟩) [⟨7,false,noB⟩,⟨7,false,noB⟩]):=HK19.out.below hc
 have HB:Hid (Below w.heap.size w w9):=HB.out.trans (hc.mono HB.out.size)
 clear hb hc
 go_wp2_with fail
 refine(HP.out 5 _ _ _ _).mono ?_
 rintro e w10 ⟨rfl,hb⟩
 have hc:Below w9.heap.size w9 w10:=hb
 have HK6:Hid (KidsIn w10 (some ⟨w.heap.size,0,none⟩) [⟨1,false,vdB⟩,⟨2,false,noB⟩,⟨3,false,noB⟩,⟨6,false,noB⟩,⟨8,false,noB⟩,⟨9,true,noB⟩]):=HK6.out.below hc
 have HK13:Hid (KidsIn w10 (some ⟨w4.heap.size,0,none⟩) [⟨4,false,noB⟩,⟨5,false,noB⟩]):=HK13.out.below hc
 have HK19:Hid (KidsIn w10 (some ⟨w7.heap.size,0,none⟩) [⟨7,false,noB⟩,⟨7,false,noB⟩]):=HK19.out.below hc
 have HB:Hid (Below w.heap.size w w10):=HB.out.trans (hc.mono HB.out.size)
 clear hb hc
 go_wp2_with fail
 refine(HP.out 11 _ _ _ _).mono ?_
 rintro e w11 ⟨rfl,hb⟩
 have hb0:Below w10.heap.size w10 (w10.alloc (.cells (kcells [⟨10,false,noB⟩]).toArray 55)):=(Below.refl _ _).alloc (Nat.le_refl _) _
 have HK24:Hid (KidsIn w11 (some ⟨w10.heap.size,0,none⟩) [⟨10,false,noB⟩]):=(kids_alloc [⟨10,false,noB⟩] w10).below hb
 have hc:Below w10.heap.size w10 w11:=hb0.trans (hb.mono hb0.size)
 have HK6:Hid (KidsIn w11 (some ⟨w.heap.size,0,none⟩) [⟨1,false,vdB⟩,⟨2,false,noB⟩,⟨3,false,noB⟩,⟨6,false,noB⟩,⟨8,false,noB⟩,⟨9,true,noB⟩]):=HK6.out.below hc
 have HK13:Hid (KidsIn w11 (some ⟨w4.heap.size,0,none⟩) [⟨4,false,noB⟩,⟨5,false,noB⟩]):=HK13.out.below hc
 have HK19:Hid (KidsIn w11 (some ⟨w7.heap.size,0,none⟩) [⟨7,false,noB⟩,⟨7,false,noB⟩]):=HK19.out.below hc
 have HB:Hid (Below w.heap.size w w11):=HB.out.trans (hc.mono HB.out.size)
 clear hb hc hb0
 go_wp2_with fail
 refine(HA.out 3 11 (-1) 0 _ _ _ _).mono ?_
 rintro e w12 ⟨rfl,hb⟩
 have hc:Below w11.heap.size w11 w12:=hb
 have HK6:Hid (KidsIn w12 (some ⟨w.heap.size,0,none⟩) [⟨1,false,vdB⟩,⟨2,false,noB⟩,⟨3,false,noB⟩,⟨6,false,noB⟩,⟨8,false,noB⟩,⟨9,true,noB⟩]):=HK6.out.below hc
 have HK13:Hid (KidsIn w12 (some ⟨w4.heap.size,0,none⟩) [⟨4,false,noB⟩,⟨5,false,noB⟩]):=HK13.out.below hc
 have HK19:Hid (KidsIn w12 (some ⟨w7.heap.size,0,none⟩) [⟨7,false,noB⟩,⟨7,false,noB⟩]):=HK19.out.below hc
 have HK24:Hid (KidsIn w12 (some ⟨w10.heap.size,0,none⟩) [⟨10,false,noB⟩]):=HK24.out.below hc
 have HB:Hid (Below w.heap.size w w12):=HB.out.trans (hc.mono HB.out.size)
 clear hb hc
 go_wp2_with fail
 refine(HP.out 10 _ _ _ _).mono ?_
 rintro e w13 ⟨rfl,hb⟩
 have hb0:Below w12.heap.size w12 (w12.alloc (.cells (kcells [⟨11,false,noB⟩,⟨12,false,fdB⟩,⟨13,false,noB⟩]).toArray 55)):=(Below.refl _ _).alloc (Nat.le_refl _) _
 have HK30:Hid (KidsIn w13 (some ⟨w12.heap.size,0,none⟩) [⟨11,false,noB⟩,⟨12,false,fdB⟩,⟨13,false,noB⟩]):=(kids_alloc [⟨11,false,noB⟩,⟨12,false,fdB⟩,⟨13,false,noB⟩] w12).below hb
 have hc:Below w12.heap.size w12 w13:=hb0.trans (hb.mono hb0.size)
 have HK6:Hid (KidsIn w13 (some ⟨w.heap.size,0,none⟩) [⟨1,false,vdB⟩,⟨2,false,noB⟩,⟨3,false,noB⟩,⟨6,false,noB⟩,⟨8,false,noB⟩,⟨9,true,noB⟩]):=HK6.out.below hc
 have HK13:Hid (KidsIn w13 (some ⟨w4.heap.size,0,none⟩) [⟨4,false,noB⟩,⟨5,false,noB⟩]):=HK13.out.below hc
 have HK19:Hid (KidsIn w13 (some ⟨w7.heap.size,0,none⟩) [⟨7,false,noB⟩,⟨7,false,noB⟩]):=HK19.out.below hc
 have HK24:Hid (KidsIn w13 (some ⟨w10.heap.size,0,none⟩) [⟨10,false,noB⟩]):=HK24.out.below hc
 have HB:Hid (Below w.heap.size w w13):=HB.out.trans (hc.mono HB.out.size)
 clear hb hc hb0
 go_wp2_with fail
 refine(HP.out 4 _ _ _ _).mono ?_
 rintro e w14 ⟨rfl,hb⟩
 have hc:Below w13.heap.size w13 w14:=hb
 have HK6:Hid (KidsIn w14 (some ⟨w.heap.size,0,none⟩) [⟨1,false,vdB⟩,⟨2,false,noB⟩,⟨3,false,noB⟩,⟨6,false,noB⟩,⟨8,false,noB⟩,⟨9,true,noB⟩]):=HK6.out.below hc
 have HK13:Hid (KidsIn w14 (some ⟨w4.heap.size,0,none⟩) [⟨4,false,noB⟩,⟨5,false,noB⟩]):=HK13.out.below hc
 have HK19:Hid (KidsIn w14 (some ⟨w7.heap.size,0,none⟩) [⟨7,false,noB⟩,⟨7,false,noB⟩]):=HK19.out.below hc
 have HK24:Hid (KidsIn w14 (some ⟨w10.heap.size,0,none⟩) [⟨10,false,noB⟩]):=HK24.out.below hc
 have HK30:Hid (KidsIn w14 (some ⟨w12.heap.size,0,none⟩) [⟨11,false,noB⟩,⟨12,false,fdB⟩,⟨13,false,noB⟩]):=HK30.out.below hc
 have HB:Hid (Below w.heap.size w w14):=HB.out.trans (hc.mono HB.out.size)
 clear hb hc
 go_wp2_with fail
 refine(HP.out 1 _ _ _ _).mono ?_
 rintro e w15 ⟨rfl,hb⟩
 have hc:Below w14.heap.size w14 w15:=hb
 have HK6:Hid (KidsIn w15 (some ⟨w.heap.size,0,none⟩) [⟨1,false,vdB⟩,⟨2,false,noB⟩,⟨3,false,noB⟩,⟨6,false,noB⟩,⟨8,false,noB⟩,⟨9,true,noB⟩]):=HK6.out.below hc
 have HK13:Hid (KidsIn w15 (some ⟨w4.heap.size,0,none⟩) [⟨4,false,noB⟩,⟨5,false,noB⟩]):=HK13.out.below hc
 have HK19:Hid (KidsIn w15 (some ⟨w7.heap.size,0,none⟩) [⟨7,false,noB⟩,⟨7,false,noB⟩]):=HK19.out.below hc
 have HK24:Hid (KidsIn w15 (some ⟨w10.heap.size,0,none⟩) [⟨10,false,noB⟩]):=HK24.out.below hc
 have HK30:Hid (KidsIn w15 (some ⟨w12.heap.size,0,none⟩) [⟨11,false,noB⟩,⟨12,false,fdB⟩,⟨13,false,noB⟩]):=HK30.out.below hc
 have HB:Hid (Below w.heap.size w w15):=HB.out.trans (hc.mono HB.out.size)
 clear hb hc
 go_wp2_with fail
 refine(HP.out 6 _ _ _ _).mono ?_
 rintro e w16 ⟨rfl,hb⟩
 have hc:Below w15.heap.size w15 w16:=hb
 have HK6:Hid (KidsIn w16 (some ⟨w.heap.size,0,none⟩) [⟨1,false,vdB⟩,⟨2,false,noB⟩,⟨3,false,noB⟩,⟨6,false,noB⟩,⟨8,false,noB⟩,⟨9,true,noB⟩]):=HK6.out.below hc
 have HK13:Hid (KidsIn w16 (some ⟨w4.heap.size,0,none⟩) [⟨4,false,noB⟩,⟨5,false,noB⟩]):=HK13.out.below hc
 have HK19:Hid (KidsIn w16 (some ⟨w7.heap.size,0,none⟩) [⟨7,false,noB⟩,⟨7,false,noB⟩]):=HK19.out.below hc
 have HK24:Hid (KidsIn w16 (some ⟨w10.heap.size,0,none⟩) [⟨10,false,noB⟩]):=HK24.out.below hc
 have HK30:Hid (KidsIn w16 (some ⟨w12.heap.size,0,none⟩) [⟨11,false,noB⟩,⟨12,false,fdB⟩,⟨13,false,noB⟩]):=HK30.out.below hc
 have HB:Hid (Below w.heap.size w w16):=HB.out.trans (hc.mono HB.out.size)
 clear hb hc
 go_wp2
 go_ret
 exact⟨_,rfl,nodes_alloc [(⟨10, -1,0,[⟨1,false,vdB⟩,⟨2,false,noB⟩,⟨3,false,noB⟩,⟨6,false,noB⟩,⟨8,false,noB⟩,⟨9,true,noB⟩]⟩,some ⟨w.heap.size,0,none⟩,6),(⟨2,0,1,[]⟩,none,0),(⟨2, -1,0,[]⟩,none,0),(⟨13, -1,0,[⟨4,false,noB⟩,⟨5,false,noB⟩]⟩,some ⟨w4.heap.size,0,none⟩,2),(⟨8, -1,0,[]⟩,none,0),(⟨7, -1,0,[]⟩,none,0),(⟨10, -1,0,[⟨7,false,noB⟩,⟨7,false,noB⟩]⟩,some ⟨w7.heap.size,0,none⟩,2),(⟨9, -1,0,[]⟩,none,0),(⟨5, -1,0,[]⟩,none,0),(⟨11,3,1,[⟨10,false,noB⟩]⟩,some ⟨w10.heap.size,0,none⟩,1),(⟨10, -1,0,[⟨11,false,noB⟩,⟨12,false,fdB⟩,⟨13,false,noB⟩]⟩,some ⟨w12.heap.size,0,none⟩,3),(⟨4, -1,0,[]⟩,none,0),(⟨1, -1,0,[]⟩,none,0),(⟨6, -1,0,[]⟩,none,0)] w16 (nod_cons (Nat.le_refl _) (by decide) HK6.out (nod_cons (Nat.le_refl _) (by decide) (fun j hj=>absurd hj (Nat.not_lt_zero _)) (nod_cons (Nat.le_refl _) (by decide) (fun j hj=>absurd hj (Nat.not_lt_zero _)) (nod_cons (Nat.le_refl _) (by decide) HK13.out (nod_cons (Nat.le_refl _) (by decide) (fun j hj=>absurd hj (Nat.not_lt_zero _)) (nod_cons (Nat.le_refl _) (by decide) (fun j hj=>absurd hj (Nat.not_lt_zero _)) (nod_cons (Nat.le_refl _) (by decide) HK19.out (nod_cons (Nat.le_refl _) (by decide) (fun j hj=>absurd hj (Nat.not_lt_zero _)) (nod_cons (Nat.le_refl _) (by decide) (fun j hj=>absurd hj (Nat.not_lt_zero _)) (nod_cons (Nat.le_refl _) (by decide) HK24.out (nod_cons (Nat.le_refl _) (by decide) HK30.out (nod_cons (Nat.le_refl _) (by decide) (fun j hj=>absurd hj (Nat.not_lt_zero _)) (nod_cons (Nat.le_refl _) (by decide) (fun j hj=>absurd hj (Nat.not_lt_zero _)) (nod_cons (Nat.le_refl _) (by decide) (fun j hj=>absurd hj (Nat.not_lt_zero _)) nod_nil)))))))))))))),HB.out.alloc HB.out.size _⟩
structure FrX(R:Nat)(w w':World):Prop where
 size:w.heap.size≤w'.heap.size
 stay:∀(k:Nat) (o:Obj),k≠R→(∀A,o≠ .cells A 5 (0,0))→w.heap[k]? =some o→w'.heap[k]? =some o
theorem FrX.refl(R:Nat)(w:World):FrX R w w:=⟨Nat.le_refl _,fun _ _ _ _ h=>h⟩
theorem FrX.trans{R:Nat}{w w1 w2:World}(h:FrX R w w1)(k:FrX R w1 w2):FrX R w w2:=⟨Nat.le_trans h.size k.size,fun j o hj ho hg=>k.stay j o hj ho (h.stay j o hj ho hg)⟩
theorem FrX.of_below{R:Nat}{w w':World}(h:Below w.heap.size w w'):FrX R w w':=⟨h.size,fun _ _ _ _ hg=>block_below hg h⟩
theorem FrX.set{R:Nat}{w:World}(i:Nat)(u:Value):FrX R w (w.setCell ⟨R,i,none⟩ u):=⟨by simp[World.setCell],fun j o hj _ hg=>by rw[heap_setCell_other _ _ _ _ hj];exact hg⟩
theorem FrX.fr{R:Nat}{w w':World}(h:FrX R w w'):FrE R w w':=fun k A T hk hT hg=>h.stay k _ hk (fun B q=>hT (by injection q)) hg
theorem bcells_len(t:ByteArray):(bcells t).length=t.size:=by
 unfold bcells
 rw[List.length_map]
 exact Array.length_toList
theorem bcells_ins(t tx:ByteArray){p:Nat}(hp:p≤t.size):(bcells t).take p++bcells tx++(bcells t).drop p=bcells (insB t p tx):=by
 unfold bcells insB
 rw[←List.map_take,←List.map_drop,←List.map_append,←List.map_append]
 congr 1
 rw[ByteArray.data_append,ByteArray.data_append,Array.toList_append,Array.toList_append,Lib.extract_data,Lib.extract_data]
 rw[List.drop_zero,Nat.sub_zero,List.take_of_length_le (l:=List.drop p t.data.toList) (by rw[List.length_drop];exact Nat.le_refl _)]
theorem bcells_one(t:ByteArray):∀v∈bcells t,v.oneCell'=true:=by
 intro v hv
 unfold bcells at hv
 obtain⟨b,_,rfl⟩:=List.mem_map.1 hv
 rfl
theorem row_take(tx:ByteArray)(c:Nat):(bytesRow tx c).toList.take tx.size=bcells tx:=by
 unfold bytesRow bcells
 rw[Array.toList_append,Array.toList_map]
 exact List.take_left' (by rw[List.length_map];exact Array.length_toList)
theorem EwD.setLong{W w:World}{R:Nat}{a:Option Addr}{n c:Nat}{ta:Option Addr}{tn tc x:Nat}{told:ByteArray}{lg:Bool}{ov:Value}(h:EwD W w R a n c ta tn tc x told lg ov)(l:Bool):EwD W (w.setCell ⟨R,4,none⟩ (.bool l)) R a n c ta tn tc x told l ov:=by
 obtain⟨tv,h1,h2⟩:=h.own
 exact⟨h.bel.setCell (p:=⟨R,4,none⟩) h.lo _,h.lo,tv,heap_setCell_same w R 4 _ _ _ h1,ownsRow_setCell_other h2 (row_ne h1 h2 (by decide)) _⟩
theorem EwD.setOrder{W w:World}{R:Nat}{a:Option Addr}{n c:Nat}{ta:Option Addr}{tn tc x:Nat}{told:ByteArray}{lg:Bool}{ov:Value}(h:EwD W w R a n c ta tn tc x told lg ov)(ov':Value):EwD W (w.setCell ⟨R,5,none⟩ ov') R a n c ta tn tc x told lg ov':=by
 obtain⟨tv,h1,h2⟩:=h.own
 exact⟨h.bel.setCell (p:=⟨R,5,none⟩) h.lo _,h.lo,tv,heap_setCell_same w R 5 _ _ _ h1,ownsRow_setCell_other h2 (row_ne h1 h2 (by decide)) _⟩
theorem ewTold{W w:World}{R:Nat}{a:Option Addr}{n c:Nat}{ta:Option Addr}{tn tc x:Nat}{tv:Value}{lg:Bool}{ov:Value}(hb:Below W.heap.size W w)(lo:W.heap.size≤R)(hg:w.heap[R]? =some (ewObj a n c ta tn tc x tv lg ov)){v':Value}{told:ByteArray}(ho:w.ownsRow W.heap.size 5 1 v' told.size (bcells told)):
 EwD W (w.setCell ⟨R,3,none⟩ v') R a n c ta tn tc x told lg ov:=
 ⟨hb.setCell (p:=⟨R,3,none⟩) lo _,lo,v',heap_setCell_same w R 3 _ _ _ hg,ownsRow_setCell_other ho (row_ne hg ho (by decide)) _⟩
theorem own8{w:World}{B:Nat}{v:Value}{n:Nat}{xs:List Value}(h:w.ownsRow B 5 1 v n xs):∃bs cp,v= .slice bs n cp∧n≤cp∧cp≤9223372036854775807∧(bs=none∨∃g,bs=some ⟨g,0,none⟩):=by
 rcases h.2 with⟨rfl,h0⟩|⟨g,cp,cur,rfl,_,_,h1,h2,_⟩
 ·exact⟨none,0,by rw[h0],by omega,by omega,.inl rfl⟩
 ·exact⟨_,_,rfl,h1,by unfold maxLen at h2;omega,.inr ⟨g,rfl⟩⟩
theorem ins_none(bs:Option Addr)(n cp i vb vc:Nat)(w:World)(hbs:bs=none∨∃g,bs=some ⟨g,0,none⟩)(hi:i≤n)(hn:n≤cp)(hcp:cp≤9223372036854775807)(h0:bs=none→n=0∧cp=0):
 Calls Tryz.prog 182 #[.slice bs n cp,.int .i64 i,.slice (some ⟨vb,0,none⟩) 0 vc] w fun e w'=>e= .returned (.slice bs n cp)∧w'=w:=by
 go_enter Tryz.func182,Tryz.ntmps182
 rcases hbs with rfl|⟨g,rfl⟩
 ·obtain⟨rfl,rfl⟩:=h0 rfl
  obtain rfl:i=0:=by omega
  go_wp2
  go_ret
  exact⟨rfl,rfl⟩
 ·have h1:(i:Int)≤(n:Int):=by omega
  by_cases h2:cp=i
  all_goals
   go_wp2
   go_ret
   exact⟨rfl,rfl⟩
def AfterI(W:World)(R:Nat)(a:Option Addr)(m c:Nat)(ta:Option Addr)(tn tc x:Nat)(told:ByteArray)(lg:Bool)(ov:Value)(p:Nat)(tx:ByteArray)(w:World)(e:Ending)(w':World):Prop:=
 e= .returned (.tuple #[])∧FrX R w w'∧∃told' lg',Ins told lg p tx told' lg'∧EwD W w' R a m c ta tn tc x told' lg' ov
theorem insert_any(W w:World)(R:Nat)(a:Option Addr)(m c:Nat)(ta:Option Addr)(tn tc x:Nat)(told:ByteArray)(lg:Bool)(ov:Value)(p:Nat)(tx:ByteArray)(hp:p≤told.size)(h4:told.size≤4000)(htx:tx.size≤140737488355328)(hI:EwD W w R a m c ta tn tc x told lg ov):
 Calls Tryz.prog 149 #[.pointer (some ⟨R,0,none⟩),.int .i64 p,.string tx] w fun e w'=>AfterI W R a m c ta tn tc x told lg ov p tx w e w':=by
 have HI:=hide hI
 obtain⟨tv,hown,hrow⟩:=hI.own
 obtain⟨bs,cp,rfl,hc1,hc2,hbs⟩:=own8 hrow
 have HG:=hide hown
 have HR:=hide hrow
 unfold ewObj at hown
 have c3:w.cell? ⟨R,3,none⟩=some (.slice bs told.size cp):=by simp[World.cell?,hown]
 have c4:w.cell? ⟨R,4,none⟩=some (.bool lg):=by simp[World.cell?,hown]
 have f3:w.frozen? ⟨R,3,none⟩=false:=by simp[World.frozen?,hown]
 have f4:w.frozen? ⟨R,4,none⟩=false:=by simp[World.frozen?,hown]
 have hRl:R<w.heap.size:=lt_of_cell c3
 clear hown hrow
 cases lg with
 |true=>
  clear hI
  go_enter Tryz.func149,Tryz.ntmps149
  go_wp2
  go_returns
  exact⟨rfl,FrX.set _ _,told,true,.inl ⟨.inl rfl,rfl,rfl⟩,HI.out.setLong _⟩
 |false=>
  clear hI
  by_cases hz:told.size+tx.size≤4000
  ·have hzb:decide ((4000:Int)-(told.size:Int)<(tx.size:Int))=false:=decide_eq_false (by omega)
   have hzc:¬((4000:Int)-(told.size:Int)<(tx.size:Int)):=by omega
   obtain⟨CAP,hCAP⟩:∃CAP,grownCap w tx.size 0 5=CAP:=⟨_,rfl⟩
   have hcv:=run_bytes_of_string (P:=Tryz.prog) w 9 52 5 tx Tryz.underlying9 Tryz.underlying52 Tryz.underlying5
   rw[hCAP]at hcv
   have hBR:tx.size≤(bytesRow tx CAP).size:=by
    unfold bytesRow
    rw[Array.size_append,Array.size_map]
    exact Nat.le_add_right _ _
   obtain⟨w1,hw1⟩:∃w1,w.drew.alloc (.cells (bytesRow tx CAP) 5 ((bytesRow tx CAP).size,(bytesRow tx CAP).size+1))=w1:=⟨_,rfl⟩
   have hB1:Below w.heap.size w w1:=by rw[←hw1];exact(Below.refl _ _).drew.alloc (Nat.le_refl _) _
   have hv1:w1.heap[w.heap.size]? =some (.cells (bytesRow tx CAP) 5 ((bytesRow tx CAP).size,(bytesRow tx CAP).size+1)):=by rw[←hw1];exact heap_alloc_new w.drew _
   rw[hw1]at hcv
   have HB1:=hide hB1
   have hs1:=hB1.size
   have hW1:W.heap.size≤w1.heap.size:=by have:=HI.out.bel.size;omega
   have HR1:=hide (own_below HR.out hB1)
   have HFIN:Hid (∀v2 w2 (t2:ByteArray),t2=insB told p tx→w2.ownsRow W.heap.size 5 1 v2 t2.size (bcells t2)→Below W.heap.size w1 w2→(∀(k:Nat) (o:Obj),(∀A,o≠ .cells A 5 (0,0))→w1.heap[k]? =some o→w2.heap[k]? =some o)→
    w2.cell? ⟨R,3,none⟩=some (.slice bs told.size cp)∧w2.frozen? ⟨R,3,none⟩=false∧R<w2.heap.size∧AfterI W R a m c ta tn tc x told false ov p tx w (.returned (.tuple #[])) (w2.setCell ⟨R,3,none⟩ v2)):=fun v2 w2 t2 e1 h1 h2 h3=>by
    have hg2:w2.heap[R]? =some (ewObj a m c ta tn tc x (.slice bs told.size cp) false ov):=h3 R _ (fun A q=>by injection q with _ q _;revert q;decide) (block_below HG.out HB1.out)
    have hg3:=hg2
    unfold ewObj at hg3
    refine⟨by simp[World.cell?,hg3],by simp[World.frozen?,hg3],row_lt hg2,rfl,?_,t2,false,.inr ⟨rfl,hz,e1,rfl⟩,ewTold ((HI.out.bel.trans (HB1.out.mono HI.out.bel.size)).trans h2) HI.out.lo hg2 h1⟩
    exact(FrX.of_below HB1.out).trans ((⟨h2.size,fun k o _ ho hk=>h3 k o ho hk⟩:FrX R w1 w2).trans (FrX.set _ _))
   by_cases h0:tx.size=0
   ·have HINS:Hid (Calls Tryz.prog 182 #[.slice bs told.size cp,.int .i64 p,.slice (some ⟨w.heap.size,0,none⟩) tx.size CAP] w1 fun e w'=>∃v2,e= .returned v2∧w'.ownsRow W.heap.size 5 1 v2 (insB told p tx).size (bcells (insB told p tx))∧Below W.heap.size w1 w'∧∀(k:Nat) (o:Obj),(∀A,o≠ .cells A 5 (0,0))→w1.heap[k]? =some o→w'.heap[k]? =some o):=by
     rw[h0]
     refine(ins_none bs told.size cp p w.heap.size CAP w1 hbs hp hc1 hc2 (fun q=>?_)).mono ?_
     ·subst q
      rcases HR.out.2 with⟨h,h'⟩|⟨g,_,_,h,_⟩
      ·injection h with _ _ h;exact⟨h',h⟩
      ·injection h with h;cases h
     ·rintro e w' ⟨rfl,rfl⟩
      have e1:insB told p tx=told:=by
       have hb:=bcells_ins told tx hp
       have hn:tx=noB:=by
        apply ByteArray.ext
        exact Array.eq_empty_of_size_eq_zero h0
       unfold insB
       rw[hn,app_noB]
       apply ByteArray.ext
       apply Array.toList_inj.1
       rw[ByteArray.data_append,Array.toList_append,Lib.extract_data,Lib.extract_data,List.drop_zero,Nat.sub_zero,List.take_of_length_le (l:=List.drop p told.data.toList) (by rw[List.length_drop];exact Nat.le_refl _),List.take_append_drop]
      rw[e1]
      exact⟨_,rfl,HR1.out,Below.refl _ _,fun _ _ _ h=>h⟩
    clear hv1 hB1 hs1 hW1 hw1 hbs h0
    go_enter Tryz.func149,Tryz.ntmps149
    go_wp2_with fail
    refine HINS.out.mono ?_
    rintro e w2 ⟨v2,rfl,ho2,hb2,hf2⟩
    obtain⟨d3,q3,hR2,hA⟩:=HFIN.out v2 w2 _ rfl ho2 hb2 hf2
    obtain⟨bs2,cp2,rfl,_,_,_⟩:=own8 ho2
    have HA:=hide hA
    clear ho2 hb2 hf2 hA
    go_wp2
    go_returns
    exact HA.out
   ·have HINS:Hid (Calls Tryz.prog 182 #[.slice bs told.size cp,.int .i64 p,.slice (some ⟨w.heap.size,0,none⟩) tx.size CAP] w1 fun e w'=>∃v2,e= .returned v2∧w'.ownsRow W.heap.size 5 1 v2 (insB told p tx).size (bcells (insB told p tx))∧Below W.heap.size w1 w'∧∀(k:Nat) (o:Obj),(∀A,o≠ .cells A 5 (0,0))→w1.heap[k]? =some o→w'.heap[k]? =some o):=by
     rw[insB_size tx hp,←bcells_ins told tx hp]
     exact ins_any W.heap.size _ told.size p w.heap.size tx.size CAP (bcells told) (bcells tx) (bytesRow tx CAP) _ w1 HR1.out hp (by omega) (by omega) hW1 hv1 (by show 0<(bytesRow tx CAP).size;omega) (row_take tx CAP) (bcells_len tx) (bcells_one told) (bcells_one tx)
    clear hv1 hB1 hs1 hW1 hw1 hbs h0
    go_enter Tryz.func149,Tryz.ntmps149
    go_wp2_with fail
    refine HINS.out.mono ?_
    rintro e w2 ⟨v2,rfl,ho2,hb2,hf2⟩
    obtain⟨d3,q3,hR2,hA⟩:=HFIN.out v2 w2 _ rfl ho2 hb2 hf2
    obtain⟨bs2,cp2,rfl,_,_,_⟩:=own8 ho2
    have HA:=hide hA
    clear ho2 hb2 hf2 hA
    go_wp2
    go_returns
    exact HA.out
  ·have hzb:decide ((4000:Int)-(told.size:Int)<(tx.size:Int))=true:=decide_eq_true (by omega)
   have hzc:(4000:Int)-(told.size:Int)<(tx.size:Int):=by omega
   go_enter Tryz.func149,Tryz.ntmps149
   go_wp2
   go_returns
   exact⟨rfl,FrX.set _ _,told,true,.inl ⟨.inr (by omega),rfl,rfl⟩,HI.out.setLong _⟩
def ovV(sn:Sn→Addr):Option Int→Value
 |none=> .nilIface
 |some p=>fault p (sn .Order)
structure Sz(t:List Vl):Prop where
 len:t.length≤16777000
 txt:∀j,j<t.length→(vl t j).text.size≤140737488355328
structure WCP(E:WEnv)(W:World)(a ta:Option Addr):Prop where
 sch:Sch W a E.s
 right:RightP E.s
 sok:SchOk E.s
 ok:∀k t,E.ok k t=true↔ContentOk k t
 tree:TreeIn W ta E.t
 size:Sz E.t
 kids:∀j,j<E.t.length→(vl E.t j).kids≤9223372036854775807
structure EC(E:WEnv)(W:World)(a ta:Option Addr)(sn:Sn→Addr):Prop where
 wc:WCP E W a ta
 lay:Lay W sn
theorem EC.txt{E:WEnv}{W:World}{a ta:Option Addr}{sn:Sn→Addr}(h:EC E W a ta sn){j:Nat}(hj:j<E.t.length):(vl E.t j).text.size≤140737488355328:=h.wc.size.txt j hj
theorem EC.len{E:WEnv}{W:World}{a ta:Option Addr}{sn:Sn→Addr}(h:EC E W a ta sn):E.t.length≤16777000:=h.wc.size.len
def AfterE(E:WEnv)(W:World)(R:Nat)(a:Option Addr)(c:Nat)(ta:Option Addr)(tc:Nat)(sn:Sn→Addr)(r:WOut)(t0:ByteArray)(l0:Bool)(o0:Option Int)(w:World)(e:Ending)(w':World):Prop:=
 FrE R w w'∧((∃b x u t1 l1 o1,r=some (b,x,u)∧e= .returned .nilIface∧Tld t0 l0 o0 b u t1 l1 o1∧EwD W w' R a E.s.length c ta E.t.length tc x t1 l1 (ovV sn o1))∨
  (r=none∧∃(p:Int) (x:Nat) (t1:ByteArray) (l1:Bool) (ov:Value),e= .returned (fault p (sn .Tree))∧EwD W w' R a E.s.length c ta E.t.length tc x t1 l1 ov))
theorem AfterE.of{E:WEnv}{W:World}{R:Nat}{a:Option Addr}{c:Nat}{ta:Option Addr}{tc:Nat}{sn:Sn→Addr}{r:WOut}{t0:ByteArray}{l0:Bool}{o0:Option Int}{w w1 w':World}{e:Ending}(h:AfterE E W R a c ta tc sn r t0 l0 o0 w1 e w')(hf:FrE R w w1):AfterE E W R a c ta tc sn r t0 l0 o0 w e w':=⟨hf.trans h.1,h.2⟩
def NodeE(E:WEnv)(W:World)(R:Nat)(a:Option Addr)(c:Nat)(ta:Option Addr)(tc:Nat)(sn:Sn→Addr)(f:Nat):Prop:=
 ∀(i x:Nat) (dp:Int) (r:WOut) (t0:ByteArray) (l0:Bool) (o0:Option Int) (w:World),wrF E f i x dp=some r→i<E.s.length→x≤E.t.length→E.t.length+1≤f+x→1≤f→1≤dp→dp≤13→t0.size≤4000→
  EwD W w R a E.s.length c ta E.t.length tc x t0 l0 (ovV sn o0)→
  Calls Tryz.prog 75 #[.pointer (some ⟨R,0,none⟩),.int .i64 i,.int .i64 dp] w fun e w'=>AfterE E W R a c ta tc sn r t0 l0 o0 w e w'
end Go.Proofs.YtkkicodfpekbgaaGreatDoor
