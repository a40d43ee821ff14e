/-
Several texts in one.
-/
import Derived.Test.YtkkicodfpekbgaaGreatDoorJa16
import Derived.Test.YtkkicodfpekbgaaGreatDoorJa17
import Derived.Test.YtkkicodfpekbgaaGreatDoorJa18
import Derived.Test.YtkkicodfpekbgaaGreatDoorJa7
import Derived.Test.YtkkicodfpekbgaaGreatDoorJa0
import Derived.Deep.DeepCutAuto
import Derived.SizedLaws
namespace Go.Proofs.YtkkicodfpekbgaaGreatDoor
open Go.RowKit
set_option linter.unusedSimpArgs false
set_option linter.unusedVariables false
set_option maxRecDepth 100000
set_option maxHeartbeats 8000000

def RetWr(v:Int)(s n f t k:ByteArray)(ms:List Mks)(sn:Sn→Addr)(w:World)(e:Ending)(w':World):Prop:=
 Below w.heap.size w w'∧((¬CardOk v s n f t k ms.length∧e= .returned (.tuple #[.string ⟨#[]⟩,fault 0 (sn .Card)]))∨(CardOk v s n f t k ms.length∧¬MarksOk ms∧e= .returned (.tuple #[.string ⟨#[]⟩,fault 0 (sn .Mark)]))∨
  (CardOk v s n f t k ms.length∧MarksOk ms∧∃pr:Bool,(pr=true↔ContentOk 8 n)∧((4000<(ctOf v s n pr f t k ms).bytes.size∧∃q,e= .returned (.tuple #[.string ⟨#[]⟩,fault q (sn .Long)]))∨((ctOf v s n pr f t k ms).bytes.size≤4000∧e= .returned (.tuple #[.string (ctOf v s n pr f t k ms).bytes,.nilIface])))))
theorem retBy_two{sn:Sn→Addr}{za:Addr}{b:ByteArray}{e:Ending}(h:(∃c,(if 4000<b.size then(.error 2:Except Int ByteArray)else .ok b)= .ok c∧e= .returned (.tuple #[.string c,.nilIface]))∨
 (∃p,(if 4000<b.size then(.error 2:Except Int ByteArray)else .ok b)= .error 1∧e= .returned (.tuple #[.string ⟨#[]⟩,faultV 0 (fault p za)]))∨
 ((if 4000<b.size then(.error 2:Except Int ByteArray)else .ok b)= .error 1∧e= .returned (.tuple #[.string ⟨#[]⟩,fault 0 za]))∨
 (∃k q,(if 4000<b.size then(.error 2:Except Int ByteArray)else .ok b)= .error k∧(k=2∨k=8∨k=11)∧e= .returned (.tuple #[.string ⟨#[]⟩,fault q (sn (snW k))]))):
 ∃(x:ByteArray) (y:Value),e= .returned (.tuple #[.string x,y])∧((4000<b.size∧x=⟨#[]⟩∧∃q,y=fault q (sn .Long))∨(b.size≤4000∧x=b∧y= .nilIface)):=by
 by_cases hb:4000<b.size
 ·simp only[if_pos hb]at h
  rcases h with⟨c,q,_⟩|⟨p,q,_⟩|⟨q,_⟩|⟨k,p,q,_,he⟩
  ·cases q
  ·cases q
  ·cases q
  ·cases q
   exact⟨_,_,he,.inl ⟨hb,rfl,p,rfl⟩⟩
 ·simp only[if_neg hb]at h
  rcases h with⟨c,q,he⟩|⟨p,q,_⟩|⟨q,_⟩|⟨k,p,q,_⟩
  ·cases q
   exact⟨_,_,he,.inr ⟨by omega,rfl,rfl⟩⟩
  ·cases q
  ·cases q
  ·cases q
theorem cwrite_any(v:Int)(s n f t k:ByteArray)(ms:List Mks)(ma:Option Addr)(mc:Nat)(w:World)(sn:Sn→Addr)(za:Addr)(hl:Lay w sn)(hz:LayZ w sn za)(hT:CdT s n f t k ms)(hin:MkIn w ma ms)(hn:ms.length≤1000000)(hcap:ms.length≤mc):
 Calls Tryz.prog 57 #[cardV v s n f t k (.slice ma ms.length mc)] w fun e w'=>RetWr v s n f t k ms sn w e w':=by
 have HCK:Hid (∀wq,Below w.heap.size w wq→Calls Tryz.prog 85 #[cardV v s n f t k (.slice ma ms.length mc)] wq fun e w'=>RetCk v s n f t k ms sn wq e w'):=fun wq q=>ccheck_any v s n f t k ms ma mc wq sn za (hl.below q) (hz.below q) (by have:=hT.s;omega) (by have:=hT.n;omega) (by have:=hT.f;omega) (by have:=hT.t;omega) (by have:=hT.k;omega) (hin.below q) hT.ms (by omega) hcap
 have HSC:Hid (∀wq,Calls Tryz.prog 86 #[] wq fun e w'=>∃g,e= .returned (.slice (some ⟨g,0,none⟩) 14 14)∧Sch w' (some ⟨g,0,none⟩) cS∧Below wq.heap.size wq w'):=fun wq=>schema_any wq
 have HTO:Hid (∀wq,Below w.heap.size w wq→CardOk v s n f t k ms.length→Calls Tryz.prog 87 #[cardV v s n f t k (.slice ma ms.length mc)] wq fun e w'=>RetTo v s n f t k ms wq e w'):=fun wq q hc=>treeOf_any v s n f t k ms ma mc wq sn (hl.below q) (by have:=hT.n;omega) hc.v0 (by have:=hc.v2;omega) (hin.below q) hn
 have HBY:Hid (∀(g:Nat) (pr:Bool) (ta:Option Addr) (tc:Nat) wq,Below w.heap.size w wq→CardOk v s n f t k ms.length→MarksOk ms→(pr=true↔ContentOk 8 n)→Sch wq (some ⟨g,0,none⟩) cS→ValIn wq ta (ctOf v s n pr f t k ms).tree→(ctOf v s n pr f t k ms).tree.length≤tc→Calls Tryz.prog 46 #[.slice (some ⟨g,0,none⟩) 14 14,.int .i64 0,.slice ta (ctOf v s n pr f t k ms).tree.length tc] wq fun e w'=>RetBy sn za (if 4000<(ctOf v s n pr f t k ms).bytes.size then .error 2 else .ok (ctOf v s n pr f t k ms).bytes) wq e w'):=fun g pr ta tc wq q hc hm hp hs ht htc=>by
  obtain⟨F,hF⟩:=card_enc hc hm hp
  have hal:=tree_all (v:=v) (pr:=pr) hT hn
  have hle:=tree_len (v:=v) (s:=s) (n:=n) (f:=f) (t:=t) (k:=k) (ms:=ms) (pr:=pr)
  have hin:∀j,j<(ctOf v s n pr f t k ms).tree.length→vl (ctOf v s n pr f t k ms).tree j∈(ctOf v s n pr f t k ms).tree:=fun j hj=>by unfold vl;rw[List.getD_eq_getElem?_getD,List.getElem?_eq_getElem hj];exact List.getElem_mem _
  exact bytes_any F cS (some ⟨g,0,none⟩) 14 0 _ ta tc _ wq sn za (hl.below q) (hz.below q) hs cS_ok (by decide) ht htc ⟨by omega,fun j hj=>(hal _ (hin j hj)).1⟩ (fun j hj=>(hal _ (hin j hj)).2) hF
 unfold RetWr
 unfold RetCk at HCK
 unfold fault at HCK ⊢
 unfold cardV at HCK HTO ⊢
 clear hl hz hin hT
 go_enter Tryz.func57,Tryz.ntmps57
 go_wp2_with fail
 refine(HCK.out _ ((Below.refl _ _).alloc (Nat.le_refl _) _)).mono ?_
 rintro e w1 ⟨hb1,h1⟩
 have HB1:Hid (Below w.heap.size w w1):=below_alloc hb1
 have HC1:Hid (w1.heap[w.heap.size]? =some (.cells #[.int .i64 v,.string s,.string n,.string f,.string t,.string k,.slice ma ms.length mc] 68 (0,0))):=block_below (heap_alloc_new w _) hb1
 clear hb1 HCK
 rcases h1 with⟨hc,rfl⟩|⟨hc,hm,rfl⟩|⟨hc,hm,rfl⟩
 ·have HN:=hidec hc
  clear hc
  go_wp2
  go_ret2
  exact⟨HB1.out,.inl ⟨HN.out,rfl⟩⟩
 ·have HN:=hidec (And.intro hc hm)
  clear hc hm
  go_wp2
  go_ret2
  exact⟨HB1.out,.inr (.inl ⟨HN.out.1,HN.out.2,rfl⟩)⟩
 ·have HOK:=hidec (And.intro hc hm)
  have hcell:∀(wq:World),w1.heap[w.heap.size]? =wq.heap[w.heap.size]? →∀(i:Nat) (u:Value),(#[.int .i64 v,.string s,.string n,.string f,.string t,.string k,.slice ma ms.length mc]:Array Value)[i]? =some u→wq.cell? ⟨w.heap.size,i,none⟩=some u:=fun wq hq i u hu=>by
   have:=HC1.out
   rw[hq]at this
   simp only[World.cell?,this]
   exact hu
  have c0:w1.cell? ⟨w.heap.size,0,none⟩=some (.int .i64 v):=hcell w1 rfl 0 _ rfl
  have c1:w1.cell? ⟨w.heap.size,1,none⟩=some (.string s):=hcell w1 rfl 1 _ rfl
  have c2:w1.cell? ⟨w.heap.size,2,none⟩=some (.string n):=hcell w1 rfl 2 _ rfl
  have c3:w1.cell? ⟨w.heap.size,3,none⟩=some (.string f):=hcell w1 rfl 3 _ rfl
  have c4:w1.cell? ⟨w.heap.size,4,none⟩=some (.string t):=hcell w1 rfl 4 _ rfl
  have c5:w1.cell? ⟨w.heap.size,5,none⟩=some (.string k):=hcell w1 rfl 5 _ rfl
  have c6:w1.cell? ⟨w.heap.size,6,none⟩=some (.slice ma ms.length mc):=hcell w1 rfl 6 _ rfl
  have hlw:w.heap.size<w1.heap.size:=lt_of_cell c0
  have HKP:Hid (∀wq,Below w1.heap.size w1 wq→wq.cell? ⟨w.heap.size,0,none⟩=some (.int .i64 v)∧wq.cell? ⟨w.heap.size,1,none⟩=some (.string s)∧wq.cell? ⟨w.heap.size,2,none⟩=some (.string n)∧wq.cell? ⟨w.heap.size,3,none⟩=some (.string f)∧wq.cell? ⟨w.heap.size,4,none⟩=some (.string t)∧wq.cell? ⟨w.heap.size,5,none⟩=some (.string k)∧wq.cell? ⟨w.heap.size,6,none⟩=some (.slice ma ms.length mc)):=fun wq q=>
   ⟨(q.cell (lt_of_cell c0)).trans c0,(q.cell (lt_of_cell c1)).trans c1,(q.cell (lt_of_cell c2)).trans c2,(q.cell (lt_of_cell c3)).trans c3,(q.cell (lt_of_cell c4)).trans c4,(q.cell (lt_of_cell c5)).trans c5,(q.cell (lt_of_cell c6)).trans c6⟩
  have HR1:Hid (Below w1.heap.size w1 w1.drew):=(Below.refl _ _).drew
  clear hc hm hcell
  go_wp2_with fail
  go_region_held_law (fun w'=>w'.cell? ⟨w.heap.size,0,none⟩=some (.int .i64 v)∧w'.cell? ⟨w.heap.size,1,none⟩=some (.string s)∧w'.cell? ⟨w.heap.size,2,none⟩=some (.string n)∧w'.cell? ⟨w.heap.size,3,none⟩=some (.string f)∧w'.cell? ⟨w.heap.size,4,none⟩=some (.string t)∧w'.cell? ⟨w.heap.size,5,none⟩=some (.string k)∧w'.cell? ⟨w.heap.size,6,none⟩=some (.slice ma ms.length mc)) (first|exact HKP.out _ HR1.out|exact HKP.out _ HR2.out|exact HKP.out _ HR3.out|exact HKP.out _ HR4.out) (first
   |(go_at_call 86;refine(HSC.out _).mono ?_;rintro e w2 ⟨g,rfl,hs2,hb2⟩;have HR2:Hid (Below w1.heap.size w1 w2):=HR1.out.trans (hb2.mono HR1.out.size);have HS2:=hidec hs2;clear hs2 hb2)
   |(go_at_call 87;refine(HTO.out _ (HB1.out.trans (HR2.out.mono HB1.out.size)) HOK.out.1).mono ?_;rintro e w3 ⟨hb3,pr,ta,tc,hpr,rfl,ho3⟩;have HR3:Hid (Below w1.heap.size w1 w3):=HR2.out.trans (hb3.mono HR2.out.size);have HS3:=hidec (HS2.out.below hb3);have HV3:=hidec (ValIn.of_own ho3);have HTC:=hidec (own_capsG ho3);have HPR:=hidec hpr;clear hb3 hpr ho3)
   |(go_at_call 46;refine(HBY.out g pr ta tc _ (HB1.out.trans (HR3.out.mono HB1.out.size)) HOK.out.1 HOK.out.2 HPR.out HS3.out HV3.out HTC.out).mono ?_;rintro e w4 ⟨hb4,h4⟩;have HR4:Hid (Below w1.heap.size w1 w4):=HR3.out.trans (hb4.mono HR3.out.size);have h4':∃(x:ByteArray) (y:Value),e= .returned (.tuple #[.string x,y])∧((4000<(ctOf v s n pr f t k ms).bytes.size∧x=⟨#[]⟩∧∃q,y=fault q (sn .Long))∨((ctOf v s n pr f t k ms).bytes.size≤4000∧x=(ctOf v s n pr f t k ms).bytes∧y= .nilIface)):=retBy_two h4;obtain⟨x,y,rfl,hxy⟩:=h4';have HXY:=hidec hxy;clear hb4 h4 hxy))
  have HB4:Hid (Below w.heap.size w w4):=HB1.out.trans (HR4.out.mono HB1.out.size)
  go_wp2
  go_ret2
  refine⟨HB4.out,.inr (.inr ⟨HOK.out.1,HOK.out.2,pr,HPR.out,?_⟩)⟩
  rcases HXY.out with⟨q1,q2,q,q3⟩|⟨q1,q2,q3⟩
  ·rw[q2,q3];exact .inl ⟨q1,q,rfl⟩
  ·rw[q2,q3];exact .inr ⟨q1,rfl⟩
def RetWC(v:Int)(s n f t k:ByteArray)(ms:List Mks)(w:World)(e:Ending)(w':World):Prop:=
 Below w.heap.size w w'∧((¬CardOk v s n f t k ms.length∧e= .returned (.tuple #[.string ⟨#[]⟩,.int .i64 12]))∨(CardOk v s n f t k ms.length∧¬MarksOk ms∧e= .returned (.tuple #[.string ⟨#[]⟩,.int .i64 13]))∨
  (CardOk v s n f t k ms.length∧MarksOk ms∧∃pr:Bool,(pr=true↔ContentOk 8 n)∧((4000<(ctOf v s n pr f t k ms).bytes.size∧e= .returned (.tuple #[.string ⟨#[]⟩,.int .i64 2]))∨((ctOf v s n pr f t k ms).bytes.size≤4000∧e= .returned (.tuple #[.string (ctOf v s n pr f t k ms).bytes,.int .i64 0])))))
theorem writeCard_any(v:Int)(s n f t k:ByteArray)(ms:List Mks)(ma:Option Addr)(mc:Nat)(w:World)(sn:Sn→Addr)(za:Addr)(hl:Lay w sn)(hz:LayZ w sn za)(hT:CdT s n f t k ms)(hin:MkIn w ma ms)(hn:ms.length≤1000000)(hcap:ms.length≤mc):
 Calls Tryz.prog 31 #[cardV v s n f t k (.slice ma ms.length mc)] w fun e w'=>RetWC v s n f t k ms w e w':=by
 have HW:Hid (∀wq,Below w.heap.size w wq→Calls Tryz.prog 57 #[cardV v s n f t k (.slice ma ms.length mc)] wq fun e w'=>RetWr v s n f t k ms sn wq e w'):=fun wq q=>cwrite_any v s n f t k ms ma mc wq sn za (hl.below q) (hz.below q) hT (hin.below q) hn hcap
 have HN:Hid (∀q x wq,Below w.heap.size w wq→Calls Tryz.prog 34 #[fault q (sn x)] wq fun e w'=>e= .returned (.int .i64 x.code)∧Below w.heap.size w w'):=fun q x wq hq=>(number_sn q x wq sn (hl.below hq).s).mono fun e w' h=>⟨h.1,hq.trans (h.2.mono hq.size)⟩
 have HNN:Hid (∀wq,Calls Tryz.prog 34 #[.nilIface] wq fun e w'=>e= .returned (.int .i64 0)∧w'=wq):=fun wq=>number_nil wq
 unfold RetWC
 unfold RetWr at HW
 unfold cardV at HW ⊢
 clear hl hz hin hT
 go_enter Tryz.func31,Tryz.ntmps31
 go_wp2_with fail
 refine(HW.out _ ((Below.refl _ _).alloc (Nat.le_refl _) _)).mono ?_
 rintro e w1 ⟨hb1,h1⟩
 have HB1:Hid (Below w.heap.size w w1):=below_alloc hb1
 clear hb1 HW
 have h2:(∃(x:ByteArray) (q:Int) (y:Sn),e= .returned (.tuple #[.string x,fault q (sn y)])∧∀w',Below w.heap.size w w'→Below w.heap.size w w'∧((¬CardOk v s n f t k ms.length∧Ending.returned (.tuple #[.string x,.int .i64 y.code])= .returned (.tuple #[.string ⟨#[]⟩,.int .i64 12]))∨(CardOk v s n f t k ms.length∧¬MarksOk ms∧Ending.returned (.tuple #[.string x,.int .i64 y.code])= .returned (.tuple #[.string ⟨#[]⟩,.int .i64 13]))∨
  (CardOk v s n f t k ms.length∧MarksOk ms∧∃pr:Bool,(pr=true↔ContentOk 8 n)∧((4000<(ctOf v s n pr f t k ms).bytes.size∧Ending.returned (.tuple #[.string x,.int .i64 y.code])= .returned (.tuple #[.string ⟨#[]⟩,.int .i64 2]))∨((ctOf v s n pr f t k ms).bytes.size≤4000∧Ending.returned (.tuple #[.string x,.int .i64 y.code])= .returned (.tuple #[.string (ctOf v s n pr f t k ms).bytes,.int .i64 0]))))))∨
  (∃b:ByteArray,e= .returned (.tuple #[.string b,.nilIface])∧CardOk v s n f t k ms.length∧MarksOk ms∧∃pr:Bool,(pr=true↔ContentOk 8 n)∧(ctOf v s n pr f t k ms).bytes.size≤4000∧b=(ctOf v s n pr f t k ms).bytes):=by
  rcases h1 with⟨hc,he⟩|⟨hc,hm,he⟩|⟨hc,hm,pr,hp,⟨hb,q,he⟩|⟨hb,he⟩⟩
  ·exact .inl ⟨_,0,.Card,he,fun w' hw=>⟨hw,.inl ⟨hc,rfl⟩⟩⟩
  ·exact .inl ⟨_,0,.Mark,he,fun w' hw=>⟨hw,.inr (.inl ⟨hc,hm,rfl⟩)⟩⟩
  ·exact .inl ⟨_,q,.Long,he,fun w' hw=>⟨hw,.inr (.inr ⟨hc,hm,pr,hp,.inl ⟨hb,rfl⟩⟩)⟩⟩
  ·exact .inr ⟨_,he,hc,hm,pr,hp,hb,rfl⟩
 clear h1
 rcases h2 with⟨x,q,y,rfl,h2⟩|⟨b,rfl,hc,hm,pr,hp,hb,hbb⟩
 ·have H2:=hidec h2
  have HN1:=hidec (HN.out q y w1 HB1.out)
  unfold fault at HN1 ⊢
  generalize sn y=ay at HN1 ⊢
  generalize y.code=yc at HN1 H2
  clear h2
  go_wp2_with fail
  refine HN1.out.mono ?_
  rintro e w2 ⟨rfl,hb2⟩
  have HB2:=hidec hb2
  clear hb2
  go_wp2
  go_ret2
  exact H2.out _ HB2.out
 ·have H2:=hidec (And.intro hc (And.intro hm (And.intro hp (And.intro hb hbb))))
  clear hc hm hp hb hbb
  go_wp2_with fail
  refine(HNN.out _).mono ?_
  rintro e w2 ⟨rfl,rfl⟩
  go_wp2
  go_ret2
  obtain⟨hc,hm,hp,hb,hbb⟩:=H2.out
  exact⟨HB1.out,.inr (.inr ⟨hc,hm,pr,hp,.inr ⟨hb,by rw[hbb];rfl⟩⟩)⟩
theorem hideg{p:Prop}(h:p):Hid p:=h
theorem PlanN.below{N:Nat}{w w':World}{na ta:Option Addr}{nl tl:Nat}(h:PlanN N w ta tl)(hp:PlanIn w na ta nl tl)(hb:Below w.heap.size w w'):PlanN N w' ta tl:=fun i hi b o s e hc=>by
 obtain⟨b',o',s',e',hc',_⟩:=hp.txt i hi
 rw[e]at e'
 injection e' with e'
 injection e' with e1 e2 _
 subst e1 e2
 have h2:=(hb.cell (lt_of_cell hc')).trans hc'
 rw[hc]at h2
 injection h2 with h2
 injection h2 with h2
 subst h2
 exact h i hi _ _ _ e hc'
theorem card_is{v:Int}{s n k:ByteArray}{ms:List Mks}{N:Nat}(v0:0≤v)(v2:v≤2)(hs:IntOk s)(hk:BitsOk k)(hn:NameOk n)(hm:K2 N ms)(hv:v≠2→ms=[]):CardOk v s n tFrom tTill k ms.length where
 v0:=v0
 v2:=v2
 ser:=hs
 nam:=hn
 frm:=time_from
 til:=time_till
 ord:=by decide+kernel
 key:=hk
 mks:=by
  unfold most
  split
  ·have:=hm.le;omega
  ·rename_i h;rw[hv h];exact Int.le_refl _
theorem cdT_is{s n k:ByteArray}{ms:List Mks}(zs:s.size≤20)(zn:n.size≤64)(zk:k.size≤20)(hm:K2 140737488351232 ms):CdT s n tFrom tTill k ms:=
 ⟨by omega,by omega,by decide,by decide,by omega,fun j hj=>⟨by have:=(hm.sz j hj).1;omega,by have:=(hm.sz j hj).2;omega⟩⟩
theorem carried_any(w:World)(na ta:Option Addr)(nl nc tl tc:Nat)(at0 by0:Int)(sn:Sn→Addr)(za:Addr)(hl:Lay w sn)(hz:LayZ w sn za)(het:EtC w)(hp:PlanIn w na ta nl tl)(hpN:PlanN 140737488351232 w ta tl)(ha0: -9223372036854775808≤at0)(ha1:at0≤9223372036854775807)(hy0:0≤by0)(hy1:by0<256)
 (hcard:∀wq,PlanIn wq na ta nl tl→PlanN 140737488351232 wq ta tl→Calls Tryz.prog 29 #[.agg #[.slice na nl nc,.slice ta tl tc]] wq fun e w'=>RetM 140737488351232 wq e w'):
 Calls Tryz.prog 10 #[.agg #[.slice na nl nc,.slice ta tl tc],.int .i64 at0,.int .u8 by0] w fun e w'=>e= .returned (.bool true)∧Below w.heap.size w w':=by
 have HCD:Hid (∀wq,Below w.heap.size w wq→Calls Tryz.prog 29 #[.agg #[.slice na nl nc,.slice ta tl tc]] wq fun e w'=>RetM 140737488351232 wq e w'):=fun wq q=>hcard wq (hp.below q) (hpN.below hp q)
 have HPK:Hid (∀(n:Int) wq,0<n→n≤9223372036854775807→Calls Tryz.prog 25 #[.int .i64 at0,.int .i64 n] wq fun e w'=>e= .returned (.int .i64 (pk at0 n))∧wq=w'):=fun n wq h1 h2=>pick_any at0 n wq ha0 ha1 h1 h2
 have HUT:Hid (∀(p:ByteArray) wq,p.size≤9223372036854775807→Calls Tryz.prog 30 #[.string p] wq fun e w'=>RetU p e∧w'=wq):=fun p wq h=>utf_any p wq h
 have HWC:Hid (∀(v:Int) (s n k:ByteArray) (ms:List Mks) (ma:Option Addr) (mc:Nat) wq,Below w.heap.size w wq→CdT s n tFrom tTill k ms→MkIn wq ma ms→ms.length≤1000000→ms.length≤mc→Calls Tryz.prog 31 #[.agg #[.int .i64 v,.string s,.string n,.string tFrom,.string tTill,.string k,.slice ma ms.length mc]] wq fun e w'=>RetWC v s n tFrom tTill k ms wq e w'):=
  fun v s n k ms ma mc wq q h1 h2 h3 h4=>writeCard_any v s n tFrom tTill k ms ma mc wq sn za (hl.below q) (hz.below q) h1 h2 h3 h4
 have HRS:Hid (∀(v:Int) (s n k:ByteArray) (ms:List Mks) (pr:Bool) wq,Below w.heap.size w wq→CardOk v s n tFrom tTill k ms.length→MarksOk ms→(pr=true↔ContentOk 8 n)→(ctOf v s n pr tFrom tTill k ms).bytes.size≤4000→Calls Tryz.prog 32 #[.string (ctOf v s n pr tFrom tTill k ms).bytes] wq fun e w'=>RdSame v s n tFrom tTill k ms wq e w'):=
  fun v s n k ms pr wq q h1 h2 h3 h4=>readSame_any h1 h2 h3 h4 wq sn za (hl.below q) (hz.below q) (het.below q)
 have HRO:Hid (∀(v:Int) (s n k:ByteArray) (ms:List Mks) (pr:Bool) (d:ByteArray) wq,Below w.heap.size w wq→CardOk v s n tFrom tTill k ms.length→MarksOk ms→(pr=true↔ContentOk 8 n)→(ctOf v s n pr tFrom tTill k ms).bytes.size≤4000→d≠(ctOf v s n pr tFrom tTill k ms).bytes→d.size≤9223372036854775807→Calls Tryz.prog 32 #[.string d] wq fun e w'=>RdOther v s n tFrom tTill k ms wq e w'):=
  fun v s n k ms pr d wq q h1 h2 h3 h4 h5 h6=>readOther_any h1 h2 h3 h4 d h5 h6 wq sn za (hl.below q) (hz.below q) (het.below q)
 have HEQ:Hid (∀(v1 v2:Int) (s1 n1 f1 t1 k1 s2 n2 f2 t2 k2:ByteArray) (m1 m2:List Mks) (a1 a2:Option Addr) (c1 c2:Nat) wq,MkIn wq a1 m1→MkIn wq a2 m2→m1.length≤1000000→m2.length≤1000000→Calls Tryz.prog 33 #[.agg #[.int .i64 v1,.string s1,.string n1,.string f1,.string t1,.string k1,.slice a1 m1.length c1],.agg #[.int .i64 v2,.string s2,.string n2,.string f2,.string t2,.string k2,.slice a2 m2.length c2]] wq fun e w'=>RetO (Alike v1 v2 s1 n1 f1 t1 k1 s2 n2 f2 t2 k2∧m1=m2) wq e w'):=
  fun v1 v2 s1 n1 f1 t1 k1 s2 n2 f2 t2 k2 m1 m2 a1 a2 c1 c2 wq h1 h2 h3 h4=>equal_any v1 v2 s1 n1 f1 t1 k1 s2 n2 f2 t2 k2 m1 m2 a1 a2 c1 c2 wq h1 h2 h3 h4
 clear hl hz het hp hpN hcard ha0 ha1
 go_enter Tryz.func10,Tryz.ntmps10
 go_wp2_with fail
 refine(HCD.out _ ((Below.refl _ _).alloc (Nat.le_refl _) _)).mono ?_
 rintro e w1 ⟨v,s,n,k,ma,ms,mc,he,v0,v2,hs,hk,zs,zk,hu,hm,hv,ho,hb1⟩
 unfold cardV at he
 subst he
 have HB1:Hid (Below w.heap.size w w1):=below_alloc hb1
 have HCK:Hid (∀nm,NameOk nm→CardOk v s nm tFrom tTill k ms.length):=fun nm h=>card_is v0 v2 hs hk h hm hv
 have HCT:Hid (∀nm:ByteArray,nm.size≤64→CdT s nm tFrom tTill k ms):=fun nm h=>cdT_is zs h zk hm
 have HIN:Hid (MkIn w1 ma ms):=MkIn.of_own ho
 have HCAP:Hid (ms.length≤mc):=own_capsG ho
 have HM2:Hid (K2 140737488351232 ms):=hm
 have HSZ:Hid (s.size≤20∧k.size≤20):=⟨zs,zk⟩
 have HU8:Hid (Utf8Ok n):=hu
 have hml:ms.length≤6:=hm.le
 clear hs hk zs zk hu hm hv ho hb1 HCD v0 v2
 have hnz:=nameB_size n
 go_wp2_with fail
 refine(HUT.out (nameB n) _ (by omega)).mono ?_
 rintro e w2 ⟨⟨r,rfl,hr⟩,rfl⟩
 have HR:Hid (r=true→Whole (nameB n)):=hr
 clear hr HUT
 go_upto_if 29 with fail
 go_cut [] (fun wx=>∃nm:ByteArray,(NameOk nm∧nm.size≤64)∧wx=w1.alloc (.cells #[.int .i64 v,.string s,.string nm,.string tFrom,.string tTill,.string k,.slice ma ms.length mc] 68))
 case first=>
  cases r
  ·go_wp2_with fail
   go_meet
   exact⟨nName,⟨name_n,by decide⟩,rfl⟩
  ·go_wp2_with fail
   go_meet
   exact⟨nameB n,⟨name_ok HU8.out (HR.out (by first|rfl|trivial)),by omega⟩,rfl⟩
 case rest=>
  obtain⟨nm,⟨hnm,hnz2⟩,rfl⟩:=hcut
  have hCO:=HCK.out nm hnm
  have hCT:=HCT.out nm hnz2
  have HNZ:Hid (nm.size≤64):=hnz2
  have HCO:=hideg hCO
  have HBA:Hid (∀o,Below w.heap.size w (w1.alloc o)):=fun o=>HB1.out.alloc HB1.out.size o
  have HIA:Hid (∀o,MkIn (w1.alloc o) ma ms):=fun o=>HIN.out.below ((Below.refl _ _).alloc (Nat.le_refl _) _)
  have HBX:Hid (∀o,(w1.alloc o).heap[w1.heap.size]? =some o):=fun o=>heap_alloc_new w1 o
  clear HR HU8 HCK HCT hnm hnz2 hCO hnz
  go_wp2_with fail
  refine(HWC.out v s nm k ms ma mc _ (HBA.out _) hCT (HIA.out _) (by omega) HCAP.out).mono ?_
  rintro e w3 ⟨hb3,h3⟩
  have HB3:Hid (Below w.heap.size w w3):=(HBA.out _).trans (hb3.mono (HBA.out _).size)
  have hbx:w3.heap[w1.heap.size]? =some (.cells #[.int .i64 v,.string s,.string nm,.string tFrom,.string tTill,.string k,.slice ma ms.length mc] 68 (0,0)):=block_below (HBX.out _) hb3
  have HI3:Hid (MkIn w3 ma ms):=(HIA.out _).below hb3
  have HX3:=hideg hbx
  clear hb3 hbx HBA HIA HBX hCT
  rcases h3 with⟨h,_⟩|⟨_,h,_⟩|⟨_,_,pr,hpr,h4⟩
  ·exact absurd HCO.out h
  ·exact absurd HM2.out.ok h
  rcases h4 with⟨hlong,rfl⟩|⟨hsz,rfl⟩
  ·have HLO:Hid (3000<sumB ms+30*ms.length):=card_long HM2.out.sz HSZ.out.1 HNZ.out (by decide) (by decide) HSZ.out.2 hlong
   clear hlong hpr
   have c6:w3.cell? ⟨w1.heap.size,6,none⟩=some (.slice ma ms.length mc):=(cells_of HX3.out 6).trans rfl
   have l6:w1.heap.size<w3.heap.size:=lt_of_cell c6
   go_wp2_with fail
   go_loopw [11,12] (fun vn vi wr=>∃j:Nat,j≤ms.length∧vi= .int .i64 j∧vn= .int .i64 ((sumB (ms.take j)+30*j:Nat):Int)∧wr=w3) (fun _ vi _=>ms.length-(intOf vi).toNat)
   case atStart=>exact⟨0,Nat.zero_le _,rfl,by simp[sumB],rfl⟩
   case round=>
    obtain⟨j,hj,rfl,rfl,rfl⟩:=hrel
    have hsl:=sum_le HM2.out.sz j hj
    obtain⟨S,hS⟩:∃S,sumB (ms.take j)+30*j=S:=⟨_,rfl⟩
    have HS:Hid (sumB (ms.take j)+30*j=S):=hS
    have hS2:S≤4000000000000000:=by omega
    rw[hS]
    clear hS hsl
    by_cases hlt:j<ms.length
    ·have hlt':(j:Int)<ms.length:=by omega
     obtain⟨g,o,rfl,x1,x2,x3⟩:=HI3.out j hlt
     have hbz:=(HM2.out.sz j hlt).2
     have HT:=hideg (sum_take ms j hlt)
     generalize(ms.getD j mk0).body=b at x3 hbz HT
     clear x1 x2
     go_wp2
     go_roundw
     case rel=>exact⟨j+1,by omega,by go_num,by have h1:=HS.out;have h2:=HT.out;rw[h2];congr 1;omega,by first|rfl|trivial⟩
     case measure=>simp[intOf];omega
    ·have hlt':¬(j:Int)<ms.length:=by omega
     have hgt:(3000:Int)<S:=by
      have h1:=HS.out
      have h2:=HLO.out
      obtain rfl:j=ms.length:=by omega
      rw[List.take_length]at h1
      omega
     go_wp2
     go_ret
     exact⟨rfl,HB3.out⟩
  ·have hbp:=card_pos (ctOf v s nm pr tFrom tTill k ms)
   have HRS2:Hid (∀wq,Below w.heap.size w wq→Calls Tryz.prog 32 #[.string (ctOf v s nm pr tFrom tTill k ms).bytes] wq fun e w'=>RdSame v s nm tFrom tTill k ms wq e w'):=fun wq q=>HRS.out v s nm k ms pr wq q HCO.out HM2.out.ok hpr hsz
   have HRO2:Hid (∀d wq,Below w.heap.size w wq→d≠(ctOf v s nm pr tFrom tTill k ms).bytes→d.size≤9223372036854775807→Calls Tryz.prog 32 #[.string d] wq fun e w'=>RdOther v s nm tFrom tTill k ms wq e w'):=fun d wq q h=>HRO.out v s nm k ms pr d wq q HCO.out HM2.out.ok hpr hsz h
   clear HRS HRO hpr HWC
   generalize(ctOf v s nm pr tFrom tTill k ms).bytes=b at hsz hbp HRS2 HRO2
   go_wp2_with fail
   refine(HRS2.out _ HB3.out).mono ?_
   rintro e w4 ⟨hb4,da,dc,he,hin4⟩
   unfold cardV at he
   subst he
   have HB4:Hid (Below w.heap.size w w4):=HB3.out.trans (hb4.mono HB3.out.size)
   have hX4:=block_below HX3.out hb4
   have HX4:=hideg hX4
   have HI4:Hid (MkIn w4 ma ms):=HI3.out.below hb4
   have HD4:Hid (MkIn w4 da ms):=hin4
   have c0:=(cells_of hX4 0).trans rfl
   have c1:=(cells_of hX4 1).trans rfl
   have c2:=(cells_of hX4 2).trans rfl
   have c3:=(cells_of hX4 3).trans rfl
   have c4:=(cells_of hX4 4).trans rfl
   have c5:=(cells_of hX4 5).trans rfl
   have c6:=(cells_of hX4 6).trans rfl
   have l4:w1.heap.size<w4.heap.size:=lt_of_cell c0
   clear hX4 hb4 hin4 HB3 HX3 HI3 HRS2
   go_wp2_with fail
   refine(HEQ.out v v s nm tFrom tTill k s nm tFrom tTill k ms ms ma da mc dc _ (HI4.out.below ((Below.refl _ _).alloc (Nat.le_refl _) _)) (HD4.out.below ((Below.refl _ _).alloc (Nat.le_refl _) _)) (by omega) (by omega)).mono ?_
   rintro e w5 ⟨r,rfl,hr,hb5⟩
   obtain rfl:r=true:=hr.2 ⟨⟨rfl,rfl,rfl,rfl,rfl,rfl⟩,rfl⟩
   have hb45:Below w4.heap.size w4 w5:=below_alloc hb5
   have HB5:Hid (Below w.heap.size w w5):=HB4.out.trans (hb45.mono HB4.out.size)
   have HX5:=hideg (block_below HX4.out hb45)
   have HI5:Hid (MkIn w5 ma ms):=HI4.out.below hb45
   have hbne:(b.toList.isEmpty)=false:=by
    cases hq:b.toList.isEmpty
    ·rfl
    ·have:=(empty_iff b).1 hq;omega
   have hpk:=pk_bd at0 b.size (by omega)
   obtain⟨CAP,hCAP⟩:∃CAP,grownCap w5 b.size 0 5=CAP:=⟨_,rfl⟩
   have hcv:=run_bytes_of_string (P:=Tryz.prog) w5 9 52 5 b Tryz.underlying9 Tryz.underlying52 Tryz.underlying5
   rw[hCAP]at hcv
   obtain⟨w6,hw6⟩:∃w6,w5.drew.alloc (.cells (bytesRow b CAP) 5 ((bytesRow b CAP).size,(bytesRow b CAP).size+1))=w6:=⟨_,rfl⟩
   have hB6:Below w5.heap.size w5 w6:=by rw[←hw6];exact(Below.refl _ _).drew.alloc (Nat.le_refl _) _
   have hv6:w6.heap[w5.heap.size]? =some (.cells (bytesRow b CAP) 5 ((bytesRow b CAP).size,(bytesRow b CAP).size+1)):=by rw[←hw6];exact heap_alloc_new w5.drew _
   rw[hw6]at hcv
   have HB6:=hideg hB6
   have HV6:=hideg hv6
   have HBI:Hid (1≤b.size∧b.size≤4000):=⟨hbp,hsz⟩
   clear hB6 hv6 hw6 hCAP hr hb5 hb45 HB4 HX4 HI4 HD4 c0 c1 c2 c3 c4 c5 c6 l4
   go_wp2_with fail
   refine(HPK.out b.size _ (by omega) (by omega)).mono ?_
   rintro e w7 ⟨rfl,hw7⟩
   obtain rfl:w6=w7:=hw7
   obtain⟨hp0,hp1⟩:=hpk
   obtain⟨i,hi⟩:=Int.eq_ofNat_of_zero_le hp0
   rw[hi]at hp1 ⊢
   have hkb:i<b.size:=by have q:(i:Int)<b.size:=hp1;omega
   have hkb':(i:Int)<b.size:=by omega
   have ck:=row_cell8 HV6.out hkb
   have fk:w6.frozen? ⟨w5.heap.size,i,none⟩=false:=row_frz HV6.out hkb
   have hg6:w5.heap.size<w6.heap.size:=lt_of_cell ck
   have b0:=b8_bd b i
   have hrem:by0.tmod 255=by0%255:=Int.tmod_eq_emod_of_nonneg hy0
   obtain⟨y,hy⟩:∃y,by0%255=y:=⟨_,rfl⟩
   have hyb:0≤y∧y<255:=by omega
   have hwr:IntKind.u8.wrap (1+y)=1+y:=by simp[IntKind.wrap,IntKind.bits,IntKind.signed];omega
   obtain⟨z,hz,z0,z1,z2⟩:=xor8 (b8 b i) (1+y) b0.1 b0.2 (by omega) (by omega)
   have hcv2:=turn_conv HV6.out hkb z z0 z1 CAP
   clear hi hp0 hp1 HPK
   go_wp2_with fail
   have hB58:Below w5.heap.size w5 (w6.setCell ⟨w5.heap.size,i,none⟩ (.int .u8 z)):=HB6.out.setCell (p:=⟨w5.heap.size,i,none⟩) (Nat.le_refl _) _
   have hBw8:=HB5.out.trans (hB58.mono HB5.out.size)
   refine(HRO2.out (setB b i z) _ hBw8 (setB_ne hkb z0 z1 (z2 (by omega))) (by rw[setB_size];omega)).mono ?_
   rintro e w9 ⟨hb9,h9⟩
   have hB59:=hB58.trans (hb9.mono hB58.size)
   have HB9:Hid (Below w.heap.size w w9):=HB5.out.trans (hB59.mono HB5.out.size)
   have hX9:=block_below HX5.out hB59
   have HI9:Hid (MkIn w9 ma ms):=HI5.out.below hB59
   have HX9:=hideg hX9
   have c0:=(cells_of hX9 0).trans rfl
   have c1:=(cells_of hX9 1).trans rfl
   have c2:=(cells_of hX9 2).trans rfl
   have c3:=(cells_of hX9 3).trans rfl
   have c4:=(cells_of hX9 4).trans rfl
   have c5:=(cells_of hX9 5).trans rfl
   have c6:=(cells_of hX9 6).trans rfl
   have l9:w1.heap.size<w9.heap.size:=lt_of_cell c0
   clear hX9 hb9 hB58 hBw8 hB59 hcv hcv2 HB6 HV6 hkb hkb' ck fk hg6 b0 hrem hwr hz z0 z1 z2 HB5 HX5 HI5 HRO2 hbne HBI
   rcases h9 with⟨g,q,hg,he⟩|⟨v2,s2,n2,f2,t2,k2,m2,xa,xc,he,hin9,hml2,hno⟩
   ·unfold cardZ cardV at he
    subst he
    have hg1:(g==0)=false:=by simp[hg]
    have hg2:(g !=0)=true:=by simp[hg]
    go_wp2_with fail
    refine(HEQ.out 0 v ⟨#[]⟩ ⟨#[]⟩ ⟨#[]⟩ ⟨#[]⟩ ⟨#[]⟩ s nm tFrom tTill k [] ms none ma 0 mc _ (fun j hj=>absurd hj (Nat.not_lt_zero _)) (HI9.out.below ((Below.refl _ _).alloc (Nat.le_refl _) _)) (by decide) (by omega)).mono ?_
    rintro e w10 ⟨r,rfl,_,hb10⟩
    have hxb:w10.heap[w9.heap.size]? =some (.cells #[.int .i64 0,.string ⟨#[]⟩,.string ⟨#[]⟩,.string ⟨#[]⟩,.string ⟨#[]⟩,.string ⟨#[]⟩,.slice none 0 0] 68 (0,0)):=block_below (heap_alloc_new w9 _) hb10
    have d6:=(cells_of hxb 6).trans rfl
    have l10:w9.heap.size<w10.heap.size:=lt_of_cell d6
    have HB10:Hid (Below w.heap.size w w10):=HB9.out.trans ((below_alloc hb10).mono HB9.out.size)
    clear hb10 hxb c0 c1 c2 c3 c4 c5 c6
    go_wp2
    go_ret
    exact⟨rfl,HB10.out⟩
   ·unfold cardV at he
    subst he
    have HIX:=hideg hin9
    clear hin9
    go_wp2_with fail
    refine(HEQ.out v2 v s2 n2 f2 t2 k2 s nm tFrom tTill k m2 ms xa ma xc mc _ (HIX.out.below ((Below.refl _ _).alloc (Nat.le_refl _) _)) (HI9.out.below ((Below.refl _ _).alloc (Nat.le_refl _) _)) (by omega) (by omega)).mono ?_
    rintro e w10 ⟨r,rfl,hr,hb10⟩
    obtain rfl:r=false:=Bool.eq_false_iff.2 fun q=>hno (hr.1 q)
    have HB10:Hid (Below w.heap.size w w10):=HB9.out.trans ((below_alloc hb10).mono HB9.out.size)
    clear hb10 hr hno c0 c1 c2 c3 c4 c5 c6
    go_wp2
    go_ret
    exact⟨rfl,HB10.out⟩
end Go.Proofs.YtkkicodfpekbgaaGreatDoor
namespace Go.Proofs.YtkkicodfpekbgaaGreatDoor
open Go.RowKit Go.ChangeShapes Go.WideShapes
set_option linter.unusedSimpArgs false
set_option linter.unusedVariables false
set_option maxRecDepth 100000
set_option maxHeartbeats 8000000
theorem weights_mem{H:Type}{P:Program}{e:TypeId}{d:DataW H}{n:Nat}:∀{l:List (DataW H)},d∈l→n∈d.weights P e→n∈DataW.weightsAll P e l
 | [],h,_=>by cases h
 |x::l,h,hn=>by
  simp only[DataW.weightsAll]
  rcases List.mem_cons.1 h with rfl|h
  ·exact List.mem_append_left _ hn
  ·exact List.mem_append_right _ (weights_mem h hn)
section
variable{H:Type}{enc:TypeId×Value→H}{w:World}{base:Nat}{sp:Nat→Bool}{held:Bool}
theorem sized_plan{fuel:Nat}{na ta:Option Addr}{nl nc tl tc:Nat}{x:DataW H×List MemPlace}(h:DataW.trod enc Tryz.prog w base sp held fuel 42 [.slice na nl nc,.slice ta tl tc]=some x)
 (hw:∀n∈x.1.weights Tryz.prog 42,n≤reachBytes):PlanN 140737488351232 w ta tl:=by
 obtain⟨xs,n,_,hx,hl,hlen,hel⟩:=DataW.trod_struct Tryz.underlying42 h
 match xs,hlen,hx,hel with
 | [x0,x1],_,hx,hel=>
   have k1:=hel 1 _ rfl
   simp[Tryz.cIs,Tryz.cSs]at k1
   rcases open_strings Tryz.underlying29 Tryz.underlying9 Tryz.cSl k1 with⟨e,_⟩|⟨a,len,cap,zs,e,_,hlc,hcm,hzl,hxd,hcell,hwf⟩
   ·intro i hi b o s ea
    simp at e
    rw[e.1]at ea
    cases ea
   ·intro i hi b o s ea hc
    simp at e
    obtain⟨e1,e2,e3⟩:=e
    subst e2
    rw[e1]at ea
    injection ea with ea
    subst ea
    have hil:i<zs.length:=by rw[hzl];split<;>omega
    have q:=hcell i hil
    rw[plain_plus,hc]at q
    injection q with q
    injection q with q
    have hg:zs.getD i ByteArray.empty∈zs.take tl:=by
     rw[List.getD_eq_getElem?_getD,List.getElem?_eq_getElem hil]
     exact List.mem_take_iff_getElem.2 ⟨i,by omega,rfl⟩
    have hm:s.data.toList.length∈x1.1.weights Tryz.prog 29:=by
     rw[hxd]
     simp only[DataW.weights,Tryz.underlying29]
     refine List.mem_cons_of_mem _ (List.mem_append_left _ (weights_mem (d:= .lit (.string s.data.toList)) ?_ ?_))
     ·rw[q];exact List.mem_map_of_mem hg
     ·simp[DataW.weights]
    have:=hw s.data.toList.length (by
     rw[hx]
     simp only[DataW.weights,Tryz.underlying42]
     exact List.mem_append_right _ (List.mem_append_left _ hm))
    simp only[reachBytes]at this
    have e:s.data.toList.length=s.size:=by rw[Array.length_toList];rfl
    omega
end
end Go.Proofs.YtkkicodfpekbgaaGreatDoor
