/-
Several texts in one.
-/
import Derived.Test.YtkkicodfpekbgaaGreatDoorJa1
import Derived.Test.YtkkicodfpekbgaaGreatDoorJa3
import Derived.Test.YtkkicodfpekbgaaGreatDoorJa2
import Derived.Test.YtkkicodfpekbgaaGreatDoorJa0
import Derived.Test.YtkkicodfpekbgaaGreatDoorChecked
import Derived.WalkKit
import Derived.Laws.BitsAllLaws
import Derived.ChangeSlices
import Derived.SliceStrings
import Derived.OpenShut
namespace Go.Proofs.YtkkicodfpekbgaaGreatDoor
open Go.RowKit
set_option linter.unusedSimpArgs false
set_option linter.unusedVariables false
set_option maxRecDepth 100000
set_option maxHeartbeats 8000000
theorem bN_at{t:ByteArray}{k:Nat}{c l:List UInt8}(h:t.data.toList.drop k=c++l){i:Nat}(hi:i<c.length):b8 t (k+i)=((c.getD i 0).toNat:Int):=by
 rw[b8_bN,←bN_drop,h,List.getD_eq_getElem?_getD,List.getD_eq_getElem?_getD,List.getElem?_append_left hi]
theorem drop_lt{t:ByteArray}{k:Nat}{c l:List UInt8}(h:t.data.toList.drop k=c++l){i:Nat}(hi:i<c.length):k+i<t.size:=by
 have:=congrArg List.length h
 rw[List.length_drop,List.length_append,size_list]at this
 omega
theorem go_at{t:ByteArray}{a:Nat}{lo hi x:Int}(h:b8 t a=x)(ha:a<t.size)(h1:lo≤x)(h2:x≤hi)(h3:0≤lo)(h4:0≤hi):goB t a lo hi=true:=by
 have e1:lo=((lo.toNat:Nat):Int):=by omega
 have e2:hi=((hi.toNat:Nat):Int):=by omega
 rw[e1,e2,goB_iff]
 have:=b8_bN t a
 omega
def uch(c:List UInt8):Prop:=c=[195,169]∨c=[226,130,172]∨c=[240,159,152,128]∨c=[97]∨c=[0]
theorem uch_chr{t:ByteArray}{k:Nat}{c l:List UInt8}(h:t.data.toList.drop k=c++l)(hc:uch c):chr t k=c.length∧k<t.size:=by
 rcases hc with rfl|rfl|rfl|rfl|rfl
 ·have h0:b8 t k=195:=bN_at h (i:=0) (by decide)
  have h1:b8 t (k+1)=169:=bN_at h (i:=1) (by decide)
  have l1:=drop_lt h (i:=1) (by decide)
  refine⟨?_,by omega⟩
  unfold chr
  rw[h0,if_neg (by decide),if_pos ⟨by decide,by decide,go_at h1 l1 (by decide) (by decide) (by decide) (by decide)⟩]
  rfl
 ·have h0:b8 t k=226:=bN_at h (i:=0) (by decide)
  have h1:b8 t (k+1)=130:=bN_at h (i:=1) (by decide)
  have h2:b8 t (k+2)=172:=bN_at h (i:=2) (by decide)
  have l1:=drop_lt h (i:=1) (by decide)
  have l2:=drop_lt h (i:=2) (by decide)
  refine⟨?_,by omega⟩
  unfold chr
  rw[h0,if_neg (by decide),if_neg (fun z=>absurd z.2.1 (by decide)),if_pos ⟨by decide,by decide,go_at h1 l1 (by decide) (by decide) (by decide) (by decide),go_at h2 l2 (by decide) (by decide) (by decide) (by decide)⟩]
  rfl
 ·have h0:b8 t k=240:=bN_at h (i:=0) (by decide)
  have h1:b8 t (k+1)=159:=bN_at h (i:=1) (by decide)
  have h2:b8 t (k+2)=152:=bN_at h (i:=2) (by decide)
  have h3:b8 t (k+3)=128:=bN_at h (i:=3) (by decide)
  have l1:=drop_lt h (i:=1) (by decide)
  have l2:=drop_lt h (i:=2) (by decide)
  have l3:=drop_lt h (i:=3) (by decide)
  refine⟨?_,by omega⟩
  unfold chr
  rw[h0,if_neg (by decide),if_neg (fun z=>absurd z.2.1 (by decide)),if_neg (fun z=>absurd z.2.1 (by decide)),if_pos ⟨by decide,by decide,go_at h1 l1 (by decide) (by decide) (by decide) (by decide),go_at h2 l2 (by decide) (by decide) (by decide) (by decide),go_at h3 l3 (by decide) (by decide) (by decide) (by decide)⟩]
  rfl
 ·have h0:b8 t k=97:=bN_at h (i:=0) (by decide)
  have l0:=drop_lt h (i:=0) (by decide)
  refine⟨?_,by omega⟩
  unfold chr
  rw[h0,if_pos (by decide)]
  rfl
 ·have h0:b8 t k=0:=bN_at h (i:=0) (by decide)
  have l0:=drop_lt h (i:=0) (by decide)
  refine⟨?_,by omega⟩
  unfold chr
  rw[h0,if_pos (by decide)]
  rfl
theorem uch_from(t:ByteArray):∀(cs:List (List UInt8)) (k:Nat),(∀c∈cs,uch c)→t.data.toList.drop k=cs.flatten→Utf8From t k
 | [],k,_,h=>utf8_end t k (by have:=congrArg List.length h;rw[List.length_drop,size_list]at this;simp at this;omega)
 |c::cs,k,hc,h=>by
  rw[List.flatten_cons]at h
  obtain⟨h1,h2⟩:=uch_chr h (hc c (by simp))
  have hpos:c.length≠0:=by
   rcases hc c (by simp)with rfl|rfl|rfl|rfl|rfl<;>decide
  refine(utf8_step t k h2).2 ⟨by omega,?_⟩
  rw[h1]
  refine uch_from t cs _ (fun c' h'=>hc c' (by simp[h'])) ?_
  rw[←List.drop_drop,h,List.drop_left]
def Uch(o:ByteArray):Prop:=∃cs:List (List UInt8),(∀c∈cs,uch c)∧o.data.toList=cs.flatten
theorem Uch.nil:Uch ⟨#[]⟩:=⟨[],by simp,rfl⟩
theorem Uch.app{o x:ByteArray}(h:Uch o)(hx:uch x.data.toList):Uch (o++x):=by
 obtain⟨cs,h1,h2⟩:=h
 refine⟨cs++[x.data.toList],fun c hc=>?_,?_⟩
 ·rcases List.mem_append.1 hc with hc|hc
  ·exact h1 c hc
  ·rw[List.mem_singleton.1 hc];exact hx
 ·rw[ByteArray.data_append,Array.toList_append,h2];simp
theorem Uch.ok{o:ByteArray}(h:Uch o):Utf8Ok o:=by
 obtain⟨cs,h1,h2⟩:=h
 exact uch_from o cs 0 h1 h2
def AllB(P:Nat→Prop)(o:ByteArray):Prop:=∀b∈o.data.toList,P b.toNat
theorem AllB.nil(P:Nat→Prop):AllB P ⟨#[]⟩:=fun b hb=>by cases hb
theorem AllB.app{P:Nat→Prop}{o x:ByteArray}(h:AllB P o)(hx:AllB P x):AllB P (o++x):=fun b hb=>by
 rw[ByteArray.data_append,Array.toList_append]at hb
 rcases List.mem_append.1 hb with hb|hb
 ·exact h b hb
 ·exact hx b hb
theorem AllB.at{P:Nat→Prop}{o:ByteArray}(h:AllB P o){i:Nat}(hi:i<o.size):P (b8 o i).toNat:=by
 have hl:i<o.data.toList.length:=by rw[size_list];exact hi
 have e:b8 o i=((o.data.toList[i].toNat:Nat):Int):=by unfold b8;rw[List.getD_eq_getElem?_getD,List.getElem?_eq_getElem hl];rfl
 rw[e,Int.toNat_natCast]
 exact h _ (List.getElem_mem hl)
theorem pr_made{o:ByteArray}(h:AllB (fun x=>pr x=true) o):PrOk o:=fun i hi=>h.at hi
theorem pr_sign:∀m:Fin 21,∀b∈((⟨#[97,98,99,88,89,90,48,49,57,32,39,40,41,43,44,45,46,47,58,61,63]⟩:ByteArray).extract m.val 21).extract 0 1 |>.data.toList,pr b.toNat=true:=by decide+kernel
theorem content_utf2(W w:World)(M:Nat)(na ta:Option Addr)(nl nc tl tc:Nat)(vs vl:Value)(h:MkI W w M na ta nl nc tl tc vs vl)(hp:PlanIn W na ta nl tl):
 Calls Tryz.prog 54 #[.pointer (some ⟨M,0,none⟩),.int .i64 7] w fun e w'=>RetY (fun s=>Utf8Ok s∧s.size≤76) (fun w'=>MkI W w' M na ta nl nc tl tc vs vl∧FrM M w w') e w':=by
 have HT:Hid (Calls Tryz.prog 56 #[.pointer (some ⟨M,0,none⟩)] w fun e w'=>RetX 9223372036854775807 (fun w'=>MkI W w' M na ta nl nc tl tc vs vl∧FrM M w w') e w'):=text_any W w M na ta nl nc tl tc vs vl h hp
 have HC:Hid (∀s wq,s.size≤9223372036854775807→Calls Tryz.prog 55 #[.string s,.int .i64 19] wq fun e w'=>RetX 19 (fun w'=>w'=wq) e w'):=fun s wq q=>cut_any s 19 wq q (by omega)
 have HO:Hid (∀wq (n:Int),0<n→n≤1000000→MkI W wq M na ta nl nc tl tc vs vl→Calls Tryz.prog 53 #[.pointer (some ⟨M,0,none⟩),.int .i64 n] wq fun e w'=>RetNo n (fun w'=>MkI W w' M na ta nl nc tl tc vs vl∧FrM M wq w') e w'):=fun wq n h1 h2 q=>one_any W wq M na ta nl nc tl tc vs vl n h1 h2 q hp
 clear h hp
 go_enter Tryz.func54,Tryz.ntmps54
 go_wp2_with fail
 refine HT.out.mono ?_
 rintro e w1 ⟨s0,rfl,hs0,hI1,hF1⟩
 have HI1:Hid (MkI W w1 M na ta nl nc tl tc vs vl):=hI1
 have HF1:Hid (FrM M w w1):=hF1
 clear hI1 hF1
 go_wp2_with fail
 refine(HC.out s0 _ hs0).mono ?_
 rintro e w2 ⟨s,rfl,hs,rfl⟩
 clear hs0
 clear HO
 go_wp2
 go_loopw [6,8] (fun vo vi wr=>∃(o:ByteArray) (j:Nat),vo= .string o∧vi= .int .i64 j∧j≤s.size∧o.size≤4*j∧Uch o∧Below w2.heap.size w2 wr) (fun _ vi _=>s.size-(intOf vi).toNat)
 case atStart=>exact⟨⟨#[]⟩,0,rfl,rfl,Nat.zero_le _,Nat.zero_le _,Uch.nil,Below.refl _ _⟩
 case round=>
  obtain⟨o,j,rfl,rfl,hj,ho,ha,hb⟩:=hrel
  have HB:Hid (Below w2.heap.size w2 wr):=hb
  have HA:Hid (Uch o):=ha
  clear hb ha
  by_cases hlt:j<s.size
  ·have hlt':(j:Int)<s.size:=by omega
   obtain⟨m,hm⟩:∃m:Nat,s[j].toNat%5=m:=⟨_,rfl⟩
   have hm5:m<5:=by omega
   have hmi:Int.tmod (s[j].toNat:Int) 5=(m:Int):=by rw[Int.tmod_eq_emod_of_nonneg (by omega)];omega
   have hw64:wrap64 (s[j].toNat:Int)=s[j].toNat:=by have:=s[j].toNat_lt;unfold wrap64;omega
   have hcase:m=0∨m=1∨m=2∨m=3∨m=4:=by omega
   clear hm hm5
   rcases hcase with rfl|rfl|rfl|rfl|rfl
   all_goals
    go_wp2
    go_roundw
    case rel=>exact⟨_,j+1,rfl,by go_num,by omega,app_le ho (by decide),HA.out.app (by unfold uch;decide),HB.out.alloc HB.out.size _⟩
    case measure=>simp[intOf];omega
  ·have hlt':¬(j:Int)<s.size:=by omega
   go_wp2
   go_ret
   exact⟨o,rfl,⟨HA.out.ok,by omega⟩,HI1.out.below HB.out,HF1.out.trans (FrM.below HB.out)⟩
theorem content_pr2(W w:World)(M:Nat)(na ta:Option Addr)(nl nc tl tc:Nat)(vs vl:Value)(h:MkI W w M na ta nl nc tl tc vs vl)(hp:PlanIn W na ta nl tl):
 Calls Tryz.prog 54 #[.pointer (some ⟨M,0,none⟩),.int .i64 8] w fun e w'=>RetY (fun s=>PrOk s∧s.size≤76) (fun w'=>MkI W w' M na ta nl nc tl tc vs vl∧FrM M w w') e w':=by
 have HT:Hid (Calls Tryz.prog 56 #[.pointer (some ⟨M,0,none⟩)] w fun e w'=>RetX 9223372036854775807 (fun w'=>MkI W w' M na ta nl nc tl tc vs vl∧FrM M w w') e w'):=text_any W w M na ta nl nc tl tc vs vl h hp
 have HC:Hid (∀s wq,s.size≤9223372036854775807→Calls Tryz.prog 55 #[.string s,.int .i64 19] wq fun e w'=>RetX 19 (fun w'=>w'=wq) e w'):=fun s wq q=>cut_any s 19 wq q (by omega)
 have HO:Hid (∀wq (n:Int),0<n→n≤1000000→MkI W wq M na ta nl nc tl tc vs vl→Calls Tryz.prog 53 #[.pointer (some ⟨M,0,none⟩),.int .i64 n] wq fun e w'=>RetNo n (fun w'=>MkI W w' M na ta nl nc tl tc vs vl∧FrM M wq w') e w'):=fun wq n h1 h2 q=>one_any W wq M na ta nl nc tl tc vs vl n h1 h2 q hp
 clear h hp
 go_enter Tryz.func54,Tryz.ntmps54
 go_wp2_with fail
 refine HT.out.mono ?_
 rintro e w1 ⟨s0,rfl,hs0,hI1,hF1⟩
 have HI1:Hid (MkI W w1 M na ta nl nc tl tc vs vl):=hI1
 have HF1:Hid (FrM M w w1):=hF1
 clear hI1 hF1
 go_wp2_with fail
 refine(HC.out s0 _ hs0).mono ?_
 rintro e w2 ⟨s,rfl,hs,rfl⟩
 clear hs0
 clear HO
 go_wp2
 go_loopw [6,9] (fun vo vi wr=>∃(o:ByteArray) (j:Nat),vo= .string o∧vi= .int .i64 j∧j≤s.size∧o.size≤4*j∧AllB (fun x=>pr x=true) o∧Below w2.heap.size w2 wr) (fun _ vi _=>s.size-(intOf vi).toNat)
 case atStart=>exact⟨⟨#[]⟩,0,rfl,rfl,Nat.zero_le _,Nat.zero_le _,AllB.nil _,Below.refl _ _⟩
 case round=>
  obtain⟨o,j,rfl,rfl,hj,ho,ha,hb⟩:=hrel
  have HB:Hid (Below w2.heap.size w2 wr):=hb
  have HA:Hid (AllB (fun x=>pr x=true) o):=ha
  clear hb ha
  by_cases hlt:j<s.size
  ·have hlt':(j:Int)<s.size:=by omega
   obtain⟨m,hm⟩:∃m:Nat,s[j].toNat%21=m:=⟨_,rfl⟩
   have hm21:m<21:=by omega
   have hmi:Int.tmod (s[j].toNat:Int) 21=(m:Int):=by rw[Int.tmod_eq_emod_of_nonneg (by omega)];omega
   have hw64:wrap64 (s[j].toNat:Int)=s[j].toNat:=by have:=s[j].toNat_lt;unfold wrap64;omega
   have hm21':(m:Int)≤21:=by omega
   have hm20':(1:Int)≤21-m:=by omega
   have HPM:Hid (AllB (fun x=>pr x=true) (((⟨#[97,98,99,88,89,90,48,49,57,32,39,40,41,43,44,45,46,47,58,61,63]⟩:ByteArray).extract m 21).extract 0 1)):=pr_sign ⟨m,hm21⟩
   clear hm
   go_wp2
   go_roundw
   case rel=>exact⟨_,j+1,rfl,by go_num,by omega,app_le ho (by rw[ByteArray.size_extract];omega),HA.out.app HPM.out,HB.out⟩
   case measure=>simp[intOf];omega
  ·have hlt':¬(j:Int)<s.size:=by omega
   go_wp2
   go_ret
   exact⟨o,rfl,⟨pr_made HA.out,by omega⟩,HI1.out.below HB.out,HF1.out.trans (FrM.below HB.out)⟩
def setB(b:ByteArray)(k:Nat)(z:Int):ByteArray:=⟨(b.data.toList.set k (UInt8.ofNat z.toNat)).toArray⟩
theorem setB_size(b:ByteArray)(k:Nat)(z:Int):(setB b k z).size=b.size:=by
 show((b.data.toList.set k _).toArray).size=b.data.size
 rw[List.size_toArray,List.length_set,Array.length_toList]
theorem setB_ne{b:ByteArray}{k:Nat}{z:Int}(hk:k<b.size)(h0:0≤z)(h1:z<256)(hz:z≠b8 b k):setB b k z≠b:=fun h=>by
 have e:b8 (setB b k z) k=z:=by
  unfold b8 setB
  rw[List.getD_eq_getElem?_getD]
  have hl:k<b.data.toList.length:=by rw[Array.length_toList];exact hk
  simp only[List.getElem?_set_self hl,Option.getD_some,UInt8.toNat_ofNat']
  omega
 rw[h]at e
 exact hz e.symm
theorem row_b8{b:ByteArray}{c j:Nat}(hj:j<b.size):(bytesRow b c)[j]? =some (.int .u8 (b8 b j)):=by
 unfold bytesRow b8
 have h1:j<b.data.size:=hj
 rw[Array.getElem?_append_left (by rw[Array.size_map];exact h1),Array.getElem?_map,Array.getElem?_eq_getElem h1,List.getD_eq_getElem?_getD,Array.getElem?_toList,Array.getElem?_eq_getElem h1]
 rfl
theorem row_cell8{w:World}{g:Nat}{b:ByteArray}{c:Nat}{fr:Nat×Nat}(hv:w.heap[g]? =some (.cells (bytesRow b c) 5 fr)){j:Nat}(hj:j<b.size):w.cell? ⟨g,j,none⟩=some (.int .u8 (b8 b j)):=by
 have:=row_b8 (c:=c) hj
 simp only[World.cell?,hv]
 simpa using this
theorem row_frz{w:World}{g:Nat}{b:ByteArray}{c:Nat}(hv:w.heap[g]? =some (.cells (bytesRow b c) 5 ((bytesRow b c).size,(bytesRow b c).size+1))){j:Nat}(hj:j<b.size):w.frozen? ⟨g,j,none⟩=false:=by
 have hs:b.size≤(bytesRow b c).size:=by
  unfold bytesRow
  rw[Array.size_append,Array.size_map]
  exact Nat.le_add_right _ _
 simp only[World.frozen?,hv]
 simp
 omega
theorem turn_conv{w:World}{g:Nat}{b:ByteArray}{c:Nat}{fr:Nat×Nat}(hv:w.heap[g]? =some (.cells (bytesRow b c) 5 fr)){k:Nat}(hk:k<b.size)(z:Int)(h0:0≤z)(h1:z<256)(cp:Nat):
 (convert 52 9 (.slice (some ⟨g,0,none⟩) b.size cp)).run Tryz.prog (w.setCell ⟨g,k,none⟩ (.int .u8 z))= .ok (.string (setB b k z)) (w.setCell ⟨g,k,none⟩ (.int .u8 z)):=by
 have hlen:(b.data.toList.set k (UInt8.ofNat z.toNat)).length=b.size:=by rw[List.length_set,Array.length_toList];rfl
 have h:=run_convert_bytes_back (P:=Tryz.prog) (w.setCell ⟨g,k,none⟩ (.int .u8 z)) 52 9 5 ⟨g,0,none⟩ cp (b.data.toList.set k (UInt8.ofNat z.toNat)) Tryz.underlying52 Tryz.underlying5 Tryz.underlying9 (fun j hj=>by
  have e1:(⟨g,0,none⟩:Addr).add j=⟨g,j,none⟩:=by unfold Addr.add;split<;>simp_all
  have hj':j<b.size:=by rw[←hlen];exact hj
  rw[e1]
  by_cases q:j=k
  ·subst q
   rw[World.cell?_setCell_same _ _ _ (row_cell8 hv hj'),List.getElem_set_self,UInt8.toNat_ofNat']
   rw[show((z.toNat%2^8:Nat):Int)=z by omega]
  ·rw[World.cell?_setCell_other _ _ _ _ (by simp;try omega),row_cell8 hv hj',List.getElem_set_ne (by omega)]
   unfold b8
   rw[List.getD_eq_getElem?_getD,List.getElem?_eq_getElem (by rw[Array.length_toList];exact hj'),Option.getD_some])
 rw[hlen]at h
 exact h
theorem xor8(a b:Int)(h1:0≤a)(h2:a<256)(h3:0≤b)(h4:b<256):∃z,bits .xor .u8 a b=z∧0≤z∧z<256∧(b≠0→z≠a):=by
 obtain⟨A,rfl⟩:=Int.eq_ofNat_of_zero_le h1
 obtain⟨B,rfl⟩:=Int.eq_ofNat_of_zero_le h3
 have hx:A ^^^ B<2^8:=Nat.xor_lt_two_pow (by omega) (by omega)
 refine⟨((A ^^^ B:Nat):Int),u8_xor_nat A B (by omega) (by omega),by omega,by omega,fun h e=>h ?_⟩
 have e':A ^^^ B=A:=by omega
 have:A ^^^ (A ^^^ B)=A ^^^ A:=by rw[e']
 rw[←Nat.xor_assoc,Nat.xor_self,Nat.zero_xor]at this
 omega
end Go.Proofs.YtkkicodfpekbgaaGreatDoor
namespace Go.Proofs.YtkkicodfpekbgaaGreatDoor
open Go.RowKit Go.ChangeShapes Go.WideShapes
set_option linter.unusedSimpArgs false
set_option linter.unusedVariables false
set_option maxRecDepth 100000
set_option maxHeartbeats 8000000
theorem Tryz.cIl:Tryz.prog.cellsOf 3=1:=by kernel_rfl
theorem Tryz.cSl:Tryz.prog.cellsOf 9=1:=by kernel_rfl
theorem Tryz.cPl:Tryz.prog.cellsOf 42=2:=by kernel_rfl
theorem Tryz.cIs:Tryz.prog.cellsOf 32=1:=by kernel_rfl
theorem Tryz.cSs:Tryz.prog.cellsOf 29=1:=by kernel_rfl
theorem plain_addr{w:World}{a:Addr}{v:Value}(h:w.cell? a=some v):a=⟨a.block,a.off,none⟩:=by
 obtain⟨b,o,sp⟩:=a
 cases sp with
 |none=>rfl
 |some k=>
  unfold World.cell? at h
  simp only at h
  split at h
  ·simp at h
  ·cases h
theorem plain_plus(b o n:Nat):(⟨b,o,none⟩:Addr).add n=⟨b,o+n,none⟩:=by unfold Addr.add;split<;>simp_all
section
variable{H:Type}{enc:TypeId×Value→H}{w:World}{base:Nat}{sp:Nat→Bool}{held:Bool}
theorem open_plan{fuel:Nat}{cs:List Value}{x:DataW H×List MemPlace}(h:DataW.trod enc Tryz.prog w base sp held fuel 42 cs=some x):
 ∃(na ta:Option Addr) (nl nc tl tc:Nat),cs=[.slice na nl nc,.slice ta tl tc]∧PlanIn w na ta nl tl:=by
 obtain⟨xs,n,_,hx,hl,hlen,hel⟩:=DataW.trod_struct Tryz.underlying42 h
 rw[Tryz.cPl]at hl
 match cs,hl,xs,hlen,hx,hel with
 | [c0,c1],_,[x0,x1],_,hx,hel=>
   have k0:=hel 0 _ rfl
   have k1:=hel 1 _ rfl
   simp[Tryz.cIs,Tryz.cSs]at k0 k1
   obtain⟨na,nl,nc,e0,hn,hnl⟩:∃(na:Option Addr) (nl nc:Nat),c0= .slice na nl nc∧(∀i,i<nl→∃b o z,na=some ⟨b,o,none⟩∧w.cell? ⟨b,o+i,none⟩=some (.int .i64 z)∧ -9223372036854775808≤z∧z≤9223372036854775807)∧nl≤maxLen:=by
    rcases open_ints Tryz.underlying32 Tryz.underlying3 Tryz.cIl k0 with⟨e,_⟩|⟨a,len,cap,zs,e,_,hlc,hcm,hzl,_,hcell,hwf⟩
    ·exact⟨none,0,0,by simpa using e,fun i hi=>absurd hi (Nat.not_lt_zero _),Nat.zero_le _⟩
    ·refine⟨some a,len,cap,by simpa using e,fun i hi=>?_,by omega⟩
     have hil:i<zs.length:=by rw[hzl];split<;>omega
     have q:=hcell i hil
     have q0:=hcell 0 (by omega)
     have ea:a=⟨a.block,a.off,none⟩:=plain_addr (w:=w) (a:=a) (by simpa [Addr.add]using q0)
     rw[ea,plain_plus]at q
     have hb:=bounds_i64 (hwf (zs.getD i 0) (by rw[List.getD_eq_getElem?_getD,List.getElem?_eq_getElem hil];exact List.getElem_mem hil))
     exact⟨a.block,a.off,_,congrArg some ea,q,by omega,by omega⟩
   obtain⟨ta,tl,tc,e1,ht,htl⟩:∃(ta:Option Addr) (tl tc:Nat),c1= .slice ta tl tc∧(∀i,i<tl→∃b o z,ta=some ⟨b,o,none⟩∧w.cell? ⟨b,o+i,none⟩=some (.string z)∧z.size≤9223372036854775807)∧tl≤maxLen:=by
    rcases open_strings Tryz.underlying29 Tryz.underlying9 Tryz.cSl k1 with⟨e,_⟩|⟨a,len,cap,zs,e,_,hlc,hcm,hzl,_,hcell,hwf⟩
    ·exact⟨none,0,0,by simpa using e,fun i hi=>absurd hi (Nat.not_lt_zero _),Nat.zero_le _⟩
    ·refine⟨some a,len,cap,by simpa using e,fun i hi=>?_,by omega⟩
     have hil:i<zs.length:=by rw[hzl];split<;>omega
     have q:=hcell i hil
     have q0:=hcell 0 (by omega)
     have ea:a=⟨a.block,a.off,none⟩:=plain_addr (w:=w) (a:=a) (by simpa [Addr.add]using q0)
     rw[ea,plain_plus]at q
     have hb:=hwf (zs.getD i ByteArray.empty) (by rw[List.getD_eq_getElem?_getD,List.getElem?_eq_getElem hil];exact List.getElem_mem hil)
     unfold maxLen at hb
     exact⟨a.block,a.off,_,congrArg some ea,q,by omega⟩
   subst e0 e1
   exact⟨na,ta,nl,nc,tl,tc,rfl,⟨hn,ht,hnl,htl⟩⟩
end
end Go.Proofs.YtkkicodfpekbgaaGreatDoor
