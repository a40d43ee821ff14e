/-
Several texts in one.
-/
import Derived.Test.YtkkicodfpekbgaaGreatDoorJa4
import Derived.Deep.DrawnRows
import Derived.Test.YtkkicodfpekbgaaGreatDoorJa3
import Derived.Test.YtkkicodfpekbgaaGreatDoorJa1
import Derived.Deep.RegionWith
import Derived.WalkMore
import Derived.Test.YtkkicodfpekbgaaGreatDoorJa0
import Derived.Laws.IdiomStrings
namespace Go.Proofs.YtkkicodfpekbgaaGreatDoor
open Go.RowKit
set_option linter.unusedSimpArgs false
set_option linter.unusedVariables false
set_option maxRecDepth 100000
set_option maxHeartbeats 8000000
attribute [local go_sem ↓] Go.wp_at_zero Go.wp_at_succ
def strip:List (Int×Int×Bool)→ByteArray→Option ByteArray
 | [],t=>some t
 |f::fs,t=>if(hd t).1=0∧((hd t).2.c,(hd t).2.n,(hd t).2.b)=f∧(hd t).2.s+(hd t).2.l=t.size then strip fs (t.extract (hd t).2.s.toNat t.size)else none
def RetI(n:Nd)(t:ByteArray)(w:World)(e:Ending)(w':World):Prop:=
 ∃(u:ByteArray) (r:Bool),e= .returned (.tuple #[.string u,.bool r])∧((r=true∧strip n.lays t=some u)∨(r=false∧strip n.lays t=none))∧Below w.heap.size w w'∧u.size≤t.size
theorem within_any(n:Nd)(ka:Option Addr)(kc:Nat)(t:ByteArray)(w:World)(sn:Sn→Addr)(hsn:Sent w sn)(hn:Nums w)(ht: -1≤n.tag)(hk:0≤n.kind)(hk':n.kind≤9)(hm1:n.mode=1→0≤n.tag)(hm:t.size≤140737488355328):
 Calls Tryz.prog 137 #[.agg #[.int .i64 n.kind,.int .i64 n.tag,.int .i64 n.mode,.slice ka n.kids.length kc],.string t] w fun e w'=>RetI n t w e w':=by
 have HL:Hid (∀wq,Below w.heap.size w wq→Calls Tryz.prog 172 #[.agg #[.int .i64 n.kind,.int .i64 n.tag,.int .i64 n.mode,.slice ka n.kids.length kc]] wq fun e w'=>∃g,e= .returned (.slice (some ⟨g,0,none⟩) n.lays.length n.lays.length)∧(∃T,w'.heap[g]? =some (.cells (lcells n.lays).toArray T (0,0)))∧Below wq.heap.size wq w'):=fun wq q=>layers_any n ka kc wq (hn.below q) ht hk hk' hm1
 have HS:Hid (Sent w sn):=hsn
 have hlen:n.lays.length≤2:=by unfold Nd.lays;split<;>simp
 clear hsn hn hm1
 obtain⟨L,hL⟩:∃L,n.lays=L:=⟨_,rfl⟩
 have HLL:Hid (n.lays=L):=hL
 rw[hL]at HL hlen
 clear hL
 go_enter Tryz.func137,Tryz.ntmps137
 go_wp2_with fail
 refine(HL.out _ ((Below.refl _ _).alloc (Nat.le_refl _) _)).mono ?_
 rintro e w1 ⟨g,rfl,⟨T,hG⟩,hb1⟩
 have HB1:Hid (Below w.heap.size w w1):=below_alloc hb1
 have HG:Hid (w1.heap[g]? =some (.cells (lcells L).toArray T (0,0))):=hG
 clear hb1 hG
 go_wp2
 go_loopw [1,13] (fun v1 vj wr=>∃(j:Nat) (u:ByteArray),vj= .int .i64 j∧v1= .string u∧j≤L.length∧strip L t=strip (L.drop j) u∧u.size≤t.size∧Below w1.heap.size w1 wr) (fun _ vj _=>L.length-(intOf vj).toNat)
 case atStart=>exact⟨0,t,rfl,rfl,Nat.zero_le _,rfl,Nat.le_refl _,Below.refl _ _⟩
 case round=>
  obtain⟨j,u,rfl,rfl,hj,hst,hu,hbr⟩:=hrel
  have HST:Hid (strip L t=strip (L.drop j) u):=hst
  have HB:Hid (Below w1.heap.size w1 wr):=hbr
  have HBW:Hid (Below w.heap.size w wr):=HB1.out.trans (hbr.mono HB1.out.size)
  have hGr:=block_below HG.out hbr
  by_cases hlt:j<L.length
  ·have hlt':(j:Int)<L.length:=by omega
   obtain⟨c,m,b,hf⟩:∃c m b,L[j]? =some (c,m,b):=⟨(L[j]).1,(L[j]).2.1,(L[j]).2.2,by rw[List.getElem?_eq_getElem hlt]⟩
   have HF:Hid (L.drop j=(c,m,b)::L.drop (j+1)):=by
    show L.drop j=_
    rw[List.drop_eq_getElem_cons hlt]
    rw[List.getElem?_eq_getElem hlt]at hf
    injection hf with hf
    rw[hf]
   have hcell:wr.cell? ⟨g,j*3,none⟩=some (.int .i64 c)∧wr.cell? ⟨g,j*3+1,none⟩=some (.int .i64 m)∧wr.cell? ⟨g,j*3+2,none⟩=some (.bool b):=by
    simp only[World.cell?,hGr]
    match L,hlen,j,hlt,hf with
    | [f0],_,0,_,hf=>simp at hf;subst hf;simp[lcells]
    | [f0,f1],_,0,_,hf=>simp at hf;subst hf;simp[lcells]
    | [f0,f1],_,1,_,hf=>simp at hf;subst hf;simp[lcells]
   obtain⟨g0,g1,g2⟩:=hcell
   have HRD:Hid (∀wq,Below w.heap.size w wq→Calls Tryz.prog 156 #[.string u,.int .i64 0] wq fun e w'=>e= .returned (.tuple #[hv (hd u).2,errAt 0 sn (hd u).1])∧Below wq.heap.size wq w'):=fun wq q=>read0 u wq sn (HS.out.below q) (by omega)
   have hlg:=lt_of_cell g0
   simp only at hlg
   clear hst hbr hGr hf
   go_wp2_with fail
   refine(HRD.out _ (HBW.out.alloc HBW.out.size _)).mono ?_
   rintro e w2 ⟨rfl,hb2⟩
   have HB2:Hid (Below w1.heap.size w1 w2):=HB.out.trans ((below_alloc hb2).mono HB.out.size)
   have HBW2:Hid (Below w.heap.size w w2):=HBW.out.trans ((below_alloc hb2).mono HBW.out.size)
   have hF:=block_below (heap_alloc_new wr (.cells #[.int .i64 c,.int .i64 m,.bool b] 149)) hb2
   have hs2:=lt_of_block hF
   have t0:w2.cell? ⟨wr.heap.size,0,none⟩=some (.int .i64 c):=by simp[World.cell?,hF]
   have t1:w2.cell? ⟨wr.heap.size,1,none⟩=some (.int .i64 m):=by simp[World.cell?,hF]
   have t2:w2.cell? ⟨wr.heap.size,2,none⟩=some (.bool b):=by simp[World.cell?,hF]
   obtain⟨hc,hb,hn,hz,hl,hH⟩:∃hc hb hn hz hl,(hd u).2=⟨hc,hb,hn,hz,hl⟩:=⟨_,_,_,_,_,rfl⟩
   have HH:Hid ((hd u).2=⟨hc,hb,hn,hz,hl⟩):=hH
   rw[hH]
   unfold hv
   clear hb2 hF hH g0 g1 g2
   by_cases hk0:(hd u).1=0
   ·have HK:Hid ((hd u).1=0):=hk0
    have hok:=hd_ok hk0
    rw[HH.out]at hok
    simp only at hok
    obtain⟨z,rfl⟩:∃z:Nat,hz=z:=⟨hz.toNat,by omega⟩
    obtain⟨l,rfl⟩:∃l:Nat,hl=l:=⟨hl.toNat,by omega⟩
    have e0:errAt 0 sn (hd u).1= .nilIface:=by rw[hk0];rfl
    rw[e0]
    have HFO:Hid (∀wq,Calls Tryz.prog 157 #[.agg #[.int .i64 hc,.bool hb,.int .i64 hn,.int .i64 z,.int .i64 l]] wq fun e w'=>e= .returned (.agg #[.int .i64 hc,.int .i64 hn,.bool hb])∧Below wq.heap.size wq w'):=fun wq=>firstOf_any hc hb hn z l wq
    have HBW3:Hid (Below w.heap.size w (w2.alloc (.cells #[.int .i64 hc,.bool hb,.int .i64 hn,.int .i64 z,.int .i64 l] 179))):=HBW2.out.alloc HBW2.out.size _
    have HB3:Hid (Below w1.heap.size w1 (w2.alloc (.cells #[.int .i64 hc,.bool hb,.int .i64 hn,.int .i64 z,.int .i64 l] 179))):=HB2.out.alloc HB2.out.size _
    have X0:∀x:Ext (w2.alloc (.cells #[.int .i64 hc,.bool hb,.int .i64 hn,.int .i64 z,.int .i64 l] 179)),x.v.cell? ⟨w2.heap.size,0,none⟩=some (.int .i64 hc):=fun x=>x.new rfl
    have X1:∀x:Ext (w2.alloc (.cells #[.int .i64 hc,.bool hb,.int .i64 hn,.int .i64 z,.int .i64 l] 179)),x.v.cell? ⟨w2.heap.size,1,none⟩=some (.bool hb):=fun x=>x.new rfl
    have X2:∀x:Ext (w2.alloc (.cells #[.int .i64 hc,.bool hb,.int .i64 hn,.int .i64 z,.int .i64 l] 179)),x.v.cell? ⟨w2.heap.size,2,none⟩=some (.int .i64 hn):=fun x=>x.new rfl
    have X3:∀x:Ext (w2.alloc (.cells #[.int .i64 hc,.bool hb,.int .i64 hn,.int .i64 z,.int .i64 l] 179)),x.v.cell? ⟨w2.heap.size,3,none⟩=some (.int .i64 z):=fun x=>x.new rfl
    have X4:∀x:Ext (w2.alloc (.cells #[.int .i64 hc,.bool hb,.int .i64 hn,.int .i64 z,.int .i64 l] 179)),x.v.cell? ⟨w2.heap.size,4,none⟩=some (.int .i64 l):=fun x=>x.new rfl
    have Y0:∀x:Ext (w2.alloc (.cells #[.int .i64 hc,.bool hb,.int .i64 hn,.int .i64 z,.int .i64 l] 179)),x.v.cell? ⟨wr.heap.size,0,none⟩=some (.int .i64 c):=fun x=>x.old t0
    have Y1:∀x:Ext (w2.alloc (.cells #[.int .i64 hc,.bool hb,.int .i64 hn,.int .i64 z,.int .i64 l] 179)),x.v.cell? ⟨wr.heap.size,1,none⟩=some (.int .i64 m):=fun x=>x.old t1
    have Y2:∀x:Ext (w2.alloc (.cells #[.int .i64 hc,.bool hb,.int .i64 hn,.int .i64 z,.int .i64 l] 179)),x.v.cell? ⟨wr.heap.size,2,none⟩=some (.bool b):=fun x=>x.old t2
    have hzl:(z:Int)+l≤9223372036854775807:=by omega
    clear hk0 e0
    by_cases hq:hc=c∧hn=m∧hb=b
    ·obtain⟨rfl,rfl,rfl⟩:=hq
     go_wp2_with fail
     (have ne:=ext_ne;refine wp_region_ext (by kernel_rfl) (by kernel_rfl) ?_;(repeat(first|go_big_quiet_skip|(go_big_quiet_want;go_big_quiet_op;first|go_big_quiet_on|(apply Exists.intro;refine⟨fun x=>?_,?_⟩;(·(exact Ext.calls (HFO.out x.v)));go_big_quiet_on))));refine nil_ext ?_)
     intro w5 hb5
     have z3:=X3 ⟨w5,hb5⟩
     have HB5:Hid (Below w1.heap.size w1 w5):=HB3.out.trans (hb5.mono HB3.out.size)
     have HBW5:Hid (Below w.heap.size w w5):=HBW3.out.trans (hb5.mono HBW3.out.size)
     have HS5:Hid (w2.heap.size<w5.heap.size):=lt_of_cell z3
     simp only at z3
     clear X0 X1 X2 X3 X4 Y0 Y1 Y2 hb5
     by_cases hsz:(z:Int)+l=u.size
     ·have hsz':((z:Int)+l !=u.size)=false:=by rw[bne_eq_false_iff_eq];exact hsz
      have hzu:(z:Int)≤u.size:=by omega
      go_wp2
      go_roundw
      case rel=>
       refine⟨j+1,u.extract z u.size,by go_num,rfl,by omega,?_,?_,HB5.out⟩
       ·rw[HST.out,HF.out]
        show(if _ then _ else _)=_
        rw[HH.out,if_pos ⟨HK.out,rfl,hsz⟩]
        rfl
       ·have:(u.extract z u.size).size=u.size-z:=by simp
        omega
      case measure=>simp[intOf];omega
     ·have hsz':((z:Int)+l !=u.size)=true:=by rw[bne_iff_ne];exact hsz
      have HNO:Hid (strip L t=none):=by show strip L t=none;rw[HST.out,HF.out];unfold strip;rw[if_neg (fun q=>hsz (by have:=q.2.2;rw[HH.out]at this;exact this))]
      clear hsz
      go_wp2
      go_ret2
      exact⟨⟨#[]⟩,false,rfl,.inr ⟨rfl,by rw[HLL.out];exact HNO.out⟩,HBW5.out,by exact Nat.zero_le _⟩
    ·have HNO:Hid (strip L t=none):=by show strip L t=none;rw[HST.out,HF.out];unfold strip;rw[if_neg (fun q=>hq (by have:=q.2.1;rw[HH.out]at this;simpa using this))]
     have hq3:¬hc=c∨(hc=c∧¬hn=m)∨(hc=c∧hn=m∧¬hb=b):=by
      by_cases a1:hc=c
      ·by_cases a2:hn=m
       ·exact .inr (.inr ⟨a1,a2,fun a3=>hq ⟨a1,a2,a3⟩⟩)
       ·exact .inr (.inl ⟨a1,a2⟩)
      ·exact .inl a1
     clear hq
     rcases hq3 with hq|⟨rfl,hq⟩|⟨rfl,rfl,hq⟩
     all_goals
      go_wp2_with fail
      (have ne:=ext_ne;refine wp_region_ext (by kernel_rfl) (by kernel_rfl) ?_;(repeat(first|go_big_quiet_skip|(go_big_quiet_want;go_big_quiet_op;first|go_big_quiet_on|(apply Exists.intro;refine⟨fun x=>?_,?_⟩;(·(exact Ext.calls (HFO.out x.v)));go_big_quiet_on))));refine nil_ext ?_)
      intro w5 hb5
      have HBW5:Hid (Below w.heap.size w w5):=HBW3.out.trans (hb5.mono HBW3.out.size)
      clear X0 X1 X2 X3 X4 Y0 Y1 Y2 hb5
      go_wp2
      go_ret2
      exact⟨⟨#[]⟩,false,rfl,.inr ⟨rfl,by rw[HLL.out];exact HNO.out⟩,HBW5.out,by exact Nat.zero_le _⟩
   ·have HK:Hid (¬(hd u).1=0):=hk0
    have HNO:Hid (strip L t=none):=by show strip L t=none;rw[HST.out,HF.out];unfold strip;rw[if_neg (fun q=>hk0 q.1)]
    obtain⟨fp,fa,he⟩:∃fp fa,errAt 0 sn (hd u).1=fault fp fa:=by
     unfold errAt
     rw[if_neg hk0]
     repeat' split
     all_goals exact⟨_,_,rfl⟩
    rw[he]
    unfold fault
    clear hk0 he
    go_wp2_with fail
    go_quiet (fail)
    go_wp2
    go_ret2
    exact⟨⟨#[]⟩,false,rfl,.inr ⟨rfl,by rw[HLL.out];exact HNO.out⟩,Go.below_drewN (HBW2.out.alloc HBW2.out.size _) _,by exact Nat.zero_le _⟩
  ·have hlt':(L.length:Int)≤j:=by omega
   have HE:Hid (strip L t=some u):=by show strip L t=some u;rw[hst,List.drop_of_length_le (by omega)];rfl
   clear hst hbr hGr
   go_wp2
   go_ret2
   exact⟨u,true,rfl,.inl ⟨rfl,by rw[HLL.out];exact HE.out⟩,HBW.out,hu⟩
end Go.Proofs.YtkkicodfpekbgaaGreatDoor
namespace Go.Proofs.YtkkicodfpekbgaaGreatDoor
open Go.RowKit
set_option linter.unusedSimpArgs false
set_option linter.unusedVariables false
set_option maxRecDepth 100000
set_option maxHeartbeats 8000000
def tcells(ts:List (Int×Int)):List Value:=ts.flatMap fun t=> [.int .i64 t.1,.int .i64 t.2]
theorem tcells_append(l:List (Int×Int))(t:Int×Int):tcells (l++[t])=tcells l++[.int .i64 t.1,.int .i64 t.2]:=by unfold tcells;simp
def tgs(s:List Nd)(l:List Nat):List (Int×Int):=(l.filter fun j=> !(nd s j).everyB).map fun j=>(nd s j).outer
theorem tgs_no{s:List Nd}{l:List Nat}{x:Nat}(h:¬(nd s x).every):tgs s (l++[x])=tgs s l++[(nd s x).outer]:=by unfold tgs;rw[List.filter_append];simp[Nd.everyB_no h]
theorem tgs_yes{s:List Nd}{l:List Nat}{x:Nat}(h:(nd s x).every):tgs s (l++[x])=tgs s l:=by unfold tgs;rw[List.filter_append];simp[Nd.everyB_yes h]
theorem tgs_le(s:List Nd)(l:List Nat):(tgs s l).length≤l.length:=by unfold tgs;simp;exact List.length_filter_le _ _
theorem mem_tgs{s:List Nd}{l:List Nat}{t:Int×Int}:t∈tgs s l↔∃j∈l,¬(nd s j).every∧(nd s j).outer=t:=by
 unfold tgs
 rw[List.mem_map]
 constructor
 ·rintro⟨j,hj,e⟩
  rw[List.mem_filter]at hj
  exact⟨j,hj.1,fun q=>(by have:=hj.2;rw[Nd.everyB_yes q]at this;cases this),e⟩
 ·rintro⟨j,hj,h,e⟩
  exact⟨j,by rw[List.mem_filter];exact⟨hj,by rw[Nd.everyB_no h];rfl⟩,e⟩
def RetT(s:List Nd)(i:Nat)(w:World)(e:Ending)(w':World):Prop:=
 ∃(all:Bool) (vt:Value) (ts:List (Int×Int)),e= .returned (.agg #[.bool all,vt])∧w'.ownsRow w.heap.size 147 2 vt ts.length (tcells ts)∧Below w.heap.size w w'∧ts.length≤41∧
  (all=true↔∃j,Leaf s i j∧(nd s j).every)∧(∀t,t∈ts↔∃j,Leaf s i j∧¬(nd s j).every∧(nd s j).outer=t)
def Tryz.zeroTag:Value:= .agg #[.int .i64 0,.int .i64 0]
theorem Tryz.infoTag:(Tryz.prog.info? 147).map (fun i=>(i.zero,i.size,i.bytes))=some (some Tryz.zeroTag,2,16):=by kernel_rfl
structure BgW(s:List Nd)(w wr:World)(dn:List Nat)(all:Bool)(vt:Value):Prop where
 res:wr.heap[w.heap.size]? =some (.cells #[.bool false,.slice none 0 0] 174 (0,0))
 blk:wr.heap[w.heap.size+1]? =some (.cells #[.bool all,vt] 174 (0,0))
 own:wr.ownsRow w.heap.size 147 2 vt (tgs s dn).length (tcells (tgs s dn))
 alls:all=true↔∃j∈dn,(nd s j).every
 bel:Below w.heap.size w wr
theorem BgW.below{s:List Nd}{w wr w':World}{dn:List Nat}{all:Bool}{vt:Value}(h:BgW s w wr dn all vt)(hb:Below wr.heap.size wr w'):BgW s w w' dn all vt:=
 ⟨block_below h.res hb,block_below h.blk hb,own_below h.own hb,h.alls,h.bel.trans (hb.mono h.bel.size)⟩
theorem BgW.setAll{s:List Nd}{w wr:World}{dn:List Nat}{all:Bool}{vt:Value}{x:Nat}(h:BgW s w wr dn all vt)(hx:(nd s x).every):BgW s w (wr.setCell ⟨w.heap.size+1,0,none⟩ (.bool true)) (dn++[x]) true vt where
 res:=by rw[heap_setCell_other _ _ _ _ (by simp)];exact h.res
 blk:=heap_setCell_same wr _ 0 _ _ _ h.blk
 own:=by rw[tgs_yes hx];exact ownsRow_setCell_other h.own (row_ne1 h.blk h.own (by decide)) _
 alls:=⟨fun _=>⟨x,by simp,hx⟩,fun _=>rfl⟩
 bel:=h.bel.setCell (by simp) _
theorem BgW.put{s:List Nd}{w wr w':World}{dn:List Nat}{all:Bool}{vt:Value}{x g cap:Nat}{o:Obj}(h:BgW s w wr dn all vt)(hx:¬(nd s x).every)
 (h1:w'.ownsRow w.heap.size 147 2 (.slice (some ⟨g,0,none⟩) ((tgs s dn).length+1) cap) ((tgs s dn).length+1) (tcells (tgs s dn)++[.int .i64 (nd s x).outer.1,.int .i64 (nd s x).outer.2]))
 (h2:(wr.alloc o).grownBy w' vt.ownBlock):BgW s w (w'.setCell ⟨w.heap.size+1,1,none⟩ (.slice (some ⟨g,0,none⟩) ((tgs s dn).length+1) cap)) (dn++[x]) all (.slice (some ⟨g,0,none⟩) ((tgs s dn).length+1) cap):=by
 have hb:Below w.heap.size w (wr.alloc o):=h.bel.alloc h.bel.size o
 have k1:w'.heap[w.heap.size]? =some _:=keep_other h.res (row_ne1 h.res h.own (by decide)) h2
 have k2:w'.heap[w.heap.size+1]? =some _:=keep_other h.blk (row_ne1 h.blk h.own (by decide)) h2
 exact {
  res:=by rw[heap_setCell_other _ _ _ _ (by simp)];exact k1
  blk:=heap_setCell_same w' _ 1 _ _ _ k2
  own:=by
   rw[tgs_no hx,tcells_append,List.length_append]
   exact ownsRow_setCell_other h1 (row_ne1 k2 h1 (by decide)) _
  alls:=by
   rw[h.alls]
   constructor
   ·rintro⟨j,hj,q⟩;exact⟨j,by simp[hj],q⟩
   ·rintro⟨j,hj,q⟩
    rcases List.mem_append.1 hj with hj|hj
    ·exact⟨j,hj,q⟩
    ·simp at hj;subst hj;exact absurd q hx
  bel:=(hb.grown h2 hb.size (fun k hk=>(h.own.lt k hk).1)).setCell (by simp) _}
theorem BgW.cell1{s:List Nd}{w wr:World}{dn:List Nat}{all:Bool}{vt:Value}(h:BgW s w wr dn all vt):wr.cell? ⟨w.heap.size+1,1,none⟩=some vt:=by simp[World.cell?,h.blk]
theorem BgW.froz1{s:List Nd}{w wr:World}{dn:List Nat}{all:Bool}{vt:Value}(h:BgW s w wr dn all vt):wr.frozen? ⟨w.heap.size+1,1,none⟩=false:=by simp[World.frozen?,h.blk]
theorem BgW.cell_kept{s:List Nd}{w wr w':World}{dn:List Nat}{all:Bool}{vt:Value}{o:Obj}(h:BgW s w wr dn all vt)(h2:(wr.alloc o).grownBy w' vt.ownBlock):w'.cell? ⟨w.heap.size+1,1,none⟩=some vt∧w'.frozen? ⟨w.heap.size+1,1,none⟩=false:=by
 have k2:=keep_other h.blk (row_ne1 h.blk h.own (by decide)) h2
 exact⟨by simp[World.cell?,k2],by simp[World.frozen?,k2]⟩
theorem row_ne2{w:World}{b1 b2 s1 s2 n1 n2:Nat}{e1 e2:TypeId}{v1 v2:Value}{x1 x2:List Value}(h1:w.ownsRow b1 e1 s1 v1 n1 x1)(h2:w.ownsRow b2 e2 s2 v2 n2 x2)(hT:e2≠e1):v2.ownBlock=none∨v2.ownBlock≠v1.ownBlock:=by
 rcases h2.2 with⟨q,_⟩|⟨g,cap,cur,q,_,hg,_⟩
 ·left;rw[q];rfl
 ·right
  intro e
  have:v1.ownBlock=some g:=by rw[←e,q];rfl
  exact row_ne1 hg h1 hT this
theorem beginningsOf_any(s:List Nd)(a:Option Addr)(c i:Nat)(w:World)(hs:Sch w a s)(hw:Within s)(htg:Tags s)(hkd:Kinds s)(hnm:Nums w)(hi:i<s.length)(hn:s.length≤40):
 Calls Tryz.prog 97 #[.slice a s.length c,.int .i64 i] w fun e w'=>RetT s i w e w':=by
 have HS:Hid (Sch w a s):=hs
 have HN:Hid (Nums w):=hnm
 have HTG:Hid (Tags s):=htg
 have HKD:Hid (Kinds s):=hkd
 have HW:Hid (Within s):=hw
 have HR:Hid (∀wr,Below w.heap.size w wr→Calls Tryz.prog 96 #[.slice a s.length c,.int .i64 i] wr fun e w'=>RetE s i wr e w'):=fun wr hb=>reach_any s a c i wr (hs.below hb) hw htg hi hn
 clear hs hw htg hkd hnm
 obtain⟨i0,hi0,hz0,hz1,hz2⟩:=info_parts Tryz.infoTag
 go_enter Tryz.func97,Tryz.ntmps97
 go_wp2_with fail
 refine(HR.out _ (((Below.refl _ _).alloc (Nat.le_refl _) _).alloc (by simp) _)).mono ?_
 rintro e w1 ⟨v,l,bk,rfl,hown,hb1,hl,hlf,_⟩
 obtain⟨va,vc,rfl,hva⟩:=own_form hown
 have HA:Hid (0<l.length→∃g,va=some ⟨g,0,none⟩):=hva
 have HF:Hid (∀j,j∈l↔Leaf s i j):=hlf
 have HB0:Hid (BgW s w w1 [] false (.slice none 0 0)):=⟨block_below (block_below (heap_alloc_new w _) ((Below.refl _ _).alloc (Nat.le_refl _) _)) hb1,block_below (by simpa using heap_alloc_new (w.alloc _) _) hb1,World.ownsRow_nil _ _ _ _,by simp,below_alloc (below_alloc hb1)⟩
 have HO:Hid (w1.ownsRow w.heap.size 3 1 (.slice va l.length vc) l.length (ivs l)):=by
  obtain⟨q1,q2⟩:=hown
  refine⟨q1,?_⟩
  rcases q2 with q2|⟨g,cap,cur,q3,q4,q5⟩
  ·exact .inl q2
  ·exact .inr ⟨g,cap,cur,q3,by simp at q4;omega,q5⟩
 clear hown hb1 hlf hva HR
 go_wp2
 go_loopw [19] (fun vj wr=>∃j all vt,vj= .int .i64 (j:Nat)∧j≤l.length∧BgW s w wr (l.take j) all vt∧wr.ownsRow w.heap.size 3 1 (.slice va l.length vc) l.length (ivs l)) (fun vj _=>l.length-(intOf vj).toNat)
 case atStart=>exact⟨0,false,_,rfl,Nat.zero_le _,by simpa using HB0.out,HO.out⟩
 case round=>
  obtain⟨j,all,vt,rfl,hj,hB,hO⟩:=hrel
  have HB:Hid (BgW s w wr (l.take j) all vt):=hB
  have HOw:Hid (wr.ownsRow w.heap.size 3 1 (.slice va l.length vc) l.length (ivs l)):=hO
  have hsz:w.heap.size+1<wr.heap.size:=by
   have:=hB.blk
   rcases Nat.lt_or_ge (w.heap.size+1) wr.heap.size with h'|h'
   ·exact h'
   ·rw[Array.getElem?_eq_none h']at this;cases this
  have t0:wr.cell? ⟨w.heap.size+1,0,none⟩=some (.bool all):=by simp[World.cell?,hB.blk]
  have t1:wr.cell? ⟨w.heap.size+1,1,none⟩=some vt:=by simp[World.cell?,hB.blk]
  have f0:wr.frozen? ⟨w.heap.size+1,0,none⟩=false:=by simp[World.frozen?,hB.blk]
  have f1:wr.frozen? ⟨w.heap.size+1,1,none⟩=false:=by simp[World.frozen?,hB.blk]
  by_cases hlt:j<l.length
  ·obtain⟨g,rfl⟩:=HA.out (by omega)
   have cj:=own_cell hO hlt
   have HX:Hid (l.getD j 0∈l):=by show _∈l;rw[List.getD_eq_getElem?_getD,List.getElem?_eq_getElem hlt];exact List.getElem_mem hlt
   have HTK:Hid (l.take (j+1)=l.take j++[l.getD j 0]):=by show l.take (j+1)=_;rw[List.take_add_one,List.getElem?_eq_getElem hlt];simp[hlt]
   generalize l.getD j 0=x at cj HX HTK
   have hLX:Leaf s i x:=(HF.out x).1 HX.out
   have hxs:x<s.length:=hLX.1.lt HW.out hi
   have hkx:=HKD.out x hxs
   have htx:=HTG.out x hxs
   have hx12:¬(nd s x).every→(nd s x).tag<0→(nd s x).kind≤12:=fun h1 h2=>by
    have a1:(nd s x).kind≠14:=fun e=>h1 ⟨e,h2⟩
    have a2:(nd s x).kind≠13:=fun e=>hLX.2 ⟨e,h2⟩
    omega
   have HX12:Hid (¬(nd s x).every→(nd s x).tag<0→(nd s x).kind≤12):=hx12
   obtain⟨b,o,ka,kc,rfl,nc,kl,km,ks⟩:=HS.out x hxs
   obtain⟨n1,n2,n3,n4⟩:=nc.below hB.bel
   have hlt':(j:Int)<l.length:=by omega
   have hxs':(x:Int)<s.length:=by omega
   clear hB hO ks nc hLX hx12
   by_cases hev:(nd s x).every
   ·have e1:((nd s x).kind==14)=true:=by simp[hev.1]
    have e2:((nd s x).tag== -1)=true:=by have:=hev.2;rw[beq_iff_eq];omega
    have HEV:Hid (nd s x).every:=hev
    clear hev hkx htx
    go_wp2
    go_roundw
    case rel=>exact⟨j+1,true,vt,by go_num,by omega,by rw[HTK.out];exact(HB.out.setAll HEV.out).below ((Below.refl _ _).alloc (Nat.le_refl _) _),(ownsRow_setCell_other HOw.out (row_ne1 HB.out.blk HOw.out (by decide)) _).alloc _⟩
    case measure=>simp[intOf];omega
   ·have HEV:Hid (¬(nd s x).every):=hev
    have e12:((nd s x).kind==14)=false∨(((nd s x).kind==14)=true∧((nd s x).tag== -1)=false):=by
     by_cases q:(nd s x).kind=14
     ·right
      exact⟨by simp[q],by rw[beq_eq_false_iff_ne];intro q2;exact hev ⟨q,by omega⟩⟩
     ·left;simp[q]
    have HOT:Hid (∀w',Nums w'→Calls Tryz.prog 140 #[.agg #[.int .i64 (nd s x).kind,.int .i64 (nd s x).tag,.int .i64 (nd s x).mode,.slice ka (nd s x).kids.length kc]] w' fun e w''=>e= .returned (.agg #[.int .i64 (nd s x).outer.1,.int .i64 (nd s x).outer.2])∧Below w'.heap.size w' w''):=fun w' q=>outerTag_any (nd s x) ka kc w' q htx (by omega) (fun q'=>HX12.out HEV.out q')
    have RUN:Hid (∀args w,(callFunc 140 args).run Tryz.prog w= .ok (.enter 140 args) w):=fun args w=>run_enter Tryz.func140 (by kernel_rfl) (by rfl) args w
    have HNW:Hid (∀o,Nums (wr.alloc o).drew):=fun o=>HN.out.below ((HB.out.bel.alloc HB.out.bel.size o).drew)
    have BH:Hid (∀o w5,Below (wr.alloc o).drew.heap.size (wr.alloc o).drew w5→BgW s w w5 (l.take j) all vt):=fun o w5 q=>(HB.out.below ((Below.refl wr.heap.size wr).alloc (Nat.le_refl _) o).drew).below q
    have OH:Hid (∀o w5,Below (wr.alloc o).drew.heap.size (wr.alloc o).drew w5→w5.ownsRow w.heap.size 3 1 (.slice (some ⟨g,0,none⟩) l.length vc) l.length (ivs l)):=fun o w5 q=>own_below (own_below HOw.out ((Below.refl wr.heap.size wr).alloc (Nat.le_refl _) o).drew) q
    have htl:(tgs s (l.take j)).length≤41:=by have:=tgs_le s (l.take j);have:=List.length_take_le j l;omega
    clear hev hkx htx
    rcases e12 with e1|⟨e1,e2⟩
    ·go_wp2_with fail
     go_region_law (first|(refine step_calls rfl 140 _ _ rfl #[.agg #[.int .i64 (nd s x).kind,.int .i64 (nd s x).tag,.int .i64 (nd s x).mode,.slice ka (nd s x).kids.length kc]] (by simp[Act.eval,Act.put]) (.agg #[.int .i64 (nd s x).outer.1,.int .i64 (nd s x).outer.2]) (fun w''=>Below ((wr.alloc (.cells #[.int .i64 (nd s x).kind,.int .i64 (nd s x).tag,.int .i64 (nd s x).mode,.slice ka (nd s x).kids.length kc] 58)).drew).heap.size ((wr.alloc (.cells #[.int .i64 (nd s x).kind,.int .i64 (nd s x).tag,.int .i64 (nd s x).mode,.slice ka (nd s x).kids.length kc] 58)).drew) w'') (RUN.out _ _) (HOT.out _ (HNW.out _)) ?_;intro w5 hb5;have HB5:=BH.out _ _ hb5;have HO5:=OH.out _ _ hb5;have t15:=HB5.cell1;have f15:=HB5.froz1;have hs5:=HB5.bel.size;have hl5:w.heap.size+1<w5.heap.size:=lt_of_cell t15;clear hb5)|(refine step_append_lies _ rfl (.tmp 37) (.tmp 40) 172 rfl w.heap.size 147 i0 Tryz.zeroTag 2 16 Tryz.underlying172 hi0 hz0 hz1 hz2 rfl (by decide) vt (tgs s (l.take j)).length (tcells (tgs s (l.take j))) (by simp[Act.eval,Act.put]) (HB5.own.alloc _) ⟨w5.heap.size,0,none⟩ 1 1 [.int .i64 (nd s x).outer.1,.int .i64 (nd s x).outer.2] (by simp[Act.eval,Act.put]) rfl (World.news_of_block (heap_alloc_new w5 _)) (by intro u hu;simp at hu;rcases hu with rfl|rfl<;>rfl) (by decide) (by unfold maxLen;omega) (by omega) (by simp;omega) (w5.heap.size+1) (by simp) ?_;intro g6 cap6 w6 h61 h62 h63 h64;have HB6:=HB5.put HEV.out h61 h62;have HO6:=(HO5.alloc _).kept h62 (row_ne2 HB5.own HO5 (by decide));have t16:=HB5.cell_kept h62;have BK6:=keep_other HB5.blk (row_ne1 HB5.blk HB5.own (by decide)) h62;clear h61 h62 h63 h64))
     all_goals
      have HB7:Hid (BgW s w (w6.setCell ⟨w.heap.size+1,1,none⟩ (.slice (some ⟨g6,0,none⟩) ((tgs s (l.take j)).length+1) cap6)) (l.take j++[x]) all (.slice (some ⟨g6,0,none⟩) ((tgs s (l.take j)).length+1) cap6)):=HB6
      have HO7:Hid ((w6.setCell ⟨w.heap.size+1,1,none⟩ (.slice (some ⟨g6,0,none⟩) ((tgs s (l.take j)).length+1) cap6)).ownsRow w.heap.size 3 1 (.slice (some ⟨g,0,none⟩) l.length vc) l.length (ivs l)):=ownsRow_setCell_other HO6 (row_ne1 BK6 HO6 (by decide)) _
      clear HB6 HO6 HB5 HO5 t15 f15 t16 hs5 hl5 BK6
      go_wp2
      go_roundw
      case rel=>exact⟨j+1,all,_,by go_num,by omega,by rw[HTK.out];exact HB7.out,HO7.out⟩
      case measure=>simp[intOf];omega
    ·go_wp2_with fail
     go_region_law (first|(refine step_calls rfl 140 _ _ rfl #[.agg #[.int .i64 (nd s x).kind,.int .i64 (nd s x).tag,.int .i64 (nd s x).mode,.slice ka (nd s x).kids.length kc]] (by simp[Act.eval,Act.put]) (.agg #[.int .i64 (nd s x).outer.1,.int .i64 (nd s x).outer.2]) (fun w''=>Below ((wr.alloc (.cells #[.int .i64 (nd s x).kind,.int .i64 (nd s x).tag,.int .i64 (nd s x).mode,.slice ka (nd s x).kids.length kc] 58)).drew).heap.size ((wr.alloc (.cells #[.int .i64 (nd s x).kind,.int .i64 (nd s x).tag,.int .i64 (nd s x).mode,.slice ka (nd s x).kids.length kc] 58)).drew) w'') (RUN.out _ _) (HOT.out _ (HNW.out _)) ?_;intro w5 hb5;have HB5:=BH.out _ _ hb5;have HO5:=OH.out _ _ hb5;have t15:=HB5.cell1;have f15:=HB5.froz1;have hs5:=HB5.bel.size;have hl5:w.heap.size+1<w5.heap.size:=lt_of_cell t15;clear hb5)|(refine step_append_lies _ rfl (.tmp 37) (.tmp 40) 172 rfl w.heap.size 147 i0 Tryz.zeroTag 2 16 Tryz.underlying172 hi0 hz0 hz1 hz2 rfl (by decide) vt (tgs s (l.take j)).length (tcells (tgs s (l.take j))) (by simp[Act.eval,Act.put]) (HB5.own.alloc _) ⟨w5.heap.size,0,none⟩ 1 1 [.int .i64 (nd s x).outer.1,.int .i64 (nd s x).outer.2] (by simp[Act.eval,Act.put]) rfl (World.news_of_block (heap_alloc_new w5 _)) (by intro u hu;simp at hu;rcases hu with rfl|rfl<;>rfl) (by decide) (by unfold maxLen;omega) (by omega) (by simp;omega) (w5.heap.size+1) (by simp) ?_;intro g6 cap6 w6 h61 h62 h63 h64;have HB6:=HB5.put HEV.out h61 h62;have HO6:=(HO5.alloc _).kept h62 (row_ne2 HB5.own HO5 (by decide));have t16:=HB5.cell_kept h62;have BK6:=keep_other HB5.blk (row_ne1 HB5.blk HB5.own (by decide)) h62;clear h61 h62 h63 h64))
     all_goals
      have HB7:Hid (BgW s w (w6.setCell ⟨w.heap.size+1,1,none⟩ (.slice (some ⟨g6,0,none⟩) ((tgs s (l.take j)).length+1) cap6)) (l.take j++[x]) all (.slice (some ⟨g6,0,none⟩) ((tgs s (l.take j)).length+1) cap6)):=HB6
      have HO7:Hid ((w6.setCell ⟨w.heap.size+1,1,none⟩ (.slice (some ⟨g6,0,none⟩) ((tgs s (l.take j)).length+1) cap6)).ownsRow w.heap.size 3 1 (.slice (some ⟨g,0,none⟩) l.length vc) l.length (ivs l)):=ownsRow_setCell_other HO6 (row_ne1 BK6 HO6 (by decide)) _
      clear HB6 HO6 HB5 HO5 t15 f15 t16 hs5 hl5 BK6
      go_wp2
      go_roundw
      case rel=>exact⟨j+1,all,_,by go_num,by omega,by rw[HTK.out];exact HB7.out,HO7.out⟩
      case measure=>simp[intOf];omega
  ·have hlt':(l.length:Int)≤j:=by omega
   obtain rfl:j=l.length:=by omega
   have q0:wr.cell? ⟨w.heap.size,0,none⟩=some (.bool false):=by simp[World.cell?,hB.res]
   have q1:wr.cell? ⟨w.heap.size,1,none⟩=some (.slice none 0 0):=by simp[World.cell?,hB.res]
   have p0:wr.frozen? ⟨w.heap.size,0,none⟩=false:=by simp[World.frozen?,hB.res]
   have p1:wr.frozen? ⟨w.heap.size,1,none⟩=false:=by simp[World.frozen?,hB.res]
   have hsz':w.heap.size<wr.heap.size:=by omega
   rw[List.take_length]at HB
   obtain⟨ta,tc,rfl,_⟩:=own_form hB.own
   have hle:(tgs s l).length≤41:=by have:=tgs_le s l;omega
   clear hB hO
   go_wp2
   refine bodyPost_ret (v:= .agg #[.bool all,.slice ta (tgs s (l.take l.length)).length tc]) (by simp[results,Tryz.results97,go_sem,q0,q1,hsz']) rfl ⟨all,_,tgs s l,rfl,?_,?_,hle,?_,?_⟩
   ·rw[List.take_length]at*
    have ne:=row_ne1 HB.out.res HB.out.own (by decide)
    exact ownsRow_setCell_other (ownsRow_setCell_other HB.out.own ne _) ne _
   ·exact(HB.out.bel.setCell (p:=⟨w.heap.size,0,none⟩) (Nat.le_refl _) _).setCell (p:=⟨w.heap.size,1,none⟩) (Nat.le_refl _) _
   ·rw[HB.out.alls]
    exact⟨fun⟨j,h1,h2⟩=>⟨j,(HF.out j).1 h1,h2⟩,fun⟨j,h1,h2⟩=>⟨j,(HF.out j).2 h1,h2⟩⟩
   ·intro t
    rw[mem_tgs]
    exact⟨fun⟨j,h1,h2⟩=>⟨j,(HF.out j).1 h1,h2⟩,fun⟨j,h1,h2⟩=>⟨j,(HF.out j).2 h1,h2⟩⟩
def TagsIn(w:World)(a:Option Addr)(ts:List (Int×Int)):Prop:=∀j,j<ts.length→∃b o,a=some ⟨b,o,none⟩∧w.cell? ⟨b,o+j*2,none⟩=some (.int .i64 (ts.getD j (0,0)).1)∧w.cell? ⟨b,o+j*2+1,none⟩=some (.int .i64 (ts.getD j (0,0)).2)
theorem TagsIn.below{w w':World}{a:Option Addr}{ts:List (Int×Int)}(h:TagsIn w a ts)(hb:Below w.heap.size w w'):TagsIn w' a ts:=fun j hj=>by
 obtain⟨b,o,e,h1,h2⟩:=h j hj
 exact⟨b,o,e,(hb.cell (lt_of_cell h1)).trans h1,(hb.cell (lt_of_cell h2)).trans h2⟩
theorem index_any(ts:List (Int×Int))(a:Option Addr)(c:Nat)(t:Int×Int)(w:World)(h:TagsIn w a ts)(hl:ts.length≤41):
 Calls Tryz.prog 199 #[.slice a ts.length c,.agg #[.int .i64 t.1,.int .i64 t.2]] w fun e w'=>∃r,e= .returned (.int .i64 r)∧(0≤r↔t∈ts)∧Below w.heap.size w w':=by
 obtain⟨t1,t2⟩:=t
 have HI:Hid (TagsIn w a ts):=h
 clear h
 go_enter Tryz.func199,Tryz.ntmps199
 go_wp2
 go_loopw [8] (fun vj wr=>∃j:Nat,vj= .int .i64 j∧j≤ts.length∧(∀p,p<j→ts.getD p (0,0)≠(t1,t2))∧∃q,wr=(w.alloc (.cells #[.int .i64 t1,.int .i64 t2] 147)).drewN q) (fun vj _=>ts.length-(intOf vj).toNat)
 case atStart=>exact⟨0,rfl,Nat.zero_le _,fun _ h=>absurd h (Nat.not_lt_zero _),0,rfl⟩
 case round=>
  obtain⟨j,rfl,hj,hno,q,rfl⟩:=hrel
  have HN:Hid (∀p,p<j→ts.getD p (0,0)≠(t1,t2)):=hno
  have HB:Hid (∀q,Below w.heap.size w ((w.alloc (.cells #[.int .i64 t1,.int .i64 t2] 147)).drewN q)):=fun q=>Go.below_drewN ((Below.refl _ _).alloc (Nat.le_refl _) _) q
  clear hno
  by_cases hlt:j<ts.length
  ·obtain⟨b,o,rfl,c1,c2⟩:=HI.out j hlt
   have hbl:b<w.heap.size:=lt_of_cell c1
   have hlt':(j:Int)<ts.length:=by omega
   have HM:Hid (ts.getD j (0,0)∈ts):=by show _∈ts;rw[List.getD_eq_getElem?_getD,List.getElem?_eq_getElem hlt];exact List.getElem_mem hlt
   obtain⟨u,hu⟩:∃u,ts.getD j (0,0)=u:=⟨_,rfl⟩
   have HU:Hid (ts.getD j (0,0)=u):=hu
   rw[hu]at c1 c2
   clear hu
   obtain⟨u1,u2⟩:=u
   simp only at c1 c2
   by_cases e:t1=u1∧t2=u2
   ·obtain⟨rfl,rfl⟩:=e
    go_wp2
    go_quiet (fail)
    go_wp2
    go_ret
    exact⟨j,rfl,⟨fun _=>by rw[←HU.out];exact HM.out,fun _=>by omega⟩,Go.below_drewN (HB.out _) _⟩
   ·have HE:Hid ((u1,u2)≠(t1,t2)):=fun q=>e (by injection q with q1 q2;exact⟨q1.symm,q2.symm⟩)
    by_cases e1:t1=u1
    ·subst e1
     have e2:(t2==u2)=false:=by rw[beq_eq_false_iff_ne];exact fun q=>e ⟨rfl,q⟩
     clear e
     go_wp2
     go_quiet (fail)
     go_wp2
     go_roundw
     case rel=>exact⟨j+1,by go_num,by omega,fun p hp=>by
      by_cases ep:p=j
      ·subst ep;rw[HU.out];exact HE.out
      ·exact HN.out p (by omega),_,rfl⟩
     case measure=>simp[intOf];omega
    ·have e2:(t1==u1)=false:=by rw[beq_eq_false_iff_ne];exact e1
     clear e e1
     go_wp2
     go_quiet (fail)
     go_wp2
     go_roundw
     case rel=>exact⟨j+1,by go_num,by omega,fun p hp=>by
      by_cases ep:p=j
      ·subst ep;rw[HU.out];exact HE.out
      ·exact HN.out p (by omega),_,rfl⟩
     case measure=>simp[intOf];omega
  ·have hlt':(ts.length:Int)≤j:=by omega
   go_wp2
   go_ret
   exact⟨-1,rfl,⟨fun h=>absurd h (by decide),fun h=>by
    obtain⟨p,hp,e⟩:=List.getElem_of_mem h
    exact absurd (by rw[List.getD_eq_getElem?_getD,List.getElem?_eq_getElem hp];simpa using e) (HN.out p (by omega))⟩,HB.out _⟩
theorem contains_any(ts:List (Int×Int))(a:Option Addr)(c:Nat)(t:Int×Int)(w:World)(h:TagsIn w a ts)(hl:ts.length≤41):
 Calls Tryz.prog 180 #[.slice a ts.length c,.agg #[.int .i64 t.1,.int .i64 t.2]] w fun e w'=>RetO (t∈ts) w e w':=by
 have HC:Hid (∀w,TagsIn w a ts→Calls Tryz.prog 199 #[.slice a ts.length c,.agg #[.int .i64 t.1,.int .i64 t.2]] w fun e w'=>∃r,e= .returned (.int .i64 r)∧(0≤r↔t∈ts)∧Below w.heap.size w w'):=fun w q=>index_any ts a c t w q hl
 have HI:Hid (∀o,TagsIn (w.alloc o) a ts):=fun o=>h.below ((Below.refl _ _).alloc (Nat.le_refl _) _)
 clear h
 go_enter Tryz.func180,Tryz.ntmps180
 go_wp2_with fail
 refine(HC.out _ (HI.out _)).mono ?_
 rintro e w1 ⟨r,rfl,hr,hb⟩
 have HR:Hid (0≤r↔t∈ts):=hr
 have HB:Hid (Below w.heap.size w w1):=below_alloc hb
 clear hr hb
 go_wp2
 go_ret
 exact reto_iff (by rw[decide_eq_true_iff];exact HR.out) HB.out
def MeetsT(al1 al2:Bool)(t1 t2:List (Int×Int)):Prop:=al1=true∨al2=true∨∃t,t∈t1∧t∈t2
theorem meets_any(al1 al2:Bool)(a1 a2:Option Addr)(c1 c2:Nat)(t1 t2:List (Int×Int))(w:World)(h1:TagsIn w a1 t1)(h2:TagsIn w a2 t2)(hl1:t1.length≤41)(hl2:t2.length≤41):
 Calls Tryz.prog 141 #[.agg #[.bool al1,.slice a1 t1.length c1],.agg #[.bool al2,.slice a2 t2.length c2]] w fun e w'=>RetO (MeetsT al1 al2 t1 t2) w e w':=by
 have HC:Hid (∀w t,TagsIn w a2 t2→Calls Tryz.prog 180 #[.slice a2 t2.length c2,.agg #[.int .i64 t.1,.int .i64 t.2]] w fun e w'=>RetO (t∈t2) w e w'):=fun w t q=>contains_any t2 a2 c2 t w q hl2
 have H1:Hid (TagsIn w a1 t1):=h1
 have H2:Hid (TagsIn w a2 t2):=h2
 clear h1 h2
 have hb0:Below w.heap.size w ((w.alloc (.cells #[.bool al1,.slice a1 t1.length c1] 174)).alloc (.cells #[.bool al2,.slice a2 t2.length c2] 174)):=((Below.refl _ _).alloc (Nat.le_refl _) _).alloc (by simp) _
 cases al1
 ·cases al2
  ·have HB0:Hid (Below w.heap.size w ((w.alloc (.cells #[.bool false,.slice a1 t1.length c1] 174)).alloc (.cells #[.bool false,.slice a2 t2.length c2] 174))):=hb0
   clear hb0
   go_enter Tryz.func141,Tryz.ntmps141
   go_wp2
   obtain⟨B,hB⟩:∃B,B=w.heap.size+1:=⟨_,rfl⟩
   have HW0:Hid (∀wr,Below ((w.alloc (.cells #[.bool false,.slice a1 t1.length c1] 174)).alloc (.cells #[.bool false,.slice a2 t2.length c2] 174)).heap.size ((w.alloc (.cells #[.bool false,.slice a1 t1.length c1] 174)).alloc (.cells #[.bool false,.slice a2 t2.length c2] 174)) wr→
    wr.cell? ⟨B,1,none⟩=some (.slice a2 t2.length c2)∧Below w.heap.size w wr):=fun wr h=>by
    have q:=block_below (show _=some (Obj.cells _ _ _)from heap_alloc_new (w.alloc (.cells #[.bool false,.slice a1 t1.length c1] 174)) (.cells #[.bool false,.slice a2 t2.length c2] 174)) h
    subst hB
    exact⟨by simp at q;simp[World.cell?,q],below_alloc (below_alloc h)⟩
   generalize((w.alloc (.cells #[.bool false,.slice a1 t1.length c1] 174)).alloc (.cells #[.bool false,.slice a2 t2.length c2] 174))=W0 at*
   rw[←hB]
   clear hB
   go_loopw [16] (fun vj wr=>∃j:Nat,vj= .int .i64 j∧j≤t1.length∧(∀p,p<j→t1.getD p (0,0)∉t2)∧Below W0.heap.size W0 wr) (fun vj _=>t1.length-(intOf vj).toNat)
   case atStart=>exact⟨0,rfl,Nat.zero_le _,fun _ h=>absurd h (Nat.not_lt_zero _),Below.refl _ _⟩
   case round=>
    obtain⟨j,rfl,hj,hno,hbr⟩:=hrel
    have HN:Hid (∀p,p<j→t1.getD p (0,0)∉t2):=hno
    have HB:Hid (Below W0.heap.size W0 wr):=hbr
    obtain⟨d1,hbw⟩:=HW0.out wr hbr
    have HBW:Hid (Below w.heap.size w wr):=hbw
    clear hno hbr hbw
    by_cases hlt:j<t1.length
    ·obtain⟨b,o,rfl,c1',c2'⟩:=(H1.out.below HBW.out) j hlt
     have hlt':(j:Int)<t1.length:=by omega
     have HM:Hid (t1.getD j (0,0)∈t1):=by show _∈t1;rw[List.getD_eq_getElem?_getD,List.getElem?_eq_getElem hlt];exact List.getElem_mem hlt
     obtain⟨u,hu⟩:∃u,t1.getD j (0,0)=u:=⟨_,rfl⟩
     have HU:Hid (t1.getD j (0,0)=u):=hu
     rw[hu]at c1' c2'
     clear hu
     have hbB:=lt_of_cell d1
     go_wp2_with fail
     refine(HC.out _ u ((H2.out.below HBW.out).below ((Below.refl _ _).alloc (Nat.le_refl _) _))).mono ?_
     rintro e w3 ⟨r,rfl,hr,hb3⟩
     have HR:Hid (r=true↔u∈t2):=hr
     have HB3:Hid (Below W0.heap.size W0 w3):=HB.out.trans ((below_alloc hb3).mono HB.out.size)
     have HBW3:Hid (Below w.heap.size w w3):=HBW.out.trans ((below_alloc hb3).mono HBW.out.size)
     clear hr hb3
     cases r
     ·go_wp2
      go_roundw
      case rel=>exact⟨j+1,by go_num,by omega,fun p hp=>by
       by_cases ep:p=j
       ·subst ep;rw[HU.out];exact fun q=>Bool.noConfusion (HR.out.2 q)
       ·exact HN.out p (by omega),HB3.out⟩
      case measure=>simp[intOf];omega
     ·go_wp2
      go_ret
      exact reto_yes (.inr (.inr ⟨u,by rw[←HU.out];exact HM.out,HR.out.1 trivial⟩)) HBW3.out
    ·have hlt':(t1.length:Int)≤j:=by omega
     go_wp2
     go_ret
     exact reto_no (fun h=>by
      rcases h with h|h|⟨t,h1,h2⟩
      ·cases h
      ·cases h
      ·obtain⟨p,hp,e⟩:=List.getElem_of_mem h1
       refine HN.out p (by omega) ?_
       rw[List.getD_eq_getElem?_getD,List.getElem?_eq_getElem hp]
       simpa [e]using h2) HBW.out
  ·have HB0:Hid (Below w.heap.size w ((w.alloc (.cells #[.bool false,.slice a1 t1.length c1] 174)).alloc (.cells #[.bool true,.slice a2 t2.length c2] 174))):=hb0
   clear hb0
   go_enter Tryz.func141,Tryz.ntmps141
   go_wp2
   go_ret
   exact reto_yes (.inr (.inl rfl)) HB0.out
 ·have HB0:Hid (Below w.heap.size w ((w.alloc (.cells #[.bool true,.slice a1 t1.length c1] 174)).alloc (.cells #[.bool al2,.slice a2 t2.length c2] 174))):=hb0
  clear hb0
  go_enter Tryz.func141,Tryz.ntmps141
  go_wp2
  go_ret
  exact reto_yes (.inl rfl) HB0.out
def BegIs(s:List Nd)(i:Nat)(all:Bool)(ts:List (Int×Int)):Prop:=ts.length≤41∧(all=true↔∃j,Leaf s i j∧(nd s j).every)∧(∀t,t∈ts↔∃j,Leaf s i j∧¬(nd s j).every∧(nd s j).outer=t)
structure AbW(s:List Nd)(w wr:World)(m:Nat):Prop where
 bel:Below w.heap.size w wr
 row:∃C:Array Value,wr.heap[w.heap.size]? =some (.cells C 174 (0,0))∧C.size=s.length*2∧
  ∀j,j<m→∃all vt ts,C[j*2]? =some (.bool all)∧C[j*2+1]? =some vt∧wr.ownsRow w.heap.size 147 2 vt ts.length (tcells ts)∧BegIs s j all ts
theorem AbW.below{s:List Nd}{w wr w':World}{m:Nat}(h:AbW s w wr m)(hb:Below wr.heap.size wr w'):AbW s w w' m where
 bel:=h.bel.trans (hb.mono h.bel.size)
 row:=by
  obtain⟨C,h1,h2,h3⟩:=h.row
  refine⟨C,block_below h1 hb,h2,fun j hj=>?_⟩
  obtain⟨all,vt,ts,q1,q2,q3,q4⟩:=h3 j hj
  exact⟨all,vt,ts,q1,q2,own_below q3 hb,q4⟩
theorem AbW.put{s:List Nd}{w wr:World}{m:Nat}{all:Bool}{vt:Value}{ts:List (Int×Int)}(h:AbW s w wr m)(hm:m<s.length)(ho:wr.ownsRow w.heap.size 147 2 vt ts.length (tcells ts))(hb:BegIs s m all ts):
 AbW s w ((wr.setCell ⟨w.heap.size,m*2,none⟩ (.bool all)).setCell ⟨w.heap.size,m*2+1,none⟩ vt) (m+1) where
 bel:=(h.bel.setCell (p:=⟨w.heap.size,m*2,none⟩) (Nat.le_refl _) _).setCell (p:=⟨w.heap.size,m*2+1,none⟩) (Nat.le_refl _) _
 row:=by
  obtain⟨C,h1,h2,h3⟩:=h.row
  refine⟨(C.setIfInBounds (m*2) (.bool all)).setIfInBounds (m*2+1) vt,heap_setCell_same _ _ _ _ _ _ (heap_setCell_same wr _ _ _ _ _ h1),by simp[h2],fun j hj=>?_⟩
  have own:∀{v:Value} {ts:List (Int×Int)},wr.ownsRow w.heap.size 147 2 v ts.length (tcells ts)→((wr.setCell ⟨w.heap.size,m*2,none⟩ (.bool all)).setCell ⟨w.heap.size,m*2+1,none⟩ vt).ownsRow w.heap.size 147 2 v ts.length (tcells ts):=fun q=>by
   have ne:=row_ne1 h1 q (by decide)
   exact ownsRow_setCell_other (ownsRow_setCell_other q ne _) ne _
  by_cases e:j=m
  ·subst e
   refine⟨all,vt,ts,?_,?_,own ho,hb⟩
   ·rw[Array.getElem?_setIfInBounds,if_neg (by omega),Array.getElem?_setIfInBounds,if_pos rfl,if_pos (by omega)]
   ·rw[Array.getElem?_setIfInBounds,if_pos rfl,if_pos (by simp;omega)]
  ·obtain⟨all',vt',ts',q1,q2,q3,q4⟩:=h3 j (by omega)
   refine⟨all',vt',ts',?_,?_,own q3,q4⟩
   ·rw[Array.getElem?_setIfInBounds,if_neg (by omega),Array.getElem?_setIfInBounds,if_neg (by omega)];exact q1
   ·rw[Array.getElem?_setIfInBounds,if_neg (by omega),Array.getElem?_setIfInBounds,if_neg (by omega)];exact q2
def Tryz.zeroTs:Value:= .agg #[.bool false,.slice none 0 0]
theorem Tryz.infoTs:(Tryz.prog.info? 174).map (fun i=>(i.zero,i.size,i.bytes))=some (some Tryz.zeroTs,2,32):=by kernel_rfl
theorem allBeginnings_any(s:List Nd)(a:Option Addr)(c:Nat)(w:World)(hs:Sch w a s)(hw:Within s)(htg:Tags s)(hkd:Kinds s)(hnm:Nums w)(hn:s.length≤40):
 Calls Tryz.prog 64 #[.slice a s.length c] w fun e w'=>e= .returned (.slice (some ⟨w.heap.size,0,none⟩) s.length s.length)∧AbW s w w' s.length:=by
 have HR:Hid (∀wr i,Below w.heap.size w wr→i<s.length→Calls Tryz.prog 97 #[.slice a s.length c,.int .i64 i] wr fun e w'=>RetT s i wr e w'):=fun wr i hb hi=>beginningsOf_any s a c i wr (hs.below hb) hw htg hkd (hnm.below hb) hi hn
 clear hs hw htg hkd hnm
 obtain⟨i0,hi0,hz0,hz1,hz2⟩:=info_parts Tryz.infoTs
 obtain⟨w1,hrun,hown,hgr⟩:=run_make_full (P:=Tryz.prog) w w.heap.size 120 174 i0 Tryz.zeroTs 2 Tryz.underlying120 hi0 hz0 hz1 .i64 .i64 s.length (by rw[hz2];omega) (by unfold maxLen;omega) (Nat.le_refl _)
 have HA0:Hid (AbW s w w1 0):=by
  refine⟨(Below.refl w.heap.size w).grown hgr (Nat.le_refl _) (fun k hk=>by cases hk),?_⟩
  rcases hown.2 with⟨q,_⟩|⟨g,cap,cur,q,_,q1,_,_,q2,_⟩
  ·cases q
  ·injection q with e1 _ e3
   injection e1 with e1
   injection e1 with e1 _ _
   subst e1 e3
   exact⟨cur,q1,q2,fun j hj=>absurd hj (Nat.not_lt_zero _)⟩
 clear hown hgr
 go_enter Tryz.func64,Tryz.ntmps64
 go_wp2
 go_loopw [10] (fun vj wr=>∃j:Nat,vj= .int .i64 j∧j≤s.length∧AbW s w wr j) (fun vj _=>s.length-(intOf vj).toNat)
 case atStart=>exact⟨0,rfl,Nat.zero_le _,HA0.out⟩
 case round=>
  obtain⟨j,rfl,hj,hA⟩:=hrel
  have HA:Hid (AbW s w wr j):=hA
  by_cases hlt:j<s.length
  ·have hlt':(j:Int)<s.length:=by omega
   clear hA
   go_wp2_with fail
   refine(HR.out _ j HA.out.bel hlt).mono ?_
   rintro e w2 ⟨all,vt,ts,rfl,hown,hb2,hl,h1,h2⟩
   have HA2:Hid (AbW s w w2 j):=HA.out.below hb2
   obtain⟨ta,tc,rfl,_⟩:=own_form hown
   have HO2:Hid (w2.ownsRow w.heap.size 147 2 (.slice ta ts.length tc) ts.length (tcells ts)):=by
    obtain⟨q1,q2⟩:=hown
    refine⟨q1,?_⟩
    rcases q2 with q2|⟨g,cap,cur,q3,q4,q5⟩
    ·exact .inl q2
    ·exact .inr ⟨g,cap,cur,q3,Nat.le_trans HA.out.bel.size q4,q5⟩
   have HBI:Hid (BegIs s j all ts):=⟨hl,h1,h2⟩
   have hC:∀k,k<s.length*2→(∃u,w2.cell? ⟨w.heap.size,k,none⟩=some u)∧w2.frozen? ⟨w.heap.size,k,none⟩=false:=fun k hk=>by
    obtain⟨C,q1,q2,_⟩:=HA2.out.row
    refine⟨⟨C[k]'(by omega),by simp only[World.cell?,q1];simp⟩,by simp[World.frozen?,q1]⟩
   obtain⟨⟨u0,c0⟩,f0⟩:=hC (j*2) (by omega)
   obtain⟨⟨u1,c1⟩,f1⟩:=hC (j*2+1) (by omega)
   clear hown hb2 h1 h2 hl hC
   go_wp2
   go_roundw
   case rel=>exact⟨j+1,by go_num,by omega,HA2.out.put hlt HO2.out HBI.out⟩
   case measure=>simp[intOf];omega
  ·have hlt':(s.length:Int)≤j:=by omega
   obtain rfl:j=s.length:=by omega
   clear hA
   go_wp2
   go_ret
   exact⟨rfl,HA.out⟩
theorem tcells_get(l:List (Int×Int))(i:Nat)(hi:i<l.length):(tcells l)[i*2]? =some (.int .i64 (l.getD i (0,0)).1)∧(tcells l)[i*2+1]? =some (.int .i64 (l.getD i (0,0)).2):=by
 induction l generalizing i with
 |nil=>simp at hi
 |cons a l ih=>
  have e:tcells (a::l)=[.int .i64 a.1,.int .i64 a.2]++tcells l:=by unfold tcells;simp
  rw[e]
  cases i with
  |zero=>simp
  |succ i=>
   have h:=ih i (by simp at hi;omega)
   constructor
   ·rw[List.getElem?_append_right (by simp;omega)]
    have:(i+1)*2 - [Value.int IntKind.i64 a.1,Value.int IntKind.i64 a.2].length=i*2:=by simp;omega
    rw[this,h.1];simp
   ·rw[List.getElem?_append_right (by simp;omega)]
    have:(i+1)*2+1 - [Value.int IntKind.i64 a.1,Value.int IntKind.i64 a.2].length=i*2+1:=by simp;omega
    rw[this,h.2];simp
def AbR(w:World)(gb:Nat)(s:List Nd):Prop:=∀j,j<s.length→∃all ta tc ts,w.cell? ⟨gb,j*2,none⟩=some (.bool all)∧w.cell? ⟨gb,j*2+1,none⟩=some (.slice ta (ts:List (Int×Int)).length tc)∧TagsIn w ta ts∧BegIs s j all ts
theorem AbR.below{w w':World}{gb:Nat}{s:List Nd}(h:AbR w gb s)(hb:Below w.heap.size w w'):AbR w' gb s:=fun j hj=>by
 obtain⟨all,ta,tc,ts,h1,h2,h3,h4⟩:=h j hj
 exact⟨all,ta,tc,ts,(hb.cell (lt_of_cell h1)).trans h1,(hb.cell (lt_of_cell h2)).trans h2,h3.below hb,h4⟩
theorem AbW.read{s:List Nd}{w wr:World}(h:AbW s w wr s.length):AbR wr w.heap.size s:=fun j hj=>by
 obtain⟨C,h1,h2,h3⟩:=h.row
 obtain⟨all,vt,ts,q1,q2,q3,q4⟩:=h3 j hj
 obtain⟨ta,tc,rfl,hta⟩:=own_form q3
 refine⟨all,ta,tc,ts,by simp only[World.cell?,h1];simpa using q1,by simp only[World.cell?,h1];simpa using q2,fun k hk=>?_,q4⟩
 obtain⟨g,rfl⟩:=hta (by omega)
 have a0:∀p,(⟨g,0,none⟩:Addr).add p=⟨g,p,none⟩:=fun p=>by unfold Addr.add;split<;>simp_all
 have c0:=q3.cells (g:=g) rfl _ _ (tcells_get ts k hk).1
 have c1:=q3.cells (g:=g) rfl _ _ (tcells_get ts k hk).2
 rw[a0]at c0 c1
 exact⟨g,0,rfl,by simpa using c0,by simpa using c1⟩
theorem meetsT_iff{s:List Nd}{i k:Nat}{a1 a2:Bool}{t1 t2:List (Int×Int)}(h1:BegIs s i a1 t1)(h2:BegIs s k a2 t2):MeetsT a1 a2 t1 t2↔Meets s i k:=by
 unfold MeetsT Meets
 rw[h1.2.1,h2.2.1]
 refine or_congr Iff.rfl (or_congr Iff.rfl ⟨?_,?_⟩)
 ·rintro⟨t,q1,q2⟩
  obtain⟨j,r1,r2,r3⟩:=(h1.2.2 t).1 q1
  obtain⟨l,r4,r5,r6⟩:=(h2.2.2 t).1 q2
  exact⟨j,l,r1,r2,r4,r5,r3.trans r6.symm⟩
 ·rintro⟨j,l,r1,r2,r4,r5,r6⟩
  exact⟨(nd s j).outer,(h1.2.2 _).2 ⟨j,r1,r2,rfl⟩,(h2.2.2 _).2 ⟨l,r4,r5,r6.symm⟩⟩
theorem told_congr{C D:Nat→Nat→Prop}{n:Nd}{m:Nat}(hw:∀j,j<n.kids.length→(kd n j).node.toNat<m)(h:∀i k,i<m→k<m→(C i k↔D i k)):Told C n↔Told D n:=by
 unfold Told ToldAt
 constructor
 ·intro q i hi
  rcases q i hi with q|q
  ·exact .inl q
  ·exact .inr fun k h1 h2 h3 h4=>q k h1 h2 h3 ((h _ _ (hw i hi) (hw k h2)).2 h4)
 ·intro q i hi
  rcases q i hi with q|q
  ·exact .inl q
  ·exact .inr fun k h1 h2 h3 h4=>q k h1 h2 h3 ((h _ _ (hw i hi) (hw k h2)).1 h4)
theorem kid_at{n:Nd}{m i:Nat}(hw:∀j,j<n.kids.length→∃t:Nat,(kd n j).node=t∧t<m)(hi:i<n.kids.length):∃(t:Nat) (o:Bool) (d:ByteArray),kd n i=⟨t,o,d⟩∧t<m:=by
 obtain⟨t,h1,h2⟩:=hw i hi
 refine⟨t,(kd n i).opt,(kd n i).dflt,?_,h2⟩
 rw[←h1]
theorem choiceIsPlain_any(s:List Nd)(n:Nd)(ka:Option Addr)(kc gb:Nat)(w:World)(hka:KidsIn w ka n.kids)(hkc:n.kids.length≤kc)(hk8:n.kids.length≤8)(hw:∀j,j<n.kids.length→∃t:Nat,(kd n j).node=t∧t<s.length)(hb:AbR w gb s)(hn:s.length≤40):
 Calls Tryz.prog 98 #[.slice ka n.kids.length kc,.slice (some ⟨gb,0,none⟩) s.length s.length] w fun e w'=>RetO (∀i k,i<k→k<n.kids.length→¬Meets s (kd n i).node.toNat (kd n k).node.toNat) w e w':=by
 have HKI:Hid (KidsIn w ka n.kids):=hka
 have HKR:Hid (∀j,j<n.kids.length→∃t:Nat,(kd n j).node=t∧t<s.length):=hw
 have HAB:Hid (AbR w gb s):=hb
 clear hka hw hb
 go_enter Tryz.func98,Tryz.ntmps98
 go_wp2
 go_loopw [11] (fun vi wr=>∃i:Nat,i≤n.kids.length∧vi= .int .i64 i∧(∀i',i'<i→∀k,i'<k→k<n.kids.length→¬Meets s (kd n i').node.toNat (kd n k).node.toNat)∧Below w.heap.size w wr) (fun vi _=>n.kids.length-(intOf vi).toNat)
 case atStart=>exact⟨0,Nat.zero_le _,rfl,fun _ h=>absurd h (Nat.not_lt_zero _),Below.refl _ _⟩
 case round=>
  obtain⟨i,hi,rfl,hall,hbr⟩:=hrel
  have HA:Hid (∀i',i'<i→∀k,i'<k→k<n.kids.length→¬Meets s (kd n i').node.toNat (kd n k).node.toNat):=hall
  have HB:Hid (Below w.heap.size w wr):=hbr
  clear hall hbr
  by_cases hlt:i<n.kids.length
  ·have hlt':(i:Int)<n.kids.length:=by omega
   obtain⟨kb,ko,rfl,kcl⟩:=HKI.out i hlt
   obtain⟨ty,yo,yd,hy,hty⟩:=kid_at HKR.out hlt
   have HY:Hid (kd n i=⟨ty,yo,yd⟩):=hy
   have hkcl:KidCells w kb (ko+i*3) ⟨ty,yo,yd⟩:=by rw[←hy];exact kcl
   obtain⟨k1,k2,k3⟩:=hkcl.below HB.out
   simp only at k1 k2 k3
   have HBA:Hid (Below w.heap.size w (wr.alloc (.cells #[.int .i64 ty,.bool yo,.string yd] 55))):=HB.out.alloc HB.out.size _
   clear hy kcl hkcl
   by_cases hkk:kc=i+1
   ·subst hkk
    have HZ:Hid (∀k,i<k→k<n.kids.length→¬Meets s (kd n i).node.toNat (kd n k).node.toNat):=fun k _ _=>by omega
    have hz:((n.kids.length-(i+1):Nat):Int)≤0:=by omega
    go_wp2
    go_loopw [21] (fun vj wq=>vj= .int .i64 0∧wq=wr.alloc (.cells #[.int .i64 ty,.bool yo,.string yd] 55)) (fun _ _=>0)
    case atStart=>exact⟨rfl,rfl⟩
    case round=>
     obtain⟨rfl,rfl⟩:=hrel
     go_wp2
     go_roundw
     case rel=>
      refine⟨i+1,by omega,by go_num,fun i' h1 k h2 h3=>?_,HBA.out⟩
      by_cases e:i'=i
      ·subst e;exact HZ.out k h2 h3
      ·exact HA.out i' (by omega) k h2 h3
     case measure=>simp[intOf];omega
   ·go_wp2
    generalize hW:wr.alloc (.cells #[.int .i64 ty,.bool yo,.string yd] 55)=W at*
    have hWb:W.heap[wr.heap.size]? =some (.cells #[.int .i64 ty,.bool yo,.string yd] 55 (0,0)):=by rw[←hW];exact heap_alloc_new wr _
    have HWb:Hid (W.heap[wr.heap.size]? =some (.cells #[.int .i64 ty,.bool yo,.string yd] 55 (0,0))):=hWb
    obtain⟨Y,hY⟩:∃Y,Y=wr.heap.size:=⟨_,rfl⟩
    have HY0:Hid (W.cell? ⟨Y,0,none⟩=some (.int .i64 ty)):=by show W.cell? _=_;rw[hY];simp[World.cell?,hWb]
    rw[←hY]
    clear hW hWb k1 k2 k3 hY HWb
    go_loopw [21] (fun vj wq=>∃j:Nat,j≤n.kids.length-(i+1)∧vj= .int .i64 j∧(∀k,i<k→k<i+1+j→¬Meets s (kd n i).node.toNat (kd n k).node.toNat)∧Below W.heap.size W wq) (fun vj _=>n.kids.length-(intOf vj).toNat)
    case atStart=>exact⟨0,Nat.zero_le _,rfl,fun k h1 h2=>absurd h1 (by omega),Below.refl _ _⟩
    case round=>
     obtain⟨j,hj,rfl,hno,hbq⟩:=hrel
     have HNO:Hid (∀k,i<k→k<i+1+j→¬Meets s (kd n i).node.toNat (kd n k).node.toNat):=hno
     have HBQ:Hid (Below W.heap.size W wr):=hbq
     have HBW:Hid (Below w.heap.size w wr):=HBA.out.trans (hbq.mono HBA.out.size)
     have d0:=(hbq.cell (lt_of_cell HY0.out)).trans HY0.out
     clear hno hbq
     by_cases hjl:j<n.kids.length-(i+1)
     ·have hjl':(j:Int)<((n.kids.length-(i+1):Nat):Int):=by omega
      obtain⟨kb',ko',he,kcl⟩:=HKI.out (i+1+j) (by omega)
      obtain⟨rfl,rfl⟩:kb=kb'∧ko=ko':=by injection he with he;injection he with e1 e2;exact⟨e1,e2⟩
      obtain⟨tz,zo,zd,hz,htz⟩:=kid_at HKR.out (show i+1+j<n.kids.length by omega)
      have HZ:Hid (kd n (i+1+j)=⟨tz,zo,zd⟩):=hz
      have hkcl:KidCells w kb (ko+(i+1)*3+j*3) ⟨tz,zo,zd⟩:=by rw[←hz];have e:ko+(i+1+j)*3=ko+(i+1)*3+j*3:=(by omega);rw[←e];exact kcl
      obtain⟨k1,k2,k3⟩:=hkcl.below HBW.out
      simp only at k1 k2 k3
      obtain⟨al1,a1,c1,t1,p1,p2,p3,p4⟩:=HAB.out ty hty
      obtain⟨al2,a2,c2,t2,q1,q2,q3,q4⟩:=HAB.out tz htz
      obtain⟨r,hr⟩:=bool_of (MeetsT al1 al2 t1 t2)
      have HR:Hid (r=true↔Meets s (kd n i).node.toNat (kd n (i+1+j)).node.toNat):=by
       rw[HY.out,HZ.out]
       exact hr.trans (meetsT_iff p4 q4)
      have HB2:Hid (Below w.heap.size w (wr.alloc (.cells #[.int .i64 tz,.bool zo,.string zd] 55))):=HBW.out.alloc HBW.out.size _
      have HB3:Hid (Below W.heap.size W (wr.alloc (.cells #[.int .i64 tz,.bool zo,.string zd] 55))):=HBQ.out.alloc HBQ.out.size _
      have HM:Hid (∀x:Ext (wr.alloc (.cells #[.int .i64 tz,.bool zo,.string zd] 55)),Calls Tryz.prog 141 #[.agg #[.bool al1,.slice a1 t1.length c1],.agg #[.bool al2,.slice a2 t2.length c2]] x.v fun e w''=>e= .returned (.bool r)∧∃y:Ext (wr.alloc (.cells #[.int .i64 tz,.bool zo,.string zd] 55)),w''=y.v):=fun x=>Ext.callsR hr (meets_any al1 al2 a1 a2 c1 c2 t1 t2 x.v (p3.below (Ext.bel HB2.out x)) (q3.below (Ext.bel HB2.out x)) p4.1 q4.1)
      have X0:∀x:Ext (wr.alloc (.cells #[.int .i64 tz,.bool zo,.string zd] 55)),x.v.cell? ⟨Y,0,none⟩=some (.int .i64 ty):=fun x=>x.old d0
      have X1:∀x:Ext (wr.alloc (.cells #[.int .i64 tz,.bool zo,.string zd] 55)),x.v.cell? ⟨wr.heap.size,0,none⟩=some (.int .i64 tz):=fun x=>x.new rfl
      have X2:∀x:Ext (wr.alloc (.cells #[.int .i64 tz,.bool zo,.string zd] 55)),x.v.cell? ⟨gb,ty*2,none⟩=some (.bool al1):=fun x=>Ext.far HB2.out x p1
      have X3:∀x:Ext (wr.alloc (.cells #[.int .i64 tz,.bool zo,.string zd] 55)),x.v.cell? ⟨gb,ty*2+1,none⟩=some (.slice a1 t1.length c1):=fun x=>Ext.far HB2.out x p2
      have X4:∀x:Ext (wr.alloc (.cells #[.int .i64 tz,.bool zo,.string zd] 55)),x.v.cell? ⟨gb,tz*2,none⟩=some (.bool al2):=fun x=>Ext.far HB2.out x q1
      have X5:∀x:Ext (wr.alloc (.cells #[.int .i64 tz,.bool zo,.string zd] 55)),x.v.cell? ⟨gb,tz*2+1,none⟩=some (.slice a2 t2.length c2):=fun x=>Ext.far HB2.out x q2
      have hty':(ty:Int)<s.length:=by omega
      have htz':(tz:Int)<s.length:=by omega
      clear kcl hkcl hz he hr p1 p2 p3 p4 q1 q2 q3 q4
      go_wp2_with fail
      (have ne:=ext_ne;refine wp_region_ext (by kernel_rfl) (by kernel_rfl) ?_;(repeat(first|go_big_quiet_skip|(go_big_quiet_want;go_big_quiet_op;first|go_big_quiet_on|(apply Exists.intro;refine⟨fun x=>?_,?_⟩;(·(exact HM.out x));go_big_quiet_on))));refine nil_ext ?_)
      intro w5 hb5
      have HB5:Hid (Below w.heap.size w w5):=HB2.out.trans (hb5.mono HB2.out.size)
      have HB6:Hid (Below W.heap.size W w5):=HB3.out.trans (hb5.mono HB3.out.size)
      clear X0 X1 X2 X3 X4 X5 hb5 HM
      cases r
      ·have HN:Hid (¬Meets s (kd n i).node.toNat (kd n (i+1+j)).node.toNat):=fun q=>Bool.noConfusion (HR.out.2 q)
       go_wp2
       go_roundw
       case rel=>
        refine⟨j+1,by omega,by go_num,fun k h1 h2=>?_,HB6.out⟩
        by_cases e:k=i+1+j
        ·subst e;exact HN.out
        ·exact HNO.out k h1 (by omega)
       case measure=>simp[intOf];omega
      ·have HN:Hid (Meets s (kd n i).node.toNat (kd n (i+1+j)).node.toNat):=HR.out.1 rfl
       go_wp2
       go_ret
       exact reto_no (fun q=>q i (i+1+j) (by omega) (by omega) HN.out) HB5.out
     ·have hjl':((n.kids.length-(i+1):Nat):Int)≤(j:Int):=by omega
      go_wp2
      go_roundw
      case rel=>
       refine⟨i+1,by omega,by go_num,fun i' h1 k h2 h3=>?_,HBW.out⟩
       by_cases e:i'=i
       ·subst e;exact HNO.out k h2 (by omega)
       ·exact HA.out i' (by omega) k h2 h3
      case measure=>simp[intOf];omega
  ·have hlt':(n.kids.length:Int)≤i:=by omega
   go_wp2
   go_ret
   exact reto_yes (fun i' k h1 h2=>HA.out i' (by omega) k h1 h2) HB.out
def SeqAt(s:List Nd)(n:Nd)(i:Nat):Prop:=(kd n i).must∨∀k,i<k→k<n.kids.length→(∀j,i<j→j<k→¬(kd n j).must)→¬Meets s (kd n i).node.toNat (kd n k).node.toNat
theorem seqIsPlain_any(s:List Nd)(n:Nd)(ka:Option Addr)(kc gb:Nat)(w:World)(hka:KidsIn w ka n.kids)(hkc:n.kids.length≤kc)(hk8:n.kids.length≤8)(hw:∀j,j<n.kids.length→∃t:Nat,(kd n j).node=t∧t<s.length)(hb:AbR w gb s)(hn:s.length≤40):
 Calls Tryz.prog 99 #[.slice ka n.kids.length kc,.slice (some ⟨gb,0,none⟩) s.length s.length] w fun e w'=>RetO (∀i,i<n.kids.length→SeqAt s n i) w e w':=by
 have HKI:Hid (KidsIn w ka n.kids):=hka
 have HKR:Hid (∀j,j<n.kids.length→∃t:Nat,(kd n j).node=t∧t<s.length):=hw
 have HAB:Hid (AbR w gb s):=hb
 have HML:Hid (∀(a:Int) (b:Bool) (c:ByteArray) (wq:World),Calls Tryz.prog 94 #[.agg #[.int .i64 a,.bool b,.string c]] wq fun e w'=>RetO (¬Kd.must ⟨a,b,c⟩) wq e w'):=fun a b c wq=>mayLack_any ⟨a,b,c⟩ wq
 clear hka hw hb
 go_enter Tryz.func99,Tryz.ntmps99
 go_wp2
 go_step3
 go_wp2
 go_step3
 go_wp2
 go_loopw [11] (fun vi wr=>∃i:Nat,i≤n.kids.length∧vi= .int .i64 i∧(∀i',i'<i→SeqAt s n i')∧Below w.heap.size w wr) (fun vi _=>n.kids.length-(intOf vi).toNat)
 case atStart=>exact⟨0,Nat.zero_le _,rfl,fun _ h=>absurd h (Nat.not_lt_zero _),Below.refl _ _⟩
 case round=>
  obtain⟨i,hi,rfl,hall,hbr⟩:=hrel
  have HA:Hid (∀i',i'<i→SeqAt s n i'):=hall
  have HB:Hid (Below w.heap.size w wr):=hbr
  have STEP:Hid (SeqAt s n i→∀i',i'<i+1→SeqAt s n i'):=fun q i' h=>by
   by_cases e:i'=i
   ·subst e;exact q
   ·exact hall i' (by omega)
  clear hall hbr
  by_cases hlt:i<n.kids.length
  ·have hlt':(i:Int)<n.kids.length:=by omega
   obtain⟨kb,ko,rfl,kcl⟩:=HKI.out i hlt
   obtain⟨ty,yo,yd,hy,hty⟩:=kid_at HKR.out hlt
   have HY:Hid (kd n i=⟨ty,yo,yd⟩):=hy
   have hkcl:KidCells w kb (ko+i*3) ⟨ty,yo,yd⟩:=by rw[←hy];exact kcl
   obtain⟨k1,k2,k3⟩:=hkcl.below HB.out
   simp only at k1 k2 k3
   have HBA:Hid (Below w.heap.size w (wr.alloc (.cells #[.int .i64 ty,.bool yo,.string yd] 55))):=HB.out.alloc HB.out.size _
   clear hy kcl hkcl
   go_wp2_with fail
   refine(HML.out _ _ _ _).mono ?_
   rintro e W ⟨r0,rfl,hr0,hb0⟩
   have HR0:Hid (r0=true↔¬Kd.must ⟨ty,yo,yd⟩):=hr0
   have HBW0:Hid (Below w.heap.size w W):=HBA.out.trans (hb0.mono HBA.out.size)
   have hWb:=block_below (heap_alloc_new wr (.cells #[.int .i64 ty,.bool yo,.string yd] 55)) hb0
   obtain⟨Y,hY⟩:∃Y,Y=wr.heap.size:=⟨_,rfl⟩
   have HY0:Hid (W.cell? ⟨Y,0,none⟩=some (.int .i64 ty)):=by show W.cell? _=_;rw[hY];simp[World.cell?,hWb]
   rw[←hY]
   clear hY hWb hb0 hr0 k1 k2 k3
   cases r0
   ·have HQ:Hid (SeqAt s n i):= .inl (by
     rw[HY.out]
     by_cases q:Kd.must ⟨ty,yo,yd⟩
     ·exact q
     ·exact Bool.noConfusion (HR0.out.2 q))
    go_wp2
    go_roundw
    case rel=>exact⟨i+1,by omega,by go_num,STEP.out HQ.out,HBW0.out⟩
    case measure=>simp[intOf];omega
   ·have HNM:Hid (¬(kd n i).must):=by rw[HY.out];exact HR0.out.1 rfl
    by_cases hkk:kc=i+1
    ·subst hkk
     have HQ:Hid (SeqAt s n i):= .inr fun k _ _=>by omega
     have hz:((n.kids.length-(i+1):Nat):Int)≤0:=by omega
     go_wp2
     go_loopw [24] (fun vj wq=>vj= .int .i64 0∧wq=W) (fun _ _=>0)
     case atStart=>exact⟨rfl,rfl⟩
     case round=>
      obtain⟨rfl,rfl⟩:=hrel
      go_wp2
      go_roundw
      case rel=>exact⟨i+1,by omega,by go_num,STEP.out HQ.out,HBW0.out⟩
      case measure=>simp[intOf];omega
    ·go_wp2
     go_loopw [24] (fun vj wq=>∃j:Nat,j≤n.kids.length-(i+1)∧vj= .int .i64 j∧(∀k,i<k→k<i+1+j→¬(kd n k).must∧¬Meets s (kd n i).node.toNat (kd n k).node.toNat)∧Below W.heap.size W wq) (fun vj _=>n.kids.length-(intOf vj).toNat)
     case atStart=>exact⟨0,Nat.zero_le _,rfl,fun k h1 h2=>absurd h1 (by omega),Below.refl _ _⟩
     case round=>
      obtain⟨j,hj,rfl,hno,hbq⟩:=hrel
      have HNO:Hid (∀k,i<k→k<i+1+j→¬(kd n k).must∧¬Meets s (kd n i).node.toNat (kd n k).node.toNat):=hno
      have HBQ:Hid (Below W.heap.size W wr):=hbq
      have HBW:Hid (Below w.heap.size w wr):=HBW0.out.trans (hbq.mono HBW0.out.size)
      have d0:=(hbq.cell (lt_of_cell HY0.out)).trans HY0.out
      clear hno hbq
      by_cases hjl:j<n.kids.length-(i+1)
      ·have hjl':(j:Int)<((n.kids.length-(i+1):Nat):Int):=by omega
       obtain⟨kb',ko',he,kcl⟩:=HKI.out (i+1+j) (by omega)
       obtain⟨rfl,rfl⟩:kb=kb'∧ko=ko':=by injection he with he;injection he with e1 e2;exact⟨e1,e2⟩
       obtain⟨tz,zo,zd,hz,htz⟩:=kid_at HKR.out (show i+1+j<n.kids.length by omega)
       have HZ:Hid (kd n (i+1+j)=⟨tz,zo,zd⟩):=hz
       have hkcl:KidCells w kb (ko+(i+1)*3+j*3) ⟨tz,zo,zd⟩:=by rw[←hz];have e:ko+(i+1+j)*3=ko+(i+1)*3+j*3:=(by omega);rw[←e];exact kcl
       obtain⟨k1,k2,k3⟩:=hkcl.below HBW.out
       simp only at k1 k2 k3
       obtain⟨al1,a1,c1,t1,p1,p2,p3,p4⟩:=HAB.out ty hty
       obtain⟨al2,a2,c2,t2,q1,q2,q3,q4⟩:=HAB.out tz htz
       obtain⟨r,hr⟩:=bool_of (MeetsT al1 al2 t1 t2)
       have HR:Hid (r=true↔Meets s (kd n i).node.toNat (kd n (i+1+j)).node.toNat):=by
        rw[HY.out,HZ.out]
        exact hr.trans (meetsT_iff p4 q4)
       have HB2:Hid (Below w.heap.size w (wr.alloc (.cells #[.int .i64 tz,.bool zo,.string zd] 55))):=HBW.out.alloc HBW.out.size _
       have HB3:Hid (Below W.heap.size W (wr.alloc (.cells #[.int .i64 tz,.bool zo,.string zd] 55))):=HBQ.out.alloc HBQ.out.size _
       have HM:Hid (∀x:Ext (wr.alloc (.cells #[.int .i64 tz,.bool zo,.string zd] 55)),Calls Tryz.prog 141 #[.agg #[.bool al1,.slice a1 t1.length c1],.agg #[.bool al2,.slice a2 t2.length c2]] x.v fun e w''=>e= .returned (.bool r)∧∃y:Ext (wr.alloc (.cells #[.int .i64 tz,.bool zo,.string zd] 55)),w''=y.v):=fun x=>Ext.callsR hr (meets_any al1 al2 a1 a2 c1 c2 t1 t2 x.v (p3.below (Ext.bel HB2.out x)) (q3.below (Ext.bel HB2.out x)) p4.1 q4.1)
       have X0:∀x:Ext (wr.alloc (.cells #[.int .i64 tz,.bool zo,.string zd] 55)),x.v.cell? ⟨Y,0,none⟩=some (.int .i64 ty):=fun x=>x.old d0
       have X1:∀x:Ext (wr.alloc (.cells #[.int .i64 tz,.bool zo,.string zd] 55)),x.v.cell? ⟨wr.heap.size,0,none⟩=some (.int .i64 tz):=fun x=>x.new rfl
       have X2:∀x:Ext (wr.alloc (.cells #[.int .i64 tz,.bool zo,.string zd] 55)),x.v.cell? ⟨gb,ty*2,none⟩=some (.bool al1):=fun x=>Ext.far HB2.out x p1
       have X3:∀x:Ext (wr.alloc (.cells #[.int .i64 tz,.bool zo,.string zd] 55)),x.v.cell? ⟨gb,ty*2+1,none⟩=some (.slice a1 t1.length c1):=fun x=>Ext.far HB2.out x p2
       have X4:∀x:Ext (wr.alloc (.cells #[.int .i64 tz,.bool zo,.string zd] 55)),x.v.cell? ⟨gb,tz*2,none⟩=some (.bool al2):=fun x=>Ext.far HB2.out x q1
       have X5:∀x:Ext (wr.alloc (.cells #[.int .i64 tz,.bool zo,.string zd] 55)),x.v.cell? ⟨gb,tz*2+1,none⟩=some (.slice a2 t2.length c2):=fun x=>Ext.far HB2.out x q2
       have hty':(ty:Int)<s.length:=by omega
       have htz':(tz:Int)<s.length:=by omega
       clear kcl hkcl hz he hr p1 p2 p3 p4 q1 q2 q3 q4
       go_wp2_with fail
       (have ne:=ext_ne;refine wp_region_ext (by kernel_rfl) (by kernel_rfl) ?_;(repeat(first|go_big_quiet_skip|(go_big_quiet_want;go_big_quiet_op;first|go_big_quiet_on|(apply Exists.intro;refine⟨fun x=>?_,?_⟩;(·(exact HM.out x));go_big_quiet_on))));refine nil_ext ?_)
       intro w5 hb5
       have HB5:Hid (Below w.heap.size w w5):=HB2.out.trans (hb5.mono HB2.out.size)
       have HB6:Hid (Below W.heap.size W w5):=HB3.out.trans (hb5.mono HB3.out.size)
       have z0:=(Ext.mk w5 hb5).new (i:=0) rfl
       have z1:=(Ext.mk w5 hb5).new (i:=1) rfl
       have z2:=(Ext.mk w5 hb5).new (i:=2) rfl
       simp only at z0 z1 z2
       clear X0 X1 X2 X3 X4 X5 hb5 HM
       cases r
       ·have HN:Hid (¬Meets s (kd n i).node.toNat (kd n (i+1+j)).node.toNat):=fun q=>Bool.noConfusion (HR.out.2 q)
        go_wp2_with fail
        refine(HML.out _ _ _ _).mono ?_
        rintro e w6 ⟨r1,rfl,hr1,hb6⟩
        have HR1:Hid (r1=true↔¬Kd.must ⟨tz,zo,zd⟩):=hr1
        have HB7:Hid (Below w.heap.size w w6):=HB5.out.trans (hb6.mono HB5.out.size)
        have HB8:Hid (Below W.heap.size W w6):=HB6.out.trans (hb6.mono HB6.out.size)
        clear hr1 hb6
        cases r1
        ·have HMU:Hid ((kd n (i+1+j)).must):=by
          rw[HZ.out]
          by_cases q:Kd.must ⟨tz,zo,zd⟩
          ·exact q
          ·exact Bool.noConfusion (HR1.out.2 q)
         have HQ:Hid (SeqAt s n i):= .inr fun k h1 h2 h3=>by
          by_cases e:k<i+1+j
          ·exact(HNO.out k h1 e).2
          ·by_cases e2:k=i+1+j
           ·subst e2;exact HN.out
           ·exact absurd HMU.out (h3 _ (by omega) (by omega))
         go_wp2
         go_roundw
         case rel=>exact⟨i+1,by omega,by go_num,STEP.out HQ.out,HB7.out⟩
         case measure=>simp[intOf];omega
        ·have HMU:Hid (¬(kd n (i+1+j)).must):=by rw[HZ.out];exact HR1.out.1 rfl
         go_wp2
         go_roundw
         case rel=>
          refine⟨j+1,by omega,by go_num,fun k h1 h2=>?_,HB8.out⟩
          by_cases e:k=i+1+j
          ·subst e;exact⟨HMU.out,HN.out⟩
          ·exact HNO.out k h1 (by omega)
         case measure=>simp[intOf];omega
       ·have HN:Hid (Meets s (kd n i).node.toNat (kd n (i+1+j)).node.toNat):=HR.out.1 rfl
        go_wp2
        go_ret
        refine reto_no (fun q=>?_) HB5.out
        rcases q i hlt with q|q
        ·exact HNM.out q
        ·exact q (i+1+j) (by omega) (by omega) (fun j' h1 h2=>(HNO.out j' h1 h2).1) HN.out
      ·have hjl':((n.kids.length-(i+1):Nat):Int)≤(j:Int):=by omega
       have HQ:Hid (SeqAt s n i):= .inr fun k h1 h2 _=>(HNO.out k h1 (by omega)).2
       go_wp2
       go_roundw
       case rel=>exact⟨i+1,by omega,by go_num,STEP.out HQ.out,HBW.out⟩
       case measure=>simp[intOf];omega
  ·have hlt':(n.kids.length:Int)≤i:=by omega
   go_wp2
   go_ret
   exact reto_yes (fun i' h1=>HA.out i' (by omega)) HB.out
def PlainAt(s:List Nd)(n:Nd):Prop:=n.kind=10∨n.kind=13→Told (Meets s) n
theorem told_choice{C:Nat→Nat→Prop}{n:Nd}(h:n.kind=13):Told C n↔∀i k,i<k→k<n.kids.length→¬C (kd n i).node.toNat (kd n k).node.toNat:=by
 have hst:∀k,¬n.stops k:=fun k q=>by have:=q.1;omega
 unfold Told ToldAt
 constructor
 ·intro q i k h1 h2
  rcases q i (by omega)with q|q
  ·exact absurd q (hst _)
  ·exact q k h1 h2 (fun j _ _=>hst _)
 ·exact fun q i hi=> .inr fun k h1 h2 _=>q i k h1 h2
theorem told_seq{s:List Nd}{n:Nd}(h:n.kind=10):Told (Meets s) n↔∀i,i<n.kids.length→SeqAt s n i:=by
 have hst:∀k,n.stops k↔k.must:=fun k=>⟨fun q=>q.2,fun q=>⟨h,q⟩⟩
 unfold Told ToldAt SeqAt
 simp only[hst]
theorem isPlain_any(s:List Nd)(n:Nd)(ka:Option Addr)(kc gb:Nat)(w:World)(hka:KidsIn w ka n.kids)(hkc:n.kids.length≤kc)(hk8:n.kids.length≤8)(hw:∀j,j<n.kids.length→∃t:Nat,(kd n j).node=t∧t<s.length)(hb:AbR w gb s)(hn:s.length≤40):
 Calls Tryz.prog 65 #[.agg #[.int .i64 n.kind,.int .i64 n.tag,.int .i64 n.mode,.slice ka n.kids.length kc],.slice (some ⟨gb,0,none⟩) s.length s.length] w fun e w'=>RetO (PlainAt s n) w e w':=by
 by_cases h13:n.kind=13
 ·have HC:Hid (∀wq,Below w.heap.size w wq→Calls Tryz.prog 98 #[.slice ka n.kids.length kc,.slice (some ⟨gb,0,none⟩) s.length s.length] wq fun e w'=>RetO (∀i k,i<k→k<n.kids.length→¬Meets s (kd n i).node.toNat (kd n k).node.toNat) wq e w'):=fun wq q=>choiceIsPlain_any s n ka kc gb wq (hka.below q) hkc hk8 hw (hb.below q) hn
  have e13:(n.kind==13)=true:=by simp[h13]
  have HX:Hid (PlainAt s n↔∀i k,i<k→k<n.kids.length→¬Meets s (kd n i).node.toNat (kd n k).node.toNat):=(show PlainAt s n↔Told (Meets s) n from⟨fun q=>q (.inr h13),fun q _=>q⟩).trans (told_choice h13)
  clear h13 hka hw hb
  go_enter Tryz.func65,Tryz.ntmps65
  go_wp2_with fail
  refine(HC.out _ ((Below.refl _ _).alloc (Nat.le_refl _) _)).mono ?_
  rintro e w1 ⟨r,rfl,hr,hb1⟩
  have HR:Hid (r=true↔PlainAt s n):=hr.trans HX.out.symm
  have HB1:Hid (Below w.heap.size w w1):=below_alloc hb1
  clear hr hb1
  go_wp2
  go_ret
  exact reto_iff HR.out HB1.out
 ·have e13:(n.kind==13)=false:=by simp[h13]
  by_cases h10:n.kind=10
  ·have HC:Hid (∀wq,Below w.heap.size w wq→Calls Tryz.prog 99 #[.slice ka n.kids.length kc,.slice (some ⟨gb,0,none⟩) s.length s.length] wq fun e w'=>RetO (∀i,i<n.kids.length→SeqAt s n i) wq e w'):=fun wq q=>seqIsPlain_any s n ka kc gb wq (hka.below q) hkc hk8 hw (hb.below q) hn
   have e10:(n.kind==10)=true:=by simp[h10]
   have HX:Hid (PlainAt s n↔∀i,i<n.kids.length→SeqAt s n i):=(show PlainAt s n↔Told (Meets s) n from⟨fun q=>q (.inl h10),fun q _=>q⟩).trans (told_seq h10)
   clear h13 h10 hka hw hb
   go_enter Tryz.func65,Tryz.ntmps65
   go_wp2_with fail
   refine(HC.out _ ((Below.refl _ _).alloc (Nat.le_refl _) _)).mono ?_
   rintro e w1 ⟨r,rfl,hr,hb1⟩
   have HR:Hid (r=true↔PlainAt s n):=hr.trans HX.out.symm
   have HB1:Hid (Below w.heap.size w w1):=below_alloc hb1
   clear hr hb1
   go_wp2
   go_ret
   exact reto_iff HR.out HB1.out
  ·have e10:(n.kind==10)=false:=by simp[h10]
   have HX:Hid (PlainAt s n):=fun q=>by omega
   clear h13 h10 hka hw hb
   go_enter Tryz.func65,Tryz.ntmps65
   go_wp2
   go_ret
   exact reto_yes HX.out ((Below.refl _ _).alloc (Nat.le_refl _) _)
end Go.Proofs.YtkkicodfpekbgaaGreatDoor
namespace Go.Proofs.YtkkicodfpekbgaaGreatDoor
set_option linter.unusedSimpArgs false
set_option linter.unusedVariables false
set_option maxRecDepth 100000
set_option maxHeartbeats 8000000
abbrev WOut:=Option (ByteArray×Nat×Bool)
structure WEnv where
 s:List Nd
 t:List Vl
 ok:Int→ByteArray→Bool
abbrev WRec:=Nat→Nat→Int→Option WOut
def vl(t:List Vl)(j:Nat):Vl:=t.getD j ⟨0,noB,0,0⟩
def elB(c:Int)(b:Bool)(n:Int)(s:ByteArray):ByteArray:=⟨(UInt8.ofNat (fb ⟨c,b,n,0,s.size⟩).toNat::tl s.size).toArray⟩++s
def WOut.andThen(o:Option WOut)(k:ByteArray→Nat→Bool→Option WOut):Option WOut:=
 match o with
 |none=>none
 |some none=>some none
 |some (some (b,x,u))=>k b x u
def wseqF(E:WEnv)(rec:WRec)(dp:Int):List Kd→Nat→ByteArray→Bool→Option WOut
 | [],x,out,u=>some (some (out,x,u))
 |k::ks,x,out,u=>
  if k.opt=true∧x<E.t.length∧(vl E.t x).kind=15 then
   if(vl E.t x).text.size=0∧(vl E.t x).alt=0∧(vl E.t x).kids=0 then wseqF E rec dp ks (x+1) out u else some none
  else WOut.andThen (rec k.node.toNat x (if k.dflt.size=0 then dp+1 else 1)) fun b x' u'=>
   if k.dflt.size≠0∧b=k.dflt then wseqF E rec dp ks x' out (u||u')
   else if 12<dp+1 then some none
   else wseqF E rec dp ks x' (out++b) (u||u')
def wmanyF(E:WEnv)(rec:WRec)(set:Bool)(i:Nat)(dp:Int):Nat→Int→Nat→ByteArray→ByteArray→Bool→Option WOut
 |0,_,_,_,_,_=>none
 |m+1,c,x,out,last,u=>
  if 0<c then WOut.andThen (rec i x dp) fun b x' u'=>wmanyF E rec set i dp m (c-1) x' (out++b) b (u||u'||(set&&below b last))
  else some (some (out,x,u))
def wbareF(E:WEnv)(rec:WRec)(m:Nat)(n:Nd)(cl nu:Int)(v:Vl)(x:Nat)(dp:Int):Option WOut:=
 if n.kind=13 then
  if v.text.size=0∧v.kids=1∧0≤v.alt∧v.alt<n.kids.length then rec (kd n v.alt.toNat).node.toNat x dp else some none
 else if n.kind=14 then
  if(hd v.text).1=0∧(hd v.text).2.s+(hd v.text).2.l=v.text.size∧v.alt=0∧v.kids=0 then some (some (v.text,x,false))else some none
 else if n.kind=10 then
  if v.text.size=0∧v.alt=0∧v.kids=n.kids.length then WOut.andThen (wseqF E rec dp n.kids x noB false) fun b x' u=>some (some (elB cl true nu b,x',u))else some none
 else if 10≤n.kind∧n.kind≤12 then
  if v.text.size=0∧v.alt=0∧0≤v.kids then WOut.andThen (wmanyF E rec (decide (n.kind=12)) (kd n 0).node.toNat (dp+1) m v.kids x noB noB false) fun b x' u=>some (some (elB cl true nu b,x',u))else some none
 else if E.ok n.kind v.text=true∧v.alt=0∧v.kids=0 then some (some (elB cl false nu v.text,x,false))else some none
def wcl(n:Nd):Int:=if 0≤n.tag∧n.mode=0 then 2 else 0
def wnu(n:Nd):Int:=if 0≤n.tag∧n.mode=0 then n.tag else own0 n.kind
def wrF(E:WEnv):Nat→WRec
 |0,_,_,_=>none
 |f+1,i,x,dp=>
  if x<E.t.length∧(vl E.t x).kind=(nd E.s i).kind∧dp≤12 then
   WOut.andThen (wbareF E (wrF E f) f (nd E.s i) (wcl (nd E.s i)) (wnu (nd E.s i)) (vl E.t x) (x+1) dp) fun b x' u=>some (some (if(nd E.s i).mode=1 then elB 2 true (nd E.s i).tag b else b,x',u))
  else some none
theorem wandThen_cases{o:Option WOut}{k:ByteArray→Nat→Bool→Option WOut}{r:WOut}(h:WOut.andThen o k=some r):(o=some none∧r=none)∨∃b x u,o=some (some (b,x,u))∧k b x u=some r:=by
 unfold WOut.andThen at h
 split at h
 ·cases h
 ·exact .inl ⟨rfl,(Option.some.inj h).symm⟩
 ·exact .inr ⟨_,_,_,rfl,h⟩
theorem wandThen_some{o:Option WOut}{r:WOut}{k:ByteArray→Nat→Bool→Option WOut}(h:o=some r)(hk:∀b x u,r=some (b,x,u)→∃r',k b x u=some r'):∃r',WOut.andThen o k=some r':=by
 subst h
 unfold WOut.andThen
 match r with
 |none=>exact⟨none,rfl⟩
 |some (b,x,u)=>exact hk b x u rfl
def pz(t:List Vl)(x:Nat):Nat:=((t.take x).map (·.text.size)).sum+10*x
theorem pz_succ{t:List Vl}{x:Nat}(h:x<t.length):pz t (x+1)=pz t x+(vl t x).text.size+10:=by
 have e1:t.take (x+1)=t.take x++[t[x]]:=by rw[List.take_add_one,List.getElem?_eq_getElem h];rfl
 have e2:vl t x=t[x]:=by unfold vl;rw[List.getD_eq_getElem?_getD,List.getElem?_eq_getElem h];rfl
 unfold pz
 rw[e1,e2,List.map_append,List.sum_append]
 simp only[List.map_cons,List.map_nil,List.sum_cons,List.sum_nil]
 omega
theorem tl_le(n:Int):(tl n).length≤4:=by
 unfold tl
 repeat' split
 all_goals simp
theorem elB_size(c:Int)(b:Bool)(n:Int)(s:ByteArray):(elB c b n s).size≤s.size+5:=by
 unfold elB
 have h:=tl_le s.size
 rw[ByteArray.size_append]
 show(UInt8.ofNat _::tl s.size).toArray.size+s.size≤_
 rw[List.size_toArray,List.length_cons]
 omega
def Adv(E:WEnv)(x:Nat)(r:WOut):Prop:=∀b x' u,r=some (b,x',u)→x<x'∧x'≤E.t.length∧b.size+pz E.t x≤pz E.t x'
theorem wseqF_adv{E:WEnv}{rec:WRec}(hr:∀i x dp r,rec i x dp=some r→Adv E x r){dp:Int}:∀(ks:List Kd) (x:Nat) (out:ByteArray) (u:Bool) (r:WOut),x≤E.t.length→wseqF E rec dp ks x out u=some r→∀b x' u',r=some (b,x',u')→x≤x'∧x'≤E.t.length∧b.size+pz E.t x≤out.size+pz E.t x'
 | [],x,out,u,r,hx,e=>by
   unfold wseqF at e
   cases e
   intro b x' u' q
   cases q
   exact⟨Nat.le_refl _,hx,Nat.le_refl _⟩
 |k::ks,x,out,u,r,hx,e=>by
  unfold wseqF at e
  split at e
  ·rename_i q
   split at e
   ·intro b x' u' h
    have:=wseqF_adv hr ks (x+1) out u r q.2.1 e b x' u' h
    have hp:=pz_succ q.2.1
    omega
   ·cases e;intro b x' u' h;cases h
  ·rcases wandThen_cases e with⟨_,rfl⟩|⟨b1,x1,u1,h1,h2⟩
   ·intro b x' u' h;cases h
   ·have a1:=hr _ _ _ _ h1 b1 x1 u1 rfl
    split at h2
    ·intro b x' u' h
     have:=wseqF_adv hr ks x1 out _ r a1.2.1 h2 b x' u' h
     omega
    ·split at h2
     ·cases h2;intro b x' u' h;cases h
     ·intro b x' u' h
      have:=wseqF_adv hr ks x1 _ _ r a1.2.1 h2 b x' u' h
      rw[ByteArray.size_append]at this
      omega
theorem wmanyF_adv{E:WEnv}{rec:WRec}(hr:∀i x dp r,rec i x dp=some r→Adv E x r){set:Bool}{i:Nat}{dp:Int}:∀(m:Nat) (c:Int) (x:Nat) (out last:ByteArray) (u:Bool) (r:WOut),x≤E.t.length→wmanyF E rec set i dp m c x out last u=some r→∀b x' u',r=some (b,x',u')→x≤x'∧x'≤E.t.length∧b.size+pz E.t x≤out.size+pz E.t x'
 |0,_,_,_,_,_,_,_,e=>by cases e
 |m+1,c,x,out,last,u,r,hx,e=>by
  unfold wmanyF at e
  split at e
  ·rcases wandThen_cases e with⟨_,rfl⟩|⟨b1,x1,u1,h1,h2⟩
   ·intro b x' u' h;cases h
   ·have a1:=hr _ _ _ _ h1 b1 x1 u1 rfl
    intro b x' u' h
    have:=wmanyF_adv hr m _ x1 _ _ _ r a1.2.1 h2 b x' u' h
    rw[ByteArray.size_append]at this
    omega
  ·cases e
   intro b x' u' h
   cases h
   exact⟨Nat.le_refl _,hx,Nat.le_refl _⟩
theorem wbareF_adv{E:WEnv}{rec:WRec}(hr:∀i x dp r,rec i x dp=some r→Adv E x r){m:Nat}{n:Nd}{cl nu:Int}{x:Nat}{dp:Int}{r:WOut}(hx:x<E.t.length)(e:wbareF E rec m n cl nu (vl E.t x) (x+1) dp=some r):∀b x' u,r=some (b,x',u)→x<x'∧x'≤E.t.length∧b.size+pz E.t x+5≤pz E.t x':=by
 have hp:=pz_succ hx
 have h0:noB.size=0:=rfl
 unfold wbareF at e
 split at e
 ·split at e
  ·intro b x' u h
   have:=hr _ _ _ _ e b x' u h
   omega
  ·cases e;intro b x' u h;cases h
 split at e
 ·split at e
  ·cases e;intro b x' u h;cases h
   exact⟨by omega,by omega,by omega⟩
  ·cases e;intro b x' u h;cases h
 split at e
 ·split at e
  ·rcases wandThen_cases e with⟨_,rfl⟩|⟨b1,x1,u1,h1,h2⟩
   ·intro b x' u' h;cases h
   ·have a1:=wseqF_adv hr _ _ _ _ _ (by omega) h1 b1 x1 u1 rfl
    cases h2
    intro b x' u' h
    cases h
    have:=elB_size cl true nu b1
    omega
  ·cases e;intro b x' u h;cases h
 split at e
 ·split at e
  ·rcases wandThen_cases e with⟨_,rfl⟩|⟨b1,x1,u1,h1,h2⟩
   ·intro b x' u' h;cases h
   ·have a1:=wmanyF_adv hr _ _ _ _ _ _ _ (by omega) h1 b1 x1 u1 rfl
    cases h2
    intro b x' u' h
    cases h
    have:=elB_size cl true nu b1
    omega
  ·cases e;intro b x' u h;cases h
 split at e
 ·cases e;intro b x' u h;cases h
  have:=elB_size cl false nu (vl E.t x).text
  exact⟨by omega,by omega,by omega⟩
 ·cases e;intro b x' u h;cases h
theorem wrF_adv{E:WEnv}:∀(f i x:Nat) (dp:Int) (r:WOut),wrF E f i x dp=some r→Adv E x r
 |0,_,_,_,_,e=>by cases e
 |f+1,i,x,dp,r,e=>by
  rw[wrF]at e
  split at e
  ·rename_i q
   rcases wandThen_cases e with⟨_,rfl⟩|⟨b1,x1,u1,h1,h2⟩
   ·intro b x' u h;cases h
   ·have a1:=wbareF_adv (wrF_adv f) q.1 h1 b1 x1 u1 rfl
    cases h2
    intro b x' u h
    cases h
    refine⟨a1.1,a1.2.1,?_⟩
    split
    ·have:=elB_size 2 true (nd E.s i).tag b1
     omega
    ·omega
  ·cases e;intro b x' u h;cases h
theorem wseqF_some{E:WEnv}{rec:WRec}(ha:∀i x dp r,rec i x dp=some r→Adv E x r){dp:Int}(x0:Nat)(hr:∀i x dp,x0≤x→∃r,rec i x dp=some r):∀(ks:List Kd) (x:Nat) (out:ByteArray) (u:Bool),x0≤x→∃r,wseqF E rec dp ks x out u=some r
 | [],x,out,u,_=>⟨_,rfl⟩
 |k::ks,x,out,u,hx=>by
  unfold wseqF
  split
  ·split
   ·exact wseqF_some ha x0 hr ks (x+1) out u (by omega)
   ·exact⟨_,rfl⟩
  ·obtain⟨r1,h1⟩:=hr k.node.toNat x (if k.dflt.size=0 then dp+1 else 1) hx
   refine wandThen_some h1 fun b x' u' q=>?_
   have a1:=ha _ _ _ _ h1 b x' u' q
   split
   ·exact wseqF_some ha x0 hr ks x' _ _ (by omega)
   split
   ·exact⟨_,rfl⟩
   ·exact wseqF_some ha x0 hr ks x' _ _ (by omega)
theorem wmanyF_some{E:WEnv}{rec:WRec}(ha:∀i x dp r,rec i x dp=some r→Adv E x r){set:Bool}{i:Nat}{dp:Int}(x0:Nat)(hr:∀i x dp,x0≤x→∃r,rec i x dp=some r):∀(m:Nat) (c:Int) (x:Nat) (out last:ByteArray) (u:Bool),x0≤x→x≤E.t.length→E.t.length+1≤m+x→∃r,wmanyF E rec set i dp m c x out last u=some r
 |0,c,x,out,last,u,_,h1,h2=>by omega
 |m+1,c,x,out,last,u,hx,h1,h2=>by
  unfold wmanyF
  split
  ·obtain⟨r1,g1⟩:=hr i x dp hx
   refine wandThen_some g1 fun b x' u' q=>?_
   have a1:=ha _ _ _ _ g1 b x' u' q
   exact wmanyF_some ha x0 hr m _ x' _ _ _ (by omega) a1.2.1 (by omega)
  ·exact⟨_,rfl⟩
theorem wrF_some{E:WEnv}:∀(f i x:Nat) (dp:Int),E.t.length+1≤f+x→1≤f→∃r,wrF E f i x dp=some r
 |0,_,_,_,_,h=>by omega
 |f+1,i,x,dp,h,_=>by
  rw[wrF]
  split
  ·rename_i q
   have hr:∀i' x' dp',x+1≤x'→∃r,wrF E f i' x' dp'=some r:=fun i' x' dp' hx=>wrF_some f i' x' dp' (by omega) (by omega)
   have ha:=wrF_adv (E:=E) f
   have hb:∃r,wbareF E (wrF E f) f (nd E.s i) (wcl (nd E.s i)) (wnu (nd E.s i)) (vl E.t x) (x+1) dp=some r:=by
    unfold wbareF
    split
    ·split
     ·exact hr _ _ _ (Nat.le_refl _)
     ·exact⟨_,rfl⟩
    split
    ·split<;>exact⟨_,rfl⟩
    split
    ·split
     ·obtain⟨r1,g1⟩:=wseqF_some (E:=E) ha (dp:=dp) (x+1) hr (nd E.s i).kids (x+1) noB false (Nat.le_refl _)
      exact wandThen_some g1 fun _ _ _ _=>⟨_,rfl⟩
     ·exact⟨_,rfl⟩
    split
    ·split
     ·obtain⟨r1,g1⟩:=wmanyF_some (E:=E) ha (set:=decide ((nd E.s i).kind=12)) (i:=(kd (nd E.s i) 0).node.toNat) (dp:=dp+1) (x+1) hr f (vl E.t x).kids (x+1) noB noB false (Nat.le_refl _) q.1 (by omega)
      exact wandThen_some g1 fun _ _ _ _=>⟨_,rfl⟩
     ·exact⟨_,rfl⟩
    split<;>exact⟨_,rfl⟩
   obtain⟨r1,g1⟩:=hb
   exact wandThen_some g1 fun _ _ _ _=>⟨_,rfl⟩
  ·exact⟨_,rfl⟩
theorem b8_mk(l:List UInt8)(i:Nat):b8 ⟨l.toArray⟩ i=((l.getD i 0).toNat:Int):=by simp[b8]
theorem size_mk(l:List UInt8):(⟨l.toArray⟩:ByteArray).size=l.length:=by show l.toArray.size=_;simp
theorem extract_mk(a:UInt8)(l:List UInt8):(⟨(a::l).toArray⟩:ByteArray).extract 1 (⟨(a::l).toArray⟩:ByteArray).size=⟨l.toArray⟩:=by
 apply ByteArray.ext
 rw[size_mk]
 apply Array.toList_inj.1
 rw[Lib.extract_data]
 simp
theorem u8_nat(x:Int)(h0:0≤x)(h1:x<256):((UInt8.ofNat x.toNat).toNat:Int)=x:=by
 have:(UInt8.ofNat x.toNat).toNat=x.toNat:=by rw[UInt8.toNat_ofNat'];omega
 omega
theorem rl_tl(n:Int)(h0:0≤n)(h1:n<16777216)(rest:List UInt8):rl ⟨(tl n++rest).toArray⟩=(0,1+cnt n,n):=by
 have hlen:=tl_length n
 have hc:=cnt_cases n
 rcases hc with⟨a,b⟩|⟨a,a',b⟩|⟨a,a',b⟩|⟨a,b⟩
 ·have e:tl n=[UInt8.ofNat n.toNat]:=by unfold tl;rw[if_pos a]
  have e0:b8 ⟨(tl n++rest).toArray⟩ 0=n:=by rw[b8_mk,e];exact u8_nat n h0 (by omega)
  unfold rl
  rw[size_mk,e0,if_neg (by rw[e];simp),if_pos a,b]
  rfl
 ·have e:tl n=[129,UInt8.ofNat n.toNat]:=by unfold tl;rw[if_neg (by omega),if_pos a']
  have e0:b8 ⟨(tl n++rest).toArray⟩ 0=129:=by rw[b8_mk,e];rfl
  have e1:b8 ⟨(tl n++rest).toArray⟩ 1=n:=by rw[b8_mk,e];exact u8_nat n h0 (by omega)
  have en:numTo ⟨(tl n++rest).toArray⟩ 1=n:=by simp only[numTo];rw[e1];omega
  unfold rl
  rw[size_mk,e0,if_neg (by rw[e];simp),if_neg (by omega),if_neg (by omega),if_neg (by rw[e];simp;omega),show((129:Int)-128).toNat=1 by rfl,en,if_neg (by omega),b]
  rfl
 ·have e:tl n=[130,UInt8.ofNat (n/256).toNat,UInt8.ofNat (n%256).toNat]:=by unfold tl;rw[if_neg (by omega),if_neg (by omega),if_pos a']
  have e0:b8 ⟨(tl n++rest).toArray⟩ 0=130:=by rw[b8_mk,e];rfl
  have e1:b8 ⟨(tl n++rest).toArray⟩ 1=n/256:=by rw[b8_mk,e];exact u8_nat _ (by omega) (by omega)
  have e2:b8 ⟨(tl n++rest).toArray⟩ 2=n%256:=by rw[b8_mk,e];exact u8_nat _ (by omega) (by omega)
  have en:numTo ⟨(tl n++rest).toArray⟩ 2=n:=by simp only[numTo];rw[e1,e2];omega
  unfold rl
  rw[size_mk,e0,if_neg (by rw[e];simp),if_neg (by omega),if_neg (by omega),if_neg (by rw[e];simp;omega),show((130:Int)-128).toNat=2 by rfl,en,if_neg (by omega),b]
  rfl
 ·have e:tl n=[131,UInt8.ofNat (n/65536).toNat,UInt8.ofNat (n/256%256).toNat,UInt8.ofNat (n%256).toNat]:=by unfold tl;rw[if_neg (by omega),if_neg (by omega),if_neg (by omega)]
  have e0:b8 ⟨(tl n++rest).toArray⟩ 0=131:=by rw[b8_mk,e];rfl
  have e1:b8 ⟨(tl n++rest).toArray⟩ 1=n/65536:=by rw[b8_mk,e];exact u8_nat _ (by omega) (by omega)
  have e2:b8 ⟨(tl n++rest).toArray⟩ 2=n/256%256:=by rw[b8_mk,e];exact u8_nat _ (by omega) (by omega)
  have e3:b8 ⟨(tl n++rest).toArray⟩ 3=n%256:=by rw[b8_mk,e];exact u8_nat _ (by omega) (by omega)
  have en:numTo ⟨(tl n++rest).toArray⟩ 3=n:=by simp only[numTo];rw[e1,e2,e3];omega
  unfold rl
  rw[size_mk,e0,if_neg (by rw[e];simp),if_neg (by omega),if_neg (by omega),if_neg (by rw[e];simp;omega),show((131:Int)-128).toNat=3 by rfl,en,if_neg (by omega),b]
  rfl
theorem hd_told(c:Int)(b:Bool)(n l:Int)(z:Int)(q1:0≤c)(q2:c≤3)(q3:0≤n)(q4:n≤30)(q5:0≤l)(q6:l≤16777215)(rest:List UInt8):
 hd ⟨(UInt8.ofNat (fb ⟨c,b,n,z,l⟩).toNat::(tl l++rest)).toArray⟩=if(rest.length:Int)<l then(3,.zero)else(0,⟨c,b,n,2+cnt l,l⟩):=by
 have hf:fb ⟨c,b,n,z,l⟩=c*64+n+(if b then 32 else 0):=by unfold fb;cases b<;>simp
 have hf0:0≤fb ⟨c,b,n,z,l⟩∧fb ⟨c,b,n,z,l⟩<256:=by rw[hf];cases b<;>simp<;>omega
 have e0:b8 ⟨(UInt8.ofNat (fb ⟨c,b,n,z,l⟩).toNat::(tl l++rest)).toArray⟩ 0=fb ⟨c,b,n,z,l⟩:=by rw[b8_mk];exact u8_nat _ hf0.1 hf0.2
 have hlen:=tl_length l
 have hd1:fb ⟨c,b,n,z,l⟩%32=n:=by rw[hf];cases b<;>simp<;>omega
 have hd2:fb ⟨c,b,n,z,l⟩/64=c:=by rw[hf];cases b<;>simp<;>omega
 have hd3:(fb ⟨c,b,n,z,l⟩/32%2==1)=b:=by
  rw[hf];cases b
  ·rw[beq_eq_false_iff_ne];simp;omega
  ·rw[beq_iff_eq];simp;omega
 unfold hd
 rw[extract_mk,rl_tl l q5 (by omega) rest,e0,hd1,hd2,hd3,size_mk]
 simp only
 rw[if_neg (by simp),if_neg (by omega),if_neg (by omega)]
 have hL:(((UInt8.ofNat (fb ⟨c,b,n,z,l⟩).toNat::(tl l++rest)).length:Nat):Int)=2+cnt l+rest.length:=by
  simp only[List.length_cons,List.length_append];omega
 rw[hL]
 by_cases h:(rest.length:Int)<l
 ·rw[if_pos h,if_pos (by omega)]
 ·rw[if_neg h,if_neg (by omega),show 1+cnt l+1=2+cnt l by omega]
theorem mk_append(x y:List UInt8):(⟨x.toArray⟩:ByteArray)++⟨y.toArray⟩=⟨(x++y).toArray⟩:=by
 apply ByteArray.ext
 simp
theorem mk_eta(t:ByteArray):t=⟨t.data.toList.toArray⟩:=by
 apply ByteArray.ext
 simp
theorem elB_list(c:Int)(b:Bool)(n:Int)(s:ByteArray):elB c b n s=⟨(UInt8.ofNat (fb ⟨c,b,n,0,s.size⟩).toNat::(tl s.size++s.data.toList)).toArray⟩:=by
 unfold elB
 conv=>lhs;rw[mk_eta s]
 rw[mk_append,←mk_eta s]
 rfl
theorem hd_elB(c:Int)(b:Bool)(n:Int)(s:ByteArray)(q1:0≤c)(q2:c≤3)(q3:0≤n)(q4:n≤30)(hs:s.size≤16777215):hd (elB c b n s)=(0,⟨c,b,n,2+cnt s.size,s.size⟩):=by
 rw[elB_list,hd_told c b n s.size 0 q1 q2 q3 q4 (by omega) (by omega),if_neg (by show¬(((s.data.toList.length:Nat):Int)<s.size);simp)]
theorem elB_sz(c:Int)(b:Bool)(n:Int)(s:ByteArray):((elB c b n s).size:Int)=2+cnt s.size+s.size:=by
 have h:=tl_length s.size
 unfold elB
 rw[ByteArray.size_append,size_mk,List.length_cons]
 omega
theorem elB_rest(c:Int)(b:Bool)(n:Int)(s:ByteArray):(elB c b n s).extract (2+cnt s.size).toNat (elB c b n s).size=s:=by
 have h:=tl_length s.size
 have hz:=elB_sz c b n s
 rw[elB_list]
 apply ByteArray.ext
 apply Array.toList_inj.1
 rw[Lib.extract_data,size_mk,show(2+cnt s.size).toNat=(tl s.size).length+1 by omega]
 show((UInt8.ofNat (fb ⟨c,b,n,0,s.size⟩).toNat::(tl s.size++s.data.toList)).drop _).take _=_
 rw[List.drop_succ_cons,List.drop_left,List.take_of_length_le (by simp)]
theorem rl_inv(r:List UInt8)(h:(rl ⟨r.toArray⟩).1=0):∃rest,r=tl (rl ⟨r.toArray⟩).2.2++rest∧(rl ⟨r.toArray⟩).2.1=1+cnt (rl ⟨r.toArray⟩).2.2:=by
 obtain⟨u,hu⟩:∃u,rl ⟨r.toArray⟩=u:=⟨_,rfl⟩
 rw[hu]at h ⊢
 have hof:∀a:UInt8,UInt8.ofNat ((a.toNat:Int)).toNat=a:=fun a=>by simp
 unfold rl at hu
 rw[size_mk]at hu
 rcases r with _|⟨a,r⟩
 ·rw[if_pos List.length_nil]at hu;rw[←hu]at h;cases h
 ·have ha:=UInt8.toNat_lt a
  rw[if_neg (by simp),show b8 ⟨(a::r).toArray⟩ 0=(a.toNat:Int)by rw[b8_mk];rfl]at hu
  by_cases h1:(a.toNat:Int)<128
  ·rw[if_pos h1]at hu
   subst hu
   refine⟨r,?_,?_⟩
   ·show _=tl (a.toNat:Int)++r
    unfold tl
    rw[if_pos h1,hof];rfl
   ·show(1:Int)=1+cnt (a.toNat:Int)
    unfold cnt
    rw[if_pos h1];rfl
  rw[if_neg h1]at hu
  by_cases h2:(a.toNat:Int)=128∨131<(a.toNat:Int)
  ·rw[if_pos h2]at hu;rw[←hu]at h;cases h
  rw[if_neg h2]at hu
  by_cases h3:(((a::r).length:Nat):Int)≤(a.toNat:Int)-128
  ·rw[if_pos h3]at hu;rw[←hu]at h;cases h
  rw[if_neg h3]at hu
  by_cases h4:(a.toNat:Int)-128≠cnt (numTo ⟨(a::r).toArray⟩ ((a.toNat:Int)-128).toNat)
  ·rw[if_pos h4]at hu;rw[←hu]at h;cases h
  rw[if_neg h4]at hu
  have h4':(a.toNat:Int)-128=cnt (numTo ⟨(a::r).toArray⟩ ((a.toNat:Int)-128).toNat):=Classical.not_not.1 h4
  subst hu
  have hN:=numTo_bd ⟨(a::r).toArray⟩ ((a.toNat:Int)-128).toNat
  obtain⟨N,hNe⟩:∃N,numTo ⟨(a::r).toArray⟩ ((a.toNat:Int)-128).toNat=N:=⟨_,rfl⟩
  rw[hNe]at h4' hN ⊢
  show∃rest,a::r=tl N++rest∧1+((a.toNat:Int)-128)=1+cnt N
  have hlen:((a.toNat:Int)-128)<((a::r).length:Nat):=by omega
  simp only[List.length_cons]at hlen
  have hc:=cnt_cases N
  have haa:∀k:Nat,k<256→a.toNat=k→a=UInt8.ofNat k:=fun k hk e=>by rw[←e];simp
  have hA:a.toNat=129∨a.toNat=130∨a.toNat=131:=by omega
  rcases hA with hA|hA|hA
  ·have hc1:128≤N∧N<256:=by omega
   rcases r with _|⟨r1,rest⟩
   ·simp at hlen;omega
   ·have e1:N=(r1.toNat:Int):=by
     rw[←hNe,show((a.toNat:Int)-128).toNat=1 by omega]
     simp only[numTo]
     rw[b8_mk];simp
    refine⟨rest,?_,by omega⟩
    unfold tl
    rw[if_neg (by omega),if_pos hc1.2,e1,hof,haa 129 (by decide) hA];rfl
  ·have hc1:256≤N∧N<65536:=by omega
   rcases r with _|⟨r1,_|⟨r2,rest⟩⟩
   ·simp at hlen;omega
   ·simp at hlen;omega
   ·have b1:=UInt8.toNat_lt r1
    have b2:=UInt8.toNat_lt r2
    have e1:N=(r1.toNat:Int)*256+(r2.toNat:Int):=by
     rw[←hNe,show((a.toNat:Int)-128).toNat=2 by omega]
     simp only[numTo]
     rw[b8_mk,b8_mk];simp
    refine⟨rest,?_,by omega⟩
    unfold tl
    rw[if_neg (by omega),if_neg (by omega),if_pos hc1.2,show N/256=(r1.toNat:Int)by omega,show N%256=(r2.toNat:Int)by omega,hof,hof,haa 130 (by decide) hA];rfl
  ·have hc1:65536≤N:=by omega
   rcases r with _|⟨r1,_|⟨r2,_|⟨r3,rest⟩⟩⟩
   ·simp at hlen;omega
   ·simp at hlen;omega
   ·simp at hlen;omega
   ·have b1:=UInt8.toNat_lt r1
    have b2:=UInt8.toNat_lt r2
    have b3:=UInt8.toNat_lt r3
    have e1:N=((r1.toNat:Int)*256+(r2.toNat:Int))*256+(r3.toNat:Int):=by
     rw[←hNe,show((a.toNat:Int)-128).toNat=3 by omega]
     simp only[numTo]
     rw[b8_mk,b8_mk,b8_mk];simp
    refine⟨rest,?_,by omega⟩
    unfold tl
    rw[if_neg (by omega),if_neg (by omega),if_neg (by omega),show N/65536=(r1.toNat:Int)by omega,show N/256%256=(r2.toNat:Int)by omega,show N%256=(r3.toNat:Int)by omega,hof,hof,hof,haa 131 (by decide) hA];rfl
theorem elB_hd{t:ByteArray}(h:(hd t).1=0)(hz:(hd t).2.s+(hd t).2.l=t.size):t=elB (hd t).2.c (hd t).2.b (hd t).2.n (t.extract (hd t).2.s.toNat t.size)∧0≤(hd t).2.c∧(hd t).2.c≤3∧0≤(hd t).2.n∧(hd t).2.n≤30∧((t.extract (hd t).2.s.toNat t.size).size:Int)=(hd t).2.l∧(hd t).2.l≤16777215:=by
 have e:t=⟨t.data.toList.toArray⟩:=mk_eta t
 generalize t.data.toList=l at e
 subst e
 rcases l with _|⟨a,r⟩
 ·unfold hd at h;rw[size_mk,if_pos List.length_nil]at h;cases h
 ·have ha:=UInt8.toNat_lt a
  have hb:b8 ⟨(a::r).toArray⟩ 0=(a.toNat:Int):=by rw[b8_mk];rfl
  unfold hd at h hz ⊢
  rw[extract_mk,hb]at h hz ⊢
  have hzr:((⟨(a::r).toArray⟩:ByteArray).size)≠0:=by rw[size_mk];simp
  rw[if_neg hzr]at h hz ⊢
  by_cases q1:(a.toNat:Int)%32=31
  ·rw[if_pos q1]at h;cases h
  rw[if_neg q1]at h hz ⊢
  by_cases q2:(rl ⟨r.toArray⟩).1≠0
  ·rw[if_pos q2]at h;exact absurd h q2
  rw[if_neg q2]at h hz ⊢
  have q2':(rl ⟨r.toArray⟩).1=0:=Classical.not_not.1 q2
  have hbd:=rl_bd ⟨r.toArray⟩
  obtain⟨rest,e1,e2⟩:=rl_inv r q2'
  generalize rl ⟨r.toArray⟩=u at h hz e1 e2 q2' hbd ⊢
  obtain⟨u0,u1,u2⟩:=u
  simp only at h hz e1 e2 q2' hbd ⊢
  split at h
  ·cases h
  rename_i q3
  rw[if_neg q3]at hz ⊢
  simp only at hz ⊢
  have hl:=tl_length u2
  have hrest:(⟨(a::r).toArray⟩:ByteArray).extract (u1+1).toNat (⟨(a::r).toArray⟩:ByteArray).size=⟨rest.toArray⟩:=by
   apply ByteArray.ext
   apply Array.toList_inj.1
   rw[Lib.extract_data,size_mk]
   show((a::r).toArray.toList.drop (u1+1).toNat).take _=_
   rw[show(u1+1).toNat=(tl u2).length+1 by omega,e1]
   simp
  have hsz:(⟨(a::r).toArray⟩:ByteArray).size=(tl u2).length+1+rest.length:=by rw[size_mk,e1];simp;omega
  rw[hsz]at hz
  have hr:(rest.length:Int)=u2:=by omega
  rw[hrest,size_mk]
  refine⟨?_,by omega,by omega,by omega,by omega,by omega,by omega⟩
  rw[elB_list,size_mk,hr]
  have hf:fb ⟨(a.toNat:Int)/64,(a.toNat:Int)/32%2==1,(a.toNat:Int)%32,0,u2⟩=(a.toNat:Int):=by
   unfold fb
   simp only
   split
   ·rename_i hh;have:=beq_iff_eq.1 hh;omega
   ·rename_i hh;have:¬(a.toNat:Int)/32%2=1:=fun q=>hh (beq_iff_eq.2 q);omega
  rw[hf,show UInt8.ofNat ((a.toNat:Int)).toNat=a by simp,show(⟨rest.toArray⟩:ByteArray).data.toList=rest by simp,←e1]
end Go.Proofs.YtkkicodfpekbgaaGreatDoor
namespace Go.Proofs.YtkkicodfpekbgaaGreatDoor
open Go.RowKit
set_option linter.unusedSimpArgs false
set_option linter.unusedVariables false
set_option maxRecDepth 100000
set_option maxHeartbeats 8000000
def Kd.cells(k:Kd):List Value:=[.int .i64 k.node,.bool k.opt,.string k.dflt]
def kcells(ks:List Kd):List Value:=ks.flatMap Kd.cells
def ncell(n:Nd)(K:Value):List Value:=[.int .i64 n.kind,.int .i64 n.tag,.int .i64 n.mode,K]
def ncells(s:List Nd)(K:Nat→Value)(k:Nat):List Value:=(List.range k).flatMap fun i=>ncell (nd s i) (K i)
theorem ncells_succ(s:List Nd)(K:Nat→Value)(k:Nat):ncells s K (k+1)=ncells s K k++ncell (nd s k) (K k):=by
 unfold ncells;rw[List.range_succ];simp
theorem ncells_congr{s:List Nd}{K K':Nat→Value}{k:Nat}(h:∀i,i<k→K i=K' i):ncells s K k=ncells s K' k:=by
 induction k with
 |zero=>rfl
 |succ k ih=>rw[ncells_succ,ncells_succ,ih (fun i hi=>h i (by omega)),h k (by omega)]
theorem ncells_len(s:List Nd)(K:Nat→Value)(k:Nat):(ncells s K k).length=k*4:=by
 induction k with
 |zero=>rfl
 |succ k ih=>rw[ncells_succ,List.length_append,ih];simp[ncell];omega
theorem ncells_get(s:List Nd)(K:Nat→Value)(k i:Nat)(hi:i<k)(j:Nat)(hj:j<4):(ncells s K k)[i*4+j]? =(ncell (nd s i) (K i))[j]? :=by
 induction k with
 |zero=>omega
 |succ k ih=>
  rw[ncells_succ]
  by_cases e:i=k
  ·subst e
   rw[List.getElem?_append_right (by rw[ncells_len];omega),ncells_len]
   congr 1;omega
  ·rw[List.getElem?_append_left (by rw[ncells_len];omega)]
   exact ih (by omega)
theorem kcells_get(l:List Kd)(i:Nat)(hi:i<l.length)(j:Nat)(hj:j<3):(kcells l)[i*3+j]? =(l.getD i kd0).cells[j]? :=by
 induction l generalizing i with
 |nil=>simp at hi
 |cons a l ih=>
  have e:kcells (a::l)=a.cells++kcells l:=by unfold kcells;simp
  rw[e]
  cases i with
  |zero=>rw[List.getElem?_append_left (by simp[Kd.cells];omega)];simp
  |succ i=>
   rw[List.getElem?_append_right (by simp[Kd.cells];omega)]
   have:(i+1)*3+j-a.cells.length=i*3+j:=by simp[Kd.cells];omega
   rw[this,ih i (by simp at hi;omega)]
   simp
structure CpW(s:List Nd)(w wr:World)(k:Nat)(vout:Value):Prop where
 bel:Below w.heap.size w wr
 own:∃K:Nat→Value,wr.ownsRow w.heap.size 58 4 vout k (ncells s K k)∧∀i,i<k→wr.ownsRow w.heap.size 55 3 (K i) (nd s i).kids.length (kcells (nd s i).kids)
theorem CpW.below{s:List Nd}{w wr w':World}{k:Nat}{vout:Value}(h:CpW s w wr k vout)(hb:Below wr.heap.size wr w'):CpW s w w' k vout where
 bel:=h.bel.trans (hb.mono h.bel.size)
 own:=by obtain⟨K,h1,h2⟩:=h.own;exact⟨K,own_below h1 hb,fun i hi=>own_below (h2 i hi) hb⟩
theorem row_ne3{w:World}{b1 b2 s1 s2 n1 n2:Nat}{e1 e2:TypeId}{v1 v2:Value}{x1 x2:List Value}(h1:w.ownsRow b1 e1 s1 v1 n1 x1)(h2:w.ownsRow b2 e2 s2 v2 n2 x2)(hT:e2≠e1):v2.ownBlock=none∨v2.ownBlock≠v1.ownBlock:=by
 rcases h2.2 with⟨q,_⟩|⟨g,cap,cur,q,_,hg,_⟩
 ·left;rw[q];rfl
 ·right
  intro e
  have:v1.ownBlock=some g:=by rw[←e,q];rfl
  exact row_ne1 hg h1 hT this
theorem CpW.put{s:List Nd}{w wr w':World}{k g cap:Nat}{vout vk:Value}{o:Obj}{K:Nat→Value}(hb0:Below w.heap.size w wr)(q1:wr.ownsRow w.heap.size 58 4 vout k (ncells s K k))(q2:∀i,i<k→wr.ownsRow w.heap.size 55 3 (K i) (nd s i).kids.length (kcells (nd s i).kids))
 (hk:wr.ownsRow w.heap.size 55 3 vk (nd s k).kids.length (kcells (nd s k).kids))
 (h1:w'.ownsRow w.heap.size 58 4 (.slice (some ⟨g,0,none⟩) (k+1) cap) (k+1) (ncells s K k++ncell (nd s k) vk))
 (h2:(wr.alloc o).grownBy w' vout.ownBlock):CpW s w w' (k+1) (.slice (some ⟨g,0,none⟩) (k+1) cap):=by
 have hb:Below w.heap.size w (wr.alloc o):=hb0.alloc hb0.size o
 refine⟨hb.grown h2 hb.size (fun j hj=>(q1.lt j hj).1),fun i=>if i=k then vk else K i,?_,fun i hi=>?_⟩
 ·rw[ncells_succ,if_pos rfl,ncells_congr (K':=K) (fun i hi=>if_neg (by omega))]
  exact h1
 ·show w'.ownsRow _ _ _ (if i=k then vk else K i) _ _
  by_cases e:i=k
  ·subst e;rw[if_pos rfl];exact(hk.alloc o).kept h2 (row_ne3 q1 hk (by decide))
  ·rw[if_neg e];exact((q2 i (by omega)).alloc o).kept h2 (row_ne3 q1 (q2 i (by omega)) (by decide))
theorem own_form2{w:World}{base:Nat}{e:TypeId}{size:Nat}{v:Value}{n:Nat}{xs:List Value}(h:w.ownsRow base e size v n xs):∃a cap,v= .slice a n cap∧(0<n→∃g,a=some ⟨g,0,none⟩):=by
 rcases h.2 with⟨hv,hn⟩|⟨g,cap,cur,hv,_⟩
 ·subst hn;exact⟨none,0,hv,fun h=>absurd h (Nat.lt_irrefl _)⟩
 ·exact⟨_,cap,hv,fun _=>⟨g,rfl⟩⟩
theorem add0(g j:Nat):(⟨g,0,none⟩:Addr).add j=⟨g,j,none⟩:=by unfold Addr.add;split<;>simp_all
theorem CpW.sch{s:List Nd}{w wr:World}{vout:Value}(h:CpW s w wr s.length vout):∃a c,vout= .slice a s.length c∧Sch wr a s:=by
 obtain⟨K,q1,q2⟩:=h.own
 obtain⟨a,c,rfl,ha⟩:=own_form2 q1
 refine⟨a,c,rfl,fun i hi=>?_⟩
 obtain⟨g,rfl⟩:=ha (by omega)
 have cell:∀j,j<4→∀u,(ncell (nd s i) (K i))[j]? =some u→wr.cell? ⟨g,i*4+j,none⟩=some u:=fun j hj u hu=>by
  have:=q1.cells (g:=g) rfl (i*4+j) u (by rw[ncells_get s K s.length i hi j hj];exact hu)
  rwa[add0]at this
 obtain⟨ka,kc,hK,hka⟩:=own_form2 (q2 i hi)
 have hq:=q2 i hi
 rw[hK]at hq cell
 have hcap:(nd s i).kids.length≤kc∧kc≤maxLen:=by
  rcases hq.2 with⟨q,e⟩|⟨g',cap,cur,q,_,_,q3,q4,_⟩
  ·injection q with _ e1 e2;subst e2;rw[e];exact⟨Nat.le_refl _,Nat.zero_le _⟩
  ·injection q with _ _ e2;subst e2;exact⟨q3,q4⟩
 refine⟨g,0,ka,kc,rfl,⟨?_,?_,?_,?_⟩,hcap.1,hcap.2,fun j hj=>?_⟩
 ·simpa using cell 0 (by omega) _ rfl
 ·simpa using cell 1 (by omega) _ rfl
 ·simpa using cell 2 (by omega) _ rfl
 ·simpa using cell 3 (by omega) _ rfl
 ·obtain⟨g',rfl⟩:=hka (by omega)
  have kcell:∀p,p<3→∀u,((nd s i).kids.getD j kd0).cells[p]? =some u→wr.cell? ⟨g',j*3+p,none⟩=some u:=fun p hp u hu=>by
   have:=hq.cells (g:=g') rfl (j*3+p) u (by rw[kcells_get _ j hj p hp];exact hu)
   rwa[add0]at this
  exact⟨g',0,rfl,by simpa using kcell 0 (by omega) _ rfl,by simpa using kcell 1 (by omega) _ rfl,by simpa using kcell 2 (by omega) _ rfl⟩
theorem wpList_push8{w:World}{ops:Array Oper}{rest:List Oper}{o:Oper}{a:Act}{Q:Exit→Act→World→Prop}(hgd:o.guard=none)(s x:Operand)
 (ho:o.op= .call {callee:= .builtin .append,args:=#[s,x],argTypes:=#[52,52]})
 (B:Nat)(v:Value)(n:Nat)(xs:List Value)(hs:a.eval s=v)(hown:w.ownsRow B 5 1 v n xs)(u:Int)(T:TypeId)
 (hx:a.eval x= .slice (some ⟨w.heap.size,0,none⟩) 1 1)(hn:n≤1000)(hB:B≤w.heap.size)
 (h:∀v' w',w'.ownsRow B 5 1 v' (n+1) (xs++[.int .u8 u])→Below B w w'→wpList Tryz.prog ops Q rest (a.put o.dst v') w'):
 wpList Tryz.prog ops Q (o::rest) a (w.alloc (.cells #[.int .u8 u] T)):=by
 obtain⟨i0,hi,hz0,hz1,hz2⟩:=info_parts Tryz.info8
 refine wpList_append_own _ hgd s x 52 ho B 5 i0 (.int .u8 0) 1 1 Tryz.underlying52 hi hz0 hz1 hz2 rfl (by decide) v n xs hs (hown.alloc _) ⟨w.heap.size,0,none⟩ 1 1 [.int .u8 u] hx rfl ?_ ?_ ?_ ?_ ?_ ?_
 ·intro j y hj
  match j,hj with
  |0,hj=>simp at hj;subst hj;simp[Addr.add]
 ·intro y hy;simp at hy;subst hy;rfl
 ·unfold maxLen;omega
 ·omega
 ·simp;omega
 ·intro v' w' h1 h2 _
  exact h v' w' h1 (((Below.refl B w).alloc hB _).grown h2 (by simp;omega) fun k hk=>(hown.lt k hk).1)
theorem ownsRow_cast{w:World}{B:Nat}{v:Value}{n m:Nat}{xs ys:List Value}(h:w.ownsRow B 5 1 v n xs)(hn:n=m)(hx:xs=ys):w.ownsRow B 5 1 v m ys:=by subst hn;subst hx;exact h
theorem al_0(B:Nat)(v:Value)(n:Nat)(xs:List Value)(L:Int)(w:World)(h0:0≤L)(h1:L<128)(hown:w.ownsRow B 5 1 v n xs)(hB:B≤w.heap.size)(hn:n≤900):
 Calls Tryz.prog 185 #[v,.int .i64 L] w fun e w'=>∃v',e= .returned v'∧w'.ownsRow B 5 1 v' (n+1) (xs++[.int .u8 L])∧Below B w w':=by
 have HO:Hid (w.ownsRow B 5 1 v n xs):=hown
 clear hown
 go_enter Tryz.func185,Tryz.ntmps185
 go_wp2_with (first|(at_builtin;refine wpList_push8 rfl (.tmp 11) (.tmp 14) rfl B _ _ _ rfl HO.out _ _ rfl (by omega) hB ?_;intro v1 w1 o1 b1)|go_in)
 go_ret
 exact⟨_,rfl,o1,b1⟩
theorem al_1(B:Nat)(v:Value)(n:Nat)(xs:List Value)(L:Int)(w:World)(h0:128≤L)(h1:L<256)(hown:w.ownsRow B 5 1 v n xs)(hB:B≤w.heap.size)(hn:n≤900):
 Calls Tryz.prog 185 #[v,.int .i64 L] w fun e w'=>∃v',e= .returned v'∧w'.ownsRow B 5 1 v' (n+2) (xs++[.int .u8 129,.int .u8 L])∧Below B w w':=by
 have HO:Hid (w.ownsRow B 5 1 v n xs):=hown
 clear hown
 go_enter Tryz.func185,Tryz.ntmps185
 go_wp2_with (first|(at_builtin;refine wpList_push8 rfl (.tmp 16) (.tmp 20) rfl B _ _ _ rfl HO.out _ _ rfl (by omega) hB ?_;intro v1 w1 o1 b1)|go_in)
 have HO1:Hid (w1.ownsRow B 5 1 v1 (n+1) (xs++[.int .u8 129])):=o1
 have HB1:Hid (Below B w w1):=b1
 have hB1:B≤w1.heap.size:=Nat.le_trans hB b1.size
 clear o1 b1
 refine wp_loop_rounds 2 ?_
 rw[rounds_succ]
 go_wp2_with (first|(at_builtin;refine wpList_push8 rfl (.tmp 28) (.tmp 34) rfl B _ _ _ rfl HO1.out _ _ rfl (by omega) hB1 ?_;intro v2 w2 o2 b2)|go_in)
 have HO2:Hid (w2.ownsRow B 5 1 v2 (n+1+1) (xs++[.int .u8 129]++[.int .u8 L])):=o2
 have HB2:Hid (Below B w w2):=HB1.out.trans b2
 have hB2:B≤w2.heap.size:=Nat.le_trans hB1 b2.size
 clear o2 b2
 rw[rounds_succ]
 go_wp2_with fail
 go_ret
 exact⟨_,rfl,ownsRow_cast HO2.out rfl (by simp),HB2.out⟩
theorem al_2(B:Nat)(v:Value)(n:Nat)(xs:List Value)(L:Int)(w:World)(h0:256≤L)(h1:L<65536)(hown:w.ownsRow B 5 1 v n xs)(hB:B≤w.heap.size)(hn:n≤900):
 Calls Tryz.prog 185 #[v,.int .i64 L] w fun e w'=>∃v',e= .returned v'∧w'.ownsRow B 5 1 v' (n+3) (xs++[.int .u8 130,.int .u8 (L/256),.int .u8 (L%256)])∧Below B w w':=by
 have HO:Hid (w.ownsRow B 5 1 v n xs):=hown
 clear hown
 go_enter Tryz.func185,Tryz.ntmps185
 go_wp2_with (first|(at_builtin;refine wpList_push8 rfl (.tmp 16) (.tmp 20) rfl B _ _ _ rfl HO.out _ _ rfl (by omega) hB ?_;intro v1 w1 o1 b1)|go_in)
 have HO1:Hid (w1.ownsRow B 5 1 v1 (n+1) (xs++[.int .u8 130])):=o1
 have HB1:Hid (Below B w w1):=b1
 have hB1:B≤w1.heap.size:=Nat.le_trans hB b1.size
 clear o1 b1
 refine wp_loop_rounds 3 ?_
 rw[rounds_succ]
 go_wp2_with (first|(at_builtin;refine wpList_push8 rfl (.tmp 28) (.tmp 34) rfl B _ _ _ rfl HO1.out _ _ rfl (by omega) hB1 ?_;intro v2 w2 o2 b2)|go_in)
 have HO2:Hid (w2.ownsRow B 5 1 v2 (n+1+1) (xs++[.int .u8 130]++[.int .u8 (L/256)])):=o2
 have HB2:Hid (Below B w w2):=HB1.out.trans b2
 have hB2:B≤w2.heap.size:=Nat.le_trans hB1 b2.size
 clear o2 b2
 rw[rounds_succ]
 go_wp2_with (first|(at_builtin;refine wpList_push8 rfl (.tmp 28) (.tmp 34) rfl B _ _ _ rfl HO2.out _ _ rfl (by omega) hB2 ?_;intro v3 w3 o3 b3)|go_in)
 have HO3:Hid (w3.ownsRow B 5 1 v3 (n+1+1+1) (xs++[.int .u8 130]++[.int .u8 (L/256)]++[.int .u8 (L%256)])):=o3
 have HB3:Hid (Below B w w3):=HB2.out.trans b3
 have hB3:B≤w3.heap.size:=Nat.le_trans hB2 b3.size
 clear o3 b3
 rw[rounds_succ]
 go_wp2_with fail
 go_ret
 exact⟨_,rfl,ownsRow_cast HO3.out rfl (by simp),HB3.out⟩
theorem al_3(B:Nat)(v:Value)(n:Nat)(xs:List Value)(L:Int)(w:World)(h0:65536≤L)(h1:L<16777216)(hown:w.ownsRow B 5 1 v n xs)(hB:B≤w.heap.size)(hn:n≤900):
 Calls Tryz.prog 185 #[v,.int .i64 L] w fun e w'=>∃v',e= .returned v'∧w'.ownsRow B 5 1 v' (n+4) (xs++[.int .u8 131,.int .u8 (L/65536),.int .u8 (L/256%256),.int .u8 (L%256)])∧Below B w w':=by
 have HO:Hid (w.ownsRow B 5 1 v n xs):=hown
 clear hown
 go_enter Tryz.func185,Tryz.ntmps185
 go_wp2_with (first|(at_builtin;refine wpList_push8 rfl (.tmp 16) (.tmp 20) rfl B _ _ _ rfl HO.out _ _ rfl (by omega) hB ?_;intro v1 w1 o1 b1)|go_in)
 have HO1:Hid (w1.ownsRow B 5 1 v1 (n+1) (xs++[.int .u8 131])):=o1
 have HB1:Hid (Below B w w1):=b1
 have hB1:B≤w1.heap.size:=Nat.le_trans hB b1.size
 clear o1 b1
 refine wp_loop_rounds 4 ?_
 rw[rounds_succ]
 go_wp2_with (first|(at_builtin;refine wpList_push8 rfl (.tmp 28) (.tmp 34) rfl B _ _ _ rfl HO1.out _ _ rfl (by omega) hB1 ?_;intro v2 w2 o2 b2)|go_in)
 have HO2:Hid (w2.ownsRow B 5 1 v2 (n+1+1) (xs++[.int .u8 131]++[.int .u8 (L/65536)])):=o2
 have HB2:Hid (Below B w w2):=HB1.out.trans b2
 have hB2:B≤w2.heap.size:=Nat.le_trans hB1 b2.size
 clear o2 b2
 rw[rounds_succ]
 go_wp2_with (first|(at_builtin;refine wpList_push8 rfl (.tmp 28) (.tmp 34) rfl B _ _ _ rfl HO2.out _ _ rfl (by omega) hB2 ?_;intro v3 w3 o3 b3)|go_in)
 have HO3:Hid (w3.ownsRow B 5 1 v3 (n+1+1+1) (xs++[.int .u8 131]++[.int .u8 (L/65536)]++[.int .u8 (L/256%256)])):=o3
 have HB3:Hid (Below B w w3):=HB2.out.trans b3
 have hB3:B≤w3.heap.size:=Nat.le_trans hB2 b3.size
 clear o3 b3
 rw[rounds_succ]
 go_wp2_with (first|(at_builtin;refine wpList_push8 rfl (.tmp 28) (.tmp 34) rfl B _ _ _ rfl HO3.out _ _ rfl (by omega) hB3 ?_;intro v4 w4 o4 b4)|go_in)
 have HO4:Hid (w4.ownsRow B 5 1 v4 (n+1+1+1+1) (xs++[.int .u8 131]++[.int .u8 (L/65536)]++[.int .u8 (L/256%256)]++[.int .u8 (L%256)])):=o4
 have HB4:Hid (Below B w w4):=HB3.out.trans b4
 have hB4:B≤w4.heap.size:=Nat.le_trans hB3 b4.size
 clear o4 b4
 rw[rounds_succ]
 go_wp2_with fail
 go_ret
 exact⟨_,rfl,ownsRow_cast HO4.out rfl (by simp),HB4.out⟩
theorem appendLength_any(B:Nat)(v:Value)(n:Nat)(xs:List Value)(L:Int)(w:World)(h0:0≤L)(h1:L<16777216)(hown:w.ownsRow B 5 1 v n xs)(hB:B≤w.heap.size)(hn:n≤900):
 Calls Tryz.prog 185 #[v,.int .i64 L] w fun e w'=>∃v' m,e= .returned v'∧w'.ownsRow B 5 1 v' m (xs++(tl L).map bv)∧Below B w w':=by
 unfold tl
 split
 ·refine(al_0 B v n xs L w h0 (by omega) hown hB hn).mono ?_
  rintro e w' ⟨v',rfl,ho,hb⟩
  exact⟨v',_,rfl,ownsRow_cast ho rfl (by simp[bv_of L h0 (by omega)]),hb⟩
 split
 ·refine(al_1 B v n xs L w (by omega) (by omega) hown hB hn).mono ?_
  rintro e w' ⟨v',rfl,ho,hb⟩
  exact⟨v',_,rfl,ownsRow_cast ho rfl (by simp[bv_of L h0 (by omega)];rfl),hb⟩
 split
 ·refine(al_2 B v n xs L w (by omega) (by omega) hown hB hn).mono ?_
  rintro e w' ⟨v',rfl,ho,hb⟩
  exact⟨v',_,rfl,ownsRow_cast ho rfl (by simp[bv_of (L/256) (by omega) (by omega),bv_of (L%256) (by omega) (by omega)];rfl),hb⟩
 ·refine(al_3 B v n xs L w (by omega) (by omega) hown hB hn).mono ?_
  rintro e w' ⟨v',rfl,ho,hb⟩
  exact⟨v',_,rfl,ownsRow_cast ho rfl (by simp[bv_of (L/65536) (by omega) (by omega),bv_of (L/256%256) (by omega) (by omega),bv_of (L%256) (by omega) (by omega)];rfl),hb⟩
end Go.Proofs.YtkkicodfpekbgaaGreatDoor
