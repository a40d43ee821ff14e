/-
Several texts in one.
-/
import Derived.Test.YtkkicodfpekbgaaGreatDoorJa2
import Derived.Deep.Light
import Derived.Test.YtkkicodfpekbgaaGreatDoorJa1
import Derived.Shelf.Lays
import Derived.Below
import Derived.Test.YtkkicodfpekbgaaGreatDoorRows
import Derived.WalkKit
import Derived.WalkSpells
import Derived.WalkLawsBesides
import Derived.Deep.RegionLaw
import Derived.Test.YtkkicodfpekbgaaGreatDoorJa0
import Derived.BigQuiet
import Derived.Deep.RegionWith
namespace Go.Proofs.YtkkicodfpekbgaaGreatDoor
open Go.RowKit
set_option linter.unusedSimpArgs false
set_option linter.unusedVariables false
set_option maxRecDepth 100000
set_option maxHeartbeats 8000000

def BoolOk(t:ByteArray):Prop:=t.size=1∧(b8 t 0=0∨b8 t 0=255)
theorem empty_iff(t:ByteArray):t.toList.isEmpty=true↔t.size=0:=by
 rw[Lib.toList_data,List.isEmpty_iff,←List.length_eq_zero_iff,size_list]
theorem boolOk_iff(t:ByteArray):BoolOk t↔t.toList=[0]∨t.toList=[255]:=by
 unfold BoolOk b8
 rw[Lib.toList_data,←size_list]
 generalize t.data.toList=l
 match l with
 | []=>simp
 | [x]=>
   have h0:((x.toNat:Int)=0↔x=0):=⟨fun h=>UInt8.toNat_inj.1 (by show x.toNat=0;omega),fun h=>by rw[h];rfl⟩
   have h1:((x.toNat:Int)=255↔x=255):=⟨fun h=>UInt8.toNat_inj.1 (by show x.toNat=255;omega),fun h=>by rw[h];rfl⟩
   show([x].length=1∧((x.toNat:Int)=0∨(x.toNat:Int)=255))↔_
   rw[h0,h1]
   simp
 |_::_::_=>simp
theorem fits_2(t:ByteArray)(w:World)(hm:t.size≤9223372036854775807):
 Calls Tryz.prog 138 #[.int .i64 2,.string t] w fun e w'=>RetB (IntOk t) w e w':=by
 go_enter Tryz.func138,Tryz.ntmps138
 go_wp2_with fail
 refine(fitsInt_any t _ hm).mono ?_
 rintro e w2 ⟨r,rfl,hr,hd⟩
 have HR:Hid (r=true↔IntOk t):=hr
 have HD:Hid (∃k,w2=w.drewN k):=hd
 clear hr hd
 go_wp2_with fail
 go_ret
 exact ret_iff HR.out HD.out
theorem fits_4(t:ByteArray)(w:World)(hm:t.size≤9223372036854775807):
 Calls Tryz.prog 138 #[.int .i64 4,.string t] w fun e w'=>RetB (OidOk t) w e w':=by
 go_enter Tryz.func138,Tryz.ntmps138
 go_wp2_with fail
 refine(fitsOid_any t _ hm).mono ?_
 rintro e w2 ⟨r,rfl,hr,hd⟩
 have HR:Hid (r=true↔OidOk t):=hr
 have HD:Hid (∃k,w2=w.drewN k):=hd
 clear hr hd
 go_wp2_with fail
 go_ret
 exact ret_iff HR.out HD.out
theorem fits_5(t:ByteArray)(w:World)(hm:t.size≤9223372036854775807):
 Calls Tryz.prog 138 #[.int .i64 5,.string t] w fun e w'=>RetB (BitsOk t) w e w':=by
 go_enter Tryz.func138,Tryz.ntmps138
 go_wp2_with fail
 refine(fitsBits_any t _ hm).mono ?_
 rintro e w2 ⟨r,rfl,hr,hd⟩
 have HR:Hid (r=true↔BitsOk t):=hr
 have HD:Hid (∃k,w2=w.drewN k):=hd
 clear hr hd
 go_wp2_with fail
 go_ret
 exact ret_iff HR.out HD.out
theorem fits_8(t:ByteArray)(w:World)(hm:t.size≤9223372036854775807):
 Calls Tryz.prog 138 #[.int .i64 8,.string t] w fun e w'=>RetB (PrOk t) w e w':=by
 go_enter Tryz.func138,Tryz.ntmps138
 go_wp2_with fail
 refine(fitsPrintable_any t _ hm).mono ?_
 rintro e w2 ⟨r,rfl,hr,hd⟩
 have HR:Hid (r=true↔PrOk t):=hr
 have HD:Hid (∃k,w2=w.drewN k):=hd
 clear hr hd
 go_wp2_with fail
 go_ret
 exact ret_iff HR.out HD.out
theorem fits_9(t:ByteArray)(w:World)(hm:t.size≤9223372036854775807)(hD:Days w):
 Calls Tryz.prog 138 #[.int .i64 9,.string t] w fun e w'=>RetB (TimeOk t) w e w':=by
 go_enter Tryz.func138,Tryz.ntmps138
 go_wp2_with fail
 refine(fitsTime_any t _ hm hD).mono ?_
 rintro e w2 ⟨r,rfl,hr,hd⟩
 have HR:Hid (r=true↔TimeOk t):=hr
 have HD:Hid (∃k,w2=w.drewN k):=hd
 clear hr hd
 go_wp2_with fail
 go_ret
 exact ret_iff HR.out HD.out
theorem fits_3(t:ByteArray)(w:World):
 Calls Tryz.prog 138 #[.int .i64 3,.string t] w fun e w'=>RetB (t.size=0) w e w':=by
 go_enter Tryz.func138,Tryz.ntmps138
 go_wp2
 go_ret
 exact ret_iff (empty_iff t) (drew0 w)
theorem fits_6(t:ByteArray)(w:World):
 Calls Tryz.prog 138 #[.int .i64 6,.string t] w fun e w'=>RetB True w e w':=by
 go_enter Tryz.func138,Tryz.ntmps138
 go_wp2
 go_ret
 exact ret_yes trivial (drew0 w)
theorem fits_no(k:Int)(t:ByteArray)(w:World)(hk:k<1∨9<k):
 Calls Tryz.prog 138 #[.int .i64 k,.string t] w fun e w'=>RetB False w e w':=by
 go_enter Tryz.func138,Tryz.ntmps138
 have g:∀c:Int,1≤c→c≤9→(k==c)=false:=fun c h1 h2=>by rw[beq_eq_false_iff_ne];omega
 have g1:=g 1 (by omega) (by omega)
 have g2:=g 2 (by omega) (by omega)
 have g3:=g 3 (by omega) (by omega)
 have g4:=g 4 (by omega) (by omega)
 have g5:=g 5 (by omega) (by omega)
 have g6:=g 6 (by omega) (by omega)
 have g7:=g 7 (by omega) (by omega)
 have g8:=g 8 (by omega) (by omega)
 have g9:=g 9 (by omega) (by omega)
 clear g
 go_wp2
 go_ret
 exact ret_no id (drew0 w)
theorem fits_1(t:ByteArray)(w:World):
 Calls Tryz.prog 138 #[.int .i64 1,.string t] w fun e w'=>RetB (BoolOk t) w e w':=by
 go_enter Tryz.func138,Tryz.ntmps138
 by_cases h0:t.toList=[0]
 ·have HY:Hid (BoolOk t):=(boolOk_iff t).2 (.inl h0)
  go_wp2
  go_ret
  exact ret_yes HY.out (drew0 w)
 ·go_wp2
  go_ret
  refine ret_iff (Iff.trans ?_ (boolOk_iff t).symm) (drew0 w)
  rw[Bool.or_eq_true,beq_iff_eq,beq_iff_eq]
end Go.Proofs.YtkkicodfpekbgaaGreatDoor
namespace Go.Proofs.YtkkicodfpekbgaaGreatDoor
open Go.Shelf
set_option linter.unusedSimpArgs false
set_option linter.unusedVariables false
set_option maxRecDepth 100000
set_option maxHeartbeats 8000000
def valRen:Ren where
 f:=fun|196=>176|259=>194|n=>n
 t:=fun|0=>0|3=>3|4=>4|5=>5|9=>9|12=>12|46=>266|53=>286|119=>275|138=>277|139=>278|n=>n
 g:=fun|3=>14|4=>15|n=>n
theorem Tryz.laysValid:Lays.n196 Tryz.prog valRen where
 mixed:=by kernel_rfl
 f196:=Tryz.func176.trans (congrArg some (by kernel_rfl))
 f259:=Tryz.func194.trans (congrArg some (by kernel_rfl))
 t0:=Tryz.underlying0
 a0:=Tryz.isAgg0
 z0:=Tryz.sizeOf0
 v0:=Tryz.zeroValue0
 t3:=Tryz.underlying3
 a3:=Tryz.isAgg3
 z3:=Tryz.sizeOf3
 v3:=Tryz.zeroValue3
 t4:=Tryz.underlying4
 a4:=Tryz.isAgg4
 z4:=Tryz.sizeOf4
 v4:=Tryz.zeroValue4
 t5:=Tryz.underlying5
 a5:=Tryz.isAgg5
 z5:=Tryz.sizeOf5
 v5:=Tryz.zeroValue5
 t9:=Tryz.underlying9
 a9:=Tryz.isAgg9
 z9:=Tryz.sizeOf9
 v9:=Tryz.zeroValue9
 t12:=Tryz.underlying12
 a12:=Tryz.isAgg12
 z12:=Tryz.sizeOf12
 v12:=Tryz.zeroValue12
 t46:=Tryz.underlying266
 a46:=Tryz.isAgg266
 z46:=Tryz.sizeOf266
 v46:=Tryz.zeroValue266
 t53:=Tryz.underlying286
 a53:=Tryz.isAgg286
 z53:=Tryz.sizeOf286
 v53:=Tryz.zeroValue286
 t119:=Tryz.underlying275
 a119:=Tryz.isAgg275
 z119:=Tryz.sizeOf275
 t138:=Tryz.underlying277
 a138:=Tryz.isAgg277
 z138:=Tryz.sizeOf277
 v138:=Tryz.zeroValue277
 t139:=Tryz.underlying278
 a139:=Tryz.isAgg278
 z139:=Tryz.sizeOf278
 v139:=Tryz.zeroValue278
 g3:=by kernel_rfl
 g4:=by kernel_rfl
end Go.Proofs.YtkkicodfpekbgaaGreatDoor
namespace Go.Proofs.YtkkicodfpekbgaaGreatDoor
open Go.RowKit
set_option linter.unusedSimpArgs false
set_option linter.unusedVariables false
set_option maxRecDepth 100000
set_option maxHeartbeats 8000000
def ContentOk(k:Int)(t:ByteArray):Prop:=
 (k=1∧BoolOk t)∨(k=2∧IntOk t)∨(k=3∧t.size=0)∨(k=4∧OidOk t)∨(k=5∧BitsOk t)∨(k=6∧True)∨(k=7∧Utf8Ok t)∨(k=8∧PrOk t)∨(k=9∧TimeOk t)
theorem contentOk_1(t:ByteArray):BoolOk t↔ContentOk 1 t:=by unfold ContentOk;simp
theorem contentOk_2(t:ByteArray):IntOk t↔ContentOk 2 t:=by unfold ContentOk;simp
theorem contentOk_3(t:ByteArray):t.size=0↔ContentOk 3 t:=by unfold ContentOk;simp
theorem contentOk_4(t:ByteArray):OidOk t↔ContentOk 4 t:=by unfold ContentOk;simp
theorem contentOk_5(t:ByteArray):BitsOk t↔ContentOk 5 t:=by unfold ContentOk;simp
theorem contentOk_6(t:ByteArray):True↔ContentOk 6 t:=by unfold ContentOk;simp
theorem contentOk_7(t:ByteArray):Utf8Ok t↔ContentOk 7 t:=by unfold ContentOk;simp
theorem contentOk_8(t:ByteArray):PrOk t↔ContentOk 8 t:=by unfold ContentOk;simp
theorem contentOk_9(t:ByteArray):TimeOk t↔ContentOk 9 t:=by unfold ContentOk;simp
theorem contentOk_no(k:Int)(t:ByteArray)(h:k<1∨9<k):False↔ContentOk k t:=by
 unfold ContentOk
 refine⟨False.elim,fun c=>?_⟩
 rcases c with c|c|c|c|c|c|c|c|c<;> (have:=c.1;omega)
theorem RetB.to{P Q:Prop}{w w':World}{e:Ending}(h:RetB P w e w')(i:P↔Q):RetB Q w e w':=by
 obtain⟨r,h1,h2,h3⟩:=h
 exact⟨r,h1,h2.trans i,h3⟩
def RetW(P:Prop)(w:World)(e:Ending)(w':World):Prop:=∃r,e= .returned (.bool r)∧(r=true↔P)∧Below w.heap.size w w'
theorem below_drawn{B:Nat}{a w:World}(h:Below B a w):∀q,Below B a (w.drewN q)
 |0=>h
 |q+1=>(below_drawn h q).drew
theorem RetB.toW{P:Prop}{w w':World}{e:Ending}(h:RetB P w e w'):RetW P w e w':=by
 obtain⟨r,h1,h2,k,rfl⟩:=h
 exact⟨r,h1,h2,below_drawn (Below.refl _ _) k⟩
theorem RetW.to{P Q:Prop}{w w':World}{e:Ending}(h:RetW P w e w')(i:P↔Q):RetW Q w e w':=by
 obtain⟨r,h1,h2,h3⟩:=h
 exact⟨r,h1,h2.trans i,h3⟩
theorem kinds(k:Int):(k<1∨9<k)∨k=1∨k=2∨k=3∨k=4∨k=5∨k=6∨k=7∨k=8∨k=9:=by omega
def Valids(t:ByteArray)(w:World):Prop:=Calls Tryz.prog 176 #[.string t] w fun e w'=>RetW (Utf8Ok t) w e w'
theorem fits_7(t:ByteArray)(w:World)(hV:Valids t w):
 Calls Tryz.prog 138 #[.int .i64 7,.string t] w fun e w'=>RetW (Utf8Ok t) w e w':=by
 go_enter Tryz.func138,Tryz.ntmps138
 go_wp2_with fail
 refine Calls.mono hV ?_
 rintro e w2 ⟨r,rfl,hr,hd⟩
 have HR:Hid (r=true↔Utf8Ok t):=hr
 have HD:Hid (Below w.heap.size w w2):=hd
 clear hr hd
 go_wp2_with fail
 go_ret
 exact⟨_,rfl,HR.out,HD.out⟩
theorem fits_any(k:Int)(t:ByteArray)(w:World)(hm:t.size≤9223372036854775807)(hD:Days w)(hV:Valids t w):
 Calls Tryz.prog 138 #[.int .i64 k,.string t] w fun e w'=>RetW (ContentOk k t) w e w':=by
 rcases kinds k with h|rfl|rfl|rfl|rfl|rfl|rfl|rfl|rfl|rfl
 ·exact(fits_no k t w h).mono fun _ _ r=>(r.to (contentOk_no k t h)).toW
 ·exact(fits_1 t w).mono fun _ _ r=>(r.to (contentOk_1 t)).toW
 ·exact(fits_2 t w hm).mono fun _ _ r=>(r.to (contentOk_2 t)).toW
 ·exact(fits_3 t w).mono fun _ _ r=>(r.to (contentOk_3 t)).toW
 ·exact(fits_4 t w hm).mono fun _ _ r=>(r.to (contentOk_4 t)).toW
 ·exact(fits_5 t w hm).mono fun _ _ r=>(r.to (contentOk_5 t)).toW
 ·exact(fits_6 t w).mono fun _ _ r=>(r.to (contentOk_6 t)).toW
 ·exact(fits_7 t w hV).mono fun _ _ r=>r.to (contentOk_7 t)
 ·exact(fits_8 t w hm).mono fun _ _ r=>(r.to (contentOk_8 t)).toW
 ·exact(fits_9 t w hm hD).mono fun _ _ r=>(r.to (contentOk_9 t)).toW
theorem step_calls{P:Program}{ops:Array Oper}{o:Oper}{a:Act}{w:World}{K:Act→World→Prop}{Q:Exit→Act→World→Prop}{E:Prop}(hgd:o.guard=none)(f:FuncId)(args:Array Operand)(tys:Array TypeId)
 (ho:o.op= .call {callee:= .value (.func f),args:=args,argTypes:=tys})(vals:Array Value)(hv:args.map a.eval=vals)(v:Value)(S:World→Prop)
 (hrun:(callFunc f vals).run P w= .ok (.enter f vals) w)
 (hc:Calls P f vals w fun e w'=>e= .returned v∧S w')(hk:∀w',S w'→K (a.put o.dst v) w'):if Region.wanted o (yielded ops a.tmps)=true then Oper.wp P o a w K Q else E:=by
 have hw:Region.wanted o (yielded ops a.tmps)=true:=by simp[Region.wanted,hgd]
 rw[if_pos hw]
 unfold Oper.wp
 simp only[execOp,ho,resolve,invoke]
 simp[Act.eval,Deferred.ofValue,hv,hrun,Oper.upon_enter]
 exact hc.mono fun e w' ⟨h1,h2⟩=>by subst h1;exact hk w' h2
theorem run_enter{P:Program}{f:FuncId}{fn:Func}{c:Code}(hf:P.funcs[f]? =some fn)(hname:(fn.name== "runtime.NumGoroutine")=false)(hb:fn.body=some c)(args:Array Value)(w:World):
 (callFunc f args).run P w= .ok (.enter f args) w:=by
 have h1:fn.name≠ "runtime.NumGoroutine" :=by simpa using hname
 simp[callFunc,hf,h1,hb]
theorem step_callsW{P:Program}{ops:Array Oper}{o:Oper}{a:Act}{w:World}{K:Act→World→Prop}{Q:Exit→Act→World→Prop}{E:Prop}(hw:Region.wanted o (yielded ops a.tmps)=true)(f:FuncId)(args:Array Operand)(tys:Array TypeId)
 (ho:o.op= .call {callee:= .value (.func f),args:=args,argTypes:=tys})(vals:Array Value)(hv:args.map a.eval=vals)(R:Ending→World→Prop)
 (hrun:(callFunc f vals).run P w= .ok (.enter f vals) w)(hc:Calls P f vals w R)(hk:∀e w',R e w'→∃v,e= .returned v∧K (a.put o.dst v) w'):
 if Region.wanted o (yielded ops a.tmps)=true then Oper.wp P o a w K Q else E:=by
 rw[if_pos hw]
 unfold Oper.wp
 simp only[execOp,ho,resolve,invoke]
 simp[Act.eval,Deferred.ofValue,hv,hrun,Oper.upon_enter]
 refine hc.mono fun e w' h=>?_
 obtain⟨v,rfl,h2⟩:=hk e w' h
 exact h2
structure Ext(w:World) where
 v:World
 h:Below w.heap.size w v
theorem ext_ne(w:World):Nonempty (Ext w):=⟨⟨w,Below.refl _ _⟩⟩
theorem Ext.cell{w:World}(x:Ext w){a:Addr}{u:Value}(h:w.cell? a=some u):x.v.cell? a=some u:=(x.h.cell (lt_of_cell h)).trans h
theorem Ext.block{w:World}(x:Ext w){g:Nat}{o:Obj}(h:w.heap[g]? =some o):x.v.heap[g]? =some o:=block_below h x.h
theorem Ext.old{w:World}{o:Obj}(x:Ext (w.alloc o)){a:Addr}{u:Value}(h:w.cell? a=some u):x.v.cell? a=some u:=x.cell ((((Below.refl w.heap.size w).alloc (Nat.le_refl _) o).cell (lt_of_cell h)).trans h)
theorem Ext.bel{w0 w:World}(hb:Below w0.heap.size w0 w)(x:Ext w):Below w0.heap.size w0 x.v:=hb.trans (x.h.mono hb.size)
theorem Ext.far{w0 w:World}(hb:Below w0.heap.size w0 w)(x:Ext w){a:Addr}{u:Value}(h:w0.cell? a=some u):x.v.cell? a=some u:=((Ext.bel hb x).cell (lt_of_cell h)).trans h
theorem Ext.new{w:World}{A:Array Value}{T:TypeId}(x:Ext (w.alloc (.cells A T))){i:Nat}{u:Value}(h:A[i]? =some u):x.v.cell? ⟨w.heap.size,i,none⟩=some u:=x.cell (by have q:=heap_alloc_new w (.cells A T);unfold World.cell?;simp only[q];exact h)
theorem wp_region_ext{P:Program}{id:Nat}{Q:Exit→Act→World→Prop}{a:Act}{w:World}{l:List Oper}(hm:P.follows .mixedOrders=true)(hB:Region.lexB .any l.toArray=true)
 (h:wpQuiet P l.toArray (fun w'=>∃x:Ext w,w'=x.v) (fun a'=>∀w',(∃x:Ext w,w'=x.v)→Q .normal a' w') l a):(Code.region id l.toArray true).wp P Q a w:=
 wp_region_quiet (C:=fun w'=>∃x:Ext w,w'=x.v) hm hB ⟨⟨w.drew,(Below.refl _ _).drew⟩,rfl⟩ (by simpa using h)
theorem nil_ext{P:Program}{ops:Array Oper}{Q:Exit→Act→World→Prop}{a:Act}{w:World}(h:∀w',Below w.heap.size w w'→Q .normal a w'):
 wpQuiet P ops (fun w'=>∃x:Ext w,w'=x.v) (fun a'=>∀w',(∃x:Ext w,w'=x.v)→Q .normal a' w') [] a:=fun _ hx=>by obtain⟨x,rfl⟩:=hx;exact h x.v x.h
theorem Ext.calls{P:Program}{f:FuncId}{args:Array Value}{w:World}{x:Ext w}{v:Value}(h:Calls P f args x.v fun e w'=>e= .returned v∧Below x.v.heap.size x.v w'):
 Calls P f args x.v fun e w''=>e= .returned v∧∃y:Ext w,w''=y.v:=h.mono fun _ w' q=>⟨q.1,⟨w',x.h.trans (q.2.mono x.h.size)⟩,rfl⟩
theorem Ext.callsR{P:Program}{f:FuncId}{args:Array Value}{w:World}{x:Ext w}{R:Prop}{r:Bool}(hr:r=true↔R)(h:Calls P f args x.v fun e w'=>RetO R x.v e w'):
 Calls P f args x.v fun e w''=>e= .returned (.bool r)∧∃y:Ext w,w''=y.v:=h.mono fun _ w' q=>by
 obtain⟨r',rfl,h1,h2⟩:=q
 refine⟨?_,⟨w',x.h.trans (h2.mono x.h.size)⟩,rfl⟩
 have:r'=r:=by
  cases r<;>cases r'
  ·rfl
  ·exact absurd (hr.2 (h1.1 rfl)) (by simp)
  ·exact absurd (h1.2 (hr.1 rfl)) (by simp)
  ·rfl
 rw[this]
theorem bool_of(R:Prop):∃r:Bool,r=true↔R:=by
 by_cases h:R
 ·exact⟨true,by simp[h]⟩
 ·exact⟨false,by simp[h]⟩
structure Vl where
 kind:Int
 text:ByteArray
 alt:Int
 kids:Int
def Vl.cells(v:Vl):List Value:=[.int .i64 v.kind,.string v.text,.int .i64 v.alt,.int .i64 v.kids]
def vcells(l:List Vl):List Value:=l.flatMap Vl.cells
theorem vcells_append(l:List Vl)(v:Vl):vcells (l++[v])=vcells l++v.cells:=by unfold vcells;simp
def rdObj(a:Option Addr)(n c:Nat)(data:ByteArray)(vt:Value)(e p:Int):Obj:= .cells #[.slice a n c,.string data,vt,.int .i64 e,.int .i64 p] 128 (0,0)
structure RdI(W w:World)(R:Nat)(a:Option Addr)(n c:Nat)(data:ByteArray)(tree:List Vl)(e p:Int):Prop where
 bel:Below W.heap.size W w
 lo:W.heap.size≤R
 own:∃vt,w.heap[R]? =some (rdObj a n c data vt e p)∧w.ownsRow W.heap.size 60 4 vt tree.length (vcells tree)
def Fr(R:Nat)(w w':World):Prop:=∀(k:Nat) (A:Array Value) (T:TypeId),k≠R→T≠60→w.heap[k]? =some (.cells A T (0,0))→w'.heap[k]? =some (.cells A T (0,0))
theorem Fr.refl(R:Nat)(w:World):Fr R w w:=fun _ _ _ _ _ h=>h
theorem Fr.trans{R:Nat}{w w1 w2:World}(h1:Fr R w w1)(h2:Fr R w1 w2):Fr R w w2:=fun k A T a b h=>h2 k A T a b (h1 k A T a b h)
theorem Fr.of_below{R:Nat}{w w':World}(h:Below w.heap.size w w'):Fr R w w':=fun _ _ _ _ _ q=>block_below q h
theorem RdI.below{W w w':World}{R:Nat}{a:Option Addr}{n c:Nat}{data:ByteArray}{tree:List Vl}{e p:Int}(h:RdI W w R a n c data tree e p)(hb:Below w.heap.size w w'):RdI W w' R a n c data tree e p where
 bel:=h.bel.trans (hb.mono h.bel.size)
 lo:=h.lo
 own:=by
  obtain⟨vt,h1,h2⟩:=h.own
  exact⟨vt,block_below h1 hb,own_below h2 hb⟩
def Tryz.zeroVal:Value:= .agg #[.int .i64 0,.string ⟨#[]⟩,.int .i64 0,.int .i64 0]
theorem Tryz.infoVal:(Tryz.prog.info? 60).map (fun i=>(i.zero,i.size,i.bytes))=some (some Tryz.zeroVal,4,40):=by kernel_rfl
theorem row_ne{w:World}{R base size n:Nat}{e T:TypeId}{v:Value}{xs:List Value}{A:Array Value}(hg:w.heap[R]? =some (.cells A T (0,0)))(h:w.ownsRow base e size v n xs)(hT:T≠e):v.ownBlock≠some R:=by
 intro hv
 rcases h.2 with⟨h',_⟩|⟨g,cap,cur,h',_,hg',_⟩
 ·subst h';cases hv
 ·subst h'
  obtain rfl:g=R:=by simpa [Value.ownBlock]using hv
  rw[hg]at hg'
  injection hg' with hg'
  injection hg' with _ e _
  exact hT e

theorem hd_ok{r:ByteArray}(h:(hd r).1=0):1≤(hd r).2.s∧0≤(hd r).2.l∧(hd r).2.s+(hd r).2.l≤r.size:=by
 have hr:=rl_bd (r.extract 1 r.size)
 unfold hd at h ⊢
 repeat' split at h
 all_goals first|(exfalso;simp at h;done)|skip
 ·rename_i h1;exfalso;exact h1 h
 ·rename_i h1 h2 h3 h4
  rw[if_neg h1,if_neg h2,if_neg h3,if_neg h4]
  simp only
  omega
def NodeAt(N:Nd)(data:ByteArray)(x y:Nat)(dp:Int)(to:Nat)(u:ByteArray):Prop:=
 dp≤12∧(hd (data.extract x y)).1=0∧(to:Int)=x+(hd (data.extract x y)).2.s+(hd (data.extract x y)).2.l∧
 ((N.tag<0∧(hd (data.extract x y)).2.c=0∧(hd (data.extract x y)).2.n=own N.kind∧(hd (data.extract x y)).2.b=false∧u=data.extract (x+(hd (data.extract x y)).2.s.toNat) to∧ContentOk N.kind u)∨
  (0≤N.tag∧N.mode=0∧(hd (data.extract x y)).2.c=2∧(hd (data.extract x y)).2.n=N.tag∧(hd (data.extract x y)).2.b=false∧u=data.extract (x+(hd (data.extract x y)).2.s.toNat) to∧ContentOk N.kind u)∨
  (0≤N.tag∧N.mode≠0∧(hd (data.extract x y)).2.c=2∧(hd (data.extract x y)).2.n=N.tag∧(hd (data.extract x y)).2.b=true∧
    ∃t,t=data.extract (x+(hd (data.extract x y)).2.s.toNat) to∧(hd t).1=0∧(hd t).2.c=0∧(hd t).2.n=own N.kind∧(hd t).2.b=false∧(x:Int)+(hd (data.extract x y)).2.s+(hd t).2.s+(hd t).2.l=to∧
     u=data.extract (x+(hd (data.extract x y)).2.s.toNat+(hd t).2.s.toNat) to∧ContentOk N.kind u))
end Go.Proofs.YtkkicodfpekbgaaGreatDoor
