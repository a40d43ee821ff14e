/-
Several texts in one.
-/
import Derived.Test.YtkkicodfpekbgaaGreatDoorJa10
import Derived.Test.YtkkicodfpekbgaaGreatDoorJa9
import Derived.Test.YtkkicodfpekbgaaGreatDoorJa5
import Derived.Test.YtkkicodfpekbgaaGreatDoorJa2
import Derived.Test.YtkkicodfpekbgaaGreatDoorJa8
namespace Go.Proofs.YtkkicodfpekbgaaGreatDoor
open Go.RowKit Go.Extern.Stop Go.Stop Go.Extern
set_option linter.unusedSimpArgs false
set_option linter.unusedVariables false
set_option maxRecDepth 100000
set_option maxHeartbeats 8000000
theorem below_row{B g:Nat}{w0 w:World}(hb:Below B w0 w)(hg:B≤g)(cs:Array Value):Below B w0 (w.setRow g cs):=
 ⟨hb.os,hb.tape,hb.output,by simpa [World.setRow]using hb.size,fun k hk=>(setRow_other w g k cs (by omega)).trans (hb.block k hk)⟩
theorem as_nil(t:Value)(w:World):
 Calls Tryz.prog 79 #[.nilIface,t] w fun e w'=>e= .returned (.bool false)∧w'=w:=by
 go_enter Tryz.func79,Tryz.ntmps79
 go_wp2
 go_ret
 exact⟨rfl,rfl⟩
theorem Tryz.valueOfP(t:Addr)(w:World):(ReflectliteValue.unpack (.iface 157 (.pointer (some t)))).run Tryz.prog w
 = .ok (.agg #[.pointer (some ⟨19,157,none⟩),.pointer (some ⟨w.heap.size,0,none⟩),.int .u64 150]) (w.alloc (.cells #[.pointer (some t)] 157)):=by kernel_rfl
theorem Tryz.typeP(a:Addr)(w:World):(ReflectliteValue.methodAny (ReflectliteValue.valueError "reflectlite.Value.Type" 0) (fun t _ _ _=>ReflectliteType.toType t) #[(.agg #[.pointer (some ⟨19,157,none⟩),.pointer (some a),.int .u64 150])]).run Tryz.prog w
 = .ok (.iface 220 (.agg #[.pointer (some ⟨19,157,none⟩)])) w:=by kernel_rfl
theorem Tryz.methodKind(h:Value)(w:World):(Go.method 424 220 (.agg #[h]) "Kind").run Tryz.prog w= .ok (227,h) w:=by kernel_rfl
theorem Tryz.kindP(w:World):((ReflectliteType.abiMethod fun t=>(fun a:Nat=>Value.int IntKind.u8 (a:Int)) <$> Rtype.kind t) #[.pointer (some ⟨19,157,none⟩)]).run Tryz.prog w= .ok (.int .u8 22) w:=by kernel_rfl
theorem Tryz.kindF(w:World):((ReflectliteType.abiMethod fun t=>(fun a:Nat=>Value.int IntKind.u8 (a:Int)) <$> Rtype.kind t) #[.pointer (some ⟨19,155,none⟩)]).run Tryz.prog w= .ok (.int .u8 25) w:=by kernel_rfl
theorem rlm(z:Sem Value)(f:TypeId→Addr→Nat→Nat→Sem Value)(v:Value):
 ReflectliteValue.method z f #[v]=(do match←ReflectliteValue.parts v with|none=>z|some (t,a,fl)=>f t a fl (fl%32)):=rfl
theorem Tryz.partsP(a:Addr)(w:World):(ReflectliteValue.parts (.agg #[.pointer (some ⟨19,157,none⟩),.pointer (some a),.int .u64 150])).run Tryz.prog w= .ok (some (157,a,150)) w:=by kernel_rfl
theorem Tryz.isNilP(a p:Addr)(W:World)(ha:W.cell? a=some (.pointer (some p))):
 (ReflectliteValue.method (ReflectliteValue.valueError "reflectlite.Value.IsNil" 0) ReflectliteValue.isNil #[(.agg #[.pointer (some ⟨19,157,none⟩),.pointer (some a),.int .u64 150])]).run Tryz.prog W= .ok (.bool false) W:=by
 rw[rlm]
 simp only[Sem.run_bind,Tryz.partsP,Result.andThen]
 simp[ReflectliteValue.isNil,loadVar,isAgg,underlying,Tryz.underlying157,ha,Result.andThen]
theorem Tryz.methodElem(h:Value)(w:World):(Go.method 424 220 (.agg #[h]) "Elem").run Tryz.prog w= .ok (238,.agg #[h]) w:=by kernel_rfl
theorem Tryz.methodImplements(h:Value)(w:World):(Go.method 424 220 (.agg #[h]) "Implements").run Tryz.prog w= .ok (239,.agg #[h]) w:=by kernel_rfl
theorem Tryz.methodAssignableTo(h:Value)(w:World):(Go.method 424 220 (.agg #[h]) "AssignableTo").run Tryz.prog w= .ok (236,.agg #[h]) w:=by kernel_rfl
theorem Tryz.elemP(w:World):(ReflectliteType.method ReflectliteType.elem #[.agg #[.pointer (some ⟨19,157,none⟩)]]).run Tryz.prog w= .ok (.iface 220 (.agg #[.pointer (some ⟨19,155,none⟩)])) w:=by kernel_rfl
theorem Tryz.implementsF(w:World):(ReflectliteType.relation "Implements" ReflectliteType.implements_ #[.agg #[.pointer (some ⟨19,155,none⟩)],(.iface 220 (.agg #[.pointer (some ⟨19,85,none⟩)]))]).run Tryz.prog w= .ok (.bool true) w:=by kernel_rfl
theorem Tryz.typeOfF(v:Value)(w:World):(ReflectliteType.typeOf #[.iface 155 v]).run Tryz.prog w= .ok (.iface 220 (.agg #[.pointer (some ⟨19,155,none⟩)])) w:=by kernel_rfl
theorem Tryz.assignableF(w:World):(ReflectliteType.relation "AssignableTo" ReflectliteType.assignableTo #[.agg #[.pointer (some ⟨19,155,none⟩)],(.iface 220 (.agg #[.pointer (some ⟨19,155,none⟩)]))]).run Tryz.prog w= .ok (.bool true) w:=by kernel_rfl
theorem Tryz.valueOfF(p:Int)(u:Value)(w:World):(ReflectliteValue.unpack (.iface 155 (.agg #[.int .i64 p,u]))).run Tryz.prog w
 = .ok (.agg #[.pointer (some ⟨19,155,none⟩),.pointer (some ⟨w.heap.size,0,none⟩),.int .u64 153]) (w.alloc (.cells #[.int .i64 p,u] 155)):=by kernel_rfl
theorem Tryz.elemOfP(w:World):(Rtype.elem? 157).run Tryz.prog w= .ok (some 155) w:=by kernel_rfl
theorem Tryz.mkF(p:Addr)(w:World):(ReflectliteValue.mk 155 p ReflectliteValue.flagAddr).run Tryz.prog w= .ok (.agg #[.pointer (some ⟨19,155,none⟩),.pointer (some p),.int .u64 409]) w:=by kernel_rfl
theorem Tryz.elemVP(a p:Addr)(W:World)(ha:W.cell? a=some (.pointer (some p))):
 (ReflectliteValue.method (ReflectliteValue.valueError "reflectlite.Value.Elem" 0) ReflectliteValue.elem #[(.agg #[.pointer (some ⟨19,157,none⟩),.pointer (some a),.int .u64 150])]).run Tryz.prog W
   = .ok (.agg #[.pointer (some ⟨19,155,none⟩),.pointer (some p),.int .u64 409]) W:=by
 rw[rlm]
 simp only[Sem.run_bind,Tryz.partsP,Result.andThen]
 simp[ReflectliteValue.elem,loadVar,isAgg,underlying,Tryz.underlying157,ha,Result.andThen,Tryz.elemOfP,Tryz.mkF]
theorem Tryz.partsFa(a:Addr)(w:World):(ReflectliteValue.parts (.agg #[.pointer (some ⟨19,155,none⟩),.pointer (some a),.int .u64 409])).run Tryz.prog w= .ok (some (155,a,409)) w:=by kernel_rfl
theorem Tryz.partsF(a:Addr)(w:World):(ReflectliteValue.parts (.agg #[.pointer (some ⟨19,155,none⟩),.pointer (some a),.int .u64 153])).run Tryz.prog w= .ok (some (155,a,153)) w:=by kernel_rfl
theorem Tryz.directF(w:World):(Rtype.directlyAssignable 155 155).run Tryz.prog w= .ok true w:=by kernel_rfl
theorem Tryz.sizeF:(Tryz.prog.info? 155).map (·.size)=some 2:=by kernel_rfl
theorem Tryz.setF(g b:Nat)(p:Int)(u o1 o2:Value)(W:World)(hb:W.heap[b]? =some (.cells #[.int .i64 p,u] 155 (0,0)))(hu1:u.oneCell'=true)(hg:W.heap[g]? =some (.cells #[o1,o2] 155 (0,0))):
 (ReflectliteValue.set #[.agg #[.pointer (some ⟨19,155,none⟩),.pointer (some ⟨g,0,none⟩),.int .u64 409],.agg #[.pointer (some ⟨19,155,none⟩),.pointer (some ⟨b,0,none⟩),.int .u64 153]]).run Tryz.prog W
   = .ok (.tuple #[]) (W.setRow g #[.int .i64 p,u]):=by
 have hl:=run_loadVar_row (P:=Tryz.prog) W b _ 155 _ _ _ hb Tryz.underlying155 rfl Tryz.sizeF
 have hs:=run_storeVar_row (P:=Tryz.prog) W g _ 155 _ #[.int .i64 p,u] hg Tryz.sizeF rfl (by rw[Array.all_eq_true_iff_forall_mem];intro v hv;simp at hv;rcases hv with rfl|rfl;exact rfl;exact hu1)
 have e:ReflectliteValue.set #[.agg #[.pointer (some ⟨19,155,none⟩),.pointer (some ⟨g,0,none⟩),.int .u64 409],.agg #[.pointer (some ⟨19,155,none⟩),.pointer (some ⟨b,0,none⟩),.int .u64 153]]=bind (ReflectliteValue.parts (.agg #[.pointer (some ⟨19,155,none⟩),.pointer (some ⟨g,0,none⟩),.int .u64 409])) (fun p=>bind (ReflectliteValue.parts (.agg #[.pointer (some ⟨19,155,none⟩),.pointer (some ⟨b,0,none⟩),.int .u64 153])) _):=rfl
 rw[e]
 simp only[Sem.run_bind,Tryz.partsFa,Tryz.partsF,Result.andThen]
 simp[ReflectliteValue.flagAddr,hl,Result.andThen,Tryz.directF,hs]
theorem as_hit(p:Int)(u o1 o2:Value)(g:Nat)(w:World)(hu1:u.oneCell'=true)(hg:w.cell? ⟨13,0,none⟩=some (.iface 220 (.agg #[.pointer (some ⟨19,85,none⟩)])))(ht:w.heap[g]? =some (.cells #[o1,o2] 155 (0,0))):
 Calls Tryz.prog 79 #[.iface 155 (.agg #[.int .i64 p,u]),.iface 157 (.pointer (some ⟨g,0,none⟩))] w fun ev w'=>ev= .returned (.bool true)∧Below g w w'∧w'.cell? ⟨g,0,none⟩=some (.int .i64 p):=by
 have h6:= @run_callFunc_extern Tryz.prog 118 _ (fun args=>ReflectliteValue.unpack (args.getD 0 (.tuple #[]))) Tryz.func118 (by kernel_rfl) (by kernel_rfl) (by kernel_rfl) (by kernel_rfl)
 have h7:= @run_callFunc_extern Tryz.prog 119 _ (ReflectliteValue.methodAny (ReflectliteValue.valueError "reflectlite.Value.Type" 0) (fun t _ _ _=>ReflectliteType.toType t)) Tryz.func119 (by kernel_rfl) (by kernel_rfl) (by kernel_rfl) (by kernel_rfl)
 have h8:= @run_callFunc_extern Tryz.prog 120 _ (ReflectliteValue.method (ReflectliteValue.valueError "reflectlite.Value.IsNil" 0) ReflectliteValue.isNil) Tryz.func120 (by kernel_rfl) (by kernel_rfl) (by kernel_rfl) (by kernel_rfl)
 have h27:= @run_callFunc_extern Tryz.prog 227 _ (ReflectliteType.abiMethod fun t=>do pure (.int .u8 (←Rtype.kind t))) Tryz.func227 (by kernel_rfl) (by kernel_rfl) (by kernel_rfl) (by kernel_rfl)
 have h37:= @run_callFunc_extern Tryz.prog 238 _ (ReflectliteType.method ReflectliteType.elem) Tryz.func238 (by kernel_rfl) (by kernel_rfl) (by kernel_rfl) (by kernel_rfl)
 have h38:= @run_callFunc_extern Tryz.prog 239 _ (ReflectliteType.relation "Implements" ReflectliteType.implements_) Tryz.func239 (by kernel_rfl) (by kernel_rfl) (by kernel_rfl) (by kernel_rfl)
 have h10:= @run_callFunc_extern Tryz.prog 90 _ ReflectliteType.typeOf Tryz.func90 (by kernel_rfl) (by kernel_rfl) (by kernel_rfl) (by kernel_rfl)
 have h35:= @run_callFunc_extern Tryz.prog 236 _ (ReflectliteType.relation "AssignableTo" ReflectliteType.assignableTo) Tryz.func236 (by kernel_rfl) (by kernel_rfl) (by kernel_rfl) (by kernel_rfl)
 have h11:= @run_callFunc_extern Tryz.prog 164 _ (ReflectliteValue.method (ReflectliteValue.valueError "reflectlite.Value.Elem" 0) ReflectliteValue.elem) Tryz.func164 (by kernel_rfl) (by kernel_rfl) (by kernel_rfl) (by kernel_rfl)
 have h12:= @run_callFunc_extern Tryz.prog 165 _ ReflectliteValue.set Tryz.func165 (by kernel_rfl) (by kernel_rfl) (by kernel_rfl) (by kernel_rfl)
 have tO:=Tryz.typeOfF
 have mA:=Tryz.methodAssignableTo
 have aF:=Tryz.assignableF
 have vF:=Tryz.valueOfF p u
 have f6:=Tryz.valueOfP
 have f7:=Tryz.typeP
 have mK:=Tryz.methodKind
 have mE:=Tryz.methodElem
 have mI:=Tryz.methodImplements
 have kP:=Tryz.kindP
 have kF:=Tryz.kindF
 have eP:=Tryz.elemP
 have iF:=Tryz.implementsF
 have hgl:g<w.heap.size:=row_lt ht
 have hlt:13<w.heap.size:=lt_of_cell hg
 have htl:(⟨g,0,none⟩:Addr).block<w.heap.size:=hgl
 have n8:=Tryz.isNilP ⟨w.heap.size,0,none⟩ ⟨g,0,none⟩ ((w.alloc (.cells #[.pointer (some ⟨g,0,none⟩)] 157)).alloc (.cells #[.pointer (some ⟨19,157,none⟩),.pointer (some ⟨w.heap.size,0,none⟩),.int .u64 150] 203)) (by simp)
 have hg2:((w.alloc (.cells #[.pointer (some ⟨g,0,none⟩)] 157)).alloc (.cells #[.pointer (some ⟨19,157,none⟩),.pointer (some ⟨w.heap.size,0,none⟩),.int .u64 150] 203)).cell? ⟨13,0,none⟩=some (.iface 220 (.agg #[.pointer (some ⟨19,85,none⟩)])):=by
  rw[World.cell?_alloc_lt _ _ ⟨13,0,none⟩ (by simp;omega),World.cell?_alloc_lt _ _ ⟨13,0,none⟩ hlt];exact hg
 have el:=Tryz.elemVP ⟨w.heap.size,0,none⟩ ⟨g,0,none⟩ (((w.alloc (.cells #[.pointer (some ⟨g,0,none⟩)] 157)).alloc (.cells #[.pointer (some ⟨19,157,none⟩),.pointer (some ⟨w.heap.size,0,none⟩),.int .u64 150] 203)).alloc (.cells #[.pointer (some ⟨19,157,none⟩),.pointer (some ⟨w.heap.size,0,none⟩),.int .u64 150] 203)) (by rw[World.cell?_alloc_lt _ _ ⟨w.heap.size,0,none⟩ (by simp;omega)];simp)
 have hold:((((w.alloc (.cells #[.pointer (some ⟨g,0,none⟩)] 157)).alloc (.cells #[.pointer (some ⟨19,157,none⟩),.pointer (some ⟨w.heap.size,0,none⟩),.int .u64 150] 203)).alloc (.cells #[.pointer (some ⟨19,157,none⟩),.pointer (some ⟨w.heap.size,0,none⟩),.int .u64 150] 203)).alloc (.cells #[.int .i64 p,u] 155)).heap[g]? =some (.cells #[o1,o2] 155 (0,0)):=by
  rw[Below.heap_alloc _ _ _ (by simp;omega),Below.heap_alloc _ _ _ (by simp;omega),Below.heap_alloc _ _ _ (by simp;omega),Below.heap_alloc _ _ _ hgl];exact ht
 have st:=Tryz.setF g (w.heap.size+1+1+1) p u o1 o2 ((((w.alloc (.cells #[.pointer (some ⟨g,0,none⟩)] 157)).alloc (.cells #[.pointer (some ⟨19,157,none⟩),.pointer (some ⟨w.heap.size,0,none⟩),.int .u64 150] 203)).alloc (.cells #[.pointer (some ⟨19,157,none⟩),.pointer (some ⟨w.heap.size,0,none⟩),.int .u64 150] 203)).alloc (.cells #[.int .i64 p,u] 155))
  (by have:=heap_alloc_new (((w.alloc (.cells #[.pointer (some ⟨g,0,none⟩)] 157)).alloc (.cells #[.pointer (some ⟨19,157,none⟩),.pointer (some ⟨w.heap.size,0,none⟩),.int .u64 150] 203)).alloc (.cells #[.pointer (some ⟨19,157,none⟩),.pointer (some ⟨w.heap.size,0,none⟩),.int .u64 150] 203)) (.cells #[.int .i64 p,u] 155);simpa using this) hu1 hold
 have HOLD:=hide hold
 clear hold ht hu1
 go_enter Tryz.func79,Tryz.ntmps79
 go_wp2
 refine wp_loop_rounds 1 ?_
 rw[rounds_succ]
 go_wp2
 go_ret
 refine⟨rfl,below_row ?_ (Nat.le_refl g) _,?_⟩
 ·exact((((Below.refl g w).alloc (by omega) _).alloc (by simp;omega) _).alloc (by simp;omega) _).alloc (by simp;omega) _
 ·rw[cell_setRow_same _ _ _ _ _ _ _ HOLD.out];rfl
theorem place_nil(w:World):Calls Tryz.prog 48 #[.nilIface] w fun e w'=>e= .returned (.int .i64 0)∧Below w.heap.size w w':=by
 have HA:=as_nil
 go_enter Tryz.func48,Tryz.ntmps48
 go_wp2_with fail
 refine(HA _ _).mono ?_
 rintro e w1 ⟨rfl,rfl⟩
 go_wp2
 go_ret
 exact⟨rfl,(Below.refl _ _).alloc (Nat.le_refl _) _⟩
theorem place_at(p:Int)(u:Value)(w:World)(hu1:u.oneCell'=true)(hg:w.cell? ⟨13,0,none⟩=some (.iface 220 (.agg #[.pointer (some ⟨19,85,none⟩)]))):Calls Tryz.prog 48 #[faultV p u] w fun e w'=>e= .returned (.int .i64 p)∧Below w.heap.size w w':=by
 have hlt:13<w.heap.size:=lt_of_cell hg
 have HA:Hid (∀o1 o2,Calls Tryz.prog 79 #[.iface 155 (.agg #[.int .i64 p,u]),.iface 157 (.pointer (some ⟨w.heap.size,0,none⟩))] (w.alloc (.cells #[o1,o2] 155)) fun ev w'=>ev= .returned (.bool true)∧Below w.heap.size (w.alloc (.cells #[o1,o2] 155)) w'∧w'.cell? ⟨w.heap.size,0,none⟩=some (.int .i64 p)):=fun o1 o2=>as_hit p u o1 o2 w.heap.size _ hu1 (by rw[World.cell?_alloc_lt _ _ ⟨13,0,none⟩ hlt];exact hg) (heap_alloc_new w _)
 unfold faultV
 clear hg hu1
 go_enter Tryz.func48,Tryz.ntmps48
 go_wp2_with fail
 refine(HA.out _ _).mono ?_
 rintro e w1 ⟨rfl,hb1,hc1⟩
 have HB1:Hid (Below w.heap.size w w1):=((Below.refl _ _).alloc (Nat.le_refl _) _).trans hb1
 have hl1:=lt_of_cell hc1
 simp only at hl1
 clear hb1
 go_wp2
 go_ret
 exact⟨rfl,HB1.out⟩
end Go.Proofs.YtkkicodfpekbgaaGreatDoor
namespace Go.Proofs.YtkkicodfpekbgaaGreatDoor
open Go.RowKit
set_option linter.unusedSimpArgs false
set_option linter.unusedVariables false
set_option maxRecDepth 100000
set_option maxHeartbeats 8000000
def EtC(w:World):Prop:=w.cell? ⟨13,0,none⟩=some (.iface 220 (.agg #[.pointer (some ⟨19,85,none⟩)]))
theorem EtC.below{w w':World}(h:EtC w)(hb:Below w.heap.size w w'):EtC w':=(hb.cell (lt_of_cell h)).trans h
theorem decode_any(E:Env)(s:List Nd)(a:Option Addr)(c:Nat)(root:Int)(d:ByteArray)(v:Except (Int×Int) (List Vl))(w:World)(sn:Sn→Addr)(za:Addr)(hl:Lay w sn)(hz:LayZ w sn za)(het:EtC w)(hs:Sch w a s)(hok:SchOk s)(hn0:s.length≤140737488351232)(hdm:d.size≤9223372036854775807)(hv:DecV E s root d v):
 Calls Tryz.prog 23 #[.slice a s.length c,.int .i64 root,.string d] w fun e w'=>RetDec v w e w':=by
 have HT:=hide (tree_any E s a c root d v w sn za hl hz hs hok hn0 hdm hv)
 have HL:=hide hl
 have HZ:=hide hz
 have HP:Hid (∀p u wq,u.oneCell'=true→Below w.heap.size w wq→Calls Tryz.prog 48 #[.iface 155 (.agg #[.int .i64 p,u])] wq fun e w'=>e= .returned (.int .i64 p)∧Below w.heap.size w w'):=fun p u wq h1 hq=>(place_at p u wq h1 (het.below hq)).mono fun e w' h=>⟨h.1,hq.trans (h.2.mono hq.size)⟩
 have HPN:Hid (∀wq,Calls Tryz.prog 48 #[.nilIface] wq fun e w'=>e= .returned (.int .i64 0)∧Below wq.heap.size wq w'):=fun wq=>place_nil wq
 have HNN:Hid (∀wq,Calls Tryz.prog 34 #[.nilIface] wq fun e w'=>e= .returned (.int .i64 0)∧w'=wq):=fun wq=>number_nil wq
 clear hl hz het hs hok hv
 go_enter Tryz.func23,Tryz.ntmps23
 go_wp2_with fail
 refine HT.out.mono ?_
 rintro e w1 ⟨hb1,h1⟩
 have HB1:=hide hb1
 clear hb1
 rcases h1 with⟨vs,ta,tc,hvv,rfl,ho⟩|⟨p,hvv,rfl⟩|⟨hvv,rfl⟩|⟨k,q,hvv,hk1,hk2,rfl⟩
 ·have HO:=hide ho
  have HVV:=hide hvv
  clear ho hvv
  go_wp2_with fail
  refine(HPN.out _).mono ?_
  rintro e w2 ⟨rfl,hb2⟩
  have HB2:Hid (Below w.heap.size w w2):=HB1.out.trans (hb2.mono HB1.out.size)
  have HO2:Hid (w2.ownsRow w.heap.size 60 4 (.slice ta vs.length tc) vs.length (vcells vs)):=own_below HO.out hb2
  clear hb2
  go_wp2_with fail
  refine(HNN.out _).mono ?_
  rintro e w3 ⟨rfl,rfl⟩
  go_wp2
  refine bodyPost_ret (v:= .tuple #[.slice ta vs.length tc,.int .i64 0,.int .i64 0]) (by simp[results,Tryz.results23,go_sem]) rfl ?_
  rw[HVV.out]
  exact⟨HB2.out,ta,tc,rfl,HO2.out⟩
 ·have HVV:=hide hvv
  have HN:Hid (∀wq,Below w.heap.size w wq→Calls Tryz.prog 34 #[faultV 0 (fault p za)] wq fun e w'=>e= .returned (.int .i64 1)∧Below w.heap.size w w'):=fun wq hq=>(number_two 0 p za wq sn (HL.out.below hq).s (HZ.out.below hq)).mono fun e w' h=>⟨h.1,hq.trans (h.2.mono hq.size)⟩
  unfold faultV fault at HN ⊢
  clear hvv
  go_wp2_with fail
  refine(HP.out _ _ _ rfl HB1.out).mono ?_
  rintro e w2 ⟨rfl,hb2⟩
  have HB2:=hide hb2
  clear hb2
  go_wp2_with fail
  refine(HN.out _ HB2.out).mono ?_
  rintro e w3 ⟨rfl,hb3⟩
  have HB3:=hide hb3
  clear hb3
  go_wp2
  refine bodyPost_ret (v:= .tuple #[.slice none 0 0,.int .i64 0,.int .i64 1]) (by simp[results,Tryz.results23,go_sem]) rfl ?_
  rw[HVV.out]
  exact⟨HB3.out,rfl⟩
 ·have HVV:=hide hvv
  have HN:Hid (∀wq,Below w.heap.size w wq→Calls Tryz.prog 34 #[fault 0 za] wq fun e w'=>e= .returned (.int .i64 1)∧Below w.heap.size w w'):=fun wq hq=>by
   have h:=number_at 0 za wq sn (HL.out.below hq).s (HZ.out.below hq).r
   rw[nm_none (fun s q=>HZ.out.d s q.symm)]at h
   exact h.mono fun e w' h=>⟨h.1,hq.trans (h.2.mono hq.size)⟩
  unfold fault at HN ⊢
  clear hvv
  go_wp2_with fail
  refine(HP.out _ _ _ rfl HB1.out).mono ?_
  rintro e w2 ⟨rfl,hb2⟩
  have HB2:=hide hb2
  clear hb2
  go_wp2_with fail
  refine(HN.out _ HB2.out).mono ?_
  rintro e w3 ⟨rfl,hb3⟩
  have HB3:=hide hb3
  clear hb3
  go_wp2
  refine bodyPost_ret (v:= .tuple #[.slice none 0 0,.int .i64 0,.int .i64 1]) (by simp[results,Tryz.results23,go_sem]) rfl ?_
  rw[HVV.out]
  exact⟨HB3.out,rfl⟩
 ·have HVV:=hide hvv
  have HN:Hid (∀wq,Below w.heap.size w wq→Calls Tryz.prog 34 #[fault q (sn (snE k))] wq fun e w'=>e= .returned (.int .i64 k)∧Below w.heap.size w w'):=fun wq hq=>by
   have h:=number_sn q (snE k) wq sn (HL.out.below hq).s
   rw[snE_code k hk1 hk2]at h
   exact h.mono fun e w' h=>⟨h.1,hq.trans (h.2.mono hq.size)⟩
  unfold fault at HN ⊢
  generalize sn (snE k)=ak at HN
  clear hvv
  go_wp2_with fail
  refine(HP.out _ _ _ rfl HB1.out).mono ?_
  rintro e w2 ⟨rfl,hb2⟩
  have HB2:=hide hb2
  clear hb2
  go_wp2_with fail
  refine(HN.out _ HB2.out).mono ?_
  rintro e w3 ⟨rfl,hb3⟩
  have HB3:=hide hb3
  clear hb3
  go_wp2
  refine bodyPost_ret (v:= .tuple #[.slice none 0 0,.int .i64 q,.int .i64 k]) (by simp[results,Tryz.results23,go_sem]) rfl ?_
  rw[HVV.out]
  exact⟨HB3.out,rfl⟩
def RetC(s:List Nd)(w:World)(e:Ending)(w':World):Prop:=Below w.heap.size w w'∧((e= .returned (.int .i64 0)∧RightP s)∨(e= .returned (.int .i64 1)∧¬RightP s))
theorem nm_za{sn:Sn→Addr}{za:Addr}(h:∀s:Sn,sn s≠za):nm sn za=1:=by
 unfold nm
 simp[fun s=>(h s).symm]
theorem hcheck_any(s:List Nd)(a:Option Addr)(c:Nat)(w:World)(sn:Sn→Addr)(za:Addr)(hl:Lay w sn)(hz:LayZ w sn za)(hs:Sch w a s)(hok:SchOk s)(hn0:s.length≤140737488351232):
 Calls Tryz.prog 14 #[.slice a s.length c] w fun e w'=>RetC s w e w':=by
 have HC:Hid (Calls Tryz.prog 35 #[.slice a s.length c] w fun e w'=>RetK s za w e w'):=check_any s a c w sn za hl hz hs hok hn0
 have HN:Hid (∀(p:Int) (wq:World),Below w.heap.size w wq→Calls Tryz.prog 34 #[fault p za] wq fun e w'=>e= .returned (.int .i64 1)∧Below wq.heap.size wq w'):=fun p wq q=>by
  have:=number_at p za wq sn (hl.below q).s (hz.below q).r
  rw[nm_za hz.d]at this
  exact this
 have H0:Hid (∀wq,Calls Tryz.prog 34 #[.nilIface] wq fun e w'=>e= .returned (.int .i64 0)∧w'=wq):=fun wq=>number_nil wq
 clear hl hz hs hok
 go_enter Tryz.func14,Tryz.ntmps14
 go_wp2_with fail
 refine HC.out.mono ?_
 rintro e w1 ⟨hb1,h1⟩
 have HB1:Hid (Below w.heap.size w w1):=hb1
 clear hb1
 rcases h1 with⟨rfl,hr⟩|⟨⟨p,rfl⟩,hr⟩
 ·have HR:Hid (RightP s):=hr
  clear hr
  go_wp2_with fail
  refine(H0.out _).mono ?_
  rintro e w2 ⟨rfl,rfl⟩
  go_wp2
  go_ret
  exact⟨HB1.out,.inl ⟨rfl,HR.out⟩⟩
 ·have HR:Hid (¬RightP s):=hr
  have HN2:=HN.out p w1 HB1.out
  have HN3:Hid (Calls Tryz.prog 34 #[fault p za] w1 fun e w'=>e= .returned (.int .i64 1)∧Below w1.heap.size w1 w'):=HN2
  unfold fault at HN3 ⊢
  clear hr HN2
  go_wp2_with fail
  refine HN3.out.mono ?_
  rintro e w2 ⟨rfl,hb2⟩
  have HB2:Hid (Below w.heap.size w w2):=HB1.out.trans (hb2.mono HB1.out.size)
  clear hb2
  go_wp2
  go_ret
  exact⟨HB2.out,.inr ⟨rfl,HR.out⟩⟩
theorem plan_below{w w':World}{na ta:Option Addr}{nl tl:Nat}(h:PlanIn w na ta nl tl)(hb:Below w.heap.size w w'):PlanIn w' na ta nl tl where
 num:=fun i hi=>by
  obtain⟨b,o,z,e,q,z0,z1⟩:=h.num i hi
  exact⟨b,o,z,e,(hb.cell (lt_of_cell q)).trans q,z0,z1⟩
 txt:=fun i hi=>by
  obtain⟨b,o,z,e,q,z1⟩:=h.txt i hi
  exact⟨b,o,z,e,(hb.cell (lt_of_cell q)).trans q,z1⟩
 nle:=h.nle
 tle:=h.tle
theorem pz_of_vok{t:List Vl}(ho:VOk t):∀x,x≤t.length→pz t x≤86*x
 |0,_=>Nat.le_refl _
 |x+1,hx=>by
  rw[pz_succ (by omega)]
  have h1:=pz_of_vok ho x (by omega)
  have h2:(vl t x).text.size≤76:=by
   have hm:vl t x∈t:=by unfold vl;rw[List.getD_eq_getElem?_getD,List.getElem?_eq_getElem (by omega)];exact List.getElem_mem _
   exact(ho _ hm).1
  omega
theorem vl_kids{t:List Vl}(ho:VOk t):∀j,j<t.length→(vl t j).kids≤9223372036854775807:=fun j hj=>by
 have hm:vl t j∈t:=by unfold vl;rw[List.getD_eq_getElem?_getD,List.getElem?_eq_getElem hj];exact List.getElem_mem _
 have:=(ho _ hm).2
 omega
theorem Built.below{w w1 w2:World}{s:List Nd}{sa:Option Addr}{t:List Vl}{ta:Option Addr}{tc:Nat}(h:Built w w1 s sa t ta tc)(hb:Below w1.heap.size w1 w2):Built w w2 s sa t ta tc:=
 ⟨h.bel.trans (hb.mono h.bel.size),h.sch.below hb,h.ok,h.right,h.tree.below hb,h.cap,h.val,h.vok,h.len⟩
theorem round_any(w:World)(na ta:Option Addr)(nl nc tl tc:Nat)(at0:Int)(behind:ByteArray)(hp:PlanIn w na ta nl tl)(ha0: -9223372036854775808≤at0)(ha1:at0≤9223372036854775807)(hbh:behind.size≤140737488355328)(sn:Sn→Addr)(za:Addr)(hl:Lay w sn)(hz:LayZ w sn za)(het:EtC w):
 Calls Tryz.prog 6 #[.agg #[.slice na nl nc,.slice ta tl tc],.int .i64 at0,.string behind] w fun e w'=>e= .returned (.bool true)∧Below w.heap.size w w':=by
 have HL:=hideq hl
 have HZ:=hideq hz
 have HE:=hideq het
 have HBU:Hid (∀wq,Below w.heap.size w wq→Calls Tryz.prog 21 #[.agg #[.slice na nl nc,.slice ta tl tc]] wq fun e w'=>∃s sa sc t la lc,e= .returned (.tuple #[.slice sa (s:List Nd).length sc,.slice la (t:List Vl).length lc])∧Built wq w' s sa t la lc):=fun wq q=>build_any wq na ta nl nc tl tc (plan_below hp q)
 have HPK:Hid (∀(n:Int) wq,0<n→n≤9223372036854775807→Calls Tryz.prog 25 #[.int .i64 at0,.int .i64 n] wq fun e w'=>e= .returned (.int .i64 (pk at0 n))∧wq=w'):=fun n wq h1 h2=>pick_any at0 n wq ha0 ha1 h1 h2
 clear hl hz het hp ha0 ha1
 go_enter Tryz.func6,Tryz.ntmps6
 go_wp2_with fail
 refine(HBU.out _ ((Below.refl _ _).alloc (Nat.le_refl _) _)).mono ?_
 rintro e w1 ⟨s,sa,sc,t,la,lc,rfl,hB1⟩
 have HB1:=hideq hB1
 have HBW1:Hid (Below w.heap.size w w1):=((Below.refl _ _).alloc (Nat.le_refl _) _).trans (hB1.bel.mono (by simp))
 obtain⟨F,b,v,hF,hv⟩:=round_math hB1.right hB1.val hB1.vok hB1.len
 have hpz:pz t t.length≤16777000:=by have:=pz_of_vok hB1.vok t.length (Nat.le_refl _);have:=hB1.len;omega
 have hs40:s.length≤140737488351232:=by have:=hB1.right.2.1;omega
 have ht121:t.length≤121:=hB1.len
 have HCK:Hid (∀wq,Below w1.heap.size w1 wq→Calls Tryz.prog 14 #[.slice sa s.length sc] wq fun e w'=>e= .returned (.int .i64 0)∧Below w1.heap.size w1 w'):=fun wq q=>
  (hcheck_any s sa sc wq sn za ((HL.out.below HBW1.out).below q) ((HZ.out.below HBW1.out).below q) (HB1.out.sch.below q) HB1.out.ok hs40).mono fun e w' h=>by
    obtain⟨h1,⟨h2,_⟩|⟨_,h2⟩⟩:=h
    ·exact⟨h2,q.trans (h1.mono q.size)⟩
    ·exact absurd HB1.out.right h2
 have HEN:Hid (∀wq,Below w1.heap.size w1 wq→Calls Tryz.prog 22 #[.slice sa s.length sc,.int .i64 0,.slice la t.length lc] wq fun e w'=>RetEnc v wq e w'):=fun wq q=>
  encode_any F s sa sc 0 t la lc v wq sn za ((HL.out.below HBW1.out).below q) ((HZ.out.below HBW1.out).below q) (HB1.out.sch.below q) HB1.out.ok hs40 (HB1.out.below q).tree HB1.out.cap (Sz.of_pz hpz) (vl_kids HB1.out.vok) hF
 have HDE:Hid (∀E d x wq,Below w1.heap.size w1 wq→d.size≤9223372036854775807→DecV E s 0 d x→Calls Tryz.prog 23 #[.slice sa s.length sc,.int .i64 0,.string d] wq fun e w'=>RetDec x wq e w'):=fun E d x wq q hd h=>
  decode_any E s sa sc 0 d x wq sn za ((HL.out.below HBW1.out).below q) ((HZ.out.below HBW1.out).below q) ((HE.out.below HBW1.out).below q) (HB1.out.sch.below q) HB1.out.ok hs40 hd h
 have HSM:Hid (∀wq qa qc,Below w1.heap.size w1 wq→ValIn wq qa t→Calls Tryz.prog 24 #[.slice qa t.length qc,.slice la t.length lc] wq fun e w'=>e= .returned (.bool true)∧Below w1.heap.size w1 w'):=fun wq qa qc q h=>
  (ksame_any t qa la qc lc wq h (HB1.out.below q).tree (by omega)).mono fun e w' h=>⟨h.1,q.trans (h.2.mono q.size)⟩
 have HV:=hideq hv
 clear hB1 hF hv hpz HBU HL HZ HE HB1
 have HR1:Hid (Below w1.heap.size w1 w1):=Below.refl _ _
 go_wp2_with fail
 refine(HCK.out _ HR1.out).mono ?_
 rintro e w2 ⟨rfl,hb2⟩
 have HB2:=hideq hb2
 clear hb2
 go_wp2_with fail
 refine(HEN.out _ HB2.out).mono ?_
 rintro e w3 ⟨hb3,h3⟩
 have HB3:Hid (Below w1.heap.size w1 w3):=HB2.out.trans (hb3.mono HB2.out.size)
 clear hb3
 rcases HV.out with⟨hve,h30⟩|⟨hve,hb1,hb4,hdec,hpre,hmore⟩
 ·subst hve
  have h3':e= .returned (.tuple #[.string ⟨#[]⟩,.int .i64 2]):=h3
  subst h3'
  have h30':(30:Int)<t.length:=by omega
  clear h3 HV HCK HEN HDE HSM
  go_wp2
  go_ret
  exact⟨rfl,HBW1.out.trans (HB3.out.mono HBW1.out.size)⟩
 ·subst hve
  have h3':e= .returned (.tuple #[.string b,.int .i64 0]):=h3
  subst h3'
  obtain⟨E1,hd1⟩:=hdec
  have HD1:=hideq (HDE.out E1 b _ w3 HB3.out (by omega) hd1)
  have HPR:=hideq hpre
  have HMO:=hideq hmore
  clear h3 HV HCK HEN hd1 hpre hmore
  go_wp2_with fail
  refine HD1.out.mono ?_
  rintro e w4 ⟨hb4w,qa,qc,rfl,ho4⟩
  have HB4:Hid (Below w1.heap.size w1 w4):=HB3.out.trans (hb4w.mono HB3.out.size)
  have HV4:Hid (ValIn w4 qa t):=ValIn.of_own ho4
  have hbne:(b.toList.isEmpty)=false:=by
   cases hq:b.toList.isEmpty
   ·rfl
   ·have:=(empty_iff b).1 hq;omega
  have hpk:=pk_bd at0 b.size (by omega)
  have HBI:Hid (1≤b.size∧b.size≤4000):=⟨hb1,hb4⟩
  clear hb4w ho4 HD1
  go_wp2_with fail
  refine(HSM.out _ _ _ HB4.out HV4.out).mono ?_
  rintro e w5 ⟨rfl,hb5⟩
  have HB5:=hideq hb5
  clear hb5 HSM HV4
  go_wp2_with fail
  refine(HPK.out b.size _ (by omega) (by omega)).mono ?_
  rintro e w5' ⟨rfl,hw5⟩
  obtain rfl:w5=w5':=hw5
  obtain⟨hp0,hp1⟩:=hpk
  obtain⟨k,hk⟩:=Int.eq_ofNat_of_zero_le hp0
  rw[hk]at hp1 ⊢
  have hkb:k<b.size:=by have q:(k:Int)<b.size:=hp1;omega
  have hkb':(k:Int)≤b.size:=by omega
  obtain⟨E2,hd2⟩:=HPR.out k hkb
  have HD2:=hideq (HDE.out E2 (b.extract 0 k) _ w5 HB5.out (by rw[ex_size];omega) hd2)
  clear hd2 hk hp0 hp1 HPK HPR
  go_wp2_with fail
  refine HD2.out.mono ?_
  rintro e w6 ⟨hb6,he6⟩
  have he6':e= .returned (.tuple #[.slice none 0 0,.int .i64 0,.int .i64 3]):=he6
  subst he6'
  have HB6:Hid (Below w1.heap.size w1 w6):=HB5.out.trans (hb6.mono HB5.out.size)
  clear hb6 he6 HD2
  have hsz1:¬9223372036854775807<b.size+behind.size:=by omega
  have hsz2:¬9223372036854775807<b.size+behind.size+1:=by omega
  rcases HMO.out (behind++⟨#[0]⟩) (by rw[ByteArray.size_append];show 1≤_+1;omega)with⟨E3,hd3,hlg⟩|⟨E3,hd3⟩
  ·rw[←ByteArray.append_assoc]at hd3 hlg
   have HD3:=hideq (HDE.out E3 (b++behind++⟨#[0]⟩) _ w6 HB6.out (by rw[ByteArray.size_append,ByteArray.size_append];show _+_+1≤_;omega) hd3)
   clear hd3 HMO HDE
   go_wp2_with fail
   refine HD3.out.mono ?_
   rintro e w7 ⟨hb7,he7⟩
   have he7':e= .returned (.tuple #[.slice none 0 0,.int .i64 0,.int .i64 2]):=he7
   subst he7'
   have HB7:Hid (Below w1.heap.size w1 w7):=HB6.out.trans (hb7.mono HB6.out.size)
   rw[ByteArray.size_append,ByteArray.size_append]at hlg
   have hlg':(4000:Int)<((b.size+behind.size+1:Nat):Int):=by
    have q:4000<b.size+behind.size+1:=hlg
    omega
   have hlt:(4000:Int)<(b.size:Int)+behind.size+1:=by omega
   clear hb7 he7 HD3 hlg hlg'
   go_wp2
   go_ret
   exact⟨rfl,HBW1.out.trans (HB7.out.mono HBW1.out.size)⟩
  ·rw[←ByteArray.append_assoc]at hd3
   have HD3:=hideq (HDE.out E3 (b++behind++⟨#[0]⟩) _ w6 HB6.out (by rw[ByteArray.size_append,ByteArray.size_append];show _+_+1≤_;omega) hd3)
   clear hd3 HMO HDE
   go_wp2_with fail
   refine HD3.out.mono ?_
   rintro e w7 ⟨hb7,he7⟩
   have he7':e= .returned (.tuple #[.slice none 0 0,.int .i64 (b.size:Nat),.int .i64 7]):=he7
   subst he7'
   have HB7:Hid (Below w1.heap.size w1 w7):=HB6.out.trans (hb7.mono HB6.out.size)
   clear hb7 he7 HD3
   go_wp2
   go_ret
   exact⟨rfl,HBW1.out.trans (HB7.out.mono HBW1.out.size)⟩
end Go.Proofs.YtkkicodfpekbgaaGreatDoor
