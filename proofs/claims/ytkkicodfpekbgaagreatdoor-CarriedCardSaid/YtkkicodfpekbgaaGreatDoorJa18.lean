/-
Several texts in one.
-/
import Derived.Test.YtkkicodfpekbgaaGreatDoorJa17
import Derived.Test.YtkkicodfpekbgaaGreatDoorJa12
import Derived.Test.YtkkicodfpekbgaaGreatDoorJa16
import Derived.Test.YtkkicodfpekbgaaGreatDoorJa11
import Derived.Test.YtkkicodfpekbgaaGreatDoorJa8
import Derived.Test.YtkkicodfpekbgaaGreatDoorJa0
namespace Go.Proofs.YtkkicodfpekbgaaGreatDoor
open Go.RowKit
set_option linter.unusedSimpArgs false
set_option linter.unusedVariables false
set_option maxRecDepth 100000
set_option maxHeartbeats 8000000
theorem want_1{x:Int}(h:x<192):want x=0:=by unfold want;rw[if_neg (by omega),if_neg (by omega),if_neg (by omega)]
theorem want_2{x:Int}(h:192≤x)(h':x<224):want x=1:=by unfold want;rw[if_neg (by omega),if_neg (by omega),if_pos h]
theorem want_3{x:Int}(h:224≤x)(h':x<240):want x=2:=by unfold want;rw[if_neg (by omega),if_pos h]
theorem want_4{x:Int}(h:240≤x):want x=3:=by unfold want;rw[if_pos h]
theorem whole_of{p:ByteArray}{j i:Nat}(hj:j<p.size)(hi:i=p.size-1-j)(hc:∀i,i<j→cont (b8 p (p.size-1-i)))(hn:¬cont (b8 p i)){k:Nat}(hw:want (b8 p i)=k)(h:j=k):Whole p:=by
 subst hi
 exact⟨j,Nat.le_of_lt hj,hc,fun q=>absurd q (by omega),fun _=>⟨hn,by rw[hw];exact h⟩⟩
def RetU(p:ByteArray)(e:Ending):Prop:=∃r:Bool,e= .returned (.bool r)∧(r=true→Whole p)
theorem utf_any(p:ByteArray)(w:World)(hm:p.size≤9223372036854775807):
 Calls Tryz.prog 30 #[.string p] w fun e w'=>RetU p e∧w'=w:=by
 go_enter Tryz.func30,Tryz.ntmps30
 go_wp2_with fail
 go_loop [3] (fun v=>∃j:Nat,j≤p.size∧v= .int .i64 j∧∀i,i<j→cont (b8 p (p.size-1-i))) (fun v=>p.size-(intOf v).toNat)
 case atStart=>exact⟨0,Nat.zero_le _,rfl,fun i hi=>absurd hi (Nat.not_lt_zero _)⟩
 case round=>
  obtain⟨j,hj,rfl,hc⟩:=hrel
  have HC:Hid (∀i,i<j→cont (b8 p (p.size-1-i))):=hc
  clear hc
  by_cases hlt:j<p.size
  ·have hlt':(j:Int)<p.size:=by omega
   have hne':¬(j:Int)=p.size:=by omega
   obtain⟨i,hi⟩:∃i,i=p.size-1-j:=⟨_,rfl⟩
   have hi':(p.size:Int)-1-j=i:=by omega
   have HI:Hid (i=p.size-1-j):=hi
   have hil:i<p.size:=by omega
   clear hi
   have HE:Hid ((p[i].toNat:Int)=b8 p i):=b8_get p i hil
   have hx:(p[i].toNat:Int)<256:=by have:=p[i].toNat_lt;omega
   by_cases h1:(128:Int)≤p[i].toNat
   ·by_cases h2:(p[i].toNat:Int)<192
    ·go_wp2
     go_round
     case rel=>exact⟨j+1,by omega,by go_num,fun k hk=>by
      by_cases q:k<j
      ·exact HC.out k q
      ·obtain rfl:k=j:=by omega
       rw[←HI.out,←HE.out];exact⟨h1,h2⟩⟩
     case measure=>simp[intOf];omega
    ·have HNC:Hid (¬cont (b8 p i)):=fun q=>by rw[←HE.out]at q;exact h2 q.2
     have c2:decide ((p[i].toNat:Int)<192)=false:=decide_eq_false h2
     by_cases h3:(224:Int)≤p[i].toNat
     ·by_cases h4:(240:Int)≤p[i].toNat
      ·go_wp2
       go_ret
       exact⟨⟨_,rfl,fun h=>whole_of hlt HI.out HC.out HNC.out (want_4 (by rw[←HE.out];exact h4)) (by simp at h;omega)⟩,rfl⟩
      ·have c4:decide ((240:Int)≤p[i].toNat)=false:=decide_eq_false h4
       go_wp2
       go_ret
       exact⟨⟨_,rfl,fun h=>whole_of hlt HI.out HC.out HNC.out (want_3 (by rw[←HE.out];exact h3) (by rw[←HE.out];omega)) (by simp at h;omega)⟩,rfl⟩
     ·have c3:decide ((224:Int)≤p[i].toNat)=false:=decide_eq_false h3
      have c4:decide ((240:Int)≤p[i].toNat)=false:=decide_eq_false (by omega)
      have h5:(192:Int)≤p[i].toNat:=by omega
      go_wp2
      go_ret
      exact⟨⟨_,rfl,fun h=>whole_of hlt HI.out HC.out HNC.out (want_2 (by rw[←HE.out];exact h5) (by rw[←HE.out];omega)) (by simp at h;omega)⟩,rfl⟩
   ·have HNC:Hid (¬cont (b8 p i)):=fun q=>by rw[←HE.out]at q;exact h1 q.1
    have c1:decide ((128:Int)≤p[i].toNat)=false:=decide_eq_false h1
    have c3:decide ((224:Int)≤p[i].toNat)=false:=decide_eq_false (by omega)
    have c4:decide ((240:Int)≤p[i].toNat)=false:=decide_eq_false (by omega)
    have c5:decide ((192:Int)≤p[i].toNat)=false:=decide_eq_false (by omega)
    go_wp2
    go_ret
    exact⟨⟨_,rfl,fun h=>whole_of hlt HI.out HC.out HNC.out (want_1 (by rw[←HE.out];omega)) (by simp at h;omega)⟩,rfl⟩
  ·have hlt':¬(j:Int)<p.size:=by omega
   have heq:j=p.size:=by omega
   have HEQ:Hid (j=p.size):=heq
   have heq':(j:Int)=p.size:=by omega
   go_wp2
   go_ret
   exact⟨⟨_,rfl,fun h=>⟨j,hj,HC.out,fun _=>by
    have h':((j:Int)==0)=true∨((p.size:Int)==0)=true:=by first|exact .inl h|exact .inr h
    rcases h' with h'|h'<;> (have:=eq_of_beq h';omega),fun q=>absurd q (by omega)⟩⟩,rfl⟩
end Go.Proofs.YtkkicodfpekbgaaGreatDoor
namespace Go.Proofs.YtkkicodfpekbgaaGreatDoor
open Go.RowKit Go.Extern.Stop Go.Stop Go.Extern
set_option linter.unusedSimpArgs false
set_option linter.unusedVariables false
set_option maxRecDepth 100000
set_option maxHeartbeats 8000000
theorem below_row{B g:Nat}{w0 w:World}(hb:Below B w0 w)(hg:B≤g)(cs:Array Value):Below B w0 (w.setRow g cs):=
 ⟨hb.os,hb.tape,hb.output,by simpa [World.setRow]using hb.size,fun k hk=>(setRow_other w g k cs (by omega)).trans (hb.block k hk)⟩
theorem as_nil(t:Value)(w:World):
 Calls Tryz.prog 79 #[.nilIface,t] w fun e w'=>e= .returned (.bool false)∧w'=w:=by
 go_enter Tryz.func79,Tryz.ntmps79
 go_wp2
 go_ret
 exact⟨rfl,rfl⟩
theorem Tryz.valueOfP(t:Addr)(w:World):(ReflectliteValue.unpack (.iface 157 (.pointer (some t)))).run Tryz.prog w
 = .ok (.agg #[.pointer (some ⟨19,157,none⟩),.pointer (some ⟨w.heap.size,0,none⟩),.int .u64 150]) (w.alloc (.cells #[.pointer (some t)] 157)):=by kernel_rfl
theorem Tryz.typeP(a:Addr)(w:World):(ReflectliteValue.methodAny (ReflectliteValue.valueError "reflectlite.Value.Type" 0) (fun t _ _ _=>ReflectliteType.toType t) #[(.agg #[.pointer (some ⟨19,157,none⟩),.pointer (some a),.int .u64 150])]).run Tryz.prog w
 = .ok (.iface 220 (.agg #[.pointer (some ⟨19,157,none⟩)])) w:=by kernel_rfl
theorem Tryz.methodKind(h:Value)(w:World):(Go.method 424 220 (.agg #[h]) "Kind").run Tryz.prog w= .ok (227,h) w:=by kernel_rfl
theorem Tryz.kindP(w:World):((ReflectliteType.abiMethod fun t=>(fun a:Nat=>Value.int IntKind.u8 (a:Int)) <$> Rtype.kind t) #[.pointer (some ⟨19,157,none⟩)]).run Tryz.prog w= .ok (.int .u8 22) w:=by kernel_rfl
theorem Tryz.kindF(w:World):((ReflectliteType.abiMethod fun t=>(fun a:Nat=>Value.int IntKind.u8 (a:Int)) <$> Rtype.kind t) #[.pointer (some ⟨19,155,none⟩)]).run Tryz.prog w= .ok (.int .u8 25) w:=by kernel_rfl
theorem rlm(z:Sem Value)(f:TypeId→Addr→Nat→Nat→Sem Value)(v:Value):
 ReflectliteValue.method z f #[v]=(do match←ReflectliteValue.parts v with|none=>z|some (t,a,fl)=>f t a fl (fl%32)):=rfl
theorem Tryz.partsP(a:Addr)(w:World):(ReflectliteValue.parts (.agg #[.pointer (some ⟨19,157,none⟩),.pointer (some a),.int .u64 150])).run Tryz.prog w= .ok (some (157,a,150)) w:=by kernel_rfl
theorem Tryz.isNilP(a p:Addr)(W:World)(ha:W.cell? a=some (.pointer (some p))):
 (ReflectliteValue.method (ReflectliteValue.valueError "reflectlite.Value.IsNil" 0) ReflectliteValue.isNil #[(.agg #[.pointer (some ⟨19,157,none⟩),.pointer (some a),.int .u64 150])]).run Tryz.prog W= .ok (.bool false) W:=by
 rw[rlm]
 simp only[Sem.run_bind,Tryz.partsP,Result.andThen]
 simp[ReflectliteValue.isNil,loadVar,isAgg,underlying,Tryz.underlying157,ha,Result.andThen]
theorem Tryz.methodElem(h:Value)(w:World):(Go.method 424 220 (.agg #[h]) "Elem").run Tryz.prog w= .ok (238,.agg #[h]) w:=by kernel_rfl
theorem Tryz.methodImplements(h:Value)(w:World):(Go.method 424 220 (.agg #[h]) "Implements").run Tryz.prog w= .ok (239,.agg #[h]) w:=by kernel_rfl
theorem Tryz.methodAssignableTo(h:Value)(w:World):(Go.method 424 220 (.agg #[h]) "AssignableTo").run Tryz.prog w= .ok (236,.agg #[h]) w:=by kernel_rfl
theorem Tryz.elemP(w:World):(ReflectliteType.method ReflectliteType.elem #[.agg #[.pointer (some ⟨19,157,none⟩)]]).run Tryz.prog w= .ok (.iface 220 (.agg #[.pointer (some ⟨19,155,none⟩)])) w:=by kernel_rfl
theorem Tryz.implementsF(w:World):(ReflectliteType.relation "Implements" ReflectliteType.implements_ #[.agg #[.pointer (some ⟨19,155,none⟩)],(.iface 220 (.agg #[.pointer (some ⟨19,85,none⟩)]))]).run Tryz.prog w= .ok (.bool true) w:=by kernel_rfl
theorem Tryz.typeOfF(v:Value)(w:World):(ReflectliteType.typeOf #[.iface 155 v]).run Tryz.prog w= .ok (.iface 220 (.agg #[.pointer (some ⟨19,155,none⟩)])) w:=by kernel_rfl
theorem Tryz.assignableF(w:World):(ReflectliteType.relation "AssignableTo" ReflectliteType.assignableTo #[.agg #[.pointer (some ⟨19,155,none⟩)],(.iface 220 (.agg #[.pointer (some ⟨19,155,none⟩)]))]).run Tryz.prog w= .ok (.bool true) w:=by kernel_rfl
theorem Tryz.valueOfF(p:Int)(u:Value)(w:World):(ReflectliteValue.unpack (.iface 155 (.agg #[.int .i64 p,u]))).run Tryz.prog w
 = .ok (.agg #[.pointer (some ⟨19,155,none⟩),.pointer (some ⟨w.heap.size,0,none⟩),.int .u64 153]) (w.alloc (.cells #[.int .i64 p,u] 155)):=by kernel_rfl
theorem Tryz.elemOfP(w:World):(Rtype.elem? 157).run Tryz.prog w= .ok (some 155) w:=by kernel_rfl
theorem Tryz.mkF(p:Addr)(w:World):(ReflectliteValue.mk 155 p ReflectliteValue.flagAddr).run Tryz.prog w= .ok (.agg #[.pointer (some ⟨19,155,none⟩),.pointer (some p),.int .u64 409]) w:=by kernel_rfl
theorem Tryz.elemVP(a p:Addr)(W:World)(ha:W.cell? a=some (.pointer (some p))):
 (ReflectliteValue.method (ReflectliteValue.valueError "reflectlite.Value.Elem" 0) ReflectliteValue.elem #[(.agg #[.pointer (some ⟨19,157,none⟩),.pointer (some a),.int .u64 150])]).run Tryz.prog W
   = .ok (.agg #[.pointer (some ⟨19,155,none⟩),.pointer (some p),.int .u64 409]) W:=by
 rw[rlm]
 simp only[Sem.run_bind,Tryz.partsP,Result.andThen]
 simp[ReflectliteValue.elem,loadVar,isAgg,underlying,Tryz.underlying157,ha,Result.andThen,Tryz.elemOfP,Tryz.mkF]
theorem Tryz.partsFa(a:Addr)(w:World):(ReflectliteValue.parts (.agg #[.pointer (some ⟨19,155,none⟩),.pointer (some a),.int .u64 409])).run Tryz.prog w= .ok (some (155,a,409)) w:=by kernel_rfl
theorem Tryz.partsF(a:Addr)(w:World):(ReflectliteValue.parts (.agg #[.pointer (some ⟨19,155,none⟩),.pointer (some a),.int .u64 153])).run Tryz.prog w= .ok (some (155,a,153)) w:=by kernel_rfl
theorem Tryz.directF(w:World):(Rtype.directlyAssignable 155 155).run Tryz.prog w= .ok true w:=by kernel_rfl
theorem Tryz.sizeF:(Tryz.prog.info? 155).map (·.size)=some 2:=by kernel_rfl
theorem Tryz.setF(g b:Nat)(p:Int)(u o1 o2:Value)(W:World)(hb:W.heap[b]? =some (.cells #[.int .i64 p,u] 155 (0,0)))(hu1:u.oneCell'=true)(hg:W.heap[g]? =some (.cells #[o1,o2] 155 (0,0))):
 (ReflectliteValue.set #[.agg #[.pointer (some ⟨19,155,none⟩),.pointer (some ⟨g,0,none⟩),.int .u64 409],.agg #[.pointer (some ⟨19,155,none⟩),.pointer (some ⟨b,0,none⟩),.int .u64 153]]).run Tryz.prog W
   = .ok (.tuple #[]) (W.setRow g #[.int .i64 p,u]):=by
 have hl:=run_loadVar_row (P:=Tryz.prog) W b _ 155 _ _ _ hb Tryz.underlying155 rfl Tryz.sizeF
 have hs:=run_storeVar_row (P:=Tryz.prog) W g _ 155 _ #[.int .i64 p,u] hg Tryz.sizeF rfl (by rw[Array.all_eq_true_iff_forall_mem];intro v hv;simp at hv;rcases hv with rfl|rfl;exact rfl;exact hu1)
 have e:ReflectliteValue.set #[.agg #[.pointer (some ⟨19,155,none⟩),.pointer (some ⟨g,0,none⟩),.int .u64 409],.agg #[.pointer (some ⟨19,155,none⟩),.pointer (some ⟨b,0,none⟩),.int .u64 153]]=bind (ReflectliteValue.parts (.agg #[.pointer (some ⟨19,155,none⟩),.pointer (some ⟨g,0,none⟩),.int .u64 409])) (fun p=>bind (ReflectliteValue.parts (.agg #[.pointer (some ⟨19,155,none⟩),.pointer (some ⟨b,0,none⟩),.int .u64 153])) _):=rfl
 rw[e]
 simp only[Sem.run_bind,Tryz.partsFa,Tryz.partsF,Result.andThen]
 simp[ReflectliteValue.flagAddr,hl,Result.andThen,Tryz.directF,hs]
theorem as_hit(p:Int)(u o1 o2:Value)(g:Nat)(w:World)(hu1:u.oneCell'=true)(hg:w.cell? ⟨13,0,none⟩=some (.iface 220 (.agg #[.pointer (some ⟨19,85,none⟩)])))(ht:w.heap[g]? =some (.cells #[o1,o2] 155 (0,0))):
 Calls Tryz.prog 79 #[.iface 155 (.agg #[.int .i64 p,u]),.iface 157 (.pointer (some ⟨g,0,none⟩))] w fun ev w'=>ev= .returned (.bool true)∧Below g w w'∧w'.cell? ⟨g,0,none⟩=some (.int .i64 p):=by
 have h6:= @run_callFunc_extern Tryz.prog 118 _ (fun args=>ReflectliteValue.unpack (args.getD 0 (.tuple #[]))) Tryz.func118 (by kernel_rfl) (by kernel_rfl) (by kernel_rfl) (by kernel_rfl)
 have h7:= @run_callFunc_extern Tryz.prog 119 _ (ReflectliteValue.methodAny (ReflectliteValue.valueError "reflectlite.Value.Type" 0) (fun t _ _ _=>ReflectliteType.toType t)) Tryz.func119 (by kernel_rfl) (by kernel_rfl) (by kernel_rfl) (by kernel_rfl)
 have h8:= @run_callFunc_extern Tryz.prog 120 _ (ReflectliteValue.method (ReflectliteValue.valueError "reflectlite.Value.IsNil" 0) ReflectliteValue.isNil) Tryz.func120 (by kernel_rfl) (by kernel_rfl) (by kernel_rfl) (by kernel_rfl)
 have h27:= @run_callFunc_extern Tryz.prog 227 _ (ReflectliteType.abiMethod fun t=>do pure (.int .u8 (←Rtype.kind t))) Tryz.func227 (by kernel_rfl) (by kernel_rfl) (by kernel_rfl) (by kernel_rfl)
 have h37:= @run_callFunc_extern Tryz.prog 238 _ (ReflectliteType.method ReflectliteType.elem) Tryz.func238 (by kernel_rfl) (by kernel_rfl) (by kernel_rfl) (by kernel_rfl)
 have h38:= @run_callFunc_extern Tryz.prog 239 _ (ReflectliteType.relation "Implements" ReflectliteType.implements_) Tryz.func239 (by kernel_rfl) (by kernel_rfl) (by kernel_rfl) (by kernel_rfl)
 have h10:= @run_callFunc_extern Tryz.prog 90 _ ReflectliteType.typeOf Tryz.func90 (by kernel_rfl) (by kernel_rfl) (by kernel_rfl) (by kernel_rfl)
 have h35:= @run_callFunc_extern Tryz.prog 236 _ (ReflectliteType.relation "AssignableTo" ReflectliteType.assignableTo) Tryz.func236 (by kernel_rfl) (by kernel_rfl) (by kernel_rfl) (by kernel_rfl)
 have h11:= @run_callFunc_extern Tryz.prog 164 _ (ReflectliteValue.method (ReflectliteValue.valueError "reflectlite.Value.Elem" 0) ReflectliteValue.elem) Tryz.func164 (by kernel_rfl) (by kernel_rfl) (by kernel_rfl) (by kernel_rfl)
 have h12:= @run_callFunc_extern Tryz.prog 165 _ ReflectliteValue.set Tryz.func165 (by kernel_rfl) (by kernel_rfl) (by kernel_rfl) (by kernel_rfl)
 have tO:=Tryz.typeOfF
 have mA:=Tryz.methodAssignableTo
 have aF:=Tryz.assignableF
 have vF:=Tryz.valueOfF p u
 have f6:=Tryz.valueOfP
 have f7:=Tryz.typeP
 have mK:=Tryz.methodKind
 have mE:=Tryz.methodElem
 have mI:=Tryz.methodImplements
 have kP:=Tryz.kindP
 have kF:=Tryz.kindF
 have eP:=Tryz.elemP
 have iF:=Tryz.implementsF
 have hgl:g<w.heap.size:=row_lt ht
 have hlt:13<w.heap.size:=lt_of_cell hg
 have htl:(⟨g,0,none⟩:Addr).block<w.heap.size:=hgl
 have n8:=Tryz.isNilP ⟨w.heap.size,0,none⟩ ⟨g,0,none⟩ ((w.alloc (.cells #[.pointer (some ⟨g,0,none⟩)] 157)).alloc (.cells #[.pointer (some ⟨19,157,none⟩),.pointer (some ⟨w.heap.size,0,none⟩),.int .u64 150] 203)) (by simp)
 have hg2:((w.alloc (.cells #[.pointer (some ⟨g,0,none⟩)] 157)).alloc (.cells #[.pointer (some ⟨19,157,none⟩),.pointer (some ⟨w.heap.size,0,none⟩),.int .u64 150] 203)).cell? ⟨13,0,none⟩=some (.iface 220 (.agg #[.pointer (some ⟨19,85,none⟩)])):=by
  rw[World.cell?_alloc_lt _ _ ⟨13,0,none⟩ (by simp;omega),World.cell?_alloc_lt _ _ ⟨13,0,none⟩ hlt];exact hg
 have el:=Tryz.elemVP ⟨w.heap.size,0,none⟩ ⟨g,0,none⟩ (((w.alloc (.cells #[.pointer (some ⟨g,0,none⟩)] 157)).alloc (.cells #[.pointer (some ⟨19,157,none⟩),.pointer (some ⟨w.heap.size,0,none⟩),.int .u64 150] 203)).alloc (.cells #[.pointer (some ⟨19,157,none⟩),.pointer (some ⟨w.heap.size,0,none⟩),.int .u64 150] 203)) (by rw[World.cell?_alloc_lt _ _ ⟨w.heap.size,0,none⟩ (by simp;omega)];simp)
 have hold:((((w.alloc (.cells #[.pointer (some ⟨g,0,none⟩)] 157)).alloc (.cells #[.pointer (some ⟨19,157,none⟩),.pointer (some ⟨w.heap.size,0,none⟩),.int .u64 150] 203)).alloc (.cells #[.pointer (some ⟨19,157,none⟩),.pointer (some ⟨w.heap.size,0,none⟩),.int .u64 150] 203)).alloc (.cells #[.int .i64 p,u] 155)).heap[g]? =some (.cells #[o1,o2] 155 (0,0)):=by
  rw[Below.heap_alloc _ _ _ (by simp;omega),Below.heap_alloc _ _ _ (by simp;omega),Below.heap_alloc _ _ _ (by simp;omega),Below.heap_alloc _ _ _ hgl];exact ht
 have st:=Tryz.setF g (w.heap.size+1+1+1) p u o1 o2 ((((w.alloc (.cells #[.pointer (some ⟨g,0,none⟩)] 157)).alloc (.cells #[.pointer (some ⟨19,157,none⟩),.pointer (some ⟨w.heap.size,0,none⟩),.int .u64 150] 203)).alloc (.cells #[.pointer (some ⟨19,157,none⟩),.pointer (some ⟨w.heap.size,0,none⟩),.int .u64 150] 203)).alloc (.cells #[.int .i64 p,u] 155))
  (by have:=heap_alloc_new (((w.alloc (.cells #[.pointer (some ⟨g,0,none⟩)] 157)).alloc (.cells #[.pointer (some ⟨19,157,none⟩),.pointer (some ⟨w.heap.size,0,none⟩),.int .u64 150] 203)).alloc (.cells #[.pointer (some ⟨19,157,none⟩),.pointer (some ⟨w.heap.size,0,none⟩),.int .u64 150] 203)) (.cells #[.int .i64 p,u] 155);simpa using this) hu1 hold
 have HOLD:=hide hold
 clear hold ht hu1
 go_enter Tryz.func79,Tryz.ntmps79
 go_wp2
 refine wp_loop_rounds 1 ?_
 rw[rounds_succ]
 go_wp2
 go_ret
 refine⟨rfl,below_row ?_ (Nat.le_refl g) _,?_⟩
 ·exact((((Below.refl g w).alloc (by omega) _).alloc (by simp;omega) _).alloc (by simp;omega) _).alloc (by simp;omega) _
 ·rw[cell_setRow_same _ _ _ _ _ _ _ HOLD.out];rfl
theorem place_nil(w:World):Calls Tryz.prog 48 #[.nilIface] w fun e w'=>e= .returned (.int .i64 0)∧Below w.heap.size w w':=by
 have HA:=as_nil
 go_enter Tryz.func48,Tryz.ntmps48
 go_wp2_with fail
 refine(HA _ _).mono ?_
 rintro e w1 ⟨rfl,rfl⟩
 go_wp2
 go_ret
 exact⟨rfl,(Below.refl _ _).alloc (Nat.le_refl _) _⟩
theorem place_at(p:Int)(u:Value)(w:World)(hu1:u.oneCell'=true)(hg:w.cell? ⟨13,0,none⟩=some (.iface 220 (.agg #[.pointer (some ⟨19,85,none⟩)]))):Calls Tryz.prog 48 #[faultV p u] w fun e w'=>e= .returned (.int .i64 p)∧Below w.heap.size w w':=by
 have hlt:13<w.heap.size:=lt_of_cell hg
 have HA:Hid (∀o1 o2,Calls Tryz.prog 79 #[.iface 155 (.agg #[.int .i64 p,u]),.iface 157 (.pointer (some ⟨w.heap.size,0,none⟩))] (w.alloc (.cells #[o1,o2] 155)) fun ev w'=>ev= .returned (.bool true)∧Below w.heap.size (w.alloc (.cells #[o1,o2] 155)) w'∧w'.cell? ⟨w.heap.size,0,none⟩=some (.int .i64 p)):=fun o1 o2=>as_hit p u o1 o2 w.heap.size _ hu1 (by rw[World.cell?_alloc_lt _ _ ⟨13,0,none⟩ hlt];exact hg) (heap_alloc_new w _)
 unfold faultV
 clear hg hu1
 go_enter Tryz.func48,Tryz.ntmps48
 go_wp2_with fail
 refine(HA.out _ _).mono ?_
 rintro e w1 ⟨rfl,hb1,hc1⟩
 have HB1:Hid (Below w.heap.size w w1):=((Below.refl _ _).alloc (Nat.le_refl _) _).trans hb1
 have hl1:=lt_of_cell hc1
 simp only at hl1
 clear hb1
 go_wp2
 go_ret
 exact⟨rfl,HB1.out⟩
end Go.Proofs.YtkkicodfpekbgaaGreatDoor
namespace Go.Proofs.YtkkicodfpekbgaaGreatDoor
open Go.RowKit
set_option linter.unusedSimpArgs false
set_option linter.unusedVariables false
set_option maxRecDepth 100000
set_option maxHeartbeats 8000000
def EtC(w:World):Prop:=w.cell? ⟨13,0,none⟩=some (.iface 220 (.agg #[.pointer (some ⟨19,85,none⟩)]))
theorem EtC.below{w w':World}(h:EtC w)(hb:Below w.heap.size w w'):EtC w':=(hb.cell (lt_of_cell h)).trans h
theorem isF_two{sn:Sn→Addr}{za:Addr}{k q:Int}{er:Value}(w:World)(hl:Lay w sn)(hz:LayZ w sn za)(het:EtC w)(h:IsF sn za k q er):∀wq,Below w.heap.size w wq→
 Calls Tryz.prog 48 #[er] wq (fun e w'=>e= .returned (.int .i64 q)∧Below wq.heap.size wq w')∧Calls Tryz.prog 34 #[er] wq (fun e w'=>e= .returned (.int .i64 k)∧Below wq.heap.size wq w'):=fun wq hq=>by
 have HP:∀p u,u.oneCell'=true→Calls Tryz.prog 48 #[.iface 155 (.agg #[.int .i64 p,u])] wq fun e w'=>e= .returned (.int .i64 p)∧Below wq.heap.size wq w':=fun p u h1=>place_at p u wq h1 (het.below hq)
 rcases h with⟨rfl,rfl,⟨p,rfl⟩|rfl⟩|⟨k1,k2,rfl⟩
 ·exact⟨HP 0 _ rfl,number_two 0 p za wq sn (hl.below hq).s (hz.below hq)⟩
 ·refine⟨HP 0 _ rfl,?_⟩
  have h:=number_at 0 za wq sn (hl.below hq).s (hz.below hq).r
  rw[nm_none (fun s q=>hz.d s q.symm)]at h
  exact h
 ·refine⟨HP q _ rfl,?_⟩
  have h:=number_sn q (snE k) wq sn (hl.below hq).s
  rw[snE_code k k1 k2]at h
  exact h
theorem sn_two{sn:Sn→Addr}{za:Addr}(x:Sn)(w:World)(hl:Lay w sn)(het:EtC w):∀wq,Below w.heap.size w wq→
 Calls Tryz.prog 48 #[fault 0 (sn x)] wq (fun e w'=>e= .returned (.int .i64 0)∧Below wq.heap.size wq w')∧Calls Tryz.prog 34 #[fault 0 (sn x)] wq (fun e w'=>e= .returned (.int .i64 x.code)∧Below wq.heap.size wq w'):=fun wq hq=>
 ⟨place_at 0 _ wq rfl (het.below hq),number_sn 0 x wq sn (hl.below hq).s⟩
def RetRC(v:Except (Int×Int) (List Vl))(w:World)(e:Ending)(w':World):Prop:=
 Below w.heap.size w w'∧((∃k q,v= .error (k,q)∧e= .returned (.tuple #[cardZ,.int .i64 q,.int .i64 k]))∨
  (∃(c:CT) (pr:Bool),v= .ok c.tree∧c.Ok∧Sz c.tree∧(pr=true↔ContentOk 8 c.n)∧
    (((c.tree≠(c.again pr).tree∨¬CardOk (b8 c.vt 0) c.s c.n c.ft c.tt c.k (msOf c).length)∧e= .returned (.tuple #[cardZ,.int .i64 0,.int .i64 12]))∨
     (c.tree=(c.again pr).tree∧CardOk (b8 c.vt 0) c.s c.n c.ft c.tt c.k (msOf c).length∧¬MarksOk (msOf c)∧e= .returned (.tuple #[cardZ,.int .i64 0,.int .i64 13]))∨
     (c.tree=(c.again pr).tree∧CardOk (b8 c.vt 0) c.s c.n c.ft c.tt c.k (msOf c).length∧MarksOk (msOf c)∧∃ma mc,e= .returned (.tuple #[cardV (b8 c.vt 0) c.s c.n c.ft c.tt c.k (.slice ma (msOf c).length mc),.int .i64 0,.int .i64 0])∧w'.ownsRow w.heap.size 73 3 (.slice ma (msOf c).length mc) (msOf c).length (mcells (msOf c))))))
theorem far7{w:World}{B C:Nat}{u0 u1 u2 u3 u4 u5 u6:Value}(hlt:B<C)(h:w.cell? ⟨C,0,none⟩=some u0∧w.cell? ⟨C,1,none⟩=some u1∧w.cell? ⟨C,2,none⟩=some u2∧w.cell? ⟨C,3,none⟩=some u3∧w.cell? ⟨C,4,none⟩=some u4∧w.cell? ⟨C,5,none⟩=some u5∧w.cell? ⟨C,6,none⟩=some u6):∀a b c d e f g:Value,(((((((w.setCell ⟨B,0,none⟩ a).setCell ⟨B,1,none⟩ b).setCell ⟨B,2,none⟩ c).setCell ⟨B,3,none⟩ d).setCell ⟨B,4,none⟩ e).setCell ⟨B,5,none⟩ f).setCell ⟨B,6,none⟩ g).cell? ⟨C,0,none⟩=some u0∧(((((((w.setCell ⟨B,0,none⟩ a).setCell ⟨B,1,none⟩ b).setCell ⟨B,2,none⟩ c).setCell ⟨B,3,none⟩ d).setCell ⟨B,4,none⟩ e).setCell ⟨B,5,none⟩ f).setCell ⟨B,6,none⟩ g).cell? ⟨C,1,none⟩=some u1∧(((((((w.setCell ⟨B,0,none⟩ a).setCell ⟨B,1,none⟩ b).setCell ⟨B,2,none⟩ c).setCell ⟨B,3,none⟩ d).setCell ⟨B,4,none⟩ e).setCell ⟨B,5,none⟩ f).setCell ⟨B,6,none⟩ g).cell? ⟨C,2,none⟩=some u2∧(((((((w.setCell ⟨B,0,none⟩ a).setCell ⟨B,1,none⟩ b).setCell ⟨B,2,none⟩ c).setCell ⟨B,3,none⟩ d).setCell ⟨B,4,none⟩ e).setCell ⟨B,5,none⟩ f).setCell ⟨B,6,none⟩ g).cell? ⟨C,3,none⟩=some u3∧(((((((w.setCell ⟨B,0,none⟩ a).setCell ⟨B,1,none⟩ b).setCell ⟨B,2,none⟩ c).setCell ⟨B,3,none⟩ d).setCell ⟨B,4,none⟩ e).setCell ⟨B,5,none⟩ f).setCell ⟨B,6,none⟩ g).cell? ⟨C,4,none⟩=some u4∧(((((((w.setCell ⟨B,0,none⟩ a).setCell ⟨B,1,none⟩ b).setCell ⟨B,2,none⟩ c).setCell ⟨B,3,none⟩ d).setCell ⟨B,4,none⟩ e).setCell ⟨B,5,none⟩ f).setCell ⟨B,6,none⟩ g).cell? ⟨C,5,none⟩=some u5∧(((((((w.setCell ⟨B,0,none⟩ a).setCell ⟨B,1,none⟩ b).setCell ⟨B,2,none⟩ c).setCell ⟨B,3,none⟩ d).setCell ⟨B,4,none⟩ e).setCell ⟨B,5,none⟩ f).setCell ⟨B,6,none⟩ g).cell? ⟨C,6,none⟩=some u6:=fun a b c d e f g=>by
 obtain⟨h0,h1,h2,h3,h4,h5,h6⟩:=h
 have hne:B≠C:=Nat.ne_of_lt hlt
 have key:∀i,(((((((w.setCell ⟨B,0,none⟩ a).setCell ⟨B,1,none⟩ b).setCell ⟨B,2,none⟩ c).setCell ⟨B,3,none⟩ d).setCell ⟨B,4,none⟩ e).setCell ⟨B,5,none⟩ f).setCell ⟨B,6,none⟩ g).cell? ⟨C,i,none⟩=w.cell? ⟨C,i,none⟩:=fun i=>by
  repeat rw[World.cell?_setCell_far _ _ _ _ hne]
 exact⟨(key 0).trans h0,(key 1).trans h1,(key 2).trans h2,(key 3).trans h3,(key 4).trans h4,(key 5).trans h5,(key 6).trans h6⟩
theorem readCard_any(E:Env)(d:ByteArray)(v:Except (Int×Int) (List Vl))(w:World)(sn:Sn→Addr)(za:Addr)(hl:Lay w sn)(hz:LayZ w sn za)(het:EtC w)(hd:d.size≤9223372036854775807)(hv:DecV E cS 0 d v)(hsz:∀vs,v= .ok vs→Sz vs):
 Calls Tryz.prog 32 #[.string d] w fun e w'=>RetRC v w e w':=by
 have HRD:Hid (∀wq,Below w.heap.size w wq→Calls Tryz.prog 58 #[.string d] wq fun e w'=>RetRe sn za v wq e w'):=fun wq q=>cread_any E d v wq sn za (hl.below q) (hz.below q) hd hv hsz
 have HIF:Hid (∀k q er,IsF sn za k q er→∀wq,Below w.heap.size w wq→Calls Tryz.prog 48 #[er] wq (fun e w'=>e= .returned (.int .i64 q)∧Below wq.heap.size wq w')∧Calls Tryz.prog 34 #[er] wq (fun e w'=>e= .returned (.int .i64 k)∧Below wq.heap.size wq w')):=fun k q er h=>isF_two w hl hz het h
 have HSN:Hid (∀x wq,Below w.heap.size w wq→Calls Tryz.prog 48 #[fault 0 (sn x)] wq (fun e w'=>e= .returned (.int .i64 0)∧Below wq.heap.size wq w')∧Calls Tryz.prog 34 #[fault 0 (sn x)] wq (fun e w'=>e= .returned (.int .i64 x.code)∧Below wq.heap.size wq w')):=fun x=>sn_two (za:=za) x w hl het
 have HPN:Hid (∀wq,Calls Tryz.prog 48 #[.nilIface] wq fun e w'=>e= .returned (.int .i64 0)∧Below wq.heap.size wq w'):=fun wq=>place_nil wq
 have HNN:Hid (∀wq,Calls Tryz.prog 34 #[.nilIface] wq fun e w'=>e= .returned (.int .i64 0)∧w'=wq):=fun wq=>number_nil wq
 clear hl hz het hv hsz
 unfold RetRC
 go_enter Tryz.func32,Tryz.ntmps32
 go_wp2_with fail
 refine(HRD.out _ ((Below.refl _ _).alloc (Nat.le_refl _) _)).mono ?_
 rintro e w1 ⟨hb1,h1⟩
 have HB1:Hid (Below w.heap.size w w1):=below_alloc hb1
 have HR1:Hid (w1.heap[w.heap.size]? =some (.cells cdNone 68 (0,0))):=block_below (heap_alloc_new w _) hb1
 have hlow:∀{v:Value} {n:Nat} {xs:List Value},w1.ownsRow (w.alloc (.cells cdNone 68)).heap.size 73 3 v n xs→w1.ownsRow w.heap.size 73 3 v n xs:=fun h=>own_lower h (by simp)
 have h2:∃(V:Int) (S N F T K:ByteArray) (xa:Option Addr) (xl xc:Nat) (er:Value) (q0 k0:Int),e= .returned (.tuple #[cardV V S N F T K (.slice xa xl xc),er])∧(∀wq,Below w.heap.size w wq→Calls Tryz.prog 48 #[er] wq (fun e w'=>e= .returned (.int .i64 q0)∧Below wq.heap.size wq w')∧Calls Tryz.prog 34 #[er] wq (fun e w'=>e= .returned (.int .i64 k0)∧Below wq.heap.size wq w'))∧
  ∀w',Below w.heap.size w w'→(∀(v:Value) (n:Nat) (xs:List Value),w1.ownsRow w.heap.size 73 3 v n xs→w'.ownsRow w.heap.size 73 3 v n xs)→RetRC v w (.returned (.tuple #[cardV V S N F T K (.slice xa xl xc),.int .i64 q0,.int .i64 k0])) w':=by
  rcases h1 with⟨k,q,er,hv,hF,he⟩|⟨c,pr,hv,hok,hS,hp,⟨hn,he⟩|⟨hq,hn,he⟩|⟨hq,hc,hm,he⟩|⟨hq,hc,hm,ma,mc,he,ho⟩⟩
  ·exact⟨_,_,_,_,_,_,_,_,_,_,_,_,he,HIF.out k q er hF,fun w' hb _=>⟨hb,.inl ⟨k,q,hv,rfl⟩⟩⟩
  ·exact⟨_,_,_,_,_,_,_,_,_,_,_,_,he,HSN.out .Card,fun w' hb _=>⟨hb,.inr ⟨c,pr,hv,hok,hS,hp,.inl ⟨.inl hn,rfl⟩⟩⟩⟩
  ·exact⟨_,_,_,_,_,_,_,_,_,_,_,_,he,HSN.out .Card,fun w' hb _=>⟨hb,.inr ⟨c,pr,hv,hok,hS,hp,.inl ⟨.inr hn,rfl⟩⟩⟩⟩
  ·exact⟨_,_,_,_,_,_,_,_,_,_,_,_,he,HSN.out .Mark,fun w' hb _=>⟨hb,.inr ⟨c,pr,hv,hok,hS,hp,.inr (.inl ⟨hq,hc,hm,rfl⟩)⟩⟩⟩
  ·exact⟨_,_,_,_,_,_,_,_,_,_,_,_,he,fun wq q=>⟨HPN.out wq,(HNN.out wq).mono fun e w' h=>⟨h.1,by rw[h.2];exact Below.refl _ _⟩⟩,fun w' hb hk=>⟨hb,.inr ⟨c,pr,hv,hok,hS,hp,.inr (.inr ⟨hq,hc,hm,ma,mc,rfl,hk _ _ _ (hlow ho)⟩)⟩⟩⟩
 obtain⟨V,S,N,F,T,K,xa,xl,xc,er,q0,k0,rfl,hpn,hfin⟩:=h2
 have HPQ:=hidec hpn
 have HFIN:=hidec hfin
 unfold RetRC at HFIN
 have HBA:Hid (Below w1.heap.size w1 (w1.alloc (.cells (cdAll V S N F T K (.slice xa xl xc)) 68)).drew):=((Below.refl _ _).alloc (Nat.le_refl _) _).drew
 have HBW:Hid (Below w.heap.size w (w1.alloc (.cells (cdAll V S N F T K (.slice xa xl xc)) 68)).drew):=HB1.out.trans (HBA.out.mono HB1.out.size)
 have hAN:(w1.alloc (.cells (cdAll V S N F T K (.slice xa xl xc)) 68)).heap[w1.heap.size]? =some (.cells (cdAll V S N F T K (.slice xa xl xc)) 68 (0,0)):=heap_alloc_new w1 _
 have HKP:Hid (∀wq,Below (w1.alloc (.cells (cdAll V S N F T K (.slice xa xl xc)) 68)).heap.size (w1.alloc (.cells (cdAll V S N F T K (.slice xa xl xc)) 68)) wq→wq.cell? ⟨w1.heap.size,0,none⟩=some (.int .i64 V)∧wq.cell? ⟨w1.heap.size,1,none⟩=some (.string S)∧wq.cell? ⟨w1.heap.size,2,none⟩=some (.string N)∧wq.cell? ⟨w1.heap.size,3,none⟩=some (.string F)∧wq.cell? ⟨w1.heap.size,4,none⟩=some (.string T)∧wq.cell? ⟨w1.heap.size,5,none⟩=some (.string K)∧wq.cell? ⟨w1.heap.size,6,none⟩=some (.slice xa xl xc)):=fun wq q=>by
  have hg:=block_below hAN q
  refine⟨?_,?_,?_,?_,?_,?_,?_⟩ <;>simp[World.cell?,hg]
 have hlw:w.heap.size<w1.heap.size:=row_lt HR1.out
 clear hb1 h1 hlow hpn hfin HRD HIF HSN HPN HNN hAN
 unfold cardV
 go_upto_region 2 with fail
 obtain⟨c0,c1,c2,c3,c4,c5,c6⟩:=HKP.out _ (Below.refl _ _)
 have HD0:Hid (Below (w1.alloc (.cells (cdAll V S N F T K (.slice xa xl xc)) 68)).heap.size (w1.alloc (.cells (cdAll V S N F T K (.slice xa xl xc)) 68)) (w1.alloc (.cells (cdAll V S N F T K (.slice xa xl xc)) 68)).drew):=(Below.refl _ _).drew
 have HBA1:Hid (Below w1.heap.size w1 (w1.alloc (.cells (cdAll V S N F T K (.slice xa xl xc)) 68))):=(Below.refl _ _).alloc (Nat.le_refl _) _
 have KP0:=hidec (HKP.out _ HD0.out)
 go_region_held_law (fun wq=>wq.cell? ⟨w1.heap.size,0,none⟩=some (.int .i64 V)∧wq.cell? ⟨w1.heap.size,1,none⟩=some (.string S)∧wq.cell? ⟨w1.heap.size,2,none⟩=some (.string N)∧wq.cell? ⟨w1.heap.size,3,none⟩=some (.string F)∧wq.cell? ⟨w1.heap.size,4,none⟩=some (.string T)∧wq.cell? ⟨w1.heap.size,5,none⟩=some (.string K)∧wq.cell? ⟨w1.heap.size,6,none⟩=some (.slice xa xl xc)) (first|with_reducible exact KP0.out|with_reducible exact KP1.out|with_reducible exact KP2.out|with_reducible exact KP3.out _ _ _ _ _ _ _) (first
  |(go_at_call 48;refine(HPQ.out _ HBW.out).1.mono ?_;rintro e w2 ⟨rfl,hb2⟩;have HD2:Hid (Below (w1.alloc (.cells (cdAll V S N F T K (.slice xa xl xc)) 68)).heap.size (w1.alloc (.cells (cdAll V S N F T K (.slice xa xl xc)) 68)) w2):=HD0.out.trans (hb2.mono HD0.out.size);have HB2:Hid (Below w.heap.size w w2):=HBW.out.trans (hb2.mono HBW.out.size);have KP1:=hidec (HKP.out _ HD2.out);clear hb2)
  |(go_at_call 34;refine(HPQ.out _ HB2.out).2.mono ?_;rintro e w3 ⟨rfl,hb3⟩;have HD3:Hid (Below (w1.alloc (.cells (cdAll V S N F T K (.slice xa xl xc)) 68)).heap.size (w1.alloc (.cells (cdAll V S N F T K (.slice xa xl xc)) 68)) w3):=HD2.out.trans (hb3.mono HD2.out.size);have HB3:Hid (Below w.heap.size w w3):=HB2.out.trans (hb3.mono HB2.out.size);have KP2:=hidec (HKP.out _ HD3.out);have KP3:Hid (∀a b c d e f g:Value,(((((((w3.setCell ⟨w.heap.size,0,none⟩ a).setCell ⟨w.heap.size,1,none⟩ b).setCell ⟨w.heap.size,2,none⟩ c).setCell ⟨w.heap.size,3,none⟩ d).setCell ⟨w.heap.size,4,none⟩ e).setCell ⟨w.heap.size,5,none⟩ f).setCell ⟨w.heap.size,6,none⟩ g).cell? ⟨w1.heap.size,0,none⟩=some (.int .i64 V)∧(((((((w3.setCell ⟨w.heap.size,0,none⟩ a).setCell ⟨w.heap.size,1,none⟩ b).setCell ⟨w.heap.size,2,none⟩ c).setCell ⟨w.heap.size,3,none⟩ d).setCell ⟨w.heap.size,4,none⟩ e).setCell ⟨w.heap.size,5,none⟩ f).setCell ⟨w.heap.size,6,none⟩ g).cell? ⟨w1.heap.size,1,none⟩=some (.string S)∧(((((((w3.setCell ⟨w.heap.size,0,none⟩ a).setCell ⟨w.heap.size,1,none⟩ b).setCell ⟨w.heap.size,2,none⟩ c).setCell ⟨w.heap.size,3,none⟩ d).setCell ⟨w.heap.size,4,none⟩ e).setCell ⟨w.heap.size,5,none⟩ f).setCell ⟨w.heap.size,6,none⟩ g).cell? ⟨w1.heap.size,2,none⟩=some (.string N)∧(((((((w3.setCell ⟨w.heap.size,0,none⟩ a).setCell ⟨w.heap.size,1,none⟩ b).setCell ⟨w.heap.size,2,none⟩ c).setCell ⟨w.heap.size,3,none⟩ d).setCell ⟨w.heap.size,4,none⟩ e).setCell ⟨w.heap.size,5,none⟩ f).setCell ⟨w.heap.size,6,none⟩ g).cell? ⟨w1.heap.size,3,none⟩=some (.string F)∧(((((((w3.setCell ⟨w.heap.size,0,none⟩ a).setCell ⟨w.heap.size,1,none⟩ b).setCell ⟨w.heap.size,2,none⟩ c).setCell ⟨w.heap.size,3,none⟩ d).setCell ⟨w.heap.size,4,none⟩ e).setCell ⟨w.heap.size,5,none⟩ f).setCell ⟨w.heap.size,6,none⟩ g).cell? ⟨w1.heap.size,4,none⟩=some (.string T)∧(((((((w3.setCell ⟨w.heap.size,0,none⟩ a).setCell ⟨w.heap.size,1,none⟩ b).setCell ⟨w.heap.size,2,none⟩ c).setCell ⟨w.heap.size,3,none⟩ d).setCell ⟨w.heap.size,4,none⟩ e).setCell ⟨w.heap.size,5,none⟩ f).setCell ⟨w.heap.size,6,none⟩ g).cell? ⟨w1.heap.size,5,none⟩=some (.string K)∧(((((((w3.setCell ⟨w.heap.size,0,none⟩ a).setCell ⟨w.heap.size,1,none⟩ b).setCell ⟨w.heap.size,2,none⟩ c).setCell ⟨w.heap.size,3,none⟩ d).setCell ⟨w.heap.size,4,none⟩ e).setCell ⟨w.heap.size,5,none⟩ f).setCell ⟨w.heap.size,6,none⟩ g).cell? ⟨w1.heap.size,6,none⟩=some (.slice xa xl xc)):=far7 hlw KP2.out;have HR3:=hidec (block_below HR1.out (HBA1.out.trans (HD3.out.mono HBA1.out.size)));obtain⟨z0,z1,z2,z3,z4,z5,z6,y0,y1,y2,y3,y4,y5,y6⟩:=res7 HR3.out;have hl3:w.heap.size<w3.heap.size:=lt_of_cell z0;have hl4:w1.heap.size<w3.heap.size:=lt_of_cell KP2.out.1;clear hb3))
 rename_i hHeld
 clear hHeld KP0 KP1 KP2 KP3 HKP c0 c1 c2 c3 c4 c5 c6
 go_wp2_with fail
 refine bodyPost_ret (v:= .tuple #[cardV V S N F T K (.slice xa xl xc),.int .i64 q0,.int .i64 k0]) (by simp[results,Tryz.results32,go_sem,cardV,z0,z1,z2,z3,z4,z5,z6]) rfl ?_
 refine HFIN.out _ (bel7 HB3.out _ _ _ _ _ _ _) fun v n xs ho=>?_
 have ho3:=own_below ho (HBA1.out.trans (HD3.out.mono HBA1.out.size))
 have hne:=row_ne1 HR3.out ho3 (by decide)
 exact ownsRow_setCell_other (ownsRow_setCell_other (ownsRow_setCell_other (ownsRow_setCell_other (ownsRow_setCell_other (ownsRow_setCell_other (ownsRow_setCell_other ho3 hne _) hne _) hne _) hne _) hne _) hne _) hne _
theorem bne_no{a b:ByteArray}(h:a≠b):(a.toList !=b.toList)=true:=by unfold bne;rw[beq_no h];rfl
theorem ms_ext{a b:List Mks}(hl:a.length=b.length)(h:∀i,i<a.length→a.getD i mk0=b.getD i mk0):a=b:=by
 apply List.ext_getElem hl
 intro i h1 h2
 have:=h i h1
 rwa[List.getD_eq_getElem?_getD,List.getD_eq_getElem?_getD,List.getElem?_eq_getElem h1,List.getElem?_eq_getElem h2]at this
def Alike(v1 v2:Int)(s1 n1 f1 t1 k1 s2 n2 f2 t2 k2:ByteArray):Prop:=v1=v2∧s1=s2∧n1=n2∧f1=f2∧t1=t2∧k1=k2
theorem equal_any(v1 v2:Int)(s1 n1 f1 t1 k1 s2 n2 f2 t2 k2:ByteArray)(m1 m2:List Mks)(a1 a2:Option Addr)(c1 c2:Nat)(w:World)(h1:MkIn w a1 m1)(h2:MkIn w a2 m2)(z1:m1.length≤1000000)(z2:m2.length≤1000000):
 Calls Tryz.prog 33 #[cardV v1 s1 n1 f1 t1 k1 (.slice a1 m1.length c1),cardV v2 s2 n2 f2 t2 k2 (.slice a2 m2.length c2)] w fun e w'=>RetO (Alike v1 v2 s1 n1 f1 t1 k1 s2 n2 f2 t2 k2∧m1=m2) w e w':=by
 have HB2:∀x y,Hid (Below w.heap.size w ((w.alloc x).alloc y)):=fun x y=>((Below.refl _ _).alloc (Nat.le_refl _) _).alloc (by simp) _
 have H1:∀x y,Hid (MkIn ((w.alloc x).alloc y) a1 m1):=fun x y=>h1.below (HB2 x y).out
 have H2:∀x y,Hid (MkIn ((w.alloc x).alloc y) a2 m2):=fun x y=>h2.below (HB2 x y).out
 clear h1 h2
 unfold cardV
 by_cases e1:v1=v2
 ·subst e1
  by_cases e2:s1=s2
  ·subst e2
   by_cases e3:n1=n2
   ·subst e3
    by_cases e4:f1=f2
    ·subst e4
     by_cases e5:t1=t2
     ·subst e5
      by_cases e6:k1=k2
      ·subst e6
       by_cases e7:m1.length=m2.length
       ·have e7':(m1.length:Int)=m2.length:=by omega
        go_enter Tryz.func33,Tryz.ntmps33
        go_wp2_with fail
        generalize hW:(w.alloc _).alloc _=W
        have hb2:W.heap[w.heap.size+1]? =some (.cells #[.int .i64 v1,.string s1,.string n1,.string f1,.string t1,.string k1,.slice a2 m2.length c2] 68 (0,0)):=by rw[←hW];simpa using heap_alloc_new (w.alloc _) _
        have hb1:W.heap[w.heap.size]? =some (.cells #[.int .i64 v1,.string s1,.string n1,.string f1,.string t1,.string k1,.slice a1 m2.length c1] 68 (0,0)):=by rw[←hW];exact(Below.heap_alloc _ _ _ (by simp)).trans (heap_alloc_new w _)
        have G1:Hid (MkIn W a1 m1):=by rw[←hW];exact H1 _ _
        have G2:Hid (MkIn W a2 m2):=by rw[←hW];exact H2 _ _
        have GB:Hid (Below w.heap.size w W):=by rw[←hW];exact HB2 _ _
        have d1:W.cell? ⟨w.heap.size,6,none⟩=some (.slice a1 m2.length c1):=by simp[World.cell?,hb1]
        have d2:W.cell? ⟨w.heap.size+1,6,none⟩=some (.slice a2 m2.length c2):=by simp[World.cell?,hb2]
        have l2:w.heap.size+1<W.heap.size:=lt_of_cell d2
        clear hW hb1 hb2 H1 H2 HB2
        go_loopw [5] (fun i wr=>∃k:Nat,k≤m1.length∧i= .int .i64 k∧(∃q,wr=W.drewN q)∧∀j,j<k→m1.getD j mk0=m2.getD j mk0) (fun i _=>m1.length-(intOf i).toNat)
        case atStart=>exact⟨0,Nat.zero_le _,rfl,⟨0,rfl⟩,fun j hj=>absurd hj (Nat.not_lt_zero _)⟩
        case round=>
         obtain⟨k,hk,rfl,⟨q,rfl⟩,hE⟩:=hrel
         have HE:Hid (∀j,j<k→m1.getD j mk0=m2.getD j mk0):=hE
         clear hE
         by_cases hlt:k<m1.length
         ·obtain⟨g1,o1,rfl,x1,x2,x3⟩:=G1.out k hlt
          obtain⟨g2,o2,rfl,y1,y2,y3⟩:=G2.out k (by omega)
          have hlt2:(k:Int)<m2.length:=by omega
          obtain⟨x,hx⟩:∃x,m1.getD k mk0=x:=⟨_,rfl⟩
          obtain⟨y,hy⟩:∃y,m2.getD k mk0=y:=⟨_,rfl⟩
          have HX:Hid (m1.getD k mk0=x):=hx
          have HY:Hid (m2.getD k mk0=y):=hy
          rw[hx]at x1 x2 x3
          rw[hy]at y1 y2 y3
          clear hx hy
          obtain⟨xk,xm,xb⟩:=x
          obtain⟨yk,ym,yb⟩:=y
          simp only at x1 x2 x3 y1 y2 y3
          by_cases q1:xk=yk
          ·subst q1
           by_cases q2:xm=ym
           ·subst q2
            by_cases q3:xb=yb
            ·subst q3
             go_wp2
             go_quiet (fail)
             go_wp2
             go_roundw
             case rel=>exact⟨k+1,by omega,by go_num,⟨_,rfl⟩,fun j hj=>by
              by_cases hjk:j<k
              ·exact HE.out j hjk
              ·obtain rfl:j=k:=by omega
               rw[HX.out,HY.out]⟩
             case measure=>simp[intOf];omega
            ·have b6:=beq_no q3
             have b6':=bne_no q3
             go_wp2
             go_quiet (fail)
             go_wp2
             go_ret
             exact reto_no (fun z=>q3 (by have e:=HX.out;rw[z.2,HY.out]at e;injection e with _ _ e;exact e.symm)) (Go.below_drewN (Go.below_drewN GB.out _) _)
           ·have b6:(xm==ym)=false:=by simp[q2]
            have b6':(xm !=ym)=true:=by simp[q2]
            go_wp2
            go_quiet (fail)
            go_wp2
            go_ret
            exact reto_no (fun z=>q2 (by have e:=HX.out;rw[z.2,HY.out]at e;injection e with _ e _;exact e.symm)) (Go.below_drewN (Go.below_drewN GB.out _) _)
          ·have b6:=beq_no q1
           have b6':=bne_no q1
           go_wp2
           go_quiet (fail)
           go_wp2
           go_ret
           exact reto_no (fun z=>q1 (by have e:=HX.out;rw[z.2,HY.out]at e;injection e with e _ _;exact e.symm)) (Go.below_drewN (Go.below_drewN GB.out _) _)
         ·have hlt':¬(k:Int)<m2.length:=by omega
          have HL:Hid (k=m1.length∧m1.length=m2.length):=⟨by omega,e7⟩
          go_wp2
          go_ret
          exact reto_yes ⟨⟨rfl,rfl,rfl,rfl,rfl,rfl⟩,ms_ext HL.out.2 (by rw[←HL.out.1];exact HE.out)⟩ (Go.below_drewN GB.out _)
       ·have e7':¬(m1.length:Int)=m2.length:=by omega
        have e7b:((m1.length:Int)==m2.length)=false:=by simp;omega
        clear H1 H2
        go_enter Tryz.func33,Tryz.ntmps33
        go_wp2
        go_ret
        exact reto_no (fun q=>e7 (by rw[q.2])) (HB2 _ _).out
      ·have b6:=beq_no e6
       have b6':=bne_no e6
       clear H1 H2
       go_enter Tryz.func33,Tryz.ntmps33
       go_wp2
       go_ret
       exact reto_no (fun q=>e6 q.1.2.2.2.2.2) (HB2 _ _).out
     ·have b6:=beq_no e5
      have b6':=bne_no e5
      clear H1 H2
      go_enter Tryz.func33,Tryz.ntmps33
      go_wp2
      go_ret
      exact reto_no (fun q=>e5 q.1.2.2.2.2.1) (HB2 _ _).out
    ·have b6:=beq_no e4
     have b6':=bne_no e4
     clear H1 H2
     go_enter Tryz.func33,Tryz.ntmps33
     go_wp2
     go_ret
     exact reto_no (fun q=>e4 q.1.2.2.2.1) (HB2 _ _).out
   ·have b6:=beq_no e3
    have b6':=bne_no e3
    clear H1 H2
    go_enter Tryz.func33,Tryz.ntmps33
    go_wp2
    go_ret
    exact reto_no (fun q=>e3 q.1.2.2.1) (HB2 _ _).out
  ·have b6:=beq_no e2
   have b6':=bne_no e2
   clear H1 H2
   go_enter Tryz.func33,Tryz.ntmps33
   go_wp2
   go_ret
   exact reto_no (fun q=>e2 q.1.2.1) (HB2 _ _).out
 ·have b6:(v1==v2)=false:=by simp[e1]
  have b6':(v1 !=v2)=true:=by simp[e1]
  clear H1 H2
  go_enter Tryz.func33,Tryz.ntmps33
  go_wp2
  go_ret
  exact reto_no (fun q=>e1 q.1.1) (HB2 _ _).out
theorem quads_inj:∀(a b:List (ByteArray×ByteArray×ByteArray)),a.flatMap quadL=b.flatMap quadL→a=b
 | [],[],_=>rfl
 | [],q::b,h=>by rw[List.flatMap_cons]at h;cases h
 |q::a,[],h=>by rw[List.flatMap_cons]at h;cases h
 |p::a,q::b,h=>by
  rw[List.flatMap_cons,List.flatMap_cons]at h
  obtain⟨h1,h2⟩:=List.append_inj h rfl
  rw[quads_inj a b h2]
  unfold quadL at h1
  injection h1 with _ h1
  injection h1 with e1 h1
  injection h1 with e2 h1
  injection h1 with e3 h1
  injection e1 with _ e1
  injection e2 with _ e2
  injection e3 with _ e3
  obtain⟨p1,p2,p3⟩:=p
  obtain⟨q1,q2,q3⟩:=q
  simp only at e1 e2 e3
  rw[e1,e2,e3]
theorem tail_inj{a b:Option (List (ByteArray×ByteArray×ByteArray))}(h:cTail a=cTail b):qsO a=qsO b:=by
 cases a with
 |none=>
  cases b with
  |none=>rfl
  |some q=>unfold cTail at h;injection h with h _;injection h with h _;exact absurd h (by decide)
 |some p=>
  cases b with
  |none=>unfold cTail at h;injection h with h _;injection h with h _;exact absurd h (by decide)
  |some q=>unfold cTail at h;injection h with _ h;exact quads_inj p q h
theorem tree_inj{c d:CT}(h:c.tree=d.tree):c.vt=d.vt∧c.s=d.s∧c.n=d.n∧c.ft=d.ft∧c.tt=d.tt∧c.k=d.k∧qsO c.ms=qsO d.ms:=by
 obtain⟨h1,h2⟩:=List.append_inj h rfl
 have key:∀j,vl (cHead c.vt c.s c.n c.pr c.ft c.tt c.k) j=vl (cHead d.vt d.s d.n d.pr d.ft d.tt d.k) j:=fun j=>by rw[h1]
 refine⟨?_,?_,?_,?_,?_,?_,tail_inj h2⟩
 ·have:=congrArg Vl.text (key 1);exact this
 ·have:=congrArg Vl.text (key 2);exact this
 ·have:=congrArg Vl.text (key 4);exact this
 ·have:=congrArg Vl.text (key 6);exact this
 ·have:=congrArg Vl.text (key 7);exact this
 ·have:=congrArg Vl.text (key 8);exact this
theorem qMk_quadM(m:Mks):qMk (quadM m)=m:=by
 obtain⟨k,b,t⟩:=m
 have h:((bT b).toList== [255])=b:=by
  rw[Lib.toList_data]
  cases b<;>rfl
 show(⟨k,(bT b).toList== [255],t⟩:Mks)=_
 rw[h]
theorem msOf_ct(v:Int)(s n:ByteArray)(pr:Bool)(f t k:ByteArray)(ms:List Mks):(qsO (ctOf v s n pr f t k ms).ms).map qMk=ms:=by
 show(qsO (msO ms)).map qMk=ms
 unfold msO
 split
 ·rename_i h
  rw[List.length_eq_zero_iff.1 h];rfl
 ·show(ms.map quadM).map qMk=ms
  rw[List.map_map]
  conv=>rhs;rw[←List.map_id ms]
  exact List.map_congr_left fun m _=>qMk_quadM m
theorem ver_b8{v:Int}(h0:0≤v)(h2:v≤2):b8 ⟨#[UInt8.ofNat v.toNat]⟩ 0=v:=by
 rcases(show v=0∨v=1∨v=2 by omega)with rfl|rfl|rfl<;>rfl
def RdSame(v:Int)(s n f t k:ByteArray)(ms:List Mks)(w:World)(e:Ending)(w':World):Prop:=
 Below w.heap.size w w'∧∃ma mc,e= .returned (.tuple #[cardV v s n f t k (.slice ma ms.length mc),.int .i64 0,.int .i64 0])∧MkIn w' ma ms
theorem read_same{v:Int}{s n f t k:ByteArray}{ms:List Mks}{pr:Bool}(hc:CardOk v s n f t k ms.length)(hm:MarksOk ms)(hp:pr=true↔ContentOk 8 n){w w':World}{e:Ending}(h:RetRC (.ok (ctOf v s n pr f t k ms).tree) w e w'):RdSame v s n f t k ms w e w':=by
 obtain⟨hb,h⟩:=h
 refine⟨hb,?_⟩
 rcases h with⟨_,_,q,_⟩|⟨c,pr',q,hok,hsz,hp',h⟩
 ·cases q
 injection q with q
 obtain⟨e1,e2,e3,e4,e5,e6,e7⟩:=tree_inj q.symm
 have g7:msOf c=ms:=by unfold msOf;rw[e7];exact msOf_ct _ _ _ _ _ _ _ _
 have g1:b8 c.vt 0=v:=by rw[e1];exact ver_b8 hc.v0 hc.v2
 have g2:c.s=s:=e2
 have g3:c.n=n:=e3
 have g4:c.ft=f:=e4
 have g5:c.tt=t:=e5
 have g6:c.k=k:=e6
 have ea:c.again pr'=ctOf v s n pr f t k ms:=by
  unfold CT.again
  rw[g1,g2,g3,g4,g5,g6,g7]
  have:pr'=pr:=by rw[Bool.eq_iff_iff,hp',hp,g3]
  rw[this]
 have et:c.tree=(c.again pr').tree:=by rw[ea];exact q.symm
 rw[g1,g2,g3,g4,g5,g6,g7]at h
 rcases h with⟨h1|h1,_⟩|⟨_,_,h1,_⟩|⟨_,_,_,ma,mc,he,ho⟩
 ·exact absurd et h1
 ·exact absurd hc h1
 ·exact absurd hm h1
 ·exact⟨ma,mc,he,MkIn.of_own ho⟩
def RdOther(v:Int)(s n f t k:ByteArray)(ms:List Mks)(w:World)(e:Ending)(w':World):Prop:=
 Below w.heap.size w w'∧((∃g q,g≠0∧e= .returned (.tuple #[cardZ,.int .i64 q,.int .i64 g]))∨
  (∃v2 s2 n2 f2 t2 k2 m2 ma mc,e= .returned (.tuple #[cardV v2 s2 n2 f2 t2 k2 (.slice ma (m2:List Mks).length mc),.int .i64 0,.int .i64 0])∧MkIn w' ma m2∧m2.length≤8∧¬(Alike v2 v s2 n2 f2 t2 k2 s n f t k∧m2=ms)))
theorem read_other{v:Int}{s n f t k:ByteArray}{ms:List Mks}{pr:Bool}(hc:CardOk v s n f t k ms.length)(hm:MarksOk ms)(hp:pr=true↔ContentOk 8 n)(hb4:(ctOf v s n pr f t k ms).bytes.size≤4000){d:ByteArray}(hd:d≠(ctOf v s n pr f t k ms).bytes){E:Env}{x:Except (Int×Int) (List Vl)}(hx:DecV E cS 0 d x)(hne:∀g q,x= .error (g,q)→g≠0){w w':World}{e:Ending}(h:RetRC x w e w'):RdOther v s n f t k ms w e w':=by
 obtain⟨hb,h⟩:=h
 refine⟨hb,?_⟩
 rcases h with⟨g,q,hq,he⟩|⟨c,pr',rfl,hok,hsz,hp',h⟩
 ·exact .inl ⟨g,q,hne g q hq,he⟩
 rcases h with⟨_,he⟩|⟨_,_,_,he⟩|⟨et,hco,hmo,ma,mc,he,ho⟩
 ·exact .inl ⟨12,0,by decide,he⟩
 ·exact .inl ⟨13,0,by decide,he⟩
 ·refine .inr ⟨_,_,_,_,_,_,msOf c,ma,mc,he,MkIn.of_own ho,?_,?_⟩
  ·have:=hco.mks
   unfold most at this
   split at this<;>omega
  ·rintro⟨⟨g1,g2,g3,g4,g5,g6⟩,g7⟩
   apply hd
   have ea:c.again pr'=ctOf v s n pr f t k ms:=by
    unfold CT.again
    rw[g1,g2,g3,g4,g5,g6,g7]
    have:pr'=pr:=by rw[Bool.eq_iff_iff,hp',hp,g3]
    rw[this]
   rw[et,ea]at hx
   exact card_other hc hm hp hb4 hx
theorem readSame_any{v:Int}{s n f t k:ByteArray}{ms:List Mks}{pr:Bool}(hc:CardOk v s n f t k ms.length)(hm:MarksOk ms)(hp:pr=true↔ContentOk 8 n)(hb4:(ctOf v s n pr f t k ms).bytes.size≤4000)(w:World)(sn:Sn→Addr)(za:Addr)(hl:Lay w sn)(hz:LayZ w sn za)(het:EtC w):
 Calls Tryz.prog 32 #[.string (ctOf v s n pr f t k ms).bytes] w fun e w'=>RdSame v s n f t k ms w e w':=by
 obtain⟨E,hE⟩:=card_back hc hm hp hb4
 obtain⟨E',x,hx,h⟩:=uniq_math cS_right.1 cS_ok 0 (by decide) (ctOf v s n pr f t k ms).bytes
 have e:=decV_one hE hx
 refine(readCard_any E _ _ w sn za hl hz het (by omega) hE fun vs hvs=>?_).mono fun e w' h=>read_same hc hm hp h
 rcases h with⟨_,_,q,_⟩|⟨us,_,q,_,hsz,_⟩
 ·rw[←e]at q;cases q
 ·rw[←e,hvs]at q;injection q with q;rw[q];exact hsz
theorem readOther_any{v:Int}{s n f t k:ByteArray}{ms:List Mks}{pr:Bool}(hc:CardOk v s n f t k ms.length)(hm:MarksOk ms)(hp:pr=true↔ContentOk 8 n)(hb4:(ctOf v s n pr f t k ms).bytes.size≤4000)(d:ByteArray)(hd:d≠(ctOf v s n pr f t k ms).bytes)(hdz:d.size≤9223372036854775807)(w:World)(sn:Sn→Addr)(za:Addr)(hl:Lay w sn)(hz:LayZ w sn za)(het:EtC w):
 Calls Tryz.prog 32 #[.string d] w fun e w'=>RdOther v s n f t k ms w e w':=by
 obtain⟨E,x,hx,h⟩:=uniq_math cS_right.1 cS_ok 0 (by decide) d
 refine(readCard_any E _ _ w sn za hl hz het hdz hx fun vs hvs=>?_).mono fun e w' h'=>read_other hc hm hp hb4 hd hx (fun g q hq=>?_) h'
 ·rcases h with⟨_,_,q,_⟩|⟨us,_,q,_,hsz,_⟩
  ·rw[hvs]at q;cases q
  ·rw[hvs]at q;injection q with q;rw[q];exact hsz
 ·rcases h with⟨k,q',hq',hk,_⟩|⟨us,_,q',_⟩
  ·rw[hq]at hq';injection hq' with hq';injection hq' with h1 _;rw[h1];exact hk
  ·rw[hq]at q';cases q'
end Go.Proofs.YtkkicodfpekbgaaGreatDoor
