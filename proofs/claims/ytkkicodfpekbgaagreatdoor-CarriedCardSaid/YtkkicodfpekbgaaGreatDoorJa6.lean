/-
Several texts in one.
-/
import Derived.Test.YtkkicodfpekbgaaGreatDoorJa0
import Derived.Test.YtkkicodfpekbgaaGreatDoorJa5
import Derived.Deep.AppendLies
import Derived.Deep.RegionLaw
import Derived.Lib.AppendZeros
import Derived.Lib.AppendZerosOnto
import Derived.Laws.Externs
import Derived.Laws.IdiomCopy
import Derived.Laws.NewBlocks
import Derived.Lib.Bytealg
import Derived.RangeFuncNested
import Derived.RangeFuncBound
import Derived.RangeFuncCalls
import Derived.RangeFuncLeaves
import Derived.RangeFuncBox
import Derived.Shelf.Abstract
import Derived.Shelf.RegionOpen
import Derived.WalkKit
import Derived.OwnWalkIn
import Derived.TacticsInMore
import Derived.LoopNIn
import Derived.LoopIn
import Derived.Test.YtkkicodfpekbgaaGreatDoorJa3
import Derived.Test.YtkkicodfpekbgaaGreatDoorJa4
namespace Go.Proofs.YtkkicodfpekbgaaGreatDoor
open Go.RowKit Go.Lib
set_option linter.unusedSimpArgs false
set_option linter.unusedVariables false
set_option maxRecDepth 100000
set_option maxHeartbeats 8000000
def layA:Array Value→Nat→List Value→Array Value
 |cur,_,[]=>cur
 |cur,o,v::r=>layA (cur.setIfInBounds o v) (o+1) r
theorem layA_list:∀(vs:List Value) (cur:Array Value) (o:Nat),o+vs.length≤cur.size→(layA cur o vs).toList=cur.toList.take o++vs++cur.toList.drop (o+vs.length)
 | [],cur,o,_=>by simp[layA]
 |v::r,cur,o,h=>by
  simp only[List.length_cons]at h
  rw[layA,layA_list r _ _ (by simp;omega)]
  have hl:o<cur.toList.length:=by simp;omega
  rw[Array.toList_setIfInBounds,List.take_add_one,List.getElem?_set_self hl,List.take_set_of_le (Nat.le_refl _),List.drop_set_of_lt (by omega)]
  simp only[Option.toList_some,List.append_assoc,List.cons_append,List.length_cons,List.nil_append]
  rw[show o+1+r.length=o+(r.length+1)by omega]
theorem layA_size(vs:List Value):∀(cur:Array Value) (o:Nat),(layA cur o vs).size=cur.size:=by
 induction vs with
 |nil=>intro cur o;rfl
 |cons v r ih=>intro cur o;rw[layA,ih];simp
theorem setCells_row(g:Nat)(T:TypeId)(fz:Nat×Nat):∀(vs:List Value) (o:Nat) (w:World) (cur:Array Value),w.heap[g]? =some (.cells cur T fz)→(w.setCells g o vs).heap[g]? =some (.cells (layA cur o vs) T fz)
 | [],_,_,_,h=>h
 |v::r,o,w,cur,h=>by
  rw[World.setCells,layA]
  refine setCells_row g T fz r (o+1) _ _ ?_
  simp[World.setCell,Array.getElem?_modify,h]
theorem setCells_other(g:Nat):∀(vs:List Value) (o:Nat) (w:World) (k:Nat),k≠g→(w.setCells g o vs).heap[k]? =w.heap[k]?
 | [],_,_,_,_=>rfl
 |v::r,o,w,k,h=>by
  rw[World.setCells,setCells_other g r _ _ k h]
  simp[World.setCell,Array.getElem?_modify,Ne.symm h]
theorem setCells_below{B g:Nat}(hb:B≤g){w0:World}:∀(vs:List Value) (o:Nat) (w:World),Below B w0 w→Below B w0 (w.setCells g o vs)
 | [],_,_,h=>h
 |v::r,o,w,h=>by
  rw[World.setCells]
  exact setCells_below hb r _ _ (h.setCell (p:=⟨g,o,none⟩) hb _)
theorem run_overlaps_str{P:Program}(w:World)(tS tR e:TypeId)(ht:P.underlying tS=some (.slice e))(size:Nat)(hz:∀w,(Go.sizeOf e).run P w= .ok size w)
 (a b:Addr)(la ca lb cb:Nat)(hne:a.block≠b.block)(tA tB:TypeId)(kA kB:Nat)
 (hsa:w.shape? a.block=some (tA,kA))(hsb:w.shape? b.block=some (tB,kB))(hkA:kA≠0)
 (hfa:w.frozen? a=false)(hfb:w.frozen? b=false)(hfe:w.frozen? {block:=b.block,off:=kB}=false):
 (Extern.SlicesOverlaps.overlaps #[tS,tS] #[tR] #[.slice (some a) la ca,.slice (some b) lb cb]).run P w= .ok (.bool false) w:=by
 have hnb:(a.block !=b.block)=true:=by simpa using hne
 have hnb':(a.block==b.block)=false:=by simpa using hne
 change Sem.run P (α:=Value) (do
  let some t:=(#[tS,tS]:Array TypeId)[0]? |stuck "slices.overlaps: no parameter types"
  let .slice elem←underlying t|stuck "slices.overlaps: slice type expected"
  let size←sizeOf elem
  match(some a:Option Addr),(some b:Option Addr)with
  |some a,some b=>
   if la=0∨lb=0∨size=0 then pure (Value.bool false)
   else if a.block !=b.block&&(←frozen a)&&(←frozen b)then unsupported .addressObserved
   else do
    if a.block !=b.block then do
     noView a;noView b
     if←mayBeOne a b then return Value.bool ((←choose (.extern "sameAddr.stringBytes" 2))==1)
    pure (Value.bool (a.block==b.block&&a.off<b.off+lb*size&&b.off<a.off+la*size))
  |_,_=>pure (Value.bool false)) w=_
 by_cases h0:la=0∨lb=0∨size=0
 ·simp[run_underlying ht,hz,h0]
 ·cases kA with
  |zero=>exact absurd rfl hkA
  |succ kA=>
   cases hq:w.frozen? {block:=a.block,off:=kA+1} <;>
   simp[run_underlying ht,hz,h0,hnb,hnb',frozen,noView,viewAt,mayBeOne,stringish,shape,Sem.run,hsa,hsb,hfa,hfb,hfe,hq]
theorem hidei{p:Prop}(h:p):Hid p:=h
theorem wp_copyB(w:World){o:Oper}{a:Act}{K:Act→World→Prop}{Q:Exit→Act→World→Prop}(d s:Operand)(t t':TypeId)
 (ho:o.op= .call {callee:= .builtin .copy,args:=#[d,s],argTypes:=#[t,t']})(v u:Value)(hd:a.eval d=v)(hs:a.eval s=u){v':Value}{w':World}
 (hr:(Builtin.copy_ #[t,t'] o.type #[v,u]).run Tryz.prog w= .ok v' w')(h:K (a.put o.dst v') w'):o.wp Tryz.prog a w K Q:=by
 unfold Oper.wp execOp
 simp only[ho,resolve,invoke,builtin,Sem.run_bind,Sem.run_pure,Result.andThen_ok,List.map_toArray,List.map_cons,List.map_nil,hd,hs,hr]
 exact h
theorem wpList_copyB(w:World){ops:Array Oper}{rest:List Oper}{o:Oper}{a:Act}{Q:Exit→Act→World→Prop}(hgd:o.guard=none)(d s:Operand)(t t':TypeId)
 (ho:o.op= .call {callee:= .builtin .copy,args:=#[d,s],argTypes:=#[t,t']})(v u:Value)(hd:a.eval d=v)(hs:a.eval s=u){v':Value}{w':World}
 (hr:(Builtin.copy_ #[t,t'] o.type #[v,u]).run Tryz.prog w= .ok v' w')(h:wpList Tryz.prog ops Q rest (a.put o.dst v') w'):wpList Tryz.prog ops Q (o::rest) a w:=
 wpList_plain hgd fun _ hK=>wp_copyB w d s t t' ho v u hd hs hr (hK _ _ h)
theorem step_copyB{ops:Array Oper}{o:Oper}{a:Act}{w:World}{K:Act→World→Prop}{Q:Exit→Act→World→Prop}{E:Prop}
 (hg:o.guard=none)(d x:Operand)(dT sT:TypeId)(hop:o.op=Op.call {callee:=Callee.builtin Builtin.copy,args:=#[d,x],argTypes:=#[dT,sT]})
 (v u:Value)(hd:a.eval d=v)(hx:a.eval x=u){v':Value}{w':World}(hr:(Builtin.copy_ #[dT,sT] o.type #[v,u]).run Tryz.prog w= .ok v' w')(hK:K (a.put o.dst v') w'):
 if Region.wanted o (yielded ops a.tmps)=true then Oper.wp Tryz.prog o a w K Q else E:=by
 have hw:Region.wanted o (yielded ops a.tmps)=true:=by simp[Region.wanted,hg]
 rw[if_pos hw]
 unfold Oper.wp
 simp[execOp,hop,resolve,invoke,builtin,hd,hx,hr,Result.andThen]
 exact hK
theorem isSomeC(b:Nat)(vs:List Value)(o:Nat)(w:World)(h:∀j,j<vs.length→(w.cell? ⟨b,o+j,none⟩).isSome=true)(k:Nat)(hk:(w.cell? ⟨b,k,none⟩).isSome=true):((w.setCells b o vs).cell? ⟨b,k,none⟩).isSome=true:=by
 by_cases hin:o≤k∧k<o+vs.length
 ·have:=World.cell?_setCells_in b vs o w h (k-o) (by omega)
  rw[show o+(k-o)=k by omega]at this
  rw[this];rfl
 ·rw[World.cell?_setCells_out b vs o w ⟨b,k,none⟩ (fun _ _=>by show k<o∨o+vs.length≤k;omega)]
  exact hk
theorem Tryz.size8(w:World):(Go.sizeOf 5).run Tryz.prog w= .ok 1 w:=by
 obtain⟨i0,hi,hz0,hz1,hz2⟩:=info_parts Tryz.info8
 simp[sizeOf,typeInfo,hi,hz1]
theorem ins_shift(b n c i vb m vc:Nat)(cs vs:List Value)(w:World)(hi:i<n)(hm:0<m)(hroom:n+m≤c)(hc63:c≤9223372036854775807)(hvb:vb≠b)
 (hcl:cs.length=n)(hvl:vs.length=m)
 (hcs:∀j v,cs[j]? =some v→w.cell? ⟨b,j,none⟩=some v)(hsp:∀j,j<n+m→(w.cell? ⟨b,j,none⟩).isSome=true)(hfz:∀j,w.frozen? ⟨b,j,none⟩=false)
 (hvs:∀j v,vs[j]? =some v→w.cell? ⟨vb,j,none⟩=some v)(h1c:∀v∈cs,v.oneCell'=true)(h1v:∀v∈vs,v.oneCell'=true)
 (tA tB:TypeId)(kA kB:Nat)(hsa:w.shape? vb=some (tA,kA))(hsb:w.shape? b=some (tB,kB))(hkA:kA≠0)(hfa:w.frozen? ⟨vb,0,none⟩=false):
 Calls Tryz.prog 182 #[.slice (some ⟨b,0,none⟩) n c,.int .i64 i,.slice (some ⟨vb,0,none⟩) m vc] w fun e w'=>
  e= .returned (.slice (some ⟨b,0,none⟩) (n+m) c)∧w'=(w.drew.setCells b (i+m) (cs.drop i)).setCells b i vs:=by
 obtain⟨i0,hi0,hz0,hzs,hzb⟩:=info_parts Tryz.info8
 have hz1:¬((m:Int)=0):=by omega
 have hz2:¬((i:Int)=(n:Int)):=by omega
 have hsz:(Tryz.prog.info? 5).map (·.size)=some 1:=by rw[hi0];simp[hzs]
 have hov:∀lb cb,(callFunc 200 #[.slice (some ⟨vb,0,none⟩) m vc,.slice (some ⟨b,i+m,none⟩) lb cb]).run Tryz.prog w= .ok (.value (.bool false)) w:=fun lb cb=>by
  rw[run_callFunc_extern Tryz.func200 (by kernel_rfl) (by kernel_rfl) (by kernel_rfl) (e:=Extern.SlicesOverlaps.overlaps #[52,52] #[4]) (by kernel_rfl),
   run_overlaps_str w 52 4 5 Tryz.underlying52 1 Tryz.size8 ⟨vb,0,none⟩ ⟨b,i+m,none⟩ m vc lb cb hvb tA tB kA kB hsa hsb hkA hfa (hfz _) (hfz _)]
  rfl
 have hdl:(cs.drop i).length=n-i:=by rw[List.length_drop,hcl]
 have hw1:IntKind.i64.wrap ((i:Int)+(m:Int))=(i:Int)+(m:Int):=by rw[IntKind.wrap_i64];omega
 have hb1:(0:Int)≤(i:Int)+(m:Int):=by omega
 have hin:i≤n:=by omega
 have htn:((i:Int)+(m:Int)).toNat=i+m:=by omega
 have hb2:¬(c=i+m):=by omega
 have hb3:(i:Int)≤(n:Int)+(m:Int):=by omega
 have hb4:¬(c=i):=by omega
 have hcp1:∀ty dc sc,(Builtin.copy_ #[52,52] ty #[.slice (some ⟨b,i+m,none⟩) (n+m-(i+m)) dc,.slice (some ⟨b,i,none⟩) (n+m-i) sc]).run Tryz.prog w.drew= .ok (goInt (cs.drop i).length) (w.drew.setCells b (i+m) (cs.drop i)):=fun ty dc sc=>
  run_copy_cells w.drew _ _ ty 5 b (i+m) (n+m-(i+m)) dc ⟨b,i,none⟩ (n+m-i) sc (cs.drop i) Tryz.underlying52 hsz (by rw[hdl];simp only[Nat.min_def];split<;>omega)
   (fun j v hj=>by rw[Addr.add_lit];exact hcs (i+j) v (by rwa[List.getElem?_drop]at hj))
   (fun j hj=>hsp _ (by omega)) (fun j hj=>hfz _) (fun v hv=>h1c v (List.mem_of_mem_drop hv))
 obtain⟨W1,hW1⟩:∃W1,W1=w.drew.setCells b (i+m) (cs.drop i):=⟨_,rfl⟩
 have hsp1:∀k,k<n+m→(W1.cell? ⟨b,k,none⟩).isSome=true:=fun k hk=>by
  rw[hW1]
  exact isSomeC b (cs.drop i) (i+m) w.drew (fun j hj=>hsp (i+m+j) (by rw[hdl]at hj;omega)) k (hsp k hk)
 have hcp2:∀(W:World),(∀x,W.cell? x=W1.cell? x)→(∀x,W.frozen? x=W1.frozen? x)→∀ty dc,(Builtin.copy_ #[52,52] ty #[.slice (some ⟨b,i,none⟩) (n+m-i) dc,.slice (some ⟨vb,0,none⟩) m vc]).run Tryz.prog W= .ok (goInt vs.length) (W.setCells b i vs):=fun W hWc hWf ty dc=>
  run_copy_cells W _ _ ty 5 b i (n+m-i) dc ⟨vb,0,none⟩ m vc vs Tryz.underlying52 hsz (by rw[hvl];simp only[Nat.min_def];split<;>omega)
   (fun j v hj=>by
     rw[Addr.add_lit,hWc,hW1,World.cell?_setCells_out b _ _ _ _ (fun h _=>absurd h hvb),Nat.zero_add]
     exact hvs j v hj)
   (fun j hj=>by rw[hWc];exact hsp1 _ (by omega)) (fun j hj=>by rw[hWf,hW1,World.frozen?_setCells];exact hfz _) h1v
 rw[←hW1]at hcp1
 go_enter Tryz.func182,Tryz.ntmps182
 go_wp2_with (simp only[hov])
 go_region_law (refine step_copyB rfl _ _ 52 52 rfl _ _ (by simp[Act.eval,Act.put]) (by simp[Act.eval,Act.put]) (hcp1 _ _ _) ?_)
 go_wp2_with (at_builtin;refine wpList_copyB _ rfl _ _ 52 52 rfl _ _ rfl rfl (hcp2 _ (fun _=>rfl) (fun _=>rfl) _ _) ?_)
 go_ret
 first|exact⟨rfl,rfl⟩|exact⟨rfl,by rw[hW1]⟩
theorem ins_grow(b n c i vb m vc:Nat)(cs vs:List Value)(w:World)(hi:i<n)(hm:0<m)(hnc:n≤c)(hroom:c<n+m)(hbig:(n+m)*1≤140737488355328)
 (hcl:cs.length=n)(hvl:vs.length=m)
 (hcs:∀j v,cs[j]? =some v→w.cell? ⟨b,j,none⟩=some v)
 (hvs:∀j v,vs[j]? =some v→w.cell? ⟨vb,j,none⟩=some v)(h1c:∀v∈cs,v.oneCell'=true)(h1v:∀v∈vs,v.oneCell'=true):
 Calls Tryz.prog 182 #[.slice (some ⟨b,0,none⟩) n c,.int .i64 i,.slice (some ⟨vb,0,none⟩) m vc] w fun e w'=>
  ∃G,n+m≤G∧G≤maxLen∧e= .returned (.slice (some ⟨w.heap.size,0,none⟩) (n+m) G)∧
  w'=(((w.alloc (.cells ((cs.take i).toArray++Builtin.zeroCells (Value.int .u8 0).cells (n+m-i)++Builtin.zeroCells (Value.int .u8 0).cells (G-(n+m))) 5)).drew.setCells w.heap.size i vs).drew).setCells w.heap.size (i+m) (cs.drop i):=by
 obtain⟨i0,hi0,hz0,hzs,hzb⟩:=info_parts Tryz.info8
 have hz1:¬((m:Int)=0):=by omega
 have hz2:¬((i:Int)=(n:Int)):=by omega
 have hz3:(c:Int)<(n:Int)+(m:Int):=by omega
 have hsz:(Tryz.prog.info? 5).map (·.size)=some 1:=by rw[hi0];simp[hzs]
 have hbw:b<w.heap.size:=block_lt_of_cell (hcs 0 _ (List.getElem?_eq_getElem (by omega)))
 have hvw:vb<w.heap.size:=block_lt_of_cell (hvs 0 _ (List.getElem?_eq_getElem (by omega)))
 have hkk:(n:Int)+(m:Int)-(i:Int)=((n+m-i:Nat):Int):=by omega
 have hik:i+(n+m-i)=n+m:=by omega
 have hold:(Builtin.firstCells i0.size i (.slice (some ⟨b,0,none⟩) i c)).run Tryz.prog w.drew= .ok (cs.take i).toArray w.drew:=by
  rw[hzs]
  exact run_firstCells_some w.drew 1 i ⟨b,0,none⟩ i c (cs.take i) (by rw[List.length_take];omega) (fun j v hj=>by
   rw[Addr.add_lit,Nat.zero_add]
   rw[List.getElem?_take]at hj
   split at hj
   ·exact hcs j v hj
   ·cases hj)
 have hrz:∀ty,(Builtin.append_ #[52,3] ty #[.slice (some ⟨b,0,none⟩) i c,.int .i64 ((n:Int)+(m:Int)-(i:Int))]).run Tryz.prog w=
  .ok (.slice (some ⟨w.heap.size,0,none⟩) (n+m) (grownCap w (n+m) c 5)) (w.drew.alloc (.cells ((cs.take i).toArray++Builtin.zeroCells (Value.int .u8 0).cells (n+m-i)++Builtin.zeroCells (Value.int .u8 0).cells (grownCap w (n+m) c 5-(n+m))) 5)):=fun ty=>by
  have h:=Lib.run_append_grow_zeros w 52 3 ty 5 i0 _ .i64 .i64 Tryz.underlying52 Tryz.underlying3 hi0 hz0 (some ⟨b,0,none⟩) i c (cs.take i) hold (n+m-i) (by omega) (by omega) (by omega) (by omega) (by rw[hzb];omega) (by rw[hzb,hik];exact growslice_fits hroom hbig)
  rw[hik]at h
  rw[hkk]
  exact h
 obtain⟨G,hG⟩:∃G,G=grownCap w (n+m) c 5:=⟨_,rfl⟩
 obtain⟨ROW,hROW⟩:∃ROW:Array Value,ROW=(cs.take i).toArray++Builtin.zeroCells (Value.int .u8 0).cells (n+m-i)++Builtin.zeroCells (Value.int .u8 0).cells (G-(n+m)):=⟨_,rfl⟩
 have HROW:=hidei hROW
 rw[←hG]at hrz
 rw[←hROW]at hrz
 have hRl:n+m≤ROW.size:=by
  rw[hROW]
  simp[Builtin.zeroCells,Value.cells]
  omega
 obtain⟨W1,hW1⟩:∃W1,W1=w.drew.alloc (.cells ROW 5):=⟨_,rfl⟩
 rw[←hW1]at hrz
 have hN:∀j,j<n+m→(W1.cell? ⟨w.heap.size,j,none⟩).isSome=true:=fun j hj=>by
  rw[hW1,World.cell?_alloc_at (w:=w.drew) ROW _ w.heap.size j rfl,Array.getElem?_eq_getElem (by omega)];rfl
 have hNf:∀j,W1.frozen? ⟨w.heap.size,j,none⟩=false:=fun j=>by rw[hW1];exact World.frozen?_alloc_at (w:=w.drew) ROW _ w.heap.size j rfl
 have hOb:∀j v,w.cell? ⟨b,j,none⟩=some v→W1.cell? ⟨b,j,none⟩=some v:=fun j v h=>by rw[hW1,World.cell?_alloc_past (w:=w.drew) _ b j hbw];exact h
 have hOv:∀j v,w.cell? ⟨vb,j,none⟩=some v→W1.cell? ⟨vb,j,none⟩=some v:=fun j v h=>by rw[hW1,World.cell?_alloc_past (w:=w.drew) _ vb j hvw];exact h
 have hcpA:∀(W:World),(∀x,W.cell? x=W1.cell? x)→(∀x,W.frozen? x=W1.frozen? x)→∀ty dc,(Builtin.copy_ #[52,52] ty #[.slice (some ⟨w.heap.size,i,none⟩) (n+m-i) dc,.slice (some ⟨vb,0,none⟩) m vc]).run Tryz.prog W= .ok (goInt vs.length) (W.setCells w.heap.size i vs):=fun W hWc hWf ty dc=>
  run_copy_cells W _ _ ty 5 w.heap.size i (n+m-i) dc ⟨vb,0,none⟩ m vc vs Tryz.underlying52 hsz (by rw[hvl];simp only[Nat.min_def];split<;>omega)
   (fun j v hj=>by rw[Addr.add_lit,hWc,Nat.zero_add];exact hOv _ v (hvs j v hj))
   (fun j hj=>by rw[hWc];exact hN _ (by omega)) (fun j hj=>by rw[hWf];exact hNf _) h1v
 have hGn:n+m≤G:=by rw[hG];exact grownCap_ge w _ _ _
 have hGm:G≤maxLen:=by
  have:=grownCap_le_maxLen w (n+m) c 5 (by unfold maxLen;omega)
  rw[←hG]at this
  exact this
 have hG63:G≤9223372036854775807:=by
  unfold maxLen at hGm
  omega
 have HGN:Hid (n+m≤G∧G≤maxLen):=⟨hGn,hGm⟩
 have hGi:¬(G=i):=by omega
 have hGim:¬(G=i+m):=by omega
 have hci:¬(c=i):=by omega
 have hbN:b≠w.heap.size:=by omega
 have hdl:(cs.drop i).length=n-i:=by rw[List.length_drop,hcl]
 have hcpB:∀(W:World),(∀x,W.cell? x=(W1.setCells w.heap.size i vs).cell? x)→(∀x,W.frozen? x=(W1.setCells w.heap.size i vs).frozen? x)→∀ty dc sc,(Builtin.copy_ #[52,52] ty #[.slice (some ⟨w.heap.size,i+m,none⟩) (n+m-(i+m)) dc,.slice (some ⟨b,i,none⟩) (n-i) sc]).run Tryz.prog W= .ok (goInt (cs.drop i).length) (W.setCells w.heap.size (i+m) (cs.drop i)):=fun W hWc hWf ty dc sc=>
  run_copy_cells W _ _ ty 5 w.heap.size (i+m) (n+m-(i+m)) dc ⟨b,i,none⟩ (n-i) sc (cs.drop i) Tryz.underlying52 hsz (by rw[hdl];simp only[Nat.min_def];split<;>omega)
   (fun j v hj=>by
     rw[Addr.add_lit,hWc,World.cell?_setCells_out _ _ _ _ _ (fun h _=>absurd h hbN)]
     exact hOb _ v (hcs (i+j) v (by rwa[List.getElem?_drop]at hj)))
   (fun j hj=>by rw[hWc];exact isSomeC _ _ _ _ (fun t ht=>hN _ (by omega)) _ (hN _ (by omega)))
   (fun j hj=>by rw[hWf,World.frozen?_setCells];exact hNf _) (fun v hv=>h1c v (List.mem_of_mem_drop hv))
 subst hW1
 have hE1:∀x,((w.alloc (.cells ROW 5)).drew).cell? x=(w.drew.alloc (.cells ROW 5)).cell? x:=fun x=>rfl
 have hE2:∀x,((w.alloc (.cells ROW 5)).drew).frozen? x=(w.drew.alloc (.cells ROW 5)).frozen? x:=fun x=>rfl
 have hF1:∀x,(((w.alloc (.cells ROW 5)).drew.setCells w.heap.size i vs).drew).cell? x=((w.drew.alloc (.cells ROW 5)).setCells w.heap.size i vs).cell? x:=fun x=>rfl
 have hF2:∀x,(((w.alloc (.cells ROW 5)).drew.setCells w.heap.size i vs).drew).frozen? x=((w.drew.alloc (.cells ROW 5)).setCells w.heap.size i vs).frozen? x:=fun x=>rfl
 have hw1:IntKind.i64.wrap ((i:Int)+(m:Int))=(i:Int)+(m:Int):=by rw[IntKind.wrap_i64];omega
 have hb1:(0:Int)≤(i:Int)+(m:Int):=by omega
 have hin:i≤n:=by omega
 have htn:((i:Int)+(m:Int)).toNat=i+m:=by omega
 have hb3:(i:Int)≤(n:Int):=by omega
 clear hkk hik hold hROW hG hRl
 go_enter Tryz.func182,Tryz.ntmps182
 go_wp2_with (first
  |(at_builtin;refine Lib.wpList_append_run _ rfl _ _ _ _ rfl _ _ rfl rfl _ _ (hrz _) ?_)
  |(at_builtin;refine wpList_copyB _ rfl _ _ 52 52 rfl _ _ rfl rfl (hcpA _ hE1 hE2 _ _) ?_)
  |(at_builtin;refine wpList_copyB _ rfl _ _ 52 52 rfl _ _ rfl rfl (hcpB _ (fun _=>rfl) (fun _=>rfl) _ _ _) ?_))
 go_region_law (refine step_copyB rfl _ _ 52 52 rfl (.slice (some ⟨w.heap.size,i+m,none⟩) (n+m-(i+m)) (G-(i+m))) (.slice (some ⟨b,i,none⟩) (n-i) (c-i)) (by simp[Act.eval,Act.put]) (by simp[Act.eval,Act.put]) (hcpB _ hF1 hF2 3 (G-(i+m)) (c-i)) ?_)
 go_wp2
 go_ret
 exact⟨G,HGN.out.1,HGN.out.2,rfl,by rw[←HROW.out]⟩
def InsP(B:Nat)(n:Nat)(cs:List Value)(w:World)(e:Ending)(w':World):Prop:=
 ∃v',e= .returned v'∧w'.ownsRow B 5 1 v' n cs∧Below B w w'∧∀(k:Nat) (o:Obj),(∀A,o≠ .cells A 5 (0,0))→w.heap[k]? =some o→w'.heap[k]? =some o
theorem ins_end(B:Nat)(tv:Value)(n vb m vc:Nat)(cs vs:List Value)(w:World)(hown:w.ownsRow B 5 1 tv n cs)(hm:0<m)(hnm:n+m≤4000)(hB:B≤w.heap.size)
 (hvl:vs.length=m)(hvs:∀j v,vs[j]? =some v→w.cell? ⟨vb,j,none⟩=some v)(h1v:∀v∈vs,v.oneCell'=true):
 Calls Tryz.prog 182 #[tv,.int .i64 n,.slice (some ⟨vb,0,none⟩) m vc] w fun e w'=>InsP B (n+m) (cs++vs) w e w':=by
 obtain⟨i0,hi0,hz0,hzs,hzb⟩:=info_parts Tryz.info8
 have HO:=hidei hown
 have hz1:¬((m:Int)=0):=by omega
 have hvs':∀j u,vs[j]? =some u→w.cell? ((⟨vb,0,none⟩:Addr).add j)=some u:=fun j u hj=>by rw[Addr.add_lit,Nat.zero_add];exact hvs j u hj
 have hfin:∀g cap w',w'.ownsRow B 5 1 (.slice (some ⟨g,0,none⟩) (n+m) cap) (n+m) (cs++vs)→w.grownBy w' tv.ownBlock→InsP B (n+m) (cs++vs) w (.returned (.slice (some ⟨g,0,none⟩) (n+m) cap)) w':=fun g cap w' h1 h2=>by
  refine⟨_,rfl,h1,(Below.refl B w).grown h2 hB fun k hk=>(hown.lt k hk).1,fun k o hT hg=>?_⟩
  rw[h2.block k (row_lt hg) ?_]
  ·exact hg
  ·rcases hown.2 with⟨rfl,_⟩|⟨g',c',cur,rfl,_,hgg,_⟩
   ·intro q;cases q
   ·intro q
    simp only[Value.ownBlock,Option.some.injEq]at q
    subst q
    rw[hgg]at hg
    injection hg with hg
    exact hT cur hg.symm
 have HFIN:=hidei hfin
 clear hfin
 have hnc:∃bs cp,tv= .slice bs n cp:=by
  rcases hown.2 with⟨rfl,h⟩|⟨g',c',cur,rfl,_⟩
  ·exact⟨none,0,by rw[h]⟩
  ·exact⟨_,_,rfl⟩
 have hcap:∃bs cp,tv= .slice bs n cp∧n≤cp∧cp≤maxLen:=by
  rcases hown.2 with⟨rfl,h⟩|⟨g',c',cur,rfl,_,_,h1,h2,_⟩
  ·exact⟨none,0,by rw[h],by omega,by unfold maxLen;omega⟩
  ·exact⟨_,_,rfl,h1,h2⟩
 obtain⟨bs,cp,rfl,hc1,hc2⟩:=hcap
 have hc3:cp≤9223372036854775807:=by unfold maxLen at hc2;omega
 have hbs:bs=none∨∃g,bs=some ⟨g,0,none⟩:=by
  rcases hown.2 with⟨h,_⟩|⟨g',c',cur,h,_⟩
  ·injection h with h;exact .inl h
  ·injection h with h;exact .inr ⟨g',h⟩
 clear hown hnc hvs
 go_enter Tryz.func182,Tryz.ntmps182
 rcases hbs with rfl|⟨g0,rfl⟩
 ·go_wp2_with (at_builtin;refine wpList_append_lies _ rfl _ _ 52 rfl B 5 i0 (.int .u8 0) 1 1 Tryz.underlying52 hi0 hz0 hzs hzb rfl (by decide) _ n cs rfl HO.out ⟨vb,0,none⟩ m vc vs rfl (by omega) hvs' h1v hm (by unfold maxLen;omega) (by omega) hB w.heap.size rfl ?_;intro g cap w' h1 h2 h3 h4)
  all_goals
   go_ret
   exact HFIN.out _ _ _ h1 h2
 ·go_wp2_with (at_builtin;refine wpList_append_lies _ rfl _ _ 52 rfl B 5 i0 (.int .u8 0) 1 1 Tryz.underlying52 hi0 hz0 hzs hzb rfl (by decide) _ n cs rfl HO.out ⟨vb,0,none⟩ m vc vs rfl (by omega) hvs' h1v hm (by unfold maxLen;omega) (by omega) hB w.heap.size rfl ?_;intro g cap w' h1 h2 h3 h4)
  all_goals
   go_ret
   exact HFIN.out _ _ _ h1 h2
theorem ins_any(B:Nat)(tv:Value)(n i vb m vc:Nat)(cs vs:List Value)(CUR:Array Value)(fz:Nat×Nat)(w:World)(hown:w.ownsRow B 5 1 tv n cs)(hi:i≤n)(hm:0<m)(hnm:n+m≤4000)(hB:B≤w.heap.size)
 (hvb:w.heap[vb]? =some (.cells CUR 5 fz))(hfz:0<fz.1)(hCUR:CUR.toList.take m=vs)(hvl:vs.length=m)(h1c:∀v∈cs,v.oneCell'=true)(h1v:∀v∈vs,v.oneCell'=true):
 Calls Tryz.prog 182 #[tv,.int .i64 i,.slice (some ⟨vb,0,none⟩) m vc] w fun e w'=>InsP B (n+m) (cs.take i++vs++cs.drop i) w e w':=by
 have hcl:cs.length=n:=by have:=hown.1;omega
 have hvs:∀j v,vs[j]? =some v→w.cell? ⟨vb,j,none⟩=some v:=fun j v hj=>by
  rw[←hCUR,List.getElem?_take]at hj
  split at hj
  ·simp[World.cell?,hvb];simpa using hj
  ·cases hj
 have hCs:m≤CUR.size:=by
  have:=congrArg List.length hCUR
  rw[List.length_take]at this
  simp at this
  omega
 by_cases hin:i=n
 ·subst hin
  rw[List.take_of_length_le (by omega),List.drop_of_length_le (by omega),List.append_nil]
  exact ins_end B tv i vb m vc cs vs w hown hm hnm hB hvl hvs h1v
 have hlt:i<n:=by omega
 rcases hown.2 with⟨_,h⟩|⟨g,cap,cur,rfl,hBg,hg,hnc,hcm,hcs,hct⟩
 ·omega
 rw[Nat.mul_one]at hcs hct
 have hct':cur.toList.take n=cs:=hct
 have hne:vb≠g:=by
  rintro rfl
  rw[hg]at hvb
  injection hvb with hvb
  injection hvb with _ _ h3
  subst h3
  simp at hfz
 have hcell:∀j v,cs[j]? =some v→w.cell? ⟨g,j,none⟩=some v:=fun j v hj=>by
  rw[←hct',List.getElem?_take]at hj
  split at hj
  ·simp[World.cell?,hg];simpa using hj
  ·cases hj
 have hcap:cap≤9223372036854775807:=by unfold maxLen at hcm;omega
 by_cases hroom:n+m≤cap
 ·refine(ins_shift g n cap i vb m vc cs vs w hlt hm hroom hcap hne hcl hvl hcell (fun j hj=>?_) (fun j=>frozen_of_row w g j cur _ hg) hvs h1c h1v 5 5 CUR.size cur.size ?_ ?_ (by omega) ?_).mono ?_
  ·simp[World.cell?,hg];omega
  ·simp[World.shape?,hvb]
  ·simp[World.shape?,hg]
  ·simp[World.frozen?,hvb];omega
  ·rintro e w' ⟨rfl,rfl⟩
   have hr1:w.drew.heap[g]? =some (.cells cur 5 (0,0)):=hg
   have hr2:=setCells_row g 5 (0,0) vs i _ _ (setCells_row g 5 (0,0) (cs.drop i) (i+m) _ _ hr1)
   have hdl:(cs.drop i).length=n-i:=by rw[List.length_drop,hcl]
   have l1:=layA_list (cs.drop i) cur (i+m) (by rw[hdl];omega)
   have l2:=layA_list vs (layA cur (i+m) (cs.drop i)) i (by rw[layA_size];omega)
   refine⟨_,rfl,⟨by simp;omega,.inr ⟨g,cap,_,rfl,hBg,hr2,hroom,hcm,by rw[layA_size,layA_size];omega,?_⟩⟩,setCells_below hBg _ _ _ (setCells_below hBg _ _ _ (Below.refl _ _).drew),fun k o hT hk=>?_⟩
   ·rw[l2,l1,hdl,hvl,Nat.mul_one]
    have e1:((cur.toList.take (i+m)++cs.drop i++cur.toList.drop (i+m+(n-i))).take i)=cs.take i:=by
     rw[List.append_assoc,List.take_append_of_le_length (by simp;omega),List.take_take,Nat.min_eq_left (by omega),←hct',List.take_take,Nat.min_eq_left (by omega)]
    have e2:((cur.toList.take (i+m)++cs.drop i++cur.toList.drop (i+m+(n-i))).drop (i+m))=cs.drop i++cur.toList.drop (i+m+(n-i)):=by
     rw[List.append_assoc]
     exact List.drop_left' (by simp;omega)
    rw[e1,e2,←List.append_assoc]
    exact List.take_left' (by simp;omega)
   ·have hkg:k≠g:=by
     rintro rfl
     rw[hg]at hk
     injection hk with hk
     exact hT cur hk.symm
    rw[setCells_other g _ _ _ k hkg,setCells_other g _ _ _ k hkg]
    exact hk
 ·refine(ins_grow g n cap i vb m vc cs vs w hlt hm hnc (by omega) (by omega) hcl hvl hcell hvs h1c h1v).mono ?_
  rintro e w' ⟨G,hG1,hG2,rfl,rfl⟩
  have hdl:(cs.drop i).length=n-i:=by rw[List.length_drop,hcl]
  obtain⟨ROW,hROW⟩:∃ROW:Array Value,ROW=(cs.take i).toArray++Builtin.zeroCells (Value.int .u8 0).cells (n+m-i)++Builtin.zeroCells (Value.int .u8 0).cells (G-(n+m)):=⟨_,rfl⟩
  have hRs:ROW.size=G:=by rw[hROW];simp[Builtin.zeroCells,Value.cells];omega
  have hRt:ROW.toList.take i=cs.take i:=by
   rw[hROW,Array.toList_append,Array.toList_append,List.append_assoc]
   exact List.take_left' (by simp;omega)
  rw[←hROW]
  have hr1:(w.alloc (.cells ROW 5)).drew.heap[w.heap.size]? =some (.cells ROW 5 (0,0)):=heap_alloc_new w _
  have hr2:=setCells_row w.heap.size 5 (0,0) vs i _ _ hr1
  have hr3:=setCells_row w.heap.size 5 (0,0) (cs.drop i) (i+m) _ _ (show(((w.alloc (.cells ROW 5)).drew.setCells w.heap.size i vs).drew).heap[w.heap.size]? =_ from hr2)
  have l1:=layA_list vs ROW i (by omega)
  have l2:=layA_list (cs.drop i) (layA ROW i vs) (i+m) (by rw[layA_size,hdl];omega)
  have hbw:Below B w (w.alloc (.cells ROW 5)).drew:=((Below.refl _ _).alloc hB _).drew
  refine⟨_,rfl,⟨by simp;omega,.inr ⟨w.heap.size,G,_,rfl,hB,hr3,hG1,hG2,by rw[layA_size,layA_size];omega,?_⟩⟩,setCells_below hB _ _ _ (setCells_below hB _ _ _ hbw).drew,fun k o hT hk=>?_⟩
  ·rw[l2,l1,hvl,hRt,hdl,Nat.mul_one]
   have e1:(cs.take i++vs++ROW.toList.drop (i+m)).take (i+m)=cs.take i++vs:=List.take_left' (by simp;omega)
   rw[e1]
   exact List.take_left' (by simp;omega)
  ·have hkg:k≠w.heap.size:=by have:=row_lt hk;omega
   rw[setCells_other _ _ _ _ k hkg]
   show((w.alloc (.cells ROW 5)).drew.setCells w.heap.size i vs).heap[k]? =_
   rw[setCells_other _ _ _ _ k hkg]
   exact block_below hk ((Below.refl _ _).alloc (Nat.le_refl _) _).drew
end Go.Proofs.YtkkicodfpekbgaaGreatDoor
namespace Go.Proofs.YtkkicodfpekbgaaGreatDoor
set_option linter.unusedSimpArgs false
set_option linter.unusedVariables false
set_option maxRecDepth 100000
set_option maxHeartbeats 8000000
def hdB(c:Int)(b:Bool)(n:Int)(l:Nat):ByteArray:=⟨(UInt8.ofNat (fb ⟨c,b,n,0,l⟩).toNat::tl l).toArray⟩
theorem elB_hdB(c:Int)(b:Bool)(n:Int)(s:ByteArray):elB c b n s=hdB c b n s.size++s:=rfl
def insB(t:ByteArray)(p:Nat)(tx:ByteArray):ByteArray:=t.extract 0 p++tx++t.extract p t.size
theorem insB_size{t:ByteArray}{p:Nat}(tx:ByteArray)(hp:p≤t.size):(insB t p tx).size=t.size+tx.size:=by
 unfold insB
 rw[ByteArray.size_append,ByteArray.size_append,ByteArray.size_extract,ByteArray.size_extract]
 omega
def Ins(t0:ByteArray)(l0:Bool)(p:Nat)(tx:ByteArray)(t1:ByteArray)(l1:Bool):Prop:=
 ((l0=true∨4000<t0.size+tx.size)∧t1=t0∧l1=true)∨(l0=false∧t0.size+tx.size≤4000∧t1=insB t0 p tx∧l1=false)
structure Tld(t0:ByteArray)(l0:Bool)(o0:Option Int)(b:ByteArray)(u:Bool)(t1:ByteArray)(l1:Bool)(o1:Option Int):Prop where
 le:t0.size≤t1.size
 mx:t1.size≤4000
 mono:l0=true→l1=true
 told:l1=false→t1=t0++b
 ord:l1=false→o1.isSome=(o0.isSome||u)
 long:l0=false→l1=true→4000<t0.size+b.size
theorem app_noB(t:ByteArray):t++noB=t:=by
 apply ByteArray.ext
 simp[noB]
theorem Tld.refl{t:ByteArray}{l:Bool}{o:Option Int}(h:t.size≤4000):Tld t l o noB false t l o where
 le:=Nat.le_refl _
 mx:=h
 mono:=id
 told:=fun _=>(app_noB t).symm
 ord:=fun _=>by simp
 long:=fun h1 h2=>by rw[h1]at h2;cases h2
theorem Tld.trans{t0 t1 t2:ByteArray}{l0 l1 l2:Bool}{o0 o1 o2:Option Int}{b1 b2:ByteArray}{u1 u2:Bool}(h:Tld t0 l0 o0 b1 u1 t1 l1 o1)(k:Tld t1 l1 o1 b2 u2 t2 l2 o2):Tld t0 l0 o0 (b1++b2) (u1||u2) t2 l2 o2:=by
 have h1:l2=false→l1=false:=fun q=>by
  cases hl:l1
  ·rfl
  ·rw[k.mono hl]at q;cases q
 refine⟨Nat.le_trans h.le k.le,k.mx,fun q=>k.mono (h.mono q),fun q=>?_,fun q=>?_,fun q1 q2=>?_⟩
 ·rw[k.told q,h.told (h1 q),ByteArray.append_assoc]
 ·rw[k.ord q,h.ord (h1 q),Bool.or_assoc]
 ·rw[ByteArray.size_append]
  cases hl:l1
  ·have:=k.long hl q2
   rw[h.told hl,ByteArray.size_append]at this
   omega
  ·have:=h.long q1 hl
   omega
theorem ins_end_eq(t tx:ByteArray):insB t t.size tx=t++tx:=by
 unfold insB
 rw[show t.extract 0 t.size=t by simp,show t.extract t.size t.size=noB by apply ByteArray.ext;simp[noB],app_noB]
theorem Tld.ofIns{t0 t1:ByteArray}{l0 l1:Bool}{o:Option Int}{tx:ByteArray}(h4:t0.size≤4000)(h:Ins t0 l0 t0.size tx t1 l1):Tld t0 l0 o tx false t1 l1 o:=by
 rcases h with⟨h1,rfl,rfl⟩|⟨rfl,h2,rfl,rfl⟩
 ·refine⟨Nat.le_refl _,h4,fun _=>rfl,fun q=>(by cases q),fun q=>(by cases q),fun q _=>?_⟩
  rcases h1 with h1|h1
  ·rw[q]at h1;cases h1
  ·exact h1
 ·refine⟨?_,?_,fun q=>q,fun _=>ins_end_eq _ _,fun _=>by simp,fun _ q=>(by cases q)⟩
  ·rw[insB_size tx (Nat.le_refl _)];omega
  ·rw[insB_size tx (Nat.le_refl _)];exact h2
theorem ins_mid_eq(t b tx:ByteArray):insB (t++b) t.size tx=t++(tx++b):=by
 unfold insB
 have e1:(t++b).extract 0 t.size=t:=by
  apply ByteArray.ext
  simp
 have e2:(t++b).extract t.size (t++b).size=b:=by
  apply ByteArray.ext
  apply Array.toList_inj.1
  rw[Lib.extract_data,ByteArray.size_append]
  simp
  exact List.take_of_length_le (by simp)
 rw[e1,e2,ByteArray.append_assoc]
theorem Tld.wrap{t0 t1 t2:ByteArray}{l0 l1 l2:Bool}{o0 o1:Option Int}{b:ByteArray}{u:Bool}{c:Int}{bt:Bool}{n:Int}(h:Tld t0 l0 o0 b u t1 l1 o1)(k:Ins t1 l1 t0.size (hdB c bt n (t1.size-t0.size)) t2 l2):Tld t0 l0 o0 (elB c bt n b) u t2 l2 o1:=by
 have hsz:l1=false→t1.size-t0.size=b.size:=fun q=>by rw[h.told q,ByteArray.size_append];omega
 have hel:(elB c bt n b).size=(hdB c bt n b.size).size+b.size:=by rw[elB_hdB,ByteArray.size_append]
 rcases k with⟨h1,rfl,rfl⟩|⟨rfl,h2,rfl,rfl⟩
 ·refine⟨h.le,h.mx,fun _=>rfl,fun q=>(by cases q),fun q=>(by cases q),fun q _=>?_⟩
  rw[hel]
  cases hl:l1
  ·rcases h1 with h1|h1
   ·rw[hl]at h1;cases h1
   ·rw[hsz hl,h.told hl,ByteArray.size_append]at h1
    omega
  ·have:=h.long q hl
   omega
 ·have hs:=insB_size (hdB c bt n (t1.size-t0.size)) h.le
  refine⟨?_,?_,fun q=>h.mono q,fun _=>?_,fun q=>h.ord rfl,fun _ q=>(by cases q)⟩
  ·have:=h.le;omega
  ·omega
  ·rw[hsz rfl,h.told rfl,ins_mid_eq,elB_hdB]
theorem Tld.order{t0 t1:ByteArray}{l0 l1:Bool}{o0 o1 o2:Option Int}{b:ByteArray}{u z:Bool}(h:Tld t0 l0 o0 b u t1 l1 o1)(k:l1=false→o2.isSome=(o1.isSome||z)):Tld t0 l0 o0 b (u||z) t1 l1 o2:=
 ⟨h.le,h.mx,h.mono,h.told,fun q=>by rw[k q,h.ord q,Bool.or_assoc],h.long⟩
theorem Tld.longer{t0 t1:ByteArray}{l0:Bool}{o0 o1 o2:Option Int}{b b':ByteArray}{u u':Bool}(h:Tld t0 true o0 b u t1 true o1)(k:l0=false→4000<b'.size):Tld t0 l0 o2 b' u' t1 true o1:=
 ⟨h.le,h.mx,fun _=>rfl,fun q=>(by cases q),fun q=>(by cases q),fun q _=>by have:=k q;omega⟩
def wraps(l:List Int)(b:ByteArray):ByteArray:=l.foldr (fun t b=>elB 2 true t b) b
theorem wraps_snoc(l:List Int)(t:Int)(b:ByteArray):wraps (l++[t]) b=wraps l (elB 2 true t b):=by simp[wraps]
theorem wraps_cons(l:List Int)(t:Int)(b:ByteArray):wraps (t::l) b=elB 2 true t (wraps l b):=by simp[wraps]
theorem wraps_size:∀(l:List Int) (b:ByteArray),2*l.length+b.size≤(wraps l b).size
 | [],b=>by simp[wraps]
 |t::l,b=>by
  have h:=wraps_size l b
  have h2:=elB_sz 2 true t (wraps l b)
  have h3:=cnt_cases (wraps l b).size
  rw[wraps_cons]
  simp only[List.length_cons]
  omega
theorem less_iff:∀(a b:List UInt8),(decide (Lib.compareBytes a b<0))=Op.bytesLess a b
 | [],[]=>rfl
 | [],_::_=>rfl
 |_::_,[]=>rfl
 |a::x,b::y=>by
  rw[Lib.compareBytes,Op.bytesLess]
  by_cases h:a<b
  ·simp[h]
  ·rw[if_neg h]
   by_cases h2:b<a
   ·have hne:(a==b)=false:=by
     rw[beq_eq_false_iff_ne]
     rintro rfl
     exact UInt8.lt_irrefl _ h2
    rw[if_pos h2,hne]
    simp[h]
   ·rw[if_neg h2]
    have he:a=b:=by
     apply UInt8.toNat_inj.1
     rw[UInt8.lt_iff_toNat_lt]at h h2
     omega
    subst he
    rw[less_iff x y]
    simp[UInt8.lt_irrefl]
end Go.Proofs.YtkkicodfpekbgaaGreatDoor
namespace Go.Proofs.YtkkicodfpekbgaaGreatDoor
open Go.RowKit
set_option linter.unusedSimpArgs false
set_option linter.unusedVariables false
set_option maxRecDepth 100000
set_option maxHeartbeats 8000000
def BytesAt(w:World)(v:Value)(l:List UInt8):Prop:=
 (v= .slice none 0 0∧l=[])∨∃a c,v= .slice (some a) l.length c∧∀j x,l[j]? =some x→w.cell? (a.add j)=some (.int .u8 (x.toNat:Int))
theorem run_loadB(w:World):∀(l:List UInt8) (a:Addr) (acc:ByteArray),(∀j x,l[j]? =some x→w.cell? (a.add j)=some (.int .u8 (x.toNat:Int)))→(Extern.Bytes.loadBytes a l.length acc).run Tryz.prog w= .ok ⟨acc.data++l.toArray⟩ w
 | [],a,acc,_=>by simp[Extern.Bytes.loadBytes]
 |x::l,a,acc,h=>by
  have h0:w.cell? a=some (.int .u8 (x.toNat:Int)):=by
   have:=h 0 x rfl
   simpa [Addr.add]using this
  have ih:=run_loadB w l (a.add 1) (acc.push ((x.toNat:Int).toNat.toUInt8)) (fun j y hy=>by
   have:=h (j+1) y (by simpa using hy)
   have e:(a.add 1).add j=a.add (j+1):=by
    unfold Addr.add
    by_cases hj:j=0
    ·subst hj;simp
    ·simp[hj];omega
   rw[e];exact this)
  simp only[List.length_cons,Extern.Bytes.loadBytes,Sem.run_bind,run_load,h0,Result.andThen]
  rw[ih]
  congr 1
  apply ByteArray.ext
  simp[ByteArray.push]
theorem run_bytesOfB{w:World}{v:Value}{l:List UInt8}(h:BytesAt w v l):(Extern.Bytes.bytesOf v).run Tryz.prog w= .ok ⟨l.toArray⟩ w:=by
 rcases h with⟨rfl,rfl⟩|⟨a,c,rfl,h⟩
 ·rfl
 ·have:=run_loadB w l a .empty h
  simpa [Extern.Bytes.bytesOf]using this
theorem run_compareB{w:World}{v u:Value}{l m:List UInt8}(h:BytesAt w v l)(k:BytesAt w u m):(Extern.BytealgCompare.compare #[v,u]).run Tryz.prog w= .ok (.int .i64 (Lib.compareBytes l m)) w:=by
 change Sem.run Tryz.prog (α:=Value) (do pure (goInt (Extern.BytealgCompare.cmp (←Extern.Bytes.bytesOf v) (←Extern.Bytes.bytesOf u)))) w=_
 simp only[Sem.run_bind,run_bytesOfB h,run_bytesOfB k,Result.andThen,Sem.run_pure]
 rw[Lib.cmp_eq]
 rfl
theorem bcompare_any(v u:Value)(l m:List UInt8)(w:World)(h:BytesAt w v l)(k:BytesAt w u m):
 Calls Tryz.prog 184 #[v,u] w fun e w'=>e= .returned (.int .i64 (Lib.compareBytes l m))∧w'=w:=by
 have HR:Hid ((callFunc 203 #[v,u]).run Tryz.prog w= .ok (.value (.int .i64 (Lib.compareBytes l m))) w):=by
  unfold Hid
  rw[run_callFunc_extern Tryz.func203 (by kernel_rfl) (by kernel_rfl) (by kernel_rfl) (e:=Extern.BytealgCompare.compare) (by kernel_rfl),run_compareB h k]
  rfl
 clear h k
 go_enter Tryz.func184,Tryz.ntmps184
 go_wp2
 rw[HR.out]
 try simp only[Result.andThen]
 try rw[Oper.upon_value]
 go_wp2
 go_ret
 exact⟨rfl,rfl⟩
theorem own_one{B:Nat}(w:World)(x:Value)(T:TypeId)(hB:B≤w.heap.size):(w.alloc (.cells #[x] T)).ownsRow B T 1 (.slice (some ⟨w.heap.size,0,none⟩) 1 1) 1 [x]:=
 ⟨by simp,.inr ⟨w.heap.size,1,#[x],rfl,hB,heap_alloc_new w _,by omega,by decide,rfl,by simp⟩⟩
theorem tell_tag(c:Int)(b:Bool)(n s l:Int)(w:World)(sn:Sn→Addr)(hs:Sent w sn)(h:c<0∨3<c∨n<0∨30<n):
 Calls Tryz.prog 154 #[.agg #[.int .i64 c,.bool b,.int .i64 n,.int .i64 s,.int .i64 l]] w fun e w'=>e= .returned (.tuple #[.string ⟨#[]⟩,fault 0 (sn .Tag)])∧Below w.heap.size w w':=by
 have h1:=hs.cT
 have h1':=cell_lt hs.cT
 clear hs
 unfold fault
 by_cases q1:c<0
 ·clear h
  go_enter Tryz.func154,Tryz.ntmps154
  go_wp2
  go_ret2
  exact⟨rfl,(Below.refl _ _).alloc (Nat.le_refl _) _⟩
 by_cases q2:3<c
 ·clear h
  go_enter Tryz.func154,Tryz.ntmps154
  go_wp2
  go_ret2
  exact⟨rfl,(Below.refl _ _).alloc (Nat.le_refl _) _⟩
 by_cases q3:n<0
 ·clear h
  go_enter Tryz.func154,Tryz.ntmps154
  go_wp2
  go_ret2
  exact⟨rfl,(Below.refl _ _).alloc (Nat.le_refl _) _⟩
 have q4:30<n:=by omega
 clear h
 go_enter Tryz.func154,Tryz.ntmps154
 go_wp2
 go_ret2
 exact⟨rfl,(Below.refl _ _).alloc (Nat.le_refl _) _⟩
theorem tell_len(c:Int)(b:Bool)(n s l:Int)(w:World)(sn:Sn→Addr)(hs:Sent w sn)(q1:0≤c)(q2:c≤3)(q3:0≤n)(q4:n≤30)(h:l<0∨16777215<l):
 Calls Tryz.prog 154 #[.agg #[.int .i64 c,.bool b,.int .i64 n,.int .i64 s,.int .i64 l]] w fun e w'=>e= .returned (.tuple #[.string ⟨#[]⟩,fault 0 (sn .Length)])∧Below w.heap.size w w':=by
 have h1:=hs.cL
 have h1':=cell_lt hs.cL
 clear hs
 unfold fault
 by_cases q5:l<0
 ·clear h
  go_enter Tryz.func154,Tryz.ntmps154
  go_wp2
  go_ret2
  exact⟨rfl,(Below.refl _ _).alloc (Nat.le_refl _) _⟩
 have q6:16777215<l:=by omega
 clear h
 go_enter Tryz.func154,Tryz.ntmps154
 go_wp2
 go_ret2
 exact⟨rfl,(Below.refl _ _).alloc (Nat.le_refl _) _⟩
theorem tell_ok(c:Int)(b:Bool)(n s l:Int)(w:World)(q1:0≤c)(q2:c≤3)(q3:0≤n)(q4:n≤30)(q5:0≤l)(q6:l≤16777215):
 Calls Tryz.prog 154 #[.agg #[.int .i64 c,.bool b,.int .i64 n,.int .i64 s,.int .i64 l]] w fun e w'=>e= .returned (.tuple #[.string ⟨(UInt8.ofNat (fb ⟨c,b,n,s,l⟩).toNat::tl l).toArray⟩,.nilIface])∧Below w.heap.size w w':=by
 cases b
 ·have hy:Hid (bits .or .i64 (c*64) n%256=c*64+n):=by show _=_;rw[i64_or6 _ _ (by omega) (by omega) (by omega) (by omega) (by omega)];omega
  go_enter Tryz.func154,Tryz.ntmps154
  go_wp2_with fail
  rw[hy.out]
  have ho1:((w.alloc (.cells #[.int .i64 c,.bool false,.int .i64 n,.int .i64 s,.int .i64 l] 179)).alloc (.cells #[.int .u8 (c*64+n)] 5)).ownsRow w.heap.size 5 1 (.slice (some ⟨w.heap.size+1,0,none⟩) 1 1) 1 [.int .u8 (c*64+n)]:=by
   have:=own_one (B:=w.heap.size) (w.alloc (.cells #[.int .i64 c,.bool false,.int .i64 n,.int .i64 s,.int .i64 l] 179)) (.int .u8 (c*64+n)) 5 (by simp)
   simpa using this
  refine(appendLength_any w.heap.size (.slice (some ⟨w.heap.size+1,0,none⟩) 1 1) 1 [.int .u8 (c*64+n)] l _ q5 (by omega) (by exact ho1) (by simp;omega) (by omega)).mono ?_
  rintro e w2 ⟨v',m,rfl,ho,hb⟩
  have hcv:=conv_own (l:=UInt8.ofNat (c*64+n).toNat::tl l) (ownsRow_cast ho rfl (by simp[bv_of (c*64+n) (by omega) (by omega)])) (by simp)
  have HB:Hid (Below w.heap.size w w2):=(((Below.refl w.heap.size w).alloc (Nat.le_refl _) _).alloc (by simp) _).trans hb
  clear ho hb
  go_wp2
  go_ret2
  exact⟨rfl,HB.out⟩
 ·have hy:Hid (bits .or .i64 (bits .or .i64 (c*64) n) 32%256=c*64+n+32):=by show _=_;rw[i64_or6 (c*64) n (by omega) (by omega) (by omega) (by omega) (by omega),i64_or32 c n q1 q2 q3 q4];omega
  go_enter Tryz.func154,Tryz.ntmps154
  go_wp2_with fail
  rw[hy.out]
  have ho1:((w.alloc (.cells #[.int .i64 c,.bool true,.int .i64 n,.int .i64 s,.int .i64 l] 179)).alloc (.cells #[.int .u8 (c*64+n+32)] 5)).ownsRow w.heap.size 5 1 (.slice (some ⟨w.heap.size+1,0,none⟩) 1 1) 1 [.int .u8 (c*64+n+32)]:=by
   have:=own_one (B:=w.heap.size) (w.alloc (.cells #[.int .i64 c,.bool true,.int .i64 n,.int .i64 s,.int .i64 l] 179)) (.int .u8 (c*64+n+32)) 5 (by simp)
   simpa using this
  refine(appendLength_any w.heap.size (.slice (some ⟨w.heap.size+1,0,none⟩) 1 1) 1 [.int .u8 (c*64+n+32)] l _ q5 (by omega) (by exact ho1) (by simp;omega) (by omega)).mono ?_
  rintro e w2 ⟨v',m,rfl,ho,hb⟩
  have hcv:=conv_own (l:=UInt8.ofNat (c*64+n+32).toNat::tl l) (ownsRow_cast ho rfl (by simp[bv_of (c*64+n+32) (by omega) (by omega)])) (by simp)
  have HB:Hid (Below w.heap.size w w2):=(((Below.refl w.heap.size w).alloc (Nat.le_refl _) _).alloc (by simp) _).trans hb
  clear ho hb
  go_wp2
  go_ret2
  exact⟨rfl,HB.out⟩
theorem tell_any(h:Hd)(w:World)(sn:Sn→Addr)(hs:Sent w sn):
 Calls Tryz.prog 154 #[hv h] w fun e w'=>e= .returned (.tuple #[.string ⟨(tsp h).2.toArray⟩,errAt 0 sn (tsp h).1])∧Below w.heap.size w w':=by
 obtain⟨c,b,n,s,l⟩:=h
 unfold tsp
 split
 ·rename_i q;exact tell_tag c b n s l w sn hs q
 rename_i q
 simp only at q
 split
 ·rename_i q';exact tell_len c b n s l w sn hs (by omega) (by omega) (by omega) (by omega) q'
 ·rename_i q'
  simp only at q'
  exact tell_ok c b n s l w (by omega) (by omega) (by omega) (by omega) (by omega) (by omega)
end Go.Proofs.YtkkicodfpekbgaaGreatDoor
namespace Go.Proofs.YtkkicodfpekbgaaGreatDoor
open Go.RowKit Go.Shelf
set_option linter.unusedSimpArgs false
set_option linter.unusedVariables false
set_option maxRecDepth 100000
set_option maxHeartbeats 8000000
attribute [local go_sem] Oper.semAt_some
abbrev TagI:={t:Int//0≤t∧t≤30}
def tag0:TagI:=⟨0,by decide,by decide⟩
def encB(x:Nat×TagI):Array Value:=#[.int .i64 (x.1:Int),.agg #[.int .i64 2,.int .i64 x.2.1,.bool true]]
def FrK(R:Nat)(w w':World):Prop:=∀(k:Nat) (A:Array Value) (T:TypeId),k≠R→T≠5→w.heap[k]? =some (.cells A T (0,0))→w'.heap[k]? =some (.cells A T (0,0))
def backTo(ars:List TagI)(k:Nat):List (Nat×TagI):=(List.range k).map fun j=>(ars.length-1-j,ars[ars.length-1-j]?.getD tag0)
theorem backTo_succ(ars:List TagI)(k:Nat):backTo ars (k+1)=backTo ars k++[(ars.length-1-k,ars[ars.length-1-k]?.getD tag0)]:=by simp[backTo,List.range_succ]
theorem backTo_len(ars:List TagI)(k:Nat):(backTo ars k).length=k:=by simp[backTo]
def AroundIn(w:World)(Bs R:Nat)(ars:List TagI):Prop:=
 Bs≠R∧((ars=[]∧w.heap[Bs]? =some (.cells #[.slice none 0 0] 186 (0,0)))∨
  ∃g cap cur,g≠R∧cap≤9223372036854775807∧ars.length≤cap∧w.heap[Bs]? =some (.cells #[.slice (some ⟨g,0,none⟩) ars.length cap] 186 (0,0))∧w.heap[g]? =some (.cells cur 149 (0,0))∧
   ∀j,j<ars.length→cur[j*3]? =some (.int .i64 2)∧cur[j*3+1]? =some (.int .i64 (ars[j]?.getD tag0).1)∧cur[j*3+2]? =some (.bool true))
theorem AroundIn.keep{w w':World}{Bs R:Nat}{ars:List TagI}(h:AroundIn w Bs R ars)(k:FrK R w w'):AroundIn w' Bs R ars:=by
 refine⟨h.1,?_⟩
 rcases h.2 with⟨h1,h2⟩|⟨g,cap,cur,h1,h2,h3,h4,h5,h6⟩
 ·exact .inl ⟨h1,k _ _ _ h.1 (by decide) h2⟩
 ·exact .inr ⟨g,cap,cur,h1,h2,h3,k _ _ _ h.1 (by decide) h4,k _ _ _ h1 (by decide) h5,h6⟩
theorem back1_in(n:Nat)(hn:1≤n)(l Bs R:Nat)(ars:List TagI)(hl:ars.length≤1000000)(J Jx:List (Nat×TagI)→World→Prop)
 (hY:∀pre x W,J pre W→pre.length<ars.length→YieldAt Fence.wide (n-1) Tryz.prog l (encB x) W fun e W'=>
   (e= .returned (.bool true)∧J (pre++[x]) W'∧FrK R W W')∨(e= .returned (.bool false)∧Jx (pre++[x]) W'))
 (W:World)(hA:AroundIn W Bs R ars)(h0:J [] W):
 CallsIn Fence.wide n Tryz.prog 153 #[.func (.yield l) #[] #[],.pointer (some ⟨Bs,0,none⟩)] W fun e W'=>(∃v,e= .returned v)∧
  ((∃ys,ys=backTo ars ars.length∧J ys W')∨(∃pre,True∧Jx pre W')):=by
 rcases hA.2 with⟨rfl,hb⟩|⟨g,cap,cur,hg1,hg2,hg3,hb,hg,hcs⟩
 ·have c0:W.cell? ⟨Bs,0,none⟩=some (.slice none 0 0):=by simp[World.cell?,hb]
  have hlb:Bs<W.heap.size:=(Array.getElem?_eq_some_iff.1 hb).1
  clear hb hY hA
  refine callsIn_of_wp Tryz.func153 rfl trivial ?_ rfl
  simp only[Tryz.ntmps153,List.size_toArray,List.length_cons,List.length_nil,Nat.reduceAdd,Nat.reduceSub,Array.replicate_succ,Array.replicate_zero,List.push_toArray,List.append_toArray,List.nil_append,List.cons_append]
  gi_wp2
  gi_loopw [3] (fun i wr=>i= .int .i64 (-1)∧J [] wr) (fun _ _=>0)
  case atStart=>exact⟨rfl,h0⟩
  case round=>
   obtain⟨rfl,hJs⟩:=hrel
   gi_wp2
   go_end0
   exact⟨⟨_,rfl⟩,.inl ⟨_,rfl,hJs⟩⟩
 ·have c0:W.cell? ⟨Bs,0,none⟩=some (.slice (some ⟨g,0,none⟩) ars.length cap):=by simp[World.cell?,hb]
  have hlb:Bs<W.heap.size:=(Array.getElem?_eq_some_iff.1 hb).1
  obtain⟨L,hL⟩:∃L,ars.length=L:=⟨_,rfl⟩
  have hw1:IntKind.i64.wrap ((L:Int)-1)=(L:Int)-1:=by rw[IntKind.wrap_i64];omega
  rw[hL]at c0 hY hg3 hcs hl hb ⊢
  refine callsIn_of_wp Tryz.func153 rfl trivial ?_ rfl
  simp only[Tryz.ntmps153,List.size_toArray,List.length_cons,List.length_nil,Nat.reduceAdd,Nat.reduceSub,Array.replicate_succ,Array.replicate_zero,List.push_toArray,List.append_toArray,List.nil_append,List.cons_append]
  gi_wp2
  gi_loopw [3] (fun i wr=>∃k:Nat,k≤L∧i= .int .i64 ((L:Int)-1-k)∧J (backTo ars k) wr∧FrK R W wr) (fun i _=>(intOf i+1).toNat)
  case atStart=>exact⟨0,Nat.zero_le _,by simp,h0,fun _ _ _ _ _ h=>h⟩
  case round=>
   obtain⟨k,hk,rfl,hJs,hnx⟩:=hrel
   have hb':=hnx _ _ _ hA.1 (by decide) hb
   have hg':=hnx _ _ _ hg1 (by decide) hg
   have d0:wr.cell? ⟨Bs,0,none⟩=some (.slice (some ⟨g,0,none⟩) L cap):=by simp[World.cell?,hb']
   have hlb':Bs<wr.heap.size:=(Array.getElem?_eq_some_iff.1 hb').1
   have hlg':g<wr.heap.size:=(Array.getElem?_eq_some_iff.1 hg').1
   by_cases hlt:k<L
   ·obtain⟨j,hj⟩:∃j:Nat,L-1-k=j:=⟨_,rfl⟩
    have hji:(L:Int)-1-(k:Int)=(j:Int):=by omega
    have hjl:j<L:=by omega
    obtain⟨z0,z1,z2⟩:=hcs j hjl
    have e0:wr.cell? ⟨g,j*3,none⟩=some (.int .i64 2):=by simp[World.cell?,hg',z0]
    have e1:wr.cell? ⟨g,j*3+1,none⟩=some (.int .i64 (ars[j]?.getD tag0).1):=by simp[World.cell?,hg',z1]
    have e2:wr.cell? ⟨g,j*3+2,none⟩=some (.bool true):=by simp[World.cell?,hg',z2]
    obtain⟨fn,tmps,assign,body,hy,hR⟩:=hY (backTo ars k) (j,ars[j]?.getD tag0) wr hJs (by rw[backTo_len];exact hlt)
    unfold encB at hy
    dsimp only at hy
    obtain⟨tg,htg⟩:∃tg,(ars[j]?.getD tag0)=tg:=⟨_,rfl⟩
    rw[htg]at e1 hy hR
    have hbk:backTo ars (k+1)=backTo ars k++[(j,tg)]:=by rw[backTo_succ,hL,hj,htg]
    rw[hji]
    have hj0:(0:Int)≤(j:Int):=by omega
    have hjl':(j:Int)<(L:Int):=by omega
    have hw2:IntKind.i64.wrap ((j:Int)-1)=(j:Int)-1:=by rw[IntKind.wrap_i64];omega
    clear z0 z1 z2 hb' hg' hb hg hcs htg hY
    gi_wp2
    first|refine hR.mono ?_ |(refine⟨fun _=>hn,?_⟩;refine hR.mono ?_)
    rintro e W3 (⟨rfl,hJ3,hk3⟩|⟨rfl,hJx3⟩)
    ·gi_wp2
     go_roundw
     case rel=>exact⟨k+1,by omega,by congr 1<;>omega,by rw[hbk];exact hJ3,fun q A T h1 h2 h3=>hk3 q A T h1 h2 (hnx q A T h1 h2 h3)⟩
     case measure=>(simp[intOf];try omega)
    ·gi_wp2
     refine bodyPost_ret (results_none rfl _ _ _) rfl ?_
     exact⟨⟨_,rfl⟩,.inr ⟨_,trivial,hJx3⟩⟩
   ·obtain rfl:k=L:=by omega
    have hneg:(k:Int)-1-(k:Int)= -1:=by omega
    rw[hneg]
    gi_wp2
    go_end0
    exact⟨⟨_,rfl⟩,.inl ⟨_,rfl,hJs⟩⟩
theorem back_stops(n:Nat)(hn:1≤n)(Bs R:Nat)(ars:List TagI)(hl:ars.length≤1000000)(w:World)(hA:AroundIn w Bs R ars):
 SeqStopsK Fence.wide n Tryz.prog 153 #[.pointer (some ⟨Bs,0,none⟩)] encB (FrK R) (fun ys=>ys=backTo ars ars.length) (fun _=>True) ars.length w:=fun l J Jx W hW _ _ hY h0=>by
 have hA':AroundIn W Bs R ars:=hA.keep fun k A T _ _ hg=>block_below hg hW
 refine(back1_in n hn l Bs R ars hl J Jx hY W hA' h0).mono ?_
 rintro e W' ⟨he,h|h⟩
 ·exact⟨he,.inl h⟩
 ·exact⟨he,.inr h⟩
theorem backward_any(a:Option Addr)(len cap:Nat)(w:World):
 Calls Tryz.prog 112 #[.slice a len cap] w fun e w'=>e= .returned (.func (.func 153) #[] #[.pointer (some ⟨w.heap.size,0,none⟩)])∧w'=w.alloc (.cells #[.slice a len cap] 186):=by
 go_enter Tryz.func112,Tryz.ntmps112
 go_wp2
 go_ret
 exact⟨rfl,rfl⟩
theorem wpIn_rangeFunc_box{P:Program}{F:Fence}{n:Nat}{α:Type}{g:Operand}{ps:Array Tmp}{assign body:Code}{Q:Exit→Act→World→Prop}{a:Act}{w:World}
 (hro:F.round=none)(h1:1≤n){gf:Nat}{lb:Array Value}(hg:a.eval g= .func (.func gf) #[] lb)(hFg:F.fn gf)(eg:∀args w,(callFunc gf args).run P w= .ok (.enter gf args) w)
 {encs:α→Array Value}{Kp:World→World→Prop}{S Sp:List α→Prop}{N:Nat}{w0:World}(hseq:SeqStopsK F (n-1) P gf lb encs Kp S Sp N w0)
 (hKt:∀{A B C:World},Kp A B→Kp B C→Kp A C)(hKb:∀(W:World) (l:Nat) (o o':Obj),w.heap.size≤l→W.heap[l]? =some o→o.isCells=false→o.isWalk=false→Kp W (W.putObj l o'))(hKa:∀(W:World) (o:Obj),Kp W (W.alloc o))(hb0:Below w0.heap.size w0 w)(hps:∀x,(encs x).size=ps.size)
 (I:List α→World→Prop)(hI:OwnFrom w.heap.size I)(h0:I [] w)(t:Tmp)(T:TypeId)(cl:α→Array Value)
 (hassign:∀(l:Nat) (x:α) (W:World) (K:Act→World→Prop),K {tmps:=((ps.zip (encs x)).foldl (fun t (p,v)=>t.setIfInBounds p v) a.tmps).setIfInBounds t (.pointer (some ⟨W.heap.size,0,none⟩)),defers:=[]} (W.alloc (.cells (cl x) T))→
   assign.wpIn (F.inRound l) (n-1-1) P (Exit.then K (fun _ _ _=>False)) {tmps:=(ps.zip (encs x)).foldl (fun t (p,v)=>t.setIfInBounds p v) a.tmps,defers:=[]} W)
 (hbody:∀(l:Nat) (pre:List α) (x:α) (Bx:Nat) (W:World),I pre W→W.heap[Bx]? =some (.cells (cl x) T (0,0))→pre.length<N→body.wpIn (F.inRound l) (n-1-1) P (ownPostG w.heap.size Kp I (fun _ _ _=>False) (pre++[x]) W) {tmps:=((ps.zip (encs x)).foldl (fun t (p,v)=>t.setIfInBounds p v) a.tmps).setIfInBounds t (.pointer (some ⟨Bx,0,none⟩)),defers:=[]} W)
 (hdone:∀(D:Nat) (xs:List α) (W:World),w.heap.size≤D→S xs→I xs W→W.heap[D]? =some (.deferred (some []))→Q .normal {a with defers:={target:= .collected D,args:=#[]}::a.defers} W):
 (Code.rangeFunc g ps assign body).wpIn F n P Q a w:=by
 refine wpIn_rangeFunc_ownH hro h1 hg hFg eg hseq hKt hKb hb0 hps I (fun _ _ _=>False) hI (fun _ _ _ _ _ h _ _=>h) h0
  (fun x a' W=>∃Bx,W.heap[Bx]? =some (.cells (cl x) T (0,0))∧a'={tmps:=((ps.zip (encs x)).foldl (fun t (p,v)=>t.setIfInBounds p v) a.tmps).setIfInBounds t (.pointer (some ⟨Bx,0,none⟩)),defers:=[]})
  (fun x a' _ X Y row hs hg' hr=>?_) (fun l pre x W K hi hK=>?_) (fun l pre x a' W _ _ hi hax hlt=>?_) hdone (fun _ _ _ _ _ _ h=>h.elim)
 ·obtain⟨Bx,h2,h3⟩:=hs
  refine⟨Bx,?_,h3⟩
  rw[hg'.block Bx (Array.getElem?_eq_some_iff.1 h2).1 (fun e=>?_)]
  ·exact h2
  ·obtain⟨_,o,ho,hc⟩:=hr Bx e.symm
   rw[h2]at ho
   injection ho with ho
   subst ho
   cases hc
 ·exact hassign l x W K (hK _ _ ((KeepsOthers.alloc _ _).from _) (hKa _ _) (hI.alloc _ hi) ⟨W.heap.size,World.alloc_heap_new W _,rfl⟩)
 ·obtain⟨Bx,h2,rfl⟩:=hax
  exact hbody l pre x Bx W hi h2 hlt
theorem leavesM_ret{P:Program}{F:Fence}{n:Nat}{fn:Func}{R:Ending→World→Prop}{a:Act}{w:World}{v:Value}(hr:(results fn a.tmps).run P w= .ok v w)(hd:a.defers=[])(hR:R (.returned v) w):bodyPostM F n P fn R .ret a w:=by
 show LeavesInM F n P fn a.tmps R a.defers .returning w
 rw[hd]
 exact⟨v,hr,hR⟩
theorem leavesM_one{P:Program}{F:Fence}{n:Nat}{fn:Func}{R:Ending→World→Prop}{a:Act}{w:World}{v:Value}{D:Nat}(hK:w.heap[D]? =some (.deferred (some [])))(hr:(results fn a.tmps).run P (w.putObj D (.deferred none))= .ok v (w.putObj D (.deferred none)))(hd:a.defers=[{target:= .collected D,args:=#[]}])(hR:R (.returned v) (w.putObj D (.deferred none))):bodyPostM F n P fn R .ret a w:=by
 show LeavesInM F n P fn a.tmps R a.defers .returning w
 rw[hd]
 exact⟨by simp,.inl ⟨_,_,rfl,run_takeDeferred hK,v,hr,hR⟩⟩
end Go.Proofs.YtkkicodfpekbgaaGreatDoor
namespace Go.Proofs.YtkkicodfpekbgaaGreatDoor
open Go.RowKit
set_option linter.unusedSimpArgs false
set_option linter.unusedVariables false
set_option maxRecDepth 100000
set_option maxHeartbeats 8000000
def acells(l:List TagI):List Value:=l.flatMap fun t=> [.int .i64 2,.int .i64 t.1,.bool true]
theorem acells_snoc(l:List TagI)(t:TagI):acells (l++[t])=acells l++[.int .i64 2,.int .i64 t.1,.bool true]:=by simp[acells]
theorem acells_get:∀(l:List TagI) (j:Nat),j<l.length→(acells l)[j*3]? =some (.int .i64 2)∧(acells l)[j*3+1]? =some (.int .i64 (l[j]?.getD tag0).1)∧(acells l)[j*3+2]? =some (.bool true)
 | [],j,h=>by simp at h
 |t::l,0,_=>by simp[acells]
 |t::l,j+1,h=>by
  have ih:=acells_get l j (by simpa using h)
  have e:acells (t::l)=[.int .i64 2,.int .i64 t.1,.bool true]++acells l:=by simp[acells]
  rw[e]
  have g:∀k,([Value.int .i64 2,.int .i64 t.1,.bool true]++acells l)[(j+1)*3+k]? =(acells l)[j*3+k]? :=fun k=>by
   rw[List.getElem?_append_right (by simp;omega)]
   congr 1
   simp
   omega
  have g0:=g 0
  simp only[Nat.add_zero]at g0
  rw[g0,g 1,g 2]
  simpa using ih
theorem AroundIn.of_own{w:World}{Bs R B:Nat}{v:Value}{ars:List TagI}(h:w.ownsRow B 149 3 v ars.length (acells ars))(hb:w.heap[Bs]? =some (.cells #[v] 186 (0,0)))(hR:R<B)(hne:Bs≠R):AroundIn w Bs R ars:=by
 refine⟨hne,?_⟩
 rcases h.2 with⟨rfl,h0⟩|⟨g,cap,cur,rfl,h1,h2,h3,h4,h5,h6⟩
 ·exact .inl ⟨List.length_eq_zero_iff.1 h0,hb⟩
 ·refine .inr ⟨g,cap,cur,by omega,by unfold maxLen at h4;omega,h3,hb,h2,fun j hj=>?_⟩
  have hg:=acells_get ars j hj
  rw[←h6]at hg
  rw[List.getElem?_take_of_lt (by omega),List.getElem?_take_of_lt (by omega),List.getElem?_take_of_lt (by omega)]at hg
  simpa using hg
def outR(n:Nd)(r:WOut):WOut:=r.map fun(b,x,u)=>(if n.mode=1 then elB 2 true n.tag b else b,x,u)
theorem outR_of{n:Nd}{o:Option WOut}{r:WOut}(h:WOut.andThen o (fun b x' u=>some (some (if n.mode=1 then elB 2 true n.tag b else b,x',u)))=some r):∃r',o=some r'∧r=outR n r':=by
 rcases wandThen_cases h with⟨h1,h2⟩|⟨b,x,u,h1,h2⟩
 ·exact⟨none,h1,h2⟩
 ·refine⟨_,h1,?_⟩
  injection h2 with h2
  exact h2.symm
def wrR(ars:List TagI)(r:WOut):WOut:=r.map fun(b,x,u)=>(wraps (ars.map (·.1)) b,x,u)
def RelL(l0:Bool)(r r':WOut):Prop:=(r'=none→r=none)∧∀b x u,r'=some (b,x,u)→∃b0,r=some (b0,x,u)∧(l0=false→4000<b0.size)
def Chain(l0 lc:Bool)(ars:List TagI)(r r':WOut):Prop:=(lc=false∧l0=false∧ars.length≤2000∧r=wrR ars r')∨(lc=true∧ars.length≤2001∧RelL l0 r r')
theorem Chain.start(l0:Bool)(r:WOut):Chain l0 l0 [] r r:=by
 cases l0 with
 |false=>
  refine .inl ⟨rfl,rfl,by simp,?_⟩
  cases r with
  |none=>rfl
  |some z=>rfl
 |true=>exact .inr ⟨rfl,by simp,fun h=>h,fun b x u h=>⟨b,h,fun q=>by cases q⟩⟩
theorem Chain.plain{l0 lc:Bool}{ars:List TagI}{r r'':WOut}{n:Nd}(h:Chain l0 lc ars r (outR n r''))(hm:¬(n.mode=1)∨lc=true):Chain l0 lc ars r r'':=by
 rcases h with⟨h1,h2,h3,h4⟩|⟨h1,h2,h3,h4⟩
 ·have hm':¬n.mode=1:=by
   rcases hm with q|q
   ·exact q
   ·rw[h1]at q;cases q
  refine .inl ⟨h1,h2,h3,?_⟩
  rw[h4]
  cases r'' with
  |none=>rfl
  |some z=>simp[outR,wrR,hm']
 ·refine .inr ⟨h1,h2,fun q=>h3 (by rw[q];rfl),fun b x u q=>?_⟩
  exact h4 _ x u (by rw[q];rfl)
theorem Chain.head{l0:Bool}{ars:List TagI}{r r'':WOut}{n:Nd}(h:Chain l0 false ars r (outR n r''))(hm:n.mode=1)(t:TagI)(ht:t.1=n.tag):Chain l0 (decide (2000<ars.length+1)) (ars++[t]) r r'':=by
 rcases h with⟨_,h2,h3,h4⟩|⟨h1,_⟩
 ·have e:wrR ars (outR n r'')=wrR (ars++[t]) r'':=by
   cases r'' with
   |none=>rfl
   |some z=>
    simp only[outR,wrR,hm,Option.map_some,if_true]
    rw[List.map_append,List.map_cons,List.map_nil,wraps_snoc,ht]
  rw[e]at h4
  by_cases hl:2000<ars.length+1
  ·rw[decide_eq_true hl]
   refine .inr ⟨rfl,by simp;omega,fun q=>by rw[h4,q];rfl,fun b x u q=>⟨wraps ((ars++[t]).map (·.1)) b,by rw[h4,q];rfl,fun _=>?_⟩⟩
   have:=wraps_size ((ars++[t]).map (·.1)) b
   simp only[List.length_map,List.length_append,List.length_cons,List.length_nil]at this
   omega
  ·rw[decide_eq_false hl]
   exact .inl ⟨rfl,h2,by simp;omega,h4⟩
 ·cases h1
theorem Chain.none{l0 lc:Bool}{ars:List TagI}{r:WOut}(h:Chain l0 lc ars r none):r=none:=by
 rcases h with⟨_,_,_,h4⟩|⟨_,_,h3,_⟩
 ·rw[h4];rfl
 ·exact h3 rfl
theorem Chain.len{l0 lc:Bool}{ars:List TagI}{r r':WOut}(h:Chain l0 lc ars r r'):ars.length≤2001:=by
 rcases h with⟨_,_,h,_⟩|⟨_,h,_⟩ <;>omega
theorem Chain.end{l0 lc l2:Bool}{ars:List TagI}{r:WOut}{b:ByteArray}{x:Nat}{u:Bool}{t0 t2:ByteArray}{o0 o1:Option Int}(h:Chain l0 lc ars r (some (b,x,u)))(hT:Tld t0 lc o0 (wraps (ars.map (·.1)) b) u t2 l2 o1):∃b0,r=some (b0,x,u)∧Tld t0 l0 o0 b0 u t2 l2 o1:=by
 rcases h with⟨h1,h2,_,h4⟩|⟨h1,_,_,h4⟩
 ·refine⟨_,h4,?_⟩
  rw[h2,←h1]
  exact hT
 ·obtain⟨b0,h5,h6⟩:=h4 b x u rfl
  refine⟨b0,h5,?_⟩
  subst h1
  have hl:=hT.mono rfl
  subst hl
  exact hT.longer h6
def wrapsB(pre:List (Nat×TagI))(b:ByteArray):ByteArray:=pre.foldl (fun b x=>elB 2 true x.2.1 b) b
theorem wrapsB_snoc(pre:List (Nat×TagI))(x:Nat×TagI)(b:ByteArray):wrapsB (pre++[x]) b=elB 2 true x.2.1 (wrapsB pre b):=by simp[wrapsB]
theorem backTo_rev(ars:List TagI):(backTo ars ars.length).map (·.2)=ars.reverse:=by
 apply List.ext_getElem
 ·simp[backTo]
 ·intro i h1 h2
  simp only[backTo,List.map_map,List.getElem_map,List.getElem_range,Function.comp_apply,List.getElem_reverse]
  have hi:i<ars.length:=by simpa using h2
  rw[List.getElem?_eq_getElem (by omega)]
  rfl
theorem wrapsB_all(ars:List TagI)(b:ByteArray):wrapsB (backTo ars ars.length) b=wraps (ars.map (·.1)) b:=by
 have h:=backTo_rev ars
 have e1:wrapsB (backTo ars ars.length) b=((backTo ars ars.length).map (·.2)).foldl (fun b t=>elB 2 true t.1 b) b:=by
  unfold wrapsB
  rw[List.foldl_map]
 rw[e1,h,List.foldl_reverse]
 unfold wraps
 rw[List.foldr_map]
end Go.Proofs.YtkkicodfpekbgaaGreatDoor
namespace Go.Proofs.YtkkicodfpekbgaaGreatDoor
set_option linter.unusedSimpArgs false
set_option linter.unusedVariables false
set_option maxRecDepth 100000
set_option maxHeartbeats 8000000
def WRecLe(r r':WRec):Prop:=∀i x dp o,r i x dp=some o→r' i x dp=some o
theorem wandThen_le{o o':Option WOut}{k k':ByteArray→Nat→Bool→Option WOut}{v:WOut}(ho:∀u,o=some u→o'=some u)(hk:∀b x u v,k b x u=some v→k' b x u=some v)(h:WOut.andThen o k=some v):WOut.andThen o' k'=some v:=by
 rcases wandThen_cases h with⟨h1,h2⟩|⟨b,x,u,h1,h2⟩
 ·rw[ho _ h1,h2];rfl
 ·rw[ho _ h1]
  exact hk b x u v h2
theorem wseqF_le{E:WEnv}{r r':WRec}(hr:WRecLe r r'){dp:Int}:∀(ks:List Kd) (x:Nat) (out:ByteArray) (u:Bool) (v:WOut),wseqF E r dp ks x out u=some v→wseqF E r' dp ks x out u=some v
 | [],x,out,u,v,h=>h
 |k::ks,x,out,u,v,h=>by
  unfold wseqF at h ⊢
  split at h
  ·rename_i q
   rw[if_pos q]
   split at h
   ·rename_i q2
    rw[if_pos q2]
    exact wseqF_le hr ks _ _ _ _ h
   ·rename_i q2
    rw[if_neg q2]
    exact h
  ·rename_i q
   rw[if_neg q]
   refine wandThen_le (fun o ho=>hr _ _ _ _ ho) (fun b x' u' v h=>?_) h
   split at h
   ·rename_i q2
    rw[if_pos q2]
    exact wseqF_le hr ks _ _ _ _ h
   ·rename_i q2
    rw[if_neg q2]
    split at h
    ·rename_i q3
     rw[if_pos q3]
     exact h
    ·rename_i q3
     rw[if_neg q3]
     exact wseqF_le hr ks _ _ _ _ h
theorem wmanyF_le{E:WEnv}{r r':WRec}(hr:WRecLe r r'){set:Bool}{i:Nat}{dp:Int}:∀(m m':Nat) (c:Int) (x:Nat) (out last:ByteArray) (u:Bool) (v:WOut),m≤m'→wmanyF E r set i dp m c x out last u=some v→wmanyF E r' set i dp m' c x out last u=some v
 |0,_,_,_,_,_,_,_,_,h=>by cases h
 |m+1,0,_,_,_,_,_,_,hm,_=>by omega
 |m+1,m'+1,c,x,out,last,u,v,hm,h=>by
  unfold wmanyF at h ⊢
  split at h
  ·rename_i q
   rw[if_pos q]
   exact wandThen_le (fun o ho=>hr _ _ _ _ ho) (fun b x' u' v h=>wmanyF_le hr m m' _ _ _ _ _ _ (by omega) h) h
  ·rename_i q
   rw[if_neg q]
   exact h
theorem wbareF_le{E:WEnv}{r r':WRec}(hr:WRecLe r r'){m m':Nat}(hm:m≤m'){n:Nd}{cl nu:Int}{v:Vl}{x:Nat}{dp:Int}{o:WOut}(h:wbareF E r m n cl nu v x dp=some o):wbareF E r' m' n cl nu v x dp=some o:=by
 unfold wbareF at h ⊢
 split at h
 ·rename_i q
  rw[if_pos q]
  split at h
  ·rename_i q2
   rw[if_pos q2]
   exact hr _ _ _ _ h
  ·rename_i q2
   rw[if_neg q2]
   exact h
 rename_i q0
 rw[if_neg q0]
 split at h
 ·rename_i q
  rw[if_pos q]
  exact h
 rename_i q1
 rw[if_neg q1]
 split at h
 ·rename_i q
  rw[if_pos q]
  split at h
  ·rename_i q2
   rw[if_pos q2]
   exact wandThen_le (fun o ho=>wseqF_le hr _ _ _ _ _ ho) (fun _ _ _ _ h=>h) h
  ·rename_i q2
   rw[if_neg q2]
   exact h
 rename_i q3
 rw[if_neg q3]
 split at h
 ·rename_i q
  rw[if_pos q]
  split at h
  ·rename_i q2
   rw[if_pos q2]
   exact wandThen_le (fun o ho=>wmanyF_le hr _ _ _ _ _ _ _ _ hm ho) (fun _ _ _ _ h=>h) h
  ·rename_i q2
   rw[if_neg q2]
   exact h
 rename_i q4
 rw[if_neg q4]
 exact h
theorem wrF_le{E:WEnv}:∀f,WRecLe (wrF E f) (wrF E (f+1))
 |0=>fun _ _ _ _ h=>by cases h
 |f+1=>fun i x dp o h=>by
  rw[wrF]at h ⊢
  split at h
  ·rename_i q
   rw[if_pos q]
   exact wandThen_le (fun o ho=>wbareF_le (wrF_le f) (Nat.le_succ _) ho) (fun _ _ _ _ h=>h) h
  ·rename_i q
   rw[if_neg q]
   exact h
theorem wrF_add{E:WEnv}(f:Nat):∀k,WRecLe (wrF E f) (wrF E (f+k))
 |0=>fun _ _ _ _ h=>h
 |k+1=>fun i x dp o h=>wrF_le (f+k) i x dp o (wrF_add f k i x dp o h)
end Go.Proofs.YtkkicodfpekbgaaGreatDoor
namespace Go.Proofs.YtkkicodfpekbgaaGreatDoor
open Go.RowKit
set_option linter.unusedSimpArgs false
set_option linter.unusedVariables false
set_option maxRecDepth 100000
set_option maxHeartbeats 8000000

def ValIn(w:World)(a:Option Addr)(vs:List Vl):Prop:=∀j,j<vs.length→∃g o,a=some ⟨g,o,none⟩∧w.cell? ⟨g,o+j*4,none⟩=some (.int .i64 (vl vs j).kind)∧w.cell? ⟨g,o+j*4+1,none⟩=some (.string (vl vs j).text)∧
 w.cell? ⟨g,o+j*4+2,none⟩=some (.int .i64 (vl vs j).alt)∧w.cell? ⟨g,o+j*4+3,none⟩=some (.int .i64 (vl vs j).kids)
theorem vcells_in:∀(l:List Vl) (i:Nat),i<l.length→∀j,j<4→(vcells l)[i*4+j]? =(vl l i).cells[j]?
 | [],i,h,_,_=>absurd h (Nat.not_lt_zero _)
 |v::l,0,_,j,hj=>by
  have e:vcells (v::l)=v.cells++vcells l:=by unfold vcells;simp
  rw[e,List.getElem?_append_left (by show 0*4+j<4;omega)]
  simp[vl]
 |v::l,i+1,h,j,hj=>by
  have e:vcells (v::l)=v.cells++vcells l:=by unfold vcells;simp
  have hl:v.cells.length=4:=rfl
  rw[e,List.getElem?_append_right (by omega),hl,show(i+1)*4+j-4=i*4+j by omega,vcells_in l i (by simpa using h) j hj]
  simp[vl]
theorem ValIn.of_own{w:World}{base:Nat}{a:Option Addr}{c:Nat}{vs:List Vl}(h:w.ownsRow base 60 4 (.slice a vs.length c) vs.length (vcells vs)):ValIn w a vs:=fun j hj=>by
 obtain⟨a',c',e,hf⟩:=own_form2 h
 obtain⟨g,rfl⟩:=hf (by omega)
 injection e with e1 _ _
 subst e1
 have q:=h.cells (g:=g) rfl
 refine⟨g,0,rfl,?_,?_,?_,?_⟩ <;>rw[Nat.zero_add]
 ·have:=q (j*4) (.int .i64 (vl vs j).kind) (by rw[show j*4=j*4+0 by omega,vcells_in vs j hj 0 (by decide)];rfl);rwa[add0]at this
 ·have:=q (j*4+1) (.string (vl vs j).text) (by rw[vcells_in vs j hj 1 (by decide)];rfl);rwa[add0]at this
 ·have:=q (j*4+2) (.int .i64 (vl vs j).alt) (by rw[vcells_in vs j hj 2 (by decide)];rfl);rwa[add0]at this
 ·have:=q (j*4+3) (.int .i64 (vl vs j).kids) (by rw[vcells_in vs j hj 3 (by decide)];rfl);rwa[add0]at this
theorem ValIn.below{w w':World}{a:Option Addr}{vs:List Vl}(h:ValIn w a vs)(hb:Below w.heap.size w w'):ValIn w' a vs:=fun j hj=>by
 obtain⟨g,o,e,h1,h2,h3,h4⟩:=h j hj
 exact⟨g,o,e,(hb.cell (lt_of_cell h1)).trans h1,(hb.cell (lt_of_cell h2)).trans h2,(hb.cell (lt_of_cell h3)).trans h3,(hb.cell (lt_of_cell h4)).trans h4⟩
end Go.Proofs.YtkkicodfpekbgaaGreatDoor
namespace Go.Proofs.YtkkicodfpekbgaaGreatDoor
set_option linter.unusedSimpArgs false
set_option linter.unusedVariables false
set_option maxRecDepth 100000
set_option maxHeartbeats 8000000
def At(d:ByteArray)(x:Nat)(b:ByteArray):Prop:=x+b.size≤d.size∧d.extract x (x+b.size)=b
theorem At.all(d:ByteArray):At d 0 d:=⟨by omega,by rw[Nat.zero_add];exact ByteArray.extract_zero_size⟩
theorem At.nil{d:ByteArray}{x:Nat}(h:x≤d.size):At d x noB:=⟨h,by
 apply ByteArray.ext
 apply Array.toList_inj.1
 apply List.eq_nil_of_length_eq_zero
 show(d.extract x (x+0)).size=0
 rw[ex_size];omega⟩
theorem At.left{d a b:ByteArray}{x:Nat}(h:At d x (a++b)):At d x a:=by
 have e:=h.2
 have hz:=h.1
 rw[ByteArray.size_append]at e hz
 refine⟨by omega,?_⟩
 have q:(d.extract x (x+(a.size+b.size))).extract 0 a.size=(a++b).extract 0 a.size:=by rw[e]
 rw[ByteArray.extract_extract,ByteArray.extract_append_eq_left rfl,Nat.add_zero,Nat.min_eq_left (by omega)]at q
 exact q
theorem At.right{d a b:ByteArray}{x:Nat}(h:At d x (a++b)):At d (x+a.size) b:=by
 have e:=h.2
 have hz:=h.1
 rw[ByteArray.size_append]at e hz
 refine⟨by omega,?_⟩
 have q:(d.extract x (x+(a.size+b.size))).extract a.size (a.size+b.size)=(a++b).extract a.size (a.size+b.size):=by rw[e]
 rw[ByteArray.extract_extract,ByteArray.extract_append_eq_right rfl rfl,Nat.min_self,←Nat.add_assoc]at q
 exact q
theorem At.hd{E:Env}{b:ByteArray}{x y:Nat}(h:At E.d x b)(h0:(hd b).1=0)(hz:(hd b).2.s+(hd b).2.l=b.size)(hy:x+b.size≤y)(hyd:y≤E.d.size):E.hd x y=Go.Proofs.YtkkicodfpekbgaaGreatDoor.hd b∧fin x (E.hd x y).2=x+b.size:=by
 have e:E.hd x (x+b.size)=Go.Proofs.YtkkicodfpekbgaaGreatDoor.hd b:=by unfold Env.hd;rw[h.2]
 have h1:(E.hd x (x+b.size)).1=0:=by rw[e];exact h0
 have hf:fin x (E.hd x (x+b.size)).2=x+b.size:=by
  have:=fin_int h1
  rw[e]at this ⊢
  omega
 have ha:=hd_again h1 (z:=y) (by omega) hyd h.1
 rw[ha]
 exact⟨e,hf⟩
theorem At.el{d s:ByteArray}{x:Nat}{c:Int}{b:Bool}{n:Int}(h:At d x (elB c b n s)):At d (x+(2+cnt s.size).toNat) s:=by
 have hz:=elB_sz c b n s
 unfold elB at h hz
 have q:=h.right
 rw[ByteArray.size_append]at hz
 rw[show(2+cnt s.size).toNat=(⟨(UInt8.ofNat (fb ⟨c,b,n,0,s.size⟩).toNat::tl s.size).toArray⟩:ByteArray).size by omega]
 exact q
end Go.Proofs.YtkkicodfpekbgaaGreatDoor
