/-
Short names.
-/
import Derived.WalkKit
namespace Go.Proofs.YtkkicodfpekbgaaGreatDoor
theorem Fz{w:World}{k i:Nat}{A:Array Value}{T:TypeId}(h:w.heap[k]? =some (.cells A T (0,0))):w.frozen? ⟨k,i,none⟩=false:=by simp[World.frozen?,h]
theorem Bf{p:Prop}(h:p:=by rw[beq_eq_false_iff_ne];omega):p:=h
abbrev Bw(w w':World):Prop:=RowKit.Below w.heap.size w w'
theorem Tm{w w1 w2:World}(h:Bw w w1)(k:Bw w1 w2):Bw w w2:=h.trans (k.mono h.size)
theorem Cb{w w':World}{a:Addr}{v:Value}(h:Bw w w')(k:w.cell? a=some v):w'.cell? a=some v:=(h.cell (by rcases Nat.lt_or_ge a.block w.heap.size with q|q;(·exact q);simp[World.cell?,Array.getElem?_eq_none q]at k)).trans k
theorem Ey{α:Sort _}{a:α}:∃x,a=x:=⟨_,rfl⟩
theorem Ez{α:Sort _}{a:α}:∃x,x=a:=⟨_,rfl⟩
theorem By{n:Nat}{w:World}:RowKit.Below n w w:=.refl _ _
theorem Be{w:World}{o:Obj}:RowKit.Below w.heap.size w (w.alloc o):=(RowKit.Below.refl _ _).alloc (Nat.le_refl _) _
theorem Ln{n:Nat}:n≤n:=n.le_refl
theorem Lz{n:Nat}:0≤n:=n.zero_le
theorem O{p:Prop}(h:p:=by omega):p:=h
theorem Dc{p:Prop}(h:p:=by decide):p:=h
theorem Sq{p:Prop}(h:p:=by simp):p:=h
theorem Kr{p:Prop}(h:p:=by kernel_rfl):p:=h
theorem As{p:Prop}(h:p:=by assumption):p:=h
theorem So{p:Prop}(h:p:=by simp;omega):p:=h
theorem Rf{p:Prop}(h:p:=by rfl):p:=h
theorem Gn{p:Prop}(h:p:=by go_num):p:=h
theorem Ms{p:Prop}(h:p:=by simp[intOf];omega):p:=h
abbrev ba:=@if_pos
abbrev bl:=@Go.heap_alloc_new
abbrev br:=@decide_eq_false
abbrev ch:=@decide_eq_true
abbrev cm:=@Go.RowKit.Below.refl
abbrev cq:=@List.setIfInBounds_toArray
abbrev cr:=@List.set_cons_succ
abbrev ct:=@List.set_cons_zero
abbrev db:=@Go.bodyPost_ret
abbrev dd:=@Option.some.inj
abbrev dh:=@Nat.not_lt_zero
abbrev dk:=@Go.ownsRow_setCell_other
abbrev dy:=@List.getD_eq_getElem?_getD
abbrev dz:=@List.getElem?_eq_getElem
abbrev ez:=@Go.heap_setCell_other
abbrev ff:=@List.length_append
abbrev fu:=@List.length_cons
abbrev fw:=@Nat.le_trans
abbrev gd:=@Go.Calls.mono
abbrev iq:=@ByteArray.size_append
abbrev iw:=@Go.heap_setCell_same
abbrev je:=@ByteArray.ext
abbrev ji:=@List.getElem_cons_succ
abbrev jj:=@List.getElem_cons_zero
abbrev jk:=@List.getElem_toArray
abbrev jq:=@beq_iff_eq
abbrev js:=@Go.rounds_succ
abbrev kr:=@congrArg
abbrev ld:=@Int.toNat_natCast
abbrev lf:=@beq_eq_false_iff_ne
abbrev ln:=@bne_iff_ne
abbrev lu:=@Array.getElem?_eq_none
abbrev lx:=@List.length_nil
abbrev ly:=@Nat.zero_add
abbrev me:=@List.getElem_mem
abbrev mh:=@Go.info_parts
abbrev na:=@List.append_assoc
abbrev nr:=@Go.RowKit.Below.heap_alloc
abbrev ny:=@Nat.lt_or_ge
abbrev nz:=@Go.World.ownsRow_nil
abbrev ot:=@ByteArray.size_extract
abbrev ou:=@List.length_map
abbrev ox:=@Go.World.cell?_of_block
abbrev pf:=@Nat.add_assoc
abbrev qj:=@bne_eq_false_iff_eq
abbrev qq:=@List.getElem?_append_right
abbrev rh:=@Go.wp_loop_rounds
abbrev ri:=@Array.length_toList
abbrev sg:=@Int.eq_ofNat_of_zero_le
abbrev sh:=@List.getElem?_take_of_lt
abbrev sq:=@Go.run_callFunc_extern
abbrev su:=@Go.IntKind.wrap_i64
abbrev ug:=@List.length_drop
abbrev ur:=@decide_eq_true_iff
abbrev uG:=@Array.getElem?_setIfInBounds
abbrev uH:=@List.getElem?_append_left
abbrev uI:=@List.map_cons
abbrev uJ:=@List.mem_cons_of_mem
abbrev uK:=@List.mem_cons_self
abbrev u9:=@Bool.or_assoc
abbrev vh:=@Int.toNat_of_nonneg
abbrev vx:=@List.flatMap_cons
abbrev vy:=@List.size_toArray
abbrev vz:=@List.take_add_one
abbrev we:=@List.take_length
abbrev xp:=@Bool.and_eq_true
abbrev xq:=@Bool.or_eq_true
abbrev xu:=@Go.DataW.trod_int
abbrev xv:=@Go.DataW.trod_string
abbrev xz:=@List.getElem?_eq_none
abbrev ye:=@List.take_of_length_le
abbrev zg:=@Classical.byContradiction
abbrev zi:=@Iff.rfl
abbrev zj:=@List.getElem?_drop
abbrev zk:=@List.getElem_of_mem
abbrev zl:=@List.map_nil
abbrev zn:=@List.nil_append
abbrev zp:=@Nat.add_zero
abbrev zy:=@decide_eq_true_eq
abbrev Am:=@Array.toList_append
abbrev Ao:=@Bool.eq_iff_iff
abbrev Av:=@List.drop_eq_nil_of_le
abbrev Aw:=@List.drop_zero
abbrev Ax:=@List.length_take
abbrev Ay:=@List.mem_append_left
abbrev Az:=@Nat.le_succ
abbrev Bj:=@of_decide_eq_true
abbrev Bz:=@Go.Addr.add_lit
abbrev Cc:=@Bool.or_false
abbrev Ce:=@ByteArray.data_append
abbrev Cg:=@Int.natCast_nonneg
abbrev Ch:=@List.getElem?_map
abbrev Ci:=@List.map_append
abbrev Cj:=@Nat.add_comm
abbrev Ck:=@Nat.add_sub_cancel
abbrev Cl:=@Nat.mul_le_mul_right
abbrev Cu:=@Go.Sem.run_bind
abbrev Cx:=@UInt8.toNat_lt
abbrev Eb:=@Bool.and_false
abbrev Ec:=@Bool.false_ne_true
abbrev Ed:=@Bool.false_or
abbrev Ee:=@ByteArray.extract_extract
abbrev Eg:=@Go.DataW.trod_struct
abbrev Eh:=@Go.Exit.noGoto_ret
abbrev Ek:=@List.mem_append
abbrev El:=@List.take_left'
abbrev Ep:=@Nat.lt_irrefl
abbrev Er:=@Nat.mod_eq_of_lt
abbrev Es:=@Nat.mul_one
abbrev Hn:=@Array.ext'
abbrev Ht:=@List.cons_append
abbrev Hu:=@List.drop_eq_getElem_cons
abbrev Hv:=@List.drop_of_length_le
abbrev Hw:=@List.getElem?_take
abbrev Ia:=@Nat.min_eq_left
abbrev Ij:=@Go.World.cells?_some
abbrev Jw:=@or_congr
abbrev Kj:=@Go.run_underlying
abbrev Lh:=@Array.size_setIfInBounds
abbrev Li:=@ByteArray.append_assoc
abbrev Lk:=@List.append_nil
abbrev Ll:=@List.ext_getElem
abbrev Lm:=@List.filter_append
abbrev Lo:=@List.mem_cons
abbrev Lp:=@List.mem_filter
abbrev Lq:=@List.not_mem_nil
abbrev Lr:=@List.take_take
abbrev Lu:=@Nat.le_of_lt
abbrev Lw:=@Nat.min_def
abbrev Lx:=@Nat.zero_mul
abbrev Mw:=@Go.World.cell?_alloc_lt
abbrev Mx:=@Go.World.var?_cell
abbrev Oc:=@decide_eq_false_iff_not
abbrev Pm:=@or_false
abbrev Px:=@Go.results_none
abbrev Qa:=@Go.run_copy_cells
abbrev Qu:=@Array.getElem?_toList
abbrev Qv:=@Array.replicate_succ
abbrev Qw:=@Array.replicate_zero
abbrev Qx:=@Array.toList_extract
abbrev Qz:=@Bool.not_eq_true'
abbrev Ra:=@ByteArray.data_extract
abbrev Rb:=@ByteArray.extract_zero_size
abbrev Rh:=@Int.le_refl
abbrev Ri:=@Go.IntWalk.wrap64_in
abbrev Rj:=@List.append_toArray
abbrev Rk:=@List.drop_left'
abbrev Rl:=@List.ext_getElem?
abbrev Rm:=@List.extract_eq_take_drop
abbrev Rn:=@List.length_range
abbrev Ro:=@List.mem_of_mem_drop
abbrev Rp:=@List.push_toArray
abbrev Rr:=@Nat.sub_zero
abbrev Ru:=@Option.getD_some
abbrev Sc:=@Go.Sem.run_pure
abbrev Ta:=@Go.World.cell?_setCells_out
abbrev Yy:=@Go.run_convert_bytes_back
abbrev aab:=@Array.eq_empty_of_size_eq_zero
abbrev aac:=@Array.getElem?_modify
abbrev aaf:=@ByteArray.extract_append_eq_left
abbrev aay:=@List.eq_nil_of_length_eq_zero
abbrev aaA:=@List.length_filter_le
abbrev aaC:=@List.take_append_of_le_length
abbrev X:=@rfl
abbrev G:=@if_neg
abbrev Ab:=@absurd
end Go.Proofs.YtkkicodfpekbgaaGreatDoor
