/-
Several texts in one.
-/
import Derived.Test.YtkkicodfpekbgaaGreatDoorJa16
import Derived.Deep.DeepCutAuto
import Derived.BigQuiet
import Derived.Test.YtkkicodfpekbgaaGreatDoorJa6
import Derived.Test.YtkkicodfpekbgaaGreatDoorJa11
import Derived.Test.YtkkicodfpekbgaaGreatDoorJa8
import Derived.Test.YtkkicodfpekbgaaGreatDoorJa14
import Derived.Test.YtkkicodfpekbgaaGreatDoorJa7
import Derived.Test.YtkkicodfpekbgaaGreatDoorJa4
import Derived.Test.YtkkicodfpekbgaaGreatDoorJa1
import Derived.Test.YtkkicodfpekbgaaGreatDoorJa5
import Derived.Test.YtkkicodfpekbgaaGreatDoorJa3
import Derived.Deep.AppendLies
import Derived.Deep.RegionHeldLaw
namespace Go.Proofs.YtkkicodfpekbgaaGreatDoor
open Go.RowKit
set_option linter.unusedSimpArgs false
set_option linter.unusedVariables false
set_option maxRecDepth 100000
set_option maxHeartbeats 8000000
def qMk(q:ByteArray×ByteArray×ByteArray):Mks:=⟨q.1,q.2.1.toList== [255],q.2.2⟩
def qsO(o:Option (List (ByteArray×ByteArray×ByteArray))):List (ByteArray×ByteArray×ByteArray):=o.getD []
def msOf(c:CT):List Mks:=(qsO c.ms).map qMk
theorem tree_q(c:CT):c.tree.length=10+4*(qsO c.ms).length:=by
 have:∀l:List (ByteArray×ByteArray×ByteArray),(l.flatMap quadL).length=4*l.length:=fun l=>by
  induction l with
  |nil=>rfl
  |cons a l ih=>rw[List.flatMap_cons,List.length_append,ih];show 4+_=_;rw[List.length_cons];omega
 unfold CT.tree cTail qsO
 rw[List.length_append]
 cases c.ms with
 |none=>rfl
 |some qs=>
  show 9+((qs.flatMap quadL).length+1)=10+4*qs.length
  rw[this];omega
theorem tree_at(c:CT)(j:Nat)(hj:j<(qsO c.ms).length)(i:Nat)(hi:i<4):vl c.tree (10+4*j+i)=vl (quadL ((qsO c.ms).getD j (noB,noB,noB))) i:=by
 have key:∀(l:List (ByteArray×ByteArray×ByteArray)) (j:Nat),j<l.length→vl (l.flatMap quadL) (4*j+i)=vl (quadL (l.getD j (noB,noB,noB))) i:=fun l=>by
  induction l with
  |nil=>intro j hj;exact absurd hj (Nat.not_lt_zero _)
  |cons a l ih=>
   intro j hj
   match j,hj with
   |0,_=>
    rw[List.flatMap_cons]
    unfold vl
    rw[List.getD_eq_getElem?_getD,List.getElem?_append_left (by show 4*0+i<4;omega),List.getD_eq_getElem?_getD,Nat.mul_zero,Nat.zero_add]
    rfl
   |j+1,hj=>
    rw[List.flatMap_cons,show 4*(j+1)+i=(quadL a).length+(4*j+i)by show _=4+_;omega,vl_app,ih j (by simpa using hj),List.getD_cons_succ]
 cases hm:c.ms with
 |none=>rw[hm]at hj;exact absurd hj (Nat.not_lt_zero _)
 |some qs=>
  rw[hm]at hj
  unfold CT.tree
  rw[hm]
  show vl (cHead c.vt c.s c.n c.pr c.ft c.tt c.k++(⟨11,noB,0,(qs.length:Nat)⟩::qs.flatMap quadL)) (10+4*j+i)=_
  rw[show 10+4*j+i=(cHead c.vt c.s c.n c.pr c.ft c.tt c.k).length+(1+(4*j+i))by show _=9+_;omega,vl_app,show(⟨11,noB,0,(qs.length:Nat)⟩:Vl)::qs.flatMap quadL=[(⟨11,noB,0,(qs.length:Nat)⟩:Vl)]++qs.flatMap quadL from rfl,show 1+(4*j+i)=[(⟨11,noB,0,(qs.length:Nat)⟩:Vl)].length+(4*j+i)from rfl,vl_app]
  exact key qs j hj
def RetCo(c:CT)(w:World)(e:Ending)(w':World):Prop:=
 Below w.heap.size w w'∧∃ma mc,e= .returned (cardV (b8 c.vt 0) c.s c.n c.ft c.tt c.k (.slice ma (msOf c).length mc))∧w'.ownsRow w.heap.size 73 3 (.slice ma (msOf c).length mc) (msOf c).length (mcells (msOf c))
abbrev cdNone:Array Value:=#[.int .i64 0,.string ⟨#[]⟩,.string ⟨#[]⟩,.string ⟨#[]⟩,.string ⟨#[]⟩,.string ⟨#[]⟩,.slice none 0 0]
abbrev cdAll(v:Int)(s n f t k:ByteArray)(mv:Value):Array Value:=#[.int .i64 v,.string s,.string n,.string f,.string t,.string k,mv]
structure CoI(W wr:World)(v:Int)(s n f t k:ByteArray)(mv:Value)(ms:List Mks):Prop where
 bel:Below W.heap.size W wr
 res:wr.heap[W.heap.size]? =some (.cells cdNone 68 (0,0))
 box:wr.heap[W.heap.size+1]? =some (.cells (cdAll v s n f t k mv) 68 (0,0))
 own:wr.ownsRow W.heap.size 73 3 mv ms.length (mcells ms)
theorem CoI.below{W wr w':World}{v:Int}{s n f t k:ByteArray}{mv:Value}{ms:List Mks}(h:CoI W wr v s n f t k mv ms)(hb:Below wr.heap.size wr w'):CoI W w' v s n f t k mv ms:=
 ⟨h.bel.trans (hb.mono h.bel.size),block_below h.res hb,block_below h.box hb,own_below h.own hb⟩
theorem CoI.put{W wr w':World}{v:Int}{s n f t k:ByteArray}{mv:Value}{ms:List Mks}{g cap:Nat}(h:CoI W wr v s n f t k mv ms)(m:Mks)
 (h1:w'.ownsRow W.heap.size 73 3 (.slice (some ⟨g,0,none⟩) (ms.length+1) cap) (ms.length+1) (mcells ms++[.string m.kind,.bool m.must,.string m.body]))(h2:wr.grownBy w' mv.ownBlock):
 CoI W (w'.setCell ⟨W.heap.size+1,6,none⟩ (.slice (some ⟨g,0,none⟩) (ms.length+1) cap)) v s n f t k (.slice (some ⟨g,0,none⟩) (ms.length+1) cap) (ms++[m])∧w'.cell? ⟨W.heap.size+1,6,none⟩=some mv∧w'.frozen? ⟨W.heap.size+1,6,none⟩=false:=by
 have hC:w'.heap[W.heap.size+1]? =some (.cells (cdAll v s n f t k mv) 68 (0,0)):=by rw[h2.block _ (row_lt h.box) (fun q=>row_ne1 h.box h.own (by decide) q.symm)];exact h.box
 have hR:w'.heap[W.heap.size]? =some (.cells cdNone 68 (0,0)):=by rw[h2.block _ (row_lt h.res) (fun q=>row_ne1 h.res h.own (by decide) q.symm)];exact h.res
 refine⟨⟨(h.bel.grown h2 h.bel.size (fun k hk=>(h.own.lt k hk).1)).setCell (Nat.le_succ _) _,by rw[heap_setCell_other _ _ _ _ (by simp)];exact hR,heap_setCell_same w' _ 6 _ _ _ hC,?_⟩,by simp[World.cell?,hC],by simp[World.frozen?,hC]⟩
 rw[mcells_append,List.length_append]
 exact ownsRow_setCell_other h1 (row_ne1 hC h1 (by decide)) _
def Tryz.zeroMrk:Value:= .agg #[.string ⟨#[]⟩,.bool false,.string ⟨#[]⟩]
theorem Tryz.infoMrk:(Tryz.prog.info? 73).map (fun i=>(i.zero,i.size,i.bytes))=some (some Tryz.zeroMrk,3,40):=by kernel_rfl
def slen:Value→Nat
 | .slice _ n _=>n
 |_=>0
theorem cardOf_any(c:CT)(hok:c.Ok)(a:Option Addr)(tc:Nat)(w:World)(hv:ValIn w a c.tree)(htc:c.tree.length≤tc)(htl:c.tree.length≤1000000):
 Calls Tryz.prog 88 #[.slice a c.tree.length tc] w fun e w'=>RetCo c w e w':=by
 have hq:=tree_q c
 obtain⟨n,hn⟩:∃n,c.tree.length=n:=⟨_,rfl⟩
 have hvt:1≤c.vt.size:=((contentOk_2 _).2 hok.vt).1
 have HV:=hidec hv
 obtain⟨g,o,rfl,_⟩:=hv 0 (by omega)
 have cell:∀j,j<c.tree.length→w.cell? ⟨g,o+j*4+1,none⟩=some (.string (vl c.tree j).text):=fun j hj=>by
  obtain⟨g',o',e,_,h,_⟩:=HV.out j hj
  injection e with e
  injection e with e1 e2 _
  subst e1 e2
  exact h
 have d1:w.cell? ⟨g,o+5,none⟩=some (.string c.vt):=cell 1 (by omega)
 have d2:w.cell? ⟨g,o+9,none⟩=some (.string c.s):=cell 2 (by omega)
 have d4:w.cell? ⟨g,o+17,none⟩=some (.string c.n):=cell 4 (by omega)
 have d6:w.cell? ⟨g,o+25,none⟩=some (.string c.ft):=cell 6 (by omega)
 have d7:w.cell? ⟨g,o+29,none⟩=some (.string c.tt):=cell 7 (by omega)
 have d8:w.cell? ⟨g,o+33,none⟩=some (.string c.k):=cell 8 (by omega)
 have HCE:=hidec cell
 have hgl:g<w.heap.size:=lt_of_cell d1
 rw[hn]
 rw[hn]at hq htc htl
 have hn10:(10:Int)≤n:=by omega
 have HD:Hid (∀wq,Below w.heap.size w wq→wq.cell? ⟨g,o+5,none⟩=some (.string c.vt)∧wq.cell? ⟨g,o+9,none⟩=some (.string c.s)∧wq.cell? ⟨g,o+17,none⟩=some (.string c.n)∧wq.cell? ⟨g,o+25,none⟩=some (.string c.ft)∧wq.cell? ⟨g,o+29,none⟩=some (.string c.tt)∧wq.cell? ⟨g,o+33,none⟩=some (.string c.k)):=fun wq q=>⟨(q.cell (lt_of_cell d1)).trans d1,(q.cell (lt_of_cell d2)).trans d2,(q.cell (lt_of_cell d4)).trans d4,(q.cell (lt_of_cell d6)).trans d6,(q.cell (lt_of_cell d7)).trans d7,(q.cell (lt_of_cell d8)).trans d8⟩
 have HNN:=hidec (And.intro hn hq)
 have HB8:=hidec (b8_get c.vt 0 (by omega))
 have hvt':(0:Int)<c.vt.size:=by omega
 have hvt2:0<c.vt.size:=by omega
 have k1:(1:Int)<n:=by omega
 have k2:(2:Int)<n:=by omega
 have k4:(4:Int)<n:=by omega
 have k6:(6:Int)<n:=by omega
 have k7:(7:Int)<n:=by omega
 have k8:(8:Int)<n:=by omega
 clear hv cell hok hn hq
 go_enter Tryz.func88,Tryz.ntmps88
 go_upto_region 1 with fail
 have hw8:IntKind.i64.wrap (c.vt[0].toNat:Int)=b8 c.vt 0:=by
  rw[HB8.out,IntKind.wrap_i64]
  have:=b8_bd c.vt 0
  omega
 go_cut [3] (fun v3 wx=>v3= .pointer (some ⟨w.heap.size+1,0,none⟩)∧CoI w wx (b8 c.vt 0) c.s c.n c.ft c.tt c.k (.slice none 0 0) [])
 case first=>
  go_region_held_law (fun wq=>wq.cell? ⟨g,o+5,none⟩=some (.string c.vt)∧wq.cell? ⟨g,o+9,none⟩=some (.string c.s)∧wq.cell? ⟨g,o+17,none⟩=some (.string c.n)∧wq.cell? ⟨g,o+25,none⟩=some (.string c.ft)∧wq.cell? ⟨g,o+29,none⟩=some (.string c.tt)∧wq.cell? ⟨g,o+33,none⟩=some (.string c.k)) (go_keep) (fail)
  all_goals
   go_wp2_with fail
   go_meet
   have h1:=heap_alloc_new w (.cells cdNone 68)
   have h2:=heap_alloc_new (w.alloc (.cells cdNone 68)) (.cells (cdAll (b8 c.vt 0) c.s c.n c.ft c.tt c.k (.slice none 0 0)) 68)
   have e:(w.alloc (.cells cdNone 68)).heap.size=w.heap.size+1:=by simp
   rw[e]at h2
   exact⟨rfl,(((Below.refl _ _).alloc (Nat.le_refl _) _).alloc (by simp) _).drew,block_below h1 ((Below.refl _ _).alloc (Nat.le_refl _) _).drew,h2,World.ownsRow_nil _ _ _ _⟩
 case rest=>
  obtain⟨rfl,hC⟩:=hcut
  have HC:=hidec hC
  clear hC hw8 HB8 d1 d2 d4 d6 d7 d8 k1 k2 k4 k6 k7 k8 hvt hvt' hvt2 HD
  obtain⟨hn,hq⟩:=HNN.out
  obtain⟨q,hqq⟩:∃q,(qsO c.ms).length=q:=⟨_,rfl⟩
  rw[hqq]at hq
  have HQ:=hidec hqq
  have hms:(msOf c).length=q:=by unfold msOf;rw[List.length_map];exact hqq
  have HMS:=hidec hms
  have HCM:Hid (∀j,j<q→∃m:Mks,∃mt:ByteArray,(msOf c).take (j+1)=(msOf c).take j++[m]∧m.must=(mt.toList== [255])∧w.cell? ⟨g,o+(10+4*j)*4+5,none⟩=some (.string m.kind)∧w.cell? ⟨g,o+(10+4*j)*4+9,none⟩=some (.string mt)∧w.cell? ⟨g,o+(10+4*j)*4+13,none⟩=some (.string m.body)):=fun j hj=>by
   have hj':j<(qsO c.ms).length:=by rw[HQ.out];exact hj
   have e1:=HCE.out (10+4*j+1) (by rw[hn];omega)
   have e2:=HCE.out (10+4*j+2) (by rw[hn];omega)
   have e3:=HCE.out (10+4*j+3) (by rw[hn];omega)
   rw[tree_at c j hj' 1 (by decide),show o+(10+4*j+1)*4+1=o+(10+4*j)*4+5 by omega]at e1
   rw[tree_at c j hj' 2 (by decide),show o+(10+4*j+2)*4+1=o+(10+4*j)*4+9 by omega]at e2
   rw[tree_at c j hj' 3 (by decide),show o+(10+4*j+3)*4+1=o+(10+4*j)*4+13 by omega]at e3
   refine⟨qMk ((qsO c.ms).getD j (noB,noB,noB)),_,?_,rfl,e1,e2,e3⟩
   unfold msOf
   rw[List.take_add_one,List.getElem?_map,List.getElem?_eq_getElem hj',List.getD_eq_getElem?_getD,List.getElem?_eq_getElem hj']
   rfl
  have HNQ:=hidec hq
  have hnq:n-10=4*q:=by omega
  have hn1:10≤n:=by omega
  clear HCE HV hms hqq hq hn
  obtain⟨i0,hi0,hz0,hz1,hz2⟩:=info_parts Tryz.infoMrk
  go_upto_region 2 with fail
  go_cut [4] (fun v4 wx=>∃ra:Option Addr,v4= .slice ra (4*q) (tc-10)∧(0<q→ra=some ⟨g,o+40,none⟩)∧wx=wc)
  case first=>
   go_wp2_with fail
   ·subst h
    go_meet
    exact⟨_,rfl,fun h=>by have:=HNQ.out;omega,rfl⟩
   ·go_meet
    exact⟨_,rfl,fun _=>rfl,rfl⟩
  case rest=>
   obtain⟨ra,rfl,hra,rfl⟩:=hcut
   have HRA:=hidec hra
   have hrc:4*q≤tc-10:=by omega
   have HRC:=hidec hrc
   clear hra hrc hnq hn1 hn10
   generalize tc-10=rc at HRC ⊢
   go_wp2_with fail
   go_loopw [4] (fun v4 wr=>∃(j:Nat) (ra:Option Addr) (rc:Nat) (mv:Value),j≤q∧v4= .slice ra (4*(q-j)) rc∧4*(q-j)≤rc∧(j<q→ra=some ⟨g,o+(10+4*j)*4,none⟩)∧CoI w wr (b8 c.vt 0) c.s c.n c.ft c.tt c.k mv ((msOf c).take j)) (fun v4 _=>slen v4)
   case atStart=>exact⟨0,ra,rc,_,Nat.zero_le _,rfl,HRC.out,fun h=>HRA.out h,HC.out⟩
   case round=>
    obtain⟨j,ra,rc,mv,hj,rfl,hrc,hra,hI⟩:=hrel
    have HI:=hidec hI
    have HRC:=hidec hrc
    have hlj:((msOf c).take j).length=j:=by rw[List.length_take,HMS.out];omega
    have HLJ:=hidec hlj
    clear hI hrc hlj
    by_cases hlt:j<q
    ·obtain rfl:=hra hlt
     obtain⟨m,mt,hm1,hm2,e1,e2,e3⟩:=HCM.out j hlt
     obtain⟨L,hL⟩:∃L,(msOf c).take j=L:=⟨_,rfl⟩
     rw[hL]at HI HLJ hm1
     have HM:=hidec (And.intro hm1 hm2)
     obtain⟨r,hr⟩:∃r,4*(q-j)=r:=⟨_,rfl⟩
     have HR:=hidec hr
     have hjb:j<250000:=by have:=HNQ.out;omega
     have r0:(0:Int)<r:=by omega
     have r1:(1:Int)<r:=by omega
     have r2:(2:Int)<r:=by omega
     have r3:(3:Int)<r:=by omega
     have r4:(4:Int)≤r:=by omega
     obtain⟨O,hO⟩:∃O,o+(10+4*j)*4=O:=⟨_,rfl⟩
     have HO:=hidec hO
     rw[hO]at e1 e2 e3 ⊢
     have c6:wr.cell? ⟨w.heap.size+1,6,none⟩=some mv:=by simp[World.cell?,HI.out.box]
     have hcw:w.heap.size+1<wr.heap.size:=row_lt HI.out.box
     have HSK:Hid (∀wq,Below w.heap.size w wq→wq.cell? ⟨g,O+5,none⟩=some (.string m.kind)∧wq.cell? ⟨g,O+9,none⟩=some (.string mt)∧wq.cell? ⟨g,O+13,none⟩=some (.string m.body)):=fun wq q=>⟨(q.cell (lt_of_cell e1)).trans e1,(q.cell (lt_of_cell e2)).trans e2,(q.cell (lt_of_cell e3)).trans e3⟩
     rw[hr]
     clear e1 e2 e3 hm1 hm2 hr hO hL
     go_upto_region 5 with fail
     have HAP:Hid (∀(w6:World) (g6 cap6:Nat),w6.ownsRow w.heap.size 73 3 (.slice (some ⟨g6,0,none⟩) (L.length+1) cap6) (L.length+1) (mcells L++[.string m.kind,.bool (mt.toList== [255]),.string m.body])→(wr.alloc (.cells #[.string m.kind,.bool (mt.toList== [255]),.string m.body] 73)).drew.grownBy w6 mv.ownBlock→CoI w (w6.setCell ⟨w.heap.size+1,6,none⟩ (.slice (some ⟨g6,0,none⟩) (L.length+1) cap6)) (b8 c.vt 0) c.s c.n c.ft c.tt c.k (.slice (some ⟨g6,0,none⟩) (L.length+1) cap6) ((msOf c).take (j+1))∧w6.cell? ⟨w.heap.size+1,6,none⟩=some mv∧w6.frozen? ⟨w.heap.size+1,6,none⟩=false∧Below w.heap.size w w6):=fun w6 g6 cap6 h1 h2=>by
      have hA:=HI.out.below (((Below.refl _ _).alloc (Nat.le_refl _) (.cells #[.string m.kind,.bool (mt.toList== [255]),.string m.body] 73)).drew)
      obtain⟨q1,q2,q3⟩:=hA.put ⟨m.kind,mt.toList== [255],m.body⟩ h1 h2
      refine⟨?_,q2,q3,hA.bel.grown h2 hA.bel.size (fun k hk=>(hA.own.lt k hk).1)⟩
      rw[HM.out.1]
      rw[←HM.out.2]at q1
      exact q1
     refine wp_region_held_drew (S:=fun w'=>w'.cell? ⟨g,O+5,none⟩=some (.string m.kind)∧w'.cell? ⟨g,O+9,none⟩=some (.string mt)∧w'.cell? ⟨g,O+13,none⟩=some (.string m.body)) (by kernel_rfl) ?_ (fun hHeld=>?_)
     ·exact HSK.out _ HI.out.bel.drew
     refine wpAnyH_take (i:=0) (v:=?_) rfl (by kernel_rfl) (by kernel_rfl) (by kernel_rfl) (fun _ _ _ h=>h) (Or.inl ⟨by rfl,?_⟩) (by assumption) ?_
     rotate_left
     ·intro wz hSw;(try dsimp only at hSw);go_simp;all_goals with_reducible rfl
     try simp only[Act.put,List.setIfInBounds_toArray,List.set_cons_zero,List.set_cons_succ]
     refine wpAnyH_take (i:=2) (v:=?_) rfl (by kernel_rfl) (by kernel_rfl) (by kernel_rfl) (fun _ _ _ h=>h) (Or.inl ⟨by rfl,?_⟩) (by assumption) ?_
     rotate_left
     ·intro wz hSw;(try dsimp only at hSw);go_simp;all_goals with_reducible rfl
     try simp only[Act.put,List.setIfInBounds_toArray,List.set_cons_zero,List.set_cons_succ]
     refine wpAnyH_take (i:=3) (v:=?_) rfl (by kernel_rfl) (by kernel_rfl) (by kernel_rfl) (fun _ _ _ h=>h) (Or.inl ⟨by rfl,?_⟩) (by assumption) ?_
     rotate_left
     ·intro wz hSw;(try dsimp only at hSw);go_simp;all_goals with_reducible rfl
     try simp only[Act.put,List.setIfInBounds_toArray,List.set_cons_zero,List.set_cons_succ]
     refine wpAnyH_take (i:=4) (v:=?_) rfl (by kernel_rfl) (by kernel_rfl) (by kernel_rfl) (fun _ _ _ h=>h) (Or.inl ⟨by rfl,?_⟩) (by assumption) ?_
     rotate_left
     ·intro wz hSw;(try dsimp only at hSw);go_simp;all_goals with_reducible rfl
     try simp only[Act.put,List.setIfInBounds_toArray,List.set_cons_zero,List.set_cons_succ]
     refine wpAnyH_take (i:=5) (v:=?_) rfl (by kernel_rfl) (by kernel_rfl) (by kernel_rfl) (fun _ _ _ h=>h) (Or.inl ⟨by rfl,?_⟩) (by assumption) ?_
     rotate_left
     ·intro wz hSw;(try dsimp only at hSw);go_simp;all_goals with_reducible rfl
     try simp only[Act.put,List.setIfInBounds_toArray,List.set_cons_zero,List.set_cons_succ]
     refine wpAnyH_take (i:=6) (v:=?_) rfl (by kernel_rfl) (by kernel_rfl) (by kernel_rfl) (fun _ _ _ h=>h) (Or.inl ⟨by rfl,?_⟩) (by assumption) ?_
     rotate_left
     ·intro wz hSw;(try dsimp only at hSw);go_simp;all_goals with_reducible rfl
     try simp only[Act.put,List.setIfInBounds_toArray,List.set_cons_zero,List.set_cons_succ]
     refine wpAnyH_take (i:=7) (v:=?_) rfl (by kernel_rfl) (by kernel_rfl) (by kernel_rfl) (fun _ _ _ h=>h) (Or.inl ⟨by rfl,?_⟩) (by assumption) ?_
     rotate_left
     ·intro wz hSw;(try dsimp only at hSw);go_simp;all_goals with_reducible rfl
     try simp only[Act.put,List.setIfInBounds_toArray,List.set_cons_zero,List.set_cons_succ]
     refine wpAnyH_take (i:=8) (v:=?_) rfl (by kernel_rfl) (by kernel_rfl) (by kernel_rfl) (fun _ _ _ h=>h) (Or.inl ⟨by rfl,?_⟩) (by assumption) ?_
     rotate_left
     ·intro wz hSw;(try dsimp only at hSw);go_simp;all_goals with_reducible rfl
     try simp only[Act.put,List.setIfInBounds_toArray,List.set_cons_zero,List.set_cons_succ]
     refine wpAnyH_take (i:=9) (v:=?_) rfl (by kernel_rfl) (by kernel_rfl) (by kernel_rfl) (fun _ _ _ h=>h) (Or.inl ⟨by rfl,?_⟩) (by assumption) ?_
     rotate_left
     ·intro wz hSw;(try dsimp only at hSw);go_simp;all_goals with_reducible rfl
     try simp only[Act.put,List.setIfInBounds_toArray,List.set_cons_zero,List.set_cons_succ]
     refine wpAnyH_take (i:=10) (v:=?_) rfl (by kernel_rfl) (by kernel_rfl) (by kernel_rfl) (fun _ _ _ h=>h) (Or.inl ⟨by rfl,?_⟩) (by assumption) ?_
     rotate_left
     ·intro wz hSw;(try dsimp only at hSw);go_simp;all_goals with_reducible rfl
     try simp only[Act.put,List.setIfInBounds_toArray,List.set_cons_zero,List.set_cons_succ]
     refine wpAnyH_take (i:=11) (v:=?_) rfl (by kernel_rfl) (by kernel_rfl) (by kernel_rfl) (fun _ _ _ h=>h) (Or.inl ⟨by rfl,?_⟩) (by assumption) ?_
     rotate_left
     ·intro wz hSw;(try dsimp only at hSw);go_simp;all_goals with_reducible rfl
     try simp only[Act.put,List.setIfInBounds_toArray,List.set_cons_zero,List.set_cons_succ]
     refine wpAnyH_take (i:=12) (v:=?_) rfl (by kernel_rfl) (by kernel_rfl) (by kernel_rfl) (fun _ _ _ h=>h) (Or.inl ⟨by rfl,?_⟩) (by assumption) ?_
     rotate_left
     ·intro wz hSw;(try dsimp only at hSw);go_simp;all_goals with_reducible rfl
     try simp only[Act.put,List.setIfInBounds_toArray,List.set_cons_zero,List.set_cons_succ]
     refine wpAnyH_take (i:=13) (v:=?_) rfl (by kernel_rfl) (by kernel_rfl) (by kernel_rfl) (fun _ _ _ h=>h) (Or.inl ⟨by rfl,?_⟩) (by assumption) ?_
     rotate_left
     ·intro wz hSw;(try dsimp only at hSw);go_simp;all_goals with_reducible rfl
     try simp only[Act.put,List.setIfInBounds_toArray,List.set_cons_zero,List.set_cons_succ]
     refine wpAnyH_take (i:=14) (v:=?_) rfl (by kernel_rfl) (by kernel_rfl) (by kernel_rfl) (fun _ _ _ h=>h) (Or.inl ⟨by rfl,?_⟩) (by assumption) ?_
     rotate_left
     ·intro wz hSw;(try dsimp only at hSw);go_simp;all_goals with_reducible rfl
     try simp only[Act.put,List.setIfInBounds_toArray,List.set_cons_zero,List.set_cons_succ]
     refine wpAnyH_take (i:=15) (v:=?_) rfl (by kernel_rfl) (by kernel_rfl) (by kernel_rfl) (fun _ _ _ h=>h) (Or.inl ⟨by rfl,?_⟩) (by assumption) ?_
     rotate_left
     ·intro wz hSw;(try dsimp only at hSw);go_simp;all_goals with_reducible rfl
     try simp only[Act.put,List.setIfInBounds_toArray,List.set_cons_zero,List.set_cons_succ]
     refine wpAnyH_ready (rs:=[1,16]) (by kernel_rfl) (by simp) ?_
     refine AllReadyH.cons rfl (fun K hK=>?_) (AllReadyH.cons rfl (fun K hK=>?_) AllReadyH.nil)
     ·go_simp
      refine hK.out _ _ ?_ (fun hHeld2=>?_)
      ·exact HSK.out _ HI.out.bel.drew
      clear hK K
      refine wpAnyH_ready (rs:=[16]) (by kernel_rfl) (by simp) ?_
      refine AllReadyH.cons rfl (fun K hK=>?_) AllReadyH.nil
      go_simp
      refine hK.out _ _ ?_ (fun hHeld3=>?_)
      ·exact HSK.out _ (HI.out.bel.alloc HI.out.bel.size _).drew
      clear hK K
      refine wpAnyH_ready (rs:=[17]) (by kernel_rfl) (by simp) ?_
      refine AllReadyH.cons rfl (fun K hK=>?_) AllReadyH.nil
      refine step_append_lies _ rfl (.tmp 40) (.tmp 55) 66 rfl w.heap.size 73 i0 Tryz.zeroMrk 3 40 Tryz.underlying66 hi0 hz0 hz1 hz2 rfl (by decide) mv L.length (mcells L) (by simp[Act.eval,Act.put]) ((HI.out.own.alloc _).drew) ⟨wr.heap.size,0,none⟩ 1 1 [.string m.kind,.bool (mt.toList== [255]),.string m.body] (by simp[Act.eval,Act.put]) rfl (World.news_of_block (w:=(wr.alloc (.cells #[.string m.kind,.bool (mt.toList== [255]),.string m.body] 73)).drew) (heap_alloc_new wr (.cells #[.string m.kind,.bool (mt.toList== [255]),.string m.body] 73))) (by intro u hu;simp at hu;rcases hu with rfl|rfl|rfl<;>rfl) (by decide) (by have:=HLJ.out;unfold maxLen;omega) (by have:=HLJ.out;omega) (by have:=HI.out.bel.size;simp;omega) (wr.heap.size+1) (by simp) ?_
      intro g6 cap6 w6 h1 h2 h3 h4
      obtain⟨hC6,t6,y6,hb6⟩:=HAP.out w6 g6 cap6 h1 h2
      have HC6:=hidec hC6
      have hl6:w.heap.size+1<w6.heap.size:=lt_of_cell t6
      have HB6:=hidec hb6
      clear h1 h2 h3 h4 hC6 hb6
      refine hK.out _ _ ?_ (fun hHeld4=>?_)
      ·exact HSK.out _ HB6.out
      clear hK K
      refine wpAnyH_take (i:=18) (v:=?_) rfl (by kernel_rfl) (by kernel_rfl) (by kernel_rfl) (fun _ _ _ h=>h) (Or.inl ⟨by rfl,?_⟩) (by assumption) ?_
      rotate_left
      ·intro wz hSw;(try dsimp only at hSw);go_simp;all_goals with_reducible rfl
      try simp only[Act.put,List.setIfInBounds_toArray,List.set_cons_zero,List.set_cons_succ]
      refine wpAnyH_ready (rs:=[19]) (by kernel_rfl) (by simp) ?_
      refine AllReadyH.cons rfl (fun K hK=>?_) AllReadyH.nil
      go_simp
      refine hK.out _ _ ?_ (fun hHeld5=>?_)
      ·exact HSK.out _ HC6.out.bel
      clear hK K
      refine wpAnyH_done (by kernel_rfl) ?_ _
      have HC7:Hid (∃mv',CoI w (w6.setCell ⟨w.heap.size+1,6,none⟩ (.slice (some ⟨g6,0,none⟩) (L.length+1) cap6)) (b8 c.vt 0) c.s c.n c.ft c.tt c.k mv' ((msOf c).take (j+1))):=⟨_,HC6.out⟩
      generalize w6.setCell ⟨w.heap.size+1,6,none⟩ (.slice (some ⟨g6,0,none⟩) (L.length+1) cap6)=w7 at HC7 ⊢
      clear hHeld hHeld2 hHeld3 hHeld4 hHeld5 c6 t6 y6 HC6 hl6 HB6 HAP HSK
      go_wp2
      obtain⟨mv',h7⟩:=HC7.out
      have e4:=HR.out
      have e5:=HRC.out
      have e6:=HO.out
      refine⟨⟨j+1,_,_,mv',by omega,by rw[show r-4=4*(q-(j+1))by omega],by omega,fun hlt2=>?_,h7⟩,by simp[slen];omega⟩
      rw[if_neg (by omega),show O+16=o+(10+4*(j+1))*4 by omega]
     ·go_simp
      refine hK.out _ _ ?_ (fun hHeld2=>?_)
      ·exact HSK.out _ (HI.out.bel.alloc HI.out.bel.size _).drew
      clear hK K
      refine wpAnyH_ready (rs:=[1]) (by kernel_rfl) (by simp) ?_
      refine AllReadyH.cons rfl (fun K hK=>?_) AllReadyH.nil
      go_simp
      refine hK.out _ _ ?_ (fun hHeld3=>?_)
      ·exact HSK.out _ (HI.out.bel.alloc HI.out.bel.size _).drew
      clear hK K
      refine wpAnyH_ready (rs:=[17]) (by kernel_rfl) (by simp) ?_
      refine AllReadyH.cons rfl (fun K hK=>?_) AllReadyH.nil
      refine step_append_lies _ rfl (.tmp 40) (.tmp 55) 66 rfl w.heap.size 73 i0 Tryz.zeroMrk 3 40 Tryz.underlying66 hi0 hz0 hz1 hz2 rfl (by decide) mv L.length (mcells L) (by simp[Act.eval,Act.put]) ((HI.out.own.alloc _).drew) ⟨wr.heap.size,0,none⟩ 1 1 [.string m.kind,.bool (mt.toList== [255]),.string m.body] (by simp[Act.eval,Act.put]) rfl (World.news_of_block (w:=(wr.alloc (.cells #[.string m.kind,.bool (mt.toList== [255]),.string m.body] 73)).drew) (heap_alloc_new wr (.cells #[.string m.kind,.bool (mt.toList== [255]),.string m.body] 73))) (by intro u hu;simp at hu;rcases hu with rfl|rfl|rfl<;>rfl) (by decide) (by have:=HLJ.out;unfold maxLen;omega) (by have:=HLJ.out;omega) (by have:=HI.out.bel.size;simp;omega) (wr.heap.size+1) (by simp) ?_
      intro g6 cap6 w6 h1 h2 h3 h4
      obtain⟨hC6,t6,y6,hb6⟩:=HAP.out w6 g6 cap6 h1 h2
      have HC6:=hidec hC6
      have hl6:w.heap.size+1<w6.heap.size:=lt_of_cell t6
      have HB6:=hidec hb6
      clear h1 h2 h3 h4 hC6 hb6
      refine hK.out _ _ ?_ (fun hHeld4=>?_)
      ·exact HSK.out _ HB6.out
      clear hK K
      refine wpAnyH_take (i:=18) (v:=?_) rfl (by kernel_rfl) (by kernel_rfl) (by kernel_rfl) (fun _ _ _ h=>h) (Or.inl ⟨by rfl,?_⟩) (by assumption) ?_
      rotate_left
      ·intro wz hSw;(try dsimp only at hSw);go_simp;all_goals with_reducible rfl
      try simp only[Act.put,List.setIfInBounds_toArray,List.set_cons_zero,List.set_cons_succ]
      refine wpAnyH_ready (rs:=[19]) (by kernel_rfl) (by simp) ?_
      refine AllReadyH.cons rfl (fun K hK=>?_) AllReadyH.nil
      go_simp
      refine hK.out _ _ ?_ (fun hHeld5=>?_)
      ·exact HSK.out _ HC6.out.bel
      clear hK K
      refine wpAnyH_done (by kernel_rfl) ?_ _
      have HC7:Hid (∃mv',CoI w (w6.setCell ⟨w.heap.size+1,6,none⟩ (.slice (some ⟨g6,0,none⟩) (L.length+1) cap6)) (b8 c.vt 0) c.s c.n c.ft c.tt c.k mv' ((msOf c).take (j+1))):=⟨_,HC6.out⟩
      generalize w6.setCell ⟨w.heap.size+1,6,none⟩ (.slice (some ⟨g6,0,none⟩) (L.length+1) cap6)=w7 at HC7 ⊢
      clear hHeld hHeld2 hHeld3 hHeld4 hHeld5 c6 t6 y6 HC6 hl6 HB6 HAP HSK
      go_wp2
      obtain⟨mv',h7⟩:=HC7.out
      have e4:=HR.out
      have e5:=HRC.out
      have e6:=HO.out
      refine⟨⟨j+1,_,_,mv',by omega,by rw[show r-4=4*(q-(j+1))by omega],by omega,fun hlt2=>?_,h7⟩,by simp[slen];omega⟩
      rw[if_neg (by omega),show O+16=o+(10+4*(j+1))*4 by omega]
    ·obtain rfl:j=q:=by omega
     have e0:4*(j-j)=0:=by omega
     rw[e0]
     have hms:(msOf c).take j=msOf c:=List.take_of_length_le (by rw[HMS.out];exact Nat.le_refl _)
     have HE:Hid (CoI w wr (b8 c.vt 0) c.s c.n c.ft c.tt c.k mv (msOf c)):=by have h:=HI.out;rw[hms]at h;exact h
     obtain⟨ma,mc,rfl,_⟩:=own_form HE.out.own
     have hbx:=HE.out.box
     have hrs:=HE.out.res
     have c0:wr.cell? ⟨w.heap.size+1,0,none⟩=some (.int .i64 (b8 c.vt 0)):=by simp[World.cell?,hbx]
     have c1:wr.cell? ⟨w.heap.size+1,1,none⟩=some (.string c.s):=by simp[World.cell?,hbx]
     have c2:wr.cell? ⟨w.heap.size+1,2,none⟩=some (.string c.n):=by simp[World.cell?,hbx]
     have c3:wr.cell? ⟨w.heap.size+1,3,none⟩=some (.string c.ft):=by simp[World.cell?,hbx]
     have c4:wr.cell? ⟨w.heap.size+1,4,none⟩=some (.string c.tt):=by simp[World.cell?,hbx]
     have c5:wr.cell? ⟨w.heap.size+1,5,none⟩=some (.string c.k):=by simp[World.cell?,hbx]
     have c6:wr.cell? ⟨w.heap.size+1,6,none⟩=some (.slice ma (msOf c).length mc):=by simp[World.cell?,hbx]
     have z0:wr.cell? ⟨w.heap.size,0,none⟩=some (.int .i64 0):=by simp[World.cell?,hrs]
     have z1:wr.cell? ⟨w.heap.size,1,none⟩=some (.string ⟨#[]⟩):=by simp[World.cell?,hrs]
     have z2:wr.cell? ⟨w.heap.size,2,none⟩=some (.string ⟨#[]⟩):=by simp[World.cell?,hrs]
     have z3:wr.cell? ⟨w.heap.size,3,none⟩=some (.string ⟨#[]⟩):=by simp[World.cell?,hrs]
     have z4:wr.cell? ⟨w.heap.size,4,none⟩=some (.string ⟨#[]⟩):=by simp[World.cell?,hrs]
     have z5:wr.cell? ⟨w.heap.size,5,none⟩=some (.string ⟨#[]⟩):=by simp[World.cell?,hrs]
     have z6:wr.cell? ⟨w.heap.size,6,none⟩=some (.slice none 0 0):=by simp[World.cell?,hrs]
     have y0:wr.frozen? ⟨w.heap.size,0,none⟩=false:=by simp[World.frozen?,hrs]
     have y1:wr.frozen? ⟨w.heap.size,1,none⟩=false:=by simp[World.frozen?,hrs]
     have y2:wr.frozen? ⟨w.heap.size,2,none⟩=false:=by simp[World.frozen?,hrs]
     have y3:wr.frozen? ⟨w.heap.size,3,none⟩=false:=by simp[World.frozen?,hrs]
     have y4:wr.frozen? ⟨w.heap.size,4,none⟩=false:=by simp[World.frozen?,hrs]
     have y5:wr.frozen? ⟨w.heap.size,5,none⟩=false:=by simp[World.frozen?,hrs]
     have y6:wr.frozen? ⟨w.heap.size,6,none⟩=false:=by simp[World.frozen?,hrs]
     have hl1:w.heap.size+1<wr.heap.size:=row_lt hbx
     clear hbx hrs hms e0 hra HC HCM HRC hj hlt
     go_wp2_with fail
     refine bodyPost_ret (v:=cardV (b8 c.vt 0) c.s c.n c.ft c.tt c.k (.slice ma (msOf c).length mc)) (by simp[results,Tryz.results88,go_sem,cardV,z0,z1,z2,z3,z4,z5,z6]) rfl ?_
     refine⟨?_,ma,mc,rfl,?_⟩
     ·exact(((((((HE.out.bel.setCell (p:=⟨w.heap.size,0,none⟩) (Nat.le_refl _) _).setCell (p:=⟨w.heap.size,1,none⟩) (Nat.le_refl _) _).setCell (p:=⟨w.heap.size,2,none⟩) (Nat.le_refl _) _).setCell (p:=⟨w.heap.size,3,none⟩) (Nat.le_refl _) _).setCell (p:=⟨w.heap.size,4,none⟩) (Nat.le_refl _) _).setCell (p:=⟨w.heap.size,5,none⟩) (Nat.le_refl _) _).setCell (p:=⟨w.heap.size,6,none⟩) (Nat.le_refl _) _)
     ·have hne:=row_ne1 HE.out.res HE.out.own (by decide)
      exact ownsRow_setCell_other (ownsRow_setCell_other (ownsRow_setCell_other (ownsRow_setCell_other (ownsRow_setCell_other (ownsRow_setCell_other (ownsRow_setCell_other HE.out.own hne _) hne _) hne _) hne _) hne _) hne _) hne _
def vlB(x y:Vl):Bool:=x.kind==y.kind&&(x.text.toList==y.text.toList&&(x.alt==y.alt&&x.kids==y.kids))
theorem vlB_iff(x y:Vl):vlB x y=true↔x=y:=by
 unfold vlB
 simp only[Bool.and_eq_true,beq_iff_eq]
 obtain⟨a,b,c,d⟩:=x
 obtain⟨a',b',c',d'⟩:=y
 constructor
 ·rintro⟨h1,h2,h3,h4⟩
  simp only at h1 h2 h3 h4
  rw[Lib.toList_data,Lib.toList_data]at h2
  have hb:b=b':=ByteArray.ext (Array.toList_inj.1 h2)
  subst h1 hb h3 h4
  rfl
 ·intro h
  injection h with h1 h2 h3 h4
  subst h1 h2 h3 h4
  exact⟨rfl,rfl,rfl,rfl⟩
theorem vl_ext{vs us:List Vl}(hl:vs.length=us.length)(h:∀j,j<vs.length→vl vs j=vl us j):vs=us:=by
 apply List.ext_getElem hl
 intro j h1 h2
 have:=h j h1
 unfold vl at this
 rw[List.getD_eq_getElem?_getD,List.getD_eq_getElem?_getD,List.getElem?_eq_getElem h1,List.getElem?_eq_getElem h2]at this
 exact this
theorem equalV_any(vs us:List Vl)(a1 a2:Option Addr)(c1 c2:Nat)(w:World)(h1:ValIn w a1 vs)(h2:ValIn w a2 us)(hn:vs.length≤140737488351232)(hm:us.length≤140737488351232):
 Calls Tryz.prog 89 #[.slice a1 vs.length c1,.slice a2 us.length c2] w fun e w'=>RetO (vs=us) w e w':=by
 have H1:=hidec h1
 have H2:=hidec h2
 clear h1 h2
 by_cases hl:vs.length=us.length
 ·have HL:=hidec hl
  rw[←hl]
  obtain⟨n,hnn⟩:∃n,vs.length=n:=⟨_,rfl⟩
  have HNN:=hidec hnn
  rw[hnn]at hn ⊢
  clear hl hm hnn
  go_enter Tryz.func89,Tryz.ntmps89
  go_wp2
  go_loopw [13] (fun i wr=>∃k:Nat,k≤n∧i= .int .i64 k∧(∀j,j<k→vl vs j=vl us j)∧∃q,wr=w.drewN q) (fun i _=>n-(intOf i).toNat)
  case atStart=>exact⟨0,Nat.zero_le _,rfl,fun j hj=>absurd hj (Nat.not_lt_zero _),0,rfl⟩
  case round=>
   obtain⟨k,hk,rfl,hsame,q,rfl⟩:=hrel
   have HSM:=hidec hsame
   clear hsame
   by_cases hlt:k<n
   ·obtain⟨g1,o1,e1,x1,x2,x3,x4⟩:=H1.out k (by rw[HNN.out];exact hlt)
    obtain⟨g2,o2,e2,y1,y2,y3,y4⟩:=H2.out k (by rw[←HL.out,HNN.out];exact hlt)
    subst e1 e2
    have hlt':(k:Int)<n:=by omega
    have HX:Hid (vlB (vl vs k) (vl us k)=true→vl vs k=vl us k):=(vlB_iff _ _).1
    have HY:Hid (vlB (vl vs k) (vl us k)=false→¬vs=us):=fun q e=>by
     have:=(vlB_iff (vl vs k) (vl us k)).2 (by rw[e])
     rw[q]at this
     cases this
    have HZ:Hid (vl vs k=vl us k→∀j,j<k+1→vl vs j=vl us j):=fun q j hj=>by
     by_cases hjk:j=k
     ·rw[hjk];exact q
     ·exact HSM.out j (by omega)
    generalize vl vs k=x at x1 x2 x3 x4 HX HY HZ
    generalize vl us k=y at y1 y2 y3 y4 HX HY HZ
    obtain⟨xk,xt,xa,xc⟩:=x
    obtain⟨yk,yt,ya,yc⟩:=y
    unfold vlB at HX HY
    simp only at x1 x2 x3 x4 y1 y2 y3 y4 HX HY
    cases hb1:(xk==yk)
    case false=>
     have HN:=hidec (HY.out (by rw[hb1];rfl))
     clear HX HY HZ
     go_wp2
     go_quiet (fail)
     go_wp2
     go_ret
     exact reto_no HN.out (Go.below_drewN (Go.below_drewN (Below.refl _ _) _) _)
    case true=>
    cases hb2:(xt.toList==yt.toList)
    case false=>
     have HN:=hidec (HY.out (by rw[hb2,Bool.false_and,Bool.and_false]))
     clear HX HY HZ
     go_wp2
     go_quiet (fail)
     go_wp2
     go_ret
     exact reto_no HN.out (Go.below_drewN (Go.below_drewN (Below.refl _ _) _) _)
    case true=>
    cases hb3:(xa==ya)
    case false=>
     have HN:=hidec (HY.out (by rw[hb3,Bool.false_and,Bool.and_false,Bool.and_false]))
     clear HX HY HZ
     go_wp2
     go_quiet (fail)
     go_wp2
     go_ret
     exact reto_no HN.out (Go.below_drewN (Go.below_drewN (Below.refl _ _) _) _)
    case true=>
    cases hb4:(xc==yc)
    case false=>
     have HN:=hidec (HY.out (by rw[hb4,Bool.and_false,Bool.and_false,Bool.and_false]))
     clear HX HY HZ
     go_wp2
     go_quiet (fail)
     go_wp2
     go_ret
     exact reto_no HN.out (Go.below_drewN (Go.below_drewN (Below.refl _ _) _) _)
    case true=>
     have HS2:=hidec (HZ.out (HX.out (by rw[hb1,hb2,hb3,hb4];rfl)))
     clear HX HY HZ
     go_wp2
     go_quiet (fail)
     go_wp2
     go_roundw
     case rel=>exact⟨k+1,by omega,by go_num,HS2.out,_,rfl⟩
     case measure=>simp[intOf];omega
   ·have hlt':(n:Int)≤k:=by omega
    obtain rfl:k=n:=by omega
    have HEQ:Hid (vs=us):=vl_ext HL.out fun j hj=>HSM.out j (by rw[HNN.out]at hj;exact hj)
    go_wp2
    go_ret
    exact reto_yes HEQ.out (Go.below_drewN (Below.refl _ _) _)
 ·have hl':¬((vs.length:Int)=us.length):=by omega
  have hlb:((vs.length:Int)==us.length)=false:=by simp;omega
  have HNE:Hid (¬vs=us):=fun h=>hl (by rw[h])
  clear hl
  go_enter Tryz.func89,Tryz.ntmps89
  go_wp2
  go_ret
  exact reto_no HNE.out (Below.refl _ _)
end Go.Proofs.YtkkicodfpekbgaaGreatDoor
namespace Go.Proofs.YtkkicodfpekbgaaGreatDoor
set_option linter.unusedSimpArgs false
set_option linter.unusedVariables false
set_option maxRecDepth 100000
set_option maxHeartbeats 8000000
def Elem(b:ByteArray):Prop:=(hd b).1=0∧(hd b).2.s+(hd b).2.l=b.size
theorem cnt_bd(n:Int):0≤cnt n∧cnt n≤3:=by
 unfold cnt
 repeat' split
 all_goals omega
theorem elem_elB(c:Int)(b:Bool)(n:Int)(s:ByteArray)(q1:0≤c)(q2:c≤3)(q3:0≤n)(q4:n≤30)(hs:(elB c b n s).size≤16777215):Elem (elB c b n s)∧hd (elB c b n s)=(0,⟨c,b,n,2+cnt s.size,s.size⟩):=by
 have hz:=elB_sz c b n s
 have hc:=cnt_bd s.size
 have h:=hd_elB c b n s q1 q2 q3 q4 (by omega)
 exact⟨⟨by rw[h],by rw[h];exact hz.symm⟩,h⟩
theorem Elem.pos{b:ByteArray}(h:Elem b):2≤b.size:=by
 have h1:=hd_two h.1
 have h2:=hd_ok h.1
 have h3:=h.2
 omega
def seg(t:List Vl)(p q:Nat):List Vl:=(t.drop p).take (q-p)
theorem seg_nil(t:List Vl)(p:Nat):seg t p p=[]:=by unfold seg;rw[Nat.sub_self];rfl
theorem seg_one{t:List Vl}{p:Nat}(h:p<t.length):seg t p (p+1)=[vl t p]:=by
 unfold seg vl
 rw[Nat.add_sub_cancel_left,List.drop_eq_getElem_cons h,List.getD_eq_getElem?_getD,List.getElem?_eq_getElem h]
 rfl
theorem seg_app{t:List Vl}{p q r:Nat}(h1:p≤q)(h2:q≤r):seg t p q++seg t q r=seg t p r:=by
 unfold seg
 rw[show r-p=(q-p)+(r-q)by omega,List.take_add,List.drop_drop,show p+(q-p)=q by omega]
theorem seg_cons{t:List Vl}{p r:Nat}(h:p<t.length)(h2:p+1≤r):vl t p::seg t (p+1) r=seg t p r:=by
 rw[←seg_app (Nat.le_succ p) h2,seg_one h];rfl
theorem wbare_elem{F:WEnv}(hr:RightP F.s){f i:Nat}(hi:i<F.s.length)(ih:∀i p dp b p' u,i<F.s.length→wrF F f i p dp=some (some (b,p',u))→b.size≤16777215→Elem b∧Beg F.s i (hd b).2.c (hd b).2.n){v:Vl}{x:Nat}{dp:Int}{b:ByteArray}{x':Nat}{u:Bool}
 (h:wbareF F (wrF F f) f (nd F.s i) (wcl (nd F.s i)) (wnu (nd F.s i)) v x dp=some (some (b,x',u)))(hb:b.size≤16777215):Elem b∧((nd F.s i).mode=0→Beg F.s i (hd b).2.c (hd b).2.n):=by
 obtain⟨hk1,hk14,hT1,hT2,hT3,hT4,hT5⟩:=tagged_of hr hi
 obtain⟨q1,q2,q3,q4⟩:=wnu_bd hr hi
 have hown:(nd F.s i).kind≤12→(nd F.s i).mode=0→Beg F.s i (wcl (nd F.s i)) (wnu (nd F.s i)):=fun h12 hm=>by
  refine⟨i,⟨Rch.refl,fun z=>by have:=z.1;omega⟩,?_⟩
  unfold wcl wnu begAt
  by_cases ht:0≤(nd F.s i).tag
  ·rw[if_pos ⟨ht,hm⟩,if_pos ⟨ht,hm⟩];exact .inl ⟨ht,rfl,rfl⟩
  ·rw[if_neg (fun z=>ht z.1),if_neg (fun z=>ht z.1)]
   exact .inr (.inr ⟨by omega,by omega,rfl,by unfold own0;rw[if_neg (by omega)]⟩)
 have hfin:∀(bt:Bool) (s:ByteArray),(nd F.s i).kind≤12→b=elB (wcl (nd F.s i)) bt (wnu (nd F.s i)) s→Elem b∧((nd F.s i).mode=0→Beg F.s i (hd b).2.c (hd b).2.n):=fun bt s h12 e=>by
  subst e
  obtain⟨e1,e2⟩:=elem_elB _ bt _ s q1 q2 q3 q4 hb
  refine⟨e1,fun hm=>?_⟩
  rw[e2]
  exact hown h12 hm
 unfold wbareF at h
 split at h
 ·rename_i k13
  split at h
  ·rename_i q
   have hm:=kd_mem (n:=nd F.s i) (i:=v.alt.toNat) (by omega)
   have hw:=hr.fine.within i hi _ hm
   obtain⟨e1,j,hj,hbg⟩:=ih _ _ _ _ _ _ (by omega) h hb
   refine⟨e1,fun hm0=>?_⟩
   have ho:(nd F.s i).opn:=⟨k13,by
    by_cases z:0≤(nd F.s i).tag
    ·have:=hT4 z (.inl k13);omega
    ·omega⟩
   exact⟨j,⟨(Rch.step Rch.refl ho hm).trans hj.1,hj.2⟩,hbg⟩
  ·cases h
 split at h
 ·rename_i k14
  split at h
  ·rename_i q
   cases h
   refine⟨⟨q.1,q.2.1⟩,fun hm0=>?_⟩
   have ht:(nd F.s i).tag<0:=by
    by_cases z:0≤(nd F.s i).tag
    ·have:=hT4 z (.inr k14);omega
    ·omega
   exact⟨i,⟨Rch.refl,fun z=>by have:=z.1;omega⟩,.inr (.inl ⟨ht,k14⟩)⟩
  ·cases h
 split at h
 ·rename_i k10
  split at h
  ·rcases wandThen_cases h with⟨_,h⟩|⟨b1,x1,u1,h1,h2⟩
   ·cases h
   ·cases h2;exact hfin _ _ (by omega) rfl
  ·cases h
 split at h
 ·rename_i k12
  split at h
  ·rcases wandThen_cases h with⟨_,h⟩|⟨b1,x1,u1,h1,h2⟩
   ·cases h
   ·cases h2;exact hfin _ _ (by omega) rfl
  ·cases h
 split at h
 ·cases h;exact hfin _ _ (by omega) rfl
 ·cases h
theorem wr_elem{F:WEnv}(hr:RightP F.s):∀f i p dp b p' u,i<F.s.length→wrF F f i p dp=some (some (b,p',u))→b.size≤16777215→Elem b∧Beg F.s i (hd b).2.c (hd b).2.n
 |0,_,_,_,_,_,_,_,h,_=>by cases h
 |f+1,i,p,dp,b,p',u,hi,h,hb=>by
  obtain⟨hk1,hk14,hT1,hT2,hT3,hT4,hT5⟩:=tagged_of hr hi
  rw[wrF]at h
  split at h
  ·rcases wandThen_cases h with⟨_,h⟩|⟨b1,x1,u1,h1,h2⟩
   ·cases h
   ·cases h2
    by_cases hm:(nd F.s i).mode=1
    ·rw[if_pos hm]at hb ⊢
     have ht:0≤(nd F.s i).tag:=by
      by_cases z:(nd F.s i).tag= -1
      ·have:=hT3 z;omega
      ·omega
     obtain⟨e1,e2⟩:=elem_elB 2 true (nd F.s i).tag b1 (by decide) (by decide) ht hT2 hb
     refine⟨e1,i,⟨Rch.refl,fun z=>by have:=z.2;omega⟩,.inl ?_⟩
     rw[e2]
     exact⟨ht,rfl,rfl⟩
    ·rw[if_neg hm]at hb ⊢
     have:=wbare_elem hr hi (wr_elem hr f) h1 hb
     exact⟨this.1,this.2 (by have:=mode_of hr.2.2.1 hi;omega)⟩
  ·cases h
theorem seq_inv{F:WEnv}{f:Nat}{dp:Int}{k:Kd}{ks:List Kd}{p:Nat}{out:ByteArray}{u:Bool}{b':ByteArray}{p':Nat}{u':Bool}(hr:RightP F.s)(hok:∀k t,F.ok k t=true↔ContentOk k t){i:Nat}(hi:i<F.s.length)(hk:k∈(nd F.s i).kids)
 (e:wseqF F (wrF F f) dp (k::ks) p out u=some (some (b',p',u'))):
 (LO F k p∧wseqF F (wrF F f) dp ks (p+1) out u=some (some (b',p',u')))∨∃b1 x1 u1,wrF F f k.node.toNat p (dp+1)=some (some (b1,x1,u1))∧b1≠k.dflt∧wseqF F (wrF F f) dp ks x1 (out++b1) (u||u1)=some (some (b',p',u')):=by
 obtain⟨j,hj,hjk⟩:=kidOf hk
 have hDf:=(hr.2.2.2.2 i hi).2 j hj
 have hw:=hr.fine.within i hi _ hk
 rw[hjk]at hDf
 have ht:k.node.toNat<F.s.length:=by omega
 obtain⟨hk1,hk14,_⟩:=tagged_of hr ht
 have h0:=e
 unfold wseqF at h0
 by_cases q:k.opt=true∧p<F.t.length∧(vl F.t p).kind=15
 ·rw[if_pos q]at h0
  by_cases q2:(vl F.t p).text.size=0∧(vl F.t p).alt=0∧(vl F.t p).kids=0
  ·rw[if_pos q2]at h0
   refine .inl ⟨⟨q.2.1,.inl ⟨q.1,?_⟩⟩,h0⟩
   have h1:=q.2.2
   have h2:=noB_of q2.1
   have h3:=q2.2.1
   have h4:=q2.2.2
   generalize vl F.t p=v at*
   obtain⟨a,b,c,d⟩:=v
   simp only at h1 h2 h3 h4
   subst h1 h2 h3 h4
   rfl
  ·rw[if_neg q2]at h0;cases h0
 rw[if_neg q]at h0
 have hf:1≤f:=by
  cases f with
  |zero=>rcases wandThen_cases h0 with⟨h,_⟩|⟨_,_,_,h,_⟩ <;>cases h
  |succ f=>omega
 have hsome:∃r1,wrF F f k.node.toNat p (dp+1)=some r1:=by
  by_cases hd:k.dflt.size=0
  ·rw[if_pos hd]at h0
   rcases wandThen_cases h0 with⟨h,_⟩|⟨_,_,_,h,_⟩ <;>exact⟨_,h⟩
  ·obtain⟨hk9,_⟩:=hDf.resolve_left hd
   obtain⟨g,rfl⟩:∃g,f=g+1:=⟨f-1,by omega⟩
   rw[wrF_leaf hk1 hk9]
   split<;>exact⟨_,rfl⟩
 rcases wseq_kid hr hok hi hk hf e with h|⟨hnl,hall⟩
 ·exact .inl h
 obtain⟨r1,h1⟩:=hsome
 rcases hall r1 h1 with⟨_,h⟩|⟨b1,x1,u1,rfl,h2⟩
 ·cases h
 refine .inr ⟨b1,x1,u1,h1,fun hbd=>?_,h2⟩
 have a1:=wrF_adv _ _ _ _ _ h1 b1 x1 u1 rfl
 obtain⟨g,rfl⟩:∃g,f=g+1:=⟨f-1,by omega⟩
 by_cases hd:k.dflt.size=0
 ·have hb0:b1.size≤16777215:=by rw[hbd];omega
  have:=(wr_elem hr _ _ _ _ _ _ _ ht h1 hb0).1.pos
  rw[hbd]at this
  omega
 ·obtain⟨hk9,y,hy⟩:=hDf.resolve_left hd
  rw[wrF_leaf hk1 hk9]at h1
  split at h1
  ·rename_i q3
   injection h1 with h1
   injection h1 with h1
   have hb1:leafB (nd F.s k.node.toNat) (vl F.t p).text=b1:=by injection h1
   have hu:=(leaf_elem hr ht hk9 hy).1 (hb1.trans hbd)
   refine hnl ⟨q3.1.1,.inr ⟨hd,y,hy,?_⟩⟩
   have h1:=q3.1.2.1
   have h3:=q3.2.2.1
   have h4:=q3.2.2.2
   generalize vl F.t p=v at*
   obtain⟨a,b,c,d⟩:=v
   simp only at h1 hu h3 h4
   subst h1 hu h3 h4
   rfl
  ·cases h1
theorem noB_app(t:ByteArray):noB++t=t:=by
 apply ByteArray.ext
 apply Array.toList_inj.1
 rw[ByteArray.data_append,Array.toList_append]
 rfl
theorem app_noB'(t:ByteArray):t++noB=t:=by
 apply ByteArray.ext
 apply Array.toList_inj.1
 rw[ByteArray.data_append,Array.toList_append]
 exact List.append_nil _
theorem app_cancel{a b c:ByteArray}(h:a++b=a++c):b=c:=by
 apply ByteArray.ext
 apply Array.toList_inj.1
 have h2:=congrArg (fun t:ByteArray=>t.data.toList) h
 simp only[ByteArray.data_append,Array.toList_append]at h2
 exact List.append_cancel_left h2
theorem Elem.bd{b:ByteArray}(h:Elem b):0≤(hd b).2.c∧(hd b).2.c<4∧0≤(hd b).2.n∧(hd b).2.n<31:=by
 have:=elB_hd h.1 h.2
 omega
theorem vl_parts{v:Vl}{k a c:Int}{t:ByteArray}(h1:v.kind=k)(h2:v.text=t)(h3:v.alt=a)(h4:v.kids=c):v=⟨k,t,a,c⟩:=by
 obtain⟨_,_,_,_⟩:=v
 subst h1 h2 h3 h4
 rfl
def Again(E:Env)(F:WEnv)(f:Nat):Prop:=∀i p dp b p',i<F.s.length→wrF F f i p dp=some (some (b,p',false))→b.size≤16777000→∀x y,At E.d x b→x+b.size≤y→y≤E.d.size→rdF E f i x y dp=some (.ok (seg F.t p p',x+b.size))
structure Both(E:Env)(F:WEnv):Prop where
 s:E.s=F.s
 right:RightP F.s
 bg:∀i,i<F.s.length→∀c m,E.bg i c m=true↔Beg F.s i c m
 okE:∀k t,E.ok k t=true↔ContentOk k t
 okF:∀k t,F.ok k t=true↔ContentOk k t
 dv:DvOk E
theorem many_again{E:Env}{F:WEnv}{f:Nat}(hB:Both E F)(hN:Again E F f){set:Bool}{i:Nat}(hi:i<F.s.length){dp:Int}{z:Nat}(hz:z≤E.d.size):∀(m:Nat) (c:Int) (p:Nat) (out last:ByteArray) (u:Bool) (b':ByteArray) (p':Nat),wmanyF F (wrF F f) set i dp m c p out last u=some (some (b',p',false))→0≤c→
 u=false∧p≤p'∧∃rest,b'=out++rest∧(rest.size≤16777000→∀(x:Nat) (acc:List Vl) (j:Nat),At E.d x rest→x+rest.size=z→manyF E (rdF E f) set i z dp m x last j acc=some (.ok (j+c.toNat,acc++seg F.t p p')))
 |0,_,_,_,_,_,_,_,e,_=>by cases e
 |m+1,c,p,out,last,u,b',p',e,hc=>by
  unfold wmanyF at e
  split at e
  ·rename_i hc0
   rcases wandThen_cases e with⟨_,h⟩|⟨b1,x1,u1,h1,h2⟩
   ·cases h
   obtain⟨hu,hp,rest,hb,hrest⟩:=many_again hB hN hi hz m (c-1) x1 (out++b1) b1 _ b' p' h2 (by omega)
   simp only[Bool.or_eq_false_iff]at hu
   obtain⟨⟨hu0,hu1⟩,hset⟩:=hu
   subst hu1
   have a1:=wrF_adv _ _ _ _ _ h1 b1 x1 _ rfl
   refine⟨hu0,by omega,b1++rest,by rw[hb,ByteArray.append_assoc],fun hsz x acc j hat hx=>?_⟩
   rw[ByteArray.size_append]at hsz hx
   have hpos:=(wr_elem hB.right _ _ _ _ _ _ _ hi h1 (by omega)).1.pos
   unfold manyF
   rw[if_pos (by omega),hN i p dp b1 x1 hi h1 (by omega) x z hat.left (by omega) hz]
   unfold Out.andThen
   simp only
   rw[hat.left.2,if_neg (by rintro⟨q1,q2⟩;rw[q1,q2]at hset;cases hset),hrest (by omega) (x+b1.size) (acc++seg F.t p x1) (j+1) hat.right (by omega)]
   rw[List.append_assoc,seg_app (by omega) hp,show j+1+(c-1).toNat=j+c.toNat by omega]
  ·rename_i hc0
   cases e
   refine⟨rfl,Nat.le_refl _,noB,(app_noB' _).symm,fun _ x acc j hat hx=>?_⟩
   unfold manyF
   have h0:noB.size=0:=rfl
   rw[if_neg (by omega),seg_nil,List.append_nil,show c.toNat=0 by omega]
   rfl
theorem seq_first{E:Env}{F:WEnv}{f:Nat}(hB:Both E F){i:Nat}(hi:i<F.s.length){dp:Int}:∀(c j p:Nat) (out:ByteArray) (u:Bool) (b':ByteArray) (p':Nat) (u':Bool),j+c=(nd F.s i).kids.length→wseqF F (wrF F f) dp ((nd F.s i).kids.drop j) p out u=some (some (b',p',u'))→
 ∃rest,b'=out++rest∧(rest.size≤16777215→rest=noB∨∃k,j≤k∧k<(nd F.s i).kids.length∧(∀l,j≤l→l<k→¬(kd (nd F.s i) l).must)∧∃b1 r1,rest=b1++r1∧Elem b1∧Beg F.s (kd (nd F.s i) k).node.toNat (hd b1).2.c (hd b1).2.n)
 |0,j,p,out,u,b',p',u',hj,e=>by
  rw[List.drop_eq_nil_of_le (by omega)]at e
  unfold wseqF at e
  cases e
  exact⟨noB,(app_noB' _).symm,fun _=> .inl rfl⟩
 |c+1,j,p,out,u,b',p',u',hj,e=>by
  have hjl:j<(nd F.s i).kids.length:=by omega
  rw[drop_kid hjl]at e
  rcases seq_inv hB.right hB.okF hi (kd_mem hjl) e with⟨hlo,h⟩|⟨b1,x1,u1,h1,hne,h⟩
  ·obtain⟨rest,hb,hrest⟩:=seq_first hB hi c (j+1) _ _ _ _ _ _ (by omega) h
   refine⟨rest,hb,fun hz=>?_⟩
   rcases hrest hz with h|⟨k,k1,k2,k3,k4⟩
   ·exact .inl h
   ·refine .inr ⟨k,by omega,k2,fun l l1 l2=>?_,k4⟩
    by_cases e:l=j
    ·subst e
     rintro⟨m1,m2⟩
     rcases hlo.2 with⟨o,_⟩|⟨o,_⟩
     ·rw[m1]at o;cases o
     ·exact o m2
    ·exact k3 l (by omega) l2
  ·obtain⟨rest,hb,_⟩:=seq_first hB hi c (j+1) _ _ _ _ _ _ (by omega) h
   refine⟨b1++rest,by rw[hb,ByteArray.append_assoc],fun hz=> .inr ⟨j,Nat.le_refl _,hjl,fun l l1 l2=>by omega,b1,rest,rfl,?_⟩⟩
   rw[ByteArray.size_append]at hz
   exact wr_elem hB.right _ _ _ _ _ _ _ (by have:=hB.right.fine.within i hi _ (kd_mem hjl);omega) h1 (by omega)
theorem seq_again{E:Env}{F:WEnv}{f:Nat}(hB:Both E F)(hN:Again E F f){i:Nat}(hi:i<F.s.length)(hk10:(nd F.s i).kind=10){dp:Int}{z:Nat}(hz:z≤E.d.size):∀(c j p:Nat) (out:ByteArray) (u:Bool) (b':ByteArray) (p':Nat),j+c=(nd F.s i).kids.length→wseqF F (wrF F f) dp ((nd F.s i).kids.drop j) p out u=some (some (b',p',false))→
 u=false∧p≤p'∧∃rest,b'=out++rest∧(rest.size≤16777000→∀(x:Nat) (acc:List Vl),At E.d x rest→x+rest.size=z→seqF E (rdF E f) z (dp+1) ((nd F.s i).kids.drop j) x acc=some (.ok (acc++seg F.t p p',z)))
 |0,j,p,out,u,b',p',hj,e=>by
  rw[List.drop_eq_nil_of_le (by omega)]at e ⊢
  unfold wseqF at e
  cases e
  refine⟨rfl,Nat.le_refl _,noB,(app_noB' _).symm,fun _ x acc hat hx=>?_⟩
  have h0:noB.size=0:=rfl
  unfold seqF
  rw[if_neg (by omega),seg_nil,List.append_nil,show x=z by omega]
 |c+1,j,p,out,u,b',p',hj,e=>by
  have hjl:j<(nd F.s i).kids.length:=by omega
  have hkm:=kd_mem hjl
  have hw:=hB.right.fine.within i hi _ hkm
  rw[drop_kid hjl]at e ⊢
  rcases seq_inv hB.right hB.okF hi hkm e with⟨hlo,h⟩|⟨b1,x1,u1,h1,hne,h⟩
  ·obtain⟨hu,hp,rest,hb,hrest⟩:=seq_again hB hN hi hk10 hz c (j+1) _ _ _ _ _ (by omega) h
   obtain⟨rest',hb',hfirst⟩:=seq_first hB hi c (j+1) _ _ _ _ _ _ (by omega) h
   obtain rfl:rest'=rest:=app_cancel (hb'.symm.trans hb)
   refine⟨hu,by omega,rest',hb,fun hsz x acc hat hx=>?_⟩
   have hhd:x<z→(E.hd x z).1=0∧E.bg (kd (nd F.s i) j).node.toNat (E.hd x z).2.c (E.hd x z).2.n=false:=fun hlt=>by
    rcases hfirst (by omega)with h0|⟨k,k1,k2,k3,b1,r1,hr1,hel,hbeg⟩
    ·rw[h0]at hx
     have h0:noB.size=0:=rfl
     omega
    ·rw[hr1]at hat hx
     rw[ByteArray.size_append]at hx
     obtain⟨e1,e2⟩:=hat.left.hd hel.1 hel.2 (y:=z) (by omega) hz
     rw[e1]
     refine⟨hel.1,Bool.eq_false_iff.2 fun hbg=>?_⟩
     have hBg:=(hB.bg _ (by omega) _ _).1 hbg
     obtain⟨d1,d2,d3,d4⟩:=hel.bd
     rcases((hB.right.2.2.2.2 i hi).1 (.inl hk10)) j hjl with hst|hT
     ·rcases hlo.2 with⟨o,_⟩|⟨o,_⟩
      ·have:=hst.2.1;rw[this]at o;cases o
      ·exact o hst.2.2
     ·exact hT k (by omega) k2 (fun l l1 l2 hst=>k3 l (by omega) l2 hst.2) ⟨_,_,d1,d2,d3,d4,hBg,hbeg⟩
   unfold seqF
   rw[if_neg (fun q=>q.2 (hhd q.1).1),if_neg (fun q=>by rw[(hhd q.1).2]at q;cases q.2)]
   have hcons:vl F.t p::seg F.t (p+1) p'=seg F.t p p':=seg_cons hlo.1 hp
   rcases hlo.2 with⟨o,hv⟩|⟨o,u',hu',hv⟩
   ·rw[if_pos o,hrest hsz x _ hat hx,List.append_assoc,←hcons,hv]
    rfl
   ·have hno:¬(kd (nd F.s i) j).opt=true:=fun q=>((hB.right.2.2.1 i hi).2.2.2 j hjl).2.2.2 ⟨q,o⟩
    obtain⟨u2,e1,e2,_⟩:=hB.dv i (by rw[hB.s];exact hi) (kd (nd F.s i) j) (by rw[hB.s];exact hkm) o
    rw[hB.s]at e1 e2
    rw[if_neg hno,if_pos o,hrest hsz x _ hat hx,List.append_assoc,←hcons,hv,e2,elem_one e1 hu']
    rfl
  ·obtain⟨hu,hp,rest,hb,hrest⟩:=seq_again hB hN hi hk10 hz c (j+1) _ _ _ _ _ (by omega) h
   simp only[Bool.or_eq_false_iff]at hu
   obtain⟨hu0,hu1⟩:=hu
   subst hu1
   have a1:=wrF_adv _ _ _ _ _ h1 b1 x1 _ rfl
   refine⟨hu0,by omega,b1++rest,by rw[hb,ByteArray.append_assoc],fun hsz x acc hat hx=>?_⟩
   rw[ByteArray.size_append]at hsz hx
   obtain⟨hel,hbeg⟩:=wr_elem hB.right _ _ _ _ _ _ _ (by omega) h1 (by omega)
   have hpos:=hel.pos
   obtain⟨e1,e2⟩:=hat.left.hd hel.1 hel.2 (y:=z) (by omega) hz
   unfold seqF
   rw[if_neg (fun q=>q.2 (by rw[e1];exact hel.1)),if_pos ⟨by omega,by rw[e1];exact(hB.bg _ (by omega) _ _).2 hbeg⟩,hN _ p (dp+1) b1 x1 (by omega) h1 (by omega) x z hat.left (by omega) hz]
   unfold Out.andThen
   simp only
   rw[hat.left.2,if_neg hne,hrest (by omega) (x+b1.size) (acc++seg F.t p x1) hat.right (by omega),List.append_assoc,seg_app (by omega) hp]
theorem choice_at{E:Env}{rec:Rec}{h:Hd}{x z:Nat}{dp:Int}{n:Nd}{a:Nat}(ha:a<n.kids.length)(hy:E.bg (kd n a).node.toNat h.c h.n=true):∀(c j:Nat),j+c=a→(∀l,j≤l→l<a→E.bg (kd n l).node.toNat h.c h.n=false)→
 choiceF E rec h x z dp (n.kids.drop j) j=Out.andThen (rec (kd n a).node.toNat x z dp) fun vs _=>some (.ok (⟨13,noB,a,1⟩::vs,z))
 |0,j,e,hn=>by
  obtain rfl:j=a:=by omega
  rw[drop_kid ha]
  unfold choiceF
  rw[if_pos hy]
 |c+1,j,e,hn=>by
  rw[drop_kid (by omega)]
  unfold choiceF
  rw[if_neg (by rw[hn j (by omega) (by omega)];decide)]
  exact choice_at ha hy c (j+1) (by omega) fun l l1 l2=>hn l (by omega) l2
theorem bare_again{E:Env}{F:WEnv}{f:Nat}(hB:Both E F)(hN:Again E F f){i:Nat}(hi:i<F.s.length){p:Nat}{dp cl nu:Int}{b:ByteArray}{p':Nat}(hp:p<F.t.length)(hkind:(vl F.t p).kind=(nd F.s i).kind)(hdp:dp≤12)(q1:0≤cl)(q2:cl≤3)(q3:0≤nu)(q4:nu≤30)
 (h:wbareF F (wrF F f) f (nd F.s i) cl nu (vl F.t p) (p+1) dp=some (some (b,p',false)))(hb:b.size≤16777000){x:Nat}(hat:At E.d x b):bareF E (rdF E f) f (nd F.s i) cl nu (hd b).2 x (x+b.size) dp=some (.ok (seg F.t p p',x+b.size)):=by
 obtain⟨hk1,hk14,hT1,hT2,hT3,hT4,hT5⟩:=tagged_of hB.right hi
 unfold wbareF at h
 unfold bareF
 by_cases k13:(nd F.s i).kind=13
 ·rw[if_pos k13]at h ⊢
  split at h
  ·rename_i q
   have ha:(vl F.t p).alt.toNat<(nd F.s i).kids.length:=by omega
   have hw:=hB.right.fine.within i hi _ (kd_mem ha)
   obtain⟨hel,hbeg⟩:=wr_elem hB.right _ _ _ _ _ _ _ (by omega) h (by omega)
   obtain⟨d1,d2,d3,d4⟩:=hel.bd
   have hy:=(hB.bg _ (by omega) _ _).2 hbeg
   have hc:=choice_at (E:=E) (rec:=rdF E f) (h:=(hd b).2) (x:=x) (z:=x+b.size) (dp:=dp) ha hy (vl F.t p).alt.toNat 0 (by omega) fun l _ l2=>Bool.eq_false_iff.2 fun hbg=>by
    have hwl:=hB.right.fine.within i hi _ (kd_mem (Nat.lt_trans l2 ha))
    have hBg:=(hB.bg _ (by omega) _ _).1 hbg
    rcases((hB.right.2.2.2.2 i hi).1 (.inr k13)) l (Nat.lt_trans l2 ha)with hst|hT
    ·have:=hst.1;omega
    ·exact hT _ l2 ha (fun l l1 l2 hst=>by have:=hst.1;omega) ⟨_,_,d1,d2,d3,d4,hBg,hbeg⟩
   rw[List.drop_zero]at hc
   have a1:=wrF_adv _ _ _ _ _ h b p' _ rfl
   rw[hc,hN _ (p+1) dp b p' (by omega) h hb x (x+b.size) hat (Nat.le_refl _) hat.1]
   unfold Out.andThen
   simp only
   rw[←seg_cons hp (by omega),vl_parts (hkind.trans k13) (noB_of q.1) rfl q.2.1]
   rw[show(((vl F.t p).alt.toNat:Nat):Int)=(vl F.t p).alt by omega]
  ·cases h
 rw[if_neg k13]at h ⊢
 by_cases k14:(nd F.s i).kind=14
 ·rw[if_pos k14]at h
  rw[if_neg (fun q=>q.1 k14),if_neg (by omega),if_pos k14]
  split at h
  ·rename_i q
   injection h with h
   injection h with h
   obtain⟨hbe,h⟩:=Prod.mk.inj h
   obtain⟨rfl,_⟩:=Prod.mk.inj h
   rw[seg_one hp,hat.2,vl_parts (hkind.trans k14) hbe q.2.2.1 q.2.2.2]
  ·cases h
 rw[if_neg k14]at h
 have hel:∀(bt:Bool) (s:ByteArray),b=elB cl bt nu s→bt=decide (10≤(nd F.s i).kind∧(nd F.s i).kind≤12)→hd b=(0,⟨cl,bt,nu,2+cnt s.size,s.size⟩)∧¬((nd F.s i).kind≠14∧¬((hd b).2.c=cl∧(hd b).2.n=nu∧(hd b).2.b=decide (10≤(nd F.s i).kind∧(nd F.s i).kind≤12)))∧At E.d (x+(hd b).2.s.toNat) s∧x+(hd b).2.s.toNat+s.size=x+b.size:=fun bt s e hbt=>by
  subst e
  obtain⟨_,e2⟩:=elem_elB cl bt nu s q1 q2 q3 q4 (by omega)
  have hz:=elB_sz cl bt nu s
  have hc:=cnt_bd s.size
  rw[e2]
  exact⟨rfl,fun q=>q.2 ⟨rfl,rfl,hbt⟩,hat.el,by show x+(2+cnt s.size).toNat+s.size=_;omega⟩
 by_cases k10:(nd F.s i).kind=10
 ·rw[if_pos k10]at h
  split at h
  ·rename_i q
   rcases wandThen_cases h with⟨_,h⟩|⟨b1,x1,u1,h1,h2⟩
   ·cases h
   injection h2 with h2
   injection h2 with h2
   obtain⟨hbe,h2⟩:=Prod.mk.inj h2
   obtain⟨rfl,rfl⟩:=Prod.mk.inj h2
   obtain⟨he,hck,hat1,hsz⟩:=hel true b1 hbe.symm (by rw[k10];rfl)
   rw[if_neg hck,if_neg (by omega),if_neg k14,if_pos k10]
   obtain⟨_,hpp,rest,hb1,hrest⟩:=seq_again hB hN hi k10 (z:=x+b.size) hat.1 (nd F.s i).kids.length 0 (p+1) noB false b1 x1 (by omega) h1
   rw[noB_app]at hb1
   subst hb1
   rw[List.drop_zero]at hrest
   rw[hrest (by omega) _ [] hat1 hsz]
   simp only[List.nil_append]
   rw[←seg_cons hp (by omega),vl_parts (hkind.trans k10) (noB_of q.1) q.2.1 q.2.2]
  ·cases h
 rw[if_neg k10]at h
 by_cases k12:10≤(nd F.s i).kind∧(nd F.s i).kind≤12
 ·rw[if_pos k12]at h
  split at h
  ·rename_i q
   rcases wandThen_cases h with⟨_,h⟩|⟨b1,x1,u1,h1,h2⟩
   ·cases h
   injection h2 with h2
   injection h2 with h2
   obtain⟨hbe,h2⟩:=Prod.mk.inj h2
   obtain⟨rfl,rfl⟩:=Prod.mk.inj h2
   obtain⟨he,hck,hat1,hsz⟩:=hel true b1 hbe.symm (by simp[k12])
   rw[if_neg hck,if_neg (by omega),if_neg k14,if_neg k10,if_pos k12]
   have h1k:=hB.right.fine.one i hi (by omega)
   have hw:=hB.right.fine.within i hi _ (kd_mem (n:=nd F.s i) (i:=0) (by omega))
   obtain⟨_,hpp,rest,hb1,hrest⟩:=many_again hB hN (i:=(kd (nd F.s i) 0).node.toNat) (by omega) (z:=x+b.size) hat.1 f _ (p+1) noB noB false b1 x1 h1 q.2.2
   rw[noB_app]at hb1
   subst hb1
   rw[hrest (by omega) _ [] 0 hat1 hsz]
   simp only[List.nil_append]
   rw[←seg_cons hp (by omega),vl_parts hkind (noB_of q.1) q.2.1 rfl,Nat.zero_add,show(((vl F.t p).kids.toNat:Nat):Int)=(vl F.t p).kids by omega]
  ·cases h
 rw[if_neg k12]at h
 split at h
 ·rename_i q
  injection h with h
  injection h with h
  obtain⟨hbe,h⟩:=Prod.mk.inj h
  obtain⟨rfl,_⟩:=Prod.mk.inj h
  obtain⟨he,hck,hat1,hsz⟩:=hel false _ hbe.symm (by simp[k12])
  rw[if_neg hck,if_neg (by omega),if_neg k14,if_neg k10,if_neg k12]
  have hx:=hat1.2
  rw[hsz]at hx
  rw[hx,if_pos ((hB.okE _ _).2 ((hB.okF _ _).1 q.1)),seg_one hp,vl_parts hkind rfl q.2.1 q.2.2]
 ·cases h
theorem again_all{E:Env}{F:WEnv}(hB:Both E F):∀f,Again E F f
 |0=>fun _ _ _ _ _ _ h=>by cases h
 |f+1=>fun i p dp b p' hi h hb x y hat hy hyd=>by
  have hel:=(wr_elem hB.right _ _ _ _ _ _ _ hi h (by omega)).1
  obtain⟨hk1,hk14,hT1,hT2,hT3,hT4,hT5⟩:=tagged_of hB.right hi
  obtain⟨w1,w2,w3,w4⟩:=wnu_bd hB.right hi
  obtain⟨e1,e2⟩:=hat.hd hel.1 hel.2 hy hyd
  rw[rdF,if_neg (fun q=>q (by rw[e1];exact hel.1)),e2,e1]
  rw[wrF]at h
  split at h
  ·rename_i q
   rcases wandThen_cases h with⟨_,h⟩|⟨b1,x1,u1,h1,h2⟩
   ·cases h
   injection h2 with h2
   injection h2 with h2
   obtain⟨hbe,h2⟩:=Prod.mk.inj h2
   obtain⟨rfl,rfl⟩:=Prod.mk.inj h2
   unfold valF
   rw[hB.s]
   by_cases hm:(nd F.s i).mode=1
   ·rw[if_pos hm]at hbe
    have ht:0≤(nd F.s i).tag:=by
     by_cases z:(nd F.s i).tag= -1
     ·have:=hT3 z;omega
     ·omega
    have hc0:wcl (nd F.s i)=0:=by unfold wcl;rw[if_neg (by omega)]
    have hn0:wnu (nd F.s i)=own0 (nd F.s i).kind:=by unfold wnu;rw[if_neg (by omega)]
    rw[if_neg (by omega),if_neg (by omega)]
    subst hbe
    have hz:=elB_sz 2 true (nd F.s i).tag b1
    have hc:=cnt_bd b1.size
    obtain⟨_,he2⟩:=elem_elB 2 true (nd F.s i).tag b1 (by decide) (by decide) ht hT2 (by omega)
    have hat1:=hat.el
    have hel1:=(wbare_elem hB.right hi (wr_elem hB.right f) h1 (by omega)).1
    have hsz:x+(2+cnt b1.size).toNat+b1.size=x+(elB 2 true (nd F.s i).tag b1).size:=by omega
    obtain⟨f1,f2⟩:=hat1.hd hel1.1 hel1.2 (y:=x+(elB 2 true (nd F.s i).tag b1).size) (by omega) hat.1
    rw[he2]
    simp only
    rw[if_neg (by simp),if_neg (by omega),if_neg (fun q=>q (by rw[f1];exact hel1.1)),f2,f1]
    rw[hc0,hn0]at h1
    rw[hc0]at w1 w2
    rw[hn0]at w3 w4
    rw[bare_again hB (again_all hB f) hi q.1 q.2.1 q.2.2 w1 w2 w3 w4 h1 (by omega) hat1]
    unfold Out.andThen
    simp only
    rw[if_neg (by omega)]
   ·rw[if_neg hm]at hbe
    subst hbe
    have hm0:(nd F.s i).mode=0:=by have:=mode_of hB.right.2.2.1 hi;omega
    have hbare:=bare_again hB (again_all hB f) hi q.1 q.2.1 q.2.2 w1 w2 w3 w4 h1 hb hat
    by_cases ht:(nd F.s i).tag<0
    ·rw[if_pos ht]
     unfold wcl wnu at hbare
     rw[if_neg (by omega),if_neg (by omega)]at hbare
     exact hbare
    ·rw[if_neg ht,if_pos hm0]
     unfold wcl wnu at hbare
     rw[if_pos ⟨by omega,hm0⟩,if_pos ⟨by omega,hm0⟩]at hbare
     exact hbare
  ·cases h
def Lies(t:List Vl)(p:Nat)(vs:List Vl):Prop:=∃pre post,t=pre++vs++post∧pre.length=p
theorem Lies.left{t:List Vl}{p:Nat}{a b:List Vl}(h:Lies t p (a++b)):Lies t p a:=by
 obtain⟨pre,post,e,hp⟩:=h
 exact⟨pre,b++post,by rw[e];simp,hp⟩
theorem Lies.right{t:List Vl}{p:Nat}{a b:List Vl}(h:Lies t p (a++b)):Lies t (p+a.length) b:=by
 obtain⟨pre,post,e,hp⟩:=h
 exact⟨pre++a,post,by rw[e];simp,by rw[List.length_append,hp]⟩
theorem Lies.head{t:List Vl}{p:Nat}{v:Vl}{vs:List Vl}(h:Lies t p (v::vs)):p<t.length∧vl t p=v:=by
 obtain⟨pre,post,e,hp⟩:=h
 refine⟨by rw[e];simp;omega,?_⟩
 rw[e]
 unfold vl
 rw[List.getD_eq_getElem?_getD,List.append_assoc,List.getElem?_append_right (by omega),hp,Nat.sub_self]
 rfl
theorem Lies.tail{t:List Vl}{p:Nat}{v:Vl}{vs:List Vl}(h:Lies t p (v::vs)):Lies t (p+1) vs:=Lies.right (a:=[v]) h
theorem wrF_here{F:WEnv}{f i p:Nat}{dp:Int}{b:ByteArray}{p':Nat}{u:Bool}(h:wrF F f i p dp=some (some (b,p',u))):p<F.t.length∧(vl F.t p).kind=(nd F.s i).kind∧dp≤12:=by
 match f with
 |0=>cases h
 |f+1=>
  rw[wrF]at h
  split at h
  ·rename_i q;exact q
  ·cases h
def Fwd(E:Env)(F:WEnv)(f:Nat):Prop:=∀i x y dp vs z,i<F.s.length→rdF E f i x y dp=some (.ok (vs,z))→y≤E.d.size→∀p,Lies F.t p vs→wrF F (f+1) i p dp=some (some (E.d.extract x z,p+vs.length,false))
theorem ex_app{d:ByteArray}{x y z:Nat}(h1:x≤y)(h2:y≤z):d.extract x y++d.extract y z=d.extract x z:=(ByteArray.extract_eq_extract_append_extract y h1 h2).symm
theorem ex_nil(d:ByteArray)(x:Nat):d.extract x x=noB:=by rw[ByteArray.extract_same];rfl
theorem many_fwd{E:Env}{F:WEnv}{f:Nat}(hB:Both E F)(hN:Fwd E F f){set:Bool}{i:Nat}(hi:i<F.s.length){dp:Int}{z:Nat}(hz:z≤E.d.size):∀(m x:Nat) (last:ByteArray) (j:Nat) (acc:List Vl) (j':Nat) (vs':List Vl),x≤z→manyF E (rdF E f) set i z dp m x last j acc=some (.ok (j',vs'))→
 ∃n vs,j'=j+n∧vs'=acc++vs∧∀(p:Nat) (out:ByteArray) (u:Bool),Lies F.t p vs→wmanyF F (wrF F (f+1)) set i dp m (n:Nat) p out last u=some (some (out++E.d.extract x z,p+vs.length,u))
 |0,_,_,_,_,_,_,_,e=>by cases e
 |m+1,x,last,j,acc,j',vs',hx,e=>by
  unfold manyF at e
  split at e
  ·obtain⟨vs1,z1,h1,h2⟩:=andThen_ok e
   split at h2
   ·cases h2
   rename_i hset
   have hb:=rdF_len0 (by rw[hB.s];exact hB.right.fine) (by rw[hB.s];exact hi) h1
   obtain⟨n,vs,hj,hv,hw⟩:=many_fwd hB hN hi hz m z1 _ _ _ _ _ hb.2.2.1 h2
   refine⟨n+1,vs1++vs,by omega,by rw[hv,List.append_assoc],fun p out u hl=>?_⟩
   unfold wmanyF
   rw[if_pos (by omega),hN i x z dp vs1 z1 hi h1 hz p hl.left]
   unfold WOut.andThen
   simp only
   have hsb:(set&&below (E.d.extract x z1) last)=false:=by
    cases set with
    |false=>rfl
    |true=>exact Bool.eq_false_iff.2 fun q=>hset ⟨rfl,q⟩
   rw[hsb,Bool.or_false,Bool.or_false,show(((n+1:Nat):Int)-1)=(n:Int)by omega,hw _ _ _ hl.right,ByteArray.append_assoc,ex_app (by omega) hb.2.2.1,List.length_append,Nat.add_assoc]
  ·cases e
   refine⟨0,[],rfl,by simp,fun p out u _=>?_⟩
   unfold wmanyF
   rw[if_neg (by omega),show x=z by omega,ex_nil,app_noB']
   rfl
theorem seq_fwd{E:Env}{F:WEnv}{f:Nat}(hB:Both E F)(hN:Fwd E F f){i:Nat}(hi:i<F.s.length){dp:Int}{z:Nat}(hz:z≤E.d.size):∀(c j x:Nat) (acc vs':List Vl) (z':Nat),j+c=(nd F.s i).kids.length→x≤z→seqF E (rdF E f) z (dp+1) ((nd F.s i).kids.drop j) x acc=some (.ok (vs',z'))→
 ∃vs,vs'=acc++vs∧∀(p:Nat) (out:ByteArray) (u:Bool),Lies F.t p vs→wseqF F (wrF F (f+1)) dp ((nd F.s i).kids.drop j) p out u=some (some (out++E.d.extract x z,p+vs.length,u))
 |0,j,x,acc,vs',z',hj,hx,e=>by
  rw[List.drop_eq_nil_of_le (by omega)]at e ⊢
  unfold seqF at e
  split at e
  ·cases e
  ·cases e
   refine⟨[],by simp,fun p out u _=>?_⟩
   unfold wseqF
   rw[show x=z by omega,ex_nil,app_noB']
   rfl
 |c+1,j,x,acc,vs',z',hj,hx,e=>by
  have hjl:j<(nd F.s i).kids.length:=by omega
  have hkm:=kd_mem hjl
  have hw:=hB.right.fine.within i hi _ hkm
  have hi':(kd (nd F.s i) j).node.toNat<F.s.length:=by omega
  obtain⟨hk1,hk14,_⟩:=tagged_of hB.right hi'
  have hDf:=(hB.right.2.2.2.2 i hi).2 j hjl
  have hKo:=(hB.right.2.2.1 i hi).2.2.2 j hjl
  rw[drop_kid hjl]at e ⊢
  unfold seqF at e
  split at e
  ·cases e
  split at e
  ·obtain⟨vs1,z1,h1,h2⟩:=andThen_ok e
   split at h2
   ·cases h2
   rename_i hne
   have hb:=rdF_len0 (by rw[hB.s];exact hB.right.fine) (by rw[hB.s];exact hi') h1
   obtain⟨vs,hv,hw2⟩:=seq_fwd hB hN hi hz c (j+1) z1 _ _ _ (by omega) hb.2.2.1 h2
   refine⟨vs1++vs,by rw[hv,List.append_assoc],fun p out u hl=>?_⟩
   have hw1:=hN _ _ _ _ _ _ hi' h1 hz p hl.left
   have hhere:=wrF_here hw1
   have hw1':wrF F (f+1) (kd (nd F.s i) j).node.toNat p (if(kd (nd F.s i) j).dflt.size=0 then dp+1 else 1)=some (some (E.d.extract x z1,p+vs1.length,false)):=by
    by_cases hd:(kd (nd F.s i) j).dflt.size=0
    ·rw[if_pos hd];exact hw1
    ·rw[if_neg hd]
     obtain⟨hk9,_⟩:=hDf.resolve_left hd
     rw[wrF_leaf hk1 hk9]at hw1 ⊢
     split at hw1
     ·rename_i q
      rw[if_pos ⟨⟨q.1.1,q.1.2.1,by decide⟩,q.2⟩]
      exact hw1
     ·cases hw1
   unfold wseqF
   rw[if_neg (fun q=>by have:=q.2.2;omega),hw1']
   unfold WOut.andThen
   simp only
   rw[if_neg (fun q=>hne q.2),if_neg (by omega),Bool.or_false,hw2 _ _ _ hl.right,ByteArray.append_assoc,ex_app (by omega) hb.2.2.1,List.length_append,Nat.add_assoc]
  split at e
  ·rename_i ho
   obtain⟨vs,hv,hw2⟩:=seq_fwd hB hN hi hz c (j+1) x _ _ _ (by omega) hx e
   refine⟨⟨15,noB,0,0⟩::vs,by rw[hv,List.append_assoc];rfl,fun p out u hl=>?_⟩
   obtain⟨g1,g2⟩:=hl.head
   unfold wseqF
   rw[if_pos ⟨ho,g1,by rw[g2]⟩,if_pos (by rw[g2];exact⟨rfl,rfl,rfl⟩),hw2 _ _ _ hl.tail,List.length_cons,Nat.add_assoc,Nat.add_comm 1]
  split at e
  ·rename_i ho hd
   obtain⟨hk9,_⟩:=hDf.resolve_left hd
   obtain⟨y,e1,e2,_⟩:=hB.dv i (by rw[hB.s];exact hi) (kd (nd F.s i) j) (by rw[hB.s];exact hkm) hd
   rw[hB.s]at e1 e2
   rw[e2]at e
   obtain⟨vs,hv,hw2⟩:=seq_fwd hB hN hi hz c (j+1) x _ _ _ (by omega) hx e
   refine⟨⟨(nd F.s (kd (nd F.s i) j).node.toNat).kind,y,0,0⟩::vs,by rw[hv,List.append_assoc];rfl,fun p out u hl=>?_⟩
   obtain⟨g1,g2⟩:=hl.head
   have hle:=(leaf_elem hB.right hi' hk9 e1).2 rfl
   have hco:ContentOk (nd F.s (kd (nd F.s i) j).node.toNat).kind y:=by
    obtain⟨_,_,hT1,hT2,hT3,hT4,hT5⟩:=tagged_of hB.right hi'
    exact((elem_iff (fun z=>hT3 (by omega)) (by omega)).1 e1).2
   unfold wseqF
   rw[if_neg (fun q=>ho q.1),if_neg hd,wrF_leaf hk1 hk9,g2,if_pos ⟨⟨g1,rfl,by decide⟩,(hB.okF _ _).2 hco,rfl,rfl⟩]
   unfold WOut.andThen
   simp only
   rw[if_pos ⟨hd,hle⟩,Bool.or_false,hw2 _ _ _ hl.tail,List.length_cons,Nat.add_assoc,Nat.add_comm 1]
  split at e<;>cases e
theorem choice_inv{E:Env}{rec:Rec}{h:Hd}{x z:Nat}{dp:Int}{n:Nd}:∀(c j:Nat) {vs':List Vl} {z':Nat},j+c=n.kids.length→choiceF E rec h x z dp (n.kids.drop j) j=some (.ok (vs',z'))→∃a vs z1,a<n.kids.length∧vs'=⟨13,noB,(a:Nat),1⟩::vs∧rec (kd n a).node.toNat x z dp=some (.ok (vs,z1))
 |0,j,vs',z',hj,e=>by
  rw[List.drop_eq_nil_of_le (by omega)]at e
  unfold choiceF at e
  cases e
 |c+1,j,vs',z',hj,e=>by
  rw[drop_kid (by omega)]at e
  unfold choiceF at e
  split at e
  ·obtain⟨vs,z1,h1,h2⟩:=andThen_ok e
   cases h2
   exact⟨j,vs,z1,by omega,rfl,h1⟩
  ·exact choice_inv c (j+1) (by omega) e
theorem el_of{E:Env}{x y:Nat}(h:(E.hd x y).1=0)(hy:y≤E.d.size):Elem (E.d.extract x (fin x (E.hd x y).2))∧hd (E.d.extract x (fin x (E.hd x y).2))=E.hd x y∧E.hd x (fin x (E.hd x y).2)=E.hd x y∧fin x (E.hd x y).2≤y∧
 E.d.extract x (fin x (E.hd x y).2)=elB (E.hd x y).2.c (E.hd x y).2.b (E.hd x y).2.n (E.d.extract (x+(E.hd x y).2.s.toNat) (fin x (E.hd x y).2)):=by
 have h1:=fin_le h
 have h2:=fin_int h
 have ha:=hd_again h (z:=fin x (E.hd x y).2) (Nat.le_refl _) h1.2.2.2 hy
 have he:hd (E.d.extract x (fin x (E.hd x y).2))=E.hd x y:=ha
 have hz:=ex_size E.d x (fin x (E.hd x y).2)
 have hel:Elem (E.d.extract x (fin x (E.hd x y).2)):=⟨by rw[he];exact h,by rw[he];omega⟩
 have hb:=(elB_hd hel.1 hel.2).1
 rw[he]at hb
 refine⟨hel,he,ha,h1.2.2.1,?_⟩
 rw[ByteArray.extract_extract,hz]at hb
 rw[Nat.min_eq_right (by omega)]at hb
 exact hb
theorem bare_fwd{E:Env}{F:WEnv}{f:Nat}(hB:Both E F)(hN:Fwd E F f){i:Nat}(hi:i<F.s.length){x y:Nat}{dp cl nu:Int}{vs:List Vl}{z:Nat}(hh:(E.hd x y).1=0)(hy:y≤E.d.size)
 (e:bareF E (rdF E f) f (nd F.s i) cl nu (E.hd x y).2 x (fin x (E.hd x y).2) dp=some (.ok (vs,z))){p:Nat}(hl:Lies F.t p vs):
 p<F.t.length∧(vl F.t p).kind=(nd F.s i).kind∧dp≤12∧wbareF F (wrF F (f+1)) (f+1) (nd F.s i) cl nu (vl F.t p) (p+1) dp=some (some (E.d.extract x (fin x (E.hd x y).2),p+vs.length,false)):=by
 obtain⟨hel,he,ha,hfy,hb⟩:=el_of hh hy
 have hfl:=fin_le hh
 unfold bareF at e
 unfold wbareF
 by_cases k13:(nd F.s i).kind=13
 ·rw[if_pos k13]at e ⊢
  obtain⟨a,vs1,z1,h1,h2,h3⟩:=choice_inv (n:=nd F.s i) (nd F.s i).kids.length 0 (by omega) (by rw[List.drop_zero];exact e)
  subst h2
  have hw:=hB.right.fine.within i hi _ (kd_mem h1)
  obtain⟨g1,g2⟩:=hl.head
  have hz1:=(rdF_fin h3).2
  rw[ha]at hz1
  have hw1:=hN _ _ _ _ _ _ (by omega) h3 hfl.2.2.2 (p+1) hl.tail
  have hhere:=wrF_here hw1
  refine⟨g1,by rw[g2];exact k13.symm,hhere.2.2,?_⟩
  rw[g2]
  rw[if_pos ⟨rfl,rfl,Int.natCast_nonneg _,Int.ofNat_lt.2 h1⟩,show((a:Nat):Int).toNat=a by omega,hw1,hz1,List.length_cons,Nat.add_assoc,Nat.add_comm 1]
 rw[if_neg k13]at e ⊢
 split at e
 ·cases e
 rename_i hck
 split at e
 ·cases e
 rename_i hdp
 by_cases k14:(nd F.s i).kind=14
 ·rw[if_pos k14]at e ⊢
  cases e
  obtain⟨g1,g2⟩:=hl.head
  refine⟨g1,by rw[g2];exact k14.symm,by omega,?_⟩
  rw[g2]
  rw[if_pos ⟨hel.1,hel.2,rfl,rfl⟩]
  rfl
 rw[if_neg k14]at e ⊢
 have hck':(E.hd x y).2.c=cl∧(E.hd x y).2.n=nu∧(E.hd x y).2.b=decide (10≤(nd F.s i).kind∧(nd F.s i).kind≤12):=Classical.not_not.1 fun q=>hck ⟨k14,q⟩
 obtain⟨c1,c2,c3⟩:=hck'
 rw[c1,c2,c3]at hb
 by_cases k10:(nd F.s i).kind=10
 ·rw[if_pos k10]at e ⊢
  split at e
  ·cases e
  ·cases e
  ·rename_i vs1 z1 h1
   cases e
   obtain⟨vs2,hv,hw⟩:=seq_fwd hB hN hi hfl.2.2.2 (nd F.s i).kids.length 0 _ _ _ _ (by omega) hfl.2.1 (by rw[List.drop_zero];exact h1)
   rw[List.drop_zero]at hw
   rw[List.nil_append]at hv
   subst hv
   obtain⟨g1,g2⟩:=hl.head
   refine⟨g1,by rw[g2];exact k10.symm,by omega,?_⟩
   rw[g2]
   rw[if_pos ⟨rfl,rfl,rfl⟩,hw _ _ _ hl.tail]
   unfold WOut.andThen
   simp only
   rw[noB_app,hb,List.length_cons,Nat.add_assoc,Nat.add_comm 1,show decide (10≤(nd F.s i).kind∧(nd F.s i).kind≤12)=true by rw[k10];rfl]
 rw[if_neg k10]at e ⊢
 by_cases k12:10≤(nd F.s i).kind∧(nd F.s i).kind≤12
 ·rw[if_pos k12]at e ⊢
  split at e
  ·cases e
  ·cases e
  ·rename_i j1 vs1 h1
   cases e
   have h1k:=hB.right.fine.one i hi (by omega)
   have hw0:=hB.right.fine.within i hi _ (kd_mem (n:=nd F.s i) (i:=0) (by omega))
   obtain⟨n,vs2,hj,hv,hw⟩:=many_fwd hB hN (i:=(kd (nd F.s i) 0).node.toNat) (by omega) hfl.2.2.2 f _ _ _ _ _ _ hfl.2.1 h1
   rw[List.nil_append]at hv
   rw[Nat.zero_add]at hj
   subst hv hj
   obtain⟨g1,g2⟩:=hl.head
   refine⟨g1,by rw[g2],by omega,?_⟩
   rw[g2]
   rw[if_pos ⟨rfl,rfl,Int.natCast_nonneg _⟩,wmanyF_le (fun _ _ _ _ h=>h) f (f+1) _ _ _ _ _ _ (by omega) (hw _ noB false hl.tail)]
   unfold WOut.andThen
   simp only
   rw[noB_app,hb,List.length_cons,Nat.add_assoc,Nat.add_comm 1,show decide (10≤(nd F.s i).kind∧(nd F.s i).kind≤12)=true by simp[k12]]
 rw[if_neg k12]at e ⊢
 split at e
 ·rename_i hok
  cases e
  obtain⟨g1,g2⟩:=hl.head
  refine⟨g1,by rw[g2],by omega,?_⟩
  rw[g2]
  rw[if_pos ⟨(hB.okF _ _).2 ((hB.okE _ _).1 hok),rfl,rfl⟩]
  conv=>rhs;rw[hb]
  rw[show decide (10≤(nd F.s i).kind∧(nd F.s i).kind≤12)=false by simp[k12]]
  rfl
 ·cases e
theorem fwd_all{E:Env}{F:WEnv}(hB:Both E F):∀f,Fwd E F f
 |0=>fun _ _ _ _ _ _ _ h=>by cases h
 |f+1=>fun i x y dp vs z hi h hy p hl=>by
  obtain⟨hk1,hk14,hT1,hT2,hT3,hT4,hT5⟩:=tagged_of hB.right hi
  obtain⟨hh,hzf⟩:=rdF_fin h
  subst hzf
  have hfl:=fin_le hh
  obtain⟨hel,he,ha,hfy,hb⟩:=el_of hh hy
  rw[rdF,if_neg (fun q=>q hh)]at h
  unfold valF at h
  rw[hB.s]at h
  rw[wrF]
  by_cases ht:(nd F.s i).tag<0
  ·rw[if_pos ht]at h
   obtain⟨a1,a2,a3,a4⟩:=bare_fwd hB (fwd_all hB f) hi hh hy h hl
   have hm:(nd F.s i).mode≠1:=by have:=hT3 (by omega);omega
   unfold wcl wnu
   rw[if_pos ⟨a1,a2,a3⟩,if_neg (by omega),if_neg (by omega),a4]
   unfold WOut.andThen
   simp only
   rw[if_neg hm]
  rw[if_neg ht]at h
  by_cases hm:(nd F.s i).mode=0
  ·rw[if_pos hm]at h
   obtain⟨a1,a2,a3,a4⟩:=bare_fwd hB (fwd_all hB f) hi hh hy h hl
   unfold wcl wnu
   rw[if_pos ⟨a1,a2,a3⟩,if_pos ⟨by omega,hm⟩,if_pos ⟨by omega,hm⟩,a4]
   unfold WOut.andThen
   simp only
   rw[if_neg (by omega)]
  rw[if_neg hm]at h
  have hm1:(nd F.s i).mode=1:=by have:=mode_of hB.right.2.2.1 hi;omega
  split at h
  ·cases h
  rename_i hck
  obtain⟨c1,c2,c3⟩:=Classical.not_not.1 hck
  split at h
  ·cases h
  split at h
  ·cases h
  rename_i hh1
  have hh1:=Classical.not_not.1 hh1
  obtain⟨vs1,z1,h1,h2⟩:=andThen_ok h
  split at h2
  ·cases h2
  rename_i hlt
  cases h2
  obtain⟨a1,a2,a3,a4⟩:=bare_fwd hB (fwd_all hB f) hi hh1 hfl.2.2.2 h1 hl
  have hfl1:=fin_le hh1
  unfold wcl wnu
  rw[if_pos ⟨a1,a2,a3⟩,if_neg (by omega),if_neg (by omega),a4]
  unfold WOut.andThen
  simp only
  rw[if_pos hm1,hb,c1,c2,c3,show fin (x+(E.hd x y).2.s.toNat) (E.hd (x+(E.hd x y).2.s.toNat) (fin x (E.hd x y).2)).2=fin x (E.hd x y).2 by omega]
def VB(B:Nat)(v:Vl):Prop:=v.text.size≤B∧v.kids≤B
theorem choiceF_vb{E:Env}{rec:Rec}{B:Nat}(hB:1≤B)(hr:∀i x y dp vs z,rec i x y dp=some (.ok (vs,z))→∀v∈vs,VB B v){h:Hd}{x tz:Nat}{dp:Int}:∀(ks:List Kd) (j:Nat) (vs:List Vl) (z:Nat),choiceF E rec h x tz dp ks j=some (.ok (vs,z))→∀v∈vs,VB B v
 | [],_,_,_,e=>by cases e
 |k::ks,j,vs,z,e=>by
  unfold choiceF at e
  split at e
  ·obtain⟨us,z',h1,h2⟩:=andThen_ok e
   cases h2
   intro v hv
   rcases List.mem_cons.1 hv with rfl|hv
   ·exact⟨Nat.zero_le _,by show(1:Int)≤B;omega⟩
   ·exact hr _ _ _ _ _ _ h1 v hv
  ·exact choiceF_vb hB hr ks (j+1) vs z e
theorem seqF_vb{E:Env}{rec:Rec}{B:Nat}(hr:∀i x y dp vs z,rec i x y dp=some (.ok (vs,z))→∀v∈vs,VB B v){tz:Nat}{dp:Int}:∀(ks:List Kd) (x:Nat) (acc vs:List Vl) (z:Nat),(∀k∈ks,k.dflt.size≠0→VB B (E.dv k))→(∀v∈acc,VB B v)→seqF E rec tz dp ks x acc=some (.ok (vs,z))→∀v∈vs,VB B v
 | [],x,acc,vs,z,_,ha,e=>by
   unfold seqF at e
   split at e
   ·cases e
   ·cases e;exact ha
 |k::ks,x,acc,vs,z,hk,ha,e=>by
  have hk':∀k∈ks,k.dflt.size≠0→VB B (E.dv k):=fun k h=>hk k (by simp[h])
  unfold seqF at e
  split at e
  ·cases e
  split at e
  ·obtain⟨us,z',h1,h2⟩:=andThen_ok e
   split at h2
   ·cases h2
   ·exact seqF_vb hr ks z' _ vs z hk' (fun v hv=>by
     rcases List.mem_append.1 hv with h|h
     ·exact ha v h
     ·exact hr _ _ _ _ _ _ h1 v h) h2
  split at e
  ·exact seqF_vb hr ks x _ vs z hk' (fun v hv=>by
    rcases List.mem_append.1 hv with h|h
    ·exact ha v h
    ·obtain rfl:=List.mem_singleton.1 h;exact⟨Nat.zero_le _,Int.natCast_nonneg _⟩) e
  split at e
  ·rename_i hd
   exact seqF_vb hr ks x _ vs z hk' (fun v hv=>by
    rcases List.mem_append.1 hv with h|h
    ·exact ha v h
    ·obtain rfl:=List.mem_singleton.1 h;exact hk k (by simp) hd) e
  split at e<;>cases e
theorem manyF_vb{E:Env}{rec:Rec}{B:Nat}(hr:∀i x y dp vs z,rec i x y dp=some (.ok (vs,z))→∀v∈vs,VB B v){set:Bool}{i tz:Nat}{dp:Int}:∀(m x:Nat) (last:ByteArray) (j:Nat) (acc:List Vl) (j':Nat) (vs:List Vl),(∀v∈acc,VB B v)→manyF E rec set i tz dp m x last j acc=some (.ok (j',vs))→(∀v∈vs,VB B v)∧j'≤j+m
 |0,_,_,_,_,_,_,_,e=>by cases e
 |m+1,x,last,j,acc,j',vs,ha,e=>by
  unfold manyF at e
  split at e
  ·obtain⟨us,z',h1,h2⟩:=andThen_ok e
   split at h2
   ·cases h2
   ·have:=manyF_vb hr m z' _ _ _ _ _ (fun v hv=>by
     rcases List.mem_append.1 hv with h|h
     ·exact ha v h
     ·exact hr _ _ _ _ _ _ h1 v h) h2
    exact⟨this.1,by omega⟩
  ·cases e;exact⟨ha,by omega⟩
theorem bareF_vb{E:Env}{rec:Rec}{B:Nat}(hB:8≤B)(hdB:E.d.size≤B)(hr:∀i x y dp vs z,rec i x y dp=some (.ok (vs,z))→∀v∈vs,VB B v){m:Nat}(hm:m≤B){n:Nd}(hk8:n.kids.length≤8)(hdv:∀k∈n.kids,k.dflt.size≠0→VB B (E.dv k)){cl nu:Int}{h:Hd}{x tz:Nat}{dp:Int}{vs:List Vl}{z:Nat}(e:bareF E rec m n cl nu h x tz dp=some (.ok (vs,z))):∀v∈vs,VB B v:=by
 have hex:∀a b,(E.d.extract a b).size≤B:=fun a b=>by rw[ex_size];omega
 unfold bareF at e
 split at e
 ·exact choiceF_vb (by omega) hr _ _ _ _ e
 split at e
 ·cases e
 split at e
 ·cases e
 split at e
 ·cases e
  intro v hv
  obtain rfl:=List.mem_singleton.1 hv
  exact⟨hex _ _,Int.natCast_nonneg _⟩
 split at e
 ·split at e
  ·cases e
  ·cases e
  ·rename_i us z' hs
   cases e
   intro v hv
   rcases List.mem_cons.1 hv with rfl|hv
   ·exact⟨Nat.zero_le _,by show((n.kids.length:Nat):Int)≤B;omega⟩
   ·exact seqF_vb hr _ _ _ _ _ hdv (fun v h=>by cases h) hs v hv
 split at e
 ·split at e
  ·cases e
  ·cases e
  ·rename_i j us hs
   cases e
   have:=manyF_vb hr _ _ _ _ _ _ _ (fun v h=>by cases h) hs
   intro v hv
   rcases List.mem_cons.1 hv with rfl|hv
   ·exact⟨Nat.zero_le _,by show((j:Nat):Int)≤B;omega⟩
   ·exact this.1 v hv
 split at e
 ·cases e
  intro v hv
  obtain rfl:=List.mem_singleton.1 hv
  exact⟨hex _ _,Int.natCast_nonneg _⟩
 ·cases e
theorem rdF_vb{E:Env}{B:Nat}(hB:8≤B)(hdB:E.d.size≤B)(hk8:∀i,(nd E.s i).kids.length≤8)(hdv:∀i,∀k∈(nd E.s i).kids,k.dflt.size≠0→VB B (E.dv k)):∀f,f≤B→∀i x y dp vs z,rdF E f i x y dp=some (.ok (vs,z))→∀v∈vs,VB B v
 |0,_,_,_,_,_,_,_,e=>by cases e
 |f+1,hf,i,x,y,dp,vs,z,e=>by
  have ih:=rdF_vb hB hdB hk8 hdv f (by omega)
  rw[rdF]at e
  split at e
  ·cases e
  unfold valF at e
  split at e
  ·exact bareF_vb hB hdB ih (by omega) (hk8 i) (hdv i) e
  split at e
  ·exact bareF_vb hB hdB ih (by omega) (hk8 i) (hdv i) e
  split at e
  ·cases e
  split at e
  ·cases e
  split at e
  ·cases e
  obtain⟨us,z',h1,h2⟩:=andThen_ok e
  split at h2
  ·cases h2
  ·cases h2
   exact bareF_vb hB hdB ih (by omega) (hk8 i) (hdv i) h1
def PL(y:Nat)(o:Out):Prop:=∀e q,o= .error (e,q)→0≤q∧q≤y
theorem choiceF_pl{E:Env}{rec:Rec}{h:Hd}{x tz Y:Nat}{dp:Int}(hxt:x≤Y)(hr:∀i o,rec i x tz dp=some o→PL Y o):∀(ks:List Kd) (j:Nat) (o:Out),choiceF E rec h x tz dp ks j=some o→PL Y o
 | [],_,_,e=>by cases e;intro e q h;cases h;exact⟨by omega,by omega⟩
 |k::ks,j,o,e=>by
  unfold choiceF at e
  split at e
  ·rcases andThen_cases e with⟨u,h1,rfl⟩|⟨us,z',h1,h2⟩
   ·intro e q h;exact hr _ _ h1 e q h
   ·cases h2;intro e q h;cases h
  ·exact choiceF_pl hxt hr ks (j+1) o e
theorem seqF_pl{E:Env}{rec:Rec}{tz Y:Nat}{dp:Int}(hY:tz≤Y)(hr:∀i x o,x≤tz→rec i x tz dp=some o→PL Y o∧∀vs z,o= .ok (vs,z)→z≤tz):∀(ks:List Kd) (x:Nat) (acc:List Vl) (o:Out),x≤tz→seqF E rec tz dp ks x acc=some o→PL Y o
 | [],x,acc,o,hx,e=>by
   unfold seqF at e
   split at e
   ·cases e;intro e q h;cases h;exact⟨by omega,by omega⟩
   ·cases e;intro e q h;cases h
 |k::ks,x,acc,o,hx,e=>by
  unfold seqF at e
  split at e
  ·cases e;intro e q h;cases h;exact⟨by omega,by omega⟩
  split at e
  ·rcases andThen_cases e with⟨u,h1,rfl⟩|⟨us,z',h1,h2⟩
   ·intro e q h;exact(hr _ _ _ hx h1).1 e q h
   ·have hz:=(hr _ _ _ hx h1).2 _ _ rfl
    split at h2
    ·cases h2;intro e q h;cases h;exact⟨by omega,by omega⟩
    ·exact seqF_pl hY hr ks z' _ o hz h2
  split at e
  ·exact seqF_pl hY hr ks x _ o hx e
  split at e
  ·exact seqF_pl hY hr ks x _ o hx e
  split at e<;> (cases e;intro e q h;cases h;exact⟨by omega,by omega⟩)
theorem manyF_pl{E:Env}{rec:Rec}{set:Bool}{i tz Y:Nat}{dp:Int}(hY:tz≤Y)(hr:∀x o,x≤tz→rec i x tz dp=some o→PL Y o∧∀vs z,o= .ok (vs,z)→z≤tz):∀(m x:Nat) (last:ByteArray) (j:Nat) (acc:List Vl) (o:Except (Int×Int) (Nat×List Vl)),x≤tz→manyF E rec set i tz dp m x last j acc=some o→∀e q,o= .error (e,q)→0≤q∧q≤Y
 |0,_,_,_,_,_,_,e=>by cases e
 |m+1,x,last,j,acc,o,hx,e=>by
  unfold manyF at e
  split at e
  ·rcases andThen_cases e with⟨u,h1,rfl⟩|⟨us,z',h1,h2⟩
   ·intro e q h;cases h;exact(hr _ _ hx h1).1 _ _ rfl
   ·have hz:=(hr _ _ hx h1).2 _ _ rfl
    split at h2
    ·cases h2;intro e q h;cases h;exact⟨by omega,by omega⟩
    ·exact manyF_pl hY hr m z' _ _ _ o hz h2
  ·cases e;intro e q h;cases h
theorem bareF_pl{E:Env}{rec:Rec}{m:Nat}{n:Nd}{cl nu:Int}{h:Hd}{x tz Y:Nat}{dp:Int}(hxt:x+h.s.toNat≤tz)(hY:tz≤Y)(hr:∀i x dp o,x≤tz→rec i x tz dp=some o→PL Y o∧∀vs z,o= .ok (vs,z)→z≤tz){o:Out}(e:bareF E rec m n cl nu h x tz dp=some o):PL Y o:=by
 have hx:∀e' q,(Except.error (e',q):Out)= .error (e',(x:Int))→0≤q∧q≤Y:=fun e' q h=>by cases h;exact⟨by omega,by omega⟩
 unfold bareF at e
 split at e
 ·exact choiceF_pl (by omega) (fun i o h=>(hr i x dp o (by omega) h).1) _ _ _ e
 split at e
 ·cases e;intro e q h;cases h;exact⟨by omega,by omega⟩
 split at e
 ·cases e;intro e q h;cases h;exact⟨by omega,by omega⟩
 split at e
 ·cases e;intro e q h;cases h
 split at e
 ·split at e
  ·cases e
  ·rename_i u hs
   cases e
   intro e q h;cases h
   exact seqF_pl hY (fun i x o hx h=>hr i x _ o hx h) _ _ _ _ hxt hs _ _ rfl
  ·cases e;intro e q h;cases h
 split at e
 ·split at e
  ·cases e
  ·rename_i u hs
   cases e
   intro e q h;cases h
   exact manyF_pl hY (fun x o hx h=>hr _ x _ o hx h) _ _ _ _ _ _ hxt hs _ _ rfl
  ·cases e;intro e q h;cases h
 split at e
 ·cases e;intro e q h;cases h
 ·cases e;intro e q h;cases h;exact⟨by omega,by omega⟩
theorem pl_err{y:Nat}{o:Out}{k q:Int}(h:some (Except.error (k,q))=some o)(hq:0≤q∧q≤y):PL y o:=fun e p he=>by
 rw[←Option.some.inj h]at he
 injection he with he
 injection he with _ he
 omega
theorem pl_ok{y:Nat}{o:Out}{u:List Vl×Nat}(h:some (Except.ok u)=some o):PL y o:=fun e p he=>by
 rw[←Option.some.inj h]at he
 cases he
theorem rdF_pl{E:Env}:∀f i x y dp o,x≤y→rdF E f i x y dp=some o→PL y o∧∀vs z,o= .ok (vs,z)→z≤y
 |0,_,_,_,_,_,_,e=>by cases e
 |f+1,i,x,y,dp,o,hx,e=>by
  refine⟨?_,fun vs z h=>by subst h;obtain⟨q1,q2⟩:=rdF_fin e;have:=fin_le q1;omega⟩
  rw[rdF]at e
  split at e
  ·exact pl_err e ⟨by omega,by omega⟩
  rename_i q0
  have hfl:=fin_le (Classical.not_not.1 q0)
  have ih:∀tz,tz≤y→∀i x dp o,x≤tz→rdF E f i x tz dp=some o→PL y o∧∀vs z,o= .ok (vs,z)→z≤tz:=fun tz ht i x dp o hx h=>by
   obtain⟨a,b⟩:=rdF_pl f i x tz dp o hx h
   exact⟨fun e q h=>by have:=a e q h;omega,b⟩
  unfold valF at e
  split at e
  ·exact bareF_pl hfl.2.1 hfl.2.2.1 (ih _ hfl.2.2.1) e
  split at e
  ·exact bareF_pl hfl.2.1 hfl.2.2.1 (ih _ hfl.2.2.1) e
  split at e
  ·exact pl_err e ⟨by omega,by omega⟩
  split at e
  ·exact pl_err e ⟨by omega,by omega⟩
  split at e
  ·exact pl_err e ⟨by omega,by omega⟩
  rename_i q1
  have hf1:=fin_le (Classical.not_not.1 q1)
  rcases andThen_cases e with⟨u,h1,rfl⟩|⟨us,z',h1,h2⟩
  ·exact bareF_pl hf1.2.1 (by omega) (ih _ (by omega)) h1
  ·split at h2
   ·exact pl_err h2 ⟨by omega,by omega⟩
   ·exact pl_ok h2
theorem strip_le:∀(fs:List (Int×Int×Bool)) (t u:ByteArray),strip fs t=some u→u.size≤t.size
 | [],t,u,h=>by cases h;exact Nat.le_refl _
 |f::fs,t,u,h=>by
  have:=strip_le fs _ _ (strip2.1 h).2
  rw[ex_size]at this
  omega
theorem nd_out{s:List Nd}{i:Nat}(h:¬i<s.length):(nd s i).kids=[]:=by
 unfold nd
 rw[List.getD_eq_getElem?_getD,List.getElem?_eq_none (by omega)]
 rfl
theorem vl_in{t:List Vl}{j:Nat}(hj:j<t.length):vl t j∈t:=by
 unfold vl
 rw[List.getD_eq_getElem?_getD,List.getElem?_eq_getElem hj]
 exact List.getElem_mem _
theorem uniq_math{s:List Nd}(hr:RightP s)(hok:SchOk s)(root:Nat)(hroot:root<s.length)(d:ByteArray):∃E v,DecV E s root d v∧
 ((∃k q,v= .error (k,q)∧k≠0∧0≤q∧q≤d.size)∨(∃vs F,v= .ok vs∧EncV F s root vs (.ok d)∧Sz vs∧(∀j,j<vs.length→(vl vs j).kids≤9223372036854775807)∧2≤d.size∧d.size≤4000)):=by
 obtain⟨E,v,h⟩:=decV_ex s root d
 refine⟨E,v,h,?_⟩
 have h0:RightP s∧(0:Int)≤root∧(root:Int)<s.length:=⟨hr,by omega,by omega⟩
 rcases h with⟨q,_⟩|⟨_,_,rfl⟩|⟨_,hd,rfl,rfl,hE,f,hf,hv⟩
 ·exact absurd h0 q
 ·exact .inl ⟨2,0,rfl,by decide,by omega,by omega⟩
 rw[Int.toNat_natCast]at hv
 unfold readF at hv
 rcases andThen_cases hv with⟨⟨k,q⟩,h1,rfl⟩|⟨vs,z,h1,h2⟩
 ·have:=(rdF_pl _ _ _ _ _ _ (Nat.zero_le _) h1).1 k q rfl
  exact .inl ⟨k,q,rfl,rdF_err _ _ _ _ _ _ h1 k q rfl,this.1,this.2⟩
 have hl:=rdF_len0 hr.fine hroot h1
 split at h2
 ·cases h2
  exact .inl ⟨7,z,rfl,by decide,by omega,by omega⟩
 cases h2
 obtain rfl:z=E.d.size:=by omega
 have hvb:=rdF_vb (E:=E) (B:=140737488351232) (by omega) (by omega) (fun i=>by
  by_cases hi:i<E.s.length
  ·exact hr.fine.eight i hi
  ·rw[nd_out hi];exact Nat.zero_le _) (fun i k hk hd=>by
  by_cases hi:i<E.s.length
  ·obtain⟨u,e1,e2,_⟩:=hE.dv i hi k hk hd
   have hw:=hr.fine.within i hi k hk
   obtain⟨_,_,hT1,hT2,hT3,hT4,hT5⟩:=tagged_of hr (i:=k.node.toNat) (by omega)
   have hst:=((elem_iff (fun z=>hT3 (by omega)) (by omega)).1 e1).1
   have h3:=strip_le _ _ _ hst
   have h4:=hok i hi k hk
   rw[e2]
   exact⟨by show u.size≤_;omega,Int.natCast_nonneg _⟩
  ·rw[nd_out hi]at hk;cases hk) f (by omega) _ _ _ _ _ _ h1
 have hB:Both E ⟨E.s,vs,E.ok⟩:=⟨rfl,hr,hE.bg,hE.ok,hE.ok,hE.dv⟩
 have hw:=fwd_all hB f root 0 E.d.size 1 vs E.d.size hroot h1 (Nat.le_refl _) 0 ⟨[],[],by simp,rfl⟩
 refine .inr ⟨vs,⟨E.s,vs,E.ok⟩,rfl,.inr ⟨h0,rfl,rfl,hE.ok,f+1,_,by rw[Int.toNat_natCast];exact hw,?_⟩,⟨by omega,fun j hj=>?_⟩,fun j hj=>?_,by omega,hd⟩
 ·unfold encR
  simp only
  rw[if_neg (by omega),if_neg (by rw[ex_size];omega),if_neg (by decide),ByteArray.extract_zero_size]
 ·have:=(hvb _ (vl_in hj)).1;omega
 ·have:=(hvb _ (vl_in hj)).2;omega
end Go.Proofs.YtkkicodfpekbgaaGreatDoor
namespace Go.Proofs.YtkkicodfpekbgaaGreatDoor
open Go.RowKit
set_option linter.unusedSimpArgs false
set_option linter.unusedVariables false
set_option maxRecDepth 100000
set_option maxHeartbeats 8000000
theorem decV_card{E:Env}{d:ByteArray}{vs:List Vl}(h:DecV E cS 0 d (.ok vs)):vs.length≤400000∧∃c:CT,vs=c.tree∧c.Ok:=by
 rcases h with⟨_,q⟩|⟨_,_,q⟩|⟨hr,hd,hs,he,hE,f,_,hv⟩
 ·cases q
 ·cases q
 ·unfold readF at hv
  obtain⟨us,z,h1,h2⟩:=andThen_ok hv
  have h1':rdF E f 0 0 E.d.size 1=some (.ok (us,z)):=h1
  split at h2
  ·cases h2
  ·cases h2
   have hl:=rdF_len0 (E:=E) (by rw[hs];exact hr.1.fine) (by rw[hs];decide) h1'
   rw[he]at hl
   exact⟨by omega,card_shape hs hE ⟨_,_,_,_,_,h1'⟩⟩
def CT.again(c:CT)(pr:Bool):CT:=ctOf (b8 c.vt 0) c.s c.n pr c.ft c.tt c.k (msOf c)
theorem ct_sizes{c:CT}(h:Sz c.tree):CdT c.s c.n c.ft c.tt c.k (msOf c):=by
 have hq:=tree_q c
 have key:∀j,j<c.tree.length→(vl c.tree j).text.size≤140737488355328:=h.txt
 refine⟨key 2 (by omega),key 4 (by omega),key 6 (by omega),key 7 (by omega),key 8 (by omega),fun j hj=>?_⟩
 have hj':j<(qsO c.ms).length:=by unfold msOf at hj;rw[List.length_map]at hj;exact hj
 have e:(msOf c).getD j mk0=qMk ((qsO c.ms).getD j (noB,noB,noB)):=by
  unfold msOf
  rw[List.getD_eq_getElem?_getD,List.getElem?_map,List.getElem?_eq_getElem hj',List.getD_eq_getElem?_getD,List.getElem?_eq_getElem hj']
  rfl
 have k1:=key (10+4*j+1) (by omega)
 have k3:=key (10+4*j+3) (by omega)
 rw[tree_at c j hj' 1 (by decide)]at k1
 rw[tree_at c j hj' 3 (by decide)]at k3
 rw[e]
 exact⟨k1,k3⟩
abbrev cardZ:Value:=cardV 0 ⟨#[]⟩ ⟨#[]⟩ ⟨#[]⟩ ⟨#[]⟩ ⟨#[]⟩ (.slice none 0 0)
def IsF(sn:Sn→Addr)(za:Addr)(k q:Int)(er:Value):Prop:=(k=1∧q=0∧((∃p,er=faultV 0 (fault p za))∨er=fault 0 za))∨(2≤k∧k≤10∧er=fault q (sn (snE k)))
def RetRe(sn:Sn→Addr)(za:Addr)(v:Except (Int×Int) (List Vl))(w:World)(e:Ending)(w':World):Prop:=
 Below w.heap.size w w'∧((∃k q er,v= .error (k,q)∧IsF sn za k q er∧e= .returned (.tuple #[cardZ,er]))∨
  (∃(c:CT) (pr:Bool),v= .ok c.tree∧c.Ok∧Sz c.tree∧(pr=true↔ContentOk 8 c.n)∧
    ((c.tree≠(c.again pr).tree∧e= .returned (.tuple #[cardZ,fault 0 (sn .Card)]))∨
     (c.tree=(c.again pr).tree∧¬CardOk (b8 c.vt 0) c.s c.n c.ft c.tt c.k (msOf c).length∧e= .returned (.tuple #[cardZ,fault 0 (sn .Card)]))∨
     (c.tree=(c.again pr).tree∧CardOk (b8 c.vt 0) c.s c.n c.ft c.tt c.k (msOf c).length∧¬MarksOk (msOf c)∧e= .returned (.tuple #[cardZ,fault 0 (sn .Mark)]))∨
     (c.tree=(c.again pr).tree∧CardOk (b8 c.vt 0) c.s c.n c.ft c.tt c.k (msOf c).length∧MarksOk (msOf c)∧∃ma mc,e= .returned (.tuple #[cardV (b8 c.vt 0) c.s c.n c.ft c.tt c.k (.slice ma (msOf c).length mc),.nilIface])∧w'.ownsRow w.heap.size 73 3 (.slice ma (msOf c).length mc) (msOf c).length (mcells (msOf c))))))
theorem res7{w:World}{g:Nat}(h:w.heap[g]? =some (.cells cdNone 68 (0,0))):w.cell? ⟨g,0,none⟩=some (.int .i64 0)∧w.cell? ⟨g,1,none⟩=some (.string ⟨#[]⟩)∧w.cell? ⟨g,2,none⟩=some (.string ⟨#[]⟩)∧w.cell? ⟨g,3,none⟩=some (.string ⟨#[]⟩)∧w.cell? ⟨g,4,none⟩=some (.string ⟨#[]⟩)∧w.cell? ⟨g,5,none⟩=some (.string ⟨#[]⟩)∧w.cell? ⟨g,6,none⟩=some (.slice none 0 0)∧w.frozen? ⟨g,0,none⟩=false∧w.frozen? ⟨g,1,none⟩=false∧w.frozen? ⟨g,2,none⟩=false∧w.frozen? ⟨g,3,none⟩=false∧w.frozen? ⟨g,4,none⟩=false∧w.frozen? ⟨g,5,none⟩=false∧w.frozen? ⟨g,6,none⟩=false:=⟨by simp[World.cell?,h],by simp[World.cell?,h],by simp[World.cell?,h],by simp[World.cell?,h],by simp[World.cell?,h],by simp[World.cell?,h],by simp[World.cell?,h],by simp[World.frozen?,h],by simp[World.frozen?,h],by simp[World.frozen?,h],by simp[World.frozen?,h],by simp[World.frozen?,h],by simp[World.frozen?,h],by simp[World.frozen?,h]⟩
theorem bel7{W w:World}(h:Below W.heap.size W w)(a b c d e f g:Value):Below W.heap.size W (((((((w.setCell ⟨W.heap.size,0,none⟩ a).setCell ⟨W.heap.size,1,none⟩ b).setCell ⟨W.heap.size,2,none⟩ c).setCell ⟨W.heap.size,3,none⟩ d).setCell ⟨W.heap.size,4,none⟩ e).setCell ⟨W.heap.size,5,none⟩ f).setCell ⟨W.heap.size,6,none⟩ g):=
 ((((((h.setCell (Nat.le_refl _) _).setCell (Nat.le_refl _) _).setCell (Nat.le_refl _) _).setCell (Nat.le_refl _) _).setCell (Nat.le_refl _) _).setCell (Nat.le_refl _) _).setCell (Nat.le_refl _) _
theorem cread_any(E:Env)(d:ByteArray)(v:Except (Int×Int) (List Vl))(w:World)(sn:Sn→Addr)(za:Addr)(hl:Lay w sn)(hz:LayZ w sn za)(hd:d.size≤9223372036854775807)(hv:DecV E cS 0 d v)(hsz:∀vs,v= .ok vs→Sz vs):
 Calls Tryz.prog 58 #[.string d] w fun e w'=>RetRe sn za v w e w':=by
 have HSC:Hid (∀wq,Calls Tryz.prog 86 #[] wq fun e w'=>∃g,e= .returned (.slice (some ⟨g,0,none⟩) 14 14)∧Sch w' (some ⟨g,0,none⟩) cS∧Below wq.heap.size wq w'):=fun wq=>schema_any wq
 have HT:Hid (∀g wq,Below w.heap.size w wq→Sch wq (some ⟨g,0,none⟩) cS→Calls Tryz.prog 47 #[.slice (some ⟨g,0,none⟩) 14 14,.int .i64 0,.string d] wq fun e w'=>RetTr sn za v wq e w'):=fun g wq q hs=>tree_any E cS (some ⟨g,0,none⟩) 14 0 d v wq sn za (hl.below q) (hz.below q) hs cS_ok (by decide) hd hv
 have HTO:Hid (∀(c:CT) (ma:Option Addr) (mc:Nat) wq,Below w.heap.size w wq→Sz c.tree→c.tree.length≤400000→MkIn wq ma (msOf c)→Calls Tryz.prog 87 #[cardV (b8 c.vt 0) c.s c.n c.ft c.tt c.k (.slice ma (msOf c).length mc)] wq fun e w'=>RetTo (b8 c.vt 0) c.s c.n c.ft c.tt c.k (msOf c) wq e w'):=fun c ma mc wq q hz2 hln hin=>treeOf_any _ _ _ _ _ _ _ ma mc wq sn (hl.below q) (by have:=(ct_sizes hz2).n;omega) (b8_bd c.vt 0).1 (b8_bd c.vt 0).2 hin (by have:=tree_q c;unfold msOf;rw[List.length_map];omega)
 have HCK:Hid (∀(c:CT) (ma:Option Addr) (mc:Nat) wq,Below w.heap.size w wq→Sz c.tree→c.tree.length≤400000→MkIn wq ma (msOf c)→(msOf c).length≤mc→Calls Tryz.prog 85 #[cardV (b8 c.vt 0) c.s c.n c.ft c.tt c.k (.slice ma (msOf c).length mc)] wq fun e w'=>RetCk (b8 c.vt 0) c.s c.n c.ft c.tt c.k (msOf c) sn wq e w'):=fun c ma mc wq q hz2 hln hin hcap=>by
  have hT:=ct_sizes hz2
  exact ccheck_any _ _ _ _ _ _ _ ma mc wq sn za (hl.below q) (hz.below q) (by have:=hT.s;omega) (by have:=hT.n;omega) (by have:=hT.f;omega) (by have:=hT.t;omega) (by have:=hT.k;omega) hin hT.ms (by have:=tree_q c;unfold msOf;rw[List.length_map];omega) hcap
 have HL:Hid (Lay w sn):=hl
 have HAT:Hid (∀x wq,Calls Tryz.prog 60 #[.int .i64 0,.iface 291 (.pointer (some (sn x)))] wq fun e w'=>e= .returned (fault 0 (sn x))∧w'=wq):=fun x wq=>at_any 0 _ wq
 have HV:=hidec hv
 have HSZ:=hidec hsz
 unfold RetRe
 clear hl hz hv hsz
 go_enter Tryz.func58,Tryz.ntmps58
 go_wp2_with fail
 have HB0:Hid (Below w.heap.size w (w.alloc (.cells cdNone 68))):=(Below.refl _ _).alloc (Nat.le_refl _) _
 refine(HSC.out _).mono ?_
 rintro e w1 ⟨g,rfl,hs1,hb1⟩
 have HB1:Hid (Below w.heap.size w w1):=below_alloc hb1
 have HR1:Hid (w1.heap[w.heap.size]? =some (.cells cdNone 68 (0,0))):=block_below (heap_alloc_new w _) hb1
 have HT1:=hidec (HT.out g w1 HB1.out hs1)
 clear hs1 hb1 HT HSC
 go_wp2_with fail
 refine HT1.out.mono ?_
 rintro e w2 ⟨hb2,h2⟩
 have HB2:Hid (Below w.heap.size w w2):=HB1.out.trans (hb2.mono HB1.out.size)
 have HR2:Hid (w2.heap[w.heap.size]? =some (.cells cdNone 68 (0,0))):=block_below HR1.out hb2
 have hlw:w.heap.size<w1.heap.size:=row_lt HR1.out
 have h2':(∃k q er,v= .error (k,q)∧IsF sn za k q er∧(∃T u,er= .iface T u)∧e= .returned (.tuple #[.slice none 0 0,er]))∨(∃vs ta tc,v= .ok vs∧e= .returned (.tuple #[.slice ta vs.length tc,.nilIface])∧w2.ownsRow w1.heap.size 60 4 (.slice ta vs.length tc) vs.length (vcells vs)):=by
  rcases h2 with⟨vs,ta,tc,hvv,he,ho⟩|⟨p,hvv,he⟩|⟨hvv,he⟩|⟨k,q,hvv,k1,k2,he⟩
  ·exact .inr ⟨vs,ta,tc,hvv,he,ho⟩
  ·exact .inl ⟨1,0,_,hvv,.inl ⟨rfl,rfl,.inl ⟨p,rfl⟩⟩,⟨_,_,rfl⟩,he⟩
  ·exact .inl ⟨1,0,_,hvv,.inl ⟨rfl,rfl,.inr rfl⟩,⟨_,_,rfl⟩,he⟩
  ·exact .inl ⟨k,q,_,hvv,.inr ⟨k1,k2,rfl⟩,⟨_,_,rfl⟩,he⟩
 clear h2 hb2 HT1
 rcases h2' with⟨k,q,er,hvv,hF,⟨T,u,rfl⟩,rfl⟩|⟨vs,ta,tc,hvv,rfl,ho⟩
 ·have HF:=hidec (And.intro hvv hF)
  obtain⟨z0,z1,z2,z3,z4,z5,z6,y0,y1,y2,y3,y4,y5,y6⟩:=res7 HR2.out
  have hl2:w.heap.size<w2.heap.size:=lt_of_cell z0
  clear hvv hF
  go_wp2_with fail
  refine bodyPost_ret (v:= .tuple #[cardZ,.iface T u]) (by simp[results,Tryz.results58,go_sem,cardV,z0,z1,z2,z3,z4,z5,z6]) rfl ?_
  exact⟨bel7 HB2.out _ _ _ _ _ _ _,.inl ⟨k,q,_,HF.out.1,HF.out.2,rfl⟩⟩
 ·obtain⟨hlen,c,rfl,hok⟩:=decV_card (by rw[←hvv];exact HV.out)
  have hS:=HSZ.out _ hvv
  have HO2:=hidec ho
  have HX:=hidec (And.intro hvv (And.intro hok (And.intro hS hlen)))
  have HCO:=hidec (cardOf_any c hok ta tc w2 (ValIn.of_own ho) (own_capsG ho) (by omega))
  clear hvv hok hS ho
  go_wp2_with fail
  refine HCO.out.mono ?_
  rintro e w3 ⟨hb3,ma,mc,rfl,ho3⟩
  have HB3:Hid (Below w.heap.size w w3):=HB2.out.trans (hb3.mono HB2.out.size)
  have HR3:Hid (w3.heap[w.heap.size]? =some (.cells cdNone 68 (0,0))):=block_below HR2.out hb3
  have HO3:=hidec ho3
  have HV3:Hid (ValIn w3 ta c.tree):=(ValIn.of_own HO2.out).below hb3
  clear hb3 ho3 HCO HSZ
  unfold cardV at HTO HCK
  unfold cardV
  have HBA:Hid (Below w3.heap.size w3 (w3.alloc (.cells #[.int .i64 (b8 c.vt 0),.string c.s,.string c.n,.string c.ft,.string c.tt,.string c.k,.slice ma (msOf c).length mc] 68))):=(Below.refl _ _).alloc (Nat.le_refl _) _
  have HTO3:=hidec (HTO.out c ma mc (w3.alloc (.cells #[.int .i64 (b8 c.vt 0),.string c.s,.string c.n,.string c.ft,.string c.tt,.string c.k,.slice ma (msOf c).length mc] 68)) (HB3.out.trans (HBA.out.mono HB3.out.size)) HX.out.2.2.1 HX.out.2.2.2 ((MkIn.of_own HO3.out).below HBA.out))
  have HCB0:Hid ((w3.alloc (.cells #[.int .i64 (b8 c.vt 0),.string c.s,.string c.n,.string c.ft,.string c.tt,.string c.k,.slice ma (msOf c).length mc] 68)).heap[w3.heap.size]? =some (.cells #[.int .i64 (b8 c.vt 0),.string c.s,.string c.n,.string c.ft,.string c.tt,.string c.k,.slice ma (msOf c).length mc] 68 (0,0))):=heap_alloc_new w3 _
  have HEQ:Hid (∀(pr:Bool) (tb:Option Addr) (td:Nat) wq,ValIn wq ta c.tree→ValIn wq tb (c.again pr).tree→Calls Tryz.prog 89 #[.slice ta c.tree.length tc,.slice tb (c.again pr).tree.length td] wq fun e w'=>RetO (c.tree=(c.again pr).tree) wq e w'):=fun pr tb td wq h1 h2=>equalV_any _ _ ta tb tc td wq h1 h2 (by have:=HX.out.2.2.2;omega) (by
   have h3:=tree_len (v:=b8 c.vt 0) (s:=c.s) (n:=c.n) (f:=c.ft) (t:=c.tt) (k:=c.k) (ms:=msOf c) (pr:=pr)
   have h4:=tree_q c
   have h5:=HX.out.2.2.2
   have h6:(msOf c).length=(qsO c.ms).length:=by unfold msOf;rw[List.length_map]
   have h7:(c.again pr).tree.length≤10+4*(msOf c).length:=h3
   omega)
  go_wp2_with fail
  refine HTO3.out.mono ?_
  rintro e w4 ⟨hb4,pr,tb,td,hpr,rfl,ho4⟩
  have HB34:Hid (Below w3.heap.size w3 w4):=HBA.out.trans (hb4.mono HBA.out.size)
  have HCB4:=hidec (block_below HCB0.out hb4)
  have HPR:=hidec hpr
  have HQ4:=hidec (HEQ.out pr tb td w4 (HV3.out.below HB34.out) (ValIn.of_own ho4))
  have e4:(ctOf (b8 c.vt 0) c.s c.n pr c.ft c.tt c.k (msOf c)).tree=(c.again pr).tree:=rfl
  rw[e4]
  clear hb4 hpr ho4 HTO3 HCB0 HEQ HTO e4 HBA
  go_wp2_with fail
  refine HQ4.out.mono ?_
  rintro e w5 ⟨r,rfl,hr,hb5⟩
  have HB35:Hid (Below w3.heap.size w3 w5):=HB34.out.trans (hb5.mono HB34.out.size)
  have HCB5:=hidec (block_below HCB4.out hb5)
  have HB5:Hid (Below w.heap.size w w5):=HB3.out.trans (HB35.out.mono HB3.out.size)
  have HR5:=hidec (block_below HR3.out HB35.out)
  have HO5:=hidec (own_below HO3.out HB35.out)
  clear hb5 HQ4 HCB4 HB34
  cases r with
  |false=>
   have HNE:Hid (c.tree≠(c.again pr).tree):=fun q=>by cases hr.2 q
   obtain⟨z0,z1,z2,z3,z4,z5,z6,y0,y1,y2,y3,y4,y5,y6⟩:=res7 HR5.out
   have hl5:w.heap.size<w5.heap.size:=lt_of_cell z0
   have cC:=(HL.out.below HB5.out).s.cCard
   have hgl:=lt_of_cell cC
   simp only at hgl
   have HA:=hidec (HAT.out .Card w5)
   unfold fault at HA
   clear hr HCK
   go_wp2_with fail
   refine HA.out.mono ?_
   rintro e w6 ⟨rfl,rfl⟩
   go_wp2_with fail
   refine bodyPost_ret (v:= .tuple #[cardZ,fault 0 (sn .Card)]) (by simp[results,Tryz.results58,go_sem,cardV,fault,z0,z1,z2,z3,z4,z5,z6]) rfl ?_
   exact⟨bel7 HB5.out _ _ _ _ _ _ _,.inr ⟨c,pr,HX.out.1,HX.out.2.1,HX.out.2.2.1,HPR.out,.inl ⟨HNE.out,rfl⟩⟩⟩
  |true=>
   have HEQT:Hid (c.tree=(c.again pr).tree):=hr.1 rfl
   have hCB:=HCB5.out
   have HC5:=hidec (HCK.out c ma mc w5 HB5.out HX.out.2.2.1 HX.out.2.2.2 ((MkIn.of_own HO3.out).below HB35.out) (own_capsG HO3.out))
   have k0:w5.cell? ⟨w3.heap.size,0,none⟩=some (.int .i64 (b8 c.vt 0)):=by simp[World.cell?,hCB]
   have k1:w5.cell? ⟨w3.heap.size,1,none⟩=some (.string c.s):=by simp[World.cell?,hCB]
   have k2:w5.cell? ⟨w3.heap.size,2,none⟩=some (.string c.n):=by simp[World.cell?,hCB]
   have k3:w5.cell? ⟨w3.heap.size,3,none⟩=some (.string c.ft):=by simp[World.cell?,hCB]
   have k4:w5.cell? ⟨w3.heap.size,4,none⟩=some (.string c.tt):=by simp[World.cell?,hCB]
   have k5:w5.cell? ⟨w3.heap.size,5,none⟩=some (.string c.k):=by simp[World.cell?,hCB]
   have k6:w5.cell? ⟨w3.heap.size,6,none⟩=some (.slice ma (msOf c).length mc):=by simp[World.cell?,hCB]
   have hl5:w3.heap.size<w5.heap.size:=lt_of_cell k0
   unfold RetCk at HC5
   clear hr HCK hCB
   go_wp2_with fail
   refine HC5.out.mono ?_
   rintro e w6 ⟨hb6,h6⟩
   have HB6:Hid (Below w.heap.size w w6):=HB5.out.trans (hb6.mono HB5.out.size)
   have hR6:=block_below HR5.out hb6
   have hCB:=block_below HCB5.out hb6
   have HR6:=hidec hR6
   have HO6:=hidec (own_below HO5.out hb6)
   obtain⟨z0,z1,z2,z3,z4,z5,z6,y0,y1,y2,y3,y4,y5,y6⟩:=res7 hR6
   have hl6:w.heap.size<w6.heap.size:=lt_of_cell z0
   clear hb6 HC5 k0 k1 k2 k3 k4 k5 k6 hl5 hR6 HCB5
   have k0:w6.cell? ⟨w3.heap.size,0,none⟩=some (.int .i64 (b8 c.vt 0)):=by simp[World.cell?,hCB]
   have k1:w6.cell? ⟨w3.heap.size,1,none⟩=some (.string c.s):=by simp[World.cell?,hCB]
   have k2:w6.cell? ⟨w3.heap.size,2,none⟩=some (.string c.n):=by simp[World.cell?,hCB]
   have k3:w6.cell? ⟨w3.heap.size,3,none⟩=some (.string c.ft):=by simp[World.cell?,hCB]
   have k4:w6.cell? ⟨w3.heap.size,4,none⟩=some (.string c.tt):=by simp[World.cell?,hCB]
   have k5:w6.cell? ⟨w3.heap.size,5,none⟩=some (.string c.k):=by simp[World.cell?,hCB]
   have k6:w6.cell? ⟨w3.heap.size,6,none⟩=some (.slice ma (msOf c).length mc):=by simp[World.cell?,hCB]
   have hl7:w3.heap.size<w6.heap.size:=lt_of_cell k0
   clear hCB
   rcases h6 with⟨hc,rfl⟩|⟨hc,hm,rfl⟩|⟨hc,hm,rfl⟩
   ·have HN:=hidec hc
    clear hc
    unfold fault
    go_wp2_with fail
    refine bodyPost_ret (v:= .tuple #[cardZ,fault 0 (sn .Card)]) (by simp[results,Tryz.results58,go_sem,cardV,fault,z0,z1,z2,z3,z4,z5,z6]) rfl ?_
    exact⟨bel7 HB6.out _ _ _ _ _ _ _,.inr ⟨c,pr,HX.out.1,HX.out.2.1,HX.out.2.2.1,HPR.out,.inr (.inl ⟨HEQT.out,HN.out,rfl⟩)⟩⟩
   ·have HN:=hidec (And.intro hc hm)
    clear hc hm
    unfold fault
    go_wp2_with fail
    refine bodyPost_ret (v:= .tuple #[cardZ,fault 0 (sn .Mark)]) (by simp[results,Tryz.results58,go_sem,cardV,fault,z0,z1,z2,z3,z4,z5,z6]) rfl ?_
    exact⟨bel7 HB6.out _ _ _ _ _ _ _,.inr ⟨c,pr,HX.out.1,HX.out.2.1,HX.out.2.2.1,HPR.out,.inr (.inr (.inl ⟨HEQT.out,HN.out.1,HN.out.2,rfl⟩))⟩⟩
   ·have HN:=hidec (And.intro hc hm)
    clear hc hm
    go_wp2_with fail
    refine bodyPost_ret (v:= .tuple #[cardV (b8 c.vt 0) c.s c.n c.ft c.tt c.k (.slice ma (msOf c).length mc),.nilIface]) (by simp[results,Tryz.results58,go_sem,cardV,z0,z1,z2,z3,z4,z5,z6]) rfl ?_
    have hne:=row_ne1 HR6.out HO6.out (by decide)
    have ho7:=own_lower HO6.out HB2.out.size
    exact⟨bel7 HB6.out _ _ _ _ _ _ _,.inr ⟨c,pr,HX.out.1,HX.out.2.1,HX.out.2.2.1,HPR.out,.inr (.inr (.inr ⟨HEQT.out,HN.out.1,HN.out.2,ma,mc,rfl,ownsRow_setCell_other (ownsRow_setCell_other (ownsRow_setCell_other (ownsRow_setCell_other (ownsRow_setCell_other (ownsRow_setCell_other (ownsRow_setCell_other ho7 hne _) hne _) hne _) hne _) hne _) hne _) hne _⟩))⟩⟩
theorem segA(t:List Vl):seg t 0 (0+t.length)=t:=by unfold seg;simp
theorem read_back{s:List Nd}{t:List Vl}{ok:Int→ByteArray→Bool}{f:Nat}{b:ByteArray}(hr:RightP s)(hok:∀k t,ok k t=true↔ContentOk k t)(hw:wrF ⟨s,t,ok⟩ f 0 0 1=some (some (b,t.length,false)))(hb:b.size≤4000):∃E,DecV E s 0 b (.ok t):=by
 have hs1:0<s.length:=by have:=hr.1;omega
 have hroot:RightP s∧(0:Int)≤0∧(0:Int)<s.length:=⟨hr,by decide,by omega⟩
 have hread:∀(K:Nat),K=168041→∀(E:Env),E.s=s→E.d=b→EnvOk E→rdF E K 0 0 b.size 1=some (.ok (t,b.size)):=fun K hK E h1 h2 h3=>by
  have hB:Both E ⟨s,t,ok⟩:=⟨h1,hr,fun i hi=>by subst h1;exact h3.bg i hi,h3.ok,hok,h3.dv⟩
  have hA:=again_all hB f 0 0 1 b _ hs1 hw (by omega) 0 b.size (by rw[h2];exact At.all b) (by omega) (by rw[h2];exact Nat.le_refl _)
  rw[show seg (WEnv.t ⟨s,t,ok⟩) 0 t.length=t from by have:=segA t;rwa[Nat.zero_add]at this,Nat.zero_add]at hA
  obtain⟨o,ho'⟩:=rdF_some (E:=E) (by rw[h1];exact hr.fine) K 0 0 b.size 1 [] (by rw[h1];exact hs1) (Way.nil _ _) (by simp only[List.length_nil];omega)
  have g1:=rdF_add K f _ _ _ _ _ hA
  have g2:=rdF_add f K _ _ _ _ _ ho'
  rw[Nat.add_comm]at g2
  rw[g1]at g2
  injection g2 with g2
  rw[ho',←g2]
 obtain⟨E,h1,h2,h3⟩:=env_ex s b hr
 refine⟨E,.inr (.inr ⟨hroot,hb,h1,h2,h3,168041,by decide,?_⟩)⟩
 unfold readF
 rw[h2]
 show Out.andThen (rdF E 168041 0 0 b.size 1) _=_
 rw[hread 168041 rfl E h1 h2 h3]
 unfold Out.andThen
 simp only
 rw[if_neg (by omega)]
theorem encV_one{s:List Nd}{root:Int}{t:List Vl}{F1 F2:WEnv}{v1 v2:Except Int ByteArray}(h1:EncV F1 s root t v1)(h2:EncV F2 s root t v2):v1=v2:=by
 rcases h1 with⟨n1,rfl⟩|⟨y1,a1,b1,c1,f1,r1,w1,rfl⟩ <;>rcases h2 with⟨n2,rfl⟩|⟨y2,a2,b2,c2,f2,r2,w2,rfl⟩
 ·rfl
 ·exact absurd y2 n1
 ·exact absurd y1 n2
 ·obtain⟨s1,t1,k1⟩:=F1
  obtain⟨s2,t2,k2⟩:=F2
  simp only at a1 b1 c1 a2 b2 c2
  subst a1 b1 a2 b2
  have hk:k1=k2:=by
   funext k u
   rw[Bool.eq_iff_iff,c1,c2]
  subst hk
  have g1:=wrF_add f1 f2 _ _ _ _ w1
  have g2:=wrF_add f2 f1 _ _ _ _ w2
  rw[Nat.add_comm,g1]at g2
  injection g2 with g2
  rw[g2]
theorem card_back{v:Int}{s n f t k:ByteArray}{ms:List Mks}{pr:Bool}(hc:CardOk v s n f t k ms.length)(hm:MarksOk ms)(hp:pr=true↔ContentOk 8 n)(hb:(ctOf v s n pr f t k ms).bytes.size≤4000):∃E,DecV E cS 0 (ctOf v s n pr f t k ms).bytes (.ok (ctOf v s n pr f t k ms).tree):=by
 have hk:∃ok:Int→ByteArray→Bool,∀k t,ok k t=true↔ContentOk k t:=
  ⟨fun k t=> @decide (ContentOk k t) (Classical.propDecidable _),fun k t=>by simp⟩
 obtain⟨ok,hok⟩:=hk
 have hw:=card_wr (F:=⟨cS,(ctOf v s n pr f t k ms).tree,ok⟩) rfl hok rfl (ct_ok hc hm hp) (f:=ms.length) (fun qs e=>by
  have e':msO ms=some qs:=e
  unfold msO at e'
  split at e'
  ·cases e'
  ·cases e';rw[List.length_map];exact Nat.le_refl _)
 exact read_back cS_right.1 hok hw hb
theorem card_other{v:Int}{s n f t k:ByteArray}{ms:List Mks}{pr:Bool}(hc:CardOk v s n f t k ms.length)(hm:MarksOk ms)(hp:pr=true↔ContentOk 8 n)(hb:(ctOf v s n pr f t k ms).bytes.size≤4000){E:Env}{d:ByteArray}(hd:DecV E cS 0 d (.ok (ctOf v s n pr f t k ms).tree)):d=(ctOf v s n pr f t k ms).bytes:=by
 obtain⟨E',v',hv',h⟩:=uniq_math cS_right.1 cS_ok 0 (by decide) d
 have e:=decV_one hd hv'
 subst e
 rcases h with⟨_,_,q,_⟩|⟨vs,F,q,hF,_⟩
 ·cases q
 ·cases q
  obtain⟨F2,h2⟩:=card_enc hc hm hp
  rw[if_neg (by omega)]at h2
  have:=encV_one hF h2
  injection this
theorem elB_pos(c:Int)(b:Bool)(n:Int)(s:ByteArray):1≤(elB c b n s).size:=by
 have:=elB_sz c b n s
 have h0:0≤cnt s.size:=by unfold cnt;repeat' split
                          all_goals omega
 omega
theorem card_pos(c:CT):1≤c.bytes.size:=elB_pos _ _ _ _
theorem ok_ex:∃ok:Int→ByteArray→Bool,∀k t,ok k t=true↔ContentOk k t:=
 ⟨fun k t=> @decide (ContentOk k t) (Classical.propDecidable _),fun k t=>by simp⟩
theorem lim_two{bt:ByteArray}(hb:ContentOk 1 bt)(hz:bt.size=1):LimOk (elB 0 true 16 (noB++mstB bt)):=by
 obtain⟨ok,hok⟩:=ok_ex
 have hw:wrF ⟨lS,[⟨10,noB,0,2⟩,⟨1,bt,0,0⟩,⟨15,noB,0,0⟩],ok⟩ (1+1) 0 0 1=some (some (elB 0 true 16 (noB++mstB bt),3,false)):=by
  refine wr_seq (kids:=[⟨1,false,fdB⟩,⟨2,true,noB⟩]) rfl (show 0<3 by decide) rfl (by decide) ?_
  rw[ws_dflt rfl (by decide) (by decide) (wr_leaf (n:=⟨1, -1,0,[]⟩) hok (i:=1) rfl (by decide) (by decide) (show 1<3 by decide) rfl (by decide) hb)]
  rw[wseqF,if_pos ⟨rfl,show 2<3 by decide,rfl⟩,if_pos ⟨rfl,rfl,rfl⟩,wseqF]
  rfl
 have h1:=elB_size 0 true 16 (noB++mstB bt)
 have h2:(mstB bt).size≤6:=by
  unfold mstB
  split
  ·decide
  ·have:=elB_size 0 false 1 bt;omega
 rw[ByteArray.size_append]at h1
 have h3:noB.size=0:=rfl
 obtain⟨E,hE⟩:=read_back lS_right.1 hok hw (by omega)
 exact⟨E,_,hE⟩
theorem ws_opt{F:WEnv}{rec:WRec}{dp:Int}{k:Kd}{ks:List Kd}{x:Nat}{out:ByteArray}{u:Bool}(hk:(vl F.t x).kind≠15)(hd:k.dflt.size=0)(hdp:dp+1≤12){b:ByteArray}{x':Nat}{u':Bool}(h:rec k.node.toNat x (dp+1)=some (some (b,x',u'))):wseqF F rec dp (k::ks) x out u=wseqF F rec dp ks x' (out++b) (u||u'):=by
 rw[wseqF,if_neg (fun q=>hk q.2.2),if_pos hd,h]
 show(if _ then _ else if _ then _ else _)=_
 rw[if_neg (fun q=>q.1 hd),if_neg (by omega)]
theorem lim_three:LimOk ⟨#[48,6,1,1,255,2,1,3]⟩:=by
 obtain⟨ok,hok⟩:=ok_ex
 have hb:ContentOk 1 ⟨#[255]⟩:=(contentOk_1 _).1 ⟨rfl,.inr rfl⟩
 have hi:ContentOk 2 ⟨#[3]⟩:=(contentOk_2 _).1 ⟨Nat.le_refl _,by decide,fun h=>absurd h (by decide)⟩
 have hw:wrF ⟨lS,[⟨10,noB,0,2⟩,⟨1,⟨#[255]⟩,0,0⟩,⟨2,⟨#[3]⟩,0,0⟩],ok⟩ (1+1) 0 0 1=some (some (elB 0 true 16 (noB++mstB ⟨#[255]⟩++elB 0 false 2 ⟨#[3]⟩),3,false)):=by
  refine wr_seq (kids:=[⟨1,false,fdB⟩,⟨2,true,noB⟩]) rfl (show 0<3 by decide) rfl (by decide) ?_
  rw[ws_dflt rfl (by decide) (by decide) (wr_leaf (n:=⟨1, -1,0,[]⟩) hok (i:=1) rfl (by decide) (by decide) (show 1<3 by decide) rfl (by decide) hb)]
  refine Eq.trans (ws_opt (by intro q;revert q;show¬(2:Int)=15;decide) rfl (by decide) (wr_leaf (n:=⟨2, -1,0,[]⟩) hok (i:=2) rfl (by decide) (by decide) (show 2<3 by decide) rfl (by decide) hi)) ?_
  rw[wseqF]
  rfl
 have e:elB 0 true 16 (noB++mstB ⟨#[255]⟩++elB 0 false 2 ⟨#[3]⟩)=⟨#[48,6,1,1,255,2,1,3]⟩:=by decide
 rw[e]at hw
 obtain⟨E,hE⟩:=read_back lS_right.1 hok hw (by decide)
 exact⟨E,_,hE⟩
theorem lim_one:LimOk ⟨#[48,0]⟩:=by
 have h:=lim_two (bt:=⟨#[0]⟩) ((contentOk_1 _).1 ⟨rfl,.inl rfl⟩) rfl
 rwa[show elB 0 true 16 (noB++mstB ⟨#[0]⟩)=⟨#[48,0]⟩by decide]at h
theorem lim_yes:LimOk ⟨#[48,3,1,1,255]⟩:=by
 have h:=lim_two (bt:=⟨#[255]⟩) ((contentOk_1 _).1 ⟨rfl,.inr rfl⟩) rfl
 rwa[show elB 0 true 16 (noB++mstB ⟨#[255]⟩)=⟨#[48,3,1,1,255]⟩by decide]at h
theorem use_ok:UseOk ⟨#[3,2,1,6]⟩:=⟨⟨#[1,6]⟩,(elem_iff (fun q=>rfl) (.inl rfl)).2 ⟨rfl,(contentOk_5 _).1 ⟨by decide,by decide,fun h=>absurd h (by decide),fun _=>by decide⟩⟩⟩
theorem getD_put(ms:List Mks)(m:Mks)(j:Nat)(hj:j<(ms++[m]).length):(j<ms.length∧(ms++[m]).getD j mk0=ms.getD j mk0)∨(j=ms.length∧(ms++[m]).getD j mk0=m):=by
 rw[List.length_append]at hj
 by_cases h:j<ms.length
 ·exact .inl ⟨h,by rw[List.getD_eq_getElem?_getD,List.getElem?_append_left h,←List.getD_eq_getElem?_getD]⟩
 ·have e:j=ms.length:=by simp at hj;omega
  subst e
  exact .inr ⟨rfl,by rw[List.getD_eq_getElem?_getD,List.getElem?_append_right (Nat.le_refl _)];simp⟩
theorem marks_put{ms:List Mks}{m:Mks}(h:MarksOk ms)(hm:MarkOk m)(hd:∀i,i<ms.length→(ms.getD i mk0).kind≠m.kind):MarksOk (ms++[m]):=fun i hi=>by
 rcases getD_put ms m i hi with⟨h1,e⟩|⟨h1,e⟩
 ·rw[e]
  refine⟨(h i h1).1,fun j hj=>?_⟩
  rcases getD_put ms m j (by omega)with⟨_,e2⟩|⟨h2,_⟩
  ·rw[e2];exact(h i h1).2 j hj
  ·omega
 ·rw[e]
  refine⟨hm,fun j hj=>?_⟩
  rcases getD_put ms m j (by omega)with⟨h2,e2⟩|⟨h2,_⟩
  ·rw[e2];exact hd j h2
  ·omega
def SzM(N:Nat)(ms:List Mks):Prop:=∀j,j<ms.length→(ms.getD j mk0).kind.size≤3∧(ms.getD j mk0).body.size≤N
theorem szM_put{N:Nat}{ms:List Mks}{m:Mks}(h:SzM N ms)(h1:m.kind.size≤3)(h2:m.body.size≤N):SzM N (ms++[m]):=fun i hi=>by
 rcases getD_put ms m i hi with⟨q,e⟩|⟨q,e⟩
 ·rw[e];exact h i q
 ·rw[e];exact⟨h1,h2⟩
abbrev starK(j:Nat):ByteArray:=⟨#[42]⟩++⟨#[UInt8.ofNat j]⟩
structure K0(N:Nat)(ms:List Mks):Prop where
 ok:MarksOk ms
 sz:SzM N ms
 le:ms.length≤4
 star:∀i,i<ms.length→(ms.getD i mk0).kind=starK i
structure K1(N:Nat)(ms:List Mks):Prop where
 ok:MarksOk ms
 sz:SzM N ms
 le:ms.length≤5
 no:∀i,i<ms.length→(ms.getD i mk0).kind≠limK
structure K2(N:Nat)(ms:List Mks):Prop where
 ok:MarksOk ms
 sz:SzM N ms
 le:ms.length≤6
theorem star_fin:∀j:Fin 5,starK j.val≠limK∧starK j.val≠useK∧(starK j.val).size≤3∧(∀i:Fin 5,i≠j→starK i.val≠starK j.val):=by decide+kernel
theorem star_oid(j:Nat)(hj:j<5):ContentOk 4 (starK j):=by
 match j,hj with
 |0,_=>exact(contentOk_4 _).1 (by unfold OidOk oidTo btw;decide)
 |1,_=>exact(contentOk_4 _).1 (by unfold OidOk oidTo btw;decide)
 |2,_=>exact(contentOk_4 _).1 (by unfold OidOk oidTo btw;decide)
 |3,_=>exact(contentOk_4 _).1 (by unfold OidOk oidTo btw;decide)
 |4,_=>exact(contentOk_4 _).1 (by unfold OidOk oidTo btw;decide)
theorem K0.nil(N:Nat):K0 N []:=⟨fun i hi=>absurd hi (Nat.not_lt_zero _),fun i hi=>absurd hi (Nat.not_lt_zero _),Nat.zero_le _,fun i hi=>absurd hi (Nat.not_lt_zero _)⟩
theorem K0.put{N:Nat}{ms:List Mks}(h:K0 N ms){j:Nat}(hj:ms.length=j)(hj4:j<4){b:ByteArray}(hb:b.size≤N):K0 N (ms++[⟨starK j,false,b⟩]):=by
 have hs:=star_fin ⟨j,by omega⟩
 refine⟨marks_put h.ok (.inr (.inr ⟨hs.1,hs.2.1,star_oid j (by omega),rfl⟩)) fun i hi=>?_,szM_put h.sz hs.2.2.1 hb,by simp;omega,fun i hi=>?_⟩
 ·rw[h.star i hi]
  exact hs.2.2.2 ⟨i,by omega⟩ (by intro q;injection q;omega)
 ·rcases getD_put ms ⟨starK j,false,b⟩ i hi with⟨q,e⟩|⟨q,e⟩
  ·rw[e];exact h.star i q
  ·rw[e,q,hj]
theorem K0.one{N:Nat}{ms:List Mks}(h:K0 N ms):K1 N ms:=⟨h.ok,h.sz,by have:=h.le;omega,fun i hi=>by rw[h.star i hi];exact(star_fin ⟨i,by have:=h.le;omega⟩).1⟩
theorem K0.use{N:Nat}(hN:4≤N){ms:List Mks}(h:K0 N ms)(b:Bool):K1 N (ms++[⟨useK,b,⟨#[3,2,1,6]⟩⟩]):=by
 refine⟨marks_put h.ok (.inr (.inl ⟨rfl,use_ok⟩)) fun i hi=>?_,szM_put h.sz (show useK.size≤3 by decide) (Nat.le_trans (show(⟨#[3,2,1,6]⟩:ByteArray).size≤4 by decide) hN),by have:=h.le;simp;omega,fun i hi=>?_⟩
 ·rw[h.star i hi];exact(star_fin ⟨i,by have:=h.le;omega⟩).2.1
 ·rcases getD_put ms ⟨useK,b,⟨#[3,2,1,6]⟩⟩ i hi with⟨q,e⟩|⟨q,e⟩
  ·rw[e];exact h.one.no i q
  ·rw[e];show useK≠limK;decide
theorem K1.two{N:Nat}{ms:List Mks}(h:K1 N ms):K2 N ms:=⟨h.ok,h.sz,by have:=h.le;omega⟩
theorem K1.lim{N:Nat}(hN:8≤N){ms:List Mks}(h:K1 N ms)(b:Bool){x:ByteArray}(hx:LimOk x)(hz:x.size≤8):K2 N (ms++[⟨limK,b,x⟩]):=
 ⟨marks_put h.ok (.inl ⟨rfl,hx⟩) h.no,szM_put h.sz (show limK.size≤3 by decide) (Nat.le_trans hz hN),by have:=h.le;simp;omega⟩
def sumB(ms:List Mks):Nat:=(ms.map fun m=>m.body.size).sum
theorem quadB_size(m:Mks)(hk:m.kind.size≤3):(quadB (quadM m)).size≤m.body.size+24:=by
 show(elB 0 true 16 (elB 0 false 6 m.kind++mstB (bT m.must)++elB 0 false 4 m.body)).size≤_
 have h1:=elB_size 0 true 16 (elB 0 false 6 m.kind++mstB (bT m.must)++elB 0 false 4 m.body)
 have h2:=elB_size 0 false 6 m.kind
 have h3:(mstB (bT m.must)).size≤6:=by
  unfold mstB
  split
  ·decide
  ·have:=elB_size 0 false 1 (bT m.must);rw[bT_size]at this;omega
 have h4:=elB_size 0 false 4 m.body
 rw[ByteArray.size_append,ByteArray.size_append]at h1
 omega
theorem quads_size:∀(ms:List Mks) (a:ByteArray),(∀m∈ms,m.kind.size≤3)→((ms.map quadM).foldl (fun a q=>a++quadB q) a).size≤a.size+sumB ms+24*ms.length
 | [],a,_=>by simp[sumB]
 |m::ms,a,h=>by
  have h1:=quads_size ms (a++quadB (quadM m)) (fun x hx=>h x (List.mem_cons_of_mem _ hx))
  have h2:=quadB_size m (h m (List.mem_cons_self))
  rw[ByteArray.size_append]at h1
  simp only[List.map_cons,List.foldl_cons,List.length_cons]
  have e:sumB (m::ms)=m.body.size+sumB ms:=by unfold sumB;simp
  omega
theorem card_long{v:Int}{s n f t k:ByteArray}{ms:List Mks}{pr:Bool}{N:Nat}(h:SzM N ms)(hs:s.size≤20)(hn:n.size≤64)(hf:f.size≤15)(ht:t.size≤15)(hk:k.size≤20)(hb:4000<(ctOf v s n pr f t k ms).bytes.size):3000<sumB ms+30*ms.length:=by
 have hkk:∀m∈ms,m.kind.size≤3:=fun m hm=>by
  obtain⟨j,hj,e⟩:=getD_mem hm
  rw[←e];exact(h j hj).1
 unfold CT.bytes CT.inner ctOf at hb
 simp only at hb
 generalize hvt:(⟨#[UInt8.ofNat v.toNat]⟩:ByteArray)=vt at hb
 have hvz:vt.size=1:=by rw[←hvt];rfl
 generalize(if pr=true then(19:Int)else 12)=nk at hb
 have h0:=elB_size 0 true 16 (verB vt++elB 0 false 2 s++elB 0 false nk n++elB 0 true 16 (elB 0 false 24 f++elB 0 false 24 t)++elB 0 false 3 k++msB (msO ms))
 have h1:(verB vt).size≤11:=by
  unfold verB
  split
  ·decide
  ·have q1:=elB_size 2 true 0 (elB 0 false 2 vt);have q2:=elB_size 0 false 2 vt;omega
 have h2:=elB_size 0 false 2 s
 have h3:=elB_size 0 false nk n
 have h4:=elB_size 0 true 16 (elB 0 false 24 f++elB 0 false 24 t)
 have h5:=elB_size 0 false 24 f
 have h6:=elB_size 0 false 24 t
 have h7:=elB_size 0 false 3 k
 have h8:(msB (msO ms)).size≤10+sumB ms+24*ms.length:=by
  unfold msO
  split
  ·show noB.size≤_;exact Nat.le_trans (Nat.zero_le _) (Nat.zero_le _)
  ·show(elB 2 true 3 (elB 0 true 16 (quadsB (ms.map quadM)))).size≤_
   have q1:=elB_size 2 true 3 (elB 0 true 16 (quadsB (ms.map quadM)))
   have q2:=elB_size 0 true 16 (quadsB (ms.map quadM))
   have q3:=quads_size ms noB hkk
   have q4:noB.size=0:=rfl
   unfold quadsB at q1 q2 ⊢
   omega
 rw[ByteArray.size_append]at h4
 simp only[ByteArray.size_append]at h0
 omega
theorem sum_take(ms:List Mks)(j:Nat)(hj:j<ms.length):sumB (ms.take (j+1))=sumB (ms.take j)+(ms.getD j mk0).body.size:=by
 unfold sumB
 rw[List.take_add_one,List.map_append,List.sum_append,List.getElem?_eq_getElem hj,List.getD_eq_getElem?_getD,List.getElem?_eq_getElem hj]
 simp
theorem sum_le{N:Nat}{ms:List Mks}(h:SzM N ms):∀j,j≤ms.length→sumB (ms.take j)≤N*j
 |0,_=>by simp[sumB]
 |j+1,hj=>by
  rw[sum_take ms j (by omega)]
  have:=sum_le h j (by omega)
  have:=(h j (by omega)).2
  rw[Nat.mul_succ]
  omega
theorem chr_cases(t:ByteArray)(a:Nat)(h:chr t a≠0):(chr t a=1∧b8 t a<128)∨(chr t a=2∧194≤b8 t a∧b8 t a<224∧goB t (a+1) (loB (b8 t a)) (hiB (b8 t a))=true)∨
 (chr t a=3∧224≤b8 t a∧b8 t a<240∧goB t (a+1) (loB (b8 t a)) (hiB (b8 t a))=true∧goB t (a+2) 128 191=true)∨
 (chr t a=4∧240≤b8 t a∧b8 t a<245∧goB t (a+1) (loB (b8 t a)) (hiB (b8 t a))=true∧goB t (a+2) 128 191=true∧goB t (a+3) 128 191=true):=by
 unfold chr at h ⊢
 by_cases h1:b8 t a<128
 ·rw[if_pos h1];exact .inl ⟨rfl,h1⟩
 rw[if_neg h1]at h ⊢
 by_cases h2:194≤b8 t a∧b8 t a<224∧goB t (a+1) (loB (b8 t a)) (hiB (b8 t a))=true
 ·rw[if_pos h2];exact .inr (.inl ⟨rfl,h2⟩)
 rw[if_neg h2]at h ⊢
 by_cases h3:224≤b8 t a∧b8 t a<240∧goB t (a+1) (loB (b8 t a)) (hiB (b8 t a))=true∧goB t (a+2) 128 191=true
 ·rw[if_pos h3];exact .inr (.inr (.inl ⟨rfl,h3⟩))
 rw[if_neg h3]at h ⊢
 by_cases h4:240≤b8 t a∧b8 t a<245∧goB t (a+1) (loB (b8 t a)) (hiB (b8 t a))=true∧goB t (a+2) 128 191=true∧goB t (a+3) 128 191=true
 ·rw[if_pos h4];exact .inr (.inr (.inr ⟨rfl,h4⟩))
 rw[if_neg h4]at h
 exact absurd rfl h
theorem chr_same{t q:ByteArray}{a c:Nat}(h:chr t a≠0)(hb:∀i,i<chr t a→b8 q (c+i)=b8 t (a+i))(hz:c+chr t a≤q.size):chr q c=chr t a:=by
 have g:∀i lo hi,i<chr t a→goB t (a+i) lo hi=true→goB q (c+i) lo hi=true:=fun i lo hi hi' e=>by
  unfold goB at e ⊢
  have e:=of_decide_eq_true e
  rw[hb i hi']
  exact decide_eq_true ⟨by omega,e.2⟩
 have e0:b8 q c=b8 t a:=hb 0 (by omega)
 rcases chr_cases t a h with⟨e,h1⟩|⟨e,h1,h2,h3⟩|⟨e,h1,h2,h3,h4⟩|⟨e,h1,h2,h3,h4,h5⟩
 ·rw[e];unfold chr;rw[e0,if_pos h1]
 ·have g1:=g 1 _ _ (by omega) h3
  rw[e];unfold chr;rw[e0,if_neg (by omega),if_pos ⟨h1,h2,g1⟩]
 ·have g1:=g 1 _ _ (by omega) h3
  have g2:=g 2 _ _ (by omega) h4
  rw[e];unfold chr;rw[e0,if_neg (by omega),if_neg (by omega),if_pos ⟨h1,h2,g1,g2⟩]
 ·have g1:=g 1 _ _ (by omega) h3
  have g2:=g 2 _ _ (by omega) h4
  have g3:=g 3 _ _ (by omega) h5
  rw[e];unfold chr;rw[e0,if_neg (by omega),if_neg (by omega),if_neg (by omega),if_pos ⟨h1,h2,g1,g2,g3⟩]
def cont(x:Int):Prop:=128≤x∧x<192
def want(x:Int):Nat:=if 240≤x then 3 else if 224≤x then 2 else if 192≤x then 1 else 0
theorem chr_in{t:ByteArray}{a:Nat}(h:chr t a≠0):(∀i,1≤i→i<chr t a→cont (b8 t (a+i)))∧¬cont (b8 t a)∧want (b8 t a)+1=chr t a:=by
 have g:∀i lo hi,goB t (a+i) lo hi=true→128≤lo→hi≤191→cont (b8 t (a+i)):=fun i lo hi e h1 h2=>by
  unfold goB at e
  have e:=of_decide_eq_true e
  exact⟨by omega,by omega⟩
 have gl:∀x:Int,128≤loB x∧hiB x≤191:=fun x=>by unfold loB hiB;constructor<;> (repeat' split) <;>omega
 unfold want
 rcases chr_cases t a h with⟨e,h1⟩|⟨e,h1,h2,h3⟩|⟨e,h1,h2,h3,h4⟩|⟨e,h1,h2,h3,h4,h5⟩
 ·rw[e]
  exact⟨fun i _ _=>by omega,fun q=>by have:=q.1;omega,by repeat' split
                                                         all_goals omega⟩
 ·rw[e]
  refine⟨fun i q1 q2=>?_,fun q=>by have:=q.2;omega,by repeat' split
                                                      all_goals omega⟩
  obtain rfl:i=1:=by omega
  exact g 1 _ _ h3 (gl _).1 (gl _).2
 ·rw[e]
  refine⟨fun i q1 q2=>?_,fun q=>by have:=q.2;omega,by repeat' split
                                                      all_goals omega⟩
  rcases(show i=1∨i=2 by omega)with rfl|rfl
  ·exact g 1 _ _ h3 (gl _).1 (gl _).2
  ·exact g 2 _ _ h4 (by omega) (by omega)
 ·rw[e]
  refine⟨fun i q1 q2=>?_,fun q=>by have:=q.2;omega,by repeat' split
                                                      all_goals omega⟩
  rcases(show i=1∨i=2∨i=3 by omega)with rfl|rfl|rfl
  ·exact g 1 _ _ h3 (gl _).1 (gl _).2
  ·exact g 2 _ _ h4 (by omega) (by omega)
  ·exact g 3 _ _ h5 (by omega) (by omega)
theorem utf_cut(t:ByteArray)(L:Nat)(hL:L≤t.size):∀(n k:Nat),k≤L→uTo t n k→uTo (t.extract 0 L) n k∨∃j,j<L∧chr t j≠0∧L<j+chr t j
 |0,k,hk,h=> .inl (by have h':t.size≤k:=h;show(t.extract 0 L).size≤k;rw[ByteArray.size_extract];omega)
 |n+1,k,hk,h=>by
  have hz:(t.extract 0 L).size=L:=by rw[ByteArray.size_extract];omega
  by_cases hkL:k=L
  ·exact .inl (.inl (by rw[hz];omega))
  rcases h with h|⟨h1,h2⟩
  ·omega
  by_cases hc:L<k+chr t k
  ·exact .inr ⟨k,by omega,h1,hc⟩
  ·have e:chr (t.extract 0 L) k=chr t k:=chr_same h1 (fun i hi=>by rw[b8_ex t 0 L (k+i) (by omega) hL,Nat.zero_add]) (by omega)
   rcases utf_cut t L hL n _ (by omega) h2 with q|q
   ·exact .inl (.inr ⟨by rw[e];exact h1,by rw[e];exact q⟩)
   ·exact .inr q
theorem uTo_shift(x:UInt8)(t:ByteArray):∀(n k:Nat),uTo t n k→uTo ((⟨#[x]⟩:ByteArray)++t) n (k+1)
 |0,k,h=>by show _≤k+1;rw[app_size];have h':t.size≤k:=h;omega
 |n+1,k,h=>by
  rcases h with h|⟨h1,h2⟩
  ·exact .inl (by rw[app_size];omega)
  ·have hk:k<t.size∨t.size≤k:=by omega
   rcases hk with hk|hk
   ·have hle:=chr_le t k hk
    have e:chr ((⟨#[x]⟩:ByteArray)++t) (k+1)=chr t k:=chr_same h1 (fun i hi=>by
     unfold b8
     rw[show((⟨#[x]⟩:ByteArray)++t).data.toList=x::t.data.toList by simp[ByteArray.data_append]]
     rw[show k+1+i=(k+i)+1 by omega,List.getD_cons_succ]) (by rw[app_size];omega)
    exact .inr ⟨by rw[e];exact h1,by rw[e,show k+1+chr t k=k+chr t k+1 by omega];exact uTo_shift x t n _ h2⟩
   ·exact .inl (by rw[app_size];omega)
def Whole(p:ByteArray):Prop:=∃m,m≤p.size∧(∀i,i<m→cont (b8 p (p.size-1-i)))∧(m=p.size→m=0)∧(m<p.size→¬cont (b8 p (p.size-1-m))∧m=want (b8 p (p.size-1-m)))
theorem whole_ok{t:ByteArray}(h:Utf8Ok t){L:Nat}(hL:L≤t.size)(hw:Whole (t.extract 0 L)):Utf8Ok (t.extract 0 L):=by
 obtain⟨n,hn⟩:=h
 have hz:(t.extract 0 L).size=L:=by rw[ByteArray.size_extract];omega
 rcases utf_cut t L hL n 0 (Nat.zero_le _) hn with q|⟨j,hj,hc,hlt⟩
 ·exact⟨n,q⟩
 ·exfalso
  obtain⟨m,hm,h1,h2,h3⟩:=hw
  rw[hz]at hm h1 h2 h3
  have hb:∀i,i<L→b8 (t.extract 0 L) i=b8 t i:=fun i hi=>by rw[b8_ex t 0 L i (by omega) hL,Nat.zero_add]
  obtain⟨c1,c2,c3⟩:=chr_in hc
  have hmj:¬L-1-j<m:=fun q=>c2 (by have:=h1 (L-1-j) q;rwa[show L-1-(L-1-j)=j by omega,hb j hj]at this)
  have hmL:m<L:=by
   rcases Nat.lt_or_ge m L with q|q
   ·exact q
   ·have:=h2 (by omega);omega
  obtain⟨h4,h5⟩:=h3 hmL
  by_cases hq:m=L-1-j
  ·subst hq
   rw[show L-1-(L-1-j)=j by omega,hb j hj]at h5
   omega
  ·apply h4
   rw[hb _ (by omega),show L-1-m=j+(L-1-m-j)by omega]
   exact c1 _ (by omega) (by omega)
def cutB(s:ByteArray)(n:Nat):ByteArray:=if n<s.size then s.extract 0 n else s
def nameB(n:ByteArray):ByteArray:=cutB n 0++⟨#[110]⟩++cutB n 60
theorem ext_app(x:UInt8)(s:ByteArray)(L:Nat):((⟨#[x]⟩:ByteArray)++s).extract 0 (L+1)=(⟨#[x]⟩:ByteArray)++s.extract 0 L:=by
 apply ByteArray.ext
 apply Array.toList_inj.1
 simp[ByteArray.data_append,ByteArray.data_extract]
theorem nameB_eq(n:ByteArray):∃L,L≤60∧L≤n.size∧nameB n=((⟨#[110]⟩:ByteArray)++n).extract 0 (L+1):=by
 have h0:cutB n 0=⟨#[]⟩:=by
  unfold cutB
  split
  ·rw[ByteArray.extract_same];rfl
  ·apply ByteArray.ext
   apply Array.toList_inj.1
   have:n.size=0:=by omega
   have e:n.data.toList.length=0:=by simpa using this
   rw[List.length_eq_zero_iff.1 e]
 have hx:(⟨#[]⟩:ByteArray)++⟨#[110]⟩=⟨#[110]⟩:=rfl
 unfold nameB
 rw[h0,hx]
 unfold cutB
 split
 ·exact⟨60,by omega,by omega,(ext_app _ _ _).symm⟩
 ·refine⟨n.size,by omega,Nat.le_refl _,?_⟩
  rw[ext_app,ByteArray.extract_zero_size]
theorem nameB_size(n:ByteArray):1≤(nameB n).size∧(nameB n).size≤61:=by
 obtain⟨L,h1,h2,e⟩:=nameB_eq n
 rw[e,ByteArray.size_extract,app_size]
 omega
theorem name_ok{n:ByteArray}(h:Utf8Ok n)(hw:Whole (nameB n)):NameOk (nameB n):=by
 obtain⟨h1,h2⟩:=nameB_size n
 refine⟨h1,by omega,?_⟩
 obtain⟨L,h1,h2,e⟩:=nameB_eq n
 rw[e]at hw ⊢
 obtain⟨m,hm⟩:=h
 have hn:Utf8Ok ((⟨#[110]⟩:ByteArray)++n):=by
  refine⟨m+1,.inr ?_⟩
  have hc:chr ((⟨#[110]⟩:ByteArray)++n) 0=1:=chr_1 _ _ (by rw[b8_app0];decide)
  rw[hc]
  exact⟨by decide,uTo_shift 110 n m 0 hm⟩
 exact whole_ok hn (by rw[app_size];omega) hw
theorem pr_low:∀x:Fin 256,pr x.val=true→x.val<128:=by decide+kernel
theorem pr_utf{t:ByteArray}(h:PrOk t):Utf8Ok t:=by
 have g:∀n k,t.size≤k+n→uTo t n k:=fun n=>by
  induction n with
  |zero=>intro k hk;exact hk
  |succ n ih=>
   intro k hk
   by_cases hkt:k<t.size
   ·have hb:=b8_bd t k
    have hl:=pr_low ⟨(b8 t k).toNat,by omega⟩ (h k hkt)
    have hc:chr t k=1:=chr_1 _ _ (by simp only at hl;omega)
    exact .inr ⟨by rw[hc];decide,by rw[hc];exact ih _ (by omega)⟩
   ·exact .inl (by omega)
 exact⟨t.size,g _ _ (by omega)⟩
abbrev tFrom:ByteArray:=⟨#[49,57,57,57,48,49,48,49,48,48,48,48,48,48,90]⟩
abbrev tTill:ByteArray:=⟨#[50,48,50,52,48,50,50,57,50,51,53,57,53,57,90]⟩
abbrev cdCells(v:Int)(s n k:ByteArray)(mv:Value):Array Value:=#[.int .i64 v,.string s,.string n,.string tFrom,.string tTill,.string k,mv]
abbrev cdZero:Array Value:=#[.int .i64 0,.string ⟨#[]⟩,.string ⟨#[]⟩,.string ⟨#[]⟩,.string ⟨#[]⟩,.string ⟨#[]⟩,.slice none 0 0]
def Tryz.zeroMark:Value:= .agg #[.string ⟨#[]⟩,.bool false,.string ⟨#[]⟩]
theorem Tryz.infoMark:(Tryz.prog.info? 73).map (fun i=>(i.zero,i.size,i.bytes))=some (some Tryz.zeroMark,3,40):=by kernel_rfl
structure CI(W wr:World)(M C:Nat)(na ta:Option Addr)(nl nc tl tc:Nat)(v:Int)(s n k:ByteArray)(mv:Value)(ms:List Mks):Prop where
 mak:MkI W wr M na ta nl nc tl tc (.slice none 0 0) (.slice none 0 0)
 box:wr.heap[C]? =some (.cells (cdCells v s n k mv) 68 (0,0))
 own:wr.ownsRow W.heap.size 73 3 mv ms.length (mcells ms)
 res:wr.heap[W.heap.size+1]? =some (.cells cdZero 68 (0,0))
 lo:W.heap.size+1<C
 ne:C≠M
 nr:W.heap.size+1<M
theorem own_keep{w w':World}{base:Nat}{e:TypeId}{size:Nat}{v:Value}{n:Nat}{xs:List Value}(h:w.ownsRow base e size v n xs)(hk:∀(j:Nat) (A:Array Value),w.heap[j]? =some (Obj.cells A e (0,0))→w'.heap[j]? =w.heap[j]?):w'.ownsRow base e size v n xs:=by
 obtain⟨h1,h2⟩:=h
 refine⟨h1,?_⟩
 rcases h2 with h2|⟨g,cap,cur,q1,q2,q3,q4⟩
 ·exact .inl h2
 ·exact .inr ⟨g,cap,cur,q1,q2,by rw[hk g cur q3];exact q3,q4⟩
theorem CI.below{W wr w':World}{M C:Nat}{na ta:Option Addr}{nl nc tl tc:Nat}{v:Int}{s n k:ByteArray}{mv:Value}{ms:List Mks}(h:CI W wr M C na ta nl nc tl tc v s n k mv ms)(hb:Below wr.heap.size wr w'):CI W w' M C na ta nl nc tl tc v s n k mv ms:=
 ⟨h.mak.below hb,block_below h.box hb,own_below h.own hb,block_below h.res hb,h.lo,h.ne,h.nr⟩
theorem CI.frm{W wr w':World}{M C:Nat}{na ta:Option Addr}{nl nc tl tc:Nat}{v:Int}{s n k:ByteArray}{mv:Value}{ms:List Mks}(h:CI W wr M C na ta nl nc tl tc v s n k mv ms)(hm:MkI W w' M na ta nl nc tl tc (.slice none 0 0) (.slice none 0 0))(hf:FrM M wr w'):CI W w' M C na ta nl nc tl tc v s n k mv ms:=by
 obtain⟨_,_,n0,t0,_,_,hM⟩:=h.mak
 refine⟨hm,by rw[hf.2 C h.ne (row_lt h.box)];exact h.box,own_keep h.own fun j A hj=>hf.2 j ?_ (row_lt hj),by rw[hf.2 _ (by have:=h.nr;omega) (row_lt h.res)];exact h.res,h.lo,h.ne,h.nr⟩
 rintro rfl
 rw[hM]at hj
 injection hj with hj
 injection hj with _ e _
 revert e
 decide
theorem CI.loC{W wr:World}{M C:Nat}{na ta:Option Addr}{nl nc tl tc:Nat}{v:Int}{s n k:ByteArray}{mv:Value}{ms:List Mks}(h:CI W wr M C na ta nl nc tl tc v s n k mv ms):W.heap.size≤C:=by have:=h.lo;omega
theorem CI.set{W wr:World}{M C:Nat}{na ta:Option Addr}{nl nc tl tc:Nat}{v:Int}{s n k:ByteArray}{mv:Value}{ms:List Mks}(h:CI W wr M C na ta nl nc tl tc v s n k mv ms)(n':ByteArray):CI W (wr.setCell ⟨C,2,none⟩ (.string n')) M C na ta nl nc tl tc v s n' k mv ms where
 mak:=by
  obtain⟨h1,h2,n0,t0,h3,h4,hM⟩:=h.mak
  exact⟨h1.setCell (h.loC) _,h2,n0,t0,h3,h4,by rw[heap_setCell_other _ _ _ _ (fun q=>h.ne q.symm)];exact hM⟩
 box:=heap_setCell_same wr _ 2 _ _ _ h.box
 own:=ownsRow_setCell_other h.own (row_ne1 h.box h.own (by decide)) _
 res:=by rw[heap_setCell_other _ _ _ _ (Nat.ne_of_lt h.lo)];exact h.res
 lo:=h.lo
 ne:=h.ne
 nr:=h.nr
theorem CI.put{W wr w':World}{M C:Nat}{na ta:Option Addr}{nl nc tl tc:Nat}{v:Int}{s n k:ByteArray}{mv:Value}{ms:List Mks}{g cap:Nat}(h:CI W wr M C na ta nl nc tl tc v s n k mv ms)(m:Mks)
 (h1:w'.ownsRow W.heap.size 73 3 (.slice (some ⟨g,0,none⟩) (ms.length+1) cap) (ms.length+1) (mcells ms++[.string m.kind,.bool m.must,.string m.body]))(h2:wr.grownBy w' mv.ownBlock):
 CI W (w'.setCell ⟨C,6,none⟩ (.slice (some ⟨g,0,none⟩) (ms.length+1) cap)) M C na ta nl nc tl tc v s n k (.slice (some ⟨g,0,none⟩) (ms.length+1) cap) (ms++[m])∧w'.cell? ⟨C,6,none⟩=some mv∧w'.frozen? ⟨C,6,none⟩=false:=by
 have hC:w'.heap[C]? =some (.cells (cdCells v s n k mv) 68 (0,0)):=by rw[h2.block C (row_lt h.box) (fun q=>row_ne1 h.box h.own (by decide) q.symm)];exact h.box
 have hR:w'.heap[W.heap.size+1]? =some (.cells cdZero 68 (0,0)):=by rw[h2.block _ (row_lt h.res) (fun q=>row_ne1 h.res h.own (by decide) q.symm)];exact h.res
 refine⟨⟨?_,heap_setCell_same w' _ 6 _ _ _ hC,?_,by rw[heap_setCell_other _ _ _ _ (Nat.ne_of_lt h.lo)];exact hR,h.lo,h.ne,h.nr⟩,by simp[World.cell?,hC],by simp[World.frozen?,hC]⟩
 ·obtain⟨b1,b2,n0,t0,h3,h4,hM⟩:=h.mak
  refine⟨(b1.grown h2 b1.size (fun k hk=>(h.own.lt k hk).1)).setCell (h.loC) _,b2,n0,t0,h3,h4,?_⟩
  rw[heap_setCell_other _ _ _ _ (fun q=>h.ne q.symm),h2.block M (row_lt hM) (fun q=>row_ne1 hM h.own (by decide) q.symm)]
  exact hM
 ·rw[mcells_append,List.length_append]
  exact ownsRow_setCell_other h1 (row_ne1 hC h1 (by decide)) _
theorem CI.c6{W wr:World}{M C:Nat}{na ta:Option Addr}{nl nc tl tc:Nat}{v:Int}{s n k:ByteArray}{mv:Value}{ms:List Mks}(h:CI W wr M C na ta nl nc tl tc v s n k mv ms):wr.cell? ⟨C,6,none⟩=some mv:=by simp[World.cell?,h.box]
def PlanN(N:Nat)(w:World)(ta:Option Addr)(tl:Nat):Prop:=∀i,i<tl→∀b o s,ta=some ⟨b,o,none⟩→w.cell? ⟨b,o+i,none⟩=some (.string s)→s.size≤N
abbrev nName:ByteArray:=⟨#[110]⟩
theorem time_from:TimeOk tFrom:=by
 refine⟨by decide,by decide,?_,?_,by decide,by decide,by decide⟩
 ·unfold DigTo;decide
 ·unfold DayOk;decide
theorem time_till:TimeOk tTill:=by
 refine⟨by decide,by decide,?_,?_,by decide,by decide,by decide⟩
 ·unfold DigTo;decide
 ·unfold DayOk;decide
theorem name_n:NameOk nName:=by
 refine⟨by decide,by decide,?_⟩
 rw[utf8_valid]
 decide
theorem PlanIn.below{w w':World}{na ta:Option Addr}{nl tl:Nat}(h:PlanIn w na ta nl tl)(hb:Below w.heap.size w w'):PlanIn w' na ta nl tl where
 num:=fun i hi=>by
  obtain⟨b,o,z,e,q,z0,z1⟩:=h.num i hi
  exact⟨b,o,z,e,(hb.cell (lt_of_cell q)).trans q,z0,z1⟩
 txt:=fun i hi=>by
  obtain⟨b,o,z,e,q,z1⟩:=h.txt i hi
  exact⟨b,o,z,e,(hb.cell (lt_of_cell q)).trans q,z1⟩
 nle:=h.nle
 tle:=h.tle
theorem text_le(N:Nat)(W w:World)(M:Nat)(na ta:Option Addr)(nl nc tl tc:Nat)(vs vl:Value)(h:MkI W w M na ta nl nc tl tc vs vl)(hp:PlanIn W na ta nl tl)(hN:PlanN N W ta tl):
 Calls Tryz.prog 56 #[.pointer (some ⟨M,0,none⟩)] w fun e w'=>RetX N (fun w'=>MkI W w' M na ta nl nc tl tc vs vl∧FrM M w w') e w':=by
 obtain⟨hb,hlo,k,t,hk,ht,hM⟩:=h
 have hml:M<w.heap.size:=row_lt hM
 have c1:w.cell? ⟨M,1,none⟩=some (.slice ta tl tc):=by simp[World.cell?,hM]
 have c3:w.cell? ⟨M,3,none⟩=some (.int .i64 t):=by simp[World.cell?,hM]
 have f3:w.frozen? ⟨M,3,none⟩=false:=by simp[World.frozen?,hM]
 have htl:=hp.tle
 unfold maxLen at htl
 have HB:Hid (Below W.heap.size W w):=hb
 have HM:Hid (w.heap[M]? =some (.cells #[.slice na nl nc,.slice ta tl tc,.int .i64 k,.int .i64 t,vs,vl] 97 (0,0))):=hM
 by_cases hlt:t<tl
 ·obtain⟨b,o,z,rfl,hc,_⟩:=hp.txt t hlt
  have zs:=hN t hlt b o z rfl hc
  have hbl:b<W.heap.size:=lt_of_cell hc
  have hbw:b<w.heap.size:=Nat.lt_of_lt_of_le hbl hb.size
  have hbm:b≠M:=by omega
  have cz:w.cell? ⟨b,o+t,none⟩=some (.string z):=(hb.cell (p:=⟨b,o+t,none⟩) hbl).trans hc
  have hlt':(t:Int)<tl:=by omega
  clear hb hM hc hp hN
  go_enter Tryz.func56,Tryz.ntmps56
  go_wp2_with fail
  go_quiet (fail)
  go_wp2_with fail
  generalize hw1:(w.drewN nq).setCell ⟨M,3,none⟩ (.int .i64 (t+1))=w1
  have HW1:Hid ((w.drewN nq).setCell ⟨M,3,none⟩ (.int .i64 (t+1))=w1):=hw1
  have d1:w1.cell? ⟨M,1,none⟩=some (.slice (some ⟨b,o,none⟩) tl tc):=by rw[←hw1];simp[go_sem,c1]
  have d3:w1.cell? ⟨M,3,none⟩=some (.int .i64 (t+1)):=by rw[←hw1];simp[go_sem,c3]
  have dz:w1.cell? ⟨b,o+t,none⟩=some (.string z):=by rw[←hw1];simp[go_sem,cz,hbm]
  have hs1:w.heap.size=w1.heap.size:=by rw[←hw1];simp
  have hbw1:b<w1.heap.size:=by omega
  have hml1:M<w1.heap.size:=by omega
  clear hw1 c1 c3 f3 cz hbw hml
  go_quiet (fail)
  go_wp2
  go_ret
  obtain rfl:=HW1.out
  refine⟨z,rfl,zs,⟨Go.below_drewN ((Go.below_drewN HB.out _).setCell hlo _) _,hlo,k,t+1,hk,by omega,?_⟩,by simp,fun j hj _=>heap_setCell_other _ _ _ _ hj⟩
  exact heap_setCell_same _ _ _ _ _ _ HM.out
 ·have hlt':(tl:Int)≤t:=by omega
  clear hb hM hp hN
  go_enter Tryz.func56,Tryz.ntmps56
  go_wp2_with fail
  go_quiet (fail)
  go_wp2
  go_ret
  exact⟨⟨#[]⟩,rfl,Nat.zero_le _,⟨Go.below_drewN HB.out _,hlo,k,t,hk,ht,HM.out⟩,FrM.refl _ _⟩
theorem cut_eq(s:ByteArray)(n:Nat)(w:World)(hs:s.size≤9223372036854775807)(hn:n≤1000000):
 Calls Tryz.prog 55 #[.string s,.int .i64 n] w fun e w'=>e= .returned (.string (cutB s n))∧w'=w:=by
 by_cases h:n<s.size
 ·have h':(n:Int)<s.size:=by omega
  go_enter Tryz.func55,Tryz.ntmps55
  go_wp2
  go_ret
  exact⟨by unfold cutB;rw[if_pos h];rfl,rfl⟩
 ·have h':¬(n:Int)<s.size:=by omega
  go_enter Tryz.func55,Tryz.ntmps55
  go_wp2
  go_ret
  exact⟨by unfold cutB;rw[if_neg h];rfl,rfl⟩
def RetC(s:ByteArray)(n:Nat)(w:World)(e:Ending)(w':World):Prop:=∃x:ByteArray,e= .returned (.string x)∧x.size≤n∧Hid (x=cutB s n)∧w'=w
theorem cut_ret(s:ByteArray)(n:Nat)(w:World)(hs:s.size≤9223372036854775807)(hn:n≤1000000):Calls Tryz.prog 55 #[.string s,.int .i64 n] w fun e w'=>RetC s n w e w':=
 (cut_eq s n w hs hn).mono fun e w' ⟨he,hw⟩=>⟨_,he,by unfold cutB;split;(rw[ByteArray.size_extract];omega);omega,rfl,hw⟩
def RetM(N:Nat)(w:World)(e:Ending)(w':World):Prop:=
 ∃(v:Int) (s n k:ByteArray) (ma:Option Addr) (ms:List Mks) (mc:Nat),e= .returned (cardV v s (nameB n) tFrom tTill k (.slice ma ms.length mc))∧0≤v∧v≤2∧IntOk s∧BitsOk k∧s.size≤20∧k.size≤20∧Utf8Ok n∧K2 N ms∧(v≠2→ms=[])∧w'.ownsRow w.heap.size 73 3 (.slice ma ms.length mc) ms.length (mcells ms)∧Below w.heap.size w w'
end Go.Proofs.YtkkicodfpekbgaaGreatDoor
