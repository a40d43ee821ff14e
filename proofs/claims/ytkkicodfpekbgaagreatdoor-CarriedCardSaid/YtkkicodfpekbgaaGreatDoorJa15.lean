/-
Several texts in one.
-/
import Derived.Test.YtkkicodfpekbgaaGreatDoorJa14
import Derived.Deep.RegionHeldLaw
import Derived.Test.YtkkicodfpekbgaaGreatDoorJa6
import Derived.Test.YtkkicodfpekbgaaGreatDoorJa4
namespace Go.Proofs.YtkkicodfpekbgaaGreatDoor
open Go.RowKit
set_option linter.unusedSimpArgs false
set_option linter.unusedVariables false
set_option maxRecDepth 100000
set_option maxHeartbeats 8000000
def AfterLO(E:WEnv)(W:World)(R:Nat)(a:Option Addr)(c:Nat)(ta:Option Addr)(tc:Nat)(k:Kd)(x:Nat)(t1:ByteArray)(l1:Bool)(ov:Value)(w:World)(e:Ending)(w':World):Prop:=
 FrE R w w'∧((LO E k x∧e= .returned (.bool true)∧EwD W w' R a E.s.length c ta E.t.length tc (x+1) t1 l1 ov)∨(¬LO E k x∧e= .returned (.bool false)∧EwD W w' R a E.s.length c ta E.t.length tc x t1 l1 ov))
theorem leftOut_any(E:WEnv)(W:World)(R:Nat)(a:Option Addr)(c:Nat)(ta:Option Addr)(tc:Nat)(sn:Sn→Addr)(hc:EC E W a ta sn)(htc:E.t.length≤tc)(i:Nat)(hi:i<E.s.length)(k:Kd)(hk:k∈(nd E.s i).kids)(x:Nat)(t1:ByteArray)(l1:Bool)(ov:Value)(w:World)(hx:x≤E.t.length)(hI:EwD W w R a E.s.length c ta E.t.length tc x t1 l1 ov):
 Calls Tryz.prog 183 #[.pointer (some ⟨R,0,none⟩),.agg #[.int .i64 k.node,.bool k.opt,.string k.dflt]] w fun e w'=>AfterLO E W R a c ta tc k x t1 l1 ov w e w':=by
 have HC:=hide hc
 have HI:=hide hI
 have hlen:=hc.len
 have hwn:=hc.wc.right.fine.within i hi k hk
 obtain⟨j,hj,hjk⟩:=kidOf hk
 have hKid:=(hc.wc.right.2.2.1 i hi).2.2.2 j hj
 have hDf:=(hc.wc.right.2.2.2.2 i hi).2 j hj
 rw[hjk]at hKid hDf
 obtain⟨t,ht⟩:∃t:Nat,k.node=t:=⟨k.node.toNat,by omega⟩
 have htn:k.node.toNat=t:=by omega
 have htl:t<E.s.length:=by omega
 rw[htn]at hDf
 have hod:=hKid.2.2.2
 have hyz:=hc.wc.sok i hi k hk
 have HLO:Hid (LO E k x↔x<E.t.length∧((k.opt=true∧vl E.t x=⟨15,noB,0,0⟩)∨(k.dflt.size≠0∧∃u,ElemOk (nd E.s t) k.dflt u∧vl E.t x=⟨(nd E.s t).kind,u,0,0⟩))):=by
  unfold LO
  rw[htn]
  exact Iff.rfl
 obtain⟨tv,hown,_⟩:=hI.own
 unfold ewObj at hown
 have c1:w.cell? ⟨R,1,none⟩=some (.slice ta E.t.length tc):=by simp[World.cell?,hown]
 have hRl:R<w.heap.size:=lt_of_cell c1
 rw[ht]
 have hB1:Below w.heap.size w (w.alloc (.cells #[.int .i64 t,.bool k.opt,.string k.dflt] 55)):=(Below.refl _ _).alloc (Nat.le_refl _) _
 have hG1:(w.alloc (.cells #[.int .i64 t,.bool k.opt,.string k.dflt] 55)).heap[w.heap.size]? =some (.cells #[.int .i64 t,.bool k.opt,.string k.dflt] 55 (0,0)):=heap_alloc_new w _
 clear hI hown hc hwn hj hjk hKid hk c1 htn ht
 go_enter Tryz.func183,Tryz.ntmps183
 go_upto_region 1 with fail
 obtain⟨kb,hkb⟩:∃kb,w.heap.size=kb:=⟨_,rfl⟩
 rw[hkb]at hG1 ⊢
 generalize w.alloc (.cells #[.int .i64 t,.bool k.opt,.string k.dflt] 55)=w1 at hB1 hG1 ⊢
 have hneK:kb≠R:=by omega
 have HB1:=hide hB1
 have HG1:=hide hG1
 have HI1:=hide (HI.out.below hB1)
 obtain⟨tv,hown,_⟩:=HI1.out.own
 unfold ewObj at hown
 have d1:w1.cell? ⟨R,1,none⟩=some (.slice ta E.t.length tc):=by simp[World.cell?,hown]
 have d2:w1.cell? ⟨R,2,none⟩=some (.int .i64 (x:Int)):=by simp[World.cell?,hown]
 have hR1:R<w1.heap.size:=lt_of_cell d1
 have hxb:x<E.t.length∨x=E.t.length:=by omega
 clear hB1 hG1 hown
 rcases hxb with hx3|hx3
 ·have hx3':(x:Int)<(E.t.length:Int):=by omega
  have hxb:((x:Int)==(E.t.length:Int))=false:=by simp;omega
  have hxb2:decide ((x:Int)=(E.t.length:Int))=false:=decide_eq_false (by omega)
  go_quiet (fail)
  have HI2:=hide (HI1.out.below (Go.below_drewN (Below.refl w1.heap.size w1) nq))
  have HG2:=hide (block_below HG1.out (Go.below_drewN (Below.refl w1.heap.size w1) nq))
  have HB2:Hid (Below w.heap.size w (w1.drewN nq)):=Go.below_drewN HB1.out nq
  generalize w1.drewN nq=w2 at HI2 HG2 HB2 ⊢
  clear d1 d2 hR1
  obtain⟨g,o,hta,p0,p1,p2,p3⟩:=HC.out.wc.tree x hx3
  have hbW:=HI2.out.bel
  have m0:w2.cell? ⟨g,o+x*4,none⟩=some (.int .i64 (vl E.t x).kind):=(hbW.cell (lt_of_cell p0)).trans p0
  have m1:w2.cell? ⟨g,o+x*4+1,none⟩=some (.string (vl E.t x).text):=(hbW.cell (lt_of_cell p1)).trans p1
  have m2:w2.cell? ⟨g,o+x*4+2,none⟩=some (.int .i64 (vl E.t x).alt):=(hbW.cell (lt_of_cell p2)).trans p2
  have m3:w2.cell? ⟨g,o+x*4+3,none⟩=some (.int .i64 (vl E.t x).kids):=(hbW.cell (lt_of_cell p3)).trans p3
  have hlG:=lt_of_cell m0
  simp only at hlG
  obtain⟨tv,hown,_⟩:=HI2.out.own
  unfold ewObj at hown
  have d1:w2.cell? ⟨R,1,none⟩=some (.slice (some ⟨g,o,none⟩) E.t.length tc):=by rw[←hta];simp[World.cell?,hown]
  have d2:w2.cell? ⟨R,2,none⟩=some (.int .i64 (x:Int)):=by simp[World.cell?,hown]
  have hR2:R<w2.heap.size:=lt_of_cell d1
  obtain⟨v,hv⟩:∃v,vl E.t x=v:=⟨_,rfl⟩
  have HV:=hide hv
  rw[hv]at m0 m1 m2 m3
  have hx0:0≤(x:Int):=by omega
  clear hown hbW p0 p1 p2 p3 hv hta
  go_wp2_with fail
  have HST:Hid (∀wq,Below w2.heap.size w2 wq→wq.cell? ⟨R,1,none⟩=some (.slice (some ⟨g,o,none⟩) E.t.length tc)∧wq.cell? ⟨R,2,none⟩=some (.int .i64 (x:Int))∧wq.cell? ⟨g,o+x*4,none⟩=some (.int .i64 v.kind)∧wq.cell? ⟨g,o+x*4+1,none⟩=some (.string v.text)∧wq.cell? ⟨g,o+x*4+2,none⟩=some (.int .i64 v.alt)∧wq.cell? ⟨g,o+x*4+3,none⟩=some (.int .i64 v.kids)):=fun wq q=>
   ⟨(q.cell (lt_of_cell d1)).trans d1,(q.cell (lt_of_cell d2)).trans d2,(q.cell (lt_of_cell m0)).trans m0,(q.cell (lt_of_cell m1)).trans m1,(q.cell (lt_of_cell m2)).trans m2,(q.cell (lt_of_cell m3)).trans m3⟩
  go_region_held_law (fun w'=>w'.cell? ⟨R,1,none⟩=some (.slice (some ⟨g,o,none⟩) E.t.length tc)∧w'.cell? ⟨R,2,none⟩=some (.int .i64 (x:Int))∧w'.cell? ⟨g,o+x*4,none⟩=some (.int .i64 v.kind)∧w'.cell? ⟨g,o+x*4+1,none⟩=some (.string v.text)∧w'.cell? ⟨g,o+x*4+2,none⟩=some (.int .i64 v.alt)∧w'.cell? ⟨g,o+x*4+3,none⟩=some (.int .i64 v.kids)) (first|exact HST.out _ (Below.refl _ _).drew |exact HST.out _ ((Below.refl _ _).drew.alloc (by simp) _)|go_keep) (fail)
  rename_i hHeld
  clear hHeld
  have hB3:Below w2.heap.size w2 (w2.alloc (.cells #[.int .i64 v.kind,.string v.text,.int .i64 v.alt,.int .i64 v.kids] 60)).drew:=((Below.refl _ _).alloc (Nat.le_refl _) _).drew
  have hG3:(w2.alloc (.cells #[.int .i64 v.kind,.string v.text,.int .i64 v.alt,.int .i64 v.kids] 60)).drew.heap[w2.heap.size]? =some (.cells #[.int .i64 v.kind,.string v.text,.int .i64 v.alt,.int .i64 v.kids] 60 (0,0)):=heap_alloc_new w2 _
  obtain⟨vb,hvb⟩:∃vb,w2.heap.size=vb:=⟨_,rfl⟩
  rw[hvb]at hG3 ⊢
  generalize(w2.alloc (.cells #[.int .i64 v.kind,.string v.text,.int .i64 v.alt,.int .i64 v.kids] 60)).drew=w3 at hB3 hG3 ⊢
  have HI3:=hide (HI2.out.below hB3)
  have HW3:Hid (Below w.heap.size w w3):=HB2.out.trans (hB3.mono HB2.out.size)
  have hk3:=block_below HG2.out hB3
  have e1:w3.cell? ⟨kb,0,none⟩=some (.int .i64 t):=cell_of_row hk3 rfl
  have e2:w3.cell? ⟨kb,1,none⟩=some (.bool k.opt):=cell_of_row hk3 rfl
  have e3:w3.cell? ⟨kb,2,none⟩=some (.string k.dflt):=cell_of_row hk3 rfl
  have v0:w3.cell? ⟨vb,0,none⟩=some (.int .i64 v.kind):=cell_of_row hG3 rfl
  have v1:w3.cell? ⟨vb,1,none⟩=some (.string v.text):=cell_of_row hG3 rfl
  have v2:w3.cell? ⟨vb,2,none⟩=some (.int .i64 v.alt):=cell_of_row hG3 rfl
  have v3:w3.cell? ⟨vb,3,none⟩=some (.int .i64 v.kids):=cell_of_row hG3 rfl
  obtain⟨tv3,hown3,_⟩:=HI3.out.own
  unfold ewObj at hown3
  have e0:w3.cell? ⟨R,0,none⟩=some (.slice a E.s.length c):=by simp[World.cell?,hown3]
  have hl0:=lt_of_cell e0
  have hl1:=row_lt hk3
  have hl2:=row_lt hG3
  simp only at hl0
  have hwx:IntKind.i64.wrap ((x:Int)+1)=(x:Int)+1:=by rw[IntKind.wrap_i64];omega
  clear hB3 hG3 hvb hk3 hown3 d1 d2 m0 m1 m2 m3 hlG hR2 HST HI2 HG2 HB2
  go_wp2_with fail
  by_cases hopt:k.opt=true
  ·have hd0:k.dflt.size=0:=by
    apply Classical.byContradiction
    intro q
    exact hod ⟨hopt,q⟩
   rw[hopt]at e2
   have hem:=emp_t hd0
   have HNO:Hid (vl E.t x≠⟨15,noB,0,0⟩→¬LO E k x):=fun q z=>by
    rcases(HLO.out.1 z).2 with h|h
    ·exact q h.2
    ·exact h.1 hd0
   clear hd0
   by_cases q1:v.kind=15
   ·rw[q1]at v0
    by_cases q2:v.text.size=0
    ·rw[noB_of q2]at v1
     unfold noB at v1
     by_cases q3:v.alt=0
     ·rw[q3]at v2
      by_cases q4:v.kids=0
      ·rw[q4]at v3
       have hvv:v=⟨15,noB,0,0⟩:=by
        obtain⟨va,vb2,vc,vd⟩:=v
        simp only at q1 q2 q3 q4
        rw[q1,noB_of q2,q3,q4]
       have HVV:=hide hvv
       clear hvv q1 q2 q3 q4
       have HWHY:Hid (LO E k x):=HLO.out.2 ⟨hx3,.inl ⟨hopt,HV.out.trans HVV.out⟩⟩
       go_quiet (fail)
       clear e0 e1 e2 e3 v0 v1 v2 v3
       have HI4:=hide (HI3.out.below (Go.below_drewN (Below.refl _ _) nq))
       have HW4:Hid (Below w.heap.size w (w3.drewN nq)):=Go.below_drewN HW3.out nq
       generalize w3.drewN nq=w4 at HI4 HW4 ⊢
       obtain⟨tv4,hown4,_⟩:=HI4.out.own
       unfold ewObj at hown4
       have n2:w4.cell? ⟨R,2,none⟩=some (.int .i64 (x:Int)):=by simp[World.cell?,hown4]
       have f2:w4.frozen? ⟨R,2,none⟩=false:=by simp[World.frozen?,hown4]
       have hR4:R<w4.heap.size:=lt_of_cell n2
       clear hown4
       go_wp2
       go_ret
       exact⟨(FrE.of_below HW4.out).trans (FrE.set 2 _),.inl ⟨HWHY.out,rfl,HI4.out.setNext (x+1)⟩⟩
      ·have q4b:(v.kids==0)=false:=by simpa using q4
       have Q4:=hide q4
       clear q1 q2 q3 q4
       have HWHY:Hid (¬LO E k x):=HNO.out (fun z=>Q4.out (by rw[←HV.out,z]))
       go_quiet (fail)
       clear e0 e1 e2 e3 v0 v1 v2 v3
       have HI4:=hide (HI3.out.below (Go.below_drewN (Below.refl _ _) nq))
       have HW4:Hid (Below w.heap.size w (w3.drewN nq)):=Go.below_drewN HW3.out nq
       generalize w3.drewN nq=w4 at HI4 HW4 ⊢
       go_wp2
       go_ret
       exact⟨FrE.of_below HW4.out,.inr ⟨HWHY.out,rfl,HI4.out⟩⟩
     ·have q3b:(v.alt==0)=false:=by simpa using q3
      have Q3:=hide q3
      clear q1 q2 q3
      have HWHY:Hid (¬LO E k x):=HNO.out (fun z=>Q3.out (by rw[←HV.out,z]))
      go_quiet (fail)
      clear e0 e1 e2 e3 v0 v1 v2 v3
      have HI4:=hide (HI3.out.below (Go.below_drewN (Below.refl _ _) nq))
      have HW4:Hid (Below w.heap.size w (w3.drewN nq)):=Go.below_drewN HW3.out nq
      generalize w3.drewN nq=w4 at HI4 HW4 ⊢
      go_wp2
      go_ret
      exact⟨FrE.of_below HW4.out,.inr ⟨HWHY.out,rfl,HI4.out⟩⟩
    ·have q2b:=emp_f (t:=v.text) (by omega)
     have Q2:=hide q2
     clear q1 q2
     have HWHY:Hid (¬LO E k x):=HNO.out (fun z=>Q2.out (by rw[←HV.out,z];rfl))
     go_quiet (fail)
     clear e0 e1 e2 e3 v0 v1 v2 v3
     have HI4:=hide (HI3.out.below (Go.below_drewN (Below.refl _ _) nq))
     have HW4:Hid (Below w.heap.size w (w3.drewN nq)):=Go.below_drewN HW3.out nq
     generalize w3.drewN nq=w4 at HI4 HW4 ⊢
     go_wp2
     go_ret
     exact⟨FrE.of_below HW4.out,.inr ⟨HWHY.out,rfl,HI4.out⟩⟩
   ·have q1b:(v.kind==15)=false:=by simpa using q1
    have Q1:=hide q1
    clear q1
    have HWHY:Hid (¬LO E k x):=HNO.out (fun z=>Q1.out (by rw[←HV.out,z]))
    go_quiet (fail)
    clear e0 e1 e2 e3 v0 v1 v2 v3
    have HI4:=hide (HI3.out.below (Go.below_drewN (Below.refl _ _) nq))
    have HW4:Hid (Below w.heap.size w (w3.drewN nq)):=Go.below_drewN HW3.out nq
    generalize w3.drewN nq=w4 at HI4 HW4 ⊢
    go_wp2
    go_ret
    exact⟨FrE.of_below HW4.out,.inr ⟨HWHY.out,rfl,HI4.out⟩⟩
  ·have hopt':k.opt=false:=by simpa using hopt
   rw[hopt']at e2
   by_cases hd:k.dflt.size=0
   ·have hem:=emp_t hd
    have HWHY:Hid (¬LO E k x):=(fun z=>by rcases(HLO.out.1 z).2 with h|h;exact hopt h.1;exact h.1 hd)
    go_quiet (fail)
    clear e0 e1 e2 e3 v0 v1 v2 v3
    have HI4:=hide (HI3.out.below (Go.below_drewN (Below.refl _ _) nq))
    have HW4:Hid (Below w.heap.size w (w3.drewN nq)):=Go.below_drewN HW3.out nq
    generalize w3.drewN nq=w4 at HI4 HW4 ⊢
    go_wp2
    go_ret
    exact⟨FrE.of_below HW4.out,.inr ⟨HWHY.out,rfl,HI4.out⟩⟩
   ·have hem:=emp_f (t:=k.dflt) (by omega)
    obtain⟨hk9,u,hu⟩:(nd E.s t).kind≤9∧∃u,ElemOk (nd E.s t) k.dflt u:=by
     rcases hDf with h|h
     ·exact absurd h hd
     ·exact h
    have HDF:Hid (∀wq,Below W.heap.size W wq→Calls Tryz.prog 202 #[.slice a E.s.length c,.agg #[.int .i64 t,.bool false,.string k.dflt]] wq fun e w'=>e= .returned (.agg #[.int .i64 (nd E.s t).kind,.string u,.int .i64 0,.int .i64 0])∧Below wq.heap.size wq w'):=fun wq q=>default_any E.s a c t false k.dflt u wq sn (HC.out.lay.below q) (HC.out.wc.sch.below q) HC.out.wc.right htl hk9 hu (by omega)
    have HU:=hide hu
    have HNO:Hid (vl E.t x≠⟨(nd E.s t).kind,u,0,0⟩→¬LO E k x):=fun q z=>by
     rcases(HLO.out.1 z).2 with h|⟨_,u',hu',h⟩
     ·exact hopt h.1
     ·rw[elem_one hu' HU.out]at h;exact q h
    obtain⟨KK,hKK⟩:∃KK,(nd E.s t).kind=KK:=⟨_,rfl⟩
    have HKK:=hide hKK
    rw[hKK]at HDF HNO
    clear hKK hu hk9
    have RUN:Hid (∀args w,(callFunc 202 args).run Tryz.prog w= .ok (.enter 202 args) w):=fun args w=>run_enter Tryz.func202 (by kernel_rfl) (by rfl) args w
    have HST:Hid (∀wq,Below w3.heap.size w3 wq→wq.cell? ⟨R,0,none⟩=some (.slice a E.s.length c)∧wq.cell? ⟨kb,0,none⟩=some (.int .i64 t)∧wq.cell? ⟨kb,1,none⟩=some (.bool false)∧wq.cell? ⟨kb,2,none⟩=some (.string k.dflt)∧wq.cell? ⟨vb,0,none⟩=some (.int .i64 v.kind)∧wq.cell? ⟨vb,1,none⟩=some (.string v.text)∧wq.cell? ⟨vb,2,none⟩=some (.int .i64 v.alt)∧wq.cell? ⟨vb,3,none⟩=some (.int .i64 v.kids)):=fun wq q=>⟨(q.cell (lt_of_cell e0)).trans e0,(q.cell (lt_of_cell e1)).trans e1,(q.cell (lt_of_cell e2)).trans e2,(q.cell (lt_of_cell e3)).trans e3,(q.cell (lt_of_cell v0)).trans v0,(q.cell (lt_of_cell v1)).trans v1,(q.cell (lt_of_cell v2)).trans v2,(q.cell (lt_of_cell v3)).trans v3⟩
    refine wp_region_held_drew (S:=(fun w'=>w'.cell? ⟨R,0,none⟩=some (.slice a E.s.length c)∧w'.cell? ⟨kb,0,none⟩=some (.int .i64 t)∧w'.cell? ⟨kb,1,none⟩=some (.bool false)∧w'.cell? ⟨kb,2,none⟩=some (.string k.dflt)∧w'.cell? ⟨vb,0,none⟩=some (.int .i64 v.kind)∧w'.cell? ⟨vb,1,none⟩=some (.string v.text)∧w'.cell? ⟨vb,2,none⟩=some (.int .i64 v.alt)∧w'.cell? ⟨vb,3,none⟩=some (.int .i64 v.kids))) (by kernel_rfl) (HST.out _ (Below.refl _ _).drew) (fun hHeld=>?_)
    refine wpAnyH_take (i:=0) (v:=?_) rfl (by kernel_rfl) (by kernel_rfl) (by kernel_rfl) (fun _ _ _ h=>h) (Or.inl ⟨by rfl,?_⟩) (by assumption) ?_
    rotate_left
    ·intro wz hSw;(try dsimp only at hSw);go_simp;all_goals with_reducible rfl
    try simp only[Act.put,List.getElem_toArray,List.getElem_cons_zero,List.getElem_cons_succ,List.setIfInBounds_toArray,List.set_cons_zero,List.set_cons_succ]
    refine wpAnyH_take (i:=1) (v:=?_) rfl (by kernel_rfl) (by kernel_rfl) (by kernel_rfl) (fun _ _ _ h=>h) (Or.inl ⟨by rfl,?_⟩) (by assumption) ?_
    rotate_left
    ·intro wz hSw;(try dsimp only at hSw);go_simp;all_goals with_reducible rfl
    try simp only[Act.put,List.getElem_toArray,List.getElem_cons_zero,List.getElem_cons_succ,List.setIfInBounds_toArray,List.set_cons_zero,List.set_cons_succ]
    refine wpAnyH_take (i:=2) (v:=?_) rfl (by kernel_rfl) (by kernel_rfl) (by kernel_rfl) (fun _ _ _ h=>h) (Or.inl ⟨by rfl,?_⟩) (by assumption) ?_
    rotate_left
    ·intro wz hSw;(try dsimp only at hSw);go_simp;all_goals with_reducible rfl
    try simp only[Act.put,List.getElem_toArray,List.getElem_cons_zero,List.getElem_cons_succ,List.setIfInBounds_toArray,List.set_cons_zero,List.set_cons_succ]
    refine wpAnyH_take (i:=3) (v:=undef) rfl (by kernel_rfl) (by kernel_rfl) (by kernel_rfl) (fun _ _ _ h=>h) (Or.inr ⟨by rfl,rfl⟩) (by assumption) ?_
    try simp only[Act.put,List.getElem_toArray,List.getElem_cons_zero,List.getElem_cons_succ,List.setIfInBounds_toArray,List.set_cons_zero,List.set_cons_succ]
    refine wpAnyH_take (i:=4) (v:=undef) rfl (by kernel_rfl) (by kernel_rfl) (by kernel_rfl) (fun _ _ _ h=>h) (Or.inr ⟨by rfl,rfl⟩) (by assumption) ?_
    try simp only[Act.put,List.getElem_toArray,List.getElem_cons_zero,List.getElem_cons_succ,List.setIfInBounds_toArray,List.set_cons_zero,List.set_cons_succ]
    refine wpAnyH_take (i:=5) (v:=undef) rfl (by kernel_rfl) (by kernel_rfl) (by kernel_rfl) (fun _ _ _ h=>h) (Or.inr ⟨by rfl,rfl⟩) (by assumption) ?_
    try simp only[Act.put,List.getElem_toArray,List.getElem_cons_zero,List.getElem_cons_succ,List.setIfInBounds_toArray,List.set_cons_zero,List.set_cons_succ]
    refine wpAnyH_take (i:=6) (v:=?_) rfl (by kernel_rfl) (by kernel_rfl) (by kernel_rfl) (fun _ _ _ h=>h) (Or.inl ⟨by rfl,?_⟩) (by assumption) ?_
    rotate_left
    ·intro wz hSw;(try dsimp only at hSw);go_simp;all_goals with_reducible rfl
    try simp only[Act.put,List.getElem_toArray,List.getElem_cons_zero,List.getElem_cons_succ,List.setIfInBounds_toArray,List.set_cons_zero,List.set_cons_succ]
    refine wpAnyH_take (i:=7) (v:=?_) rfl (by kernel_rfl) (by kernel_rfl) (by kernel_rfl) (fun _ _ _ h=>h) (Or.inl ⟨by rfl,?_⟩) (by assumption) ?_
    rotate_left
    ·intro wz hSw;(try dsimp only at hSw);go_simp;all_goals with_reducible rfl
    try simp only[Act.put,List.getElem_toArray,List.getElem_cons_zero,List.getElem_cons_succ,List.setIfInBounds_toArray,List.set_cons_zero,List.set_cons_succ]
    refine wpAnyH_take (i:=8) (v:=?_) rfl (by kernel_rfl) (by kernel_rfl) (by kernel_rfl) (fun _ _ _ h=>h) (Or.inl ⟨by rfl,?_⟩) (by assumption) ?_
    rotate_left
    ·intro wz hSw;(try dsimp only at hSw);go_simp;all_goals with_reducible rfl
    try simp only[Act.put,List.getElem_toArray,List.getElem_cons_zero,List.getElem_cons_succ,List.setIfInBounds_toArray,List.set_cons_zero,List.set_cons_succ]
    refine wpAnyH_take (i:=9) (v:=?_) rfl (by kernel_rfl) (by kernel_rfl) (by kernel_rfl) (fun _ _ _ h=>h) (Or.inl ⟨by rfl,?_⟩) (by assumption) ?_
    rotate_left
    ·intro wz hSw;(try dsimp only at hSw);go_simp;all_goals with_reducible rfl
    try simp only[Act.put,List.getElem_toArray,List.getElem_cons_zero,List.getElem_cons_succ,List.setIfInBounds_toArray,List.set_cons_zero,List.set_cons_succ]
    refine wpAnyH_take (i:=10) (v:=?_) rfl (by kernel_rfl) (by kernel_rfl) (by kernel_rfl) (fun _ _ _ h=>h) (Or.inl ⟨by rfl,?_⟩) (by assumption) ?_
    rotate_left
    ·intro wz hSw;(try dsimp only at hSw);go_simp;all_goals with_reducible rfl
    try simp only[Act.put,List.getElem_toArray,List.getElem_cons_zero,List.getElem_cons_succ,List.setIfInBounds_toArray,List.set_cons_zero,List.set_cons_succ]
    refine wpAnyH_take (i:=11) (v:=?_) rfl (by kernel_rfl) (by kernel_rfl) (by kernel_rfl) (fun _ _ _ h=>h) (Or.inl ⟨by rfl,?_⟩) (by assumption) ?_
    rotate_left
    ·intro wz hSw;(try dsimp only at hSw);go_simp;all_goals with_reducible rfl
    try simp only[Act.put,List.getElem_toArray,List.getElem_cons_zero,List.getElem_cons_succ,List.setIfInBounds_toArray,List.set_cons_zero,List.set_cons_succ]
    refine wpAnyH_take (i:=12) (v:=?_) rfl (by kernel_rfl) (by kernel_rfl) (by kernel_rfl) (fun _ _ _ h=>h) (Or.inl ⟨by rfl,?_⟩) (by assumption) ?_
    rotate_left
    ·intro wz hSw;(try dsimp only at hSw);go_simp;all_goals with_reducible rfl
    try simp only[Act.put,List.getElem_toArray,List.getElem_cons_zero,List.getElem_cons_succ,List.setIfInBounds_toArray,List.set_cons_zero,List.set_cons_succ]
    refine wpAnyH_take (i:=13) (v:=?_) rfl (by kernel_rfl) (by kernel_rfl) (by kernel_rfl) (fun _ _ _ h=>h) (Or.inl ⟨by rfl,?_⟩) (by assumption) ?_
    rotate_left
    ·intro wz hSw;(try dsimp only at hSw);go_simp;all_goals with_reducible rfl
    try simp only[Act.put,List.getElem_toArray,List.getElem_cons_zero,List.getElem_cons_succ,List.setIfInBounds_toArray,List.set_cons_zero,List.set_cons_succ]
    refine wpAnyH_take (i:=14) (v:=?_) rfl (by kernel_rfl) (by kernel_rfl) (by kernel_rfl) (fun _ _ _ h=>h) (Or.inl ⟨by rfl,?_⟩) (by assumption) ?_
    rotate_left
    ·intro wz hSw;(try dsimp only at hSw);go_simp;all_goals with_reducible rfl
    try simp only[Act.put,List.getElem_toArray,List.getElem_cons_zero,List.getElem_cons_succ,List.setIfInBounds_toArray,List.set_cons_zero,List.set_cons_succ]
    refine wpAnyH_take (i:=15) (v:=?_) rfl (by kernel_rfl) (by kernel_rfl) (by kernel_rfl) (fun _ _ _ h=>h) (Or.inl ⟨by rfl,?_⟩) (by assumption) ?_
    rotate_left
    ·intro wz hSw;(try dsimp only at hSw);go_simp;all_goals with_reducible rfl
    try simp only[Act.put,List.getElem_toArray,List.getElem_cons_zero,List.getElem_cons_succ,List.setIfInBounds_toArray,List.set_cons_zero,List.set_cons_succ]
    refine wpAnyH_take (i:=16) (v:=?_) rfl (by kernel_rfl) (by kernel_rfl) (by kernel_rfl) (fun _ _ _ h=>h) (Or.inl ⟨by rfl,?_⟩) (by assumption) ?_
    rotate_left
    ·intro wz hSw;(try dsimp only at hSw);go_simp;all_goals with_reducible rfl
    try simp only[Act.put,List.getElem_toArray,List.getElem_cons_zero,List.getElem_cons_succ,List.setIfInBounds_toArray,List.set_cons_zero,List.set_cons_succ]
    refine wpAnyH_take (i:=17) (v:=?_) rfl (by kernel_rfl) (by kernel_rfl) (by kernel_rfl) (fun _ _ _ h=>h) (Or.inl ⟨by rfl,?_⟩) (by assumption) ?_
    rotate_left
    ·intro wz hSw;(try dsimp only at hSw);go_simp;all_goals with_reducible rfl
    try simp only[Act.put,List.getElem_toArray,List.getElem_cons_zero,List.getElem_cons_succ,List.setIfInBounds_toArray,List.set_cons_zero,List.set_cons_succ]
    refine wpAnyH_ready (rs:=[18]) (by kernel_rfl) (by simp) ?_
    refine AllReadyH.cons rfl (fun K hK=>?_) AllReadyH.nil
    go_simp
    go_wp2_with (go_at_call 202;refine(HDF.out _ HI3.out.bel.drew).mono ?_;rintro e w4 ⟨rfl,hb4⟩;have HB4:Hid (Below w3.heap.size w3 w4):=(Below.refl w3.heap.size w3).drew.trans hb4;clear hb4)
    refine hK.out _ _ (HST.out _ HB4.out) (fun hHeld2=>?_)
    clear hK K hHeld
    try simp only[Act.put,List.getElem_toArray,List.getElem_cons_zero,List.getElem_cons_succ,List.setIfInBounds_toArray,List.set_cons_zero,List.set_cons_succ]
    by_cases q1:v.kind=KK
    ·have Q1:=hide q1
     by_cases q2:v.text=u
     ·have Q2:=hide q2
      by_cases q3:v.alt=0
      ·have Q3:=hide q3
       by_cases q4:v.kids=0
       ·have Q4:=hide q4
        have HWHY:Hid (LO E k x):=HLO.out.2 ⟨hx3,.inr ⟨hd,u,HU.out,by rw[HV.out,HKK.out,←Q1.out,←Q2.out];obtain⟨va,vb2,vc,vd⟩:=v;have h3:=Q3.out;have h4:=Q4.out;simp only at h3 h4;rw[h3,h4]⟩⟩
        refine wpAnyH_take (i:=19) (v:=?_) rfl (by kernel_rfl) (by kernel_rfl) (by kernel_rfl) (fun _ _ _ h=>h) (Or.inl ⟨by rfl,?_⟩) (by assumption) ?_
        rotate_left
        ·intro wz hSw;(try dsimp only at hSw);go_simp;all_goals with_reducible rfl
        try simp only[Act.put,List.getElem_toArray,List.getElem_cons_zero,List.getElem_cons_succ,List.setIfInBounds_toArray,List.set_cons_zero,List.set_cons_succ]
        refine wpAnyH_take (i:=20) (v:=?_) rfl (by kernel_rfl) (by kernel_rfl) (by kernel_rfl) (fun _ _ _ h=>h) (Or.inl ⟨by rfl,?_⟩) (by assumption) ?_
        rotate_left
        ·intro wz hSw;(try dsimp only at hSw);go_simp;all_goals with_reducible rfl
        try simp only[Act.put,List.getElem_toArray,List.getElem_cons_zero,List.getElem_cons_succ,List.setIfInBounds_toArray,List.set_cons_zero,List.set_cons_succ]
        refine wpAnyH_take (i:=21) (v:=?_) rfl (by kernel_rfl) (by kernel_rfl) (by kernel_rfl) (fun _ _ _ h=>h) (Or.inl ⟨by rfl,?_⟩) (by assumption) ?_
        rotate_left
        ·intro wz hSw;(try dsimp only at hSw);go_simp;all_goals with_reducible rfl
        try simp only[Act.put,List.getElem_toArray,List.getElem_cons_zero,List.getElem_cons_succ,List.setIfInBounds_toArray,List.set_cons_zero,List.set_cons_succ]
        refine wpAnyH_done (by kernel_rfl) ?_ _
        clear hHeld2 HST e0 e1 e2 e3 v0 v1 v2 v3
        have HI4:=hide (HI3.out.below HB4.out)
        have HW4:Hid (Below w.heap.size w w4):=HW3.out.trans (HB4.out.mono HW3.out.size)
        obtain⟨tv4,hown4,_⟩:=HI4.out.own
        unfold ewObj at hown4
        have n2:w4.cell? ⟨R,2,none⟩=some (.int .i64 (x:Int)):=by simp[World.cell?,hown4]
        have f2:w4.frozen? ⟨R,2,none⟩=false:=by simp[World.frozen?,hown4]
        have hR4:R<w4.heap.size:=lt_of_cell n2
        clear hown4
        go_wp2
        go_ret
        exact⟨(FrE.of_below HW4.out).trans (FrE.set 2 _),.inl ⟨HWHY.out,rfl,HI4.out.setNext (x+1)⟩⟩
       ·have q4b:(v.kids==0)=false:=by simpa using q4
        have Q4:=hide q4
        have HWHY:Hid (¬LO E k x):=HNO.out (fun z=>Q4.out (by rw[←HV.out,z]))
        refine wpAnyH_take (i:=19) (v:=?_) rfl (by kernel_rfl) (by kernel_rfl) (by kernel_rfl) (fun _ _ _ h=>h) (Or.inl ⟨by rfl,?_⟩) (by assumption) ?_
        rotate_left
        ·intro wz hSw;(try dsimp only at hSw);go_simp;all_goals with_reducible rfl
        try simp only[Act.put,List.getElem_toArray,List.getElem_cons_zero,List.getElem_cons_succ,List.setIfInBounds_toArray,List.set_cons_zero,List.set_cons_succ]
        refine wpAnyH_take (i:=20) (v:=?_) rfl (by kernel_rfl) (by kernel_rfl) (by kernel_rfl) (fun _ _ _ h=>h) (Or.inl ⟨by rfl,?_⟩) (by assumption) ?_
        rotate_left
        ·intro wz hSw;(try dsimp only at hSw);go_simp;all_goals with_reducible rfl
        try simp only[Act.put,List.getElem_toArray,List.getElem_cons_zero,List.getElem_cons_succ,List.setIfInBounds_toArray,List.set_cons_zero,List.set_cons_succ]
        refine wpAnyH_take (i:=21) (v:=?_) rfl (by kernel_rfl) (by kernel_rfl) (by kernel_rfl) (fun _ _ _ h=>h) (Or.inl ⟨by rfl,?_⟩) (by assumption) ?_
        rotate_left
        ·intro wz hSw;(try dsimp only at hSw);go_simp;all_goals with_reducible rfl
        try simp only[Act.put,List.getElem_toArray,List.getElem_cons_zero,List.getElem_cons_succ,List.setIfInBounds_toArray,List.set_cons_zero,List.set_cons_succ]
        refine wpAnyH_done (by kernel_rfl) ?_ _
        clear hHeld2 HST e0 e1 e2 e3 v0 v1 v2 v3
        have HI4:=hide (HI3.out.below HB4.out)
        have HW4:Hid (Below w.heap.size w w4):=HW3.out.trans (HB4.out.mono HW3.out.size)
        go_wp2
        go_ret
        exact⟨FrE.of_below HW4.out,.inr ⟨HWHY.out,rfl,HI4.out⟩⟩
      ·have q3b:(v.alt==0)=false:=by simpa using q3
       have Q3:=hide q3
       have HWHY:Hid (¬LO E k x):=HNO.out (fun z=>Q3.out (by rw[←HV.out,z]))
       refine wpAnyH_take (i:=19) (v:=?_) rfl (by kernel_rfl) (by kernel_rfl) (by kernel_rfl) (fun _ _ _ h=>h) (Or.inl ⟨by rfl,?_⟩) (by assumption) ?_
       rotate_left
       ·intro wz hSw;(try dsimp only at hSw);go_simp;all_goals with_reducible rfl
       try simp only[Act.put,List.getElem_toArray,List.getElem_cons_zero,List.getElem_cons_succ,List.setIfInBounds_toArray,List.set_cons_zero,List.set_cons_succ]
       refine wpAnyH_take (i:=20) (v:=?_) rfl (by kernel_rfl) (by kernel_rfl) (by kernel_rfl) (fun _ _ _ h=>h) (Or.inl ⟨by rfl,?_⟩) (by assumption) ?_
       rotate_left
       ·intro wz hSw;(try dsimp only at hSw);go_simp;all_goals with_reducible rfl
       try simp only[Act.put,List.getElem_toArray,List.getElem_cons_zero,List.getElem_cons_succ,List.setIfInBounds_toArray,List.set_cons_zero,List.set_cons_succ]
       refine wpAnyH_take (i:=21) (v:=?_) rfl (by kernel_rfl) (by kernel_rfl) (by kernel_rfl) (fun _ _ _ h=>h) (Or.inl ⟨by rfl,?_⟩) (by assumption) ?_
       rotate_left
       ·intro wz hSw;(try dsimp only at hSw);go_simp;all_goals with_reducible rfl
       try simp only[Act.put,List.getElem_toArray,List.getElem_cons_zero,List.getElem_cons_succ,List.setIfInBounds_toArray,List.set_cons_zero,List.set_cons_succ]
       refine wpAnyH_done (by kernel_rfl) ?_ _
       clear hHeld2 HST e0 e1 e2 e3 v0 v1 v2 v3
       have HI4:=hide (HI3.out.below HB4.out)
       have HW4:Hid (Below w.heap.size w w4):=HW3.out.trans (HB4.out.mono HW3.out.size)
       go_wp2
       go_ret
       exact⟨FrE.of_below HW4.out,.inr ⟨HWHY.out,rfl,HI4.out⟩⟩
     ·have q2b:(v.text.toList==u.toList)=false:=by rw[beq_eq_false_iff_ne];intro z;apply q2;apply ByteArray.ext;apply Array.toList_inj.1;rw[←Lib.toList_data,←Lib.toList_data];exact z
      have Q2:=hide q2
      have HWHY:Hid (¬LO E k x):=HNO.out (fun z=>Q2.out (by rw[←HV.out,z]))
      refine wpAnyH_take (i:=19) (v:=?_) rfl (by kernel_rfl) (by kernel_rfl) (by kernel_rfl) (fun _ _ _ h=>h) (Or.inl ⟨by rfl,?_⟩) (by assumption) ?_
      rotate_left
      ·intro wz hSw;(try dsimp only at hSw);go_simp;all_goals with_reducible rfl
      try simp only[Act.put,List.getElem_toArray,List.getElem_cons_zero,List.getElem_cons_succ,List.setIfInBounds_toArray,List.set_cons_zero,List.set_cons_succ]
      refine wpAnyH_take (i:=20) (v:=?_) rfl (by kernel_rfl) (by kernel_rfl) (by kernel_rfl) (fun _ _ _ h=>h) (Or.inl ⟨by rfl,?_⟩) (by assumption) ?_
      rotate_left
      ·intro wz hSw;(try dsimp only at hSw);go_simp;all_goals with_reducible rfl
      try simp only[Act.put,List.getElem_toArray,List.getElem_cons_zero,List.getElem_cons_succ,List.setIfInBounds_toArray,List.set_cons_zero,List.set_cons_succ]
      refine wpAnyH_take (i:=21) (v:=?_) rfl (by kernel_rfl) (by kernel_rfl) (by kernel_rfl) (fun _ _ _ h=>h) (Or.inl ⟨by rfl,?_⟩) (by assumption) ?_
      rotate_left
      ·intro wz hSw;(try dsimp only at hSw);go_simp;all_goals with_reducible rfl
      try simp only[Act.put,List.getElem_toArray,List.getElem_cons_zero,List.getElem_cons_succ,List.setIfInBounds_toArray,List.set_cons_zero,List.set_cons_succ]
      refine wpAnyH_done (by kernel_rfl) ?_ _
      clear hHeld2 HST e0 e1 e2 e3 v0 v1 v2 v3
      have HI4:=hide (HI3.out.below HB4.out)
      have HW4:Hid (Below w.heap.size w w4):=HW3.out.trans (HB4.out.mono HW3.out.size)
      go_wp2
      go_ret
      exact⟨FrE.of_below HW4.out,.inr ⟨HWHY.out,rfl,HI4.out⟩⟩
    ·have q1b:(v.kind==KK)=false:=by simpa using q1
     have Q1:=hide q1
     have HWHY:Hid (¬LO E k x):=HNO.out (fun z=>Q1.out (by rw[←HV.out,z]))
     refine wpAnyH_take (i:=19) (v:=?_) rfl (by kernel_rfl) (by kernel_rfl) (by kernel_rfl) (fun _ _ _ h=>h) (Or.inl ⟨by rfl,?_⟩) (by assumption) ?_
     rotate_left
     ·intro wz hSw;(try dsimp only at hSw);go_simp;all_goals with_reducible rfl
     try simp only[Act.put,List.getElem_toArray,List.getElem_cons_zero,List.getElem_cons_succ,List.setIfInBounds_toArray,List.set_cons_zero,List.set_cons_succ]
     refine wpAnyH_take (i:=20) (v:=?_) rfl (by kernel_rfl) (by kernel_rfl) (by kernel_rfl) (fun _ _ _ h=>h) (Or.inl ⟨by rfl,?_⟩) (by assumption) ?_
     rotate_left
     ·intro wz hSw;(try dsimp only at hSw);go_simp;all_goals with_reducible rfl
     try simp only[Act.put,List.getElem_toArray,List.getElem_cons_zero,List.getElem_cons_succ,List.setIfInBounds_toArray,List.set_cons_zero,List.set_cons_succ]
     refine wpAnyH_take (i:=21) (v:=?_) rfl (by kernel_rfl) (by kernel_rfl) (by kernel_rfl) (fun _ _ _ h=>h) (Or.inl ⟨by rfl,?_⟩) (by assumption) ?_
     rotate_left
     ·intro wz hSw;(try dsimp only at hSw);go_simp;all_goals with_reducible rfl
     try simp only[Act.put,List.getElem_toArray,List.getElem_cons_zero,List.getElem_cons_succ,List.setIfInBounds_toArray,List.set_cons_zero,List.set_cons_succ]
     refine wpAnyH_done (by kernel_rfl) ?_ _
     clear hHeld2 HST e0 e1 e2 e3 v0 v1 v2 v3
     have HI4:=hide (HI3.out.below HB4.out)
     have HW4:Hid (Below w.heap.size w w4):=HW3.out.trans (HB4.out.mono HW3.out.size)
     go_wp2
     go_ret
     exact⟨FrE.of_below HW4.out,.inr ⟨HWHY.out,rfl,HI4.out⟩⟩
 ·subst hx3
  have HNO:Hid (¬LO E k E.t.length):=fun q=>by have:=q.1;omega
  go_quiet (fail)
  have HI2:=hide (HI1.out.below (Go.below_drewN (Below.refl w1.heap.size w1) nq))
  have HB2:Hid (Below w.heap.size w (w1.drewN nq)):=Go.below_drewN HB1.out nq
  generalize w1.drewN nq=w2 at HI2 HB2 ⊢
  clear d1 d2 hR1
  go_wp2
  go_ret
  exact⟨FrE.of_below HB2.out,.inr ⟨HNO.out,rfl,HI2.out⟩⟩
def ESeqAt(E:WEnv)(W:World)(R:Nat)(a:Option Addr)(c:Nat)(ta:Option Addr)(tc f:Nat)(sn:Sn→Addr)(n:Nd)(dp:Int)(r:WOut)(x0:Nat)(t0:ByteArray)(l0:Bool)(o0:Option Int)(w0:World)(vk:Value)(wr:World):Prop:=
 ∃(k x:Nat) (out:ByteArray) (u:Bool) (t1:ByteArray) (l1:Bool) (o1:Option Int),k≤n.kids.length∧vk= .int .i64 k∧wseqF E (wrF E f) dp (n.kids.drop k) x out u=some r∧x0≤x∧x≤E.t.length∧Tld t0 l0 o0 out u t1 l1 o1∧EwD W wr R a E.s.length c ta E.t.length tc x t1 l1 (ovV sn o1)∧FrE R w0 wr
theorem eseq_any(E:WEnv)(W:World)(R:Nat)(a:Option Addr)(c:Nat)(ta:Option Addr)(tc f:Nat)(sn:Sn→Addr)(hc:EC E W a ta sn)(htc:E.t.length≤tc)(hN:NodeE E W R a c ta tc sn f)(hf1:1≤f)(i:Nat)(hi:i<E.s.length)(ka:Option Addr)(kc:Nat)(hka:KidsIn W ka (nd E.s i).kids)(hkc:(nd E.s i).kids.length≤kc)(hkm:kc≤maxLen)
 (x0:Nat)(dp:Int)(r:WOut)(t0:ByteArray)(l0:Bool)(o0:Option Int)(w:World)(e:wseqF E (wrF E f) dp (nd E.s i).kids x0 noB false=some r)(hx0:x0≤E.t.length)(hfx:E.t.length+1≤f+x0)(hd1:1≤dp)(hd2:dp≤12)(h4:t0.size≤4000)(hI:EwD W w R a E.s.length c ta E.t.length tc x0 t0 l0 (ovV sn o0)):
 Calls Tryz.prog 150 #[.pointer (some ⟨R,0,none⟩),.agg #[.int .i64 (nd E.s i).kind,.int .i64 (nd E.s i).tag,.int .i64 (nd E.s i).mode,.slice ka (nd E.s i).kids.length kc],.int .i64 dp] w fun e w'=>AfterE E W R a c ta tc sn r t0 l0 o0 w e w':=by
 have HC:=hide hc
 have HNN:=hide hN
 have HI:=hide hI
 have HKA:=hide hka
 have HE:=hide e
 have HTC:=hide htc
 have hk8:=count8 hc.wc.right.2.2.1 hi
 have hRl:R<w.heap.size:=by obtain⟨tv,h1,_⟩:=hI.own;exact row_lt h1
 have HHI:=hide hi
 obtain⟨n,hn⟩:∃n,nd E.s i=n:=⟨_,rfl⟩
 have HN:=hide hn
 rw[hn]at HKA hkc hk8 HE ⊢
 have hw0:EwD W (w.alloc (.cells #[.int .i64 n.kind,.int .i64 n.tag,.int .i64 n.mode,.slice ka n.kids.length kc] 58)) R a E.s.length c ta E.t.length tc x0 t0 l0 (ovV sn o0):=hI.below ((Below.refl _ _).alloc (Nat.le_refl _) _)
 have HW0:=hide hw0
 have hkm':kc≤9223372036854775807:=by unfold maxLen at hkm;omega
 clear hc hN hI hka e htc hi hn hw0 hkm
 go_enter Tryz.func150,Tryz.ntmps150
 go_wp2_with fail
 go_loopw [13] (fun vk wr=>ESeqAt E W R a c ta tc f sn n dp r x0 t0 l0 o0 w vk wr) (fun vk _=>n.kids.length-(intOf vk).toNat)
 case atStart=>exact⟨0,x0,noB,false,t0,l0,o0,Nat.zero_le _,rfl,HE.out,Nat.le_refl _,hx0,Tld.refl h4,HW0.out,FrE.of_below ((Below.refl _ _).alloc (Nat.le_refl _) _)⟩
 case round=>
  obtain⟨k,x,out,u,t1,l1,o1,hk,rfl,hE,hx1,hx2,hT,hEw,hFr⟩:=hrel
  have HEW:=hide hEw
  have HT:=hide hT
  have HFR:=hide hFr
  have HEE:=hide hE
  clear hEw hT hFr hE
  by_cases hlt:k<n.kids.length
  ·obtain⟨b,o,hkaE,kcl⟩:=HKA.out k hlt
   have hmem:n.kids.getD k kd0∈n.kids:=kd_mem (n:=n) hlt
   obtain⟨y,hy⟩:∃y,n.kids.getD k kd0=y:=⟨_,rfl⟩
   rw[hy]at kcl hmem
   have hdrop:n.kids.drop k=y::n.kids.drop (k+1):=by
    rw[List.drop_eq_getElem_cons hlt]
    congr 1
    rw[←hy,List.getD_eq_getElem?_getD,List.getElem?_eq_getElem hlt]
    rfl
   have hE':=HEE.out
   rw[hdrop]at hE'
   have hKK:=wseq_kid (dp:=dp) HC.out.wc.right HC.out.wc.ok HHI.out (by rw[HN.out];exact hmem) hf1 hE'
   have HKK:=hide hKK
   have hwn:=HC.out.wc.right.fine.within i HHI.out y (by rw[HN.out];exact hmem)
   obtain⟨t,ht⟩:∃t:Nat,y.node=t:=⟨y.node.toNat,by omega⟩
   have htn:y.node.toNat=t:=by omega
   have htl:t<E.s.length:=by omega
   have HNE:Hid (∀wq,EwD W wq R a E.s.length c ta E.t.length tc x t1 l1 (ovV sn o1)→∃r1,wrF E f t x (dp+1)=some r1∧Calls Tryz.prog 75 #[.pointer (some ⟨R,0,none⟩),.int .i64 t,.int .i64 (dp+1)] wq fun e w'=>AfterE E W R a c ta tc sn r1 t1 l1 o1 wq e w'):=fun wq q=>by
    obtain⟨r1,h1⟩:=wrF_some (E:=E) f t x (dp+1) (by omega) hf1
    exact⟨r1,h1,HNN.out t x (dp+1) r1 t1 l1 o1 wq h1 htl hx2 (by omega) hf1 (by omega) (by omega) HT.out.mx q⟩
   have HLO:Hid (∀wq,EwD W wq R a E.s.length c ta E.t.length tc x t1 l1 (ovV sn o1)→Calls Tryz.prog 183 #[.pointer (some ⟨R,0,none⟩),.agg #[.int .i64 t,.bool y.opt,.string y.dflt]] wq fun e w'=>AfterLO E W R a c ta tc y x t1 l1 (ovV sn o1) wq e w'):=fun wq q=>by
    have:=leftOut_any E W R a c ta tc sn HC.out HTC.out i HHI.out y (by rw[HN.out];exact hmem) x t1 l1 (ovV sn o1) wq hx2 q
    rw[ht]at this
    exact this
   obtain⟨kc0,kc1,kc2⟩:=kcl
   rw[ht]at kc0
   have hbW:=HEW.out.bel
   have m0:wr.cell? ⟨b,o+k*3,none⟩=some (.int .i64 t):=(hbW.cell (lt_of_cell kc0)).trans kc0
   have m1:wr.cell? ⟨b,o+k*3+1,none⟩=some (.bool y.opt):=(hbW.cell (lt_of_cell kc1)).trans kc1
   have m2:wr.cell? ⟨b,o+k*3+2,none⟩=some (.string y.dflt):=(hbW.cell (lt_of_cell kc2)).trans kc2
   have hlb:=lt_of_cell m0
   simp only at hlb
   have hlt':(k:Int)<(n.kids.length:Int):=by omega
   rw[hkaE]
   have HEB:Hid (∀A,EwD W (wr.alloc A) R a E.s.length c ta E.t.length tc x t1 l1 (ovV sn o1)):=fun A=>HEW.out.below ((Below.refl _ _).alloc (Nat.le_refl _) _)
   have HFB:Hid (∀A,FrE R w (wr.alloc A)):=fun A=>HFR.out.trans (FrE.of_below ((Below.refl _ _).alloc (Nat.le_refl _) _))
   have hgk:(wr.alloc (.cells #[.int .i64 t,.bool y.opt,.string y.dflt] 55)).heap[wr.heap.size]? =some (.cells #[.int .i64 t,.bool y.opt,.string y.dflt] 55 (0,0)):=heap_alloc_new wr _
   have HGK:=hide hgk
   have hneR:wr.heap.size≠R:=by obtain⟨tv,h1,_⟩:=HEW.out.own;have:=row_lt h1;omega
   clear kc0 kc1 kc2 hbW hmem hy hdrop hE' hKK hgk hlt
   go_wp2_with fail
   refine(HLO.out _ (HEB.out _)).mono ?_
   rintro e w2 ⟨hF2,⟨hlo,rfl,hE2⟩|⟨hlo,rfl,hE2⟩⟩
   ·have HE2:=hide hE2
    have HF2:Hid (FrE R w w2):=(HFB.out _).trans hF2
    have HX2:Hid (wseqF E (wrF E f) dp (n.kids.drop (k+1)) (x+1) out u=some r∧x+1≤E.t.length):=by
     rcases HKK.out with h|h
     ·exact⟨h.2,h.1.1⟩
     ·exact absurd hlo h.1
    clear hF2 hlo hE2 m0 m1 m2
    go_wp2
    go_roundw
    case rel=>exact⟨k+1,x+1,out,u,t1,l1,o1,by omega,by go_num,HX2.out.1,by omega,HX2.out.2,HT.out,HE2.out,HF2.out⟩
    case measure=>simp[intOf];omega
   ·have HF2:Hid (FrE R w w2):=(HFB.out _).trans hF2
    obtain⟨r1,hr1,hca⟩:=HNE.out w2 hE2
    have HR1:=hide hr1
    have HCA:=hide hca
    have HLN:=hide hlo
    have hg2:=hF2 _ _ _ hneR (by decide) HGK.out
    have g0:w2.cell? ⟨wr.heap.size,0,none⟩=some (.int .i64 t):=cell_of_row hg2 rfl
    have hl2:=lt_of_cell g0
    simp only at hl2
    have hwr:IntKind.i64.wrap (dp+1)=dp+1:=by rw[IntKind.wrap_i64];omega
    clear hF2 hlo hE2 m0 m1 m2 hr1 hca hg2
    go_wp2_with fail
    refine HCA.out.mono ?_
    rintro e w3 ⟨hF3,⟨b1,x',u',t2,l2,o2,hq,rfl,hT2,hE3⟩|⟨hq,p,x',t2,l2,ov,rfl,hE3⟩⟩
    ·have HE3:=hide hE3
     have HF3:Hid (FrE R w w3):=HF2.out.trans hF3
     have HT2:=hide hT2
     have HX3:Hid (wseqF E (wrF E f) dp (n.kids.drop (k+1)) x' (out++b1) (u||u')=some r∧x0≤x'∧x'≤E.t.length):=by
      have hadv:=wrF_adv f t x (dp+1) r1 HR1.out b1 x' u' hq
      rcases HKK.out with h|h
      ·exact absurd h.1 HLN.out
      ·rw[htn]at h
       rcases h.2 r1 HR1.out with h2|⟨b2,x2,u2,h2,h3⟩
       ·rw[h2.1]at hq;cases hq
       ·rw[hq]at h2
        injection h2 with h2
        injection h2 with e1 h2
        injection h2 with e2 e3
        subst e1 e2 e3
        exact⟨h3,by omega,hadv.2.1⟩
     clear hF3 hT2 hE3 g0 hl2 hq
     go_wp2
     go_roundw
     case rel=>exact⟨k+1,x',out++b1,u||u',t2,l2,o2,by omega,by go_num,HX3.out.1,HX3.out.2.1,HX3.out.2.2,HT.out.trans HT2.out,HE3.out,HF3.out⟩
     case measure=>simp[intOf];omega
    ·have HE3:=hide hE3
     have HF3:Hid (FrE R w w3):=HF2.out.trans hF3
     have HX3:Hid (r=none):=by
      rcases HKK.out with h|h
      ·exact absurd h.1 HLN.out
      ·rw[htn]at h
       rcases h.2 r1 HR1.out with h2|⟨b2,x2,u2,h2,h3⟩
       ·exact h2.2
       ·rw[hq]at h2;cases h2
     clear hF3 hE3 g0 hl2 hq
     unfold fault
     go_wp2
     go_ret
     exact⟨HF3.out,.inr ⟨HX3.out,p,x',t2,l2,ov,rfl,HE3.out⟩⟩
  ·obtain rfl:k=n.kids.length:=by omega
   have HX:Hid (r=some (out,x,u)):=by
    have h:=HEE.out
    rw[List.drop_length]at h
    unfold wseqF at h
    injection h with h
    exact h.symm
   go_wp2
   go_ret
   exact⟨HFR.out,.inl ⟨out,x,u,t1,l1,o1,HX.out,rfl,HT.out,HEW.out⟩⟩
theorem bcells_get(t:ByteArray){j:Nat}{x:UInt8}(h:t.data.toList[j]? =some x):(bcells t)[j]? =some (.int .u8 (x.toNat:Int)):=by
 unfold bcells
 rw[List.getElem?_map,h]
 rfl
theorem bytes_mid{w:World}{g:Nat}{cur:Array Value}{t:ByteArray}(hg:w.heap[g]? =some (.cells cur 5 (0,0)))(hc:cur.toList.take t.size=bcells t){q p:Nat}(hqp:q≤p)(hp:p≤t.size)(c:Nat):
 BytesAt w (.slice (some ⟨g,q,none⟩) (p-q) c) ((t.data.toList.drop q).take (p-q)):=by
 have hl:t.data.toList.length=t.size:=Array.length_toList
 refine .inr ⟨⟨g,q,none⟩,c,?_,fun j x hj=>?_⟩
 ·rw[List.length_take,List.length_drop,hl,Nat.min_eq_left (by omega)]
 ·rw[List.getElem?_take]at hj
  split at hj
  ·rename_i hlt
   rw[List.getElem?_drop]at hj
   have h1:=bcells_get t hj
   rw[←hc,List.getElem?_take_of_lt (by omega)]at h1
   rw[Addr.add_lit]
   simp[World.cell?,hg]
   simpa using h1
  ·cases hj
theorem bytes_from{w:World}{g:Nat}{cur:Array Value}{t:ByteArray}(hg:w.heap[g]? =some (.cells cur 5 (0,0)))(hc:cur.toList.take t.size=bcells t){p:Nat}(hp:p≤t.size)(c:Nat):
 BytesAt w (.slice (some ⟨g,p,none⟩) (t.size-p) c) (t.data.toList.drop p):=by
 have hl:t.data.toList.length=t.size:=Array.length_toList
 have h:=bytes_mid hg hc hp (Nat.le_refl _) c
 rw[List.take_of_length_le (by rw[List.length_drop,hl];exact Nat.le_refl _)]at h
 exact h
theorem below_at{t0 out' last b:ByteArray}{q p:Nat}(hq:q=t0.size+out'.size)(hp:p=q+last.size):Op.bytesLess (((t0++(out'++last))++b).data.toList.drop p) ((((t0++(out'++last))++b).data.toList.drop q).take (p-q))=below b last:=by
 unfold below
 have h0:t0.data.toList.length=t0.size:=Array.length_toList
 have h1:out'.data.toList.length=out'.size:=Array.length_toList
 have h2:last.data.toList.length=last.size:=Array.length_toList
 have e:((t0++(out'++last))++b).data.toList=(t0.data.toList++out'.data.toList)++(last.data.toList++b.data.toList):=by simp
 rw[e,Lib.toList_data,Lib.toList_data]
 have e1:((t0.data.toList++out'.data.toList)++(last.data.toList++b.data.toList)).drop q=last.data.toList++b.data.toList:=List.drop_left' (by rw[List.length_append];omega)
 have e2:((t0.data.toList++out'.data.toList)++(last.data.toList++b.data.toList)).drop p=b.data.toList:=by
  rw[hp,←List.drop_drop,e1]
  exact List.drop_left' (by omega)
 rw[e1,e2]
 congr 1
 exact List.take_left' (by omega)
def EManyAt(E:WEnv)(W:World)(R:Nat)(a:Option Addr)(c:Nat)(ta:Option Addr)(tc f:Nat)(sn:Sn→Addr)(set:Bool)(i:Nat)(dp kids:Int)(r:WOut)(x0:Nat)(t0:ByteArray)(l0:Bool)(o0:Option Int)(w0:World)(vb vk:Value)(wr:World):Prop:=
 ∃(k bf m x:Nat) (out last:ByteArray) (u:Bool) (t1:ByteArray) (l1:Bool) (o1:Option Int),(k:Int)≤kids∧vk= .int .i64 k∧vb= .int .i64 bf∧wmanyF E (wrF E f) set i dp m (kids-k) x out last u=some r∧x0≤x∧x≤E.t.length∧Tld t0 l0 o0 out u t1 l1 o1∧bf≤t1.size∧(l1=false→∃out',out=out'++last∧bf=t0.size+out'.size)∧
  EwD W wr R a E.s.length c ta E.t.length tc x t1 l1 (ovV sn o1)∧FrE R w0 wr
theorem elist_any(E:WEnv)(W:World)(R:Nat)(a:Option Addr)(c:Nat)(ta:Option Addr)(tc f:Nat)(sn:Sn→Addr)(hc:EC E W a ta sn)(htc:E.t.length≤tc)(hN:NodeE E W R a c ta tc sn f)(hf1:1≤f)(i:Nat)(hi:i<E.s.length)(hone:(nd E.s i).kids.length=1)(ka:Option Addr)(kc:Nat)(hka:KidsIn W ka (nd E.s i).kids)(hkc:(nd E.s i).kids.length≤kc)(hkm:kc≤maxLen)
 (x0 m0:Nat)(kids dp:Int)(r:WOut)(t0:ByteArray)(l0:Bool)(o0:Option Int)(w:World)(e:wmanyF E (wrF E f) (decide ((nd E.s i).kind=12)) (kd (nd E.s i) 0).node.toNat (dp+1) m0 kids x0 noB noB false=some r)(hk0:0≤kids)(hk63:kids≤9223372036854775807)(hx0:x0≤E.t.length)(hfx:E.t.length+1≤f+x0)(hd1:1≤dp)(hd2:dp≤12)(h4:t0.size≤4000)(hI:EwD W w R a E.s.length c ta E.t.length tc x0 t0 l0 (ovV sn o0)):
 Calls Tryz.prog 151 #[.pointer (some ⟨R,0,none⟩),.agg #[.int .i64 (nd E.s i).kind,.int .i64 (nd E.s i).tag,.int .i64 (nd E.s i).mode,.slice ka (nd E.s i).kids.length kc],.int .i64 kids,.int .i64 dp] w fun e w'=>AfterE E W R a c ta tc sn r t0 l0 o0 w e w':=by
 have HC:=hide hc
 have HNN:=hide hN
 have HE:=hide e
 have hwn:=hc.wc.right.fine.within i hi (kd (nd E.s i) 0) (kd_mem (by omega))
 obtain⟨t,ht⟩:∃t:Nat,(kd (nd E.s i) 0).node=t:=⟨(kd (nd E.s i) 0).node.toNat,by omega⟩
 have htl:t<E.s.length:=by omega
 have htn:(kd (nd E.s i) 0).node.toNat=t:=by omega
 rw[htn]at HE
 obtain⟨b,o,hkaE,kcl⟩:=hka 0 (by omega)
 obtain⟨kc0,_,_⟩:=kcl
 have hkd:((nd E.s i).kids.getD 0 kd0).node=t:=ht
 rw[hkd]at kc0
 have KC0:=hide kc0
 rw[hkaE,hone]
 rw[hone]at hkc
 obtain⟨set,hset⟩:∃set,decide ((nd E.s i).kind=12)=set:=⟨_,rfl⟩
 rw[hset]at HE
 obtain⟨K,hK⟩:∃K,(nd E.s i).kind=K:=⟨_,rfl⟩
 rw[hK]at hset ⊢
 have HSET:=hide hset
 have hkm':kc≤9223372036854775807:=by unfold maxLen at hkm;omega
 have hkc':(1:Int)≤(kc:Int):=by omega
 obtain⟨bs,cp,hform⟩:∃bs cp,∃tvx,tvx=Value.slice bs t0.size cp∧w.heap[R]? =some (ewObj a E.s.length c ta E.t.length tc x0 tvx l0 (ovV sn o0)):=by
  obtain⟨tv,h1,h2⟩:=hI.own
  obtain⟨bs,cp,rfl,_⟩:=own8 h2
  exact⟨bs,cp,_,rfl,h1⟩
 obtain⟨_,rfl,hown⟩:=hform
 have hRl:R<w.heap.size:=row_lt hown
 generalize hTG:(nd E.s i).tag=TG
 generalize hMD:(nd E.s i).mode=MD
 have hB1:Below w.heap.size w (w.alloc (.cells #[.int .i64 K,.int .i64 TG,.int .i64 MD,.slice (some ⟨b,o,none⟩) 1 kc] 58)):=(Below.refl _ _).alloc (Nat.le_refl _) _
 have hG1:(w.alloc (.cells #[.int .i64 K,.int .i64 TG,.int .i64 MD,.slice (some ⟨b,o,none⟩) 1 kc] 58)).heap[w.heap.size]? =some (.cells #[.int .i64 K,.int .i64 TG,.int .i64 MD,.slice (some ⟨b,o,none⟩) 1 kc] 58 (0,0)):=heap_alloc_new w _
 have HW0:=hide (hI.below hB1)
 have hg3:=block_below hown hB1
 unfold ewObj at hg3
 have c3:(w.alloc (.cells #[.int .i64 K,.int .i64 TG,.int .i64 MD,.slice (some ⟨b,o,none⟩) 1 kc] 58)).cell? ⟨R,3,none⟩=some (.slice bs t0.size cp):=by simp[World.cell?,hg3]
 clear hc hN hI hka e htc hi hone hkaE hwn kc0 hkd ht htn hset hK hkm hown hTG hMD hg3
 go_enter Tryz.func151,Tryz.ntmps151
 go_upto_region 1 with fail
 obtain⟨nb,hnb⟩:∃nb,w.heap.size=nb:=⟨_,rfl⟩
 rw[hnb]at hG1 ⊢
 generalize w.alloc (.cells #[.int .i64 K,.int .i64 TG,.int .i64 MD,.slice (some ⟨b,o,none⟩) 1 kc] 58)=w1 at hB1 hG1 HW0 c3 ⊢
 have hneN:nb≠R:=by omega
 have HB1:=hide hB1
 have HG1:=hide hG1
 have hR1:R<w1.heap.size:=lt_of_cell c3
 clear hB1 hG1 hnb
 go_wp2_with fail
 go_loopw [9,19] (fun vb vk wr=>EManyAt E W R a c ta tc f sn set t (dp+1) kids r x0 t0 l0 o0 w1 vb vk wr) (fun _ vk _=>(kids-intOf vk).toNat)
 case atStart=>exact⟨0,t0.size,m0,x0,noB,noB,false,t0,l0,o0,by omega,rfl,rfl,by simpa using HE.out,Nat.le_refl _,hx0,Tld.refl h4,Nat.le_refl _,fun _=>⟨noB,(app_noB noB).symm,rfl⟩,HW0.out,fun _ _ _ _ _ h=>h⟩
 case round=>
  obtain⟨k,bf,m,x,out,last,u,t1,l1,o1,hk,rfl,rfl,hE,hx1,hx2,hT,hbf,hbl,hEw,hFr⟩:=hrel
  have HEW:=hide hEw
  have HT:=hide hT
  have HFR:=hide hFr
  have HEE:=hide hE
  have HBL:=hide hbl
  clear hEw hT hFr hE hbl c3
  by_cases hlt:(k:Int)<kids
  ·obtain⟨m,rfl⟩:∃m',m=m'+1:=by
    cases m with
    |zero=>have h:=HEE.out;cases h
    |succ m=>exact⟨m,rfl⟩
   have HST:Hid (∀r1,wrF E f t x (dp+1)=some r1→(r1=none∧r=none)∨∃b' x' u',r1=some (b',x',u')∧wmanyF E (wrF E f) set t (dp+1) m (kids-k-1) x' (out++b') b' (u||u'||(set&&below b' last))=some r):=fun r1 h1=>by
    have h:=HEE.out
    unfold wmanyF at h
    rw[if_pos (by omega)]at h
    rcases wandThen_cases h with⟨h2,h3⟩|⟨b',x',u',h2,h3⟩
    ·rw[h2]at h1;injection h1 with h1;exact .inl ⟨h1.symm,h3⟩
    ·rw[h2]at h1;injection h1 with h1;exact .inr ⟨b',x',u',h1.symm,h3⟩
   obtain⟨tv,hown,hrow⟩:=HEW.out.own
   obtain⟨bs1,cp1,rfl,_⟩:=own8 hrow
   unfold ewObj at hown
   have d3:wr.cell? ⟨R,3,none⟩=some (.slice bs1 t1.size cp1):=by simp[World.cell?,hown]
   have d2:wr.cell? ⟨R,2,none⟩=some (.int .i64 (x:Int)):=by simp[World.cell?,hown]
   have hRr:R<wr.heap.size:=lt_of_cell d3
   clear hown hrow
   go_wp2_with fail
   go_quiet (fail)
   have HEW2:=hide (HEW.out.below (Go.below_drewN (Below.refl wr.heap.size wr) nq))
   have HFR2:Hid (FrE R w1 (wr.drewN nq)):=HFR.out.trans (FrE.of_below (Go.below_drewN (Below.refl _ _) nq))
   generalize wr.drewN nq=w2 at HEW2 HFR2 ⊢
   obtain⟨r1,hr1⟩:=wrF_some (E:=E) f t x (dp+1) (by omega) hf1
   have HCA:Hid (Calls Tryz.prog 75 #[.pointer (some ⟨R,0,none⟩),.int .i64 t,.int .i64 (dp+1)] w2 fun e w'=>AfterE E W R a c ta tc sn r1 t1 l1 o1 w2 e w'):=HNN.out t x (dp+1) r1 t1 l1 o1 w2 hr1 htl hx2 (by omega) hf1 (by omega) (by omega) HT.out.mx HEW2.out
   have HR1:=hide hr1
   have hgn:=HFR2.out _ _ _ hneN (by decide) HG1.out
   have n3:w2.cell? ⟨nb,3,none⟩=some (.slice (some ⟨b,o,none⟩) 1 kc):=cell_of_row hgn rfl
   have k0:w2.cell? ⟨b,o,none⟩=some (.int .i64 t):=by
    have:=(HEW2.out.bel.cell (lt_of_cell KC0.out)).trans KC0.out
    simpa using this
   have hlb:=lt_of_cell k0
   simp only at hlb
   have hln:=lt_of_cell n3
   simp only at hln
   have hwr:IntKind.i64.wrap (dp+1)=dp+1:=by rw[IntKind.wrap_i64];omega
   clear d3 d2 hRr hr1 hgn
   go_wp2_with fail
   refine HCA.out.mono ?_
   rintro e w3 ⟨hF3,⟨b',x',u',t2,l2,o2,hq,rfl,hT2,hE3⟩|⟨hq,p,x',t2,l2,ov,rfl,hE3⟩⟩
   ·have HE3:=hide hE3
    have HF3:Hid (FrE R w1 w3):=HFR2.out.trans hF3
    have HT2:=hide hT2
    have HX3:Hid (wmanyF E (wrF E f) set t (dp+1) m (kids-k-1) x' (out++b') b' (u||u'||(set&&below b' last))=some r∧x0≤x'∧x'≤E.t.length):=by
     have hadv:=wrF_adv f t x (dp+1) r1 HR1.out b' x' u' hq
     rcases HST.out r1 HR1.out with h2|⟨b2,x2,u2,h2,h3⟩
     ·rw[h2.1]at hq;cases hq
     ·rw[hq]at h2
      injection h2 with h2
      injection h2 with e1 h2
      injection h2 with e2 e3
      subst e1 e2 e3
      exact⟨h3,by omega,hadv.2.1⟩
    have HREL:Hid (∀(o3:Option Int) (wq:World),EwD W wq R a E.s.length c ta E.t.length tc x' t2 l2 (ovV sn o3)→FrE R w1 wq→(l2=false→o3.isSome=(o2.isSome||(set&&below b' last)))→EManyAt E W R a c ta tc f sn set t (dp+1) kids r x0 t0 l0 o0 w1 (.int .i64 t1.size) (.int .i64 ((k:Int)+1)) wq):=fun o3 wq h1 h2 h3=>by
     refine⟨k+1,t1.size,m,x',out++b',b',u||u'||(set&&below b' last),t2,l2,o3,by omega,by simp,rfl,?_,HX3.out.2.1,HX3.out.2.2,(HT.out.trans HT2.out).order h3,HT2.out.le,fun q=>⟨out,rfl,?_⟩,h1,h2⟩
     ·rw[show kids-((k+1:Nat):Int)=kids-k-1 by omega];exact HX3.out.1
     ·have hl1:l1=false:=by
       cases hl:l1
       ·rfl
       ·rw[HT2.out.mono hl]at q;cases q
      rw[HT.out.told hl1,ByteArray.size_append]
    have HBE:Hid (l2=false→Op.bytesLess (t2.data.toList.drop t1.size) ((t2.data.toList.drop bf).take (t1.size-bf))=below b' last):=fun q=>by
     have hl1:l1=false:=by
      cases hl:l1
      ·rfl
      ·rw[HT2.out.mono hl]at q;cases q
     obtain⟨out',e1,e2⟩:=HBL.out hl1
     have e3:=HT.out.told hl1
     rw[HT2.out.told q,e3,e1]
     exact below_at e2 (by rw[ByteArray.size_append,ByteArray.size_append];omega)
    obtain⟨tv,hown,hrow⟩:=HE3.out.own
    obtain⟨bs2,cp2,rfl,hcp1,hcp2,hbs2⟩:=own8 hrow
    have HROW:=hide hrow
    unfold ewObj at hown
    have g3:w3.cell? ⟨R,3,none⟩=some (.slice bs2 t2.size cp2):=by simp[World.cell?,hown]
    have g5:w3.cell? ⟨R,5,none⟩=some (ovV sn o2):=by simp[World.cell?,hown]
    have f5:w3.frozen? ⟨R,5,none⟩=false:=by simp[World.frozen?,hown]
    have hR3:R<w3.heap.size:=lt_of_cell g3
    have hgn:=HF3.out _ _ _ hneN (by decide) HG1.out
    have n0:w3.cell? ⟨nb,0,none⟩=some (.int .i64 K):=cell_of_row hgn rfl
    have hln3:=lt_of_cell n0
    simp only at hln3
    have htt:=HT2.out.le
    have hwk:IntKind.i64.wrap ((k:Int)+1)=(k:Int)+1:=by rw[IntKind.wrap_i64];omega
    clear hF3 hT2 hE3 hq n3 k0 hlb hln hown hrow hgn
    by_cases hK:K=12
    ·subst hK
     obtain rfl:set=true:=by rw[←HSET.out];rfl
     cases o2 with
     |some p=>
      unfold ovV fault at g5
      go_wp2_with fail
      go_quiet (fail)
      have HE4:=hide (HE3.out.below (Go.below_drewN (Below.refl w3.heap.size w3) nq))
      have HF4:Hid (FrE R w1 (w3.drewN nq)):=HF3.out.trans (FrE.of_below (Go.below_drewN (Below.refl _ _) nq))
      generalize w3.drewN nq=w4 at HE4 HF4 ⊢
      clear g3 g5 f5 hR3 n0 hln3
      go_wp2
      go_roundw
      case rel=>exact HREL.out (some p) _ HE4.out HF4.out (fun _=>by simp)
      case measure=>(simp[intOf];omega)
     |none=>
      unfold ovV at g5
      obtain⟨z,hz⟩:∃z,Op.bytesLess (t2.data.toList.drop t1.size) ((t2.data.toList.drop bf).take (t1.size-bf))=z:=⟨_,rfl⟩
      have hzc:=less_iff (t2.data.toList.drop t1.size) ((t2.data.toList.drop bf).take (t1.size-bf))
      rw[hz]at hzc
      have HZZ:Hid (∀o3:Option Int,o3.isSome=z→(l2=false→o3.isSome=((none:Option Int).isSome||(true&&below b' last)))):=fun o3 h q=>by
       rw[h,←hz,HBE.out q];simp
      obtain⟨cz,hcz⟩:∃cz,Lib.compareBytes (t2.data.toList.drop t1.size) ((t2.data.toList.drop bf).take (t1.size-bf))=cz:=⟨_,rfl⟩
      rw[hcz]at hzc
      obtain⟨va,vb2,HSL⟩:∃va vb2:Value,Hid ((∀wq:World,(∀x,wq.cell? x=w3.cell? x)→Calls Tryz.prog 184 #[va,vb2] wq fun e w'=>e= .returned (.int .i64 cz)∧w'=wq)∧
       ((bs2=none∧va= .slice none 0 0∧vb2= .slice none 0 0∧t2.size=0∧cp2=0)∨
        (∃g,bs2=some ⟨g,0,none⟩∧va=(if cp2=t1.size then .slice (some ⟨g,0,none⟩) (t2.size-t1.size) 0 else .slice (some ⟨g,t1.size,none⟩) (t2.size-t1.size) (cp2-t1.size))∧vb2=(if cp2=bf then .slice (some ⟨g,0,none⟩) (t1.size-bf) (if cp2=t1.size then t1.size-bf else cp2-bf)else .slice (some ⟨g,bf,none⟩) (t1.size-bf) (if cp2=t1.size then t1.size-bf else cp2-bf))))):=by
       have hl2:t2.data.toList.length=t2.size:=Array.length_toList
       rcases HROW.out.2 with⟨q,h0⟩|⟨g,cap,cur,q,_,hg,h1,_,_,hct⟩
       ·injection q with q1 q2 q3
        refine⟨.slice none 0 0,.slice none 0 0,fun wq hq=>?_,.inl ⟨q1,rfl,rfl,h0,q3⟩⟩
        have e0:t2.data.toList=[]:=List.length_eq_zero_iff.1 (by omega)
        rw[e0]at hcz
        simp only[List.drop_nil,List.take_nil]at hcz
        rw[←hcz]
        exact bcompare_any _ _ [] [] wq (.inl ⟨rfl,rfl⟩) (.inl ⟨rfl,rfl⟩)
       ·injection q with q1 q2 q3
        subst q3
        rw[Nat.mul_one]at hct
        refine⟨_,_,fun wq hq=>?_,.inr ⟨g,q1,rfl,rfl⟩⟩
        have keep:∀{v l},BytesAt w3 v l→BytesAt wq v l:=fun {v l} h=>by
         rcases h with h|⟨a',c',e',h⟩
         ·exact .inl h
         ·exact .inr ⟨a',c',e',fun j x hj=>(hq _).trans (h j x hj)⟩
        rw[←hcz]
        refine bcompare_any _ _ _ _ wq (keep ?_) (keep ?_)
        ·split
         ·rename_i hc
          rw[List.drop_of_length_le (by omega),show t2.size-t1.size=0 by omega]
          exact .inr ⟨_,_,rfl,fun j x hj=>by simp at hj⟩
         ·exact bytes_from hg hct htt _
        ·split
         ·rename_i hc
          rw[show t1.size-bf=0 by omega,List.take_zero]
          exact .inr ⟨_,_,rfl,fun j x hj=>by simp at hj⟩
         ·exact bytes_mid hg hct hbf htt _
      have HCMP:Hid (∀n,Calls Tryz.prog 184 #[va,vb2] (w3.drewN n) fun e w'=>e= .returned (.int .i64 cz)∧w'=w3.drewN n):=fun n=>HSL.out.1 _ (fun _=>by simp)
      have hi1:(t1.size:Int)≤(t2.size:Int):=by omega
      have hi2:(bf:Int)≤(t1.size:Int):=by omega
      have hsl:=HSL.out.2
      have HZ:=hide hzc
      have HDZ:=hide (And.intro hz hcz)
      clear HSL hz hcz
      have hAT:∀wq,Calls Tryz.prog 60 #[.int .i64 x,.iface 291 (.pointer (some (sn .Order)))] wq fun e w'=>e= .returned (fault x (sn .Order))∧w'=wq:=fun wq=>at_any x _ wq
      unfold fault at hAT
      have HAT:=hide hAT
      clear hAT
      rcases hsl with⟨rfl,rfl,rfl,h0,rfl⟩|⟨g,rfl,hva,hvb⟩
      ·have hz0:t1.size=0:=by omega
       have hb0:bf=0:=by omega
       subst hb0
       have hz0i:(t1.size:Int)=0:=by omega
       have h0i:(t2.size:Int)=0:=by omega
       by_cases hcz:cz<0
       ·have hcb:decide (cz<0)=true:=decide_eq_true hcz
        have HO3:Hid (∀o3:Option Int,o3.isSome=true→(l2=false→o3.isSome=((none:Option Int).isSome||(true&&below b' last)))):=fun o3 h=>HZZ.out o3 (by rw[h,←HZ.out,hcb])
        clear HZZ HZ HDZ HBE
        go_wp2_with fail
        go_quiet ((go_at_call 184;exact Calls.quiet_of_same (HCMP.out _)))
        have HE4:=hide (HE3.out.below (Go.below_drewN (Below.refl w3.heap.size w3) nq))
        have HF4:Hid (FrE R w1 (w3.drewN nq)):=HF3.out.trans (FrE.of_below (Go.below_drewN (Below.refl _ _) nq))
        generalize w3.drewN nq=w4 at HE4 HF4 ⊢
        clear g3 g5 f5 hR3 n0 hln3 HCMP
        have cO:=(HC.out.lay.below HE4.out.bel).s.cOrder
        have hgO:=lt_of_cell cO
        simp only at hgO
        obtain⟨tv4,hown4,_⟩:=HE4.out.own
        unfold ewObj at hown4
        have f4:w4.frozen? ⟨R,5,none⟩=false:=by simp[World.frozen?,hown4]
        have g4:w4.cell? ⟨R,5,none⟩=some (ovV sn none):=by simp[World.cell?,hown4]
        unfold ovV at g4
        have hR4:R<w4.heap.size:=lt_of_cell g4
        clear hown4
        go_wp2_with fail
        refine(HAT.out _).mono ?_
        rintro e w5 ⟨rfl,rfl⟩
        go_wp2
        go_roundw
        case rel=>exact by have h:=HREL.out (some (x:Int)) _ (HE4.out.setOrder (fault x (sn .Order))) (HF4.out.trans (FrE.set 5 _)) (HO3.out _ rfl);rw[hz0]at h;exact h
        case measure=>(simp[intOf];omega)
       ·have hcb:decide (cz<0)=false:=decide_eq_false hcz
        have HCB:=hide hcb
        have HO3:Hid (l2=false→(none:Option Int).isSome=((none:Option Int).isSome||(true&&below b' last))):=HZZ.out none (by rw[←HZ.out,hcb];rfl)
        clear HZZ HZ HDZ HBE hcz hcb
        go_wp2_with fail
        go_quiet ((go_at_call 184;exact Calls.quiet_of_same (HCMP.out _)))
        have HE4:=hide (HE3.out.below (Go.below_drewN (Below.refl w3.heap.size w3) nq))
        have HF4:Hid (FrE R w1 (w3.drewN nq)):=HF3.out.trans (FrE.of_below (Go.below_drewN (Below.refl _ _) nq))
        generalize w3.drewN nq=w4 at HE4 HF4 ⊢
        clear g3 g5 f5 hR3 n0 hln3 HCMP
        obtain rfl:z=false:=hzc.symm.trans HCB.out
        clear hzc
        go_wp2
        go_roundw
        case rel=>exact by have h:=HREL.out none _ HE4.out HF4.out HO3.out;rw[hz0]at h;exact h
        case measure=>(simp[intOf];omega)
      ·by_cases hc1:cp2=t1.size
       ·rw[if_pos hc1]at hva
        by_cases hc2:cp2=bf
        ·rw[if_pos hc2,if_pos hc1]at hvb
         subst hva hvb
         by_cases hcz:cz<0
         ·have hcb:decide (cz<0)=true:=decide_eq_true hcz
          have HO3:Hid (∀o3:Option Int,o3.isSome=true→(l2=false→o3.isSome=((none:Option Int).isSome||(true&&below b' last)))):=fun o3 h=>HZZ.out o3 (by rw[h,←HZ.out,hcb])
          clear HZZ HZ HDZ HBE
          go_wp2_with fail
          go_quiet ((go_at_call 184;exact Calls.quiet_of_same (HCMP.out _)))
          have HE4:=hide (HE3.out.below (Go.below_drewN (Below.refl w3.heap.size w3) nq))
          have HF4:Hid (FrE R w1 (w3.drewN nq)):=HF3.out.trans (FrE.of_below (Go.below_drewN (Below.refl _ _) nq))
          generalize w3.drewN nq=w4 at HE4 HF4 ⊢
          clear g3 g5 f5 hR3 n0 hln3 HCMP
          have cO:=(HC.out.lay.below HE4.out.bel).s.cOrder
          have hgO:=lt_of_cell cO
          simp only at hgO
          obtain⟨tv4,hown4,_⟩:=HE4.out.own
          unfold ewObj at hown4
          have f4:w4.frozen? ⟨R,5,none⟩=false:=by simp[World.frozen?,hown4]
          have g4:w4.cell? ⟨R,5,none⟩=some (ovV sn none):=by simp[World.cell?,hown4]
          unfold ovV at g4
          have hR4:R<w4.heap.size:=lt_of_cell g4
          clear hown4
          go_wp2_with fail
          refine(HAT.out _).mono ?_
          rintro e w5 ⟨rfl,rfl⟩
          go_wp2
          go_roundw
          case rel=>exact HREL.out (some (x:Int)) _ (HE4.out.setOrder (fault x (sn .Order))) (HF4.out.trans (FrE.set 5 _)) (HO3.out _ rfl)
          case measure=>(simp[intOf];omega)
         ·have hcb:decide (cz<0)=false:=decide_eq_false hcz
          have HCB:=hide hcb
          have HO3:Hid (l2=false→(none:Option Int).isSome=((none:Option Int).isSome||(true&&below b' last))):=HZZ.out none (by rw[←HZ.out,hcb];rfl)
          clear HZZ HZ HDZ HBE hcz hcb
          go_wp2_with fail
          go_quiet ((go_at_call 184;exact Calls.quiet_of_same (HCMP.out _)))
          have HE4:=hide (HE3.out.below (Go.below_drewN (Below.refl w3.heap.size w3) nq))
          have HF4:Hid (FrE R w1 (w3.drewN nq)):=HF3.out.trans (FrE.of_below (Go.below_drewN (Below.refl _ _) nq))
          generalize w3.drewN nq=w4 at HE4 HF4 ⊢
          clear g3 g5 f5 hR3 n0 hln3 HCMP
          obtain rfl:z=false:=hzc.symm.trans HCB.out
          clear hzc
          go_wp2
          go_roundw
          case rel=>exact HREL.out none _ HE4.out HF4.out HO3.out
          case measure=>(simp[intOf];omega)
        ·rw[if_neg hc2,if_pos hc1]at hvb
         subst hva hvb
         by_cases hcz:cz<0
         ·have hcb:decide (cz<0)=true:=decide_eq_true hcz
          have HO3:Hid (∀o3:Option Int,o3.isSome=true→(l2=false→o3.isSome=((none:Option Int).isSome||(true&&below b' last)))):=fun o3 h=>HZZ.out o3 (by rw[h,←HZ.out,hcb])
          clear HZZ HZ HDZ HBE
          go_wp2_with fail
          go_quiet ((go_at_call 184;exact Calls.quiet_of_same (HCMP.out _)))
          have HE4:=hide (HE3.out.below (Go.below_drewN (Below.refl w3.heap.size w3) nq))
          have HF4:Hid (FrE R w1 (w3.drewN nq)):=HF3.out.trans (FrE.of_below (Go.below_drewN (Below.refl _ _) nq))
          generalize w3.drewN nq=w4 at HE4 HF4 ⊢
          clear g3 g5 f5 hR3 n0 hln3 HCMP
          have cO:=(HC.out.lay.below HE4.out.bel).s.cOrder
          have hgO:=lt_of_cell cO
          simp only at hgO
          obtain⟨tv4,hown4,_⟩:=HE4.out.own
          unfold ewObj at hown4
          have f4:w4.frozen? ⟨R,5,none⟩=false:=by simp[World.frozen?,hown4]
          have g4:w4.cell? ⟨R,5,none⟩=some (ovV sn none):=by simp[World.cell?,hown4]
          unfold ovV at g4
          have hR4:R<w4.heap.size:=lt_of_cell g4
          clear hown4
          go_wp2_with fail
          refine(HAT.out _).mono ?_
          rintro e w5 ⟨rfl,rfl⟩
          go_wp2
          go_roundw
          case rel=>exact HREL.out (some (x:Int)) _ (HE4.out.setOrder (fault x (sn .Order))) (HF4.out.trans (FrE.set 5 _)) (HO3.out _ rfl)
          case measure=>(simp[intOf];omega)
         ·have hcb:decide (cz<0)=false:=decide_eq_false hcz
          have HCB:=hide hcb
          have HO3:Hid (l2=false→(none:Option Int).isSome=((none:Option Int).isSome||(true&&below b' last))):=HZZ.out none (by rw[←HZ.out,hcb];rfl)
          clear HZZ HZ HDZ HBE hcz hcb
          go_wp2_with fail
          go_quiet ((go_at_call 184;exact Calls.quiet_of_same (HCMP.out _)))
          have HE4:=hide (HE3.out.below (Go.below_drewN (Below.refl w3.heap.size w3) nq))
          have HF4:Hid (FrE R w1 (w3.drewN nq)):=HF3.out.trans (FrE.of_below (Go.below_drewN (Below.refl _ _) nq))
          generalize w3.drewN nq=w4 at HE4 HF4 ⊢
          clear g3 g5 f5 hR3 n0 hln3 HCMP
          obtain rfl:z=false:=hzc.symm.trans HCB.out
          clear hzc
          go_wp2
          go_roundw
          case rel=>exact HREL.out none _ HE4.out HF4.out HO3.out
          case measure=>(simp[intOf];omega)
       ·have hc2:¬cp2=bf:=by omega
        rw[if_neg hc1]at hva
        rw[if_neg hc2,if_neg hc1]at hvb
        subst hva hvb
        by_cases hcz:cz<0
        ·have hcb:decide (cz<0)=true:=decide_eq_true hcz
         have HO3:Hid (∀o3:Option Int,o3.isSome=true→(l2=false→o3.isSome=((none:Option Int).isSome||(true&&below b' last)))):=fun o3 h=>HZZ.out o3 (by rw[h,←HZ.out,hcb])
         clear HZZ HZ HDZ HBE
         go_wp2_with fail
         go_quiet ((go_at_call 184;exact Calls.quiet_of_same (HCMP.out _)))
         have HE4:=hide (HE3.out.below (Go.below_drewN (Below.refl w3.heap.size w3) nq))
         have HF4:Hid (FrE R w1 (w3.drewN nq)):=HF3.out.trans (FrE.of_below (Go.below_drewN (Below.refl _ _) nq))
         generalize w3.drewN nq=w4 at HE4 HF4 ⊢
         clear g3 g5 f5 hR3 n0 hln3 HCMP
         have cO:=(HC.out.lay.below HE4.out.bel).s.cOrder
         have hgO:=lt_of_cell cO
         simp only at hgO
         obtain⟨tv4,hown4,_⟩:=HE4.out.own
         unfold ewObj at hown4
         have f4:w4.frozen? ⟨R,5,none⟩=false:=by simp[World.frozen?,hown4]
         have g4:w4.cell? ⟨R,5,none⟩=some (ovV sn none):=by simp[World.cell?,hown4]
         unfold ovV at g4
         have hR4:R<w4.heap.size:=lt_of_cell g4
         clear hown4
         go_wp2_with fail
         refine(HAT.out _).mono ?_
         rintro e w5 ⟨rfl,rfl⟩
         go_wp2
         go_roundw
         case rel=>exact HREL.out (some (x:Int)) _ (HE4.out.setOrder (fault x (sn .Order))) (HF4.out.trans (FrE.set 5 _)) (HO3.out _ rfl)
         case measure=>(simp[intOf];omega)
        ·have hcb:decide (cz<0)=false:=decide_eq_false hcz
         have HCB:=hide hcb
         have HO3:Hid (l2=false→(none:Option Int).isSome=((none:Option Int).isSome||(true&&below b' last))):=HZZ.out none (by rw[←HZ.out,hcb];rfl)
         clear HZZ HZ HDZ HBE hcz hcb
         go_wp2_with fail
         go_quiet ((go_at_call 184;exact Calls.quiet_of_same (HCMP.out _)))
         have HE4:=hide (HE3.out.below (Go.below_drewN (Below.refl w3.heap.size w3) nq))
         have HF4:Hid (FrE R w1 (w3.drewN nq)):=HF3.out.trans (FrE.of_below (Go.below_drewN (Below.refl _ _) nq))
         generalize w3.drewN nq=w4 at HE4 HF4 ⊢
         clear g3 g5 f5 hR3 n0 hln3 HCMP
         obtain rfl:z=false:=hzc.symm.trans HCB.out
         clear hzc
         go_wp2
         go_roundw
         case rel=>exact HREL.out none _ HE4.out HF4.out HO3.out
         case measure=>(simp[intOf];omega)
    ·have hKb:(K==12)=false:=by simpa using hK
     obtain rfl:set=false:=by rw[←HSET.out];simpa using hK
     go_wp2_with fail
     go_quiet (fail)
     have HE4:=hide (HE3.out.below (Go.below_drewN (Below.refl w3.heap.size w3) nq))
     have HF4:Hid (FrE R w1 (w3.drewN nq)):=HF3.out.trans (FrE.of_below (Go.below_drewN (Below.refl _ _) nq))
     generalize w3.drewN nq=w4 at HE4 HF4 ⊢
     clear g3 g5 f5 hR3 n0 hln3
     go_wp2
     go_roundw
     case rel=>exact HREL.out o2 _ HE4.out HF4.out (fun _=>by simp)
     case measure=>(simp[intOf];omega)
   ·have HE3:=hide hE3
    have HF3:Hid (FrE R w w3):=(FrE.of_below HB1.out).trans (HFR2.out.trans hF3)
    have HX3:Hid (r=none):=by
     rcases HST.out r1 HR1.out with h2|⟨b2,x2,u2,h2,h3⟩
     ·exact h2.2
     ·rw[hq]at h2;cases h2
    clear hF3 hE3 hq
    unfold fault
    go_wp2
    go_ret
    exact⟨HF3.out,.inr ⟨HX3.out,p,x',t2,l2,ov,rfl,HE3.out⟩⟩
  ·have HX:Hid (r=some (out,x,u)):=by
    have h:=HEE.out
    cases m with
    |zero=>cases h
    |succ m=>
     unfold wmanyF at h
     rw[if_neg (by omega)]at h
     injection h with h
     exact h.symm
   have hge:¬(k:Int)<kids:=hlt
   go_wp2
   go_ret
   exact⟨(FrE.of_below HB1.out).trans HFR.out,.inl ⟨out,x,u,t1,l1,o1,HX.out,rfl,HT.out,HEW.out⟩⟩
theorem fhead_any(c n:Int)(b:Bool)(l:Int)(w:World):
 Calls Tryz.prog 155 #[.agg #[.int .i64 c,.int .i64 n,.bool b],.int .i64 l] w fun e w'=>e= .returned (.agg #[.int .i64 c,.bool b,.int .i64 n,.int .i64 0,.int .i64 l])∧Below w.heap.size w w':=by
 have HB:Hid (Below w.heap.size w w):=Below.refl _ _
 go_enter Tryz.func155,Tryz.ntmps155
 go_wp2
 refine bodyPost_ret (v:= .agg #[.int .i64 c,.bool b,.int .i64 n,.int .i64 0,.int .i64 l]) (by simp[results,Tryz.results155,go_sem]) rfl ⟨rfl,?_⟩
 exact((Below.refl _ _).alloc (Nat.le_refl _) _).alloc (by simp) _
theorem tell_hd(c n:Int)(b:Bool)(l:Nat)(w:World)(sn:Sn→Addr)(hs:Sent w sn)(q1:0≤c)(q2:c≤3)(q3:0≤n)(q4:n≤30)(q5:l≤16777215):
 Calls Tryz.prog 154 #[.agg #[.int .i64 c,.bool b,.int .i64 n,.int .i64 0,.int .i64 l]] w fun e w'=>e= .returned (.tuple #[.string (hdB c b n l),.nilIface])∧Below w.heap.size w w':=by
 have h:=tell_any ⟨c,b,n,0,l⟩ w sn hs
 have e:tsp ⟨c,b,n,0,(l:Int)⟩=(0,UInt8.ofNat (fb ⟨c,b,n,0,(l:Int)⟩).toNat::tl (l:Int)):=by
  unfold tsp
  rw[if_neg (by simp only;omega),if_neg (by simp only;omega)]
 rw[e]at h
 exact h
def AfterV(W:World)(R:Nat)(a:Option Addr)(m c:Nat)(ta:Option Addr)(tn tc x:Nat)(told:ByteArray)(lg:Bool)(ov:Value)(st:Nat)(cl:Int)(bt:Bool)(nu:Int)(w:World)(e:Ending)(w':World):Prop:=
 AfterI W R a m c ta tn tc x told lg ov st (hdB cl bt nu (told.size-st)) w e w'
theorem wrap_any(W w:World)(R:Nat)(a:Option Addr)(m c:Nat)(ta:Option Addr)(tn tc x:Nat)(told:ByteArray)(lg:Bool)(ov:Value)(sn:Sn→Addr)(hl:Lay W sn)(st:Nat)(cl nu:Int)(bt:Bool)(q1:0≤cl)(q2:cl≤3)(q3:0≤nu)(q4:nu≤30)(hp:st≤told.size)(h4:told.size≤4000)(hI:EwD W w R a m c ta tn tc x told lg ov):
 Calls Tryz.prog 113 #[.pointer (some ⟨R,0,none⟩),.int .i64 st,.agg #[.int .i64 cl,.int .i64 nu,.bool bt]] w fun e w'=>AfterV W R a m c ta tn tc x told lg ov st cl bt nu w e w':=by
 have HI:=hide hI
 have HL:=hide hl
 obtain⟨tv,hown,hrow⟩:=hI.own
 obtain⟨bs,cp,rfl,hc1,hc2,hbs⟩:=own8 hrow
 have HG:=hide hown
 have HW1:Hid (∀A,Below w.heap.size w (w.alloc A)):=fun A=>(Below.refl _ _).alloc (Nat.le_refl _) A
 have HFH:Hid (∀wq l,Calls Tryz.prog 155 #[.agg #[.int .i64 cl,.int .i64 nu,.bool bt],.int .i64 l] wq fun e w'=>e= .returned (.agg #[.int .i64 cl,.bool bt,.int .i64 nu,.int .i64 0,.int .i64 l])∧Below wq.heap.size wq w'):=fun wq l=>fhead_any cl nu bt l wq
 obtain⟨D,hD⟩:∃D:Nat,told.size-st=D:=⟨_,rfl⟩
 have hDi:(told.size:Int)-(st:Int)=(D:Int):=by omega
 have hD4:D≤4000:=by omega
 have HTL:Hid (∀wq,Below w.heap.size w wq→Calls Tryz.prog 154 #[.agg #[.int .i64 cl,.bool bt,.int .i64 nu,.int .i64 0,.int .i64 D]] wq fun e w'=>e= .returned (.tuple #[.string (hdB cl bt nu D),.nilIface])∧Below wq.heap.size wq w'):=fun wq q=>tell_hd cl nu bt D wq sn ((HL.out.below HI.out.bel).below q).s q1 q2 q3 q4 (by omega)
 have hhs:(hdB cl bt nu D).size≤140737488355328:=by
  have:=tl_le D
  unfold hdB
  rw[size_mk,List.length_cons]
  omega
 have HIN:Hid (∀wq,EwD W wq R a m c ta tn tc x told lg ov→Calls Tryz.prog 149 #[.pointer (some ⟨R,0,none⟩),.int .i64 st,.string (hdB cl bt nu D)] wq fun e w'=>AfterI W R a m c ta tn tc x told lg ov st (hdB cl bt nu D) wq e w'):=fun wq q=>insert_any W wq R a m c ta tn tc x told lg ov st (hdB cl bt nu D) hp h4 hhs q
 unfold AfterV
 rw[hD]
 have HS:Hid (∀wq,Below w.heap.size w wq→wq.cell? ⟨R,3,none⟩=some (.slice bs told.size cp)):=fun wq q=>by
  have h:=block_below HG.out q
  unfold ewObj at h
  simp[World.cell?,h]
 have hRl:R<w.heap.size:=row_lt hown
 have hwr:IntKind.i64.wrap ((told.size:Int)-(st:Int))=(D:Int):=by
  rw[hDi]
  simp[IntKind.wrap,IntKind.bits,IntKind.signed]
  omega
 have hwr2:IntKind.i64.wrap (D:Int)=(D:Int):=by
  simp[IntKind.wrap,IntKind.bits,IntKind.signed]
  omega
 clear hI hl hown hrow hbs hD q1 q2 q3 q4 hhs
 go_enter Tryz.func113,Tryz.ntmps113
 go_wp2_with fail
 generalize hW1:w.alloc (.cells #[.int .i64 cl,.int .i64 nu,.bool bt] 149)=w1
 have hB1:Below w.heap.size w w1:=by rw[←hW1];exact HW1.out _
 have hG1:w1.heap[w.heap.size]? =some (.cells #[.int .i64 cl,.int .i64 nu,.bool bt] 149 (0,0)):=by rw[←hW1];exact heap_alloc_new w _
 have HB1:=hide hB1
 have HST:Hid (∀wq,Below w1.heap.size w1 wq→wq.cell? ⟨R,3,none⟩=some (.slice bs told.size cp)∧wq.cell? ⟨w.heap.size,0,none⟩=some (.int .i64 cl)∧wq.cell? ⟨w.heap.size,1,none⟩=some (.int .i64 nu)∧wq.cell? ⟨w.heap.size,2,none⟩=some (.bool bt)):=fun wq q=>
  ⟨HS.out wq (HB1.out.trans (q.mono HB1.out.size)),cell_of_row (block_below hG1 q) rfl,cell_of_row (block_below hG1 q) rfl,cell_of_row (block_below hG1 q) rfl⟩
 obtain⟨k0,k1,k2,k3⟩:=HST.out w1 (Below.refl _ _)
 have hl1:=row_lt hG1
 have hR1:R<w1.heap.size:=by have:=hB1.size;omega
 clear hW1 hB1 hG1
 go_region_held_law (fun w'=>w'.cell? ⟨R,3,none⟩=some (.slice bs told.size cp)∧w'.cell? ⟨w.heap.size,0,none⟩=some (.int .i64 cl)∧w'.cell? ⟨w.heap.size,1,none⟩=some (.int .i64 nu)∧w'.cell? ⟨w.heap.size,2,none⟩=some (.bool bt)) (first|exact HST.out _ HB3.out|exact HST.out _ HB2.out|exact HST.out _ (Below.refl _ _).drew |go_keep) (first|(go_at_call 155;refine(HFH.out _ _).mono ?_;rintro e w2 ⟨rfl,hb2⟩;have HB2:Hid (Below w1.heap.size w1 w2):=(Below.refl w1.heap.size w1).drew.trans hb2;clear hb2)|(go_at_call 154;refine(HTL.out _ (HB1.out.trans (HB2.out.mono HB1.out.size))).mono ?_;rintro e w3 ⟨rfl,hb3⟩;have HB3:Hid (Below w1.heap.size w1 w3):=HB2.out.trans (hb3.mono HB2.out.size);clear hb3))
 rename_i hHeld
 clear hHeld
 go_wp2_with fail
 refine(HIN.out _ (HI.out.below (HB1.out.trans (HB3.out.mono HB1.out.size)))).mono ?_
 rintro e w4 ⟨rfl,hF4,t4,l4,hi4,hE4⟩
 have HF4:=hide hF4
 have HI4:=hide hi4
 have HE4:=hide hE4
 clear hF4 hi4 hE4
 go_wp2
 go_returns
 exact⟨rfl,(FrX.of_below (HB1.out.trans (HB3.out.mono HB1.out.size))).trans HF4.out,t4,l4,HI4.out,HE4.out⟩
theorem own14_e(E:WEnv)(W:World)(R:Nat)(a:Option Addr)(c:Nat)(ta:Option Addr)(tc f:Nat)(sn:Sn→Addr)(hc:EC E W a ta sn)(htc:E.t.length≤tc)(hN:NodeE E W R a c ta tc sn f)(hf1:1≤f)(i:Nat)(hi:i<E.s.length)(ka:Option Addr)(kc:Nat)(hka:KidsIn W ka (nd E.s i).kids)(hkc:(nd E.s i).kids.length≤kc)(hkm:kc≤maxLen)
 (x:Nat)(dp:Int)(r:WOut)(t0:ByteArray)(l0:Bool)(o0:Option Int)(w:World)(hfit:FitP (nd E.s i) (vl E.t x))(e:wbareF E (wrF E f) f (nd E.s i) (wcl (nd E.s i)) (wnu (nd E.s i)) (vl E.t x) (x+1) dp=some r)(hx:x<E.t.length)(hfx:E.t.length+1≤f+(x+1))(hd1:1≤dp)(hd2:dp≤12)(h4:t0.size≤4000)(hI:EwD W w R a E.s.length c ta E.t.length tc (x+1) t0 l0 (ovV sn o0))(hk:(nd E.s i).kind=14):
 Calls Tryz.prog 111 #[.pointer (some ⟨R,0,none⟩),.agg #[.int .i64 (nd E.s i).kind,.int .i64 (nd E.s i).tag,.int .i64 (nd E.s i).mode,.slice ka (nd E.s i).kids.length kc],.agg #[.int .i64 (vl E.t x).kind,.string (vl E.t x).text,.int .i64 (vl E.t x).alt,.int .i64 (vl E.t x).kids],.int .i64 dp] w fun e w'=>AfterE E W R a c ta tc sn r t0 l0 o0 w e w':=by
 have HC:=hide hc
 have HI:=hide hI
 have htx:=hc.txt hx
 have hwnb:=wnu_bd hc.wc.right hi
 obtain⟨hk1,hk14,hT1,hT2,hT3,hT4,hT5⟩:=tagged_of hc.wc.right hi
 have hnums:=hc.lay.n
 obtain⟨bs,cp,hform⟩:∃bs cp,∃tvx,tvx=Value.slice bs t0.size cp∧w.heap[R]? =some (ewObj a E.s.length c ta E.t.length tc (x+1) tvx l0 (ovV sn o0)):=by
  obtain⟨tv,h1,h2⟩:=hI.own
  obtain⟨bs,cp,rfl,_⟩:=own8 h2
  exact⟨bs,cp,_,rfl,h1⟩
 obtain⟨_,rfl,hown⟩:=hform
 have hRl:R<w.heap.size:=row_lt hown
 have HX:Hid (r=some ((vl E.t x).text,x+1,false)):=by
  have h:=e
  unfold wbareF at h
  rw[if_neg (by omega),if_pos hk,if_pos ((fit14 hk hfit.1).1 hfit)]at h
  injection h with h
  exact h.symm
 rw[hk]
 obtain⟨K,hK⟩:∃K:Int,K=14:=⟨_,rfl⟩
 generalize hTG:(nd E.s i).tag=TG
 generalize hMD:(nd E.s i).mode=MD
 generalize hKL:(nd E.s i).kids.length=KL
 generalize hVK:(vl E.t x).kind=VK
 generalize hVT:(vl E.t x).text=VT at HX htx ⊢
 generalize hVA:(vl E.t x).alt=VA
 generalize hVD:(vl E.t x).kids=VD
 have HIN:Hid (∀wq,EwD W wq R a E.s.length c ta E.t.length tc (x+1) t0 l0 (ovV sn o0)→Calls Tryz.prog 149 #[.pointer (some ⟨R,0,none⟩),.int .i64 t0.size,.string VT] wq fun e w'=>AfterI W R a E.s.length c ta E.t.length tc (x+1) t0 l0 (ovV sn o0) t0.size VT wq e w'):=fun wq q=>insert_any W wq R a E.s.length c ta E.t.length tc (x+1) t0 l0 (ovV sn o0) t0.size VT (Nat.le_refl _) h4 (by omega) q
 have hB1:Below w.heap.size w ((w.alloc (.cells #[.int .i64 14,.int .i64 TG,.int .i64 MD,.slice ka KL kc] 58)).alloc (.cells #[.int .i64 VK,.string VT,.int .i64 VA,.int .i64 VD] 60)):=((Below.refl w.heap.size w).alloc (Nat.le_refl _) _).alloc (by simp) _
 have hG1:((w.alloc (.cells #[.int .i64 14,.int .i64 TG,.int .i64 MD,.slice ka KL kc] 58)).alloc (.cells #[.int .i64 VK,.string VT,.int .i64 VA,.int .i64 VD] 60)).heap[w.heap.size]? =some (.cells #[.int .i64 14,.int .i64 TG,.int .i64 MD,.slice ka KL kc] 58 (0,0)):=block_below (heap_alloc_new w _) ((Below.refl _ _).alloc (Nat.le_refl _) _)
 have hG2:((w.alloc (.cells #[.int .i64 14,.int .i64 TG,.int .i64 MD,.slice ka KL kc] 58)).alloc (.cells #[.int .i64 VK,.string VT,.int .i64 VA,.int .i64 VD] 60)).heap[w.heap.size+1]? =some (.cells #[.int .i64 VK,.string VT,.int .i64 VA,.int .i64 VD] 60 (0,0)):=by simpa using heap_alloc_new (w.alloc (.cells #[.int .i64 14,.int .i64 TG,.int .i64 MD,.slice ka KL kc] 58)) (.cells #[.int .i64 VK,.string VT,.int .i64 VA,.int .i64 VD] 60)
 have hg3:=block_below hown hB1
 unfold ewObj at hg3
 have c3:((w.alloc (.cells #[.int .i64 14,.int .i64 TG,.int .i64 MD,.slice ka KL kc] 58)).alloc (.cells #[.int .i64 VK,.string VT,.int .i64 VA,.int .i64 VD] 60)).cell? ⟨R,3,none⟩=some (.slice bs t0.size cp):=by simp[World.cell?,hg3]
 clear hown hg3
 clear hc hI e hfit hwnb hT1 hT2 hT3 hT4 hT5 hnums hTG hMD hKL hVK hVT hVA hVD hk hk1 hk14 hK hka hN
 go_enter Tryz.func111,Tryz.ntmps111
 go_upto_region 1 with fail
 obtain⟨nb,hnb⟩:∃nb,w.heap.size=nb:=⟨_,rfl⟩
 obtain⟨vb,hvb⟩:∃vb,w.heap.size+1=vb:=⟨_,rfl⟩
 rw[hvb]at hG2 ⊢
 rw[hnb]at hG1 ⊢
 generalize(w.alloc (.cells #[.int .i64 14,.int .i64 TG,.int .i64 MD,.slice ka KL kc] 58)).alloc (.cells #[.int .i64 VK,.string VT,.int .i64 VA,.int .i64 VD] 60)=w1 at hB1 hG1 hG2 c3 ⊢
 have hneN:nb≠R:=by omega
 have HB1:=hide hB1
 have HG1:=hide hG1
 have HI1:=hide (HI.out.below hB1)
 have v1:w1.cell? ⟨vb,1,none⟩=some (.string VT):=cell_of_row hG2 rfl
 have v3:w1.cell? ⟨vb,3,none⟩=some (.int .i64 VD):=cell_of_row hG2 rfl
 have k0:w1.cell? ⟨nb,0,none⟩=some (.int .i64 14):=cell_of_row hG1 rfl
 have k1:w1.cell? ⟨nb,1,none⟩=some (.int .i64 TG):=cell_of_row hG1 rfl
 have k2:w1.cell? ⟨nb,2,none⟩=some (.int .i64 MD):=cell_of_row hG1 rfl
 have k3:w1.cell? ⟨nb,3,none⟩=some (.slice ka KL kc):=cell_of_row hG1 rfl
 have hR1:R<w1.heap.size:=lt_of_cell c3
 have hlv:=row_lt hG2
 have hln:=row_lt hG1
 clear hB1 hG1 hG2 hnb hvb
 go_wp2_with fail
 refine(HIN.out _ HI1.out).mono ?_
 rintro e w2 ⟨rfl,hF2,t2,l2,hi2,hE2⟩
 have HF2:=hide hF2
 have HI2:=hide hi2
 have HE2:=hide hE2
 clear hF2 hi2 hE2
 go_wp2
 go_ret
 exact⟨(FrE.of_below HB1.out).trans HF2.out.fr,.inl ⟨_,_,_,t2,l2,_,HX.out,rfl,Tld.ofIns h4 HI2.out,HE2.out⟩⟩
theorem own9_e(E:WEnv)(W:World)(R:Nat)(a:Option Addr)(c:Nat)(ta:Option Addr)(tc f:Nat)(sn:Sn→Addr)(hc:EC E W a ta sn)(htc:E.t.length≤tc)(hN:NodeE E W R a c ta tc sn f)(hf1:1≤f)(i:Nat)(hi:i<E.s.length)(ka:Option Addr)(kc:Nat)(hka:KidsIn W ka (nd E.s i).kids)(hkc:(nd E.s i).kids.length≤kc)(hkm:kc≤maxLen)
 (x:Nat)(dp:Int)(r:WOut)(t0:ByteArray)(l0:Bool)(o0:Option Int)(w:World)(hfit:FitP (nd E.s i) (vl E.t x))(e:wbareF E (wrF E f) f (nd E.s i) (wcl (nd E.s i)) (wnu (nd E.s i)) (vl E.t x) (x+1) dp=some r)(hx:x<E.t.length)(hfx:E.t.length+1≤f+(x+1))(hd1:1≤dp)(hd2:dp≤12)(h4:t0.size≤4000)(hI:EwD W w R a E.s.length c ta E.t.length tc (x+1) t0 l0 (ovV sn o0))(hk:(nd E.s i).kind≤9):
 Calls Tryz.prog 111 #[.pointer (some ⟨R,0,none⟩),.agg #[.int .i64 (nd E.s i).kind,.int .i64 (nd E.s i).tag,.int .i64 (nd E.s i).mode,.slice ka (nd E.s i).kids.length kc],.agg #[.int .i64 (vl E.t x).kind,.string (vl E.t x).text,.int .i64 (vl E.t x).alt,.int .i64 (vl E.t x).kids],.int .i64 dp] w fun e w'=>AfterE E W R a c ta tc sn r t0 l0 o0 w e w':=by
 have HC:=hide hc
 have HI:=hide hI
 have htx:=hc.txt hx
 have hwnb:=wnu_bd hc.wc.right hi
 have hcn:=wnu_own (n:=nd E.s i) (by omega)
 obtain⟨hk1,hk14,hT1,hT2,hT3,hT4,hT5⟩:=tagged_of hc.wc.right hi
 have hnums:=hc.lay.n
 obtain⟨bs,cp,hform⟩:∃bs cp,∃tvx,tvx=Value.slice bs t0.size cp∧w.heap[R]? =some (ewObj a E.s.length c ta E.t.length tc (x+1) tvx l0 (ovV sn o0)):=by
  obtain⟨tv,h1,h2⟩:=hI.own
  obtain⟨bs,cp,rfl,_⟩:=own8 h2
  exact⟨bs,cp,_,rfl,h1⟩
 obtain⟨_,rfl,hown⟩:=hform
 have hRl:R<w.heap.size:=row_lt hown
 have HX:Hid (r=some (elB (wcl (nd E.s i)) false (wnu (nd E.s i)) (vl E.t x).text,x+1,false)):=by
  have h:=e
  have hf:=(fit9 (.inl (by omega)) hfit.1).1 hfit
  unfold wbareF at h
  rw[if_neg (by omega),if_neg (by omega),if_neg (by omega),if_neg (by omega),if_pos ⟨(hc.wc.ok _ _).2 hf.1,hf.2⟩]at h
  injection h with h
  exact h.symm
 obtain⟨CL,hCL⟩:∃CL,wcl (nd E.s i)=CL:=⟨_,rfl⟩
 obtain⟨NU,hNU⟩:∃NU,wnu (nd E.s i)=NU:=⟨_,rfl⟩
 rw[hCL,hNU]at hcn hwnb HX
 obtain⟨K,hK⟩:∃K,(nd E.s i).kind=K:=⟨_,rfl⟩
 rw[hK]at hk ⊢
 obtain⟨BT,hBT⟩:∃BT:Bool,BT=false:=⟨_,rfl⟩
 replace HX:Hid (r=some (elB CL BT NU (vl E.t x).text,x+1,false)):=by rw[hBT];exact HX.out
 generalize hTG:(nd E.s i).tag=TG
 generalize hMD:(nd E.s i).mode=MD
 generalize hKL:(nd E.s i).kids.length=KL
 generalize hVK:(vl E.t x).kind=VK
 generalize hVT:(vl E.t x).text=VT at HX htx ⊢
 generalize hVA:(vl E.t x).alt=VA
 generalize hVD:(vl E.t x).kids=VD
 have HIN:Hid (∀wq,EwD W wq R a E.s.length c ta E.t.length tc (x+1) t0 l0 (ovV sn o0)→Calls Tryz.prog 149 #[.pointer (some ⟨R,0,none⟩),.int .i64 t0.size,.string VT] wq fun e w'=>AfterI W R a E.s.length c ta E.t.length tc (x+1) t0 l0 (ovV sn o0) t0.size VT wq e w'):=fun wq q=>insert_any W wq R a E.s.length c ta E.t.length tc (x+1) t0 l0 (ovV sn o0) t0.size VT (Nat.le_refl _) h4 (by omega) q
 have HOW:Hid (∀wq,Below W.heap.size W wq→Calls Tryz.prog 152 #[.agg #[.int .i64 K,.int .i64 TG,.int .i64 MD,.slice ka KL kc]] wq fun e w'=>e= .returned (.agg #[.int .i64 CL,.int .i64 NU,.bool BT])∧Below wq.heap.size wq w'):=fun wq q=>by
  have:=own_all (nd E.s i) ka kc wq (HC.out.lay.below q).n (by omega) (by omega) (by omega)
  unfold fv at this
  rw[←hcn,hTG,hMD,hKL]at this
  rw[hK,decide_eq_false (by omega),←hBT]at this
  exact this
 have HWR:Hid (∀wq t1 l1 o1 x1,EwD W wq R a E.s.length c ta E.t.length tc x1 t1 l1 (ovV sn o1)→t0.size≤t1.size→t1.size≤4000→Calls Tryz.prog 113 #[.pointer (some ⟨R,0,none⟩),.int .i64 t0.size,.agg #[.int .i64 CL,.int .i64 NU,.bool BT]] wq fun e w'=>AfterI W R a E.s.length c ta E.t.length tc x1 t1 l1 (ovV sn o1) t0.size (hdB CL BT NU (t1.size-t0.size)) wq e w'):=fun wq t1 l1 o1 x1 q h1 h2=>wrap_any W wq R a E.s.length c ta E.t.length tc x1 t1 l1 (ovV sn o1) sn HC.out.lay t0.size CL NU BT hwnb.1 hwnb.2.1 hwnb.2.2.1 hwnb.2.2.2 h1 h2 q
 have hB1:Below w.heap.size w ((w.alloc (.cells #[.int .i64 K,.int .i64 TG,.int .i64 MD,.slice ka KL kc] 58)).alloc (.cells #[.int .i64 VK,.string VT,.int .i64 VA,.int .i64 VD] 60)):=((Below.refl w.heap.size w).alloc (Nat.le_refl _) _).alloc (by simp) _
 have hG1:((w.alloc (.cells #[.int .i64 K,.int .i64 TG,.int .i64 MD,.slice ka KL kc] 58)).alloc (.cells #[.int .i64 VK,.string VT,.int .i64 VA,.int .i64 VD] 60)).heap[w.heap.size]? =some (.cells #[.int .i64 K,.int .i64 TG,.int .i64 MD,.slice ka KL kc] 58 (0,0)):=block_below (heap_alloc_new w _) ((Below.refl _ _).alloc (Nat.le_refl _) _)
 have hG2:((w.alloc (.cells #[.int .i64 K,.int .i64 TG,.int .i64 MD,.slice ka KL kc] 58)).alloc (.cells #[.int .i64 VK,.string VT,.int .i64 VA,.int .i64 VD] 60)).heap[w.heap.size+1]? =some (.cells #[.int .i64 VK,.string VT,.int .i64 VA,.int .i64 VD] 60 (0,0)):=by simpa using heap_alloc_new (w.alloc (.cells #[.int .i64 K,.int .i64 TG,.int .i64 MD,.slice ka KL kc] 58)) (.cells #[.int .i64 VK,.string VT,.int .i64 VA,.int .i64 VD] 60)
 have hg3:=block_below hown hB1
 unfold ewObj at hg3
 have c3:((w.alloc (.cells #[.int .i64 K,.int .i64 TG,.int .i64 MD,.slice ka KL kc] 58)).alloc (.cells #[.int .i64 VK,.string VT,.int .i64 VA,.int .i64 VD] 60)).cell? ⟨R,3,none⟩=some (.slice bs t0.size cp):=by simp[World.cell?,hg3]
 clear hown hg3
 have b14:(K==14)=false:=by simp;omega
 have b10:(K==10)=false:=by simp;omega
 have b11:(K==11)=false:=by simp;omega
 have b12:(K==12)=false:=by simp;omega
 clear hc hI e hfit hcn hwnb hT1 hT2 hT3 hT4 hT5 hnums hTG hMD hKL hVK hVT hVA hVD hk hk1 hk14 hK hka hN hBT hCL hNU
 go_enter Tryz.func111,Tryz.ntmps111
 go_upto_region 1 with fail
 obtain⟨nb,hnb⟩:∃nb,w.heap.size=nb:=⟨_,rfl⟩
 obtain⟨vb,hvb⟩:∃vb,w.heap.size+1=vb:=⟨_,rfl⟩
 rw[hvb]at hG2 ⊢
 rw[hnb]at hG1 ⊢
 generalize(w.alloc (.cells #[.int .i64 K,.int .i64 TG,.int .i64 MD,.slice ka KL kc] 58)).alloc (.cells #[.int .i64 VK,.string VT,.int .i64 VA,.int .i64 VD] 60)=w1 at hB1 hG1 hG2 c3 ⊢
 have hneN:nb≠R:=by omega
 have HB1:=hide hB1
 have HG1:=hide hG1
 have HI1:=hide (HI.out.below hB1)
 have v1:w1.cell? ⟨vb,1,none⟩=some (.string VT):=cell_of_row hG2 rfl
 have v3:w1.cell? ⟨vb,3,none⟩=some (.int .i64 VD):=cell_of_row hG2 rfl
 have k0:w1.cell? ⟨nb,0,none⟩=some (.int .i64 K):=cell_of_row hG1 rfl
 have k1:w1.cell? ⟨nb,1,none⟩=some (.int .i64 TG):=cell_of_row hG1 rfl
 have k2:w1.cell? ⟨nb,2,none⟩=some (.int .i64 MD):=cell_of_row hG1 rfl
 have k3:w1.cell? ⟨nb,3,none⟩=some (.slice ka KL kc):=cell_of_row hG1 rfl
 have hR1:R<w1.heap.size:=lt_of_cell c3
 have hlv:=row_lt hG2
 have hln:=row_lt hG1
 clear hB1 hG1 hG2 hnb hvb
 go_wp2_with fail
 refine(HIN.out _ HI1.out).mono ?_
 rintro e w2 ⟨rfl,hF2,t2,l2,hi2,hE2⟩
 have HF2:Hid (FrE R w1 w2):=hF2.fr
 have HT2:Hid (Tld t0 l0 o0 VT false t2 l2 o0):=Tld.ofIns h4 hi2
 have HE2:=hide hE2
 clear hF2 hi2 hE2 k0 k1 k2 k3 v1 v3 c3 hln
 have kn:=HF2.out _ _ _ hneN (by decide) HG1.out
 have q0:w2.cell? ⟨nb,0,none⟩=some (.int .i64 K):=cell_of_row kn rfl
 have q1:w2.cell? ⟨nb,1,none⟩=some (.int .i64 TG):=cell_of_row kn rfl
 have q2:w2.cell? ⟨nb,2,none⟩=some (.int .i64 MD):=cell_of_row kn rfl
 have q3:w2.cell? ⟨nb,3,none⟩=some (.slice ka KL kc):=cell_of_row kn rfl
 have hlq:=row_lt kn
 clear kn
 go_wp2_with fail
 refine(HOW.out _ HE2.out.bel).mono ?_
 rintro e w8 ⟨rfl,hb8⟩
 have HB8:=hide hb8
 clear hb8
 go_wp2_with fail
 refine(HWR.out _ _ _ _ _ (HE2.out.below HB8.out) HT2.out.le HT2.out.mx).mono ?_
 rintro e w9 ⟨rfl,hF9,t9,l9,hi9,hE9⟩
 have HF9:=hide hF9
 have HI9:=hide hi9
 have HE9:=hide hE9
 clear hF9 hi9 hE9
 go_wp2
 go_ret
 exact⟨(FrE.of_below HB1.out).trans (HF2.out.trans ((FrE.of_below HB8.out).trans HF9.out.fr)),.inl ⟨_,_,_,t9,l9,_,HX.out,rfl,HT2.out.wrap HI9.out,HE9.out⟩⟩
theorem own10_e(E:WEnv)(W:World)(R:Nat)(a:Option Addr)(c:Nat)(ta:Option Addr)(tc f:Nat)(sn:Sn→Addr)(hc:EC E W a ta sn)(htc:E.t.length≤tc)(hN:NodeE E W R a c ta tc sn f)(hf1:1≤f)(i:Nat)(hi:i<E.s.length)(ka:Option Addr)(kc:Nat)(hka:KidsIn W ka (nd E.s i).kids)(hkc:(nd E.s i).kids.length≤kc)(hkm:kc≤maxLen)
 (x:Nat)(dp:Int)(r:WOut)(t0:ByteArray)(l0:Bool)(o0:Option Int)(w:World)(hfit:FitP (nd E.s i) (vl E.t x))(e:wbareF E (wrF E f) f (nd E.s i) (wcl (nd E.s i)) (wnu (nd E.s i)) (vl E.t x) (x+1) dp=some r)(hx:x<E.t.length)(hfx:E.t.length+1≤f+(x+1))(hd1:1≤dp)(hd2:dp≤12)(h4:t0.size≤4000)(hI:EwD W w R a E.s.length c ta E.t.length tc (x+1) t0 l0 (ovV sn o0))(hk:(nd E.s i).kind=10):
 Calls Tryz.prog 111 #[.pointer (some ⟨R,0,none⟩),.agg #[.int .i64 (nd E.s i).kind,.int .i64 (nd E.s i).tag,.int .i64 (nd E.s i).mode,.slice ka (nd E.s i).kids.length kc],.agg #[.int .i64 (vl E.t x).kind,.string (vl E.t x).text,.int .i64 (vl E.t x).alt,.int .i64 (vl E.t x).kids],.int .i64 dp] w fun e w'=>AfterE E W R a c ta tc sn r t0 l0 o0 w e w':=by
 have HC:=hide hc
 have HI:=hide hI
 have htx:=hc.txt hx
 have hwnb:=wnu_bd hc.wc.right hi
 have hcn:=wnu_own (n:=nd E.s i) (by omega)
 obtain⟨hk1,hk14,hT1,hT2,hT3,hT4,hT5⟩:=tagged_of hc.wc.right hi
 have hnums:=hc.lay.n
 obtain⟨bs,cp,hform⟩:∃bs cp,∃tvx,tvx=Value.slice bs t0.size cp∧w.heap[R]? =some (ewObj a E.s.length c ta E.t.length tc (x+1) tvx l0 (ovV sn o0)):=by
  obtain⟨tv,h1,h2⟩:=hI.own
  obtain⟨bs,cp,rfl,_⟩:=own8 h2
  exact⟨bs,cp,_,rfl,h1⟩
 obtain⟨_,rfl,hown⟩:=hform
 have hRl:R<w.heap.size:=row_lt hown
 obtain⟨r1,hr1,HX⟩:∃r1,wseqF E (wrF E f) dp (nd E.s i).kids (x+1) noB false=some r1∧Hid ((r1=none→r=none)∧∀b x' u,r1=some (b,x',u)→r=some (elB (wcl (nd E.s i)) true (wnu (nd E.s i)) b,x',u)):=by
  have h:=e
  unfold wbareF at h
  rw[if_neg (by omega),if_neg (by omega),if_pos hk,if_pos ((fit10 hk hfit.1).1 hfit)]at h
  rcases wandThen_cases h with⟨h1,h2⟩|⟨b,x',u,h1,h2⟩
  ·exact⟨none,h1,fun _=>h2,fun _ _ _ q=>by cases q⟩
  ·refine⟨_,h1,fun q=>(by cases q),fun b' x'' u' q=>?_⟩
   injection q with q
   injection q with e1 q
   injection q with e2 e3
   subst e1 e2 e3
   injection h2 with h2
   exact h2.symm
 obtain⟨CL,hCL⟩:∃CL,wcl (nd E.s i)=CL:=⟨_,rfl⟩
 obtain⟨NU,hNU⟩:∃NU,wnu (nd E.s i)=NU:=⟨_,rfl⟩
 rw[hCL,hNU]at hcn hwnb HX
 obtain⟨K,hK⟩:∃K,(nd E.s i).kind=K:=⟨_,rfl⟩
 rw[hK]at hk ⊢
 obtain⟨BT,hBT⟩:∃BT:Bool,BT=true:=⟨_,rfl⟩
 rw[←hBT]at HX
 have HCA:Hid (∀wq,EwD W wq R a E.s.length c ta E.t.length tc (x+1) t0 l0 (ovV sn o0)→Calls Tryz.prog 150 #[.pointer (some ⟨R,0,none⟩),.agg #[.int .i64 K,.int .i64 (nd E.s i).tag,.int .i64 (nd E.s i).mode,.slice ka (nd E.s i).kids.length kc],.int .i64 dp] wq fun e w'=>AfterE E W R a c ta tc sn r1 t0 l0 o0 wq e w'):=fun wq q=>by
  rw[←hK]
  exact eseq_any E W R a c ta tc f sn hc htc hN hf1 i hi ka kc hka hkc hkm (x+1) dp r1 t0 l0 o0 wq hr1 hx hfx hd1 hd2 h4 q
 generalize hTG:(nd E.s i).tag=TG at HCA ⊢
 generalize hMD:(nd E.s i).mode=MD at HCA ⊢
 generalize hKL:(nd E.s i).kids.length=KL at HCA ⊢
 generalize hVK:(vl E.t x).kind=VK
 generalize hVT:(vl E.t x).text=VT
 generalize hVA:(vl E.t x).alt=VA
 generalize hVD:(vl E.t x).kids=VD at HCA ⊢
 have HOW:Hid (∀wq,Below W.heap.size W wq→Calls Tryz.prog 152 #[.agg #[.int .i64 K,.int .i64 TG,.int .i64 MD,.slice ka KL kc]] wq fun e w'=>e= .returned (.agg #[.int .i64 CL,.int .i64 NU,.bool BT])∧Below wq.heap.size wq w'):=fun wq q=>by
  have:=own_all (nd E.s i) ka kc wq (HC.out.lay.below q).n (by omega) (by omega) (by omega)
  unfold fv at this
  rw[←hcn,hTG,hMD,hKL]at this
  rw[hK,decide_eq_true (by omega),←hBT]at this
  exact this
 have HWR:Hid (∀wq t1 l1 o1 x1,EwD W wq R a E.s.length c ta E.t.length tc x1 t1 l1 (ovV sn o1)→t0.size≤t1.size→t1.size≤4000→Calls Tryz.prog 113 #[.pointer (some ⟨R,0,none⟩),.int .i64 t0.size,.agg #[.int .i64 CL,.int .i64 NU,.bool BT]] wq fun e w'=>AfterI W R a E.s.length c ta E.t.length tc x1 t1 l1 (ovV sn o1) t0.size (hdB CL BT NU (t1.size-t0.size)) wq e w'):=fun wq t1 l1 o1 x1 q h1 h2=>wrap_any W wq R a E.s.length c ta E.t.length tc x1 t1 l1 (ovV sn o1) sn HC.out.lay t0.size CL NU BT hwnb.1 hwnb.2.1 hwnb.2.2.1 hwnb.2.2.2 h1 h2 q
 have hB1:Below w.heap.size w ((w.alloc (.cells #[.int .i64 K,.int .i64 TG,.int .i64 MD,.slice ka KL kc] 58)).alloc (.cells #[.int .i64 VK,.string VT,.int .i64 VA,.int .i64 VD] 60)):=((Below.refl w.heap.size w).alloc (Nat.le_refl _) _).alloc (by simp) _
 have hG1:((w.alloc (.cells #[.int .i64 K,.int .i64 TG,.int .i64 MD,.slice ka KL kc] 58)).alloc (.cells #[.int .i64 VK,.string VT,.int .i64 VA,.int .i64 VD] 60)).heap[w.heap.size]? =some (.cells #[.int .i64 K,.int .i64 TG,.int .i64 MD,.slice ka KL kc] 58 (0,0)):=block_below (heap_alloc_new w _) ((Below.refl _ _).alloc (Nat.le_refl _) _)
 have hG2:((w.alloc (.cells #[.int .i64 K,.int .i64 TG,.int .i64 MD,.slice ka KL kc] 58)).alloc (.cells #[.int .i64 VK,.string VT,.int .i64 VA,.int .i64 VD] 60)).heap[w.heap.size+1]? =some (.cells #[.int .i64 VK,.string VT,.int .i64 VA,.int .i64 VD] 60 (0,0)):=by simpa using heap_alloc_new (w.alloc (.cells #[.int .i64 K,.int .i64 TG,.int .i64 MD,.slice ka KL kc] 58)) (.cells #[.int .i64 VK,.string VT,.int .i64 VA,.int .i64 VD] 60)
 have hg3:=block_below hown hB1
 unfold ewObj at hg3
 have c3:((w.alloc (.cells #[.int .i64 K,.int .i64 TG,.int .i64 MD,.slice ka KL kc] 58)).alloc (.cells #[.int .i64 VK,.string VT,.int .i64 VA,.int .i64 VD] 60)).cell? ⟨R,3,none⟩=some (.slice bs t0.size cp):=by simp[World.cell?,hg3]
 clear hown hg3
 clear hc hI e hfit hcn hwnb hT1 hT2 hT3 hT4 hT5 hnums hTG hMD hKL hVK hVT hVA hVD hK hk1 hk14 hka hN hBT hCL hNU
 subst hk
 go_enter Tryz.func111,Tryz.ntmps111
 go_upto_region 1 with fail
 obtain⟨nb,hnb⟩:∃nb,w.heap.size=nb:=⟨_,rfl⟩
 obtain⟨vb,hvb⟩:∃vb,w.heap.size+1=vb:=⟨_,rfl⟩
 rw[hvb]at hG2 ⊢
 rw[hnb]at hG1 ⊢
 generalize(w.alloc (.cells #[.int .i64 10,.int .i64 TG,.int .i64 MD,.slice ka KL kc] 58)).alloc (.cells #[.int .i64 VK,.string VT,.int .i64 VA,.int .i64 VD] 60)=w1 at hB1 hG1 hG2 c3 ⊢
 have hneN:nb≠R:=by omega
 have HB1:=hide hB1
 have HG1:=hide hG1
 have HI1:=hide (HI.out.below hB1)
 have v1:w1.cell? ⟨vb,1,none⟩=some (.string VT):=cell_of_row hG2 rfl
 have v3:w1.cell? ⟨vb,3,none⟩=some (.int .i64 VD):=cell_of_row hG2 rfl
 have k0:w1.cell? ⟨nb,0,none⟩=some (.int .i64 10):=cell_of_row hG1 rfl
 have k1:w1.cell? ⟨nb,1,none⟩=some (.int .i64 TG):=cell_of_row hG1 rfl
 have k2:w1.cell? ⟨nb,2,none⟩=some (.int .i64 MD):=cell_of_row hG1 rfl
 have k3:w1.cell? ⟨nb,3,none⟩=some (.slice ka KL kc):=cell_of_row hG1 rfl
 have hR1:R<w1.heap.size:=lt_of_cell c3
 have hlv:=row_lt hG2
 have hln:=row_lt hG1
 clear hB1 hG1 hG2 hnb hvb
 go_wp2_with fail
 refine(HCA.out _ HI1.out).mono ?_
 rintro e w2 ⟨hF2,⟨b2,x2,u2,t2,l2,o2,hq,rfl,hT2,hE2⟩|⟨hq,p,x2,t2,l2,ov,rfl,hE2⟩⟩
 ·have HF2:=hide hF2
  have HT2:=hide hT2
  have HE2:=hide hE2
  have HXX:Hid (r=some (elB CL BT NU b2,x2,u2)):=HX.out.2 b2 x2 u2 hq
  clear hF2 hT2 hE2 hq HX k0 k1 k2 k3 v1 v3 c3 hln
  have HX:=HXX
  have kn:=HF2.out _ _ _ hneN (by decide) HG1.out
  have q0:w2.cell? ⟨nb,0,none⟩=some (.int .i64 10):=cell_of_row kn rfl
  have q1:w2.cell? ⟨nb,1,none⟩=some (.int .i64 TG):=cell_of_row kn rfl
  have q2:w2.cell? ⟨nb,2,none⟩=some (.int .i64 MD):=cell_of_row kn rfl
  have q3:w2.cell? ⟨nb,3,none⟩=some (.slice ka KL kc):=cell_of_row kn rfl
  have hlq:=row_lt kn
  clear kn
  go_wp2_with fail
  refine(HOW.out _ HE2.out.bel).mono ?_
  rintro e w8 ⟨rfl,hb8⟩
  have HB8:=hide hb8
  clear hb8
  go_wp2_with fail
  refine(HWR.out _ _ _ _ _ (HE2.out.below HB8.out) HT2.out.le HT2.out.mx).mono ?_
  rintro e w9 ⟨rfl,hF9,t9,l9,hi9,hE9⟩
  have HF9:=hide hF9
  have HI9:=hide hi9
  have HE9:=hide hE9
  clear hF9 hi9 hE9
  go_wp2
  go_ret
  exact⟨(FrE.of_below HB1.out).trans (HF2.out.trans ((FrE.of_below HB8.out).trans HF9.out.fr)),.inl ⟨_,_,_,t9,l9,_,HX.out,rfl,HT2.out.wrap HI9.out,HE9.out⟩⟩
 ·have HF2:Hid (FrE R w w2):=(FrE.of_below HB1.out).trans hF2
  have HE2:=hide hE2
  have HXX:Hid (r=none):=HX.out.1 hq
  clear hF2 hE2 hq
  unfold fault
  go_wp2
  go_ret
  exact⟨HF2.out,.inr ⟨HXX.out,p,x2,t2,l2,ov,rfl,HE2.out⟩⟩
theorem own11_e(E:WEnv)(W:World)(R:Nat)(a:Option Addr)(c:Nat)(ta:Option Addr)(tc f:Nat)(sn:Sn→Addr)(hc:EC E W a ta sn)(htc:E.t.length≤tc)(hN:NodeE E W R a c ta tc sn f)(hf1:1≤f)(i:Nat)(hi:i<E.s.length)(ka:Option Addr)(kc:Nat)(hka:KidsIn W ka (nd E.s i).kids)(hkc:(nd E.s i).kids.length≤kc)(hkm:kc≤maxLen)
 (x:Nat)(dp:Int)(r:WOut)(t0:ByteArray)(l0:Bool)(o0:Option Int)(w:World)(hfit:FitP (nd E.s i) (vl E.t x))(e:wbareF E (wrF E f) f (nd E.s i) (wcl (nd E.s i)) (wnu (nd E.s i)) (vl E.t x) (x+1) dp=some r)(hx:x<E.t.length)(hfx:E.t.length+1≤f+(x+1))(hd1:1≤dp)(hd2:dp≤12)(h4:t0.size≤4000)(hI:EwD W w R a E.s.length c ta E.t.length tc (x+1) t0 l0 (ovV sn o0))(hk:(nd E.s i).kind=11):
 Calls Tryz.prog 111 #[.pointer (some ⟨R,0,none⟩),.agg #[.int .i64 (nd E.s i).kind,.int .i64 (nd E.s i).tag,.int .i64 (nd E.s i).mode,.slice ka (nd E.s i).kids.length kc],.agg #[.int .i64 (vl E.t x).kind,.string (vl E.t x).text,.int .i64 (vl E.t x).alt,.int .i64 (vl E.t x).kids],.int .i64 dp] w fun e w'=>AfterE E W R a c ta tc sn r t0 l0 o0 w e w':=by
 have HC:=hide hc
 have HI:=hide hI
 have htx:=hc.txt hx
 have hwnb:=wnu_bd hc.wc.right hi
 have hcn:=wnu_own (n:=nd E.s i) (by omega)
 obtain⟨hk1,hk14,hT1,hT2,hT3,hT4,hT5⟩:=tagged_of hc.wc.right hi
 have hnums:=hc.lay.n
 obtain⟨bs,cp,hform⟩:∃bs cp,∃tvx,tvx=Value.slice bs t0.size cp∧w.heap[R]? =some (ewObj a E.s.length c ta E.t.length tc (x+1) tvx l0 (ovV sn o0)):=by
  obtain⟨tv,h1,h2⟩:=hI.own
  obtain⟨bs,cp,rfl,_⟩:=own8 h2
  exact⟨bs,cp,_,rfl,h1⟩
 obtain⟨_,rfl,hown⟩:=hform
 have hRl:R<w.heap.size:=row_lt hown
 obtain⟨r1,hr1,HX⟩:∃r1,wmanyF E (wrF E f) (decide ((nd E.s i).kind=12)) (kd (nd E.s i) 0).node.toNat (dp+1) f (vl E.t x).kids (x+1) noB noB false=some r1∧Hid ((r1=none→r=none)∧∀b x' u,r1=some (b,x',u)→r=some (elB (wcl (nd E.s i)) true (wnu (nd E.s i)) b,x',u)):=by
  have h:=e
  unfold wbareF at h
  rw[if_neg (by omega),if_neg (by omega),if_neg (by omega),if_pos (by omega),if_pos ((fit12 (.inl hk) hfit.1).1 hfit)]at h
  rcases wandThen_cases h with⟨h1,h2⟩|⟨b,x',u,h1,h2⟩
  ·exact⟨none,h1,fun _=>h2,fun _ _ _ q=>by cases q⟩
  ·refine⟨_,h1,fun q=>(by cases q),fun b' x'' u' q=>?_⟩
   injection q with q
   injection q with e1 q
   injection q with e2 e3
   subst e1 e2 e3
   injection h2 with h2
   exact h2.symm
 obtain⟨CL,hCL⟩:∃CL,wcl (nd E.s i)=CL:=⟨_,rfl⟩
 obtain⟨NU,hNU⟩:∃NU,wnu (nd E.s i)=NU:=⟨_,rfl⟩
 rw[hCL,hNU]at hcn hwnb HX
 obtain⟨K,hK⟩:∃K,(nd E.s i).kind=K:=⟨_,rfl⟩
 rw[hK]at hk ⊢
 obtain⟨BT,hBT⟩:∃BT:Bool,BT=true:=⟨_,rfl⟩
 rw[←hBT]at HX
 have hvd:=((fit12 (.inl (hK▸hk)) hfit.1).1 hfit).2.2
 have HCA:Hid (∀wq,EwD W wq R a E.s.length c ta E.t.length tc (x+1) t0 l0 (ovV sn o0)→Calls Tryz.prog 151 #[.pointer (some ⟨R,0,none⟩),.agg #[.int .i64 K,.int .i64 (nd E.s i).tag,.int .i64 (nd E.s i).mode,.slice ka (nd E.s i).kids.length kc],.int .i64 (vl E.t x).kids,.int .i64 dp] wq fun e w'=>AfterE E W R a c ta tc sn r1 t0 l0 o0 wq e w'):=fun wq q=>by
  rw[←hK]
  exact elist_any E W R a c ta tc f sn hc htc hN hf1 i hi (hc.wc.right.fine.one i hi (.inl (hK▸hk))) ka kc hka hkc hkm (x+1) f (vl E.t x).kids dp r1 t0 l0 o0 wq hr1 hvd (hc.wc.kids x hx) hx hfx hd1 hd2 h4 q
 generalize hTG:(nd E.s i).tag=TG at HCA ⊢
 generalize hMD:(nd E.s i).mode=MD at HCA ⊢
 generalize hKL:(nd E.s i).kids.length=KL at HCA ⊢
 generalize hVK:(vl E.t x).kind=VK
 generalize hVT:(vl E.t x).text=VT
 generalize hVA:(vl E.t x).alt=VA
 generalize hVD:(vl E.t x).kids=VD at HCA ⊢
 have HOW:Hid (∀wq,Below W.heap.size W wq→Calls Tryz.prog 152 #[.agg #[.int .i64 K,.int .i64 TG,.int .i64 MD,.slice ka KL kc]] wq fun e w'=>e= .returned (.agg #[.int .i64 CL,.int .i64 NU,.bool BT])∧Below wq.heap.size wq w'):=fun wq q=>by
  have:=own_all (nd E.s i) ka kc wq (HC.out.lay.below q).n (by omega) (by omega) (by omega)
  unfold fv at this
  rw[←hcn,hTG,hMD,hKL]at this
  rw[hK,decide_eq_true (by omega),←hBT]at this
  exact this
 have HWR:Hid (∀wq t1 l1 o1 x1,EwD W wq R a E.s.length c ta E.t.length tc x1 t1 l1 (ovV sn o1)→t0.size≤t1.size→t1.size≤4000→Calls Tryz.prog 113 #[.pointer (some ⟨R,0,none⟩),.int .i64 t0.size,.agg #[.int .i64 CL,.int .i64 NU,.bool BT]] wq fun e w'=>AfterI W R a E.s.length c ta E.t.length tc x1 t1 l1 (ovV sn o1) t0.size (hdB CL BT NU (t1.size-t0.size)) wq e w'):=fun wq t1 l1 o1 x1 q h1 h2=>wrap_any W wq R a E.s.length c ta E.t.length tc x1 t1 l1 (ovV sn o1) sn HC.out.lay t0.size CL NU BT hwnb.1 hwnb.2.1 hwnb.2.2.1 hwnb.2.2.2 h1 h2 q
 have hB1:Below w.heap.size w ((w.alloc (.cells #[.int .i64 K,.int .i64 TG,.int .i64 MD,.slice ka KL kc] 58)).alloc (.cells #[.int .i64 VK,.string VT,.int .i64 VA,.int .i64 VD] 60)):=((Below.refl w.heap.size w).alloc (Nat.le_refl _) _).alloc (by simp) _
 have hG1:((w.alloc (.cells #[.int .i64 K,.int .i64 TG,.int .i64 MD,.slice ka KL kc] 58)).alloc (.cells #[.int .i64 VK,.string VT,.int .i64 VA,.int .i64 VD] 60)).heap[w.heap.size]? =some (.cells #[.int .i64 K,.int .i64 TG,.int .i64 MD,.slice ka KL kc] 58 (0,0)):=block_below (heap_alloc_new w _) ((Below.refl _ _).alloc (Nat.le_refl _) _)
 have hG2:((w.alloc (.cells #[.int .i64 K,.int .i64 TG,.int .i64 MD,.slice ka KL kc] 58)).alloc (.cells #[.int .i64 VK,.string VT,.int .i64 VA,.int .i64 VD] 60)).heap[w.heap.size+1]? =some (.cells #[.int .i64 VK,.string VT,.int .i64 VA,.int .i64 VD] 60 (0,0)):=by simpa using heap_alloc_new (w.alloc (.cells #[.int .i64 K,.int .i64 TG,.int .i64 MD,.slice ka KL kc] 58)) (.cells #[.int .i64 VK,.string VT,.int .i64 VA,.int .i64 VD] 60)
 have hg3:=block_below hown hB1
 unfold ewObj at hg3
 have c3:((w.alloc (.cells #[.int .i64 K,.int .i64 TG,.int .i64 MD,.slice ka KL kc] 58)).alloc (.cells #[.int .i64 VK,.string VT,.int .i64 VA,.int .i64 VD] 60)).cell? ⟨R,3,none⟩=some (.slice bs t0.size cp):=by simp[World.cell?,hg3]
 clear hown hg3
 clear hc hI e hfit hcn hwnb hT1 hT2 hT3 hT4 hT5 hnums hTG hMD hKL hVK hVT hVA hVD hvd hK hk1 hk14 hka hN hBT hCL hNU
 subst hk
 go_enter Tryz.func111,Tryz.ntmps111
 go_upto_region 1 with fail
 obtain⟨nb,hnb⟩:∃nb,w.heap.size=nb:=⟨_,rfl⟩
 obtain⟨vb,hvb⟩:∃vb,w.heap.size+1=vb:=⟨_,rfl⟩
 rw[hvb]at hG2 ⊢
 rw[hnb]at hG1 ⊢
 generalize(w.alloc (.cells #[.int .i64 11,.int .i64 TG,.int .i64 MD,.slice ka KL kc] 58)).alloc (.cells #[.int .i64 VK,.string VT,.int .i64 VA,.int .i64 VD] 60)=w1 at hB1 hG1 hG2 c3 ⊢
 have hneN:nb≠R:=by omega
 have HB1:=hide hB1
 have HG1:=hide hG1
 have HI1:=hide (HI.out.below hB1)
 have v1:w1.cell? ⟨vb,1,none⟩=some (.string VT):=cell_of_row hG2 rfl
 have v3:w1.cell? ⟨vb,3,none⟩=some (.int .i64 VD):=cell_of_row hG2 rfl
 have k0:w1.cell? ⟨nb,0,none⟩=some (.int .i64 11):=cell_of_row hG1 rfl
 have k1:w1.cell? ⟨nb,1,none⟩=some (.int .i64 TG):=cell_of_row hG1 rfl
 have k2:w1.cell? ⟨nb,2,none⟩=some (.int .i64 MD):=cell_of_row hG1 rfl
 have k3:w1.cell? ⟨nb,3,none⟩=some (.slice ka KL kc):=cell_of_row hG1 rfl
 have hR1:R<w1.heap.size:=lt_of_cell c3
 have hlv:=row_lt hG2
 have hln:=row_lt hG1
 clear hB1 hG1 hG2 hnb hvb
 go_wp2_with fail
 refine(HCA.out _ HI1.out).mono ?_
 rintro e w2 ⟨hF2,⟨b2,x2,u2,t2,l2,o2,hq,rfl,hT2,hE2⟩|⟨hq,p,x2,t2,l2,ov,rfl,hE2⟩⟩
 ·have HF2:=hide hF2
  have HT2:=hide hT2
  have HE2:=hide hE2
  have HXX:Hid (r=some (elB CL BT NU b2,x2,u2)):=HX.out.2 b2 x2 u2 hq
  clear hF2 hT2 hE2 hq HX k0 k1 k2 k3 v1 v3 c3 hln
  have HX:=HXX
  have kn:=HF2.out _ _ _ hneN (by decide) HG1.out
  have q0:w2.cell? ⟨nb,0,none⟩=some (.int .i64 11):=cell_of_row kn rfl
  have q1:w2.cell? ⟨nb,1,none⟩=some (.int .i64 TG):=cell_of_row kn rfl
  have q2:w2.cell? ⟨nb,2,none⟩=some (.int .i64 MD):=cell_of_row kn rfl
  have q3:w2.cell? ⟨nb,3,none⟩=some (.slice ka KL kc):=cell_of_row kn rfl
  have hlq:=row_lt kn
  clear kn
  go_wp2_with fail
  refine(HOW.out _ HE2.out.bel).mono ?_
  rintro e w8 ⟨rfl,hb8⟩
  have HB8:=hide hb8
  clear hb8
  go_wp2_with fail
  refine(HWR.out _ _ _ _ _ (HE2.out.below HB8.out) HT2.out.le HT2.out.mx).mono ?_
  rintro e w9 ⟨rfl,hF9,t9,l9,hi9,hE9⟩
  have HF9:=hide hF9
  have HI9:=hide hi9
  have HE9:=hide hE9
  clear hF9 hi9 hE9
  go_wp2
  go_ret
  exact⟨(FrE.of_below HB1.out).trans (HF2.out.trans ((FrE.of_below HB8.out).trans HF9.out.fr)),.inl ⟨_,_,_,t9,l9,_,HX.out,rfl,HT2.out.wrap HI9.out,HE9.out⟩⟩
 ·have HF2:Hid (FrE R w w2):=(FrE.of_below HB1.out).trans hF2
  have HE2:=hide hE2
  have HXX:Hid (r=none):=HX.out.1 hq
  clear hF2 hE2 hq
  unfold fault
  go_wp2
  go_ret
  exact⟨HF2.out,.inr ⟨HXX.out,p,x2,t2,l2,ov,rfl,HE2.out⟩⟩
theorem own12_e(E:WEnv)(W:World)(R:Nat)(a:Option Addr)(c:Nat)(ta:Option Addr)(tc f:Nat)(sn:Sn→Addr)(hc:EC E W a ta sn)(htc:E.t.length≤tc)(hN:NodeE E W R a c ta tc sn f)(hf1:1≤f)(i:Nat)(hi:i<E.s.length)(ka:Option Addr)(kc:Nat)(hka:KidsIn W ka (nd E.s i).kids)(hkc:(nd E.s i).kids.length≤kc)(hkm:kc≤maxLen)
 (x:Nat)(dp:Int)(r:WOut)(t0:ByteArray)(l0:Bool)(o0:Option Int)(w:World)(hfit:FitP (nd E.s i) (vl E.t x))(e:wbareF E (wrF E f) f (nd E.s i) (wcl (nd E.s i)) (wnu (nd E.s i)) (vl E.t x) (x+1) dp=some r)(hx:x<E.t.length)(hfx:E.t.length+1≤f+(x+1))(hd1:1≤dp)(hd2:dp≤12)(h4:t0.size≤4000)(hI:EwD W w R a E.s.length c ta E.t.length tc (x+1) t0 l0 (ovV sn o0))(hk:(nd E.s i).kind=12):
 Calls Tryz.prog 111 #[.pointer (some ⟨R,0,none⟩),.agg #[.int .i64 (nd E.s i).kind,.int .i64 (nd E.s i).tag,.int .i64 (nd E.s i).mode,.slice ka (nd E.s i).kids.length kc],.agg #[.int .i64 (vl E.t x).kind,.string (vl E.t x).text,.int .i64 (vl E.t x).alt,.int .i64 (vl E.t x).kids],.int .i64 dp] w fun e w'=>AfterE E W R a c ta tc sn r t0 l0 o0 w e w':=by
 have HC:=hide hc
 have HI:=hide hI
 have htx:=hc.txt hx
 have hwnb:=wnu_bd hc.wc.right hi
 have hcn:=wnu_own (n:=nd E.s i) (by omega)
 obtain⟨hk1,hk14,hT1,hT2,hT3,hT4,hT5⟩:=tagged_of hc.wc.right hi
 have hnums:=hc.lay.n
 obtain⟨bs,cp,hform⟩:∃bs cp,∃tvx,tvx=Value.slice bs t0.size cp∧w.heap[R]? =some (ewObj a E.s.length c ta E.t.length tc (x+1) tvx l0 (ovV sn o0)):=by
  obtain⟨tv,h1,h2⟩:=hI.own
  obtain⟨bs,cp,rfl,_⟩:=own8 h2
  exact⟨bs,cp,_,rfl,h1⟩
 obtain⟨_,rfl,hown⟩:=hform
 have hRl:R<w.heap.size:=row_lt hown
 obtain⟨r1,hr1,HX⟩:∃r1,wmanyF E (wrF E f) (decide ((nd E.s i).kind=12)) (kd (nd E.s i) 0).node.toNat (dp+1) f (vl E.t x).kids (x+1) noB noB false=some r1∧Hid ((r1=none→r=none)∧∀b x' u,r1=some (b,x',u)→r=some (elB (wcl (nd E.s i)) true (wnu (nd E.s i)) b,x',u)):=by
  have h:=e
  unfold wbareF at h
  rw[if_neg (by omega),if_neg (by omega),if_neg (by omega),if_pos (by omega),if_pos ((fit12 (.inr hk) hfit.1).1 hfit)]at h
  rcases wandThen_cases h with⟨h1,h2⟩|⟨b,x',u,h1,h2⟩
  ·exact⟨none,h1,fun _=>h2,fun _ _ _ q=>by cases q⟩
  ·refine⟨_,h1,fun q=>(by cases q),fun b' x'' u' q=>?_⟩
   injection q with q
   injection q with e1 q
   injection q with e2 e3
   subst e1 e2 e3
   injection h2 with h2
   exact h2.symm
 obtain⟨CL,hCL⟩:∃CL,wcl (nd E.s i)=CL:=⟨_,rfl⟩
 obtain⟨NU,hNU⟩:∃NU,wnu (nd E.s i)=NU:=⟨_,rfl⟩
 rw[hCL,hNU]at hcn hwnb HX
 obtain⟨K,hK⟩:∃K,(nd E.s i).kind=K:=⟨_,rfl⟩
 rw[hK]at hk ⊢
 obtain⟨BT,hBT⟩:∃BT:Bool,BT=true:=⟨_,rfl⟩
 rw[←hBT]at HX
 have hvd:=((fit12 (.inr (hK▸hk)) hfit.1).1 hfit).2.2
 have HCA:Hid (∀wq,EwD W wq R a E.s.length c ta E.t.length tc (x+1) t0 l0 (ovV sn o0)→Calls Tryz.prog 151 #[.pointer (some ⟨R,0,none⟩),.agg #[.int .i64 K,.int .i64 (nd E.s i).tag,.int .i64 (nd E.s i).mode,.slice ka (nd E.s i).kids.length kc],.int .i64 (vl E.t x).kids,.int .i64 dp] wq fun e w'=>AfterE E W R a c ta tc sn r1 t0 l0 o0 wq e w'):=fun wq q=>by
  rw[←hK]
  exact elist_any E W R a c ta tc f sn hc htc hN hf1 i hi (hc.wc.right.fine.one i hi (.inr (hK▸hk))) ka kc hka hkc hkm (x+1) f (vl E.t x).kids dp r1 t0 l0 o0 wq hr1 hvd (hc.wc.kids x hx) hx hfx hd1 hd2 h4 q
 generalize hTG:(nd E.s i).tag=TG at HCA ⊢
 generalize hMD:(nd E.s i).mode=MD at HCA ⊢
 generalize hKL:(nd E.s i).kids.length=KL at HCA ⊢
 generalize hVK:(vl E.t x).kind=VK
 generalize hVT:(vl E.t x).text=VT
 generalize hVA:(vl E.t x).alt=VA
 generalize hVD:(vl E.t x).kids=VD at HCA ⊢
 have HOW:Hid (∀wq,Below W.heap.size W wq→Calls Tryz.prog 152 #[.agg #[.int .i64 K,.int .i64 TG,.int .i64 MD,.slice ka KL kc]] wq fun e w'=>e= .returned (.agg #[.int .i64 CL,.int .i64 NU,.bool BT])∧Below wq.heap.size wq w'):=fun wq q=>by
  have:=own_all (nd E.s i) ka kc wq (HC.out.lay.below q).n (by omega) (by omega) (by omega)
  unfold fv at this
  rw[←hcn,hTG,hMD,hKL]at this
  rw[hK,decide_eq_true (by omega),←hBT]at this
  exact this
 have HWR:Hid (∀wq t1 l1 o1 x1,EwD W wq R a E.s.length c ta E.t.length tc x1 t1 l1 (ovV sn o1)→t0.size≤t1.size→t1.size≤4000→Calls Tryz.prog 113 #[.pointer (some ⟨R,0,none⟩),.int .i64 t0.size,.agg #[.int .i64 CL,.int .i64 NU,.bool BT]] wq fun e w'=>AfterI W R a E.s.length c ta E.t.length tc x1 t1 l1 (ovV sn o1) t0.size (hdB CL BT NU (t1.size-t0.size)) wq e w'):=fun wq t1 l1 o1 x1 q h1 h2=>wrap_any W wq R a E.s.length c ta E.t.length tc x1 t1 l1 (ovV sn o1) sn HC.out.lay t0.size CL NU BT hwnb.1 hwnb.2.1 hwnb.2.2.1 hwnb.2.2.2 h1 h2 q
 have hB1:Below w.heap.size w ((w.alloc (.cells #[.int .i64 K,.int .i64 TG,.int .i64 MD,.slice ka KL kc] 58)).alloc (.cells #[.int .i64 VK,.string VT,.int .i64 VA,.int .i64 VD] 60)):=((Below.refl w.heap.size w).alloc (Nat.le_refl _) _).alloc (by simp) _
 have hG1:((w.alloc (.cells #[.int .i64 K,.int .i64 TG,.int .i64 MD,.slice ka KL kc] 58)).alloc (.cells #[.int .i64 VK,.string VT,.int .i64 VA,.int .i64 VD] 60)).heap[w.heap.size]? =some (.cells #[.int .i64 K,.int .i64 TG,.int .i64 MD,.slice ka KL kc] 58 (0,0)):=block_below (heap_alloc_new w _) ((Below.refl _ _).alloc (Nat.le_refl _) _)
 have hG2:((w.alloc (.cells #[.int .i64 K,.int .i64 TG,.int .i64 MD,.slice ka KL kc] 58)).alloc (.cells #[.int .i64 VK,.string VT,.int .i64 VA,.int .i64 VD] 60)).heap[w.heap.size+1]? =some (.cells #[.int .i64 VK,.string VT,.int .i64 VA,.int .i64 VD] 60 (0,0)):=by simpa using heap_alloc_new (w.alloc (.cells #[.int .i64 K,.int .i64 TG,.int .i64 MD,.slice ka KL kc] 58)) (.cells #[.int .i64 VK,.string VT,.int .i64 VA,.int .i64 VD] 60)
 have hg3:=block_below hown hB1
 unfold ewObj at hg3
 have c3:((w.alloc (.cells #[.int .i64 K,.int .i64 TG,.int .i64 MD,.slice ka KL kc] 58)).alloc (.cells #[.int .i64 VK,.string VT,.int .i64 VA,.int .i64 VD] 60)).cell? ⟨R,3,none⟩=some (.slice bs t0.size cp):=by simp[World.cell?,hg3]
 clear hown hg3
 clear hc hI e hfit hcn hwnb hT1 hT2 hT3 hT4 hT5 hnums hTG hMD hKL hVK hVT hVA hVD hvd hK hk1 hk14 hka hN hBT hCL hNU
 subst hk
 go_enter Tryz.func111,Tryz.ntmps111
 go_upto_region 1 with fail
 obtain⟨nb,hnb⟩:∃nb,w.heap.size=nb:=⟨_,rfl⟩
 obtain⟨vb,hvb⟩:∃vb,w.heap.size+1=vb:=⟨_,rfl⟩
 rw[hvb]at hG2 ⊢
 rw[hnb]at hG1 ⊢
 generalize(w.alloc (.cells #[.int .i64 12,.int .i64 TG,.int .i64 MD,.slice ka KL kc] 58)).alloc (.cells #[.int .i64 VK,.string VT,.int .i64 VA,.int .i64 VD] 60)=w1 at hB1 hG1 hG2 c3 ⊢
 have hneN:nb≠R:=by omega
 have HB1:=hide hB1
 have HG1:=hide hG1
 have HI1:=hide (HI.out.below hB1)
 have v1:w1.cell? ⟨vb,1,none⟩=some (.string VT):=cell_of_row hG2 rfl
 have v3:w1.cell? ⟨vb,3,none⟩=some (.int .i64 VD):=cell_of_row hG2 rfl
 have k0:w1.cell? ⟨nb,0,none⟩=some (.int .i64 12):=cell_of_row hG1 rfl
 have k1:w1.cell? ⟨nb,1,none⟩=some (.int .i64 TG):=cell_of_row hG1 rfl
 have k2:w1.cell? ⟨nb,2,none⟩=some (.int .i64 MD):=cell_of_row hG1 rfl
 have k3:w1.cell? ⟨nb,3,none⟩=some (.slice ka KL kc):=cell_of_row hG1 rfl
 have hR1:R<w1.heap.size:=lt_of_cell c3
 have hlv:=row_lt hG2
 have hln:=row_lt hG1
 clear hB1 hG1 hG2 hnb hvb
 go_wp2_with fail
 refine(HCA.out _ HI1.out).mono ?_
 rintro e w2 ⟨hF2,⟨b2,x2,u2,t2,l2,o2,hq,rfl,hT2,hE2⟩|⟨hq,p,x2,t2,l2,ov,rfl,hE2⟩⟩
 ·have HF2:=hide hF2
  have HT2:=hide hT2
  have HE2:=hide hE2
  have HXX:Hid (r=some (elB CL BT NU b2,x2,u2)):=HX.out.2 b2 x2 u2 hq
  clear hF2 hT2 hE2 hq HX k0 k1 k2 k3 v1 v3 c3 hln
  have HX:=HXX
  have kn:=HF2.out _ _ _ hneN (by decide) HG1.out
  have q0:w2.cell? ⟨nb,0,none⟩=some (.int .i64 12):=cell_of_row kn rfl
  have q1:w2.cell? ⟨nb,1,none⟩=some (.int .i64 TG):=cell_of_row kn rfl
  have q2:w2.cell? ⟨nb,2,none⟩=some (.int .i64 MD):=cell_of_row kn rfl
  have q3:w2.cell? ⟨nb,3,none⟩=some (.slice ka KL kc):=cell_of_row kn rfl
  have hlq:=row_lt kn
  clear kn
  go_wp2_with fail
  refine(HOW.out _ HE2.out.bel).mono ?_
  rintro e w8 ⟨rfl,hb8⟩
  have HB8:=hide hb8
  clear hb8
  go_wp2_with fail
  refine(HWR.out _ _ _ _ _ (HE2.out.below HB8.out) HT2.out.le HT2.out.mx).mono ?_
  rintro e w9 ⟨rfl,hF9,t9,l9,hi9,hE9⟩
  have HF9:=hide hF9
  have HI9:=hide hi9
  have HE9:=hide hE9
  clear hF9 hi9 hE9
  go_wp2
  go_ret
  exact⟨(FrE.of_below HB1.out).trans (HF2.out.trans ((FrE.of_below HB8.out).trans HF9.out.fr)),.inl ⟨_,_,_,t9,l9,_,HX.out,rfl,HT2.out.wrap HI9.out,HE9.out⟩⟩
 ·have HF2:Hid (FrE R w w2):=(FrE.of_below HB1.out).trans hF2
  have HE2:=hide hE2
  have HXX:Hid (r=none):=HX.out.1 hq
  clear hF2 hE2 hq
  unfold fault
  go_wp2
  go_ret
  exact⟨HF2.out,.inr ⟨HXX.out,p,x2,t2,l2,ov,rfl,HE2.out⟩⟩
theorem own_e(E:WEnv)(W:World)(R:Nat)(a:Option Addr)(c:Nat)(ta:Option Addr)(tc f:Nat)(sn:Sn→Addr)(hc:EC E W a ta sn)(htc:E.t.length≤tc)(hN:NodeE E W R a c ta tc sn f)(hf1:1≤f)(i:Nat)(hi:i<E.s.length)(ka:Option Addr)(kc:Nat)(hka:KidsIn W ka (nd E.s i).kids)(hkc:(nd E.s i).kids.length≤kc)(hkm:kc≤maxLen)
 (x:Nat)(dp:Int)(r:WOut)(t0:ByteArray)(l0:Bool)(o0:Option Int)(w:World)(hfit:FitP (nd E.s i) (vl E.t x))(e:wbareF E (wrF E f) f (nd E.s i) (wcl (nd E.s i)) (wnu (nd E.s i)) (vl E.t x) (x+1) dp=some r)(hx:x<E.t.length)(hfx:E.t.length+1≤f+(x+1))(hd1:1≤dp)(hd2:dp≤12)(h4:t0.size≤4000)(hI:EwD W w R a E.s.length c ta E.t.length tc (x+1) t0 l0 (ovV sn o0))(hk:(nd E.s i).kind≠13):
 Calls Tryz.prog 111 #[.pointer (some ⟨R,0,none⟩),.agg #[.int .i64 (nd E.s i).kind,.int .i64 (nd E.s i).tag,.int .i64 (nd E.s i).mode,.slice ka (nd E.s i).kids.length kc],.agg #[.int .i64 (vl E.t x).kind,.string (vl E.t x).text,.int .i64 (vl E.t x).alt,.int .i64 (vl E.t x).kids],.int .i64 dp] w fun e w'=>AfterE E W R a c ta tc sn r t0 l0 o0 w e w':=by
 obtain⟨hk1,hk14,_⟩:=tagged_of hc.wc.right hi
 by_cases h14:(nd E.s i).kind=14
 ·exact own14_e E W R a c ta tc f sn hc htc hN hf1 i hi ka kc hka hkc hkm x dp r t0 l0 o0 w hfit e hx hfx hd1 hd2 h4 hI h14
 by_cases h10:(nd E.s i).kind=10
 ·exact own10_e E W R a c ta tc f sn hc htc hN hf1 i hi ka kc hka hkc hkm x dp r t0 l0 o0 w hfit e hx hfx hd1 hd2 h4 hI h10
 by_cases h11:(nd E.s i).kind=11
 ·exact own11_e E W R a c ta tc f sn hc htc hN hf1 i hi ka kc hka hkc hkm x dp r t0 l0 o0 w hfit e hx hfx hd1 hd2 h4 hI h11
 by_cases h12:(nd E.s i).kind=12
 ·exact own12_e E W R a c ta tc f sn hc htc hN hf1 i hi ka kc hka hkc hkm x dp r t0 l0 o0 w hfit e hx hfx hd1 hd2 h4 hI h12
 ·exact own9_e E W R a c ta tc f sn hc htc hN hf1 i hi ka kc hka hkc hkm x dp r t0 l0 o0 w hfit e hx hfx hd1 hd2 h4 hI (by omega)
end Go.Proofs.YtkkicodfpekbgaaGreatDoor
