/-
Several texts in one.
-/
import Derived.Test.YtkkicodfpekbgaaGreatDoorJa11
import Derived.WalkMore
import Derived.Deep.LoopGhost
import Derived.Test.YtkkicodfpekbgaaGreatDoorJa5
namespace Go.Proofs.YtkkicodfpekbgaaGreatDoor
open Go.RowKit
set_option linter.unusedSimpArgs false
set_option linter.unusedVariables false
set_option maxRecDepth 100000
set_option maxHeartbeats 8000000
theorem KidsIn.drop{w:World}{b o:Nat}{ks:List Kd}(h:KidsIn w (some ⟨b,o,none⟩) ks)(m:Nat):KidsIn w (some ⟨b,o+m*3,none⟩) (ks.drop m):=fun j hj=>by
 rw[List.length_drop]at hj
 obtain⟨b',o',e,hk⟩:=h (m+j) (by omega)
 injection e with e
 injection e with e1 e2
 subst e1 e2
 refine⟨b,o+m*3,rfl,?_⟩
 have e3:(ks.drop m).getD j kd0=ks.getD (m+j) kd0:=by rw[List.getD_eq_getElem?_getD,List.getElem?_drop,←List.getD_eq_getElem?_getD]
 rw[e3,show o+m*3+j*3=o+(m+j)*3 by omega]
 exact hk
def SeqP(E:Env)(W:World)(R:Nat)(a:Option Addr)(c gb f:Nat)(tz:Nat)(dp:Int)(n:Nat)(o:Out)(tree:List Vl)(x x':Nat)(ks:List Kd)(wq:World):Prop:=
 ∃acc:List Vl,seqF E (rdF E f) tz (dp+1) ks x' acc=some o∧RdD W wq R a E.s.length c gb E.d (tree++⟨10,⟨#[]⟩,0,(n:Int)⟩::acc)∧acc.length+ks.length≤8+100*(x'-x)
def KsP(E:Env)(W:World)(i:Nat)(vk:Value)(ks:List Kd):Prop:=∃va kc,vk= .slice va ks.length kc∧ks.length≤kc∧KidsIn W va ks∧∀k∈ks,k∈(nd E.s i).kids
def OutQ(n tz:Nat)(v:Out):Out:=
 match v with
 | .error e=> .error e
 | .ok (vs,_)=> .ok (⟨10,noB,0,n⟩::vs,tz)
theorem seqF_there{E:Env}{rec:Rec}{tz:Nat}{dp:Int}{k:Kd}{ks:List Kd}{x:Nat}{acc:List Vl}{o:Out}(e:seqF E rec tz dp (k::ks) x acc=some o)(hx:x<tz)(hh:(E.hd x tz).1=0)(hb:E.bg k.node.toNat (E.hd x tz).2.c (E.hd x tz).2.n=true):
 ∃o',rec k.node.toNat x tz dp=some o'∧((∃u,kidO E x k.dflt o'= .error u∧o= .error u)∨∃vs z,kidO E x k.dflt o'= .ok (vs,z)∧o'= .ok (vs,z)∧seqF E rec tz dp ks z (acc++vs)=some o):=by
 unfold seqF at e
 rw[if_neg (fun q=>q.2 hh),if_pos ⟨hx,hb⟩]at e
 rcases andThen_cases e with⟨u,h1,rfl⟩|⟨vs,z,h1,h2⟩
 ·exact⟨_,h1,.inl ⟨u,rfl,rfl⟩⟩
 ·refine⟨_,h1,?_⟩
  split at h2
  ·rename_i q
   cases h2
   exact .inl ⟨_,by unfold kidO;simp only;rw[if_pos q],rfl⟩
  ·rename_i q
   exact .inr ⟨vs,z,by unfold kidO;simp only;rw[if_neg q],rfl,h2⟩
theorem seqF_left{E:Env}{rec:Rec}{tz:Nat}{dp:Int}{k:Kd}{ks:List Kd}{x:Nat}{acc:List Vl}{o:Out}(e:seqF E rec tz dp (k::ks) x acc=some o)(h:tz≤x∨(x<tz∧(E.hd x tz).1=0∧E.bg k.node.toNat (E.hd x tz).2.c (E.hd x tz).2.n=false)):
 (∃v,leftOut E k=some v∧seqF E rec tz dp ks x (acc++[v])=some o)∨(leftOut E k=none∧o= .error (if x<tz then 4 else 3,(x:Int))):=by
 unfold seqF at e
 have h1:¬(x<tz∧(E.hd x tz).1≠0):=by
  rcases h with q|⟨q1,q2,q3⟩
  ·omega
  ·exact fun r=>r.2 q2
 have h2:¬(x<tz∧E.bg k.node.toNat (E.hd x tz).2.c (E.hd x tz).2.n=true):=by
  rcases h with q|⟨q1,q2,q3⟩
  ·omega
  ·exact fun r=>by rw[q3]at r;exact absurd r.2 (by decide)
 rw[if_neg h1,if_neg h2]at e
 unfold leftOut
 split at e
 ·rename_i q;left;rw[if_pos q];exact⟨_,rfl,e⟩
 ·rename_i q
  rw[if_neg q]
  split at e
  ·rename_i q2;left;rw[if_pos q2];exact⟨_,rfl,e⟩
  ·rename_i q2
   right
   rw[if_neg q2]
   refine⟨rfl,?_⟩
   split at e
   ·rename_i q3;rw[if_pos q3];exact(Option.some.inj e).symm
   ·rename_i q3;rw[if_neg q3];exact(Option.some.inj e).symm
theorem seqF_head_err{E:Env}{rec:Rec}{tz:Nat}{dp:Int}{ks:List Kd}{x:Nat}{acc:List Vl}{o:Out}(e:seqF E rec tz dp ks x acc=some o)(hk:0<ks.length)(hx:x<tz)(hh:(E.hd x tz).1≠0):o= .error ((E.hd x tz).1,(x:Int)):=by
 cases ks with
 |nil=>simp at hk
 |cons k ks=>unfold seqF at e;rw[if_pos ⟨hx,hh⟩]at e;exact(Option.some.inj e).symm
theorem drop_cons(ks:List Kd){j:Nat}(hj:j<ks.length):ks.drop j=ks.getD j kd0::ks.drop (j+1):=by
 rw[List.drop_eq_getElem_cons hj,List.getD_eq_getElem?_getD,List.getElem?_eq_getElem hj]
 rfl
set_option maxHeartbeats 16000000 in
theorem seq_p(E:Env)(W:World)(R:Nat)(a:Option Addr)(c gb:Nat)(sn:Sn→Addr)(f:Nat)(hc:PC E W a gb sn)(hdv:DvOk E)(hN:NodeP E W R a c gb sn f)(i:Nat)(hi:i<E.s.length)(ka:Option Addr)(kc:Nat)(hka:KidsIn W ka (nd E.s i).kids)(hkc:(nd E.s i).kids.length≤kc)
 (g:Hd)(x0 x tz:Nat)(dp:Int)(o:Out)(tree:List Vl)(w:World)(hx0:(x:Int)=(x0:Int)+g.s)(htz:(tz:Int)=(x0:Int)+g.s+g.l)(hm:seqF E (rdF E f) tz (dp+1) (nd E.s i).kids x []=some o)(hxz:x≤tz)(hz:tz≤E.d.size)(hd1:1≤dp)(hd2:dp≤12)(hroom:Room tree (f+1) x tz)(hI:RdD W w R a E.s.length c gb E.d tree):
 Calls Tryz.prog 160 #[.pointer (some ⟨R,0,none⟩),.agg (ndCells (nd E.s i) ka kc),.int .i64 dp,spanV g x0] w fun e w'=>AfterD E W R a c gb sn (OutQ (nd E.s i).kids.length tz o) tree w e w':=by
 have HC:Hid (PC E W a gb sn):=hc
 have HDV:=hide hdv
 have HN:Hid (NodeP E W R a c gb sn f):=hN
 have HI:Hid (RdD W w R a E.s.length c gb E.d tree):=hI
 have hRl:R<w.heap.size:=lt_of_cell hI.r0
 have HRO:Hid (Room tree (f+1) x tz):=hroom
 have hk8:=hc.right.fine.eight i hi
 have hs40:=hc.right.fine.len
 have HKI:=hide hka
 have HM:=hide hm
 have hl0:tree.length≤1099511627776:=by unfold Room at hroom;omega
 have hds:=hc.size
 have HAT:Hid (∀(x':Nat) (s:Sn) wq,Calls Tryz.prog 60 #[.int .i64 x',.iface 291 (.pointer (some (sn s)))] wq fun e w'=>e= .returned (fault x' (sn s))∧w'=wq):=fun x' s wq=>at_any x' _ wq
 unfold fault at HAT
 have HA:Hid (∀A B,Below w.heap.size w ((w.alloc A).alloc B)):=fun A B=>((Below.refl w.heap.size w).alloc (Nat.le_refl _) A).alloc (by simp) B
 unfold spanV ndCells
 rw[←htz,←hx0]
 clear hc hdv hN hka hm hI hroom hx0 htz
 go_enter Tryz.func160,Tryz.ntmps160
 go_wp2
 go_step3
 go_wp2_with fail
 refine(add_any W _ R a E.s.length c gb E.d tree 10 ⟨#[]⟩ 0 (nd E.s i).kids.length (HI.out.below (HA.out _ _)) hl0).mono ?_
 rintro e w1 ⟨rfl,hI1,hf1⟩
 have HI1:Hid (RdD W w1 R a E.s.length c gb E.d (tree++[⟨10,⟨#[]⟩,0,((nd E.s i).kids.length:Int)⟩])):=hI1
 have HF1:Hid (Fr R w w1):=(Fr.of_below (HA.out _ _)).trans hf1
 have hn1:w.heap.size≠R:=by omega
 have hn2:w.heap.size+1≠R:=by omega
 have HN1:Hid (w1.heap[w.heap.size]? =some (.cells #[.int .i64 (nd E.s i).kind,.int .i64 (nd E.s i).tag,.int .i64 (nd E.s i).mode,.slice ka (nd E.s i).kids.length kc] 58 (0,0))):=hf1 _ _ _ hn1 (by decide) (block_below (heap_alloc_new w _) ((Below.refl _ _).alloc (Nat.le_refl _) _))
 have HN2:Hid (w1.heap[w.heap.size+1]? =some (.cells #[.int .i64 g.c,.int .i64 g.n,.bool g.b,.int .i64 x0,.int .i64 x,.int .i64 tz] 151 (0,0))):=hf1 _ _ _ hn2 (by decide) (by simpa using heap_alloc_new (w.alloc _) _)
 have s4:w1.cell? ⟨w.heap.size+1,4,none⟩=some (.int .i64 x):=cell_of_row HN2.out rfl
 have m3:w1.cell? ⟨w.heap.size,3,none⟩=some (.slice ka (nd E.s i).kids.length kc):=cell_of_row HN1.out rfl
 have hl2:w.heap.size+1<w1.heap.size:=lt_of_cell s4
 clear hI1 hf1
 go_wp2_with fail
 go_quiet (fail)
 generalize hw2:w1.drewN nq=w2
 have HB2:Hid (Below w1.heap.size w1 w2):=by show Below w1.heap.size w1 w2;rw[←hw2];exact Go.below_drewN (Below.refl _ _) _
 have HI2:=hide (HI1.out.below HB2.out)
 have HF2:Hid (Fr R w w2):=HF1.out.below HB2.out
 have HN12:=hide (block_below HN1.out HB2.out)
 have HN22:=hide (block_below HN2.out HB2.out)
 clear hw2 s4 m3 hl2
 go_wp2
 go_step3
 go_wp2
 go_loopg [9,10] (nd E.s i).kids.length (fun gk vp vk wq=>∃(x':Nat) (ks:List Kd),vp= .int .i64 x'∧ks.length≤gk∧KsP E W i vk ks∧x≤x'∧x'≤tz∧Fr R w wq∧wq.heap[w.heap.size+1]? =some (.cells #[.int .i64 g.c,.int .i64 g.n,.bool g.b,.int .i64 x0,.int .i64 x,.int .i64 tz] 151 (0,0))∧SeqP E W R a c gb f tz dp (nd E.s i).kids.length o tree x x' ks wq)
 case atStart=>exact⟨x,(nd E.s i).kids,rfl,Nat.le_refl _,⟨ka,kc,rfl,hkc,HKI.out,fun _ h=>h⟩,Nat.le_refl _,hxz,HF2.out,HN22.out,⟨[],HM.out,HI2.out,by simp;omega⟩⟩
 case round=>
  obtain⟨G,rfl⟩:∃G,G=gk:=⟨_,rfl⟩
  obtain⟨x',ks,rfl,hgk,hks,hx1,hx2,hfr,hb2,hrun⟩:=hrel
  obtain⟨va,kcc,rfl,hkl,hkin,hkm⟩:=hks
  have HFR:=hide hfr
  have HX2:=hide hb2
  obtain⟨acc,hmm,hIr,hacc⟩:=hrun
  have HMM:=hide hmm
  have HIR:=hide hIr
  have HKIN:=hide hkin
  have HKM:=hide hkm
  have s5:wr.cell? ⟨w.heap.size+1,5,none⟩=some (.int .i64 tz):=cell_of_row hb2 rfl
  have hl5:w.heap.size+1<wr.heap.size:=lt_of_cell s5
  have hRr:R<wr.heap.size:=lt_of_cell hIr.r0
  clear hmm hIr hfr hb2 hkin hkm
  by_cases hlt:x'<tz∧0<ks.length
  ·obtain⟨hlt,hk0⟩:=hlt
   have hlt':decide ((x':Int)<tz)=true:=by simp;omega
   have hk0':decide ((0:Int)<ks.length)=true:=by simp;omega
   have HOP:=hide (open_any1 W wr R a E.s.length c gb E.d _ x' tz sn HIR.out (HC.out.lay.below HIR.out.bel).s (by omega) hz (by omega))
   go_wp2_with fail
   refine HOP.out.mono ?_
   rintro e w4 ⟨hb4,h4⟩
   have HB4:=hide hb4
   clear HOP hb4
   rcases h4 with⟨h40,rfl⟩|⟨h40,rfl⟩
   ·obtain⟨h,hh⟩:∃h,(hd (E.d.extract x' tz)).2=h:=⟨_,rfl⟩
    have HHD:Hid (E.hd x' tz=(0,h)):=by
     show E.hd x' tz=(0,h)
     unfold Env.hd
     rw[←h40,←hh]
    rw[hh]
    clear h40 hh
    obtain⟨z,hzf⟩:∃z,z=fin x' h:=⟨_,rfl⟩
    have hfi:=fin_int (E:=E) (x:=x') (y:=tz) (by rw[HHD.out])
    have hfl:=fin_le (E:=E) (x:=x') (y:=tz) (by rw[HHD.out])
    rw[HHD.out]at hfi hfl
    simp only at hfi hfl
    rw[←hzf]at hfi hfl
    have hzz:(x':Int)+h.s+h.l=z:=by omega
    have HZZ:=hide hzz
    have HZF:=hide hzf
    have hz1:x'+2≤z:=by omega
    have hz2:z≤tz:=by omega
    unfold spanV
    rw[hzz]
    clear hzf hfi hfl hzz hlt' hk0' s5
    go_wp2
    generalize hW5:w4.alloc (.cells #[.int .i64 h.c,.int .i64 h.n,.bool h.b,.int .i64 x',.int .i64 ((x':Int)+h.s),.int .i64 z] 151)=w5
    have HB5:Hid (Below wr.heap.size wr w5):=by show Below wr.heap.size wr w5;rw[←hW5];exact HB4.out.alloc HB4.out.size _
    have HS5:Hid (w5.heap[w4.heap.size]? =some (.cells #[.int .i64 h.c,.int .i64 h.n,.bool h.b,.int .i64 x',.int .i64 ((x':Int)+h.s),.int .i64 z] 151 (0,0))):=by show w5.heap[w4.heap.size]? =_;rw[←hW5];exact heap_alloc_new w4 _
    have HI5:=hide (HIR.out.below HB5.out)
    have HX5:=hide (block_below HX2.out HB5.out)
    have HF5:Hid (Fr R w w5):=HFR.out.below HB5.out
    obtain⟨b3,hb3⟩:∃b3,w4.heap.size=b3:=⟨_,rfl⟩
    rw[hb3]at HS5 ⊢
    have hb3w:wr.heap.size≤b3:=by rw[←hb3];exact HB4.out.size
    have hb3R:b3≠R:=by omega
    clear hW5 hb3
    go_loopg [9,10,50] ks.length (fun gi vp vk vj wq=>∃j:Nat,vp= .int .i64 x'∧vk= .slice va ks.length kcc∧vj= .int .i64 j∧gi+j=ks.length∧Fr R w wq∧wq.heap[w.heap.size+1]? =some (.cells #[.int .i64 g.c,.int .i64 g.n,.bool g.b,.int .i64 x0,.int .i64 x,.int .i64 tz] 151 (0,0))∧wq.heap[b3]? =some (.cells #[.int .i64 h.c,.int .i64 h.n,.bool h.b,.int .i64 x',.int .i64 ((x':Int)+h.s),.int .i64 z] 151 (0,0))∧∃acc':List Vl,seqF E (rdF E f) tz (dp+1) (ks.drop j) x' acc'=some o∧RdD W wq R a E.s.length c gb E.d (tree++⟨10,⟨#[]⟩,0,((nd E.s i).kids.length:Int)⟩::acc')∧acc'.length+(ks.length-j)≤8+100*(x'-x))
    case atStart=>exact⟨0,rfl,rfl,rfl,by omega,HF5.out,HX5.out,HS5.out,acc,HMM.out,HI5.out,by omega⟩
    case round=>
     obtain⟨j,rfl,rfl,rfl,hgj,hfr,hbx,hb3x,acc',hmj,hIj,haj⟩:=hrel
     have HFj:=hide hfr
     have HXj:=hide hbx
     have HSj:=hide hb3x
     have HMJ:=hide hmj
     have HIj:=hide hIj
     have hRj:R<wr.heap.size:=lt_of_cell hIj.r0
     have hb3l:b3<wr.heap.size:=row_lt hb3x
     clear hfr hbx hb3x hmj hIj
     by_cases hj:j<ks.length
     ·have hj':(j:Int)<ks.length:=by omega
      obtain⟨kb,kof,rfl,kcl⟩:=HKIN.out j hj
      obtain⟨k,hk⟩:∃k,ks.getD j kd0=k:=⟨_,rfl⟩
      have hmem:k∈(nd E.s i).kids:=HKM.out k (by rw[←hk,List.getD_eq_getElem?_getD,List.getElem?_eq_getElem hj];exact List.getElem_mem hj)
      have hwt:=HC.out.right.fine.within i hi k hmem
      obtain⟨t,ht⟩:∃t:Nat,k.node=t:=⟨k.node.toNat,by omega⟩
      have htl:t<E.s.length:=by omega
      have htn:k.node.toNat=t:=by omega
      rw[hk]at kcl
      obtain⟨k1,k2,k3⟩:=kcl.below HIj.out.bel
      rw[ht]at k1
      have HLO:Hid (∀wq,RdD W wq R a E.s.length c gb E.d (tree++⟨10,⟨#[]⟩,0,((nd E.s i).kids.length:Int)⟩::acc')→Calls Tryz.prog 189 #[.pointer (some ⟨R,0,none⟩),.agg #[.int .i64 t,.bool k.opt,.string k.dflt]] wq fun e w'=>AfterL E W R a c gb (leftOut E k) (tree++⟨10,⟨#[]⟩,0,((nd E.s i).kids.length:Int)⟩::acc') wq e w'):=fun wq q=>by
       have:=leaveOut_p E W R a c gb sn HC.out HDV.out i hi k hmem (tree++⟨10,⟨#[]⟩,0,((nd E.s i).kids.length:Int)⟩::acc') wq (by have:=HRO.out;unfold Room at this;simp only[List.length_append,List.length_cons];omega) q
       rw[ht]at this
       exact this
      have hmj:=HMJ.out
      rw[drop_cons ks hj,hk]at hmj
      have HMK:=hide hmj
      have hkbl:kb<wr.heap.size:=lt_of_cell k1
      have HRO2:Hid (Room (tree++⟨10,⟨#[]⟩,0,((nd E.s i).kids.length:Int)⟩::acc') f x' tz):=by
       show Room _ _ _ _
       have:=HRO.out
       unfold Room at this ⊢
       simp only[List.length_append,List.length_cons]
       omega
      have HTN:=hide htn
      obtain⟨ko2,hko2⟩:∃b,k.opt=b:=⟨_,rfl⟩
      obtain⟨kd2,hkd2⟩:∃b,k.dflt=b:=⟨_,rfl⟩
      rw[hko2]at k2 HLO
      rw[hkd2]at k3 HLO
      have HKD2:=hide hkd2
      clear kcl ht htn hmj hwt hmem hko2 hkd2 hk
      go_upto_region 10 with fail
      generalize hW6:wr.alloc (.cells #[.int .i64 t,.bool ko2,.string kd2] 55)=w6
      have HB6:Hid (Below wr.heap.size wr w6):=by show Below wr.heap.size wr w6;rw[←hW6];exact(Below.refl _ _).alloc (Nat.le_refl _) _
      have HK6:Hid (w6.heap[wr.heap.size]? =some (.cells #[.int .i64 t,.bool ko2,.string kd2] 55 (0,0))):=by show w6.heap[wr.heap.size]? =_;rw[←hW6];exact heap_alloc_new wr _
      have HS6:=hide (block_below HSj.out HB6.out)
      have HI6:=hide (HIj.out.below HB6.out)
      clear hW6 k1 k2 k3
      have HBG:Hid (∀x:Ext w6,Calls Tryz.prog 187 #[.slice (some ⟨gb,0,none⟩) E.s.length E.s.length,.int .i64 t,.agg #[.int .i64 h.c,.int .i64 h.n]] x.v fun e w''=>e= .returned (.bool (E.bg t h.c h.n))∧∃y:Ext w6,w''=y.v):=fun x=>
       Ext.callsR (HC.out.bg t htl h.c h.n) (has_any E.s gb t h.c h.n x.v (HC.out.ab.below (HI6.out.bel.trans (x.h.mono HI6.out.bel.size))) htl hs40)
      have X0:∀x:Ext w6,x.v.cell? ⟨R,1,none⟩=some (.slice (some ⟨gb,0,none⟩) E.s.length E.s.length):=fun x=>x.cell HI6.out.r1
      have X2:∀x:Ext w6,x.v.cell? ⟨wr.heap.size,0,none⟩=some (.int .i64 t):=fun x=>x.cell (cell_of_row HK6.out rfl)
      have X3:∀y:Ext w6,y.v.cell? ⟨b3,0,none⟩=some (.int .i64 h.c):=fun y=>y.cell (cell_of_row HS6.out rfl)
      have X4:∀y:Ext w6,y.v.cell? ⟨b3,1,none⟩=some (.int .i64 h.n):=fun y=>y.cell (cell_of_row HS6.out rfl)
      (have ne:=ext_ne;refine wp_region_ext (by kernel_rfl) (by kernel_rfl) ?_;(repeat(first|go_big_quiet_skip|(go_big_quiet_want;go_big_quiet_op;first|go_big_quiet_on|(apply Exists.intro;refine⟨fun x=>?_,?_⟩;(·(exact HBG.out x));go_big_quiet_on))));refine nil_ext ?_)
      intro w7 hb7
      have HB7:Hid (Below wr.heap.size wr w7):=HB6.out.trans (hb7.mono HB6.out.size)
      have HI7:=hide (HI6.out.below hb7)
      have HF7:Hid (Fr R w w7):=HFj.out.below HB7.out
      have HK7:=hide (block_below HK6.out hb7)
      have HS7:=hide (block_below HS6.out hb7)
      have HX7:=hide (block_below HXj.out HB7.out)
      have hne1:wr.heap.size≠R:=by omega
      have y0:w7.cell? ⟨wr.heap.size,0,none⟩=some (.int .i64 t):=cell_of_row HK7.out rfl
      have y1:w7.cell? ⟨wr.heap.size,1,none⟩=some (.bool ko2):=cell_of_row HK7.out rfl
      have y2:w7.cell? ⟨wr.heap.size,2,none⟩=some (.string kd2):=cell_of_row HK7.out rfl
      have hkl7:wr.heap.size<w7.heap.size:=lt_of_cell y0
      clear X0 X2 X3 X4 hb7 HBG HB6 HK6 HS6 HI6
      cases hbg:E.bg t h.c h.n
      ·have HL:=hide (seqF_left HMK.out (.inr ⟨hlt,by rw[HHD.out],by rw[HHD.out,HTN.out];exact hbg⟩))
       clear hbg
       go_wp2_with fail
       refine(HLO.out _ HI7.out).mono ?_
       rintro e w8 ⟨hF8,h8⟩
       have HF8:Hid (Fr R w w8):=HF7.out.trans hF8
       have HX8:=hide (hF8 _ _ _ hn2 (by decide) HX7.out)
       have HS8:=hide (hF8 _ _ _ hb3R (by decide) HS7.out)
       clear hF8
       rcases h8 with⟨v,hv,rfl,hI8⟩|⟨hv,rfl,hI8⟩
       ·have HI8:=hide hI8
        have HNX:Hid (seqF E (rdF E f) tz (dp+1) (ks.drop (j+1)) x' (acc'++[v])=some o):=by
         rcases HL.out with⟨v',q1,q2⟩|⟨q1,_⟩
         ·rw[hv]at q1;injection q1 with q1;subst q1;exact q2
         ·rw[hv]at q1;cases q1
        clear hI8 hv
        go_wp2
        go_roundg (gk-1)
        case measure=>omega
        case rel=>exact⟨j+1,rfl,rfl,by go_num,by omega,HF8.out,HX8.out,HS8.out,acc'++[v],HNX.out,by have:=HI8.out;simpa using this,by simp only[List.length_append,List.length_cons,List.length_nil];omega⟩
       ·have HI8:=hide hI8
        have HOE:Hid (o= .error (4,(x':Int))):=by
         rcases HL.out with⟨v',q1,q2⟩|⟨q1,q2⟩
         ·rw[hv]at q1;cases q1
         ·show o=_;rw[q2,if_pos hlt]
        have cT:=(HC.out.lay.below HI8.out.bel).s.cTag
        have hgl:=lt_of_cell cT
        simp only at hgl
        clear hI8 hv y0 y1 y2 hkl7
        go_wp2_with fail
        refine(HAT.out x' .Tag _).mono ?_
        rintro e w9 ⟨rfl,rfl⟩
        go_wp2
        try rw[Exit.noGoto_ret]
        go_ret
        exact⟨HF8.out,.inr ⟨4,x',_,by rw[HOE.out];rfl,rfl,HI8.out⟩⟩
      ·obtain⟨o',hr,ho⟩:=seqF_there HMK.out hlt (by rw[HHD.out]) (by rw[HHD.out,HTN.out];exact hbg)
       rw[HTN.out]at hr
       rw[HKD2.out]at ho
       have HREC:=hide hr
       have HO:=hide ho
       have HKV:Hid (∀wq,RdD W wq R a E.s.length c gb E.d (tree++⟨10,⟨#[]⟩,0,((nd E.s i).kids.length:Int)⟩::acc')→Calls Tryz.prog 188 #[.pointer (some ⟨R,0,none⟩),.agg #[.int .i64 t,.bool ko2,.string kd2],.int .i64 (dp+1),.agg #[.int .i64 h.c,.int .i64 h.n,.bool h.b,.int .i64 x',.int .i64 ((x':Int)+h.s),.int .i64 z]] wq fun e w'=>∃ve,e= .returned ve∧AfterD E W R a c gb sn (kidO E x' kd2 o') (tree++⟨10,⟨#[]⟩,0,((nd E.s i).kids.length:Int)⟩::acc') wq (.returned ve) w'):=fun wq q=>by
        have:=kid_p E W R a c gb sn f HC.out HN.out t htl ko2 kd2 h x' tz (dp+1) o' (tree++⟨10,⟨#[]⟩,0,((nd E.s i).kids.length:Int)⟩::acc') wq HHD.out HREC.out (by omega) hz (by omega) (by omega) HRO2.out q
        unfold spanV at this
        rw[HZZ.out]at this
        exact this.mono fun e w' qa=>by
         rcases qa.2 with⟨_,_,_,q4,_⟩|⟨_,_,_,_,q4,_⟩
         ·exact⟨_,q4,by rw[←q4];exact qa⟩
         ·exact⟨_,q4,by rw[←q4];exact qa⟩
       have t0:w7.cell? ⟨b3,0,none⟩=some (.int .i64 h.c):=cell_of_row HS7.out rfl
       have t1:w7.cell? ⟨b3,1,none⟩=some (.int .i64 h.n):=cell_of_row HS7.out rfl
       have t2:w7.cell? ⟨b3,2,none⟩=some (.bool h.b):=cell_of_row HS7.out rfl
       have t3:w7.cell? ⟨b3,3,none⟩=some (.int .i64 x'):=cell_of_row HS7.out rfl
       have t4:w7.cell? ⟨b3,4,none⟩=some (.int .i64 ((x':Int)+h.s)):=cell_of_row HS7.out rfl
       have t5:w7.cell? ⟨b3,5,none⟩=some (.int .i64 z):=cell_of_row HS7.out rfl
       have hb37:b3<w7.heap.size:=lt_of_cell t0
       clear hbg hr ho
       go_wp2_with fail
       refine(HKV.out _ HI7.out).mono ?_
       rintro e w8 ⟨ve,rfl,ha8⟩
       have HA8:=hide ha8
       have HF8:Hid (Fr R w w8):=HF7.out.trans ha8.1
       have HX8:=hide (ha8.1 _ _ _ hn2 (by decide) HX7.out)
       have HS8:=hide (ha8.1 _ _ _ hb3R (by decide) HS7.out)
       clear ha8 y0 y1 y2 t0 t1 t2 t3 t4 t5 hb37 hkl7
       rcases HA8.out.2 with⟨vs,zz,ho',hve,hI8⟩|⟨ke,qe,tr,ho',hve,hI8⟩
       ·obtain rfl:ve= .nilIface:=by injection hve
        have HI8:=hide hI8
        have hnx:zz=z∧vs.length≤100*(z-x')∧seqF E (rdF E f) tz (dp+1) (ks.drop (j+1)) zz (acc'++vs)=some o:=by
         rcases HO.out with⟨u,q1,_⟩|⟨vs',z',q1,q2,q3⟩
         ·rw[ho']at q1;cases q1
         ·rw[ho']at q1
          cases q1
          obtain⟨_,hzq⟩:=rdF_fin (by rw[←q2];exact HREC.out)
          rw[HHD.out]at hzq
          have e1:zz=z:=by rw[hzq];exact HZF.out.symm
          have hlen:=rdF_len0 HC.out.right.fine htl (by rw[←q2];exact HREC.out)
          exact⟨e1,by omega,q3⟩
        obtain⟨rfl,hvl,hsq⟩:=hnx
        have HSQ:=hide hsq
        have e5:w8.cell? ⟨b3,5,none⟩=some (.int .i64 zz):=cell_of_row HS8.out rfl
        have hb38:b3<w8.heap.size:=lt_of_cell e5
        clear hve ho' hI8 hsq
        have hwr:IntKind.i64.wrap ((j:Int)+1)=(j:Int)+1:=wraps_i64 _ (by omega) (by omega)
        have hj1:(j:Int)+1≤ks.length:=by omega
        have hkl':(ks.length:Int)≤kcc:=by omega
        go_wp2_with fail
        go_quiet (fail)
        generalize hw9:w8.drewN nq=w9
        have HB9:Hid (Below w8.heap.size w8 w9):=by show Below w8.heap.size w8 w9;rw[←hw9];exact Go.below_drewN (Below.refl _ _) _
        have HI9:=hide (HI8.out.below HB9.out)
        have HX9:=hide (block_below HX8.out HB9.out)
        have HF9:Hid (Fr R w w9):=HF8.out.below HB9.out
        clear hw9 e5 hb38 hwr
        have hdl:(ks.drop (j+1)).length=ks.length-(j+1):=List.length_drop
        have HDL:=hide hdl
        have HIX:Hid (RdD W w9 R a E.s.length c gb E.d (tree++⟨10,⟨#[]⟩,0,((nd E.s i).kids.length:Int)⟩::(acc'++vs))):=by
         have q:RdD W w9 R a E.s.length c gb E.d (tree++⟨10,⟨#[]⟩,0,((nd E.s i).kids.length:Int)⟩::(acc'++vs)):=by have:=HI9.out;simpa using this
         exact q
        clear hdl
        go_wp2
        all_goals
         go_roundg (G-1)
         case measure=>omega
         case rel=>
          have hdl:=HDL.out
          refine⟨zz,ks.drop (j+1),rfl,by omega,⟨_,_,by rw[hdl],by omega,?_,fun k hk=>HKM.out k (List.mem_of_mem_drop hk)⟩,by omega,by omega,HF9.out,HX9.out,⟨acc'++vs,HSQ.out,HIX.out,by rw[hdl];simp only[List.length_append];omega⟩⟩
          first
           |exact fun q hq=>absurd hq (by omega)
           |exact HKIN.out.drop (j+1)
           |(have:=HKIN.out.drop (j+1);rw[Nat.mul_comm]at this;exact this)
       ·obtain rfl:ve=fault qe (sn (snOf ke)):=by injection hve
        have HOE:Hid (o= .error (ke,qe)):=by
         rcases HO.out with⟨u,q1,q2⟩|⟨vs',z',q1,_⟩
         ·rw[ho']at q1;injection q1 with q1;show o=_;rw[q2,←q1]
         ·rw[ho']at q1;cases q1
        have HI8:=hide hI8
        unfold fault
        clear hve ho' hI8
        go_wp2
        try rw[Exit.noGoto_ret]
        go_ret
        exact⟨HF8.out,.inr ⟨ke,qe,tr,by rw[HOE.out];rfl,rfl,HI8.out⟩⟩
     ·have hj':¬(j:Int)<ks.length:=by omega
      have HNX:Hid (seqF E (rdF E f) tz (dp+1) [] x' acc'=some o):=by
       have q:=HMJ.out
       rw[List.drop_eq_nil_of_le (by omega)]at q
       exact q
      go_wp2
      go_roundg (G-1)
      case measure=>omega
      case rel=>exact⟨x',[],rfl,by simp,⟨none,0,rfl,Nat.le_refl _,fun j hj=>absurd hj (Nat.not_lt_zero _),fun k hk=>by cases hk⟩,hx1,hx2,HFj.out,HXj.out,⟨acc',HNX.out,HIj.out,by simp;omega⟩⟩
   ·have he:=errAt_of (t:=E.d.extract x' tz) x' sn h40
    have HO2:Hid (o= .error ((hd (E.d.extract x' tz)).1,(x':Int))):=seqF_head_err HMM.out hk0 hlt h40
    generalize(hd (E.d.extract x' tz)).1=k at he HO2
    rw[he]
    unfold span0 fault
    clear he h40
    go_wp2
    try rw[Exit.noGoto_ret]
    go_ret
    refine⟨HFR.out.trans (Fr.of_below (HB4.out.alloc HB4.out.size _)),.inr ⟨k,x',_,by rw[HO2.out];rfl,rfl,HIR.out.below (HB4.out.alloc HB4.out.size _)⟩⟩
  ·by_cases hlt2:x'<tz
   ·have hks0:ks=[]:=List.length_eq_zero_iff.1 (by omega)
    subst hks0
    have hlt':decide ((x':Int)<tz)=true:=by simp;omega
    have hlt'':(x':Int)<tz:=by omega
    have HOE:Hid (o= .error (7,(x':Int))):=by
     have q:=HMM.out
     unfold seqF at q
     rw[if_pos hlt2]at q
     exact(Option.some.inj q).symm
    have cM:=(HC.out.lay.below HIR.out.bel).s.cMore
    have hgl:=lt_of_cell cM
    simp only at hgl
    clear hlt
    simp only[List.length_nil]at hacc hgk ⊢
    go_wp2_with fail
    refine(HAT.out x' .More _).mono ?_
    rintro e w9 ⟨rfl,rfl⟩
    go_wp2
    try rw[Exit.noGoto_ret]
    go_ret
    exact⟨HFR.out,.inr ⟨7,x',_,by rw[HOE.out];rfl,rfl,HIR.out⟩⟩
   ·have hlt':decide ((x':Int)<tz)=false:=by simp;omega
    have hlt'':¬(x':Int)<tz:=by omega
    clear hlt
    go_wp2
    go_loopw [97] (fun vj wq=>∃j:Nat,vj= .int .i64 j∧j≤ks.length∧Fr R w wq∧∃acc':List Vl,seqF E (rdF E f) tz (dp+1) (ks.drop j) x' acc'=some o∧RdD W wq R a E.s.length c gb E.d (tree++⟨10,⟨#[]⟩,0,((nd E.s i).kids.length:Int)⟩::acc')∧acc'.length+(ks.length-j)≤8+100*(x'-x)) (fun vj _=>ks.length-(intOf vj).toNat)
    case atStart=>exact⟨0,rfl,Nat.zero_le _,HFR.out,acc,HMM.out,HIR.out,by omega⟩
    case round=>
     obtain⟨j,rfl,hjl,hfr,acc',hmj,hIj,haj⟩:=hrel
     have HFj:=hide hfr
     have HMJ:=hide hmj
     have HIj:=hide hIj
     have hRj:R<wr.heap.size:=lt_of_cell hIj.r0
     clear hfr hmj hIj
     by_cases hj:j<ks.length
     ·have hj':(j:Int)<ks.length:=by omega
      obtain⟨kb,kof,rfl,kcl⟩:=HKIN.out j hj
      obtain⟨k,hk⟩:∃k,ks.getD j kd0=k:=⟨_,rfl⟩
      have hmem:k∈(nd E.s i).kids:=HKM.out k (by rw[←hk,List.getD_eq_getElem?_getD,List.getElem?_eq_getElem hj];exact List.getElem_mem hj)
      have hwt:=HC.out.right.fine.within i hi k hmem
      obtain⟨t,ht⟩:∃t:Nat,k.node=t:=⟨k.node.toNat,by omega⟩
      rw[hk]at kcl
      obtain⟨k1,k2,k3⟩:=kcl.below HIj.out.bel
      rw[ht]at k1
      have HLO:Hid (∀wq,RdD W wq R a E.s.length c gb E.d (tree++⟨10,⟨#[]⟩,0,((nd E.s i).kids.length:Int)⟩::acc')→Calls Tryz.prog 189 #[.pointer (some ⟨R,0,none⟩),.agg #[.int .i64 t,.bool k.opt,.string k.dflt]] wq fun e w'=>AfterL E W R a c gb (leftOut E k) (tree++⟨10,⟨#[]⟩,0,((nd E.s i).kids.length:Int)⟩::acc') wq e w'):=fun wq q=>by
       have:=leaveOut_p E W R a c gb sn HC.out HDV.out i hi k hmem (tree++⟨10,⟨#[]⟩,0,((nd E.s i).kids.length:Int)⟩::acc') wq (by have:=HRO.out;unfold Room at this;simp only[List.length_append,List.length_cons];omega) q
       rw[ht]at this
       exact this
      have hmj:=HMJ.out
      rw[drop_cons ks hj,hk]at hmj
      have HL:=hide (seqF_left hmj (.inl (by omega)))
      have hkbl:kb<wr.heap.size:=lt_of_cell k1
      obtain⟨ko2,hko2⟩:∃b,k.opt=b:=⟨_,rfl⟩
      obtain⟨kd2,hkd2⟩:∃b,k.dflt=b:=⟨_,rfl⟩
      rw[hko2]at k2 HLO
      rw[hkd2]at k3 HLO
      have HBA:Hid (∀o,Below wr.heap.size wr (wr.alloc o)):=fun o=>(Below.refl _ _).alloc (Nat.le_refl _) o
      clear kcl ht hmj hwt hmem hko2 hkd2 hk
      go_wp2_with fail
      refine(HLO.out _ (HIj.out.below (HBA.out _))).mono ?_
      rintro e w8 ⟨hF8,h8⟩
      have HF8:Hid (Fr R w w8):=(HFj.out.below (HBA.out _)).trans hF8
      clear hF8 k1 k2 k3
      rcases h8 with⟨v,hv,rfl,hI8⟩|⟨hv,rfl,hI8⟩
      ·have HI8:=hide hI8
       have HNX:Hid (seqF E (rdF E f) tz (dp+1) (ks.drop (j+1)) x' (acc'++[v])=some o):=by
        rcases HL.out with⟨v',q1,q2⟩|⟨q1,_⟩
        ·rw[hv]at q1;injection q1 with q1;subst q1;exact q2
        ·rw[hv]at q1;cases q1
       clear hI8 hv
       go_wp2
       go_roundw
       case rel=>exact⟨j+1,by go_num,by omega,HF8.out,acc'++[v],HNX.out,by have:=HI8.out;simpa using this,by simp only[List.length_append,List.length_cons,List.length_nil];omega⟩
       case measure=>simp[intOf];omega
      ·have HI8:=hide hI8
       have HOE:Hid (o= .error (3,(x':Int))):=by
        rcases HL.out with⟨v',q1,q2⟩|⟨q1,q2⟩
        ·rw[hv]at q1;cases q1
        ·show o=_;rw[q2,if_neg hlt2]
       have cE:=(HC.out.lay.below HI8.out.bel).s.cEnd
       have hgl:=lt_of_cell cE
       simp only at hgl
       clear hI8 hv
       go_wp2_with fail
       refine(HAT.out x' .End _).mono ?_
       rintro e w9 ⟨rfl,rfl⟩
       go_wp2
       try rw[Exit.noGoto_ret]
       go_ret
       exact⟨HF8.out,.inr ⟨3,x',_,by rw[HOE.out];rfl,rfl,HI8.out⟩⟩
     ·have hj':¬(j:Int)<ks.length:=by omega
      have HOK:Hid (o= .ok (acc',x')):=by
       have q:=HMJ.out
       rw[List.drop_eq_nil_of_le (by omega)]at q
       unfold seqF at q
       rw[if_neg hlt2]at q
       exact(Option.some.inj q).symm
      go_wp2
      try rw[Exit.noGoto_ret]
      go_ret
      exact⟨HFj.out,.inl ⟨_,_,by rw[HOK.out];rfl,rfl,HIj.out⟩⟩

theorem bareF_tag{E:Env}{rec:Rec}{m:Nat}{n:Nd}{cl nu:Int}{h:Hd}{x tz:Nat}{dp:Int}{o:Out}(e:bareF E rec m n cl nu h x tz dp=some o)(h13:n.kind≠13)(h14:n.kind≠14)(hq:¬(h.c=cl∧h.n=nu∧h.b=decide (10≤n.kind∧n.kind≤12))):o= .error (4,(x:Int)):=by
 unfold bareF at e
 rw[if_neg h13,if_pos ⟨h14,hq⟩]at e
 exact(Option.some.inj e).symm
theorem bareF_deep{E:Env}{rec:Rec}{m:Nat}{n:Nd}{cl nu:Int}{h:Hd}{x tz:Nat}{dp:Int}{o:Out}(e:bareF E rec m n cl nu h x tz dp=some o)(h13:n.kind≠13)(hq:¬(n.kind≠14∧¬(h.c=cl∧h.n=nu∧h.b=decide (10≤n.kind∧n.kind≤12))))(hd:12<dp):o= .error (10,(x:Int)):=by
 unfold bareF at e
 rw[if_neg h13,if_neg hq,if_pos hd]at e
 exact(Option.some.inj e).symm
theorem bareF_seq{E:Env}{rec:Rec}{m:Nat}{n:Nd}{cl nu:Int}{h:Hd}{x tz:Nat}{dp:Int}{o:Out}(e:bareF E rec m n cl nu h x tz dp=some o)(hq:h.c=cl∧h.n=nu∧h.b=decide (10≤n.kind∧n.kind≤12))(hd:dp≤12)(hk:n.kind=10):∃v,seqF E rec tz (dp+1) n.kids (x+h.s.toNat) []=some v∧o=OutQ n.kids.length tz v:=by
 unfold bareF at e
 rw[if_neg (by omega),if_neg (fun r=>r.2 hq),if_neg (by omega),if_neg (by omega),if_pos hk]at e
 split at e
 ·cases e
 ·rename_i u q;exact⟨_,q,(Option.some.inj e).symm⟩
 ·rename_i vs z q;exact⟨_,q,(Option.some.inj e).symm⟩
theorem bareF_many{E:Env}{rec:Rec}{m:Nat}{n:Nd}{cl nu:Int}{h:Hd}{x tz:Nat}{dp:Int}{o:Out}(e:bareF E rec m n cl nu h x tz dp=some o)(hq:h.c=cl∧h.n=nu∧h.b=decide (10≤n.kind∧n.kind≤12))(hd:dp≤12)(hk:n.kind=11∨n.kind=12):∃v,manyF E rec (decide (n.kind=12)) (kd n 0).node.toNat tz (dp+1) m (x+h.s.toNat) noB 0 []=some v∧o=OutM n.kind tz v:=by
 unfold bareF at e
 rw[if_neg (by omega),if_neg (fun r=>r.2 hq),if_neg (by omega),if_neg (by omega),if_neg (by omega),if_pos (by omega)]at e
 split at e
 ·cases e
 ·rename_i u q;exact⟨_,q,(Option.some.inj e).symm⟩
 ·rename_i j vs q;exact⟨_,q,(Option.some.inj e).symm⟩
theorem bareF_leaf{E:Env}{rec:Rec}{m:Nat}{n:Nd}{cl nu:Int}{h:Hd}{x tz:Nat}{dp:Int}{o:Out}(e:bareF E rec m n cl nu h x tz dp=some o)(hq:h.c=cl∧h.n=nu∧h.b=decide (10≤n.kind∧n.kind≤12))(hd:dp≤12)(hk:n.kind≤9):o=if E.ok n.kind (E.d.extract (x+h.s.toNat) tz)=true then .ok ([⟨n.kind,E.d.extract (x+h.s.toNat) tz,0,0⟩],tz)else .error (6,(x:Int)):=by
 unfold bareF at e
 rw[if_neg (by omega),if_neg (fun r=>r.2 hq),if_neg (by omega),if_neg (by omega),if_neg (by omega),if_neg (by omega)]at e
 split at e
 ·rename_i q;rw[if_pos q];exact(Option.some.inj e).symm
 ·rename_i q;rw[if_neg q];exact(Option.some.inj e).symm
theorem AfterD.two{E:Env}{W:World}{R:Nat}{a:Option Addr}{c gb:Nat}{sn:Sn→Addr}{o:Out}{tree:List Vl}{w w':World}{e:Ending}(h:AfterD E W R a c gb sn o tree w e w'):e= .returned .nilIface∨∃q z,e= .returned (fault q z):=by
 rcases h.2 with⟨_,_,_,q4,_⟩|⟨k,q,_,_,q4,_⟩
 ·exact .inl q4
 ·exact .inr ⟨q,_,q4⟩
theorem own_p(E:Env)(W:World)(R:Nat)(a:Option Addr)(c gb:Nat)(sn:Sn→Addr)(f:Nat)(hc:PC E W a gb sn)(hdv:DvOk E)(hN:NodeP E W R a c gb sn f)(i:Nat)(hi:i<E.s.length)(ka:Option Addr)(kc:Nat)(hka:KidsIn W ka (nd E.s i).kids)(hkc:(nd E.s i).kids.length≤kc)
 (g:Hd)(x tz m:Nat)(cl nu dp:Int)(o:Out)(tree:List Vl)(w:World)(hcl:(nd E.s i).kind≤12→(nd E.s i).ownT=(cl,nu))(hg:E.hd x tz=(0,g))(htz:tz=fin x g)(hm:bareF E (rdF E f) m (nd E.s i) cl nu g x tz dp=some o)(hz:tz≤E.d.size)(hd1:1≤dp)(hd2:dp≤13)(hroom:Room tree (f+1) x tz)(hI:RdD W w R a E.s.length c gb E.d tree):
 Calls Tryz.prog 115 #[.pointer (some ⟨R,0,none⟩),.agg (ndCells (nd E.s i) ka kc),.int .i64 dp,spanV g x] w fun e w'=>AfterD E W R a c gb sn o tree w e w':=by
 obtain⟨hk1,hk14,hTg⟩:=tagged_of hc.right hi
 have hfi:=fin_int (E:=E) (x:=x) (y:=tz) (by rw[hg])
 have hfl:=fin_le (E:=E) (x:=x) (y:=tz) (by rw[hg])
 rw[hg]at hfi hfl
 simp only at hfi hfl
 rw[←htz]at hfi hfl
 have hxz:x≤tz:=by omega
 obtain⟨x1,hx1⟩:∃x1,x1=x+g.s.toNat:=⟨_,rfl⟩
 have hx1i:(x1:Int)=(x:Int)+g.s:=by omega
 have htzi:(tz:Int)=(x:Int)+g.s+g.l:=by omega
 have HI:=hide hI
 have hRl:R<w.heap.size:=lt_of_cell hI.r0
 have HA:Hid (∀A B,Below w.heap.size w ((w.alloc A).alloc B)):=fun A B=>((Below.refl w.heap.size w).alloc (Nat.le_refl _) A).alloc (by simp) B
 have hl0:tree.length≤1099511627776:=by unfold Room at hroom;omega
 have fin1:∀(o1:Out) (wq:World),Fr R w wq→∀e w',AfterD E W R a c gb sn o1 tree wq e w'→o1=o→AfterD E W R a c gb sn o tree w e w':=fun o1 wq hf e w' q h=>by rw[←h];exact q.of hf
 have HFIN:=hide fin1
 by_cases h13:(nd E.s i).kind=13
 ·have hm1:choiceF E (rdF E f) g x tz dp (nd E.s i).kids 0=some o:=by unfold bareF at hm;rw[if_pos h13]at hm;exact hm
  have HCH:Hid (∀wq,RdD W wq R a E.s.length c gb E.d tree→Calls Tryz.prog 158 #[.pointer (some ⟨R,0,none⟩),.agg (ndCells (nd E.s i) ka kc),.int .i64 dp,spanV g x] wq fun e w'=>AfterD E W R a c gb sn o tree wq e w'):=fun wq q=>choice_p E W R a c gb sn f hc hN i hi ka kc hka hkc g x tz dp o tree wq hg hm1 hxz hz hd1 hd2 hroom q
  have hk13:((nd E.s i).kind==13)=true:=by simp[h13]
  unfold spanV ndCells at HCH ⊢
  clear hm hm1 hcl hg htz hfi hfl hroom hI hTg hka hdv hN hc h13 hx1 hx1i htzi fin1
  go_enter Tryz.func115,Tryz.ntmps115
  go_wp2_with fail
  refine(HCH.out _ (HI.out.below (HA.out _ _))).mono ?_
  rintro e w1 ha1
  have HA1:=hide ha1
  have hcase:=ha1.two
  clear ha1
  rcases hcase with rfl|⟨q,za,rfl⟩
  ·go_wp2
   go_ret
   exact HFIN.out o _ (Fr.of_below (HA.out _ _)) _ _ HA1.out rfl
  ·unfold fault
   go_wp2
   go_ret
   exact HFIN.out o _ (Fr.of_below (HA.out _ _)) _ _ HA1.out rfl
 have hk13:((nd E.s i).kind==13)=false:=by simp[h13]
 by_cases h14:(nd E.s i).kind=14
 ·have ho:(if 12<dp then .error (10,(x:Int))else .ok ([⟨14,E.d.extract x tz,0,0⟩],tz):Out)=o:=by
   unfold bareF at hm
   rw[if_neg h13,if_neg (fun q=>q.1 h14)]at hm
   split
   ·rename_i q;rw[if_pos q]at hm;exact Option.some.inj hm
   ·rename_i q;rw[if_neg q,if_pos h14]at hm;exact Option.some.inj hm
  have HOO:=hide ho
  have HAN:Hid (∀wq,RdD W wq R a E.s.length c gb E.d tree→Calls Tryz.prog 159 #[.pointer (some ⟨R,0,none⟩),.int .i64 dp,spanV g x] wq fun e w'=>AfterD E W R a c gb sn o tree wq e w'):=fun wq q=>by
   have:=any_any E W R a c gb sn hc g x tz dp tree wq htzi hxz hz hl0 q
   rw[ho]at this
   exact this
  have hk14b:((nd E.s i).kind==14)=true:=by simp[h14]
  unfold spanV at HAN ⊢
  unfold ndCells
  clear hm hcl hg htz hfi hfl hroom hI hTg hka hdv hN hc h13 hx1 hx1i htzi fin1 h14 ho
  go_enter Tryz.func115,Tryz.ntmps115
  go_wp2_with fail
  refine(HAN.out _ (HI.out.below (HA.out _ _))).mono ?_
  rintro e w1 ha1
  have HA1:=hide ha1
  have hcase:=ha1.two
  clear ha1
  rcases hcase with rfl|⟨q,za,rfl⟩
  ·go_wp2
   go_ret
   exact HFIN.out o _ (Fr.of_below (HA.out _ _)) _ _ HA1.out rfl
  ·unfold fault
   go_wp2
   go_ret
   exact HFIN.out o _ (Fr.of_below (HA.out _ _)) _ _ HA1.out rfl
 have hk14b:((nd E.s i).kind==14)=false:=by simp[h14]
 have hk12:(nd E.s i).kind≤12:=by omega
 obtain⟨B,hB⟩:∃B,decide (10≤(nd E.s i).kind∧(nd E.s i).kind≤12)=B:=⟨_,rfl⟩
 obtain⟨ve,hve⟩:∃ve,expV g.c g.n g.b cl nu B x dp sn=ve:=⟨_,rfl⟩
 have hOT:=hcl hk12
 have HOW:Hid (∀wq,Below W.heap.size W wq→Calls Tryz.prog 152 #[.agg #[.int .i64 (nd E.s i).kind,.int .i64 (nd E.s i).tag,.int .i64 (nd E.s i).mode,.slice ka (nd E.s i).kids.length kc]] wq fun e w'=>e= .returned (.agg #[.int .i64 cl,.int .i64 nu,.bool B])∧Below wq.heap.size wq w'):=fun wq q=>by
  have:=own_all (nd E.s i) ka kc wq (hc.lay.below q).n hTg.1 (by omega) hk12
  rw[hOT,hB]at this
  exact this
 have HEP:Hid (∀wq,Below W.heap.size W wq→Calls Tryz.prog 116 #[.agg #[.int .i64 g.c,.int .i64 g.n,.bool g.b,.int .i64 x,.int .i64 x1,.int .i64 tz],.agg #[.int .i64 cl,.int .i64 nu,.bool B],.int .i64 dp] wq fun e w'=>e= .returned ve∧Below wq.heap.size wq w'):=fun wq q=>by
  have:=expect_any g.c g.n g.b x x1 tz cl nu B dp wq sn (hc.lay.below q).s
  rw[hve]at this
  exact this
 have hcase:(ve=fault x (sn .Tag)∧o= .error (4,(x:Int)))∨(ve=fault x (sn .Deep)∧o= .error (10,(x:Int)))∨(ve= .nilIface∧dp≤12∧(g.c=cl∧g.n=nu∧g.b=decide (10≤(nd E.s i).kind∧(nd E.s i).kind≤12))):=by
  unfold expV at hve
  by_cases q:g.c=cl∧g.n=nu∧g.b=B
  ·rw[if_neg (fun r=>r q)]at hve
   rw[←hB]at q
   by_cases q2:12<dp
   ·rw[if_pos q2]at hve
    exact .inr (.inl ⟨hve.symm,bareF_deep hm h13 (fun r=>r.2 q) q2⟩)
   ·rw[if_neg q2]at hve
    exact .inr (.inr ⟨hve.symm,by omega,q⟩)
  ·rw[if_pos q]at hve
   rw[←hB]at q
   exact .inl ⟨hve.symm,bareF_tag hm h13 h14 q⟩
 have HCASE:=hide hcase
 have HB:Hid (Below W.heap.size W w):=hI.bel
 have HC:=hide hc
 have HM:=hide hm
 have HG:=hide hg
 have HDV:=hide hdv
 have HNN:=hide hN
 have HKA:=hide hka
 have HRO:=hide hroom
 have HX1:=hide hx1
 have HX1I:=hide hx1i
 have HTZI:=hide htzi
 have HTZ:=hide htz
 have hx1z:x1≤tz:=by omega
 have hxx1:x≤x1:=by omega
 unfold spanV ndCells
 rw[←htzi,←hx1i]
 clear hm hcl hg htz hfi hfl hroom hI hTg hka hdv hN hc hx1 hx1i htzi fin1 hve hcase hB hOT
 go_enter Tryz.func115,Tryz.ntmps115
 go_upto_region 6 with fail
 generalize hW0:(w.alloc (.cells #[.int .i64 (nd E.s i).kind,.int .i64 (nd E.s i).tag,.int .i64 (nd E.s i).mode,.slice ka (nd E.s i).kids.length kc] 58)).alloc (.cells #[.int .i64 g.c,.int .i64 g.n,.bool g.b,.int .i64 x,.int .i64 x1,.int .i64 tz] 151)=w0
 have HB0:Hid (Below w.heap.size w w0):=by show Below w.heap.size w w0;rw[←hW0];exact HA.out _ _
 have HG1:Hid (w0.heap[w.heap.size]? =some (.cells #[.int .i64 (nd E.s i).kind,.int .i64 (nd E.s i).tag,.int .i64 (nd E.s i).mode,.slice ka (nd E.s i).kids.length kc] 58 (0,0))):=by
  show w0.heap[w.heap.size]? =_
  rw[←hW0];exact block_below (heap_alloc_new w _) ((Below.refl _ _).alloc (Nat.le_refl _) _)
 have HG2:Hid (w0.heap[w.heap.size+1]? =some (.cells #[.int .i64 g.c,.int .i64 g.n,.bool g.b,.int .i64 x,.int .i64 x1,.int .i64 tz] 151 (0,0))):=by
  show w0.heap[w.heap.size+1]? =_
  rw[←hW0]
  have q:=heap_alloc_new (w.alloc (.cells #[.int .i64 (nd E.s i).kind,.int .i64 (nd E.s i).tag,.int .i64 (nd E.s i).mode,.slice ka (nd E.s i).kids.length kc] 58)) (.cells #[.int .i64 g.c,.int .i64 g.n,.bool g.b,.int .i64 x,.int .i64 x1,.int .i64 tz] 151)
  simpa using q
 have HI0:=hide (HI.out.below HB0.out)
 clear hW0 HA
 have X0:∀y:Ext w0,y.v.cell? ⟨w.heap.size,0,none⟩=some (.int .i64 (nd E.s i).kind):=fun y=>y.cell (cell_of_row HG1.out rfl)
 have X1:∀y:Ext w0,y.v.cell? ⟨w.heap.size,1,none⟩=some (.int .i64 (nd E.s i).tag):=fun y=>y.cell (cell_of_row HG1.out rfl)
 have X2:∀y:Ext w0,y.v.cell? ⟨w.heap.size,2,none⟩=some (.int .i64 (nd E.s i).mode):=fun y=>y.cell (cell_of_row HG1.out rfl)
 have X3:∀y:Ext w0,y.v.cell? ⟨w.heap.size,3,none⟩=some (.slice ka (nd E.s i).kids.length kc):=fun y=>y.cell (cell_of_row HG1.out rfl)
 have Y0:∀y:Ext w0,y.v.cell? ⟨w.heap.size+1,0,none⟩=some (.int .i64 g.c):=fun y=>y.cell (cell_of_row HG2.out rfl)
 have Y1:∀y:Ext w0,y.v.cell? ⟨w.heap.size+1,1,none⟩=some (.int .i64 g.n):=fun y=>y.cell (cell_of_row HG2.out rfl)
 have Y2:∀y:Ext w0,y.v.cell? ⟨w.heap.size+1,2,none⟩=some (.bool g.b):=fun y=>y.cell (cell_of_row HG2.out rfl)
 have Y3:∀y:Ext w0,y.v.cell? ⟨w.heap.size+1,3,none⟩=some (.int .i64 x):=fun y=>y.cell (cell_of_row HG2.out rfl)
 have Y4:∀y:Ext w0,y.v.cell? ⟨w.heap.size+1,4,none⟩=some (.int .i64 x1):=fun y=>y.cell (cell_of_row HG2.out rfl)
 have Y5:∀y:Ext w0,y.v.cell? ⟨w.heap.size+1,5,none⟩=some (.int .i64 tz):=fun y=>y.cell (cell_of_row HG2.out rfl)
 have HBW:Hid (∀y:Ext w0,Below W.heap.size W y.v):=fun y=>HI0.out.bel.trans (y.h.mono HI0.out.bel.size)
 (have ne:=ext_ne;refine wp_region_ext (by kernel_rfl) (by kernel_rfl) ?_;(repeat(first|go_big_quiet_skip|(go_big_quiet_want;go_big_quiet_op;first|go_big_quiet_on|(apply Exists.intro;refine⟨fun x=>?_,?_⟩;(·(first|(go_at_call 152;exact Ext.calls (HOW.out x.v (HBW.out x)))|(go_at_call 116;exact Ext.calls (HEP.out x.v (HBW.out x)))));go_big_quiet_on))));refine nil_ext ?_)
 intro w5 hb5
 have HB5:Hid (Below w.heap.size w w5):=HB0.out.trans (hb5.mono HB0.out.size)
 have HI5:=hide (HI.out.below HB5.out)
 have H15:=hide (block_below HG1.out hb5)
 have H25:=hide (block_below HG2.out hb5)
 clear X0 X1 X2 X3 Y0 Y1 Y2 Y3 Y4 Y5 hb5
 rcases HCASE.out with⟨rfl,ho⟩|⟨rfl,ho⟩|⟨rfl,hdp,hq⟩
 ·have HOE:=hide ho
  unfold fault
  clear ho
  go_wp2
  go_ret
  exact⟨Fr.of_below HB5.out,.inr ⟨4,x,tree,HOE.out,rfl,HI5.out⟩⟩
 ·have HOE:=hide ho
  unfold fault
  clear ho
  go_wp2
  go_ret
  exact⟨Fr.of_below HB5.out,.inr ⟨10,x,tree,HOE.out,rfl,HI5.out⟩⟩
 ·have HQ:=hide hq
  have n0:w5.cell? ⟨w.heap.size,0,none⟩=some (.int .i64 (nd E.s i).kind):=cell_of_row H15.out rfl
  have n1:w5.cell? ⟨w.heap.size,1,none⟩=some (.int .i64 (nd E.s i).tag):=cell_of_row H15.out rfl
  have n2:w5.cell? ⟨w.heap.size,2,none⟩=some (.int .i64 (nd E.s i).mode):=cell_of_row H15.out rfl
  have n3:w5.cell? ⟨w.heap.size,3,none⟩=some (.slice ka (nd E.s i).kids.length kc):=cell_of_row H15.out rfl
  have s0:w5.cell? ⟨w.heap.size+1,0,none⟩=some (.int .i64 g.c):=cell_of_row H25.out rfl
  have s1:w5.cell? ⟨w.heap.size+1,1,none⟩=some (.int .i64 g.n):=cell_of_row H25.out rfl
  have s2:w5.cell? ⟨w.heap.size+1,2,none⟩=some (.bool g.b):=cell_of_row H25.out rfl
  have s3:w5.cell? ⟨w.heap.size+1,3,none⟩=some (.int .i64 x):=cell_of_row H25.out rfl
  have s4:w5.cell? ⟨w.heap.size+1,4,none⟩=some (.int .i64 x1):=cell_of_row H25.out rfl
  have s5:w5.cell? ⟨w.heap.size+1,5,none⟩=some (.int .i64 tz):=cell_of_row H25.out rfl
  have hl5:w.heap.size+1<w5.heap.size:=lt_of_cell s0
  have HR1:Hid (Room tree (f+1) x1 tz):=by show Room _ _ _ _;have:=HRO.out;unfold Room at this ⊢;omega
  clear hq hk13 hk14b
  by_cases h10:(nd E.s i).kind=10
  ·obtain⟨v,hv,ho⟩:=bareF_seq HM.out HQ.out hdp h10
   rw[←HX1.out]at hv
   have HCL:Hid (∀wq,RdD W wq R a E.s.length c gb E.d tree→Calls Tryz.prog 160 #[.pointer (some ⟨R,0,none⟩),.agg #[.int .i64 (nd E.s i).kind,.int .i64 (nd E.s i).tag,.int .i64 (nd E.s i).mode,.slice ka (nd E.s i).kids.length kc],.int .i64 dp,.agg #[.int .i64 g.c,.int .i64 g.n,.bool g.b,.int .i64 x,.int .i64 x1,.int .i64 tz]] wq fun e w'=>AfterD E W R a c gb sn o tree wq e w'):=fun wq q=>by
    have:=seq_p E W R a c gb sn f HC.out HDV.out HNN.out i hi ka kc HKA.out hkc g x x1 tz dp v tree wq HX1I.out HTZI.out hv hx1z hz hd1 hdp HR1.out q
    unfold spanV at this
    rw[←HTZI.out,←HX1I.out,←ho]at this
    exact this
   have hk10:((nd E.s i).kind==10)=true:=by simp[h10]
   have hk13:((nd E.s i).kind==13)=false:=by simp[h10]
   have hk14b:((nd E.s i).kind==14)=false:=by simp[h10]
   clear hv ho h10 h13 h14 hk1 hk14 hk12
   go_wp2_with fail
   refine(HCL.out _ HI5.out).mono ?_
   rintro e w6 ha6
   have HA6:=hide ha6
   have hcase:=ha6.two
   clear ha6
   rcases hcase with rfl|⟨q,za,rfl⟩
   ·go_wp2
    go_ret
    exact HFIN.out o _ (Fr.of_below HB5.out) _ _ HA6.out rfl
   ·unfold fault
    go_wp2
    go_ret
    exact HFIN.out o _ (Fr.of_below HB5.out) _ _ HA6.out rfl
  by_cases h11:(nd E.s i).kind=11∨(nd E.s i).kind=12
  ·obtain⟨v,hv,ho⟩:=bareF_many HM.out HQ.out hdp h11
   rw[←HX1.out]at hv
   have HCL:Hid (∀wq,RdD W wq R a E.s.length c gb E.d tree→Calls Tryz.prog 161 #[.pointer (some ⟨R,0,none⟩),.agg #[.int .i64 (nd E.s i).kind,.int .i64 (nd E.s i).tag,.int .i64 (nd E.s i).mode,.slice ka (nd E.s i).kids.length kc],.int .i64 dp,.agg #[.int .i64 g.c,.int .i64 g.n,.bool g.b,.int .i64 x,.int .i64 x1,.int .i64 tz]] wq fun e w'=>AfterD E W R a c gb sn o tree wq e w'):=fun wq q=>by
    have:=list_p E W R a c gb sn f HC.out HNN.out i hi h11 ka kc HKA.out hkc g x x1 tz m dp v tree wq HX1I.out HTZI.out hv hx1z hz hd1 hdp HR1.out q
    unfold spanV at this
    rw[←HTZI.out,←HX1I.out,←ho]at this
    exact this
   have hk10:((nd E.s i).kind==10)=false:=by simp[h10]
   have hkk:((nd E.s i).kind==11)=true∨(((nd E.s i).kind==11)=false∧((nd E.s i).kind==12)=true):=by
    rcases h11 with q|q
    ·exact .inl (by simp[q])
    ·exact .inr ⟨by simp[q],by simp[q]⟩
   clear hv ho h10 h13 h14 hk1 hk14 hk12 h11
   rcases hkk with e11|⟨e11,e12⟩
   all_goals
    go_wp2_with fail
    refine(HCL.out _ HI5.out).mono ?_
    rintro e w6 ha6
    have HA6:=hide ha6
    have hcase:=ha6.two
    clear ha6
    rcases hcase with rfl|⟨q,za,rfl⟩
    ·go_wp2
     go_ret
     exact HFIN.out o _ (Fr.of_below HB5.out) _ _ HA6.out rfl
    ·unfold fault
     go_wp2
     go_ret
     exact HFIN.out o _ (Fr.of_below HB5.out) _ _ HA6.out rfl
  ·have hk9:(nd E.s i).kind≤9:=by omega
   have ho:=bareF_leaf HM.out HQ.out hdp hk9
   rw[←HX1.out]at ho
   have HOO:=hide ho
   have hk10:((nd E.s i).kind==10)=false:=by simp[h10]
   have e11:((nd E.s i).kind==11)=false:=by simp;omega
   have e12:((nd E.s i).kind==12)=false:=by simp;omega
   have HFT:Hid (∀wq,Below W.heap.size W wq→Calls Tryz.prog 138 #[.int .i64 (nd E.s i).kind,.string (E.d.extract x1 tz)] wq fun e w'=>RetW (ContentOk (nd E.s i).kind (E.d.extract x1 tz)) wq e w'):=fun wq q=>fits_any _ _ wq (by rw[ex_size];have:=HC.out.size;omega) (HC.out.lay.below q).d (valids _ wq (by rw[ex_size];have:=HC.out.size;omega) (HC.out.lay.below q).t)
   have HAT:Hid (∀wq,Calls Tryz.prog 60 #[.int .i64 x,.iface 291 (.pointer (some (sn .Value)))] wq fun e w'=>e= .returned (fault x (sn .Value))∧w'=wq):=fun wq=>at_any x _ wq
   unfold fault at HAT
   have d2:w5.cell? ⟨R,2,none⟩=some (.string E.d):=HI5.out.r2
   have hR5:R<w5.heap.size:=lt_of_cell d2
   have hq1:(x1:Int)≤tz:=by omega
   have hq2:(tz:Int)≤E.d.size:=by omega
   clear ho h10 h13 h14 hk1 hk14 hk12 h11 hk9 n1 n2 n3 s0 s1 s2
   go_upto_region 15 with fail
   go_quiet (fail)
   generalize hw6:w5.drewN nq=w6
   have HB6:Hid (Below w5.heap.size w5 w6):=by show Below w5.heap.size w5 w6;rw[←hw6];exact Go.below_drewN (Below.refl _ _) _
   have HI6:=hide (HI5.out.below HB6.out)
   have H16:=hide (block_below H15.out HB6.out)
   have H26:=hide (block_below H25.out HB6.out)
   clear hw6 d2 hR5 n0 s3 s4 s5 hl5
   have n0:w6.cell? ⟨w.heap.size,0,none⟩=some (.int .i64 (nd E.s i).kind):=cell_of_row H16.out rfl
   have hl6:w.heap.size<w6.heap.size:=lt_of_cell n0
   go_wp2_with fail
   refine(HFT.out _ HI6.out.bel).mono ?_
   rintro e w7 ⟨r,rfl,hr,hb7⟩
   have HR:=hide hr
   have HB7:Hid (Below w.heap.size w w7):=(HB5.out.trans (HB6.out.mono HB5.out.size)).trans (hb7.mono (HB5.out.trans (HB6.out.mono HB5.out.size)).size)
   have HI7:=hide (HI6.out.below hb7)
   have H17:=hide (block_below H16.out hb7)
   have H27:=hide (block_below H26.out hb7)
   clear hr hb7 n0 hl6
   have m0:w7.cell? ⟨w.heap.size,0,none⟩=some (.int .i64 (nd E.s i).kind):=cell_of_row H17.out rfl
   have t3:w7.cell? ⟨w.heap.size+1,3,none⟩=some (.int .i64 x):=cell_of_row H27.out rfl
   have hl7:w.heap.size+1<w7.heap.size:=lt_of_cell t3
   cases r
   ·have HOE:Hid (o= .error (6,(x:Int))):=by
     show o=_
     rw[HOO.out,if_neg (fun q=>by cases HR.out.2 ((HC.out.ok _ _).1 q))]
    have cV:=(HC.out.lay.below HI7.out.bel).s.cValue
    have hgl:=lt_of_cell cV
    simp only at hgl
    go_wp2_with fail
    refine(HAT.out _).mono ?_
    rintro e w8 ⟨rfl,rfl⟩
    go_wp2
    go_ret
    exact⟨Fr.of_below HB7.out,.inr ⟨6,x,tree,HOE.out,rfl,HI7.out⟩⟩
   ·have HOE:Hid (o= .ok ([⟨(nd E.s i).kind,E.d.extract x1 tz,0,0⟩],tz)):=by
     show o=_
     rw[HOO.out,if_pos ((HC.out.ok _ _).2 (HR.out.1 rfl))]
    go_wp2_with fail
    refine(add_any W _ R a E.s.length c gb E.d tree (nd E.s i).kind (E.d.extract x1 tz) 0 0 HI7.out hl0).mono ?_
    rintro e w8 ⟨rfl,hI8,hF8⟩
    have HI8:=hide hI8
    have HF8:Hid (Fr R w w8):=(Fr.of_below HB7.out).trans hF8
    clear hI8 hF8
    go_wp2
    go_ret
    exact⟨HF8.out,.inl ⟨_,_,HOE.out,rfl,HI8.out⟩⟩
theorem value1_p(E:Env)(W:World)(R:Nat)(a:Option Addr)(c gb:Nat)(sn:Sn→Addr)(n:Nd)(ka:Option Addr)(kc:Nat)(dp:Int)(g:Hd)(x:Nat)(o:Out)(tree:List Vl)(w:World)(b1 b2 b4:Nat)
 (h1:w.cell? ⟨b1,0,none⟩=some (.pointer (some ⟨R,0,none⟩)))(h2:w.heap[b2]? =some (.cells (ndCells n ka kc) 58 (0,0)))(h4:w.cell? ⟨b4,0,none⟩=some (.int .i64 dp))
 (h:∀wq,Below w.heap.size w wq→Calls Tryz.prog 115 #[.pointer (some ⟨R,0,none⟩),.agg (ndCells n ka kc),.int .i64 dp,spanV g x] wq fun e w'=>AfterD E W R a c gb sn o tree wq e w'):
 Calls Tryz.prog 117 #[spanV g x,.pointer (some ⟨b1,0,none⟩),.pointer (some ⟨b2,0,none⟩),.pointer (some ⟨b4,0,none⟩)] w fun e w'=>AfterD E W R a c gb sn o tree w e w':=by
 have HO:=hide h
 have n0:w.cell? ⟨b2,0,none⟩=some (.int .i64 n.kind):=cell_of_row h2 rfl
 have n1:w.cell? ⟨b2,1,none⟩=some (.int .i64 n.tag):=cell_of_row h2 rfl
 have n2:w.cell? ⟨b2,2,none⟩=some (.int .i64 n.mode):=cell_of_row h2 rfl
 have n3:w.cell? ⟨b2,3,none⟩=some (.slice ka n.kids.length kc):=cell_of_row h2 rfl
 have l1:b1<w.heap.size:=lt_of_cell h1
 have l2:b2<w.heap.size:=lt_of_cell n0
 have l4:b4<w.heap.size:=lt_of_cell h4
 unfold ndCells spanV at HO
 unfold spanV
 clear h h2
 go_enter Tryz.func117,Tryz.ntmps117
 go_wp2_with fail
 refine(HO.out _ ((Below.refl _ _).alloc (Nat.le_refl _) _)).mono ?_
 rintro e w1 ha
 have HA:=hide ha
 have hcase:=ha.two
 clear ha
 rcases hcase with rfl|⟨q,za,rfl⟩
 ·go_wp2
  go_ret
  exact HA.out.of (Fr.of_below ((Below.refl _ _).alloc (Nat.le_refl _) _))
 ·unfold fault
  go_wp2
  go_ret
  exact HA.out.of (Fr.of_below ((Below.refl _ _).alloc (Nat.le_refl _) _))
def loneO(E:Env)(x y:Nat)(o:Out):Out:=
 if(E.hd x y).1≠0 then .error ((E.hd x y).1,(x:Int))
 else match o with
  | .error u=> .error u
  | .ok (vs,_)=>if fin x (E.hd x y).2<y then .error (7,(fin x (E.hd x y).2:Nat))else .ok (vs,y)
theorem lone_v(E:Env)(W:World)(R:Nat)(a:Option Addr)(c gb:Nat)(sn:Sn→Addr)(hc:PC E W a gb sn)(x y:Nat)(o:Out)(tree:List Vl)(w:World)(b1 b2 b3:Nat)(hxy:x≤y)(hy:y≤E.d.size)(hI:RdD W w R a E.s.length c gb E.d tree)
 (h:∀g,E.hd x y=(0,g)→∀wq,Below w.heap.size w wq→Calls Tryz.prog 117 #[spanV g x,.pointer (some ⟨b1,0,none⟩),.pointer (some ⟨b2,0,none⟩),.pointer (some ⟨b3,0,none⟩)] wq fun e w'=>AfterD E W R a c gb sn o tree wq e w'):
 Calls Tryz.prog 76 #[.pointer (some ⟨R,0,none⟩),.int .i64 x,.int .i64 y,.func (.func 117) #[] #[.pointer (some ⟨b1,0,none⟩),.pointer (some ⟨b2,0,none⟩),.pointer (some ⟨b3,0,none⟩)]] w fun e w'=>AfterD E W R a c gb sn (loneO E x y o) tree w e w':=by
 have HC:=hide hc
 have HI:=hide hI
 have hds:=hc.size
 have HOP:=hide (open_any1 W w R a E.s.length c gb E.d tree x y sn hI (hc.lay.below hI.bel).s hxy hy (by omega))
 have HH:=hide h
 have hRl:R<w.heap.size:=lt_of_cell hI.r0
 clear h hc hI
 go_enter Tryz.func76,Tryz.ntmps76
 go_wp2_with fail
 refine HOP.out.mono ?_
 rintro e w4 ⟨hb4,h4⟩
 have HB4:=hide hb4
 clear HOP hb4
 rcases h4 with⟨h40,rfl⟩|⟨h40,rfl⟩
 ·obtain⟨g,hh⟩:∃g,(hd (E.d.extract x y)).2=g:=⟨_,rfl⟩
  have hhd:E.hd x y=(0,g):=by
   unfold Env.hd
   rw[←h40,←hh]
  have HHD:=hide hhd
  obtain⟨z,hzf⟩:∃z,z=fin x g:=⟨_,rfl⟩
  have hfi:=fin_int (E:=E) (x:=x) (y:=y) (by rw[hhd])
  have hfl:=fin_le (E:=E) (x:=x) (y:=y) (by rw[hhd])
  rw[hhd]at hfi hfl
  simp only at hfi hfl
  rw[←hzf]at hfi hfl
  have hzz:(x:Int)+g.s+g.l=z:=by omega
  have HZF:=hide hzf
  have HCL:Hid (∀wq,Below w.heap.size w wq→Calls Tryz.prog 117 #[.agg #[.int .i64 g.c,.int .i64 g.n,.bool g.b,.int .i64 x,.int .i64 ((x:Int)+g.s),.int .i64 z],.pointer (some ⟨b1,0,none⟩),.pointer (some ⟨b2,0,none⟩),.pointer (some ⟨b3,0,none⟩)] wq fun e w'=>AfterD E W R a c gb sn o tree wq e w'):=fun wq q=>by
   have:=HH.out g hhd wq q
   unfold spanV at this
   rw[hzz]at this
   exact this
  have hzy:z≤y:=by omega
  rw[hh]
  unfold spanV
  rw[hzz]
  have HBB:Hid (∀o,Below w.heap.size w (w4.alloc o)):=fun o=>HB4.out.alloc HB4.out.size o
  clear h40 hh hhd hzf hfi hfl hzz HH
  go_wp2_with fail
  refine(HCL.out _ (HBB.out _)).mono ?_
  rintro e w6 ha6
  have HA6:=hide ha6
  have hne:w4.heap.size≠R:=by have:=HB4.out.size;omega
  have hG6:=ha6.1 _ _ _ hne (by decide) (heap_alloc_new w4 _)
  have HF6:Hid (Fr R w w6):=(Fr.of_below (HBB.out _)).trans ha6.1
  have s3:w6.cell? ⟨w4.heap.size,5,none⟩=some (.int .i64 z):=cell_of_row hG6 rfl
  have hl6:w4.heap.size<w6.heap.size:=lt_of_cell s3
  clear ha6 hG6
  rcases HA6.out.2 with⟨vs,zz,ho,rfl,hI6⟩|⟨k,q,tr,ho,rfl,hI6⟩
  ·have HO:=hide ho
   have HI6:=hide hI6
   clear ho hI6
   by_cases hlt:z<y
   ·have hlt':(z:Int)<y:=by omega
    have HL:Hid (loneO E x y o= .error (7,(z:Int))):=by
     show loneO E x y o=_
     unfold loneO
     rw[HHD.out,if_neg (by simp),HO.out]
     simp only
     rw[←HZF.out,if_pos hlt]
    have cM:=(HC.out.lay.below HI6.out.bel).s.cMore
    have hgl:=lt_of_cell cM
    simp only at hgl
    have HAT:Hid (∀wq,Calls Tryz.prog 60 #[.int .i64 z,.iface 291 (.pointer (some (sn .More)))] wq fun e w'=>e= .returned (fault z (sn .More))∧w'=wq):=fun wq=>at_any z _ wq
    unfold fault at HAT
    go_wp2_with fail
    refine(HAT.out _).mono ?_
    rintro e w8 ⟨rfl,rfl⟩
    go_wp2
    go_ret
    exact⟨HF6.out,.inr ⟨7,z,_,HL.out,rfl,HI6.out⟩⟩
   ·have hlt':¬(z:Int)<y:=by omega
    have HL:Hid (loneO E x y o= .ok (vs,y)):=by
     show loneO E x y o=_
     unfold loneO
     rw[HHD.out,if_neg (by simp),HO.out]
     simp only
     rw[←HZF.out,if_neg hlt]
    go_wp2
    go_ret
    exact⟨HF6.out,.inl ⟨vs,y,HL.out,rfl,HI6.out⟩⟩
  ·have HL:Hid (loneO E x y o= .error (k,q)):=by
    show loneO E x y o=_
    unfold loneO
    rw[HHD.out,if_neg (by simp),ho]
   have HI6:=hide hI6
   unfold fault
   clear ho hI6
   go_wp2
   go_ret
   exact⟨HF6.out,.inr ⟨k,q,tr,HL.out,rfl,HI6.out⟩⟩
 ·have he:=errAt_of (t:=E.d.extract x y) x sn h40
  have HL:Hid (loneO E x y o= .error ((hd (E.d.extract x y)).1,(x:Int))):=by
   show loneO E x y o=_
   unfold loneO
   rw[if_pos (show(E.hd x y).1≠0 from h40)]
   rfl
  generalize(hd (E.d.extract x y)).1=k at he HL
  rw[he]
  unfold span0 fault
  clear he h40
  go_wp2
  go_ret
  exact⟨Fr.of_below (HB4.out.alloc HB4.out.size _),.inr ⟨k,x,tree,HL.out,rfl,HI.out.below (HB4.out.alloc HB4.out.size _)⟩⟩
theorem lone_t(E:Env)(W:World)(R:Nat)(a:Option Addr)(c gb:Nat)(sn:Sn→Addr)(hc:PC E W a gb sn)(x y:Nat)(o:Out)(tree:List Vl)(w:World)(b1 b2:Nat)(hxy:x≤y)(hy:y≤E.d.size)(hI:RdD W w R a E.s.length c gb E.d tree)
 (h:∀g,E.hd x y=(0,g)→∀wq,Below w.heap.size w wq→Calls Tryz.prog 77 #[spanV g x,.pointer (some ⟨b1,0,none⟩),.pointer (some ⟨b2,0,none⟩)] wq fun e w'=>AfterD E W R a c gb sn o tree wq e w'):
 Calls Tryz.prog 76 #[.pointer (some ⟨R,0,none⟩),.int .i64 x,.int .i64 y,.func (.func 77) #[] #[.pointer (some ⟨b1,0,none⟩),.pointer (some ⟨b2,0,none⟩)]] w fun e w'=>AfterD E W R a c gb sn (loneO E x y o) tree w e w':=by
 have HC:=hide hc
 have HI:=hide hI
 have hds:=hc.size
 have HOP:=hide (open_any1 W w R a E.s.length c gb E.d tree x y sn hI (hc.lay.below hI.bel).s hxy hy (by omega))
 have HH:=hide h
 have hRl:R<w.heap.size:=lt_of_cell hI.r0
 clear h hc hI
 go_enter Tryz.func76,Tryz.ntmps76
 go_wp2_with fail
 refine HOP.out.mono ?_
 rintro e w4 ⟨hb4,h4⟩
 have HB4:=hide hb4
 clear HOP hb4
 rcases h4 with⟨h40,rfl⟩|⟨h40,rfl⟩
 ·obtain⟨g,hh⟩:∃g,(hd (E.d.extract x y)).2=g:=⟨_,rfl⟩
  have hhd:E.hd x y=(0,g):=by
   unfold Env.hd
   rw[←h40,←hh]
  have HHD:=hide hhd
  obtain⟨z,hzf⟩:∃z,z=fin x g:=⟨_,rfl⟩
  have hfi:=fin_int (E:=E) (x:=x) (y:=y) (by rw[hhd])
  have hfl:=fin_le (E:=E) (x:=x) (y:=y) (by rw[hhd])
  rw[hhd]at hfi hfl
  simp only at hfi hfl
  rw[←hzf]at hfi hfl
  have hzz:(x:Int)+g.s+g.l=z:=by omega
  have HZF:=hide hzf
  have HCL:Hid (∀wq,Below w.heap.size w wq→Calls Tryz.prog 77 #[.agg #[.int .i64 g.c,.int .i64 g.n,.bool g.b,.int .i64 x,.int .i64 ((x:Int)+g.s),.int .i64 z],.pointer (some ⟨b1,0,none⟩),.pointer (some ⟨b2,0,none⟩)] wq fun e w'=>AfterD E W R a c gb sn o tree wq e w'):=fun wq q=>by
   have:=HH.out g hhd wq q
   unfold spanV at this
   rw[hzz]at this
   exact this
  have hzy:z≤y:=by omega
  rw[hh]
  unfold spanV
  rw[hzz]
  have HBB:Hid (∀o,Below w.heap.size w (w4.alloc o)):=fun o=>HB4.out.alloc HB4.out.size o
  clear h40 hh hhd hzf hfi hfl hzz HH
  go_wp2_with fail
  refine(HCL.out _ (HBB.out _)).mono ?_
  rintro e w6 ha6
  have HA6:=hide ha6
  have hne:w4.heap.size≠R:=by have:=HB4.out.size;omega
  have hG6:=ha6.1 _ _ _ hne (by decide) (heap_alloc_new w4 _)
  have HF6:Hid (Fr R w w6):=(Fr.of_below (HBB.out _)).trans ha6.1
  have s3:w6.cell? ⟨w4.heap.size,5,none⟩=some (.int .i64 z):=cell_of_row hG6 rfl
  have hl6:w4.heap.size<w6.heap.size:=lt_of_cell s3
  clear ha6 hG6
  rcases HA6.out.2 with⟨vs,zz,ho,rfl,hI6⟩|⟨k,q,tr,ho,rfl,hI6⟩
  ·have HO:=hide ho
   have HI6:=hide hI6
   clear ho hI6
   by_cases hlt:z<y
   ·have hlt':(z:Int)<y:=by omega
    have HL:Hid (loneO E x y o= .error (7,(z:Int))):=by
     show loneO E x y o=_
     unfold loneO
     rw[HHD.out,if_neg (by simp),HO.out]
     simp only
     rw[←HZF.out,if_pos hlt]
    have cM:=(HC.out.lay.below HI6.out.bel).s.cMore
    have hgl:=lt_of_cell cM
    simp only at hgl
    have HAT:Hid (∀wq,Calls Tryz.prog 60 #[.int .i64 z,.iface 291 (.pointer (some (sn .More)))] wq fun e w'=>e= .returned (fault z (sn .More))∧w'=wq):=fun wq=>at_any z _ wq
    unfold fault at HAT
    go_wp2_with fail
    refine(HAT.out _).mono ?_
    rintro e w8 ⟨rfl,rfl⟩
    go_wp2
    go_ret
    exact⟨HF6.out,.inr ⟨7,z,_,HL.out,rfl,HI6.out⟩⟩
   ·have hlt':¬(z:Int)<y:=by omega
    have HL:Hid (loneO E x y o= .ok (vs,y)):=by
     show loneO E x y o=_
     unfold loneO
     rw[HHD.out,if_neg (by simp),HO.out]
     simp only
     rw[←HZF.out,if_neg hlt]
    go_wp2
    go_ret
    exact⟨HF6.out,.inl ⟨vs,y,HL.out,rfl,HI6.out⟩⟩
  ·have HL:Hid (loneO E x y o= .error (k,q)):=by
    show loneO E x y o=_
    unfold loneO
    rw[HHD.out,if_neg (by simp),ho]
   have HI6:=hide hI6
   unfold fault
   clear ho hI6
   go_wp2
   go_ret
   exact⟨HF6.out,.inr ⟨k,q,tr,HL.out,rfl,HI6.out⟩⟩
 ·have he:=errAt_of (t:=E.d.extract x y) x sn h40
  have HL:Hid (loneO E x y o= .error ((hd (E.d.extract x y)).1,(x:Int))):=by
   show loneO E x y o=_
   unfold loneO
   rw[if_pos (show(E.hd x y).1≠0 from h40)]
   rfl
  generalize(hd (E.d.extract x y)).1=k at he HL
  rw[he]
  unfold span0 fault
  clear he h40
  go_wp2
  go_ret
  exact⟨Fr.of_below (HB4.out.alloc HB4.out.size _),.inr ⟨k,x,tree,HL.out,rfl,HI.out.below (HB4.out.alloc HB4.out.size _)⟩⟩
theorem ownT_neg{n:Nd}(h:n.tag<0)(hk:n.kind≤12):n.ownT=(0,own0 n.kind):=by
 unfold Nd.ownT own0
 rw[if_neg (by omega),if_neg (by omega)]
theorem ownT_in{n:Nd}(h:0≤n.tag)(hm:n.mode=0):n.ownT=(2,n.tag):=by unfold Nd.ownT;rw[if_pos ⟨hm,h⟩]
theorem ownT_round{n:Nd}(hm:n.mode=1)(hk:n.kind≤12):n.ownT=(0,own0 n.kind):=by
 unfold Nd.ownT own0
 rw[if_neg (by omega),if_neg (by omega)]
theorem value_step(E:Env)(W:World)(R:Nat)(a:Option Addr)(c gb:Nat)(sn:Sn→Addr)(f:Nat)(hc:PC E W a gb sn)(hdv:DvOk E)(hN:NodeP E W R a c gb sn f):NodeP E W R a c gb sn (f+1):=by
 intro i x y g dp o tree w hg hm hi hxy hy hd1 hd2 hroom hI
 obtain⟨hk1,hk14,hTg⟩:=tagged_of hc.right hi
 obtain⟨tz,htz⟩:∃tz,tz=fin x g:=⟨_,rfl⟩
 have hfi:=fin_int (E:=E) (x:=x) (y:=y) (by rw[hg])
 have hfl:=fin_le (E:=E) (x:=x) (y:=y) (by rw[hg])
 rw[hg]at hfi hfl
 simp only at hfi hfl
 rw[←htz]at hfi hfl
 have hga:=hd_again (E:=E) (x:=x) (y:=y) (z:=tz) (by rw[hg]) (by rw[hg];simp only;omega) (by omega) hy
 rw[hg]at hga
 have hmv:valF E (rdF E f) f i g x tz dp=some o:=by
  unfold rdF at hm
  rw[if_neg (by rw[hg];simp)]at hm
  rw[hg]at hm
  simp only at hm
  rw[←htz]at hm
  exact hm
 obtain⟨b,ob,ka,kc,rfl,ncl,hkc,_,hka⟩:=hc.sch i hi
 obtain⟨n0,n1,n2,n3⟩:=(⟨ncl.1,ncl.2,ncl.3,ncl.4⟩:NodeCells W b (ob+i*4) (nd E.s i) ka kc)
 obtain⟨m0,m1,m2,m3⟩:w.cell? ⟨b,ob+i*4,none⟩=some (.int .i64 (nd E.s i).kind)∧w.cell? ⟨b,ob+i*4+1,none⟩=some (.int .i64 (nd E.s i).tag)∧w.cell? ⟨b,ob+i*4+2,none⟩=some (.int .i64 (nd E.s i).mode)∧w.cell? ⟨b,ob+i*4+3,none⟩=some (.slice ka (nd E.s i).kids.length kc):=
  ⟨(hI.bel.cell (lt_of_cell n0)).trans n0,(hI.bel.cell (lt_of_cell n1)).trans n1,(hI.bel.cell (lt_of_cell n2)).trans n2,(hI.bel.cell (lt_of_cell n3)).trans n3⟩
 have hbl:b<w.heap.size:=lt_of_cell m0
 have r0:=hI.r0
 have hRl:R<w.heap.size:=lt_of_cell r0
 have hi':(i:Int)<E.s.length:=by omega
 have HI:=hide hI
 have hroom2:Room tree (f+1) x tz:=by unfold Room at hroom ⊢;omega
 have HA:Hid (∀A B C D,Below w.heap.size w ((((w.alloc A).alloc B).alloc C).alloc D)):=fun A B C D=>((((Below.refl w.heap.size w).alloc (Nat.le_refl _) A).alloc (by simp) B).alloc (by simp;omega) C).alloc (by simp;omega) D
 by_cases hmode:(nd E.s i).mode=1
 ·have htg:0≤(nd E.s i).tag:=by
   have h1:=hTg.1
   have h3:=hTg.2.2.1
   omega
  obtain⟨x1,hx1⟩:∃x1,x1=x+g.s.toNat:=⟨_,rfl⟩
  have hx1i:(x1:Int)=(x:Int)+g.s:=by omega
  have htzi:(tz:Int)=(x:Int)+g.s+g.l:=by omega
  obtain⟨ve,hve⟩:∃ve,expV g.c g.n g.b 2 (nd E.s i).tag true x dp sn=ve:=⟨_,rfl⟩
  have hcase:(ve=fault x (sn .Tag)∧o= .error (4,(x:Int)))∨(ve=fault x (sn .Deep)∧o= .error (10,(x:Int)))∨(ve= .nilIface∧∃oi,(∀g',E.hd x1 tz=(0,g')→bareF E (rdF E f) f (nd E.s i) 0 (own0 (nd E.s i).kind) g' x1 (fin x1 g') dp=some oi)∧o=loneO E x1 tz oi):=by
   unfold valF at hmv
   rw[if_neg (by omega),if_neg (by omega),←hx1]at hmv
   unfold expV at hve
   by_cases q:g.c=2∧g.n=(nd E.s i).tag∧g.b=true
   ·rw[if_neg (fun r=>r q)]at hve hmv
    by_cases q2:12<dp
    ·rw[if_pos q2]at hve hmv
     exact .inr (.inl ⟨hve.symm,(Option.some.inj hmv).symm⟩)
    ·rw[if_neg q2]at hve hmv
     refine .inr (.inr ⟨hve.symm,?_⟩)
     by_cases q3:(E.hd x1 tz).1≠0
     ·rw[if_pos q3]at hmv
      exact⟨.error (0,0),fun g' hg'=>absurd (by rw[hg']) q3,by
       unfold loneO
       rw[if_pos q3]
       have q5:=(Option.some.inj hmv).symm
       rw[q5,hx1]
       simp⟩
     ·rw[if_neg q3]at hmv
      rcases andThen_cases hmv with⟨u,h1,rfl⟩|⟨vs,zz,h1,h2⟩
      ·refine⟨.error u,fun g' hg'=>?_,by unfold loneO;rw[if_neg q3]⟩
       rw[hg']at h1
       exact h1
      ·refine⟨.ok (vs,zz),fun g' hg'=>?_,?_⟩
       ·rw[hg']at h1
        exact h1
       ·unfold loneO
        rw[if_neg q3]
        simp only
        split at h2
        ·rename_i q4;rw[if_pos q4];exact(Option.some.inj h2).symm
        ·rename_i q4;rw[if_neg q4];exact(Option.some.inj h2).symm
   ·rw[if_pos q]at hve hmv
    exact .inl ⟨hve.symm,(Option.some.inj hmv).symm⟩
  have HCASE:=hide hcase
  have HAR:Hid (∀wq,Below W.heap.size W wq→Calls Tryz.prog 110 #[.agg #[.int .i64 (nd E.s i).kind,.int .i64 (nd E.s i).tag,.int .i64 (nd E.s i).mode,.slice ka (nd E.s i).kids.length kc]] wq fun e w'=>e= .returned (.tuple #[.agg #[.int .i64 2,.int .i64 (nd E.s i).tag,.bool true],.bool true])∧Below wq.heap.size wq w'):=fun wq q=>around_yes (nd E.s i) ka kc wq hmode (hc.lay.below q).n htg (by omega)
  have HEP:Hid (∀wq,Below W.heap.size W wq→Calls Tryz.prog 116 #[.agg #[.int .i64 g.c,.int .i64 g.n,.bool g.b,.int .i64 x,.int .i64 ((x:Int)+g.s),.int .i64 ((x:Int)+g.s+g.l)],.agg #[.int .i64 2,.int .i64 (nd E.s i).tag,.bool true],.int .i64 dp] wq fun e w'=>e= .returned ve∧Below wq.heap.size wq w'):=fun wq q=>by
   have:=expect_any g.c g.n g.b x ((x:Int)+g.s) ((x:Int)+g.s+g.l) 2 (nd E.s i).tag true dp wq sn (hc.lay.below q).s
   rw[hve]at this
   exact this
  have HOWN:Hid (∀oi,(∀g',E.hd x1 tz=(0,g')→bareF E (rdF E f) f (nd E.s i) 0 (own0 (nd E.s i).kind) g' x1 (fin x1 g') dp=some oi)→∀g',E.hd x1 tz=(0,g')→∀wq,RdD W wq R (some ⟨b,ob,none⟩) E.s.length c gb E.d tree→Calls Tryz.prog 115 #[.pointer (some ⟨R,0,none⟩),.agg (ndCells (nd E.s i) ka kc),.int .i64 dp,spanV g' x1] wq fun e w'=>AfterD E W R (some ⟨b,ob,none⟩) c gb sn oi tree wq e w'):=fun oi hoi g' hg' wq q=>by
   have hfl':=fin_le (E:=E) (x:=x1) (y:=tz) (by rw[hg'])
   rw[hg']at hfl'
   simp only at hfl'
   have hga':=hd_again (E:=E) (x:=x1) (y:=tz) (z:=fin x1 g') (by rw[hg']) (by rw[hg'];exact Nat.le_refl _) (by omega) (by omega)
   rw[hg']at hga'
   exact own_p E W R _ c gb sn f hc hdv hN i hi ka kc hka hkc g' x1 (fin x1 g') f 0 (own0 (nd E.s i).kind) dp oi tree wq (fun hk=>ownT_round hmode hk) hga' rfl (hoi g' hg') (by omega) hd1 hd2 (by unfold Room at hroom2 ⊢;omega) q
  have HC:=hide hc
  have HX1I:=hide hx1i
  have HTZI:=hide htzi
  have hx1z:x1≤tz:=by omega
  have htzs:tz≤E.d.size:=by omega
  unfold spanV
  clear hmode htg hve hcase hmv hroom2 hroom hga hfi hfl htz hTg hka ncl n0 n1 n2 n3 hI hm hg hN hdv hc hx1 hx1i htzi
  go_enter Tryz.func78,Tryz.ntmps78
  go_upto_region 1 with fail
  generalize hW0:((w.alloc (.cells #[.pointer (some ⟨R,0,none⟩)] 142)).alloc (.cells #[.int .i64 dp] 3)).alloc (.cells (spCells g x) 151)=w0
  have HB0:Hid (Below w.heap.size w w0):=by show Below w.heap.size w w0;rw[←hW0];exact(((Below.refl _ _).alloc (Nat.le_refl _) _).alloc (by simp) _).alloc (by simp;omega) _
  have q4:w0.heap[w.heap.size]? =some (.cells #[.pointer (some ⟨R,0,none⟩)] 142 (0,0)):=by
   rw[←hW0]
   exact block_below (block_below (heap_alloc_new w _) ((Below.refl _ _).alloc (Nat.le_refl _) _)) ((Below.refl _ _).alloc (Nat.le_refl _) _)
  have q6:w0.heap[w.heap.size+1]? =some (.cells #[.int .i64 dp] 3 (0,0)):=by
   rw[←hW0]
   exact block_below (by simpa using heap_alloc_new (w.alloc _) _) ((Below.refl _ _).alloc (Nat.le_refl _) _)
  have q7:w0.heap[w.heap.size+1+1]? =some (.cells (spCells g x) 151 (0,0)):=by
   rw[←hW0]
   have q:=heap_alloc_new ((w.alloc (.cells #[.pointer (some ⟨R,0,none⟩)] 142)).alloc (.cells #[.int .i64 dp] 3)) (.cells (spCells g x) 151)
   simpa using q
  have Q4:=hide q4
  have Q6:=hide q6
  have Q7:=hide q7
  have HI0:=hide (HI.out.below HB0.out)
  clear hW0 q4 q6 q7 HA
  have c4:w0.cell? ⟨w.heap.size,0,none⟩=some (.pointer (some ⟨R,0,none⟩)):=cell_of_row Q4.out rfl
  have u0:w0.cell? ⟨R,0,none⟩=some (.slice (some ⟨b,ob,none⟩) E.s.length c):=HI0.out.r0
  have v0:=(HB0.out.cell (lt_of_cell m0)).trans m0
  have v1:=(HB0.out.cell (lt_of_cell m1)).trans m1
  have v2:=(HB0.out.cell (lt_of_cell m2)).trans m2
  have v3:=(HB0.out.cell (lt_of_cell m3)).trans m3
  have hR0:R<w0.heap.size:=lt_of_cell u0
  have hb0:b<w0.heap.size:=lt_of_cell v0
  clear m0 m1 m2 m3 r0 hbl hRl
  go_wp2_with fail
  refine(HAR.out _ ((HI0.out.below ((Below.refl _ _).alloc (Nat.le_refl _) _)).bel)).mono ?_
  rintro e w1 ⟨rfl,hb1⟩
  have hbn:Below w0.heap.size w0 w1:=below_alloc hb1
  have hG9:=block_below (heap_alloc_new w0 _) hb1
  have HB1:Hid (Below w.heap.size w w1):=HB0.out.trans (hbn.mono HB0.out.size)
  have p4:=block_below Q4.out hbn
  have p6:=block_below Q6.out hbn
  have p7:=block_below Q7.out hbn
  have c4':w1.cell? ⟨w.heap.size,0,none⟩=some (.pointer (some ⟨R,0,none⟩)):=cell_of_row p4 rfl
  have c6:w1.cell? ⟨w.heap.size+1,0,none⟩=some (.int .i64 dp):=cell_of_row p6 rfl
  have s0:w1.cell? ⟨w.heap.size+1+1,0,none⟩=some (.int .i64 g.c):=cell_of_row p7 rfl
  have s1:w1.cell? ⟨w.heap.size+1+1,1,none⟩=some (.int .i64 g.n):=cell_of_row p7 rfl
  have s2:w1.cell? ⟨w.heap.size+1+1,2,none⟩=some (.bool g.b):=cell_of_row p7 rfl
  have s3:w1.cell? ⟨w.heap.size+1+1,3,none⟩=some (.int .i64 x):=cell_of_row p7 rfl
  have s4:w1.cell? ⟨w.heap.size+1+1,4,none⟩=some (.int .i64 ((x:Int)+g.s)):=cell_of_row p7 rfl
  have s5:w1.cell? ⟨w.heap.size+1+1,5,none⟩=some (.int .i64 ((x:Int)+g.s+g.l)):=cell_of_row p7 rfl
  have k0:w1.cell? ⟨w0.heap.size,0,none⟩=some (.int .i64 (nd E.s i).kind):=cell_of_row hG9 rfl
  have k1:w1.cell? ⟨w0.heap.size,1,none⟩=some (.int .i64 (nd E.s i).tag):=cell_of_row hG9 rfl
  have k2:w1.cell? ⟨w0.heap.size,2,none⟩=some (.int .i64 (nd E.s i).mode):=cell_of_row hG9 rfl
  have k3:w1.cell? ⟨w0.heap.size,3,none⟩=some (.slice ka (nd E.s i).kids.length kc):=cell_of_row hG9 rfl
  have hl1:w0.heap.size<w1.heap.size:=lt_of_cell k0
  have hl2:w.heap.size+1+1<w1.heap.size:=lt_of_cell s0
  have hl3:w.heap.size<w1.heap.size:=by omega
  have hl4:w.heap.size+1<w1.heap.size:=by omega
  have HG9:=hide hG9
  have HP4:=hide p4
  have HP6:=hide p6
  have HP7:=hide p7
  have HI1:=hide (HI.out.below HB1.out)
  have HBA:Hid (∀o,Below w1.heap.size w1 (w1.alloc o)):=fun o=>(Below.refl _ _).alloc (Nat.le_refl _) o
  clear hb1 hbn hG9 p4 p6 p7 c4 u0 v0 v1 v2 v3 hR0 hb0
  go_wp2_with fail
  refine(HEP.out _ (HI1.out.below (HBA.out _)).bel).mono ?_
  rintro e w2 ⟨rfl,hb2⟩
  have hb12:Below w1.heap.size w1 w2:=below_alloc hb2
  have HB2:Hid (Below w.heap.size w w2):=HB1.out.trans (hb12.mono HB1.out.size)
  have HI2:=hide (HI1.out.below hb12)
  have H92:=hide (block_below HG9.out hb12)
  have H42:=hide (block_below HP4.out hb12)
  have H62:=hide (block_below HP6.out hb12)
  have H72:=hide (block_below HP7.out hb12)
  clear hb2 hb12 c4' c6 s0 s1 s2 s3 s4 s5 k0 k1 k2 k3 hl1 hl2 hl3 hl4
  rcases HCASE.out with⟨rfl,ho⟩|⟨rfl,ho⟩|⟨rfl,oi,hoi,ho⟩
  ·have HOE:=hide ho
   unfold fault
   clear ho
   go_wp2
   go_ret
   exact⟨Fr.of_below HB2.out,.inr ⟨4,x,tree,HOE.out,rfl,HI2.out⟩⟩
  ·have HOE:=hide ho
   unfold fault
   clear ho
   go_wp2
   go_ret
   exact⟨Fr.of_below HB2.out,.inr ⟨10,x,tree,HOE.out,rfl,HI2.out⟩⟩
  ·have HLN:Hid (Calls Tryz.prog 76 #[.pointer (some ⟨R,0,none⟩),.int .i64 ((x:Int)+g.s),.int .i64 ((x:Int)+g.s+g.l),.func (.func 117) #[] #[.pointer (some ⟨w.heap.size,0,none⟩),.pointer (some ⟨w0.heap.size,0,none⟩),.pointer (some ⟨w.heap.size+1,0,none⟩)]] w2 fun e w'=>AfterD E W R (some ⟨b,ob,none⟩) c gb sn o tree w2 e w'):=by
    show Calls _ _ _ _ _
    have:=lone_v E W R (some ⟨b,ob,none⟩) c gb sn HC.out x1 tz oi tree w2 w.heap.size w0.heap.size (w.heap.size+1) hx1z htzs HI2.out fun g' hg' wq q=>value1_p E W R _ c gb sn (nd E.s i) ka kc dp g' x1 oi tree wq w.heap.size w0.heap.size (w.heap.size+1) (cell_of_row (block_below H42.out q) rfl) (block_below H92.out q) (cell_of_row (block_below H62.out q) rfl) fun w3 q3=>HOWN.out oi hoi g' hg' w3 ((HI2.out.below q).below q3)
    rw[←ho,HX1I.out,HTZI.out]at this
    exact this
   have c4':w2.cell? ⟨w.heap.size,0,none⟩=some (.pointer (some ⟨R,0,none⟩)):=cell_of_row H42.out rfl
   have s4:w2.cell? ⟨w.heap.size+1+1,4,none⟩=some (.int .i64 ((x:Int)+g.s)):=cell_of_row H72.out rfl
   have s5:w2.cell? ⟨w.heap.size+1+1,5,none⟩=some (.int .i64 ((x:Int)+g.s+g.l)):=cell_of_row H72.out rfl
   have hl2:w.heap.size+1+1<w2.heap.size:=lt_of_cell s4
   have hl3:w.heap.size<w2.heap.size:=by omega
   clear ho hoi
   go_wp2_with fail
   refine HLN.out.mono ?_
   rintro e w6 ha6
   have HA6:=hide ha6
   have hcase:=ha6.two
   clear ha6
   rcases hcase with rfl|⟨q,za,rfl⟩
   ·go_wp2
    go_ret
    exact HA6.out.of (Fr.of_below HB2.out)
   ·unfold fault
    go_wp2
    go_ret
    exact HA6.out.of (Fr.of_below HB2.out)
 ·have hm0:(nd E.s i).mode=0:=by
   obtain⟨_,_,t3,t4,t5⟩:=hTg
   by_cases q:(nd E.s i).tag= -1
   ·exact t3 q
   ·by_cases q2:(nd E.s i).kind=13∨(nd E.s i).kind=14
    ·exact absurd (t4 (by omega) q2) hmode
    ·have:=t5 (by omega) (by omega) (by omega)
     omega
  obtain⟨cl,nu,hcl,hbare⟩:∃cl nu,((nd E.s i).kind≤12→(nd E.s i).ownT=(cl,nu))∧bareF E (rdF E f) f (nd E.s i) cl nu g x tz dp=some o:=by
   unfold valF at hmv
   by_cases q:(nd E.s i).tag<0
   ·rw[if_pos q]at hmv
    exact⟨_,_,fun hk=>ownT_neg q hk,hmv⟩
   ·rw[if_neg q,if_pos hm0]at hmv
    exact⟨_,_,fun _=>ownT_in (by omega) hm0,hmv⟩
  have HOW:Hid (∀wq,RdD W wq R (some ⟨b,ob,none⟩) E.s.length c gb E.d tree→Calls Tryz.prog 115 #[.pointer (some ⟨R,0,none⟩),.agg (ndCells (nd E.s i) ka kc),.int .i64 dp,spanV g x] wq fun e w'=>AfterD E W R (some ⟨b,ob,none⟩) c gb sn o tree wq e w'):=fun wq q=>
   own_p E W R _ c gb sn f hc hdv hN i hi ka kc hka hkc g x tz f cl nu dp o tree wq hcl hga htz hbare (by omega) hd1 hd2 hroom2 q
  have HAR:Hid (∀wq,Calls Tryz.prog 110 #[.agg #[.int .i64 (nd E.s i).kind,.int .i64 (nd E.s i).tag,.int .i64 (nd E.s i).mode,.slice ka (nd E.s i).kids.length kc]] wq fun e w'=>e= .returned (.tuple #[.agg #[.int .i64 0,.int .i64 0,.bool false],.bool false])∧Below wq.heap.size wq w'):=fun wq=>around_no (nd E.s i) ka kc wq hmode
  unfold spanV ndCells at HOW
  unfold spanV
  clear hmode hm0 hcl hbare hmv hroom2 hroom hga hfi hfl htz hTg hka ncl n0 n1 n2 n3 hI hm hg hN hdv hc
  go_enter Tryz.func78,Tryz.ntmps78
  go_upto_region 1 with fail
  generalize hW0:((w.alloc (.cells #[.pointer (some ⟨R,0,none⟩)] 142)).alloc (.cells #[.int .i64 dp] 3)).alloc (.cells (spCells g x) 151)=w0
  have HB0:Hid (Below w.heap.size w w0):=by show Below w.heap.size w w0;rw[←hW0];exact(((Below.refl _ _).alloc (Nat.le_refl _) _).alloc (by simp) _).alloc (by simp;omega) _
  have q4:w0.heap[w.heap.size]? =some (.cells #[.pointer (some ⟨R,0,none⟩)] 142 (0,0)):=by
   rw[←hW0]
   exact block_below (block_below (heap_alloc_new w _) ((Below.refl _ _).alloc (Nat.le_refl _) _)) ((Below.refl _ _).alloc (Nat.le_refl _) _)
  have q6:w0.heap[w.heap.size+1]? =some (.cells #[.int .i64 dp] 3 (0,0)):=by
   rw[←hW0]
   exact block_below (by simpa using heap_alloc_new (w.alloc _) _) ((Below.refl _ _).alloc (Nat.le_refl _) _)
  have q7:w0.heap[w.heap.size+1+1]? =some (.cells (spCells g x) 151 (0,0)):=by
   rw[←hW0]
   have q:=heap_alloc_new ((w.alloc (.cells #[.pointer (some ⟨R,0,none⟩)] 142)).alloc (.cells #[.int .i64 dp] 3)) (.cells (spCells g x) 151)
   simpa using q
  have Q4:=hide q4
  have Q6:=hide q6
  have Q7:=hide q7
  have HI0:=hide (HI.out.below HB0.out)
  clear hW0 q4 q6 q7 HA
  have c4:w0.cell? ⟨w.heap.size,0,none⟩=some (.pointer (some ⟨R,0,none⟩)):=cell_of_row Q4.out rfl
  have u0:w0.cell? ⟨R,0,none⟩=some (.slice (some ⟨b,ob,none⟩) E.s.length c):=HI0.out.r0
  have v0:=(HB0.out.cell (lt_of_cell m0)).trans m0
  have v1:=(HB0.out.cell (lt_of_cell m1)).trans m1
  have v2:=(HB0.out.cell (lt_of_cell m2)).trans m2
  have v3:=(HB0.out.cell (lt_of_cell m3)).trans m3
  have hR0:R<w0.heap.size:=lt_of_cell u0
  have hb0:b<w0.heap.size:=lt_of_cell v0
  clear m0 m1 m2 m3 r0 hbl hRl
  go_wp2_with fail
  refine(HAR.out _).mono ?_
  rintro e w1 ⟨rfl,hb1⟩
  have hbn:Below w0.heap.size w0 w1:=below_alloc hb1
  have hG9:=block_below (heap_alloc_new w0 _) hb1
  have HB1:Hid (Below w.heap.size w w1):=HB0.out.trans (hbn.mono HB0.out.size)
  have p4:=block_below Q4.out hbn
  have p6:=block_below Q6.out hbn
  have p7:=block_below Q7.out hbn
  have c4':w1.cell? ⟨w.heap.size,0,none⟩=some (.pointer (some ⟨R,0,none⟩)):=cell_of_row p4 rfl
  have c6:w1.cell? ⟨w.heap.size+1,0,none⟩=some (.int .i64 dp):=cell_of_row p6 rfl
  have s0:w1.cell? ⟨w.heap.size+1+1,0,none⟩=some (.int .i64 g.c):=cell_of_row p7 rfl
  have s1:w1.cell? ⟨w.heap.size+1+1,1,none⟩=some (.int .i64 g.n):=cell_of_row p7 rfl
  have s2:w1.cell? ⟨w.heap.size+1+1,2,none⟩=some (.bool g.b):=cell_of_row p7 rfl
  have s3:w1.cell? ⟨w.heap.size+1+1,3,none⟩=some (.int .i64 x):=cell_of_row p7 rfl
  have s4:w1.cell? ⟨w.heap.size+1+1,4,none⟩=some (.int .i64 ((x:Int)+g.s)):=cell_of_row p7 rfl
  have s5:w1.cell? ⟨w.heap.size+1+1,5,none⟩=some (.int .i64 ((x:Int)+g.s+g.l)):=cell_of_row p7 rfl
  have k0:w1.cell? ⟨w0.heap.size,0,none⟩=some (.int .i64 (nd E.s i).kind):=cell_of_row hG9 rfl
  have k1:w1.cell? ⟨w0.heap.size,1,none⟩=some (.int .i64 (nd E.s i).tag):=cell_of_row hG9 rfl
  have k2:w1.cell? ⟨w0.heap.size,2,none⟩=some (.int .i64 (nd E.s i).mode):=cell_of_row hG9 rfl
  have k3:w1.cell? ⟨w0.heap.size,3,none⟩=some (.slice ka (nd E.s i).kids.length kc):=cell_of_row hG9 rfl
  have hl1:w0.heap.size<w1.heap.size:=lt_of_cell k0
  have hl2:w.heap.size+1+1<w1.heap.size:=lt_of_cell s0
  have hl3:w.heap.size<w1.heap.size:=by omega
  have hl4:w.heap.size+1<w1.heap.size:=by omega
  have HI1:=hide (HI.out.below HB1.out)
  have HBA:Hid (∀o,Below w1.heap.size w1 (w1.alloc o)):=fun o=>(Below.refl _ _).alloc (Nat.le_refl _) o
  clear hb1 hbn hG9 p4 p6 p7 c4 u0 v0 v1 v2 v3 hR0 hb0
  go_wp2_with fail
  refine(HOW.out _ (HI1.out.below (HBA.out _))).mono ?_
  rintro e w6 ha6
  have HA6:=hide ha6
  have hcase:=ha6.two
  clear ha6
  rcases hcase with rfl|⟨q,za,rfl⟩
  ·go_wp2
   go_ret
   exact HA6.out.of ((Fr.of_below HB1.out).below (HBA.out _))
  ·unfold fault
   go_wp2
   go_ret
   exact HA6.out.of ((Fr.of_below HB1.out).below (HBA.out _))
theorem value_all(E:Env)(W:World)(R:Nat)(a:Option Addr)(c gb:Nat)(sn:Sn→Addr)(hc:PC E W a gb sn)(hdv:DvOk E):∀f,NodeP E W R a c gb sn f
 |0=>fun _ _ _ _ _ _ _ _ _ hm=>by cases hm
 |f+1=>value_step E W R a c gb sn f hc hdv (value_all E W R a c gb sn hc hdv f)
theorem tree1_p(E:Env)(W:World)(R:Nat)(a:Option Addr)(c gb:Nat)(sn:Sn→Addr)(root:Nat)(g:Hd)(x:Nat)(o:Out)(tree:List Vl)(w:World)(b1 b2:Nat)
 (h1:w.cell? ⟨b1,0,none⟩=some (.pointer (some ⟨R,0,none⟩)))(h2:w.cell? ⟨b2,0,none⟩=some (.int .i64 root))
 (h:∀wq,Below w.heap.size w wq→Calls Tryz.prog 78 #[.pointer (some ⟨R,0,none⟩),.int .i64 root,.int .i64 1,spanV g x] wq fun e w'=>AfterD E W R a c gb sn o tree wq e w'):
 Calls Tryz.prog 77 #[spanV g x,.pointer (some ⟨b1,0,none⟩),.pointer (some ⟨b2,0,none⟩)] w fun e w'=>AfterD E W R a c gb sn o tree w e w':=by
 have HO:=hide h
 have l1:b1<w.heap.size:=lt_of_cell h1
 have l2:b2<w.heap.size:=lt_of_cell h2
 unfold spanV at HO ⊢
 clear h
 go_enter Tryz.func77,Tryz.ntmps77
 go_wp2_with fail
 refine(HO.out _ ((Below.refl _ _).alloc (Nat.le_refl _) _)).mono ?_
 rintro e w1 ha
 have HA:=hide ha
 have hcase:=ha.two
 clear ha
 rcases hcase with rfl|⟨q,za,rfl⟩
 ·go_wp2
  go_ret
  exact HA.out.of (Fr.of_below ((Below.refl _ _).alloc (Nat.le_refl _) _))
 ·unfold fault
  go_wp2
  go_ret
  exact HA.out.of (Fr.of_below ((Below.refl _ _).alloc (Nat.le_refl _) _))
theorem readF_lone{E:Env}{f root:Nat}{v:Except (Int×Int) (List Vl)}(h:readF E f root=some v):∃o,(∀g,E.hd 0 E.d.size=(0,g)→rdF E f root 0 E.d.size 1=some o)∧
 ((∃u,v= .error u∧loneO E 0 E.d.size o= .error u)∨∃vs,v= .ok vs∧loneO E 0 E.d.size o= .ok (vs,E.d.size)):=by
 unfold readF at h
 rcases andThen_cases h with⟨u,h1,rfl⟩|⟨vs,z,h1,h2⟩
 ·refine⟨.error u,fun _ _=>h1,.inl ⟨u,rfl,?_⟩⟩
  unfold loneO
  by_cases q:(E.hd 0 E.d.size).1≠0
  ·rw[if_pos q]
   have:=rdF_head_err h1 q
   rw[this]
  ·rw[if_neg q]
 ·obtain⟨hh,hz⟩:=rdF_fin h1
  refine⟨.ok (vs,z),fun _ _=>h1,?_⟩
  unfold loneO
  rw[if_neg (by rw[hh];simp)]
  simp only
  rw[←hz]
  split at h2
  ·rename_i q
   refine .inl ⟨_,(Option.some.inj h2).symm,?_⟩
   rw[if_pos q]
  ·rename_i q
   refine .inr ⟨vs,(Option.some.inj h2).symm,?_⟩
   rw[if_neg q]

def IsEr(o:Out):Prop:=∀e q,o= .error (e,q)→3≤e∧e≤10
theorem hd_er{E:Env}{x y:Nat}(h:(E.hd x y).1≠0):3≤(E.hd x y).1∧(E.hd x y).1≤10:=by
 have:=hd_c345 (E.d.extract x y)
 unfold Env.hd at h ⊢
 omega
theorem choiceF_er{E:Env}{rec:Rec}(hr:∀i x y dp o,rec i x y dp=some o→IsEr o){h:Hd}{x tz:Nat}{dp:Int}:∀(ks:List Kd) (j:Nat) {o:Out},choiceF E rec h x tz dp ks j=some o→IsEr o
 | [],_,o,e=>by unfold choiceF at e;cases e;intro a b q;cases q;decide
 |k::ks,j,o,e=>by
  unfold choiceF at e
  split at e
  ·rcases andThen_cases e with⟨u,h1,rfl⟩|⟨vs,z,h1,h2⟩
   ·exact hr _ _ _ _ _ h1
   ·cases h2;intro a b q;cases q
  ·exact choiceF_er hr ks (j+1) e
theorem seqF_er{E:Env}{rec:Rec}(hr:∀i x y dp o,rec i x y dp=some o→IsEr o){tz:Nat}{dp:Int}:∀(ks:List Kd) (x:Nat) (acc:List Vl) {o:Out},seqF E rec tz dp ks x acc=some o→IsEr o
 | [],x,acc,o,e=>by unfold seqF at e;split at e<;> (cases e;intro a b q;cases q<;>decide)
 |k::ks,x,acc,o,e=>by
  unfold seqF at e
  split at e
  ·rename_i q;cases e;intro a b p;cases p;exact hd_er q.2
  split at e
  ·rcases andThen_cases e with⟨u,h1,rfl⟩|⟨vs,z,h1,h2⟩
   ·exact hr _ _ _ _ _ h1
   ·split at h2
    ·cases h2;intro a b q;cases q;decide
    ·exact seqF_er hr ks _ _ h2
  split at e
  ·exact seqF_er hr ks _ _ e
  split at e
  ·exact seqF_er hr ks _ _ e
  split at e<;> (cases e;intro a b q;cases q<;>decide)
theorem manyF_er{E:Env}{rec:Rec}(hr:∀i x y dp o,rec i x y dp=some o→IsEr o){set:Bool}{i tz:Nat}{dp:Int}:∀(m x:Nat) (last:ByteArray) (j:Nat) (acc:List Vl) {v:Except (Int×Int) (Nat×List Vl)},manyF E rec set i tz dp m x last j acc=some v→∀e q,v= .error (e,q)→3≤e∧e≤10
 |0,_,_,_,_,_,e=>by cases e
 |m+1,x,last,j,acc,v,e=>by
  unfold manyF at e
  split at e
  ·rcases andThen_cases e with⟨u,h1,rfl⟩|⟨vs,z,h1,h2⟩
   ·intro a b q;cases q;exact hr _ _ _ _ _ h1 _ _ rfl
   ·split at h2
    ·cases h2;intro a b q;cases q;decide
    ·exact manyF_er hr m _ _ _ _ h2
  ·cases e;intro a b q;cases q
theorem bareF_er{E:Env}{rec:Rec}(hr:∀i x y dp o,rec i x y dp=some o→IsEr o){m:Nat}{n:Nd}{cl nu:Int}{h:Hd}{x tz:Nat}{dp:Int}{o:Out}(e:bareF E rec m n cl nu h x tz dp=some o):IsEr o:=by
 unfold bareF at e
 split at e
 ·exact choiceF_er hr _ _ e
 split at e
 ·cases e;intro a b q;cases q;decide
 split at e
 ·cases e;intro a b q;cases q;decide
 split at e
 ·cases e;intro a b q;cases q
 split at e
 ·split at e
  ·cases e
  ·rename_i u hs;cases e;intro a b q;cases q;exact seqF_er hr _ _ _ hs _ _ rfl
  ·cases e;intro a b q;cases q
 split at e
 ·split at e
  ·cases e
  ·rename_i u hs;cases e;intro a b q;cases q;exact manyF_er hr _ _ _ _ _ hs _ _ rfl
  ·cases e;intro a b q;cases q
 split at e
 ·cases e;intro a b q;cases q
 ·cases e;intro a b q;cases q;decide
theorem valF_er{E:Env}{rec:Rec}(hr:∀i x y dp o,rec i x y dp=some o→IsEr o){m i:Nat}{h:Hd}{x tz:Nat}{dp:Int}{o:Out}(e:valF E rec m i h x tz dp=some o):IsEr o:=by
 unfold valF at e
 split at e
 ·exact bareF_er hr e
 split at e
 ·exact bareF_er hr e
 split at e
 ·cases e;intro a b q;cases q;decide
 split at e
 ·cases e;intro a b q;cases q;decide
 split at e
 ·rename_i q;cases e;intro a b p;cases p;exact hd_er q
 rcases andThen_cases e with⟨u,h1,rfl⟩|⟨vs,z,h1,h2⟩
 ·exact bareF_er hr h1
 ·split at h2<;> (cases h2;intro a b q;cases q<;>decide)
theorem rdF_er{E:Env}:∀(f i x y:Nat) (dp:Int) (o:Out),rdF E f i x y dp=some o→IsEr o
 |0,_,_,_,_,_,e=>by cases e
 |f+1,i,x,y,dp,o,e=>by
  rw[rdF]at e
  split at e
  ·rename_i q;cases e;intro a b p;cases p;exact hd_er q
  ·exact valF_er (rdF_er f) e
theorem readF_er{E:Env}{f root:Nat}{v:Except (Int×Int) (List Vl)}(h:readF E f root=some v):∀e q,v= .error (e,q)→3≤e∧e≤10:=by
 unfold readF at h
 rcases andThen_cases h with⟨u,h1,rfl⟩|⟨vs,z,h1,h2⟩
 ·intro a b q;cases q;exact rdF_er _ _ _ _ _ _ h1 _ _ rfl
 ·split at h2<;> (cases h2;intro a b q;cases q<;>decide)
def snE(k:Int):Sn:=if k=2 then .Long else snOf k
theorem snE_code(k:Int)(h2:2≤k)(h10:k≤10):(snE k).code=k:=by
 obtain rfl|rfl|rfl|rfl|rfl|rfl|rfl|rfl|rfl:k=2∨k=3∨k=4∨k=5∨k=6∨k=7∨k=8∨k=9∨k=10:=by omega
 all_goals rfl
def RetTr(sn:Sn→Addr)(za:Addr)(v:Except (Int×Int) (List Vl))(w:World)(e:Ending)(w':World):Prop:=
 Below w.heap.size w w'∧
 ((∃vs ta tc,v= .ok vs∧e= .returned (.tuple #[.slice ta vs.length tc,.nilIface])∧w'.ownsRow w.heap.size 60 4 (.slice ta vs.length tc) vs.length (vcells vs))∨
  (∃p,v= .error (1,0)∧e= .returned (.tuple #[.slice none 0 0,faultV 0 (fault p za)]))∨
  (v= .error (1,0)∧e= .returned (.tuple #[.slice none 0 0,fault 0 za]))∨
  (∃k q,v= .error (k,q)∧2≤k∧k≤10∧e= .returned (.tuple #[.slice none 0 0,fault q (sn (snE k))])))
theorem tree_any(E:Env)(s:List Nd)(a:Option Addr)(c:Nat)(root:Int)(d:ByteArray)(v:Except (Int×Int) (List Vl))(w:World)(sn:Sn→Addr)(za:Addr)(hl:Lay w sn)(hz:LayZ w sn za)(hs:Sch w a s)(hok:SchOk s)(hn0:s.length≤140737488351232)(hdm:d.size≤9223372036854775807)(hv:DecV E s root d v):
 Calls Tryz.prog 47 #[.slice a s.length c,.int .i64 root,.string d] w fun e w'=>RetTr sn za v w e w':=by
 have HCR:Hid (∀wq,Below w.heap.size w wq→Calls Tryz.prog 74 #[.slice a s.length c,.int .i64 root] wq fun e w'=>RetRt s root za wq e w'):=fun wq q=>checkRoot_any s a c root wq sn za (hl.below q) (hz.below q) (hs.below q) hok hn0
 have HL:=hide hl
 have HS:=hide hs
 have HOK:=hide hok
 have HV:=hide hv
 clear hl hz hs hok hv
 go_enter Tryz.func47,Tryz.ntmps47
 go_wp2_with fail
 refine(HCR.out _ ((Below.refl _ _).alloc (Nat.le_refl _) _)).mono ?_
 rintro e w1 ⟨hb1,h1⟩
 have HB1:Hid (Below w.heap.size w w1):=below_alloc hb1
 have HG1:Hid (w1.heap[w.heap.size]? =some (.cells #[.int .i64 root] 3 (0,0))):=block_below (heap_alloc_new w _) hb1
 have g1:w1.cell? ⟨w.heap.size,0,none⟩=some (.int .i64 root):=cell_of_row HG1.out rfl
 have hlt1:w.heap.size<w1.heap.size:=lt_of_cell g1
 clear hb1
 rcases h1 with⟨rfl,hr,h0,h1⟩|⟨⟨p,rfl⟩,hr⟩|⟨rfl,hr,h0⟩
 ·have HR:=hide hr
  clear hr
  by_cases h2:4000<d.size
  ·have h2':(4000:Int)<d.size:=by omega
   have cL:=(HL.out.below HB1.out).s.cLong
   have hgl:=lt_of_cell cL
   simp only at hgl
   have HAT:Hid (∀wq,Calls Tryz.prog 60 #[.int .i64 0,.iface 291 (.pointer (some (sn .Long)))] wq fun e w'=>e= .returned (fault 0 (sn .Long))∧w'=wq):=fun wq=>at_any 0 _ wq
   unfold fault at HAT
   go_wp2_with fail
   refine(HAT.out _).mono ?_
   rintro e w2 ⟨rfl,rfl⟩
   go_wp2
   refine bodyPost_ret (v:= .tuple #[.slice none 0 0,fault 0 (sn .Long)]) (by simp[results,Tryz.results47,go_sem,fault]) rfl ?_
   refine⟨HB1.out,.inr (.inr (.inr ⟨2,0,?_,by decide,by decide,rfl⟩))⟩
   rcases HV.out with⟨q,_⟩|⟨_,_,q⟩|⟨_,q,_⟩
   ·exact absurd ⟨HR.out,h0,h1⟩ q
   ·exact q
   ·omega
  ·have h2':(d.size:Int)≤4000:=by omega
   obtain⟨hd4,rfl,rfl,hE,f,hf,hrd⟩:d.size≤4000∧E.s=s∧E.d=d∧EnvOk E∧∃f,f≤1000000∧readF E f root.toNat=some v:=by
    rcases HV.out with⟨q,_⟩|⟨_,q,_⟩|⟨_,q⟩
    ·exact absurd ⟨HR.out,h0,h1⟩ q
    ·omega
    ·exact q
   obtain⟨rt,rfl⟩:∃n:Nat,root=n:=⟨root.toNat,by omega⟩
   have hrt:rt<E.s.length:=by omega
   have hER:=readF_er hrd
   have HRD:Hid (readF E f rt=some v):=by
    show readF E f rt=some v
    simpa using hrd
   have HE:=hide hE
   have HER:=hide hER
   have hAl:=HR.out.2.2.1
   have h40:E.s.length≤40:=HR.out.2.1
   have HAB:Hid (Calls Tryz.prog 64 #[.slice a E.s.length c] w1 fun e w'=>e= .returned (.slice (some ⟨w1.heap.size,0,none⟩) E.s.length E.s.length)∧AbW E.s w1 w' E.s.length):=allBeginnings_any E.s a c w1 (HS.out.below HB1.out) (within_of hAl) (fun j hj=>(taggedOf hAl j hj).1) (kinds_of hAl) (HL.out.below HB1.out).n h40
   clear hAl h40 hrd hE hER HCR
   go_wp2_with fail
   refine HAB.out.mono ?_
   rintro e w2 ⟨rfl,hab⟩
   have HB2:Hid (Below w.heap.size w w2):=HB1.out.trans (hab.bel.mono HB1.out.size)
   obtain⟨gb,hgb⟩:∃gb,w1.heap.size=gb:=⟨_,rfl⟩
   have hAR:AbR w2 gb E.s:=by rw[←hgb];exact hab.read
   have HPC:Hid (PC E w2 a gb sn):=⟨HS.out.below HB2.out,HR.out,HOK.out,HE.out.bg,HE.out.ok,hd4,hAR,HL.out.below HB2.out⟩
   have HG2:Hid (w2.heap[w.heap.size]? =some (.cells #[.int .i64 (rt:Int)] 3 (0,0))):=block_below HG1.out hab.bel
   have hlt2:w.heap.size<w2.heap.size:=row_lt HG2.out
   rw[hgb]
   clear hab hAR hgb g1 hlt1 HG1
   obtain⟨o,ho1,ho2⟩:=readF_lone HRD.out
   have HV2:=hide ho2
   obtain⟨w4,hw4⟩:∃w4,(w2.alloc (.cells #[.slice a E.s.length c,.slice (some ⟨gb,0,none⟩) E.s.length E.s.length,.string E.d,.slice none 0 0] 144)).alloc (.cells #[.pointer (some ⟨w2.heap.size,0,none⟩)] 142)=w4:=⟨_,rfl⟩
   have hb24:Below w2.heap.size w2 w4:=by rw[←hw4];exact((Below.refl _ _).alloc (Nat.le_refl _) _).alloc (by simp) _
   have HG4:Hid (w4.heap[w2.heap.size+1]? =some (.cells #[.pointer (some ⟨w2.heap.size,0,none⟩)] 142 (0,0))):=by
    show w4.heap[w2.heap.size+1]? =_
    rw[←hw4]
    have:=heap_alloc_new (w2.alloc (.cells #[.slice a E.s.length c,.slice (some ⟨gb,0,none⟩) E.s.length E.s.length,.string E.d,.slice none 0 0] 144)) (.cells #[.pointer (some ⟨w2.heap.size,0,none⟩)] 142)
    simpa using this
   have hI4:RdD w2 w4 w2.heap.size a E.s.length c gb E.d []:=by
    refine⟨hb24,Nat.le_refl _,.slice none 0 0,?_,World.ownsRow_nil _ _ _ _⟩
    rw[←hw4,Below.heap_alloc _ _ _ (by simp)]
    exact heap_alloc_new w2 _
   have HLO:Hid (Calls Tryz.prog 76 #[.pointer (some ⟨w2.heap.size,0,none⟩),.int .i64 0,.int .i64 E.d.size,.func (.func 77) #[] #[.pointer (some ⟨w2.heap.size+1,0,none⟩),.pointer (some ⟨w.heap.size,0,none⟩)]] w4 fun e w'=>AfterD E w2 w2.heap.size a c gb sn (loneO E 0 E.d.size o) [] w4 e w'):=
    lone_t E w2 w2.heap.size a c gb sn HPC.out 0 E.d.size o [] w4 (w2.heap.size+1) w.heap.size (Nat.zero_le _) (Nat.le_refl _) hI4
     (fun g hg wq hq=>tree1_p E w2 w2.heap.size a c gb sn rt g 0 o [] wq (w2.heap.size+1) w.heap.size (cell_of_row (block_below HG4.out hq) rfl) (cell_of_row (block_below (block_below HG2.out hb24) hq) rfl)
       (fun wz hz=>value_all E w2 w2.heap.size a c gb sn HPC.out HE.out.dv f rt 0 E.d.size g 1 o [] wz hg (ho1 g hg) hrt (Nat.zero_le _) (Nat.le_refl _) (by decide) (by decide) (by unfold Room;simp only[List.length_nil];omega) ((hI4.below hq).below hz)))
   have HB24:=hide hb24
   have HW4:=hide hw4
   clear ho1 ho2 hb24 hI4 hw4
   go_wp2_with fail
   rw[HW4.out]
   clear HW4
   refine HLO.out.mono ?_
   rintro e w5 ha5
   have HA5:=hide ha5
   have hG5:=ha5.1 _ _ _ (by omega) (by decide) HG4.out
   have g5:w5.cell? ⟨w2.heap.size+1,0,none⟩=some (.pointer (some ⟨w2.heap.size,0,none⟩)):=cell_of_row hG5 rfl
   have hl5:w2.heap.size+1<w5.heap.size:=lt_of_cell g5
   clear ha5 hG5
   rcases HA5.out.2 with⟨vs,z,ho,rfl,hI5⟩|⟨k,q,tree',ho,rfl,hI5⟩
   ·have HX:Hid (v= .ok vs):=by
     show v= .ok vs
     rcases HV2.out with⟨u,_,q2⟩|⟨ws,q1,q2⟩
     ·rw[q2]at ho;cases ho
     ·rw[q2]at ho;injection ho with ho;injection ho with ho _;rw[q1,ho]
    have HI5:=hide hI5
    obtain⟨_,_,vt,hR5,hO5⟩:=hI5
    rw[List.nil_append]at hO5
    obtain⟨ta,tc,rfl,_⟩:=own_form2 hO5
    have HO5:Hid (w5.ownsRow w.heap.size 60 4 (.slice ta vs.length tc) vs.length (vcells vs)):=own_lower hO5 HB2.out.size
    unfold ddObj at hR5
    have r5:w5.cell? ⟨w2.heap.size,3,none⟩=some (.slice ta vs.length tc):=cell_of_row hR5 rfl
    clear hR5 hO5 ho HLO
    go_wp2
    refine bodyPost_ret (v:= .tuple #[.slice ta vs.length tc,.nilIface]) (by simp[results,Tryz.results47,go_sem]) rfl ?_
    exact⟨HB2.out.trans (HI5.out.bel.mono HB2.out.size),.inl ⟨vs,ta,tc,HX.out,rfl,HO5.out⟩⟩
   ·have HX:Hid (v= .error (k,q)):=by
     show v= .error (k,q)
     rcases HV2.out with⟨u,q1,q2⟩|⟨ws,q1,q2⟩
     ·rw[q2]at ho;injection ho with ho;rw[q1,ho]
     ·rw[q2]at ho;cases ho
    have HKK:=hide (HER.out k q HX.out)
    have HI5:=hide hI5
    have HSN:Hid (snOf k=snE k):=by
     show snOf k=snE k
     unfold snE
     rw[if_neg (by have:=HKK.out;omega)]
    rw[HSN.out]
    unfold fault
    clear hI5 ho HLO
    go_wp2
    refine bodyPost_ret (v:= .tuple #[.slice none 0 0,fault q (sn (snE k))]) (by simp[results,Tryz.results47,go_sem,fault]) rfl ?_
    exact⟨HB2.out.trans (HI5.out.bel.mono HB2.out.size),.inr (.inr (.inr ⟨k,q,HX.out,by have:=HKK.out;omega,HKK.out.2,rfl⟩))⟩
 ·have HX:Hid (v= .error (1,0)):=by
   rcases HV.out with⟨_,q⟩|⟨q,_⟩|⟨q,_⟩
   ·exact q
   ·exact absurd q.1 hr
   ·exact absurd q.1 hr
  clear hr
  unfold faultV fault
  go_wp2
  refine bodyPost_ret (v:= .tuple #[.slice none 0 0,faultV 0 (fault p za)]) (by simp[results,Tryz.results47,go_sem,fault,faultV]) rfl ?_
  exact⟨HB1.out,.inr (.inl ⟨p,HX.out,rfl⟩)⟩
 ·have HX:Hid (v= .error (1,0)):=by
   rcases HV.out with⟨_,q⟩|⟨q,_⟩|⟨q,_⟩
   ·exact q
   ·exact absurd q.2 h0
   ·exact absurd q.2 h0
  clear hr h0
  unfold fault
  go_wp2
  refine bodyPost_ret (v:= .tuple #[.slice none 0 0,fault 0 za]) (by simp[results,Tryz.results47,go_sem,fault]) rfl ?_
  exact⟨HB1.out,.inr (.inr (.inl ⟨HX.out,rfl⟩))⟩
theorem hidec{p:Prop}(h:p):Hid p:=h
theorem isLimits_any(b:ByteArray)(w:World)(sn:Sn→Addr)(za:Addr)(hl:Lay w sn)(hz:LayZ w sn za)(hb:b.size≤9223372036854775807):
 Calls Tryz.prog 191 #[.string b] w fun e w'=>RetO (LimOk b) w e w':=by
 have HS:=hidec (limits_any w)
 obtain⟨E,v,hv⟩:=decV_ex lS 0 b
 have HT:Hid (∀g wq,Below w.heap.size w wq→Sch wq (some ⟨g,0,none⟩) lS→Calls Tryz.prog 47 #[.slice (some ⟨g,0,none⟩) 3 3,.int .i64 0,.string b] wq fun e w'=>RetTr sn za v wq e w'):=fun g wq q hs=>tree_any E lS (some ⟨g,0,none⟩) 3 0 b v wq sn za (hl.below q) (hz.below q) hs lS_ok (by decide) hb hv
 have HV:=hidec hv
 clear hl hz hv
 go_enter Tryz.func191,Tryz.ntmps191
 go_wp2_with fail
 refine HS.out.mono ?_
 rintro e w1 ⟨g,rfl,hs1,hb1⟩
 have HT1:=hidec (HT.out g w1 hb1 hs1)
 have HB1:=hidec hb1
 clear hs1 hb1 HT HS
 go_wp2_with fail
 refine HT1.out.mono ?_
 rintro e w2 ⟨hb2,h2⟩
 have HB2:Hid (Below w.heap.size w w2):=HB1.out.trans (hb2.mono HB1.out.size)
 clear hb2 HT1
 rcases h2 with⟨vs,ta,tc,hvv,rfl,_⟩|⟨p,hvv,rfl⟩|⟨hvv,rfl⟩|⟨k,q,hvv,_,_,rfl⟩
 ·have HL:Hid (LimOk b):=⟨E,vs,by rw[←hvv];exact HV.out⟩
  clear hvv HV
  go_wp2
  go_ret
  exact reto_yes HL.out HB2.out
 all_goals
  have HL:Hid (¬LimOk b):=fun⟨E',vs,h⟩=>by
   have:=decV_one HV.out h
   rw[hvv]at this
   cases this
  clear hvv HV
  try unfold faultV
  unfold fault
  go_wp2
  go_ret
  exact reto_no HL.out HB2.out
theorem isUses_any(b:ByteArray)(w:World)(sn:Sn→Addr)(hl:Lay w sn)(hb:b.size≤140737488355328):
 Calls Tryz.prog 192 #[.string b] w fun e w'=>RetO (UseOk b) w e w':=by
 have HS:=hidec (plain_any 5 none 0 0 w)
 have HE:Hid (∀wq,Below w.heap.size w wq→Calls Tryz.prog 95 #[.agg #[.int .i64 5,.int .i64 (-1),.int .i64 0,.slice none 0 0],.string b] wq fun e w'=>RetO (UseOk b) wq e w'):=fun wq q=>
  (isElement_any ⟨5, -1,0,[]⟩ none 0 b wq sn (hl.below q) (by refine⟨?_,?_,?_,?_,?_⟩ <;>decide) (by decide) hb).mono fun e w' h=>by
    obtain⟨r,h1,h2,h3⟩:=h
    exact⟨r,h1,h2.trans ⟨fun q=>q.2,fun q=>⟨by decide,q⟩⟩,h3⟩
 clear hl
 go_enter Tryz.func192,Tryz.ntmps192
 go_wp2_with fail
 refine HS.out.mono ?_
 rintro e w1 ⟨rfl,hb1⟩
 have HB1:=hidec hb1
 clear hb1
 go_wp2_with fail
 refine(HE.out _ HB1.out).mono ?_
 rintro e w2 ⟨r,rfl,hr,hb2⟩
 have HR:=hidec hr
 have HB2:Hid (Below w.heap.size w w2):=HB1.out.trans (hb2.mono HB1.out.size)
 clear hr hb2
 go_wp2
 go_ret
 exact reto_iff HR.out HB2.out
theorem isMark_any(m:Mks)(w:World)(sn:Sn→Addr)(za:Addr)(hl:Lay w sn)(hz:LayZ w sn za)(hk:m.kind.size≤140737488355328)(hb:m.body.size≤140737488355328):
 Calls Tryz.prog 171 #[.agg #[.string m.kind,.bool m.must,.string m.body]] w fun e w'=>RetO (MarkOk m) w e w':=by
 have HLi:Hid (∀wq,Below w.heap.size w wq→Calls Tryz.prog 191 #[.string m.body] wq fun e w'=>RetO (LimOk m.body) wq e w'):=fun wq q=>isLimits_any m.body wq sn za (hl.below q) (hz.below q) (by omega)
 have HUs:Hid (∀wq,Below w.heap.size w wq→Calls Tryz.prog 192 #[.string m.body] wq fun e w'=>RetO (UseOk m.body) wq e w'):=fun wq q=>isUses_any m.body wq sn (hl.below q) hb
 have HF:Hid (∀wq,Below w.heap.size w wq→Calls Tryz.prog 138 #[.int .i64 4,.string m.kind] wq fun e w'=>RetO (ContentOk 4 m.kind) wq e w'):=fun wq q=>
  fits_any 4 m.kind wq (by omega) (hl.below q).d (valids m.kind wq (by omega) (hl.below q).t)
 clear hl hz
 obtain⟨k,mu,b⟩:=m
 simp only at hk hb HLi HUs HF
 by_cases h1:k=limK
 ·subst h1
  have HX:Hid (LimOk b↔MarkOk ⟨limK,mu,b⟩):=⟨fun q=> .inl ⟨rfl,q⟩,fun q=>by
   rcases q with⟨_,q⟩|⟨q,_⟩|⟨q,_⟩
   ·exact q
   ·exact absurd (show limK=useK from q) (by decide)
   ·exact absurd rfl q⟩
  clear HUs HF hk
  go_enter Tryz.func171,Tryz.ntmps171
  go_wp2_with fail
  refine(HLi.out _ ((Below.refl _ _).alloc (Nat.le_refl _) _)).mono ?_
  rintro e w1 ⟨r,rfl,hr,hb1⟩
  have HR:Hid (r=true↔MarkOk ⟨limK,mu,b⟩):=hr.trans HX.out
  have HB:Hid (Below w.heap.size w w1):=below_alloc hb1
  clear hr hb1
  go_wp2
  go_ret
  exact reto_iff HR.out HB.out
 have e1:(k.toList== [85,29,19])=false:=by have q:=beq_no h1;rwa[show limK.toList=[85,29,19]by rw[Lib.toList_data]]at q
 by_cases h2:k=useK
 ·subst h2
  have HX:Hid (UseOk b↔MarkOk ⟨useK,mu,b⟩):=⟨fun q=> .inr (.inl ⟨rfl,q⟩),fun q=>by
   rcases q with⟨q,_⟩|⟨_,q⟩|⟨_,q,_⟩
   ·exact absurd (show useK=limK from q) (by decide)
   ·exact q
   ·exact absurd rfl q⟩
  clear HLi HF hk e1 h1
  go_enter Tryz.func171,Tryz.ntmps171
  go_wp2_with fail
  refine(HUs.out _ ((Below.refl _ _).alloc (Nat.le_refl _) _)).mono ?_
  rintro e w1 ⟨r,rfl,hr,hb1⟩
  have HR:Hid (r=true↔MarkOk ⟨useK,mu,b⟩):=hr.trans HX.out
  have HB:Hid (Below w.heap.size w w1):=below_alloc hb1
  clear hr hb1
  go_wp2
  go_ret
  exact reto_iff HR.out HB.out
 have e2:(k.toList== [85,29,15])=false:=by have q:=beq_no h2;rwa[show useK.toList=[85,29,15]by rw[Lib.toList_data]]at q
 have HX:Hid ((ContentOk 4 k∧mu=false)↔MarkOk ⟨k,mu,b⟩):=⟨fun q=> .inr (.inr ⟨h1,h2,q⟩),fun q=>by
  rcases q with⟨q,_⟩|⟨q,_⟩|⟨_,_,q⟩
  ·exact absurd q h1
  ·exact absurd q h2
  ·exact q⟩
 clear HLi HUs h1 h2
 go_enter Tryz.func171,Tryz.ntmps171
 go_wp2_with fail
 refine(HF.out _ ((Below.refl _ _).alloc (Nat.le_refl _) _)).mono ?_
 rintro e w1 ⟨r,rfl,hr,hb1⟩
 have c1:w1.cell? ⟨w.heap.size,1,none⟩=some (.bool mu):=Ext.new (A:=#[.string k,.bool mu,.string b]) ⟨w1,hb1⟩ rfl
 have hl1:w.heap.size<w1.heap.size:=lt_of_cell c1
 have HB:Hid (Below w.heap.size w w1):=below_alloc hb1
 clear hb1
 cases r with
 |false=>
  have HN:Hid (¬MarkOk ⟨k,mu,b⟩):=fun q=>by cases hr.2 (HX.out.2 q).1
  clear hr HX
  go_wp2
  go_ret
  exact reto_no HN.out HB.out
 |true=>
  have HC:Hid (mu=false↔MarkOk ⟨k,mu,b⟩):=⟨fun q=>HX.out.1 ⟨hr.1 rfl,q⟩,fun q=>(HX.out.2 q).2⟩
  clear hr HX
  cases mu
  ·have HY:Hid (MarkOk ⟨k,false,b⟩):=HC.out.1 rfl
   clear HC
   go_wp2
   go_ret
   exact reto_yes HY.out HB.out
  ·have HN:Hid (¬MarkOk ⟨k,true,b⟩):=fun q=>by cases HC.out.2 q
   clear HC
   go_wp2
   go_ret
   exact reto_no HN.out HB.out
end Go.Proofs.YtkkicodfpekbgaaGreatDoor
