/-
Several texts in one.
-/
import Derived.Test.YtkkicodfpekbgaaGreatDoorJa8
import Derived.Test.YtkkicodfpekbgaaGreatDoorJa4
import Derived.Deep.RegionHeldLaw
import Derived.Test.YtkkicodfpekbgaaGreatDoorJa2
import Derived.Deep.DeepCutAuto
import Derived.Test.YtkkicodfpekbgaaGreatDoorJa5
import Derived.Test.YtkkicodfpekbgaaGreatDoorJa7
import Derived.Test.YtkkicodfpekbgaaGreatDoorJa3
namespace Go.Proofs.YtkkicodfpekbgaaGreatDoor
open Go.RowKit
set_option linter.unusedSimpArgs false
set_option linter.unusedVariables false
set_option maxRecDepth 100000
set_option maxHeartbeats 8000000
theorem bcells_get(t:ByteArray){j:Nat}{x:UInt8}(h:t.data.toList[j]? =some x):(bcells t)[j]? =some (.int .u8 (x.toNat:Int)):=by
 unfold bcells
 rw[List.getElem?_map,h]
 rfl
theorem bytes_mid{w:World}{g:Nat}{cur:Array Value}{t:ByteArray}(hg:w.heap[g]? =some (.cells cur 5 (0,0)))(hc:cur.toList.take t.size=bcells t){q p:Nat}(hqp:q≤p)(hp:p≤t.size)(c:Nat):
 BytesAt w (.slice (some ⟨g,q,none⟩) (p-q) c) ((t.data.toList.drop q).take (p-q)):=by
 have hl:t.data.toList.length=t.size:=Array.length_toList
 refine .inr ⟨⟨g,q,none⟩,c,?_,fun j x hj=>?_⟩
 ·rw[List.length_take,List.length_drop,hl,Nat.min_eq_left (by omega)]
 ·rw[List.getElem?_take]at hj
  split at hj
  ·rename_i hlt
   rw[List.getElem?_drop]at hj
   have h1:=bcells_get t hj
   rw[←hc,List.getElem?_take_of_lt (by omega)]at h1
   rw[Addr.add_lit]
   simp[World.cell?,hg]
   simpa using h1
  ·cases hj
theorem bytes_from{w:World}{g:Nat}{cur:Array Value}{t:ByteArray}(hg:w.heap[g]? =some (.cells cur 5 (0,0)))(hc:cur.toList.take t.size=bcells t){p:Nat}(hp:p≤t.size)(c:Nat):
 BytesAt w (.slice (some ⟨g,p,none⟩) (t.size-p) c) (t.data.toList.drop p):=by
 have hl:t.data.toList.length=t.size:=Array.length_toList
 have h:=bytes_mid hg hc hp (Nat.le_refl _) c
 rw[List.take_of_length_le (by rw[List.length_drop,hl];exact Nat.le_refl _)]at h
 exact h
theorem below_at{t0 out' last b:ByteArray}{q p:Nat}(hq:q=t0.size+out'.size)(hp:p=q+last.size):Op.bytesLess (((t0++(out'++last))++b).data.toList.drop p) ((((t0++(out'++last))++b).data.toList.drop q).take (p-q))=below b last:=by
 unfold below
 have h0:t0.data.toList.length=t0.size:=Array.length_toList
 have h1:out'.data.toList.length=out'.size:=Array.length_toList
 have h2:last.data.toList.length=last.size:=Array.length_toList
 have e:((t0++(out'++last))++b).data.toList=(t0.data.toList++out'.data.toList)++(last.data.toList++b.data.toList):=by simp
 rw[e,Lib.toList_data,Lib.toList_data]
 have e1:((t0.data.toList++out'.data.toList)++(last.data.toList++b.data.toList)).drop q=last.data.toList++b.data.toList:=List.drop_left' (by rw[List.length_append];omega)
 have e2:((t0.data.toList++out'.data.toList)++(last.data.toList++b.data.toList)).drop p=b.data.toList:=by
  rw[hp,←List.drop_drop,e1]
  exact List.drop_left' (by omega)
 rw[e1,e2]
 congr 1
 exact List.take_left' (by omega)
def EManyAt(E:WEnv)(W:World)(R:Nat)(a:Option Addr)(c:Nat)(ta:Option Addr)(tc f:Nat)(sn:Sn→Addr)(set:Bool)(i:Nat)(dp kids:Int)(r:WOut)(x0:Nat)(t0:ByteArray)(l0:Bool)(o0:Option Int)(w0:World)(vb vk:Value)(wr:World):Prop:=
 ∃(k bf m x:Nat) (out last:ByteArray) (u:Bool) (t1:ByteArray) (l1:Bool) (o1:Option Int),(k:Int)≤kids∧vk= .int .i64 k∧vb= .int .i64 bf∧wmanyF E (wrF E f) set i dp m (kids-k) x out last u=some r∧x0≤x∧x≤E.t.length∧Tld t0 l0 o0 out u t1 l1 o1∧bf≤t1.size∧(l1=false→∃out',out=out'++last∧bf=t0.size+out'.size)∧
  EwD W wr R a E.s.length c ta E.t.length tc x t1 l1 (ovV sn o1)∧FrE R w0 wr
theorem elist_any(E:WEnv)(W:World)(R:Nat)(a:Option Addr)(c:Nat)(ta:Option Addr)(tc f:Nat)(sn:Sn→Addr)(hc:EC E W a ta sn)(htc:E.t.length≤tc)(hN:NodeE E W R a c ta tc sn f)(hf1:1≤f)(i:Nat)(hi:i<E.s.length)(hone:(nd E.s i).kids.length=1)(ka:Option Addr)(kc:Nat)(hka:KidsIn W ka (nd E.s i).kids)(hkc:(nd E.s i).kids.length≤kc)(hkm:kc≤maxLen)
 (x0 m0:Nat)(kids dp:Int)(r:WOut)(t0:ByteArray)(l0:Bool)(o0:Option Int)(w:World)(e:wmanyF E (wrF E f) (decide ((nd E.s i).kind=12)) (kd (nd E.s i) 0).node.toNat (dp+1) m0 kids x0 noB noB false=some r)(hk0:0≤kids)(hk63:kids≤9223372036854775807)(hx0:x0≤E.t.length)(hfx:E.t.length+1≤f+x0)(hd1:1≤dp)(hd2:dp≤12)(h4:t0.size≤4000)(hI:EwD W w R a E.s.length c ta E.t.length tc x0 t0 l0 (ovV sn o0)):
 Calls Tryz.prog 151 #[.pointer (some ⟨R,0,none⟩),.agg #[.int .i64 (nd E.s i).kind,.int .i64 (nd E.s i).tag,.int .i64 (nd E.s i).mode,.slice ka (nd E.s i).kids.length kc],.int .i64 kids,.int .i64 dp] w fun e w'=>AfterE E W R a c ta tc sn r t0 l0 o0 w e w':=by
 have HC:=hide hc
 have HNN:=hide hN
 have HE:=hide e
 have hwn:=hc.wc.right.fine.within i hi (kd (nd E.s i) 0) (kd_mem (by omega))
 obtain⟨t,ht⟩:∃t:Nat,(kd (nd E.s i) 0).node=t:=⟨(kd (nd E.s i) 0).node.toNat,by omega⟩
 have htl:t<E.s.length:=by omega
 have htn:(kd (nd E.s i) 0).node.toNat=t:=by omega
 rw[htn]at HE
 obtain⟨b,o,hkaE,kcl⟩:=hka 0 (by omega)
 obtain⟨kc0,_,_⟩:=kcl
 have hkd:((nd E.s i).kids.getD 0 kd0).node=t:=ht
 rw[hkd]at kc0
 have KC0:=hide kc0
 rw[hkaE,hone]
 rw[hone]at hkc
 obtain⟨set,hset⟩:∃set,decide ((nd E.s i).kind=12)=set:=⟨_,rfl⟩
 rw[hset]at HE
 obtain⟨K,hK⟩:∃K,(nd E.s i).kind=K:=⟨_,rfl⟩
 rw[hK]at hset ⊢
 have HSET:=hide hset
 have hkm':kc≤9223372036854775807:=by unfold maxLen at hkm;omega
 have hkc':(1:Int)≤(kc:Int):=by omega
 obtain⟨bs,cp,hform⟩:∃bs cp,∃tvx,tvx=Value.slice bs t0.size cp∧w.heap[R]? =some (ewObj a E.s.length c ta E.t.length tc x0 tvx l0 (ovV sn o0)):=by
  obtain⟨tv,h1,h2⟩:=hI.own
  obtain⟨bs,cp,rfl,_⟩:=own8 h2
  exact⟨bs,cp,_,rfl,h1⟩
 obtain⟨_,rfl,hown⟩:=hform
 have hRl:R<w.heap.size:=row_lt hown
 generalize hTG:(nd E.s i).tag=TG
 generalize hMD:(nd E.s i).mode=MD
 have hB1:Below w.heap.size w (w.alloc (.cells #[.int .i64 K,.int .i64 TG,.int .i64 MD,.slice (some ⟨b,o,none⟩) 1 kc] 58)):=(Below.refl _ _).alloc (Nat.le_refl _) _
 have hG1:(w.alloc (.cells #[.int .i64 K,.int .i64 TG,.int .i64 MD,.slice (some ⟨b,o,none⟩) 1 kc] 58)).heap[w.heap.size]? =some (.cells #[.int .i64 K,.int .i64 TG,.int .i64 MD,.slice (some ⟨b,o,none⟩) 1 kc] 58 (0,0)):=heap_alloc_new w _
 have HW0:=hide (hI.below hB1)
 have hg3:=block_below hown hB1
 unfold ewObj at hg3
 have c3:(w.alloc (.cells #[.int .i64 K,.int .i64 TG,.int .i64 MD,.slice (some ⟨b,o,none⟩) 1 kc] 58)).cell? ⟨R,3,none⟩=some (.slice bs t0.size cp):=by simp[World.cell?,hg3]
 clear hc hN hI hka e htc hi hone hkaE hwn kc0 hkd ht htn hset hK hkm hown hTG hMD hg3
 go_enter Tryz.func151,Tryz.ntmps151
 go_upto_region 1 with fail
 obtain⟨nb,hnb⟩:∃nb,w.heap.size=nb:=⟨_,rfl⟩
 rw[hnb]at hG1 ⊢
 generalize w.alloc (.cells #[.int .i64 K,.int .i64 TG,.int .i64 MD,.slice (some ⟨b,o,none⟩) 1 kc] 58)=w1 at hB1 hG1 HW0 c3 ⊢
 have hneN:nb≠R:=by omega
 have HB1:=hide hB1
 have HG1:=hide hG1
 have hR1:R<w1.heap.size:=lt_of_cell c3
 clear hB1 hG1 hnb
 go_wp2_with fail
 go_loopw [9,19] (fun vb vk wr=>EManyAt E W R a c ta tc f sn set t (dp+1) kids r x0 t0 l0 o0 w1 vb vk wr) (fun _ vk _=>(kids-intOf vk).toNat)
 case atStart=>exact⟨0,t0.size,m0,x0,noB,noB,false,t0,l0,o0,by omega,rfl,rfl,by simpa using HE.out,Nat.le_refl _,hx0,Tld.refl h4,Nat.le_refl _,fun _=>⟨noB,(app_noB noB).symm,rfl⟩,HW0.out,fun _ _ _ _ _ h=>h⟩
 case round=>
  obtain⟨k,bf,m,x,out,last,u,t1,l1,o1,hk,rfl,rfl,hE,hx1,hx2,hT,hbf,hbl,hEw,hFr⟩:=hrel
  have HEW:=hide hEw
  have HT:=hide hT
  have HFR:=hide hFr
  have HEE:=hide hE
  have HBL:=hide hbl
  clear hEw hT hFr hE hbl c3
  by_cases hlt:(k:Int)<kids
  ·obtain⟨m,rfl⟩:∃m',m=m'+1:=by
    cases m with
    |zero=>have h:=HEE.out;cases h
    |succ m=>exact⟨m,rfl⟩
   have HST:Hid (∀r1,wrF E f t x (dp+1)=some r1→(r1=none∧r=none)∨∃b' x' u',r1=some (b',x',u')∧wmanyF E (wrF E f) set t (dp+1) m (kids-k-1) x' (out++b') b' (u||u'||(set&&below b' last))=some r):=fun r1 h1=>by
    have h:=HEE.out
    unfold wmanyF at h
    rw[if_pos (by omega)]at h
    rcases wandThen_cases h with⟨h2,h3⟩|⟨b',x',u',h2,h3⟩
    ·rw[h2]at h1;injection h1 with h1;exact .inl ⟨h1.symm,h3⟩
    ·rw[h2]at h1;injection h1 with h1;exact .inr ⟨b',x',u',h1.symm,h3⟩
   obtain⟨tv,hown,hrow⟩:=HEW.out.own
   obtain⟨bs1,cp1,rfl,_⟩:=own8 hrow
   unfold ewObj at hown
   have d3:wr.cell? ⟨R,3,none⟩=some (.slice bs1 t1.size cp1):=by simp[World.cell?,hown]
   have d2:wr.cell? ⟨R,2,none⟩=some (.int .i64 (x:Int)):=by simp[World.cell?,hown]
   have hRr:R<wr.heap.size:=lt_of_cell d3
   clear hown hrow
   go_wp2_with fail
   go_quiet (fail)
   have HEW2:=hide (HEW.out.below (Go.below_drewN (Below.refl wr.heap.size wr) nq))
   have HFR2:Hid (FrE R w1 (wr.drewN nq)):=HFR.out.trans (FrE.of_below (Go.below_drewN (Below.refl _ _) nq))
   generalize wr.drewN nq=w2 at HEW2 HFR2 ⊢
   obtain⟨r1,hr1⟩:=wrF_some (E:=E) f t x (dp+1) (by omega) hf1
   have HCA:Hid (Calls Tryz.prog 75 #[.pointer (some ⟨R,0,none⟩),.int .i64 t,.int .i64 (dp+1)] w2 fun e w'=>AfterE E W R a c ta tc sn r1 t1 l1 o1 w2 e w'):=HNN.out t x (dp+1) r1 t1 l1 o1 w2 hr1 htl hx2 (by omega) hf1 (by omega) (by omega) HT.out.mx HEW2.out
   have HR1:=hide hr1
   have hgn:=HFR2.out _ _ _ hneN (by decide) HG1.out
   have n3:w2.cell? ⟨nb,3,none⟩=some (.slice (some ⟨b,o,none⟩) 1 kc):=cell_of_row hgn rfl
   have k0:w2.cell? ⟨b,o,none⟩=some (.int .i64 t):=by
    have:=(HEW2.out.bel.cell (lt_of_cell KC0.out)).trans KC0.out
    simpa using this
   have hlb:=lt_of_cell k0
   simp only at hlb
   have hln:=lt_of_cell n3
   simp only at hln
   have hwr:IntKind.i64.wrap (dp+1)=dp+1:=by rw[IntKind.wrap_i64];omega
   clear d3 d2 hRr hr1 hgn
   go_wp2_with fail
   refine HCA.out.mono ?_
   rintro e w3 ⟨hF3,⟨b',x',u',t2,l2,o2,hq,rfl,hT2,hE3⟩|⟨hq,p,x',t2,l2,ov,rfl,hE3⟩⟩
   ·have HE3:=hide hE3
    have HF3:Hid (FrE R w1 w3):=HFR2.out.trans hF3
    have HT2:=hide hT2
    have HX3:Hid (wmanyF E (wrF E f) set t (dp+1) m (kids-k-1) x' (out++b') b' (u||u'||(set&&below b' last))=some r∧x0≤x'∧x'≤E.t.length):=by
     have hadv:=wrF_adv f t x (dp+1) r1 HR1.out b' x' u' hq
     rcases HST.out r1 HR1.out with h2|⟨b2,x2,u2,h2,h3⟩
     ·rw[h2.1]at hq;cases hq
     ·rw[hq]at h2
      injection h2 with h2
      injection h2 with e1 h2
      injection h2 with e2 e3
      subst e1 e2 e3
      exact⟨h3,by omega,hadv.2.1⟩
    have HREL:Hid (∀(o3:Option Int) (wq:World),EwD W wq R a E.s.length c ta E.t.length tc x' t2 l2 (ovV sn o3)→FrE R w1 wq→(l2=false→o3.isSome=(o2.isSome||(set&&below b' last)))→EManyAt E W R a c ta tc f sn set t (dp+1) kids r x0 t0 l0 o0 w1 (.int .i64 t1.size) (.int .i64 ((k:Int)+1)) wq):=fun o3 wq h1 h2 h3=>by
     refine⟨k+1,t1.size,m,x',out++b',b',u||u'||(set&&below b' last),t2,l2,o3,by omega,by simp,rfl,?_,HX3.out.2.1,HX3.out.2.2,(HT.out.trans HT2.out).order h3,HT2.out.le,fun q=>⟨out,rfl,?_⟩,h1,h2⟩
     ·rw[show kids-((k+1:Nat):Int)=kids-k-1 by omega];exact HX3.out.1
     ·have hl1:l1=false:=by
       cases hl:l1
       ·rfl
       ·rw[HT2.out.mono hl]at q;cases q
      rw[HT.out.told hl1,ByteArray.size_append]
    have HBE:Hid (l2=false→Op.bytesLess (t2.data.toList.drop t1.size) ((t2.data.toList.drop bf).take (t1.size-bf))=below b' last):=fun q=>by
     have hl1:l1=false:=by
      cases hl:l1
      ·rfl
      ·rw[HT2.out.mono hl]at q;cases q
     obtain⟨out',e1,e2⟩:=HBL.out hl1
     have e3:=HT.out.told hl1
     rw[HT2.out.told q,e3,e1]
     exact below_at e2 (by rw[ByteArray.size_append,ByteArray.size_append];omega)
    obtain⟨tv,hown,hrow⟩:=HE3.out.own
    obtain⟨bs2,cp2,rfl,hcp1,hcp2,hbs2⟩:=own8 hrow
    have HROW:=hide hrow
    unfold ewObj at hown
    have g3:w3.cell? ⟨R,3,none⟩=some (.slice bs2 t2.size cp2):=by simp[World.cell?,hown]
    have g5:w3.cell? ⟨R,5,none⟩=some (ovV sn o2):=by simp[World.cell?,hown]
    have f5:w3.frozen? ⟨R,5,none⟩=false:=by simp[World.frozen?,hown]
    have hR3:R<w3.heap.size:=lt_of_cell g3
    have hgn:=HF3.out _ _ _ hneN (by decide) HG1.out
    have n0:w3.cell? ⟨nb,0,none⟩=some (.int .i64 K):=cell_of_row hgn rfl
    have hln3:=lt_of_cell n0
    simp only at hln3
    have htt:=HT2.out.le
    have hwk:IntKind.i64.wrap ((k:Int)+1)=(k:Int)+1:=by rw[IntKind.wrap_i64];omega
    clear hF3 hT2 hE3 hq n3 k0 hlb hln hown hrow hgn
    by_cases hK:K=12
    ·subst hK
     obtain rfl:set=true:=by rw[←HSET.out];rfl
     cases o2 with
     |some p=>
      unfold ovV fault at g5
      go_wp2_with fail
      go_quiet (fail)
      have HE4:=hide (HE3.out.below (Go.below_drewN (Below.refl w3.heap.size w3) nq))
      have HF4:Hid (FrE R w1 (w3.drewN nq)):=HF3.out.trans (FrE.of_below (Go.below_drewN (Below.refl _ _) nq))
      generalize w3.drewN nq=w4 at HE4 HF4 ⊢
      clear g3 g5 f5 hR3 n0 hln3
      go_wp2
      go_roundw
      case rel=>exact HREL.out (some p) _ HE4.out HF4.out (fun _=>by simp)
      case measure=>(simp[intOf];omega)
     |none=>
      unfold ovV at g5
      obtain⟨z,hz⟩:∃z,Op.bytesLess (t2.data.toList.drop t1.size) ((t2.data.toList.drop bf).take (t1.size-bf))=z:=⟨_,rfl⟩
      have hzc:=less_iff (t2.data.toList.drop t1.size) ((t2.data.toList.drop bf).take (t1.size-bf))
      rw[hz]at hzc
      have HZZ:Hid (∀o3:Option Int,o3.isSome=z→(l2=false→o3.isSome=((none:Option Int).isSome||(true&&below b' last)))):=fun o3 h q=>by
       rw[h,←hz,HBE.out q];simp
      obtain⟨cz,hcz⟩:∃cz,Lib.compareBytes (t2.data.toList.drop t1.size) ((t2.data.toList.drop bf).take (t1.size-bf))=cz:=⟨_,rfl⟩
      rw[hcz]at hzc
      obtain⟨va,vb2,HSL⟩:∃va vb2:Value,Hid ((∀wq:World,(∀x,wq.cell? x=w3.cell? x)→Calls Tryz.prog 184 #[va,vb2] wq fun e w'=>e= .returned (.int .i64 cz)∧w'=wq)∧
       ((bs2=none∧va= .slice none 0 0∧vb2= .slice none 0 0∧t2.size=0∧cp2=0)∨
        (∃g,bs2=some ⟨g,0,none⟩∧va=(if cp2=t1.size then .slice (some ⟨g,0,none⟩) (t2.size-t1.size) 0 else .slice (some ⟨g,t1.size,none⟩) (t2.size-t1.size) (cp2-t1.size))∧vb2=(if cp2=bf then .slice (some ⟨g,0,none⟩) (t1.size-bf) (if cp2=t1.size then t1.size-bf else cp2-bf)else .slice (some ⟨g,bf,none⟩) (t1.size-bf) (if cp2=t1.size then t1.size-bf else cp2-bf))))):=by
       have hl2:t2.data.toList.length=t2.size:=Array.length_toList
       rcases HROW.out.2 with⟨q,h0⟩|⟨g,cap,cur,q,_,hg,h1,_,_,hct⟩
       ·injection q with q1 q2 q3
        refine⟨.slice none 0 0,.slice none 0 0,fun wq hq=>?_,.inl ⟨q1,rfl,rfl,h0,q3⟩⟩
        have e0:t2.data.toList=[]:=List.length_eq_zero_iff.1 (by omega)
        rw[e0]at hcz
        simp only[List.drop_nil,List.take_nil]at hcz
        rw[←hcz]
        exact bcompare_any _ _ [] [] wq (.inl ⟨rfl,rfl⟩) (.inl ⟨rfl,rfl⟩)
       ·injection q with q1 q2 q3
        subst q3
        rw[Nat.mul_one]at hct
        refine⟨_,_,fun wq hq=>?_,.inr ⟨g,q1,rfl,rfl⟩⟩
        have keep:∀{v l},BytesAt w3 v l→BytesAt wq v l:=fun {v l} h=>by
         rcases h with h|⟨a',c',e',h⟩
         ·exact .inl h
         ·exact .inr ⟨a',c',e',fun j x hj=>(hq _).trans (h j x hj)⟩
        rw[←hcz]
        refine bcompare_any _ _ _ _ wq (keep ?_) (keep ?_)
        ·split
         ·rename_i hc
          rw[List.drop_of_length_le (by omega),show t2.size-t1.size=0 by omega]
          exact .inr ⟨_,_,rfl,fun j x hj=>by simp at hj⟩
         ·exact bytes_from hg hct htt _
        ·split
         ·rename_i hc
          rw[show t1.size-bf=0 by omega,List.take_zero]
          exact .inr ⟨_,_,rfl,fun j x hj=>by simp at hj⟩
         ·exact bytes_mid hg hct hbf htt _
      have HCMP:Hid (∀n,Calls Tryz.prog 184 #[va,vb2] (w3.drewN n) fun e w'=>e= .returned (.int .i64 cz)∧w'=w3.drewN n):=fun n=>HSL.out.1 _ (fun _=>by simp)
      have hi1:(t1.size:Int)≤(t2.size:Int):=by omega
      have hi2:(bf:Int)≤(t1.size:Int):=by omega
      have hsl:=HSL.out.2
      have HZ:=hide hzc
      have HDZ:=hide (And.intro hz hcz)
      clear HSL hz hcz
      have hAT:∀wq,Calls Tryz.prog 60 #[.int .i64 x,.iface 291 (.pointer (some (sn .Order)))] wq fun e w'=>e= .returned (fault x (sn .Order))∧w'=wq:=fun wq=>at_any x _ wq
      unfold fault at hAT
      have HAT:=hide hAT
      clear hAT
      rcases hsl with⟨rfl,rfl,rfl,h0,rfl⟩|⟨g,rfl,hva,hvb⟩
      ·have hz0:t1.size=0:=by omega
       have hb0:bf=0:=by omega
       subst hb0
       have hz0i:(t1.size:Int)=0:=by omega
       have h0i:(t2.size:Int)=0:=by omega
       by_cases hcz:cz<0
       ·have hcb:decide (cz<0)=true:=decide_eq_true hcz
        have HO3:Hid (∀o3:Option Int,o3.isSome=true→(l2=false→o3.isSome=((none:Option Int).isSome||(true&&below b' last)))):=fun o3 h=>HZZ.out o3 (by rw[h,←HZ.out,hcb])
        clear HZZ HZ HDZ HBE
        go_wp2_with fail
        go_quiet ((go_at_call 184;exact Calls.quiet_of_same (HCMP.out _)))
        have HE4:=hide (HE3.out.below (Go.below_drewN (Below.refl w3.heap.size w3) nq))
        have HF4:Hid (FrE R w1 (w3.drewN nq)):=HF3.out.trans (FrE.of_below (Go.below_drewN (Below.refl _ _) nq))
        generalize w3.drewN nq=w4 at HE4 HF4 ⊢
        clear g3 g5 f5 hR3 n0 hln3 HCMP
        have cO:=(HC.out.lay.below HE4.out.bel).s.cOrder
        have hgO:=lt_of_cell cO
        simp only at hgO
        obtain⟨tv4,hown4,_⟩:=HE4.out.own
        unfold ewObj at hown4
        have f4:w4.frozen? ⟨R,5,none⟩=false:=by simp[World.frozen?,hown4]
        have g4:w4.cell? ⟨R,5,none⟩=some (ovV sn none):=by simp[World.cell?,hown4]
        unfold ovV at g4
        have hR4:R<w4.heap.size:=lt_of_cell g4
        clear hown4
        go_wp2_with fail
        refine(HAT.out _).mono ?_
        rintro e w5 ⟨rfl,rfl⟩
        go_wp2
        go_roundw
        case rel=>exact by have h:=HREL.out (some (x:Int)) _ (HE4.out.setOrder (fault x (sn .Order))) (HF4.out.trans (FrE.set 5 _)) (HO3.out _ rfl);rw[hz0]at h;exact h
        case measure=>(simp[intOf];omega)
       ·have hcb:decide (cz<0)=false:=decide_eq_false hcz
        have HCB:=hide hcb
        have HO3:Hid (l2=false→(none:Option Int).isSome=((none:Option Int).isSome||(true&&below b' last))):=HZZ.out none (by rw[←HZ.out,hcb];rfl)
        clear HZZ HZ HDZ HBE hcz hcb
        go_wp2_with fail
        go_quiet ((go_at_call 184;exact Calls.quiet_of_same (HCMP.out _)))
        have HE4:=hide (HE3.out.below (Go.below_drewN (Below.refl w3.heap.size w3) nq))
        have HF4:Hid (FrE R w1 (w3.drewN nq)):=HF3.out.trans (FrE.of_below (Go.below_drewN (Below.refl _ _) nq))
        generalize w3.drewN nq=w4 at HE4 HF4 ⊢
        clear g3 g5 f5 hR3 n0 hln3 HCMP
        obtain rfl:z=false:=hzc.symm.trans HCB.out
        clear hzc
        go_wp2
        go_roundw
        case rel=>exact by have h:=HREL.out none _ HE4.out HF4.out HO3.out;rw[hz0]at h;exact h
        case measure=>(simp[intOf];omega)
      ·by_cases hc1:cp2=t1.size
       ·rw[if_pos hc1]at hva
        by_cases hc2:cp2=bf
        ·rw[if_pos hc2,if_pos hc1]at hvb
         subst hva hvb
         by_cases hcz:cz<0
         ·have hcb:decide (cz<0)=true:=decide_eq_true hcz
          have HO3:Hid (∀o3:Option Int,o3.isSome=true→(l2=false→o3.isSome=((none:Option Int).isSome||(true&&below b' last)))):=fun o3 h=>HZZ.out o3 (by rw[h,←HZ.out,hcb])
          clear HZZ HZ HDZ HBE
          go_wp2_with fail
          go_quiet ((go_at_call 184;exact Calls.quiet_of_same (HCMP.out _)))
          have HE4:=hide (HE3.out.below (Go.below_drewN (Below.refl w3.heap.size w3) nq))
          have HF4:Hid (FrE R w1 (w3.drewN nq)):=HF3.out.trans (FrE.of_below (Go.below_drewN (Below.refl _ _) nq))
          generalize w3.drewN nq=w4 at HE4 HF4 ⊢
          clear g3 g5 f5 hR3 n0 hln3 HCMP
          have cO:=(HC.out.lay.below HE4.out.bel).s.cOrder
          have hgO:=lt_of_cell cO
          simp only at hgO
          obtain⟨tv4,hown4,_⟩:=HE4.out.own
          unfold ewObj at hown4
          have f4:w4.frozen? ⟨R,5,none⟩=false:=by simp[World.frozen?,hown4]
          have g4:w4.cell? ⟨R,5,none⟩=some (ovV sn none):=by simp[World.cell?,hown4]
          unfold ovV at g4
          have hR4:R<w4.heap.size:=lt_of_cell g4
          clear hown4
          go_wp2_with fail
          refine(HAT.out _).mono ?_
          rintro e w5 ⟨rfl,rfl⟩
          go_wp2
          go_roundw
          case rel=>exact HREL.out (some (x:Int)) _ (HE4.out.setOrder (fault x (sn .Order))) (HF4.out.trans (FrE.set 5 _)) (HO3.out _ rfl)
          case measure=>(simp[intOf];omega)
         ·have hcb:decide (cz<0)=false:=decide_eq_false hcz
          have HCB:=hide hcb
          have HO3:Hid (l2=false→(none:Option Int).isSome=((none:Option Int).isSome||(true&&below b' last))):=HZZ.out none (by rw[←HZ.out,hcb];rfl)
          clear HZZ HZ HDZ HBE hcz hcb
          go_wp2_with fail
          go_quiet ((go_at_call 184;exact Calls.quiet_of_same (HCMP.out _)))
          have HE4:=hide (HE3.out.below (Go.below_drewN (Below.refl w3.heap.size w3) nq))
          have HF4:Hid (FrE R w1 (w3.drewN nq)):=HF3.out.trans (FrE.of_below (Go.below_drewN (Below.refl _ _) nq))
          generalize w3.drewN nq=w4 at HE4 HF4 ⊢
          clear g3 g5 f5 hR3 n0 hln3 HCMP
          obtain rfl:z=false:=hzc.symm.trans HCB.out
          clear hzc
          go_wp2
          go_roundw
          case rel=>exact HREL.out none _ HE4.out HF4.out HO3.out
          case measure=>(simp[intOf];omega)
        ·rw[if_neg hc2,if_pos hc1]at hvb
         subst hva hvb
         by_cases hcz:cz<0
         ·have hcb:decide (cz<0)=true:=decide_eq_true hcz
          have HO3:Hid (∀o3:Option Int,o3.isSome=true→(l2=false→o3.isSome=((none:Option Int).isSome||(true&&below b' last)))):=fun o3 h=>HZZ.out o3 (by rw[h,←HZ.out,hcb])
          clear HZZ HZ HDZ HBE
          go_wp2_with fail
          go_quiet ((go_at_call 184;exact Calls.quiet_of_same (HCMP.out _)))
          have HE4:=hide (HE3.out.below (Go.below_drewN (Below.refl w3.heap.size w3) nq))
          have HF4:Hid (FrE R w1 (w3.drewN nq)):=HF3.out.trans (FrE.of_below (Go.below_drewN (Below.refl _ _) nq))
          generalize w3.drewN nq=w4 at HE4 HF4 ⊢
          clear g3 g5 f5 hR3 n0 hln3 HCMP
          have cO:=(HC.out.lay.below HE4.out.bel).s.cOrder
          have hgO:=lt_of_cell cO
          simp only at hgO
          obtain⟨tv4,hown4,_⟩:=HE4.out.own
          unfold ewObj at hown4
          have f4:w4.frozen? ⟨R,5,none⟩=false:=by simp[World.frozen?,hown4]
          have g4:w4.cell? ⟨R,5,none⟩=some (ovV sn none):=by simp[World.cell?,hown4]
          unfold ovV at g4
          have hR4:R<w4.heap.size:=lt_of_cell g4
          clear hown4
          go_wp2_with fail
          refine(HAT.out _).mono ?_
          rintro e w5 ⟨rfl,rfl⟩
          go_wp2
          go_roundw
          case rel=>exact HREL.out (some (x:Int)) _ (HE4.out.setOrder (fault x (sn .Order))) (HF4.out.trans (FrE.set 5 _)) (HO3.out _ rfl)
          case measure=>(simp[intOf];omega)
         ·have hcb:decide (cz<0)=false:=decide_eq_false hcz
          have HCB:=hide hcb
          have HO3:Hid (l2=false→(none:Option Int).isSome=((none:Option Int).isSome||(true&&below b' last))):=HZZ.out none (by rw[←HZ.out,hcb];rfl)
          clear HZZ HZ HDZ HBE hcz hcb
          go_wp2_with fail
          go_quiet ((go_at_call 184;exact Calls.quiet_of_same (HCMP.out _)))
          have HE4:=hide (HE3.out.below (Go.below_drewN (Below.refl w3.heap.size w3) nq))
          have HF4:Hid (FrE R w1 (w3.drewN nq)):=HF3.out.trans (FrE.of_below (Go.below_drewN (Below.refl _ _) nq))
          generalize w3.drewN nq=w4 at HE4 HF4 ⊢
          clear g3 g5 f5 hR3 n0 hln3 HCMP
          obtain rfl:z=false:=hzc.symm.trans HCB.out
          clear hzc
          go_wp2
          go_roundw
          case rel=>exact HREL.out none _ HE4.out HF4.out HO3.out
          case measure=>(simp[intOf];omega)
       ·have hc2:¬cp2=bf:=by omega
        rw[if_neg hc1]at hva
        rw[if_neg hc2,if_neg hc1]at hvb
        subst hva hvb
        by_cases hcz:cz<0
        ·have hcb:decide (cz<0)=true:=decide_eq_true hcz
         have HO3:Hid (∀o3:Option Int,o3.isSome=true→(l2=false→o3.isSome=((none:Option Int).isSome||(true&&below b' last)))):=fun o3 h=>HZZ.out o3 (by rw[h,←HZ.out,hcb])
         clear HZZ HZ HDZ HBE
         go_wp2_with fail
         go_quiet ((go_at_call 184;exact Calls.quiet_of_same (HCMP.out _)))
         have HE4:=hide (HE3.out.below (Go.below_drewN (Below.refl w3.heap.size w3) nq))
         have HF4:Hid (FrE R w1 (w3.drewN nq)):=HF3.out.trans (FrE.of_below (Go.below_drewN (Below.refl _ _) nq))
         generalize w3.drewN nq=w4 at HE4 HF4 ⊢
         clear g3 g5 f5 hR3 n0 hln3 HCMP
         have cO:=(HC.out.lay.below HE4.out.bel).s.cOrder
         have hgO:=lt_of_cell cO
         simp only at hgO
         obtain⟨tv4,hown4,_⟩:=HE4.out.own
         unfold ewObj at hown4
         have f4:w4.frozen? ⟨R,5,none⟩=false:=by simp[World.frozen?,hown4]
         have g4:w4.cell? ⟨R,5,none⟩=some (ovV sn none):=by simp[World.cell?,hown4]
         unfold ovV at g4
         have hR4:R<w4.heap.size:=lt_of_cell g4
         clear hown4
         go_wp2_with fail
         refine(HAT.out _).mono ?_
         rintro e w5 ⟨rfl,rfl⟩
         go_wp2
         go_roundw
         case rel=>exact HREL.out (some (x:Int)) _ (HE4.out.setOrder (fault x (sn .Order))) (HF4.out.trans (FrE.set 5 _)) (HO3.out _ rfl)
         case measure=>(simp[intOf];omega)
        ·have hcb:decide (cz<0)=false:=decide_eq_false hcz
         have HCB:=hide hcb
         have HO3:Hid (l2=false→(none:Option Int).isSome=((none:Option Int).isSome||(true&&below b' last))):=HZZ.out none (by rw[←HZ.out,hcb];rfl)
         clear HZZ HZ HDZ HBE hcz hcb
         go_wp2_with fail
         go_quiet ((go_at_call 184;exact Calls.quiet_of_same (HCMP.out _)))
         have HE4:=hide (HE3.out.below (Go.below_drewN (Below.refl w3.heap.size w3) nq))
         have HF4:Hid (FrE R w1 (w3.drewN nq)):=HF3.out.trans (FrE.of_below (Go.below_drewN (Below.refl _ _) nq))
         generalize w3.drewN nq=w4 at HE4 HF4 ⊢
         clear g3 g5 f5 hR3 n0 hln3 HCMP
         obtain rfl:z=false:=hzc.symm.trans HCB.out
         clear hzc
         go_wp2
         go_roundw
         case rel=>exact HREL.out none _ HE4.out HF4.out HO3.out
         case measure=>(simp[intOf];omega)
    ·have hKb:(K==12)=false:=by simpa using hK
     obtain rfl:set=false:=by rw[←HSET.out];simpa using hK
     go_wp2_with fail
     go_quiet (fail)
     have HE4:=hide (HE3.out.below (Go.below_drewN (Below.refl w3.heap.size w3) nq))
     have HF4:Hid (FrE R w1 (w3.drewN nq)):=HF3.out.trans (FrE.of_below (Go.below_drewN (Below.refl _ _) nq))
     generalize w3.drewN nq=w4 at HE4 HF4 ⊢
     clear g3 g5 f5 hR3 n0 hln3
     go_wp2
     go_roundw
     case rel=>exact HREL.out o2 _ HE4.out HF4.out (fun _=>by simp)
     case measure=>(simp[intOf];omega)
   ·have HE3:=hide hE3
    have HF3:Hid (FrE R w w3):=(FrE.of_below HB1.out).trans (HFR2.out.trans hF3)
    have HX3:Hid (r=none):=by
     rcases HST.out r1 HR1.out with h2|⟨b2,x2,u2,h2,h3⟩
     ·exact h2.2
     ·rw[hq]at h2;cases h2
    clear hF3 hE3 hq
    unfold fault
    go_wp2
    go_ret
    exact⟨HF3.out,.inr ⟨HX3.out,p,x',t2,l2,ov,rfl,HE3.out⟩⟩
  ·have HX:Hid (r=some (out,x,u)):=by
    have h:=HEE.out
    cases m with
    |zero=>cases h
    |succ m=>
     unfold wmanyF at h
     rw[if_neg (by omega)]at h
     injection h with h
     exact h.symm
   have hge:¬(k:Int)<kids:=hlt
   go_wp2
   go_ret
   exact⟨(FrE.of_below HB1.out).trans HFR.out,.inl ⟨out,x,u,t1,l1,o1,HX.out,rfl,HT.out,HEW.out⟩⟩
theorem fhead_any(c n:Int)(b:Bool)(l:Int)(w:World):
 Calls Tryz.prog 155 #[.agg #[.int .i64 c,.int .i64 n,.bool b],.int .i64 l] w fun e w'=>e= .returned (.agg #[.int .i64 c,.bool b,.int .i64 n,.int .i64 0,.int .i64 l])∧Below w.heap.size w w':=by
 have HB:Hid (Below w.heap.size w w):=Below.refl _ _
 go_enter Tryz.func155,Tryz.ntmps155
 go_wp2
 refine bodyPost_ret (v:= .agg #[.int .i64 c,.bool b,.int .i64 n,.int .i64 0,.int .i64 l]) (by simp[results,Tryz.results155,go_sem]) rfl ⟨rfl,?_⟩
 exact((Below.refl _ _).alloc (Nat.le_refl _) _).alloc (by simp) _
theorem tell_hd(c n:Int)(b:Bool)(l:Nat)(w:World)(sn:Sn→Addr)(hs:Sent w sn)(q1:0≤c)(q2:c≤3)(q3:0≤n)(q4:n≤30)(q5:l≤16777215):
 Calls Tryz.prog 154 #[.agg #[.int .i64 c,.bool b,.int .i64 n,.int .i64 0,.int .i64 l]] w fun e w'=>e= .returned (.tuple #[.string (hdB c b n l),.nilIface])∧Below w.heap.size w w':=by
 have h:=tell_any ⟨c,b,n,0,l⟩ w sn hs
 have e:tsp ⟨c,b,n,0,(l:Int)⟩=(0,UInt8.ofNat (fb ⟨c,b,n,0,(l:Int)⟩).toNat::tl (l:Int)):=by
  unfold tsp
  rw[if_neg (by simp only;omega),if_neg (by simp only;omega)]
 rw[e]at h
 exact h
def AfterV(W:World)(R:Nat)(a:Option Addr)(m c:Nat)(ta:Option Addr)(tn tc x:Nat)(told:ByteArray)(lg:Bool)(ov:Value)(st:Nat)(cl:Int)(bt:Bool)(nu:Int)(w:World)(e:Ending)(w':World):Prop:=
 AfterI W R a m c ta tn tc x told lg ov st (hdB cl bt nu (told.size-st)) w e w'
theorem wrap_any(W w:World)(R:Nat)(a:Option Addr)(m c:Nat)(ta:Option Addr)(tn tc x:Nat)(told:ByteArray)(lg:Bool)(ov:Value)(sn:Sn→Addr)(hl:Lay W sn)(st:Nat)(cl nu:Int)(bt:Bool)(q1:0≤cl)(q2:cl≤3)(q3:0≤nu)(q4:nu≤30)(hp:st≤told.size)(h4:told.size≤4000)(hI:EwD W w R a m c ta tn tc x told lg ov):
 Calls Tryz.prog 113 #[.pointer (some ⟨R,0,none⟩),.int .i64 st,.agg #[.int .i64 cl,.int .i64 nu,.bool bt]] w fun e w'=>AfterV W R a m c ta tn tc x told lg ov st cl bt nu w e w':=by
 have HI:=hide hI
 have HL:=hide hl
 obtain⟨tv,hown,hrow⟩:=hI.own
 obtain⟨bs,cp,rfl,hc1,hc2,hbs⟩:=own8 hrow
 have HG:=hide hown
 have HW1:Hid (∀A,Below w.heap.size w (w.alloc A)):=fun A=>(Below.refl _ _).alloc (Nat.le_refl _) A
 have HFH:Hid (∀wq l,Calls Tryz.prog 155 #[.agg #[.int .i64 cl,.int .i64 nu,.bool bt],.int .i64 l] wq fun e w'=>e= .returned (.agg #[.int .i64 cl,.bool bt,.int .i64 nu,.int .i64 0,.int .i64 l])∧Below wq.heap.size wq w'):=fun wq l=>fhead_any cl nu bt l wq
 obtain⟨D,hD⟩:∃D:Nat,told.size-st=D:=⟨_,rfl⟩
 have hDi:(told.size:Int)-(st:Int)=(D:Int):=by omega
 have hD4:D≤4000:=by omega
 have HTL:Hid (∀wq,Below w.heap.size w wq→Calls Tryz.prog 154 #[.agg #[.int .i64 cl,.bool bt,.int .i64 nu,.int .i64 0,.int .i64 D]] wq fun e w'=>e= .returned (.tuple #[.string (hdB cl bt nu D),.nilIface])∧Below wq.heap.size wq w'):=fun wq q=>tell_hd cl nu bt D wq sn ((HL.out.below HI.out.bel).below q).s q1 q2 q3 q4 (by omega)
 have hhs:(hdB cl bt nu D).size≤140737488355328:=by
  have:=tl_le D
  unfold hdB
  rw[size_mk,List.length_cons]
  omega
 have HIN:Hid (∀wq,EwD W wq R a m c ta tn tc x told lg ov→Calls Tryz.prog 149 #[.pointer (some ⟨R,0,none⟩),.int .i64 st,.string (hdB cl bt nu D)] wq fun e w'=>AfterI W R a m c ta tn tc x told lg ov st (hdB cl bt nu D) wq e w'):=fun wq q=>insert_any W wq R a m c ta tn tc x told lg ov st (hdB cl bt nu D) hp h4 hhs q
 unfold AfterV
 rw[hD]
 have HS:Hid (∀wq,Below w.heap.size w wq→wq.cell? ⟨R,3,none⟩=some (.slice bs told.size cp)):=fun wq q=>by
  have h:=block_below HG.out q
  unfold ewObj at h
  simp[World.cell?,h]
 have hRl:R<w.heap.size:=row_lt hown
 have hwr:IntKind.i64.wrap ((told.size:Int)-(st:Int))=(D:Int):=by
  rw[hDi]
  simp[IntKind.wrap,IntKind.bits,IntKind.signed]
  omega
 have hwr2:IntKind.i64.wrap (D:Int)=(D:Int):=by
  simp[IntKind.wrap,IntKind.bits,IntKind.signed]
  omega
 clear hI hl hown hrow hbs hD q1 q2 q3 q4 hhs
 go_enter Tryz.func113,Tryz.ntmps113
 go_wp2_with fail
 generalize hW1:w.alloc (.cells #[.int .i64 cl,.int .i64 nu,.bool bt] 149)=w1
 have hB1:Below w.heap.size w w1:=by rw[←hW1];exact HW1.out _
 have hG1:w1.heap[w.heap.size]? =some (.cells #[.int .i64 cl,.int .i64 nu,.bool bt] 149 (0,0)):=by rw[←hW1];exact heap_alloc_new w _
 have HB1:=hide hB1
 have HST:Hid (∀wq,Below w1.heap.size w1 wq→wq.cell? ⟨R,3,none⟩=some (.slice bs told.size cp)∧wq.cell? ⟨w.heap.size,0,none⟩=some (.int .i64 cl)∧wq.cell? ⟨w.heap.size,1,none⟩=some (.int .i64 nu)∧wq.cell? ⟨w.heap.size,2,none⟩=some (.bool bt)):=fun wq q=>
  ⟨HS.out wq (HB1.out.trans (q.mono HB1.out.size)),cell_of_row (block_below hG1 q) rfl,cell_of_row (block_below hG1 q) rfl,cell_of_row (block_below hG1 q) rfl⟩
 obtain⟨k0,k1,k2,k3⟩:=HST.out w1 (Below.refl _ _)
 have hl1:=row_lt hG1
 have hR1:R<w1.heap.size:=by have:=hB1.size;omega
 clear hW1 hB1 hG1
 go_region_held_law (fun w'=>w'.cell? ⟨R,3,none⟩=some (.slice bs told.size cp)∧w'.cell? ⟨w.heap.size,0,none⟩=some (.int .i64 cl)∧w'.cell? ⟨w.heap.size,1,none⟩=some (.int .i64 nu)∧w'.cell? ⟨w.heap.size,2,none⟩=some (.bool bt)) (first|exact HST.out _ HB3.out|exact HST.out _ HB2.out|exact HST.out _ (Below.refl _ _).drew |go_keep) (first|(go_at_call 155;refine(HFH.out _ _).mono ?_;rintro e w2 ⟨rfl,hb2⟩;have HB2:Hid (Below w1.heap.size w1 w2):=(Below.refl w1.heap.size w1).drew.trans hb2;clear hb2)|(go_at_call 154;refine(HTL.out _ (HB1.out.trans (HB2.out.mono HB1.out.size))).mono ?_;rintro e w3 ⟨rfl,hb3⟩;have HB3:Hid (Below w1.heap.size w1 w3):=HB2.out.trans (hb3.mono HB2.out.size);clear hb3))
 rename_i hHeld
 clear hHeld
 go_wp2_with fail
 refine(HIN.out _ (HI.out.below (HB1.out.trans (HB3.out.mono HB1.out.size)))).mono ?_
 rintro e w4 ⟨rfl,hF4,t4,l4,hi4,hE4⟩
 have HF4:=hide hF4
 have HI4:=hide hi4
 have HE4:=hide hE4
 clear hF4 hi4 hE4
 go_wp2
 go_returns
 exact⟨rfl,(FrX.of_below (HB1.out.trans (HB3.out.mono HB1.out.size))).trans HF4.out,t4,l4,HI4.out,HE4.out⟩
theorem EwD.bel'{W w:World}{R:Nat}{a:Option Addr}{n c:Nat}{ta:Option Addr}{tn tc x:Nat}{told:ByteArray}{lg:Bool}{ov:Value}(h:EwD W w R a n c ta tn tc x told lg ov){w':World}(hb:Below w.heap.size w w'):EwD W w' R a n c ta tn tc x told lg ov:=h.below hb
theorem own14_e(E:WEnv)(W:World)(R:Nat)(a:Option Addr)(c:Nat)(ta:Option Addr)(tc f:Nat)(sn:Sn→Addr)(hc:EC E W a ta sn)(htc:E.t.length≤tc)(hN:NodeE E W R a c ta tc sn f)(hf1:1≤f)(i:Nat)(hi:i<E.s.length)(ka:Option Addr)(kc:Nat)(hka:KidsIn W ka (nd E.s i).kids)(hkc:(nd E.s i).kids.length≤kc)(hkm:kc≤maxLen)
 (x:Nat)(dp:Int)(r:WOut)(t0:ByteArray)(l0:Bool)(o0:Option Int)(w:World)(hfit:FitP (nd E.s i) (vl E.t x))(e:wbareF E (wrF E f) f (nd E.s i) (wcl (nd E.s i)) (wnu (nd E.s i)) (vl E.t x) (x+1) dp=some r)(hx:x<E.t.length)(hfx:E.t.length+1≤f+(x+1))(hd1:1≤dp)(hd2:dp≤12)(h4:t0.size≤4000)(hI:EwD W w R a E.s.length c ta E.t.length tc (x+1) t0 l0 (ovV sn o0))(hk:(nd E.s i).kind=14):
 Calls Tryz.prog 111 #[.pointer (some ⟨R,0,none⟩),.agg #[.int .i64 (nd E.s i).kind,.int .i64 (nd E.s i).tag,.int .i64 (nd E.s i).mode,.slice ka (nd E.s i).kids.length kc],.agg #[.int .i64 (vl E.t x).kind,.string (vl E.t x).text,.int .i64 (vl E.t x).alt,.int .i64 (vl E.t x).kids],.int .i64 dp] w fun e w'=>AfterE E W R a c ta tc sn r t0 l0 o0 w e w':=by
 have HC:=hide hc
 have HI:=hide hI
 have htx:=hc.txt hx
 have hwnb:=wnu_bd hc.wc.right hi
 obtain⟨hk1,hk14,hT1,hT2,hT3,hT4,hT5⟩:=tagged_of hc.wc.right hi
 have hnums:=hc.lay.n
 obtain⟨bs,cp,hform⟩:∃bs cp,∃tvx,tvx=Value.slice bs t0.size cp∧w.heap[R]? =some (ewObj a E.s.length c ta E.t.length tc (x+1) tvx l0 (ovV sn o0)):=by
  obtain⟨tv,h1,h2⟩:=hI.own
  obtain⟨bs,cp,rfl,_⟩:=own8 h2
  exact⟨bs,cp,_,rfl,h1⟩
 obtain⟨_,rfl,hown⟩:=hform
 have hRl:R<w.heap.size:=row_lt hown
 have HX:Hid (r=some ((vl E.t x).text,x+1,false)):=by
  have h:=e
  unfold wbareF at h
  rw[if_neg (by omega),if_pos hk,if_pos ((fit14 hk hfit.1).1 hfit)]at h
  injection h with h
  exact h.symm
 rw[hk]
 obtain⟨K,hK⟩:∃K:Int,K=14:=⟨_,rfl⟩
 generalize hTG:(nd E.s i).tag=TG
 generalize hMD:(nd E.s i).mode=MD
 generalize hKL:(nd E.s i).kids.length=KL
 generalize hVK:(vl E.t x).kind=VK
 generalize hVT:(vl E.t x).text=VT at HX htx ⊢
 generalize hVA:(vl E.t x).alt=VA
 generalize hVD:(vl E.t x).kids=VD
 have HIN:Hid (∀wq,EwD W wq R a E.s.length c ta E.t.length tc (x+1) t0 l0 (ovV sn o0)→Calls Tryz.prog 149 #[.pointer (some ⟨R,0,none⟩),.int .i64 t0.size,.string VT] wq fun e w'=>AfterI W R a E.s.length c ta E.t.length tc (x+1) t0 l0 (ovV sn o0) t0.size VT wq e w'):=fun wq q=>insert_any W wq R a E.s.length c ta E.t.length tc (x+1) t0 l0 (ovV sn o0) t0.size VT (Nat.le_refl _) h4 (by omega) q
 have hB1:Below w.heap.size w ((w.alloc (.cells #[.int .i64 14,.int .i64 TG,.int .i64 MD,.slice ka KL kc] 58)).alloc (.cells #[.int .i64 VK,.string VT,.int .i64 VA,.int .i64 VD] 60)):=((Below.refl w.heap.size w).alloc (Nat.le_refl _) _).alloc (by simp) _
 have hG1:((w.alloc (.cells #[.int .i64 14,.int .i64 TG,.int .i64 MD,.slice ka KL kc] 58)).alloc (.cells #[.int .i64 VK,.string VT,.int .i64 VA,.int .i64 VD] 60)).heap[w.heap.size]? =some (.cells #[.int .i64 14,.int .i64 TG,.int .i64 MD,.slice ka KL kc] 58 (0,0)):=block_below (heap_alloc_new w _) ((Below.refl _ _).alloc (Nat.le_refl _) _)
 have hG2:((w.alloc (.cells #[.int .i64 14,.int .i64 TG,.int .i64 MD,.slice ka KL kc] 58)).alloc (.cells #[.int .i64 VK,.string VT,.int .i64 VA,.int .i64 VD] 60)).heap[w.heap.size+1]? =some (.cells #[.int .i64 VK,.string VT,.int .i64 VA,.int .i64 VD] 60 (0,0)):=by simpa using heap_alloc_new (w.alloc (.cells #[.int .i64 14,.int .i64 TG,.int .i64 MD,.slice ka KL kc] 58)) (.cells #[.int .i64 VK,.string VT,.int .i64 VA,.int .i64 VD] 60)
 have hg3:=block_below hown hB1
 unfold ewObj at hg3
 have c3:((w.alloc (.cells #[.int .i64 14,.int .i64 TG,.int .i64 MD,.slice ka KL kc] 58)).alloc (.cells #[.int .i64 VK,.string VT,.int .i64 VA,.int .i64 VD] 60)).cell? ⟨R,3,none⟩=some (.slice bs t0.size cp):=by simp[World.cell?,hg3]
 clear hown hg3
 clear hc hI e hfit hwnb hT1 hT2 hT3 hT4 hT5 hnums hTG hMD hKL hVK hVT hVA hVD hk hk1 hk14 hK hka hN
 go_enter Tryz.func111,Tryz.ntmps111
 go_upto_region 1 with fail
 obtain⟨nb,hnb⟩:∃nb,w.heap.size=nb:=⟨_,rfl⟩
 obtain⟨vb,hvb⟩:∃vb,w.heap.size+1=vb:=⟨_,rfl⟩
 rw[hvb]at hG2 ⊢
 rw[hnb]at hG1 ⊢
 generalize(w.alloc (.cells #[.int .i64 14,.int .i64 TG,.int .i64 MD,.slice ka KL kc] 58)).alloc (.cells #[.int .i64 VK,.string VT,.int .i64 VA,.int .i64 VD] 60)=w1 at hB1 hG1 hG2 c3 ⊢
 have hneN:nb≠R:=by omega
 have HB1:=hide hB1
 have HG1:=hide hG1
 have HI1:=hide (HI.out.below hB1)
 have v1:w1.cell? ⟨vb,1,none⟩=some (.string VT):=cell_of_row hG2 rfl
 have v3:w1.cell? ⟨vb,3,none⟩=some (.int .i64 VD):=cell_of_row hG2 rfl
 have k0:w1.cell? ⟨nb,0,none⟩=some (.int .i64 14):=cell_of_row hG1 rfl
 have k1:w1.cell? ⟨nb,1,none⟩=some (.int .i64 TG):=cell_of_row hG1 rfl
 have k2:w1.cell? ⟨nb,2,none⟩=some (.int .i64 MD):=cell_of_row hG1 rfl
 have k3:w1.cell? ⟨nb,3,none⟩=some (.slice ka KL kc):=cell_of_row hG1 rfl
 have hR1:R<w1.heap.size:=lt_of_cell c3
 have hlv:=row_lt hG2
 have hln:=row_lt hG1
 clear hB1 hG1 hG2 hnb hvb
 go_wp2_with fail
 refine(HIN.out _ HI1.out).mono ?_
 rintro e w2 ⟨rfl,hF2,t2,l2,hi2,hE2⟩
 have HF2:=hide hF2
 have HI2:=hide hi2
 have HE2:=hide hE2
 clear hF2 hi2 hE2
 go_wp2
 go_ret
 exact⟨(FrE.of_below HB1.out).trans HF2.out.fr,.inl ⟨_,_,_,t2,l2,_,HX.out,rfl,Tld.ofIns h4 HI2.out,HE2.out⟩⟩
theorem own9_e(E:WEnv)(W:World)(R:Nat)(a:Option Addr)(c:Nat)(ta:Option Addr)(tc f:Nat)(sn:Sn→Addr)(hc:EC E W a ta sn)(htc:E.t.length≤tc)(hN:NodeE E W R a c ta tc sn f)(hf1:1≤f)(i:Nat)(hi:i<E.s.length)(ka:Option Addr)(kc:Nat)(hka:KidsIn W ka (nd E.s i).kids)(hkc:(nd E.s i).kids.length≤kc)(hkm:kc≤maxLen)
 (x:Nat)(dp:Int)(r:WOut)(t0:ByteArray)(l0:Bool)(o0:Option Int)(w:World)(hfit:FitP (nd E.s i) (vl E.t x))(e:wbareF E (wrF E f) f (nd E.s i) (wcl (nd E.s i)) (wnu (nd E.s i)) (vl E.t x) (x+1) dp=some r)(hx:x<E.t.length)(hfx:E.t.length+1≤f+(x+1))(hd1:1≤dp)(hd2:dp≤12)(h4:t0.size≤4000)(hI:EwD W w R a E.s.length c ta E.t.length tc (x+1) t0 l0 (ovV sn o0))(hk:(nd E.s i).kind≤9):
 Calls Tryz.prog 111 #[.pointer (some ⟨R,0,none⟩),.agg #[.int .i64 (nd E.s i).kind,.int .i64 (nd E.s i).tag,.int .i64 (nd E.s i).mode,.slice ka (nd E.s i).kids.length kc],.agg #[.int .i64 (vl E.t x).kind,.string (vl E.t x).text,.int .i64 (vl E.t x).alt,.int .i64 (vl E.t x).kids],.int .i64 dp] w fun e w'=>AfterE E W R a c ta tc sn r t0 l0 o0 w e w':=by
 have HC:=hide hc
 have HI:=hide hI
 have htx:=hc.txt hx
 have hwnb:=wnu_bd hc.wc.right hi
 have hcn:=wnu_own (n:=nd E.s i) (by omega)
 obtain⟨hk1,hk14,hT1,hT2,hT3,hT4,hT5⟩:=tagged_of hc.wc.right hi
 have hnums:=hc.lay.n
 obtain⟨bs,cp,hform⟩:∃bs cp,∃tvx,tvx=Value.slice bs t0.size cp∧w.heap[R]? =some (ewObj a E.s.length c ta E.t.length tc (x+1) tvx l0 (ovV sn o0)):=by
  obtain⟨tv,h1,h2⟩:=hI.own
  obtain⟨bs,cp,rfl,_⟩:=own8 h2
  exact⟨bs,cp,_,rfl,h1⟩
 obtain⟨_,rfl,hown⟩:=hform
 have hRl:R<w.heap.size:=row_lt hown
 have HX:Hid (r=some (elB (wcl (nd E.s i)) false (wnu (nd E.s i)) (vl E.t x).text,x+1,false)):=by
  have h:=e
  have hf:=(fit9 (.inl (by omega)) hfit.1).1 hfit
  unfold wbareF at h
  rw[if_neg (by omega),if_neg (by omega),if_neg (by omega),if_neg (by omega),if_pos ⟨(hc.wc.ok _ _).2 hf.1,hf.2⟩]at h
  injection h with h
  exact h.symm
 obtain⟨CL,hCL⟩:∃CL,wcl (nd E.s i)=CL:=⟨_,rfl⟩
 obtain⟨NU,hNU⟩:∃NU,wnu (nd E.s i)=NU:=⟨_,rfl⟩
 rw[hCL,hNU]at hcn hwnb HX
 obtain⟨K,hK⟩:∃K,(nd E.s i).kind=K:=⟨_,rfl⟩
 rw[hK]at hk ⊢
 obtain⟨BT,hBT⟩:∃BT:Bool,BT=false:=⟨_,rfl⟩
 replace HX:Hid (r=some (elB CL BT NU (vl E.t x).text,x+1,false)):=by rw[hBT];exact HX.out
 generalize hTG:(nd E.s i).tag=TG
 generalize hMD:(nd E.s i).mode=MD
 generalize hKL:(nd E.s i).kids.length=KL
 generalize hVK:(vl E.t x).kind=VK
 generalize hVT:(vl E.t x).text=VT at HX htx ⊢
 generalize hVA:(vl E.t x).alt=VA
 generalize hVD:(vl E.t x).kids=VD
 have HIN:Hid (∀wq,EwD W wq R a E.s.length c ta E.t.length tc (x+1) t0 l0 (ovV sn o0)→Calls Tryz.prog 149 #[.pointer (some ⟨R,0,none⟩),.int .i64 t0.size,.string VT] wq fun e w'=>AfterI W R a E.s.length c ta E.t.length tc (x+1) t0 l0 (ovV sn o0) t0.size VT wq e w'):=fun wq q=>insert_any W wq R a E.s.length c ta E.t.length tc (x+1) t0 l0 (ovV sn o0) t0.size VT (Nat.le_refl _) h4 (by omega) q
 have HOW:Hid (∀wq,Below W.heap.size W wq→Calls Tryz.prog 152 #[.agg #[.int .i64 K,.int .i64 TG,.int .i64 MD,.slice ka KL kc]] wq fun e w'=>e= .returned (.agg #[.int .i64 CL,.int .i64 NU,.bool BT])∧Below wq.heap.size wq w'):=fun wq q=>by
  have:=own_all (nd E.s i) ka kc wq (HC.out.lay.below q).n (by omega) (by omega) (by omega)
  unfold fv at this
  rw[←hcn,hTG,hMD,hKL]at this
  rw[hK,decide_eq_false (by omega),←hBT]at this
  exact this
 have HWR:Hid (∀wq t1 l1 o1 x1,EwD W wq R a E.s.length c ta E.t.length tc x1 t1 l1 (ovV sn o1)→t0.size≤t1.size→t1.size≤4000→Calls Tryz.prog 113 #[.pointer (some ⟨R,0,none⟩),.int .i64 t0.size,.agg #[.int .i64 CL,.int .i64 NU,.bool BT]] wq fun e w'=>AfterI W R a E.s.length c ta E.t.length tc x1 t1 l1 (ovV sn o1) t0.size (hdB CL BT NU (t1.size-t0.size)) wq e w'):=fun wq t1 l1 o1 x1 q h1 h2=>wrap_any W wq R a E.s.length c ta E.t.length tc x1 t1 l1 (ovV sn o1) sn HC.out.lay t0.size CL NU BT hwnb.1 hwnb.2.1 hwnb.2.2.1 hwnb.2.2.2 h1 h2 q
 have hB1:Below w.heap.size w ((w.alloc (.cells #[.int .i64 K,.int .i64 TG,.int .i64 MD,.slice ka KL kc] 58)).alloc (.cells #[.int .i64 VK,.string VT,.int .i64 VA,.int .i64 VD] 60)):=((Below.refl w.heap.size w).alloc (Nat.le_refl _) _).alloc (by simp) _
 have hG1:((w.alloc (.cells #[.int .i64 K,.int .i64 TG,.int .i64 MD,.slice ka KL kc] 58)).alloc (.cells #[.int .i64 VK,.string VT,.int .i64 VA,.int .i64 VD] 60)).heap[w.heap.size]? =some (.cells #[.int .i64 K,.int .i64 TG,.int .i64 MD,.slice ka KL kc] 58 (0,0)):=block_below (heap_alloc_new w _) ((Below.refl _ _).alloc (Nat.le_refl _) _)
 have hG2:((w.alloc (.cells #[.int .i64 K,.int .i64 TG,.int .i64 MD,.slice ka KL kc] 58)).alloc (.cells #[.int .i64 VK,.string VT,.int .i64 VA,.int .i64 VD] 60)).heap[w.heap.size+1]? =some (.cells #[.int .i64 VK,.string VT,.int .i64 VA,.int .i64 VD] 60 (0,0)):=by simpa using heap_alloc_new (w.alloc (.cells #[.int .i64 K,.int .i64 TG,.int .i64 MD,.slice ka KL kc] 58)) (.cells #[.int .i64 VK,.string VT,.int .i64 VA,.int .i64 VD] 60)
 have hg3:=block_below hown hB1
 unfold ewObj at hg3
 have c3:((w.alloc (.cells #[.int .i64 K,.int .i64 TG,.int .i64 MD,.slice ka KL kc] 58)).alloc (.cells #[.int .i64 VK,.string VT,.int .i64 VA,.int .i64 VD] 60)).cell? ⟨R,3,none⟩=some (.slice bs t0.size cp):=by simp[World.cell?,hg3]
 clear hown hg3
 have b14:(K==14)=false:=by simp;omega
 have b10:(K==10)=false:=by simp;omega
 have b11:(K==11)=false:=by simp;omega
 have b12:(K==12)=false:=by simp;omega
 clear hc hI e hfit hcn hwnb hT1 hT2 hT3 hT4 hT5 hnums hTG hMD hKL hVK hVT hVA hVD hk hk1 hk14 hK hka hN hBT hCL hNU
 go_enter Tryz.func111,Tryz.ntmps111
 go_upto_region 1 with fail
 obtain⟨nb,hnb⟩:∃nb,w.heap.size=nb:=⟨_,rfl⟩
 obtain⟨vb,hvb⟩:∃vb,w.heap.size+1=vb:=⟨_,rfl⟩
 rw[hvb]at hG2 ⊢
 rw[hnb]at hG1 ⊢
 generalize(w.alloc (.cells #[.int .i64 K,.int .i64 TG,.int .i64 MD,.slice ka KL kc] 58)).alloc (.cells #[.int .i64 VK,.string VT,.int .i64 VA,.int .i64 VD] 60)=w1 at hB1 hG1 hG2 c3 ⊢
 have hneN:nb≠R:=by omega
 have HB1:=hide hB1
 have HG1:=hide hG1
 have HI1:=hide (HI.out.below hB1)
 have v1:w1.cell? ⟨vb,1,none⟩=some (.string VT):=cell_of_row hG2 rfl
 have v3:w1.cell? ⟨vb,3,none⟩=some (.int .i64 VD):=cell_of_row hG2 rfl
 have k0:w1.cell? ⟨nb,0,none⟩=some (.int .i64 K):=cell_of_row hG1 rfl
 have k1:w1.cell? ⟨nb,1,none⟩=some (.int .i64 TG):=cell_of_row hG1 rfl
 have k2:w1.cell? ⟨nb,2,none⟩=some (.int .i64 MD):=cell_of_row hG1 rfl
 have k3:w1.cell? ⟨nb,3,none⟩=some (.slice ka KL kc):=cell_of_row hG1 rfl
 have hR1:R<w1.heap.size:=lt_of_cell c3
 have hlv:=row_lt hG2
 have hln:=row_lt hG1
 clear hB1 hG1 hG2 hnb hvb
 go_wp2_with fail
 refine(HIN.out _ HI1.out).mono ?_
 rintro e w2 ⟨rfl,hF2,t2,l2,hi2,hE2⟩
 have HF2:Hid (FrE R w1 w2):=hF2.fr
 have HT2:Hid (Tld t0 l0 o0 VT false t2 l2 o0):=Tld.ofIns h4 hi2
 have HE2:=hide hE2
 clear hF2 hi2 hE2 k0 k1 k2 k3 v1 v3 c3 hln
 have kn:=HF2.out _ _ _ hneN (by decide) HG1.out
 have q0:w2.cell? ⟨nb,0,none⟩=some (.int .i64 K):=cell_of_row kn rfl
 have q1:w2.cell? ⟨nb,1,none⟩=some (.int .i64 TG):=cell_of_row kn rfl
 have q2:w2.cell? ⟨nb,2,none⟩=some (.int .i64 MD):=cell_of_row kn rfl
 have q3:w2.cell? ⟨nb,3,none⟩=some (.slice ka KL kc):=cell_of_row kn rfl
 have hlq:=row_lt kn
 clear kn
 go_wp2_with fail
 refine(HOW.out _ HE2.out.bel).mono ?_
 rintro e w8 ⟨rfl,hb8⟩
 have HB8:=hide hb8
 clear hb8
 go_wp2_with fail
 refine(HWR.out _ _ _ _ _ (HE2.out.below HB8.out) HT2.out.le HT2.out.mx).mono ?_
 rintro e w9 ⟨rfl,hF9,t9,l9,hi9,hE9⟩
 have HF9:=hide hF9
 have HI9:=hide hi9
 have HE9:=hide hE9
 clear hF9 hi9 hE9
 go_wp2
 go_ret
 exact⟨(FrE.of_below HB1.out).trans (HF2.out.trans ((FrE.of_below HB8.out).trans HF9.out.fr)),.inl ⟨_,_,_,t9,l9,_,HX.out,rfl,HT2.out.wrap HI9.out,HE9.out⟩⟩
theorem own10_e(E:WEnv)(W:World)(R:Nat)(a:Option Addr)(c:Nat)(ta:Option Addr)(tc f:Nat)(sn:Sn→Addr)(hc:EC E W a ta sn)(htc:E.t.length≤tc)(hN:NodeE E W R a c ta tc sn f)(hf1:1≤f)(i:Nat)(hi:i<E.s.length)(ka:Option Addr)(kc:Nat)(hka:KidsIn W ka (nd E.s i).kids)(hkc:(nd E.s i).kids.length≤kc)(hkm:kc≤maxLen)
 (x:Nat)(dp:Int)(r:WOut)(t0:ByteArray)(l0:Bool)(o0:Option Int)(w:World)(hfit:FitP (nd E.s i) (vl E.t x))(e:wbareF E (wrF E f) f (nd E.s i) (wcl (nd E.s i)) (wnu (nd E.s i)) (vl E.t x) (x+1) dp=some r)(hx:x<E.t.length)(hfx:E.t.length+1≤f+(x+1))(hd1:1≤dp)(hd2:dp≤12)(h4:t0.size≤4000)(hI:EwD W w R a E.s.length c ta E.t.length tc (x+1) t0 l0 (ovV sn o0))(hk:(nd E.s i).kind=10):
 Calls Tryz.prog 111 #[.pointer (some ⟨R,0,none⟩),.agg #[.int .i64 (nd E.s i).kind,.int .i64 (nd E.s i).tag,.int .i64 (nd E.s i).mode,.slice ka (nd E.s i).kids.length kc],.agg #[.int .i64 (vl E.t x).kind,.string (vl E.t x).text,.int .i64 (vl E.t x).alt,.int .i64 (vl E.t x).kids],.int .i64 dp] w fun e w'=>AfterE E W R a c ta tc sn r t0 l0 o0 w e w':=by
 have HC:=hide hc
 have HI:=hide hI
 have htx:=hc.txt hx
 have hwnb:=wnu_bd hc.wc.right hi
 have hcn:=wnu_own (n:=nd E.s i) (by omega)
 obtain⟨hk1,hk14,hT1,hT2,hT3,hT4,hT5⟩:=tagged_of hc.wc.right hi
 have hnums:=hc.lay.n
 obtain⟨bs,cp,hform⟩:∃bs cp,∃tvx,tvx=Value.slice bs t0.size cp∧w.heap[R]? =some (ewObj a E.s.length c ta E.t.length tc (x+1) tvx l0 (ovV sn o0)):=by
  obtain⟨tv,h1,h2⟩:=hI.own
  obtain⟨bs,cp,rfl,_⟩:=own8 h2
  exact⟨bs,cp,_,rfl,h1⟩
 obtain⟨_,rfl,hown⟩:=hform
 have hRl:R<w.heap.size:=row_lt hown
 obtain⟨r1,hr1,HX⟩:∃r1,wseqF E (wrF E f) dp (nd E.s i).kids (x+1) noB false=some r1∧Hid ((r1=none→r=none)∧∀b x' u,r1=some (b,x',u)→r=some (elB (wcl (nd E.s i)) true (wnu (nd E.s i)) b,x',u)):=by
  have h:=e
  unfold wbareF at h
  rw[if_neg (by omega),if_neg (by omega),if_pos hk,if_pos ((fit10 hk hfit.1).1 hfit)]at h
  rcases wandThen_cases h with⟨h1,h2⟩|⟨b,x',u,h1,h2⟩
  ·exact⟨none,h1,fun _=>h2,fun _ _ _ q=>by cases q⟩
  ·refine⟨_,h1,fun q=>(by cases q),fun b' x'' u' q=>?_⟩
   injection q with q
   injection q with e1 q
   injection q with e2 e3
   subst e1 e2 e3
   injection h2 with h2
   exact h2.symm
 obtain⟨CL,hCL⟩:∃CL,wcl (nd E.s i)=CL:=⟨_,rfl⟩
 obtain⟨NU,hNU⟩:∃NU,wnu (nd E.s i)=NU:=⟨_,rfl⟩
 rw[hCL,hNU]at hcn hwnb HX
 obtain⟨K,hK⟩:∃K,(nd E.s i).kind=K:=⟨_,rfl⟩
 rw[hK]at hk ⊢
 obtain⟨BT,hBT⟩:∃BT:Bool,BT=true:=⟨_,rfl⟩
 rw[←hBT]at HX
 have HCA:Hid (∀wq,EwD W wq R a E.s.length c ta E.t.length tc (x+1) t0 l0 (ovV sn o0)→Calls Tryz.prog 150 #[.pointer (some ⟨R,0,none⟩),.agg #[.int .i64 K,.int .i64 (nd E.s i).tag,.int .i64 (nd E.s i).mode,.slice ka (nd E.s i).kids.length kc],.int .i64 dp] wq fun e w'=>AfterE E W R a c ta tc sn r1 t0 l0 o0 wq e w'):=fun wq q=>by
  rw[←hK]
  exact eseq_any E W R a c ta tc f sn hc htc hN hf1 i hi ka kc hka hkc hkm (x+1) dp r1 t0 l0 o0 wq hr1 hx hfx hd1 hd2 h4 q
 generalize hTG:(nd E.s i).tag=TG at HCA ⊢
 generalize hMD:(nd E.s i).mode=MD at HCA ⊢
 generalize hKL:(nd E.s i).kids.length=KL at HCA ⊢
 generalize hVK:(vl E.t x).kind=VK
 generalize hVT:(vl E.t x).text=VT
 generalize hVA:(vl E.t x).alt=VA
 generalize hVD:(vl E.t x).kids=VD at HCA ⊢
 have HOW:Hid (∀wq,Below W.heap.size W wq→Calls Tryz.prog 152 #[.agg #[.int .i64 K,.int .i64 TG,.int .i64 MD,.slice ka KL kc]] wq fun e w'=>e= .returned (.agg #[.int .i64 CL,.int .i64 NU,.bool BT])∧Below wq.heap.size wq w'):=fun wq q=>by
  have:=own_all (nd E.s i) ka kc wq (HC.out.lay.below q).n (by omega) (by omega) (by omega)
  unfold fv at this
  rw[←hcn,hTG,hMD,hKL]at this
  rw[hK,decide_eq_true (by omega),←hBT]at this
  exact this
 have HWR:Hid (∀wq t1 l1 o1 x1,EwD W wq R a E.s.length c ta E.t.length tc x1 t1 l1 (ovV sn o1)→t0.size≤t1.size→t1.size≤4000→Calls Tryz.prog 113 #[.pointer (some ⟨R,0,none⟩),.int .i64 t0.size,.agg #[.int .i64 CL,.int .i64 NU,.bool BT]] wq fun e w'=>AfterI W R a E.s.length c ta E.t.length tc x1 t1 l1 (ovV sn o1) t0.size (hdB CL BT NU (t1.size-t0.size)) wq e w'):=fun wq t1 l1 o1 x1 q h1 h2=>wrap_any W wq R a E.s.length c ta E.t.length tc x1 t1 l1 (ovV sn o1) sn HC.out.lay t0.size CL NU BT hwnb.1 hwnb.2.1 hwnb.2.2.1 hwnb.2.2.2 h1 h2 q
 have hB1:Below w.heap.size w ((w.alloc (.cells #[.int .i64 K,.int .i64 TG,.int .i64 MD,.slice ka KL kc] 58)).alloc (.cells #[.int .i64 VK,.string VT,.int .i64 VA,.int .i64 VD] 60)):=((Below.refl w.heap.size w).alloc (Nat.le_refl _) _).alloc (by simp) _
 have hG1:((w.alloc (.cells #[.int .i64 K,.int .i64 TG,.int .i64 MD,.slice ka KL kc] 58)).alloc (.cells #[.int .i64 VK,.string VT,.int .i64 VA,.int .i64 VD] 60)).heap[w.heap.size]? =some (.cells #[.int .i64 K,.int .i64 TG,.int .i64 MD,.slice ka KL kc] 58 (0,0)):=block_below (heap_alloc_new w _) ((Below.refl _ _).alloc (Nat.le_refl _) _)
 have hG2:((w.alloc (.cells #[.int .i64 K,.int .i64 TG,.int .i64 MD,.slice ka KL kc] 58)).alloc (.cells #[.int .i64 VK,.string VT,.int .i64 VA,.int .i64 VD] 60)).heap[w.heap.size+1]? =some (.cells #[.int .i64 VK,.string VT,.int .i64 VA,.int .i64 VD] 60 (0,0)):=by simpa using heap_alloc_new (w.alloc (.cells #[.int .i64 K,.int .i64 TG,.int .i64 MD,.slice ka KL kc] 58)) (.cells #[.int .i64 VK,.string VT,.int .i64 VA,.int .i64 VD] 60)
 have hg3:=block_below hown hB1
 unfold ewObj at hg3
 have c3:((w.alloc (.cells #[.int .i64 K,.int .i64 TG,.int .i64 MD,.slice ka KL kc] 58)).alloc (.cells #[.int .i64 VK,.string VT,.int .i64 VA,.int .i64 VD] 60)).cell? ⟨R,3,none⟩=some (.slice bs t0.size cp):=by simp[World.cell?,hg3]
 clear hown hg3
 clear hc hI e hfit hcn hwnb hT1 hT2 hT3 hT4 hT5 hnums hTG hMD hKL hVK hVT hVA hVD hK hk1 hk14 hka hN hBT hCL hNU
 subst hk
 go_enter Tryz.func111,Tryz.ntmps111
 go_upto_region 1 with fail
 obtain⟨nb,hnb⟩:∃nb,w.heap.size=nb:=⟨_,rfl⟩
 obtain⟨vb,hvb⟩:∃vb,w.heap.size+1=vb:=⟨_,rfl⟩
 rw[hvb]at hG2 ⊢
 rw[hnb]at hG1 ⊢
 generalize(w.alloc (.cells #[.int .i64 10,.int .i64 TG,.int .i64 MD,.slice ka KL kc] 58)).alloc (.cells #[.int .i64 VK,.string VT,.int .i64 VA,.int .i64 VD] 60)=w1 at hB1 hG1 hG2 c3 ⊢
 have hneN:nb≠R:=by omega
 have HB1:=hide hB1
 have HG1:=hide hG1
 have HI1:=hide (HI.out.below hB1)
 have v1:w1.cell? ⟨vb,1,none⟩=some (.string VT):=cell_of_row hG2 rfl
 have v3:w1.cell? ⟨vb,3,none⟩=some (.int .i64 VD):=cell_of_row hG2 rfl
 have k0:w1.cell? ⟨nb,0,none⟩=some (.int .i64 10):=cell_of_row hG1 rfl
 have k1:w1.cell? ⟨nb,1,none⟩=some (.int .i64 TG):=cell_of_row hG1 rfl
 have k2:w1.cell? ⟨nb,2,none⟩=some (.int .i64 MD):=cell_of_row hG1 rfl
 have k3:w1.cell? ⟨nb,3,none⟩=some (.slice ka KL kc):=cell_of_row hG1 rfl
 have hR1:R<w1.heap.size:=lt_of_cell c3
 have hlv:=row_lt hG2
 have hln:=row_lt hG1
 clear hB1 hG1 hG2 hnb hvb
 go_wp2_with fail
 refine(HCA.out _ HI1.out).mono ?_
 rintro e w2 ⟨hF2,⟨b2,x2,u2,t2,l2,o2,hq,rfl,hT2,hE2⟩|⟨hq,p,x2,t2,l2,ov,rfl,hE2⟩⟩
 ·have HF2:=hide hF2
  have HT2:=hide hT2
  have HE2:=hide hE2
  have HXX:Hid (r=some (elB CL BT NU b2,x2,u2)):=HX.out.2 b2 x2 u2 hq
  clear hF2 hT2 hE2 hq HX k0 k1 k2 k3 v1 v3 c3 hln
  have HX:=HXX
  have kn:=HF2.out _ _ _ hneN (by decide) HG1.out
  have q0:w2.cell? ⟨nb,0,none⟩=some (.int .i64 10):=cell_of_row kn rfl
  have q1:w2.cell? ⟨nb,1,none⟩=some (.int .i64 TG):=cell_of_row kn rfl
  have q2:w2.cell? ⟨nb,2,none⟩=some (.int .i64 MD):=cell_of_row kn rfl
  have q3:w2.cell? ⟨nb,3,none⟩=some (.slice ka KL kc):=cell_of_row kn rfl
  have hlq:=row_lt kn
  clear kn
  go_wp2_with fail
  refine(HOW.out _ HE2.out.bel).mono ?_
  rintro e w8 ⟨rfl,hb8⟩
  have HB8:=hide hb8
  clear hb8
  go_wp2_with fail
  refine(HWR.out _ _ _ _ _ (HE2.out.below HB8.out) HT2.out.le HT2.out.mx).mono ?_
  rintro e w9 ⟨rfl,hF9,t9,l9,hi9,hE9⟩
  have HF9:=hide hF9
  have HI9:=hide hi9
  have HE9:=hide hE9
  clear hF9 hi9 hE9
  go_wp2
  go_ret
  exact⟨(FrE.of_below HB1.out).trans (HF2.out.trans ((FrE.of_below HB8.out).trans HF9.out.fr)),.inl ⟨_,_,_,t9,l9,_,HX.out,rfl,HT2.out.wrap HI9.out,HE9.out⟩⟩
 ·have HF2:Hid (FrE R w w2):=(FrE.of_below HB1.out).trans hF2
  have HE2:=hide hE2
  have HXX:Hid (r=none):=HX.out.1 hq
  clear hF2 hE2 hq
  unfold fault
  go_wp2
  go_ret
  exact⟨HF2.out,.inr ⟨HXX.out,p,x2,t2,l2,ov,rfl,HE2.out⟩⟩
theorem own11_e(E:WEnv)(W:World)(R:Nat)(a:Option Addr)(c:Nat)(ta:Option Addr)(tc f:Nat)(sn:Sn→Addr)(hc:EC E W a ta sn)(htc:E.t.length≤tc)(hN:NodeE E W R a c ta tc sn f)(hf1:1≤f)(i:Nat)(hi:i<E.s.length)(ka:Option Addr)(kc:Nat)(hka:KidsIn W ka (nd E.s i).kids)(hkc:(nd E.s i).kids.length≤kc)(hkm:kc≤maxLen)
 (x:Nat)(dp:Int)(r:WOut)(t0:ByteArray)(l0:Bool)(o0:Option Int)(w:World)(hfit:FitP (nd E.s i) (vl E.t x))(e:wbareF E (wrF E f) f (nd E.s i) (wcl (nd E.s i)) (wnu (nd E.s i)) (vl E.t x) (x+1) dp=some r)(hx:x<E.t.length)(hfx:E.t.length+1≤f+(x+1))(hd1:1≤dp)(hd2:dp≤12)(h4:t0.size≤4000)(hI:EwD W w R a E.s.length c ta E.t.length tc (x+1) t0 l0 (ovV sn o0))(hk:(nd E.s i).kind=11):
 Calls Tryz.prog 111 #[.pointer (some ⟨R,0,none⟩),.agg #[.int .i64 (nd E.s i).kind,.int .i64 (nd E.s i).tag,.int .i64 (nd E.s i).mode,.slice ka (nd E.s i).kids.length kc],.agg #[.int .i64 (vl E.t x).kind,.string (vl E.t x).text,.int .i64 (vl E.t x).alt,.int .i64 (vl E.t x).kids],.int .i64 dp] w fun e w'=>AfterE E W R a c ta tc sn r t0 l0 o0 w e w':=by
 have HC:=hide hc
 have HI:=hide hI
 have htx:=hc.txt hx
 have hwnb:=wnu_bd hc.wc.right hi
 have hcn:=wnu_own (n:=nd E.s i) (by omega)
 obtain⟨hk1,hk14,hT1,hT2,hT3,hT4,hT5⟩:=tagged_of hc.wc.right hi
 have hnums:=hc.lay.n
 obtain⟨bs,cp,hform⟩:∃bs cp,∃tvx,tvx=Value.slice bs t0.size cp∧w.heap[R]? =some (ewObj a E.s.length c ta E.t.length tc (x+1) tvx l0 (ovV sn o0)):=by
  obtain⟨tv,h1,h2⟩:=hI.own
  obtain⟨bs,cp,rfl,_⟩:=own8 h2
  exact⟨bs,cp,_,rfl,h1⟩
 obtain⟨_,rfl,hown⟩:=hform
 have hRl:R<w.heap.size:=row_lt hown
 obtain⟨r1,hr1,HX⟩:∃r1,wmanyF E (wrF E f) (decide ((nd E.s i).kind=12)) (kd (nd E.s i) 0).node.toNat (dp+1) f (vl E.t x).kids (x+1) noB noB false=some r1∧Hid ((r1=none→r=none)∧∀b x' u,r1=some (b,x',u)→r=some (elB (wcl (nd E.s i)) true (wnu (nd E.s i)) b,x',u)):=by
  have h:=e
  unfold wbareF at h
  rw[if_neg (by omega),if_neg (by omega),if_neg (by omega),if_pos (by omega),if_pos ((fit12 (.inl hk) hfit.1).1 hfit)]at h
  rcases wandThen_cases h with⟨h1,h2⟩|⟨b,x',u,h1,h2⟩
  ·exact⟨none,h1,fun _=>h2,fun _ _ _ q=>by cases q⟩
  ·refine⟨_,h1,fun q=>(by cases q),fun b' x'' u' q=>?_⟩
   injection q with q
   injection q with e1 q
   injection q with e2 e3
   subst e1 e2 e3
   injection h2 with h2
   exact h2.symm
 obtain⟨CL,hCL⟩:∃CL,wcl (nd E.s i)=CL:=⟨_,rfl⟩
 obtain⟨NU,hNU⟩:∃NU,wnu (nd E.s i)=NU:=⟨_,rfl⟩
 rw[hCL,hNU]at hcn hwnb HX
 obtain⟨K,hK⟩:∃K,(nd E.s i).kind=K:=⟨_,rfl⟩
 rw[hK]at hk ⊢
 obtain⟨BT,hBT⟩:∃BT:Bool,BT=true:=⟨_,rfl⟩
 rw[←hBT]at HX
 have hvd:=((fit12 (.inl (hK▸hk)) hfit.1).1 hfit).2.2
 have HCA:Hid (∀wq,EwD W wq R a E.s.length c ta E.t.length tc (x+1) t0 l0 (ovV sn o0)→Calls Tryz.prog 151 #[.pointer (some ⟨R,0,none⟩),.agg #[.int .i64 K,.int .i64 (nd E.s i).tag,.int .i64 (nd E.s i).mode,.slice ka (nd E.s i).kids.length kc],.int .i64 (vl E.t x).kids,.int .i64 dp] wq fun e w'=>AfterE E W R a c ta tc sn r1 t0 l0 o0 wq e w'):=fun wq q=>by
  rw[←hK]
  exact elist_any E W R a c ta tc f sn hc htc hN hf1 i hi (hc.wc.right.fine.one i hi (.inl (hK▸hk))) ka kc hka hkc hkm (x+1) f (vl E.t x).kids dp r1 t0 l0 o0 wq hr1 hvd (hc.wc.kids x hx) hx hfx hd1 hd2 h4 q
 generalize hTG:(nd E.s i).tag=TG at HCA ⊢
 generalize hMD:(nd E.s i).mode=MD at HCA ⊢
 generalize hKL:(nd E.s i).kids.length=KL at HCA ⊢
 generalize hVK:(vl E.t x).kind=VK
 generalize hVT:(vl E.t x).text=VT
 generalize hVA:(vl E.t x).alt=VA
 generalize hVD:(vl E.t x).kids=VD at HCA ⊢
 have HOW:Hid (∀wq,Below W.heap.size W wq→Calls Tryz.prog 152 #[.agg #[.int .i64 K,.int .i64 TG,.int .i64 MD,.slice ka KL kc]] wq fun e w'=>e= .returned (.agg #[.int .i64 CL,.int .i64 NU,.bool BT])∧Below wq.heap.size wq w'):=fun wq q=>by
  have:=own_all (nd E.s i) ka kc wq (HC.out.lay.below q).n (by omega) (by omega) (by omega)
  unfold fv at this
  rw[←hcn,hTG,hMD,hKL]at this
  rw[hK,decide_eq_true (by omega),←hBT]at this
  exact this
 have HWR:Hid (∀wq t1 l1 o1 x1,EwD W wq R a E.s.length c ta E.t.length tc x1 t1 l1 (ovV sn o1)→t0.size≤t1.size→t1.size≤4000→Calls Tryz.prog 113 #[.pointer (some ⟨R,0,none⟩),.int .i64 t0.size,.agg #[.int .i64 CL,.int .i64 NU,.bool BT]] wq fun e w'=>AfterI W R a E.s.length c ta E.t.length tc x1 t1 l1 (ovV sn o1) t0.size (hdB CL BT NU (t1.size-t0.size)) wq e w'):=fun wq t1 l1 o1 x1 q h1 h2=>wrap_any W wq R a E.s.length c ta E.t.length tc x1 t1 l1 (ovV sn o1) sn HC.out.lay t0.size CL NU BT hwnb.1 hwnb.2.1 hwnb.2.2.1 hwnb.2.2.2 h1 h2 q
 have hB1:Below w.heap.size w ((w.alloc (.cells #[.int .i64 K,.int .i64 TG,.int .i64 MD,.slice ka KL kc] 58)).alloc (.cells #[.int .i64 VK,.string VT,.int .i64 VA,.int .i64 VD] 60)):=((Below.refl w.heap.size w).alloc (Nat.le_refl _) _).alloc (by simp) _
 have hG1:((w.alloc (.cells #[.int .i64 K,.int .i64 TG,.int .i64 MD,.slice ka KL kc] 58)).alloc (.cells #[.int .i64 VK,.string VT,.int .i64 VA,.int .i64 VD] 60)).heap[w.heap.size]? =some (.cells #[.int .i64 K,.int .i64 TG,.int .i64 MD,.slice ka KL kc] 58 (0,0)):=block_below (heap_alloc_new w _) ((Below.refl _ _).alloc (Nat.le_refl _) _)
 have hG2:((w.alloc (.cells #[.int .i64 K,.int .i64 TG,.int .i64 MD,.slice ka KL kc] 58)).alloc (.cells #[.int .i64 VK,.string VT,.int .i64 VA,.int .i64 VD] 60)).heap[w.heap.size+1]? =some (.cells #[.int .i64 VK,.string VT,.int .i64 VA,.int .i64 VD] 60 (0,0)):=by simpa using heap_alloc_new (w.alloc (.cells #[.int .i64 K,.int .i64 TG,.int .i64 MD,.slice ka KL kc] 58)) (.cells #[.int .i64 VK,.string VT,.int .i64 VA,.int .i64 VD] 60)
 have hg3:=block_below hown hB1
 unfold ewObj at hg3
 have c3:((w.alloc (.cells #[.int .i64 K,.int .i64 TG,.int .i64 MD,.slice ka KL kc] 58)).alloc (.cells #[.int .i64 VK,.string VT,.int .i64 VA,.int .i64 VD] 60)).cell? ⟨R,3,none⟩=some (.slice bs t0.size cp):=by simp[World.cell?,hg3]
 clear hown hg3
 clear hc hI e hfit hcn hwnb hT1 hT2 hT3 hT4 hT5 hnums hTG hMD hKL hVK hVT hVA hVD hvd hK hk1 hk14 hka hN hBT hCL hNU
 subst hk
 go_enter Tryz.func111,Tryz.ntmps111
 go_upto_region 1 with fail
 obtain⟨nb,hnb⟩:∃nb,w.heap.size=nb:=⟨_,rfl⟩
 obtain⟨vb,hvb⟩:∃vb,w.heap.size+1=vb:=⟨_,rfl⟩
 rw[hvb]at hG2 ⊢
 rw[hnb]at hG1 ⊢
 generalize(w.alloc (.cells #[.int .i64 11,.int .i64 TG,.int .i64 MD,.slice ka KL kc] 58)).alloc (.cells #[.int .i64 VK,.string VT,.int .i64 VA,.int .i64 VD] 60)=w1 at hB1 hG1 hG2 c3 ⊢
 have hneN:nb≠R:=by omega
 have HB1:=hide hB1
 have HG1:=hide hG1
 have HI1:=hide (HI.out.below hB1)
 have v1:w1.cell? ⟨vb,1,none⟩=some (.string VT):=cell_of_row hG2 rfl
 have v3:w1.cell? ⟨vb,3,none⟩=some (.int .i64 VD):=cell_of_row hG2 rfl
 have k0:w1.cell? ⟨nb,0,none⟩=some (.int .i64 11):=cell_of_row hG1 rfl
 have k1:w1.cell? ⟨nb,1,none⟩=some (.int .i64 TG):=cell_of_row hG1 rfl
 have k2:w1.cell? ⟨nb,2,none⟩=some (.int .i64 MD):=cell_of_row hG1 rfl
 have k3:w1.cell? ⟨nb,3,none⟩=some (.slice ka KL kc):=cell_of_row hG1 rfl
 have hR1:R<w1.heap.size:=lt_of_cell c3
 have hlv:=row_lt hG2
 have hln:=row_lt hG1
 clear hB1 hG1 hG2 hnb hvb
 go_wp2_with fail
 refine(HCA.out _ HI1.out).mono ?_
 rintro e w2 ⟨hF2,⟨b2,x2,u2,t2,l2,o2,hq,rfl,hT2,hE2⟩|⟨hq,p,x2,t2,l2,ov,rfl,hE2⟩⟩
 ·have HF2:=hide hF2
  have HT2:=hide hT2
  have HE2:=hide hE2
  have HXX:Hid (r=some (elB CL BT NU b2,x2,u2)):=HX.out.2 b2 x2 u2 hq
  clear hF2 hT2 hE2 hq HX k0 k1 k2 k3 v1 v3 c3 hln
  have HX:=HXX
  have kn:=HF2.out _ _ _ hneN (by decide) HG1.out
  have q0:w2.cell? ⟨nb,0,none⟩=some (.int .i64 11):=cell_of_row kn rfl
  have q1:w2.cell? ⟨nb,1,none⟩=some (.int .i64 TG):=cell_of_row kn rfl
  have q2:w2.cell? ⟨nb,2,none⟩=some (.int .i64 MD):=cell_of_row kn rfl
  have q3:w2.cell? ⟨nb,3,none⟩=some (.slice ka KL kc):=cell_of_row kn rfl
  have hlq:=row_lt kn
  clear kn
  go_wp2_with fail
  refine(HOW.out _ HE2.out.bel).mono ?_
  rintro e w8 ⟨rfl,hb8⟩
  have HB8:=hide hb8
  clear hb8
  go_wp2_with fail
  refine(HWR.out _ _ _ _ _ (HE2.out.below HB8.out) HT2.out.le HT2.out.mx).mono ?_
  rintro e w9 ⟨rfl,hF9,t9,l9,hi9,hE9⟩
  have HF9:=hide hF9
  have HI9:=hide hi9
  have HE9:=hide hE9
  clear hF9 hi9 hE9
  go_wp2
  go_ret
  exact⟨(FrE.of_below HB1.out).trans (HF2.out.trans ((FrE.of_below HB8.out).trans HF9.out.fr)),.inl ⟨_,_,_,t9,l9,_,HX.out,rfl,HT2.out.wrap HI9.out,HE9.out⟩⟩
 ·have HF2:Hid (FrE R w w2):=(FrE.of_below HB1.out).trans hF2
  have HE2:=hide hE2
  have HXX:Hid (r=none):=HX.out.1 hq
  clear hF2 hE2 hq
  unfold fault
  go_wp2
  go_ret
  exact⟨HF2.out,.inr ⟨HXX.out,p,x2,t2,l2,ov,rfl,HE2.out⟩⟩
theorem own12_e(E:WEnv)(W:World)(R:Nat)(a:Option Addr)(c:Nat)(ta:Option Addr)(tc f:Nat)(sn:Sn→Addr)(hc:EC E W a ta sn)(htc:E.t.length≤tc)(hN:NodeE E W R a c ta tc sn f)(hf1:1≤f)(i:Nat)(hi:i<E.s.length)(ka:Option Addr)(kc:Nat)(hka:KidsIn W ka (nd E.s i).kids)(hkc:(nd E.s i).kids.length≤kc)(hkm:kc≤maxLen)
 (x:Nat)(dp:Int)(r:WOut)(t0:ByteArray)(l0:Bool)(o0:Option Int)(w:World)(hfit:FitP (nd E.s i) (vl E.t x))(e:wbareF E (wrF E f) f (nd E.s i) (wcl (nd E.s i)) (wnu (nd E.s i)) (vl E.t x) (x+1) dp=some r)(hx:x<E.t.length)(hfx:E.t.length+1≤f+(x+1))(hd1:1≤dp)(hd2:dp≤12)(h4:t0.size≤4000)(hI:EwD W w R a E.s.length c ta E.t.length tc (x+1) t0 l0 (ovV sn o0))(hk:(nd E.s i).kind=12):
 Calls Tryz.prog 111 #[.pointer (some ⟨R,0,none⟩),.agg #[.int .i64 (nd E.s i).kind,.int .i64 (nd E.s i).tag,.int .i64 (nd E.s i).mode,.slice ka (nd E.s i).kids.length kc],.agg #[.int .i64 (vl E.t x).kind,.string (vl E.t x).text,.int .i64 (vl E.t x).alt,.int .i64 (vl E.t x).kids],.int .i64 dp] w fun e w'=>AfterE E W R a c ta tc sn r t0 l0 o0 w e w':=by
 have HC:=hide hc
 have HI:=hide hI
 have htx:=hc.txt hx
 have hwnb:=wnu_bd hc.wc.right hi
 have hcn:=wnu_own (n:=nd E.s i) (by omega)
 obtain⟨hk1,hk14,hT1,hT2,hT3,hT4,hT5⟩:=tagged_of hc.wc.right hi
 have hnums:=hc.lay.n
 obtain⟨bs,cp,hform⟩:∃bs cp,∃tvx,tvx=Value.slice bs t0.size cp∧w.heap[R]? =some (ewObj a E.s.length c ta E.t.length tc (x+1) tvx l0 (ovV sn o0)):=by
  obtain⟨tv,h1,h2⟩:=hI.own
  obtain⟨bs,cp,rfl,_⟩:=own8 h2
  exact⟨bs,cp,_,rfl,h1⟩
 obtain⟨_,rfl,hown⟩:=hform
 have hRl:R<w.heap.size:=row_lt hown
 obtain⟨r1,hr1,HX⟩:∃r1,wmanyF E (wrF E f) (decide ((nd E.s i).kind=12)) (kd (nd E.s i) 0).node.toNat (dp+1) f (vl E.t x).kids (x+1) noB noB false=some r1∧Hid ((r1=none→r=none)∧∀b x' u,r1=some (b,x',u)→r=some (elB (wcl (nd E.s i)) true (wnu (nd E.s i)) b,x',u)):=by
  have h:=e
  unfold wbareF at h
  rw[if_neg (by omega),if_neg (by omega),if_neg (by omega),if_pos (by omega),if_pos ((fit12 (.inr hk) hfit.1).1 hfit)]at h
  rcases wandThen_cases h with⟨h1,h2⟩|⟨b,x',u,h1,h2⟩
  ·exact⟨none,h1,fun _=>h2,fun _ _ _ q=>by cases q⟩
  ·refine⟨_,h1,fun q=>(by cases q),fun b' x'' u' q=>?_⟩
   injection q with q
   injection q with e1 q
   injection q with e2 e3
   subst e1 e2 e3
   injection h2 with h2
   exact h2.symm
 obtain⟨CL,hCL⟩:∃CL,wcl (nd E.s i)=CL:=⟨_,rfl⟩
 obtain⟨NU,hNU⟩:∃NU,wnu (nd E.s i)=NU:=⟨_,rfl⟩
 rw[hCL,hNU]at hcn hwnb HX
 obtain⟨K,hK⟩:∃K,(nd E.s i).kind=K:=⟨_,rfl⟩
 rw[hK]at hk ⊢
 obtain⟨BT,hBT⟩:∃BT:Bool,BT=true:=⟨_,rfl⟩
 rw[←hBT]at HX
 have hvd:=((fit12 (.inr (hK▸hk)) hfit.1).1 hfit).2.2
 have HCA:Hid (∀wq,EwD W wq R a E.s.length c ta E.t.length tc (x+1) t0 l0 (ovV sn o0)→Calls Tryz.prog 151 #[.pointer (some ⟨R,0,none⟩),.agg #[.int .i64 K,.int .i64 (nd E.s i).tag,.int .i64 (nd E.s i).mode,.slice ka (nd E.s i).kids.length kc],.int .i64 (vl E.t x).kids,.int .i64 dp] wq fun e w'=>AfterE E W R a c ta tc sn r1 t0 l0 o0 wq e w'):=fun wq q=>by
  rw[←hK]
  exact elist_any E W R a c ta tc f sn hc htc hN hf1 i hi (hc.wc.right.fine.one i hi (.inr (hK▸hk))) ka kc hka hkc hkm (x+1) f (vl E.t x).kids dp r1 t0 l0 o0 wq hr1 hvd (hc.wc.kids x hx) hx hfx hd1 hd2 h4 q
 generalize hTG:(nd E.s i).tag=TG at HCA ⊢
 generalize hMD:(nd E.s i).mode=MD at HCA ⊢
 generalize hKL:(nd E.s i).kids.length=KL at HCA ⊢
 generalize hVK:(vl E.t x).kind=VK
 generalize hVT:(vl E.t x).text=VT
 generalize hVA:(vl E.t x).alt=VA
 generalize hVD:(vl E.t x).kids=VD at HCA ⊢
 have HOW:Hid (∀wq,Below W.heap.size W wq→Calls Tryz.prog 152 #[.agg #[.int .i64 K,.int .i64 TG,.int .i64 MD,.slice ka KL kc]] wq fun e w'=>e= .returned (.agg #[.int .i64 CL,.int .i64 NU,.bool BT])∧Below wq.heap.size wq w'):=fun wq q=>by
  have:=own_all (nd E.s i) ka kc wq (HC.out.lay.below q).n (by omega) (by omega) (by omega)
  unfold fv at this
  rw[←hcn,hTG,hMD,hKL]at this
  rw[hK,decide_eq_true (by omega),←hBT]at this
  exact this
 have HWR:Hid (∀wq t1 l1 o1 x1,EwD W wq R a E.s.length c ta E.t.length tc x1 t1 l1 (ovV sn o1)→t0.size≤t1.size→t1.size≤4000→Calls Tryz.prog 113 #[.pointer (some ⟨R,0,none⟩),.int .i64 t0.size,.agg #[.int .i64 CL,.int .i64 NU,.bool BT]] wq fun e w'=>AfterI W R a E.s.length c ta E.t.length tc x1 t1 l1 (ovV sn o1) t0.size (hdB CL BT NU (t1.size-t0.size)) wq e w'):=fun wq t1 l1 o1 x1 q h1 h2=>wrap_any W wq R a E.s.length c ta E.t.length tc x1 t1 l1 (ovV sn o1) sn HC.out.lay t0.size CL NU BT hwnb.1 hwnb.2.1 hwnb.2.2.1 hwnb.2.2.2 h1 h2 q
 have hB1:Below w.heap.size w ((w.alloc (.cells #[.int .i64 K,.int .i64 TG,.int .i64 MD,.slice ka KL kc] 58)).alloc (.cells #[.int .i64 VK,.string VT,.int .i64 VA,.int .i64 VD] 60)):=((Below.refl w.heap.size w).alloc (Nat.le_refl _) _).alloc (by simp) _
 have hG1:((w.alloc (.cells #[.int .i64 K,.int .i64 TG,.int .i64 MD,.slice ka KL kc] 58)).alloc (.cells #[.int .i64 VK,.string VT,.int .i64 VA,.int .i64 VD] 60)).heap[w.heap.size]? =some (.cells #[.int .i64 K,.int .i64 TG,.int .i64 MD,.slice ka KL kc] 58 (0,0)):=block_below (heap_alloc_new w _) ((Below.refl _ _).alloc (Nat.le_refl _) _)
 have hG2:((w.alloc (.cells #[.int .i64 K,.int .i64 TG,.int .i64 MD,.slice ka KL kc] 58)).alloc (.cells #[.int .i64 VK,.string VT,.int .i64 VA,.int .i64 VD] 60)).heap[w.heap.size+1]? =some (.cells #[.int .i64 VK,.string VT,.int .i64 VA,.int .i64 VD] 60 (0,0)):=by simpa using heap_alloc_new (w.alloc (.cells #[.int .i64 K,.int .i64 TG,.int .i64 MD,.slice ka KL kc] 58)) (.cells #[.int .i64 VK,.string VT,.int .i64 VA,.int .i64 VD] 60)
 have hg3:=block_below hown hB1
 unfold ewObj at hg3
 have c3:((w.alloc (.cells #[.int .i64 K,.int .i64 TG,.int .i64 MD,.slice ka KL kc] 58)).alloc (.cells #[.int .i64 VK,.string VT,.int .i64 VA,.int .i64 VD] 60)).cell? ⟨R,3,none⟩=some (.slice bs t0.size cp):=by simp[World.cell?,hg3]
 clear hown hg3
 clear hc hI e hfit hcn hwnb hT1 hT2 hT3 hT4 hT5 hnums hTG hMD hKL hVK hVT hVA hVD hvd hK hk1 hk14 hka hN hBT hCL hNU
 subst hk
 go_enter Tryz.func111,Tryz.ntmps111
 go_upto_region 1 with fail
 obtain⟨nb,hnb⟩:∃nb,w.heap.size=nb:=⟨_,rfl⟩
 obtain⟨vb,hvb⟩:∃vb,w.heap.size+1=vb:=⟨_,rfl⟩
 rw[hvb]at hG2 ⊢
 rw[hnb]at hG1 ⊢
 generalize(w.alloc (.cells #[.int .i64 12,.int .i64 TG,.int .i64 MD,.slice ka KL kc] 58)).alloc (.cells #[.int .i64 VK,.string VT,.int .i64 VA,.int .i64 VD] 60)=w1 at hB1 hG1 hG2 c3 ⊢
 have hneN:nb≠R:=by omega
 have HB1:=hide hB1
 have HG1:=hide hG1
 have HI1:=hide (HI.out.below hB1)
 have v1:w1.cell? ⟨vb,1,none⟩=some (.string VT):=cell_of_row hG2 rfl
 have v3:w1.cell? ⟨vb,3,none⟩=some (.int .i64 VD):=cell_of_row hG2 rfl
 have k0:w1.cell? ⟨nb,0,none⟩=some (.int .i64 12):=cell_of_row hG1 rfl
 have k1:w1.cell? ⟨nb,1,none⟩=some (.int .i64 TG):=cell_of_row hG1 rfl
 have k2:w1.cell? ⟨nb,2,none⟩=some (.int .i64 MD):=cell_of_row hG1 rfl
 have k3:w1.cell? ⟨nb,3,none⟩=some (.slice ka KL kc):=cell_of_row hG1 rfl
 have hR1:R<w1.heap.size:=lt_of_cell c3
 have hlv:=row_lt hG2
 have hln:=row_lt hG1
 clear hB1 hG1 hG2 hnb hvb
 go_wp2_with fail
 refine(HCA.out _ HI1.out).mono ?_
 rintro e w2 ⟨hF2,⟨b2,x2,u2,t2,l2,o2,hq,rfl,hT2,hE2⟩|⟨hq,p,x2,t2,l2,ov,rfl,hE2⟩⟩
 ·have HF2:=hide hF2
  have HT2:=hide hT2
  have HE2:=hide hE2
  have HXX:Hid (r=some (elB CL BT NU b2,x2,u2)):=HX.out.2 b2 x2 u2 hq
  clear hF2 hT2 hE2 hq HX k0 k1 k2 k3 v1 v3 c3 hln
  have HX:=HXX
  have kn:=HF2.out _ _ _ hneN (by decide) HG1.out
  have q0:w2.cell? ⟨nb,0,none⟩=some (.int .i64 12):=cell_of_row kn rfl
  have q1:w2.cell? ⟨nb,1,none⟩=some (.int .i64 TG):=cell_of_row kn rfl
  have q2:w2.cell? ⟨nb,2,none⟩=some (.int .i64 MD):=cell_of_row kn rfl
  have q3:w2.cell? ⟨nb,3,none⟩=some (.slice ka KL kc):=cell_of_row kn rfl
  have hlq:=row_lt kn
  clear kn
  go_wp2_with fail
  refine(HOW.out _ HE2.out.bel).mono ?_
  rintro e w8 ⟨rfl,hb8⟩
  have HB8:=hide hb8
  clear hb8
  go_wp2_with fail
  refine(HWR.out _ _ _ _ _ (HE2.out.below HB8.out) HT2.out.le HT2.out.mx).mono ?_
  rintro e w9 ⟨rfl,hF9,t9,l9,hi9,hE9⟩
  have HF9:=hide hF9
  have HI9:=hide hi9
  have HE9:=hide hE9
  clear hF9 hi9 hE9
  go_wp2
  go_ret
  exact⟨(FrE.of_below HB1.out).trans (HF2.out.trans ((FrE.of_below HB8.out).trans HF9.out.fr)),.inl ⟨_,_,_,t9,l9,_,HX.out,rfl,HT2.out.wrap HI9.out,HE9.out⟩⟩
 ·have HF2:Hid (FrE R w w2):=(FrE.of_below HB1.out).trans hF2
  have HE2:=hide hE2
  have HXX:Hid (r=none):=HX.out.1 hq
  clear hF2 hE2 hq
  unfold fault
  go_wp2
  go_ret
  exact⟨HF2.out,.inr ⟨HXX.out,p,x2,t2,l2,ov,rfl,HE2.out⟩⟩
theorem own_e(E:WEnv)(W:World)(R:Nat)(a:Option Addr)(c:Nat)(ta:Option Addr)(tc f:Nat)(sn:Sn→Addr)(hc:EC E W a ta sn)(htc:E.t.length≤tc)(hN:NodeE E W R a c ta tc sn f)(hf1:1≤f)(i:Nat)(hi:i<E.s.length)(ka:Option Addr)(kc:Nat)(hka:KidsIn W ka (nd E.s i).kids)(hkc:(nd E.s i).kids.length≤kc)(hkm:kc≤maxLen)
 (x:Nat)(dp:Int)(r:WOut)(t0:ByteArray)(l0:Bool)(o0:Option Int)(w:World)(hfit:FitP (nd E.s i) (vl E.t x))(e:wbareF E (wrF E f) f (nd E.s i) (wcl (nd E.s i)) (wnu (nd E.s i)) (vl E.t x) (x+1) dp=some r)(hx:x<E.t.length)(hfx:E.t.length+1≤f+(x+1))(hd1:1≤dp)(hd2:dp≤12)(h4:t0.size≤4000)(hI:EwD W w R a E.s.length c ta E.t.length tc (x+1) t0 l0 (ovV sn o0))(hk:(nd E.s i).kind≠13):
 Calls Tryz.prog 111 #[.pointer (some ⟨R,0,none⟩),.agg #[.int .i64 (nd E.s i).kind,.int .i64 (nd E.s i).tag,.int .i64 (nd E.s i).mode,.slice ka (nd E.s i).kids.length kc],.agg #[.int .i64 (vl E.t x).kind,.string (vl E.t x).text,.int .i64 (vl E.t x).alt,.int .i64 (vl E.t x).kids],.int .i64 dp] w fun e w'=>AfterE E W R a c ta tc sn r t0 l0 o0 w e w':=by
 obtain⟨hk1,hk14,_⟩:=tagged_of hc.wc.right hi
 by_cases h14:(nd E.s i).kind=14
 ·exact own14_e E W R a c ta tc f sn hc htc hN hf1 i hi ka kc hka hkc hkm x dp r t0 l0 o0 w hfit e hx hfx hd1 hd2 h4 hI h14
 by_cases h10:(nd E.s i).kind=10
 ·exact own10_e E W R a c ta tc f sn hc htc hN hf1 i hi ka kc hka hkc hkm x dp r t0 l0 o0 w hfit e hx hfx hd1 hd2 h4 hI h10
 by_cases h11:(nd E.s i).kind=11
 ·exact own11_e E W R a c ta tc f sn hc htc hN hf1 i hi ka kc hka hkc hkm x dp r t0 l0 o0 w hfit e hx hfx hd1 hd2 h4 hI h11
 by_cases h12:(nd E.s i).kind=12
 ·exact own12_e E W R a c ta tc f sn hc htc hN hf1 i hi ka kc hka hkc hkm x dp r t0 l0 o0 w hfit e hx hfx hd1 hd2 h4 hI h12
 ·exact own9_e E W R a c ta tc f sn hc htc hN hf1 i hi ka kc hka hkc hkm x dp r t0 l0 o0 w hfit e hx hfx hd1 hd2 h4 hI (by omega)
end Go.Proofs.YtkkicodfpekbgaaGreatDoor
namespace Go.Proofs.YtkkicodfpekbgaaGreatDoor
open Go.RowKit Go.Shelf
set_option linter.unusedSimpArgs false
set_option linter.unusedVariables false
set_option maxRecDepth 100000
set_option maxHeartbeats 8000000
attribute [local go_sem] Oper.semAt_some
theorem EwD.grown{W w:World}{R:Nat}{a:Option Addr}{n c:Nat}{ta:Option Addr}{tn tc x:Nat}{told:ByteArray}{lg:Bool}{ov:Value}(h:EwD W w R a n c ta tn tc x told lg ov){w':World}{row:Option Nat}(hg:w.grownBy w' row)
 (hr:∀g,row=some g→W.heap.size≤g∧g≠R∧∀A,w.heap[g]? ≠some (.cells A 5 (0,0))):EwD W w' R a n c ta tn tc x told lg ov:=by
 obtain⟨tv,h1,h2⟩:=h.own
 refine⟨h.bel.grown hg h.bel.size (fun k e=>(hr k e).1),h.lo,tv,?_,h2.kept hg ?_⟩
 ·rw[hg.block R (row_lt h1) (fun e=>(hr R e.symm).2.1 rfl)];exact h1
 ·rcases h2.2 with⟨rfl,_⟩|⟨g,_,cur,rfl,_,hgg,_⟩
  ·exact .inl rfl
  ·exact .inr fun q=>(hr g q.symm).2.2 cur hgg
theorem own_frE{R:Nat}{w w':World}{B:Nat}{T:TypeId}{s:Nat}{v:Value}{n:Nat}{xs:List Value}(h:w.ownsRow B T s v n xs)(hf:FrE R w w')(hT:T≠5)(hR:R<B):w'.ownsRow B T s v n xs:=by
 refine⟨h.1,?_⟩
 rcases h.2 with hn|⟨g,cap,cur,rfl,hb,hg,rest⟩
 ·exact .inl hn
 ·exact .inr ⟨g,cap,cur,rfl,hb,hf g cur T (by omega) hT hg,rest⟩
theorem own_formF{w:World}{B:Nat}{v:Value}{n:Nat}{xs:List Value}(h:w.ownsRow B 149 3 v n xs):∃bs cp,v= .slice bs n cp:=by
 rcases h.2 with⟨rfl,h0⟩|⟨g,cp,cur,rfl,_⟩
 ·exact⟨none,0,by rw[h0]⟩
 ·exact⟨_,_,rfl⟩
theorem frX_keeps{R:Nat}{w w':World}(h:FrX R w w'){A:Array Value}{T:TypeId}{z:Nat×Nat}(hR:w.heap[R]? =some (.cells A T z))(B:Nat):KeepsFrom B w w':=
 ⟨h.size,fun k o _ hk ho=>by
   by_cases hkR:k=R
   ·subst hkR
    rw[hR]at hk
    injection hk with hk
    subst hk
    cases ho
   ·exact h.stay k o hkR (fun A q=>by rw[q]at ho;cases ho) hk⟩
theorem Tryz.infoFirst:(Tryz.prog.info? 149).map (fun i=>(i.zero,i.size,i.bytes))=some (some (.agg #[.int .i64 0,.int .i64 0,.bool false]),3,24):=by kernel_rfl
theorem fold2(T:Array Value)(p q:Tmp)(u v:Value):Array.foldl (fun t (x:Tmp×Value)=>match x with|(p,v)=>t.setIfInBounds p v) T (#[p,q].zip #[u,v])=(T.setIfInBounds p u).setIfInBounds q v:=by simp
def ValAt(E:WEnv)(W:World)(R:Nat)(a:Option Addr)(c:Nat)(ta:Option Addr)(tc:Nat)(sn:Sn→Addr)(F:Nat)(dp:Int)(r:WOut)(t0:ByteArray)(l0:Bool)(o0:Option Int)(w1:World)(gk:Nat)(vi va:Value)(wr:World):Prop:=
 ∃(i x:Nat) (r':WOut) (lc:Bool) (ars:List TagI),vi= .int .i64 i∧i<E.s.length∧gk≤F∧wrF E gk i x dp=some r'∧E.t.length+1≤gk+x∧1≤gk∧x≤E.t.length∧wr.ownsRow w1.heap.size 149 3 va ars.length (acells ars)∧
  EwD W wr R a E.s.length c ta E.t.length tc x t0 lc (ovV sn o0)∧FrE R w1 wr∧Chain l0 lc ars r r'
set_option maxHeartbeats 16000000 in
theorem evalue_step(E:WEnv)(W:World)(R:Nat)(a:Option Addr)(c:Nat)(ta:Option Addr)(tc:Nat)(sn:Sn→Addr)(hc:EC E W a ta sn)(htc:E.t.length≤tc)(F:Nat)(hN:∀g,g<F→NodeE E W R a c ta tc sn g):NodeE E W R a c ta tc sn F:=by
 intro i x dp r t0 l0 o0 w e hi hx hfx hf1 hd1 hd2 h4 hI
 have HC:=hide hc
 have HNN:=hide hN
 have HI:=hide hI
 have HTC:=hide htc
 have hlen:=hc.len
 have HLEN:=hide hlen
 obtain⟨bs,cp,hform⟩:∃bs cp,∃tvx,tvx=Value.slice bs t0.size cp∧w.heap[R]? =some (ewObj a E.s.length c ta E.t.length tc x tvx l0 (ovV sn o0)):=by
  obtain⟨tv,h1,h2⟩:=hI.own
  obtain⟨bs,cp,rfl,_⟩:=own8 h2
  exact⟨bs,cp,_,rfl,h1⟩
 obtain⟨_,rfl,hown⟩:=hform
 have hRl:R<w.heap.size:=row_lt hown
 have HE:=hide e
 have HDP:=hide (And.intro hd1 hd2)
 have hB1:Below w.heap.size w ((w.alloc (.cells #[.pointer (some ⟨R,0,none⟩)] 138)).alloc (.cells #[.int .i64 t0.size] 3)):=((Below.refl w.heap.size w).alloc (Nat.le_refl _) _).alloc (by simp) _
 have hG1:((w.alloc (.cells #[.pointer (some ⟨R,0,none⟩)] 138)).alloc (.cells #[.int .i64 t0.size] 3)).heap[w.heap.size]? =some (.cells #[.pointer (some ⟨R,0,none⟩)] 138 (0,0)):=block_below (heap_alloc_new w _) ((Below.refl _ _).alloc (Nat.le_refl _) _)
 have hG2:((w.alloc (.cells #[.pointer (some ⟨R,0,none⟩)] 138)).alloc (.cells #[.int .i64 t0.size] 3)).heap[w.heap.size+1]? =some (.cells #[.int .i64 t0.size] 3 (0,0)):=by
  simpa using heap_alloc_new (w.alloc (.cells #[.pointer (some ⟨R,0,none⟩)] 138)) (.cells #[.int .i64 t0.size] 3)
 have hg3:=block_below hown ((Below.refl w.heap.size w).alloc (Nat.le_refl _) (.cells #[.pointer (some ⟨R,0,none⟩)] 138))
 unfold ewObj at hg3
 have c3:(w.alloc (.cells #[.pointer (some ⟨R,0,none⟩)] 138)).cell? ⟨R,3,none⟩=some (.slice bs t0.size cp):=by simp[World.cell?,hg3]
 have hsz1:((w.alloc (.cells #[.pointer (some ⟨R,0,none⟩)] 138)).alloc (.cells #[.int .i64 t0.size] 3)).heap.size=w.heap.size+1+1:=by simp
 clear hc hN hI htc e hown hd1 hd2 hg3
 refine(callsIn_wide (n:=3)).1 (callsIn_of_wp_marks Tryz.func75 rfl trivial ?_ rfl)
 refine wpIn_wide.2 ?_
 simp only[Tryz.ntmps75,List.size_toArray,List.length_cons,List.length_nil,Nat.reduceAdd,Nat.reduceSub,Array.replicate_succ,Array.replicate_zero,List.push_toArray,List.append_toArray,List.nil_append,List.cons_append]
 go_upto_region 2 with fail
 obtain⟨wb,hwb⟩:∃wb,w.heap.size=wb:=⟨_,rfl⟩
 obtain⟨sb,hsb⟩:∃sb,w.heap.size+1=sb:=⟨_,rfl⟩
 rw[hsb]at hG2 hsz1 ⊢
 rw[hwb]at hG1 ⊢
 generalize(w.alloc (.cells #[.pointer (some ⟨R,0,none⟩)] 138)).alloc (.cells #[.int .i64 t0.size] 3)=w1 at hB1 hG1 hG2 hsz1 ⊢
 have hneW:wb≠R:=by omega
 have hneS:sb≠R:=by omega
 have HB1:=hide hB1
 have HG1:=hide hG1
 have HG2:=hide hG2
 have HI1:=hide (HI.out.below hB1)
 have hR1:R<w1.heap.size:=by have:=hB1.size;omega
 have hW1:W.heap.size≤w1.heap.size:=HI1.out.bel.size
 have HSZ:Hid (∀wq,FrE R w1 wq→w1.heap.size≤wq.heap.size):=fun wq q=>by have:=row_lt (q _ _ _ hneS (by decide) HG2.out);omega
 clear hB1 hG1 hG2 hwb hsb c3 hRl hsz1
 go_wp2_with fail
 go_loopg [1,8] F (fun gk vi va wr=>ValAt E W R a c ta tc sn F dp r t0 l0 o0 w1 gk vi va wr)
 case atStart=>exact⟨i,x,r,l0,[],rfl,hi,Nat.le_refl _,HE.out,hfx,hf1,hx,World.ownsRow_nil _ _ _ _,HI1.out,fun _ _ _ _ _ h=>h,Chain.start l0 r⟩
 case round=>
  clear hi hfx hf1 hx HE HI HI1
  obtain⟨i,x,r',lc,ars,rfl,hi,hgF,hE,hfx,hf1,hx,hown,hEw,hFr,hCh⟩:=hrel
  obtain⟨G,rfl⟩:∃G,gk=G+1:=⟨gk-1,by omega⟩
  obtain⟨bsO,cpO,rfl⟩:=own_formF hown
  have HEW:=hide hEw
  have HOW:=hide hown
  have HFR:=hide hFr
  have HCH:=hide hCh
  have HEE:=hide hE
  have HHI:=hide hi
  obtain⟨b,o,ka,kc,hab,ncl,hkc,hkm,hka⟩:=HC.out.wc.sch i hi
  have hk8:=count8 HC.out.wc.right.2.2.1 hi
  obtain⟨hk1,hk14,hT1,hT2,hT3,hT4,hT5⟩:=tagged_of HC.out.wc.right hi
  obtain⟨N,hN⟩:∃N,nd E.s i=N:=⟨_,rfl⟩
  have HN:=hide hN
  rw[hN]at ncl hkc hka hk8 hk1 hk14 hT1 hT2 hT3 hT4 hT5
  have HKA:=hide hka
  have HKM:=hide hkm
  obtain⟨n0,n1,n2,n3⟩:=ncl
  have hbW:=HEW.out.bel
  have m0:wr.cell? ⟨b,o+i*4,none⟩=some (.int .i64 N.kind):=(hbW.cell (lt_of_cell n0)).trans n0
  have m1:wr.cell? ⟨b,o+i*4+1,none⟩=some (.int .i64 N.tag):=(hbW.cell (lt_of_cell n1)).trans n1
  have m2:wr.cell? ⟨b,o+i*4+2,none⟩=some (.int .i64 N.mode):=(hbW.cell (lt_of_cell n2)).trans n2
  have m3:wr.cell? ⟨b,o+i*4+3,none⟩=some (.slice ka N.kids.length kc):=(hbW.cell (lt_of_cell n3)).trans n3
  have hlb:=lt_of_cell m0
  simp only at hlb
  have hgw:=HFR.out _ _ _ hneW (by decide) HG1.out
  have p0:wr.cell? ⟨wb,0,none⟩=some (.pointer (some ⟨R,0,none⟩)):=cell_of_row hgw rfl
  have hlw:=row_lt hgw
  obtain⟨tv,hrow,_⟩:=HEW.out.own
  unfold ewObj at hrow
  have r0:wr.cell? ⟨R,0,none⟩=some (.slice (some ⟨b,o,none⟩) E.s.length c):=by rw[←hab];simp[World.cell?,hrow]
  have hRr:R<wr.heap.size:=lt_of_cell r0
  have hi':(i:Int)<(E.s.length:Int):=by omega
  have HTK:Hid (∀wq,EwD W wq R a E.s.length c ta E.t.length tc x t0 lc (ovV sn o0)→Calls Tryz.prog 109 #[.pointer (some ⟨R,0,none⟩),.agg #[.int .i64 N.kind,.int .i64 N.tag,.int .i64 N.mode,.slice ka N.kids.length kc],.int .i64 dp] wq fun e w'=>RetTk W R a E.s.length c ta E.t tc x t0 lc (ovV sn o0) sn N dp wq e w'):=fun wq q=>
   take_any W wq R a E.s.length c ta E.t tc x t0 lc (ovV sn o0) sn N ka kc dp HC.out.lay hk8 HLEN.out HTC.out hx (fun j hj=>⟨by have:=HC.out.txt hj;omega,HC.out.wc.tree j hj⟩) q
  have hB2:Below wr.heap.size wr (wr.alloc (.cells #[.int .i64 N.kind,.int .i64 N.tag,.int .i64 N.mode,.slice ka N.kids.length kc] 58)):=(Below.refl _ _).alloc (Nat.le_refl _) _
  have hGN:(wr.alloc (.cells #[.int .i64 N.kind,.int .i64 N.tag,.int .i64 N.mode,.slice ka N.kids.length kc] 58)).heap[wr.heap.size]? =some (.cells #[.int .i64 N.kind,.int .i64 N.tag,.int .i64 N.mode,.slice ka N.kids.length kc] 58 (0,0)):=heap_alloc_new wr _
  have HB2:=hide hB2
  have HGN:=hide hGN
  have hneN:wr.heap.size≠R:=by omega
  clear hEw hown hFr hCh hE hi hN hka hkm n0 n1 n2 n3 hbW hgw hrow hab hB2 hGN
  go_upto_region 4 with fail
  obtain⟨nb,hnb⟩:∃nb,wr.heap.size=nb:=⟨_,rfl⟩
  rw[hnb]at HGN hneN ⊢
  have HEW2:=hide (HEW.out.below HB2.out)
  have HOW2:=hide (own_below HOW.out HB2.out)
  have HFR2:Hid (FrE R w1 (wr.alloc (.cells #[.int .i64 N.kind,.int .i64 N.tag,.int .i64 N.mode,.slice ka N.kids.length kc] 58))):=HFR.out.trans (FrE.of_below HB2.out)
  have hs2:=HB2.out.size
  generalize wr.alloc (.cells #[.int .i64 N.kind,.int .i64 N.tag,.int .i64 N.mode,.slice ka N.kids.length kc] 58)=w2 at HGN HEW2 HOW2 HFR2 HB2 hs2 ⊢
  have hgw:=HFR2.out _ _ _ hneW (by decide) HG1.out
  have p0':w2.cell? ⟨wb,0,none⟩=some (.pointer (some ⟨R,0,none⟩)):=cell_of_row hgw rfl
  have k0:w2.cell? ⟨nb,0,none⟩=some (.int .i64 N.kind):=cell_of_row HGN.out rfl
  have k1:w2.cell? ⟨nb,1,none⟩=some (.int .i64 N.tag):=cell_of_row HGN.out rfl
  have k2:w2.cell? ⟨nb,2,none⟩=some (.int .i64 N.mode):=cell_of_row HGN.out rfl
  have k3:w2.cell? ⟨nb,3,none⟩=some (.slice ka N.kids.length kc):=cell_of_row HGN.out rfl
  have hlw2:=row_lt hgw
  have hln2:=row_lt HGN.out
  clear m0 m1 m2 m3 hlb p0 hlw r0 hRr hgw hnb HEW HOW HFR HB2 hs2
  go_wp2_with fail
  refine(HTK.out _ HEW2.out).mono ?_
  rintro e w3 ⟨hF3,⟨hxl,hdl,hfit,rfl,hE3⟩|⟨hno,rfl,hE3⟩⟩
  ·obtain⟨r'',hb'',hr''⟩:=outR_of (by rw[←wrF_yes hxl hdl (by rw[HN.out];exact hfit)];exact HEE.out)
   rw[HN.out]at hr''
   have HBF:=hide hb''
   have HFIT:Hid (FitP N (vl E.t x)):=hfit
   have HDL:=hide hdl
   have HE3:=hide hE3
   have HF3:=hide hF3
   have hCh:=HCH.out
   rw[hr'']at hCh
   have HCH3:Hid (Chain l0 lc ars r (outR N r'')):=hCh
   have HOW3:=hide (own_frE HOW2.out hF3 (by decide) hR1)
   obtain⟨v,hv⟩:∃v,vl E.t x=v:=⟨_,rfl⟩
   have HV:=hide hv
   have hg3:=hF3 _ _ _ hneN (by decide) HGN.out
   have HGN3:=hide hg3
   have hgw:=HFR2.out.trans hF3 _ _ _ hneW (by decide) HG1.out
   have HFR3:Hid (FrE R w1 w3):=HFR2.out.trans hF3
   rw[hv]
   clear hxl hdl hfit hE3 hF3 hb'' hr'' hCh hg3 hgw hv p0' k0 k1 k2 k3 hlw2 hln2 HOW2 HFR2 HEW2 HGN HTK HCH HEE
   have hB4:Below w3.heap.size w3 (w3.alloc (.cells #[.int .i64 v.kind,.string v.text,.int .i64 v.alt,.int .i64 v.kids] 60)):=(Below.refl _ _).alloc (Nat.le_refl _) _
   have hGV:(w3.alloc (.cells #[.int .i64 v.kind,.string v.text,.int .i64 v.alt,.int .i64 v.kids] 60)).heap[w3.heap.size]? =some (.cells #[.int .i64 v.kind,.string v.text,.int .i64 v.alt,.int .i64 v.kids] 60 (0,0)):=heap_alloc_new w3 _
   have HB4:=hide hB4
   have hneV:w3.heap.size≠R:=by obtain⟨tv,h1,_⟩:=HE3.out.own;have:=row_lt h1;omega
   go_upto_region 7 with fail
   obtain⟨vb,hvb⟩:∃vb,w3.heap.size=vb:=⟨_,rfl⟩
   rw[hvb]at hGV hneV ⊢
   have HE4:=hide (HE3.out.below HB4.out)
   have HO4:=hide (own_below HOW3.out HB4.out)
   have HF4:Hid (FrE R w1 (w3.alloc (.cells #[.int .i64 v.kind,.string v.text,.int .i64 v.alt,.int .i64 v.kids] 60))):=HFR3.out.trans (FrE.of_below HB4.out)
   have HN4:=hide (block_below HGN3.out HB4.out)
   have HV4:=hide hGV
   generalize w3.alloc (.cells #[.int .i64 v.kind,.string v.text,.int .i64 v.alt,.int .i64 v.kids] 60)=w4 at hGV HE4 HO4 HF4 HN4 HV4 HB4 ⊢
   have k0:w4.cell? ⟨nb,0,none⟩=some (.int .i64 N.kind):=cell_of_row HN4.out rfl
   have k1:w4.cell? ⟨nb,1,none⟩=some (.int .i64 N.tag):=cell_of_row HN4.out rfl
   have k2:w4.cell? ⟨nb,2,none⟩=some (.int .i64 N.mode):=cell_of_row HN4.out rfl
   have k3:w4.cell? ⟨nb,3,none⟩=some (.slice ka N.kids.length kc):=cell_of_row HN4.out rfl
   have hln4:=row_lt HN4.out
   obtain⟨c0,n0,b0,ok,hok1,hok2,HAR⟩:∃(c0 n0:Int) (b0 ok:Bool),(ok=true→N.mode=1∧c0=2∧n0=N.tag∧b0=true)∧(ok=false→¬N.mode=1)∧Hid (∀wq,Below W.heap.size W wq→Calls Tryz.prog 110 #[.agg #[.int .i64 N.kind,.int .i64 N.tag,.int .i64 N.mode,.slice ka N.kids.length kc]] wq fun e w'=>e= .returned (.tuple #[.agg #[.int .i64 c0,.int .i64 n0,.bool b0],.bool ok])∧Below wq.heap.size wq w'):=by
    by_cases hm:N.mode=1
    ·have htg:0≤N.tag:=by
      by_cases q:N.tag<0
      ·have:=hT3 (by omega);omega
      ·omega
     exact⟨2,N.tag,true,true,fun _=>⟨hm,rfl,rfl,rfl⟩,fun q=>(by cases q),fun wq q=>around_yes N ka kc wq hm (HC.out.lay.below q).n htg (by omega)⟩
    ·exact⟨0,0,false,false,fun q=>(by cases q),fun _=>hm,fun wq q=>around_no N ka kc wq hm⟩
   have HOK1:=hide hok1
   have HOK2:=hide hok2
   clear hvb hGV hB4 HE3 HOW3 HFR3 HGN3 HB4 hok1 hok2
   go_wp2_with fail
   refine(HAR.out _ HE4.out.bel).mono ?_
   rintro e w5 ⟨rfl,hb5⟩
   have HB5:=hide hb5
   clear hb5 k0 k1 k2 k3 hln4
   have hB6:Below w4.heap.size w4 (w5.alloc (.cells #[.int .i64 c0,.int .i64 n0,.bool b0] 149)):=HB5.out.alloc HB5.out.size _
   have hGF:(w5.alloc (.cells #[.int .i64 c0,.int .i64 n0,.bool b0] 149)).heap[w5.heap.size]? =some (.cells #[.int .i64 c0,.int .i64 n0,.bool b0] 149 (0,0)):=heap_alloc_new w5 _
   go_upto_region 8 with fail
   obtain⟨fb',hfb⟩:∃fb',w5.heap.size=fb':=⟨_,rfl⟩
   rw[hfb]at hGF ⊢
   have HE6:=hide (HE4.out.below hB6)
   have HO6:=hide (own_below HO4.out hB6)
   have HF6:Hid (FrE R w1 (w5.alloc (.cells #[.int .i64 c0,.int .i64 n0,.bool b0] 149))):=HF4.out.trans (FrE.of_below hB6)
   have HN6:=hide (block_below HN4.out hB6)
   have HV6:=hide (block_below HV4.out hB6)
   have HG6:=hide hGF
   generalize w5.alloc (.cells #[.int .i64 c0,.int .i64 n0,.bool b0] 149)=w6 at hGF HE6 HO6 HF6 HN6 HV6 HG6 hB6 ⊢
   have hgw:=HF6.out _ _ _ hneW (by decide) HG1.out
   have p6:w6.cell? ⟨wb,0,none⟩=some (.pointer (some ⟨R,0,none⟩)):=cell_of_row hgw rfl
   obtain⟨tv6,hrow6,_⟩:=HE6.out.own
   have HR6:=hide hrow6
   unfold ewObj at hrow6
   have r4:w6.cell? ⟨R,4,none⟩=some (.bool lc):=by simp[World.cell?,hrow6]
   have hRr:R<w6.heap.size:=lt_of_cell r4
   have hlw6:=row_lt hgw
   clear hfb hGF hB6 hgw hrow6 HE4 HO4 HF4 HN4 HV4 HB5 HAR
   go_cut [51]from 22 to 79 (fun vq wx=>vq= .bool (ok&& !lc)∧wx=w6)
   case first=>
    cases ok
    ·go_wp2_with fail
     go_meet
     exact⟨rfl,rfl⟩
    ·cases lc
     ·go_wp2_with fail
      go_meet
      exact⟨rfl,rfl⟩
     ·go_wp2_with fail
      go_meet
      exact⟨rfl,rfl⟩
   case rest=>
    obtain⟨rfl,hw⟩:=hcut
    obtain rfl:w6=wc:=hw.symm
    clear hw
    go_upto_if 51 with fail
    go_cut [8]from 22 to 79 (fun va wx=>∃(lc':Bool) (ars':List TagI),wx.ownsRow w1.heap.size 149 3 va ars'.length (acells ars')∧EwD W wx R a E.s.length c ta E.t.length tc (x+1) t0 lc' (ovV sn o0)∧FrE R w1 wx∧wx.heap[nb]? =some (.cells #[.int .i64 N.kind,.int .i64 N.tag,.int .i64 N.mode,.slice ka N.kids.length kc] 58 (0,0))∧wx.heap[vb]? =some (.cells #[.int .i64 v.kind,.string v.text,.int .i64 v.alt,.int .i64 v.kids] 60 (0,0))∧Chain l0 lc' ars' r r'')
    case first=>
     by_cases hq:(ok&& !lc)=true
     ·obtain⟨rfl,rfl⟩:ok=true∧lc=false:=by simpa using hq
      obtain⟨hm,rfl,rfl,rfl⟩:=HOK1.out rfl
      have hlen2:=HCH3.out.len
      have htg:0≤N.tag∧N.tag≤30:=by
       refine⟨?_,by omega⟩
       by_cases q:N.tag<0
       ·have:=hT3 (by omega);omega
       ·omega
      have HCH7:Hid (Chain l0 (decide (2000<ars.length+1)) (ars++[⟨N.tag,htg⟩]) r r''):=HCH3.out.head hm ⟨N.tag,htg⟩ rfl
      obtain⟨i0,hi0,hz0,hz1,hz2⟩:=info_parts Tryz.infoFirst
      have g0:w6.cell? ⟨fb',0,none⟩=some (.int .i64 2):=cell_of_row HG6.out rfl
      have g1:w6.cell? ⟨fb',1,none⟩=some (.int .i64 N.tag):=cell_of_row HG6.out rfl
      have g2:w6.cell? ⟨fb',2,none⟩=some (.bool true):=cell_of_row HG6.out rfl
      have hlf:=row_lt HG6.out
      have hsz6:=HSZ.out _ HF6.out
      have HAPP:Hid (∀g7 cap7 w7,w7.ownsRow w1.heap.size 149 3 (.slice (some ⟨g7,0,none⟩) (ars.length+1) cap7) (ars.length+1) (acells ars++[.int .i64 2,.int .i64 N.tag,.bool true])→(w6.alloc (.cells #[.int .i64 2,.int .i64 N.tag,.bool true] 149)).grownBy w7 (Value.slice bsO ars.length cpO).ownBlock→
       w7.cell? ⟨wb,0,none⟩=some (.pointer (some ⟨R,0,none⟩))∧w7.cell? ⟨R,4,none⟩=some (.bool false)∧w7.frozen? ⟨R,4,none⟩=false∧R<w7.heap.size∧wb<w7.heap.size∧
       ∀lq:Bool,lq=decide (2000<ars.length+1)→∃(lc':Bool) (ars':List TagI),(w7.setCell ⟨R,4,none⟩ (.bool lq)).ownsRow w1.heap.size 149 3 (.slice (some ⟨g7,0,none⟩) (ars.length+1) cap7) ars'.length (acells ars')∧EwD W (w7.setCell ⟨R,4,none⟩ (.bool lq)) R a E.s.length c ta E.t.length tc (x+1) t0 lc' (ovV sn o0)∧FrE R w1 (w7.setCell ⟨R,4,none⟩ (.bool lq))∧(w7.setCell ⟨R,4,none⟩ (.bool lq)).heap[nb]? =some (.cells #[.int .i64 N.kind,.int .i64 N.tag,.int .i64 N.mode,.slice ka N.kids.length kc] 58 (0,0))∧(w7.setCell ⟨R,4,none⟩ (.bool lq)).heap[vb]? =some (.cells #[.int .i64 v.kind,.string v.text,.int .i64 v.alt,.int .i64 v.kids] 60 (0,0))∧Chain l0 lc' ars' r r''):=fun g7 cap7 w7 h1 h2=>by
       have hB:=(Below.refl w6.heap.size w6).alloc (Nat.le_refl _) (.cells #[.int .i64 2,.int .i64 N.tag,.bool true] 149)
       have hrow:∀g,(Value.slice bsO ars.length cpO).ownBlock=some g→w1.heap.size≤g∧∃cur,w6.heap[g]? =some (.cells cur 149 (0,0)):=fun g q=>by
        refine⟨(HO6.out.lt g q).1,?_⟩
        rcases HO6.out.2 with⟨h,_⟩|⟨g',cp',cur,h,_,hgg,_⟩
        ·rw[h]at q;cases q
        ·rw[h]at q
         simp only[Value.ownBlock,Option.some.injEq]at q
         subst q
         exact⟨cur,hgg⟩
       have hold:∀(k:Nat) (A:Array Value) (T:TypeId),T≠149→w6.heap[k]? =some (.cells A T (0,0))→w7.heap[k]? =some (.cells A T (0,0)):=fun k A T hT hk=>by
        have hk':=block_below hk hB
        rw[h2.block k (row_lt hk') (fun q=>?_)]
        ·exact hk'
        ·obtain⟨_,cur,hcur⟩:=hrow k q.symm
         rw[hk]at hcur
         injection hcur with hcur
         injection hcur with _ hcur _
         exact hT hcur
       have hE7:EwD W w7 R a E.s.length c ta E.t.length tc (x+1) t0 false (ovV sn o0):=(HE6.out.below hB).grown h2 fun g q=>by
        obtain⟨h3,cur,hcur⟩:=hrow g q
        refine⟨by omega,by omega,fun A hA=>?_⟩
        have:=block_below hcur hB
        rw[hA]at this
        injection this with this
        injection this with _ this _
        revert this
        decide
       have hgw7:=hold _ _ _ (by decide) (HF6.out _ _ _ hneW (by decide) HG1.out)
       have hR7:=hold _ _ _ (by decide) (show w6.heap[R]? =some (.cells #[.slice a E.s.length c,.slice ta E.t.length tc,.int .i64 ((x+1:Nat):Int),tv6,.bool false,ovV sn o0] 140 (0,0))from HR6.out)
       refine⟨cell_of_row hgw7 rfl,cell_of_row hR7 rfl,frozen_row hR7,row_lt hR7,row_lt hgw7,fun lq hlq=>⟨lq,ars++[⟨N.tag,htg⟩],?_,hE7.setLong lq,?_,?_,?_,by rw[hlq];exact HCH7.out⟩⟩
       ·refine ownsRow_setCell_other ?_ ?_ _
        ·rw[acells_snoc,List.length_append];exact h1
        ·exact row_ne hR7 h1 (by decide)
       ·intro k A T hk hT hg
        rw[heap_setCell_other _ _ _ _ hk]
        have hg6:=HF6.out k A T hk hT hg
        have hk':=block_below hg6 hB
        rw[h2.block k (row_lt hk') (fun q=>?_)]
        ·exact hk'
        ·have:=(hrow k q.symm).1
         have:=row_lt hg
         omega
       ·rw[heap_setCell_other _ _ _ _ hneN]
        exact hold _ _ _ (by decide) HN6.out
       ·rw[heap_setCell_other _ _ _ _ hneV]
        exact hold _ _ _ (by decide) HV6.out
      have hlz:(2000:Int)<((ars.length+1:Nat):Int)↔2000<ars.length+1:=by omega
      clear hq hm
      go_wp2_with (at_builtin;refine wpList_append_lies _ rfl _ _ 186 rfl w1.heap.size 149 i0 _ 3 24 Tryz.underlying186 hi0 hz0 hz1 hz2 rfl (by decide) (.slice bsO ars.length cpO) ars.length (acells ars) rfl (HO6.out.alloc _) ⟨w6.heap.size,0,none⟩ 1 1 [.int .i64 2,.int .i64 N.tag,.bool true] rfl rfl (World.news_of_block (heap_alloc_new w6 (.cells #[.int .i64 2,.int .i64 N.tag,.bool true] 149))) (by intro u hu;simp at hu;rcases hu with rfl|rfl|rfl<;>rfl) (by decide) (by unfold maxLen;omega) (by omega) (by simp;omega) (w6.heap.size+1) (by simp) ?_;intro g7 cap7 w7 h71 h72 h73 h74;obtain⟨e7,e8,e9,e10,e11,hfin⟩:=HAPP.out g7 cap7 w7 h71 h72;have HFIN:=hide hfin;clear h71 h72 h73 h74 hfin)
      go_meet
      refine HFIN.out _ ?_
      first|rfl|exact decide_eq_decide.2 (by omega)|(simp;omega)
     ·have HCH7:Hid (Chain l0 lc ars r r''):=by
       refine HCH3.out.plain ?_
       cases hok:ok
       ·exact .inl (HOK2.out hok)
       ·right
        cases hlc:lc
        ·rw[hok,hlc]at hq;exact absurd rfl hq
        ·rfl
      have hqb:(ok&& !lc)=false:=by simpa using hq
      rw[hqb]
      clear hq
      go_wp2_with fail
      go_meet
      exact⟨lc,ars,HO6.out,HE6.out,HF6.out,HN6.out,HV6.out,HCH7.out⟩
    case rest=>
     obtain⟨lc',ars',hO7,hE7,hF7,hN7,hV7,hC7⟩:=hcut
     obtain⟨bsA,cpA,rfl⟩:=own_formF hO7
     have HO7:=hide hO7
     have HE7:=hide hE7
     have HF7:=hide hF7
     have HN7:=hide hN7
     have HV7:=hide hV7
     have HC7:=hide hC7
     have hgw:=hF7 _ _ _ hneW (by decide) HG1.out
     have p7:wc.cell? ⟨wb,0,none⟩=some (.pointer (some ⟨R,0,none⟩)):=cell_of_row hgw rfl
     have k0:wc.cell? ⟨nb,0,none⟩=some (.int .i64 N.kind):=cell_of_row hN7 rfl
     have k1:wc.cell? ⟨nb,1,none⟩=some (.int .i64 N.tag):=cell_of_row hN7 rfl
     have k2:wc.cell? ⟨nb,2,none⟩=some (.int .i64 N.mode):=cell_of_row hN7 rfl
     have k3:wc.cell? ⟨nb,3,none⟩=some (.slice ka N.kids.length kc):=cell_of_row hN7 rfl
     have v0:wc.cell? ⟨vb,0,none⟩=some (.int .i64 v.kind):=cell_of_row hV7 rfl
     have v1:wc.cell? ⟨vb,1,none⟩=some (.string v.text):=cell_of_row hV7 rfl
     have v2:wc.cell? ⟨vb,2,none⟩=some (.int .i64 v.alt):=cell_of_row hV7 rfl
     have v3:wc.cell? ⟨vb,3,none⟩=some (.int .i64 v.kids):=cell_of_row hV7 rfl
     have hlw7:=row_lt hgw
     have hln7:=row_lt hN7
     have hlv7:=row_lt hV7
     have hxl:x<E.t.length:=by
      rcases Nat.lt_or_ge x E.t.length with q|q
      ·exact q
      ·have h1:=HFIT.out.1
       have h2:vl E.t x=⟨0,noB,0,0⟩:=by unfold vl;rw[List.getD_eq_getElem?_getD,List.getElem?_eq_none q];rfl
       rw[h2]at h1
       simp only at h1
       omega
     clear hO7 hE7 hF7 hN7 hV7 hC7 hgw p6 r4 hRr hlw6 HE6 HO6 HF6 HN6 HV6 HG6 HR6 HCH3 HOK1 HOK2
     by_cases h13:N.kind=13
     ·have hf13:=(fit13 h13 HFIT.out.1).1 HFIT.out
      rw[HV.out]at hf13
      obtain⟨al,hal⟩:∃al:Nat,v.alt=al:=⟨v.alt.toNat,by omega⟩
      have hall:al<N.kids.length:=by omega
      obtain⟨b',o',hkaE,kcl⟩:=HKA.out al hall
      obtain⟨kc0,_,_⟩:=kcl
      have hmem:N.kids.getD al kd0∈N.kids:=kd_mem (n:=N) hall
      obtain⟨y,hy⟩:∃y,N.kids.getD al kd0=y:=⟨_,rfl⟩
      rw[hy]at kc0 hmem
      have hwn:=HC.out.wc.right.fine.within i HHI.out y (by rw[HN.out];exact hmem)
      obtain⟨t,ht⟩:∃t:Nat,y.node=t:=⟨y.node.toNat,by omega⟩
      have htl:t<E.s.length:=by omega
      rw[ht]at kc0
      have q0:wc.cell? ⟨b',o'+al*3,none⟩=some (.int .i64 t):=(HE7.out.bel.cell (lt_of_cell kc0)).trans kc0
      have hlq:=lt_of_cell q0
      simp only at hlq
      have HNX:Hid (wrF E G t (x+1) dp=some r''):=by
       have h:=HBF.out
       rw[HN.out,HV.out]at h
       unfold wbareF at h
       rw[if_pos h13,if_pos hf13]at h
       have e1:(kd N v.alt.toNat).node.toNat=t:=by
        have:kd N v.alt.toNat=y:=by unfold kd;rw[hal];exact hy
        rw[this,ht];rfl
       rw[e1]at h
       exact h
      rw[hkaE]at k3
      rw[hal]at v2
      rw[h13]at k0
      have hall':(al:Int)<(N.kids.length:Int):=by omega
      clear kc0 hmem hy hwn hf13 h13 hkaE hal
      go_wp2
      go_roundg G
      case rel=>exact⟨t,x+1,r'',lc',ars',rfl,htl,by omega,HNX.out,by omega,by omega,by omega,HO7.out,HE7.out,HF7.out,HC7.out⟩
      case measure=>omega
     ·have h13b:(N.kind !=13)=true:=by simpa using h13
      have h13c:(N.kind==13)=false:=by simpa using h13
      have HOE:Hid (Calls Tryz.prog 111 #[.pointer (some ⟨R,0,none⟩),.agg #[.int .i64 N.kind,.int .i64 N.tag,.int .i64 N.mode,.slice ka N.kids.length kc],.agg #[.int .i64 v.kind,.string v.text,.int .i64 v.alt,.int .i64 v.kids],.int .i64 dp] wc fun e w'=>AfterE E W R a c ta tc sn r'' t0 lc' o0 wc e w'):=by
       have:=own_e E W R a c ta tc G sn HC.out HTC.out (HNN.out G (by omega)) (by omega) i HHI.out ka kc (by rw[HN.out];exact HKA.out) (by rw[HN.out];exact hkc) HKM.out x dp r'' t0 lc' o0 wc (by rw[HN.out];exact HFIT.out) HBF.out hxl (by omega) HDP.out.1 HDL.out h4 HE7.out (by rw[HN.out];exact h13)
       rw[HN.out,HV.out]at this
       exact this
      go_wp2_with fail
      refine HOE.out.mono ?_
      rintro e w8 ⟨hF8,⟨b8',x8,u8',t8,l8,o8,hq,rfl,hT8,hE8⟩|⟨hq,p,x8,t8,l8,ov,rfl,hE8⟩⟩
      ·have HE8:=hide hE8
       have HT8:=hide hT8
       have HF8:Hid (FrE R w1 w8):=HF7.out.trans hF8
       have HO8:=hide (own_frE HO7.out hF8 (by decide) hR1)
       have hC8:=HC7.out
       rw[hq]at hC8
       have HC8:=hide hC8
       clear hF8 hq hT8 hE8 hC8 HO7 HE7 HF7 HN7 HV7 HC7 p7 k0 k1 k2 k3 v0 v1 v2 v3 hlw7 hln7 hlv7 HOE
       go_wp2_with fail
       refine(backward_any _ _ _ _).mono ?_
       rintro e w9 ⟨rfl,rfl⟩
       have hB9:Below w8.heap.size w8 (w8.alloc (.cells #[.slice bsA ars'.length cpA] 186)):=(Below.refl _ _).alloc (Nat.le_refl _) _
       have hG9:(w8.alloc (.cells #[.slice bsA ars'.length cpA] 186)).heap[w8.heap.size]? =some (.cells #[.slice bsA ars'.length cpA] 186 (0,0)):=heap_alloc_new w8 _
       have hne9:w8.heap.size≠R:=by obtain⟨tv,h1,_⟩:=HE8.out.own;have:=row_lt h1;omega
       have hAr:=AroundIn.of_own (own_below HO8.out hB9) hG9 hR1 hne9
       have HE9:=hide (HE8.out.below hB9)
       have HF9:Hid (FrE R w1 (w8.alloc (.cells #[.slice bsA ars'.length cpA] 186))):=HF8.out.trans (FrE.of_below hB9)
       obtain⟨Bs,hBs⟩:∃Bs,w8.heap.size=Bs:=⟨_,rfl⟩
       rw[hBs]at hAr ⊢
       generalize w8.alloc (.cells #[.slice bsA ars'.length cpA] 186)=w9 at hAr HE9 HF9 ⊢
       have hl9:ars'.length≤1000000:=by have:=HC8.out.len;omega
       clear hB9 hG9 hne9 hBs HE8 HF8 HO8
       have hW9:W.heap.size≤w9.heap.size:=HE9.out.bel.size
       have HFIN:Hid (∀(D:Nat) (W':World),w9.heap.size≤D→((∃(t9:ByteArray) (l9:Bool),EwD W W' R a E.s.length c ta E.t.length tc x8 t9 l9 (ovV sn o8)∧Tld t0 lc' o0 (wrapsB (backTo ars' ars'.length) b8') u8' t9 l9 o8)∧FrE R w9 W')→W'.heap[D]? =some (.deferred (some []))→AfterE E W R a c ta tc sn r t0 l0 o0 w (.returned .nilIface) (W'.putObj D (.deferred none))):=fun D W' hD hs hK=>by
        obtain⟨⟨t9,l9,h1,h2⟩,h3⟩:=hs
        rw[wrapsB_all]at h2
        obtain⟨b0,hr0,hT0⟩:=HC8.out.end h2
        have nc:∀(A:Array Value) (T:TypeId) (z:Nat×Nat),W'.heap[D]? ≠some (.cells A T z):=fun A T z hA=>by rw[hK]at hA;cases hA
        have hg:=grownBy_putObj' W' D (.deferred none)
        have hE9:=h1.grown hg (fun g q=>by
         injection q with q
         subst q
         refine⟨by omega,?_,fun A=>nc A _ _⟩
         rintro rfl
         obtain⟨tv,hR,_⟩:=h1.own
         exact nc _ _ _ hR)
        have hF9:FrE R w9 (W'.putObj D (.deferred none)):=fun k A T hk hT hk'=>by
         have hX:=h3 k A T hk hT hk'
         rw[hg.block k (row_lt hX) (fun q=>by injection q with q;subst q;exact nc _ _ _ hX)]
         exact hX
        exact⟨(FrE.of_below HB1.out).trans (HF9.out.trans hF9),.inl ⟨b0,x8,u8',t9,l9,o8,hr0,rfl,hT0,hE9⟩⟩
       go_wp2_with fail
       refine(wpIn_wide (n:=3)).1 ?_
       refine wpIn_rangeFunc_box (F:=Fence.wide) rfl (by decide) (gf:=153) (lb:=#[.pointer (some ⟨Bs,0,none⟩)]) rfl trivial (enters_of Tryz.func153 (by kernel_rfl) rfl)
        (back_stops (3-1) (by decide) Bs R ars' hl9 w9 hAr) (fun h k q A T h1 h2 h3=>k q A T h1 h2 (h q A T h1 h2 h3)) ?kb (fun W' o' k A T _ _ hg=>block_below hg ((Below.refl _ _).alloc (Nat.le_refl _) _)) (Below.refl _ _) (fun _=>rfl)
        (fun pre W'=>(∃(t9:ByteArray) (l9:Bool),EwD W W' R a E.s.length c ta E.t.length tc x8 t9 l9 (ovV sn o8)∧Tld t0 lc' o0 (wrapsB pre b8') u8' t9 l9 o8)∧FrE R w9 W') ?own ⟨⟨t8,l8,HE9.out,HT8.out⟩,fun _ _ _ _ _ h=>h⟩
        16 149 (fun x=> #[.int .i64 2,.int .i64 x.2.1,.bool true]) ?assign ?body ?done
       case kb=>
        intro W' l o1 o' _ hl' hc' _ k A T hk hT hg
        have hkl:k≠l:=by
         rintro rfl
         rw[hg]at hl'
         injection hl' with hl'
         subst hl'
         cases hc'
        exact(World.putObj_heap_other hkl).trans hg
       case own=>
        intro pre X Y row hs hg hr
        obtain⟨⟨t9,l9,h1,h2⟩,h3⟩:=hs
        have nc:∀g,row=some g→∀(A:Array Value) (T:TypeId) (z:Nat×Nat),X.heap[g]? ≠some (.cells A T z):=fun g q A T z hA=>by
         obtain⟨_,o1,ho,hc'⟩:=hr g q
         rw[hA]at ho
         injection ho with ho
         subst ho
         cases hc'
        refine⟨⟨t9,l9,h1.grown hg (fun g q=>⟨?_,?_,fun A=>nc g q A _ _⟩),h2⟩,fun k A T hk hT hk'=>?_⟩
        ·have:=(hr g q).1
         omega
        ·rintro rfl
         obtain⟨tv,hR,_⟩:=h1.own
         exact nc _ q _ _ _ hR
        ·have hX:=h3 k A T hk hT hk'
         rw[hg.block k (row_lt hX) (fun q=>nc k q.symm _ _ _ hX)]
         exact hX
       case assign=>
        intro l x1 W' K hK
        unfold encB at hK ⊢
        simp only[fold2,List.setIfInBounds_toArray,List.set_cons_zero,List.set_cons_succ]at hK ⊢
        gi_wp2
        exact hK
       case body=>
        rintro l pre x1 Bx W' ⟨⟨t9,l9,hE,hT⟩,hF⟩ hBx hlt
        unfold encB
        simp only[fold2,List.setIfInBounds_toArray,List.set_cons_zero,List.set_cons_succ]
        have hgw:=(HF9.out.trans hF) _ _ _ hneW (by decide) HG1.out
        have hgs:=(HF9.out.trans hF) _ _ _ hneS (by decide) HG2.out
        have p1:W'.cell? ⟨wb,0,none⟩=some (.pointer (some ⟨R,0,none⟩)):=cell_of_row hgw rfl
        have p2:W'.cell? ⟨sb,0,none⟩=some (.int .i64 t0.size):=cell_of_row hgs rfl
        have p3:W'.cell? ⟨Bx,0,none⟩=some (.int .i64 2):=cell_of_row hBx rfl
        have p4:W'.cell? ⟨Bx,1,none⟩=some (.int .i64 x1.2.1):=cell_of_row hBx rfl
        have p5:W'.cell? ⟨Bx,2,none⟩=some (.bool true):=cell_of_row hBx rfl
        have hl1:=row_lt hgw
        have hl2:=row_lt hgs
        have hl3:=row_lt hBx
        have HWR:Hid (Calls Tryz.prog 113 #[.pointer (some ⟨R,0,none⟩),.int .i64 t0.size,.agg #[.int .i64 2,.int .i64 x1.2.1,.bool true]] W' fun e w'=>AfterI W R a E.s.length c ta E.t.length tc x8 t9 l9 (ovV sn o8) t0.size (hdB 2 true x1.2.1 (t9.size-t0.size)) W' e w'):=wrap_any W W' R a E.s.length c ta E.t.length tc x8 t9 l9 (ovV sn o8) sn HC.out.lay t0.size 2 x1.2.1 true (by decide) (by decide) x1.2.2.1 x1.2.2.2 hT.le hT.mx hE
        have HFI:Hid (∀W4 t10 l10,FrX R W' W4→Ins t9 l9 t0.size (hdB 2 true x1.2.1 (t9.size-t0.size)) t10 l10→EwD W W4 R a E.s.length c ta E.t.length tc x8 t10 l10 (ovV sn o8)→KeepsFrom w9.heap.size W' W4∧FrK R W' W4∧((∃(t9:ByteArray) (l9:Bool),EwD W W4 R a E.s.length c ta E.t.length tc x8 t9 l9 (ovV sn o8)∧Tld t0 lc' o0 (wrapsB (pre++[x1]) b8') u8' t9 l9 o8)∧FrE R w9 W4)):=fun W4 t10 l10 h1 h2 h3=>by
         obtain⟨tv,hR,_⟩:=hE.own
         refine⟨frX_keeps h1 hR _,h1.fr,⟨t10,l10,h3,?_⟩,hF.trans h1.fr⟩
         rw[wrapsB_snoc]
         exact hT.wrap h2
        clear hgw hgs hBx hE hT hF
        gi_wp2_with (refine⟨trivial,?_⟩;gi_at_call 113;refine(CallsIn.inRound l (callsIn_wide.2 HWR.out)).mono ?_;rintro e W4 ⟨rfl,hF4,t10,l10,hi10,hE10⟩)
        exact HFI.out W4 t10 l10 hF4 hi10 hE10
       case done=>
        rintro D xs W' hD rfl hs hK
        have hA:=HFIN.out D W' hD hs hK
        have HA:=hide hA
        have HK:=hide hK
        clear hA hs hK
        go_wp2
        refine leavesM_one HK.out (v:= .nilIface) (by simp[results,Tryz.results75,go_sem]) rfl ?_
        exact HA.out
      ·have HX:Hid (r=none):=by
        have h:=HC7.out
        rw[hq]at h
        exact h.none
       have HE8:=hide hE8
       have HF8:Hid (FrE R w w8):=(FrE.of_below HB1.out).trans (HF7.out.trans hF8)
       clear hq hE8 hF8
       unfold fault
       go_wp2
       refine leavesM_ret (v:=fault p (sn .Tree)) (by simp[results,Tryz.results75,go_sem,fault]) rfl ?_
       exact⟨HF8.out,.inr ⟨HX.out,p,x8,t8,l8,ov,rfl,HE8.out⟩⟩
  ·have HX:Hid (r=none):=by
    have h:=HEE.out
    rw[wrF_no HC.out.wc.ok (by rw[HN.out];exact hno)]at h
    injection h with h
    have:=HCH.out
    rw[←h]at this
    exact this.none
   have HE3:=hide hE3
   have HF3:Hid (FrE R w w3):=(FrE.of_below HB1.out).trans (HFR2.out.trans hF3)
   clear hno hE3 hF3
   unfold fault
   go_wp2
   refine leavesM_ret (v:=fault x (sn .Tree)) (by simp[results,Tryz.results75,go_sem,fault]) rfl ?_
   exact⟨HF3.out.trans (FrE.of_below ((Below.refl _ _).alloc (Nat.le_refl _) _)),.inr ⟨HX.out,x,x,t0,lc,ovV sn o0,rfl,HE3.out.below ((Below.refl _ _).alloc (Nat.le_refl _) _)⟩⟩
end Go.Proofs.YtkkicodfpekbgaaGreatDoor
namespace Go.Proofs.YtkkicodfpekbgaaGreatDoor
open Go.RowKit
set_option linter.unusedSimpArgs false
set_option linter.unusedVariables false
set_option maxRecDepth 100000
set_option maxHeartbeats 8000000
theorem evalue_all(E:WEnv)(W:World)(R:Nat)(a:Option Addr)(c:Nat)(ta:Option Addr)(tc:Nat)(sn:Sn→Addr)(hc:EC E W a ta sn)(htc:E.t.length≤tc)(f:Nat):NodeE E W R a c ta tc sn f:=
 Nat.strongRecOn f fun F ih=>evalue_step E W R a c ta tc sn hc htc F ih
def snW(k:Int):Sn:=if k=2 then .Long else if k=8 then .Order else .Tree
def RetBy(sn:Sn→Addr)(za:Addr)(v:Except Int ByteArray)(w:World)(e:Ending)(w':World):Prop:=
 Below w.heap.size w w'∧
 ((∃b,v= .ok b∧e= .returned (.tuple #[.string b,.nilIface]))∨
  (∃p,v= .error 1∧e= .returned (.tuple #[.string ⟨#[]⟩,faultV 0 (fault p za)]))∨
  (v= .error 1∧e= .returned (.tuple #[.string ⟨#[]⟩,fault 0 za]))∨
  (∃k q,v= .error k∧(k=2∨k=8∨k=11)∧e= .returned (.tuple #[.string ⟨#[]⟩,fault q (sn (snW k))])))
theorem bytes_any(E:WEnv)(s:List Nd)(a:Option Addr)(c:Nat)(root:Int)(t:List Vl)(ta:Option Addr)(tc:Nat)(v:Except Int ByteArray)(w:World)(sn:Sn→Addr)(za:Addr)(hl:Lay w sn)(hz:LayZ w sn za)(hs:Sch w a s)(hok:SchOk s)(hn0:s.length≤140737488351232)(ht:TreeIn w ta t)(htc:t.length≤tc)(hpz:Sz t)(hkd:∀j,j<t.length→(vl t j).kids≤9223372036854775807)(hv:EncV E s root t v):
 Calls Tryz.prog 46 #[.slice a s.length c,.int .i64 root,.slice ta t.length tc] w fun e w'=>RetBy sn za v w e w':=by
 have HCR:Hid (∀wq,Below w.heap.size w wq→Calls Tryz.prog 74 #[.slice a s.length c,.int .i64 root] wq fun e w'=>RetRt s root za wq e w'):=fun wq q=>checkRoot_any s a c root wq sn za (hl.below q) (hz.below q) (hs.below q) hok hn0
 have HL:=hide hl
 have HS:=hide hs
 have HOK:=hide hok
 have HT:=hide ht
 have HV:=hide hv
 have HKD:=hide hkd
 have HPZ:=hide hpz
 have HTC:=hide htc
 have htl:t.length≤16777000:=hpz.len
 clear hl hz hs hok ht hv hkd hpz htc
 go_enter Tryz.func46,Tryz.ntmps46
 go_wp2_with fail
 refine(HCR.out _ (Below.refl _ _)).mono ?_
 rintro e w1 ⟨hb1,h1⟩
 have HB1:=hide hb1
 clear hb1
 rcases h1 with⟨rfl,hr,h0,h1⟩|⟨⟨p,rfl⟩,hr⟩|⟨rfl,hr,h0⟩
 ·have HR:=hide hr
  obtain⟨rfl,rfl,hkk,f0,r,hrd0,hvr⟩:E.s=s∧E.t=t∧(∀k u,E.ok k u=true↔ContentOk k u)∧∃f r,wrF E f root.toNat 0 1=some r∧v=encR r t.length:=by
   rcases HV.out with⟨q,_⟩|⟨_,q⟩
   ·exact absurd ⟨hr,h0,h1⟩ q
   ·exact q
  obtain⟨rt,rfl⟩:∃n:Nat,root=n:=⟨root.toNat,by omega⟩
  have hrd:=wrF_add f0 (E.t.length+1) _ _ _ _ hrd0
  have hEC:EC E w1 a ta sn:=⟨⟨HS.out.below HB1.out,HR.out,HOK.out,hkk,HT.out.below HB1.out,HPZ.out,HKD.out⟩,HL.out.below HB1.out⟩
  have hG2:(w1.alloc (ewObj a E.s.length c ta E.t.length tc 0 (.slice none 0 0) false .nilIface)).heap[w1.heap.size]? =some (ewObj a E.s.length c ta E.t.length tc 0 (.slice none 0 0) false .nilIface):=heap_alloc_new w1 _
  have hI2:EwD w1 (w1.alloc (ewObj a E.s.length c ta E.t.length tc 0 (.slice none 0 0) false .nilIface)) w1.heap.size a E.s.length c ta E.t.length tc 0 noB false (ovV sn none):=⟨(Below.refl _ _).alloc (Nat.le_refl _) _,Nat.le_refl _,_,hG2,World.ownsRow_nil _ _ _ _⟩
  have HCL:Hid (Calls Tryz.prog 75 #[.pointer (some ⟨w1.heap.size,0,none⟩),.int .i64 rt,.int .i64 1] (w1.alloc (ewObj a E.s.length c ta E.t.length tc 0 (.slice none 0 0) false .nilIface)) fun e w'=>AfterE E w1 w1.heap.size a c ta tc sn r noB false none (w1.alloc (ewObj a E.s.length c ta E.t.length tc 0 (.slice none 0 0) false .nilIface)) e w'):=
   evalue_all E w1 w1.heap.size a c ta tc sn hEC HTC.out (f0+(E.t.length+1)) rt 0 1 r noB false none _ (by simpa using hrd) (by omega) (Nat.zero_le _) (by omega) (by omega) (by decide) (by decide) (by decide) hI2
  have HVR:=hide hvr
  unfold ewObj at HCL
  clear hrd hrd0 hvr hEC hG2 hI2 hkk hr
  go_wp2_with fail
  refine HCL.out.mono ?_
  rintro e w3 ha3
  have hcase:=ha3.2
  clear ha3
  rcases hcase with⟨b,x,u,t1,l1,o1,hr,rfl,hT,hI3⟩|⟨hr,p,x,t1,l1,ov,rfl,hI3⟩
  ·have HB3:Hid (Below w.heap.size w w3):=HB1.out.trans (hI3.bel.mono HB1.out.size)
   have HRR:=hide hr
   have HTT:=hide hT
   obtain⟨tv,own3,hrow⟩:=hI3.own
   unfold ewObj at own3
   have HROW:=hide hrow
   have c2:w3.cell? ⟨w1.heap.size,2,none⟩=some (.int .i64 (x:Int)):=by simp[World.cell?,own3]
   have c3:w3.cell? ⟨w1.heap.size,3,none⟩=some tv:=by simp[World.cell?,own3]
   have c4:w3.cell? ⟨w1.heap.size,4,none⟩=some (.bool l1):=by simp[World.cell?,own3]
   have c5:w3.cell? ⟨w1.heap.size,5,none⟩=some (ovV sn o1):=by simp[World.cell?,own3]
   have hR3:=lt_of_cell c2
   simp only at hR3
   have cT:=(HL.out.below HB3.out).s.cTree
   have cL:=(HL.out.below HB3.out).s.cLong
   have hgT:=lt_of_cell cT
   have hgL:=lt_of_cell cL
   simp only at hgT hgL
   have HAT:Hid (∀(q:Int) (k:Sn) wq,Calls Tryz.prog 60 #[.int .i64 q,.iface 291 (.pointer (some (sn k)))] wq fun e w'=>e= .returned (fault q (sn k))∧w'=wq):=fun q k wq=>at_any q _ wq
   unfold fault at HAT
   clear hI3 own3 hr HCL hT hrow
   by_cases hxl:x<E.t.length
   ·have hxl':(x:Int)<E.t.length:=by omega
    have HE:Hid (v= .error 11):=by show v=_;rw[HVR.out,HRR.out];unfold encR;simp only;rw[if_pos hxl]
    go_wp2_with fail
    go_region_held_law (fun w'=>w'.cell? ⟨w1.heap.size,2,none⟩=some (.int .i64 (x:Int))∧w'.cell? ⟨9,0,none⟩=some (.iface 291 (.pointer (some (sn .Tree))))) (first|exact⟨c2,cT⟩|go_keep) ((go_at_call 60;refine(HAT.out _ _ _).mono ?_;rintro e w4 ⟨rfl,rfl⟩))
    all_goals
     rename_i hHeld
     clear hHeld
     go_wp2
     refine bodyPost_ret (v:= .tuple #[.string ⟨#[]⟩,fault x (sn .Tree)]) (by simp[results,Tryz.results46,go_sem,fault]) rfl ?_
     exact⟨HB3.out.drew,.inr (.inr (.inr ⟨11,x,HE.out,by decide,rfl⟩))⟩
   ·have hxl':(E.t.length:Int)≤x:=by omega
    cases l1 with
    |true=>
     have HE:Hid (v= .error 2):=by
      show v=_
      have:=HTT.out.long rfl rfl
      rw[HVR.out,HRR.out];unfold encR;simp only;rw[if_neg hxl,if_pos (by have h0:noB.size=0:=rfl;omega)]
     go_wp2_with fail
     refine(HAT.out _ _ _).mono ?_
     rintro e w4 ⟨rfl,rfl⟩
     go_wp2
     refine bodyPost_ret (v:= .tuple #[.string ⟨#[]⟩,fault 0 (sn .Long)]) (by simp[results,Tryz.results46,go_sem,fault]) rfl ?_
     exact⟨HB3.out,.inr (.inr (.inr ⟨2,0,HE.out,by decide,rfl⟩))⟩
    |false=>
     have htb:t1=b:=by
      have:=HTT.out.told rfl
      rw[this]
      apply ByteArray.ext
      simp[noB]
     have hb4:b.size≤4000:=by rw[←htb];exact HTT.out.mx
     cases o1 with
     |some p=>
      have HE:Hid (v= .error 8):=by
       show v=_
       have hu:=HTT.out.ord rfl
       simp only[Option.isSome_some,Option.isSome_none,Bool.false_or]at hu
       rw[HVR.out,HRR.out];unfold encR;simp only;rw[if_neg hxl,if_neg (by omega),if_pos hu.symm]
      unfold ovV fault at c5
      go_wp2_with fail
      go_quiet (fail)
      have HB4:Hid (Below w.heap.size w (w3.drewN nq)):=Go.below_drewN HB3.out nq
      go_wp2
      refine bodyPost_ret (v:= .tuple #[.string ⟨#[]⟩,fault p (sn .Order)]) (by simp[results,Tryz.results46,go_sem,fault]) rfl ?_
      exact⟨HB4.out,.inr (.inr (.inr ⟨8,p,HE.out,by decide,rfl⟩))⟩
     |none=>
      have HE:Hid (v= .ok b):=by
       show v=_
       have hu:=HTT.out.ord rfl
       simp only[Option.isSome_none,Bool.false_or]at hu
       rw[HVR.out,HRR.out];unfold encR;simp only;rw[if_neg hxl,if_neg (by omega),if_neg (by rw[←hu];decide)]
      unfold ovV at c5
      subst htb
      have hcv:(convert 52 9 tv).run Tryz.prog w3= .ok (.string t1) w3:=by
       by_cases h0:t1.size=0
       ·have e1:t1=noB:=noB_of h0
        rcases HROW.out.2 with⟨q,_⟩|⟨g,cap,cur,q,_,hg,_⟩
        ·rw[q,e1]
         simp[convert,run_underlying Tryz.underlying52,run_underlying Tryz.underlying5,run_underlying Tryz.underlying9,noB]
         rfl
        ·rw[q,e1]
         exact run_convert_bytes_back w3 52 9 5 ⟨g,0,none⟩ cap [] Tryz.underlying52 Tryz.underlying5 Tryz.underlying9 (fun j hj=>by simp at hj)
       ·have h2:=conv_own (w:=w3) (v:=tv) (l:=t1.data.toList) (ownsRow_cast HROW.out rfl rfl) (fun q=>h0 (by have:=congrArg List.length q;simpa using this))
        rw[h2]
      go_wp2
      refine bodyPost_ret (v:= .tuple #[.string t1,.nilIface]) (by simp[results,Tryz.results46,go_sem]) rfl ?_
      exact⟨HB3.out,.inl ⟨_,HE.out,rfl⟩⟩
  ·have HB3:Hid (Below w.heap.size w w3):=HB1.out.trans (hI3.bel.mono HB1.out.size)
   have HE:Hid (v= .error 11):=by show v=_;rw[HVR.out,hr];rfl
   clear hI3 hr HCL
   unfold fault
   go_wp2
   refine bodyPost_ret (v:= .tuple #[.string ⟨#[]⟩,fault p (sn .Tree)]) (by simp[results,Tryz.results46,go_sem,fault]) rfl ?_
   exact⟨HB3.out,.inr (.inr (.inr ⟨11,p,HE.out,by decide,rfl⟩))⟩
 ·have HE:Hid (v= .error 1):=by
   rcases HV.out with⟨_,q⟩|⟨q,_⟩
   ·exact q
   ·exact absurd q.1 hr
  clear hr
  unfold faultV fault
  go_wp2
  refine bodyPost_ret (v:= .tuple #[.string ⟨#[]⟩,faultV 0 (fault p za)]) (by simp[results,Tryz.results46,go_sem,faultV,fault]) rfl ?_
  exact⟨HB1.out,.inr (.inl ⟨p,HE.out,rfl⟩)⟩
 ·have HE:Hid (v= .error 1):=by
   rcases HV.out with⟨_,q⟩|⟨q,_⟩
   ·exact q
   ·exact absurd q.2 (fun z=>by omega)
  clear hr
  unfold fault
  go_wp2
  refine bodyPost_ret (v:= .tuple #[.string ⟨#[]⟩,fault 0 za]) (by simp[results,Tryz.results46,go_sem,fault]) rfl ?_
  exact⟨HB1.out,.inr (.inr (.inl ⟨HE.out,rfl⟩))⟩
end Go.Proofs.YtkkicodfpekbgaaGreatDoor
namespace Go.Proofs.YtkkicodfpekbgaaGreatDoor
open Go.RowKit Go.Extern.Stop Go.Stop Go.Extern
set_option linter.unusedSimpArgs false
set_option linter.unusedVariables false
set_option maxRecDepth 100000
set_option maxHeartbeats 8000000
theorem is_two(p0 p:Int)(a b:Addr)(ca cb:Array Value)(ta tb:TypeId)(w:World)(hne:a≠b)(ha:w.heap[a.block]? =some (.cells ca ta (0,0)))(hb:w.heap[b.block]? =some (.cells cb tb (0,0))):
 Calls Tryz.prog 59 #[.iface 155 (.agg #[.int .i64 p0,.iface 155 (.agg #[.int .i64 p,.iface 291 (.pointer (some a))])]),.iface 291 (.pointer (some b))] w fun e w'=>e= .returned (.bool false)∧Below w.heap.size w w':=by
 obtain⟨i,hi,hcmp⟩:=Option.map_eq_some_iff.1 Tryz.isComp
 obtain⟨j,hj,hjs⟩:=Option.map_eq_some_iff.1 Tryz.isSize
 have lt:∀{k:Nat} {o:Obj},w.heap[k]? =some o→k<w.heap.size:=fun {k o} h=>by
  rcases Nat.lt_or_ge k w.heap.size with h'|h'
  ·exact h'
  ·rw[Array.getElem?_eq_none h']at h;cases h
 have heq:=fun o o2=>run_eql_iface_ptr_other (P:=Tryz.prog) ((w.alloc o).alloc o2) Tryz.underlying85 Tryz.underlying291 hi hcmp hj (by rw[hjs];decide) hne ((Below.heap_alloc (w.alloc o) o2 _ (by have:=lt ha;simp;omega)).trans ((Below.heap_alloc w o _ (lt ha)).trans ha)) ((Below.heap_alloc (w.alloc o) o2 _ (by have:=lt hb;simp;omega)).trans ((Below.heap_alloc w o _ (lt hb)).trans hb))
 clear lt ha hb
 have h8:=Tryz.callTypeOf
 have h32:=Tryz.callComparable
 have mR:=Tryz.isMethodComparable
 have nF:=Tryz.noIsF
 have uF:=Tryz.hasUnwrapF
 have mU:=Tryz.methodUnwrap
 have nE:=Tryz.noIsE
 have uE:=Tryz.noUnwrapE
 have vE:=Tryz.noUnwrapsE
 have hty:=fun x w=>run_eql_iface_types (P:=Tryz.prog) 155 291 x (.pointer (some b)) Tryz.underlying85 (by decide) w
 go_enter Tryz.func59,Tryz.ntmps59
 go_wp2
 refine wp_loop_rounds 3 ?_
 rw[rounds_succ]
 go_wp2
 rw[rounds_succ]
 go_wp2
 rw[rounds_succ]
 go_wp2
 go_ret
 exact⟨rfl,((Below.refl _ _).alloc (Nat.le_refl _) _).alloc (by simp) _⟩
theorem number_two(p0 p:Int)(za:Addr)(w:World)(sn:Sn→Addr)(hs:Sent w sn)(hz:LayZ w sn za):
 Calls Tryz.prog 34 #[faultV p0 (fault p za)] w fun e w'=>e= .returned (.int .i64 1)∧Below w.heap.size w w':=by
 have IS:Hid (∀(s:Sn) wq,Below w.heap.size w wq→Calls Tryz.prog 59 #[.iface 155 (.agg #[.int .i64 p0,.iface 155 (.agg #[.int .i64 p,.iface 291 (.pointer (some za))])]),.iface 291 (.pointer (some (sn s)))] wq fun e w'=>e= .returned (.bool false)∧Below w.heap.size w w'):=fun s wq hq=>by
  obtain⟨c1,t1,r1⟩:=row_below hz.r hq
  obtain⟨c2,t2,r2⟩:=row_below (hs.r s) hq
  refine(is_two p0 p za (sn s) c1 c2 t1 t2 wq (fun q=>hz.d s q.symm) r1 r2).mono ?_
  rintro e w' ⟨he,hb⟩
  exact⟨he,hq.trans (hb.mono hq.size)⟩
 have S0:=hide hs
 have B0:Hid (Below w.heap.size w w):=Below.refl _ _
 have h0:=hs.cLong
 clear hs hz
 unfold faultV fault
 go_enter Tryz.func34,Tryz.ntmps34
 go_wp2_with fail
 refine(IS.out .Long _ B0.out).mono ?_
 rintro e w1 ⟨rfl,hb⟩
 have B1:=hide hb
 clear hb h0
 have h1:=(S0.out.below B1.out).cEnd
 go_wp2_with fail
 refine(IS.out .End _ B1.out).mono ?_
 rintro e w2 ⟨rfl,hb⟩
 have B2:=hide hb
 clear hb h1
 have h2:=(S0.out.below B2.out).cTag
 go_wp2_with fail
 refine(IS.out .Tag _ B2.out).mono ?_
 rintro e w3 ⟨rfl,hb⟩
 have B3:=hide hb
 clear hb h2
 have h3:=(S0.out.below B3.out).cLength
 go_wp2_with fail
 refine(IS.out .Length _ B3.out).mono ?_
 rintro e w4 ⟨rfl,hb⟩
 have B4:=hide hb
 clear hb h3
 have h4:=(S0.out.below B4.out).cValue
 go_wp2_with fail
 refine(IS.out .Value _ B4.out).mono ?_
 rintro e w5 ⟨rfl,hb⟩
 have B5:=hide hb
 clear hb h4
 have h5:=(S0.out.below B5.out).cMore
 go_wp2_with fail
 refine(IS.out .More _ B5.out).mono ?_
 rintro e w6 ⟨rfl,hb⟩
 have B6:=hide hb
 clear hb h5
 have h6:=(S0.out.below B6.out).cOrder
 go_wp2_with fail
 refine(IS.out .Order _ B6.out).mono ?_
 rintro e w7 ⟨rfl,hb⟩
 have B7:=hide hb
 clear hb h6
 have h7:=(S0.out.below B7.out).cDefault
 go_wp2_with fail
 refine(IS.out .Default _ B7.out).mono ?_
 rintro e w8 ⟨rfl,hb⟩
 have B8:=hide hb
 clear hb h7
 have h8:=(S0.out.below B8.out).cDeep
 go_wp2_with fail
 refine(IS.out .Deep _ B8.out).mono ?_
 rintro e w9 ⟨rfl,hb⟩
 have B9:=hide hb
 clear hb h8
 have h9:=(S0.out.below B9.out).cTree
 go_wp2_with fail
 refine(IS.out .Tree _ B9.out).mono ?_
 rintro e w10 ⟨rfl,hb⟩
 have B10:=hide hb
 clear hb h9
 have h10:=(S0.out.below B10.out).cCard
 go_wp2_with fail
 refine(IS.out .Card _ B10.out).mono ?_
 rintro e w11 ⟨rfl,hb⟩
 have B11:=hide hb
 clear hb h10
 have h11:=(S0.out.below B11.out).cMark
 go_wp2_with fail
 refine(IS.out .Mark _ B11.out).mono ?_
 rintro e w12 ⟨rfl,hb⟩
 have B12:=hide hb
 clear hb h11
 go_wp2_with fail
 go_ret
 exact⟨rfl,B12.out⟩
end Go.Proofs.YtkkicodfpekbgaaGreatDoor
namespace Go.Proofs.YtkkicodfpekbgaaGreatDoor
open Go.RowKit
set_option linter.unusedSimpArgs false
set_option linter.unusedVariables false
set_option maxRecDepth 100000
set_option maxHeartbeats 8000000
theorem snW_code(k:Int)(h:k=2∨k=8∨k=11):(snW k).code=k:=by
 rcases h with rfl|rfl|rfl<;>rfl
theorem encode_any(E:WEnv)(s:List Nd)(a:Option Addr)(c:Nat)(root:Int)(t:List Vl)(ta:Option Addr)(tc:Nat)(v:Except Int ByteArray)(w:World)(sn:Sn→Addr)(za:Addr)(hl:Lay w sn)(hz:LayZ w sn za)(hs:Sch w a s)(hok:SchOk s)(hn0:s.length≤140737488351232)(ht:TreeIn w ta t)(htc:t.length≤tc)(hpz:Sz t)(hkd:∀j,j<t.length→(vl t j).kids≤9223372036854775807)(hv:EncV E s root t v):
 Calls Tryz.prog 22 #[.slice a s.length c,.int .i64 root,.slice ta t.length tc] w fun e w'=>RetEnc v w e w':=by
 have HT:=hide (bytes_any E s a c root t ta tc v w sn za hl hz hs hok hn0 ht htc hpz hkd hv)
 have HL:=hide hl
 have HZ:=hide hz
 have HNN:Hid (∀wq,Calls Tryz.prog 34 #[.nilIface] wq fun e w'=>e= .returned (.int .i64 0)∧w'=wq):=fun wq=>number_nil wq
 clear hl hz hs hok hv ht htc hpz hkd
 go_enter Tryz.func22,Tryz.ntmps22
 go_wp2_with fail
 refine HT.out.mono ?_
 rintro e w1 ⟨hb1,h1⟩
 have HB1:=hide hb1
 clear hb1
 rcases h1 with⟨b,hvv,rfl⟩|⟨p,hvv,rfl⟩|⟨hvv,rfl⟩|⟨k,q,hvv,hk,rfl⟩
 ·have HVV:=hide hvv
  clear hvv
  go_wp2_with fail
  refine(HNN.out _).mono ?_
  rintro e w3 ⟨rfl,rfl⟩
  go_wp2
  refine bodyPost_ret (v:= .tuple #[.string b,.int .i64 0]) (by simp[results,Tryz.results22,go_sem]) rfl ?_
  rw[HVV.out]
  exact⟨HB1.out,rfl⟩
 ·have HVV:=hide hvv
  have HN:Hid (∀wq,Below w.heap.size w wq→Calls Tryz.prog 34 #[faultV 0 (fault p za)] wq fun e w'=>e= .returned (.int .i64 1)∧Below w.heap.size w w'):=fun wq hq=>(number_two 0 p za wq sn (HL.out.below hq).s (HZ.out.below hq)).mono fun e w' h=>⟨h.1,hq.trans (h.2.mono hq.size)⟩
  unfold faultV fault at HN ⊢
  clear hvv
  go_wp2_with fail
  refine(HN.out _ HB1.out).mono ?_
  rintro e w3 ⟨rfl,hb3⟩
  have HB3:=hide hb3
  clear hb3
  go_wp2
  refine bodyPost_ret (v:= .tuple #[.string ⟨#[]⟩,.int .i64 1]) (by simp[results,Tryz.results22,go_sem]) rfl ?_
  rw[HVV.out]
  exact⟨HB3.out,rfl⟩
 ·have HVV:=hide hvv
  have HN:Hid (∀wq,Below w.heap.size w wq→Calls Tryz.prog 34 #[fault 0 za] wq fun e w'=>e= .returned (.int .i64 1)∧Below w.heap.size w w'):=fun wq hq=>by
   have h:=number_at 0 za wq sn (HL.out.below hq).s (HZ.out.below hq).r
   rw[nm_none (fun s q=>HZ.out.d s q.symm)]at h
   exact h.mono fun e w' h=>⟨h.1,hq.trans (h.2.mono hq.size)⟩
  unfold fault at HN ⊢
  clear hvv
  go_wp2_with fail
  refine(HN.out _ HB1.out).mono ?_
  rintro e w3 ⟨rfl,hb3⟩
  have HB3:=hide hb3
  clear hb3
  go_wp2
  refine bodyPost_ret (v:= .tuple #[.string ⟨#[]⟩,.int .i64 1]) (by simp[results,Tryz.results22,go_sem]) rfl ?_
  rw[HVV.out]
  exact⟨HB3.out,rfl⟩
 ·have HVV:=hide hvv
  have HN:Hid (∀wq,Below w.heap.size w wq→Calls Tryz.prog 34 #[fault q (sn (snW k))] wq fun e w'=>e= .returned (.int .i64 k)∧Below w.heap.size w w'):=fun wq hq=>by
   have h:=number_sn q (snW k) wq sn (HL.out.below hq).s
   rw[snW_code k hk]at h
   exact h.mono fun e w' h=>⟨h.1,hq.trans (h.2.mono hq.size)⟩
  unfold fault at HN ⊢
  generalize sn (snW k)=ak at HN
  clear hvv hk
  go_wp2_with fail
  refine(HN.out _ HB1.out).mono ?_
  rintro e w3 ⟨rfl,hb3⟩
  have HB3:=hide hb3
  clear hb3
  go_wp2
  refine bodyPost_ret (v:= .tuple #[.string ⟨#[]⟩,.int .i64 k]) (by simp[results,Tryz.results22,go_sem]) rfl ?_
  rw[HVV.out]
  exact⟨HB3.out,rfl⟩
theorem notDeep_any(c n:Int)(b:Bool)(pl inn en dp:Int)(w:World)(sn:Sn→Addr)(hs:Sent w sn):
 Calls Tryz.prog 163 #[.agg #[.int .i64 c,.int .i64 n,.bool b,.int .i64 pl,.int .i64 inn,.int .i64 en],.int .i64 dp] w fun e w'=>e= .returned (if 12<dp then fault pl (sn .Deep)else .nilIface)∧Below w.heap.size w w':=by
 have cD:=hs.cDeep
 have hgl:=lt_of_cell cD
 simp only at hgl
 by_cases h:12<dp
 ·rw[if_pos h]
  have HAT:Hid (∀wq,Calls Tryz.prog 60 #[.int .i64 pl,.iface 291 (.pointer (some (sn .Deep)))] wq fun e w'=>e= .returned (fault pl (sn .Deep))∧w'=wq):=fun wq=>at_any pl _ wq
  unfold fault at HAT ⊢
  go_enter Tryz.func163,Tryz.ntmps163
  go_wp2_with fail
  refine(HAT.out _).mono ?_
  rintro e w1 ⟨rfl,rfl⟩
  go_wp2
  go_ret
  exact⟨rfl,(Below.refl _ _).alloc (Nat.le_refl _) _⟩
 ·rw[if_neg h]
  have h':dp≤12:=by omega
  clear h
  go_enter Tryz.func163,Tryz.ntmps163
  go_wp2
  go_ret
  exact⟨rfl,(Below.refl _ _).alloc (Nat.le_refl _) _⟩
def expV(c n:Int)(b:Bool)(wc wn:Int)(wb:Bool)(pl dp:Int)(sn:Sn→Addr):Value:=if¬(c=wc∧n=wn∧b=wb)then fault pl (sn .Tag)else if 12<dp then fault pl (sn .Deep)else .nilIface
theorem expect_any(c n:Int)(b:Bool)(pl inn en:Int)(wc wn:Int)(wb:Bool)(dp:Int)(w:World)(sn:Sn→Addr)(hs:Sent w sn):
 Calls Tryz.prog 116 #[.agg #[.int .i64 c,.int .i64 n,.bool b,.int .i64 pl,.int .i64 inn,.int .i64 en],.agg #[.int .i64 wc,.int .i64 wn,.bool wb],.int .i64 dp] w fun e w'=>e= .returned (expV c n b wc wn wb pl dp sn)∧Below w.heap.size w w':=by
 have cT:=hs.cTag
 have hgl:=lt_of_cell cT
 simp only at hgl
 have HS:Hid (Sent w sn):=hs
 have HB0:Hid (∀A B,Below w.heap.size w ((w.alloc A).alloc B)):=fun A B=>((Below.refl w.heap.size w).alloc (Nat.le_refl _) A).alloc (by simp) B
 by_cases q:c=wc∧n=wn∧b=wb
 ·have HE:Hid (expV c n b wc wn wb pl dp sn=if 12<dp then fault pl (sn .Deep)else .nilIface):=by show expV _ _ _ _ _ _ _ _ _=_;unfold expV;rw[if_neg (fun h=>h q)]
  obtain⟨rfl,rfl,rfl⟩:=q
  have HND:Hid (∀wq,Sent wq sn→Calls Tryz.prog 163 #[.agg #[.int .i64 c,.int .i64 n,.bool b,.int .i64 pl,.int .i64 inn,.int .i64 en],.int .i64 dp] wq fun e w'=>e= .returned (expV c n b c n b pl dp sn)∧Below wq.heap.size wq w'):=fun wq h=>by rw[HE.out];exact notDeep_any c n b pl inn en dp wq sn h
  generalize expV c n b c n b pl dp sn=r at HND HE ⊢
  clear hs
  go_enter Tryz.func116,Tryz.ntmps116
  go_wp2_with fail
  refine(HND.out _ (HS.out.below (HB0.out _ _))).mono ?_
  rintro e w1 ⟨rfl,hb1⟩
  have HB1:Hid (Below w.heap.size w w1):=(HB0.out _ _).trans (hb1.mono (HB0.out _ _).size)
  clear hb1
  go_wp2
  go_ret
  exact⟨rfl,HB1.out⟩
 ·have HE:Hid (expV c n b wc wn wb pl dp sn=fault pl (sn .Tag)):=by show expV _ _ _ _ _ _ _ _ _=_;unfold expV;rw[if_pos q]
  have HAT:Hid (∀wq,Calls Tryz.prog 60 #[.int .i64 pl,.iface 291 (.pointer (some (sn .Tag)))] wq fun e w'=>e= .returned (fault pl (sn .Tag))∧w'=wq):=fun wq=>at_any pl _ wq
  have q':(c==wc)=false∨((c==wc)=true∧(n==wn)=false)∨((c==wc)=true∧(n==wn)=true∧(b==wb)=false):=by
   by_cases q1:c=wc
   ·by_cases q2:n=wn
    ·right;right
     refine⟨by simp[q1],by simp[q2],?_⟩
     rw[beq_eq_false_iff_ne]
     exact fun q3=>q ⟨q1,q2,q3⟩
    ·right;left;exact⟨by simp[q1],by simp[q2]⟩
   ·left;simp[q1]
  rw[HE.out]
  unfold fault at HAT ⊢
  clear hs q
  rcases q' with e1|⟨e1,e2⟩|⟨e1,e2,e3⟩
  all_goals
   go_enter Tryz.func116,Tryz.ntmps116
   go_wp2_with fail
   refine(HAT.out _).mono ?_
   rintro e w1 ⟨rfl,rfl⟩
   go_wp2
   go_ret
   exact⟨rfl,HB0.out _ _⟩
theorem beg_iff{s:List Nd}{i:Nat}{all:Bool}{ts:List (Int×Int)}(h:BegIs s i all ts)(c m:Int):Beg s i c m↔(all=true∨(c,m)∈ts):=by
 obtain⟨_,h1,h2⟩:=h
 rw[h1,h2]
 unfold Beg
 constructor
 ·rintro⟨j,hj,hb⟩
  rcases(begAt_iff _ _ _).1 hb with q|⟨q1,q2⟩
  ·exact .inl ⟨j,hj,q⟩
  ·exact .inr ⟨j,hj,q1,q2⟩
 ·rintro(⟨j,hj,q⟩|⟨j,hj,q1,q2⟩)
  ·exact⟨j,hj,(begAt_iff _ _ _).2 (.inl q)⟩
  ·exact⟨j,hj,(begAt_iff _ _ _).2 (.inr ⟨q1,q2⟩)⟩
theorem has_any(s:List Nd)(gb i:Nat)(c m:Int)(w:World)(hA:AbR w gb s)(hi:i<s.length)(hn:s.length≤40):
 Calls Tryz.prog 187 #[.slice (some ⟨gb,0,none⟩) s.length s.length,.int .i64 i,.agg #[.int .i64 c,.int .i64 m]] w fun e w'=>RetO (Beg s i c m) w e w':=by
 obtain⟨all,ta,tc,ts,p1,p2,p3,p4⟩:=hA i hi
 have hi':(i:Int)<s.length:=by omega
 have hb:=beg_iff p4 c m
 have hgl:=lt_of_cell p1
 simp only at hgl
 cases all
 ·have HB:Hid (Beg s i c m↔(c,m)∈ts):=by show _↔_;rw[hb];simp
  obtain⟨r,hr⟩:=bool_of ((c,m)∈ts)
  have HR:Hid (r=true↔(c,m)∈ts):=hr
  have HB1:Hid (Below w.heap.size w (w.alloc (.cells #[.int .i64 c,.int .i64 m] 147))):=(Below.refl _ _).alloc (Nat.le_refl _) _
  have HCN:Hid (∀x:Ext (w.alloc (.cells #[.int .i64 c,.int .i64 m] 147)),Calls Tryz.prog 180 #[.slice ta ts.length tc,.agg #[.int .i64 c,.int .i64 m]] x.v fun e w''=>e= .returned (.bool r)∧∃y:Ext (w.alloc (.cells #[.int .i64 c,.int .i64 m] 147)),w''=y.v):=fun x=>
   Ext.callsR hr (contains_any ts ta tc (c,m) x.v (p3.below (Ext.bel HB1.out x)) p4.1)
  have X0:∀x:Ext (w.alloc (.cells #[.int .i64 c,.int .i64 m] 147)),x.v.cell? ⟨gb,i*2,none⟩=some (.bool false):=fun x=>x.old p1
  have X1:∀x:Ext (w.alloc (.cells #[.int .i64 c,.int .i64 m] 147)),x.v.cell? ⟨gb,i*2+1,none⟩=some (.slice ta ts.length tc):=fun x=>x.old p2
  have X2:∀x:Ext (w.alloc (.cells #[.int .i64 c,.int .i64 m] 147)),x.v.cell? ⟨w.heap.size,0,none⟩=some (.int .i64 c):=fun x=>x.new rfl
  have X3:∀x:Ext (w.alloc (.cells #[.int .i64 c,.int .i64 m] 147)),x.v.cell? ⟨w.heap.size,1,none⟩=some (.int .i64 m):=fun x=>x.new rfl
  clear hA hb hr p3 p4
  go_enter Tryz.func187,Tryz.ntmps187
  go_wp2_with fail
  (have ne:=ext_ne;refine wp_region_ext (by kernel_rfl) (by kernel_rfl) ?_;(repeat(first|go_big_quiet_skip|(go_big_quiet_want;go_big_quiet_op;first|go_big_quiet_on|(apply Exists.intro;refine⟨fun x=>?_,?_⟩;(·(exact HCN.out x));go_big_quiet_on))));refine nil_ext ?_)
  intro w5 hb5
  have HB5:Hid (Below w.heap.size w w5):=HB1.out.trans (hb5.mono HB1.out.size)
  clear X0 X1 X2 X3 hb5
  go_wp2
  go_ret
  exact reto_iff (HR.out.trans HB.out.symm) HB5.out
 ·have HB:Hid (Beg s i c m):=hb.2 (.inl rfl)
  clear hA hb p3 p4
  go_enter Tryz.func187,Tryz.ntmps187
  go_wp2_with fail
  go_quiet (fail)
  go_wp2
  go_ret
  exact reto_yes HB.out (Go.below_drewN ((Below.refl _ _).alloc (Nat.le_refl _) _) _)
theorem ex_ex(d:ByteArray)(x y:Nat)(hxy:x≤y)(hy:y≤d.size):(d.extract 0 y).extract x (d.extract 0 y).size=d.extract x y:=by
 have hs:(d.extract 0 y).size=y:=by rw[ex_size];omega
 rw[hs]
 apply ByteArray.ext
 rw[ByteArray.data_extract,ByteArray.data_extract,ByteArray.data_extract]
 apply Array.ext'
 rw[Array.toList_extract,Array.toList_extract,Array.toList_extract,List.extract_eq_take_drop,List.extract_eq_take_drop,List.extract_eq_take_drop]
 rw[List.drop_zero,Nat.sub_zero,List.drop_take,List.take_take]
 congr 1
 omega
def spanV(h:Hd)(x:Nat):Value:= .agg #[.int .i64 h.c,.int .i64 h.n,.bool h.b,.int .i64 x,.int .i64 ((x:Int)+h.s),.int .i64 ((x:Int)+h.s+h.l)]
def span0:Value:= .agg #[.int .i64 0,.int .i64 0,.bool false,.int .i64 0,.int .i64 0,.int .i64 0]
theorem open_any1(W w:World)(R:Nat)(a:Option Addr)(n c gb0:Nat)(data:ByteArray)(tree:List Vl)(x y:Nat)(sn:Sn→Addr)(h:RdD W w R a n c gb0 data tree)(hs:Sent w sn)(hxy:x≤y)(hy:y≤data.size)(hm:data.size≤140737488355328):
 Calls Tryz.prog 114 #[.pointer (some ⟨R,0,none⟩),.int .i64 x,.int .i64 y] w fun e w'=>Below w.heap.size w w'∧
  (((hd (data.extract x y)).1=0∧e= .returned (.tuple #[spanV (hd (data.extract x y)).2 x,.nilIface]))∨((hd (data.extract x y)).1≠0∧e= .returned (.tuple #[span0,errAt x sn (hd (data.extract x y)).1]))):=by
 have r2:=h.r2
 have hRl:R<w.heap.size:=lt_of_cell r2
 have hsz0:(data.extract 0 y).size=y:=by rw[ex_size];omega
 obtain⟨G,hG⟩:∃G,hd (data.extract x y)=G:=⟨_,rfl⟩
 obtain⟨ge,gc,gb,gn,gs,gl⟩:=G
 have HRD:Hid (∀wq,Sent wq sn→Calls Tryz.prog 156 #[.string (data.extract 0 y),.int .i64 x] wq fun e w'=>e= .returned (.tuple #[.agg #[.int .i64 gc,.bool gb,.int .i64 gn,.int .i64 gs,.int .i64 gl],errAt x sn ge])∧Below wq.heap.size wq w'):=fun wq q=>by
  have:=read_any (data.extract 0 y) x wq sn q (by omega) (by omega)
  rw[ex_ex data x y hxy hy,hG]at this
  exact this
 have HFO:Hid (∀wq,Calls Tryz.prog 157 #[.agg #[.int .i64 gc,.bool gb,.int .i64 gn,.int .i64 gs,.int .i64 gl]] wq fun e w'=>e= .returned (.agg #[.int .i64 gc,.int .i64 gn,.bool gb])∧Below wq.heap.size wq w'):=fun wq=>firstOf_any gc gb gn gs gl wq
 have HS:Hid (Sent w sn):=hs
 have HOKH:Hid (ge=0→1≤gs∧0≤gl∧gs+gl≤(data.extract x y).size):=fun q=>by
  have:=hd_ok (r:=data.extract x y) (by rw[hG];exact q)
  rw[hG]at this
  exact this
 have hsz1:(data.extract x y).size=y-x:=by rw[ex_size];omega
 rw[hG]
 simp only
 have hxy':(x:Int)≤y:=by omega
 have hy':(y:Int)≤data.size:=by omega
 clear hG h hs
 go_enter Tryz.func114,Tryz.ntmps114
 go_wp2_with fail
 refine(HRD.out _ (HS.out.below ((Below.refl _ _).alloc (Nat.le_refl _) _))).mono ?_
 rintro e w1 ⟨rfl,hb1⟩
 have HB1:Hid (Below w.heap.size w w1):=below_alloc hb1
 have HG1:Hid (w1.heap[w.heap.size]? =some (.cells #[.int .i64 0,.int .i64 0,.bool false,.int .i64 0,.int .i64 0,.int .i64 0] 151 (0,0))):=block_below (heap_alloc_new w _) hb1
 have hs1:w.heap.size<w1.heap.size:=row_lt HG1.out
 have z0:w1.cell? ⟨w.heap.size,0,none⟩=some (.int .i64 0):=cell_of_row HG1.out rfl
 have z1:w1.cell? ⟨w.heap.size,1,none⟩=some (.int .i64 0):=cell_of_row HG1.out rfl
 have z2:w1.cell? ⟨w.heap.size,2,none⟩=some (.bool false):=cell_of_row HG1.out rfl
 have z3:w1.cell? ⟨w.heap.size,3,none⟩=some (.int .i64 0):=cell_of_row HG1.out rfl
 have z4:w1.cell? ⟨w.heap.size,4,none⟩=some (.int .i64 0):=cell_of_row HG1.out rfl
 have z5:w1.cell? ⟨w.heap.size,5,none⟩=some (.int .i64 0):=cell_of_row HG1.out rfl
 have f0:w1.frozen? ⟨w.heap.size,0,none⟩=false:=by simp[World.frozen?,HG1.out]
 have f1:w1.frozen? ⟨w.heap.size,1,none⟩=false:=by simp[World.frozen?,HG1.out]
 have f2:w1.frozen? ⟨w.heap.size,2,none⟩=false:=by simp[World.frozen?,HG1.out]
 have f3:w1.frozen? ⟨w.heap.size,3,none⟩=false:=by simp[World.frozen?,HG1.out]
 have f4:w1.frozen? ⟨w.heap.size,4,none⟩=false:=by simp[World.frozen?,HG1.out]
 have f5:w1.frozen? ⟨w.heap.size,5,none⟩=false:=by simp[World.frozen?,HG1.out]
 clear hb1 r2
 by_cases hge:ge=0
 ·subst hge
  have e0:errAt x sn 0= .nilIface:=by unfold errAt;simp
  obtain⟨gs0,gl0,gsl⟩:=HOKH.out rfl
  have gsl':(x:Int)+gs+gl≤140737488355328:=by omega
  rw[e0]
  clear e0 HRD HS HOKH hsz0 hsz1 hxy hy hxy' hy' hm hRl
  go_upto_region 4 with fail
  have HX:Hid (Below w.heap.size w (w1.alloc (.cells #[.int .i64 gc,.bool gb,.int .i64 gn,.int .i64 gs,.int .i64 gl] 179))):=HB1.out.alloc HB1.out.size _
  have hZ:(w1.alloc (.cells #[.int .i64 gc,.bool gb,.int .i64 gn,.int .i64 gs,.int .i64 gl] 179)).heap[w.heap.size]? =some (.cells #[.int .i64 0,.int .i64 0,.bool false,.int .i64 0,.int .i64 0,.int .i64 0] 151 (0,0)):=(Below.heap_alloc w1 _ _ hs1).trans HG1.out
  have hH:(w1.alloc (.cells #[.int .i64 gc,.bool gb,.int .i64 gn,.int .i64 gs,.int .i64 gl] 179)).heap[w1.heap.size]? =some (.cells #[.int .i64 gc,.bool gb,.int .i64 gn,.int .i64 gs,.int .i64 gl] 179 (0,0)):=heap_alloc_new w1 _
  clear z0 z1 z2 z3 z4 z5 f0 f1 f2 f3 f4 f5
  generalize w1.alloc (.cells #[.int .i64 gc,.bool gb,.int .i64 gn,.int .i64 gs,.int .i64 gl] 179)=wX at HX hZ hH ⊢
  obtain⟨hb,hhb⟩:∃hb,w1.heap.size=hb:=⟨_,rfl⟩
  rw[hhb]at hH hs1 ⊢
  have hne:w.heap.size≠hb:=by omega
  clear hhb HG1 HB1
  have HZ:=hide hZ
  have HH:=hide hH
  have h3:wX.cell? ⟨hb,3,none⟩=some (.int .i64 gs):=cell_of_row hH rfl
  have hbl:hb<wX.heap.size:=row_lt hH
  clear hZ hH
  go_upto_region 5 with fail
  have HSS:Hid (∀w':World,w'.heap[hb]? =some (.cells #[.int .i64 gc,.bool gb,.int .i64 gn,.int .i64 gs,.int .i64 gl] 179 (0,0))→w'.cell? ⟨hb,0,none⟩=some (.int .i64 gc)∧w'.cell? ⟨hb,1,none⟩=some (.bool gb)∧w'.cell? ⟨hb,2,none⟩=some (.int .i64 gn)∧w'.cell? ⟨hb,3,none⟩=some (.int .i64 gs)∧w'.cell? ⟨hb,4,none⟩=some (.int .i64 gl)):=fun w' q=>⟨cell_of_row q rfl,cell_of_row q rfl,cell_of_row q rfl,cell_of_row q rfl,cell_of_row q rfl⟩
  obtain⟨p0,p1,p2,p3,p4⟩:=HSS.out _ HH.out
  clear h3
  go_region_held_law (fun w'=>w'.cell? ⟨hb,0,none⟩=some (.int .i64 gc)∧w'.cell? ⟨hb,1,none⟩=some (.bool gb)∧w'.cell? ⟨hb,2,none⟩=some (.int .i64 gn)∧w'.cell? ⟨hb,3,none⟩=some (.int .i64 gs)∧w'.cell? ⟨hb,4,none⟩=some (.int .i64 gl)) (go_keep) ((go_at_call 157;refine(HFO.out _).mono ?_;rintro e w2 ⟨rfl,hb2⟩;have hH2:=block_below (w:=wX.drew) HH.out hb2;have hZ2:=block_below (w:=wX.drew) HZ.out hb2;have HB2:=hide (HX.out.drew.trans (hb2.mono HX.out.drew.size));obtain⟨q0,q1,q2,q3,q4⟩:=HSS.out _ hH2;have hlh:=row_lt hH2;have hlz:=row_lt hZ2;clear hH2;have z0:=cell_of_row (i:=0) hZ2 rfl;have z1:=cell_of_row (i:=1) hZ2 rfl;have z2:=cell_of_row (i:=2) hZ2 rfl;have z3:=cell_of_row (i:=3) hZ2 rfl;have z4:=cell_of_row (i:=4) hZ2 rfl;have z5:=cell_of_row (i:=5) hZ2 rfl;have f0:=frozen_row (i:=0) hZ2;have f1:=frozen_row (i:=1) hZ2;have f2:=frozen_row (i:=2) hZ2;have f3:=frozen_row (i:=3) hZ2;have f4:=frozen_row (i:=4) hZ2;have f5:=frozen_row (i:=5) hZ2;clear hb2 hZ2))
  have hwr:IntKind.i64.wrap ((x:Int)+gs+gl)=(x:Int)+gs+gl:=by simp[IntKind.wrap,IntKind.bits,IntKind.signed];omega
  rw[hwr]
  clear hwr p0 p1 p2 p3 p4 q0 q1 q2 q3 q4
  go_wp2_with fail
  refine bodyPost_ret (v:= .tuple #[spanV ⟨gc,gb,gn,gs,gl⟩ x,.nilIface]) (by simp[results,Tryz.results114,go_sem,spanV,z0,z1,z2,z3,z4,z5]) rfl ?_
  refine⟨?_,by first|exact .inl ⟨rfl,rfl⟩|rfl⟩
  exact(((((HB2.out.setCell (p:=⟨w.heap.size,0,none⟩) (Nat.le_refl _) _).setCell (p:=⟨w.heap.size,1,none⟩) (Nat.le_refl _) _).setCell (p:=⟨w.heap.size,2,none⟩) (Nat.le_refl _) _).setCell (p:=⟨w.heap.size,3,none⟩) (Nat.le_refl _) _).setCell (p:=⟨w.heap.size,4,none⟩) (Nat.le_refl _) _).setCell (p:=⟨w.heap.size,5,none⟩) (Nat.le_refl _) _
 ·have HGE:Hid (ge≠0):=hge
  obtain⟨za,hv⟩:∃za,errAt x sn ge=fault x za:=by
   unfold errAt
   rw[if_neg hge]
   repeat' split
   all_goals exact⟨_,rfl⟩
  have HV:Hid (errAt x sn ge=fault x za):=hv
  rw[hv]
  unfold fault
  clear hge hv HFO HRD HS HOKH hsz0 hsz1 hxy hy hxy' hy' hm hRl
  go_upto_region 3 with fail
  have HX:Hid (Below w.heap.size w (w1.alloc (.cells #[.int .i64 gc,.bool gb,.int .i64 gn,.int .i64 gs,.int .i64 gl] 179))):=HB1.out.alloc HB1.out.size _
  have hZ:(w1.alloc (.cells #[.int .i64 gc,.bool gb,.int .i64 gn,.int .i64 gs,.int .i64 gl] 179)).heap[w.heap.size]? =some (.cells #[.int .i64 0,.int .i64 0,.bool false,.int .i64 0,.int .i64 0,.int .i64 0] 151 (0,0)):=(Below.heap_alloc w1 _ _ hs1).trans HG1.out
  clear z0 z1 z2 z3 z4 z5 f0 f1 f2 f3 f4 f5
  generalize w1.alloc (.cells #[.int .i64 gc,.bool gb,.int .i64 gn,.int .i64 gs,.int .i64 gl] 179)=wX at HX hZ ⊢
  have z0:wX.cell? ⟨w.heap.size,0,none⟩=some (.int .i64 0):=cell_of_row hZ rfl
  have z1:wX.cell? ⟨w.heap.size,1,none⟩=some (.int .i64 0):=cell_of_row hZ rfl
  have z2:wX.cell? ⟨w.heap.size,2,none⟩=some (.bool false):=cell_of_row hZ rfl
  have z3:wX.cell? ⟨w.heap.size,3,none⟩=some (.int .i64 0):=cell_of_row hZ rfl
  have z4:wX.cell? ⟨w.heap.size,4,none⟩=some (.int .i64 0):=cell_of_row hZ rfl
  have z5:wX.cell? ⟨w.heap.size,5,none⟩=some (.int .i64 0):=cell_of_row hZ rfl
  have f0:wX.frozen? ⟨w.heap.size,0,none⟩=false:=by simp[World.frozen?,hZ]
  have f1:wX.frozen? ⟨w.heap.size,1,none⟩=false:=by simp[World.frozen?,hZ]
  have f2:wX.frozen? ⟨w.heap.size,2,none⟩=false:=by simp[World.frozen?,hZ]
  have f3:wX.frozen? ⟨w.heap.size,3,none⟩=false:=by simp[World.frozen?,hZ]
  have f4:wX.frozen? ⟨w.heap.size,4,none⟩=false:=by simp[World.frozen?,hZ]
  have f5:wX.frozen? ⟨w.heap.size,5,none⟩=false:=by simp[World.frozen?,hZ]
  clear hZ hs1
  go_wp2_with fail
  refine bodyPost_ret (v:= .tuple #[span0,fault x za]) (by simp[results,Tryz.results114,go_sem,span0,fault,z0,z1,z2,z3,z4,z5]) rfl ?_
  refine⟨?_,.inr ⟨HGE.out,by rw[HV.out]⟩⟩
  exact(((((HX.out.setCell (p:=⟨w.heap.size,0,none⟩) (Nat.le_refl _) _).setCell (p:=⟨w.heap.size,1,none⟩) (Nat.le_refl _) _).setCell (p:=⟨w.heap.size,2,none⟩) (Nat.le_refl _) _).setCell (p:=⟨w.heap.size,3,none⟩) (Nat.le_refl _) _).setCell (p:=⟨w.heap.size,4,none⟩) (Nat.le_refl _) _).setCell (p:=⟨w.heap.size,5,none⟩) (Nat.le_refl _) _
structure PC(E:Env)(W:World)(a:Option Addr)(gb:Nat)(sn:Sn→Addr):Prop where
 sch:Sch W a E.s
 right:RightP E.s
 sok:SchOk E.s
 bg:∀i,i<E.s.length→∀c m,E.bg i c m=true↔Beg E.s i c m
 ok:∀k t,E.ok k t=true↔ContentOk k t
 size:E.d.size≤4000
 ab:AbR W gb E.s
 lay:Lay W sn
def AfterD(E:Env)(W:World)(R:Nat)(a:Option Addr)(c gb:Nat)(sn:Sn→Addr)(o:Out)(tree:List Vl)(w:World)(e:Ending)(w':World):Prop:=
 Fr R w w'∧((∃vs z,o= .ok (vs,z)∧e= .returned .nilIface∧RdD W w' R a E.s.length c gb E.d (tree++vs))∨
  ∃k q tree',o= .error (k,q)∧e= .returned (fault q (sn (snOf k)))∧RdD W w' R a E.s.length c gb E.d tree')
theorem AfterD.of{E:Env}{W:World}{R:Nat}{a:Option Addr}{c gb:Nat}{sn:Sn→Addr}{o:Out}{tree:List Vl}{w w1 w':World}{e:Ending}(h:AfterD E W R a c gb sn o tree w1 e w')(hf:Fr R w w1):AfterD E W R a c gb sn o tree w e w':=⟨hf.trans h.1,h.2⟩
def NodeP(E:Env)(W:World)(R:Nat)(a:Option Addr)(c gb:Nat)(sn:Sn→Addr)(f:Nat):Prop:=
 ∀(i x y:Nat) (g:Hd) (dp:Int) (o:Out) (tree:List Vl) (w:World),E.hd x y=(0,g)→rdF E f i x y dp=some o→i<E.s.length→x≤y→y≤E.d.size→1≤dp→dp≤13→Room tree f x y→RdD W w R a E.s.length c gb E.d tree→
  Calls Tryz.prog 78 #[.pointer (some ⟨R,0,none⟩),.int .i64 i,.int .i64 dp,spanV g x] w fun e w'=>AfterD E W R a c gb sn o tree w e w'
abbrev spCells(g:Hd)(x:Nat):Array Value:=#[.int .i64 g.c,.int .i64 g.n,.bool g.b,.int .i64 x,.int .i64 ((x:Int)+g.s),.int .i64 ((x:Int)+g.s+g.l)]
theorem any_any(E:Env)(W:World)(R:Nat)(a:Option Addr)(c gb:Nat)(sn:Sn→Addr)(hc:PC E W a gb sn)(g:Hd)(x tz:Nat)(dp:Int)(tree:List Vl)(w:World)(htz:(tz:Int)=(x:Int)+g.s+g.l)(hxz:x≤tz)(hz:tz≤E.d.size)(hroom:tree.length≤1099511627776)(hI:RdD W w R a E.s.length c gb E.d tree):
 Calls Tryz.prog 159 #[.pointer (some ⟨R,0,none⟩),.int .i64 dp,spanV g x] w fun e w'=>AfterD E W R a c gb sn (if 12<dp then .error (10,x)else .ok ([⟨14,E.d.extract x tz,0,0⟩],tz)) tree w e w':=by
 have HI:Hid (RdD W w R a E.s.length c gb E.d tree):=hI
 have HND:Hid (∀wq,Below w.heap.size w wq→Calls Tryz.prog 163 #[.agg (spCells g x),.int .i64 dp] wq fun e w'=>e= .returned (if 12<dp then fault x (sn .Deep)else .nilIface)∧Below wq.heap.size wq w'):=fun wq q=>notDeep_any _ _ _ _ _ _ _ wq sn ((hc.lay.below hI.bel).below q).s
 have HAD:Hid (∀wq,RdD W wq R a E.s.length c gb E.d tree→Calls Tryz.prog 162 #[.pointer (some ⟨R,0,none⟩),.agg #[.int .i64 14,.string (E.d.extract x tz),.int .i64 0,.int .i64 0]] wq fun e' w'=>e'= .returned (.tuple #[])∧RdD W w' R a E.s.length c gb E.d (tree++[⟨14,E.d.extract x tz,0,0⟩])∧Fr R wq w'):=fun wq q=>add_any W wq R a _ c gb E.d tree 14 _ 0 0 q hroom
 have hRl:R<w.heap.size:=lt_of_cell hI.r0
 have hds:=hc.size
 unfold spanV
 rw[←htz]
 unfold spCells at HND
 rw[←htz]at HND
 clear hI hc hroom htz
 by_cases hdp:12<dp
 ·rw[if_pos hdp]
  have HND':Hid (∀wq,Below w.heap.size w wq→Calls Tryz.prog 163 #[.agg #[.int .i64 g.c,.int .i64 g.n,.bool g.b,.int .i64 x,.int .i64 ((x:Int)+g.s),.int .i64 tz],.int .i64 dp] wq fun e w'=>e= .returned (fault x (sn .Deep))∧Below wq.heap.size wq w'):=fun wq q=>by
   have:=HND.out wq q
   rw[if_pos hdp]at this
   exact this
  unfold fault at HND'
  clear HND hdp
  go_enter Tryz.func159,Tryz.ntmps159
  go_wp2_with fail
  refine(HND'.out _ ((Below.refl _ _).alloc (Nat.le_refl _) _)).mono ?_
  rintro e w1 ⟨rfl,hb1⟩
  have HB1:Hid (Below w.heap.size w w1):=below_alloc hb1
  clear hb1
  go_wp2
  go_ret
  exact⟨Fr.of_below HB1.out,.inr ⟨10,x,tree,rfl,rfl,HI.out.below HB1.out⟩⟩
 ·rw[if_neg hdp]
  have HND':Hid (∀wq,Below w.heap.size w wq→Calls Tryz.prog 163 #[.agg #[.int .i64 g.c,.int .i64 g.n,.bool g.b,.int .i64 x,.int .i64 ((x:Int)+g.s),.int .i64 tz],.int .i64 dp] wq fun e w'=>e= .returned .nilIface∧Below wq.heap.size wq w'):=fun wq q=>by
   have:=HND.out wq q
   rw[if_neg hdp]at this
   exact this
  clear HND hdp
  have hxz':(x:Int)≤tz:=by omega
  have hz':(tz:Int)≤E.d.size:=by omega
  go_enter Tryz.func159,Tryz.ntmps159
  go_wp2_with fail
  refine(HND'.out _ ((Below.refl _ _).alloc (Nat.le_refl _) _)).mono ?_
  rintro e w1 ⟨rfl,hb1⟩
  have HB1:Hid (Below w.heap.size w w1):=below_alloc hb1
  have HG1:Hid (w1.heap[w.heap.size]? =some (.cells #[.int .i64 g.c,.int .i64 g.n,.bool g.b,.int .i64 x,.int .i64 ((x:Int)+g.s),.int .i64 tz] 151 (0,0))):=block_below (heap_alloc_new w _) hb1
  have HI1:Hid (RdD W w1 R a E.s.length c gb E.d tree):=HI.out.below HB1.out
  clear hb1
  have q1:w1.cell? ⟨R,2,none⟩=some (.string E.d):=HI1.out.r2
  have q2:w1.cell? ⟨w.heap.size,3,none⟩=some (.int .i64 x):=cell_of_row HG1.out rfl
  have q3:w1.cell? ⟨w.heap.size,5,none⟩=some (.int .i64 tz):=cell_of_row HG1.out rfl
  have hR1:R<w1.heap.size:=lt_of_cell q1
  have hB1:w.heap.size<w1.heap.size:=lt_of_cell q2
  have hne:w.heap.size≠R:=by omega
  go_upto_region 4 with fail
  go_region_held_law (fun w'=>w'.cell? ⟨R,2,none⟩=some (.string E.d)∧w'.cell? ⟨w.heap.size,3,none⟩=some (.int .i64 x)∧w'.cell? ⟨w.heap.size,5,none⟩=some (.int .i64 tz)) (go_keep) ((go_at_call 162;refine(HAD.out _ (HI1.out.below (Below.refl _ _).drew)).mono ?_;rintro e w3 ⟨rfl,hI3,hF3⟩;have p1:=hI3.r2;have hG3:=hF3 _ _ _ hne (by decide) HG1.out;have p2:w3.cell? ⟨w.heap.size,3,none⟩=some (.int .i64 x):=cell_of_row hG3 rfl;have p3:w3.cell? ⟨w.heap.size,5,none⟩=some (.int .i64 tz):=cell_of_row hG3 rfl;have HI3:=hide hI3;have HF3:Hid (Fr R w w3):=(Fr.of_below (HB1.out.drew)).trans hF3;clear hI3 hF3 hG3))
  go_wp2
  go_ret
  exact⟨HF3.out,.inl ⟨_,_,rfl,rfl,HI3.out⟩⟩
abbrev ndCells(n:Nd)(ka:Option Addr)(kc:Nat):Array Value:=#[.int .i64 n.kind,.int .i64 n.tag,.int .i64 n.mode,.slice ka n.kids.length kc]
theorem choice_p(E:Env)(W:World)(R:Nat)(a:Option Addr)(c gb:Nat)(sn:Sn→Addr)(f:Nat)(hc:PC E W a gb sn)(hN:NodeP E W R a c gb sn f)(i:Nat)(hi:i<E.s.length)(ka:Option Addr)(kc:Nat)(hka:KidsIn W ka (nd E.s i).kids)(hkc:(nd E.s i).kids.length≤kc)
 (g:Hd)(x tz:Nat)(dp:Int)(o:Out)(tree:List Vl)(w:World)(hg:E.hd x tz=(0,g))(hm:choiceF E (rdF E f) g x tz dp (nd E.s i).kids 0=some o)(hxz:x≤tz)(hz:tz≤E.d.size)(hd1:1≤dp)(hd2:dp≤13)(hroom:Room tree (f+1) x tz)(hI:RdD W w R a E.s.length c gb E.d tree):
 Calls Tryz.prog 158 #[.pointer (some ⟨R,0,none⟩),.agg (ndCells (nd E.s i) ka kc),.int .i64 dp,spanV g x] w fun e w'=>AfterD E W R a c gb sn o tree w e w':=by
 have HC:Hid (PC E W a gb sn):=hc
 have HN:Hid (NodeP E W R a c gb sn f):=hN
 have HG:Hid (E.hd x tz=(0,g)):=hg
 have HKI:Hid (KidsIn W ka (nd E.s i).kids):=hka
 have HM:Hid (choiceF E (rdF E f) g x tz dp ((nd E.s i).kids.drop 0) 0=some o):=hm
 have HI:Hid (RdD W w R a E.s.length c gb E.d tree):=hI
 have hRl:R<w.heap.size:=lt_of_cell hI.r0
 have HRO:Hid (Room tree (f+1) x tz):=hroom
 have HKR:Hid (∀j,j<(nd E.s i).kids.length→∃t:Nat,(kd (nd E.s i) j).node=t∧t<E.s.length):=fun j hj=>by
  have:=hc.right.fine.within i hi _ (kd_mem hj)
  exact⟨(kd (nd E.s i) j).node.toNat,by omega,by omega⟩
 have hk8:=hc.right.fine.eight i hi
 have hs40:=hc.right.fine.len
 have HAT:Hid (∀wq,Calls Tryz.prog 60 #[.int .i64 x,.iface 291 (.pointer (some (sn .Tag)))] wq fun e w'=>e= .returned (fault x (sn .Tag))∧w'=wq):=fun wq=>at_any x _ wq
 unfold fault at HAT
 have HA:Hid (∀A B,Below w.heap.size w ((w.alloc A).alloc B)):=fun A B=>((Below.refl w.heap.size w).alloc (Nat.le_refl _) A).alloc (by simp) B
 clear hc hN hka hm hI hroom hi hg
 unfold spanV ndCells
 go_enter Tryz.func158,Tryz.ntmps158
 go_wp2
 generalize hW0:(w.alloc (.cells #[.int .i64 (nd E.s i).kind,.int .i64 (nd E.s i).tag,.int .i64 (nd E.s i).mode,.slice ka (nd E.s i).kids.length kc] 58)).alloc (.cells #[.int .i64 g.c,.int .i64 g.n,.bool g.b,.int .i64 x,.int .i64 ((x:Int)+g.s),.int .i64 ((x:Int)+g.s+g.l)] 151)=w0
 have HB0:Hid (Below w.heap.size w w0):=by show Below w.heap.size w w0;rw[←hW0];exact HA.out _ _
 have HG2:Hid (w0.heap[w.heap.size+1]? =some (.cells (spCells g x) 151 (0,0))):=by
  show w0.heap[w.heap.size+1]? =_
  rw[←hW0]
  have q:=heap_alloc_new (w.alloc (.cells #[.int .i64 (nd E.s i).kind,.int .i64 (nd E.s i).tag,.int .i64 (nd E.s i).mode,.slice ka (nd E.s i).kids.length kc] 58)) (.cells (spCells g x) 151)
  simpa using q
 have HI0:Hid (RdD W w0 R a E.s.length c gb E.d tree):=HI.out.below HB0.out
 clear hW0 HA
 go_loopw [14] (fun vj wq=>∃j:Nat,j≤(nd E.s i).kids.length∧vj= .int .i64 j∧choiceF E (rdF E f) g x tz dp ((nd E.s i).kids.drop j) j=some o∧Below w0.heap.size w0 wq) (fun vj _=>(nd E.s i).kids.length-(intOf vj).toNat)
 case atStart=>exact⟨0,Nat.zero_le _,rfl,HM.out,Below.refl _ _⟩
 case round=>
  obtain⟨j,hj,rfl,hmj,hbr⟩:=hrel
  have HMJ:Hid (choiceF E (rdF E f) g x tz dp ((nd E.s i).kids.drop j) j=some o):=hmj
  have HB:Hid (Below w0.heap.size w0 wr):=hbr
  have HIr:Hid (RdD W wr R a E.s.length c gb E.d tree):=HI0.out.below hbr
  have HFr:Hid (Fr R w wr):=(Fr.of_below HB0.out).below hbr
  have HR2:Hid (wr.heap[w.heap.size+1]? =some (.cells (spCells g x) 151 (0,0))):=block_below HG2.out hbr
  have hB2:w.heap.size+1<wr.heap.size:=row_lt HR2.out
  clear hmj hbr
  by_cases hlt:j<(nd E.s i).kids.length
  ·have hlt':(j:Int)<(nd E.s i).kids.length:=by omega
   obtain⟨kb,ko,rfl,kcl⟩:=HKI.out j hlt
   obtain⟨t,ht,htl⟩:=HKR.out j hlt
   obtain⟨k1,k2,k3⟩:=kcl.below HIr.out.bel
   obtain⟨ko2,hko2⟩:∃b,((nd E.s i).kids.getD j kd0).opt=b:=⟨_,rfl⟩
   obtain⟨kd2,hkd2⟩:∃b,((nd E.s i).kids.getD j kd0).dflt=b:=⟨_,rfl⟩
   have ht2:((nd E.s i).kids.getD j kd0).node=t:=ht
   rw[ht2]at k1
   rw[hko2]at k2
   rw[hkd2]at k3
   have htn:(kd (nd E.s i) j).node.toNat=t:=by omega
   have HT:Hid ((kd (nd E.s i) j).node.toNat=t):=htn
   have hkbl:kb<wr.heap.size:=lt_of_cell k1
   clear kcl ht htn ht2 hko2 hkd2
   go_upto_region 4 with fail
   generalize hW4:wr.alloc (.cells #[.int .i64 t,.bool ko2,.string kd2] 55)=w4
   have HB4:Hid (Below wr.heap.size wr w4):=by show Below wr.heap.size wr w4;rw[←hW4];exact(Below.refl _ _).alloc (Nat.le_refl _) _
   have HK4:Hid (w4.heap[wr.heap.size]? =some (.cells #[.int .i64 t,.bool ko2,.string kd2] 55 (0,0))):=by show w4.heap[wr.heap.size]? =_;rw[←hW4];exact heap_alloc_new wr _
   have HS4:Hid (w4.heap[w.heap.size+1]? =some (.cells (spCells g x) 151 (0,0))):=block_below HR2.out HB4.out
   have HI4:Hid (RdD W w4 R a E.s.length c gb E.d tree):=HIr.out.below HB4.out
   clear hW4 k1 k2 k3
   have HBG:Hid (∀x:Ext w4,Calls Tryz.prog 187 #[.slice (some ⟨gb,0,none⟩) E.s.length E.s.length,.int .i64 t,.agg #[.int .i64 g.c,.int .i64 g.n]] x.v fun e w''=>e= .returned (.bool (E.bg t g.c g.n))∧∃y:Ext w4,w''=y.v):=fun x=>
    Ext.callsR (HC.out.bg t htl g.c g.n) (has_any E.s gb t g.c g.n x.v (HC.out.ab.below (HI4.out.bel.trans (x.h.mono HI4.out.bel.size))) htl hs40)
   have X0:∀x:Ext w4,x.v.cell? ⟨R,1,none⟩=some (.slice (some ⟨gb,0,none⟩) E.s.length E.s.length):=fun x=>x.cell HI4.out.r1
   have X2:∀x:Ext w4,x.v.cell? ⟨wr.heap.size,0,none⟩=some (.int .i64 t):=fun x=>x.cell (cell_of_row HK4.out rfl)
   have X3:∀y:Ext w4,y.v.cell? ⟨w.heap.size+1,0,none⟩=some (.int .i64 g.c):=fun y=>y.cell (cell_of_row HS4.out rfl)
   have X4:∀y:Ext w4,y.v.cell? ⟨w.heap.size+1,1,none⟩=some (.int .i64 g.n):=fun y=>y.cell (cell_of_row HS4.out rfl)
   (have ne:=ext_ne;refine wp_region_ext (by kernel_rfl) (by kernel_rfl) ?_;(repeat(first|go_big_quiet_skip|(go_big_quiet_want;go_big_quiet_op;first|go_big_quiet_on|(apply Exists.intro;refine⟨fun x=>?_,?_⟩;(·(exact HBG.out x));go_big_quiet_on))));refine nil_ext ?_)
   intro w5 hb5
   have HB5:Hid (Below wr.heap.size wr w5):=HB4.out.trans (hb5.mono HB4.out.size)
   have HI5:Hid (RdD W w5 R a E.s.length c gb E.d tree):=HI4.out.below hb5
   have HF5:Hid (Fr R w w5):=HFr.out.below HB5.out
   have HK5:Hid (w5.heap[wr.heap.size]? =some (.cells #[.int .i64 t,.bool ko2,.string kd2] 55 (0,0))):=block_below HK4.out hb5
   have HS5:Hid (w5.heap[w.heap.size+1]? =some (.cells (spCells g x) 151 (0,0))):=block_below HS4.out hb5
   clear X0 X2 X3 X4 hb5 HBG HB4 HK4 HS4 HI4
   cases hbg:E.bg t g.c g.n
   ·have HNX:Hid (choiceF E (rdF E f) g x tz dp ((nd E.s i).kids.drop (j+1)) (j+1)=some o):=choiceF_no hlt HMJ.out (by rw[HT.out];exact hbg)
    clear hbg
    go_wp2
    go_roundw
    case rel=>exact⟨j+1,by omega,by go_num,HNX.out,HB.out.trans (HB5.out.mono HB.out.size)⟩
    case measure=>simp[intOf];omega
   ·obtain⟨o',hr,ho⟩:=choiceF_yes hlt HMJ.out (by rw[HT.out];exact hbg)
    rw[HT.out]at hr
    have HREC:Hid (rdF E f t x tz dp=some o'):=hr
    have HO:Hid ((∃u,o'= .error u∧o= .error u)∨∃vs z,o'= .ok (vs,z)∧o= .ok (⟨13,noB,j,1⟩::vs,tz)):=ho
    clear hbg hr ho
    have hl1:tree.length≤1099511627776:=by have:=HRO.out;unfold Room at this;omega
    have HRO2:Hid (Room (tree++[⟨13,⟨#[]⟩,(j:Int),1⟩]) f x tz):=by show Room _ _ _ _;have:=HRO.out;unfold Room at this ⊢;simp only[List.length_append,List.length_cons,List.length_nil];omega
    have hkl:wr.heap.size<w5.heap.size:=row_lt HK5.out
    have hne1:wr.heap.size≠R:=by have:=HB0.out.size;have:=HB.out.size;omega
    have hne2:w.heap.size+1≠R:=by omega
    go_wp2_with fail
    refine(add_any W _ R a E.s.length c gb E.d tree 13 ⟨#[]⟩ j 1 HI5.out hl1).mono ?_
    rintro e w6 ⟨rfl,hI6,hf6⟩
    have HI6:Hid (RdD W w6 R a E.s.length c gb E.d (tree++[⟨13,⟨#[]⟩,(j:Int),1⟩])):=hI6
    have HF6:Hid (Fr R w w6):=HF5.out.trans hf6
    have hK6:=hf6 _ _ _ hne1 (by decide) HK5.out
    have hS6:=hf6 _ _ _ hne2 (by decide) HS5.out
    have m0:w6.cell? ⟨wr.heap.size,0,none⟩=some (.int .i64 t):=cell_of_row hK6 rfl
    have s0:w6.cell? ⟨w.heap.size+1,0,none⟩=some (.int .i64 g.c):=cell_of_row hS6 rfl
    have s1:w6.cell? ⟨w.heap.size+1,1,none⟩=some (.int .i64 g.n):=cell_of_row hS6 rfl
    have s2:w6.cell? ⟨w.heap.size+1,2,none⟩=some (.bool g.b):=cell_of_row hS6 rfl
    have s3:w6.cell? ⟨w.heap.size+1,3,none⟩=some (.int .i64 x):=cell_of_row hS6 rfl
    have s4:w6.cell? ⟨w.heap.size+1,4,none⟩=some (.int .i64 ((x:Int)+g.s)):=cell_of_row hS6 rfl
    have s5:w6.cell? ⟨w.heap.size+1,5,none⟩=some (.int .i64 ((x:Int)+g.s+g.l)):=cell_of_row hS6 rfl
    clear hI6 hf6 hK6 hS6
    go_wp2_with fail
    refine(HN.out t x tz g dp o' _ _ HG.out HREC.out htl hxz hz hd1 hd2 HRO2.out HI6.out).mono ?_
    rintro e w7 ha7
    have HA7:Hid (AfterD E W R a c gb sn o' (tree++[⟨13,⟨#[]⟩,(j:Int),1⟩]) w6 e w7):=ha7
    clear ha7 m0 s0 s1 s2 s3 s4 s5
    have HFIN:Hid (∀e,AfterD E W R a c gb sn o' (tree++[⟨13,⟨#[]⟩,(j:Int),1⟩]) w6 e w7→AfterD E W R a c gb sn o tree w e w7):=fun e q=>by
     obtain⟨q1,q2⟩:=q
     refine⟨HF6.out.trans q1,?_⟩
     rcases HO.out with⟨u,hu,ho⟩|⟨vs,z,hu,ho⟩
     ·rcases q2 with⟨vs,z,q3,_⟩|⟨k,q,tr,q3,q4,q5⟩
      ·rw[hu]at q3;cases q3
      ·exact .inr ⟨k,q,tr,by rw[ho,←hu,q3],q4,q5⟩
     ·rcases q2 with⟨vs',z',q3,q4,q5⟩|⟨k,q,tr,q3,_⟩
      ·rw[hu]at q3
       cases q3
       refine .inl ⟨_,_,ho,q4,?_⟩
       rw[List.append_assoc]at q5
       exact q5
      ·rw[hu]at q3;cases q3
    have hcase:(e= .returned .nilIface)∨∃q z,e= .returned (fault q z):=by
     rcases HA7.out.2 with⟨_,_,_,q4,_⟩|⟨k,q,_,_,q4,_⟩
     ·exact .inl q4
     ·exact .inr ⟨q,_,q4⟩
    rcases hcase with rfl|⟨q,za,rfl⟩
    ·go_wp2
     go_ret
     exact HFIN.out _ HA7.out
    ·unfold fault
     go_wp2
     go_ret
     exact HFIN.out _ HA7.out
  ·have hlt':¬(j:Int)<(nd E.s i).kids.length:=by omega
   have ho:o= .error (4,(x:Int)):=by
    have q:=HMJ.out
    rw[List.drop_eq_nil_of_le (by omega)]at q
    unfold choiceF at q
    cases q
    rfl
   have HO:Hid (o= .error (4,(x:Int))):=ho
   have cT:=(HC.out.lay.below HIr.out.bel).s.cTag
   have hgl:=lt_of_cell cT
   simp only at hgl
   have s3:wr.cell? ⟨w.heap.size+1,3,none⟩=some (.int .i64 x):=cell_of_row HR2.out rfl
   clear ho
   go_wp2_with fail
   refine(HAT.out _).mono ?_
   rintro e w6 ⟨rfl,rfl⟩
   go_wp2
   go_ret
   exact⟨HFr.out,.inr ⟨4,x,tree,HO.out,rfl,HIr.out⟩⟩
end Go.Proofs.YtkkicodfpekbgaaGreatDoor
