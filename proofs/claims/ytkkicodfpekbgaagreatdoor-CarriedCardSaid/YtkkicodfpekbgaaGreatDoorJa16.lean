/-
Several texts in one.
-/
import Derived.Test.YtkkicodfpekbgaaGreatDoorJa15
import Derived.Test.YtkkicodfpekbgaaGreatDoorJa6
import Derived.Deep.DeepCutAuto
import Derived.Test.YtkkicodfpekbgaaGreatDoorJa11
import Derived.Test.YtkkicodfpekbgaaGreatDoorJa8
import Derived.Test.YtkkicodfpekbgaaGreatDoorJa14
namespace Go.Proofs.YtkkicodfpekbgaaGreatDoor
open Go.RowKit Go.Shelf
set_option linter.unusedSimpArgs false
set_option linter.unusedVariables false
set_option maxRecDepth 100000
set_option maxHeartbeats 8000000
attribute [local go_sem] Oper.semAt_some
theorem EwD.grown{W w:World}{R:Nat}{a:Option Addr}{n c:Nat}{ta:Option Addr}{tn tc x:Nat}{told:ByteArray}{lg:Bool}{ov:Value}(h:EwD W w R a n c ta tn tc x told lg ov){w':World}{row:Option Nat}(hg:w.grownBy w' row)
 (hr:∀g,row=some g→W.heap.size≤g∧g≠R∧∀A,w.heap[g]? ≠some (.cells A 5 (0,0))):EwD W w' R a n c ta tn tc x told lg ov:=by
 obtain⟨tv,h1,h2⟩:=h.own
 refine⟨h.bel.grown hg h.bel.size (fun k e=>(hr k e).1),h.lo,tv,?_,h2.kept hg ?_⟩
 ·rw[hg.block R (row_lt h1) (fun e=>(hr R e.symm).2.1 rfl)];exact h1
 ·rcases h2.2 with⟨rfl,_⟩|⟨g,_,cur,rfl,_,hgg,_⟩
  ·exact .inl rfl
  ·exact .inr fun q=>(hr g q.symm).2.2 cur hgg
theorem own_frE{R:Nat}{w w':World}{B:Nat}{T:TypeId}{s:Nat}{v:Value}{n:Nat}{xs:List Value}(h:w.ownsRow B T s v n xs)(hf:FrE R w w')(hT:T≠5)(hR:R<B):w'.ownsRow B T s v n xs:=by
 refine⟨h.1,?_⟩
 rcases h.2 with hn|⟨g,cap,cur,rfl,hb,hg,rest⟩
 ·exact .inl hn
 ·exact .inr ⟨g,cap,cur,rfl,hb,hf g cur T (by omega) hT hg,rest⟩
theorem own_formF{w:World}{B:Nat}{v:Value}{n:Nat}{xs:List Value}(h:w.ownsRow B 149 3 v n xs):∃bs cp,v= .slice bs n cp:=by
 rcases h.2 with⟨rfl,h0⟩|⟨g,cp,cur,rfl,_⟩
 ·exact⟨none,0,by rw[h0]⟩
 ·exact⟨_,_,rfl⟩
theorem frX_keeps{R:Nat}{w w':World}(h:FrX R w w'){A:Array Value}{T:TypeId}{z:Nat×Nat}(hR:w.heap[R]? =some (.cells A T z))(B:Nat):KeepsFrom B w w':=
 ⟨h.size,fun k o _ hk ho=>by
   by_cases hkR:k=R
   ·subst hkR
    rw[hR]at hk
    injection hk with hk
    subst hk
    cases ho
   ·exact h.stay k o hkR (fun A q=>by rw[q]at ho;cases ho) hk⟩
theorem Tryz.infoFirst:(Tryz.prog.info? 149).map (fun i=>(i.zero,i.size,i.bytes))=some (some (.agg #[.int .i64 0,.int .i64 0,.bool false]),3,24):=by kernel_rfl
theorem fold2(T:Array Value)(p q:Tmp)(u v:Value):Array.foldl (fun t (x:Tmp×Value)=>match x with|(p,v)=>t.setIfInBounds p v) T (#[p,q].zip #[u,v])=(T.setIfInBounds p u).setIfInBounds q v:=by simp
def ValAt(E:WEnv)(W:World)(R:Nat)(a:Option Addr)(c:Nat)(ta:Option Addr)(tc:Nat)(sn:Sn→Addr)(F:Nat)(dp:Int)(r:WOut)(t0:ByteArray)(l0:Bool)(o0:Option Int)(w1:World)(gk:Nat)(vi va:Value)(wr:World):Prop:=
 ∃(i x:Nat) (r':WOut) (lc:Bool) (ars:List TagI),vi= .int .i64 i∧i<E.s.length∧gk≤F∧wrF E gk i x dp=some r'∧E.t.length+1≤gk+x∧1≤gk∧x≤E.t.length∧wr.ownsRow w1.heap.size 149 3 va ars.length (acells ars)∧
  EwD W wr R a E.s.length c ta E.t.length tc x t0 lc (ovV sn o0)∧FrE R w1 wr∧Chain l0 lc ars r r'
set_option maxHeartbeats 16000000 in
theorem evalue_step(E:WEnv)(W:World)(R:Nat)(a:Option Addr)(c:Nat)(ta:Option Addr)(tc:Nat)(sn:Sn→Addr)(hc:EC E W a ta sn)(htc:E.t.length≤tc)(F:Nat)(hN:∀g,g<F→NodeE E W R a c ta tc sn g):NodeE E W R a c ta tc sn F:=by
 intro i x dp r t0 l0 o0 w e hi hx hfx hf1 hd1 hd2 h4 hI
 have HC:=hide hc
 have HNN:=hide hN
 have HI:=hide hI
 have HTC:=hide htc
 have hlen:=hc.len
 have HLEN:=hide hlen
 obtain⟨bs,cp,hform⟩:∃bs cp,∃tvx,tvx=Value.slice bs t0.size cp∧w.heap[R]? =some (ewObj a E.s.length c ta E.t.length tc x tvx l0 (ovV sn o0)):=by
  obtain⟨tv,h1,h2⟩:=hI.own
  obtain⟨bs,cp,rfl,_⟩:=own8 h2
  exact⟨bs,cp,_,rfl,h1⟩
 obtain⟨_,rfl,hown⟩:=hform
 have hRl:R<w.heap.size:=row_lt hown
 have HE:=hide e
 have HDP:=hide (And.intro hd1 hd2)
 have hB1:Below w.heap.size w ((w.alloc (.cells #[.pointer (some ⟨R,0,none⟩)] 138)).alloc (.cells #[.int .i64 t0.size] 3)):=((Below.refl w.heap.size w).alloc (Nat.le_refl _) _).alloc (by simp) _
 have hG1:((w.alloc (.cells #[.pointer (some ⟨R,0,none⟩)] 138)).alloc (.cells #[.int .i64 t0.size] 3)).heap[w.heap.size]? =some (.cells #[.pointer (some ⟨R,0,none⟩)] 138 (0,0)):=block_below (heap_alloc_new w _) ((Below.refl _ _).alloc (Nat.le_refl _) _)
 have hG2:((w.alloc (.cells #[.pointer (some ⟨R,0,none⟩)] 138)).alloc (.cells #[.int .i64 t0.size] 3)).heap[w.heap.size+1]? =some (.cells #[.int .i64 t0.size] 3 (0,0)):=by
  simpa using heap_alloc_new (w.alloc (.cells #[.pointer (some ⟨R,0,none⟩)] 138)) (.cells #[.int .i64 t0.size] 3)
 have hg3:=block_below hown ((Below.refl w.heap.size w).alloc (Nat.le_refl _) (.cells #[.pointer (some ⟨R,0,none⟩)] 138))
 unfold ewObj at hg3
 have c3:(w.alloc (.cells #[.pointer (some ⟨R,0,none⟩)] 138)).cell? ⟨R,3,none⟩=some (.slice bs t0.size cp):=by simp[World.cell?,hg3]
 have hsz1:((w.alloc (.cells #[.pointer (some ⟨R,0,none⟩)] 138)).alloc (.cells #[.int .i64 t0.size] 3)).heap.size=w.heap.size+1+1:=by simp
 clear hc hN hI htc e hown hd1 hd2 hg3
 refine(callsIn_wide (n:=3)).1 (callsIn_of_wp_marks Tryz.func75 rfl trivial ?_ rfl)
 refine wpIn_wide.2 ?_
 simp only[Tryz.ntmps75,List.size_toArray,List.length_cons,List.length_nil,Nat.reduceAdd,Nat.reduceSub,Array.replicate_succ,Array.replicate_zero,List.push_toArray,List.append_toArray,List.nil_append,List.cons_append]
 go_upto_region 2 with fail
 obtain⟨wb,hwb⟩:∃wb,w.heap.size=wb:=⟨_,rfl⟩
 obtain⟨sb,hsb⟩:∃sb,w.heap.size+1=sb:=⟨_,rfl⟩
 rw[hsb]at hG2 hsz1 ⊢
 rw[hwb]at hG1 ⊢
 generalize(w.alloc (.cells #[.pointer (some ⟨R,0,none⟩)] 138)).alloc (.cells #[.int .i64 t0.size] 3)=w1 at hB1 hG1 hG2 hsz1 ⊢
 have hneW:wb≠R:=by omega
 have hneS:sb≠R:=by omega
 have HB1:=hide hB1
 have HG1:=hide hG1
 have HG2:=hide hG2
 have HI1:=hide (HI.out.below hB1)
 have hR1:R<w1.heap.size:=by have:=hB1.size;omega
 have hW1:W.heap.size≤w1.heap.size:=HI1.out.bel.size
 have HSZ:Hid (∀wq,FrE R w1 wq→w1.heap.size≤wq.heap.size):=fun wq q=>by have:=row_lt (q _ _ _ hneS (by decide) HG2.out);omega
 clear hB1 hG1 hG2 hwb hsb c3 hRl hsz1
 go_wp2_with fail
 go_loopg [1,8] F (fun gk vi va wr=>ValAt E W R a c ta tc sn F dp r t0 l0 o0 w1 gk vi va wr)
 case atStart=>exact⟨i,x,r,l0,[],rfl,hi,Nat.le_refl _,HE.out,hfx,hf1,hx,World.ownsRow_nil _ _ _ _,HI1.out,fun _ _ _ _ _ h=>h,Chain.start l0 r⟩
 case round=>
  clear hi hfx hf1 hx HE HI HI1
  obtain⟨i,x,r',lc,ars,rfl,hi,hgF,hE,hfx,hf1,hx,hown,hEw,hFr,hCh⟩:=hrel
  obtain⟨G,rfl⟩:∃G,gk=G+1:=⟨gk-1,by omega⟩
  obtain⟨bsO,cpO,rfl⟩:=own_formF hown
  have HEW:=hide hEw
  have HOW:=hide hown
  have HFR:=hide hFr
  have HCH:=hide hCh
  have HEE:=hide hE
  have HHI:=hide hi
  obtain⟨b,o,ka,kc,hab,ncl,hkc,hkm,hka⟩:=HC.out.wc.sch i hi
  have hk8:=count8 HC.out.wc.right.2.2.1 hi
  obtain⟨hk1,hk14,hT1,hT2,hT3,hT4,hT5⟩:=tagged_of HC.out.wc.right hi
  obtain⟨N,hN⟩:∃N,nd E.s i=N:=⟨_,rfl⟩
  have HN:=hide hN
  rw[hN]at ncl hkc hka hk8 hk1 hk14 hT1 hT2 hT3 hT4 hT5
  have HKA:=hide hka
  have HKM:=hide hkm
  obtain⟨n0,n1,n2,n3⟩:=ncl
  have hbW:=HEW.out.bel
  have m0:wr.cell? ⟨b,o+i*4,none⟩=some (.int .i64 N.kind):=(hbW.cell (lt_of_cell n0)).trans n0
  have m1:wr.cell? ⟨b,o+i*4+1,none⟩=some (.int .i64 N.tag):=(hbW.cell (lt_of_cell n1)).trans n1
  have m2:wr.cell? ⟨b,o+i*4+2,none⟩=some (.int .i64 N.mode):=(hbW.cell (lt_of_cell n2)).trans n2
  have m3:wr.cell? ⟨b,o+i*4+3,none⟩=some (.slice ka N.kids.length kc):=(hbW.cell (lt_of_cell n3)).trans n3
  have hlb:=lt_of_cell m0
  simp only at hlb
  have hgw:=HFR.out _ _ _ hneW (by decide) HG1.out
  have p0:wr.cell? ⟨wb,0,none⟩=some (.pointer (some ⟨R,0,none⟩)):=cell_of_row hgw rfl
  have hlw:=row_lt hgw
  obtain⟨tv,hrow,_⟩:=HEW.out.own
  unfold ewObj at hrow
  have r0:wr.cell? ⟨R,0,none⟩=some (.slice (some ⟨b,o,none⟩) E.s.length c):=by rw[←hab];simp[World.cell?,hrow]
  have hRr:R<wr.heap.size:=lt_of_cell r0
  have hi':(i:Int)<(E.s.length:Int):=by omega
  have HTK:Hid (∀wq,EwD W wq R a E.s.length c ta E.t.length tc x t0 lc (ovV sn o0)→Calls Tryz.prog 109 #[.pointer (some ⟨R,0,none⟩),.agg #[.int .i64 N.kind,.int .i64 N.tag,.int .i64 N.mode,.slice ka N.kids.length kc],.int .i64 dp] wq fun e w'=>RetTk W R a E.s.length c ta E.t tc x t0 lc (ovV sn o0) sn N dp wq e w'):=fun wq q=>
   take_any W wq R a E.s.length c ta E.t tc x t0 lc (ovV sn o0) sn N ka kc dp HC.out.lay hk8 HLEN.out HTC.out hx (fun j hj=>⟨by have:=HC.out.txt hj;omega,HC.out.wc.tree j hj⟩) q
  have hB2:Below wr.heap.size wr (wr.alloc (.cells #[.int .i64 N.kind,.int .i64 N.tag,.int .i64 N.mode,.slice ka N.kids.length kc] 58)):=(Below.refl _ _).alloc (Nat.le_refl _) _
  have hGN:(wr.alloc (.cells #[.int .i64 N.kind,.int .i64 N.tag,.int .i64 N.mode,.slice ka N.kids.length kc] 58)).heap[wr.heap.size]? =some (.cells #[.int .i64 N.kind,.int .i64 N.tag,.int .i64 N.mode,.slice ka N.kids.length kc] 58 (0,0)):=heap_alloc_new wr _
  have HB2:=hide hB2
  have HGN:=hide hGN
  have hneN:wr.heap.size≠R:=by omega
  clear hEw hown hFr hCh hE hi hN hka hkm n0 n1 n2 n3 hbW hgw hrow hab hB2 hGN
  go_upto_region 4 with fail
  obtain⟨nb,hnb⟩:∃nb,wr.heap.size=nb:=⟨_,rfl⟩
  rw[hnb]at HGN hneN ⊢
  have HEW2:=hide (HEW.out.below HB2.out)
  have HOW2:=hide (own_below HOW.out HB2.out)
  have HFR2:Hid (FrE R w1 (wr.alloc (.cells #[.int .i64 N.kind,.int .i64 N.tag,.int .i64 N.mode,.slice ka N.kids.length kc] 58))):=HFR.out.trans (FrE.of_below HB2.out)
  have hs2:=HB2.out.size
  generalize wr.alloc (.cells #[.int .i64 N.kind,.int .i64 N.tag,.int .i64 N.mode,.slice ka N.kids.length kc] 58)=w2 at HGN HEW2 HOW2 HFR2 HB2 hs2 ⊢
  have hgw:=HFR2.out _ _ _ hneW (by decide) HG1.out
  have p0':w2.cell? ⟨wb,0,none⟩=some (.pointer (some ⟨R,0,none⟩)):=cell_of_row hgw rfl
  have k0:w2.cell? ⟨nb,0,none⟩=some (.int .i64 N.kind):=cell_of_row HGN.out rfl
  have k1:w2.cell? ⟨nb,1,none⟩=some (.int .i64 N.tag):=cell_of_row HGN.out rfl
  have k2:w2.cell? ⟨nb,2,none⟩=some (.int .i64 N.mode):=cell_of_row HGN.out rfl
  have k3:w2.cell? ⟨nb,3,none⟩=some (.slice ka N.kids.length kc):=cell_of_row HGN.out rfl
  have hlw2:=row_lt hgw
  have hln2:=row_lt HGN.out
  clear m0 m1 m2 m3 hlb p0 hlw r0 hRr hgw hnb HEW HOW HFR HB2 hs2
  go_wp2_with fail
  refine(HTK.out _ HEW2.out).mono ?_
  rintro e w3 ⟨hF3,⟨hxl,hdl,hfit,rfl,hE3⟩|⟨hno,rfl,hE3⟩⟩
  ·obtain⟨r'',hb'',hr''⟩:=outR_of (by rw[←wrF_yes hxl hdl (by rw[HN.out];exact hfit)];exact HEE.out)
   rw[HN.out]at hr''
   have HBF:=hide hb''
   have HFIT:Hid (FitP N (vl E.t x)):=hfit
   have HDL:=hide hdl
   have HE3:=hide hE3
   have HF3:=hide hF3
   have hCh:=HCH.out
   rw[hr'']at hCh
   have HCH3:Hid (Chain l0 lc ars r (outR N r'')):=hCh
   have HOW3:=hide (own_frE HOW2.out hF3 (by decide) hR1)
   obtain⟨v,hv⟩:∃v,vl E.t x=v:=⟨_,rfl⟩
   have HV:=hide hv
   have hg3:=hF3 _ _ _ hneN (by decide) HGN.out
   have HGN3:=hide hg3
   have hgw:=HFR2.out.trans hF3 _ _ _ hneW (by decide) HG1.out
   have HFR3:Hid (FrE R w1 w3):=HFR2.out.trans hF3
   rw[hv]
   clear hxl hdl hfit hE3 hF3 hb'' hr'' hCh hg3 hgw hv p0' k0 k1 k2 k3 hlw2 hln2 HOW2 HFR2 HEW2 HGN HTK HCH HEE
   have hB4:Below w3.heap.size w3 (w3.alloc (.cells #[.int .i64 v.kind,.string v.text,.int .i64 v.alt,.int .i64 v.kids] 60)):=(Below.refl _ _).alloc (Nat.le_refl _) _
   have hGV:(w3.alloc (.cells #[.int .i64 v.kind,.string v.text,.int .i64 v.alt,.int .i64 v.kids] 60)).heap[w3.heap.size]? =some (.cells #[.int .i64 v.kind,.string v.text,.int .i64 v.alt,.int .i64 v.kids] 60 (0,0)):=heap_alloc_new w3 _
   have HB4:=hide hB4
   have hneV:w3.heap.size≠R:=by obtain⟨tv,h1,_⟩:=HE3.out.own;have:=row_lt h1;omega
   go_upto_region 7 with fail
   obtain⟨vb,hvb⟩:∃vb,w3.heap.size=vb:=⟨_,rfl⟩
   rw[hvb]at hGV hneV ⊢
   have HE4:=hide (HE3.out.below HB4.out)
   have HO4:=hide (own_below HOW3.out HB4.out)
   have HF4:Hid (FrE R w1 (w3.alloc (.cells #[.int .i64 v.kind,.string v.text,.int .i64 v.alt,.int .i64 v.kids] 60))):=HFR3.out.trans (FrE.of_below HB4.out)
   have HN4:=hide (block_below HGN3.out HB4.out)
   have HV4:=hide hGV
   generalize w3.alloc (.cells #[.int .i64 v.kind,.string v.text,.int .i64 v.alt,.int .i64 v.kids] 60)=w4 at hGV HE4 HO4 HF4 HN4 HV4 HB4 ⊢
   have k0:w4.cell? ⟨nb,0,none⟩=some (.int .i64 N.kind):=cell_of_row HN4.out rfl
   have k1:w4.cell? ⟨nb,1,none⟩=some (.int .i64 N.tag):=cell_of_row HN4.out rfl
   have k2:w4.cell? ⟨nb,2,none⟩=some (.int .i64 N.mode):=cell_of_row HN4.out rfl
   have k3:w4.cell? ⟨nb,3,none⟩=some (.slice ka N.kids.length kc):=cell_of_row HN4.out rfl
   have hln4:=row_lt HN4.out
   obtain⟨c0,n0,b0,ok,hok1,hok2,HAR⟩:∃(c0 n0:Int) (b0 ok:Bool),(ok=true→N.mode=1∧c0=2∧n0=N.tag∧b0=true)∧(ok=false→¬N.mode=1)∧Hid (∀wq,Below W.heap.size W wq→Calls Tryz.prog 110 #[.agg #[.int .i64 N.kind,.int .i64 N.tag,.int .i64 N.mode,.slice ka N.kids.length kc]] wq fun e w'=>e= .returned (.tuple #[.agg #[.int .i64 c0,.int .i64 n0,.bool b0],.bool ok])∧Below wq.heap.size wq w'):=by
    by_cases hm:N.mode=1
    ·have htg:0≤N.tag:=by
      by_cases q:N.tag<0
      ·have:=hT3 (by omega);omega
      ·omega
     exact⟨2,N.tag,true,true,fun _=>⟨hm,rfl,rfl,rfl⟩,fun q=>(by cases q),fun wq q=>around_yes N ka kc wq hm (HC.out.lay.below q).n htg (by omega)⟩
    ·exact⟨0,0,false,false,fun q=>(by cases q),fun _=>hm,fun wq q=>around_no N ka kc wq hm⟩
   have HOK1:=hide hok1
   have HOK2:=hide hok2
   clear hvb hGV hB4 HE3 HOW3 HFR3 HGN3 HB4 hok1 hok2
   go_wp2_with fail
   refine(HAR.out _ HE4.out.bel).mono ?_
   rintro e w5 ⟨rfl,hb5⟩
   have HB5:=hide hb5
   clear hb5 k0 k1 k2 k3 hln4
   have hB6:Below w4.heap.size w4 (w5.alloc (.cells #[.int .i64 c0,.int .i64 n0,.bool b0] 149)):=HB5.out.alloc HB5.out.size _
   have hGF:(w5.alloc (.cells #[.int .i64 c0,.int .i64 n0,.bool b0] 149)).heap[w5.heap.size]? =some (.cells #[.int .i64 c0,.int .i64 n0,.bool b0] 149 (0,0)):=heap_alloc_new w5 _
   go_upto_region 8 with fail
   obtain⟨fb',hfb⟩:∃fb',w5.heap.size=fb':=⟨_,rfl⟩
   rw[hfb]at hGF ⊢
   have HE6:=hide (HE4.out.below hB6)
   have HO6:=hide (own_below HO4.out hB6)
   have HF6:Hid (FrE R w1 (w5.alloc (.cells #[.int .i64 c0,.int .i64 n0,.bool b0] 149))):=HF4.out.trans (FrE.of_below hB6)
   have HN6:=hide (block_below HN4.out hB6)
   have HV6:=hide (block_below HV4.out hB6)
   have HG6:=hide hGF
   generalize w5.alloc (.cells #[.int .i64 c0,.int .i64 n0,.bool b0] 149)=w6 at hGF HE6 HO6 HF6 HN6 HV6 HG6 hB6 ⊢
   have hgw:=HF6.out _ _ _ hneW (by decide) HG1.out
   have p6:w6.cell? ⟨wb,0,none⟩=some (.pointer (some ⟨R,0,none⟩)):=cell_of_row hgw rfl
   obtain⟨tv6,hrow6,_⟩:=HE6.out.own
   have HR6:=hide hrow6
   unfold ewObj at hrow6
   have r4:w6.cell? ⟨R,4,none⟩=some (.bool lc):=by simp[World.cell?,hrow6]
   have hRr:R<w6.heap.size:=lt_of_cell r4
   have hlw6:=row_lt hgw
   clear hfb hGF hB6 hgw hrow6 HE4 HO4 HF4 HN4 HV4 HB5 HAR
   go_cut [51]from 22 to 79 (fun vq wx=>vq= .bool (ok&& !lc)∧wx=w6)
   case first=>
    cases ok
    ·go_wp2_with fail
     go_meet
     exact⟨rfl,rfl⟩
    ·cases lc
     ·go_wp2_with fail
      go_meet
      exact⟨rfl,rfl⟩
     ·go_wp2_with fail
      go_meet
      exact⟨rfl,rfl⟩
   case rest=>
    obtain⟨rfl,hw⟩:=hcut
    obtain rfl:w6=wc:=hw.symm
    clear hw
    go_upto_if 51 with fail
    go_cut [8]from 22 to 79 (fun va wx=>∃(lc':Bool) (ars':List TagI),wx.ownsRow w1.heap.size 149 3 va ars'.length (acells ars')∧EwD W wx R a E.s.length c ta E.t.length tc (x+1) t0 lc' (ovV sn o0)∧FrE R w1 wx∧wx.heap[nb]? =some (.cells #[.int .i64 N.kind,.int .i64 N.tag,.int .i64 N.mode,.slice ka N.kids.length kc] 58 (0,0))∧wx.heap[vb]? =some (.cells #[.int .i64 v.kind,.string v.text,.int .i64 v.alt,.int .i64 v.kids] 60 (0,0))∧Chain l0 lc' ars' r r'')
    case first=>
     by_cases hq:(ok&& !lc)=true
     ·obtain⟨rfl,rfl⟩:ok=true∧lc=false:=by simpa using hq
      obtain⟨hm,rfl,rfl,rfl⟩:=HOK1.out rfl
      have hlen2:=HCH3.out.len
      have htg:0≤N.tag∧N.tag≤30:=by
       refine⟨?_,by omega⟩
       by_cases q:N.tag<0
       ·have:=hT3 (by omega);omega
       ·omega
      have HCH7:Hid (Chain l0 (decide (2000<ars.length+1)) (ars++[⟨N.tag,htg⟩]) r r''):=HCH3.out.head hm ⟨N.tag,htg⟩ rfl
      obtain⟨i0,hi0,hz0,hz1,hz2⟩:=info_parts Tryz.infoFirst
      have g0:w6.cell? ⟨fb',0,none⟩=some (.int .i64 2):=cell_of_row HG6.out rfl
      have g1:w6.cell? ⟨fb',1,none⟩=some (.int .i64 N.tag):=cell_of_row HG6.out rfl
      have g2:w6.cell? ⟨fb',2,none⟩=some (.bool true):=cell_of_row HG6.out rfl
      have hlf:=row_lt HG6.out
      have hsz6:=HSZ.out _ HF6.out
      have HAPP:Hid (∀g7 cap7 w7,w7.ownsRow w1.heap.size 149 3 (.slice (some ⟨g7,0,none⟩) (ars.length+1) cap7) (ars.length+1) (acells ars++[.int .i64 2,.int .i64 N.tag,.bool true])→(w6.alloc (.cells #[.int .i64 2,.int .i64 N.tag,.bool true] 149)).grownBy w7 (Value.slice bsO ars.length cpO).ownBlock→
       w7.cell? ⟨wb,0,none⟩=some (.pointer (some ⟨R,0,none⟩))∧w7.cell? ⟨R,4,none⟩=some (.bool false)∧w7.frozen? ⟨R,4,none⟩=false∧R<w7.heap.size∧wb<w7.heap.size∧
       ∀lq:Bool,lq=decide (2000<ars.length+1)→∃(lc':Bool) (ars':List TagI),(w7.setCell ⟨R,4,none⟩ (.bool lq)).ownsRow w1.heap.size 149 3 (.slice (some ⟨g7,0,none⟩) (ars.length+1) cap7) ars'.length (acells ars')∧EwD W (w7.setCell ⟨R,4,none⟩ (.bool lq)) R a E.s.length c ta E.t.length tc (x+1) t0 lc' (ovV sn o0)∧FrE R w1 (w7.setCell ⟨R,4,none⟩ (.bool lq))∧(w7.setCell ⟨R,4,none⟩ (.bool lq)).heap[nb]? =some (.cells #[.int .i64 N.kind,.int .i64 N.tag,.int .i64 N.mode,.slice ka N.kids.length kc] 58 (0,0))∧(w7.setCell ⟨R,4,none⟩ (.bool lq)).heap[vb]? =some (.cells #[.int .i64 v.kind,.string v.text,.int .i64 v.alt,.int .i64 v.kids] 60 (0,0))∧Chain l0 lc' ars' r r''):=fun g7 cap7 w7 h1 h2=>by
       have hB:=(Below.refl w6.heap.size w6).alloc (Nat.le_refl _) (.cells #[.int .i64 2,.int .i64 N.tag,.bool true] 149)
       have hrow:∀g,(Value.slice bsO ars.length cpO).ownBlock=some g→w1.heap.size≤g∧∃cur,w6.heap[g]? =some (.cells cur 149 (0,0)):=fun g q=>by
        refine⟨(HO6.out.lt g q).1,?_⟩
        rcases HO6.out.2 with⟨h,_⟩|⟨g',cp',cur,h,_,hgg,_⟩
        ·rw[h]at q;cases q
        ·rw[h]at q
         simp only[Value.ownBlock,Option.some.injEq]at q
         subst q
         exact⟨cur,hgg⟩
       have hold:∀(k:Nat) (A:Array Value) (T:TypeId),T≠149→w6.heap[k]? =some (.cells A T (0,0))→w7.heap[k]? =some (.cells A T (0,0)):=fun k A T hT hk=>by
        have hk':=block_below hk hB
        rw[h2.block k (row_lt hk') (fun q=>?_)]
        ·exact hk'
        ·obtain⟨_,cur,hcur⟩:=hrow k q.symm
         rw[hk]at hcur
         injection hcur with hcur
         injection hcur with _ hcur _
         exact hT hcur
       have hE7:EwD W w7 R a E.s.length c ta E.t.length tc (x+1) t0 false (ovV sn o0):=(HE6.out.below hB).grown h2 fun g q=>by
        obtain⟨h3,cur,hcur⟩:=hrow g q
        refine⟨by omega,by omega,fun A hA=>?_⟩
        have:=block_below hcur hB
        rw[hA]at this
        injection this with this
        injection this with _ this _
        revert this
        decide
       have hgw7:=hold _ _ _ (by decide) (HF6.out _ _ _ hneW (by decide) HG1.out)
       have hR7:=hold _ _ _ (by decide) (show w6.heap[R]? =some (.cells #[.slice a E.s.length c,.slice ta E.t.length tc,.int .i64 ((x+1:Nat):Int),tv6,.bool false,ovV sn o0] 140 (0,0))from HR6.out)
       refine⟨cell_of_row hgw7 rfl,cell_of_row hR7 rfl,frozen_row hR7,row_lt hR7,row_lt hgw7,fun lq hlq=>⟨lq,ars++[⟨N.tag,htg⟩],?_,hE7.setLong lq,?_,?_,?_,by rw[hlq];exact HCH7.out⟩⟩
       ·refine ownsRow_setCell_other ?_ ?_ _
        ·rw[acells_snoc,List.length_append];exact h1
        ·exact row_ne hR7 h1 (by decide)
       ·intro k A T hk hT hg
        rw[heap_setCell_other _ _ _ _ hk]
        have hg6:=HF6.out k A T hk hT hg
        have hk':=block_below hg6 hB
        rw[h2.block k (row_lt hk') (fun q=>?_)]
        ·exact hk'
        ·have:=(hrow k q.symm).1
         have:=row_lt hg
         omega
       ·rw[heap_setCell_other _ _ _ _ hneN]
        exact hold _ _ _ (by decide) HN6.out
       ·rw[heap_setCell_other _ _ _ _ hneV]
        exact hold _ _ _ (by decide) HV6.out
      have hlz:(2000:Int)<((ars.length+1:Nat):Int)↔2000<ars.length+1:=by omega
      clear hq hm
      go_wp2_with (at_builtin;refine wpList_append_lies _ rfl _ _ 186 rfl w1.heap.size 149 i0 _ 3 24 Tryz.underlying186 hi0 hz0 hz1 hz2 rfl (by decide) (.slice bsO ars.length cpO) ars.length (acells ars) rfl (HO6.out.alloc _) ⟨w6.heap.size,0,none⟩ 1 1 [.int .i64 2,.int .i64 N.tag,.bool true] rfl rfl (World.news_of_block (heap_alloc_new w6 (.cells #[.int .i64 2,.int .i64 N.tag,.bool true] 149))) (by intro u hu;simp at hu;rcases hu with rfl|rfl|rfl<;>rfl) (by decide) (by unfold maxLen;omega) (by omega) (by simp;omega) (w6.heap.size+1) (by simp) ?_;intro g7 cap7 w7 h71 h72 h73 h74;obtain⟨e7,e8,e9,e10,e11,hfin⟩:=HAPP.out g7 cap7 w7 h71 h72;have HFIN:=hide hfin;clear h71 h72 h73 h74 hfin)
      go_meet
      refine HFIN.out _ ?_
      first|rfl|exact decide_eq_decide.2 (by omega)|(simp;omega)
     ·have HCH7:Hid (Chain l0 lc ars r r''):=by
       refine HCH3.out.plain ?_
       cases hok:ok
       ·exact .inl (HOK2.out hok)
       ·right
        cases hlc:lc
        ·rw[hok,hlc]at hq;exact absurd rfl hq
        ·rfl
      have hqb:(ok&& !lc)=false:=by simpa using hq
      rw[hqb]
      clear hq
      go_wp2_with fail
      go_meet
      exact⟨lc,ars,HO6.out,HE6.out,HF6.out,HN6.out,HV6.out,HCH7.out⟩
    case rest=>
     obtain⟨lc',ars',hO7,hE7,hF7,hN7,hV7,hC7⟩:=hcut
     obtain⟨bsA,cpA,rfl⟩:=own_formF hO7
     have HO7:=hide hO7
     have HE7:=hide hE7
     have HF7:=hide hF7
     have HN7:=hide hN7
     have HV7:=hide hV7
     have HC7:=hide hC7
     have hgw:=hF7 _ _ _ hneW (by decide) HG1.out
     have p7:wc.cell? ⟨wb,0,none⟩=some (.pointer (some ⟨R,0,none⟩)):=cell_of_row hgw rfl
     have k0:wc.cell? ⟨nb,0,none⟩=some (.int .i64 N.kind):=cell_of_row hN7 rfl
     have k1:wc.cell? ⟨nb,1,none⟩=some (.int .i64 N.tag):=cell_of_row hN7 rfl
     have k2:wc.cell? ⟨nb,2,none⟩=some (.int .i64 N.mode):=cell_of_row hN7 rfl
     have k3:wc.cell? ⟨nb,3,none⟩=some (.slice ka N.kids.length kc):=cell_of_row hN7 rfl
     have v0:wc.cell? ⟨vb,0,none⟩=some (.int .i64 v.kind):=cell_of_row hV7 rfl
     have v1:wc.cell? ⟨vb,1,none⟩=some (.string v.text):=cell_of_row hV7 rfl
     have v2:wc.cell? ⟨vb,2,none⟩=some (.int .i64 v.alt):=cell_of_row hV7 rfl
     have v3:wc.cell? ⟨vb,3,none⟩=some (.int .i64 v.kids):=cell_of_row hV7 rfl
     have hlw7:=row_lt hgw
     have hln7:=row_lt hN7
     have hlv7:=row_lt hV7
     have hxl:x<E.t.length:=by
      rcases Nat.lt_or_ge x E.t.length with q|q
      ·exact q
      ·have h1:=HFIT.out.1
       have h2:vl E.t x=⟨0,noB,0,0⟩:=by unfold vl;rw[List.getD_eq_getElem?_getD,List.getElem?_eq_none q];rfl
       rw[h2]at h1
       simp only at h1
       omega
     clear hO7 hE7 hF7 hN7 hV7 hC7 hgw p6 r4 hRr hlw6 HE6 HO6 HF6 HN6 HV6 HG6 HR6 HCH3 HOK1 HOK2
     by_cases h13:N.kind=13
     ·have hf13:=(fit13 h13 HFIT.out.1).1 HFIT.out
      rw[HV.out]at hf13
      obtain⟨al,hal⟩:∃al:Nat,v.alt=al:=⟨v.alt.toNat,by omega⟩
      have hall:al<N.kids.length:=by omega
      obtain⟨b',o',hkaE,kcl⟩:=HKA.out al hall
      obtain⟨kc0,_,_⟩:=kcl
      have hmem:N.kids.getD al kd0∈N.kids:=kd_mem (n:=N) hall
      obtain⟨y,hy⟩:∃y,N.kids.getD al kd0=y:=⟨_,rfl⟩
      rw[hy]at kc0 hmem
      have hwn:=HC.out.wc.right.fine.within i HHI.out y (by rw[HN.out];exact hmem)
      obtain⟨t,ht⟩:∃t:Nat,y.node=t:=⟨y.node.toNat,by omega⟩
      have htl:t<E.s.length:=by omega
      rw[ht]at kc0
      have q0:wc.cell? ⟨b',o'+al*3,none⟩=some (.int .i64 t):=(HE7.out.bel.cell (lt_of_cell kc0)).trans kc0
      have hlq:=lt_of_cell q0
      simp only at hlq
      have HNX:Hid (wrF E G t (x+1) dp=some r''):=by
       have h:=HBF.out
       rw[HN.out,HV.out]at h
       unfold wbareF at h
       rw[if_pos h13,if_pos hf13]at h
       have e1:(kd N v.alt.toNat).node.toNat=t:=by
        have:kd N v.alt.toNat=y:=by unfold kd;rw[hal];exact hy
        rw[this,ht];rfl
       rw[e1]at h
       exact h
      rw[hkaE]at k3
      rw[hal]at v2
      rw[h13]at k0
      have hall':(al:Int)<(N.kids.length:Int):=by omega
      clear kc0 hmem hy hwn hf13 h13 hkaE hal
      go_wp2
      go_roundg G
      case rel=>exact⟨t,x+1,r'',lc',ars',rfl,htl,by omega,HNX.out,by omega,by omega,by omega,HO7.out,HE7.out,HF7.out,HC7.out⟩
      case measure=>omega
     ·have h13b:(N.kind !=13)=true:=by simpa using h13
      have h13c:(N.kind==13)=false:=by simpa using h13
      have HOE:Hid (Calls Tryz.prog 111 #[.pointer (some ⟨R,0,none⟩),.agg #[.int .i64 N.kind,.int .i64 N.tag,.int .i64 N.mode,.slice ka N.kids.length kc],.agg #[.int .i64 v.kind,.string v.text,.int .i64 v.alt,.int .i64 v.kids],.int .i64 dp] wc fun e w'=>AfterE E W R a c ta tc sn r'' t0 lc' o0 wc e w'):=by
       have:=own_e E W R a c ta tc G sn HC.out HTC.out (HNN.out G (by omega)) (by omega) i HHI.out ka kc (by rw[HN.out];exact HKA.out) (by rw[HN.out];exact hkc) HKM.out x dp r'' t0 lc' o0 wc (by rw[HN.out];exact HFIT.out) HBF.out hxl (by omega) HDP.out.1 HDL.out h4 HE7.out (by rw[HN.out];exact h13)
       rw[HN.out,HV.out]at this
       exact this
      go_wp2_with fail
      refine HOE.out.mono ?_
      rintro e w8 ⟨hF8,⟨b8',x8,u8',t8,l8,o8,hq,rfl,hT8,hE8⟩|⟨hq,p,x8,t8,l8,ov,rfl,hE8⟩⟩
      ·have HE8:=hide hE8
       have HT8:=hide hT8
       have HF8:Hid (FrE R w1 w8):=HF7.out.trans hF8
       have HO8:=hide (own_frE HO7.out hF8 (by decide) hR1)
       have hC8:=HC7.out
       rw[hq]at hC8
       have HC8:=hide hC8
       clear hF8 hq hT8 hE8 hC8 HO7 HE7 HF7 HN7 HV7 HC7 p7 k0 k1 k2 k3 v0 v1 v2 v3 hlw7 hln7 hlv7 HOE
       go_wp2_with fail
       refine(backward_any _ _ _ _).mono ?_
       rintro e w9 ⟨rfl,rfl⟩
       have hB9:Below w8.heap.size w8 (w8.alloc (.cells #[.slice bsA ars'.length cpA] 186)):=(Below.refl _ _).alloc (Nat.le_refl _) _
       have hG9:(w8.alloc (.cells #[.slice bsA ars'.length cpA] 186)).heap[w8.heap.size]? =some (.cells #[.slice bsA ars'.length cpA] 186 (0,0)):=heap_alloc_new w8 _
       have hne9:w8.heap.size≠R:=by obtain⟨tv,h1,_⟩:=HE8.out.own;have:=row_lt h1;omega
       have hAr:=AroundIn.of_own (own_below HO8.out hB9) hG9 hR1 hne9
       have HE9:=hide (HE8.out.below hB9)
       have HF9:Hid (FrE R w1 (w8.alloc (.cells #[.slice bsA ars'.length cpA] 186))):=HF8.out.trans (FrE.of_below hB9)
       obtain⟨Bs,hBs⟩:∃Bs,w8.heap.size=Bs:=⟨_,rfl⟩
       rw[hBs]at hAr ⊢
       generalize w8.alloc (.cells #[.slice bsA ars'.length cpA] 186)=w9 at hAr HE9 HF9 ⊢
       have hl9:ars'.length≤1000000:=by have:=HC8.out.len;omega
       clear hB9 hG9 hne9 hBs HE8 HF8 HO8
       have hW9:W.heap.size≤w9.heap.size:=HE9.out.bel.size
       have HFIN:Hid (∀(D:Nat) (W':World),w9.heap.size≤D→((∃(t9:ByteArray) (l9:Bool),EwD W W' R a E.s.length c ta E.t.length tc x8 t9 l9 (ovV sn o8)∧Tld t0 lc' o0 (wrapsB (backTo ars' ars'.length) b8') u8' t9 l9 o8)∧FrE R w9 W')→W'.heap[D]? =some (.deferred (some []))→AfterE E W R a c ta tc sn r t0 l0 o0 w (.returned .nilIface) (W'.putObj D (.deferred none))):=fun D W' hD hs hK=>by
        obtain⟨⟨t9,l9,h1,h2⟩,h3⟩:=hs
        rw[wrapsB_all]at h2
        obtain⟨b0,hr0,hT0⟩:=HC8.out.end h2
        have nc:∀(A:Array Value) (T:TypeId) (z:Nat×Nat),W'.heap[D]? ≠some (.cells A T z):=fun A T z hA=>by rw[hK]at hA;cases hA
        have hg:=grownBy_putObj' W' D (.deferred none)
        have hE9:=h1.grown hg (fun g q=>by
         injection q with q
         subst q
         refine⟨by omega,?_,fun A=>nc A _ _⟩
         rintro rfl
         obtain⟨tv,hR,_⟩:=h1.own
         exact nc _ _ _ hR)
        have hF9:FrE R w9 (W'.putObj D (.deferred none)):=fun k A T hk hT hk'=>by
         have hX:=h3 k A T hk hT hk'
         rw[hg.block k (row_lt hX) (fun q=>by injection q with q;subst q;exact nc _ _ _ hX)]
         exact hX
        exact⟨(FrE.of_below HB1.out).trans (HF9.out.trans hF9),.inl ⟨b0,x8,u8',t9,l9,o8,hr0,rfl,hT0,hE9⟩⟩
       go_wp2_with fail
       refine(wpIn_wide (n:=3)).1 ?_
       refine wpIn_rangeFunc_box (F:=Fence.wide) rfl (by decide) (gf:=153) (lb:=#[.pointer (some ⟨Bs,0,none⟩)]) rfl trivial (enters_of Tryz.func153 (by kernel_rfl) rfl)
        (back_stops (3-1) (by decide) Bs R ars' hl9 w9 hAr) (fun h k q A T h1 h2 h3=>k q A T h1 h2 (h q A T h1 h2 h3)) ?kb (fun W' o' k A T _ _ hg=>block_below hg ((Below.refl _ _).alloc (Nat.le_refl _) _)) (Below.refl _ _) (fun _=>rfl)
        (fun pre W'=>(∃(t9:ByteArray) (l9:Bool),EwD W W' R a E.s.length c ta E.t.length tc x8 t9 l9 (ovV sn o8)∧Tld t0 lc' o0 (wrapsB pre b8') u8' t9 l9 o8)∧FrE R w9 W') ?own ⟨⟨t8,l8,HE9.out,HT8.out⟩,fun _ _ _ _ _ h=>h⟩
        16 149 (fun x=> #[.int .i64 2,.int .i64 x.2.1,.bool true]) ?assign ?body ?done
       case kb=>
        intro W' l o1 o' _ hl' hc' _ k A T hk hT hg
        have hkl:k≠l:=by
         rintro rfl
         rw[hg]at hl'
         injection hl' with hl'
         subst hl'
         cases hc'
        exact(World.putObj_heap_other hkl).trans hg
       case own=>
        intro pre X Y row hs hg hr
        obtain⟨⟨t9,l9,h1,h2⟩,h3⟩:=hs
        have nc:∀g,row=some g→∀(A:Array Value) (T:TypeId) (z:Nat×Nat),X.heap[g]? ≠some (.cells A T z):=fun g q A T z hA=>by
         obtain⟨_,o1,ho,hc'⟩:=hr g q
         rw[hA]at ho
         injection ho with ho
         subst ho
         cases hc'
        refine⟨⟨t9,l9,h1.grown hg (fun g q=>⟨?_,?_,fun A=>nc g q A _ _⟩),h2⟩,fun k A T hk hT hk'=>?_⟩
        ·have:=(hr g q).1
         omega
        ·rintro rfl
         obtain⟨tv,hR,_⟩:=h1.own
         exact nc _ q _ _ _ hR
        ·have hX:=h3 k A T hk hT hk'
         rw[hg.block k (row_lt hX) (fun q=>nc k q.symm _ _ _ hX)]
         exact hX
       case assign=>
        intro l x1 W' K hK
        unfold encB at hK ⊢
        simp only[fold2,List.setIfInBounds_toArray,List.set_cons_zero,List.set_cons_succ]at hK ⊢
        gi_wp2
        exact hK
       case body=>
        rintro l pre x1 Bx W' ⟨⟨t9,l9,hE,hT⟩,hF⟩ hBx hlt
        unfold encB
        simp only[fold2,List.setIfInBounds_toArray,List.set_cons_zero,List.set_cons_succ]
        have hgw:=(HF9.out.trans hF) _ _ _ hneW (by decide) HG1.out
        have hgs:=(HF9.out.trans hF) _ _ _ hneS (by decide) HG2.out
        have p1:W'.cell? ⟨wb,0,none⟩=some (.pointer (some ⟨R,0,none⟩)):=cell_of_row hgw rfl
        have p2:W'.cell? ⟨sb,0,none⟩=some (.int .i64 t0.size):=cell_of_row hgs rfl
        have p3:W'.cell? ⟨Bx,0,none⟩=some (.int .i64 2):=cell_of_row hBx rfl
        have p4:W'.cell? ⟨Bx,1,none⟩=some (.int .i64 x1.2.1):=cell_of_row hBx rfl
        have p5:W'.cell? ⟨Bx,2,none⟩=some (.bool true):=cell_of_row hBx rfl
        have hl1:=row_lt hgw
        have hl2:=row_lt hgs
        have hl3:=row_lt hBx
        have HWR:Hid (Calls Tryz.prog 113 #[.pointer (some ⟨R,0,none⟩),.int .i64 t0.size,.agg #[.int .i64 2,.int .i64 x1.2.1,.bool true]] W' fun e w'=>AfterI W R a E.s.length c ta E.t.length tc x8 t9 l9 (ovV sn o8) t0.size (hdB 2 true x1.2.1 (t9.size-t0.size)) W' e w'):=wrap_any W W' R a E.s.length c ta E.t.length tc x8 t9 l9 (ovV sn o8) sn HC.out.lay t0.size 2 x1.2.1 true (by decide) (by decide) x1.2.2.1 x1.2.2.2 hT.le hT.mx hE
        have HFI:Hid (∀W4 t10 l10,FrX R W' W4→Ins t9 l9 t0.size (hdB 2 true x1.2.1 (t9.size-t0.size)) t10 l10→EwD W W4 R a E.s.length c ta E.t.length tc x8 t10 l10 (ovV sn o8)→KeepsFrom w9.heap.size W' W4∧FrK R W' W4∧((∃(t9:ByteArray) (l9:Bool),EwD W W4 R a E.s.length c ta E.t.length tc x8 t9 l9 (ovV sn o8)∧Tld t0 lc' o0 (wrapsB (pre++[x1]) b8') u8' t9 l9 o8)∧FrE R w9 W4)):=fun W4 t10 l10 h1 h2 h3=>by
         obtain⟨tv,hR,_⟩:=hE.own
         refine⟨frX_keeps h1 hR _,h1.fr,⟨t10,l10,h3,?_⟩,hF.trans h1.fr⟩
         rw[wrapsB_snoc]
         exact hT.wrap h2
        clear hgw hgs hBx hE hT hF
        gi_wp2_with (refine⟨trivial,?_⟩;gi_at_call 113;refine(CallsIn.inRound l (callsIn_wide.2 HWR.out)).mono ?_;rintro e W4 ⟨rfl,hF4,t10,l10,hi10,hE10⟩)
        exact HFI.out W4 t10 l10 hF4 hi10 hE10
       case done=>
        rintro D xs W' hD rfl hs hK
        have hA:=HFIN.out D W' hD hs hK
        have HA:=hide hA
        have HK:=hide hK
        clear hA hs hK
        go_wp2
        refine leavesM_one HK.out (v:= .nilIface) (by simp[results,Tryz.results75,go_sem]) rfl ?_
        exact HA.out
      ·have HX:Hid (r=none):=by
        have h:=HC7.out
        rw[hq]at h
        exact h.none
       have HE8:=hide hE8
       have HF8:Hid (FrE R w w8):=(FrE.of_below HB1.out).trans (HF7.out.trans hF8)
       clear hq hE8 hF8
       unfold fault
       go_wp2
       refine leavesM_ret (v:=fault p (sn .Tree)) (by simp[results,Tryz.results75,go_sem,fault]) rfl ?_
       exact⟨HF8.out,.inr ⟨HX.out,p,x8,t8,l8,ov,rfl,HE8.out⟩⟩
  ·have HX:Hid (r=none):=by
    have h:=HEE.out
    rw[wrF_no HC.out.wc.ok (by rw[HN.out];exact hno)]at h
    injection h with h
    have:=HCH.out
    rw[←h]at this
    exact this.none
   have HE3:=hide hE3
   have HF3:Hid (FrE R w w3):=(FrE.of_below HB1.out).trans (HFR2.out.trans hF3)
   clear hno hE3 hF3
   unfold fault
   go_wp2
   refine leavesM_ret (v:=fault x (sn .Tree)) (by simp[results,Tryz.results75,go_sem,fault]) rfl ?_
   exact⟨HF3.out.trans (FrE.of_below ((Below.refl _ _).alloc (Nat.le_refl _) _)),.inr ⟨HX.out,x,x,t0,lc,ovV sn o0,rfl,HE3.out.below ((Below.refl _ _).alloc (Nat.le_refl _) _)⟩⟩
end Go.Proofs.YtkkicodfpekbgaaGreatDoor
namespace Go.Proofs.YtkkicodfpekbgaaGreatDoor
open Go.RowKit
set_option linter.unusedSimpArgs false
set_option linter.unusedVariables false
set_option maxRecDepth 100000
set_option maxHeartbeats 8000000
theorem evalue_all(E:WEnv)(W:World)(R:Nat)(a:Option Addr)(c:Nat)(ta:Option Addr)(tc:Nat)(sn:Sn→Addr)(hc:EC E W a ta sn)(htc:E.t.length≤tc)(f:Nat):NodeE E W R a c ta tc sn f:=
 Nat.strongRecOn f fun F ih=>evalue_step E W R a c ta tc sn hc htc F ih
def snW(k:Int):Sn:=if k=2 then .Long else if k=8 then .Order else .Tree
def RetBy(sn:Sn→Addr)(za:Addr)(v:Except Int ByteArray)(w:World)(e:Ending)(w':World):Prop:=
 Below w.heap.size w w'∧
 ((∃b,v= .ok b∧e= .returned (.tuple #[.string b,.nilIface]))∨
  (∃p,v= .error 1∧e= .returned (.tuple #[.string ⟨#[]⟩,faultV 0 (fault p za)]))∨
  (v= .error 1∧e= .returned (.tuple #[.string ⟨#[]⟩,fault 0 za]))∨
  (∃k q,v= .error k∧(k=2∨k=8∨k=11)∧e= .returned (.tuple #[.string ⟨#[]⟩,fault q (sn (snW k))])))
theorem bytes_any(E:WEnv)(s:List Nd)(a:Option Addr)(c:Nat)(root:Int)(t:List Vl)(ta:Option Addr)(tc:Nat)(v:Except Int ByteArray)(w:World)(sn:Sn→Addr)(za:Addr)(hl:Lay w sn)(hz:LayZ w sn za)(hs:Sch w a s)(hok:SchOk s)(hn0:s.length≤140737488351232)(ht:TreeIn w ta t)(htc:t.length≤tc)(hpz:Sz t)(hkd:∀j,j<t.length→(vl t j).kids≤9223372036854775807)(hv:EncV E s root t v):
 Calls Tryz.prog 46 #[.slice a s.length c,.int .i64 root,.slice ta t.length tc] w fun e w'=>RetBy sn za v w e w':=by
 have HCR:Hid (∀wq,Below w.heap.size w wq→Calls Tryz.prog 74 #[.slice a s.length c,.int .i64 root] wq fun e w'=>RetRt s root za wq e w'):=fun wq q=>checkRoot_any s a c root wq sn za (hl.below q) (hz.below q) (hs.below q) hok hn0
 have HL:=hide hl
 have HS:=hide hs
 have HOK:=hide hok
 have HT:=hide ht
 have HV:=hide hv
 have HKD:=hide hkd
 have HPZ:=hide hpz
 have HTC:=hide htc
 have htl:t.length≤16777000:=hpz.len
 clear hl hz hs hok ht hv hkd hpz htc
 go_enter Tryz.func46,Tryz.ntmps46
 go_wp2_with fail
 refine(HCR.out _ (Below.refl _ _)).mono ?_
 rintro e w1 ⟨hb1,h1⟩
 have HB1:=hide hb1
 clear hb1
 rcases h1 with⟨rfl,hr,h0,h1⟩|⟨⟨p,rfl⟩,hr⟩|⟨rfl,hr,h0⟩
 ·have HR:=hide hr
  obtain⟨rfl,rfl,hkk,f0,r,hrd0,hvr⟩:E.s=s∧E.t=t∧(∀k u,E.ok k u=true↔ContentOk k u)∧∃f r,wrF E f root.toNat 0 1=some r∧v=encR r t.length:=by
   rcases HV.out with⟨q,_⟩|⟨_,q⟩
   ·exact absurd ⟨hr,h0,h1⟩ q
   ·exact q
  obtain⟨rt,rfl⟩:∃n:Nat,root=n:=⟨root.toNat,by omega⟩
  have hrd:=wrF_add f0 (E.t.length+1) _ _ _ _ hrd0
  have hEC:EC E w1 a ta sn:=⟨⟨HS.out.below HB1.out,HR.out,HOK.out,hkk,HT.out.below HB1.out,HPZ.out,HKD.out⟩,HL.out.below HB1.out⟩
  have hG2:(w1.alloc (ewObj a E.s.length c ta E.t.length tc 0 (.slice none 0 0) false .nilIface)).heap[w1.heap.size]? =some (ewObj a E.s.length c ta E.t.length tc 0 (.slice none 0 0) false .nilIface):=heap_alloc_new w1 _
  have hI2:EwD w1 (w1.alloc (ewObj a E.s.length c ta E.t.length tc 0 (.slice none 0 0) false .nilIface)) w1.heap.size a E.s.length c ta E.t.length tc 0 noB false (ovV sn none):=⟨(Below.refl _ _).alloc (Nat.le_refl _) _,Nat.le_refl _,_,hG2,World.ownsRow_nil _ _ _ _⟩
  have HCL:Hid (Calls Tryz.prog 75 #[.pointer (some ⟨w1.heap.size,0,none⟩),.int .i64 rt,.int .i64 1] (w1.alloc (ewObj a E.s.length c ta E.t.length tc 0 (.slice none 0 0) false .nilIface)) fun e w'=>AfterE E w1 w1.heap.size a c ta tc sn r noB false none (w1.alloc (ewObj a E.s.length c ta E.t.length tc 0 (.slice none 0 0) false .nilIface)) e w'):=
   evalue_all E w1 w1.heap.size a c ta tc sn hEC HTC.out (f0+(E.t.length+1)) rt 0 1 r noB false none _ (by simpa using hrd) (by omega) (Nat.zero_le _) (by omega) (by omega) (by decide) (by decide) (by decide) hI2
  have HVR:=hide hvr
  unfold ewObj at HCL
  clear hrd hrd0 hvr hEC hG2 hI2 hkk hr
  go_wp2_with fail
  refine HCL.out.mono ?_
  rintro e w3 ha3
  have hcase:=ha3.2
  clear ha3
  rcases hcase with⟨b,x,u,t1,l1,o1,hr,rfl,hT,hI3⟩|⟨hr,p,x,t1,l1,ov,rfl,hI3⟩
  ·have HB3:Hid (Below w.heap.size w w3):=HB1.out.trans (hI3.bel.mono HB1.out.size)
   have HRR:=hide hr
   have HTT:=hide hT
   obtain⟨tv,own3,hrow⟩:=hI3.own
   unfold ewObj at own3
   have HROW:=hide hrow
   have c2:w3.cell? ⟨w1.heap.size,2,none⟩=some (.int .i64 (x:Int)):=by simp[World.cell?,own3]
   have c3:w3.cell? ⟨w1.heap.size,3,none⟩=some tv:=by simp[World.cell?,own3]
   have c4:w3.cell? ⟨w1.heap.size,4,none⟩=some (.bool l1):=by simp[World.cell?,own3]
   have c5:w3.cell? ⟨w1.heap.size,5,none⟩=some (ovV sn o1):=by simp[World.cell?,own3]
   have hR3:=lt_of_cell c2
   simp only at hR3
   have cT:=(HL.out.below HB3.out).s.cTree
   have cL:=(HL.out.below HB3.out).s.cLong
   have hgT:=lt_of_cell cT
   have hgL:=lt_of_cell cL
   simp only at hgT hgL
   have HAT:Hid (∀(q:Int) (k:Sn) wq,Calls Tryz.prog 60 #[.int .i64 q,.iface 291 (.pointer (some (sn k)))] wq fun e w'=>e= .returned (fault q (sn k))∧w'=wq):=fun q k wq=>at_any q _ wq
   unfold fault at HAT
   clear hI3 own3 hr HCL hT hrow
   by_cases hxl:x<E.t.length
   ·have hxl':(x:Int)<E.t.length:=by omega
    have HE:Hid (v= .error 11):=by show v=_;rw[HVR.out,HRR.out];unfold encR;simp only;rw[if_pos hxl]
    go_wp2_with fail
    go_region_held_law (fun w'=>w'.cell? ⟨w1.heap.size,2,none⟩=some (.int .i64 (x:Int))∧w'.cell? ⟨9,0,none⟩=some (.iface 291 (.pointer (some (sn .Tree))))) (first|exact⟨c2,cT⟩|go_keep) ((go_at_call 60;refine(HAT.out _ _ _).mono ?_;rintro e w4 ⟨rfl,rfl⟩))
    all_goals
     rename_i hHeld
     clear hHeld
     go_wp2
     refine bodyPost_ret (v:= .tuple #[.string ⟨#[]⟩,fault x (sn .Tree)]) (by simp[results,Tryz.results46,go_sem,fault]) rfl ?_
     exact⟨HB3.out.drew,.inr (.inr (.inr ⟨11,x,HE.out,by decide,rfl⟩))⟩
   ·have hxl':(E.t.length:Int)≤x:=by omega
    cases l1 with
    |true=>
     have HE:Hid (v= .error 2):=by
      show v=_
      have:=HTT.out.long rfl rfl
      rw[HVR.out,HRR.out];unfold encR;simp only;rw[if_neg hxl,if_pos (by have h0:noB.size=0:=rfl;omega)]
     go_wp2_with fail
     refine(HAT.out _ _ _).mono ?_
     rintro e w4 ⟨rfl,rfl⟩
     go_wp2
     refine bodyPost_ret (v:= .tuple #[.string ⟨#[]⟩,fault 0 (sn .Long)]) (by simp[results,Tryz.results46,go_sem,fault]) rfl ?_
     exact⟨HB3.out,.inr (.inr (.inr ⟨2,0,HE.out,by decide,rfl⟩))⟩
    |false=>
     have htb:t1=b:=by
      have:=HTT.out.told rfl
      rw[this]
      apply ByteArray.ext
      simp[noB]
     have hb4:b.size≤4000:=by rw[←htb];exact HTT.out.mx
     cases o1 with
     |some p=>
      have HE:Hid (v= .error 8):=by
       show v=_
       have hu:=HTT.out.ord rfl
       simp only[Option.isSome_some,Option.isSome_none,Bool.false_or]at hu
       rw[HVR.out,HRR.out];unfold encR;simp only;rw[if_neg hxl,if_neg (by omega),if_pos hu.symm]
      unfold ovV fault at c5
      go_wp2_with fail
      go_quiet (fail)
      have HB4:Hid (Below w.heap.size w (w3.drewN nq)):=Go.below_drewN HB3.out nq
      go_wp2
      refine bodyPost_ret (v:= .tuple #[.string ⟨#[]⟩,fault p (sn .Order)]) (by simp[results,Tryz.results46,go_sem,fault]) rfl ?_
      exact⟨HB4.out,.inr (.inr (.inr ⟨8,p,HE.out,by decide,rfl⟩))⟩
     |none=>
      have HE:Hid (v= .ok b):=by
       show v=_
       have hu:=HTT.out.ord rfl
       simp only[Option.isSome_none,Bool.false_or]at hu
       rw[HVR.out,HRR.out];unfold encR;simp only;rw[if_neg hxl,if_neg (by omega),if_neg (by rw[←hu];decide)]
      unfold ovV at c5
      subst htb
      have hcv:(convert 52 9 tv).run Tryz.prog w3= .ok (.string t1) w3:=by
       by_cases h0:t1.size=0
       ·have e1:t1=noB:=noB_of h0
        rcases HROW.out.2 with⟨q,_⟩|⟨g,cap,cur,q,_,hg,_⟩
        ·rw[q,e1]
         simp[convert,run_underlying Tryz.underlying52,run_underlying Tryz.underlying5,run_underlying Tryz.underlying9,noB]
         rfl
        ·rw[q,e1]
         exact run_convert_bytes_back w3 52 9 5 ⟨g,0,none⟩ cap [] Tryz.underlying52 Tryz.underlying5 Tryz.underlying9 (fun j hj=>by simp at hj)
       ·have h2:=conv_own (w:=w3) (v:=tv) (l:=t1.data.toList) (ownsRow_cast HROW.out rfl rfl) (fun q=>h0 (by have:=congrArg List.length q;simpa using this))
        rw[h2]
      go_wp2
      refine bodyPost_ret (v:= .tuple #[.string t1,.nilIface]) (by simp[results,Tryz.results46,go_sem]) rfl ?_
      exact⟨HB3.out,.inl ⟨_,HE.out,rfl⟩⟩
  ·have HB3:Hid (Below w.heap.size w w3):=HB1.out.trans (hI3.bel.mono HB1.out.size)
   have HE:Hid (v= .error 11):=by show v=_;rw[HVR.out,hr];rfl
   clear hI3 hr HCL
   unfold fault
   go_wp2
   refine bodyPost_ret (v:= .tuple #[.string ⟨#[]⟩,fault p (sn .Tree)]) (by simp[results,Tryz.results46,go_sem,fault]) rfl ?_
   exact⟨HB3.out,.inr (.inr (.inr ⟨11,p,HE.out,by decide,rfl⟩))⟩
 ·have HE:Hid (v= .error 1):=by
   rcases HV.out with⟨_,q⟩|⟨q,_⟩
   ·exact q
   ·exact absurd q.1 hr
  clear hr
  unfold faultV fault
  go_wp2
  refine bodyPost_ret (v:= .tuple #[.string ⟨#[]⟩,faultV 0 (fault p za)]) (by simp[results,Tryz.results46,go_sem,faultV,fault]) rfl ?_
  exact⟨HB1.out,.inr (.inl ⟨p,HE.out,rfl⟩)⟩
 ·have HE:Hid (v= .error 1):=by
   rcases HV.out with⟨_,q⟩|⟨q,_⟩
   ·exact q
   ·exact absurd q.2 (fun z=>by omega)
  clear hr
  unfold fault
  go_wp2
  refine bodyPost_ret (v:= .tuple #[.string ⟨#[]⟩,fault 0 za]) (by simp[results,Tryz.results46,go_sem,fault]) rfl ?_
  exact⟨HB1.out,.inr (.inr (.inl ⟨HE.out,rfl⟩))⟩
end Go.Proofs.YtkkicodfpekbgaaGreatDoor
namespace Go.Proofs.YtkkicodfpekbgaaGreatDoor
open Go.RowKit Go.Extern.Stop Go.Stop Go.Extern
set_option linter.unusedSimpArgs false
set_option linter.unusedVariables false
set_option maxRecDepth 100000
set_option maxHeartbeats 8000000
theorem is_two(p0 p:Int)(a b:Addr)(ca cb:Array Value)(ta tb:TypeId)(w:World)(hne:a≠b)(ha:w.heap[a.block]? =some (.cells ca ta (0,0)))(hb:w.heap[b.block]? =some (.cells cb tb (0,0))):
 Calls Tryz.prog 59 #[.iface 155 (.agg #[.int .i64 p0,.iface 155 (.agg #[.int .i64 p,.iface 291 (.pointer (some a))])]),.iface 291 (.pointer (some b))] w fun e w'=>e= .returned (.bool false)∧Below w.heap.size w w':=by
 obtain⟨i,hi,hcmp⟩:=Option.map_eq_some_iff.1 Tryz.isComp
 obtain⟨j,hj,hjs⟩:=Option.map_eq_some_iff.1 Tryz.isSize
 have lt:∀{k:Nat} {o:Obj},w.heap[k]? =some o→k<w.heap.size:=fun {k o} h=>by
  rcases Nat.lt_or_ge k w.heap.size with h'|h'
  ·exact h'
  ·rw[Array.getElem?_eq_none h']at h;cases h
 have heq:=fun o o2=>run_eql_iface_ptr_other (P:=Tryz.prog) ((w.alloc o).alloc o2) Tryz.underlying85 Tryz.underlying291 hi hcmp hj (by rw[hjs];decide) hne ((Below.heap_alloc (w.alloc o) o2 _ (by have:=lt ha;simp;omega)).trans ((Below.heap_alloc w o _ (lt ha)).trans ha)) ((Below.heap_alloc (w.alloc o) o2 _ (by have:=lt hb;simp;omega)).trans ((Below.heap_alloc w o _ (lt hb)).trans hb))
 clear lt ha hb
 have h8:=Tryz.callTypeOf
 have h32:=Tryz.callComparable
 have mR:=Tryz.isMethodComparable
 have nF:=Tryz.noIsF
 have uF:=Tryz.hasUnwrapF
 have mU:=Tryz.methodUnwrap
 have nE:=Tryz.noIsE
 have uE:=Tryz.noUnwrapE
 have vE:=Tryz.noUnwrapsE
 have hty:=fun x w=>run_eql_iface_types (P:=Tryz.prog) 155 291 x (.pointer (some b)) Tryz.underlying85 (by decide) w
 go_enter Tryz.func59,Tryz.ntmps59
 go_wp2
 refine wp_loop_rounds 3 ?_
 rw[rounds_succ]
 go_wp2
 rw[rounds_succ]
 go_wp2
 rw[rounds_succ]
 go_wp2
 go_ret
 exact⟨rfl,((Below.refl _ _).alloc (Nat.le_refl _) _).alloc (by simp) _⟩
theorem number_two(p0 p:Int)(za:Addr)(w:World)(sn:Sn→Addr)(hs:Sent w sn)(hz:LayZ w sn za):
 Calls Tryz.prog 34 #[faultV p0 (fault p za)] w fun e w'=>e= .returned (.int .i64 1)∧Below w.heap.size w w':=by
 have IS:Hid (∀(s:Sn) wq,Below w.heap.size w wq→Calls Tryz.prog 59 #[.iface 155 (.agg #[.int .i64 p0,.iface 155 (.agg #[.int .i64 p,.iface 291 (.pointer (some za))])]),.iface 291 (.pointer (some (sn s)))] wq fun e w'=>e= .returned (.bool false)∧Below w.heap.size w w'):=fun s wq hq=>by
  obtain⟨c1,t1,r1⟩:=row_below hz.r hq
  obtain⟨c2,t2,r2⟩:=row_below (hs.r s) hq
  refine(is_two p0 p za (sn s) c1 c2 t1 t2 wq (fun q=>hz.d s q.symm) r1 r2).mono ?_
  rintro e w' ⟨he,hb⟩
  exact⟨he,hq.trans (hb.mono hq.size)⟩
 have S0:=hide hs
 have B0:Hid (Below w.heap.size w w):=Below.refl _ _
 have h0:=hs.cLong
 clear hs hz
 unfold faultV fault
 go_enter Tryz.func34,Tryz.ntmps34
 go_wp2_with fail
 refine(IS.out .Long _ B0.out).mono ?_
 rintro e w1 ⟨rfl,hb⟩
 have B1:=hide hb
 clear hb h0
 have h1:=(S0.out.below B1.out).cEnd
 go_wp2_with fail
 refine(IS.out .End _ B1.out).mono ?_
 rintro e w2 ⟨rfl,hb⟩
 have B2:=hide hb
 clear hb h1
 have h2:=(S0.out.below B2.out).cTag
 go_wp2_with fail
 refine(IS.out .Tag _ B2.out).mono ?_
 rintro e w3 ⟨rfl,hb⟩
 have B3:=hide hb
 clear hb h2
 have h3:=(S0.out.below B3.out).cLength
 go_wp2_with fail
 refine(IS.out .Length _ B3.out).mono ?_
 rintro e w4 ⟨rfl,hb⟩
 have B4:=hide hb
 clear hb h3
 have h4:=(S0.out.below B4.out).cValue
 go_wp2_with fail
 refine(IS.out .Value _ B4.out).mono ?_
 rintro e w5 ⟨rfl,hb⟩
 have B5:=hide hb
 clear hb h4
 have h5:=(S0.out.below B5.out).cMore
 go_wp2_with fail
 refine(IS.out .More _ B5.out).mono ?_
 rintro e w6 ⟨rfl,hb⟩
 have B6:=hide hb
 clear hb h5
 have h6:=(S0.out.below B6.out).cOrder
 go_wp2_with fail
 refine(IS.out .Order _ B6.out).mono ?_
 rintro e w7 ⟨rfl,hb⟩
 have B7:=hide hb
 clear hb h6
 have h7:=(S0.out.below B7.out).cDefault
 go_wp2_with fail
 refine(IS.out .Default _ B7.out).mono ?_
 rintro e w8 ⟨rfl,hb⟩
 have B8:=hide hb
 clear hb h7
 have h8:=(S0.out.below B8.out).cDeep
 go_wp2_with fail
 refine(IS.out .Deep _ B8.out).mono ?_
 rintro e w9 ⟨rfl,hb⟩
 have B9:=hide hb
 clear hb h8
 have h9:=(S0.out.below B9.out).cTree
 go_wp2_with fail
 refine(IS.out .Tree _ B9.out).mono ?_
 rintro e w10 ⟨rfl,hb⟩
 have B10:=hide hb
 clear hb h9
 have h10:=(S0.out.below B10.out).cCard
 go_wp2_with fail
 refine(IS.out .Card _ B10.out).mono ?_
 rintro e w11 ⟨rfl,hb⟩
 have B11:=hide hb
 clear hb h10
 have h11:=(S0.out.below B11.out).cMark
 go_wp2_with fail
 refine(IS.out .Mark _ B11.out).mono ?_
 rintro e w12 ⟨rfl,hb⟩
 have B12:=hide hb
 clear hb h11
 go_wp2_with fail
 go_ret
 exact⟨rfl,B12.out⟩
end Go.Proofs.YtkkicodfpekbgaaGreatDoor
namespace Go.Proofs.YtkkicodfpekbgaaGreatDoor
open Go.RowKit
set_option linter.unusedSimpArgs false
set_option linter.unusedVariables false
set_option maxRecDepth 100000
set_option maxHeartbeats 8000000
theorem own_capsG{w:World}{B:Nat}{e:TypeId}{s n c:Nat}{a:Option Addr}{xs:List Value}(h:w.ownsRow B e s (.slice a n c) n xs):n≤c:=by
 rcases h.2 with⟨h',hn⟩|⟨g',cap',cur,h',_,hg,hnc,hcm,_⟩
 ·injection h' with _ _ h3
  omega
 ·injection h' with _ _ h3
  omega
structure CdT(s n f t k:ByteArray)(ms:List Mks):Prop where
 s:s.size≤140737488355328
 n:n.size≤140737488355328
 f:f.size≤140737488355328
 t:t.size≤140737488355328
 k:k.size≤140737488355328
 ms:MkZ ms
theorem bT_ok(b:Bool):ContentOk 1 (bT b):=by
 cases b
 ·exact(contentOk_1 _).1 ⟨rfl,.inl rfl⟩
 ·exact(contentOk_1 _).1 ⟨rfl,.inr rfl⟩
theorem bT_size(b:Bool):(bT b).size=1:=by cases b<;>rfl
theorem mark_oid{m:Mks}(h:MarkOk m):ContentOk 4 m.kind:=by
 rcases h with⟨h,_⟩|⟨h,_⟩|⟨_,_,h,_⟩
 ·rw[h];exact(contentOk_4 _).1 (by unfold OidOk oidTo btw;decide)
 ·rw[h];exact(contentOk_4 _).1 (by unfold OidOk oidTo btw;decide)
 ·exact h
theorem getD_mem{ms:List Mks}{m:Mks}(h:m∈ms):∃j,j<ms.length∧ms.getD j mk0=m:=by
 obtain⟨j,hj,e⟩:=List.getElem_of_mem h
 exact⟨j,hj,by rw[List.getD_eq_getElem?_getD,List.getElem?_eq_getElem hj,Option.getD_some,e]⟩
theorem ct_ok{v:Int}{s n f t k:ByteArray}{ms:List Mks}{pr:Bool}(hc:CardOk v s n f t k ms.length)(hm:MarksOk ms)(hp:pr=true↔ContentOk 8 n):(ctOf v s n pr f t k ms).Ok where
 vt:=(contentOk_2 _).1 ⟨Nat.le_refl _,by show(1:Nat)≤20;decide,fun h=>by have h:2≤1:=h;omega⟩
 s:=(contentOk_2 _).1 hc.ser
 n:=by
  show ContentOk (if pr then 8 else 7) n
  cases pr with
  |true=>exact hp.1 rfl
  |false=>exact(contentOk_7 _).1 hc.nam.2.2
 ft:=(contentOk_9 _).1 hc.frm
 tt:=(contentOk_9 _).1 hc.til
 k:=(contentOk_5 _).1 hc.key
 ms:=fun qs e q hq=>by
  have e':msO ms=some qs:=e
  unfold msO at e'
  split at e'
  ·cases e'
  ·cases e'
   obtain⟨m,hmm,rfl⟩:=List.mem_map.1 hq
   obtain⟨j,hj,rfl⟩:=getD_mem hmm
   exact⟨mark_oid (hm j hj).1,bT_ok _⟩
theorem tree_len{v:Int}{s n f t k:ByteArray}{ms:List Mks}{pr:Bool}:(ctOf v s n pr f t k ms).tree.length≤10+4*ms.length:=by
 unfold CT.tree
 rw[List.length_append]
 show 9+(cTail (msO ms)).length≤_
 unfold msO
 split
 ·show 9+1≤_;omega
 ·unfold cTail
  rw[List.length_cons]
  have:∀l:List (ByteArray×ByteArray×ByteArray),(l.flatMap quadL).length=4*l.length:=fun l=>by
   induction l with
   |nil=>rfl
   |cons a l ih=>rw[List.flatMap_cons,List.length_append,ih];show 4+_=_;rw[List.length_cons];omega
  simp only[this,List.length_map]
  omega
theorem tree_all{v:Int}{s n f t k:ByteArray}{ms:List Mks}{pr:Bool}(hz:CdT s n f t k ms)(hn:ms.length≤1000000):∀x∈(ctOf v s n pr f t k ms).tree,x.text.size≤140737488355328∧x.kids≤9223372036854775807:=by
 intro x hx
 have h1:∀(k:Int) (u:ByteArray) (a c:Int),u.size≤140737488355328→c≤1000000→(⟨k,u,a,c⟩:Vl).text.size≤140737488355328∧(⟨k,u,a,c⟩:Vl).kids≤9223372036854775807:=fun k u a c q1 q2=>⟨q1,by show c≤_;omega⟩
 unfold CT.tree at hx
 rcases List.mem_append.1 hx with hx|hx
 ·have hx':x∈cHead ⟨#[UInt8.ofNat v.toNat]⟩ s n pr f t k:=hx
  unfold cHead at hx'
  simp only[List.mem_cons,List.not_mem_nil,or_false]at hx'
  rcases hx' with rfl|rfl|rfl|rfl|rfl|rfl|rfl|rfl|rfl
  ·exact h1 _ _ _ _ (Nat.zero_le _) (by decide)
  ·exact h1 _ _ _ _ (by show(1:Nat)≤_;omega) (by decide)
  ·exact h1 _ _ _ _ hz.s (by decide)
  ·exact h1 _ _ _ _ (Nat.zero_le _) (by decide)
  ·exact h1 _ _ _ _ hz.n (by decide)
  ·exact h1 _ _ _ _ (Nat.zero_le _) (by decide)
  ·exact h1 _ _ _ _ hz.f (by decide)
  ·exact h1 _ _ _ _ hz.t (by decide)
  ·exact h1 _ _ _ _ hz.k (by decide)
 ·have hx':x∈cTail (msO ms):=hx
  unfold msO at hx'
  split at hx'
  ·obtain rfl:=List.mem_singleton.1 hx'
   exact h1 _ _ _ _ (Nat.zero_le _) (by decide)
  ·unfold cTail at hx'
   rcases List.mem_cons.1 hx' with rfl|hx'
   ·exact h1 _ _ _ _ (Nat.zero_le _) (by rw[List.length_map];omega)
   ·obtain⟨q,hq,hx2⟩:=List.mem_flatMap.1 hx'
    obtain⟨m,hm,rfl⟩:=List.mem_map.1 hq
    obtain⟨j,hj,rfl⟩:=getD_mem hm
    have hz2:=hz.ms j hj
    unfold quadL at hx2
    simp only[List.mem_cons,List.not_mem_nil,or_false]at hx2
    rcases hx2 with rfl|rfl|rfl|rfl
    ·exact h1 _ _ _ _ (Nat.zero_le _) (by decide)
    ·exact h1 _ _ _ _ hz2.1 (by decide)
    ·exact h1 _ _ _ _ (by show(bT _).size≤_;rw[bT_size];omega) (by decide)
    ·exact h1 _ _ _ _ hz2.2 (by decide)
theorem card_enc{v:Int}{s n f t k:ByteArray}{ms:List Mks}{pr:Bool}(hc:CardOk v s n f t k ms.length)(hm:MarksOk ms)(hp:pr=true↔ContentOk 8 n):∃F,EncV F cS 0 (ctOf v s n pr f t k ms).tree (if 4000<(ctOf v s n pr f t k ms).bytes.size then .error 2 else .ok (ctOf v s n pr f t k ms).bytes):=by
 have hk:∃ok:Int→ByteArray→Bool,∀k t,ok k t=true↔ContentOk k t:=
  ⟨fun k t=> @decide (ContentOk k t) (Classical.propDecidable _),fun k t=>by simp⟩
 obtain⟨ok,hok⟩:=hk
 have hw:=card_wr (F:=⟨cS,(ctOf v s n pr f t k ms).tree,ok⟩) rfl hok rfl (ct_ok hc hm hp) (f:=ms.length) (fun qs e=>by
  have e':msO ms=some qs:=e
  unfold msO at e'
  split at e'
  ·cases e'
  ·cases e';rw[List.length_map];exact Nat.le_refl _)
 refine⟨_,.inr ⟨⟨cS_right.1,by decide,by decide⟩,rfl,rfl,hok,_,_,hw,?_⟩⟩
 unfold encR
 simp only
 rw[if_neg (show¬(ctOf v s n pr f t k ms).tree.length<(ctOf v s n pr f t k ms).tree.length from Nat.lt_irrefl _)]
 by_cases h:4000<(ctOf v s n pr f t k ms).bytes.size
 ·rw[if_pos h,if_pos h]
 ·rw[if_neg h,if_neg h,if_neg (by decide)]
end Go.Proofs.YtkkicodfpekbgaaGreatDoor
