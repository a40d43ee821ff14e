/-
Several texts in one.
-/
import Derived.Test.YtkkicodfpekbgaaGreatDoorJa7
import Derived.Test.YtkkicodfpekbgaaGreatDoorJa3
import Derived.Test.YtkkicodfpekbgaaGreatDoorJa5
import Derived.Test.YtkkicodfpekbgaaGreatDoorJa6
import Derived.Test.YtkkicodfpekbgaaGreatDoorJa4
import Derived.Deep.RegionHeldLaw
namespace Go.Proofs.YtkkicodfpekbgaaGreatDoor
open Go.RowKit
set_option linter.unusedSimpArgs false
set_option linter.unusedVariables false
set_option maxRecDepth 100000
set_option maxHeartbeats 8000000
theorem mvalue_any(W:World)(M:Nat)(na ta:Option Addr)(nl nc tl tc:Nat)(ps:List Np)(vs:Value)(dd:Nat)(hdd:dd≤4)(hNI:∀i,i<ps.length→NodeI (ps.map Prod.fst) i)(hV:∀d,dd=d+1→ValM W M na ta nl nc tl tc ps vs d)(hp:PlanIn W na ta nl tl):ValM W M na ta nl nc tl tc ps vs dd:=by
 intro w i tree vl hi hdp hlen h
 obtain⟨gs,scap,ka,kc,hvs,hgs,n0,n1,n2,n3,hkr⟩:=h.node hi
 subst hvs
 obtain⟨i0,hi0,hz0,hz1,hz2⟩:=info_parts Tryz.infoVal
 have HNI:=hideq (hNI i hi)
 have HNA:=hideq hNI
 have HDP:=hideq hdp
 have HV:=hideq hV
 have HA:=hideq h
 have HKR:=hideq hkr
 have hil:(i:Int)<ps.length:=by omega
 obtain⟨c4,_,c5,_⟩:=h.c4
 have hMl:=h.lt
 obtain⟨la,lc,hvl⟩:∃a cap,vl= .slice a tree.length cap:=by obtain⟨a,c,e,_⟩:=own_form h.val;exact⟨a,c,e⟩
 subst hvl
 clear h hkr hNI hdp hV
 generalize hn:nd (ps.map Prod.fst) i=n at n0 n1 n2 n3 HKR
 have HN:=hideq hn
 clear hn
 go_enter Tryz.func45,Tryz.ntmps45
 go_upto_region 2 with fail
 have HA1:Hid (MkA W (w.alloc (.cells #[.int .i64 n.kind,.int .i64 n.tag,.int .i64 n.mode,.slice ka n.kids.length kc] 58)) M na ta nl nc tl tc ps (.slice (some ⟨gs,0,none⟩) ps.length scap) tree (.slice la tree.length lc)):=HA.out.below ((Below.refl _ _).alloc (Nat.le_refl _) _)
 have HF1:Hid (FrN M (.slice la tree.length lc) (.slice la tree.length lc) w (w.alloc (.cells #[.int .i64 n.kind,.int .i64 n.tag,.int .i64 n.mode,.slice ka n.kids.length kc] 58))):=FrN.below ((Below.refl _ _).alloc (Nat.le_refl _) _)
 have HNB:Hid ((w.alloc (.cells #[.int .i64 n.kind,.int .i64 n.tag,.int .i64 n.mode,.slice ka n.kids.length kc] 58)).heap[w.heap.size]? =some (.cells #[.int .i64 n.kind,.int .i64 n.tag,.int .i64 n.mode,.slice ka n.kids.length kc] 58 (0,0))):=heap_alloc_new w _
 have HK1:Hid ((w.alloc (.cells #[.int .i64 n.kind,.int .i64 n.tag,.int .i64 n.mode,.slice ka n.kids.length kc] 58)).ownsRow W.heap.size 55 3 (.slice ka n.kids.length kc) n.kids.length (kcells n.kids)):=HKR.out.alloc _
 generalize(w.alloc (.cells #[.int .i64 n.kind,.int .i64 n.tag,.int .i64 n.mode,.slice ka n.kids.length kc] 58))=w1 at HA1 HF1 HNB HK1 ⊢
 generalize w.heap.size=N at HNB ⊢
 clear HA HKR n0 n1 n2 n3 c4 c5 hgs hMl
 have HNM:Hid (N≠M∧N<w1.heap.size):=by
  obtain⟨_,_,_,_,hM⟩:=HA1.out.mak.own
  refine⟨fun e=>?_,row_lt HNB.out⟩
  have q:=HNB.out
  rw[e,hM]at q
  injection q with q
  injection q with _ q _
  exact absurd q (by decide)
 have y0:w1.cell? ⟨N,0,none⟩=some (.int .i64 n.kind):=by simp[World.cell?,HNB.out]
 obtain⟨_,_,c5,f5⟩:=HA1.out.c4
 have hM1:=HA1.out.lt
 have hN1:=HNM.out.2
 have hsz:W.heap.size≤w1.heap.size+1:=by have:=HA1.out.mak.bel.size;omega
 have HAP:Hid (∀g cap w3,w3.ownsRow W.heap.size 60 4 (.slice (some ⟨g,0,none⟩) (tree.length+1) cap) (tree.length+1) (vcells tree++(⟨n.kind,noB,0,0⟩:Vl).cells)→(w1.drew.alloc (.cells #[.int .i64 n.kind,.string ⟨#[]⟩,.int .i64 0,.int .i64 0] 60)).grownBy w3 (Value.slice la tree.length lc).ownBlock→((Value.slice la tree.length lc).ownBlock=some g∨g=w1.heap.size+1)→
  w3.cell? ⟨M,5,none⟩=some (.slice la tree.length lc)∧w3.frozen? ⟨M,5,none⟩=false∧M<w3.heap.size∧MkA W (w3.setCell ⟨M,5,none⟩ (.slice (some ⟨g,0,none⟩) (tree.length+1) cap)) M na ta nl nc tl tc ps (.slice (some ⟨gs,0,none⟩) ps.length scap) (tree++[⟨n.kind,noB,0,0⟩]) (.slice (some ⟨g,0,none⟩) (tree.length+1) cap)∧FrN M (.slice la tree.length lc) (.slice (some ⟨g,0,none⟩) (tree.length+1) cap) w1 (w3.setCell ⟨M,5,none⟩ (.slice (some ⟨g,0,none⟩) (tree.length+1) cap))):=fun g cap w3 h1 h2 h3=>
  HA1.out.putV ((Below.refl _ _).drew.alloc (by simp) _) h1 h2 (fun g' hg=>by
   injection hg with hg
   subst hg
   rcases h3 with q|q
   ·exact .inl q
   ·exact .inr (by show w1.heap.size≤g;omega))
 have hnd:=nv_pos dd
 go_cut [] (fun wx=>∃g cap,MkA W wx M na ta nl nc tl tc ps (.slice (some ⟨gs,0,none⟩) ps.length scap) (tree++[⟨n.kind,noB,0,0⟩]) (.slice (some ⟨g,0,none⟩) (tree.length+1) cap)∧FrN M (.slice la tree.length lc) (.slice (some ⟨g,0,none⟩) (tree.length+1) cap) w1 wx)
 case first=>
  go_region_law (refine step_append_lies _ rfl (.tmp 30) (.tmp 34) 39 rfl W.heap.size 60 i0 Tryz.zeroVal 4 40 Tryz.underlying39 hi0 hz0 hz1 hz2 rfl (by decide) (.slice la tree.length lc) tree.length (vcells tree) (by simp[Act.eval,Act.put]) (HA1.out.val.drew.alloc _) ⟨w1.heap.size,0,none⟩ 1 1 [.int .i64 n.kind,.string ⟨#[]⟩,.int .i64 0,.int .i64 0] (by simp[Act.eval,Act.put]) rfl (by first|exact World.news_of_block (heap_alloc_new w1.drew (.cells #[.int .i64 n.kind,.string ⟨#[]⟩,.int .i64 0,.int .i64 0] 60))|exact World.news_of_block (heap_alloc_new w1 (.cells #[.int .i64 n.kind,.string ⟨#[]⟩,.int .i64 0,.int .i64 0] 60))) (by intro u hu;simp at hu;rcases hu with rfl|rfl|rfl<;>rfl) (by decide) (by unfold maxLen;omega) (by omega) (by simpa using hsz) (w1.heap.size+1) (by simp) ?_;intro g6 cap6 w6 h61 h62 h63 h64;obtain⟨e3,q3,l3,hI6,hF6⟩:=HAP.out g6 cap6 w6 h61 h62 h63;have HI6:=hideq hI6;have HF6:=hideq hF6;clear h61 h62 h63 h64 hI6 hF6)
  all_goals
   go_simp
   go_wp2_with fail
   go_meet
   exact⟨g6,cap6,HI6.out,HF6.out⟩
 case rest=>
  obtain⟨g,cap,hAc,hFc⟩:=hcut
  have HAc:=hideq hAc
  have HFc:=hideq (HF1.out.trans hFc)
  have HLc:Hid (Loc W wc N n ka kc):=Loc.fr ⟨HNB.out,HK1.out⟩ HA1.out hFc
  clear hAc hFc y0 c5 f5 hM1 hsz HAP HNB HK1 HA1 hN1 HNM
  obtain⟨y0,y3,hNc⟩:=HLc.out.cells
  have hkd:=HNI.out.kind
  rw[HN.out]at hkd
  obtain⟨hk1,hk13⟩:=hkd
  by_cases hk9:n.kind≤9
  ·have b1:(n.kind==10)=false:=by simp;omega
   have b2:(n.kind==13)=false:=by simp;omega
   have b3:(n.kind==11)=false:=by simp;omega
   have b4:(n.kind==12)=false:=by simp;omega
   have HCO:Hid (Calls Tryz.prog 54 #[.pointer (some ⟨M,0,none⟩),.int .i64 n.kind] wc fun e w'=>RetY (fun s=>ContentOk n.kind s∧s.size≤76) (fun w'=>MkI W w' M na ta nl nc tl tc (.slice (some ⟨gs,0,none⟩) ps.length scap) (.slice (some ⟨g,0,none⟩) (tree.length+1) cap)∧FrM M wc w') e w'):=content_any W wc M na ta nl nc tl tc _ _ n.kind hk1 hk9 HAc.out.mak hp
   clear hp HV
   go_wp2_with fail
   refine HCO.out.mono ?_
   rintro e w2 ⟨t,rfl,⟨hct,htz⟩,hI2,hF2⟩
   have HCT:=hideq hct
   have HA2:=hideq (HAc.out.frm hI2 hF2)
   have HF2:=hideq (HFc.out.trans (FrN.ofM hF2))
   clear hI2 hF2 hct HCO y0 y3 hNc
   obtain⟨_,_,c5,_⟩:=HA2.out.c4
   have hM2:=HA2.out.lt
   obtain⟨x1,x2,x3,hA3,hF3⟩:=HA2.out.setV (v':=⟨n.kind,t,0,0⟩) 1 (by decide) (u:= .string t) rfl
   have HA3:=hideq hA3
   have HF3:=hideq (HF2.out.trans hF3)
   have x1':w2.cell? ⟨g,tree.length*4+1,none⟩=some (.string ⟨#[]⟩):=x1
   clear hA3 hF3 x1
   go_wp2
   go_returns
   refine⟨rfl,[⟨n.kind,t,0,0⟩],_,HA3.out,HF3.out,?_,VOk.cons htz (by show(0:Int)≤3;decide) VOk.nil,by simpa using hnd,by simp⟩
   rw[←HN.out]at hk1 hk9 HCT ⊢
   exact val_leaf dd hk1 hk9 HCT.out
  ·have HO:Hid (∀wq vl (n:Int),0<n→n≤1000000→MkI W wq M na ta nl nc tl tc (.slice (some ⟨gs,0,none⟩) ps.length scap) vl→Calls Tryz.prog 53 #[.pointer (some ⟨M,0,none⟩),.int .i64 n] wq fun e w'=>RetNo n (fun w'=>MkI W w' M na ta nl nc tl tc (.slice (some ⟨gs,0,none⟩) ps.length scap) vl∧FrM M wq w') e w'):=fun wq vl n h1 h2 q=>one_any W wq M na ta nl nc tl tc _ vl n h1 h2 q hp
   clear hp
   have hkids:n.kids≠ []:=by
    rw[←HN.out]at hk9 hk13 ⊢
    intro q
    have hN:=HNI.out
    by_cases q1:(nd (ps.map Prod.fst) i).kind=10∨(nd (ps.map Prod.fst) i).kind=13
    ·have:=(hN.seq q1).1;rw[q]at this;cases this
    by_cases q2:(nd (ps.map Prod.fst) i).kind=11
    ·obtain⟨_,e,_⟩:=hN.sof q2;rw[q]at e;cases e
    ·obtain⟨_,e,_⟩:=hN.set (by omega);rw[q]at e;cases e
   obtain⟨d,hd⟩:∃d,dd=d+1:=by
    cases dd with
    |zero=>have q:(nd (ps.map Prod.fst) i).kids=[]:=HDP.out
           rw[HN.out]at q;exact absurd q hkids
    |succ d=>exact⟨d,rfl⟩
   have HVd:=hideq (HV.out d hd)
   have HDK:Hid (∀k∈n.kids,∃m:Nat,k.node=(m:Int)∧m<ps.length∧Dp (ps.map Prod.fst) d m):=fun k hk=>by
    have q:=HDP.out
    rw[hd]at q
    have hk':k∈(nd (ps.map Prod.fst) i).kids:=by rw[HN.out];exact hk
    obtain⟨m,e,_,h5⟩:=HNI.out.within k hk'
    have q2:=q k hk'
    rw[e,Int.toNat_natCast]at q2
    exact⟨m,e,by simpa using h5,q2⟩
   have hnv:nv dd=1+3*nv d:=by rw[hd];rfl
   have hlen1:tree.length+1+3*nv d≤1000:=by omega
   have HDD:=hideq hd
   have hnd1:=nv_pos d
   clear HV HDP hnv hd hlen hkids
   by_cases k13:n.kind=13
   ·have hsq:=HNI.out.seq (by rw[HN.out];exact .inr k13)
    rw[HN.out]at hsq
    obtain⟨l1,l3,_⟩:=hsq
    have b1:(n.kind==10)=false:=by simp;omega
    have b2:(n.kind==13)=true:=by simpa using k13
    have l1':(0:Int)<n.kids.length:=by omega
    have HK13:=hideq k13
    clear k13
    go_wp2_with fail
    refine(HO.out _ _ n.kids.length (by omega) (by omega) HAc.out.mak).mono ?_
    rintro e w2 ⟨r,rfl,r0,r1,hI2,hF2⟩
    obtain⟨c,rfl⟩:=Int.eq_ofNat_of_zero_le r0
    have HA2:=hideq (HAc.out.frm hI2 hF2)
    have HF2:=hideq (HFc.out.trans (FrN.ofM hF2))
    have HL2:=hideq (HLc.out.fr HAc.out (FrN.ofM (v:= .slice (some ⟨g,0,none⟩) (tree.length+1) cap) hF2))
    have r1':(c:Int)<n.kids.length:=r1
    clear hI2 hF2 y0 y3 hNc HAc HFc HLc r0 r1
    obtain⟨_,_,c5,_⟩:=HA2.out.c4
    have hM2:=HA2.out.lt
    obtain⟨x1,x2,x3,hA3,hF3⟩:=HA2.out.setV (v':=⟨n.kind,noB,c,0⟩) 2 (by decide) (u:= .int .i64 c) rfl
    have x1':w2.cell? ⟨g,tree.length*4+2,none⟩=some (.int .i64 0):=x1
    have HA3:=hideq hA3
    have HF3:=hideq (HF2.out.trans hF3)
    have HL3:=hideq (HL2.out.fr HA2.out hF3)
    clear hA3 hF3 x1
    go_upto_region 17 with fail
    generalize(w2.setCell ⟨g,tree.length*4+2,none⟩ (.int .i64 c))=w3 at HA3 HF3 HL3 ⊢
    clear c5 hM2 x1' x2 x3 HA2 HF2 HL2
    obtain⟨_,_,c5,_⟩:=HA3.out.c4
    have hM2:=HA3.out.lt
    obtain⟨x1,x2,x3,hA4,hF4⟩:=HA3.out.setV (v':=⟨n.kind,noB,c,1⟩) 3 (by decide) (u:= .int .i64 1) rfl
    have x1':w3.cell? ⟨g,tree.length*4+3,none⟩=some (.int .i64 0):=x1
    have HA4:=hideq hA4
    have HF4:=hideq (HF3.out.trans hF4)
    have HL4:=hideq (HL3.out.fr HA3.out hF4)
    clear hA4 hF4 x1
    go_upto_region 18 with fail
    generalize(w3.setCell ⟨g,tree.length*4+3,none⟩ (.int .i64 1))=w4 at HA4 HF4 HL4 ⊢
    clear c5 hM2 x1' x2 x3 HA3 HF3 HL3
    have hcl:c<n.kids.length:=by omega
    obtain⟨y0,y3,hN4⟩:=HL4.out.cells
    obtain⟨gk,hka,hgk,z0,_⟩:=kid_in HL4.out.kid hcl
    subst hka
    obtain⟨m,hm,hmp,hmd⟩:=HDK.out (kd n c) (kd_mem hcl)
    have z0':w4.cell? ⟨gk,c*3,none⟩=some (.int .i64 (m:Nat)):=by rw[z0];exact congrArg (fun z=>some (Value.int .i64 z)) hm
    have HM:=hideq hm
    have HMD:=hideq hmd
    clear z0 hm hmd
    go_wp2_with fail
    refine(HVd.out w4 m _ _ hmp HMD.out (by simp;omega) HA4.out).mono ?_
    rintro e w5 ⟨rfl,ext,vl5,hA5,hF5,hV5,hO5,hn5,hne5⟩
    have HFIN:Hid (AfterVal W M na ta nl nc tl tc ps (.slice (some ⟨gs,0,none⟩) ps.length scap) tree (.slice la tree.length lc) i dd w w5):=by
     refine⟨⟨n.kind,noB,c,1⟩::ext,vl5,?_,HF4.out.trans hF5,?_,VOk.cons (by show(0:Nat)≤76;decide) (by show(1:Int)≤3;decide) hO5,?_,by simp⟩
     ·rw[List.append_assoc]at hA5;exact hA5
     ·rw[HDD.out,HK13.out]
      refine val_choice (by rw[HN.out];exact HK13.out) (by rw[HN.out];exact hcl) ?_
      rw[HN.out]
      have:(kd n c).node.toNat=m:=by rw[HM.out];rfl
      rw[this];exact hV5
     ·rw[HDD.out,List.length_cons];show _≤1+3*nv d;omega
    clear hA5 hF5 hV5 hO5 hn5 hne5
    go_wp2
    go_returns
    exact⟨rfl,HFIN.out⟩
   ·by_cases k10:n.kind=10
    ·have hsq:=HNI.out.seq (by rw[HN.out];exact .inl k10)
     rw[HN.out]at hsq
     obtain⟨l1,l3,_⟩:=hsq
     have b1:(n.kind==10)=true:=by simpa using k10
     have HK10:=hideq k10
     clear k10 k13
     obtain⟨_,_,c5,_⟩:=HAc.out.c4
     have hM2:=HAc.out.lt
     obtain⟨x1,x2,x3,hA3,hF3⟩:=HAc.out.setV (v':=⟨n.kind,noB,0,n.kids.length⟩) 3 (by decide) (u:= .int .i64 n.kids.length) rfl
     have x1':wc.cell? ⟨g,tree.length*4+3,none⟩=some (.int .i64 0):=x1
     have HA3:=hideq hA3
     have HF3:=hideq hF3
     clear hA3 hF3 x1
     have HVL:Hid (∀wx,wx=(wc.setCell ⟨g,tree.length*4+3,none⟩ (.int .i64 n.kids.length)).drew→MkA W wx M na ta nl nc tl tc ps (.slice (some ⟨gs,0,none⟩) ps.length scap) (tree++[⟨n.kind,noB,0,n.kids.length⟩]) (.slice (some ⟨g,0,none⟩) (tree.length+1) cap)∧FrN M (.slice (some ⟨g,0,none⟩) (tree.length+1) cap) (.slice (some ⟨g,0,none⟩) (tree.length+1) cap) wc wx):=fun wx e=>by
      rw[e]
      exact⟨HA3.out.below (Below.refl _ _).drew,HF3.out.trans (FrN.below (Below.refl _ _).drew)⟩
     have hat:(tree.length:Int)<(tree.length:Int)+1:=by omega
     obtain⟨wb,rfl⟩:∃wb,wb=wc:=⟨wc,rfl⟩
     go_upto_region 7 with fail
     go_cut [] (fun wx=>MkA W wx M na ta nl nc tl tc ps (.slice (some ⟨gs,0,none⟩) ps.length scap) (tree++[⟨n.kind,noB,0,n.kids.length⟩]) (.slice (some ⟨g,0,none⟩) (tree.length+1) cap)∧FrN M (.slice (some ⟨g,0,none⟩) (tree.length+1) cap) (.slice (some ⟨g,0,none⟩) (tree.length+1) cap) wb wx)
     case first=>
      go_region_law (fail)
      all_goals
       go_simp
       go_wp2_with fail
       go_meet
       exact HVL.out _ rfl
     case rest=>
      obtain⟨hA4,hF4⟩:=hcut
      have HS0:Hid (SeqR W M na ta nl nc tl tc ps (.slice (some ⟨gs,0,none⟩) ps.length scap) tree (.slice la tree.length lc) N n ka kc d w ⟨n.kind,noB,0,n.kids.length⟩ [] (.slice (some ⟨g,0,none⟩) (tree.length+1) cap) wc):=⟨hA4,HFc.out.trans hF4,HLc.out.fr HAc.out hF4,VOk.nil,Nat.zero_le _⟩
      clear hA4 hF4 HVL HA3 HF3 HAc HFc HLc c5 hM2 x1' x2 x3 y0 y3 hNc hat
      go_wp2
      go_loopw [6] (fun v6 wr=>∃(es:List (List Vl)) (vl':Value),v6= .int .i64 es.length∧es.length≤n.kids.length∧(∀j,j<es.length→KidV (ps.map Prod.fst) (n.kids.getD j kd0) (es.getD j []) d)∧SeqR W M na ta nl nc tl tc ps (.slice (some ⟨gs,0,none⟩) ps.length scap) tree (.slice la tree.length lc) N n ka kc d w ⟨n.kind,noB,0,n.kids.length⟩ es vl' wr) (fun v6 _=>3-(intOf v6).toNat)
      case atStart=>exact⟨[],_,rfl,Nat.zero_le _,fun j hj=>absurd hj (Nat.not_lt_zero _),HS0.out⟩
      case round=>
       obtain⟨es,vl',rfl,hle,hkv,hS⟩:=hrel
       have HKV:=hideq hkv
       have HS:=hideq hS
       clear hkv hS
       obtain⟨y0,y3,hNr⟩:=HS.out.loc.cells
       by_cases hlt:es.length<n.kids.length
       ·have hlt':(es.length:Int)<n.kids.length:=by omega
        obtain⟨gk,hka,hgk,z0,z1⟩:=kid_in HS.out.loc.kid hlt
        subst hka
        obtain⟨m,hm,hmp,hmd⟩:=HDK.out (kd n es.length) (kd_mem hlt)
        have z0':wr.cell? ⟨gk,es.length*3,none⟩=some (.int .i64 (m:Nat)):=by rw[z0];exact congrArg (fun z=>some (Value.int .i64 z)) hm
        have HM:=hideq hm
        have HMD:=hideq hmd
        have hll:=HS.out.len
        have HKN:Hid (∀e,KidV (ps.map Prod.fst) (kd n es.length) e d→∀j,j<(es++[e]).length→KidV (ps.map Prod.fst) (n.kids.getD j kd0) ((es++[e]).getD j []) d):=fun e he j hj=>by
         by_cases q:j<es.length
         ·have e1:(es++[e]).getD j []=es.getD j []:=by rw[List.getD_eq_getElem?_getD,List.getD_eq_getElem?_getD,List.getElem?_append_left q]
          rw[e1];exact HKV.out j q
         ·have ej:j=es.length:=by simp at hj;omega
          have e1:(es++[e]).getD j []=e:=by rw[ej,List.getD_eq_getElem?_getD,List.getElem?_append_right (Nat.le_refl _),Nat.sub_self];rfl
          rw[e1,ej];exact he
        have hmul:es.length*nv d≤2*nv d:=Nat.mul_le_mul_right _ (by omega)
        have hlr:(tree++(⟨n.kind,noB,0,n.kids.length⟩:Vl)::es.flatten).length+nv d≤1000:=by rw[List.length_append,List.length_cons];omega
        clear z0 hm hmd hll hmul
        obtain⟨op,hop⟩:∃op,(n.kids.getD es.length kd0).opt=op:=⟨_,rfl⟩
        rw[hop]at z1
        have HOP:Hid ((kd n es.length).opt=op):=hop
        clear hop
        cases op with
        |false=>
         go_wp2_with fail
         refine(HVd.out _ m _ _ hmp HMD.out hlr HS.out.mak).mono ?_
         rintro e w5 ⟨rfl,ext,vl5,hA5,hF5,hV5,hO5,hn5,hne5⟩
         have HS5:=hideq (HS.out.more hA5 hF5 hO5 hn5)
         have HK5:=hideq (HKN.out ext (.inr ⟨hne5,by rw[HM.out];exact hV5⟩))
         clear hA5 hF5 hV5 hO5 hn5 hne5 HKN HVd HO
         go_wp2
         go_roundw
         case rel=>exact⟨es++[ext],vl5,by rw[List.length_append];go_num,by rw[List.length_append];simp;omega,HK5.out,HS5.out⟩
         case measure=>simp[intOf];omega
        |true=>
         go_wp2_with fail
         refine(HO.out _ _ 2 (by omega) (by omega) HS.out.mak.mak).mono ?_
         rintro e w2 ⟨r,rfl,r0,r1,hI2,hF2⟩
         have HS2:=hideq (HS.out.same hI2 hF2)
         clear hI2 hF2 y0 y3 hNr z0' z1 hgk HS
         by_cases hr:r=0
         ·subst hr
          obtain⟨lb,lcb,hvl⟩:∃a cap,vl'= .slice a (tree++(⟨n.kind,noB,0,n.kids.length⟩:Vl)::es.flatten).length cap:=by obtain⟨a,c,e,_⟩:=own_form HS2.out.mak.val;exact⟨a,c,e⟩
          subst hvl
          obtain⟨_,_,c5,_⟩:=HS2.out.mak.c4
          have hM2:=HS2.out.mak.lt
          have hw2:W.heap.size≤w2.heap.size+1:=by have:=HS2.out.mak.mak.bel.size;omega
          have HRV:=hideq (HS2.out.mak.val.alloc (.cells #[.int .i64 15,.string ⟨#[]⟩,.int .i64 0,.int .i64 0] 60))
          have HK5:=hideq (HKN.out [⟨15,noB,0,0⟩] (.inl ⟨HOP.out,rfl⟩))
          generalize hL:(tree++(⟨n.kind,noB,0,n.kids.length⟩:Vl)::es.flatten).length=L at c5 hlr HRV HS2
          have HLL:=hideq hL
          clear hL HKN HVd HO
          go_wp2_with (at_builtin;refine wpList_append_lies _ rfl (.tmp 86) (.tmp 88) 39 rfl W.heap.size 60 i0 Tryz.zeroVal 4 40 Tryz.underlying39 hi0 hz0 hz1 hz2 rfl (by decide) (.slice lb L lcb) L (vcells (tree++(⟨n.kind,noB,0,n.kids.length⟩:Vl)::es.flatten)) rfl HRV.out ⟨w2.heap.size,0,none⟩ 1 1 (⟨15,noB,0,0⟩:Vl).cells rfl rfl (World.news_of_block (heap_alloc_new w2 _)) (by intro u hu;unfold Vl.cells at hu;simp at hu;rcases hu with rfl|rfl|rfl<;>rfl) (by decide) (by unfold maxLen;omega) (by omega) (by simpa using hw2) (w2.heap.size+1) (by simp) ?_)
          intro g6 cap6 w6 h61 h62 h63 h64
          obtain⟨e3,q3,l3,hI6,hF6⟩:=HS2.out.mak.putV (v:=⟨15,noB,0,0⟩) ((Below.refl _ _).alloc (Nat.le_refl _) _) (by rw[HLL.out];exact h61) h62 (fun g' hg=>by
           injection hg with hg
           subst hg
           rcases h63 with q|q
           ·exact .inl q
           ·exact .inr (by show w2.heap.size≤g6;omega))
          have HS5:=hideq (HS2.out.more hI6 hF6 (VOk.cons (by show(0:Nat)≤76;decide) (by show(0:Int)≤3;decide) VOk.nil) (by simpa using hnd1))
          clear h61 h62 h63 h64 hI6 hF6
          go_wp2
          go_roundw
          case rel=>exact⟨es++[[⟨15,noB,0,0⟩]],_,by rw[List.length_append];go_num,by rw[List.length_append];simp;omega,HK5.out,HS5.out⟩
          case measure=>simp[intOf];omega
         ·have hr':(r==0)=false:=by simpa using hr
          obtain⟨y0,y3,hNr⟩:=HS2.out.loc.cells
          obtain⟨gk2,hka,hgk2,z0,_⟩:=kid_in HS2.out.loc.kid hlt
          injection hka with hka
          injection hka with hka _ _
          subst hka
          have z0':w2.cell? ⟨gk,es.length*3,none⟩=some (.int .i64 (m:Nat)):=by rw[z0];exact congrArg (fun z=>some (Value.int .i64 z)) HM.out
          clear z0 hr
          go_wp2_with fail
          refine(HVd.out _ m _ _ hmp HMD.out hlr HS2.out.mak).mono ?_
          rintro e w5 ⟨rfl,ext,vl5,hA5,hF5,hV5,hO5,hn5,hne5⟩
          have HS5:=hideq (HS2.out.more hA5 hF5 hO5 hn5)
          have HK5:=hideq (HKN.out ext (.inr ⟨hne5,by rw[HM.out];exact hV5⟩))
          clear hA5 hF5 hV5 hO5 hn5 hne5 HKN HVd HO
          go_wp2
          go_roundw
          case rel=>exact⟨es++[ext],vl5,by rw[List.length_append];go_num,by rw[List.length_append];simp;omega,HK5.out,HS5.out⟩
          case measure=>simp[intOf];omega
       ·have hlt':¬((es.length:Int)<n.kids.length):=by omega
        have HFIN:Hid (AfterVal W M na ta nl nc tl tc ps (.slice (some ⟨gs,0,none⟩) ps.length scap) tree (.slice la tree.length lc) i dd w wr):=by
         have he:n.kids.length=es.length:=by omega
         refine⟨⟨n.kind,noB,0,n.kids.length⟩::es.flatten,vl',HS.out.mak,HS.out.fr,?_,VOk.cons (by show(0:Nat)≤76;decide) (by show((n.kids.length:Nat):Int)≤3;omega) HS.out.ok,?_,by simp⟩
         ·rw[HDD.out,HK10.out,he]
          refine val_seq (fun j=>?_) (by rw[HN.out];exact HK10.out) (by rw[HN.out];exact he) fun j hj=>?_
          ·by_cases q:j<ps.length
           ·exact(HNA.out j q).kind.2
           ·have:nd (ps.map Prod.fst) j=nd0:=by unfold nd;rw[List.getD_eq_getElem?_getD,List.getElem?_eq_none (by simpa using q)];rfl
            rw[this];decide
          ·rw[HN.out]at hj ⊢
           exact HKV.out j (by omega)
         ·have:=HS.out.len
          have hmul:es.length*nv d≤3*nv d:=Nat.mul_le_mul_right _ (by omega)
          rw[HDD.out,List.length_cons]
          show _≤1+3*nv d
          omega
        go_wp2
        go_returns
        exact⟨rfl,HFIN.out⟩
    ·by_cases k11:n.kind=11
     ·obtain⟨k0,hkids,_,hk0,_⟩:=HNI.out.sof (by rw[HN.out];exact k11)
      rw[HN.out]at hkids
      have HKS:=hideq hkids
      have hl1:n.kids.length=1:=by rw[hkids];rfl
      have hl0:0<n.kids.length:=by omega
      have hl0':(0:Int)<n.kids.length:=by omega
      have b1:(n.kind==10)=false:=by simp;omega
      have b2:(n.kind==13)=false:=by simp;omega
      have b3:(n.kind==11)=true:=by simpa using k11
      have HK11:=hideq k11
      have HL1:=hideq hl1
      clear k11 hkids hl1
      clear k10 k13
      go_wp2_with fail
      refine(HO.out _ _ 3 (by omega) (by omega) HAc.out.mak).mono ?_
      rintro e w2 ⟨r,rfl,r0,r1,hI2,hF2⟩
      obtain⟨c,rfl⟩:=Int.eq_ofNat_of_zero_le r0
      have HA2:=hideq (HAc.out.frm hI2 hF2)
      have HF2:=hideq (HFc.out.trans (FrN.ofM hF2))
      have HL2:=hideq (HLc.out.fr HAc.out (FrN.ofM (v:= .slice (some ⟨g,0,none⟩) (tree.length+1) cap) hF2))
      have r1':(c:Int)<3:=r1
      clear hI2 hF2 y0 y3 hNc HAc HFc HLc r0 r1
      obtain⟨_,_,c5,_⟩:=HA2.out.c4
      have hM2:=HA2.out.lt
      obtain⟨x1,x2,x3,hA3,hF3⟩:=HA2.out.setV (v':=⟨n.kind,noB,0,c⟩) 3 (by decide) (u:= .int .i64 c) rfl
      have x1':w2.cell? ⟨g,tree.length*4+3,none⟩=some (.int .i64 0):=x1
      have HS0:Hid (SeqR W M na ta nl nc tl tc ps (.slice (some ⟨gs,0,none⟩) ps.length scap) tree (.slice la tree.length lc) N n ka kc d w ⟨n.kind,noB,0,c⟩ [] (.slice (some ⟨g,0,none⟩) (tree.length+1) cap) (w2.setCell ⟨g,tree.length*4+3,none⟩ (.int .i64 c))):=⟨hA3,HF2.out.trans hF3,HL2.out.fr HA2.out hF3,VOk.nil,Nat.zero_le _⟩
      clear hA3 hF3 x1
      go_upto_region 22 with fail
      generalize(w2.setCell ⟨g,tree.length*4+3,none⟩ (.int .i64 c))=w3 at HS0 ⊢
      clear c5 hM2 x1' x2 x3 HA2 HF2 HL2
      go_wp2
      go_loopw [9] (fun v9 wr=>∃(es:List (List Vl)) (vl':Value),v9= .int .i64 es.length∧es.length≤c∧(∀e∈es,ValOf (ps.map Prod.fst) k0 e d)∧SeqR W M na ta nl nc tl tc ps (.slice (some ⟨gs,0,none⟩) ps.length scap) tree (.slice la tree.length lc) N n ka kc d w ⟨n.kind,noB,0,c⟩ es vl' wr) (fun v9 _=>3-(intOf v9).toNat)
      case atStart=>exact⟨[],_,rfl,Nat.zero_le _,(fun e he=>by cases he),HS0.out⟩
      case round=>
       obtain⟨es,vl',rfl,hle,hkv,hS⟩:=hrel
       have HKV:=hideq hkv
       have HS:=hideq hS
       clear hkv hS
       by_cases hlt:es.length<c
       ·have hlt':(es.length:Int)<c:=by omega
        obtain⟨y0,y3,hNr⟩:=HS.out.loc.cells
        obtain⟨gk,hka,hgk,z0,z1⟩:=kid_in HS.out.loc.kid hl0
        subst hka
        have HKE:Hid (n.kids.getD 0 kd0=⟨k0,false,noB⟩):=by show _=_;rw[HKS.out];rfl
        obtain⟨m,hm,hmp,hmd⟩:=HDK.out ⟨k0,false,noB⟩ (by rw[HKS.out];simp)
        have hmk:k0=m:=by have q:((k0:Nat):Int)=(m:Int):=hm;omega
        have z0':wr.cell? ⟨gk,0,none⟩=some (.int .i64 (m:Nat)):=by
         have q:=z0
         rw[HKE.out,Nat.zero_mul]at q
         rw[q]
         exact congrArg (fun z=>some (Value.int .i64 z)) hm
        have HMK:=hideq hmk
        have HMD:=hideq hmd
        have hll:=HS.out.len
        have hmul:es.length*nv d≤2*nv d:=Nat.mul_le_mul_right _ (by omega)
        have hlr:(tree++(⟨n.kind,noB,0,c⟩:Vl)::es.flatten).length+nv d≤1000:=by rw[List.length_append,List.length_cons];omega
        clear z0 z1 hm hmd hll hmul hmk
        go_wp2_with fail
        refine(HVd.out _ m _ _ hmp HMD.out hlr HS.out.mak).mono ?_
        rintro e w5 ⟨rfl,ext,vl5,hA5,hF5,hV5,hO5,hn5,hne5⟩
        have HS5:=hideq (HS.out.more hA5 hF5 hO5 hn5)
        have HK5:Hid (∀e∈es++[ext],ValOf (ps.map Prod.fst) k0 e d):=fun e he=>by
         rcases List.mem_append.1 he with he|he
         ·exact HKV.out e he
         ·rw[List.mem_singleton.1 he,HMK.out];exact hV5
        clear hA5 hF5 hV5 hO5 hn5 hne5 HVd HO
        go_wp2
        go_roundw
        case rel=>exact⟨es++[ext],vl5,by rw[List.length_append];go_num,by rw[List.length_append];simp;omega,HK5.out,HS5.out⟩
        case measure=>simp[intOf];omega
       ·have hlt':¬((es.length:Int)<c):=by omega
        have HFIN:Hid (AfterVal W M na ta nl nc tl tc ps (.slice (some ⟨gs,0,none⟩) ps.length scap) tree (.slice la tree.length lc) i dd w wr):=by
         have he:c=es.length:=by omega
         refine⟨⟨n.kind,noB,0,c⟩::es.flatten,vl',HS.out.mak,HS.out.fr,?_,VOk.cons (by show(0:Nat)≤76;decide) (by show((c:Nat):Int)≤3;omega) HS.out.ok,?_,by simp⟩
         ·rw[HDD.out,HK11.out,he]
          exact val_sof (by rw[HN.out];exact HK11.out) (by rw[HN.out];exact HKS.out) HKV.out
         ·have:=HS.out.len
          have hmul:es.length*nv d≤3*nv d:=Nat.mul_le_mul_right _ (by omega)
          rw[HDD.out,List.length_cons]
          show _≤1+3*nv d
          omega
        go_wp2
        go_returns
        exact⟨rfl,HFIN.out⟩
     ·have k12:n.kind=12:=by omega
      obtain⟨k0,hkids,_,hk0,hk0n⟩:=HNI.out.set (by rw[HN.out];exact k12)
      rw[HN.out]at hkids
      have HKS:=hideq hkids
      have HKN:=hideq hk0n
      have b1:(n.kind==10)=false:=by simp;omega
      have b2:(n.kind==13)=false:=by simp;omega
      have b3:(n.kind==11)=false:=by simp;omega
      have b4:(n.kind==12)=true:=by simpa using k12
      have HK12:=hideq k12
      clear k11 k12 hkids hk0n
      clear k10 k13
      go_wp2_with fail
      refine(HO.out _ _ 4 (by omega) (by omega) HAc.out.mak).mono ?_
      rintro e w2 ⟨r,rfl,r0,r1,hI2,hF2⟩
      obtain⟨c,rfl⟩:=Int.eq_ofNat_of_zero_le r0
      have HA2:=hideq (HAc.out.frm hI2 hF2)
      have HF2:=hideq (HFc.out.trans (FrN.ofM hF2))
      have HL2:=hideq (HLc.out.fr HAc.out (FrN.ofM (v:= .slice (some ⟨g,0,none⟩) (tree.length+1) cap) hF2))
      have r1':(c:Int)<4:=r1
      clear hI2 hF2 y0 y3 hNc HAc HFc HLc r0 r1
      obtain⟨_,_,c5,_⟩:=HA2.out.c4
      have hM2:=HA2.out.lt
      obtain⟨x1,x2,x3,hA3,hF3⟩:=HA2.out.setV (v':=⟨n.kind,noB,0,c⟩) 3 (by decide) (u:= .int .i64 c) rfl
      have x1':w2.cell? ⟨g,tree.length*4+3,none⟩=some (.int .i64 0):=x1
      have HS0:Hid (SeqR W M na ta nl nc tl tc ps (.slice (some ⟨gs,0,none⟩) ps.length scap) tree (.slice la tree.length lc) N n ka kc d w ⟨n.kind,noB,0,c⟩ [] (.slice (some ⟨g,0,none⟩) (tree.length+1) cap) (w2.setCell ⟨g,tree.length*4+3,none⟩ (.int .i64 c))):=⟨hA3,HF2.out.trans hF3,HL2.out.fr HA2.out hF3,VOk.nil,Nat.zero_le _⟩
      clear hA3 hF3 x1
      go_upto_region 29 with fail
      generalize(w2.setCell ⟨g,tree.length*4+3,none⟩ (.int .i64 c))=w3 at HS0 ⊢
      clear c5 hM2 x1' x2 x3 HA2 HF2 HL2
      go_wp2
      go_loopw [11,12] (fun v11 v12 wr=>∃(bs:List Nat) (x:Nat) (vl':Value),v11= .int .i64 x∧v12= .int .i64 bs.length∧bs.length≤c∧Rise 0 bs∧(∀y∈bs,y≤x)∧x≤19*bs.length∧SeqR W M na ta nl nc tl tc ps (.slice (some ⟨gs,0,none⟩) ps.length scap) tree (.slice la tree.length lc) N n ka kc d w ⟨n.kind,noB,0,c⟩ (sing bs) vl' wr) (fun _ v12 _=>4-(intOf v12).toNat)
      case atStart=>exact⟨[],0,_,rfl,rfl,Nat.zero_le _,trivial,(fun y hy=>by cases hy),Nat.le_refl _,HS0.out⟩
      case round=>
       obtain⟨bs,x,vl',rfl,rfl,hle,hr,hy,hx,hS⟩:=hrel
       have HR:=hideq hr
       have HY:=hideq hy
       have HS:=hideq hS
       clear hr hy hS
       by_cases hlt:bs.length<c
       ·have hlt':(bs.length:Int)<c:=by omega
        go_wp2_with fail
        refine(HO.out _ _ 20 (by omega) (by omega) HS.out.mak.mak).mono ?_
        rintro e w5 ⟨r,rfl,r0,r2,hI5,hF5⟩
        obtain⟨r,rfl⟩:=Int.eq_ofNat_of_zero_le r0
        have HS5:=hideq (HS.out.same hI5 hF5)
        clear hI5 hF5 r0 HS
        have hb8:(x:Int)+r<128:=by omega
        have hwx:IntKind.i64.wrap ((x:Int)+r)=(x:Int)+r:=by rw[IntKind.wrap_i64];omega
        obtain⟨lb,lcb,hvl⟩:∃a cap,vl'= .slice a (tree++(⟨n.kind,noB,0,c⟩:Vl)::(sing bs).flatten).length cap:=by obtain⟨a,c,e,_⟩:=own_form HS5.out.mak.val;exact⟨a,c,e⟩
        subst hvl
        obtain⟨db,hdb⟩:∃db:ByteArray,db=⟨#[UInt8.ofNat ((x:Int)+r).toNat]⟩:=⟨_,rfl⟩
        have hcv:=conv_at ((x:Int)+r) (by omega) (by omega)
        have hcvd:=conv_cell ((x:Int)+r) (by omega) (by omega) (w5.alloc (.cells #[.int .u8 ((x:Int)+r)] 5)).drew w5.heap.size (by simp)
        rw[←hdb]at hcv hcvd
        have HDB:Hid (oneI (x+r)=⟨2,db,0,0⟩):=by show _=_;rw[hdb];rfl
        have HDZ:Hid (db.size≤76):=by show _≤_;rw[hdb];show 1≤76;decide
        have hu:IntKind.u8.wrap ((x:Int)+r)=(x:Int)+r:=by simp[IntKind.wrap,IntKind.bits,IntKind.signed];omega
        obtain⟨_,_,c5,f5⟩:=HS5.out.mak.c4
        have hM5:=HS5.out.mak.lt
        have hw5:W.heap.size≤w5.heap.size+1+1:=by have:=HS5.out.mak.mak.bel.size;omega
        have hLb:(tree++(⟨n.kind,noB,0,c⟩:Vl)::(sing bs).flatten).length≤1000:=by
         have:=HS5.out.len
         rw[sing_len]at this
         have hmul:bs.length*nv d≤3*nv d:=Nat.mul_le_mul_right _ (by omega)
         rw[List.length_append,List.length_cons]
         omega
        have HRV:=hideq HS5.out.mak.val
        generalize hL:(tree++(⟨n.kind,noB,0,c⟩:Vl)::(sing bs).flatten).length=L at c5 hLb HRV HS5
        have HAP:Hid (∀g cap w3,w3.ownsRow W.heap.size 60 4 (.slice (some ⟨g,0,none⟩) (L+1) cap) (L+1) (vcells (tree++(⟨n.kind,noB,0,c⟩:Vl)::(sing bs).flatten)++(⟨2,db,0,0⟩:Vl).cells)→((w5.drew.alloc (.cells #[.int .u8 ((x:Int)+r)] 5)).alloc (.cells #[.int .i64 2,.string db,.int .i64 0,.int .i64 0] 60)).grownBy w3 (Value.slice lb L lcb).ownBlock→((Value.slice lb L lcb).ownBlock=some g∨g=w5.heap.size+1+1)→
         w3.cell? ⟨M,5,none⟩=some (.slice lb L lcb)∧w3.frozen? ⟨M,5,none⟩=false∧M<w3.heap.size∧SeqR W M na ta nl nc tl tc ps (.slice (some ⟨gs,0,none⟩) ps.length scap) tree (.slice la tree.length lc) N n ka kc d w ⟨n.kind,noB,0,c⟩ (sing (bs++[x+r])) (.slice (some ⟨g,0,none⟩) (L+1) cap) (w3.setCell ⟨M,5,none⟩ (.slice (some ⟨g,0,none⟩) (L+1) cap))):=fun g cap w3 h1 h2 h3=>by
         obtain⟨e3,q3,l3,hI6,hF6⟩:=HS5.out.mak.putV (v:=⟨2,db,0,0⟩) (((Below.refl _ _).drew.alloc (by simp) _).alloc (by simp) _) (by rw[hL];exact h1) h2 (fun g' hg=>by
          injection hg with hg
          subst hg
          rcases h3 with q|q
          ·exact .inl q
          ·exact .inr (by show w5.heap.size≤g;omega))
         refine⟨e3,q3,l3,?_⟩
         rw[sing_snoc,HDB.out]
         exact HS5.out.more hI6 hF6 (VOk.cons HDZ.out (by show(0:Int)≤3;decide) VOk.nil) (by simpa using hnd1)
        clear hL hdb HO HVd
        go_upto_region 34 with fail
        have HRX:Hid (Rise 0 (bs++[x+r])∧∀y∈bs++[x+r],y≤x+r):=by
         refine⟨rise_snoc bs 0 (x+r) HR.out (fun y q=>?_) (Nat.zero_le _) (by omega),fun y q=>?_⟩
         ·have:=HY.out y q;omega
         ·rcases List.mem_append.1 q with q|q
          ·have:=HY.out y q;omega
          ·rw[List.mem_singleton.1 q];exact Nat.le_refl _
        go_region_law (refine step_append_lies _ rfl (.tmp 179) (.tmp 185) 39 rfl W.heap.size 60 i0 Tryz.zeroVal 4 40 Tryz.underlying39 hi0 hz0 hz1 hz2 rfl (by decide) (.slice lb L lcb) L (vcells (tree++(⟨n.kind,noB,0,c⟩:Vl)::(sing bs).flatten)) (by simp[Act.eval,Act.put]) ((HRV.out.drew.alloc _).alloc _) ⟨w5.heap.size+1,0,none⟩ 1 1 [.int .i64 2,.string db,.int .i64 0,.int .i64 0] (by simp[Act.eval,Act.put]) rfl (by first|(have q:=World.news_of_block (heap_alloc_new (w5.alloc (.cells #[.int .u8 ((x:Int)+r)] 5)) (.cells #[.int .i64 2,.string db,.int .i64 0,.int .i64 0] 60));simpa using q)|(have q:=World.news_of_block (heap_alloc_new (w5.alloc (.cells #[.int .u8 ((x:Int)+r)] 5)).drew (.cells #[.int .i64 2,.string db,.int .i64 0,.int .i64 0] 60));simpa using q)|(have q:=World.news_of_block (heap_alloc_new (w5.drew.alloc (.cells #[.int .u8 ((x:Int)+r)] 5)) (.cells #[.int .i64 2,.string db,.int .i64 0,.int .i64 0] 60));simpa using q)) (by intro u hu;simp at hu;rcases hu with rfl|rfl|rfl<;>rfl) (by decide) (by unfold maxLen;omega) (by omega) (by simpa using hw5) (w5.heap.size+1+1) (by simp) ?_;intro g6 cap6 w6 h61 h62 h63 h64;obtain⟨e3,q3,l3,hS6⟩:=HAP.out g6 cap6 w6 h61 h62 h63;have HS6:=hideq hS6;clear h61 h62 h63 h64 hS6)
        all_goals
         clear hcv hcvd hu hb8 hwx c5 f5 hM5 hw5
         go_simp
         go_wp2
         go_roundw
         case rel=>exact⟨bs++[x+r],x+r,_,by rw[Int.natCast_add],by rw[List.length_append];go_num,by rw[List.length_append];simp;omega,HRX.out.1,HRX.out.2,by rw[List.length_append];simp;omega,HS6.out⟩
         case measure=>simp[intOf];omega
       ·have hlt':¬((bs.length:Int)<c):=by omega
        have HFIN:Hid (AfterVal W M na ta nl nc tl tc ps (.slice (some ⟨gs,0,none⟩) ps.length scap) tree (.slice la tree.length lc) i dd w wr):=by
         have he:c=bs.length:=by omega
         have hmk:=HS.out.mak
         have hok:=HS.out.ok
         rw[sing_flat]at hmk hok
         refine⟨⟨n.kind,noB,0,c⟩::bs.map oneI,vl',hmk,HS.out.fr,?_,VOk.cons (by show(0:Nat)≤76;decide) (by show((c:Nat):Int)≤3;omega) hok,?_,by simp⟩
         ·rw[HDD.out,HK12.out,he]
          exact val_set d (by rw[HN.out];exact HK12.out) (by rw[HN.out];exact HKS.out) HKN.out HR.out
         ·rw[HDD.out,List.length_cons,List.length_map]
          show _≤1+3*nv d
          omega
        go_wp2
        go_returns
        exact⟨rfl,HFIN.out⟩
theorem mvalue_all(W:World)(M:Nat)(na ta:Option Addr)(nl nc tl tc:Nat)(ps:List Np)(vs:Value)(hNI:∀i,i<ps.length→NodeI (ps.map Prod.fst) i)(hp:PlanIn W na ta nl tl):∀d,d≤4→ValM W M na ta nl nc tl tc ps vs d
 |0,h=>mvalue_any W M na ta nl nc tl tc ps vs 0 h hNI (fun d e=>by omega) hp
 |d+1,h=>mvalue_any W M na ta nl nc tl tc ps vs (d+1) h hNI (fun d' e=>by
  obtain rfl:d=d':=by omega
  exact mvalue_all W M na ta nl nc tl tc ps vs hNI hp d (by omega)) hp
theorem own_caps{w:World}{B:Nat}{e:TypeId}{s n c:Nat}{a:Option Addr}{xs:List Value}(h:w.ownsRow B e s (.slice a n c) n xs):n≤c∧c≤maxLen:=by
 rcases h.2 with⟨h',hn⟩|⟨g',cap',cur,h',_,hg,hnc,hcm,_⟩
 ·injection h' with _ _ h3
  subst h3
  exact⟨by omega,Nat.zero_le _⟩
 ·injection h' with _ _ h3
  subst h3
  exact⟨hnc,hcm⟩
theorem MkA.sch{W w:World}{M:Nat}{na ta:Option Addr}{nl nc tl tc:Nat}{ps:List Np}{a:Option Addr}{c:Nat}{tree:List Vl}{vl:Value}(h:MkA W w M na ta nl nc tl tc ps (.slice a ps.length c) tree vl):Sch w a (ps.map Prod.fst):=fun i hi=>by
 have hi':i<ps.length:=by simpa using hi
 obtain⟨g,cap,ka,kc,e,hg,c0,c1,c2,c3,hk⟩:=h.node hi'
 injection e with e1 _ _
 subst e1
 have hcp:=own_caps hk
 refine⟨g,0,ka,kc,rfl,?_,hcp.1,hcp.2,fun j hj=>?_⟩
 ·rw[Nat.zero_add];exact⟨c0,c1,c2,c3⟩
 ·obtain⟨g2,cap2,e2,_,_⟩:=World.ownsRow.form hk (by omega)
  injection e2 with e3 _ e4
  subst e3 e4
  have c:=fun i hi=>(hk.cellAt (j*3+i) (by omega)).trans (kcells_get _ j hj i hi)
  refine⟨g2,0,rfl,?_⟩
  rw[Nat.zero_add]
  exact⟨c 0 (by decide),c 1 (by decide),c 2 (by decide)⟩
theorem made_ok{s:List Nd}(h:∀i,i<s.length→NodeI s i):SchOk s:=fun i hi k hk=>by
 have hN:=h i hi
 have hkind:=hN.kind
 by_cases k9:(nd s i).kind≤9
 ·rw[hN.leaf k9]at hk;cases hk
 by_cases ks:(nd s i).kind=10∨(nd s i).kind=13
 ·obtain⟨j,hj,e⟩:=kidOf hk
  obtain⟨m,_,_,_,_,q⟩:=(hN.seq ks).2.2 j hj
  rw[e]at q
  rcases q with⟨q,_⟩|⟨_,_,q,_⟩
  ·rw[q];exact Nat.zero_le _
  ·rw[q];show 3≤_;omega
 have key:∃m:Nat,(nd s i).kids=[⟨m,false,noB⟩]:=by
  by_cases k11:(nd s i).kind=11
  ·obtain⟨m,e,_⟩:=hN.sof k11;exact⟨m,e⟩
  ·obtain⟨m,e,_⟩:=hN.set (by omega);exact⟨m,e⟩
 obtain⟨m,e⟩:=key
 rw[e]at hk
 obtain rfl:=List.mem_singleton.1 hk
 exact Nat.zero_le _
structure Built(w w':World)(s:List Nd)(sa:Option Addr)(t:List Vl)(ta:Option Addr)(tc:Nat):Prop where
 bel:Below w.heap.size w w'
 sch:Sch w' sa s
 ok:SchOk s
 right:RightP s
 tree:ValIn w' ta t
 cap:t.length≤tc
 val:ValOf s 0 t 4
 vok:VOk t
 len:t.length≤121
theorem build_any(w:World)(na ta:Option Addr)(nl nc tl tc:Nat)(hp:PlanIn w na ta nl tl):
 Calls Tryz.prog 21 #[.agg #[.slice na nl nc,.slice ta tl tc]] w fun e w'=>∃s sa sc t la lc,e= .returned (.tuple #[.slice sa (s:List Nd).length sc,.slice la (t:List Vl).length lc])∧Built w w' s sa t la lc:=by
 have HN:=hideq (mnode_all w (w.heap.size+1) na ta nl nc tl tc [] (.slice none 0 0) hp 4 (by decide))
 have HV:Hid (∀ps vs,(∀i,i<ps.length→NodeI (ps.map Prod.fst) i)→ValM w (w.heap.size+1) na ta nl nc tl tc ps vs 4):=fun ps vs h=>mvalue_all w (w.heap.size+1) na ta nl nc tl tc ps vs h hp 4 (by decide)
 clear hp
 go_enter Tryz.func21,Tryz.ntmps21
 go_wp2_with fail
 refine(HN.out _ [] (.slice none 0 0) (-1) (by decide) (by decide) (by decide) ⟨⟨((Below.refl _ _).alloc (Nat.le_refl _) _).alloc (by simp) _,Nat.le_succ _,0,0,Nat.zero_le _,Nat.zero_le _,by simpa using heap_alloc_new (w.alloc _) _⟩,World.ownsRow_nil _ _ _ _,(fun p hp=>by cases hp),World.ownsRow_nil _ _ _ _⟩).mono ?_
 rintro e w3 ⟨rfl,ps,vs,hA,_,hG,_⟩
 rw[List.nil_append]at hA
 have hNI:∀i,i<ps.length→NodeI (ps.map Prod.fst) i:=fun i hi=>hG.new i (Nat.zero_le _) (by simpa using hi)
 have hpos:0<ps.length:=by simpa using hG.pos
 have hbd:ps.length≤36:=by have:=hG.bound (Nat.zero_le _);simpa using this
 have hdep:Dp (ps.map Prod.fst) 4 0:=hG.dep
 have HVC:=hideq (HV.out ps vs hNI w3 0 [] (.slice none 0 0) hpos hdep (by decide) hA)
 have HNI:=hideq hNI
 have HPS:=hideq (And.intro hpos hbd)
 clear hA hG hNI hpos hbd hdep HV HN
 go_wp2_with fail
 refine HVC.out.mono ?_
 rintro e w4 ⟨rfl,t,vl,hA4,_,hV4,hO4,hn4,_⟩
 rw[List.nil_append]at hA4
 obtain⟨sa,sc,hvs⟩:∃a cap,vs= .slice a ps.length cap:=by obtain⟨a,c,e,_⟩:=own_form hA4.row;exact⟨a,c,e⟩
 obtain⟨la,lc,hvl⟩:∃a cap,vl= .slice a t.length cap:=by obtain⟨a,c,e,_⟩:=own_form hA4.val;exact⟨a,c,e⟩
 subst hvs hvl
 have hls:(ps.map Prod.fst).length=ps.length:=List.length_map Prod.fst
 have HB:Hid (∀wq,Below w4.heap.size w4 wq→Built w wq (ps.map Prod.fst) sa t la lc):=fun wq hq=>by
  have hA5:=hA4.below hq
  have hNI:∀i,i<(ps.map Prod.fst).length→NodeI (ps.map Prod.fst) i:=fun i hi=>HNI.out i (by rw[hls]at hi;exact hi)
  exact⟨hA5.mak.bel,hA5.sch,made_ok hNI,made_right hNI (by rw[hls];exact HPS.out.1) (by rw[hls];have:=HPS.out.2;omega),ValIn.of_own hA5.val,(own_caps hA5.val).1,hV4,hO4,hn4⟩
 have HLS:=hideq hls
 obtain⟨c4,_,c5,_⟩:=hA4.c4
 have hM:=hA4.lt
 clear hA4 hV4 hO4 hn4 hls HVC HNI HPS
 go_wp2
 go_quiet (fail)
 go_wp2
 refine bodyPost_ret (v:= .tuple #[.slice sa ps.length sc,.slice la t.length lc]) (by simp[results,Tryz.results21,go_sem]) rfl ?_
 exact⟨ps.map Prod.fst,sa,sc,t,la,lc,by rw[HLS.out],HB.out _ (Go.below_drewN (Below.refl _ _) _)⟩
structure WC(E:WEnv)(W:World)(a ta:Option Addr):Prop where
 sch:Sch W a E.s
 right:RightP E.s
 sok:SchOk E.s
 ok:∀k t,E.ok k t=true↔ContentOk k t
 tree:∀j,j<E.t.length→∃g o,ta=some ⟨g,o,none⟩∧W.cell? ⟨g,o+j*4,none⟩=some (.int .i64 (vl E.t j).kind)∧W.cell? ⟨g,o+j*4+1,none⟩=some (.string (vl E.t j).text)∧W.cell? ⟨g,o+j*4+2,none⟩=some (.int .i64 (vl E.t j).alt)∧W.cell? ⟨g,o+j*4+3,none⟩=some (.int .i64 (vl E.t j).kids)
 size:pz E.t E.t.length≤16777000
 kids:∀j,j<E.t.length→(vl E.t j).kids≤9223372036854775807
theorem pz_mono{t:List Vl}{x y:Nat}(h:x≤y)(hy:y≤t.length):pz t x≤pz t y:=by
 induction y with
 |zero=>obtain rfl:x=0:=by omega
        exact Nat.le_refl _
 |succ y ih=>
  by_cases e:x=y+1
  ·rw[e];exact Nat.le_refl _
  ·have:=ih (by omega) (by omega)
   have:=pz_succ (t:=t) (x:=y) (by omega)
   omega
def encR(r:WOut)(n:Nat):Except Int ByteArray:=
 match r with
 |none=> .error 11
 |some (b,x,u)=>if x<n then .error 11 else if 4000<b.size then .error 2 else if u=true then .error 8 else .ok b
def EncV(E:WEnv)(s:List Nd)(root:Int)(t:List Vl)(v:Except Int ByteArray):Prop:=
 (¬(RightP s∧0≤root∧root<s.length)∧v= .error 1)∨
 ((RightP s∧0≤root∧root<s.length)∧E.s=s∧E.t=t∧(∀k u,E.ok k u=true↔ContentOk k u)∧∃f r,wrF E f root.toNat 0 1=some r∧v=encR r t.length)
theorem encV_ex(s:List Nd)(root:Int)(t:List Vl):∃E v,EncV E s root t v:=by
 have hk:∃ok:Int→ByteArray→Bool,∀k t,ok k t=true↔ContentOk k t:=
  ⟨fun k t=> @decide (ContentOk k t) (Classical.propDecidable _),fun k t=>by simp⟩
 obtain⟨ok,hk⟩:=hk
 by_cases h:RightP s∧0≤root∧root<s.length
 ·obtain⟨r,hr⟩:=wrF_some (E:=⟨s,t,ok⟩) (t.length+1) root.toNat 0 1 (by show t.length+1≤_;omega) (by omega)
  exact⟨⟨s,t,ok⟩,_,.inr ⟨h,rfl,rfl,hk,t.length+1,r,hr,rfl⟩⟩
 ·exact⟨⟨s,t,ok⟩,_,.inl ⟨h,rfl⟩⟩
def RetEnc(v:Except Int ByteArray)(w:World)(e:Ending)(w':World):Prop:=
 Below w.heap.size w w'∧
 match v with
 | .error k=>e= .returned (.tuple #[.string ⟨#[]⟩,.int .i64 k])
 | .ok b=>e= .returned (.tuple #[.string b,.int .i64 0])
def TreeIn(w:World)(ta:Option Addr)(t:List Vl):Prop:=∀j,j<t.length→∃g o,ta=some ⟨g,o,none⟩∧w.cell? ⟨g,o+j*4,none⟩=some (.int .i64 (vl t j).kind)∧w.cell? ⟨g,o+j*4+1,none⟩=some (.string (vl t j).text)∧w.cell? ⟨g,o+j*4+2,none⟩=some (.int .i64 (vl t j).alt)∧w.cell? ⟨g,o+j*4+3,none⟩=some (.int .i64 (vl t j).kids)
theorem TreeIn.below{w w':World}{ta:Option Addr}{t:List Vl}(h:TreeIn w ta t)(hb:Below w.heap.size w w'):TreeIn w' ta t:=fun j hj=>by
 obtain⟨g,o,e,h1,h2,h3,h4⟩:=h j hj
 exact⟨g,o,e,(hb.cell (lt_of_cell h1)).trans h1,(hb.cell (lt_of_cell h2)).trans h2,(hb.cell (lt_of_cell h3)).trans h3,(hb.cell (lt_of_cell h4)).trans h4⟩
theorem take_mk(l:List UInt8)(k:Nat):(⟨l.toArray⟩:ByteArray).extract 0 k=⟨(l.take k).toArray⟩:=by
 apply ByteArray.ext
 apply Array.toList_inj.1
 rw[Lib.extract_data]
 show(l.drop 0).take (k-0)=_
 rw[List.drop_zero,Nat.sub_zero]
theorem rl_cut(n:Int)(p:List UInt8)(k:Nat)(hk:k<(tl n).length)(hp:p=(tl n).take k):(rl ⟨p.toArray⟩).1=3:=by
 subst hp
 have hs:(⟨((tl n).take k).toArray⟩:ByteArray).size=k:=by rw[size_mk,List.length_take];omega
 unfold rl
 by_cases k0:k=0
 ·rw[if_pos (by rw[hs];exact k0)]
 rw[if_neg (by rw[hs];exact k0)]
 obtain⟨j,rfl⟩:∃j,k=j+1:=⟨k-1,by omega⟩
 have key:∀(a:UInt8) (r:List UInt8),tl n=a::r→a.toNat=128+r.length→1≤r.length→r.length≤3→(if b8 ⟨((tl n).take (j+1)).toArray⟩ 0<128 then((0:Int),(1:Int),b8 ⟨((tl n).take (j+1)).toArray⟩ 0)
  else if b8 ⟨((tl n).take (j+1)).toArray⟩ 0=128∨131<b8 ⟨((tl n).take (j+1)).toArray⟩ 0 then(5,0,0)
  else if(((⟨((tl n).take (j+1)).toArray⟩:ByteArray).size:Nat):Int)≤b8 ⟨((tl n).take (j+1)).toArray⟩ 0-128 then(3,0,0)
  else if b8 ⟨((tl n).take (j+1)).toArray⟩ 0-128≠cnt (numTo ⟨((tl n).take (j+1)).toArray⟩ (b8 ⟨((tl n).take (j+1)).toArray⟩ 0-128).toNat)then(5,0,0)
  else(0,1+(b8 ⟨((tl n).take (j+1)).toArray⟩ 0-128),numTo ⟨((tl n).take (j+1)).toArray⟩ (b8 ⟨((tl n).take (j+1)).toArray⟩ 0-128).toNat)).1=3:=fun a r e h1 h2 h3=>by
  have e0:b8 ⟨((tl n).take (j+1)).toArray⟩ 0=(a.toNat:Int):=by rw[b8_mk,e];rfl
  have hl:(tl n).length=r.length+1:=by rw[e];rfl
  rw[e0,if_neg (by omega),if_neg (by omega),if_pos (by rw[hs];omega)]
 unfold tl at hk key ⊢
 by_cases c1:n<128
 ·rw[if_pos c1]at hk;simp at hk
 rw[if_neg c1]at hk key ⊢
 by_cases c2:n<256
 ·rw[if_pos c2]at hk key ⊢;exact key _ _ rfl rfl (by simp) (by simp)
 rw[if_neg c2]at hk key ⊢
 by_cases c3:n<65536
 ·rw[if_pos c3]at hk key ⊢;exact key _ _ rfl rfl (by simp) (by simp)
 rw[if_neg c3]at hk key ⊢
 exact key _ _ rfl rfl (by simp) (by simp)
theorem hd_short{b:ByteArray}(h:Elem b){k:Nat}(hk:k<b.size):(hd (b.extract 0 k)).1=3:=by
 obtain⟨hb,q1,q2,q3,q4,hl,hL⟩:=elB_hd h.1 h.2
 generalize(hd b).2.c=c at*
 generalize(hd b).2.b=bt at*
 generalize(hd b).2.n=n at*
 generalize b.extract (hd b).2.s.toNat b.size=s at*
 generalize(hd b).2.l=L at*
 subst hb
 rw[elB_list]at hk ⊢
 rw[size_mk]at hk
 rw[take_mk]
 have hlen:s.data.toList.length=s.size:=Array.length_toList
 match k,hk with
 |0,_=>rfl
 |k+1,hk=>
  rw[List.take_succ_cons]
  by_cases hc:(tl s.size).length≤k
  ·rw[List.take_append,List.take_of_length_le hc,hd_told c bt n s.size 0 q1 q2 q3 q4 (by omega) (by omega),if_pos]
   rw[List.length_take,hlen]
   rw[List.length_cons,List.length_append,hlen]at hk
   omega
  ·have hk':k<(tl s.size).length:=by omega
   rw[List.take_append_of_le_length (by omega)]
   generalize hp:(tl s.size).take k=p
   have hr:=rl_cut s.size p k hk' hp.symm
   have hf:fb ⟨c,bt,n,0,s.size⟩=c*64+n+(if bt then 32 else 0):=by unfold fb;cases bt<;>simp
   have hf0:0≤fb ⟨c,bt,n,0,s.size⟩∧fb ⟨c,bt,n,0,s.size⟩<256:=by rw[hf];cases bt<;>simp<;>omega
   have hd1:fb ⟨c,bt,n,0,s.size⟩%32=n:=by rw[hf];cases bt<;>simp<;>omega
   have e0:b8 ⟨(UInt8.ofNat (fb ⟨c,bt,n,0,s.size⟩).toNat::p).toArray⟩ 0=fb ⟨c,bt,n,0,s.size⟩:=by rw[b8_mk];exact u8_nat _ hf0.1 hf0.2
   unfold hd
   rw[extract_mk,if_neg (by rw[size_mk];simp),if_neg (by rw[e0,hd1];omega),if_pos (by rw[hr];decide)]
   exact hr
theorem rdF_more{E:Env}:∀(k f i x y:Nat) (dp:Int) (o:Out),rdF E f i x y dp=some o→rdF E (f+k) i x y dp=some o
 |0,_,_,_,_,_,_,h=>h
 |k+1,f,i,x,y,dp,o,h=>rdF_le (f+k) i x y dp o (rdF_more k f i x y dp o h)
theorem seg_all(t:List Vl):seg t 0 (0+t.length)=t:=by unfold seg;simp
theorem round_math{s:List Nd}{t:List Vl}(hr:RightP s)(hv:ValOf s 0 t 4)(ho:VOk t)(hl:t.length≤121):
 ∃F b v,EncV F s 0 t v∧((v= .error 2∧30<t.length)∨(v= .ok b∧1≤b.size∧b.size≤4000∧(∃E,DecV E s 0 b (.ok t))∧(∀k,k<b.size→∃E,DecV E s 0 (b.extract 0 k) (.error (3,0)))∧
  ∀r:ByteArray,1≤r.size→(∃E,DecV E s 0 (b++r) (.error (2,0))∧4000<(b++r).size)∨(∃E,DecV E s 0 (b++r) (.error (7,(b.size:Nat)))))):=by
 have hs1:0<s.length:=by have:=hr.1;omega
 have hk:∃ok:Int→ByteArray→Bool,∀k t,ok k t=true↔ContentOk k t:=
  ⟨fun k t=> @decide (ContentOk k t) (Classical.propDecidable _),fun k t=>by simp⟩
 obtain⟨ok,hok⟩:=hk
 obtain⟨f,b,hw⟩:=hv ⟨s,t,ok⟩ 0 1 rfl hok (by decide) (by decide) ⟨[],[],by simp,rfl⟩
 have hroot:RightP s∧(0:Int)≤0∧(0:Int)<s.length:=⟨hr,by decide,by omega⟩
 have hadv:=wrF_adv _ _ _ _ _ hw b _ _ rfl
 have hpz:∀x,x≤t.length→pz t x≤86*x:=fun x=>by
  induction x with
  |zero=>intro _;exact Nat.le_refl _
  |succ x ih=>
   intro hx
   rw[pz_succ (by omega)]
   have h1:=ih (by omega)
   have h2:(vl t x).text.size≤76:=by
    have hm:vl t x∈t:=by unfold vl;rw[List.getD_eq_getElem?_getD,List.getElem?_eq_getElem (by omega)];exact List.getElem_mem _
    exact(ho _ hm).1
   omega
 have hb86:b.size≤86*t.length:=by
  have h1:=hadv.2.2
  have h2:=hpz t.length (Nat.le_refl _)
  rw[Nat.zero_add]at h1
  exact Nat.le_trans (Nat.le_trans (Nat.le_add_right _ _) h1) h2
 have hel:=(wr_elem hr _ _ _ _ _ _ _ hs1 hw (by omega)).1
 have hpos:=hel.pos
 have hBoth:∀E:Env,E.s=s→EnvOk E→Both E ⟨s,t,ok⟩:=fun E h1 h2=>⟨h1,hr,fun i hi=>by subst h1;exact h2.bg i hi,h2.ok,hok,h2.dv⟩
 have hread:∀(K:Nat),K=168041→∀(E:Env) (d:ByteArray),E.s=s→E.d=d→EnvOk E→d.size≤4000→At d 0 b→rdF E K 0 0 d.size 1=some (.ok (t,b.size)):=fun K hK E d h1 h2 h3 h4 h5=>by
  have hA:=again_all (hBoth E h1 h3) f 0 0 1 b _ hs1 hw (by omega) 0 d.size (by rw[h2];exact h5) (by have:=h5.1;omega) (by rw[h2];exact Nat.le_refl _)
  rw[seg_all,Nat.zero_add]at hA
  obtain⟨o,ho'⟩:=rdF_some (E:=E) (by rw[h1];exact hr.fine) K 0 0 d.size 1 [] (by rw[h1];exact hs1) (Way.nil _ _) (by simp only[List.length_nil];omega)
  have g1:=rdF_more K f _ _ _ _ _ hA
  have g2:=rdF_more f K _ _ _ _ _ ho'
  rw[Nat.add_comm]at g2
  rw[g1]at g2
  injection g2 with g2
  rw[ho',←g2]
 refine⟨⟨s,t,ok⟩,b,_,.inr ⟨hroot,rfl,rfl,hok,f,_,hw,rfl⟩,?_⟩
 unfold encR
 simp only
 rw[if_neg (by omega)]
 by_cases hbig:4000<b.size
 ·rw[if_pos hbig]
  exact .inl ⟨rfl,by omega⟩
 rw[if_neg hbig,if_neg (by decide)]
 refine .inr ⟨rfl,by omega,by omega,?_,fun k hk=>?_,fun r hr1=>?_⟩
 ·obtain⟨E,h1,h2,h3⟩:=env_ex s b hr
  refine⟨E,.inr (.inr ⟨hroot,by omega,h1,h2,h3,168041,by decide,?_⟩)⟩
  unfold readF
  rw[h2]
  show Out.andThen (rdF E 168041 0 0 b.size 1) _=_
  rw[hread 168041 rfl E b h1 h2 h3 (by omega) (At.all b)]
  unfold Out.andThen
  simp only
  rw[if_neg (by omega)]
 ·obtain⟨E,h1,h2,h3⟩:=env_ex s (b.extract 0 k) hr
  have hz:=ex_size b 0 k
  refine⟨E,.inr (.inr ⟨hroot,by omega,h1,h2,h3,1,by decide,?_⟩)⟩
  have hh:(E.hd 0 E.d.size).1=3:=by
   unfold Env.hd
   rw[h2,ByteArray.extract_zero_size]
   exact hd_short hel hk
  unfold readF
  show Out.andThen (rdF E (0+1) 0 0 E.d.size 1) _=_
  rw[rdF,if_pos (by rw[hh];decide),hh]
  rfl
 ·by_cases hbr:4000<(b++r).size
  ·obtain⟨E,_⟩:=env_ex s b hr
   exact .inl ⟨E,.inr (.inl ⟨hroot,hbr,rfl⟩),hbr⟩
  ·obtain⟨E,h1,h2,h3⟩:=env_ex s (b++r) hr
   have hsz:(b++r).size=b.size+r.size:=ByteArray.size_append
   refine .inr ⟨E,.inr (.inr ⟨hroot,by omega,h1,h2,h3,168041,by decide,?_⟩)⟩
   unfold readF
   rw[h2]
   show Out.andThen (rdF E 168041 0 0 (b++r).size 1) _=_
   rw[hread 168041 rfl E (b++r) h1 h2 h3 (by omega) ((At.all b).more r)]
   unfold Out.andThen
   simp only
   rw[if_pos (by omega)]
structure FrX(R:Nat)(w w':World):Prop where
 size:w.heap.size≤w'.heap.size
 stay:∀(k:Nat) (o:Obj),k≠R→(∀A,o≠ .cells A 5 (0,0))→w.heap[k]? =some o→w'.heap[k]? =some o
theorem FrX.refl(R:Nat)(w:World):FrX R w w:=⟨Nat.le_refl _,fun _ _ _ _ h=>h⟩
theorem FrX.trans{R:Nat}{w w1 w2:World}(h:FrX R w w1)(k:FrX R w1 w2):FrX R w w2:=⟨Nat.le_trans h.size k.size,fun j o hj ho hg=>k.stay j o hj ho (h.stay j o hj ho hg)⟩
theorem FrX.of_below{R:Nat}{w w':World}(h:Below w.heap.size w w'):FrX R w w':=⟨h.size,fun _ _ _ _ hg=>block_below hg h⟩
theorem FrX.set{R:Nat}{w:World}(i:Nat)(u:Value):FrX R w (w.setCell ⟨R,i,none⟩ u):=⟨by simp[World.setCell],fun j o hj _ hg=>by rw[heap_setCell_other _ _ _ _ hj];exact hg⟩
theorem FrX.fr{R:Nat}{w w':World}(h:FrX R w w'):FrE R w w':=fun k A T hk hT hg=>h.stay k _ hk (fun B q=>hT (by injection q)) hg
theorem bcells_len(t:ByteArray):(bcells t).length=t.size:=by
 unfold bcells
 rw[List.length_map]
 exact Array.length_toList
theorem bcells_ins(t tx:ByteArray){p:Nat}(hp:p≤t.size):(bcells t).take p++bcells tx++(bcells t).drop p=bcells (insB t p tx):=by
 unfold bcells insB
 rw[←List.map_take,←List.map_drop,←List.map_append,←List.map_append]
 congr 1
 rw[ByteArray.data_append,ByteArray.data_append,Array.toList_append,Array.toList_append,Lib.extract_data,Lib.extract_data]
 rw[List.drop_zero,Nat.sub_zero,List.take_of_length_le (l:=List.drop p t.data.toList) (by rw[List.length_drop];exact Nat.le_refl _)]
theorem bcells_one(t:ByteArray):∀v∈bcells t,v.oneCell'=true:=by
 intro v hv
 unfold bcells at hv
 obtain⟨b,_,rfl⟩:=List.mem_map.1 hv
 rfl
theorem row_take(tx:ByteArray)(c:Nat):(bytesRow tx c).toList.take tx.size=bcells tx:=by
 unfold bytesRow bcells
 rw[Array.toList_append,Array.toList_map]
 exact List.take_left' (by rw[List.length_map];exact Array.length_toList)
theorem EwD.setLong{W w:World}{R:Nat}{a:Option Addr}{n c:Nat}{ta:Option Addr}{tn tc x:Nat}{told:ByteArray}{lg:Bool}{ov:Value}(h:EwD W w R a n c ta tn tc x told lg ov)(l:Bool):EwD W (w.setCell ⟨R,4,none⟩ (.bool l)) R a n c ta tn tc x told l ov:=by
 obtain⟨tv,h1,h2⟩:=h.own
 exact⟨h.bel.setCell (p:=⟨R,4,none⟩) h.lo _,h.lo,tv,heap_setCell_same w R 4 _ _ _ h1,ownsRow_setCell_other h2 (row_ne h1 h2 (by decide)) _⟩
theorem EwD.setOrder{W w:World}{R:Nat}{a:Option Addr}{n c:Nat}{ta:Option Addr}{tn tc x:Nat}{told:ByteArray}{lg:Bool}{ov:Value}(h:EwD W w R a n c ta tn tc x told lg ov)(ov':Value):EwD W (w.setCell ⟨R,5,none⟩ ov') R a n c ta tn tc x told lg ov':=by
 obtain⟨tv,h1,h2⟩:=h.own
 exact⟨h.bel.setCell (p:=⟨R,5,none⟩) h.lo _,h.lo,tv,heap_setCell_same w R 5 _ _ _ h1,ownsRow_setCell_other h2 (row_ne h1 h2 (by decide)) _⟩
theorem ewTold{W w:World}{R:Nat}{a:Option Addr}{n c:Nat}{ta:Option Addr}{tn tc x:Nat}{tv:Value}{lg:Bool}{ov:Value}(hb:Below W.heap.size W w)(lo:W.heap.size≤R)(hg:w.heap[R]? =some (ewObj a n c ta tn tc x tv lg ov)){v':Value}{told:ByteArray}(ho:w.ownsRow W.heap.size 5 1 v' told.size (bcells told)):
 EwD W (w.setCell ⟨R,3,none⟩ v') R a n c ta tn tc x told lg ov:=
 ⟨hb.setCell (p:=⟨R,3,none⟩) lo _,lo,v',heap_setCell_same w R 3 _ _ _ hg,ownsRow_setCell_other ho (row_ne hg ho (by decide)) _⟩
theorem own8{w:World}{B:Nat}{v:Value}{n:Nat}{xs:List Value}(h:w.ownsRow B 5 1 v n xs):∃bs cp,v= .slice bs n cp∧n≤cp∧cp≤9223372036854775807∧(bs=none∨∃g,bs=some ⟨g,0,none⟩):=by
 rcases h.2 with⟨rfl,h0⟩|⟨g,cp,cur,rfl,_,_,h1,h2,_⟩
 ·exact⟨none,0,by rw[h0],by omega,by omega,.inl rfl⟩
 ·exact⟨_,_,rfl,h1,by unfold maxLen at h2;omega,.inr ⟨g,rfl⟩⟩
theorem ins_none(bs:Option Addr)(n cp i vb vc:Nat)(w:World)(hbs:bs=none∨∃g,bs=some ⟨g,0,none⟩)(hi:i≤n)(hn:n≤cp)(hcp:cp≤9223372036854775807)(h0:bs=none→n=0∧cp=0):
 Calls Tryz.prog 182 #[.slice bs n cp,.int .i64 i,.slice (some ⟨vb,0,none⟩) 0 vc] w fun e w'=>e= .returned (.slice bs n cp)∧w'=w:=by
 go_enter Tryz.func182,Tryz.ntmps182
 rcases hbs with rfl|⟨g,rfl⟩
 ·obtain⟨rfl,rfl⟩:=h0 rfl
  obtain rfl:i=0:=by omega
  go_wp2
  go_ret
  exact⟨rfl,rfl⟩
 ·have h1:(i:Int)≤(n:Int):=by omega
  by_cases h2:cp=i
  all_goals
   go_wp2
   go_ret
   exact⟨rfl,rfl⟩
def AfterI(W:World)(R:Nat)(a:Option Addr)(m c:Nat)(ta:Option Addr)(tn tc x:Nat)(told:ByteArray)(lg:Bool)(ov:Value)(p:Nat)(tx:ByteArray)(w:World)(e:Ending)(w':World):Prop:=
 e= .returned (.tuple #[])∧FrX R w w'∧∃told' lg',Ins told lg p tx told' lg'∧EwD W w' R a m c ta tn tc x told' lg' ov
theorem insert_any(W w:World)(R:Nat)(a:Option Addr)(m c:Nat)(ta:Option Addr)(tn tc x:Nat)(told:ByteArray)(lg:Bool)(ov:Value)(p:Nat)(tx:ByteArray)(hp:p≤told.size)(h4:told.size≤4000)(htx:tx.size≤140737488355328)(hI:EwD W w R a m c ta tn tc x told lg ov):
 Calls Tryz.prog 149 #[.pointer (some ⟨R,0,none⟩),.int .i64 p,.string tx] w fun e w'=>AfterI W R a m c ta tn tc x told lg ov p tx w e w':=by
 have HI:=hide hI
 obtain⟨tv,hown,hrow⟩:=hI.own
 obtain⟨bs,cp,rfl,hc1,hc2,hbs⟩:=own8 hrow
 have HG:=hide hown
 have HR:=hide hrow
 unfold ewObj at hown
 have c3:w.cell? ⟨R,3,none⟩=some (.slice bs told.size cp):=by simp[World.cell?,hown]
 have c4:w.cell? ⟨R,4,none⟩=some (.bool lg):=by simp[World.cell?,hown]
 have f3:w.frozen? ⟨R,3,none⟩=false:=by simp[World.frozen?,hown]
 have f4:w.frozen? ⟨R,4,none⟩=false:=by simp[World.frozen?,hown]
 have hRl:R<w.heap.size:=lt_of_cell c3
 clear hown hrow
 cases lg with
 |true=>
  clear hI
  go_enter Tryz.func149,Tryz.ntmps149
  go_wp2
  go_returns
  exact⟨rfl,FrX.set _ _,told,true,.inl ⟨.inl rfl,rfl,rfl⟩,HI.out.setLong _⟩
 |false=>
  clear hI
  by_cases hz:told.size+tx.size≤4000
  ·have hzb:decide ((4000:Int)-(told.size:Int)<(tx.size:Int))=false:=decide_eq_false (by omega)
   have hzc:¬((4000:Int)-(told.size:Int)<(tx.size:Int)):=by omega
   obtain⟨CAP,hCAP⟩:∃CAP,grownCap w tx.size 0 5=CAP:=⟨_,rfl⟩
   have hcv:=run_bytes_of_string (P:=Tryz.prog) w 9 52 5 tx Tryz.underlying9 Tryz.underlying52 Tryz.underlying5
   rw[hCAP]at hcv
   have hBR:tx.size≤(bytesRow tx CAP).size:=by
    unfold bytesRow
    rw[Array.size_append,Array.size_map]
    exact Nat.le_add_right _ _
   obtain⟨w1,hw1⟩:∃w1,w.drew.alloc (.cells (bytesRow tx CAP) 5 ((bytesRow tx CAP).size,(bytesRow tx CAP).size+1))=w1:=⟨_,rfl⟩
   have hB1:Below w.heap.size w w1:=by rw[←hw1];exact(Below.refl _ _).drew.alloc (Nat.le_refl _) _
   have hv1:w1.heap[w.heap.size]? =some (.cells (bytesRow tx CAP) 5 ((bytesRow tx CAP).size,(bytesRow tx CAP).size+1)):=by rw[←hw1];exact heap_alloc_new w.drew _
   rw[hw1]at hcv
   have HB1:=hide hB1
   have hs1:=hB1.size
   have hW1:W.heap.size≤w1.heap.size:=by have:=HI.out.bel.size;omega
   have HR1:=hide (own_below HR.out hB1)
   have HFIN:Hid (∀v2 w2 (t2:ByteArray),t2=insB told p tx→w2.ownsRow W.heap.size 5 1 v2 t2.size (bcells t2)→Below W.heap.size w1 w2→(∀(k:Nat) (o:Obj),(∀A,o≠ .cells A 5 (0,0))→w1.heap[k]? =some o→w2.heap[k]? =some o)→
    w2.cell? ⟨R,3,none⟩=some (.slice bs told.size cp)∧w2.frozen? ⟨R,3,none⟩=false∧R<w2.heap.size∧AfterI W R a m c ta tn tc x told false ov p tx w (.returned (.tuple #[])) (w2.setCell ⟨R,3,none⟩ v2)):=fun v2 w2 t2 e1 h1 h2 h3=>by
    have hg2:w2.heap[R]? =some (ewObj a m c ta tn tc x (.slice bs told.size cp) false ov):=h3 R _ (fun A q=>by injection q with _ q _;revert q;decide) (block_below HG.out HB1.out)
    have hg3:=hg2
    unfold ewObj at hg3
    refine⟨by simp[World.cell?,hg3],by simp[World.frozen?,hg3],row_lt hg2,rfl,?_,t2,false,.inr ⟨rfl,hz,e1,rfl⟩,ewTold ((HI.out.bel.trans (HB1.out.mono HI.out.bel.size)).trans h2) HI.out.lo hg2 h1⟩
    exact(FrX.of_below HB1.out).trans ((⟨h2.size,fun k o _ ho hk=>h3 k o ho hk⟩:FrX R w1 w2).trans (FrX.set _ _))
   by_cases h0:tx.size=0
   ·have HINS:Hid (Calls Tryz.prog 182 #[.slice bs told.size cp,.int .i64 p,.slice (some ⟨w.heap.size,0,none⟩) tx.size CAP] w1 fun e w'=>∃v2,e= .returned v2∧w'.ownsRow W.heap.size 5 1 v2 (insB told p tx).size (bcells (insB told p tx))∧Below W.heap.size w1 w'∧∀(k:Nat) (o:Obj),(∀A,o≠ .cells A 5 (0,0))→w1.heap[k]? =some o→w'.heap[k]? =some o):=by
     rw[h0]
     refine(ins_none bs told.size cp p w.heap.size CAP w1 hbs hp hc1 hc2 (fun q=>?_)).mono ?_
     ·subst q
      rcases HR.out.2 with⟨h,h'⟩|⟨g,_,_,h,_⟩
      ·injection h with _ _ h;exact⟨h',h⟩
      ·injection h with h;cases h
     ·rintro e w' ⟨rfl,rfl⟩
      have e1:insB told p tx=told:=by
       have hb:=bcells_ins told tx hp
       have hn:tx=noB:=by
        apply ByteArray.ext
        exact Array.eq_empty_of_size_eq_zero h0
       unfold insB
       rw[hn,app_noB]
       apply ByteArray.ext
       apply Array.toList_inj.1
       rw[ByteArray.data_append,Array.toList_append,Lib.extract_data,Lib.extract_data,List.drop_zero,Nat.sub_zero,List.take_of_length_le (l:=List.drop p told.data.toList) (by rw[List.length_drop];exact Nat.le_refl _),List.take_append_drop]
      rw[e1]
      exact⟨_,rfl,HR1.out,Below.refl _ _,fun _ _ _ h=>h⟩
    clear hv1 hB1 hs1 hW1 hw1 hbs h0
    go_enter Tryz.func149,Tryz.ntmps149
    go_wp2_with fail
    refine HINS.out.mono ?_
    rintro e w2 ⟨v2,rfl,ho2,hb2,hf2⟩
    obtain⟨d3,q3,hR2,hA⟩:=HFIN.out v2 w2 _ rfl ho2 hb2 hf2
    obtain⟨bs2,cp2,rfl,_,_,_⟩:=own8 ho2
    have HA:=hide hA
    clear ho2 hb2 hf2 hA
    go_wp2
    go_returns
    exact HA.out
   ·have HINS:Hid (Calls Tryz.prog 182 #[.slice bs told.size cp,.int .i64 p,.slice (some ⟨w.heap.size,0,none⟩) tx.size CAP] w1 fun e w'=>∃v2,e= .returned v2∧w'.ownsRow W.heap.size 5 1 v2 (insB told p tx).size (bcells (insB told p tx))∧Below W.heap.size w1 w'∧∀(k:Nat) (o:Obj),(∀A,o≠ .cells A 5 (0,0))→w1.heap[k]? =some o→w'.heap[k]? =some o):=by
     rw[insB_size tx hp,←bcells_ins told tx hp]
     exact ins_any W.heap.size _ told.size p w.heap.size tx.size CAP (bcells told) (bcells tx) (bytesRow tx CAP) _ w1 HR1.out hp (by omega) (by omega) hW1 hv1 (by show 0<(bytesRow tx CAP).size;omega) (row_take tx CAP) (bcells_len tx) (bcells_one told) (bcells_one tx)
    clear hv1 hB1 hs1 hW1 hw1 hbs h0
    go_enter Tryz.func149,Tryz.ntmps149
    go_wp2_with fail
    refine HINS.out.mono ?_
    rintro e w2 ⟨v2,rfl,ho2,hb2,hf2⟩
    obtain⟨d3,q3,hR2,hA⟩:=HFIN.out v2 w2 _ rfl ho2 hb2 hf2
    obtain⟨bs2,cp2,rfl,_,_,_⟩:=own8 ho2
    have HA:=hide hA
    clear ho2 hb2 hf2 hA
    go_wp2
    go_returns
    exact HA.out
  ·have hzb:decide ((4000:Int)-(told.size:Int)<(tx.size:Int))=true:=decide_eq_true (by omega)
   have hzc:(4000:Int)-(told.size:Int)<(tx.size:Int):=by omega
   go_enter Tryz.func149,Tryz.ntmps149
   go_wp2
   go_returns
   exact⟨rfl,FrX.set _ _,told,true,.inl ⟨.inr (by omega),rfl,rfl⟩,HI.out.setLong _⟩
def ovV(sn:Sn→Addr):Option Int→Value
 |none=> .nilIface
 |some p=>fault p (sn .Order)
structure Sz(t:List Vl):Prop where
 len:t.length≤16777000
 txt:∀j,j<t.length→(vl t j).text.size≤140737488355328
theorem Sz.of_pz{t:List Vl}(h:pz t t.length≤16777000):Sz t:=by
 refine⟨by unfold pz at h;omega,fun j hj=>?_⟩
 have h1:=pz_succ hj
 have h2:=pz_mono (t:=t) (x:=j+1) (y:=t.length) hj (Nat.le_refl _)
 omega
structure WCP(E:WEnv)(W:World)(a ta:Option Addr):Prop where
 sch:Sch W a E.s
 right:RightP E.s
 sok:SchOk E.s
 ok:∀k t,E.ok k t=true↔ContentOk k t
 tree:TreeIn W ta E.t
 size:Sz E.t
 kids:∀j,j<E.t.length→(vl E.t j).kids≤9223372036854775807
structure EC(E:WEnv)(W:World)(a ta:Option Addr)(sn:Sn→Addr):Prop where
 wc:WCP E W a ta
 lay:Lay W sn
theorem EC.txt{E:WEnv}{W:World}{a ta:Option Addr}{sn:Sn→Addr}(h:EC E W a ta sn){j:Nat}(hj:j<E.t.length):(vl E.t j).text.size≤140737488355328:=h.wc.size.txt j hj
theorem EC.len{E:WEnv}{W:World}{a ta:Option Addr}{sn:Sn→Addr}(h:EC E W a ta sn):E.t.length≤16777000:=h.wc.size.len
def AfterE(E:WEnv)(W:World)(R:Nat)(a:Option Addr)(c:Nat)(ta:Option Addr)(tc:Nat)(sn:Sn→Addr)(r:WOut)(t0:ByteArray)(l0:Bool)(o0:Option Int)(w:World)(e:Ending)(w':World):Prop:=
 FrE R w w'∧((∃b x u t1 l1 o1,r=some (b,x,u)∧e= .returned .nilIface∧Tld t0 l0 o0 b u t1 l1 o1∧EwD W w' R a E.s.length c ta E.t.length tc x t1 l1 (ovV sn o1))∨
  (r=none∧∃(p:Int) (x:Nat) (t1:ByteArray) (l1:Bool) (ov:Value),e= .returned (fault p (sn .Tree))∧EwD W w' R a E.s.length c ta E.t.length tc x t1 l1 ov))
theorem AfterE.of{E:WEnv}{W:World}{R:Nat}{a:Option Addr}{c:Nat}{ta:Option Addr}{tc:Nat}{sn:Sn→Addr}{r:WOut}{t0:ByteArray}{l0:Bool}{o0:Option Int}{w w1 w':World}{e:Ending}(h:AfterE E W R a c ta tc sn r t0 l0 o0 w1 e w')(hf:FrE R w w1):AfterE E W R a c ta tc sn r t0 l0 o0 w e w':=⟨hf.trans h.1,h.2⟩
def NodeE(E:WEnv)(W:World)(R:Nat)(a:Option Addr)(c:Nat)(ta:Option Addr)(tc:Nat)(sn:Sn→Addr)(f:Nat):Prop:=
 ∀(i x:Nat) (dp:Int) (r:WOut) (t0:ByteArray) (l0:Bool) (o0:Option Int) (w:World),wrF E f i x dp=some r→i<E.s.length→x≤E.t.length→E.t.length+1≤f+x→1≤f→1≤dp→dp≤13→t0.size≤4000→
  EwD W w R a E.s.length c ta E.t.length tc x t0 l0 (ovV sn o0)→
  Calls Tryz.prog 75 #[.pointer (some ⟨R,0,none⟩),.int .i64 i,.int .i64 dp] w fun e w'=>AfterE E W R a c ta tc sn r t0 l0 o0 w e w'
theorem step_callsG{P:Program}{ops:Array Oper}{o:Oper}{a:Act}{w:World}{K:Act→World→Prop}{Q:Exit→Act→World→Prop}{E:Prop}(hw:Region.wanted o (yielded ops a.tmps)=true)(f:FuncId)(args:Array Operand)(tys:Array TypeId)
 (ho:o.op= .call {callee:= .value (.func f),args:=args,argTypes:=tys})(vals:Array Value)(hv:args.map a.eval=vals)(v:Value)(S:World→Prop)
 (hrun:(callFunc f vals).run P w= .ok (.enter f vals) w)
 (hc:Calls P f vals w fun e w'=>e= .returned v∧S w')(hk:∀w',S w'→K (a.put o.dst v) w'):if Region.wanted o (yielded ops a.tmps)=true then Oper.wp P o a w K Q else E:=by
 rw[if_pos hw]
 unfold Oper.wp
 simp only[execOp,ho,resolve,invoke]
 simp[Act.eval,Deferred.ofValue,hv,hrun,Oper.upon_enter]
 exact hc.mono fun e w' ⟨h1,h2⟩=>by subst h1;exact hk w' h2
def AfterLO(E:WEnv)(W:World)(R:Nat)(a:Option Addr)(c:Nat)(ta:Option Addr)(tc:Nat)(k:Kd)(x:Nat)(t1:ByteArray)(l1:Bool)(ov:Value)(w:World)(e:Ending)(w':World):Prop:=
 FrE R w w'∧((LO E k x∧e= .returned (.bool true)∧EwD W w' R a E.s.length c ta E.t.length tc (x+1) t1 l1 ov)∨(¬LO E k x∧e= .returned (.bool false)∧EwD W w' R a E.s.length c ta E.t.length tc x t1 l1 ov))
theorem leftOut_any(E:WEnv)(W:World)(R:Nat)(a:Option Addr)(c:Nat)(ta:Option Addr)(tc:Nat)(sn:Sn→Addr)(hc:EC E W a ta sn)(htc:E.t.length≤tc)(i:Nat)(hi:i<E.s.length)(k:Kd)(hk:k∈(nd E.s i).kids)(x:Nat)(t1:ByteArray)(l1:Bool)(ov:Value)(w:World)(hx:x≤E.t.length)(hI:EwD W w R a E.s.length c ta E.t.length tc x t1 l1 ov):
 Calls Tryz.prog 183 #[.pointer (some ⟨R,0,none⟩),.agg #[.int .i64 k.node,.bool k.opt,.string k.dflt]] w fun e w'=>AfterLO E W R a c ta tc k x t1 l1 ov w e w':=by
 have HC:=hide hc
 have HI:=hide hI
 have hlen:=hc.len
 have hwn:=hc.wc.right.fine.within i hi k hk
 obtain⟨j,hj,hjk⟩:=kidOf hk
 have hKid:=(hc.wc.right.2.2.1 i hi).2.2.2 j hj
 have hDf:=(hc.wc.right.2.2.2.2 i hi).2 j hj
 rw[hjk]at hKid hDf
 obtain⟨t,ht⟩:∃t:Nat,k.node=t:=⟨k.node.toNat,by omega⟩
 have htn:k.node.toNat=t:=by omega
 have htl:t<E.s.length:=by omega
 rw[htn]at hDf
 have hod:=hKid.2.2.2
 have hyz:=hc.wc.sok i hi k hk
 have HLO:Hid (LO E k x↔x<E.t.length∧((k.opt=true∧vl E.t x=⟨15,noB,0,0⟩)∨(k.dflt.size≠0∧∃u,ElemOk (nd E.s t) k.dflt u∧vl E.t x=⟨(nd E.s t).kind,u,0,0⟩))):=by
  unfold LO
  rw[htn]
  exact Iff.rfl
 obtain⟨tv,hown,_⟩:=hI.own
 unfold ewObj at hown
 have c1:w.cell? ⟨R,1,none⟩=some (.slice ta E.t.length tc):=by simp[World.cell?,hown]
 have hRl:R<w.heap.size:=lt_of_cell c1
 rw[ht]
 have hB1:Below w.heap.size w (w.alloc (.cells #[.int .i64 t,.bool k.opt,.string k.dflt] 55)):=(Below.refl _ _).alloc (Nat.le_refl _) _
 have hG1:(w.alloc (.cells #[.int .i64 t,.bool k.opt,.string k.dflt] 55)).heap[w.heap.size]? =some (.cells #[.int .i64 t,.bool k.opt,.string k.dflt] 55 (0,0)):=heap_alloc_new w _
 clear hI hown hc hwn hj hjk hKid hk c1 htn ht
 go_enter Tryz.func183,Tryz.ntmps183
 go_upto_region 1 with fail
 obtain⟨kb,hkb⟩:∃kb,w.heap.size=kb:=⟨_,rfl⟩
 rw[hkb]at hG1 ⊢
 generalize w.alloc (.cells #[.int .i64 t,.bool k.opt,.string k.dflt] 55)=w1 at hB1 hG1 ⊢
 have hneK:kb≠R:=by omega
 have HB1:=hide hB1
 have HG1:=hide hG1
 have HI1:=hide (HI.out.below hB1)
 obtain⟨tv,hown,_⟩:=HI1.out.own
 unfold ewObj at hown
 have d1:w1.cell? ⟨R,1,none⟩=some (.slice ta E.t.length tc):=by simp[World.cell?,hown]
 have d2:w1.cell? ⟨R,2,none⟩=some (.int .i64 (x:Int)):=by simp[World.cell?,hown]
 have hR1:R<w1.heap.size:=lt_of_cell d1
 have hxb:x<E.t.length∨x=E.t.length:=by omega
 clear hB1 hG1 hown
 rcases hxb with hx3|hx3
 ·have hx3':(x:Int)<(E.t.length:Int):=by omega
  have hxb:((x:Int)==(E.t.length:Int))=false:=by simp;omega
  have hxb2:decide ((x:Int)=(E.t.length:Int))=false:=decide_eq_false (by omega)
  go_quiet (fail)
  have HI2:=hide (HI1.out.below (Go.below_drewN (Below.refl w1.heap.size w1) nq))
  have HG2:=hide (block_below HG1.out (Go.below_drewN (Below.refl w1.heap.size w1) nq))
  have HB2:Hid (Below w.heap.size w (w1.drewN nq)):=Go.below_drewN HB1.out nq
  generalize w1.drewN nq=w2 at HI2 HG2 HB2 ⊢
  clear d1 d2 hR1
  obtain⟨g,o,hta,p0,p1,p2,p3⟩:=HC.out.wc.tree x hx3
  have hbW:=HI2.out.bel
  have m0:w2.cell? ⟨g,o+x*4,none⟩=some (.int .i64 (vl E.t x).kind):=(hbW.cell (lt_of_cell p0)).trans p0
  have m1:w2.cell? ⟨g,o+x*4+1,none⟩=some (.string (vl E.t x).text):=(hbW.cell (lt_of_cell p1)).trans p1
  have m2:w2.cell? ⟨g,o+x*4+2,none⟩=some (.int .i64 (vl E.t x).alt):=(hbW.cell (lt_of_cell p2)).trans p2
  have m3:w2.cell? ⟨g,o+x*4+3,none⟩=some (.int .i64 (vl E.t x).kids):=(hbW.cell (lt_of_cell p3)).trans p3
  have hlG:=lt_of_cell m0
  simp only at hlG
  obtain⟨tv,hown,_⟩:=HI2.out.own
  unfold ewObj at hown
  have d1:w2.cell? ⟨R,1,none⟩=some (.slice (some ⟨g,o,none⟩) E.t.length tc):=by rw[←hta];simp[World.cell?,hown]
  have d2:w2.cell? ⟨R,2,none⟩=some (.int .i64 (x:Int)):=by simp[World.cell?,hown]
  have hR2:R<w2.heap.size:=lt_of_cell d1
  obtain⟨v,hv⟩:∃v,vl E.t x=v:=⟨_,rfl⟩
  have HV:=hide hv
  rw[hv]at m0 m1 m2 m3
  have hx0:0≤(x:Int):=by omega
  clear hown hbW p0 p1 p2 p3 hv hta
  go_wp2_with fail
  have HST:Hid (∀wq,Below w2.heap.size w2 wq→wq.cell? ⟨R,1,none⟩=some (.slice (some ⟨g,o,none⟩) E.t.length tc)∧wq.cell? ⟨R,2,none⟩=some (.int .i64 (x:Int))∧wq.cell? ⟨g,o+x*4,none⟩=some (.int .i64 v.kind)∧wq.cell? ⟨g,o+x*4+1,none⟩=some (.string v.text)∧wq.cell? ⟨g,o+x*4+2,none⟩=some (.int .i64 v.alt)∧wq.cell? ⟨g,o+x*4+3,none⟩=some (.int .i64 v.kids)):=fun wq q=>
   ⟨(q.cell (lt_of_cell d1)).trans d1,(q.cell (lt_of_cell d2)).trans d2,(q.cell (lt_of_cell m0)).trans m0,(q.cell (lt_of_cell m1)).trans m1,(q.cell (lt_of_cell m2)).trans m2,(q.cell (lt_of_cell m3)).trans m3⟩
  go_region_held_law (fun w'=>w'.cell? ⟨R,1,none⟩=some (.slice (some ⟨g,o,none⟩) E.t.length tc)∧w'.cell? ⟨R,2,none⟩=some (.int .i64 (x:Int))∧w'.cell? ⟨g,o+x*4,none⟩=some (.int .i64 v.kind)∧w'.cell? ⟨g,o+x*4+1,none⟩=some (.string v.text)∧w'.cell? ⟨g,o+x*4+2,none⟩=some (.int .i64 v.alt)∧w'.cell? ⟨g,o+x*4+3,none⟩=some (.int .i64 v.kids)) (first|exact HST.out _ (Below.refl _ _).drew |exact HST.out _ ((Below.refl _ _).drew.alloc (by simp) _)|go_keep) (fail)
  rename_i hHeld
  clear hHeld
  have hB3:Below w2.heap.size w2 (w2.alloc (.cells #[.int .i64 v.kind,.string v.text,.int .i64 v.alt,.int .i64 v.kids] 60)).drew:=((Below.refl _ _).alloc (Nat.le_refl _) _).drew
  have hG3:(w2.alloc (.cells #[.int .i64 v.kind,.string v.text,.int .i64 v.alt,.int .i64 v.kids] 60)).drew.heap[w2.heap.size]? =some (.cells #[.int .i64 v.kind,.string v.text,.int .i64 v.alt,.int .i64 v.kids] 60 (0,0)):=heap_alloc_new w2 _
  obtain⟨vb,hvb⟩:∃vb,w2.heap.size=vb:=⟨_,rfl⟩
  rw[hvb]at hG3 ⊢
  generalize(w2.alloc (.cells #[.int .i64 v.kind,.string v.text,.int .i64 v.alt,.int .i64 v.kids] 60)).drew=w3 at hB3 hG3 ⊢
  have HI3:=hide (HI2.out.below hB3)
  have HW3:Hid (Below w.heap.size w w3):=HB2.out.trans (hB3.mono HB2.out.size)
  have hk3:=block_below HG2.out hB3
  have e1:w3.cell? ⟨kb,0,none⟩=some (.int .i64 t):=cell_of_row hk3 rfl
  have e2:w3.cell? ⟨kb,1,none⟩=some (.bool k.opt):=cell_of_row hk3 rfl
  have e3:w3.cell? ⟨kb,2,none⟩=some (.string k.dflt):=cell_of_row hk3 rfl
  have v0:w3.cell? ⟨vb,0,none⟩=some (.int .i64 v.kind):=cell_of_row hG3 rfl
  have v1:w3.cell? ⟨vb,1,none⟩=some (.string v.text):=cell_of_row hG3 rfl
  have v2:w3.cell? ⟨vb,2,none⟩=some (.int .i64 v.alt):=cell_of_row hG3 rfl
  have v3:w3.cell? ⟨vb,3,none⟩=some (.int .i64 v.kids):=cell_of_row hG3 rfl
  obtain⟨tv3,hown3,_⟩:=HI3.out.own
  unfold ewObj at hown3
  have e0:w3.cell? ⟨R,0,none⟩=some (.slice a E.s.length c):=by simp[World.cell?,hown3]
  have hl0:=lt_of_cell e0
  have hl1:=row_lt hk3
  have hl2:=row_lt hG3
  simp only at hl0
  have hwx:IntKind.i64.wrap ((x:Int)+1)=(x:Int)+1:=by rw[IntKind.wrap_i64];omega
  clear hB3 hG3 hvb hk3 hown3 d1 d2 m0 m1 m2 m3 hlG hR2 HST HI2 HG2 HB2
  go_wp2_with fail
  by_cases hopt:k.opt=true
  ·have hd0:k.dflt.size=0:=by
    apply Classical.byContradiction
    intro q
    exact hod ⟨hopt,q⟩
   rw[hopt]at e2
   have hem:=emp_t hd0
   have HNO:Hid (vl E.t x≠⟨15,noB,0,0⟩→¬LO E k x):=fun q z=>by
    rcases(HLO.out.1 z).2 with h|h
    ·exact q h.2
    ·exact h.1 hd0
   clear hd0
   by_cases q1:v.kind=15
   ·rw[q1]at v0
    by_cases q2:v.text.size=0
    ·rw[noB_of q2]at v1
     unfold noB at v1
     by_cases q3:v.alt=0
     ·rw[q3]at v2
      by_cases q4:v.kids=0
      ·rw[q4]at v3
       have hvv:v=⟨15,noB,0,0⟩:=by
        obtain⟨va,vb2,vc,vd⟩:=v
        simp only at q1 q2 q3 q4
        rw[q1,noB_of q2,q3,q4]
       have HVV:=hide hvv
       clear hvv q1 q2 q3 q4
       have HWHY:Hid (LO E k x):=HLO.out.2 ⟨hx3,.inl ⟨hopt,HV.out.trans HVV.out⟩⟩
       go_quiet (fail)
       clear e0 e1 e2 e3 v0 v1 v2 v3
       have HI4:=hide (HI3.out.below (Go.below_drewN (Below.refl _ _) nq))
       have HW4:Hid (Below w.heap.size w (w3.drewN nq)):=Go.below_drewN HW3.out nq
       generalize w3.drewN nq=w4 at HI4 HW4 ⊢
       obtain⟨tv4,hown4,_⟩:=HI4.out.own
       unfold ewObj at hown4
       have n2:w4.cell? ⟨R,2,none⟩=some (.int .i64 (x:Int)):=by simp[World.cell?,hown4]
       have f2:w4.frozen? ⟨R,2,none⟩=false:=by simp[World.frozen?,hown4]
       have hR4:R<w4.heap.size:=lt_of_cell n2
       clear hown4
       go_wp2
       go_ret
       exact⟨(FrE.of_below HW4.out).trans (FrE.set 2 _),.inl ⟨HWHY.out,rfl,HI4.out.setNext (x+1)⟩⟩
      ·have q4b:(v.kids==0)=false:=by simpa using q4
       have Q4:=hide q4
       clear q1 q2 q3 q4
       have HWHY:Hid (¬LO E k x):=HNO.out (fun z=>Q4.out (by rw[←HV.out,z]))
       go_quiet (fail)
       clear e0 e1 e2 e3 v0 v1 v2 v3
       have HI4:=hide (HI3.out.below (Go.below_drewN (Below.refl _ _) nq))
       have HW4:Hid (Below w.heap.size w (w3.drewN nq)):=Go.below_drewN HW3.out nq
       generalize w3.drewN nq=w4 at HI4 HW4 ⊢
       go_wp2
       go_ret
       exact⟨FrE.of_below HW4.out,.inr ⟨HWHY.out,rfl,HI4.out⟩⟩
     ·have q3b:(v.alt==0)=false:=by simpa using q3
      have Q3:=hide q3
      clear q1 q2 q3
      have HWHY:Hid (¬LO E k x):=HNO.out (fun z=>Q3.out (by rw[←HV.out,z]))
      go_quiet (fail)
      clear e0 e1 e2 e3 v0 v1 v2 v3
      have HI4:=hide (HI3.out.below (Go.below_drewN (Below.refl _ _) nq))
      have HW4:Hid (Below w.heap.size w (w3.drewN nq)):=Go.below_drewN HW3.out nq
      generalize w3.drewN nq=w4 at HI4 HW4 ⊢
      go_wp2
      go_ret
      exact⟨FrE.of_below HW4.out,.inr ⟨HWHY.out,rfl,HI4.out⟩⟩
    ·have q2b:=emp_f (t:=v.text) (by omega)
     have Q2:=hide q2
     clear q1 q2
     have HWHY:Hid (¬LO E k x):=HNO.out (fun z=>Q2.out (by rw[←HV.out,z];rfl))
     go_quiet (fail)
     clear e0 e1 e2 e3 v0 v1 v2 v3
     have HI4:=hide (HI3.out.below (Go.below_drewN (Below.refl _ _) nq))
     have HW4:Hid (Below w.heap.size w (w3.drewN nq)):=Go.below_drewN HW3.out nq
     generalize w3.drewN nq=w4 at HI4 HW4 ⊢
     go_wp2
     go_ret
     exact⟨FrE.of_below HW4.out,.inr ⟨HWHY.out,rfl,HI4.out⟩⟩
   ·have q1b:(v.kind==15)=false:=by simpa using q1
    have Q1:=hide q1
    clear q1
    have HWHY:Hid (¬LO E k x):=HNO.out (fun z=>Q1.out (by rw[←HV.out,z]))
    go_quiet (fail)
    clear e0 e1 e2 e3 v0 v1 v2 v3
    have HI4:=hide (HI3.out.below (Go.below_drewN (Below.refl _ _) nq))
    have HW4:Hid (Below w.heap.size w (w3.drewN nq)):=Go.below_drewN HW3.out nq
    generalize w3.drewN nq=w4 at HI4 HW4 ⊢
    go_wp2
    go_ret
    exact⟨FrE.of_below HW4.out,.inr ⟨HWHY.out,rfl,HI4.out⟩⟩
  ·have hopt':k.opt=false:=by simpa using hopt
   rw[hopt']at e2
   by_cases hd:k.dflt.size=0
   ·have hem:=emp_t hd
    have HWHY:Hid (¬LO E k x):=(fun z=>by rcases(HLO.out.1 z).2 with h|h;exact hopt h.1;exact h.1 hd)
    go_quiet (fail)
    clear e0 e1 e2 e3 v0 v1 v2 v3
    have HI4:=hide (HI3.out.below (Go.below_drewN (Below.refl _ _) nq))
    have HW4:Hid (Below w.heap.size w (w3.drewN nq)):=Go.below_drewN HW3.out nq
    generalize w3.drewN nq=w4 at HI4 HW4 ⊢
    go_wp2
    go_ret
    exact⟨FrE.of_below HW4.out,.inr ⟨HWHY.out,rfl,HI4.out⟩⟩
   ·have hem:=emp_f (t:=k.dflt) (by omega)
    obtain⟨hk9,u,hu⟩:(nd E.s t).kind≤9∧∃u,ElemOk (nd E.s t) k.dflt u:=by
     rcases hDf with h|h
     ·exact absurd h hd
     ·exact h
    have HDF:Hid (∀wq,Below W.heap.size W wq→Calls Tryz.prog 202 #[.slice a E.s.length c,.agg #[.int .i64 t,.bool false,.string k.dflt]] wq fun e w'=>e= .returned (.agg #[.int .i64 (nd E.s t).kind,.string u,.int .i64 0,.int .i64 0])∧Below wq.heap.size wq w'):=fun wq q=>default_any E.s a c t false k.dflt u wq sn (HC.out.lay.below q) (HC.out.wc.sch.below q) HC.out.wc.right htl hk9 hu (by omega)
    have HU:=hide hu
    have HNO:Hid (vl E.t x≠⟨(nd E.s t).kind,u,0,0⟩→¬LO E k x):=fun q z=>by
     rcases(HLO.out.1 z).2 with h|⟨_,u',hu',h⟩
     ·exact hopt h.1
     ·rw[elem_one hu' HU.out]at h;exact q h
    obtain⟨KK,hKK⟩:∃KK,(nd E.s t).kind=KK:=⟨_,rfl⟩
    have HKK:=hide hKK
    rw[hKK]at HDF HNO
    clear hKK hu hk9
    have RUN:Hid (∀args w,(callFunc 202 args).run Tryz.prog w= .ok (.enter 202 args) w):=fun args w=>run_enter Tryz.func202 (by kernel_rfl) (by rfl) args w
    have HST:Hid (∀wq,Below w3.heap.size w3 wq→wq.cell? ⟨R,0,none⟩=some (.slice a E.s.length c)∧wq.cell? ⟨kb,0,none⟩=some (.int .i64 t)∧wq.cell? ⟨kb,1,none⟩=some (.bool false)∧wq.cell? ⟨kb,2,none⟩=some (.string k.dflt)∧wq.cell? ⟨vb,0,none⟩=some (.int .i64 v.kind)∧wq.cell? ⟨vb,1,none⟩=some (.string v.text)∧wq.cell? ⟨vb,2,none⟩=some (.int .i64 v.alt)∧wq.cell? ⟨vb,3,none⟩=some (.int .i64 v.kids)):=fun wq q=>⟨(q.cell (lt_of_cell e0)).trans e0,(q.cell (lt_of_cell e1)).trans e1,(q.cell (lt_of_cell e2)).trans e2,(q.cell (lt_of_cell e3)).trans e3,(q.cell (lt_of_cell v0)).trans v0,(q.cell (lt_of_cell v1)).trans v1,(q.cell (lt_of_cell v2)).trans v2,(q.cell (lt_of_cell v3)).trans v3⟩
    refine wp_region_held_drew (S:=(fun w'=>w'.cell? ⟨R,0,none⟩=some (.slice a E.s.length c)∧w'.cell? ⟨kb,0,none⟩=some (.int .i64 t)∧w'.cell? ⟨kb,1,none⟩=some (.bool false)∧w'.cell? ⟨kb,2,none⟩=some (.string k.dflt)∧w'.cell? ⟨vb,0,none⟩=some (.int .i64 v.kind)∧w'.cell? ⟨vb,1,none⟩=some (.string v.text)∧w'.cell? ⟨vb,2,none⟩=some (.int .i64 v.alt)∧w'.cell? ⟨vb,3,none⟩=some (.int .i64 v.kids))) (by kernel_rfl) (HST.out _ (Below.refl _ _).drew) (fun hHeld=>?_)
    refine wpAnyH_take (i:=0) (v:=?_) rfl (by kernel_rfl) (by kernel_rfl) (by kernel_rfl) (fun _ _ _ h=>h) (Or.inl ⟨by rfl,?_⟩) (by assumption) ?_
    rotate_left
    ·intro wz hSw;(try dsimp only at hSw);go_simp;all_goals with_reducible rfl
    try simp only[Act.put,List.getElem_toArray,List.getElem_cons_zero,List.getElem_cons_succ,List.setIfInBounds_toArray,List.set_cons_zero,List.set_cons_succ]
    refine wpAnyH_take (i:=1) (v:=?_) rfl (by kernel_rfl) (by kernel_rfl) (by kernel_rfl) (fun _ _ _ h=>h) (Or.inl ⟨by rfl,?_⟩) (by assumption) ?_
    rotate_left
    ·intro wz hSw;(try dsimp only at hSw);go_simp;all_goals with_reducible rfl
    try simp only[Act.put,List.getElem_toArray,List.getElem_cons_zero,List.getElem_cons_succ,List.setIfInBounds_toArray,List.set_cons_zero,List.set_cons_succ]
    refine wpAnyH_take (i:=2) (v:=?_) rfl (by kernel_rfl) (by kernel_rfl) (by kernel_rfl) (fun _ _ _ h=>h) (Or.inl ⟨by rfl,?_⟩) (by assumption) ?_
    rotate_left
    ·intro wz hSw;(try dsimp only at hSw);go_simp;all_goals with_reducible rfl
    try simp only[Act.put,List.getElem_toArray,List.getElem_cons_zero,List.getElem_cons_succ,List.setIfInBounds_toArray,List.set_cons_zero,List.set_cons_succ]
    refine wpAnyH_take (i:=3) (v:=undef) rfl (by kernel_rfl) (by kernel_rfl) (by kernel_rfl) (fun _ _ _ h=>h) (Or.inr ⟨by rfl,rfl⟩) (by assumption) ?_
    try simp only[Act.put,List.getElem_toArray,List.getElem_cons_zero,List.getElem_cons_succ,List.setIfInBounds_toArray,List.set_cons_zero,List.set_cons_succ]
    refine wpAnyH_take (i:=4) (v:=undef) rfl (by kernel_rfl) (by kernel_rfl) (by kernel_rfl) (fun _ _ _ h=>h) (Or.inr ⟨by rfl,rfl⟩) (by assumption) ?_
    try simp only[Act.put,List.getElem_toArray,List.getElem_cons_zero,List.getElem_cons_succ,List.setIfInBounds_toArray,List.set_cons_zero,List.set_cons_succ]
    refine wpAnyH_take (i:=5) (v:=undef) rfl (by kernel_rfl) (by kernel_rfl) (by kernel_rfl) (fun _ _ _ h=>h) (Or.inr ⟨by rfl,rfl⟩) (by assumption) ?_
    try simp only[Act.put,List.getElem_toArray,List.getElem_cons_zero,List.getElem_cons_succ,List.setIfInBounds_toArray,List.set_cons_zero,List.set_cons_succ]
    refine wpAnyH_take (i:=6) (v:=?_) rfl (by kernel_rfl) (by kernel_rfl) (by kernel_rfl) (fun _ _ _ h=>h) (Or.inl ⟨by rfl,?_⟩) (by assumption) ?_
    rotate_left
    ·intro wz hSw;(try dsimp only at hSw);go_simp;all_goals with_reducible rfl
    try simp only[Act.put,List.getElem_toArray,List.getElem_cons_zero,List.getElem_cons_succ,List.setIfInBounds_toArray,List.set_cons_zero,List.set_cons_succ]
    refine wpAnyH_take (i:=7) (v:=?_) rfl (by kernel_rfl) (by kernel_rfl) (by kernel_rfl) (fun _ _ _ h=>h) (Or.inl ⟨by rfl,?_⟩) (by assumption) ?_
    rotate_left
    ·intro wz hSw;(try dsimp only at hSw);go_simp;all_goals with_reducible rfl
    try simp only[Act.put,List.getElem_toArray,List.getElem_cons_zero,List.getElem_cons_succ,List.setIfInBounds_toArray,List.set_cons_zero,List.set_cons_succ]
    refine wpAnyH_take (i:=8) (v:=?_) rfl (by kernel_rfl) (by kernel_rfl) (by kernel_rfl) (fun _ _ _ h=>h) (Or.inl ⟨by rfl,?_⟩) (by assumption) ?_
    rotate_left
    ·intro wz hSw;(try dsimp only at hSw);go_simp;all_goals with_reducible rfl
    try simp only[Act.put,List.getElem_toArray,List.getElem_cons_zero,List.getElem_cons_succ,List.setIfInBounds_toArray,List.set_cons_zero,List.set_cons_succ]
    refine wpAnyH_take (i:=9) (v:=?_) rfl (by kernel_rfl) (by kernel_rfl) (by kernel_rfl) (fun _ _ _ h=>h) (Or.inl ⟨by rfl,?_⟩) (by assumption) ?_
    rotate_left
    ·intro wz hSw;(try dsimp only at hSw);go_simp;all_goals with_reducible rfl
    try simp only[Act.put,List.getElem_toArray,List.getElem_cons_zero,List.getElem_cons_succ,List.setIfInBounds_toArray,List.set_cons_zero,List.set_cons_succ]
    refine wpAnyH_take (i:=10) (v:=?_) rfl (by kernel_rfl) (by kernel_rfl) (by kernel_rfl) (fun _ _ _ h=>h) (Or.inl ⟨by rfl,?_⟩) (by assumption) ?_
    rotate_left
    ·intro wz hSw;(try dsimp only at hSw);go_simp;all_goals with_reducible rfl
    try simp only[Act.put,List.getElem_toArray,List.getElem_cons_zero,List.getElem_cons_succ,List.setIfInBounds_toArray,List.set_cons_zero,List.set_cons_succ]
    refine wpAnyH_take (i:=11) (v:=?_) rfl (by kernel_rfl) (by kernel_rfl) (by kernel_rfl) (fun _ _ _ h=>h) (Or.inl ⟨by rfl,?_⟩) (by assumption) ?_
    rotate_left
    ·intro wz hSw;(try dsimp only at hSw);go_simp;all_goals with_reducible rfl
    try simp only[Act.put,List.getElem_toArray,List.getElem_cons_zero,List.getElem_cons_succ,List.setIfInBounds_toArray,List.set_cons_zero,List.set_cons_succ]
    refine wpAnyH_take (i:=12) (v:=?_) rfl (by kernel_rfl) (by kernel_rfl) (by kernel_rfl) (fun _ _ _ h=>h) (Or.inl ⟨by rfl,?_⟩) (by assumption) ?_
    rotate_left
    ·intro wz hSw;(try dsimp only at hSw);go_simp;all_goals with_reducible rfl
    try simp only[Act.put,List.getElem_toArray,List.getElem_cons_zero,List.getElem_cons_succ,List.setIfInBounds_toArray,List.set_cons_zero,List.set_cons_succ]
    refine wpAnyH_take (i:=13) (v:=?_) rfl (by kernel_rfl) (by kernel_rfl) (by kernel_rfl) (fun _ _ _ h=>h) (Or.inl ⟨by rfl,?_⟩) (by assumption) ?_
    rotate_left
    ·intro wz hSw;(try dsimp only at hSw);go_simp;all_goals with_reducible rfl
    try simp only[Act.put,List.getElem_toArray,List.getElem_cons_zero,List.getElem_cons_succ,List.setIfInBounds_toArray,List.set_cons_zero,List.set_cons_succ]
    refine wpAnyH_take (i:=14) (v:=?_) rfl (by kernel_rfl) (by kernel_rfl) (by kernel_rfl) (fun _ _ _ h=>h) (Or.inl ⟨by rfl,?_⟩) (by assumption) ?_
    rotate_left
    ·intro wz hSw;(try dsimp only at hSw);go_simp;all_goals with_reducible rfl
    try simp only[Act.put,List.getElem_toArray,List.getElem_cons_zero,List.getElem_cons_succ,List.setIfInBounds_toArray,List.set_cons_zero,List.set_cons_succ]
    refine wpAnyH_take (i:=15) (v:=?_) rfl (by kernel_rfl) (by kernel_rfl) (by kernel_rfl) (fun _ _ _ h=>h) (Or.inl ⟨by rfl,?_⟩) (by assumption) ?_
    rotate_left
    ·intro wz hSw;(try dsimp only at hSw);go_simp;all_goals with_reducible rfl
    try simp only[Act.put,List.getElem_toArray,List.getElem_cons_zero,List.getElem_cons_succ,List.setIfInBounds_toArray,List.set_cons_zero,List.set_cons_succ]
    refine wpAnyH_take (i:=16) (v:=?_) rfl (by kernel_rfl) (by kernel_rfl) (by kernel_rfl) (fun _ _ _ h=>h) (Or.inl ⟨by rfl,?_⟩) (by assumption) ?_
    rotate_left
    ·intro wz hSw;(try dsimp only at hSw);go_simp;all_goals with_reducible rfl
    try simp only[Act.put,List.getElem_toArray,List.getElem_cons_zero,List.getElem_cons_succ,List.setIfInBounds_toArray,List.set_cons_zero,List.set_cons_succ]
    refine wpAnyH_take (i:=17) (v:=?_) rfl (by kernel_rfl) (by kernel_rfl) (by kernel_rfl) (fun _ _ _ h=>h) (Or.inl ⟨by rfl,?_⟩) (by assumption) ?_
    rotate_left
    ·intro wz hSw;(try dsimp only at hSw);go_simp;all_goals with_reducible rfl
    try simp only[Act.put,List.getElem_toArray,List.getElem_cons_zero,List.getElem_cons_succ,List.setIfInBounds_toArray,List.set_cons_zero,List.set_cons_succ]
    refine wpAnyH_ready (rs:=[18]) (by kernel_rfl) (by simp) ?_
    refine AllReadyH.cons rfl (fun K hK=>?_) AllReadyH.nil
    go_simp
    go_wp2_with (go_at_call 202;refine(HDF.out _ HI3.out.bel.drew).mono ?_;rintro e w4 ⟨rfl,hb4⟩;have HB4:Hid (Below w3.heap.size w3 w4):=(Below.refl w3.heap.size w3).drew.trans hb4;clear hb4)
    refine hK.out _ _ (HST.out _ HB4.out) (fun hHeld2=>?_)
    clear hK K hHeld
    try simp only[Act.put,List.getElem_toArray,List.getElem_cons_zero,List.getElem_cons_succ,List.setIfInBounds_toArray,List.set_cons_zero,List.set_cons_succ]
    by_cases q1:v.kind=KK
    ·have Q1:=hide q1
     by_cases q2:v.text=u
     ·have Q2:=hide q2
      by_cases q3:v.alt=0
      ·have Q3:=hide q3
       by_cases q4:v.kids=0
       ·have Q4:=hide q4
        have HWHY:Hid (LO E k x):=HLO.out.2 ⟨hx3,.inr ⟨hd,u,HU.out,by rw[HV.out,HKK.out,←Q1.out,←Q2.out];obtain⟨va,vb2,vc,vd⟩:=v;have h3:=Q3.out;have h4:=Q4.out;simp only at h3 h4;rw[h3,h4]⟩⟩
        refine wpAnyH_take (i:=19) (v:=?_) rfl (by kernel_rfl) (by kernel_rfl) (by kernel_rfl) (fun _ _ _ h=>h) (Or.inl ⟨by rfl,?_⟩) (by assumption) ?_
        rotate_left
        ·intro wz hSw;(try dsimp only at hSw);go_simp;all_goals with_reducible rfl
        try simp only[Act.put,List.getElem_toArray,List.getElem_cons_zero,List.getElem_cons_succ,List.setIfInBounds_toArray,List.set_cons_zero,List.set_cons_succ]
        refine wpAnyH_take (i:=20) (v:=?_) rfl (by kernel_rfl) (by kernel_rfl) (by kernel_rfl) (fun _ _ _ h=>h) (Or.inl ⟨by rfl,?_⟩) (by assumption) ?_
        rotate_left
        ·intro wz hSw;(try dsimp only at hSw);go_simp;all_goals with_reducible rfl
        try simp only[Act.put,List.getElem_toArray,List.getElem_cons_zero,List.getElem_cons_succ,List.setIfInBounds_toArray,List.set_cons_zero,List.set_cons_succ]
        refine wpAnyH_take (i:=21) (v:=?_) rfl (by kernel_rfl) (by kernel_rfl) (by kernel_rfl) (fun _ _ _ h=>h) (Or.inl ⟨by rfl,?_⟩) (by assumption) ?_
        rotate_left
        ·intro wz hSw;(try dsimp only at hSw);go_simp;all_goals with_reducible rfl
        try simp only[Act.put,List.getElem_toArray,List.getElem_cons_zero,List.getElem_cons_succ,List.setIfInBounds_toArray,List.set_cons_zero,List.set_cons_succ]
        refine wpAnyH_done (by kernel_rfl) ?_ _
        clear hHeld2 HST e0 e1 e2 e3 v0 v1 v2 v3
        have HI4:=hide (HI3.out.below HB4.out)
        have HW4:Hid (Below w.heap.size w w4):=HW3.out.trans (HB4.out.mono HW3.out.size)
        obtain⟨tv4,hown4,_⟩:=HI4.out.own
        unfold ewObj at hown4
        have n2:w4.cell? ⟨R,2,none⟩=some (.int .i64 (x:Int)):=by simp[World.cell?,hown4]
        have f2:w4.frozen? ⟨R,2,none⟩=false:=by simp[World.frozen?,hown4]
        have hR4:R<w4.heap.size:=lt_of_cell n2
        clear hown4
        go_wp2
        go_ret
        exact⟨(FrE.of_below HW4.out).trans (FrE.set 2 _),.inl ⟨HWHY.out,rfl,HI4.out.setNext (x+1)⟩⟩
       ·have q4b:(v.kids==0)=false:=by simpa using q4
        have Q4:=hide q4
        have HWHY:Hid (¬LO E k x):=HNO.out (fun z=>Q4.out (by rw[←HV.out,z]))
        refine wpAnyH_take (i:=19) (v:=?_) rfl (by kernel_rfl) (by kernel_rfl) (by kernel_rfl) (fun _ _ _ h=>h) (Or.inl ⟨by rfl,?_⟩) (by assumption) ?_
        rotate_left
        ·intro wz hSw;(try dsimp only at hSw);go_simp;all_goals with_reducible rfl
        try simp only[Act.put,List.getElem_toArray,List.getElem_cons_zero,List.getElem_cons_succ,List.setIfInBounds_toArray,List.set_cons_zero,List.set_cons_succ]
        refine wpAnyH_take (i:=20) (v:=?_) rfl (by kernel_rfl) (by kernel_rfl) (by kernel_rfl) (fun _ _ _ h=>h) (Or.inl ⟨by rfl,?_⟩) (by assumption) ?_
        rotate_left
        ·intro wz hSw;(try dsimp only at hSw);go_simp;all_goals with_reducible rfl
        try simp only[Act.put,List.getElem_toArray,List.getElem_cons_zero,List.getElem_cons_succ,List.setIfInBounds_toArray,List.set_cons_zero,List.set_cons_succ]
        refine wpAnyH_take (i:=21) (v:=?_) rfl (by kernel_rfl) (by kernel_rfl) (by kernel_rfl) (fun _ _ _ h=>h) (Or.inl ⟨by rfl,?_⟩) (by assumption) ?_
        rotate_left
        ·intro wz hSw;(try dsimp only at hSw);go_simp;all_goals with_reducible rfl
        try simp only[Act.put,List.getElem_toArray,List.getElem_cons_zero,List.getElem_cons_succ,List.setIfInBounds_toArray,List.set_cons_zero,List.set_cons_succ]
        refine wpAnyH_done (by kernel_rfl) ?_ _
        clear hHeld2 HST e0 e1 e2 e3 v0 v1 v2 v3
        have HI4:=hide (HI3.out.below HB4.out)
        have HW4:Hid (Below w.heap.size w w4):=HW3.out.trans (HB4.out.mono HW3.out.size)
        go_wp2
        go_ret
        exact⟨FrE.of_below HW4.out,.inr ⟨HWHY.out,rfl,HI4.out⟩⟩
      ·have q3b:(v.alt==0)=false:=by simpa using q3
       have Q3:=hide q3
       have HWHY:Hid (¬LO E k x):=HNO.out (fun z=>Q3.out (by rw[←HV.out,z]))
       refine wpAnyH_take (i:=19) (v:=?_) rfl (by kernel_rfl) (by kernel_rfl) (by kernel_rfl) (fun _ _ _ h=>h) (Or.inl ⟨by rfl,?_⟩) (by assumption) ?_
       rotate_left
       ·intro wz hSw;(try dsimp only at hSw);go_simp;all_goals with_reducible rfl
       try simp only[Act.put,List.getElem_toArray,List.getElem_cons_zero,List.getElem_cons_succ,List.setIfInBounds_toArray,List.set_cons_zero,List.set_cons_succ]
       refine wpAnyH_take (i:=20) (v:=?_) rfl (by kernel_rfl) (by kernel_rfl) (by kernel_rfl) (fun _ _ _ h=>h) (Or.inl ⟨by rfl,?_⟩) (by assumption) ?_
       rotate_left
       ·intro wz hSw;(try dsimp only at hSw);go_simp;all_goals with_reducible rfl
       try simp only[Act.put,List.getElem_toArray,List.getElem_cons_zero,List.getElem_cons_succ,List.setIfInBounds_toArray,List.set_cons_zero,List.set_cons_succ]
       refine wpAnyH_take (i:=21) (v:=?_) rfl (by kernel_rfl) (by kernel_rfl) (by kernel_rfl) (fun _ _ _ h=>h) (Or.inl ⟨by rfl,?_⟩) (by assumption) ?_
       rotate_left
       ·intro wz hSw;(try dsimp only at hSw);go_simp;all_goals with_reducible rfl
       try simp only[Act.put,List.getElem_toArray,List.getElem_cons_zero,List.getElem_cons_succ,List.setIfInBounds_toArray,List.set_cons_zero,List.set_cons_succ]
       refine wpAnyH_done (by kernel_rfl) ?_ _
       clear hHeld2 HST e0 e1 e2 e3 v0 v1 v2 v3
       have HI4:=hide (HI3.out.below HB4.out)
       have HW4:Hid (Below w.heap.size w w4):=HW3.out.trans (HB4.out.mono HW3.out.size)
       go_wp2
       go_ret
       exact⟨FrE.of_below HW4.out,.inr ⟨HWHY.out,rfl,HI4.out⟩⟩
     ·have q2b:(v.text.toList==u.toList)=false:=by rw[beq_eq_false_iff_ne];intro z;apply q2;apply ByteArray.ext;apply Array.toList_inj.1;rw[←Lib.toList_data,←Lib.toList_data];exact z
      have Q2:=hide q2
      have HWHY:Hid (¬LO E k x):=HNO.out (fun z=>Q2.out (by rw[←HV.out,z]))
      refine wpAnyH_take (i:=19) (v:=?_) rfl (by kernel_rfl) (by kernel_rfl) (by kernel_rfl) (fun _ _ _ h=>h) (Or.inl ⟨by rfl,?_⟩) (by assumption) ?_
      rotate_left
      ·intro wz hSw;(try dsimp only at hSw);go_simp;all_goals with_reducible rfl
      try simp only[Act.put,List.getElem_toArray,List.getElem_cons_zero,List.getElem_cons_succ,List.setIfInBounds_toArray,List.set_cons_zero,List.set_cons_succ]
      refine wpAnyH_take (i:=20) (v:=?_) rfl (by kernel_rfl) (by kernel_rfl) (by kernel_rfl) (fun _ _ _ h=>h) (Or.inl ⟨by rfl,?_⟩) (by assumption) ?_
      rotate_left
      ·intro wz hSw;(try dsimp only at hSw);go_simp;all_goals with_reducible rfl
      try simp only[Act.put,List.getElem_toArray,List.getElem_cons_zero,List.getElem_cons_succ,List.setIfInBounds_toArray,List.set_cons_zero,List.set_cons_succ]
      refine wpAnyH_take (i:=21) (v:=?_) rfl (by kernel_rfl) (by kernel_rfl) (by kernel_rfl) (fun _ _ _ h=>h) (Or.inl ⟨by rfl,?_⟩) (by assumption) ?_
      rotate_left
      ·intro wz hSw;(try dsimp only at hSw);go_simp;all_goals with_reducible rfl
      try simp only[Act.put,List.getElem_toArray,List.getElem_cons_zero,List.getElem_cons_succ,List.setIfInBounds_toArray,List.set_cons_zero,List.set_cons_succ]
      refine wpAnyH_done (by kernel_rfl) ?_ _
      clear hHeld2 HST e0 e1 e2 e3 v0 v1 v2 v3
      have HI4:=hide (HI3.out.below HB4.out)
      have HW4:Hid (Below w.heap.size w w4):=HW3.out.trans (HB4.out.mono HW3.out.size)
      go_wp2
      go_ret
      exact⟨FrE.of_below HW4.out,.inr ⟨HWHY.out,rfl,HI4.out⟩⟩
    ·have q1b:(v.kind==KK)=false:=by simpa using q1
     have Q1:=hide q1
     have HWHY:Hid (¬LO E k x):=HNO.out (fun z=>Q1.out (by rw[←HV.out,z]))
     refine wpAnyH_take (i:=19) (v:=?_) rfl (by kernel_rfl) (by kernel_rfl) (by kernel_rfl) (fun _ _ _ h=>h) (Or.inl ⟨by rfl,?_⟩) (by assumption) ?_
     rotate_left
     ·intro wz hSw;(try dsimp only at hSw);go_simp;all_goals with_reducible rfl
     try simp only[Act.put,List.getElem_toArray,List.getElem_cons_zero,List.getElem_cons_succ,List.setIfInBounds_toArray,List.set_cons_zero,List.set_cons_succ]
     refine wpAnyH_take (i:=20) (v:=?_) rfl (by kernel_rfl) (by kernel_rfl) (by kernel_rfl) (fun _ _ _ h=>h) (Or.inl ⟨by rfl,?_⟩) (by assumption) ?_
     rotate_left
     ·intro wz hSw;(try dsimp only at hSw);go_simp;all_goals with_reducible rfl
     try simp only[Act.put,List.getElem_toArray,List.getElem_cons_zero,List.getElem_cons_succ,List.setIfInBounds_toArray,List.set_cons_zero,List.set_cons_succ]
     refine wpAnyH_take (i:=21) (v:=?_) rfl (by kernel_rfl) (by kernel_rfl) (by kernel_rfl) (fun _ _ _ h=>h) (Or.inl ⟨by rfl,?_⟩) (by assumption) ?_
     rotate_left
     ·intro wz hSw;(try dsimp only at hSw);go_simp;all_goals with_reducible rfl
     try simp only[Act.put,List.getElem_toArray,List.getElem_cons_zero,List.getElem_cons_succ,List.setIfInBounds_toArray,List.set_cons_zero,List.set_cons_succ]
     refine wpAnyH_done (by kernel_rfl) ?_ _
     clear hHeld2 HST e0 e1 e2 e3 v0 v1 v2 v3
     have HI4:=hide (HI3.out.below HB4.out)
     have HW4:Hid (Below w.heap.size w w4):=HW3.out.trans (HB4.out.mono HW3.out.size)
     go_wp2
     go_ret
     exact⟨FrE.of_below HW4.out,.inr ⟨HWHY.out,rfl,HI4.out⟩⟩
 ·subst hx3
  have HNO:Hid (¬LO E k E.t.length):=fun q=>by have:=q.1;omega
  go_quiet (fail)
  have HI2:=hide (HI1.out.below (Go.below_drewN (Below.refl w1.heap.size w1) nq))
  have HB2:Hid (Below w.heap.size w (w1.drewN nq)):=Go.below_drewN HB1.out nq
  generalize w1.drewN nq=w2 at HI2 HB2 ⊢
  clear d1 d2 hR1
  go_wp2
  go_ret
  exact⟨FrE.of_below HB2.out,.inr ⟨HNO.out,rfl,HI2.out⟩⟩
def ESeqAt(E:WEnv)(W:World)(R:Nat)(a:Option Addr)(c:Nat)(ta:Option Addr)(tc f:Nat)(sn:Sn→Addr)(n:Nd)(dp:Int)(r:WOut)(x0:Nat)(t0:ByteArray)(l0:Bool)(o0:Option Int)(w0:World)(vk:Value)(wr:World):Prop:=
 ∃(k x:Nat) (out:ByteArray) (u:Bool) (t1:ByteArray) (l1:Bool) (o1:Option Int),k≤n.kids.length∧vk= .int .i64 k∧wseqF E (wrF E f) dp (n.kids.drop k) x out u=some r∧x0≤x∧x≤E.t.length∧Tld t0 l0 o0 out u t1 l1 o1∧EwD W wr R a E.s.length c ta E.t.length tc x t1 l1 (ovV sn o1)∧FrE R w0 wr
theorem eseq_any(E:WEnv)(W:World)(R:Nat)(a:Option Addr)(c:Nat)(ta:Option Addr)(tc f:Nat)(sn:Sn→Addr)(hc:EC E W a ta sn)(htc:E.t.length≤tc)(hN:NodeE E W R a c ta tc sn f)(hf1:1≤f)(i:Nat)(hi:i<E.s.length)(ka:Option Addr)(kc:Nat)(hka:KidsIn W ka (nd E.s i).kids)(hkc:(nd E.s i).kids.length≤kc)(hkm:kc≤maxLen)
 (x0:Nat)(dp:Int)(r:WOut)(t0:ByteArray)(l0:Bool)(o0:Option Int)(w:World)(e:wseqF E (wrF E f) dp (nd E.s i).kids x0 noB false=some r)(hx0:x0≤E.t.length)(hfx:E.t.length+1≤f+x0)(hd1:1≤dp)(hd2:dp≤12)(h4:t0.size≤4000)(hI:EwD W w R a E.s.length c ta E.t.length tc x0 t0 l0 (ovV sn o0)):
 Calls Tryz.prog 150 #[.pointer (some ⟨R,0,none⟩),.agg #[.int .i64 (nd E.s i).kind,.int .i64 (nd E.s i).tag,.int .i64 (nd E.s i).mode,.slice ka (nd E.s i).kids.length kc],.int .i64 dp] w fun e w'=>AfterE E W R a c ta tc sn r t0 l0 o0 w e w':=by
 have HC:=hide hc
 have HNN:=hide hN
 have HI:=hide hI
 have HKA:=hide hka
 have HE:=hide e
 have HTC:=hide htc
 have hk8:=count8 hc.wc.right.2.2.1 hi
 have hRl:R<w.heap.size:=by obtain⟨tv,h1,_⟩:=hI.own;exact row_lt h1
 have HHI:=hide hi
 obtain⟨n,hn⟩:∃n,nd E.s i=n:=⟨_,rfl⟩
 have HN:=hide hn
 rw[hn]at HKA hkc hk8 HE ⊢
 have hw0:EwD W (w.alloc (.cells #[.int .i64 n.kind,.int .i64 n.tag,.int .i64 n.mode,.slice ka n.kids.length kc] 58)) R a E.s.length c ta E.t.length tc x0 t0 l0 (ovV sn o0):=hI.below ((Below.refl _ _).alloc (Nat.le_refl _) _)
 have HW0:=hide hw0
 have hkm':kc≤9223372036854775807:=by unfold maxLen at hkm;omega
 clear hc hN hI hka e htc hi hn hw0 hkm
 go_enter Tryz.func150,Tryz.ntmps150
 go_wp2_with fail
 go_loopw [13] (fun vk wr=>ESeqAt E W R a c ta tc f sn n dp r x0 t0 l0 o0 w vk wr) (fun vk _=>n.kids.length-(intOf vk).toNat)
 case atStart=>exact⟨0,x0,noB,false,t0,l0,o0,Nat.zero_le _,rfl,HE.out,Nat.le_refl _,hx0,Tld.refl h4,HW0.out,FrE.of_below ((Below.refl _ _).alloc (Nat.le_refl _) _)⟩
 case round=>
  obtain⟨k,x,out,u,t1,l1,o1,hk,rfl,hE,hx1,hx2,hT,hEw,hFr⟩:=hrel
  have HEW:=hide hEw
  have HT:=hide hT
  have HFR:=hide hFr
  have HEE:=hide hE
  clear hEw hT hFr hE
  by_cases hlt:k<n.kids.length
  ·obtain⟨b,o,hkaE,kcl⟩:=HKA.out k hlt
   have hmem:n.kids.getD k kd0∈n.kids:=kd_mem (n:=n) hlt
   obtain⟨y,hy⟩:∃y,n.kids.getD k kd0=y:=⟨_,rfl⟩
   rw[hy]at kcl hmem
   have hdrop:n.kids.drop k=y::n.kids.drop (k+1):=by
    rw[List.drop_eq_getElem_cons hlt]
    congr 1
    rw[←hy,List.getD_eq_getElem?_getD,List.getElem?_eq_getElem hlt]
    rfl
   have hE':=HEE.out
   rw[hdrop]at hE'
   have hKK:=wseq_kid (dp:=dp) HC.out.wc.right HC.out.wc.ok HHI.out (by rw[HN.out];exact hmem) hf1 hE'
   have HKK:=hide hKK
   have hwn:=HC.out.wc.right.fine.within i HHI.out y (by rw[HN.out];exact hmem)
   obtain⟨t,ht⟩:∃t:Nat,y.node=t:=⟨y.node.toNat,by omega⟩
   have htn:y.node.toNat=t:=by omega
   have htl:t<E.s.length:=by omega
   have HNE:Hid (∀wq,EwD W wq R a E.s.length c ta E.t.length tc x t1 l1 (ovV sn o1)→∃r1,wrF E f t x (dp+1)=some r1∧Calls Tryz.prog 75 #[.pointer (some ⟨R,0,none⟩),.int .i64 t,.int .i64 (dp+1)] wq fun e w'=>AfterE E W R a c ta tc sn r1 t1 l1 o1 wq e w'):=fun wq q=>by
    obtain⟨r1,h1⟩:=wrF_some (E:=E) f t x (dp+1) (by omega) hf1
    exact⟨r1,h1,HNN.out t x (dp+1) r1 t1 l1 o1 wq h1 htl hx2 (by omega) hf1 (by omega) (by omega) HT.out.mx q⟩
   have HLO:Hid (∀wq,EwD W wq R a E.s.length c ta E.t.length tc x t1 l1 (ovV sn o1)→Calls Tryz.prog 183 #[.pointer (some ⟨R,0,none⟩),.agg #[.int .i64 t,.bool y.opt,.string y.dflt]] wq fun e w'=>AfterLO E W R a c ta tc y x t1 l1 (ovV sn o1) wq e w'):=fun wq q=>by
    have:=leftOut_any E W R a c ta tc sn HC.out HTC.out i HHI.out y (by rw[HN.out];exact hmem) x t1 l1 (ovV sn o1) wq hx2 q
    rw[ht]at this
    exact this
   obtain⟨kc0,kc1,kc2⟩:=kcl
   rw[ht]at kc0
   have hbW:=HEW.out.bel
   have m0:wr.cell? ⟨b,o+k*3,none⟩=some (.int .i64 t):=(hbW.cell (lt_of_cell kc0)).trans kc0
   have m1:wr.cell? ⟨b,o+k*3+1,none⟩=some (.bool y.opt):=(hbW.cell (lt_of_cell kc1)).trans kc1
   have m2:wr.cell? ⟨b,o+k*3+2,none⟩=some (.string y.dflt):=(hbW.cell (lt_of_cell kc2)).trans kc2
   have hlb:=lt_of_cell m0
   simp only at hlb
   have hlt':(k:Int)<(n.kids.length:Int):=by omega
   rw[hkaE]
   have HEB:Hid (∀A,EwD W (wr.alloc A) R a E.s.length c ta E.t.length tc x t1 l1 (ovV sn o1)):=fun A=>HEW.out.below ((Below.refl _ _).alloc (Nat.le_refl _) _)
   have HFB:Hid (∀A,FrE R w (wr.alloc A)):=fun A=>HFR.out.trans (FrE.of_below ((Below.refl _ _).alloc (Nat.le_refl _) _))
   have hgk:(wr.alloc (.cells #[.int .i64 t,.bool y.opt,.string y.dflt] 55)).heap[wr.heap.size]? =some (.cells #[.int .i64 t,.bool y.opt,.string y.dflt] 55 (0,0)):=heap_alloc_new wr _
   have HGK:=hide hgk
   have hneR:wr.heap.size≠R:=by obtain⟨tv,h1,_⟩:=HEW.out.own;have:=row_lt h1;omega
   clear kc0 kc1 kc2 hbW hmem hy hdrop hE' hKK hgk hlt
   go_wp2_with fail
   refine(HLO.out _ (HEB.out _)).mono ?_
   rintro e w2 ⟨hF2,⟨hlo,rfl,hE2⟩|⟨hlo,rfl,hE2⟩⟩
   ·have HE2:=hide hE2
    have HF2:Hid (FrE R w w2):=(HFB.out _).trans hF2
    have HX2:Hid (wseqF E (wrF E f) dp (n.kids.drop (k+1)) (x+1) out u=some r∧x+1≤E.t.length):=by
     rcases HKK.out with h|h
     ·exact⟨h.2,h.1.1⟩
     ·exact absurd hlo h.1
    clear hF2 hlo hE2 m0 m1 m2
    go_wp2
    go_roundw
    case rel=>exact⟨k+1,x+1,out,u,t1,l1,o1,by omega,by go_num,HX2.out.1,by omega,HX2.out.2,HT.out,HE2.out,HF2.out⟩
    case measure=>simp[intOf];omega
   ·have HF2:Hid (FrE R w w2):=(HFB.out _).trans hF2
    obtain⟨r1,hr1,hca⟩:=HNE.out w2 hE2
    have HR1:=hide hr1
    have HCA:=hide hca
    have HLN:=hide hlo
    have hg2:=hF2 _ _ _ hneR (by decide) HGK.out
    have g0:w2.cell? ⟨wr.heap.size,0,none⟩=some (.int .i64 t):=cell_of_row hg2 rfl
    have hl2:=lt_of_cell g0
    simp only at hl2
    have hwr:IntKind.i64.wrap (dp+1)=dp+1:=by rw[IntKind.wrap_i64];omega
    clear hF2 hlo hE2 m0 m1 m2 hr1 hca hg2
    go_wp2_with fail
    refine HCA.out.mono ?_
    rintro e w3 ⟨hF3,⟨b1,x',u',t2,l2,o2,hq,rfl,hT2,hE3⟩|⟨hq,p,x',t2,l2,ov,rfl,hE3⟩⟩
    ·have HE3:=hide hE3
     have HF3:Hid (FrE R w w3):=HF2.out.trans hF3
     have HT2:=hide hT2
     have HX3:Hid (wseqF E (wrF E f) dp (n.kids.drop (k+1)) x' (out++b1) (u||u')=some r∧x0≤x'∧x'≤E.t.length):=by
      have hadv:=wrF_adv f t x (dp+1) r1 HR1.out b1 x' u' hq
      rcases HKK.out with h|h
      ·exact absurd h.1 HLN.out
      ·rw[htn]at h
       rcases h.2 r1 HR1.out with h2|⟨b2,x2,u2,h2,h3⟩
       ·rw[h2.1]at hq;cases hq
       ·rw[hq]at h2
        injection h2 with h2
        injection h2 with e1 h2
        injection h2 with e2 e3
        subst e1 e2 e3
        exact⟨h3,by omega,hadv.2.1⟩
     clear hF3 hT2 hE3 g0 hl2 hq
     go_wp2
     go_roundw
     case rel=>exact⟨k+1,x',out++b1,u||u',t2,l2,o2,by omega,by go_num,HX3.out.1,HX3.out.2.1,HX3.out.2.2,HT.out.trans HT2.out,HE3.out,HF3.out⟩
     case measure=>simp[intOf];omega
    ·have HE3:=hide hE3
     have HF3:Hid (FrE R w w3):=HF2.out.trans hF3
     have HX3:Hid (r=none):=by
      rcases HKK.out with h|h
      ·exact absurd h.1 HLN.out
      ·rw[htn]at h
       rcases h.2 r1 HR1.out with h2|⟨b2,x2,u2,h2,h3⟩
       ·exact h2.2
       ·rw[hq]at h2;cases h2
     clear hF3 hE3 g0 hl2 hq
     unfold fault
     go_wp2
     go_ret
     exact⟨HF3.out,.inr ⟨HX3.out,p,x',t2,l2,ov,rfl,HE3.out⟩⟩
  ·obtain rfl:k=n.kids.length:=by omega
   have HX:Hid (r=some (out,x,u)):=by
    have h:=HEE.out
    rw[List.drop_length]at h
    unfold wseqF at h
    injection h with h
    exact h.symm
   go_wp2
   go_ret
   exact⟨HFR.out,.inl ⟨out,x,u,t1,l1,o1,HX.out,rfl,HT.out,HEW.out⟩⟩
end Go.Proofs.YtkkicodfpekbgaaGreatDoor
