/-
hallmarkkeep.card: what it answers (Mr with the marks' insides and the name; for Carried).
-/
import Derived.Test.YtkkicodfpekbgaaGreatDoorJa17
import Derived.Deep.DeepCutAuto
import Derived.Deep.DrawnRows
import Derived.Test.YtkkicodfpekbgaaGreatDoorJa3
namespace Go.Proofs.YtkkicodfpekbgaaGreatDoor
open Go.RowKit
set_option linter.unusedSimpArgs false
set_option linter.unusedVariables false
set_option maxRecDepth 100000
set_option maxHeartbeats 8000000
attribute [local go_sem ↓] Go.wp_at_zero Go.wp_at_succ
theorem hide1{p:Prop}(h:p):Hid p:=h
set_option maxHeartbeats 20000000 in
theorem card_any(N:Nat)(hN:8≤N)(w:World)(na ta:Option Addr)(nl nc tl tc:Nat)(hp:PlanIn w na ta nl tl)(hpN:PlanN N w ta tl):
 Calls Tryz.prog 29 #[.agg #[.slice na nl nc,.slice ta tl tc]] w fun e w'=>RetM N w e w':=by
 have HO:Hid (∀wq M (n:Int),0<n→n≤1000000→MkI w wq M na ta nl nc tl tc (.slice none 0 0) (.slice none 0 0)→Calls Tryz.prog 53 #[.pointer (some ⟨M,0,none⟩),.int .i64 n] wq fun e w'=>RetNo n (fun w'=>MkI w w' M na ta nl nc tl tc (.slice none 0 0) (.slice none 0 0)∧FrM M wq w') e w'):=fun wq M n h1 h2 q=>one_any w wq M na ta nl nc tl tc _ _ n h1 h2 q hp
 have HI:Hid (∀wq M,MkI w wq M na ta nl nc tl tc (.slice none 0 0) (.slice none 0 0)→Calls Tryz.prog 54 #[.pointer (some ⟨M,0,none⟩),.int .i64 2] wq fun e w'=>RetY (fun s=>IntOk s∧s.size≤20) (fun w'=>MkI w w' M na ta nl nc tl tc (.slice none 0 0) (.slice none 0 0)∧FrM M wq w') e w'):=fun wq M q=>content_int w wq M na ta nl nc tl tc _ _ q hp
 have HBI:Hid (∀wq M,MkI w wq M na ta nl nc tl tc (.slice none 0 0) (.slice none 0 0)→Calls Tryz.prog 54 #[.pointer (some ⟨M,0,none⟩),.int .i64 5] wq fun e w'=>RetY (fun s=>BitsOk s∧s.size≤20) (fun w'=>MkI w w' M na ta nl nc tl tc (.slice none 0 0) (.slice none 0 0)∧FrM M wq w') e w'):=fun wq M q=>content_bits w wq M na ta nl nc tl tc _ _ q hp
 have HU:Hid (∀wq M (j:Int),j=7∨j=8→MkI w wq M na ta nl nc tl tc (.slice none 0 0) (.slice none 0 0)→Calls Tryz.prog 54 #[.pointer (some ⟨M,0,none⟩),.int .i64 j] wq fun e w'=>RetY (fun s=>Utf8Ok s∧s.size≤76) (fun w'=>MkI w w' M na ta nl nc tl tc (.slice none 0 0) (.slice none 0 0)∧FrM M wq w') e w'):=fun wq M j hj q=>by
  rcases hj with rfl|rfl
  ·exact content_utf2 w wq M na ta nl nc tl tc _ _ q hp
  ·exact(content_pr2 w wq M na ta nl nc tl tc _ _ q hp).mono fun e w' ⟨s,he,ha,hw⟩=>⟨s,he,⟨pr_utf ha.1,ha.2⟩,hw⟩
 have HT:Hid (∀wq M,MkI w wq M na ta nl nc tl tc (.slice none 0 0) (.slice none 0 0)→Calls Tryz.prog 56 #[.pointer (some ⟨M,0,none⟩)] wq fun e w'=>RetX N (fun w'=>MkI w w' M na ta nl nc tl tc (.slice none 0 0) (.slice none 0 0)∧FrM M wq w') e w'):=fun wq M q=>text_le N w wq M na ta nl nc tl tc _ _ q hp hpN
 have HC:Hid (∀s (n:Nat) wq,s.size≤9223372036854775807→n≤1000000→Calls Tryz.prog 55 #[.string s,.int .i64 n] wq fun e w'=>RetC s n wq e w'):=fun s n wq q1 q2=>cut_ret s n wq q1 q2
 clear hp hpN
 go_enter Tryz.func29,Tryz.ntmps29
 go_wp2_with fail
 refine(HO.out _ _ 3 (by omega) (by omega) ⟨(((Below.refl _ _).alloc (Nat.le_refl _) _).alloc (by simp) _).alloc (by simp;omega) _,by omega,0,0,Nat.zero_le _,Nat.zero_le _,by simpa using heap_alloc_new ((w.alloc _).alloc _) _⟩).mono ?_
 rintro e w1 ⟨v,rfl,v0,v1,hI1,hF1⟩
 have HI1:Hid (MkI w w1 (w.heap.size+1+1) na ta nl nc tl tc (.slice none 0 0) (.slice none 0 0)):=hI1
 have HR1:Hid (w1.heap[w.heap.size+1]? =some (.cells cdZero 68 (0,0))):=by
  show _=_
  rw[hF1.2 _ (by omega) (by simp)]
  exact(Below.heap_alloc _ _ _ (by simp)).trans (by simpa using heap_alloc_new (w.alloc _) _)
 clear hI1 hF1
 go_wp2_with fail
 refine(HI.out _ _ HI1.out).mono ?_
 rintro e w2 ⟨s,rfl,⟨hs,hsz⟩,hI2,hF2⟩
 have HI2:Hid (MkI w w2 (w.heap.size+1+1) na ta nl nc tl tc (.slice none 0 0) (.slice none 0 0)):=hI2
 have HR2:Hid (w2.heap[w.heap.size+1]? =some (.cells cdZero 68 (0,0))):=by show _=_;rw[hF2.2 _ (by omega) (row_lt HR1.out)];exact HR1.out
 have HS:Hid (IntOk s):=hs
 clear hI2 hF2 hs
 go_wp2_with fail
 refine(HBI.out _ _ HI2.out).mono ?_
 rintro e w3 ⟨k,rfl,⟨hk,hkz⟩,hI3,hF3⟩
 have HI3:Hid (MkI w w3 (w.heap.size+1+1) na ta nl nc tl tc (.slice none 0 0) (.slice none 0 0)):=hI3
 have HR3:Hid (w3.heap[w.heap.size+1]? =some (.cells cdZero 68 (0,0))):=by show _=_;rw[hF3.2 _ (by omega) (row_lt HR2.out)];exact HR2.out
 have HK:Hid (BitsOk k):=hk
 clear hI3 hF3 hk
 have HCI0:Hid (CI w (w3.alloc (.cells (cdCells v s ⟨#[]⟩ k (.slice none 0 0)) 68)) (w.heap.size+1+1) w3.heap.size na ta nl nc tl tc v s ⟨#[]⟩ k (.slice none 0 0) []):=by
  have hb3:Below w3.heap.size w3 (w3.alloc (.cells (cdCells v s ⟨#[]⟩ k (.slice none 0 0)) 68)):=(Below.refl _ _).alloc (Nat.le_refl _) _
  have hM:=HI3.out.own
  obtain⟨_,_,_,_,hM⟩:=hM
  exact⟨HI3.out.below hb3,heap_alloc_new w3 _,World.ownsRow_nil _ _ _ _,block_below HR3.out hb3,by have:=row_lt hM;omega,by have:=row_lt hM;omega,by omega⟩
 go_wp2_with fail
 refine(HO.out _ _ 2 (by omega) (by omega) ((HCI0.out.below ((Below.refl _ _).alloc (Nat.le_refl _) _)).mak)).mono ?_
 rintro e w4 ⟨r,rfl,r0,r1,hI4,hF4⟩
 have HCI4:Hid (CI w w4 (w.heap.size+1+1) w3.heap.size na ta nl nc tl tc v s ⟨#[]⟩ k (.slice none 0 0) []):=(HCI0.out.below ((Below.refl _ _).alloc (Nat.le_refl _) _)).frm hI4 hF4
 obtain⟨q,rfl⟩:=Int.eq_ofNat_of_zero_le r0
 have hrow:w4.heap[w3.heap.size+1]? =some (.cells #[.int .i64 7,.int .i64 8] 3 (0,0)):=by
  have hlm:=HCI0.out.lo
  obtain⟨_,_,_,_,hM⟩:=HI3.out.own
  have hml:=row_lt hM
  rw[hF4.2 _ (by omega) (by simp)]
  simpa using heap_alloc_new (w3.alloc (.cells (cdCells v s ⟨#[]⟩ k (.slice none 0 0)) 68)) (.cells #[.int .i64 7,.int .i64 8] 3)
 obtain⟨j,hj,hcell⟩:∃j:Int,(j=7∨j=8)∧w4.cell? ⟨w3.heap.size+1,q,none⟩=some (.int .i64 j):=by
  have hq:q=0∨q=1:=by omega
  rcases hq with rfl|rfl
  ·exact⟨7,.inl rfl,by simp[World.cell?,hrow]⟩
  ·exact⟨8,.inr rfl,by simp[World.cell?,hrow]⟩
 clear hrow hI4 hF4 HCI0
 have r1':(q:Int)<2:=r1
 have hq1:w3.heap.size+1<w4.heap.size:=lt_of_cell hcell
 go_wp2_with fail
 refine(HU.out _ _ j hj HCI4.out.mak).mono ?_
 rintro e w5 ⟨n,rfl,⟨hu,hn⟩,hI5,hF5⟩
 have HU8:Hid (Utf8Ok n):=hu
 clear hu
 have HCI5:Hid (CI w w5 (w.heap.size+1+1) w3.heap.size na ta nl nc tl tc v s ⟨#[]⟩ k (.slice none 0 0) []):=HCI4.out.frm hI5 hF5
 clear hI5 hF5 hcell hj r0 r1 r1' hq1
 have c2:w5.cell? ⟨w3.heap.size,2,none⟩=some (.string ⟨#[]⟩):=by simp[World.cell?,HCI5.out.box]
 have f2:w5.frozen? ⟨w3.heap.size,2,none⟩=false:=by simp[World.frozen?,HCI5.out.box]
 have hC5:w3.heap.size<w5.heap.size:=lt_of_cell c2
 go_upto_region 4 with fail
 have HCI6:Hid (CI w (w5.setCell ⟨w3.heap.size,2,none⟩ (.string n)) (w.heap.size+1+1) w3.heap.size na ta nl nc tl tc v s n k (.slice none 0 0) []):=HCI5.out.set n
 generalize hw6:w5.setCell ⟨w3.heap.size,2,none⟩ (.string n)=w6 at HCI6 ⊢
 clear hw6 c2 f2 hC5
 have c2:w6.cell? ⟨w3.heap.size,2,none⟩=some (.string n):=by simp[World.cell?,HCI6.out.box]
 have f2:w6.frozen? ⟨w3.heap.size,2,none⟩=false:=by simp[World.frozen?,HCI6.out.box]
 have hC6:w3.heap.size<w6.heap.size:=lt_of_cell c2
 go_cut [] (fun wx=>∃n':ByteArray,n'=nameB n∧CI w wx (w.heap.size+1+1) w3.heap.size na ta nl nc tl tc v s n' k (.slice none 0 0) [])
 case first=>
  go_region_with (first|(go_at_call_of 55 (Value.int IntKind.i64 0);refine(HC.out n 0 _ (by omega) (by omega)).mono ?_;rintro e w7 ⟨n1,rfl,hn1,HN1,rfl⟩)|(go_at_call_of 55 (Value.int IntKind.i64 60);refine(HC.out n 60 _ (by omega) (by omega)).mono ?_;rintro e w7 ⟨n2,rfl,hn2,HN2,rfl⟩))
  all_goals
   go_wp2_with fail
   go_meet
   exact⟨_,by rw[HN1.out,HN2.out];rfl,(HCI6.out.set _).below ((Below.refl _ _).drew)⟩
 case rest=>
  obtain⟨n',hn',hCI7⟩:=hcut
  have HN':Hid (n'=nameB n):=hn'
  clear hn'
  have HCI7:Hid (CI w wc (w.heap.size+1+1) w3.heap.size na ta nl nc tl tc v s n' k (.slice none 0 0) []):=hCI7
  clear hCI7 c2 f2 hC6 HCI6 HCI5 HCI4 HU HI HBI
  have c0:wc.cell? ⟨w3.heap.size,0,none⟩=some (.int .i64 v):=by simp[World.cell?,HCI7.out.box]
  have hC7:w3.heap.size<wc.heap.size:=lt_of_cell c0
  obtain⟨i0,hi0,hz0,hz1,hz2⟩:=info_parts Tryz.infoMark
  have RUNT:Hid (∀args w,(callFunc 56 args).run Tryz.prog w= .ok (.enter 56 args) w):=fun args w=>run_enter Tryz.func56 (by kernel_rfl) (by rfl) args w
  have RUNO:Hid (∀args w,(callFunc 53 args).run Tryz.prog w= .ok (.enter 53 args) w):=fun args w=>run_enter Tryz.func53 (by kernel_rfl) (by rfl) args w
  go_upto_if 36 with fail
  go_cut [5,6] (fun _ _ wx=>∃mv ms,(K2 N ms∧(v≠2→ms=[]))∧CI w wx (w.heap.size+1+1) w3.heap.size na ta nl nc tl tc v s n' k mv ms)
  case first=>
   by_cases hv:v=2
   ·have hv':(v==2)=true:=by simp[hv]
    have HV2:Hid (v=2):=hv
    clear hv
    go_wp2_with fail
    refine(HO.out _ _ 5 (by omega) (by omega) HCI7.out.mak).mono ?_
    rintro e w8 ⟨c,rfl,d0,d1,hI8,hF8⟩
    have HCI8:Hid (CI w w8 (w.heap.size+1+1) w3.heap.size na ta nl nc tl tc v s n' k (.slice none 0 0) []):=HCI7.out.frm hI8 hF8
    obtain⟨c,rfl⟩:=Int.eq_ofNat_of_zero_le d0
    clear hI8 hF8 c0 hC7 d0
    go_wp2
    go_loopw [6] (fun vi wr=>∃(j:Nat) (mv:Value) (ms:List Mks),vi= .int .i64 j∧j≤c∧(ms.length=j∧K0 N ms)∧CI w wr (w.heap.size+1+1) w3.heap.size na ta nl nc tl tc v s n' k mv ms) (fun vi _=>c-(intOf vi).toNat)
    case atStart=>exact⟨0,_,[],rfl,Nat.zero_le _,⟨rfl,K0.nil N⟩,HCI8.out⟩
    case round=>
     obtain⟨j,mv,ms,rfl,hj,⟨hms,hk0⟩,hCI⟩:=hrel
     have HK0:Hid (K0 N ms):=hk0
     clear hk0
     have HMS:Hid (ms.length=j):=hms
     have hml:ms.length≤4:=by omega
     clear hms
     have HC:Hid (CI w wr (w.heap.size+1+1) w3.heap.size na ta nl nc tl tc v s n' k mv ms):=hCI
     clear hCI
     have c6:wr.cell? ⟨w3.heap.size,6,none⟩=some mv:=HC.out.c6
     have f6:wr.frozen? ⟨w3.heap.size,6,none⟩=false:=by simp[World.frozen?,HC.out.box]
     have hCw:w3.heap.size<wr.heap.size:=lt_of_cell c6
     have hWw:w.heap.size≤wr.heap.size:=by have:=HC.out.lo;omega
     have hMw:w.heap.size+1+1<wr.heap.size:=by
      obtain⟨_,_,_,_,hM⟩:=HC.out.mak.own
      exact row_lt hM
     by_cases hlt:j<c
     ·have hlt':(j:Int)<c:=by omega
      have hcv:=conv_at (j:Int) (by omega) (by omega)
      have hwr:IntKind.u8.wrap (j:Int)=j:=by(have q:j<5:=by omega);simp[IntKind.wrap,IntKind.bits,IntKind.signed];omega
      have bB:Hid (Below wr.heap.size wr wr.drew):=(Below.refl _ _).drew
      have bA:Hid (Below wr.heap.size wr (wr.alloc (.cells #[.int .u8 j] 5)).drew):=((Below.refl _ _).alloc (Nat.le_refl _) _).drew
      have hcvd:=conv_cell (j:Int) (by omega) (by omega) (wr.alloc (.cells #[.int .u8 j] 5)).drew wr.heap.size (by simp)
      have HTG:Hid (∀wq,Below wr.heap.size wr wq→Calls Tryz.prog 56 #[.pointer (some ⟨w.heap.size+1+1,0,none⟩)] wq fun e w9=>∃b:ByteArray,e= .returned (.string b)∧Hid (b.size≤N)∧CI w w9 (w.heap.size+1+1) w3.heap.size na ta nl nc tl tc v s n' k mv ms∧FrM (w.heap.size+1+1) wq w9):=fun wq q=>(HT.out wq _ (HC.out.below q).mak).mono fun e w9 ⟨b,he,hbN,hI,hF⟩=>⟨b,he,hbN,(HC.out.below q).frm hI hF,hF⟩
      go_upto_region 10 with fail
      go_region_law (first
       |(refine step_callsW (by simp[Region.wanted]) 56 _ _ rfl #[.pointer (some ⟨w.heap.size+1+1,0,none⟩)] (by simp[Act.eval,Act.put]) _ (RUNT.out _ _) (HTG.out _ (by first|exact bB.out|exact bA.out)) ?_;rintro e w9 ⟨b,rfl,HBN,hI9,hF9⟩;refine⟨_,rfl,?_⟩;have HC9:=hide1 hI9;have c69:=HC9.out.c6;have hl9:w3.heap.size<w9.heap.size:=lt_of_cell c69;(try have hcv9:=conv_cell (j:Int) (by omega) (by omega) w9 wr.heap.size ((cells_of ((hF9.2 wr.heap.size (by omega) (by simp;done)).trans (heap_alloc_new wr _)) 0).trans rfl));clear hI9 hF9)
       |(refine step_append_lies _ rfl (.tmp 45) (.tmp 54) 66 rfl w.heap.size 73 i0 Tryz.zeroMark 3 40 Tryz.underlying66 hi0 hz0 hz1 hz2 rfl (by decide) mv ms.length (mcells ms) (by simp[Act.eval,Act.put]) (HC9.out.own.alloc _) ⟨w9.heap.size,0,none⟩ 1 1 [.string (⟨#[42]⟩++⟨#[UInt8.ofNat j]⟩),.bool false,.string b] (by simp[Act.eval,Act.put]) rfl (World.news_of_block (heap_alloc_new w9 _)) (by intro u hu;simp at hu;rcases hu with rfl|rfl|rfl<;>rfl) (by decide) (by unfold maxLen;omega) (by omega) (by have:=HC9.out.mak.bel.size;simp;omega) (w9.heap.size+1) (by simp) ?_;intro g6 cap6 w6 h61 h62 h63 h64;obtain⟨hC6,t6,y6⟩:=(HC9.out.below ((Below.refl _ _).alloc (Nat.le_refl _) _)).put ⟨⟨#[42]⟩++⟨#[UInt8.ofNat j]⟩,false,b⟩ h61 h62;have HC6:=hide1 hC6;clear h61 h62 h63 h64 hC6)
       |(refine step_append_lies _ rfl (.tmp 45) (.tmp 54) 66 rfl w.heap.size 73 i0 Tryz.zeroMark 3 40 Tryz.underlying66 hi0 hz0 hz1 hz2 rfl (by decide) mv ms.length (mcells ms) (by simp[Act.eval,Act.put]) ((HC9.out.own.alloc _).alloc _) ⟨w9.heap.size+1,0,none⟩ 1 1 [.string (⟨#[42]⟩++⟨#[UInt8.ofNat j]⟩),.bool false,.string b] (by simp[Act.eval,Act.put]) rfl (World.news_of_block (by simpa using heap_alloc_new (w9.alloc (.cells #[.int .u8 j] 5)) _)) (by intro u hu;simp at hu;rcases hu with rfl|rfl|rfl<;>rfl) (by decide) (by unfold maxLen;omega) (by omega) (by have:=HC9.out.mak.bel.size;simp;omega) (w9.heap.size+1+1) (by simp) ?_;intro g6 cap6 w6 h61 h62 h63 h64;obtain⟨hC6,t6,y6⟩:=(HC9.out.below (((Below.refl _ _).alloc (Nat.le_refl _) _).alloc (by simp) _)).put ⟨⟨#[42]⟩++⟨#[UInt8.ofNat j]⟩,false,b⟩ h61 h62;have HC6:=hide1 hC6;clear h61 h62 h63 h64 hC6))
      all_goals
       clear hcvd hcv c6 f6 hCw hMw hWw bB bA c69 hl9
       go_simp
       go_wp2
       go_roundw
       case rel=>exact⟨j+1,_,_,by go_num,by omega,⟨by simp[HMS.out],HK0.out.put HMS.out (by omega) HBN.out⟩,HC6.out⟩
       case measure=>simp[intOf];omega
     ·have hlt':¬(j:Int)<c:=by omega
      have HOG:Hid (∀wq mv ms,CI w wq (w.heap.size+1+1) w3.heap.size na ta nl nc tl tc v s n' k mv ms→∀n:Int,0<n→n≤1000000→Calls Tryz.prog 53 #[.pointer (some ⟨w.heap.size+1+1,0,none⟩),.int .i64 n] wq fun e w9=>∃r:Nat,e= .returned (.int .i64 r)∧(r:Int)<n∧CI w w9 (w.heap.size+1+1) w3.heap.size na ta nl nc tl tc v s n' k mv ms∧FrM (w.heap.size+1+1) wq w9):=fun wq mv ms q n h1 h2=>(HO.out wq _ n h1 h2 q.mak).mono fun e w9 ⟨r,he,r0,r1,hI,hF⟩=>by
       obtain⟨r',rfl⟩:=Int.eq_ofNat_of_zero_le r0
       exact⟨r',he,r1,q.frm hI hF,hF⟩
      have HML:Hid (ms.length≤4):=hml
      clear hml HMS hlt hj c6 f6 hCw hWw hMw
      go_wp2_with fail
      refine(HOG.out _ _ _ HC.out 2 (by omega) (by omega)).mono ?_
      rintro e wa ⟨ra,rfl,hra,hCa,hFa⟩
      have HCa:=hide1 hCa
      clear hCa hFa
      have c6:wa.cell? ⟨w3.heap.size,6,none⟩=some mv:=HCa.out.c6
      have f6:wa.frozen? ⟨w3.heap.size,6,none⟩=false:=by simp[World.frozen?,HCa.out.box]
      have hCw:w3.heap.size<wa.heap.size:=lt_of_cell c6
      go_upto_if 59 with fail
      go_cut [] (fun wx=>∃(mv':Value) (ms':List Mks),K1 N ms'∧CI w wx (w.heap.size+1+1) w3.heap.size na ta nl nc tl tc v s n' k mv' ms')
      case first=>
       have hml:ms.length≤4:=HML.out
       by_cases hra1:ra=1
       ·have hra2:((ra:Int)==1)=true:=by rw[hra1];rfl
        clear hra hra1
        have HCd:Hid (CI w wa.drew (w.heap.size+1+1) w3.heap.size na ta nl nc tl tc v s n' k mv ms):=HCa.out.below ((Below.refl _ _).drew)
        go_upto_region 12 with fail
        go_region_law (first
         |(refine step_callsW (by simp[Region.wanted]) 53 _ _ rfl #[.pointer (some ⟨w.heap.size+1+1,0,none⟩),.int .i64 2] (by simp[Act.eval,Act.put]) _ (RUNO.out _ _) (HOG.out _ _ _ HCd.out 2 (by omega) (by omega)) ?_;rintro e w9 ⟨q,rfl,hq,hI9,hF9⟩;refine⟨_,rfl,?_⟩;have HC9:=hide1 hI9;have c69:=HC9.out.c6;have hl9:w3.heap.size<w9.heap.size:=lt_of_cell c69;clear hI9 hF9)
         |(refine step_append_lies _ rfl (.tmp 61) (.tmp 66) 66 rfl w.heap.size 73 i0 Tryz.zeroMark 3 40 Tryz.underlying66 hi0 hz0 hz1 hz2 rfl (by decide) mv ms.length (mcells ms) (by simp[Act.eval,Act.put]) (HC9.out.own.alloc _) ⟨w9.heap.size,0,none⟩ 1 1 [.string ⟨#[85,29,15]⟩,.bool ((q:Int)==1),.string ⟨#[3,2,1,6]⟩] (by simp[Act.eval,Act.put]) rfl (World.news_of_block (heap_alloc_new w9 _)) (by intro u hu;simp at hu;rcases hu with rfl|rfl|rfl<;>rfl) (by decide) (by unfold maxLen;omega) (by omega) (by have:=HC9.out.mak.bel.size;simp;omega) (w9.heap.size+1) (by simp) ?_;intro g6 cap6 w6 h61 h62 h63 h64;obtain⟨hC6,t6,y6⟩:=(HC9.out.below ((Below.refl _ _).alloc (Nat.le_refl _) _)).put ⟨⟨#[85,29,15]⟩,((q:Int)==1),⟨#[3,2,1,6]⟩⟩ h61 h62;have HC6:=hide1 hC6;clear h61 h62 h63 h64 hC6))
        all_goals
         go_simp
         go_wp2_with fail
         go_meet
         exact⟨_,_,HK0.out.use (by omega) _,HC6.out⟩
       ·have hra2:((ra:Int)==1)=false:=by simp;omega
        go_wp2_with fail
        go_meet
        exact⟨mv,ms,HK0.out.one,HCa.out⟩
      case rest=>
       obtain⟨mv2,ms2,hk1,hC2⟩:=hcut
       have HC2:=hide1 hC2
       have HK1:Hid (K1 N ms2):=hk1
       have HM2:Hid (ms2.length≤5):=hk1.le
       clear hC2 hk1 c6 f6 hCw hra HCa
       go_wp2_with fail
       refine(HOG.out _ _ _ HC2.out 2 (by omega) (by omega)).mono ?_
       rintro e wb ⟨rb,rfl,hrb,hCb,hFb⟩
       have HCb:=hide1 hCb
       clear hCb hFb
       have c6:wb.cell? ⟨w3.heap.size,6,none⟩=some mv2:=HCb.out.c6
       have f6:wb.frozen? ⟨w3.heap.size,6,none⟩=false:=by simp[World.frozen?,HCb.out.box]
       have hCw:w3.heap.size<wb.heap.size:=lt_of_cell c6
       have hWw:w.heap.size≤wb.heap.size:=by have:=HCb.out.lo;omega
       have hMw:w.heap.size+1+1<wb.heap.size:=by
        obtain⟨_,_,_,_,hM⟩:=HCb.out.mak.own
        exact row_lt hM
       by_cases hrb1:rb=1
       ·have hrb2:((rb:Int)==1)=true:=by rw[hrb1];rfl
        clear hrb hrb1
        have hml:ms2.length≤5:=HM2.out
        have HOW:Hid (∀wq,Below wb.heap.size wb wq→Calls Tryz.prog 53 #[.pointer (some ⟨w.heap.size+1+1,0,none⟩),.int .i64 2] wq fun e w9=>∃r:Nat,e= .returned (.int .i64 r)∧(r:Int)<2∧CI w w9 (w.heap.size+1+1) w3.heap.size na ta nl nc tl tc v s n' k mv2 ms2∧FrM (w.heap.size+1+1) wq w9):=fun wq q=>HOG.out wq _ _ (HCb.out.below q) 2 (by omega) (by omega)
        have HOX:Hid (∀w9 wq,CI w w9 (w.heap.size+1+1) w3.heap.size na ta nl nc tl tc v s n' k mv2 ms2→Below w9.heap.size w9 wq→Calls Tryz.prog 53 #[.pointer (some ⟨w.heap.size+1+1,0,none⟩),.int .i64 3] wq fun e w10=>∃(q:Nat) (x:ByteArray),e= .returned (.int .i64 q)∧(q:Int)<3∧(#[.string ⟨#[48,0]⟩,.string ⟨#[48,3,1,1,255]⟩,.string ⟨#[48,6,1,1,255,2,1,3]⟩]:Array Value)[q]? =some (.string x)∧Hid (LimOk x∧x.size≤8)∧CI w w10 (w.heap.size+1+1) w3.heap.size na ta nl nc tl tc v s n' k mv2 ms2∧FrM (w.heap.size+1+1) wq w10):=fun w9 wq q9 q=>(HOG.out wq _ _ (q9.below q) 3 (by omega) (by omega)).mono fun e w10 ⟨r,he,hr,hI,hF⟩=>by
         have h3:r=0∨r=1∨r=2:=by omega
         rcases h3 with rfl|rfl|rfl
         ·exact⟨0,_,he,by omega,rfl,⟨lim_one,by decide⟩,hI,hF⟩
         ·exact⟨1,_,he,by omega,rfl,⟨lim_yes,by decide⟩,hI,hF⟩
         ·exact⟨2,_,he,by omega,rfl,⟨lim_three,by decide⟩,hI,hF⟩
        have bB:Hid (Below wb.heap.size wb wb.drew):=(Below.refl _ _).drew
        have bA:Hid (Below wb.heap.size wb (wb.alloc (.cells #[.string ⟨#[48,0]⟩,.string ⟨#[48,3,1,1,255]⟩,.string ⟨#[48,6,1,1,255,2,1,3]⟩] 9)).drew):=((Below.refl _ _).alloc (Nat.le_refl _) _).drew
        go_upto_region 14 with fail
        go_region_law (first
         |(refine step_callsW (by simp[Region.wanted]) 53 _ _ rfl #[.pointer (some ⟨w.heap.size+1+1,0,none⟩),.int .i64 2] (by simp[Act.eval,Act.put]) _ (RUNO.out _ _) (HOW.out _ (by first|exact bB.out|exact bA.out)) ?_;rintro e w9 ⟨r9,rfl,hr9,hI9,hF9⟩;refine⟨_,rfl,?_⟩;have HC9:=hide1 hI9;have c69:=HC9.out.c6;have hl9:w3.heap.size<w9.heap.size:=lt_of_cell c69;have hm9:w.heap.size+1+1<w9.heap.size:=Nat.lt_of_lt_of_le hMw (Nat.le_trans (by first|exact bB.out.size|exact bA.out.size) hF9.1);(try have hw9:=(hF9.2 wb.heap.size (by omega) (by simp;done)).trans (heap_alloc_new wb _));clear hI9 hF9)
         |(refine step_callsW (by simp[Region.wanted]) 53 _ _ rfl #[.pointer (some ⟨w.heap.size+1+1,0,none⟩),.int .i64 3] (by simp[Act.eval,Act.put]) _ (RUNO.out _ _) (HOX.out w9 _ HC9.out (by first|exact Below.refl _ _|exact(Below.refl _ _).alloc (Nat.le_refl _) _)) ?_;rintro e w10 ⟨q,x,rfl,hq,hx,HLX,hI10,hF10⟩;refine⟨_,rfl,?_⟩;have HC10:=hide1 hI10;have c610:=HC10.out.c6;have hl10:w3.heap.size<w10.heap.size:=lt_of_cell c610;(try have e10:=(cells_of ((hF10.2 wb.heap.size (by omega) (row_lt hw9)).trans hw9) q).trans hx);(try have hz10:=row_lt ((hF10.2 wb.heap.size (by omega) (row_lt hw9)).trans hw9));(try have e10:=(cells_of ((hF10.2 w9.heap.size (by omega) (by simp;done)).trans (heap_alloc_new w9 _)) q).trans hx);(try have hz10:=row_lt ((hF10.2 w9.heap.size (by omega) (by simp;done)).trans (heap_alloc_new w9 _)));clear hI10 hF10)
         |(refine step_append_lies _ rfl (.tmp 73) (.tmp 83) 66 rfl w.heap.size 73 i0 Tryz.zeroMark 3 40 Tryz.underlying66 hi0 hz0 hz1 hz2 rfl (by decide) mv2 ms2.length (mcells ms2) (by simp[Act.eval,Act.put]) (HC10.out.own.alloc _) ⟨w10.heap.size,0,none⟩ 1 1 [.string ⟨#[85,29,19]⟩,.bool ((r9:Int)==1),.string x] (by simp[Act.eval,Act.put]) rfl (World.news_of_block (heap_alloc_new w10 _)) (by intro u hu;simp at hu;rcases hu with rfl|rfl|rfl<;>rfl) (by decide) (by unfold maxLen;omega) (by omega) (by have:=HC10.out.mak.bel.size;simp;omega) (w10.heap.size+1) (by simp) ?_;intro g6 cap6 w6 h61 h62 h63 h64;obtain⟨hC6,t6,y6⟩:=(HC10.out.below ((Below.refl _ _).alloc (Nat.le_refl _) _)).put ⟨⟨#[85,29,19]⟩,((r9:Int)==1),x⟩ h61 h62;have HC6:=hide1 hC6;clear h61 h62 h63 h64 hC6)
         |(refine step_append_lies _ rfl (.tmp 73) (.tmp 83) 66 rfl w.heap.size 73 i0 Tryz.zeroMark 3 40 Tryz.underlying66 hi0 hz0 hz1 hz2 rfl (by decide) mv2 ms2.length (mcells ms2) (by simp[Act.eval,Act.put]) ((HC10.out.own.alloc _).alloc _) ⟨w10.heap.size+1,0,none⟩ 1 1 [.string ⟨#[85,29,19]⟩,.bool ((r9:Int)==1),.string x] (by simp[Act.eval,Act.put]) rfl (World.news_of_block (by simpa using heap_alloc_new (w10.alloc (.cells #[.string ⟨#[48,0]⟩,.string ⟨#[48,3,1,1,255]⟩,.string ⟨#[48,6,1,1,255,2,1,3]⟩] 9)) _)) (by intro u hu;simp at hu;rcases hu with rfl|rfl|rfl<;>rfl) (by decide) (by unfold maxLen;omega) (by omega) (by have:=HC10.out.mak.bel.size;simp;omega) (w10.heap.size+1+1) (by simp) ?_;intro g6 cap6 w6 h61 h62 h63 h64;obtain⟨hC6,t6,y6⟩:=(HC10.out.below (((Below.refl _ _).alloc (Nat.le_refl _) _).alloc (by simp) _)).put ⟨⟨#[85,29,19]⟩,((r9:Int)==1),x⟩ h61 h62;have HC6:=hide1 hC6;clear h61 h62 h63 h64 hC6))
        all_goals
         go_simp
         go_wp2_with fail
         go_meet
         exact⟨_,_,⟨HK1.out.lim hN _ HLX.out.1 HLX.out.2,fun q=>absurd HV2.out q⟩,HC6.out⟩
       ·have hrb2:((rb:Int)==1)=false:=by simp;omega
        go_wp2_with fail
        go_meet
        exact⟨mv2,ms2,⟨HK1.out.two,fun q=>absurd HV2.out q⟩,HCb.out⟩
   ·have hv':(v==2)=false:=by simp[hv]
    clear hv
    go_wp2_with fail
    go_meet
    exact⟨_,_,⟨(K0.nil N).one.two,fun _=>rfl⟩,HCI7.out⟩
  case rest=>
   obtain⟨mv,ms,⟨hk2,hve⟩,hC⟩:=hcut
   have HK2:Hid (K2 N ms∧(v≠2→ms=[])):=⟨hk2,hve⟩
   clear hk2 hve
   have HC8:=hide1 hC
   clear hC c0 hC7
   obtain⟨ma,mc,hmv⟩:∃(ma:Option Addr) (mc:Nat),mv= .slice ma ms.length mc:=by
    rcases HC8.out.own.2 with⟨q,q'⟩|⟨g,cap,cur,q,_⟩
    ·exact⟨none,0,by rw[q,q']⟩
    ·exact⟨_,_,q⟩
   subst hmv
   have B:=HC8.out.box
   have R:=HC8.out.res
   have hl8:w3.heap.size<wc.heap.size:=row_lt B
   have hr8:w.heap.size+1<wc.heap.size:=row_lt R
   have b0:wc.cell? ⟨w3.heap.size,0,none⟩=some (.int .i64 v):=(cells_of B 0).trans rfl
   have b1:wc.cell? ⟨w3.heap.size,1,none⟩=some (.string s):=(cells_of B 1).trans rfl
   have b2:wc.cell? ⟨w3.heap.size,2,none⟩=some (.string n'):=(cells_of B 2).trans rfl
   have b3:wc.cell? ⟨w3.heap.size,3,none⟩=some (.string tFrom):=(cells_of B 3).trans rfl
   have b4:wc.cell? ⟨w3.heap.size,4,none⟩=some (.string tTill):=(cells_of B 4).trans rfl
   have b5:wc.cell? ⟨w3.heap.size,5,none⟩=some (.string k):=(cells_of B 5).trans rfl
   have b6:wc.cell? ⟨w3.heap.size,6,none⟩=some (.slice ma ms.length mc):=(cells_of B 6).trans rfl
   have R0:=hide1 R
   have H8:=hide1 HC8.out.mak.bel
   have OW:=hide1 HC8.out.own
   clear B R
   have z0:wc.cell? ⟨w.heap.size+1,0,none⟩=some (.int .i64 0):=(cells_of R0.out 0).trans rfl
   have z1:wc.cell? ⟨w.heap.size+1,1,none⟩=some (.string ⟨#[]⟩):=(cells_of R0.out 1).trans rfl
   have z2:wc.cell? ⟨w.heap.size+1,2,none⟩=some (.string ⟨#[]⟩):=(cells_of R0.out 2).trans rfl
   have z3:wc.cell? ⟨w.heap.size+1,3,none⟩=some (.string ⟨#[]⟩):=(cells_of R0.out 3).trans rfl
   have z4:wc.cell? ⟨w.heap.size+1,4,none⟩=some (.string ⟨#[]⟩):=(cells_of R0.out 4).trans rfl
   have z5:wc.cell? ⟨w.heap.size+1,5,none⟩=some (.string ⟨#[]⟩):=(cells_of R0.out 5).trans rfl
   have z6:wc.cell? ⟨w.heap.size+1,6,none⟩=some (.slice none 0 0):=(cells_of R0.out 6).trans rfl
   have y0:wc.frozen? ⟨w.heap.size+1,0,none⟩=false:=frozen_of R0.out 0
   have y1:wc.frozen? ⟨w.heap.size+1,1,none⟩=false:=frozen_of R0.out 1
   have y2:wc.frozen? ⟨w.heap.size+1,2,none⟩=false:=frozen_of R0.out 2
   have y3:wc.frozen? ⟨w.heap.size+1,3,none⟩=false:=frozen_of R0.out 3
   have y4:wc.frozen? ⟨w.heap.size+1,4,none⟩=false:=frozen_of R0.out 4
   have y5:wc.frozen? ⟨w.heap.size+1,5,none⟩=false:=frozen_of R0.out 5
   have y6:wc.frozen? ⟨w.heap.size+1,6,none⟩=false:=frozen_of R0.out 6
   clear hl8 hr8
   go_wp2_with fail
   refine bodyPost_ret (v:=cardV v s n' tFrom tTill k (.slice ma ms.length mc)) (by simp[results,Tryz.results29,go_sem,cardV,z0,z1,z2,z3,z4,z5,z6]) rfl ?_
   have hne0:(Value.slice ma ms.length mc).ownBlock≠some (w.heap.size+1):=row_ne1 R0.out OW.out (by decide)
   refine⟨v,s,n,k,ma,ms,mc,by rw[HN'.out],v0,by omega,HS.out,HK.out,hsz,hkz,HU8.out,HK2.out.1,HK2.out.2,?_,?_⟩
   ·exact ownsRow_setCell_other (ownsRow_setCell_other (ownsRow_setCell_other (ownsRow_setCell_other (ownsRow_setCell_other (ownsRow_setCell_other (ownsRow_setCell_other OW.out hne0 _) hne0 _) hne0 _) hne0 _) hne0 _) hne0 _) hne0 _
   ·exact((((((H8.out.setCell (p:=⟨w.heap.size+1,0,none⟩) (Nat.le_succ _) _).setCell (p:=⟨w.heap.size+1,1,none⟩) (Nat.le_succ _) _).setCell (p:=⟨w.heap.size+1,2,none⟩) (Nat.le_succ _) _).setCell (p:=⟨w.heap.size+1,3,none⟩) (Nat.le_succ _) _).setCell (p:=⟨w.heap.size+1,4,none⟩) (Nat.le_succ _) _).setCell (p:=⟨w.heap.size+1,5,none⟩) (Nat.le_succ _) _).setCell (p:=⟨w.heap.size+1,6,none⟩) (Nat.le_succ _) _
end Go.Proofs.YtkkicodfpekbgaaGreatDoor
