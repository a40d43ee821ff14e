/-
Several texts in one.
-/
import Derived.Test.YtkkicodfpekbgaaGreatDoorJa0
import Derived.Test.YtkkicodfpekbgaaGreatDoorJa1
import Derived.Deep.LoopGhost
import Derived.Test.YtkkicodfpekbgaaGreatDoorRows
import Derived.WalkKit
import Derived.WalkSpells
import Derived.WalkLawsBesides
import Derived.LaidEql
import Derived.Stop.Asserts
import Derived.RowKitTokens
import Derived.BigQuiet
import Derived.Deep.QuietTactic
import Derived.Deep.RegionWith
import Derived.Deep.DrawnRows
namespace Go.Proofs.YtkkicodfpekbgaaGreatDoor
open Go.RowKit
set_option linter.unusedSimpArgs false
set_option linter.unusedVariables false
set_option maxRecDepth 100000
set_option maxHeartbeats 8000000
def Tags(s:List Nd):Prop:=∀j,j<s.length→ -1≤(nd s j).tag
theorem opn_iff{n:Nd}(h: -1≤n.tag):n.opn1↔n.opn:=by unfold Nd.opn1 Nd.opn;omega
structure ReW(s:List Nd)(w wr:World)(V A S:List Nat)(va vend:Value)(gs:Nat):Prop where
 inn:wr.ownsRow w.heap.size 3 1 va A.length (ivs A)
 out:wr.ownsRow w.heap.size 3 1 vend (outs s V).length (ivs (outs s V))
 ap:va.ownBlock=none∨vend.ownBlock=none∨vend.ownBlock≠va.ownBlock
 bel:Below w.heap.size w wr
 glo:w.heap.size≤gs
 see:∃C:Array Value,wr.heap[gs]? =some (.cells C 232 (0,0))∧∀j,j<40→C[j]? =some (.bool (decide (j∈S)))
def RetE(s:List Nd)(i:Nat)(w:World)(e:Ending)(w':World):Prop:=
 ∃(v:Value) (l:List Nat) (bk:Bool),e= .returned (.tuple #[v,.bool bk])∧w'.ownsRow w.heap.size 3 1 v l.length (ivs l)∧Below w.heap.size w w'∧l.length≤s.length+1∧(∀j,j∈l↔Leaf s i j)∧(bk=true↔Back s i)
theorem own_pop{w:World}{base g ca:Nat}{A:List Nat}{x:Nat}(h:w.ownsRow base 3 1 (.slice (some ⟨g,0,none⟩) (A++[x]).length ca) (A++[x]).length (ivs (A++[x]))):w.ownsRow base 3 1 (.slice (some ⟨g,0,none⟩) A.length ca) A.length (ivs A):=by
 obtain⟨h1,h2⟩:=h
 refine⟨by simp[ivs],?_⟩
 rcases h2 with⟨h2,_⟩|⟨g',cap,cur,hv,h3,h4,h5,h6,h7,h8⟩
 ·cases h2
 ·refine .inr ⟨g',cap,cur,?_,h3,h4,?_,h6,h7,?_⟩
  ·injection hv with a b d
   rw[a,d]
  ·simp at h5;omega
  ·have e:cur.toList.take A.length=(cur.toList.take (A.length+1)).take A.length:=by rw[List.take_take];congr 1;omega
   simp only[Nat.mul_one,List.length_append,List.length_singleton]at h8 ⊢
   rw[e,h8,ivs_append,List.take_append_of_le_length (by simp[ivs]),List.take_of_length_le (by simp[ivs])]
theorem ReW.below{s:List Nd}{w wr w':World}{V A S:List Nat}{va vend:Value}{gs:Nat}(h:ReW s w wr V A S va vend gs)(hb:Below wr.heap.size wr w'):ReW s w w' V A S va vend gs where
 inn:=own_below h.inn hb
 out:=own_below h.out hb
 ap:=h.ap
 bel:=h.bel.trans (hb.mono h.bel.size)
 glo:=h.glo
 see:=by obtain⟨C,h1,h2⟩:=h.see;exact⟨C,block_below h1 hb,h2⟩
theorem keep_other{w w':World}{k:Nat}{A:Array Value}{T:TypeId}{row:Option Nat}{o:Obj}(hg:w.heap[k]? =some (.cells A T (0,0)))(hne:row≠some k)(h2:(w.alloc o).grownBy w' row):w'.heap[k]? =some (.cells A T (0,0)):=by
 have hlt:k<w.heap.size:=by
  rcases Nat.lt_or_ge k w.heap.size with h'|h'
  ·exact h'
  ·rw[Array.getElem?_eq_none h']at hg;cases hg
 rw[h2.block k (by simp;omega) (fun e=>hne e.symm),Below.heap_alloc w o _ hlt,hg]
theorem row_ne1{w:World}{R base size n:Nat}{e T:TypeId}{v:Value}{xs:List Value}{A:Array Value}(hg:w.heap[R]? =some (.cells A T (0,0)))(h:w.ownsRow base e size v n xs)(hT:T≠e):v.ownBlock≠some R:=by
 intro hv
 rcases h.2 with⟨h',_⟩|⟨g,cap,cur,h',_,hg',_⟩
 ·subst h';cases hv
 ·subst h'
  obtain rfl:g=R:=by simpa [Value.ownBlock]using hv
  rw[hg]at hg'
  injection hg' with hg'
  injection hg' with _ e _
  exact hT e
theorem ReW.put{s:List Nd}{w wr w':World}{x:Nat}{V A S:List Nat}{va vend:Value}{gs g cap:Nat}{o:Obj}(h:ReW s w wr V A S va vend gs)(ho:¬(nd s x).opn)
 (h1:w'.ownsRow w.heap.size 3 1 (.slice (some ⟨g,0,none⟩) ((outs s V).length+1) cap) ((outs s V).length+1) (ivs (outs s V)++[.int .i64 (x:Int)]))
 (h2:(wr.alloc o).grownBy w' vend.ownBlock)(h3:vend.ownBlock=some g∨g=wr.heap.size+1):ReW s w w' (V++[x]) A S va (.slice (some ⟨g,0,none⟩) ((outs s V).length+1) cap) gs:=by
 have hb:Below w.heap.size w (wr.alloc o):=h.bel.alloc h.bel.size o
 exact {
  inn:=by
   refine(h.inn.alloc o).kept h2 ?_
   rcases h.ap with q|q|q
   ·exact .inl q
   ·rw[q]
    by_cases e:va.ownBlock=none
    ·exact .inl e
    ·exact .inr e
   ·exact .inr (fun e=>q e.symm)
  out:=by rw[outs_leaf ho,ivs_append,List.length_append];exact h1
  ap:=by
   by_cases e:va.ownBlock=none
   ·exact .inl e
   ·refine .inr (.inr (fun e'=>?_))
    have e'':va.ownBlock=some g:=by rw[←e'];rfl
    rcases h3 with h3|h3
    ·rcases h.ap with q|q|q
     ·exact e q
     ·rw[h3]at q;cases q
     ·exact q (by rw[h3,e''])
    ·have:=(h.inn.lt g e'').2;omega
  bel:=hb.grown h2 hb.size (fun k hk=>(h.out.lt k hk).1)
  glo:=h.glo
  see:=by
   obtain⟨C,q1,q2⟩:=h.see
   exact⟨C,keep_other q1 (row_ne1 q1 h.out (by decide)) h2,q2⟩}
theorem ReW.push{s:List Nd}{w wr w':World}{t:Nat}{V A S:List Nat}{va vend:Value}{gs g cap:Nat}{o:Obj}(h:ReW s w wr V A S va vend gs)
 (h1:w'.ownsRow w.heap.size 3 1 (.slice (some ⟨g,0,none⟩) (A.length+1) cap) (A.length+1) (ivs A++[.int .i64 (t:Int)]))
 (h2:(wr.alloc o).grownBy w' va.ownBlock)(h3:va.ownBlock=some g∨g=wr.heap.size+1):ReW s w w' V (A++[t]) S (.slice (some ⟨g,0,none⟩) (A.length+1) cap) vend gs:=by
 have hb:Below w.heap.size w (wr.alloc o):=h.bel.alloc h.bel.size o
 exact {
  inn:=by rw[ivs_append,List.length_append];exact h1
  out:=by
   refine(h.out.alloc o).kept h2 ?_
   rcases h.ap with q|q|q
   ·rw[q]
    by_cases e:vend.ownBlock=none
    ·exact .inl e
    ·exact .inr e
   ·exact .inl q
   ·exact .inr q
  ap:=by
   by_cases e:vend.ownBlock=none
   ·exact .inr (.inl e)
   ·refine .inr (.inr (fun e'=>?_))
    have e'':vend.ownBlock=some g:=by rw[e'];rfl
    rcases h3 with h3|h3
    ·rcases h.ap with q|q|q
     ·rw[h3]at q;cases q
     ·exact e q
     ·exact q (by rw[h3,e''])
    ·have:=(h.out.lt g e'').2;omega
  bel:=hb.grown h2 hb.size (fun k hk=>(h.inn.lt k hk).1)
  glo:=h.glo
  see:=by
   obtain⟨C,q1,q2⟩:=h.see
   exact⟨C,keep_other q1 (row_ne1 q1 h.inn (by decide)) h2,q2⟩}
theorem ReW.mark{s:List Nd}{w wr:World}{t:Nat}{V A S:List Nat}{va vend:Value}{gs:Nat}(h:ReW s w wr V A S va vend gs)(ht:t<40):ReW s w (wr.setCell ⟨gs,t,none⟩ (.bool true)) V A (S++[t]) va vend gs:=by
 obtain⟨C,q1,q2⟩:=h.see
 exact {
  inn:=ownsRow_setCell_other h.inn (row_ne1 q1 h.inn (by decide)) _
  out:=ownsRow_setCell_other h.out (row_ne1 q1 h.out (by decide)) _
  ap:=h.ap
  bel:=h.bel.setCell h.glo _
  glo:=h.glo
  see:=⟨C.setIfInBounds t (.bool true),heap_setCell_same wr gs t C _ _ q1,fun j hj=>by
   have hsz:t<C.size:=by
    have:=q2 t ht
    rcases Nat.lt_or_ge t C.size with h'|h'
    ·exact h'
    ·rw[Array.getElem?_eq_none h']at this;cases this
   rw[Array.getElem?_setIfInBounds]
   by_cases e:t=j
   ·subst e;rw[if_pos rfl,if_pos hsz];simp
   ·rw[if_neg e,q2 j hj];congr 2;simp;omega⟩}
theorem reach_any(s:List Nd)(a:Option Addr)(c i:Nat)(w:World)(hs:Sch w a s)(hw:Within s)(htg:Tags s)(hi:i<s.length)(hn:s.length≤40):
 Calls Tryz.prog 96 #[.slice a s.length c,.int .i64 i] w fun e w'=>RetE s i w e w':=by
 have HS:Hid (Sch w a s):=hs
 have HW:Hid (Within s):=hw
 have HTG:Hid (Tags s):=htg
 clear hs hw htg
 obtain⟨i0,hi0,hz0,hz1,hz2⟩:=info_parts Tryz.infoInt
 go_enter Tryz.func96,Tryz.ntmps96
 go_wp2
 go_loopg [4,5,7] 41 (fun gk vend vbk va wr=>∃V A S bk aa ca,va= .slice aa A.length ca∧(0<A.length→∃g,aa=some ⟨g,0,none⟩)∧vbk= .bool bk∧gk+V.length=41∧Re s i V A S bk∧ReW s w wr V A S va vend w.heap.size)
 case atStart=>
  refine⟨[],[i],[],false,_,1,rfl,fun _=>⟨w.heap.size+1,rfl⟩,rfl,rfl,Re.start s i,?_⟩
  exact⟨⟨rfl,.inr ⟨w.heap.size+1,1,_,rfl,by omega,by simpa using heap_alloc_new (w.alloc _) _,Nat.le_refl _,by decide,rfl,rfl⟩⟩,World.ownsRow_nil _ _ _ _,.inr (.inl rfl),((Below.refl _ _).alloc (Nat.le_refl _) _).alloc (by simp) _,Nat.le_refl _,_,block_below (heap_alloc_new w _) ((Below.refl _ _).alloc (Nat.le_refl _) _),fun j hj=>by
   match j,hj with
   |0,_|1,_|2,_|3,_|4,_|5,_|6,_|7,_|8,_|9,_|10,_|11,_|12,_|13,_|14,_|15,_|16,_|17,_|18,_|19,_|20,_|21,_|22,_|23,_|24,_|25,_|26,_|27,_|28,_|29,_|30,_|31,_|32,_|33,_|34,_|35,_|36,_|37,_|38,_|39,_=>rfl
   |n+40,h=>exact absurd h (by omega)⟩
 case round=>
  obtain⟨V,A,S,bk,aa,ca,rfl,haa,rfl,hgk,hL,hM⟩:=hrel
  have hlen:=hL.len
  have HL:Hid (Re s i V A S bk):=hL
  have HM:Hid (ReW s w wr V A S (.slice aa A.length ca) u4 w.heap.size):=hM
  rcases List.eq_nil_or_concat A with rfl|⟨A',x,hA⟩
  ·clear hL hM
   go_wp2
   go_ret2
   exact⟨u4,outs s V,bk,rfl,HM.out.out,HM.out.bel,Nat.le_trans (outs_le s V) (by simp at hlen;omega),HL.out.leaves,HL.out.backs⟩
  ·have hA':A=A'++[x]:=by rw[hA];simp
   subst hA'
   clear hA
   have hlm:(A'++[x]).length=A'.length+1:=by simp
   obtain⟨g,rfl⟩:=haa (by omega)
   have cx:wr.cell? ⟨g,A'.length,none⟩=some (.int .i64 (x:Int)):=by
    have:=own_cell (j:=A'.length) hM.inn (by omega)
    rw[this];congr 3;simp
   have HM':Hid (ReW s w wr V A' S (.slice (some ⟨g,0,none⟩) A'.length ca) u4 w.heap.size):=⟨own_pop hM.inn,hM.out,hM.ap,hM.bel,hM.glo,hM.see⟩
   have hxs:x<s.length:=(hL.rch x (by simp)).lt HW.out hi
   obtain⟨b,o,ka,kc,rfl,nc,kl,km,ks⟩:=HS.out x hxs
   obtain⟨n1,n2,n3,n4⟩:=nc.below hM.bel
   have KS:Hid (KidsIn w ka (nd s x).kids):=ks
   have hxs':(x:Int)<s.length:=by omega
   have hmc:A'.length+1≤ca∧ca≤maxLen:=by
    rcases hM.inn.2 with⟨q,_⟩|⟨g',cap,cur,hv,_,_,q1,q2,_⟩
    ·cases q
    ·injection hv with _ _ e;subst e;exact⟨by omega,q2⟩
   have hm40:A'.length≤40:=by omega
   have hsz:w.heap.size<wr.heap.size:=by
    obtain⟨C,q1,_⟩:=hM.see
    rcases Nat.lt_or_ge w.heap.size wr.heap.size with h'|h'
    ·exact h'
    ·rw[Array.getElem?_eq_none h']at q1;cases q1
   have HO:Hid (∀wr,Calls Tryz.prog 139 #[.agg #[.int .i64 (nd s x).kind,.int .i64 (nd s x).tag,.int .i64 (nd s x).mode,.slice ka (nd s x).kids.length kc]] wr fun e w'=>RetO (nd s x).opn wr e w'):=fun wr=>by
    have:=isOpen_any (nd s x) ka kc wr
    refine this.mono fun e w' q=>?_
    obtain⟨r,h1,h2,h3⟩:=q
    exact⟨r,h1,h2.trans (opn_iff (HTG.out x hxs)),h3⟩
   have hV:V.length+A'.length≤s.length:=by omega
   clear hL hM hlm ks nc haa
   go_wp2_with fail
   refine(HO.out _).mono ?_
   by_cases ho:(nd s x).opn
   ·intro e w2 hq
    obtain⟨rfl,hb2⟩:=hq.yes ho
    have HM2:Hid (ReW s w w2 V A' S (.slice (some ⟨g,0,none⟩) A'.length ca) u4 w.heap.size):=HM'.out.below hb2
    have HLM:Hid (ReM s i V x 0 A' S bk):=HL.out.mid
    have e4:w2.cell? ⟨b,o+x*4+3,none⟩=some (.slice ka (nd s x).kids.length kc):=(hb2.cell (lt_of_cell n4)).trans n4
    have hkm:(nd s x).kids.length≤9223372036854775807:=by unfold maxLen at km;omega
    clear hq hb2 cx n1 n2 n3 n4
    go_wp2
    go_loopw [5,7,43] (fun vbk va vj wx=>∃A1 S1 bk1 aa1 ca1 j,va= .slice aa1 A1.length ca1∧(0<A1.length→∃g,aa1=some ⟨g,0,none⟩)∧vbk= .bool bk1∧vj= .int .i64 (j:Nat)∧j≤(nd s x).kids.length∧ReM s i V x j A1 S1 bk1∧ReW s w wx V A1 S1 (.slice aa1 A1.length ca1) u4 w.heap.size)
     (fun _ _ vj _=>(nd s x).kids.length-(intOf vj).toNat)
    case atStart=>exact⟨A',S,bk,_,ca,0,rfl,fun _=>⟨g,rfl⟩,rfl,rfl,Nat.zero_le _,HLM.out,HM2.out⟩
    case round=>
     clear HLM HM2 e4
     obtain⟨A1,S1,bk1,aa1,ca1,j,rfl,haa1,rfl,rfl,hj,hLM,hM3⟩:=hrel
     have HAA:Hid (0<A1.length→∃g,aa1=some ⟨g,0,none⟩):=haa1
     have HLM:Hid (ReM s i V x j A1 S1 bk1):=hLM
     have HM3:Hid (ReW s w wr V A1 S1 (.slice aa1 A1.length ca1) u4 w.heap.size):=hM3
     have hlen1:=hLM.len
     have hszw:w.heap.size<wr.heap.size:=by
      obtain⟨C,q1,_⟩:=hM3.see
      rcases Nat.lt_or_ge w.heap.size wr.heap.size with h'|h'
      ·exact h'
      ·rw[Array.getElem?_eq_none h']at q1;cases q1
     have cS:∀t,t<40→wr.cell? ⟨w.heap.size,t,none⟩=some (.bool (decide (t∈S1))):=fun t ht=>by
      obtain⟨C,q1,q2⟩:=hM3.see
      simp only[World.cell?,q1]
      exact q2 t ht
     have fS:∀t,wr.frozen? ⟨w.heap.size,t,none⟩=false:=fun t=>by
      obtain⟨C,q1,q2⟩:=hM3.see
      simp[World.frozen?,q1]
     by_cases hjl:j<(nd s x).kids.length
     ·obtain⟨kb,ko,rfl,kcl⟩:=KS.out j hjl
      have hkr:=HW.out x hxs ((nd s x).kids.getD j kd0) (by rw[List.getD_eq_getElem?_getD,List.getElem?_eq_getElem hjl];exact List.getElem_mem hjl)
      obtain⟨t,ht⟩:∃t:Nat,((nd s x).kids.getD j kd0).node=t:=⟨_,(Int.toNat_of_nonneg hkr.1).symm⟩
      obtain⟨k1,k2,k3⟩:=kcl.below hM3.bel
      have HT:Hid (((nd s x).kids.getD j kd0).node=t):=ht
      rw[ht]at k1 hkr
      obtain⟨bo,hbo⟩:∃v,((nd s x).kids.getD j kd0).opt=v:=⟨_,rfl⟩
      obtain⟨bd,hbd⟩:∃v,((nd s x).kids.getD j kd0).dflt=v:=⟨_,rfl⟩
      rw[hbo]at k2
      rw[hbd]at k3
      have htl:t<s.length:=by omega
      have ht40:t<40:=by omega
      have ht40':(t:Int)<40:=by omega
      have hjl':(j:Int)<(nd s x).kids.length:=by omega
      have ft:=fS t
      have cs:=cS t ht40
      obtain⟨bk2,hbk2⟩:∃b2,b2=(bk1||decide ((t:Int)=i)):=⟨_,rfl⟩
      have HBK:Hid (bk2=(bk1||decide ((t:Int)=i))):=hbk2
      have hcs:(bk1=true∧bk2=true)∨(bk1=false∧((t:Int)==i)=bk2):=by
       cases bk1
       ·right;exact⟨rfl,by rw[hbk2,Bool.false_or,Bool.eq_iff_iff];simp⟩
       ·left;exact⟨rfl,by rw[hbk2];simp⟩
      clear hbk2 hLM hM3 kcl ht hkr hbo hbd fS cS haa1
      rcases hcs with⟨rfl,rfl⟩|⟨rfl,hti⟩
      ·by_cases hts:t∈S1
       ·have HS1:Hid (t∈S1):=hts
        rw[decide_eq_true hts]at cs
        clear hts
        have HLM':Hid (ReM s i V x (j+1) A1 S1 true):=HBK.out▸HLM.out.step_old HT.out HS1.out
        have HM4:Hid (∀o,ReW s w (wr.alloc o) V A1 S1 (.slice aa1 A1.length ca1) u4 w.heap.size):=fun o=>HM3.out.below ((Below.refl _ _).alloc (Nat.le_refl _) o)
        go_wp2
        go_roundw
        case rel=>exact⟨A1,S1,true,aa1,ca1,j+1,rfl,HAA.out,rfl,by go_num,by omega,HLM'.out,HM4.out _⟩
        case measure=>simp[intOf];omega
       ·have HS1:Hid (t∉S1):=hts
        rw[decide_eq_false hts]at cs
        clear hts
        have HLM':Hid (ReM s i V x (j+1) (A1++[t]) (S1++[t]) true):=HBK.out▸HLM.out.step_new HT.out hjl ho htl HS1.out
        have HM4:Hid (∀o,ReW s w ((wr.setCell ⟨w.heap.size,t,none⟩ (.bool true)).alloc o) V A1 (S1++[t]) (.slice aa1 A1.length ca1) u4 w.heap.size):=fun o=>(HM3.out.mark ht40).below ((Below.refl _ _).alloc (Nat.le_refl _) o)
        have hsz3:w.heap.size≤wr.heap.size+2:=by omega
        have NEWS:Hid (∀(j:Nat) (u:Value),[Value.int .i64 (t:Int)][j]? =some u→(((wr.setCell ⟨w.heap.size,t,none⟩ (.bool true)).alloc (.cells #[.int .i64 (t:Int),.bool bo,.string bd] 55)).alloc (.cells #[.int .i64 (t:Int)] 3)).cell? ((⟨wr.heap.size+1,0,none⟩:Addr).add j)=some u):=by
         have q:=cell_one_new ((wr.setCell ⟨w.heap.size,t,none⟩ (.bool true)).alloc (.cells #[.int .i64 (t:Int),.bool bo,.string bd] 55)) (.int .i64 (t:Int)) 3
         rw[show((wr.setCell ⟨w.heap.size,t,none⟩ (.bool true)).alloc (.cells #[.int .i64 (t:Int),.bool bo,.string bd] 55)).heap.size=wr.heap.size+1 by simp]at q
         exact q
        go_wp2_with (at_builtin;refine wpList_append_lies _ rfl (.tmp 62) (.tmp 65) 32 rfl w.heap.size 3 i0 (.int .i64 0) 1 8 Tryz.underlying32 hi0 hz0 hz1 hz2 rfl (by decide) (.slice aa1 A1.length ca1) A1.length (ivs A1) rfl ((HM4.out _).inn.alloc _) ⟨wr.heap.size+1,0,none⟩ 1 1 [.int .i64 (t:Int)] rfl rfl NEWS.out (by intro u hu;simp at hu;subst hu;rfl) (by decide) (by unfold maxLen;omega) (by omega) (by simpa using hsz3) (wr.heap.size+2) (by simp) ?_)
        intro g' cap w3 h1 h2 h3 h4
        have HM5:Hid (ReW s w w3 V (A1++[t]) (S1++[t]) (.slice (some ⟨g',0,none⟩) (A1.length+1) cap) u4 w.heap.size):=(HM4.out _).push h1 h2 (by simpa using h3)
        clear h1 h2 h3 h4
        go_wp2
        go_roundw
        case rel=>exact⟨A1++[t],S1++[t],true,_,cap,j+1,by simp,fun _=>⟨g',rfl⟩,rfl,by go_num,by omega,HLM'.out,by simpa using HM5.out⟩
        case measure=>simp[intOf];omega
      ·by_cases hts:t∈S1
       ·have HS1:Hid (t∈S1):=hts
        rw[decide_eq_true hts]at cs
        clear hts
        have HLM':Hid (ReM s i V x (j+1) A1 S1 bk2):=HBK.out▸HLM.out.step_old HT.out HS1.out
        have HM4:Hid (∀o,ReW s w (wr.alloc o) V A1 S1 (.slice aa1 A1.length ca1) u4 w.heap.size):=fun o=>HM3.out.below ((Below.refl _ _).alloc (Nat.le_refl _) o)
        go_wp2
        go_roundw
        case rel=>exact⟨A1,S1,bk2,aa1,ca1,j+1,rfl,HAA.out,rfl,by go_num,by omega,HLM'.out,HM4.out _⟩
        case measure=>simp[intOf];omega
       ·have HS1:Hid (t∉S1):=hts
        rw[decide_eq_false hts]at cs
        clear hts
        have HLM':Hid (ReM s i V x (j+1) (A1++[t]) (S1++[t]) bk2):=HBK.out▸HLM.out.step_new HT.out hjl ho htl HS1.out
        have HM4:Hid (∀o,ReW s w ((wr.setCell ⟨w.heap.size,t,none⟩ (.bool true)).alloc o) V A1 (S1++[t]) (.slice aa1 A1.length ca1) u4 w.heap.size):=fun o=>(HM3.out.mark ht40).below ((Below.refl _ _).alloc (Nat.le_refl _) o)
        have hsz3:w.heap.size≤wr.heap.size+2:=by omega
        have NEWS:Hid (∀(j:Nat) (u:Value),[Value.int .i64 (t:Int)][j]? =some u→(((wr.setCell ⟨w.heap.size,t,none⟩ (.bool true)).alloc (.cells #[.int .i64 (t:Int),.bool bo,.string bd] 55)).alloc (.cells #[.int .i64 (t:Int)] 3)).cell? ((⟨wr.heap.size+1,0,none⟩:Addr).add j)=some u):=by
         have q:=cell_one_new ((wr.setCell ⟨w.heap.size,t,none⟩ (.bool true)).alloc (.cells #[.int .i64 (t:Int),.bool bo,.string bd] 55)) (.int .i64 (t:Int)) 3
         rw[show((wr.setCell ⟨w.heap.size,t,none⟩ (.bool true)).alloc (.cells #[.int .i64 (t:Int),.bool bo,.string bd] 55)).heap.size=wr.heap.size+1 by simp]at q
         exact q
        go_wp2_with (at_builtin;refine wpList_append_lies _ rfl (.tmp 62) (.tmp 65) 32 rfl w.heap.size 3 i0 (.int .i64 0) 1 8 Tryz.underlying32 hi0 hz0 hz1 hz2 rfl (by decide) (.slice aa1 A1.length ca1) A1.length (ivs A1) rfl ((HM4.out _).inn.alloc _) ⟨wr.heap.size+1,0,none⟩ 1 1 [.int .i64 (t:Int)] rfl rfl NEWS.out (by intro u hu;simp at hu;subst hu;rfl) (by decide) (by unfold maxLen;omega) (by omega) (by simpa using hsz3) (wr.heap.size+2) (by simp) ?_)
        intro g' cap w3 h1 h2 h3 h4
        have HM5:Hid (ReW s w w3 V (A1++[t]) (S1++[t]) (.slice (some ⟨g',0,none⟩) (A1.length+1) cap) u4 w.heap.size):=(HM4.out _).push h1 h2 (by simpa using h3)
        clear h1 h2 h3 h4
        go_wp2
        go_roundw
        case rel=>exact⟨A1++[t],S1++[t],bk2,_,cap,j+1,by simp,fun _=>⟨g',rfl⟩,rfl,by go_num,by omega,HLM'.out,by simpa using HM5.out⟩
        case measure=>simp[intOf];omega
     ·have hjl':((nd s x).kids.length:Int)≤j:=by omega
      obtain rfl:j=(nd s x).kids.length:=by omega
      have HL':Hid (Re s i (V++[x]) A1 S1 bk1):=hLM.finish ho
      have HM':Hid (ReW s w wr (V++[x]) A1 S1 (.slice aa1 A1.length ca1) u4 w.heap.size):=⟨hM3.inn,by rw[outs_open ho];exact hM3.out,hM3.ap,hM3.bel,hM3.glo,hM3.see⟩
      clear hLM hM3 cS fS haa1
      go_wp2
      go_roundg (gk-1)
      case rel=>exact⟨V++[x],A1,S1,bk1,aa1,ca1,rfl,HAA.out,rfl,by simp;omega,HL'.out,HM'.out⟩
      case measure=>omega
   ·intro e w2 hq
    obtain⟨rfl,hb2⟩:=hq.no ho
    have HM2:Hid (ReW s w w2 V A' S (.slice (some ⟨g,0,none⟩) A'.length ca) u4 w.heap.size):=HM'.out.below hb2
    have hol:(outs s V).length≤41:=by have:=outs_le s V;omega
    have hsz2:w.heap.size≤w2.heap.size+1:=by have:=HM2.out.bel.size;omega
    clear hq hb2 cx n1 n2 n3 n4
    go_wp2_with (at_builtin;refine wpList_append_lies _ rfl (.tmp 33) (.tmp 35) 32 rfl w.heap.size 3 i0 (.int .i64 0) 1 8 Tryz.underlying32 hi0 hz0 hz1 hz2 rfl (by decide) u4 (outs s V).length (ivs (outs s V)) rfl (HM2.out.out.alloc _) ⟨w2.heap.size,0,none⟩ 1 1 [.int .i64 (x:Int)] rfl rfl (cell_one_new _ _ _) (by intro u hu;simp at hu;subst hu;rfl) (by decide) (by unfold maxLen;omega) (by omega) (by simpa using hsz2) (w2.heap.size+1) (by simp) ?_)
    intro g' cap w3 h1 h2 h3 h4
    have HM3:Hid (ReW s w w3 (V++[x]) A' S (.slice (some ⟨g,0,none⟩) A'.length ca) (.slice (some ⟨g',0,none⟩) ((outs s V).length+1) cap) w.heap.size):=HM2.out.put ho h1 h2 h3
    clear h1 h2 h3 h4
    go_wp2
    go_roundg (gk-1)
    case rel=>exact⟨V++[x],A',S,bk,_,ca,rfl,fun _=>⟨g,rfl⟩,rfl,by simp;omega,HL.out.leaf ho,HM3.out⟩
    case measure=>omega
def fv(c n:Int)(b:Bool):Value:= .agg #[.int .i64 c,.int .i64 n,.bool b]
theorem firstOf_any(c:Int)(b:Bool)(n z l:Int)(w:World):
 Calls Tryz.prog 157 #[.agg #[.int .i64 c,.bool b,.int .i64 n,.int .i64 z,.int .i64 l]] w fun e w'=>e= .returned (fv c n b)∧Below w.heap.size w w':=by
 unfold fv
 go_enter Tryz.func157,Tryz.ntmps157
 go_wp2
 refine bodyPost_ret (v:= .agg #[.int .i64 c,.int .i64 n,.bool b]) (by simp[results,Tryz.results157,go_sem]) rfl ⟨rfl,?_⟩
 exact((Below.refl _ _).alloc (Nat.le_refl _) _).alloc (by simp) _
theorem around_no(n:Nd)(ka:Option Addr)(kc:Nat)(w:World)(hm:n.mode≠1):
 Calls Tryz.prog 110 #[.agg #[.int .i64 n.kind,.int .i64 n.tag,.int .i64 n.mode,.slice ka n.kids.length kc]] w fun e w'=>e= .returned (.tuple #[fv 0 0 false,.bool false])∧Below w.heap.size w w':=by
 have e:(n.mode !=1)=true:=by simp[hm]
 unfold fv
 clear hm
 go_enter Tryz.func110,Tryz.ntmps110
 go_wp2
 refine bodyPost_ret (v:= .tuple #[.agg #[.int .i64 0,.int .i64 0,.bool false],.bool false]) (by simp[results,Tryz.results110,go_sem]) rfl ⟨rfl,?_⟩
 exact((Below.refl _ _).alloc (Nat.le_refl _) _).alloc (by simp) _
theorem setCell3{B:Nat}{w w1:World}(h:Below B w w1)(b:Nat)(hb:B≤b)(v0 v1 v2:Value):Below B w (((w1.setCell ⟨b,0,none⟩ v0).setCell ⟨b,1,none⟩ v1).setCell ⟨b,2,none⟩ v2):=
 ((h.setCell (p:=⟨b,0,none⟩) hb v0).setCell (p:=⟨b,1,none⟩) hb v1).setCell (p:=⟨b,2,none⟩) hb v2
theorem around_yes(n:Nd)(ka:Option Addr)(kc:Nat)(w:World)(hm:n.mode=1)(hn:Nums w)(ht:0≤n.tag)(hk:0≤n.kind):
 Calls Tryz.prog 110 #[.agg #[.int .i64 n.kind,.int .i64 n.tag,.int .i64 n.mode,.slice ka n.kids.length kc]] w fun e w'=>e= .returned (.tuple #[fv 2 n.tag true,.bool true])∧Below w.heap.size w w':=by
 have e:(n.mode !=1)=false:=by simp[hm]
 have HC:Hid (∀w',Nums w'→Calls Tryz.prog 140 #[.agg #[.int .i64 n.kind,.int .i64 n.tag,.int .i64 n.mode,.slice ka n.kids.length kc]] w' fun e w''=>e= .returned (.agg #[.int .i64 2,.int .i64 n.tag])∧Below w'.heap.size w' w''):=fun w' q=>by
  have:=outerTag_any n ka kc w' q (by omega) hk (fun h=>by omega)
  unfold Nd.outer at this
  rw[if_pos ht]at this
  exact this
 have HN:Hid (∀o1 o2,Nums ((w.alloc o1).alloc o2)):=fun o1 o2=>hn.below (((Below.refl _ _).alloc (Nat.le_refl _) _).alloc (by simp) _)
 unfold fv
 clear hm hn
 go_enter Tryz.func110,Tryz.ntmps110
 go_wp2_with fail
 refine(HC.out _ (HN.out _ _)).mono ?_
 rintro e w1 ⟨rfl,hb⟩
 have HB:Hid (Below w.heap.size w w1):=below_alloc (below_alloc hb)
 have hG:w1.heap[w.heap.size+1]? =some (.cells #[.int .i64 0,.int .i64 0,.bool false] 149 (0,0)):=block_below (by simpa using heap_alloc_new (w.alloc _) _) hb
 have q0:w1.cell? ⟨w.heap.size+1,0,none⟩=some (.int .i64 0):=by simp[World.cell?,hG]
 have q1:w1.cell? ⟨w.heap.size+1,1,none⟩=some (.int .i64 0):=by simp[World.cell?,hG]
 have q2:w1.cell? ⟨w.heap.size+1,2,none⟩=some (.bool false):=by simp[World.cell?,hG]
 have f0:w1.frozen? ⟨w.heap.size+1,0,none⟩=false:=by simp[World.frozen?,hG]
 have f1:w1.frozen? ⟨w.heap.size+1,1,none⟩=false:=by simp[World.frozen?,hG]
 have f2:w1.frozen? ⟨w.heap.size+1,2,none⟩=false:=by simp[World.frozen?,hG]
 clear hb hG
 go_wp2
 refine bodyPost_ret (v:= .tuple #[.agg #[.int .i64 2,.int .i64 n.tag,.bool true],.bool true]) (by simp[results,Tryz.results110,go_sem,q0,q1,q2]) rfl ⟨rfl,?_⟩
 exact setCell3 HB.out _ (by simp) _ _ _
def Nd.ownT(n:Nd):Int×Int:=if n.mode=0∧0≤n.tag then(2,n.tag)else(0,own n.kind)
theorem own_first(n:Nd)(ka:Option Addr)(kc:Nat)(w:World)(hn:Nums w)(ht: -1≤n.tag)(hk:0≤n.kind)(hk':n.kind≤9):
 Calls Tryz.prog 152 #[.agg #[.int .i64 n.kind,.int .i64 n.tag,.int .i64 n.mode,.slice ka n.kids.length kc]] w fun e w'=>e= .returned (fv n.ownT.1 n.ownT.2 false)∧Below w.heap.size w w':=by
 have HC:Hid (∀w',Nums w'→Calls Tryz.prog 140 #[.agg #[.int .i64 n.kind,.int .i64 n.tag,.int .i64 n.mode,.slice ka n.kids.length kc]] w' fun e w''=>e= .returned (.agg #[.int .i64 n.outer.1,.int .i64 n.outer.2])∧Below w'.heap.size w' w''):=fun w' q=>outerTag_any n ka kc w' q ht hk (fun h=>by omega)
 have HW:Hid (∀w',Nums w'→Calls Tryz.prog 179 #[.int .i64 n.kind] w' fun e w''=>e= .returned (.agg #[.int .i64 0,.int .i64 (own n.kind)])∧Below w'.heap.size w' w''):=fun w' q=>ownTag_any n.kind hk (by omega) w' q
 have HN:Hid (∀wq,Below w.heap.size w wq→Nums wq):=fun wq q=>hn.below q
 have hk10:n.kind<10:=by omega
 have hd10:decide (10≤n.kind)=false:=by simp;omega
 obtain⟨T1,T2,hT⟩:∃T1 T2,n.ownT=(T1,T2):=⟨_,_,rfl⟩
 have HT:Hid (n.ownT=(T1,T2)):=hT
 rw[hT]
 unfold fv
 clear hn hT
 go_enter Tryz.func152,Tryz.ntmps152
 go_wp2_with fail
 refine(HW.out _ (HN.out _ (((Below.refl _ _).alloc (Nat.le_refl _) _).alloc (by simp) _))).mono ?_
 rintro e w1 ⟨rfl,hb⟩
 have HB:Hid (Below w.heap.size w w1):=below_alloc (below_alloc hb)
 have HG:Hid (w1.heap[w.heap.size+1]? =some (.cells #[.int .i64 0,.int .i64 0,.bool false] 149 (0,0))):=block_below (by simpa using heap_alloc_new (w.alloc _) _) hb
 have HG0:Hid (w1.heap[w.heap.size]? =some (.cells #[.int .i64 n.kind,.int .i64 n.tag,.int .i64 n.mode,.slice ka n.kids.length kc] 58 (0,0))):=block_below (block_below (heap_alloc_new w _) ((Below.refl _ _).alloc (Nat.le_refl _) _)) hb
 have hs1:w.heap.size+1<w1.heap.size:=by have:=hb.size;simp at this;omega
 have hs0:w.heap.size<w1.heap.size:=by omega
 have p0:w1.cell? ⟨w.heap.size,0,none⟩=some (.int .i64 n.kind):=by simp[World.cell?,HG0.out]
 have p1:w1.cell? ⟨w.heap.size,1,none⟩=some (.int .i64 n.tag):=by simp[World.cell?,HG0.out]
 have p2:w1.cell? ⟨w.heap.size,2,none⟩=some (.int .i64 n.mode):=by simp[World.cell?,HG0.out]
 have p3:w1.cell? ⟨w.heap.size,3,none⟩=some (.slice ka n.kids.length kc):=by simp[World.cell?,HG0.out]
 have q0:w1.cell? ⟨w.heap.size+1,0,none⟩=some (.int .i64 0):=by simp[World.cell?,HG.out]
 have q1:w1.cell? ⟨w.heap.size+1,1,none⟩=some (.int .i64 0):=by simp[World.cell?,HG.out]
 have q2:w1.cell? ⟨w.heap.size+1,2,none⟩=some (.bool false):=by simp[World.cell?,HG.out]
 have f0:w1.frozen? ⟨w.heap.size+1,0,none⟩=false:=by simp[World.frozen?,HG.out]
 have f1:w1.frozen? ⟨w.heap.size+1,1,none⟩=false:=by simp[World.frozen?,HG.out]
 have f2:w1.frozen? ⟨w.heap.size+1,2,none⟩=false:=by simp[World.frozen?,HG.out]
 clear hb
 by_cases hm:n.mode=0
 ·have e0:(n.mode==0)=true:=by simp[hm]
  have HE:Hid (n.ownT=n.outer):=by
   show n.ownT=n.outer
   unfold Nd.ownT Nd.outer
   by_cases q:0≤n.tag
   ·rw[if_pos ⟨hm,q⟩,if_pos q]
   ·rw[if_neg (fun r=>q r.2),if_neg q]
  obtain⟨rfl,rfl⟩:T1=n.outer.1∧T2=n.outer.2:=by rw[←HE.out,HT.out];exact⟨rfl,rfl⟩
  clear hm
  go_wp2_with fail
  refine(HC.out _ (HN.out _ (HB.out.alloc HB.out.size _))).mono ?_
  rintro e w2 ⟨rfl,hb2⟩
  have HB2:Hid (Below w.heap.size w w2):=HB.out.trans ((below_alloc hb2).mono HB.out.size)
  have hA:w2.heap[w1.heap.size]? =some (.cells #[.int .i64 0,.int .i64 (own n.kind)] 147 (0,0)):=block_below (heap_alloc_new w1 _) hb2
  have hG2:=block_below HG.out (below_alloc hb2)
  have hG02:=block_below HG0.out (below_alloc hb2)
  have hs2:w1.heap.size<w2.heap.size:=by have:=hb2.size;simp at this;omega
  have t0:w2.cell? ⟨w1.heap.size,0,none⟩=some (.int .i64 0):=by simp[World.cell?,hA]
  have t1:w2.cell? ⟨w1.heap.size,1,none⟩=some (.int .i64 (own n.kind)):=by simp[World.cell?,hA]
  have t2:w2.frozen? ⟨w1.heap.size,0,none⟩=false:=by simp[World.frozen?,hA]
  have t3:w2.frozen? ⟨w1.heap.size,1,none⟩=false:=by simp[World.frozen?,hA]
  have r0:w2.cell? ⟨w.heap.size+1,0,none⟩=some (.int .i64 0):=by simp[World.cell?,hG2]
  have r1:w2.cell? ⟨w.heap.size+1,1,none⟩=some (.int .i64 0):=by simp[World.cell?,hG2]
  have r2:w2.cell? ⟨w.heap.size+1,2,none⟩=some (.bool false):=by simp[World.cell?,hG2]
  have g0:w2.frozen? ⟨w.heap.size+1,0,none⟩=false:=by simp[World.frozen?,hG2]
  have g1:w2.frozen? ⟨w.heap.size+1,1,none⟩=false:=by simp[World.frozen?,hG2]
  have g2:w2.frozen? ⟨w.heap.size+1,2,none⟩=false:=by simp[World.frozen?,hG2]
  have d0:w2.cell? ⟨w.heap.size,0,none⟩=some (.int .i64 n.kind):=by simp[World.cell?,hG02]
  have hne1:¬w1.heap.size=w.heap.size+1:=by omega
  have hne0:¬w1.heap.size=w.heap.size:=by omega
  have hne2:¬w.heap.size+1=w1.heap.size:=by omega
  have hne3:¬w.heap.size=w1.heap.size:=by omega
  clear hb2 hA hG2 hG02 p0 p1 p2 p3 q0 q1 q2 f0 f1 f2
  go_wp2
  refine bodyPost_ret (v:= .agg #[.int .i64 n.outer.1,.int .i64 n.outer.2,.bool false]) (by simp[results,Tryz.results152,go_sem,r0,r1,r2,t0,t1,hne1,hne2,hd10]) rfl ⟨rfl,?_⟩
  exact setCell3 ((HB2.out.setCell (p:=⟨w1.heap.size,0,none⟩) (by exact Nat.le_of_lt hs0) _).setCell (p:=⟨w1.heap.size,1,none⟩) (by exact Nat.le_of_lt hs0) _) _ (by simp) _ _ _
 ·have e0:(n.mode==0)=false:=by simp[hm]
  have HE:Hid (n.ownT=(0,own n.kind)):=by
   show n.ownT=(0,own n.kind)
   unfold Nd.ownT
   rw[if_neg (fun r=>hm r.1)]
  obtain⟨rfl,rfl⟩:T1=0∧T2=own n.kind:=by have:=HE.out;rw[HT.out]at this;injection this with a b;exact⟨a,b⟩
  clear hm
  go_wp2
  refine bodyPost_ret (v:= .agg #[.int .i64 0,.int .i64 (own n.kind),.bool false]) (by simp[results,Tryz.results152,go_sem,q0,q1,q2,hs1,hd10]) rfl ⟨rfl,?_⟩
  first
   |exact(setCell3 HB.out _ (by simp) _ _ _).alloc (setCell3 HB.out _ (by simp) _ _ _).size _
   |exact setCell3 (HB.out.alloc HB.out.size _) _ (by simp) _ _ _
def Nd.lays(n:Nd):List (Int×Int×Bool):=if n.mode=1 then [(2,n.tag,true),(n.ownT.1,n.ownT.2,false)]else [(n.ownT.1,n.ownT.2,false)]
def lcells(l:List (Int×Int×Bool)):List Value:=l.flatMap fun t=> [.int .i64 t.1,.int .i64 t.2.1,.bool t.2.2]
theorem layers_any(n:Nd)(ka:Option Addr)(kc:Nat)(w:World)(hn:Nums w)(ht: -1≤n.tag)(hk:0≤n.kind)(hk':n.kind≤9)(hm1:n.mode=1→0≤n.tag):
 Calls Tryz.prog 172 #[.agg #[.int .i64 n.kind,.int .i64 n.tag,.int .i64 n.mode,.slice ka n.kids.length kc]] w fun e w'=>∃g,e= .returned (.slice (some ⟨g,0,none⟩) n.lays.length n.lays.length)∧(∃T,w'.heap[g]? =some (.cells (lcells n.lays).toArray T (0,0)))∧Below w.heap.size w w':=by
 have HO:Hid (∀wq,Below w.heap.size w wq→Calls Tryz.prog 152 #[.agg #[.int .i64 n.kind,.int .i64 n.tag,.int .i64 n.mode,.slice ka n.kids.length kc]] wq fun e w'=>e= .returned (.agg #[.int .i64 n.ownT.1,.int .i64 n.ownT.2,.bool false])∧Below wq.heap.size wq w'):=fun wq q=>own_first n ka kc wq (hn.below q) ht hk hk'
 by_cases hm:n.mode=1
 ·have HA:Hid (∀wq,Below w.heap.size w wq→Calls Tryz.prog 110 #[.agg #[.int .i64 n.kind,.int .i64 n.tag,.int .i64 n.mode,.slice ka n.kids.length kc]] wq fun e w'=>e= .returned (.tuple #[.agg #[.int .i64 2,.int .i64 n.tag,.bool true],.bool true])∧Below wq.heap.size wq w'):=fun wq q=>around_yes n ka kc wq hm (hn.below q) (hm1 hm) hk
  have e:n.lays=[(2,n.tag,true),(n.ownT.1,n.ownT.2,false)]:=by unfold Nd.lays;rw[if_pos hm]
  rw[e]
  have RUN:Hid (∀args w,(callFunc 152 args).run Tryz.prog w= .ok (.enter 152 args) w):=fun args w=>run_enter Tryz.func152 (by kernel_rfl) (by rfl) args w
  clear hm hn hm1 e
  go_enter Tryz.func172,Tryz.ntmps172
  go_wp2_with fail
  refine(HA.out _ ((Below.refl _ _).alloc (Nat.le_refl _) _)).mono ?_
  rintro e w1 ⟨rfl,hb1⟩
  have HB1:Hid (Below w.heap.size w w1):=below_alloc hb1
  have hG:=block_below (heap_alloc_new w (.cells #[.int .i64 n.kind,.int .i64 n.tag,.int .i64 n.mode,.slice ka n.kids.length kc] 58)) hb1
  have hs1:=lt_of_block hG
  have p0:w1.cell? ⟨w.heap.size,0,none⟩=some (.int .i64 n.kind):=by simp[World.cell?,hG]
  have p1:w1.cell? ⟨w.heap.size,1,none⟩=some (.int .i64 n.tag):=by simp[World.cell?,hG]
  have p2:w1.cell? ⟨w.heap.size,2,none⟩=some (.int .i64 n.mode):=by simp[World.cell?,hG]
  have p3:w1.cell? ⟨w.heap.size,3,none⟩=some (.slice ka n.kids.length kc):=by simp[World.cell?,hG]
  have HB2:Hid (∀o,Below w.heap.size w (w1.alloc o).drew):=fun o=>(HB1.out.alloc HB1.out.size o).drew
  clear hb1 hG
  go_wp2_with fail
  go_region_law (refine step_calls rfl 152 _ _ rfl #[.agg #[.int .i64 n.kind,.int .i64 n.tag,.int .i64 n.mode,.slice ka n.kids.length kc]] (by simp[Act.eval,Act.put]) (.agg #[.int .i64 n.ownT.1,.int .i64 n.ownT.2,.bool false]) (fun w''=>Below ((w1.alloc (.cells #[.int .i64 2,.int .i64 n.tag,.bool true] 149)).drew).heap.size ((w1.alloc (.cells #[.int .i64 2,.int .i64 n.tag,.bool true] 149)).drew) w'') (RUN.out _ _) (HO.out _ (HB2.out _)) ?_;intro w5 hb5;have HB5:=(HB2.out _).trans (hb5.mono (HB2.out _).size);have hF:=block_below (heap_alloc_new w1.drew (.cells #[.int .i64 2,.int .i64 n.tag,.bool true] 149)) hb5;have t0:w5.cell? ⟨w1.heap.size,0,none⟩=some (.int .i64 2):=(by simp[World.cell?]at hF ⊢;simp[hF]);have t1:w5.cell? ⟨w1.heap.size,1,none⟩=some (.int .i64 n.tag):=(by simp[World.cell?]at hF ⊢;simp[hF]);have t2:w5.cell? ⟨w1.heap.size,2,none⟩=some (.bool true):=(by simp[World.cell?]at hF ⊢;simp[hF]);clear hb5 hF)
  all_goals
   have HB6:Hid (Below w.heap.size w w5):=HB5
   clear HB5
   go_wp2
   go_ret
   exact⟨w5.heap.size,rfl,⟨_,heap_alloc_new w5 _⟩,HB6.out.alloc HB6.out.size _⟩
 ·have HA:Hid (∀wq,Calls Tryz.prog 110 #[.agg #[.int .i64 n.kind,.int .i64 n.tag,.int .i64 n.mode,.slice ka n.kids.length kc]] wq fun e w'=>e= .returned (.tuple #[.agg #[.int .i64 0,.int .i64 0,.bool false],.bool false])∧Below wq.heap.size wq w'):=fun wq=>around_no n ka kc wq hm
  have e:n.lays=[(n.ownT.1,n.ownT.2,false)]:=by unfold Nd.lays;rw[if_neg hm]
  rw[e]
  clear hm hn hm1 e
  go_enter Tryz.func172,Tryz.ntmps172
  go_wp2_with fail
  refine(HA.out _).mono ?_
  rintro e w1 ⟨rfl,hb1⟩
  have HB1:Hid (Below w.heap.size w w1):=below_alloc hb1
  have hG:=block_below (heap_alloc_new w (.cells #[.int .i64 n.kind,.int .i64 n.tag,.int .i64 n.mode,.slice ka n.kids.length kc] 58)) hb1
  have hs1:=lt_of_block hG
  have p0:w1.cell? ⟨w.heap.size,0,none⟩=some (.int .i64 n.kind):=by simp[World.cell?,hG]
  have p1:w1.cell? ⟨w.heap.size,1,none⟩=some (.int .i64 n.tag):=by simp[World.cell?,hG]
  have p2:w1.cell? ⟨w.heap.size,2,none⟩=some (.int .i64 n.mode):=by simp[World.cell?,hG]
  have p3:w1.cell? ⟨w.heap.size,3,none⟩=some (.slice ka n.kids.length kc):=by simp[World.cell?,hG]
  clear hb1 hG
  go_wp2_with fail
  refine(HO.out _ (HB1.out.alloc HB1.out.size _)).mono ?_
  rintro e w2 ⟨rfl,hb2⟩
  have HB2:Hid (Below w.heap.size w w2):=HB1.out.trans ((below_alloc hb2).mono HB1.out.size)
  clear hb2
  go_wp2
  go_ret
  exact⟨w2.heap.size,rfl,⟨_,heap_alloc_new w2 _⟩,HB2.out.alloc HB2.out.size _⟩
end Go.Proofs.YtkkicodfpekbgaaGreatDoor
namespace Go.Proofs.YtkkicodfpekbgaaGreatDoor
open Go.RowKit Go.Extern.Stop Go.Stop Go.Extern
set_option linter.unusedSimpArgs false
set_option linter.unusedVariables false
set_option maxRecDepth 100000
set_option maxHeartbeats 8000000
theorem Tryz.isTypeOf(v:Value)(w:World):(Extern.ReflectliteType.typeOf #[.iface 291 v]).run Tryz.prog w= .ok (.iface 220 (.agg #[.pointer (some ⟨19,291,none⟩)])) w:=by kernel_rfl
def compEntry:Array Value→Sem Value:=Extern.ReflectliteType.method fun t=>do Extern.Rtype.noPackHeld "Comparable" t;pure (.bool (←typeInfo t).comparable)
theorem Tryz.isComparable(w:World):(compEntry #[.agg #[.pointer (some ⟨19,291,none⟩)]]).run Tryz.prog w= .ok (.bool true) w:=by kernel_rfl
theorem Tryz.callComparable(w:World):(callFunc 237 #[.agg #[.pointer (some ⟨19,291,none⟩)]]).run Tryz.prog w= .ok (.value (.bool true)) w:=by
 rw[@run_callFunc_extern Tryz.prog 237 _ compEntry Tryz.func237 (by kernel_rfl) (by kernel_rfl) (by kernel_rfl) (by kernel_rfl),Tryz.isComparable]
 rfl
theorem Tryz.callTypeOf(v:Value)(w:World):(callFunc 90 #[.iface 291 v]).run Tryz.prog w= .ok (.value (.iface 220 (.agg #[.pointer (some ⟨19,291,none⟩)]))) w:=by
 rw[@run_callFunc_extern Tryz.prog 90 _ Extern.ReflectliteType.typeOf Tryz.func90 (by kernel_rfl) (by kernel_rfl) (by kernel_rfl) (by kernel_rfl),Tryz.isTypeOf]
 rfl
theorem Tryz.isMethodComparable(v:Value)(w:World):(Go.method 424 220 v "Comparable").run Tryz.prog w= .ok (237,v) w:=by kernel_rfl
theorem Tryz.isComp:(Tryz.prog.info? 291).map (·.comparable)=some true:=by kernel_rfl
theorem Tryz.isSize:(Tryz.prog.info? 312).map (·.size)=some 1:=by kernel_rfl
theorem Tryz.noIsE(v:Value)(xT:TypeId)(w:World):(Instr.typeAssert (.iface 291 v) xT 222 true).run Tryz.prog w= .ok (.tuple #[.nilIface,.bool false]) w:=run_typeAssert_lacksB Tryz.underlying222 (by kernel_rfl) (by kernel_rfl) v xT w
theorem Tryz.noUnwrapE(v:Value)(xT:TypeId)(w:World):(Instr.typeAssert (.iface 291 v) xT 225 true).run Tryz.prog w= .ok (.tuple #[.nilIface,.bool false]) w:=run_typeAssert_lacksB Tryz.underlying225 (by kernel_rfl) (by kernel_rfl) v xT w
theorem Tryz.noUnwrapsE(v:Value)(xT:TypeId)(w:World):(Instr.typeAssert (.iface 291 v) xT 227 true).run Tryz.prog w= .ok (.tuple #[.nilIface,.bool false]) w:=run_typeAssert_lacksB Tryz.underlying227 (by kernel_rfl) (by kernel_rfl) v xT w
theorem Tryz.noIsF(v:Value)(xT:TypeId)(w:World):(Instr.typeAssert (.iface 155 v) xT 222 true).run Tryz.prog w= .ok (.tuple #[.nilIface,.bool false]) w:=run_typeAssert_lacksB Tryz.underlying222 (by kernel_rfl) (by kernel_rfl) v xT w
theorem Tryz.hasUnwrapF(v:Value)(xT:TypeId)(w:World):(Instr.typeAssert (.iface 155 v) xT 225 true).run Tryz.prog w= .ok (.tuple #[.iface 155 v,.bool true]) w:=run_typeAssert_hasB Tryz.underlying225 (by kernel_rfl) v xT w
theorem Tryz.methodUnwrap(v:Value)(w:World):(Go.method 424 155 v "Unwrap").run Tryz.prog w= .ok (231,v) w:=by kernel_rfl
def fault(p:Int)(a:Addr):Value:= .iface 155 (.agg #[.int .i64 p,.iface 291 (.pointer (some a))])
theorem is_same(p:Int)(b:Addr)(w:World):
 Calls Tryz.prog 59 #[fault p b,.iface 291 (.pointer (some b))] w fun e w'=>e= .returned (.bool true)∧Below w.heap.size w w':=by
 obtain⟨i,hi,hcmp⟩:=Option.map_eq_some_iff.1 Tryz.isComp
 obtain⟨j,hj,hjs⟩:=Option.map_eq_some_iff.1 Tryz.isSize
 have h8:=Tryz.callTypeOf
 have h32:=Tryz.callComparable
 have mR:=Tryz.isMethodComparable
 have nF:=Tryz.noIsF
 have uF:=Tryz.hasUnwrapF
 have mU:=Tryz.methodUnwrap
 have heq:=fun w=>run_eql_iface_ptr_same (P:=Tryz.prog) w b Tryz.underlying85 Tryz.underlying291 hi hcmp hj
 have hty:=fun x w=>run_eql_iface_types (P:=Tryz.prog) 155 291 x (.pointer (some b)) Tryz.underlying85 (by decide) w
 unfold fault
 go_enter Tryz.func59,Tryz.ntmps59
 go_wp2
 refine wp_loop_rounds 2 ?_
 rw[rounds_succ]
 go_wp2
 rw[rounds_succ]
 go_wp2
 go_ret
 exact⟨rfl,(Below.refl _ _).alloc (Nat.le_refl _) _⟩
theorem is_other(p:Int)(a b:Addr)(ca cb:Array Value)(ta tb:TypeId)(w:World)(hne:a≠b)(ha:w.heap[a.block]? =some (.cells ca ta (0,0)))(hb:w.heap[b.block]? =some (.cells cb tb (0,0))):
 Calls Tryz.prog 59 #[fault p a,.iface 291 (.pointer (some b))] w fun e w'=>e= .returned (.bool false)∧Below w.heap.size w w':=by
 obtain⟨i,hi,hcmp⟩:=Option.map_eq_some_iff.1 Tryz.isComp
 obtain⟨j,hj,hjs⟩:=Option.map_eq_some_iff.1 Tryz.isSize
 have lt:∀{k:Nat} {o:Obj},w.heap[k]? =some o→k<w.heap.size:=fun {k o} h=>by
  rcases Nat.lt_or_ge k w.heap.size with h'|h'
  ·exact h'
  ·rw[Array.getElem?_eq_none h']at h;cases h
 have heq:=fun o=>run_eql_iface_ptr_other (P:=Tryz.prog) (w.alloc o) Tryz.underlying85 Tryz.underlying291 hi hcmp hj (by rw[hjs];decide) hne ((Below.heap_alloc w o _ (lt ha)).trans ha) ((Below.heap_alloc w o _ (lt hb)).trans hb)
 clear lt ha hb
 have h8:=Tryz.callTypeOf
 have h32:=Tryz.callComparable
 have mR:=Tryz.isMethodComparable
 have nF:=Tryz.noIsF
 have uF:=Tryz.hasUnwrapF
 have mU:=Tryz.methodUnwrap
 have nE:=Tryz.noIsE
 have uE:=Tryz.noUnwrapE
 have vE:=Tryz.noUnwrapsE
 have hty:=fun x w=>run_eql_iface_types (P:=Tryz.prog) 155 291 x (.pointer (some b)) Tryz.underlying85 (by decide) w
 unfold fault
 go_enter Tryz.func59,Tryz.ntmps59
 go_wp2
 refine wp_loop_rounds 2 ?_
 rw[rounds_succ]
 go_wp2
 rw[rounds_succ]
 go_wp2
 go_ret
 exact⟨rfl,(Below.refl _ _).alloc (Nat.le_refl _) _⟩
theorem is_any(p:Int)(a b:Addr)(w:World)(ha:∃c t,w.heap[a.block]? =some (.cells c t (0,0)))(hb:∃c t,w.heap[b.block]? =some (.cells c t (0,0))):
 Calls Tryz.prog 59 #[fault p a,.iface 291 (.pointer (some b))] w fun e w'=>e= .returned (.bool (decide (a=b)))∧Below w.heap.size w w':=by
 by_cases h:a=b
 ·subst h
  simpa using is_same p a w
 ·obtain⟨c,t,ha⟩:=ha
  obtain⟨c',t',hb⟩:=hb
  simpa [h]using is_other p a b c c' t t' w h ha hb
end Go.Proofs.YtkkicodfpekbgaaGreatDoor
namespace Go.Proofs.YtkkicodfpekbgaaGreatDoor
open Go.RowKit
set_option linter.unusedSimpArgs false
set_option linter.unusedVariables false
set_option maxRecDepth 100000
set_option maxHeartbeats 8000000
abbrev Sn:=Fin 12
def Sn.Long:Sn:=⟨0,by decide⟩
def Sn.End:Sn:=⟨1,by decide⟩
def Sn.Tag:Sn:=⟨2,by decide⟩
def Sn.Length:Sn:=⟨3,by decide⟩
def Sn.Value:Sn:=⟨4,by decide⟩
def Sn.More:Sn:=⟨5,by decide⟩
def Sn.Order:Sn:=⟨6,by decide⟩
def Sn.Default:Sn:=⟨7,by decide⟩
def Sn.Deep:Sn:=⟨8,by decide⟩
def Sn.Tree:Sn:=⟨9,by decide⟩
def Sn.Card:Sn:=⟨10,by decide⟩
def Sn.Mark:Sn:=⟨11,by decide⟩
theorem Sn.all{P:Sn→Prop}(h0:P .Long)(h1:P .End)(h2:P .Tag)(h3:P .Length)(h4:P .Value)(h5:P .More)(h6:P .Order)(h7:P .Default)(h8:P .Deep)(h9:P .Tree)(h10:P .Card)(h11:P .Mark):∀s,P s
 |⟨0,_⟩=>h0
 |⟨1,_⟩=>h1
 |⟨2,_⟩=>h2
 |⟨3,_⟩=>h3
 |⟨4,_⟩=>h4
 |⟨5,_⟩=>h5
 |⟨6,_⟩=>h6
 |⟨7,_⟩=>h7
 |⟨8,_⟩=>h8
 |⟨9,_⟩=>h9
 |⟨10,_⟩=>h10
 |⟨11,_⟩=>h11
 |⟨n+12,h⟩=>absurd h (by omega)
def Sn.var(s:Sn):Nat:=[0,1,2,3,4,5,6,7,8,9,10,11].getD s.val 0
def Sn.code(s:Sn):Int:=[2,3,4,5,6,7,8,9,10,11,12,13].getD s.val 0
structure Sent(w:World)(sn:Sn→Addr):Prop where
 c:∀s:Sn,w.cell? ⟨s.var,0,none⟩=some (.iface 291 (.pointer (some (sn s))))
 r:∀s:Sn,∃c t,w.heap[(sn s).block]? =some (.cells c t (0,0))
 inj:∀s t:Sn,sn s=sn t→s=t
theorem cell_lt{w:World}{a:Addr}{v:Value}(h:w.cell? a=some v):a.block<w.heap.size:=by
 rcases Nat.lt_or_ge a.block w.heap.size with h'|h'
 ·exact h'
 ·simp[World.cell?,Array.getElem?_eq_none h']at h
theorem row_lt{w:World}{k:Nat}{o:Obj}(h:w.heap[k]? =some o):k<w.heap.size:=by
 rcases Nat.lt_or_ge k w.heap.size with h'|h'
 ·exact h'
 ·rw[Array.getElem?_eq_none h']at h;cases h
theorem row_below{w w':World}{k:Nat}(h:∃c t,w.heap[k]? =some (.cells c t (0,0)))(hb:Below w.heap.size w w'):∃c t,w'.heap[k]? =some (.cells c t (0,0)):=by
 obtain⟨c,t,e⟩:=h;exact⟨c,t,(hb.block _ (row_lt e)).trans e⟩
theorem Sent.below{w w':World}{sn:Sn→Addr}(h:Sent w sn)(hb:Below w.heap.size w w'):Sent w' sn where
 c:=fun s=>(hb.cell (cell_lt (h.c s))).trans (h.c s)
 r:=fun s=>row_below (h.r s) hb
 inj:=h.inj
theorem bcell{W w1:World}(hb:Below W.heap.size W w1):(∀b o,b<W.heap.size→w1.cell? ⟨b,o,none⟩=W.cell? ⟨b,o,none⟩)∧(∀b o,b<W.heap.size→w1.frozen? ⟨b,o,none⟩=W.frozen? ⟨b,o,none⟩):=
 ⟨fun b o h=>hb.cell (p:=⟨b,o,none⟩) h,fun b o h=>hb.frozen (p:=⟨b,o,none⟩) h⟩
theorem Sent.cLong{w:World}{sn:Sn→Addr}(h:Sent w sn):w.cell? ⟨0,0,none⟩=some (.iface 291 (.pointer (some (sn .Long)))):=h.c .Long
theorem Sent.cEnd{w:World}{sn:Sn→Addr}(h:Sent w sn):w.cell? ⟨1,0,none⟩=some (.iface 291 (.pointer (some (sn .End)))):=h.c .End
theorem Sent.cTag{w:World}{sn:Sn→Addr}(h:Sent w sn):w.cell? ⟨2,0,none⟩=some (.iface 291 (.pointer (some (sn .Tag)))):=h.c .Tag
theorem Sent.cLength{w:World}{sn:Sn→Addr}(h:Sent w sn):w.cell? ⟨3,0,none⟩=some (.iface 291 (.pointer (some (sn .Length)))):=h.c .Length
theorem Sent.cValue{w:World}{sn:Sn→Addr}(h:Sent w sn):w.cell? ⟨4,0,none⟩=some (.iface 291 (.pointer (some (sn .Value)))):=h.c .Value
theorem Sent.cMore{w:World}{sn:Sn→Addr}(h:Sent w sn):w.cell? ⟨5,0,none⟩=some (.iface 291 (.pointer (some (sn .More)))):=h.c .More
theorem Sent.cOrder{w:World}{sn:Sn→Addr}(h:Sent w sn):w.cell? ⟨6,0,none⟩=some (.iface 291 (.pointer (some (sn .Order)))):=h.c .Order
theorem Sent.cDefault{w:World}{sn:Sn→Addr}(h:Sent w sn):w.cell? ⟨7,0,none⟩=some (.iface 291 (.pointer (some (sn .Default)))):=h.c .Default
theorem Sent.cDeep{w:World}{sn:Sn→Addr}(h:Sent w sn):w.cell? ⟨8,0,none⟩=some (.iface 291 (.pointer (some (sn .Deep)))):=h.c .Deep
theorem Sent.cTree{w:World}{sn:Sn→Addr}(h:Sent w sn):w.cell? ⟨9,0,none⟩=some (.iface 291 (.pointer (some (sn .Tree)))):=h.c .Tree
theorem Sent.cCard{w:World}{sn:Sn→Addr}(h:Sent w sn):w.cell? ⟨10,0,none⟩=some (.iface 291 (.pointer (some (sn .Card)))):=h.c .Card
theorem Sent.cMark{w:World}{sn:Sn→Addr}(h:Sent w sn):w.cell? ⟨11,0,none⟩=some (.iface 291 (.pointer (some (sn .Mark)))):=h.c .Mark
theorem Sent.cE{w:World}{sn:Sn→Addr}(h:Sent w sn):w.cell? ⟨1,0,none⟩=some (.iface 291 (.pointer (some (sn .End)))):=h.c .End
theorem Sent.cT{w:World}{sn:Sn→Addr}(h:Sent w sn):w.cell? ⟨2,0,none⟩=some (.iface 291 (.pointer (some (sn .Tag)))):=h.c .Tag
theorem Sent.cL{w:World}{sn:Sn→Addr}(h:Sent w sn):w.cell? ⟨3,0,none⟩=some (.iface 291 (.pointer (some (sn .Length)))):=h.c .Length
def nm(sn:Sn→Addr)(x:Addr):Int:=
 if x=sn .Long then 2 else if x=sn .End then 3 else if x=sn .Tag then 4 else if x=sn .Length then 5 else if x=sn .Value then 6 else if x=sn .More then 7 else if x=sn .Order then 8 else if x=sn .Default then 9 else if x=sn .Deep then 10 else if x=sn .Tree then 11 else if x=sn .Card then 12 else if x=sn .Mark then 13 else 1
theorem Sent.nm{w:World}{sn:Sn→Addr}(h:Sent w sn)(s:Sn):nm sn (sn s)=s.code:=by
 have e:∀s t:Sn,s≠t→¬sn s=sn t:=fun s t q p=>q (h.inj s t p)
 revert s
 unfold Go.Proofs.YtkkicodfpekbgaaGreatDoor.nm
 refine Sn.all ?_ ?_ ?_ ?_ ?_ ?_ ?_ ?_ ?_ ?_ ?_ ?_
 ·rw[if_pos rfl];rfl
 ·rw[if_neg (e .End .Long (by decide)),if_pos rfl];rfl
 ·rw[if_neg (e .Tag .Long (by decide)),if_neg (e .Tag .End (by decide)),if_pos rfl];rfl
 ·rw[if_neg (e .Length .Long (by decide)),if_neg (e .Length .End (by decide)),if_neg (e .Length .Tag (by decide)),if_pos rfl];rfl
 ·rw[if_neg (e .Value .Long (by decide)),if_neg (e .Value .End (by decide)),if_neg (e .Value .Tag (by decide)),if_neg (e .Value .Length (by decide)),if_pos rfl];rfl
 ·rw[if_neg (e .More .Long (by decide)),if_neg (e .More .End (by decide)),if_neg (e .More .Tag (by decide)),if_neg (e .More .Length (by decide)),if_neg (e .More .Value (by decide)),if_pos rfl];rfl
 ·rw[if_neg (e .Order .Long (by decide)),if_neg (e .Order .End (by decide)),if_neg (e .Order .Tag (by decide)),if_neg (e .Order .Length (by decide)),if_neg (e .Order .Value (by decide)),if_neg (e .Order .More (by decide)),if_pos rfl];rfl
 ·rw[if_neg (e .Default .Long (by decide)),if_neg (e .Default .End (by decide)),if_neg (e .Default .Tag (by decide)),if_neg (e .Default .Length (by decide)),if_neg (e .Default .Value (by decide)),if_neg (e .Default .More (by decide)),if_neg (e .Default .Order (by decide)),if_pos rfl];rfl
 ·rw[if_neg (e .Deep .Long (by decide)),if_neg (e .Deep .End (by decide)),if_neg (e .Deep .Tag (by decide)),if_neg (e .Deep .Length (by decide)),if_neg (e .Deep .Value (by decide)),if_neg (e .Deep .More (by decide)),if_neg (e .Deep .Order (by decide)),if_neg (e .Deep .Default (by decide)),if_pos rfl];rfl
 ·rw[if_neg (e .Tree .Long (by decide)),if_neg (e .Tree .End (by decide)),if_neg (e .Tree .Tag (by decide)),if_neg (e .Tree .Length (by decide)),if_neg (e .Tree .Value (by decide)),if_neg (e .Tree .More (by decide)),if_neg (e .Tree .Order (by decide)),if_neg (e .Tree .Default (by decide)),if_neg (e .Tree .Deep (by decide)),if_pos rfl];rfl
 ·rw[if_neg (e .Card .Long (by decide)),if_neg (e .Card .End (by decide)),if_neg (e .Card .Tag (by decide)),if_neg (e .Card .Length (by decide)),if_neg (e .Card .Value (by decide)),if_neg (e .Card .More (by decide)),if_neg (e .Card .Order (by decide)),if_neg (e .Card .Default (by decide)),if_neg (e .Card .Deep (by decide)),if_neg (e .Card .Tree (by decide)),if_pos rfl];rfl
 ·rw[if_neg (e .Mark .Long (by decide)),if_neg (e .Mark .End (by decide)),if_neg (e .Mark .Tag (by decide)),if_neg (e .Mark .Length (by decide)),if_neg (e .Mark .Value (by decide)),if_neg (e .Mark .More (by decide)),if_neg (e .Mark .Order (by decide)),if_neg (e .Mark .Default (by decide)),if_neg (e .Mark .Deep (by decide)),if_neg (e .Mark .Tree (by decide)),if_neg (e .Mark .Card (by decide)),if_pos rfl];rfl
theorem nm_none{sn:Sn→Addr}{x:Addr}(h:∀s,x≠sn s):nm sn x=1:=by
 unfold nm
 simp[h]
theorem is_u(p:Int)(a b:Addr)(w:World)(ha:∃c t,w.heap[a.block]? =some (.cells c t (0,0)))(hb:∃c t,w.heap[b.block]? =some (.cells c t (0,0))):
 Calls Tryz.prog 59 #[.iface 155 (.agg #[.int .i64 p,.iface 291 (.pointer (some a))]),.iface 291 (.pointer (some b))] w fun e w'=>e= .returned (.bool (decide (a=b)))∧Below w.heap.size w w':=is_any p a b w ha hb
theorem number_nil(w:World):Calls Tryz.prog 34 #[.nilIface] w fun e w'=>e= .returned (.int .i64 0)∧w'=w:=by
 go_enter Tryz.func34,Tryz.ntmps34
 go_wp2
 go_ret
 exact⟨rfl,rfl⟩
theorem number_at(p:Int)(x:Addr)(w:World)(sn:Sn→Addr)(hs:Sent w sn)(hx:∃c t,w.heap[x.block]? =some (.cells c t (0,0))):
 Calls Tryz.prog 34 #[fault p x] w fun e w'=>e= .returned (.int .i64 (nm sn x))∧Below w.heap.size w w':=by
 have h0:=hs.cLong
 have S0:Hid (Sent w sn):=hs
 have X0:Hid (∃c t,w.heap[x.block]? =some (.cells c t (0,0))):=hx
 have B0:Hid (Below w.heap.size w w):=Below.refl _ _
 clear hs hx
 unfold fault
 go_enter Tryz.func34,Tryz.ntmps34
 go_wp2_with fail
 refine(is_u p x (sn .Long) w X0.out (S0.out.r .Long)).mono ?_
 rintro e w1 ⟨rfl,hb⟩
 have B1:Hid (Below w.heap.size w w1):=B0.out.trans (hb.mono B0.out.size)
 have S1:Hid (Sent w1 sn):=S0.out.below hb
 have X1:Hid (∃c t,w1.heap[x.block]? =some (.cells c t (0,0))):=row_below X0.out hb
 clear hb h0
 by_cases q0:x=sn .Long
 ·rw[decide_eq_true q0]
  have e:Hid (nm sn x=2):=by
   show nm sn x=2
   unfold nm
   rw[if_pos q0]
  go_wp2_with fail
  go_ret
  exact⟨by rw[e.out];rfl,B1.out⟩
 rw[decide_eq_false q0]
 have h1:=S1.out.cEnd
 go_wp2_with fail
 refine(is_u p x (sn .End) w1 X1.out (S1.out.r .End)).mono ?_
 rintro e w2 ⟨rfl,hb⟩
 have B2:Hid (Below w.heap.size w w2):=B1.out.trans (hb.mono B1.out.size)
 have S2:Hid (Sent w2 sn):=S1.out.below hb
 have X2:Hid (∃c t,w2.heap[x.block]? =some (.cells c t (0,0))):=row_below X1.out hb
 clear hb h1
 by_cases q1:x=sn .End
 ·rw[decide_eq_true q1]
  have e:Hid (nm sn x=3):=by
   show nm sn x=3
   unfold nm
   rw[if_neg q0,if_pos q1]
  go_wp2_with fail
  go_ret
  exact⟨by rw[e.out];rfl,B2.out⟩
 rw[decide_eq_false q1]
 have h2:=S2.out.cTag
 go_wp2_with fail
 refine(is_u p x (sn .Tag) w2 X2.out (S2.out.r .Tag)).mono ?_
 rintro e w3 ⟨rfl,hb⟩
 have B3:Hid (Below w.heap.size w w3):=B2.out.trans (hb.mono B2.out.size)
 have S3:Hid (Sent w3 sn):=S2.out.below hb
 have X3:Hid (∃c t,w3.heap[x.block]? =some (.cells c t (0,0))):=row_below X2.out hb
 clear hb h2
 by_cases q2:x=sn .Tag
 ·rw[decide_eq_true q2]
  have e:Hid (nm sn x=4):=by
   show nm sn x=4
   unfold nm
   rw[if_neg q0,if_neg q1,if_pos q2]
  go_wp2_with fail
  go_ret
  exact⟨by rw[e.out];rfl,B3.out⟩
 rw[decide_eq_false q2]
 have h3:=S3.out.cLength
 go_wp2_with fail
 refine(is_u p x (sn .Length) w3 X3.out (S3.out.r .Length)).mono ?_
 rintro e w4 ⟨rfl,hb⟩
 have B4:Hid (Below w.heap.size w w4):=B3.out.trans (hb.mono B3.out.size)
 have S4:Hid (Sent w4 sn):=S3.out.below hb
 have X4:Hid (∃c t,w4.heap[x.block]? =some (.cells c t (0,0))):=row_below X3.out hb
 clear hb h3
 by_cases q3:x=sn .Length
 ·rw[decide_eq_true q3]
  have e:Hid (nm sn x=5):=by
   show nm sn x=5
   unfold nm
   rw[if_neg q0,if_neg q1,if_neg q2,if_pos q3]
  go_wp2_with fail
  go_ret
  exact⟨by rw[e.out];rfl,B4.out⟩
 rw[decide_eq_false q3]
 have h4:=S4.out.cValue
 go_wp2_with fail
 refine(is_u p x (sn .Value) w4 X4.out (S4.out.r .Value)).mono ?_
 rintro e w5 ⟨rfl,hb⟩
 have B5:Hid (Below w.heap.size w w5):=B4.out.trans (hb.mono B4.out.size)
 have S5:Hid (Sent w5 sn):=S4.out.below hb
 have X5:Hid (∃c t,w5.heap[x.block]? =some (.cells c t (0,0))):=row_below X4.out hb
 clear hb h4
 by_cases q4:x=sn .Value
 ·rw[decide_eq_true q4]
  have e:Hid (nm sn x=6):=by
   show nm sn x=6
   unfold nm
   rw[if_neg q0,if_neg q1,if_neg q2,if_neg q3,if_pos q4]
  go_wp2_with fail
  go_ret
  exact⟨by rw[e.out];rfl,B5.out⟩
 rw[decide_eq_false q4]
 have h5:=S5.out.cMore
 go_wp2_with fail
 refine(is_u p x (sn .More) w5 X5.out (S5.out.r .More)).mono ?_
 rintro e w6 ⟨rfl,hb⟩
 have B6:Hid (Below w.heap.size w w6):=B5.out.trans (hb.mono B5.out.size)
 have S6:Hid (Sent w6 sn):=S5.out.below hb
 have X6:Hid (∃c t,w6.heap[x.block]? =some (.cells c t (0,0))):=row_below X5.out hb
 clear hb h5
 by_cases q5:x=sn .More
 ·rw[decide_eq_true q5]
  have e:Hid (nm sn x=7):=by
   show nm sn x=7
   unfold nm
   rw[if_neg q0,if_neg q1,if_neg q2,if_neg q3,if_neg q4,if_pos q5]
  go_wp2_with fail
  go_ret
  exact⟨by rw[e.out];rfl,B6.out⟩
 rw[decide_eq_false q5]
 have h6:=S6.out.cOrder
 go_wp2_with fail
 refine(is_u p x (sn .Order) w6 X6.out (S6.out.r .Order)).mono ?_
 rintro e w7 ⟨rfl,hb⟩
 have B7:Hid (Below w.heap.size w w7):=B6.out.trans (hb.mono B6.out.size)
 have S7:Hid (Sent w7 sn):=S6.out.below hb
 have X7:Hid (∃c t,w7.heap[x.block]? =some (.cells c t (0,0))):=row_below X6.out hb
 clear hb h6
 by_cases q6:x=sn .Order
 ·rw[decide_eq_true q6]
  have e:Hid (nm sn x=8):=by
   show nm sn x=8
   unfold nm
   rw[if_neg q0,if_neg q1,if_neg q2,if_neg q3,if_neg q4,if_neg q5,if_pos q6]
  go_wp2_with fail
  go_ret
  exact⟨by rw[e.out];rfl,B7.out⟩
 rw[decide_eq_false q6]
 have h7:=S7.out.cDefault
 go_wp2_with fail
 refine(is_u p x (sn .Default) w7 X7.out (S7.out.r .Default)).mono ?_
 rintro e w8 ⟨rfl,hb⟩
 have B8:Hid (Below w.heap.size w w8):=B7.out.trans (hb.mono B7.out.size)
 have S8:Hid (Sent w8 sn):=S7.out.below hb
 have X8:Hid (∃c t,w8.heap[x.block]? =some (.cells c t (0,0))):=row_below X7.out hb
 clear hb h7
 by_cases q7:x=sn .Default
 ·rw[decide_eq_true q7]
  have e:Hid (nm sn x=9):=by
   show nm sn x=9
   unfold nm
   rw[if_neg q0,if_neg q1,if_neg q2,if_neg q3,if_neg q4,if_neg q5,if_neg q6,if_pos q7]
  go_wp2_with fail
  go_ret
  exact⟨by rw[e.out];rfl,B8.out⟩
 rw[decide_eq_false q7]
 have h8:=S8.out.cDeep
 go_wp2_with fail
 refine(is_u p x (sn .Deep) w8 X8.out (S8.out.r .Deep)).mono ?_
 rintro e w9 ⟨rfl,hb⟩
 have B9:Hid (Below w.heap.size w w9):=B8.out.trans (hb.mono B8.out.size)
 have S9:Hid (Sent w9 sn):=S8.out.below hb
 have X9:Hid (∃c t,w9.heap[x.block]? =some (.cells c t (0,0))):=row_below X8.out hb
 clear hb h8
 by_cases q8:x=sn .Deep
 ·rw[decide_eq_true q8]
  have e:Hid (nm sn x=10):=by
   show nm sn x=10
   unfold nm
   rw[if_neg q0,if_neg q1,if_neg q2,if_neg q3,if_neg q4,if_neg q5,if_neg q6,if_neg q7,if_pos q8]
  go_wp2_with fail
  go_ret
  exact⟨by rw[e.out];rfl,B9.out⟩
 rw[decide_eq_false q8]
 have h9:=S9.out.cTree
 go_wp2_with fail
 refine(is_u p x (sn .Tree) w9 X9.out (S9.out.r .Tree)).mono ?_
 rintro e w10 ⟨rfl,hb⟩
 have B10:Hid (Below w.heap.size w w10):=B9.out.trans (hb.mono B9.out.size)
 have S10:Hid (Sent w10 sn):=S9.out.below hb
 have X10:Hid (∃c t,w10.heap[x.block]? =some (.cells c t (0,0))):=row_below X9.out hb
 clear hb h9
 by_cases q9:x=sn .Tree
 ·rw[decide_eq_true q9]
  have e:Hid (nm sn x=11):=by
   show nm sn x=11
   unfold nm
   rw[if_neg q0,if_neg q1,if_neg q2,if_neg q3,if_neg q4,if_neg q5,if_neg q6,if_neg q7,if_neg q8,if_pos q9]
  go_wp2_with fail
  go_ret
  exact⟨by rw[e.out];rfl,B10.out⟩
 rw[decide_eq_false q9]
 have h10:=S10.out.cCard
 go_wp2_with fail
 refine(is_u p x (sn .Card) w10 X10.out (S10.out.r .Card)).mono ?_
 rintro e w11 ⟨rfl,hb⟩
 have B11:Hid (Below w.heap.size w w11):=B10.out.trans (hb.mono B10.out.size)
 have S11:Hid (Sent w11 sn):=S10.out.below hb
 have X11:Hid (∃c t,w11.heap[x.block]? =some (.cells c t (0,0))):=row_below X10.out hb
 clear hb h10
 by_cases q10:x=sn .Card
 ·rw[decide_eq_true q10]
  have e:Hid (nm sn x=12):=by
   show nm sn x=12
   unfold nm
   rw[if_neg q0,if_neg q1,if_neg q2,if_neg q3,if_neg q4,if_neg q5,if_neg q6,if_neg q7,if_neg q8,if_neg q9,if_pos q10]
  go_wp2_with fail
  go_ret
  exact⟨by rw[e.out];rfl,B11.out⟩
 rw[decide_eq_false q10]
 have h11:=S11.out.cMark
 go_wp2_with fail
 refine(is_u p x (sn .Mark) w11 X11.out (S11.out.r .Mark)).mono ?_
 rintro e w12 ⟨rfl,hb⟩
 have B12:Hid (Below w.heap.size w w12):=B11.out.trans (hb.mono B11.out.size)
 have S12:Hid (Sent w12 sn):=S11.out.below hb
 have X12:Hid (∃c t,w12.heap[x.block]? =some (.cells c t (0,0))):=row_below X11.out hb
 clear hb h11
 by_cases q11:x=sn .Mark
 ·rw[decide_eq_true q11]
  have e:Hid (nm sn x=13):=by
   show nm sn x=13
   unfold nm
   rw[if_neg q0,if_neg q1,if_neg q2,if_neg q3,if_neg q4,if_neg q5,if_neg q6,if_neg q7,if_neg q8,if_neg q9,if_neg q10,if_pos q11]
  go_wp2_with fail
  go_ret
  exact⟨by rw[e.out];rfl,B12.out⟩
 rw[decide_eq_false q11]
 have e:Hid (nm sn x=1):=by
  show nm sn x=1
  unfold nm
  rw[if_neg q0,if_neg q1,if_neg q2,if_neg q3,if_neg q4,if_neg q5,if_neg q6,if_neg q7,if_neg q8,if_neg q9,if_neg q10,if_neg q11]
 go_wp2_with fail
 go_ret
 exact⟨by rw[e.out];rfl,B12.out⟩
theorem number_sn(p:Int)(s:Sn)(w:World)(sn:Sn→Addr)(hs:Sent w sn):
 Calls Tryz.prog 34 #[fault p (sn s)] w fun e w'=>e= .returned (.int .i64 s.code)∧Below w.heap.size w w':=by
 rw[←hs.nm s];exact number_at p (sn s) w sn hs (hs.r s)
theorem number_E(p:Int)(w:World)(sn:Sn→Addr)(hs:Sent w sn):Calls Tryz.prog 34 #[fault p (sn .End)] w fun e w'=>e= .returned (.int .i64 3)∧Below w.heap.size w w':=number_sn p .End w sn hs
theorem number_T(p:Int)(w:World)(sn:Sn→Addr)(hs:Sent w sn):Calls Tryz.prog 34 #[fault p (sn .Tag)] w fun e w'=>e= .returned (.int .i64 4)∧Below w.heap.size w w':=number_sn p .Tag w sn hs
theorem number_L(p:Int)(w:World)(sn:Sn→Addr)(hs:Sent w sn):Calls Tryz.prog 34 #[fault p (sn .Length)] w fun e w'=>e= .returned (.int .i64 5)∧Below w.heap.size w w':=number_sn p .Length w sn hs
theorem rl_empty(t:ByteArray)(w:World)(sn:Sn→Addr)(hs:Sent w sn)(ht:t.size=0):
 Calls Tryz.prog 186 #[.string t] w fun e w'=>e= .returned (.tuple #[.int .i64 0,.int .i64 0,.iface 291 (.pointer (some (sn .End)))])∧Below w.heap.size w w':=by
 have h0:=hs.cE
 have he:=emp_t ht
 clear hs
 go_enter Tryz.func186,Tryz.ntmps186
 go_wp2
 go_quiet (fail)
 go_wp2
 go_ret3
 exact⟨rfl,Go.below_drewN (Below.refl _ _) _⟩
theorem rl_short(t:ByteArray)(w:World)(h:0<t.size)(_hm:t.size≤9223372036854775807)(hb:(t[0].toNat:Int)<128):
 Calls Tryz.prog 186 #[.string t] w fun e w'=>e= .returned (.tuple #[.int .i64 1,.int .i64 (t[0].toNat:Int),.nilIface])∧Below w.heap.size w w':=by
 have he:=emp_f h
 go_enter Tryz.func186,Tryz.ntmps186
 go_wp2
 go_quiet (fail)
 go_wp2
 go_ret3
 exact⟨rfl,Go.below_drewN (Below.refl _ _) _⟩
theorem rl_bad(t:ByteArray)(w:World)(sn:Sn→Addr)(hs:Sent w sn)(h:0<t.size)(_hm:t.size≤9223372036854775807)(hb:128≤(t[0].toNat:Int))(hc:(t[0].toNat:Int)=128∨131<(t[0].toNat:Int)):
 Calls Tryz.prog 186 #[.string t] w fun e w'=>e= .returned (.tuple #[.int .i64 0,.int .i64 0,.iface 291 (.pointer (some (sn .Length)))])∧Below w.heap.size w w':=by
 have h2:=hs.cL
 have he:=emp_f h
 have hx:(t[0].toNat:Int)<256:=by have:=t[0].toNat_lt;omega
 clear hs
 by_cases hz:(t[0].toNat:Int)-128=0
 ·have hz1:((t[0].toNat:Int)-128==0)=true:=beq_iff_eq.2 hz
  clear hc hz
  go_enter Tryz.func186,Tryz.ntmps186
  go_wp2
  go_quiet (fail)
  go_wp2
  go_ret3
  exact⟨rfl,Go.below_drewN (Below.refl _ _) _⟩
 ·have hz1:((t[0].toNat:Int)-128==0)=false:=beq_eq_false_iff_ne.2 hz
  have hz2:3<(t[0].toNat:Int)-128:=by omega
  clear hc hz
  go_enter Tryz.func186,Tryz.ntmps186
  go_wp2
  go_quiet (fail)
  go_wp2
  go_ret3
  exact⟨rfl,Go.below_drewN (Below.refl _ _) _⟩
theorem rl_end(t:ByteArray)(w:World)(sn:Sn→Addr)(hs:Sent w sn)(h:0<t.size)(_hm:t.size≤9223372036854775807)(hb:128<(t[0].toNat:Int))(hc:(t[0].toNat:Int)≤131)(hl:(t.size:Int)≤(t[0].toNat:Int)-128):
 Calls Tryz.prog 186 #[.string t] w fun e w'=>e= .returned (.tuple #[.int .i64 0,.int .i64 0,.iface 291 (.pointer (some (sn .End)))])∧Below w.heap.size w w':=by
 have h2:=hs.cE
 have he:=emp_f h
 have hz1:((t[0].toNat:Int)-128==0)=false:=beq_eq_false_iff_ne.2 (by omega)
 have hz2:(t[0].toNat:Int)-128≤3:=by omega
 clear hs
 go_enter Tryz.func186,Tryz.ntmps186
 go_wp2
 go_quiet (fail)
 go_wp2
 go_ret3
 exact⟨rfl,Go.below_drewN (Below.refl _ _) _⟩
theorem ret3{a b c d:Int}{v:Value}(h1:a=c)(h2:b=d):Ending.returned (.tuple #[.int .i64 a,.int .i64 b,v])= .returned (.tuple #[.int .i64 c,.int .i64 d,v]):=by rw[h1,h2]
theorem rl_ok(t:ByteArray)(w:World)(sn:Sn→Addr)(c:Nat)(hs:Sent w sn)(h:0<t.size)(hm:t.size≤9223372036854775807)(hb1:(t[0].toNat:Int)-128≤c)(hb2:c≤(t[0].toNat:Int)-128)(h1:1≤c)(h3:c≤3)(hl:c<t.size)(hq:(c:Int)=cnt (numTo t c)):
 Calls Tryz.prog 186 #[.string t] w fun e w'=>e= .returned (.tuple #[.int .i64 (1+c),.int .i64 (numTo t c),.nilIface])∧Below w.heap.size w w':=by
 have h2:=hs.cL
 have he:=emp_f h
 have hz1:((t[0].toNat:Int)-128==0)=false:=beq_eq_false_iff_ne.2 (by omega)
 have hz2:(t[0].toNat:Int)-128≤3:=by omega
 have HQ:Hid ((c:Int)=cnt (numTo t c)):=hq
 clear hs hq
 go_enter Tryz.func186,Tryz.ntmps186
 go_wp2
 go_loop [3,6] (fun n i=>∃k:Nat,1≤k∧k≤c+1∧i= .int .i64 k∧n= .int .i64 (numTo t (k-1))) (fun _ i=>c+1-(intOf i).toNat)
 case atStart=>exact⟨1,by omega,by omega,rfl,rfl⟩
 case round=>
  obtain⟨k,hk1,hk,rfl,rfl⟩:=hrel
  have hn:=numTo_bd t (k-1)
  have hn0:0≤numTo t (k-1):=hn.1
  have hn1:numTo t (k-1)<16777216:=hn.2.1 (by omega)
  clear hn
  by_cases hlt:k≤c
  ·have hk2:k<t.size:=by omega
   have hbk:=b8_bd t k
   have HE:Hid ((t[k].toNat:Int)=b8 t k):=b8_get t k hk2
   have HN:Hid (numTo t k=numTo t (k-1)*256+b8 t k):=by
    obtain⟨j,rfl⟩:∃j,k=j+1:=⟨k-1,by omega⟩
    rfl
   go_wp2
   go_round
   case rel=>exact⟨k+1,by omega,by omega,by go_num,by rw[HE.out,IntWalk.wrap64_in _ ⟨by omega,by omega⟩,i64_or8 _ _ (by omega) (by omega) (by omega) (by omega) (by omega),Nat.add_sub_cancel,HN.out]⟩
   case measure=>simp[intOf];omega
  ·have hkc:k=c+1:=by omega
   subst hkc
   simp only[Nat.add_sub_cancel]at hn0 hn1 ⊢
   have HX:Hid ((t[0].toNat:Int)-128=c):=by show _=_;omega
   rcases cnt_cases (numTo t c)with⟨r1,r3⟩|⟨r1,r2,r3⟩|⟨r1,r2,r3⟩|⟨r1,r3⟩
   ·have:=HQ.out;omega
   ·have hbq:((t[0].toNat:Int)-128!=1)=false:=by rw[bne_eq_false_iff_eq];have:=HQ.out;omega
    clear r3
    go_wp2
    go_ret3
    exact⟨ret3 (by rw[HX.out]) rfl,Below.refl _ _⟩
   ·have hbq:((t[0].toNat:Int)-128!=2)=false:=by rw[bne_eq_false_iff_eq];have:=HQ.out;omega
    clear r3
    go_wp2
    go_ret3
    exact⟨ret3 (by rw[HX.out]) rfl,Below.refl _ _⟩
   ·have hbq:((t[0].toNat:Int)-128!=3)=false:=by rw[bne_eq_false_iff_eq];have:=HQ.out;omega
    clear r3
    go_wp2
    go_ret3
    exact⟨ret3 (by rw[HX.out]) rfl,Below.refl _ _⟩
theorem rl_no(t:ByteArray)(w:World)(sn:Sn→Addr)(c:Nat)(hs:Sent w sn)(h:0<t.size)(hm:t.size≤9223372036854775807)(hb1:(t[0].toNat:Int)-128≤c)(hb2:c≤(t[0].toNat:Int)-128)(h1:1≤c)(h3:c≤3)(hl:c<t.size)(hq:¬(c:Int)=cnt (numTo t c)):
 Calls Tryz.prog 186 #[.string t] w fun e w'=>e= .returned (.tuple #[.int .i64 0,.int .i64 0,.iface 291 (.pointer (some (sn .Length)))])∧Below w.heap.size w w':=by
 have h2:=hs.cL
 have he:=emp_f h
 have hz1:((t[0].toNat:Int)-128==0)=false:=beq_eq_false_iff_ne.2 (by omega)
 have hz2:(t[0].toNat:Int)-128≤3:=by omega
 have HQ:Hid (¬(c:Int)=cnt (numTo t c)):=hq
 clear hs hq
 go_enter Tryz.func186,Tryz.ntmps186
 go_wp2
 go_loop [3,6] (fun n i=>∃k:Nat,1≤k∧k≤c+1∧i= .int .i64 k∧n= .int .i64 (numTo t (k-1))) (fun _ i=>c+1-(intOf i).toNat)
 case atStart=>exact⟨1,by omega,by omega,rfl,rfl⟩
 case round=>
  obtain⟨k,hk1,hk,rfl,rfl⟩:=hrel
  have hn:=numTo_bd t (k-1)
  have hn0:0≤numTo t (k-1):=hn.1
  have hn1:numTo t (k-1)<16777216:=hn.2.1 (by omega)
  clear hn
  by_cases hlt:k≤c
  ·have hk2:k<t.size:=by omega
   have hbk:=b8_bd t k
   have HE:Hid ((t[k].toNat:Int)=b8 t k):=b8_get t k hk2
   have HN:Hid (numTo t k=numTo t (k-1)*256+b8 t k):=by
    obtain⟨j,rfl⟩:∃j,k=j+1:=⟨k-1,by omega⟩
    rfl
   go_wp2
   go_round
   case rel=>exact⟨k+1,by omega,by omega,by go_num,by rw[HE.out,IntWalk.wrap64_in _ ⟨by omega,by omega⟩,i64_or8 _ _ (by omega) (by omega) (by omega) (by omega) (by omega),Nat.add_sub_cancel,HN.out]⟩
   case measure=>simp[intOf];omega
  ·have hkc:k=c+1:=by omega
   subst hkc
   simp only[Nat.add_sub_cancel]at hn0 hn1 ⊢
   have HX:Hid ((t[0].toNat:Int)-128=c):=by show _=_;omega
   rcases cnt_cases (numTo t c)with⟨r1,r3⟩|⟨r1,r2,r3⟩|⟨r1,r2,r3⟩|⟨r1,r3⟩
   ·have hbq:((t[0].toNat:Int)-128!=0)=true:=by rw[bne_iff_ne];have:=HQ.out;omega
    clear r3
    go_wp2
    go_quiet (fail)
    go_wp2
    go_ret3
    exact⟨rfl,Go.below_drewN (Below.refl _ _) _⟩
   ·have hbq:((t[0].toNat:Int)-128!=1)=true:=by rw[bne_iff_ne];have:=HQ.out;omega
    clear r3
    go_wp2
    go_quiet (fail)
    go_wp2
    go_ret3
    exact⟨rfl,Go.below_drewN (Below.refl _ _) _⟩
   ·have hbq:((t[0].toNat:Int)-128!=2)=true:=by rw[bne_iff_ne];have:=HQ.out;omega
    clear r3
    go_wp2
    go_quiet (fail)
    go_wp2
    go_ret3
    exact⟨rfl,Go.below_drewN (Below.refl _ _) _⟩
   ·have hbq:((t[0].toNat:Int)-128!=3)=true:=by rw[bne_iff_ne];have:=HQ.out;omega
    clear r3
    go_wp2
    go_quiet (fail)
    go_wp2
    go_ret3
    exact⟨rfl,Go.below_drewN (Below.refl _ _) _⟩
def which(sn:Sn→Addr)(c:Int):Value:=if c=0 then .nilIface else if c=3 then .iface 291 (.pointer (some (sn .End)))else .iface 291 (.pointer (some (sn .Length)))
theorem readLength_any(t:ByteArray)(w:World)(sn:Sn→Addr)(hs:Sent w sn)(hm:t.size≤9223372036854775807):
 Calls Tryz.prog 186 #[.string t] w fun e w'=>e= .returned (.tuple #[.int .i64 (rl t).2.1,.int .i64 (rl t).2.2,which sn (rl t).1])∧Below w.heap.size w w':=by
 unfold rl
 split
 ·rename_i h;exact rl_empty t w sn hs h
 rename_i h
 have h:0<t.size:=by omega
 have hb:=b8_bd t 0
 have e0:=b8_get t 0 h
 split
 ·rename_i h1
  have:=rl_short t w h hm (by omega)
  rw[e0]at this
  exact this
 split
 ·rename_i h1;exact rl_bad t w sn hs h hm (by omega) (by omega)
 split
 ·exact rl_end t w sn hs h hm (by omega) (by omega) (by omega)
 rename_i h1 h2 h3
 obtain⟨c,hc⟩:=Int.eq_ofNat_of_zero_le (show 0≤b8 t 0-128 by omega)
 rw[hc,Int.toNat_natCast]
 split
 ·rename_i h4;exact rl_no t w sn c hs h hm (by omega) (by omega) (by omega) (by omega) (by omega) h4
 ·rename_i h4;exact rl_ok t w sn c hs h hm (by omega) (by omega) (by omega) (by omega) (by omega) (by omega)
theorem readLength_eq(t:ByteArray)(w:World)(sn:Sn→Addr)(c z1 z2:Int)(v:Value)(hs:Sent w sn)(hm:t.size≤9223372036854775807)(h:rl t=(c,z1,z2))(hv:which sn c=v):
 Calls Tryz.prog 186 #[.string t] w fun e w'=>e= .returned (.tuple #[.int .i64 z1,.int .i64 z2,v])∧Below w.heap.size w w':=by
 have:=readLength_any t w sn hs hm
 rw[h]at this
 rw[←hv]
 exact this
def hv(h:Hd):Value:= .agg #[.int .i64 h.c,.bool h.b,.int .i64 h.n,.int .i64 h.s,.int .i64 h.l]
theorem below5{B:Nat}{w w1:World}(h:Below B w w1)(b:Nat)(hb:B≤b)(v0 v1 v2 v3 v4:Value):
 Below B w (((((w1.setCell ⟨b,0,none⟩ v0).setCell ⟨b,1,none⟩ v1).setCell ⟨b,2,none⟩ v2).setCell ⟨b,3,none⟩ v3).setCell ⟨b,4,none⟩ v4):=
 ((((h.setCell (p:=⟨b,0,none⟩) hb v0).setCell (p:=⟨b,1,none⟩) hb v1).setCell (p:=⟨b,2,none⟩) hb v2).setCell (p:=⟨b,3,none⟩) hb v3).setCell (p:=⟨b,4,none⟩) hb v4
theorem rd_empty(s:ByteArray)(p:Nat)(w:World)(sn:Sn→Addr)(hs:Sent w sn)(_hm:s.size≤9223372036854775807)(hp:p≤s.size)(hz:(s.extract p s.size).size=0):
 Calls Tryz.prog 156 #[.string s,.int .i64 p] w fun e w'=>e= .returned (.tuple #[hv .zero,fault p (sn .End)])∧Below w.heap.size w w':=by
 have h0:=hs.cE
 have h0':=cell_lt hs.cE
 have he:=emp_t hz
 clear hs
 unfold fault hv Hd.zero
 go_enter Tryz.func156,Tryz.ntmps156
 go_wp2
 exact bodyPost_ret (v:= .tuple #[.agg #[.int .i64 0,.bool false,.int .i64 0,.int .i64 0,.int .i64 0],.iface 155 (.agg #[.int .i64 p,.iface 291 (.pointer (some (sn .End)))])]) (by simp[results,Tryz.results156,go_sem]) rfl ⟨rfl,(Below.refl _ _).alloc (Nat.le_refl _) _⟩
theorem rd_tag(s:ByteArray)(p:Nat)(w:World)(sn:Sn→Addr)(hs:Sent w sn)(_hm:s.size≤9223372036854775807)(hp:p≤s.size)(hz:0<(s.extract p s.size).size)(hpos:0<s.size-p)(hx1:((s.extract p s.size)[0].toNat:Int)<256)(hx2:30<bits .and .i64 ((s.extract p s.size)[0].toNat:Int) 31):
 Calls Tryz.prog 156 #[.string s,.int .i64 p] w fun e w'=>e= .returned (.tuple #[hv .zero,fault p (sn .Tag)])∧Below w.heap.size w w':=by
 have h1:=hs.cT
 have h1':=cell_lt hs.cT
 have he:=emp_f hz
 clear hs
 unfold fault hv Hd.zero
 go_enter Tryz.func156,Tryz.ntmps156
 go_wp2
 exact bodyPost_ret (v:= .tuple #[.agg #[.int .i64 0,.bool false,.int .i64 0,.int .i64 0,.int .i64 0],.iface 155 (.agg #[.int .i64 p,.iface 291 (.pointer (some (sn .Tag)))])]) (by simp[results,Tryz.results156,go_sem]) rfl ⟨rfl,(Below.refl _ _).alloc (Nat.le_refl _) _⟩
theorem rd_len(s:ByteArray)(p:Nat)(w:World)(sn:Sn→Addr)(z1 z2:Int)(hs:Sent w sn)(hm:s.size≤9223372036854775807)(hp:p≤s.size)(hz:0<(s.extract p s.size).size)(hpos:0<s.size-p)(hx1:((s.extract p s.size)[0].toNat:Int)<256)(hx2:bits .and .i64 ((s.extract p s.size)[0].toNat:Int) 31≤30)(c:Int)(a:Addr)
 (hw:rl ((s.extract p s.size).extract 1 (s.size-p))=(c,z1,z2))(hv':which sn c=(.iface 291 (.pointer (some a)))):
 Calls Tryz.prog 156 #[.string s,.int .i64 p] w fun e w'=>e= .returned (.tuple #[hv .zero,fault p a])∧Below w.heap.size w w':=by
 have HW:Hid (rl ((s.extract p s.size).extract 1 (s.size-p))=(c,z1,z2)):=hw
 have HV:Hid (which sn c=(.iface 291 (.pointer (some a)))):=hv'
 clear hw hv'
 have HS:Hid (Sent w sn):=hs
 have he:=emp_f hz
 clear hs
 unfold fault hv Hd.zero
 go_enter Tryz.func156,Tryz.ntmps156
 go_wp2_with fail
 refine(readLength_eq _ _ sn c z1 z2 (.iface 291 (.pointer (some a))) (HS.out.below ((Below.refl _ _).alloc (Nat.le_refl _) _)) (by simp;omega) HW.out HV.out).mono ?_
 rintro e w1 ⟨rfl,hb⟩
 obtain⟨hc,hf⟩:=bcell hb
 have hz':w.heap.size<w1.heap.size:=by have:=hb.size;simp at this;omega
 have HB:Hid (Below (w.alloc (.cells #[.int .i64 0,.bool false,.int .i64 0,.int .i64 0,.int .i64 0] 179)).heap.size (w.alloc (.cells #[.int .i64 0,.bool false,.int .i64 0,.int .i64 0,.int .i64 0] 179)) w1):=hb
 clear hb
 go_wp2
 refine bodyPost_ret (v:= .tuple #[.agg #[.int .i64 0,.bool false,.int .i64 0,.int .i64 0,.int .i64 0],.iface 155 (.agg #[.int .i64 p,.iface 291 (.pointer (some a))])]) (by simp[results,Tryz.results156,go_sem,hc]) rfl ⟨rfl,?_⟩
 exact below5 (((Below.refl w.heap.size w).alloc (Nat.le_refl _) _).trans (HB.out.mono (by simp))) _ (Nat.le_refl _) _ _ _ _ _
theorem rd_end(s:ByteArray)(p:Nat)(w:World)(sn:Sn→Addr)(z1 z2:Int)(hs:Sent w sn)(hm:s.size≤9223372036854775807)(hp:p≤s.size)(hz:0<(s.extract p s.size).size)(hpos:0<s.size-p)(hx1:((s.extract p s.size)[0].toNat:Int)<256)(hx2:bits .and .i64 ((s.extract p s.size)[0].toNat:Int) 31≤30)
 (hw:rl ((s.extract p s.size).extract 1 (s.size-p))=(0,z1,z2))(b1:0≤z1)(b2:z1≤4)(b3:0≤z2)(b4:z2<16777216)(hl:((s.size-p:Nat):Int)-(z1+1)<z2):
 Calls Tryz.prog 156 #[.string s,.int .i64 p] w fun e w'=>e= .returned (.tuple #[hv .zero,fault p (sn .End)])∧Below w.heap.size w w':=by
 have HW:Hid (rl ((s.extract p s.size).extract 1 (s.size-p))=(0,z1,z2)):=hw
 have HV:Hid (which sn 0= .nilIface):=rfl
 clear hw
 have HS:Hid (Sent w sn):=hs
 have he:=emp_f hz
 have h0:=hs.cE
 have h0':=cell_lt hs.cE
 clear hs
 unfold fault hv Hd.zero
 go_enter Tryz.func156,Tryz.ntmps156
 go_wp2_with fail
 refine(readLength_eq _ _ sn 0 z1 z2 .nilIface (HS.out.below ((Below.refl _ _).alloc (Nat.le_refl _) _)) (by simp;omega) HW.out HV.out).mono ?_
 rintro e w1 ⟨rfl,hb⟩
 have h9:=((HS.out.below ((Below.refl _ _).alloc (Nat.le_refl _) _)).below hb).cE
 obtain⟨hc,hf⟩:=bcell hb
 have hz':w.heap.size<w1.heap.size:=by have:=hb.size;simp at this;omega
 have HB:Hid (Below (w.alloc (.cells #[.int .i64 0,.bool false,.int .i64 0,.int .i64 0,.int .i64 0] 179)).heap.size (w.alloc (.cells #[.int .i64 0,.bool false,.int .i64 0,.int .i64 0,.int .i64 0] 179)) w1):=hb
 clear hb
 go_wp2
 refine bodyPost_ret (v:= .tuple #[.agg #[.int .i64 0,.bool false,.int .i64 0,.int .i64 0,.int .i64 0],.iface 155 (.agg #[.int .i64 p,.iface 291 (.pointer (some (sn .End)))])]) (by simp[results,Tryz.results156,go_sem,hc]) rfl ⟨rfl,?_⟩
 exact below5 (((Below.refl w.heap.size w).alloc (Nat.le_refl _) _).trans (HB.out.mono (by simp))) _ (Nat.le_refl _) _ _ _ _ _
theorem rd_ok(s:ByteArray)(p:Nat)(w:World)(sn:Sn→Addr)(z1 z2:Int)(hs:Sent w sn)(hm:s.size≤9223372036854775807)(hp:p≤s.size)(hz:0<(s.extract p s.size).size)(hpos:0<s.size-p)(hx1:((s.extract p s.size)[0].toNat:Int)<256)(hx2:bits .and .i64 ((s.extract p s.size)[0].toNat:Int) 31≤30)
 (hw:rl ((s.extract p s.size).extract 1 (s.size-p))=(0,z1,z2))(b1:0≤z1)(b2:z1≤4)(b3:0≤z2)(b4:z2<16777216)(hl:z2≤((s.size-p:Nat):Int)-(z1+1)):
 Calls Tryz.prog 156 #[.string s,.int .i64 p] w fun e w'=>e= .returned (.tuple #[hv ⟨((s.extract p s.size)[0].toNat:Int)/64,bits .and .i64 ((s.extract p s.size)[0].toNat:Int) 32!=0,bits .and .i64 ((s.extract p s.size)[0].toNat:Int) 31,z1+1,z2⟩,.nilIface])∧Below w.heap.size w w':=by
 have HW:Hid (rl ((s.extract p s.size).extract 1 (s.size-p))=(0,z1,z2)):=hw
 have HV:Hid (which sn 0= .nilIface):=rfl
 clear hw
 have HS:Hid (Sent w sn):=hs
 have he:=emp_f hz
 clear hs
 unfold hv
 go_enter Tryz.func156,Tryz.ntmps156
 go_wp2_with fail
 refine(readLength_eq _ _ sn 0 z1 z2 .nilIface (HS.out.below ((Below.refl _ _).alloc (Nat.le_refl _) _)) (by simp;omega) HW.out HV.out).mono ?_
 rintro e w1 ⟨rfl,hb⟩
 obtain⟨hc,hf⟩:=bcell hb
 have hz':w.heap.size<w1.heap.size:=by have:=hb.size;simp at this;omega
 have HB:Hid (Below (w.alloc (.cells #[.int .i64 0,.bool false,.int .i64 0,.int .i64 0,.int .i64 0] 179)).heap.size (w.alloc (.cells #[.int .i64 0,.bool false,.int .i64 0,.int .i64 0,.int .i64 0] 179)) w1):=hb
 clear hb
 go_wp2
 refine bodyPost_ret (v:= .tuple #[.agg #[.int .i64 (((s.extract p s.size)[0].toNat:Int)/64),.bool (bits .and .i64 ((s.extract p s.size)[0].toNat:Int) 32!=0),.int .i64 (bits .and .i64 ((s.extract p s.size)[0].toNat:Int) 31),.int .i64 (z1+1),.int .i64 z2],.nilIface]) (by simp[results,Tryz.results156,go_sem,hc]) rfl ⟨rfl,?_⟩
 exact below5 (((Below.refl w.heap.size w).alloc (Nat.le_refl _) _).trans (HB.out.mono (by simp))) _ (Nat.le_refl _) _ _ _ _ _
def errAt(p:Int)(sn:Sn→Addr)(c:Int):Value:=if c=0 then .nilIface else if c=3 then fault p (sn .End)else if c=4 then fault p (sn .Tag)else fault p (sn .Length)
theorem read_any(s:ByteArray)(p:Nat)(w:World)(sn:Sn→Addr)(hs:Sent w sn)(hm:s.size≤9223372036854775807)(hp:p≤s.size):
 Calls Tryz.prog 156 #[.string s,.int .i64 p] w fun e w'=>e= .returned (.tuple #[hv (hd (s.extract p s.size)).2,errAt p sn (hd (s.extract p s.size)).1])∧Below w.heap.size w w':=by
 have hsz:(s.extract p s.size).size=s.size-p:=by simp
 unfold hd
 split
 ·rename_i h;exact rd_empty s p w sn hs hm hp h
 rename_i h
 have hz:0<(s.extract p s.size).size:=by omega
 have hpos:0<s.size-p:=by omega
 have hb:=b8_bd (s.extract p s.size) 0
 have e0:=b8_get (s.extract p s.size) 0 hz
 have ea:=i64_and31 (b8 (s.extract p s.size) 0) hb.1 hb.2
 split
 ·rename_i h1
  exact rd_tag s p w sn hs hm hp hz hpos (by rw[e0];exact hb.2) (by rw[e0,ea];omega)
 rename_i h1
 have hx1:((s.extract p s.size)[0].toNat:Int)<256:=by rw[e0];exact hb.2
 have hx2:bits .and .i64 ((s.extract p s.size)[0].toNat:Int) 31≤30:=by rw[e0,ea];omega
 rw[hsz]
 have hr:=rl_bd ((s.extract p s.size).extract 1 (s.size-p))
 obtain⟨c,z1,z2,hw⟩:∃c z1 z2,rl ((s.extract p s.size).extract 1 (s.size-p))=(c,z1,z2):=⟨_,_,_,rfl⟩
 rw[hw]at hr ⊢
 simp only at hr ⊢
 split
 ·rename_i h2
  rcases hr.1 with h|h|h
  ·exact absurd h h2
  ·subst h;exact rd_len s p w sn z1 z2 hs hm hp hz hpos hx1 hx2 3 (sn .End) hw rfl
  ·subst h;exact rd_len s p w sn z1 z2 hs hm hp hz hpos hx1 hx2 5 (sn .Length) hw rfl
 rename_i h2
 have h2:c=0:=by omega
 subst h2
 split
 ·rename_i h3
  exact rd_end s p w sn z1 z2 hs hm hp hz hpos hx1 hx2 hw hr.2.1 hr.2.2.1 hr.2.2.2.1 hr.2.2.2.2 h3
 ·rename_i h3
  have:=rd_ok s p w sn z1 z2 hs hm hp hz hpos hx1 hx2 hw hr.2.1 hr.2.2.1 hr.2.2.2.1 hr.2.2.2.2 (by omega)
  rw[e0,ea,i64_and32 _ hb.1 hb.2]at this
  exact this
theorem extract_all(s:ByteArray):s.extract 0 s.size=s:=by
 simp
theorem read0(s:ByteArray)(w:World)(sn:Sn→Addr)(hs:Sent w sn)(hm:s.size≤9223372036854775807):
 Calls Tryz.prog 156 #[.string s,.int .i64 0] w fun e w'=>e= .returned (.tuple #[hv (hd s).2,errAt 0 sn (hd s).1])∧Below w.heap.size w w':=by
 have:=read_any s 0 w sn hs hm (Nat.zero_le _)
 rw[extract_all]at this
 exact this
theorem hd_code(s:ByteArray):(hd s).1=0∨(hd s).1=3∨(hd s).1=4∨(hd s).1=5:=by
 have hr:=(rl_bd (s.extract 1 s.size)).1
 unfold hd
 repeat' split
 all_goals simp
 omega
theorem number_any(p:Int)(c:Int)(w:World)(sn:Sn→Addr)(hs:Sent w sn)(hc:c=0∨c=3∨c=4∨c=5):
 Calls Tryz.prog 34 #[errAt p sn c] w fun e w'=>e= .returned (.int .i64 c)∧Below w.heap.size w w':=by
 rcases hc with rfl|rfl|rfl|rfl
 ·exact(number_nil w).mono fun e w' h=>⟨h.1,h.2▸Below.refl _ _⟩
 ·exact number_E p w sn hs
 ·exact number_T p w sn hs
 ·exact number_L p w sn hs
end Go.Proofs.YtkkicodfpekbgaaGreatDoor
namespace Go.Proofs.YtkkicodfpekbgaaGreatDoor
open Go.RowKit
set_option linter.unusedSimpArgs false
set_option linter.unusedVariables false
set_option maxRecDepth 100000
set_option maxHeartbeats 8000000
attribute [local go_sem ↓] Go.wp_at_zero Go.wp_at_succ
def strip:List (Int×Int×Bool)→ByteArray→Option ByteArray
 | [],t=>some t
 |f::fs,t=>if(hd t).1=0∧((hd t).2.c,(hd t).2.n,(hd t).2.b)=f∧(hd t).2.s+(hd t).2.l=t.size then strip fs (t.extract (hd t).2.s.toNat t.size)else none
def RetI(n:Nd)(t:ByteArray)(w:World)(e:Ending)(w':World):Prop:=
 ∃(u:ByteArray) (r:Bool),e= .returned (.tuple #[.string u,.bool r])∧((r=true∧strip n.lays t=some u)∨(r=false∧strip n.lays t=none))∧Below w.heap.size w w'∧u.size≤t.size
theorem within_any(n:Nd)(ka:Option Addr)(kc:Nat)(t:ByteArray)(w:World)(sn:Sn→Addr)(hsn:Sent w sn)(hn:Nums w)(ht: -1≤n.tag)(hk:0≤n.kind)(hk':n.kind≤9)(hm1:n.mode=1→0≤n.tag)(hm:t.size≤140737488355328):
 Calls Tryz.prog 137 #[.agg #[.int .i64 n.kind,.int .i64 n.tag,.int .i64 n.mode,.slice ka n.kids.length kc],.string t] w fun e w'=>RetI n t w e w':=by
 have HL:Hid (∀wq,Below w.heap.size w wq→Calls Tryz.prog 172 #[.agg #[.int .i64 n.kind,.int .i64 n.tag,.int .i64 n.mode,.slice ka n.kids.length kc]] wq fun e w'=>∃g,e= .returned (.slice (some ⟨g,0,none⟩) n.lays.length n.lays.length)∧(∃T,w'.heap[g]? =some (.cells (lcells n.lays).toArray T (0,0)))∧Below wq.heap.size wq w'):=fun wq q=>layers_any n ka kc wq (hn.below q) ht hk hk' hm1
 have HS:Hid (Sent w sn):=hsn
 have hlen:n.lays.length≤2:=by unfold Nd.lays;split<;>simp
 clear hsn hn hm1
 obtain⟨L,hL⟩:∃L,n.lays=L:=⟨_,rfl⟩
 have HLL:Hid (n.lays=L):=hL
 rw[hL]at HL hlen
 clear hL
 go_enter Tryz.func137,Tryz.ntmps137
 go_wp2_with fail
 refine(HL.out _ ((Below.refl _ _).alloc (Nat.le_refl _) _)).mono ?_
 rintro e w1 ⟨g,rfl,⟨T,hG⟩,hb1⟩
 have HB1:Hid (Below w.heap.size w w1):=below_alloc hb1
 have HG:Hid (w1.heap[g]? =some (.cells (lcells L).toArray T (0,0))):=hG
 clear hb1 hG
 go_wp2
 go_loopw [1,13] (fun v1 vj wr=>∃(j:Nat) (u:ByteArray),vj= .int .i64 j∧v1= .string u∧j≤L.length∧strip L t=strip (L.drop j) u∧u.size≤t.size∧Below w1.heap.size w1 wr) (fun _ vj _=>L.length-(intOf vj).toNat)
 case atStart=>exact⟨0,t,rfl,rfl,Nat.zero_le _,rfl,Nat.le_refl _,Below.refl _ _⟩
 case round=>
  obtain⟨j,u,rfl,rfl,hj,hst,hu,hbr⟩:=hrel
  have HST:Hid (strip L t=strip (L.drop j) u):=hst
  have HB:Hid (Below w1.heap.size w1 wr):=hbr
  have HBW:Hid (Below w.heap.size w wr):=HB1.out.trans (hbr.mono HB1.out.size)
  have hGr:=block_below HG.out hbr
  by_cases hlt:j<L.length
  ·have hlt':(j:Int)<L.length:=by omega
   obtain⟨c,m,b,hf⟩:∃c m b,L[j]? =some (c,m,b):=⟨(L[j]).1,(L[j]).2.1,(L[j]).2.2,by rw[List.getElem?_eq_getElem hlt]⟩
   have HF:Hid (L.drop j=(c,m,b)::L.drop (j+1)):=by
    show L.drop j=_
    rw[List.drop_eq_getElem_cons hlt]
    rw[List.getElem?_eq_getElem hlt]at hf
    injection hf with hf
    rw[hf]
   have hcell:wr.cell? ⟨g,j*3,none⟩=some (.int .i64 c)∧wr.cell? ⟨g,j*3+1,none⟩=some (.int .i64 m)∧wr.cell? ⟨g,j*3+2,none⟩=some (.bool b):=by
    simp only[World.cell?,hGr]
    match L,hlen,j,hlt,hf with
    | [f0],_,0,_,hf=>simp at hf;subst hf;simp[lcells]
    | [f0,f1],_,0,_,hf=>simp at hf;subst hf;simp[lcells]
    | [f0,f1],_,1,_,hf=>simp at hf;subst hf;simp[lcells]
   obtain⟨g0,g1,g2⟩:=hcell
   have HRD:Hid (∀wq,Below w.heap.size w wq→Calls Tryz.prog 156 #[.string u,.int .i64 0] wq fun e w'=>e= .returned (.tuple #[hv (hd u).2,errAt 0 sn (hd u).1])∧Below wq.heap.size wq w'):=fun wq q=>read0 u wq sn (HS.out.below q) (by omega)
   have hlg:=lt_of_cell g0
   simp only at hlg
   clear hst hbr hGr hf
   go_wp2_with fail
   refine(HRD.out _ (HBW.out.alloc HBW.out.size _)).mono ?_
   rintro e w2 ⟨rfl,hb2⟩
   have HB2:Hid (Below w1.heap.size w1 w2):=HB.out.trans ((below_alloc hb2).mono HB.out.size)
   have HBW2:Hid (Below w.heap.size w w2):=HBW.out.trans ((below_alloc hb2).mono HBW.out.size)
   have hF:=block_below (heap_alloc_new wr (.cells #[.int .i64 c,.int .i64 m,.bool b] 149)) hb2
   have hs2:=lt_of_block hF
   have t0:w2.cell? ⟨wr.heap.size,0,none⟩=some (.int .i64 c):=by simp[World.cell?,hF]
   have t1:w2.cell? ⟨wr.heap.size,1,none⟩=some (.int .i64 m):=by simp[World.cell?,hF]
   have t2:w2.cell? ⟨wr.heap.size,2,none⟩=some (.bool b):=by simp[World.cell?,hF]
   obtain⟨hc,hb,hn,hz,hl,hH⟩:∃hc hb hn hz hl,(hd u).2=⟨hc,hb,hn,hz,hl⟩:=⟨_,_,_,_,_,rfl⟩
   have HH:Hid ((hd u).2=⟨hc,hb,hn,hz,hl⟩):=hH
   rw[hH]
   unfold hv
   clear hb2 hF hH g0 g1 g2
   by_cases hk0:(hd u).1=0
   ·have HK:Hid ((hd u).1=0):=hk0
    have hok:=hd_ok hk0
    rw[HH.out]at hok
    simp only at hok
    obtain⟨z,rfl⟩:∃z:Nat,hz=z:=⟨hz.toNat,by omega⟩
    obtain⟨l,rfl⟩:∃l:Nat,hl=l:=⟨hl.toNat,by omega⟩
    have e0:errAt 0 sn (hd u).1= .nilIface:=by rw[hk0];rfl
    rw[e0]
    have HFO:Hid (∀wq,Calls Tryz.prog 157 #[.agg #[.int .i64 hc,.bool hb,.int .i64 hn,.int .i64 z,.int .i64 l]] wq fun e w'=>e= .returned (.agg #[.int .i64 hc,.int .i64 hn,.bool hb])∧Below wq.heap.size wq w'):=fun wq=>firstOf_any hc hb hn z l wq
    have HBW3:Hid (Below w.heap.size w (w2.alloc (.cells #[.int .i64 hc,.bool hb,.int .i64 hn,.int .i64 z,.int .i64 l] 179))):=HBW2.out.alloc HBW2.out.size _
    have HB3:Hid (Below w1.heap.size w1 (w2.alloc (.cells #[.int .i64 hc,.bool hb,.int .i64 hn,.int .i64 z,.int .i64 l] 179))):=HB2.out.alloc HB2.out.size _
    have X0:∀x:Ext (w2.alloc (.cells #[.int .i64 hc,.bool hb,.int .i64 hn,.int .i64 z,.int .i64 l] 179)),x.v.cell? ⟨w2.heap.size,0,none⟩=some (.int .i64 hc):=fun x=>x.new rfl
    have X1:∀x:Ext (w2.alloc (.cells #[.int .i64 hc,.bool hb,.int .i64 hn,.int .i64 z,.int .i64 l] 179)),x.v.cell? ⟨w2.heap.size,1,none⟩=some (.bool hb):=fun x=>x.new rfl
    have X2:∀x:Ext (w2.alloc (.cells #[.int .i64 hc,.bool hb,.int .i64 hn,.int .i64 z,.int .i64 l] 179)),x.v.cell? ⟨w2.heap.size,2,none⟩=some (.int .i64 hn):=fun x=>x.new rfl
    have X3:∀x:Ext (w2.alloc (.cells #[.int .i64 hc,.bool hb,.int .i64 hn,.int .i64 z,.int .i64 l] 179)),x.v.cell? ⟨w2.heap.size,3,none⟩=some (.int .i64 z):=fun x=>x.new rfl
    have X4:∀x:Ext (w2.alloc (.cells #[.int .i64 hc,.bool hb,.int .i64 hn,.int .i64 z,.int .i64 l] 179)),x.v.cell? ⟨w2.heap.size,4,none⟩=some (.int .i64 l):=fun x=>x.new rfl
    have Y0:∀x:Ext (w2.alloc (.cells #[.int .i64 hc,.bool hb,.int .i64 hn,.int .i64 z,.int .i64 l] 179)),x.v.cell? ⟨wr.heap.size,0,none⟩=some (.int .i64 c):=fun x=>x.old t0
    have Y1:∀x:Ext (w2.alloc (.cells #[.int .i64 hc,.bool hb,.int .i64 hn,.int .i64 z,.int .i64 l] 179)),x.v.cell? ⟨wr.heap.size,1,none⟩=some (.int .i64 m):=fun x=>x.old t1
    have Y2:∀x:Ext (w2.alloc (.cells #[.int .i64 hc,.bool hb,.int .i64 hn,.int .i64 z,.int .i64 l] 179)),x.v.cell? ⟨wr.heap.size,2,none⟩=some (.bool b):=fun x=>x.old t2
    have hzl:(z:Int)+l≤9223372036854775807:=by omega
    clear hk0 e0
    by_cases hq:hc=c∧hn=m∧hb=b
    ·obtain⟨rfl,rfl,rfl⟩:=hq
     go_wp2_with fail
     (have ne:=ext_ne;refine wp_region_ext (by kernel_rfl) (by kernel_rfl) ?_;(repeat(first|go_big_quiet_skip|(go_big_quiet_want;go_big_quiet_op;first|go_big_quiet_on|(apply Exists.intro;refine⟨fun x=>?_,?_⟩;(·(exact Ext.calls (HFO.out x.v)));go_big_quiet_on))));refine nil_ext ?_)
     intro w5 hb5
     have z3:=X3 ⟨w5,hb5⟩
     have HB5:Hid (Below w1.heap.size w1 w5):=HB3.out.trans (hb5.mono HB3.out.size)
     have HBW5:Hid (Below w.heap.size w w5):=HBW3.out.trans (hb5.mono HBW3.out.size)
     have HS5:Hid (w2.heap.size<w5.heap.size):=lt_of_cell z3
     simp only at z3
     clear X0 X1 X2 X3 X4 Y0 Y1 Y2 hb5
     by_cases hsz:(z:Int)+l=u.size
     ·have hsz':((z:Int)+l !=u.size)=false:=by rw[bne_eq_false_iff_eq];exact hsz
      have hzu:(z:Int)≤u.size:=by omega
      go_wp2
      go_roundw
      case rel=>
       refine⟨j+1,u.extract z u.size,by go_num,rfl,by omega,?_,?_,HB5.out⟩
       ·rw[HST.out,HF.out]
        show(if _ then _ else _)=_
        rw[HH.out,if_pos ⟨HK.out,rfl,hsz⟩]
        rfl
       ·have:(u.extract z u.size).size=u.size-z:=by simp
        omega
      case measure=>simp[intOf];omega
     ·have hsz':((z:Int)+l !=u.size)=true:=by rw[bne_iff_ne];exact hsz
      have HNO:Hid (strip L t=none):=by show strip L t=none;rw[HST.out,HF.out];unfold strip;rw[if_neg (fun q=>hsz (by have:=q.2.2;rw[HH.out]at this;exact this))]
      clear hsz
      go_wp2
      go_ret2
      exact⟨⟨#[]⟩,false,rfl,.inr ⟨rfl,by rw[HLL.out];exact HNO.out⟩,HBW5.out,by exact Nat.zero_le _⟩
    ·have HNO:Hid (strip L t=none):=by show strip L t=none;rw[HST.out,HF.out];unfold strip;rw[if_neg (fun q=>hq (by have:=q.2.1;rw[HH.out]at this;simpa using this))]
     have hq3:¬hc=c∨(hc=c∧¬hn=m)∨(hc=c∧hn=m∧¬hb=b):=by
      by_cases a1:hc=c
      ·by_cases a2:hn=m
       ·exact .inr (.inr ⟨a1,a2,fun a3=>hq ⟨a1,a2,a3⟩⟩)
       ·exact .inr (.inl ⟨a1,a2⟩)
      ·exact .inl a1
     clear hq
     rcases hq3 with hq|⟨rfl,hq⟩|⟨rfl,rfl,hq⟩
     all_goals
      go_wp2_with fail
      (have ne:=ext_ne;refine wp_region_ext (by kernel_rfl) (by kernel_rfl) ?_;(repeat(first|go_big_quiet_skip|(go_big_quiet_want;go_big_quiet_op;first|go_big_quiet_on|(apply Exists.intro;refine⟨fun x=>?_,?_⟩;(·(exact Ext.calls (HFO.out x.v)));go_big_quiet_on))));refine nil_ext ?_)
      intro w5 hb5
      have HBW5:Hid (Below w.heap.size w w5):=HBW3.out.trans (hb5.mono HBW3.out.size)
      clear X0 X1 X2 X3 X4 Y0 Y1 Y2 hb5
      go_wp2
      go_ret2
      exact⟨⟨#[]⟩,false,rfl,.inr ⟨rfl,by rw[HLL.out];exact HNO.out⟩,HBW5.out,by exact Nat.zero_le _⟩
   ·have HK:Hid (¬(hd u).1=0):=hk0
    have HNO:Hid (strip L t=none):=by show strip L t=none;rw[HST.out,HF.out];unfold strip;rw[if_neg (fun q=>hk0 q.1)]
    obtain⟨fp,fa,he⟩:∃fp fa,errAt 0 sn (hd u).1=fault fp fa:=by
     unfold errAt
     rw[if_neg hk0]
     repeat' split
     all_goals exact⟨_,_,rfl⟩
    rw[he]
    unfold fault
    clear hk0 he
    go_wp2_with fail
    go_quiet (fail)
    go_wp2
    go_ret2
    exact⟨⟨#[]⟩,false,rfl,.inr ⟨rfl,by rw[HLL.out];exact HNO.out⟩,Go.below_drewN (HBW2.out.alloc HBW2.out.size _) _,by exact Nat.zero_le _⟩
  ·have hlt':(L.length:Int)≤j:=by omega
   have HE:Hid (strip L t=some u):=by show strip L t=some u;rw[hst,List.drop_of_length_le (by omega)];rfl
   clear hst hbr hGr
   go_wp2
   go_ret2
   exact⟨u,true,rfl,.inl ⟨rfl,by rw[HLL.out];exact HE.out⟩,HBW.out,hu⟩
end Go.Proofs.YtkkicodfpekbgaaGreatDoor
