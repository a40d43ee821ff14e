/-
Several texts in one.
-/
import Derived.Test.YtkkicodfpekbgaaGreatDoorJb1
import Derived.Deep.LoopGhost
open Go.Value renaming int->I,string->Y,slice->S,bool->Bo,agg->Ag,tuple->Tu
open Go.IntKind renaming i64->J
open Go.Obj renaming cells->C
open Go.Ending renaming returned->Rt
open Option renaming some->U,none->Z
open Go renaming World->M,Calls->Cs,Addr->Ad,Value->Vv
open Go.RowKit renaming Below->H,intOf->Io,Hid->Hi
open Go.World renaming cell?->Wc,frozen?->Wf
open Go.Act renaming put->Ap,eval->Ae
open _root_ renaming Option->Oo,List->Ls
open Go.Addr renaming mk->D
set_option linter.unusedSimpArgs false
set_option linter.unusedVariables false
set_option maxRecDepth 100000
set_option maxHeartbeats 8000000
namespace Go.Proofs.YtkkicodfpekbgaaGreatDoor
open Go.Proofs.Tryz
open Go.RowKit
def Aq(s:Ls Nd):Prop:=∀j,j<s.length-> -1<=(nd s j).tag
theorem Ej{n:Nd}(h: -1<=n.tag):n.opn1↔n.opn:=by unfold Nd.opn1 Nd.opn;omega
structure rO(s:Ls Nd)(w wr:M)(V A ar:Ls Nat)(va vend:Vv)(gs:Nat):Prop where
 inn:wr.ownsRow w.heap.size 3 1 va A.length (mh A)
 out:wr.ownsRow w.heap.size 3 1 vend (ia s V).length (mh (ia s V))
 ap:va.ownBlock=Z\/vend.ownBlock=Z\/vend.ownBlock≠va.ownBlock
 bel:H w.heap.size w wr
 glo:w.heap.size<=gs
 see:∃ae:Array Vv,wr.heap[gs]? =U (C ae 232 (0,0))/\∀j,j<40->ae[j]? =U (Bo (decide (j∈ar)))
def Fs(s:Ls Nd)(i:Nat)(w:M)(e:Ending)(w':M):Prop:=
 ∃(v:Vv) (l:Ls Nat) (bk:Bool),e=Rt (Tu #[v,Bo bk])/\w'.ownsRow w.heap.size 3 1 v l.length (mh l)/\H w.heap.size w w'/\l.length<=s.length+1/\(∀j,j∈l↔i9 s i j)/\(bk=true↔kV s i)
theorem Er{w:M}{base g ca:Nat}{A:Ls Nat}{x:Nat}(h:w.ownsRow base 3 1 (S (U (D g 0 Z)) (A++[x]).length ca) (A++[x]).length (mh (A++[x]))):w.ownsRow base 3 1 (S (U (D g 0 Z)) A.length ca) A.length (mh A):=by
 obtain⟨h1,h2⟩:=h;refine⟨by simp[mh],?_⟩;rcases h2 with⟨h2,_⟩|⟨g',cap,cur,hv,h3,h4,h5,h6,h7,h8⟩
 ·cases h2
 refine .inr ⟨g',cap,cur,?_,h3,h4,?_,h6,h7,?_⟩
 ·injection hv with a b d;rw[a,d]
 ·simp at h5;omega
 have e:cur.toList.take A.length=(cur.toList.take (A.length+1)).take A.length:=by rw[sv];congr 1;omega
 simp only[nv,aQ,List.length_singleton]at h8 ⊢;rw[e,h8,jB,BU (by simp[mh]),cZ (by simp[mh])]
theorem rO.below{s:Ls Nd}{w wr w':M}{V A ar:Ls Nat}{va vend:Vv}{gs:Nat}(h:rO s w wr V A ar va vend gs)(hb:H wr.heap.size wr w'):rO s w w' V A ar va vend gs where
 inn:=bB h.inn hb
 out:=bB h.out hb
 ap:=h.ap
 bel:=h.bel.trans (hb.mono h.bel.size)
 glo:=h.glo
 see:=by obtain⟨ae,h1,h2⟩:=h.see;exact⟨ae,ax h1 hb,h2⟩
theorem hP{w w':M}{k:Nat}{A:Array Vv}{T:TypeId}{row:Oo Nat}{o:Obj}(hg:w.heap[k]? =U (C A T (0,0)))(hne:row≠U k)(h2:(w.alloc o).grownBy w' row):w'.heap[k]? =U (C A T (0,0)):=by
 have hlt:k<w.heap.size:=by
  rcases cG k w.heap.size with h'|h'
  ·exact h'
  rw[bj h']at hg;cases hg
 rw[h2.block k So (fun e=>hne e.symm),bM w o _ hlt,hg]
theorem cJ{w:M}{R base size n:Nat}{e T:TypeId}{v:Vv}{xs:Ls Vv}{A:Array Vv}(hg:w.heap[R]? =U (C A T (0,0)))(h:w.ownsRow base e size v n xs)(hT:T≠e):v.ownBlock≠U R:=by
 intro hv;rcases h.2 with⟨h',_⟩|⟨g,cap,cur,h',_,hg',_⟩
 ·subst h';cases hv
 subst h';obtain rfl:g=R:=by simpa [Value.ownBlock]using hv
 rw[hg]at hg';injection hg' with hg';injection hg' with _ e _;exact hT e
theorem rO.put{s:Ls Nd}{w wr w':M}{x:Nat}{V A ar:Ls Nat}{va vend:Vv}{gs g cap:Nat}{o:Obj}(h:rO s w wr V A ar va vend gs)(ho:¬(nd s x).opn)(h1:w'.ownsRow w.heap.size 3 1 (S (U (D g 0 Z)) ((ia s V).length+1) cap) ((ia s V).length+1) (mh (ia s V)++[I J (x:Int)]))(h2:(wr.alloc o).grownBy w' vend.ownBlock)(h3:vend.ownBlock=U g\/g=wr.heap.size+1):rO s w w' (V++[x]) A ar va (S (U (D g 0 Z)) ((ia s V).length+1) cap) gs:=by
 have hb:H w.heap.size w (wr.alloc o):=h.bel.alloc h.bel.size o
 exact {
  inn:=by
   refine(h.inn.alloc o).kept h2 ?_
   rcases h.ap with q|q|q
   ·exact .inl q
   ·rw[q]
    by_cases e:va.ownBlock=Z
    ·exact .inl e
    ·exact .inr e
   ·exact .inr (fun e=>q e.symm)
  out:=by rw[sY ho,jB,aQ];exact h1
  ap:=by
   by_cases e:va.ownBlock=Z
   ·exact .inl e
   ·refine .inr (.inr (fun e'=>?_))
    have e'':va.ownBlock=U g:=by rw[<-e'];rfl
    rcases h3 with h3|h3
    ·rcases h.ap with q|q|q
     ·exact e q
     ·rw[h3]at q;cases q
     ·exact q (by rw[h3,e''])
    ·have:=(h.inn.lt g e'').2;omega
  bel:=hb.grown h2 hb.size (fun k hk=>(h.out.lt k hk).1)
  glo:=h.glo
  see:=by
   obtain⟨ae,q1,q2⟩:=h.see
   exact⟨ae,hP q1 (cJ q1 h.out Dc) h2,q2⟩}
theorem rO.push{s:Ls Nd}{w wr w':M}{t:Nat}{V A ar:Ls Nat}{va vend:Vv}{gs g cap:Nat}{o:Obj}(h:rO s w wr V A ar va vend gs)(h1:w'.ownsRow w.heap.size 3 1 (S (U (D g 0 Z)) (A.length+1) cap) (A.length+1) (mh A++[I J (t:Int)]))(h2:(wr.alloc o).grownBy w' va.ownBlock)(h3:va.ownBlock=U g\/g=wr.heap.size+1):rO s w w' V (A++[t]) ar (S (U (D g 0 Z)) (A.length+1) cap) vend gs:=by
 have hb:H w.heap.size w (wr.alloc o):=h.bel.alloc h.bel.size o
 exact {
  inn:=by rw[jB,aQ];exact h1
  out:=by
   refine(h.out.alloc o).kept h2 ?_
   rcases h.ap with q|q|q
   ·rw[q]
    by_cases e:vend.ownBlock=Z
    ·exact .inl e
    ·exact .inr e
   ·exact .inl q
   ·exact .inr q
  ap:=by
   by_cases e:vend.ownBlock=Z
   ·exact .inr (.inl e)
   ·refine .inr (.inr (fun e'=>?_))
    have e'':vend.ownBlock=U g:=by rw[e'];rfl
    rcases h3 with h3|h3
    ·rcases h.ap with q|q|q
     ·rw[h3]at q;cases q
     ·exact e q
     ·exact q (by rw[h3,e''])
    ·have:=(h.out.lt g e'').2;omega
  bel:=hb.grown h2 hb.size (fun k hk=>(h.inn.lt k hk).1)
  glo:=h.glo
  see:=by
   obtain⟨ae,q1,q2⟩:=h.see
   exact⟨ae,hP q1 (cJ q1 h.inn Dc) h2,q2⟩}
theorem rO.mark{s:Ls Nd}{w wr:M}{t:Nat}{V A ar:Ls Nat}{va vend:Vv}{gs:Nat}(h:rO s w wr V A ar va vend gs)(ht:t<40):rO s w (wr.setCell (D gs t Z) (Bo true)) V A (ar++[t]) va vend gs:=by
 obtain⟨ae,q1,q2⟩:=h.see
 exact {
  inn:=aJ h.inn (cJ q1 h.inn Dc) _
  out:=aJ h.out (cJ q1 h.out Dc) _
  ap:=h.ap
  bel:=h.bel.setCell h.glo _
  glo:=h.glo
  see:=⟨ae.setIfInBounds t (Bo true),bn wr gs t ae _ _ q1,fun j hj=>by
   have hsz:t<ae.size:=by
    have:=q2 t ht
    rcases cG t ae.size with h'|h'
    ·exact h'
    ·rw[bj h']at this;cases this
   rw[bL]
   by_cases e:t=j
   ·subst e;rw[aG X,aG hsz];simp
   ·rw[G e,q2 j hj];congr 2;simp;omega⟩}
theorem tw(s:Ls Nd)(a:Oo Ad)(c i:Nat)(w:M)(hs:ju w a s)(hw:gq s)(htg:Aq s)(hi:i<s.length)(hn:s.length<=40):Cs prog 96 #[S a s.length c,I J i] w fun e w'=>Fs s i w e w':=by
 have HS:Hi _:=hs;have HW:Hi _:=hw;have HTG:Hi (Aq s):=htg;clear hs hw htg;obtain⟨i0,hi0,hz0,hz1,hz2⟩:=dD nw;go_enter func96,ntmps96;go_wp2;go_loopg [4,5,7] 41 (fun gk vend vbk va wr=>∃V A ar bk aa ca,va=S aa A.length ca/\(0<A.length->∃g,aa=U (D g 0 Z))/\vbk=Bo bk/\gk+V.length=41/\Re s i V A ar bk/\rO s w wr V A ar va vend w.heap.size)
 case atStart=>
  refine⟨[],[i],[],false,_,1,X,fun _=>⟨w.heap.size+1,X⟩,X,X,Re.start s i,?_⟩;exact⟨⟨X,.inr ⟨w.heap.size+1,1,_,X,O,by simpa using aA (w.alloc _) _,Ln,Dc,X,X⟩⟩,bX _ _ _ _,.inr (.inl X),(Be).alloc Sq _,Ln,_,ax (aA w _) Be,fun j hj=>by
   match j,hj with
   |0,_|1,_|2,_|3,_|4,_|5,_|6,_|7,_|8,_|9,_|10,_|11,_|12,_|13,_|14,_|15,_|16,_|17,_|18,_|19,_|20,_|21,_|22,_|23,_|24,_|25,_|26,_|27,_|28,_|29,_|30,_|31,_|32,_|33,_|34,_|35,_|36,_|37,_|38,_|39,_=>rfl
   |n+40,h=>exact Ab h O⟩
 obtain⟨V,A,ar,bk,aa,ca,rfl,haa,rfl,hgk,hL,hM⟩:=hrel;have hlen:=hL.len;have HL:Hi _:=hL;have HM:Hi _:=hM;rcases List.eq_nil_or_concat A with rfl|⟨A',x,hA⟩
 ·clear hL hM;go_wp2;go_ret2;exact⟨u4,ia s V,bk,X,HM.out.out,HM.out.bel,bl (pG s V) (by simp at hlen;omega),HL.out.leaves,HL.out.backs⟩
 have hA':A=A'++[x]:=by rw[hA];simp
 subst hA';clear hA;have hlm:(A'++[x]).length=A'.length+1:=Sq;obtain⟨g,rfl⟩:=haa O;have cx:wr.cell? (D g A'.length Z)=U (I J (x:Int)):=by have:=kJ (j:=A'.length) hM.inn O;rw[this];congr 3;simp
 have HM':Hi (rO s w wr V A' ar (S (U (D g 0 Z)) A'.length ca) u4 w.heap.size):=⟨Er hM.inn,hM.out,hM.ap,hM.bel,hM.glo,hM.see⟩;have hxs:x<s.length:=(hL.rch x Sq).lt HW hi;obtain⟨b,o,ka,kc,rfl,nc,kl,km,ks⟩:=HS x hxs;obtain⟨n1,n2,n3,n4⟩:=nc.below hM.bel;have KS:Hi _:=ks;have hxs':(x:Int)<s.length:=O;have hmc:A'.length+1<=ca/\ca<=maxLen:=by
  rcases hM.inn.2 with⟨q,_⟩|⟨g',cap,cur,hv,_,_,q1,q2,_⟩
  ·cases q
  injection hv with _ _ e;subst e;exact⟨O,q2⟩
 have hm40:A'.length<=40:=O;have hsz:w.heap.size<wr.heap.size:=by
  obtain⟨ae,q1,_⟩:=hM.see;rcases cG w.heap.size wr.heap.size with h'|h'
  ·exact h'
  rw[bj h']at q1;cases q1
 have HO:Hi (∀wr,Cs prog 139 #[Ag #[I J (nd s x).kind,I J (nd s x).tag,I J (nd s x).mode,S ka (nd s x).kids.length kc]] wr fun e w'=>dB (nd s x).opn wr e w'):=fun wr=>by have:=yv (nd s x) ka kc wr;refine this.mono fun e w' q=>?_;obtain⟨r,h1,h2,h3⟩:=q;exact⟨r,h1,h2.trans (Ej (HTG x hxs)),h3⟩
 have hV:V.length+A'.length<=s.length:=O;clear hL hM hlm ks nc haa;go_wp2_with fail;refine(HO _).mono ?_;by_cases ho:(nd s x).opn
 ·intro e w2 hq;obtain⟨rfl,hb2⟩:=hq.yes ho;have HM2:Hi _:=HM'.below hb2;have HLM:Hi _:=HL.out.mid;have e4:w2.cell? (D b (o+x*4+3) Z)=U (S ka (nd s x).kids.length kc):=(hb2.cell (aw n4)).trans n4;have hkm:(nd s x).kids.length<=9223372036854775807:=by unfold maxLen at km;omega
  clear hq hb2 cx n1 n2 n3 n4;go_wp2;go_loopw [5,7,43] (fun vbk va vj wx=>∃A1 S1 bk1 aa1 ca1 j,va=S aa1 A1.length ca1/\(0<A1.length->∃g,aa1=U (D g 0 Z))/\vbk=Bo bk1/\vj=I J (j:Nat)/\j<=(nd s x).kids.length/\BN s i V x j A1 S1 bk1/\rO s w wx V A1 S1 (S aa1 A1.length ca1) u4 w.heap.size) (fun _ _ vj _=>(nd s x).kids.length-(Io vj).toNat);case atStart=>exact⟨A',ar,bk,_,ca,0,X,fun _=>⟨g,X⟩,X,X,Lz,HLM,HM2⟩
  clear HLM HM2 e4;obtain⟨A1,S1,bk1,aa1,ca1,j,rfl,haa1,rfl,rfl,hj,hLM,hM3⟩:=hrel;have HAA:Hi _:=haa1;have HLM:Hi _:=hLM;have HM3:Hi _:=hM3;have hlen1:=hLM.len;have hszw:w.heap.size<wr.heap.size:=by
   obtain⟨ae,q1,_⟩:=hM3.see;rcases cG w.heap.size wr.heap.size with h'|h'
   ·exact h'
   rw[bj h']at q1;cases q1
  have cS:∀t,t<40->wr.cell? (D w.heap.size t Z)=U (Bo (decide (t∈S1))):=fun t ht=>by obtain⟨ae,q1,q2⟩:=hM3.see;simp only[Wc,q1];exact q2 t ht
  have fS:∀t,wr.frozen? (D w.heap.size t Z)=false:=fun t=>by obtain⟨ae,q1,q2⟩:=hM3.see;simp[Wf,q1]
  by_cases hjl:j<(nd s x).kids.length
  ·obtain⟨kb,ko,rfl,kcl⟩:=KS j hjl;have hkr:=HW x hxs ((nd s x).kids.getD j j6) (by rw[aB,aC hjl];exact bz hjl);obtain⟨t,ht⟩:∃t:Nat,((nd s x).kids.getD j j6).node=t:=⟨_,(dh hkr.1).symm⟩;obtain⟨k1,k2,k3⟩:=kcl.below hM3.bel;have HT:Hi _:=ht;rw[ht]at k1 hkr;obtain⟨bo,hbo⟩:∃v,((nd s x).kids.getD j j6).opt=v:=Ey;obtain⟨bd,hbd⟩:∃v,((nd s x).kids.getD j j6).dflt=v:=Ey;rw[hbo]at k2;rw[hbd]at k3;have htl:t<s.length:=O;have ht40:t<40:=O;have ht40':(t:Int)<40:=O;have hjl':(j:Int)<(nd s x).kids.length:=O;have ft:=fS t;have cs:=cS t ht40;obtain⟨bk2,hbk2⟩:∃b2,b2=(bk1||decide ((t:Int)=i)):=Ez;have HBK:Hi _:=hbk2;have hcs:(bk1=true/\bk2=true)\/(bk1=false/\((t:Int)==i)=bk2):=by
    cases bk1
    ·right;exact⟨X,by rw[hbk2,oh,fN];simp⟩
    left;exact⟨X,by rw[hbk2];simp⟩
   clear hbk2 hLM hM3 kcl ht hkr hbo hbd fS cS haa1;rcases hcs with⟨rfl,rfl⟩|⟨rfl,hti⟩
   ·by_cases hts:t∈S1
    ·have HS1:Hi (t∈S1):=hts;rw[aM hts]at cs;clear hts;have HLM':Hi _:=HBK▸HLM.step_old HT HS1;have HM4:Hi (∀o,rO s w (wr.alloc o) V A1 S1 (S aa1 A1.length ca1) u4 w.heap.size):=fun o=>HM3.below ((By).alloc Ln o);go_wp2;go_roundw;case rel=>exact⟨A1,S1,true,aa1,ca1,j+1,X,HAA,X,Gn,O,HLM',HM4 _⟩
     case measure=>exact Ms
    have HS1:Hi (t∉S1):=hts;rw[aE hts]at cs;clear hts;have HLM':Hi _:=HBK▸HLM.step_new HT hjl ho htl HS1;have HM4:Hi (∀o,rO s w ((wr.setCell (D w.heap.size t Z) (Bo true)).alloc o) V A1 (S1++[t]) (S aa1 A1.length ca1) u4 w.heap.size):=fun o=>(HM3.mark ht40).below ((By).alloc Ln o);have hsz3:w.heap.size<=wr.heap.size+2:=O;(have NEWS:Hi (∀(j:Nat) (u:Vv),[Value.int J (t:Int)][j]? =U u->(((wr.setCell (D w.heap.size t Z) (Bo true)).alloc (C #[I J (t:Int),Bo bo,Y bd] 55)).alloc (C #[I J (t:Int)] 3)).cell? (((D (wr.heap.size+1) 0 Z):Ad).add j)=U u):=by have q:=cell_one_new ((wr.setCell (D w.heap.size t Z) (Bo true)).alloc (C #[I J (t:Int),Bo bo,Y bd] 55)) (I J (t:Int)) 3;rw[show((wr.setCell (D w.heap.size t Z) (Bo true)).alloc (C #[I J (t:Int),Bo bo,Y bd] 55)).heap.size=wr.heap.size+1 by simp]at q;exact q);go_wp2_with (at_builtin;refine wpList_append_lies _ X (.tmp 62) (.tmp 65) 32 X w.heap.size 3 i0 (I J 0) 1 8 underlying32 hi0 hz0 hz1 hz2 X Dc (S aa1 A1.length ca1) A1.length (mh A1) X ((HM4 _).inn.alloc _) (D (wr.heap.size+1) 0 Z) 1 1 [I J (t:Int)] X X NEWS (by intro u hu;simp at hu;subst hu;rfl) Dc (by unfold maxLen;omega) O (by simpa using hsz3) (wr.heap.size+2) Sq ?_);intro g' cap w3 h1 h2 h3 h4;have HM5:Hi (rO s w w3 V (A1++[t]) (S1++[t]) (S (U (D g' 0 Z)) (A1.length+1) cap) u4 w.heap.size):=(HM4 _).push h1 h2 (by simpa using h3);clear h1 h2 h3 h4;go_wp2;go_roundw;case rel=>exact⟨A1++[t],S1++[t],true,_,cap,j+1,Sq,fun _=>⟨g',X⟩,X,Gn,O,HLM'.out,by simpa using HM5.out⟩
    case measure=>exact Ms
   by_cases hts:t∈S1
   ·have HS1:Hi (t∈S1):=hts;rw[aM hts]at cs;clear hts;have HLM':Hi _:=HBK▸HLM.step_old HT HS1;have HM4:Hi (∀o,rO s w (wr.alloc o) V A1 S1 (S aa1 A1.length ca1) u4 w.heap.size):=fun o=>HM3.below ((By).alloc Ln o);go_wp2;go_roundw;case rel=>exact⟨A1,S1,bk2,aa1,ca1,j+1,X,HAA,X,Gn,O,HLM',HM4 _⟩
    case measure=>exact Ms
   have HS1:Hi (t∉S1):=hts;rw[aE hts]at cs;clear hts;have HLM':Hi _:=HBK▸HLM.step_new HT hjl ho htl HS1;have HM4:Hi (∀o,rO s w ((wr.setCell (D w.heap.size t Z) (Bo true)).alloc o) V A1 (S1++[t]) (S aa1 A1.length ca1) u4 w.heap.size):=fun o=>(HM3.mark ht40).below ((By).alloc Ln o);have hsz3:w.heap.size<=wr.heap.size+2:=O;(have NEWS:Hi (∀(j:Nat) (u:Vv),[Value.int J (t:Int)][j]? =U u->(((wr.setCell (D w.heap.size t Z) (Bo true)).alloc (C #[I J (t:Int),Bo bo,Y bd] 55)).alloc (C #[I J (t:Int)] 3)).cell? (((D (wr.heap.size+1) 0 Z):Ad).add j)=U u):=by have q:=cell_one_new ((wr.setCell (D w.heap.size t Z) (Bo true)).alloc (C #[I J (t:Int),Bo bo,Y bd] 55)) (I J (t:Int)) 3;rw[show((wr.setCell (D w.heap.size t Z) (Bo true)).alloc (C #[I J (t:Int),Bo bo,Y bd] 55)).heap.size=wr.heap.size+1 by simp]at q;exact q);go_wp2_with (at_builtin;refine wpList_append_lies _ X (.tmp 62) (.tmp 65) 32 X w.heap.size 3 i0 (I J 0) 1 8 underlying32 hi0 hz0 hz1 hz2 X Dc (S aa1 A1.length ca1) A1.length (mh A1) X ((HM4 _).inn.alloc _) (D (wr.heap.size+1) 0 Z) 1 1 [I J (t:Int)] X X NEWS (by intro u hu;simp at hu;subst hu;rfl) Dc (by unfold maxLen;omega) O (by simpa using hsz3) (wr.heap.size+2) Sq ?_);intro g' cap w3 h1 h2 h3 h4;have HM5:Hi (rO s w w3 V (A1++[t]) (S1++[t]) (S (U (D g' 0 Z)) (A1.length+1) cap) u4 w.heap.size):=(HM4 _).push h1 h2 (by simpa using h3);clear h1 h2 h3 h4;go_wp2;go_roundw;case rel=>exact⟨A1++[t],S1++[t],bk2,_,cap,j+1,Sq,fun _=>⟨g',X⟩,X,Gn,O,HLM'.out,by simpa using HM5.out⟩
   case measure=>exact Ms
  have hjl':((nd s x).kids.length:Int)<=j:=O;obtain rfl:j=(nd s x).kids.length:=O;have HL':Hi _:=hLM.finish ho;have HM':Hi (rO s w wr (V++[x]) A1 S1 (S aa1 A1.length ca1) u4 w.heap.size):=⟨hM3.inn,by rw[sZ ho];exact hM3.out,hM3.ap,hM3.bel,hM3.glo,hM3.see⟩;clear hLM hM3 cS fS haa1;go_wp2;go_roundg (gk-1);case rel=>exact⟨V++[x],A1,S1,bk1,aa1,ca1,X,HAA,X,So,HL',HM'⟩
  case measure=>omega
 intro e w2 hq;obtain⟨rfl,hb2⟩:=hq.no ho;have HM2:Hi _:=HM'.below hb2;have hol:(ia s V).length<=41:=by have:=pG s V;omega
 have hsz2:w.heap.size<=w2.heap.size+1:=by have:=HM2.out.bel.size;omega
 clear hq hb2 cx n1 n2 n3 n4;go_wp2_with (at_builtin;refine wpList_append_lies _ X (.tmp 33) (.tmp 35) 32 X w.heap.size 3 i0 (I J 0) 1 8 underlying32 hi0 hz0 hz1 hz2 X Dc u4 (ia s V).length (mh (ia s V)) X (HM2.out.out.alloc _) (D w2.heap.size 0 Z) 1 1 [I J (x:Int)] X X (cell_one_new _ _ _) (by intro u hu;simp at hu;subst hu;rfl) Dc (by unfold maxLen;omega) O (by simpa using hsz2) (w2.heap.size+1) Sq ?_);intro g' cap w3 h1 h2 h3 h4;have HM3:Hi _:=HM2.out.put ho h1 h2 h3;clear h1 h2 h3 h4;go_wp2;go_roundg (gk-1);case rel=>exact⟨V++[x],A',ar,bk,_,ca,X,fun _=>⟨g,X⟩,X,So,HL.leaf ho,HM3⟩
 case measure=>omega
def fV(ts:Ls (Int×Int)):Ls Vv:=ts.flatMap fun t=> [I J t.1,I J t.2]
theorem sm(l:Ls (Int×Int))(t:Int×Int):fV (l++[t])=fV l++[I J t.1,I J t.2]:=by unfold fV;simp
def ng(s:Ls Nd)(l:Ls Nat):Ls (Int×Int):=(l.filter fun j=> !(nd s j).everyB).map fun j=>(nd s j).outer
theorem Gs{s:Ls Nd}{l:Ls Nat}{x:Nat}(h:¬(nd s x).every):ng s (l++[x])=ng s l++[(nd s x).outer]:=by unfold ng;rw[mL];simp[Nd.everyB_no h]
theorem EG{s:Ls Nd}{l:Ls Nat}{x:Nat}(h:(nd s x).every):ng s (l++[x])=ng s l:=by unfold ng;rw[mL];simp[Nd.everyB_yes h]
theorem Do(s:Ls Nd)(l:Ls Nat):(ng s l).length<=l.length:=by unfold ng;simp;exact H8 _ _
theorem Ee{s:Ls Nd}{l:Ls Nat}{t:Int×Int}:t∈ng s l↔∃j∈l,¬(nd s j).every/\(nd s j).outer=t:=by
 unfold ng;rw[List.mem_map];constructor
 ·rintro⟨j,hj,e⟩;rw[pT]at hj;exact⟨j,hj.1,fun q=>(by have:=hj.2;rw[Nd.everyB_yes q]at this;cases this),e⟩
 rintro⟨j,hj,h,e⟩;exact⟨j,by rw[pT];exact⟨hj,by rw[Nd.everyB_no h];rfl⟩,e⟩
def Ib(s:Ls Nd)(i:Nat)(w:M)(e:Ending)(w':M):Prop:=
 ∃(all:Bool) (vt:Vv) (ts:Ls (Int×Int)),e=Rt (Ag #[Bo all,vt])/\w'.ownsRow w.heap.size 147 2 vt ts.length (fV ts)/\H w.heap.size w w'/\ts.length<=41/\
  (all=true↔∃j,i9 s i j/\(nd s j).every)/\(∀t,t∈ts↔∃j,i9 s i j/\¬(nd s j).every/\(nd s j).outer=t)
def kX:Vv:=Ag #[I J 0,I J 0]
theorem tZ:(prog.info? 147).map (fun i=>(i.zero,i.size,i.bytes))=U (U kX,2,16):=Kr
structure rP(s:Ls Nd)(w wr:M)(dn:Ls Nat)(all:Bool)(vt:Vv):Prop where
 res:wr.heap[w.heap.size]? =U (C #[Bo false,S Z 0 0] 174 (0,0))
 blk:wr.heap[w.heap.size+1]? =U (C #[Bo all,vt] 174 (0,0))
 own:wr.ownsRow w.heap.size 147 2 vt (ng s dn).length (fV (ng s dn))
 alls:all=true↔∃j∈dn,(nd s j).every
 bel:H w.heap.size w wr
theorem rP.below{s:Ls Nd}{w wr w':M}{dn:Ls Nat}{all:Bool}{vt:Vv}(h:rP s w wr dn all vt)(hb:H wr.heap.size wr w'):rP s w w' dn all vt:=
 ⟨ax h.res hb,ax h.blk hb,bB h.own hb,h.alls,h.bel.trans (hb.mono h.bel.size)⟩
theorem rP.setAll{s:Ls Nd}{w wr:M}{dn:Ls Nat}{all:Bool}{vt:Vv}{x:Nat}(h:rP s w wr dn all vt)(hx:(nd s x).every):rP s w (wr.setCell (D (w.heap.size+1) 0 Z) (Bo true)) (dn++[x]) true vt where
 res:=by rw[aP _ _ _ _ Sq];exact h.res
 blk:=bn wr _ 0 _ _ _ h.blk
 own:=by rw[EG hx];exact aJ h.own (cJ h.blk h.own Dc) _
 alls:=⟨fun _=>⟨x,Sq,hx⟩,fun _=>rfl⟩
 bel:=h.bel.setCell Sq _
theorem rP.put{s:Ls Nd}{w wr w':M}{dn:Ls Nat}{all:Bool}{vt:Vv}{x g cap:Nat}{o:Obj}(h:rP s w wr dn all vt)(hx:¬(nd s x).every)(h1:w'.ownsRow w.heap.size 147 2 (S (U (D g 0 Z)) ((ng s dn).length+1) cap) ((ng s dn).length+1) (fV (ng s dn)++[I J (nd s x).outer.1,I J (nd s x).outer.2]))(h2:(wr.alloc o).grownBy w' vt.ownBlock):rP s w (w'.setCell (D (w.heap.size+1) 1 Z) (S (U (D g 0 Z)) ((ng s dn).length+1) cap)) (dn++[x]) all (S (U (D g 0 Z)) ((ng s dn).length+1) cap):=by
 have hb:H w.heap.size w (wr.alloc o):=h.bel.alloc h.bel.size o;have k1:w'.heap[w.heap.size]? =U _:=hP h.res (cJ h.res h.own Dc) h2;have k2:w'.heap[w.heap.size+1]? =U _:=hP h.blk (cJ h.blk h.own Dc) h2
 exact {
  res:=by rw[aP _ _ _ _ Sq];exact k1
  blk:=bn w' _ 1 _ _ _ k2
  own:=by
   rw[Gs hx,sm,aQ]
   exact aJ h1 (cJ k2 h1 Dc) _
  alls:=by
   rw[h.alls]
   constructor
   ·rintro⟨j,hj,q⟩;exact⟨j,by simp[hj],q⟩
   ·rintro⟨j,hj,q⟩
    rcases DG.1 hj with hj|hj
    ·exact⟨j,hj,q⟩
    ·simp at hj;subst hj;exact Ab q hx
  bel:=(hb.grown h2 hb.size (fun k hk=>(h.own.lt k hk).1)).setCell Sq _}
theorem rP.cell1{s:Ls Nd}{w wr:M}{dn:Ls Nat}{all:Bool}{vt:Vv}(h:rP s w wr dn all vt):wr.cell? (D (w.heap.size+1) 1 Z)=U vt:=by simp[Wc,h.blk]
theorem rP.froz1{s:Ls Nd}{w wr:M}{dn:Ls Nat}{all:Bool}{vt:Vv}(h:rP s w wr dn all vt):wr.frozen? (D (w.heap.size+1) 1 Z)=false:=by simp[Wf,h.blk]
theorem rP.cell_kept{s:Ls Nd}{w wr w':M}{dn:Ls Nat}{all:Bool}{vt:Vv}{o:Obj}(h:rP s w wr dn all vt)(h2:(wr.alloc o).grownBy w' vt.ownBlock):w'.cell? (D (w.heap.size+1) 1 Z)=U vt/\w'.frozen? (D (w.heap.size+1) 1 Z)=false:=by have k2:=hP h.blk (cJ h.blk h.own Dc) h2;exact⟨by simp[Wc,k2],by simp[Wf,k2]⟩
theorem zZ{w:M}{b1 b2 s1 s2 n1 n2:Nat}{e1 e2:TypeId}{v1 v2:Vv}{x1 x2:Ls Vv}(h1:w.ownsRow b1 e1 s1 v1 n1 x1)(h2:w.ownsRow b2 e2 s2 v2 n2 x2)(hT:e2≠e1):v2.ownBlock=Z\/v2.ownBlock≠v1.ownBlock:=by
 rcases h2.2 with⟨q,_⟩|⟨g,cap,cur,q,_,hg,_⟩
 ·left;rw[q];rfl
 right;intro e;have:v1.ownBlock=U g:=by rw[<-e,q];rfl
 exact cJ hg h1 hT this
theorem oz(s:Ls Nd)(a:Oo Ad)(c i:Nat)(w:M)(hs:ju w a s)(hw:gq s)(htg:Aq s)(hkd:nr s)(hnm:iO w)(hi:i<s.length)(hn:s.length<=40):Cs prog 97 #[S a s.length c,I J i] w fun e w'=>Ib s i w e w':=by
 have HS:Hi (ju w a s):=hs;have HN:Hi (iO w):=hnm;have HTG:Hi (Aq s):=htg;have HKD:Hi (nr s):=hkd;have HW:Hi (gq s):=hw;have HR:Hi (∀wr,H w.heap.size w wr->Cs prog 96 #[S a s.length c,I J i] wr fun e w'=>Fs s i wr e w'):=fun wr hb=>tw s a c i wr (hs.below hb) hw htg hi hn;clear hs hw htg hkd hnm;obtain⟨i0,hi0,hz0,hz1,hz2⟩:=dD tZ;go_enter func97,ntmps97;go_wp2_with fail;refine(HR _ ((Be).alloc Sq _)).mono ?_;rintro e w1 ⟨v,l,bk,rfl,hown,hb1,hl,hlf,_⟩;obtain⟨va,vc,rfl,hva⟩:=iB hown;have HA:Hi (0<l.length->∃g,va=U (D g 0 Z)):=hva;have HF:Hi (∀j,j∈l↔i9 s i j):=hlf;have HB0:Hi (rP s w w1 [] false (S Z 0 0)):=⟨ax (ax (aA w _) Be) hb1,ax (by simpa using aA (w.alloc _) _) hb1,bX _ _ _ _,Sq,aT (aT hb1)⟩;have HO:Hi (w1.ownsRow w.heap.size 3 1 (S va l.length vc) l.length (mh l)):=by
  obtain⟨q1,q2⟩:=hown;refine⟨q1,?_⟩;rcases q2 with q2|⟨g,cap,cur,q3,q4,q5⟩
  ·exact .inl q2
  exact .inr ⟨g,cap,cur,q3,by simp at q4;omega,q5⟩
 clear hown hb1 hlf hva HR;go_wp2;go_loopw [19] (fun vj wr=>∃j all vt,vj=I J (j:Nat)/\j<=l.length/\rP s w wr (l.take j) all vt/\wr.ownsRow w.heap.size 3 1 (S va l.length vc) l.length (mh l)) (fun vj _=>l.length-(Io vj).toNat);case atStart=>exact⟨0,false,_,X,Lz,by simpa using HB0.out,HO.out⟩
 obtain⟨j,all,vt,rfl,hj,hB,hO⟩:=hrel;have HB:Hi (rP s w wr (l.take j) all vt):=hB;have HOw:Hi (wr.ownsRow w.heap.size 3 1 (S va l.length vc) l.length (mh l)):=hO;have hsz:w.heap.size+1<wr.heap.size:=by
  have:=hB.blk;rcases cG (w.heap.size+1) wr.heap.size with h'|h'
  ·exact h'
  rw[bj h']at this;cases this
 have t0:wr.cell? (D (w.heap.size+1) 0 Z)=U (Bo all):=by simp[Wc,hB.blk]
 have t1:wr.cell? (D (w.heap.size+1) 1 Z)=U vt:=by simp[Wc,hB.blk]
 have f0:wr.frozen? (D (w.heap.size+1) 0 Z)=false:=by simp[Wf,hB.blk]
 have f1:wr.frozen? (D (w.heap.size+1) 1 Z)=false:=by simp[Wf,hB.blk]
 by_cases hlt:j<l.length
 ·obtain⟨g,rfl⟩:=HA O;have cj:=kJ hO hlt;have HX:Hi (l.getD j 0∈l):=by show _∈l;rw[aB,aC hlt];exact bz hlt
  have HTK:Hi (l.take (j+1)=l.take j++[l.getD j 0]):=by show l.take (j+1)=_;rw[eB,aC hlt];simp[hlt]
  generalize l.getD j 0=x at cj HX HTK;have hLX:i9 s i x:=(HF x).1 HX;have hxs:x<s.length:=hLX.1.lt HW hi;have hkx:=HKD x hxs;have htx:=HTG x hxs;have hx12:¬(nd s x).every->(nd s x).tag<0->(nd s x).kind<=12:=fun h1 h2=>by have a1:(nd s x).kind≠14:=fun e=>h1 ⟨e,h2⟩;have a2:(nd s x).kind≠13:=fun e=>hLX.2 ⟨e,h2⟩;omega
  have HX12:Hi (¬(nd s x).every->(nd s x).tag<0->(nd s x).kind<=12):=hx12;obtain⟨b,o,ka,kc,rfl,nc,kl,km,ks⟩:=HS x hxs;obtain⟨n1,n2,n3,n4⟩:=nc.below hB.bel;have hlt':(j:Int)<l.length:=O;have hxs':(x:Int)<s.length:=O;clear hB hO ks nc hLX hx12;by_cases hev:(nd s x).every
  ·(have e1:((nd s x).kind==14)=true:=by simp[hev.1]);(have e2:((nd s x).tag== -1)=true:=by have:=hev.2;rw[bV];omega);have HEV:Hi (nd s x).every:=hev;clear hev hkx htx;go_wp2;go_roundw;case rel=>exact⟨j+1,true,vt,Gn,O,by rw[HTK.out];exact(HB.setAll HEV).below Be,(aJ HOw (cJ HB.blk HOw Dc) _).alloc _⟩
   case measure=>exact Ms
  have HEV:Hi (¬(nd s x).every):=hev;have e12:((nd s x).kind==14)=false\/(((nd s x).kind==14)=true/\((nd s x).tag== -1)=false):=by
   by_cases q:(nd s x).kind=14
   ·right;exact⟨by simp[q],by rw[aD];intro q2;exact hev ⟨q,O⟩⟩
   left;simp[q]
  have HOT:Hi (∀w',iO w'->Cs prog 140 #[Ag #[I J (nd s x).kind,I J (nd s x).tag,I J (nd s x).mode,S ka (nd s x).kids.length kc]] w' fun e w''=>e=Rt (Ag #[I J (nd s x).outer.1,I J (nd s x).outer.2])/\H w'.heap.size w' w''):=fun w' q=>jm (nd s x) ka kc w' q htx O (fun q'=>HX12 HEV q');have RUN:Hi (∀args w,(callFunc 140 args).run prog w= .ok (.enter 140 args) w):=fun args w=>eY func140 Kr Rf args w;have HNW:Hi (∀o,iO (wr.alloc o).drew):=fun o=>HN.below ((HB.bel.alloc HB.bel.size o).drew);have BH:Hi (∀o w5,H (wr.alloc o).drew.heap.size (wr.alloc o).drew w5->rP s w w5 (l.take j) all vt):=fun o w5 q=>(HB.below ((aY wr.heap.size wr).alloc Ln o).drew).below q;have OH:Hi (∀o w5,H (wr.alloc o).drew.heap.size (wr.alloc o).drew w5->w5.ownsRow w.heap.size 3 1 (S (U (D g 0 Z)) l.length vc) l.length (mh l)):=fun o w5 q=>bB (bB HOw ((aY wr.heap.size wr).alloc Ln o).drew) q;have htl:(ng s (l.take j)).length<=41:=by have:=Do s (l.take j);have:=List.length_take_le j l;omega
  clear hev hkx htx;rcases e12 with e1|⟨e1,e2⟩
  ·go_wp2_with fail;go_region_law (first|(refine ib X 140 _ _ X #[Ag #[I J (nd s x).kind,I J (nd s x).tag,I J (nd s x).mode,S ka (nd s x).kids.length kc]] (by simp[Ae,Ap]) (Ag #[I J (nd s x).outer.1,I J (nd s x).outer.2]) (fun w''=>H ((wr.alloc (C #[I J (nd s x).kind,I J (nd s x).tag,I J (nd s x).mode,S ka (nd s x).kids.length kc] 58)).drew).heap.size ((wr.alloc (C #[I J (nd s x).kind,I J (nd s x).tag,I J (nd s x).mode,S ka (nd s x).kids.length kc] 58)).drew) w'') (RUN _ _) (HOT _ (HNW _)) ?_;intro w5 hb5;have HB5:=BH _ _ hb5;have HO5:=OH _ _ hb5;have t15:=HB5.cell1;have f15:=HB5.froz1;have hs5:=HB5.bel.size;have hl5:w.heap.size+1<w5.heap.size:=aw t15;clear hb5)|(refine step_append_lies _ X (.tmp 37) (.tmp 40) 172 X w.heap.size 147 i0 kX 2 16 underlying172 hi0 hz0 hz1 hz2 X Dc vt (ng s (l.take j)).length (fV (ng s (l.take j))) (by simp[Ae,Ap]) (HB5.own.alloc _) (D w5.heap.size 0 Z) 1 1 [I J (nd s x).outer.1,I J (nd s x).outer.2] (by simp[Ae,Ap]) X (World.news_of_block (aA w5 _)) (by intro u hu;simp at hu;rcases hu with rfl|rfl<;>rfl) Dc (by unfold maxLen;omega) O So (w5.heap.size+1) Sq ?_;intro g6 cap6 w6 h61 h62 h63 h64;have HB6:=HB5.put HEV h61 h62;have HO6:=(HO5.alloc _).kept h62 (zZ HB5.own HO5 Dc);have t16:=HB5.cell_kept h62;have BK6:=hP HB5.blk (cJ HB5.blk HB5.own Dc) h62;clear h61 h62 h63 h64));all_goals
    have HB7:Hi (rP s w (w6.setCell (D (w.heap.size+1) 1 Z) (S (U (D g6 0 Z)) ((ng s (l.take j)).length+1) cap6)) (l.take j++[x]) all (S (U (D g6 0 Z)) ((ng s (l.take j)).length+1) cap6)):=HB6;have HO7:Hi ((w6.setCell (D (w.heap.size+1) 1 Z) (S (U (D g6 0 Z)) ((ng s (l.take j)).length+1) cap6)).ownsRow w.heap.size 3 1 (S (U (D g 0 Z)) l.length vc) l.length (mh l)):=aJ HO6 (cJ BK6 HO6 Dc) _;clear HB6 HO6 HB5 HO5 t15 f15 t16 hs5 hl5 BK6;go_wp2;go_roundw;case rel=>exact⟨j+1,all,_,Gn,O,by rw[HTK.out];exact HB7,HO7⟩
    case measure=>exact Ms
  go_wp2_with fail;go_region_law (first|(refine ib X 140 _ _ X #[Ag #[I J (nd s x).kind,I J (nd s x).tag,I J (nd s x).mode,S ka (nd s x).kids.length kc]] (by simp[Ae,Ap]) (Ag #[I J (nd s x).outer.1,I J (nd s x).outer.2]) (fun w''=>H ((wr.alloc (C #[I J (nd s x).kind,I J (nd s x).tag,I J (nd s x).mode,S ka (nd s x).kids.length kc] 58)).drew).heap.size ((wr.alloc (C #[I J (nd s x).kind,I J (nd s x).tag,I J (nd s x).mode,S ka (nd s x).kids.length kc] 58)).drew) w'') (RUN _ _) (HOT _ (HNW _)) ?_;intro w5 hb5;have HB5:=BH _ _ hb5;have HO5:=OH _ _ hb5;have t15:=HB5.cell1;have f15:=HB5.froz1;have hs5:=HB5.bel.size;have hl5:w.heap.size+1<w5.heap.size:=aw t15;clear hb5)|(refine step_append_lies _ X (.tmp 37) (.tmp 40) 172 X w.heap.size 147 i0 kX 2 16 underlying172 hi0 hz0 hz1 hz2 X Dc vt (ng s (l.take j)).length (fV (ng s (l.take j))) (by simp[Ae,Ap]) (HB5.own.alloc _) (D w5.heap.size 0 Z) 1 1 [I J (nd s x).outer.1,I J (nd s x).outer.2] (by simp[Ae,Ap]) X (World.news_of_block (aA w5 _)) (by intro u hu;simp at hu;rcases hu with rfl|rfl<;>rfl) Dc (by unfold maxLen;omega) O So (w5.heap.size+1) Sq ?_;intro g6 cap6 w6 h61 h62 h63 h64;have HB6:=HB5.put HEV h61 h62;have HO6:=(HO5.alloc _).kept h62 (zZ HB5.own HO5 Dc);have t16:=HB5.cell_kept h62;have BK6:=hP HB5.blk (cJ HB5.blk HB5.own Dc) h62;clear h61 h62 h63 h64));all_goals
   have HB7:Hi (rP s w (w6.setCell (D (w.heap.size+1) 1 Z) (S (U (D g6 0 Z)) ((ng s (l.take j)).length+1) cap6)) (l.take j++[x]) all (S (U (D g6 0 Z)) ((ng s (l.take j)).length+1) cap6)):=HB6;have HO7:Hi ((w6.setCell (D (w.heap.size+1) 1 Z) (S (U (D g6 0 Z)) ((ng s (l.take j)).length+1) cap6)).ownsRow w.heap.size 3 1 (S (U (D g 0 Z)) l.length vc) l.length (mh l)):=aJ HO6 (cJ BK6 HO6 Dc) _;clear HB6 HO6 HB5 HO5 t15 f15 t16 hs5 hl5 BK6;go_wp2;go_roundw;case rel=>exact⟨j+1,all,_,Gn,O,by rw[HTK.out];exact HB7,HO7⟩
   case measure=>exact Ms
 have hlt':(l.length:Int)<=j:=O;obtain rfl:j=l.length:=O;have q0:wr.cell? (D w.heap.size 0 Z)=U (Bo false):=by simp[Wc,hB.res]
 have q1:wr.cell? (D w.heap.size 1 Z)=U (S Z 0 0):=by simp[Wc,hB.res]
 have p0:wr.frozen? (D w.heap.size 0 Z)=false:=by simp[Wf,hB.res]
 have p1:wr.frozen? (D w.heap.size 1 Z)=false:=by simp[Wf,hB.res]
 have hsz':w.heap.size<wr.heap.size:=O;rw[gG]at HB;obtain⟨ta,tc,rfl,_⟩:=iB hB.own;have hle:(ng s l).length<=41:=by have:=Do s l;omega
 clear hB hO;go_wp2;refine aS (v:=Ag #[Bo all,S ta (ng s (l.take l.length)).length tc]) (by simp[results,results97,go_sem,q0,q1,hsz']) X ⟨all,_,ng s l,X,?_,?_,hle,?_,?_⟩
 ·rw[gG]at*;have ne:=cJ HB.res HB.own Dc;exact aJ (aJ HB.own ne _) ne _
 ·exact(HB.bel.setCell (p:=D w.heap.size 0 Z) Ln _).setCell (p:=D w.heap.size 1 Z) Ln _
 ·rw[HB.alls];exact⟨fun⟨j,h1,h2⟩=>⟨j,(HF j).1 h1,h2⟩,fun⟨j,h1,h2⟩=>⟨j,(HF j).2 h1,h2⟩⟩
 intro t;rw[Ee];exact⟨fun⟨j,h1,h2⟩=>⟨j,(HF j).1 h1,h2⟩,fun⟨j,h1,h2⟩=>⟨j,(HF j).2 h1,h2⟩⟩
def fv(c n:Int)(b:Bool):Vv:=Ag #[I J c,I J n,Bo b]
theorem o5(c:Int)(b:Bool)(n z l:Int)(w:M):Cs prog 157 #[Ag #[I J c,Bo b,I J n,I J z,I J l]] w fun e w'=>e=Rt (fv c n b)/\H w.heap.size w w':=by
 unfold fv;go_enter func157,ntmps157;go_wp2;refine aS (v:=Ag #[I J c,I J n,Bo b]) (by simp[results,results157,go_sem]) X ⟨X,?_⟩;exact(Be).alloc Sq _
theorem ow(n:Nd)(ka:Oo Ad)(kc:Nat)(w:M)(hm:n.mode≠1):Cs prog 110 #[Ag #[I J n.kind,I J n.tag,I J n.mode,S ka n.kids.length kc]] w fun e w'=>e=Rt (Tu #[fv 0 0 false,Bo false])/\H w.heap.size w w':=by
 have e:(n.mode !=1)=true:=by simp[hm]
 unfold fv;clear hm;go_enter func110,ntmps110;go_wp2;refine aS (v:=Tu #[Ag #[I J 0,I J 0,Bo false],Bo false]) (by simp[results,results110,go_sem]) X ⟨X,?_⟩;exact(Be).alloc Sq _
theorem iE{B:Nat}{w w1:M}(h:H B w w1)(b:Nat)(hb:B<=b)(v0 v1 v2:Vv):H B w (((w1.setCell (D b 0 Z) v0).setCell (D b 1 Z) v1).setCell (D b 2 Z) v2):=
 ((h.setCell (p:=D b 0 Z) hb v0).setCell (p:=D b 1 Z) hb v1).setCell (p:=D b 2 Z) hb v2
theorem mW(n:Nd)(ka:Oo Ad)(kc:Nat)(w:M)(hm:n.mode=1)(hn:iO w)(ht:0<=n.tag)(hk:0<=n.kind):Cs prog 110 #[Ag #[I J n.kind,I J n.tag,I J n.mode,S ka n.kids.length kc]] w fun e w'=>e=Rt (Tu #[fv 2 n.tag true,Bo true])/\H w.heap.size w w':=by
 have e:(n.mode !=1)=false:=by simp[hm]
 have HC:Hi (∀w',iO w'->Cs prog 140 #[Ag #[I J n.kind,I J n.tag,I J n.mode,S ka n.kids.length kc]] w' fun e w''=>e=Rt (Ag #[I J 2,I J n.tag])/\H w'.heap.size w' w''):=fun w' q=>by have:=jm n ka kc w' q O hk (fun h=>O);unfold Nd.outer at this;rw[aG ht]at this;exact this
 have HN:Hi (∀o1 o2,iO ((w.alloc o1).alloc o2)):=fun o1 o2=>hn.below ((Be).alloc Sq _);unfold fv;clear hm hn;go_enter func110,ntmps110;go_wp2_with fail;refine(HC _ (HN _ _)).mono ?_;rintro e w1 ⟨rfl,hb⟩;have HB:Hi _:=aT (aT hb);have hG:w1.heap[w.heap.size+1]? =U (C #[I J 0,I J 0,Bo false] 149 (0,0)):=ax (by simpa using aA (w.alloc _) _) hb;have q0:w1.cell? (D (w.heap.size+1) 0 Z)=U (I J 0):=by simp[Wc,hG]
 have q1:w1.cell? (D (w.heap.size+1) 1 Z)=U (I J 0):=by simp[Wc,hG]
 have q2:w1.cell? (D (w.heap.size+1) 2 Z)=U (Bo false):=by simp[Wc,hG]
 have f0:w1.frozen? (D (w.heap.size+1) 0 Z)=false:=by simp[Wf,hG]
 have f1:w1.frozen? (D (w.heap.size+1) 1 Z)=false:=by simp[Wf,hG]
 have f2:w1.frozen? (D (w.heap.size+1) 2 Z)=false:=by simp[Wf,hG]
 clear hb hG;go_wp2;refine aS (v:=Tu #[Ag #[I J 2,I J n.tag,Bo true],Bo true]) (by simp[results,results110,go_sem,q0,q1,q2]) X ⟨X,?_⟩;exact iE HB _ Sq _ _ _
def Nd.ownT(n:Nd):Int×Int:=if n.mode=0/\0<=n.tag then(2,n.tag)else(0,own n.kind)
theorem te(n:Nd)(ka:Oo Ad)(kc:Nat)(w:M)(hn:iO w)(ht: -1<=n.tag)(hk:0<=n.kind)(hk':n.kind<=9):Cs prog 152 #[Ag #[I J n.kind,I J n.tag,I J n.mode,S ka n.kids.length kc]] w fun e w'=>e=Rt (fv n.ownT.1 n.ownT.2 false)/\H w.heap.size w w':=by
 have HC:Hi (∀w',iO w'->Cs prog 140 #[Ag #[I J n.kind,I J n.tag,I J n.mode,S ka n.kids.length kc]] w' fun e w''=>e=Rt (Ag #[I J n.outer.1,I J n.outer.2])/\H w'.heap.size w' w''):=fun w' q=>jm n ka kc w' q ht hk (fun h=>O);have HW:Hi (∀w',iO w'->Cs prog 179 #[I J n.kind] w' fun e w''=>e=Rt (Ag #[I J 0,I J (own n.kind)])/\H w'.heap.size w' w''):=fun w' q=>na n.kind hk O w' q;have HN:Hi (∀wq,H w.heap.size w wq->iO wq):=fun wq q=>hn.below q;have hk10:n.kind<10:=O;have hd10:decide (10<=n.kind)=false:=So;obtain⟨T1,T2,hT⟩:∃T1 T2,n.ownT=(T1,T2):=⟨_,_,X⟩;have HT:Hi (n.ownT=(T1,T2)):=hT;rw[hT];unfold fv;clear hn hT;go_enter func152,ntmps152;go_wp2_with fail;refine(HW _ (HN _ ((Be).alloc Sq _))).mono ?_;rintro e w1 ⟨rfl,hb⟩;have HB:Hi (H w.heap.size w w1):=aT (aT hb);have HG:Hi (w1.heap[w.heap.size+1]? =U (C #[I J 0,I J 0,Bo false] 149 (0,0))):=ax (by simpa using aA (w.alloc _) _) hb;have HG0:Hi (w1.heap[w.heap.size]? =U (C #[I J n.kind,I J n.tag,I J n.mode,S ka n.kids.length kc] 58 (0,0))):=ax (ax (aA w _) Be) hb;have hs1:w.heap.size+1<w1.heap.size:=by have:=hb.size;simp at this;omega
 have hs0:w.heap.size<w1.heap.size:=O;have p0:w1.cell? (D w.heap.size 0 Z)=U (I J n.kind):=by simp[Wc,HG0.out]
 have p1:w1.cell? (D w.heap.size 1 Z)=U (I J n.tag):=by simp[Wc,HG0.out]
 have p2:w1.cell? (D w.heap.size 2 Z)=U (I J n.mode):=by simp[Wc,HG0.out]
 have p3:w1.cell? (D w.heap.size 3 Z)=U (S ka n.kids.length kc):=by simp[Wc,HG0.out]
 have q0:w1.cell? (D (w.heap.size+1) 0 Z)=U (I J 0):=by simp[Wc,HG.out]
 have q1:w1.cell? (D (w.heap.size+1) 1 Z)=U (I J 0):=by simp[Wc,HG.out]
 have q2:w1.cell? (D (w.heap.size+1) 2 Z)=U (Bo false):=by simp[Wc,HG.out]
 have f0:w1.frozen? (D (w.heap.size+1) 0 Z)=false:=by simp[Wf,HG.out]
 have f1:w1.frozen? (D (w.heap.size+1) 1 Z)=false:=by simp[Wf,HG.out]
 have f2:w1.frozen? (D (w.heap.size+1) 2 Z)=false:=by simp[Wf,HG.out]
 clear hb;by_cases hm:n.mode=0
 ·have e0:(n.mode==0)=true:=by simp[hm]
  have HE:Hi (n.ownT=n.outer):=by
   show n.ownT=n.outer;unfold Nd.ownT Nd.outer;by_cases q:0<=n.tag
   ·rw[aG ⟨hm,q⟩,aG q]
   rw[G (fun r=>q r.2),G q]
  obtain⟨rfl,rfl⟩:T1=n.outer.1/\T2=n.outer.2:=by rw[<-HE,HT.out];exact⟨X,X⟩
  clear hm;go_wp2_with fail;refine(HC _ (HN _ (HB.alloc HB.size _))).mono ?_;rintro e w2 ⟨rfl,hb2⟩;have HB2:Hi (H w.heap.size w w2):=HB.trans ((aT hb2).mono HB.size);have hA:w2.heap[w1.heap.size]? =U (C #[I J 0,I J (own n.kind)] 147 (0,0)):=ax (aA w1 _) hb2;have hG2:=ax HG (aT hb2);have hG02:=ax HG0 (aT hb2);have hs2:w1.heap.size<w2.heap.size:=by have:=hb2.size;simp at this;omega
  have t0:w2.cell? (D w1.heap.size 0 Z)=U (I J 0):=by simp[Wc,hA]
  have t1:w2.cell? (D w1.heap.size 1 Z)=U (I J (own n.kind)):=by simp[Wc,hA]
  have t2:w2.frozen? (D w1.heap.size 0 Z)=false:=by simp[Wf,hA]
  have t3:w2.frozen? (D w1.heap.size 1 Z)=false:=by simp[Wf,hA]
  have r0:w2.cell? (D (w.heap.size+1) 0 Z)=U (I J 0):=by simp[Wc,hG2]
  have r1:w2.cell? (D (w.heap.size+1) 1 Z)=U (I J 0):=by simp[Wc,hG2]
  have r2:w2.cell? (D (w.heap.size+1) 2 Z)=U (Bo false):=by simp[Wc,hG2]
  have g0:w2.frozen? (D (w.heap.size+1) 0 Z)=false:=by simp[Wf,hG2]
  have g1:w2.frozen? (D (w.heap.size+1) 1 Z)=false:=by simp[Wf,hG2]
  have g2:w2.frozen? (D (w.heap.size+1) 2 Z)=false:=by simp[Wf,hG2]
  have d0:w2.cell? (D w.heap.size 0 Z)=U (I J n.kind):=by simp[Wc,hG02]
  have hne1:¬w1.heap.size=w.heap.size+1:=O;have hne0:¬w1.heap.size=w.heap.size:=O;have hne2:¬w.heap.size+1=w1.heap.size:=O;have hne3:¬w.heap.size=w1.heap.size:=O;clear hb2 hA hG2 hG02 p0 p1 p2 p3 q0 q1 q2 f0 f1 f2;go_wp2;refine aS (v:=Ag #[I J n.outer.1,I J n.outer.2,Bo false]) (by simp[results,results152,go_sem,r0,r1,r2,t0,t1,hne1,hne2,hd10]) X ⟨X,?_⟩;exact iE ((HB2.setCell (p:=D w1.heap.size 0 Z) (by exact zy hs0) _).setCell (p:=D w1.heap.size 1 Z) (by exact zy hs0) _) _ Sq _ _ _
 have e0:(n.mode==0)=false:=by simp[hm]
 have HE:Hi (n.ownT=(0,own n.kind)):=by show n.ownT=(0,own n.kind);unfold Nd.ownT;rw[G (fun r=>hm r.1)]
 obtain⟨rfl,rfl⟩:T1=0/\T2=own n.kind:=by have:=HE.out;rw[HT.out]at this;injection this with a b;exact⟨a,b⟩
 clear hm;go_wp2;refine aS (v:=Ag #[I J 0,I J (own n.kind),Bo false]) (by simp[results,results152,go_sem,q0,q1,q2,hs1,hd10]) X ⟨X,?_⟩
 first
  |exact(iE HB _ Sq _ _ _).alloc (iE HB _ Sq _ _ _).size _
  |exact iE (HB.alloc HB.size _) _ Sq _ _ _
def Nd.lays(n:Nd):Ls (Int×Int×Bool):=if n.mode=1 then [(2,n.tag,true),(n.ownT.1,n.ownT.2,false)]else [(n.ownT.1,n.ownT.2,false)]
def qO(l:Ls (Int×Int×Bool)):Ls Vv:=l.flatMap fun t=> [I J t.1,I J t.2.1,Bo t.2.2]
theorem yz(n:Nd)(ka:Oo Ad)(kc:Nat)(w:M)(hn:iO w)(ht: -1<=n.tag)(hk:0<=n.kind)(hk':n.kind<=9)(hm1:n.mode=1->0<=n.tag):Cs prog 172 #[Ag #[I J n.kind,I J n.tag,I J n.mode,S ka n.kids.length kc]] w fun e w'=>∃g,e=Rt (S (U (D g 0 Z)) n.lays.length n.lays.length)/\(∃T,w'.heap[g]? =U (C (qO n.lays).toArray T (0,0)))/\H w.heap.size w w':=by
 have HO:Hi (∀wq,H w.heap.size w wq->Cs prog 152 #[Ag #[I J n.kind,I J n.tag,I J n.mode,S ka n.kids.length kc]] wq fun e w'=>e=Rt (Ag #[I J n.ownT.1,I J n.ownT.2,Bo false])/\H wq.heap.size wq w'):=fun wq q=>te n ka kc wq (hn.below q) ht hk hk';by_cases hm:n.mode=1
 ·have HA:Hi (∀wq,H w.heap.size w wq->Cs prog 110 #[Ag #[I J n.kind,I J n.tag,I J n.mode,S ka n.kids.length kc]] wq fun e w'=>e=Rt (Tu #[Ag #[I J 2,I J n.tag,Bo true],Bo true])/\H wq.heap.size wq w'):=fun wq q=>mW n ka kc wq hm (hn.below q) (hm1 hm) hk;have e:n.lays=[(2,n.tag,true),(n.ownT.1,n.ownT.2,false)]:=by unfold Nd.lays;rw[aG hm]
  rw[e];have RUN:Hi (∀args w,(callFunc 152 args).run prog w= .ok (.enter 152 args) w):=fun args w=>eY func152 Kr Rf args w;clear hm hn hm1 e;go_enter func172,ntmps172;go_wp2_with fail;refine(HA _ Be).mono ?_;rintro e w1 ⟨rfl,hb1⟩;have HB1:Hi (H w.heap.size w w1):=aT hb1;have hG:=ax (aA w (C #[I J n.kind,I J n.tag,I J n.mode,S ka n.kids.length kc] 58)) hb1;have hs1:=Fc hG;have p0:w1.cell? (D w.heap.size 0 Z)=U (I J n.kind):=by simp[Wc,hG]
  have p1:w1.cell? (D w.heap.size 1 Z)=U (I J n.tag):=by simp[Wc,hG]
  have p2:w1.cell? (D w.heap.size 2 Z)=U (I J n.mode):=by simp[Wc,hG]
  have p3:w1.cell? (D w.heap.size 3 Z)=U (S ka n.kids.length kc):=by simp[Wc,hG]
  have HB2:Hi (∀o,H w.heap.size w (w1.alloc o).drew):=fun o=>(HB1.alloc HB1.size o).drew;clear hb1 hG;go_wp2_with fail;go_region_law (refine ib X 152 _ _ X #[Ag #[I J n.kind,I J n.tag,I J n.mode,S ka n.kids.length kc]] (by simp[Ae,Ap]) (Ag #[I J n.ownT.1,I J n.ownT.2,Bo false]) (fun w''=>H ((w1.alloc (C #[I J 2,I J n.tag,Bo true] 149)).drew).heap.size ((w1.alloc (C #[I J 2,I J n.tag,Bo true] 149)).drew) w'') (RUN _ _) (HO _ (HB2 _)) ?_;intro w5 hb5;have HB5:=(HB2 _).trans (hb5.mono (HB2 _).size);have hF:=ax (aA w1.drew (C #[I J 2,I J n.tag,Bo true] 149)) hb5;have t0:w5.cell? (D w1.heap.size 0 Z)=U (I J 2):=(by simp[Wc]at hF ⊢;simp[hF]);have t1:w5.cell? (D w1.heap.size 1 Z)=U (I J n.tag):=(by simp[Wc]at hF ⊢;simp[hF]);have t2:w5.cell? (D w1.heap.size 2 Z)=U (Bo true):=(by simp[Wc]at hF ⊢;simp[hF]);clear hb5 hF);all_goals have HB6:Hi (H w.heap.size w w5):=HB5;clear HB5;go_wp2;go_ret;exact⟨w5.heap.size,X,⟨_,aA w5 _⟩,HB6.alloc HB6.size _⟩
 have HA:Hi (∀wq,Cs prog 110 #[Ag #[I J n.kind,I J n.tag,I J n.mode,S ka n.kids.length kc]] wq fun e w'=>e=Rt (Tu #[Ag #[I J 0,I J 0,Bo false],Bo false])/\H wq.heap.size wq w'):=fun wq=>ow n ka kc wq hm;have e:n.lays=[(n.ownT.1,n.ownT.2,false)]:=by unfold Nd.lays;rw[G hm]
 rw[e];clear hm hn hm1 e;go_enter func172,ntmps172;go_wp2_with fail;refine(HA _).mono ?_;rintro e w1 ⟨rfl,hb1⟩;have HB1:Hi (H w.heap.size w w1):=aT hb1;have hG:=ax (aA w (C #[I J n.kind,I J n.tag,I J n.mode,S ka n.kids.length kc] 58)) hb1;have hs1:=Fc hG;have p0:w1.cell? (D w.heap.size 0 Z)=U (I J n.kind):=by simp[Wc,hG]
 have p1:w1.cell? (D w.heap.size 1 Z)=U (I J n.tag):=by simp[Wc,hG]
 have p2:w1.cell? (D w.heap.size 2 Z)=U (I J n.mode):=by simp[Wc,hG]
 have p3:w1.cell? (D w.heap.size 3 Z)=U (S ka n.kids.length kc):=by simp[Wc,hG]
 clear hb1 hG;go_wp2_with fail;refine(HO _ (HB1.alloc HB1.size _)).mono ?_;rintro e w2 ⟨rfl,hb2⟩;have HB2:Hi (H w.heap.size w w2):=HB1.trans ((aT hb2).mono HB1.size);clear hb2;go_wp2;go_ret;exact⟨w2.heap.size,X,⟨_,aA w2 _⟩,HB2.alloc HB2.size _⟩
def ja(w:M)(a:Oo Ad)(ts:Ls (Int×Int)):Prop:=∀j,j<ts.length->∃b o,a=U (D b o Z)/\w.cell? (D b (o+j*2) Z)=U (I J (ts.getD j (0,0)).1)/\w.cell? (D b (o+j*2+1) Z)=U (I J (ts.getD j (0,0)).2)
theorem ja.below{w w':M}{a:Oo Ad}{ts:Ls (Int×Int)}(h:ja w a ts)(hb:H w.heap.size w w'):ja w' a ts:=fun j hj=>by obtain⟨b,o,e,h1,h2⟩:=h j hj;exact⟨b,o,e,(hb.cell (aw h1)).trans h1,(hb.cell (aw h2)).trans h2⟩
theorem AT(ts:Ls (Int×Int))(a:Oo Ad)(c:Nat)(t:Int×Int)(w:M)(h:ja w a ts)(hl:ts.length<=41):Cs prog 199 #[S a ts.length c,Ag #[I J t.1,I J t.2]] w fun e w'=>∃r,e=Rt (I J r)/\(0<=r↔t∈ts)/\H w.heap.size w w':=by
 obtain⟨t1,t2⟩:=t;have HI:Hi _:=h;clear h;go_enter func199,ntmps199;go_wp2;go_loopw [8] (fun vj wr=>∃j:Nat,vj=I J j/\j<=ts.length/\(∀p,p<j->ts.getD p (0,0)≠(t1,t2))/\∃q,wr=(w.alloc (C #[I J t1,I J t2] 147)).drewN q) (fun vj _=>ts.length-(Io vj).toNat);case atStart=>exact⟨0,X,Lz,fun _ h=>Ab h (aO _),0,X⟩
 obtain⟨j,rfl,hj,hno,q,rfl⟩:=hrel;have HN:Hi _:=hno;have HB:Hi (∀q,H w.heap.size w ((w.alloc (C #[I J t1,I J t2] 147)).drewN q)):=fun q=>Go.below_drewN Be q;clear hno;by_cases hlt:j<ts.length
 ·obtain⟨b,o,rfl,c1,c2⟩:=HI j hlt;have hbl:b<w.heap.size:=aw c1;have hlt':(j:Int)<ts.length:=O;have HM:Hi (ts.getD j (0,0)∈ts):=by show _∈ts;rw[aB,aC hlt];exact bz hlt
  obtain⟨u,hu⟩:∃u,ts.getD j (0,0)=u:=Ey;have HU:Hi _:=hu;rw[hu]at c1 c2;clear hu;obtain⟨u1,u2⟩:=u;simp only at c1 c2;by_cases e:t1=u1/\t2=u2
  ·obtain⟨rfl,rfl⟩:=e;go_wp2;go_quiet (fail);go_wp2;go_ret;exact⟨j,X,⟨fun _=>by rw[<-HU.out];exact HM,fun _=>O⟩,Go.below_drewN (HB _) _⟩
  have HE:Hi ((u1,u2)≠(t1,t2)):=fun q=>e (by injection q with q1 q2;exact⟨q1.symm,q2.symm⟩);by_cases e1:t1=u1
  ·subst e1;(have e2:(t2==u2)=false:=by rw[aD];exact fun q=>e ⟨X,q⟩);clear e;go_wp2;go_quiet (fail);go_wp2;go_roundw
   case rel=>exact⟨j+1,Gn,O,fun p hp=>by
    by_cases ep:p=j
    ·subst ep;rw[HU.out];exact HE
    exact HN p O,_,X⟩
   case measure=>exact Ms
  have e2:(t1==u1)=false:=by rw[aD];exact e1
  clear e e1;go_wp2;go_quiet (fail);go_wp2;go_roundw
  case rel=>exact⟨j+1,Gn,O,fun p hp=>by
   by_cases ep:p=j
   ·subst ep;rw[HU.out];exact HE
   exact HN p O,_,X⟩
  case measure=>exact Ms
 have hlt':(ts.length:Int)<=j:=O;go_wp2;go_ret;exact⟨-1,X,⟨fun h=>Ab h Dc,fun h=>by obtain⟨p,hp,e⟩:=dN h;exact Ab (by rw[aB,aC hp];simpa using e) (HN p O)⟩,HB _⟩
theorem nK(ts:Ls (Int×Int))(a:Oo Ad)(c:Nat)(t:Int×Int)(w:M)(h:ja w a ts)(hl:ts.length<=41):Cs prog 180 #[S a ts.length c,Ag #[I J t.1,I J t.2]] w fun e w'=>dB (t∈ts) w e w':=by
 have HC:Hi _:=fun w q=>AT ts a c t w q hl;have HI:Hi (∀o,ja (w.alloc o) a ts):=fun o=>h.below Be;clear h;go_enter func180,ntmps180;go_wp2_with fail;refine(HC _ (HI _)).mono ?_;rintro e w1 ⟨r,rfl,hr,hb⟩;have HR:Hi _:=hr;have HB:Hi _:=aT hb;clear hr hb;go_wp2;go_ret;exact iD (by rw[cK];exact HR) HB
def pU(al1 al2:Bool)(t1 t2:Ls (Int×Int)):Prop:=al1=true\/al2=true\/∃t,t∈t1/\t∈t2
theorem sO(al1 al2:Bool)(a1 a2:Oo Ad)(c1 c2:Nat)(t1 t2:Ls (Int×Int))(w:M)(h1:ja w a1 t1)(h2:ja w a2 t2)(hl1:t1.length<=41)(hl2:t2.length<=41):Cs prog 141 #[Ag #[Bo al1,S a1 t1.length c1],Ag #[Bo al2,S a2 t2.length c2]] w fun e w'=>dB (pU al1 al2 t1 t2) w e w':=by
 have HC:Hi (∀w t,ja w a2 t2->Cs prog 180 #[S a2 t2.length c2,Ag #[I J t.1,I J t.2]] w fun e w'=>dB (t∈t2) w e w'):=fun w t q=>nK t2 a2 c2 t w q hl2;have H1:Hi (ja w a1 t1):=h1;have H2:Hi (ja w a2 t2):=h2;clear h1 h2;have hb0:H w.heap.size w ((w.alloc (C #[Bo al1,S a1 t1.length c1] 174)).alloc (C #[Bo al2,S a2 t2.length c2] 174)):=(Be).alloc Sq _;cases al1
 ·cases al2
  ·have HB0:Hi (H w.heap.size w ((w.alloc (C #[Bo false,S a1 t1.length c1] 174)).alloc (C #[Bo false,S a2 t2.length c2] 174))):=hb0;clear hb0;go_enter func141,ntmps141;go_wp2;obtain⟨B,hB⟩:∃B,B=w.heap.size+1:=Ez
   have HW0:Hi (∀wr,H ((w.alloc (C #[Bo false,S a1 t1.length c1] 174)).alloc (C #[Bo false,S a2 t2.length c2] 174)).heap.size ((w.alloc (C #[Bo false,S a1 t1.length c1] 174)).alloc (C #[Bo false,S a2 t2.length c2] 174)) wr->
    wr.cell? ⟨B,1,Z⟩=U (S a2 t2.length c2)/\H w.heap.size w wr):=fun wr h=>by
    have q:=ax (show _=U (Obj.cells _ _ _)from aA (w.alloc (C #[Bo false,S a1 t1.length c1] 174)) (C #[Bo false,S a2 t2.length c2] 174)) h
    subst hB
    exact⟨by simp at q;simp[Wc,q],aT (aT h)⟩
   generalize((w.alloc (C #[Bo false,S a1 t1.length c1] 174)).alloc (C #[Bo false,S a2 t2.length c2] 174))=W0 at*;rw[<-hB];clear hB;go_loopw [16] (fun vj wr=>∃j:Nat,vj=I J j/\j<=t1.length/\(∀p,p<j->t1.getD p (0,0)∉t2)/\H W0.heap.size W0 wr) (fun vj _=>t1.length-(Io vj).toNat);case atStart=>exact⟨0,X,Lz,fun _ h=>Ab h (aO _),By⟩
   obtain⟨j,rfl,hj,hno,hbr⟩:=hrel;have HN:Hi (∀p,p<j->t1.getD p (0,0)∉t2):=hno;have HB:Hi (H W0.heap.size W0 wr):=hbr;obtain⟨d1,hbw⟩:=HW0 wr hbr;have HBW:Hi (H w.heap.size w wr):=hbw;clear hno hbr hbw;by_cases hlt:j<t1.length
   ·obtain⟨b,o,rfl,c1',c2'⟩:=(H1.below HBW) j hlt;have hlt':(j:Int)<t1.length:=O;(have HM:Hi (t1.getD j (0,0)∈t1):=by show _∈t1;rw[aB,aC hlt];exact bz hlt);obtain⟨u,hu⟩:∃u,t1.getD j (0,0)=u:=Ey;have HU:Hi _:=hu;rw[hu]at c1' c2';clear hu;have hbB:=aw d1;go_wp2_with fail;refine(HC _ u ((H2.below HBW).below Be)).mono ?_;rintro e w3 ⟨r,rfl,hr,hb3⟩;have HR:Hi _:=hr;have HB3:Hi _:=HB.trans ((aT hb3).mono HB.size);have HBW3:Hi _:=HBW.trans ((aT hb3).mono HBW.size);clear hr hb3;cases r
    ·go_wp2;go_roundw
     case rel=>exact⟨j+1,Gn,O,fun p hp=>by
      by_cases ep:p=j
      ·subst ep;rw[HU.out];exact fun q=>Bool.noConfusion (HR.2 q)
      exact HN p O,HB3⟩
     case measure=>exact Ms
    go_wp2;go_ret;exact bS (.inr (.inr ⟨u,by rw[<-HU.out];exact HM,HR.1 trivial⟩)) HBW3
   have hlt':(t1.length:Int)<=j:=O;go_wp2;go_ret;exact bc (fun h=>by
    rcases h with h|h|⟨t,h1,h2⟩
    ·cases h
    ·cases h
    obtain⟨p,hp,e⟩:=dN h1;refine HN p O ?_;rw[aB,aC hp];simpa [e]using h2) HBW
  have HB0:Hi _:=hb0;clear hb0;go_enter func141,ntmps141;go_wp2;go_ret;exact bS (.inr (.inl X)) HB0
 have HB0:Hi _:=hb0;clear hb0;go_enter func141,ntmps141;go_wp2;go_ret;exact bS (.inl X) HB0
def pQ(s:Ls Nd)(i:Nat)(all:Bool)(ts:Ls (Int×Int)):Prop:=ts.length<=41/\(all=true↔∃j,i9 s i j/\(nd s j).every)/\(∀t,t∈ts↔∃j,i9 s i j/\¬(nd s j).every/\(nd s j).outer=t)
structure Al(s:Ls Nd)(w wr:M)(m:Nat):Prop where
 bel:H w.heap.size w wr
 row:∃ae:Array Vv,wr.heap[w.heap.size]? =U (C ae 174 (0,0))/\ae.size=s.length*2/\
  ∀j,j<m->∃all vt ts,ae[j*2]? =U (Bo all)/\ae[j*2+1]? =U vt/\wr.ownsRow w.heap.size 147 2 vt ts.length (fV ts)/\pQ s j all ts
theorem Al.below{s:Ls Nd}{w wr w':M}{m:Nat}(h:Al s w wr m)(hb:H wr.heap.size wr w'):Al s w w' m where
 bel:=h.bel.trans (hb.mono h.bel.size)
 row:=by
  obtain⟨ae,h1,h2,h3⟩:=h.row
  refine⟨ae,ax h1 hb,h2,fun j hj=>?_⟩
  obtain⟨all,vt,ts,q1,q2,q3,q4⟩:=h3 j hj
  exact⟨all,vt,ts,q1,q2,bB q3 hb,q4⟩
theorem Al.put{s:Ls Nd}{w wr:M}{m:Nat}{all:Bool}{vt:Vv}{ts:Ls (Int×Int)}(h:Al s w wr m)(hm:m<s.length)(ho:wr.ownsRow w.heap.size 147 2 vt ts.length (fV ts))(hb:pQ s m all ts):
 Al s w ((wr.setCell (D w.heap.size (m*2) Z) (Bo all)).setCell (D w.heap.size (m*2+1) Z) vt) (m+1) where
 bel:=(h.bel.setCell (p:=D w.heap.size (m*2) Z) Ln _).setCell (p:=D w.heap.size (m*2+1) Z) Ln _
 row:=by
  obtain⟨ae,h1,h2,h3⟩:=h.row
  refine⟨(ae.setIfInBounds (m*2) (Bo all)).setIfInBounds (m*2+1) vt,bn _ _ _ _ _ _ (bn wr _ _ _ _ _ h1),by simp[h2],fun j hj=>?_⟩
  have own:∀{v:Vv} {ts:Ls (Int×Int)},wr.ownsRow w.heap.size 147 2 v ts.length (fV ts)->((wr.setCell (D w.heap.size (m*2) Z) (Bo all)).setCell (D w.heap.size (m*2+1) Z) vt).ownsRow w.heap.size 147 2 v ts.length (fV ts):=fun q=>by
   have ne:=cJ h1 q Dc
   exact aJ (aJ q ne _) ne _
  by_cases e:j=m
  ·subst e
   refine⟨all,vt,ts,?_,?_,own ho,hb⟩
   ·rw[bL,G O,bL,aG X,aG O]
   ·rw[bL,aG X,aG So]
  ·obtain⟨all',vt',ts',q1,q2,q3,q4⟩:=h3 j O
   refine⟨all',vt',ts',?_,?_,own q3,q4⟩
   ·rw[bL,G O,bL,G O];exact q1
   ·rw[bL,G O,bL,G O];exact q2
def oT:Vv:=Ag #[Bo false,S Z 0 0]
theorem vr:(prog.info? 174).map (fun i=>(i.zero,i.size,i.bytes))=U (U oT,2,32):=Kr
theorem jS(s:Ls Nd)(a:Oo Ad)(c:Nat)(w:M)(hs:ju w a s)(hw:gq s)(htg:Aq s)(hkd:nr s)(hnm:iO w)(hn:s.length<=40):Cs prog 64 #[S a s.length c] w fun e w'=>e=Rt (S (U (D w.heap.size 0 Z)) s.length s.length)/\Al s w w' s.length:=by
 have HR:Hi _:=fun wr i hb hi=>oz s a c i wr (hs.below hb) hw htg hkd (hnm.below hb) hi hn;clear hs hw htg hkd hnm;obtain⟨i0,hi0,hz0,hz1,hz2⟩:=dD vr;obtain⟨w1,hrun,hown,hgr⟩:=run_make_full (P:=prog) w w.heap.size 120 174 i0 oT 2 underlying120 hi0 hz0 hz1 J J s.length (by rw[hz2];omega) (by unfold maxLen;omega) Ln;have HA0:Hi (Al s w w1 0):=by
  refine⟨(aY w.heap.size w).grown hgr Ln (fun k hk=>by cases hk),?_⟩;rcases hown.2 with⟨q,_⟩|⟨g,cap,cur,q,_,q1,_,_,q2,_⟩
  ·cases q
  injection q with e1 _ e3;injection e1 with e1;injection e1 with e1 _ _;subst e1 e3;exact⟨cur,q1,q2,fun j hj=>Ab hj (aO _)⟩
 clear hown hgr;go_enter func64,ntmps64;go_wp2;go_loopw [10] (fun vj wr=>∃j:Nat,vj=I J j/\j<=s.length/\Al s w wr j) (fun vj _=>s.length-(Io vj).toNat);case atStart=>exact⟨0,X,Lz,HA0⟩
 obtain⟨j,rfl,hj,hA⟩:=hrel;have HA:Hi _:=hA;by_cases hlt:j<s.length
 ·have hlt':(j:Int)<s.length:=O;clear hA;go_wp2_with fail;refine(HR _ j HA.bel hlt).mono ?_;rintro e w2 ⟨all,vt,ts,rfl,hown,hb2,hl,h1,h2⟩;have HA2:Hi _:=HA.below hb2;obtain⟨ta,tc,rfl,_⟩:=iB hown;have HO2:Hi (w2.ownsRow w.heap.size 147 2 (S ta ts.length tc) ts.length (fV ts)):=by
   obtain⟨q1,q2⟩:=hown;refine⟨q1,?_⟩;rcases q2 with q2|⟨g,cap,cur,q3,q4,q5⟩
   ·exact .inl q2
   exact .inr ⟨g,cap,cur,q3,bl HA.bel.size q4,q5⟩
  have HBI:Hi (pQ s j all ts):=⟨hl,h1,h2⟩;have hC:∀k,k<s.length*2->(∃u,w2.cell? (D w.heap.size k Z)=U u)/\w2.frozen? (D w.heap.size k Z)=false:=fun k hk=>by obtain⟨ae,q1,q2,_⟩:=HA2.out.row;refine⟨⟨ae[k]' O,by simp only[Wc,q1];simp⟩,by simp[Wf,q1]⟩
  obtain⟨⟨u0,c0⟩,f0⟩:=hC (j*2) O;obtain⟨⟨u1,c1⟩,f1⟩:=hC (j*2+1) O;clear hown hb2 h1 h2 hl hC;go_wp2;go_roundw;case rel=>exact⟨j+1,Gn,O,HA2.put hlt HO2 HBI⟩
  case measure=>exact Ms
 have hlt':(s.length:Int)<=j:=O;obtain rfl:j=s.length:=O;clear hA;go_wp2;go_ret;exact⟨X,HA⟩
end Go.Proofs.YtkkicodfpekbgaaGreatDoor
namespace Go.Proofs.YtkkicodfpekbgaaGreatDoor
open Go.RowKit
def Kd.cells(k:Kd):Ls Vv:=[I J k.node,Bo k.opt,Y k.dflt]
def eR(ks:Ls Kd):Ls Vv:=ks.flatMap Kd.cells
def sV(n:Nd)(K:Vv):Ls Vv:=[I J n.kind,I J n.tag,I J n.mode,K]
def j8(s:Ls Nd)(K:Nat->Vv)(k:Nat):Ls Vv:=(List.range k).flatMap fun i=>sV (nd s i) (K i)
theorem i4(s:Ls Nd)(K:Nat->Vv)(k:Nat):j8 s K (k+1)=j8 s K k++sV (nd s k) (K k):=by unfold j8;rw[List.range_succ];simp
theorem uz{s:Ls Nd}{K K':Nat->Vv}{k:Nat}(h:∀i,i<k->K i=K' i):j8 s K k=j8 s K' k:=by
 induction k with
 |zero=>rfl
 |succ k ih=>rw[i4,i4,ih (fun i hi=>h i O),h k O]
theorem m9(s:Ls Nd)(K:Nat->Vv)(k:Nat):(j8 s K k).length=k*4:=by
 induction k with
 |zero=>rfl
 |succ k ih=>rw[i4,aQ,ih];simp[sV];omega
theorem yH(s:Ls Nd)(K:Nat->Vv)(k i:Nat)(hi:i<k)(j:Nat)(hj:j<4):(j8 s K k)[i*4+j]? =(sV (nd s i) (K i))[j]? :=by
 induction k with
 |zero=>omega
 |succ k ih=>
  rw[i4]
  by_cases e:i=k
  ·subst e
   rw[bu (by rw[m9];omega),m9]
   congr 1;omega
  ·rw[cm (by rw[m9];omega)]
   exact ih O
theorem ld(l:Ls Kd)(i:Nat)(hi:i<l.length)(j:Nat)(hj:j<3):(eR l)[i*3+j]? =(l.getD i j6).cells[j]? :=by
 induction l generalizing i with
 |nil=>simp at hi
 |cons a l ih=>
  have e:eR (a::l)=a.cells++eR l:=by unfold eR;simp
  rw[e]
  cases i with
  |zero=>rw[cm (by simp[Kd.cells];omega)];simp
  |succ i=>
   rw[bu (by simp[Kd.cells];omega)]
   have:(i+1)*3+j-a.cells.length=i*3+j:=by simp[Kd.cells];omega
   rw[this,ih i (by simp at hi;omega)]
   simp
structure Fl(s:Ls Nd)(w wr:M)(k:Nat)(vout:Vv):Prop where
 bel:H w.heap.size w wr
 own:∃K:Nat->Vv,wr.ownsRow w.heap.size 58 4 vout k (j8 s K k)/\∀i,i<k->wr.ownsRow w.heap.size 55 3 (K i) (nd s i).kids.length (eR (nd s i).kids)
theorem Fl.below{s:Ls Nd}{w wr w':M}{k:Nat}{vout:Vv}(h:Fl s w wr k vout)(hb:H wr.heap.size wr w'):Fl s w w' k vout where
 bel:=h.bel.trans (hb.mono h.bel.size)
 own:=by obtain⟨K,h1,h2⟩:=h.own;exact⟨K,bB h1 hb,fun i hi=>bB (h2 i hi) hb⟩
theorem z7{w:M}{b1 b2 s1 s2 n1 n2:Nat}{e1 e2:TypeId}{v1 v2:Vv}{x1 x2:Ls Vv}(h1:w.ownsRow b1 e1 s1 v1 n1 x1)(h2:w.ownsRow b2 e2 s2 v2 n2 x2)(hT:e2≠e1):v2.ownBlock=Z\/v2.ownBlock≠v1.ownBlock:=by
 rcases h2.2 with⟨q,_⟩|⟨g,cap,cur,q,_,hg,_⟩
 ·left;rw[q];rfl
 right;intro e;have:v1.ownBlock=U g:=by rw[<-e,q];rfl
 exact cJ hg h1 hT this
theorem Fl.put{s:Ls Nd}{w wr w':M}{k g cap:Nat}{vout vk:Vv}{o:Obj}{K:Nat->Vv}(hb0:H w.heap.size w wr)(q1:wr.ownsRow w.heap.size 58 4 vout k (j8 s K k))(q2:∀i,i<k->wr.ownsRow w.heap.size 55 3 (K i) (nd s i).kids.length (eR (nd s i).kids))(hk:wr.ownsRow w.heap.size 55 3 vk (nd s k).kids.length (eR (nd s k).kids))(h1:w'.ownsRow w.heap.size 58 4 (S (U (D g 0 Z)) (k+1) cap) (k+1) (j8 s K k++sV (nd s k) vk))(h2:(wr.alloc o).grownBy w' vout.ownBlock):Fl s w w' (k+1) (S (U (D g 0 Z)) (k+1) cap):=by
 have hb:H w.heap.size w (wr.alloc o):=hb0.alloc hb0.size o;refine⟨hb.grown h2 hb.size (fun j hj=>(q1.lt j hj).1),fun i=>if i=k then vk else K i,?_,fun i hi=>?_⟩
 ·rw[i4,aG X,uz (K':=K) (fun i hi=>G O)];exact h1
 show w'.ownsRow _ _ _ (if i=k then vk else K i) _ _;by_cases e:i=k
 ·subst e;rw[aG rfl];exact(hk.alloc o).kept h2 (z7 q1 hk Dc)
 rw[G e];exact((q2 i O).alloc o).kept h2 (z7 q1 (q2 i O) Dc)
theorem fL{w:M}{base:Nat}{e:TypeId}{size:Nat}{v:Vv}{n:Nat}{xs:Ls Vv}(h:w.ownsRow base e size v n xs):∃a cap,v=S a n cap/\(0<n->∃g,a=U (D g 0 Z)):=by
 rcases h.2 with⟨hv,hn⟩|⟨g,cap,cur,hv,_⟩
 ·subst hn;exact⟨Z,0,hv,fun h=>Ab h (oo _)⟩
 exact⟨_,cap,hv,fun _=>⟨g,X⟩⟩
theorem pj(g j:Nat):((D g 0 Z):Ad).add j=(D g j Z):=by unfold Addr.add;split<;>simp_all
theorem Fl.sch{s:Ls Nd}{w wr:M}{vout:Vv}(h:Fl s w wr s.length vout):∃a c,vout=S a s.length c/\ju wr a s:=by
 obtain⟨K,q1,q2⟩:=h.own;obtain⟨a,c,rfl,ha⟩:=fL q1;refine⟨a,c,X,fun i hi=>?_⟩;obtain⟨g,rfl⟩:=ha O;have cell:∀j,j<4->∀u,(sV (nd s i) (K i))[j]? =U u->wr.cell? (D g (i*4+j) Z)=U u:=fun j hj u hu=>by have:=q1.cells (g:=g) X (i*4+j) u (by rw[yH s K s.length i hi j hj];exact hu);rwa[pj]at this
 obtain⟨ka,kc,hK,hka⟩:=fL (q2 i hi);have hq:=q2 i hi;rw[hK]at hq cell;have hcap:(nd s i).kids.length<=kc/\kc<=maxLen:=by
  rcases hq.2 with⟨q,e⟩|⟨g',cap,cur,q,_,_,q3,q4,_⟩
  ·injection q with _ e1 e2;subst e2;rw[e];exact⟨Ln,Lz⟩
  injection q with _ _ e2;subst e2;exact⟨q3,q4⟩
 refine⟨g,0,ka,kc,X,⟨?_,?_,?_,?_⟩,hcap.1,hcap.2,fun j hj=>?_⟩
 ·simpa using cell 0 O _ X
 ·simpa using cell 1 O _ X
 ·simpa using cell 2 O _ X
 ·simpa using cell 3 O _ X
 obtain⟨g',rfl⟩:=hka O;have kcell:∀p,p<3->∀u,((nd s i).kids.getD j j6).cells[p]? =U u->wr.cell? (D g' (j*3+p) Z)=U u:=fun p hp u hu=>by have:=hq.cells (g:=g') X (j*3+p) u (by rw[ld _ j hj p hp];exact hu);rwa[pj]at this
 exact⟨g',0,X,by simpa using kcell 0 O _ X,by simpa using kcell 1 O _ X,by simpa using kcell 2 O _ X⟩
end Go.Proofs.YtkkicodfpekbgaaGreatDoor
namespace Go.Proofs.YtkkicodfpekbgaaGreatDoor
open Go.Proofs.Tryz
open Go.RowKit

end Go.Proofs.YtkkicodfpekbgaaGreatDoor
