/-
Reading a body by the document's Read: the contract that Look goes by.
-/
import Derived.Test.YtkkicodfpekbgaaGreatDoorJh1
open Go.Value renaming int->I,string->Y,slice->S
open Go.IntKind renaming i64->J
open Option renaming some->U,none->Z
open Go renaming World->M,Calls->Cs
open _root_ renaming ByteArray->Q,List->Ls
open Go.Addr renaming mk->D
set_option linter.unusedSimpArgs false
set_option linter.unusedVariables false
set_option maxRecDepth 100000
set_option maxHeartbeats 8000000
namespace Go.Proofs.YtkkicodfpekbgaaGreatDoor
open Go.Proofs.Tryz
open Go.RowKit
theorem qt(b:Q)(hb:b.size<=1048576):pR b:=by
 have key:∀(s:Ls Nd) (P:Prop),cd s->ie s->0<s.length->(∀(E:cw) v,E.s=s->E.d=b->gp E->eI E (42*b.size+41) 0=U v->((∃vs,v= .ok vs)↔P))->∀(wq:M) (g:Nat),ju wq (U (D g 0 Z)) s->Cs prog 39 #[S (U (D g 0 Z)) s.length s.length,I J 0,Y b] wq fun e w'=>xg P wq e w':=fun s P hr hok hl hiff wq g hsch=>by
  obtain⟨E,v,hs,hd,hE,hv,hne⟩:=AD s b hr hl;have hi:=hiff E v hs hd hE hv;subst hs hd;refine(tp E (U (D g 0 Z)) E.s.length (42*E.d.size+41) 0 wq ⟨hsch,hr,hok,hE.bg,hE.ok,hb⟩ hE.dv hl O v hv).mono ?_;rintro e w' ⟨hbl,h⟩;refine⟨hbl,?_⟩
  cases v with
  |error u=>
   obtain⟨c,p⟩:=u
   exact⟨_,_,c,h,fun q=>Ab q (hne c p X),fun q=>by obtain⟨vs,z⟩:=hi.2 q;cases z⟩
  |ok vs=>
   obtain⟨ta,tc,h,_⟩:=h
   exact⟨_,_,0,h,fun _=>hi.1 ⟨vs,X⟩,fun _=>rfl⟩
 refine⟨fun wq g hsch=>key lS _ nR.1 Fb Dc (fun E v hs hd hE hv=>?_) wq g hsch,fun wq g hsch=>key uS _ Du.1 Ho Dc (fun E v hs hd hE hv=>?_) wq g hsch⟩
 ·subst hd;exact Ed hs hE hv
 subst hd;exact EJ hs hE hv
end Go.Proofs.YtkkicodfpekbgaaGreatDoor
