/-
Several texts in one.
-/
import Derived.Test.YtkkicodfpekbgaaGreatDoorJf2
import Derived.Test.YtkkicodfpekbgaaGreatDoorJf5
open Go.Value renaming int->I,string->Y,slice->S,pointer->Po,bool->Bo,agg->Ag,tuple->Tu
open Go.IntKind renaming i64->J
open Go.Obj renaming cells->C
open Go.Ending renaming returned->Rt
open Option renaming some->U,none->Z
open Go renaming World->M,Calls->Cs,Addr->Ad
open Go.RowKit renaming Below->H,intOf->Io,Hid->Hi
open Go.World renaming cell?->Wc,frozen?->Wf
open Go.Act renaming put->Ap,eval->Ae
open _root_ renaming Option->Oo,List->Ls
open Go.Addr renaming mk->D
set_option linter.unusedSimpArgs false
set_option linter.unusedVariables false
set_option maxRecDepth 100000
set_option maxHeartbeats 8000000
namespace Go.Proofs.YtkkicodfpekbgaaGreatDoor
open Go.Proofs.Tryz
open Go.RowKit
theorem Br{E:cw}{rec:im}{tz:Nat}{dp:Int}{n:Nd}{j x:Nat}{acc:Ls Vl}{o:dM}(hj:j<n.kids.length)(e:de E rec tz dp (n.kids.drop j) x acc=U o)(hx:x<tz)(hh:(E.hd x tz).1≠0):o= .error ((E.hd x tz).1,(x:Int)):=by
 rw[iY hj]at e;unfold de at e;rw[aG ⟨hx,hh⟩]at e;exact(aK e).symm
theorem Di{E:cw}{rec:im}{tz:Nat}{dp:Int}{n:Nd}{j x:Nat}{acc:Ls Vl}{o:dM}(hj:j<n.kids.length)(e:de E rec tz dp (n.kids.drop j) x acc=U o)(hx:x<tz)(hh:(E.hd x tz).1=0)(hb:E.bg (kd n j).node.toNat (E.hd x tz).2.c (E.hd x tz).2.n=true):∃o',rec (kd n j).node.toNat x tz dp=U o'/\((∃u,o'= .error u/\o= .error u)\/∃vs z,o'= .ok (vs,z)/\((E.d.extract x z=(kd n j).dflt/\o= .error (9,(x:Int)))\/(E.d.extract x z≠(kd n j).dflt/\de E rec tz dp (n.kids.drop (j+1)) z (acc++vs)=U o))):=by
 rw[iY hj]at e;unfold de at e;rw[G (fun q=>q.2 hh),aG ⟨hx,hb⟩]at e;rcases bJ e with⟨u,h1,rfl⟩|⟨vs,z,h1,h2⟩
 ·exact⟨_,h1,.inl ⟨u,X,X⟩⟩
 refine⟨_,h1,.inr ⟨vs,z,X,?_⟩⟩;split at h2
 ·rename_i q;exact .inl ⟨q,(aK h2).symm⟩
 rename_i q;exact .inr ⟨q,h2⟩
theorem EA{E:cw}{rec:im}{tz:Nat}{dp:Int}{n:Nd}{j x:Nat}{acc:Ls Vl}{o:dM}(hj:j<n.kids.length)(e:de E rec tz dp (n.kids.drop j) x acc=U o)(hx:(x<tz/\(E.hd x tz).1=0/\E.bg (kd n j).node.toNat (E.hd x tz).2.c (E.hd x tz).2.n=false)\/¬x<tz):((kd n j).opt=true/\de E rec tz dp (n.kids.drop (j+1)) x (acc++[⟨15,bh,0,0⟩])=U o)\/((kd n j).opt=false/\(kd n j).dflt.size≠0/\de E rec tz dp (n.kids.drop (j+1)) x (acc++[E.dv (kd n j)])=U o)\/((kd n j).opt=false/\(kd n j).dflt.size=0/\((x<tz/\o= .error (4,(x:Int)))\/(¬x<tz/\o= .error (3,(x:Int))))):=by
 rw[iY hj]at e;unfold de at e;rw[G (by rintro⟨a,b⟩;rcases hx with q|q;exact b q.2.1;exact q a),G (by rintro⟨a,b⟩;rcases hx with q|q;(rw[q.2.2]at b;cases b);exact q a)]at e;split at e
 ·rename_i q;exact .inl ⟨q,e⟩
 rename_i q;have q':(kd n j).opt=false:=by simpa using q
 split at e
 ·rename_i q2;exact .inr (.inl ⟨q',q2,e⟩)
 rename_i q2;refine .inr (.inr ⟨q',Classical.not_not.1 q2,?_⟩);split at e
 ·rename_i q3;exact .inl ⟨q3,(aK e).symm⟩
 rename_i q3;exact .inr ⟨q3,(aK e).symm⟩
theorem Dh{E:cw}{rec:im}{tz:Nat}{dp:Int}{n:Nd}{j x:Nat}{acc:Ls Vl}{o:dM}(hj:¬j<n.kids.length)(e:de E rec tz dp (n.kids.drop j) x acc=U o):(x<tz/\o= .error (7,(x:Int)))\/(¬x<tz/\o= .ok (acc,x)):=by
 rw[gT O]at e;unfold de at e;split at e
 ·rename_i q;exact .inl ⟨q,(aK e).symm⟩
 rename_i q;exact .inr ⟨q,(aK e).symm⟩
def GM(n tz:Nat)(v:dM):dM:=
 match v with
 | .error e=> .error e
 | .ok (vs,_)=> .ok (⟨10,bh,0,n⟩::vs,tz)
def Fv(E:cw)(W:M)(R:Nat)(a:Oo Ad)(c f:Nat)(n:Nd)(x tz:Nat)(dp:Int)(o:dM)(tree:Ls Vl)(p:Int)(j x':Nat)(wq:M):Prop:=
 ∃acc:Ls Vl,de E (dJ E f) tz (dp+1) (n.kids.drop j) x' acc=U o/\dk W wq R a E.s.length c E.d (tree++⟨10,⟨#[]⟩,0,(n.kids.length:Int)⟩::acc) 0 p/\acc.length<=j+100*(x'-x)/\x<=x'/\x'<=tz
def DK(E:cw)(W:M)(R:Nat)(a:Oo Ad)(c:Nat)(o:dM)(wq:M):Prop:=
 ∃(e q:Int) (tree':Ls Vl),o= .error (e,q)/\dk W wq R a E.s.length c E.d tree' e q
theorem EB(E:cw)(W:M)(R:Nat)(a:Oo Ad)(c f:Nat)(hc:RC E W a)(hdv:j0 E)(hN:kv E W R a c f)(i:Nat)(hi:i<E.s.length)(ka:Oo Ad)(kc:Nat)(hka:be W ka (nd E.s i).kids)(hkc:(nd E.s i).kids.length<=kc)(x tz:Nat)(dp:Int)(o:dM)(tree:Ls Vl)(p:Int)(w:M)(hm:de E (dJ E f) tz (dp+1) (nd E.s i).kids x []=U o)(hxz:x<=tz)(hz:tz<=E.d.size)(hd1:1<=dp)(hd2:dp<=12)(hroom:du tree (f+1) x tz)(hI:dk W w R a E.s.length c E.d tree 0 p):Cs prog 145 #[Po (U (D R 0 Z)),Ag #[I J (nd E.s i).kind,I J (nd E.s i).tag,I J (nd E.s i).mode,S ka (nd E.s i).kids.length kc],I J x,I J tz,I J dp] w fun e w'=>e=Rt (Tu #[])/\fh E W R a c (GM (nd E.s i).kids.length tz o) tree p w w':=by
 have HE:Hi (ku o):=lV (jn f) _ _ _ hm;have HC:Hi (RC E W a):=hc;have HDV:Hi (j0 E):=hdv;have HN:Hi (kv E W R a c f):=hN;have HI:Hi (dk W w R a E.s.length c E.d tree 0 p):=hI;have hRl:R<w.heap.size:=aw hI.r0;have HRO:Hi (du tree (f+1) x tz):=hroom;have HKI:Hi (be W ka (nd E.s i).kids):=hka;have HM:Hi (de E (dJ E f) tz (dp+1) ((nd E.s i).kids.drop 0) x []=U o):=hm;have HKR:Hi (∀j,j<(nd E.s i).kids.length->∃t:Nat,(kd (nd E.s i) j).node=t/\t<E.s.length):=fun j hj=>by have:=hc.right.fine.within i hi _ (fU hj);exact⟨(kd (nd E.s i) j).node.toNat,O,O⟩
 have HIL:Hi (i<E.s.length):=hi;have hk8:=hc.right.fine.eight i hi;have hs40:=hc.right.fine.len;have hl0:tree.length<=1099511627776:=by unfold du at hroom;omega
 have HB0:Hi (∀A,H w.heap.size w (w.alloc A)):=fun A=>(aY w.heap.size w).alloc Ln A;clear hc hN hka hm hI hroom hi hdv;go_enter func145,ntmps145;go_wp2_with fail;refine(mo W _ R a E.s.length c E.d tree 0 p ⟨10,⟨#[]⟩,0,(nd E.s i).kids.length⟩ (HI.below (HB0 _)) hl0).mono ?_;rintro e w1 ⟨rfl,hI1,hf1⟩;have HI1:Hi (dk W w1 R a E.s.length c E.d (tree++[⟨10,⟨#[]⟩,0,((nd E.s i).kids.length:Int)⟩]) 0 p):=hI1;have HG1:Hi (w1.heap[w.heap.size]? =U (C #[I J (nd E.s i).kind,I J (nd E.s i).tag,I J (nd E.s i).mode,S ka (nd E.s i).kids.length kc] 58 (0,0))):=hf1 _ _ _ O Dc (aA w _);have HF1:Hi (Fr R w w1):=(Fr.of_below (HB0 _)).trans hf1;clear hI1 hf1;go_wp2;go_loopw [2,10] (fun va vk wq=>∃(j:Nat) (z:Int),va=I J z/\vk=I J j/\j<=(nd E.s i).kids.length/\Fr R w wq/\wq.heap[w.heap.size]? =U (C #[I J (nd E.s i).kind,I J (nd E.s i).tag,I J (nd E.s i).mode,S ka (nd E.s i).kids.length kc] 58 (0,0))/\((∃x':Nat,z=x'/\Fv E W R a c f (nd E.s i) x tz dp o tree p j x' wq)\/DK E W R a c o wq)) (fun _ vk _=>(nd E.s i).kids.length-(Io vk).toNat);case atStart=>exact⟨0,x,X,X,Lz,HF1,HG1,.inl ⟨x,X,[],HM,HI1,Sq,Ln,hxz⟩⟩
 obtain⟨j,z,rfl,rfl,hj,hfr,hbox,hcase⟩:=hrel;have HFR:Hi (Fr R w wr):=hfr;have HBX:Hi (wr.heap[w.heap.size]? =U (C #[I J (nd E.s i).kind,I J (nd E.s i).tag,I J (nd E.s i).mode,S ka (nd E.s i).kids.length kc] 58 (0,0))):=hbox;have n3:wr.cell? (D w.heap.size 3 Z)=U (S ka (nd E.s i).kids.length kc):=cell_of_row hbox X;clear hfr hbox;rcases hcase with hrun|hstop
 ·obtain⟨x',rfl,acc,hmm,hIr,hacc,hx1,hx2⟩:=hrun;have HMM:Hi (de E (dJ E f) tz (dp+1) ((nd E.s i).kids.drop j) x' acc=U o):=hmm;have HIR:Hi (dk W wr R a E.s.length c E.d (tree++⟨10,⟨#[]⟩,0,((nd E.s i).kids.length:Int)⟩::acc) 0 p):=hIr;have r3:=hIr.r3;have hRr:R<wr.heap.size:=aw r3;have hwr:w.heap.size<wr.heap.size:=aw n3;clear hmm hIr;by_cases hlt:j<(nd E.s i).kids.length
  ·have hlt':(j:Int)<(nd E.s i).kids.length:=O;obtain⟨kb,ko,rfl,kcl⟩:=HKI j hlt;obtain⟨t,ht,htl⟩:=HKR j hlt;obtain⟨k1,k2,k3⟩:=kcl.below HIR.bel;have htn:(kd (nd E.s i) j).node.toNat=t:=O;have HT:Hi ((kd (nd E.s i) j).node.toNat=t):=htn;(have k1':wr.cell? (D kb (ko+j*3) Z)=U (I J t):=by rw[<-ht];exact k1);obtain⟨yo,hyo⟩:∃b,(kd (nd E.s i) j).opt=b:=Ey;obtain⟨yd,hyd⟩:∃b,(kd (nd E.s i) j).dflt=b:=Ey;have HYO:Hi ((kd (nd E.s i) j).opt=yo):=hyo;have HYD:Hi ((kd (nd E.s i) j).dflt=yd):=hyd;(have k2':wr.cell? (D kb (ko+j*3+1) Z)=U (Bo yo):=by rw[<-hyo];exact k2);(have k3':wr.cell? (D kb (ko+j*3+2) Z)=U (Y yd):=by rw[<-hyd];exact k3);have HIA:Hi (∀A,dk W (wr.alloc A) R a E.s.length c E.d (tree++⟨10,⟨#[]⟩,0,((nd E.s i).kids.length:Int)⟩::acc) 0 p):=fun A=>HIR.below Be;have HFA:Hi (∀A,Fr R w (wr.alloc A)):=fun A=>HFR.below Be;have HGA:Hi (∀A,(wr.alloc A).heap[w.heap.size]? =U (C #[I J (nd E.s i).kind,I J (nd E.s i).tag,I J (nd E.s i).mode,S (U (D kb ko Z)) (nd E.s i).kids.length kc] 58 (0,0))):=fun A=>ax HBX Be;clear k1 k2 k3 kcl ht htn hyo hyd;have HGK:Hi ((wr.alloc (C #[I J t,Bo yo,Y yd] 55)).heap[wr.heap.size]? =U (C #[I J t,Bo yo,Y yd] 55 (0,0))):=aA wr _;obtain⟨ag,hG⟩:∃ag,hd (E.d.extract x' tz)=ag:=Ey;obtain⟨ge,gc,gb,gn,gs,gl⟩:=ag;have HHD:Hi (E.hd x' tz=(ge,⟨gc,gb,gn,gs,gl⟩)):=hG;(have HRH:Hi (∀wq,dk W wq R a E.s.length c E.d (tree++⟨10,⟨#[]⟩,0,((nd E.s i).kids.length:Int)⟩::acc) 0 p->Cs prog 101 #[Po (U (D R 0 Z)),I J x',I J tz] wq fun e w'=>e=Rt (Ag #[I J gc,Bo gb,I J gn,I J gs,I J gl])/\dk W w' R a E.s.length c E.d (tree++⟨10,⟨#[]⟩,0,((nd E.s i).kids.length:Int)⟩::acc) ge (if ge=0 then p else x')/\Fr R wq w'):=fun wq q=>by have:=jG W wq R a E.s.length c E.d (tree++⟨10,⟨#[]⟩,0,((nd E.s i).kids.length:Int)⟩::acc) p x' tz q hx2 hz (by have:=HC.out.size;omega);rw[hG]at this;exact this);have HBG:Hi (∀(wq:M) (hq:H W.heap.size W wq) (y:b7 wq),Cs prog 100 #[S a E.s.length c,I J t,I J gc,I J gn] y.v fun e w''=>e=Rt (Bo (E.bg t gc gn))/\∃y:b7 wq,w''=y.v):=fun wq hq y=>b7.callsR (HC.bg t htl gc gn) (mY E.s a c t gc gn y.v (HC.sch.below (hq.trans (y.h.mono hq.size))) (gD HC.right.2.2.1) (fu HC.right.2.2.1) htl hs40);clear hG;go_upto_if 45 with fail;clear k1' k2' k3' n3 r3;go_cut [12] (fun th wx=>∃b:Bool,th=Bo b/\dk W wx R a E.s.length c E.d (tree++⟨10,⟨#[]⟩,0,((nd E.s i).kids.length:Int)⟩::acc) 0 p/\Fr R w wx/\wx.heap[w.heap.size]? =U (C #[I J (nd E.s i).kind,I J (nd E.s i).tag,I J (nd E.s i).mode,S (U (D kb ko Z)) (nd E.s i).kids.length kc] 58 (0,0))/\wx.heap[wr.heap.size]? =U (C #[I J t,Bo yo,Y yd] 55 (0,0))/\((x'<tz/\ge=0/\b=E.bg t gc gn)\/(¬x'<tz/\b=false)))
   case first=>
    by_cases hxt:x'<tz
    ·have hxt':(x':Int)<tz:=O;go_wp2_with fail;refine(HRH _ (HIA _)).mono ?_;rintro e w2 ⟨rfl,hI2,hf2⟩;have HF2:Hi (Fr R w w2):=(HFA _).trans hf2;have HG2:Hi (w2.heap[w.heap.size]? =U (C #[I J (nd E.s i).kind,I J (nd E.s i).tag,I J (nd E.s i).mode,S (U (D kb ko Z)) (nd E.s i).kids.length kc] 58 (0,0))):=hf2 _ _ _ O Dc (HGA _);have HK2:Hi (w2.heap[wr.heap.size]? =U (C #[I J t,Bo yo,Y yd] 55 (0,0))):=hf2 _ _ _ O Dc HGK;have hsz2:wr.heap.size<w2.heap.size:=bm HK2;have hR2:R<w2.heap.size:=aw hI2.r0;by_cases hge:ge=0
     ·rw[aG hge]at hI2;(have hge':(ge !=0)=false:=by simp[hge]);have HGE:Hi (ge=0):=hge;have HI2:Hi (dk W w2 R a E.s.length c E.d (tree++⟨10,⟨#[]⟩,0,((nd E.s i).kids.length:Int)⟩::acc) ge p):=hI2;have s3:=hI2.r3;have s0:=hI2.r0;clear hI2 hf2 hge;have HB2:Hi (H W.heap.size W (w2.alloc (C #[I J gc,Bo gb,I J gn,I J gs,I J gl] 179))):=HI2.bel.alloc HI2.bel.size _;have X0:∀y:b7 (w2.alloc (C #[I J gc,Bo gb,I J gn,I J gs,I J gl] 179)),y.v.cell? (D R 0 Z)=U (S a E.s.length c):=fun y=>y.old s0;have X1:∀y:b7 (w2.alloc (C #[I J gc,Bo gb,I J gn,I J gs,I J gl] 179)),y.v.cell? (D wr.heap.size 0 Z)=U (I J t):=fun y=>y.old (cell_of_row HK2 X);have X2:∀y:b7 (w2.alloc (C #[I J gc,Bo gb,I J gn,I J gs,I J gl] 179)),y.v.cell? (D w2.heap.size 0 Z)=U (I J gc):=fun y=>y.new X;have X3:∀y:b7 (w2.alloc (C #[I J gc,Bo gb,I J gn,I J gs,I J gl] 179)),y.v.cell? (D w2.heap.size 2 Z)=U (I J gn):=fun y=>y.new X;go_wp2_with fail;(have ne:=eX;refine bP Kr Kr ?_;(repeat(first|go_big_quiet_skip|(go_big_quiet_want;go_big_quiet_op;first|go_big_quiet_on|(apply Exists.intro;refine⟨fun x=>?_,?_⟩;(·(exact HBG _ HB2 x));go_big_quiet_on))));refine dW ?_);intro w5 hb5;have hb6:H w2.heap.size w2 w5:=aT hb5;(have HI5:Hi (dk W w5 R a E.s.length c E.d (tree++⟨10,⟨#[]⟩,0,((nd E.s i).kids.length:Int)⟩::acc) 0 p):=by have:=HI2.below hb6;rw[HGE.out]at this;exact this);have HF5:Hi (Fr R w w5):=HF2.below hb6;have HG5:Hi (w5.heap[w.heap.size]? =U (C #[I J (nd E.s i).kind,I J (nd E.s i).tag,I J (nd E.s i).mode,S (U (D kb ko Z)) (nd E.s i).kids.length kc] 58 (0,0))):=ax HG2 hb6;have HK5:Hi (w5.heap[wr.heap.size]? =U (C #[I J t,Bo yo,Y yd] 55 (0,0))):=ax HK2 hb6;clear X0 X1 X2 X3 hb5 hb6 s0 s3;go_wp2_with fail;go_meet;exact⟨_,X,HI5,HF5,HG5,HK5,.inl ⟨hxt,HGE,X⟩⟩
     rw[G hge]at hI2;(have hge':(ge !=0)=true:=by simp[hge]);have HGE:Hi (ge≠0):=hge;have HI2:Hi (dk W w2 R a E.s.length c E.d (tree++⟨10,⟨#[]⟩,0,((nd E.s i).kids.length:Int)⟩::acc) ge x'):=hI2;have HIA2:Hi (∀A,dk W (w2.alloc A) R a E.s.length c E.d (tree++⟨10,⟨#[]⟩,0,((nd E.s i).kids.length:Int)⟩::acc) ge x'/\Fr R w (w2.alloc A)):=fun A=>⟨hI2.below Be,HF2.below Be⟩;have s3:=hI2.r3;(have HOE:Hi (o= .error (ge,(x':Int))):=by have:=Br hlt HMM hxt (by rw[HHD.out];exact hge);rw[HHD.out]at this;exact this);clear hI2 hf2 hge;go_wp2;refine aS (C8 X _ _ _) X ?_;refine⟨X,_,_,_,(HIA2 _).1,?_,(HIA2 _).2⟩;rw[HOE.out];exact⟨X,X,HGE⟩
    have hxt':(tz:Int)<=x':=O;go_wp2_with fail;go_meet;exact⟨false,X,HIA _,HFA _,HGA _,HGK,.inr ⟨hxt,X⟩⟩
   case rest=>
    obtain⟨bb,rfl,hIc,hfc,hGc,hKc,hbb⟩:=hcut;have HIC:Hi (dk W wc R a E.s.length c E.d (tree++⟨10,⟨#[]⟩,0,((nd E.s i).kids.length:Int)⟩::acc) 0 p):=hIc;have HFC:Hi (Fr R w wc):=hfc;have HGC:Hi (wc.heap[w.heap.size]? =U (C #[I J (nd E.s i).kind,I J (nd E.s i).tag,I J (nd E.s i).mode,S (U (D kb ko Z)) (nd E.s i).kids.length kc] 58 (0,0))):=hGc;have HKC:Hi (wc.heap[wr.heap.size]? =U (C #[I J t,Bo yo,Y yd] 55 (0,0))):=hKc;have hKl:wr.heap.size<wc.heap.size:=bm hKc;have c0:wc.cell? (D wr.heap.size 0 Z)=U (I J t):=cell_of_row hKc X;have c1:wc.cell? (D wr.heap.size 1 Z)=U (Bo yo):=cell_of_row hKc X;have c2:wc.cell? (D wr.heap.size 2 Z)=U (Y yd):=cell_of_row hKc X;clear hIc hfc hGc hKc HIA HFA HGA HGK HRH HBG;(have HRO2:Hi (du (tree++⟨10,⟨#[]⟩,0,((nd E.s i).kids.length:Int)⟩::acc) f x' tz):=by show du _ _ _ _;have:=HRO.out;unfold du at this ⊢;simp only[aQ,aU];omega);(have hl2:(tree++⟨10,⟨#[]⟩,0,((nd E.s i).kids.length:Int)⟩::acc).length<=1099511627776:=by have:=HRO2.out;unfold du at this;omega);cases bb
    ·have hno:=EA hlt HMM (by
      rw[HT,HHD.out];rcases hbb with⟨q1,q2,q3⟩|⟨q1,_⟩
      ·exact .inl ⟨q1,q2,q3.symm⟩
      exact .inr q1)
     rw[HYO,HYD.out]at hno;clear hbb;rcases hno with⟨rfl,hnx⟩|⟨rfl,hyd,hnx⟩|⟨rfl,hyd,hnx⟩
     ·have HNX:Hi (de E (dJ E f) tz (dp+1) ((nd E.s i).kids.drop (j+1)) x' (acc++[⟨15,bh,0,0⟩])=U o):=hnx;clear hnx;go_wp2_with fail;refine(mo W _ R a E.s.length c E.d _ 0 p ⟨15,⟨#[]⟩,0,0⟩ HIC hl2).mono ?_;rintro e w6 ⟨rfl,hI6,hf6⟩;have HI6:Hi (dk W w6 R a E.s.length c E.d ((tree++⟨10,⟨#[]⟩,0,((nd E.s i).kids.length:Int)⟩::acc)++[⟨15,⟨#[]⟩,0,0⟩]) 0 p):=hI6;have HF6:Hi (Fr R w w6):=HFC.trans hf6;have HG6:Hi (w6.heap[w.heap.size]? =U (C #[I J (nd E.s i).kind,I J (nd E.s i).tag,I J (nd E.s i).mode,S (U (D kb ko Z)) (nd E.s i).kids.length kc] 58 (0,0))):=hf6 _ _ _ O Dc HGC;clear hI6 hf6 c0 c1 c2;go_wp2;go_roundw;case rel=>exact⟨j+1,x',X,Gn,O,HF6.out,HG6.out,.inl ⟨x',X,acc++[⟨15,bh,0,0⟩],HNX.out,by have:=HI6.out;simpa using this,by simp only[aQ,aU,bD];omega,hx1,hx2⟩⟩
      case measure=>exact Ms
     ·have hde:yd.toList.isEmpty=false:=dR O;obtain⟨u,hel,hdv,hk1,hk9⟩:=HDV i HIL _ (fU hlt) (by rw[HYD.out];exact hyd);rw[HT,HYD.out]at hel;rw[HT.out]at hdv hk1 hk9;rw[hdv]at hnx;have HNX:Hi (de E (dJ E f) tz (dp+1) ((nd E.s i).kids.drop (j+1)) x' (acc++[⟨(nd E.s t).kind,u,0,0⟩])=U o):=hnx;(have hyds:yd.size<=140737488355328:=by have:=HC.sok i HIL _ (fU hlt);rw[HYD.out]at this;omega)
      have HRD:Hi (∀wq,H W.heap.size W wq->Cs prog 39 #[S a E.s.length c,I J t,Y yd] wq fun e w'=>∃gv cv,e=Rt (Tu #[S (U (D gv 0 Z)) 1 cv,I J 0,I J 0])/\H wq.heap.size wq w'/\w'.ownsRow wq.heap.size 60 4 (S (U (D gv 0 Z)) 1 cv) 1 (bG [⟨(nd E.s t).kind,u,0,0⟩])):=fun wq hq=>
       (mq E.s a c t yd wq (HC.sch.below hq) htl hk1 hk9 (fun _=>by have:=(HC.right.2.2.1 t htl).1;unfold iN at this;omega) hyds).mono fun e w' hr=>by
         obtain⟨v,p0,c0,rfl,hb,⟨rfl,rfl,u',hu',ho'⟩|⟨_,_,hno⟩⟩:=hr
         ·rw[kG hu' hel]at ho'
          obtain⟨gv,cv,rfl⟩:∃g cap,v=S (U (D g 0 Z)) 1 cap:=by obtain⟨g,cap,q⟩:=ho'.form Dc;exact⟨g,cap,q.1⟩
          exact⟨gv,cv,X,hb,ho'⟩
         ·exact Ab hel (hno u)
      have RUN:Hi (∀args w,(callFunc 39 args).run prog w= .ok (.enter 39 args) w):=fun args w=>eY func39 Kr Rf args w;have s0:=HIC.out.r0;clear hnx hel hdv hk1 hk9 hyd hyds;go_upto_region 20 with fail;go_cut [15,16,17] (fun l q1 q2 wx=>∃gv cv,l=S (U (D gv 0 Z)) 1 cv/\H wc.heap.size wc wx/\wx.ownsRow wc.heap.size 60 4 (S (U (D gv 0 Z)) 1 cv) 1 (bG [⟨(nd E.s t).kind,u,0,0⟩])/\q1=I J 0/\q2=I J 0);case first=>go_region_law (refine wN X 39 _ _ X #[S a E.s.length c,I J t,Y yd] (by simp[Ae,Ap]) _ (RUN _ _) (HRD _ (HIC.bel.trans ((Go.below_drewN By 1).mono HIC.bel.size))) ?_;rintro e w5 ⟨gv,cv,rfl,hb5,ho5⟩;refine⟨_,X,?_⟩);all_goals have hb6:H wc.heap.size wc w5:=(Go.below_drewN (aY wc.heap.size wc) 1).trans hb5;have HFN:Hi (H wc.heap.size wc w5/\w5.ownsRow wc.heap.size 60 4 (S (U (D gv 0 Z)) 1 cv) 1 (bG [⟨(nd E.s t).kind,u,0,0⟩])):=⟨hb6,ho5⟩;clear hb5 hb6 ho5;go_simp;go_wp2_with fail;go_meet;exact⟨gv,cv,X,HFN.1,HFN.2,X,X⟩
      case rest=>
       obtain⟨gv,cv,rfl,hbx,hox,rfl,rfl⟩:=hcut;obtain⟨TL,hTL⟩:∃TL:Ls Vl,(tree++⟨10,⟨#[]⟩,0,((nd E.s i).kids.length:Int)⟩::acc)=TL:=Ey;have HTL:Hi ((tree++⟨10,⟨#[]⟩,0,((nd E.s i).kids.length:Int)⟩::acc)=TL):=hTL;(have hl3:TL.length<=1099511627776:=by rw[<-hTL];exact hl2);(have HIX:Hi (dk W wc R a E.s.length c E.d TL 0 p):=by show dk W wc R a E.s.length c E.d TL 0 p;rw[<-hTL];exact HIC.below hbx);have HFX:Hi (Fr R w wc):=HFC.below hbx;have HGX:Hi (wc.heap[w.heap.size]? =U (C #[I J (nd E.s i).kind,I J (nd E.s i).tag,I J (nd E.s i).mode,S (U (D kb ko Z)) (nd E.s i).kids.length kc] 58 (0,0))):=ax HGC hbx;have HOX:Hi (∃B,R<B/\wc.ownsRow B 60 4 (S (U (D gv 0 Z)) 1 cv) 1 (bG [⟨(nd E.s t).kind,u,0,0⟩])):=⟨_,aw HIC.r0,hox⟩;clear hbx hox c0 c1 c2 s0 HRD RUN hTL hl2;go_wp2;go_loopw [18] (fun vi wq=>(vi=I J 0/\wq=wc)\/(vi=I J 1/\dk W wq R a E.s.length c E.d (TL++[⟨(nd E.s t).kind,u,0,0⟩]) 0 p/\Fr R w wq/\wq.heap[w.heap.size]? =U (C #[I J (nd E.s i).kind,I J (nd E.s i).tag,I J (nd E.s i).mode,S (U (D kb ko Z)) (nd E.s i).kids.length kc] 58 (0,0)))) (fun vi _=>1-(Io vi).toNat);case atStart=>exact .inl ⟨X,X⟩
       rcases hrel with⟨rfl,rfl⟩|⟨rfl,hI6,hF6,hG6⟩
       ·obtain⟨i0,hi0,hz0,hz1,hz2⟩:=dD jl;obtain⟨B,hRB,hox⟩:=HOX.out;obtain⟨hb,hlo,vt,hr,ho⟩:=HIX.out;have HB:Hi (H W.heap.size W wr):=hb;have HO:Hi (wr.ownsRow W.heap.size 60 4 vt TL.length (bG TL)):=ho;have HR:Hi (wr.heap[R]? =U (eh a E.s.length c E.d vt 0 p)):=hr;unfold eh at hr;(have y2:wr.cell? (D R 2 Z)=U vt:=by simp[Wc,hr]);(have f2:wr.frozen? (D R 2 Z)=false:=by simp[Wf,hr]);have hRl2:R<wr.heap.size:=aw y2;have hgl:gv<wr.heap.size:=(hox.lt gv X).2;have z0:wr.cell? (D gv 0 Z)=U (I J (nd E.s t).kind):=hox.cellAt 0 Dc;have z1:wr.cell? (D gv 1 Z)=U (Y u):=hox.cellAt 1 Dc;have z2:wr.cell? (D gv 2 Z)=U (I J 0):=hox.cellAt 2 Dc;have z3:wr.cell? (D gv 3 Z)=U (I J 0):=hox.cellAt 3 Dc;(have hsz:W.heap.size<=wr.heap.size+1:=by have:=hb.size;omega);clear hb ho hr hox
        have HAP:Hi (∀g cap w3,w3.ownsRow W.heap.size 60 4 (S (U (D g 0 Z)) (TL.length+1) cap) (TL.length+1) (bG TL++[I J (nd E.s t).kind,Y u,I J 0,I J 0])->(wr.drew.alloc (C #[I J (nd E.s t).kind,Y u,I J 0,I J 0] 60)).grownBy w3 vt.ownBlock->
         w3.cell? ⟨R,2,Z⟩=U vt/\w3.frozen? ⟨R,2,Z⟩=false/\dk W (w3.setCell ⟨R,2,Z⟩ (S (U ⟨g,0,Z⟩) (TL.length+1) cap)) R a E.s.length c E.d (TL++[⟨(nd E.s t).kind,u,0,0⟩]) 0 p/\Fr R wr (w3.setCell ⟨R,2,Z⟩ (S (U ⟨g,0,Z⟩) (TL.length+1) cap))):=fun g cap w3 h1 h2=>by
         have hR3:w3.heap[R]? =U (eh a E.s.length c E.d vt 0 p):=by
          rw[h2.block R So (fun q=>cA HR HO Dc q.symm),bM wr.drew _ _ hRl2];exact HR
         have hb3:H W.heap.size W w3:=by
          have hb0:H W.heap.size W (wr.drew.alloc (C #[I J (nd E.s t).kind,Y u,I J 0,I J 0] 60)):=HB.drew.alloc HB.size _
          exact hb0.grown h2 hb0.size (fun k hk=>(HO.lt k hk).1)
         have ho3:w3.ownsRow W.heap.size 60 4 (S (U (D g 0 Z)) (TL.length+1) cap) (TL++[(⟨(nd E.s t).kind,u,0,0⟩:Vl)]).length (bG (TL++[(⟨(nd E.s t).kind,u,0,0⟩:Vl)])):=by rw[kg,aQ];exact h1
         obtain⟨b1,r1,o1⟩:=uI 2 (S (U (D g 0 Z)) (TL.length+1) cap) hb3 HIX.lo hR3 ho3
         refine⟨by unfold eh at hR3;simp[Wc,hR3],by unfold eh at hR3;simp[Wf,hR3],⟨b1,HIX.lo,_,r1,o1⟩,fun k A T hk hT hg=>?_⟩
         have hlt:k<wr.heap.size:=bm hg
         rw[aP _ _ _ _ hk,h2.block k So (fun q=>cA hg HO hT q.symm),bM wr.drew _ _ hlt]
         exact hg
        go_wp2_with fail;go_region_law (refine step_append_lies _ X (.tmp 132) (.tmp 137) 39 X W.heap.size 60 i0 fA 4 40 underlying39 hi0 hz0 hz1 hz2 X Dc vt TL.length (bG TL) (by simp[Ae,Ap]) (HO.drew.alloc _) (D wr.heap.size 0 Z) 1 1 [I J (nd E.s t).kind,Y u,I J 0,I J 0] (by simp[Ae,Ap]) X (World.news_of_block (aA wr.drew _)) (by intro u hu;simp at hu;rcases hu with rfl|rfl|rfl|rfl<;>rfl) Dc (by unfold maxLen;omega) O (by simpa using hsz) (wr.heap.size+1) Sq ?_;intro g6 cap6 w6 h61 h62 h63 h64;obtain⟨e2,q2,hI6,hF6⟩:=HAP g6 cap6 w6 h61 (by exact h62);have HI6:=aN hI6;have HF6:=aN hF6;clear h61 h62 h63 h64 hI6 hF6);all_goals
         go_simp;go_wp2;go_roundw;case rel=>exact .inr ⟨Gn,HI6,HFX.trans HF6,HF6 _ _ _ O Dc HGX⟩
         case measure=>simp[Io]
       have HI6:Hi (dk W wr R a E.s.length c E.d (TL++[⟨(nd E.s t).kind,u,0,0⟩]) 0 p):=hI6;have HF6:Hi (Fr R w wr):=hF6;have HG6:Hi (wr.heap[w.heap.size]? =U (C #[I J (nd E.s i).kind,I J (nd E.s i).tag,I J (nd E.s i).mode,S (U (D kb ko Z)) (nd E.s i).kids.length kc] 58 (0,0))):=hG6;clear hI6 hF6 hG6;go_wp2;go_roundw;case rel=>exact⟨j+1,x',X,Gn,O,HF6.out,HG6.out,.inl ⟨x',X,acc++[⟨(nd E.s t).kind,u,0,0⟩],HNX.out,by have:=HI6.out;rw[<-HTL.out]at this;simpa using this,by simp only[aQ,aU,bD];omega,hx1,hx2⟩⟩
       case measure=>exact Ms
     have hde:yd.toList.isEmpty=true:=gJ hyd;clear hyd;rcases hnx with⟨hxt,ho⟩|⟨hxt,ho⟩
     ·have HOE:Hi (o= .error (4,(x':Int))):=ho;have hxt':(x':Int)<tz:=O;clear ho;go_wp2_with fail;refine(bO W _ R a E.s.length c E.d _ p 4 x' HIC).mono ?_;rintro e w6 ⟨rfl,hI6,hoth⟩;have HI6:Hi (dk W w6 R a E.s.length c E.d (tree++⟨10,⟨#[]⟩,0,((nd E.s i).kids.length:Int)⟩::acc) 4 x'):=hI6;have HF6:Hi (Fr R w w6):=HFC.trans (Fr.of_same hoth);have HG6:Hi (w6.heap[w.heap.size]? =U (C #[I J (nd E.s i).kind,I J (nd E.s i).tag,I J (nd E.s i).mode,S (U (D kb ko Z)) (nd E.s i).kids.length kc] 58 (0,0))):=(hoth _ O).trans HGC;clear hI6 hoth c0 c1 c2;go_wp2;go_roundw;case rel=>exact⟨j+1,x',X,Gn,O,HF6,HG6,.inr ⟨4,x',_,HOE,HI6⟩⟩
      case measure=>exact Ms
     have HOE:Hi (o= .error (3,(x':Int))):=ho;have hxt':(tz:Int)<=x':=O;clear ho;go_wp2_with fail;refine(bO W _ R a E.s.length c E.d _ p 3 x' HIC).mono ?_;rintro e w6 ⟨rfl,hI6,hoth⟩;have HI6:Hi (dk W w6 R a E.s.length c E.d (tree++⟨10,⟨#[]⟩,0,((nd E.s i).kids.length:Int)⟩::acc) 3 x'):=hI6;have HF6:Hi (Fr R w w6):=HFC.trans (Fr.of_same hoth);have HG6:Hi (w6.heap[w.heap.size]? =U (C #[I J (nd E.s i).kind,I J (nd E.s i).tag,I J (nd E.s i).mode,S (U (D kb ko Z)) (nd E.s i).kids.length kc] 58 (0,0))):=(hoth _ O).trans HGC;clear hI6 hoth c0 c1 c2;go_wp2;go_roundw;case rel=>exact⟨j+1,x',X,Gn,O,HF6,HG6,.inr ⟨3,x',_,HOE,HI6⟩⟩
     case measure=>exact Ms
    obtain⟨hxt,rfl,hbg⟩:x'<tz/\ge=0/\E.bg t gc gn=true:=by
     rcases hbb with⟨q1,q2,q3⟩|⟨_,q⟩
     ·exact⟨q1,q2,q3.symm⟩
     cases q
    obtain⟨o',hrec,ho⟩:=Di hlt HMM hxt (by rw[HHD.out]) (by rw[HT,HHD.out];exact hbg);rw[HT.out]at hrec;rw[HYD.out]at ho;have HREC:Hi (dJ E f t x' tz (dp+1)=U o'):=hrec;have HO:Hi ((∃u,o'= .error u/\o= .error u)\/∃vs z,o'= .ok (vs,z)/\((E.d.extract x' z=yd/\o= .error (9,(x':Int)))\/(E.d.extract x' z≠yd/\de E (dJ E f) tz (dp+1) ((nd E.s i).kids.drop (j+1)) z (acc++vs)=U o))):=ho;clear hrec ho hbg hbb;go_wp2_with fail;refine(HN t x' tz (dp+1) o' _ p _ HREC htl hx2 hz O O HRO2 HIC).mono ?_;rintro e w7 ⟨v,rfl,ha7,hv7⟩;obtain⟨t7,e7,p7,hI7,hO7,hF7⟩:=ha7;have HI7:Hi (dk W w7 R a E.s.length c E.d t7 e7 p7):=hI7;have HF7:Hi (Fr R w w7):=HFC.trans hF7;have HG7:Hi (w7.heap[w.heap.size]? =U (C #[I J (nd E.s i).kind,I J (nd E.s i).tag,I J (nd E.s i).mode,S (U (D kb ko Z)) (nd E.s i).kids.length kc] 58 (0,0))):=hF7 _ _ _ O Dc HGC;have d2:w7.cell? (D wr.heap.size 2 Z)=U (Y yd):=cell_of_row (hF7 _ _ _ O Dc HKC) X;have s3:=hI7.r3;have s1:=hI7.r1;clear hI7 hF7 c0 c1 c2;rcases HO with⟨u,rfl,ho⟩|⟨vs,z,rfl,ho⟩
    ·obtain⟨u1,u2⟩:=u;obtain⟨r1,r2,r3⟩:=hO7;subst r1 r2;(have hne:(e7==0)=false:=by rw[aD];exact r3);have HOE:Hi (o= .error (e7,p7)):=ho;clear r3 ho hv7;go_wp2_with fail;go_quiet (fail);go_wp2;go_roundw;case rel=>exact⟨j+1,v,X,Gn,O,HF7,HG7,.inr ⟨_,_,_,HOE,HI7.below (Go.below_drewN By _)⟩⟩
     case measure=>exact Ms
    obtain⟨r1,r2,r3⟩:=hO7;subst r1 r2 r3;obtain rfl:v=(z:Int):=hv7 vs z X;have hlen:=iC HC.right.fine htl HREC;have hq1:(x':Int)<=z:=O;have hq2:(z:Int)<=E.d.size:=O;rcases ho with⟨heq,ho⟩|⟨hneq,ho⟩
    ·have HOE:Hi (o= .error (9,(x':Int))):=ho;(have hbe:((E.d.extract x' z).toList==yd.toList)=true:=by rw[heq];simp);clear heq ho hv7;go_wp2_with fail;go_quiet (fail);go_wp2_with fail;refine(bO W _ R a E.s.length c E.d _ p7 9 x' (HI7.below (Go.below_drewN By _))).mono ?_;rintro e w8 ⟨rfl,hI8,hoth⟩;have HI8:Hi (∃t8,dk W w8 R a E.s.length c E.d t8 9 x'):=⟨_,hI8⟩;have HF8:Hi (Fr R w w8):=(HF7.below (Go.below_drewN By _)).trans (Fr.of_same hoth);have HG8:Hi (w8.heap[w.heap.size]? =U (C #[I J (nd E.s i).kind,I J (nd E.s i).tag,I J (nd E.s i).mode,S (U (D kb ko Z)) (nd E.s i).kids.length kc] 58 (0,0))):=(hoth _ O).trans HG7;clear hI8 hoth;go_wp2;go_roundw;case rel=>obtain⟨t8,h8⟩:=HI8.out;exact⟨j+1,z,X,Gn,O,HF8.out,HG8.out,.inr ⟨9,x',t8,HOE.out,h8⟩⟩
     case measure=>exact Ms
    have HNX:Hi (de E (dJ E f) tz (dp+1) ((nd E.s i).kids.drop (j+1)) z (acc++vs)=U o):=ho;(have hbe:((E.d.extract x' z).toList==yd.toList)=false:=by rw[aD,Lib.toList_data,Lib.toList_data];intro q;exact hneq (bC (Array.ext' q)));clear hneq ho hv7;go_wp2_with fail;go_quiet (fail);go_wp2;go_roundw;case rel=>exact⟨j+1,z,X,Gn,O,HF7,HG7,.inl ⟨z,X,acc++vs,HNX,by have:=HI7.below (Go.below_drewN By nq);simpa using this,by simp only[aQ];omega,O,O⟩⟩
    case measure=>exact Ms
  have hlt':((nd E.s i).kids.length:Int)<=j:=O;rcases Dh hlt HMM with⟨hxt,ho⟩|⟨hxt,ho⟩
  ·have HOE:Hi (o= .error (7,(x':Int))):=ho;have hxt':(x':Int)<tz:=O;clear ho;go_wp2_with fail;refine(bO W _ R a E.s.length c E.d _ p 7 x' HIR).mono ?_;rintro e w6 ⟨rfl,hI6,hoth⟩;have HI6:Hi (dk W w6 R a E.s.length c E.d (tree++⟨10,⟨#[]⟩,0,((nd E.s i).kids.length:Int)⟩::acc) 7 x'):=hI6;have HF6:Hi (Fr R w w6):=HFR.trans (Fr.of_same hoth);clear hI6 hoth;go_wp2;go_end0;refine⟨X,_,_,_,HI6,?_,HF6⟩;rw[HOE.out];exact⟨X,X,Dc⟩
  have HOE:Hi (o= .ok (acc,x')):=ho;have hxt':(tz:Int)<=x':=O;clear ho;go_wp2;go_end0;refine⟨X,_,_,_,HIR,?_,HFR⟩;rw[HOE.out];exact⟨X,X,X⟩
 obtain⟨e,q,tree',ho,hIr⟩:=hstop;have HOE:Hi (o= .error (e,q)):=ho;have HIR:Hi (dk W wr R a E.s.length c E.d tree' e q):=hIr;have r3:=hIr.r3;have hne:(e==0)=false:=by rw[aD];exact HE _ _ ho
 clear hIr ho;by_cases hlt:j<(nd E.s i).kids.length
 ·have hlt':(j:Int)<(nd E.s i).kids.length:=O;go_wp2;go_end0;refine⟨X,_,_,_,HIR,?_,HFR⟩;rw[HOE.out];exact⟨X,X,HE _ _ HOE⟩
 have hlt':((nd E.s i).kids.length:Int)<=j:=O;go_wp2;go_end0;refine⟨X,_,_,_,HIR,?_,HFR⟩;rw[HOE.out];exact⟨X,X,HE _ _ HOE⟩
theorem DQ(E:cw)(W:M)(R:Nat)(a:Oo Ad)(c f:Nat)(hc:RC E W a)(hdv:j0 E)(hN:kv E W R a c f)(i:Nat)(hi:i<E.s.length)(ka:Oo Ad)(kc:Nat)(hka:be W ka (nd E.s i).kids)(hkc:(nd E.s i).kids.length<=kc)(cl nu gc:Int)(gb:Bool)(gn:Int)(z:Nat)(gl:Int)(x tz:Nat)(dp:Int)(o:dM)(tree:Ls Vl)(p:Int)(w:M)(hk:(nd E.s i).kind=13)(hm:cF E (dJ E f) f (nd E.s i) cl nu ⟨gc,gb,gn,(z:Int),gl⟩ x tz dp=U o)(hxz:x+z<=tz)(hz:tz<=E.d.size)(hd1:1<=dp)(hd2:dp<=13)(hroom:du tree (f+1) x tz)(hI:dk W w R a E.s.length c E.d tree 0 p):Cs prog 102 #[Po (U (D R 0 Z)),Ag #[I J (nd E.s i).kind,I J (nd E.s i).tag,I J (nd E.s i).mode,S ka (nd E.s i).kids.length kc],I J cl,I J nu,Ag #[I J gc,Bo gb,I J gn,I J z,I J gl],I J x,I J tz,I J dp] w fun e w'=>e=Rt (Tu #[])/\fh E W R a c o tree p w w':=by
 unfold cF at hm;rw[aG hk]at hm;have HCH:Hi (∀w0,dk W w0 R a E.s.length c E.d tree 0 p->Cs prog 143 #[Po (U (D R 0 Z)),Ag #[I J (nd E.s i).kind,I J (nd E.s i).tag,I J (nd E.s i).mode,S ka (nd E.s i).kids.length kc],Ag #[I J gc,Bo gb,I J gn,I J z,I J gl],I J x,I J tz,I J dp] w0 fun e w'=>e=Rt (Tu #[])/\fh E W R a c o tree p w0 w'):=fun w0 q=>xZ E W R a c f hc hN i hi ka kc hka hkc ⟨gc,gb,gn,(z:Int),gl⟩ x tz dp o tree p w0 hm O hz hd1 hd2 hroom q;have k13:((nd E.s i).kind==13)=true:=by simp[hk]
 have HC:Hi _:=hc;have HN:Hi _:=hN;have HDV:Hi (j0 E):=hdv;have HKI:Hi _:=hka;have HIL:Hi _:=hi;have HI:Hi _:=hI;have HRO:Hi _:=hroom;have hRl:R<w.heap.size:=aw hI.r0;have hl0:tree.length<=1099511627776:=by unfold du at hroom;omega
 have c1:w.cell? (D R 1 Z)=U (Y E.d):=hI.r1;have HW1:Hi (∀o1 o2,dk W ((w.alloc o1).alloc o2) R a E.s.length c E.d tree 0 p):=fun o1 o2=>(HI.below Be).below Be;have FW:Hi (∀o1 o2 k,Fr R w (((w.alloc o1).alloc o2).drewN k)):=fun o1 o2 k=>Fr.of_below (Go.below_drewN (((aY w.heap.size w).alloc Ln o1).alloc Sq o2) k);clear hc hN hdv hka hi hI hroom hm hk;go_enter func102,ntmps102;go_wp2_with fail;refine(HCH _ (HW1 _ _)).mono ?_;rintro e w2 ⟨rfl,ha2⟩;have HA2:Hi _:=ha2.of (FW _ _ 0);clear ha2;go_wp2;go_returns;exact⟨X,HA2⟩
theorem DR(E:cw)(W:M)(R:Nat)(a:Oo Ad)(c f:Nat)(hc:RC E W a)(hdv:j0 E)(hN:kv E W R a c f)(i:Nat)(hi:i<E.s.length)(ka:Oo Ad)(kc:Nat)(hka:be W ka (nd E.s i).kids)(hkc:(nd E.s i).kids.length<=kc)(cl nu gc:Int)(gb:Bool)(gn:Int)(z:Nat)(gl:Int)(x tz:Nat)(dp:Int)(o:dM)(tree:Ls Vl)(p:Int)(w:M)(hk:(nd E.s i).kind=14)(hm:cF E (dJ E f) f (nd E.s i) cl nu ⟨gc,gb,gn,(z:Int),gl⟩ x tz dp=U o)(hxz:x+z<=tz)(hz:tz<=E.d.size)(hd1:1<=dp)(hd2:dp<=13)(hroom:du tree (f+1) x tz)(hI:dk W w R a E.s.length c E.d tree 0 p):Cs prog 102 #[Po (U (D R 0 Z)),Ag #[I J (nd E.s i).kind,I J (nd E.s i).tag,I J (nd E.s i).mode,S ka (nd E.s i).kids.length kc],I J cl,I J nu,Ag #[I J gc,Bo gb,I J gn,I J z,I J gl],I J x,I J tz,I J dp] w fun e w'=>e=Rt (Tu #[])/\fh E W R a c o tree p w w':=by
 have HC:Hi _:=hc;have HN:Hi _:=hN;have HDV:Hi (j0 E):=hdv;have HKI:Hi _:=hka;have HIL:Hi _:=hi;have HI:Hi _:=hI;have HRO:Hi _:=hroom;have hRl:R<w.heap.size:=aw hI.r0;have hl0:tree.length<=1099511627776:=by unfold du at hroom;omega
 have c1:w.cell? (D R 1 Z)=U (Y E.d):=hI.r1;have HW1:Hi (∀o1 o2,dk W ((w.alloc o1).alloc o2) R a E.s.length c E.d tree 0 p):=fun o1 o2=>(HI.below Be).below Be;have FW:Hi (∀o1 o2 k,Fr R w (((w.alloc o1).alloc o2).drewN k)):=fun o1 o2 k=>Fr.of_below (Go.below_drewN (((aY w.heap.size w).alloc Ln o1).alloc Sq o2) k);have k13:((nd E.s i).kind==13)=false:=by rw[aD];omega
 have k14:((nd E.s i).kind==14)=true:=by simp[hk]
 have k14':((nd E.s i).kind !=14)=false:=by simp[hk]
 have k12:12<(nd E.s i).kind:=O;have k10:10<=(nd E.s i).kind:=O;unfold cF at hm;rw[G O,G (fun q=>q.1 hk)]at hm;by_cases hd:12<dp
 ·rw[aG hd]at hm;have HOE:Hi _:=(aK hm).symm;clear hc hN hdv hka hi hI hroom hm hk;go_enter func102,ntmps102;go_wp2_with fail;refine(bO W _ R a E.s.length c E.d tree p 10 x (HW1 _ _)).mono ?_;rintro e w2 ⟨rfl,hI2,hoth⟩;have HI2:Hi _:=hI2;have HFR:Hi _:=(FW _ _ 0).trans (Fr.of_same hoth);clear hI2 hoth;go_wp2;go_returns;refine⟨X,tree,10,x,HI2,?_,HFR⟩;rw[HOE.out];exact⟨X,X,Dc⟩
 rw[G hd,aG hk]at hm;have HOE:Hi _:=(aK hm).symm;have hd':dp<=12:=O;have hxy':(x:Int)+z<=tz:=O;have hxy2:(x:Int)<=tz:=O;have hy':(tz:Int)<=E.d.size:=O;have hx0:(x:Int)+z<=140737488355328:=by have:=hc.size;omega
 clear hc hN hdv hka hi hI hroom hm hk hd;go_enter func102,ntmps102;go_wp2_with fail;go_quiet (fail);go_wp2_with fail;refine(mo W _ R a E.s.length c E.d tree 0 p ⟨14,E.d.extract x tz,0,0⟩ ((HW1 _ _).below (Go.below_drewN By _)) hl0).mono ?_;rintro e w3 ⟨rfl,hI3,hfr⟩;have HI3:Hi _:=hI3;have HFR:Hi _:=(FW _ _ _).trans hfr;clear hI3 hfr;go_wp2;go_returns;refine⟨X,_,0,p,HI3,?_,HFR⟩;rw[HOE.out];exact⟨X,X,X⟩
theorem DO(E:cw)(W:M)(R:Nat)(a:Oo Ad)(c f:Nat)(hc:RC E W a)(hdv:j0 E)(hN:kv E W R a c f)(i:Nat)(hi:i<E.s.length)(ka:Oo Ad)(kc:Nat)(hka:be W ka (nd E.s i).kids)(hkc:(nd E.s i).kids.length<=kc)(cl nu gc:Int)(gb:Bool)(gn:Int)(z:Nat)(gl:Int)(x tz:Nat)(dp:Int)(o:dM)(tree:Ls Vl)(p:Int)(w:M)(hk:(nd E.s i).kind=10)(hm:cF E (dJ E f) f (nd E.s i) cl nu ⟨gc,gb,gn,(z:Int),gl⟩ x tz dp=U o)(hxz:x+z<=tz)(hz:tz<=E.d.size)(hd1:1<=dp)(hd2:dp<=13)(hroom:du tree (f+1) x tz)(hI:dk W w R a E.s.length c E.d tree 0 p):Cs prog 102 #[Po (U (D R 0 Z)),Ag #[I J (nd E.s i).kind,I J (nd E.s i).tag,I J (nd E.s i).mode,S ka (nd E.s i).kids.length kc],I J cl,I J nu,Ag #[I J gc,Bo gb,I J gn,I J z,I J gl],I J x,I J tz,I J dp] w fun e w'=>e=Rt (Tu #[])/\fh E W R a c o tree p w w':=by
 have HC:Hi _:=hc;have HN:Hi _:=hN;have HDV:Hi (j0 E):=hdv;have HKI:Hi _:=hka;have HIL:Hi _:=hi;have HI:Hi _:=hI;have HRO:Hi _:=hroom;have hRl:R<w.heap.size:=aw hI.r0;have hl0:tree.length<=1099511627776:=by unfold du at hroom;omega
 have c1:w.cell? (D R 1 Z)=U (Y E.d):=hI.r1;have HW1:Hi (∀o1 o2,dk W ((w.alloc o1).alloc o2) R a E.s.length c E.d tree 0 p):=fun o1 o2=>(HI.below Be).below Be;have FW:Hi (∀o1 o2 k,Fr R w (((w.alloc o1).alloc o2).drewN k)):=fun o1 o2 k=>Fr.of_below (Go.below_drewN (((aY w.heap.size w).alloc Ln o1).alloc Sq o2) k);have k13:((nd E.s i).kind==13)=false:=by rw[aD];omega
 have k14:((nd E.s i).kind==14)=false:=by rw[aD];omega
 have k14':((nd E.s i).kind !=14)=true:=by rw[ct];omega
 have k12:(nd E.s i).kind<=12:=O;have k10:10<=(nd E.s i).kind:=O;have k10e:((nd E.s i).kind==10)=true:=by simp[hk]
 unfold cF at hm;rw[G O]at hm;have hbt:decide (10<=(nd E.s i).kind/\(nd E.s i).kind<=12)=true:=by rw[eD];omega
 rw[hbt]at hm;by_cases q:gc=cl/\gn=nu/\gb=true
 ·rw[G (fun h=>h.2 q)]at hm;obtain⟨rfl,rfl,rfl⟩:=q;by_cases hd:12<dp
  ·rw[aG hd]at hm;have HOE:Hi _:=(aK hm).symm;clear hc hN hdv hka hi hI hroom hm hk;go_enter func102,ntmps102;go_wp2_with fail;refine(bO W _ R a E.s.length c E.d tree p 10 x (HW1 _ _)).mono ?_;rintro e w2 ⟨rfl,hI2,hoth⟩;have HI2:Hi _:=hI2;have HFR:Hi _:=(FW _ _ 0).trans (Fr.of_same hoth);clear hI2 hoth;go_wp2;go_returns;refine⟨X,tree,10,x,HI2,?_,HFR⟩;rw[HOE.out];exact⟨X,X,Dc⟩
  rw[G hd,G O]at hm;have hd':dp<=12:=O;rw[aG hk]at hm;obtain⟨o1,ho1,ho2⟩:∃o1,de E (dJ E f) tz (dp+1) (nd E.s i).kids (x+z) []=U o1/\o=GM (nd E.s i).kids.length tz o1:=by
   simp only[br]at hm
   cases hs:de E (dJ E f) tz (dp+1) (nd E.s i).kids (x+z) []with
   |none=>rw[hs]at hm;cases hm
   |some v=>
    refine⟨v,X,?_⟩
    rw[hs]at hm
    cases v with
    |error e=>exact(aK hm).symm
    |ok q=>obtain⟨vs,y⟩:=q;exact(aK hm).symm
  have HCH:Hi (∀w0,dk W w0 R a E.s.length c E.d tree 0 p->Cs prog 145 #[Po (U (D R 0 Z)),Ag #[I J (nd E.s i).kind,I J (nd E.s i).tag,I J (nd E.s i).mode,S ka (nd E.s i).kids.length kc],I J (x+z:Nat),I J tz,I J dp] w0 fun e w'=>e=Rt (Tu #[])/\fh E W R a c o tree p w0 w'):=fun w0 q=>by rw[ho2];exact EB E W R a c f HC.out HDV.out HN.out i HIL.out ka kc HKI.out hkc (x+z) tz dp o1 tree p w0 ho1 hxz hz hd1 hd' (by have:=HRO.out;unfold du at this ⊢;omega) q
  have hxy':(x:Int)+z<=tz:=O;have hy':(tz:Int)<=E.d.size:=O;have hx0:(x:Int)+z<=140737488355328:=by have:=hc.size;omega
  clear hc hN hdv hka hi hI hroom hm hk hd;go_enter func102,ntmps102;go_wp2_with fail;go_quiet (fail);go_wp2_with fail;rw[show(x:Int)+(z:Int)=((x+z:Nat):Int)by omega];refine(HCH _ ((HW1 _ _).below (Go.below_drewN By _))).mono ?_;rintro e w3 ⟨rfl,ha3⟩;have HA3:Hi _:=ha3.of (FW _ _ _);clear ha3;go_wp2;go_returns;exact⟨X,HA3⟩
 rw[aG ⟨O,q⟩]at hm;have HOE:Hi _:=(aK hm).symm;have q':(gc !=cl)=true\/((gc !=cl)=false/\(gn !=nu)=true)\/((gc !=cl)=false/\(gn !=nu)=false/\gb=false):=by
  by_cases q1:gc=cl
  ·by_cases q2:gn=nu
   ·right;right;refine⟨by simp[q1],by simp[q2],?_⟩;cases gb
    ·rfl
    exact Ab ⟨q1,q2,X⟩ q
   right;left;exact⟨by simp[q1],by simp[q2]⟩
  left;simp[q1]
 clear hc hN hdv hka hi hI hroom hm hk q hbt;rcases q' with e1|⟨e1,e2⟩|⟨e1,e2,rfl⟩
 ·go_enter func102,ntmps102;go_wp2_with fail;refine(bO W _ R a E.s.length c E.d tree p 4 x (HW1 _ _)).mono ?_;rintro e w2 ⟨rfl,hI2,hoth⟩;have HI2:Hi _:=hI2;have HFR:Hi _:=(FW _ _ 0).trans (Fr.of_same hoth);clear hI2 hoth;go_wp2;go_returns;refine⟨X,tree,4,x,HI2,?_,HFR⟩;rw[HOE.out];exact⟨X,X,Dc⟩
 ·go_enter func102,ntmps102;go_wp2_with fail;refine(bO W _ R a E.s.length c E.d tree p 4 x (HW1 _ _)).mono ?_;rintro e w2 ⟨rfl,hI2,hoth⟩;have HI2:Hi _:=hI2;have HFR:Hi _:=(FW _ _ 0).trans (Fr.of_same hoth);clear hI2 hoth;go_wp2;go_returns;refine⟨X,tree,4,x,HI2,?_,HFR⟩;rw[HOE.out];exact⟨X,X,Dc⟩
 go_enter func102,ntmps102;go_wp2_with fail;refine(bO W _ R a E.s.length c E.d tree p 4 x (HW1 _ _)).mono ?_;rintro e w2 ⟨rfl,hI2,hoth⟩;have HI2:Hi _:=hI2;have HFR:Hi _:=(FW _ _ 0).trans (Fr.of_same hoth);clear hI2 hoth;go_wp2;go_returns;refine⟨X,tree,4,x,HI2,?_,HFR⟩;rw[HOE.out];exact⟨X,X,Dc⟩
theorem DP(E:cw)(W:M)(R:Nat)(a:Oo Ad)(c f:Nat)(hc:RC E W a)(hdv:j0 E)(hN:kv E W R a c f)(i:Nat)(hi:i<E.s.length)(ka:Oo Ad)(kc:Nat)(hka:be W ka (nd E.s i).kids)(hkc:(nd E.s i).kids.length<=kc)(cl nu gc:Int)(gb:Bool)(gn:Int)(z:Nat)(gl:Int)(x tz:Nat)(dp:Int)(o:dM)(tree:Ls Vl)(p:Int)(w:M)(hk:(nd E.s i).kind=11\/(nd E.s i).kind=12)(hm:cF E (dJ E f) f (nd E.s i) cl nu ⟨gc,gb,gn,(z:Int),gl⟩ x tz dp=U o)(hxz:x+z<=tz)(hz:tz<=E.d.size)(hd1:1<=dp)(hd2:dp<=13)(hroom:du tree (f+1) x tz)(hI:dk W w R a E.s.length c E.d tree 0 p):Cs prog 102 #[Po (U (D R 0 Z)),Ag #[I J (nd E.s i).kind,I J (nd E.s i).tag,I J (nd E.s i).mode,S ka (nd E.s i).kids.length kc],I J cl,I J nu,Ag #[I J gc,Bo gb,I J gn,I J z,I J gl],I J x,I J tz,I J dp] w fun e w'=>e=Rt (Tu #[])/\fh E W R a c o tree p w w':=by
 have HC:Hi _:=hc;have HN:Hi _:=hN;have HDV:Hi (j0 E):=hdv;have HKI:Hi _:=hka;have HIL:Hi _:=hi;have HI:Hi _:=hI;have HRO:Hi _:=hroom;have hRl:R<w.heap.size:=aw hI.r0;have hl0:tree.length<=1099511627776:=by unfold du at hroom;omega
 have c1:w.cell? (D R 1 Z)=U (Y E.d):=hI.r1;have HW1:Hi (∀o1 o2,dk W ((w.alloc o1).alloc o2) R a E.s.length c E.d tree 0 p):=fun o1 o2=>(HI.below Be).below Be;have FW:Hi (∀o1 o2 k,Fr R w (((w.alloc o1).alloc o2).drewN k)):=fun o1 o2 k=>Fr.of_below (Go.below_drewN (((aY w.heap.size w).alloc Ln o1).alloc Sq o2) k);have k13:((nd E.s i).kind==13)=false:=by rw[aD];omega
 have k14:((nd E.s i).kind==14)=false:=by rw[aD];omega
 have k14':((nd E.s i).kind !=14)=true:=by rw[ct];omega
 have k12:(nd E.s i).kind<=12:=O;have k10:10<=(nd E.s i).kind:=O;have k10e:((nd E.s i).kind==10)=false:=by rw[aD];omega
 unfold cF at hm;rw[G O]at hm;have hbt:decide (10<=(nd E.s i).kind/\(nd E.s i).kind<=12)=true:=by rw[eD];omega
 rw[hbt]at hm;by_cases q:gc=cl/\gn=nu/\gb=true
 ·rw[G (fun h=>h.2 q)]at hm;obtain⟨rfl,rfl,rfl⟩:=q;by_cases hd:12<dp
  ·rw[aG hd]at hm;have HOE:Hi _:=(aK hm).symm;clear hc hN hdv hka hi hI hroom hm hk;go_enter func102,ntmps102;go_wp2_with fail;refine(bO W _ R a E.s.length c E.d tree p 10 x (HW1 _ _)).mono ?_;rintro e w2 ⟨rfl,hI2,hoth⟩;have HI2:Hi _:=hI2;have HFR:Hi _:=(FW _ _ 0).trans (Fr.of_same hoth);clear hI2 hoth;go_wp2;go_returns;refine⟨X,tree,10,x,HI2,?_,HFR⟩;rw[HOE.out];exact⟨X,X,Dc⟩
  rw[G hd,G O]at hm;have hd':dp<=12:=O;rw[G O,aG O]at hm;obtain⟨o1,ho1,ho2⟩:∃o1,dA E (dJ E f) (decide ((nd E.s i).kind=12)) (kd (nd E.s i) 0).node.toNat tz (dp+1) f (x+z) bh 0 []=U o1/\o=DJ (nd E.s i).kind tz o1:=by
   simp only[br]at hm
   cases hs:dA E (dJ E f) (decide ((nd E.s i).kind=12)) (kd (nd E.s i) 0).node.toNat tz (dp+1) f (x+z) bh 0 []with
   |none=>rw[hs]at hm;cases hm
   |some v=>
    refine⟨v,X,?_⟩
    rw[hs]at hm
    cases v with
    |error e=>exact(aK hm).symm
    |ok q=>obtain⟨vs,y⟩:=q;exact(aK hm).symm
  have HCH:Hi (∀w0,dk W w0 R a E.s.length c E.d tree 0 p->Cs prog 146 #[Po (U (D R 0 Z)),Ag #[I J (nd E.s i).kind,I J (nd E.s i).tag,I J (nd E.s i).mode,S ka (nd E.s i).kids.length kc],I J (x+z:Nat),I J tz,I J dp] w0 fun e w'=>e=Rt (Tu #[])/\fh E W R a c o tree p w0 w'):=fun w0 q=>by rw[ho2];exact CQ E W R a c f HC.out HN.out i HIL.out hk ka kc HKI.out hkc (x+z) tz f dp o1 tree p w0 ho1 hxz hz hd1 hd' (by have:=HRO.out;unfold du at this ⊢;omega) q
  have hxy':(x:Int)+z<=tz:=O;have hy':(tz:Int)<=E.d.size:=O;have hx0:(x:Int)+z<=140737488355328:=by have:=hc.size;omega
  clear hc hN hdv hka hi hI hroom hm hk hd;go_enter func102,ntmps102;go_wp2_with fail;go_quiet (fail);go_wp2_with fail;rw[show(x:Int)+(z:Int)=((x+z:Nat):Int)by omega];refine(HCH _ ((HW1 _ _).below (Go.below_drewN By _))).mono ?_;rintro e w3 ⟨rfl,ha3⟩;have HA3:Hi _:=ha3.of (FW _ _ _);clear ha3;go_wp2;go_returns;exact⟨X,HA3⟩
 rw[aG ⟨O,q⟩]at hm;have HOE:Hi _:=(aK hm).symm;have q':(gc !=cl)=true\/((gc !=cl)=false/\(gn !=nu)=true)\/((gc !=cl)=false/\(gn !=nu)=false/\gb=false):=by
  by_cases q1:gc=cl
  ·by_cases q2:gn=nu
   ·right;right;refine⟨by simp[q1],by simp[q2],?_⟩;cases gb
    ·rfl
    exact Ab ⟨q1,q2,X⟩ q
   right;left;exact⟨by simp[q1],by simp[q2]⟩
  left;simp[q1]
 clear hc hN hdv hka hi hI hroom hm hk q hbt;rcases q' with e1|⟨e1,e2⟩|⟨e1,e2,rfl⟩
 ·go_enter func102,ntmps102;go_wp2_with fail;refine(bO W _ R a E.s.length c E.d tree p 4 x (HW1 _ _)).mono ?_;rintro e w2 ⟨rfl,hI2,hoth⟩;have HI2:Hi _:=hI2;have HFR:Hi _:=(FW _ _ 0).trans (Fr.of_same hoth);clear hI2 hoth;go_wp2;go_returns;refine⟨X,tree,4,x,HI2,?_,HFR⟩;rw[HOE.out];exact⟨X,X,Dc⟩
 ·go_enter func102,ntmps102;go_wp2_with fail;refine(bO W _ R a E.s.length c E.d tree p 4 x (HW1 _ _)).mono ?_;rintro e w2 ⟨rfl,hI2,hoth⟩;have HI2:Hi _:=hI2;have HFR:Hi _:=(FW _ _ 0).trans (Fr.of_same hoth);clear hI2 hoth;go_wp2;go_returns;refine⟨X,tree,4,x,HI2,?_,HFR⟩;rw[HOE.out];exact⟨X,X,Dc⟩
 go_enter func102,ntmps102;go_wp2_with fail;refine(bO W _ R a E.s.length c E.d tree p 4 x (HW1 _ _)).mono ?_;rintro e w2 ⟨rfl,hI2,hoth⟩;have HI2:Hi _:=hI2;have HFR:Hi _:=(FW _ _ 0).trans (Fr.of_same hoth);clear hI2 hoth;go_wp2;go_returns;refine⟨X,tree,4,x,HI2,?_,HFR⟩;rw[HOE.out];exact⟨X,X,Dc⟩
def ET(E:cw)(W:M)(R:Nat)(a:Oo Ad)(c f:Nat):Prop:=
 ∀(i:Nat) (ka:Oo Ad) (kc:Nat) (cl nu gc:Int) (gb:Bool) (gn:Int) (z:Nat) (gl:Int) (x tz:Nat) (dp:Int) (o:dM) (tree:Ls Vl) (p:Int) (w:M),i<E.s.length->be W ka (nd E.s i).kids->(nd E.s i).kids.length<=kc->
  cF E (dJ E f) f (nd E.s i) cl nu ⟨gc,gb,gn,(z:Int),gl⟩ x tz dp=U o->x+z<=tz->tz<=E.d.size->1<=dp->dp<=13->du tree (f+1) x tz->dk W w R a E.s.length c E.d tree 0 p->
  Cs prog 102 #[Po (U (D R 0 Z)),Ag #[I J (nd E.s i).kind,I J (nd E.s i).tag,I J (nd E.s i).mode,S ka (nd E.s i).kids.length kc],I J cl,I J nu,Ag #[I J gc,Bo gb,I J gn,I J z,I J gl],I J x,I J tz,I J dp] w
   fun e w'=>e=Rt (Tu #[])/\fh E W R a c o tree p w w'
theorem DS(E:cw)(W:M)(R:Nat)(a:Oo Ad)(c f:Nat)(hc:RC E W a)(i:Nat)(ka:Oo Ad)(kc:Nat)(cl nu gc:Int)(gb:Bool)(gn:Int)(z:Nat)(gl:Int)(x tz:Nat)(dp:Int)(o:dM)(tree:Ls Vl)(p:Int)(w:M)(hk1:1<=(nd E.s i).kind)(hk9:(nd E.s i).kind<=9)(hm:cF E (dJ E f) f (nd E.s i) cl nu ⟨gc,gb,gn,(z:Int),gl⟩ x tz dp=U o)(hxz:x+z<=tz)(hz:tz<=E.d.size)(hroom:du tree (f+1) x tz)(hI:dk W w R a E.s.length c E.d tree 0 p):Cs prog 102 #[Po (U (D R 0 Z)),Ag #[I J (nd E.s i).kind,I J (nd E.s i).tag,I J (nd E.s i).mode,S ka (nd E.s i).kids.length kc],I J cl,I J nu,Ag #[I J gc,Bo gb,I J gn,I J z,I J gl],I J x,I J tz,I J dp] w fun e w'=>e=Rt (Tu #[])/\fh E W R a c o tree p w w':=by
 have hl0:tree.length<=1099511627776:=by unfold du at hroom;omega
 refine(kE W w R a E.s.length c E.d tree p (nd E.s i) ka kc cl nu gc gb gn z gl x tz dp hI hk1 hk9 hxz hz (by have:=hc.size;omega) hl0).mono ?_;rintro e w' ⟨rfl,t',e',p',hI',hB,hF⟩;refine⟨X,t',e',p',hI',?_,hF⟩;unfold cF at hm;have hbt:decide (10<=(nd E.s i).kind/\(nd E.s i).kind<=12)=false:=by rw[jA];omega
 rw[G O,hbt]at hm;have k14:(nd E.s i).kind≠14:=O;rcases hB with⟨q,rfl,rfl,rfl⟩|⟨q,hd,rfl,rfl,rfl⟩|⟨q,hd,hok,rfl,rfl,rfl⟩|⟨q,hd,hok,rfl,rfl,rfl⟩
 ·rw[aG ⟨k14,q⟩]at hm;obtain rfl:=aK hm;exact⟨X,X,Dc⟩
 all_goals rw[G (fun h=>h.2 q)]at hm
 ·rw[aG hd]at hm;obtain rfl:=aK hm;exact⟨X,X,Dc⟩
 all_goals rw[G O,G k14,G O,G O]at hm;simp only[br]at hm
 ·rw[aG ((hc.ok _ _).2 hok)]at hm;obtain rfl:=aK hm;exact⟨X,X,X⟩
 rw[G (fun h=>hok ((hc.ok _ _).1 h))]at hm;obtain rfl:=aK hm;exact⟨X,X,Dc⟩
theorem Cr(E:cw)(W:M)(R:Nat)(a:Oo Ad)(c f:Nat)(hc:RC E W a)(hdv:j0 E)(hN:kv E W R a c f):ET E W R a c f:=by
 intro i ka kc cl nu gc gb gn z gl x tz dp o tree p w hi hka hkc hm hxz hz hd1 hd2 hroom hI;have hk:=fu hc.right.2.2.1 i hi;by_cases k9:(nd E.s i).kind<=9
 ·exact DS E W R a c f hc i ka kc cl nu gc gb gn z gl x tz dp o tree p w hk.1 k9 hm hxz hz hroom hI
 by_cases k10:(nd E.s i).kind=10
 ·exact DO E W R a c f hc hdv hN i hi ka kc hka hkc cl nu gc gb gn z gl x tz dp o tree p w k10 hm hxz hz hd1 hd2 hroom hI
 by_cases k11:(nd E.s i).kind=11\/(nd E.s i).kind=12
 ·exact DP E W R a c f hc hdv hN i hi ka kc hka hkc cl nu gc gb gn z gl x tz dp o tree p w k11 hm hxz hz hd1 hd2 hroom hI
 by_cases k13:(nd E.s i).kind=13
 ·exact DQ E W R a c f hc hdv hN i hi ka kc hka hkc cl nu gc gb gn z gl x tz dp o tree p w k13 hm hxz hz hd1 hd2 hroom hI
 exact DR E W R a c f hc hdv hN i hi ka kc hka hkc cl nu gc gb gn z gl x tz dp o tree p w O hm hxz hz hd1 hd2 hroom hI
end Go.Proofs.YtkkicodfpekbgaaGreatDoor
