/-
Several texts in one.
-/
import Derived.Test.YtkkicodfpekbgaaGreatDoorJe0
open Go.Value renaming int->I,string->Y,slice->S,pointer->Po,bool->Bo,agg->Ag,tuple->Tu,iface->If
open Go.IntKind renaming i64->J
open Go.Obj renaming cells->C
open Go.Ending renaming returned->Rt
open Option renaming some->U,none->Z
open Go renaming World->M,Calls->Cs,Addr->Ad,Value->Vv
open _root_ renaming ByteArray->Q,Option->Oo,List->Ls
open Go.RowKit renaming Below->H,intOf->Io,Hid->Hi
open Go.World renaming cell?->Wc
open Go.Addr renaming mk->D
set_option linter.unusedSimpArgs false
set_option linter.unusedVariables false
set_option maxRecDepth 100000
set_option maxHeartbeats 8000000
namespace Go.Proofs.YtkkicodfpekbgaaGreatDoor
open Go.Proofs.Tryz
open Go.RowKit
theorem gh.r3{W w:M}{R:Nat}{a:Oo Ad}{n c gb:Nat}{data:Q}{tree:Ls Vl}(h:gh W w R a n c gb data tree):∃va vc,w.cell? (D R 3 Z)=U (S va tree.length vc):=by
 obtain⟨_,_,vt,hr,ho⟩:=h;obtain⟨va,vc,rfl,_⟩:=iB ho;unfold ly at hr;exact⟨va,vc,by simp[Wc,hr]⟩
theorem gh.bump{W w:M}{R:Nat}{a:Oo Ad}{n c gb:Nat}{data:Q}{tree acc:Ls Vl}{v:Vl}(h:gh W w R a n c gb data (tree++v::acc)):∃g cap,w.cell? (D R 3 Z)=U (S (U (D g 0 Z)) (tree++v::acc).length cap)/\w.cell? (D g (tree.length*4+3) Z)=U (I J v.kids)/\w.frozen? (D g (tree.length*4+3) Z)=false/\∀k:Int,gh W (w.setCell (D g (tree.length*4+3) Z) (I J k)) R a n c gb data (tree++⟨v.kind,v.text,v.alt,k⟩::acc)/\Fr R w (w.setCell (D g (tree.length*4+3) Z) (I J k)):=by
 obtain⟨hb,hlo,vt,hr,ho⟩:=h;obtain⟨g,cap,rfl⟩:∃g cap,vt=S (U (D g 0 Z)) (tree++v::acc).length cap:=by obtain⟨g,cap,q⟩:=ho.form (by simp only[aQ,aU];omega);exact⟨g,cap,q.1⟩
 have hgR:g≠R:=fun q=>cA hr ho Dc (by simp[Value.ownBlock,q]);have hlt:=(ho.lt g X);have hT:∃cur,w.heap[g]? =U (C cur 60 (0,0)):=by
  rcases ho.2 with⟨q,_⟩|⟨g',cap',cur,q,_,q2,_⟩
  ·cases q
  injection q with q;injection q with q;injection q with q;subst q;exact⟨cur,q2⟩
 refine⟨g,cap,?_,?_,?_,fun k=>⟨⟨hb.setCell hlt.1 _,hlo,S (U (D g 0 Z)) (tree++v::acc).length cap,?_,?_⟩,?_⟩⟩
 ·unfold ly at hr;simp[Wc,hr]
 ·rw[ho.cellAt _ (by simp only[aQ,aU];omega)];exact tK tree v acc
 ·exact ho.frozenAt _
 ·rw[aP _ _ _ _ (Ne.symm hgR)];exact hr
 ·have:=(ho.stored (tree.length*4+3) (I J k)).1;rw[rG]at this;simpa using this
 intro j A T hj hTn hA;obtain⟨cur,hcur⟩:=hT;have hne:j≠g:=fun q=>by subst q;rw[hcur]at hA;injection hA with hA;injection hA with _ q _;exact hTn q.symm
 rw[aP _ _ _ _ hne];exact hA
theorem nU{E:cw}{f i x y:Nat}{dp:Int}{o:dM}(e:dJ E f i x y dp=U o)(h:(E.hd x y).1≠0):o= .error ((E.hd x y).1,(x:Int)):=by
 cases f with
 |zero=>cases e
 |succ f=>unfold dJ at e;rw[aG h]at e;exact(aK e).symm
def GJ(E:cw)(W:M)(R:Nat)(a:Oo Ad)(c gb f:Nat)(kset:Bool)(t x tz:Nat)(dp kind:Int)(o:Except (Int×Int) (Nat×Ls Vl))(tree:Ls Vl)(x':Nat)(last:Q)(wq:M):Prop:=
 ∃(m j:Nat) (acc:Ls Vl),dA E (dJ E f) kset t tz (dp+1) m x' last j acc=U o/\gh W wq R a E.s.length c gb E.d (tree++⟨kind,⟨#[]⟩,0,(j:Int)⟩::acc)/\acc.length<=100*(x'-x)/\j<=x'-x
theorem F5(E:cw)(W:M)(R:Nat)(a:Oo Ad)(c gb:Nat)(sn:Sn->Ad)(f:Nat)(hc:PC E W a gb sn)(hN:lD E W R a c gb sn f)(i:Nat)(hi:i<E.s.length)(hk:(nd E.s i).kind=11\/(nd E.s i).kind=12)(ka:Oo Ad)(kc:Nat)(hka:be W ka (nd E.s i).kids)(hkc:(nd E.s i).kids.length<=kc)(g:Hd)(x0 x tz m:Nat)(dp:Int)(o:Except (Int×Int) (Nat×Ls Vl))(tree:Ls Vl)(w:M)(hx0:(x:Int)=(x0:Int)+g.s)(htz:(tz:Int)=(x0:Int)+g.s+g.l)(hm:dA E (dJ E f) (decide ((nd E.s i).kind=12)) (kd (nd E.s i) 0).node.toNat tz (dp+1) m x bh 0 []=U o)(hxz:x<=tz)(hz:tz<=E.d.size)(hd1:1<=dp)(hd2:dp<=12)(hroom:du tree (f+1) x tz)(hI:gh W w R a E.s.length c gb E.d tree):Cs prog 161 #[Po (U (D R 0 Z)),Ag (fe (nd E.s i) ka kc),I J dp,dw g x0] w fun e w'=>df E W R a c gb sn (DJ (nd E.s i).kind tz o) tree w e w':=by
 have HC:Hi (PC E W a gb sn):=hc;have HN:Hi (lD E W R a c gb sn f):=hN;have HI:Hi (gh W w R a E.s.length c gb E.d tree):=hI;have hRl:R<w.heap.size:=aw hI.r0;have HRO:Hi (du tree (f+1) x tz):=hroom;have h1:=hc.right.fine.one i hi hk;obtain⟨kb,ko,rfl,kcl⟩:=hka 0 O;have hkr:=hc.right.fine.within i hi _ (fU (n:=nd E.s i) (i:=0) O);obtain⟨t,ht⟩:∃t:Nat,(kd (nd E.s i) 0).node=t:=⟨(kd (nd E.s i) 0).node.toNat,O⟩;have htl:t<E.s.length:=O;have htn:(kd (nd E.s i) 0).node.toNat=t:=O;have k0:W.cell? (D kb ko Z)=U (I J t):=by rw[<-ht];have:=kcl.node;rw[zA,iS]at this;exact this
 have hkl:(0:Int)<(nd E.s i).kids.length:=O;rw[htn]at hm;obtain⟨kset,hks⟩:∃b:Bool,b=decide ((nd E.s i).kind=12):=Ez;have hkb:((nd E.s i).kind==12)=kset:=by rw[hks];exact X
 rw[<-hks]at hm;have HM:Hi (dA E (dJ E f) kset t tz (dp+1) m x bh 0 []=U o):=hm;have hl0:tree.length<=1099511627776:=by unfold du at hroom;omega
 have HKN:Hi (W.cell? (D kb ko Z)=U (I J t)):=k0;have hds:=hc.size;have HAT:Hi (∀(x':Nat) wq,Cs prog 60 #[I J x',If 291 (Po (U (sn .Order)))] wq fun e w'=>e=Rt (aX x' (sn .Order))/\w'=wq):=fun x' wq=>fR x' _ wq;unfold aX at HAT;have HA:Hi (∀A B,H w.heap.size w ((w.alloc A).alloc B)):=fun A B=>((aY w.heap.size w).alloc Ln A).alloc Sq B;unfold dw fe;rw[<-htz,<-hx0];clear hc hN hka hm hI hroom hi hk kcl hkr ht htn hks k0 h1 hx0 htz;generalize hW0:(w.alloc (C #[I J (nd E.s i).kind,I J (nd E.s i).tag,I J (nd E.s i).mode,S (U (D kb ko Z)) (nd E.s i).kids.length kc] 58)).alloc (C #[I J g.c,I J g.n,Bo g.b,I J x0,I J x,I J tz] 151)=w0;have HB0:Hi (H w.heap.size w w0):=by show H w.heap.size w w0;rw[<-hW0];exact HA _ _
 have HG1:Hi (w0.heap[w.heap.size]? =U (C #[I J (nd E.s i).kind,I J (nd E.s i).tag,I J (nd E.s i).mode,S (U (D kb ko Z)) (nd E.s i).kids.length kc] 58 (0,0))):=by show w0.heap[w.heap.size]? =_;rw[<-hW0];exact ax (aA w _) Be
 have HG2:Hi (w0.heap[w.heap.size+1]? =U (C #[I J g.c,I J g.n,Bo g.b,I J x0,I J x,I J tz] 151 (0,0))):=by show w0.heap[w.heap.size+1]? =_;rw[<-hW0];have q:=aA (w.alloc (C #[I J (nd E.s i).kind,I J (nd E.s i).tag,I J (nd E.s i).mode,S (U (D kb ko Z)) (nd E.s i).kids.length kc] 58)) (C #[I J g.c,I J g.n,Bo g.b,I J x0,I J x,I J tz] 151);simpa using q
 have HI0:Hi (gh W w0 R a E.s.length c gb E.d tree):=HI.below HB0;have HW0:=aN hW0;clear hW0 HA;obtain⟨va,vc,r3⟩:=HI0.out.r3;have hR0:R<w0.heap.size:=aw r3;have n0:w0.cell? (D w.heap.size 0 Z)=U (I J (nd E.s i).kind):=cell_of_row HG1 X;go_enter func161,ntmps161;go_upto_region 1 with fail;rw[HW0.out];clear HW0;go_wp2_with fail;refine(me W _ R a E.s.length c gb E.d tree (nd E.s i).kind ⟨#[]⟩ 0 0 HI0 hl0).mono ?_;rintro e w1 ⟨rfl,hI1,hf1⟩;have HI1:Hi (gh W w1 R a E.s.length c gb E.d (tree++[⟨(nd E.s i).kind,⟨#[]⟩,0,0⟩])):=hI1;have HF1:Hi (Fr R w w1):=(Fr.of_below HB0).trans hf1;have hn1:w.heap.size≠R:=O;have hn2:w.heap.size+1≠R:=O;have HN1:=aN (hf1 _ _ _ hn1 Dc HG1);have HN2:=aN (hf1 _ _ _ hn2 Dc HG2);have s4:w1.cell? (D (w.heap.size+1) 4 Z)=U (I J x):=cell_of_row HN2 X;have hl2:w.heap.size+1<w1.heap.size:=aw s4;clear hI1 hf1 r3 n0 hR0;go_wp2;go_loopw [10,11] (fun vl vp wq=>∃(x':Nat) (last:Q),vl=Y last/\vp=I J x'/\x<=x'/\x'<=tz/\Fr R w wq/\wq.heap[w.heap.size]? =U (C #[I J (nd E.s i).kind,I J (nd E.s i).tag,I J (nd E.s i).mode,S (U (D kb ko Z)) (nd E.s i).kids.length kc] 58 (0,0))/\wq.heap[w.heap.size+1]? =U (C #[I J g.c,I J g.n,Bo g.b,I J x0,I J x,I J tz] 151 (0,0))/\GJ E W R a c gb f kset t x tz dp (nd E.s i).kind o tree x' last wq) (fun _ vp _=>tz-(Io vp).toNat);case atStart=>exact⟨x,⟨#[]⟩,X,X,Ln,hxz,HF1,HN1,HN2,⟨m,0,[],HM,HI1,Sq,O⟩⟩
 obtain⟨x',last,rfl,rfl,hx1,hx2,hfr,hb1,hb2,hrun⟩:=hrel;have HFR:Hi (Fr R w wr):=hfr;have HX1:Hi (wr.heap[w.heap.size]? =U (C #[I J (nd E.s i).kind,I J (nd E.s i).tag,I J (nd E.s i).mode,S (U (D kb ko Z)) (nd E.s i).kids.length kc] 58 (0,0))):=hb1;have HX2:Hi (wr.heap[w.heap.size+1]? =U (C #[I J g.c,I J g.n,Bo g.b,I J x0,I J x,I J tz] 151 (0,0))):=hb2;obtain⟨m',j,acc,hmm,hIr,hacc,hjx⟩:=hrun;have HMM:Hi (dA E (dJ E f) kset t tz (dp+1) m' x' last j acc=U o):=hmm;have HIR:Hi (gh W wr R a E.s.length c gb E.d (tree++⟨(nd E.s i).kind,⟨#[]⟩,0,(j:Int)⟩::acc)):=hIr;have s5:wr.cell? (D (w.heap.size+1) 5 Z)=U (I J tz):=cell_of_row hb2 X;have hl5:w.heap.size+1<wr.heap.size:=aw s5;have hRr:R<wr.heap.size:=aw hIr.r0;clear hmm hIr hfr hb1 hb2 s4 hl2;by_cases hlt:x'<tz
 ·have hlt':(x':Int)<tz:=O;obtain⟨o',hrec,ho⟩:=wo HMM hlt;have HREC:Hi (dJ E f t x' tz (dp+1)=U o'):=hrec;have HO:Hi ((∃u,o'= .error u/\o= .error u)\/∃vs z,o'= .ok (vs,z)/\((kset=true/\eZ (E.d.extract x' z) last=true/\o= .error (8,(x':Int)))\/(¬(kset=true/\eZ (E.d.extract x' z) last=true)/\∃m',dA E (dJ E f) kset t tz (dp+1) m' z (E.d.extract x' z) (j+1) (acc++vs)=U o))):=ho;have HRO2:Hi (du (tree++⟨(nd E.s i).kind,⟨#[]⟩,0,(j:Int)⟩::acc) f x' tz):=by show du _ _ _ _;have:=HRO.out;unfold du at this ⊢;simp only[aQ,aU];omega
  have HOP:=aN (ml W wr R a E.s.length c gb E.d _ x' tz sn HIR (HC.lay.below HIR.bel).s O hz O);clear hrec ho;go_wp2_with fail;refine HOP.mono ?_;rintro e w4 ⟨hb4,h4⟩;have HB4:=aN hb4;clear HOP hb4;rcases h4 with⟨h40,rfl⟩|⟨h40,rfl⟩
  ·obtain⟨h,hh⟩:∃h,(hd (E.d.extract x' tz)).2=h:=Ey;(have HHD:Hi (E.hd x' tz=(0,h)):=by show E.hd x' tz=(0,h);unfold cw.hd;rw[<-h40,<-hh]);rw[hh];clear h40 hh;obtain⟨z,hzf⟩:∃z,z=iH x' h:=Ez;have hfi:=ix (E:=E) (x:=x') (y:=tz) (by rw[HHD.out]);have hfl:=dZ (E:=E) (x:=x') (y:=tz) (by rw[HHD.out]);rw[HHD.out]at hfi hfl;simp only at hfi hfl;rw[<-hzf]at hfi hfl;have hzz:(x':Int)+h.s+h.l=z:=O;have HNV:Hi (∀wq,gh W wq R a E.s.length c gb E.d (tree++⟨(nd E.s i).kind,⟨#[]⟩,0,(j:Int)⟩::acc)->Cs prog 78 #[Po (U (D R 0 Z)),I J t,I J (dp+1),Ag #[I J h.c,I J h.n,Bo h.b,I J x',I J ((x':Int)+h.s),I J z]] wq fun e w'=>∃ve,e=Rt ve/\df E W R a c gb sn o' (tree++⟨(nd E.s i).kind,⟨#[]⟩,0,(j:Int)⟩::acc) wq (Rt ve) w'):=fun wq q=>by
    have:=HN t x' tz h (dp+1) o' _ wq HHD HREC htl O hz O O HRO2 q;unfold dw at this;rw[hzz]at this;exact this.mono fun e w' qa=>by
     rcases qa.2 with⟨_,_,_,q4,_⟩|⟨_,_,_,_,q4,_⟩
     ·exact⟨_,q4,by rw[<-q4];exact qa⟩
     exact⟨_,q4,by rw[<-q4];exact qa⟩
   have HZF:Hi (z=iH x' h):=hzf;have hz1:x'+2<=z:=O;have hz2:z<=tz:=O;unfold dw;rw[hzz];clear hzf hfi hfl hzz;go_upto_region 9 with fail;generalize hW5:w4.alloc (C #[I J h.c,I J h.n,Bo h.b,I J x',I J ((x':Int)+h.s),I J z] 151)=w5;(have HB5:Hi (H wr.heap.size wr w5):=by show H wr.heap.size wr w5;rw[<-hW5];exact HB4.alloc HB4.size _);(have HS5:Hi (w5.heap[w4.heap.size]? =U (C #[I J h.c,I J h.n,Bo h.b,I J x',I J ((x':Int)+h.s),I J z] 151 (0,0))):=by show w5.heap[w4.heap.size]? =_;rw[<-hW5];exact aA w4 _);have HI5:Hi (gh W w5 R a E.s.length c gb E.d (tree++⟨(nd E.s i).kind,⟨#[]⟩,0,(j:Int)⟩::acc)):=HIR.below HB5;have H15:=aN (ax HX1 HB5);have H25:=aN (ax HX2 HB5);obtain⟨b3,hb3⟩:∃b3,w4.heap.size=b3:=Ey;rw[hb3]at HS5 ⊢;(have hb3w:wr.heap.size<=b3:=by rw[<-hb3];exact HB4.size);have hb3R:b3≠R:=O;clear hW5 hb3 s5;have n3:w5.cell? (D w.heap.size 3 Z)=U (S (U (D kb ko Z)) (nd E.s i).kids.length kc):=cell_of_row H15 X;have k3:w5.cell? (D kb ko Z)=U (I J t):=(HI5.bel.cell (p:=D kb ko Z) (aw HKN)).trans HKN;have t0:w5.cell? (D b3 0 Z)=U (I J h.c):=cell_of_row HS5 X;have t1:w5.cell? (D b3 1 Z)=U (I J h.n):=cell_of_row HS5 X;have t2:w5.cell? (D b3 2 Z)=U (Bo h.b):=cell_of_row HS5 X;have t3:w5.cell? (D b3 3 Z)=U (I J x'):=cell_of_row HS5 X;have t4:w5.cell? (D b3 4 Z)=U (I J ((x':Int)+h.s)):=cell_of_row HS5 X;have t5:w5.cell? (D b3 5 Z)=U (I J z):=cell_of_row HS5 X;go_region_held_law (fun w'=>w'.cell? (D w.heap.size 3 Z)=U (S (U (D kb ko Z)) (nd E.s i).kids.length kc)/\w'.cell? (D kb ko Z)=U (I J t)/\w'.cell? (D b3 0 Z)=U (I J h.c)/\w'.cell? (D b3 1 Z)=U (I J h.n)/\w'.cell? (D b3 2 Z)=U (Bo h.b)/\w'.cell? (D b3 3 Z)=U (I J x')/\w'.cell? (D b3 4 Z)=U (I J ((x':Int)+h.s))/\w'.cell? (D b3 5 Z)=U (I J z)) (first|exact⟨p3,pk,q0,q1,q2,q3,q4,q5⟩|exact⟨n3,k3,t0,t1,t2,t3,t4,t5⟩) ((go_at_call 78;refine(HNV _ (HI5.below (By).drew)).mono ?_;rintro e w6 ⟨ve,rfl,ha6⟩;have HA6:=aN ha6;have hF6:Fr R w5 w6:=(Fr.of_below ((aY w5.heap.size w5).drew)).trans ha6.1;have hbel:H W.heap.size W w6:=(by rcases ha6.2 with⟨_,_,_,_,q⟩|⟨_,_,_,_,_,q⟩ <;>exact q.bel);have hS6:=hF6 _ _ _ hb3R Dc HS5;have h16:=hF6 _ _ _ hn1 Dc H15;have h26:=hF6 _ _ _ hn2 Dc H25;have HS6:=aN hS6;have H16:=aN h16;have H26:=aN h26;have p3:w6.cell? (D w.heap.size 3 Z)=U (S (U (D kb ko Z)) (nd E.s i).kids.length kc):=cell_of_row h16 X;have pk:w6.cell? (D kb ko Z)=U (I J t):=(hbel.cell (p:=D kb ko Z) (aw HKN)).trans HKN;have q0:w6.cell? (D b3 0 Z)=U (I J h.c):=cell_of_row hS6 X;have q1:w6.cell? (D b3 1 Z)=U (I J h.n):=cell_of_row hS6 X;have q2:w6.cell? (D b3 2 Z)=U (Bo h.b):=cell_of_row hS6 X;have q3:w6.cell? (D b3 3 Z)=U (I J x'):=cell_of_row hS6 X;have q4:w6.cell? (D b3 4 Z)=U (I J ((x':Int)+h.s)):=cell_of_row hS6 X;have q5:w6.cell? (D b3 5 Z)=U (I J z):=cell_of_row hS6 X;have HF6:=aN hF6;clear ha6 hF6 hbel hS6 h16 h26));clear n3 k3 t0 t1 t2 t3 t4 t5 p3 pk q0 q1 q2 q4;have HFW:Hi (Fr R w w6):=(HFR.below HB5).trans HF6;rcases HA6.2 with⟨vs,zz,ho',hve,hI6⟩|⟨ke,qe,tr,ho',hve,hI6⟩
   ·(obtain rfl:ve= .nilIface:=by injection hve);obtain⟨_,hzz⟩:=gB (by rw[<-ho'];exact HREC);rw[HHD.out]at hzz;(have hzz2:zz=z:=by rw[hzz];exact HZF.symm);subst hzz2;have hlen:=iC HC.right.fine htl (by rw[<-ho'];exact HREC);have HOO:Hi ((kset=true/\eZ (E.d.extract x' zz) last=true/\o= .error (8,(x':Int)))\/(¬(kset=true/\eZ (E.d.extract x' zz) last=true)/\∃m',dA E (dJ E f) kset t tz (dp+1) m' zz (E.d.extract x' zz) (j+1) (acc++vs)=U o)):=by
     rcases HO with⟨u,hu,_⟩|⟨vs',z',hu,ho⟩
     ·rw[ho']at hu;cases hu
     rw[ho']at hu;cases hu;exact ho
    (have hI8:gh W w6 R a E.s.length c gb E.d (tree++⟨(nd E.s i).kind,⟨#[]⟩,0,(j:Int)⟩::(acc++vs)):=by have:=hI6;simpa using this);have HI8:=aN hI8;clear hve ho' hzz hI6 hI8;have d2:w6.cell? (D R 2 Z)=U (Y E.d):=HI8.out.r2;have hR6:R<w6.heap.size:=aw d2;have hb36:b3<w6.heap.size:=aw q3;have hq1:(x':Int)<=zz:=O;have hq2:(zz:Int)<=E.d.size:=O;go_upto_region 12 with fail;go_quiet (fail);generalize hw7:w6.drewN nq=w7;(have HB7:Hi (H w6.heap.size w6 w7):=by show H w6.heap.size w6 w7;rw[<-hw7];exact Go.below_drewN By _);have HI7:=aN (HI8.below HB7);have HS7:=aN (ax HS6 HB7);have H17:=aN (ax H16 HB7);have H27:=aN (ax H26 HB7);have HF7:Hi (Fr R w w7):=HFW.below HB7;clear hw7 d2 q3 q5 hR6 hb36;have g0:w7.cell? (D w.heap.size 0 Z)=U (I J (nd E.s i).kind):=cell_of_row H17 X;have e5:w7.cell? (D b3 5 Z)=U (I J zz):=cell_of_row HS7 X;have hl7:w.heap.size<w7.heap.size:=aw g0;have hb37:b3<w7.heap.size:=aw e5;by_cases hord:kset=true/\eZ (E.d.extract x' zz) last=true
    ·obtain⟨rfl,hbl⟩:=hord;have HOE:Hi (o= .error (8,(x':Int))):=by
      rcases HOO with q|q
      ·exact q.2.2
      exact Ab ⟨X,hbl⟩ q.1
     unfold eZ at hbl;have cO:=(HC.lay.below HI7.bel).s.cOrder;have hgl:=aw cO;simp only at hgl;go_wp2_with fail;refine(HAT x' _).mono ?_;rintro e w8 ⟨rfl,rfl⟩;go_wp2;go_ret;exact⟨HF7,.inr ⟨8,x',_,by rw[HOE.out];rfl,X,HI7⟩⟩
    have HNX:Hi (∃m',dA E (dJ E f) kset t tz (dp+1) m' zz (E.d.extract x' zz) (j+1) (acc++vs)=U o):=by
     rcases HOO with q|q
     ·exact Ab ⟨q.1,q.2.1⟩ hord
     exact q.2
    have hdd:kset=false\/(kset=true/\Op.bytesLess (E.d.extract x' zz).toList last.toList=false):=by
     cases kset
     ·exact .inl X
     refine .inr ⟨X,?_⟩
     cases hq:Op.bytesLess (E.d.extract x' zz).toList last.toList with
     |false=>rfl
     |true=>exact Ab ⟨X,hq⟩ hord
    (have hj1:(j:Int)+1<1000000:=by have:=HC.out.size;omega);(have hla:tree.length<(tree++⟨(nd E.s i).kind,⟨#[]⟩,0,(j:Int)⟩::(acc++vs)).length:=by simp only[aQ,aU];omega);clear hord;rcases hdd with rfl|⟨rfl,hbl⟩;all_goals
     go_upto_region 15 with fail;go_quiet (fail);generalize hw8:w7.drewN nq=w8;(have HB8:Hi (H w7.heap.size w7 w8):=by show H w7.heap.size w7 w8;rw[<-hw8];exact Go.below_drewN By _);have HI9:=aN (HI7.below HB8);have H18:=aN (ax H17 HB8);have H28:=aN (ax H27 HB8);have HF8:Hi (Fr R w w8):=HF7.below HB8;clear hw8 g0 e5 hl7 hb37;obtain⟨gg,cap,b1,b2,b4,b5⟩:=HI9.out.bump;have HB4':=aN b5;obtain⟨N,hNN⟩:∃N,N=(tree++⟨(nd E.s i).kind,⟨#[]⟩,0,(j:Int)⟩::(acc++vs)).length:=Ez;have hNl:(tree.length:Int)<N:=O;rw[<-hNN]at b1;simp only at b2;have hgl:=aw b2;have hRl8:R<w8.heap.size:=aw b1;simp only at hgl;clear b5 hNN hla;go_wp2;go_roundw;case rel=>exact⟨zz,_,X,X,O,O,HF8.trans (HB4' _).2,(HB4' _).2 _ _ _ hn1 Dc H18,(HB4' _).2 _ _ _ hn2 Dc H28,by obtain⟨m2,hm2⟩:=HNX.out;exact⟨m2,j+1,acc++vs,hm2,(HB4' _).1,by simp only[aQ];omega,O⟩⟩
     case measure=>exact Ms
   (obtain rfl:ve=aX qe (sn (wM ke)):=by injection hve);have HOE:Hi (o= .error (ke,qe)):=by
    rcases HO with⟨u,hu,ho⟩|⟨vs',z',hu,ho⟩
    ·rw[ho']at hu;injection hu with hu;show o=_;rw[ho,<-hu]
    rw[ho']at hu;cases hu
   have HI7:=aN hI6;unfold aX;clear hve ho' hI6;go_wp2;go_ret;exact⟨HFW,.inr ⟨ke,qe,tr,by rw[HOE.out];rfl,X,HI7⟩⟩
  have he:=lP (t:=E.d.extract x' tz) x' sn h40;have HO2:Hi (o= .error ((hd (E.d.extract x' tz)).1,(x':Int))):=by
   have q:=nU HREC h40;rcases HO with⟨u,hu,ho⟩|⟨vs,z,hu,_⟩
   ·rw[hu]at q;injection q with q;show o=_;rw[ho,q];rfl
   rw[hu]at q;cases q
  generalize(hd (E.d.extract x' tz)).1=k at he HO2;rw[he];unfold rp aX;clear he h40;go_wp2;go_ret;refine⟨HFR.trans (Fr.of_below (HB4.alloc HB4.size _)),.inr ⟨k,x',_,by rw[HO2.out];rfl,X,HIR.below (HB4.alloc HB4.size _)⟩⟩
 have hlt':¬(x':Int)<tz:=O;have ho:=sM HMM hlt;have HO:Hi (o= .ok (j,acc)):=ho;clear ho;go_wp2;go_ret;exact⟨HFR,.inl ⟨_,_,by rw[HO.out];rfl,X,HIR⟩⟩
def gV(E:cw)(k:Kd):Oo Vl:=if k.opt=true then U ⟨15,bh,0,0⟩else if k.dflt.size≠0 then U (E.dv k)else Z
def wZ(E:cw)(W:M)(R:Nat)(a:Oo Ad)(c gb:Nat)(r:Oo Vl)(tree:Ls Vl)(w:M)(e:Ending)(w':M):Prop:=
 Fr R w w'/\((∃v,r=U v/\e=Rt (Bo true)/\gh W w' R a E.s.length c gb E.d (tree++[v]))\/(r=Z/\e=Rt (Bo false)/\gh W w' R a E.s.length c gb E.d tree))
theorem qP(E:cw)(W:M)(R:Nat)(a:Oo Ad)(c gb:Nat)(sn:Sn->Ad)(hc:PC E W a gb sn)(hdv:j0 E)(i:Nat)(hi:i<E.s.length)(k:Kd)(hk:k∈(nd E.s i).kids)(tree:Ls Vl)(w:M)(hl:tree.length<=1099511627776)(hI:gh W w R a E.s.length c gb E.d tree):Cs prog 189 #[Po (U (D R 0 Z)),Ag #[I J k.node,Bo k.opt,Y k.dflt]] w fun e w'=>wZ E W R a c gb (gV E k) tree w e w':=by
 have HI:Hi (gh W w R a E.s.length c gb E.d tree):=hI;have HAD:Hi (∀wq kk (uu:Q),gh W wq R a E.s.length c gb E.d tree->Cs prog 162 #[Po (U (D R 0 Z)),Ag #[I J kk,Y uu,I J 0,I J 0]] wq fun e' w'=>e'=Rt (Tu #[])/\gh W w' R a E.s.length c gb E.d (tree++[⟨kk,uu,0,0⟩])/\Fr R wq w'):=fun wq kk uu q=>me W wq R a _ c gb E.d tree kk uu 0 0 q hl;have hRl:R<w.heap.size:=aw hI.r0;have hw:=hc.right.fine.within i hi k hk;obtain⟨t,ht⟩:∃t:Nat,k.node=t:=⟨k.node.toNat,O⟩;have htl:t<E.s.length:=O;have htn:k.node.toNat=t:=O;have hB1:H w.heap.size w (w.alloc (C #[I J k.node,Bo k.opt,Y k.dflt] 55)):=Be;by_cases ho:k.opt=true
 ·have e1:gV E k=U ⟨15,bh,0,0⟩:=by unfold gV;rw[aG ho]
  have HE1:=aN e1;have HB1:=aN hB1;rw[ht,ho]at HB1 ⊢;clear e1 hI hc hdv hk hw ht htn hB1 ho;go_enter func189,ntmps189;go_wp2_with fail;refine(HAD _ 15 ⟨#[]⟩ (HI.below HB1)).mono ?_;rintro e w1 ⟨rfl,hI1,hF1⟩;have HI1:=aN hI1;have HF1:=aN hF1;clear hI1 hF1;go_wp2;go_ret;exact⟨(Fr.of_below HB1).trans HF1,.inl ⟨_,HE1,X,HI1⟩⟩
 have ho':k.opt=false:=by simpa using ho
 by_cases hd:k.dflt.size=0
 ·have e1:gV E k=Z:=by unfold gV;rw[G ho,G O]
  have HE1:=aN e1;have HB1:=aN hB1;have hem:=gJ hd;rw[ht,ho']at HB1 ⊢;clear e1 hI hc hdv hk hw ht htn hB1 ho ho' hd;go_enter func189,ntmps189;go_wp2;go_ret;exact⟨Fr.of_below HB1,.inr ⟨HE1,X,HI.below HB1⟩⟩
 have e1:gV E k=U (E.dv k):=by unfold gV;rw[G ho,aG hd]
 obtain⟨u,hu,hv,hk1,hk9⟩:=hdv i hi k hk hd;rw[htn]at hu hv hk9;have HV:=aN hv;have HE1:=aN e1;have HB1:=aN hB1;have hem:=dR (t:=k.dflt) O;have hyz:=hc.sok i hi k hk;obtain⟨yd,hyd⟩:∃y,k.dflt=y:=Ey;rw[hyd]at hu hyz hem;rw[ht,ho',hyd]at HB1 ⊢;have HDF:Hi (∀wq,H W.heap.size W wq->Cs prog 202 #[S a E.s.length c,Ag #[I J t,Bo false,Y yd]] wq fun e w'=>e=Rt (Ag #[I J (nd E.s t).kind,Y u,I J 0,I J 0])/\H wq.heap.size wq w'):=fun wq q=>oZ E.s a c t false yd u wq sn (hc.lay.below q) (hc.sch.below q) hc.right htl hk9 hu O;clear e1 hI hc hdv hk hw ht htn hB1 ho ho' hd hu hv hk1 hk9 hyd hyz;go_enter func189,ntmps189;go_upto_region 5 with fail;generalize hW1:w.alloc (C #[I J t,Bo false,Y yd] 55)=w1;have hG1:w1.heap[w.heap.size]? =U (C #[I J t,Bo false,Y yd] 55 (0,0)):=by rw[<-hW1];exact aA w _
 rw[hW1]at HB1;have HG1:=aN hG1;have HI1:=aN (HI.below HB1);clear hW1 hG1;have r0:w1.cell? (D R 0 Z)=U (S a E.s.length c):=HI1.out.r0;have g0:w1.cell? (D w.heap.size 0 Z)=U (I J t):=cell_of_row HG1 X;have g1:w1.cell? (D w.heap.size 1 Z)=U (Bo false):=cell_of_row HG1 X;have g2:w1.cell? (D w.heap.size 2 Z)=U (Y yd):=cell_of_row HG1 X;have hn1:w.heap.size≠R:=O;go_region_held_law (fun w'=>w'.cell? (D R 0 Z)=U (S a E.s.length c)/\w'.cell? (D w.heap.size 0 Z)=U (I J t)/\w'.cell? (D w.heap.size 1 Z)=U (Bo false)/\w'.cell? (D w.heap.size 2 Z)=U (Y yd)) (first|exact⟨x0,x1,x2,x3⟩|exact⟨y0,y1,y2,y3⟩|exact⟨r0,g0,g1,g2⟩) (first|(go_at_call 202;refine(HDF _ HI1.bel.drew).mono ?_;rintro e w2 ⟨rfl,hb2⟩;have hI2:=(HI1.below (By).drew).below hb2;have hG2:=ax (w:=w1.drew) HG1 hb2;have HI2:=aN hI2;have HG2:=aN hG2;have HF2:Hi (Fr R w w2):=(Fr.of_below HB1.drew).below hb2;have y0:=hI2.r0;have y1:w2.cell? (D w.heap.size 0 Z)=U (I J t):=cell_of_row hG2 X;have y2:w2.cell? (D w.heap.size 1 Z)=U (Bo false):=cell_of_row hG2 X;have y3:w2.cell? (D w.heap.size 2 Z)=U (Y yd):=cell_of_row hG2 X;clear hb2 hI2 hG2)|(go_at_call 162;refine(HAD _ _ _ HI2).mono ?_;rintro e w3 ⟨rfl,hI3,hF3⟩;have hG3:=hF3 _ _ _ hn1 Dc HG2;have HI3:=aN hI3;have HF3:Hi (Fr R w w3):=HF2.trans hF3;have x0:=hI3.r0;have x1:w3.cell? (D w.heap.size 0 Z)=U (I J t):=cell_of_row hG3 X;have x2:w3.cell? (D w.heap.size 1 Z)=U (Bo false):=cell_of_row hG3 X;have x3:w3.cell? (D w.heap.size 2 Z)=U (Y yd):=cell_of_row hG3 X;clear hI3 hF3 hG3));clear x0 x1 x2 x3 y0 y1 y2 y3 r0 g0 g1 g2;go_wp2;go_ret;exact⟨HF3,.inl ⟨_,HE1,X,by rw[HV.out];exact HI3⟩⟩
def lT(E:cw)(x:Nat)(yd:Q)(o':dM):dM:=
 match o' with
 | .error u=> .error u
 | .ok (vs,z)=>if E.d.extract x z=yd then .error (9,x)else .ok (vs,z)
theorem G4(E:cw)(W:M)(R:Nat)(a:Oo Ad)(c gb:Nat)(sn:Sn->Ad)(f:Nat)(hc:PC E W a gb sn)(hN:lD E W R a c gb sn f)(t:Nat)(htl:t<E.s.length)(ko:Bool)(yd:Q)(g:Hd)(x y:Nat)(dp:Int)(o':dM)(tree:Ls Vl)(w:M)(hg:E.hd x y=(0,g))(hrec:dJ E f t x y dp=U o')(hxz:x<=y)(hz:y<=E.d.size)(hd1:1<=dp)(hd2:dp<=13)(hroom:du tree f x y)(hI:gh W w R a E.s.length c gb E.d tree):Cs prog 188 #[Po (U (D R 0 Z)),Ag #[I J t,Bo ko,Y yd],I J dp,dw g x] w fun e w'=>df E W R a c gb sn (lT E x yd o') tree w e w':=by
 have HI:Hi (gh W w R a E.s.length c gb E.d tree):=hI;have hRl:R<w.heap.size:=aw hI.r0;have HC:=aN hc;obtain⟨z,hzf⟩:∃z,z=iH x g:=Ez;have hfi:=ix (E:=E) (x:=x) (y:=y) (by rw[hg]);have hfl:=dZ (E:=E) (x:=x) (y:=y) (by rw[hg]);rw[hg]at hfi hfl;simp only at hfi hfl;rw[<-hzf]at hfi hfl;have hzz:(x:Int)+g.s+g.l=z:=O;have HNV:Hi (∀wq,gh W wq R a E.s.length c gb E.d tree->Cs prog 78 #[Po (U (D R 0 Z)),I J t,I J dp,Ag #[I J g.c,I J g.n,Bo g.b,I J x,I J ((x:Int)+g.s),I J z]] wq fun e w'=>∃ve,e=Rt ve/\df E W R a c gb sn o' tree wq (Rt ve) w'):=fun wq q=>by
  have:=hN t x y g dp o' tree wq hg hrec htl hxz hz hd1 hd2 hroom q;unfold dw at this;rw[hzz]at this;exact this.mono fun e w' qa=>by
   rcases qa.2 with⟨_,_,_,q4,_⟩|⟨_,_,_,_,q4,_⟩
   ·exact⟨_,q4,by rw[<-q4];exact qa⟩
   exact⟨_,q4,by rw[<-q4];exact qa⟩
 have HZO:Hi (∀vs zz,o'= .ok (vs,zz)->zz=z):=fun vs zz q=>by obtain⟨_,h⟩:=gB (by rw[<-q];exact hrec);rw[hg]at h;rw[h];exact hzf.symm
 have hz1:x+2<=z:=O;have hz2:z<=E.d.size:=O;have HAT:Hi (∀wq,Cs prog 60 #[I J x,If 291 (Po (U (sn .Default)))] wq fun e w'=>e=Rt (aX x (sn .Default))/\w'=wq):=fun wq=>fR x _ wq;unfold aX at HAT;have HA:Hi (∀A B,H w.heap.size w ((w.alloc A).alloc B)):=fun A B=>((aY w.heap.size w).alloc Ln A).alloc Sq B;unfold dw;rw[hzz];clear hI hc hN hg hrec hroom hzf hfi hfl hzz hd1 hd2 hxz;go_enter func188,ntmps188;go_wp2_with fail;refine(HNV _ (HI.below (HA _ _))).mono ?_;rintro e w1 ⟨ve,rfl,ha1⟩;have HA1:=aN ha1;have hn1:w.heap.size≠R:=O;have hn2:w.heap.size+1≠R:=O;have hG1:w1.heap[w.heap.size]? =U (C #[I J t,Bo ko,Y yd] 55 (0,0)):=ha1.1 _ _ _ hn1 Dc (ax (aA w _) Be);have hG2:w1.heap[w.heap.size+1]? =U (C #[I J g.c,I J g.n,Bo g.b,I J x,I J ((x:Int)+g.s),I J z] 151 (0,0)):=ha1.1 _ _ _ hn2 Dc (by simpa using aA (w.alloc _) _);have HF1:Hi (Fr R w w1):=(Fr.of_below (HA _ _)).trans ha1.1;have k2:w1.cell? (D w.heap.size 2 Z)=U (Y yd):=cell_of_row hG1 X;have s3:w1.cell? (D (w.heap.size+1) 3 Z)=U (I J x):=cell_of_row hG2 X;have s5:w1.cell? (D (w.heap.size+1) 5 Z)=U (I J z):=cell_of_row hG2 X;have hl1:w.heap.size+1<w1.heap.size:=aw s3;have HG2:=aN hG2;clear ha1 hG1 hG2 HA HNV;rcases HA1.2 with⟨vs,zz,ho',hve,hI1⟩|⟨ke,qe,tr,ho',hve,hI1⟩
 ·obtain rfl:ve= .nilIface:=by injection hve
  have hzz:=HZO vs zz ho';subst hzz;have HO:=aN ho';have HI1:=aN hI1;have d2:w1.cell? (D R 2 Z)=U (Y E.d):=HI1.out.r2;have hR1:R<w1.heap.size:=aw d2;have hq1:(x:Int)<=zz:=O;have hq2:(zz:Int)<=E.d.size:=O;clear ho' hve hI1;by_cases hd:yd.size=0
  ·have hem:=gJ hd;(have hne:E.d.extract x zz≠yd:=fun q=>by(have h1:(E.d.extract x zz).size=yd.size:=by rw[q]);rw[fB]at h1;omega);(have HK:Hi (lT E x yd o'= .ok (vs,zz)):=by show lT E x yd o'=_;rw[HO.out];unfold lT;simp only;rw[G hne]);clear hd hne;go_wp2_with fail;go_quiet (fail);go_wp2;go_ret;exact⟨HF1.below (Go.below_drewN By _),.inl ⟨vs,zz,HK,X,HI1.below (Go.below_drewN By _)⟩⟩
  have hem:=dR (t:=yd) O;by_cases heq:E.d.extract x zz=yd
  ·(have hbe:((E.d.extract x zz).toList==yd.toList)=true:=by rw[heq];simp);(have HK:Hi (lT E x yd o'= .error (9,(x:Int))):=by show lT E x yd o'=_;rw[HO.out];unfold lT;simp only;rw[aG heq]);clear hd heq;go_wp2_with fail;go_quiet (fail);generalize hw2:w1.drewN nq=w2;(have HB2:Hi (H w1.heap.size w1 w2):=by show H w1.heap.size w1 w2;rw[<-hw2];exact Go.below_drewN By _);have HI2:=aN (HI1.below HB2);have t3:w2.cell? (D (w.heap.size+1) 3 Z)=U (I J x):=cell_of_row (ax HG2 HB2) X;have hl2:w.heap.size+1<w2.heap.size:=aw t3;have cD:=(HC.lay.below HI2.bel).s.cDefault;have hgl:=aw cD;simp only at hgl;clear hw2 d2 s3 s5 k2 hR1 hl1;go_wp2_with fail;refine(HAT _).mono ?_;rintro e w3 ⟨rfl,rfl⟩;go_wp2;go_ret;exact⟨HF1.below HB2,.inr ⟨9,x,_,HK,X,HI2⟩⟩
  have hbe:((E.d.extract x zz).toList==yd.toList)=false:=by rw[aD,Lib.toList_data,Lib.toList_data];intro q;exact heq (bC (Array.toList_inj.1 q))
  have HK:Hi (lT E x yd o'= .ok (vs,zz)):=by show lT E x yd o'=_;rw[HO.out];unfold lT;simp only;rw[G heq]
  clear hd heq;go_wp2_with fail;go_quiet (fail);go_wp2;go_ret;exact⟨HF1.below (Go.below_drewN By _),.inl ⟨vs,zz,HK,X,HI1.below (Go.below_drewN By _)⟩⟩
 obtain rfl:ve=aX qe (sn (wM ke)):=by injection hve
 have HK:Hi (lT E x yd o'= .error (ke,qe)):=by show lT E x yd o'=_;rw[ho'];rfl
 have HI1:=aN hI1;unfold aX;clear hve ho' hI1;go_wp2;go_ret;exact⟨HF1,.inr ⟨ke,qe,tr,HK,X,HI1⟩⟩
theorem be.drop{w:M}{b o:Nat}{ks:Ls Kd}(h:be w (U (D b o Z)) ks)(m:Nat):be w (U (D b (o+m*3) Z)) (ks.drop m):=fun j hj=>by
 rw[di]at hj;obtain⟨b',o',e,hk⟩:=h (m+j) O;injection e with e;injection e with e1 e2;subst e1 e2;refine⟨b,o+m*3,X,?_⟩;have e3:(ks.drop m).getD j j6=ks.getD (m+j) j6:=by rw[aB,dX,<-aB]
 rw[e3,show o+m*3+j*3=o+(m+j)*3 by omega];exact hk
def Ic(E:cw)(W:M)(R:Nat)(a:Oo Ad)(c gb f:Nat)(tz:Nat)(dp:Int)(n:Nat)(o:dM)(tree:Ls Vl)(x x':Nat)(ks:Ls Kd)(wq:M):Prop:=
 ∃acc:Ls Vl,de E (dJ E f) tz (dp+1) ks x' acc=U o/\gh W wq R a E.s.length c gb E.d (tree++⟨10,⟨#[]⟩,0,(n:Int)⟩::acc)/\acc.length+ks.length<=8+100*(x'-x)
def Iu(E:cw)(W:M)(i:Nat)(vk:Vv)(ks:Ls Kd):Prop:=∃va kc,vk=S va ks.length kc/\ks.length<=kc/\be W va ks/\∀k∈ks,k∈(nd E.s i).kids
def GL(n tz:Nat)(v:dM):dM:=
 match v with
 | .error e=> .error e
 | .ok (vs,_)=> .ok (⟨10,bh,0,n⟩::vs,tz)
theorem yZ{E:cw}{rec:im}{tz:Nat}{dp:Int}{k:Kd}{ks:Ls Kd}{x:Nat}{acc:Ls Vl}{o:dM}(e:de E rec tz dp (k::ks) x acc=U o)(hx:x<tz)(hh:(E.hd x tz).1=0)(hb:E.bg k.node.toNat (E.hd x tz).2.c (E.hd x tz).2.n=true):∃o',rec k.node.toNat x tz dp=U o'/\((∃u,lT E x k.dflt o'= .error u/\o= .error u)\/∃vs z,lT E x k.dflt o'= .ok (vs,z)/\o'= .ok (vs,z)/\de E rec tz dp ks z (acc++vs)=U o):=by
 unfold de at e;rw[G (fun q=>q.2 hh),aG ⟨hx,hb⟩]at e;rcases bJ e with⟨u,h1,rfl⟩|⟨vs,z,h1,h2⟩
 ·exact⟨_,h1,.inl ⟨u,X,X⟩⟩
 refine⟨_,h1,?_⟩;split at h2
 ·rename_i q;cases h2;exact .inl ⟨_,by unfold lT;simp only;rw[aG q],X⟩
 rename_i q;exact .inr ⟨vs,z,by unfold lT;simp only;rw[G q],X,h2⟩
theorem tE{E:cw}{rec:im}{tz:Nat}{dp:Int}{k:Kd}{ks:Ls Kd}{x:Nat}{acc:Ls Vl}{o:dM}(e:de E rec tz dp (k::ks) x acc=U o)(h:tz<=x\/(x<tz/\(E.hd x tz).1=0/\E.bg k.node.toNat (E.hd x tz).2.c (E.hd x tz).2.n=false)):(∃v,gV E k=U v/\de E rec tz dp ks x (acc++[v])=U o)\/(gV E k=Z/\o= .error (if x<tz then 4 else 3,(x:Int))):=by
 unfold de at e;have h1:¬(x<tz/\(E.hd x tz).1≠0):=by
  rcases h with q|⟨q1,q2,q3⟩
  ·omega
  exact fun r=>r.2 q2
 have h2:¬(x<tz/\E.bg k.node.toNat (E.hd x tz).2.c (E.hd x tz).2.n=true):=by
  rcases h with q|⟨q1,q2,q3⟩
  ·omega
  exact fun r=>by rw[q3]at r;exact Ab r.2 Dc
 rw[G h1,G h2]at e;unfold gV;split at e
 ·rename_i q;left;rw[aG q];exact⟨_,X,e⟩
 rename_i q;rw[G q];split at e
 ·rename_i q2;left;rw[aG q2];exact⟨_,X,e⟩
 rename_i q2;right;rw[G q2];refine⟨X,?_⟩;split at e
 ·rename_i q3;rw[aG q3];exact(aK e).symm
 rename_i q3;rw[G q3];exact(aK e).symm
theorem sl{E:cw}{rec:im}{tz:Nat}{dp:Int}{ks:Ls Kd}{x:Nat}{acc:Ls Vl}{o:dM}(e:de E rec tz dp ks x acc=U o)(hk:0<ks.length)(hx:x<tz)(hh:(E.hd x tz).1≠0):o= .error ((E.hd x tz).1,(x:Int)):=by
 cases ks with
 |nil=>simp at hk
 |cons k ks=>unfold de at e;rw[aG ⟨hx,hh⟩]at e;exact(aK e).symm
theorem sF(ks:Ls Kd){j:Nat}(hj:j<ks.length):ks.drop j=ks.getD j j6::ks.drop (j+1):=by rw[fI hj,aB,aC hj];rfl
set_option maxHeartbeats 16000000 in
theorem Hm(E:cw)(W:M)(R:Nat)(a:Oo Ad)(c gb:Nat)(sn:Sn->Ad)(f:Nat)(hc:PC E W a gb sn)(hdv:j0 E)(hN:lD E W R a c gb sn f)(i:Nat)(hi:i<E.s.length)(ka:Oo Ad)(kc:Nat)(hka:be W ka (nd E.s i).kids)(hkc:(nd E.s i).kids.length<=kc)(g:Hd)(x0 x tz:Nat)(dp:Int)(o:dM)(tree:Ls Vl)(w:M)(hx0:(x:Int)=(x0:Int)+g.s)(htz:(tz:Int)=(x0:Int)+g.s+g.l)(hm:de E (dJ E f) tz (dp+1) (nd E.s i).kids x []=U o)(hxz:x<=tz)(hz:tz<=E.d.size)(hd1:1<=dp)(hd2:dp<=12)(hroom:du tree (f+1) x tz)(hI:gh W w R a E.s.length c gb E.d tree):Cs prog 160 #[Po (U (D R 0 Z)),Ag (fe (nd E.s i) ka kc),I J dp,dw g x0] w fun e w'=>df E W R a c gb sn (GL (nd E.s i).kids.length tz o) tree w e w':=by
 have HC:Hi (PC E W a gb sn):=hc;have HDV:=aN hdv;have HN:Hi (lD E W R a c gb sn f):=hN;have HI:Hi (gh W w R a E.s.length c gb E.d tree):=hI;have hRl:R<w.heap.size:=aw hI.r0;have HRO:Hi (du tree (f+1) x tz):=hroom;have hk8:=hc.right.fine.eight i hi;have hs40:=hc.right.fine.len;have HKI:=aN hka;have HM:=aN hm;have hl0:tree.length<=1099511627776:=by unfold du at hroom;omega
 have hds:=hc.size;have HAT:Hi (∀(x':Nat) (s:Sn) wq,Cs prog 60 #[I J x',If 291 (Po (U (sn s)))] wq fun e w'=>e=Rt (aX x' (sn s))/\w'=wq):=fun x' s wq=>fR x' _ wq;unfold aX at HAT;have HA:Hi (∀A B,H w.heap.size w ((w.alloc A).alloc B)):=fun A B=>((aY w.heap.size w).alloc Ln A).alloc Sq B;unfold dw fe;rw[<-htz,<-hx0];clear hc hdv hN hka hm hI hroom hx0 htz;go_enter func160,ntmps160;go_wp2;go_step3;go_wp2_with fail;refine(me W _ R a E.s.length c gb E.d tree 10 ⟨#[]⟩ 0 (nd E.s i).kids.length (HI.below (HA _ _)) hl0).mono ?_;rintro e w1 ⟨rfl,hI1,hf1⟩;have HI1:Hi (gh W w1 R a E.s.length c gb E.d (tree++[⟨10,⟨#[]⟩,0,((nd E.s i).kids.length:Int)⟩])):=hI1;have HF1:Hi (Fr R w w1):=(Fr.of_below (HA _ _)).trans hf1;have hn1:w.heap.size≠R:=O;have hn2:w.heap.size+1≠R:=O;have HN1:Hi (w1.heap[w.heap.size]? =U (C #[I J (nd E.s i).kind,I J (nd E.s i).tag,I J (nd E.s i).mode,S ka (nd E.s i).kids.length kc] 58 (0,0))):=hf1 _ _ _ hn1 Dc (ax (aA w _) Be);have HN2:Hi (w1.heap[w.heap.size+1]? =U (C #[I J g.c,I J g.n,Bo g.b,I J x0,I J x,I J tz] 151 (0,0))):=hf1 _ _ _ hn2 Dc (by simpa using aA (w.alloc _) _);have s4:w1.cell? (D (w.heap.size+1) 4 Z)=U (I J x):=cell_of_row HN2 X;have m3:w1.cell? (D w.heap.size 3 Z)=U (S ka (nd E.s i).kids.length kc):=cell_of_row HN1 X;have hl2:w.heap.size+1<w1.heap.size:=aw s4;clear hI1 hf1;go_wp2_with fail;go_quiet (fail);generalize hw2:w1.drewN nq=w2;have HB2:Hi (H w1.heap.size w1 w2):=by show H w1.heap.size w1 w2;rw[<-hw2];exact Go.below_drewN By _
 have HI2:=aN (HI1.below HB2);have HF2:Hi (Fr R w w2):=HF1.below HB2;have HN12:=aN (ax HN1 HB2);have HN22:=aN (ax HN2 HB2);clear hw2 s4 m3 hl2;go_wp2;go_step3;go_wp2;go_loopg [9,10] (nd E.s i).kids.length (fun gk vp vk wq=>∃(x':Nat) (ks:Ls Kd),vp=I J x'/\ks.length<=gk/\Iu E W i vk ks/\x<=x'/\x'<=tz/\Fr R w wq/\wq.heap[w.heap.size+1]? =U (C #[I J g.c,I J g.n,Bo g.b,I J x0,I J x,I J tz] 151 (0,0))/\Ic E W R a c gb f tz dp (nd E.s i).kids.length o tree x x' ks wq);case atStart=>exact⟨x,(nd E.s i).kids,X,Ln,⟨ka,kc,X,hkc,HKI,fun _ h=>h⟩,Ln,hxz,HF2,HN22,⟨[],HM,HI2,So⟩⟩
 obtain⟨ag,rfl⟩:∃ag,ag=gk:=⟨_,X⟩;obtain⟨x',ks,rfl,hgk,hks,hx1,hx2,hfr,hb2,hrun⟩:=hrel;obtain⟨va,kcc,rfl,hkl,hkin,hkm⟩:=hks;have HFR:=aN hfr;have HX2:=aN hb2;obtain⟨acc,hmm,hIr,hacc⟩:=hrun;have HMM:=aN hmm;have HIR:=aN hIr;have HKIN:=aN hkin;have HKM:=aN hkm;have s5:wr.cell? (D (w.heap.size+1) 5 Z)=U (I J tz):=cell_of_row hb2 X;have hl5:w.heap.size+1<wr.heap.size:=aw s5;have hRr:R<wr.heap.size:=aw hIr.r0;clear hmm hIr hfr hb2 hkin hkm;by_cases hlt:x'<tz/\0<ks.length
 ·obtain⟨hlt,hk0⟩:=hlt;have hlt':decide ((x':Int)<tz)=true:=So;have hk0':decide ((0:Int)<ks.length)=true:=So;have HOP:=aN (ml W wr R a E.s.length c gb E.d _ x' tz sn HIR (HC.lay.below HIR.bel).s O hz O);go_wp2_with fail;refine HOP.mono ?_;rintro e w4 ⟨hb4,h4⟩;have HB4:=aN hb4;clear HOP hb4;rcases h4 with⟨h40,rfl⟩|⟨h40,rfl⟩
  ·obtain⟨h,hh⟩:∃h,(hd (E.d.extract x' tz)).2=h:=Ey;(have HHD:Hi (E.hd x' tz=(0,h)):=by show E.hd x' tz=(0,h);unfold cw.hd;rw[<-h40,<-hh]);rw[hh];clear h40 hh;obtain⟨z,hzf⟩:∃z,z=iH x' h:=Ez;have hfi:=ix (E:=E) (x:=x') (y:=tz) (by rw[HHD.out]);have hfl:=dZ (E:=E) (x:=x') (y:=tz) (by rw[HHD.out]);rw[HHD.out]at hfi hfl;simp only at hfi hfl;rw[<-hzf]at hfi hfl;have hzz:(x':Int)+h.s+h.l=z:=O;have HZZ:=aN hzz;have HZF:=aN hzf;have hz1:x'+2<=z:=O;have hz2:z<=tz:=O;unfold dw;rw[hzz];clear hzf hfi hfl hzz hlt' hk0' s5;go_wp2;generalize hW5:w4.alloc (C #[I J h.c,I J h.n,Bo h.b,I J x',I J ((x':Int)+h.s),I J z] 151)=w5;(have HB5:Hi (H wr.heap.size wr w5):=by show H wr.heap.size wr w5;rw[<-hW5];exact HB4.alloc HB4.size _);(have HS5:Hi (w5.heap[w4.heap.size]? =U (C #[I J h.c,I J h.n,Bo h.b,I J x',I J ((x':Int)+h.s),I J z] 151 (0,0))):=by show w5.heap[w4.heap.size]? =_;rw[<-hW5];exact aA w4 _);have HI5:=aN (HIR.below HB5);have HX5:=aN (ax HX2 HB5);have HF5:Hi (Fr R w w5):=HFR.below HB5;obtain⟨b3,hb3⟩:∃b3,w4.heap.size=b3:=Ey;rw[hb3]at HS5 ⊢;(have hb3w:wr.heap.size<=b3:=by rw[<-hb3];exact HB4.size);have hb3R:b3≠R:=O;clear hW5 hb3;go_loopg [9,10,50] ks.length (fun gi vp vk vj wq=>∃j:Nat,vp=I J x'/\vk=S va ks.length kcc/\vj=I J j/\gi+j=ks.length/\Fr R w wq/\wq.heap[w.heap.size+1]? =U (C #[I J g.c,I J g.n,Bo g.b,I J x0,I J x,I J tz] 151 (0,0))/\wq.heap[b3]? =U (C #[I J h.c,I J h.n,Bo h.b,I J x',I J ((x':Int)+h.s),I J z] 151 (0,0))/\∃acc':Ls Vl,de E (dJ E f) tz (dp+1) (ks.drop j) x' acc'=U o/\gh W wq R a E.s.length c gb E.d (tree++⟨10,⟨#[]⟩,0,((nd E.s i).kids.length:Int)⟩::acc')/\acc'.length+(ks.length-j)<=8+100*(x'-x));case atStart=>exact⟨0,X,X,X,O,HF5,HX5,HS5,acc,HMM,HI5,O⟩
   obtain⟨j,rfl,rfl,rfl,hgj,hfr,hbx,hb3x,acc',hmj,hIj,haj⟩:=hrel;have HFj:=aN hfr;have HXj:=aN hbx;have HSj:=aN hb3x;have HMJ:=aN hmj;have HIj:=aN hIj;have hRj:R<wr.heap.size:=aw hIj.r0;have hb3l:b3<wr.heap.size:=bm hb3x;clear hfr hbx hb3x hmj hIj;by_cases hj:j<ks.length
   ·have hj':(j:Int)<ks.length:=O;obtain⟨kb,kof,rfl,kcl⟩:=HKIN j hj;obtain⟨k,hk⟩:∃k,ks.getD j j6=k:=Ey;have hmem:k∈(nd E.s i).kids:=HKM k (by rw[<-hk,aB,aC hj];exact bz hj);have hwt:=HC.right.fine.within i hi k hmem;obtain⟨t,ht⟩:∃t:Nat,k.node=t:=⟨k.node.toNat,O⟩;have htl:t<E.s.length:=O;have htn:k.node.toNat=t:=O;rw[hk]at kcl;obtain⟨k1,k2,k3⟩:=kcl.below HIj.bel;rw[ht]at k1;(have HLO:Hi (∀wq,gh W wq R a E.s.length c gb E.d (tree++⟨10,⟨#[]⟩,0,((nd E.s i).kids.length:Int)⟩::acc')->Cs prog 189 #[Po (U (D R 0 Z)),Ag #[I J t,Bo k.opt,Y k.dflt]] wq fun e w'=>wZ E W R a c gb (gV E k) (tree++⟨10,⟨#[]⟩,0,((nd E.s i).kids.length:Int)⟩::acc') wq e w'):=fun wq q=>by have:=qP E W R a c gb sn HC.out HDV.out i hi k hmem (tree++⟨10,⟨#[]⟩,0,((nd E.s i).kids.length:Int)⟩::acc') wq (by have:=HRO.out;unfold du at this;simp only[aQ,aU];omega) q;rw[ht]at this;exact this);have hmj:=HMJ.out;rw[sF ks hj,hk]at hmj;have HMK:=aN hmj;have hkbl:kb<wr.heap.size:=aw k1;(have HRO2:Hi (du (tree++⟨10,⟨#[]⟩,0,((nd E.s i).kids.length:Int)⟩::acc') f x' tz):=by show du _ _ _ _;have:=HRO.out;unfold du at this ⊢;simp only[aQ,aU];omega);have HTN:=aN htn;obtain⟨ko2,hko2⟩:∃b,k.opt=b:=Ey;obtain⟨kd2,hkd2⟩:∃b,k.dflt=b:=Ey;rw[hko2]at k2 HLO;rw[hkd2]at k3 HLO;have HKD2:=aN hkd2;clear kcl ht htn hmj hwt hmem hko2 hkd2 hk;go_upto_region 10 with fail;generalize hW6:wr.alloc (C #[I J t,Bo ko2,Y kd2] 55)=w6;(have HB6:Hi (H wr.heap.size wr w6):=by show H wr.heap.size wr w6;rw[<-hW6];exact Be);(have HK6:Hi (w6.heap[wr.heap.size]? =U (C #[I J t,Bo ko2,Y kd2] 55 (0,0))):=by show w6.heap[wr.heap.size]? =_;rw[<-hW6];exact aA wr _);have HS6:=aN (ax HSj HB6);have HI6:=aN (HIj.below HB6);clear hW6 k1 k2 k3;have HBG:Hi (∀x:b7 w6,Cs prog 187 #[S (U (D gb 0 Z)) E.s.length E.s.length,I J t,Ag #[I J h.c,I J h.n]] x.v fun e w''=>e=Rt (Bo (E.bg t h.c h.n))/\∃y:b7 w6,w''=y.v):=fun x=>b7.callsR (HC.bg t htl h.c h.n) (zK E.s gb t h.c h.n x.v (HC.ab.below (HI6.bel.trans (x.h.mono HI6.bel.size))) htl hs40);have X0:∀x:b7 w6,x.v.cell? (D R 1 Z)=U (S (U (D gb 0 Z)) E.s.length E.s.length):=fun x=>x.cell HI6.r1;have X2:∀x:b7 w6,x.v.cell? (D wr.heap.size 0 Z)=U (I J t):=fun x=>x.cell (cell_of_row HK6 X);have X3:∀y:b7 w6,y.v.cell? (D b3 0 Z)=U (I J h.c):=fun y=>y.cell (cell_of_row HS6 X);have X4:∀y:b7 w6,y.v.cell? (D b3 1 Z)=U (I J h.n):=fun y=>y.cell (cell_of_row HS6 X);(have ne:=eX;refine bP Kr Kr ?_;(repeat(first|go_big_quiet_skip|(go_big_quiet_want;go_big_quiet_op;first|go_big_quiet_on|(apply Exists.intro;refine⟨fun x=>?_,?_⟩;(·(exact HBG x));go_big_quiet_on))));refine dW ?_);intro w7 hb7;have HB7:Hi (H wr.heap.size wr w7):=HB6.trans (hb7.mono HB6.size);have HI7:=aN (HI6.below hb7);have HF7:Hi (Fr R w w7):=HFj.below HB7;have HK7:=aN (ax HK6 hb7);have HS7:=aN (ax HS6 hb7);have HX7:=aN (ax HXj HB7);have hne1:wr.heap.size≠R:=O;have y0:w7.cell? (D wr.heap.size 0 Z)=U (I J t):=cell_of_row HK7 X;have y1:w7.cell? (D wr.heap.size 1 Z)=U (Bo ko2):=cell_of_row HK7 X;have y2:w7.cell? (D wr.heap.size 2 Z)=U (Y kd2):=cell_of_row HK7 X;have hkl7:wr.heap.size<w7.heap.size:=aw y0;clear X0 X2 X3 X4 hb7 HBG HB6 HK6 HS6 HI6;cases hbg:E.bg t h.c h.n
    ·have HL:=aN (tE HMK (.inr ⟨hlt,by rw[HHD.out],by rw[HHD,HTN.out];exact hbg⟩));clear hbg;go_wp2_with fail;refine(HLO _ HI7).mono ?_;rintro e w8 ⟨hF8,h8⟩;have HF8:Hi (Fr R w w8):=HF7.trans hF8;have HX8:=aN (hF8 _ _ _ hn2 Dc HX7);have HS8:=aN (hF8 _ _ _ hb3R Dc HS7);clear hF8;rcases h8 with⟨v,hv,rfl,hI8⟩|⟨hv,rfl,hI8⟩
     ·have HI8:=aN hI8;have HNX:Hi (de E (dJ E f) tz (dp+1) (ks.drop (j+1)) x' (acc'++[v])=U o):=by
       rcases HL with⟨v',q1,q2⟩|⟨q1,_⟩
       ·rw[hv]at q1;injection q1 with q1;subst q1;exact q2
       rw[hv]at q1;cases q1
      clear hI8 hv;go_wp2;go_roundg (gk-1);case measure=>omega
      case rel=>exact⟨j+1,X,X,Gn,O,HF8.out,HX8.out,HS8.out,acc'++[v],HNX.out,by have:=HI8.out;simpa using this,by simp only[aQ,aU,bD];omega⟩
     have HI8:=aN hI8;have HOE:Hi (o= .error (4,(x':Int))):=by
      rcases HL with⟨v',q1,q2⟩|⟨q1,q2⟩
      ·rw[hv]at q1;cases q1
      show o=_;rw[q2,aG hlt]
     have cT:=(HC.lay.below HI8.bel).s.cTag;have hgl:=aw cT;simp only at hgl;clear hI8 hv y0 y1 y2 hkl7;go_wp2_with fail;refine(HAT x' .Tag _).mono ?_;rintro e w9 ⟨rfl,rfl⟩;go_wp2;(try rw[jL]);go_ret;exact⟨HF8,.inr ⟨4,x',_,by rw[HOE.out];rfl,X,HI8⟩⟩
    obtain⟨o',hr,ho⟩:=yZ HMK hlt (by rw[HHD.out]) (by rw[HHD,HTN.out];exact hbg);rw[HTN.out]at hr;rw[HKD2.out]at ho;have HREC:=aN hr;have HO:=aN ho;have HKV:Hi (∀wq,gh W wq R a E.s.length c gb E.d (tree++⟨10,⟨#[]⟩,0,((nd E.s i).kids.length:Int)⟩::acc')->Cs prog 188 #[Po (U (D R 0 Z)),Ag #[I J t,Bo ko2,Y kd2],I J (dp+1),Ag #[I J h.c,I J h.n,Bo h.b,I J x',I J ((x':Int)+h.s),I J z]] wq fun e w'=>∃ve,e=Rt ve/\df E W R a c gb sn (lT E x' kd2 o') (tree++⟨10,⟨#[]⟩,0,((nd E.s i).kids.length:Int)⟩::acc') wq (Rt ve) w'):=fun wq q=>by
     have:=G4 E W R a c gb sn f HC HN t htl ko2 kd2 h x' tz (dp+1) o' (tree++⟨10,⟨#[]⟩,0,((nd E.s i).kids.length:Int)⟩::acc') wq HHD HREC O hz O O HRO2 q;unfold dw at this;rw[HZZ.out]at this;exact this.mono fun e w' qa=>by
      rcases qa.2 with⟨_,_,_,q4,_⟩|⟨_,_,_,_,q4,_⟩
      ·exact⟨_,q4,by rw[<-q4];exact qa⟩
      exact⟨_,q4,by rw[<-q4];exact qa⟩
    have t0:w7.cell? (D b3 0 Z)=U (I J h.c):=cell_of_row HS7 X;have t1:w7.cell? (D b3 1 Z)=U (I J h.n):=cell_of_row HS7 X;have t2:w7.cell? (D b3 2 Z)=U (Bo h.b):=cell_of_row HS7 X;have t3:w7.cell? (D b3 3 Z)=U (I J x'):=cell_of_row HS7 X;have t4:w7.cell? (D b3 4 Z)=U (I J ((x':Int)+h.s)):=cell_of_row HS7 X;have t5:w7.cell? (D b3 5 Z)=U (I J z):=cell_of_row HS7 X;have hb37:b3<w7.heap.size:=aw t0;clear hbg hr ho;go_wp2_with fail;refine(HKV _ HI7).mono ?_;rintro e w8 ⟨ve,rfl,ha8⟩;have HA8:=aN ha8;have HF8:Hi (Fr R w w8):=HF7.trans ha8.1;have HX8:=aN (ha8.1 _ _ _ hn2 Dc HX7);have HS8:=aN (ha8.1 _ _ _ hb3R Dc HS7);clear ha8 y0 y1 y2 t0 t1 t2 t3 t4 t5 hb37 hkl7;rcases HA8.2 with⟨vs,zz,ho',hve,hI8⟩|⟨ke,qe,tr,ho',hve,hI8⟩
    ·(obtain rfl:ve= .nilIface:=by injection hve);have HI8:=aN hI8;have hnx:zz=z/\vs.length<=100*(z-x')/\de E (dJ E f) tz (dp+1) (ks.drop (j+1)) zz (acc'++vs)=U o:=by
      rcases HO with⟨u,q1,_⟩|⟨vs',z',q1,q2,q3⟩
      ·rw[ho']at q1;cases q1
      rw[ho']at q1;cases q1;obtain⟨_,hzq⟩:=gB (by rw[<-q2];exact HREC);rw[HHD.out]at hzq;(have e1:zz=z:=by rw[hzq];exact HZF.symm);have hlen:=iC HC.right.fine htl (by rw[<-q2];exact HREC);exact⟨e1,O,q3⟩
     obtain⟨rfl,hvl,hsq⟩:=hnx;have HSQ:=aN hsq;have e5:w8.cell? (D b3 5 Z)=U (I J zz):=cell_of_row HS8 X;have hb38:b3<w8.heap.size:=aw e5;clear hve ho' hI8 hsq;have hwr:IntKind.i64.wrap ((j:Int)+1)=(j:Int)+1:=ik _ O O;have hj1:(j:Int)+1<=ks.length:=O;have hkl':(ks.length:Int)<=kcc:=O;go_wp2_with fail;go_quiet (fail);generalize hw9:w8.drewN nq=w9;(have HB9:Hi (H w8.heap.size w8 w9):=by show H w8.heap.size w8 w9;rw[<-hw9];exact Go.below_drewN By _);have HI9:=aN (HI8.below HB9);have HX9:=aN (ax HX8 HB9);have HF9:Hi (Fr R w w9):=HF8.below HB9;clear hw9 e5 hb38 hwr;have hdl:(ks.drop (j+1)).length=ks.length-(j+1):=di;have HDL:=aN hdl;(have HIX:Hi (gh W w9 R a E.s.length c gb E.d (tree++⟨10,⟨#[]⟩,0,((nd E.s i).kids.length:Int)⟩::(acc'++vs))):=by(have q:gh W w9 R a E.s.length c gb E.d (tree++⟨10,⟨#[]⟩,0,((nd E.s i).kids.length:Int)⟩::(acc'++vs)):=by have:=HI9.out;simpa using this);exact q);clear hdl;go_wp2;all_goals
      go_roundg (ag-1);case measure=>omega
      have hdl:=HDL.out;refine⟨zz,ks.drop (j+1),X,O,⟨_,_,by rw[hdl],O,?_,fun k hk=>HKM k (su hk)⟩,O,O,HF9,HX9,⟨acc'++vs,HSQ,HIX,by rw[hdl];simp only[aQ];omega⟩⟩
      first
       |exact fun q hq=>Ab hq O
       |exact HKIN.drop (j+1)
       |(have:=HKIN.drop (j+1);rw[Nat.mul_comm]at this;exact this)
    (obtain rfl:ve=aX qe (sn (wM ke)):=by injection hve);have HOE:Hi (o= .error (ke,qe)):=by
     rcases HO with⟨u,q1,q2⟩|⟨vs',z',q1,_⟩
     ·rw[ho']at q1;injection q1 with q1;show o=_;rw[q2,<-q1]
     rw[ho']at q1;cases q1
    have HI8:=aN hI8;unfold aX;clear hve ho' hI8;go_wp2;(try rw[jL]);go_ret;exact⟨HF8,.inr ⟨ke,qe,tr,by rw[HOE.out];rfl,X,HI8⟩⟩
   have hj':¬(j:Int)<ks.length:=O;(have HNX:Hi (de E (dJ E f) tz (dp+1) [] x' acc'=U o):=by have q:=HMJ.out;rw[eA O]at q;exact q);go_wp2;go_roundg (ag-1);case measure=>omega
   case rel=>exact⟨x',[],X,Sq,⟨Z,0,X,Ln,fun j hj=>Ab hj (aO _),fun k hk=>by cases hk⟩,hx1,hx2,HFj,HXj,⟨acc',HNX,HIj,So⟩⟩
  have he:=lP (t:=E.d.extract x' tz) x' sn h40;have HO2:Hi (o= .error ((hd (E.d.extract x' tz)).1,(x':Int))):=sl HMM hk0 hlt h40;generalize(hd (E.d.extract x' tz)).1=k at he HO2;rw[he];unfold rp aX;clear he h40;go_wp2;try rw[jL]
  go_ret;refine⟨HFR.trans (Fr.of_below (HB4.alloc HB4.size _)),.inr ⟨k,x',_,by rw[HO2.out];rfl,X,HIR.below (HB4.alloc HB4.size _)⟩⟩
 by_cases hlt2:x'<tz
 ·have hks0:ks=[]:=List.length_eq_zero_iff.1 O;subst hks0;have hlt':decide ((x':Int)<tz)=true:=So;have hlt'':(x':Int)<tz:=O;have HOE:Hi (o= .error (7,(x':Int))):=by have q:=HMM.out;unfold de at q;rw[aG hlt2]at q;exact(aK q).symm
  have cM:=(HC.lay.below HIR.bel).s.cMore;have hgl:=aw cM;simp only at hgl;clear hlt;simp only[bD]at hacc hgk ⊢;go_wp2_with fail;refine(HAT x' .More _).mono ?_;rintro e w9 ⟨rfl,rfl⟩;go_wp2;try rw[jL]
  go_ret;exact⟨HFR,.inr ⟨7,x',_,by rw[HOE.out];rfl,X,HIR⟩⟩
 have hlt':decide ((x':Int)<tz)=false:=So;have hlt'':¬(x':Int)<tz:=O;clear hlt;go_wp2;go_loopw [97] (fun vj wq=>∃j:Nat,vj=I J j/\j<=ks.length/\Fr R w wq/\∃acc':Ls Vl,de E (dJ E f) tz (dp+1) (ks.drop j) x' acc'=U o/\gh W wq R a E.s.length c gb E.d (tree++⟨10,⟨#[]⟩,0,((nd E.s i).kids.length:Int)⟩::acc')/\acc'.length+(ks.length-j)<=8+100*(x'-x)) (fun vj _=>ks.length-(Io vj).toNat);case atStart=>exact⟨0,X,Lz,HFR,acc,HMM,HIR,O⟩
 obtain⟨j,rfl,hjl,hfr,acc',hmj,hIj,haj⟩:=hrel;have HFj:=aN hfr;have HMJ:=aN hmj;have HIj:=aN hIj;have hRj:R<wr.heap.size:=aw hIj.r0;clear hfr hmj hIj;by_cases hj:j<ks.length
 ·have hj':(j:Int)<ks.length:=O;obtain⟨kb,kof,rfl,kcl⟩:=HKIN j hj;obtain⟨k,hk⟩:∃k,ks.getD j j6=k:=Ey;have hmem:k∈(nd E.s i).kids:=HKM k (by rw[<-hk,aB,aC hj];exact bz hj);have hwt:=HC.right.fine.within i hi k hmem;obtain⟨t,ht⟩:∃t:Nat,k.node=t:=⟨k.node.toNat,O⟩;rw[hk]at kcl;obtain⟨k1,k2,k3⟩:=kcl.below HIj.bel;rw[ht]at k1;have HLO:Hi (∀wq,gh W wq R a E.s.length c gb E.d (tree++⟨10,⟨#[]⟩,0,((nd E.s i).kids.length:Int)⟩::acc')->Cs prog 189 #[Po (U (D R 0 Z)),Ag #[I J t,Bo k.opt,Y k.dflt]] wq fun e w'=>wZ E W R a c gb (gV E k) (tree++⟨10,⟨#[]⟩,0,((nd E.s i).kids.length:Int)⟩::acc') wq e w'):=fun wq q=>by have:=qP E W R a c gb sn HC.out HDV.out i hi k hmem (tree++⟨10,⟨#[]⟩,0,((nd E.s i).kids.length:Int)⟩::acc') wq (by have:=HRO.out;unfold du at this;simp only[aQ,aU];omega) q;rw[ht]at this;exact this
  have hmj:=HMJ.out;rw[sF ks hj,hk]at hmj;have HL:=aN (tE hmj (.inl O));have hkbl:kb<wr.heap.size:=aw k1;obtain⟨ko2,hko2⟩:∃b,k.opt=b:=Ey;obtain⟨kd2,hkd2⟩:∃b,k.dflt=b:=Ey;rw[hko2]at k2 HLO;rw[hkd2]at k3 HLO;have HBA:Hi (∀o,H wr.heap.size wr (wr.alloc o)):=fun o=>(By).alloc Ln o;clear kcl ht hmj hwt hmem hko2 hkd2 hk;go_wp2_with fail;refine(HLO _ (HIj.below (HBA _))).mono ?_;rintro e w8 ⟨hF8,h8⟩;have HF8:Hi (Fr R w w8):=(HFj.below (HBA _)).trans hF8;clear hF8 k1 k2 k3;rcases h8 with⟨v,hv,rfl,hI8⟩|⟨hv,rfl,hI8⟩
  ·have HI8:=aN hI8;have HNX:Hi (de E (dJ E f) tz (dp+1) (ks.drop (j+1)) x' (acc'++[v])=U o):=by
    rcases HL with⟨v',q1,q2⟩|⟨q1,_⟩
    ·rw[hv]at q1;injection q1 with q1;subst q1;exact q2
    rw[hv]at q1;cases q1
   clear hI8 hv;go_wp2;go_roundw;case rel=>exact⟨j+1,Gn,O,HF8.out,acc'++[v],HNX.out,by have:=HI8.out;simpa using this,by simp only[aQ,aU,bD];omega⟩
   case measure=>exact Ms
  have HI8:=aN hI8;have HOE:Hi (o= .error (3,(x':Int))):=by
   rcases HL with⟨v',q1,q2⟩|⟨q1,q2⟩
   ·rw[hv]at q1;cases q1
   show o=_;rw[q2,G hlt2]
  have cE:=(HC.lay.below HI8.bel).s.cEnd;have hgl:=aw cE;simp only at hgl;clear hI8 hv;go_wp2_with fail;refine(HAT x' .End _).mono ?_;rintro e w9 ⟨rfl,rfl⟩;go_wp2;try rw[jL]
  go_ret;exact⟨HF8,.inr ⟨3,x',_,by rw[HOE.out];rfl,X,HI8⟩⟩
 have hj':¬(j:Int)<ks.length:=O;have HOK:Hi (o= .ok (acc',x')):=by have q:=HMJ.out;rw[eA O]at q;unfold de at q;rw[G hlt2]at q;exact(aK q).symm
 go_wp2;try rw[jL]
 go_ret;exact⟨HFj,.inl ⟨_,_,by rw[HOK.out];rfl,X,HIj⟩⟩
end Go.Proofs.YtkkicodfpekbgaaGreatDoor
namespace Go.Proofs.YtkkicodfpekbgaaGreatDoor
open Go.RowKit

end Go.Proofs.YtkkicodfpekbgaaGreatDoor
namespace Go.Proofs.YtkkicodfpekbgaaGreatDoor
open Go.Proofs.Tryz
open Go.RowKit
theorem AB{E:cw}{rec:im}{m:Nat}{n:Nd}{cl nu:Int}{h:Hd}{x tz:Nat}{dp:Int}{o:dM}(e:cF E rec m n cl nu h x tz dp=U o)(h13:n.kind≠13)(h14:n.kind≠14)(hq:¬(h.c=cl/\h.n=nu/\h.b=decide (10<=n.kind/\n.kind<=12))):o= .error (4,(x:Int)):=by
 unfold cF at e;rw[G h13,aG ⟨h14,hq⟩]at e;exact(aK e).symm
theorem xN{E:cw}{rec:im}{m:Nat}{n:Nd}{cl nu:Int}{h:Hd}{x tz:Nat}{dp:Int}{o:dM}(e:cF E rec m n cl nu h x tz dp=U o)(h13:n.kind≠13)(hq:¬(n.kind≠14/\¬(h.c=cl/\h.n=nu/\h.b=decide (10<=n.kind/\n.kind<=12))))(hd:12<dp):o= .error (10,(x:Int)):=by
 unfold cF at e;rw[G h13,G hq,aG hd]at e;exact(aK e).symm
theorem AA{E:cw}{rec:im}{m:Nat}{n:Nd}{cl nu:Int}{h:Hd}{x tz:Nat}{dp:Int}{o:dM}(e:cF E rec m n cl nu h x tz dp=U o)(hq:h.c=cl/\h.n=nu/\h.b=decide (10<=n.kind/\n.kind<=12))(hd:dp<=12)(hk:n.kind=10):∃v,de E rec tz (dp+1) n.kids (x+h.s.toNat) []=U v/\o=GL n.kids.length tz v:=by
 unfold cF at e;rw[G O,G (fun r=>r.2 hq),G O,G O,aG hk]at e;split at e
 ·cases e
 ·rename_i u q;exact⟨_,q,(aK e).symm⟩
 rename_i vs z q;exact⟨_,q,(aK e).symm⟩
theorem xP{E:cw}{rec:im}{m:Nat}{n:Nd}{cl nu:Int}{h:Hd}{x tz:Nat}{dp:Int}{o:dM}(e:cF E rec m n cl nu h x tz dp=U o)(hq:h.c=cl/\h.n=nu/\h.b=decide (10<=n.kind/\n.kind<=12))(hd:dp<=12)(hk:n.kind=11\/n.kind=12):∃v,dA E rec (decide (n.kind=12)) (kd n 0).node.toNat tz (dp+1) m (x+h.s.toNat) bh 0 []=U v/\o=DJ n.kind tz v:=by
 unfold cF at e;rw[G O,G (fun r=>r.2 hq),G O,G O,G O,aG O]at e;split at e
 ·cases e
 ·rename_i u q;exact⟨_,q,(aK e).symm⟩
 rename_i j vs q;exact⟨_,q,(aK e).symm⟩
theorem xO{E:cw}{rec:im}{m:Nat}{n:Nd}{cl nu:Int}{h:Hd}{x tz:Nat}{dp:Int}{o:dM}(e:cF E rec m n cl nu h x tz dp=U o)(hq:h.c=cl/\h.n=nu/\h.b=decide (10<=n.kind/\n.kind<=12))(hd:dp<=12)(hk:n.kind<=9):o=if E.ok n.kind (E.d.extract (x+h.s.toNat) tz)=true then .ok ([⟨n.kind,E.d.extract (x+h.s.toNat) tz,0,0⟩],tz)else .error (6,(x:Int)):=by
 unfold cF at e;rw[G O,G (fun r=>r.2 hq),G O,G O,G O,G O]at e;split at e
 ·rename_i q;rw[aG q];exact(aK e).symm
 rename_i q;rw[G q];exact(aK e).symm
theorem df.two{E:cw}{W:M}{R:Nat}{a:Oo Ad}{c gb:Nat}{sn:Sn->Ad}{o:dM}{tree:Ls Vl}{w w':M}{e:Ending}(h:df E W R a c gb sn o tree w e w'):e=Rt .nilIface\/∃q z,e=Rt (aX q z):=by
 rcases h.2 with⟨_,_,_,q4,_⟩|⟨k,q,_,_,q4,_⟩
 ·exact .inl q4
 exact .inr ⟨q,_,q4⟩
theorem Fh(E:cw)(W:M)(R:Nat)(a:Oo Ad)(c gb:Nat)(sn:Sn->Ad)(f:Nat)(hc:PC E W a gb sn)(hdv:j0 E)(hN:lD E W R a c gb sn f)(i:Nat)(hi:i<E.s.length)(ka:Oo Ad)(kc:Nat)(hka:be W ka (nd E.s i).kids)(hkc:(nd E.s i).kids.length<=kc)(g:Hd)(x tz m:Nat)(cl nu dp:Int)(o:dM)(tree:Ls Vl)(w:M)(hcl:(nd E.s i).kind<=12->(nd E.s i).ownT=(cl,nu))(hg:E.hd x tz=(0,g))(htz:tz=iH x g)(hm:cF E (dJ E f) m (nd E.s i) cl nu g x tz dp=U o)(hz:tz<=E.d.size)(hd1:1<=dp)(hd2:dp<=13)(hroom:du tree (f+1) x tz)(hI:gh W w R a E.s.length c gb E.d tree):Cs prog 115 #[Po (U (D R 0 Z)),Ag (fe (nd E.s i) ka kc),I J dp,dw g x] w fun e w'=>df E W R a c gb sn o tree w e w':=by
 obtain⟨hk1,hk14,hTg⟩:=dE hc.right hi;have hfi:=ix (E:=E) (x:=x) (y:=tz) (by rw[hg]);have hfl:=dZ (E:=E) (x:=x) (y:=tz) (by rw[hg]);rw[hg]at hfi hfl;simp only at hfi hfl;rw[<-htz]at hfi hfl;have hxz:x<=tz:=O;obtain⟨x1,hx1⟩:∃x1,x1=x+g.s.toNat:=Ez;have hx1i:(x1:Int)=(x:Int)+g.s:=O;have htzi:(tz:Int)=(x:Int)+g.s+g.l:=O;have HI:=aN hI;have hRl:R<w.heap.size:=aw hI.r0;have HA:Hi (∀A B,H w.heap.size w ((w.alloc A).alloc B)):=fun A B=>((aY w.heap.size w).alloc Ln A).alloc Sq B;have hl0:tree.length<=1099511627776:=by unfold du at hroom;omega
 have fin1:∀(o1:dM) (wq:M),Fr R w wq->∀e w',df E W R a c gb sn o1 tree wq e w'->o1=o->df E W R a c gb sn o tree w e w':=fun o1 wq hf e w' q h=>by rw[<-h];exact q.of hf
 have HFIN:=aN fin1;by_cases h13:(nd E.s i).kind=13
 ·have hm1:bU E (dJ E f) g x tz dp (nd E.s i).kids 0=U o:=by unfold cF at hm;rw[aG h13]at hm;exact hm
  have HCH:Hi (∀wq,gh W wq R a E.s.length c gb E.d tree->Cs prog 158 #[Po (U (D R 0 Z)),Ag (fe (nd E.s i) ka kc),I J dp,dw g x] wq fun e w'=>df E W R a c gb sn o tree wq e w'):=fun wq q=>Cy E W R a c gb sn f hc hN i hi ka kc hka hkc g x tz dp o tree wq hg hm1 hxz hz hd1 hd2 hroom q;have hk13:((nd E.s i).kind==13)=true:=by simp[h13]
  unfold dw fe at HCH ⊢;clear hm hm1 hcl hg htz hfi hfl hroom hI hTg hka hdv hN hc h13 hx1 hx1i htzi fin1;go_enter func115,ntmps115;go_wp2_with fail;refine(HCH _ (HI.below (HA _ _))).mono ?_;rintro e w1 ha1;have HA1:=aN ha1;have hcase:=ha1.two;clear ha1;rcases hcase with rfl|⟨q,za,rfl⟩
  ·go_wp2;go_ret;exact HFIN o _ (Fr.of_below (HA _ _)) _ _ HA1 X
  unfold aX;go_wp2;go_ret;exact HFIN o _ (Fr.of_below (HA _ _)) _ _ HA1 X
 have hk13:((nd E.s i).kind==13)=false:=by simp[h13]
 by_cases h14:(nd E.s i).kind=14
 ·have ho:(if 12<dp then .error (10,(x:Int))else .ok ([⟨14,E.d.extract x tz,0,0⟩],tz):dM)=o:=by
   unfold cF at hm;rw[G h13,G (fun q=>q.1 h14)]at hm;split
   ·rename_i q;rw[aG q]at hm;exact aK hm
   rename_i q;rw[G q,aG h14]at hm;exact aK hm
  have HOO:=aN ho;have HAN:Hi (∀wq,gh W wq R a E.s.length c gb E.d tree->Cs prog 159 #[Po (U (D R 0 Z)),I J dp,dw g x] wq fun e w'=>df E W R a c gb sn o tree wq e w'):=fun wq q=>by have:=DN E W R a c gb sn hc g x tz dp tree wq htzi hxz hz hl0 q;rw[ho]at this;exact this
  have hk14b:((nd E.s i).kind==14)=true:=by simp[h14]
  unfold dw at HAN ⊢;unfold fe;clear hm hcl hg htz hfi hfl hroom hI hTg hka hdv hN hc h13 hx1 hx1i htzi fin1 h14 ho;go_enter func115,ntmps115;go_wp2_with fail;refine(HAN _ (HI.below (HA _ _))).mono ?_;rintro e w1 ha1;have HA1:=aN ha1;have hcase:=ha1.two;clear ha1;rcases hcase with rfl|⟨q,za,rfl⟩
  ·go_wp2;go_ret;exact HFIN o _ (Fr.of_below (HA _ _)) _ _ HA1 X
  unfold aX;go_wp2;go_ret;exact HFIN o _ (Fr.of_below (HA _ _)) _ _ HA1 X
 have hk14b:((nd E.s i).kind==14)=false:=by simp[h14]
 have hk12:(nd E.s i).kind<=12:=O;obtain⟨B,hB⟩:∃B,decide (10<=(nd E.s i).kind/\(nd E.s i).kind<=12)=B:=⟨_,X⟩;obtain⟨ve,hve⟩:∃ve,expV g.c g.n g.b cl nu B x dp sn=ve:=Ey;have hOT:=hcl hk12;have HOW:Hi (∀wq,H W.heap.size W wq->Cs prog 152 #[Ag #[I J (nd E.s i).kind,I J (nd E.s i).tag,I J (nd E.s i).mode,S ka (nd E.s i).kids.length kc]] wq fun e w'=>e=Rt (Ag #[I J cl,I J nu,Bo B])/\H wq.heap.size wq w'):=fun wq q=>by have:=nT (nd E.s i) ka kc wq (hc.lay.below q).n hTg.1 O hk12;rw[hOT,hB]at this;exact this
 have HEP:Hi (∀wq,H W.heap.size W wq->Cs prog 116 #[Ag #[I J g.c,I J g.n,Bo g.b,I J x,I J x1,I J tz],Ag #[I J cl,I J nu,Bo B],I J dp] wq fun e w'=>e=Rt ve/\H wq.heap.size wq w'):=fun wq q=>by have:=qJ g.c g.n g.b x x1 tz cl nu B dp wq sn (hc.lay.below q).s;rw[hve]at this;exact this
 have hcase:(ve=aX x (sn .Tag)/\o= .error (4,(x:Int)))\/(ve=aX x (sn .Deep)/\o= .error (10,(x:Int)))\/(ve= .nilIface/\dp<=12/\(g.c=cl/\g.n=nu/\g.b=decide (10<=(nd E.s i).kind/\(nd E.s i).kind<=12))):=by
  unfold expV at hve;by_cases q:g.c=cl/\g.n=nu/\g.b=B
  ·rw[G (fun r=>r q)]at hve;rw[<-hB]at q;by_cases q2:12<dp
   ·rw[aG q2]at hve;exact .inr (.inl ⟨hve.symm,xN hm h13 (fun r=>r.2 q) q2⟩)
   rw[G q2]at hve;exact .inr (.inr ⟨hve.symm,O,q⟩)
  rw[aG q]at hve;rw[<-hB]at q;exact .inl ⟨hve.symm,AB hm h13 h14 q⟩
 have HCASE:=aN hcase;have HB:Hi (H W.heap.size W w):=hI.bel;have HC:=aN hc;have HM:=aN hm;have HG:=aN hg;have HDV:=aN hdv;have HNN:=aN hN;have HKA:=aN hka;have HRO:=aN hroom;have HX1:=aN hx1;have HX1I:=aN hx1i;have HTZI:=aN htzi;have HTZ:=aN htz;have hx1z:x1<=tz:=O;have hxx1:x<=x1:=O;unfold dw fe;rw[<-htzi,<-hx1i];clear hm hcl hg htz hfi hfl hroom hI hTg hka hdv hN hc hx1 hx1i htzi fin1 hve hcase hB hOT;go_enter func115,ntmps115;go_upto_region 6 with fail;generalize hW0:(w.alloc (C #[I J (nd E.s i).kind,I J (nd E.s i).tag,I J (nd E.s i).mode,S ka (nd E.s i).kids.length kc] 58)).alloc (C #[I J g.c,I J g.n,Bo g.b,I J x,I J x1,I J tz] 151)=w0;have HB0:Hi (H w.heap.size w w0):=by show H w.heap.size w w0;rw[<-hW0];exact HA _ _
 have HG1:Hi (w0.heap[w.heap.size]? =U (C #[I J (nd E.s i).kind,I J (nd E.s i).tag,I J (nd E.s i).mode,S ka (nd E.s i).kids.length kc] 58 (0,0))):=by show w0.heap[w.heap.size]? =_;rw[<-hW0];exact ax (aA w _) Be
 have HG2:Hi (w0.heap[w.heap.size+1]? =U (C #[I J g.c,I J g.n,Bo g.b,I J x,I J x1,I J tz] 151 (0,0))):=by show w0.heap[w.heap.size+1]? =_;rw[<-hW0];have q:=aA (w.alloc (C #[I J (nd E.s i).kind,I J (nd E.s i).tag,I J (nd E.s i).mode,S ka (nd E.s i).kids.length kc] 58)) (C #[I J g.c,I J g.n,Bo g.b,I J x,I J x1,I J tz] 151);simpa using q
 have HI0:=aN (HI.below HB0);clear hW0 HA;have X0:∀y:b7 w0,y.v.cell? (D w.heap.size 0 Z)=U (I J (nd E.s i).kind):=fun y=>y.cell (cell_of_row HG1 X);have X1:∀y:b7 w0,y.v.cell? (D w.heap.size 1 Z)=U (I J (nd E.s i).tag):=fun y=>y.cell (cell_of_row HG1 X);have X2:∀y:b7 w0,y.v.cell? (D w.heap.size 2 Z)=U (I J (nd E.s i).mode):=fun y=>y.cell (cell_of_row HG1 X);have X3:∀y:b7 w0,y.v.cell? (D w.heap.size 3 Z)=U (S ka (nd E.s i).kids.length kc):=fun y=>y.cell (cell_of_row HG1 X);have Y0:∀y:b7 w0,y.v.cell? (D (w.heap.size+1) 0 Z)=U (I J g.c):=fun y=>y.cell (cell_of_row HG2 X);have Y1:∀y:b7 w0,y.v.cell? (D (w.heap.size+1) 1 Z)=U (I J g.n):=fun y=>y.cell (cell_of_row HG2 X);have Y2:∀y:b7 w0,y.v.cell? (D (w.heap.size+1) 2 Z)=U (Bo g.b):=fun y=>y.cell (cell_of_row HG2 X);have Y3:∀y:b7 w0,y.v.cell? (D (w.heap.size+1) 3 Z)=U (I J x):=fun y=>y.cell (cell_of_row HG2 X);have Y4:∀y:b7 w0,y.v.cell? (D (w.heap.size+1) 4 Z)=U (I J x1):=fun y=>y.cell (cell_of_row HG2 X);have Y5:∀y:b7 w0,y.v.cell? (D (w.heap.size+1) 5 Z)=U (I J tz):=fun y=>y.cell (cell_of_row HG2 X);have HBW:Hi (∀y:b7 w0,H W.heap.size W y.v):=fun y=>HI0.bel.trans (y.h.mono HI0.bel.size);(have ne:=eX;refine bP Kr Kr ?_;(repeat(first|go_big_quiet_skip|(go_big_quiet_want;go_big_quiet_op;first|go_big_quiet_on|(apply Exists.intro;refine⟨fun x=>?_,?_⟩;(·(first|(go_at_call 152;exact b7.calls (HOW x.v (HBW x)))|(go_at_call 116;exact b7.calls (HEP x.v (HBW x)))));go_big_quiet_on))));refine dW ?_);intro w5 hb5;have HB5:Hi (H w.heap.size w w5):=HB0.trans (hb5.mono HB0.size);have HI5:=aN (HI.below HB5);have H15:=aN (ax HG1 hb5);have H25:=aN (ax HG2 hb5);clear X0 X1 X2 X3 Y0 Y1 Y2 Y3 Y4 Y5 hb5;rcases HCASE with⟨rfl,ho⟩|⟨rfl,ho⟩|⟨rfl,hdp,hq⟩
 ·have HOE:=aN ho;unfold aX;clear ho;go_wp2;go_ret;exact⟨Fr.of_below HB5,.inr ⟨4,x,tree,HOE,X,HI5⟩⟩
 ·have HOE:=aN ho;unfold aX;clear ho;go_wp2;go_ret;exact⟨Fr.of_below HB5,.inr ⟨10,x,tree,HOE,X,HI5⟩⟩
 have HQ:=aN hq;have n0:w5.cell? (D w.heap.size 0 Z)=U (I J (nd E.s i).kind):=cell_of_row H15 X;have n1:w5.cell? (D w.heap.size 1 Z)=U (I J (nd E.s i).tag):=cell_of_row H15 X;have n2:w5.cell? (D w.heap.size 2 Z)=U (I J (nd E.s i).mode):=cell_of_row H15 X;have n3:w5.cell? (D w.heap.size 3 Z)=U (S ka (nd E.s i).kids.length kc):=cell_of_row H15 X;have s0:w5.cell? (D (w.heap.size+1) 0 Z)=U (I J g.c):=cell_of_row H25 X;have s1:w5.cell? (D (w.heap.size+1) 1 Z)=U (I J g.n):=cell_of_row H25 X;have s2:w5.cell? (D (w.heap.size+1) 2 Z)=U (Bo g.b):=cell_of_row H25 X;have s3:w5.cell? (D (w.heap.size+1) 3 Z)=U (I J x):=cell_of_row H25 X;have s4:w5.cell? (D (w.heap.size+1) 4 Z)=U (I J x1):=cell_of_row H25 X;have s5:w5.cell? (D (w.heap.size+1) 5 Z)=U (I J tz):=cell_of_row H25 X;have hl5:w.heap.size+1<w5.heap.size:=aw s0;have HR1:Hi (du tree (f+1) x1 tz):=by show du _ _ _ _;have:=HRO.out;unfold du at this ⊢;omega
 clear hq hk13 hk14b;by_cases h10:(nd E.s i).kind=10
 ·obtain⟨v,hv,ho⟩:=AA HM HQ hdp h10;rw[<-HX1.out]at hv;have HCL:Hi (∀wq,gh W wq R a E.s.length c gb E.d tree->Cs prog 160 #[Po (U (D R 0 Z)),Ag #[I J (nd E.s i).kind,I J (nd E.s i).tag,I J (nd E.s i).mode,S ka (nd E.s i).kids.length kc],I J dp,Ag #[I J g.c,I J g.n,Bo g.b,I J x,I J x1,I J tz]] wq fun e w'=>df E W R a c gb sn o tree wq e w'):=fun wq q=>by have:=Hm E W R a c gb sn f HC HDV HNN i hi ka kc HKA hkc g x x1 tz dp v tree wq HX1I HTZI hv hx1z hz hd1 hdp HR1 q;unfold dw at this;rw[<-HTZI,<-HX1I,<-ho]at this;exact this
  have hk10:((nd E.s i).kind==10)=true:=by simp[h10]
  have hk13:((nd E.s i).kind==13)=false:=by simp[h10]
  have hk14b:((nd E.s i).kind==14)=false:=by simp[h10]
  clear hv ho h10 h13 h14 hk1 hk14 hk12;go_wp2_with fail;refine(HCL _ HI5).mono ?_;rintro e w6 ha6;have HA6:=aN ha6;have hcase:=ha6.two;clear ha6;rcases hcase with rfl|⟨q,za,rfl⟩
  ·go_wp2;go_ret;exact HFIN o _ (Fr.of_below HB5) _ _ HA6 X
  unfold aX;go_wp2;go_ret;exact HFIN o _ (Fr.of_below HB5) _ _ HA6 X
 by_cases h11:(nd E.s i).kind=11\/(nd E.s i).kind=12
 ·obtain⟨v,hv,ho⟩:=xP HM HQ hdp h11;rw[<-HX1.out]at hv;have HCL:Hi (∀wq,gh W wq R a E.s.length c gb E.d tree->Cs prog 161 #[Po (U (D R 0 Z)),Ag #[I J (nd E.s i).kind,I J (nd E.s i).tag,I J (nd E.s i).mode,S ka (nd E.s i).kids.length kc],I J dp,Ag #[I J g.c,I J g.n,Bo g.b,I J x,I J x1,I J tz]] wq fun e w'=>df E W R a c gb sn o tree wq e w'):=fun wq q=>by have:=F5 E W R a c gb sn f HC HNN i hi h11 ka kc HKA hkc g x x1 tz m dp v tree wq HX1I HTZI hv hx1z hz hd1 hdp HR1 q;unfold dw at this;rw[<-HTZI,<-HX1I,<-ho]at this;exact this
  have hk10:((nd E.s i).kind==10)=false:=by simp[h10]
  have hkk:((nd E.s i).kind==11)=true\/(((nd E.s i).kind==11)=false/\((nd E.s i).kind==12)=true):=by
   rcases h11 with q|q
   ·exact .inl (by simp[q])
   exact .inr ⟨by simp[q],by simp[q]⟩
  clear hv ho h10 h13 h14 hk1 hk14 hk12 h11;rcases hkk with e11|⟨e11,e12⟩;all_goals
   go_wp2_with fail;refine(HCL _ HI5).mono ?_;rintro e w6 ha6;have HA6:=aN ha6;have hcase:=ha6.two;clear ha6;rcases hcase with rfl|⟨q,za,rfl⟩
   ·go_wp2;go_ret;exact HFIN o _ (Fr.of_below HB5) _ _ HA6 X
   unfold aX;go_wp2;go_ret;exact HFIN o _ (Fr.of_below HB5) _ _ HA6 X
 have hk9:(nd E.s i).kind<=9:=O;have ho:=xO HM HQ hdp hk9;rw[<-HX1.out]at ho;have HOO:=aN ho;have hk10:((nd E.s i).kind==10)=false:=by simp[h10]
 have e11:((nd E.s i).kind==11)=false:=So;have e12:((nd E.s i).kind==12)=false:=So;have HFT:Hi (∀wq,H W.heap.size W wq->Cs prog 138 #[I J (nd E.s i).kind,Y (E.d.extract x1 tz)] wq fun e w'=>rT (aR (nd E.s i).kind (E.d.extract x1 tz)) wq e w'):=fun wq q=>kH _ _ wq (by rw[fB];have:=HC.out.size;omega) (HC.out.lay.below q).d (nh _ wq (by rw[fB];have:=HC.out.size;omega) (HC.out.lay.below q).t);have HAT:Hi (∀wq,Cs prog 60 #[I J x,If 291 (Po (U (sn .Value)))] wq fun e w'=>e=Rt (aX x (sn .Value))/\w'=wq):=fun wq=>fR x _ wq;unfold aX at HAT;have d2:w5.cell? (D R 2 Z)=U (Y E.d):=HI5.out.r2;have hR5:R<w5.heap.size:=aw d2;have hq1:(x1:Int)<=tz:=O;have hq2:(tz:Int)<=E.d.size:=O;clear ho h10 h13 h14 hk1 hk14 hk12 h11 hk9 n1 n2 n3 s0 s1 s2;go_upto_region 15 with fail;go_quiet (fail);generalize hw6:w5.drewN nq=w6;have HB6:Hi (H w5.heap.size w5 w6):=by show H w5.heap.size w5 w6;rw[<-hw6];exact Go.below_drewN By _
 have HI6:=aN (HI5.below HB6);have H16:=aN (ax H15 HB6);have H26:=aN (ax H25 HB6);clear hw6 d2 hR5 n0 s3 s4 s5 hl5;have n0:w6.cell? (D w.heap.size 0 Z)=U (I J (nd E.s i).kind):=cell_of_row H16 X;have hl6:w.heap.size<w6.heap.size:=aw n0;go_wp2_with fail;refine(HFT _ HI6.bel).mono ?_;rintro e w7 ⟨r,rfl,hr,hb7⟩;have HR:=aN hr;have HB7:Hi (H w.heap.size w w7):=(HB5.trans (HB6.mono HB5.size)).trans (hb7.mono (HB5.trans (HB6.mono HB5.size)).size);have HI7:=aN (HI6.below hb7);have H17:=aN (ax H16 hb7);have H27:=aN (ax H26 hb7);clear hr hb7 n0 hl6;have m0:w7.cell? (D w.heap.size 0 Z)=U (I J (nd E.s i).kind):=cell_of_row H17 X;have t3:w7.cell? (D (w.heap.size+1) 3 Z)=U (I J x):=cell_of_row H27 X;have hl7:w.heap.size+1<w7.heap.size:=aw t3;cases r
 ·have HOE:Hi (o= .error (6,(x:Int))):=by show o=_;rw[HOO,G (fun q=>by cases HR.2 ((HC.ok _ _).1 q))]
  have cV:=(HC.lay.below HI7.bel).s.cValue;have hgl:=aw cV;simp only at hgl;go_wp2_with fail;refine(HAT _).mono ?_;rintro e w8 ⟨rfl,rfl⟩;go_wp2;go_ret;exact⟨Fr.of_below HB7,.inr ⟨6,x,tree,HOE,X,HI7⟩⟩
 have HOE:Hi (o= .ok ([⟨(nd E.s i).kind,E.d.extract x1 tz,0,0⟩],tz)):=by show o=_;rw[HOO,aG ((HC.ok _ _).2 (HR.1 X))]
 go_wp2_with fail;refine(me W _ R a E.s.length c gb E.d tree (nd E.s i).kind (E.d.extract x1 tz) 0 0 HI7 hl0).mono ?_;rintro e w8 ⟨rfl,hI8,hF8⟩;have HI8:=aN hI8;have HF8:Hi (Fr R w w8):=(Fr.of_below HB7).trans hF8;clear hI8 hF8;go_wp2;go_ret;exact⟨HF8,.inl ⟨_,_,HOE,X,HI8⟩⟩
theorem Dw(E:cw)(W:M)(R:Nat)(a:Oo Ad)(c gb:Nat)(sn:Sn->Ad)(n:Nd)(ka:Oo Ad)(kc:Nat)(dp:Int)(g:Hd)(x:Nat)(o:dM)(tree:Ls Vl)(w:M)(b1 b2 b4:Nat)(h1:w.cell? (D b1 0 Z)=U (Po (U (D R 0 Z))))(h2:w.heap[b2]? =U (C (fe n ka kc) 58 (0,0)))(h4:w.cell? (D b4 0 Z)=U (I J dp))(h:∀wq,H w.heap.size w wq->Cs prog 115 #[Po (U (D R 0 Z)),Ag (fe n ka kc),I J dp,dw g x] wq fun e w'=>df E W R a c gb sn o tree wq e w'):Cs prog 117 #[dw g x,Po (U (D b1 0 Z)),Po (U (D b2 0 Z)),Po (U (D b4 0 Z))] w fun e w'=>df E W R a c gb sn o tree w e w':=by
 have HO:=aN h;have n0:w.cell? (D b2 0 Z)=U (I J n.kind):=cell_of_row h2 X;have n1:w.cell? (D b2 1 Z)=U (I J n.tag):=cell_of_row h2 X;have n2:w.cell? (D b2 2 Z)=U (I J n.mode):=cell_of_row h2 X;have n3:w.cell? (D b2 3 Z)=U (S ka n.kids.length kc):=cell_of_row h2 X;have l1:b1<w.heap.size:=aw h1;have l2:b2<w.heap.size:=aw n0;have l4:b4<w.heap.size:=aw h4;unfold fe dw at HO;unfold dw;clear h h2;go_enter func117,ntmps117;go_wp2_with fail;refine(HO _ Be).mono ?_;rintro e w1 ha;have HA:=aN ha;have hcase:=ha.two;clear ha;rcases hcase with rfl|⟨q,za,rfl⟩
 ·go_wp2;go_ret;exact HA.of (Fr.of_below Be)
 unfold aX;go_wp2;go_ret;exact HA.of (Fr.of_below Be)
def ez(E:cw)(x y:Nat)(o:dM):dM:=
 if(E.hd x y).1≠0 then .error ((E.hd x y).1,(x:Int))
 else match o with
  | .error u=> .error u
  | .ok (vs,_)=>if iH x (E.hd x y).2<y then .error (7,(iH x (E.hd x y).2:Nat))else .ok (vs,y)
theorem F7(E:cw)(W:M)(R:Nat)(a:Oo Ad)(c gb:Nat)(sn:Sn->Ad)(hc:PC E W a gb sn)(x y:Nat)(o:dM)(tree:Ls Vl)(w:M)(b1 b2 b3:Nat)(hxy:x<=y)(hy:y<=E.d.size)(hI:gh W w R a E.s.length c gb E.d tree)(h:∀g,E.hd x y=(0,g)->∀wq,H w.heap.size w wq->Cs prog 117 #[dw g x,Po (U (D b1 0 Z)),Po (U (D b2 0 Z)),Po (U (D b3 0 Z))] wq fun e w'=>df E W R a c gb sn o tree wq e w'):Cs prog 76 #[Po (U (D R 0 Z)),I J x,I J y,.func (.func 117) #[] #[Po (U (D b1 0 Z)),Po (U (D b2 0 Z)),Po (U (D b3 0 Z))]] w fun e w'=>df E W R a c gb sn (ez E x y o) tree w e w':=by
 have HC:=aN hc;have HI:=aN hI;have hds:=hc.size;have HOP:=aN (ml W w R a E.s.length c gb E.d tree x y sn hI (hc.lay.below hI.bel).s hxy hy O);have HH:=aN h;have hRl:R<w.heap.size:=aw hI.r0;clear h hc hI;go_enter func76,ntmps76;go_wp2_with fail;refine HOP.mono ?_;rintro e w4 ⟨hb4,h4⟩;have HB4:=aN hb4;clear HOP hb4;rcases h4 with⟨h40,rfl⟩|⟨h40,rfl⟩
 ·obtain⟨g,hh⟩:∃g,(hd (E.d.extract x y)).2=g:=Ey;have hhd:E.hd x y=(0,g):=by unfold cw.hd;rw[<-h40,<-hh]
  have HHD:=aN hhd;obtain⟨z,hzf⟩:∃z,z=iH x g:=Ez;have hfi:=ix (E:=E) (x:=x) (y:=y) (by rw[hhd]);have hfl:=dZ (E:=E) (x:=x) (y:=y) (by rw[hhd]);rw[hhd]at hfi hfl;simp only at hfi hfl;rw[<-hzf]at hfi hfl;have hzz:(x:Int)+g.s+g.l=z:=O;have HZF:=aN hzf;have HCL:Hi (∀wq,H w.heap.size w wq->Cs prog 117 #[Ag #[I J g.c,I J g.n,Bo g.b,I J x,I J ((x:Int)+g.s),I J z],Po (U (D b1 0 Z)),Po (U (D b2 0 Z)),Po (U (D b3 0 Z))] wq fun e w'=>df E W R a c gb sn o tree wq e w'):=fun wq q=>by have:=HH g hhd wq q;unfold dw at this;rw[hzz]at this;exact this
  have hzy:z<=y:=O;rw[hh];unfold dw;rw[hzz];have HBB:Hi (∀o,H w.heap.size w (w4.alloc o)):=fun o=>HB4.alloc HB4.size o;clear h40 hh hhd hzf hfi hfl hzz HH;go_wp2_with fail;refine(HCL _ (HBB _)).mono ?_;rintro e w6 ha6;have HA6:=aN ha6;have hne:w4.heap.size≠R:=by have:=HB4.out.size;omega
  have hG6:=ha6.1 _ _ _ hne Dc (aA w4 _);have HF6:Hi (Fr R w w6):=(Fr.of_below (HBB _)).trans ha6.1;have s3:w6.cell? (D w4.heap.size 5 Z)=U (I J z):=cell_of_row hG6 X;have hl6:w4.heap.size<w6.heap.size:=aw s3;clear ha6 hG6;rcases HA6.2 with⟨vs,zz,ho,rfl,hI6⟩|⟨k,q,tr,ho,rfl,hI6⟩
  ·have HO:=aN ho;have HI6:=aN hI6;clear ho hI6;by_cases hlt:z<y
   ·have hlt':(z:Int)<y:=O;(have HL:Hi (ez E x y o= .error (7,(z:Int))):=by show ez E x y o=_;unfold ez;rw[HHD,G Sq,HO.out];simp only;rw[<-HZF,aG hlt]);have cM:=(HC.lay.below HI6.bel).s.cMore;have hgl:=aw cM;simp only at hgl;have HAT:Hi (∀wq,Cs prog 60 #[I J z,If 291 (Po (U (sn .More)))] wq fun e w'=>e=Rt (aX z (sn .More))/\w'=wq):=fun wq=>fR z _ wq;unfold aX at HAT;go_wp2_with fail;refine(HAT _).mono ?_;rintro e w8 ⟨rfl,rfl⟩;go_wp2;go_ret;exact⟨HF6,.inr ⟨7,z,_,HL,X,HI6⟩⟩
   have hlt':¬(z:Int)<y:=O;(have HL:Hi (ez E x y o= .ok (vs,y)):=by show ez E x y o=_;unfold ez;rw[HHD,G Sq,HO.out];simp only;rw[<-HZF,G hlt]);go_wp2;go_ret;exact⟨HF6,.inl ⟨vs,y,HL,X,HI6⟩⟩
  have HL:Hi (ez E x y o= .error (k,q)):=by show ez E x y o=_;unfold ez;rw[HHD,G Sq,ho]
  have HI6:=aN hI6;unfold aX;clear ho hI6;go_wp2;go_ret;exact⟨HF6,.inr ⟨k,q,tr,HL,X,HI6⟩⟩
 have he:=lP (t:=E.d.extract x y) x sn h40;have HL:Hi (ez E x y o= .error ((hd (E.d.extract x y)).1,(x:Int))):=by show ez E x y o=_;unfold ez;rw[aG (show(E.hd x y).1≠0 from h40)];rfl
 generalize(hd (E.d.extract x y)).1=k at he HL;rw[he];unfold rp aX;clear he h40;go_wp2;go_ret;exact⟨Fr.of_below (HB4.alloc HB4.size _),.inr ⟨k,x,tree,HL,X,HI.below (HB4.alloc HB4.size _)⟩⟩
theorem F6(E:cw)(W:M)(R:Nat)(a:Oo Ad)(c gb:Nat)(sn:Sn->Ad)(hc:PC E W a gb sn)(x y:Nat)(o:dM)(tree:Ls Vl)(w:M)(b1 b2:Nat)(hxy:x<=y)(hy:y<=E.d.size)(hI:gh W w R a E.s.length c gb E.d tree)(h:∀g,E.hd x y=(0,g)->∀wq,H w.heap.size w wq->Cs prog 77 #[dw g x,Po (U (D b1 0 Z)),Po (U (D b2 0 Z))] wq fun e w'=>df E W R a c gb sn o tree wq e w'):Cs prog 76 #[Po (U (D R 0 Z)),I J x,I J y,.func (.func 77) #[] #[Po (U (D b1 0 Z)),Po (U (D b2 0 Z))]] w fun e w'=>df E W R a c gb sn (ez E x y o) tree w e w':=by
 have HC:=aN hc;have HI:=aN hI;have hds:=hc.size;have HOP:=aN (ml W w R a E.s.length c gb E.d tree x y sn hI (hc.lay.below hI.bel).s hxy hy O);have HH:=aN h;have hRl:R<w.heap.size:=aw hI.r0;clear h hc hI;go_enter func76,ntmps76;go_wp2_with fail;refine HOP.mono ?_;rintro e w4 ⟨hb4,h4⟩;have HB4:=aN hb4;clear HOP hb4;rcases h4 with⟨h40,rfl⟩|⟨h40,rfl⟩
 ·obtain⟨g,hh⟩:∃g,(hd (E.d.extract x y)).2=g:=Ey;have hhd:E.hd x y=(0,g):=by unfold cw.hd;rw[<-h40,<-hh]
  have HHD:=aN hhd;obtain⟨z,hzf⟩:∃z,z=iH x g:=Ez;have hfi:=ix (E:=E) (x:=x) (y:=y) (by rw[hhd]);have hfl:=dZ (E:=E) (x:=x) (y:=y) (by rw[hhd]);rw[hhd]at hfi hfl;simp only at hfi hfl;rw[<-hzf]at hfi hfl;have hzz:(x:Int)+g.s+g.l=z:=O;have HZF:=aN hzf;have HCL:Hi (∀wq,H w.heap.size w wq->Cs prog 77 #[Ag #[I J g.c,I J g.n,Bo g.b,I J x,I J ((x:Int)+g.s),I J z],Po (U (D b1 0 Z)),Po (U (D b2 0 Z))] wq fun e w'=>df E W R a c gb sn o tree wq e w'):=fun wq q=>by have:=HH g hhd wq q;unfold dw at this;rw[hzz]at this;exact this
  have hzy:z<=y:=O;rw[hh];unfold dw;rw[hzz];have HBB:Hi (∀o,H w.heap.size w (w4.alloc o)):=fun o=>HB4.alloc HB4.size o;clear h40 hh hhd hzf hfi hfl hzz HH;go_wp2_with fail;refine(HCL _ (HBB _)).mono ?_;rintro e w6 ha6;have HA6:=aN ha6;have hne:w4.heap.size≠R:=by have:=HB4.out.size;omega
  have hG6:=ha6.1 _ _ _ hne Dc (aA w4 _);have HF6:Hi (Fr R w w6):=(Fr.of_below (HBB _)).trans ha6.1;have s3:w6.cell? (D w4.heap.size 5 Z)=U (I J z):=cell_of_row hG6 X;have hl6:w4.heap.size<w6.heap.size:=aw s3;clear ha6 hG6;rcases HA6.2 with⟨vs,zz,ho,rfl,hI6⟩|⟨k,q,tr,ho,rfl,hI6⟩
  ·have HO:=aN ho;have HI6:=aN hI6;clear ho hI6;by_cases hlt:z<y
   ·have hlt':(z:Int)<y:=O;(have HL:Hi (ez E x y o= .error (7,(z:Int))):=by show ez E x y o=_;unfold ez;rw[HHD,G Sq,HO.out];simp only;rw[<-HZF,aG hlt]);have cM:=(HC.lay.below HI6.bel).s.cMore;have hgl:=aw cM;simp only at hgl;have HAT:Hi (∀wq,Cs prog 60 #[I J z,If 291 (Po (U (sn .More)))] wq fun e w'=>e=Rt (aX z (sn .More))/\w'=wq):=fun wq=>fR z _ wq;unfold aX at HAT;go_wp2_with fail;refine(HAT _).mono ?_;rintro e w8 ⟨rfl,rfl⟩;go_wp2;go_ret;exact⟨HF6,.inr ⟨7,z,_,HL,X,HI6⟩⟩
   have hlt':¬(z:Int)<y:=O;(have HL:Hi (ez E x y o= .ok (vs,y)):=by show ez E x y o=_;unfold ez;rw[HHD,G Sq,HO.out];simp only;rw[<-HZF,G hlt]);go_wp2;go_ret;exact⟨HF6,.inl ⟨vs,y,HL,X,HI6⟩⟩
  have HL:Hi (ez E x y o= .error (k,q)):=by show ez E x y o=_;unfold ez;rw[HHD,G Sq,ho]
  have HI6:=aN hI6;unfold aX;clear ho hI6;go_wp2;go_ret;exact⟨HF6,.inr ⟨k,q,tr,HL,X,HI6⟩⟩
 have he:=lP (t:=E.d.extract x y) x sn h40;have HL:Hi (ez E x y o= .error ((hd (E.d.extract x y)).1,(x:Int))):=by show ez E x y o=_;unfold ez;rw[aG (show(E.hd x y).1≠0 from h40)];rfl
 generalize(hd (E.d.extract x y)).1=k at he HL;rw[he];unfold rp aX;clear he h40;go_wp2;go_ret;exact⟨Fr.of_below (HB4.alloc HB4.size _),.inr ⟨k,x,tree,HL,X,HI.below (HB4.alloc HB4.size _)⟩⟩
theorem CX{n:Nd}(h:n.tag<0)(hk:n.kind<=12):n.ownT=(0,jd n.kind):=by unfold Nd.ownT jd;rw[G O,G O]
theorem Ep{n:Nd}(h:0<=n.tag)(hm:n.mode=0):n.ownT=(2,n.tag):=by unfold Nd.ownT;rw[aG ⟨hm,h⟩]
theorem yR{n:Nd}(hm:n.mode=1)(hk:n.kind<=12):n.ownT=(0,jd n.kind):=by unfold Nd.ownT jd;rw[G O,G O]
theorem zg(E:cw)(W:M)(R:Nat)(a:Oo Ad)(c gb:Nat)(sn:Sn->Ad)(f:Nat)(hc:PC E W a gb sn)(hdv:j0 E)(hN:lD E W R a c gb sn f):lD E W R a c gb sn (f+1):=by
 intro i x y g dp o tree w hg hm hi hxy hy hd1 hd2 hroom hI;obtain⟨hk1,hk14,hTg⟩:=dE hc.right hi;obtain⟨tz,htz⟩:∃tz,tz=iH x g:=Ez;have hfi:=ix (E:=E) (x:=x) (y:=y) (by rw[hg]);have hfl:=dZ (E:=E) (x:=x) (y:=y) (by rw[hg]);rw[hg]at hfi hfl;simp only at hfi hfl;rw[<-htz]at hfi hfl;have hga:=nP (E:=E) (x:=x) (y:=y) (z:=tz) (by rw[hg]) (by rw[hg];simp only;omega) O hy;rw[hg]at hga;have hmv:iQ E (dJ E f) f i g x tz dp=U o:=by unfold dJ at hm;rw[G (by rw[hg];simp)]at hm;rw[hg]at hm;simp only at hm;rw[<-htz]at hm;exact hm
 obtain⟨b,ob,ka,kc,rfl,ncl,hkc,_,hka⟩:=hc.sch i hi;obtain⟨n0,n1,n2,n3⟩:=(⟨ncl.1,ncl.2,ncl.3,ncl.4⟩:kx W b (ob+i*4) (nd E.s i) ka kc);obtain⟨m0,m1,m2,m3⟩:w.cell? (D b (ob+i*4) Z)=U (I J (nd E.s i).kind)/\w.cell? (D b (ob+i*4+1) Z)=U (I J (nd E.s i).tag)/\w.cell? (D b (ob+i*4+2) Z)=U (I J (nd E.s i).mode)/\w.cell? (D b (ob+i*4+3) Z)=U (S ka (nd E.s i).kids.length kc):=⟨(hI.bel.cell (aw n0)).trans n0,(hI.bel.cell (aw n1)).trans n1,(hI.bel.cell (aw n2)).trans n2,(hI.bel.cell (aw n3)).trans n3⟩;have hbl:b<w.heap.size:=aw m0;have r0:=hI.r0;have hRl:R<w.heap.size:=aw r0;have hi':(i:Int)<E.s.length:=O;have HI:=aN hI;have hroom2:du tree (f+1) x tz:=by unfold du at hroom ⊢;omega
 have HA:Hi (∀A B ae af,H w.heap.size w ((((w.alloc A).alloc B).alloc ae).alloc af)):=fun A B ae af=>((((aY w.heap.size w).alloc Ln A).alloc Sq B).alloc So ae).alloc So af;by_cases hmode:(nd E.s i).mode=1
 ·have htg:0<=(nd E.s i).tag:=by have h1:=hTg.1;have h3:=hTg.2.2.1;omega
  obtain⟨x1,hx1⟩:∃x1,x1=x+g.s.toNat:=Ez;have hx1i:(x1:Int)=(x:Int)+g.s:=O;have htzi:(tz:Int)=(x:Int)+g.s+g.l:=O;obtain⟨ve,hve⟩:∃ve,expV g.c g.n g.b 2 (nd E.s i).tag true x dp sn=ve:=Ey;have hcase:(ve=aX x (sn .Tag)/\o= .error (4,(x:Int)))\/(ve=aX x (sn .Deep)/\o= .error (10,(x:Int)))\/(ve= .nilIface/\∃oi,(∀g',E.hd x1 tz=(0,g')->cF E (dJ E f) f (nd E.s i) 0 (jd (nd E.s i).kind) g' x1 (iH x1 g') dp=U oi)/\o=ez E x1 tz oi):=by
   unfold iQ at hmv;rw[G O,G O,<-hx1]at hmv;unfold expV at hve;by_cases q:g.c=2/\g.n=(nd E.s i).tag/\g.b=true
   ·rw[G (fun r=>r q)]at hve hmv;by_cases q2:12<dp
    ·rw[aG q2]at hve hmv;exact .inr (.inl ⟨hve.symm,(aK hmv).symm⟩)
    rw[G q2]at hve hmv;refine .inr (.inr ⟨hve.symm,?_⟩);by_cases q3:(E.hd x1 tz).1≠0
    ·rw[aG q3]at hmv;exact⟨.error (0,0),fun g' hg'=>Ab (by rw[hg']) q3,by unfold ez;rw[aG q3];have q5:=(aK hmv).symm;rw[q5,hx1];simp⟩
    rw[G q3]at hmv;rcases bJ hmv with⟨u,h1,rfl⟩|⟨vs,zz,h1,h2⟩
    ·refine⟨.error u,fun g' hg'=>?_,by unfold ez;rw[G q3]⟩;rw[hg']at h1;exact h1
    refine⟨.ok (vs,zz),fun g' hg'=>?_,?_⟩
    ·rw[hg']at h1;exact h1
    unfold ez;rw[G q3];simp only;split at h2
    ·rename_i q4;rw[aG q4];exact(aK h2).symm
    rename_i q4;rw[G q4];exact(aK h2).symm
   rw[aG q]at hve hmv;exact .inl ⟨hve.symm,(aK hmv).symm⟩
  have HCASE:=aN hcase;have HAR:Hi (∀wq,H W.heap.size W wq->Cs prog 110 #[Ag #[I J (nd E.s i).kind,I J (nd E.s i).tag,I J (nd E.s i).mode,S ka (nd E.s i).kids.length kc]] wq fun e w'=>e=Rt (Tu #[Ag #[I J 2,I J (nd E.s i).tag,Bo true],Bo true])/\H wq.heap.size wq w'):=fun wq q=>mW (nd E.s i) ka kc wq hmode (hc.lay.below q).n htg O;have HEP:Hi (∀wq,H W.heap.size W wq->Cs prog 116 #[Ag #[I J g.c,I J g.n,Bo g.b,I J x,I J ((x:Int)+g.s),I J ((x:Int)+g.s+g.l)],Ag #[I J 2,I J (nd E.s i).tag,Bo true],I J dp] wq fun e w'=>e=Rt ve/\H wq.heap.size wq w'):=fun wq q=>by have:=qJ g.c g.n g.b x ((x:Int)+g.s) ((x:Int)+g.s+g.l) 2 (nd E.s i).tag true dp wq sn (hc.lay.below q).s;rw[hve]at this;exact this
  have HOWN:Hi (∀oi,(∀g',E.hd x1 tz=(0,g')->cF E (dJ E f) f (nd E.s i) 0 (jd (nd E.s i).kind) g' x1 (iH x1 g') dp=U oi)->∀g',E.hd x1 tz=(0,g')->∀wq,gh W wq R (U (D b ob Z)) E.s.length c gb E.d tree->Cs prog 115 #[Po (U (D R 0 Z)),Ag (fe (nd E.s i) ka kc),I J dp,dw g' x1] wq fun e w'=>df E W R (U (D b ob Z)) c gb sn oi tree wq e w'):=fun oi hoi g' hg' wq q=>by have hfl':=dZ (E:=E) (x:=x1) (y:=tz) (by rw[hg']);rw[hg']at hfl';simp only at hfl';have hga':=nP (E:=E) (x:=x1) (y:=tz) (z:=iH x1 g') (by rw[hg']) (by rw[hg'];exact Ln) O O;rw[hg']at hga';exact Fh E W R _ c gb sn f hc hdv hN i hi ka kc hka hkc g' x1 (iH x1 g') f 0 (jd (nd E.s i).kind) dp oi tree wq (fun hk=>yR hmode hk) hga' X (hoi g' hg') O hd1 hd2 (by unfold du at hroom2 ⊢;omega) q
  have HC:=aN hc;have HX1I:=aN hx1i;have HTZI:=aN htzi;have hx1z:x1<=tz:=O;have htzs:tz<=E.d.size:=O;unfold dw;clear hmode htg hve hcase hmv hroom2 hroom hga hfi hfl htz hTg hka ncl n0 n1 n2 n3 hI hm hg hN hdv hc hx1 hx1i htzi;go_enter func78,ntmps78;go_upto_region 1 with fail;generalize hW0:((w.alloc (C #[Po (U (D R 0 Z))] 142)).alloc (C #[I J dp] 3)).alloc (C (gC g x) 151)=w0;have HB0:Hi (H w.heap.size w w0):=by show H w.heap.size w w0;rw[<-hW0];exact((Be).alloc Sq _).alloc So _
  have q4:w0.heap[w.heap.size]? =U (C #[Po (U (D R 0 Z))] 142 (0,0)):=by rw[<-hW0];exact ax (ax (aA w _) Be) Be
  have q6:w0.heap[w.heap.size+1]? =U (C #[I J dp] 3 (0,0)):=by rw[<-hW0];exact ax (by simpa using aA (w.alloc _) _) Be
  have q7:w0.heap[w.heap.size+1+1]? =U (C (gC g x) 151 (0,0)):=by rw[<-hW0];have q:=aA ((w.alloc (C #[Po (U (D R 0 Z))] 142)).alloc (C #[I J dp] 3)) (C (gC g x) 151);simpa using q
  have Q4:=aN q4;have Q6:=aN q6;have Q7:=aN q7;have HI0:=aN (HI.below HB0);clear hW0 q4 q6 q7 HA;have c4:w0.cell? (D w.heap.size 0 Z)=U (Po (U (D R 0 Z))):=cell_of_row Q4 X;have u0:w0.cell? (D R 0 Z)=U (S (U (D b ob Z)) E.s.length c):=HI0.out.r0;have v0:=(HB0.cell (aw m0)).trans m0;have v1:=(HB0.cell (aw m1)).trans m1;have v2:=(HB0.cell (aw m2)).trans m2;have v3:=(HB0.cell (aw m3)).trans m3;have hR0:R<w0.heap.size:=aw u0;have hb0:b<w0.heap.size:=aw v0;clear m0 m1 m2 m3 r0 hbl hRl;go_wp2_with fail;refine(HAR _ ((HI0.below Be).bel)).mono ?_;rintro e w1 ⟨rfl,hb1⟩;have hbn:H w0.heap.size w0 w1:=aT hb1;have hG9:=ax (aA w0 _) hb1;have HB1:Hi (H w.heap.size w w1):=HB0.trans (hbn.mono HB0.size);have p4:=ax Q4 hbn;have p6:=ax Q6 hbn;have p7:=ax Q7 hbn;have c4':w1.cell? (D w.heap.size 0 Z)=U (Po (U (D R 0 Z))):=cell_of_row p4 X;have c6:w1.cell? (D (w.heap.size+1) 0 Z)=U (I J dp):=cell_of_row p6 X;have s0:w1.cell? (D (w.heap.size+1+1) 0 Z)=U (I J g.c):=cell_of_row p7 X;have s1:w1.cell? (D (w.heap.size+1+1) 1 Z)=U (I J g.n):=cell_of_row p7 X;have s2:w1.cell? (D (w.heap.size+1+1) 2 Z)=U (Bo g.b):=cell_of_row p7 X;have s3:w1.cell? (D (w.heap.size+1+1) 3 Z)=U (I J x):=cell_of_row p7 X;have s4:w1.cell? (D (w.heap.size+1+1) 4 Z)=U (I J ((x:Int)+g.s)):=cell_of_row p7 X;have s5:w1.cell? (D (w.heap.size+1+1) 5 Z)=U (I J ((x:Int)+g.s+g.l)):=cell_of_row p7 X;have k0:w1.cell? (D w0.heap.size 0 Z)=U (I J (nd E.s i).kind):=cell_of_row hG9 X;have k1:w1.cell? (D w0.heap.size 1 Z)=U (I J (nd E.s i).tag):=cell_of_row hG9 X;have k2:w1.cell? (D w0.heap.size 2 Z)=U (I J (nd E.s i).mode):=cell_of_row hG9 X;have k3:w1.cell? (D w0.heap.size 3 Z)=U (S ka (nd E.s i).kids.length kc):=cell_of_row hG9 X;have hl1:w0.heap.size<w1.heap.size:=aw k0;have hl2:w.heap.size+1+1<w1.heap.size:=aw s0;have hl3:w.heap.size<w1.heap.size:=O;have hl4:w.heap.size+1<w1.heap.size:=O;have HG9:=aN hG9;have HP4:=aN p4;have HP6:=aN p6;have HP7:=aN p7;have HI1:=aN (HI.below HB1);have HBA:Hi (∀o,H w1.heap.size w1 (w1.alloc o)):=fun o=>(By).alloc Ln o;clear hb1 hbn hG9 p4 p6 p7 c4 u0 v0 v1 v2 v3 hR0 hb0;go_wp2_with fail;refine(HEP _ (HI1.below (HBA _)).bel).mono ?_;rintro e w2 ⟨rfl,hb2⟩;have hb12:H w1.heap.size w1 w2:=aT hb2;have HB2:Hi (H w.heap.size w w2):=HB1.trans (hb12.mono HB1.size);have HI2:=aN (HI1.below hb12);have H92:=aN (ax HG9 hb12);have H42:=aN (ax HP4 hb12);have H62:=aN (ax HP6 hb12);have H72:=aN (ax HP7 hb12);clear hb2 hb12 c4' c6 s0 s1 s2 s3 s4 s5 k0 k1 k2 k3 hl1 hl2 hl3 hl4;rcases HCASE with⟨rfl,ho⟩|⟨rfl,ho⟩|⟨rfl,oi,hoi,ho⟩
  ·have HOE:=aN ho;unfold aX;clear ho;go_wp2;go_ret;exact⟨Fr.of_below HB2,.inr ⟨4,x,tree,HOE,X,HI2⟩⟩
  ·have HOE:=aN ho;unfold aX;clear ho;go_wp2;go_ret;exact⟨Fr.of_below HB2,.inr ⟨10,x,tree,HOE,X,HI2⟩⟩
  have HLN:Hi (Cs prog 76 #[Po (U (D R 0 Z)),I J ((x:Int)+g.s),I J ((x:Int)+g.s+g.l),.func (.func 117) #[] #[Po (U (D w.heap.size 0 Z)),Po (U (D w0.heap.size 0 Z)),Po (U (D (w.heap.size+1) 0 Z))]] w2 fun e w'=>df E W R (U (D b ob Z)) c gb sn o tree w2 e w'):=by show Cs _ _ _ _ _;have:=F7 E W R (U (D b ob Z)) c gb sn HC x1 tz oi tree w2 w.heap.size w0.heap.size (w.heap.size+1) hx1z htzs HI2 fun g' hg' wq q=>Dw E W R _ c gb sn (nd E.s i) ka kc dp g' x1 oi tree wq w.heap.size w0.heap.size (w.heap.size+1) (cell_of_row (ax H42 q) X) (ax H92 q) (cell_of_row (ax H62 q) X) fun w3 q3=>HOWN oi hoi g' hg' w3 ((HI2.below q).below q3);rw[<-ho,HX1I,HTZI.out]at this;exact this
  have c4':w2.cell? (D w.heap.size 0 Z)=U (Po (U (D R 0 Z))):=cell_of_row H42 X;have s4:w2.cell? (D (w.heap.size+1+1) 4 Z)=U (I J ((x:Int)+g.s)):=cell_of_row H72 X;have s5:w2.cell? (D (w.heap.size+1+1) 5 Z)=U (I J ((x:Int)+g.s+g.l)):=cell_of_row H72 X;have hl2:w.heap.size+1+1<w2.heap.size:=aw s4;have hl3:w.heap.size<w2.heap.size:=O;clear ho hoi;go_wp2_with fail;refine HLN.mono ?_;rintro e w6 ha6;have HA6:=aN ha6;have hcase:=ha6.two;clear ha6;rcases hcase with rfl|⟨q,za,rfl⟩
  ·go_wp2;go_ret;exact HA6.of (Fr.of_below HB2)
  unfold aX;go_wp2;go_ret;exact HA6.of (Fr.of_below HB2)
 have hm0:(nd E.s i).mode=0:=by
  obtain⟨_,_,t3,t4,t5⟩:=hTg;by_cases q:(nd E.s i).tag= -1
  ·exact t3 q
  by_cases q2:(nd E.s i).kind=13\/(nd E.s i).kind=14
  ·exact Ab (t4 O q2) hmode
  have:=t5 O O O;omega
 obtain⟨cl,nu,hcl,hbare⟩:∃cl nu,((nd E.s i).kind<=12->(nd E.s i).ownT=(cl,nu))/\cF E (dJ E f) f (nd E.s i) cl nu g x tz dp=U o:=by
  unfold iQ at hmv;by_cases q:(nd E.s i).tag<0
  ·rw[aG q]at hmv;exact⟨_,_,fun hk=>CX q hk,hmv⟩
  rw[G q,aG hm0]at hmv;exact⟨_,_,fun _=>Ep O hm0,hmv⟩
 have HOW:Hi (∀wq,gh W wq R (U (D b ob Z)) E.s.length c gb E.d tree->Cs prog 115 #[Po (U (D R 0 Z)),Ag (fe (nd E.s i) ka kc),I J dp,dw g x] wq fun e w'=>df E W R (U (D b ob Z)) c gb sn o tree wq e w'):=fun wq q=>Fh E W R _ c gb sn f hc hdv hN i hi ka kc hka hkc g x tz f cl nu dp o tree wq hcl hga htz hbare O hd1 hd2 hroom2 q;have HAR:Hi (∀wq,Cs prog 110 #[Ag #[I J (nd E.s i).kind,I J (nd E.s i).tag,I J (nd E.s i).mode,S ka (nd E.s i).kids.length kc]] wq fun e w'=>e=Rt (Tu #[Ag #[I J 0,I J 0,Bo false],Bo false])/\H wq.heap.size wq w'):=fun wq=>ow (nd E.s i) ka kc wq hmode;unfold dw fe at HOW;unfold dw;clear hmode hm0 hcl hbare hmv hroom2 hroom hga hfi hfl htz hTg hka ncl n0 n1 n2 n3 hI hm hg hN hdv hc;go_enter func78,ntmps78;go_upto_region 1 with fail;generalize hW0:((w.alloc (C #[Po (U (D R 0 Z))] 142)).alloc (C #[I J dp] 3)).alloc (C (gC g x) 151)=w0;have HB0:Hi (H w.heap.size w w0):=by show H w.heap.size w w0;rw[<-hW0];exact((Be).alloc Sq _).alloc So _
 have q4:w0.heap[w.heap.size]? =U (C #[Po (U (D R 0 Z))] 142 (0,0)):=by rw[<-hW0];exact ax (ax (aA w _) Be) Be
 have q6:w0.heap[w.heap.size+1]? =U (C #[I J dp] 3 (0,0)):=by rw[<-hW0];exact ax (by simpa using aA (w.alloc _) _) Be
 have q7:w0.heap[w.heap.size+1+1]? =U (C (gC g x) 151 (0,0)):=by rw[<-hW0];have q:=aA ((w.alloc (C #[Po (U (D R 0 Z))] 142)).alloc (C #[I J dp] 3)) (C (gC g x) 151);simpa using q
 have Q4:=aN q4;have Q6:=aN q6;have Q7:=aN q7;have HI0:=aN (HI.below HB0);clear hW0 q4 q6 q7 HA;have c4:w0.cell? (D w.heap.size 0 Z)=U (Po (U (D R 0 Z))):=cell_of_row Q4 X;have u0:w0.cell? (D R 0 Z)=U (S (U (D b ob Z)) E.s.length c):=HI0.out.r0;have v0:=(HB0.cell (aw m0)).trans m0;have v1:=(HB0.cell (aw m1)).trans m1;have v2:=(HB0.cell (aw m2)).trans m2;have v3:=(HB0.cell (aw m3)).trans m3;have hR0:R<w0.heap.size:=aw u0;have hb0:b<w0.heap.size:=aw v0;clear m0 m1 m2 m3 r0 hbl hRl;go_wp2_with fail;refine(HAR _).mono ?_;rintro e w1 ⟨rfl,hb1⟩;have hbn:H w0.heap.size w0 w1:=aT hb1;have hG9:=ax (aA w0 _) hb1;have HB1:Hi (H w.heap.size w w1):=HB0.trans (hbn.mono HB0.size);have p4:=ax Q4 hbn;have p6:=ax Q6 hbn;have p7:=ax Q7 hbn;have c4':w1.cell? (D w.heap.size 0 Z)=U (Po (U (D R 0 Z))):=cell_of_row p4 X;have c6:w1.cell? (D (w.heap.size+1) 0 Z)=U (I J dp):=cell_of_row p6 X;have s0:w1.cell? (D (w.heap.size+1+1) 0 Z)=U (I J g.c):=cell_of_row p7 X;have s1:w1.cell? (D (w.heap.size+1+1) 1 Z)=U (I J g.n):=cell_of_row p7 X;have s2:w1.cell? (D (w.heap.size+1+1) 2 Z)=U (Bo g.b):=cell_of_row p7 X;have s3:w1.cell? (D (w.heap.size+1+1) 3 Z)=U (I J x):=cell_of_row p7 X;have s4:w1.cell? (D (w.heap.size+1+1) 4 Z)=U (I J ((x:Int)+g.s)):=cell_of_row p7 X;have s5:w1.cell? (D (w.heap.size+1+1) 5 Z)=U (I J ((x:Int)+g.s+g.l)):=cell_of_row p7 X;have k0:w1.cell? (D w0.heap.size 0 Z)=U (I J (nd E.s i).kind):=cell_of_row hG9 X;have k1:w1.cell? (D w0.heap.size 1 Z)=U (I J (nd E.s i).tag):=cell_of_row hG9 X;have k2:w1.cell? (D w0.heap.size 2 Z)=U (I J (nd E.s i).mode):=cell_of_row hG9 X;have k3:w1.cell? (D w0.heap.size 3 Z)=U (S ka (nd E.s i).kids.length kc):=cell_of_row hG9 X;have hl1:w0.heap.size<w1.heap.size:=aw k0;have hl2:w.heap.size+1+1<w1.heap.size:=aw s0;have hl3:w.heap.size<w1.heap.size:=O;have hl4:w.heap.size+1<w1.heap.size:=O;have HI1:=aN (HI.below HB1);have HBA:Hi (∀o,H w1.heap.size w1 (w1.alloc o)):=fun o=>(By).alloc Ln o;clear hb1 hbn hG9 p4 p6 p7 c4 u0 v0 v1 v2 v3 hR0 hb0;go_wp2_with fail;refine(HOW _ (HI1.below (HBA _))).mono ?_;rintro e w6 ha6;have HA6:=aN ha6;have hcase:=ha6.two;clear ha6;rcases hcase with rfl|⟨q,za,rfl⟩
 ·go_wp2;go_ret;exact HA6.of ((Fr.of_below HB1).below (HBA _))
 unfold aX;go_wp2;go_ret;exact HA6.of ((Fr.of_below HB1).below (HBA _))
theorem tJ(E:cw)(W:M)(R:Nat)(a:Oo Ad)(c gb:Nat)(sn:Sn->Ad)(hc:PC E W a gb sn)(hdv:j0 E):∀f,lD E W R a c gb sn f
 |0=>fun _ _ _ _ _ _ _ _ _ hm=>by cases hm
 |f+1=>zg E W R a c gb sn f hc hdv (tJ E W R a c gb sn hc hdv f)
theorem EH(E:cw)(W:M)(R:Nat)(a:Oo Ad)(c gb:Nat)(sn:Sn->Ad)(root:Nat)(g:Hd)(x:Nat)(o:dM)(tree:Ls Vl)(w:M)(b1 b2:Nat)(h1:w.cell? (D b1 0 Z)=U (Po (U (D R 0 Z))))(h2:w.cell? (D b2 0 Z)=U (I J root))(h:∀wq,H w.heap.size w wq->Cs prog 78 #[Po (U (D R 0 Z)),I J root,I J 1,dw g x] wq fun e w'=>df E W R a c gb sn o tree wq e w'):Cs prog 77 #[dw g x,Po (U (D b1 0 Z)),Po (U (D b2 0 Z))] w fun e w'=>df E W R a c gb sn o tree w e w':=by
 have HO:=aN h;have l1:b1<w.heap.size:=aw h1;have l2:b2<w.heap.size:=aw h2;unfold dw at HO ⊢;clear h;go_enter func77,ntmps77;go_wp2_with fail;refine(HO _ Be).mono ?_;rintro e w1 ha;have HA:=aN ha;have hcase:=ha.two;clear ha;rcases hcase with rfl|⟨q,za,rfl⟩
 ·go_wp2;go_ret;exact HA.of (Fr.of_below Be)
 unfold aX;go_wp2;go_ret;exact HA.of (Fr.of_below Be)
theorem yV{E:cw}{f root:Nat}{v:Except (Int×Int) (Ls Vl)}(h:eI E f root=U v):∃o,(∀g,E.hd 0 E.d.size=(0,g)->dJ E f root 0 E.d.size 1=U o)/\((∃u,v= .error u/\ez E 0 E.d.size o= .error u)\/∃vs,v= .ok vs/\ez E 0 E.d.size o= .ok (vs,E.d.size)):=by
 unfold eI at h;rcases bJ h with⟨u,h1,rfl⟩|⟨vs,z,h1,h2⟩
 ·refine⟨.error u,fun _ _=>h1,.inl ⟨u,X,?_⟩⟩;unfold ez;by_cases q:(E.hd 0 E.d.size).1≠0
  ·rw[aG q];have:=nU h1 q;rw[this]
  rw[G q]
 obtain⟨hh,hz⟩:=gB h1;refine⟨.ok (vs,z),fun _ _=>h1,?_⟩;unfold ez;rw[G (by rw[hh];simp)];simp only;rw[<-hz];split at h2
 ·rename_i q;refine .inl ⟨_,(aK h2).symm,?_⟩;rw[aG q]
 rename_i q;refine .inr ⟨vs,(aK h2).symm,?_⟩;rw[G q]
end Go.Proofs.YtkkicodfpekbgaaGreatDoor
namespace Go.Proofs.YtkkicodfpekbgaaGreatDoor
open Go.RowKit

end Go.Proofs.YtkkicodfpekbgaaGreatDoor
namespace Go.Proofs.YtkkicodfpekbgaaGreatDoor
open Go.Proofs.Tryz
open Go.RowKit Go.Extern.Stop Go.Stop Go.Extern
theorem AC{B g:Nat}{w0 w:M}(hb:H B w0 w)(hg:B<=g)(cs:Array Vv):H B w0 (w.setRow g cs):=
 ⟨hb.os,hb.tape,hb.output,by simpa [World.setRow]using hb.size,fun k hk=>(setRow_other w g k cs O).trans (hb.block k hk)⟩
theorem FA(t:Vv)(w:M):Cs prog 79 #[.nilIface,t] w fun e w'=>e=Rt (Bo false)/\w'=w:=by
 go_enter func79,ntmps79;go_wp2;go_ret;exact⟨X,X⟩
theorem rZ(t:Ad)(w:M):(ReflectliteValue.unpack (If 157 (Po (U t)))).run prog w
 = .ok (Ag #[Po (U (D 19 157 Z)),Po (U (D w.heap.size 0 Z)),I .u64 150]) (w.alloc (C #[Po (U t)] 157)):=Kr
theorem xF(a:Ad)(w:M):(ReflectliteValue.methodAny (ReflectliteValue.valueError "reflectlite.Value.Type" 0) (fun t _ _ _=>ReflectliteType.toType t) #[(Ag #[Po (U (D 19 157 Z)),Po (U a),I .u64 150])]).run prog w
 = .ok (If 220 (Ag #[Po (U (D 19 157 Z))])) w:=Kr
theorem pg(h:Vv)(w:M):(Go.method 424 220 (Ag #[h]) "Kind").run prog w= .ok (227,h) w:=Kr
theorem xC(w:M):((ReflectliteType.abiMethod fun t=>(fun a:Nat=>Value.int IntKind.u8 (a:Int)) <$> Rtype.kind t) #[Po (U (D 19 157 Z))]).run prog w= .ok (I .u8 22) w:=Kr
theorem xB(w:M):((ReflectliteType.abiMethod fun t=>(fun a:Nat=>Value.int IntKind.u8 (a:Int)) <$> Rtype.kind t) #[Po (U (D 19 155 Z))]).run prog w= .ok (I .u8 25) w:=Kr
theorem Ir(z:Sem Vv)(f:TypeId->Ad->Nat->Nat->Sem Vv)(v:Vv):
 ReflectliteValue.method z f #[v]=(do match<-ReflectliteValue.parts v with|none=>z|some (t,a,fl)=>f t a fl (fl%32)):=X
theorem oS(a:Ad)(w:M):(ReflectliteValue.parts (Ag #[Po (U (D 19 157 Z)),Po (U a),I .u64 150])).run prog w= .ok (U (157,a,150)) w:=Kr
theorem vu(a p:Ad)(W:M)(ha:W.cell? a=U (Po (U p))):(ReflectliteValue.method (ReflectliteValue.valueError "reflectlite.Value.IsNil" 0) ReflectliteValue.isNil #[(Ag #[Po (U (D 19 157 Z)),Po (U a),I .u64 150])]).run prog W= .ok (Bo false) W:=by
 rw[Ir];simp only[ky,oS,Result.andThen];simp[ReflectliteValue.isNil,loadVar,isAgg,underlying,underlying157,ha,Result.andThen]
theorem pf(h:Vv)(w:M):(Go.method 424 220 (Ag #[h]) "Elem").run prog w= .ok (238,Ag #[h]) w:=Kr
theorem lA(h:Vv)(w:M):(Go.method 424 220 (Ag #[h]) "Implements").run prog w= .ok (239,Ag #[h]) w:=Kr
theorem kC(h:Vv)(w:M):(Go.method 424 220 (Ag #[h]) "AssignableTo").run prog w= .ok (236,Ag #[h]) w:=Kr
theorem xj(w:M):(ReflectliteType.method ReflectliteType.elem #[Ag #[Po (U (D 19 157 Z))]]).run prog w= .ok (If 220 (Ag #[Po (U (D 19 155 Z))])) w:=Kr
theorem ou(w:M):(ReflectliteType.relation "Implements" ReflectliteType.implements_ #[Ag #[Po (U (D 19 155 Z))],(If 220 (Ag #[Po (U (D 19 85 Z))]))]).run prog w= .ok (Bo true) w:=Kr
theorem ub(v:Vv)(w:M):(ReflectliteType.typeOf #[If 155 v]).run prog w= .ok (If 220 (Ag #[Po (U (D 19 155 Z))])) w:=Kr
theorem ot(w:M):(ReflectliteType.relation "AssignableTo" ReflectliteType.assignableTo #[Ag #[Po (U (D 19 155 Z))],(If 220 (Ag #[Po (U (D 19 155 Z))]))]).run prog w= .ok (Bo true) w:=Kr
theorem rY(p:Int)(u:Vv)(w:M):(ReflectliteValue.unpack (If 155 (Ag #[I J p,u]))).run prog w
 = .ok (Ag #[Po (U (D 19 155 Z)),Po (U (D w.heap.size 0 Z)),I .u64 153]) (w.alloc (C #[I J p,u] 155)):=Kr
theorem tU(w:M):(Rtype.elem? 157).run prog w= .ok (U 155) w:=Kr
theorem Cl(p:Ad)(w:M):(ReflectliteValue.mk 155 p ReflectliteValue.flagAddr).run prog w= .ok (Ag #[Po (U (D 19 155 Z)),Po (U p),I .u64 409]) w:=Kr
theorem uT(a p:Ad)(W:M)(ha:W.cell? a=U (Po (U p))):(ReflectliteValue.method (ReflectliteValue.valueError "reflectlite.Value.Elem" 0) ReflectliteValue.elem #[(Ag #[Po (U (D 19 157 Z)),Po (U a),I .u64 150])]).run prog W= .ok (Ag #[Po (U (D 19 155 Z)),Po (U p),I .u64 409]) W:=by
 rw[Ir];simp only[ky,oS,Result.andThen];simp[ReflectliteValue.elem,loadVar,isAgg,underlying,underlying157,ha,Result.andThen,tU,Cl]
theorem ua(a:Ad)(w:M):(ReflectliteValue.parts (Ag #[Po (U (D 19 155 Z)),Po (U a),I .u64 409])).run prog w= .ok (U (155,a,409)) w:=Kr
theorem vx(a:Ad)(w:M):(ReflectliteValue.parts (Ag #[Po (U (D 19 155 Z)),Po (U a),I .u64 153])).run prog w= .ok (U (155,a,153)) w:=Kr
theorem tT(w:M):(Rtype.directlyAssignable 155 155).run prog w= .ok true w:=Kr
theorem qf:(prog.info? 155).map (·.size)=U 2:=Kr
theorem Ax(g b:Nat)(p:Int)(u o1 o2:Vv)(W:M)(hb:W.heap[b]? =U (C #[I J p,u] 155 (0,0)))(hu1:u.oneCell'=true)(hg:W.heap[g]? =U (C #[o1,o2] 155 (0,0))):(ReflectliteValue.set #[Ag #[Po (U (D 19 155 Z)),Po (U (D g 0 Z)),I .u64 409],Ag #[Po (U (D 19 155 Z)),Po (U (D b 0 Z)),I .u64 153]]).run prog W= .ok (Tu #[]) (W.setRow g #[I J p,u]):=by
 have hl:=run_loadVar_row (P:=prog) W b _ 155 _ _ _ hb underlying155 X qf;have hs:=run_storeVar_row (P:=prog) W g _ 155 _ #[I J p,u] hg qf X (by rw[Array.all_eq_true_iff_forall_mem];intro v hv;simp at hv;rcases hv with rfl|rfl;exact X;exact hu1);have e:ReflectliteValue.set #[Ag #[Po (U (D 19 155 Z)),Po (U (D g 0 Z)),I .u64 409],Ag #[Po (U (D 19 155 Z)),Po (U (D b 0 Z)),I .u64 153]]=bind (ReflectliteValue.parts (Ag #[Po (U (D 19 155 Z)),Po (U (D g 0 Z)),I .u64 409])) (fun p=>bind (ReflectliteValue.parts (Ag #[Po (U (D 19 155 Z)),Po (U (D b 0 Z)),I .u64 153])) _):=X;rw[e];simp only[ky,ua,vx,Result.andThen];simp[ReflectliteValue.flagAddr,hl,Result.andThen,tT,hs]
theorem Fz(p:Int)(u o1 o2:Vv)(g:Nat)(w:M)(hu1:u.oneCell'=true)(hg:w.cell? (D 13 0 Z)=U (If 220 (Ag #[Po (U (D 19 85 Z))])))(ht:w.heap[g]? =U (C #[o1,o2] 155 (0,0))):Cs prog 79 #[If 155 (Ag #[I J p,u]),If 157 (Po (U (D g 0 Z)))] w fun ev w'=>ev=Rt (Bo true)/\H g w w'/\w'.cell? (D g 0 Z)=U (I J p):=by
 have h6:= @cf prog 118 _ (fun args=>ReflectliteValue.unpack (args.getD 0 (Tu #[]))) func118 Kr Kr Kr Kr;have h7:= @cf prog 119 _ (ReflectliteValue.methodAny (ReflectliteValue.valueError "reflectlite.Value.Type" 0) (fun t _ _ _=>ReflectliteType.toType t)) func119 Kr Kr Kr Kr;have h8:= @cf prog 120 _ (ReflectliteValue.method (ReflectliteValue.valueError "reflectlite.Value.IsNil" 0) ReflectliteValue.isNil) func120 Kr Kr Kr Kr;have h27:= @cf prog 227 _ (ReflectliteType.abiMethod fun t=>do pure (I .u8 (<-Rtype.kind t))) func227 Kr Kr Kr Kr;have h37:= @cf prog 238 _ (ReflectliteType.method ReflectliteType.elem) func238 Kr Kr Kr Kr;have h38:= @cf prog 239 _ (ReflectliteType.relation "Implements" ReflectliteType.implements_) func239 Kr Kr Kr Kr;have h10:= @cf prog 90 _ ReflectliteType.typeOf func90 Kr Kr Kr Kr;have h35:= @cf prog 236 _ (ReflectliteType.relation "AssignableTo" ReflectliteType.assignableTo) func236 Kr Kr Kr Kr;have h11:= @cf prog 164 _ (ReflectliteValue.method (ReflectliteValue.valueError "reflectlite.Value.Elem" 0) ReflectliteValue.elem) func164 Kr Kr Kr Kr;have h12:= @cf prog 165 _ ReflectliteValue.set func165 Kr Kr Kr Kr;have tO:=ub;have mA:=kC;have aF:=ot;have vF:=rY p u;have f6:=rZ;have f7:=xF;have mK:=pg;have mE:=pf;have mI:=lA;have kP:=xC;have kF:=xB;have eP:=xj;have iF:=ou;have hgl:g<w.heap.size:=bm ht;have hlt:13<w.heap.size:=aw hg;have htl:((D g 0 Z):Ad).block<w.heap.size:=hgl;have n8:=vu (D w.heap.size 0 Z) (D g 0 Z) ((w.alloc (C #[Po (U (D g 0 Z))] 157)).alloc (C #[Po (U (D 19 157 Z)),Po (U (D w.heap.size 0 Z)),I .u64 150] 203)) Sq;have hg2:((w.alloc (C #[Po (U (D g 0 Z))] 157)).alloc (C #[Po (U (D 19 157 Z)),Po (U (D w.heap.size 0 Z)),I .u64 150] 203)).cell? (D 13 0 Z)=U (If 220 (Ag #[Po (U (D 19 85 Z))])):=by rw[lJ _ _ (D 13 0 Z) So,lJ _ _ (D 13 0 Z) hlt];exact hg
 have el:=uT (D w.heap.size 0 Z) (D g 0 Z) (((w.alloc (C #[Po (U (D g 0 Z))] 157)).alloc (C #[Po (U (D 19 157 Z)),Po (U (D w.heap.size 0 Z)),I .u64 150] 203)).alloc (C #[Po (U (D 19 157 Z)),Po (U (D w.heap.size 0 Z)),I .u64 150] 203)) (by rw[lJ _ _ (D w.heap.size 0 Z) So];simp);have hold:((((w.alloc (C #[Po (U (D g 0 Z))] 157)).alloc (C #[Po (U (D 19 157 Z)),Po (U (D w.heap.size 0 Z)),I .u64 150] 203)).alloc (C #[Po (U (D 19 157 Z)),Po (U (D w.heap.size 0 Z)),I .u64 150] 203)).alloc (C #[I J p,u] 155)).heap[g]? =U (C #[o1,o2] 155 (0,0)):=by rw[bM _ _ _ So,bM _ _ _ So,bM _ _ _ So,bM _ _ _ hgl];exact ht
 have st:=Ax g (w.heap.size+1+1+1) p u o1 o2 ((((w.alloc (C #[Po (U (D g 0 Z))] 157)).alloc (C #[Po (U (D 19 157 Z)),Po (U (D w.heap.size 0 Z)),I .u64 150] 203)).alloc (C #[Po (U (D 19 157 Z)),Po (U (D w.heap.size 0 Z)),I .u64 150] 203)).alloc (C #[I J p,u] 155)) (by have:=aA (((w.alloc (C #[Po (U (D g 0 Z))] 157)).alloc (C #[Po (U (D 19 157 Z)),Po (U (D w.heap.size 0 Z)),I .u64 150] 203)).alloc (C #[Po (U (D 19 157 Z)),Po (U (D w.heap.size 0 Z)),I .u64 150] 203)) (C #[I J p,u] 155);simpa using this) hu1 hold;have HOLD:=aN hold;clear hold ht hu1;go_enter func79,ntmps79;go_wp2;refine eJ 1 ?_;rw[ch];go_wp2;go_ret;refine⟨X,AC ?_ (Nat.le_refl g) _,?_⟩
 ·exact((((aY g w).alloc O _).alloc So _).alloc So _).alloc So _
 rw[cell_setRow_same _ _ _ _ _ _ _ HOLD.out];rfl
theorem Bj(w:M):Cs prog 48 #[.nilIface] w fun e w'=>e=Rt (I J 0)/\H w.heap.size w w':=by
 have HA:=FA;go_enter func48,ntmps48;go_wp2_with fail;refine(HA _ _).mono ?_;rintro e w1 ⟨rfl,rfl⟩;go_wp2;go_ret;exact⟨X,Be⟩
theorem wH(p:Int)(u:Vv)(w:M)(hu1:u.oneCell'=true)(hg:w.cell? (D 13 0 Z)=U (If 220 (Ag #[Po (U (D 19 85 Z))]))):Cs prog 48 #[fq p u] w fun e w'=>e=Rt (I J p)/\H w.heap.size w w':=by
 have hlt:13<w.heap.size:=aw hg;have HA:Hi (∀o1 o2,Cs prog 79 #[If 155 (Ag #[I J p,u]),If 157 (Po (U (D w.heap.size 0 Z)))] (w.alloc (C #[o1,o2] 155)) fun ev w'=>ev=Rt (Bo true)/\H w.heap.size (w.alloc (C #[o1,o2] 155)) w'/\w'.cell? (D w.heap.size 0 Z)=U (I J p)):=fun o1 o2=>Fz p u o1 o2 w.heap.size _ hu1 (by rw[lJ _ _ (D 13 0 Z) hlt];exact hg) (aA w _);unfold fq;clear hg hu1;go_enter func48,ntmps48;go_wp2_with fail;refine(HA _ _).mono ?_;rintro e w1 ⟨rfl,hb1,hc1⟩;have HB1:Hi (H w.heap.size w w1):=(Be).trans hb1;have hl1:=aw hc1;simp only at hl1;clear hb1;go_wp2;go_ret;exact⟨X,HB1⟩
end Go.Proofs.YtkkicodfpekbgaaGreatDoor
