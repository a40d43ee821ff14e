/-
The document's reader: node, of the kinds 1 to 9 (a Tag of Mode 1).
-/
import Derived.Test.YtkkicodfpekbgaaGreatDoorJd2
import Derived.Deep.DeepCutAuto
open Go.Value renaming int->I,slice->S,pointer->Po,bool->Bo,agg->Ag,tuple->Tu
open Go.IntKind renaming i64->J
open Go.Obj renaming cells->C
open Go.Ending renaming returned->Rt
open Option renaming some->U,none->Z
open Go renaming World->M,Calls->Cs,Addr->Ad
open _root_ renaming ByteArray->Q,Option->Oo,List->Ls
open Go.RowKit renaming Below->H,Hid->Hi
open Go.World renaming cell?->Wc
open Go.Act renaming put->Ap,eval->Ae
open Go.Addr renaming mk->D
set_option linter.unusedSimpArgs false
set_option linter.unusedVariables false
set_option maxRecDepth 100000
set_option maxHeartbeats 8000000
namespace Go.Proofs.YtkkicodfpekbgaaGreatDoor
open Go.RowKit
theorem yK(s:Ls Nd)(W w:M)(R:Nat)(a:Oo Ad)(c:Nat)(data:Q)(tree:Ls Vl)(p:Int)(i x y:Nat)(dp:Int)(h:dk W w R a s.length c data tree 0 p)(hs:ju W a s)(hi:i<s.length)(hk1:1<=(nd s i).kind)(hk9:(nd s i).kind<=9)(htg':0<=(nd s i).tag)(hm0:(nd s i).mode=1)(hxy:x<=y)(hy:y<=data.size)(hm:data.size<=140737488355328)(ht:tree.length<=1099511627776):Cs Tryz.prog 69 #[Po (U (D R 0 Z)),I J i,I J x,I J y,I J dp] w fun e w'=>Cb W R a s.length c data (nd s i) x y dp tree e w':=by
 have HI:Hi (dk W w R a s.length c data tree 0 p):=h;have HHD:Hi (∀(w1:M) (p:Int) (x y:Nat),dk W w1 R a s.length c data tree 0 p->x<=y->y<=data.size->Cs Tryz.prog 101 #[Po (U (D R 0 Z)),I J x,I J y] w1 fun e w'=>e=Rt (hv (hd (data.extract x y)).2)/\dk W w' R a s.length c data tree (hd (data.extract x y)).1 (if(hd (data.extract x y)).1=0 then p else x)/\Fr R w1 w'):=fun w1 p x y h1 h2 h3=>jG W w1 R a s.length c data tree p x y h1 h2 h3 hm;obtain⟨hb,hlo,vt,hr,_⟩:=h;unfold eh at hr;have c0:w.cell? (D R 0 Z)=U (S a s.length c):=by simp[Wc,hr]
 have hRl:R<w.heap.size:=aw c0;clear hr;obtain⟨b,o,ka,kc,rfl,nc,kl,km,ks⟩:=hs i hi;obtain⟨n1,n2,n3,n4⟩:=nc.below hb;have hi':(i:Int)<s.length:=O;clear hs nc ks hb;generalize hN:nd s i=N at*;clear hN;have HM0:Hi (N.mode=1):=hm0;have e0:(N.mode==0)=false:=by simp[hm0]
 clear hm0;have HX:Hi (∀tq u,fP N data x y dp tq u->(hd (data.extract x y)).1=0):=fun tq u q=>q.2.1;go_enter Tryz.func69,Tryz.ntmps69;go_wp2_with fail;refine(HHD.out _ p x y (HI.out.below Be) hxy hy).mono ?_;rintro e w1 ⟨rfl,hI1,hf1⟩;have HG1:Hi (w1.heap[w.heap.size]? =U (C #[I J N.kind,I J N.tag,I J N.mode,S ka N.kids.length kc] 58 (0,0))):=hf1 _ _ _ O Dc (aA w _);obtain⟨hc,hb,hn,hz,hl,hH⟩:∃hc hb hn hz hl,(hd (data.extract x y)).2=⟨hc,hb,hn,hz,hl⟩:=⟨_,_,_,_,_,X⟩;have HH:Hi ((hd (data.extract x y)).2=⟨hc,hb,hn,hz,hl⟩):=hH;rw[hH];unfold hv;obtain⟨k1,hk⟩:∃k,(hd (data.extract x y)).1=k:=Ey;have HK:Hi ((hd (data.extract x y)).1=k1):=hk;rw[hk]at hI1;have HI1:Hi (dk W w1 R (U (D b o Z)) s.length c data tree k1 (if k1=0 then p else x)):=hI1;obtain⟨_,_,vt1,hr1,_⟩:=hI1;unfold eh at hr1;have r3:w1.cell? (D R 3 Z)=U (I J k1):=by simp[Wc,hr1]
 have hs1:w.heap.size<w1.heap.size:=by
  rcases cG w.heap.size w1.heap.size with h'|h'
  ·exact h'
  have:=HG1.out;rw[bj h']at this;cases this
 have hRs:R<w1.heap.size:=O;have m0:w1.cell? (D w.heap.size 0 Z)=U (I J N.kind):=by simp[Wc,HG1.out]
 have m1:w1.cell? (D w.heap.size 1 Z)=U (I J N.tag):=by simp[Wc,HG1.out]
 have m2:w1.cell? (D w.heap.size 2 Z)=U (I J N.mode):=by simp[Wc,HG1.out]
 have m3:w1.cell? (D w.heap.size 3 Z)=U (S ka N.kids.length kc):=by simp[Wc,HG1.out]
 clear hf1 hH hk hr1 n1 n2 n3 n4 c0;by_cases hk0:k1=0
 ·subst hk0;have hok:=i3 HK.out;rw[HH.out]at hok;simp only at hok;rw[show(data.extract x y).size=y-x by simp;omega]at hok;obtain⟨z,rfl⟩:∃z:Nat,hz=z:=⟨hz.toNat,O⟩;obtain⟨l,rfl⟩:∃l:Nat,hl=l:=⟨hl.toNat,O⟩;have hzl:x+z+l<=y:=O;have hto1:(x:Int)+z<=9223372036854775807:=O;have hto2:(x:Int)+z+l<=9223372036854775807:=O
  have BA:Hi (∀(w3:M) (cl nu:Int),dk W w3 R (U (D b o Z)) s.length c data tree 0 p->Cs Tryz.prog 102 #[Po (U (D R 0 Z)),Ag #[I J N.kind,I J N.tag,I J N.mode,S ka N.kids.length kc],I J cl,I J nu,Ag #[I J hc,Bo hb,I J hn,I J z,I J l],I J x,I J ((x:Int)+z+l),I J dp] w3
   fun e w'=>Cc W w3 R (U ⟨b,o,Z⟩) s.length c data (Tu #[]) (kr N.kind cl nu ⟨hc,hb,hn,z,l⟩ data x z (x+z+l) dp tree p) e w'):=fun w3 cl nu h3=>by
   have:=kE W w3 R (U (D b o Z)) s.length c data tree p N ka kc cl nu hc hb hn z l x (x+z+l) dp h3 hk1 hk9 O O hm ht
   rw[show((x+z+l:Nat):Int)=(x:Int)+z+l by omega]at this
   exact this
  have HI2:Hi (∀o1,dk W (w1.alloc o1) R (U (D b o Z)) s.length c data tree 0 p):=fun o1=>HI1.out.below Be;clear hok;have RUN0:Hi (∀args w,(callFunc 103 args).run Tryz.prog w= .ok (.enter 103 args) w):=fun args w=>eY Tryz.func103 Kr Rf args w;have RUNB:Hi (∀args w,(callFunc 102 args).run Tryz.prog w= .ok (.enter 102 args) w):=fun args w=>eY Tryz.func102 Kr Rf args w;have HT:Hi (0<=N.tag):=htg';by_cases q:hc=2/\hn=N.tag/\hb=true
  ·have HQ:Hi (hc=2/\hn=N.tag/\hb=true):=q;(have q1:(hc !=2)=false:=by simp[q.1]);(have q2:(hn !=N.tag)=false:=by simp[q.2.1]);obtain rfl:hb=true:=q.2.2;clear q;by_cases hdp:12<dp
   ·have HD:Hi (12<dp):=hdp;go_wp2_with fail;refine(bO W _ R _ s.length c data tree p 10 x (HI2.out _)).mono ?_;rintro e w3 ⟨rfl,hI3,_⟩;have HI3:Hi (dk W w3 R (U (D b o Z)) s.length c data tree 10 x):=hI3;clear hI3;go_wp2;go_ret;exact⟨y,tree,10,x,X,HI3.out,.inr ⟨Dc,fun tq u q=>by have:=(fF HH.out HT.out HM0.out q).2.2.2.2.1;have:=HD.out;omega⟩⟩
   have hdp':dp<=12:=O;have HD:Hi (dp<=12):=hdp';clear hdp;(have HHD2:Hi (∀w1,dk W w1 R (U (D b o Z)) s.length c data tree 0 p->Cs Tryz.prog 101 #[Po (U (D R 0 Z)),I J ((x:Int)+z),I J ((x:Int)+z+l)] w1 fun e w'=>e=Rt (hv (hd (data.extract (x+z) (x+z+l))).2)/\dk W w' R (U (D b o Z)) s.length c data tree (hd (data.extract (x+z) (x+z+l))).1 (if(hd (data.extract (x+z) (x+z+l))).1=0 then p else((x+z:Nat):Int))/\Fr R w1 w'):=fun w1 h1=>by have:=HHD.out w1 p (x+z) (x+z+l) h1 O O;rw[show((x+z+l:Nat):Int)=(x:Int)+z+l by omega]at this;rw[show((x+z:Nat):Int)=(x:Int)+z by omega]at this ⊢;exact this);go_wp2_with fail;refine(HHD2.out _ (HI2.out _)).mono ?_;rintro e w3 ⟨rfl,hI3,hf3⟩;have HG3:Hi (w3.heap[w.heap.size]? =U (C #[I J N.kind,I J N.tag,I J N.mode,S ka N.kids.length kc] 58 (0,0))):=hf3 _ _ _ O Dc (ax HG1.out Be);have HG4:Hi (w3.heap[w1.heap.size]? =U (C #[I J hc,Bo true,I J hn,I J z,I J l] 179 (0,0))):=hf3 _ _ _ O Dc (aA w1 _);obtain⟨hc2,hb2,hn2,hz2,hl2,hH2⟩:∃hc hb hn hz hl,(hd (data.extract (x+z) (x+z+l))).2=⟨hc,hb,hn,hz,hl⟩:=⟨_,_,_,_,_,X⟩;have HH2:Hi ((hd (data.extract (x+z) (x+z+l))).2=⟨hc2,hb2,hn2,hz2,hl2⟩):=hH2;rw[hH2];unfold hv;obtain⟨k2,hk2⟩:∃k,(hd (data.extract (x+z) (x+z+l))).1=k:=Ey;have HK2:Hi ((hd (data.extract (x+z) (x+z+l))).1=k2):=hk2;rw[hk2]at hI3;have HI3:Hi (dk W w3 R (U (D b o Z)) s.length c data tree k2 (if k2=0 then p else((x+z:Nat):Int))):=hI3;obtain⟨_,_,vt3,hr3,_⟩:=hI3;unfold eh at hr3;(have r33:w3.cell? (D R 3 Z)=U (I J k2):=by simp[Wc,hr3]);have hs3:w1.heap.size<w3.heap.size:=by
    rcases cG w1.heap.size w3.heap.size with h'|h'
    ·exact h'
    have:=HG4.out;rw[bj h']at this;cases this
   have hs3':w.heap.size<w3.heap.size:=O;have hR3:R<w3.heap.size:=O;(have p0:w3.cell? (D w.heap.size 0 Z)=U (I J N.kind):=by simp[Wc,HG3.out]);(have p1:w3.cell? (D w.heap.size 1 Z)=U (I J N.tag):=by simp[Wc,HG3.out]);(have p2:w3.cell? (D w.heap.size 2 Z)=U (I J N.mode):=by simp[Wc,HG3.out]);(have p3:w3.cell? (D w.heap.size 3 Z)=U (S ka N.kids.length kc):=by simp[Wc,HG3.out]);(have g3:w3.cell? (D w1.heap.size 3 Z)=U (I J z):=by simp[Wc,HG4.out]);clear hf3 hH2 hk2 hr3 m0 m1 m2 m3 r3;by_cases hk20:k2=0
   ·subst hk20;have hok:=i3 HK2.out;rw[HH2.out]at hok;simp only at hok;rw[show(data.extract (x+z) (x+z+l)).size=l by simp;omega]at hok;obtain⟨z2,rfl⟩:∃z2:Nat,hz2=z2:=⟨hz2.toNat,O⟩;obtain⟨l2,rfl⟩:∃l2:Nat,hl2=l2:=⟨hl2.toNat,O⟩;have hzl2:z2+l2<=l:=O;have hto3:(x:Int)+z+z2<=9223372036854775807:=O;have hto4:(x:Int)+z+z2+l2<=9223372036854775807:=O
    have BA2:Hi (∀(w3:M),dk W w3 R (U (D b o Z)) s.length c data tree 0 p->Cs Tryz.prog 102 #[Po (U (D R 0 Z)),Ag #[I J N.kind,I J N.tag,I J N.mode,S ka N.kids.length kc],I J 0,I J (own N.kind),Ag #[I J hc2,Bo hb2,I J hn2,I J z2,I J l2],I J ((x:Int)+z),I J ((x:Int)+z+z2+l2),I J dp] w3
     fun e w'=>Cc W w3 R (U ⟨b,o,Z⟩) s.length c data (Tu #[]) (kr N.kind 0 (own N.kind) ⟨hc2,hb2,hn2,z2,l2⟩ data (x+z) z2 (x+z+z2+l2) dp tree p) e w'):=fun w3 h3=>by
     have:=kE W w3 R (U (D b o Z)) s.length c data tree p N ka kc 0 (own N.kind) hc2 hb2 hn2 z2 l2 (x+z) (x+z+z2+l2) dp h3 hk1 hk9 O O hm ht
     rw[show((x+z+z2+l2:Nat):Int)=(x:Int)+z+z2+l2 by omega,show((x+z:Nat):Int)=(x:Int)+z by omega]at this
     exact this
    have HI4:Hi (∀o1,dk W (w3.alloc o1) R (U (D b o Z)) s.length c data tree 0 p):=fun o1=>HI3.out.below Be;have HO:Hi (∀w,Cs Tryz.prog 103 #[I J N.kind] w fun e w'=>e=Rt (I J (own N.kind))/\H w.heap.size w w'):=fun w=>qY N.kind O O w;clear hok;have hwr:IntKind.i64.wrap ((x:Int)+z)=(x:Int)+z:=ik _ O O;go_upto_region 22 with fail;go_cut [127] (fun _ wx=>∃tree' e' p',dk W wx R (U (D b o Z)) s.length c data tree' e' p'/\kr N.kind 0 (own N.kind) ⟨hc2,hb2,hn2,z2,l2⟩ data (x+z) z2 (x+z+z2+l2) dp tree p tree' e' p');case first=>go_region_law (first|(refine ib X 103 _ _ X #[I J N.kind] (by simp[Ae,Ap]) (I J (own N.kind)) (fun w'=>H ((w3.alloc (C #[I J hc2,Bo hb2,I J hn2,I J z2,I J l2] 179)).drew).heap.size ((w3.alloc (C #[I J hc2,Bo hb2,I J hn2,I J z2,I J l2] 179)).drew) w') (RUN0.out _ _) (HO.out _) ?_;intro w5 hb5;have hI5:=((HI4.out _).below (Go.below_drewN By 1)).below hb5;obtain⟨hc5,hf5⟩:=mN hb5)|(refine ib X 102 _ _ X #[Po (U (D R 0 Z)),Ag #[I J N.kind,I J N.tag,I J N.mode,S ka N.kids.length kc],I J 0,I J (own N.kind),Ag #[I J hc2,Bo hb2,I J hn2,I J z2,I J l2],I J ((x:Int)+z),I J ((x:Int)+z+z2+l2),I J dp] (by simp[Ae,Ap,hwr]) (Tu #[]) (fun w'=>∃tree' e' p',dk W w' R (U (D b o Z)) s.length c data tree' e' p'/\kr N.kind 0 (own N.kind) ⟨hc2,hb2,hn2,z2,l2⟩ data (x+z) z2 (x+z+z2+l2) dp tree p tree' e' p'/\Fr R w5 w') (RUNB.out _ _) (BA2.out _ hI5) ?_;rintro w6 ⟨tree',e',p',hI6,hB6,hf6⟩));all_goals clear hc5 hf5 hb5 hf6;go_wp2_with fail;go_meet;exact⟨tree',e',p',hI6,hB6⟩
    case rest=>
     obtain⟨tree',e',p',hI6,hB6⟩:=hcut;obtain⟨w6,hw6⟩:∃w6,w6=wc:=Ez;subst hw6;have HB6:Hi (kr N.kind 0 (own N.kind) ⟨hc2,hb2,hn2,z2,l2⟩ data (x+z) z2 (x+z+z2+l2) dp tree p tree' e' p'):=hB6;have HI6:Hi (dk W w6 R (U (D b o Z)) s.length c data tree' e' p'):=hI6;have HC:=G9 HK.out HH.out HT.out HM0.out ⟨HQ.out.1,HQ.out.2.1,X⟩ HD.out HK2.out HH2.out hB6;have HCH:Hi ((x+z+z2+l2=x+z+l->BY N data x y dp tree tree' ((x:Int)+z+l) e')/\(x+z+z2+l2≠x+z+l->∀tq u,¬fP N data x y dp tq u)/\(e'≠0->∀tq u,¬fP N data x y dp tq u)):=HC;obtain⟨_,_,vt6,hr6,_⟩:=hI6;unfold eh at hr6;(have r6:w6.cell? (D R 3 Z)=U (I J e'):=by simp[Wc,hr6]);clear hB6 HC hr6 p0 p1 p2 p3 g3 r33;by_cases he:e'=0
     ·subst he;by_cases hbe:z2+l2=l
      ·have hbe':(x:Int)+z+l<=(x:Int)+z+z2+l2:=O;go_wp2;go_ret;exact⟨_,tree',0,p',X,HI6.out,HCH.out.1 O⟩
      have hbe':(x:Int)+z+z2+l2<(x:Int)+z+l:=O;(have HNE:Hi (x+z+z2+l2≠x+z+l):=by show x+z+z2+l2≠x+z+l;omega);go_wp2_with fail;refine(bO W _ R _ s.length c data tree' p' 7 ((x:Int)+z+z2+l2) HI6.out).mono ?_;rintro e w7 ⟨rfl,hI7,_⟩;have HI7:Hi (dk W w7 R (U (D b o Z)) s.length c data tree' 7 ((x:Int)+z+z2+l2)):=hI7;clear hI7;go_wp2;go_ret;exact⟨_,tree',7,_,X,HI7.out,.inr ⟨Dc,HCH.out.2.1 HNE.out⟩⟩
     (have he':(e'==0)=false:=by simp[he]);have HE:Hi (e'≠0):=he;clear he;go_wp2;go_ret;exact⟨_,tree',e',p',X,HI6.out,.inr ⟨HE.out,HCH.out.2.2 HE.out⟩⟩
   have HK0:Hi (k2≠0):=hk20;(have e2:(k2 !=0)=true:=by simp[hk20]);have HI4:Hi (∀o1,dk W (w3.alloc o1) R (U (D b o Z)) s.length c data tree k2 (if k2=0 then p else((x+z:Nat):Int))):=fun o1=>HI3.out.below Be;clear hk20;go_wp2;go_ret;exact⟨y,tree,k2,_,X,HI4.out _,.inr ⟨HK0.out,fun tq u q=>HK0.out (HK2.out.symm.trans (fF HH.out HT.out HM0.out q).2.2.2.2.2.1)⟩⟩
  have HQ:Hi (¬(hc=2/\hn=N.tag/\hb=true)):=q;have q':(hc !=2)=true\/((hc !=2)=false/\(hn !=N.tag)=true)\/((hc !=2)=false/\(hn !=N.tag)=false/\hb=false):=by
   by_cases q1:hc=2
   ·by_cases q2:hn=N.tag
    ·right;right;refine⟨by simp[q1],by simp[q2],?_⟩;cases hb
     ·rfl
     exact Ab ⟨q1,q2,X⟩ q
    right;left;exact⟨by simp[q1],by simp[q2]⟩
   left;simp[q1]
  clear q;rcases q' with e1|⟨e1,e2⟩|⟨e1,e2,rfl⟩
  ·go_wp2_with fail;refine(bO W _ R _ s.length c data tree p 4 x (HI2.out _)).mono ?_;rintro e w3 ⟨rfl,hI3,_⟩;have HI3:Hi (dk W w3 R (U (D b o Z)) s.length c data tree 4 x):=hI3;clear hI3;go_wp2;go_ret;exact⟨y,tree,4,x,X,HI3.out,.inr ⟨Dc,fun tq u q=>HQ.out ⟨(fF HH.out HT.out HM0.out q).2.1,(fF HH.out HT.out HM0.out q).2.2.1,(fF HH.out HT.out HM0.out q).2.2.2.1⟩⟩⟩
  ·go_wp2_with fail;refine(bO W _ R _ s.length c data tree p 4 x (HI2.out _)).mono ?_;rintro e w3 ⟨rfl,hI3,_⟩;have HI3:Hi (dk W w3 R (U (D b o Z)) s.length c data tree 4 x):=hI3;clear hI3;go_wp2;go_ret;exact⟨y,tree,4,x,X,HI3.out,.inr ⟨Dc,fun tq u q=>HQ.out ⟨(fF HH.out HT.out HM0.out q).2.1,(fF HH.out HT.out HM0.out q).2.2.1,(fF HH.out HT.out HM0.out q).2.2.2.1⟩⟩⟩
  go_wp2_with fail;refine(bO W _ R _ s.length c data tree p 4 x (HI2.out _)).mono ?_;rintro e w3 ⟨rfl,hI3,_⟩;have HI3:Hi (dk W w3 R (U (D b o Z)) s.length c data tree 4 x):=hI3;clear hI3;go_wp2;go_ret;exact⟨y,tree,4,x,X,HI3.out,.inr ⟨Dc,fun tq u q=>HQ.out ⟨(fF HH.out HT.out HM0.out q).2.1,(fF HH.out HT.out HM0.out q).2.2.1,(fF HH.out HT.out HM0.out q).2.2.2.1⟩⟩⟩
 have HK0:Hi (k1≠0):=hk0;have e0:(k1 !=0)=true:=by simp[hk0]
 have HI1':Hi (dk W w1 R (U (D b o Z)) s.length c data tree k1 x):=by have:=HI1.out;rw[G hk0]at this;exact this
 have HI3:Hi (∀o1,dk W (w1.alloc o1) R (U (D b o Z)) s.length c data tree k1 x):=fun o1=>HI1'.out.below Be;clear hk0;go_wp2;go_ret;exact⟨y,tree,k1,x,X,HI3.out _,.inr ⟨HK0.out,fun tq u q=>HK0.out (HK.out.symm.trans (HX.out tq u q))⟩⟩
end Go.Proofs.YtkkicodfpekbgaaGreatDoor
