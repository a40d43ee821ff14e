/- Parts. -/
import Derived.Test.YtkkicodfpekbgaaGreatDoorJg0
import Derived.Test.YtkkicodfpekbgaaGreatDoorJg2
import Derived.Test.YtkkicodfpekbgaaGreatDoorJg1
import Derived.Test.YtkkicodfpekbgaaGreatDoorJg6
open Go.Value renaming int->I,string->Y,slice->S,pointer->Po,bool->Bo,agg->Ag,tuple->Tu,iface->If
open Go.IntKind renaming i64->J
open Go.Obj renaming cells->C
open Go.Ending renaming returned->Rt
open Option renaming some->U,none->Z
open Go renaming World->M,Calls->Cs,Addr->Ad,Value->Vv
open _root_ renaming ByteArray->Q,Option->Oo,List->Ls
open Go.RowKit renaming Below->H,intOf->Io,Hid->Hi
open Go.World renaming cell?->Wc
open Go.Addr renaming mk->D
set_option linter.all false
set_option maxRecDepth 100000
set_option maxHeartbeats 8000000
namespace Go.Proofs.YtkkicodfpekbgaaGreatDoor
variable{v:Except (Int×Int) (Ls Vl)}{w w':M}
section
open Go.Proofs.Tryz
open Go.RowKit
theorem agN(E:bj)(W:M)(R:Nat)(a:Oo Ad)(c f:Nat)(hc:RC E W a)(cQ:pd E)(hN:sw E W R a c f):sw E W R a c (f+1):=by
 intro i x y dp o tree p w hm hi jQ hy cP dD bJ hI;have xA:Hi (sv o):=yu _ _ _ _ _ _ hm;have HB:Hi (Qy E W R a c f):=acF E W R a c f hc cQ hN;have HC:Hi (RC E W a):=hc;have HI:Hi (bm W w R a E.s.length c E.d tree 0 p):=hI;have jU:Hi (eu tree (f+1) x y):=bJ;have eS:=lc hI.r0;have hk:=qx hc.right.2.2.1 i hi;have VH:=hc.size;obtain⟨ab,ao,ka,kc,rfl,yM,aL,dK,(fN:Hi _)⟩:=hc.sch i hi;obtain⟨n0,n1,n2,n3⟩:=yM.below hI.bel;have r0:=hI.r0;have lC:(i:Int)<E.s.length:=O;have jJ:Hi (∀wq,Cs prog 103 #[I J (nd E.s i).kind] wq fun e w'=>e=Rt (I J (own0 (nd E.s i).kind))/\Bw wq w'):=fun wq=>Xv _ O wq;obtain⟨ag,hG⟩:∃ag,hd (E.d.extract x y)=ag:=Ey;have PV:E.hd x y=ag:=hG;rw[cd,PV]at hm;have HM:Hi ((if ag.1≠0 then U (.error (ag.1,(x:Int)))else lr E (cd E f) f i ag.2 x (fk x ag.2) dp)=U o):=hm;have GN:Hi (∀(x y:Nat) (ge gc:Int) (gb:Bool) (gn gs gl:Int) (wq:M),hd (E.d.extract x y)=(ge,⟨gc,gb,gn,gs,gl⟩)->x<=y->y<=E.d.size->bm W wq R (U (D ab ao Z)) E.s.length c E.d tree 0 p->Cs prog 101 #[Po (U (D R 0 Z)),I J x,I J y] wq fun e w'=>e=Rt (Ag #[I J gc,Bo gb,I J gn,I J gs,I J gl])/\bm W w' R (U (D ab ao Z)) E.s.length c E.d tree ge (if ge=0 then p else x)/\Fr R wq w'):=fun x y ge gc gb gn gs gl wq hG h1 h2 q=>by have:=Gm W wq R (U (D ab ao Z)) E.s.length c E.d tree p x y q h1 h2 O;rw[hG]at this;exact this
 have NP:Hi (E.hd x y=ag):=PV;have NZ:Hi (hd (E.d.extract x y)=ag):=hG;have T6:Hi (∀A,bm W (w.alloc A) R (U (D ab ao Z)) E.s.length c E.d tree 0 p/\Fr R w (w.alloc A)):=fun A=>⟨hI.below Be,Fr.of_below Be⟩;clear hc cQ hN hI bJ yM hm PV hG hk hi;obtain⟨ge,gc,gb,gn,gs,gl⟩:=ag;simp only at HM;go_enter func69,ntmps69;go_wp2_with fail;refine(GN x y ge gc gb gn gs gl _ NZ jQ hy (T6 _).1).mono ?_;rintro e w2 ⟨rfl,dG,lY⟩;have dC:Hi (Fr R w w2):=(T6 _).2.trans lY;have cJ:Hi (w2.heap[w.heap.size]? =U (C #[I J (nd E.s i).kind,I J (nd E.s i).tag,I J (nd E.s i).mode,S ka (nd E.s i).kids.length kc] 58 (0,0))):=lY _ _ _ O Dc (bl w _);clear n0 n1 n2 n3 r0 lY;have rQ:=eb cJ;by_cases lB:ge=0
 ·subst lB;rw[ba rfl]at dG;have aS:Hi (bm W w2 R (U (D ab ao Z)) E.s.length c E.d tree 0 p):=dG;have jP:=lp (E:=E) (x:=x) (y:=y) (by rw[NP.out]);have eM:=uR (E:=E) (x:=x) (y:=y) (by rw[NP.out]);have hok:=pq (r:=E.d.extract x y) (by rw[NZ.out]);rw[NZ.out]at hok;rw[NP.out]at jP eM;unfold fk at jP eM;simp only at jP eM hok;obtain⟨z,rfl⟩:∃z:Nat,gs=z:=⟨gs.toNat,O⟩;obtain⟨l,rfl⟩:∃l:Nat,gl=l:=⟨gl.toNat,O⟩;simp only[ld]at jP eM;have GI:Hi (lr E (cd E f) f i ⟨gc,gb,gn,(z:Int),(l:Int)⟩ x (x+z+l) dp=U o):=by show lr _ _ _ _ _ _ _ _=_;have:=HM.out;rw[G Dc]at this;unfold fk at this;simpa only[ld]using this
  clear HM eM hok dG;have s3:=aS.out.r3;have hb1:(x:Int)+z<=140737488355328:=O;have hb2:(x:Int)+z+l<=140737488355328:=O;have pW:=lc s3;have cH:Hi (bm W (w2.alloc (C #[I J gc,Bo gb,I J gn,I J z,I J l] 179)) R (U (D ab ao Z)) E.s.length c E.d tree 0 p):=aS.below Be;have dI:Hi (Fr R w (w2.alloc (C #[I J gc,Bo gb,I J gn,I J z,I J l] 179))):=dC.below Be;have gQ:Hi ((w2.alloc (C #[I J gc,Bo gb,I J gn,I J z,I J l] 179)).heap[w.heap.size]? =U (C #[I J (nd E.s i).kind,I J (nd E.s i).tag,I J (nd E.s i).mode,S ka (nd E.s i).kids.length kc] 58 (0,0))):=bc cJ Be;have N1:Hi ((w2.alloc (C #[I J gc,Bo gb,I J gn,I J z,I J l] 179)).heap[w2.heap.size]? =U (C #[I J gc,Bo gb,I J gn,I J z,I J l] 179 (0,0))):=bl w2 _;have K3:Hi (∀w':M,w'.heap[w.heap.size]? =U (C #[I J (nd E.s i).kind,I J (nd E.s i).tag,I J (nd E.s i).mode,S ka (nd E.s i).kids.length kc] 58 (0,0))->w'.heap[w2.heap.size]? =U (C #[I J gc,Bo gb,I J gn,I J z,I J l] 179 (0,0))->w'.cell? (D w.heap.size 0 Z)=U (I J (nd E.s i).kind)/\w'.cell? (D w.heap.size 1 Z)=U (I J (nd E.s i).tag)/\w'.cell? (D w.heap.size 2 Z)=U (I J (nd E.s i).mode)/\w'.cell? (D w.heap.size 3 Z)=U (S ka (nd E.s i).kids.length kc)/\w'.cell? (D w2.heap.size 0 Z)=U (I J gc)/\w'.cell? (D w2.heap.size 1 Z)=U (Bo gb)/\w'.cell? (D w2.heap.size 2 Z)=U (I J gn)/\w'.cell? (D w2.heap.size 3 Z)=U (I J z)/\w'.cell? (D w2.heap.size 4 Z)=U (I J l)):=fun w' q1 q2=>⟨bq q1 X,bq q1 X,bq q1 X,bq q1 X,bq q2 X,bq q2 X,bq q2 X,bq q2 X,bq q2 X⟩;have j0:Hi (∀w3,H (w2.alloc (C #[I J gc,Bo gb,I J gn,I J z,I J l] 179)).drew.heap.size (w2.alloc (C #[I J gc,Bo gb,I J gn,I J z,I J l] 179)).drew w3->bm W w3 R (U (D ab ao Z)) E.s.length c E.d tree 0 p/\Fr R w w3/\w3.heap[w.heap.size]? =U (C #[I J (nd E.s i).kind,I J (nd E.s i).tag,I J (nd E.s i).mode,S ka (nd E.s i).kids.length kc] 58 (0,0))/\w3.heap[w2.heap.size]? =U (C #[I J gc,Bo gb,I J gn,I J z,I J l] 179 (0,0))):=fun w3 q=>by have q2:=(Go.below_drewN By 1).trans q;exact⟨cH.below q2,dI.below q2,bc gQ q2,bc N1 q2⟩
  obtain⟨-,n1,n2, -⟩:=fi cJ;by_cases fX:(nd E.s i).tag<0;·(have sX:Hi (∀wq,bm W wq R (U (D ab ao Z)) E.s.length c E.d tree 0 p->Cs prog 102 #[Po (U (D R 0 Z)),Ag #[I J (nd E.s i).kind,I J (nd E.s i).tag,I J (nd E.s i).mode,S ka (nd E.s i).kids.length kc],I J 0,I J (own0 (nd E.s i).kind),Ag #[I J gc,Bo gb,I J gn,I J z,I J l],I J x,I J ((x:Int)+z+l),I J dp] wq fun e w'=>e=Rt (Tu #[])/\nl E W R (U (D ab ao Z)) c o tree p wq w'):=fun wq q=>by have hv:=GI.out;unfold lr at hv;rw[ba fX]at hv;rw[show(x:Int)+z+l=((x+z+l:Nat):Int)by omega];exact HB.out i ka kc _ _ gc gb gn z l x (x+z+l) dp o tree p wq O fN.out aL hv O O cP dD (by have:=jU.out;unfold eu at this ⊢;omega) q);(have KM:Hi (∀vs (z':Nat),o= .ok (vs,z')->(x:Int)+z+l=z'):=fun vs z' e=>by have hv:=GI.out;subst e;have:=Qm hv;omega);go_wp2_with fail;go_region_held_law (fun w'=>w'.cell? (D w.heap.size 0 Z)=U (I J (nd E.s i).kind)/\w'.cell? (D w.heap.size 1 Z)=U (I J (nd E.s i).tag)/\w'.cell? (D w.heap.size 2 Z)=U (I J (nd E.s i).mode)/\w'.cell? (D w.heap.size 3 Z)=U (S ka (nd E.s i).kids.length kc)/\w'.cell? (D w2.heap.size 0 Z)=U (I J gc)/\w'.cell? (D w2.heap.size 1 Z)=U (Bo gb)/\w'.cell? (D w2.heap.size 2 Z)=U (I J gn)/\w'.cell? (D w2.heap.size 3 Z)=U (I J z)/\w'.cell? (D w2.heap.size 4 Z)=U (I J l)) (exact K3 _ (by first|exact oK|exact gV|exact gQ) (by first|exact II|exact CD|exact N1)) (first|(go_at_call 103;refine(jJ _).mono ?_;rintro e w3 ⟨rfl,hb3⟩;obtain⟨bI,dF,gV,CD⟩:=j0 _ hb3;clear hb3)|(go_at_call 102;refine(sX _ bI).mono ?_;rintro e w4 ⟨rfl,fO⟩;have LJ:=fO.of dF;obtain⟨_,_,_,_,_,nS⟩:=fO;have oK:=nS _ _ _ O Dc gV;have II:=nS _ _ _ O Dc CD;clear nS));have M9:=ax LJ;clear LJ oK II bI dF gV CD;go_wp2;go_ret;exact⟨_,X,M9,KM⟩
  have AQ:(0:Int)<=(nd E.s i).tag:=O;have KM:Hi (∀vs (z':Nat),o= .ok (vs,z')->(x:Int)+z+l=z'):=fun vs z' e=>by have hv:=GI.out;subst e;have:=Qm hv;omega
  by_cases EN:(nd E.s i).mode=0;·(have aeC:((nd E.s i).mode==0)=true:=by simp[EN]);(have sX:Hi (∀wq,bm W wq R (U (D ab ao Z)) E.s.length c E.d tree 0 p->Cs prog 102 #[Po (U (D R 0 Z)),Ag #[I J (nd E.s i).kind,I J (nd E.s i).tag,I J (nd E.s i).mode,S ka (nd E.s i).kids.length kc],I J 2,I J (nd E.s i).tag,Ag #[I J gc,Bo gb,I J gn,I J z,I J l],I J x,I J ((x:Int)+z+l),I J dp] wq fun e w'=>e=Rt (Tu #[])/\nl E W R (U (D ab ao Z)) c o tree p wq w'):=fun wq q=>by have hv:=GI.out;unfold lr at hv;rw[G fX,ba EN]at hv;rw[show(x:Int)+z+l=((x+z+l:Nat):Int)by omega];exact HB.out i ka kc _ _ gc gb gn z l x (x+z+l) dp o tree p wq O fN.out aL hv O O cP dD (by have:=jU.out;unfold eu at this ⊢;omega) q);obtain⟨m0, -, -,m3⟩:=fi cJ;clear EN fX;go_wp2_with fail;refine(sX _ cH).mono ?_;rintro e w4 ⟨rfl,fO⟩;have M9:Hi (nl E W R (U (D ab ao Z)) c o tree p w w4):=fO.of dI;clear fO;go_wp2;go_ret;exact⟨_,X,M9,KM⟩
  have aeC:((nd E.s i).mode==0)=false:=by simp[EN]
  have hv:=GI.out;unfold lr at hv;rw[G fX,G EN]at hv;simp only[ld]at hv;clear EN fX;by_cases q:gc=2/\gn=(nd E.s i).tag/\gb=true
  ·rw[G (fun h=>h q)]at hv;obtain⟨rfl,sF,rfl⟩:=q;(have ajU:(gn !=(nd E.s i).tag)=false:=by simp[sF]);clear sF;by_cases gJ:12<dp;(·rw[ba gJ]at hv;have aU:Hi (o= .error (10,(x:Int))):=(dd hv).symm;clear hv;go_wp2_with fail;refine(jy W _ R (U (D ab ao Z)) E.s.length c E.d tree p 10 x cH).mono ?_;rintro e w4 ⟨rfl,(bE:Hi _),bD⟩;have cA:Hi (Fr R w w4):=dI.trans (Fr.of_same bD);clear bD;go_wp2;go_ret;exact⟨_,X,⟨tree,10,x,bE,Af xA aU _ _ _,cA⟩,fun vs z' e=>by rw[aU.out]at e;cases e⟩);rw[G gJ]at hv;have yF:dp<=12:=O;obtain⟨G2,bH⟩:∃ag,hd (E.d.extract (x+z) (x+z+l))=ag:=Ey;have PW:E.hd (x+z) (x+z+l)=G2:=bH;rw[PW]at hv;obtain⟨ke,gT,iM,jR,sR,sP⟩:=G2;have HV:Hi ((if(ke,(⟨gT,iM,jR,sR,sP⟩:Hd)).1≠0 then U (.error ((ke,(⟨gT,iM,jR,sR,sP⟩:Hd)).1,((x+z:Nat):Int)))else bz.andThen (fc E (cd E f) f (nd E.s i) 0 (own0 (nd E.s i).kind) ⟨gT,iM,jR,sR,sP⟩ (x+z) (fk (x+z) ⟨gT,iM,jR,sR,sP⟩) dp) fun vs _=>if fk (x+z) ⟨gT,iM,jR,sR,sP⟩<x+z+l then U (.error (7,((fk (x+z) ⟨gT,iM,jR,sR,sP⟩:Nat):Int)))else U (.ok (vs,x+z+l)))=U o):=hv;have TJ:Hi (E.hd (x+z) (x+z+l)=(ke,⟨gT,iM,jR,sR,sP⟩)):=PW;have N0:Hi (hd (E.d.extract (x+z) (x+z+l))=(ke,⟨gT,iM,jR,sR,sP⟩)):=bH;clear hv bH PW gJ;(have aat:Hi (∀wq,bm W wq R (U (D ab ao Z)) E.s.length c E.d tree 0 p->Cs prog 101 #[Po (U (D R 0 Z)),I J ((x:Int)+z),I J ((x:Int)+z+l)] wq fun e w'=>e=Rt (Ag #[I J gT,Bo iM,I J jR,I J sR,I J sP])/\bm W w' R (U (D ab ao Z)) E.s.length c E.d tree ke (if ke=0 then p else((x+z:Nat):Int))/\Fr R wq w'):=fun wq q=>by have:=GN (x+z) (x+z+l) ke gT iM jR sR sP wq N0 O O q;rw[show((x+z+l:Nat):Int)=(x:Int)+z+l by omega,show((x+z:Nat):Int)=(x:Int)+z by omega]at this;rw[show((x+z:Nat):Int)=(x:Int)+z by omega];exact this);go_wp2_with fail;refine(aat _ cH).mono ?_;rintro e w5 ⟨rfl,nT,EH⟩;have oC:Hi (Fr R w w5):=dI.trans EH;have xB:Hi (w5.heap[w.heap.size]? =U (C #[I J (nd E.s i).kind,I J (nd E.s i).tag,I J (nd E.s i).mode,S ka (nd E.s i).kids.length kc] 58 (0,0))):=EH _ _ _ O Dc gQ;have N2:Hi (w5.heap[w2.heap.size]? =U (C #[I J 2,Bo true,I J gn,I J z,I J l] 179 (0,0))):=EH _ _ _ O Dc N1;have hw5:=eb N2;have LV:R<w5.heap.size:=O;clear EH n1 n2;have u3:w5.cell? (D w2.heap.size 3 Z)=U (I J z):=bq N2 X;by_cases I7:ke=0
   ·subst I7;rw[ba rfl]at nT;have L8:=lp (E:=E) (x:=x+z) (y:=x+z+l) (by rw[TJ.out]);have ER:=pq (r:=E.d.extract (x+z) (x+z+l)) (by rw[N0.out]);rw[N0.out]at ER;rw[TJ.out]at L8;unfold fk at L8;simp only at L8 ER;obtain⟨z2,rfl⟩:∃z2:Nat,sR=z2:=⟨sR.toNat,O⟩;obtain⟨l2,rfl⟩:∃l2:Nat,sP=l2:=⟨sP.toNat,O⟩;simp only[ld]at L8;(have LY:bz.andThen (fc E (cd E f) f (nd E.s i) 0 (own0 (nd E.s i).kind) ⟨gT,iM,jR,(z2:Int),(l2:Int)⟩ (x+z) (x+z+z2+l2) dp) (fun vs _=>if x+z+z2+l2<x+z+l then U (.error (7,((x+z+z2+l2:Nat):Int)))else U (.ok (vs,x+z+l)))=U o:=by have:=HV.out;rw[G (fun h=>h X)]at this;unfold fk at this;simpa only[ld]using this);obtain⟨o1,nW,(jS:Hi _)⟩:∃o1,fc E (cd E f) f (nd E.s i) 0 (own0 (nd E.s i).kind) ⟨gT,iM,jR,(z2:Int),(l2:Int)⟩ (x+z) (x+z+z2+l2) dp=U o1/\((∃u,o1= .error u/\o= .error u)\/∃vs zz,o1= .ok (vs,zz)/\((x+z+z2+l2<x+z+l/\o= .error (7,((x+z+z2+l2:Nat):Int)))\/(¬x+z+z2+l2<x+z+l/\o= .ok (vs,x+z+l)))):=by
     rcases mg LY with⟨u,h1,h2⟩|⟨vs,zz,h1,h2⟩;(·exact⟨_,h1,.inl ⟨u,X,h2⟩⟩);refine⟨_,h1,.inr ⟨vs,zz,X,?_⟩⟩;split at h2;(·rename_i q;exact .inl ⟨q,(dd h2).symm⟩);rename_i q;exact .inr ⟨q,(dd h2).symm⟩
    have fY:Hi (bm W w5 R (U (D ab ao Z)) E.s.length c E.d tree 0 p):=nT;have s5:=nT.r3;have dN:Hi (bm W (w5.alloc (C #[I J gT,Bo iM,I J jR,I J z2,I J l2] 179)) R (U (D ab ao Z)) E.s.length c E.d tree 0 p):=nT.below Be;have eH:Hi (Fr R w (w5.alloc (C #[I J gT,Bo iM,I J jR,I J z2,I J l2] 179))):=oC.below Be;have j5:Hi ((w5.alloc (C #[I J gT,Bo iM,I J jR,I J z2,I J l2] 179)).heap[w.heap.size]? =U (C #[I J (nd E.s i).kind,I J (nd E.s i).tag,I J (nd E.s i).mode,S ka (nd E.s i).kids.length kc] 58 (0,0))):=bc xB Be;have TS:Hi ((w5.alloc (C #[I J gT,Bo iM,I J jR,I J z2,I J l2] 179)).heap[w2.heap.size]? =U (C #[I J 2,Bo true,I J gn,I J z,I J l] 179 (0,0))):=bc N2 Be;have TY:Hi ((w5.alloc (C #[I J gT,Bo iM,I J jR,I J z2,I J l2] 179)).heap[w5.heap.size]? =U (C #[I J gT,Bo iM,I J jR,I J z2,I J l2] 179 (0,0))):=bl w5 _;have aau:Hi (∀w':M,w'.heap[w.heap.size]? =U (C #[I J (nd E.s i).kind,I J (nd E.s i).tag,I J (nd E.s i).mode,S ka (nd E.s i).kids.length kc] 58 (0,0))->w'.heap[w2.heap.size]? =U (C #[I J 2,Bo true,I J gn,I J z,I J l] 179 (0,0))->w'.heap[w5.heap.size]? =U (C #[I J gT,Bo iM,I J jR,I J z2,I J l2] 179 (0,0))->w'.cell? (D w.heap.size 0 Z)=U (I J (nd E.s i).kind)/\w'.cell? (D w.heap.size 1 Z)=U (I J (nd E.s i).tag)/\w'.cell? (D w.heap.size 2 Z)=U (I J (nd E.s i).mode)/\w'.cell? (D w.heap.size 3 Z)=U (S ka (nd E.s i).kids.length kc)/\w'.cell? (D w2.heap.size 3 Z)=U (I J z)/\w'.cell? (D w5.heap.size 0 Z)=U (I J gT)/\w'.cell? (D w5.heap.size 1 Z)=U (Bo iM)/\w'.cell? (D w5.heap.size 2 Z)=U (I J jR)/\w'.cell? (D w5.heap.size 3 Z)=U (I J z2)/\w'.cell? (D w5.heap.size 4 Z)=U (I J l2)):=fun w' q1 q2 q3=>⟨bq q1 X,bq q1 X,bq q1 X,bq q1 X,bq q2 X,bq q3 X,bq q3 X,bq q3 X,bq q3 X,bq q3 X⟩;(have aaj:Hi (∀w3,H (w5.alloc (C #[I J gT,Bo iM,I J jR,I J z2,I J l2] 179)).drew.heap.size (w5.alloc (C #[I J gT,Bo iM,I J jR,I J z2,I J l2] 179)).drew w3->bm W w3 R (U (D ab ao Z)) E.s.length c E.d tree 0 p/\Fr R w w3/\w3.heap[w.heap.size]? =U (C #[I J (nd E.s i).kind,I J (nd E.s i).tag,I J (nd E.s i).mode,S ka (nd E.s i).kids.length kc] 58 (0,0))/\w3.heap[w2.heap.size]? =U (C #[I J 2,Bo true,I J gn,I J z,I J l] 179 (0,0))/\w3.heap[w5.heap.size]? =U (C #[I J gT,Bo iM,I J jR,I J z2,I J l2] 179 (0,0))):=fun w3 q=>by have q2:=(Go.below_drewN By 1).trans q;exact⟨dN.below q2,eH.below q2,bc j5 q2,bc TS q2,bc TY q2⟩);(have sX:Hi (∀wq,bm W wq R (U (D ab ao Z)) E.s.length c E.d tree 0 p->Cs prog 102 #[Po (U (D R 0 Z)),Ag #[I J (nd E.s i).kind,I J (nd E.s i).tag,I J (nd E.s i).mode,S ka (nd E.s i).kids.length kc],I J 0,I J (own0 (nd E.s i).kind),Ag #[I J gT,Bo iM,I J jR,I J z2,I J l2],I J ((x:Int)+z),I J ((x:Int)+z+z2+l2),I J dp] wq fun e w'=>e=Rt (Tu #[])/\nl E W R (U (D ab ao Z)) c o1 tree p wq w'):=fun wq q=>by rw[show(x:Int)+z+z2+l2=((x+z+z2+l2:Nat):Int)by omega,show(x:Int)+z=((x+z:Nat):Int)by omega];exact HB.out i ka kc _ _ gT iM jR z2 l2 (x+z) (x+z+z2+l2) dp o1 tree p wq O fN.out aL nW O O cP dD (by have:=jU.out;unfold eu at this ⊢;omega) q);have tK:Hi (IntKind.i64.wrap ((x:Int)+z)=(x:Int)+z):=Ak _ O O;have hb3:(x:Int)+z+z2<=140737488355328:=O;have hb4:(x:Int)+z+z2+l2<=140737488355328:=O;clear nT LY nW ER;go_wp2_with fail;go_region_held_law (fun w'=>w'.cell? (D w.heap.size 0 Z)=U (I J (nd E.s i).kind)/\w'.cell? (D w.heap.size 1 Z)=U (I J (nd E.s i).tag)/\w'.cell? (D w.heap.size 2 Z)=U (I J (nd E.s i).mode)/\w'.cell? (D w.heap.size 3 Z)=U (S ka (nd E.s i).kids.length kc)/\w'.cell? (D w2.heap.size 3 Z)=U (I J z)/\w'.cell? (D w5.heap.size 0 Z)=U (I J gT)/\w'.cell? (D w5.heap.size 1 Z)=U (Bo iM)/\w'.cell? (D w5.heap.size 2 Z)=U (I J jR)/\w'.cell? (D w5.heap.size 3 Z)=U (I J z2)/\w'.cell? (D w5.heap.size 4 Z)=U (I J l2)) (exact aau _ (by first|exact oK|exact gV|exact j5) (by first|exact II|exact CD|exact TS) (by first|exact V3|exact D5|exact TY)) (first|(go_at_call 103;refine(jJ _).mono ?_;rintro e w3 ⟨rfl,hb3⟩;obtain⟨bI,dF,gV,CD,D5⟩:=aaj _ hb3;clear hb3)|(go_at_call 102;rw[tK.out];refine(sX _ bI).mono ?_;rintro e w4 ⟨rfl,fO⟩;have LJ:=fO.of dF;obtain⟨_,_,_,_,_,nS⟩:=fO;have oK:=nS _ _ _ O Dc gV;have II:=nS _ _ _ O Dc CD;have V3:=nS _ _ _ (by have:=eb D5;omega) Dc D5;clear nS));obtain⟨t4,e4,p4,bZ,wH,nS⟩:=LJ;have bE:Hi (bm W w4 R (U (D ab ao Z)) E.s.length c E.d t4 e4 p4):=bZ;have cA:Hi (Fr R w w4):=nS;have s4:=bZ.r3;clear bZ nS oK II V3 bI dF gV CD D5 s5 u3;rcases jS with⟨u,rfl,ho⟩|⟨vs,zz,rfl,ho⟩;(·obtain⟨u1,u2⟩:=u;obtain⟨r1,r2,r3⟩:=wH;subst r1 r2;(have aI:(e4==0)=false:=by rw[lf];exact r3);have aU:Hi (o= .error (e4,p4)):=ho;clear r3 ho;go_wp2;go_ret;exact⟨_,X,⟨t4,e4,p4,bE,Af xA aU _ _ _,cA⟩,fun vs z' e=>by rw[aU.out]at e;cases e⟩);obtain⟨r1,r2,r3⟩:=wH;subst r1 r2 r3;rcases ho with⟨aA,ho⟩|⟨aA,ho⟩;(·have aU:Hi (o= .error (7,((x+z+z2+l2:Nat):Int))):=ho;have aN:(x:Int)+z+z2+l2<(x:Int)+z+l:=O;clear ho;go_wp2_with fail;refine(jy W _ R (U (D ab ao Z)) E.s.length c E.d _ p4 7 _ bE).mono ?_;rintro e w6 ⟨rfl,cZ,bD⟩;have jT:Hi (∃t7,bm W w6 R (U (D ab ao Z)) E.s.length c E.d t7 7 ((x+z+z2+l2:Nat):Int)):=⟨_,by rw[show((x+z+z2+l2:Nat):Int)=(x:Int)+z+z2+l2 by omega];exact cZ⟩;have lQ:Hi (Fr R w w6):=cA.trans (Fr.of_same bD);clear cZ bD;go_wp2;go_ret;obtain⟨t7,h7⟩:=jT.out;exact⟨_,X,⟨t7,7,_,h7,Af xA aU _ _ _,lQ⟩,fun vs z' e=>by rw[aU.out]at e;cases e⟩);have aU:Hi (o= .ok (vs,x+z+l)):=ho;have aN:(x:Int)+z+l<=(x:Int)+z+z2+l2:=O;clear ho;go_wp2;go_ret;exact⟨_,X,⟨_,0,p4,bE,by rw[aU.out];exact⟨X,X,X⟩,cA⟩,KM⟩
   rw[G I7]at nT;(have ajW:(ke !=0)=true:=by simp[I7]);have s5:=nT.r3;(have aU:Hi (o= .error (ke,((x+z:Nat):Int))):=by have:=HV.out;rw[ba I7]at this;exact(dd this).symm);have dN:Hi (∀A,bm W (w5.alloc A) R (U (D ab ao Z)) E.s.length c E.d tree ke ((x+z:Nat):Int)/\Fr R w (w5.alloc A)):=fun A=>⟨nT.below Be,oC.below Be⟩;clear nT I7;go_wp2;go_ret;exact⟨_,X,⟨tree,ke,_,(dN _).1,Af xA aU _ _ _,(dN _).2⟩,fun vs z' e=>by rw[aU.out]at e;cases e⟩
  rw[ba q]at hv;have aU:Hi (o= .error (4,(x:Int))):=(dd hv).symm;have q':(gc !=2)=true\/((gc !=2)=false/\(gn !=(nd E.s i).tag)=true)\/((gc !=2)=false/\(gn !=(nd E.s i).tag)=false/\gb=false):=by
   by_cases q1:gc=2
   ·by_cases q2:gn=(nd E.s i).tag
    ·right;right;refine⟨by simp[q1],by simp[q2],?_⟩;cases gb;(·rfl);exact Ab ⟨q1,q2,X⟩ q
    right;left;exact⟨by simp[q1],by simp[q2]⟩
   left;simp[q1]
  clear hv q;rcases q' with e1|⟨e1,e2⟩|⟨e1,e2,rfl⟩;all_goals go_wp2_with fail;refine(jy W _ R (U (D ab ao Z)) E.s.length c E.d tree p 4 x cH).mono ?_;rintro e w4 ⟨rfl,(bE:Hi _),bD⟩;have cA:Hi (Fr R w w4):=dI.trans (Fr.of_same bD);clear bD;go_wp2;go_ret;exact⟨_,X,⟨tree,4,x,bE,Af xA aU _ _ _,cA⟩,fun vs z' e=>by rw[aU.out]at e;cases e⟩
 rw[G lB]at dG;have XC:(ge !=0)=true:=by simp[lB]
 have s3:=dG.r3;have pW:=lc s3;have aU:Hi (o= .error (ge,(x:Int))):=by have:=HM.out;rw[ba lB]at this;exact(dd this).symm
 have dN:Hi (∀A,bm W (w2.alloc A) R (U (D ab ao Z)) E.s.length c E.d tree ge x/\Fr R w (w2.alloc A)):=fun A=>⟨dG.below Be,dC.below Be⟩;clear dG lB;go_wp2;go_ret;exact⟨_,X,⟨tree,ge,_,(dN _).1,Af xA aU _ _ _,(dN _).2⟩,fun vs z' e=>by rw[aU.out]at e;cases e⟩
theorem Xm(E:bj)(W:M)(R:Nat)(a:Oo Ad)(c:Nat)(hc:RC E W a)(cQ:pd E):∀f,sw E W R a c f
 |0=>by intro i x y dp o tree p w hm;cases hm
 |f+1=>agN E W R a c f hc cQ (Xm E W R a c hc cQ f)
theorem Yk(E:bj)(a:Oo Ad)(c f root:Nat)(w:M)(hc:RC E w a)(cQ:pd E)(hr:root<E.s.length)(hf:f<=100000000)(v:Except (Int×Int) (Ls Vl))(hv:jh E f root=U v):Cs prog 39 #[S a E.s.length c,I J root,Y E.d] w fun e w'=>wi v w e w':=by
 have VH:=hc.size;have HI:Hi (bm w (w.alloc (ix a E.s.length c E.d (S Z 0 0) 0 0)) w.heap.size a E.s.length c E.d [] 0 0):=⟨Be,Ln,_,bl w _,nz _ _ _ _⟩;obtain⟨o,ho,(jS:Hi _)⟩:∃o,cd E f root 0 E.d.size 1=U o/\((∃u,o= .error u/\v= .error u)\/∃vs z,o= .ok (vs,z)/\((z<E.d.size/\v= .error (7,(z:Int)))\/(¬z<E.d.size/\v= .ok vs))):=by
  unfold jh at hv;rcases mg hv with⟨u,h1,h2⟩|⟨vs,z,h1,h2⟩;·exact⟨_,h1,.inl ⟨u,X,h2⟩⟩
  refine⟨_,h1,.inr ⟨vs,z,X,?_⟩⟩;split at h2;·rename_i q;exact .inl ⟨q,(dd h2).symm⟩
  rename_i q;exact .inr ⟨q,(dd h2).symm⟩
 have aI:=yu _ _ _ _ _ _ ho;have xA:Hi _:=aI;have HN:Hi (Cs prog 69 #[Po (U (D w.heap.size 0 Z)),I J root,I J 0,I J E.d.size,I J 1] (w.alloc (ix a E.s.length c E.d (S Z 0 0) 0 0)) fun e w'=>∃v:Int,e=Rt (I J v)/\nl E w w.heap.size a c o [] 0 (w.alloc (ix a E.s.length c E.d (S Z 0 0) 0 0)) w'/\∀vs z,o= .ok (vs,z)->v=z):=Xm E w w.heap.size a c hc cQ f root 0 E.d.size 1 o [] 0 _ ho hr Lz Ln Dc Dc (by unfold eu;simp only[lx];omega) HI;clear hc cQ hv ho aI;unfold ix at HN;go_enter func39,ntmps39;go_wp2_with fail;refine HN.mono ?_;rintro e w1 ⟨nx,rfl,⟨t1,e1,p1,eR,WA,_⟩,hz⟩;have aZ:Hi _:=eR;obtain⟨_,_,vt,bW,(HO:Hi _)⟩:=eR;unfold ix at bW;obtain⟨-, -,c2,c3,c4⟩:=uC bW;clear bW HN HI;rcases jS with⟨u,rfl,hv⟩|⟨vs,z,rfl,hv⟩;·obtain⟨u1,u2⟩:=u;obtain⟨r1,r2,r3⟩:=WA;subst r1 r2;(have aI:(e1==0)=false:=by rw[lf];exact r3);(have RF:(e1 !=0)=true:=by rw[ln];exact r3);have HV:Hi _:=hv;clear r3 hv hz;go_wp2;go_quiet (fail);go_wp2;refine db (v:=Tu #[S Z 0 0,I J p1,I J e1]) (by simp[results,results39,go_sem]) X ?_;rw[HV.out];exact⟨Go.below_drewN aZ.bel _,X⟩
 obtain⟨r1,r2,r3⟩:=WA;subst r1 r3;have r2':vs=t1:=by simpa using r2.symm
 clear r2;subst r2';obtain rfl:nx=(z:Int):=hz vs z X;rcases hv with⟨aA,hv⟩|⟨aA,hv⟩;·have HV:Hi _:=hv;have aN:(z:Int)<E.d.size:=O;clear hv hz;go_wp2_with fail;refine(jy w _ w.heap.size a E.s.length c E.d _ 0 7 z aZ).mono ?_;rintro e w2 ⟨rfl,dG,_⟩;have aS:Hi _:=dG;obtain⟨_,_,vt2,gY,_⟩:=dG;unfold ix at gY;obtain⟨-, -, -,d3,d4⟩:=uC gY;clear gY c2 c3 c4;go_wp2;go_quiet (fail);go_wp2;refine db (v:=Tu #[S Z 0 0,I J z,I J 7]) (by simp[results,results39,go_sem]) X ?_;rw[HV.out];exact⟨Go.below_drewN aS.bel _,X⟩
 have HV:Hi _:=hv;have aN:(E.d.size:Int)<=z:=O;have fQ:Hi _:=HO.out;obtain⟨ta,tc,wU⟩:∃ta tc,vt=S ta vs.length tc:=by
  rcases fQ.2 with⟨q,q'⟩|⟨g,cap,aB,q,_⟩;·exact⟨Z,0,by rw[q,q']⟩
  exact⟨_,cap,q⟩
 have LB:w1.cell? (D w.heap.size 2 Z)=U (S ta vs.length tc):=by rw[<-wU];exact c2
 have eK:Hi (w1.ownsRow w.heap.size 60 4 (S ta vs.length tc) vs.length (df vs)):=by show w1.ownsRow w.heap.size 60 4 (S ta vs.length tc) vs.length (df vs);rw[<-wU];exact fQ
 clear hv hz c2 wU HO fQ aA VH hf hr c4;go_wp2;refine db (v:=Tu #[S ta vs.length tc,I J 0,I J 0]) (by simp[results,results39,go_sem]) X ?_;rw[HV.out];exact⟨aZ.bel,ta,tc,X,eK⟩
theorem Yi(E:bj)(s:Ls Nd)(a:Oo Ad)(c:Nat)(root:Int)(d:Q)(v:Except (Int×Int) (Ls Vl))(w:M)(hs:ew w a s)(hok:ky s)(fA:s.length<=140737488351232)(EE:d.size<=9223372036854775807)(hv:pb E s root d v):Cs prog 40 #[S a s.length c,I J root,Y d] w fun e w'=>wi v w e w':=by
 have GO:Hi (Cs prog 15 #[S a s.length c] w fun e w'=>dw (ee s) w e w'):=Pz s a c w hs hok fA;have HS:Hi (ew w a s):=hs;have dQ:Hi (ky s):=hok;have HV:Hi (pb E s root d v):=hv;clear hs hok hv;go_enter func40,ntmps40;go_wp2_with fail;refine GO.mono ?_;rintro e w1 ⟨r,rfl,(HR:Hi _),(aC:Hi _)⟩;have zL:∀w',Bw w w'->¬(ee s/\0<=root/\root<s.length)->wi v w (Rt (Tu #[S Z 0 0,I J 0,I J 1])) w':=fun w' hb h=>by
  rcases HV with⟨_,rfl⟩|⟨q,_⟩|⟨q,_⟩;·exact⟨hb,X⟩
  ·exact Ab q h
  exact Ab q h
 have A6:=ax zL;clear zL;cases r;·have OF:Hi (¬ee s):=fun q=>Bool.noConfusion (HR.2 q);go_wp2;refine db (v:=Tu #[S Z 0 0,I J 0,I J 1]) (by simp[results,results40,go_sem]) X ?_;exact A6 _ aC fun q=>OF q.1
 have DR:Hi (ee s):=HR.1 X;by_cases h0:root<0;·go_wp2;refine db (v:=Tu #[S Z 0 0,I J 0,I J 1]) (by simp[results,results40,go_sem]) X ?_;exact A6 _ aC fun q=>O
 have nP:0<=root:=O;by_cases h1:root<s.length
 ·by_cases h2:4000<d.size
  ·have kG:(4000:Int)<d.size:=O;go_wp2;refine db (v:=Tu #[S Z 0 0,I J 0,I J 2]) (by simp[results,results40,go_sem]) X ?_;rcases HV with⟨q,_⟩|⟨_,_,rfl⟩|⟨_,q,_⟩;(·exact Ab ⟨DR,nP,h1⟩ q);(·exact⟨aC,X⟩);omega
  have kG:(d.size:Int)<=4000:=O;obtain⟨L5,EG,W7,hE,f,hf,pF⟩:d.size<=4000/\E.s=s/\E.d=d/\mo E/\∃f,f<=1000000/\jh E f root.toNat=U v:=by
   rcases HV with⟨q,_⟩|⟨_,q,_⟩|⟨_,q⟩;(·exact Ab ⟨DR,nP,h1⟩ q);(·omega);exact q
  obtain⟨rt,rfl⟩:∃n:Nat,root=n:=⟨root.toNat,O⟩;have iA:Hi (Cs prog 39 #[S a s.length c,I J rt,Y d] w1 fun e w'=>wi v w1 e w'):=by show Cs _ _ _ _ _;subst EG W7;exact Yk E a c f rt w1 ⟨HS.below aC,DR,dQ,hE.bg,hE.ok,(fw L5 Dc)⟩ hE.dv O (fw hf Dc) v (by simpa using pF)
  clear L5 EG W7 hE hf pF;go_wp2_with fail;refine iA.mono ?_;rintro e w2 ⟨hb2,h2⟩;have aD:Hi (Bw w w2):=Tm aC hb2;have YT:=aC.out.size;clear hb2
  cases v with
  |error u=>
   obtain⟨u1,u2⟩:=u
   simp only at h2
   subst h2
   go_wp2
   refine db (v:=Tu #[S Z 0 0,I J u2,I J u1]) (by simp[results,results40,go_sem]) X ?_
   exact⟨aD,X⟩
  |ok vs=>
   obtain⟨ta,tc,rfl,ho⟩:=h2
   have HO:Hi (w2.ownsRow w.heap.size 60 4 (S ta vs.length tc) vs.length (df vs)):=Gi ho YT
   clear ho
   go_wp2
   refine db (v:=Tu #[S ta vs.length tc,I J 0,I J 0]) (by simp[results,results40,go_sem]) X ?_
   exact⟨aD,ta,tc,X,HO⟩
 have iH:(s.length:Int)<=root:=O;go_wp2;refine db (v:=Tu #[S Z 0 0,I J 0,I J 1]) (by simp[results,results40,go_sem]) X ?_;exact A6 _ aC fun q=>O
def uf(w:M):Prop:=w.cell? (D 13 0 Z)=U (If 220 (Ag #[Po (U (D 19 85 Z))]))
theorem uf.below(h:uf w)(hb:Bw w w'):uf w':=Cb hb h
theorem adx(E:bj)(s:Ls Nd)(a:Oo Ad)(c:Nat)(root:Int)(d:Q)(v:Except (Int×Int) (Ls Vl))(w:M)(sn:Sn->Ad)(za:Ad)(hl:gy w sn)(hz:kv w sn za)(i7:uf w)(hs:ew w a s)(hok:ky s)(fA:s.length<=140737488351232)(EE:d.size<=9223372036854775807)(hv:pb E s root d v):Cs prog 23 #[S a s.length c,I J root,Y d] w fun e w'=>wi v w e w':=by
 have HT:=ax (Qi E s a c root d v w sn za hl hz hs hok fA EE hv);have HL:=ax hl;have HZ:=ax hz;have HP:Hi (∀p u wq,u.oneCell'=true->Bw w wq->Cs prog 48 #[If 155 (Ag #[I J p,u])] wq fun e w'=>e=Rt (I J p)/\Bw w w'):=fun p u wq h1 hq=>(Pr p u wq h1 (i7.below hq)).mono fun e w' h=>⟨h.1,Tm hq h.2⟩;have KY:Hi _:=fun wq=>Ye wq;have jI:Hi _:=fun wq=>Gf wq;clear hl hz i7 hs hok hv;go_enter func23,ntmps23;go_wp2_with fail;refine HT.mono ?_;rintro e w1 ⟨(aC:Hi _),h1⟩;rcases h1 with⟨vs,ta,tc,cR,rfl,ho⟩|⟨p,cR,rfl⟩|⟨cR,rfl⟩|⟨k,q,cR,bQ,iB,rfl⟩;·have HO:=ax ho;have lT:=ax cR;clear ho cR;go_wp2_with fail;refine(KY _).mono ?_;rintro e w2 ⟨rfl,hb2⟩;have aD:Hi _:=Tm aC hb2;have fQ:Hi _:=fm HO hb2;clear hb2;go_wp2_with fail;refine(jI _).mono ?_;rintro e w3 ⟨rfl,rfl⟩;go_wp2;refine db (v:=Tu #[S ta vs.length tc,I J 0,I J 0]) (by simp[results,results23,go_sem]) X ?_;rw[lT.out];exact⟨aD,ta,tc,X,fQ⟩
 ·have lT:=ax cR;have HN:Hi (∀wq,Bw w wq->Cs prog 34 #[ml 0 (be p za)] wq fun e w'=>e=Rt (I J 1)/\Bw w w'):=fun wq hq=>(Pj 0 p za wq sn (HL.below hq).s (HZ.below hq)).mono fun e w' h=>⟨h.1,Tm hq h.2⟩;unfold ml be at HN ⊢;clear cR;go_wp2_with fail;refine(HP _ _ _ X aC).mono ?_;rintro e w2 ⟨rfl,(aD:Hi _)⟩;go_wp2_with fail;refine(HN _ aD).mono ?_;rintro e w3 ⟨rfl,(aR:Hi _)⟩;go_wp2;refine db (v:=Tu #[S Z 0 0,I J 0,I J 1]) (by simp[results,results23,go_sem]) X ?_;rw[lT.out];exact⟨aR,X⟩
 ·have lT:=ax cR;have HN:Hi (∀wq,Bw w wq->Cs prog 34 #[be 0 za] wq fun e w'=>e=Rt (I J 1)/\Bw w w'):=fun wq hq=>by have h:=Ge 0 za wq sn (HL.below hq).s (HZ.below hq).r;rw[Ph (fun s q=>HZ.d s q.symm)]at h;exact h.mono fun e w' h=>⟨h.1,Tm hq h.2⟩
  unfold be at HN ⊢;clear cR;go_wp2_with fail;refine(HP _ _ _ X aC).mono ?_;rintro e w2 ⟨rfl,(aD:Hi _)⟩;go_wp2_with fail;refine(HN _ aD).mono ?_;rintro e w3 ⟨rfl,(aR:Hi _)⟩;go_wp2;refine db (v:=Tu #[S Z 0 0,I J 0,I J 1]) (by simp[results,results23,go_sem]) X ?_;rw[lT.out];exact⟨aR,X⟩
 have lT:=ax cR;have HN:Hi (∀wq,Bw w wq->Cs prog 34 #[be q (sn (uY k))] wq fun e w'=>e=Rt (I J k)/\Bw w w'):=fun wq hq=>by have h:=Gg q (uY k) wq sn (HL.below hq).s;rw[Zf k bQ iB]at h;exact h.mono fun e w' h=>⟨h.1,Tm hq h.2⟩
 unfold be at HN ⊢;generalize sn (uY k)=ak at HN;clear cR;go_wp2_with fail;refine(HP _ _ _ X aC).mono ?_;rintro e w2 ⟨rfl,(aD:Hi _)⟩;go_wp2_with fail;refine(HN _ aD).mono ?_;rintro e w3 ⟨rfl,(aR:Hi _)⟩;go_wp2;refine db (v:=Tu #[S Z 0 0,I J q,I J k]) (by simp[results,results23,go_sem]) X ?_;rw[lT.out];exact⟨aR,X⟩
theorem Tl(b:Q)(hb:b.size<=1048576):Ea b:=by
 have key:∀(s:Ls Nd) (P:Prop),ee s->ky s->0<s.length->(∀(E:bj) v,E.s=s->E.d=b->mo E->jh E (42*b.size+41) 0=U v->((∃vs,v= .ok vs)↔P))->∀(wq:M) (g:Nat),ew wq (U (D g 0 Z)) s->Cs prog 39 #[S (U (D g 0 Z)) s.length s.length,I J 0,Y b] wq fun e w'=>Mb P wq e w':=fun s P hr hok hl aes wq g JM=>by
  obtain⟨E,v,hs,hd,hE,hv,aI⟩:=acP s b hr hl;have hi:=aes E v hs hd hE hv;subst hs hd;refine(Yk E (U (D g 0 Z)) E.s.length (42*E.d.size+41) 0 wq ⟨JM,hr,hok,hE.bg,hE.ok,hb⟩ hE.dv hl O v hv).mono ?_;rintro e w' ⟨iR,h⟩;refine⟨iR,?_⟩
  cases v with
  |error u=>
   obtain⟨c,p⟩:=u
   exact⟨_,_,c,h,fun q=>Ab q (aI c p X),fun q=>by obtain⟨vs,z⟩:=hi.2 q;cases z⟩
  |ok vs=>
   obtain⟨ta,tc,h,_⟩:=h
   exact⟨_,_,0,h,fun _=>hi.1 ⟨vs,X⟩,fun _=>rfl⟩
 refine⟨fun wq g JM=>key lS _ Jf.1 We Dc (fun E v hs hd hE hv=>?_) wq g JM,fun wq g JM=>key uS _ aiR.1 aiQ Dc (fun E v hs hd hE hv=>?_) wq g JM⟩;·subst hd;exact agf hs hE hv
 subst hd;exact aiT hs hE hv
end
section
open Go.RowKit
def Dv(v:Except (Int×Int) (Ls Vl)):Ls Vl:=match v with| .ok vs=>vs| .error _=> []
def Yd(v:Except (Int×Int) (Ls Vl)):Int:=match v with| .ok _=>0| .error u=>u.2
def Xo(v:Except (Int×Int) (Ls Vl)):Int:=match v with| .ok _=>0| .error u=>u.1
theorem wi.flat{e:Ending}(h:wi v w e w'):Bw w w'/\∃ta tc,e=Rt (Tu #[S ta (Dv v).length tc,I J (Yd v),I J (Xo v)])/\w'.ownsRow w.heap.size 60 4 (S ta (Dv v).length tc) (Dv v).length (df (Dv v)):=by
 refine⟨h.1,?_⟩
 cases v with
 |error u=>exact⟨Z,0,h.2,nz _ _ _ _⟩
 |ok vs=>
  obtain⟨ta,tc,h1,h2⟩:=h.2
  exact⟨ta,tc,h1,h2⟩
theorem ai5{E:bj}{s:Ls Nd}{root:Int}{d:Q}(h:pb E s root d v):(Dv v).length<=400000:=by
 rcases h with⟨_,rfl⟩|⟨_,_,rfl⟩|⟨⟨hr,h0,h1⟩,hd,rfl,rfl,hE,f,hf,pF⟩;·exact Lz
 ·exact Lz
 cases v with
 |error u=>exact Lz
 |ok vs=>
  unfold jh at pF
  rcases mg pF with⟨u,h2,h3⟩|⟨ws,z,h2,h3⟩
  ·cases h3
  ·have hl:=xh hr.fine O h2
   split at h3
   ·cases h3
   ·injection h3 with h3
    injection h3 with h3
    subst h3
    show ws.length<=400000
    omega
theorem aig(vs:Ls Vl)(a1 a2:Oo Ad)(c1 c2:Nat)(w:M)(h1:qb w a1 vs)(h2:qb w a2 vs)(hn:vs.length<=140737488351232):Cs Tryz.prog 41 #[S a1 vs.length c1,S a2 vs.length c2] w fun e w'=>dw True w e w':=by
 have H1:=ax h1;have H2:=ax h2;clear h1 h2;go_enter Tryz.func41,Tryz.ntmps41;go_wp2;go_loopw [5] (fun i wr=>∃k:Nat,k<=vs.length/\i=I J k/\∃q,wr=w.drewN q) (fun i _=>vs.length-(Io i).toNat);case atStart=>exact⟨0,Lz,X,0,X⟩
 obtain⟨k,hk,rfl,q,rfl⟩:=hrel;by_cases aA:k<vs.length;·obtain⟨g1,o1,e1,x1,x2,x3,x4⟩:=H1 k aA;obtain⟨g2,o2,e2,y1,y2,y3,y4⟩:=H2 k aA;subst e1 e2;have aN:(k:Int)<vs.length:=O;generalize vl vs k=x at x1 x2 x3 x4 y1 y2 y3 y4;go_wp2;go_quiet (fail);go_wp2;go_roundw;(case rel=>exact⟨k+1,O,Gn,_,X⟩);exact Ms
 have aN:(vs.length:Int)<=k:=O;go_wp2;go_ret;exact ia trivial (Go.below_drewN By _)
theorem qb.of_own{base:Nat}{a:Oo Ad}{c:Nat}{vs:Ls Vl}(h:w.ownsRow base 60 4 (S a vs.length c) vs.length (df vs)):qb w a vs:=fun j hj=>by
 have wK:∀(l:Ls Vl) (i:Nat),i<l.length->∀k,k<4->(df l)[i*4+k]? =(vl l i).cells[k]? :=by
  intro l
  induction l with
  |nil=>intro i h;exact Ab h (dh _)
  |cons v l ih=>
   intro i hi k hk
   have e:df (v::l)=v.cells++df l:=by unfold df;simp
   have hl:v.cells.length=4:=X
   cases i with
   |zero=>rw[e,uH (by show 0*4+k<4;omega)];simp[vl]
   |succ i=>rw[e,qq O,hl,show(i+1)*4+k-4=i*4+k by omega,ih i (by simpa using hi) k hk];simp[vl]
 rcases h.2 with⟨_,h0⟩|⟨g,cap,aB,hv,_,hg,_,_,_,ht⟩;·omega
 injection hv with hv _ _;have hc:∀k,k<4->aB[j*4+k]? =(vl vs j).cells[k]? :=fun k hk=>by have:=wK vs j hj k hk;rw[<-ht,sh O]at this;simpa using this
 have h0:=hc 0 Dc;have h1:=hc 1 Dc;have h2:=hc 2 Dc;have h3:=hc 3 Dc;refine⟨g,0,hv,?_,?_,?_,?_⟩;·simp[Wc,hg];exact h0
 ·simp[Wc,hg];exact h1
 ·simp[Wc,hg];exact h2
 simp[Wc,hg];exact h3
theorem ahf{B:Nat}{v:Vv}{n:Nat}{xs:Ls Vv}(h:w.ownsRow B 60 4 v n xs):∃bs cp,v=S bs n cp/\n<=cp:=by
 rcases h.2 with⟨rfl,h0⟩|⟨g,cp,aB,rfl,_,_,h1,_⟩;·exact⟨Z,0,by rw[h0],O⟩
 exact⟨_,_,X,h1⟩
theorem age(s:Ls Nd)(a:Oo Ad)(c:Nat)(root:Int)(t:Ls Vl)(ta:Oo Ad)(tc:Nat)(w:M)(sn:Sn->Ad)(za:Ad)(hl:gy w sn)(hz:kv w sn za)(hs:ew w a s)(hok:ky s)(hn:s.length*48<=140737488351232)(lZ:∀i,i<s.length->(nd s i).kids.length*32<=140737488351232)(ht:qb w ta t)(dX:t.length<=tc)(oS:pz t t.length<=16777000)(dR:∀j,j<t.length->(vl t j).kids<=9223372036854775807):Cs Tryz.prog 20 #[S a s.length c,I J root,S ta t.length tc] w fun e w'=>e=Rt (Bo true)/\Bw w w':=by
 obtain⟨E,v,hv⟩:=adE s root t;have fA:s.length<=140737488351232:=O;have bC:t.length<=16777000:=by unfold pz at oS;omega
 have BC:Hi (Cs Tryz.prog 13 #[S a s.length c] w fun e w'=>∃eJ,e=Rt eJ/\rj s w w' s.length eJ):=Nx s a c w hs hn lZ;have HD:Hi (∀a2 c2 M4 M5 wq,Bw w wq->ew wq a2 s->qb wq M4 t->t.length<=M5->Cs Tryz.prog 22 #[S a2 s.length c2,I J root,S M4 t.length M5] wq fun e w'=>Ct v wq e w'):=fun a2 c2 M4 M5 wq hq mD MU eU=>adF E s a2 c2 root t M4 M5 v wq sn za (hl.below hq) (hz.below hq) mD hok fA MU eU (Sz.of_pz oS) dR hv;have HR:Hi (∀wq,Bw w wq->Cs Tryz.prog 43 #[S a s.length c,I J root,S ta t.length tc] wq fun e w'=>Ct v wq e w'):=fun wq hq=>ahx E s a c root t ta tc v wq (hs.below hq) hok fA (ht.below hq) dX oS dR hv;have xG:Hi (∀(z:Int) (wq:M),Cs Tryz.prog 17 #[I J z] wq fun e w'=>e=Rt (I J z)/\w'=wq):=Gd;have HS:=ax hs;have HT:=ax ht;obtain⟨bo,nu,lT⟩:∃(bo:Q) (nu:Int),Hi (∀wq e w',Ct v wq e w'->Bw wq w'/\e=Rt (Tu #[Y bo,I J nu])):=by
  cases v with
  |error k=>exact⟨⟨#[]⟩,k,fun wq e w' h=>⟨h.1,h.2⟩⟩
  |ok b=>exact⟨b,0,fun wq e w' h=>⟨h.1,h.2⟩⟩
 clear hl hz hs hok hv lZ ht oS dR;go_enter Tryz.func20,Tryz.ntmps20;go_wp2_with fail;refine BC.mono ?_;rintro e w1 ⟨eJ,rfl,i6⟩;have aC:Hi (Bw w w1):=i6.bel;obtain⟨a2,c2,rfl,mD⟩:=i6.sch;have o5:=ax mD;clear i6 mD;obtain⟨i0,dO,cU,dA,bL⟩:=mh Fe;go_wp2_with fail;go_loopw [8,9] (fun vl8 vi wr=>∃k:Nat,k<=t.length/\vi=I J k/\wr.ownsRow w1.heap.size 60 4 vl8 (t.take k).length (df (t.take k))/\Bw w1 wr) (fun _ vi _=>t.length-(Io vi).toNat);case atStart=>exact⟨0,Lz,X,nz _ _ _ _,By⟩
 obtain⟨k,hk,rfl,ho,hb⟩:=hrel;obtain⟨bs,cp,rfl,i6⟩:=ahf ho;have HO:=ax ho;have HB:=ax hb;clear ho hb;by_cases aA:k<t.length;·have aN:(k:Int)<t.length:=O;obtain⟨g,o,iJ,m0,m1,m2,m3⟩:=(HT.below (Tm aC HB)) k aA;have RA:=bp m0;simp only at RA;(have aeO:(t.take k).length=k:=by rw[Ax];omega);have qA:=HB.out.size;(have RU:t.take (k+1)=t.take k++[vl t k]:=by rw[vz,dz aA];congr 1;unfold vl;rw[dy,dz aA];rfl);have oG:=ax RU;obtain⟨y,hy⟩:∃y,vl t k=y:=Ey;have HY:=ax hy;rw[hy]at m0 m1 m2 m3;rw[iJ];(have eF:Hi (∀g7 tM w7,w7.ownsRow w1.heap.size 60 4 (S (U (D g7 0 Z)) ((t.take k).length+1) tM) ((t.take k).length+1) (df (t.take k)++[I J y.kind,Y y.text,I J y.alt,I J y.kids])->(wr.alloc (C #[I J y.kind,Y y.text,I J y.alt,I J y.kids] 60)).grownBy w7 (Value.slice bs (t.take k).length cp).ownBlock->w7.ownsRow w1.heap.size 60 4 (S (U (D g7 0 Z)) ((t.take k).length+1) tM) (t.take (k+1)).length (df (t.take (k+1)))/\Bw w1 w7):=fun g7 tM w7 h1 h2=>by refine⟨?_,(HB.alloc HB.size _).grown h2 So (fun q hq=>(HO.lt q hq).1)⟩;rw[oG,HY,La,ff];exact h1);clear RU hy iJ;go_wp2_with (at_builtin;refine wpList_append_lies _ X _ _ 39 X w1.heap.size 60 i0 zu 4 40 Tryz.underlying39 dO cU dA bL X Dc (S bs (t.take k).length cp) (t.take k).length (df (t.take k)) X (HO.alloc _) (D wr.heap.size 0 Z) 1 1 [I J y.kind,Y y.text,I J y.alt,I J y.kids] X X (World.news_of_block (bl wr (C #[I J y.kind,Y y.text,I J y.alt,I J y.kids] 60))) (by intro u hu;simp at hu;rcases hu with rfl|rfl|rfl|rfl<;>rfl) Dc (by unfold maxLen;omega) O So (wr.heap.size+1) Sq ?_;intro g7 tM w7 H9 IA PK PM;obtain⟨MN,kZ⟩:=eF g7 tM w7 H9 IA;have xH:=ax MN;have hP:=ax kZ;clear H9 IA PK PM MN kZ);go_roundw;(case rel=>exact⟨k+1,O,Gn,by have h:=xH.out;rw[aeO]at h;exact h,hP.out⟩);exact Ms
 obtain rfl:k=t.length:=O;have hO:=HO.out;rw[we]at hO i6;rw[we];have fQ:=ax hO;have UR:Hi (Bw w wr):=Tm aC HB;clear hO HO;go_wp2_with fail;refine(HD a2 c2 bs cp wr UR (o5.below HB) (qb.of_own fQ) i6).mono ?_;rintro e w3 nX;obtain⟨hb3,rfl⟩:=lT _ _ _ nX;have aR:=ax hb3;have pO:Hi (Bw w w3):=Tm UR hb3;clear nX hb3;go_wp2_with fail;refine(HR w3 pO).mono ?_;rintro e w4 mC;obtain⟨hb4,rfl⟩:=lT _ _ _ mC;have aJ:Hi (Bw wr w4):=Tm aR hb4;have gE:Hi (Bw w w4):=Tm pO hb4;clear mC hb4;have zC:Hi (Cs Tryz.prog 16 #[S a2 s.length c2,S a s.length c] w4 fun e w'=>dw True w4 e w'):=My s a2 a c2 c w4 ((o5.below HB).below aJ) (HS.below gE) fA;go_wp2_with fail;refine zC.mono ?_;rintro e w5 ⟨r5,rfl,JG,aH⟩;obtain rfl:r5=true:=JG.2 trivial;have aO:Hi (Bw wr w5):=Tm aJ aH;have US:Hi (Bw w w5):=Tm gE aH;clear JG aH;have DL:Hi (Cs Tryz.prog 41 #[S bs t.length cp,S ta t.length tc] w5 fun e w'=>dw True w5 e w'):=aig t bs ta cp tc w5 ((qb.of_own fQ).below aO) (HT.below US) O;go_wp2_with fail;refine DL.mono ?_;rintro e w6 ⟨r6,rfl,EW,eB⟩;obtain rfl:r6=true:=EW.2 trivial;have HW6:Hi (Bw w w6):=Tm US eB;clear EW eB;go_wp2_with fail;refine(xG _ _).mono ?_;rintro e w7 ⟨rfl,rfl⟩;go_wp2;go_ret;exact⟨X,HW6⟩
end
section
open Go.Proofs.Tryz
open Go.ChangeShapes Go.WideShapes Go.ChangeAt Go.WideMaps Go.WideElems Go.RowKit Go.Lib
abbrev Ih:Ls (String×DataW Unit):=[("unicode/utf8.acceptRanges",Rows.laid_unicode_utf8_acceptRanges),("errors.errorType",Rows.laid_errors_errorType),("hallmark/fault.Schema",Rows.laid_hallmark_fault_Schema),("hallmark/fault.Long",Rows.laid_hallmark_fault_Long),("hallmark/fault.End",Rows.laid_hallmark_fault_End),("hallmark/fault.Tag",Rows.laid_hallmark_fault_Tag),("hallmark/fault.Length",Rows.laid_hallmark_fault_Length),("hallmark/fault.Value",Rows.laid_hallmark_fault_Value),("hallmark/fault.More",Rows.laid_hallmark_fault_More),("hallmark/fault.Order",Rows.laid_hallmark_fault_Order),("hallmark/fault.Default",Rows.laid_hallmark_fault_Default),("hallmark/fault.Deep",Rows.laid_hallmark_fault_Deep),("hallmark/fault.Tree",Rows.laid_hallmark_fault_Tree),("hallmark/fault.Card",Rows.laid_hallmark_fault_Card),("hallmark/fault.Mark",Rows.laid_hallmark_fault_Mark),("hallmark/content.monthDays",Rows.laid_hallmark_content_monthDays),("hallmark/schemas.ownNumbers",Rows.laid_hallmark_schemas_ownNumbers),("unicode/utf8.first",Rows.laid_unicode_utf8_first)]
theorem abf:prog.globalNamed "errors.errorType" =U 13:=Kr
theorem abL:(prog.cutTypes.find? (·.1== "internal/reflectlite.rtype")).map (·.2)=U 220:=Kr
theorem abG:((List.range 324).filter fun t=>prog.rowNamed t [101,114,114,111,114])=[85]:=Kr
theorem abO:prog.types.size=324:=Kr
theorem abj:typeHandle prog 85= .pointer (U (D 19 85 Z)):=Kr
theorem af3{W:M}(h:laidMetH prog Ih W):∃sn za,gy W sn/\kv W sn za/\uf W:=by
 have h':laidMet prog wo W/\handlesMet prog [("errors.errorType",Rows.laid_errors_errorType)] W:=h;obtain⟨sn,za,h1,h2⟩:=af2 (W:=W) (by rw[MakeChecks.laidMetH_plain _ _ _ Kr];exact h'.1);refine⟨sn,za,h1,h2,?_⟩;obtain⟨name,u,ty,e1,e2,e3,e4,e5⟩:=h'.2 _ (List.mem_singleton.2 X);have en:name=[101,114,114,111,114]:=(dd e1).symm;subst en;obtain rfl:=dd (abL.symm.trans e2);have hm:ty∈(List.range 324).filter fun t=>prog.rowNamed t [101,114,114,111,114]:=Lp.2 ⟨List.mem_range.2 (by rw[<-abO];exact e3),e4⟩;rw[abG]at hm;obtain rfl:=List.mem_singleton.1 hm;rw[abj]at e5;have:=Mx abf e5 0;unfold uf;simpa using this
def Lb(w:M):M:=
 {w with heap:=w.heap.modify 13 fun o=>match o with
  | .cells _ t fr=> .cells #[.iface 220 (.agg #[.pointer (U (D 19 85 Z))])] t fr
  |o=>o}
theorem af0{P:Program}{w0:M}{laid:Ls (String×DataW Unit)}(args:Array Vv)(hf:w0.layFits P laid []=true)(hi:w0.layIfaces P laid (w0.layVars P laid)=true):laidMet P laid ((w0.layVars P laid).forCall (fun _ _=>0) ⟨#[],args,[]⟩).memory:=by
 have eN:∀x∈laid,(laid.map (·.1)).contains x.1=true:=fun x hx=>List.contains_iff_mem.2 (List.mem_map.2 ⟨x,hx,X⟩);have e1:(laid.filter fun x=>(laid.map (·.1)).contains x.1)=laid:=List.filter_eq_self.2 eN;have e2:(laid.filter fun x=> !(laid.map (·.1)).contains x.1)=[]:=List.filter_eq_nil_iff.2 fun x hx=>by rw[eN x hx];simp
 have h:laidMet P laid (w0.layVars P laid):=laidMet_layVars (w0:=w0) (laid.map (·.1)) [] (by rw[e1]) (by rw[e1];exact hf) (by rw[e1];exact hi) (by rw[e2];exact LaidIn.none);exact h.of_heap (by simp[World.memory,World.forCall,Input.heap])
theorem agt(os:Os)(args:Array Vv):laidMetH prog Ih (((Lb (World.holding prog os ⟨#[],#[],[]⟩)).layVars prog wo).forCall (fun _ _=>0) ⟨#[],args,[]⟩).memory:=by
 have e0:(Ih.filter fun(x:String×DataW Unit)=>x.2.handleName?.isNone)=wo:=X;refine laidMetH_of_parts ?_ Kr;rw[e0];exact af0 args Kr Kr
end
