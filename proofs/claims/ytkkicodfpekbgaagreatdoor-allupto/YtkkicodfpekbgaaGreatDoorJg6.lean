/- Parts. -/
import Derived.Test.YtkkicodfpekbgaaGreatDoorJf5
import Derived.Test.YtkkicodfpekbgaaGreatDoorJf2
open Go.Value renaming int->I,string->Y,slice->S,pointer->Po,bool->Bo,agg->Ag,tuple->Tu
open Go.IntKind renaming i64->J
open Go.Obj renaming cells->C
open Go.Ending renaming returned->Rt
open Option renaming some->U,none->Z
open Go renaming World->M,Calls->Cs,Addr->Ad,Value->Vv
open _root_ renaming ByteArray->Q,Option->Oo,List->Ls
open Go.RowKit renaming Below->H,Hid->Hi
open Go.World renaming cell?->Wc
open Go.Addr renaming mk->D
set_option linter.all false
set_option maxRecDepth 100000
set_option maxHeartbeats 8000000
namespace Go.Proofs.YtkkicodfpekbgaaGreatDoor
variable{u0:Bool}{W w w' w1:M}{R c tc x:Nat}{n:Nd}{a ta:Oo Ad}{b:Q}
open Go.RowKit
theorem ajl{s:Ls Nd}(h:ee s){i:Nat}(hi:i<s.length):0<=fo (nd s i)/\fo (nd s i)<=3/\0<=fq (nd s i)/\fq (nd s i)<=30:=by
 have hk:=qx h.2.2.1 i hi;have ht:=(yx h.2.2.1 i hi).2.1;unfold fo fq;split;·rename_i q;omega
 refine⟨Dc,Dc,?_⟩;unfold own0;split;·omega
 obtain⟨k,gX⟩:∃k,(nd s i).kind=k:=Ey;rw[gX]at hk ⊢;obtain rfl|rfl|rfl|rfl|rfl|rfl|rfl|rfl|rfl|rfl|rfl|rfl:k=1\/k=2\/k=3\/k=4\/k=5\/k=6\/k=7\/k=8\/k=9\/k=10\/k=11\/k=12:=O;all_goals decide
def ss(E:de)(W:M)(R:Nat)(a:Oo Ad)(c:Nat)(ta:Oo Ad)(tc:Nat)(r:cy)(x0:Nat)(u0:Bool)(w:M)(vs:Vv)(w':M):Prop:=
 dg R w w'/\∃b,vs=Y b/\((∃x u,r=U (b,x,u)/\b.size+pz E.t x0+5<=pz E.t x/\x<=E.t.length/\kh W w' R a E.s.length c ta E.t.length tc x false (u0||u))\/
  (r=Z/\∃x u,b.size+pz E.t x0+5<=pz E.t x/\x<=E.t.length/\kh W w' R a E.s.length c ta E.t.length tc x true u))
theorem np.str{E:de}{r:cy}{e:Ending}(h:np E W R a c ta tc r x u0 w e w'):∃b,e=Rt (Y b)/\b.size<=pz E.t E.t.length:=by
 rcases h.2 with⟨b,x',u,_,he,hs,hx,_⟩|⟨_,b,x',u,he,hs,hx,_⟩;·exact⟨b,he,by have:=ja hx Ln;omega⟩
 exact⟨b,he,by have:=ja hx Ln;omega⟩
theorem ss.of_after{E:de}{r:cy}(h:np E W R a c ta tc r (x+1) u0 w1 (Rt (Y b)) w')(hf:dg R w w1)(hx:x<E.t.length):ss E W R a c ta tc r x u0 w (Y b) w':=by
 have hp:=Ah hx;refine⟨hf.trans h.1,b,X,?_⟩;rcases h.2 with⟨b',x',u,hr,he,hs,mZ,hI⟩|⟨hr,b',x',u,he,hs,mZ,hI⟩;·injection he with he;injection he with he;subst he;exact .inl ⟨x',u,hr,O,mZ,hI⟩
 injection he with he;injection he with he;subst he;exact .inr ⟨hr,x',u,O,mZ,hI⟩
theorem ss.of_el{E:de}{r rb:cy}{w2:M}{cl nu:Int}(h:np E W R a c ta tc r (x+1) u0 w1 (Rt (Y b)) w2)(hf:dg R w w1)(hx:x<E.t.length)(hb:Bw w2 w')(hr:(r=Z/\rb=Z)\/∃b x' u,r=U (b,x',u)/\rb=U (cf cl true nu b,x',u)):ss E W R a c ta tc rb x u0 w (Y (cf cl true nu b)) w':=by
 have hp:=Ah hx;have sM:=jv cl true nu b;refine⟨(hf.trans h.1).trans (dg.of_below hb),_,X,?_⟩;rcases h.2 with⟨b',x',u,bW,he,hs,mZ,hI⟩|⟨bW,b',x',u,he,hs,mZ,hI⟩
 ·injection he with he;injection he with he;subst he;rcases hr with⟨q,_⟩|⟨b2,x2,u2,q,q2⟩;·rw[q]at bW;cases bW
  rw[q]at bW;cases bW;exact .inl ⟨x',u,q2,O,mZ,hI.below hb⟩
 injection he with he;injection he with he;subst he;rcases hr with⟨_,q⟩|⟨b2,x2,u2,q,q2⟩;·exact .inr ⟨q,x',u,O,mZ,hI.below hb⟩
 rw[q]at bW;cases bW
theorem ss.after0{E:de}{r rb:cy}(h:ss E W R a c ta tc rb x u0 w (Y b) w')(hm:¬n.mode=1)(hr:(rb=Z/\r=Z)\/∃b x' u,rb=U (b,x',u)/\r=U (if n.mode=1 then cf 2 true n.tag b else b,x',u)):np E W R a c ta tc r x u0 w (Rt (Y b)) w':=by
 obtain⟨h1,b',hb,h2⟩:=h;injection hb with hb;subst hb;refine⟨h1,?_⟩;rcases h2 with⟨x',u,q1,q2,q3,q4⟩|⟨q1,x',u,q2,q3,q4⟩
 ·rcases hr with⟨p,_⟩|⟨b2,x2,u2,p,p2⟩;·rw[p]at q1;cases q1
  rw[p]at q1;cases q1;rw[G hm]at p2;exact .inl ⟨b,x',u,p2,X,O,q3,q4⟩
 rcases hr with⟨_,p⟩|⟨b2,x2,u2,p,p2⟩;·exact .inr ⟨p,b,x',u,X,O,q3,q4⟩
 rw[p]at q1;cases q1
theorem ss.after1{E:de}{r rb:cy}(h:ss E W R a c ta tc rb x u0 w (Y b) w1)(hm:n.mode=1)(hb:Bw w1 w')(hr:(rb=Z/\r=Z)\/∃b x' u,rb=U (b,x',u)/\r=U (if n.mode=1 then cf 2 true n.tag b else b,x',u)):np E W R a c ta tc r x u0 w (Rt (Y (cf 2 true n.tag b))) w':=by
 have sM:=jv 2 true n.tag b;obtain⟨h1,b',nU,h2⟩:=h;injection nU with nU;subst nU;refine⟨h1.trans (dg.of_below hb),?_⟩;rcases h2 with⟨x',u,q1,q2,q3,q4⟩|⟨q1,x',u,q2,q3,q4⟩
 ·rcases hr with⟨p,_⟩|⟨b2,x2,u2,p,p2⟩;·rw[p]at q1;cases q1
  rw[p]at q1;cases q1;rw[ba hm]at p2;exact .inl ⟨_,x',u,p2,X,O,q3,q4.below hb⟩
 rcases hr with⟨_,p⟩|⟨b2,x2,u2,p,p2⟩;·exact .inr ⟨p,_,x',u,X,O,q3,q4.below hb⟩
 rw[p]at q1;cases q1
theorem ajk(E:de)(W:M)(R:Nat)(a:Oo Ad)(c:Nat)(ta:Oo Ad)(tc f:Nat)(hc:WC E W a ta)(dX:E.t.length<=tc)(hN:Cm E W R a c ta tc f):Cm E W R a c ta tc (f+1):=by
 intro i x dp r u0 w hm hi hx cP dD hI;rw[wrF]at hm;have HC:=ax hc;have HN:=ax hN;have HI:=ax hI;have hb:=ajl hc.right hi;have aeP:(E.t.length:Int)<=16777000:=by have:=hc.size;unfold pz at this;omega
 obtain⟨ab,ao,ka,kc,rfl,nc,aL,dK,(oE:Hi _)⟩:=hc.sch i hi;have MZ:=hI.own;unfold ls at MZ;obtain⟨c0,c1,c2,c3, -⟩:=uC MZ;have f3:w.frozen? (D R 3 Z)=false:=Fz MZ;have eS:=lc c3;obtain⟨n0,n1,n2,n3⟩:=nc.below hI.bel;have MJ:=bp n0;simp only at MJ;have lC:(i:Int)<E.s.length:=O;have AP:=hc.right.fine.len;have HB:=ax hb;clear hc hN hI nc MZ hb;go_enter Tryz.func71,Tryz.ntmps71;go_wp2_with fail;have bF:=bl w (C #[I J (nd E.s i).kind,I J (nd E.s i).tag,I J (nd E.s i).mode,S ka (nd E.s i).kids.length kc] 58);have bA:=(cm _ w).alloc Ln (C #[I J (nd E.s i).kind,I J (nd E.s i).tag,I J (nd E.s i).mode,S ka (nd E.s i).kids.length kc] 58);obtain⟨nb,dH⟩:∃nb,w.heap.size=nb:=Ey;have lM:nb≠R:=O;rw[dH]at bF;rw[dH];generalize w.alloc _=w1 at bF bA ⊢;have eR:=HI.below bA;have aZ:=ax eR;have aV:=ax bF;have iE:Hi (dg R w w1):=dg.of_below bA;have sV:=eR.own;unfold ls at sV;obtain⟨-,e1,e2,e3, -⟩:=uC sV;have g3:w1.frozen? (D R 3 Z)=false:=Fz sV;have k0:w1.cell? (D nb 0 Z)=U (I J (nd E.s i).kind):=bq bF X;have xY:=lc e1;have AI:=eb bF;have bM:Hi (∀wq,Bw w1 wq->r=Z->np E W R (U (D ab ao Z)) c ta tc r x u0 w (Rt (Y ⟨#[]⟩)) (wq.setCell (D R 3 Z) (Bo true))):=fun wq hq hr=>⟨(iE.trans (dg.of_below hq)).trans (dg.set 3 _),.inr ⟨hr,⟨#[]⟩,x,u0,X,by show 0+pz E.t x<=pz E.t x;omega,hx,(aZ.below hq).setNo true⟩⟩;clear bF eR sV c0 c1 c2 c3 f3 n0 n1 n2 n3 MJ eS dH;have fE:=aZ.out.bel;have aM:=ax fE;clear fE bA;by_cases gS:x<E.t.length
 ·have FB:(x:Int)<E.t.length:=O;obtain⟨g,o,iJ,p0,p1,p2,p3⟩:=HC.tree x gS;have m0:w1.cell? (D g (o+x*4) Z)=U (I J (vl E.t x).kind):=Cb aM p0;have m1:w1.cell? (D g (o+x*4+1) Z)=U (Y (vl E.t x).text):=Cb aM p1;have m2:w1.cell? (D g (o+x*4+2) Z)=U (I J (vl E.t x).alt):=Cb aM p2;have m3:w1.cell? (D g (o+x*4+3) Z)=U (I J (vl E.t x).kids):=Cb aM p3;rw[iJ]at e1;clear p0 p1 p2 p3 iJ;by_cases dR:(vl E.t x).kind=(nd E.s i).kind
  ·by_cases gJ:dp<=12
   ·rw[ba ⟨gS,dR,gJ⟩]at hm;have HM:=ax hm;have DG:=ax dR;rw[dR]at m0;clear hm dR;go_quiet (fail);have dG:=aZ.below (Go.below_drewN By nq);have bH:=bc aV (Go.below_drewN By nq);have gH:=iE.trans (dg.of_below (Go.below_drewN By nq));(have PE:(w1.drewN nq).cell? (D R 1 Z)=U (S (U (D g o Z)) E.t.length tc):=by simpa using e1);(have U6:(w1.drewN nq).cell? (D R 2 Z)=U (I J (x:Int)):=by simpa using e2);(have U7:(w1.drewN nq).cell? (D R 3 Z)=U (Bo false):=by simpa using e3);(have C7:(w1.drewN nq).cell? (D g (o+x*4) Z)=U (I J (nd E.s i).kind):=by simpa using m0);(have JX:(w1.drewN nq).cell? (D g (o+x*4+1) Z)=U (Y (vl E.t x).text):=by simpa using m1);(have JY:(w1.drewN nq).cell? (D g (o+x*4+2) Z)=U (I J (vl E.t x).alt):=by simpa using m2);(have JZ:(w1.drewN nq).cell? (D g (o+x*4+3) Z)=U (I J (vl E.t x).kids):=by simpa using m3);generalize w1.drewN nq=w2 at dG bH gH PE U6 U7 C7 JX JY JZ ⊢;have aS:=ax dG;have cJ:=ax bH;have dC:=ax gH;have pW:=lc PE;have XN:=bp C7;simp only at XN;clear dG bH gH e1 e2 e3 g3 k0 xY AI m0 m1 m2 m3 aZ iE aV bM;go_wp2_with fail;go_region_held_law (fun w'=>w'.cell? (D R 1 Z)=U (S (U (D g o Z)) E.t.length tc)/\w'.cell? (D R 2 Z)=U (I J (x:Int))/\w'.cell? (D g (o+x*4) Z)=U (I J (nd E.s i).kind)/\w'.cell? (D g (o+x*4+1) Z)=U (Y (vl E.t x).text)/\w'.cell? (D g (o+x*4+2) Z)=U (I J (vl E.t x).alt)/\w'.cell? (D g (o+x*4+3) Z)=U (I J (vl E.t x).kids)) (go_keep) (fail);rename_i hHeld;clear hHeld;have oJ:Bw w2 (w2.alloc (C #[I J (nd E.s i).kind,Y (vl E.t x).text,I J (vl E.t x).alt,I J (vl E.t x).kids] 60)).drew:=(Be).drew;have pX:(w2.alloc (C #[I J (nd E.s i).kind,Y (vl E.t x).text,I J (vl E.t x).alt,I J (vl E.t x).kids] 60)).drew.heap[w2.heap.size]? =U (C #[I J (nd E.s i).kind,Y (vl E.t x).text,I J (vl E.t x).alt,I J (vl E.t x).kids] 60 (0,0)):=bl w2 _;generalize eD:w2.heap.size=vb at pX ⊢;generalize(w2.alloc _).drew=w3 at oJ pX ⊢;have bI:=aS.below oJ;have cH:=ax bI;have gV:=bc cJ oJ;have dI:Hi (dg R w w3):=dC.trans (dg.of_below oJ);have AL:vb≠R:=O;have oT:=bI.own;unfold ls at oT;(have d2:w3.cell? (D R 2 Z)=U (I J (x:Int)):=by simp[Wc,oT]);have h2:w3.frozen? (D R 2 Z)=false:=Fz oT;have iX:=lc d2;have bZ:=bI.setAt (x+1);have nS:=dI.trans (dg.set (R:=R) (w:=w3) 2 (I J ((x+1:Nat):Int)));have oK:=(dg.set (R:=R) (w:=w3) 2 (I J ((x+1:Nat):Int))) nb _ lM gV;have jY:=(dg.set (R:=R) (w:=w3) 2 (I J ((x+1:Nat):Int))) vb _ AL pX;have WW:((x+1:Nat):Int)=(x:Int)+1:=O;rw[WW]at bZ nS oK jY;have bE:=ax bZ;have cA:=ax nS;have kW:=ax oK;have wB:=ax jY;clear bI gV oT pX oJ eD bZ nS oK jY WW PE U6 U7 C7 JX JY JZ XN aS cJ dC pW;have jJ:Hi (∀wq,Cs Tryz.prog 103 #[I J (nd E.s i).kind] wq fun e w'=>e=Rt (I J (own0 (nd E.s i).kind))/\Bw wq w'):=fun wq=>Xv _ (by have:=qx HC.right.2.2.1 i hi;omega) wq;go_upto_region 9 with fail;generalize w3.setCell (D R 2 Z) (I J ((x:Int)+1))=w4 at bE cA kW wB ⊢;clear d2 h2 iX cH dI;have oK:=kW.out;have jY:=wB.out;have k0:w4.cell? (D nb 0 Z)=U (I J (nd E.s i).kind):=bq oK X;have XP:=bp k0;simp only at XP;clear oK jY;go_wp2_with fail;refine(jJ _).mono ?_;rintro e w5 ⟨rfl,aH⟩;have fY:=ax (bE.below aH);have oC:Hi (dg R w w5):=cA.trans (dg.of_below aH);have D4:=bc kW aH;have oL:=bc wB aH;have xB:=ax D4;have wC:=ax oL;clear aH k0 XP bE cA kW wB jJ;obtain⟨k0,k1,k2,k3⟩:=fi D4;obtain⟨v0,v1,v2,v3⟩:=fi oL;have AI:=bp k0;have Q5:=bp v0;simp only at AI Q5;clear D4 oL;go_upto_region 10 with fail;go_cut [88] (fun vq wx=>vq=Bo (decide (0<=(nd E.s i).tag/\(nd E.s i).mode=0))/\wx=w5)
    case first=>
     by_cases ht:0<=(nd E.s i).tag
     ·by_cases aW:(nd E.s i).mode=0;(·have HQ:Hi (decide (0<=(nd E.s i).tag/\(nd E.s i).mode=0)=true):=ch ⟨ht,aW⟩;rw[aW]at k2;clear aW;go_wp2_with fail;go_meet;exact⟨by rw[HQ.out],X⟩);(have aj1:((nd E.s i).mode==0)=false:=by simpa using aW);have HQ:Hi (decide (0<=(nd E.s i).tag/\(nd E.s i).mode=0)=false):=br (fun h=>aW h.2);go_wp2_with fail;go_meet;exact⟨by rw[HQ.out],X⟩
     have E4:decide (0<=(nd E.s i).tag)=false:=br ht;have HQ:Hi (decide (0<=(nd E.s i).tag/\(nd E.s i).mode=0)=false):=br (fun h=>ht h.1);go_wp2_with fail;go_meet;exact⟨by rw[HQ.out],X⟩
    obtain⟨rfl,hw⟩:=hcut;obtain rfl:w5=wc:=hw.symm;clear hw;go_upto_if 88 with fail;go_cut [9,10] (fun vc vn wx=>vc=I J (fo (nd E.s i))/\vn=I J (fq (nd E.s i))/\wx=w5)
    case first=>
     by_cases hq:0<=(nd E.s i).tag/\(nd E.s i).mode=0;(·(have vW:Hi (fo (nd E.s i)=2):=by show fo (nd E.s i)=2;unfold fo;rw[ba hq]);(have qT:Hi (fq (nd E.s i)=(nd E.s i).tag):=by show fq (nd E.s i)=_;unfold fq;rw[ba hq]);rw[ch hq];clear hq;go_wp2_with fail;go_meet;exact⟨by rw[vW.out],by rw[qT.out],X⟩);(have vW:Hi (fo (nd E.s i)=0):=by show fo (nd E.s i)=0;unfold fo;rw[G hq]);(have qT:Hi (fq (nd E.s i)=own0 (nd E.s i).kind):=by show fq (nd E.s i)=_;unfold fq;rw[G hq]);rw[br hq];clear hq;go_wp2_with fail;go_meet;exact⟨by rw[vW.out],by rw[qT.out],X⟩
    obtain⟨rfl,rfl,hw⟩:=hcut;obtain rfl:w5=wc:=hw.symm;clear hw;obtain⟨rb,(m9:Hi _),(HR:Hi _)⟩:∃rb,jc E (wrF E f) f (nd E.s i) (fo (nd E.s i)) (fq (nd E.s i)) (vl E.t x) (x+1) dp=U rb/\((rb=Z/\r=Z)\/∃b x' u,rb=U (b,x',u)/\r=U (if(nd E.s i).mode=1 then cf 2 true (nd E.s i).tag b else b,x',u)):=by
     rcases qn HM with⟨h1,h2⟩|⟨b,x',u,h1,h2⟩;(·exact⟨Z,h1,.inl ⟨X,h2⟩⟩);exact⟨_,h1,.inr ⟨b,x',u,X,(dd h2).symm⟩⟩
    have MQ:=Ah gS;have UJ:=ax MQ;(have vL:(vl E.t x).text.size<=16777000:=by have h1:=HC.out.size;have h2:=ja (t:=E.t) (x:=x+1) gS Ln;omega);obtain⟨b1,b2,b3,b4⟩:=HB.out;have jF:Hi (∀b s wq,s.size<=16777215->Cs Tryz.prog 83 #[I J (fo (nd E.s i)),Bo b,I J (fq (nd E.s i)),Y s] wq fun e w'=>e=Rt (Y (cf (fo (nd E.s i)) b (fq (nd E.s i)) s))/\Bw wq w'):=fun b s wq hs=>Og _ b _ s wq b1 b2 b3 b4 hs;clear MQ b1 b2 b3 b4 HM;have eO:Hi (∀s wq,(nd E.s i).mode=1->s.size<=16777215->Cs Tryz.prog 83 #[I J 2,Bo true,I J (nd E.s i).tag,Y s] wq fun e w'=>e=Rt (Y (cf 2 true (nd E.s i).tag s))/\Bw wq w'):=fun s wq aW hs=>Og 2 true _ s wq Dc Dc (by have h:=yx HC.right.2.2.1 i hi;unfold fx at h;omega) (by have h:=yx HC.right.2.2.1 i hi;unfold fx at h;omega) hs;by_cases bU:(nd E.s i).kind=13
    ·(have kV:Hi (Cs Tryz.prog 104 #[Po (U (D R 0 Z)),Ag #[I J 13,I J (nd E.s i).tag,I J (nd E.s i).mode,S ka (nd E.s i).kids.length kc],Ag #[I J 13,Y (vl E.t x).text,I J (vl E.t x).alt,I J (vl E.t x).kids],I J dp] w5 fun e w'=>np E W R (U (D ab ao Z)) c ta tc rb (x+1) u0 w5 e w'):=by have h:=aja E W R _ c ta tc f HC.out HN.out i hi ka kc oE.out aL ⟨(nd E.s i).kind,(vl E.t x).text,(vl E.t x).alt,(vl E.t x).kids⟩ (x+1) dp rb u0 w5 (by have:=m9.out;unfold jc at this;rw[ba bU]at this;exact this) gS cP dD fY.out;unfold yq yz at h;rw[bU]at h;exact h);rw[bU]at k0 v0;clear bU;go_wp2_with fail;refine kV.mono ?_;rintro e w6 eA;obtain⟨b,rfl,_⟩:=eA.str;have dL:=ax (ss.of_after eA oC gS);have j5:=ax (eA.1 _ _ lM xB);clear eA;obtain⟨-,kQ,kR, -⟩:=fi j5;have kO:=bp kQ;simp only at kO;have kJ:(b).size<=16777215:=by
      obtain⟨_,b',bV,fP⟩:=dL.out;injection bV with bV;rw[bV];have h1:=HC.out.size;rcases fP with⟨x',_,_,q2,q3,_⟩|⟨_,x',_,q2,q3,_⟩;(·have:=ja q3 Ln;omega);have:=ja q3 Ln;omega
     by_cases aW:(nd E.s i).mode=1;(·have cX:=ax aW;rw[aW]at kR;clear aW;go_wp2_with fail;refine(eO _ _ cX kJ).mono ?_;rintro e w8 ⟨rfl,(dB:Hi _)⟩;go_wp2;go_ret;exact dL.after1 cX dB HR);have cX:=ax aW;(have vI:((nd E.s i).mode==1)=false:=by simpa using aW);clear aW;go_wp2;go_ret;exact dL.after0 cX HR
    by_cases gR:(nd E.s i).kind=14
    ·have GM:Hi ((((hd (vl E.t x).text).1=0/\(hd (vl E.t x).text).2.s+(hd (vl E.t x).text).2.l=(vl E.t x).text.size/\(vl E.t x).alt=0/\(vl E.t x).kids=0)/\rb=U ((vl E.t x).text,x+1,false))\/(¬((hd (vl E.t x).text).1=0/\(hd (vl E.t x).text).2.s+(hd (vl E.t x).text).2.l=(vl E.t x).text.size/\(vl E.t x).alt=0/\(vl E.t x).kids=0)/\rb=Z)):=by
      have h:=m9.out;unfold jc at h;rw[G bU,ba gR]at h;split at h;(·rename_i q;exact .inl ⟨q,(dd h).symm⟩);rename_i q;exact .inr ⟨q,(dd h).symm⟩
     have fB:=ax (Yj (vl E.t x).text w5 O);unfold hv at fB;rw[gR]at k0 v0;clear bU gR;go_wp2_with fail;refine fB.mono ?_;rintro e w6 ⟨rfl,eB⟩;have cZ:=fY.below eB;have pB:=bc wC eB;have j5:=ax (bc xB eB);have eH:Hi (dg R w w6):=oC.trans (dg.of_below eB);have yV:=cZ.own;unfold ls at yV;(have e3:w6.cell? (D R 3 Z)=U (Bo false):=by simp[Wc,yV]);have g3:w6.frozen? (D R 3 Z)=false:=Fz yV;have IN:=lc e3;obtain⟨-,y1,y2,y3⟩:=fi pB;have Q8:=bp y1;simp only at Q8;have qM:Hi (∀nn:Bool,nn=(!decide ((hd (vl E.t x).text).1=0/\(hd (vl E.t x).text).2.s+(hd (vl E.t x).text).2.l=(vl E.t x).text.size/\(vl E.t x).alt=0/\(vl E.t x).kids=0))->∀A,ss E W R (U (D ab ao Z)) c ta tc rb x u0 w (Y (vl E.t x).text) ((w6.setCell (D R 3 Z) (Bo nn)).alloc A)/\((w6.setCell (D R 3 Z) (Bo nn)).alloc A).heap[nb]? =U (C #[I J (nd E.s i).kind,I J (nd E.s i).tag,I J (nd E.s i).mode,S ka (nd E.s i).kids.length kc] 58 (0,0))):=fun nn fJ A=>by
      have hb:H (w6.setCell (D R 3 Z) (Bo nn)).heap.size (w6.setCell (D R 3 Z) (Bo nn)) ((w6.setCell (D R 3 Z) (Bo nn)).alloc A):=(By).alloc Ln A;refine⟨⟨(eH.trans (dg.set 3 _)).trans (dg.of_below hb),_,X,?_⟩,bc ((dg.set (R:=R) (w:=w6) 3 (Bo nn)) nb _ lM j5) hb⟩;have lL:=(cZ.setNo nn).below hb;have hp:=UJ.out;rcases GM with⟨q,q2⟩|⟨q,q2⟩;(·left;rw[fJ,ch q]at lL;refine⟨x+1,false,q2,O,gS,?_⟩;rw[fJ,ch q,Cc];exact lL);right;rw[fJ,br q]at lL;refine⟨q2,x+1,u0,O,gS,?_⟩;rw[fJ,br q];exact lL
     clear eB cZ pB yV fB k0 k1 k2 k3 v0 v1 v2 v3;by_cases q1:(hd (vl E.t x).text).1=0
     ·have hok:=pq q1;have vW:=ax q1;by_cases q2:(hd (vl E.t x).text).2.s+(hd (vl E.t x).text).2.l=(vl E.t x).text.size
      ·have qT:=ax q2;by_cases q3:(vl E.t x).alt=0
       ·have jK:=ax q3;rw[q3]at y2;by_cases q4:(vl E.t x).kids=0
        ·have vX:=ax q4;rw[q4]at y3;clear q3 q4;(have HQ:Hi (false=(!decide ((hd (vl E.t x).text).1=0/\(hd (vl E.t x).text).2.s+(hd (vl E.t x).text).2.l=(vl E.t x).text.size/\(vl E.t x).alt=0/\(vl E.t x).kids=0))):=by show false=_;rw[ch ⟨vW,qT,jK,vX⟩];rfl);go_upto_region 31 with fail;obtain⟨gG,gI⟩:=qM false HQ (C #[I J (hd (vl E.t x).text).2.c,Bo (hd (vl E.t x).text).2.b,I J (hd (vl E.t x).text).2.n,I J (hd (vl E.t x).text).2.s,I J (hd (vl E.t x).text).2.l] 179);generalize(w6.setCell (D R 3 Z) (Bo false)).alloc _=w7 at gG gI ⊢;have dL:=ax gG;have lH:=ax gI;clear gG gI;obtain⟨-,kQ,kR, -⟩:=fi lH;have kO:=bp kQ;simp only at kO;have kJ:((vl E.t x).text).size<=16777215:=by
          obtain⟨_,b',bV,fP⟩:=dL.out;injection bV with bV;rw[bV];have h1:=HC.out.size;rcases fP with⟨x',_,_,q2,q3,_⟩|⟨_,x',_,q2,q3,_⟩;(·have:=ja q3 Ln;omega);have:=ja q3 Ln;omega
         by_cases aW:(nd E.s i).mode=1;(·have cX:=ax aW;rw[aW]at kR;clear aW;go_wp2_with fail;refine(eO _ _ cX kJ).mono ?_;rintro e w8 ⟨rfl,(dB:Hi _)⟩;go_wp2;go_ret;exact dL.after1 cX dB HR);have cX:=ax aW;(have vI:((nd E.s i).mode==1)=false:=by simpa using aW);clear aW;go_wp2;go_ret;exact dL.after0 cX HR
        have vX:=ax q4;(have SA:((vl E.t x).kids !=0)=true:=by simpa using q4);clear q3;(have HQ:Hi (true=(!decide ((hd (vl E.t x).text).1=0/\(hd (vl E.t x).text).2.s+(hd (vl E.t x).text).2.l=(vl E.t x).text.size/\(vl E.t x).alt=0/\(vl E.t x).kids=0))):=by show true=_;rw[br (fun h=>vX h.2.2.2)];rfl);go_upto_region 31 with fail;obtain⟨gG,gI⟩:=qM true HQ (C #[I J (hd (vl E.t x).text).2.c,Bo (hd (vl E.t x).text).2.b,I J (hd (vl E.t x).text).2.n,I J (hd (vl E.t x).text).2.s,I J (hd (vl E.t x).text).2.l] 179);generalize(w6.setCell (D R 3 Z) (Bo true)).alloc _=w7 at gG gI ⊢;have dL:=ax gG;have lH:=ax gI;clear gG gI;obtain⟨-,kQ,kR, -⟩:=fi lH;have kO:=bp kQ;simp only at kO;have kJ:((vl E.t x).text).size<=16777215:=by
         obtain⟨_,b',bV,fP⟩:=dL.out;injection bV with bV;rw[bV];have h1:=HC.out.size;rcases fP with⟨x',_,_,q2,q3,_⟩|⟨_,x',_,q2,q3,_⟩;(·have:=ja q3 Ln;omega);have:=ja q3 Ln;omega
        by_cases aW:(nd E.s i).mode=1;(·have cX:=ax aW;rw[aW]at kR;clear aW;go_wp2_with fail;refine(eO _ _ cX kJ).mono ?_;rintro e w8 ⟨rfl,(dB:Hi _)⟩;go_wp2;go_ret;exact dL.after1 cX dB HR);have cX:=ax aW;(have vI:((nd E.s i).mode==1)=false:=by simpa using aW);clear aW;go_wp2;go_ret;exact dL.after0 cX HR
       have jK:=ax q3;(have A3:((vl E.t x).alt !=0)=true:=by simpa using q3);(have HQ:Hi (true=(!decide ((hd (vl E.t x).text).1=0/\(hd (vl E.t x).text).2.s+(hd (vl E.t x).text).2.l=(vl E.t x).text.size/\(vl E.t x).alt=0/\(vl E.t x).kids=0))):=by show true=_;rw[br (fun h=>jK h.2.2.1)];rfl);go_upto_region 31 with fail;obtain⟨gG,gI⟩:=qM true HQ (C #[I J (hd (vl E.t x).text).2.c,Bo (hd (vl E.t x).text).2.b,I J (hd (vl E.t x).text).2.n,I J (hd (vl E.t x).text).2.s,I J (hd (vl E.t x).text).2.l] 179);generalize(w6.setCell (D R 3 Z) (Bo true)).alloc _=w7 at gG gI ⊢;have dL:=ax gG;have lH:=ax gI;clear gG gI;obtain⟨-,kQ,kR, -⟩:=fi lH;have kO:=bp kQ;simp only at kO;have kJ:((vl E.t x).text).size<=16777215:=by
        obtain⟨_,b',bV,fP⟩:=dL.out;injection bV with bV;rw[bV];have h1:=HC.out.size;rcases fP with⟨x',_,_,q2,q3,_⟩|⟨_,x',_,q2,q3,_⟩;(·have:=ja q3 Ln;omega);have:=ja q3 Ln;omega
       by_cases aW:(nd E.s i).mode=1;(·have cX:=ax aW;rw[aW]at kR;clear aW;go_wp2_with fail;refine(eO _ _ cX kJ).mono ?_;rintro e w8 ⟨rfl,(dB:Hi _)⟩;go_wp2;go_ret;exact dL.after1 cX dB HR);have cX:=ax aW;(have vI:((nd E.s i).mode==1)=false:=by simpa using aW);clear aW;go_wp2;go_ret;exact dL.after0 cX HR
      have qT:=ax q2;(have yW:((hd (vl E.t x).text).2.s+(hd (vl E.t x).text).2.l !=((vl E.t x).text.size:Int))=true:=by simpa using q2);(have HQ:Hi (true=(!decide ((hd (vl E.t x).text).1=0/\(hd (vl E.t x).text).2.s+(hd (vl E.t x).text).2.l=(vl E.t x).text.size/\(vl E.t x).alt=0/\(vl E.t x).kids=0))):=by show true=_;rw[br (fun h=>qT h.2.1)];rfl);go_upto_region 31 with fail;obtain⟨gG,gI⟩:=qM true HQ (C #[I J (hd (vl E.t x).text).2.c,Bo (hd (vl E.t x).text).2.b,I J (hd (vl E.t x).text).2.n,I J (hd (vl E.t x).text).2.s,I J (hd (vl E.t x).text).2.l] 179);generalize(w6.setCell (D R 3 Z) (Bo true)).alloc _=w7 at gG gI ⊢;have dL:=ax gG;have lH:=ax gI;clear gG gI;obtain⟨-,kQ,kR, -⟩:=fi lH;have kO:=bp kQ;simp only at kO;have kJ:((vl E.t x).text).size<=16777215:=by
       obtain⟨_,b',bV,fP⟩:=dL.out;injection bV with bV;rw[bV];have h1:=HC.out.size;rcases fP with⟨x',_,_,q2,q3,_⟩|⟨_,x',_,q2,q3,_⟩;(·have:=ja q3 Ln;omega);have:=ja q3 Ln;omega
      by_cases aW:(nd E.s i).mode=1;(·have cX:=ax aW;rw[aW]at kR;clear aW;go_wp2_with fail;refine(eO _ _ cX kJ).mono ?_;rintro e w8 ⟨rfl,(dB:Hi _)⟩;go_wp2;go_ret;exact dL.after1 cX dB HR);have cX:=ax aW;(have vI:((nd E.s i).mode==1)=false:=by simpa using aW);clear aW;go_wp2;go_ret;exact dL.after0 cX HR
     have vW:=ax q1;(have ZT:((hd (vl E.t x).text).1 !=0)=true:=by simpa using q1);(have HQ:Hi (true=(!decide ((hd (vl E.t x).text).1=0/\(hd (vl E.t x).text).2.s+(hd (vl E.t x).text).2.l=(vl E.t x).text.size/\(vl E.t x).alt=0/\(vl E.t x).kids=0))):=by show true=_;rw[br (fun h=>vW h.1)];rfl);go_upto_region 31 with fail;obtain⟨gG,gI⟩:=qM true HQ (C #[I J (hd (vl E.t x).text).2.c,Bo (hd (vl E.t x).text).2.b,I J (hd (vl E.t x).text).2.n,I J (hd (vl E.t x).text).2.s,I J (hd (vl E.t x).text).2.l] 179);generalize(w6.setCell (D R 3 Z) (Bo true)).alloc _=w7 at gG gI ⊢;have dL:=ax gG;have lH:=ax gI;clear gG gI;obtain⟨-,kQ,kR, -⟩:=fi lH;have kO:=bp kQ;simp only at kO;have kJ:((vl E.t x).text).size<=16777215:=by
      obtain⟨_,b',bV,fP⟩:=dL.out;injection bV with bV;rw[bV];have h1:=HC.out.size;rcases fP with⟨x',_,_,q2,q3,_⟩|⟨_,x',_,q2,q3,_⟩;(·have:=ja q3 Ln;omega);have:=ja q3 Ln;omega
     by_cases aW:(nd E.s i).mode=1;(·have cX:=ax aW;rw[aW]at kR;clear aW;go_wp2_with fail;refine(eO _ _ cX kJ).mono ?_;rintro e w8 ⟨rfl,(dB:Hi _)⟩;go_wp2;go_ret;exact dL.after1 cX dB HR);have cX:=ax aW;(have vI:((nd E.s i).mode==1)=false:=by simpa using aW);clear aW;go_wp2;go_ret;exact dL.after0 cX HR
    by_cases bG:(nd E.s i).kind=10
    ·obtain⟨rs,pG,(OM:Hi _)⟩:∃rs,(if(vl E.t x).text.size=0/\(vl E.t x).alt=0/\(vl E.t x).kids=(nd E.s i).kids.length then dx E (wrF E f) dp (nd E.s i).kids (x+1) az false else U Z)=U rs/\((rs=Z/\rb=Z)\/∃b x' u,rs=U (b,x',u)/\rb=U (cf (fo (nd E.s i)) true (fq (nd E.s i)) b,x',u)):=by
      have h:=m9.out;unfold jc at h;rw[G bU,G gR,ba bG]at h;split at h
      ·rename_i q;rw[ba q];rcases qn h with⟨h1,h2⟩|⟨b,x',u,h1,h2⟩;(·exact⟨Z,h1,.inl ⟨X,h2⟩⟩);exact⟨_,h1,.inr ⟨b,x',u,X,(dd h2).symm⟩⟩
      rename_i q;rw[G q];exact⟨Z,X,.inl ⟨X,(dd h).symm⟩⟩
     (have OP:Hi (Cs Tryz.prog 106 #[Po (U (D R 0 Z)),Ag #[I J 10,I J (nd E.s i).tag,I J (nd E.s i).mode,S ka (nd E.s i).kids.length kc],Ag #[I J 10,Y (vl E.t x).text,I J (vl E.t x).alt,I J (vl E.t x).kids],I J dp] w5 fun e w'=>np E W R (U (D ab ao Z)) c ta tc rs (x+1) u0 w5 e w'):=by have h:=ajy E W R _ c ta tc f HC HN i hi ka kc oE aL ⟨(nd E.s i).kind,(vl E.t x).text,(vl E.t x).alt,(vl E.t x).kids⟩ (x+1) dp rs u0 w5 pG gS cP gJ dX fY;unfold yq yz at h;rw[bG]at h;exact h);rw[bG]at k0 v0;clear bG bU gR pG;go_wp2_with fail;refine OP.mono ?_;rintro e w6 eA;obtain⟨b,rfl,qA⟩:=eA.str;have lG:=ax eA;have j5:=ax (eA.1 _ _ lM xB);(have QH:b.size<=16777215:=by have:=HC.out.size;omega);clear eA qA;go_wp2_with fail;refine(jF true b _ QH).mono ?_;rintro e w7 ⟨rfl,kZ⟩;have dL:=ax (ss.of_el lG oC gS kZ OM);have lH:=ax (bc j5 kZ);clear kZ;obtain⟨-,kQ,kR, -⟩:=fi lH;have kO:=bp kQ;simp only at kO;have kJ:(cf (fo (nd E.s i)) true (fq (nd E.s i)) b).size<=16777215:=by
      obtain⟨_,b',bV,fP⟩:=dL.out;injection bV with bV;rw[bV];have h1:=HC.out.size;rcases fP with⟨x',_,_,q2,q3,_⟩|⟨_,x',_,q2,q3,_⟩;(·have:=ja q3 Ln;omega);have:=ja q3 Ln;omega
     by_cases aW:(nd E.s i).mode=1;(·have cX:=ax aW;rw[aW]at kR;clear aW;go_wp2_with fail;refine(eO _ _ cX kJ).mono ?_;rintro e w8 ⟨rfl,(dB:Hi _)⟩;go_wp2;go_ret;exact dL.after1 cX dB HR);have cX:=ax aW;(have vI:((nd E.s i).mode==1)=false:=by simpa using aW);clear aW;go_wp2;go_ret;exact dL.after0 cX HR
    by_cases fC:(nd E.s i).kind=11\/(nd E.s i).kind=12
    ·obtain⟨rs,pG,(OM:Hi _)⟩:∃rs,(if(vl E.t x).text.size=0/\(vl E.t x).alt=0/\0<=(vl E.t x).kids then jd E (wrF E f) (decide ((nd E.s i).kind=12)) (kd (nd E.s i) 0).node.toNat (dp+1) f (vl E.t x).kids (x+1) az az false else U Z)=U rs/\((rs=Z/\rb=Z)\/∃b x' u,rs=U (b,x',u)/\rb=U (cf (fo (nd E.s i)) true (fq (nd E.s i)) b,x',u)):=by
      have h:=m9.out;unfold jc at h;rw[G bU,G gR,G bG,ba O]at h;split at h
      ·rename_i q;rw[ba q];rcases qn h with⟨h1,h2⟩|⟨b,x',u,h1,h2⟩;(·exact⟨Z,h1,.inl ⟨X,h2⟩⟩);exact⟨_,h1,.inr ⟨b,x',u,X,(dd h2).symm⟩⟩
      rename_i q;rw[G q];exact⟨Z,X,.inl ⟨X,(dd h).symm⟩⟩
     have OB:=ax (ajj E W R _ c ta tc f HC HN i hi fC ka kc oE aL ⟨(nd E.s i).kind,(vl E.t x).text,(vl E.t x).alt,(vl E.t x).kids⟩ (x+1) dp rs u0 w5 pG gS (HC.kids x gS) cP gJ fY);obtain⟨K,hK⟩:∃K,(nd E.s i).kind=K:=Ey;have HK:=ax hK;unfold yq yz at OB;rw[hK]at OB k0 v0 fC;clear hK bG bU gR pG;rcases fC with rfl|rfl;all_goals
      go_wp2_with fail;refine OB.mono ?_;rintro e w6 eA;obtain⟨b,rfl,qA⟩:=eA.str;have lG:=ax eA;have j5:=ax (eA.1 _ _ lM xB);(have QH:b.size<=16777215:=by have:=HC.out.size;omega);clear eA qA;go_wp2_with fail;refine(jF true b _ QH).mono ?_;rintro e w7 ⟨rfl,kZ⟩;have dL:=ax (ss.of_el lG oC gS kZ OM);have lH:=ax (bc j5 kZ);clear kZ;obtain⟨-,kQ,kR, -⟩:=fi lH;have kO:=bp kQ;simp only at kO;have kJ:(cf (fo (nd E.s i)) true (fq (nd E.s i)) b).size<=16777215:=by
       obtain⟨_,b',bV,fP⟩:=dL.out;injection bV with bV;rw[bV];have h1:=HC.out.size;rcases fP with⟨x',_,_,q2,q3,_⟩|⟨_,x',_,q2,q3,_⟩;(·have:=ja q3 Ln;omega);have:=ja q3 Ln;omega
      by_cases aW:(nd E.s i).mode=1;(·have cX:=ax aW;rw[aW]at kR;clear aW;go_wp2_with fail;refine(eO _ _ cX kJ).mono ?_;rintro e w8 ⟨rfl,(dB:Hi _)⟩;go_wp2;go_ret;exact dL.after1 cX dB HR);have cX:=ax aW;(have vI:((nd E.s i).mode==1)=false:=by simpa using aW);clear aW;go_wp2;go_ret;exact dL.after0 cX HR
    have fI:=qx HC.right.2.2.1 i hi;have GM:Hi (((E.ok (nd E.s i).kind (vl E.t x).text=true/\(vl E.t x).alt=0/\(vl E.t x).kids=0)/\rb=U (cf (fo (nd E.s i)) false (fq (nd E.s i)) (vl E.t x).text,x+1,false))\/(¬(E.ok (nd E.s i).kind (vl E.t x).text=true/\(vl E.t x).alt=0/\(vl E.t x).kids=0)/\rb=Z)):=by
     have h:=m9.out;unfold jc at h;rw[G bU,G gR,G bG,G O]at h;split at h;(·rename_i q;exact .inl ⟨q,(dd h).symm⟩);rename_i q;exact .inr ⟨q,(dd h).symm⟩
    have oW:=ax (Vr (nd E.s i).kind (vl E.t x).text w5 O);(have t13:((nd E.s i).kind==13)=false:=by simpa using bU);(have t14:((nd E.s i).kind==14)=false:=by simpa using gR);(have A4:((nd E.s i).kind==10)=false:=by simpa using bG);(have t11:((nd E.s i).kind==11)=false:=by simpa using(fun h=>fC (.inl h)));(have t12:((nd E.s i).kind==12)=false:=by simpa using(fun h=>fC (.inr h)));clear bG fC bU gR fI;go_wp2_with fail;refine oW.mono ?_;rintro e w6 ⟨rv,rfl,JI,kq,XM⟩;(have eB:Bw w5 w6:=by rw[XM];exact Go.below_drewN By kq);have r8:Hi (rv=true↔E.ok (nd E.s i).kind (vl E.t x).text=true):=JI.trans (HC.ok _ _).symm;have cZ:=fY.below eB;have pB:=bc wC eB;have j5:=ax (bc xB eB);have eH:Hi (dg R w w6):=oC.trans (dg.of_below eB);have yV:=cZ.own;unfold ls at yV;(have e3:w6.cell? (D R 3 Z)=U (Bo false):=by simp[Wc,yV]);have g3:w6.frozen? (D R 3 Z)=false:=Fz yV;have IN:=lc e3;obtain⟨-,y1,y2,y3⟩:=fi pB;have Q8:=bp y1;simp only at Q8;have qM:Hi (∀nn:Bool,nn=(!decide (E.ok (nd E.s i).kind (vl E.t x).text=true/\(vl E.t x).alt=0/\(vl E.t x).kids=0))->(∀wz,H (w6.setCell (D R 3 Z) (Bo nn)).heap.size (w6.setCell (D R 3 Z) (Bo nn)) wz->ss E W R (U (D ab ao Z)) c ta tc rb x u0 w (Y (cf (fo (nd E.s i)) false (fq (nd E.s i)) (vl E.t x).text)) wz)/\(w6.setCell (D R 3 Z) (Bo nn)).heap[nb]? =U (C #[I J (nd E.s i).kind,I J (nd E.s i).tag,I J (nd E.s i).mode,S ka (nd E.s i).kids.length kc] 58 (0,0))):=fun nn fJ=>by
     refine⟨fun wz hb=>⟨(eH.trans (dg.set 3 _)).trans (dg.of_below hb),_,X,?_⟩,(dg.set (R:=R) (w:=w6) 3 (Bo nn)) nb _ lM j5⟩;have lL:=(cZ.setNo nn).below hb;have hp:=UJ.out;have sM:=jv (fo (nd E.s i)) false (fq (nd E.s i)) (vl E.t x).text;rcases GM with⟨q,q2⟩|⟨q,q2⟩;(·left;rw[fJ,ch q]at lL;refine⟨x+1,false,q2,O,gS,?_⟩;rw[Cc];exact lL);right;rw[fJ,br q]at lL;exact⟨q2,x+1,u0,O,gS,lL⟩
    clear eB cZ pB yV oW k0 k1 k2 k3 v0 v1 v2 v3 JI XM
    cases rv with
    |true=>
     have dQ:Hi (E.ok (nd E.s i).kind (vl E.t x).text=true):=r8.1 X
     by_cases q3:(vl E.t x).alt=0
     ·have jK:=ax q3
      rw[q3]at y2
      by_cases q4:(vl E.t x).kids=0
      ·have vX:=ax q4
       rw[q4]at y3
       clear q3 q4
       have HQ:Hi (false=(!decide (E.ok (nd E.s i).kind (vl E.t x).text=true/\(vl E.t x).alt=0/\(vl E.t x).kids=0))):=by show false=_;rw[ch ⟨dQ,jK,vX⟩];rfl
       go_upto_region 17 with fail
       obtain⟨gG,gI⟩:=qM false HQ
       have vQ:(w6.setCell (D R 3 Z) (Bo false)).cell? (D vb 1 Z)=U (Y (vl E.t x).text):=by rw[ox (ez _ _ _ _ AL)];exact y1
       generalize w6.setCell (D R 3 Z) (Bo false)=w7 at gG gI vQ ⊢
       have A7:=ax gG
       have BF:=ax gI
       have CZ:=bp vQ
       simp only at CZ
       clear gG gI
       go_wp2_with fail
       refine(jF false (vl E.t x).text _ O).mono ?_
       rintro e w9 ⟨rfl,nC⟩
       have dL:=ax (A7 w9 nC)
       have qO:=ax (bc BF nC)
       clear nC
       obtain⟨-,kQ,kR, -⟩:=fi qO
       have kO:=bp kQ
       simp only at kO
       have kJ:(cf (fo (nd E.s i)) false (fq (nd E.s i)) (vl E.t x).text).size<=16777215:=by
        obtain⟨_,b',bV,fP⟩:=dL.out
        injection bV with bV
        rw[bV]
        have h1:=HC.out.size
        rcases fP with⟨x',_,_,q2,q3,_⟩|⟨_,x',_,q2,q3,_⟩
        ·have:=ja q3 Ln;omega
        ·have:=ja q3 Ln;omega
       by_cases aW:(nd E.s i).mode=1
       ·have cX:=ax aW
        rw[aW]at kR
        clear aW
        go_wp2_with fail
        refine(eO _ _ cX kJ).mono ?_
        rintro e w8 ⟨rfl,(dB:Hi _)⟩
        go_wp2
        go_ret
        exact dL.after1 cX dB HR
       ·have cX:=ax aW
        have vI:((nd E.s i).mode==1)=false:=by simpa using aW
        clear aW
        go_wp2
        go_ret
        exact dL.after0 cX HR
      ·have vX:=ax q4
       have SA:((vl E.t x).kids !=0)=true:=by simpa using q4
       clear q3
       have HQ:Hi (true=(!decide (E.ok (nd E.s i).kind (vl E.t x).text=true/\(vl E.t x).alt=0/\(vl E.t x).kids=0))):=by show true=_;rw[br (fun h=>vX h.2.2)];rfl
       go_upto_region 17 with fail
       obtain⟨gG,gI⟩:=qM true HQ
       have vQ:(w6.setCell (D R 3 Z) (Bo true)).cell? (D vb 1 Z)=U (Y (vl E.t x).text):=by rw[ox (ez _ _ _ _ AL)];exact y1
       generalize w6.setCell (D R 3 Z) (Bo true)=w7 at gG gI vQ ⊢
       have A7:=ax gG
       have BF:=ax gI
       have CZ:=bp vQ
       simp only at CZ
       clear gG gI
       go_wp2_with fail
       refine(jF false (vl E.t x).text _ O).mono ?_
       rintro e w9 ⟨rfl,nC⟩
       have dL:=ax (A7 w9 nC)
       have qO:=ax (bc BF nC)
       clear nC
       obtain⟨-,kQ,kR, -⟩:=fi qO
       have kO:=bp kQ
       simp only at kO
       have kJ:(cf (fo (nd E.s i)) false (fq (nd E.s i)) (vl E.t x).text).size<=16777215:=by
        obtain⟨_,b',bV,fP⟩:=dL.out
        injection bV with bV
        rw[bV]
        have h1:=HC.out.size
        rcases fP with⟨x',_,_,q2,q3,_⟩|⟨_,x',_,q2,q3,_⟩
        ·have:=ja q3 Ln;omega
        ·have:=ja q3 Ln;omega
       by_cases aW:(nd E.s i).mode=1
       ·have cX:=ax aW
        rw[aW]at kR
        clear aW
        go_wp2_with fail
        refine(eO _ _ cX kJ).mono ?_
        rintro e w8 ⟨rfl,(dB:Hi _)⟩
        go_wp2
        go_ret
        exact dL.after1 cX dB HR
       ·have cX:=ax aW
        have vI:((nd E.s i).mode==1)=false:=by simpa using aW
        clear aW
        go_wp2
        go_ret
        exact dL.after0 cX HR
     ·have jK:=ax q3
      have A3:((vl E.t x).alt !=0)=true:=by simpa using q3
      have HQ:Hi (true=(!decide (E.ok (nd E.s i).kind (vl E.t x).text=true/\(vl E.t x).alt=0/\(vl E.t x).kids=0))):=by show true=_;rw[br (fun h=>jK h.2.1)];rfl
      go_upto_region 17 with fail
      obtain⟨gG,gI⟩:=qM true HQ
      have vQ:(w6.setCell (D R 3 Z) (Bo true)).cell? (D vb 1 Z)=U (Y (vl E.t x).text):=by rw[ox (ez _ _ _ _ AL)];exact y1
      generalize w6.setCell (D R 3 Z) (Bo true)=w7 at gG gI vQ ⊢
      have A7:=ax gG
      have BF:=ax gI
      have CZ:=bp vQ
      simp only at CZ
      clear gG gI
      go_wp2_with fail
      refine(jF false (vl E.t x).text _ O).mono ?_
      rintro e w9 ⟨rfl,nC⟩
      have dL:=ax (A7 w9 nC)
      have qO:=ax (bc BF nC)
      clear nC
      obtain⟨-,kQ,kR, -⟩:=fi qO
      have kO:=bp kQ
      simp only at kO
      have kJ:(cf (fo (nd E.s i)) false (fq (nd E.s i)) (vl E.t x).text).size<=16777215:=by
       obtain⟨_,b',bV,fP⟩:=dL.out
       injection bV with bV
       rw[bV]
       have h1:=HC.out.size
       rcases fP with⟨x',_,_,q2,q3,_⟩|⟨_,x',_,q2,q3,_⟩
       ·have:=ja q3 Ln;omega
       ·have:=ja q3 Ln;omega
      by_cases aW:(nd E.s i).mode=1
      ·have cX:=ax aW
       rw[aW]at kR
       clear aW
       go_wp2_with fail
       refine(eO _ _ cX kJ).mono ?_
       rintro e w8 ⟨rfl,(dB:Hi _)⟩
       go_wp2
       go_ret
       exact dL.after1 cX dB HR
      ·have cX:=ax aW
       have vI:((nd E.s i).mode==1)=false:=by simpa using aW
       clear aW
       go_wp2
       go_ret
       exact dL.after0 cX HR
    |false=>
     have dQ:Hi (¬E.ok (nd E.s i).kind (vl E.t x).text=true):=fun h=>Bool.noConfusion (r8.2 h)
     have HQ:Hi (true=(!decide (E.ok (nd E.s i).kind (vl E.t x).text=true/\(vl E.t x).alt=0/\(vl E.t x).kids=0))):=by show true=_;rw[br (fun h=>dQ h.1)];rfl
     go_upto_region 17 with fail
     obtain⟨gG,gI⟩:=qM true HQ
     have vQ:(w6.setCell (D R 3 Z) (Bo true)).cell? (D vb 1 Z)=U (Y (vl E.t x).text):=by rw[ox (ez _ _ _ _ AL)];exact y1
     generalize w6.setCell (D R 3 Z) (Bo true)=w7 at gG gI vQ ⊢
     have A7:=ax gG
     have BF:=ax gI
     have CZ:=bp vQ
     simp only at CZ
     clear gG gI
     go_wp2_with fail
     refine(jF false (vl E.t x).text _ O).mono ?_
     rintro e w9 ⟨rfl,nC⟩
     have dL:=ax (A7 w9 nC)
     have qO:=ax (bc BF nC)
     clear nC
     obtain⟨-,kQ,kR, -⟩:=fi qO
     have kO:=bp kQ
     simp only at kO
     have kJ:(cf (fo (nd E.s i)) false (fq (nd E.s i)) (vl E.t x).text).size<=16777215:=by
      obtain⟨_,b',bV,fP⟩:=dL.out
      injection bV with bV
      rw[bV]
      have h1:=HC.out.size
      rcases fP with⟨x',_,_,q2,q3,_⟩|⟨_,x',_,q2,q3,_⟩
      ·have:=ja q3 Ln;omega
      ·have:=ja q3 Ln;omega
     by_cases aW:(nd E.s i).mode=1
     ·have cX:=ax aW
      rw[aW]at kR
      clear aW
      go_wp2_with fail
      refine(eO _ _ cX kJ).mono ?_
      rintro e w8 ⟨rfl,(dB:Hi _)⟩
      go_wp2
      go_ret
      exact dL.after1 cX dB HR
     ·have cX:=ax aW
      have vI:((nd E.s i).mode==1)=false:=by simpa using aW
      clear aW
      go_wp2
      go_ret
      exact dL.after0 cX HR
   have QM:12<dp:=O;rw[dR]at m0;(have HR:Hi (r=Z):=by rw[G (fun h=>gJ h.2.2)]at hm;exact(dd hm).symm);clear hm;go_quiet (fail);have dW:=Go.below_drewN (cm w1.heap.size w1) nq;(have zO:(w1.drewN nq).cell? (D R 3 Z)=U (Bo false):=by simpa using e3);(have H8:(w1.drewN nq).frozen? (D R 3 Z)=false:=by simpa using g3);generalize w1.drewN nq=w2 at dW zO H8 ⊢;have aD:=ax dW;have pW:=lc zO;clear dW e1 e2 e3 g3 k0 xY;go_wp2;go_ret;exact bM _ aD HR
  have HR:Hi (r=Z):=by rw[G (fun h=>dR h.2.1)]at hm;exact(dd hm).symm
  clear hm;go_quiet (fail);have dW:=Go.below_drewN (cm w1.heap.size w1) nq;have zO:(w1.drewN nq).cell? (D R 3 Z)=U (Bo false):=by simpa using e3
  have H8:(w1.drewN nq).frozen? (D R 3 Z)=false:=by simpa using g3
  generalize w1.drewN nq=w2 at dW zO H8 ⊢;have aD:=ax dW;have pW:=lc zO;clear dW e1 e2 e3 g3 k0 xY;go_wp2;go_ret;exact bM _ aD HR
 have FB:(E.t.length:Int)<=x:=O;have HR:Hi (r=Z):=by rw[G (fun h=>gS h.1)]at hm;exact(dd hm).symm
 clear hm;go_quiet (fail);have dW:=Go.below_drewN (cm w1.heap.size w1) nq;have zO:(w1.drewN nq).cell? (D R 3 Z)=U (Bo false):=by simpa using e3
 have H8:(w1.drewN nq).frozen? (D R 3 Z)=false:=by simpa using g3
 generalize w1.drewN nq=w2 at dW zO H8 ⊢;have aD:=ax dW;have pW:=lc zO;clear dW e1 e2 e3 g3 k0 xY;go_wp2;go_ret;exact bM _ aD HR
theorem ZZ(E:de)(W:M)(R:Nat)(a:Oo Ad)(c:Nat)(ta:Oo Ad)(tc:Nat)(hc:WC E W a ta)(dX:E.t.length<=tc):∀f,Cm E W R a c ta tc f
 |0=>fun _ _ _ _ _ _ hm=>by cases hm
 |f+1=>ajk E W R a c ta tc f hc dX (ZZ E W R a c ta tc hc dX f)
theorem ahx(E:de)(s:Ls Nd)(a:Oo Ad)(c:Nat)(root:Int)(t:Ls Vl)(ta:Oo Ad)(tc:Nat)(v:Except Int Q)(w:M)(hs:ew w a s)(hok:ky s)(fA:s.length<=140737488351232)(ht:qb w ta t)(dX:t.length<=tc)(oS:pz t t.length<=16777000)(dR:∀j,j<t.length->(vl t j).kids<=9223372036854775807)(hv:Cf E s root t v):Cs Tryz.prog 43 #[S a s.length c,I J root,S ta t.length tc] w fun e w'=>Ct v w e w':=by
 have GO:Hi (Cs Tryz.prog 15 #[S a s.length c] w fun e w'=>dw (ee s) w e w'):=Pz s a c w hs hok fA;have HS:=ax hs;have dQ:=ax hok;have HT:=ax ht;have HV:=ax hv;have DG:=ax dR;have bC:t.length<=16777000:=by unfold pz at oS;omega
 have OL:=ax oS;clear hs hok ht hv dR oS;go_enter Tryz.func43,Tryz.ntmps43;go_wp2_with fail;refine GO.mono ?_;rintro e w1 ⟨r,rfl,(HR:Hi _),(aC:Hi _)⟩;have zL:∀w',Bw w w'->¬(ee s/\0<=root/\root<s.length)->Ct v w (Rt (Tu #[Y ⟨#[]⟩,I J 1])) w':=fun w' hb h=>by
  rcases HV with⟨_,rfl⟩|⟨q,_⟩;·exact⟨hb,X⟩
  exact Ab q h
 have A6:=ax zL;clear zL;cases r;·have OF:Hi (¬ee s):=fun q=>Bool.noConfusion (HR.2 q);go_wp2;refine db (v:=Tu #[Y ⟨#[]⟩,I J 1]) (by simp[results,Tryz.results43,go_sem]) X ?_;exact A6 _ aC fun q=>OF q.1
 have DR:Hi (ee s):=HR.1 X;by_cases h0:root<0;·go_wp2;refine db (v:=Tu #[Y ⟨#[]⟩,I J 1]) (by simp[results,Tryz.results43,go_sem]) X ?_;exact A6 _ aC fun q=>O
 have nP:0<=root:=O;by_cases h1:root<s.length
 ·obtain⟨rfl,rfl,gX,f,r,pF,(tJ:Hi _)⟩:E.s=s/\E.t=t/\(∀k u,E.ok k u=true↔bu k u)/\∃f r,wrF E f root.toNat 0 1=U r/\v=sy r t.length:=by
   rcases HV with⟨q,_⟩|⟨_,q⟩;(·exact Ab ⟨DR,nP,h1⟩ q);exact q
  obtain⟨rt,rfl⟩:∃n:Nat,root=n:=⟨root.toNat,O⟩;have WK:WC E w1 a ta:=⟨HS.below aC,DR,dQ,gX,HT.below aC,OL,DG⟩;have bH:=bl w1 (ls a E.s.length c ta E.t.length tc 0 false false);have dG:kh w1 (w1.alloc (ls a E.s.length c ta E.t.length tc 0 false false)) w1.heap.size a E.s.length c ta E.t.length tc 0 false false:=⟨Be,Ln,bH⟩;have dV:Hi (Cs Tryz.prog 71 #[Po (U (D w1.heap.size 0 Z)),I J rt,I J 1] (w1.alloc (ls a E.s.length c ta E.t.length tc 0 false false)) fun e w'=>np E w1 w1.heap.size a c ta tc r 0 false (w1.alloc (ls a E.s.length c ta E.t.length tc 0 false false)) e w'):=ZZ E w1 w1.heap.size a c ta tc WK dX f rt 0 1 r false _ (by simpa using pF) O Lz Dc Dc dG;unfold ls at dV;clear pF WK bH dG gX;go_wp2_with fail;refine dV.mono ?_;rintro e w3 vB;have f8:=vB.2;clear vB;rcases f8 with⟨b,x,u,hr,rfl,_,hx,bI⟩|⟨hr,b,x,u,rfl,_,hx,bI⟩
  ·have aR:Hi (Bw w w3):=Tm aC bI.bel;have xL:=ax hr;have oT:=bI.own;unfold ls at oT;obtain⟨-, -,c2,c3,c4⟩:=uC oT;have iX:=bp c2;simp only at iX;clear bI oT hr dV;by_cases jD:x<E.t.length;(·have RX:(x:Int)<E.t.length:=O;(have HE:Hi (v= .error 11):=by show v=_;rw[tJ,xL.out];unfold sy;simp only;rw[ba jD]);go_wp2;refine db (v:=Tu #[Y ⟨#[]⟩,I J 11]) (by simp[results,Tryz.results43,go_sem]) X ?_;rw[HE.out];exact⟨aR,X⟩);have RX:(E.t.length:Int)<=x:=O;by_cases iR:4000<b.size;(·have aei:(4000:Int)<b.size:=O;(have HE:Hi (v= .error 2):=by show v=_;rw[tJ,xL.out];unfold sy;simp only;rw[G jD,ba iR]);go_wp2;refine db (v:=Tu #[Y ⟨#[]⟩,I J 2]) (by simp[results,Tryz.results43,go_sem]) X ?_;rw[HE.out];exact⟨aR,X⟩);have aei:(b.size:Int)<=4000:=O
   cases u with
   |true=>
    have HE:Hi (v= .error 8):=by show v=_;rw[tJ,xL.out];unfold sy;simp only;rw[G jD,G iR,ba trivial]
    go_wp2
    refine db (v:=Tu #[Y ⟨#[]⟩,I J 8]) (by simp[results,Tryz.results43,go_sem]) X ?_
    rw[HE.out]
    exact⟨aR,X⟩
   |false=>
    have HE:Hi (v= .ok b):=by show v=_;rw[tJ,xL.out];unfold sy;simp only;rw[G jD,G iR,G Dc]
    go_wp2
    refine db (v:=Tu #[Y b,I J 0]) (by simp[results,Tryz.results43,go_sem]) X ?_
    rw[HE.out]
    exact⟨aR,X⟩
  have aR:Hi (Bw w w3):=Tm aC bI.bel;have HE:Hi (v= .error 11):=by show v=_;rw[tJ,hr];rfl
  have oT:=bI.own;unfold ls at oT;have c3:w3.cell? (D w1.heap.size 3 Z)=U (Bo true):=by simp[Wc,oT]
  have iX:=bp c3;simp only at iX;clear bI oT hr dV;go_wp2;refine db (v:=Tu #[Y ⟨#[]⟩,I J 11]) (by simp[results,Tryz.results43,go_sem]) X ?_;rw[HE.out];exact⟨aR,X⟩
 have iH:(s.length:Int)<=root:=O;go_wp2;refine db (v:=Tu #[Y ⟨#[]⟩,I J 1]) (by simp[results,Tryz.results43,go_sem]) X ?_;exact A6 _ aC fun q=>O
