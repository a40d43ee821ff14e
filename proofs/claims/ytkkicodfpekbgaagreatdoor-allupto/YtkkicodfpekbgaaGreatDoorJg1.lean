/- Parts. -/
import Derived.Test.YtkkicodfpekbgaaGreatDoorJf0
import Derived.Test.YtkkicodfpekbgaaGreatDoorJf2
open Go.Value renaming int->I,string->Y,slice->S,pointer->Po,bool->Bo,agg->Ag,tuple->Tu,iface->If
open Go.IntKind renaming i64->J
open Go.Obj renaming cells->C
open Go.Ending renaming returned->Rt
open Option renaming some->U,none->Z
open Go renaming World->M,Calls->Cs,Addr->Ad,Value->Vv
open _root_ renaming ByteArray->Q,Option->Oo,List->Ls
open Go.World renaming cell?->Wc
open UInt8 renaming ofNat->Uo
open Go.RowKit renaming Hid->Hi
open Go.Addr renaming mk->D
set_option linter.all false
set_option maxRecDepth 100000
set_option maxHeartbeats 8000000
namespace Go.Proofs.YtkkicodfpekbgaaGreatDoor
section
open Go.Proofs.Tryz
open Go.RowKit
theorem adN(c n:Int)(b:Bool)(l:Int)(w:M):Cs prog 155 #[Ag #[I J c,I J n,Bo b],I J l] w fun e w'=>e=Rt (Ag #[I J c,Bo b,I J n,I J 0,I J l])/\Bw w w':=by
 go_enter func155,ntmps155;go_wp2;refine db (v:=Ag #[I J c,Bo b,I J n,I J 0,I J l]) (by simp[results,results155,go_sem]) X ⟨X,?_⟩;exact(Be).alloc Sq _
theorem aiy(c n:Int)(b:Bool)(l:Nat)(w:M)(sn:Sn->Ad)(hs:ei w sn)(q1:0<=c)(q2:c<=3)(q3:0<=n)(q4:n<=30)(q5:l<=16777215):Cs prog 154 #[Ag #[I J c,Bo b,I J n,I J 0,I J l]] w fun e w'=>e=Rt (Tu #[Y (hdB c b n l),.nilIface])/\Bw w w':=by
 have h:=aix ⟨c,b,n,0,l⟩ w sn hs;have e:Gy ⟨c,b,n,0,(l:Int)⟩=(0,Uo (fb ⟨c,b,n,0,(l:Int)⟩).toNat::tl (l:Int)):=by unfold Gy;rw[G (by simp only;omega),G (by simp only;omega)]
 rw[e]at h;exact h
def Qt(W:M)(R:Nat)(a:Oo Ad)(m c:Nat)(ta:Oo Ad)(tn tc x:Nat)(told:Q)(lg:Bool)(ov:Vv)(st:Nat)(cl:Int)(bt:Bool)(nu:Int)(w:M)(e:Ending)(w':M):Prop:=
 Dy W R a m c ta tn tc x told lg ov st (hdB cl bt nu (told.size-st)) w e w'
theorem Hm(W w:M)(R:Nat)(a:Oo Ad)(m c:Nat)(ta:Oo Ad)(tn tc x:Nat)(told:Q)(lg:Bool)(ov:Vv)(sn:Sn->Ad)(hl:gy W sn)(st:Nat)(cl nu:Int)(bt:Bool)(q1:0<=cl)(q2:cl<=3)(q3:0<=nu)(q4:nu<=30)(hp:st<=told.size)(h4:told.size<=4000)(hI:ey W w R a m c ta tn tc x told lg ov):Cs prog 113 #[Po (U (D R 0 Z)),I J st,Ag #[I J cl,I J nu,Bo bt]] w fun e w'=>Qt W R a m c ta tn tc x told lg ov st cl bt nu w e w':=by
 have HI:=ax hI;have HL:=ax hl;obtain⟨tv,aG,gB⟩:=hI.own;obtain⟨bs,cp,rfl,j6,eU,qA⟩:=tj gB;have HG:=ax aG;have eQ:Hi (∀A,Bw w (w.alloc A)):=fun A=>(By).alloc Ln A;have HFH:Hi _:=fun wq l=>adN cl nu bt l wq;obtain⟨af,hD⟩:∃af:Nat,told.size-st=af:=Ey;have hDi:(told.size:Int)-(st:Int)=(af:Int):=O;have hD4:af<=4000:=O;have GR:Hi _:=fun wq q=>aiy cl nu bt af wq sn ((HL.below HI.bel).below q).s q1 q2 q3 q4 O;have XI:(hdB cl bt nu af).size<=140737488355328:=by have:=Qg af;unfold hdB;rw[re,fu];omega
 have mH:Hi _:=fun wq q=>On W wq R a m c ta tn tc x told lg ov st (hdB cl bt nu af) hp h4 XI q;unfold Qt;rw[hD];have HS:Hi (∀wq,Bw w wq->wq.cell? (D R 3 Z)=U (S bs told.size cp)):=fun wq q=>by have h:=bc HG q;unfold gj at h;simp[Wc,h]
 have rR:IntKind.i64.wrap ((told.size:Int)-(st:Int))=(af:Int):=by rw[hDi];simp[IntKind.wrap,IntKind.bits,IntKind.signed];omega
 have aeV:IntKind.i64.wrap (af:Int)=(af:Int):=by simp[IntKind.wrap,IntKind.bits,IntKind.signed];omega
 clear hI hl aG gB qA hD q1 q2 q3 q4 XI;go_enter func113,ntmps113;go_wp2_with fail;generalize jX:w.alloc _=w1;have bA:Bw w w1:=by rw[<-jX];exact eQ _
 have bF:w1.heap[w.heap.size]? =U (C #[I J cl,I J nu,Bo bt] 149 (0,0)):=by rw[<-jX];exact bl w _
 have aC:=ax bA;have fH:Hi (∀wq,Bw w1 wq->wq.cell? (D R 3 Z)=U (S bs told.size cp)/\wq.cell? (D w.heap.size 0 Z)=U (I J cl)/\wq.cell? (D w.heap.size 1 Z)=U (I J nu)/\wq.cell? (D w.heap.size 2 Z)=U (Bo bt)):=fun wq q=>⟨HS wq (Tm aC q),bq (bc bF q) X,bq (bc bF q) X,bq (bc bF q) X⟩;obtain⟨k0,k1,k2,k3⟩:=fH w1 By;clear jX bA bF;go_region_held_law (fun w'=>w'.cell? (D R 3 Z)=U (S bs told.size cp)/\w'.cell? (D w.heap.size 0 Z)=U (I J cl)/\w'.cell? (D w.heap.size 1 Z)=U (I J nu)/\w'.cell? (D w.heap.size 2 Z)=U (Bo bt)) (first|exact fH _ aR|exact fH _ aD|exact fH _ (By).drew |go_keep) (first|(go_at_call 155;refine(HFH _ _).mono ?_;rintro e w2 ⟨rfl,hb2⟩;have aD:Hi (Bw w1 w2):=(cm w1.heap.size w1).drew.trans hb2;clear hb2)|(go_at_call 154;refine(GR _ (Tm aC aD)).mono ?_;rintro e w3 ⟨rfl,hb3⟩;have aR:Hi (Bw w1 w3):=Tm aD hb3;clear hb3));rename_i hHeld;clear hHeld;go_wp2_with fail;refine(mH _ (HI.below (Tm aC aR))).mono ?_;rintro e w4 ⟨rfl,(cA:Hi _),t4,l4,(bE:Hi _),(eG:Hi _)⟩;go_wp2;go_returns;exact⟨X,(nw.of_below (Tm aC aR)).trans cA,t4,l4,bE,eG⟩
theorem ag8(E:de)(W:M)(R:Nat)(a:Oo Ad)(c:Nat)(ta:Oo Ad)(tc f:Nat)(sn:Sn->Ad)(hc:EC E W a ta sn)(dX:E.t.length<=tc)(hN:uL E W R a c ta tc sn f)(dJ:1<=f)(i:Nat)(hi:i<E.s.length)(ka:Oo Ad)(kc:Nat)(aK:bn W ka (nd E.s i).kids)(aL:(nd E.s i).kids.length<=kc)(dK:kc<=maxLen)(x:Nat)(dp:Int)(r:cy)(t0:Q)(l0:Bool)(o0:Oo Int)(w:M)(fV:jt (nd E.s i) (vl E.t x))(e:jc E (wrF E f) f (nd E.s i) (fo (nd E.s i)) (fq (nd E.s i)) (vl E.t x) (x+1) dp=U r)(hx:x<E.t.length)(mW:E.t.length+1<=f+(x+1))(cP:1<=dp)(dD:dp<=12)(h4:t0.size<=4000)(hI:ey W w R a E.s.length c ta E.t.length tc (x+1) t0 l0 (eo sn o0))(hk:(nd E.s i).kind=14):Cs prog 111 #[Po (U (D R 0 Z)),Ag #[I J (nd E.s i).kind,I J (nd E.s i).tag,I J (nd E.s i).mode,S ka (nd E.s i).kids.length kc],Ag #[I J (vl E.t x).kind,Y (vl E.t x).text,I J (vl E.t x).alt,I J (vl E.t x).kids],I J dp] w fun e w'=>oe E W R a c ta tc sn r t0 l0 o0 w e w':=by
 have HI:=ax hI;have vL:=hc.txt hx;obtain⟨bQ,lD,lU,jN,gW,lV,lW⟩:=pw hc.wc.right hi;obtain⟨bs,cp,rH⟩:∃bs cp,∃mF,mF=Value.slice bs t0.size cp/\w.heap[R]? =U (gj a E.s.length c ta E.t.length tc (x+1) mF l0 (eo sn o0)):=by obtain⟨tv,h1,h2⟩:=hI.own;obtain⟨bs,cp,rfl,_⟩:=tj h2;exact⟨bs,cp,_,X,h1⟩
 obtain⟨_,rfl,aG⟩:=rH;have HX:Hi (r=U ((vl E.t x).text,x+1,false)):=by have h:=e;unfold jc at h;rw[G O,ba hk,ba ((Vf hk fV.1).1 fV)]at h;injection h with h;exact h.symm
 rw[hk];obtain⟨K,hK⟩:∃K:Int,K=14:=Ez;generalize pA:(nd E.s i).tag=TG;generalize o9:(nd E.s i).mode=MD;generalize rD:(nd E.s i).kids.length=KL;generalize yA:(vl E.t x).kind=VK;generalize yB:(vl E.t x).text=VT at HX vL ⊢;generalize x7:(vl E.t x).alt=VA;generalize x9:(vl E.t x).kids=VD;have mH:Hi _:=fun wq q=>On W wq R a E.s.length c ta E.t.length tc (x+1) t0 l0 (eo sn o0) t0.size VT Ln h4 O q;have bA:Bw w ((w.alloc (C #[I J 14,I J TG,I J MD,S ka KL kc] 58)).alloc (C #[I J VK,Y VT,I J VA,I J VD] 60)):=((cm w.heap.size w).alloc Ln _).alloc Sq _;have bF:((w.alloc (C #[I J 14,I J TG,I J MD,S ka KL kc] 58)).alloc (C #[I J VK,Y VT,I J VA,I J VD] 60)).heap[w.heap.size]? =U (C #[I J 14,I J TG,I J MD,S ka KL kc] 58 (0,0)):=bc (bl w _) Be;have bH:((w.alloc (C #[I J 14,I J TG,I J MD,S ka KL kc] 58)).alloc (C #[I J VK,Y VT,I J VA,I J VD] 60)).heap[w.heap.size+1]? =U (C #[I J VK,Y VT,I J VA,I J VD] 60 (0,0)):=by simpa using bl (w.alloc (C #[I J 14,I J TG,I J MD,S ka KL kc] 58)) (C #[I J VK,Y VT,I J VA,I J VD] 60)
 have f9:=bc aG bA;unfold gj at f9;have c3:((w.alloc (C #[I J 14,I J TG,I J MD,S ka KL kc] 58)).alloc (C #[I J VK,Y VT,I J VA,I J VD] 60)).cell? (D R 3 Z)=U (S bs t0.size cp):=by simp[Wc,f9]
 clear aG f9;clear hc hI e fV lU jN gW lV lW pA o9 rD yA yB x7 x9 hk bQ lD hK aK hN;go_enter func111,ntmps111;go_upto_region 1 with fail;obtain⟨nb,dH⟩:∃nb,w.heap.size=nb:=Ey;obtain⟨vb,eD⟩:∃vb,w.heap.size+1=vb:=Ey;rw[eD]at bH ⊢;rw[dH]at bF ⊢;generalize(w.alloc _).alloc _=w1 at bA bF bH c3 ⊢;have aC:=ax bA;have aZ:=ax (HI.below bA);have v1:w1.cell? (D vb 1 Z)=U (Y VT):=bq bH X;have k0:w1.cell? (D nb 0 Z)=U (I J 14):=bq bF X;clear bA bF bH dH eD;go_wp2_with fail;refine(mH _ aZ).mono ?_;rintro e w2 ⟨rfl,(dC:Hi _),t2,l2,(aS:Hi _),(eO:Hi _)⟩;go_wp2;go_ret;exact⟨(bx.of_below aC).trans dC.fr,.inl ⟨_,_,_,t2,l2,_,HX,X,kg.ofIns h4 aS,eO⟩⟩
theorem ag9(E:de)(W:M)(R:Nat)(a:Oo Ad)(c:Nat)(ta:Oo Ad)(tc f:Nat)(sn:Sn->Ad)(hc:EC E W a ta sn)(dX:E.t.length<=tc)(hN:uL E W R a c ta tc sn f)(dJ:1<=f)(i:Nat)(hi:i<E.s.length)(ka:Oo Ad)(kc:Nat)(aK:bn W ka (nd E.s i).kids)(aL:(nd E.s i).kids.length<=kc)(dK:kc<=maxLen)(x:Nat)(dp:Int)(r:cy)(t0:Q)(l0:Bool)(o0:Oo Int)(w:M)(fV:jt (nd E.s i) (vl E.t x))(e:jc E (wrF E f) f (nd E.s i) (fo (nd E.s i)) (fq (nd E.s i)) (vl E.t x) (x+1) dp=U r)(hx:x<E.t.length)(mW:E.t.length+1<=f+(x+1))(cP:1<=dp)(dD:dp<=12)(h4:t0.size<=4000)(hI:ey W w R a E.s.length c ta E.t.length tc (x+1) t0 l0 (eo sn o0))(hk:(nd E.s i).kind<=9):Cs prog 111 #[Po (U (D R 0 Z)),Ag #[I J (nd E.s i).kind,I J (nd E.s i).tag,I J (nd E.s i).mode,S ka (nd E.s i).kids.length kc],Ag #[I J (vl E.t x).kind,Y (vl E.t x).text,I J (vl E.t x).alt,I J (vl E.t x).kids],I J dp] w fun e w'=>oe E W R a c ta tc sn r t0 l0 o0 w e w':=by
 have HC:=ax hc;have HI:=ax hI;have vL:=hc.txt hx;have jC:=Hh hc.wc.right hi;have jO:=Hj (n:=nd E.s i) O;obtain⟨bQ,lD,lU,jN,gW,lV,lW⟩:=pw hc.wc.right hi;obtain⟨bs,cp,rH⟩:∃bs cp,∃mF,mF=Value.slice bs t0.size cp/\w.heap[R]? =U (gj a E.s.length c ta E.t.length tc (x+1) mF l0 (eo sn o0)):=by obtain⟨tv,h1,h2⟩:=hI.own;obtain⟨bs,cp,rfl,_⟩:=tj h2;exact⟨bs,cp,_,X,h1⟩
 obtain⟨_,rfl,aG⟩:=rH;have eS:=eb aG;have HX:Hi (r=U (cf (fo (nd E.s i)) false (fq (nd E.s i)) (vl E.t x).text,x+1,false)):=by have h:=e;have hf:=(Vg (.inl O) fV.1).1 fV;unfold jc at h;rw[G O,G O,G O,G O,ba ⟨(hc.wc.ok _ _).2 hf.1,hf.2⟩]at h;injection h with h;exact h.symm
 obtain⟨CL,tQ⟩:∃CL,fo (nd E.s i)=CL:=Ey;obtain⟨NU,tY⟩:∃NU,fq (nd E.s i)=NU:=Ey;rw[tQ,tY]at jO jC HX;obtain⟨K,hK⟩:∃K,(nd E.s i).kind=K:=Ey;rw[hK]at hk ⊢;obtain⟨BT,o7⟩:∃BT:Bool,BT=false:=Ez;replace HX:Hi (r=U (cf CL BT NU (vl E.t x).text,x+1,false)):=by rw[o7];exact HX
 generalize pA:(nd E.s i).tag=TG;generalize o9:(nd E.s i).mode=MD;generalize rD:(nd E.s i).kids.length=KL;generalize yA:(vl E.t x).kind=VK;generalize yB:(vl E.t x).text=VT at HX vL ⊢;generalize x7:(vl E.t x).alt=VA;generalize x9:(vl E.t x).kids=VD;have mH:Hi (∀wq,ey W wq R a E.s.length c ta E.t.length tc (x+1) t0 l0 (eo sn o0)->Cs prog 149 #[Po (U (D R 0 Z)),I J t0.size,Y VT] wq fun e w'=>Dy W R a E.s.length c ta E.t.length tc (x+1) t0 l0 (eo sn o0) t0.size VT wq e w'):=fun wq q=>On W wq R a E.s.length c ta E.t.length tc (x+1) t0 l0 (eo sn o0) t0.size VT Ln h4 O q;have jJ:Hi (∀wq,Bw W wq->Cs prog 152 #[Ag #[I J K,I J TG,I J MD,S ka KL kc]] wq fun e w'=>e=Rt (Ag #[I J CL,I J NU,Bo BT])/\Bw wq w'):=fun wq q=>by have:=Gh (nd E.s i) ka kc wq (HC.lay.below q).n O O O;unfold fv at this;rw[<-jO,pA,o9,rD]at this;rw[hK,br O,<-o7]at this;exact this
 have tK:Hi (∀wq t1 l1 o1 x1,ey W wq R a E.s.length c ta E.t.length tc x1 t1 l1 (eo sn o1)->t0.size<=t1.size->t1.size<=4000->Cs prog 113 #[Po (U (D R 0 Z)),I J t0.size,Ag #[I J CL,I J NU,Bo BT]] wq fun e w'=>Dy W R a E.s.length c ta E.t.length tc x1 t1 l1 (eo sn o1) t0.size (hdB CL BT NU (t1.size-t0.size)) wq e w'):=fun wq t1 l1 o1 x1 q h1 h2=>Hm W wq R a E.s.length c ta E.t.length tc x1 t1 l1 (eo sn o1) sn HC.lay t0.size CL NU BT jC.1 jC.2.1 jC.2.2.1 jC.2.2.2 h1 h2 q;have bA:Bw w ((w.alloc (C #[I J K,I J TG,I J MD,S ka KL kc] 58)).alloc (C #[I J VK,Y VT,I J VA,I J VD] 60)):=((cm w.heap.size w).alloc Ln _).alloc Sq _;have bF:((w.alloc (C #[I J K,I J TG,I J MD,S ka KL kc] 58)).alloc (C #[I J VK,Y VT,I J VA,I J VD] 60)).heap[w.heap.size]? =U (C #[I J K,I J TG,I J MD,S ka KL kc] 58 (0,0)):=bc (bl w _) Be;have bH:((w.alloc (C #[I J K,I J TG,I J MD,S ka KL kc] 58)).alloc (C #[I J VK,Y VT,I J VA,I J VD] 60)).heap[w.heap.size+1]? =U (C #[I J VK,Y VT,I J VA,I J VD] 60 (0,0)):=by simpa using bl (w.alloc (C #[I J K,I J TG,I J MD,S ka KL kc] 58)) (C #[I J VK,Y VT,I J VA,I J VD] 60)
 have f9:=bc aG bA;unfold gj at f9;have c3:((w.alloc (C #[I J K,I J TG,I J MD,S ka KL kc] 58)).alloc (C #[I J VK,Y VT,I J VA,I J VD] 60)).cell? (D R 3 Z)=U (S bs t0.size cp):=by simp[Wc,f9]
 clear aG f9;have b14:(K==14)=false:=So;have b10:(K==10)=false:=So;have b11:(K==11)=false:=So;have b12:(K==12)=false:=So;clear hc hI e fV jO jC lU jN gW lV lW pA o9 rD yA yB x7 x9 hk bQ lD hK aK hN o7 tQ tY;go_enter func111,ntmps111;go_upto_region 1 with fail;obtain⟨nb,dH⟩:∃nb,w.heap.size=nb:=Ey;obtain⟨vb,eD⟩:∃vb,w.heap.size+1=vb:=Ey;rw[eD]at bH ⊢;rw[dH]at bF ⊢;generalize(w.alloc _).alloc _=w1 at bA bF bH c3 ⊢;have lM:nb≠R:=O;have aC:=ax bA;have aV:=ax bF;have aZ:=ax (HI.below bA);have v1:w1.cell? (D vb 1 Z)=U (Y VT):=bq bH X;have k0:w1.cell? (D nb 0 Z)=U (I J K):=bq bF X;clear bA bF bH dH eD;go_wp2_with fail;refine(mH _ aZ).mono ?_;rintro e w2 ⟨rfl,gH,t2,l2,wL,(eO:Hi _)⟩;have dC:Hi (bx R w1 w2):=gH.fr;have jL:Hi (kg t0 l0 o0 VT false t2 l2 o0):=kg.ofIns h4 wL;clear gH wL k0 v1 c3;have kn:=dC _ _ _ lM Dc aV;obtain⟨q0,q1,q2,q3⟩:=fi kn;clear kn;go_wp2_with fail;refine(jJ _ eO.bel).mono ?_;rintro e w8 ⟨rfl,(dB:Hi _)⟩;go_wp2_with fail;refine(tK _ _ _ _ _ (eO.below dB) jL.le jL.mx).mono ?_;rintro e w9 ⟨rfl,(jG:Hi _),t9,l9,(s8:Hi _),(gN:Hi _)⟩;go_wp2;go_ret;exact⟨(bx.of_below aC).trans (dC.trans ((bx.of_below dB).trans jG.fr)),.inl ⟨_,_,_,t9,l9,_,HX,X,jL.wrap s8,gN⟩⟩
theorem ag5(E:de)(W:M)(R:Nat)(a:Oo Ad)(c:Nat)(ta:Oo Ad)(tc f:Nat)(sn:Sn->Ad)(hc:EC E W a ta sn)(dX:E.t.length<=tc)(hN:uL E W R a c ta tc sn f)(dJ:1<=f)(i:Nat)(hi:i<E.s.length)(ka:Oo Ad)(kc:Nat)(aK:bn W ka (nd E.s i).kids)(aL:(nd E.s i).kids.length<=kc)(dK:kc<=maxLen)(x:Nat)(dp:Int)(r:cy)(t0:Q)(l0:Bool)(o0:Oo Int)(w:M)(fV:jt (nd E.s i) (vl E.t x))(e:jc E (wrF E f) f (nd E.s i) (fo (nd E.s i)) (fq (nd E.s i)) (vl E.t x) (x+1) dp=U r)(hx:x<E.t.length)(mW:E.t.length+1<=f+(x+1))(cP:1<=dp)(dD:dp<=12)(h4:t0.size<=4000)(hI:ey W w R a E.s.length c ta E.t.length tc (x+1) t0 l0 (eo sn o0))(hk:(nd E.s i).kind=10):Cs prog 111 #[Po (U (D R 0 Z)),Ag #[I J (nd E.s i).kind,I J (nd E.s i).tag,I J (nd E.s i).mode,S ka (nd E.s i).kids.length kc],Ag #[I J (vl E.t x).kind,Y (vl E.t x).text,I J (vl E.t x).alt,I J (vl E.t x).kids],I J dp] w fun e w'=>oe E W R a c ta tc sn r t0 l0 o0 w e w':=by
 have HC:=ax hc;have HI:=ax hI;have jC:=Hh hc.wc.right hi;have jO:=Hj (n:=nd E.s i) O;obtain⟨bQ,lD,lU,jN,gW,lV,lW⟩:=pw hc.wc.right hi;obtain⟨bs,cp,rH⟩:∃bs cp,∃mF,mF=Value.slice bs t0.size cp/\w.heap[R]? =U (gj a E.s.length c ta E.t.length tc (x+1) mF l0 (eo sn o0)):=by obtain⟨tv,h1,h2⟩:=hI.own;obtain⟨bs,cp,rfl,_⟩:=tj h2;exact⟨bs,cp,_,X,h1⟩
 obtain⟨_,rfl,aG⟩:=rH;have eS:=eb aG;obtain⟨r1,bW,HX⟩:∃r1,dx E (wrF E f) dp (nd E.s i).kids (x+1) az false=U r1/\Hi ((r1=Z->r=Z)/\∀b x' u,r1=U (b,x',u)->r=U (cf (fo (nd E.s i)) true (fq (nd E.s i)) b,x',u)):=by
  have h:=e;unfold jc at h;rw[G O,G O,ba hk,ba ((Vd hk fV.1).1 fV)]at h;rcases qn h with⟨h1,h2⟩|⟨b,x',u,h1,h2⟩;·exact⟨Z,h1,fun _=>h2,fun _ _ _ q=>by cases q⟩
  refine⟨_,h1,fun q=>(by cases q),fun b' Z6 u' q=>?_⟩;injection q with q;injection q with e1 q;injection q with e2 e3;subst e1 e2 e3;injection h2 with h2;exact h2.symm
 obtain⟨CL,tQ⟩:∃CL,fo (nd E.s i)=CL:=Ey;obtain⟨NU,tY⟩:∃NU,fq (nd E.s i)=NU:=Ey;rw[tQ,tY]at jO jC HX;obtain⟨K,hK⟩:∃K,(nd E.s i).kind=K:=Ey;rw[hK]at hk ⊢;obtain⟨BT,o7⟩:∃BT:Bool,BT=true:=Ez;rw[<-o7]at HX;have jS:Hi (∀wq,ey W wq R a E.s.length c ta E.t.length tc (x+1) t0 l0 (eo sn o0)->Cs prog 150 #[Po (U (D R 0 Z)),Ag #[I J K,I J (nd E.s i).tag,I J (nd E.s i).mode,S ka (nd E.s i).kids.length kc],I J dp] wq fun e w'=>oe E W R a c ta tc sn r1 t0 l0 o0 wq e w'):=fun wq q=>by rw[<-hK];exact adH E W R a c ta tc f sn hc dX hN dJ i hi ka kc aK aL dK (x+1) dp r1 t0 l0 o0 wq bW hx mW cP dD h4 q
 generalize pA:(nd E.s i).tag=TG at jS ⊢;generalize o9:(nd E.s i).mode=MD at jS ⊢;generalize rD:(nd E.s i).kids.length=KL at jS ⊢;generalize yA:(vl E.t x).kind=VK;generalize yB:(vl E.t x).text=VT;generalize x7:(vl E.t x).alt=VA;generalize x9:(vl E.t x).kids=VD at jS ⊢;have jJ:Hi (∀wq,Bw W wq->Cs prog 152 #[Ag #[I J K,I J TG,I J MD,S ka KL kc]] wq fun e w'=>e=Rt (Ag #[I J CL,I J NU,Bo BT])/\Bw wq w'):=fun wq q=>by have:=Gh (nd E.s i) ka kc wq (HC.lay.below q).n O O O;unfold fv at this;rw[<-jO,pA,o9,rD]at this;rw[hK,ch O,<-o7]at this;exact this
 have tK:Hi _:=fun wq t1 l1 o1 x1 q h1 h2=>Hm W wq R a E.s.length c ta E.t.length tc x1 t1 l1 (eo sn o1) sn HC.lay t0.size CL NU BT jC.1 jC.2.1 jC.2.2.1 jC.2.2.2 h1 h2 q;have bA:Bw w ((w.alloc (C #[I J K,I J TG,I J MD,S ka KL kc] 58)).alloc (C #[I J VK,Y VT,I J VA,I J VD] 60)):=((cm w.heap.size w).alloc Ln _).alloc Sq _;have bF:((w.alloc (C #[I J K,I J TG,I J MD,S ka KL kc] 58)).alloc (C #[I J VK,Y VT,I J VA,I J VD] 60)).heap[w.heap.size]? =U (C #[I J K,I J TG,I J MD,S ka KL kc] 58 (0,0)):=bc (bl w _) Be;have bH:((w.alloc (C #[I J K,I J TG,I J MD,S ka KL kc] 58)).alloc (C #[I J VK,Y VT,I J VA,I J VD] 60)).heap[w.heap.size+1]? =U (C #[I J VK,Y VT,I J VA,I J VD] 60 (0,0)):=by simpa using bl (w.alloc (C #[I J K,I J TG,I J MD,S ka KL kc] 58)) (C #[I J VK,Y VT,I J VA,I J VD] 60)
 have f9:=bc aG bA;unfold gj at f9;have c3:((w.alloc (C #[I J K,I J TG,I J MD,S ka KL kc] 58)).alloc (C #[I J VK,Y VT,I J VA,I J VD] 60)).cell? (D R 3 Z)=U (S bs t0.size cp):=by simp[Wc,f9]
 clear aG f9;clear hc hI e fV jO jC lU jN gW lV lW pA o9 rD yA yB x7 x9 hK bQ lD aK hN o7 tQ tY;subst hk;go_enter func111,ntmps111;go_upto_region 1 with fail;obtain⟨nb,dH⟩:∃nb,w.heap.size=nb:=Ey;obtain⟨vb,eD⟩:∃vb,w.heap.size+1=vb:=Ey;rw[eD]at bH ⊢;rw[dH]at bF ⊢;generalize(w.alloc _).alloc _=w1 at bA bF bH c3 ⊢;have lM:nb≠R:=O;have aC:=ax bA;have aV:=ax bF;have aZ:=ax (HI.below bA);obtain⟨k0,k1,k2,k3⟩:=fi bF;clear bA bF bH dH eD;go_wp2_with fail;refine(jS _ aZ).mono ?_;rintro e w2 ⟨gH,⟨b2,x2,u2,t2,l2,o2,hq,rfl,(jL:Hi _),jV⟩|⟨hq,p,x2,t2,l2,ov,rfl,jV⟩⟩;·have dC:=ax gH;have eO:=ax jV;have tL:Hi _:=HX.2 b2 x2 u2 hq;clear gH jV hq HX k0 k1 k2 k3 c3;have HX:=tL;have kn:=dC _ _ _ lM Dc aV;obtain⟨q0,q1,q2,q3⟩:=fi kn;clear kn;go_wp2_with fail;refine(jJ _ eO.bel).mono ?_;rintro e w8 ⟨rfl,(dB:Hi _)⟩;go_wp2_with fail;refine(tK _ _ _ _ _ (eO.below dB) jL.le jL.mx).mono ?_;rintro e w9 ⟨rfl,(jG:Hi _),t9,l9,(s8:Hi _),(gN:Hi _)⟩;go_wp2;go_ret;exact⟨(bx.of_below aC).trans (dC.trans ((bx.of_below dB).trans jG.fr)),.inl ⟨_,_,_,t9,l9,_,HX,X,jL.wrap s8,gN⟩⟩
 have dC:Hi _:=(bx.of_below aC).trans gH;have eO:=ax jV;have tL:Hi _:=HX.1 hq;clear gH jV hq;unfold be;go_wp2;go_ret;exact⟨dC,.inr ⟨tL,p,x2,t2,l2,ov,X,eO⟩⟩
theorem ag6(E:de)(W:M)(R:Nat)(a:Oo Ad)(c:Nat)(ta:Oo Ad)(tc f:Nat)(sn:Sn->Ad)(hc:EC E W a ta sn)(dX:E.t.length<=tc)(hN:uL E W R a c ta tc sn f)(dJ:1<=f)(i:Nat)(hi:i<E.s.length)(ka:Oo Ad)(kc:Nat)(aK:bn W ka (nd E.s i).kids)(aL:(nd E.s i).kids.length<=kc)(dK:kc<=maxLen)(x:Nat)(dp:Int)(r:cy)(t0:Q)(l0:Bool)(o0:Oo Int)(w:M)(fV:jt (nd E.s i) (vl E.t x))(e:jc E (wrF E f) f (nd E.s i) (fo (nd E.s i)) (fq (nd E.s i)) (vl E.t x) (x+1) dp=U r)(hx:x<E.t.length)(mW:E.t.length+1<=f+(x+1))(cP:1<=dp)(dD:dp<=12)(h4:t0.size<=4000)(hI:ey W w R a E.s.length c ta E.t.length tc (x+1) t0 l0 (eo sn o0))(hk:(nd E.s i).kind=11):Cs prog 111 #[Po (U (D R 0 Z)),Ag #[I J (nd E.s i).kind,I J (nd E.s i).tag,I J (nd E.s i).mode,S ka (nd E.s i).kids.length kc],Ag #[I J (vl E.t x).kind,Y (vl E.t x).text,I J (vl E.t x).alt,I J (vl E.t x).kids],I J dp] w fun e w'=>oe E W R a c ta tc sn r t0 l0 o0 w e w':=by
 have HC:=ax hc;have HI:=ax hI;have jC:=Hh hc.wc.right hi;have jO:=Hj (n:=nd E.s i) O;obtain⟨bQ,lD,lU,jN,gW,lV,lW⟩:=pw hc.wc.right hi;obtain⟨bs,cp,rH⟩:∃bs cp,∃mF,mF=Value.slice bs t0.size cp/\w.heap[R]? =U (gj a E.s.length c ta E.t.length tc (x+1) mF l0 (eo sn o0)):=by obtain⟨tv,h1,h2⟩:=hI.own;obtain⟨bs,cp,rfl,_⟩:=tj h2;exact⟨bs,cp,_,X,h1⟩
 obtain⟨_,rfl,aG⟩:=rH;have eS:=eb aG;obtain⟨r1,bW,HX⟩:∃r1,jd E (wrF E f) (decide ((nd E.s i).kind=12)) (kd (nd E.s i) 0).node.toNat (dp+1) f (vl E.t x).kids (x+1) az az false=U r1/\Hi ((r1=Z->r=Z)/\∀b x' u,r1=U (b,x',u)->r=U (cf (fo (nd E.s i)) true (fq (nd E.s i)) b,x',u)):=by
  have h:=e;unfold jc at h;rw[G O,G O,G O,ba O,ba ((Fs (.inl hk) fV.1).1 fV)]at h;rcases qn h with⟨h1,h2⟩|⟨b,x',u,h1,h2⟩;·exact⟨Z,h1,fun _=>h2,fun _ _ _ q=>by cases q⟩
  refine⟨_,h1,fun q=>(by cases q),fun b' Z6 u' q=>?_⟩;injection q with q;injection q with e1 q;injection q with e2 e3;subst e1 e2 e3;injection h2 with h2;exact h2.symm
 obtain⟨CL,tQ⟩:∃CL,fo (nd E.s i)=CL:=Ey;obtain⟨NU,tY⟩:∃NU,fq (nd E.s i)=NU:=Ey;rw[tQ,tY]at jO jC HX;obtain⟨K,hK⟩:∃K,(nd E.s i).kind=K:=Ey;rw[hK]at hk ⊢;obtain⟨BT,o7⟩:∃BT:Bool,BT=true:=Ez;rw[<-o7]at HX;have JP:=((Fs (.inl (hK▸hk)) fV.1).1 fV).2.2;have jS:Hi (∀wq,ey W wq R a E.s.length c ta E.t.length tc (x+1) t0 l0 (eo sn o0)->Cs prog 151 #[Po (U (D R 0 Z)),Ag #[I J K,I J (nd E.s i).tag,I J (nd E.s i).mode,S ka (nd E.s i).kids.length kc],I J (vl E.t x).kids,I J dp] wq fun e w'=>oe E W R a c ta tc sn r1 t0 l0 o0 wq e w'):=fun wq q=>by rw[<-hK];exact Ux E W R a c ta tc f sn hc dX hN dJ i hi (hc.wc.right.fine.one i hi (.inl (hK▸hk))) ka kc aK aL dK (x+1) f (vl E.t x).kids dp r1 t0 l0 o0 wq bW JP (hc.wc.kids x hx) hx mW cP dD h4 q
 generalize pA:(nd E.s i).tag=TG at jS ⊢;generalize o9:(nd E.s i).mode=MD at jS ⊢;generalize rD:(nd E.s i).kids.length=KL at jS ⊢;generalize yA:(vl E.t x).kind=VK;generalize yB:(vl E.t x).text=VT;generalize x7:(vl E.t x).alt=VA;generalize x9:(vl E.t x).kids=VD at jS ⊢;have jJ:Hi (∀wq,Bw W wq->Cs prog 152 #[Ag #[I J K,I J TG,I J MD,S ka KL kc]] wq fun e w'=>e=Rt (Ag #[I J CL,I J NU,Bo BT])/\Bw wq w'):=fun wq q=>by have:=Gh (nd E.s i) ka kc wq (HC.lay.below q).n O O O;unfold fv at this;rw[<-jO,pA,o9,rD]at this;rw[hK,ch O,<-o7]at this;exact this
 have tK:Hi _:=fun wq t1 l1 o1 x1 q h1 h2=>Hm W wq R a E.s.length c ta E.t.length tc x1 t1 l1 (eo sn o1) sn HC.lay t0.size CL NU BT jC.1 jC.2.1 jC.2.2.1 jC.2.2.2 h1 h2 q;have bA:Bw w ((w.alloc (C #[I J K,I J TG,I J MD,S ka KL kc] 58)).alloc (C #[I J VK,Y VT,I J VA,I J VD] 60)):=((cm w.heap.size w).alloc Ln _).alloc Sq _;have bF:((w.alloc (C #[I J K,I J TG,I J MD,S ka KL kc] 58)).alloc (C #[I J VK,Y VT,I J VA,I J VD] 60)).heap[w.heap.size]? =U (C #[I J K,I J TG,I J MD,S ka KL kc] 58 (0,0)):=bc (bl w _) Be;have bH:((w.alloc (C #[I J K,I J TG,I J MD,S ka KL kc] 58)).alloc (C #[I J VK,Y VT,I J VA,I J VD] 60)).heap[w.heap.size+1]? =U (C #[I J VK,Y VT,I J VA,I J VD] 60 (0,0)):=by simpa using bl (w.alloc (C #[I J K,I J TG,I J MD,S ka KL kc] 58)) (C #[I J VK,Y VT,I J VA,I J VD] 60)
 have f9:=bc aG bA;unfold gj at f9;have c3:((w.alloc (C #[I J K,I J TG,I J MD,S ka KL kc] 58)).alloc (C #[I J VK,Y VT,I J VA,I J VD] 60)).cell? (D R 3 Z)=U (S bs t0.size cp):=by simp[Wc,f9]
 clear aG f9;clear hc hI e fV jO jC lU jN gW lV lW pA o9 rD yA yB x7 x9 JP hK bQ lD aK hN o7 tQ tY;subst hk;go_enter func111,ntmps111;go_upto_region 1 with fail;obtain⟨nb,dH⟩:∃nb,w.heap.size=nb:=Ey;obtain⟨vb,eD⟩:∃vb,w.heap.size+1=vb:=Ey;rw[eD]at bH ⊢;rw[dH]at bF ⊢;generalize(w.alloc _).alloc _=w1 at bA bF bH c3 ⊢;have lM:nb≠R:=O;have aC:=ax bA;have aV:=ax bF;have aZ:=ax (HI.below bA);have v3:w1.cell? (D vb 3 Z)=U (I J VD):=bq bH X;obtain⟨k0,k1,k2,k3⟩:=fi bF;clear bA bF bH dH eD;go_wp2_with fail;refine(jS _ aZ).mono ?_;rintro e w2 ⟨gH,⟨b2,x2,u2,t2,l2,o2,hq,rfl,(jL:Hi _),jV⟩|⟨hq,p,x2,t2,l2,ov,rfl,jV⟩⟩;·have dC:=ax gH;have eO:=ax jV;have tL:Hi _:=HX.2 b2 x2 u2 hq;clear gH jV hq HX k0 k1 k2 k3 v3 c3;have HX:=tL;have kn:=dC _ _ _ lM Dc aV;obtain⟨q0,q1,q2,q3⟩:=fi kn;clear kn;go_wp2_with fail;refine(jJ _ eO.bel).mono ?_;rintro e w8 ⟨rfl,(dB:Hi _)⟩;go_wp2_with fail;refine(tK _ _ _ _ _ (eO.below dB) jL.le jL.mx).mono ?_;rintro e w9 ⟨rfl,(jG:Hi _),t9,l9,(s8:Hi _),(gN:Hi _)⟩;go_wp2;go_ret;exact⟨(bx.of_below aC).trans (dC.trans ((bx.of_below dB).trans jG.fr)),.inl ⟨_,_,_,t9,l9,_,HX,X,jL.wrap s8,gN⟩⟩
 have dC:Hi _:=(bx.of_below aC).trans gH;have eO:=ax jV;have tL:Hi _:=HX.1 hq;clear gH jV hq;unfold be;go_wp2;go_ret;exact⟨dC,.inr ⟨tL,p,x2,t2,l2,ov,X,eO⟩⟩
theorem ag7(E:de)(W:M)(R:Nat)(a:Oo Ad)(c:Nat)(ta:Oo Ad)(tc f:Nat)(sn:Sn->Ad)(hc:EC E W a ta sn)(dX:E.t.length<=tc)(hN:uL E W R a c ta tc sn f)(dJ:1<=f)(i:Nat)(hi:i<E.s.length)(ka:Oo Ad)(kc:Nat)(aK:bn W ka (nd E.s i).kids)(aL:(nd E.s i).kids.length<=kc)(dK:kc<=maxLen)(x:Nat)(dp:Int)(r:cy)(t0:Q)(l0:Bool)(o0:Oo Int)(w:M)(fV:jt (nd E.s i) (vl E.t x))(e:jc E (wrF E f) f (nd E.s i) (fo (nd E.s i)) (fq (nd E.s i)) (vl E.t x) (x+1) dp=U r)(hx:x<E.t.length)(mW:E.t.length+1<=f+(x+1))(cP:1<=dp)(dD:dp<=12)(h4:t0.size<=4000)(hI:ey W w R a E.s.length c ta E.t.length tc (x+1) t0 l0 (eo sn o0))(hk:(nd E.s i).kind=12):Cs prog 111 #[Po (U (D R 0 Z)),Ag #[I J (nd E.s i).kind,I J (nd E.s i).tag,I J (nd E.s i).mode,S ka (nd E.s i).kids.length kc],Ag #[I J (vl E.t x).kind,Y (vl E.t x).text,I J (vl E.t x).alt,I J (vl E.t x).kids],I J dp] w fun e w'=>oe E W R a c ta tc sn r t0 l0 o0 w e w':=by
 have HC:=ax hc;have HI:=ax hI;have jC:=Hh hc.wc.right hi;have jO:=Hj (n:=nd E.s i) O;obtain⟨bQ,lD,lU,jN,gW,lV,lW⟩:=pw hc.wc.right hi;obtain⟨bs,cp,rH⟩:∃bs cp,∃mF,mF=Value.slice bs t0.size cp/\w.heap[R]? =U (gj a E.s.length c ta E.t.length tc (x+1) mF l0 (eo sn o0)):=by obtain⟨tv,h1,h2⟩:=hI.own;obtain⟨bs,cp,rfl,_⟩:=tj h2;exact⟨bs,cp,_,X,h1⟩
 obtain⟨_,rfl,aG⟩:=rH;have eS:=eb aG;obtain⟨r1,bW,HX⟩:∃r1,jd E (wrF E f) (decide ((nd E.s i).kind=12)) (kd (nd E.s i) 0).node.toNat (dp+1) f (vl E.t x).kids (x+1) az az false=U r1/\Hi ((r1=Z->r=Z)/\∀b x' u,r1=U (b,x',u)->r=U (cf (fo (nd E.s i)) true (fq (nd E.s i)) b,x',u)):=by
  have h:=e;unfold jc at h;rw[G O,G O,G O,ba O,ba ((Fs (.inr hk) fV.1).1 fV)]at h;rcases qn h with⟨h1,h2⟩|⟨b,x',u,h1,h2⟩;·exact⟨Z,h1,fun _=>h2,fun _ _ _ q=>by cases q⟩
  refine⟨_,h1,fun q=>(by cases q),fun b' Z6 u' q=>?_⟩;injection q with q;injection q with e1 q;injection q with e2 e3;subst e1 e2 e3;injection h2 with h2;exact h2.symm
 obtain⟨CL,tQ⟩:∃CL,fo (nd E.s i)=CL:=Ey;obtain⟨NU,tY⟩:∃NU,fq (nd E.s i)=NU:=Ey;rw[tQ,tY]at jO jC HX;obtain⟨K,hK⟩:∃K,(nd E.s i).kind=K:=Ey;rw[hK]at hk ⊢;obtain⟨BT,o7⟩:∃BT:Bool,BT=true:=Ez;rw[<-o7]at HX;have JP:=((Fs (.inr (hK▸hk)) fV.1).1 fV).2.2;have jS:Hi (∀wq,ey W wq R a E.s.length c ta E.t.length tc (x+1) t0 l0 (eo sn o0)->Cs prog 151 #[Po (U (D R 0 Z)),Ag #[I J K,I J (nd E.s i).tag,I J (nd E.s i).mode,S ka (nd E.s i).kids.length kc],I J (vl E.t x).kids,I J dp] wq fun e w'=>oe E W R a c ta tc sn r1 t0 l0 o0 wq e w'):=fun wq q=>by rw[<-hK];exact Ux E W R a c ta tc f sn hc dX hN dJ i hi (hc.wc.right.fine.one i hi (.inr (hK▸hk))) ka kc aK aL dK (x+1) f (vl E.t x).kids dp r1 t0 l0 o0 wq bW JP (hc.wc.kids x hx) hx mW cP dD h4 q
 generalize pA:(nd E.s i).tag=TG at jS ⊢;generalize o9:(nd E.s i).mode=MD at jS ⊢;generalize rD:(nd E.s i).kids.length=KL at jS ⊢;generalize yA:(vl E.t x).kind=VK;generalize yB:(vl E.t x).text=VT;generalize x7:(vl E.t x).alt=VA;generalize x9:(vl E.t x).kids=VD at jS ⊢;have jJ:Hi (∀wq,Bw W wq->Cs prog 152 #[Ag #[I J K,I J TG,I J MD,S ka KL kc]] wq fun e w'=>e=Rt (Ag #[I J CL,I J NU,Bo BT])/\Bw wq w'):=fun wq q=>by have:=Gh (nd E.s i) ka kc wq (HC.lay.below q).n O O O;unfold fv at this;rw[<-jO,pA,o9,rD]at this;rw[hK,ch O,<-o7]at this;exact this
 have tK:Hi _:=fun wq t1 l1 o1 x1 q h1 h2=>Hm W wq R a E.s.length c ta E.t.length tc x1 t1 l1 (eo sn o1) sn HC.lay t0.size CL NU BT jC.1 jC.2.1 jC.2.2.1 jC.2.2.2 h1 h2 q;have bA:Bw w ((w.alloc (C #[I J K,I J TG,I J MD,S ka KL kc] 58)).alloc (C #[I J VK,Y VT,I J VA,I J VD] 60)):=((cm w.heap.size w).alloc Ln _).alloc Sq _;have bF:((w.alloc (C #[I J K,I J TG,I J MD,S ka KL kc] 58)).alloc (C #[I J VK,Y VT,I J VA,I J VD] 60)).heap[w.heap.size]? =U (C #[I J K,I J TG,I J MD,S ka KL kc] 58 (0,0)):=bc (bl w _) Be;have bH:((w.alloc (C #[I J K,I J TG,I J MD,S ka KL kc] 58)).alloc (C #[I J VK,Y VT,I J VA,I J VD] 60)).heap[w.heap.size+1]? =U (C #[I J VK,Y VT,I J VA,I J VD] 60 (0,0)):=by simpa using bl (w.alloc (C #[I J K,I J TG,I J MD,S ka KL kc] 58)) (C #[I J VK,Y VT,I J VA,I J VD] 60)
 have f9:=bc aG bA;unfold gj at f9;have c3:((w.alloc (C #[I J K,I J TG,I J MD,S ka KL kc] 58)).alloc (C #[I J VK,Y VT,I J VA,I J VD] 60)).cell? (D R 3 Z)=U (S bs t0.size cp):=by simp[Wc,f9]
 clear aG f9;clear hc hI e fV jO jC lU jN gW lV lW pA o9 rD yA yB x7 x9 JP hK bQ lD aK hN o7 tQ tY;subst hk;go_enter func111,ntmps111;go_upto_region 1 with fail;obtain⟨nb,dH⟩:∃nb,w.heap.size=nb:=Ey;obtain⟨vb,eD⟩:∃vb,w.heap.size+1=vb:=Ey;rw[eD]at bH ⊢;rw[dH]at bF ⊢;generalize(w.alloc _).alloc _=w1 at bA bF bH c3 ⊢;have lM:nb≠R:=O;have aC:=ax bA;have aV:=ax bF;have aZ:=ax (HI.below bA);have v3:w1.cell? (D vb 3 Z)=U (I J VD):=bq bH X;obtain⟨k0,k1,k2,k3⟩:=fi bF;clear bA bF bH dH eD;go_wp2_with fail;refine(jS _ aZ).mono ?_;rintro e w2 ⟨gH,⟨b2,x2,u2,t2,l2,o2,hq,rfl,(jL:Hi _),jV⟩|⟨hq,p,x2,t2,l2,ov,rfl,jV⟩⟩;·have dC:=ax gH;have eO:=ax jV;have tL:Hi _:=HX.2 b2 x2 u2 hq;clear gH jV hq HX k0 k1 k2 k3 v3 c3;have HX:=tL;have kn:=dC _ _ _ lM Dc aV;obtain⟨q0,q1,q2,q3⟩:=fi kn;clear kn;go_wp2_with fail;refine(jJ _ eO.bel).mono ?_;rintro e w8 ⟨rfl,(dB:Hi _)⟩;go_wp2_with fail;refine(tK _ _ _ _ _ (eO.below dB) jL.le jL.mx).mono ?_;rintro e w9 ⟨rfl,(jG:Hi _),t9,l9,(s8:Hi _),(gN:Hi _)⟩;go_wp2;go_ret;exact⟨(bx.of_below aC).trans (dC.trans ((bx.of_below dB).trans jG.fr)),.inl ⟨_,_,_,t9,l9,_,HX,X,jL.wrap s8,gN⟩⟩
 have dC:Hi _:=(bx.of_below aC).trans gH;have eO:=ax jV;have tL:Hi _:=HX.1 hq;clear gH jV hq;unfold be;go_wp2;go_ret;exact⟨dC,.inr ⟨tL,p,x2,t2,l2,ov,X,eO⟩⟩
theorem ahe(E:de)(W:M)(R:Nat)(a:Oo Ad)(c:Nat)(ta:Oo Ad)(tc f:Nat)(sn:Sn->Ad)(hc:EC E W a ta sn)(dX:E.t.length<=tc)(hN:uL E W R a c ta tc sn f)(dJ:1<=f)(i:Nat)(hi:i<E.s.length)(ka:Oo Ad)(kc:Nat)(aK:bn W ka (nd E.s i).kids)(aL:(nd E.s i).kids.length<=kc)(dK:kc<=maxLen)(x:Nat)(dp:Int)(r:cy)(t0:Q)(l0:Bool)(o0:Oo Int)(w:M)(fV:jt (nd E.s i) (vl E.t x))(e:jc E (wrF E f) f (nd E.s i) (fo (nd E.s i)) (fq (nd E.s i)) (vl E.t x) (x+1) dp=U r)(hx:x<E.t.length)(mW:E.t.length+1<=f+(x+1))(cP:1<=dp)(dD:dp<=12)(h4:t0.size<=4000)(hI:ey W w R a E.s.length c ta E.t.length tc (x+1) t0 l0 (eo sn o0))(hk:(nd E.s i).kind≠13):Cs prog 111 #[Po (U (D R 0 Z)),Ag #[I J (nd E.s i).kind,I J (nd E.s i).tag,I J (nd E.s i).mode,S ka (nd E.s i).kids.length kc],Ag #[I J (vl E.t x).kind,Y (vl E.t x).text,I J (vl E.t x).alt,I J (vl E.t x).kids],I J dp] w fun e w'=>oe E W R a c ta tc sn r t0 l0 o0 w e w':=by
 obtain⟨bQ,lD,_⟩:=pw hc.wc.right hi;by_cases gR:(nd E.s i).kind=14;·exact ag8 E W R a c ta tc f sn hc dX hN dJ i hi ka kc aK aL dK x dp r t0 l0 o0 w fV e hx mW cP dD h4 hI gR
 by_cases bG:(nd E.s i).kind=10;·exact ag5 E W R a c ta tc f sn hc dX hN dJ i hi ka kc aK aL dK x dp r t0 l0 o0 w fV e hx mW cP dD h4 hI bG
 by_cases fZ:(nd E.s i).kind=11;·exact ag6 E W R a c ta tc f sn hc dX hN dJ i hi ka kc aK aL dK x dp r t0 l0 o0 w fV e hx mW cP dD h4 hI fZ
 by_cases fC:(nd E.s i).kind=12;·exact ag7 E W R a c ta tc f sn hc dX hN dJ i hi ka kc aK aL dK x dp r t0 l0 o0 w fV e hx mW cP dD h4 hI fC
 exact ag9 E W R a c ta tc f sn hc dX hN dJ i hi ka kc aK aL dK x dp r t0 l0 o0 w fV e hx mW cP dD h4 hI O
end
section
open Go.Proofs.Tryz
open Go.RowKit Go.Shelf
attribute [local go_sem] Oper.semAt_some
theorem ey.grown{W w:M}{R:Nat}{a:Oo Ad}{n c:Nat}{ta:Oo Ad}{tn tc x:Nat}{told:Q}{lg:Bool}{ov:Vv}(h:ey W w R a n c ta tn tc x told lg ov){w':M}{row:Oo Nat}(hg:w.grownBy w' row)(hr:∀g,row=U g->W.heap.size<=g/\g≠R/\∀A,w.heap[g]? ≠U (C A 5 (0,0))):ey W w' R a n c ta tn tc x told lg ov:=by
 obtain⟨tv,h1,h2⟩:=h.own;refine⟨h.bel.grown hg h.bel.size (fun k e=>(hr k e).1),h.lo,tv,?_,h2.kept hg ?_⟩;·rw[hg.block R (eb h1) (fun e=>(hr R e.symm).2.1 X)];exact h1
 rcases h2.2 with⟨rfl,_⟩|⟨g,_,aB,rfl,_,I4,_⟩;·exact .inl X
 exact .inr fun q=>(hr g q.symm).2.2 aB I4
theorem Xz{R:Nat}{w w':M}{B:Nat}{T:TypeId}{s:Nat}{v:Vv}{n:Nat}{xs:Ls Vv}(h:w.ownsRow B T s v n xs)(hf:bx R w w')(hT:T≠5)(hR:R<B):w'.ownsRow B T s v n xs:=by
 refine⟨h.1,?_⟩;rcases h.2 with hn|⟨g,cap,aB,rfl,hb,hg,rest⟩;·exact .inl hn
 exact .inr ⟨g,cap,aB,X,hb,hf g aB T O hT hg,rest⟩
theorem Xy{w:M}{B:Nat}{v:Vv}{n:Nat}{xs:Ls Vv}(h:w.ownsRow B 149 3 v n xs):∃bs cp,v=S bs n cp:=by
 rcases h.2 with⟨rfl,h0⟩|⟨g,cp,aB,rfl,_⟩;·exact⟨Z,0,by rw[h0]⟩
 exact⟨_,_,X⟩
theorem ad4{R:Nat}{w w':M}(h:nw R w w'){A:Array Vv}{T:TypeId}{z:Nat×Nat}(hR:w.heap[R]? =U (C A T z))(B:Nat):KeepsFrom B w w':=
 ⟨h.size,fun k o _ hk ho=>by
   by_cases wM:k=R
   ·subst wM
    rw[hR]at hk
    injection hk with hk
    subst hk
    cases ho
   ·exact h.stay k o wM (fun A q=>by rw[q]at ho;cases ho) hk⟩
theorem abl:(prog.info? 149).map (fun i=>(i.zero,i.size,i.bytes))=U (U (Ag #[I J 0,I J 0,Bo false]),3,24):=Kr
theorem Vi(T:Array Vv)(p q:Tmp)(u v:Vv):Array.foldl (fun t (x:Tmp×Vv)=>match x with|(p,v)=>t.setIfInBounds p v) T (#[p,q].zip #[u,v])=(T.setIfInBounds p u).setIfInBounds q v:=Sq
def abV(E:de)(W:M)(R:Nat)(a:Oo Ad)(c:Nat)(ta:Oo Ad)(tc:Nat)(sn:Sn->Ad)(F:Nat)(dp:Int)(r:cy)(t0:Q)(l0:Bool)(o0:Oo Int)(w1:M)(gk:Nat)(vi va:Vv)(wr:M):Prop:=
 ∃(i x:Nat) (r':cy) (lc:Bool) (aP:Ls jn),vi=I J i/\i<E.s.length/\gk<=F/\wrF E gk i x dp=U r'/\E.t.length+1<=gk+x/\1<=gk/\x<=E.t.length/\wr.ownsRow w1.heap.size 149 3 va aP.length (ph aP)/\
  ey W wr R a E.s.length c ta E.t.length tc x t0 lc (eo sn o0)/\bx R w1 wr/\nv l0 lc aP r r'
set_option maxHeartbeats 16000000 in
theorem adJ(E:de)(W:M)(R:Nat)(a:Oo Ad)(c:Nat)(ta:Oo Ad)(tc:Nat)(sn:Sn->Ad)(hc:EC E W a ta sn)(dX:E.t.length<=tc)(F:Nat)(hN:∀g,g<F->uL E W R a c ta tc sn g):uL E W R a c ta tc sn F:=by
 intro i x dp r t0 l0 o0 w e hi hx mW dJ cP dD h4 hI;have HC:=ax hc;have jI:=ax hN;have HI:=ax hI;have zJ:=ax dX;have bP:=hc.len;have aan:=ax bP;obtain⟨bs,cp,rH⟩:∃bs cp,∃mF,mF=Value.slice bs t0.size cp/\w.heap[R]? =U (gj a E.s.length c ta E.t.length tc x mF l0 (eo sn o0)):=by obtain⟨tv,h1,h2⟩:=hI.own;obtain⟨bs,cp,rfl,_⟩:=tj h2;exact⟨bs,cp,_,X,h1⟩
 obtain⟨_,rfl,aG⟩:=rH;have eS:R<w.heap.size:=eb aG;have HE:=ax e;have HDP:=ax (And.intro cP dD);have bA:Bw w ((w.alloc (C #[Po (U (D R 0 Z))] 138)).alloc (C #[I J t0.size] 3)):=((cm w.heap.size w).alloc Ln _).alloc Sq _;have bF:((w.alloc (C #[Po (U (D R 0 Z))] 138)).alloc (C #[I J t0.size] 3)).heap[w.heap.size]? =U (C #[Po (U (D R 0 Z))] 138 (0,0)):=bc (bl w _) Be;have bH:((w.alloc (C #[Po (U (D R 0 Z))] 138)).alloc (C #[I J t0.size] 3)).heap[w.heap.size+1]? =U (C #[I J t0.size] 3 (0,0)):=by simpa using bl (w.alloc (C #[Po (U (D R 0 Z))] 138)) (C #[I J t0.size] 3)
 have f9:=bc aG ((cm w.heap.size w).alloc Ln (C #[Po (U (D R 0 Z))] 138));unfold gj at f9;have c3:(w.alloc (C #[Po (U (D R 0 Z))] 138)).cell? (D R 3 Z)=U (S bs t0.size cp):=by simp[Wc,f9]
 have E3:((w.alloc (C #[Po (U (D R 0 Z))] 138)).alloc (C #[I J t0.size] 3)).heap.size=w.heap.size+1+1:=Sq;clear hc hN hI dX e aG cP dD f9;refine(callsIn_wide (n:=3)).1 (callsIn_of_wp_marks func75 X trivial ?_ X);refine wpIn_wide.2 ?_;simp only[ntmps75,vy,fu,lx,Nat.reduceAdd,Nat.reduceSub,Qv,Qw,Rp,Rj,zn,Ht];go_upto_region 2 with fail;obtain⟨wb,ZD⟩:∃wb,w.heap.size=wb:=Ey;obtain⟨sb,cW⟩:∃sb,w.heap.size+1=sb:=Ey;rw[cW]at bH E3 ⊢;rw[ZD]at bF ⊢;generalize(w.alloc _).alloc _=w1 at bA bF bH E3 ⊢;have C2:wb≠R:=O;have XZ:sb≠R:=O;have aC:=ax bA;have aV:=ax bF;have cJ:=ax bH;have aZ:=ax (HI.below bA);have xY:R<w1.heap.size:=by have:=bA.size;omega
 have jX:W.heap.size<=w1.heap.size:=aZ.out.bel.size;have gU:Hi (∀wq,bx R w1 wq->w1.heap.size<=wq.heap.size):=fun wq q=>by have:=eb (q _ _ _ XZ Dc cJ);omega
 clear bA bF bH ZD cW c3 eS E3;go_wp2_with fail;go_loopg [1,8] F (fun gk vi va wr=>abV E W R a c ta tc sn F dp r t0 l0 o0 w1 gk vi va wr);case atStart=>exact⟨i,x,r,l0,[],X,hi,Ln,HE,mW,dJ,hx,nz _ _ _ _,aZ,fun _ _ _ _ _ h=>h,nv.start l0 r⟩
 clear hi mW dJ hx HE HI aZ;obtain⟨i,x,r',lc,aP,rfl,hi,hgF,hE,mW,dJ,hx,aG,IF,zS,D3⟩:=hrel;obtain⟨ag,rfl⟩:∃ag,gk=ag+1:=⟨gk-1,O⟩;obtain⟨O6,PB,rfl⟩:=Xy aG;have qN:=ax IF;have jJ:=ax aG;have b7:=ax zS;have kV:=ax D3;have vT:=ax hE;have DE:=ax hi;obtain⟨b,o,ka,kc,pZ,sU,aL,dK,aK⟩:=HC.wc.sch i hi;have gA:=Fo HC.wc.right.2.2.1 hi;obtain⟨bQ,lD,lU,jN,gW,lV,lW⟩:=pw HC.wc.right hi;obtain⟨N,hN⟩:∃N,nd E.s i=N:=Ey;have HN:=ax hN;rw[hN]at sU aL aK gA bQ lD lU jN gW lV lW;have oE:=ax aK;have GG:=ax dK;obtain⟨n0,n1,n2,n3⟩:=sU;have fE:=qN.out.bel;have m0:wr.cell? (D b (o+i*4) Z)=U (I J N.kind):=Cb fE n0;have m1:wr.cell? (D b (o+i*4+1) Z)=U (I J N.tag):=Cb fE n1;have m2:wr.cell? (D b (o+i*4+2) Z)=U (I J N.mode):=Cb fE n2;have m3:wr.cell? (D b (o+i*4+3) Z)=U (S ka N.kids.length kc):=Cb fE n3;have wP:=bp m0;simp only at wP;have oN:=b7 _ _ _ C2 Dc aV;have p0:wr.cell? (D wb 0 Z)=U (Po (U (D R 0 Z))):=bq oN X;obtain⟨tv,gB,_⟩:=qN.out.own;unfold gj at gB;have r0:wr.cell? (D R 0 Z)=U (S (U (D b o Z)) E.s.length c):=by rw[<-pZ];simp[Wc,gB]
 have zW:R<wr.heap.size:=bp r0;have lC:(i:Int)<(E.s.length:Int):=O;have oG:Hi (∀wq,ey W wq R a E.s.length c ta E.t.length tc x t0 lc (eo sn o0)->Cs prog 109 #[Po (U (D R 0 Z)),Ag #[I J N.kind,I J N.tag,I J N.mode,S ka N.kids.length kc],I J dp] wq fun e w'=>Sa W R a E.s.length c ta E.t tc x t0 lc (eo sn o0) sn N dp wq e w'):=fun wq q=>aiv W wq R a E.s.length c ta E.t tc x t0 lc (eo sn o0) sn N ka kc dp HC.lay gA aan zJ hx (fun j hj=>⟨by have:=HC.txt hj;omega,HC.wc.tree j hj⟩) q;have dW:=(cm _ wr).alloc Ln (C #[I J N.kind,I J N.tag,I J N.mode,S ka N.kids.length kc] 58);have VX:=bl wr (C #[I J N.kind,I J N.tag,I J N.mode,S ka N.kids.length kc] 58);have aD:=ax dW;have zH:=ax VX;have lM:wr.heap.size≠R:=O;clear IF aG zS D3 hE hi hN aK dK n0 n1 n2 n3 fE oN gB pZ dW VX;go_upto_region 4 with fail;obtain⟨nb,dH⟩:∃nb,wr.heap.size=nb:=Ey;rw[dH]at zH lM ⊢;have BE:=ax (qN.below aD);have OJ:=ax (fm jJ aD);have s7:Hi (bx R w1 (wr.alloc (C #[I J N.kind,I J N.tag,I J N.mode,S ka N.kids.length kc] 58))):=b7.trans (bx.of_below aD);have mD:=aD.out.size;generalize wr.alloc _=w2 at zH BE OJ s7 aD mD ⊢;have oN:=s7 _ _ _ C2 Dc aV;have p0':w2.cell? (D wb 0 Z)=U (Po (U (D R 0 Z))):=bq oN X;obtain⟨k0,k1,k2,k3⟩:=fi zH;clear m0 m1 m2 m3 wP p0 r0 zW oN dH qN jJ b7 aD mD;go_wp2_with fail;refine(oG _ BE).mono ?_;rintro e w3 ⟨dF,⟨jD,lX,fV,rfl,nR⟩|⟨jA,rfl,nR⟩⟩
 ·obtain⟨m5,WM,RK⟩:=ag3 (by rw[<-ajr jD lX (by rw[HN.out];exact fV)];exact vT);rw[HN.out]at RK;have SU:=ax WM;have KN:Hi (jt N (vl E.t x)):=fV;have NN:=ax lX;have iO:=ax nR;have dI:=ax dF;have D3:=kV.out;rw[RK]at D3;have KG:Hi (nv l0 lc aP r (Bk N m5)):=D3;have UE:=ax (Xz OJ dF Dc xY);obtain⟨v,hv⟩:∃v,vl E.t x=v:=Ey;have HV:=ax hv;have f9:=dF _ _ _ lM Dc zH;have TQ:=ax f9;have oN:=s7.trans dF _ _ _ C2 Dc aV;have TO:Hi (bx R w1 w3):=s7.trans dF;rw[hv];clear jD lX fV nR dF WM RK D3 f9 oN hv p0' k0 k1 k2 k3 OJ s7 BE zH oG kV vT;have wF:=(cm _ w3).alloc Ln (C #[I J v.kind,Y v.text,I J v.alt,I J v.kids] 60);have LR:=bl w3 (C #[I J v.kind,Y v.text,I J v.alt,I J v.kids] 60);have aJ:=ax wF;have AL:w3.heap.size≠R:=by obtain⟨tv,h1,_⟩:=iO.out.own;have:=eb h1;omega
  go_upto_region 7 with fail;obtain⟨vb,eD⟩:∃vb,w3.heap.size=vb:=Ey;rw[eD]at LR AL ⊢;have eG:=ax (iO.below aJ);have oZ:=ax (fm UE aJ);have cA:Hi (bx R w1 (w3.alloc (C #[I J v.kind,Y v.text,I J v.alt,I J v.kids] 60))):=TO.trans (bx.of_below aJ);have DI:=ax (bc TQ aJ);have OT:=ax LR;generalize w3.alloc _=w4 at LR eG oZ cA DI OT aJ ⊢;obtain⟨k0,k1,k2,k3⟩:=fi DI;obtain⟨c0,n0,b0,ok,YE,ER,DC⟩:∃(c0 n0:Int) (b0 ok:Bool),(ok=true->N.mode=1/\c0=2/\n0=N.tag/\b0=true)/\(ok=false->¬N.mode=1)/\Hi (∀wq,Bw W wq->Cs prog 110 #[Ag #[I J N.kind,I J N.tag,I J N.mode,S ka N.kids.length kc]] wq fun e w'=>e=Rt (Tu #[Ag #[I J c0,I J n0,Bo b0],Bo ok])/\Bw wq w'):=by
   by_cases hm:N.mode=1
   ·have fX:0<=N.tag:=by
     by_cases q:N.tag<0;(·have:=gW O;omega);omega
    exact⟨2,N.tag,true,true,fun _=>⟨hm,X,X,X⟩,fun q=>(by cases q),fun wq q=>Nb N ka kc wq hm (HC.lay.below q).n fX O⟩
   exact⟨0,0,false,false,fun q=>(by cases q),fun _=>hm,fun wq q=>Na N ka kc wq hm⟩
  have UA:=ax YE;have UB:=ax ER;clear eD LR wF iO UE TO TQ aJ YE ER;go_wp2_with fail;refine(DC _ eG.bel).mono ?_;rintro e w5 ⟨rfl,aH⟩;have aO:=ax aH;clear aH k0 k1 k2 k3;have qZ:Bw w4 (w5.alloc (C #[I J c0,I J n0,Bo b0] 149)):=aO.alloc aO.size _;have LQ:=bl w5 (C #[I J c0,I J n0,Bo b0] 149);go_upto_region 8 with fail;obtain⟨VC,L7⟩:∃VC,w5.heap.size=VC:=Ey;rw[L7]at LQ ⊢;have FX:=ax (eG.below qZ);have hU:=ax (fm oZ qZ);have eH:Hi _:=cA.trans (bx.of_below qZ);have KU:=ax (bc DI qZ);have K7:=ax (bc OT qZ);have j5:=ax LQ;generalize w5.alloc _=w6 at LQ FX hU eH KU K7 j5 qZ ⊢;have oN:=eH _ _ _ C2 Dc aV;have p6:w6.cell? (D wb 0 Z)=U (Po (U (D R 0 Z))):=bq oN X;obtain⟨tv6,MS,_⟩:=FX.out.own;have K0:=ax MS;unfold gj at MS;have r4:w6.cell? (D R 4 Z)=U (Bo lc):=by simp[Wc,MS]
  have zW:R<w6.heap.size:=bp r4;clear L7 LQ qZ oN MS eG oZ cA DI OT aO DC;go_cut [51]from 22 to 79 (fun vq wx=>vq=Bo (ok&& !lc)/\wx=w6)
  case first=>
   cases ok;(·go_wp2_with fail;go_meet;exact⟨X,X⟩);cases lc;(·go_wp2_with fail;go_meet;exact⟨X,X⟩);go_wp2_with fail;go_meet;exact⟨X,X⟩
  obtain⟨rfl,hw⟩:=hcut;obtain rfl:w6=wc:=hw.symm;clear hw;go_upto_if 51 with fail;go_cut [8]from 22 to 79 (fun va wx=>∃(sS:Bool) (oH:Ls jn),wx.ownsRow w1.heap.size 149 3 va oH.length (ph oH)/\ey W wx R a E.s.length c ta E.t.length tc (x+1) t0 sS (eo sn o0)/\bx R w1 wx/\wx.heap[nb]? =U (C #[I J N.kind,I J N.tag,I J N.mode,S ka N.kids.length kc] 58 (0,0))/\wx.heap[vb]? =U (C #[I J v.kind,Y v.text,I J v.alt,I J v.kids] 60 (0,0))/\nv l0 sS oH r m5)
  case first=>
   by_cases hq:(ok&& !lc)=true
   ·(obtain⟨rfl,rfl⟩:ok=true/\lc=false:=by simpa using hq);obtain⟨hm,rfl,rfl,rfl⟩:=UA X;have Q9:=KG.out.len;have fX:0<=N.tag/\N.tag<=30:=by
     refine⟨?_,O⟩;by_cases q:N.tag<0;(·have:=gW O;omega);omega
    have NJ:Hi (nv l0 (decide (2000<aP.length+1)) (aP++[⟨N.tag,fX⟩]) r m5):=KG.head hm ⟨N.tag,fX⟩ X;obtain⟨i0,dO,cU,dA,bL⟩:=mh abl;obtain⟨g0,g1,g2⟩:=pt j5;have aj5:=gU _ eH
    have aah:Hi (∀g7 tM w7,w7.ownsRow w1.heap.size 149 3 (S (U (D g7 0 Z)) (aP.length+1) tM) (aP.length+1) (ph aP++[I J 2,I J N.tag,Bo true])->(w6.alloc (C #[I J 2,I J N.tag,Bo true] 149)).grownBy w7 (Value.slice O6 aP.length PB).ownBlock->
     w7.cell? (D wb 0 Z)=U (Po (U (D R 0 Z)))/\w7.cell? (D R 4 Z)=U (Bo false)/\w7.frozen? (D R 4 Z)=false/\R<w7.heap.size/\wb<w7.heap.size/\
     ∀lq:Bool,lq=decide (2000<aP.length+1)->∃(sS:Bool) (oH:Ls jn),(w7.setCell ⟨R,4,Z⟩ (Bo lq)).ownsRow w1.heap.size 149 3 (S (U ⟨g7,0,Z⟩) (aP.length+1) tM) oH.length (ph oH)/\ey W (w7.setCell ⟨R,4,Z⟩ (Bo lq)) R a E.s.length c ta E.t.length tc (x+1) t0 sS (eo sn o0)/\bx R w1 (w7.setCell ⟨R,4,Z⟩ (Bo lq))/\(w7.setCell ⟨R,4,Z⟩ (Bo lq)).heap[nb]? =U (C #[I J N.kind,I J N.tag,I J N.mode,S ka N.kids.length kc] 58 (0,0))/\(w7.setCell ⟨R,4,Z⟩ (Bo lq)).heap[vb]? =U (C #[I J v.kind,Y v.text,I J v.alt,I J v.kids] 60 (0,0))/\nv l0 sS oH r m5):=fun g7 tM w7 h1 h2=>by
     have hB:=(cm w6.heap.size w6).alloc Ln (C #[I J 2,I J N.tag,Bo true] 149)
     have gB:∀g,(Value.slice O6 aP.length PB).ownBlock=U g->w1.heap.size<=g/\∃aB,w6.heap[g]? =U (C aB 149 (0,0)):=fun g q=>by
      refine⟨(hU.lt g q).1,?_⟩
      rcases hU.2 with⟨h,_⟩|⟨g',cp',aB,h,_,I4,_⟩
      ·rw[h]at q;cases q
      ·rw[h]at q
       simp only[Value.ownBlock,Option.some.injEq]at q
       subst q
       exact⟨aB,I4⟩
     have vK:∀(k:Nat) (A:Array Vv) (T:TypeId),T≠149->w6.heap[k]? =U (C A T (0,0))->w7.heap[k]? =U (C A T (0,0)):=fun k A T hT hk=>by
      have eI:=bc hk hB
      rw[h2.block k (eb eI) (fun q=>?_)]
      ·exact eI
      ·obtain⟨_,aB,fU⟩:=gB k q.symm
       rw[hk]at fU
       injection fU with fU
       injection fU with _ fU _
       exact hT fU
     have LP:ey W w7 R a E.s.length c ta E.t.length tc (x+1) t0 false (eo sn o0):=(FX.below hB).grown h2 fun g q=>by
      obtain⟨h3,aB,fU⟩:=gB g q
      refine⟨O,O,fun A hA=>?_⟩
      have:=bc fU hB
      rw[hA]at this
      injection this with this
      injection this with _ this _
      revert this
      decide
     have XF:=vK _ _ _ Dc (eH _ _ _ C2 Dc aV)
     have LW:=vK _ _ _ Dc (show w6.heap[R]? =U (C #[S a E.s.length c,S ta E.t.length tc,I J ((x+1:Nat):Int),tv6,Bo false,eo sn o0] 140 (0,0))from K0)
     refine⟨bq XF X,bq LW X,uT LW,eb LW,eb XF,fun lq RB=>⟨lq,aP++[⟨N.tag,fX⟩],?_,LP.setLong lq,?_,?_,?_,by rw[RB];exact NJ⟩⟩
     ·refine dk ?_ ?_ _
      ·rw[ab0,ff];exact h1
      ·exact fg LW h1 Dc
     ·intro k A T hk hT hg
      rw[ez _ _ _ _ hk]
      have hg6:=eH k A T hk hT hg
      have eI:=bc hg6 hB
      rw[h2.block k (eb eI) (fun q=>?_)]
      ·exact eI
      ·have:=(gB k q.symm).1
       have:=eb hg
       omega
     ·rw[ez _ _ _ _ lM]
      exact vK _ _ _ Dc KU
     ·rw[ez _ _ _ _ AL]
      exact vK _ _ _ Dc K7
    clear hq hm;go_wp2_with (at_builtin;refine wpList_append_lies _ X _ _ 186 X w1.heap.size 149 i0 _ 3 24 underlying186 dO cU dA bL X Dc (S O6 aP.length PB) aP.length (ph aP) X (hU.alloc _) (D w6.heap.size 0 Z) 1 1 [I J 2,I J N.tag,Bo true] X X (World.news_of_block (bl w6 (C #[I J 2,I J N.tag,Bo true] 149))) (by intro u hu;simp at hu;rcases hu with rfl|rfl|rfl<;>rfl) Dc (by unfold maxLen;omega) O So (w6.heap.size+1) Sq ?_;intro g7 tM w7 H9 IA PK PM;obtain⟨e7,e8,e9,G8,DV,jP⟩:=aah g7 tM w7 H9 IA;have j4:=ax jP;clear H9 IA PK PM jP);go_meet;refine j4 _ ?_;first|rfl|exact decide_eq_decide.2 O|(simp;omega)
   have NJ:Hi (nv l0 lc aP r m5):=by
    refine KG.plain ?_;cases hok:ok;(·exact .inl (UB hok));right;cases hlc:lc;(·rw[hok,hlc]at hq;exact Ab X hq);rfl
   (have hqb:(ok&& !lc)=false:=by simpa using hq);rw[hqb];clear hq;go_wp2_with fail;go_meet;exact⟨lc,aP,hU,FX,eH,KU,K7,NJ⟩
  obtain⟨sS,oH,xX,LP,sC,V7,WJ,VR⟩:=hcut;obtain⟨O5,PA,rfl⟩:=Xy xX;have xH:=ax xX;have KJ:=ax LP;have lQ:=ax sC;have kU:=ax VR;have oN:=sC _ _ _ C2 Dc aV;have p7:wc.cell? (D wb 0 Z)=U (Po (U (D R 0 Z))):=bq oN X;obtain⟨k0,k1,k2,k3⟩:=fi V7;obtain⟨v0,v1,v2,v3⟩:=fi WJ;have jD:x<E.t.length:=by
   rcases ny x E.t.length with q|q;(·exact q);have h1:=KN.out.1;(have h2:vl E.t x=⟨0,az,0,0⟩:=by unfold vl;rw[dy,xz q];rfl);rw[h2]at h1;simp only at h1;omega
  clear xX LP sC V7 WJ VR oN p6 r4 zW FX hU eH KU K7 j5 K0 KG UA UB;by_cases bU:N.kind=13;·have QR:=(Ve bU KN.1).1 KN;rw[HV.out]at QR;obtain⟨al,p8⟩:∃al:Nat,v.alt=al:=⟨v.alt.toNat,O⟩;have iI:al<N.kids.length:=O;obtain⟨b',o',CV,aX⟩:=oE al iI;obtain⟨sO,_,_⟩:=aX;have l7:N.kids.getD al fy∈N.kids:=ni (n:=N) iI;obtain⟨y,hy⟩:∃y,N.kids.getD al fy=y:=Ey;rw[hy]at sO l7;have FA:=HC.wc.right.fine.within i DE y (by rw[HN.out];exact l7);obtain⟨t,ht⟩:∃t:Nat,y.node=t:=⟨y.node.toNat,O⟩;have bC:t<E.s.length:=O;rw[ht]at sO;have q0:wc.cell? (D b' (o'+al*3) Z)=U (I J t):=Cb KJ.bel sO;have RB:=bp q0;simp only at RB;(have lI:Hi (wrF E ag t (x+1) dp=U m5):=by have h:=SU.out;rw[HN,HV.out]at h;unfold jc at h;rw[ba bU,ba QR]at h;(have e1:(kd N v.alt.toNat).node.toNat=t:=by(have:kd N v.alt.toNat=y:=by unfold kd;rw[p8];exact hy);rw[this,ht];rfl);rw[e1]at h;exact h);rw[CV]at k3;rw[p8]at v2;rw[bU]at k0;have ajQ:(al:Int)<(N.kids.length:Int):=O;clear sO l7 hy FA QR bU CV p8;go_wp2;go_roundg ag;(case rel=>exact⟨t,x+1,m5,sS,oH,X,bC,O,lI,O,O,O,xH,KJ,lQ,kU⟩);omega
  have ajM:(N.kind !=13)=true:=by simpa using bU
  have aU:Hi (Cs prog 111 #[Po (U (D R 0 Z)),Ag #[I J N.kind,I J N.tag,I J N.mode,S ka N.kids.length kc],Ag #[I J v.kind,Y v.text,I J v.alt,I J v.kids],I J dp] wc fun e w'=>oe E W R a c ta tc sn m5 t0 sS o0 wc e w'):=by have:=ahe E W R a c ta tc ag sn HC zJ (jI ag O) O i DE ka kc (by rw[HN.out];exact oE) (by rw[HN.out];exact aL) GG x dp m5 t0 sS o0 wc (by rw[HN.out];exact KN) SU jD O HDP.1 NN h4 KJ (by rw[HN.out];exact bU);rw[HN,HV.out]at this;exact this
  go_wp2_with fail;refine aU.mono ?_;rintro e w8 ⟨mQ,⟨O4,x8,M6,t8,l8,o8,hq,rfl,WH,IE⟩|⟨hq,p,x8,t8,l8,ov,rfl,IE⟩⟩
  ·have FY:=ax IE;have HT8:=ax WH;have mG:Hi (bx R w1 w8):=lQ.trans mQ;have T8:=ax (Xz xH mQ Dc xY);have PT:=kU.out;rw[hq]at PT;have SZ:=ax PT;clear mQ hq WH IE PT xH KJ lQ kU p7 k0 k1 k2 k3 v0 v1 v2 v3 aU;go_wp2_with fail;refine(acu _ _ _ _).mono ?_;rintro e w9 ⟨rfl,rfl⟩;have LM:=(cm _ w8).alloc Ln (C #[S O5 oH.length PA] 186);have xW:=bl w8 (C #[S O5 oH.length PA] 186);(have XY:w8.heap.size≠R:=by obtain⟨tv,h1,_⟩:=FY.out.own;have:=eb h1;omega);have PQ:=zf.of_own (fm T8 LM) xW xY XY;have gN:=ax (FY.below LM);have jG:Hi (bx R w1 (w8.alloc (C #[S O5 oH.length PA] 186))):=mG.trans (bx.of_below LM);obtain⟨Bs,VN⟩:∃Bs,w8.heap.size=Bs:=Ey;rw[VN]at PQ ⊢;generalize w8.alloc _=w9 at PQ gN jG ⊢;(have yK:oH.length<=1000000:=by have:=SZ.out.len;omega);clear LM xW XY VN FY mG T8;have hW9:W.heap.size<=w9.heap.size:=gN.out.bel.size;(have j4:Hi (∀(af:Nat) (W':M),w9.heap.size<=af->((∃(t9:Q) (l9:Bool),ey W W' R a E.s.length c ta E.t.length tc x8 t9 l9 (eo sn o8)/\kg t0 sS o0 (ze (pn oH oH.length) O4) M6 t9 l9 o8)/\bx R w9 W')->W'.heap[af]? =U (.deferred (U []))->oe E W R a c ta tc sn r t0 l0 o0 w (Rt .nilIface) (W'.putObj af (.deferred Z))):=fun af W' hD hs hK=>by obtain⟨⟨t9,l9,h1,h2⟩,h3⟩:=hs;rw[ajs]at h2;obtain⟨b0,C5,hT0⟩:=SZ.end h2;(have nc:∀(A:Array Vv) (T:TypeId) (z:Nat×Nat),W'.heap[af]? ≠U (C A T z):=fun A T z hA=>by rw[hK]at hA;cases hA);have hg:=grownBy_putObj' W' af (.deferred Z);have rA:=h1.grown hg (fun g q=>by injection q with q;subst q;refine⟨O,?_,fun A=>nc A _ _⟩;rintro rfl;obtain⟨tv,hR,_⟩:=h1.own;exact nc _ _ _ hR);(have rB:bx R w9 (W'.putObj af (.deferred Z)):=fun k A T hk hT eI=>by have hX:=h3 k A T hk hT eI;rw[hg.block k (eb hX) (fun q=>by injection q with q;subst q;exact nc _ _ _ hX)];exact hX);exact⟨(bx.of_below aC).trans (jG.trans rB),.inl ⟨b0,x8,M6,t9,l9,o8,C5,X,hT0,rA⟩⟩);go_wp2_with fail;refine(wpIn_wide (n:=3)).1 ?_;refine ajm (F:=Fence.wide) X Dc (gf:=153) (lb:=#[Po (U (D Bs 0 Z))]) X trivial (enters_of func153 Kr X) (act (3-1) Dc Bs R oH yK w9 PQ) (fun h k q A T h1 h2 h3=>k q A T h1 h2 (h q A T h1 h2 h3)) ?kb (fun W' o' k A T _ _ hg=>bc hg Be) By (fun _=>rfl) (fun pre W'=>(∃(t9:Q) (l9:Bool),ey W W' R a E.s.length c ta E.t.length tc x8 t9 l9 (eo sn o8)/\kg t0 sS o0 (ze pre O4) M6 t9 l9 o8)/\bx R w9 W') ?own ⟨⟨t8,l8,gN,HT8⟩,fun _ _ _ _ _ h=>h⟩ 16 149 (fun x=> #[I J 2,I J x.2.1,Bo true]) ?assign ?body ?done;(case kb=>intro W' l o1 o' _ EK fP _ k A T hk hT hg;(have CX:k≠l:=by rintro rfl;rw[hg]at EK;injection EK with EK;subst EK;cases fP);exact(World.putObj_heap_other CX).trans hg)
   case own=>
    intro pre av aw row hs hg hr;obtain⟨⟨t9,l9,h1,h2⟩,h3⟩:=hs;(have nc:∀g,row=U g->∀(A:Array Vv) (T:TypeId) (z:Nat×Nat),av.heap[g]? ≠U (C A T z):=fun g q A T z hA=>by obtain⟨_,o1,ho,fP⟩:=hr g q;rw[hA]at ho;injection ho with ho;subst ho;cases fP);refine⟨⟨t9,l9,h1.grown hg (fun g q=>⟨?_,?_,fun A=>nc g q A _ _⟩),h2⟩,fun k A T hk hT eI=>?_⟩;(·have:=(hr g q).1;omega);(·rintro rfl;obtain⟨tv,hR,_⟩:=h1.own;exact nc _ q _ _ _ hR);have hX:=h3 k A T hk hT eI;rw[hg.block k (eb hX) (fun q=>nc k q.symm _ _ _ hX)];exact hX
   (case assign=>intro l x1 W' K hK;unfold Fp at hK ⊢;simp only[Vi,cq,ct,cr]at hK ⊢;gi_wp2;exact hK);(case body=>rintro l pre x1 Bx W' ⟨⟨t9,l9,hE,hT⟩,hF⟩ VO aA;unfold Fp;simp only[Vi,cq,ct,cr];have oN:=(jG.trans hF) _ _ _ C2 Dc aV;have XE:=(jG.trans hF) _ _ _ XZ Dc cJ;have p1:W'.cell? (D wb 0 Z)=U (Po (U (D R 0 Z))):=bq oN X;have p2:W'.cell? (D sb 0 Z)=U (I J t0.size):=bq XE X;obtain⟨p3,p4,p5⟩:=pt VO;have tK:Hi _:=Hm W W' R a E.s.length c ta E.t.length tc x8 t9 l9 (eo sn o8) sn HC.lay t0.size 2 x1.2.1 true Dc Dc x1.2.2.1 x1.2.2.2 hT.le hT.mx hE;(have F5:Hi (∀W4 A4 FD,nw R W' W4->Hr t9 l9 t0.size (hdB 2 true x1.2.1 (t9.size-t0.size)) A4 FD->ey W W4 R a E.s.length c ta E.t.length tc x8 A4 FD (eo sn o8)->KeepsFrom w9.heap.size W' W4/\Ei R W' W4/\((∃(t9:Q) (l9:Bool),ey W W4 R a E.s.length c ta E.t.length tc x8 t9 l9 (eo sn o8)/\kg t0 sS o0 (ze (pre++[x1]) O4) M6 t9 l9 o8)/\bx R w9 W4)):=fun W4 A4 FD h1 h2 h3=>by obtain⟨tv,hR,_⟩:=hE.own;refine⟨ad4 h1 hR _,h1.fr,⟨A4,FD,h3,?_⟩,hF.trans h1.fr⟩;rw[ajt];exact hT.wrap h2);clear oN XE VO hE hT hF;gi_wp2_with (refine⟨trivial,?_⟩;gi_at_call 113;refine(CallsIn.inRound l (callsIn_wide.2 tK)).mono ?_;rintro e W4 ⟨rfl,nS,A4,FD,aer,ad8⟩);exact F5 W4 A4 FD nS aer ad8);case done=>rintro af xs W' hD rfl hs hK;have hA:=j4 af W' hD hs hK;have HA:=ax hA;have HK:=ax hK;clear hA hs hK;go_wp2;refine af8 HK (v:= .nilIface) (by simp[results,results75,go_sem]) X ?_;exact HA
  have HX:Hi (r=Z):=by have h:=kU.out;rw[hq]at h;exact h.none
  have FY:=ax IE;have mG:Hi _:=(bx.of_below aC).trans (lQ.trans mQ);clear hq IE mQ;unfold be;go_wp2;refine Wk (v:=be p (sn .Tree)) (by simp[results,results75,go_sem,be]) X ?_;exact⟨mG,.inr ⟨HX,p,x8,t8,l8,ov,X,FY⟩⟩
 have HX:Hi (r=Z):=by have h:=vT.out;rw[ajq HC.wc.ok (by rw[HN.out];exact jA)]at h;injection h with h;have:=kV.out;rw[<-h]at this;exact this.none
 have iO:=ax nR;have dI:Hi (bx R w w3):=(bx.of_below aC).trans (s7.trans dF);clear jA nR dF;unfold be;go_wp2;refine Wk (v:=be x (sn .Tree)) (by simp[results,results75,go_sem,be]) X ?_;exact⟨dI.trans (bx.of_below Be),.inr ⟨HX,x,x,t0,lc,eo sn o0,X,iO.below Be⟩⟩
end
section
open Go.Proofs.Tryz
open Go.RowKit
theorem adI(E:de)(W:M)(R:Nat)(a:Oo Ad)(c:Nat)(ta:Oo Ad)(tc:Nat)(sn:Sn->Ad)(hc:EC E W a ta sn)(dX:E.t.length<=tc)(f:Nat):uL E W R a c ta tc sn f:=
 Nat.strongRecOn f fun F ih=>adJ E W R a c ta tc sn hc dX F ih
def Dr(k:Int):Sn:=if k=2 then .Long else if k=8 then .Order else .Tree
def Rx(sn:Sn->Ad)(za:Ad)(v:Except Int Q)(w:M)(e:Ending)(w':M):Prop:=
 Bw w w'/\
 ((∃b,v= .ok b/\e=Rt (Tu #[Y b,.nilIface]))\/
  (∃p,v= .error 1/\e=Rt (Tu #[Y ⟨#[]⟩,ml 0 (be p za)]))\/
  (v= .error 1/\e=Rt (Tu #[Y ⟨#[]⟩,be 0 za]))\/
  (∃k q,v= .error k/\(k=2\/k=8\/k=11)/\e=Rt (Tu #[Y ⟨#[]⟩,be q (sn (Dr k))])))
theorem Tq(E:de)(s:Ls Nd)(a:Oo Ad)(c:Nat)(root:Int)(t:Ls Vl)(ta:Oo Ad)(tc:Nat)(v:Except Int Q)(w:M)(sn:Sn->Ad)(za:Ad)(hl:gy w sn)(hz:kv w sn za)(hs:ew w a s)(hok:ky s)(fA:s.length<=140737488351232)(ht:qb w ta t)(dX:t.length<=tc)(oS:Sz t)(dR:∀j,j<t.length->(vl t j).kids<=9223372036854775807)(hv:Cf E s root t v):Cs prog 46 #[S a s.length c,I J root,S ta t.length tc] w fun e w'=>Rx sn za v w e w':=by
 have KH:Hi (∀wq,Bw w wq->Cs prog 74 #[S a s.length c,I J root] wq fun e w'=>Mg s root za wq e w'):=fun wq q=>Tt s a c root wq sn za (hl.below q) (hz.below q) (hs.below q) hok fA;have HL:=ax hl;have HS:=ax hs;have dQ:=ax hok;have HT:=ax ht;have HV:=ax hv;have DG:=ax dR;have OL:=ax oS;have zJ:=ax dX;have bC:=oS.len;clear hl hz hs hok ht hv dR oS dX;go_enter func46,ntmps46;go_wp2_with fail;refine(KH _ By).mono ?_;rintro e w1 ⟨(aC:Hi _),h1⟩;rcases h1 with⟨rfl,hr,h0,h1⟩|⟨⟨p,rfl⟩,hr⟩|⟨rfl,hr,h0⟩
 ·have HR:=ax hr;obtain⟨rfl,rfl,gX,f0,r,YN,(tJ:Hi _)⟩:E.s=s/\E.t=t/\(∀k u,E.ok k u=true↔bu k u)/\∃f r,wrF E f root.toNat 0 1=U r/\v=sy r t.length:=by
   rcases HV with⟨q,_⟩|⟨_,q⟩;(·exact Ab ⟨hr,h0,h1⟩ q);exact q
  obtain⟨rt,rfl⟩:∃n:Nat,root=n:=⟨root.toNat,O⟩;have pF:=Z0 f0 (E.t.length+1) _ _ _ _ YN;have VU:EC E w1 a ta sn:=⟨⟨HS.below aC,HR,dQ,gX,HT.below aC,OL,DG⟩,HL.below aC⟩;have bH:=bl w1 (gj a E.s.length c ta E.t.length tc 0 (S Z 0 0) false .nilIface);have dG:ey w1 (w1.alloc (gj a E.s.length c ta E.t.length tc 0 (S Z 0 0) false .nilIface)) w1.heap.size a E.s.length c ta E.t.length tc 0 az false (eo sn Z):=⟨Be,Ln,_,bH,nz _ _ _ _⟩;have dV:Hi (Cs prog 75 #[Po (U (D w1.heap.size 0 Z)),I J rt,I J 1] (w1.alloc (gj a E.s.length c ta E.t.length tc 0 (S Z 0 0) false .nilIface)) fun e w'=>oe E w1 w1.heap.size a c ta tc sn r az false Z (w1.alloc (gj a E.s.length c ta E.t.length tc 0 (S Z 0 0) false .nilIface)) e w'):=adI E w1 w1.heap.size a c ta tc sn VU zJ (f0+(E.t.length+1)) rt 0 1 r az false Z _ (by simpa using pF) O Lz O O Dc Dc Dc dG;unfold gj at dV;clear pF YN VU bH dG gX hr;go_wp2_with fail;refine dV.mono ?_;rintro e w3 vB;have f8:=vB.2;clear vB;rcases f8 with⟨b,x,u,t1,l1,o1,hr,rfl,(GS:Hi _),bI⟩|⟨hr,p,x,t1,l1,ov,rfl,bI⟩
  ·have aR:Hi (Bw w w3):=Tm aC bI.bel;have xL:=ax hr;obtain⟨tv,oT,(DK:Hi _)⟩:=bI.own;unfold gj at oT;obtain⟨-, -,c2,c3,c4,c5⟩:=oq oT;have iX:=bp c2;simp only at iX;have cT:=(HL.below aR).s.cTree;have cL:=(HL.below aR).s.cLong;have hgT:=bp cT;have hgL:=bp cL;simp only at hgT hgL;have bS:Hi (∀(q:Int) (k:Sn) wq,Cs prog 60 #[I J q,If 291 (Po (U (sn k)))] wq fun e w'=>e=Rt (be q (sn k))/\w'=wq):=fun q k wq=>pj q _ wq;unfold be at bS;clear bI oT hr dV;by_cases jD:x<E.t.length;(·have RX:(x:Int)<E.t.length:=O;(have HE:Hi (v= .error 11):=by show v=_;rw[tJ,xL.out];unfold sy;simp only;rw[ba jD]);go_wp2_with fail;go_region_held_law (fun w'=>w'.cell? (D w1.heap.size 2 Z)=U (I J (x:Int))/\w'.cell? (D 9 0 Z)=U (If 291 (Po (U (sn .Tree))))) (first|exact⟨c2,cT⟩|go_keep) ((go_at_call 60;refine(bS _ _ _).mono ?_;rintro e w4 ⟨rfl,rfl⟩));all_goals rename_i hHeld;clear hHeld;go_wp2;refine db (v:=Tu #[Y ⟨#[]⟩,be x (sn .Tree)]) (by simp[results,results46,go_sem,be]) X ?_;exact⟨aR.drew,.inr (.inr (.inr ⟨11,x,HE,Dc,X⟩))⟩);have RX:(E.t.length:Int)<=x:=O
   cases l1 with
   |true=>
    have HE:Hi (v= .error 2):=by
     show v=_
     have:=GS.long X X
     rw[tJ,xL.out];unfold sy;simp only;rw[G jD,ba (by have h0:az.size=0:=X;omega)]
    go_wp2_with fail
    refine(bS _ _ _).mono ?_
    rintro e w4 ⟨rfl,rfl⟩
    go_wp2
    refine db (v:=Tu #[Y ⟨#[]⟩,be 0 (sn .Long)]) (by simp[results,results46,go_sem,be]) X ?_
    exact⟨aR,.inr (.inr (.inr ⟨2,0,HE,Dc,X⟩))⟩
   |false=>
    have E4:t1=b:=by
     have:=GS.told X
     rw[this]
     apply je
     simp[az]
    have hb4:b.size<=4000:=by rw[<-E4];exact GS.mx
    cases o1 with
    |some p=>
     have HE:Hi (v= .error 8):=by
      show v=_
      have hu:=GS.ord X
      simp only[Option.isSome_some,Option.isSome_none,Ed]at hu
      rw[tJ,xL.out];unfold sy;simp only;rw[G jD,G O,ba hu.symm]
     unfold eo be at c5
     go_wp2_with fail
     go_quiet (fail)
     have aJ:Hi (Bw w (w3.drewN nq)):=Go.below_drewN aR nq
     go_wp2
     refine db (v:=Tu #[Y ⟨#[]⟩,be p (sn .Order)]) (by simp[results,results46,go_sem,be]) X ?_
     exact⟨aJ,.inr (.inr (.inr ⟨8,p,HE,Dc,X⟩))⟩
    |none=>
     have HE:Hi (v= .ok b):=by
      show v=_
      have hu:=GS.ord X
      simp only[Option.isSome_none,Ed]at hu
      rw[tJ,xL.out];unfold sy;simp only;rw[G jD,G O,G (by rw[<-hu];decide)]
     unfold eo at c5
     subst E4
     have yE:(convert 52 9 tv).run prog w3= .ok (Y t1) w3:=by
      by_cases h0:t1.size=0
      ·have e1:=Jt h0
       rcases DK.2 with⟨q,_⟩|⟨g,cap,aB,q,_,hg,_⟩
       ·rw[q,e1]
        simp[convert,Kj underlying52,Kj underlying5,Kj underlying9,az]
        rfl
       ·rw[q,e1]
        exact Yy w3 52 9 5 (D g 0 Z) cap [] underlying52 underlying5 underlying9 (fun j hj=>by simp at hj)
      ·have h2:=Fm (w:=w3) (v:=tv) (l:=t1.data.toList) (xf DK X X) (fun q=>h0 (by have:=kr List.length q;simpa using this))
       rw[h2]
     go_wp2
     refine db (v:=Tu #[Y t1,.nilIface]) (by simp[results,results46,go_sem]) X ?_
     exact⟨aR,.inl ⟨_,HE,X⟩⟩
  have aR:Hi (Bw w w3):=Tm aC bI.bel;have HE:Hi (v= .error 11):=by show v=_;rw[tJ,hr];rfl
  clear bI hr dV;unfold be;go_wp2;refine db (v:=Tu #[Y ⟨#[]⟩,be p (sn .Tree)]) (by simp[results,results46,go_sem,be]) X ?_;exact⟨aR,.inr (.inr (.inr ⟨11,p,HE,Dc,X⟩))⟩
 ·have HE:Hi (v= .error 1):=by
   rcases HV with⟨_,q⟩|⟨q,_⟩;(·exact q);exact Ab q.1 hr
  clear hr;unfold ml be;go_wp2;refine db (v:=Tu #[Y ⟨#[]⟩,ml 0 (be p za)]) (by simp[results,results46,go_sem,ml,be]) X ?_;exact⟨aC,.inr (.inl ⟨p,HE,X⟩)⟩
 have HE:Hi (v= .error 1):=by
  rcases HV with⟨_,q⟩|⟨q,_⟩;·exact q
  exact Ab q.2 (fun z=>O)
 clear hr;unfold be;go_wp2;refine db (v:=Tu #[Y ⟨#[]⟩,be 0 za]) (by simp[results,results46,go_sem,be]) X ?_;exact⟨aC,.inr (.inr (.inl ⟨HE,X⟩))⟩
theorem aiq(k:Int)(h:k=2\/k=8\/k=11):(Dr k).code=k:=by rcases h with rfl|rfl|rfl<;>rfl
theorem adF(E:de)(s:Ls Nd)(a:Oo Ad)(c:Nat)(root:Int)(t:Ls Vl)(ta:Oo Ad)(tc:Nat)(v:Except Int Q)(w:M)(sn:Sn->Ad)(za:Ad)(hl:gy w sn)(hz:kv w sn za)(hs:ew w a s)(hok:ky s)(fA:s.length<=140737488351232)(ht:qb w ta t)(dX:t.length<=tc)(oS:Sz t)(dR:∀j,j<t.length->(vl t j).kids<=9223372036854775807)(hv:Cf E s root t v):Cs prog 22 #[S a s.length c,I J root,S ta t.length tc] w fun e w'=>Ct v w e w':=by
 have HT:=ax (Tq E s a c root t ta tc v w sn za hl hz hs hok fA ht dX oS dR hv);have HL:=ax hl;have HZ:=ax hz;have jI:Hi _:=fun wq=>Gf wq;clear hl hz hs hok hv ht dX oS dR;go_enter func22,ntmps22;go_wp2_with fail;refine HT.mono ?_;rintro e w1 ⟨(aC:Hi _),h1⟩;rcases h1 with⟨b,cR,rfl⟩|⟨p,cR,rfl⟩|⟨cR,rfl⟩|⟨k,q,cR,hk,rfl⟩;·have lT:=ax cR;clear cR;go_wp2_with fail;refine(jI _).mono ?_;rintro e w3 ⟨rfl,rfl⟩;go_wp2;refine db (v:=Tu #[Y b,I J 0]) (by simp[results,results22,go_sem]) X ?_;rw[lT.out];exact⟨aC,X⟩
 ·have lT:=ax cR;have HN:Hi (∀wq,Bw w wq->Cs prog 34 #[ml 0 (be p za)] wq fun e w'=>e=Rt (I J 1)/\Bw w w'):=fun wq hq=>(Pj 0 p za wq sn (HL.below hq).s (HZ.below hq)).mono fun e w' h=>⟨h.1,Tm hq h.2⟩;unfold ml be at HN ⊢;clear cR;go_wp2_with fail;refine(HN _ aC).mono ?_;rintro e w3 ⟨rfl,(aR:Hi _)⟩;go_wp2;refine db (v:=Tu #[Y ⟨#[]⟩,I J 1]) (by simp[results,results22,go_sem]) X ?_;rw[lT.out];exact⟨aR,X⟩
 ·have lT:=ax cR;have HN:Hi (∀wq,Bw w wq->Cs prog 34 #[be 0 za] wq fun e w'=>e=Rt (I J 1)/\Bw w w'):=fun wq hq=>by have h:=Ge 0 za wq sn (HL.below hq).s (HZ.below hq).r;rw[Ph (fun s q=>HZ.d s q.symm)]at h;exact h.mono fun e w' h=>⟨h.1,Tm hq h.2⟩
  unfold be at HN ⊢;clear cR;go_wp2_with fail;refine(HN _ aC).mono ?_;rintro e w3 ⟨rfl,(aR:Hi _)⟩;go_wp2;refine db (v:=Tu #[Y ⟨#[]⟩,I J 1]) (by simp[results,results22,go_sem]) X ?_;rw[lT.out];exact⟨aR,X⟩
 have lT:=ax cR;have HN:Hi (∀wq,Bw w wq->Cs prog 34 #[be q (sn (Dr k))] wq fun e w'=>e=Rt (I J k)/\Bw w w'):=fun wq hq=>by have h:=Gg q (Dr k) wq sn (HL.below hq).s;rw[aiq k hk]at h;exact h.mono fun e w' h=>⟨h.1,Tm hq h.2⟩
 unfold be at HN ⊢;generalize sn (Dr k)=ak at HN;clear cR hk;go_wp2_with fail;refine(HN _ aC).mono ?_;rintro e w3 ⟨rfl,(aR:Hi _)⟩;go_wp2;refine db (v:=Tu #[Y ⟨#[]⟩,I J k]) (by simp[results,results22,go_sem]) X ?_;rw[lT.out];exact⟨aR,X⟩
end
