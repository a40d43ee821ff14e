/-
Several texts in one.
-/
import Derived.Test.YtkkicodfpekbgaaGreatDoorJg1
import Derived.Test.YtkkicodfpekbgaaGreatDoorJg0
import Derived.Test.YtkkicodfpekbgaaGreatDoorJg3
open Go.Value renaming int->I,string->Y,slice->S,pointer->Po,bool->Bo,agg->Ag,tuple->Tu
open Go.IntKind renaming i64->J
open Go.Obj renaming cells->C
open Go.Ending renaming returned->Rt
open Option renaming some->U,none->Z
open Go renaming World->M,Calls->Cs,Addr->Ad,Value->Vv
open _root_ renaming ByteArray->Q,Option->Oo,List->Ls
open Go.RowKit renaming Below->H,intOf->Io,Hid->Hi
open Go.World renaming cell?->Wc
open Go.Act renaming put->Ap,eval->Ae
open UInt8 renaming ofNat->Uo
open Go.Addr renaming mk->D
set_option linter.unusedSimpArgs false
set_option linter.unusedVariables false
set_option maxRecDepth 100000
set_option maxHeartbeats 8000000
namespace Go.Proofs.YtkkicodfpekbgaaGreatDoor
open Go.Proofs.Tryz
open Go.RowKit
def bT(b:Bool):Q:=if b then⟨#[255]⟩else⟨#[0]⟩
def i6(m:fO):Q×Q×Q:=(m.kind,bT m.must,m.body)
def sS(ms:Ls fO):Oo (Ls (Q×Q×Q)):=if ms.length=0 then Z else U (ms.map i6)
def ctOf(v:Int)(s n:Q)(pr:Bool)(f t k:Q)(ms:Ls fO):CT:=⟨⟨#[Uo v.toNat]⟩,s,n,pr,f,t,k,sS ms⟩
theorem uy(n:Q)(w:M)(sn:Sn->Ad)(hl:ls w sn)(hz:n.size<=9223372036854775807):Cs prog 135 #[Y n] w fun e w'=>∃pr:Bool,e=Rt (Tu #[I J (if pr then 8 else 7),I J (if pr then 0 else 1)])/\(pr=true↔aR 8 n)/\H w.heap.size w w':=by
 have HF:=bF (kH 8 n w hz hl.d (nh n w hz hl.t));clear hl;go_enter func135,ntmps135;go_wp2_with fail;refine HF.mono ?_;rintro e w1 ⟨r,rfl,hr,hb⟩;have HR:=bF hr;have HB:=bF hb;clear hr hb HF;cases r
 ·go_wp2;go_ret2;exact⟨false,X,HR,HB⟩
 go_wp2;go_ret2;exact⟨true,X,by simpa using HR.out,HB.out⟩
theorem uf(b:Bool)(w:M):Cs prog 136 #[Bo b] w fun e w'=>e=Rt (Y (bT b))/\w'=w:=by
 go_enter func136,ntmps136;cases b
 ·go_wp2;go_ret;exact⟨X,X⟩
 go_wp2;go_ret;exact⟨X,X⟩
def Cf(v:Int)(s n f t k:Q)(ms:Ls fO)(w:M)(e:Ending)(w':M):Prop:=
 H w.heap.size w w'/\∃(pr:Bool) (ta:Oo Ad) (tc:Nat),(pr=true↔aR 8 n)/\e=Rt (S ta (ctOf v s n pr f t k ms).tree.length tc)/\
  w'.ownsRow w.heap.size 60 4 (S ta (ctOf v s n pr f t k ms).tree.length tc) (ctOf v s n pr f t k ms).tree.length (bG (ctOf v s n pr f t k ms).tree)
abbrev jX(v:Int)(s n:Q)(pr:Bool)(f t k:Q):Ls Vl:=mO ⟨#[Uo v.toNat]⟩ s n pr f t k
theorem rD(v:Int)(s n f t k:Q)(ms:Ls fO)(ma:Oo Ad)(mc:Nat)(w:M)(sn:Sn->Ad)(hl:ls w sn)(hz:n.size<=9223372036854775807)(hv0:0<=v)(hv1:v<256)(hin:fj w ma ms)(hlen:ms.length<=1000000):Cs prog 87 #[bW v s n f t k (S ma ms.length mc)] w fun e w'=>Cf v s n f t k ms w e w':=by
 have HN:Hi (∀wq,H w.heap.size w wq->Cs prog 135 #[Y n] wq fun e w'=>∃pr:Bool,e=Rt (Tu #[I J (if pr then 8 else 7),I J (if pr then 0 else 1)])/\(pr=true↔aR 8 n)/\H wq.heap.size wq w'):=fun wq q=>uy n wq sn (hl.below q) hz;have HBT:Hi (∀b wq,Cs prog 136 #[Bo b] wq fun e w'=>e=Rt (Y (bT b))/\w'=wq):=fun b wq=>uf b wq;have HI:=bF hin;obtain⟨i0,hi0,hz0,hz1,hz2⟩:=dD jl;have hcv:=fX v hv0 hv1;have hwr:IntKind.u8.wrap v=v:=by simp[IntKind.wrap,IntKind.bits,IntKind.signed];omega
 unfold bW;clear hl hin hz;go_enter func87,ntmps87;go_wp2_with fail;refine(HN _ Be).mono ?_;rintro e w1 ⟨pr,rfl,hpr,hb1⟩;have hx:∀(i:Nat) (u:Vv),(#[I J v,Y s,Y n,Y f,Y t,Y k,S ma ms.length mc]:Array Vv)[i]? =U u->w1.cell? (D w.heap.size i Z)=U u:=fun i u h=>b7.new ⟨w1,hb1⟩ h;have c0:w1.cell? (D w.heap.size 0 Z)=U (I J v):=hx 0 _ X;have c1:w1.cell? (D w.heap.size 1 Z)=U (Y s):=hx 1 _ X;have c2:w1.cell? (D w.heap.size 2 Z)=U (Y n):=hx 2 _ X;have c3:w1.cell? (D w.heap.size 3 Z)=U (Y f):=hx 3 _ X;have c4:w1.cell? (D w.heap.size 4 Z)=U (Y t):=hx 4 _ X;have c5:w1.cell? (D w.heap.size 5 Z)=U (Y k):=hx 5 _ X;have c6:w1.cell? (D w.heap.size 6 Z)=U (S ma ms.length mc):=hx 6 _ X;have HC1:Hi (w1.heap[w.heap.size]? =U (C #[I J v,Y s,Y n,Y f,Y t,Y k,S ma ms.length mc] 68 (0,0))):=ax (aA w _) hb1;have HB1:Hi (H w.heap.size w w1):=aT hb1;have hl1:w.heap.size<w1.heap.size:=aw c0;have HPR:=bF hpr;obtain⟨kk,hkk⟩:∃kk:Int,(if pr=true then 8 else 7)=kk:=Ey;obtain⟨al,hal⟩:∃al:Int,(if pr=true then 0 else 1)=al:=Ey;rw[hkk,hal];have HKA:=bF (And.intro hkk hal);clear hx hb1 hpr HN hkk hal;go_upto_region 3 with fail;have hvc:bG (jX v s n pr f t k)=[I J 10,Y ⟨#[]⟩,I J 0,I J 6,I J 2,Y ⟨#[Uo v.toNat]⟩,I J 0,I J 0,I J 2,Y s,I J 0,I J 0,I J 13,Y ⟨#[]⟩,I J al,I J 1,I J kk,Y n,I J 0,I J 0,I J 10,Y ⟨#[]⟩,I J 0,I J 2,I J 9,Y f,I J 0,I J 0,I J 9,Y t,I J 0,I J 0,I J 5,Y k,I J 0,I J 0]:=by rw[<-HKA.1,<-HKA.2];rfl
 have hO0:=World.ownsRow_lit (base:=w.heap.size) (e:=60) (size:=4) (w1.alloc (C #[I .u8 v] 5)) (bG (jX v s n pr f t k)).toArray 9 (by have:=HB1.out.size;simp;omega) Dc (by rw[hvc];rfl);have hBW0:H w1.heap.size w1 ((w1.alloc (C #[I .u8 v] 5)).alloc (C (bG (jX v s n pr f t k)).toArray 60)):=(Be).alloc Sq _;rw[List.toList_toArray]at hO0;have hsz:(w1.alloc (C #[I .u8 v] 5)).heap.size=w1.heap.size+1:=Sq;rw[hsz]at hO0;have hO1:=hO0;rw[hvc]at hO0 hBW0;generalize hW2:((w1.alloc (C #[I .u8 v] 5)).alloc (C #[I J 10,Y ⟨#[]⟩,I J 0,I J 6,I J 2,Y ⟨#[Uo v.toNat]⟩,I J 0,I J 0,I J 2,Y s,I J 0,I J 0,I J 13,Y ⟨#[]⟩,I J al,I J 1,I J kk,Y n,I J 0,I J 0,I J 10,Y ⟨#[]⟩,I J 0,I J 2,I J 9,Y f,I J 0,I J 0,I J 9,Y t,I J 0,I J 0,I J 5,Y k,I J 0,I J 0] 60))=W2 at hO0 hBW0 ⊢;have HOW:Hi (W2.ownsRow w.heap.size 60 4 (S (U (D (w1.heap.size+1) 0 Z)) 9 9) 9 (bG (jX v s n pr f t k))):=by show W2.ownsRow _ _ _ _ _ _;rw[hvc];exact hO0
 have HBW:Hi (H w.heap.size w W2):=HB1.trans (hBW0.mono HB1.size);have c6':W2.cell? (D w.heap.size 6 Z)=U (S ma ms.length mc):=(hBW0.cell (aw c6)).trans c6;have hlW:w.heap.size<W2.heap.size:=aw c6';have HC2:Hi (W2.heap[w.heap.size]? =U (C #[I J v,Y s,Y n,Y f,Y t,Y k,S ma ms.length mc] 68 (0,0))):=ax HC1 hBW0;generalize w1.heap.size+1=gb at HOW ⊢;clear hO0 hO1 hBW0 hW2 hvc hsz c0 c1 c2 c3 c4 c5 c6 hl1 hcv hwr hv0 hv1 HKA HB1 HC1;by_cases hm0:ms.length=0
 ·have hm0':((ms.length:Nat):Int)=0:=O;have HO1:Hi ((W2.alloc (C #[I J 15,Y ⟨#[]⟩,I J 0,I J 0] 60)).ownsRow w.heap.size 60 4 (S (U (D gb 0 Z)) 9 9) 9 (bG (jX v s n pr f t k))):=HOW.alloc _;go_wp2_with (at_builtin;refine wpList_append_lies _ X (.tmp 45) (.tmp 47) 39 X w.heap.size 60 i0 fA 4 40 underlying39 hi0 hz0 hz1 hz2 X Dc (S (U (D gb 0 Z)) 9 9) 9 (bG (jX v s n pr f t k)) X HO1 (D W2.heap.size 0 Z) 1 1 (⟨15,bh,0,0⟩:Vl).cells X X (World.news_of_block (aA W2 _)) (by intro u hu;unfold Vl.cells at hu;simp at hu;rcases hu with rfl|rfl|rfl|rfl<;>rfl) Dc Dc Dc So (W2.heap.size+1) Sq ?_;intro g cap w3 h1 h2 h3 h4;have HO3:=bF h1;have HG3:=bF h2;clear h1 h2 h3 h4);go_ret;have hbW:=HBW.alloc HBW.size (C #[I J 15,Y ⟨#[]⟩,I J 0,I J 0] 60);have htr:(ctOf v s n pr f t k ms).tree=jX v s n pr f t k++[⟨15,bh,0,0⟩]:=by unfold ctOf CT.tree sS;rw[aG hm0];rfl
  refine⟨hbW.grown HG3 hbW.size (fun q hq=>(HO1.lt q hq).1),pr,U (D g 0 Z),cap,HPR,by rw[htr];rfl,?_⟩;rw[htr,iR];exact HO3
 have hm0':¬(((ms.length:Nat):Int)=0):=O;have hmb:decide (((ms.length:Nat):Int)=0)=false:=aE hm0';have HO1:Hi ((W2.alloc (C #[I J 11,Y ⟨#[]⟩,I J 0,I J ms.length] 60)).ownsRow w.heap.size 60 4 (S (U (D gb 0 Z)) 9 9) 9 (bG (jX v s n pr f t k))):=HOW.alloc _;go_upto_region 6 with(at_builtin;refine wpList_append_lies _ X (.tmp 49) (.tmp 54) 39 X w.heap.size 60 i0 fA 4 40 underlying39 hi0 hz0 hz1 hz2 X Dc (S (U (D gb 0 Z)) 9 9) 9 (bG (jX v s n pr f t k)) X HO1 (D W2.heap.size 0 Z) 1 1 (⟨11,bh,0,ms.length⟩:Vl).cells X X (World.news_of_block (aA W2 _)) (by intro u hu;unfold Vl.cells at hu;simp at hu;rcases hu with rfl|rfl|rfl|rfl<;>rfl) Dc Dc Dc So (W2.heap.size+1) Sq ?_;intro g cap w3 h1 h2 h3 h4;have HO3:=bF h1;have HG3:=bF h2;clear h1 h2 h3 h4);have hbW:=HBW.alloc HBW.size (C #[I J 11,Y ⟨#[]⟩,I J 0,I J ms.length] 60);have HB3:Hi (H w.heap.size w w3):=hbW.grown HG3 hbW.size (fun q hq=>(HO1.lt q hq).1);have hC3:w3.heap[w.heap.size]? =U (C #[I J v,Y s,Y n,Y f,Y t,Y k,S ma ms.length mc] 68 (0,0)):=by have hCa:=ax HC2 ((By).alloc Ln (C #[I J 11,Y ⟨#[]⟩,I J 0,I J ms.length] 60));rw[HG3.block _ (bm hCa) (fun q=>cJ hCa HO1 Dc q.symm)];exact hCa
 have c63:w3.cell? (D w.heap.size 6 Z)=U (S ma ms.length mc):=by simp[Wc,hC3]
 have hl3:w.heap.size<w3.heap.size:=aw c63;have HO3':Hi (w3.ownsRow w.heap.size 60 4 (S (U (D g 0 Z)) 10 cap) 10 (bG (jX v s n pr f t k++[⟨11,bh,0,ms.length⟩]))):=by show w3.ownsRow _ _ _ _ _ _;rw[iR];exact HO3
 clear hbW hC3 HO3 HG3 HO1 HC2 HOW HBW c6' hlW;go_wp2;go_loopw [5,59] (fun v5 vi wr=>∃j:Nat,j<=ms.length/\vi=I J j/\H w.heap.size w wr/\wr.ownsRow w.heap.size 60 4 v5 (10+j*4) (bG (jX v s n pr f t k++[⟨11,bh,0,ms.length⟩]++(ms.take j).flatMap fun m=>fG (i6 m)))) (fun _ vi _=>ms.length-(Io vi).toNat);case atStart=>exact⟨0,Lz,X,HB3,by rw[List.take_zero,List.flatMap_nil,pS];exact HO3'⟩
 obtain⟨j,hj,rfl,hbr,hor⟩:=hrel;have HBR:=bF hbr;have HOR:=bF hor;clear hbr hor;by_cases hlt:j<ms.length
 ·have hlt':(j:Int)<ms.length:=O;obtain⟨g1,o1,rfl,c0,c1,c2⟩:=HI j hlt;have htk:ms.take (j+1)=ms.take j++[ms.getD j iy]:=by rw[eB,aC hlt,aB,aC hlt];rfl
  have HTK:=bF htk;obtain⟨m,hm⟩:∃m,ms.getD j iy=m:=Ey;rw[hm]at c0 c1 c2 HTK;have d0:wr.cell? (D g1 (o1+j*3) Z)=U (Y m.kind):=(HBR.cell (aw c0)).trans c0;have d1:wr.cell? (D g1 (o1+j*3+1) Z)=U (Bo m.must):=(HBR.cell (aw c1)).trans c1;have d2:wr.cell? (D g1 (o1+j*3+2) Z)=U (Y m.body):=(HBR.cell (aw c2)).trans c2;have hgl:g1<wr.heap.size:=aw d0;clear c0 c1 c2 hm htk;go_upto_region 9 with fail;have HOA:Hi ((wr.alloc (C #[Y m.kind,Bo m.must,Y m.body] 73)).ownsRow w.heap.size 60 4 u5 (10+j*4) (bG (jX v s n pr f t k++[⟨11,bh,0,ms.length⟩]++(ms.take j).flatMap fun m=>fG (i6 m)))):=HOR.alloc _;have HBA:Hi (H w.heap.size w (wr.alloc (C #[Y m.kind,Bo m.must,Y m.body] 73))):=HBR.alloc HBR.size _;have hXA:(wr.alloc (C #[Y m.kind,Bo m.must,Y m.body] 73)).heap[wr.heap.size]? =U (C #[Y m.kind,Bo m.must,Y m.body] 73 (0,0)):=aA wr _;generalize(wr.alloc (C #[Y m.kind,Bo m.must,Y m.body] 73))=w2 at HOA HBA hXA ⊢;generalize wr.heap.size=mb at hXA ⊢;have x0:w2.cell? (D mb 0 Z)=U (Y m.kind):=by simp[Wc,hXA]
  have x1:w2.cell? (D mb 1 Z)=U (Bo m.must):=by simp[Wc,hXA]
  have x2:w2.cell? (D mb 2 Z)=U (Y m.body):=by simp[Wc,hXA]
  have hml:mb<w2.heap.size:=aw x0;clear d0 d1 d2 hgl HOR HBR;have HXA:=bF hXA;have KP:Hi (w2.drew.cell? (D mb 0 Z)=U (Y m.kind)/\w2.drew.cell? (D mb 1 Z)=U (Bo m.must)/\w2.drew.cell? (D mb 2 Z)=U (Y m.body)):=⟨x0,x1,x2⟩;clear hXA
  go_region_held_law (fun w'=>w'.cell? (D mb 0 Z)=U (Y m.kind)/\w'.cell? (D mb 1 Z)=U (Bo m.must)/\w'.cell? (D mb 2 Z)=U (Y m.body)) (first|exact KP|go_keep) (first
   |(go_at_call 136;refine(HBT _ _).mono ?_;rintro e wz ⟨rfl,rfl⟩)
   |(refine step_append_lies _ X (.tmp 63) (.tmp 75) 39 X w.heap.size 60 i0 fA 4 40 underlying39 hi0 hz0 hz1 hz2 X Dc u5 (10+j*4) (bG (jX v s n pr f t k++[⟨11,bh,0,ms.length⟩]++(ms.take j).flatMap fun m=>fG (i6 m))) (by simp[Ae,Ap]) ((HOA.out.alloc _).drew) ⟨w2.heap.size,0,Z⟩ 4 4 (bG (fG (i6 m))) (by simp[Ae,Ap]) X (World.news_of_block (w:=(w2.alloc (C #[I J 10,Y ⟨#[]⟩,I J 0,I J 3,I J 4,Y m.kind,I J 0,I J 0,I J 1,Y (bT m.must),I J 0,I J 0,I J 6,Y m.body,I J 0,I J 0] 60)).drew) (aA w2 (C #[I J 10,Y ⟨#[]⟩,I J 0,I J 3,I J 4,Y m.kind,I J 0,I J 0,I J 1,Y (bT m.must),I J 0,I J 0,I J 6,Y m.body,I J 0,I J 0] 60))) (by intro u hu;unfold bG fG i6 Vl.cells at hu;simp at hu;rcases hu with rfl|rfl|rfl|rfl|rfl|rfl|rfl|rfl|rfl|rfl|rfl|rfl|rfl|rfl|rfl|rfl<;>rfl) Dc (by unfold maxLen;omega) O (by have:=HBA.out.size;simp;omega) (w2.heap.size+1) Sq ?_;intro g4 cap4 w4 h1 h2 h3 h4;have HO4:=bF h1;have HG4:=bF h2;have hXw:=ax HXA.out ((By).alloc Ln (C #[I J 10,Y ⟨#[]⟩,I J 0,I J 3,I J 4,Y m.kind,I J 0,I J 0,I J 1,Y (bT m.must),I J 0,I J 0,I J 6,Y m.body,I J 0,I J 0] 60));have hX4:w4.heap[mb]? =U (C #[Y m.kind,Bo m.must,Y m.body] 73 (0,0)):=(HG4.out.block mb (bm hXw) (fun q=>cJ hXw (HOA.out.alloc _) Dc q.symm)).trans hXw;have y0:w4.cell? ⟨mb,0,Z⟩=U (Y m.kind):=by {simp[Wc,hX4]};have y1:w4.cell? ⟨mb,1,Z⟩=U (Bo m.must):=by {simp[Wc,hX4]};have y2:w4.cell? ⟨mb,2,Z⟩=U (Y m.body):=by {simp[Wc,hX4]};clear h1 h2 h3 hXw hX4))
  have hbD:=(HBA.alloc HBA.size (C #[I J 10,Y ⟨#[]⟩,I J 0,I J 3,I J 4,Y m.kind,I J 0,I J 0,I J 1,Y (bT m.must),I J 0,I J 0,I J 6,Y m.body,I J 0,I J 0] 60)).drew;have HB4:Hi (H w.heap.size w w4):=hbD.grown HG4 hbD.size (fun q hq=>((HOA.alloc (C #[I J 10,Y ⟨#[]⟩,I J 0,I J 3,I J 4,Y m.kind,I J 0,I J 0,I J 1,Y (bT m.must),I J 0,I J 0,I J 6,Y m.body,I J 0,I J 0] 60)).drew.lt q hq).1);clear hbD HOA HG4;go_wp2;go_roundw;case rel=>refine⟨j+1,O,Gn,HB4,?_⟩;rw[HTK,List.flatMap_append,<-bE,iR];have q:=HO4.out;rw[show 10+(j+1)*4=10+j*4+4 by omega];simpa using q
  case measure=>exact Ms
 have hlt':(ms.length:Int)<=j:=O;obtain rfl:j=ms.length:=O;have htr:(ctOf v s n pr f t k ms).tree=jX v s n pr f t k++[⟨11,bh,0,ms.length⟩]++(ms.take ms.length).flatMap fun m=>fG (i6 m):=by unfold ctOf CT.tree sS;rw[G hm0,gG];unfold jf;simp only[bY,bE,List.singleton_append,List.flatMap_map]
 have hlt2:(ctOf v s n pr f t k ms).tree.length=10+ms.length*4:=by have:=HOR.out.1;rw[<-htr,jJ]at this;omega
 obtain⟨ta,tc,rfl,_⟩:=fL HOR;go_wp2;go_ret;refine⟨HBR,pr,ta,tc,HPR,by rw[hlt2];rfl,?_⟩;rw[hlt2,htr];exact HOR
theorem Bd(E:cw)(W:M)(R:Nat)(a:Oo Ad)(c f:Nat)(hc:RC E W a)(hdv:j0 E)(hN:kv E W R a c f):kv E W R a c (f+1):=by
 intro i x y dp o tree p w hm hi hxy hy hd1 hd2 hroom hI;have HER:Hi (ku o):=jn _ _ _ _ _ _ hm;have HB:Hi (ET E W R a c f):=Cr E W R a c f hc hdv hN;have HC:Hi (RC E W a):=hc;have HI:Hi (dk W w R a E.s.length c E.d tree 0 p):=hI;have HRO:Hi (du tree (f+1) x y):=hroom;have hRl:R<w.heap.size:=aw hI.r0;have hk:=fu hc.right.2.2.1 i hi;have HK:Hi (1<=(nd E.s i).kind):=hk.1;have hs40:=hc.right.fine.len;have h4k:=hc.size;obtain⟨ab,ao,ka,kc,rfl,hnc,hkc,hkm,hka⟩:=hc.sch i hi;have HKI:Hi (be W ka (nd E.s i).kids):=hka;obtain⟨n0,n1,n2,n3⟩:=hnc.below hI.bel;have r0:=hI.r0;have hi':(i:Int)<E.s.length:=O;have HOW:Hi (∀wq,Cs prog 103 #[I J (nd E.s i).kind] wq fun e w'=>e=Rt (I J (jd (nd E.s i).kind))/\H wq.heap.size wq w'):=fun wq=>CW _ O wq;have RUN0:Hi (∀args w,(callFunc 103 args).run prog w= .ok (.enter 103 args) w):=fun args w=>eY func103 Kr Rf args w;have RUN1:Hi (∀args w,(callFunc 102 args).run prog w= .ok (.enter 102 args) w):=fun args w=>eY func102 Kr Rf args w;obtain⟨ag,hG⟩:∃ag,hd (E.d.extract x y)=ag:=Ey;have hEG:E.hd x y=ag:=hG;rw[dJ,hEG]at hm;have HM:Hi ((if ag.1≠0 then U (.error (ag.1,(x:Int)))else iQ E (dJ E f) f i ag.2 x (iH x ag.2) dp)=U o):=hm;have HRH:Hi (∀(x y:Nat) (ge gc:Int) (gb:Bool) (gn gs gl:Int) (wq:M),hd (E.d.extract x y)=(ge,⟨gc,gb,gn,gs,gl⟩)->x<=y->y<=E.d.size->dk W wq R (U (D ab ao Z)) E.s.length c E.d tree 0 p->Cs prog 101 #[Po (U (D R 0 Z)),I J x,I J y] wq fun e w'=>e=Rt (Ag #[I J gc,Bo gb,I J gn,I J gs,I J gl])/\dk W w' R (U (D ab ao Z)) E.s.length c E.d tree ge (if ge=0 then p else x)/\Fr R wq w'):=fun x y ge gc gb gn gs gl wq hG h1 h2 q=>by have:=jG W wq R (U (D ab ao Z)) E.s.length c E.d tree p x y q h1 h2 O;rw[hG]at this;exact this
 have HEG:Hi (E.hd x y=ag):=hEG;have HGH:Hi (hd (E.d.extract x y)=ag):=hG;have HNB:Hi (∀A,dk W (w.alloc A) R (U (D ab ao Z)) E.s.length c E.d tree 0 p/\Fr R w (w.alloc A)):=fun A=>⟨hI.below Be,Fr.of_below Be⟩;clear hc hdv hN hI hroom hnc hka hm hEG hG hk hi;obtain⟨ge,gc,gb,gn,gs,gl⟩:=ag;simp only at HM;go_enter func69,ntmps69;go_wp2_with fail;refine(HRH x y ge gc gb gn gs gl _ HGH hxy hy (HNB _).1).mono ?_;rintro e w2 ⟨rfl,hI2,hf2⟩;have HF2:Hi (Fr R w w2):=(HNB _).2.trans hf2;have HG2:Hi (w2.heap[w.heap.size]? =U (C #[I J (nd E.s i).kind,I J (nd E.s i).tag,I J (nd E.s i).mode,S ka (nd E.s i).kids.length kc] 58 (0,0))):=hf2 _ _ _ O Dc (aA w _);clear n0 n1 n2 n3 r0 hf2;have hw2:w.heap.size<w2.heap.size:=bm HG2;by_cases hge:ge=0
 ·subst hge;rw[aG rfl]at hI2;have HI2:Hi (dk W w2 R (U (D ab ao Z)) E.s.length c E.d tree 0 p):=hI2;have hfin:=dZ (E:=E) (x:=x) (y:=y) (by rw[HEG.out]);have hfi:=ix (E:=E) (x:=x) (y:=y) (by rw[HEG.out]);have hok:=i3 (r:=E.d.extract x y) (by rw[HGH.out]);rw[HGH.out]at hok;rw[HEG.out]at hfin hfi;unfold iH at hfin hfi;simp only at hfin hfi hok;obtain⟨z,rfl⟩:∃z:Nat,gs=z:=⟨gs.toNat,O⟩;obtain⟨l,rfl⟩:∃l:Nat,gl=l:=⟨gl.toNat,O⟩;simp only[br]at hfin hfi;have HMV:Hi (iQ E (dJ E f) f i ⟨gc,gb,gn,(z:Int),(l:Int)⟩ x (x+z+l) dp=U o):=by show iQ _ _ _ _ _ _ _ _=_;have:=HM.out;rw[G Dc]at this;unfold iH at this;simpa only[br]using this
  clear HM hfi hok hI2;have s3:=HI2.out.r3;have hb1:(x:Int)+z<=140737488355328:=O;have hb2:(x:Int)+z+l<=140737488355328:=O;have hR2:R<w2.heap.size:=aw s3;have HI3:Hi (dk W (w2.alloc (C #[I J gc,Bo gb,I J gn,I J z,I J l] 179)) R (U (D ab ao Z)) E.s.length c E.d tree 0 p):=HI2.below Be;have HF3:Hi (Fr R w (w2.alloc (C #[I J gc,Bo gb,I J gn,I J z,I J l] 179))):=HF2.below Be;have HG3:Hi ((w2.alloc (C #[I J gc,Bo gb,I J gn,I J z,I J l] 179)).heap[w.heap.size]? =U (C #[I J (nd E.s i).kind,I J (nd E.s i).tag,I J (nd E.s i).mode,S ka (nd E.s i).kids.length kc] 58 (0,0))):=ax HG2 Be;have HH3:Hi ((w2.alloc (C #[I J gc,Bo gb,I J gn,I J z,I J l] 179)).heap[w2.heap.size]? =U (C #[I J gc,Bo gb,I J gn,I J z,I J l] 179 (0,0))):=aA w2 _;have HSS:Hi (∀w':M,w'.heap[w.heap.size]? =U (C #[I J (nd E.s i).kind,I J (nd E.s i).tag,I J (nd E.s i).mode,S ka (nd E.s i).kids.length kc] 58 (0,0))->w'.heap[w2.heap.size]? =U (C #[I J gc,Bo gb,I J gn,I J z,I J l] 179 (0,0))->w'.cell? (D w.heap.size 0 Z)=U (I J (nd E.s i).kind)/\w'.cell? (D w.heap.size 1 Z)=U (I J (nd E.s i).tag)/\w'.cell? (D w.heap.size 2 Z)=U (I J (nd E.s i).mode)/\w'.cell? (D w.heap.size 3 Z)=U (S ka (nd E.s i).kids.length kc)/\w'.cell? (D w2.heap.size 0 Z)=U (I J gc)/\w'.cell? (D w2.heap.size 1 Z)=U (Bo gb)/\w'.cell? (D w2.heap.size 2 Z)=U (I J gn)/\w'.cell? (D w2.heap.size 3 Z)=U (I J z)/\w'.cell? (D w2.heap.size 4 Z)=U (I J l)):=fun w' q1 q2=>⟨cell_of_row q1 X,cell_of_row q1 X,cell_of_row q1 X,cell_of_row q1 X,cell_of_row q2 X,cell_of_row q2 X,cell_of_row q2 X,cell_of_row q2 X,cell_of_row q2 X⟩;have HBD:Hi (∀w3,H (w2.alloc (C #[I J gc,Bo gb,I J gn,I J z,I J l] 179)).drew.heap.size (w2.alloc (C #[I J gc,Bo gb,I J gn,I J z,I J l] 179)).drew w3->dk W w3 R (U (D ab ao Z)) E.s.length c E.d tree 0 p/\Fr R w w3/\w3.heap[w.heap.size]? =U (C #[I J (nd E.s i).kind,I J (nd E.s i).tag,I J (nd E.s i).mode,S ka (nd E.s i).kids.length kc] 58 (0,0))/\w3.heap[w2.heap.size]? =U (C #[I J gc,Bo gb,I J gn,I J z,I J l] 179 (0,0))):=fun w3 q=>by have q2:H (w2.alloc (C #[I J gc,Bo gb,I J gn,I J z,I J l] 179)).heap.size (w2.alloc (C #[I J gc,Bo gb,I J gn,I J z,I J l] 179)) w3:=(Go.below_drewN By 1).trans q;exact⟨HI3.below q2,HF3.below q2,ax HG3 q2,ax HH3 q2⟩
  have n1:w2.cell? (D w.heap.size 1 Z)=U (I J (nd E.s i).tag):=cell_of_row HG2 X;have n2:w2.cell? (D w.heap.size 2 Z)=U (I J (nd E.s i).mode):=cell_of_row HG2 X;by_cases htg:(nd E.s i).tag<0
  ·(have HBB:Hi (∀wq,dk W wq R (U (D ab ao Z)) E.s.length c E.d tree 0 p->Cs prog 102 #[Po (U (D R 0 Z)),Ag #[I J (nd E.s i).kind,I J (nd E.s i).tag,I J (nd E.s i).mode,S ka (nd E.s i).kids.length kc],I J 0,I J (jd (nd E.s i).kind),Ag #[I J gc,Bo gb,I J gn,I J z,I J l],I J x,I J ((x:Int)+z+l),I J dp] wq fun e w'=>e=Rt (Tu #[])/\fh E W R (U (D ab ao Z)) c o tree p wq w'):=fun wq q=>by have hv:=HMV.out;unfold iQ at hv;rw[aG htg]at hv;rw[show(x:Int)+z+l=((x+z+l:Nat):Int)by omega];exact HB.out i ka kc _ _ gc gb gn z l x (x+z+l) dp o tree p wq O HKI.out hkc hv O O hd1 hd2 (by have:=HRO.out;unfold du at this ⊢;omega) q);(have HEND:Hi (∀vs (z':Nat),o= .ok (vs,z')->(x:Int)+z+l=z'):=fun vs z' e=>by have hv:=HMV.out;subst e;have:=rF hv;omega);go_wp2_with fail;go_region_held_law (fun w'=>w'.cell? (D w.heap.size 0 Z)=U (I J (nd E.s i).kind)/\w'.cell? (D w.heap.size 1 Z)=U (I J (nd E.s i).tag)/\w'.cell? (D w.heap.size 2 Z)=U (I J (nd E.s i).mode)/\w'.cell? (D w.heap.size 3 Z)=U (S ka (nd E.s i).kids.length kc)/\w'.cell? (D w2.heap.size 0 Z)=U (I J gc)/\w'.cell? (D w2.heap.size 1 Z)=U (Bo gb)/\w'.cell? (D w2.heap.size 2 Z)=U (I J gn)/\w'.cell? (D w2.heap.size 3 Z)=U (I J z)/\w'.cell? (D w2.heap.size 4 Z)=U (I J l)) (exact HSS _ (by first|exact hG4|exact hG3|exact HG3) (by first|exact hH4|exact hH3|exact HH3)) (first|(go_at_call 103;refine(HOW _).mono ?_;rintro e w3 ⟨rfl,hb3⟩;obtain⟨hI3,hF3,hG3,hH3⟩:=HBD _ hb3;clear hb3)|(go_at_call 102;refine(HBB _ hI3).mono ?_;rintro e w4 ⟨rfl,ha4⟩;have hA4:=ha4.of hF3;obtain⟨_,_,_,_,_,hF4⟩:=ha4;have hG4:=hF4 _ _ _ O Dc hG3;have hH4:=hF4 _ _ _ O Dc hH3;clear hF4));have HA4:=aN hA4;clear hA4 hG4 hH4 hI3 hF3 hG3 hH3;go_wp2;go_ret;exact⟨_,X,HA4,HEND⟩
  have htg':(0:Int)<=(nd E.s i).tag:=O;have HEND:Hi (∀vs (z':Nat),o= .ok (vs,z')->(x:Int)+z+l=z'):=fun vs z' e=>by have hv:=HMV.out;subst e;have:=rF hv;omega
  by_cases hmd:(nd E.s i).mode=0
  ·(have hmd':((nd E.s i).mode==0)=true:=by simp[hmd]);(have HBB:Hi (∀wq,dk W wq R (U (D ab ao Z)) E.s.length c E.d tree 0 p->Cs prog 102 #[Po (U (D R 0 Z)),Ag #[I J (nd E.s i).kind,I J (nd E.s i).tag,I J (nd E.s i).mode,S ka (nd E.s i).kids.length kc],I J 2,I J (nd E.s i).tag,Ag #[I J gc,Bo gb,I J gn,I J z,I J l],I J x,I J ((x:Int)+z+l),I J dp] wq fun e w'=>e=Rt (Tu #[])/\fh E W R (U (D ab ao Z)) c o tree p wq w'):=fun wq q=>by have hv:=HMV.out;unfold iQ at hv;rw[G htg,aG hmd]at hv;rw[show(x:Int)+z+l=((x+z+l:Nat):Int)by omega];exact HB.out i ka kc _ _ gc gb gn z l x (x+z+l) dp o tree p wq O HKI.out hkc hv O O hd1 hd2 (by have:=HRO.out;unfold du at this ⊢;omega) q);have m0:w2.cell? (D w.heap.size 0 Z)=U (I J (nd E.s i).kind):=cell_of_row HG2 X;have m3:w2.cell? (D w.heap.size 3 Z)=U (S ka (nd E.s i).kids.length kc):=cell_of_row HG2 X;clear hmd htg;go_wp2_with fail;refine(HBB _ HI3).mono ?_;rintro e w4 ⟨rfl,ha4⟩;have HA4:Hi (fh E W R (U (D ab ao Z)) c o tree p w w4):=ha4.of HF3;clear ha4;go_wp2;go_ret;exact⟨_,X,HA4,HEND⟩
  have hmd':((nd E.s i).mode==0)=false:=by simp[hmd]
  have hv:=HMV.out;unfold iQ at hv;rw[G htg,G hmd]at hv;simp only[br]at hv;clear hmd htg;by_cases q:gc=2/\gn=(nd E.s i).tag/\gb=true
  ·rw[G (fun h=>h q)]at hv;obtain⟨rfl,hgn,rfl⟩:=q;(have hgn':(gn !=(nd E.s i).tag)=false:=by simp[hgn]);clear hgn;by_cases hdp:12<dp
   ·rw[aG hdp]at hv;have HOE:Hi (o= .error (10,(x:Int))):=(aK hv).symm;clear hv;go_wp2_with fail;refine(bO W _ R (U (D ab ao Z)) E.s.length c E.d tree p 10 x HI3).mono ?_;rintro e w4 ⟨rfl,hI4,hoth⟩;have HI4:Hi (dk W w4 R (U (D ab ao Z)) E.s.length c E.d tree 10 x):=hI4;have HF4:Hi (Fr R w w4):=HF3.trans (Fr.of_same hoth);clear hI4 hoth;go_wp2;go_ret;exact⟨_,X,⟨tree,10,x,HI4,jW HER HOE _ _ _,HF4⟩,fun vs z' e=>by rw[HOE.out]at e;cases e⟩
   rw[G hdp]at hv;have hd':dp<=12:=O;obtain⟨G2,hG2⟩:∃ag,hd (E.d.extract (x+z) (x+z+l))=ag:=Ey;have hEG2:E.hd (x+z) (x+z+l)=G2:=hG2;rw[hEG2]at hv;obtain⟨ke,kc2,kb2,kn2,ks2,kl2⟩:=G2;have HV:Hi ((if(ke,(⟨kc2,kb2,kn2,ks2,kl2⟩:Hd)).1≠0 then U (.error ((ke,(⟨kc2,kb2,kn2,ks2,kl2⟩:Hd)).1,((x+z:Nat):Int)))else dM.andThen (cF E (dJ E f) f (nd E.s i) 0 (jd (nd E.s i).kind) ⟨kc2,kb2,kn2,ks2,kl2⟩ (x+z) (iH (x+z) ⟨kc2,kb2,kn2,ks2,kl2⟩) dp) fun vs _=>if iH (x+z) ⟨kc2,kb2,kn2,ks2,kl2⟩<x+z+l then U (.error (7,((iH (x+z) ⟨kc2,kb2,kn2,ks2,kl2⟩:Nat):Int)))else U (.ok (vs,x+z+l)))=U o):=hv;have HEG2:Hi (E.hd (x+z) (x+z+l)=(ke,⟨kc2,kb2,kn2,ks2,kl2⟩)):=hEG2;have HGH2:Hi (hd (E.d.extract (x+z) (x+z+l))=(ke,⟨kc2,kb2,kn2,ks2,kl2⟩)):=hG2;clear hv hG2 hEG2 hdp;(have HRH2:Hi (∀wq,dk W wq R (U (D ab ao Z)) E.s.length c E.d tree 0 p->Cs prog 101 #[Po (U (D R 0 Z)),I J ((x:Int)+z),I J ((x:Int)+z+l)] wq fun e w'=>e=Rt (Ag #[I J kc2,Bo kb2,I J kn2,I J ks2,I J kl2])/\dk W w' R (U (D ab ao Z)) E.s.length c E.d tree ke (if ke=0 then p else((x+z:Nat):Int))/\Fr R wq w'):=fun wq q=>by have:=HRH (x+z) (x+z+l) ke kc2 kb2 kn2 ks2 kl2 wq HGH2 O O q;rw[show((x+z+l:Nat):Int)=(x:Int)+z+l by omega,show((x+z:Nat):Int)=(x:Int)+z by omega]at this;rw[show((x+z:Nat):Int)=(x:Int)+z by omega];exact this);go_wp2_with fail;refine(HRH2 _ HI3).mono ?_;rintro e w5 ⟨rfl,hI5,hf5⟩;have HF5:Hi (Fr R w w5):=HF3.trans hf5;have HG5:Hi (w5.heap[w.heap.size]? =U (C #[I J (nd E.s i).kind,I J (nd E.s i).tag,I J (nd E.s i).mode,S ka (nd E.s i).kids.length kc] 58 (0,0))):=hf5 _ _ _ O Dc HG3;have HH5:Hi (w5.heap[w2.heap.size]? =U (C #[I J 2,Bo true,I J gn,I J z,I J l] 179 (0,0))):=hf5 _ _ _ O Dc HH3;have hw5:w2.heap.size<w5.heap.size:=bm HH5;have hR5:R<w5.heap.size:=O;have hwl5:w.heap.size<w5.heap.size:=O;clear hf5 n1 n2;have u3:w5.cell? (D w2.heap.size 3 Z)=U (I J z):=cell_of_row HH5 X;by_cases hke:ke=0
   ·subst hke;rw[aG rfl]at hI5;have hfin2:=dZ (E:=E) (x:=x+z) (y:=x+z+l) (by rw[HEG2.out]);have hok2:=i3 (r:=E.d.extract (x+z) (x+z+l)) (by rw[HGH2.out]);rw[HGH2.out]at hok2;rw[HEG2.out]at hfin2;unfold iH at hfin2;simp only at hfin2 hok2;obtain⟨z2,rfl⟩:∃z2:Nat,ks2=z2:=⟨ks2.toNat,O⟩;obtain⟨l2,rfl⟩:∃l2:Nat,kl2=l2:=⟨kl2.toNat,O⟩;simp only[br]at hfin2;(have hV2:dM.andThen (cF E (dJ E f) f (nd E.s i) 0 (jd (nd E.s i).kind) ⟨kc2,kb2,kn2,(z2:Int),(l2:Int)⟩ (x+z) (x+z+z2+l2) dp) (fun vs _=>if x+z+z2+l2<x+z+l then U (.error (7,((x+z+z2+l2:Nat):Int)))else U (.ok (vs,x+z+l)))=U o:=by have:=HV.out;rw[G (fun h=>h X)]at this;unfold iH at this;simpa only[br]using this);obtain⟨o1,ho1,hcase⟩:∃o1,cF E (dJ E f) f (nd E.s i) 0 (jd (nd E.s i).kind) ⟨kc2,kb2,kn2,(z2:Int),(l2:Int)⟩ (x+z) (x+z+z2+l2) dp=U o1/\((∃u,o1= .error u/\o= .error u)\/∃vs zz,o1= .ok (vs,zz)/\((x+z+z2+l2<x+z+l/\o= .error (7,((x+z+z2+l2:Nat):Int)))\/(¬x+z+z2+l2<x+z+l/\o= .ok (vs,x+z+l)))):=by
     rcases bJ hV2 with⟨u,h1,h2⟩|⟨vs,zz,h1,h2⟩
     ·exact⟨_,h1,.inl ⟨u,X,h2⟩⟩
     refine⟨_,h1,.inr ⟨vs,zz,X,?_⟩⟩;split at h2
     ·rename_i q;exact .inl ⟨q,(aK h2).symm⟩
     rename_i q;exact .inr ⟨q,(aK h2).symm⟩
    have HCA:Hi ((∃u,o1= .error u/\o= .error u)\/∃vs zz,o1= .ok (vs,zz)/\((x+z+z2+l2<x+z+l/\o= .error (7,((x+z+z2+l2:Nat):Int)))\/(¬x+z+z2+l2<x+z+l/\o= .ok (vs,x+z+l)))):=hcase;have HI5:Hi (dk W w5 R (U (D ab ao Z)) E.s.length c E.d tree 0 p):=hI5;have s5:=hI5.r3;have HI6:Hi (dk W (w5.alloc (C #[I J kc2,Bo kb2,I J kn2,I J z2,I J l2] 179)) R (U (D ab ao Z)) E.s.length c E.d tree 0 p):=hI5.below Be;have HF6:Hi (Fr R w (w5.alloc (C #[I J kc2,Bo kb2,I J kn2,I J z2,I J l2] 179))):=HF5.below Be;have HG6:Hi ((w5.alloc (C #[I J kc2,Bo kb2,I J kn2,I J z2,I J l2] 179)).heap[w.heap.size]? =U (C #[I J (nd E.s i).kind,I J (nd E.s i).tag,I J (nd E.s i).mode,S ka (nd E.s i).kids.length kc] 58 (0,0))):=ax HG5 Be;have HH6:Hi ((w5.alloc (C #[I J kc2,Bo kb2,I J kn2,I J z2,I J l2] 179)).heap[w2.heap.size]? =U (C #[I J 2,Bo true,I J gn,I J z,I J l] 179 (0,0))):=ax HH5 Be;have HJ6:Hi ((w5.alloc (C #[I J kc2,Bo kb2,I J kn2,I J z2,I J l2] 179)).heap[w5.heap.size]? =U (C #[I J kc2,Bo kb2,I J kn2,I J z2,I J l2] 179 (0,0))):=aA w5 _;have HSS2:Hi (∀w':M,w'.heap[w.heap.size]? =U (C #[I J (nd E.s i).kind,I J (nd E.s i).tag,I J (nd E.s i).mode,S ka (nd E.s i).kids.length kc] 58 (0,0))->w'.heap[w2.heap.size]? =U (C #[I J 2,Bo true,I J gn,I J z,I J l] 179 (0,0))->w'.heap[w5.heap.size]? =U (C #[I J kc2,Bo kb2,I J kn2,I J z2,I J l2] 179 (0,0))->w'.cell? (D w.heap.size 0 Z)=U (I J (nd E.s i).kind)/\w'.cell? (D w.heap.size 1 Z)=U (I J (nd E.s i).tag)/\w'.cell? (D w.heap.size 2 Z)=U (I J (nd E.s i).mode)/\w'.cell? (D w.heap.size 3 Z)=U (S ka (nd E.s i).kids.length kc)/\w'.cell? (D w2.heap.size 3 Z)=U (I J z)/\w'.cell? (D w5.heap.size 0 Z)=U (I J kc2)/\w'.cell? (D w5.heap.size 1 Z)=U (Bo kb2)/\w'.cell? (D w5.heap.size 2 Z)=U (I J kn2)/\w'.cell? (D w5.heap.size 3 Z)=U (I J z2)/\w'.cell? (D w5.heap.size 4 Z)=U (I J l2)):=fun w' q1 q2 q3=>⟨cell_of_row q1 X,cell_of_row q1 X,cell_of_row q1 X,cell_of_row q1 X,cell_of_row q2 X,cell_of_row q3 X,cell_of_row q3 X,cell_of_row q3 X,cell_of_row q3 X,cell_of_row q3 X⟩;(have HBD2:Hi (∀w3,H (w5.alloc (C #[I J kc2,Bo kb2,I J kn2,I J z2,I J l2] 179)).drew.heap.size (w5.alloc (C #[I J kc2,Bo kb2,I J kn2,I J z2,I J l2] 179)).drew w3->dk W w3 R (U (D ab ao Z)) E.s.length c E.d tree 0 p/\Fr R w w3/\w3.heap[w.heap.size]? =U (C #[I J (nd E.s i).kind,I J (nd E.s i).tag,I J (nd E.s i).mode,S ka (nd E.s i).kids.length kc] 58 (0,0))/\w3.heap[w2.heap.size]? =U (C #[I J 2,Bo true,I J gn,I J z,I J l] 179 (0,0))/\w3.heap[w5.heap.size]? =U (C #[I J kc2,Bo kb2,I J kn2,I J z2,I J l2] 179 (0,0))):=fun w3 q=>by have q2:H (w5.alloc (C #[I J kc2,Bo kb2,I J kn2,I J z2,I J l2] 179)).heap.size (w5.alloc (C #[I J kc2,Bo kb2,I J kn2,I J z2,I J l2] 179)) w3:=(Go.below_drewN By 1).trans q;exact⟨HI6.below q2,HF6.below q2,ax HG6 q2,ax HH6 q2,ax HJ6 q2⟩);(have HBB:Hi (∀wq,dk W wq R (U (D ab ao Z)) E.s.length c E.d tree 0 p->Cs prog 102 #[Po (U (D R 0 Z)),Ag #[I J (nd E.s i).kind,I J (nd E.s i).tag,I J (nd E.s i).mode,S ka (nd E.s i).kids.length kc],I J 0,I J (jd (nd E.s i).kind),Ag #[I J kc2,Bo kb2,I J kn2,I J z2,I J l2],I J ((x:Int)+z),I J ((x:Int)+z+z2+l2),I J dp] wq fun e w'=>e=Rt (Tu #[])/\fh E W R (U (D ab ao Z)) c o1 tree p wq w'):=fun wq q=>by rw[show(x:Int)+z+z2+l2=((x+z+z2+l2:Nat):Int)by omega,show(x:Int)+z=((x+z:Nat):Int)by omega];exact HB.out i ka kc _ _ kc2 kb2 kn2 z2 l2 (x+z) (x+z+z2+l2) dp o1 tree p wq O HKI.out hkc ho1 O O hd1 hd2 (by have:=HRO.out;unfold du at this ⊢;omega) q);have HWR:Hi (IntKind.i64.wrap ((x:Int)+z)=(x:Int)+z):=ik _ O O;have hb3:(x:Int)+z+z2<=140737488355328:=O;have hb4:(x:Int)+z+z2+l2<=140737488355328:=O;clear hI5 hV2 ho1 hcase hok2;go_wp2_with fail;go_region_held_law (fun w'=>w'.cell? (D w.heap.size 0 Z)=U (I J (nd E.s i).kind)/\w'.cell? (D w.heap.size 1 Z)=U (I J (nd E.s i).tag)/\w'.cell? (D w.heap.size 2 Z)=U (I J (nd E.s i).mode)/\w'.cell? (D w.heap.size 3 Z)=U (S ka (nd E.s i).kids.length kc)/\w'.cell? (D w2.heap.size 3 Z)=U (I J z)/\w'.cell? (D w5.heap.size 0 Z)=U (I J kc2)/\w'.cell? (D w5.heap.size 1 Z)=U (Bo kb2)/\w'.cell? (D w5.heap.size 2 Z)=U (I J kn2)/\w'.cell? (D w5.heap.size 3 Z)=U (I J z2)/\w'.cell? (D w5.heap.size 4 Z)=U (I J l2)) (exact HSS2 _ (by first|exact hG4|exact hG3|exact HG6) (by first|exact hH4|exact hH3|exact HH6) (by first|exact hJ4|exact hJ3|exact HJ6)) (first|(go_at_call 103;refine(HOW _).mono ?_;rintro e w3 ⟨rfl,hb3⟩;obtain⟨hI3,hF3,hG3,hH3,hJ3⟩:=HBD2 _ hb3;clear hb3)|(go_at_call 102;rw[HWR.out];refine(HBB _ hI3).mono ?_;rintro e w4 ⟨rfl,ha4⟩;have hA4:=ha4.of hF3;obtain⟨_,_,_,_,_,hF4⟩:=ha4;have hG4:=hF4 _ _ _ O Dc hG3;have hH4:=hF4 _ _ _ O Dc hH3;have hJ4:=hF4 _ _ _ (by have:=bm hJ3;omega) Dc hJ3;clear hF4));obtain⟨t4,e4,p4,hI4,hO4,hF4⟩:=hA4;have HI4:Hi (dk W w4 R (U (D ab ao Z)) E.s.length c E.d t4 e4 p4):=hI4;have HF4:Hi (Fr R w w4):=hF4;have s4:=hI4.r3;clear hI4 hF4 hG4 hH4 hJ4 hI3 hF3 hG3 hH3 hJ3 s5 u3;rcases HCA with⟨u,rfl,ho⟩|⟨vs,zz,rfl,ho⟩
    ·obtain⟨u1,u2⟩:=u;obtain⟨r1,r2,r3⟩:=hO4;subst r1 r2;(have hne:(e4==0)=false:=by rw[aD];exact r3);have HOE:Hi (o= .error (e4,p4)):=ho;clear r3 ho;go_wp2;go_ret;exact⟨_,X,⟨t4,e4,p4,HI4,jW HER HOE _ _ _,HF4⟩,fun vs z' e=>by rw[HOE.out]at e;cases e⟩
    obtain⟨r1,r2,r3⟩:=hO4;subst r1 r2 r3;rcases ho with⟨hlt,ho⟩|⟨hlt,ho⟩
    ·have HOE:Hi (o= .error (7,((x+z+z2+l2:Nat):Int))):=ho;have hlt':(x:Int)+z+z2+l2<(x:Int)+z+l:=O;clear ho;go_wp2_with fail;refine(bO W _ R (U (D ab ao Z)) E.s.length c E.d _ p4 7 _ HI4).mono ?_;rintro e w6 ⟨rfl,hI6,hoth⟩;have HI7:Hi (∃t7,dk W w6 R (U (D ab ao Z)) E.s.length c E.d t7 7 ((x+z+z2+l2:Nat):Int)):=⟨_,by rw[show((x+z+z2+l2:Nat):Int)=(x:Int)+z+z2+l2 by omega];exact hI6⟩;have HF7:Hi (Fr R w w6):=HF4.trans (Fr.of_same hoth);clear hI6 hoth;go_wp2;go_ret;obtain⟨t7,h7⟩:=HI7.out;exact⟨_,X,⟨t7,7,_,h7,jW HER HOE _ _ _,HF7⟩,fun vs z' e=>by rw[HOE.out]at e;cases e⟩
    have HOE:Hi (o= .ok (vs,x+z+l)):=ho;have hlt':(x:Int)+z+l<=(x:Int)+z+z2+l2:=O;clear ho;go_wp2;go_ret;exact⟨_,X,⟨_,0,p4,HI4,by rw[HOE.out];exact⟨X,X,X⟩,HF4⟩,HEND⟩
   rw[G hke]at hI5;(have hke':(ke !=0)=true:=by simp[hke]);have s5:=hI5.r3;(have HOE:Hi (o= .error (ke,((x+z:Nat):Int))):=by have:=HV.out;rw[aG hke]at this;exact(aK this).symm);have HI6:Hi (∀A,dk W (w5.alloc A) R (U (D ab ao Z)) E.s.length c E.d tree ke ((x+z:Nat):Int)/\Fr R w (w5.alloc A)):=fun A=>⟨hI5.below Be,HF5.below Be⟩;clear hI5 hke;go_wp2;go_ret;exact⟨_,X,⟨tree,ke,_,(HI6 _).1,jW HER HOE _ _ _,(HI6 _).2⟩,fun vs z' e=>by rw[HOE.out]at e;cases e⟩
  rw[aG q]at hv;have HOE:Hi (o= .error (4,(x:Int))):=(aK hv).symm;have q':(gc !=2)=true\/((gc !=2)=false/\(gn !=(nd E.s i).tag)=true)\/((gc !=2)=false/\(gn !=(nd E.s i).tag)=false/\gb=false):=by
   by_cases q1:gc=2
   ·by_cases q2:gn=(nd E.s i).tag
    ·right;right;refine⟨by simp[q1],by simp[q2],?_⟩;cases gb
     ·rfl
     exact Ab ⟨q1,q2,X⟩ q
    right;left;exact⟨by simp[q1],by simp[q2]⟩
   left;simp[q1]
  clear hv q;rcases q' with e1|⟨e1,e2⟩|⟨e1,e2,rfl⟩;all_goals go_wp2_with fail;refine(bO W _ R (U (D ab ao Z)) E.s.length c E.d tree p 4 x HI3).mono ?_;rintro e w4 ⟨rfl,hI4,hoth⟩;have HI4:Hi (dk W w4 R (U (D ab ao Z)) E.s.length c E.d tree 4 x):=hI4;have HF4:Hi (Fr R w w4):=HF3.trans (Fr.of_same hoth);clear hI4 hoth;go_wp2;go_ret;exact⟨_,X,⟨tree,4,x,HI4,jW HER HOE _ _ _,HF4⟩,fun vs z' e=>by rw[HOE.out]at e;cases e⟩
 rw[G hge]at hI2;have hge':(ge !=0)=true:=by simp[hge]
 have s3:=hI2.r3;have hR2:R<w2.heap.size:=aw s3;have HOE:Hi (o= .error (ge,(x:Int))):=by have:=HM.out;rw[aG hge]at this;exact(aK this).symm
 have HI6:Hi (∀A,dk W (w2.alloc A) R (U (D ab ao Z)) E.s.length c E.d tree ge x/\Fr R w (w2.alloc A)):=fun A=>⟨hI2.below Be,HF2.below Be⟩;clear hI2 hge;go_wp2;go_ret;exact⟨_,X,⟨tree,ge,_,(HI6 _).1,jW HER HOE _ _ _,(HI6 _).2⟩,fun vs z' e=>by rw[HOE.out]at e;cases e⟩
theorem wE(E:cw)(W:M)(R:Nat)(a:Oo Ad)(c:Nat)(hc:RC E W a)(hdv:j0 E):∀f,kv E W R a c f
 |0=>by intro i x y dp o tree p w hm;cases hm
 |f+1=>Bd E W R a c f hc hdv (wE E W R a c hc hdv f)
theorem tp(E:cw)(a:Oo Ad)(c f root:Nat)(w:M)(hc:RC E w a)(hdv:j0 E)(hr:root<E.s.length)(hf:f<=100000000)(v:Except (Int×Int) (Ls Vl))(hv:eI E f root=U v):Cs prog 39 #[S a E.s.length c,I J root,Y E.d] w fun e w'=>pW v w e w':=by
 have h4k:=hc.size;have HI:Hi (dk w (w.alloc (eh a E.s.length c E.d (S Z 0 0) 0 0)) w.heap.size a E.s.length c E.d [] 0 0):=⟨Be,Ln,_,aA w _,bX _ _ _ _⟩;obtain⟨o,ho,hcase⟩:∃o,dJ E f root 0 E.d.size 1=U o/\((∃u,o= .error u/\v= .error u)\/∃vs z,o= .ok (vs,z)/\((z<E.d.size/\v= .error (7,(z:Int)))\/(¬z<E.d.size/\v= .ok vs))):=by
  unfold eI at hv;rcases bJ hv with⟨u,h1,h2⟩|⟨vs,z,h1,h2⟩
  ·exact⟨_,h1,.inl ⟨u,X,h2⟩⟩
  refine⟨_,h1,.inr ⟨vs,z,X,?_⟩⟩;split at h2
  ·rename_i q;exact .inl ⟨q,(aK h2).symm⟩
  rename_i q;exact .inr ⟨q,(aK h2).symm⟩
 have hne:=jn _ _ _ _ _ _ ho;have HER:Hi _:=hne;have HN:Hi (Cs prog 69 #[Po (U (D w.heap.size 0 Z)),I J root,I J 0,I J E.d.size,I J 1] (w.alloc (eh a E.s.length c E.d (S Z 0 0) 0 0)) fun e w'=>∃v:Int,e=Rt (I J v)/\fh E w w.heap.size a c o [] 0 (w.alloc (eh a E.s.length c E.d (S Z 0 0) 0 0)) w'/\∀vs z,o= .ok (vs,z)->v=z):=wE E w w.heap.size a c hc hdv f root 0 E.d.size 1 o [] 0 _ ho hr Lz Ln Dc Dc (by unfold du;simp only[bD];omega) HI;have HCA:Hi _:=hcase;clear hc hdv hv ho hcase hne;unfold eh at HN;go_enter func39,ntmps39;go_wp2_with fail;refine HN.mono ?_;rintro e w1 ⟨nx,rfl,⟨t1,e1,p1,hI1,hO1,_⟩,hz⟩;have HI1:Hi _:=hI1;obtain⟨_,_,vt,hr1,ho1⟩:=hI1;have HO:Hi _:=ho1;unfold eh at hr1;have c2:w1.cell? (D w.heap.size 2 Z)=U vt:=by simp[Wc,hr1]
 have c3:w1.cell? (D w.heap.size 3 Z)=U (I J e1):=by simp[Wc,hr1]
 have c4:w1.cell? (D w.heap.size 4 Z)=U (I J p1):=by simp[Wc,hr1]
 clear hr1 ho1 HN HI;rcases HCA with⟨u,rfl,hv⟩|⟨vs,z,rfl,hv⟩
 ·obtain⟨u1,u2⟩:=u;obtain⟨r1,r2,r3⟩:=hO1;subst r1 r2;have hne:(e1==0)=false:=by rw[aD];exact r3
  have hne':(e1 !=0)=true:=by rw[ct];exact r3
  have HV:Hi _:=hv;clear r3 hv hz;go_wp2;go_quiet (fail);go_wp2;refine aS (v:=Tu #[S Z 0 0,I J p1,I J e1]) (by simp[results,results39,go_sem]) X ?_;rw[HV.out];exact⟨Go.below_drewN HI1.bel _,X⟩
 obtain⟨r1,r2,r3⟩:=hO1;subst r1 r3;have r2':vs=t1:=by simpa using r2.symm
 clear r2;subst r2';obtain rfl:nx=(z:Int):=hz vs z X;rcases hv with⟨hlt,hv⟩|⟨hlt,hv⟩
 ·have HV:Hi _:=hv;have hlt':(z:Int)<E.d.size:=O;clear hv hz;go_wp2_with fail;refine(bO w _ w.heap.size a E.s.length c E.d _ 0 7 z HI1).mono ?_;rintro e w2 ⟨rfl,hI2,_⟩;have HI2:Hi _:=hI2;obtain⟨_,_,vt2,hr2,_⟩:=hI2;unfold eh at hr2;have d3:w2.cell? (D w.heap.size 3 Z)=U (I J 7):=by simp[Wc,hr2]
  have d4:w2.cell? (D w.heap.size 4 Z)=U (I J z):=by simp[Wc,hr2]
  clear hr2 c2 c3 c4;go_wp2;go_quiet (fail);go_wp2;refine aS (v:=Tu #[S Z 0 0,I J z,I J 7]) (by simp[results,results39,go_sem]) X ?_;rw[HV.out];exact⟨Go.below_drewN HI2.bel _,X⟩
 have HV:Hi _:=hv;have hlt':(E.d.size:Int)<=z:=O;have HO2:Hi _:=HO.out;obtain⟨ta,tc,hvt⟩:∃ta tc,vt=S ta vs.length tc:=by
  rcases HO2.2 with⟨q,q'⟩|⟨g,cap,cur,q,_⟩
  ·exact⟨Z,0,by rw[q,q']⟩
  exact⟨_,cap,q⟩
 have c2':w1.cell? (D w.heap.size 2 Z)=U (S ta vs.length tc):=by rw[<-hvt];exact c2
 have HO3:Hi (w1.ownsRow w.heap.size 60 4 (S ta vs.length tc) vs.length (bG vs)):=by show w1.ownsRow w.heap.size 60 4 (S ta vs.length tc) vs.length (bG vs);rw[<-hvt];exact HO2
 clear hv hz c2 hvt HO HO2 hlt h4k hf hr c4;go_wp2;refine aS (v:=Tu #[S ta vs.length tc,I J 0,I J 0]) (by simp[results,results39,go_sem]) X ?_;rw[HV.out];exact⟨HI1.bel,ta,tc,X,HO3⟩
theorem wK(E:cw)(s:Ls Nd)(a:Oo Ad)(c:Nat)(root:Int)(d:Q)(v:Except (Int×Int) (Ls Vl))(w:M)(hs:ju w a s)(hok:ie s)(hn0:s.length<=140737488351232)(hdm:d.size<=9223372036854775807)(hv:my E s root d v):Cs prog 40 #[S a s.length c,I J root,Y d] w fun e w'=>pW v w e w':=by
 have HRT:Hi (Cs prog 15 #[S a s.length c] w fun e w'=>dB (cd s) w e w'):=Bq s a c w hs hok hn0;have HS:Hi (ju w a s):=hs;have HOK:Hi (ie s):=hok;have HV:Hi (my E s root d v):=hv;clear hs hok hv;go_enter func40,ntmps40;go_wp2_with fail;refine HRT.mono ?_;rintro e w1 ⟨r,rfl,hr,hb1⟩;have HR:Hi (r=true↔cd s):=hr;have HB1:Hi (H w.heap.size w w1):=hb1;clear hr hb1;have bad:∀w',H w.heap.size w w'->¬(cd s/\0<=root/\root<s.length)->pW v w (Rt (Tu #[S Z 0 0,I J 0,I J 1])) w':=fun w' hb h=>by
  rcases HV with⟨_,rfl⟩|⟨q,_⟩|⟨q,_⟩
  ·exact⟨hb,X⟩
  ·exact Ab q h
  exact Ab q h
 have BAD:=aN bad;clear bad;cases r
 ·have HNR:Hi (¬cd s):=fun q=>Bool.noConfusion (HR.2 q);go_wp2;refine aS (v:=Tu #[S Z 0 0,I J 0,I J 1]) (by simp[results,results40,go_sem]) X ?_;exact BAD _ HB1 fun q=>HNR q.1
 have HYR:Hi (cd s):=HR.1 X;by_cases h0:root<0
 ·go_wp2;refine aS (v:=Tu #[S Z 0 0,I J 0,I J 1]) (by simp[results,results40,go_sem]) X ?_;exact BAD _ HB1 fun q=>O
 have h0':0<=root:=O;by_cases h1:root<s.length
 ·by_cases h2:4000<d.size
  ·have h2':(4000:Int)<d.size:=O;go_wp2;refine aS (v:=Tu #[S Z 0 0,I J 0,I J 2]) (by simp[results,results40,go_sem]) X ?_;rcases HV with⟨q,_⟩|⟨_,_,rfl⟩|⟨_,q,_⟩
   ·exact Ab ⟨HYR,h0',h1⟩ q
   ·exact⟨HB1,X⟩
   omega
  have h2':(d.size:Int)<=4000:=O;obtain⟨hd4,hes,hed,hE,f,hf,hrd⟩:d.size<=4000/\E.s=s/\E.d=d/\gp E/\∃f,f<=1000000/\eI E f root.toNat=U v:=by
   rcases HV with⟨q,_⟩|⟨_,q,_⟩|⟨_,q⟩
   ·exact Ab ⟨HYR,h0',h1⟩ q
   ·omega
   exact q
  obtain⟨rt,rfl⟩:∃n:Nat,root=n:=⟨root.toNat,O⟩;have HRD:Hi (Cs prog 39 #[S a s.length c,I J rt,Y d] w1 fun e w'=>pW v w1 e w'):=by show Cs _ _ _ _ _;subst hes hed;exact tp E a c f rt w1 ⟨HS.below HB1,HYR,HOK,hE.bg,hE.ok,(bl hd4 Dc)⟩ hE.dv O (bl hf Dc) v (by simpa using hrd)
  clear hd4 hes hed hE hf hrd;go_wp2_with fail;refine HRD.mono ?_;rintro e w2 ⟨hb2,h2⟩;have HB2:Hi (H w.heap.size w w2):=HB1.trans (hb2.mono HB1.size);have hszw:=HB1.out.size;clear hb2
  cases v with
  |error u=>
   obtain⟨u1,u2⟩:=u
   simp only at h2
   subst h2
   go_wp2
   refine aS (v:=Tu #[S Z 0 0,I J u2,I J u1]) (by simp[results,results40,go_sem]) X ?_
   exact⟨HB2,X⟩
  |ok vs=>
   obtain⟨ta,tc,rfl,ho⟩:=h2
   have HO:Hi (w2.ownsRow w.heap.size 60 4 (S ta vs.length tc) vs.length (bG vs)):=mn ho hszw
   clear ho
   go_wp2
   refine aS (v:=Tu #[S ta vs.length tc,I J 0,I J 0]) (by simp[results,results40,go_sem]) X ?_
   exact⟨HB2,ta,tc,X,HO⟩
 have h1':(s.length:Int)<=root:=O;go_wp2;refine aS (v:=Tu #[S Z 0 0,I J 0,I J 1]) (by simp[results,results40,go_sem]) X ?_;exact BAD _ HB1 fun q=>O
end Go.Proofs.YtkkicodfpekbgaaGreatDoor
namespace Go.Proofs.YtkkicodfpekbgaaGreatDoor
theorem Du:cd uS/\xe uS:=nW (by decide+kernel)
theorem Ho:ie uS:=nZ (by decide+kernel)
theorem C7{E1 E2:cw}(hr:cd E1.s)(hs:E2.s=E1.s)(hd:E2.d=E1.d)(e1:gp E1)(e2:gp E2){f1 f2 root:Nat}(hlt:root<E1.s.length){v1 v2:Except (Int×Int) (Ls Vl)}(r1:eI E1 f1 root=U v1)(r2:eI E2 f2 root=U v2):v1=v2:=by
 have ah:=v7 hr hs hd e1 e2;unfold eI at r1 r2;rw[hd]at r2;have key:∀{E:cw} {f k:Nat} {v:Except (Int×Int) (Ls Vl)},dM.andThen (dJ E f root 0 E1.d.size 1) (fun vs z=>if z<E1.d.size then U (.error (7,z))else U (.ok vs))=U v->dM.andThen (dJ E (f+k) root 0 E1.d.size 1) (fun vs z=>if z<E1.d.size then U (.error (7,(z:Int)))else U (.ok vs))=U v:=fun {E f k v} h=>dM.andThen_le (fun u hu=>uG k f _ _ _ _ _ hu) (fun _ _ _ q=>q) h;have a1:=key (k:=f2) r1;have a2:=key (k:=f1) r2;have hiso:=uH ah (f2+f1) root hlt;rw[id]at hiso;rw[hiso,jR f2 f1,a1]at a2;exact aK a2
theorem C6{E:cw}{f root:Nat}{vs:Ls Vl}(h:eI E f root=U (.ok vs)):∃z,dJ E f root 0 E.d.size 1=U (.ok (vs,z))/\¬z<E.d.size:=by
 unfold eI at h;rcases bJ h with⟨u,_,h2⟩|⟨us,z,h1,h2⟩
 ·cases h2
 split at h2
 ·cases h2
 rename_i q;cases h2;exact⟨z,h1,q⟩
theorem A7{E:cw}(hs:E.s=lS)(hE:gp E){f:Nat}{vs:Ls Vl}(h:eI E f 0=U (.ok vs)):E.d.size<=4000:=by
 obtain⟨z,h1,hz⟩:=C6 h;have hroot:0<E.s.length:=by rw[hs];decide
 have hr:cd E.s:=by rw[hs];exact nR.1
 have hl:=iC hr.fine hroot h1;obtain rfl:z=E.d.size:=O;have hB:Am E ⟨E.s,vs,E.ok⟩:=⟨X,hr,hE.bg,hE.ok,hE.ok,hE.dv⟩;have hw:=nO hB f 0 0 E.d.size 1 vs E.d.size hroot h1 Ln 0 ⟨[],[],Sq,X⟩;have ha:=(oe _ _ _ _ _ hw _ _ _ X).2.2;rw[lZ]at ha;have hR:Rd E 0 vs:=⟨f,0,_,1,_,h1⟩;obtain⟨us,rfl,hq0⟩:=hR.seq (by rw[hs];rfl);rw[hs]at hq0;have h0:oq E [⟨1,false,lB⟩,⟨2,true,bh⟩] us:=hq0;have q0:=tF hE (i:=0) hroot (by rw[hs];exact dY ..) h0 X (by rw[hs];decide) (by rw[hs];decide) (by rw[hs];decide);rw[hs]at q0;obtain⟨t,b,rfl,c1,h2⟩:=q0;have c1':=((gx t).2 c1).1;obtain⟨a,b',rfl,hh,hn⟩:=h2;cases hn;have hsz:∃k u x y,a=[⟨k,u,x,y⟩]/\u.size<=20:=by
  rcases hh with hh|⟨_,rfl⟩|⟨q,_⟩
  ·obtain⟨u,e1,e2⟩:=hh.leaf (by rw[hs];decide);rw[hs]at e1 e2;have:=(eM u).2 ((hE.ok _ _).1 e2);exact⟨_,u,_,_,e1,this.2.1⟩
  ·exact⟨_,_,_,_,X,Dc⟩
  cases q
 obtain⟨k,u,x,y,rfl,hu⟩:=hsz;unfold pz at ha;simp at ha;have e0:bh.size=0:=X;omega
theorem Ed{E:cw}(hs:E.s=lS)(hE:gp E){v:Except (Int×Int) (Ls Vl)}(h:eI E (42*E.d.size+41) 0=U v):(∃vs,v= .ok vs)↔ns E.d:=by
 constructor
 ·rintro⟨vs,rfl⟩;have:=A7 hs hE h;exact⟨E,vs,.inr (.inr ⟨⟨nR.1,Dc,Dc⟩,this,hs,X,hE,_,O,h⟩)⟩
 rintro⟨E',vs,q|q|⟨_,_,hs',hd',hE',f,_,hv⟩⟩
 ·cases q.2
 ·cases q.2.2
 exact⟨vs,C7 (E1:=E) (E2:=E') (by rw[hs];exact nR.1) (by rw[hs',hs]) hd' hE hE' (by rw[hs];decide) h hv⟩
theorem EJ{E:cw}(hs:E.s=uS)(hE:gp E){f:Nat}{v:Except (Int×Int) (Ls Vl)}(h:eI E (f+1) 0=U v):(∃vs,v= .ok vs)↔lI E.d:=by
 have hn:nd E.s 0=⟨5, -1,0,[]⟩:=by rw[hs];rfl
 have hH:E.hd 0 E.d.size=hd E.d:=by unfold cw.hd;rw[lQ]
 have hel:lI E.d↔((hd E.d).1=0/\((hd E.d).2.c,(hd E.d).2.n,(hd E.d).2.b)=((0:Int),(3:Int),false)/\(hd E.d).2.s+(hd E.d).2.l=E.d.size)/\aR 5 (E.d.extract (hd E.d).2.s.toNat E.d.size):=by
  unfold lI;constructor
  ·rintro⟨u,hu⟩;have q:=(fE (fun _=>rfl) (.inl X)).1 hu;rw[yA Dc X,ru]at q;obtain⟨⟨q1,rfl⟩,q2⟩:=q;exact⟨q1,q2⟩
  rintro⟨q1,q2⟩;refine⟨E.d.extract (hd E.d).2.s.toNat E.d.size,(fE (fun _=>rfl) (.inl X)).2 ⟨?_,q2⟩⟩;rw[yA Dc X,ru];exact⟨q1,X⟩
 rw[hel];unfold eI at h;rw[dJ,hH]at h;by_cases h0:(hd E.d).1≠0
 ·rw[aG h0]at h;cases h;exact⟨fun q=>(by obtain⟨_,q⟩:=q;cases q),fun q=>Ab q.1.1 h0⟩
 rw[G h0]at h;have h0':=Classical.not_not.1 h0;have k1:=i3 h0';have k2:=um h0';have hfin:((iH 0 (hd E.d).2:Nat):Int)=(hd E.d).2.s+(hd E.d).2.l:=by unfold iH;omega
 unfold iQ at h;rw[hn]at h;rw[aG Dc]at h;unfold cF at h;rw[G Dc]at h;by_cases hc:(hd E.d).2.c=0/\(hd E.d).2.n=3/\(hd E.d).2.b=false
 ·rw[G (fun q=>q.2 ⟨hc.1,hc.2.1,hc.2.2⟩),G Dc,G Dc,G Dc,G Dc]at h;rw[b9]at h;by_cases hl:iH 0 (hd E.d).2<E.d.size
  ·refine⟨?_,fun q=>O⟩;rintro⟨vs,rfl⟩;exfalso;split at h
   ·unfold dM.andThen at h;simp only at h;rw[aG hl]at h;cases h
   cases h
  have e:iH 0 (hd E.d).2=E.d.size:=O;rw[e]at h;by_cases ho:E.ok 5 (E.d.extract (hd E.d).2.s.toNat E.d.size)=true
  ·rw[aG ho]at h;unfold dM.andThen at h;simp only at h;rw[G (oo _)]at h;cases h;exact⟨fun _=>⟨⟨h0',by rw[hc.1,hc.2.1,hc.2.2],O⟩,(hE.ok _ _).1 ho⟩,fun _=>⟨_,X⟩⟩
  rw[G ho]at h;cases h;exact⟨fun q=>(by obtain⟨_,q⟩:=q;cases q),fun q=>Ab ((hE.ok _ _).2 q.2) ho⟩
 rw[aG ⟨Dc,fun q=>hc ⟨q.1,q.2.1,q.2.2⟩⟩]at h;cases h;exact⟨fun q=>(by obtain⟨_,q⟩:=q;cases q),fun q=>by have q2:=q.1.2.1;injection q2 with a q2;injection q2 with b c;exact Ab ⟨a,b,c⟩ hc⟩
theorem AD(s:Ls Nd)(b:Q)(hr:cd s)(hl:0<s.length):∃E v,E.s=s/\E.d=b/\gp E/\eI E (42*b.size+41) 0=U v/\∀k q,v= .error (k,q)->k≠0:=by
 obtain⟨E,hs,hd,hE⟩:=yg s b hr;obtain⟨o,ho⟩:=jF (E:=E) (by rw[hs];exact hr.fine) (42*b.size+41) 0 0 b.size 1 [] (by rw[hs];exact hl) (Way.nil _ _) (by simp only[bD];omega);have hne:=jn _ _ _ _ _ _ ho
 cases o with
 |error u=>
  refine⟨E,.error u,hs,hd,hE,by unfold eI;rw[hd,ho];rfl,fun k q e=>?_⟩
  cases e
  exact hne _ _ X
 |ok u=>
  obtain⟨vs,z⟩:=u
  by_cases hz:z<b.size
  ·exact⟨E,.error (7,z),hs,hd,hE,by unfold eI;rw[hd,ho];unfold dM.andThen;simp only;rw[aG hz],fun k q e=>by cases e;decide⟩
  ·exact⟨E,.ok vs,hs,hd,hE,by unfold eI;rw[hd,ho];unfold dM.andThen;simp only;rw[G hz],fun k q e=>by cases e⟩
end Go.Proofs.YtkkicodfpekbgaaGreatDoor
namespace Go.Proofs.YtkkicodfpekbgaaGreatDoor
open Go.Proofs.Tryz
open Go.RowKit
theorem Bu(b:Bool)(w:M):Cs prog 84 #[Bo b] w fun e w'=>e=Rt (Y (bT b))/\w'=w:=by
 go_enter func84,ntmps84;cases b
 ·go_wp2;go_ret;exact⟨X,X⟩
 go_wp2;go_ret;exact⟨X,X⟩
end Go.Proofs.YtkkicodfpekbgaaGreatDoor
