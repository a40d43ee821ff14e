/-
hallmarklaw: Book.ownsMarks: the walk (written by gen_bj.py out of Bg.in).
-/
import Derived.Test.YtkkicodfpekbgaaGreatDoorJi0
open Go.Value renaming int->I,string->Y,slice->S,pointer->Po,bool->Bo,tuple->Tu
open Go.IntKind renaming i64->J
open Go.Obj renaming cells->C
open Go.Ending renaming returned->Rt
open Option renaming some->U,none->Z
open Go renaming World->M,Calls->Cs,Addr->Ad,Value->Vv
open _root_ renaming ByteArray->Q,Option->Oo,List->Ls
open Go.RowKit renaming Below->H,intOf->Io,Hid->Hi
open Go.World renaming cell?->Wc,frozen?->Wf
open Go.Act renaming put->Ap,eval->Ae
open UInt8 renaming ofNat->Uo
open Go.Addr renaming mk->D
set_option linter.unusedSimpArgs false
set_option linter.unusedVariables false
set_option maxRecDepth 100000
set_option maxHeartbeats 8000000
namespace Go.Proofs.YtkkicodfpekbgaaGreatDoor
open Go.Proofs.Tryz
open Go.RowKit
theorem vh:(prog.info? 66).map (fun i=>(i.zero,i.size,i.bytes))=U (U (S Z 0 0),1,24):=Kr
theorem vn:(prog.info? 9).map (fun i=>(i.zero,i.size,i.bytes))=U (U (Y ⟨#[]⟩),1,16):=Kr
theorem AK(a b c d:Int)(w:M)(ha:0<=a/\a<256)(hb:0<=b/\b<256)(hc:0<=c/\c<256)(hd:0<=d/\d<256):∃m,(convert 52 9 (S (U (D w.heap.size 0 Z)) 4 4)).run prog (w.alloc (C #[I .u8 a,I .u8 b,I .u8 c,I .u8 d] 5)).drew= .ok (Y m) (w.alloc (C #[I .u8 a,I .u8 b,I .u8 c,I .u8 d] 5)).drew:=by refine⟨_,lN (B:=0) (n:=4) (l:=[Uo a.toNat,Uo b.toNat,Uo c.toNat,Uo d.toNat]) ⟨Sq,.inr ⟨w.heap.size,4,#[I .u8 a,I .u8 b,I .u8 c,I .u8 d],X,Lz,aA w _,O,Dc,X,?_⟩⟩ Sq⟩;simp[jy a ha.1 ha.2,jy b hb.1 hb.2,jy c hc.1 hc.2,jy d hd.1 hd.2]
theorem ze(x:Int):0<=IntKind.u8.wrap x/\IntKind.u8.wrap x<256:=by
 have h:IntKind.u8.wrap x=x%256:=by unfold IntKind.wrap;rfl
 rw[h];omega
theorem si(W w0 w:M)(B:Nat)(L:Ls (Vv×Nat×Int))(ak:Ls (Vv×Nat×Q))(nx:Int)(la:Oo Ad)(lc n:Nat)(xs:Ls Vv)(hI:zp W w0 B L ak nx)(hb:H w0.heap.size w0 w)(ho:w.ownsRow w0.heap.size 73 3 (S la n lc) n xs)(hn:n<=400000)(hL:ak.length<=1099511627776)(hx1: -1099511627776<=nx)(hx2:nx<=0):Cs prog 51 #[Po (U (D B 0 Z)),S la n lc] w fun e w'=>e=Rt (Tu #[])/\∃M',zp W w' B L M' (nx-1)/\M'.length=ak.length+4:=by
 obtain⟨i0,hi0,hz0,hz1,hz2⟩:=dD jk;obtain⟨i1,hi1,hy0,hy1,hy2⟩:=dD vh;obtain⟨i2,hi2,hu0,hu1,hu2⟩:=dD vn;obtain⟨vv,vm,mv,mm,hO,hB⟩:=zB.of hI hb (nx-1);have c4:w.cell? (D B 4 Z)=U (I J nx):=by simp[Wc,hB]
 have f4:w.frozen? (D B 4 Z)=false:=by simp[Wf,hB]
 have hlB:B<w.heap.size:=aw c4;have hOL:(w.setCell (D B 4 Z) (I J (nx-1))).ownsRow w0.heap.size 73 3 (S la n lc) n xs:=aJ ho (cA hB ho Dc) _;obtain⟨nn,hm⟩:∃m,nx-1=m:=Ey;have HM:=dG hm;have hnn: -1099511627777<=nn:=O;have hnn2:nn<= -1:=O;rw[hm]at hO hOL;rw[hm];clear hm;have HO:=dG hO;have HOL:=dG hOL;clear hI hb ho hB hO hOL;go_enter func51,ntmps51;go_wp2_with fail;rw[HM.out];generalize w.setCell (D B 4 Z) (I J nn)=w1 at HO HOL ⊢;clear c4 f4 hlB;have c4:w1.cell? (D B 4 Z)=U (I J nn):=by simp[Wc,HO.row]
 have hlB:B<w1.heap.size:=aw c4;obtain⟨m,hcv⟩:=AK 35 (IntKind.u8.wrap (IntKind.i64.wrap (-nn))) (IntKind.u8.wrap (IntKind.i64.wrap ((IntKind.i64.wrap (-nn)).tdiv 256))) (IntKind.u8.wrap (IntKind.i64.wrap ((IntKind.i64.wrap (-nn)).tdiv 65536))) w1 Dc (ze _) (ze _) (ze _);go_region_held_law (fun w'=>w'.cell? (D B 4 Z)=U (I J nn)) (go_keep) (fail);rename_i hHeld;clear hHeld;have HBA:Hi (H w1.heap.size w1 (w1.alloc (C #[I .u8 35,I .u8 (IntKind.u8.wrap (IntKind.i64.wrap (-nn))),I .u8 (IntKind.u8.wrap (IntKind.i64.wrap ((IntKind.i64.wrap (-nn)).tdiv 256))),I .u8 (IntKind.u8.wrap (IntKind.i64.wrap ((IntKind.i64.wrap (-nn)).tdiv 65536)))] 5)).drew):=(Be).drew;clear hcv c4 hlB;generalize(w1.alloc (C #[I .u8 35,I .u8 (IntKind.u8.wrap (IntKind.i64.wrap (-nn))),I .u8 (IntKind.u8.wrap (IntKind.i64.wrap ((IntKind.i64.wrap (-nn)).tdiv 256))),I .u8 (IntKind.u8.wrap (IntKind.i64.wrap ((IntKind.i64.wrap (-nn)).tdiv 65536)))] 5)).drew=wa at HBA ⊢;have HO:=dG (HO.below HBA);have HOL:=dG (bB HOL HBA);clear HBA;go_wp2;have hX2:(wa.alloc (C #[Y m,Bo false,Y m] 73)).heap[wa.heap.size]? =U (C #[Y m,Bo false,Y m] 73 (0,0)):=aA wa _;have hB2:H wa.heap.size wa (wa.alloc (C #[Y m,Bo false,Y m] 73)):=Be;have hxl:∀g,(Value.slice la n lc).ownBlock=U g->g<wa.heap.size:=fun g hg=>(HOL.lt g hg).2;obtain⟨xb,hxb⟩:∃xb,wa.heap.size=xb:=Ey;rw[hxb]at hX2 hxl;rw[hxb];generalize wa.alloc (C #[Y m,Bo false,Y m] 73)=w2 at hX2 hB2 ⊢;have HO2:=dG (HO.below hB2);have HOL2:=dG (bB HOL hB2);have HX2:=dG hX2;have HXL:Hi _:=fun q=>oo _ (hxl xb q);clear hX2 hB2 hxl hxb HO HOL;go_loopw [6] (fun i wr=>∃k:Nat,k<=n/\i=I J k/\kT w2 wr m (Value.slice la n lc).ownBlock/\BW wr (S la n lc) k m) (fun i _=>n-(Io i).toNat);case atStart=>exact⟨0,Lz,X,kT.refl _ _ _,fun _ _ _ _ p hp=>O⟩
 obtain⟨k,hk,rfl,hK,hM⟩:=hrel;have HK:=dG hK;have HMK:=dG hM;have hX3:=hK.block HX2 HXL;have HX3:=dG hX3;have x0:wr.cell? (D xb 0 Z)=U (Y m):=by simp[Wc,hX3]
 have x1:wr.cell? (D xb 1 Z)=U (Bo false):=by simp[Wc,hX3]
 have x2:wr.cell? (D xb 2 Z)=U (Y m):=by simp[Wc,hX3]
 clear hK hM hX3;by_cases hlt:k<n
 ·have hlt':(k:Int)<n:=O;obtain⟨g,cur,rfl,hcur,hsz⟩:∃g cur,la=U (D g 0 Z)/\wr.heap[g]? =U (C cur 73 (0,0))/\k*3+2<cur.size:=by
   rcases HOL2.2 with⟨_,q⟩|⟨g,cap,cur,q,_,q1,q2,_,q3,_⟩
   ·omega
   injection q with q4 _ q5;subst q4 q5;obtain⟨cur',r1,r2,_⟩:=HK.own g cur X q1;have:(k+1)*3<=lc*3:=iJ _ O;exact⟨g,cur',X,r1,O⟩
  have o0:wr.cell? (D g (k*3) Z)=U (cur[k*3]' O):=by simp[Wc,hcur,show k*3<cur.size by omega]
  have o1:wr.cell? (D g (k*3+1) Z)=U (cur[k*3+1]' O):=by simp[Wc,hcur,show k*3+1<cur.size by omega]
  have o2:wr.cell? (D g (k*3+2) Z)=U (cur[k*3+2]' O):=by simp[Wc,hcur,hsz]
  have f0:wr.frozen? (D g (k*3) Z)=false:=by simp[Wf,hcur]
  have f1:wr.frozen? (D g (k*3+1) Z)=false:=by simp[Wf,hcur]
  have f2:wr.frozen? (D g (k*3+2) Z)=false:=by simp[Wf,hcur]
  have HS1:=dG (HK.trans (kT.store (k:=k) m hcur).1);have HS2:=dG (HMK.store (g:=g) X hcur hsz);generalize cur[k*3]' O=z0 at o0;generalize cur[k*3+1]' O=z1 at o1;generalize cur[k*3+2]' O=z2 at o2;clear hcur hsz;go_wp2;go_roundw;case rel=>exact⟨k+1,O,Gn,HS1,HS2⟩
  case measure=>exact Ms
 have hlt':(n:Int)<=k:=O;obtain rfl:n=k:=O;have HO3:=dG (HO2.kp HOL2 HK);have HOL3:=dG (wG HOL2 HK HMK);have hs3:w0.heap.size<=wr.heap.size+1:=by have:=HO3.out.s1;omega
 clear HO2 HOL2 HK HMK HX2 hk hlt hlt';go_wp2_with (at_builtin;refine ic _ X (.tmp 52) (.tmp 54) 66 X w0.heap.size 73 i0 ei 3 40 underlying66 hi0 hz0 hz1 hz2 X Dc (S la n lc) n (mmRow m n) (by simp[Ae,Ap]) (HOL3.alloc _) (D wr.heap.size 0 Z) 1 1 (mmRow m 1) (by simp[Ae,Ap]) X (World.news_of_block (aA wr (C #[Y m,Bo false,Y m] 73))) (oF m 1) Dc (by unfold maxLen;omega) O (by simpa using hs3) ?_);intro g1 cap1 w4 h1 h2 h3;obtain⟨hO4,hOL4,hF1,hK4⟩:=HO3.app HOL3 h1 h2 h3;have HO4:=dG hO4;have HOL4:=dG hOL4;have HF1:=dG hF1;have HK4:=dG hK4;have hX4:=hK4.block HX3 HXL;have HX4:=dG hX4;have HS4:Hi _:=hO4.s1;clear x0 x1 x2;have x0:w4.cell? (D xb 0 Z)=U (Y m):=by simp[Wc,hX4]
 have x1:w4.cell? (D xb 1 Z)=U (Bo false):=by simp[Wc,hX4]
 have x2:w4.cell? (D xb 2 Z)=U (Y m):=by simp[Wc,hX4]
 have hs4:w0.heap.size<=w4.heap.size+1:=by have:=HS4.out;omega
 clear h1 h2 h3 hO4 hOL4 hF1 hK4 hX4;go_wp2_with (at_builtin;refine ic _ X (.tmp 56) (.tmp 59) 66 X w0.heap.size 73 i0 ei 3 40 underlying66 hi0 hz0 hz1 hz2 X Dc (S la n lc) n (mmRow m n) (by simp[Ae,Ap]) (HOL4.alloc _) (D w4.heap.size 0 Z) 2 2 (mmRow m 2) (by simp[Ae,Ap]) X (World.news_of_block (aA w4 (C #[Y m,Bo false,Y m,Y m,Bo false,Y m] 73))) (oF m 2) Dc (by unfold maxLen;omega) O (by simpa using hs4) ?_);intro g2 cap2 w5 h1 h2 h3;obtain⟨hO5,hOL5,hF2,hK5⟩:=HO4.app HOL4 h1 h2 h3;have HO5:=dG hO5;have HOL5:=dG hOL5;have HF2:=dG hF2;have HK5:=dG hK5;have hX5:=hK5.block HX4 HXL;have HX5:=dG hX5;have HS5:Hi _:=hO5.s1;clear x0 x1 x2;have x0:w5.cell? (D xb 0 Z)=U (Y m):=by simp[Wc,hX5]
 have x1:w5.cell? (D xb 1 Z)=U (Bo false):=by simp[Wc,hX5]
 have x2:w5.cell? (D xb 2 Z)=U (Y m):=by simp[Wc,hX5]
 have hs5:w0.heap.size<=w5.heap.size+1:=by have:=HS5.out;omega
 clear h1 h2 h3 hO5 hOL5 hF2 hK5 hX5;have HF1b:=dG (HK5.full HF1);go_wp2_with (at_builtin;refine ic _ X (.tmp 61) (.tmp 65) 66 X w0.heap.size 73 i0 ei 3 40 underlying66 hi0 hz0 hz1 hz2 X Dc (S la n lc) n (mmRow m n) (by simp[Ae,Ap]) (HOL5.alloc _) (D w5.heap.size 0 Z) 3 3 (mmRow m 3) (by simp[Ae,Ap]) X (World.news_of_block (aA w5 (C #[Y m,Bo false,Y m,Y m,Bo false,Y m,Y m,Bo false,Y m] 73))) (oF m 3) Dc (by unfold maxLen;omega) O (by simpa using hs5) ?_);intro g3 cap3 w6 h1 h2 h3;obtain⟨hO6,hOL6,hF3,hK6⟩:=HO5.app HOL5 h1 h2 h3;have HO6:=dG hO6;have HOL6:=dG hOL6;have HF3:=dG hF3;have HK6:=dG hK6;have hX6:=hK6.block HX5 HXL;have HX6:=dG hX6;have HS6:Hi _:=hO6.s1;clear x0 x1 x2;have x0:w6.cell? (D xb 0 Z)=U (Y m):=by simp[Wc,hX6]
 have x1:w6.cell? (D xb 1 Z)=U (Bo false):=by simp[Wc,hX6]
 have x2:w6.cell? (D xb 2 Z)=U (Y m):=by simp[Wc,hX6]
 have hs6:w0.heap.size<=w6.heap.size+1:=by have:=HS6.out;omega
 clear h1 h2 h3 hO6 hOL6 hF3 hK6 hX6;have HF1c:=dG (HK6.full HF1b);have HF2c:=dG (HK6.full HF2);have HF0:=dG (eV.of_own HOL6);have hrow:=HO6.out.row;have c0:w6.cell? (D B 2 Z)=U mv:=by simp[Wc,hrow]
 have f0:w6.frozen? (D B 2 Z)=false:=by simp[Wf,hrow]
 have hlB:B<w6.heap.size:=aw c0;clear hrow HF1 HF1b HF2 HK4 HK5 HK6 HO3 HO4 HO5 HOL3 HOL4 HOL5 HOL6 HX3 HX4 HX5 HX6 HS4 HS5 x0 x1 x2 hs3 hs4 hs5;have hsW:W.heap.size<=w6.heap.size+1:=by have:=HO6.out.bel.size;omega
 have hLL:ak.length+4<=1099511627780:=O;go_wp2_with (at_builtin;refine wpList_append_lies _ X (.tmp 71) (.tmp 76) 33 X W.heap.size 66 i1 (S Z 0 0) 1 24 underlying33 hi1 hy0 hy1 hy2 X Dc mv ak.length (ak.map (·.1)) (by simp[Ae,Ap]) (HO6.pv.alloc _) (D w6.heap.size 0 Z) 4 4 [S la n lc,S (U (D g1 0 Z)) (n+1) cap1,S (U (D g2 0 Z)) (n+2) cap2,S (U (D g3 0 Z)) (n+3) cap3] (by simp[Ae,Ap]) X (World.news_of_block (aA w6 (C #[S la n lc,S (U (D g1 0 Z)) (n+1) cap1,S (U (D g2 0 Z)) (n+2) cap2,S (U (D g3 0 Z)) (n+3) cap3] 66))) (by intro u hu;simp at hu;rcases hu with rfl|rfl|rfl|rfl<;>rfl) Dc (by unfold maxLen;omega) O (by simpa using hsW) (w6.heap.size+1) Sq ?_);intro gv capv w7 h1 h2 h3 h4;obtain⟨LL,hLLd⟩:∃LL,ak++[((S la n lc:Vv),n,m),(S (U (D g1 0 Z)) (n+1) cap1,n+1,m),(S (U (D g2 0 Z)) (n+2) cap2,n+2,m),(S (U (D g3 0 Z)) (n+3) cap3,n+3,m)]=LL:=Ey;have HLL:Hi (LL.length=ak.length+4):=by show LL.length=_;rw[<-hLLd];simp
 have HLM:Hi ((LL.map fun x=>Value.string x.2.2)=(ak.map fun x=>Value.string x.2.2)++[Y m,Y m,Y m,Y m]):=by show(LL.map fun x=>Value.string x.2.2)=_;rw[<-hLLd];simp
 have hFL:∀x∈LL,eV w6 x.1 x.2.1 x.2.2:=fun x hx=>by
  rw[<-hLLd,DG]at hx;rcases hx with hx|hx
  ·exact(HO6.fullM x hx).1
  simp only[GA,BK,or_false]at hx;rcases hx with rfl|rfl|rfl|rfl
  ·exact HF0
  ·exact HF1c
  ·exact HF2c
  exact HF3
 obtain⟨e0,q0,hJ⟩:=HO6.put (MM:=LL) (mv':=S (U (D gv 0 Z)) (ak.length+4) capv) hFL (by rw[HLL,<-hLLd,ji];exact h1) h2;have HJ:=dG hJ;have hl7:B<w7.heap.size:=aw e0;clear h1 h2 h3 h4 hLLd hFL hJ HO6 HF0 HF1c HF2c HF3 c0 f0 hlB hsW;go_upto_region 11 with fail;generalize w7.setCell (D B 2 Z) (S (U (D gv 0 Z)) (ak.length+4) capv)=w8 at HJ ⊢;clear e0 q0 hl7;have hrow:=HJ.out.row;have c1:w8.cell? (D B 3 Z)=U mm:=by simp[Wc,hrow]
 have f1:w8.frozen? (D B 3 Z)=false:=by simp[Wf,hrow]
 have hlB:B<w8.heap.size:=aw c1;have hsW:W.heap.size<=w8.heap.size+1:=by have:=HJ.out.bel.size;omega
 clear hrow;go_wp2_with (at_builtin;refine wpList_append_lies _ X (.tmp 84) (.tmp 89) 29 X W.heap.size 9 i2 (Y ⟨#[]⟩) 1 16 underlying29 hi2 hu0 hu1 hu2 X Dc mm ak.length (ak.map fun x=>Y x.2.2) (by simp[Ae,Ap]) (HJ.pm.alloc _) (D w8.heap.size 0 Z) 4 4 [Y m,Y m,Y m,Y m] (by simp[Ae,Ap]) X (World.news_of_block (aA w8 (C #[Y m,Y m,Y m,Y m] 9))) (by intro u hu;simp at hu;subst hu;rfl) Dc (by unfold maxLen;omega) O (by simpa using hsW) (w8.heap.size+1) Sq ?_);intro gm capm w9 h1 h2 h3 h4;obtain⟨e1,q1,hBK⟩:=HJ.put (mm':=S (U (D gm 0 Z)) (ak.length+4) capm) Be (by rw[HLL,HLM.out];exact h1) h2;have HBK:=dG hBK;have hl9:B<w9.heap.size:=aw e1;clear h1 h2 h3 h4 hBK c1 f1 hlB hsW HJ;go_wp2;go_returns;exact⟨X,LL,HBK,HLL⟩
end Go.Proofs.YtkkicodfpekbgaaGreatDoor
