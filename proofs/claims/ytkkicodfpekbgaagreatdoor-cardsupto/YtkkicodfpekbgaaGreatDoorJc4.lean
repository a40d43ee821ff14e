/-
Several texts in one.
-/
import Derived.Test.YtkkicodfpekbgaaGreatDoorJb1
import Derived.Test.YtkkicodfpekbgaaGreatDoorJb0
open Go.Value renaming int->I,string->Y,slice->S,pointer->Po,bool->Bo,agg->Ag,tuple->Tu
open Go.IntKind renaming i64->J
open Go.Obj renaming cells->C
open Go.Ending renaming returned->Rt
open Option renaming some->U,none->Z
open Go renaming World->M,Calls->Cs,Addr->Ad,Value->Vv
open _root_ renaming ByteArray->Q,Option->Oo,List->Ls
open Go.RowKit renaming Below->H,Hid->Hi
open Go.World renaming cell?->Wc,frozen?->Wf
open UInt8 renaming ofNat->Uo
open Go.Addr renaming mk->D
set_option linter.unusedSimpArgs false
set_option linter.unusedVariables false
set_option maxRecDepth 100000
set_option maxHeartbeats 8000000
namespace Go.Proofs.YtkkicodfpekbgaaGreatDoor
open Go.Proofs.Tryz
open Go.RowKit
theorem jG(W w:M)(R:Nat)(a:Oo Ad)(n c:Nat)(data:Q)(tree:Ls Vl)(p:Int)(x y:Nat)(h:dk W w R a n c data tree 0 p)(hxy:x<=y)(hy:y<=data.size)(hm:data.size<=140737488355328):Cs prog 101 #[Po (U (D R 0 Z)),I J x,I J y] w fun e w'=>e=Rt (hv (hd (data.extract x y)).2)/\dk W w' R a n c data tree (hd (data.extract x y)).1 (if(hd (data.extract x y)).1=0 then p else x)/\Fr R w w':=by
 have HI:Hi _:=h;have HH:Hi (∀w,Cs prog 105 #[Y (data.extract x y)] w fun e w'=>e=Rt (Tu #[hv (hd (data.extract x y)).2,I J (hd (data.extract x y)).1])/\H w.heap.size w w'):=fun w=>Bk _ w So;obtain⟨_,hlo,vt,hr,_⟩:=h;unfold eh at hr;have c1:w.cell? (D R 1 Z)=U (Y data):=by simp[Wc,hr]
 have c3:w.cell? (D R 3 Z)=U (I J 0):=by simp[Wc,hr]
 have hRl:R<w.heap.size:=aw c1;clear hr;have hxy':(x:Int)<=y:=O;have hy':(y:Int)<=data.size:=O;generalize(hd (data.extract x y)).1=k at HH ⊢;generalize(hd (data.extract x y)).2=ah at HH ⊢;obtain⟨hc,hb,hn,hs,hl⟩:=ah;unfold hv at HH ⊢;go_enter func101,ntmps101;go_wp2_with fail;refine(HH _).mono ?_;rintro e w1 ⟨rfl,hb1⟩;have HB1:Hi _:=aT hb1;have HG1:Hi (w1.heap[w.heap.size]? =U (C #[I J 0,Bo false,I J 0,I J 0,I J 0] 179 (0,0))):=ax (aA w _) hb1;have hs1:w.heap.size<w1.heap.size:=by have:=hb1.size;simp at this;omega
 clear hb1;have q0:w1.cell? (D w.heap.size 0 Z)=U (I J 0):=by simp[Wc,HG1.out]
 have f0:w1.frozen? (D w.heap.size 0 Z)=false:=by simp[Wf,HG1.out]
 have q1:w1.cell? (D w.heap.size 1 Z)=U (Bo false):=by simp[Wc,HG1.out]
 have f1:w1.frozen? (D w.heap.size 1 Z)=false:=by simp[Wf,HG1.out]
 have q2:w1.cell? (D w.heap.size 2 Z)=U (I J 0):=by simp[Wc,HG1.out]
 have f2:w1.frozen? (D w.heap.size 2 Z)=false:=by simp[Wf,HG1.out]
 have q3:w1.cell? (D w.heap.size 3 Z)=U (I J 0):=by simp[Wc,HG1.out]
 have f3:w1.frozen? (D w.heap.size 3 Z)=false:=by simp[Wf,HG1.out]
 have q4:w1.cell? (D w.heap.size 4 Z)=U (I J 0):=by simp[Wc,HG1.out]
 have f4:w1.frozen? (D w.heap.size 4 Z)=false:=by simp[Wf,HG1.out]
 have hne:w.heap.size≠R:=O;have hW:W.heap.size<=w.heap.size:=O;by_cases hk:k=0
 ·subst hk;have HF:Hi (dk W (w1.alloc (C #[I J hc,Bo hb,I J hn,I J hs,I J hl] 179)) R a n c data tree 0 p):=(HI.below HB1).below Be;have HG:Hi ((w1.alloc (C #[I J hc,Bo hb,I J hn,I J hs,I J hl] 179)).heap[w.heap.size]? =U (C #[I J 0,Bo false,I J 0,I J 0,I J 0] 179 (0,0))):=ax HG1 Be;go_wp2;refine aS (v:=Ag #[I J hc,Bo hb,I J hn,I J hs,I J hl]) (by simp[results,results101,go_sem,hs1,q0,q1,q2,q3,q4]) X ⟨X,?_,?_⟩
  ·exact((HI.below HB1).set5 hW hne Dc HG1 _ _ _ _ _).below Be
  exact((Fr.of_below HB1).set5 Ln _ _ _ _ _).trans (Fr.of_below Be)
 have hk':(k !=0)=true:=by simp[hk]
 have HK:Hi _:=hk;clear hk;have HF:Hi (dk W (w1.alloc (C #[I J hc,Bo hb,I J hn,I J hs,I J hl] 179)) R a n c data tree 0 p):=(HI.below HB1).below Be;have HG:Hi ((w1.alloc (C #[I J hc,Bo hb,I J hn,I J hs,I J hl] 179)).heap[w.heap.size]? =U (C #[I J 0,Bo false,I J 0,I J 0,I J 0] 179 (0,0))):=ax HG1 Be;go_wp2_with fail;refine(bO W _ R a n c data tree p k x HF).mono ?_;rintro e w2 ⟨rfl,hI2,hoth⟩;have HI2:Hi _:=hI2;have HG2:Hi _:=(hoth _ hne).trans HG;have hG3:w2.heap[w1.heap.size]? =U (C #[I J hc,Bo hb,I J hn,I J hs,I J hl] 179 (0,0)):=(hoth _ O).trans (aA w1 _);have r0:w2.cell? (D w.heap.size 0 Z)=U (I J 0):=by simp[Wc,HG2.out]
 have g0:w2.frozen? (D w.heap.size 0 Z)=false:=by simp[Wf,HG2.out]
 have r1:w2.cell? (D w.heap.size 1 Z)=U (Bo false):=by simp[Wc,HG2.out]
 have g1:w2.frozen? (D w.heap.size 1 Z)=false:=by simp[Wf,HG2.out]
 have r2:w2.cell? (D w.heap.size 2 Z)=U (I J 0):=by simp[Wc,HG2.out]
 have g2:w2.frozen? (D w.heap.size 2 Z)=false:=by simp[Wf,HG2.out]
 have r3:w2.cell? (D w.heap.size 3 Z)=U (I J 0):=by simp[Wc,HG2.out]
 have g3:w2.frozen? (D w.heap.size 3 Z)=false:=by simp[Wf,HG2.out]
 have r4:w2.cell? (D w.heap.size 4 Z)=U (I J 0):=by simp[Wc,HG2.out]
 have g4:w2.frozen? (D w.heap.size 4 Z)=false:=by simp[Wf,HG2.out]
 have t0:w2.cell? (D w1.heap.size 0 Z)=U (I J hc):=by simp[Wc,hG3]
 have t1:w2.cell? (D w1.heap.size 1 Z)=U (Bo hb):=by simp[Wc,hG3]
 have t2:w2.cell? (D w1.heap.size 2 Z)=U (I J hn):=by simp[Wc,hG3]
 have t3:w2.cell? (D w1.heap.size 3 Z)=U (I J hs):=by simp[Wc,hG3]
 have t4:w2.cell? (D w1.heap.size 4 Z)=U (I J hl):=by simp[Wc,hG3]
 have HFR:Hi (Fr R w w2):=((Fr.of_below HB1).trans (Fr.of_below Be)).trans (Fr.of_same hoth);clear hI2 hoth hG3 q0 q1 q2 q3 q4 f0 f1 f2 f3 f4;go_wp2;refine aS (v:=Ag #[I J hc,Bo hb,I J hn,I J hs,I J hl]) (by simp[results,results101,go_sem,r0,r1,r2,r3,r4]) X ⟨X,?_,?_⟩
 ·exact HI2.set5 hW hne Dc HG2 _ _ _ _ _
 exact HFR.set5 Ln _ _ _ _ _
theorem zW{B:Nat}(w:M)(x:Vv)(T:TypeId)(hB:B<=w.heap.size):(w.alloc (C #[x] T)).ownsRow B T 1 (S (U (D w.heap.size 0 Z)) 1 1) 1 [x]:=
 ⟨Sq,.inr ⟨w.heap.size,1,#[x],X,hB,aA w _,O,Dc,X,Sq⟩⟩
theorem Dn(c:Int)(b:Bool)(n s l:Int)(w:M)(sn:Sn->Ad)(hs:dC w sn)(h:c<0\/3<c\/n<0\/30<n):Cs prog 154 #[Ag #[I J c,Bo b,I J n,I J s,I J l]] w fun e w'=>e=Rt (Tu #[Y ⟨#[]⟩,aX 0 (sn .Tag)])/\H w.heap.size w w':=by
 have h1:=hs.cT;have h1':=kZ hs.cT;clear hs;unfold aX;by_cases q1:c<0
 ·clear h;go_enter func154,ntmps154;go_wp2;go_ret2;exact⟨X,Be⟩
 by_cases q2:3<c
 ·clear h;go_enter func154,ntmps154;go_wp2;go_ret2;exact⟨X,Be⟩
 by_cases q3:n<0
 ·clear h;go_enter func154,ntmps154;go_wp2;go_ret2;exact⟨X,Be⟩
 have q4:30<n:=O;clear h;go_enter func154,ntmps154;go_wp2;go_ret2;exact⟨X,Be⟩
theorem Dm(c:Int)(b:Bool)(n s l:Int)(w:M)(sn:Sn->Ad)(hs:dC w sn)(q1:0<=c)(q2:c<=3)(q3:0<=n)(q4:n<=30)(h:l<0\/16777215<l):Cs prog 154 #[Ag #[I J c,Bo b,I J n,I J s,I J l]] w fun e w'=>e=Rt (Tu #[Y ⟨#[]⟩,aX 0 (sn .Length)])/\H w.heap.size w w':=by
 have h1:=hs.cL;have h1':=kZ hs.cL;clear hs;unfold aX;by_cases q5:l<0
 ·clear h;go_enter func154,ntmps154;go_wp2;go_ret2;exact⟨X,Be⟩
 have q6:16777215<l:=O;clear h;go_enter func154,ntmps154;go_wp2;go_ret2;exact⟨X,Be⟩
theorem EF(c:Int)(b:Bool)(n s l:Int)(w:M)(q1:0<=c)(q2:c<=3)(q3:0<=n)(q4:n<=30)(q5:0<=l)(q6:l<=16777215):Cs prog 154 #[Ag #[I J c,Bo b,I J n,I J s,I J l]] w fun e w'=>e=Rt (Tu #[Y ⟨(Uo (fb ⟨c,b,n,s,l⟩).toNat::tl l).toArray⟩,.nilIface])/\H w.heap.size w w':=by
 cases b
 ·have hy:Hi (bits .or J (c*64) n%256=c*64+n):=by show _=_;rw[zN _ _ O O O O O];omega
  go_enter func154,ntmps154;go_wp2_with fail;rw[hy.out];have ho1:((w.alloc (C #[I J c,Bo false,I J n,I J s,I J l] 179)).alloc (C #[I .u8 (c*64+n)] 5)).ownsRow w.heap.size 5 1 (S (U (D (w.heap.size+1) 0 Z)) 1 1) 1 [I .u8 (c*64+n)]:=by have:=zW (B:=w.heap.size) (w.alloc (C #[I J c,Bo false,I J n,I J s,I J l] 179)) (I .u8 (c*64+n)) 5 Sq;simpa using this
  refine(kD w.heap.size (S (U (D (w.heap.size+1) 0 Z)) 1 1) 1 [I .u8 (c*64+n)] l _ q5 O (by exact ho1) So O).mono ?_;rintro e w2 ⟨v',m,rfl,ho,hb⟩;have hcv:=lN (l:=Uo (c*64+n).toNat::tl l) (eo ho X (by simp[jy (c*64+n) O O])) Sq;have HB:Hi (H w.heap.size w w2):=(((aY w.heap.size w).alloc Ln _).alloc Sq _).trans hb;clear ho hb;go_wp2;go_ret2;exact⟨X,HB⟩
 have hy:Hi (bits .or J (bits .or J (c*64) n) 32%256=c*64+n+32):=by show _=_;rw[zN (c*64) n O O O O O,CM c n q1 q2 q3 q4];omega
 go_enter func154,ntmps154;go_wp2_with fail;rw[hy.out];have ho1:((w.alloc (C #[I J c,Bo true,I J n,I J s,I J l] 179)).alloc (C #[I .u8 (c*64+n+32)] 5)).ownsRow w.heap.size 5 1 (S (U (D (w.heap.size+1) 0 Z)) 1 1) 1 [I .u8 (c*64+n+32)]:=by have:=zW (B:=w.heap.size) (w.alloc (C #[I J c,Bo true,I J n,I J s,I J l] 179)) (I .u8 (c*64+n+32)) 5 Sq;simpa using this
 refine(kD w.heap.size (S (U (D (w.heap.size+1) 0 Z)) 1 1) 1 [I .u8 (c*64+n+32)] l _ q5 O (by exact ho1) So O).mono ?_;rintro e w2 ⟨v',m,rfl,ho,hb⟩;have hcv:=lN (l:=Uo (c*64+n+32).toNat::tl l) (eo ho X (by simp[jy (c*64+n+32) O O])) Sq;have HB:Hi (H w.heap.size w w2):=(((aY w.heap.size w).alloc Ln _).alloc Sq _).trans hb;clear ho hb;go_wp2;go_ret2;exact⟨X,HB⟩
theorem Dl(h:Hd)(w:M)(sn:Sn->Ad)(hs:dC w sn):Cs prog 154 #[hv h] w fun e w'=>e=Rt (Tu #[Y ⟨(Hn h).2.toArray⟩,iZ 0 sn (Hn h).1])/\H w.heap.size w w':=by
 obtain⟨c,b,n,s,l⟩:=h;unfold Hn;split
 ·rename_i q;exact Dn c b n s l w sn hs q
 rename_i q;simp only at q;split
 ·rename_i q';exact Dm c b n s l w sn hs O O O O q'
 rename_i q';simp only at q';exact EF c b n s l w O O O O O O
theorem Fw(c n l:Int)(w:M)(q1:0<=c)(q2:c<=3)(q3:0<=n)(q4:n<=30)(q5:0<=l)(q6:l<=16777215):Cs prog 130 #[I J c,Bo false,I J n,I J l] w fun e w'=>e=Rt (Y ⟨(Uo (c*64+n).toNat::tl l).toArray⟩)/\H w.heap.size w w':=by
 have hc:=sE (64*c+n) O O;have h8:IntKind.u8.wrap (64*c+n)=64*c+n:=by rw[IntKind.wrap_u8];omega
 have hfin:Hi ((⟨#[Uo (64*c+n).toNat]⟩:Q)++⟨(tl l).toArray⟩=⟨(Uo (c*64+n).toNat::tl l).toArray⟩):=by show _=_;rw[show 64*c+n=c*64+n by omega];apply bC;simp
 have hts:(⟨(tl l).toArray⟩:Q).size<=4:=by have h1:=fM l;have h2:=cnt_cases l;show(tl l).toArray.size<=4;rw[dy];omega
 have HL:Hi _:=fun w=>js l w q5 O;generalize(⟨(tl l).toArray⟩:Q)=t at hfin hts HL;go_enter func130,ntmps130;go_wp2_with fail;go_region_with (go_at_call 147;refine(HL _).mono ?_;rintro e w2 ⟨rfl,hb2⟩;obtain⟨hc2,hf2⟩:=mN hb2);all_goals(try go_wp2)
 all_goals go_ret
 all_goals refine⟨nV hfin.out,?_⟩
 all_goals first
  |exact((aY w.heap.size w).alloc Ln _).drew.trans (hb2.mono Sq)
  |exact((aY w.heap.size w).drew.trans (hb2.mono Ln)).alloc hb2.size _
theorem Fx(c n l:Int)(w:M)(q1:0<=c)(q2:c<=3)(q3:0<=n)(q4:n<=30)(q5:0<=l)(q6:l<=16777215):Cs prog 130 #[I J c,Bo true,I J n,I J l] w fun e w'=>e=Rt (Y ⟨(Uo (c*64+n+32).toNat::tl l).toArray⟩)/\H w.heap.size w w':=by
 have hc:=sE (64*c+n+32) O O;have h8:IntKind.u8.wrap (64*c+n+32)=64*c+n+32:=by rw[IntKind.wrap_u8];omega
 have hfin:Hi ((⟨#[Uo (64*c+n+32).toNat]⟩:Q)++⟨(tl l).toArray⟩=⟨(Uo (c*64+n+32).toNat::tl l).toArray⟩):=by show _=_;rw[show 64*c+n+32=c*64+n+32 by omega];apply bC;simp
 have hts:(⟨(tl l).toArray⟩:Q).size<=4:=by have h1:=fM l;have h2:=cnt_cases l;show(tl l).toArray.size<=4;rw[dy];omega
 have HL:Hi _:=fun w=>js l w q5 O;generalize(⟨(tl l).toArray⟩:Q)=t at hfin hts HL;go_enter func130,ntmps130;go_wp2_with fail;go_region_with (go_at_call 147;refine(HL _).mono ?_;rintro e w2 ⟨rfl,hb2⟩;obtain⟨hc2,hf2⟩:=mN hb2);all_goals(try go_wp2)
 all_goals go_ret
 all_goals refine⟨nV hfin.out,?_⟩
 all_goals first
  |exact((aY w.heap.size w).alloc Ln _).drew.trans (hb2.mono Sq)
  |exact((aY w.heap.size w).drew.trans (hb2.mono Ln)).alloc hb2.size _
theorem Ci(h:Hd)(w:M)(q1:0<=h.c)(q2:h.c<=3)(q3:0<=h.n)(q4:h.n<=30)(q5:0<=h.l)(q6:h.l<=16777215):Cs prog 130 #[I J h.c,Bo h.b,I J h.n,I J h.l] w fun e w'=>e=Rt (Y ⟨(Uo (fb h).toNat::tl h.l).toArray⟩)/\H w.heap.size w w':=by
 obtain⟨c,b,n,s,l⟩:=h;cases b
 ·exact Fw c n l w q1 q2 q3 q4 q5 q6
 exact Fx c n l w q1 q2 q3 q4 q5 q6
end Go.Proofs.YtkkicodfpekbgaaGreatDoor
