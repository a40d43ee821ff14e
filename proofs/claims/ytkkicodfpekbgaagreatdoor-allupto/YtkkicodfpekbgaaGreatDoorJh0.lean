/- Parts. -/
import Derived.Test.YtkkicodfpekbgaaGreatDoorJg2
import Derived.Test.YtkkicodfpekbgaaGreatDoorJg1
import Derived.Test.YtkkicodfpekbgaaGreatDoorJd7
open Go.Value renaming int->I,string->Y,slice->S,pointer->Po,bool->Bo,agg->Ag,tuple->Tu,iface->If
open Go.IntKind renaming i64->J
open Go.Obj renaming cells->C
open Go.Ending renaming returned->Rt
open Option renaming some->U,none->Z
open Go renaming World->M,Calls->Cs,Addr->Ad,Value->Vv
open _root_ renaming ByteArray->Q,Option->Oo,List->Ls
open Go.World renaming cell?->Wc,frozen?->Wf
open Go.Act renaming put->Ap,eval->Ae
open Go.RowKit renaming intOf->Io,Hid->Hi
open UInt8 renaming ofNat->Uo
open Go.Addr renaming mk->D
set_option linter.all false
set_option maxRecDepth 100000
set_option maxHeartbeats 8000000
namespace Go.Proofs.YtkkicodfpekbgaaGreatDoor
variable{pr:Bool}{c:CT}{v:Int}{vs:Ls Vl}{w W wr w':M}{g:Nat}{s n f t k d:Q}{mv:Vv}
section
open Go.Proofs.Tryz
open Go.RowKit
def bT(b:Bool):Q:=if b then⟨#[255]⟩else⟨#[0]⟩
def qm(m:du):Q×Q×Q:=(m.kind,bT m.must,m.body)
def oo(ms:Ls du):Oo (Ls (Q×Q×Q)):=if ms.length=0 then Z else U (ms.map qm)
def ctOf(v:Int)(s n:Q)(pr:Bool)(f t k:Q)(ms:Ls du):CT:=⟨⟨#[Uo v.toNat]⟩,s,n,pr,f,t,k,oo ms⟩
theorem agC(n:Q)(w:M)(sn:Sn->Ad)(hl:gy w sn)(hz:n.size<=9223372036854775807):Cs prog 135 #[Y n] w fun e w'=>∃pr:Bool,e=Rt (Tu #[I J (if pr then 8 else 7),I J (if pr then 0 else 1)])/\(pr=true↔bu 8 n)/\Bw w w':=by
 have HF:=cw (Dh 8 n w hz hl.d (Bv n w hz hl.t));clear hl;go_enter func135,ntmps135;go_wp2_with fail;refine HF.mono ?_;rintro e w1 ⟨r,rfl,hr,hb⟩;have HR:=cw hr;have HB:=cw hb;clear hr hb HF;cases r;·go_wp2;go_ret2;exact⟨false,X,HR,HB⟩
 go_wp2;go_ret2;exact⟨true,X,by simpa using HR.out,HB.out⟩
theorem acQ(b:Bool)(w:M):Cs prog 136 #[Bo b] w fun e w'=>e=Rt (Y (bT b))/\w'=w:=by
 go_enter func136,ntmps136;cases b;·go_wp2;go_ret;exact⟨X,X⟩
 go_wp2;go_ret;exact⟨X,X⟩
def Mh(v:Int)(s n f t k:Q)(ms:Ls du)(w:M)(e:Ending)(w':M):Prop:=
 Bw w w'/\∃(pr:Bool) (ta:Oo Ad) (tc:Nat),(pr=true↔bu 8 n)/\e=Rt (S ta (ctOf v s n pr f t k ms).tree.length tc)/\
  w'.ownsRow w.heap.size 60 4 (S ta (ctOf v s n pr f t k ms).tree.length tc) (ctOf v s n pr f t k ms).tree.length (df (ctOf v s n pr f t k ms).tree)
abbrev tHead(v:Int)(s n:Q)(pr:Bool)(f t k:Q):Ls Vl:=wy ⟨#[Uo v.toNat]⟩ s n pr f t k
theorem Zn(v:Int)(s n f t k:Q)(ms:Ls du)(ma:Oo Ad)(mc:Nat)(w:M)(sn:Sn->Ad)(hl:gy w sn)(hz:n.size<=9223372036854775807)(Y6:0<=v)(wT:v<256)(eN:il w ma ms)(bP:ms.length<=1000000):Cs prog 87 #[dm v s n f t k (S ma ms.length mc)] w fun e w'=>Mh v s n f t k ms w e w':=by
 have HN:Hi _:=fun wq q=>agC n wq sn (hl.below q) hz;have HBT:Hi _:=fun b wq=>acQ b wq;have HI:=cw eN;obtain⟨i0,dO,cU,dA,bL⟩:=mh Fe;have yE:=uP v Y6 wT;have rR:IntKind.u8.wrap v=v:=by simp[IntKind.wrap,IntKind.bits,IntKind.signed];omega
 unfold dm;clear hl eN hz;go_enter func87,ntmps87;go_wp2_with fail;refine(HN _ Be).mono ?_;rintro e w1 ⟨pr,rfl,hpr,hb1⟩;have hx:∀(i:Nat) (u:Vv),(#[I J v,Y s,Y n,Y f,Y t,Y k,S ma ms.length mc]:Array Vv)[i]? =U u->w1.cell? (D w.heap.size i Z)=U u:=fun i u h=>bh.new ⟨w1,hb1⟩ h;have c0:=hx 0 _ X;have c1:=hx 1 _ X;have c2:=hx 2 _ X;have c3:=hx 3 _ X;have c4:=hx 4 _ X;have c5:=hx 5 _ X;have c6:=hx 6 _ X;have A9:Hi _:=bc (bl w _) hb1;have aC:Hi _:=dj hb1;have i9:=lc c0;have oF:=cw hpr;obtain⟨kk,gX⟩:∃kk:Int,(if pr=true then 8 else 7)=kk:=Ey;obtain⟨al,p8⟩:∃al:Int,(if pr=true then 0 else 1)=al:=Ey;rw[gX,p8];have oE:=cw (And.intro gX p8);clear hx hb1 hpr HN gX p8;go_upto_region 3 with fail;have E9:df (tHead v s n pr f t k)=[I J 10,Y ⟨#[]⟩,I J 0,I J 6,I J 2,Y ⟨#[Uo v.toNat]⟩,I J 0,I J 0,I J 2,Y s,I J 0,I J 0,I J 13,Y ⟨#[]⟩,I J al,I J 1,I J kk,Y n,I J 0,I J 0,I J 10,Y ⟨#[]⟩,I J 0,I J 2,I J 9,Y f,I J 0,I J 0,I J 9,Y t,I J 0,I J 0,I J 5,Y k,I J 0,I J 0]:=by rw[<-oE.1,<-oE.2];rfl
 have D9:=World.ownsRow_lit (base:=w.heap.size) (e:=60) (size:=4) (w1.alloc (C #[I .u8 v] 5)) (df (tHead v s n pr f t k)).toArray 9 (by have:=aC.out.size;simp;omega) Dc (by rw[E9];rfl);have D2:Bw w1 ((w1.alloc (C #[I .u8 v] 5)).alloc (C (df (tHead v s n pr f t k)).toArray 60)):=(Be).alloc Sq _;rw[List.toList_toArray]at D9;have bX:(w1.alloc (C #[I .u8 v] 5)).heap.size=w1.heap.size+1:=Sq;rw[bX]at D9;rw[E9]at D9 D2;generalize hW2:((w1.alloc _).alloc _)=W2 at D9 D2 ⊢;have jJ:Hi (W2.ownsRow w.heap.size 60 4 (S (U (D (w1.heap.size+1) 0 Z)) 9 9) 9 (df (tHead v s n pr f t k))):=by rw[E9];exact D9
 have aM:Hi _:=Tm aC D2;have U1:=Cb D2 c6;have hlW:=lc U1;have SY:Hi _:=bc A9 D2;generalize w1.heap.size+1=gb at jJ ⊢;clear D9 D2 hW2 E9 bX c0 c1 c2 c3 c4 c5 c6 i9 yE rR Y6 wT oE aC A9;by_cases mX:ms.length=0;·have aeB:((ms.length:Nat):Int)=0:=O;have lJ:Hi ((W2.alloc (C #[I J 15,Y ⟨#[]⟩,I J 0,I J 0] 60)).ownsRow w.heap.size 60 4 (S (U (D gb 0 Z)) 9 9) 9 (df (tHead v s n pr f t k))):=jJ.alloc _;go_wp2_with (at_builtin;refine wpList_append_lies _ X (.tmp 45) (.tmp 47) 39 X w.heap.size 60 i0 zu 4 40 underlying39 dO cU dA bL X Dc (S (U (D gb 0 Z)) 9 9) 9 (df (tHead v s n pr f t k)) X lJ (D W2.heap.size 0 Z) 1 1 (⟨15,az,0,0⟩:Vl).cells X X (World.news_of_block (bl W2 _)) (by intro u hu;unfold Vl.cells at hu;simp at hu;rcases hu with rfl|rfl|rfl|rfl<;>rfl) Dc Dc Dc So (W2.heap.size+1) Sq ?_;intro g cap w3 h1 h2 h3 h4;have eK:=cw h1;have gQ:=cw h2;clear h1 h2 h3 h4);go_ret;have fE:=aM.alloc aM.size (C #[I J 15,Y ⟨#[]⟩,I J 0,I J 0] 60);(have AR:(ctOf v s n pr f t k ms).tree=tHead v s n pr f t k++[⟨15,az,0,0⟩]:=by unfold ctOf CT.tree oo;rw[ba mX];rfl);refine⟨fE.grown gQ fE.size (fun q hq=>(lJ.lt q hq).1),pr,U (D g 0 Z),cap,oF,by rw[AR];rfl,?_⟩;rw[AR,Ds];exact eK
 have aeB:¬(((ms.length:Nat):Int)=0):=O;have lJ:Hi ((W2.alloc (C #[I J 11,Y ⟨#[]⟩,I J 0,I J ms.length] 60)).ownsRow w.heap.size 60 4 (S (U (D gb 0 Z)) 9 9) 9 (df (tHead v s n pr f t k))):=jJ.alloc _;go_upto_region 6 with(at_builtin;refine wpList_append_lies _ X (.tmp 49) (.tmp 54) 39 X w.heap.size 60 i0 zu 4 40 underlying39 dO cU dA bL X Dc (S (U (D gb 0 Z)) 9 9) 9 (df (tHead v s n pr f t k)) X lJ (D W2.heap.size 0 Z) 1 1 (⟨11,az,0,ms.length⟩:Vl).cells X X (World.news_of_block (bl W2 _)) (by intro u hu;unfold Vl.cells at hu;simp at hu;rcases hu with rfl|rfl|rfl|rfl<;>rfl) Dc Dc Dc So (W2.heap.size+1) Sq ?_;intro g cap w3 h1 h2 h3 h4;have eK:=cw h1;have gQ:=cw h2;clear h1 h2 h3 h4);have fE:=aM.alloc aM.size (C #[I J 11,Y ⟨#[]⟩,I J 0,I J ms.length] 60);have aR:Hi _:=fE.grown gQ fE.size (fun q hq=>(lJ.lt q hq).1);have VQ:w3.heap[w.heap.size]? =U (C #[I J v,Y s,Y n,Y f,Y t,Y k,S ma ms.length mc] 68 (0,0)):=by have PU:=bc SY ((By).alloc Ln (C #[I J 11,Y ⟨#[]⟩,I J 0,I J ms.length] 60));rw[gQ.block _ (eb PU) (fun q=>jb PU lJ Dc q.symm)];exact PU
 have c63:w3.cell? (D w.heap.size 6 Z)=U (S ma ms.length mc):=by simp[Wc,VQ]
 have aap:Hi (w3.ownsRow w.heap.size 60 4 (S (U (D g 0 Z)) 10 cap) 10 (df (tHead v s n pr f t k++[⟨11,az,0,ms.length⟩]))):=by rw[Ds];exact eK
 clear fE VQ eK gQ lJ SY jJ aM U1 hlW;go_wp2;go_loopw [5,59] (fun v5 vi wr=>∃j:Nat,j<=ms.length/\vi=I J j/\Bw w wr/\wr.ownsRow w.heap.size 60 4 v5 (10+j*4) (df (tHead v s n pr f t k++[⟨11,az,0,ms.length⟩]++(ms.take j).flatMap fun m=>mj (qm m)))) (fun _ vi _=>ms.length-(Io vi).toNat);case atStart=>exact⟨0,Lz,X,aR,by rw[List.take_zero,List.flatMap_nil,Lk];exact aap⟩
 obtain⟨j,hj,rfl,aT,YF⟩:=hrel;have dU:=cw aT;have GL:=cw YF;clear aT YF;by_cases aA:j<ms.length
 ·have aN:(j:Int)<ms.length:=O;obtain⟨g1,o1,rfl,c0,c1,c2⟩:=HI j aA;have sN:ms.take (j+1)=ms.take j++[ms.getD j fh]:=by rw[vz,dz aA,dy,dz aA];rfl
  have oG:=cw sN;obtain⟨m,hm⟩:∃m,ms.getD j fh=m:=Ey;rw[hm]at c0 c1 c2 oG;have d0:=Cb dU c0;have d1:=Cb dU c1;have d2:=Cb dU c2;clear c0 c1 c2 hm sN;go_upto_region 9 with fail;have GJ:Hi ((wr.alloc (C #[Y m.kind,Bo m.must,Y m.body] 73)).ownsRow w.heap.size 60 4 u5 (10+j*4) (df (tHead v s n pr f t k++[⟨11,az,0,ms.length⟩]++(ms.take j).flatMap fun m=>mj (qm m)))):=GL.alloc _;have iD:Hi (Bw w (wr.alloc (C #[Y m.kind,Bo m.must,Y m.body] 73))):=dU.alloc dU.size _;have IR:=bl wr (C #[Y m.kind,Bo m.must,Y m.body] 73);generalize(wr.alloc _)=w2 at GJ iD IR ⊢;generalize wr.heap.size=mb at IR ⊢;obtain⟨x0,x1,x2⟩:=pt IR;clear d0 d1 d2 GL dU;have HXA:=cw IR;have KP:Hi (w2.drew.cell? (D mb 0 Z)=U (Y m.kind)/\w2.drew.cell? (D mb 1 Z)=U (Bo m.must)/\w2.drew.cell? (D mb 2 Z)=U (Y m.body)):=⟨x0,x1,x2⟩;clear IR
  go_region_held_law (fun w'=>w'.cell? (D mb 0 Z)=U (Y m.kind)/\w'.cell? (D mb 1 Z)=U (Bo m.must)/\w'.cell? (D mb 2 Z)=U (Y m.body)) (first|exact KP|go_keep) (first
   |(go_at_call 136;refine(HBT _ _).mono ?_;rintro e wz ⟨rfl,rfl⟩)
   |(refine step_append_lies _ X (.tmp 63) (.tmp 75) 39 X w.heap.size 60 i0 zu 4 40 underlying39 dO cU dA bL X Dc u5 (10+j*4) (df (tHead v s n pr f t k++[⟨11,az,0,ms.length⟩]++(ms.take j).flatMap fun m=>mj (qm m))) (by simp[Ae,Ap]) ((GJ.out.alloc _).drew) ⟨w2.heap.size,0,Z⟩ 4 4 (df (mj (qm m))) (by simp[Ae,Ap]) X (World.news_of_block (w:=(w2.alloc (C #[I J 10,Y ⟨#[]⟩,I J 0,I J 3,I J 4,Y m.kind,I J 0,I J 0,I J 1,Y (bT m.must),I J 0,I J 0,I J 6,Y m.body,I J 0,I J 0] 60)).drew) (bl w2 (C #[I J 10,Y ⟨#[]⟩,I J 0,I J 3,I J 4,Y m.kind,I J 0,I J 0,I J 1,Y (bT m.must),I J 0,I J 0,I J 6,Y m.body,I J 0,I J 0] 60))) (by intro u hu;unfold df mj qm Vl.cells at hu;simp at hu;rcases hu with rfl|rfl|rfl|rfl|rfl|rfl|rfl|rfl|rfl|rfl|rfl|rfl|rfl|rfl|rfl|rfl<;>rfl) Dc (by unfold maxLen;omega) O (by have:=iD.out.size;simp;omega) (w2.heap.size+1) Sq ?_;intro g4 ajI w4 h1 h2 h3 h4;have oZ:=cw h1;have kW:=cw h2;have LZ:=bc HXA.out ((By).alloc Ln (C #[I J 10,Y ⟨#[]⟩,I J 0,I J 3,I J 4,Y m.kind,I J 0,I J 0,I J 1,Y (bT m.must),I J 0,I J 0,I J 6,Y m.body,I J 0,I J 0] 60));have jY:w4.heap[mb]? =U (C #[Y m.kind,Bo m.must,Y m.body] 73 (0,0)):=(kW.out.block mb (eb LZ) (fun q=>jb LZ (GJ.out.alloc _) Dc q.symm)).trans LZ;have y0:w4.cell? ⟨mb,0,Z⟩=U (Y m.kind):=by {simp[Wc,jY]};have y1:w4.cell? ⟨mb,1,Z⟩=U (Bo m.must):=by {simp[Wc,jY]};have y2:w4.cell? ⟨mb,2,Z⟩=U (Y m.body):=by {simp[Wc,jY]};clear h1 h2 h3 LZ jY))
  have QE:=(iD.alloc iD.size (C #[I J 10,Y ⟨#[]⟩,I J 0,I J 3,I J 4,Y m.kind,I J 0,I J 0,I J 1,Y (bT m.must),I J 0,I J 0,I J 6,Y m.body,I J 0,I J 0] 60)).drew;have aJ:Hi _:=QE.grown kW QE.size (fun q hq=>((GJ.alloc (C #[I J 10,Y ⟨#[]⟩,I J 0,I J 3,I J 4,Y m.kind,I J 0,I J 0,I J 1,Y (bT m.must),I J 0,I J 0,I J 6,Y m.body,I J 0,I J 0] 60)).drew.lt q hq).1);clear QE GJ kW;go_wp2;go_roundw;case rel=>refine⟨j+1,O,Gn,aJ,?_⟩;rw[oG,List.flatMap_append,<-na,Ds];have q:=oZ.out;rw[show 10+(j+1)*4=10+j*4+4 by omega];simpa using q
  exact Ms
 have aN:(ms.length:Int)<=j:=O;obtain rfl:j=ms.length:=O;have AR:(ctOf v s n pr f t k ms).tree=tHead v s n pr f t k++[⟨11,az,0,ms.length⟩]++(ms.take ms.length).flatMap fun m=>mj (qm m):=by unfold ctOf CT.tree oo;rw[G mX,we];unfold qt;simp only[ou,na,List.singleton_append,List.flatMap_map]
 have yL:(ctOf v s n pr f t k ms).tree.length=10+ms.length*4:=by have:=GL.out.1;rw[<-AR,Hb]at this;omega
 obtain⟨ta,tc,rfl,_⟩:=uV GL;go_wp2;go_ret;refine⟨dU,pr,ta,tc,oF,by rw[yL];rfl,?_⟩;rw[yL,AR];exact GL
end
section
open Go.RowKit
theorem Do{B:Nat}{e:TypeId}{s n c:Nat}{a:Oo Ad}{xs:Ls Vv}(h:w.ownsRow B e s (S a n c) n xs):n<=c:=by
 rcases h.2 with⟨h',hn⟩|⟨g',O8,aB,h',_,hg,yM,L4,_⟩;·injection h' with _ _ h3;omega
 injection h' with _ _ h3;omega
structure Ef(s n f t k:Q)(ms:Ls du):Prop where
 s:s.size<=140737488355328
 n:n.size<=140737488355328
 f:f.size<=140737488355328
 t:t.size<=140737488355328
 k:k.size<=140737488355328
 ms:Hy ms
theorem aco(b:Bool):bu 1 (bT b):=by
 cases b;·exact(Bc _).1 ⟨X,.inl X⟩
 exact(Bc _).1 ⟨X,.inr X⟩
theorem Iq(b:Bool):(bT b).size=1:=by cases b<;>rfl
theorem agp{m:du}(h:rm m):bu 4 m.kind:=by
 rcases h with⟨h,_⟩|⟨h,_⟩|⟨_,_,h,_⟩;·rw[h];exact(yn _).1 (by unfold nf rq uo;decide)
 ·rw[h];exact(yn _).1 (by unfold nf rq uo;decide)
 exact h
theorem Vj{ms:Ls du}{m:du}(h:m∈ms):∃j,j<ms.length/\ms.getD j fh=m:=by obtain⟨j,hj,e⟩:=zk h;exact⟨j,hj,by rw[dy,dz hj,Ru,e]⟩
theorem adq{ms:Ls du}(hc:ij v s n f t k ms.length)(hm:kx ms)(hp:pr=true↔bu 8 n):(ctOf v s n pr f t k ms).Ok where
 vt:=(xd _).1 ⟨Ln,by show(1:Nat)<=20;decide,fun h=>by have h:2<=1:=h;omega⟩
 s:=(xd _).1 hc.ser
 n:=by
  show bu (if pr then 8 else 7) n
  cases pr with
  |true=>exact hp.1 X
  |false=>exact(Nv _).1 hc.nam.2.2
 ft:=(Fl _).1 hc.frm
 tt:=(Fl _).1 hc.til
 k:=(Ix _).1 hc.key
 ms:=fun qs e q hq=>by
  have e':oo ms=U qs:=e
  unfold oo at e'
  split at e'
  ·cases e'
  ·cases e'
   obtain⟨m,hmm,rfl⟩:=List.mem_map.1 hq
   obtain⟨j,hj,rfl⟩:=Vj hmm
   exact⟨agp (hm j hj).1,aco _⟩
theorem Zo{ms:Ls du}:(ctOf v s n pr f t k ms).tree.length<=10+4*ms.length:=by
 unfold CT.tree;rw[ff];show 9+(qt (oo ms)).length<=_;unfold oo;split;·show 9+1<=_;omega
 unfold qt;rw[fu];have:∀l:Ls (Q×Q×Q),(l.flatMap mj).length=4*l.length:=fun l=>by
  induction l with
  |nil=>rfl
  |cons a l ih=>rw[vx,ff,ih];show 4+_=_;rw[fu];omega
 simp only[this,ou];omega
theorem aiJ{ms:Ls du}(hz:Ef s n f t k ms)(hn:ms.length<=1000000):∀x∈(ctOf v s n pr f t k ms).tree,x.text.size<=140737488355328/\x.kids<=9223372036854775807:=by
 intro x hx;have h1:∀(k:Int) (u:Q) (a c:Int),u.size<=140737488355328->c<=1000000->(⟨k,u,a,c⟩:Vl).text.size<=140737488355328/\(⟨k,u,a,c⟩:Vl).kids<=9223372036854775807:=fun k u a c q1 q2=>⟨q1,by show c<=_;omega⟩;unfold CT.tree at hx;rcases Ek.1 hx with hx|hx
 ·have mZ:x∈wy ⟨#[Uo v.toNat]⟩ s n pr f t k:=hx;unfold wy at mZ;simp only[Lo,Lq,Pm]at mZ;rcases mZ with rfl|rfl|rfl|rfl|rfl|rfl|rfl|rfl|rfl;·exact h1 _ _ _ _ Lz Dc
  ·exact h1 _ _ _ _ (by show(1:Nat)<=_;omega) Dc
  ·exact h1 _ _ _ _ hz.s Dc
  ·exact h1 _ _ _ _ Lz Dc
  ·exact h1 _ _ _ _ hz.n Dc
  ·exact h1 _ _ _ _ Lz Dc
  ·exact h1 _ _ _ _ hz.f Dc
  ·exact h1 _ _ _ _ hz.t Dc
  exact h1 _ _ _ _ hz.k Dc
 have mZ:x∈qt (oo ms):=hx;unfold oo at mZ;split at mZ;·obtain rfl:=List.mem_singleton.1 mZ;exact h1 _ _ _ _ Lz Dc
 unfold qt at mZ;rcases Lo.1 mZ with rfl|mZ;·exact h1 _ _ _ _ Lz (by rw[ou];omega)
 obtain⟨q,hq,aQ⟩:=List.mem_flatMap.1 mZ;obtain⟨m,hm,rfl⟩:=List.mem_map.1 hq;obtain⟨j,hj,rfl⟩:=Vj hm;have bL:=hz.ms j hj;unfold mj at aQ;simp only[Lo,Lq,Pm]at aQ;rcases aQ with rfl|rfl|rfl|rfl;·exact h1 _ _ _ _ Lz Dc
 ·exact h1 _ _ _ _ bL.1 Dc
 ·exact h1 _ _ _ _ (by show(bT _).size<=_;rw[Iq];omega) Dc
 exact h1 _ _ _ _ bL.2 Dc
theorem acW{ms:Ls du}(hc:ij v s n f t k ms.length)(hm:kx ms)(hp:pr=true↔bu 8 n):∃F,Cf F cS 0 (ctOf v s n pr f t k ms).tree (if 4000<(ctOf v s n pr f t k ms).bytes.size then .error 2 else .ok (ctOf v s n pr f t k ms).bytes):=by
 have hk:∃ok:Int->Q->Bool,∀k t,ok k t=true↔bu k t:=⟨fun k t=> @decide (bu k t) (Classical.propDecidable _),fun k t=>Sq⟩;obtain⟨ok,hok⟩:=hk;have hw:=acZ (F:=⟨cS,(ctOf v s n pr f t k ms).tree,ok⟩) X hok X (adq hc hm hp) (f:=ms.length) (fun qs e=>by
  have e':oo ms=U qs:=e;unfold oo at e';split at e';·cases e'
  cases e';rw[ou];exact Ln)
 refine⟨_,.inr ⟨⟨Bb.1,Dc,Dc⟩,X,X,hok,_,_,hw,?_⟩⟩;unfold sy;simp only;rw[G (show¬(ctOf v s n pr f t k ms).tree.length<(ctOf v s n pr f t k ms).tree.length from Ep _)];by_cases h:4000<(ctOf v s n pr f t k ms).bytes.size;·rw[ba h,ba h]
 rw[G h,G h,G Dc]
end
section
open Go.Proofs.Tryz
open Go.RowKit
def Bl(q:Q×Q×Q):du:=⟨q.1,q.2.1.toList== [255],q.2.2⟩
def mi(o:Oo (Ls (Q×Q×Q))):Ls (Q×Q×Q):=o.getD []
def cu(c:CT):Ls du:=(mi c.ms).map Bl
theorem u7(c:CT):c.tree.length=10+4*(mi c.ms).length:=by
 have:∀l:Ls (Q×Q×Q),(l.flatMap mj).length=4*l.length:=fun l=>by
  induction l with
  |nil=>rfl
  |cons a l ih=>rw[vx,ff,ih];show 4+_=_;rw[fu];omega
 unfold CT.tree qt mi;rw[ff]
 cases c.ms with
 |none=>rfl
 |some qs=>
  show 9+((qs.flatMap mj).length+1)=10+4*qs.length
  rw[this];omega
theorem rz(c:CT)(j:Nat)(hj:j<(mi c.ms).length)(i:Nat)(hi:i<4):vl c.tree (10+4*j+i)=vl (mj ((mi c.ms).getD j (az,az,az))) i:=by
 have key:∀(l:Ls (Q×Q×Q)) (j:Nat),j<l.length->vl (l.flatMap mj) (4*j+i)=vl (mj (l.getD j (az,az,az))) i:=fun l=>by
  induction l with
  |nil=>intro j hj;exact Ab hj (dh _)
  |cons a l ih=>
   intro j hj
   match j,hj with
   |0,_=>
    rw[vx]
    unfold vl
    rw[dy,uH (by show 4*0+i<4;omega),dy,Nat.mul_zero,ly]
    rfl
   |j+1,hj=>
    rw[vx,show 4*(j+1)+i=(mj a).length+(4*j+i)by show _=4+_;omega,Du,ih j (by simpa using hj),List.getD_cons_succ]
 cases hm:c.ms with
 |none=>rw[hm]at hj;exact Ab hj (dh _)
 |some qs=>
  rw[hm]at hj
  unfold CT.tree
  rw[hm]
  show vl (wy c.vt c.s c.n c.pr c.ft c.tt c.k++(⟨11,az,0,(qs.length:Nat)⟩::qs.flatMap mj)) (10+4*j+i)=_
  rw[show 10+4*j+i=(wy c.vt c.s c.n c.pr c.ft c.tt c.k).length+(1+(4*j+i))by show _=9+_;omega,Du,show(⟨11,az,0,(qs.length:Nat)⟩:Vl)::qs.flatMap mj=[(⟨11,az,0,(qs.length:Nat)⟩:Vl)]++qs.flatMap mj from X,show 1+(4*j+i)=[(⟨11,az,0,(qs.length:Nat)⟩:Vl)].length+(4*j+i)from X,Du]
  exact key qs j hj
def aaM(c:CT)(w:M)(e:Ending)(w':M):Prop:=
 Bw w w'/\∃ma mc,e=Rt (dm (b8 c.vt 0) c.s c.n c.ft c.tt c.k (S ma (cu c).length mc))/\w'.ownsRow w.heap.size 73 3 (S ma (cu c).length mc) (cu c).length (lj (cu c))
abbrev lh:Array Vv:=#[I J 0,Y ⟨#[]⟩,Y ⟨#[]⟩,Y ⟨#[]⟩,Y ⟨#[]⟩,Y ⟨#[]⟩,S Z 0 0]
abbrev ib(v:Int)(s n f t k:Q)(mv:Vv):Array Vv:=#[I J v,Y s,Y n,Y f,Y t,Y k,mv]
structure uc(W wr:M)(v:Int)(s n f t k:Q)(mv:Vv)(ms:Ls du):Prop where
 bel:Bw W wr
 res:wr.heap[W.heap.size]? =U (C lh 68 (0,0))
 box:wr.heap[W.heap.size+1]? =U (C (ib v s n f t k mv) 68 (0,0))
 own:wr.ownsRow W.heap.size 73 3 mv ms.length (lj ms)
theorem uc.below{ms:Ls du}(h:uc W wr v s n f t k mv ms)(hb:Bw wr w'):uc W w' v s n f t k mv ms:=
 ⟨Tm h.bel hb,bc h.res hb,bc h.box hb,fm h.own hb⟩
theorem uc.put{ms:Ls du}{cap:Nat}(h:uc W wr v s n f t k mv ms)(m:du)(h1:w'.ownsRow W.heap.size 73 3 (S (U (D g 0 Z)) (ms.length+1) cap) (ms.length+1) (lj ms++[Y m.kind,Bo m.must,Y m.body]))(h2:wr.grownBy w' mv.ownBlock):uc W (w'.setCell (D (W.heap.size+1) 6 Z) (S (U (D g 0 Z)) (ms.length+1) cap)) v s n f t k (S (U (D g 0 Z)) (ms.length+1) cap) (ms++[m])/\w'.cell? (D (W.heap.size+1) 6 Z)=U mv/\w'.frozen? (D (W.heap.size+1) 6 Z)=false:=by
 have hC:w'.heap[W.heap.size+1]? =U (C (ib v s n f t k mv) 68 (0,0)):=by rw[h2.block _ (eb h.box) (fun q=>jb h.box h.own Dc q.symm)];exact h.box
 have hR:w'.heap[W.heap.size]? =U (C lh 68 (0,0)):=by rw[h2.block _ (eb h.res) (fun q=>jb h.res h.own Dc q.symm)];exact h.res
 refine⟨⟨(h.bel.grown h2 h.bel.size (fun k hk=>(h.own.lt k hk).1)).setCell (Az _) _,by rw[ez _ _ _ _ Sq];exact hR,iw w' _ 6 _ _ _ hC,?_⟩,by simp[Wc,hC],by simp[Wf,hC]⟩;rw[Oy,ff];exact dk h1 (jb hC h1 Dc) _
def wt:Vv:=Ag #[Y ⟨#[]⟩,Bo false,Y ⟨#[]⟩]
theorem Ig:(prog.info? 73).map (fun i=>(i.zero,i.size,i.bytes))=U (U wt,3,40):=Kr
def Qb:Vv->Nat
 |S _ n _=>n
 |_=>0
theorem acU(c:CT)(hok:c.Ok)(a:Oo Ad)(tc:Nat)(w:M)(hv:qf w a c.tree)(dX:c.tree.length<=tc)(bC:c.tree.length<=1000000):Cs prog 88 #[S a c.tree.length tc] w fun e w'=>aaM c w e w':=by
 have hq:=u7 c;obtain⟨n,hn⟩:∃n,c.tree.length=n:=Ey;have wU:1<=c.vt.size:=((xd _).2 hok.vt).1;have HV:=cw hv;obtain⟨g,o,rfl,_⟩:=hv 0 O;have cell:∀j,j<c.tree.length->w.cell? (D g (o+j*4+1) Z)=U (Y (vl c.tree j).text):=fun j hj=>by obtain⟨g',o',e,_,h,_⟩:=HV j hj;injection e with e;injection e with e1 e2 _;subst e1 e2;exact h
 have d1:w.cell? (D g (o+5) Z)=U (Y c.vt):=cell 1 O;have d2:w.cell? (D g (o+9) Z)=U (Y c.s):=cell 2 O;have d4:w.cell? (D g (o+17) Z)=U (Y c.n):=cell 4 O;have d6:w.cell? (D g (o+25) Z)=U (Y c.ft):=cell 6 O;have d7:w.cell? (D g (o+29) Z)=U (Y c.tt):=cell 7 O;have d8:w.cell? (D g (o+33) Z)=U (Y c.k):=cell 8 O;have oU:=cw cell;have dZ:g<w.heap.size:=bp d1;rw[hn];rw[hn]at hq dX bC;have XX:(10:Int)<=n:=O;have HD:Hi (∀wq,Bw w wq->wq.cell? (D g (o+5) Z)=U (Y c.vt)/\wq.cell? (D g (o+9) Z)=U (Y c.s)/\wq.cell? (D g (o+17) Z)=U (Y c.n)/\wq.cell? (D g (o+25) Z)=U (Y c.ft)/\wq.cell? (D g (o+29) Z)=U (Y c.tt)/\wq.cell? (D g (o+33) Z)=U (Y c.k)):=fun wq q=>⟨Cb q d1,Cb q d2,Cb q d4,Cb q d6,Cb q d7,Cb q d8⟩;have jI:=cw (And.intro hn hq);have dB:=cw (gq c.vt 0 O);have Y9:(0:Int)<c.vt.size:=O;have ZA:0<c.vt.size:=O;have k1:(1:Int)<n:=O;have k2:(2:Int)<n:=O;have k4:(4:Int)<n:=O;have k6:(6:Int)<n:=O;have k7:(7:Int)<n:=O;have k8:(8:Int)<n:=O;clear hv cell hok hn hq;go_enter func88,ntmps88;go_upto_region 1 with fail;have JS:IntKind.i64.wrap (c.vt[0].toNat:Int)=b8 c.vt 0:=by rw[dB,su];have:=mr c.vt 0;omega
 go_cut [3] (fun v3 wx=>v3=Po (U (D (w.heap.size+1) 0 Z))/\uc w wx (b8 c.vt 0) c.s c.n c.ft c.tt c.k (S Z 0 0) []);case first=>go_region_held_law (fun wq=>wq.cell? (D g (o+5) Z)=U (Y c.vt)/\wq.cell? (D g (o+9) Z)=U (Y c.s)/\wq.cell? (D g (o+17) Z)=U (Y c.n)/\wq.cell? (D g (o+25) Z)=U (Y c.ft)/\wq.cell? (D g (o+29) Z)=U (Y c.tt)/\wq.cell? (D g (o+33) Z)=U (Y c.k)) (go_keep) (fail);all_goals go_wp2_with fail;go_meet;have h1:=bl w (C lh 68);have h2:=bl (w.alloc (C lh 68)) (C (ib (b8 c.vt 0) c.s c.n c.ft c.tt c.k (S Z 0 0)) 68);have e:(w.alloc (C lh 68)).heap.size=w.heap.size+1:=Sq;rw[e]at h2;exact⟨X,((Be).alloc Sq _).drew,bc h1 (Be).drew,h2,nz _ _ _ _⟩
 obtain⟨rfl,hC⟩:=hcut;have HC:=cw hC;clear hC JS dB d1 d2 d4 d6 d7 d8 k1 k2 k4 k6 k7 k8 wU Y9 ZA HD;obtain⟨hn,hq⟩:=jI.out;obtain⟨q,yQ⟩:∃q,(mi c.ms).length=q:=Ey;rw[yQ]at hq;have HQ:=cw yQ;have hms:(cu c).length=q:=by unfold cu;rw[ou];exact yQ
 have GH:=cw hms;have FR:Hi (∀j,j<q->∃m:du,∃mt:Q,(cu c).take (j+1)=(cu c).take j++[m]/\m.must=(mt.toList== [255])/\w.cell? (D g (o+(10+4*j)*4+5) Z)=U (Y m.kind)/\w.cell? (D g (o+(10+4*j)*4+9) Z)=U (Y mt)/\w.cell? (D g (o+(10+4*j)*4+13) Z)=U (Y m.body)):=fun j hj=>by(have iY:j<(mi c.ms).length:=by rw[HQ.out];exact hj);have e1:=oU (10+4*j+1) (by rw[hn];omega);have e2:=oU (10+4*j+2) (by rw[hn];omega);have e3:=oU (10+4*j+3) (by rw[hn];omega);rw[rz c j iY 1 Dc,show o+(10+4*j+1)*4+1=o+(10+4*j)*4+5 by omega]at e1;rw[rz c j iY 2 Dc,show o+(10+4*j+2)*4+1=o+(10+4*j)*4+9 by omega]at e2;rw[rz c j iY 3 Dc,show o+(10+4*j+3)*4+1=o+(10+4*j)*4+13 by omega]at e3;refine⟨Bl ((mi c.ms).getD j (az,az,az)),_,?_,X,e1,e2,e3⟩;unfold cu;rw[vz,Ch,dz iY,dy,dz iY];rfl
 have OE:=cw hq;have YB:n-10=4*q:=O;clear oU HV hms yQ hq hn;obtain⟨i0,dO,cU,dA,bL⟩:=mh Ig;go_upto_region 2 with fail;go_cut [4] (fun v4 wx=>∃ra:Oo Ad,v4=S ra (4*q) (tc-10)/\(0<q->ra=U (D g (o+40) Z))/\wx=wc)
 case first=>
  go_wp2_with fail;·subst h;go_meet;exact⟨_,X,fun h=>by have:=OE.out;omega,X⟩
  go_meet;exact⟨_,X,fun _=>rfl,X⟩
 obtain⟨ra,rfl,JH,rfl⟩:=hcut;have GM:=cw JH;have sK:4*q<=tc-10:=O;have DJ:=cw sK;clear JH sK YB XX;generalize tc-10=rc at DJ ⊢;go_wp2_with fail;go_loopw [4] (fun v4 wr=>∃(j:Nat) (ra:Oo Ad) (rc:Nat) (mv:Vv),j<=q/\v4=S ra (4*(q-j)) rc/\4*(q-j)<=rc/\(j<q->ra=U (D g (o+(10+4*j)*4) Z))/\uc w wr (b8 c.vt 0) c.s c.n c.ft c.tt c.k mv ((cu c).take j)) (fun v4 _=>Qb v4);case atStart=>exact⟨0,ra,rc,_,Lz,X,DJ,fun h=>GM h,HC⟩
 obtain⟨j,ra,rc,mv,hj,rfl,sK,JH,hI⟩:=hrel;have HI:=cw hI;have DJ:=cw sK;have AJ:((cu c).take j).length=j:=by rw[Ax,GH.out];omega
 have mM:=cw AJ;clear hI sK AJ;by_cases aA:j<q
 ·obtain rfl:=JH aA;obtain⟨m,mt,iS,wQ,e1,e2,e3⟩:=FR j aA;obtain⟨L,hL⟩:∃L,(cu c).take j=L:=Ey;rw[hL]at HI mM iS;have HM:=cw (And.intro iS wQ);obtain⟨r,hr⟩:∃r,4*(q-j)=r:=Ey;have HR:=cw hr;have hjb:j<250000:=by have:=OE.out;omega
  have r0:(0:Int)<r:=O;have r1:(1:Int)<r:=O;have r2:(2:Int)<r:=O;have r3:(3:Int)<r:=O;have r4:(4:Int)<=r:=O;obtain⟨aq,hO⟩:∃aq,o+(10+4*j)*4=aq:=Ey;have HO:=cw hO;rw[hO]at e1 e2 e3 ⊢;have c6:wr.cell? (D (w.heap.size+1) 6 Z)=U mv:=by simp[Wc,HI.box]
  have W5:=eb HI.box;have eX:Hi (∀wq,Bw w wq->wq.cell? (D g (aq+5) Z)=U (Y m.kind)/\wq.cell? (D g (aq+9) Z)=U (Y mt)/\wq.cell? (D g (aq+13) Z)=U (Y m.body)):=fun wq q=>⟨Cb q e1,Cb q e2,Cb q e3⟩;rw[hr];clear e1 e2 e3 iS wQ hr hO hL;go_upto_region 5 with fail;have eF:Hi (∀(w6:M) (g6 dP:Nat),w6.ownsRow w.heap.size 73 3 (S (U (D g6 0 Z)) (L.length+1) dP) (L.length+1) (lj L++[Y m.kind,Bo (mt.toList== [255]),Y m.body])->(wr.alloc (C #[Y m.kind,Bo (mt.toList== [255]),Y m.body] 73)).drew.grownBy w6 mv.ownBlock->uc w (w6.setCell (D (w.heap.size+1) 6 Z) (S (U (D g6 0 Z)) (L.length+1) dP)) (b8 c.vt 0) c.s c.n c.ft c.tt c.k (S (U (D g6 0 Z)) (L.length+1) dP) ((cu c).take (j+1))/\w6.cell? (D (w.heap.size+1) 6 Z)=U mv/\w6.frozen? (D (w.heap.size+1) 6 Z)=false/\Bw w w6):=fun w6 g6 dP h1 h2=>by have hA:=HI.below (((By).alloc Ln (C #[Y m.kind,Bo (mt.toList== [255]),Y m.body] 73)).drew);obtain⟨q1,q2,q3⟩:=hA.put ⟨m.kind,mt.toList== [255],m.body⟩ h1 h2;refine⟨?_,q2,q3,hA.bel.grown h2 hA.bel.size (fun k hk=>(hA.own.lt k hk).1)⟩;rw[HM.1];rw[<-HM.2]at q1;exact q1
  refine wp_region_held_drew (S:=fun w'=>w'.cell? (D g (aq+5) Z)=U (Y m.kind)/\w'.cell? (D g (aq+9) Z)=U (Y mt)/\w'.cell? (D g (aq+13) Z)=U (Y m.body)) Kr ?_ (fun hHeld=>?_);·exact eX _ HI.bel.drew
  refine tk 0 ?_;try simp only[Ap,cq,ct,cr]
  refine tk 2 ?_;try simp only[Ap,cq,ct,cr]
  refine tk 3 ?_;try simp only[Ap,cq,ct,cr]
  refine tk 4 ?_;try simp only[Ap,cq,ct,cr]
  refine tk 5 ?_;try simp only[Ap,cq,ct,cr]
  refine tk 6 ?_;try simp only[Ap,cq,ct,cr]
  refine tk 7 ?_;try simp only[Ap,cq,ct,cr]
  refine tk 8 ?_;try simp only[Ap,cq,ct,cr]
  refine tk 9 ?_;try simp only[Ap,cq,ct,cr]
  refine tk 10 ?_;try simp only[Ap,cq,ct,cr]
  refine tk 11 ?_;try simp only[Ap,cq,ct,cr]
  refine tk 12 ?_;try simp only[Ap,cq,ct,cr]
  refine tk 13 ?_;try simp only[Ap,cq,ct,cr]
  refine tk 14 ?_;try simp only[Ap,cq,ct,cr]
  refine tk 15 ?_;try simp only[Ap,cq,ct,cr]
  refine wpAnyH_ready (rs:=[1,16]) Kr Sq ?_;refine AllReadyH.cons X (fun K hK=>?_) (AllReadyH.cons X (fun K hK=>?_) AllReadyH.nil)
  ·go_simp;refine hK.out _ _ ?_ (fun hHeld2=>?_);(·exact eX _ HI.bel.drew);clear hK K;refine wpAnyH_ready (rs:=[16]) Kr Sq ?_;refine AllReadyH.cons X (fun K hK=>?_) AllReadyH.nil;go_simp;refine hK.out _ _ ?_ (fun tT=>?_);(·exact eX _ (HI.bel.alloc HI.bel.size _).drew);clear hK K;refine wpAnyH_ready (rs:=[17]) Kr Sq ?_;refine AllReadyH.cons X (fun K hK=>?_) AllReadyH.nil;refine step_append_lies _ X (.tmp 40) (.tmp 55) 66 X w.heap.size 73 i0 wt 3 40 underlying66 dO cU dA bL X Dc mv L.length (lj L) (by simp[Ae,Ap]) ((HI.out.own.alloc _).drew) (D wr.heap.size 0 Z) 1 1 [Y m.kind,Bo (mt.toList== [255]),Y m.body] (by simp[Ae,Ap]) X (World.news_of_block (w:=(wr.alloc (C #[Y m.kind,Bo (mt.toList== [255]),Y m.body] 73)).drew) (bl wr (C #[Y m.kind,Bo (mt.toList== [255]),Y m.body] 73))) (by intro u hu;simp at hu;rcases hu with rfl|rfl|rfl<;>rfl) Dc (by have:=mM.out;unfold maxLen;omega) (by have:=mM.out;omega) (by have:=HI.out.bel.size;simp;omega) (wr.heap.size+1) Sq ?_;intro g6 dP w6 h1 h2 h3 h4;obtain⟨IB,t6,y6,eB⟩:=eF w6 g6 dP h1 h2;have i4:=cw IB;have bB:=cw eB;clear h1 h2 h3 h4 IB eB;refine hK.out _ _ ?_ (fun tU=>?_);(·exact eX _ bB);clear hK K;refine tk 18 ?_;(try simp only[Ap,cq,ct,cr]);refine wpAnyH_ready (rs:=[19]) Kr Sq ?_;refine AllReadyH.cons X (fun K hK=>?_) AllReadyH.nil;go_simp;refine hK.out _ _ ?_ (fun tV=>?_);(·exact eX _ i4.bel);clear hK K;refine wpAnyH_done Kr ?_ _;have kU:Hi (∃mv',uc w (w6.setCell (D (w.heap.size+1) 6 Z) (S (U (D g6 0 Z)) (L.length+1) dP)) (b8 c.vt 0) c.s c.n c.ft c.tt c.k mv' ((cu c).take (j+1))):=⟨_,i4⟩;generalize w6.setCell (D (w.heap.size+1) 6 Z) (S (U (D g6 0 Z)) (L.length+1) dP)=w7 at kU ⊢;clear hHeld hHeld2 tT tU tV c6 t6 y6 i4 bB eF eX;go_wp2;obtain⟨mv',h7⟩:=kU.out;have e4:=HR.out;have e5:=DJ.out;have e6:=HO.out;refine⟨⟨j+1,_,_,mv',O,by rw[show r-4=4*(q-(j+1))by omega],O,fun yL=>?_,h7⟩,by simp[Qb];omega⟩;rw[G O,show aq+16=o+(10+4*(j+1))*4 by omega]
  go_simp;refine hK.out _ _ ?_ (fun hHeld2=>?_);·exact eX _ (HI.bel.alloc HI.bel.size _).drew
  clear hK K;refine wpAnyH_ready (rs:=[1]) Kr Sq ?_;refine AllReadyH.cons X (fun K hK=>?_) AllReadyH.nil;go_simp;refine hK.out _ _ ?_ (fun tT=>?_);·exact eX _ (HI.bel.alloc HI.bel.size _).drew
  clear hK K;refine wpAnyH_ready (rs:=[17]) Kr Sq ?_;refine AllReadyH.cons X (fun K hK=>?_) AllReadyH.nil;refine step_append_lies _ X (.tmp 40) (.tmp 55) 66 X w.heap.size 73 i0 wt 3 40 underlying66 dO cU dA bL X Dc mv L.length (lj L) (by simp[Ae,Ap]) ((HI.out.own.alloc _).drew) (D wr.heap.size 0 Z) 1 1 [Y m.kind,Bo (mt.toList== [255]),Y m.body] (by simp[Ae,Ap]) X (World.news_of_block (w:=(wr.alloc (C #[Y m.kind,Bo (mt.toList== [255]),Y m.body] 73)).drew) (bl wr (C #[Y m.kind,Bo (mt.toList== [255]),Y m.body] 73))) (by intro u hu;simp at hu;rcases hu with rfl|rfl|rfl<;>rfl) Dc (by have:=mM.out;unfold maxLen;omega) (by have:=mM.out;omega) (by have:=HI.out.bel.size;simp;omega) (wr.heap.size+1) Sq ?_;intro g6 dP w6 h1 h2 h3 h4;obtain⟨IB,t6,y6,eB⟩:=eF w6 g6 dP h1 h2;have i4:=cw IB;have bB:=cw eB;clear h1 h2 h3 h4 IB eB;refine hK.out _ _ ?_ (fun tU=>?_);·exact eX _ bB
  clear hK K;refine tk 18 ?_;try simp only[Ap,cq,ct,cr]
  refine wpAnyH_ready (rs:=[19]) Kr Sq ?_;refine AllReadyH.cons X (fun K hK=>?_) AllReadyH.nil;go_simp;refine hK.out _ _ ?_ (fun tV=>?_);·exact eX _ i4.bel
  clear hK K;refine wpAnyH_done Kr ?_ _;have kU:Hi (∃mv',uc w (w6.setCell (D (w.heap.size+1) 6 Z) (S (U (D g6 0 Z)) (L.length+1) dP)) (b8 c.vt 0) c.s c.n c.ft c.tt c.k mv' ((cu c).take (j+1))):=⟨_,i4⟩;generalize w6.setCell (D (w.heap.size+1) 6 Z) (S (U (D g6 0 Z)) (L.length+1) dP)=w7 at kU ⊢;clear hHeld hHeld2 tT tU tV c6 t6 y6 i4 bB eF eX;go_wp2;obtain⟨mv',h7⟩:=kU.out;have e4:=HR.out;have e5:=DJ.out;have e6:=HO.out;refine⟨⟨j+1,_,_,mv',O,by rw[show r-4=4*(q-(j+1))by omega],O,fun yL=>?_,h7⟩,by simp[Qb];omega⟩;rw[G O,show aq+16=o+(10+4*(j+1))*4 by omega]
 obtain rfl:j=q:=O;have e0:4*(j-j)=0:=O;rw[e0];have hms:=ye (by rw[GH.out];exact Ln);have HE:Hi (uc w wr (b8 c.vt 0) c.s c.n c.ft c.tt c.k mv (cu c)):=by have h:=HI.out;rw[hms]at h;exact h
 obtain⟨ma,mc,rfl,_⟩:=yr HE.own;have lA:=HE.out.box;have pG:=HE.out.res;obtain⟨c0,c1,c2,c3,c4,c5,c6⟩:=Ki lA;obtain⟨z0,z1,z2,z3,z4,z5,z6⟩:=Ki pG;have y0:wr.frozen? (D w.heap.size 0 Z)=false:=Fz pG;have y1:wr.frozen? (D w.heap.size 1 Z)=false:=Fz pG;have y2:wr.frozen? (D w.heap.size 2 Z)=false:=Fz pG;have y3:wr.frozen? (D w.heap.size 3 Z)=false:=Fz pG;have y4:wr.frozen? (D w.heap.size 4 Z)=false:=Fz pG;have y5:wr.frozen? (D w.heap.size 5 Z)=false:=Fz pG;have y6:wr.frozen? (D w.heap.size 6 Z)=false:=Fz pG;clear lA pG hms e0 JH HC FR DJ hj aA;go_wp2_with fail;refine db (v:=dm (b8 c.vt 0) c.s c.n c.ft c.tt c.k (S ma (cu c).length mc)) (by simp[results,results88,go_sem,dm,z0,z1,z2,z3,z4,z5,z6]) X ?_;refine⟨?_,ma,mc,X,?_⟩;·exact(((((((HE.bel.setCell (p:=D w.heap.size 0 Z) Ln _).setCell (p:=D w.heap.size 1 Z) Ln _).setCell (p:=D w.heap.size 2 Z) Ln _).setCell (p:=D w.heap.size 3 Z) Ln _).setCell (p:=D w.heap.size 4 Z) Ln _).setCell (p:=D w.heap.size 5 Z) Ln _).setCell (p:=D w.heap.size 6 Z) Ln _)
 have aI:=jb HE.res HE.own Dc;exact dk (dk (dk (dk (dk (dk (dk HE.own aI _) aI _) aI _) aI _) aI _) aI _) aI _
def Hc(x y:Vl):Bool:=x.kind==y.kind&&(x.text.toList==y.text.toList&&(x.alt==y.alt&&x.kids==y.kids))
theorem Zy(x y:Vl):Hc x y=true↔x=y:=by
 unfold Hc;simp only[xp,jq];obtain⟨a,b,c,d⟩:=x;obtain⟨a',b',c',d'⟩:=y;constructor;·rintro⟨h1,h2,h3,h4⟩;simp only at h1 h2 h3 h4;rw[Lib.toList_data,Lib.toList_data]at h2;have hb:=je (Array.toList_inj.1 h2);subst h1 hb h3 h4;rfl
 intro h;injection h with h1 h2 h3 h4;subst h1 h2 h3 h4;exact⟨X,X,X,X⟩
theorem ai4{us:Ls Vl}(hl:vs.length=us.length)(h:∀j,j<vs.length->vl vs j=vl us j):vs=us:=by
 apply Ll hl;intro j h1 h2;have:=h j h1;unfold vl at this;rw[dy,dy,dz h1,dz h2]at this;exact this
theorem adG(vs us:Ls Vl)(a1 a2:Oo Ad)(c1 c2:Nat)(w:M)(h1:qf w a1 vs)(h2:qf w a2 us)(hn:vs.length<=140737488351232)(hm:us.length<=140737488351232):Cs prog 89 #[S a1 vs.length c1,S a2 us.length c2] w fun e w'=>dw (vs=us) w e w':=by
 have H1:=cw h1;have H2:=cw h2;clear h1 h2;by_cases hl:vs.length=us.length
 ·have HL:=cw hl;rw[<-hl];obtain⟨n,fJ⟩:∃n,vs.length=n:=Ey;have jI:=cw fJ;rw[fJ]at hn ⊢;clear hl hm fJ;go_enter func89,ntmps89;go_wp2;go_loopw [13] (fun i wr=>∃k:Nat,k<=n/\i=I J k/\(∀j,j<k->vl vs j=vl us j)/\∃q,wr=w.drewN q) (fun i _=>n-(Io i).toNat);case atStart=>exact⟨0,Lz,X,fun j hj=>Ab hj (dh _),0,X⟩
  obtain⟨k,hk,rfl,YO,q,rfl⟩:=hrel;have DL:=cw YO;clear YO;by_cases aA:k<n
  ·obtain⟨g1,o1,e1,x1,x2,x3,x4⟩:=H1 k (by rw[jI.out];exact aA);obtain⟨g2,o2,e2,y1,y2,y3,y4⟩:=H2 k (by rw[<-HL,jI.out];exact aA);subst e1 e2;have aN:(k:Int)<n:=O;have HX:Hi (Hc (vl vs k) (vl us k)=true->vl vs k=vl us k):=(Zy _ _).1;(have HY:Hi (Hc (vl vs k) (vl us k)=false->¬vs=us):=fun q e=>by have:=(Zy (vl vs k) (vl us k)).2 (by rw[e]);rw[q]at this;cases this);have HZ:Hi (vl vs k=vl us k->∀j,j<k+1->vl vs j=vl us j):=fun q j hj=>by
    by_cases AE:j=k;(·rw[AE];exact q);exact DL j O
   generalize vl vs k=x at x1 x2 x3 x4 HX HY HZ;generalize vl us k=y at y1 y2 y3 y4 HX HY HZ;obtain⟨xk,xt,xa,xc⟩:=x;obtain⟨yk,yt,ya,yc⟩:=y;unfold Hc at HX HY;simp only at x1 x2 x3 x4 y1 y2 y3 y4 HX HY;cases hb1:(xk==yk);(case false=>have HN:=cw (HY (by rw[hb1];rfl));clear HX HY HZ;go_wp2;go_quiet (fail);go_wp2;go_ret;exact cg HN (Go.below_drewN (Go.below_drewN By _) _));cases hb2:(xt.toList==yt.toList);(case false=>have HN:=cw (HY (by rw[hb2,Bool.false_and,Eb]));clear HX HY HZ;go_wp2;go_quiet (fail);go_wp2;go_ret;exact cg HN (Go.below_drewN (Go.below_drewN By _) _));cases hb3:(xa==ya);(case false=>have HN:=cw (HY (by rw[hb3,Bool.false_and,Eb,Eb]));clear HX HY HZ;go_wp2;go_quiet (fail);go_wp2;go_ret;exact cg HN (Go.below_drewN (Go.below_drewN By _) _));cases hb4:(xc==yc);(case false=>have HN:=cw (HY (by rw[hb4,Eb,Eb,Eb]));clear HX HY HZ;go_wp2;go_quiet (fail);go_wp2;go_ret;exact cg HN (Go.below_drewN (Go.below_drewN By _) _));case true=>have o5:=cw (HZ (HX (by rw[hb1,hb2,hb3,hb4];rfl)));clear HX HY HZ;go_wp2;go_quiet (fail);go_wp2;go_roundw;(case rel=>exact⟨k+1,O,Gn,o5,_,X⟩);exact Ms
  have aN:(n:Int)<=k:=O;obtain rfl:k=n:=O;have nJ:Hi (vs=us):=ai4 HL fun j hj=>DL j (by rw[jI.out]at hj;exact hj);go_wp2;go_ret;exact ia nJ (Go.below_drewN By _)
 have EK:¬((vs.length:Int)=us.length):=O;have wP:((vs.length:Int)==us.length)=false:=So;have oY:Hi (¬vs=us):=fun h=>hl (by rw[h]);clear hl;go_enter func89,ntmps89;go_wp2;go_ret;exact cg oY By
theorem Oa{E:bj}(h:pb E cS 0 d (.ok vs)):vs.length<=400000/\∃c:CT,vs=c.tree/\c.Ok:=by
 rcases h with⟨_,q⟩|⟨_,_,q⟩|⟨hr,hd,hs,he,hE,f,_,hv⟩;·cases q
 ·cases q
 unfold jh at hv;obtain⟨us,z,h1,h2⟩:=og hv;have iH:=h1;split at h2;·cases h2
 cases h2;have hl:=xh (E:=E) (by rw[hs];exact hr.1.fine) (by rw[hs];decide) iH;rw[he]at hl;exact⟨O,acX hs hE ⟨_,_,_,_,_,iH⟩⟩
def CT.again(c:CT)(pr:Bool):CT:=ctOf (b8 c.vt 0) c.s c.n pr c.ft c.tt c.k (cu c)
theorem Iz(h:Sz c.tree):Ef c.s c.n c.ft c.tt c.k (cu c):=by
 have hq:=u7 c;have key:=h.txt;refine⟨key 2 O,key 4 O,key 6 O,key 7 O,key 8 O,fun j hj=>?_⟩;have iY:j<(mi c.ms).length:=by unfold cu at hj;rw[ou]at hj;exact hj
 have e:(cu c).getD j fh=Bl ((mi c.ms).getD j (az,az,az)):=by unfold cu;rw[dy,Ch,dz iY,dy,dz iY];rfl
 have k1:=key (10+4*j+1) O;have k3:=key (10+4*j+3) O;rw[rz c j iY 1 Dc]at k1;rw[rz c j iY 3 Dc]at k3;rw[e];exact⟨k1,k3⟩
abbrev po:Vv:=dm 0 ⟨#[]⟩ ⟨#[]⟩ ⟨#[]⟩ ⟨#[]⟩ ⟨#[]⟩ (S Z 0 0)
def Hs(sn:Sn->Ad)(za:Ad)(k q:Int)(er:Vv):Prop:=(k=1/\q=0/\((∃p,er=ml 0 (be p za))\/er=be 0 za))\/(2<=k/\k<=10/\er=be q (sn (uY k)))
def Mf(sn:Sn->Ad)(za:Ad)(v:Except (Int×Int) (Ls Vl))(w:M)(e:Ending)(w':M):Prop:=
 Bw w w'/\((∃k q er,v= .error (k,q)/\Hs sn za k q er/\e=Rt (Tu #[po,er]))\/
  (∃(c:CT) (pr:Bool),v= .ok c.tree/\c.Ok/\Sz c.tree/\(pr=true↔bu 8 c.n)/\
    ((c.tree≠(c.again pr).tree/\e=Rt (Tu #[po,be 0 (sn .Card)]))\/
     (c.tree=(c.again pr).tree/\¬ij (b8 c.vt 0) c.s c.n c.ft c.tt c.k (cu c).length/\e=Rt (Tu #[po,be 0 (sn .Card)]))\/
     (c.tree=(c.again pr).tree/\ij (b8 c.vt 0) c.s c.n c.ft c.tt c.k (cu c).length/\¬kx (cu c)/\e=Rt (Tu #[po,be 0 (sn .Mark)]))\/
     (c.tree=(c.again pr).tree/\ij (b8 c.vt 0) c.s c.n c.ft c.tt c.k (cu c).length/\kx (cu c)/\∃ma mc,e=Rt (Tu #[dm (b8 c.vt 0) c.s c.n c.ft c.tt c.k (S ma (cu c).length mc),.nilIface])/\w'.ownsRow w.heap.size 73 3 (S ma (cu c).length mc) (cu c).length (lj (cu c))))))
theorem uX(h:w.heap[g]? =U (C lh 68 (0,0))):w.cell? (D g 0 Z)=U (I J 0)/\w.cell? (D g 1 Z)=U (Y ⟨#[]⟩)/\w.cell? (D g 2 Z)=U (Y ⟨#[]⟩)/\w.cell? (D g 3 Z)=U (Y ⟨#[]⟩)/\w.cell? (D g 4 Z)=U (Y ⟨#[]⟩)/\w.cell? (D g 5 Z)=U (Y ⟨#[]⟩)/\w.cell? (D g 6 Z)=U (S Z 0 0)/\w.frozen? (D g 0 Z)=false/\w.frozen? (D g 1 Z)=false/\w.frozen? (D g 2 Z)=false/\w.frozen? (D g 3 Z)=false/\w.frozen? (D g 4 Z)=false/\w.frozen? (D g 5 Z)=false/\w.frozen? (D g 6 Z)=false:=⟨by simp[Wc,h],by simp[Wc,h],by simp[Wc,h],by simp[Wc,h],by simp[Wc,h],by simp[Wc,h],by simp[Wc,h],by simp[Wf,h],by simp[Wf,h],by simp[Wf,h],by simp[Wf,h],by simp[Wf,h],by simp[Wf,h],by simp[Wf,h]⟩
theorem uO(h:Bw W w)(a b c d e f g:Vv):Bw W (((((((w.setCell (D W.heap.size 0 Z) a).setCell (D W.heap.size 1 Z) b).setCell (D W.heap.size 2 Z) c).setCell (D W.heap.size 3 Z) d).setCell (D W.heap.size 4 Z) e).setCell (D W.heap.size 5 Z) f).setCell (D W.heap.size 6 Z) g):=
 ((((((h.setCell Ln _).setCell Ln _).setCell Ln _).setCell Ln _).setCell Ln _).setCell Ln _).setCell Ln _
theorem adp(E:bj)(d:Q)(v:Except (Int×Int) (Ls Vl))(w:M)(sn:Sn->Ad)(za:Ad)(hl:gy w sn)(hz:kv w sn za)(hd:d.size<=9223372036854775807)(hv:pb E cS 0 d v)(bX:∀vs,v= .ok vs->Sz vs):Cs prog 58 #[Y d] w fun e w'=>Mf sn za v w e w':=by
 have xM:Hi (∀wq,Cs prog 86 #[] wq fun e w'=>∃g,e=Rt (S (U (D g 0 Z)) 14 14)/\ew w' (U (D g 0 Z)) cS/\Bw wq w'):=fun wq=>Za wq;have HT:Hi (∀g wq,Bw w wq->ew wq (U (D g 0 Z)) cS->Cs prog 47 #[S (U (D g 0 Z)) 14 14,I J 0,Y d] wq fun e w'=>Mi sn za v wq e w'):=fun g wq q hs=>Qi E cS (U (D g 0 Z)) 14 0 d v wq sn za (hl.below q) (hz.below q) hs Nr Dc hd hv;have r9:Hi (∀(c:CT) (ma:Oo Ad) (mc:Nat) wq,Bw w wq->Sz c.tree->c.tree.length<=400000->il wq ma (cu c)->Cs prog 87 #[dm (b8 c.vt 0) c.s c.n c.ft c.tt c.k (S ma (cu c).length mc)] wq fun e w'=>Mh (b8 c.vt 0) c.s c.n c.ft c.tt c.k (cu c) wq e w'):=fun c ma mc wq q bL ML eN=>Zn _ _ _ _ _ _ _ ma mc wq sn (hl.below q) (by have:=(Iz bL).n;omega) (mr c.vt 0).1 (mr c.vt 0).2 eN (by have:=u7 c;unfold cu;rw[ou];omega);have rX:Hi (∀(c:CT) (ma:Oo Ad) (mc:Nat) wq,Bw w wq->Sz c.tree->c.tree.length<=400000->il wq ma (cu c)->(cu c).length<=mc->Cs prog 85 #[dm (b8 c.vt 0) c.s c.n c.ft c.tt c.k (S ma (cu c).length mc)] wq fun e w'=>Cr (b8 c.vt 0) c.s c.n c.ft c.tt c.k (cu c) sn wq e w'):=fun c ma mc wq q bL ML eN kK=>by have hT:=Iz bL;exact Ts _ _ _ _ _ _ _ ma mc wq sn za (hl.below q) (hz.below q) (by have:=hT.s;omega) (by have:=hT.n;omega) (by have:=hT.f;omega) (by have:=hT.t;omega) (by have:=hT.k;omega) eN hT.ms (by have:=u7 c;unfold cu;rw[ou];omega) kK
 have HL:Hi (gy w sn):=hl;have bS:Hi (∀x wq,Cs prog 60 #[I J 0,If 291 (Po (U (sn x)))] wq fun e w'=>e=Rt (be 0 (sn x))/\w'=wq):=fun x wq=>pj 0 _ wq;have HV:=cw hv;have gU:=cw bX;unfold Mf;clear hl hz hv bX;go_enter func58,ntmps58;go_wp2_with fail;refine(xM _).mono ?_;rintro e w1 ⟨g,rfl,jB,hb1⟩;have aC:Hi (Bw w w1):=dj hb1;have cF:Hi (w1.heap[w.heap.size]? =U (C lh 68 (0,0))):=bc (bl w _) hb1;have GQ:=cw (HT g w1 aC jB);clear jB hb1 HT xM;go_wp2_with fail;refine GQ.mono ?_;rintro e w2 ⟨hb2,h2⟩;have aD:Hi (Bw w w2):=Tm aC hb2;have eL:Hi (w2.heap[w.heap.size]? =U (C lh 68 (0,0))):=bc cF hb2;have kG:(∃k q er,v= .error (k,q)/\Hs sn za k q er/\(∃T u,er=If T u)/\e=Rt (Tu #[S Z 0 0,er]))\/(∃vs ta tc,v= .ok vs/\e=Rt (Tu #[S ta vs.length tc,.nilIface])/\w2.ownsRow w1.heap.size 60 4 (S ta vs.length tc) vs.length (df vs)):=by
  rcases h2 with⟨vs,ta,tc,cR,he,ho⟩|⟨p,cR,he⟩|⟨cR,he⟩|⟨k,q,cR,k1,k2,he⟩;·exact .inr ⟨vs,ta,tc,cR,he,ho⟩
  ·exact .inl ⟨1,0,_,cR,.inl ⟨X,X,.inl ⟨p,X⟩⟩,⟨_,_,X⟩,he⟩
  ·exact .inl ⟨1,0,_,cR,.inl ⟨X,X,.inr X⟩,⟨_,_,X⟩,he⟩
  exact .inl ⟨k,q,_,cR,.inr ⟨k1,k2,X⟩,⟨_,_,X⟩,he⟩
 clear h2 hb2 GQ;rcases kG with⟨k,q,er,cR,hF,⟨T,u,rfl⟩,rfl⟩|⟨vs,ta,tc,cR,rfl,ho⟩;·have HF:=cw (And.intro cR hF);obtain⟨z0,z1,z2,z3,z4,z5,z6,y0,y1,y2,y3,y4,y5,y6⟩:=uX eL;clear cR hF;go_wp2_with fail;refine db (v:=Tu #[po,If T u]) (by simp[results,results58,go_sem,dm,z0,z1,z2,z3,z4,z5,z6]) X ?_;exact⟨uO aD _ _ _ _ _ _ _,.inl ⟨k,q,_,HF.1,HF.2,X⟩⟩
 obtain⟨bP,c,rfl,hok⟩:=Oa (by rw[<-cR];exact HV);have hS:=gU _ cR;have fQ:=cw ho;have HX:=cw (And.intro cR (And.intro hok (And.intro hS bP)));have vS:=cw (acU c hok ta tc w2 (qf.of_own ho) (Do ho) O);clear cR hok hS ho;go_wp2_with fail;refine vS.mono ?_;rintro e w3 ⟨hb3,ma,mc,rfl,mB⟩;have aR:Hi (Bw w w3):=Tm aD hb3;have qU:Hi _:=bc eL hb3;have eK:=cw mB;have OS:Hi (qf w3 ta c.tree):=(qf.of_own fQ).below hb3;clear hb3 mB vS gU;unfold dm at r9 rX;unfold dm;have iD:Hi (Bw w3 (w3.alloc (C #[I J (b8 c.vt 0),Y c.s,Y c.n,Y c.ft,Y c.tt,Y c.k,S ma (cu c).length mc] 68))):=Be;have UN:=cw (r9 c ma mc (w3.alloc (C #[I J (b8 c.vt 0),Y c.s,Y c.n,Y c.ft,Y c.tt,Y c.k,S ma (cu c).length mc] 68)) (Tm aR iD) HX.2.2.1 HX.2.2.2 ((il.of_own eK).below iD));have TA:Hi ((w3.alloc (C #[I J (b8 c.vt 0),Y c.s,Y c.n,Y c.ft,Y c.tt,Y c.k,S ma (cu c).length mc] 68)).heap[w3.heap.size]? =U (C #[I J (b8 c.vt 0),Y c.s,Y c.n,Y c.ft,Y c.tt,Y c.k,S ma (cu c).length mc] 68 (0,0))):=bl w3 _;have nJ:Hi (∀(pr:Bool) (tb:Oo Ad) (td:Nat) wq,qf wq ta c.tree->qf wq tb (c.again pr).tree->Cs prog 89 #[S ta c.tree.length tc,S tb (c.again pr).tree.length td] wq fun e w'=>dw (c.tree=(c.again pr).tree) wq e w'):=fun pr tb td wq h1 h2=>adG _ _ ta tb tc td wq h1 h2 (by have:=HX.out.2.2.2;omega) (by have h3:=Zo (v:=b8 c.vt 0) (s:=c.s) (n:=c.n) (f:=c.ft) (t:=c.tt) (k:=c.k) (ms:=cu c) (pr:=pr);have h4:=u7 c;have h5:=HX.out.2.2.2;(have h6:(cu c).length=(mi c.ms).length:=by unfold cu;rw[ou]);have h7:(c.again pr).tree.length<=10+4*(cu c).length:=h3;omega);go_wp2_with fail;refine UN.mono ?_;rintro e w4 ⟨hb4,pr,tb,td,hpr,rfl,YC⟩;have NB:Hi (Bw w3 w4):=Tm iD hb4;have TB:=cw (bc TA hb4);have oF:=cw hpr;have vX:=cw (nJ pr tb td w4 (OS.below NB) (qf.of_own YC));have e4:(ctOf (b8 c.vt 0) c.s c.n pr c.ft c.tt c.k (cu c)).tree=(c.again pr).tree:=X;rw[e4];clear hb4 hpr YC UN TA nJ r9 e4 iD;go_wp2_with fail;refine vX.mono ?_;rintro e w5 ⟨r,rfl,hr,aH⟩;have KE:Hi _:=Tm NB aH;have NH:=cw (bc TB aH);have aO:Hi _:=Tm aR KE;have BS:=cw (bc qU KE);have nM:=cw (fm eK KE);clear aH vX TB NB
 cases r with
 |false=>
  have oY:Hi (c.tree≠(c.again pr).tree):=fun q=>by cases hr.2 q
  obtain⟨z0,z1,z2,z3,z4,z5,z6,y0,y1,y2,y3,y4,y5,y6⟩:=uX BS
  have wN:=lc z0
  have cC:=(HL.below aO).s.cCard
  have dZ:=bp cC
  simp only at dZ
  have HA:=cw (bS .Card w5)
  unfold be at HA
  clear hr rX
  go_wp2_with fail
  refine HA.mono ?_
  rintro e w6 ⟨rfl,rfl⟩
  go_wp2_with fail
  refine db (v:=Tu #[po,be 0 (sn .Card)]) (by simp[results,results58,go_sem,dm,be,z0,z1,z2,z3,z4,z5,z6]) X ?_
  exact⟨uO aO _ _ _ _ _ _ _,.inr ⟨c,pr,HX.1,HX.2.1,HX.2.2.1,oF,.inl ⟨oY,X⟩⟩⟩
 |true=>
  have NT:Hi _:=hr.1 X
  have IC:=NH.out
  have NF:=cw (rX c ma mc w5 aO HX.2.2.1 HX.2.2.2 ((il.of_own eK).below KE) (Do eK))
  obtain⟨k0,k1,k2,k3,k4,k5,k6⟩:=Ki IC
  have wN:=lc k0
  unfold Cr at NF
  clear hr rX IC
  go_wp2_with fail
  refine NF.mono ?_
  rintro e w6 ⟨eB,h6⟩
  have bB:Hi _:=Tm aO eB
  have IN:=bc BS eB
  have IC:=bc NH eB
  have K0:=cw IN
  have hU:=cw (fm nM eB)
  obtain⟨z0,z1,z2,z3,z4,z5,z6,y0,y1,y2,y3,y4,y5,y6⟩:=uX IN
  clear eB NF k0 k1 k2 k3 k4 k5 k6 wN IN NH
  obtain⟨k0,k1,k2,k3,k4,k5,k6⟩:=Ki IC
  clear IC
  rcases h6 with⟨hc,rfl⟩|⟨hc,hm,rfl⟩|⟨hc,hm,rfl⟩
  ·have HN:=cw hc
   clear hc
   unfold be
   go_wp2_with fail
   refine db (v:=Tu #[po,be 0 (sn .Card)]) (by simp[results,results58,go_sem,dm,be,z0,z1,z2,z3,z4,z5,z6]) X ?_
   exact⟨uO bB _ _ _ _ _ _ _,.inr ⟨c,pr,HX.1,HX.2.1,HX.2.2.1,oF,.inr (.inl ⟨NT,HN,X⟩)⟩⟩
  ·have HN:=cw (And.intro hc hm)
   clear hc hm
   unfold be
   go_wp2_with fail
   refine db (v:=Tu #[po,be 0 (sn .Mark)]) (by simp[results,results58,go_sem,dm,be,z0,z1,z2,z3,z4,z5,z6]) X ?_
   exact⟨uO bB _ _ _ _ _ _ _,.inr ⟨c,pr,HX.1,HX.2.1,HX.2.2.1,oF,.inr (.inr (.inl ⟨NT,HN.1,HN.2,X⟩))⟩⟩
  ·have HN:=cw (And.intro hc hm)
   clear hc hm
   go_wp2_with fail
   refine db (v:=Tu #[dm (b8 c.vt 0) c.s c.n c.ft c.tt c.k (S ma (cu c).length mc),.nilIface]) (by simp[results,results58,go_sem,dm,z0,z1,z2,z3,z4,z5,z6]) X ?_
   have aI:=jb K0 hU Dc
   have MN:=Gi hU aD.size
   exact⟨uO bB _ _ _ _ _ _ _,.inr ⟨c,pr,HX.1,HX.2.1,HX.2.2.1,oF,.inr (.inr (.inr ⟨NT,HN.1,HN.2,ma,mc,X,dk (dk (dk (dk (dk (dk (dk MN aI _) aI _) aI _) aI _) aI _) aI _) aI _⟩))⟩⟩
end
section
def Eu(c:CT)(pr:Bool):Prop:=1<c.vt.size\/(pr=true/\c.pr=false)\/c.ms=U []
theorem acR(h:bu 1 t):bT (t.toList== [255])=t:=by
 obtain⟨h1,h2⟩:=(Bc t).2 h;have e:t=⟨#[t.data[0]'(by show 0<t.size;omega)]⟩:=by
  apply je;apply Array.ext;·exact h1
  intro i hi hj;have:i=0:=by have:i<1:=hj;omega
  subst this;rfl
 generalize t.data[0]'(by show 0<t.size;omega)=a at e;subst e;have e2:(ByteArray.toList ⟨#[a]⟩)=[a]:=by rw[Lib.toList_data]
 have hb:b8 ⟨#[a]⟩ 0=a.toNat:=by unfold b8;rfl
 rw[e2];rcases h2 with h2|h2;·rw[hb]at h2;have:a=0:=UInt8.toNat_inj.1 (by show a.toNat=0;omega);subst this;rfl
 rw[hb]at h2;have:a=255:=UInt8.toNat_inj.1 (by show a.toNat=255;omega);subst this;rfl
theorem ai6(h:t.size=1):(⟨#[Uo (b8 t 0).toNat]⟩:Q)=t:=by
 apply je;apply Array.ext;·exact h.symm
 intro i hi hj;have:i=0:=by have:i<1:=hi;omega
 subst this;have e:b8 t 0=((t.data[0]'(by show 0<t.size;omega)).toNat:Int):=by have:=gq t 0 O;exact this.symm
 show Uo (b8 t 0).toNat=_;rw[e,ld,UInt8.ofNat_toNat]
theorem ab1(hok:c.Ok)(hp:pr=true↔bu 8 c.n):c.tree≠(c.again pr).tree↔Eu c pr:=by
 have h9:c.ms=U []->vl c.tree 9=⟨11,az,0,0⟩:=fun h=>by unfold CT.tree;rw[h];rfl
 constructor
 ·intro aI;refine zg fun jA=>aI ?_;unfold Eu at jA;have n2:¬(pr=true/\c.pr=false):=fun q=>jA (.inr (.inl q));have n3:c.ms≠U []:=fun q=>jA (.inr (.inr q));have h1:=((xd _).2 hok.vt).1;have e1:=ai6 (t:=c.vt) O;have e2:pr=c.pr:=by
   cases hc:c.pr with
   |true=>
    have:=hok.n
    rw[hc]at this
    exact hp.2 this
   |false=>
    cases hpp:pr with
    |false=>rfl
    |true=>exact Ab ⟨hpp,hc⟩ n2
  have e3:oo (cu c)=c.ms:=by
   unfold oo cu
   cases hm:c.ms with
   |none=>rfl
   |some qs=>
    show(if((qs.map Bl).length=0)then Z else U ((qs.map Bl).map qm))=U qs
    rw[ou,G (fun q=>n3 (by rw[hm,List.length_eq_zero_iff.1 q])),List.map_map]
    congr 1
    conv=>rhs;rw[<-List.map_id qs]
    refine List.map_congr_left fun q hq=>?_
    have:=(hok.ms qs hm q hq).2
    show(q.1,bT (q.2.1.toList== [255]),q.2.2)=q
    rw[acR this]
  have:c.again pr=c:=by unfold CT.again ctOf;rw[e1,e2,e3]
  rw[this]
 intro ho he;rcases ho with ho|⟨q1,q2⟩|ho;·have:=kr (fun l=>(vl l 1).text.size) he;have a1:(vl c.tree 1).text.size=c.vt.size:=X;have a2:(vl (c.again pr).tree 1).text.size=1:=X;simp only[a1,a2]at this;omega
 ·have:=kr (fun l=>(vl l 4).kind) he;have a1:(vl c.tree 4).kind=if c.pr then 8 else 7:=X
  have a2:(vl (c.again pr).tree 4).kind=if pr then 8 else 7:=X
  simp only[a1,a2]at this;rw[q1,q2]at this;exact Ab this Dc
 have:=kr (fun l=>vl l 9) he;simp only[h9 ho]at this;have e3:oo (cu c)=Z:=by unfold oo cu;rw[ho];rfl
 have a2:vl (c.again pr).tree 9=⟨15,az,0,0⟩:=by unfold CT.again ctOf CT.tree;simp only;rw[e3];rfl
 rw[a2]at this;injection this with this;exact Ab this Dc
theorem acY{E:bj}(h:pb E cS 0 d (.ok c.tree)):∀j,j<c.tree.length->(vl c.tree j).text.size<=1048576:=by
 rcases h with⟨_,q⟩|⟨_,_,q⟩|⟨hr,hd,hs,he,hE,f,hf,hv⟩;·cases q
 ·cases q
 unfold jh at hv;obtain⟨us,z,h1,h2⟩:=og hv;split at h2;·cases h2
 cases h2;have gP:∀n∈cS,∀k∈n.kids,k.dflt.size<=5:=by decide+kernel
 have pE:ee E.s:=by rw[hs];exact Bb.1
 have eD:=Pu (E:=E) (B:=1048576) Dc (by rw[he];omega) (fun i=>by
  by_cases hi:i<E.s.length;·exact pE.fine.eight i hi
  ·rw[Js hi];exact Lz) (fun i k hk hd=>by
  by_cases hi:i<E.s.length
  ·obtain⟨u,e1,e2,_⟩:=hE.dv i hi k hk hd;have hw:=pE.fine.within i hi k hk;obtain⟨_,_,lU,jN,gW,lV,lW⟩:=pw pE (i:=k.node.toNat) O;have fF:=((uv (fun z=>gW O) O).1 e1).1;have h3:=Qe _ _ _ fF;have hm:nd E.s i∈cS:=by
    rcases Xj E.s i with q|q;(·rw[<-hs];exact q);rw[q]at hk;cases hk
   have h4:=gP _ hm k hk;rw[e2];exact⟨by show u.size<=_;omega,Cg _⟩
  rw[Js hi]at hk;cases hk) f O _ _ _ _ _ _ h1
 intro j hj;exact(eD _ (Qo hj)).1
theorem acV(h:∀j,j<c.tree.length->(vl c.tree j).text.size<=1048576):∀j,j<(cu c).length->((cu c).getD j fh).body.size<=1048576:=fun j hj=>by
 have hq:=u7 c;have iY:j<(mi c.ms).length:=by unfold cu at hj;rw[ou]at hj;exact hj
 have e:(cu c).getD j fh=Bl ((mi c.ms).getD j (az,az,az)):=by unfold cu;rw[dy,Ch,dz iY,dy,dz iY];rfl
 have k3:=h (10+4*j+3) O;rw[rz c j iY 3 Dc]at k3;rw[e];exact k3
end
section
open Go.Proofs.Tryz
open Go.RowKit
def Mj(v:Int)(s n f t k:Q)(ms:Ls du)(sn:Sn->Ad)(w:M)(e:Ending)(w':M):Prop:=
 Bw w w'/\((¬ij v s n f t k ms.length/\e=Rt (Tu #[Y ⟨#[]⟩,be 0 (sn .Card)]))\/(ij v s n f t k ms.length/\¬kx ms/\e=Rt (Tu #[Y ⟨#[]⟩,be 0 (sn .Mark)]))\/
  (ij v s n f t k ms.length/\kx ms/\∃pr:Bool,(pr=true↔bu 8 n)/\((4000<(ctOf v s n pr f t k ms).bytes.size/\∃q,e=Rt (Tu #[Y ⟨#[]⟩,be q (sn .Long)]))\/((ctOf v s n pr f t k ms).bytes.size<=4000/\e=Rt (Tu #[Y (ctOf v s n pr f t k ms).bytes,.nilIface])))))
theorem ahM{sn:Sn->Ad}{za:Ad}{b:Q}{e:Ending}(h:(∃c,(if 4000<b.size then(.error 2:Except Int Q)else .ok b)= .ok c/\e=Rt (Tu #[Y c,.nilIface]))\/(∃p,(if 4000<b.size then(.error 2:Except Int Q)else .ok b)= .error 1/\e=Rt (Tu #[Y ⟨#[]⟩,ml 0 (be p za)]))\/((if 4000<b.size then(.error 2:Except Int Q)else .ok b)= .error 1/\e=Rt (Tu #[Y ⟨#[]⟩,be 0 za]))\/(∃k q,(if 4000<b.size then(.error 2:Except Int Q)else .ok b)= .error k/\(k=2\/k=8\/k=11)/\e=Rt (Tu #[Y ⟨#[]⟩,be q (sn (Dr k))]))):∃(x:Q) (y:Vv),e=Rt (Tu #[Y x,y])/\((4000<b.size/\x=⟨#[]⟩/\∃q,y=be q (sn .Long))\/(b.size<=4000/\x=b/\y= .nilIface)):=by
 by_cases hb:4000<b.size
 ·simp only[ba hb]at h;rcases h with⟨c,q,_⟩|⟨p,q,_⟩|⟨q,_⟩|⟨k,p,q,_,he⟩;·cases q
  ·cases q
  ·cases q
  cases q;exact⟨_,_,he,.inl ⟨hb,X,p,X⟩⟩
 simp only[G hb]at h;rcases h with⟨c,q,he⟩|⟨p,q,_⟩|⟨q,_⟩|⟨k,p,q,_⟩;·cases q;exact⟨_,_,he,.inr ⟨O,X,X⟩⟩
 ·cases q
 ·cases q
 cases q
theorem adr(v:Int)(s n f t k:Q)(ms:Ls du)(ma:Oo Ad)(mc:Nat)(w:M)(sn:Sn->Ad)(za:Ad)(hl:gy w sn)(hz:kv w sn za)(hT:Ef s n f t k ms)(eN:il w ma ms)(hn:ms.length<=1000000)(kK:ms.length<=mc):Cs prog 57 #[dm v s n f t k (S ma ms.length mc)] w fun e w'=>Mj v s n f t k ms sn w e w':=by
 have rX:Hi (∀wq,Bw w wq->Cs prog 85 #[dm v s n f t k (S ma ms.length mc)] wq fun e w'=>Cr v s n f t k ms sn wq e w'):=fun wq q=>Ts v s n f t k ms ma mc wq sn za (hl.below q) (hz.below q) (by have:=hT.s;omega) (by have:=hT.n;omega) (by have:=hT.f;omega) (by have:=hT.t;omega) (by have:=hT.k;omega) (eN.below q) hT.ms O kK;have xM:Hi _:=fun wq=>Za wq;have r9:Hi (∀wq,Bw w wq->ij v s n f t k ms.length->Cs prog 87 #[dm v s n f t k (S ma ms.length mc)] wq fun e w'=>Mh v s n f t k ms wq e w'):=fun wq q hc=>Zn v s n f t k ms ma mc wq sn (hl.below q) (by have:=hT.n;omega) hc.v0 (by have:=hc.v2;omega) (eN.below q) hn;have KF:Hi (∀(g:Nat) (pr:Bool) (ta:Oo Ad) (tc:Nat) wq,Bw w wq->ij v s n f t k ms.length->kx ms->(pr=true↔bu 8 n)->ew wq (U (D g 0 Z)) cS->qf wq ta (ctOf v s n pr f t k ms).tree->(ctOf v s n pr f t k ms).tree.length<=tc->Cs prog 46 #[S (U (D g 0 Z)) 14 14,I J 0,S ta (ctOf v s n pr f t k ms).tree.length tc] wq fun e w'=>Rx sn za (if 4000<(ctOf v s n pr f t k ms).bytes.size then .error 2 else .ok (ctOf v s n pr f t k ms).bytes) wq e w'):=fun g pr ta tc wq q hc hm hp hs ht dX=>by obtain⟨F,hF⟩:=acW hc hm hp;have p8:=aiJ (v:=v) (pr:=pr) hT hn;have C0:=Zo (v:=v) (s:=s) (n:=n) (f:=f) (t:=t) (k:=k) (ms:=ms) (pr:=pr);(have eN:∀j,j<(ctOf v s n pr f t k ms).tree.length->vl (ctOf v s n pr f t k ms).tree j∈(ctOf v s n pr f t k ms).tree:=fun j hj=>by unfold vl;rw[dy,dz hj];exact me _);exact Tq F cS (U (D g 0 Z)) 14 0 _ ta tc _ wq sn za (hl.below q) (hz.below q) hs Nr Dc ht dX ⟨O,fun j hj=>(p8 _ (eN j hj)).1⟩ (fun j hj=>(p8 _ (eN j hj)).2) hF
 unfold Mj;unfold Cr at rX;unfold be at rX ⊢;unfold dm at rX r9 ⊢;clear hl hz eN hT;go_enter func57,ntmps57;go_wp2_with fail;refine(rX _ Be).mono ?_;rintro e w1 ⟨hb1,h1⟩;have aC:Hi _:=dj hb1;have A9:Hi (w1.heap[w.heap.size]? =U (C #[I J v,Y s,Y n,Y f,Y t,Y k,S ma ms.length mc] 68 (0,0))):=bc (bl w _) hb1;clear hb1 rX;rcases h1 with⟨hc,rfl⟩|⟨hc,hm,rfl⟩|⟨hc,hm,rfl⟩;·have HN:=cw hc;clear hc;go_wp2;go_ret2;exact⟨aC,.inl ⟨HN,X⟩⟩
 ·have HN:=cw (And.intro hc hm);clear hc hm;go_wp2;go_ret2;exact⟨aC,.inr (.inl ⟨HN.1,HN.2,X⟩)⟩
 have dQ:=cw (And.intro hc hm);have eV:∀(wq:M),w1.heap[w.heap.size]? =wq.heap[w.heap.size]? ->∀(i:Nat) (u:Vv),(#[I J v,Y s,Y n,Y f,Y t,Y k,S ma ms.length mc]:Array Vv)[i]? =U u->wq.cell? (D w.heap.size i Z)=U u:=fun wq hq i u hu=>by have:=A9.out;rw[hq]at this;simp only[Wc,this];exact hu
 have c0:=eV w1 X 0 _ X;have c1:=eV w1 X 1 _ X;have c2:=eV w1 X 2 _ X;have c3:=eV w1 X 3 _ X;have c4:=eV w1 X 4 _ X;have c5:=eV w1 X 5 _ X;have c6:=eV w1 X 6 _ X;have mL:Hi (∀wq,Bw w1 wq->wq.cell? (D w.heap.size 0 Z)=U (I J v)/\wq.cell? (D w.heap.size 1 Z)=U (Y s)/\wq.cell? (D w.heap.size 2 Z)=U (Y n)/\wq.cell? (D w.heap.size 3 Z)=U (Y f)/\wq.cell? (D w.heap.size 4 Z)=U (Y t)/\wq.cell? (D w.heap.size 5 Z)=U (Y k)/\wq.cell? (D w.heap.size 6 Z)=U (S ma ms.length mc)):=fun wq q=>⟨Cb q c0,Cb q c1,Cb q c2,Cb q c3,Cb q c4,Cb q c5,Cb q c6⟩;have cF:Hi (Bw w1 w1.drew):=(By).drew;clear hc hm eV;go_wp2_with fail
 go_region_held_law (fun w'=>w'.cell? (D w.heap.size 0 Z)=U (I J v)/\w'.cell? (D w.heap.size 1 Z)=U (Y s)/\w'.cell? (D w.heap.size 2 Z)=U (Y n)/\w'.cell? (D w.heap.size 3 Z)=U (Y f)/\w'.cell? (D w.heap.size 4 Z)=U (Y t)/\w'.cell? (D w.heap.size 5 Z)=U (Y k)/\w'.cell? (D w.heap.size 6 Z)=U (S ma ms.length mc)) (first|exact mL _ cF|exact mL _ eL|exact mL _ qU|exact mL _ tH) (first
  |(go_at_call 86;refine(xM _).mono ?_;rintro e w2 ⟨g,rfl,mD,hb2⟩;have eL:Hi (Bw w1 w2):=Tm cF hb2;have o5:=cw mD;clear mD hb2)
  |(go_at_call 87;refine(r9 _ (Tm aC eL) dQ.1).mono ?_;rintro e w3 ⟨hb3,pr,ta,tc,hpr,rfl,mB⟩;have qU:Hi (Bw w1 w3):=Tm eL hb3;have HS3:=cw (o5.below hb3);have OS:=cw (qf.of_own mB);have zJ:=cw (Do mB);have oF:=cw hpr;clear hb3 hpr mB)
  |(go_at_call 46;refine(KF g pr ta tc _ (Tm aC qU) dQ.1 dQ.2 oF HS3 OS zJ).mono ?_;rintro e w4 ⟨hb4,h4⟩;have tH:Hi (Bw w1 w4):=Tm qU hb4;have D0:∃(x:Q) (y:Vv),e=Rt (Tu #[Y x,y])/\((4000<(ctOf v s n pr f t k ms).bytes.size/\x=⟨#[]⟩/\∃q,y=be q (sn .Long))\/((ctOf v s n pr f t k ms).bytes.size<=4000/\x=(ctOf v s n pr f t k ms).bytes/\y= .nilIface)):=ahM h4;obtain⟨x,y,rfl,jQ⟩:=D0;have HXY:=cw jQ;clear hb4 h4 jQ))
 have aJ:Hi _:=Tm aC tH;go_wp2;go_ret2;refine⟨aJ,.inr (.inr ⟨dQ.1,dQ.2,pr,oF,?_⟩)⟩;rcases HXY with⟨q1,q2,q,q3⟩|⟨q1,q2,q3⟩;·rw[q2,q3];exact .inl ⟨q1,q,X⟩
 rw[q2,q3];exact .inr ⟨q1,X⟩
def Ex(v:Int)(s n f t k:Q)(ms:Ls du)(w:M)(e:Ending)(w':M):Prop:=
 Bw w w'/\((¬ij v s n f t k ms.length/\e=Rt (Tu #[Y ⟨#[]⟩,I J 12]))\/(ij v s n f t k ms.length/\¬kx ms/\e=Rt (Tu #[Y ⟨#[]⟩,I J 13]))\/
  (ij v s n f t k ms.length/\kx ms/\∃pr:Bool,(pr=true↔bu 8 n)/\((4000<(ctOf v s n pr f t k ms).bytes.size/\e=Rt (Tu #[Y ⟨#[]⟩,I J 2]))\/((ctOf v s n pr f t k ms).bytes.size<=4000/\e=Rt (Tu #[Y (ctOf v s n pr f t k ms).bytes,I J 0])))))
theorem ajw(v:Int)(s n f t k:Q)(ms:Ls du)(ma:Oo Ad)(mc:Nat)(w:M)(sn:Sn->Ad)(za:Ad)(hl:gy w sn)(hz:kv w sn za)(hT:Ef s n f t k ms)(eN:il w ma ms)(hn:ms.length<=1000000)(kK:ms.length<=mc):Cs prog 31 #[dm v s n f t k (S ma ms.length mc)] w fun e w'=>Ex v s n f t k ms w e w':=by
 have HW:Hi _:=fun wq q=>adr v s n f t k ms ma mc wq sn za (hl.below q) (hz.below q) hT (eN.below q) hn kK;have HN:Hi (∀q x wq,Bw w wq->Cs prog 34 #[be q (sn x)] wq fun e w'=>e=Rt (I J x.code)/\Bw w w'):=fun q x wq hq=>(Gg q x wq sn (hl.below hq).s).mono fun e w' h=>⟨h.1,Tm hq h.2⟩;have jI:Hi _:=fun wq=>Gf wq;unfold Ex;unfold Mj at HW;unfold dm at HW ⊢;clear hl hz eN hT;go_enter func31,ntmps31;go_wp2_with fail;refine(HW _ Be).mono ?_;rintro e w1 ⟨hb1,h1⟩;have aC:Hi _:=dj hb1;clear hb1 HW
 have h2:(∃(x:Q) (q:Int) (y:Sn),e=Rt (Tu #[Y x,be q (sn y)])/\∀w',Bw w w'->Bw w w'/\((¬ij v s n f t k ms.length/\Ending.returned (Tu #[Y x,I J y.code])=Rt (Tu #[Y ⟨#[]⟩,I J 12]))\/(ij v s n f t k ms.length/\¬kx ms/\Ending.returned (Tu #[Y x,I J y.code])=Rt (Tu #[Y ⟨#[]⟩,I J 13]))\/
  (ij v s n f t k ms.length/\kx ms/\∃pr:Bool,(pr=true↔bu 8 n)/\((4000<(ctOf v s n pr f t k ms).bytes.size/\Ending.returned (Tu #[Y x,I J y.code])=Rt (Tu #[Y ⟨#[]⟩,I J 2]))\/((ctOf v s n pr f t k ms).bytes.size<=4000/\Ending.returned (Tu #[Y x,I J y.code])=Rt (Tu #[Y (ctOf v s n pr f t k ms).bytes,I J 0]))))))\/
  (∃b:Q,e=Rt (Tu #[Y b,.nilIface])/\ij v s n f t k ms.length/\kx ms/\∃pr:Bool,(pr=true↔bu 8 n)/\(ctOf v s n pr f t k ms).bytes.size<=4000/\b=(ctOf v s n pr f t k ms).bytes):=by
  rcases h1 with⟨hc,he⟩|⟨hc,hm,he⟩|⟨hc,hm,pr,hp,⟨hb,q,he⟩|⟨hb,he⟩⟩
  ·exact .inl ⟨_,0,.Card,he,fun w' hw=>⟨hw,.inl ⟨hc,X⟩⟩⟩
  ·exact .inl ⟨_,0,.Mark,he,fun w' hw=>⟨hw,.inr (.inl ⟨hc,hm,X⟩)⟩⟩
  ·exact .inl ⟨_,q,.Long,he,fun w' hw=>⟨hw,.inr (.inr ⟨hc,hm,pr,hp,.inl ⟨hb,X⟩⟩)⟩⟩
  ·exact .inr ⟨_,he,hc,hm,pr,hp,hb,X⟩
 clear h1;rcases h2 with⟨x,q,y,rfl,h2⟩|⟨b,rfl,hc,hm,pr,hp,hb,nU⟩;·have H2:=cw h2;have tE:=cw (HN q y w1 aC);unfold be at tE ⊢;generalize sn y=ay at tE ⊢;generalize y.code=yc at tE H2;clear h2;go_wp2_with fail;refine tE.mono ?_;rintro e w2 ⟨rfl,hb2⟩;have aD:=cw hb2;clear hb2;go_wp2;go_ret2;exact H2 _ aD
 have H2:=cw (And.intro hc (And.intro hm (And.intro hp (And.intro hb nU))));clear hc hm hp hb nU;go_wp2_with fail;refine(jI _).mono ?_;rintro e w2 ⟨rfl,rfl⟩;go_wp2;go_ret2;obtain⟨hc,hm,hp,hb,nU⟩:=H2.out;exact⟨aC,.inr (.inr ⟨hc,hm,pr,hp,.inr ⟨hb,by rw[nU];rfl⟩⟩)⟩
theorem aiL(b:Bool)(w:M):Cs prog 84 #[Bo b] w fun e w'=>e=Rt (Y (bT b))/\w'=w:=by
 go_enter func84,ntmps84;cases b;·go_wp2;go_ret;exact⟨X,X⟩
 go_wp2;go_ret;exact⟨X,X⟩
theorem abo:(prog.info? 66).map (fun i=>(i.zero,i.size,i.bytes))=U (U (S Z 0 0),1,24):=Kr
theorem abq:(prog.info? 9).map (fun i=>(i.zero,i.size,i.bytes))=U (U (Y ⟨#[]⟩),1,16):=Kr
theorem adn(a b c d:Int)(w:M)(ha:0<=a/\a<256)(hb:0<=b/\b<256)(hc:0<=c/\c<256)(hd:0<=d/\d<256):∃m,(convert 52 9 (S (U (D w.heap.size 0 Z)) 4 4)).run prog (w.alloc (C #[I .u8 a,I .u8 b,I .u8 c,I .u8 d] 5)).drew= .ok (Y m) (w.alloc (C #[I .u8 a,I .u8 b,I .u8 c,I .u8 d] 5)).drew:=by refine⟨_,Fm (B:=0) (n:=4) (l:=[Uo a.toNat,Uo b.toNat,Uo c.toNat,Uo d.toNat]) ⟨Sq,.inr ⟨w.heap.size,4,#[I .u8 a,I .u8 b,I .u8 c,I .u8 d],X,Lz,bl w _,O,Dc,X,?_⟩⟩ Sq⟩;simp[rp a ha.1 ha.2,rp b hb.1 hb.2,rp c hc.1 hc.2,rp d hd.1 hd.2]
theorem Ql(x:Int):0<=IntKind.u8.wrap x/\IntKind.u8.wrap x<256:=by
 have h:IntKind.u8.wrap x=x%256:=by unfold IntKind.wrap;rfl
 rw[h];omega
theorem ahk(W w0 w:M)(B:Nat)(L:Ls (Vv×Nat×Int))(an:Ls (Vv×Nat×Q))(nx:Int)(la:Oo Ad)(lc n:Nat)(xs:Ls Vv)(hI:oz W w0 B L an nx)(hb:Bw w0 w)(ho:w.ownsRow w0.heap.size 73 3 (S la n lc) n xs)(hn:n<=400000)(hL:an.length<=1099511627776)(bR: -1099511627776<=nx)(aQ:nx<=0):Cs prog 51 #[Po (U (D B 0 Z)),S la n lc] w fun e w'=>e=Rt (Tu #[])/\∃M',oz W w' B L M' (nx-1)/\M'.length=an.length+4:=by
 obtain⟨i0,dO,cU,dA,bL⟩:=mh Ig;obtain⟨i1,MC,iL,R0,R1⟩:=mh abo;obtain⟨i2,wL,E6,qH,E7⟩:=mh abq;obtain⟨vv,vm,mv,mm,hO,hB⟩:=mq.of hI hb (nx-1);have c4:w.cell? (D B 4 Z)=U (I J nx):=by simp[Wc,hB]
 have f4:w.frozen? (D B 4 Z)=false:=Fz hB;have oQ:B<w.heap.size:=bp c4;have CH:(w.setCell (D B 4 Z) (I J (nx-1))).ownsRow w0.heap.size 73 3 (S la n lc) n xs:=dk ho (fg hB ho Dc) _;obtain⟨nn,hm⟩:∃m,nx-1=m:=Ey;have HM:=di hm;have fJ: -1099511627777<=nn:=O;have aj3:nn<= -1:=O;rw[hm]at hO CH;rw[hm];clear hm;have HO:=di hO;have tF:=di CH;clear hI hb ho hB hO CH;go_enter func51,ntmps51;go_wp2_with fail;rw[HM.out];generalize w.setCell (D B 4 Z) (I J nn)=w1 at HO tF ⊢;clear c4 f4 oQ;have c4:w1.cell? (D B 4 Z)=U (I J nn):=by simp[Wc,HO.row]
 have oQ:B<w1.heap.size:=bp c4;obtain⟨m,yE⟩:=adn 35 (IntKind.u8.wrap (IntKind.i64.wrap (-nn))) (IntKind.u8.wrap (IntKind.i64.wrap ((IntKind.i64.wrap (-nn)).tdiv 256))) (IntKind.u8.wrap (IntKind.i64.wrap ((IntKind.i64.wrap (-nn)).tdiv 65536))) w1 Dc (Ql _) (Ql _) (Ql _);go_region_held_law (fun w'=>w'.cell? (D B 4 Z)=U (I J nn)) (go_keep) (fail);rename_i hHeld;clear hHeld;have iD:Hi (Bw w1 (w1.alloc (C #[I .u8 35,I .u8 (IntKind.u8.wrap (IntKind.i64.wrap (-nn))),I .u8 (IntKind.u8.wrap (IntKind.i64.wrap ((IntKind.i64.wrap (-nn)).tdiv 256))),I .u8 (IntKind.u8.wrap (IntKind.i64.wrap ((IntKind.i64.wrap (-nn)).tdiv 65536)))] 5)).drew):=(Be).drew;clear yE c4 oQ;generalize(w1.alloc (C #[I .u8 35,I .u8 (IntKind.u8.wrap (IntKind.i64.wrap (-nn))),I .u8 (IntKind.u8.wrap (IntKind.i64.wrap ((IntKind.i64.wrap (-nn)).tdiv 256))),I .u8 (IntKind.u8.wrap (IntKind.i64.wrap ((IntKind.i64.wrap (-nn)).tdiv 65536)))] 5)).drew=wa at iD ⊢;have HO:=di (HO.below iD);have tF:=di (fm tF iD);clear iD;go_wp2;have mS:(wa.alloc (C #[Y m,Bo false,Y m] 73)).heap[wa.heap.size]? =U (C #[Y m,Bo false,Y m] 73 (0,0)):=bl wa _;have dW:Bw wa (wa.alloc (C #[Y m,Bo false,Y m] 73)):=Be;have jD:∀g,(Value.slice la n lc).ownBlock=U g->g<wa.heap.size:=fun g hg=>(tF.lt g hg).2;obtain⟨xb,gL⟩:∃xb,wa.heap.size=xb:=Ey;rw[gL]at mS jD;rw[gL];generalize wa.alloc (C #[Y m,Bo false,Y m] 73)=w2 at mS dW ⊢;have fQ:=di (HO.below dW);have xI:=di (fm tF dW);have sB:=di mS;have xN:Hi _:=fun q=>Ep _ (jD xb q);clear mS dW jD gL HO tF;go_loopw [6] (fun i wr=>∃k:Nat,k<=n/\i=I J k/\ik w2 wr m (Value.slice la n lc).ownBlock/\Eo wr (S la n lc) k m) (fun i _=>n-(Io i).toNat);case atStart=>exact⟨0,Lz,X,ik.refl _ _ _,fun _ _ _ _ p hp=>O⟩
 obtain⟨k,hk,rfl,hK,hM⟩:=hrel;have HK:=di hK;have pL:=di hM;have pX:=hK.block sB xN;have nN:=di pX;have x0:wr.cell? (D xb 0 Z)=U (Y m):=by simp[Wc,pX]
 have x1:wr.cell? (D xb 1 Z)=U (Bo false):=by simp[Wc,pX]
 have x2:wr.cell? (D xb 2 Z)=U (Y m):=by simp[Wc,pX]
 clear hK hM pX;by_cases aA:k<n
 ·have aN:(k:Int)<n:=O;obtain⟨g,aB,rfl,fU,bX⟩:∃g aB,la=U (D g 0 Z)/\wr.heap[g]? =U (C aB 73 (0,0))/\k*3+2<aB.size:=by
   rcases xI.2 with⟨_,q⟩|⟨g,cap,aB,q,_,q1,q2,_,q3,_⟩;(·omega);injection q with q4 _ q5;subst q4 q5;obtain⟨gF,r1,r2,_⟩:=HK.own g aB X q1;have:(k+1)*3<=lc*3:=Cl _ O;exact⟨g,gF,X,r1,O⟩
  have o0:wr.cell? (D g (k*3) Z)=U (aB[k*3]' O):=by simp[Wc,fU,show k*3<aB.size by omega]
  have o1:wr.cell? (D g (k*3+1) Z)=U (aB[k*3+1]' O):=by simp[Wc,fU,show k*3+1<aB.size by omega]
  have o2:wr.cell? (D g (k*3+2) Z)=U (aB[k*3+2]' O):=by simp[Wc,fU,bX]
  have f0:wr.frozen? (D g (k*3) Z)=false:=Fz fU;have f1:wr.frozen? (D g (k*3+1) Z)=false:=Fz fU;have f2:wr.frozen? (D g (k*3+2) Z)=false:=Fz fU;have qV:=di (HK.trans (ik.store (k:=k) m fU).1);have o5:=di (pL.store (g:=g) X fU bX);generalize aB[k*3]' O=z0 at o0;generalize aB[k*3+1]' O=z1 at o1;generalize aB[k*3+2]' O=z2 at o2;clear fU bX;go_wp2;go_roundw;case rel=>exact⟨k+1,O,Gn,qV,o5⟩
  exact Ms
 have aN:(n:Int)<=k:=O;obtain rfl:n=k:=O;have eK:=di (fQ.kp xI HK);have BM:=di (ahh xI HK pL);have EY:w0.heap.size<=wr.heap.size+1:=by have:=eK.out.s1;omega
 clear fQ xI HK pL sB hk aA aN;go_wp2_with (at_builtin;refine Dw _ X (.tmp 52) (.tmp 54) 66 X w0.heap.size 73 i0 wt 3 40 underlying66 dO cU dA bL X Dc (S la n lc) n (mmRow m n) (by simp[Ae,Ap]) (BM.alloc _) (D wr.heap.size 0 Z) 1 1 (mmRow m 1) (by simp[Ae,Ap]) X (World.news_of_block (bl wr (C #[Y m,Bo false,Y m] 73))) (Pe m 1) Dc (by unfold maxLen;omega) O (by simpa using EY) ?_);intro g1 BX w4 h1 h2 h3;obtain⟨wH,IL,CC,jW⟩:=eK.app BM h1 h2 h3;have oZ:=di wH;have BN:=di IL;have iE:=di CC;have tD:=di jW;have jY:=jW.block nN xN;have wB:=di jY;have v7:Hi _:=wH.s1;clear x0 x1 x2;have x0:w4.cell? (D xb 0 Z)=U (Y m):=by simp[Wc,jY]
 have x1:w4.cell? (D xb 1 Z)=U (Bo false):=by simp[Wc,jY]
 have x2:w4.cell? (D xb 2 Z)=U (Y m):=by simp[Wc,jY]
 have JL:w0.heap.size<=w4.heap.size+1:=by have:=v7.out;omega
 clear h1 h2 h3 wH IL CC jW jY;go_wp2_with (at_builtin;refine Dw _ X (.tmp 56) (.tmp 59) 66 X w0.heap.size 73 i0 wt 3 40 underlying66 dO cU dA bL X Dc (S la n lc) n (mmRow m n) (by simp[Ae,Ap]) (BN.alloc _) (D w4.heap.size 0 Z) 2 2 (mmRow m 2) (by simp[Ae,Ap]) X (World.news_of_block (bl w4 (C #[Y m,Bo false,Y m,Y m,Bo false,Y m] 73))) (Pe m 2) Dc (by unfold maxLen;omega) O (by simpa using JL) ?_);intro g2 BY w5 h1 h2 h3;obtain⟨sD,IM,gH,CF⟩:=oZ.app BN h1 h2 h3;have nM:=di sD;have BO:=di IM;have dC:=di gH;have vV:=di CF;have oL:=CF.block wB xN;have wC:=di oL;have o6:Hi _:=sD.s1;clear x0 x1 x2;have x0:w5.cell? (D xb 0 Z)=U (Y m):=by simp[Wc,oL]
 have x1:w5.cell? (D xb 1 Z)=U (Bo false):=by simp[Wc,oL]
 have x2:w5.cell? (D xb 2 Z)=U (Y m):=by simp[Wc,oL]
 have sM:w0.heap.size<=w5.heap.size+1:=by have:=o6.out;omega
 clear h1 h2 h3 sD IM gH CF oL;have F1:=di (vV.full iE);go_wp2_with (at_builtin;refine Dw _ X (.tmp 61) (.tmp 65) 66 X w0.heap.size 73 i0 wt 3 40 underlying66 dO cU dA bL X Dc (S la n lc) n (mmRow m n) (by simp[Ae,Ap]) (BO.alloc _) (D w5.heap.size 0 Z) 3 3 (mmRow m 3) (by simp[Ae,Ap]) X (World.news_of_block (bl w5 (C #[Y m,Bo false,Y m,Y m,Bo false,Y m,Y m,Bo false,Y m] 73))) (Pe m 3) Dc (by unfold maxLen;omega) O (by simpa using sM) ?_);intro g3 BZ w6 h1 h2 h3;obtain⟨CG,WB,dF,wG⟩:=nM.app BO h1 h2 h3;have hU:=di CG;have GK:=di WB;have dI:=di dF;have bY:=di wG;have pB:=wG.block wC xN;have OU:=di pB;have v8:Hi _:=CG.s1;clear x0 x1 x2;have x0:w6.cell? (D xb 0 Z)=U (Y m):=by simp[Wc,pB]
 have x1:w6.cell? (D xb 1 Z)=U (Bo false):=by simp[Wc,pB]
 have x2:w6.cell? (D xb 2 Z)=U (Y m):=by simp[Wc,pB]
 have hs6:w0.heap.size<=w6.heap.size+1:=by have:=v8.out;omega
 clear h1 h2 h3 CG WB dF wG pB;have F2:=di (bY.full F1);have F3:=di (bY.full dC);have F0:=di (ju.of_own GK);have gB:=hU.out.row;have c0:w6.cell? (D B 2 Z)=U mv:=by simp[Wc,gB]
 have f0:w6.frozen? (D B 2 Z)=false:=Fz gB;have oQ:B<w6.heap.size:=bp c0;clear gB iE F1 dC tD vV bY eK oZ nM BM BN BO GK nN wB wC OU v7 o6 x0 x1 x2 EY JL sM;have rO:W.heap.size<=w6.heap.size+1:=by have:=hU.out.bel.size;omega
 have hLL:an.length+4<=1099511627780:=O;go_wp2_with (at_builtin;refine wpList_append_lies _ X (.tmp 71) (.tmp 76) 33 X W.heap.size 66 i1 (S Z 0 0) 1 24 underlying33 MC iL R0 R1 X Dc mv an.length (an.map (·.1)) (by simp[Ae,Ap]) (hU.pv.alloc _) (D w6.heap.size 0 Z) 4 4 [S la n lc,S (U (D g1 0 Z)) (n+1) BX,S (U (D g2 0 Z)) (n+2) BY,S (U (D g3 0 Z)) (n+3) BZ] (by simp[Ae,Ap]) X (World.news_of_block (bl w6 (C #[S la n lc,S (U (D g1 0 Z)) (n+1) BX,S (U (D g2 0 Z)) (n+2) BY,S (U (D g3 0 Z)) (n+3) BZ] 66))) (by intro u hu;simp at hu;rcases hu with rfl|rfl|rfl|rfl<;>rfl) Dc (by unfold maxLen;omega) O (by simpa using rO) (w6.heap.size+1) Sq ?_);intro gv G5 w7 h1 h2 h3 h4;obtain⟨LL,tW⟩:∃LL,an++[((S la n lc:Vv),n,m),(S (U (D g1 0 Z)) (n+1) BX,n+1,m),(S (U (D g2 0 Z)) (n+2) BY,n+2,m),(S (U (D g3 0 Z)) (n+3) BZ,n+3,m)]=LL:=Ey;have qR:Hi (LL.length=an.length+4):=by show LL.length=_;rw[<-tW];simp
 have mN:Hi ((LL.map fun x=>Value.string x.2.2)=(an.map fun x=>Value.string x.2.2)++[Y m,Y m,Y m,Y m]):=by show(LL.map fun x=>Value.string x.2.2)=_;rw[<-tW];simp
 have IG:∀x∈LL,ju w6 x.1 x.2.1 x.2.2:=fun x hx=>by
  rw[<-tW,Ek]at hx;rcases hx with hx|hx;·exact(hU.fullM x hx).1
  simp only[Lo,Lq,Pm]at hx;rcases hx with rfl|rfl|rfl|rfl;·exact F0
  ·exact F2
  ·exact F3
  exact dI
 obtain⟨e0,q0,hJ⟩:=hU.put (MM:=LL) (mv':=S (U (D gv 0 Z)) (an.length+4) G5) IG (by rw[qR,<-tW,Ci];exact h1) h2;have HJ:=di hJ;have EL:B<w7.heap.size:=bp e0;clear h1 h2 h3 h4 tW IG hJ hU F0 F2 F3 dI c0 f0 oQ rO;go_upto_region 11 with fail;generalize w7.setCell (D B 2 Z) (S (U (D gv 0 Z)) (an.length+4) G5)=w8 at HJ ⊢;clear e0 q0 EL;have gB:=HJ.out.row;have c1:w8.cell? (D B 3 Z)=U mm:=by simp[Wc,gB]
 have f1:w8.frozen? (D B 3 Z)=false:=Fz gB;have oQ:B<w8.heap.size:=bp c1;have rO:W.heap.size<=w8.heap.size+1:=by have:=HJ.out.bel.size;omega
 clear gB;go_wp2_with (at_builtin;refine wpList_append_lies _ X (.tmp 84) (.tmp 89) 29 X W.heap.size 9 i2 (Y ⟨#[]⟩) 1 16 underlying29 wL E6 qH E7 X Dc mm an.length (an.map fun x=>Y x.2.2) (by simp[Ae,Ap]) (HJ.pm.alloc _) (D w8.heap.size 0 Z) 4 4 [Y m,Y m,Y m,Y m] (by simp[Ae,Ap]) X (World.news_of_block (bl w8 (C #[Y m,Y m,Y m,Y m] 9))) (by intro u hu;simp at hu;subst hu;rfl) Dc (by unfold maxLen;omega) O (by simpa using rO) (w8.heap.size+1) Sq ?_);intro gm oI w9 h1 h2 h3 h4;obtain⟨e1,q1,pT⟩:=HJ.put (mm':=S (U (D gm 0 Z)) (an.length+4) oI) Be (by rw[qR,mN.out];exact h1) h2;have jE:=di pT;have yK:B<w9.heap.size:=bp e1;clear h1 h2 h3 h4 pT c1 f1 oQ rO HJ;go_wp2;go_returns;exact⟨X,LL,jE,qR⟩
end
