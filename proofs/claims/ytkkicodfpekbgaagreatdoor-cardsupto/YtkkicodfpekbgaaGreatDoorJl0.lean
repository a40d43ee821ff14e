/-
Several texts in one.
-/
import Derived.Test.YtkkicodfpekbgaaGreatDoorJk0
open Go.Value renaming int->I,string->Y,slice->S,pointer->Po,bool->Bo
open Go.IntKind renaming i64->J
open Go.Ending renaming returned->Rt
open Option renaming some->U,none->Z
open Go renaming World->M,Calls->Cs,Addr->Ad,Value->Vv
open _root_ renaming ByteArray->Q,Option->Oo,List->Ls
open Go.RowKit renaming Below->H,intOf->Io,Hid->Hi
open Go.Addr renaming mk->D
set_option linter.unusedSimpArgs false
set_option linter.unusedVariables false
set_option maxRecDepth 100000
set_option maxHeartbeats 8000000
namespace Go.Proofs.YtkkicodfpekbgaaGreatDoor
open Go.Proofs.Tryz
open Go.RowKit
def EV(w:M)(a:Oo Ad)(n:Nat):Prop:=∀i,i<n->∃(b o:Nat) (v:Int) (s nm f t k:Q) (ms:Ls fO) (ma:Oo Ad) (mc:Nat),a=U (D b o Z)/\
 (w.cell? (D b (o+i*7) Z)=U (I J v)/\w.cell? (D b (o+i*7+1) Z)=U (Y s)/\w.cell? (D b (o+i*7+2) Z)=U (Y nm)/\w.cell? (D b (o+i*7+3) Z)=U (Y f)/\w.cell? (D b (o+i*7+4) Z)=U (Y t)/\w.cell? (D b (o+i*7+5) Z)=U (Y k)/\w.cell? (D b (o+i*7+6) Z)=U (S ma ms.length mc))/\
 fj w ma ms/\Gz s nm f t k ms/\ms.length<=400000/\ms.length<=mc
theorem AH(da:Oo Ad)(dn dc:Nat)(ca:Oo Ad)(cn cc:Nat)(w:M)(sn:Sn->Ad)(za:Ad)(hl:ls w sn)(hz:jM w sn za)(het:DE w)(hd:∀i,i<dn->∃b o z,da=U (D b o Z)/\w.cell? (D b (o+i) Z)=U (Y z)/\z.size<=1048576)(hdn:dn<=1048576)(hc:EV w ca cn)(hcn:cn<=1048576):Cs prog 9 #[S da dn dc,S ca cn cc] w fun e w'=>e=Rt (Bo true)/\H w.heap.size w w':=by
 have HD:Hi (∀(d:Q) (wq:M) (ak:Ls (Vv×Nat×Q)) (nx:Int),d.size<=1048576->zp w wq w.heap.size [] ak nx->ak.length<=1099511627776-> -1099511627776<=nx->nx<=0->Cs prog 27 #[Po (U (D w.heap.size 0 Z)),Y d] wq fun e w'=>e=Rt (Bo true)/\∃M',zp w w' w.heap.size [] M' (nx-1)/\M'.length=ak.length+4):=fun d wq ak nx h1 h2 h3 h4 h5=>AE d w wq w.heap.size [] ak nx sn za hl hz het h1 h2 h3 h4 h5;have HK:Hi (∀(wq:M) (ak:Ls (Vv×Nat×Q)) (nx:Int),zp w wq w.heap.size [] ak nx->ak.length<=1099511627776->Cs prog 19 #[Po (U (D w.heap.size 0 Z))] wq fun e w'=>e=Rt (Bo true)/\H wq.heap.size wq w'):=fun wq ak nx h1 h2=>yC w wq _ [] ak nx h1 (by show 0<=_;omega) h2;have HW:Hi (∀(v:Int) (s nm f t k:Q) (ms:Ls fO) (ma:Oo Ad) (mc:Nat) wq,H w.heap.size w wq->fj w ma ms->Gz s nm f t k ms->ms.length<=400000->ms.length<=mc->Cs prog 28 #[bW v s nm f t k (S ma ms.length mc)] wq fun e w'=>e=Rt (Bo true)/\H wq.heap.size wq w'):=fun v s nm f t k ms ma mc wq q hi hS h1 h2=>yD v s nm f t k ms ma mc wq sn za (hl.below q) (hz.below q) (hi.below q) hS h1 h2;have HX:=bx hd;have HC:=bx hc;clear hl hz het hd hc;unfold bW at HW;go_enter func9,ntmps9;go_wp2;go_loopw [6] (fun vi wr=>∃(k:Nat) (ak:Ls (Vv×Nat×Q)),k<=dn/\vi=I J k/\ak.length=k*4/\zp w wr w.heap.size [] ak (-(k:Int))) (fun vi _=>dn-(Io vi).toNat);case atStart=>refine⟨0,[],Lz,X,X,Be,Ln,⟨_,_,_,_,aA w _,bX _ _ _ _,bX _ _ _ _,bX _ _ _ _,bX _ _ _ _⟩,(fun x hx=>by cases hx),fun x hx=>by cases hx⟩
 obtain⟨k,ak,hk,rfl,hLk,hI⟩:=hrel;have HI:=bx hI;have hLb:ak.length<=1099511627776:=O;have HLK:=bx hLk;clear hI hLk;by_cases hlt:k<dn
 ·have hlt':(k:Int)<dn:=O;obtain⟨b,o,z,rfl,hz0,hzs⟩:=HX k hlt;have hz1:wr.cell? (D b (o+k) Z)=U (Y z):=(HI.bel.cell (aw hz0)).trans hz0;clear hz0;go_wp2_with fail;refine(HD z _ ak _ hzs (HI.below By) hLb O O).mono ?_;rintro e w2 ⟨rfl,M',hI2,hL2⟩;have HI2:=bx hI2;have HL2:=bx hL2;have hLb2:M'.length<=1099511627776:=by have:=HLK.out;omega
  clear hI2 hL2;go_wp2_with fail;refine(HK _ M' _ HI2 hLb2).mono ?_;rintro e w3 ⟨rfl,hb3⟩;have HI3:=bx (HI2.below hb3);clear hb3;go_wp2;go_roundw;case rel=>exact⟨k+1,M',O,Gn,by have:=HLK.out;have:=HL2.out;omega,by have:=HI3.out;rwa[show -(k:Int)-1= -((k+1:Nat):Int)by omega]at this⟩
  case measure=>exact Ms
 have hlt':(dn:Int)<=k:=O;have HBL:Hi (H w.heap.size w wr):=HI.out.bel;go_wp2;clear HI HLK hLb hlt hlt' hk HX HD HK;go_loopw [9] (fun vi wr=>∃k:Nat,k<=cn/\vi=I J k/\H w.heap.size w wr) (fun vi _=>cn-(Io vi).toNat);case atStart=>exact⟨0,Lz,X,HBL⟩
 clear HBL;obtain⟨k,hk,rfl,hb⟩:=hrel;have HBL:=bx hb;clear hb;by_cases hlt:k<cn
 ·have hlt':(k:Int)<cn:=O;obtain⟨b,o,v,s,nm,f,t,kk,ms,ma,mc,rfl,⟨e0,e1,e2,e3,e4,e5,e6⟩,hmi,hS,hml,hmc⟩:=HC k hlt;have y0:=(HBL.cell (aw e0)).trans e0;have y1:=(HBL.cell (aw e1)).trans e1;have y2:=(HBL.cell (aw e2)).trans e2;have y3:=(HBL.cell (aw e3)).trans e3;have y4:=(HBL.cell (aw e4)).trans e4;have y5:=(HBL.cell (aw e5)).trans e5;have y6:=(HBL.cell (aw e6)).trans e6;have HW1:=bx (HW v s nm f t kk ms ma mc wr HBL hmi hS hml hmc);clear e0 e1 e2 e3 e4 e5 e6 hmi hS hml hmc;go_wp2_with fail;refine HW1.mono ?_;rintro e w2 ⟨rfl,hb2⟩;have HB2:Hi (H w.heap.size w w2):=HBL.trans (hb2.mono HBL.size);clear hb2 y0 y1 y2 y3 y4 y5 y6;go_wp2;go_roundw;case rel=>exact⟨k+1,O,Gn,HB2⟩
  case measure=>exact Ms
 have hlt':(cn:Int)<=k:=O;go_wp2;go_ret;exact⟨X,HBL⟩
end Go.Proofs.YtkkicodfpekbgaaGreatDoor
namespace Go.Proofs.YtkkicodfpekbgaaGreatDoor
open Go.Proofs.Tryz
open Go.RowKit Go.Deep Go.ChangeShapes Go.WideShapes
theorem jx{ah:Type}{d:DataW ah}{l:Ls (DataW ah)}(h:d∈l):Rows.uptoBulk d<=Rows.uptoBulkAll l:=by
 induction l with
 |nil=>cases h
 |cons x r ih=>
  simp only[Rows.uptoBulkAll]
  rcases GA.1 h with rfl|e
  ·omega
  ·have:=ih e;omega
theorem m4{ah:Type}{c:Nat}{l:Ls (DataW ah)}(h:∀d∈l,c<=Rows.uptoBulk d):l.length*c<=Rows.uptoBulkAll l:=by
 induction l with
 |nil=>simp[Rows.uptoBulkAll]
 |cons x r ih=>
  have h1:=h x Sq
  have h2:=ih fun d hd=>h d (by simp[hd])
  simp only[Rows.uptoBulkAll,aU,Nat.succ_mul]
  omega
theorem gw{ah:Type}(s:Q):Rows.uptoBulk (DataW.lit (H:=ah) (.string s.data.toList))=s.size+1:=by simp only[Rows.uptoBulk];rfl
theorem uQ:prog.cellsOf 73=3:=Kr
theorem Cj:prog.cellsOf 66=1:=Kr
theorem uP:prog.cellsOf 68=7:=Kr
section
variable{ah:Type}{enc:TypeId×Vv->ah}{w:M}{base:Nat}{sp:Nat->Bool}{held:Bool}
theorem yP{fuel:Nat}{cs:Ls Vv}{x:DataW ah×Ls MemPlace}(h:DataW.trod enc prog w base sp held fuel 29 cs=U x):∃(a:Oo Ad) (n c:Nat),cs=[.slice a n c]/\(∀i,i<n->∃b o z,a=U (D b o Z)/\w.cell? (D b (o+i) Z)=U (.string z)/\z.size<=Rows.uptoBulk x.1)/\n<=Rows.uptoBulk x.1:=by
 rcases open_strings underlying29 underlying9 tP h with⟨e,hx⟩|⟨a,len,cap,zs,e,_,hlc,hcm,hzl,hx,hcell,hwf⟩
 ·exact⟨Z,0,0,by simpa using e,fun i hi=>Ab hi (aO _),Lz⟩
 have hll:len<=zs.length:=by rw[hzl];split<;>omega
 have hbig:∀d∈strs (H:=ah) (zs.take len),Rows.uptoBulk d+1<=Rows.uptoBulk x.1/\1<=Rows.uptoBulk d:=fun d hd=>by have h1:=jx hd;obtain⟨z,_,rfl⟩:=List.mem_map.1 hd;rw[hx];simp only[Rows.uptoBulk]at h1 ⊢;omega
 refine⟨U a,len,cap,by simpa using e,fun i hi=>?_,?_⟩
 ·have hil:i<zs.length:=O;have q:=hcell i hil;have q0:=hcell 0 O;have ea:a=(D a.block a.off Z):=oM (w:=w) (a:=a) (by simpa [Addr.add]using q0);rw[ea,oJ]at q;refine⟨a.block,a.off,_,dj U ea,q,?_⟩;have hm:zs.getD i ByteArray.empty∈zs.take len:=by rw[aB,aC hil];exact List.mem_take_iff_getElem.2 ⟨i,O,X⟩
  have hb:=(hbig _ (List.mem_map.2 ⟨_,hm,X⟩)).1;rw[gw]at hb;omega
 have h2:=m4 (c:=1) fun d hd=>(hbig d hd).2;have hl:(strs (H:=ah) (zs.take len)).length=len:=by simp[strs];omega
 rw[hx];simp only[Rows.uptoBulk];omega
theorem Bg{fuel:Nat}{cs:Ls Vv}{x:DataW ah×Ls MemPlace}(h:DataW.trod enc prog w base sp held fuel 73 cs=U x):∃m:fO,cs=[.string m.kind,.bool m.must,.string m.body]/\m.kind.size<=Rows.uptoBulk x.1/\m.body.size<=Rows.uptoBulk x.1/\3<=Rows.uptoBulk x.1:=by
 obtain⟨xs,n,_,hx,hl,hlen,hel⟩:=DataW.trod_struct underlying73 h;rw[uQ]at hl
 match cs,hl,xs,hlen,hx,hel with
 | [c0,c1,c2],_,[x0,x1,x2],_,hx,hel=>
   have k0:=hel 0 _ X
   have k1:=hel 1 _ X
   have k2:=hel 2 _ X
   obtain⟨y0,e0,f0,_⟩:=gj underlying9 k0
   obtain⟨y1,e1,f1⟩:=DataW.trod_bool underlying4 k1
   obtain⟨y2,e2,f2,_⟩:=gj underlying9 k2
   simp[DL,tP]at e0 e1 e2
   subst e0 e1 e2
   have b0:Rows.uptoBulk x0.1=y0.size+1:=by rw[f0];exact gw y0
   have b2:Rows.uptoBulk x2.1=y2.size+1:=by rw[f2];exact gw y2
   have hb:Rows.uptoBulk x.1=Rows.uptoBulk x0.1+(Rows.uptoBulk x1.1+(Rows.uptoBulk x2.1+0))+1:=by rw[hx];simp only[Rows.uptoBulk,Rows.uptoBulkAll,gd,jQ]
   exact⟨⟨y0,y1,y2⟩,X,by show y0.size<=_;omega,by show y2.size<=_;omega,O⟩
theorem yO{fuel:Nat}{cs:Ls Vv}{x:DataW ah×Ls MemPlace}(h:DataW.trod enc prog w base sp held fuel 66 cs=U x):∃(a:Oo Ad) (ms:Ls fO) (c:Nat),cs=[.slice a ms.length c]/\ms.length<=c/\fj w a ms/\ms.length*3<=Rows.uptoBulk x.1/\∀j,j<ms.length->(ms.getD j iy).kind.size<=Rows.uptoBulk x.1/\(ms.getD j iy).body.size<=Rows.uptoBulk x.1:=by
 rcases open_slice underlying66 h with⟨rfl,rfl⟩|⟨a,len,cap,m,n,af,Pl,rfl,hb,hl,hm,hmm,rfl,hx⟩
 ·exact⟨Z,[],0,X,Ln,fun j hj=>Ab hj (aO _),Sq,fun j hj=>Ab hj (aO _)⟩
 have hlm:len<=m:=by rw[hmm];split<;>omega
 rw[uQ]at hx;have each:∀i,i<len->∃k:fO,w.cell? (a.add (i*3))=U (.string k.kind)/\w.cell? (a.add (i*3+1))=U (.bool k.must)/\w.cell? (a.add (i*3+2))=U (.string k.body)/\k.kind.size<=Rows.uptoBulk (af i)/\k.body.size<=Rows.uptoBulk (af i)/\3<=Rows.uptoBulk (af i):=by intro i hi;obtain⟨cs',h1,h2⟩:=hx i O;obtain⟨k,rfl,g1,g2,g3⟩:=Bg h2;obtain⟨_,_,hcell⟩:=World.cells?_some h1;have e0:=hcell 0 O;have e1:=hcell 1 O;have e2:=hcell 2 O;rw[add_add]at e0 e1 e2;exact⟨k,by simpa using e0,by simpa using e1,by simpa using e2,g1,g2,g3⟩
 obtain⟨K,hK⟩:= @choose_lt fO ⟨iy⟩ _ _ each;have hlen:((List.range len).map K).length=len:=Sq;have hD:∀i,i<len->Rows.uptoBulk (af i)<=Rows.uptoBulkAll ((List.range len).map af):=fun i hi=>jx (List.mem_map.2 ⟨i,List.mem_range.2 hi,X⟩);have hS:Rows.uptoBulkAll ((List.range len).map af)<=Rows.uptoBulk (.slice ((List.range len).map af) ((List.range (m-len)).map fun j=>af (len+j))):=by simp only[Rows.uptoBulk];omega
 refine⟨U a,(List.range len).map K,cap,by rw[hlen],by rw[hlen];exact hl,fun j hj=>?_,?_,fun j hj=>?_⟩
 ·rw[hlen]at hj;have h0:=(hK 0 O).1;have ea:a=(D a.block a.off Z):=oM (w:=w) (a:=a) (v:= .string (K 0).kind) (by simpa [Addr.add]using h0);obtain⟨q0,q1,q2,_⟩:=hK j hj;rw[ea,oJ]at q0 q1 q2;rw[lR K iy hj];exact⟨a.block,a.off,dj U ea,q0,by rw[<-eU]at q1;exact q1,by rw[<-eU]at q2;exact q2⟩
 ·rw[hlen];have h2:=m4 (c:=3) (l:=(List.range len).map af) fun d hd=>by obtain⟨i,hi,rfl⟩:=List.mem_map.1 hd;exact(hK i (List.mem_range.1 hi)).2.2.2.2.2
  rw[bY,List.length_range]at h2;exact bl h2 hS
 rw[hlen]at hj;rw[lR K iy hj];obtain⟨_,_,_,g1,g2,_⟩:=hK j hj;exact⟨bl g1 (bl (hD j hj) hS),bl g2 (bl (hD j hj) hS)⟩
structure EU where
 v:Int
 s:Q
 n:Q
 f:Q
 t:Q
 k:Q
 ms:Ls fO
 ma:Oo Ad
 mc:Nat
def Ij:EU:=⟨0,bh,bh,bh,bh,bh,[],Z,0⟩
def EU.Fit(c:EU)(w:M)(N:Nat):Prop:=c.s.size<=N/\c.n.size<=N/\c.f.size<=N/\c.t.size<=N/\c.k.size<=N/\c.ms.length*3<=N/\(∀j,j<c.ms.length->(c.ms.getD j iy).kind.size<=N/\(c.ms.getD j iy).body.size<=N)/\fj w c.ma c.ms/\c.ms.length<=c.mc
theorem EU.Fit.le{c:EU}{w:M}{N ak:Nat}(h:c.Fit w N)(hN:N<=ak):c.Fit w ak:=by obtain⟨a1,a2,a3,a4,a5,a6,a7,a8,a9⟩:=h;exact⟨O,O,O,O,O,O,fun j hj=>⟨bl (a7 j hj).1 hN,bl (a7 j hj).2 hN⟩,a8,a9⟩
theorem Bf{fuel:Nat}{cs:Ls Vv}{x:DataW ah×Ls MemPlace}(h:DataW.trod enc prog w base sp held fuel 68 cs=U x):∃c:EU,cs=[.int .i64 c.v,.string c.s,.string c.n,.string c.f,.string c.t,.string c.k,.slice c.ma c.ms.length c.mc]/\c.Fit w (Rows.uptoBulk x.1):=by
 obtain⟨xs,n,_,hx,hl,hlen,hel⟩:=DataW.trod_struct underlying68 h;rw[uP]at hl
 match cs,hl,xs,hlen,hx,hel with
 | [c0,c1,c2,c3,c4,c5,c6],_,[x0,x1,x2,x3,x4,x5,x6],_,hx,hel=>
   have k0:=hel 0 _ X
   have k1:=hel 1 _ X
   have k2:=hel 2 _ X
   have k3:=hel 3 _ X
   have k4:=hel 4 _ X
   have k5:=hel 5 _ X
   have k6:=hel 6 _ X
   obtain⟨y0,e0,_⟩:=DataW.trod_int underlying3 k0
   obtain⟨y1,e1,f1,_⟩:=gj underlying9 k1
   obtain⟨y2,e2,f2,_⟩:=gj underlying9 k2
   obtain⟨y3,e3,f3,_⟩:=gj underlying9 k3
   obtain⟨y4,e4,f4,_⟩:=gj underlying9 k4
   obtain⟨y5,e5,f5,_⟩:=gj underlying9 k5
   obtain⟨ma,ms,mc,e6,g1,g2,g3,g4⟩:=yO k6
   simp[DM,tP,Cj]at e0 e1 e2 e3 e4 e5 e6
   subst e0 e1 e2 e3 e4 e5 e6
   have b1:Rows.uptoBulk x1.1=y1.size+1:=by rw[f1];exact gw y1
   have b2:Rows.uptoBulk x2.1=y2.size+1:=by rw[f2];exact gw y2
   have b3:Rows.uptoBulk x3.1=y3.size+1:=by rw[f3];exact gw y3
   have b4:Rows.uptoBulk x4.1=y4.size+1:=by rw[f4];exact gw y4
   have b5:Rows.uptoBulk x5.1=y5.size+1:=by rw[f5];exact gw y5
   have hb:Rows.uptoBulk x.1=Rows.uptoBulk x0.1+(Rows.uptoBulk x1.1+(Rows.uptoBulk x2.1+(Rows.uptoBulk x3.1+(Rows.uptoBulk x4.1+(Rows.uptoBulk x5.1+(Rows.uptoBulk x6.1+0))))))+1:=by rw[hx];simp only[Rows.uptoBulk,Rows.uptoBulkAll,gd,jQ]
   refine⟨⟨y0,y1,y2,y3,y4,y5,ms,ma,mc⟩,X,by show y1.size<=_;omega,by show y2.size<=_;omega,by show y3.size<=_;omega,by show y4.size<=_;omega,by show y5.size<=_;omega,by show ms.length*3<=_;omega,fun j hj=>?_,g2,g1⟩
   have:=g4 j hj
   exact⟨by show(ms.getD j iy).kind.size<=_;omega,by show(ms.getD j iy).body.size<=_;omega⟩
theorem yN{fuel:Nat}{cs:Ls Vv}{x:DataW ah×Ls MemPlace}(h:DataW.trod enc prog w base sp held fuel 63 cs=U x):∃(a:Oo Ad) (n c:Nat),cs=[.slice a n c]/\(Rows.uptoBulk x.1<=1048576->EV w a n/\n<=1048576):=by
 rcases open_slice underlying63 h with⟨rfl,rfl⟩|⟨a,len,cap,m,n,af,Pl,rfl,hb,hl,hm,hmm,rfl,hx⟩
 ·exact⟨Z,0,0,X,fun _=>⟨fun i hi=>Ab hi (aO _),Lz⟩⟩
 have hlm:len<=m:=by rw[hmm];split<;>omega
 rw[uP]at hx;have each:∀i,i<len->∃k:EU,(w.cell? (a.add (i*7))=U (.int .i64 k.v)/\w.cell? (a.add (i*7+1))=U (.string k.s)/\w.cell? (a.add (i*7+2))=U (.string k.n)/\w.cell? (a.add (i*7+3))=U (.string k.f)/\w.cell? (a.add (i*7+4))=U (.string k.t)/\w.cell? (a.add (i*7+5))=U (.string k.k)/\w.cell? (a.add (i*7+6))=U (.slice k.ma k.ms.length k.mc))/\k.Fit w (Rows.uptoBulk (af i)):=by intro i hi;obtain⟨cs',h1,h2⟩:=hx i O;obtain⟨k,rfl,g⟩:=Bf h2;obtain⟨_,_,hcell⟩:=World.cells?_some h1;have e0:=hcell 0 O;have e1:=hcell 1 O;have e2:=hcell 2 O;have e3:=hcell 3 O;have e4:=hcell 4 O;have e5:=hcell 5 O;have e6:=hcell 6 O;rw[add_add]at e0 e1 e2 e3 e4 e5 e6;exact⟨k,⟨by simpa using e0,by simpa using e1,by simpa using e2,by simpa using e3,by simpa using e4,by simpa using e5,by simpa using e6⟩,g⟩
 obtain⟨K,hK⟩:= @choose_lt EU ⟨Ij⟩ _ _ each;have hD:∀i,i<len->Rows.uptoBulk (af i)<=Rows.uptoBulkAll ((List.range len).map af):=fun i hi=>jx (List.mem_map.2 ⟨i,List.mem_range.2 hi,X⟩);have hS:Rows.uptoBulkAll ((List.range len).map af)<=Rows.uptoBulk (.slice ((List.range len).map af) ((List.range (m-len)).map fun j=>af (len+j))):=by simp only[Rows.uptoBulk];omega
 refine⟨U a,len,cap,X,fun hN=>⟨fun j hj=>?_,?_⟩⟩
 ·have h0:=(hK 0 O).1.1;have ea:a=(D a.block a.off Z):=oM (w:=w) (a:=a) (v:= .int .i64 (K 0).v) (by simpa [Addr.add]using h0);obtain⟨⟨q0,q1,q2,q3,q4,q5,q6⟩,hf⟩:=hK j hj;rw[ea,oJ]at q0 q1 q2 q3 q4 q5 q6;obtain⟨a1,a2,a3,a4,a5,a6,a7,a8,a9⟩:=hf.le (bl (hD j hj) (bl hS hN));rw[<-eU]at q1 q2 q3 q4 q5 q6;exact⟨a.block,a.off,_,_,_,_,_,_,_,_,_,dj U ea,⟨q0,q1,q2,q3,q4,q5,q6⟩,a8,⟨a1,a2,a3,a4,a5,a7⟩,O,a9⟩
 have h2:=m4 (c:=1) (l:=(List.range len).map af) fun d hd=>by
  obtain⟨i,hi,rfl⟩:=List.mem_map.1 hd;obtain⟨cs',h1,h3⟩:=hx i (by have:=List.mem_range.1 hi;omega)
  cases hd:af i with
  |lit l=>cases l<;>simp[Rows.uptoBulk]
  |_=>simp[Rows.uptoBulk]
 rw[bY,List.length_range]at h2;have:=bl h2 (bl hS hN);omega
end
end Go.Proofs.YtkkicodfpekbgaaGreatDoor
