/- Parts. -/
import Derived.Test.YtkkicodfpekbgaaGreatDoorJh0
import Derived.Test.YtkkicodfpekbgaaGreatDoorJh1
open Go.Value renaming int->I,string->Y,slice->S,pointer->Po,bool->Bo,agg->Ag,tuple->Tu,iface->If
open Go.IntKind renaming i64->J
open Go.Obj renaming cells->C
open Go.Ending renaming returned->Rt
open Option renaming some->U,none->Z
open Go renaming World->M,Calls->Cs,Addr->Ad,Value->Vv
open _root_ renaming ByteArray->Q,Option->Oo,List->Ls
open Go.RowKit renaming Below->H,intOf->Io,Hid->Hi
open Go.World renaming cell?->Wc
open UInt8 renaming ofNat->Uo
open Go.Addr renaming mk->D
set_option linter.all false
set_option maxRecDepth 100000
set_option maxHeartbeats 8000000
namespace Go.Proofs.YtkkicodfpekbgaaGreatDoor
variable{za:Ad}{sn:Sn->Ad}
section
open Go.Proofs.Tryz
open Go.RowKit
theorem afE{k q:Int}{er:Vv}(w:M)(hl:gy w sn)(hz:kv w sn za)(i7:uf w)(h:Hs sn za k q er):∀wq,Bw w wq->Cs prog 48 #[er] wq (fun e w'=>e=Rt (I J q)/\Bw wq w')/\Cs prog 34 #[er] wq (fun e w'=>e=Rt (I J k)/\Bw wq w'):=fun wq hq=>by
 have HP:∀p u,u.oneCell'=true->Cs prog 48 #[If 155 (Ag #[I J p,u])] wq fun e w'=>e=Rt (I J p)/\Bw wq w':=fun p u h1=>Pr p u wq h1 (i7.below hq);rcases h with⟨rfl,rfl,⟨p,rfl⟩|rfl⟩|⟨k1,k2,rfl⟩;·exact⟨HP 0 _ X,Pj 0 p za wq sn (hl.below hq).s (hz.below hq)⟩
 ·refine⟨HP 0 _ X,?_⟩;have h:=Ge 0 za wq sn (hl.below hq).s (hz.below hq).r;rw[Ph (fun s q=>hz.d s q.symm)]at h;exact h
 refine⟨HP q _ X,?_⟩;have h:=Gg q (uY k) wq sn (hl.below hq).s;rw[Zf k k1 k2]at h;exact h
theorem air{za:Ad}(x:Sn)(w:M)(hl:gy w sn)(i7:uf w):∀wq,Bw w wq->
 Cs prog 48 #[be 0 (sn x)] wq (fun e w'=>e=Rt (I J 0)/\Bw wq w')/\Cs prog 34 #[be 0 (sn x)] wq (fun e w'=>e=Rt (I J x.code)/\Bw wq w'):=fun wq hq=>
 ⟨Pr 0 _ wq X (i7.below hq),Gg 0 x wq sn (hl.below hq).s⟩
def wj(v:Except (Int×Int) (Ls Vl))(w:M)(e:Ending)(w':M):Prop:=
 Bw w w'/\((∃k q,v= .error (k,q)/\e=Rt (Tu #[po,I J q,I J k]))\/
  (∃(c:CT) (pr:Bool),v= .ok c.tree/\c.Ok/\Sz c.tree/\(pr=true↔bu 8 c.n)/\
    (((c.tree≠(c.again pr).tree\/¬ij (b8 c.vt 0) c.s c.n c.ft c.tt c.k (cu c).length)/\e=Rt (Tu #[po,I J 0,I J 12]))\/
     (c.tree=(c.again pr).tree/\ij (b8 c.vt 0) c.s c.n c.ft c.tt c.k (cu c).length/\¬kx (cu c)/\e=Rt (Tu #[po,I J 0,I J 13]))\/
     (c.tree=(c.again pr).tree/\ij (b8 c.vt 0) c.s c.n c.ft c.tt c.k (cu c).length/\kx (cu c)/\∃ma mc,e=Rt (Tu #[dm (b8 c.vt 0) c.s c.n c.ft c.tt c.k (S ma (cu c).length mc),I J 0,I J 0])/\w'.ownsRow w.heap.size 73 3 (S ma (cu c).length mc) (cu c).length (lj (cu c))))))
theorem adM{w:M}{B ae:Nat}{u0 u1 u2 u3 u4 u5 u6:Vv}(aA:B<ae)(h:w.cell? (D ae 0 Z)=U u0/\w.cell? (D ae 1 Z)=U u1/\w.cell? (D ae 2 Z)=U u2/\w.cell? (D ae 3 Z)=U u3/\w.cell? (D ae 4 Z)=U u4/\w.cell? (D ae 5 Z)=U u5/\w.cell? (D ae 6 Z)=U u6):∀a b c d e f g:Vv,(((((((w.setCell (D B 0 Z) a).setCell (D B 1 Z) b).setCell (D B 2 Z) c).setCell (D B 3 Z) d).setCell (D B 4 Z) e).setCell (D B 5 Z) f).setCell (D B 6 Z) g).cell? (D ae 0 Z)=U u0/\(((((((w.setCell (D B 0 Z) a).setCell (D B 1 Z) b).setCell (D B 2 Z) c).setCell (D B 3 Z) d).setCell (D B 4 Z) e).setCell (D B 5 Z) f).setCell (D B 6 Z) g).cell? (D ae 1 Z)=U u1/\(((((((w.setCell (D B 0 Z) a).setCell (D B 1 Z) b).setCell (D B 2 Z) c).setCell (D B 3 Z) d).setCell (D B 4 Z) e).setCell (D B 5 Z) f).setCell (D B 6 Z) g).cell? (D ae 2 Z)=U u2/\(((((((w.setCell (D B 0 Z) a).setCell (D B 1 Z) b).setCell (D B 2 Z) c).setCell (D B 3 Z) d).setCell (D B 4 Z) e).setCell (D B 5 Z) f).setCell (D B 6 Z) g).cell? (D ae 3 Z)=U u3/\(((((((w.setCell (D B 0 Z) a).setCell (D B 1 Z) b).setCell (D B 2 Z) c).setCell (D B 3 Z) d).setCell (D B 4 Z) e).setCell (D B 5 Z) f).setCell (D B 6 Z) g).cell? (D ae 4 Z)=U u4/\(((((((w.setCell (D B 0 Z) a).setCell (D B 1 Z) b).setCell (D B 2 Z) c).setCell (D B 3 Z) d).setCell (D B 4 Z) e).setCell (D B 5 Z) f).setCell (D B 6 Z) g).cell? (D ae 5 Z)=U u5/\(((((((w.setCell (D B 0 Z) a).setCell (D B 1 Z) b).setCell (D B 2 Z) c).setCell (D B 3 Z) d).setCell (D B 4 Z) e).setCell (D B 5 Z) f).setCell (D B 6 Z) g).cell? (D ae 6 Z)=U u6:=fun a b c d e f g=>by
 obtain⟨h0,h1,h2,h3,h4,h5,h6⟩:=h;have aI:=Nat.ne_of_lt aA;have key:∀i,(((((((w.setCell (D B 0 Z) a).setCell (D B 1 Z) b).setCell (D B 2 Z) c).setCell (D B 3 Z) d).setCell (D B 4 Z) e).setCell (D B 5 Z) f).setCell (D B 6 Z) g).cell? (D ae i Z)=w.cell? (D ae i Z):=fun i=>by repeat rw[World.cell?_setCell_far _ _ _ _ aI]
 exact⟨(key 0).trans h0,(key 1).trans h1,(key 2).trans h2,(key 3).trans h3,(key 4).trans h4,(key 5).trans h5,(key 6).trans h6⟩
theorem ahG(E:bj)(d:Q)(v:Except (Int×Int) (Ls Vl))(w:M)(sn:Sn->Ad)(za:Ad)(hl:gy w sn)(hz:kv w sn za)(i7:uf w)(hd:d.size<=9223372036854775807)(hv:pb E cS 0 d v)(bX:∀vs,v= .ok vs->Sz vs):Cs prog 32 #[Y d] w fun e w'=>wj v w e w':=by
 have iA:Hi (∀wq,Bw w wq->Cs prog 58 #[Y d] wq fun e w'=>Mf sn za v wq e w'):=fun wq q=>adp E d v wq sn za (hl.below q) (hz.below q) hd hv bX;have TU:Hi (∀k q er,Hs sn za k q er->∀wq,Bw w wq->Cs prog 48 #[er] wq (fun e w'=>e=Rt (I J q)/\Bw wq w')/\Cs prog 34 #[er] wq (fun e w'=>e=Rt (I J k)/\Bw wq w')):=fun k q er h=>afE w hl hz i7 h;have DM:Hi (∀x wq,Bw w wq->Cs prog 48 #[be 0 (sn x)] wq (fun e w'=>e=Rt (I J 0)/\Bw wq w')/\Cs prog 34 #[be 0 (sn x)] wq (fun e w'=>e=Rt (I J x.code)/\Bw wq w')):=fun x=>air (za:=za) x w hl i7;have KY:Hi (∀wq,Cs prog 48 #[.nilIface] wq fun e w'=>e=Rt (I J 0)/\Bw wq w'):=fun wq=>Ye wq;have jI:Hi (∀wq,Cs prog 34 #[.nilIface] wq fun e w'=>e=Rt (I J 0)/\w'=wq):=fun wq=>Gf wq;clear hl hz i7 hv bX;unfold wj;go_enter func32,ntmps32;go_wp2_with fail;refine(iA _ Be).mono ?_;rintro e w1 ⟨hb1,h1⟩;have aC:Hi (Bw w w1):=dj hb1;have cF:Hi (w1.heap[w.heap.size]? =U (C lh 68 (0,0))):=bc (bl w _) hb1;have XS:∀{v:Vv} {n:Nat} {xs:Ls Vv},w1.ownsRow (w.alloc (C lh 68)).heap.size 73 3 v n xs->w1.ownsRow w.heap.size 73 3 v n xs:=fun h=>Gi h Sq
 have h2:∃(V:Int) (au N F T K:Q) (xa:Oo Ad) (xl xc:Nat) (er:Vv) (q0 k0:Int),e=Rt (Tu #[dm V au N F T K (S xa xl xc),er])/\(∀wq,Bw w wq->Cs prog 48 #[er] wq (fun e w'=>e=Rt (I J q0)/\Bw wq w')/\Cs prog 34 #[er] wq (fun e w'=>e=Rt (I J k0)/\Bw wq w'))/\
  ∀w',Bw w w'->(∀(v:Vv) (n:Nat) (xs:Ls Vv),w1.ownsRow w.heap.size 73 3 v n xs->w'.ownsRow w.heap.size 73 3 v n xs)->wj v w (Rt (Tu #[dm V au N F T K (S xa xl xc),I J q0,I J k0])) w':=by
  rcases h1 with⟨k,q,er,hv,hF,he⟩|⟨c,pr,hv,hok,hS,hp,⟨hn,he⟩|⟨hq,hn,he⟩|⟨hq,hc,hm,he⟩|⟨hq,hc,hm,ma,mc,he,ho⟩⟩
  ·exact⟨_,_,_,_,_,_,_,_,_,_,_,_,he,TU k q er hF,fun w' hb _=>⟨hb,.inl ⟨k,q,hv,X⟩⟩⟩
  ·exact⟨_,_,_,_,_,_,_,_,_,_,_,_,he,DM .Card,fun w' hb _=>⟨hb,.inr ⟨c,pr,hv,hok,hS,hp,.inl ⟨.inl hn,X⟩⟩⟩⟩
  ·exact⟨_,_,_,_,_,_,_,_,_,_,_,_,he,DM .Card,fun w' hb _=>⟨hb,.inr ⟨c,pr,hv,hok,hS,hp,.inl ⟨.inr hn,X⟩⟩⟩⟩
  ·exact⟨_,_,_,_,_,_,_,_,_,_,_,_,he,DM .Mark,fun w' hb _=>⟨hb,.inr ⟨c,pr,hv,hok,hS,hp,.inr (.inl ⟨hq,hc,hm,X⟩)⟩⟩⟩
  ·exact⟨_,_,_,_,_,_,_,_,_,_,_,_,he,fun wq q=>⟨KY wq,(jI wq).mono fun e w' h=>⟨h.1,by rw[h.2];exact By⟩⟩,fun w' hb hk=>⟨hb,.inr ⟨c,pr,hv,hok,hS,hp,.inr (.inr ⟨hq,hc,hm,ma,mc,X,hk _ _ _ (XS ho)⟩)⟩⟩⟩
 obtain⟨V,au,N,F,T,K,xa,xl,xc,er,q0,k0,rfl,YJ,jP⟩:=h2;have UH:=cw YJ;have j4:=cw jP;unfold wj at j4;have iD:Hi (Bw w1 (w1.alloc (C (ib V au N F T K (S xa xl xc)) 68)).drew):=(Be).drew;have aM:Hi (Bw w (w1.alloc (C (ib V au N F T K (S xa xl xc)) 68)).drew):=Tm aC iD;have VL:=bl w1 (C (ib V au N F T K (S xa xl xc)) 68);have mL:Hi (∀wq,H (w1.alloc (C (ib V au N F T K (S xa xl xc)) 68)).heap.size (w1.alloc (C (ib V au N F T K (S xa xl xc)) 68)) wq->wq.cell? (D w1.heap.size 0 Z)=U (I J V)/\wq.cell? (D w1.heap.size 1 Z)=U (Y au)/\wq.cell? (D w1.heap.size 2 Z)=U (Y N)/\wq.cell? (D w1.heap.size 3 Z)=U (Y F)/\wq.cell? (D w1.heap.size 4 Z)=U (Y T)/\wq.cell? (D w1.heap.size 5 Z)=U (Y K)/\wq.cell? (D w1.heap.size 6 Z)=U (S xa xl xc)):=fun wq q=>by have hg:=bc VL q;refine⟨?_,?_,?_,?_,?_,?_,?_⟩ <;>simp[Wc,hg]
 have hlw:=eb cF;clear hb1 h1 XS YJ jP iA TU DM KY jI VL;unfold dm;go_upto_region 2 with fail;obtain⟨c0,c1,c2,c3,c4,c5,c6⟩:=mL _ By;have TF:Hi (H (w1.alloc (C (ib V au N F T K (S xa xl xc)) 68)).heap.size (w1.alloc (C (ib V au N F T K (S xa xl xc)) 68)) (w1.alloc (C (ib V au N F T K (S xa xl xc)) 68)).drew):=(By).drew;have SS:Hi (Bw w1 (w1.alloc (C (ib V au N F T K (S xa xl xc)) 68))):=Be;have UV:=cw (mL _ TF)
 go_region_held_law (fun wq=>wq.cell? (D w1.heap.size 0 Z)=U (I J V)/\wq.cell? (D w1.heap.size 1 Z)=U (Y au)/\wq.cell? (D w1.heap.size 2 Z)=U (Y N)/\wq.cell? (D w1.heap.size 3 Z)=U (Y F)/\wq.cell? (D w1.heap.size 4 Z)=U (Y T)/\wq.cell? (D w1.heap.size 5 Z)=U (Y K)/\wq.cell? (D w1.heap.size 6 Z)=U (S xa xl xc)) (first|with_reducible exact UV.out|with_reducible exact UW.out|with_reducible exact K8.out|with_reducible exact UX.out _ _ _ _ _ _ _) (first
  |(go_at_call 48;refine(UH _ aM).1.mono ?_;rintro e w2 ⟨rfl,hb2⟩;have TH:Hi (H (w1.alloc (C (ib V au N F T K (S xa xl xc)) 68)).heap.size (w1.alloc (C (ib V au N F T K (S xa xl xc)) 68)) w2):=Tm TF hb2;have aD:Hi (Bw w w2):=Tm aM hb2;have UW:=cw (mL _ TH);clear hb2)
  |(go_at_call 34;refine(UH _ aD).2.mono ?_;rintro e w3 ⟨rfl,hb3⟩;have NK:Hi (H (w1.alloc (C (ib V au N F T K (S xa xl xc)) 68)).heap.size (w1.alloc (C (ib V au N F T K (S xa xl xc)) 68)) w3):=Tm TH hb3;have aR:Hi (Bw w w3):=Tm aD hb3;have K8:=cw (mL _ NK);have UX:Hi (∀a b c d e f g:Vv,(((((((w3.setCell ⟨w.heap.size,0,Z⟩ a).setCell ⟨w.heap.size,1,Z⟩ b).setCell ⟨w.heap.size,2,Z⟩ c).setCell ⟨w.heap.size,3,Z⟩ d).setCell ⟨w.heap.size,4,Z⟩ e).setCell ⟨w.heap.size,5,Z⟩ f).setCell ⟨w.heap.size,6,Z⟩ g).cell? ⟨w1.heap.size,0,Z⟩=U (I J V)/\(((((((w3.setCell ⟨w.heap.size,0,Z⟩ a).setCell ⟨w.heap.size,1,Z⟩ b).setCell ⟨w.heap.size,2,Z⟩ c).setCell ⟨w.heap.size,3,Z⟩ d).setCell ⟨w.heap.size,4,Z⟩ e).setCell ⟨w.heap.size,5,Z⟩ f).setCell ⟨w.heap.size,6,Z⟩ g).cell? ⟨w1.heap.size,1,Z⟩=U (Y au)/\(((((((w3.setCell ⟨w.heap.size,0,Z⟩ a).setCell ⟨w.heap.size,1,Z⟩ b).setCell ⟨w.heap.size,2,Z⟩ c).setCell ⟨w.heap.size,3,Z⟩ d).setCell ⟨w.heap.size,4,Z⟩ e).setCell ⟨w.heap.size,5,Z⟩ f).setCell ⟨w.heap.size,6,Z⟩ g).cell? ⟨w1.heap.size,2,Z⟩=U (Y N)/\(((((((w3.setCell ⟨w.heap.size,0,Z⟩ a).setCell ⟨w.heap.size,1,Z⟩ b).setCell ⟨w.heap.size,2,Z⟩ c).setCell ⟨w.heap.size,3,Z⟩ d).setCell ⟨w.heap.size,4,Z⟩ e).setCell ⟨w.heap.size,5,Z⟩ f).setCell ⟨w.heap.size,6,Z⟩ g).cell? ⟨w1.heap.size,3,Z⟩=U (Y F)/\(((((((w3.setCell ⟨w.heap.size,0,Z⟩ a).setCell ⟨w.heap.size,1,Z⟩ b).setCell ⟨w.heap.size,2,Z⟩ c).setCell ⟨w.heap.size,3,Z⟩ d).setCell ⟨w.heap.size,4,Z⟩ e).setCell ⟨w.heap.size,5,Z⟩ f).setCell ⟨w.heap.size,6,Z⟩ g).cell? ⟨w1.heap.size,4,Z⟩=U (Y T)/\(((((((w3.setCell ⟨w.heap.size,0,Z⟩ a).setCell ⟨w.heap.size,1,Z⟩ b).setCell ⟨w.heap.size,2,Z⟩ c).setCell ⟨w.heap.size,3,Z⟩ d).setCell ⟨w.heap.size,4,Z⟩ e).setCell ⟨w.heap.size,5,Z⟩ f).setCell ⟨w.heap.size,6,Z⟩ g).cell? ⟨w1.heap.size,5,Z⟩=U (Y K)/\(((((((w3.setCell ⟨w.heap.size,0,Z⟩ a).setCell ⟨w.heap.size,1,Z⟩ b).setCell ⟨w.heap.size,2,Z⟩ c).setCell ⟨w.heap.size,3,Z⟩ d).setCell ⟨w.heap.size,4,Z⟩ e).setCell ⟨w.heap.size,5,Z⟩ f).setCell ⟨w.heap.size,6,Z⟩ g).cell? ⟨w1.heap.size,6,Z⟩=U (S xa xl xc)):=adM hlw K8;have qU:=cw (bc cF (Tm SS NK));obtain⟨z0,z1,z2,z3,z4,z5,z6,y0,y1,y2,y3,y4,y5,y6⟩:=uX qU;have I9:w.heap.size<w3.heap.size:=bp z0;have Q0:w1.heap.size<w3.heap.size:=bp K8.1;clear hb3))
 rename_i hHeld;clear hHeld UV UW K8 UX mL c0 c1 c2 c3 c4 c5 c6;go_wp2_with fail;refine db (v:=Tu #[dm V au N F T K (S xa xl xc),I J q0,I J k0]) (by simp[results,results32,go_sem,dm,z0,z1,z2,z3,z4,z5,z6]) X ?_;refine j4 _ (uO aR _ _ _ _ _ _ _) fun v n xs ho=>?_;have mB:=fm ho (Tm SS NK);have aI:=jb qU mB Dc;exact dk (dk (dk (dk (dk (dk (dk mB aI _) aI _) aI _) aI _) aI _) aI _) aI _
structure Ho(s n f t k:Q)(ms:Ls du):Prop where
 s:s.size<=1048576
 n:n.size<=1048576
 f:f.size<=1048576
 t:t.size<=1048576
 k:k.size<=1048576
 ms:∀j,j<ms.length->(ms.getD j fh).kind.size<=1048576/\(ms.getD j fh).body.size<=1048576
theorem Ho.cdT{s n f t k:Q}{ms:Ls du}(h:Ho s n f t k ms):Ef s n f t k ms:=⟨fw h.s Dc,fw h.n Dc,fw h.f Dc,fw h.t Dc,fw h.k Dc,fun j hj=>⟨fw (h.ms j hj).1 Dc,fw (h.ms j hj).2 Dc⟩⟩
theorem ahv(l:Ls (Q×Q×Q))(q:Q×Q×Q):Bm (l++[q])=Bm l++uW q:=by unfold Bm;rw[List.foldl_append];rfl
def qz(ms:Ls du)(j:Nat):Q:=Bm ((ms.take j).map qm)
theorem agx(ms:Ls du):qz ms 0=az:=rfl
theorem Xg{ms:Ls du}{j:Nat}(h:j<ms.length):qz ms (j+1)=qz ms j++uW (qm (ms.getD j fh)):=by
 unfold qz;have e1:ms.take (j+1)=ms.take j++[ms.getD j fh]:=by rw[vz,dz h,dy,dz h];rfl
 rw[e1,Ci,uI,zl,ahv]
theorem agw(ms:Ls du):qz ms ms.length=Bm (ms.map qm):=by unfold qz;rw[we]
theorem agz(b:Bool):(Dl (bT b)).size<=6:=by
 unfold Dl;split;·exact Lz
 have:=jv 0 false 1 (bT b);rw[Iq]at this;exact this
theorem agB:Dl (bT true)=cf 0 false 1 (bT true):=G (by decide+kernel)
theorem agA:Dl (bT false)=az:=ba (by decide+kernel)
theorem ai1:Dt ⟨#[Uo (0:Int).toNat]⟩=az:=ba (by decide+kernel)
theorem ai2:Dt ⟨#[Uo (1:Int).toNat]⟩=cf 2 true 0 (cf 0 false 2 ⟨#[1]⟩):=G (by decide+kernel)
theorem ai3:Dt ⟨#[Uo (2:Int).toNat]⟩=cf 2 true 0 (cf 0 false 2 ⟨#[2]⟩):=G (by decide+kernel)
theorem aht(m:du)(h1:m.kind.size<=20)(h2:m.body.size<=1048576):(uW (qm m)).size<=1048630:=by
 unfold uW qm;simp only;have a:=jv 0 false 6 m.kind;have b:=agz m.must;have c:=jv 0 false 4 m.body;have d:=jv 0 true 16 (cf 0 false 6 m.kind++Dl (bT m.must)++cf 0 false 4 m.body);rw[iq,iq]at d;omega
theorem Pf{ms:Ls du}(h:∀j,j<ms.length->(ms.getD j fh).kind.size<=20/\(ms.getD j fh).body.size<=1048576):∀j,j<=ms.length->(qz ms j).size<=j*1048630
 |0,_=>by rw[agx];exact Lz
 |j+1,hj=>by
  have ih:=Pf h j O
  rw[Xg O,iq]
  have:=aht _ (h j O).1 (h j O).2
  omega
theorem ahz(v:Int)(s n f t k:Q)(ms:Ls du)(ma:Oo Ad)(mc:Nat)(w:M)(fT:∀j,j<ms.length->Ea (ms.getD j fh).body)(eN:il w ma ms)(hS:Ho s n f t k ms)(hn:ms.length<=1000000)(kK:ms.length<=mc):Cs prog 52 #[dm v s n f t k (S ma ms.length mc)] w fun e w'=>Ex v s n f t k ms w e w':=by
 have hT:=hS.cdT;have BL:Hi _:=fun wq q=>Wo v s n f t k ms ma mc wq fT (eN.below q) hT.s hT.n hT.f hT.t hT.k hT.ms O kK;have jF:Hi _:=fun c b m u wq a1 a2 a3 a4 a5=>Og c b m u wq a1 a2 a3 a4 a5;have oF:Hi (∀wq,Cs prog 81 #[Y n] wq fun e w'=>∃pr:Bool,e=Rt (Bo pr)/\(pr=true↔bu 8 n)/\Bw wq w'):=fun wq=>(Oq n wq (by have:=hS.n;omega)).mono fun e w' r=>(r.to (Iy n)).toW;have wA:Hi _:=fun wq=>aiL true wq;have mH:=dt eN;have HS:=dt hS;clear eN fT hT;unfold Ex;unfold Me at BL;unfold dm at BL ⊢;go_enter func52,ntmps52;go_wp2_with fail;refine(BL _ Be).mono ?_;rintro e w1 ⟨hb1,h1⟩;have aC:Hi _:=dj hb1;have A9:Hi (w1.heap[w.heap.size]? =U (C #[I J v,Y s,Y n,Y f,Y t,Y k,S ma ms.length mc] 68 (0,0))):=bc (bl w _) hb1;clear hb1 BL;rcases h1 with⟨hc,rfl⟩|⟨hc,hm,rfl⟩|⟨hc,hm,rfl⟩;·have HN:=dt hc;clear hc;go_wp2;go_ret2;exact⟨aC,.inl ⟨HN,X⟩⟩
 ·have HN:=dt (And.intro hc hm);clear hc hm;go_wp2;go_ret2;exact⟨aC,.inr (.inl ⟨HN.1,HN.2,X⟩)⟩
 have dQ:=dt (And.intro hc hm);have eV:∀(wq:M),w1.heap[w.heap.size]? =wq.heap[w.heap.size]? ->∀(i:Nat) (u:Vv),(#[I J v,Y s,Y n,Y f,Y t,Y k,S ma ms.length mc]:Array Vv)[i]? =U u->wq.cell? (D w.heap.size i Z)=U u:=fun wq hq i u hu=>by have:=A9.out;rw[hq]at this;simp only[Wc,this];exact hu
 have c0:=eV w1 X 0 _ X;have c1:=eV w1 X 1 _ X;have c2:=eV w1 X 2 _ X;have c3:=eV w1 X 3 _ X;have c4:=eV w1 X 4 _ X;have c5:=eV w1 X 5 _ X;have c6:=eV w1 X 6 _ X;have mL:Hi (∀wq,Bw w1 wq->wq.cell? (D w.heap.size 0 Z)=U (I J v)/\wq.cell? (D w.heap.size 1 Z)=U (Y s)/\wq.cell? (D w.heap.size 2 Z)=U (Y n)/\wq.cell? (D w.heap.size 3 Z)=U (Y f)/\wq.cell? (D w.heap.size 4 Z)=U (Y t)/\wq.cell? (D w.heap.size 5 Z)=U (Y k)/\wq.cell? (D w.heap.size 6 Z)=U (S ma ms.length mc)):=fun wq q=>⟨Cb q c0,Cb q c1,Cb q c2,Cb q c3,Cb q c4,Cb q c5,Cb q c6⟩;have TW:Hi (il w1 ma ms):=mH.below aC;have Y7:v=0\/v=1\/v=2:=by have:=hc.v0;have:=hc.v2;omega
 clear hc hm eV mH A9;obtain⟨vb,(GT:Hi _)⟩:∃vb,Dt ⟨#[Uo v.toNat]⟩=vb:=Ey;go_upto_if 18 with fail;go_cut [5] (fun x wx=>x=Y vb/\Bw w1 wx)
 case first=>
  clear dQ c1 c2 c3 c4 c5 c6;rcases Y7 with rfl|rfl|rfl;·go_wp2;go_meet;exact⟨by rw[<-GT,ai1],By⟩
  ·go_wp2_with fail;rw[Nw 1 Dc Dc w1];go_wp2_with fail;refine(jF 0 false 2 _ _ Dc Dc Dc Dc (by show 1<=16777215;decide)).mono ?_;rintro e w2 ⟨rfl,hb2⟩;have aD:Hi _:=dj hb2;clear hb2;go_wp2_with fail;refine(jF 2 true 0 _ _ Dc Dc Dc Dc (fw (jv 0 false 2 ⟨#[Uo (1:Int).toNat]⟩) (by show 1+5<=16777215;decide))).mono ?_;rintro e w3 ⟨rfl,hb3⟩;have aR:Hi _:=Tm aD hb3;clear hb3;go_wp2;go_meet;exact⟨by rw[<-GT,ai2],aR⟩
  go_wp2_with fail;rw[Nw 2 Dc Dc w1];go_wp2_with fail;refine(jF 0 false 2 _ _ Dc Dc Dc Dc (by show 1<=16777215;decide)).mono ?_;rintro e w2 ⟨rfl,hb2⟩;have aD:Hi _:=dj hb2;clear hb2;go_wp2_with fail;refine(jF 2 true 0 _ _ Dc Dc Dc Dc (fw (jv 0 false 2 ⟨#[Uo (2:Int).toNat]⟩) (by show 1+5<=16777215;decide))).mono ?_;rintro e w3 ⟨rfl,hb3⟩;have aR:Hi _:=Tm aD hb3;clear hb3;go_wp2;go_meet;exact⟨by rw[<-GT,ai3],aR⟩
 obtain⟨rfl,QF⟩:=hcut;have HBC:=dt QF;have xZ:=HS.out;have XT:ms.length<=8:=by have:=dQ.out.1.mks;unfold tf at this;split at this<;>omega
 have OA:Hi (∀j,j<ms.length->(ms.getD j fh).kind.size<=20/\(ms.getD j fh).body.size<=1048576):=fun j hj=>⟨((yn _).2 (Xa (dQ.2 j hj).1)).2.1,(HS.ms j hj).2⟩;have NV:=dt (fun wq=>jF 0 false 2 s wq Dc Dc Dc Dc (fw xZ.s Dc));have NQ:=dt (fun wq=>jF 0 false 19 n wq Dc Dc Dc Dc (fw xZ.n Dc));have NR:=dt (fun wq=>jF 0 false 12 n wq Dc Dc Dc Dc (fw xZ.n Dc));have zvb:vb.size<=20:=by
  rw[<-GT.out];unfold Dt;split;·exact Lz
  have a:=jv 2 true 0 (cf 0 false 2 ⟨#[Uo v.toNat]⟩);have b:=jv 0 false 2 ⟨#[Uo v.toNat]⟩;have c:(⟨#[Uo v.toNat]⟩:Q).size=1:=X;omega
 have zes:=jv 0 false 2 s;have zn1:=jv 0 false 19 n;have zn2:=jv 0 false 12 n;have Z8:=jv 0 false 24 f;have zet:=jv 0 false 24 t;have Z9:=jv 0 false 3 k;have s1:=xZ.s;have s2:=xZ.n;have s3:=xZ.f;have s4:=xZ.t;have s5:=xZ.k;obtain⟨es,EG⟩:∃x,cf 0 false 2 s=x:=Ey;obtain⟨PF,QO⟩:∃x,cf 0 false 19 n=x:=Ey;obtain⟨PG,QP⟩:∃x,cf 0 false 12 n=x:=Ey;obtain⟨ef,L6⟩:∃x,cf 0 false 24 f=x:=Ey;obtain⟨et,i7⟩:∃x,cf 0 false 24 t=x:=Ey;obtain⟨ek,EF⟩:∃x,cf 0 false 3 k=x:=Ey;have SM:=jv 0 true 16 (ef++et);rw[iq]at SM;obtain⟨U9,QQ⟩:∃x,cf 0 true 16 (ef++et)=x:=Ey;rw[EG]at NV zes;rw[QO]at NQ zn1;rw[QP]at NR zn2;rw[L6]at Z8;rw[i7]at zet;rw[EF]at Z9;rw[QQ]at SM;have OD:=dt (And.intro EG (And.intro QO (And.intro QP (And.intro L6 (And.intro i7 (And.intro EF QQ))))));have ajC:es.size<=1048581:=O;have ajE:PF.size<=1048581:=O;have ajF:PG.size<=1048581:=O;have ajA:ef.size<=1048581:=O;have ajD:et.size<=1048581:=O;have ajB:ek.size<=1048581:=O;have ajH:U9.size<=2097167:=O;clear EG QO QP zes zn1 zn2 Z8 zet Z9 SM s1 s2 xZ hS;obtain⟨d0,d1,d2,d3,d4,d5,d6⟩:=mL _ QF;clear QF c0 c1 c2 c3 c4 c5 c6 Y7;go_wp2_with fail;refine(NV _).mono ?_;rintro e w2 ⟨rfl,hb2⟩;have aD:Hi _:=Tm HBC hb2;clear hb2 d0 d1 d2 d3 d4 d5 d6;obtain⟨d0,d1,d2,d3,d4,d5,d6⟩:=mL _ aD;obtain⟨o1,nW⟩:∃x,vb++es=x:=Ey;have zo1:o1.size<=1048601:=by rw[<-nW,iq];omega
 have lJ:=dt nW;go_wp2_with fail;clear nW;refine(oF _).mono ?_;rintro e w3 ⟨pr,rfl,(xK:Hi _),hb3⟩;have aR:Hi _:=Tm aD hb3;clear hb3 d0 d1 d2 d3 d4 d5 d6;obtain⟨d0,d1,d2,d3,d4,d5,d6⟩:=mL _ aR;go_upto_if 34 with fail;go_cut [5] (fun x wx=>x=Y (o1++if pr then PF else PG)/\Bw w1 wx)
 case first=>
  cases pr;·go_wp2_with fail;refine(NR _).mono ?_;rintro e w4 ⟨rfl,hb4⟩;have aJ:Hi _:=Tm aR hb4;clear hb4;go_wp2;go_meet;exact⟨X,aJ⟩
  go_wp2_with fail;refine(NQ _).mono ?_;rintro e w4 ⟨rfl,hb4⟩;have aJ:Hi _:=Tm aR hb4;clear hb4;go_wp2;go_meet;exact⟨X,aJ⟩
 obtain⟨rfl,(aJ:Hi _)⟩:=hcut;obtain⟨o2,oR⟩:∃x,(o1++if pr then PF else PG)=x:=Ey;have zo2:o2.size<=2097182:=by rw[<-oR,iq];cases pr<;>simp only[Bool.false_eq_true,if_false,if_true] <;>omega
 have fQ:=dt oR;rw[oR];obtain⟨ZP,RG⟩:∃x,o2++U9=x:=Ey;have ajG:ZP.size<=4194349:=by rw[<-RG,iq];omega
 obtain⟨o3,mB⟩:∃x,ZP++ek=x:=Ey;have zo3:o3.size<=5242930:=by rw[<-mB,iq];omega
 have eK:=dt (And.intro RG mB);clear oR d0 d1 d2 d3 d4 d5 d6;have zft:(ef++et).size<=2097162:=by rw[iq];omega
 obtain⟨d0,d1,d2,d3,d4,d5,d6⟩:=mL _ aJ;have tC:Hi (∀wq,Bw w1 wq->wq.cell? (D w.heap.size 3 Z)=U (Y f)/\wq.cell? (D w.heap.size 4 Z)=U (Y t)/\wq.cell? (D w.heap.size 5 Z)=U (Y k)):=fun wq q=>⟨(mL wq q).2.2.2.1,(mL wq q).2.2.2.2.1,(mL wq q).2.2.2.2.2.1⟩;go_upto_region 12 with fail;go_cut [5] (fun x wx=>x=Y o3/\Bw w1 wx)
 case first=>
  have HR:=dt (aJ.drew)
  go_region_held_law (fun wq=>wq.cell? (D w.heap.size 3 Z)=U (Y f)/\wq.cell? (D w.heap.size 4 Z)=U (Y t)/\wq.cell? (D w.heap.size 5 Z)=U (Y k)) (exact tC _ HR) (first
   |(go_at_call 83;refine(jF _ _ _ _ _ Dc Dc Dc Dc (by first|omega|(rw[iq,L6,i7];omega))).mono ?_;rintro e w5 ⟨rfl,aH⟩;have HR:=dt (Tm HR aH);clear aH))
  all_goals go_wp2_with fail;go_meet;exact⟨X,HR⟩
 obtain⟨rfl,aH⟩:=hcut;have aO:=dt aH;have fY:Hi (il wc ma ms):=TW.below aH;obtain⟨d0,d1,d2,d3,d4,d5,(D6:Hi _)⟩:=mL _ aH;clear aH d0 d1 d2 d3 d4 d5 RG mB L6 i7 EF QQ zft ajG zo2 zo1 ajC ajE ajF ajA ajD ajB ajH s3 s4 s5 tC NV NQ NR oF TW;have aak:Hi _:=Tm aC aO;generalize wc=W0 at*;go_wp2_with fail;go_loopw [7,8] (fun vm vi wr=>∃j:Nat,j<=ms.length/\vm=Y (qz ms j)/\vi=I J j/\Bw W0 wr) (fun _ vi _=>ms.length-(Io vi).toNat);case atStart=>exact⟨0,Lz,X,X,By⟩
 obtain⟨j,hj,rfl,rfl,aT⟩:=hrel;have dU:=dt aT;have x6:wr.cell? (D w.heap.size 6 Z)=U (S ma ms.length mc):=Cb aT D6;have FQ:Hi _:=Tm aak aT;clear aT;have zq:=Pf OA j hj;by_cases aA:j<ms.length
 ·have aN:(j:Int)<ms.length:=O;obtain⟨g,o,rfl,e0,e1,e2⟩:=(fY.below dU) j aA;have V5:=OA j aA;have hQ:=Xg aA;have zQ:=Pf OA (j+1) aA;obtain⟨m,hm⟩:∃m,ms.getD j fh=m:=Ey;rw[hm]at e0 e1 e2 V5 hQ;rw[hQ]at zQ;obtain⟨mk,mm,mb⟩:=m;simp only at e0 e1 e2 V5;obtain⟨ar,hq⟩:∃ar,qz ms j=ar:=Ey;rw[hq]at zq hQ zQ;rw[hq];have z1:=jv 0 false 6 mk;have z2:=jv 0 false 4 mb;obtain⟨k1,bQ⟩:∃x,cf 0 false 6 mk=x:=Ey;obtain⟨k2,iB⟩:∃x,cf 0 false 4 mb=x:=Ey;have z3:=jv 0 false 1 (bT true);rw[Iq]at z3;obtain⟨k3,nG⟩:∃x,cf 0 false 1 (bT true)=x:=Ey;rw[bQ]at z1;rw[iB]at z2;rw[nG]at z3;have y1:k1.size<=25:=O;have y2:k2.size<=1048581:=O;have zq8:ar.size<=8389040:=by have:=Cl 1048630 (fw hj XT);omega
  have HQ:=dt hQ;clear hm zq zQ z1 z2 hq hQ
  cases mm with
  |true=>
   have y4:(k1++k3).size<=31:=by rw[iq];omega
   have y5:(k1++k3++k2).size<=1048612:=by rw[iq];omega
   have y6:=jv 0 true 16 (k1++k3++k2)
   have qT:Hi (qz ms (j+1)=ar++cf 0 true 16 (k1++k3++k2)):=by
    have h:=HQ.out
    unfold uW qm at h
    simp only at h
    rw[agB,bQ,iB,nG]at h
    exact h
   go_wp2_with fail
   refine(jF 0 false 6 mk _ Dc Dc Dc Dc O).mono ?_
   rintro e w2 ⟨rfl,hb2⟩
   have aD:Hi _:=dj hb2
   have x1:w2.cell? (D wr.heap.size 1 Z)=U (Bo true):=bh.new (A:=#[Y mk,Bo true,Y mb]) ⟨w2,hb2⟩ X
   have x2:w2.cell? (D wr.heap.size 2 Z)=U (Y mb):=bh.new (A:=#[Y mk,Bo true,Y mb]) ⟨w2,hb2⟩ X
   have eZ:=lc x1
   obtain⟨xb,gL⟩:∃xb,wr.heap.size=xb:=Ey
   rw[gL]at x1 x2 eZ ⊢
   clear hb2 gL e0 e1 e2 x6
   go_wp2_with fail
   refine(wA _).mono ?_
   rintro e w3 ⟨rfl,rfl⟩
   go_wp2_with fail
   refine(jF 0 false 1 (bT true) _ Dc Dc Dc Dc (by rw[Iq];decide)).mono ?_
   rintro e w4 ⟨rfl,hb4⟩
   have aJ:Hi _:=Tm aD hb4
   have x2':w4.cell? (D xb 2 Z)=U (Y mb):=Cb hb4 x2
   clear hb4 x1 x2 eZ
   go_wp2_with fail
   refine(jF 0 false 4 mb _ Dc Dc Dc Dc O).mono ?_
   rintro e w5 ⟨rfl,aH⟩
   have NC:Hi _:=Tm aJ aH
   clear aH x2'
   go_wp2_with fail
   refine(jF 0 true 16 (k1++k3++k2) _ Dc Dc Dc Dc O).mono ?_
   rintro e w6 ⟨rfl,eB⟩
   have bB:Hi _:=Tm NC eB
   clear eB
   go_wp2
   go_roundw
   case rel=>exact⟨j+1,O,by rw[qT.out],Gn,Tm dU bB⟩
   case measure=>exact Ms
  |false=>
   have y5:(k1++k2).size<=1048612:=by rw[iq];omega
   have y6:=jv 0 true 16 (k1++k2)
   have qT:Hi (qz ms (j+1)=ar++cf 0 true 16 (k1++k2)):=by
    have h:=HQ.out
    unfold uW qm at h
    simp only at h
    rw[agA,bQ,iB,Ik]at h
    exact h
   go_wp2_with fail
   refine(jF 0 false 6 mk _ Dc Dc Dc Dc O).mono ?_
   rintro e w2 ⟨rfl,hb2⟩
   have aD:Hi _:=dj hb2
   have x1:w2.cell? (D wr.heap.size 1 Z)=U (Bo false):=bh.new (A:=#[Y mk,Bo false,Y mb]) ⟨w2,hb2⟩ X
   have x2:w2.cell? (D wr.heap.size 2 Z)=U (Y mb):=bh.new (A:=#[Y mk,Bo false,Y mb]) ⟨w2,hb2⟩ X
   have eZ:=lc x1
   obtain⟨xb,gL⟩:∃xb,wr.heap.size=xb:=Ey
   rw[gL]at x1 x2 eZ ⊢
   clear hb2 gL e0 e1 e2 x6
   go_wp2_with fail
   refine(jF 0 false 4 mb _ Dc Dc Dc Dc O).mono ?_
   rintro e w5 ⟨rfl,aH⟩
   have NC:Hi _:=Tm aD aH
   clear aH x1 x2 eZ
   go_wp2_with fail
   refine(jF 0 true 16 (k1++k2) _ Dc Dc Dc Dc O).mono ?_
   rintro e w6 ⟨rfl,eB⟩
   have bB:Hi _:=Tm NC eB
   clear eB
   go_wp2
   go_roundw
   case rel=>exact⟨j+1,O,by rw[qT.out],Gn,Tm dU bB⟩
   case measure=>exact Ms
 have aN:(ms.length:Int)<=j:=O;obtain rfl:j=ms.length:=O;have KF:Hi ((ctOf v s n pr f t k ms).bytes=cf 0 true 16 (o3++Jp (oo ms))):=by
  show _=_;obtain⟨q1,q2,q3,q4,q5,q6,q7⟩:=OD.out;have e1:=lJ.out;have e2:=fQ.out;obtain⟨e3,e4⟩:=eK.out;unfold CT.bytes CT.inner ctOf;simp only;rw[GT,q1,q4,q5,q7,q6,e1,<-e4,<-e3,<-e2];cases pr;·simp only[Bool.false_eq_true,if_false];rw[q3]
  simp only[if_true];rw[q2]
 have zq8:(qz ms ms.length).size<=8389040:=by have:=Cl 1048630 XT;omega
 by_cases h0:ms.length=0
 ·have cU:(ms.length:Int)<=0:=O;have aY:Hi ((ctOf v s n pr f t k ms).bytes=cf 0 true 16 o3):=by show _=_;have h:=KF.out;(have e:oo ms=Z:=by unfold oo;rw[ba h0]);rw[e]at h;rw[h];show cf 0 true 16 (o3++az)=_;rw[Ik]
  go_wp2_with fail;refine(jF 0 true 16 o3 _ Dc Dc Dc Dc O).mono ?_;rintro e w2 ⟨rfl,hb2⟩;have aD:Hi _:=Tm FQ hb2;have zb:=jv 0 true 16 o3;obtain⟨bb,nU⟩:∃x,cf 0 true 16 o3=x:=Ey;rw[nU]at aY zb;clear hb2;by_cases hb4:4000<bb.size;·have QD:(4000:Int)<bb.size:=O;go_wp2;go_ret2;exact⟨aD,.inr (.inr ⟨dQ.1,dQ.2,pr,xK,.inl ⟨by rw[aY.out];exact hb4,X⟩⟩)⟩
  have QD:(bb.size:Int)<=4000:=O;go_wp2;go_ret2;exact⟨aD,.inr (.inr ⟨dQ.1,dQ.2,pr,xK,.inr ⟨by rw[aY.out];omega,by rw[aY.out];rfl⟩⟩)⟩
 have cU:(0:Int)<ms.length:=O;have zm:=jv 0 true 16 (qz ms ms.length);have zm2:=jv 2 true 3 (cf 0 true 16 (qz ms ms.length));obtain⟨m1,iS⟩:∃x,cf 0 true 16 (qz ms ms.length)=x:=Ey;rw[iS]at zm zm2;obtain⟨m2,wQ⟩:∃x,cf 2 true 3 m1=x:=Ey;rw[wQ]at zm2;have aY:Hi ((ctOf v s n pr f t k ms).bytes=cf 0 true 16 (o3++m2)):=by show _=_;have h:=KF.out;(have e:oo ms=U (ms.map qm):=by unfold oo;rw[G h0]);rw[e]at h;rw[h];show cf 0 true 16 (o3++cf 2 true 3 (cf 0 true 16 (Bm (ms.map qm))))=_;rw[<-agw,iS,wQ]
 have zt:(o3++m2).size<=14000000:=by rw[iq];omega
 go_wp2_with fail;refine(jF 0 true 16 (qz ms ms.length) _ Dc Dc Dc Dc O).mono ?_;rintro e w2 ⟨rfl,hb2⟩;have aD:Hi _:=Tm FQ hb2;clear hb2 x6;go_wp2_with fail;refine(jF 2 true 3 m1 _ Dc Dc Dc Dc O).mono ?_;rintro e w3 ⟨rfl,hb3⟩;have aR:Hi _:=Tm aD hb3;clear hb3;go_wp2_with fail;refine(jF 0 true 16 (o3++m2) _ Dc Dc Dc Dc O).mono ?_;rintro e w4 ⟨rfl,hb4⟩;have aJ:Hi _:=Tm aR hb4;have zb:=jv 0 true 16 (o3++m2);obtain⟨bb,nU⟩:∃x,cf 0 true 16 (o3++m2)=x:=Ey;rw[nU]at aY zb;clear hb4;by_cases hb4:4000<bb.size;·have QD:(4000:Int)<bb.size:=O;go_wp2;go_ret2;exact⟨aJ,.inr (.inr ⟨dQ.1,dQ.2,pr,xK,.inl ⟨by rw[aY.out];exact hb4,X⟩⟩)⟩
 have QD:(bb.size:Int)<=4000:=O;go_wp2;go_ret2;exact⟨aJ,.inr (.inr ⟨dQ.1,dQ.2,pr,xK,.inr ⟨by rw[aY.out];omega,by rw[aY.out];rfl⟩⟩)⟩
end
section
open Go.RowKit
theorem acJ(s:Ls Nd)(a:Oo Ad)(c:Nat)(root:Int)(d:Q)(W w:M)(B:Nat)(L:Ls (Vv×Nat×Int))(an:Ls (Vv×Nat×Q))(nx:Int)(sn:Sn->Ad)(za:Ad)(hl:gy W sn)(hz:kv W sn za)(i7:uf W)(hs:ew W a s)(hok:ky s)(hn:s.length*48<=140737488351232)(lZ:∀i,i<s.length->(nd s i).kids.length*32<=140737488351232)(EE:d.size<=9223372036854775807)(hI:oz W w B L an nx)(hL:L.length<=1099511627776)(bR: -1099511627776<=nx)(aQ:nx<=0):Cs Tryz.prog 18 #[Po (U (D B 0 Z)),S a s.length c,I J root,Y d] w fun e w'=>e=Rt (Bo true)/\∃L',oz W w' B L' an (nx-1)/\L'.length=L.length+4:=by
 obtain⟨E,v,hv⟩:=Ob s root d;have fA:s.length<=140737488351232:=O;have rP:=ai5 hv;have BC:Hi (Cs Tryz.prog 13 #[S a s.length c] w fun e w'=>∃eJ,e=Rt eJ/\rj s w w' s.length eJ):=Nx s a c w (hs.below hI.bel) hn lZ;have HD:Hi (∀a2 c2 wq,Bw W wq->ew wq a2 s->Cs Tryz.prog 23 #[S a2 s.length c2,I J root,Y d] wq fun e w'=>wi v wq e w'):=fun a2 c2 wq hq mD=>adx E s a2 c2 root d v wq sn za (hl.below hq) (hz.below hq) (i7.below hq) mD hok fA EE hv;have HR:Hi (∀wq,Bw W wq->Cs Tryz.prog 40 #[S a s.length c,I J root,Y d] wq fun e w'=>wi v wq e w'):=fun wq hq=>Yi E s a c root d v wq (hs.below hq) hok fA EE hv;have xG:Hi (∀(z:Int) (wq:M),Cs Tryz.prog 17 #[I J z] wq fun e w'=>e=Rt (I J z)/\w'=wq):=Gd;have HI:=ax hI;have HS:=ax hs;obtain⟨vs,pH⟩:∃vs,Dv v=vs:=Ey;obtain⟨pl,(BQ:Hi _)⟩:∃pl,Yd v=pl:=Ey;obtain⟨nu,(bM:Hi _)⟩:∃nu,Xo v=nu:=Ey;have UQ:=ax pH;rw[pH]at rP;clear hl hz i7 hs hok hv lZ hI pH;go_enter Tryz.func18,Tryz.ntmps18;go_wp2_with fail;refine BC.mono ?_;rintro e w1 ⟨eJ,rfl,i6⟩;have aC:Hi (Bw w w1):=i6.bel;have eQ:Hi (Bw W w1):=Tm HI.bel i6.bel;obtain⟨a2,c2,rfl,mD⟩:=i6.sch;have o5:=ax mD;clear i6 mD;go_wp2_with fail;refine(HD a2 c2 w1 eQ o5).mono ?_;rintro e w2 gY;have lY:=gY.flat;rw[UQ,BQ,bM.out]at lY;obtain⟨(aD:Hi _),ta,tc,rfl,(fQ:Hi _)⟩:=lY;clear gY;go_wp2_with fail;refine(HR w2 (Tm eQ aD)).mono ?_;rintro e w3 nX;have AB:=nX.flat;rw[UQ,BQ,bM.out]at AB;obtain⟨(aR:Hi _),tb,td,rfl,(eK:Hi _)⟩:=AB;clear nX;have DL:Hi (Cs Tryz.prog 41 #[S ta vs.length tc,S tb vs.length td] w3 fun e w'=>dw True w3 e w'):=aif vs ta tb tc td w3 (yi.of_own (fm fQ aR)) (yi.of_own eK) O;go_wp2_with fail;refine DL.mono ?_;rintro e w4 ⟨r4,rfl,mC,hb4⟩;obtain rfl:r4=true:=mC.2 trivial;have aJ:=ax hb4;have SP:Hi (Bw w1 w4):=Tm aD (Tm aR hb4);have gE:Hi (Bw W w4):=Tm eQ SP;have zC:Hi (Cs Tryz.prog 16 #[S a2 s.length c2,S a s.length c] w4 fun e w'=>dw True w4 e w'):=My s a2 a c2 c w4 (o5.below SP) (HS.below gE) fA;clear mC hb4;go_wp2_with fail;refine zC.mono ?_;rintro e w5 ⟨r5,rfl,JG,aH⟩;obtain rfl:r5=true:=JG.2 trivial;have SR:Hi (Bw w2 w5):=Tm aR (Tm aJ aH);have aai:Hi (Bw w w5):=Tm aC (Tm aD SR);have BP:Hi (Cs Tryz.prog 42 #[Po (U (D B 0 Z)),S ta vs.length tc] w5 fun e w'=>e=Rt (Tu #[])/\∃L',oz W w' B L' an (nx-1)/\L'.length=L.length+4):=ahm W w w5 B L an nx ta tc vs.length (df vs) HI aai (Gi (fm fQ SR) aC.size) O hL bR aQ;clear JG aH;go_wp2_with fail;refine BP.mono ?_;rintro e w6 ⟨rfl,(HL6:Hi _)⟩;go_wp2_with fail;refine(xG _ _).mono ?_;rintro e w7 ⟨rfl,rfl⟩;go_wp2;go_ret;exact⟨X,HL6⟩
end
