/-
Several texts in one.
-/
import Derived.Test.YtkkicodfpekbgaaGreatDoorJc1
import Derived.Deep.DrawnRows
import Derived.Test.YtkkicodfpekbgaaGreatDoorJc0
import Derived.Test.YtkkicodfpekbgaaGreatDoorJc2
import Derived.Deep.RegionHeldLaw
import Derived.Handy
open Go.Value renaming int->I,string->Y,slice->S,pointer->Po,bool->Bo,agg->Ag,tuple->Tu
open Go.IntKind renaming i64->J
open Go.Obj renaming cells->C
open Go.Ending renaming returned->Rt
open Option renaming some->U,none->Z
open Go renaming World->M,Calls->Cs,Addr->Ad,Value->Vv
open _root_ renaming ByteArray->Q,Option->Oo,List->Ls
open Go.RowKit renaming Below->H,intOf->Io,Hid->Hi
open Go.World renaming cell?->Wc,frozen?->Wf
open Go.Addr renaming mk->D
set_option linter.unusedSimpArgs false
set_option linter.unusedVariables false
set_option maxRecDepth 100000
set_option maxHeartbeats 8000000
namespace Go.Proofs.YtkkicodfpekbgaaGreatDoor
open Go.Proofs.Tryz
open Go.RowKit
attribute [local go_sem ↓] Go.wp_at_zero Go.wp_at_succ
def eS:Ls (Int×Int×Bool)->Q->Oo Q
 | [],t=>U t
 |f::fs,t=>if(hd t).1=0/\((hd t).2.c,(hd t).2.n,(hd t).2.b)=f/\(hd t).2.s+(hd t).2.l=t.size then eS fs (t.extract (hd t).2.s.toNat t.size)else Z
def GP(n:Nd)(t:Q)(w:M)(e:Ending)(w':M):Prop:=
 ∃(u:Q) (r:Bool),e=Rt (Tu #[Y u,Bo r])/\((r=true/\eS n.lays t=U u)\/(r=false/\eS n.lays t=Z))/\H w.heap.size w w'/\u.size<=t.size
theorem rH(n:Nd)(ka:Oo Ad)(kc:Nat)(t:Q)(w:M)(sn:Sn->Ad)(hsn:dC w sn)(hn:iO w)(ht: -1<=n.tag)(hk:0<=n.kind)(hk':n.kind<=9)(hm1:n.mode=1->0<=n.tag)(hm:t.size<=140737488355328):Cs prog 137 #[Ag #[I J n.kind,I J n.tag,I J n.mode,S ka n.kids.length kc],Y t] w fun e w'=>GP n t w e w':=by
 have HL:Hi _:=fun wq q=>yz n ka kc wq (hn.below q) ht hk hk' hm1;have HS:Hi _:=hsn;have hlen:n.lays.length<=2:=by unfold Nd.lays;split<;>simp
 clear hsn hn hm1;obtain⟨L,hL⟩:∃L,n.lays=L:=Ey;have HLL:Hi _:=hL;rw[hL]at HL hlen;clear hL;go_enter func137,ntmps137;go_wp2_with fail;refine(HL _ Be).mono ?_;rintro e w1 ⟨g,rfl,⟨T,hG⟩,hb1⟩;have HB1:Hi (H w.heap.size w w1):=aT hb1;have HG:Hi (w1.heap[g]? =U (C (qO L).toArray T (0,0))):=hG;clear hb1 hG;go_wp2;go_loopw [1,13] (fun v1 vj wr=>∃(j:Nat) (u:Q),vj=I J j/\v1=Y u/\j<=L.length/\eS L t=eS (L.drop j) u/\u.size<=t.size/\H w1.heap.size w1 wr) (fun _ vj _=>L.length-(Io vj).toNat);case atStart=>exact⟨0,t,X,X,Lz,X,Ln,By⟩
 obtain⟨j,u,rfl,rfl,hj,hst,hu,hbr⟩:=hrel;have HST:Hi (eS L t=eS (L.drop j) u):=hst;have HB:Hi (H w1.heap.size w1 wr):=hbr;have HBW:Hi (H w.heap.size w wr):=HB1.trans (hbr.mono HB1.size);have hGr:=ax HG hbr;by_cases hlt:j<L.length
 ·have hlt':(j:Int)<L.length:=O;obtain⟨c,m,b,hf⟩:∃c m b,L[j]? =U (c,m,b):=⟨(L[j]).1,(L[j]).2.1,(L[j]).2.2,by rw[aC hlt]⟩;have HF:Hi (L.drop j=(c,m,b)::L.drop (j+1)):=by show L.drop j=_;rw[fI hlt];rw[aC hlt]at hf;injection hf with hf;rw[hf]
  have hcell:wr.cell? (D g (j*3) Z)=U (I J c)/\wr.cell? (D g (j*3+1) Z)=U (I J m)/\wr.cell? (D g (j*3+2) Z)=U (Bo b):=by
   simp only[Wc,hGr]
   match L,hlen,j,hlt,hf with
   | [f0],_,0,_,hf=>simp at hf;subst hf;simp[qO]
   | [f0,f1],_,0,_,hf=>simp at hf;subst hf;simp[qO]
   | [f0,f1],_,1,_,hf=>simp at hf;subst hf;simp[qO]
  obtain⟨g0,g1,g2⟩:=hcell;have HRD:Hi (∀wq,H w.heap.size w wq->Cs prog 156 #[Y u,I J 0] wq fun e w'=>e=Rt (Tu #[hv (hd u).2,iZ 0 sn (hd u).1])/\H wq.heap.size wq w'):=fun wq q=>Hg u wq sn (HS.below q) O;have hlg:=aw g0;simp only at hlg;clear hst hbr hGr hf;go_wp2_with fail;refine(HRD _ (HBW.alloc HBW.size _)).mono ?_;rintro e w2 ⟨rfl,hb2⟩;have HB2:Hi (H w1.heap.size w1 w2):=HB.trans ((aT hb2).mono HB.size);have HBW2:Hi (H w.heap.size w w2):=HBW.trans ((aT hb2).mono HBW.size);have hF:=ax (aA wr (C #[I J c,I J m,Bo b] 149)) hb2;have hs2:=Fc hF;have t0:w2.cell? (D wr.heap.size 0 Z)=U (I J c):=by simp[Wc,hF]
  have t1:w2.cell? (D wr.heap.size 1 Z)=U (I J m):=by simp[Wc,hF]
  have t2:w2.cell? (D wr.heap.size 2 Z)=U (Bo b):=by simp[Wc,hF]
  obtain⟨hc,hb,hn,hz,hl,hH⟩:∃hc hb hn hz hl,(hd u).2=⟨hc,hb,hn,hz,hl⟩:=⟨_,_,_,_,_,X⟩;have HH:Hi ((hd u).2=⟨hc,hb,hn,hz,hl⟩):=hH;rw[hH];unfold hv;clear hb2 hF hH g0 g1 g2;by_cases hk0:(hd u).1=0
  ·have HK:Hi ((hd u).1=0):=hk0;have hok:=i3 hk0;rw[HH.out]at hok;simp only at hok;obtain⟨z,rfl⟩:∃z:Nat,hz=z:=⟨hz.toNat,O⟩;obtain⟨l,rfl⟩:∃l:Nat,hl=l:=⟨hl.toNat,O⟩;(have e0:iZ 0 sn (hd u).1= .nilIface:=by rw[hk0];rfl);rw[e0];have HFO:Hi (∀wq,Cs prog 157 #[Ag #[I J hc,Bo hb,I J hn,I J z,I J l]] wq fun e w'=>e=Rt (Ag #[I J hc,I J hn,Bo hb])/\H wq.heap.size wq w'):=fun wq=>o5 hc hb hn z l wq;have HBW3:Hi (H w.heap.size w (w2.alloc (C #[I J hc,Bo hb,I J hn,I J z,I J l] 179))):=HBW2.alloc HBW2.size _;have HB3:Hi (H w1.heap.size w1 (w2.alloc (C #[I J hc,Bo hb,I J hn,I J z,I J l] 179))):=HB2.alloc HB2.size _;have X0:∀x:b7 (w2.alloc (C #[I J hc,Bo hb,I J hn,I J z,I J l] 179)),x.v.cell? (D w2.heap.size 0 Z)=U (I J hc):=fun x=>x.new X;have X1:∀x:b7 (w2.alloc (C #[I J hc,Bo hb,I J hn,I J z,I J l] 179)),x.v.cell? (D w2.heap.size 1 Z)=U (Bo hb):=fun x=>x.new X;have X2:∀x:b7 (w2.alloc (C #[I J hc,Bo hb,I J hn,I J z,I J l] 179)),x.v.cell? (D w2.heap.size 2 Z)=U (I J hn):=fun x=>x.new X;have X3:∀x:b7 (w2.alloc (C #[I J hc,Bo hb,I J hn,I J z,I J l] 179)),x.v.cell? (D w2.heap.size 3 Z)=U (I J z):=fun x=>x.new X;have X4:∀x:b7 (w2.alloc (C #[I J hc,Bo hb,I J hn,I J z,I J l] 179)),x.v.cell? (D w2.heap.size 4 Z)=U (I J l):=fun x=>x.new X;have Y0:∀x:b7 (w2.alloc (C #[I J hc,Bo hb,I J hn,I J z,I J l] 179)),x.v.cell? (D wr.heap.size 0 Z)=U (I J c):=fun x=>x.old t0;have Y1:∀x:b7 (w2.alloc (C #[I J hc,Bo hb,I J hn,I J z,I J l] 179)),x.v.cell? (D wr.heap.size 1 Z)=U (I J m):=fun x=>x.old t1;have Y2:∀x:b7 (w2.alloc (C #[I J hc,Bo hb,I J hn,I J z,I J l] 179)),x.v.cell? (D wr.heap.size 2 Z)=U (Bo b):=fun x=>x.old t2;have hzl:(z:Int)+l<=9223372036854775807:=O;clear hk0 e0;by_cases hq:hc=c/\hn=m/\hb=b
   ·obtain⟨rfl,rfl,rfl⟩:=hq;go_wp2_with fail;(have ne:=eX;refine bP Kr Kr ?_;(repeat(first|go_big_quiet_skip|(go_big_quiet_want;go_big_quiet_op;first|go_big_quiet_on|(apply Exists.intro;refine⟨fun x=>?_,?_⟩;(·(exact b7.calls (HFO x.v)));go_big_quiet_on))));refine dW ?_);intro w5 hb5;have z3:=X3 ⟨w5,hb5⟩;have HB5:Hi (H w1.heap.size w1 w5):=HB3.trans (hb5.mono HB3.size);have HBW5:Hi (H w.heap.size w w5):=HBW3.trans (hb5.mono HBW3.size);have HS5:Hi (w2.heap.size<w5.heap.size):=aw z3;simp only at z3;clear X0 X1 X2 X3 X4 Y0 Y1 Y2 hb5;by_cases hsz:(z:Int)+l=u.size
    ·(have hsz':((z:Int)+l !=u.size)=false:=by rw[bK];exact hsz);have hzu:(z:Int)<=u.size:=O;go_wp2;go_roundw
     case rel=>
      refine⟨j+1,u.extract z u.size,Gn,X,O,?_,?_,HB5⟩
      ·rw[HST,HF.out];show(if _ then _ else _)=_;rw[HH,aG ⟨HK,X,hsz⟩];rfl
      have:(u.extract z u.size).size=u.size-z:=Sq;omega
     case measure=>exact Ms
    (have hsz':((z:Int)+l !=u.size)=true:=by rw[ct];exact hsz);(have HNO:Hi (eS L t=Z):=by show eS L t=Z;rw[HST,HF.out];unfold eS;rw[G (fun q=>hsz (by have:=q.2.2;rw[HH.out]at this;exact this))]);clear hsz;go_wp2;go_ret2;exact⟨⟨#[]⟩,false,X,.inr ⟨X,by rw[HLL.out];exact HNO⟩,HBW5,by exact Lz⟩
   (have HNO:Hi (eS L t=Z):=by show eS L t=Z;rw[HST,HF.out];unfold eS;rw[G (fun q=>hq (by have:=q.2.1;rw[HH.out]at this;simpa using this))]);have hq3:¬hc=c\/(hc=c/\¬hn=m)\/(hc=c/\hn=m/\¬hb=b):=by
    by_cases a1:hc=c
    ·by_cases a2:hn=m
     ·exact .inr (.inr ⟨a1,a2,fun a3=>hq ⟨a1,a2,a3⟩⟩)
     exact .inr (.inl ⟨a1,a2⟩)
    exact .inl a1
   clear hq;rcases hq3 with hq|⟨rfl,hq⟩|⟨rfl,rfl,hq⟩;all_goals go_wp2_with fail;(have ne:=eX;refine bP Kr Kr ?_;(repeat(first|go_big_quiet_skip|(go_big_quiet_want;go_big_quiet_op;first|go_big_quiet_on|(apply Exists.intro;refine⟨fun x=>?_,?_⟩;(·(exact b7.calls (HFO x.v)));go_big_quiet_on))));refine dW ?_);intro w5 hb5;have HBW5:Hi _:=HBW3.trans (hb5.mono HBW3.size);clear X0 X1 X2 X3 X4 Y0 Y1 Y2 hb5;go_wp2;go_ret2;exact⟨⟨#[]⟩,false,X,.inr ⟨X,by rw[HLL.out];exact HNO⟩,HBW5,by exact Lz⟩
  have HK:Hi _:=hk0;have HNO:Hi (eS L t=Z):=by show eS L t=Z;rw[HST,HF.out];unfold eS;rw[G (fun q=>hk0 q.1)]
  obtain⟨fp,fa,he⟩:∃fp fa,iZ 0 sn (hd u).1=aX fp fa:=by unfold iZ;rw[G hk0];(repeat' split);all_goals exact⟨_,_,X⟩
  rw[he];unfold aX;clear hk0 he;go_wp2_with fail;go_quiet (fail);go_wp2;go_ret2;exact⟨⟨#[]⟩,false,X,.inr ⟨X,by rw[HLL.out];exact HNO⟩,Go.below_drewN (HBW2.alloc HBW2.size _) _,by exact Lz⟩
 have hlt':(L.length:Int)<=j:=O;have HE:Hi (eS L t=U u):=by show eS L t=U u;rw[hst,gT O];rfl
 clear hst hbr hGr;go_wp2;go_ret2;exact⟨u,true,X,.inl ⟨X,by rw[HLL.out];exact HE⟩,HBW,hu⟩
end Go.Proofs.YtkkicodfpekbgaaGreatDoor
namespace Go.Proofs.YtkkicodfpekbgaaGreatDoor
open Go.RowKit
def fQ(l:Ls gP):Ls Vv:=l.flatMap fun t=> [I J 2,I J t.1,Bo true]
theorem vy(l:Ls gP)(t:gP):fQ (l++[t])=fQ l++[I J 2,I J t.1,Bo true]:=by simp[fQ]
theorem qh:∀(l:Ls gP) (j:Nat),j<l.length->(fQ l)[j*3]? =U (I J 2)/\(fQ l)[j*3+1]? =U (I J (l[j]?.getD y9).1)/\(fQ l)[j*3+2]? =U (Bo true)
 | [],j,h=>by simp at h
 |t::l,0,_=>by simp[fQ]
 |t::l,j+1,h=>by
  have ih:=qh l j (by simpa using h)
  have e:fQ (t::l)=[I J 2,I J t.1,Bo true]++fQ l:=by simp[fQ]
  rw[e]
  have g:∀k,([Value.int J 2,I J t.1,Bo true]++fQ l)[(j+1)*3+k]? =(fQ l)[j*3+k]? :=fun k=>by
   rw[bu So]
   congr 1
   simp
   omega
  have g0:=g 0
  simp only[iS]at g0
  rw[g0,g 1,g 2]
  simpa using ih
theorem iq.of_own{w:M}{Bs R B:Nat}{v:Vv}{ars:Ls gP}(h:w.ownsRow B 149 3 v ars.length (fQ ars))(hb:w.heap[Bs]? =U (C #[v] 186 (0,0)))(hR:R<B)(hne:Bs≠R):iq w Bs R ars:=by
 refine⟨hne,?_⟩;rcases h.2 with⟨rfl,h0⟩|⟨g,cap,cur,rfl,h1,h2,h3,h4,h5,h6⟩
 ·exact .inl ⟨List.length_eq_zero_iff.1 h0,hb⟩
 refine .inr ⟨g,cap,cur,O,by unfold maxLen at h4;omega,h3,hb,h2,fun j hj=>?_⟩;have hg:=qh ars j hj;rw[<-h6]at hg;rw[bR O,bR O,bR O]at hg;simpa using hg
def yQ(n:Nd)(r:cP):cP:=r.map fun(b,x,u)=>(if n.mode=1 then eN 2 true n.tag b else b,x,u)
theorem Ek{n:Nd}{o:Oo cP}{r:cP}(h:cP.andThen o (fun b x' u=>U (U (if n.mode=1 then eN 2 true n.tag b else b,x',u)))=U r):∃r',o=U r'/\r=yQ n r':=by
 rcases dg h with⟨h1,h2⟩|⟨b,x,u,h1,h2⟩
 ·exact⟨Z,h1,h2⟩
 refine⟨_,h1,?_⟩;injection h2 with h2;exact h2.symm
def Ht(ars:Ls gP)(r:cP):cP:=r.map fun(b,x,u)=>(jK (ars.map (·.1)) b,x,u)
def Ia(l0:Bool)(r r':cP):Prop:=(r'=Z->r=Z)/\∀b x u,r'=U (b,x,u)->∃b0,r=U (b0,x,u)/\(l0=false->4000<b0.size)
def gO(l0 lc:Bool)(ars:Ls gP)(r r':cP):Prop:=(lc=false/\l0=false/\ars.length<=2000/\r=Ht ars r')\/(lc=true/\ars.length<=2001/\Ia l0 r r')
theorem gO.start(l0:Bool)(r:cP):gO l0 l0 [] r r:=by
 cases l0 with
 |false=>
  refine .inl ⟨X,X,Sq,?_⟩
  cases r with
  |none=>rfl
  |some z=>rfl
 |true=>exact .inr ⟨X,Sq,fun h=>h,fun b x u h=>⟨b,h,fun q=>by cases q⟩⟩
theorem gO.plain{l0 lc:Bool}{ars:Ls gP}{r r'':cP}{n:Nd}(h:gO l0 lc ars r (yQ n r''))(hm:¬(n.mode=1)\/lc=true):gO l0 lc ars r r'':=by
 rcases h with⟨h1,h2,h3,h4⟩|⟨h1,h2,h3,h4⟩
 ·have hm':¬n.mode=1:=by
   rcases hm with q|q
   ·exact q
   rw[h1]at q;cases q
  refine .inl ⟨h1,h2,h3,?_⟩;rw[h4]
  cases r'' with
  |none=>rfl
  |some z=>simp[yQ,Ht,hm']
 refine .inr ⟨h1,h2,fun q=>h3 (by rw[q];rfl),fun b x u q=>?_⟩;exact h4 _ x u (by rw[q];rfl)
theorem gO.head{l0:Bool}{ars:Ls gP}{r r'':cP}{n:Nd}(h:gO l0 false ars r (yQ n r''))(hm:n.mode=1)(t:gP)(ht:t.1=n.tag):gO l0 (decide (2000<ars.length+1)) (ars++[t]) r r'':=by
 rcases h with⟨_,h2,h3,h4⟩|⟨h1,_⟩
 ·have e:Ht ars (yQ n r'')=Ht (ars++[t]) r'':=by
   cases r'' with
   |none=>rfl
   |some z=>
    simp only[yQ,Ht,hm,Option.map_some,if_true]
    rw[ji,gd,jQ,zl,ht]
  rw[e]at h4;by_cases hl:2000<ars.length+1
  ·rw[aM hl];refine .inr ⟨X,So,fun q=>by rw[h4,q];rfl,fun b x u q=>⟨jK ((ars++[t]).map (·.1)) b,by rw[h4,q];rfl,fun _=>?_⟩⟩;have:=rM ((ars++[t]).map (·.1)) b;simp only[bY,aQ,aU,bD]at this;omega
  rw[aE hl];exact .inl ⟨X,h2,So,h4⟩
 cases h1
theorem gO.none{l0 lc:Bool}{ars:Ls gP}{r:cP}(h:gO l0 lc ars r Z):r=Z:=by
 rcases h with⟨_,_,_,h4⟩|⟨_,_,h3,_⟩
 ·rw[h4];rfl
 exact h3 X
theorem gO.len{l0 lc:Bool}{ars:Ls gP}{r r':cP}(h:gO l0 lc ars r r'):ars.length<=2001:=by rcases h with⟨_,_,h,_⟩|⟨_,h,_⟩ <;>omega
theorem gO.end{l0 lc l2:Bool}{ars:Ls gP}{r:cP}{b:Q}{x:Nat}{u:Bool}{t0 t2:Q}{o0 o1:Oo Int}(h:gO l0 lc ars r (U (b,x,u)))(hT:nk t0 lc o0 (jK (ars.map (·.1)) b) u t2 l2 o1):∃b0,r=U (b0,x,u)/\nk t0 l0 o0 b0 u t2 l2 o1:=by
 rcases h with⟨h1,h2,_,h4⟩|⟨h1,_,_,h4⟩
 ·refine⟨_,h4,?_⟩;rw[h2,<-h1];exact hT
 obtain⟨b0,h5,h6⟩:=h4 b x u X;refine⟨b0,h5,?_⟩;subst h1;have hl:=hT.mono X;subst hl;exact hT.longer h6
def lp(pre:Ls (Nat×gP))(b:Q):Q:=pre.foldl (fun b x=>eN 2 true x.2.1 b) b
theorem wV(pre:Ls (Nat×gP))(x:Nat×gP)(b:Q):lp (pre++[x]) b=eN 2 true x.2.1 (lp pre b):=by simp[lp]
theorem xL(ars:Ls gP):(fT ars ars.length).map (·.2)=ars.reverse:=by
 apply oR
 ·simp[fT]
 intro i h1 h2;simp only[fT,List.map_map,List.getElem_map,List.getElem_range,Function.comp_apply,List.getElem_reverse];have hi:i<ars.length:=by simpa using h2
 rw[aC O];rfl
theorem zj(ars:Ls gP)(b:Q):lp (fT ars ars.length) b=jK (ars.map (·.1)) b:=by
 have h:=xL ars;have e1:lp (fT ars ars.length) b=((fT ars ars.length).map (·.2)).foldl (fun b t=>eN 2 true t.1 b) b:=by unfold lp;rw[List.foldl_map]
 rw[e1,h,List.foldl_reverse];unfold jK;rw[List.foldr_map]
end Go.Proofs.YtkkicodfpekbgaaGreatDoor
namespace Go.Proofs.YtkkicodfpekbgaaGreatDoor
open Go.Proofs.Tryz
open Go.RowKit
theorem dG{p:Prop}(h:p):Hi p:=h
theorem oc(v:Vl)(l:Ls Vl):bG (v::l)=v.cells++bG l:=by unfold bG;simp
def EM:Vl:=⟨0,⟨#[]⟩,0,0⟩
def Co(w:M)(a:Oo Ad)(vs:Ls Vl):Prop:=∀j,j<vs.length->∃g,a=U (D g 0 Z)/\w.cell? (D g (j*4) Z)=U (I J (vs.getD j EM).kind)/\w.cell? (D g (j*4+1) Z)=U (Y (vs.getD j EM).text)/\
 w.cell? (D g (j*4+2) Z)=U (I J (vs.getD j EM).alt)/\w.cell? (D g (j*4+3) Z)=U (I J (vs.getD j EM).kids)
theorem jI:∀(l:Ls Vl) (i:Nat),i<l.length->∀j,j<4->(bG l)[i*4+j]? =(l.getD i EM).cells[j]?
 | [],i,h,_,_=>Ab h (aO _)
 |v::l,0,_,j,hj=>by
  rw[oc,cm (by show 0*4+j<4;omega)]
  simp
 |v::l,i+1,h,j,hj=>by
  have hl:v.cells.length=4:=X
  rw[oc,bu O,hl,show(i+1)*4+j-4=i*4+j by omega,jI l i (by simpa using h) j hj]
  simp
theorem Co.of_own{w:M}{base:Nat}{a:Oo Ad}{c:Nat}{vs:Ls Vl}(h:w.ownsRow base 60 4 (S a vs.length c) vs.length (bG vs)):Co w a vs:=fun j hj=>by
 obtain⟨a',c',e,hf⟩:=fL h;obtain⟨g,rfl⟩:=hf O;injection e with e1 _ _;subst e1;have q:=h.cells (g:=g) X;refine⟨g,X,?_,?_,?_,?_⟩
 ·have:=q (j*4) (I J (vs.getD j EM).kind) (by rw[show j*4=j*4+0 by omega,jI vs j hj 0 Dc];rfl);rwa[pj]at this
 ·have:=q (j*4+1) (Y (vs.getD j EM).text) (by rw[jI vs j hj 1 Dc];rfl);rwa[pj]at this
 ·have:=q (j*4+2) (I J (vs.getD j EM).alt) (by rw[jI vs j hj 2 Dc];rfl);rwa[pj]at this
 have:=q (j*4+3) (I J (vs.getD j EM).kids) (by rw[jI vs j hj 3 Dc];rfl);rwa[pj]at this
theorem Co.below{w w':M}{a:Oo Ad}{vs:Ls Vl}(h:Co w a vs)(hb:H w.heap.size w w'):Co w' a vs:=fun j hj=>by obtain⟨g,e,h1,h2,h3,h4⟩:=h j hj;exact⟨g,e,(hb.cell (aw h1)).trans h1,(hb.cell (aw h2)).trans h2,(hb.cell (aw h3)).trans h3,(hb.cell (aw h4)).trans h4⟩
structure An(W w0 w:M)(B:Nat)(L:Ls (Vv×Nat×Int))(vv vm:Vv)(m:Int):Prop where
 bel:H W.heap.size W w
 lo:W.heap.size<=B
 s0:W.heap.size<=w0.heap.size
 s1:w0.heap.size<=w.heap.size
 row:w.heap[B]? =U (C #[vv,vm,S Z 0 0,S Z 0 0,I J m] 35 (0,0))
 ov:w.ownsRow W.heap.size 39 1 vv L.length (L.map (·.1))
 om:w.ownsRow W.heap.size 3 1 vm L.length (L.map fun x=>I J x.2.2)
 full:∀x∈L,gM w x.1 x.2.1 x.2.2/\∀g,x.1.ownBlock=U g->g<w0.heap.size
theorem An.of{W w0 w:M}{B:Nat}{L:Ls (Vv×Nat×Int)}{nx:Int}(h:GG W w0 B L nx)(hb:H w0.heap.size w0 w)(m:Int):∃vv vm,An W w0 (w.setCell (D B 4 Z) (I J m)) B L vv vm m/\w.heap[B]? =U (C #[vv,vm,S Z 0 0,S Z 0 0,I J nx] 35 (0,0)):=by
 have hw:=h.below hb;obtain⟨vv,vm,h1,h2,h3⟩:=hw.row;refine⟨vv,vm,⟨hw.bel.setCell (p:=D B 4 Z) h.lo _,h.lo,h.bel.size,?_,bn w B 4 _ _ _ h1,?_,?_,fun x hx=>⟨?_,fun g hg=>(h.full x hx).lt hg⟩⟩,h1⟩
 ·simpa [World.setCell]using hb.size
 ·exact aJ h2 (cA h1 h2 Dc) _
 ·exact aJ h3 (cA h1 h3 Dc) _
 refine(hw.full x hx).keep fun g o hv hg=>?_;rw[aP _ _ _ _ (fun e=>?_)]
 ·exact hg
 subst e;rcases hw.full x hx with⟨q,_⟩|⟨g',_,cur,q,_,q2,_⟩
 ·rw[q]at hv;cases hv
 rw[q]at hv;injection hv with hv;subst hv;rw[h1]at q2;injection q2 with q2;injection q2 with _ q2;exact Ab q2 Dc
theorem An.kp{W w0 w w':M}{B:Nat}{L:Ls (Vv×Nat×Int)}{vv vm:Vv}{m:Int}(h:An W w0 w B L vv vm m){v:Vv}{n:Nat}{xs:Ls Vv}(ho:w.ownsRow w0.heap.size 60 4 v n xs)(hk:Kp w w' m v.ownBlock):An W w0 w' B L vv vm m where
 bel:=hk.below h.bel h.bel.size (fun g hg=>bl h.s0 (ho.lt g hg).1)
 lo:=h.lo
 s0:=h.s0
 s1:=bl h.s1 hk.gr.size
 row:=hk.block h.row (cA h.row ho Dc)
 ov:=hk.row ho h.ov Dc
 om:=hk.row ho h.om Dc
 full:=fun x hx=>⟨hk.other (h.full x hx).1 (fun g hg e=>by have:=(h.full x hx).2 g hg;have:=(ho.lt g e).1;omega),(h.full x hx).2⟩
theorem An.below{W w0 w w':M}{B:Nat}{L:Ls (Vv×Nat×Int)}{vv vm:Vv}{m:Int}(h:An W w0 w B L vv vm m)(hb:H w.heap.size w w'):An W w0 w' B L vv vm m where
 bel:=h.bel.trans (hb.mono h.bel.size)
 lo:=h.lo
 s0:=h.s0
 s1:=bl h.s1 hb.size
 row:=ax h.row hb
 ov:=bB h.ov hb
 om:=bB h.om hb
 full:=fun x hx=>⟨(h.full x hx).1.below hb,(h.full x hx).2⟩
theorem Kp.store{w:M}{g k:Nat}{cur:Array Vv}(m:Int)(hg:w.heap[g]? =U (C cur 60 (0,0))):Kp w ((((w.setCell (D g (k*4) Z) (I J m)).setCell (D g (k*4+1) Z) (Y ⟨#[]⟩)).setCell (D g (k*4+2) Z) (I J m)).setCell (D g (k*4+3) Z) (I J 0)) m (U g)/\((((w.setCell (D g (k*4) Z) (I J m)).setCell (D g (k*4+1) Z) (Y ⟨#[]⟩)).setCell (D g (k*4+2) Z) (I J m)).setCell (D g (k*4+3) Z) (I J 0)).heap[g]? =U (C ((((cur.setIfInBounds (k*4) (I J m)).setIfInBounds (k*4+1) (Y ⟨#[]⟩)).setIfInBounds (k*4+2) (I J m)).setIfInBounds (k*4+3) (I J 0)) 60 (0,0)):=by
 have e:=bn _ g (k*4+3) _ _ (I J 0) (bn _ g (k*4+2) _ _ (I J m) (bn _ g (k*4+1) _ _ (Y ⟨#[]⟩) (bn w g (k*4) _ _ (I J m) hg)));have hb:=((((aY 0 w).setCell (p:=D g (k*4) Z) Lz (I J m)).setCell (p:=D g (k*4+1) Z) Lz (Y ⟨#[]⟩)).setCell (p:=D g (k*4+2) Z) Lz (I J m)).setCell (p:=D g (k*4+3) Z) Lz (I J 0);refine⟨⟨⟨hb.os,hb.tape,hb.output,hb.size,fun j _ hj=>?_⟩,fun g' cur' hb' hc=>?_⟩,e⟩
 ·have hne:j≠g:=fun q=>hj (by rw[q]);rw[aP _ _ _ _ hne,aP _ _ _ _ hne,aP _ _ _ _ hne,aP _ _ _ _ hne]
 injection hb' with hb';subst hb';obtain rfl:cur=cur':=by rw[hg]at hc;injection hc with q;injection q
 refine⟨_,e,Sq,fun p=>?_⟩;have hm:∀i,i<4->iz m (k*4+i)=(GF m).getD i .nilIface:=fun i hi=>by rw[lh];unfold iz;rw[iT hi]
 simp only[bL,je];by_cases q3:k*4+3=p
 ·subst q3;rw[aG rfl];split
  ·right;rw[hm 3 Dc];rfl
  left;rw[bj O]
 rw[G q3];by_cases q2:k*4+2=p
 ·subst q2;rw[aG rfl];split
  ·right;rw[hm 2 Dc];rfl
  left;rw[bj O]
 rw[G q2];by_cases q1:k*4+1=p
 ·subst q1;rw[aG rfl];split
  ·right;rw[hm 1 Dc];rfl
  left;rw[bj O]
 rw[G q1];by_cases q0:k*4=p
 ·subst q0;rw[aG rfl];split
  ·right;have:=hm 0 Dc;rw[iS]at this;rw[this];rfl
  left;rw[bj O]
 rw[G q0];exact .inl X
def Fq(w:M)(v:Vv)(k:Nat)(m:Int):Prop:=∀g cur,v.ownBlock=U g->w.heap[g]? =U (C cur 60 (0,0))->∀p,p<k*4->cur[p]? =U (iz m p)
theorem Fq.store{w:M}{v:Vv}{g k:Nat}{cur:Array Vv}{m:Int}(h:Fq w v k m)(hv:v.ownBlock=U g)(hg:w.heap[g]? =U (C cur 60 (0,0)))(hs:k*4+3<cur.size):Fq ((((w.setCell (D g (k*4) Z) (I J m)).setCell (D g (k*4+1) Z) (Y ⟨#[]⟩)).setCell (D g (k*4+2) Z) (I J m)).setCell (D g (k*4+3) Z) (I J 0)) v (k+1) m:=fun g' cur' hv' hc p hp=>by
 obtain rfl:g=g':=aK (hv.symm.trans hv');rw[(Kp.store m hg).2]at hc;injection hc with hc;injection hc with hc _ _;subst hc;have hm:∀i,i<4->iz m (k*4+i)=(GF m).getD i .nilIface:=fun i hi=>by rw[lh];unfold iz;rw[iT hi]
 simp only[bL,je];by_cases q3:k*4+3=p
 ·subst q3;rw[aG X,aG hs,hm 3 Dc];rfl
 by_cases q2:k*4+2=p
 ·subst q2;rw[G q3,aG X,aG O,hm 2 Dc];rfl
 by_cases q1:k*4+1=p
 ·subst q1;rw[G q3,G q2,aG X,aG O,hm 1 Dc];rfl
 by_cases q0:k*4=p
 ·subst q0;rw[G q3,G q2,G q1,aG X,aG O];have:=hm 0 Dc;rw[iS]at this;rw[this];rfl
 rw[G q3,G q2,G q1,G q0];exact h g cur hv hg p O
theorem gM.grown{w w':M}{v:Vv}{n:Nat}{m:Int}(h:gM w v n m){base size k:Nat}{e:TypeId}{u:Vv}{xs:Ls Vv}(ho:w.ownsRow base e size u k xs)(hT:60≠e)(hg:w.grownBy w' u.ownBlock):gM w' v n m:=by
 rcases h with q|⟨g,cap,cur,rfl,h1,h2,h3⟩
 ·exact .inl q
 exact .inr ⟨g,cap,cur,X,h1,(hg.block g (bm h2) (fun q=>cA h2 ho hT q.symm)).trans h2,h3⟩
theorem gM.set{w:M}{v:Vv}{n:Nat}{m:Int}(h:gM w v n m){B:Nat}{A:Array Vv}{T:TypeId}(hB:w.heap[B]? =U (C A T (0,0)))(hT:T≠60)(i:Nat)(u:Vv):gM (w.setCell (D B i Z) u) v n m:=by
 rcases h with q|⟨g,cap,cur,rfl,h1,h2,h3⟩
 ·exact .inl q
 refine .inr ⟨g,cap,cur,X,h1,?_,h3⟩;rw[aP _ _ _ _ (fun e=>?_)]
 ·exact h2
 subst e;rw[hB]at h2;injection h2 with q;injection q with _ q _;exact hT q
theorem An.app{W w0 w w':M}{B:Nat}{L:Ls (Vv×Nat×Int)}{vv vm:Vv}{m:Int}{v u:Vv}{n k:Nat}{o:Obj}(h:An W w0 w B L vv vm m)(ho:w.ownsRow w0.heap.size 60 4 v n (iM m n))(h1:w'.ownsRow w0.heap.size 60 4 u (n+k) (iM m n++iM m k))(h2:(w.alloc o).grownBy w' v.ownBlock)(h3:jh (w.alloc o) w' 60 v (n*4) (iM m k)):An W w0 w' B L vv vm m/\w'.ownsRow w0.heap.size 60 4 v n (iM m n)/\gM w' u (n+k) m/\Kp w w' m v.ownBlock:=by
 have hk:Kp w w' m v.ownBlock:=((Kp.refl w m v.ownBlock).alloc o).trans (Kp.append h2 h3);refine⟨h.kp ho hk,h3.own (ho.alloc o),gM.of_own (base:=w0.heap.size) ?_,hk⟩;rw[sP]at h1;exact h1
structure GD(W w:M)(B:Nat)(L LL:Ls (Vv×Nat×Int))(vv vm:Vv)(m:Int):Prop where
 bel:H W.heap.size W w
 lo:W.heap.size<=B
 row:w.heap[B]? =U (C #[vv,vm,S Z 0 0,S Z 0 0,I J m] 35 (0,0))
 ov:w.ownsRow W.heap.size 39 1 vv LL.length (LL.map (·.1))
 om:w.ownsRow W.heap.size 3 1 vm L.length (L.map fun x=>I J x.2.2)
 full:∀x∈LL,gM w x.1 x.2.1 x.2.2
theorem tj{w w':M}{b1 b2 s1 s2 n1 n2:Nat}{e1 e2:TypeId}{v1 v2:Vv}{x1 x2:Ls Vv}(h1:w.ownsRow b1 e1 s1 v1 n1 x1)(h2:w.ownsRow b2 e2 s2 v2 n2 x2)(hT:e2≠e1)(hg:w.grownBy w' v1.ownBlock):w'.ownsRow b2 e2 s2 v2 n2 x2:=by
 refine⟨h2.1,?_⟩;rcases h2.2 with q|⟨g,cap,cur,rfl,hb,hc,r⟩
 ·exact .inl q
 exact .inr ⟨g,cap,cur,X,hb,(hg.block g (bm hc) (fun q=>cA hc h1 hT q.symm)).trans hc,r⟩
theorem An.put{W w0 w w':M}{B:Nat}{L LL:Ls (Vv×Nat×Int)}{vv vm vv':Vv}{m:Int}{o:Obj}(h:An W w0 w B L vv vm m)(hF:∀x∈LL,gM w x.1 x.2.1 x.2.2)(h1:w'.ownsRow W.heap.size 39 1 vv' LL.length (LL.map (·.1)))(h2:(w.alloc o).grownBy w' vv.ownBlock):w'.cell? (D B 0 Z)=U vv/\w'.frozen? (D B 0 Z)=false/\GD W (w'.setCell (D B 0 Z) vv') B L LL vv' vm m:=by
 have ha:H w.heap.size w (w.alloc o):=Be;have h':=h.below ha;have hB:w'.heap[B]? =U (C #[vv,vm,S Z 0 0,S Z 0 0,I J m] 35 (0,0)):=(h2.block B (bm h'.row) (fun q=>cA h'.row h'.ov Dc q.symm)).trans h'.row;have hm:=tj h'.ov h'.om Dc h2;refine⟨by simp[Wc,hB],by simp[Wf,hB],?_,h.lo,bn w' B 0 _ _ _ hB,?_,?_,fun x hx=>?_⟩
 ·exact(h'.bel.grown h2 h'.bel.size (fun g hg=>(h'.ov.lt g hg).1)).setCell (p:=D B 0 Z) h.lo _
 ·exact aJ h1 (cA hB h1 Dc) _
 ·exact aJ hm (cA hB hm Dc) _
 exact(((hF x hx).below ha).grown h'.ov Dc h2).set hB Dc _ _
theorem GD.below{W w w':M}{B:Nat}{L LL:Ls (Vv×Nat×Int)}{vv vm:Vv}{m:Int}(h:GD W w B L LL vv vm m)(hb:H w.heap.size w w'):GD W w' B L LL vv vm m:=
 ⟨h.bel.trans (hb.mono h.bel.size),h.lo,ax h.row hb,bB h.ov hb,bB h.om hb,fun x hx=>(h.full x hx).below hb⟩
theorem GD.put{W w wx w':M}{B:Nat}{L LL:Ls (Vv×Nat×Int)}{vv vm vm':Vv}{m:Int}(h:GD W w B L LL vv vm m)(hx:H w.heap.size w wx)(h1:w'.ownsRow W.heap.size 3 1 vm' LL.length (LL.map fun x=>I J x.2.2))(h2:wx.grownBy w' vm.ownBlock):w'.cell? (D B 1 Z)=U vm/\w'.frozen? (D B 1 Z)=false/\GG W (w'.setCell (D B 1 Z) vm') B LL m:=by
 have h':=h.below hx;have hB:w'.heap[B]? =U (C #[vv,vm,S Z 0 0,S Z 0 0,I J m] 35 (0,0)):=(h2.block B (bm h'.row) (fun q=>cA h'.row h'.om Dc q.symm)).trans h'.row;have hv:=tj h'.om h'.ov Dc h2;refine⟨by simp[Wc,hB],by simp[Wf,hB],?_,h.lo,⟨vv,vm',bn w' B 1 _ _ _ hB,?_,?_⟩,fun x hx=>?_⟩
 ·exact(h'.bel.grown h2 h'.bel.size (fun g hg=>(h'.om.lt g hg).1)).setCell (p:=D B 1 Z) h.lo _
 ·exact aJ hv (cA hB hv Dc) _
 ·exact aJ h1 (cA hB h1 Dc) _
 exact((h'.full x hx).grown h'.om Dc h2).set hB Dc _ _
theorem gM.form{w:M}{v:Vv}{n:Nat}{m:Int}(h:gM w v n m):n<=maxLen/\∃a c,v=S a n c/\∀j,j<n->∃g,a=U (D g 0 Z)/\w.cell? (D g (j*4) Z)=U (I J m)/\w.cell? (D g (j*4+1) Z)=U (Y ⟨#[]⟩)/\w.cell? (D g (j*4+2) Z)=U (I J m)/\w.cell? (D g (j*4+3) Z)=U (I J 0):=by
 rcases h with⟨rfl,rfl⟩|⟨g,cap,cur,rfl,h1,hg,h2⟩
 ·exact⟨Lz,Z,0,X,fun j hj=>Ab hj (aO _)⟩
 have q:∀j i,j<n->i<4->w.cell? (D g (j*4+i) Z)=U (iz m i):=fun j i hj hi=>by have:=h2 (j*4+i) O;rw[lh]at this;simp[Wc,hg,this]
 exact⟨h1,U (D g 0 Z),cap,X,fun j hj=>⟨g,X,q j 0 hj Dc,q j 1 hj Dc,q j 2 hj Dc,q j 3 hj Dc⟩⟩
end Go.Proofs.YtkkicodfpekbgaaGreatDoor
namespace Go.Proofs.YtkkicodfpekbgaaGreatDoor
open Go.RowKit
theorem kT.store{w:M}{g k:Nat}{cur:Array Vv}(m:Q)(hg:w.heap[g]? =U (C cur 73 (0,0))):kT w (((w.setCell (D g (k*3) Z) (Y m)).setCell (D g (k*3+1) Z) (Bo false)).setCell (D g (k*3+2) Z) (Y m)) m (U g)/\(((w.setCell (D g (k*3) Z) (Y m)).setCell (D g (k*3+1) Z) (Bo false)).setCell (D g (k*3+2) Z) (Y m)).heap[g]? =U (C (((cur.setIfInBounds (k*3) (Y m)).setIfInBounds (k*3+1) (Bo false)).setIfInBounds (k*3+2) (Y m)) 73 (0,0)):=by
 have e:=bn _ g (k*3+2) _ _ (Y m) (bn _ g (k*3+1) _ _ (Bo false) (bn w g (k*3) _ _ (Y m) hg));have hb:=(((aY 0 w).setCell (p:=D g (k*3) Z) Lz (Y m)).setCell (p:=D g (k*3+1) Z) Lz (Bo false)).setCell (p:=D g (k*3+2) Z) Lz (Y m);refine⟨⟨⟨hb.os,hb.tape,hb.output,hb.size,fun j _ hj=>?_⟩,fun g' cur' hb' hc=>?_⟩,e⟩
 ·have hne:j≠g:=fun q=>hj (by rw[q]);rw[aP _ _ _ _ hne,aP _ _ _ _ hne,aP _ _ _ _ hne]
 injection hb' with hb';subst hb';obtain rfl:cur=cur':=by rw[hg]at hc;injection hc with q;injection q
 refine⟨_,e,Sq,fun p=>?_⟩;have hm:∀i,i<3->iA m (k*3+i)=(F8 m).getD i .nilIface:=fun i hi=>by rw[lj];unfold iA;rw[iT hi]
 simp only[bL,je];by_cases q2:k*3+2=p
 ·subst q2;rw[aG rfl];split
  ·right;rw[hm 2 Dc];rfl
  left;rw[bj O]
 rw[G q2];by_cases q1:k*3+1=p
 ·subst q1;rw[aG rfl];split
  ·right;rw[hm 1 Dc];rfl
  left;rw[bj O]
 rw[G q1];by_cases q0:k*3=p
 ·subst q0;rw[aG rfl];split
  ·right;have:=hm 0 Dc;rw[iS]at this;rw[this];rfl
  left;rw[bj O]
 rw[G q0];exact .inl X
def BW(w:M)(v:Vv)(k:Nat)(m:Q):Prop:=∀g cur,v.ownBlock=U g->w.heap[g]? =U (C cur 73 (0,0))->∀p,p<k*3->cur[p]? =U (iA m p)
theorem BW.store{w:M}{v:Vv}{g k:Nat}{cur:Array Vv}{m:Q}(h:BW w v k m)(hv:v.ownBlock=U g)(hg:w.heap[g]? =U (C cur 73 (0,0)))(hs:k*3+2<cur.size):BW (((w.setCell (D g (k*3) Z) (Y m)).setCell (D g (k*3+1) Z) (Bo false)).setCell (D g (k*3+2) Z) (Y m)) v (k+1) m:=fun g' cur' hv' hc p hp=>by
 obtain rfl:g=g':=aK (hv.symm.trans hv');rw[(kT.store m hg).2]at hc;injection hc with hc;injection hc with hc _ _;subst hc;have hm:∀i,i<3->iA m (k*3+i)=(F8 m).getD i .nilIface:=fun i hi=>by rw[lj];unfold iA;rw[iT hi]
 simp only[bL,je];by_cases q2:k*3+2=p
 ·subst q2;rw[aG X,aG hs,hm 2 Dc];rfl
 by_cases q1:k*3+1=p
 ·subst q1;rw[G q2,aG X,aG O,hm 1 Dc];rfl
 by_cases q0:k*3=p
 ·subst q0;rw[G q2,G q1,aG X,aG O];have:=hm 0 Dc;rw[iS]at this;rw[this];rfl
 rw[G q2,G q1,G q0];exact h g cur hv hg p O
theorem wG{w w':M}{base:Nat}{v:Vv}{n:Nat}{xs:Ls Vv}{m:Q}(ho:w.ownsRow base 73 3 v n xs)(hk:kT w w' m v.ownBlock)(hm:BW w' v n m):w'.ownsRow base 73 3 v n (mmRow m n):=by
 refine⟨mj m n,?_⟩;rcases ho.2 with q|⟨g,cap,cur,rfl,hb,hg,h1,h2,h3,h4⟩
 ·exact .inl q
 obtain⟨cur',q1,q2,q3⟩:=hk.own g cur X hg;refine .inr ⟨g,cap,cur',X,hb,q1,h1,h2,O,?_⟩;refine List.ext_getElem? fun p=>?_;by_cases hp:p<n*3
 ·rw[bR hp,mi m n p hp];simpa using hm g cur' X q1 p hp
 have:n*3<=cap*3:=iJ _ h1;rw[eL So,eL (by rw[mj];omega)]
theorem eV.grown{w w':M}{v:Vv}{n:Nat}{m:Q}(h:eV w v n m){base size k:Nat}{e:TypeId}{u:Vv}{xs:Ls Vv}(ho:w.ownsRow base e size u k xs)(hT:73≠e)(hg:w.grownBy w' u.ownBlock):eV w' v n m:=by
 rcases h with q|⟨g,cap,cur,rfl,h1,h2,h3⟩
 ·exact .inl q
 exact .inr ⟨g,cap,cur,X,h1,(hg.block g (bm h2) (fun q=>cA h2 ho hT q.symm)).trans h2,h3⟩
theorem eV.set{w:M}{v:Vv}{n:Nat}{m:Q}(h:eV w v n m){B:Nat}{A:Array Vv}{T:TypeId}(hB:w.heap[B]? =U (C A T (0,0)))(hT:T≠73)(i:Nat)(u:Vv):eV (w.setCell (D B i Z) u) v n m:=by
 rcases h with q|⟨g,cap,cur,rfl,h1,h2,h3⟩
 ·exact .inl q
 refine .inr ⟨g,cap,cur,X,h1,?_,h3⟩;rw[aP _ _ _ _ (fun e=>?_)]
 ·exact h2
 subst e;rw[hB]at h2;injection h2 with q;injection q with _ q _;exact hT q
structure zB(W w0 w:M)(B:Nat)(L:Ls (Vv×Nat×Int))(ak:Ls (Vv×Nat×Q))(vv vm mv mm:Vv)(nx:Int):Prop where
 bel:H W.heap.size W w
 lo:W.heap.size<=B
 s0:W.heap.size<=w0.heap.size
 s1:w0.heap.size<=w.heap.size
 row:w.heap[B]? =U (C #[vv,vm,mv,mm,I J nx] 35 (0,0))
 ov:w.ownsRow W.heap.size 39 1 vv L.length (L.map (·.1))
 om:w.ownsRow W.heap.size 3 1 vm L.length (L.map fun x=>I J x.2.2)
 pv:w.ownsRow W.heap.size 66 1 mv ak.length (ak.map (·.1))
 pm:w.ownsRow W.heap.size 9 1 mm ak.length (ak.map fun x=>Y x.2.2)
 full:∀x∈L,gM w x.1 x.2.1 x.2.2/\∀g,x.1.ownBlock=U g->g<w0.heap.size
 fullM:∀x∈ak,eV w x.1 x.2.1 x.2.2/\∀g,x.1.ownBlock=U g->g<w0.heap.size
theorem zB.of{W w0 w:M}{B:Nat}{L:Ls (Vv×Nat×Int)}{ak:Ls (Vv×Nat×Q)}{nx:Int}(h:zp W w0 B L ak nx)(hb:H w0.heap.size w0 w)(n:Int):∃vv vm mv mm,zB W w0 (w.setCell (D B 4 Z) (I J n)) B L ak vv vm mv mm n/\w.heap[B]? =U (C #[vv,vm,mv,mm,I J nx] 35 (0,0)):=by
 have hw:=h.below hb;obtain⟨vv,vm,mv,mm,h1,h2,h3,h4,h5⟩:=hw.row;refine⟨vv,vm,mv,mm,⟨hw.bel.setCell (p:=D B 4 Z) h.lo _,h.lo,h.bel.size,?_,bn w B 4 _ _ _ h1,?_,?_,?_,?_,fun x hx=>⟨(hw.full x hx).set h1 Dc _ _,fun g hg=>(h.full x hx).lt hg⟩,fun x hx=>⟨(hw.fullM x hx).set h1 Dc _ _,fun g hg=>(h.fullM x hx).lt hg⟩⟩,h1⟩
 ·simpa [World.setCell]using hb.size
 ·exact aJ h2 (cA h1 h2 Dc) _
 ·exact aJ h3 (cA h1 h3 Dc) _
 ·exact aJ h4 (cA h1 h4 Dc) _
 exact aJ h5 (cA h1 h5 Dc) _
theorem zB.kp{W w0 w w':M}{B:Nat}{L:Ls (Vv×Nat×Int)}{ak:Ls (Vv×Nat×Q)}{vv vm mv mm:Vv}{nx:Int}{m:Q}(h:zB W w0 w B L ak vv vm mv mm nx){v:Vv}{n:Nat}{xs:Ls Vv}(ho:w.ownsRow w0.heap.size 73 3 v n xs)(hk:kT w w' m v.ownBlock):zB W w0 w' B L ak vv vm mv mm nx where
 bel:=hk.below h.bel h.bel.size (fun g hg=>bl h.s0 (ho.lt g hg).1)
 lo:=h.lo
 s0:=h.s0
 s1:=bl h.s1 hk.gr.size
 row:=hk.block h.row (cA h.row ho Dc)
 ov:=hk.row ho h.ov Dc
 om:=hk.row ho h.om Dc
 pv:=hk.row ho h.pv Dc
 pm:=hk.row ho h.pm Dc
 full:=fun x hx=>⟨hk.fullV ho (h.full x hx).1,(h.full x hx).2⟩
 fullM:=fun x hx=>⟨hk.other (h.fullM x hx).1 (fun g hg e=>by have:=(h.fullM x hx).2 g hg;have:=(ho.lt g e).1;omega),(h.fullM x hx).2⟩
theorem zB.below{W w0 w w':M}{B:Nat}{L:Ls (Vv×Nat×Int)}{ak:Ls (Vv×Nat×Q)}{vv vm mv mm:Vv}{nx:Int}(h:zB W w0 w B L ak vv vm mv mm nx)(hb:H w.heap.size w w'):zB W w0 w' B L ak vv vm mv mm nx where
 bel:=h.bel.trans (hb.mono h.bel.size)
 lo:=h.lo
 s0:=h.s0
 s1:=bl h.s1 hb.size
 row:=ax h.row hb
 ov:=bB h.ov hb
 om:=bB h.om hb
 pv:=bB h.pv hb
 pm:=bB h.pm hb
 full:=fun x hx=>⟨(h.full x hx).1.below hb,(h.full x hx).2⟩
 fullM:=fun x hx=>⟨(h.fullM x hx).1.below hb,(h.fullM x hx).2⟩
theorem zB.app{W w0 w w':M}{B:Nat}{L:Ls (Vv×Nat×Int)}{ak:Ls (Vv×Nat×Q)}{vv vm mv mm:Vv}{nx:Int}{m:Q}{v u:Vv}{n k:Nat}{o:Obj}(h:zB W w0 w B L ak vv vm mv mm nx)(ho:w.ownsRow w0.heap.size 73 3 v n (mmRow m n))(h1:w'.ownsRow w0.heap.size 73 3 u (n+k) (mmRow m n++mmRow m k))(h2:(w.alloc o).grownBy w' v.ownBlock)(h3:jh (w.alloc o) w' 73 v (n*3) (mmRow m k)):zB W w0 w' B L ak vv vm mv mm nx/\w'.ownsRow w0.heap.size 73 3 v n (mmRow m n)/\eV w' u (n+k) m/\kT w w' m v.ownBlock:=by
 have hk:kT w w' m v.ownBlock:=((kT.refl w m v.ownBlock).alloc o).trans (kT.append h2 h3);refine⟨h.kp ho hk,h3.own (ho.alloc o),eV.of_own (base:=w0.heap.size) ?_,hk⟩;rw[sR]at h1;exact h1
structure GC(W w:M)(B:Nat)(L:Ls (Vv×Nat×Int))(ak MM:Ls (Vv×Nat×Q))(vv vm mv mm:Vv)(nx:Int):Prop where
 bel:H W.heap.size W w
 lo:W.heap.size<=B
 row:w.heap[B]? =U (C #[vv,vm,mv,mm,I J nx] 35 (0,0))
 ov:w.ownsRow W.heap.size 39 1 vv L.length (L.map (·.1))
 om:w.ownsRow W.heap.size 3 1 vm L.length (L.map fun x=>I J x.2.2)
 pv:w.ownsRow W.heap.size 66 1 mv MM.length (MM.map (·.1))
 pm:w.ownsRow W.heap.size 9 1 mm ak.length (ak.map fun x=>Y x.2.2)
 full:∀x∈L,gM w x.1 x.2.1 x.2.2
 fullM:∀x∈MM,eV w x.1 x.2.1 x.2.2
theorem iP{w w':M}{b1 b2 s1 s2 n1 n2:Nat}{e1 e2:TypeId}{v1 v2:Vv}{x1 x2:Ls Vv}(h1:w.ownsRow b1 e1 s1 v1 n1 x1)(h2:w.ownsRow b2 e2 s2 v2 n2 x2)(hT:e2≠e1)(hg:w.grownBy w' v1.ownBlock):w'.ownsRow b2 e2 s2 v2 n2 x2:=by
 refine⟨h2.1,?_⟩;rcases h2.2 with q|⟨g,cap,cur,rfl,hb,hc,r⟩
 ·exact .inl q
 exact .inr ⟨g,cap,cur,X,hb,(hg.block g (bm hc) (fun q=>cA hc h1 hT q.symm)).trans hc,r⟩
theorem zB.put{W w0 w w':M}{B:Nat}{L:Ls (Vv×Nat×Int)}{ak MM:Ls (Vv×Nat×Q)}{vv vm mv mm mv':Vv}{nx:Int}{o:Obj}(h:zB W w0 w B L ak vv vm mv mm nx)(hF:∀x∈MM,eV w x.1 x.2.1 x.2.2)(h1:w'.ownsRow W.heap.size 66 1 mv' MM.length (MM.map (·.1)))(h2:(w.alloc o).grownBy w' mv.ownBlock):w'.cell? (D B 2 Z)=U mv/\w'.frozen? (D B 2 Z)=false/\GC W (w'.setCell (D B 2 Z) mv') B L ak MM vv vm mv' mm nx:=by
 have ha:H w.heap.size w (w.alloc o):=Be;have h':=h.below ha;have hB:w'.heap[B]? =U (C #[vv,vm,mv,mm,I J nx] 35 (0,0)):=(h2.block B (bm h'.row) (fun q=>cA h'.row h'.pv Dc q.symm)).trans h'.row;have q1:=iP h'.pv h'.ov Dc h2;have q2:=iP h'.pv h'.om Dc h2;have q3:=iP h'.pv h'.pm Dc h2;refine⟨by simp[Wc,hB],by simp[Wf,hB],?_,h.lo,bn w' B 2 _ _ _ hB,?_,?_,?_,?_,fun x hx=>?_,fun x hx=>?_⟩
 ·exact(h'.bel.grown h2 h'.bel.size (fun g hg=>(h'.pv.lt g hg).1)).setCell (p:=D B 2 Z) h.lo _
 ·exact aJ q1 (cA hB q1 Dc) _
 ·exact aJ q2 (cA hB q2 Dc) _
 ·exact aJ h1 (cA hB h1 Dc) _
 ·exact aJ q3 (cA hB q3 Dc) _
 ·exact((h'.full x hx).1.grown h'.pv Dc h2).set hB Dc _ _
 exact(((hF x hx).below ha).grown h'.pv Dc h2).set hB Dc _ _
theorem GC.below{W w w':M}{B:Nat}{L:Ls (Vv×Nat×Int)}{ak MM:Ls (Vv×Nat×Q)}{vv vm mv mm:Vv}{nx:Int}(h:GC W w B L ak MM vv vm mv mm nx)(hb:H w.heap.size w w'):GC W w' B L ak MM vv vm mv mm nx:=
 ⟨h.bel.trans (hb.mono h.bel.size),h.lo,ax h.row hb,bB h.ov hb,bB h.om hb,bB h.pv hb,bB h.pm hb,fun x hx=>(h.full x hx).below hb,fun x hx=>(h.fullM x hx).below hb⟩
theorem GC.put{W w wx w':M}{B:Nat}{L:Ls (Vv×Nat×Int)}{ak MM:Ls (Vv×Nat×Q)}{vv vm mv mm mm':Vv}{nx:Int}(h:GC W w B L ak MM vv vm mv mm nx)(hx:H w.heap.size w wx)(h1:w'.ownsRow W.heap.size 9 1 mm' MM.length (MM.map fun x=>Y x.2.2))(h2:wx.grownBy w' mm.ownBlock):w'.cell? (D B 3 Z)=U mm/\w'.frozen? (D B 3 Z)=false/\zp W (w'.setCell (D B 3 Z) mm') B L MM nx:=by
 have h':=h.below hx;have hB:w'.heap[B]? =U (C #[vv,vm,mv,mm,I J nx] 35 (0,0)):=(h2.block B (bm h'.row) (fun q=>cA h'.row h'.pm Dc q.symm)).trans h'.row;have q1:=iP h'.pm h'.ov Dc h2;have q2:=iP h'.pm h'.om Dc h2;have q3:=iP h'.pm h'.pv Dc h2;refine⟨by simp[Wc,hB],by simp[Wf,hB],?_,h.lo,⟨vv,vm,mv,mm',bn w' B 3 _ _ _ hB,?_,?_,?_,?_⟩,fun x hx=>?_,fun x hx=>?_⟩
 ·exact(h'.bel.grown h2 h'.bel.size (fun g hg=>(h'.pm.lt g hg).1)).setCell (p:=D B 3 Z) h.lo _
 ·exact aJ q1 (cA hB q1 Dc) _
 ·exact aJ q2 (cA hB q2 Dc) _
 ·exact aJ q3 (cA hB q3 Dc) _
 ·exact aJ h1 (cA hB h1 Dc) _
 ·exact((h'.full x hx).grown h'.pm Dc h2).set hB Dc _ _
 exact((h'.fullM x hx).grown h'.pm Dc h2).set hB Dc _ _
end Go.Proofs.YtkkicodfpekbgaaGreatDoor
namespace Go.Proofs.YtkkicodfpekbgaaGreatDoor
open Go.Proofs.Tryz
open Go.RowKit
theorem eV.form{w:M}{v:Vv}{n:Nat}{m:Q}(h:eV w v n m):n<=maxLen/\∃a c,v=S a n c/\∀j,j<n->∃g,a=U (D g 0 Z)/\w.cell? (D g (j*3) Z)=U (Y m)/\w.cell? (D g (j*3+1) Z)=U (Bo false)/\w.cell? (D g (j*3+2) Z)=U (Y m):=by
 rcases h with⟨rfl,rfl⟩|⟨g,cap,cur,rfl,h1,hg,h2⟩
 ·exact⟨Lz,Z,0,X,fun j hj=>Ab hj (aO _)⟩
 have q:∀j i,j<n->i<3->w.cell? (D g (j*3+i) Z)=U (iA m i):=fun j i hj hi=>by have:=h2 (j*3+i) O;rw[lj]at this;simp[Wc,hg,this]
 exact⟨h1,U (D g 0 Z),cap,X,fun j hj=>⟨g,X,q j 0 hj Dc,q j 1 hj Dc,q j 2 hj Dc⟩⟩
theorem yC(W w:M)(B:Nat)(L:Ls (Vv×Nat×Int))(ak:Ls (Vv×Nat×Q))(nx:Int)(h:zp W w B L ak nx)(hL:L.length<=1099511627776)(hM:ak.length<=1099511627776):Cs prog 19 #[Po (U (D B 0 Z))] w fun e w'=>e=Rt (Bo true)/\H w.heap.size w w':=by
 obtain⟨vv,vm,mv,mm,hB,ov,om,pv,pm⟩:=h.row;obtain⟨va,vc,rfl,hva⟩:=fL ov;obtain⟨ma,mc,rfl,hma⟩:=fL om;obtain⟨pa,pc,rfl,hpa⟩:=fL pv;obtain⟨qa,qc,rfl,hqa⟩:=fL pm;have c0:w.cell? (D B 0 Z)=U (S va L.length vc):=by simp[Wc,hB]
 have c1:w.cell? (D B 1 Z)=U (S ma L.length mc):=by simp[Wc,hB]
 have c2:w.cell? (D B 2 Z)=U (S pa ak.length pc):=by simp[Wc,hB]
 have c3:w.cell? (D B 3 Z)=U (S qa ak.length qc):=by simp[Wc,hB]
 have HE:Hi (∀k,k<L.length->∃g1 g2 xa xn xc m,va=U (D g1 0 Z)/\ma=U (D g2 0 Z)/\w.cell? (D g1 k Z)=U (S xa xn xc)/\w.cell? (D g2 k Z)=U (I J m)/\xn<=maxLen/\
  ∀j,j<xn->∃g,xa=U ⟨g,0,Z⟩/\w.cell? ⟨g,j*4,Z⟩=U (I J m)/\w.cell? ⟨g,j*4+1,Z⟩=U (Y ⟨#[]⟩)/\w.cell? ⟨g,j*4+2,Z⟩=U (I J m)/\w.cell? ⟨g,j*4+3,Z⟩=U (I J 0)):=fun k hk=>by
  obtain⟨g1,rfl⟩:=hva O
  obtain⟨g2,rfl⟩:=hma O
  have q1:=ov.cells (g:=g1) X k L[k].1 (by simp[hk])
  have q2:=om.cells (g:=g2) X k (I J L[k].2.2) (by simp[hk])
  rw[pj]at q1 q2
  obtain⟨f1,xa,xc,f2,f3⟩:=(h.full L[k] (bz hk)).form
  rw[f2]at q1
  exact⟨g1,g2,xa,_,xc,_,X,X,q1,q2,f1,f3⟩
 have HEM:Hi (∀k,k<ak.length->∃g1 g2 xa xn xc m,pa=U (D g1 0 Z)/\qa=U (D g2 0 Z)/\w.cell? (D g1 k Z)=U (S xa xn xc)/\w.cell? (D g2 k Z)=U (Y m)/\xn<=maxLen/\
  ∀j,j<xn->∃g,xa=U ⟨g,0,Z⟩/\w.cell? ⟨g,j*3,Z⟩=U (Y m)/\w.cell? ⟨g,j*3+1,Z⟩=U (Bo false)/\w.cell? ⟨g,j*3+2,Z⟩=U (Y m)):=fun k hk=>by
  obtain⟨g1,rfl⟩:=hpa O
  obtain⟨g2,rfl⟩:=hqa O
  have q1:=pv.cells (g:=g1) X k ak[k].1 (by simp[hk])
  have q2:=pm.cells (g:=g2) X k (Y ak[k].2.2) (by simp[hk])
  rw[pj]at q1 q2
  obtain⟨f1,xa,xc,f2,f3⟩:=(h.fullM ak[k] (bz hk)).form
  rw[f2]at q1
  exact⟨g1,g2,xa,_,xc,_,X,X,q1,q2,f1,f3⟩
 clear hva hma ov om hB h hpa hqa pv pm;generalize L.length=n at*;generalize ak.length=nm at*;go_enter func19,ntmps19;go_wp2;go_loopw [3] (fun i wr=>∃k:Nat,k<=n/\i=I J k/\H w.heap.size w wr) (fun i _=>n-(Io i).toNat);case atStart=>exact⟨0,Lz,X,By⟩
 obtain⟨k,hk,rfl,hbr⟩:=hrel;have HBR:=dG hbr;have hlB:=aw c0;simp only at hlB;have d0:wr.cell? (D B 0 Z)=U (S va n vc):=(hbr.cell (aw c0)).trans c0;have d1:wr.cell? (D B 1 Z)=U (S ma n mc):=(hbr.cell (aw c1)).trans c1;have hlR:B<wr.heap.size:=aw d0;have hwz:=hbr.size;clear hbr;by_cases hlt:k<n
 ·have hlt':(k:Int)<n:=O;obtain⟨g1,g2,xa,xn,xc,m,rfl,rfl,e1,e2,hxn,hcl⟩:=HE k hlt;have HCL:=dG hcl;have hxn':xn<=9223372036854775807:=by unfold maxLen at hxn;omega
  have y1:wr.cell? (D g1 k Z)=U (S xa xn xc):=(HBR.cell (aw e1)).trans e1;have y2:wr.cell? (D g2 k Z)=U (I J m):=(HBR.cell (aw e2)).trans e2;have hl1:g1<wr.heap.size:=aw y1;have hl2:g2<wr.heap.size:=aw y2;clear hcl;go_wp2_with fail;go_region_held_law (fun w'=>w'.cell? (D B 1 Z)=U (S (U (D g2 0 Z)) n mc)/\w'.cell? (D g2 k Z)=U (I J m)) (go_keep) (fail);go_wp2;rename_i hHeld;clear hHeld;obtain⟨xb,hxb⟩:∃xb,wr.heap.size=xb:=Ey;have hX2:(wr.alloc (C #[I J m,Y ⟨#[]⟩,I J m,I J 0] 60)).drew.heap[wr.heap.size]? =U (C #[I J m,Y ⟨#[]⟩,I J m,I J 0] 60 (0,0)):=aA wr _;have hB2:H w.heap.size w (wr.alloc (C #[I J m,Y ⟨#[]⟩,I J m,I J 0] 60)).drew:=(HBR.alloc HBR.size _).drew;rw[hxb]at hX2;rw[hxb];generalize(wr.alloc (C #[I J m,Y ⟨#[]⟩,I J m,I J 0] 60)).drew=w2 at hX2 hB2 ⊢;have HB2:=dG hB2;have z0:w2.cell? (D B 0 Z)=U (S (U (D g1 0 Z)) n vc):=(hB2.cell (aw c0)).trans c0;have z1:w2.cell? (D g1 k Z)=U (S xa xn xc):=(hB2.cell (aw e1)).trans e1;have x0:w2.cell? (D xb 0 Z)=U (I J m):=by simp[Wc,hX2]
  have x1:w2.cell? (D xb 1 Z)=U (Y ⟨#[]⟩):=by simp[Wc,hX2]
  have x2:w2.cell? (D xb 2 Z)=U (I J m):=by simp[Wc,hX2]
  have x3:w2.cell? (D xb 3 Z)=U (I J 0):=by simp[Wc,hX2]
  clear hX2 hB2 hxb d0 d1 y1 y2 hl1 hl2 hlR hwz;go_loopw [5] (fun i wx=>∃j:Nat,j<=xn/\i=I J j/\∃q,wx=w2.drewN q) (fun i _=>xn-(Io i).toNat);case atStart=>exact⟨0,Lz,X,0,X⟩
  obtain⟨j,hj,rfl,q',rfl⟩:=hrel;by_cases hl2:j<xn
  ·obtain⟨g,rfl,u0,u1,u2,u3⟩:=HCL j hl2;have v0:w2.cell? (D g (j*4) Z)=U (I J m):=(HB2.cell (aw u0)).trans u0;have v1:w2.cell? (D g (j*4+1) Z)=U (Y ⟨#[]⟩):=(HB2.cell (aw u1)).trans u1;have v2:w2.cell? (D g (j*4+2) Z)=U (I J m):=(HB2.cell (aw u2)).trans u2;have v3:w2.cell? (D g (j*4+3) Z)=U (I J 0):=(HB2.cell (aw u3)).trans u3;have hl2':(j:Int)<xn:=O;clear u0 u1 u2 u3;go_wp2;go_quiet (fail);go_wp2;go_roundw;case rel=>exact⟨j+1,O,Gn,_,X⟩
   case measure=>exact Ms
  have hl2':(xn:Int)<=j:=O;go_wp2;go_roundw;case rel=>exact⟨k+1,O,Gn,Go.below_drewN HB2 _⟩
  case measure=>exact Ms
 have hlt':(n:Int)<=k:=O;go_wp2;clear hlt d0 d1 hlR hwz hk;go_loopw [6] (fun i wr=>∃k:Nat,k<=nm/\i=I J k/\H w.heap.size w wr) (fun i _=>nm-(Io i).toNat);case atStart=>exact⟨0,Lz,X,HBR⟩
 clear HBR hlt';obtain⟨k,hk,rfl,hbr⟩:=hrel;have HBR:=dG hbr;have d2:wr.cell? (D B 2 Z)=U (S pa nm pc):=(hbr.cell (aw c2)).trans c2;have d3:wr.cell? (D B 3 Z)=U (S qa nm qc):=(hbr.cell (aw c3)).trans c3;have hlR:B<wr.heap.size:=aw d2;have hwz:=hbr.size;clear hbr;by_cases hlt:k<nm
 ·have hlt':(k:Int)<nm:=O;obtain⟨g1,g2,xa,xn,xc,m,rfl,rfl,e1,e2,hxn,hcl⟩:=HEM k hlt;have HCL:=dG hcl;have hxn':xn<=9223372036854775807:=by unfold maxLen at hxn;omega
  have y1:wr.cell? (D g1 k Z)=U (S xa xn xc):=(HBR.cell (aw e1)).trans e1;have y2:wr.cell? (D g2 k Z)=U (Y m):=(HBR.cell (aw e2)).trans e2;have hl1:g1<wr.heap.size:=aw y1;have hl2:g2<wr.heap.size:=aw y2;clear hcl;go_wp2_with fail;go_region_held_law (fun w'=>w'.cell? (D B 3 Z)=U (S (U (D g2 0 Z)) nm qc)/\w'.cell? (D g2 k Z)=U (Y m)) (go_keep) (fail);go_wp2;rename_i hHeld;clear hHeld;obtain⟨xb,hxb⟩:∃xb,wr.heap.size=xb:=Ey;have hX2:(wr.alloc (C #[Y m,Bo false,Y m] 73)).drew.heap[wr.heap.size]? =U (C #[Y m,Bo false,Y m] 73 (0,0)):=aA wr _;have hB2:H w.heap.size w (wr.alloc (C #[Y m,Bo false,Y m] 73)).drew:=(HBR.alloc HBR.size _).drew;rw[hxb]at hX2;rw[hxb];generalize(wr.alloc (C #[Y m,Bo false,Y m] 73)).drew=w2 at hX2 hB2 ⊢;have HB2:=dG hB2;have z0:w2.cell? (D B 2 Z)=U (S (U (D g1 0 Z)) nm pc):=(hB2.cell (aw c2)).trans c2;have z1:w2.cell? (D g1 k Z)=U (S xa xn xc):=(hB2.cell (aw e1)).trans e1;have x0:w2.cell? (D xb 0 Z)=U (Y m):=by simp[Wc,hX2]
  have x1:w2.cell? (D xb 1 Z)=U (Bo false):=by simp[Wc,hX2]
  have x2:w2.cell? (D xb 2 Z)=U (Y m):=by simp[Wc,hX2]
  clear hX2 hB2 hxb d2 d3 y1 y2 hl1 hl2 hlR hwz;go_loopw [8] (fun i wx=>∃j:Nat,j<=xn/\i=I J j/\∃q,wx=w2.drewN q) (fun i _=>xn-(Io i).toNat);case atStart=>exact⟨0,Lz,X,0,X⟩
  obtain⟨j,hj,rfl,q',rfl⟩:=hrel;by_cases hl2:j<xn
  ·obtain⟨g,rfl,u0,u1,u2⟩:=HCL j hl2;have v0:w2.cell? (D g (j*3) Z)=U (Y m):=(HB2.cell (aw u0)).trans u0;have v1:w2.cell? (D g (j*3+1) Z)=U (Bo false):=(HB2.cell (aw u1)).trans u1;have v2:w2.cell? (D g (j*3+2) Z)=U (Y m):=(HB2.cell (aw u2)).trans u2;have hl2':(j:Int)<xn:=O;clear u0 u1 u2;go_wp2;go_quiet (fail);go_wp2;go_roundw;case rel=>exact⟨j+1,O,Gn,_,X⟩
   case measure=>exact Ms
  have hl2':(xn:Int)<=j:=O;go_wp2;go_roundw;case rel=>exact⟨k+1,O,Gn,Go.below_drewN HB2 _⟩
  case measure=>exact Ms
 have hlt':(nm:Int)<=k:=O;go_wp2;go_ret;exact⟨X,HBR⟩
end Go.Proofs.YtkkicodfpekbgaaGreatDoor
