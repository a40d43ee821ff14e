/- Parts. -/
import Derived.Test.YtkkicodfpekbgaaGreatDoorJe0
open Go.Value renaming int->I,string->Y,slice->S,pointer->Po,bool->Bo,agg->Ag,tuple->Tu,iface->If
open Go.IntKind renaming i64->J
open Go.Obj renaming cells->C
open Go.Ending renaming returned->Rt
open Option renaming some->U,none->Z
open Go renaming World->M,Calls->Cs,Addr->Ad,Value->Vv
open _root_ renaming ByteArray->Q,Option->Oo,List->Ls
open Go.RowKit renaming Below->H,intOf->Io,Hid->Hi
open Go.World renaming cell?->Wc,frozen?->Wf
open Go.Act renaming put->Ap
open Go.Addr renaming mk->D
set_option linter.all false
set_option maxRecDepth 100000
set_option maxHeartbeats 8000000
namespace Go.Proofs.YtkkicodfpekbgaaGreatDoor
variable{A aB:Array Vv}{lg:Bool}{dp:Int}{k:Kd}{s:Ls Nd}{W w w' w1 w2:M}{R c tn tc x b p f i j g q:Nat}{n:Nd}{a ta:Oo Ad}{told t d u t0:Q}{sn:Sn->Ad}{T:TypeId}{v:Vl}{ov:Vv}
section
open Go.Proofs.Tryz
open Go.RowKit
def jt(n:Nd)(v:Vl):Prop:=
 v.kind=n.kind/\
 if n.kind=13 then v.text.size=0/\v.kids=1/\0<=v.alt/\v.alt<n.kids.length
 else if n.kind=14 then(hd v.text).1=0/\(hd v.text).2.s+(hd v.text).2.l=v.text.size/\v.alt=0/\v.kids=0
 else if n.kind=10 then v.text.size=0/\v.alt=0/\v.kids=n.kids.length
 else if 10<=n.kind/\n.kind<=12 then v.text.size=0/\v.alt=0/\0<=v.kids
 else bu n.kind v.text/\v.alt=0/\v.kids=0
theorem Vd(h:n.kind=10)(hv:v.kind=n.kind):jt n v↔v.text.size=0/\v.alt=0/\v.kids=n.kids.length:=by
 unfold jt;rw[G O,G O,ba h];exact⟨fun q=>q.2,fun q=>⟨hv,q⟩⟩
theorem Fs(h:n.kind=11\/n.kind=12)(hv:v.kind=n.kind):jt n v↔v.text.size=0/\v.alt=0/\0<=v.kids:=by
 unfold jt;rw[G O,G O,G O,ba O];exact⟨fun q=>q.2,fun q=>⟨hv,q⟩⟩
theorem Ve(h:n.kind=13)(hv:v.kind=n.kind):jt n v↔v.text.size=0/\v.kids=1/\0<=v.alt/\v.alt<n.kids.length:=by
 unfold jt;rw[ba h];exact⟨fun q=>q.2,fun q=>⟨hv,q⟩⟩
theorem Vf(h:n.kind=14)(hv:v.kind=n.kind):jt n v↔(hd v.text).1=0/\(hd v.text).2.s+(hd v.text).2.l=v.text.size/\v.alt=0/\v.kids=0:=by
 unfold jt;rw[G O,ba h];exact⟨fun q=>q.2,fun q=>⟨hv,q⟩⟩
theorem Vg(h:n.kind<10\/14<n.kind)(hv:v.kind=n.kind):jt n v↔bu n.kind v.text/\v.alt=0/\v.kids=0:=by
 unfold jt;rw[G O,G O,G O,G O];exact⟨fun q=>q.2,fun q=>⟨hv,q⟩⟩
theorem afP(t:Q)(w:M)(sn:Sn->Ad)(hs:ei w sn)(hm:t.size<=9223372036854775807):Cs prog 181 #[Y t] w fun e w'=>dw ((hd t).1=0/\(hd t).2.s+(hd t).2.l=t.size) w e w':=by
 have h:=Pw t 0 w sn hs hm Lz;rw[show t.extract 0 t.size=t by simp]at h;have iA:Hi (Cs prog 156 #[Y t,I J 0] w fun e w'=>e=Rt (Tu #[hv (hd t).2,qu 0 sn (hd t).1])/\Bw w w'):=h;unfold hv at iA;clear hs h;by_cases q1:(hd t).1=0
 ·have hok:=pq q1;have Q1:=ax q1;rw[q1]at iA;have he:qu 0 sn 0= .nilIface:=X;rw[he]at iA;obtain⟨ah,hH⟩:∃ah,(hd t).2=ah:=Ey;rw[hH]at iA hok;rw[hH];clear q1 he hH;go_enter func181,ntmps181;go_wp2_with fail;refine iA.mono ?_;rintro e w1 ⟨rfl,(aC:Hi _)⟩;by_cases q2:ah.s+ah.l=t.size;·have Q2:=ax q2;(have yW:(ah.s+ah.l==(t.size:Int))=true:=by simpa using q2);clear q2;go_wp2;go_ret;exact ia ⟨Q1,Q2⟩ (aC.alloc aC.size _)
  have Q2:=ax q2;have yW:(ah.s+ah.l==(t.size:Int))=false:=by simpa using q2
  clear q2;go_wp2;go_ret;exact cg (fun h=>Q2 h.2) (aC.alloc aC.size _)
 have Q1:=ax q1;have he:=Fq (t:=t) 0 sn q1;rw[he]at iA;unfold be at iA;obtain⟨ah,hH⟩:∃ah,(hd t).2=ah:=Ey;rw[hH]at iA;rw[hH];clear q1 he hH;go_enter func181,ntmps181;go_wp2_with fail;refine iA.mono ?_;rintro e w1 ⟨rfl,(aC:Hi _)⟩;go_wp2;go_ret;exact cg (fun h=>Q1 h.1) (aC.alloc aC.size _)
theorem ajb(n:Nd)(v:Vl)(ka:Oo Ad)(kc:Nat)(w:M)(hk:n.kind=10)(eW:v.kind=n.kind)(gA:n.kids.length<=8):Cs prog 148 #[Ag #[I J n.kind,I J n.tag,I J n.mode,S ka n.kids.length kc],Ag #[I J v.kind,Y v.text,I J v.alt,I J v.kids]] w fun e w'=>dw (jt n v) w e w':=by
 have HI:=ax (Vd (v:=v) hk eW);rw[eW,hk];go_enter func148,ntmps148;by_cases q1:v.text.size=0
 ·have t1:=jr q1;have Q1:=ax q1;by_cases q2:v.alt=0
  ·have Q2:=ax q2;rw[q2];by_cases q3:v.kids=(n.kids.length:Int);(·have Q3:=ax q3;rw[q3];clear q1 q2 q3 hk eW;go_wp2;go_ret;exact ia (HI.2 ⟨Q1,Q2,Q3⟩) ((Be).alloc Sq _));have Q3:=ax q3;(have A3:(v.kids==(n.kids.length:Int))=false:=by simpa using q3);clear q1 q2 hk eW;go_wp2;go_ret;exact cg (fun h=>Q3 (HI.1 h).2.2) ((Be).alloc Sq _)
  have Q2:=ax q2;have yW:(v.alt==0)=false:=by simpa using q2
  clear q1 hk eW;go_wp2;go_ret;exact cg (fun h=>Q2 (HI.1 h).2.1) ((Be).alloc Sq _)
 have t1:=gw (t:=v.text) O;have Q1:=ax q1;clear q1 hk eW;go_wp2;go_ret;exact cg (fun h=>Q1 (HI.1 h).1) ((Be).alloc Sq _)
theorem ajc(n:Nd)(v:Vl)(ka:Oo Ad)(kc:Nat)(w:M)(hk:n.kind=11\/n.kind=12)(eW:v.kind=n.kind)(gA:n.kids.length<=8):Cs prog 148 #[Ag #[I J n.kind,I J n.tag,I J n.mode,S ka n.kids.length kc],Ag #[I J v.kind,Y v.text,I J v.alt,I J v.kids]] w fun e w'=>dw (jt n v) w e w':=by
 have HI:=ax (Fs (v:=v) hk eW);rw[eW];rcases hk with hk|hk;all_goals
  rw[hk];go_enter func148,ntmps148;by_cases q1:v.text.size=0
  ·have t1:=jr q1;have Q1:=ax q1;by_cases q2:v.alt=0
   ·have Q2:=ax q2;rw[q2];by_cases q3:0<=v.kids;(·have Q3:=ax q3;have hmx:max v.kids 0=v.kids:=O;clear q1 q2 hk eW;go_wp2;go_ret;exact ia (HI.2 ⟨Q1,Q2,Q3⟩) ((Be).alloc Sq _));have Q3:=ax q3;have hmx:max v.kids 0=0:=O;have A3:(v.kids==0)=false:=So;clear q1 q2 hk eW;go_wp2;go_ret;exact cg (fun h=>by have h1:=(HI.out.1 h).2.2;have h2:=Q3.out;omega) ((Be).alloc Sq _)
   have Q2:=ax q2;(have yW:(v.alt==0)=false:=by simpa using q2);clear q1 hk eW;go_wp2;go_ret;exact cg (fun h=>Q2 (HI.1 h).2.1) ((Be).alloc Sq _)
  have t1:=gw (t:=v.text) O;have Q1:=ax q1;clear q1 hk eW;go_wp2;go_ret;exact cg (fun h=>Q1 (HI.1 h).1) ((Be).alloc Sq _)
theorem ajd(n:Nd)(v:Vl)(ka:Oo Ad)(kc:Nat)(w:M)(hk:n.kind=13)(eW:v.kind=n.kind)(gA:n.kids.length<=8):Cs prog 148 #[Ag #[I J n.kind,I J n.tag,I J n.mode,S ka n.kids.length kc],Ag #[I J v.kind,Y v.text,I J v.alt,I J v.kids]] w fun e w'=>dw (jt n v) w e w':=by
 have HI:=ax (Ve (v:=v) hk eW);rw[eW,hk];go_enter func148,ntmps148;by_cases q1:v.text.size=0
 ·have t1:=jr q1;have Q1:=ax q1;by_cases q2:v.kids=1
  ·have Q2:=ax q2;rw[q2];by_cases q3:0<=v.alt
   ·have Q3:=ax q3;by_cases q4:v.alt<(n.kids.length:Int);(·have Q4:=ax q4;clear q1 q2 hk eW;go_wp2;go_ret;exact ia (HI.2 ⟨Q1,Q2,Q3,Q4⟩) ((Be).alloc Sq _));have Q4:=ax q4;clear q1 q2 hk eW;go_wp2;go_ret;exact cg (fun h=>by have h1:=(HI.out.1 h).2.2.2;have h2:=Q4.out;omega) ((Be).alloc Sq _)
   have Q3:=ax q3;clear q1 q2 hk eW;go_wp2;go_ret;exact cg (fun h=>by have h1:=(HI.out.1 h).2.2.1;have h2:=Q3.out;omega) ((Be).alloc Sq _)
  have Q2:=ax q2;have yW:(v.kids==1)=false:=by simpa using q2
  clear q1 hk eW;go_wp2;go_ret;exact cg (fun h=>Q2 (HI.1 h).2.1) ((Be).alloc Sq _)
 have t1:=gw (t:=v.text) O;have Q1:=ax q1;clear q1 hk eW;go_wp2;go_ret;exact cg (fun h=>Q1 (HI.1 h).1) ((Be).alloc Sq _)
theorem aje(n:Nd)(v:Vl)(ka:Oo Ad)(kc:Nat)(w:M)(hk:n.kind=14)(sn:Sn->Ad)(hl:gy w sn)(fK:v.text.size<=140737488355328)(eW:v.kind=n.kind)(gA:n.kids.length<=8):Cs prog 148 #[Ag #[I J n.kind,I J n.tag,I J n.mode,S ka n.kids.length kc],Ag #[I J v.kind,Y v.text,I J v.alt,I J v.kids]] w fun e w'=>dw (jt n v) w e w':=by
 have HI:=ax (Vf (v:=v) hk eW);have HF:Hi _:=fun wq q=>afP v.text wq sn (hl.below q).s O;have HA:Hi (∀A B,Bw w ((w.alloc A).alloc B)):=fun A B=>((cm w.heap.size w).alloc Ln A).alloc Sq B;rw[eW,hk];clear hk eW hl fK;go_enter func148,ntmps148;by_cases q2:v.alt=0
 ·have Q2:=ax q2;rw[q2];by_cases q3:v.kids=0;·have Q3:=ax q3;rw[q3];clear q2 q3;go_wp2_with fail;refine(HF _ (HA _ _)).mono ?_;rintro e w1 ⟨rv,rfl,(r8:Hi _),hb1⟩;have aC:Hi _:=(HA _ _).trans (hb1.mono (HA _ _).size);clear hb1;go_wp2;go_ret;exact⟨rv,X,⟨fun h=>HI.2 ⟨(r8.1 h).1,(r8.1 h).2,Q2,Q3⟩,fun h=>r8.2 ⟨(HI.1 h).1,(HI.1 h).2.1⟩⟩,aC⟩
  have Q3:=ax q3;have A3:(v.kids !=0)=true:=by simpa using q3
  clear q2;go_wp2;go_ret;exact cg (fun h=>Q3 (HI.1 h).2.2.2) ((Be).alloc Sq _)
 have Q2:=ax q2;have yW:(v.alt !=0)=true:=by simpa using q2
 go_wp2;go_ret;exact cg (fun h=>Q2 (HI.1 h).2.2.1) ((Be).alloc Sq _)
theorem ajf(n:Nd)(v:Vl)(ka:Oo Ad)(kc:Nat)(w:M)(hk:n.kind<10\/14<n.kind)(sn:Sn->Ad)(hl:gy w sn)(fK:v.text.size<=140737488355328)(eW:v.kind=n.kind)(gA:n.kids.length<=8):Cs prog 148 #[Ag #[I J n.kind,I J n.tag,I J n.mode,S ka n.kids.length kc],Ag #[I J v.kind,Y v.text,I J v.alt,I J v.kids]] w fun e w'=>dw (jt n v) w e w':=by
 have HI:=ax (Vg (v:=v) hk eW);have HF:Hi (∀wq,Bw w wq->Cs prog 138 #[I J n.kind,Y v.text] wq fun e w'=>∃rv,e=Rt (Bo rv)/\(rv=true↔bu n.kind v.text)/\Bw wq w'):=fun wq q=>Dh _ _ wq O (hl.below q).d (Bv _ wq O (hl.below q).t);have HA:Hi (∀A B,Bw w ((w.alloc A).alloc B)):=fun A B=>((cm w.heap.size w).alloc Ln A).alloc Sq B;have A4:(n.kind==10)=false:=So;have t11:(n.kind==11)=false:=So;have t12:(n.kind==12)=false:=So;have t13:(n.kind==13)=false:=So;have t14:(n.kind==14)=false:=So;rw[eW];clear hk eW hl fK;go_enter func148,ntmps148;by_cases q2:v.alt=0
 ·have Q2:=ax q2;rw[q2];by_cases q3:v.kids=0;·have Q3:=ax q3;rw[q3];clear q2 q3;go_wp2_with fail;refine(HF _ (HA _ _)).mono ?_;rintro e w1 ⟨rv,rfl,(r8:Hi _),hb1⟩;have aC:Hi (Bw w w1):=(HA _ _).trans (hb1.mono (HA _ _).size);clear hb1;go_wp2;go_ret;exact⟨rv,X,⟨fun h=>HI.2 ⟨r8.1 h,Q2,Q3⟩,fun h=>r8.2 (HI.1 h).1⟩,aC⟩
  have Q3:=ax q3;have A3:(v.kids !=0)=true:=by simpa using q3
  clear q2;go_wp2;go_ret;exact cg (fun h=>Q3 (HI.1 h).2.2) ((Be).alloc Sq _)
 have Q2:=ax q2;have yW:(v.alt !=0)=true:=by simpa using q2
 go_wp2;go_ret;exact cg (fun h=>Q2 (HI.1 h).2.1) ((Be).alloc Sq _)
theorem ajg(n:Nd)(v:Vl)(ka:Oo Ad)(kc:Nat)(w:M)(sn:Sn->Ad)(hl:gy w sn)(fK:v.text.size<=140737488355328)(gA:n.kids.length<=8):Cs prog 148 #[Ag #[I J n.kind,I J n.tag,I J n.mode,S ka n.kids.length kc],Ag #[I J v.kind,Y v.text,I J v.alt,I J v.kids]] w fun e w'=>dw (jt n v) w e w':=by
 by_cases eW:v.kind=n.kind
 ·by_cases bU:n.kind=13;·exact ajd n v ka kc w bU eW gA
  by_cases gR:n.kind=14;·exact aje n v ka kc w gR sn hl fK eW gA
  by_cases bG:n.kind=10;·exact ajb n v ka kc w bG eW gA
  by_cases fC:n.kind=11\/n.kind=12;·exact ajc n v ka kc w fC eW gA
  exact ajf n v ka kc w O sn hl fK eW gA
 have ar:=ax eW;have hb:(v.kind !=n.kind)=true:=by simpa using eW
 clear hl fK;go_enter func148,ntmps148;go_wp2;go_ret;exact cg (fun h=>ar h.1) ((Be).alloc Sq _)
end
section
open Go.RowKit
def bcells(t:Q):Ls Vv:=t.data.toList.map fun b=>I .u8 (b.toNat:Int)
def gj(a:Oo Ad)(n c:Nat)(ta:Oo Ad)(tn tc x:Nat)(tv:Vv)(lg:Bool)(ov:Vv):Obj:=C #[S a n c,S ta tn tc,I J x,tv,Bo lg,ov] 140 (0,0)
structure ey(W w:M)(R:Nat)(a:Oo Ad)(n c:Nat)(ta:Oo Ad)(tn tc x:Nat)(told:Q)(lg:Bool)(ov:Vv):Prop where
 bel:Bw W w
 lo:W.heap.size<=R
 own:∃tv,w.heap[R]? =U (gj a n c ta tn tc x tv lg ov)/\w.ownsRow W.heap.size 5 1 tv told.size (bcells told)
theorem ey.below{n:Nat}(h:ey W w R a n c ta tn tc x told lg ov)(hb:Bw w w'):ey W w' R a n c ta tn tc x told lg ov:=by obtain⟨tv,h1,h2⟩:=h.own;exact⟨Tm h.bel hb,h.lo,tv,bc h1 hb,fm h2 hb⟩
theorem ey.setNext{n:Nat}(h:ey W w R a n c ta tn tc x told lg ov)(y:Nat):ey W (w.setCell (D R 2 Z) (I J y)) R a n c ta tn tc y told lg ov:=by obtain⟨tv,h1,h2⟩:=h.own;exact⟨h.bel.setCell (p:=D R 2 Z) h.lo _,h.lo,tv,iw w R 2 _ _ _ h1,dk h2 (fg h1 h2 Dc) _⟩
def bx(R:Nat)(w w':M):Prop:=∀(k:Nat) (A:Array Vv) (T:TypeId),k≠R->T≠5->w.heap[k]? =U (C A T (0,0))->w'.heap[k]? =U (C A T (0,0))
theorem bx.trans(h:bx R w w1)(k:bx R w1 w2):bx R w w2:=fun j A T hj hT hg=>k j A T hj hT (h j A T hj hT hg)
theorem bx.of_below(h:Bw w w'):bx R w w':=fun _ _ _ _ _ hg=>bc hg h
theorem bx.set(i:Nat)(u:Vv):bx R w (w.setCell (D R i Z) u):=fun j A T hj _ hg=>by rw[ez _ _ _ _ hj];exact hg
theorem bx.new(h:bx R w w2)(hb:w.heap.size<=b)(i:Nat)(u:Vv):bx R w (w2.setCell (D b i Z) u):=fun j A T hj hT hg=>by rw[ez _ _ _ _ (by have:=eb hg;show j≠b;omega)];exact h j A T hj hT hg
theorem ey.newset{n:Nat}(h:ey W w R a n c ta tn tc x told lg ov)(hg:w.heap[b]? =U (C A T (0,0)))(hT:T≠5)(hb:W.heap.size<=b)(aI:b≠R)(i:Nat)(u:Vv):ey W (w.setCell (D b i Z) u) R a n c ta tn tc x told lg ov/\(w.setCell (D b i Z) u).heap[b]? =U (C (A.setIfInBounds i u) T (0,0)):=by
 obtain⟨tv,h1,h2⟩:=h.own;refine⟨⟨h.bel.setCell (p:=D b i Z) hb _,h.lo,tv,?_,dk h2 (fg hg h2 hT) _⟩,iw w b i _ _ _ hg⟩;rw[ez _ _ _ _ (fun q=>aI q.symm)];exact h1
theorem ey.new4{w0:M}{n:Nat}(h:ey W w R a n c ta tn tc x told lg ov)(hg:w.heap[b]? =U (C A T (0,0)))(hT:T≠5)(hb:W.heap.size<=b)(aI:b≠R)(hf:bx R w0 w)(bO:w0.heap.size<=b)(u0 u1 u2 u3:Vv):ey W ((((w.setCell (D b 0 Z) u0).setCell (D b 1 Z) u1).setCell (D b 2 Z) u2).setCell (D b 3 Z) u3) R a n c ta tn tc x told lg ov/\bx R w0 ((((w.setCell (D b 0 Z) u0).setCell (D b 1 Z) u1).setCell (D b 2 Z) u2).setCell (D b 3 Z) u3)/\((((w.setCell (D b 0 Z) u0).setCell (D b 1 Z) u1).setCell (D b 2 Z) u2).setCell (D b 3 Z) u3).heap[b]? =U (C ((((A.setIfInBounds 0 u0).setIfInBounds 1 u1).setIfInBounds 2 u2).setIfInBounds 3 u3) T (0,0)):=by
 obtain⟨h0,g0⟩:=h.newset hg hT hb aI 0 u0;obtain⟨h1,g1⟩:=h0.newset g0 hT hb aI 1 u1;obtain⟨h2,g2⟩:=h1.newset g1 hT hb aI 2 u2;obtain⟨h3,g3⟩:=h2.newset g2 hT hb aI 3 u3;exact⟨h3,(((hf.new bO 0 u0).new bO 1 u1).new bO 2 u2).new bO 3 u3,g3⟩
def Sa(W:M)(R:Nat)(a:Oo Ad)(m c:Nat)(ta:Oo Ad)(t:Ls Vl)(tc x:Nat)(told:Q)(lg:Bool)(ov:Vv)(sn:Sn->Ad)(n:Nd)(dp:Int)(w:M)(e:Ending)(w':M):Prop:=
 bx R w w'/\
     ((x<t.length/\dp<=12/\jt n (vl t x)/\e=Rt (Tu #[Ag #[I J (vl t x).kind,Y (vl t x).text,I J (vl t x).alt,I J (vl t x).kids],.nilIface])/\ey W w' R a m c ta t.length tc (x+1) told lg ov)\/
      (¬(x<t.length/\dp<=12/\jt n (vl t x))/\e=Rt (Tu #[Ag #[I J 0,Y ⟨#[]⟩,I J 0,I J 0],be x (sn .Tree)])/\ey W w' R a m c ta t.length tc x told lg ov))
set_option maxHeartbeats 20000000 in
theorem aiv(W w:M)(R:Nat)(a:Oo Ad)(m c:Nat)(ta:Oo Ad)(t:Ls Vl)(tc x:Nat)(told:Q)(lg:Bool)(ov:Vv)(sn:Sn->Ad)(n:Nd)(ka:Oo Ad)(kc:Nat)(dp:Int)(hl:gy W sn)(gA:n.kids.length<=8)(bC:t.length<=16777000)(dX:t.length<=tc)(hx:x<=t.length)(AR:∀j,j<t.length->(vl t j).text.size<=140737488355328/\∃g o,ta=U (D g o Z)/\W.cell? (D g (o+j*4) Z)=U (I J (vl t j).kind)/\W.cell? (D g (o+j*4+1) Z)=U (Y (vl t j).text)/\W.cell? (D g (o+j*4+2) Z)=U (I J (vl t j).alt)/\W.cell? (D g (o+j*4+3) Z)=U (I J (vl t j).kids))(hI:ey W w R a m c ta t.length tc x told lg ov):Cs Tryz.prog 109 #[Po (U (D R 0 Z)),Ag #[I J n.kind,I J n.tag,I J n.mode,S ka n.kids.length kc],I J dp] w fun e w'=>Sa W R a m c ta t tc x told lg ov sn n dp w e w':=by
 have HI:=ax hI;have HL:=ax hl;have wA:=ax AR;obtain⟨tv,aG,_⟩:=hI.own;unfold gj at aG;have c1:w.cell? (D R 1 Z)=U (S ta t.length tc):=by simp[Wc,aG]
 have eS:=lc c1;clear hI hl AR aG;go_enter Tryz.func109,Tryz.ntmps109;go_wp2_with fail;have bF:((w.alloc (C #[I J n.kind,I J n.tag,I J n.mode,S ka n.kids.length kc] 58)).alloc (C #[I J 0,Y ⟨#[]⟩,I J 0,I J 0] 60)).heap[w.heap.size]? =U (C #[I J n.kind,I J n.tag,I J n.mode,S ka n.kids.length kc] 58 (0,0)):=bc (bl w _) Be;have bH:((w.alloc (C #[I J n.kind,I J n.tag,I J n.mode,S ka n.kids.length kc] 58)).alloc (C #[I J 0,Y ⟨#[]⟩,I J 0,I J 0] 60)).heap[w.heap.size+1]? =U (C #[I J 0,Y ⟨#[]⟩,I J 0,I J 0] 60 (0,0)):=by have q:=bl (w.alloc (C #[I J n.kind,I J n.tag,I J n.mode,S ka n.kids.length kc] 58)) (C #[I J 0,Y ⟨#[]⟩,I J 0,I J 0] 60);simpa using q
 have bA:Bw w ((w.alloc (C #[I J n.kind,I J n.tag,I J n.mode,S ka n.kids.length kc] 58)).alloc (C #[I J 0,Y ⟨#[]⟩,I J 0,I J 0] 60)):=((cm w.heap.size w).alloc Ln _).alloc Sq _;obtain⟨nb,dH⟩:∃nb,w.heap.size=nb:=Ey;obtain⟨rb,RL⟩:∃rb,w.heap.size+1=rb:=Ey;have yO:rb≠R:=O;rw[RL]at bH;rw[RL];rw[dH]at bF;rw[dH];generalize(w.alloc _).alloc _=w1 at bF bH bA ⊢;have aZ:=ax (HI.out.below bA);have iE:Hi (bx R w w1):=bx.of_below bA;have cJ:=ax bH;obtain⟨k0,k1,k2,k3⟩:=fi bF;have YL:w.heap.size<=rb:=O;have YM:W.heap.size<=rb:=by have:=HI.out.bel.size;omega
 have m9:=ax (And.intro YL YM);clear bF bH bA c1 eS dH RL YL YM;obtain⟨tv,aG,_⟩:=aZ.out.own;unfold gj at aG;obtain⟨-,e1,e2, -, -, -⟩:=oq aG;clear aG;by_cases gS:x<t.length
 ·have FB:(x:Int)<t.length:=O;have gL:((x:Int)==(t.length:Int))=false:=So;by_cases gJ:dp<=12
  ·obtain⟨vL,g,o,iJ,p0,p1,p2,p3⟩:=wA.out x gS;have fE:=aZ.out.bel;have m0:w1.cell? (D g (o+x*4) Z)=U (I J (vl t x).kind):=Cb fE p0;have m1:w1.cell? (D g (o+x*4+1) Z)=U (Y (vl t x).text):=Cb fE p1;have m2:w1.cell? (D g (o+x*4+2) Z)=U (I J (vl t x).alt):=Cb fE p2;have m3:w1.cell? (D g (o+x*4+3) Z)=U (I J (vl t x).kids):=Cb fE p3;have wO:=bp m0;simp only at wO;rw[iJ]at e1;have pN:=ax iJ;have sE:decide (12<dp)=false:=br O;have KO:Hi (∀wq,Bw w1 wq->Cs Tryz.prog 148 #[Ag #[I J n.kind,I J n.tag,I J n.mode,S ka n.kids.length kc],Ag #[I J (vl t x).kind,Y (vl t x).text,I J (vl t x).alt,I J (vl t x).kids]] wq fun e w'=>dw (jt n (vl t x)) wq e w'):=fun wq q=>ajg n (vl t x) ka kc wq sn ((HL.out.below fE).below q) vL gA;have fH:Hi (∀wq,Bw w1 wq->wq.cell? (D R 1 Z)=U (S (U (D g o Z)) t.length tc)/\wq.cell? (D R 2 Z)=U (I J (x:Int))/\wq.cell? (D nb 0 Z)=U (I J n.kind)/\wq.cell? (D nb 1 Z)=U (I J n.tag)/\wq.cell? (D nb 2 Z)=U (I J n.mode)/\wq.cell? (D nb 3 Z)=U (S ka n.kids.length kc)/\wq.cell? (D g (o+x*4) Z)=U (I J (vl t x).kind)/\wq.cell? (D g (o+x*4+1) Z)=U (Y (vl t x).text)/\wq.cell? (D g (o+x*4+2) Z)=U (I J (vl t x).alt)/\wq.cell? (D g (o+x*4+3) Z)=U (I J (vl t x).kids)):=fun wq q=>⟨Cb q e1,Cb q e2,Cb q k0,Cb q k1,Cb q k2,Cb q k3,Cb q m0,Cb q m1,Cb q m2,Cb q m3⟩;clear p0 p1 p2 p3 iJ fE;go_region_held_law (fun w'=>w'.cell? (D R 1 Z)=U (S (U (D g o Z)) t.length tc)/\w'.cell? (D R 2 Z)=U (I J (x:Int))/\w'.cell? (D nb 0 Z)=U (I J n.kind)/\w'.cell? (D nb 1 Z)=U (I J n.tag)/\w'.cell? (D nb 2 Z)=U (I J n.mode)/\w'.cell? (D nb 3 Z)=U (S ka n.kids.length kc)/\w'.cell? (D g (o+x*4) Z)=U (I J (vl t x).kind)/\w'.cell? (D g (o+x*4+1) Z)=U (Y (vl t x).text)/\w'.cell? (D g (o+x*4+2) Z)=U (I J (vl t x).alt)/\w'.cell? (D g (o+x*4+3) Z)=U (I J (vl t x).kids)) (first|exact fH.out _ (By).drew |exact fH.out _ aD.out|go_keep) ((go_at_call 148;refine(KO.out _ (By).drew).mono ?_;rintro e w2 ⟨rv,rfl,JI,hb2⟩;have r8:=ax JI;have aD:Hi (Bw w1 w2):=(cm w1.heap.size w1).drew.trans hb2;clear JI hb2));rename_i hHeld;clear hHeld;have aS:=ax (aZ.out.below aD.out);have gQ:=ax (bc cJ.out aD.out);have dC:Hi (bx R w w2):=iE.out.trans (bx.of_below aD.out);have jN:=fH.out w2 aD.out;have jL:=ax jN;(have IZ:g≠R:=by obtain⟨_,g',o',RT,p0,_⟩:=wA.out x gS;have iJ:=pN.out;rw[RT]at iJ;injection iJ with iJ;injection iJ with h1 h2 _;have:=bp p0;have:=HI.out.lo;simp only at*;omega);(have L9:g≠rb:=by obtain⟨_,g',o',RT,p0,_⟩:=wA.out x gS;have iJ:=pN.out;rw[RT]at iJ;injection iJ with iJ;injection iJ with h1 h2 _;have:=bp p0;have:=m9.out.2;simp only at*;omega);clear k0 k1 k2 k3 e1 e2 m0 m1 m2 m3 wO jN KO fH
   cases rv with
   |false=>
    obtain⟨tv,aG,_⟩:=aS.out.own
    unfold gj at aG
    obtain⟨-,d1,d2, -, -, -⟩:=oq aG
    have LF:w2.frozen? (D R 2 Z)=false:=Fz aG
    have hz:=gQ.out
    obtain⟨z0,z1,z2,z3⟩:=fi hz
    have J4:w2.frozen? (D rb 0 Z)=false:=Fz hz
    have J5:w2.frozen? (D rb 1 Z)=false:=Fz hz
    have J6:w2.frozen? (D rb 2 Z)=false:=Fz hz
    have J7:w2.frozen? (D rb 3 Z)=false:=Fz hz
    clear aG hz
    have cT:=(HL.out.below aS.out.bel).s.cTree
    have dZ:=bp cT
    simp only at dZ
    have bS:Hi (∀wq,Cs Tryz.prog 60 #[I J x,If 291 (Po (U (sn .Tree)))] wq fun e w'=>e=Rt (be x (sn .Tree))/\w'=wq):=fun wq=>pj x _ wq
    unfold be at bS
    have wR:R≠rb:=fun q=>yO q.symm
    have I0:=bp HL.out.s.cTree
    simp only at I0
    have JF:9≠rb:=by have:=m9.out.2;omega
    have kp:∀j,j≠rb->((((w2.setCell (D rb 0 Z) (I J 0)).setCell (D rb 1 Z) (Y ⟨#[]⟩)).setCell (D rb 2 Z) (I J 0)).setCell (D rb 3 Z) (I J 0)).drew.heap[j]? =w2.heap[j]? :=fun j hj=>by
     show((((w2.setCell (D rb 0 Z) (I J 0)).setCell (D rb 1 Z) (Y ⟨#[]⟩)).setCell (D rb 2 Z) (I J 0)).setCell (D rb 3 Z) (I J 0)).heap[j]? =_
     rw[ez _ _ _ _ hj,ez _ _ _ _ hj,ez _ _ _ _ hj,ez _ _ _ _ hj]
    have BU:=ax (And.intro ((ox (a:=D R 2 Z) (kp R wR)).trans d2) ((ox (a:=D 9 0 Z) (kp _ JF)).trans cT))
    clear kp
    obtain⟨rA,rB,tZ⟩:=aS.out.new4 gQ.out Dc m9.out.2 yO dC.out m9.out.1 (I J 0) (Y ⟨#[]⟩) (I J 0) (I J 0)
    have gN:=ax (rA.below (By).drew)
    have jG:=ax (rB.trans (bx.of_below (By).drew))
    have tI:Hi (((((w2.setCell (D rb 0 Z) (I J 0)).setCell (D rb 1 Z) (Y ⟨#[]⟩)).setCell (D rb 2 Z) (I J 0)).setCell (D rb 3 Z) (I J 0)).drew.heap[rb]? =U (C #[I J 0,Y ⟨#[]⟩,I J 0,I J 0] 60 (0,0))):=tZ
    clear rA rB tZ
    go_wp2_with fail
    go_region_held_law (fun w'=>w'.cell? (D R 2 Z)=U (I J (x:Int))/\w'.cell? (D 9 0 Z)=U (If 291 (Po (U (sn .Tree))))) (first|exact BU.out|go_keep) ((go_at_call 60;refine(bS.out _).mono ?_;rintro e w3 ⟨rfl,rfl⟩))
    all_goals
     rename_i hHeld
     clear hHeld
     generalize((((w2.setCell (D rb 0 Z) (I J 0)).setCell (D rb 1 Z) (Y ⟨#[]⟩)).setCell (D rb 2 Z) (I J 0)).setCell (D rb 3 Z) (I J 0)).drew=w9 at gN jG tI ⊢
     obtain⟨r0,r1,r2,r3⟩:=fi tI.out
     go_wp2
     refine db (v:=Tu #[Ag #[I J 0,Y ⟨#[]⟩,I J 0,I J 0],be x (sn .Tree)]) (by simp[results,Tryz.results109,go_sem,be,r0,r1,r2,r3]) X ?_
     exact⟨jG.out,.inr ⟨fun h=>Bool.noConfusion (r8.out.2 h.2.2),X,gN.out⟩⟩
   |true=>
    have HFP:Hi (jt n (vl t x)):=r8.out.1 X
    obtain⟨tv,aG,_⟩:=aS.out.own
    unfold gj at aG
    obtain⟨-,d1,d2, -, -, -⟩:=oq aG
    have LF:w2.frozen? (D R 2 Z)=false:=Fz aG
    have hz:=gQ.out
    obtain⟨z0,z1,z2,z3⟩:=fi hz
    have J4:w2.frozen? (D rb 0 Z)=false:=Fz hz
    have J5:w2.frozen? (D rb 1 Z)=false:=Fz hz
    have J6:w2.frozen? (D rb 2 Z)=false:=Fz hz
    have J7:w2.frozen? (D rb 3 Z)=false:=Fz hz
    clear aG hz
    have wR:R≠rb:=fun q=>yO q.symm
    have bI:=aS.out.setNext (x+1)
    have dF:=dC.out.trans (bx.set (R:=R) (w:=w2) 2 (I J ((x+1:Nat):Int)))
    have oK:(w2.setCell (D R 2 Z) (I J ((x+1:Nat):Int))).heap[rb]? =_:=(bx.set (R:=R) (w:=w2) 2 (I J ((x+1:Nat):Int))) rb _ _ yO Dc gQ.out
    have qC:(w2.setCell (D R 2 Z) (I J ((x+1:Nat):Int))).heap[g]? =w2.heap[g]? :=ez _ _ _ _ IZ
    rw[show((x+1:Nat):Int)=(x:Int)+1 by omega]at bI dF oK qC
    have gW:(w2.setCell (D R 2 Z) (I J ((x:Int)+1))).cell? (D g (o+x*4) Z)=U (I J (vl t x).kind)/\(w2.setCell (D R 2 Z) (I J ((x:Int)+1))).cell? (D g (o+x*4+1) Z)=U (Y (vl t x).text)/\(w2.setCell (D R 2 Z) (I J ((x:Int)+1))).cell? (D g (o+x*4+2) Z)=U (I J (vl t x).alt)/\(w2.setCell (D R 2 Z) (I J ((x:Int)+1))).cell? (D g (o+x*4+3) Z)=U (I J (vl t x).kids):=by
     obtain⟨_,_,_,_,_,_,q0,q1,q2,q3⟩:=jL.out
     exact⟨(ox (a:=D g (o+x*4) Z) qC).trans q0,(ox (a:=D g (o+x*4+1) Z) qC).trans q1,(ox (a:=D g (o+x*4+2) Z) qC).trans q2,(ox (a:=D g (o+x*4+3) Z) qC).trans q3⟩
    have cH:=ax bI
    have dI:=ax dF
    have kW:=ax oK
    have UM:=ax gW
    clear bI dF oK gW qC z0 z1 z2 z3 J4 J5 J6 J7
    go_upto_region 4 with fail
    generalize w2.setCell (D R 2 Z) (I J ((x:Int)+1))=w3 at cH dI kW UM ⊢
    clear d1 d2 LF
    obtain⟨tv,aG,_⟩:=cH.out.own
    unfold gj at aG
    have d1:w3.cell? (D R 1 Z)=U (S (U (D g o Z)) t.length tc):=by rw[<-pN.out];simp[Wc,aG]
    have d2:w3.cell? (D R 2 Z)=U (I J ((x:Int)+1)):=by simp[Wc,aG]
    have hz:=kW.out
    obtain⟨z0,z1,z2,z3⟩:=fi hz
    have J4:w3.frozen? (D rb 0 Z)=false:=Fz hz
    have J5:w3.frozen? (D rb 1 Z)=false:=Fz hz
    have J6:w3.frozen? (D rb 2 Z)=false:=Fz hz
    have J7:w3.frozen? (D rb 3 Z)=false:=Fz hz
    obtain⟨m0,m1,m2,m3⟩:=UM.out
    have wO:=bp m0
    simp only at wO
    have kp:∀j,j≠rb->((((w3.setCell (D rb 0 Z) (I J (vl t x).kind)).setCell (D rb 1 Z) (Y (vl t x).text)).setCell (D rb 2 Z) (I J (vl t x).alt)).setCell (D rb 3 Z) (I J (vl t x).kids)).drew.heap[j]? =w3.heap[j]? :=fun j hj=>by
     show((((w3.setCell (D rb 0 Z) (I J (vl t x).kind)).setCell (D rb 1 Z) (Y (vl t x).text)).setCell (D rb 2 Z) (I J (vl t x).alt)).setCell (D rb 3 Z) (I J (vl t x).kids)).heap[j]? =_
     rw[ez _ _ _ _ hj,ez _ _ _ _ hj,ez _ _ _ _ hj,ez _ _ _ _ hj]
    have BU:Hi (((((w3.setCell (D rb 0 Z) (I J (vl t x).kind)).setCell (D rb 1 Z) (Y (vl t x).text)).setCell (D rb 2 Z) (I J (vl t x).alt)).setCell (D rb 3 Z) (I J (vl t x).kids)).drew.cell? (D R 1 Z)=U (S (U (D g o Z)) t.length tc)/\((((w3.setCell (D rb 0 Z) (I J (vl t x).kind)).setCell (D rb 1 Z) (Y (vl t x).text)).setCell (D rb 2 Z) (I J (vl t x).alt)).setCell (D rb 3 Z) (I J (vl t x).kids)).drew.cell? (D R 2 Z)=U (I J ((x:Int)+1))/\((((w3.setCell (D rb 0 Z) (I J (vl t x).kind)).setCell (D rb 1 Z) (Y (vl t x).text)).setCell (D rb 2 Z) (I J (vl t x).alt)).setCell (D rb 3 Z) (I J (vl t x).kids)).drew.cell? (D g (o+x*4) Z)=U (I J (vl t x).kind)/\((((w3.setCell (D rb 0 Z) (I J (vl t x).kind)).setCell (D rb 1 Z) (Y (vl t x).text)).setCell (D rb 2 Z) (I J (vl t x).alt)).setCell (D rb 3 Z) (I J (vl t x).kids)).drew.cell? (D g (o+x*4+1) Z)=U (Y (vl t x).text)/\((((w3.setCell (D rb 0 Z) (I J (vl t x).kind)).setCell (D rb 1 Z) (Y (vl t x).text)).setCell (D rb 2 Z) (I J (vl t x).alt)).setCell (D rb 3 Z) (I J (vl t x).kids)).drew.cell? (D g (o+x*4+2) Z)=U (I J (vl t x).alt)/\((((w3.setCell (D rb 0 Z) (I J (vl t x).kind)).setCell (D rb 1 Z) (Y (vl t x).text)).setCell (D rb 2 Z) (I J (vl t x).alt)).setCell (D rb 3 Z) (I J (vl t x).kids)).drew.cell? (D g (o+x*4+3) Z)=U (I J (vl t x).kids)):=
     ⟨(ox (a:=D R 1 Z) (kp R wR)).trans d1,(ox (a:=D R 2 Z) (kp R wR)).trans d2,(ox (a:=D g (o+x*4) Z) (kp g L9)).trans m0,(ox (a:=D g (o+x*4+1) Z) (kp g L9)).trans m1,(ox (a:=D g (o+x*4+2) Z) (kp g L9)).trans m2,(ox (a:=D g (o+x*4+3) Z) (kp g L9)).trans m3⟩
    obtain⟨rA,rB,tZ⟩:=cH.out.new4 kW.out Dc m9.out.2 yO dI.out m9.out.1 (I J (vl t x).kind) (Y (vl t x).text) (I J (vl t x).alt) (I J (vl t x).kids)
    have gN:=ax (rA.below (By).drew)
    have jG:=ax (rB.trans (bx.of_below (By).drew))
    have tI:Hi (((((w3.setCell (D rb 0 Z) (I J (vl t x).kind)).setCell (D rb 1 Z) (Y (vl t x).text)).setCell (D rb 2 Z) (I J (vl t x).alt)).setCell (D rb 3 Z) (I J (vl t x).kids)).drew.heap[rb]? =U (C #[I J (vl t x).kind,Y (vl t x).text,I J (vl t x).alt,I J (vl t x).kids] 60 (0,0))):=tZ
    clear rA rB tZ kp hz aG
    have rR:IntKind.i64.wrap ((x:Int)+1-1)=(x:Int):=by
     rw[show(x:Int)+1-1=x by omega]
     simp[IntKind.wrap,IntKind.bits,IntKind.signed]
     omega
    have aeV:IntKind.i64.wrap (x:Int)=(x:Int):=by
     simp[IntKind.wrap,IntKind.bits,IntKind.signed]
     omega
    have nZ:0<=(x:Int):=O
    go_region_held_law (fun w'=>w'.cell? (D R 1 Z)=U (S (U (D g o Z)) t.length tc)/\w'.cell? (D R 2 Z)=U (I J ((x:Int)+1))/\w'.cell? (D g (o+x*4) Z)=U (I J (vl t x).kind)/\w'.cell? (D g (o+x*4+1) Z)=U (Y (vl t x).text)/\w'.cell? (D g (o+x*4+2) Z)=U (I J (vl t x).alt)/\w'.cell? (D g (o+x*4+3) Z)=U (I J (vl t x).kids)) (first|exact BU.out|go_keep) (fail)
    all_goals
     rename_i hHeld
     clear hHeld
     generalize((((w3.setCell (D rb 0 Z) (I J (vl t x).kind)).setCell (D rb 1 Z) (Y (vl t x).text)).setCell (D rb 2 Z) (I J (vl t x).alt)).setCell (D rb 3 Z) (I J (vl t x).kids)).drew=w9 at gN jG tI ⊢
     obtain⟨r0,r1,r2,r3⟩:=fi tI.out
     go_wp2
     refine db (v:=Tu #[Ag #[I J (vl t x).kind,Y (vl t x).text,I J (vl t x).alt,I J (vl t x).kids],.nilIface]) (by simp[results,Tryz.results109,go_sem,r0,r1,r2,r3]) X ?_
     exact⟨jG.out,.inl ⟨gS,gJ,HFP.out,X,gN.out⟩⟩
  have QM:12<dp:=O;go_quiet (fail);have aS:=ax (aZ.out.below (Go.below_drewN (cm w1.heap.size w1) nq));have gQ:=ax (bc cJ.out (Go.below_drewN (cm w1.heap.size w1) nq));have dC:Hi (bx R w (w1.drewN nq)):=iE.out.trans (bx.of_below (Go.below_drewN By nq));generalize w1.drewN nq=w2 at aS gQ dC ⊢;clear k0 k1 k2 k3 e1 e2;obtain⟨tv,aG,_⟩:=aS.out.own;unfold gj at aG;obtain⟨-,d1,d2, -, -, -⟩:=oq aG;have LF:w2.frozen? (D R 2 Z)=false:=Fz aG;have hz:=gQ.out;obtain⟨z0,z1,z2,z3⟩:=fi hz;have J4:w2.frozen? (D rb 0 Z)=false:=Fz hz;have J5:w2.frozen? (D rb 1 Z)=false:=Fz hz;have J6:w2.frozen? (D rb 2 Z)=false:=Fz hz;have J7:w2.frozen? (D rb 3 Z)=false:=Fz hz;clear aG hz;have cT:=(HL.out.below aS.out.bel).s.cTree;have dZ:=bp cT;simp only at dZ;have bS:Hi (∀wq,Cs Tryz.prog 60 #[I J x,If 291 (Po (U (sn .Tree)))] wq fun e w'=>e=Rt (be x (sn .Tree))/\w'=wq):=fun wq=>pj x _ wq;unfold be at bS;have wR:R≠rb:=fun q=>yO q.symm;have I0:=bp HL.out.s.cTree;simp only at I0;have JF:9≠rb:=by have:=m9.out.2;omega
  have kp:∀j,j≠rb->((((w2.setCell (D rb 0 Z) (I J 0)).setCell (D rb 1 Z) (Y ⟨#[]⟩)).setCell (D rb 2 Z) (I J 0)).setCell (D rb 3 Z) (I J 0)).drew.heap[j]? =w2.heap[j]? :=fun j hj=>by show((((w2.setCell (D rb 0 Z) (I J 0)).setCell (D rb 1 Z) (Y ⟨#[]⟩)).setCell (D rb 2 Z) (I J 0)).setCell (D rb 3 Z) (I J 0)).heap[j]? =_;rw[ez _ _ _ _ hj,ez _ _ _ _ hj,ez _ _ _ _ hj,ez _ _ _ _ hj]
  have BU:=ax (And.intro ((ox (a:=D R 2 Z) (kp R wR)).trans d2) ((ox (a:=D 9 0 Z) (kp _ JF)).trans cT));clear kp;obtain⟨rA,rB,tZ⟩:=aS.out.new4 gQ.out Dc m9.out.2 yO dC.out m9.out.1 (I J 0) (Y ⟨#[]⟩) (I J 0) (I J 0);have gN:=ax (rA.below (By).drew);have jG:=ax (rB.trans (bx.of_below (By).drew));have tI:Hi (((((w2.setCell (D rb 0 Z) (I J 0)).setCell (D rb 1 Z) (Y ⟨#[]⟩)).setCell (D rb 2 Z) (I J 0)).setCell (D rb 3 Z) (I J 0)).drew.heap[rb]? =U (C #[I J 0,Y ⟨#[]⟩,I J 0,I J 0] 60 (0,0))):=tZ;clear rA rB tZ;go_wp2_with fail;go_region_held_law (fun w'=>w'.cell? (D R 2 Z)=U (I J (x:Int))/\w'.cell? (D 9 0 Z)=U (If 291 (Po (U (sn .Tree))))) (first|exact BU.out|go_keep) ((go_at_call 60;refine(bS.out _).mono ?_;rintro e w3 ⟨rfl,rfl⟩));all_goals rename_i hHeld;clear hHeld;generalize((((w2.setCell (D rb 0 Z) (I J 0)).setCell (D rb 1 Z) (Y ⟨#[]⟩)).setCell (D rb 2 Z) (I J 0)).setCell (D rb 3 Z) (I J 0)).drew=w9 at gN jG tI ⊢;obtain⟨r0,r1,r2,r3⟩:=fi tI.out;go_wp2;refine db (v:=Tu #[Ag #[I J 0,Y ⟨#[]⟩,I J 0,I J 0],be x (sn .Tree)]) (by simp[results,Tryz.results109,go_sem,be,r0,r1,r2,r3]) X ?_;exact⟨jG.out,.inr ⟨fun h=>O,X,gN.out⟩⟩
 obtain rfl:x=t.length:=O;go_quiet (fail);have aS:=ax (aZ.out.below (Go.below_drewN (cm w1.heap.size w1) nq));have gQ:=ax (bc cJ.out (Go.below_drewN (cm w1.heap.size w1) nq));have dC:Hi (bx R w (w1.drewN nq)):=iE.out.trans (bx.of_below (Go.below_drewN By nq));generalize w1.drewN nq=w2 at aS gQ dC ⊢;clear k0 k1 k2 k3 e1 e2;obtain⟨tv,aG,_⟩:=aS.out.own;unfold gj at aG;obtain⟨-,d1,d2, -, -, -⟩:=oq aG;have LF:w2.frozen? (D R 2 Z)=false:=Fz aG;have hz:=gQ.out;obtain⟨z0,z1,z2,z3⟩:=fi hz;have J4:w2.frozen? (D rb 0 Z)=false:=Fz hz;have J5:w2.frozen? (D rb 1 Z)=false:=Fz hz;have J6:w2.frozen? (D rb 2 Z)=false:=Fz hz;have J7:w2.frozen? (D rb 3 Z)=false:=Fz hz;clear aG hz;have cT:=(HL.out.below aS.out.bel).s.cTree;have dZ:=bp cT;simp only at dZ;have bS:Hi (∀wq,Cs Tryz.prog 60 #[I J (t.length:Int),If 291 (Po (U (sn .Tree)))] wq fun e w'=>e=Rt (be t.length (sn .Tree))/\w'=wq):=fun wq=>pj t.length _ wq;unfold be at bS;have wR:R≠rb:=fun q=>yO q.symm;have I0:=bp HL.out.s.cTree;simp only at I0;have JF:9≠rb:=by have:=m9.out.2;omega
 have kp:∀j,j≠rb->((((w2.setCell (D rb 0 Z) (I J 0)).setCell (D rb 1 Z) (Y ⟨#[]⟩)).setCell (D rb 2 Z) (I J 0)).setCell (D rb 3 Z) (I J 0)).drew.heap[j]? =w2.heap[j]? :=fun j hj=>by show((((w2.setCell (D rb 0 Z) (I J 0)).setCell (D rb 1 Z) (Y ⟨#[]⟩)).setCell (D rb 2 Z) (I J 0)).setCell (D rb 3 Z) (I J 0)).heap[j]? =_;rw[ez _ _ _ _ hj,ez _ _ _ _ hj,ez _ _ _ _ hj,ez _ _ _ _ hj]
 have BU:=ax (And.intro ((ox (a:=D R 2 Z) (kp R wR)).trans d2) ((ox (a:=D 9 0 Z) (kp _ JF)).trans cT));clear kp;obtain⟨rA,rB,tZ⟩:=aS.out.new4 gQ.out Dc m9.out.2 yO dC.out m9.out.1 (I J 0) (Y ⟨#[]⟩) (I J 0) (I J 0);have gN:=ax (rA.below (By).drew);have jG:=ax (rB.trans (bx.of_below (By).drew));have tI:Hi (((((w2.setCell (D rb 0 Z) (I J 0)).setCell (D rb 1 Z) (Y ⟨#[]⟩)).setCell (D rb 2 Z) (I J 0)).setCell (D rb 3 Z) (I J 0)).drew.heap[rb]? =U (C #[I J 0,Y ⟨#[]⟩,I J 0,I J 0] 60 (0,0))):=tZ;clear rA rB tZ;go_wp2_with fail;go_region_held_law (fun w'=>w'.cell? (D R 2 Z)=U (I J (t.length:Int))/\w'.cell? (D 9 0 Z)=U (If 291 (Po (U (sn .Tree))))) (first|exact BU.out|go_keep) ((go_at_call 60;refine(bS.out _).mono ?_;rintro e w3 ⟨rfl,rfl⟩));all_goals rename_i hHeld;clear hHeld;generalize((((w2.setCell (D rb 0 Z) (I J 0)).setCell (D rb 1 Z) (Y ⟨#[]⟩)).setCell (D rb 2 Z) (I J 0)).setCell (D rb 3 Z) (I J 0)).drew=w9 at gN jG tI ⊢;obtain⟨r0,r1,r2,r3⟩:=fi tI.out;go_wp2;refine db (v:=Tu #[Ag #[I J 0,Y ⟨#[]⟩,I J 0,I J 0],be t.length (sn .Tree)]) (by simp[results,Tryz.results109,go_sem,be,r0,r1,r2,r3]) X ?_;exact⟨jG.out,.inr ⟨fun h=>O,X,gN.out⟩⟩
end
section
open Go.Proofs.Tryz
open Go.RowKit
structure nw(R:Nat)(w w':M):Prop where
 size:w.heap.size<=w'.heap.size
 stay:∀(k:Nat) (o:Obj),k≠R->(∀A,o≠C A 5 (0,0))->w.heap[k]? =U o->w'.heap[k]? =U o
theorem nw.refl(R:Nat)(w:M):nw R w w:=⟨Ln,fun _ _ _ _ h=>h⟩
theorem nw.trans(h:nw R w w1)(k:nw R w1 w2):nw R w w2:=⟨fw h.size k.size,fun j o hj ho hg=>k.stay j o hj ho (h.stay j o hj ho hg)⟩
theorem nw.of_below(h:Bw w w'):nw R w w':=⟨h.size,fun _ _ _ _ hg=>bc hg h⟩
theorem nw.set(i:Nat)(u:Vv):nw R w (w.setCell (D R i Z) u):=⟨by simp[World.setCell],fun j o hj _ hg=>by rw[ez _ _ _ _ hj];exact hg⟩
theorem nw.fr(h:nw R w w'):bx R w w':=fun k A T hk hT hg=>h.stay k _ hk (fun B q=>hT (by injection q)) hg
theorem acI(t:Q):(bcells t).length=t.size:=by
 unfold bcells;rw[ou];exact ri
theorem acH(t tx:Q)(hp:p<=t.size):(bcells t).take p++bcells tx++(bcells t).drop p=bcells (qv t p tx):=by
 unfold bcells qv;rw[<-List.map_take,<-List.map_drop,<-Ci,<-Ci];congr 1;rw[Ce,Ce,Am,Am,Lib.extract_data,Lib.extract_data];rw[Aw,Rr,ye (l:=List.drop p t.data.toList) (by rw[ug];exact Ln)]
theorem Ti(t:Q):∀v∈bcells t,v.oneCell'=true:=by
 intro v hv;unfold bcells at hv;obtain⟨b,_,rfl⟩:=List.mem_map.1 hv;rfl
theorem aic(tx:Q)(c:Nat):(bytesRow tx c).toList.take tx.size=bcells tx:=by
 unfold bytesRow bcells;rw[Am,Array.toList_map];exact El (by rw[ou];exact ri)
theorem ey.setLong{n:Nat}(h:ey W w R a n c ta tn tc x told lg ov)(l:Bool):ey W (w.setCell (D R 4 Z) (Bo l)) R a n c ta tn tc x told l ov:=by obtain⟨tv,h1,h2⟩:=h.own;exact⟨h.bel.setCell (p:=D R 4 Z) h.lo _,h.lo,tv,iw w R 4 _ _ _ h1,dk h2 (fg h1 h2 Dc) _⟩
theorem ey.setOrder{n:Nat}(h:ey W w R a n c ta tn tc x told lg ov)(ZR:Vv):ey W (w.setCell (D R 5 Z) ZR) R a n c ta tn tc x told lg ZR:=by obtain⟨tv,h1,h2⟩:=h.own;exact⟨h.bel.setCell (p:=D R 5 Z) h.lo _,h.lo,tv,iw w R 5 _ _ _ h1,dk h2 (fg h1 h2 Dc) _⟩
theorem adK{n:Nat}{tv:Vv}(hb:Bw W w)(lo:W.heap.size<=R)(hg:w.heap[R]? =U (gj a n c ta tn tc x tv lg ov)){v':Vv}(ho:w.ownsRow W.heap.size 5 1 v' told.size (bcells told)):
 ey W (w.setCell (D R 3 Z) v') R a n c ta tn tc x told lg ov:=
 ⟨hb.setCell (p:=D R 3 Z) lo _,lo,v',iw w R 3 _ _ _ hg,dk ho (fg hg ho Dc) _⟩
theorem tj{B:Nat}{v:Vv}{n:Nat}{xs:Ls Vv}(h:w.ownsRow B 5 1 v n xs):∃bs cp,v=S bs n cp/\n<=cp/\cp<=9223372036854775807/\(bs=Z\/∃g,bs=U (D g 0 Z)):=by
 rcases h.2 with⟨rfl,h0⟩|⟨g,cp,aB,rfl,_,_,h1,h2,_⟩;·exact⟨Z,0,by rw[h0],O,O,.inl X⟩
 exact⟨_,_,X,h1,by unfold maxLen at h2;omega,.inr ⟨g,X⟩⟩
theorem afg(bs:Oo Ad)(n cp i vb vc:Nat)(w:M)(qA:bs=Z\/∃g,bs=U (D g 0 Z))(hi:i<=n)(hn:n<=cp)(i6:cp<=9223372036854775807)(h0:bs=Z->n=0/\cp=0):Cs prog 182 #[S bs n cp,I J i,S (U (D vb 0 Z)) 0 vc] w fun e w'=>e=Rt (S bs n cp)/\w'=w:=by
 go_enter func182,ntmps182;rcases qA with rfl|⟨g,rfl⟩;·obtain⟨rfl,rfl⟩:=h0 X;obtain rfl:i=0:=O;go_wp2;go_ret;exact⟨X,X⟩
 have h1:(i:Int)<=(n:Int):=O;by_cases h2:cp=i;all_goals go_wp2;go_ret;exact⟨X,X⟩
def Dy(W:M)(R:Nat)(a:Oo Ad)(m c:Nat)(ta:Oo Ad)(tn tc x:Nat)(told:Q)(lg:Bool)(ov:Vv)(p:Nat)(tx:Q)(w:M)(e:Ending)(w':M):Prop:=
 e=Rt (Tu #[])/\nw R w w'/\∃ZV ZO,Hr told lg p tx ZV ZO/\ey W w' R a m c ta tn tc x ZV ZO ov
theorem On(W w:M)(R:Nat)(a:Oo Ad)(m c:Nat)(ta:Oo Ad)(tn tc x:Nat)(told:Q)(lg:Bool)(ov:Vv)(p:Nat)(tx:Q)(hp:p<=told.size)(h4:told.size<=4000)(vL:tx.size<=140737488355328)(hI:ey W w R a m c ta tn tc x told lg ov):Cs prog 149 #[Po (U (D R 0 Z)),I J p,Y tx] w fun e w'=>Dy W R a m c ta tn tc x told lg ov p tx w e w':=by
 have HI:=ax hI;obtain⟨tv,aG,gB⟩:=hI.own;obtain⟨bs,cp,rfl,j6,eU,qA⟩:=tj gB;have HG:=ax aG;have HR:=ax gB;unfold gj at aG;obtain⟨-, -, -,c3,c4, -⟩:=oq aG;have f4:w.frozen? (D R 4 Z)=false:=Fz aG;clear aG gB
 cases lg with
 |true=>
  clear hI
  go_enter func149,ntmps149
  go_wp2
  go_returns
  exact⟨X,nw.set _ _,told,true,.inl ⟨.inl X,X,X⟩,HI.setLong _⟩
 |false=>
  clear hI
  by_cases hz:told.size+tx.size<=4000
  ·have AY:decide ((4000:Int)-(told.size:Int)<(tx.size:Int))=false:=br O
   have rT:¬((4000:Int)-(told.size:Int)<(tx.size:Int)):=O
   obtain⟨oA,ad7⟩:∃oA,grownCap w tx.size 0 5=oA:=Ey
   have yE:=run_bytes_of_string (P:=prog) w 9 52 5 tx underlying9 underlying52 underlying5
   rw[ad7]at yE
   have hBR:tx.size<=(bytesRow tx oA).size:=by
    unfold bytesRow
    rw[Array.size_append,Array.size_map]
    exact Nat.le_add_right _ _
   obtain⟨w1,lE⟩:∃w1,w.drew.alloc (C (bytesRow tx oA) 5 ((bytesRow tx oA).size,(bytesRow tx oA).size+1))=w1:=Ey
   have bA:Bw w w1:=by rw[<-lE];exact(By).drew.alloc Ln _
   have wT:w1.heap[w.heap.size]? =U (C (bytesRow tx oA) 5 ((bytesRow tx oA).size,(bytesRow tx oA).size+1)):=by rw[<-lE];exact bl w.drew _
   rw[lE]at yE
   have aC:=ax bA
   have jB:=bA.size
   have jX:W.heap.size<=w1.heap.size:=by have:=HI.out.bel.size;omega
   have cF:=ax (fm HR bA)
   have j4:Hi (∀v2 w2 (t2:Q),t2=qv told p tx->w2.ownsRow W.heap.size 5 1 v2 t2.size (bcells t2)->H W.heap.size w1 w2->(∀(k:Nat) (o:Obj),(∀A,o≠C A 5 (0,0))->w1.heap[k]? =U o->w2.heap[k]? =U o)->
    w2.cell? ⟨R,3,Z⟩=U (S bs told.size cp)/\w2.frozen? ⟨R,3,Z⟩=false/\R<w2.heap.size/\Dy W R a m c ta tn tc x told false ov p tx w (Rt (Tu #[])) (w2.setCell ⟨R,3,Z⟩ v2)):=fun v2 w2 t2 e1 h1 h2 h3=>by
    have AC:=h3 R _ (fun A q=>by injection q with _ q _;revert q;decide) (bc HG aC)
    have f9:=AC
    unfold gj at f9
    refine⟨by simp[Wc,f9],by simp[Wf,f9],eb AC,X,?_,t2,false,.inr ⟨X,hz,e1,X⟩,adK ((Tm HI.bel aC).trans h2) HI.lo AC h1⟩
    exact(nw.of_below aC).trans ((⟨h2.size,fun k o _ ho hk=>h3 k o ho hk⟩:nw R w1 w2).trans (nw.set _ _))
   by_cases h0:tx.size=0
   ·have N4:Hi (Cs prog 182 #[S bs told.size cp,I J p,S (U (D w.heap.size 0 Z)) tx.size oA] w1 fun e w'=>∃v2,e=Rt v2/\w'.ownsRow W.heap.size 5 1 v2 (qv told p tx).size (bcells (qv told p tx))/\H W.heap.size w1 w'/\∀(k:Nat) (o:Obj),(∀A,o≠C A 5 (0,0))->w1.heap[k]? =U o->w'.heap[k]? =U o):=by
     rw[h0]
     refine(afg bs told.size cp p w.heap.size oA w1 qA hp j6 eU (fun q=>?_)).mono ?_
     ·subst q
      rcases HR.2 with⟨h,h'⟩|⟨g,_,_,h,_⟩
      ·injection h with _ _ h;exact⟨h',h⟩
      ·injection h with h;cases h
     ·rintro e w' ⟨rfl,rfl⟩
      have e1:qv told p tx=told:=by
       have hn:tx=az:=by
        apply je
        exact aab h0
       unfold qv
       rw[hn,Il]
       apply je
       apply Array.toList_inj.1
       rw[Ce,Am,Lib.extract_data,Lib.extract_data,Aw,Rr,ye (l:=List.drop p told.data.toList) (by rw[ug];exact Ln),List.take_append_drop]
      rw[e1]
      exact⟨_,X,cF,By,fun _ _ _ h=>h⟩
    clear wT bA jB jX lE qA h0
    go_enter func149,ntmps149
    go_wp2_with fail
    refine N4.mono ?_
    rintro e w2 ⟨v2,rfl,oR,hb2,lY⟩
    obtain⟨d3,q3,pW,hA⟩:=j4 v2 w2 _ X oR hb2 lY
    obtain⟨K9,qY,rfl,_,_,_⟩:=tj oR
    have HA:=ax hA
    clear oR hb2 lY hA
    go_wp2
    go_returns
    exact HA
   ·have N4:Hi (Cs prog 182 #[S bs told.size cp,I J p,S (U (D w.heap.size 0 Z)) tx.size oA] w1 fun e w'=>∃v2,e=Rt v2/\w'.ownsRow W.heap.size 5 1 v2 (qv told p tx).size (bcells (qv told p tx))/\H W.heap.size w1 w'/\∀(k:Nat) (o:Obj),(∀A,o≠C A 5 (0,0))->w1.heap[k]? =U o->w'.heap[k]? =U o):=by
     rw[Jc tx hp,<-acH told tx hp]
     exact afb W.heap.size _ told.size p w.heap.size tx.size oA (bcells told) (bcells tx) (bytesRow tx oA) _ w1 cF hp O O jX wT (by show 0<(bytesRow tx oA).size;omega) (aic tx oA) (acI tx) (Ti told) (Ti tx)
    clear wT bA jB jX lE qA h0
    go_enter func149,ntmps149
    go_wp2_with fail
    refine N4.mono ?_
    rintro e w2 ⟨v2,rfl,oR,hb2,lY⟩
    obtain⟨d3,q3,pW,hA⟩:=j4 v2 w2 _ X oR hb2 lY
    obtain⟨K9,qY,rfl,_,_,_⟩:=tj oR
    have HA:=ax hA
    clear oR hb2 lY hA
    go_wp2
    go_returns
    exact HA
  ·have AY:decide ((4000:Int)-(told.size:Int)<(tx.size:Int))=true:=ch O
   have rT:(4000:Int)-(told.size:Int)<(tx.size:Int):=O
   go_enter func149,ntmps149
   go_wp2
   go_returns
   exact⟨X,nw.set _ _,told,true,.inl ⟨.inr O,X,X⟩,HI.setLong _⟩
end
section
theorem ai9{E:de}{rec:ow}{m:Nat}{cl nu:Int}(hok:∀k t,E.ok k t=true↔bu k t)(hv:v.kind=n.kind)(h:¬jt n v):jc E rec m n cl nu v x dp=U Z:=by
 unfold jt at h;have h':=fun q=>h ⟨hv,q⟩;clear h;unfold jc;by_cases bU:n.kind=13;·rw[ba bU]at h' ⊢;rw[G h']
 rw[G bU]at h' ⊢;by_cases gR:n.kind=14;·rw[ba gR]at h' ⊢;rw[G h']
 rw[G gR]at h' ⊢;by_cases bG:n.kind=10;·rw[ba bG]at h' ⊢;rw[G h']
 rw[G bG]at h' ⊢;by_cases fC:10<=n.kind/\n.kind<=12;·rw[ba fC]at h' ⊢;rw[G h']
 rw[G fC]at h' ⊢;rw[G (by rw[hok];exact h')]
theorem ajq{E:de}(hok:∀k t,E.ok k t=true↔bu k t)(h:¬(x<E.t.length/\dp<=12/\jt (nd E.s i) (vl E.t x))):wrF E (f+1) i x dp=U Z:=by
 rw[wrF];split;·rename_i q;rw[ai9 hok q.2.1 (fun hf=>h ⟨q.1,q.2.2,hf⟩)];rfl
 rfl
theorem ajr{E:de}(h1:x<E.t.length)(h2:dp<=12)(h3:jt (nd E.s i) (vl E.t x)):wrF E (f+1) i x dp=cy.andThen (jc E (wrF E f) f (nd E.s i) (fo (nd E.s i)) (fq (nd E.s i)) (vl E.t x) (x+1) dp) fun b x' u=>U (U (if(nd E.s i).mode=1 then cf 2 true (nd E.s i).tag b else b,x',u)):=by rw[wrF,ba ⟨h1,h3.1,h2⟩]
theorem Hh(h:ee s)(hi:i<s.length):0<=fo (nd s i)/\fo (nd s i)<=3/\0<=fq (nd s i)/\fq (nd s i)<=30:=by
 have hk:=qx h.2.2.1 i hi;have ht:=(yx h.2.2.1 i hi).2.1;unfold fo fq;split;·rename_i q;omega
 refine⟨Dc,Dc,?_⟩;unfold own0;split;·omega
 obtain⟨k,gX⟩:∃k,(nd s i).kind=k:=Ey;rw[gX]at hk ⊢;obtain rfl|rfl|rfl|rfl|rfl|rfl|rfl|rfl|rfl|rfl|rfl|rfl:k=1\/k=2\/k=3\/k=4\/k=5\/k=6\/k=7\/k=8\/k=9\/k=10\/k=11\/k=12:=O;all_goals decide
def Fy(n:Nd)(t:Q):Q:=if n.mode=1 then cf 2 true n.tag (cf (fo n) false (fq n) t)else cf (fo n) false (fq n) t
theorem Hj(h:n.kind<=12):(fo n,fq n)=n.ownT:=by
 unfold fo fq Nd.ownT own0;by_cases q:n.mode=0/\0<=n.tag;·rw[ba ⟨q.2,q.1⟩,ba ⟨q.2,q.1⟩,ba q]
 rw[G (fun z=>q ⟨z.2,z.1⟩),G (fun z=>q ⟨z.2,z.1⟩),G q,G O]
theorem Qd{c:Int}{b:Bool}{n:Int}{fs:Ls (Int×Int×Bool)}(q1:0<=c)(q2:c<=3)(q3:0<=n)(q4:n<=30)(ht:t.size<=16777215):ku ((c,n,b)::fs) (cf c b n t)=ku fs t:=by
 have h:=aeo c b n t q1 q2 q3 q4 ht;have hz:=Bd c b n t;show(if _ then _ else Z)=_;rw[h];rw[ba ⟨X,X,by simp only;omega⟩];simp only;rw[adB]
theorem Gx{f:Int×Int×Bool}{fs:Ls (Int×Int×Bool)}(h:ku (f::fs) d=U u):∃d',d=cf f.1 f.2.2 f.2.1 d'/\ku fs d'=U u/\d'.size<=16777215:=by
 obtain⟨⟨h1,h2,h3⟩,h4⟩:=Qc.1 h;obtain⟨e,_,_,_,_,e2,e3⟩:=Oe h1 h3;refine⟨_,?_,h4,O⟩;rw[<-h2];exact e
theorem Uv{c c':Int}{b b':Bool}{n n':Int}{s:Q}(h:(cf c b n s).size=(cf c' b' n' t).size):s.size=t.size:=by
 have h1:=Bd c b n s;have h2:=Bd c' b' n' t;rcases cnt_cases s.size with q|q|q|q<;>rcases cnt_cases t.size with q'|q'|q'|q'<;>omega
theorem Wi(hr:ee s)(hi:i<s.length)(hk:(nd s i).kind<=9)(hu:iv (nd s i) d u):Fy (nd s i) t=d↔t=u:=by
 obtain⟨bQ,_,lU,jN,gW,lV,lW⟩:=pw hr hi;obtain⟨b1,b2,b3,b4⟩:=Hh hr hi;have hw:=Hj (n:=nd s i) O;generalize nd s i=N at*;have vJ:N.mode=0\/N.mode=1:=O;have JN:N.tag<0->N.mode=0:=fun q=>gW O;have fF:ku N.lays d=U u:=((uv JN vJ).1 hu).1;have hl:N.lays=if N.mode=1 then [(2,N.tag,true),(fo N,fq N,false)]else [(fo N,fq N,false)]:=by unfold Nd.lays;rw[<-hw]
 rw[hl]at fF;unfold Fy;by_cases hm:N.mode=1
 ·have fX:0<=N.tag:=by
   by_cases q:N.tag<0;(·have:=JN q;omega);omega
  rw[ba hm]at fF ⊢;constructor;·rintro rfl;obtain⟨d1,e1,_,z1⟩:=Gx fF;have z2:=Uv (kr ByteArray.size e1);have z3:=Bd (fo N) false (fq N) t;have z4:=cnt_cases t.size;rw[Qd Dc Dc fX O O,Qd b1 b2 b3 b4 O]at fF;injection fF
  rintro rfl;obtain⟨d1,e1,h1,_⟩:=Gx fF;obtain⟨d2,e2,h2,_⟩:=Gx h1;injection h2 with h2;rw[e1,e2,h2]
 rw[G hm]at fF ⊢;constructor;·rintro rfl;obtain⟨d1,e1,_,z1⟩:=Gx fF;have z2:=Uv (kr ByteArray.size e1);rw[Qd b1 b2 b3 b4 O]at fF;injection fF
 rintro rfl;obtain⟨d2,e2,h2,_⟩:=Gx fF;injection h2 with h2;rw[e2,h2]
theorem Dx{E:de}(bQ:1<=(nd E.s i).kind)(cY:(nd E.s i).kind<=9):wrF E (f+1) i x dp=if(x<E.t.length/\(vl E.t x).kind=(nd E.s i).kind/\dp<=12)/\E.ok (nd E.s i).kind (vl E.t x).text=true/\(vl E.t x).alt=0/\(vl E.t x).kids=0 then U (U (Fy (nd E.s i) (vl E.t x).text,x+1,false))else U Z:=by
 rw[wrF];by_cases q:x<E.t.length/\(vl E.t x).kind=(nd E.s i).kind/\dp<=12
 ·rw[ba q];unfold jc;rw[G O,G O,G O,G O];by_cases q2:E.ok (nd E.s i).kind (vl E.t x).text=true/\(vl E.t x).alt=0/\(vl E.t x).kids=0;·rw[ba q2,ba ⟨q,q2⟩];rfl
  rw[G q2,G (fun z=>q2 z.2)];rfl
 rw[G q,G (fun z=>q z.1)]
theorem ajp{E:de}{b:Q}{x':Nat}{u:Bool}(h:wrF E f i x dp=U (U (b,x',u))):dp<=12:=by
 match f with
 |0=>cases h
 |f+1=>
  rw[wrF]at h
  split at h
  ·rename_i q;exact q.2.2
  ·cases h
def LO(E:de)(k:Kd)(x:Nat):Prop:=x<E.t.length/\((k.opt=true/\vl E.t x=⟨15,az,0,0⟩)\/(k.dflt.size≠0/\∃u,iv (nd E.s k.node.toNat) k.dflt u/\vl E.t x=⟨(nd E.s k.node.toNat).kind,u,0,0⟩))
theorem Wa(hk:k∈n.kids):∃j,j<n.kids.length/\kd n j=k:=by
 obtain⟨j,hj,e⟩:=zk hk;refine⟨j,hj,?_⟩;unfold kd;rw[dy,dz hj,Ru,e]
theorem Jt(h:t.size=0):t=az:=by
 apply je;have:t.data.size=0:=h;exact aab this
theorem ajz{E:de}{ks:Ls Kd}{out:Q}{u:Bool}{r:cy}(hr:ee E.s)(hok:∀k t,E.ok k t=true↔bu k t)(hi:i<E.s.length)(hk:k∈(nd E.s i).kids)(hf:1<=f)(e:dx E (wrF E f) dp (k::ks) x out u=U r):(LO E k x/\dx E (wrF E f) dp ks (x+1) out u=U r)\/(¬LO E k x/\∀r1,wrF E f k.node.toNat x (dp+1)=U r1->(r1=Z/\r=Z)\/∃b x' u',r1=U (b,x',u')/\dx E (wrF E f) dp ks x' (out++b) (u||u')=U r):=by
 obtain⟨f,rfl⟩:∃g,f=g+1:=⟨f-1,O⟩;obtain⟨j,hj,AE⟩:=Wa hk;have D8:=(hr.2.2.1 i hi).2.2.2 j hj;have xV:=(hr.2.2.2.2 i hi).2 j hj;rw[AE]at D8 xV;obtain⟨fA,nH,_,MO⟩:=D8;have ht:k.node.toNat<E.s.length:=O;obtain⟨bQ,lD,_⟩:=pw hr ht;unfold dx at e;by_cases q:k.opt=true/\x<E.t.length/\(vl E.t x).kind=15
 ·rw[ba q]at e;have IX:¬k.dflt.size≠0:=fun z=>MO ⟨q.1,z⟩;by_cases q2:(vl E.t x).text.size=0/\(vl E.t x).alt=0/\(vl E.t x).kids=0;·rw[ba q2]at e;refine .inl ⟨⟨q.2.1,.inl ⟨q.1,?_⟩⟩,e⟩;have h1:=q.2.2;have h2:=Jt q2.1;have h3:=q2.2.1;have h4:=q2.2.2;generalize vl E.t x=v at*;obtain⟨a,b,c,d⟩:=v;simp only at h1 h2 h3 h4;subst h1 h2 h3 h4;rfl
  rw[G q2]at e;refine .inr ⟨?_,fun r1 h1=> .inl ⟨?_,?_⟩⟩
  ·rintro⟨_,⟨_,h⟩|⟨h,_⟩⟩;(·rw[h]at q2;exact q2 ⟨X,X,X⟩);exact IX h
  ·rw[wrF,G (fun z=>by have:=z.2.1;omega)]at h1;injection h1 with h1;exact h1.symm
  injection e with e;exact e.symm
 rw[G q]at e;by_cases hd:k.dflt.size=0
 ·rw[ba hd]at e;refine .inr ⟨?_,fun r1 h1=>?_⟩
  ·rintro⟨h0,⟨h,h'⟩|⟨h,_⟩⟩;(·exact q ⟨h,h0,by rw[h']⟩);exact h hd
  rcases qn e with⟨h2,h3⟩|⟨b,x',u',h2,h3⟩;·rw[h2]at h1;injection h1 with h1;exact .inl ⟨h1.symm,h3⟩
  have gJ:=ajp h2;rw[h2]at h1;injection h1 with h1;rw[G (fun z=>z.1 hd),G O]at h3;exact .inr ⟨b,x',u',h1.symm,h3⟩
 rw[G hd]at e;obtain⟨cY,y,hy⟩:(nd E.s k.node.toNat).kind<=9/\∃u,iv (nd E.s k.node.toNat) k.dflt u:=by
  rcases xV with h|h;·exact Ab h hd
  exact h
 have jA:¬k.opt=true:=fun z=>MO ⟨z,hd⟩;rw[Dx bQ cY]at e;by_cases q3:(x<E.t.length/\(vl E.t x).kind=(nd E.s k.node.toNat).kind/\(1:Int)<=12)/\E.ok (nd E.s k.node.toNat).kind (vl E.t x).text=true/\(vl E.t x).alt=0/\(vl E.t x).kids=0
 ·rw[ba q3]at e;unfold cy.andThen at e;simp only at e;have C0:=Wi hr ht cY (t:=(vl E.t x).text) hy;by_cases q4:Fy (nd E.s k.node.toNat) (vl E.t x).text=k.dflt;·rw[ba ⟨hd,q4⟩,Cc]at e;refine .inl ⟨⟨q3.1.1,.inr ⟨hd,y,hy,?_⟩⟩,e⟩;have h1:=q3.1.2.1;have h2:=C0.1 q4;have h3:=q3.2.2.1;have h4:=q3.2.2.2;generalize vl E.t x=v at*;obtain⟨a,b,c,d⟩:=v;simp only at h1 h2 h3 h4;subst h1 h2 h3 h4;rfl
  rw[G (fun z=>q4 z.2)]at e;refine .inr ⟨?_,fun r1 h1=>?_⟩
  ·rintro⟨h0,⟨h,_⟩|⟨_,y',vN,h'⟩⟩;(·exact jA h);have:=Dg vN hy;subst this;exact q4 (C0.2 (by rw[h']))
  rw[Dx bQ cY]at h1;by_cases gJ:12<dp+1;·rw[ba gJ]at e;rw[G (fun z=>by have:=z.1.2.2;omega)]at h1;injection h1 with h1;injection e with e;exact .inl ⟨h1.symm,e.symm⟩
  rw[G gJ]at e;rw[ba ⟨⟨q3.1.1,q3.1.2.1,O⟩,q3.2⟩]at h1;injection h1 with h1;exact .inr ⟨_,_,_,h1.symm,e⟩
 rw[G q3]at e;refine .inr ⟨?_,fun r1 h1=> .inl ⟨?_,?_⟩⟩
 ·rintro⟨h0,⟨h,_⟩|⟨_,y',vN,h'⟩⟩;·exact jA h
  have QK:bu (nd E.s k.node.toNat).kind y':=by obtain⟨_,_,lU,jN,gW,lV,lW⟩:=pw hr ht;exact((uv (fun z=>gW O) O).1 vN).2
  exact q3 ⟨⟨h0,by rw[h'],Dc⟩,by rw[h'];exact(hok _ _).2 QK,by rw[h'],by rw[h']⟩
 ·rw[Dx bQ cY,G (fun z=>q3 ⟨⟨z.1.1,z.1.2.1,Dc⟩,z.2⟩)]at h1;injection h1 with h1;exact h1.symm
 injection e with e;exact e.symm
end
section
open Go.Proofs.Tryz
open Go.RowKit
def eo(sn:Sn->Ad):Oo Int->Vv
 |none=> .nilIface
 |some p=>be p (sn .Order)
structure Sz(t:Ls Vl):Prop where
 len:t.length<=16777000
 txt:∀j,j<t.length->(vl t j).text.size<=140737488355328
theorem Sz.of_pz{t:Ls Vl}(h:pz t t.length<=16777000):Sz t:=by
 refine⟨by unfold pz at h;omega,fun j hj=>?_⟩;have h1:=Ah hj;have h2:=ja (t:=t) (x:=j+1) (y:=t.length) hj Ln;omega
structure WCP(E:de)(W:M)(a ta:Oo Ad):Prop where
 sch:ew W a E.s
 right:ee E.s
 sok:ky E.s
 ok:∀k t,E.ok k t=true↔bu k t
 tree:qb W ta E.t
 size:Sz E.t
 kids:∀j,j<E.t.length->(vl E.t j).kids<=9223372036854775807
structure EC(E:de)(W:M)(a ta:Oo Ad)(sn:Sn->Ad):Prop where
 wc:WCP E W a ta
 lay:gy W sn
theorem EC.txt{E:de}(h:EC E W a ta sn)(hj:j<E.t.length):(vl E.t j).text.size<=140737488355328:=h.wc.size.txt j hj
theorem EC.len{E:de}(h:EC E W a ta sn):E.t.length<=16777000:=h.wc.size.len
def oe(E:de)(W:M)(R:Nat)(a:Oo Ad)(c:Nat)(ta:Oo Ad)(tc:Nat)(sn:Sn->Ad)(r:cy)(t0:Q)(l0:Bool)(o0:Oo Int)(w:M)(e:Ending)(w':M):Prop:=
 bx R w w'/\((∃b x u t1 l1 o1,r=U (b,x,u)/\e=Rt .nilIface/\kg t0 l0 o0 b u t1 l1 o1/\ey W w' R a E.s.length c ta E.t.length tc x t1 l1 (eo sn o1))\/
  (r=Z/\∃(p:Int) (x:Nat) (t1:Q) (l1:Bool) (ov:Vv),e=Rt (be p (sn .Tree))/\ey W w' R a E.s.length c ta E.t.length tc x t1 l1 ov))
theorem oe.of{E:de}{r:cy}{l0:Bool}{o0:Oo Int}{e:Ending}(h:oe E W R a c ta tc sn r t0 l0 o0 w1 e w')(hf:bx R w w1):oe E W R a c ta tc sn r t0 l0 o0 w e w':=⟨hf.trans h.1,h.2⟩
def uL(E:de)(W:M)(R:Nat)(a:Oo Ad)(c:Nat)(ta:Oo Ad)(tc:Nat)(sn:Sn->Ad)(f:Nat):Prop:=
 ∀(i x:Nat) (dp:Int) (r:cy) (t0:Q) (l0:Bool) (o0:Oo Int) (w:M),wrF E f i x dp=U r->i<E.s.length->x<=E.t.length->E.t.length+1<=f+x->1<=f->1<=dp->dp<=13->t0.size<=4000->
  ey W w R a E.s.length c ta E.t.length tc x t0 l0 (eo sn o0)->
  Cs prog 75 #[Po (U (D R 0 Z)),I J i,I J dp] w fun e w'=>oe E W R a c ta tc sn r t0 l0 o0 w e w'
def Qs(E:de)(W:M)(R:Nat)(a:Oo Ad)(c:Nat)(ta:Oo Ad)(tc:Nat)(k:Kd)(x:Nat)(t1:Q)(l1:Bool)(ov:Vv)(w:M)(e:Ending)(w':M):Prop:=
 bx R w w'/\((LO E k x/\e=Rt (Bo true)/\ey W w' R a E.s.length c ta E.t.length tc (x+1) t1 l1 ov)\/(¬LO E k x/\e=Rt (Bo false)/\ey W w' R a E.s.length c ta E.t.length tc x t1 l1 ov))
theorem af9(E:de)(W:M)(R:Nat)(a:Oo Ad)(c:Nat)(ta:Oo Ad)(tc:Nat)(sn:Sn->Ad)(hc:EC E W a ta sn)(dX:E.t.length<=tc)(i:Nat)(hi:i<E.s.length)(k:Kd)(hk:k∈(nd E.s i).kids)(x:Nat)(t1:Q)(l1:Bool)(ov:Vv)(w:M)(hx:x<=E.t.length)(hI:ey W w R a E.s.length c ta E.t.length tc x t1 l1 ov):Cs prog 183 #[Po (U (D R 0 Z)),Ag #[I J k.node,Bo k.opt,Y k.dflt]] w fun e w'=>Qs E W R a c ta tc k x t1 l1 ov w e w':=by
 have HC:=ax hc;have HI:=ax hI;have bP:=hc.len;have FA:=hc.wc.right.fine.within i hi k hk;obtain⟨j,hj,AE⟩:=Wa hk;have D8:=(hc.wc.right.2.2.1 i hi).2.2.2 j hj;have xV:=(hc.wc.right.2.2.2.2 i hi).2 j hj;rw[AE]at D8 xV;obtain⟨t,ht⟩:∃t:Nat,k.node=t:=⟨k.node.toNat,O⟩;have gC:k.node.toNat=t:=O;have bC:t<E.s.length:=O;rw[gC]at xV;have MO:=D8.2.2.2;have R2:=hc.wc.sok i hi k hk;have mO:Hi (LO E k x↔x<E.t.length/\((k.opt=true/\vl E.t x=⟨15,az,0,0⟩)\/(k.dflt.size≠0/\∃u,iv (nd E.s t) k.dflt u/\vl E.t x=⟨(nd E.s t).kind,u,0,0⟩))):=by unfold LO;rw[gC];exact zi
 obtain⟨tv,aG,_⟩:=hI.own;unfold gj at aG;rw[ht];have bA:=(cm _ w).alloc Ln (C #[I J t,Bo k.opt,Y k.dflt] 55);have bF:=bl w (C #[I J t,Bo k.opt,Y k.dflt] 55);clear hI aG hc FA hj AE D8 hk gC ht;go_enter func183,ntmps183;go_upto_region 1 with fail;obtain⟨kb,EJ⟩:∃kb,w.heap.size=kb:=Ey;rw[EJ]at bF ⊢;generalize w.alloc _=w1 at bA bF ⊢;have aC:=ax bA;have aV:=ax bF;have aZ:=ax (HI.below bA);obtain⟨tv,aG,_⟩:=aZ.out.own;unfold gj at aG;obtain⟨-,d1,d2, -, -, -⟩:=oq aG;have gL:x<E.t.length\/x=E.t.length:=O;clear bA bF aG;rcases gL with gS|gS
 ·have FB:(x:Int)<(E.t.length:Int):=O;have gL:((x:Int)==(E.t.length:Int))=false:=So;go_quiet (fail);have aS:=ax (aZ.below (Go.below_drewN (cm w1.heap.size w1) nq));have cJ:=ax (bc aV (Go.below_drewN (cm w1.heap.size w1) nq));have aD:Hi _:=Go.below_drewN aC nq;generalize w1.drewN nq=w2 at aS cJ aD ⊢;clear d1 d2;obtain⟨g,o,iJ,p0,p1,p2,p3⟩:=HC.wc.tree x gS;have fE:=aS.out.bel;have m0:=Cb fE p0;have m1:=Cb fE p1;have m2:=Cb fE p2;have m3:=Cb fE p3;have wO:=bp m0;simp only at wO;obtain⟨tv,aG,_⟩:=aS.out.own;unfold gj at aG;have d1:w2.cell? (D R 1 Z)=U (S (U (D g o Z)) E.t.length tc):=by rw[<-iJ];simp[Wc,aG]
  have d2:w2.cell? (D R 2 Z)=U (I J (x:Int)):=by simp[Wc,aG]
  obtain⟨v,hv⟩:∃v,vl E.t x=v:=Ey;have HV:=ax hv;rw[hv]at m0 m1 m2 m3;have nZ:0<=(x:Int):=O;clear aG fE p0 p1 p2 p3 hv iJ;go_wp2_with fail;have fH:Hi (∀wq,Bw w2 wq->wq.cell? (D R 1 Z)=U (S (U (D g o Z)) E.t.length tc)/\wq.cell? (D R 2 Z)=U (I J (x:Int))/\wq.cell? (D g (o+x*4) Z)=U (I J v.kind)/\wq.cell? (D g (o+x*4+1) Z)=U (Y v.text)/\wq.cell? (D g (o+x*4+2) Z)=U (I J v.alt)/\wq.cell? (D g (o+x*4+3) Z)=U (I J v.kids)):=fun wq q=>⟨Cb q d1,Cb q d2,Cb q m0,Cb q m1,Cb q m2,Cb q m3⟩;go_region_held_law (fun w'=>w'.cell? (D R 1 Z)=U (S (U (D g o Z)) E.t.length tc)/\w'.cell? (D R 2 Z)=U (I J (x:Int))/\w'.cell? (D g (o+x*4) Z)=U (I J v.kind)/\w'.cell? (D g (o+x*4+1) Z)=U (Y v.text)/\w'.cell? (D g (o+x*4+2) Z)=U (I J v.alt)/\w'.cell? (D g (o+x*4+3) Z)=U (I J v.kids)) (first|exact fH _ (By).drew |exact fH _ ((By).drew.alloc Sq _)|go_keep) (fail);rename_i hHeld;clear hHeld;have oJ:Bw w2 (w2.alloc (C #[I J v.kind,Y v.text,I J v.alt,I J v.kids] 60)).drew:=(Be).drew;have gV:(w2.alloc (C #[I J v.kind,Y v.text,I J v.alt,I J v.kids] 60)).drew.heap[w2.heap.size]? =U (C #[I J v.kind,Y v.text,I J v.alt,I J v.kids] 60 (0,0)):=bl w2 _;obtain⟨vb,eD⟩:∃vb,w2.heap.size=vb:=Ey;rw[eD]at gV ⊢;generalize(w2.alloc _).drew=w3 at oJ gV ⊢;have cH:=ax (aS.below oJ);have pO:Hi _:=Tm aD oJ;have nG:=bc cJ oJ;obtain⟨e1,e2,e3⟩:=pt nG;obtain⟨v0,v1,v2,v3⟩:=fi gV;obtain⟨tv3,RI,_⟩:=cH.out.own;unfold gj at RI;have e0:w3.cell? (D R 0 Z)=U (S a E.s.length c):=by simp[Wc,RI]
  have oP:=bp e0;simp only at oP;have hwx:IntKind.i64.wrap ((x:Int)+1)=(x:Int)+1:=by rw[su];omega
  clear oJ gV eD nG RI d1 d2 m0 m1 m2 m3 wO fH aS cJ aD;go_wp2_with fail;by_cases ES:k.opt=true
  ·(have IX:k.dflt.size=0:=by apply zg;intro q;exact MO ⟨ES,q⟩);rw[ES]at e2;have CN:=jr IX;have bM:Hi (vl E.t x≠⟨15,az,0,0⟩->¬LO E k x):=fun q z=>by
    rcases(mO.1 z).2 with h|h;(·exact q h.2);exact h.1 IX
   clear IX;by_cases q1:v.kind=15
   ·rw[q1]at v0;by_cases q2:v.text.size=0
    ·rw[Jt q2]at v1;unfold az at v1;by_cases q3:v.alt=0
     ·rw[q3]at v2;by_cases q4:v.kids=0;(·rw[q4]at v3;(have cR:v=⟨15,az,0,0⟩:=by obtain⟨va,DA,vc,vd⟩:=v;simp only at q1 q2 q3 q4;rw[q1,Jt q2,q3,q4]);have lT:=ax cR;clear cR q1 q2 q3 q4;have lK:Hi _:=mO.2 ⟨gS,.inl ⟨ES,HV.trans lT⟩⟩;go_quiet (fail);clear e0 e1 e2 e3 v0 v1 v2 v3;have bE:=ax (cH.below (Go.below_drewN By nq));have gE:Hi _:=Go.below_drewN pO nq;generalize w3.drewN nq=w4 at bE gE ⊢;obtain⟨J1,iU,_⟩:=bE.out.own;unfold gj at iU;(have n2:w4.cell? (D R 2 Z)=U (I J (x:Int)):=by simp[Wc,iU]);have f2:w4.frozen? (D R 2 Z)=false:=Fz iU;clear iU;go_wp2;go_ret;exact⟨(bx.of_below gE).trans (bx.set 2 _),.inl ⟨lK,X,bE.setNext (x+1)⟩⟩);(have SA:(v.kids==0)=false:=by simpa using q4);have Q4:=ax q4;clear q1 q2 q3 q4;have lK:Hi _:=bM (fun z=>Q4 (by rw[<-HV,z]));go_quiet (fail);clear e0 e1 e2 e3 v0 v1 v2 v3;have bE:=ax (cH.below (Go.below_drewN By nq));have gE:Hi _:=Go.below_drewN pO nq;generalize w3.drewN nq=w4 at bE gE ⊢;go_wp2;go_ret;exact⟨bx.of_below gE,.inr ⟨lK,X,bE⟩⟩
     (have A3:(v.alt==0)=false:=by simpa using q3);have Q3:=ax q3;clear q1 q2 q3;have lK:Hi _:=bM (fun z=>Q3 (by rw[<-HV,z]));go_quiet (fail);clear e0 e1 e2 e3 v0 v1 v2 v3;have bE:=ax (cH.below (Go.below_drewN By nq));have gE:Hi _:=Go.below_drewN pO nq;generalize w3.drewN nq=w4 at bE gE ⊢;go_wp2;go_ret;exact⟨bx.of_below gE,.inr ⟨lK,X,bE⟩⟩
    have yW:=gw (t:=v.text) O;have Q2:=ax q2;clear q1 q2;have lK:Hi _:=bM (fun z=>Q2 (by rw[<-HV,z];rfl));go_quiet (fail);clear e0 e1 e2 e3 v0 v1 v2 v3;have bE:=ax (cH.below (Go.below_drewN By nq));have gE:Hi _:=Go.below_drewN pO nq;generalize w3.drewN nq=w4 at bE gE ⊢;go_wp2;go_ret;exact⟨bx.of_below gE,.inr ⟨lK,X,bE⟩⟩
   (have ZT:(v.kind==15)=false:=by simpa using q1);have Q1:=ax q1;clear q1;have lK:Hi _:=bM (fun z=>Q1 (by rw[<-HV,z]));go_quiet (fail);clear e0 e1 e2 e3 v0 v1 v2 v3;have bE:=ax (cH.below (Go.below_drewN By nq));have gE:Hi _:=Go.below_drewN pO nq;generalize w3.drewN nq=w4 at bE gE ⊢;go_wp2;go_ret;exact⟨bx.of_below gE,.inr ⟨lK,X,bE⟩⟩
  have aeH:k.opt=false:=by simpa using ES
  rw[aeH]at e2;by_cases hd:k.dflt.size=0;·have CN:=jr hd;have lK:Hi _:=(fun z=>by rcases(mO.1 z).2 with h|h;exact ES h.1;exact h.1 hd);go_quiet (fail);clear e0 e1 e2 e3 v0 v1 v2 v3;have bE:=ax (cH.below (Go.below_drewN By nq));have gE:Hi _:=Go.below_drewN pO nq;generalize w3.drewN nq=w4 at bE gE ⊢;go_wp2;go_ret;exact⟨bx.of_below gE,.inr ⟨lK,X,bE⟩⟩
  have CN:=gw (t:=k.dflt) O;obtain⟨cY,u,hu⟩:(nd E.s t).kind<=9/\∃u,iv (nd E.s t) k.dflt u:=by
   rcases xV with h|h;(·exact Ab h hd);exact h
  have oV:Hi _:=fun wq q=>Us E.s a c t false k.dflt u wq sn (HC.lay.below q) (HC.wc.sch.below q) HC.wc.right bC cY hu O;have HU:=ax hu;have bM:Hi (vl E.t x≠⟨(nd E.s t).kind,u,0,0⟩->¬LO E k x):=fun q z=>by
   rcases(mO.1 z).2 with h|⟨_,u',RW,h⟩;(·exact ES h.1);rw[Dg RW HU.out]at h;exact q h
  obtain⟨KK,D7⟩:∃KK,(nd E.s t).kind=KK:=Ey;have xC:=ax D7;rw[D7]at oV bM;clear D7 hu cY;have fH:Hi (∀wq,Bw w3 wq->wq.cell? (D R 0 Z)=U (S a E.s.length c)/\wq.cell? (D kb 0 Z)=U (I J t)/\wq.cell? (D kb 1 Z)=U (Bo false)/\wq.cell? (D kb 2 Z)=U (Y k.dflt)/\wq.cell? (D vb 0 Z)=U (I J v.kind)/\wq.cell? (D vb 1 Z)=U (Y v.text)/\wq.cell? (D vb 2 Z)=U (I J v.alt)/\wq.cell? (D vb 3 Z)=U (I J v.kids)):=fun wq q=>⟨Cb q e0,Cb q e1,Cb q e2,Cb q e3,Cb q v0,Cb q v1,Cb q v2,Cb q v3⟩;refine wp_region_held_drew (S:=(fun w'=>w'.cell? (D R 0 Z)=U (S a E.s.length c)/\w'.cell? (D kb 0 Z)=U (I J t)/\w'.cell? (D kb 1 Z)=U (Bo false)/\w'.cell? (D kb 2 Z)=U (Y k.dflt)/\w'.cell? (D vb 0 Z)=U (I J v.kind)/\w'.cell? (D vb 1 Z)=U (Y v.text)/\w'.cell? (D vb 2 Z)=U (I J v.alt)/\w'.cell? (D vb 3 Z)=U (I J v.kids))) Kr (fH _ (By).drew) (fun hHeld=>?_);refine tk 0 ?_;try simp only[Ap,jk,jj,ji,cq,ct,cr]
  refine tk 1 ?_;try simp only[Ap,jk,jj,ji,cq,ct,cr]
  refine tk 2 ?_;try simp only[Ap,jk,jj,ji,cq,ct,cr]
  refine Qf 3 ?_;try simp only[Ap,jk,jj,ji,cq,ct,cr]
  refine Qf 4 ?_;try simp only[Ap,jk,jj,ji,cq,ct,cr]
  refine Qf 5 ?_;try simp only[Ap,jk,jj,ji,cq,ct,cr]
  refine tk 6 ?_;try simp only[Ap,jk,jj,ji,cq,ct,cr]
  refine tk 7 ?_;try simp only[Ap,jk,jj,ji,cq,ct,cr]
  refine tk 8 ?_;try simp only[Ap,jk,jj,ji,cq,ct,cr]
  refine tk 9 ?_;try simp only[Ap,jk,jj,ji,cq,ct,cr]
  refine tk 10 ?_;try simp only[Ap,jk,jj,ji,cq,ct,cr]
  refine tk 11 ?_;try simp only[Ap,jk,jj,ji,cq,ct,cr]
  refine tk 12 ?_;try simp only[Ap,jk,jj,ji,cq,ct,cr]
  refine tk 13 ?_;try simp only[Ap,jk,jj,ji,cq,ct,cr]
  refine tk 14 ?_;try simp only[Ap,jk,jj,ji,cq,ct,cr]
  refine tk 15 ?_;try simp only[Ap,jk,jj,ji,cq,ct,cr]
  refine tk 16 ?_;try simp only[Ap,jk,jj,ji,cq,ct,cr]
  refine tk 17 ?_;try simp only[Ap,jk,jj,ji,cq,ct,cr]
  refine wpAnyH_ready (rs:=[18]) Kr Sq ?_;refine AllReadyH.cons X (fun K hK=>?_) AllReadyH.nil;go_simp;go_wp2_with (go_at_call 202;refine(oV _ cH.bel.drew).mono ?_;rintro e w4 ⟨rfl,hb4⟩;have aJ:Hi (Bw w3 w4):=(cm w3.heap.size w3).drew.trans hb4;clear hb4);refine hK.out _ _ (fH _ aJ) (fun hHeld2=>?_);clear hK K hHeld;try simp only[Ap,jk,jj,ji,cq,ct,cr]
  by_cases q1:v.kind=KK
  ·have Q1:=ax q1;by_cases q2:v.text=u
   ·have Q2:=ax q2;by_cases q3:v.alt=0
    ·have Q3:=ax q3;by_cases q4:v.kids=0;(·have Q4:=ax q4;have lK:Hi _:=mO.out.2 ⟨gS,.inr ⟨hd,u,HU.out,by rw[HV.out,xC.out,<-Q1.out,<-Q2.out];obtain⟨va,DA,vc,vd⟩:=v;have h3:=Q3.out;have h4:=Q4.out;simp only at h3 h4;rw[h3,h4]⟩⟩;refine tk 19 ?_;(try simp only[Ap,jk,jj,ji,cq,ct,cr]);refine tk 20 ?_;(try simp only[Ap,jk,jj,ji,cq,ct,cr]);refine tk 21 ?_;(try simp only[Ap,jk,jj,ji,cq,ct,cr]);refine wpAnyH_done Kr ?_ _;clear hHeld2 fH e0 e1 e2 e3 v0 v1 v2 v3;have bE:=ax (cH.below aJ);have gE:Hi _:=Tm pO aJ;obtain⟨J1,iU,_⟩:=bE.out.own;unfold gj at iU;(have n2:w4.cell? (D R 2 Z)=U (I J (x:Int)):=by simp[Wc,iU]);have f2:w4.frozen? (D R 2 Z)=false:=Fz iU;clear iU;go_wp2;go_ret;exact⟨(bx.of_below gE).trans (bx.set 2 _),.inl ⟨lK,X,bE.setNext (x+1)⟩⟩);(have SA:(v.kids==0)=false:=by simpa using q4);have Q4:=ax q4;have lK:Hi _:=bM (fun z=>Q4 (by rw[<-HV,z]));refine tk 19 ?_;(try simp only[Ap,jk,jj,ji,cq,ct,cr]);refine tk 20 ?_;(try simp only[Ap,jk,jj,ji,cq,ct,cr]);refine tk 21 ?_;(try simp only[Ap,jk,jj,ji,cq,ct,cr]);refine wpAnyH_done Kr ?_ _;clear hHeld2 fH e0 e1 e2 e3 v0 v1 v2 v3;have bE:=ax (cH.below aJ);have gE:Hi _:=Tm pO aJ;go_wp2;go_ret;exact⟨bx.of_below gE,.inr ⟨lK,X,bE⟩⟩
    (have A3:(v.alt==0)=false:=by simpa using q3);have Q3:=ax q3;have lK:Hi _:=bM (fun z=>Q3 (by rw[<-HV,z]));refine tk 19 ?_;(try simp only[Ap,jk,jj,ji,cq,ct,cr]);refine tk 20 ?_;(try simp only[Ap,jk,jj,ji,cq,ct,cr]);refine tk 21 ?_;(try simp only[Ap,jk,jj,ji,cq,ct,cr]);refine wpAnyH_done Kr ?_ _;clear hHeld2 fH e0 e1 e2 e3 v0 v1 v2 v3;have bE:=ax (cH.below aJ);have gE:Hi _:=Tm pO aJ;go_wp2;go_ret;exact⟨bx.of_below gE,.inr ⟨lK,X,bE⟩⟩
   (have yW:(v.text.toList==u.toList)=false:=by rw[lf];intro z;apply q2;apply je;apply Array.toList_inj.1;rw[<-Lib.toList_data,<-Lib.toList_data];exact z);have Q2:=ax q2;have lK:Hi _:=bM (fun z=>Q2 (by rw[<-HV,z]));refine tk 19 ?_;(try simp only[Ap,jk,jj,ji,cq,ct,cr]);refine tk 20 ?_;(try simp only[Ap,jk,jj,ji,cq,ct,cr]);refine tk 21 ?_;(try simp only[Ap,jk,jj,ji,cq,ct,cr]);refine wpAnyH_done Kr ?_ _;clear hHeld2 fH e0 e1 e2 e3 v0 v1 v2 v3;have bE:=ax (cH.below aJ);have gE:Hi _:=Tm pO aJ;go_wp2;go_ret;exact⟨bx.of_below gE,.inr ⟨lK,X,bE⟩⟩
  have ZT:(v.kind==KK)=false:=by simpa using q1
  have Q1:=ax q1;have lK:Hi _:=bM (fun z=>Q1 (by rw[<-HV,z]));refine tk 19 ?_;try simp only[Ap,jk,jj,ji,cq,ct,cr]
  refine tk 20 ?_;try simp only[Ap,jk,jj,ji,cq,ct,cr]
  refine tk 21 ?_;try simp only[Ap,jk,jj,ji,cq,ct,cr]
  refine wpAnyH_done Kr ?_ _;clear hHeld2 fH e0 e1 e2 e3 v0 v1 v2 v3;have bE:=ax (cH.below aJ);have gE:Hi _:=Tm pO aJ;go_wp2;go_ret;exact⟨bx.of_below gE,.inr ⟨lK,X,bE⟩⟩
 subst gS;have bM:Hi (¬LO E k E.t.length):=fun q=>by have:=q.1;omega
 go_quiet (fail);have aS:=ax (aZ.below (Go.below_drewN (cm w1.heap.size w1) nq));have aD:Hi _:=Go.below_drewN aC nq;generalize w1.drewN nq=w2 at aS aD ⊢;clear d1 d2;go_wp2;go_ret;exact⟨bx.of_below aD,.inr ⟨bM,X,aS⟩⟩
theorem acG(t:Q){x:UInt8}(h:t.data.toList[j]? =U x):(bcells t)[j]? =U (I .u8 (x.toNat:Int)):=by
 unfold bcells;rw[Ch,h];rfl
theorem Tr(hg:w.heap[g]? =U (C aB 5 (0,0)))(hc:aB.toList.take t.size=bcells t)(hqp:q<=p)(hp:p<=t.size)(c:Nat):xr w (S (U (D g q Z)) (p-q) c) ((t.data.toList.drop q).take (p-q)):=by
 have hl:t.data.toList.length=t.size:=ri;refine .inr ⟨D g q Z,c,?_,fun j x hj=>?_⟩;·rw[Ax,ug,hl,Ia O]
 rw[Hw]at hj;split at hj;·rename_i aA;rw[zj]at hj;have h1:=acG t hj;rw[<-hc,sh O]at h1;rw[Bz];simp[Wc,hg];simpa using h1
 cases hj
theorem acT(hg:w.heap[g]? =U (C aB 5 (0,0)))(hc:aB.toList.take t.size=bcells t)(hp:p<=t.size)(c:Nat):xr w (S (U (D g p Z)) (t.size-p) c) (t.data.toList.drop p):=by
 have hl:t.data.toList.length=t.size:=ri;have h:=Tr hg hc hp Ln c;rw[ye (by rw[ug,hl];exact Ln)]at h;exact h
theorem acM{rV last b:Q}(hq:q=t0.size+rV.size)(hp:p=q+last.size):Op.bytesLess (((t0++(rV++last))++b).data.toList.drop p) ((((t0++(rV++last))++b).data.toList.drop q).take (p-q))=jo b last:=by
 unfold jo;have h0:t0.data.toList.length=t0.size:=ri;have h1:rV.data.toList.length=rV.size:=ri;have h2:last.data.toList.length=last.size:=ri;have e:((t0++(rV++last))++b).data.toList=(t0.data.toList++rV.data.toList)++(last.data.toList++b.data.toList):=Sq;rw[e,Lib.toList_data,Lib.toList_data];have e1:((t0.data.toList++rV.data.toList)++(last.data.toList++b.data.toList)).drop q=last.data.toList++b.data.toList:=Rk (by rw[ff];omega);have e2:((t0.data.toList++rV.data.toList)++(last.data.toList++b.data.toList)).drop p=b.data.toList:=by rw[hp,<-List.drop_drop,e1];exact Rk O
 rw[e1,e2];congr 1;exact El O
def Rc(E:de)(W:M)(R:Nat)(a:Oo Ad)(c:Nat)(ta:Oo Ad)(tc f:Nat)(sn:Sn->Ad)(set:Bool)(i:Nat)(dp kids:Int)(r:cy)(x0:Nat)(t0:Q)(l0:Bool)(o0:Oo Int)(w0:M)(vb vk:Vv)(wr:M):Prop:=
 ∃(k bf m x:Nat) (out last:Q) (u:Bool) (t1:Q) (l1:Bool) (o1:Oo Int),(k:Int)<=kids/\vk=I J k/\vb=I J bf/\jd E (wrF E f) set i dp m (kids-k) x out last u=U r/\x0<=x/\x<=E.t.length/\kg t0 l0 o0 out u t1 l1 o1/\bf<=t1.size/\(l1=false->∃rV,out=rV++last/\bf=t0.size+rV.size)/\
  ey W wr R a E.s.length c ta E.t.length tc x t1 l1 (eo sn o1)/\bx R w0 wr
theorem Ux(E:de)(W:M)(R:Nat)(a:Oo Ad)(c:Nat)(ta:Oo Ad)(tc f:Nat)(sn:Sn->Ad)(hc:EC E W a ta sn)(dX:E.t.length<=tc)(hN:uL E W R a c ta tc sn f)(dJ:1<=f)(i:Nat)(hi:i<E.s.length)(RH:(nd E.s i).kids.length=1)(ka:Oo Ad)(kc:Nat)(aK:bn W ka (nd E.s i).kids)(aL:(nd E.s i).kids.length<=kc)(dK:kc<=maxLen)(x0 m0:Nat)(kids dp:Int)(r:cy)(t0:Q)(l0:Bool)(o0:Oo Int)(w:M)(e:jd E (wrF E f) (decide ((nd E.s i).kind=12)) (kd (nd E.s i) 0).node.toNat (dp+1) m0 kids x0 az az false=U r)(fI:0<=kids)(ajV:kids<=9223372036854775807)(nZ:x0<=E.t.length)(mW:E.t.length+1<=f+x0)(cP:1<=dp)(dD:dp<=12)(h4:t0.size<=4000)(hI:ey W w R a E.s.length c ta E.t.length tc x0 t0 l0 (eo sn o0)):Cs prog 151 #[Po (U (D R 0 Z)),Ag #[I J (nd E.s i).kind,I J (nd E.s i).tag,I J (nd E.s i).mode,S ka (nd E.s i).kids.length kc],I J kids,I J dp] w fun e w'=>oe E W R a c ta tc sn r t0 l0 o0 w e w':=by
 have HC:=ax hc;have jI:=ax hN;have HE:=ax e;have FA:=hc.wc.right.fine.within i hi (kd (nd E.s i) 0) (ni O);obtain⟨t,ht⟩:∃t:Nat,(kd (nd E.s i) 0).node=t:=⟨(kd (nd E.s i) 0).node.toNat,O⟩;have bC:t<E.s.length:=O;have gC:(kd (nd E.s i) 0).node.toNat=t:=O;rw[gC]at HE;obtain⟨b,o,CV,aX⟩:=aK 0 O;obtain⟨sO,_,_⟩:=aX;have dR:((nd E.s i).kids.getD 0 fy).node=t:=ht;rw[dR]at sO;have KC0:=ax sO;rw[CV,RH];rw[RH]at aL;obtain⟨set,EZ⟩:∃set,decide ((nd E.s i).kind=12)=set:=Ey;rw[EZ]at HE;obtain⟨K,hK⟩:∃K,(nd E.s i).kind=K:=Ey;rw[hK]at EZ ⊢;have UL:=ax EZ;obtain⟨bs,cp,rH⟩:∃bs cp,∃mF,mF=Value.slice bs t0.size cp/\w.heap[R]? =U (gj a E.s.length c ta E.t.length tc x0 mF l0 (eo sn o0)):=by obtain⟨tv,h1,h2⟩:=hI.own;obtain⟨bs,cp,rfl,_⟩:=tj h2;exact⟨bs,cp,_,X,h1⟩
 obtain⟨_,rfl,aG⟩:=rH;have eS:=eb aG;generalize pA:(nd E.s i).tag=TG;generalize o9:(nd E.s i).mode=MD;have bA:=(cm _ w).alloc Ln (C #[I J K,I J TG,I J MD,S (U (D b o Z)) 1 kc] 58);have bF:=bl w (C #[I J K,I J TG,I J MD,S (U (D b o Z)) 1 kc] 58);have iW:=ax (hI.below bA);have f9:=bc aG bA;unfold gj at f9;have c3:(w.alloc (C #[I J K,I J TG,I J MD,S (U (D b o Z)) 1 kc] 58)).cell? (D R 3 Z)=U (S bs t0.size cp):=by simp[Wc,f9]
 clear hc hN hI aK e dX hi RH CV FA sO dR ht gC EZ hK dK aG pA o9 f9;go_enter func151,ntmps151;go_upto_region 1 with fail;obtain⟨nb,dH⟩:∃nb,w.heap.size=nb:=Ey;rw[dH]at bF ⊢;generalize w.alloc _=w1 at bA bF iW c3 ⊢;have lM:nb≠R:=O;have aC:=ax bA;have aV:=ax bF;clear bA bF dH;go_wp2_with fail;go_loopw [9,19] (fun vb vk wr=>Rc E W R a c ta tc f sn set t (dp+1) kids r x0 t0 l0 o0 w1 vb vk wr) (fun _ vk _=>(kids-Io vk).toNat);case atStart=>exact⟨0,t0.size,m0,x0,az,az,false,t0,l0,o0,O,X,X,by simpa using HE.out,Ln,nZ,kg.refl h4,Ln,fun _=>⟨az,(Il az).symm,X⟩,iW.out,fun _ _ _ _ _ h=>h⟩
 obtain⟨k,bf,m,x,out,last,u,t1,l1,o1,hk,rfl,rfl,hE,bR,aQ,hT,hbf,iR,IF,zS⟩:=hrel;have qN:=ax IF;have HT:=ax hT;have b7:=ax zS;have vT:=ax hE;have A8:=ax iR;clear IF hT zS hE iR c3;by_cases aA:(k:Int)<kids
 ·obtain⟨m,rfl⟩:∃m',m=m'+1:=by
   cases m with
   |zero=>have h:=vT.out;cases h
   |succ m=>exact⟨m,X⟩
  have fH:Hi (∀r1,wrF E f t x (dp+1)=U r1->(r1=Z/\r=Z)\/∃b' x' u',r1=U (b',x',u')/\jd E (wrF E f) set t (dp+1) m (kids-k-1) x' (out++b') b' (u||u'||(set&&jo b' last))=U r):=fun r1 h1=>by
   have h:=vT.out;unfold jd at h;rw[ba O]at h;rcases qn h with⟨h2,h3⟩|⟨b',x',u',h2,h3⟩;(·rw[h2]at h1;injection h1 with h1;exact .inl ⟨h1.symm,h3⟩);rw[h2]at h1;injection h1 with h1;exact .inr ⟨b',x',u',h1.symm,h3⟩
  obtain⟨tv,aG,gB⟩:=qN.out.own;obtain⟨bs1,cp1,rfl,_⟩:=tj gB;unfold gj at aG;have d3:wr.cell? (D R 3 Z)=U (S bs1 t1.size cp1):=by simp[Wc,aG]
  have d2:wr.cell? (D R 2 Z)=U (I J (x:Int)):=by simp[Wc,aG]
  have zW:R<wr.heap.size:=bp d3;clear aG gB;go_wp2_with fail;go_quiet (fail);have BE:=ax (qN.below (Go.below_drewN (cm wr.heap.size wr) nq));have s7:Hi (bx R w1 (wr.drewN nq)):=b7.trans (bx.of_below (Go.below_drewN By nq));generalize wr.drewN nq=w2 at BE s7 ⊢;obtain⟨r1,bW⟩:=Lc (E:=E) f t x (dp+1) O dJ;have jS:Hi (Cs prog 75 #[Po (U (D R 0 Z)),I J t,I J (dp+1)] w2 fun e w'=>oe E W R a c ta tc sn r1 t1 l1 o1 w2 e w'):=jI t x (dp+1) r1 t1 l1 o1 w2 bW bC aQ O dJ O O HT.mx BE;have cF:=ax bW;have sF:=s7 _ _ _ lM Dc aV;have n3:w2.cell? (D nb 3 Z)=U (S (U (D b o Z)) 1 kc):=bq sF X;have k0:w2.cell? (D b o Z)=U (I J t):=by have:=Cb BE.bel KC0;simpa using this
  have wP:=bp k0;simp only at wP;have ML:=bp n3;simp only at ML;have rR:IntKind.i64.wrap (dp+1)=dp+1:=by rw[su];omega
  clear d3 d2 zW bW sF;go_wp2_with fail;refine jS.mono ?_;rintro e w3 ⟨dF,⟨b',x',u',t2,l2,o2,hq,rfl,(jL:Hi _),nR⟩|⟨hq,p,x',t2,l2,ov,rfl,nR⟩⟩
  ·have iO:=ax nR;have dI:Hi (bx R w1 w3):=s7.trans dF;have nN:Hi (jd E (wrF E f) set t (dp+1) m (kids-k-1) x' (out++b') b' (u||u'||(set&&jo b' last))=U r/\x0<=x'/\x'<=E.t.length):=by
    have QA:=Hk f t x (dp+1) r1 cF b' x' u' hq;rcases fH r1 cF with h2|⟨b2,x2,u2,h2,h3⟩;(·rw[h2.1]at hq;cases hq);rw[hq]at h2;injection h2 with h2;injection h2 with e1 h2;injection h2 with e2 e3;subst e1 e2 e3;exact⟨h3,O,QA.2.1⟩
   have vZ:Hi (∀(o3:Oo Int) (wq:M),ey W wq R a E.s.length c ta E.t.length tc x' t2 l2 (eo sn o3)->bx R w1 wq->(l2=false->o3.isSome=(o2.isSome||(set&&jo b' last)))->Rc E W R a c ta tc f sn set t (dp+1) kids r x0 t0 l0 o0 w1 (I J t1.size) (I J ((k:Int)+1)) wq):=fun o3 wq h1 h2 h3=>by
    refine⟨k+1,t1.size,m,x',out++b',b',u||u'||(set&&jo b' last),t2,l2,o3,O,Sq,X,?_,nN.2.1,nN.2.2,(HT.trans jL).order h3,jL.le,fun q=>⟨out,X,?_⟩,h1,h2⟩;(·rw[show kids-((k+1:Nat):Int)=kids-k-1 by omega];exact nN.1);have i9:l1=false:=by
     cases hl:l1;(·rfl);rw[jL.mono hl]at q;cases q
    rw[HT.told i9,iq]
   have wZ:Hi (l2=false->Op.bytesLess (t2.data.toList.drop t1.size) ((t2.data.toList.drop bf).take (t1.size-bf))=jo b' last):=fun q=>by
    have i9:l1=false:=by
     cases hl:l1;(·rfl);rw[jL.mono hl]at q;cases q
    obtain⟨rV,e1,e2⟩:=A8 i9;have e3:=HT.told i9;rw[jL.told q,e3,e1];exact acM e2 (by rw[iq,iq];omega)
   obtain⟨tv,aG,gB⟩:=iO.out.own;obtain⟨K9,qY,rfl,QL,WX,ajR⟩:=tj gB;have DK:=ax gB;unfold gj at aG;obtain⟨-, -, -,g3, -,g5⟩:=oq aG;have sF:=dI _ _ _ lM Dc aV;have n0:w3.cell? (D nb 0 Z)=U (I J K):=bq sF X;have vG:=bp n0;simp only at vG;have YX:=jL.out.le;(have hwk:IntKind.i64.wrap ((k:Int)+1)=(k:Int)+1:=by rw[su];omega);clear dF nR hq n3 k0 wP ML aG gB sF;by_cases hK:K=12
   ·subst hK;(obtain rfl:set=true:=by rw[<-UL.out];rfl)
    cases o2 with
    |some p=>
     unfold eo be at g5
     go_wp2_with fail
     go_quiet (fail)
     have eG:=ax (iO.below (Go.below_drewN (cm w3.heap.size w3) nq))
     have cA:Hi (bx R w1 (w3.drewN nq)):=dI.trans (bx.of_below (Go.below_drewN By nq))
     generalize w3.drewN nq=w4 at eG cA ⊢
     clear g3 g5 n0 vG
     go_wp2
     go_roundw
     case rel=>exact vZ (U p) _ eG cA (fun _=>Sq)
     case measure=>(simp[Io];omega)
    |none=>
     unfold eo at g5
     obtain⟨z,hz⟩:∃z,Op.bytesLess (t2.data.toList.drop t1.size) ((t2.data.toList.drop bf).take (t1.size-bf))=z:=Ey
     have rT:=Wn (t2.data.toList.drop t1.size) ((t2.data.toList.drop bf).take (t1.size-bf))
     rw[hz]at rT
     have nB:Hi (∀o3:Oo Int,o3.isSome=z->(l2=false->o3.isSome=((Z:Oo Int).isSome||(true&&jo b' last)))):=fun o3 h q=>by
      rw[h,<-hz,wZ q];simp
     obtain⟨cz,kM⟩:∃cz,Lib.compareBytes (t2.data.toList.drop t1.size) ((t2.data.toList.drop bf).take (t1.size-bf))=cz:=Ey
     rw[kM]at rT
     obtain⟨va,DA,OO⟩:∃va DA:Vv,Hi ((∀wq:M,(∀x,wq.cell? x=w3.cell? x)->Cs prog 184 #[va,DA] wq fun e w'=>e=Rt (I J cz)/\w'=wq)/\
      ((K9=Z/\va=S Z 0 0/\DA=S Z 0 0/\t2.size=0/\qY=0)\/
       (∃g,K9=U ⟨g,0,Z⟩/\va=(if qY=t1.size then S (U ⟨g,0,Z⟩) (t2.size-t1.size) 0 else S (U ⟨g,t1.size,Z⟩) (t2.size-t1.size) (qY-t1.size))/\DA=(if qY=bf then S (U ⟨g,0,Z⟩) (t1.size-bf) (if qY=t1.size then t1.size-bf else qY-bf)else S (U ⟨g,bf,Z⟩) (t1.size-bf) (if qY=t1.size then t1.size-bf else qY-bf))))):=by
      have eZ:t2.data.toList.length=t2.size:=ri
      rcases DK.2 with⟨q,h0⟩|⟨g,cap,aB,q,_,hg,h1,_,_,zZ⟩
      ·injection q with q1 q2 q3
       refine⟨S Z 0 0,S Z 0 0,fun wq hq=>?_,.inl ⟨q1,X,X,h0,q3⟩⟩
       have e0:t2.data.toList=[]:=List.length_eq_zero_iff.1 O
       rw[e0]at kM
       simp only[List.drop_nil,List.take_nil]at kM
       rw[<-kM]
       exact Tj _ _ [] [] wq (.inl ⟨X,X⟩) (.inl ⟨X,X⟩)
      ·injection q with q1 q2 q3
       subst q3
       rw[Es]at zZ
       refine⟨_,_,fun wq hq=>?_,.inr ⟨g,q1,X,X⟩⟩
       have ZK:∀{v l},xr w3 v l->xr wq v l:=fun {v l} h=>by
        rcases h with h|⟨a',c',e',h⟩
        ·exact .inl h
        ·exact .inr ⟨a',c',e',fun j x hj=>(hq _).trans (h j x hj)⟩
       rw[<-kM]
       refine Tj _ _ _ _ wq (ZK ?_) (ZK ?_)
       ·split
        ·rename_i hc
         rw[Hv O,show t2.size-t1.size=0 by omega]
         exact .inr ⟨_,_,X,fun j x hj=>by simp at hj⟩
        ·exact acT hg zZ YX _
       ·split
        ·rename_i hc
         rw[show t1.size-bf=0 by omega,List.take_zero]
         exact .inr ⟨_,_,X,fun j x hj=>by simp at hj⟩
        ·exact Tr hg zZ hbf YX _
     have oB:Hi (∀n,Cs prog 184 #[va,DA] (w3.drewN n) fun e w'=>e=Rt (I J cz)/\w'=w3.drewN n):=fun n=>OO.1 _ (fun _=>Sq)
     have MC:(t1.size:Int)<=(t2.size:Int):=O
     have wL:(bf:Int)<=(t1.size:Int):=O
     have hsl:=OO.out.2
     have HZ:=ax rT
     have zG:=ax (And.intro hz kM)
     clear OO hz kM
     have PP:∀wq,Cs prog 60 #[I J x,If 291 (Po (U (sn .Order)))] wq fun e w'=>e=Rt (be x (sn .Order))/\w'=wq:=fun wq=>pj x _ wq
     unfold be at PP
     have bS:=ax PP
     clear PP
     rcases hsl with⟨rfl,rfl,rfl,h0,rfl⟩|⟨g,rfl,nY,eD⟩
     ·have cU:t1.size=0:=O
      have bO:bf=0:=O
      subst bO
      by_cases kM:cz<0
      ·have kL:decide (cz<0)=true:=ch kM
       have eK:Hi (∀o3:Oo Int,o3.isSome=true->(l2=false->o3.isSome=((Z:Oo Int).isSome||(true&&jo b' last)))):=fun o3 h=>nB o3 (by rw[h,<-HZ,kL])
       clear nB HZ zG wZ
       go_wp2_with fail
       go_quiet ((go_at_call 184;exact Calls.quiet_of_same (oB _)))
       have eG:=ax (iO.below (Go.below_drewN (cm w3.heap.size w3) nq))
       have cA:Hi (bx R w1 (w3.drewN nq)):=dI.trans (bx.of_below (Go.below_drewN By nq))
       generalize w3.drewN nq=w4 at eG cA ⊢
       clear g3 g5 n0 vG oB
       have cO:=(HC.lay.below eG.bel).s.cOrder
       have CR:=bp cO
       simp only at CR
       obtain⟨J1,iU,_⟩:=eG.out.own
       unfold gj at iU
       have f4:w4.frozen? (D R 5 Z)=false:=Fz iU
       have g4:w4.cell? (D R 5 Z)=U (eo sn Z):=by simp[Wc,iU]
       unfold eo at g4
       have wI:=lc g4
       clear iU
       go_wp2_with fail
       refine(bS _).mono ?_
       rintro e w5 ⟨rfl,rfl⟩
       go_wp2
       go_roundw
       case rel=>exact by have h:=vZ (U (x:Int)) _ (eG.setOrder (be x (sn .Order))) (cA.trans (bx.set 5 _)) (eK _ X);rw[cU]at h;exact h
       case measure=>(simp[Io];omega)
      ·have kL:decide (cz<0)=false:=br kM
       have BB:=ax kL
       have eK:Hi (l2=false->(Z:Oo Int).isSome=((Z:Oo Int).isSome||(true&&jo b' last))):=nB Z (by rw[<-HZ,kL];rfl)
       clear nB HZ zG wZ kM kL
       go_wp2_with fail
       go_quiet ((go_at_call 184;exact Calls.quiet_of_same (oB _)))
       have eG:=ax (iO.below (Go.below_drewN (cm w3.heap.size w3) nq))
       have cA:Hi (bx R w1 (w3.drewN nq)):=dI.trans (bx.of_below (Go.below_drewN By nq))
       generalize w3.drewN nq=w4 at eG cA ⊢
       clear g3 g5 n0 vG oB
       obtain rfl:z=false:=rT.symm.trans BB
       clear rT
       go_wp2
       go_roundw
       case rel=>exact by have h:=vZ Z _ eG cA eK;rw[cU]at h;exact h
       case measure=>(simp[Io];omega)
     ·by_cases j6:qY=t1.size
      ·rw[ba j6]at nY
       by_cases eU:qY=bf
       ·rw[ba eU,ba j6]at eD
        subst nY eD
        by_cases kM:cz<0
        ·have kL:decide (cz<0)=true:=ch kM
         have eK:Hi (∀o3:Oo Int,o3.isSome=true->(l2=false->o3.isSome=((Z:Oo Int).isSome||(true&&jo b' last)))):=fun o3 h=>nB o3 (by rw[h,<-HZ,kL])
         clear nB HZ zG wZ
         go_wp2_with fail
         go_quiet ((go_at_call 184;exact Calls.quiet_of_same (oB _)))
         have eG:=ax (iO.below (Go.below_drewN (cm w3.heap.size w3) nq))
         have cA:Hi (bx R w1 (w3.drewN nq)):=dI.trans (bx.of_below (Go.below_drewN By nq))
         generalize w3.drewN nq=w4 at eG cA ⊢
         clear g3 g5 n0 vG oB
         have cO:=(HC.lay.below eG.bel).s.cOrder
         have CR:=bp cO
         simp only at CR
         obtain⟨J1,iU,_⟩:=eG.out.own
         unfold gj at iU
         have f4:w4.frozen? (D R 5 Z)=false:=Fz iU
         have g4:w4.cell? (D R 5 Z)=U (eo sn Z):=by simp[Wc,iU]
         unfold eo at g4
         have wI:=lc g4
         clear iU
         go_wp2_with fail
         refine(bS _).mono ?_
         rintro e w5 ⟨rfl,rfl⟩
         go_wp2
         go_roundw
         case rel=>exact vZ (U (x:Int)) _ (eG.setOrder (be x (sn .Order))) (cA.trans (bx.set 5 _)) (eK _ X)
         case measure=>(simp[Io];omega)
        ·have kL:decide (cz<0)=false:=br kM
         have BB:=ax kL
         have eK:Hi (l2=false->(Z:Oo Int).isSome=((Z:Oo Int).isSome||(true&&jo b' last))):=nB Z (by rw[<-HZ,kL];rfl)
         clear nB HZ zG wZ kM kL
         go_wp2_with fail
         go_quiet ((go_at_call 184;exact Calls.quiet_of_same (oB _)))
         have eG:=ax (iO.below (Go.below_drewN (cm w3.heap.size w3) nq))
         have cA:Hi (bx R w1 (w3.drewN nq)):=dI.trans (bx.of_below (Go.below_drewN By nq))
         generalize w3.drewN nq=w4 at eG cA ⊢
         clear g3 g5 n0 vG oB
         obtain rfl:z=false:=rT.symm.trans BB
         clear rT
         go_wp2
         go_roundw
         case rel=>exact vZ Z _ eG cA eK
         case measure=>(simp[Io];omega)
       ·rw[G eU,ba j6]at eD
        subst nY eD
        by_cases kM:cz<0
        ·have kL:decide (cz<0)=true:=ch kM
         have eK:Hi (∀o3:Oo Int,o3.isSome=true->(l2=false->o3.isSome=((Z:Oo Int).isSome||(true&&jo b' last)))):=fun o3 h=>nB o3 (by rw[h,<-HZ,kL])
         clear nB HZ zG wZ
         go_wp2_with fail
         go_quiet ((go_at_call 184;exact Calls.quiet_of_same (oB _)))
         have eG:=ax (iO.below (Go.below_drewN (cm w3.heap.size w3) nq))
         have cA:Hi (bx R w1 (w3.drewN nq)):=dI.trans (bx.of_below (Go.below_drewN By nq))
         generalize w3.drewN nq=w4 at eG cA ⊢
         clear g3 g5 n0 vG oB
         have cO:=(HC.lay.below eG.bel).s.cOrder
         have CR:=bp cO
         simp only at CR
         obtain⟨J1,iU,_⟩:=eG.out.own
         unfold gj at iU
         have f4:w4.frozen? (D R 5 Z)=false:=Fz iU
         have g4:w4.cell? (D R 5 Z)=U (eo sn Z):=by simp[Wc,iU]
         unfold eo at g4
         have wI:=lc g4
         clear iU
         go_wp2_with fail
         refine(bS _).mono ?_
         rintro e w5 ⟨rfl,rfl⟩
         go_wp2
         go_roundw
         case rel=>exact vZ (U (x:Int)) _ (eG.setOrder (be x (sn .Order))) (cA.trans (bx.set 5 _)) (eK _ X)
         case measure=>(simp[Io];omega)
        ·have kL:decide (cz<0)=false:=br kM
         have BB:=ax kL
         have eK:Hi (l2=false->(Z:Oo Int).isSome=((Z:Oo Int).isSome||(true&&jo b' last))):=nB Z (by rw[<-HZ,kL];rfl)
         clear nB HZ zG wZ kM kL
         go_wp2_with fail
         go_quiet ((go_at_call 184;exact Calls.quiet_of_same (oB _)))
         have eG:=ax (iO.below (Go.below_drewN (cm w3.heap.size w3) nq))
         have cA:Hi (bx R w1 (w3.drewN nq)):=dI.trans (bx.of_below (Go.below_drewN By nq))
         generalize w3.drewN nq=w4 at eG cA ⊢
         clear g3 g5 n0 vG oB
         obtain rfl:z=false:=rT.symm.trans BB
         clear rT
         go_wp2
         go_roundw
         case rel=>exact vZ Z _ eG cA eK
         case measure=>(simp[Io];omega)
      ·have eU:¬qY=bf:=O
       rw[G j6]at nY
       rw[G eU,G j6]at eD
       subst nY eD
       by_cases kM:cz<0
       ·have kL:decide (cz<0)=true:=ch kM
        have eK:Hi (∀o3:Oo Int,o3.isSome=true->(l2=false->o3.isSome=((Z:Oo Int).isSome||(true&&jo b' last)))):=fun o3 h=>nB o3 (by rw[h,<-HZ,kL])
        clear nB HZ zG wZ
        go_wp2_with fail
        go_quiet ((go_at_call 184;exact Calls.quiet_of_same (oB _)))
        have eG:=ax (iO.below (Go.below_drewN (cm w3.heap.size w3) nq))
        have cA:Hi (bx R w1 (w3.drewN nq)):=dI.trans (bx.of_below (Go.below_drewN By nq))
        generalize w3.drewN nq=w4 at eG cA ⊢
        clear g3 g5 n0 vG oB
        have cO:=(HC.lay.below eG.bel).s.cOrder
        have CR:=bp cO
        simp only at CR
        obtain⟨J1,iU,_⟩:=eG.out.own
        unfold gj at iU
        have f4:w4.frozen? (D R 5 Z)=false:=Fz iU
        have g4:w4.cell? (D R 5 Z)=U (eo sn Z):=by simp[Wc,iU]
        unfold eo at g4
        have wI:=lc g4
        clear iU
        go_wp2_with fail
        refine(bS _).mono ?_
        rintro e w5 ⟨rfl,rfl⟩
        go_wp2
        go_roundw
        case rel=>exact vZ (U (x:Int)) _ (eG.setOrder (be x (sn .Order))) (cA.trans (bx.set 5 _)) (eK _ X)
        case measure=>(simp[Io];omega)
       ·have kL:decide (cz<0)=false:=br kM
        have BB:=ax kL
        have eK:Hi (l2=false->(Z:Oo Int).isSome=((Z:Oo Int).isSome||(true&&jo b' last))):=nB Z (by rw[<-HZ,kL];rfl)
        clear nB HZ zG wZ kM kL
        go_wp2_with fail
        go_quiet ((go_at_call 184;exact Calls.quiet_of_same (oB _)))
        have eG:=ax (iO.below (Go.below_drewN (cm w3.heap.size w3) nq))
        have cA:Hi (bx R w1 (w3.drewN nq)):=dI.trans (bx.of_below (Go.below_drewN By nq))
        generalize w3.drewN nq=w4 at eG cA ⊢
        clear g3 g5 n0 vG oB
        obtain rfl:z=false:=rT.symm.trans BB
        clear rT
        go_wp2
        go_roundw
        case rel=>exact vZ Z _ eG cA eK
        case measure=>(simp[Io];omega)
   (have V4:(K==12)=false:=by simpa using hK);(obtain rfl:set=false:=by rw[<-UL.out];simpa using hK);go_wp2_with fail;go_quiet (fail);have eG:=ax (iO.below (Go.below_drewN (cm w3.heap.size w3) nq));have cA:Hi (bx R w1 (w3.drewN nq)):=dI.trans (bx.of_below (Go.below_drewN By nq));generalize w3.drewN nq=w4 at eG cA ⊢;clear g3 g5 n0 vG;go_wp2;go_roundw;(case rel=>exact vZ o2 _ eG cA (fun _=>Sq));(simp[Io];omega)
  have iO:=ax nR;have dI:Hi (bx R w w3):=(bx.of_below aC).trans (s7.trans dF);have nN:Hi (r=Z):=by
   rcases fH r1 cF with h2|⟨b2,x2,u2,h2,h3⟩;(·exact h2.2);rw[hq]at h2;cases h2
  clear dF nR hq;unfold be;go_wp2;go_ret;exact⟨dI,.inr ⟨nN,p,x',t2,l2,ov,X,iO⟩⟩
 have HX:Hi (r=U (out,x,u)):=by
  have h:=vT.out
  cases m with
  |zero=>cases h
  |succ m=>
   unfold jd at h
   rw[G O]at h
   injection h with h
   exact h.symm
 go_wp2;go_ret;exact⟨(bx.of_below aC).trans b7,.inl ⟨out,x,u,t1,l1,o1,HX,X,HT,qN⟩⟩
def aag(E:de)(W:M)(R:Nat)(a:Oo Ad)(c:Nat)(ta:Oo Ad)(tc f:Nat)(sn:Sn->Ad)(n:Nd)(dp:Int)(r:cy)(x0:Nat)(t0:Q)(l0:Bool)(o0:Oo Int)(w0:M)(vk:Vv)(wr:M):Prop:=
 ∃(k x:Nat) (out:Q) (u:Bool) (t1:Q) (l1:Bool) (o1:Oo Int),k<=n.kids.length/\vk=I J k/\dx E (wrF E f) dp (n.kids.drop k) x out u=U r/\x0<=x/\x<=E.t.length/\kg t0 l0 o0 out u t1 l1 o1/\ey W wr R a E.s.length c ta E.t.length tc x t1 l1 (eo sn o1)/\bx R w0 wr
theorem adH(E:de)(W:M)(R:Nat)(a:Oo Ad)(c:Nat)(ta:Oo Ad)(tc f:Nat)(sn:Sn->Ad)(hc:EC E W a ta sn)(dX:E.t.length<=tc)(hN:uL E W R a c ta tc sn f)(dJ:1<=f)(i:Nat)(hi:i<E.s.length)(ka:Oo Ad)(kc:Nat)(aK:bn W ka (nd E.s i).kids)(aL:(nd E.s i).kids.length<=kc)(dK:kc<=maxLen)(x0:Nat)(dp:Int)(r:cy)(t0:Q)(l0:Bool)(o0:Oo Int)(w:M)(e:dx E (wrF E f) dp (nd E.s i).kids x0 az false=U r)(nZ:x0<=E.t.length)(mW:E.t.length+1<=f+x0)(cP:1<=dp)(dD:dp<=12)(h4:t0.size<=4000)(hI:ey W w R a E.s.length c ta E.t.length tc x0 t0 l0 (eo sn o0)):Cs prog 150 #[Po (U (D R 0 Z)),Ag #[I J (nd E.s i).kind,I J (nd E.s i).tag,I J (nd E.s i).mode,S ka (nd E.s i).kids.length kc],I J dp] w fun e w'=>oe E W R a c ta tc sn r t0 l0 o0 w e w':=by
 have HC:=ax hc;have jI:=ax hN;have oE:=ax aK;have HE:=ax e;have zJ:=ax dX;have gA:=Fo hc.wc.right.2.2.1 hi;have DE:=ax hi;obtain⟨n,hn⟩:∃n,nd E.s i=n:=Ey;have HN:=ax hn;rw[hn]at oE aL gA HE ⊢;have JQ:ey W (w.alloc (C #[I J n.kind,I J n.tag,I J n.mode,S ka n.kids.length kc] 58)) R a E.s.length c ta E.t.length tc x0 t0 l0 (eo sn o0):=hI.below Be;have iW:=ax JQ;have MH:kc<=9223372036854775807:=by unfold maxLen at dK;omega
 clear hc hN hI aK e dX hi hn JQ dK;go_enter func150,ntmps150;go_wp2_with fail;go_loopw [13] (fun vk wr=>aag E W R a c ta tc f sn n dp r x0 t0 l0 o0 w vk wr) (fun vk _=>n.kids.length-(Io vk).toNat);case atStart=>exact⟨0,x0,az,false,t0,l0,o0,Lz,X,HE,Ln,nZ,kg.refl h4,iW,bx.of_below Be⟩
 obtain⟨k,x,out,u,t1,l1,o1,hk,rfl,hE,bR,aQ,hT,(qN:Hi _),zS⟩:=hrel;have HT:=ax hT;have b7:=ax zS;have vT:=ax hE;clear hT zS hE;by_cases aA:k<n.kids.length
 ·obtain⟨b,o,CV,aX⟩:=oE k aA;have l7:n.kids.getD k fy∈n.kids:=ni (n:=n) aA;obtain⟨y,hy⟩:∃y,n.kids.getD k fy=y:=Ey;rw[hy]at aX l7;have W6:n.kids.drop k=y::n.kids.drop (k+1):=by rw[Hu aA];congr 1;rw[<-hy,dy,dz aA];rfl
  have ID:=vT.out;rw[W6]at ID;have D7:=ajz (dp:=dp) HC.wc.right HC.wc.ok DE (by rw[HN.out];exact l7) dJ ID;have xC:=ax D7;have FA:=HC.wc.right.fine.within i DE y (by rw[HN.out];exact l7);obtain⟨t,ht⟩:∃t:Nat,y.node=t:=⟨y.node.toNat,O⟩;have gC:y.node.toNat=t:=O;have bC:t<E.s.length:=O;have oY:Hi (∀wq,ey W wq R a E.s.length c ta E.t.length tc x t1 l1 (eo sn o1)->∃r1,wrF E f t x (dp+1)=U r1/\Cs prog 75 #[Po (U (D R 0 Z)),I J t,I J (dp+1)] wq fun e w'=>oe E W R a c ta tc sn r1 t1 l1 o1 wq e w'):=fun wq q=>by obtain⟨r1,h1⟩:=Lc (E:=E) f t x (dp+1) O dJ;exact⟨r1,h1,jI t x (dp+1) r1 t1 l1 o1 wq h1 bC aQ O dJ O O HT.mx q⟩
  have mO:Hi (∀wq,ey W wq R a E.s.length c ta E.t.length tc x t1 l1 (eo sn o1)->Cs prog 183 #[Po (U (D R 0 Z)),Ag #[I J t,Bo y.opt,Y y.dflt]] wq fun e w'=>Qs E W R a c ta tc y x t1 l1 (eo sn o1) wq e w'):=fun wq q=>by have:=af9 E W R a c ta tc sn HC zJ i DE y (by rw[HN.out];exact l7) x t1 l1 (eo sn o1) wq aQ q;rw[ht]at this;exact this
  obtain⟨sO,R6,gT⟩:=aX;rw[ht]at sO;have fE:=qN.out.bel;have m0:wr.cell? (D b (o+k*3) Z)=U (I J t):=Cb fE sO;have m1:wr.cell? (D b (o+k*3+1) Z)=U (Bo y.opt):=Cb fE R6;have m2:wr.cell? (D b (o+k*3+2) Z)=U (Y y.dflt):=Cb fE gT;have wP:=bp m0;simp only at wP;have aN:(k:Int)<(n.kids.length:Int):=O;rw[CV];have HEB:Hi (∀A,ey W (wr.alloc A) R a E.s.length c ta E.t.length tc x t1 l1 (eo sn o1)):=fun A=>qN.below Be;have TK:Hi (∀A,bx R w (wr.alloc A)):=fun A=>b7.trans (bx.of_below Be);have I5:(wr.alloc (C #[I J t,Bo y.opt,Y y.dflt] 55)).heap[wr.heap.size]? =U (C #[I J t,Bo y.opt,Y y.dflt] 55 (0,0)):=bl wr _;have GC:=ax I5;have wR:wr.heap.size≠R:=by obtain⟨tv,h1,_⟩:=qN.out.own;have:=eb h1;omega
  clear sO R6 gT fE l7 hy W6 ID D7 I5 aA;go_wp2_with fail;refine(mO _ (HEB _)).mono ?_;rintro e w2 ⟨gH,⟨gK,rfl,jV⟩|⟨gK,rfl,jV⟩⟩
  ·have eO:=ax jV;have dC:Hi (bx R w w2):=(TK _).trans gH;have sB:Hi (dx E (wrF E f) dp (n.kids.drop (k+1)) (x+1) out u=U r/\x+1<=E.t.length):=by
    rcases xC with h|h;(·exact⟨h.2,h.1.1⟩);exact Ab gK h.1
   clear gH gK jV m0 m1 m2;go_wp2;go_roundw;(case rel=>exact⟨k+1,x+1,out,u,t1,l1,o1,O,Gn,sB.1,O,sB.2,HT,eO,dC⟩);exact Ms
  have dC:Hi (bx R w w2):=(TK _).trans gH;obtain⟨r1,bW,WV⟩:=oY w2 jV;have cF:=ax bW;have jS:=ax WV;have KR:=ax gK;have AC:=gH _ _ _ wR Dc GC;have g0:w2.cell? (D wr.heap.size 0 Z)=U (I J t):=bq AC X;have eZ:=bp g0;simp only at eZ;have rR:IntKind.i64.wrap (dp+1)=dp+1:=by rw[su];omega
  clear gH gK jV m0 m1 m2 bW WV AC;go_wp2_with fail;refine jS.mono ?_;rintro e w3 ⟨dF,⟨b1,x',u',t2,l2,o2,hq,rfl,jN,nR⟩|⟨hq,p,x',t2,l2,ov,rfl,nR⟩⟩
  ·have iO:=ax nR;have dI:Hi (bx R w w3):=dC.trans dF;have jL:=ax jN;have nN:Hi (dx E (wrF E f) dp (n.kids.drop (k+1)) x' (out++b1) (u||u')=U r/\x0<=x'/\x'<=E.t.length):=by
    have QA:=Hk f t x (dp+1) r1 cF b1 x' u' hq;rcases xC with h|h;(·exact Ab h.1 KR);rw[gC]at h;rcases h.2 r1 cF with h2|⟨b2,x2,u2,h2,h3⟩;(·rw[h2.1]at hq;cases hq);rw[hq]at h2;injection h2 with h2;injection h2 with e1 h2;injection h2 with e2 e3;subst e1 e2 e3;exact⟨h3,O,QA.2.1⟩
   clear dF jN nR g0 eZ hq;go_wp2;go_roundw;(case rel=>exact⟨k+1,x',out++b1,u||u',t2,l2,o2,O,Gn,nN.1,nN.2.1,nN.2.2,HT.trans jL,iO,dI⟩);exact Ms
  have iO:=ax nR;have dI:Hi (bx R w w3):=dC.trans dF;have nN:Hi (r=Z):=by
   rcases xC with h|h;(·exact Ab h.1 KR);rw[gC]at h;rcases h.2 r1 cF with h2|⟨b2,x2,u2,h2,h3⟩;(·exact h2.2);rw[hq]at h2;cases h2
  clear dF nR g0 eZ hq;unfold be;go_wp2;go_ret;exact⟨dI,.inr ⟨nN,p,x',t2,l2,ov,X,iO⟩⟩
 obtain rfl:k=n.kids.length:=O;have HX:Hi (r=U (out,x,u)):=by have h:=vT.out;rw[List.drop_length]at h;unfold dx at h;injection h with h;exact h.symm
 go_wp2;go_ret;exact⟨b7,.inl ⟨out,x,u,t1,l1,o1,HX,X,HT,qN⟩⟩
end
