/- Parts. -/
import Derived.Test.YtkkicodfpekbgaaGreatDoorJc0
import Derived.Deep.DrawnRows
import Derived.Test.YtkkicodfpekbgaaGreatDoorJc4
open Go.Value renaming int->I,string->Y,slice->S,pointer->Po,bool->Bo,agg->Ag,tuple->Tu
open Go.IntKind renaming i64->J
open Go.Obj renaming cells->C
open Go.Ending renaming returned->Rt
open Option renaming some->U,none->Z
open Go renaming World->M,Calls->Cs,Addr->Ad,Value->Vv
open _root_ renaming ByteArray->Q,Option->Oo,List->Ls
open Go.RowKit renaming Below->H,intOf->Io,Hid->Hi
open Go.World renaming cell?->Wc
open Go.Act renaming put->Ap,eval->Ae
open Go.Addr renaming mk->D
set_option linter.all false
set_option maxRecDepth 100000
set_option maxHeartbeats 8000000
namespace Go.Proofs.YtkkicodfpekbgaaGreatDoor
section
open Go.Proofs.Tryz
open Go.RowKit
attribute [local go_sem ↓] Go.wp_at_zero Go.wp_at_succ
def ku:Ls (Int×Int×Bool)->Q->Oo Q
 | [],t=>U t
 |f::fs,t=>if(hd t).1=0/\((hd t).2.c,(hd t).2.n,(hd t).2.b)=f/\(hd t).2.s+(hd t).2.l=t.size then ku fs (t.extract (hd t).2.s.toNat t.size)else Z
def Rz(n:Nd)(t:Q)(w:M)(e:Ending)(w':M):Prop:=
 ∃(u:Q) (r:Bool),e=Rt (Tu #[Y u,Bo r])/\((r=true/\ku n.lays t=U u)\/(r=false/\ku n.lays t=Z))/\Bw w w'/\u.size<=t.size
theorem Zz(n:Nd)(ka:Oo Ad)(kc:Nat)(t:Q)(w:M)(sn:Sn->Ad)(YP:ei w sn)(hn:ll w)(ht: -1<=n.tag)(hk:0<=n.kind)(eI:n.kind<=9)(iS:n.mode=1->0<=n.tag)(hm:t.size<=140737488355328):Cs prog 137 #[Ag #[I J n.kind,I J n.tag,I J n.mode,S ka n.kids.length kc],Y t] w fun e w'=>Rz n t w e w':=by
 have HL:Hi _:=fun wq q=>af4 n ka kc wq (hn.below q) ht hk eI iS;have HS:Hi _:=YP;have bP:n.lays.length<=2:=by unfold Nd.lays;split<;>simp
 clear YP hn iS;obtain⟨L,hL⟩:∃L,n.lays=L:=Ey;have qR:Hi _:=hL;rw[hL]at HL bP;clear hL;go_enter func137,ntmps137;go_wp2_with fail;refine(HL _ Be).mono ?_;rintro e w1 ⟨g,rfl,⟨T,(HG:Hi _)⟩,hb1⟩;have aC:Hi (Bw w w1):=dj hb1;clear hb1;go_wp2;go_loopw [1,13] (fun v1 vj wr=>∃(j:Nat) (u:Q),vj=I J j/\v1=Y u/\j<=L.length/\ku L t=ku (L.drop j) u/\u.size<=t.size/\Bw w1 wr) (fun _ vj _=>L.length-(Io vj).toNat);case atStart=>exact⟨0,t,X,X,Lz,X,Ln,By⟩
 obtain⟨j,u,rfl,rfl,hj,fF,hu,aT⟩:=hrel;have fH:Hi (ku L t=ku (L.drop j) u):=fF;have HB:Hi (Bw w1 wr):=aT;have aM:Hi (Bw w wr):=Tm aC aT;have PX:=bc HG aT;by_cases aA:j<L.length
 ·have aN:(j:Int)<L.length:=O;obtain⟨c,m,b,hf⟩:∃c m b,L[j]? =U (c,m,b):=⟨(L[j]).1,(L[j]).2.1,(L[j]).2.2,by rw[dz aA]⟩;have HF:Hi (L.drop j=(c,m,b)::L.drop (j+1)):=by show L.drop j=_;rw[Hu aA];rw[dz aA]at hf;injection hf with hf;rw[hf]
  have eV:wr.cell? (D g (j*3) Z)=U (I J c)/\wr.cell? (D g (j*3+1) Z)=U (I J m)/\wr.cell? (D g (j*3+2) Z)=U (Bo b):=by
   simp only[Wc,PX]
   match L,bP,j,aA,hf with
   | [f0],_,0,_,hf=>simp at hf;subst hf;simp[Jg]
   | [f0,f1],_,0,_,hf=>simp at hf;subst hf;simp[Jg]
   | [f0,f1],_,1,_,hf=>simp at hf;subst hf;simp[Jg]
  obtain⟨g0,g1,g2⟩:=eV;have iA:Hi (∀wq,Bw w wq->Cs prog 156 #[Y u,I J 0] wq fun e w'=>e=Rt (Tu #[hv (hd u).2,qu 0 sn (hd u).1])/\Bw wq w'):=fun wq q=>ahF u wq sn (HS.below q) O;have RA:=bp g0;simp only at RA;clear fF aT PX hf;go_wp2_with fail;refine(iA _ (aM.alloc aM.size _)).mono ?_;rintro e w2 ⟨rfl,hb2⟩;have aD:Hi (Bw w1 w2):=Tm HB (dj hb2);have dL:Hi (Bw w w2):=Tm aM (dj hb2);have hF:=bc (bl wr (C #[I J c,I J m,Bo b] 149)) hb2;have mD:=lt_of_block hF;have t0:w2.cell? (D wr.heap.size 0 Z)=U (I J c):=by simp[Wc,hF]
  have t1:w2.cell? (D wr.heap.size 1 Z)=U (I J m):=by simp[Wc,hF]
  have t2:w2.cell? (D wr.heap.size 2 Z)=U (Bo b):=by simp[Wc,hF]
  obtain⟨hc,hb,hn,hz,hl,hH⟩:∃hc hb hn hz hl,(hd u).2=⟨hc,hb,hn,hz,hl⟩:=⟨_,_,_,_,_,X⟩;have HH:Hi ((hd u).2=⟨hc,hb,hn,hz,hl⟩):=hH;rw[hH];unfold hv;clear hb2 hF hH g0 g1 g2;by_cases fI:(hd u).1=0
  ·have HK:Hi ((hd u).1=0):=fI;have hok:=pq fI;rw[HH.out]at hok;simp only at hok;obtain⟨z,rfl⟩:∃z:Nat,hz=z:=⟨hz.toNat,O⟩;obtain⟨l,rfl⟩:∃l:Nat,hl=l:=⟨hl.toNat,O⟩;(have e0:qu 0 sn (hd u).1= .nilIface:=by rw[fI];rfl);rw[e0];have F6:Hi (∀wq,Cs prog 157 #[Ag #[I J hc,Bo hb,I J hn,I J z,I J l]] wq fun e w'=>e=Rt (Ag #[I J hc,I J hn,Bo hb])/\Bw wq w'):=fun wq=>Vc hc hb hn z l wq;have zE:Hi (Bw w (w2.alloc (C #[I J hc,Bo hb,I J hn,I J z,I J l] 179))):=dL.alloc dL.size _;have aR:Hi (Bw w1 (w2.alloc (C #[I J hc,Bo hb,I J hn,I J z,I J l] 179))):=aD.alloc aD.size _;have X0:∀x:bh (w2.alloc (C #[I J hc,Bo hb,I J hn,I J z,I J l] 179)),x.v.cell? (D w2.heap.size 0 Z)=U (I J hc):=fun x=>x.new X;have X1:∀x:bh (w2.alloc (C #[I J hc,Bo hb,I J hn,I J z,I J l] 179)),x.v.cell? (D w2.heap.size 1 Z)=U (Bo hb):=fun x=>x.new X;have X2:∀x:bh (w2.alloc (C #[I J hc,Bo hb,I J hn,I J z,I J l] 179)),x.v.cell? (D w2.heap.size 2 Z)=U (I J hn):=fun x=>x.new X;have X3:∀x:bh (w2.alloc (C #[I J hc,Bo hb,I J hn,I J z,I J l] 179)),x.v.cell? (D w2.heap.size 3 Z)=U (I J z):=fun x=>x.new X;have X4:∀x:bh (w2.alloc (C #[I J hc,Bo hb,I J hn,I J z,I J l] 179)),x.v.cell? (D w2.heap.size 4 Z)=U (I J l):=fun x=>x.new X;have Y0:∀x:bh (w2.alloc (C #[I J hc,Bo hb,I J hn,I J z,I J l] 179)),x.v.cell? (D wr.heap.size 0 Z)=U (I J c):=fun x=>x.old t0;have Y1:∀x:bh (w2.alloc (C #[I J hc,Bo hb,I J hn,I J z,I J l] 179)),x.v.cell? (D wr.heap.size 1 Z)=U (I J m):=fun x=>x.old t1;have Y2:∀x:bh (w2.alloc (C #[I J hc,Bo hb,I J hn,I J z,I J l] 179)),x.v.cell? (D wr.heap.size 2 Z)=U (Bo b):=fun x=>x.old t2;have R3:(z:Int)+l<=9223372036854775807:=O;clear fI e0;by_cases hq:hc=c/\hn=m/\hb=b
   ·obtain⟨rfl,rfl,rfl⟩:=hq;go_wp2_with fail;(have ne:=nh;refine nk Kr Kr ?_;(repeat(first|go_big_quiet_skip|(go_big_quiet_want;go_big_quiet_op;first|go_big_quiet_on|(apply Exists.intro;refine⟨fun x=>?_,?_⟩;(·(exact bh.calls (F6 x.v)));go_big_quiet_on))));refine nj ?_);intro w5 aH;have z3:=X3 ⟨w5,aH⟩;have aO:Hi _:=Tm aR aH;have ND:Hi _:=Tm zE aH;have o6:Hi (w2.heap.size<w5.heap.size):=bp z3;simp only at z3;clear X0 X1 X2 X3 X4 Y0 Y1 Y2 aH;by_cases bX:(z:Int)+l=u.size
    ·(have RQ:((z:Int)+l !=u.size)=false:=by rw[qj];exact bX);have hzu:(z:Int)<=u.size:=O;go_wp2;go_roundw
     case rel=>
      refine⟨j+1,u.extract z u.size,Gn,X,O,?_,?_,aO⟩;(·rw[fH,HF.out];show(if _ then _ else _)=_;rw[HH,ba ⟨HK,X,bX⟩];rfl);have:(u.extract z u.size).size=u.size-z:=Sq;omega
     exact Ms
    (have RQ:((z:Int)+l !=u.size)=true:=by rw[ln];exact bX);(have bM:Hi (ku L t=Z):=by show ku L t=Z;rw[fH,HF.out];unfold ku;rw[G (fun q=>bX (by have:=q.2.2;rw[HH.out]at this;exact this))]);clear bX;go_wp2;go_ret2;exact⟨⟨#[]⟩,false,X,.inr ⟨X,by rw[qR.out];exact bM⟩,ND,by exact Lz⟩
   (have bM:Hi (ku L t=Z):=by show ku L t=Z;rw[fH,HF.out];unfold ku;rw[G (fun q=>hq (by have:=q.2.1;rw[HH.out]at this;simpa using this))]);have hq3:¬hc=c\/(hc=c/\¬hn=m)\/(hc=c/\hn=m/\¬hb=b):=by
    by_cases a1:hc=c
    ·by_cases a2:hn=m;(·exact .inr (.inr ⟨a1,a2,fun a3=>hq ⟨a1,a2,a3⟩⟩));exact .inr (.inl ⟨a1,a2⟩)
    exact .inl a1
   clear hq;rcases hq3 with hq|⟨rfl,hq⟩|⟨rfl,rfl,hq⟩;all_goals go_wp2_with fail;(have ne:=nh;refine nk Kr Kr ?_;(repeat(first|go_big_quiet_skip|(go_big_quiet_want;go_big_quiet_op;first|go_big_quiet_on|(apply Exists.intro;refine⟨fun x=>?_,?_⟩;(·(exact bh.calls (F6 x.v)));go_big_quiet_on))));refine nj ?_);intro w5 aH;have ND:Hi _:=Tm zE aH;clear X0 X1 X2 X3 X4 Y0 Y1 Y2 aH;go_wp2;go_ret2;exact⟨⟨#[]⟩,false,X,.inr ⟨X,by rw[qR.out];exact bM⟩,ND,by exact Lz⟩
  have HK:Hi _:=fI;have bM:Hi (ku L t=Z):=by show ku L t=Z;rw[fH,HF.out];unfold ku;rw[G (fun q=>fI q.1)]
  obtain⟨fp,fa,he⟩:∃fp fa,qu 0 sn (hd u).1=be fp fa:=by unfold qu;rw[G fI];(repeat' split);all_goals exact⟨_,_,X⟩
  rw[he];unfold be;clear fI he;go_wp2_with fail;go_quiet (fail);go_wp2;go_ret2;exact⟨⟨#[]⟩,false,X,.inr ⟨X,by rw[qR.out];exact bM⟩,Go.below_drewN (dL.alloc dL.size _) _,by exact Lz⟩
 have aN:(L.length:Int)<=j:=O;have HE:Hi (ku L t=U u):=by rw[fF,Hv O];rfl
 clear fF aT PX;go_wp2;go_ret2;exact⟨u,true,X,.inl ⟨X,by rw[qR.out];exact HE⟩,aM,hu⟩
end
section
open Go.RowKit
theorem Zj(l:Ls (Int×Int))(i:Nat)(hi:i<l.length):(px l)[i*2]? =U (I J (l.getD i (0,0)).1)/\(px l)[i*2+1]? =U (I J (l.getD i (0,0)).2):=by
 induction l generalizing i with
 |nil=>simp at hi
 |cons a l ih=>
  have e:px (a::l)=[I J a.1,I J a.2]++px l:=by unfold px;simp
  rw[e]
  cases i with
  |zero=>simp
  |succ i=>
   have h:=ih i (by simp at hi;omega)
   constructor
   ·rw[qq So]
    have:(i+1)*2 - [Value.int IntKind.i64 a.1,Value.int IntKind.i64 a.2].length=i*2:=So
    rw[this,h.1];simp
   ·rw[qq So]
    have:(i+1)*2+1 - [Value.int IntKind.i64 a.1,Value.int IntKind.i64 a.2].length=i*2+1:=So
    rw[this,h.2];simp
def uD(w:M)(gb:Nat)(s:Ls Nd):Prop:=∀j,j<s.length->∃all ta tc ts,w.cell? (D gb (j*2) Z)=U (Bo all)/\w.cell? (D gb (j*2+1) Z)=U (S ta (ts:Ls (Int×Int)).length tc)/\uj w ta ts/\An s j all ts
theorem uD.below{w w':M}{gb:Nat}{s:Ls Nd}(h:uD w gb s)(hb:Bw w w'):uD w' gb s:=fun j hj=>by obtain⟨all,ta,tc,ts,h1,h2,h3,h4⟩:=h j hj;exact⟨all,ta,tc,ts,Cb hb h1,Cb hb h2,h3.below hb,h4⟩
theorem sr.read{s:Ls Nd}{w wr:M}(h:sr s w wr s.length):uD wr w.heap.size s:=fun j hj=>by
 obtain⟨ae,h1,h2,h3⟩:=h.row;obtain⟨all,vt,ts,q1,q2,q3,q4⟩:=h3 j hj;obtain⟨ta,tc,rfl,iJ⟩:=yr q3;refine⟨all,ta,tc,ts,by simp only[Wc,h1];simpa using q1,by simp only[Wc,h1];simpa using q2,fun k hk=>?_,q4⟩;obtain⟨g,rfl⟩:=iJ O;have a0:∀p,((D g 0 Z):Ad).add p=(D g p Z):=fun p=>by unfold Addr.add;split<;>simp_all
 have c0:=q3.cells (g:=g) X _ _ (Zj ts k hk).1;have c1:=q3.cells (g:=g) X _ _ (Zj ts k hk).2;rw[a0]at c0 c1;exact⟨g,0,X,by simpa using c0,by simpa using c1⟩
theorem Xd{s:Ls Nd}{i k:Nat}{a1 a2:Bool}{t1 t2:Ls (Int×Int)}(h1:An s i a1 t1)(h2:An s k a2 t2):Em a1 a2 t1 t2↔py s i k:=by
 unfold Em py;rw[h1.2.1,h2.2.1];refine Jw zi (Jw zi ⟨?_,?_⟩);·rintro⟨t,q1,q2⟩;obtain⟨j,r1,r2,r3⟩:=(h1.2.2 t).1 q1;obtain⟨l,r4,r5,r6⟩:=(h2.2.2 t).1 q2;exact⟨j,l,r1,r2,r4,r5,r3.trans r6.symm⟩
 rintro⟨j,l,r1,r2,r4,r5,r6⟩;exact⟨(nd s j).outer,(h1.2.2 _).2 ⟨j,r1,r2,X⟩,(h2.2.2 _).2 ⟨l,r4,r5,r6.symm⟩⟩
theorem aiG{ae af:Nat->Nat->Prop}{n:Nd}{m:Nat}(hw:∀j,j<n.kids.length->(kd n j).node.toNat<m)(h:∀i k,i<m->k<m->(ae i k↔af i k)):Told ae n↔Told af n:=by
 unfold Told yg;constructor
 ·intro q i hi;rcases q i hi with q|q;·exact .inl q
  exact .inr fun k h1 h2 h3 h4=>q k h1 h2 h3 ((h _ _ (hw i hi) (hw k h2)).2 h4)
 intro q i hi;rcases q i hi with q|q;·exact .inl q
 exact .inr fun k h1 h2 h3 h4=>q k h1 h2 h3 ((h _ _ (hw i hi) (hw k h2)).1 h4)
end
section
open Go.Proofs.Tryz
open Go.RowKit
theorem Fw{n:Nd}{m i:Nat}(hw:∀j,j<n.kids.length->∃t:Nat,(kd n j).node=t/\t<m)(hi:i<n.kids.length):∃(t:Nat) (o:Bool) (d:Q),kd n i=⟨t,o,d⟩/\t<m:=by
 obtain⟨t,h1,h2⟩:=hw i hi;refine⟨t,(kd n i).opt,(kd n i).dflt,?_,h2⟩;rw[<-h1]
theorem adh(s:Ls Nd)(n:Nd)(ka:Oo Ad)(kc gb:Nat)(w:M)(aK:bn w ka n.kids)(aL:n.kids.length<=kc)(gA:n.kids.length<=8)(hw:∀j,j<n.kids.length->∃t:Nat,(kd n j).node=t/\t<s.length)(hb:uD w gb s)(hn:s.length<=40):Cs prog 98 #[S ka n.kids.length kc,S (U (D gb 0 Z)) s.length s.length] w fun e w'=>dw (∀i k,i<k->k<n.kids.length->¬py s (kd n i).node.toNat (kd n k).node.toNat) w e w':=by
 have fN:Hi _:=aK;have kY:Hi _:=hw;have pJ:Hi _:=hb;clear aK hw hb;go_enter func98,ntmps98;go_wp2;go_loopw [11] (fun vi wr=>∃i:Nat,i<=n.kids.length/\vi=I J i/\(∀i',i'<i->∀k,i'<k->k<n.kids.length->¬py s (kd n i').node.toNat (kd n k).node.toNat)/\Bw w wr) (fun vi _=>n.kids.length-(Io vi).toNat);case atStart=>exact⟨0,Lz,X,fun _ h=>Ab h (dh _),By⟩
 obtain⟨i,hi,rfl,(HA:Hi _),(HB:Hi _)⟩:=hrel;by_cases aA:i<n.kids.length
 ·have aN:(i:Int)<n.kids.length:=O;obtain⟨kb,ko,rfl,aX⟩:=fN i aA;obtain⟨ty,yo,yd,hy,vM⟩:=Fw kY aA;have HY:Hi _:=hy;have qD:my w kb (ko+i*3) ⟨ty,yo,yd⟩:=by rw[<-hy];exact aX
  obtain⟨k1,k2,k3⟩:=qD.below HB;simp only at k1 k2 k3;have iD:Hi (Bw w (wr.alloc (C #[I J ty,Bo yo,Y yd] 55))):=HB.alloc HB.size _;clear hy aX qD;by_cases gX:kc=i+1
  ·subst gX;have HZ:Hi (∀k,i<k->k<n.kids.length->¬py s (kd n i).node.toNat (kd n k).node.toNat):=fun k _ _=>O;have hz:((n.kids.length-(i+1):Nat):Int)<=0:=O;go_wp2;go_loopw [21] (fun vj wq=>vj=I J 0/\wq=wr.alloc (C #[I J ty,Bo yo,Y yd] 55)) (fun _ _=>0);(case atStart=>exact⟨X,X⟩);obtain⟨rfl,rfl⟩:=hrel;go_wp2;go_roundw
   case rel=>
    refine⟨i+1,O,Gn,fun i' h1 k h2 h3=>?_,iD⟩;by_cases e:i'=i;(·subst e;exact HZ k h2 h3);exact HA i' O k h2 h3
   exact Ms
  go_wp2;generalize hW:wr.alloc _=W at*;have IP:W.heap[wr.heap.size]? =U (C #[I J ty,Bo yo,Y yd] 55 (0,0)):=by rw[<-hW];exact bl wr _
  obtain⟨aw,hY⟩:∃aw,aw=wr.heap.size:=Ez;have GV:Hi (W.cell? (D aw 0 Z)=U (I J ty)):=by show W.cell? _=_;rw[hY];simp[Wc,IP]
  rw[<-hY];clear hW IP k1 k2 k3 hY;go_loopw [21] (fun vj wq=>∃j:Nat,j<=n.kids.length-(i+1)/\vj=I J j/\(∀k,i<k->k<i+1+j->¬py s (kd n i).node.toNat (kd n k).node.toNat)/\Bw W wq) (fun vj _=>n.kids.length-(Io vj).toNat);case atStart=>exact⟨0,Lz,X,fun k h1 h2=>Ab h1 O,By⟩
  obtain⟨j,hj,rfl,(bM:Hi _),oM⟩:=hrel;have FO:Hi _:=oM;have aM:Hi _:=Tm iD oM;have d0:=Cb oM GV;clear oM;by_cases eC:j<n.kids.length-(i+1)
  ·have oO:(j:Int)<((n.kids.length-(i+1):Nat):Int):=O;obtain⟨JV,yU,he,aX⟩:=fN (i+1+j) O;(obtain⟨rfl,rfl⟩:kb=JV/\ko=yU:=by injection he with he;injection he with e1 e2;exact⟨e1,e2⟩);obtain⟨tz,zo,zd,hz,j7⟩:=Fw kY (show i+1+j<n.kids.length by omega);have HZ:Hi _:=hz;(have qD:my w kb (ko+(i+1)*3+j*3) ⟨tz,zo,zd⟩:=by rw[<-hz];have e:ko+(i+1+j)*3=ko+(i+1)*3+j*3:=O;rw[<-e];exact aX);obtain⟨k1,k2,k3⟩:=qD.below aM;simp only at k1 k2 k3;obtain⟨pQ,a1,c1,t1,p1,p2,p3,p4⟩:=pJ ty vM;obtain⟨pR,a2,c2,t2,q1,q2,q3,q4⟩:=pJ tz j7;obtain⟨r,hr⟩:=It (Em pQ pR t1 t2);(have HR:Hi (r=true↔py s (kd n i).node.toNat (kd n (i+1+j)).node.toNat):=by rw[HY,HZ.out];exact hr.trans (Xd p4 q4));have aD:Hi (Bw w (wr.alloc (C #[I J tz,Bo zo,Y zd] 55))):=aM.alloc aM.size _;have aR:Hi (Bw W (wr.alloc (C #[I J tz,Bo zo,Y zd] 55))):=FO.alloc FO.size _;have HM:Hi _:=fun x=>bh.callsR hr (Xe pQ pR a1 a2 c1 c2 t1 t2 x.v (p3.below (bh.bel aD x)) (q3.below (bh.bel aD x)) p4.1 q4.1);have X0:∀x:bh (wr.alloc (C #[I J tz,Bo zo,Y zd] 55)),x.v.cell? (D aw 0 Z)=U (I J ty):=fun x=>x.old d0;have X1:∀x:bh (wr.alloc (C #[I J tz,Bo zo,Y zd] 55)),x.v.cell? (D wr.heap.size 0 Z)=U (I J tz):=fun x=>x.new X;have X2:∀x:bh (wr.alloc (C #[I J tz,Bo zo,Y zd] 55)),x.v.cell? (D gb (ty*2) Z)=U (Bo pQ):=fun x=>bh.far aD x p1;have X3:∀x:bh (wr.alloc (C #[I J tz,Bo zo,Y zd] 55)),x.v.cell? (D gb (ty*2+1) Z)=U (S a1 t1.length c1):=fun x=>bh.far aD x p2;have X4:∀x:bh (wr.alloc (C #[I J tz,Bo zo,Y zd] 55)),x.v.cell? (D gb (tz*2) Z)=U (Bo pR):=fun x=>bh.far aD x q1;have X5:∀x:bh (wr.alloc (C #[I J tz,Bo zo,Y zd] 55)),x.v.cell? (D gb (tz*2+1) Z)=U (S a2 t2.length c2):=fun x=>bh.far aD x q2;have YY:(ty:Int)<s.length:=O;have aeQ:(tz:Int)<s.length:=O;clear aX qD hz he hr p1 p2 p3 p4 q1 q2 q3 q4;go_wp2_with fail;(have ne:=nh;refine nk Kr Kr ?_;(repeat(first|go_big_quiet_skip|(go_big_quiet_want;go_big_quiet_op;first|go_big_quiet_on|(apply Exists.intro;refine⟨fun x=>?_,?_⟩;(·(exact HM x));go_big_quiet_on))));refine nj ?_);intro w5 aH;have aO:Hi _:=Tm aD aH;have bB:Hi _:=Tm aR aH;clear X0 X1 X2 X3 X4 X5 aH HM;cases r
   ·have HN:Hi (¬py s (kd n i).node.toNat (kd n (i+1+j)).node.toNat):=fun q=>Bool.noConfusion (HR.2 q);go_wp2;go_roundw
    case rel=>
     refine⟨j+1,O,Gn,fun k h1 h2=>?_,bB⟩;by_cases e:k=i+1+j;(·subst e;exact HN);exact bM k h1 O
    exact Ms
   have HN:Hi _:=HR.1 X;go_wp2;go_ret;exact cg (fun q=>q i (i+1+j) O O HN) aO
  have oO:((n.kids.length-(i+1):Nat):Int)<=(j:Int):=O;go_wp2;go_roundw
  case rel=>
   refine⟨i+1,O,Gn,fun i' h1 k h2 h3=>?_,aM⟩;by_cases e:i'=i;(·subst e;exact bM k h2 O);exact HA i' O k h2 h3
  exact Ms
 have aN:(n.kids.length:Int)<=i:=O;go_wp2;go_ret;exact ia (fun i' k h1 h2=>HA i' O k h1 h2) HB
def wm(s:Ls Nd)(n:Nd)(i:Nat):Prop:=(kd n i).must\/∀k,i<k->k<n.kids.length->(∀j,i<j->j<k->¬(kd n j).must)->¬py s (kd n i).node.toNat (kd n k).node.toNat
theorem ain(s:Ls Nd)(n:Nd)(ka:Oo Ad)(kc gb:Nat)(w:M)(aK:bn w ka n.kids)(aL:n.kids.length<=kc)(gA:n.kids.length<=8)(hw:∀j,j<n.kids.length->∃t:Nat,(kd n j).node=t/\t<s.length)(hb:uD w gb s)(hn:s.length<=40):Cs prog 99 #[S ka n.kids.length kc,S (U (D gb 0 Z)) s.length s.length] w fun e w'=>dw (∀i,i<n.kids.length->wm s n i) w e w':=by
 have fN:Hi _:=aK;have kY:Hi _:=hw;have pJ:Hi _:=hb;have T3:Hi _:=fun a b c wq=>Xc ⟨a,b,c⟩ wq;clear aK hw hb;go_enter func99,ntmps99;go_wp2;go_step3;go_wp2;go_step3;go_wp2;go_loopw [11] (fun vi wr=>∃i:Nat,i<=n.kids.length/\vi=I J i/\(∀i',i'<i->wm s n i')/\Bw w wr) (fun vi _=>n.kids.length-(Io vi).toNat);case atStart=>exact⟨0,Lz,X,fun _ h=>Ab h (dh _),By⟩
 obtain⟨i,hi,rfl,iI,(HB:Hi _)⟩:=hrel;have HA:Hi _:=iI;have BW:Hi (wm s n i->∀i',i'<i+1->wm s n i'):=fun q i' h=>by
  by_cases e:i'=i;·subst e;exact q
  exact iI i' O
 clear iI;by_cases aA:i<n.kids.length
 ·have aN:(i:Int)<n.kids.length:=O;obtain⟨kb,ko,rfl,aX⟩:=fN i aA;obtain⟨ty,yo,yd,hy,vM⟩:=Fw kY aA;have HY:Hi _:=hy;have qD:my w kb (ko+i*3) ⟨ty,yo,yd⟩:=by rw[<-hy];exact aX
  obtain⟨k1,k2,k3⟩:=qD.below HB;simp only at k1 k2 k3;have iD:Hi (Bw w (wr.alloc (C #[I J ty,Bo yo,Y yd] 55))):=HB.alloc HB.size _;clear hy aX qD;go_wp2_with fail;refine(T3 _ _ _ _).mono ?_;rintro e W ⟨r0,rfl,(UK:Hi _),bO⟩;have sZ:Hi _:=Tm iD bO;have IP:=bc (bl wr (C #[I J ty,Bo yo,Y yd] 55)) bO;obtain⟨aw,hY⟩:∃aw,aw=wr.heap.size:=Ez;have GV:Hi (W.cell? (D aw 0 Z)=U (I J ty)):=by show W.cell? _=_;rw[hY];simp[Wc,IP]
  rw[<-hY];clear hY IP bO k1 k2 k3;cases r0
  ·have HQ:Hi (wm s n i):= .inl (by
    rw[HY.out];by_cases q:Kd.must ⟨ty,yo,yd⟩;(·exact q);exact Bool.noConfusion (UK.2 q))
   go_wp2;go_roundw;(case rel=>exact⟨i+1,O,Gn,BW HQ,sZ⟩);exact Ms
  have OD:Hi (¬(kd n i).must):=by rw[HY.out];exact UK.1 X
  by_cases gX:kc=i+1;·subst gX;have HQ:Hi (wm s n i):= .inr fun k _ _=>O;have hz:((n.kids.length-(i+1):Nat):Int)<=0:=O;go_wp2;go_loopw [24] (fun vj wq=>vj=I J 0/\wq=W) (fun _ _=>0);(case atStart=>exact⟨X,X⟩);obtain⟨rfl,rfl⟩:=hrel;go_wp2;go_roundw;(case rel=>exact⟨i+1,O,Gn,BW HQ,sZ⟩);exact Ms
  go_wp2;go_loopw [24] (fun vj wq=>∃j:Nat,j<=n.kids.length-(i+1)/\vj=I J j/\(∀k,i<k->k<i+1+j->¬(kd n k).must/\¬py s (kd n i).node.toNat (kd n k).node.toNat)/\Bw W wq) (fun vj _=>n.kids.length-(Io vj).toNat);case atStart=>exact⟨0,Lz,X,fun k h1 h2=>Ab h1 O,By⟩
  obtain⟨j,hj,rfl,(bM:Hi _),oM⟩:=hrel;have FO:Hi _:=oM;have aM:Hi _:=Tm sZ oM;have d0:=Cb oM GV;clear oM;by_cases eC:j<n.kids.length-(i+1)
  ·have oO:(j:Int)<((n.kids.length-(i+1):Nat):Int):=O;obtain⟨JV,yU,he,aX⟩:=fN (i+1+j) O;(obtain⟨rfl,rfl⟩:kb=JV/\ko=yU:=by injection he with he;injection he with e1 e2;exact⟨e1,e2⟩);obtain⟨tz,zo,zd,hz,j7⟩:=Fw kY (show i+1+j<n.kids.length by omega);have HZ:Hi _:=hz;(have qD:my w kb (ko+(i+1)*3+j*3) ⟨tz,zo,zd⟩:=by rw[<-hz];have e:ko+(i+1+j)*3=ko+(i+1)*3+j*3:=O;rw[<-e];exact aX);obtain⟨k1,k2,k3⟩:=qD.below aM;simp only at k1 k2 k3;obtain⟨pQ,a1,c1,t1,p1,p2,p3,p4⟩:=pJ ty vM;obtain⟨pR,a2,c2,t2,q1,q2,q3,q4⟩:=pJ tz j7;obtain⟨r,hr⟩:=It (Em pQ pR t1 t2);(have HR:Hi (r=true↔py s (kd n i).node.toNat (kd n (i+1+j)).node.toNat):=by rw[HY,HZ.out];exact hr.trans (Xd p4 q4));have aD:Hi (Bw w (wr.alloc (C #[I J tz,Bo zo,Y zd] 55))):=aM.alloc aM.size _;have aR:Hi (Bw W (wr.alloc (C #[I J tz,Bo zo,Y zd] 55))):=FO.alloc FO.size _;have HM:Hi _:=fun x=>bh.callsR hr (Xe pQ pR a1 a2 c1 c2 t1 t2 x.v (p3.below (bh.bel aD x)) (q3.below (bh.bel aD x)) p4.1 q4.1);have X0:∀x:bh (wr.alloc (C #[I J tz,Bo zo,Y zd] 55)),x.v.cell? (D aw 0 Z)=U (I J ty):=fun x=>x.old d0;have X1:∀x:bh (wr.alloc (C #[I J tz,Bo zo,Y zd] 55)),x.v.cell? (D wr.heap.size 0 Z)=U (I J tz):=fun x=>x.new X;have X2:∀x:bh (wr.alloc (C #[I J tz,Bo zo,Y zd] 55)),x.v.cell? (D gb (ty*2) Z)=U (Bo pQ):=fun x=>bh.far aD x p1;have X3:∀x:bh (wr.alloc (C #[I J tz,Bo zo,Y zd] 55)),x.v.cell? (D gb (ty*2+1) Z)=U (S a1 t1.length c1):=fun x=>bh.far aD x p2;have X4:∀x:bh (wr.alloc (C #[I J tz,Bo zo,Y zd] 55)),x.v.cell? (D gb (tz*2) Z)=U (Bo pR):=fun x=>bh.far aD x q1;have X5:∀x:bh (wr.alloc (C #[I J tz,Bo zo,Y zd] 55)),x.v.cell? (D gb (tz*2+1) Z)=U (S a2 t2.length c2):=fun x=>bh.far aD x q2;have YY:(ty:Int)<s.length:=O;have aeQ:(tz:Int)<s.length:=O;clear aX qD hz he hr p1 p2 p3 p4 q1 q2 q3 q4;go_wp2_with fail;(have ne:=nh;refine nk Kr Kr ?_;(repeat(first|go_big_quiet_skip|(go_big_quiet_want;go_big_quiet_op;first|go_big_quiet_on|(apply Exists.intro;refine⟨fun x=>?_,?_⟩;(·(exact HM x));go_big_quiet_on))));refine nj ?_);intro w5 aH;have aO:Hi _:=Tm aD aH;have bB:Hi _:=Tm aR aH;have z0:=(bh.mk w5 aH).new (i:=0) X;have z1:=(bh.mk w5 aH).new (i:=1) X;have z2:=(bh.mk w5 aH).new (i:=2) X;simp only at z0 z1 z2;clear X0 X1 X2 X3 X4 X5 aH HM;cases r
   ·have HN:Hi (¬py s (kd n i).node.toNat (kd n (i+1+j)).node.toNat):=fun q=>Bool.noConfusion (HR.2 q);go_wp2_with fail;refine(T3 _ _ _ _).mono ?_;rintro e w6 ⟨r1,rfl,(cF:Hi _),eB⟩;have hP:Hi _:=Tm aO eB;have dB:Hi _:=Tm bB eB;clear eB;cases r1
    ·have zI:Hi ((kd n (i+1+j)).must):=by
      rw[HZ.out];by_cases q:Kd.must ⟨tz,zo,zd⟩;(·exact q);exact Bool.noConfusion (cF.2 q)
     have HQ:Hi (wm s n i):= .inr fun k h1 h2 h3=>by
      by_cases e:k<i+1+j;(·exact(bM k h1 e).2);by_cases e2:k=i+1+j;(·subst e2;exact HN);exact Ab zI (h3 _ O O)
     go_wp2;go_roundw;(case rel=>exact⟨i+1,O,Gn,BW HQ,hP⟩);exact Ms
    (have zI:Hi (¬(kd n (i+1+j)).must):=by rw[HZ.out];exact cF.1 X);go_wp2;go_roundw
    case rel=>
     refine⟨j+1,O,Gn,fun k h1 h2=>?_,dB⟩;by_cases e:k=i+1+j;(·subst e;exact⟨zI,HN⟩);exact bM k h1 O
    exact Ms
   have HN:Hi _:=HR.1 X;go_wp2;go_ret;refine cg (fun q=>?_) aO;rcases q i aA with q|q;(·exact OD q);exact q (i+1+j) O O (fun j' h1 h2=>(bM j' h1 h2).1) HN
  have oO:((n.kids.length-(i+1):Nat):Int)<=(j:Int):=O;have HQ:Hi (wm s n i):= .inr fun k h1 h2 _=>(bM k h1 O).2;go_wp2;go_roundw;case rel=>exact⟨i+1,O,Gn,BW HQ,aM⟩
  exact Ms
 have aN:(n.kids.length:Int)<=i:=O;go_wp2;go_ret;exact ia (fun i' h1=>HA i' O) HB
def zr(s:Ls Nd)(n:Nd):Prop:=n.kind=10\/n.kind=13->Told (py s) n
theorem aiF{ae:Nat->Nat->Prop}{n:Nd}(h:n.kind=13):Told ae n↔∀i k,i<k->k<n.kids.length->¬ae (kd n i).node.toNat (kd n k).node.toNat:=by
 have fF:∀k,¬n.stops k:=fun k q=>by have:=q.1;omega
 unfold Told yg;constructor
 ·intro q i k h1 h2;rcases q i (O)with q|q;·exact Ab q (fF _)
  exact q k h1 h2 (fun j _ _=>fF _)
 exact fun q i hi=> .inr fun k h1 h2 _=>q i k h1 h2
theorem aiH{s:Ls Nd}{n:Nd}(h:n.kind=10):Told (py s) n↔∀i,i<n.kids.length->wm s n i:=by
 have fF:∀k,n.stops k↔k.must:=fun k=>⟨fun q=>q.2,fun q=>⟨h,q⟩⟩;unfold Told yg wm;simp only[fF]
theorem afK(s:Ls Nd)(n:Nd)(ka:Oo Ad)(kc gb:Nat)(w:M)(aK:bn w ka n.kids)(aL:n.kids.length<=kc)(gA:n.kids.length<=8)(hw:∀j,j<n.kids.length->∃t:Nat,(kd n j).node=t/\t<s.length)(hb:uD w gb s)(hn:s.length<=40):Cs prog 65 #[Ag #[I J n.kind,I J n.tag,I J n.mode,S ka n.kids.length kc],S (U (D gb 0 Z)) s.length s.length] w fun e w'=>dw (zr s n) w e w':=by
 by_cases bU:n.kind=13;·have HC:Hi _:=fun wq q=>adh s n ka kc gb wq (aK.below q) aL gA hw (hb.below q) hn;(have LG:(n.kind==13)=true:=by simp[bU]);have HX:Hi _:=(show zr s n↔Told (py s) n from⟨fun q=>q (.inr bU),fun q _=>q⟩).trans (aiF bU);clear bU aK hw hb;go_enter func65,ntmps65;go_wp2_with fail;refine(HC _ Be).mono ?_;rintro e w1 ⟨r,rfl,hr,hb1⟩;have HR:Hi _:=hr.trans HX.symm;have aC:Hi _:=dj hb1;clear hr hb1;go_wp2;go_ret;exact yv HR aC
 have LG:(n.kind==13)=false:=by simp[bU]
 by_cases bG:n.kind=10;·have HC:Hi _:=fun wq q=>ain s n ka kc gb wq (aK.below q) aL gA hw (hb.below q) hn;(have G8:(n.kind==10)=true:=by simp[bG]);have HX:Hi _:=(show zr s n↔Told (py s) n from⟨fun q=>q (.inl bG),fun q _=>q⟩).trans (aiH bG);clear bU bG aK hw hb;go_enter func65,ntmps65;go_wp2_with fail;refine(HC _ Be).mono ?_;rintro e w1 ⟨r,rfl,hr,hb1⟩;have HR:Hi _:=hr.trans HX.symm;have aC:Hi _:=dj hb1;clear hr hb1;go_wp2;go_ret;exact yv HR aC
 have G8:(n.kind==10)=false:=by simp[bG]
 have HX:Hi (zr s n):=fun q=>O;clear bU bG aK hw hb;go_enter func65,ntmps65;go_wp2;go_ret;exact ia HX Be
end
section
open Go.RowKit
def ph(l:Ls jn):Ls Vv:=l.flatMap fun t=> [I J 2,I J t.1,Bo true]
theorem ab0(l:Ls jn)(t:jn):ph (l++[t])=ph l++[I J 2,I J t.1,Bo true]:=by simp[ph]
theorem Tb:∀(l:Ls jn) (j:Nat),j<l.length->(ph l)[j*3]? =U (I J 2)/\(ph l)[j*3+1]? =U (I J (l[j]?.getD Bu).1)/\(ph l)[j*3+2]? =U (Bo true)
 | [],j,h=>by simp at h
 |t::l,0,_=>by simp[ph]
 |t::l,j+1,h=>by
  have ih:=Tb l j (by simpa using h)
  have e:ph (t::l)=[I J 2,I J t.1,Bo true]++ph l:=by simp[ph]
  rw[e]
  have g:∀k,([Value.int J 2,I J t.1,Bo true]++ph l)[(j+1)*3+k]? =(ph l)[j*3+k]? :=fun k=>by
   rw[qq So]
   congr 1
   simp
   omega
  have g0:=g 0
  simp only[zp]at g0
  rw[g0,g 1,g 2]
  simpa using ih
theorem zf.of_own{w:M}{Bs R B:Nat}{v:Vv}{aP:Ls jn}(h:w.ownsRow B 149 3 v aP.length (ph aP))(hb:w.heap[Bs]? =U (C #[v] 186 (0,0)))(hR:R<B)(aI:Bs≠R):zf w Bs R aP:=by
 refine⟨aI,?_⟩;rcases h.2 with⟨rfl,h0⟩|⟨g,cap,aB,rfl,h1,h2,h3,h4,h5,h6⟩;·exact .inl ⟨List.length_eq_zero_iff.1 h0,hb⟩
 refine .inr ⟨g,cap,aB,O,by unfold maxLen at h4;omega,h3,hb,h2,fun j hj=>?_⟩;have hg:=Tb aP j hj;rw[<-h6]at hg;rw[sh O,sh O,sh O]at hg;simpa using hg
def Bk(n:Nd)(r:cy):cy:=r.map fun(b,x,u)=>(if n.mode=1 then cf 2 true n.tag b else b,x,u)
theorem ag3{n:Nd}{o:Oo cy}{r:cy}(h:cy.andThen o (fun b x' u=>U (U (if n.mode=1 then cf 2 true n.tag b else b,x',u)))=U r):∃r',o=U r'/\r=Bk n r':=by
 rcases qn h with⟨h1,h2⟩|⟨b,x,u,h1,h2⟩;·exact⟨Z,h1,h2⟩
 refine⟨_,h1,?_⟩;injection h2 with h2;exact h2.symm
def Hl(aP:Ls jn)(r:cy):cy:=r.map fun(b,x,u)=>(sd (aP.map (·.1)) b,x,u)
def aaK(l0:Bool)(r r':cy):Prop:=(r'=Z->r=Z)/\∀b x u,r'=U (b,x,u)->∃b0,r=U (b0,x,u)/\(l0=false->4000<b0.size)
def nv(l0 lc:Bool)(aP:Ls jn)(r r':cy):Prop:=(lc=false/\l0=false/\aP.length<=2000/\r=Hl aP r')\/(lc=true/\aP.length<=2001/\aaK l0 r r')
theorem nv.start(l0:Bool)(r:cy):nv l0 l0 [] r r:=by
 cases l0 with
 |false=>
  refine .inl ⟨X,X,Sq,?_⟩
  cases r with
  |none=>rfl
  |some z=>rfl
 |true=>exact .inr ⟨X,Sq,fun h=>h,fun b x u h=>⟨b,h,fun q=>by cases q⟩⟩
theorem nv.plain{l0 lc:Bool}{aP:Ls jn}{r m5:cy}{n:Nd}(h:nv l0 lc aP r (Bk n m5))(hm:¬(n.mode=1)\/lc=true):nv l0 lc aP r m5:=by
 rcases h with⟨h1,h2,h3,h4⟩|⟨h1,h2,h3,h4⟩
 ·have vH:¬n.mode=1:=by
   rcases hm with q|q;(·exact q);rw[h1]at q;cases q
  refine .inl ⟨h1,h2,h3,?_⟩;rw[h4]
  cases m5 with
  |none=>rfl
  |some z=>simp[Bk,Hl,vH]
 refine .inr ⟨h1,h2,fun q=>h3 (by rw[q];rfl),fun b x u q=>?_⟩;exact h4 _ x u (by rw[q];rfl)
theorem nv.head{l0:Bool}{aP:Ls jn}{r m5:cy}{n:Nd}(h:nv l0 false aP r (Bk n m5))(hm:n.mode=1)(t:jn)(ht:t.1=n.tag):nv l0 (decide (2000<aP.length+1)) (aP++[t]) r m5:=by
 rcases h with⟨_,h2,h3,h4⟩|⟨h1,_⟩
 ·have e:Hl aP (Bk n m5)=Hl (aP++[t]) m5:=by
   cases m5 with
   |none=>rfl
   |some z=>
    simp only[Bk,Hl,hm,Option.map_some,if_true]
    rw[Ci,uI,zl,ajv,ht]
  rw[e]at h4;by_cases hl:2000<aP.length+1;·rw[ch hl];refine .inr ⟨X,So,fun q=>by rw[h4,q];rfl,fun b x u q=>⟨sd ((aP++[t]).map (·.1)) b,by rw[h4,q];rfl,fun _=>?_⟩⟩;have:=Z4 ((aP++[t]).map (·.1)) b;simp only[ou,ff,fu,lx]at this;omega
  rw[br hl];exact .inl ⟨X,h2,So,h4⟩
 cases h1
theorem nv.none{l0 lc:Bool}{aP:Ls jn}{r:cy}(h:nv l0 lc aP r Z):r=Z:=by
 rcases h with⟨_,_,_,h4⟩|⟨_,_,h3,_⟩;·rw[h4];rfl
 exact h3 X
theorem nv.len{l0 lc:Bool}{aP:Ls jn}{r r':cy}(h:nv l0 lc aP r r'):aP.length<=2001:=by rcases h with⟨_,_,h,_⟩|⟨_,h,_⟩ <;>omega
theorem nv.end{l0 lc l2:Bool}{aP:Ls jn}{r:cy}{b:Q}{x:Nat}{u:Bool}{t0 t2:Q}{o0 o1:Oo Int}(h:nv l0 lc aP r (U (b,x,u)))(hT:kg t0 lc o0 (sd (aP.map (·.1)) b) u t2 l2 o1):∃b0,r=U (b0,x,u)/\kg t0 l0 o0 b0 u t2 l2 o1:=by
 rcases h with⟨h1,h2,_,h4⟩|⟨h1,_,_,h4⟩;·refine⟨_,h4,?_⟩;rw[h2,<-h1];exact hT
 obtain⟨b0,h5,h6⟩:=h4 b x u X;refine⟨b0,h5,?_⟩;subst h1;have hl:=hT.mono X;subst hl;exact hT.longer h6
def ze(pre:Ls (Nat×jn))(b:Q):Q:=pre.foldl (fun b x=>cf 2 true x.2.1 b) b
theorem ajt(pre:Ls (Nat×jn))(x:Nat×jn)(b:Q):ze (pre++[x]) b=cf 2 true x.2.1 (ze pre b):=by simp[ze]
theorem acr(aP:Ls jn):(pn aP aP.length).map (·.2)=aP.reverse:=by
 apply Ll;·simp[pn]
 intro i h1 h2;simp only[pn,List.map_map,List.getElem_map,List.getElem_range,Function.comp_apply,List.getElem_reverse];have hi:i<aP.length:=by simpa using h2
 rw[dz O];rfl
theorem ajs(aP:Ls jn)(b:Q):ze (pn aP aP.length) b=sd (aP.map (·.1)) b:=by
 have h:=acr aP;have e1:ze (pn aP aP.length) b=((pn aP aP.length).map (·.2)).foldl (fun b t=>cf 2 true t.1 b) b:=by unfold ze;rw[List.foldl_map]
 rw[e1,h,List.foldl_reverse];unfold sd;rw[List.foldr_map]
end
section
open Go.Proofs.Tryz
open Go.RowKit
def qf(w:M)(a:Oo Ad)(vs:Ls Vl):Prop:=∀j,j<vs.length->∃g o,a=U (D g o Z)/\w.cell? (D g (o+j*4) Z)=U (I J (vl vs j).kind)/\w.cell? (D g (o+j*4+1) Z)=U (Y (vl vs j).text)/\
 w.cell? (D g (o+j*4+2) Z)=U (I J (vl vs j).alt)/\w.cell? (D g (o+j*4+3) Z)=U (I J (vl vs j).kids)
theorem Ha:∀(l:Ls Vl) (i:Nat),i<l.length->∀j,j<4->(df l)[i*4+j]? =(vl l i).cells[j]?
 | [],i,h,_,_=>Ab h (dh _)
 |v::l,0,_,j,hj=>by
  have e:df (v::l)=v.cells++df l:=by unfold df;simp
  rw[e,uH (by show 0*4+j<4;omega)]
  simp[vl]
 |v::l,i+1,h,j,hj=>by
  have e:df (v::l)=v.cells++df l:=by unfold df;simp
  have hl:v.cells.length=4:=X
  rw[e,qq O,hl,show(i+1)*4+j-4=i*4+j by omega,Ha l i (by simpa using h) j hj]
  simp[vl]
theorem qf.of_own{w:M}{base:Nat}{a:Oo Ad}{c:Nat}{vs:Ls Vl}(h:w.ownsRow base 60 4 (S a vs.length c) vs.length (df vs)):qf w a vs:=fun j hj=>by
 obtain⟨a',c',e,hf⟩:=uV h;obtain⟨g,rfl⟩:=hf O;injection e with e1 _ _;subst e1;have q:=h.cells (g:=g) X;refine⟨g,0,X,?_,?_,?_,?_⟩ <;>rw[ly];·have:=q (j*4) (I J (vl vs j).kind) (by rw[show j*4=j*4+0 by omega,Ha vs j hj 0 Dc];rfl);rwa[um]at this
 ·have:=q (j*4+1) (Y (vl vs j).text) (by rw[Ha vs j hj 1 Dc];rfl);rwa[um]at this
 ·have:=q (j*4+2) (I J (vl vs j).alt) (by rw[Ha vs j hj 2 Dc];rfl);rwa[um]at this
 have:=q (j*4+3) (I J (vl vs j).kids) (by rw[Ha vs j hj 3 Dc];rfl);rwa[um]at this
theorem qf.below{w w':M}{a:Oo Ad}{vs:Ls Vl}(h:qf w a vs)(hb:Bw w w'):qf w' a vs:=fun j hj=>by obtain⟨g,o,e,h1,h2,h3,h4⟩:=h j hj;exact⟨g,o,e,Cb hb h1,Cb hb h2,Cb hb h3,Cb hb h4⟩
end
section
open Go.RowKit
def Ev(W:M)(R:Nat)(a:Oo Ad)(n c:Nat)(data:Q)(N:Nd)(x y:Nat)(dp:Int)(tree:Ls Vl)(e:Ending)(w':M):Prop:=
 ∃(v:Int) (b9:Ls Vl) (e' p':Int),e=Rt (I J v)/\bm W w' R a n c data b9 e' p'/\
  ((e'=0/\∃to u,v=(to:Nat)/\pg N data x y dp to u/\b9=tree++[⟨N.kind,u,0,0⟩])\/(e'≠0/\∀to u,¬pg N data x y dp to u))
def Ly(N:Nd)(data:Q)(x y:Nat)(dp:Int)(tree b9:Ls Vl)(v e':Int):Prop:=
 (e'=0/\∃to u,v=(to:Nat)/\pg N data x y dp to u/\b9=tree++[⟨N.kind,u,0,0⟩])\/(e'≠0/\∀to u,¬pg N data x y dp to u)
theorem Xl{N:Nd}{data:Q}{x y z l:Nat}{dp:Int}{tree b9:Ls Vl}{p e' p' hc hn:Int}{hb:Bool}(cl nu:Int)(hk:(hd (data.extract x y)).1=0)(hH:(hd (data.extract x y)).2=⟨hc,hb,hn,z,l⟩)(jO:(N.tag<0/\cl=0/\nu=own N.kind)\/(0<=N.tag/\N.mode=0/\cl=2/\nu=N.tag))(h:ua N.kind cl nu ⟨hc,hb,hn,z,l⟩ data x z (x+z+l) dp tree p b9 e' p'):Ly N data x y dp tree b9 ((x:Int)+z+l) e':=by
 have yR:∀to u,pg N data x y dp to u->to=x+z+l/\hc=cl/\hn=nu/\hb=false/\dp<=12/\u=data.extract (x+z) (x+z+l)/\bu N.kind u:=by
  rintro to u ⟨h1,_,h3,h4⟩;rw[hH]at h3 h4;simp only[ld]at h3 h4;have:to=x+z+l:=O;subst this;rcases h4 with⟨q1,q2,q3,q4,q5,q6⟩|⟨q1,q2,q3,q4,q5,q6,q7⟩|⟨q1,q2,_⟩
  ·rcases jO with⟨_,r1,r2⟩|⟨r0,_⟩;(·exact⟨X,q2.trans r1.symm,q3.trans r2.symm,q4,h1,q5,q6⟩);omega
  ·rcases jO with⟨r0,_⟩|⟨_,_,r1,r2⟩;(·omega);exact⟨X,q3.trans r1.symm,q4.trans r2.symm,q5,h1,q6,q7⟩
  rcases jO with⟨r0,_⟩|⟨_,r1,_⟩;·omega
  exact Ab r1 q2
 rcases h with⟨h1,_,h3,_⟩|⟨_,h2,_,h3,_⟩|⟨⟨h1,h2,h3⟩,h4,h5,h6,h7,_⟩|⟨_,_,h5,_,h7,_⟩;·exact .inr ⟨O,fun to u q=>h1 ⟨(yR to u q).2.1,(yR to u q).2.2.1,(yR to u q).2.2.2.1⟩⟩
 ·exact .inr ⟨O,fun to u q=>by have:=(yR to u q).2.2.2.2.1;omega⟩
 ·refine .inl ⟨h7,x+z+l,_,O,⟨h4,hk,by rw[hH];simp only;omega,?_⟩,h6⟩;rw[hH];simp only[ld];rcases jO with⟨r0,r1,r2⟩|⟨r0,r1,r2,r3⟩;·exact .inl ⟨r0,h1.trans r1,h2.trans r2,h3,trivial,h5⟩
  exact .inr (.inl ⟨r0,r1,h1.trans r2,h2.trans r3,h3,trivial,h5⟩)
 exact .inr ⟨O,fun to u q=>h5 (by have:=(yR to u q).2.2.2.2.2;rw[<-this.1];exact this.2)⟩
theorem uA{N:Nd}{data:Q}{x y z l:Nat}{dp hc hn:Int}{hb:Bool}(hH:(hd (data.extract x y)).2=⟨hc,hb,hn,z,l⟩)(ht:0<=N.tag)(hm:N.mode=1){to:Nat}{u:Q}(h:pg N data x y dp to u):to=x+z+l/\hc=2/\hn=N.tag/\hb=true/\dp<=12/\(hd (data.extract (x+z) (x+z+l))).1=0/\∀eU hb2 iT (z2 l2:Nat),(hd (data.extract (x+z) (x+z+l))).2=⟨eU,hb2,iT,z2,l2⟩->eU=0/\iT=own N.kind/\hb2=false/\x+z+z2+l2=x+z+l/\u=data.extract (x+z+z2) (x+z+l)/\bu N.kind u:=by
 obtain⟨h1,_,h3,h4⟩:=h;rw[hH]at h3 h4;simp only[ld]at h3 h4;obtain rfl:to=x+z+l:=O;rcases h4 with⟨q1,_⟩|⟨_,q1,_⟩|⟨_,_,q1,q2,q3,t,rfl,q4,q5,q6,q7,q8,q9,A2⟩;·omega
 ·omega
 refine⟨X,q1,q2,q3,h1,q4,fun eU hb2 iT z2 l2 rC=>?_⟩;rw[rC]at q5 q6 q7 q8 q9;simp only[ld]at q5 q6 q7 q8 q9;exact⟨q5,q6,q7,O,q9,A2⟩
theorem agI{N:Nd}{data:Q}{x y z l z2 l2:Nat}{dp:Int}{tree b9:Ls Vl}{p e' p' hc hn eU iT:Int}{hb hb2:Bool}(hk:(hd (data.extract x y)).1=0)(hH:(hd (data.extract x y)).2=⟨hc,hb,hn,z,l⟩)(ht:0<=N.tag)(hm:N.mode=1)(hq:hc=2/\hn=N.tag/\hb=true)(gJ:dp<=12)(iB:(hd (data.extract (x+z) (x+z+l))).1=0)(rC:(hd (data.extract (x+z) (x+z+l))).2=⟨eU,hb2,iT,z2,l2⟩)(h:ua N.kind 0 (own N.kind) ⟨eU,hb2,iT,z2,l2⟩ data (x+z) z2 (x+z+z2+l2) dp tree p b9 e' p'):(x+z+z2+l2=x+z+l->Ly N data x y dp tree b9 ((x:Int)+z+l) e')/\(x+z+z2+l2≠x+z+l->∀to u,¬pg N data x y dp to u)/\(e'≠0->∀to u,¬pg N data x y dp to u):=by
 have jA:∀{to u},pg N data x y dp to u->_:=fun q=>uA hH ht hm q;have aI:e'≠0->∀to u,¬pg N data x y dp to u:=fun he to u q=>by
  obtain⟨r1,r2,r3,r4,r5,r6,r7⟩:=jA q;obtain⟨s1,s2,s3,s4,s5,s6⟩:=r7 eU hb2 iT z2 l2 rC;rcases h with⟨g1,_⟩|⟨_,g1,_⟩|⟨_,_,_,_,g1,_⟩|⟨_,_,g1,_⟩;·exact g1 ⟨s1,s2,s3⟩
  ·omega
  ·exact he g1
  exact g1 (by rw[s4,<-s5];exact s6)
 refine⟨fun he=>?_,fun he to u q=>he ((jA q).2.2.2.2.2.2 eU hb2 iT z2 l2 rC).2.2.2.1,aI⟩;by_cases QN:e'=0
 ·left;refine⟨QN,x+z+l,data.extract (x+z+z2) (x+z+l),O,⟨gJ,hk,by rw[hH];simp only;omega,?_⟩,?_⟩
  ·rw[hH];simp only[ld];refine .inr (.inr ⟨ht,O,hq.1,hq.2.1,hq.2.2,_,X,iB,?_⟩);rw[rC];simp only[ld];rcases h with⟨_,_,g1,_⟩|⟨_,_,_,g1,_⟩|⟨⟨g1,g2,g3⟩,_,g4,_⟩|⟨_,_,_,_,g1,_⟩;(·omega);(·omega);(·exact⟨g1,g2,g3,O,trivial,by rw[<-he];exact g4⟩);omega
  rcases h with⟨_,_,g1,_⟩|⟨_,_,_,g1,_⟩|⟨_,_,_,g4,_⟩|⟨_,_,_,_,g1,_⟩;·omega
  ·omega
  ·rw[<-he];exact g4
  omega
 exact .inr ⟨QN,aI QN⟩
end
section
open Go.Proofs.Tryz
open Go.RowKit
theorem agK(s:Ls Nd)(W w:M)(R:Nat)(a:Oo Ad)(c:Nat)(data:Q)(tree:Ls Vl)(p:Int)(i x y:Nat)(dp:Int)(h:bm W w R a s.length c data tree 0 p)(hs:ew W a s)(hi:i<s.length)(bQ:1<=(nd s i).kind)(cY:(nd s i).kind<=9)(fX:(nd s i).tag<0)(jQ:x<=y)(hy:y<=data.size)(hm:data.size<=140737488355328)(ht:tree.length<=1099511627776):Cs prog 69 #[Po (U (D R 0 Z)),I J i,I J x,I J y,I J dp] w fun e w'=>Ev W R a s.length c data (nd s i) x y dp tree e w':=by
 have HI:Hi (bm W w R a s.length c data tree 0 p):=h;have fB:Hi (∀(w1:M) (p:Int) (x y:Nat),bm W w1 R a s.length c data tree 0 p->x<=y->y<=data.size->Cs prog 101 #[Po (U (D R 0 Z)),I J x,I J y] w1 fun e w'=>e=Rt (hv (hd (data.extract x y)).2)/\bm W w' R a s.length c data tree (hd (data.extract x y)).1 (if(hd (data.extract x y)).1=0 then p else x)/\Fr R w1 w'):=fun w1 p x y h1 h2 h3=>Gm W w1 R a s.length c data tree p x y h1 h2 h3 hm;obtain⟨hb,gK,vt,hr,_⟩:=h;unfold ix at hr;have c0:w.cell? (D R 0 Z)=U (S a s.length c):=by simp[Wc,hr]
 have eS:=lc c0;clear hr;obtain⟨b,o,ka,kc,rfl,nc,kl,km,ks⟩:=hs i hi;obtain⟨n1,n2,n3,n4⟩:=nc.below hb;have lC:(i:Int)<s.length:=O;clear hs nc ks hb;generalize hN:nd s i=N at*;clear hN;have HX:Hi (∀to u,pg N data x y dp to u->(hd (data.extract x y)).1=0):=fun to u q=>q.2.1;go_enter func69,ntmps69;go_wp2_with fail;refine(fB _ p x y (HI.below Be) jQ hy).mono ?_;rintro e w1 ⟨rfl,eR,dJ⟩;have aV:Hi (w1.heap[w.heap.size]? =U (C #[I J N.kind,I J N.tag,I J N.mode,S ka N.kids.length kc] 58 (0,0))):=dJ _ _ _ O Dc (bl w _);obtain⟨hc,hb,hn,hz,hl,hH⟩:∃hc hb hn hz hl,(hd (data.extract x y)).2=⟨hc,hb,hn,hz,hl⟩:=⟨_,_,_,_,_,X⟩;have HH:Hi ((hd (data.extract x y)).2=⟨hc,hb,hn,hz,hl⟩):=hH;rw[hH];unfold hv;obtain⟨k1,hk⟩:∃k,(hd (data.extract x y)).1=k:=Ey;have HK:Hi ((hd (data.extract x y)).1=k1):=hk;rw[hk]at eR;have aZ:Hi (bm W w1 R (U (D b o Z)) s.length c data tree k1 (if k1=0 then p else x)):=eR;obtain⟨_,_,ZW,bW,_⟩:=eR;unfold ix at bW;have r3:w1.cell? (D R 3 Z)=U (I J k1):=by simp[Wc,bW]
 have jB:w.heap.size<w1.heap.size:=by
  rcases ny w.heap.size w1.heap.size with h'|h';·exact h'
  have:=aV.out;rw[lu h']at this;cases this
 have P3:R<w1.heap.size:=O;obtain⟨m0,m1,m2,m3⟩:=fi aV;clear dJ hH hk bW n1 n2 n3 n4 c0;by_cases fI:k1=0
 ·subst fI;have hok:=pq HK;rw[HH.out]at hok;simp only at hok;rw[show(data.extract x y).size=y-x by simp;omega]at hok;obtain⟨z,rfl⟩:∃z:Nat,hz=z:=⟨hz.toNat,O⟩;obtain⟨l,rfl⟩:∃l:Nat,hl=l:=⟨hl.toNat,O⟩;have R3:x+z+l<=y:=O;have YV:(x:Int)+z<=9223372036854775807:=O;have YW:(x:Int)+z+l<=9223372036854775807:=O
  have BA:Hi (∀(w3:M) (cl nu:Int),bm W w3 R (U (D b o Z)) s.length c data tree 0 p->Cs prog 102 #[Po (U (D R 0 Z)),Ag #[I J N.kind,I J N.tag,I J N.mode,S ka N.kids.length kc],I J cl,I J nu,Ag #[I J hc,Bo hb,I J hn,I J z,I J l],I J x,I J ((x:Int)+z+l),I J dp] w3
   fun e w'=>Ew W w3 R (U ⟨b,o,Z⟩) s.length c data (Tu #[]) (ua N.kind cl nu ⟨hc,hb,hn,z,l⟩ data x z (x+z+l) dp tree p) e w'):=fun w3 cl nu h3=>by
   have:=Fi W w3 R (U (D b o Z)) s.length c data tree p N ka kc cl nu hc hb hn z l x (x+z+l) dp h3 bQ cY O O hm ht
   rw[show((x+z+l:Nat):Int)=(x:Int)+z+l by omega]at this
   exact this
  have aS:Hi (∀o1,bm W (w1.alloc o1) R (U (D b o Z)) s.length c data tree 0 p):=fun o1=>aZ.below Be;clear hok;have OZ:Hi (∀args w,(callFunc 103 args).run prog w= .ok (.enter 103 args) w):=fun args w=>Bq func103 Kr Rf args w;have O0:Hi (∀args w,(callFunc 102 args).run prog w= .ok (.enter 102 args) w):=fun args w=>Bq func102 Kr Rf args w;have HO:Hi (∀w,Cs prog 103 #[I J N.kind] w fun e w'=>e=Rt (I J (own N.kind))/\Bw w w'):=fun w=>Pn N.kind O O w;have HT:Hi (N.tag<0):=fX;go_wp2_with fail;go_region_law (first|(refine Bt X 103 _ _ X #[I J N.kind] (by simp[Ae,Ap]) (I J (own N.kind)) (fun w'=>H ((w1.alloc (C #[I J hc,Bo hb,I J hn,I J z,I J l] 179)).drew).heap.size ((w1.alloc (C #[I J hc,Bo hb,I J hn,I J z,I J l] 179)).drew) w') (OZ _ _) (HO _) ?_;intro w3 hb3;have bI:=((aS _).below (Go.below_drewN By 1)).below hb3;obtain⟨WT,AB⟩:=wu hb3)|(refine Bt X 102 _ _ X #[Po (U (D R 0 Z)),Ag #[I J N.kind,I J N.tag,I J N.mode,S ka N.kids.length kc],I J 0,I J (own N.kind),Ag #[I J hc,Bo hb,I J hn,I J z,I J l],I J x,I J ((x:Int)+z+l),I J dp] (by simp[Ae,Ap]) (Tu #[]) (fun w'=>∃b9 e' p',bm W w' R (U (D b o Z)) s.length c data b9 e' p'/\ua N.kind 0 (own N.kind) ⟨hc,hb,hn,z,l⟩ data x z (x+z+l) dp tree p b9 e' p'/\Fr R w3 w') (O0 _ _) (BA _ 0 (own N.kind) bI) ?_;rintro w4 ⟨b9,e',p',bZ,wF,QS⟩));all_goals have aJ:Hi (ua N.kind 0 (own N.kind) ⟨hc,hb,hn,z,l⟩ data x z (x+z+l) dp tree p b9 e' p'):=wF;have bE:Hi (bm W w4 R (U (D b o Z)) s.length c data b9 e' p'):=bZ;clear wF bZ QS WT AB bI hb3;go_wp2;go_ret;exact⟨_,b9,e',p',X,bE,Xl 0 (own N.kind) HK HH (.inl ⟨HT,X,X⟩) aJ⟩
 have qP:Hi (k1≠0):=fI;have e0:(k1 !=0)=true:=by simp[fI]
 have GD:Hi (bm W w1 R (U (D b o Z)) s.length c data tree k1 x):=by have:=aZ.out;rw[G fI]at this;exact this
 have cH:Hi (∀o1,bm W (w1.alloc o1) R (U (D b o Z)) s.length c data tree k1 x):=fun o1=>GD.below Be;clear fI;go_wp2;go_ret;exact⟨y,tree,k1,x,X,cH _,.inr ⟨qP,fun to u q=>qP (HK.symm.trans (HX to u q))⟩⟩
theorem agL(s:Ls Nd)(W w:M)(R:Nat)(a:Oo Ad)(c:Nat)(data:Q)(tree:Ls Vl)(p:Int)(i x y:Nat)(dp:Int)(h:bm W w R a s.length c data tree 0 p)(hs:ew W a s)(hi:i<s.length)(bQ:1<=(nd s i).kind)(cY:(nd s i).kind<=9)(AQ:0<=(nd s i).tag)(mX:(nd s i).mode=0)(jQ:x<=y)(hy:y<=data.size)(hm:data.size<=140737488355328)(ht:tree.length<=1099511627776):Cs prog 69 #[Po (U (D R 0 Z)),I J i,I J x,I J y,I J dp] w fun e w'=>Ev W R a s.length c data (nd s i) x y dp tree e w':=by
 have HI:Hi (bm W w R a s.length c data tree 0 p):=h;have fB:Hi (∀(w1:M) (p:Int) (x y:Nat),bm W w1 R a s.length c data tree 0 p->x<=y->y<=data.size->Cs prog 101 #[Po (U (D R 0 Z)),I J x,I J y] w1 fun e w'=>e=Rt (hv (hd (data.extract x y)).2)/\bm W w' R a s.length c data tree (hd (data.extract x y)).1 (if(hd (data.extract x y)).1=0 then p else x)/\Fr R w1 w'):=fun w1 p x y h1 h2 h3=>Gm W w1 R a s.length c data tree p x y h1 h2 h3 hm;obtain⟨hb,gK,vt,hr,_⟩:=h;unfold ix at hr;have c0:w.cell? (D R 0 Z)=U (S a s.length c):=by simp[Wc,hr]
 have eS:=lc c0;clear hr;obtain⟨b,o,ka,kc,rfl,nc,kl,km,ks⟩:=hs i hi;obtain⟨n1,n2,n3,n4⟩:=nc.below hb;have lC:(i:Int)<s.length:=O;clear hs nc ks hb;generalize hN:nd s i=N at*;clear hN;have pK:Hi (N.mode=0):=mX;have e0:(N.mode==0)=true:=by simp[mX]
 clear mX;have HX:Hi (∀to u,pg N data x y dp to u->(hd (data.extract x y)).1=0):=fun to u q=>q.2.1;go_enter func69,ntmps69;go_wp2_with fail;refine(fB _ p x y (HI.below Be) jQ hy).mono ?_;rintro e w1 ⟨rfl,eR,dJ⟩;have aV:Hi (w1.heap[w.heap.size]? =U (C #[I J N.kind,I J N.tag,I J N.mode,S ka N.kids.length kc] 58 (0,0))):=dJ _ _ _ O Dc (bl w _);obtain⟨hc,hb,hn,hz,hl,hH⟩:∃hc hb hn hz hl,(hd (data.extract x y)).2=⟨hc,hb,hn,hz,hl⟩:=⟨_,_,_,_,_,X⟩;have HH:Hi ((hd (data.extract x y)).2=⟨hc,hb,hn,hz,hl⟩):=hH;rw[hH];unfold hv;obtain⟨k1,hk⟩:∃k,(hd (data.extract x y)).1=k:=Ey;have HK:Hi ((hd (data.extract x y)).1=k1):=hk;rw[hk]at eR;have aZ:Hi (bm W w1 R (U (D b o Z)) s.length c data tree k1 (if k1=0 then p else x)):=eR;obtain⟨_,_,ZW,bW,_⟩:=eR;unfold ix at bW;have r3:w1.cell? (D R 3 Z)=U (I J k1):=by simp[Wc,bW]
 have jB:w.heap.size<w1.heap.size:=by
  rcases ny w.heap.size w1.heap.size with h'|h';·exact h'
  have:=aV.out;rw[lu h']at this;cases this
 have P3:R<w1.heap.size:=O;obtain⟨m0,m1,m2,m3⟩:=fi aV;clear dJ hH hk bW n1 n2 n3 n4 c0;by_cases fI:k1=0
 ·subst fI;have hok:=pq HK;rw[HH.out]at hok;simp only at hok;rw[show(data.extract x y).size=y-x by simp;omega]at hok;obtain⟨z,rfl⟩:∃z:Nat,hz=z:=⟨hz.toNat,O⟩;obtain⟨l,rfl⟩:∃l:Nat,hl=l:=⟨hl.toNat,O⟩;have R3:x+z+l<=y:=O;have YV:(x:Int)+z<=9223372036854775807:=O;have YW:(x:Int)+z+l<=9223372036854775807:=O
  have BA:Hi (∀(w3:M) (cl nu:Int),bm W w3 R (U (D b o Z)) s.length c data tree 0 p->Cs prog 102 #[Po (U (D R 0 Z)),Ag #[I J N.kind,I J N.tag,I J N.mode,S ka N.kids.length kc],I J cl,I J nu,Ag #[I J hc,Bo hb,I J hn,I J z,I J l],I J x,I J ((x:Int)+z+l),I J dp] w3
   fun e w'=>Ew W w3 R (U ⟨b,o,Z⟩) s.length c data (Tu #[]) (ua N.kind cl nu ⟨hc,hb,hn,z,l⟩ data x z (x+z+l) dp tree p) e w'):=fun w3 cl nu h3=>by
   have:=Fi W w3 R (U (D b o Z)) s.length c data tree p N ka kc cl nu hc hb hn z l x (x+z+l) dp h3 bQ cY O O hm ht
   rw[show((x+z+l:Nat):Int)=(x:Int)+z+l by omega]at this
   exact this
  have aS:Hi (∀o1,bm W (w1.alloc o1) R (U (D b o Z)) s.length c data tree 0 p):=fun o1=>aZ.below Be;clear hok;have HT:Hi (0<=N.tag):=AQ;go_wp2_with fail;refine(BA _ 2 N.tag (aS _)).mono ?_;rintro e w4 ⟨rfl,b9,e',p',(bE:Hi _),(aJ:Hi _),QS⟩;clear QS;go_wp2;go_ret;exact⟨_,b9,e',p',X,bE,Xl 2 N.tag HK HH (.inr ⟨HT,pK,X,X⟩) aJ⟩
 have qP:Hi (k1≠0):=fI;have e0:(k1 !=0)=true:=by simp[fI]
 have GD:Hi (bm W w1 R (U (D b o Z)) s.length c data tree k1 x):=by have:=aZ.out;rw[G fI]at this;exact this
 have cH:Hi (∀o1,bm W (w1.alloc o1) R (U (D b o Z)) s.length c data tree k1 x):=fun o1=>GD.below Be;clear fI;go_wp2;go_ret;exact⟨y,tree,k1,x,X,cH _,.inr ⟨qP,fun to u q=>qP (HK.symm.trans (HX to u q))⟩⟩
end
