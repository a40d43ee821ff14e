/-
Several texts in one.
-/
import Derived.Test.YtkkicodfpekbgaaGreatDoorJb1
import Derived.Test.YtkkicodfpekbgaaGreatDoorJb2
open Go.Value renaming int->I,slice->S,bool->Bo
open Go.IntKind renaming i64->J
open Go.Obj renaming cells->C
open Go.Ending renaming returned->Rt
open Option renaming some->U,none->Z
open Go renaming World->M,Calls->Cs,Addr->Ad
open _root_ renaming ByteArray->Q,Option->Oo,List->Ls
open Go.RowKit renaming Below->H,intOf->Io,Hid->Hi
open Go.World renaming cell?->Wc
open UInt8 renaming ofNat->Uo
set_option linter.unusedSimpArgs false
set_option linter.unusedVariables false
set_option maxRecDepth 100000
set_option maxHeartbeats 8000000
namespace Go.Proofs.YtkkicodfpekbgaaGreatDoor
open Go.Proofs.Tryz
open Go.RowKit
theorem i3{r:Q}(h:(hd r).1=0):1<=(hd r).2.s/\0<=(hd r).2.l/\(hd r).2.s+(hd r).2.l<=r.size:=by
 have hr:=zY (r.extract 1 r.size);unfold hd at h ⊢;repeat' split at h
 all_goals first|(exfalso;simp at h;done)|skip
 ·rename_i h1;exfalso;exact h1 h
 rename_i h1 h2 h3 h4;rw[G h1,G h2,G h3,G h4];simp only;omega
theorem qY(k:Int)(h:0<=k)(h':k<=12)(w:M):Cs prog 103 #[I J k] w fun e w'=>e=Rt (I J (own k))/\H w.heap.size w w':=by
 have HO:Hi _:=fun w=>zU k h h' w;go_enter func103,ntmps103;go_wp2_with fail;refine(HO _).mono ?_;rintro e w1 ⟨rfl,hb⟩;have HB:Hi _:=hb;clear hb;go_wp2;go_ret;exact⟨X,HB⟩
def fP(N:Nd)(data:Q)(x y:Nat)(dp:Int)(to:Nat)(u:Q):Prop:=
 dp<=12/\(hd (data.extract x y)).1=0/\(to:Int)=x+(hd (data.extract x y)).2.s+(hd (data.extract x y)).2.l/\
 ((N.tag<0/\(hd (data.extract x y)).2.c=0/\(hd (data.extract x y)).2.n=own N.kind/\(hd (data.extract x y)).2.b=false/\u=data.extract (x+(hd (data.extract x y)).2.s.toNat) to/\aR N.kind u)\/
  (0<=N.tag/\N.mode=0/\(hd (data.extract x y)).2.c=2/\(hd (data.extract x y)).2.n=N.tag/\(hd (data.extract x y)).2.b=false/\u=data.extract (x+(hd (data.extract x y)).2.s.toNat) to/\aR N.kind u)\/
  (0<=N.tag/\N.mode≠0/\(hd (data.extract x y)).2.c=2/\(hd (data.extract x y)).2.n=N.tag/\(hd (data.extract x y)).2.b=true/\
    ∃t,t=data.extract (x+(hd (data.extract x y)).2.s.toNat) to/\(hd t).1=0/\(hd t).2.c=0/\(hd t).2.n=own N.kind/\(hd t).2.b=false/\(x:Int)+(hd (data.extract x y)).2.s+(hd t).2.s+(hd t).2.l=to/\
     u=data.extract (x+(hd (data.extract x y)).2.s.toNat+(hd t).2.s.toNat) to/\aR N.kind u))
end Go.Proofs.YtkkicodfpekbgaaGreatDoor
namespace Go.Proofs.YtkkicodfpekbgaaGreatDoor
open Go.RowKit
def Nd.stops(n:Nd)(k:Kd):Prop:=n.kind=10/\k.must
def kd(n:Nd)(i:Nat):Kd:=n.kids.getD i j6
def kW(ae:Nat->Nat->Prop)(n:Nd)(i m:Nat):Prop:=n.stops (kd n i)\/∀k,i<k->k<m->(∀j,i<j->j<k->¬n.stops (kd n j))->¬ae (kd n i).node.toNat (kd n k).node.toNat
def Told(ae:Nat->Nat->Prop)(n:Nd):Prop:=∀i,i<n.kids.length->kW ae n i n.kids.length
def dr(k:Int)(m:Nat):Prop:=if k=10 then m<=8 else if k=11\/k=12 then m=1 else if k=13 then 1<=m/\m<=8 else m=0
def cX(len:Nat)(n:Nd)(k:Kd):Prop:=0<=k.node/\k.node<len/\(k.must\/n.kind=10)/\¬(k.opt=true/\k.dflt.size≠0)
def iN(n:Nd):Prop:=n.kind<1\/14<n.kind\/n.tag< -1\/30<n.tag\/(n.mode≠0/\n.mode≠1)
def il(n:Nd):Prop:=(n.mode=1/\n.tag= -1)\/((n.kind=13\/n.kind=14)/\0<=n.tag/\n.mode=0)
def fw(len:Nat)(n:Nd):Prop:=¬iN n/\¬il n/\dr n.kind n.kids.length/\∀j,j<n.kids.length->cX len n (kd n j)
def cu(N:Nd)(t u:Q):Prop:=fP N t 0 t.size 1 t.size u
def eW(s:Ls Nd)(n:Nd)(m:Nat):Prop:=∀j,j<m->(kd n j).dflt.size=0\/((nd s (kd n j).node.toNat).kind<=9/\∃u,cu (nd s (kd n j).node.toNat) (kd n j).dflt u)
def cd(s:Ls Nd):Prop:=1<=s.length/\s.length<=40/\(∀i,i<s.length->fw s.length (nd s i))/\(∀i,i<s.length->¬kV s i)/\
 ∀i,i<s.length->((nd s i).kind=10\/(nd s i).kind=13->Told (dU s) (nd s i))/\eW s (nd s i) (nd s i).kids.length
theorem gD{s:Ls Nd}(h:∀i,i<s.length->fw s.length (nd s i)):gq s:=fun i hi k hk=>by
 obtain⟨j,hj,e⟩:=dN hk;have:=(h i hi).2.2.2 j hj;unfold kd at this;rw[aB,aC hj]at this;simp only[BM,e]at this;exact⟨this.1,this.2.1⟩
theorem fu{s:Ls Nd}(h:∀i,i<s.length->fw s.length (nd s i)):nr s:=fun i hi=>by have:=(h i hi).1;unfold iN at this;omega
theorem qF{s:Ls Nd}(h:∀i,i<s.length->fw s.length (nd s i)){i:Nat}(hi:i<s.length):(nd s i).kids.length<=8:=by
 have:=(h i hi).2.2.1;unfold dr at this;repeat' split at this
 all_goals omega
theorem pF{s:Ls Nd}(h:∀i,i<s.length->fw s.length (nd s i)){i:Nat}(hi:i<s.length):(nd s i).mode=0\/(nd s i).mode=1:=by have:=(h i hi).1;unfold iN at this;omega
end Go.Proofs.YtkkicodfpekbgaaGreatDoor
namespace Go.Proofs.YtkkicodfpekbgaaGreatDoor
open Go.Proofs.Tryz
open Go.RowKit
theorem Dq(s:Ls Nd)(a:Oo Ad)(cp x:Nat)(ka:Oo Ad)(kc:Nat)(w:M)(hs:ju w a s)(hw:gq s)(hkd:nr s)(hx:x<s.length)(hn:s.length<=40)(hka:be w ka (nd s x).kids)(hkl:(nd s x).kids.length<=8):Cs prog 38 #[S a s.length cp,sW (nd s x) ka kc] w fun e w'=>dB (Told (dU s) (nd s x)) w e w':=by
 have HC:Hi (∀(wr:M) (i k:Nat),H w.heap.size w wr->i<s.length->k<s.length->Cs prog 68 #[S a s.length cp,I J i,I J k] wr fun e w'=>dB (dU s i k) wr e w'):=fun wr i k hb hi hk=>x7 s a cp i k wr (hs.below hb) hw hkd hi hk hn;have HM:Hi _:=fun wr k=>wD k wr;have HKI:Hi _:=hka;have HKR:Hi (∀j,j<(nd s x).kids.length->∃t:Nat,(kd (nd s x) j).node=t/\t<s.length):=fun j hj=>by have:=hw x hx (kd (nd s x) j) (by unfold kd;rw[aB,aC hj];exact bz hj);exact⟨(kd (nd s x) j).node.toNat,(dh this.1).symm,O⟩
 clear hs hw hkd hka;unfold sW;generalize nd s x=n at*;go_enter func38,ntmps38;go_wp2;obtain⟨B,hB⟩:∃B,B=w.heap.size:=Ez
 have HW0:Hi (∀wr,H (w.alloc (C #[I J n.kind,I J n.tag,I J n.mode,S ka n.kids.length kc] 58)).heap.size (w.alloc (C #[I J n.kind,I J n.tag,I J n.mode,S ka n.kids.length kc] 58)) wr->
  wr.cell? ⟨B,0,Z⟩=U (I J n.kind)/\wr.cell? ⟨B,3,Z⟩=U (S ka n.kids.length kc)/\H w.heap.size w wr):=fun wr h=>by
  have h1:=ax (aA w _) h
  subst hB
  exact⟨by simp[Wc,h1],by simp[Wc,h1],aT h⟩
 generalize(w.alloc (C #[I J n.kind,I J n.tag,I J n.mode,S ka n.kids.length kc] 58))=W0 at*;rw[<-hB];clear hB;go_loopw [5] (fun vi wr=>∃i:Nat,i<=n.kids.length/\vi=I J i/\(∀i',i'<i->kW (dU s) n i' n.kids.length)/\H W0.heap.size W0 wr) (fun vi _=>n.kids.length-(Io vi).toNat);case atStart=>exact⟨0,Lz,X,fun _ h=>Ab h (aO _),By⟩
 obtain⟨i,hi,rfl,hall,hbr⟩:=hrel;have HA:Hi _:=hall;have HB:Hi (H W0.heap.size W0 wr):=hbr;obtain⟨c0,c3,hbw⟩:=HW0 wr hbr;have HBW:Hi (H w.heap.size w wr):=hbw;clear hall hbr hbw;by_cases hlt:i<n.kids.length
 ·have hlt':(i:Int)<n.kids.length:=O;obtain⟨kb,ko,rfl,kcl⟩:=HKI i hlt;obtain⟨k1,k2,k3⟩:=kcl.below HBW;obtain⟨ti,hti,htl⟩:=HKR i hlt;have HTI:Hi ((kd n i).node=ti):=hti;have HCL:Hi (dt w kb (ko+i*3) (kd n i)):=kcl;clear hti kcl;obtain⟨y,hy⟩:∃y,n.kids.getD i j6=y:=Ey;rw[hy]at k1 k2 k3;have HY:Hi (kd n i=y):=hy;clear hy;go_wp2_with fail;refine(HM _ y).mono ?_;rintro e w1 ⟨r,rfl,hr,hb1⟩;have HR:Hi (r=true↔(kd n i).must):=by show r=true↔(kd n i).must;rw[HY.out];exact hr
  have HB1:Hi _:=HB.trans (hb1.mono HB.size);obtain⟨d0,d3,hbw1⟩:=HW0 w1 HB1;clear hr hb1 c0 c3 k1 k2 k3 hbw1;have hcs:(n.stops (kd n i)/\(n.kind==10)=true/\r=true)\/(¬n.stops (kd n i)/\(n.kind==10)=true/\r=false)\/(¬n.stops (kd n i)/\(n.kind==10)=false):=by
   by_cases e:n.kind=10
   ·cases r
    ·exact .inr (.inl ⟨fun h=>Bool.noConfusion (HR.2 h.2),by simp[e],X⟩)
    exact .inl ⟨⟨e,HR.1 X⟩,by simp[e],X⟩
   exact .inr (.inr ⟨fun h=>e h.1,by simp[e]⟩)
  rcases hcs with⟨hst,hk10,rfl⟩|⟨hst,hk10,rfl⟩|⟨hst,hk10⟩
  ·have HST:Hi _:=hst;clear hst;go_wp2;go_roundw
   case rel=>exact⟨i+1,O,Gn,fun i' h=>by
    by_cases e:i'=i
    ·subst e;exact .inl HST
    exact HA i' O,HB1⟩
   case measure=>exact Ms
  ·have HST:Hi _:=hst;(have HK10:Hi (n.kind=10):=by show n.kind=10;simpa using hk10);clear hst;go_wp2;go_loopw [7,8] (fun vo vk wx=>∃(k:Nat) (ov:Bool),i<k/\k<=n.kids.length/\vk=I J k/\vo=Bo ov/\Hi (ov=true↔∃j,i<j/\j<k/\n.stops (kd n j))/\Hi (∀k',i<k'->k'<k->(∀j,i<j->j<k'->¬n.stops (kd n j))->¬dU s (kd n i).node.toNat (kd n k').node.toNat)/\Hi (H W0.heap.size W0 wx)) (fun _ vk _=>n.kids.length-(Io vk).toNat);case atStart=>exact⟨i+1,false,O,O,Gn,X,⟨fun h=>Bool.noConfusion h,fun⟨j,h1,h2,_⟩=>Ab h1 O⟩,fun k' h1 h2=>Ab h1 O,HB1⟩
   obtain⟨k,ov,hik,hk,rfl,rfl,HOV,HT,HBX⟩:=hrel;obtain⟨c0,c3,hbw2⟩:=HW0 wr HBX;have HBX2:Hi _:=hbw2;clear hbw2 d0 d3;by_cases hkl2:k<n.kids.length
   ·have hkl':(k:Int)<n.kids.length:=O;cases ov
    ·obtain⟨kb2,ko2,e2,kcl2⟩:=HKI k hkl2;(obtain⟨rfl,rfl⟩:kb=kb2/\ko=ko2:=by injection e2 with e2;injection e2 with e3 e4 _;exact⟨e3,e4⟩);obtain⟨tk,htk,htkl⟩:=HKR k hkl2;have k1:=(HCL.below HBX2).node;rw[HTI.out]at k1;obtain⟨z,hz⟩:∃z,kd n k=z:=Ey;have HZ:Hi _:=hz;(have HCZ:Hi (dt w kb (ko+k*3) z):=by show dt w kb (ko+k*3) z;rw[<-hz];exact kcl2);rw[hz]at htk;have z1:=(HCZ.below HBX2).node;rw[htk]at z1;have HTK:Hi _:=htk;clear e2 kcl2 hz htk;go_wp2_with fail;go_region_with (go_at_call 68;refine bp (HC _ ti tk ?_ htl htkl) ?_;(exact Go.below_drewN HBX2 1);rintro e w2 ⟨r2,rfl,hr2,hb2⟩);all_goals
      have HR2:Hi _:=hr2;have HB3:Hi (H W0.heap.size W0 w2):=(Go.below_drewN HBX 1).trans (hb2.mono (Go.below_drewN HBX 1).size);obtain⟨e0,e3,hbw3⟩:=HW0 w2 HB3;have HBX3:Hi _:=hbw3;obtain⟨z1',z2',z3'⟩:=HCZ.below hbw3;have HIN:Hi (∀j,i<j->j<k->¬n.stops (kd n j)):=fun j h1 h2 h3=>Bool.noConfusion (HOV.2 ⟨j,h1,h2,h3⟩);(have HCE:Hi (dU s (kd n i).node.toNat (kd n k).node.toNat↔dU s ti tk):=by show dU s (kd n i).node.toNat (kd n k).node.toNat↔dU s ti tk;rw[HZ,HTI,HTK.out];rfl);clear hr2 hb2 hbw3 c0 c3 k1 z1;cases r2
      ·go_wp2_with fail;refine(HM _ z).mono ?_;rintro e w4 ⟨r4,rfl,hr4,hb4⟩;have HR4:Hi _:=hr4;have HB4:Hi (H W0.heap.size W0 w4):=HB3.trans (hb4.mono HB3.size);obtain⟨f0,f3,hbw4⟩:=HW0 w4 HB4;have HT':Hi (∀k',i<k'->k'<k+1->(∀j,i<j->j<k'->¬n.stops (kd n j))->¬dU s (kd n i).node.toNat (kd n k').node.toNat):=fun k' h1 h2 h3=>by
        by_cases ek:k'=k
        ·subst ek;exact fun h4=>Bool.noConfusion (HR2.2 (HCE.1 h4))
        exact HT k' h1 O h3
       have HOV':Hi (r4=true↔∃j,i<j/\j<k+1/\n.stops (kd n j)):=by
        show r4=true↔∃j,i<j/\j<k+1/\n.stops (kd n j);constructor
        ·intro h;exact⟨k,hik,O,by rw[HZ.out];exact⟨HK10,HR4.1 h⟩⟩
        rintro⟨j,h1,h2,h3⟩;by_cases ej:j=k
        ·subst ej;rw[HZ.out]at h3;exact HR4.2 h3.2
        exact Ab h3 (HIN j h1 O)
       clear hr4 hb4 hbw4 e0 e3 z1' z2' z3';go_wp2;go_roundw;case rel=>exact⟨k+1,r4,O,O,Gn,X,HOV',HT',HB4⟩
       case measure=>exact Ms
      go_wp2;go_ret;exact bc (fun h=>by
       rcases h i hlt with h'|h'
       ·exact HST h'
       exact h' k hik hkl2 HIN (HCE.2 (HR2.1 trivial))) HBX3
    have HDN:Hi (kW (dU s) n i n.kids.length):= .inr (fun k' h1 h2 h3=>by
     obtain⟨j,j1,j2,j3⟩:=HOV.1 X;by_cases ej:j<k'
     ·exact Ab j3 (h3 j j1 ej)
     exact HT k' h1 O h3)
    go_wp2;go_roundw
    case rel=>exact⟨i+1,O,Gn,fun i' h=>by
     by_cases e:i'=i
     ·subst e;exact HDN
     exact HA i' O,HBX⟩
    case measure=>exact Ms
   have hkl':(n.kids.length:Int)<=k:=O;have HDN:Hi (kW (dU s) n i n.kids.length):= .inr (fun k' h1 h2 h3=>HT k' h1 O h3);go_wp2;go_roundw
   case rel=>exact⟨i+1,O,Gn,fun i' h=>by
    by_cases e:i'=i
    ·subst e;exact HDN
    exact HA i' O,HBX⟩
   case measure=>exact Ms
  have HST:Hi (¬n.stops (kd n i)):=hst;have HK10:Hi (¬n.kind=10):=by show¬n.kind=10;simpa using hk10
  clear hst;go_wp2;go_loopw [7,8] (fun vo vk wx=>∃(k:Nat) (ov:Bool),i<k/\k<=n.kids.length/\vk=I J k/\vo=Bo ov/\Hi (ov=true↔∃j,i<j/\j<k/\n.stops (kd n j))/\Hi (∀k',i<k'->k'<k->(∀j,i<j->j<k'->¬n.stops (kd n j))->¬dU s (kd n i).node.toNat (kd n k').node.toNat)/\Hi (H W0.heap.size W0 wx)) (fun _ vk _=>n.kids.length-(Io vk).toNat);case atStart=>exact⟨i+1,false,O,O,Gn,X,⟨fun h=>Bool.noConfusion h,fun⟨j,h1,h2,_⟩=>Ab h1 O⟩,fun k' h1 h2=>Ab h1 O,HB1⟩
  obtain⟨k,ov,hik,hk,rfl,rfl,HOV,HT,HBX⟩:=hrel;obtain⟨c0,c3,hbw2⟩:=HW0 wr HBX;have HBX2:Hi (H w.heap.size w wr):=hbw2;clear hbw2 d0 d3;by_cases hkl2:k<n.kids.length
  ·have hkl':(k:Int)<n.kids.length:=O;cases ov
   ·obtain⟨kb2,ko2,e2,kcl2⟩:=HKI k hkl2;(obtain⟨rfl,rfl⟩:kb=kb2/\ko=ko2:=by injection e2 with e2;injection e2 with e3 e4 _;exact⟨e3,e4⟩);obtain⟨tk,htk,htkl⟩:=HKR k hkl2;have k1:=(HCL.below HBX2).node;rw[HTI.out]at k1;obtain⟨z,hz⟩:∃z,kd n k=z:=Ey;have HZ:Hi _:=hz;(have HCZ:Hi (dt w kb (ko+k*3) z):=by show dt w kb (ko+k*3) z;rw[<-hz];exact kcl2);rw[hz]at htk;have z1:=(HCZ.below HBX2).node;rw[htk]at z1;have HTK:Hi _:=htk;clear e2 kcl2 hz htk;go_wp2_with fail;go_region_with (go_at_call 68;refine bp (HC _ ti tk ?_ htl htkl) ?_;(exact Go.below_drewN HBX2 1);rintro e w2 ⟨r2,rfl,hr2,hb2⟩);all_goals
     have HR2:Hi _:=hr2;have HB3:Hi (H W0.heap.size W0 w2):=(Go.below_drewN HBX 1).trans (hb2.mono (Go.below_drewN HBX 1).size);obtain⟨e0,e3,hbw3⟩:=HW0 w2 HB3;have HBX3:Hi _:=hbw3;obtain⟨z1',z2',z3'⟩:=HCZ.below hbw3;have HIN:Hi (∀j,i<j->j<k->¬n.stops (kd n j)):=fun j h1 h2 h3=>Bool.noConfusion (HOV.2 ⟨j,h1,h2,h3⟩);(have HCE:Hi (dU s (kd n i).node.toNat (kd n k).node.toNat↔dU s ti tk):=by show dU s (kd n i).node.toNat (kd n k).node.toNat↔dU s ti tk;rw[HZ,HTI,HTK.out];rfl);clear hr2 hb2 hbw3 c0 c3 k1 z1;cases r2
     ·go_wp2_with fail;refine(HM _ z).mono ?_;rintro e w4 ⟨r4,rfl,hr4,hb4⟩;have HR4:Hi _:=hr4;have HB4:Hi _:=HB3.trans (hb4.mono HB3.size);obtain⟨f0,f3,hbw4⟩:=HW0 w4 HB4;have HT':Hi (∀k',i<k'->k'<k+1->(∀j,i<j->j<k'->¬n.stops (kd n j))->¬dU s (kd n i).node.toNat (kd n k').node.toNat):=fun k' h1 h2 h3=>by
       by_cases ek:k'=k
       ·subst ek;exact fun h4=>Bool.noConfusion (HR2.2 (HCE.1 h4))
       exact HT k' h1 O h3
      have HOV':Hi (false=true↔∃j,i<j/\j<k+1/\n.stops (kd n j)):=by
       show false=true↔∃j,i<j/\j<k+1/\n.stops (kd n j);constructor
       ·intro h;exact Bool.noConfusion h
       rintro⟨j,h1,h2,h3⟩;by_cases ej:j=k
       ·subst ej;rw[HZ.out]at h3;exact Ab h3.1 HK10
       exact Ab h3 (HIN j h1 O)
      clear hr4 hb4 hbw4 e0 e3 z1' z2' z3';go_wp2;go_roundw;case rel=>exact⟨k+1,false,O,O,Gn,X,HOV',HT',HB4⟩
      case measure=>exact Ms
     go_wp2;go_ret;exact bc (fun h=>by
      rcases h i hlt with h'|h'
      ·exact HST h'
      exact h' k hik hkl2 HIN (HCE.2 (HR2.1 trivial))) HBX3
   have HDN:Hi (kW (dU s) n i n.kids.length):= .inr (fun k' h1 h2 h3=>by
    obtain⟨j,j1,j2,j3⟩:=HOV.1 X;by_cases ej:j<k'
    ·exact Ab j3 (h3 j j1 ej)
    exact HT k' h1 O h3)
   go_wp2;go_roundw
   case rel=>exact⟨i+1,O,Gn,fun i' h=>by
    by_cases e:i'=i
    ·subst e;exact HDN
    exact HA i' O,HBX⟩
   case measure=>exact Ms
  have hkl':(n.kids.length:Int)<=k:=O;have HDN:Hi (kW (dU s) n i n.kids.length):= .inr (fun k' h1 h2 h3=>HT k' h1 O h3);go_wp2;go_roundw
  case rel=>exact⟨i+1,O,Gn,fun i' h=>by
   by_cases e:i'=i
   ·subst e;exact HDN
   exact HA i' O,HBX⟩
  case measure=>exact Ms
 have hlt':(n.kids.length:Int)<=i:=O;go_wp2;go_ret;exact bS (fun i' h=>HA i' O) HBW
end Go.Proofs.YtkkicodfpekbgaaGreatDoor
namespace Go.Proofs.YtkkicodfpekbgaaGreatDoor
abbrev dM:=Except (Int×Int) (Ls Vl×Nat)
structure cw where
 s:Ls Nd
 d:Q
 bg:Nat->Int->Int->Bool
 ok:Int->Q->Bool
 dv:Kd->Vl
def jd(k:Int):Int:=if 12<k then 0 else own k
abbrev bh:Q:=⟨#[]⟩
abbrev im:=Nat->Nat->Nat->Int->Oo dM
def cw.hd(E:cw)(x y:Nat):Int×Hd:=Go.Proofs.YtkkicodfpekbgaaGreatDoor.hd (E.d.extract x y)
def dM.andThen{α:Type}(o:Oo dM)(k:Ls Vl->Nat->Oo (Except (Int×Int) α)):Oo (Except (Int×Int) α):=
 match o with
 |none=>Z
 |some (.error e)=>U (.error e)
 |some (.ok (vs,z))=>k vs z
def bU(E:cw)(rec:im)(h:Hd)(x to:Nat)(dp:Int):Ls Kd->Nat->Oo dM
 | [],_=>U (.error (4,x))
 |k::ks,j=>if E.bg k.node.toNat h.c h.n=true then dM.andThen (rec k.node.toNat x to dp) fun vs _=>U (.ok (⟨13,bh,j,1⟩::vs,to))else bU E rec h x to dp ks (j+1)
def de(E:cw)(rec:im)(to:Nat)(dp:Int):Ls Kd->Nat->Ls Vl->Oo dM
 | [],x,acc=>if x<to then U (.error (7,x))else U (.ok (acc,x))
 |k::ks,x,acc=>
  if x<to/\(E.hd x to).1≠0 then U (.error ((E.hd x to).1,x))
  else if x<to/\E.bg k.node.toNat (E.hd x to).2.c (E.hd x to).2.n=true then
   dM.andThen (rec k.node.toNat x to dp) fun vs z=>if E.d.extract x z=k.dflt then U (.error (9,x))else de E rec to dp ks z (acc++vs)
  else if k.opt=true then de E rec to dp ks x (acc++[⟨15,bh,0,0⟩])
  else if k.dflt.size≠0 then de E rec to dp ks x (acc++[E.dv k])
  else if x<to then U (.error (4,x))else U (.error (3,x))
def eZ(a b:Q):Bool:=Op.bytesLess a.toList b.toList
def dA(E:cw)(rec:im)(set:Bool)(i to:Nat)(dp:Int):Nat->Nat->Q->Nat->Ls Vl->Oo (Except (Int×Int) (Nat×Ls Vl))
 |0,_,_,_,_=>Z
 |m+1,x,last,j,acc=>
  if x<to then
   dM.andThen (rec i x to dp) fun vs z=>if set=true/\eZ (E.d.extract x z) last=true then U (.error (8,x))else dA E rec set i to dp m z (E.d.extract x z) (j+1) (acc++vs)
  else U (.ok (j,acc))
def cF(E:cw)(rec:im)(m:Nat)(n:Nd)(cl nu:Int)(h:Hd)(x to:Nat)(dp:Int):Oo dM:=
 if n.kind=13 then bU E rec h x to dp n.kids 0
 else if n.kind≠14/\¬(h.c=cl/\h.n=nu/\h.b=decide (10<=n.kind/\n.kind<=12))then U (.error (4,x))
 else if 12<dp then U (.error (10,x))
 else if n.kind=14 then U (.ok ([⟨14,E.d.extract x to,0,0⟩],to))
 else if n.kind=10 then
  match de E rec to (dp+1) n.kids (x+h.s.toNat) []with
  |none=>Z
  |some (.error e)=>U (.error e)
  |some (.ok (vs,_))=>U (.ok (⟨10,bh,0,n.kids.length⟩::vs,to))
 else if 10<=n.kind/\n.kind<=12 then
  match dA E rec (decide (n.kind=12)) (kd n 0).node.toNat to (dp+1) m (x+h.s.toNat) bh 0 []with
  |none=>Z
  |some (.error e)=>U (.error e)
  |some (.ok (j,vs))=>U (.ok (⟨n.kind,bh,0,j⟩::vs,to))
 else if E.ok n.kind (E.d.extract (x+h.s.toNat) to)=true then U (.ok ([⟨n.kind,E.d.extract (x+h.s.toNat) to,0,0⟩],to))
 else U (.error (6,x))
def iH(x:Nat)(h:Hd):Nat:=x+h.s.toNat+h.l.toNat
def iQ(E:cw)(rec:im)(m i:Nat)(h:Hd)(x to:Nat)(dp:Int):Oo dM:=
 if(nd E.s i).tag<0 then cF E rec m (nd E.s i) 0 (jd (nd E.s i).kind) h x to dp
 else if(nd E.s i).mode=0 then cF E rec m (nd E.s i) 2 (nd E.s i).tag h x to dp
 else if¬(h.c=2/\h.n=(nd E.s i).tag/\h.b=true)then U (.error (4,x))
 else if 12<dp then U (.error (10,x))
 else if(E.hd (x+h.s.toNat) to).1≠0 then U (.error ((E.hd (x+h.s.toNat) to).1,x+h.s.toNat))
 else
  dM.andThen (cF E rec m (nd E.s i) 0 (jd (nd E.s i).kind) (E.hd (x+h.s.toNat) to).2 (x+h.s.toNat) (iH (x+h.s.toNat) (E.hd (x+h.s.toNat) to).2) dp) fun vs _=>
   if iH (x+h.s.toNat) (E.hd (x+h.s.toNat) to).2<to then U (.error (7,iH (x+h.s.toNat) (E.hd (x+h.s.toNat) to).2))else U (.ok (vs,to))
def dJ(E:cw):Nat->im
 |0,_,_,_,_=>Z
 |f+1,i,x,y,dp=>if(E.hd x y).1≠0 then U (.error ((E.hd x y).1,x))else iQ E (dJ E f) f i (E.hd x y).2 x (iH x (E.hd x y).2) dp
def eI(E:cw)(f root:Nat):Oo (Except (Int×Int) (Ls Vl)):=
 dM.andThen (dJ E f root 0 E.d.size 1) fun vs z=>if z<E.d.size then U (.error (7,z))else U (.ok vs)
def sw(r r':im):Prop:=∀i x y dp o,r i x y dp=U o->r' i x y dp=U o
theorem dM.andThen_le{α:Type}{o o':Oo dM}{k k':Ls Vl->Nat->Oo (Except (Int×Int) α)}{v:Except (Int×Int) α}(ho:∀u,o=U u->o'=U u)(hk:∀vs z v,k vs z=U v->k' vs z=U v)(h:dM.andThen o k=U v):dM.andThen o' k'=U v:=by
 unfold dM.andThen at h ⊢;split at h
 ·cases h
 ·rename_i e;rw[ho _ rfl];exact h
 rename_i vs z;rw[ho _ rfl];exact hk _ _ _ h
theorem qy{E:cw}{r r':im}(hr:sw r r'){h:Hd}{x to:Nat}{dp:Int}:∀(ks:Ls Kd) (j:Nat) (v:dM),bU E r h x to dp ks j=U v->bU E r' h x to dp ks j=U v
 | [],_,_,e=>e
 |k::ks,j,v,e=>by
  unfold bU at e ⊢
  split
  ·rename_i q;rw[aG q]at e;exact dM.andThen_le (fun u=>hr _ _ _ _ u) (fun _ _ _ q=>q) e
  ·rename_i q;rw[G q]at e;exact qy hr ks (j+1) v e
theorem pK{E:cw}{r r':im}(hr:sw r r'){to:Nat}{dp:Int}:∀(ks:Ls Kd) (x:Nat) (acc:Ls Vl) (v:dM),de E r to dp ks x acc=U v->de E r' to dp ks x acc=U v
 | [],_,_,_,e=>e
 |k::ks,x,acc,v,e=>by
  unfold de at e ⊢
  split
  ·rename_i q;rw[aG q]at e;exact e
  rename_i q;rw[G q]at e
  split
  ·rename_i q;rw[aG q]at e
   refine dM.andThen_le (fun u=>hr _ _ _ _ u) (fun vs z v q=>?_) e
   split
   ·rename_i q';rw[aG q']at q;exact q
   ·rename_i q';rw[G q']at q;exact pK hr ks _ _ _ q
  rename_i q;rw[G q]at e
  split
  ·rename_i q;rw[aG q]at e;exact pK hr ks _ _ _ e
  rename_i q;rw[G q]at e
  split
  ·rename_i q;rw[aG q]at e;exact pK hr ks _ _ _ e
  rename_i q;rw[G q]at e
  exact e
theorem wm{E:cw}{r r':im}(hr:sw r r'){set:Bool}{i to:Nat}{dp:Int}:∀(m m':Nat) (x:Nat) (last:Q) (j:Nat) (acc:Ls Vl) (v:Except (Int×Int) (Nat×Ls Vl)),m<=m'->dA E r set i to dp m x last j acc=U v->dA E r' set i to dp m' x last j acc=U v
 |0,_,_,_,_,_,_,_,e=>by cases e
 |m+1,m',x,last,j,acc,v,hm,e=>by
  obtain⟨m'',rfl⟩:∃k,m'=k+1:=⟨m'-1,O⟩
  unfold dA at e ⊢
  split
  ·rename_i q;rw[aG q]at e
   refine dM.andThen_le (fun u=>hr _ _ _ _ u) (fun vs z v q=>?_) e
   split
   ·rename_i q';rw[aG q']at q;exact q
   ·rename_i q';rw[G q']at q;exact wm hr m m'' _ _ _ _ _ O q
  ·rename_i q;rw[G q]at e;exact e
theorem qj{E:cw}{r r':im}(hr:sw r r'){m m':Nat}(hm:m<=m'){n:Nd}{cl nu:Int}{h:Hd}{x to:Nat}{dp:Int}{v:dM}(e:cF E r m n cl nu h x to dp=U v):cF E r' m' n cl nu h x to dp=U v:=by
 unfold cF at e ⊢;split
 ·rename_i q;rw[aG q]at e;exact qy hr _ _ _ e
 rename_i q;rw[G q]at e;split
 ·rename_i q;rw[aG q]at e;exact e
 rename_i q;rw[G q]at e;split
 ·rename_i q;rw[aG q]at e;exact e
 rename_i q;rw[G q]at e;split
 ·rename_i q;rw[aG q]at e;exact e
 rename_i q;rw[G q]at e;split
 ·rename_i q;rw[aG q]at e
  cases hs:de E r to (dp+1) n.kids (x+h.s.toNat) []with
  |none=>rw[hs]at e;cases e
  |some o=>rw[hs]at e;rw[pK hr _ _ _ _ hs];exact e
 rename_i q;rw[G q]at e;split
 ·rename_i q;rw[aG q]at e
  cases hs:dA E r (decide (n.kind=12)) (kd n 0).node.toNat to (dp+1) m (x+h.s.toNat) bh 0 []with
  |none=>rw[hs]at e;cases e
  |some o=>rw[hs]at e;rw[wm hr _ _ _ _ _ _ _ hm hs];exact e
 rename_i q;rw[G q]at e;exact e
theorem EL{E:cw}{r r':im}(hr:sw r r'){m m':Nat}(hm:m<=m'){i:Nat}{h:Hd}{x to:Nat}{dp:Int}{v:dM}(e:iQ E r m i h x to dp=U v):iQ E r' m' i h x to dp=U v:=by
 unfold iQ at e ⊢;split
 ·rename_i q;rw[aG q]at e;exact qj hr hm e
 rename_i q;rw[G q]at e;split
 ·rename_i q;rw[aG q]at e;exact qj hr hm e
 rename_i q;rw[G q]at e;split
 ·rename_i q;rw[aG q]at e;exact e
 rename_i q;rw[G q]at e;split
 ·rename_i q;rw[aG q]at e;exact e
 rename_i q;rw[G q]at e;split
 ·rename_i q;rw[aG q]at e;exact e
 rename_i q;rw[G q]at e;exact dM.andThen_le (fun u=>qj hr hm) (fun _ _ _ q=>q) e
theorem C1{E:cw}:∀f,sw (dJ E f) (dJ E (f+1))
 |0=>fun _ _ _ _ _ e=>by cases e
 |f+1=>fun i x y dp o e=>by
  rw[dJ]at e ⊢
  split
  ·rename_i q;rw[aG q]at e;exact e
  ·rename_i q;rw[G q]at e;exact EL (C1 f) (jt f) e
theorem zE(t:Q)(a b i:Nat)(h:a+i<b)(hb:b<=t.size):b8 (t.extract a b) i=b8 t (a+i):=by
 unfold b8;rw[Lib.extract_data];congr 2;rw[aB,aB];congr 1;rw[jo];rw[aG O,dX]
theorem fB(t:Q)(a b:Nat):(t.extract a b).size=min b t.size-a:=bq
theorem pb{u u':Q}:∀k:Nat,(∀i,1<=i->i<=k->b8 u' i=b8 u i)->bH u' k=bH u k
 |0,_=>rfl
 |k+1,h=>by
  simp only[bH]
  rw[pb k (fun i a b=>h i a O),h (k+1) O O]
theorem Ex{u u':Q}(h:(rl u).1=0)(hs:(rl u).2.1<=u'.size)(hb:∀i:Nat,(i:Int)<(rl u).2.1->b8 u' i=b8 u i):rl u'=rl u/\1<=(rl u).2.1:=by
 have h0:=gu u 0;unfold rl at h hs hb ⊢;by_cases q1:u.size=0
 ·rw[aG q1]at h;cases h
 rw[G q1]at h hs hb ⊢;by_cases q2:b8 u 0<128
 ·rw[aG q2]at h hs hb ⊢;have e0:b8 u' 0=b8 u 0:=hb 0 (by show(0:Int)<1;decide);have s0:¬u'.size=0:=by simp only at hs;omega
  rw[G s0,e0,aG q2];exact⟨X,Sq⟩
 rw[G q2]at h hs hb ⊢;by_cases q3:b8 u 0=128\/131<b8 u 0
 ·rw[aG q3]at h;cases h
 rw[G q3]at h hs hb ⊢;by_cases q4:(u.size:Int)<=b8 u 0-128
 ·rw[aG q4]at h;cases h
 rw[G q4]at h hs hb ⊢;by_cases q5:b8 u 0-128≠cnt (bH u (b8 u 0-128).toNat)
 ·rw[aG q5]at h;cases h
 rw[G q5]at h hs hb ⊢;simp only at hs hb;have e0:b8 u' 0=b8 u 0:=hb 0 O;have s0:¬u'.size=0:=O;have en:bH u' (b8 u 0-128).toNat=bH u (b8 u 0-128).toNat:=pb _ fun i _ b=>hb i O;rw[G s0,e0,G q2,G q3,G O,en,G q5];exact⟨X,by simp only;omega⟩
theorem zM{t t':Q}(h:(hd t).1=0)(hs:(hd t).2.s+(hd t).2.l<=t'.size)(hb:∀i:Nat,(i:Int)<(hd t).2.s->b8 t' i=b8 t i):hd t'=hd t/\2<=(hd t).2.s:=by
 have hr:=zY (t.extract 1 t.size);unfold hd at h hs hb ⊢;by_cases q1:t.size=0
 ·rw[aG q1]at h;cases h
 rw[G q1]at h hs hb ⊢;by_cases q2:b8 t 0%32=31
 ·rw[aG q2]at h;cases h
 rw[G q2]at h hs hb ⊢;by_cases q3:(rl (t.extract 1 t.size)).1≠0
 ·rw[aG q3]at h;exact Ab h q3
 rw[G q3]at h hs hb ⊢;by_cases q4:(t.size:Int)-((rl (t.extract 1 t.size)).2.1+1)<(rl (t.extract 1 t.size)).2.2
 ·rw[aG q4]at h;cases h
 rw[G q4]at h hs hb ⊢;simp only at hs hb;have q3':(rl (t.extract 1 t.size)).1=0:=Classical.not_not.1 q3;have e0:b8 t' 0=b8 t 0:=hb 0 O;have s1:(t'.extract 1 t'.size).size=t'.size-1:=by rw[fB];omega
 obtain⟨er,r1⟩:=Ex (u:=t.extract 1 t.size) (u':=t'.extract 1 t'.size) q3' (by rw[s1];omega) (fun i hi=>by rw[zE t' 1 t'.size i O Ln,zE t 1 t.size i O Ln];exact hb (1+i) O);rw[G O,e0,G q2,er,G q3,G O];exact⟨X,by simp only;omega⟩
theorem um{t:Q}(h:(hd t).1=0):2<=(hd t).2.s:=(zM (t':=t) h (i3 h).2.2 fun _ _=>rfl).2
theorem dZ{E:cw}{x y:Nat}(h:(E.hd x y).1=0):x+2<=x+(E.hd x y).2.s.toNat/\x+(E.hd x y).2.s.toNat<=iH x (E.hd x y).2/\iH x (E.hd x y).2<=y/\iH x (E.hd x y).2<=E.d.size:=by
 have h1:=um h;have h2:=i3 h;have h3:=fB E.d x y;unfold iH;unfold cw.hd at*;omega
theorem ix{E:cw}{x y:Nat}(h:(E.hd x y).1=0):((iH x (E.hd x y).2:Nat):Int)=x+(E.hd x y).2.s+(E.hd x y).2.l/\(((E.hd x y).2.s.toNat:Nat):Int)=(E.hd x y).2.s:=by
 have h1:=um h;have h2:=i3 h;unfold iH;unfold cw.hd at*;omega
theorem nP{E:cw}{x y z:Nat}(h:(E.hd x y).1=0)(hz:iH x (E.hd x y).2<=z)(hs:z<=E.d.size)(hy:y<=E.d.size):E.hd x z=E.hd x y:=by
 have h1:=um h;have h2:=i3 h;have h3:=fB E.d x y;have h4:=fB E.d x z;have h5:=dZ h;have h6:=ix h;unfold cw.hd at*;exact(zM h O fun i hi=>by rw[zE _ _ _ _ O hs,zE _ _ _ _ O hy]).1
theorem cY{α:Type}{o:Oo dM}{k:Ls Vl->Nat->Oo (Except (Int×Int) α)}{v:α}(h:dM.andThen o k=U (.ok v)):∃vs z,o=U (.ok (vs,z))/\k vs z=U (.ok v):=by
 unfold dM.andThen at h;split at h
 ·cases h
 ·cases h
 rename_i vs z;exact⟨vs,z,X,h⟩
theorem iu{α:Type}{o:Oo dM}{k:Ls Vl->Nat->Oo (Except (Int×Int) α)}{u:dM}(ho:o=U u)(hk:∀vs z,u= .ok (vs,z)->∃v,k vs z=U v):∃v,dM.andThen o k=U v:=by
 subst ho;unfold dM.andThen
 cases u with
 |error e=>exact⟨_,X⟩
 |ok p=>obtain⟨vs,z⟩:=p;exact hk vs z X
theorem oV{E:cw}{rec:im}{h:Hd}{x to:Nat}{dp:Int}:∀(ks:Ls Kd) (j:Nat) {vs:Ls Vl} {z:Nat},bU E rec h x to dp ks j=U (.ok (vs,z))->z=to
 | [],_,_,_,e=>by cases e
 |k::ks,j,vs,z,e=>by
  unfold bU at e
  split at e
  ·obtain⟨_,_,_,e⟩:=cY e
   simp at e;exact e.2.symm
  ·exact oV ks (j+1) e
theorem sB{E:cw}{rec:im}{m:Nat}{n:Nd}{cl nu:Int}{h:Hd}{x to:Nat}{dp:Int}{vs:Ls Vl}{z:Nat}(e:cF E rec m n cl nu h x to dp=U (.ok (vs,z))):z=to:=by
 unfold cF at e;repeat' split at e
 all_goals first|(exact oV _ _ e)|(cases e;done)|(simp at e;exact e.2.symm)
theorem rF{E:cw}{rec:im}{m i:Nat}{h:Hd}{x to:Nat}{dp:Int}{vs:Ls Vl}{z:Nat}(e:iQ E rec m i h x to dp=U (.ok (vs,z))):z=to:=by
 unfold iQ at e;split at e
 ·exact sB e
 split at e
 ·exact sB e
 split at e
 ·cases e
 split at e
 ·cases e
 split at e
 ·cases e
 obtain⟨_,_,_,e⟩:=cY e;split at e
 ·cases e
 simp at e;exact e.2.symm
theorem gB{E:cw}{f i x y:Nat}{dp:Int}{vs:Ls Vl}{z:Nat}(e:dJ E f i x y dp=U (.ok (vs,z))):(E.hd x y).1=0/\z=iH x (E.hd x y).2:=by
 cases f with
 |zero=>cases e
 |succ f=>
  rw[dJ]at e
  split at e
  ·cases e
  ·rename_i q;exact⟨Classical.not_not.1 q,rF e⟩
structure uN(s:Ls Nd):Prop where
 within:gq s
 back:∀i,i<s.length->¬kV s i
 len:s.length<=40
 tagged:∀i,i<s.length->(nd s i).kind=13->0<=(nd s i).tag->(nd s i).mode≠0
 one:∀i,i<s.length->((nd s i).kind=11\/(nd s i).kind=12)->(nd s i).kids.length=1
 eight:∀i,i<s.length->(nd s i).kids.length<=8
def H9(s:Ls Nd)(v i:Nat):Prop:=∃j,j4 s v j/\(nd s j).opn/\∃k∈(nd s j).kids,k.node.toNat=i
structure Way(s:Ls Nd)(V:Ls Nat)(i:Nat):Prop where
 nodup:V.Nodup
 lt:∀v∈V,v<s.length
 to:∀v∈V,H9 s v i
theorem Way.nil(s:Ls Nd)(i:Nat):Way s [] i:=⟨.nil,Sq,Sq⟩
theorem Way.len{s:Ls Nd}{V:Ls Nat}{i:Nat}(h:Way s V i)(hf:uN s):V.length<=40:=bl (jC _ _ h.nodup h.lt) hf.len
theorem Way.cons{s:Ls Nd}{V:Ls Nat}{i:Nat}(h:Way s V i)(hf:uN s)(hi:i<s.length)(ho:(nd s i).opn){k:Kd}(hk:k∈(nd s i).kids):Way s (i::V) k.node.toNat where
 nodup:=by
  refine List.nodup_cons.2 ⟨fun hm=>hf.back i hi ?_,h.nodup⟩
  obtain⟨j,hj,hjo,k',hk',e⟩:=h.to i hm
  have:=hf.within j (hj.lt hf.within hi) k' hk'
  exact⟨j,hj,hjo,k',hk',O⟩
 lt:=fun v hv=>by
  rcases GA.1 hv with rfl|hv
  ·exact hi
  ·exact h.lt v hv
 to:=fun v hv=>by
  rcases GA.1 hv with rfl|hv
  ·exact⟨v,.refl,ho,k,hk,X⟩
  ·obtain⟨j,hj,hjo,k',hk',e⟩:=h.to v hv
   exact⟨i,e▸hj.step hjo hk',ho,k,hk,X⟩
theorem nI{E:cw}{rec:im}{h:Hd}{x to:Nat}{dp:Int}:∀(ks:Ls Kd) (j:Nat),(∀k∈ks,∃o,rec k.node.toNat x to dp=U o)->∃o,bU E rec h x to dp ks j=U o
 | [],_,_=>⟨_,X⟩
 |k::ks,j,hr=>by
  unfold bU
  split
  ·obtain⟨o,ho⟩:=hr k Sq
   exact iu ho fun _ _ _=>⟨_,X⟩
  ·exact nI ks (j+1) fun k hk=>hr k (by simp[hk])
theorem mr{E:cw}{rec:im}{to x0:Nat}{dp:Int}(hz:∀i x vs z,rec i x to dp=U (.ok (vs,z))->x<=z/\z<=to):∀(ks:Ls Kd) (x:Nat) (acc:Ls Vl),x0<=x->x<=to->(∀k∈ks,∀x',x0<=x'->x'<=to->∃o,rec k.node.toNat x' to dp=U o)->∃o,de E rec to dp ks x acc=U o
 | [],x,_,_,_,_=>by unfold de;split<;>exact⟨_,X⟩
 |k::ks,x,acc,h0,h1,hr=>by
  have hr':∀k∈ks,∀x',x0<=x'->x'<=to->∃o,rec k.node.toNat x' to dp=U o:=fun k hk=>hr k (by simp[hk])
  unfold de
  split
  ·exact⟨_,X⟩
  split
  ·obtain⟨o,ho⟩:=hr k Sq x h0 h1
   refine iu ho fun vs z e=>?_
   subst e
   have:=hz _ _ _ _ ho
   split
   ·exact⟨_,X⟩
   ·exact mr hz ks z _ O O hr'
  split
  ·exact mr hz ks x _ h0 h1 hr'
  split
  ·exact mr hz ks x _ h0 h1 hr'
  split<;>exact⟨_,X⟩
theorem qS{E:cw}{rec:im}{set:Bool}{i to x0:Nat}{dp:Int}(hz:∀x vs z,rec i x to dp=U (.ok (vs,z))->x<z/\z<=to)(hr:∀x',x0<=x'->x'<=to->∃o,rec i x' to dp=U o):∀(m x:Nat) (last:Q) (j:Nat) (acc:Ls Vl),x0<=x->x<=to->to-x<m->∃o,dA E rec set i to dp m x last j acc=U o
 |0,_,_,_,_,_,_,h=>Ab h (aO _)
 |m+1,x,last,j,acc,h0,h1,hm=>by
  unfold dA
  split
  ·obtain⟨o,ho⟩:=hr x h0 h1
   refine iu ho fun vs z e=>?_
   subst e
   have:=hz _ _ _ ho
   split
   ·exact⟨_,X⟩
   ·exact qS hz hr m z _ _ _ O O O
  ·exact⟨_,X⟩
theorem fU{n:Nd}{i:Nat}(h:i<n.kids.length):kd n i∈n.kids:=by unfold kd;rw[aB,aC h];exact bz h
theorem mX{E:cw}(hf:uN E.s){f i:Nat}(hi:i<E.s.length){cl nu:Int}{x x1 to:Nat}{dp:Int}{h:Hd}(hx1:x+h.s.toNat=x1)(hxt:x1<=to)(hfu:to-x1<f)(hc:(nd E.s i).kind=13->∀k∈(nd E.s i).kids,∃o,dJ E f k.node.toNat x to dp=U o)(hr:∀(j:Nat) (x':Nat),j<E.s.length->x1<=x'->x'<=to->∃o,dJ E f j x' to (dp+1)=U o):∃o,cF E (dJ E f) f (nd E.s i) cl nu h x to dp=U o:=by
 have hlt:∀k∈(nd E.s i).kids,k.node.toNat<E.s.length:=fun k hk=>by have:=hf.within i hi k hk;omega
 have hz:∀i x vs z,dJ E f i x to (dp+1)=U (.ok (vs,z))->x<z/\z<=to:=fun i x vs z e=>by obtain⟨q1,q2⟩:=gB e;have:=dZ q1;omega
 unfold cF;split
 ·rename_i q;exact nI _ _ (hc q)
 split
 ·exact⟨_,X⟩
 split
 ·exact⟨_,X⟩
 split
 ·exact⟨_,X⟩
 split
 ·obtain⟨o,ho⟩:=mr (x0:=x1) (fun i x vs z e=>by have:=hz i x vs z e;omega) (nd E.s i).kids (x+h.s.toNat) [] O O (fun k hk x' a b=>hr _ x' (hlt k hk) a b);rw[ho]
  cases o with
  |error e=>exact⟨_,X⟩
  |ok p=>obtain⟨vs,z⟩:=p;exact⟨_,X⟩
 split
 ·rename_i q10 q;have h1:=hf.one i hi O;have hk:=hlt _ (fU (n:=nd E.s i) (i:=0) O);obtain⟨o,ho⟩:=qS (set:=decide ((nd E.s i).kind=12)) (x0:=x1) (fun x vs z e=>hz _ x vs z e) (fun x' a b=>hr _ x' hk a b) f (x+h.s.toNat) bh 0 [] O O O;rw[ho]
  cases o with
  |error e=>exact⟨_,X⟩
  |ok p=>obtain⟨vs,z⟩:=p;exact⟨_,X⟩
 split<;>exact⟨_,X⟩
theorem jF{E:cw}(hf:uN E.s):∀(f i x y:Nat) (dp:Int) (V:Ls Nat),i<E.s.length->Way E.s V i->42*(y-x)+41<=f+V.length->∃o,dJ E f i x y dp=U o
 |0,i,x,y,dp,V,_,hV,h=>by have:=hV.len hf;omega
 |f+1,i,x,y,dp,V,hi,hV,h=>by
  have hVl:=hV.len hf
  rw[dJ]
  split
  ·exact⟨_,X⟩
  rename_i q
  have hq:(E.hd x y).1=0:=Classical.not_not.1 q
  have hfin:=dZ hq
  have hlt:∀k∈(nd E.s i).kids,k.node.toNat<E.s.length:=fun k hk=>by have:=hf.within i hi k hk;omega
  unfold iQ
  split
  ·rename_i ht
   exact mX hf hi X hfin.2.1 O (fun hk k hkm=>jF hf f k.node.toNat x _ dp (i::V) (hlt k hkm) (hV.cons hf hi ⟨hk,ht⟩ hkm) (by simp only[aU];omega))
    (fun j x' hj a b=>jF hf f j x' _ (dp+1) [] hj (Way.nil _ _) (by simp only[bD];omega))
  split
  ·rename_i ht hm
   exact mX hf hi X hfin.2.1 O (fun hk=>Ab hm (hf.tagged i hi hk O))
    (fun j x' hj a b=>jF hf f j x' _ (dp+1) [] hj (Way.nil _ _) (by simp only[bD];omega))
  split
  ·exact⟨_,X⟩
  split
  ·exact⟨_,X⟩
  split
  ·exact⟨_,X⟩
  rename_i q'
  have hq':(E.hd (x+(E.hd x y).2.s.toNat) (iH x (E.hd x y).2)).1=0:=Classical.not_not.1 q'
  have hfin':=dZ hq'
  obtain⟨o,ho⟩:=mX (cl:=0) (nu:=jd (nd E.s i).kind) (dp:=dp) hf hi X hfin'.2.1 (f:=f) O (fun hk k hkm=>jF hf f k.node.toNat _ _ dp [] (hlt k hkm) (Way.nil _ _) (by simp only[bD];omega))
   (fun j x' hj a b=>jF hf f j x' _ (dp+1) [] hj (Way.nil _ _) (by simp only[bD];omega))
  refine iu ho fun vs z _=>?_
  split<;>exact⟨_,X⟩
abbrev cP:=Oo (Q×Nat×Bool)
structure dF where
 s:Ls Nd
 t:Ls Vl
 ok:Int->Q->Bool
abbrev mB:=Nat->Nat->Int->Oo cP
def vl(t:Ls Vl)(j:Nat):Vl:=t.getD j ⟨0,bh,0,0⟩
def eN(c:Int)(b:Bool)(n:Int)(s:Q):Q:=⟨(Uo (fb ⟨c,b,n,0,s.size⟩).toNat::tl s.size).toArray⟩++s
def cP.andThen(o:Oo cP)(k:Q->Nat->Bool->Oo cP):Oo cP:=
 match o with
 |none=>Z
 |some Z=>U Z
 |some (U (b,x,u))=>k b x u
def dP(E:dF)(rec:mB)(dp:Int):Ls Kd->Nat->Q->Bool->Oo cP
 | [],x,out,u=>U (U (out,x,u))
 |k::ks,x,out,u=>
  if k.opt=true/\x<E.t.length/\(vl E.t x).kind=15 then
   if(vl E.t x).text.size=0/\(vl E.t x).alt=0/\(vl E.t x).kids=0 then dP E rec dp ks (x+1) out u else U Z
  else cP.andThen (rec k.node.toNat x (if k.dflt.size=0 then dp+1 else 1)) fun b x' u'=>
   if k.dflt.size≠0/\b=k.dflt then dP E rec dp ks x' out (u||u')
   else if 12<dp+1 then U Z
   else dP E rec dp ks x' (out++b) (u||u')
def eG(E:dF)(rec:mB)(set:Bool)(i:Nat)(dp:Int):Nat->Int->Nat->Q->Q->Bool->Oo cP
 |0,_,_,_,_,_=>Z
 |m+1,c,x,out,last,u=>
  if 0<c then cP.andThen (rec i x dp) fun b x' u'=>eG E rec set i dp m (c-1) x' (out++b) b (u||u'||(set&&eZ b last))
  else U (U (out,x,u))
def dO(E:dF)(rec:mB)(m:Nat)(n:Nd)(cl nu:Int)(v:Vl)(x:Nat)(dp:Int):Oo cP:=
 if n.kind=13 then
  if v.text.size=0/\v.kids=1/\0<=v.alt/\v.alt<n.kids.length then rec (kd n v.alt.toNat).node.toNat x dp else U Z
 else if n.kind=14 then
  if(hd v.text).1=0/\(hd v.text).2.s+(hd v.text).2.l=v.text.size/\v.alt=0/\v.kids=0 then U (U (v.text,x,false))else U Z
 else if n.kind=10 then
  if v.text.size=0/\v.alt=0/\v.kids=n.kids.length then cP.andThen (dP E rec dp n.kids x bh false) fun b x' u=>U (U (eN cl true nu b,x',u))else U Z
 else if 10<=n.kind/\n.kind<=12 then
  if v.text.size=0/\v.alt=0/\0<=v.kids then cP.andThen (eG E rec (decide (n.kind=12)) (kd n 0).node.toNat (dp+1) m v.kids x bh bh false) fun b x' u=>U (U (eN cl true nu b,x',u))else U Z
 else if E.ok n.kind v.text=true/\v.alt=0/\v.kids=0 then U (U (eN cl false nu v.text,x,false))else U Z
def nl(n:Nd):Int:=if 0<=n.tag/\n.mode=0 then 2 else 0
def np(n:Nd):Int:=if 0<=n.tag/\n.mode=0 then n.tag else jd n.kind
def wrF(E:dF):Nat->mB
 |0,_,_,_=>Z
 |f+1,i,x,dp=>
  if x<E.t.length/\(vl E.t x).kind=(nd E.s i).kind/\dp<=12 then
   cP.andThen (dO E (wrF E f) f (nd E.s i) (nl (nd E.s i)) (np (nd E.s i)) (vl E.t x) (x+1) dp) fun b x' u=>U (U (if(nd E.s i).mode=1 then eN 2 true (nd E.s i).tag b else b,x',u))
  else U Z
theorem dg{o:Oo cP}{k:Q->Nat->Bool->Oo cP}{r:cP}(h:cP.andThen o k=U r):(o=U Z/\r=Z)\/∃b x u,o=U (U (b,x,u))/\k b x u=U r:=by
 unfold cP.andThen at h;split at h
 ·cases h
 ·exact .inl ⟨X,(aK h).symm⟩
 exact .inr ⟨_,_,_,X,h⟩
theorem gQ{o:Oo cP}{r:cP}{k:Q->Nat->Bool->Oo cP}(h:o=U r)(hk:∀b x u,r=U (b,x,u)->∃r',k b x u=U r'):∃r',cP.andThen o k=U r':=by
 subst h;unfold cP.andThen
 match r with
 |none=>exact⟨Z,X⟩
 |some (b,x,u)=>exact hk b x u X
def pz(t:Ls Vl)(x:Nat):Nat:=((t.take x).map (·.text.size)).sum+10*x
theorem zX{t:Ls Vl}{x:Nat}(h:x<t.length):pz t (x+1)=pz t x+(vl t x).text.size+10:=by
 have e1:t.take (x+1)=t.take x++[t[x]]:=by rw[eB,aC h];rfl
 have e2:vl t x=t[x]:=by unfold vl;rw[aB,aC h];rfl
 unfold pz;rw[e1,e2,ji,List.sum_append];simp only[gd,jQ,List.sum_cons,List.sum_nil];omega
theorem Dp(n:Int):(tl n).length<=4:=by
 unfold tl;repeat' split
 all_goals simp
theorem cQ(c:Int)(b:Bool)(n:Int)(s:Q):(eN c b n s).size<=s.size+5:=by
 unfold eN;have h:=Dp s.size;rw[ba];show(Uo _::tl s.size).toArray.size+s.size<=_;rw[dy,aU];omega
def Gy(E:dF)(x:Nat)(r:cP):Prop:=∀b x' u,r=U (b,x',u)->x<x'/\x'<=E.t.length/\b.size+pz E.t x<=pz E.t x'
theorem mw{E:dF}{rec:mB}(hr:∀i x dp r,rec i x dp=U r->Gy E x r){dp:Int}:∀(ks:Ls Kd) (x:Nat) (out:Q) (u:Bool) (r:cP),x<=E.t.length->dP E rec dp ks x out u=U r->∀b x' u',r=U (b,x',u')->x<=x'/\x'<=E.t.length/\b.size+pz E.t x<=out.size+pz E.t x'
 | [],x,out,u,r,hx,e=>by
   unfold dP at e
   cases e
   intro b x' u' q
   cases q
   exact⟨Ln,hx,Ln⟩
 |k::ks,x,out,u,r,hx,e=>by
  unfold dP at e
  split at e
  ·rename_i q
   split at e
   ·intro b x' u' h
    have:=mw hr ks (x+1) out u r q.2.1 e b x' u' h
    have hp:=zX q.2.1
    omega
   ·cases e;intro b x' u' h;cases h
  ·rcases dg e with⟨_,rfl⟩|⟨b1,x1,u1,h1,h2⟩
   ·intro b x' u' h;cases h
   ·have a1:=hr _ _ _ _ h1 b1 x1 u1 X
    split at h2
    ·intro b x' u' h
     have:=mw hr ks x1 out _ r a1.2.1 h2 b x' u' h
     omega
    ·split at h2
     ·cases h2;intro b x' u' h;cases h
     ·intro b x' u' h
      have:=mw hr ks x1 _ _ r a1.2.1 h2 b x' u' h
      rw[ba]at this
      omega
theorem rJ{E:dF}{rec:mB}(hr:∀i x dp r,rec i x dp=U r->Gy E x r){set:Bool}{i:Nat}{dp:Int}:∀(m:Nat) (c:Int) (x:Nat) (out last:Q) (u:Bool) (r:cP),x<=E.t.length->eG E rec set i dp m c x out last u=U r->∀b x' u',r=U (b,x',u')->x<=x'/\x'<=E.t.length/\b.size+pz E.t x<=out.size+pz E.t x'
 |0,_,_,_,_,_,_,_,e=>by cases e
 |m+1,c,x,out,last,u,r,hx,e=>by
  unfold eG at e
  split at e
  ·rcases dg e with⟨_,rfl⟩|⟨b1,x1,u1,h1,h2⟩
   ·intro b x' u' h;cases h
   ·have a1:=hr _ _ _ _ h1 b1 x1 u1 X
    intro b x' u' h
    have:=rJ hr m _ x1 _ _ _ r a1.2.1 h2 b x' u' h
    rw[ba]at this
    omega
  ·cases e
   intro b x' u' h
   cases h
   exact⟨Ln,hx,Ln⟩
theorem zh{E:dF}{rec:mB}(hr:∀i x dp r,rec i x dp=U r->Gy E x r){m:Nat}{n:Nd}{cl nu:Int}{x:Nat}{dp:Int}{r:cP}(hx:x<E.t.length)(e:dO E rec m n cl nu (vl E.t x) (x+1) dp=U r):∀b x' u,r=U (b,x',u)->x<x'/\x'<=E.t.length/\b.size+pz E.t x+5<=pz E.t x':=by
 have hp:=zX hx;have h0:bh.size=0:=X;unfold dO at e;split at e
 ·split at e
  ·intro b x' u h;have:=hr _ _ _ _ e b x' u h;omega
  cases e;intro b x' u h;cases h
 split at e
 ·split at e
  ·cases e;intro b x' u h;cases h;exact⟨O,O,O⟩
  cases e;intro b x' u h;cases h
 split at e
 ·split at e
  ·rcases dg e with⟨_,rfl⟩|⟨b1,x1,u1,h1,h2⟩
   ·intro b x' u' h;cases h
   have a1:=mw hr _ _ _ _ _ O h1 b1 x1 u1 X;cases h2;intro b x' u' h;cases h;have:=cQ cl true nu b1;omega
  cases e;intro b x' u h;cases h
 split at e
 ·split at e
  ·rcases dg e with⟨_,rfl⟩|⟨b1,x1,u1,h1,h2⟩
   ·intro b x' u' h;cases h
   have a1:=rJ hr _ _ _ _ _ _ _ O h1 b1 x1 u1 X;cases h2;intro b x' u' h;cases h;have:=cQ cl true nu b1;omega
  cases e;intro b x' u h;cases h
 split at e
 ·cases e;intro b x' u h;cases h;have:=cQ cl false nu (vl E.t x).text;exact⟨O,O,O⟩
 cases e;intro b x' u h;cases h
theorem oe{E:dF}:∀(f i x:Nat) (dp:Int) (r:cP),wrF E f i x dp=U r->Gy E x r
 |0,_,_,_,_,e=>by cases e
 |f+1,i,x,dp,r,e=>by
  rw[wrF]at e
  split at e
  ·rename_i q
   rcases dg e with⟨_,rfl⟩|⟨b1,x1,u1,h1,h2⟩
   ·intro b x' u h;cases h
   ·have a1:=zh (oe f) q.1 h1 b1 x1 u1 X
    cases h2
    intro b x' u h
    cases h
    refine⟨a1.1,a1.2.1,?_⟩
    split
    ·have:=cQ 2 true (nd E.s i).tag b1
     omega
    ·omega
  ·cases e;intro b x' u h;cases h
theorem lr{E:dF}{rec:mB}(ha:∀i x dp r,rec i x dp=U r->Gy E x r){dp:Int}(x0:Nat)(hr:∀i x dp,x0<=x->∃r,rec i x dp=U r):∀(ks:Ls Kd) (x:Nat) (out:Q) (u:Bool),x0<=x->∃r,dP E rec dp ks x out u=U r
 | [],x,out,u,_=>⟨_,X⟩
 |k::ks,x,out,u,hx=>by
  unfold dP
  split
  ·split
   ·exact lr ha x0 hr ks (x+1) out u O
   ·exact⟨_,X⟩
  ·obtain⟨r1,h1⟩:=hr k.node.toNat x (if k.dflt.size=0 then dp+1 else 1) hx
   refine gQ h1 fun b x' u' q=>?_
   have a1:=ha _ _ _ _ h1 b x' u' q
   split
   ·exact lr ha x0 hr ks x' _ _ O
   split
   ·exact⟨_,X⟩
   ·exact lr ha x0 hr ks x' _ _ O
theorem pe{E:dF}{rec:mB}(ha:∀i x dp r,rec i x dp=U r->Gy E x r){set:Bool}{i:Nat}{dp:Int}(x0:Nat)(hr:∀i x dp,x0<=x->∃r,rec i x dp=U r):∀(m:Nat) (c:Int) (x:Nat) (out last:Q) (u:Bool),x0<=x->x<=E.t.length->E.t.length+1<=m+x->∃r,eG E rec set i dp m c x out last u=U r
 |0,c,x,out,last,u,_,h1,h2=>O
 |m+1,c,x,out,last,u,hx,h1,h2=>by
  unfold eG
  split
  ·obtain⟨r1,g1⟩:=hr i x dp hx
   refine gQ g1 fun b x' u' q=>?_
   have a1:=ha _ _ _ _ g1 b x' u' q
   exact pe ha x0 hr m _ x' _ _ _ O a1.2.1 O
  ·exact⟨_,X⟩
theorem rL{E:dF}:∀(f i x:Nat) (dp:Int),E.t.length+1<=f+x->1<=f->∃r,wrF E f i x dp=U r
 |0,_,_,_,_,h=>O
 |f+1,i,x,dp,h,_=>by
  rw[wrF]
  split
  ·rename_i q
   have hr:∀i' x' dp',x+1<=x'->∃r,wrF E f i' x' dp'=U r:=fun i' x' dp' hx=>rL f i' x' dp' O O
   have ha:=oe (E:=E) f
   have hb:∃r,dO E (wrF E f) f (nd E.s i) (nl (nd E.s i)) (np (nd E.s i)) (vl E.t x) (x+1) dp=U r:=by
    unfold dO
    split
    ·split
     ·exact hr _ _ _ Ln
     ·exact⟨_,X⟩
    split
    ·split<;>exact⟨_,X⟩
    split
    ·split
     ·obtain⟨r1,g1⟩:=lr (E:=E) ha (dp:=dp) (x+1) hr (nd E.s i).kids (x+1) bh false Ln
      exact gQ g1 fun _ _ _ _=>⟨_,X⟩
     ·exact⟨_,X⟩
    split
    ·split
     ·obtain⟨r1,g1⟩:=pe (E:=E) ha (set:=decide ((nd E.s i).kind=12)) (i:=(kd (nd E.s i) 0).node.toNat) (dp:=dp+1) (x+1) hr f (vl E.t x).kids (x+1) bh bh false Ln q.1 O
      exact gQ g1 fun _ _ _ _=>⟨_,X⟩
     ·exact⟨_,X⟩
    split<;>exact⟨_,X⟩
   obtain⟨r1,g1⟩:=hb
   exact gQ g1 fun _ _ _ _=>⟨_,X⟩
  ·exact⟨_,X⟩
theorem qI(c:Int)(b:Bool)(n:Int)(s:Q):eN c b n s=⟨(Uo (fb ⟨c,b,n,0,s.size⟩).toNat::(tl s.size++s.data.toList)).toArray⟩:=by
 unfold eN;conv=>lhs;rw[yF s]
 rw[A8,<-yF s];rfl
theorem FZ(c:Int)(b:Bool)(n:Int)(s:Q)(q1:0<=c)(q2:c<=3)(q3:0<=n)(q4:n<=30)(hs:s.size<=16777215):hd (eN c b n s)=(0,⟨c,b,n,2+cnt s.size,s.size⟩):=by rw[qI,D4 c b n s.size 0 q1 q2 q3 q4 O O,G (by show¬(((s.data.toList.length:Nat):Int)<s.size);simp)]
theorem m5(c:Int)(b:Bool)(n:Int)(s:Q):((eN c b n s).size:Int)=2+cnt s.size+s.size:=by
 have h:=fM s.size;unfold eN;rw[ba,fk,aU];omega
theorem CE(c:Int)(b:Bool)(n:Int)(s:Q):(eN c b n s).extract (2+cnt s.size).toNat (eN c b n s).size=s:=by
 have h:=fM s.size;have hz:=m5 c b n s;rw[qI];apply bC;apply Array.toList_inj.1;rw[Lib.extract_data,fk,show(2+cnt s.size).toNat=(tl s.size).length+1 by omega];show((Uo (fb ⟨c,b,n,0,s.size⟩).toNat::(tl s.size++s.data.toList)).drop _).take _=_;rw[List.drop_succ_cons,List.drop_left,cZ Sq]
theorem Gp(r:Ls UInt8)(h:(rl ⟨r.toArray⟩).1=0):∃rest,r=tl (rl ⟨r.toArray⟩).2.2++rest/\(rl ⟨r.toArray⟩).2.1=1+cnt (rl ⟨r.toArray⟩).2.2:=by
 obtain⟨u,hu⟩:∃u,rl ⟨r.toArray⟩=u:=Ey;rw[hu]at h ⊢;have hof:∀a:UInt8,Uo ((a.toNat:Int)).toNat=a:=fun a=>Sq;unfold rl at hu;rw[fk]at hu;rcases r with _|⟨a,r⟩
 ·rw[aG bD]at hu;rw[<-hu]at h;cases h
 have ha:=iK a;rw[G Sq,show b8 ⟨(a::r).toArray⟩ 0=(a.toNat:Int)by rw[iv];rfl]at hu;by_cases h1:(a.toNat:Int)<128
 ·rw[aG h1]at hu;subst hu;refine⟨r,?_,?_⟩
  ·show _=tl (a.toNat:Int)++r;unfold tl;rw[aG h1,hof];rfl
  show(1:Int)=1+cnt (a.toNat:Int);unfold cnt;rw[aG h1];rfl
 rw[G h1]at hu;by_cases h2:(a.toNat:Int)=128\/131<(a.toNat:Int)
 ·rw[aG h2]at hu;rw[<-hu]at h;cases h
 rw[G h2]at hu;by_cases h3:(((a::r).length:Nat):Int)<=(a.toNat:Int)-128
 ·rw[aG h3]at hu;rw[<-hu]at h;cases h
 rw[G h3]at hu;by_cases h4:(a.toNat:Int)-128≠cnt (bH ⟨(a::r).toArray⟩ ((a.toNat:Int)-128).toNat)
 ·rw[aG h4]at hu;rw[<-hu]at h;cases h
 rw[G h4]at hu;have h4':(a.toNat:Int)-128=cnt (bH ⟨(a::r).toArray⟩ ((a.toNat:Int)-128).toNat):=Classical.not_not.1 h4;subst hu;have hN:=gy ⟨(a::r).toArray⟩ ((a.toNat:Int)-128).toNat;obtain⟨N,hNe⟩:∃N,bH ⟨(a::r).toArray⟩ ((a.toNat:Int)-128).toNat=N:=Ey;rw[hNe]at h4' hN ⊢;show∃rest,a::r=tl N++rest/\1+((a.toNat:Int)-128)=1+cnt N;have hlen:((a.toNat:Int)-128)<((a::r).length:Nat):=O;simp only[aU]at hlen;have hc:=cnt_cases N;have haa:∀k:Nat,k<256->a.toNat=k->a=Uo k:=fun k hk e=>by rw[<-e];simp
 have hA:a.toNat=129\/a.toNat=130\/a.toNat=131:=O;rcases hA with hA|hA|hA
 ·have hc1:128<=N/\N<256:=O;rcases r with _|⟨r1,rest⟩
  ·simp at hlen;omega
  have e1:N=(r1.toNat:Int):=by rw[<-hNe,show((a.toNat:Int)-128).toNat=1 by omega];simp only[bH];rw[iv];simp
  refine⟨rest,?_,O⟩;unfold tl;rw[G O,aG hc1.2,e1,hof,haa 129 Dc hA];rfl
 ·have hc1:256<=N/\N<65536:=O;rcases r with _|⟨r1,_|⟨r2,rest⟩⟩
  ·simp at hlen;omega
  ·simp at hlen;omega
  have b1:=iK r1;have b2:=iK r2;have e1:N=(r1.toNat:Int)*256+(r2.toNat:Int):=by rw[<-hNe,show((a.toNat:Int)-128).toNat=2 by omega];simp only[bH];rw[iv,iv];simp
  refine⟨rest,?_,O⟩;unfold tl;rw[G O,G O,aG hc1.2,show N/256=(r1.toNat:Int)by omega,show N%256=(r2.toNat:Int)by omega,hof,hof,haa 130 Dc hA];rfl
 have hc1:65536<=N:=O;rcases r with _|⟨r1,_|⟨r2,_|⟨r3,rest⟩⟩⟩
 ·simp at hlen;omega
 ·simp at hlen;omega
 ·simp at hlen;omega
 have b1:=iK r1;have b2:=iK r2;have b3:=iK r3;have e1:N=((r1.toNat:Int)*256+(r2.toNat:Int))*256+(r3.toNat:Int):=by rw[<-hNe,show((a.toNat:Int)-128).toNat=3 by omega];simp only[bH];rw[iv,iv,iv];simp
 refine⟨rest,?_,O⟩;unfold tl;rw[G O,G O,G O,show N/65536=(r1.toNat:Int)by omega,show N/256%256=(r2.toNat:Int)by omega,show N%256=(r3.toNat:Int)by omega,hof,hof,hof,haa 131 Dc hA];rfl
theorem yf{t:Q}(h:(hd t).1=0)(hz:(hd t).2.s+(hd t).2.l=t.size):t=eN (hd t).2.c (hd t).2.b (hd t).2.n (t.extract (hd t).2.s.toNat t.size)/\0<=(hd t).2.c/\(hd t).2.c<=3/\0<=(hd t).2.n/\(hd t).2.n<=30/\((t.extract (hd t).2.s.toNat t.size).size:Int)=(hd t).2.l/\(hd t).2.l<=16777215:=by
 have e:t=⟨t.data.toList.toArray⟩:=yF t;generalize t.data.toList=l at e;subst e;rcases l with _|⟨a,r⟩
 ·unfold hd at h;rw[fk,aG bD]at h;cases h
 have ha:=iK a;have hb:b8 ⟨(a::r).toArray⟩ 0=(a.toNat:Int):=by rw[iv];rfl
 unfold hd at h hz ⊢;rw[qK,hb]at h hz ⊢;have hzr:((⟨(a::r).toArray⟩:Q).size)≠0:=by rw[fk];simp
 rw[G hzr]at h hz ⊢;by_cases q1:(a.toNat:Int)%32=31
 ·rw[aG q1]at h;cases h
 rw[G q1]at h hz ⊢;by_cases q2:(rl ⟨r.toArray⟩).1≠0
 ·rw[aG q2]at h;exact Ab h q2
 rw[G q2]at h hz ⊢;have q2':(rl ⟨r.toArray⟩).1=0:=Classical.not_not.1 q2;have hbd:=zY ⟨r.toArray⟩;obtain⟨rest,e1,e2⟩:=Gp r q2';generalize rl ⟨r.toArray⟩=u at h hz e1 e2 q2' hbd ⊢;obtain⟨u0,u1,u2⟩:=u;simp only at h hz e1 e2 q2' hbd ⊢;split at h
 ·cases h
 rename_i q3;rw[G q3]at hz ⊢;simp only at hz ⊢;have hl:=fM u2;have hrest:(⟨(a::r).toArray⟩:Q).extract (u1+1).toNat (⟨(a::r).toArray⟩:Q).size=⟨rest.toArray⟩:=by apply bC;apply Array.toList_inj.1;rw[Lib.extract_data,fk];show((a::r).toArray.toList.drop (u1+1).toNat).take _=_;rw[show(u1+1).toNat=(tl u2).length+1 by omega,e1];simp
 have hsz:(⟨(a::r).toArray⟩:Q).size=(tl u2).length+1+rest.length:=by rw[fk,e1];simp;omega
 rw[hsz]at hz;have hr:(rest.length:Int)=u2:=O;rw[hrest,fk];refine⟨?_,O,O,O,O,O,O⟩;rw[qI,fk,hr];have hf:fb ⟨(a.toNat:Int)/64,(a.toNat:Int)/32%2==1,(a.toNat:Int)%32,0,u2⟩=(a.toNat:Int):=by
  unfold fb;simp only;split
  ·rename_i hh;have:=bV.1 hh;omega
  rename_i hh;have:¬(a.toNat:Int)/32%2=1:=fun q=>hh (bV.2 q);omega
 rw[hf,show Uo ((a.toNat:Int)).toNat=a by simp,show(⟨rest.toArray⟩:Q).data.toList=rest by simp,<-e1]
def hdB(c:Int)(b:Bool)(n:Int)(l:Nat):Q:=⟨(Uo (fb ⟨c,b,n,0,l⟩).toNat::tl l).toArray⟩
theorem zI(c:Int)(b:Bool)(n:Int)(s:Q):eN c b n s=hdB c b n s.size++s:=rfl
def mC(t:Q)(p:Nat)(tx:Q):Q:=t.extract 0 p++tx++t.extract p t.size
theorem mg{t:Q}{p:Nat}(tx:Q)(hp:p<=t.size):(mC t p tx).size=t.size+tx.size:=by
 unfold mC;rw[ba,ba,bq,bq];omega
def Hw(t0:Q)(l0:Bool)(p:Nat)(tx:Q)(t1:Q)(l1:Bool):Prop:=
 ((l0=true\/4000<t0.size+tx.size)/\t1=t0/\l1=true)\/(l0=false/\t0.size+tx.size<=4000/\t1=mC t0 p tx/\l1=false)
structure nk(t0:Q)(l0:Bool)(o0:Oo Int)(b:Q)(u:Bool)(t1:Q)(l1:Bool)(o1:Oo Int):Prop where
 le:t0.size<=t1.size
 mx:t1.size<=4000
 mono:l0=true->l1=true
 told:l1=false->t1=t0++b
 ord:l1=false->o1.isSome=(o0.isSome||u)
 long:l0=false->l1=true->4000<t0.size+b.size
theorem pA(t:Q):t++bh=t:=by apply bC;simp[bh]
theorem nk.refl{t:Q}{l:Bool}{o:Oo Int}(h:t.size<=4000):nk t l o bh false t l o where
 le:=Ln
 mx:=h
 mono:=id
 told:=fun _=>(pA t).symm
 ord:=fun _=>Sq
 long:=fun h1 h2=>by rw[h1]at h2;cases h2
theorem nk.trans{t0 t1 t2:Q}{l0 l1 l2:Bool}{o0 o1 o2:Oo Int}{b1 b2:Q}{u1 u2:Bool}(h:nk t0 l0 o0 b1 u1 t1 l1 o1)(k:nk t1 l1 o1 b2 u2 t2 l2 o2):nk t0 l0 o0 (b1++b2) (u1||u2) t2 l2 o2:=by
 have h1:l2=false->l1=false:=fun q=>by
  cases hl:l1
  ·rfl
  rw[k.mono hl]at q;cases q
 refine⟨bl h.le k.le,k.mx,fun q=>k.mono (h.mono q),fun q=>?_,fun q=>?_,fun q1 q2=>?_⟩
 ·rw[k.told q,h.told (h1 q),jO]
 ·rw[k.ord q,h.ord (h1 q),Bool.or_assoc]
 rw[ba];cases hl:l1
 ·have:=k.long hl q2;rw[h.told hl,ba]at this;omega
 have:=h.long q1 hl;omega
theorem yj(t tx:Q):mC t t.size tx=t++tx:=by unfold mC;rw[show t.extract 0 t.size=t by simp,show t.extract t.size t.size=bh by apply bC;simp[bh],pA]
theorem nk.ofIns{t0 t1:Q}{l0 l1:Bool}{o:Oo Int}{tx:Q}(h4:t0.size<=4000)(h:Hw t0 l0 t0.size tx t1 l1):nk t0 l0 o tx false t1 l1 o:=by
 rcases h with⟨h1,rfl,rfl⟩|⟨rfl,h2,rfl,rfl⟩
 ·refine⟨Ln,h4,fun _=>rfl,fun q=>(by cases q),fun q=>(by cases q),fun q _=>?_⟩;rcases h1 with h1|h1
  ·rw[q]at h1;cases h1
  exact h1
 refine⟨?_,?_,fun q=>q,fun _=>yj _ _,fun _=>Sq,fun _ q=>(by cases q)⟩
 ·rw[mg tx Ln];omega
 rw[mg tx Ln];exact h2
theorem yl(t b tx:Q):mC (t++b) t.size tx=t++(tx++b):=by
 unfold mC;have e1:(t++b).extract 0 t.size=t:=by apply bC;simp
 have e2:(t++b).extract t.size (t++b).size=b:=by apply bC;apply Array.toList_inj.1;rw[Lib.extract_data,ba];simp;exact cZ Sq
 rw[e1,e2,jO]
theorem nk.wrap{t0 t1 t2:Q}{l0 l1 l2:Bool}{o0 o1:Oo Int}{b:Q}{u:Bool}{c:Int}{bt:Bool}{n:Int}(h:nk t0 l0 o0 b u t1 l1 o1)(k:Hw t1 l1 t0.size (hdB c bt n (t1.size-t0.size)) t2 l2):nk t0 l0 o0 (eN c bt n b) u t2 l2 o1:=by
 have hsz:l1=false->t1.size-t0.size=b.size:=fun q=>by rw[h.told q,ba];omega
 have hel:(eN c bt n b).size=(hdB c bt n b.size).size+b.size:=by rw[zI,ba]
 rcases k with⟨h1,rfl,rfl⟩|⟨rfl,h2,rfl,rfl⟩
 ·refine⟨h.le,h.mx,fun _=>rfl,fun q=>(by cases q),fun q=>(by cases q),fun q _=>?_⟩;rw[hel];cases hl:l1
  ·rcases h1 with h1|h1
   ·rw[hl]at h1;cases h1
   rw[hsz hl,h.told hl,ba]at h1;omega
  have:=h.long q hl;omega
 have hs:=mg (hdB c bt n (t1.size-t0.size)) h.le;refine⟨?_,?_,fun q=>h.mono q,fun _=>?_,fun q=>h.ord X,fun _ q=>(by cases q)⟩
 ·have:=h.le;omega
 ·omega
 rw[hsz X,h.told X,yl,zI]
theorem nk.order{t0 t1:Q}{l0 l1:Bool}{o0 o1 o2:Oo Int}{b:Q}{u z:Bool}(h:nk t0 l0 o0 b u t1 l1 o1)(k:l1=false->o2.isSome=(o1.isSome||z)):nk t0 l0 o0 b (u||z) t1 l1 o2:=
 ⟨h.le,h.mx,h.mono,h.told,fun q=>by rw[k q,h.ord q,Bool.or_assoc],h.long⟩
theorem nk.longer{t0 t1:Q}{l0:Bool}{o0 o1 o2:Oo Int}{b b':Q}{u u':Bool}(h:nk t0 true o0 b u t1 true o1)(k:l0=false->4000<b'.size):nk t0 l0 o2 b' u' t1 true o1:=
 ⟨h.le,h.mx,fun _=>rfl,fun q=>(by cases q),fun q=>(by cases q),fun q _=>by have:=k q;omega⟩
def jK(l:Ls Int)(b:Q):Q:=l.foldr (fun t b=>eN 2 true t b) b
theorem zl(l:Ls Int)(t:Int)(b:Q):jK (l++[t]) b=jK l (eN 2 true t b):=by simp[jK]
theorem zk(l:Ls Int)(t:Int)(b:Q):jK (t::l) b=eN 2 true t (jK l b):=by simp[jK]
theorem rM:∀(l:Ls Int) (b:Q),2*l.length+b.size<=(jK l b).size
 | [],b=>by simp[jK]
 |t::l,b=>by
  have h:=rM l b
  have h2:=m5 2 true t (jK l b)
  have h3:=cnt_cases (jK l b).size
  rw[zk]
  simp only[aU]
  omega
theorem wi:∀(a b:Ls UInt8),(decide (Lib.compareBytes a b<0))=Op.bytesLess a b
 | [],[]=>rfl
 | [],_::_=>rfl
 |_::_,[]=>rfl
 |a::x,b::y=>by
  rw[Lib.compareBytes,Op.bytesLess]
  by_cases h:a<b
  ·simp[h]
  ·rw[G h]
   by_cases h2:b<a
   ·have hne:(a==b)=false:=by
     rw[aD]
     rintro rfl
     exact UInt8.lt_irrefl _ h2
    rw[aG h2,hne]
    simp[h]
   ·rw[G h2]
    have he:a=b:=by
     apply UInt8.toNat_inj.1
     rw[UInt8.lt_iff_toNat_lt]at h h2
     omega
    subst he
    rw[wi x y]
    simp[UInt8.lt_irrefl]
def qg(r r':mB):Prop:=∀i x dp o,r i x dp=U o->r' i x dp=U o
theorem i7{o o':Oo cP}{k k':Q->Nat->Bool->Oo cP}{v:cP}(ho:∀u,o=U u->o'=U u)(hk:∀b x u v,k b x u=U v->k' b x u=U v)(h:cP.andThen o k=U v):cP.andThen o' k'=U v:=by
 rcases dg h with⟨h1,h2⟩|⟨b,x,u,h1,h2⟩
 ·rw[ho _ h1,h2];rfl
 rw[ho _ h1];exact hk b x u v h2
theorem og{E:dF}{r r':mB}(hr:qg r r'){dp:Int}:∀(ks:Ls Kd) (x:Nat) (out:Q) (u:Bool) (v:cP),dP E r dp ks x out u=U v->dP E r' dp ks x out u=U v
 | [],x,out,u,v,h=>h
 |k::ks,x,out,u,v,h=>by
  unfold dP at h ⊢
  split at h
  ·rename_i q
   rw[aG q]
   split at h
   ·rename_i q2
    rw[aG q2]
    exact og hr ks _ _ _ _ h
   ·rename_i q2
    rw[G q2]
    exact h
  ·rename_i q
   rw[G q]
   refine i7 (fun o ho=>hr _ _ _ _ ho) (fun b x' u' v h=>?_) h
   split at h
   ·rename_i q2
    rw[aG q2]
    exact og hr ks _ _ _ _ h
   ·rename_i q2
    rw[G q2]
    split at h
    ·rename_i q3
     rw[aG q3]
     exact h
    ·rename_i q3
     rw[G q3]
     exact og hr ks _ _ _ _ h
theorem oO{E:dF}{r r':mB}(hr:qg r r'){set:Bool}{i:Nat}{dp:Int}:∀(m m':Nat) (c:Int) (x:Nat) (out last:Q) (u:Bool) (v:cP),m<=m'->eG E r set i dp m c x out last u=U v->eG E r' set i dp m' c x out last u=U v
 |0,_,_,_,_,_,_,_,_,h=>by cases h
 |m+1,0,_,_,_,_,_,_,hm,_=>O
 |m+1,m'+1,c,x,out,last,u,v,hm,h=>by
  unfold eG at h ⊢
  split at h
  ·rename_i q
   rw[aG q]
   exact i7 (fun o ho=>hr _ _ _ _ ho) (fun b x' u' v h=>oO hr m m' _ _ _ _ _ _ O h) h
  ·rename_i q
   rw[G q]
   exact h
theorem BC{E:dF}{r r':mB}(hr:qg r r'){m m':Nat}(hm:m<=m'){n:Nd}{cl nu:Int}{v:Vl}{x:Nat}{dp:Int}{o:cP}(h:dO E r m n cl nu v x dp=U o):dO E r' m' n cl nu v x dp=U o:=by
 unfold dO at h ⊢;split at h
 ·rename_i q;rw[aG q];split at h
  ·rename_i q2;rw[aG q2];exact hr _ _ _ _ h
  rename_i q2;rw[G q2];exact h
 rename_i q0;rw[G q0];split at h
 ·rename_i q;rw[aG q];exact h
 rename_i q1;rw[G q1];split at h
 ·rename_i q;rw[aG q];split at h
  ·rename_i q2;rw[aG q2];exact i7 (fun o ho=>og hr _ _ _ _ _ ho) (fun _ _ _ _ h=>h) h
  rename_i q2;rw[G q2];exact h
 rename_i q3;rw[G q3];split at h
 ·rename_i q;rw[aG q];split at h
  ·rename_i q2;rw[aG q2];exact i7 (fun o ho=>oO hr _ _ _ _ _ _ _ _ hm ho) (fun _ _ _ _ h=>h) h
  rename_i q2;rw[G q2];exact h
 rename_i q4;rw[G q4];exact h
theorem DC{E:dF}:∀f,qg (wrF E f) (wrF E (f+1))
 |0=>fun _ _ _ _ h=>by cases h
 |f+1=>fun i x dp o h=>by
  rw[wrF]at h ⊢
  split at h
  ·rename_i q
   rw[aG q]
   exact i7 (fun o ho=>BC (DC f) (jt _) ho) (fun _ _ _ _ h=>h) h
  ·rename_i q
   rw[G q]
   exact h
theorem Ai{E:dF}(f:Nat):∀k,qg (wrF E f) (wrF E (f+k))
 |0=>fun _ _ _ _ h=>h
 |k+1=>fun i x dp o h=>DC (f+k) i x dp o (Ai f k i x dp o h)
def At(d:Q)(x:Nat)(b:Q):Prop:=x+b.size<=d.size/\d.extract x (x+b.size)=b
theorem At.all(d:Q):At d 0 d:=⟨O,by rw[b9];exact lZ⟩
theorem At.nil{d:Q}{x:Nat}(h:x<=d.size):At d x bh:=⟨h,by
 apply bC
 apply Array.toList_inj.1
 apply BS
 show(d.extract x (x+0)).size=0
 rw[fB];omega⟩
theorem At.left{d a b:Q}{x:Nat}(h:At d x (a++b)):At d x a:=by
 have e:=h.2;have hz:=h.1;rw[ba]at e hz;refine⟨O,?_⟩;have q:(d.extract x (x+(a.size+b.size))).extract 0 a.size=(a++b).extract 0 a.size:=by rw[e]
 rw[fH,ByteArray.extract_append_eq_left X,iS,pV O]at q;exact q
theorem At.right{d a b:Q}{x:Nat}(h:At d x (a++b)):At d (x+a.size) b:=by
 have e:=h.2;have hz:=h.1;rw[ba]at e hz;refine⟨O,?_⟩;have q:(d.extract x (x+(a.size+b.size))).extract a.size (a.size+b.size)=(a++b).extract a.size (a.size+b.size):=by rw[e]
 rw[fH,ByteArray.extract_append_eq_right X X,Nat.min_self,<-eU]at q;exact q
theorem At.hd{E:cw}{b:Q}{x y:Nat}(h:At E.d x b)(h0:(hd b).1=0)(hz:(hd b).2.s+(hd b).2.l=b.size)(hy:x+b.size<=y)(hyd:y<=E.d.size):E.hd x y=Go.Proofs.YtkkicodfpekbgaaGreatDoor.hd b/\iH x (E.hd x y).2=x+b.size:=by
 have e:E.hd x (x+b.size)=Go.Proofs.YtkkicodfpekbgaaGreatDoor.hd b:=by unfold cw.hd;rw[h.2]
 have h1:(E.hd x (x+b.size)).1=0:=by rw[e];exact h0
 have hf:iH x (E.hd x (x+b.size)).2=x+b.size:=by have:=ix h1;rw[e]at this ⊢;omega
 have ha:=nP h1 (z:=y) O hyd h.1;rw[ha];exact⟨e,hf⟩
theorem At.el{d s:Q}{x:Nat}{c:Int}{b:Bool}{n:Int}(h:At d x (eN c b n s)):At d (x+(2+cnt s.size).toNat) s:=by
 have hz:=m5 c b n s;unfold eN at h hz;have q:=h.right;rw[ba]at hz;rw[show(2+cnt s.size).toNat=(⟨(Uo (fb ⟨c,b,n,0,s.size⟩).toNat::tl s.size).toArray⟩:Q).size by omega];exact q
end Go.Proofs.YtkkicodfpekbgaaGreatDoor
