/- Parts. -/
import Derived.Test.YtkkicodfpekbgaaGreatDoorJe0
open Go.Value renaming int->I,string->Y,slice->S,bool->Bo,agg->Ag,tuple->Tu
open Go.IntKind renaming i64->J
open Go.Obj renaming cells->C
open Go.Ending renaming returned->Rt
open Option renaming some->U,none->Z
open Go renaming World->M,Calls->Cs,Addr->Ad,Value->Vv
open _root_ renaming ByteArray->Q,Option->Oo,List->Ls
open Go.RowKit renaming Below->H,intOf->Io,Hid->Hi
open Go.World renaming cell?->Wc
open Go.Addr renaming mk->D
set_option linter.all false
set_option maxRecDepth 100000
set_option maxHeartbeats 8000000
namespace Go.Proofs.YtkkicodfpekbgaaGreatDoor
section
theorem ahA{s:Ls Nd}{i j:Nat}(ho:¬(nd s i).opn)(hr:ig s i j):j=i:=
 ig.ind (P:=fun j=>j=i) X (fun m k _ AN _ ih=>Ab (ih▸AN) ho) hr
def Ky(n:Nd):Int×Int:=if 0<=n.tag then(2,n.tag)else(0,own n.kind)
def Db(s:Ls Nd)(i:Nat):Ls (Int×Int):=if(nd s i).opnB then(nd s i).kids.map (fun k=>Ky (nd s k.node.toNat))else [Ky (nd s i)]
def Ar(s:Ls Nd):Prop:=∀i,(nd s i).kind≠14/\((nd s i).opn->∀k∈(nd s i).kids,¬(nd s k.node.toNat).opn)
def Vh(s:Ls Nd):Bool:=s.all fun n=>decide (n.kind≠14)&&(!n.opnB||n.kids.all fun k=> !(nd s k.node.toNat).opnB)
theorem Xj(s:Ls Nd)(i:Nat):nd s i∈s\/nd s i=Jr:=by
 unfold nd;rw[dy];by_cases h:i<s.length;·rw[dz h];exact .inl (me _)
 rw[xz O];exact .inr X
theorem ad3{s:Ls Nd}(h:Vh s=true):Ar s:=fun i=>by
 rcases Xj s i with hm|e;·have:=List.all_eq_true.1 h _ hm;rw[xp]at this;refine⟨Bj this.1,fun ho k hk=>?_⟩;have h2:=this.2;rw[Nd.opnB_yes ho]at h2;have h3:=List.all_eq_true.1 h2 k hk;intro q;rw[Nd.opnB_yes q]at h3;cases h3
 rw[e];exact⟨Dc,fun ho=>Ab ho.1 Dc⟩
theorem Ir{n:Nd}(h:n.kind≠14){c m:Int}:qh n c m↔(c,m)=Ky n:=by
 unfold qh Ky;by_cases ht:0<=n.tag
 ·rw[ba ht];constructor
  ·rintro(⟨_,h1,h2⟩|⟨h1,_⟩|⟨h1,_⟩);(·rw[h1,h2]);(·omega);omega
  intro e;injection e with e1 e2;exact .inl ⟨ht,e1,e2⟩
 rw[G ht];constructor
 ·rintro(⟨h1,_⟩|⟨_,h1⟩|⟨_,_,h1,h2⟩);·omega
  ·exact Ab h1 h
  rw[h1,h2]
 intro e;injection e with e1 e2;exact .inr (.inr ⟨O,h,e1,e2⟩)
theorem Is{s:Ls Nd}(hf:Ar s){i:Nat}{c m:Int}:lv s i c m↔(c,m)∈Db s i:=by
 unfold Db;by_cases ho:(nd s i).opn
 ·rw[ba (Nd.opnB_yes ho),List.mem_map];constructor
  ·rintro⟨j,⟨hr,hn⟩,hb⟩;have hc:j=i\/∃k∈(nd s i).kids,j=k.node.toNat:=ig.ind (P:=fun j=>j=i\/∃k∈(nd s i).kids,j=k.node.toNat) (.inl X) (fun m k _ AN hk ih=>by
    rcases ih with rfl|⟨k',eI,rfl⟩;(·exact .inr ⟨k,hk,X⟩);exact Ab AN ((hf i).2 ho k' eI)) hr
   rcases hc with rfl|⟨k,hk,rfl⟩;(·exact Ab ho hn);exact⟨k,hk,((Ir (hf _).1).1 hb).symm⟩
  rintro⟨k,hk,e⟩;exact⟨k.node.toNat,⟨ig.refl.step ho hk,(hf i).2 ho k hk⟩,(Ir (hf _).1).2 e.symm⟩
 rw[G (by rw[Nd.opnB_no ho];decide),List.mem_singleton];constructor;·rintro⟨j,⟨hr,_⟩,hb⟩;obtain rfl:=ahA ho hr;exact(Ir (hf _).1).1 hb
 intro e;exact⟨i,⟨.refl,ho⟩,(Ir (hf _).1).2 e⟩
def Jq(k:Kd):Bool:= !k.opt&&decide (k.dflt.size=0)
def Vz(len:Nat)(n:Nd)(k:Kd):Bool:=decide (0<=k.node)&&decide (k.node<len)&&(Jq k||decide (n.kind=10))&& !(k.opt&&decide (k.dflt.size≠0))
def Uq(k:Int)(m:Nat):Bool:=if k=10 then decide (m<=8)else if k=11\/k=12 then decide (m=1)else if k=13 then decide (1<=m/\m<=8)else decide (m=0)
def Mz(len:Nat)(n:Nd):Bool:=decide (1<=n.kind/\n.kind<=13/\ -1<=n.tag/\n.tag<=30/\(n.mode=0\/n.mode=1))&&decide (¬(n.mode=1/\n.tag= -1)/\¬(n.kind=13/\0<=n.tag/\n.mode=0))&&Uq n.kind n.kids.length&&n.kids.all (Vz len n)
def Kw(n:Nd)(k:Kd):Bool:=decide (n.kind=10)&&Jq k
def Zm(s:Ls Nd)(n:Nd):Bool:=(List.range n.kids.length).all fun i=>Kw n (kd n i)||(List.range n.kids.length).all fun k=>decide (k<=i)||(List.range k).any (fun j=>decide (i<j)&&Kw n (kd n j))||(Db s (kd n i).node.toNat).all fun b=> !(Db s (kd n k).node.toNat).contains b
abbrev im:Q:=⟨#[160,3,2,1,0]⟩
abbrev jf:Q:=⟨#[1,1,0]⟩
abbrev aaa:Q:=⟨#[0]⟩
def Od(s:Ls Nd)(k:Kd):Bool:=decide (k.dflt.size=0)||(decide (k.dflt=im)&&decide ((nd s k.node.toNat).kind=2/\(nd s k.node.toNat).tag=0/\(nd s k.node.toNat).mode=1))||(decide (k.dflt=jf)&&decide ((nd s k.node.toNat).kind=1/\(nd s k.node.toNat).tag= -1/\(nd s k.node.toNat).mode=0))
def Ys(s:Ls Nd):Bool:=decide (1<=s.length/\s.length<=40)&&Vh s&&s.all (Mz s.length)&&s.all (fun n=>(n.kids.all fun k=> !n.opnB||decide ((nd s k.node.toNat).kind≠13))&&Zm s n&&n.kids.all (Od s))
theorem Xh(k:Kd):Jq k=true↔k.must:=by unfold Jq Kd.must;simp
theorem Zh(n:Nd)(k:Kd):Kw n k=true↔n.stops k:=by unfold Kw Nd.stops;rw[xp,Xh];simp
theorem adD{n:Nd}(h1:n.kind=2)(h2:n.tag=0)(h3:n.mode=1):iv n im aaa:=by
 obtain⟨a,b,c,d⟩:=n;simp only at h1 h2 h3;subst h1 h2 h3;exact(uv (fun q=>Ab q (by show¬(0:Int)<0;decide)) (.inr X)).2 ⟨X,(xd _).1 ⟨Ln,Dc,fun h=>Ab h Dc⟩⟩
theorem adC{n:Nd}(h1:n.kind=1)(h2:n.tag= -1)(h3:n.mode=0):iv n jf aaa:=by
 obtain⟨a,b,c,d⟩:=n;simp only at h1 h2 h3;subst h1 h2 h3;exact(uv (fun q=>rfl) (.inl X)).2 ⟨X,(Bc _).1 ⟨X,.inl X⟩⟩
theorem acf{len:Nat}{n:Nd}(h:Mz len n=true):mw len n:=by
 unfold Mz at h;simp only[xp,zy]at h;obtain⟨⟨⟨h1,h2⟩,h3⟩,h4⟩:=h;refine⟨by unfold lk;omega,by unfold kf;omega,?_,fun j hj=>?_⟩
 ·unfold Uq at h3;unfold gp;repeat' split at h3
  all_goals simp only[zy]at h3
  ·rw[ba As];exact h3
  ·rename_i a b;rw[G a,ba b];exact h3
  ·rename_i a b c;rw[G a,G b,ba c];exact h3
  rename_i a b c;rw[G a,G b,G c];exact h3
 have:=List.all_eq_true.1 h4 _ (ni hj);unfold Vz at this;simp only[xp,xq,zy,Xh]at this;refine⟨this.1.1.1,this.1.1.2,this.1.2,fun q=>?_⟩;have h5:=this.2;rw[q.1,ch q.2]at h5;cases h5
theorem Kg{s:Ls Nd}(h:Ys s=true):ee s/\Ar s:=by
 unfold Ys at h;simp only[xp,zy]at h;obtain⟨⟨⟨hl,hf⟩,ha⟩,hk⟩:=h;have hF:=ad3 hf;have l7:∀i,i<s.length->nd s i∈s:=fun i hi=>by unfold nd;rw[dy,dz hi];exact me _
 have iI:∀i,i<s.length->(∀k∈(nd s i).kids,(nd s i).opn->(nd s k.node.toNat).kind≠13)/\Zm s (nd s i)=true/\∀k∈(nd s i).kids,Od s k=true:=fun i hi=>by have:=List.all_eq_true.1 hk _ (l7 i hi);simp only[xp]at this;refine⟨fun k iB ho=>?_,this.1.2,List.all_eq_true.1 this.2⟩;have h3:=List.all_eq_true.1 this.1.1 k iB;rw[Nd.opnB_yes ho]at h3;exact Bj h3
 refine⟨⟨hl.1,hl.2,fun i hi=>acf (List.all_eq_true.1 ha _ (l7 i hi)),fun i hi=>?_,fun i hi=>⟨fun _ a zY=>?_,fun j hj=>?_⟩⟩,hF⟩
 ·rintro⟨j,hr,ho,k,iB,e⟩;have yH:j=i\/∃k∈(nd s i).kids,(nd s i).opn/\j=k.node.toNat:=ig.ind (P:=fun j=>j=i\/∃k∈(nd s i).kids,(nd s i).opn/\j=k.node.toNat) (.inl X) (fun m k _ AN hk ih=>by
   rcases ih with rfl|⟨k',eI,fW,rfl⟩;(·exact .inr ⟨k,hk,AN,X⟩);exact Ab AN ((hF i).2 fW k' eI)) hr
  rcases yH with rfl|⟨k',eI,fW,rfl⟩;·have:=(iI j hi).1 k iB ho;rw[e,ld]at this;exact this ho.1
  exact(hF i).2 fW k' eI ho
 ·have h1:=List.all_eq_true.1 (iI i hi).2.1 a (List.mem_range.2 zY);rw[xq,Zh]at h1;rcases h1 with h1|h1;·exact .inl h1
  refine .inr fun k hak dK hns=>?_;have h2:=List.all_eq_true.1 h1 k (List.mem_range.2 dK);rw[xq,xq,zy]at h2;rcases h2 with(h2|h2)|h2;·omega
  ·obtain⟨j,hj,h3⟩:=List.any_eq_true.1 h2;rw[xp,zy,Zh]at h3;exact Ab h3.2 (hns j h3.1 (List.mem_range.1 hj))
  rintro⟨c,m,_,_,_,_,b1,b2⟩;have O3:=(Is hF).1 b1;have b2':=(Is hF).1 b2;have h3:=List.all_eq_true.1 h2 _ O3;rw[Qz,List.contains_eq_mem,Oc]at h3;exact h3 b2'
 have h1:=(iI i hi).2.2 _ (ni hj);unfold Od at h1;simp only[xq,xp,zy]at h1;rcases h1 with(h1|⟨h1,h2,h3,h4⟩)|⟨h1,h2,h3,h4⟩;·exact .inl h1
 ·exact .inr ⟨O,_,by rw[h1];exact adD h2 h3 h4⟩
 exact .inr ⟨O,_,by rw[h1];exact adC h2 h3 h4⟩
theorem Kk{s:Ls Nd}(h:(s.all fun n=>n.kids.all fun k=>decide (k.dflt.size<=140737488351232))=true):ky s:=fun i hi k hk=>by
 have hm:nd s i∈s:=by unfold nd;rw[dy,dz hi];exact me _
 have:=List.all_eq_true.1 (List.all_eq_true.1 h _ hm) k hk;exact Bj this
def cS:Ls Nd:=[⟨10, -1,0,[⟨1,false,im⟩,⟨2,false,az⟩,⟨3,false,az⟩,⟨6,false,az⟩,⟨8,false,az⟩,⟨9,true,az⟩]⟩,⟨2,0,1,[]⟩,⟨2, -1,0,[]⟩,⟨13, -1,0,[⟨4,false,az⟩,⟨5,false,az⟩]⟩,⟨8, -1,0,[]⟩,⟨7, -1,0,[]⟩,⟨10, -1,0,[⟨7,false,az⟩,⟨7,false,az⟩]⟩,⟨9, -1,0,[]⟩,⟨5, -1,0,[]⟩,
 ⟨11,3,1,[⟨10,false,az⟩]⟩,⟨10, -1,0,[⟨11,false,az⟩,⟨12,false,jf⟩,⟨13,false,az⟩]⟩,⟨4, -1,0,[]⟩,⟨1, -1,0,[]⟩,⟨6, -1,0,[]⟩]
def lS:Ls Nd:=[⟨10, -1,0,[⟨1,false,jf⟩,⟨2,true,az⟩]⟩,⟨1, -1,0,[]⟩,⟨2, -1,0,[]⟩]
theorem Bb:ee cS/\Ar cS:=Kg (by decide+kernel)
theorem Jf:ee lS/\Ar lS:=Kg (by decide+kernel)
theorem Nr:ky cS:=Kk (by decide+kernel)
theorem We:ky lS:=Kk (by decide+kernel)
end
section
open Go.Proofs.Tryz
open Go.RowKit
theorem ux(ks:Ls Kd)(w:M):bn (w.alloc (C (jw ks).toArray 55)) (U (D w.heap.size 0 Z)) ks:=fun j hj=>by
 have hn:=bl w (C (jw ks).toArray 55);have c:∀i,(w.alloc (C (jw ks).toArray 55)).cell? (D w.heap.size i Z)=(jw ks)[i]? :=fun i=>by simp only[Wc,hn];simp
 refine⟨w.heap.size,0,X,?_⟩;rw[ly];exact⟨(c _).trans (Jd ks j hj 0 Dc),(c _).trans (Jd ks j hj 1 Dc),(c _).trans (Jd ks j hj 2 Dc)⟩
def xg(rows:Ls (Nd×Oo Ad×Nat)):Ls Vv:=rows.flatMap fun r=> [I J r.1.kind,I J r.1.tag,I J r.1.mode,S r.2.1 r.1.kids.length r.2.2]
theorem Gl:∀(l:Ls (Nd×Oo Ad×Nat)) (i:Nat) (hi:i<l.length) (j:Nat),j<4->(xg l)[i*4+j]? =[Value.int J l[i].1.kind,I J l[i].1.tag,I J l[i].1.mode,S l[i].2.1 l[i].1.kids.length l[i].2.2][j]?
 | [],i,hi,_,_=>Ab hi (dh _)
 |r::l,0,_,j,hj=>by
  unfold xg
  rw[vx,uH (by show 0*4+j<4;omega),Lx,ly]
  rfl
 |r::l,i+1,hi,j,hj=>by
  have ih:=Gl l i (by simpa using hi) j hj
  unfold xg at ih ⊢
  rw[vx,qq (by show 4<=_;omega)]
  show(l.flatMap _)[(i+1)*4+j-4]? =_
  rw[show(i+1)*4+j-4=i*4+j by omega,ih]
  rfl
def Ib(w:M)(rows:Ls (Nd×Oo Ad×Nat)):Prop:=∀r∈rows,r.1.kids.length<=r.2.2/\r.2.2<=maxLen/\bn w r.2.1 r.1.kids
theorem Gb{w:M}:Ib w []:=fun r hr=>by cases hr
theorem iz{w:M}{n:Nd}{a:Oo Ad}{c:Nat}{rows:Ls (Nd×Oo Ad×Nat)}(h1:n.kids.length<=c)(h2:c<=maxLen)(h3:bn w a n.kids)(h:Ib w rows):Ib w ((n,a,c)::rows):=fun r hr=>by
 rcases Lo.1 hr with rfl|hr;·exact⟨h1,h2,h3⟩
 exact h r hr
theorem Gc(rows:Ls (Nd×Oo Ad×Nat))(w:M)(h:Ib w rows):ew (w.alloc (C (xg rows).toArray 58)) (U (D w.heap.size 0 Z)) (rows.map (·.1)):=fun i hi=>by
 have lC:i<rows.length:=by simpa using hi
 have hn:=bl w (C (xg rows).toArray 58);have c:∀i,(w.alloc (C (xg rows).toArray 58)).cell? (D w.heap.size i Z)=(xg rows)[i]? :=fun i=>by simp only[Wc,hn];simp
 have e:nd (rows.map (·.1)) i=rows[i].1:=by unfold nd;rw[dy,Ch,dz lC];rfl
 obtain⟨h1,h2,h3⟩:=h rows[i] (me _);rw[e];refine⟨w.heap.size,0,rows[i].2.1,rows[i].2.2,X,?_,h1,h2,h3.below Be⟩;rw[ly];exact⟨(c _).trans (Gl rows i lC 0 Dc),(c _).trans (Gl rows i lC 1 Dc),(c _).trans (Gl rows i lC 2 Dc),(c _).trans (Gl rows i lC 3 Dc)⟩
theorem Ps(k:Int)(ka:Oo Ad)(n kc:Nat)(w:M):Cs prog 133 #[I J k,S ka n kc] w fun e w'=>e=Rt (Ag #[I J k,I J (-1),I J 0,S ka n kc])/\Bw w w':=by
 go_enter func133,ntmps133;go_wp2;exact db (v:=Ag #[I J k,I J (-1),I J 0,S ka n kc]) (by simp[results,results133,go_sem]) X ⟨X,Be⟩
theorem acj(t k g m:Int)(ka:Oo Ad)(n kc:Nat)(w:M):Cs prog 134 #[I J t,Ag #[I J k,I J g,I J m,S ka n kc]] w fun e w'=>e=Rt (Ag #[I J k,I J t,I J 1,S ka n kc])/\Bw w w':=by
 go_enter func134,ntmps134;go_wp2;exact db (v:=Ag #[I J k,I J t,I J 1,S ka n kc]) (by simp[results,results134,go_sem]) X ⟨X,(Be).alloc Sq _⟩
end
section
theorem Pt{E:bj}:∀(k f i x y:Nat) (dp:Int) (o:bz),cd E f i x y dp=U o->cd E (f+k) i x y dp=U o
 |0,_,_,_,_,_,_,h=>h
 |k+1,f,i,x,y,dp,o,h=>Yn (f+k) i x y dp o (Pt k f i x y dp o h)
def qw(π:Nat->Nat)(k:Kd):Kd:=⟨(π k.node.toNat:Nat),k.opt,k.dflt⟩
theorem Je(π:Nat->Nat)(k:Kd):(qw π k).node.toNat=π k.node.toNat:=ld _
structure Au(E1 E2:bj)(π:Nat->Nat):Prop where
 d:E2.d=E1.d
 ok:∀k t,E2.ok k t=E1.ok k t
 node:∀i,i<E1.s.length->nd E2.s (π i)=⟨(nd E1.s i).kind,(nd E1.s i).tag,(nd E1.s i).mode,(nd E1.s i).kids.map (qw π)⟩
 within:∀i,i<E1.s.length->∀k∈(nd E1.s i).kids,k.node.toNat<E1.s.length
 one:∀i,i<E1.s.length->11<=(nd E1.s i).kind->(nd E1.s i).kind<=12->(nd E1.s i).kids.length=1
 bg:∀i,i<E1.s.length->∀c m,E2.bg (π i) c m=E1.bg i c m
 dv:∀i,i<E1.s.length->∀k∈(nd E1.s i).kids,k.dflt.size≠0->E2.dv (qw π k)=E1.dv k
theorem Ou{E1 E2:bj}(h:E2.d=E1.d)(x y:Nat):E2.hd x y=E1.hd x y:=by unfold bj.hd;rw[h]
theorem Ug{E1 E2:bj}{π:Nat->Nat}(ah:Au E1 E2 π){r1 r2:fe}(hr:∀i,i<E1.s.length->r2 (π i)=r1 i){h:Hd}{x tz:Nat}{dp:Int}{i:Nat}(hi:i<E1.s.length):∀(ks:Ls Kd) (j:Nat),(∀k∈ks,k∈(nd E1.s i).kids)->gu E2 r2 h x tz dp (ks.map (qw π)) j=gu E1 r1 h x tz dp ks j
 | [],_,_=>rfl
 |k::ks,j,hk=>by
  have hw:=ah.within i hi k (hk k Sq)
  rw[uI,gu,gu,Je,ah.bg _ hw,hr _ hw,Ug ah hr hi ks (j+1) fun k h=>hk k (by simp[h])]
theorem Ze{E1 E2:bj}{π:Nat->Nat}(ah:Au E1 E2 π){r1 r2:fe}(hr:∀i,i<E1.s.length->r2 (π i)=r1 i){tz:Nat}{dp:Int}{i:Nat}(hi:i<E1.s.length):∀(ks:Ls Kd) (x:Nat) (aE:Ls Vl),(∀k∈ks,k∈(nd E1.s i).kids)->dr E2 r2 tz dp (ks.map (qw π)) x aE=dr E1 r1 tz dp ks x aE
 | [],_,_,_=>rfl
 |k::ks,x,aE,hk=>by
  have hw:=ah.within i hi k (hk k Sq)
  have ih:∀x aE,dr E2 r2 tz dp (ks.map (qw π)) x aE=dr E1 r1 tz dp ks x aE:=fun x aE=>Ze ah hr hi ks x aE fun k h=>hk k (by simp[h])
  rw[uI,dr,dr,Je,ah.bg _ hw,hr _ hw,Ou ah.d,ah.d]
  simp only[ih]
  by_cases hd:k.dflt.size≠0
  ·rw[ah.dv i hi k (hk k Sq) hd]
   rfl
  ·have e1:(qw π k).dflt=k.dflt:=X
   have e2:(qw π k).opt=k.opt:=X
   rw[e1,e2,G hd,G hd]
theorem Wz{E1 E2:bj}{π:Nat->Nat}(ah:Au E1 E2 π){r1 r2:fe}(hr:∀i,i<E1.s.length->r2 (π i)=r1 i){set:Bool}{tz:Nat}{dp:Int}{i:Nat}(hi:i<E1.s.length):∀(m x:Nat) (last:Q) (j:Nat) (aE:Ls Vl),ic E2 r2 set (π i) tz dp m x last j aE=ic E1 r1 set i tz dp m x last j aE
 |0,_,_,_,_=>rfl
 |m+1,x,last,j,aE=>by
  rw[ic,ic,hr i hi,ah.d]
  simp only[Wz ah hr hi m]
theorem Nn{E1 E2:bj}{π:Nat->Nat}(ah:Au E1 E2 π){r1 r2:fe}(hr:∀i,i<E1.s.length->r2 (π i)=r1 i){m:Nat}{cl nu:Int}{h:Hd}{x tz:Nat}{dp:Int}{i:Nat}(hi:i<E1.s.length):fc E2 r2 m (nd E2.s (π i)) cl nu h x tz dp=fc E1 r1 m (nd E1.s i) cl nu h x tz dp:=by
 rw[ah.node i hi];unfold fc;simp only;rw[Ug ah hr hi _ _ fun k h=>h,Ze ah hr hi _ _ _ fun k h=>h,ou,ah.d];simp only[ah.ok];by_cases bG:(nd E1.s i).kind=10;·simp only[ba bG]
 by_cases fC:10<=(nd E1.s i).kind/\(nd E1.s i).kind<=12
 ·have h1:=ah.one i hi O fC.2;have hk:(kd ⟨(nd E1.s i).kind,(nd E1.s i).tag,(nd E1.s i).mode,(nd E1.s i).kids.map (qw π)⟩ 0).node.toNat=π (kd (nd E1.s i) 0).node.toNat:=by
   unfold kd
   match hk:(nd E1.s i).kids,h1 with
   | [k],_=>exact Je π k
  have hw:=ah.within i hi _ (ni (n:=nd E1.s i) (i:=0) O);rw[hk,Wz ah hr hw]
 simp only[G fC]
theorem Kc{E1 E2:bj}{π:Nat->Nat}(ah:Au E1 E2 π):∀f i,i<E1.s.length->cd E2 f (π i)=cd E1 f i
 |0,_,_=>rfl
 |f+1,i,hi=>by
  funext x y dp
  have ih:=Kc ah f
  rw[cd,cd,Ou ah.d]
  unfold lr
  rw[Nn ah ih hi,Nn ah ih hi,Nn ah ih hi,ah.node i hi,Ou ah.d]
theorem Vy{E1 E2:bj}(hr:ee E1.s)(hs:E2.s=E1.s)(hd:E2.d=E1.d)(h1:mo E1)(h2:mo E2):Au E1 E2 id where
 d:=hd
 ok:=fun k t=>Ao.2 ((h2.ok k t).trans (h1.ok k t).symm)
 node:=fun i hi=>by
  rw[hs]
  have e:(nd E1.s i).kids.map (qw id)=(nd E1.s i).kids:=by
   conv=>rhs;rw[<-List.map_id (nd E1.s i).kids]
   refine List.map_congr_left fun k hk=>?_
   have:=hr.fine.within i hi k hk
   obtain⟨a,b,c⟩:=k
   show(⟨((a.toNat:Nat):Int),b,c⟩:Kd)=⟨a,b,c⟩
   rw[vh this.1]
  rw[e]
  rfl
 within:=fun i hi k hk=>by have:=hr.fine.within i hi k hk;omega
 one:=fun i hi a b=>hr.fine.one i hi O
 bg:=fun i hi c m=>Ao.2 (by
  have q:=h2.bg i (by rw[hs];exact hi) c m
  rw[hs]at q
  exact q.trans (h1.bg i hi c m).symm)
 dv:=fun i hi k hk hd=>by
  have hw:=hr.fine.within i hi k hk
  obtain⟨u,a1,a2,_⟩:=h1.dv i hi k hk hd
  have e:qw id k=k:=by
   obtain⟨a,b,c⟩:=k
   show(⟨((a.toNat:Nat):Int),b,c⟩:Kd)=⟨a,b,c⟩
   rw[vh hw.1]
  obtain⟨u',b1,b2,_⟩:=h2.dv i (by rw[hs];exact hi) k (by rw[hs];exact hk) hd
  rw[hs]at b1 b2
  rw[e,a2,b2,Dg a1 b1]
theorem adw{s:Ls Nd}{root:Int}{d:Q}{E1 E2:bj}{v1 v2:Except (Int×Int) (Ls Vl)}(h1:pb E1 s root d v1)(h2:pb E2 s root d v2):v1=v2:=by
 rcases h1 with⟨q,rfl⟩|⟨q,z,rfl⟩|⟨q,z,rfl,rfl,e1,f1,_,r1⟩
 ·rcases h2 with⟨_,rfl⟩|⟨q',_⟩|⟨q',_⟩;·rfl
  ·exact Ab q' q
  exact Ab q' q
 ·rcases h2 with⟨q',_⟩|⟨_,_,rfl⟩|⟨_,z',_⟩;·exact Ab q q'
  ·rfl
  omega
 rcases h2 with⟨q',_⟩|⟨_,z',_⟩|⟨_,_,hs,hd,e2,f2,_,r2⟩;·exact Ab q q'
 ·omega
 have ah:=Vy q.1 hs hd e1 e2;have aA:root.toNat<E1.s.length:=O;unfold jh at r1 r2;rw[hd]at r2;have key:∀{E:bj} {f k:Nat} {v:Except (Int×Int) (Ls Vl)},bz.andThen (cd E f root.toNat 0 E1.d.size 1) (fun vs z=>if z<E1.d.size then U (.error (7,z))else U (.ok vs))=U v->bz.andThen (cd E (f+k) root.toNat 0 E1.d.size 1) (fun vs z=>if z<E1.d.size then U (.error (7,(z:Int)))else U (.ok vs))=U v:=fun {E f k v} h=>bz.andThen_le (fun u hu=>Pt k f _ _ _ _ _ hu) (fun _ _ _ q=>q) h;have a1:=key (k:=f2) r1;have a2:=key (k:=f1) r2;have I6:=Kc ah (f2+f1) root.toNat aA;rw[id]at I6;rw[I6,Cj f2 f1,a1]at a2;exact dd a2
end
section
open Go.Proofs.Tryz
open Go.RowKit
theorem agi(w:M):Cs prog 205 #[] w fun e w'=>∃g,e=Rt (S (U (D g 0 Z)) 3 3)/\ew w' (U (D g 0 Z)) lS/\Bw w w':=by
 have HP:Hi (∀(k:Int) (ka:Oo Ad) (n kc:Nat) wq,Cs prog 133 #[I J k,S ka n kc] wq fun e w'=>e=Rt (Ag #[I J k,I J (-1),I J 0,S ka n kc])/\Bw wq w'):=fun k ka n kc wq=>Ps k ka n kc wq;have HB:Hi (Bw w w):=By;go_enter func205,ntmps205;go_wp2_with fail;refine(HP 10 _ _ _ _).mono ?_;rintro e w1 ⟨rfl,hb⟩;have bO:=(cm _ w).alloc Ln (C (jw [⟨1,false,jf⟩,⟨2,true,az⟩]).toArray 55);have kX:Hi (bn w1 (U (D w.heap.size 0 Z)) [⟨1,false,jf⟩,⟨2,true,az⟩]):=(ux [⟨1,false,jf⟩,⟨2,true,az⟩] w).below hb;have hc:=Tm bO hb;have HB:Hi (Bw w w1):=Tm HB hc;clear hb hc bO;go_wp2_with fail;refine(HP 1 _ _ _ _).mono ?_;rintro e w2 ⟨rfl,hb⟩;have hc:=hb;have kX:Hi (bn w2 (U (D w.heap.size 0 Z)) [⟨1,false,jf⟩,⟨2,true,az⟩]):=kX.below hc;have HB:Hi (Bw w w2):=Tm HB hc;clear hb hc;go_wp2_with fail;refine(HP 2 _ _ _ _).mono ?_;rintro e w3 ⟨rfl,hb⟩;have hc:=hb;have kX:Hi (bn w3 (U (D w.heap.size 0 Z)) [⟨1,false,jf⟩,⟨2,true,az⟩]):=kX.below hc;have HB:Hi (Bw w w3):=Tm HB hc;clear hb hc;go_wp2;go_ret;exact⟨_,X,Gc [(⟨10, -1,0,[⟨1,false,jf⟩,⟨2,true,az⟩]⟩,U (D w.heap.size 0 Z),2),(⟨1, -1,0,[]⟩,Z,0),(⟨2, -1,0,[]⟩,Z,0)] w3 (iz Ln Dc kX (iz Ln Dc (fun j hj=>Ab hj (dh _)) (iz Ln Dc (fun j hj=>Ab hj (dh _)) Gb))),HB.alloc HB.size _⟩
end
section
open Go.RowKit
structure du where
 kind:Q
 must:Bool
 body:Q
def lj(ms:Ls du):Ls Vv:=ms.flatMap fun m=> [Y m.kind,Bo m.must,Y m.body]
theorem Oy(ms:Ls du)(m:du):lj (ms++[m])=lj ms++[Y m.kind,Bo m.must,Y m.body]:=by unfold lj;simp
def fh:du:=⟨az,false,az⟩
theorem Jh:∀(l:Ls du) (i:Nat),i<l.length->∀j,j<3->(lj l)[i*3+j]? =[Value.string (l.getD i fh).kind,Bo (l.getD i fh).must,Y (l.getD i fh).body][j]?
 | [],i,h,_,_=>Ab h (dh _)
 |v::l,0,_,j,hj=>by
  unfold lj
  rw[vx,uH (by show 0*3+j<3;omega),Lx,ly]
  rfl
 |v::l,i+1,h,j,hj=>by
  have ih:=Jh l i (by simpa using h) j hj
  unfold lj at ih ⊢
  rw[vx,qq (by show 3<=_;omega)]
  show(l.flatMap _)[(i+1)*3+j-3]? =_
  rw[show(i+1)*3+j-3=i*3+j by omega,ih,List.getD_cons_succ]
def il(w:M)(a:Oo Ad)(ms:Ls du):Prop:=∀j,j<ms.length->∃g o,a=U (D g o Z)/\w.cell? (D g (o+j*3) Z)=U (Y (ms.getD j fh).kind)/\w.cell? (D g (o+j*3+1) Z)=U (Bo (ms.getD j fh).must)/\w.cell? (D g (o+j*3+2) Z)=U (Y (ms.getD j fh).body)
theorem il.below{w w':M}{a:Oo Ad}{ms:Ls du}(h:il w a ms)(hb:Bw w w'):il w' a ms:=fun j hj=>by obtain⟨g,o,e,h1,h2,h3⟩:=h j hj;exact⟨g,o,e,Cb hb h1,Cb hb h2,Cb hb h3⟩
theorem il.of_own{w:M}{base:Nat}{a:Oo Ad}{c:Nat}{ms:Ls du}(h:w.ownsRow base 73 3 (S a ms.length c) ms.length (lj ms)):il w a ms:=fun j hj=>by
 rcases h.2 with⟨_,h0⟩|⟨g,cap,aB,e,_⟩;·omega
 injection e with e1 _ _;subst e1;have q:=h.cells (g:=g) X;have O2:∀k,((D g 0 Z):Ad).add k=(D g k Z):=fun k=>by unfold Addr.add;split<;>simp_all
 refine⟨g,0,X,?_,?_,?_⟩ <;>rw[ly];·have:=q (j*3) _ ((Jh ms j hj 0 Dc).trans X);rwa[O2]at this
 ·have:=q (j*3+1) _ ((Jh ms j hj 1 Dc).trans X);rwa[O2]at this
 have:=q (j*3+2) _ ((Jh ms j hj 2 Dc).trans X);rwa[O2]at this
abbrev qy:Q:=⟨#[85,29,19]⟩
abbrev rf:Q:=⟨#[85,29,15]⟩
def xy(b:Q):Prop:=∃E vs,pb E lS 0 b (.ok vs)
def uM(b:Q):Prop:=∃u,iv ⟨5, -1,0,[]⟩ b u
def rm(m:du):Prop:=(m.kind=qy/\xy m.body)\/(m.kind=rf/\uM m.body)\/(m.kind≠qy/\m.kind≠rf/\bu 4 m.kind/\m.must=false)
def Lt(ms:Ls du)(n:Nat):Prop:=∀i,i<n->rm (ms.getD i fh)/\∀j,j<i->(ms.getD j fh).kind≠(ms.getD i fh).kind
def kx(ms:Ls du):Prop:=Lt ms ms.length
def Hy(ms:Ls du):Prop:=∀j,j<ms.length->(ms.getD j fh).kind.size<=140737488355328/\(ms.getD j fh).body.size<=140737488355328
theorem Np{a b:Q}:(a.toList==b.toList)=true↔a=b:=by
 rw[jq,Lib.toList_data,Lib.toList_data];constructor;·intro h;exact je (Array.toList_inj.1 h)
 rintro rfl;rfl
theorem rn{a b:Q}(h:a≠b):(a.toList==b.toList)=false:=Bool.eq_false_iff.2 fun q=>h (Np.1 q)
end
section
theorem Kb{E:bj}{f i x y:Nat}{dp:Int}{vs:Ls Vl}{z:Nat}(h:cd E (f+1) i x y dp=U (.ok (vs,z))):∃cl nu hh x' tz z',fc E (cd E f) f (nd E.s i) cl nu hh x' tz dp=U (.ok (vs,z')):=by
 rw[cd]at h;split at h;·cases h
 unfold lr at h;split at h;·exact⟨_,_,_,_,_,_,h⟩
 split at h;·exact⟨_,_,_,_,_,_,h⟩
 split at h;·cases h
 split at h;·cases h
 split at h;·cases h
 obtain⟨us,z',h1,h2⟩:=og h;split at h2;·cases h2
 cases h2;exact⟨_,_,_,_,_,_,h1⟩
def Rd(E:bj)(i:Nat)(vs:Ls Vl):Prop:=∃f x y dp z,cd E f i x y dp=U (.ok (vs,z))
theorem Rd.leaf{E:bj}{i:Nat}{vs:Ls Vl}(h:Rd E i vs)(hk:(nd E.s i).kind<=9):∃t,vs=[⟨(nd E.s i).kind,t,0,0⟩]/\E.ok (nd E.s i).kind t=true:=by
 obtain⟨f,x,y,dp,z,h⟩:=h
 cases f with
 |zero=>cases h
 |succ f=>
  obtain⟨cl,nu,hh,x',tz,z',e⟩:=Kb h
  unfold fc at e
  rw[G O]at e
  split at e
  ·cases e
  split at e
  ·cases e
  rw[G O,G O,G O]at e
  split at e
  ·rename_i q;cases e;exact⟨_,X,q⟩
  ·cases e
theorem Rd.choice{E:bj}{i:Nat}{vs:Ls Vl}(h:Rd E i vs)(hk:(nd E.s i).kind=13):∃j us,j<(nd E.s i).kids.length/\vs=⟨13,az,(j:Nat),1⟩::us/\Rd E (kd (nd E.s i) j).node.toNat us:=by
 obtain⟨f,x,y,dp,z,h⟩:=h
 cases f with
 |zero=>cases h
 |succ f=>
  obtain⟨cl,nu,hh,x',tz,z',e⟩:=Kb h
  unfold fc at e
  rw[ba hk]at e
  have key:∀(c j:Nat),j+c=(nd E.s i).kids.length->gu E (cd E f) hh x' tz dp ((nd E.s i).kids.drop j) j=U (.ok (vs,z'))->∃j us,j<(nd E.s i).kids.length/\vs=⟨13,az,(j:Nat),1⟩::us/\Rd E (kd (nd E.s i) j).node.toNat us:=fun c=>by
   induction c with
   |zero=>
    intro j hj e
    rw[Av O]at e
    cases e
   |succ c ih=>
    intro j hj e
    rw[yp O]at e
    unfold gu at e
    split at e
    ·obtain⟨us,z2,h1,h2⟩:=og e
     cases h2
     exact⟨j,us,O,X,_,_,_,_,_,h1⟩
    ·exact ih (j+1) O e
  exact key _ 0 (ly _) (by rw[Aw];exact e)
def yf(E:bj):Ls Kd->Ls Vl->Prop
 | [],us=>us=[]
 |k::ks,us=>∃a b,us=a++b/\(Rd E k.node.toNat a\/(k.opt=true/\a=[⟨15,az,0,0⟩])\/(k.opt=false/\k.dflt.size≠0/\a=[E.dv k]))/\yf E ks b
theorem Km{E:bj}{f tz:Nat}{dp:Int}:∀(ks:Ls Kd) (x:Nat) (aE vs:Ls Vl) (z:Nat),dr E (cd E f) tz dp ks x aE=U (.ok (vs,z))->∃us,vs=aE++us/\yf E ks us
 | [],x,aE,vs,z,e=>by
   unfold dr at e
   split at e
   ·cases e
   ·cases e;exact⟨[],Sq,X⟩
 |k::ks,x,aE,vs,z,e=>by
  unfold dr at e
  split at e
  ·cases e
  split at e
  ·obtain⟨us,z',h1,h2⟩:=og e
   split at h2
   ·cases h2
   ·obtain⟨b,hb,hI⟩:=Km ks z' _ vs z h2
    exact⟨us++b,by rw[hb,na],us,b,X,.inl ⟨_,_,_,_,_,h1⟩,hI⟩
  split at e
  ·rename_i ho
   obtain⟨b,hb,hI⟩:=Km ks x _ vs z e
   exact⟨_++b,by rw[hb,na],_,b,X,.inr (.inl ⟨ho,X⟩),hI⟩
  rename_i ho
  split at e
  ·rename_i hd
   obtain⟨b,hb,hI⟩:=Km ks x _ vs z e
   exact⟨_++b,by rw[hb,na],_,b,X,.inr (.inr ⟨by simpa using ho,hd,X⟩),hI⟩
  split at e<;>cases e
theorem Rd.seq{E:bj}{i:Nat}{vs:Ls Vl}(h:Rd E i vs)(hk:(nd E.s i).kind=10):∃us,vs=⟨10,az,0,((nd E.s i).kids.length:Nat)⟩::us/\yf E (nd E.s i).kids us:=by
 obtain⟨f,x,y,dp,z,h⟩:=h
 cases f with
 |zero=>cases h
 |succ f=>
  obtain⟨cl,nu,hh,x',tz,z',e⟩:=Kb h
  unfold fc at e
  rw[G O]at e
  split at e
  ·cases e
  split at e
  ·cases e
  rw[G O]at e
  try rw[ba hk]at e
  split at e
  ·cases e
  ·cases e
  ·rename_i us z2 hs
   cases e
   obtain⟨us',hu,hI⟩:=Km _ _ _ _ _ hs
   rw[zn]at hu
   subst hu
   exact⟨_,X,hI⟩
def Hx(E:bj)(i:Nat):Nat->Ls Vl->Prop
 |0,us=>us=[]
 |n+1,us=>∃a b,us=a++b/\Rd E i a/\Hx E i n b
theorem Wq{E:bj}{f:Nat}{set:Bool}{i tz:Nat}{dp:Int}:∀(m x:Nat) (last:Q) (j:Nat) (aE:Ls Vl) (j':Nat) (vs:Ls Vl),ic E (cd E f) set i tz dp m x last j aE=U (.ok (j',vs))->∃n us,j'=j+n/\vs=aE++us/\Hx E i n us
 |0,_,_,_,_,_,_,e=>by cases e
 |m+1,x,last,j,aE,j',vs,e=>by
  unfold ic at e
  split at e
  ·obtain⟨us,z',h1,h2⟩:=og e
   split at h2
   ·cases h2
   ·obtain⟨n,b,hj,hb,hI⟩:=Wq m z' _ _ _ _ _ h2
    exact⟨n+1,us++b,O,by rw[hb,na],us,b,X,⟨_,_,_,_,_,h1⟩,hI⟩
  ·cases e;exact⟨0,[],X,Sq,X⟩
theorem Rd.many{E:bj}{i:Nat}{vs:Ls Vl}(h:Rd E i vs)(hk:(nd E.s i).kind=11):∃n us,vs=⟨11,az,0,(n:Nat)⟩::us/\Hx E (kd (nd E.s i) 0).node.toNat n us:=by
 obtain⟨f,x,y,dp,z,h⟩:=h
 cases f with
 |zero=>cases h
 |succ f=>
  obtain⟨cl,nu,hh,x',tz,z',e⟩:=Kb h
  unfold fc at e
  rw[G O]at e
  split at e
  ·cases e
  split at e
  ·cases e
  rw[G O,G O,ba O]at e
  split at e
  ·cases e
  ·cases e
  ·rename_i j us hs
   cases e
   obtain⟨n,us',hj,hu,hI⟩:=Wq _ _ _ _ _ _ _ hs
   rw[zn]at hu
   rw[ly]at hj
   subst hu hj
   rw[hk]
   exact⟨_,_,X,hI⟩
def wy(vt s n:Q)(pr:Bool)(ft tt k:Q):Ls Vl:=[⟨10,az,0,6⟩,⟨2,vt,0,0⟩,⟨2,s,0,0⟩,⟨13,az,if pr then 0 else 1,1⟩,⟨if pr then 8 else 7,n,0,0⟩,⟨10,az,0,2⟩,⟨9,ft,0,0⟩,⟨9,tt,0,0⟩,⟨5,k,0,0⟩]
def mj(q:Q×Q×Q):Ls Vl:=[⟨10,az,0,3⟩,⟨4,q.1,0,0⟩,⟨1,q.2.1,0,0⟩,⟨6,q.2.2,0,0⟩]
def qt(o:Oo (Ls (Q×Q×Q))):Ls Vl:=
 match o with
 |none=> [⟨15,az,0,0⟩]
 |some qs=>⟨11,az,0,(qs.length:Nat)⟩::qs.flatMap mj
structure CT where
 vt:Q
 s:Q
 n:Q
 pr:Bool
 ft:Q
 tt:Q
 k:Q
 ms:Oo (Ls (Q×Q×Q))
def CT.tree(c:CT):Ls Vl:=wy c.vt c.s c.n c.pr c.ft c.tt c.k++qt c.ms
structure CT.Ok(c:CT):Prop where
 vt:bu 2 c.vt
 s:bu 2 c.s
 n:bu (if c.pr then 8 else 7) c.n
 ft:bu 9 c.ft
 tt:bu 9 c.tt
 k:bu 5 c.k
 ms:∀qs,c.ms=U qs->∀q∈qs,bu 4 q.1/\bu 1 q.2.1
theorem Zd{E:bj}{k:Kd}{ks:Ls Kd}{us:Ls Vl}(h:yf E (k::ks) us)(ho:k.opt=false)(hd:k.dflt.size=0):∃a b,us=a++b/\Rd E k.node.toNat a/\yf E ks b:=by
 obtain⟨a,b,e,h1,h2⟩:=h;rcases h1 with h1|⟨h1,_⟩|⟨_,h1,_⟩;·exact⟨a,b,e,h1,h2⟩
 ·rw[ho]at h1;cases h1
 exact Ab hd h1
theorem Zc{E:bj}(hE:mo E){i:Nat}(hi:i<E.s.length){k:Kd}(hk:k∈(nd E.s i).kids){ks:Ls Kd}{us:Ls Vl}(h:yf E (k::ks) us)(ho:k.opt=false)(h9:(nd E.s k.node.toNat).kind<=9)(ht:(nd E.s k.node.toNat).tag<0->(nd E.s k.node.toNat).mode=0)(hm:(nd E.s k.node.toNat).mode=0\/(nd E.s k.node.toNat).mode=1):∃t b,us=⟨(nd E.s k.node.toNat).kind,t,0,0⟩::b/\bu (nd E.s k.node.toNat).kind t/\yf E ks b:=by
 obtain⟨a,b,e,h1,h2⟩:=h;rcases h1 with h1|⟨h1,_⟩|⟨_,h1,h3⟩;·obtain⟨t,e1,e2⟩:=h1.leaf h9;exact⟨t,b,by rw[e,e1];rfl,(hE.ok _ _).1 e2,h2⟩
 ·rw[ho]at h1;cases h1
 obtain⟨u,e1,e2,_⟩:=hE.dv i hi k hk h1;exact⟨u,b,by rw[e,h3,e2];rfl,((uv ht hm).1 e1).2,h2⟩
theorem zx{E:bj}(hs:E.s=cS)(hE:mo E){i:Nat}{k:Kd}{ks:Ls Kd}{us:Ls Vl}(kind:Int)(hi:i<14)(hk:k∈(nd cS i).kids)(ho:k.opt=false)(h:yf E (k::ks) us)(e:(nd cS k.node.toNat).kind=kind)(h9:kind<=9)(h1:(nd cS k.node.toNat).tag<0->(nd cS k.node.toNat).mode=0)(h2:(nd cS k.node.toNat).mode=0\/(nd cS k.node.toNat).mode=1):∃t b,us=⟨kind,t,0,0⟩::b/\bu kind t/\yf E ks b:=by
 subst e;have:=Zc hE (i:=i) (by rw[hs];exact hi) (by rw[hs];exact hk) h ho (by rw[hs];exact h9) (by rw[hs];exact h1) (by rw[hs];exact h2);rw[hs]at this;exact this
theorem agD{E:bj}(hs:E.s=cS)(hE:mo E){a:Ls Vl}(h:Rd E 3 a):∃(n:Q) (pr:Bool),a=[⟨13,az,if pr then 0 else 1,1⟩,⟨if pr then 8 else 7,n,0,0⟩]/\bu (if pr then 8 else 7) n:=by
 obtain⟨j,us,hj,rfl,r⟩:=h.choice (by rw[hs];rfl);rw[hs]at hj r;have iY:j<2:=hj;have hc:j=0\/j=1:=O;clear hj iY;rcases hc with rfl|rfl;·have r4:=r;obtain⟨n,e1,e2⟩:=r4.leaf (by rw[hs];decide);rw[hs]at e1 e2;exact⟨n,true,by rw[e1];rfl,(hE.ok _ _).1 e2⟩
 have r5:=r;obtain⟨n,e1,e2⟩:=r5.leaf (by rw[hs];decide);rw[hs]at e1 e2;exact⟨n,false,by rw[e1];rfl,(hE.ok _ _).1 e2⟩
theorem ais{E:bj}(hs:E.s=cS)(hE:mo E){a:Ls Vl}(h:Rd E 6 a):∃ft tt:Q,a=[⟨10,az,0,2⟩,⟨9,ft,0,0⟩,⟨9,tt,0,0⟩]/\bu 9 ft/\bu 9 tt:=by
 obtain⟨us,rfl,sJ⟩:=h.seq (by rw[hs];rfl);clear h;rw[hs]at sJ ⊢;have h0:=sJ;obtain⟨ft,b1,rfl,c1,h1⟩:=zx hs hE (i:=6) 9 Dc (uK ..) X h0 X Dc Dc Dc;obtain⟨tt,b2,rfl,c2,h2⟩:=zx hs hE (i:=6) 9 Dc (uK ..) X h1 X Dc Dc Dc;cases h2;exact⟨ft,tt,X,c1,c2⟩
theorem agq{E:bj}(hs:E.s=cS)(hE:mo E){a:Ls Vl}(h:Rd E 10 a):∃q:Q×Q×Q,a=mj q/\bu 4 q.1/\bu 1 q.2.1:=by
 obtain⟨us,rfl,sJ⟩:=h.seq (by rw[hs];rfl);clear h;rw[hs]at sJ ⊢;have h0:=sJ;obtain⟨q1,b1,rfl,c1,h1⟩:=zx hs hE (i:=10) 4 Dc (uK ..) X h0 X Dc Dc Dc;obtain⟨q2,b2,rfl,c2,h2⟩:=zx hs hE (i:=10) 1 Dc (uJ _ (uK ..)) X h1 X Dc Dc Dc;obtain⟨q3,b3,rfl,c3,h3⟩:=zx hs hE (i:=10) 6 Dc (uJ _ (uJ _ (uK ..))) X h2 X Dc Dc Dc;cases h3;exact⟨(q1,q2,q3),X,c1,c2⟩
theorem Xb{E:bj}(hs:E.s=cS)(hE:mo E):∀(m:Nat) (us:Ls Vl),Hx E 10 m us->∃qs:Ls (Q×Q×Q),qs.length=m/\us=qs.flatMap mj/\∀q∈qs,bu 4 q.1/\bu 1 q.2.1
 |0,us,h=>by cases h;exact⟨[],X,X,fun q hq=>by cases hq⟩
 |m+1,us,⟨a,b,e,hr,hb⟩=>by
  obtain⟨qs,hl,hu,hq⟩:=Xb hs hE m b hb
  obtain⟨q,EU,EV⟩:=agq hs hE hr
  refine⟨q::qs,by rw[fu,hl],by rw[e,EU,hu];rfl,fun q' wS=>?_⟩
  rcases Lo.1 wS with rfl|wS
  ·exact EV
  ·exact hq q' wS
theorem agr{E:bj}(hs:E.s=cS)(hE:mo E){a:Ls Vl}(h:Rd E 9 a):∃qs:Ls (Q×Q×Q),a=qt (U qs)/\∀q∈qs,bu 4 q.1/\bu 1 q.2.1:=by
 obtain⟨m,us,rfl,hM⟩:=h.many (by rw[hs];rfl);rw[hs]at hM;obtain⟨qs,hl,rfl,hq⟩:=Xb hs hE m us hM;subst hl;exact⟨qs,X,hq⟩
theorem acX{E:bj}(hs:E.s=cS)(hE:mo E){vs:Ls Vl}(h:Rd E 0 vs):∃c:CT,vs=c.tree/\c.Ok:=by
 obtain⟨us,rfl,sJ⟩:=h.seq (by rw[hs];rfl);clear h;rw[hs]at sJ ⊢;have h0:=sJ;clear sJ;obtain⟨vt,b1,rfl,c1,h1⟩:=zx hs hE (i:=0) 2 Dc (uK ..) X h0 X Dc Dc Dc;obtain⟨s,b2,rfl,c2,h2⟩:=zx hs hE (i:=0) 2 Dc (uJ _ (uK ..)) X h1 X Dc Dc Dc;obtain⟨a3,b3,rfl,r3,h3⟩:=Zd h2 X X;obtain⟨n,pr,rfl,cn⟩:=agD hs hE r3;obtain⟨a4,b4,rfl,r4,h4⟩:=Zd h3 X X;obtain⟨ft,tt,rfl,c41,c42⟩:=ais hs hE r4;obtain⟨kt,b5,rfl,c5,h5⟩:=zx hs hE (i:=0) 5 Dc (uJ _ (uJ _ (uJ _ (uJ _ (uK ..))))) X h4 X Dc Dc Dc;obtain⟨a6,b6,rfl,h6,h7⟩:=h5;cases h7;have hms:∃o,a6=qt o/\∀qs,o=U qs->∀q∈qs,bu 4 q.1/\bu 1 q.2.1:=by
  rcases h6 with h6|⟨_,e⟩|⟨e,_⟩;·obtain⟨qs,e,hq⟩:=agr hs hE h6;exact⟨U qs,e,fun qs' e=>by cases e;exact hq⟩
  ·exact⟨Z,e,fun qs e=>by cases e⟩
  cases e
 obtain⟨o,rfl,ho⟩:=hms;exact⟨⟨vt,s,n,pr,ft,tt,kt,o⟩,by rw[Lk];rfl,c1,c2,cn,c41,c42,c5,ho⟩
end
section
open Go.Proofs.Tryz
open Go.RowKit
theorem Za(w:M):Cs prog 86 #[] w fun e w'=>∃g,e=Rt (S (U (D g 0 Z)) 14 14)/\ew w' (U (D g 0 Z)) cS/\Bw w w':=by
 have HP:Hi _:=fun k ka n kc wq=>Ps k ka n kc wq;have HA:Hi _:=fun t k g m ka n kc wq=>acj t k g m ka n kc wq;have HB:Hi (Bw w w):=By;go_enter func86,ntmps86;go_wp2_with fail;refine(HP 10 _ _ _ _).mono ?_;rintro e w1 ⟨rfl,hb⟩;have bO:=(cm _ w).alloc Ln (C (jw [⟨1,false,im⟩,⟨2,false,az⟩,⟨3,false,az⟩,⟨6,false,az⟩,⟨8,false,az⟩,⟨9,true,az⟩]).toArray 55);have bY:Hi (bn w1 (U (D w.heap.size 0 Z)) [⟨1,false,im⟩,⟨2,false,az⟩,⟨3,false,az⟩,⟨6,false,az⟩,⟨8,false,az⟩,⟨9,true,az⟩]):=(ux [⟨1,false,im⟩,⟨2,false,az⟩,⟨3,false,az⟩,⟨6,false,az⟩,⟨8,false,az⟩,⟨9,true,az⟩] w).below hb;have hc:=Tm bO hb;have HB:Hi _:=Tm HB hc;clear hb hc bO;go_wp2_with fail;refine(HP 2 _ _ _ _).mono ?_;rintro e w2 ⟨rfl,hb⟩;have hc:=hb;have bY:Hi (bn w2 (U (D w.heap.size 0 Z)) [⟨1,false,im⟩,⟨2,false,az⟩,⟨3,false,az⟩,⟨6,false,az⟩,⟨8,false,az⟩,⟨9,true,az⟩]):=bY.below hc;have HB:Hi _:=Tm HB hc;clear hb hc;go_wp2_with fail;refine(HA 0 2 (-1) 0 _ _ _ _).mono ?_;rintro e w3 ⟨rfl,hb⟩;have hc:=hb;have bY:Hi (bn w3 (U (D w.heap.size 0 Z)) [⟨1,false,im⟩,⟨2,false,az⟩,⟨3,false,az⟩,⟨6,false,az⟩,⟨8,false,az⟩,⟨9,true,az⟩]):=bY.below hc;have HB:Hi (Bw w w3):=Tm HB hc;clear hb hc;go_wp2_with fail;refine(HP 2 _ _ _ _).mono ?_;rintro e w4 ⟨rfl,hb⟩;have hc:=hb;have bY:Hi (bn w4 (U (D w.heap.size 0 Z)) [⟨1,false,im⟩,⟨2,false,az⟩,⟨3,false,az⟩,⟨6,false,az⟩,⟨8,false,az⟩,⟨9,true,az⟩]):=bY.below hc;have HB:Hi (Bw w w4):=Tm HB hc;clear hb hc;go_wp2_with fail;refine(HP 13 _ _ _ _).mono ?_;rintro e w5 ⟨rfl,hb⟩;have bO:=(cm _ w4).alloc Ln (C (jw [⟨4,false,az⟩,⟨5,false,az⟩]).toArray 55);have kD:Hi (bn w5 (U (D w4.heap.size 0 Z)) [⟨4,false,az⟩,⟨5,false,az⟩]):=(ux [⟨4,false,az⟩,⟨5,false,az⟩] w4).below hb;have hc:=Tm bO hb;have bY:Hi (bn w5 (U (D w.heap.size 0 Z)) [⟨1,false,im⟩,⟨2,false,az⟩,⟨3,false,az⟩,⟨6,false,az⟩,⟨8,false,az⟩,⟨9,true,az⟩]):=bY.below hc;have HB:Hi (Bw w w5):=Tm HB hc;clear hb hc bO;go_wp2_with fail;refine(HP 8 _ _ _ _).mono ?_;rintro e w6 ⟨rfl,hb⟩;have hc:=hb;have bY:Hi (bn w6 (U (D w.heap.size 0 Z)) [⟨1,false,im⟩,⟨2,false,az⟩,⟨3,false,az⟩,⟨6,false,az⟩,⟨8,false,az⟩,⟨9,true,az⟩]):=bY.below hc;have kD:Hi (bn w6 (U (D w4.heap.size 0 Z)) [⟨4,false,az⟩,⟨5,false,az⟩]):=kD.below hc;have HB:Hi (Bw w w6):=Tm HB hc;clear hb hc;go_wp2_with fail;refine(HP 7 _ _ _ _).mono ?_;rintro e w7 ⟨rfl,hb⟩;have hc:=hb;have bY:Hi (bn w7 (U (D w.heap.size 0 Z)) [⟨1,false,im⟩,⟨2,false,az⟩,⟨3,false,az⟩,⟨6,false,az⟩,⟨8,false,az⟩,⟨9,true,az⟩]):=bY.below hc;have kD:Hi (bn w7 (U (D w4.heap.size 0 Z)) [⟨4,false,az⟩,⟨5,false,az⟩]):=kD.below hc;have HB:Hi (Bw w w7):=Tm HB hc;clear hb hc;go_wp2_with fail;refine(HP 10 _ _ _ _).mono ?_;rintro e w8 ⟨rfl,hb⟩;have bO:=(cm _ w7).alloc Ln (C (jw [⟨7,false,az⟩,⟨7,false,az⟩]).toArray 55);have nL:Hi (bn w8 (U (D w7.heap.size 0 Z)) [⟨7,false,az⟩,⟨7,false,az⟩]):=(ux [⟨7,false,az⟩,⟨7,false,az⟩] w7).below hb;have hc:=Tm bO hb;have bY:Hi (bn w8 (U (D w.heap.size 0 Z)) [⟨1,false,im⟩,⟨2,false,az⟩,⟨3,false,az⟩,⟨6,false,az⟩,⟨8,false,az⟩,⟨9,true,az⟩]):=bY.below hc;have kD:Hi (bn w8 (U (D w4.heap.size 0 Z)) [⟨4,false,az⟩,⟨5,false,az⟩]):=kD.below hc;have HB:Hi (Bw w w8):=Tm HB hc;clear hb hc bO;go_wp2_with fail;refine(HP 9 _ _ _ _).mono ?_;rintro e w9 ⟨rfl,hb⟩;have hc:=hb;have bY:Hi (bn w9 (U (D w.heap.size 0 Z)) [⟨1,false,im⟩,⟨2,false,az⟩,⟨3,false,az⟩,⟨6,false,az⟩,⟨8,false,az⟩,⟨9,true,az⟩]):=bY.below hc;have kD:Hi (bn w9 (U (D w4.heap.size 0 Z)) [⟨4,false,az⟩,⟨5,false,az⟩]):=kD.below hc;have nL:Hi (bn w9 (U (D w7.heap.size 0 Z)) [⟨7,false,az⟩,⟨7,false,az⟩]):=nL.below hc;have HB:Hi (Bw w w9):=Tm HB hc;clear hb hc;go_wp2_with fail;refine(HP 5 _ _ _ _).mono ?_;rintro e lF ⟨rfl,hb⟩;have hc:=hb;have bY:Hi (bn lF (U (D w.heap.size 0 Z)) [⟨1,false,im⟩,⟨2,false,az⟩,⟨3,false,az⟩,⟨6,false,az⟩,⟨8,false,az⟩,⟨9,true,az⟩]):=bY.below hc;have kD:Hi (bn lF (U (D w4.heap.size 0 Z)) [⟨4,false,az⟩,⟨5,false,az⟩]):=kD.below hc;have nL:Hi (bn lF (U (D w7.heap.size 0 Z)) [⟨7,false,az⟩,⟨7,false,az⟩]):=nL.below hc;have HB:Hi (Bw w lF):=Tm HB hc;clear hb hc;go_wp2_with fail;refine(HP 11 _ _ _ _).mono ?_;rintro e qL ⟨rfl,hb⟩;have bO:=(cm _ lF).alloc Ln (C (jw [⟨10,false,az⟩]).toArray 55);have s9:Hi (bn qL (U (D lF.heap.size 0 Z)) [⟨10,false,az⟩]):=(ux [⟨10,false,az⟩] lF).below hb;have hc:=Tm bO hb;have bY:Hi (bn qL (U (D w.heap.size 0 Z)) [⟨1,false,im⟩,⟨2,false,az⟩,⟨3,false,az⟩,⟨6,false,az⟩,⟨8,false,az⟩,⟨9,true,az⟩]):=bY.below hc;have kD:Hi (bn qL (U (D w4.heap.size 0 Z)) [⟨4,false,az⟩,⟨5,false,az⟩]):=kD.below hc;have nL:Hi (bn qL (U (D w7.heap.size 0 Z)) [⟨7,false,az⟩,⟨7,false,az⟩]):=nL.below hc;have HB:Hi (Bw w qL):=Tm HB hc;clear hb hc bO;go_wp2_with fail;refine(HA 3 11 (-1) 0 _ _ _ _).mono ?_;rintro e lP ⟨rfl,hb⟩;have hc:=hb;have bY:Hi (bn lP (U (D w.heap.size 0 Z)) [⟨1,false,im⟩,⟨2,false,az⟩,⟨3,false,az⟩,⟨6,false,az⟩,⟨8,false,az⟩,⟨9,true,az⟩]):=bY.below hc;have kD:Hi (bn lP (U (D w4.heap.size 0 Z)) [⟨4,false,az⟩,⟨5,false,az⟩]):=kD.below hc;have nL:Hi (bn lP (U (D w7.heap.size 0 Z)) [⟨7,false,az⟩,⟨7,false,az⟩]):=nL.below hc;have s9:Hi (bn lP (U (D lF.heap.size 0 Z)) [⟨10,false,az⟩]):=s9.below hc;have HB:Hi (Bw w lP):=Tm HB hc;clear hb hc;go_wp2_with fail;refine(HP 10 _ _ _ _).mono ?_;rintro e FG ⟨rfl,hb⟩;have bO:=(cm _ lP).alloc Ln (C (jw [⟨11,false,az⟩,⟨12,false,jf⟩,⟨13,false,az⟩]).toArray 55);have BJ:Hi (bn FG (U (D lP.heap.size 0 Z)) [⟨11,false,az⟩,⟨12,false,jf⟩,⟨13,false,az⟩]):=(ux [⟨11,false,az⟩,⟨12,false,jf⟩,⟨13,false,az⟩] lP).below hb;have hc:=Tm bO hb;have bY:Hi (bn FG (U (D w.heap.size 0 Z)) [⟨1,false,im⟩,⟨2,false,az⟩,⟨3,false,az⟩,⟨6,false,az⟩,⟨8,false,az⟩,⟨9,true,az⟩]):=bY.below hc;have kD:Hi (bn FG (U (D w4.heap.size 0 Z)) [⟨4,false,az⟩,⟨5,false,az⟩]):=kD.below hc;have nL:Hi (bn FG (U (D w7.heap.size 0 Z)) [⟨7,false,az⟩,⟨7,false,az⟩]):=nL.below hc;have s9:Hi (bn FG (U (D lF.heap.size 0 Z)) [⟨10,false,az⟩]):=s9.below hc;have HB:Hi (Bw w FG):=Tm HB hc;clear hb hc bO;go_wp2_with fail;refine(HP 4 _ _ _ _).mono ?_;rintro e J2 ⟨rfl,hb⟩;have hc:=hb;have bY:Hi (bn J2 (U (D w.heap.size 0 Z)) [⟨1,false,im⟩,⟨2,false,az⟩,⟨3,false,az⟩,⟨6,false,az⟩,⟨8,false,az⟩,⟨9,true,az⟩]):=bY.below hc;have kD:Hi (bn J2 (U (D w4.heap.size 0 Z)) [⟨4,false,az⟩,⟨5,false,az⟩]):=kD.below hc;have nL:Hi (bn J2 (U (D w7.heap.size 0 Z)) [⟨7,false,az⟩,⟨7,false,az⟩]):=nL.below hc;have s9:Hi (bn J2 (U (D lF.heap.size 0 Z)) [⟨10,false,az⟩]):=s9.below hc;have BJ:Hi (bn J2 (U (D lP.heap.size 0 Z)) [⟨11,false,az⟩,⟨12,false,jf⟩,⟨13,false,az⟩]):=BJ.below hc;have HB:Hi _:=Tm HB hc;clear hb hc;go_wp2_with fail;refine(HP 1 _ _ _ _).mono ?_;rintro e J3 ⟨rfl,hb⟩;have hc:=hb;have bY:Hi (bn J3 (U (D w.heap.size 0 Z)) [⟨1,false,im⟩,⟨2,false,az⟩,⟨3,false,az⟩,⟨6,false,az⟩,⟨8,false,az⟩,⟨9,true,az⟩]):=bY.below hc;have kD:Hi (bn J3 (U (D w4.heap.size 0 Z)) [⟨4,false,az⟩,⟨5,false,az⟩]):=kD.below hc;have nL:Hi (bn J3 (U (D w7.heap.size 0 Z)) [⟨7,false,az⟩,⟨7,false,az⟩]):=nL.below hc;have s9:Hi (bn J3 (U (D lF.heap.size 0 Z)) [⟨10,false,az⟩]):=s9.below hc;have BJ:Hi (bn J3 (U (D lP.heap.size 0 Z)) [⟨11,false,az⟩,⟨12,false,jf⟩,⟨13,false,az⟩]):=BJ.below hc;have HB:Hi _:=Tm HB hc;clear hb hc;go_wp2_with fail;refine(HP 6 _ _ _ _).mono ?_;rintro e FH ⟨rfl,hb⟩;have hc:=hb;have bY:Hi (bn FH (U (D w.heap.size 0 Z)) [⟨1,false,im⟩,⟨2,false,az⟩,⟨3,false,az⟩,⟨6,false,az⟩,⟨8,false,az⟩,⟨9,true,az⟩]):=bY.below hc;have kD:Hi (bn FH (U (D w4.heap.size 0 Z)) [⟨4,false,az⟩,⟨5,false,az⟩]):=kD.below hc;have nL:Hi (bn FH (U (D w7.heap.size 0 Z)) [⟨7,false,az⟩,⟨7,false,az⟩]):=nL.below hc;have s9:Hi (bn FH (U (D lF.heap.size 0 Z)) [⟨10,false,az⟩]):=s9.below hc;have BJ:Hi (bn FH (U (D lP.heap.size 0 Z)) [⟨11,false,az⟩,⟨12,false,jf⟩,⟨13,false,az⟩]):=BJ.below hc;have HB:Hi _:=Tm HB hc;clear hb hc;go_wp2;go_ret;exact⟨_,X,Gc [(⟨10, -1,0,[⟨1,false,im⟩,⟨2,false,az⟩,⟨3,false,az⟩,⟨6,false,az⟩,⟨8,false,az⟩,⟨9,true,az⟩]⟩,U (D w.heap.size 0 Z),6),(⟨2,0,1,[]⟩,Z,0),(⟨2, -1,0,[]⟩,Z,0),(⟨13, -1,0,[⟨4,false,az⟩,⟨5,false,az⟩]⟩,U (D w4.heap.size 0 Z),2),(⟨8, -1,0,[]⟩,Z,0),(⟨7, -1,0,[]⟩,Z,0),(⟨10, -1,0,[⟨7,false,az⟩,⟨7,false,az⟩]⟩,U (D w7.heap.size 0 Z),2),(⟨9, -1,0,[]⟩,Z,0),(⟨5, -1,0,[]⟩,Z,0),(⟨11,3,1,[⟨10,false,az⟩]⟩,U (D lF.heap.size 0 Z),1),(⟨10, -1,0,[⟨11,false,az⟩,⟨12,false,jf⟩,⟨13,false,az⟩]⟩,U (D lP.heap.size 0 Z),3),(⟨4, -1,0,[]⟩,Z,0),(⟨1, -1,0,[]⟩,Z,0),(⟨6, -1,0,[]⟩,Z,0)] FH (iz Ln Dc bY (iz Ln Dc (fun j hj=>Ab hj (dh _)) (iz Ln Dc (fun j hj=>Ab hj (dh _)) (iz Ln Dc kD (iz Ln Dc (fun j hj=>Ab hj (dh _)) (iz Ln Dc (fun j hj=>Ab hj (dh _)) (iz Ln Dc nL (iz Ln Dc (fun j hj=>Ab hj (dh _)) (iz Ln Dc (fun j hj=>Ab hj (dh _)) (iz Ln Dc s9 (iz Ln Dc BJ (iz Ln Dc (fun j hj=>Ab hj (dh _)) (iz Ln Dc (fun j hj=>Ab hj (dh _)) (iz Ln Dc (fun j hj=>Ab hj (dh _)) Gb)))))))))))))),HB.alloc HB.size _⟩
def dS:Ls Nd:=[⟨10, -1,0,[⟨1,false,im⟩,⟨2,false,az⟩,⟨3,false,az⟩,⟨4,false,az⟩,⟨5,false,az⟩,⟨6,true,az⟩]⟩,⟨2,0,1,[]⟩,⟨2, -1,0,[]⟩,⟨13, -1,0,[⟨7,false,az⟩,⟨8,false,az⟩]⟩,⟨10, -1,0,[⟨9,false,az⟩,⟨9,false,az⟩]⟩,⟨5, -1,0,[]⟩,⟨11,3,1,[⟨10,false,az⟩]⟩,⟨8, -1,0,[]⟩,⟨7, -1,0,[]⟩,
 ⟨9, -1,0,[]⟩,⟨10, -1,0,[⟨11,false,az⟩,⟨12,false,jf⟩,⟨13,false,az⟩]⟩,⟨4, -1,0,[]⟩,⟨1, -1,0,[]⟩,⟨6, -1,0,[]⟩]
theorem Ny:ee dS/\Ar dS:=Kg (by decide+kernel)
theorem ads:ky dS:=Kk (by decide+kernel)
def pD(i:Nat):Nat:=[0,1,2,3,7,8,4,9,5,6,10,11,12,13].getD i i
theorem Pq(i:Nat)(hi:i<14):nd dS (pD i)=⟨(nd cS i).kind,(nd cS i).tag,(nd cS i).mode,(nd cS i).kids.map (qw pD)⟩:=by rcases(show i=0\/i=1\/i=2\/i=3\/i=4\/i=5\/i=6\/i=7\/i=8\/i=9\/i=10\/i=11\/i=12\/i=13 by omega)with rfl|rfl|rfl|rfl|rfl|rfl|rfl|rfl|rfl|rfl|rfl|rfl|rfl|rfl<;>rfl
theorem aho:∀i:Fin 14,pD i.val<14:=Dc
theorem ahn:∀i:Fin 14,Db dS (pD i.val)=Db cS i.val:=by decide+kernel
theorem afU{E1 E2:bj}(h1:E1.s=cS)(h2:E2.s=dS)(hd:E2.d=E1.d)(e1:mo E1)(e2:mo E2):Au E1 E2 pD:=by
 have bP:∀{i},i<E1.s.length->i<14:=fun {i} h=>by rw[h1]at h;exact h
 have Q9:∀{i},i<14->pD i<E2.s.length:=fun {i} h=>by rw[h2];exact aho ⟨i,h⟩
 have hw:∀i,i<E1.s.length->∀k∈(nd E1.s i).kids,k.node.toNat<E1.s.length:=fun i hi k hk=>by rw[h1]at hi hk ⊢;have:=Bb.1.fine.within i hi k hk;omega
 refine⟨hd,fun k t=>Ao.2 ((e2.ok k t).trans (e1.ok k t).symm),fun i hi=>?_,hw,fun i hi a b=>?_,fun i hi c m=>?_,fun i hi k hk hz=>?_⟩;·rw[h1,h2];exact Pq i (bP hi)
 ·rw[h1]at hi a b ⊢;exact Bb.1.fine.one i hi O
 ·have q1:=e1.bg i hi c m;have q2:=e2.bg (pD i) (Q9 (bP hi)) c m;rw[h1,Is Bb.2]at q1;rw[h2,Is Ny.2,ahn ⟨i,bP hi⟩]at q2;exact Ao.2 (q2.trans q1.symm)
 obtain⟨u,a1,a2,_⟩:=e1.dv i hi k hk hz;have hm:qw pD k∈(nd E2.s (pD i)).kids:=by rw[h2,Pq i (bP hi)];rw[h1]at hk;exact List.mem_map_of_mem hk
 obtain⟨u',b1,b2,_⟩:=e2.dv (pD i) (Q9 (bP hi)) (qw pD k) hm hz;have hn:nd E2.s (qw pD k).node.toNat=⟨(nd E1.s k.node.toNat).kind,(nd E1.s k.node.toNat).tag,(nd E1.s k.node.toNat).mode,(nd E1.s k.node.toNat).kids.map (qw pD)⟩:=by rw[Je,h1,h2];exact Pq _ (bP (hw i hi k hk))
 rw[hn]at b1 b2;have O3:=b1;rw[a2,b2,Dg a1 O3]
theorem adv{E1:bj}{d:Q}{v:Except (Int×Int) (Ls Vl)}(h:pb E1 cS 0 d v):∃E2,pb E2 dS 0 d v:=by
 have hr:ee dS/\(0:Int)<=0/\(0:Int)<dS.length:=⟨Ny.1,Dc,Dc⟩;rcases h with⟨q,_⟩|⟨_,z,rfl⟩|⟨_,z,hs,rfl,e1,f,hf,hv⟩;·exact Ab ⟨Bb.1,Dc,Dc⟩ q
 ·exact⟨E1,.inr (.inl ⟨hr,z,X⟩)⟩
 obtain⟨E2,h2,hd,e2⟩:=Oi dS E1.d Ny.1;refine⟨E2,.inr (.inr ⟨hr,z,h2,hd,e2,f,hf,?_⟩)⟩;have ah:=afU hs h2 hd e1 e2;have hi:=Kc ah f 0 (by rw[hs];decide);rw[show pD 0=0 from rfl]at hi;unfold jh at hv ⊢;rw[hd];have e0:(0:Int).toNat=0:=X;rw[e0]at hv ⊢;rw[hi];exact hv
theorem Yu(k:Int)(ka:Oo Ad)(n kc:Nat)(w:M):Cs prog 122 #[I J k,S ka n kc] w fun e w'=>e=Rt (Ag #[I J k,I J (-1),I J 0,S ka n kc])/\Bw w w':=by
 go_enter func122,ntmps122;go_wp2;exact db (v:=Ag #[I J k,I J (-1),I J 0,S ka n kc]) (by simp[results,results122,go_sem]) X ⟨X,Be⟩
def uS:Ls Nd:=[⟨5, -1,0,[]⟩]
def Mb(P:Prop)(w:M)(e:Ending)(w':M):Prop:=Bw w w'/\∃(x y:Vv) (c:Int),e=Rt (Tu #[x,y,I J c])/\(c=0↔P)
def Ea(b:Q):Prop:=(∀wq g,ew wq (U (D g 0 Z)) lS->Cs prog 39 #[S (U (D g 0 Z)) 3 3,I J 0,Y b] wq fun e w'=>Mb (xy b) wq e w')/\
 (∀wq g,ew wq (U (D g 0 Z)) uS->Cs prog 39 #[S (U (D g 0 Z)) 1 1,I J 0,Y b] wq fun e w'=>Mb (uM b) wq e w')
def aaL(m:du)(w:M)(e:Ending)(w':M):Prop:=Bw w w'/\∃r k:Bool,e=Rt (Tu #[Bo r,Bo k])/\(k=true↔m.kind=qy\/m.kind=rf)/\(m.kind=qy->(r=true↔xy m.body))/\(m.kind=rf->(r=true↔uM m.body))
theorem acO(m:du)(w:M)(fT:Ea m.body):Cs prog 128 #[Ag #[Y m.kind,Bo m.must,Y m.body]] w fun e w'=>aaL m w e w':=by
 obtain⟨mk,mm,mb⟩:=m;have HP:Hi _:=fun k ka n kc wq=>Yu k ka n kc wq;obtain⟨(HL:Hi _),(HU:Hi _)⟩:=fT;have aY:∀o,Hi (Bw w (w.alloc o)):=fun o=>Be;have DP:∀o,Hi ((w.alloc o).heap[w.heap.size]? =U o):=fun o=>bl w o;by_cases h1:mk=qy;·subst h1;go_enter func128,ntmps128;go_wp2_with fail;generalize fD:w.alloc _=W0;(have HX:Hi (W0.heap[w.heap.size]? =U (C #[Y qy,Bo mm,Y mb] 73 (0,0))):=by rw[<-fD];exact DP _);(have HB:Hi (Bw w W0):=by rw[<-fD];exact aY _);(have HWS:Hi (W0.heap.size=w.heap.size+1):=by show _=_;rw[<-fD];simp);clear fD DP aY;refine(HP 10 _ _ _ _).mono ?_;rintro e w1 ⟨rfl,hb⟩;have bO:=(cm _ W0).alloc Ln (C (jw [⟨1,false,jf⟩,⟨2,true,az⟩]).toArray 55);(have kX:Hi (bn w1 (U (D (w.heap.size+1) 0 Z)) [⟨1,false,jf⟩,⟨2,true,az⟩]):=by have h:=(ux [⟨1,false,jf⟩,⟨2,true,az⟩] W0).below hb;rw[HWS.out]at h;exact h);have hc:=Tm bO hb;have HX:Hi _:=bc HX hc;have HB:Hi _:=Tm HB hc;clear hb hc bO;go_wp2_with fail;refine(HP 1 _ _ _ _).mono ?_;rintro e w2 ⟨rfl,hc⟩;have kX:Hi (bn w2 (U (D (w.heap.size+1) 0 Z)) [⟨1,false,jf⟩,⟨2,true,az⟩]):=kX.below hc;have HX:Hi _:=bc HX hc;have HB:Hi _:=Tm HB hc;clear hc;go_wp2_with fail;refine(HP 2 _ _ _ _).mono ?_;rintro e w3 ⟨rfl,hc⟩;have kX:Hi (bn w3 (U (D (w.heap.size+1) 0 Z)) [⟨1,false,jf⟩,⟨2,true,az⟩]):=kX.below hc;have HX:Hi _:=bc HX hc;have HB:Hi _:=Tm HB hc;clear hc;have c2:=(yl HX 2).trans X;have l3:=lc c2;have xM:=Gc [(⟨10, -1,0,[⟨1,false,jf⟩,⟨2,true,az⟩]⟩,U (D (w.heap.size+1) 0 Z),2),(⟨1, -1,0,[]⟩,Z,0),(⟨2, -1,0,[]⟩,Z,0)] w3 (iz Ln Dc kX (iz Ln Dc (fun j hj=>Ab hj (dh _)) (iz Ln Dc (fun j hj=>Ab hj (dh _)) Gb)));have xM:=xM;have HS:Hi _:=xM;clear xM;go_wp2_with fail;refine(HL _ _ HS).mono ?_;rintro e w4 ⟨hb4,x,y,c,rfl,(HC:Hi _)⟩;(have aJ:Hi (Bw w w4):=by have h3:=HB.alloc HB.size (C (xg [(⟨10, -1,0,[⟨1,false,jf⟩,⟨2,true,az⟩]⟩,U (D (w.heap.size+1) 0 Z),2),(⟨1, -1,0,[]⟩,Z,0),(⟨2, -1,0,[]⟩,Z,0)]).toArray 58);exact Tm h3 hb4);clear hb4;go_wp2;go_ret2;exact⟨aJ,_,_,X,⟨fun _=> .inl X,fun _=>rfl⟩,fun _=>by rw[<-HC.out];exact jq,fun q=>Ab q (show qy≠rf by decide)⟩
 by_cases h2:mk=rf;·subst h2;have b1:=rn h1;go_enter func128,ntmps128;go_wp2_with fail;generalize fD:w.alloc _=W0;(have HX:Hi (W0.heap[w.heap.size]? =U (C #[Y rf,Bo mm,Y mb] 73 (0,0))):=by rw[<-fD];exact DP _);(have HB:Hi (Bw w W0):=by rw[<-fD];exact aY _);clear fD DP aY;refine(HP 5 _ _ _ _).mono ?_;rintro e w3 ⟨rfl,hc⟩;have HX:Hi _:=bc HX hc;have HB:Hi _:=Tm HB hc;clear hc;have c2:=(yl HX 2).trans X;have l3:=lc c2;have HS:Hi (ew (w3.alloc (C (xg [(⟨5, -1,0,[]⟩,Z,0)]).toArray 58)) (U (D w3.heap.size 0 Z)) uS):=Gc [(⟨5, -1,0,[]⟩,Z,0)] w3 (iz Ln Dc (fun j hj=>Ab hj (dh _)) Gb);go_wp2_with fail;refine(HU _ _ HS).mono ?_;rintro e w4 ⟨hb4,x,y,c,rfl,(HC:Hi _)⟩;(have aJ:Hi (Bw w w4):=by have h3:=HB.alloc HB.size (C (xg [(⟨5, -1,0,[]⟩,Z,0)]).toArray 58);exact Tm h3 hb4);clear hb4;go_wp2;go_ret2;exact⟨aJ,_,_,X,⟨fun _=> .inr X,fun _=>rfl⟩,fun q=>Ab q h1,fun _=>by rw[<-HC.out];exact jq⟩
 have b1:(mk.toList== [85,29,19])=false:=by have q:=rn h1;rwa[show qy.toList=[85,29,19]by rw[Lib.toList_data]]at q
 have b2:(mk.toList== [85,29,15])=false:=by have q:=rn h2;rwa[show rf.toList=[85,29,15]by rw[Lib.toList_data]]at q
 go_enter func128,ntmps128;go_wp2;go_ret2;exact⟨(aY _).out,_,_,X,⟨fun q=>Ab q Ec,fun q=>q.elim (fun z=>Ab z h1) (fun z=>Ab z h2)⟩,fun q=>Ab q h1,fun q=>Ab q h2⟩
theorem dt{p:Prop}(h:p):Hi p:=h
theorem Xa{m:du}(h:rm m):bu 4 m.kind:=by
 rcases h with⟨h,_⟩|⟨h,_⟩|⟨_,_,h,_⟩;·rw[h];exact(yn _).1 (by unfold nf rq uo;decide)
 ·rw[h];exact(yn _).1 (by unfold nf rq uo;decide)
 exact h
def Me(v:Int)(s n f t k:Q)(ms:Ls du)(w:M)(e:Ending)(w':M):Prop:=
 Bw w w'/\((¬ij v s n f t k ms.length/\e=Rt (I J 12))\/(ij v s n f t k ms.length/\¬kx ms/\e=Rt (I J 13))\/(ij v s n f t k ms.length/\kx ms/\e=Rt (I J 0)))
theorem Wo(v:Int)(s n f t k:Q)(ms:Ls du)(ma:Oo Ad)(mc:Nat)(w:M)(fT:∀j,j<ms.length->Ea (ms.getD j fh).body)(eN:il w ma ms)(z1:s.size<=140737488355328)(z2:n.size<=140737488355328)(z3:f.size<=140737488355328)(z4:t.size<=140737488355328)(z5:k.size<=140737488355328)(hZ:Hy ms)(hn:ms.length<=140737488351232)(kK:ms.length<=mc):Cs prog 82 #[dm v s n f t k (S ma ms.length mc)] w fun e w'=>Me v s n f t k ms w e w':=by
 have HBO:Hi _:=fun j wq hj=>acO _ wq (fT j hj);have HOI:Hi (∀j wq,j<ms.length->Cs prog 129 #[Y (ms.getD j fh).kind] wq fun e w'=>gz (nf (ms.getD j fh).kind) wq e w'):=fun j wq hj=>Vu _ wq (by have:=(hZ j hj).1;omega);have HI:Hi _:=fun wq=>Vt s wq O;have HU:Hi _:=fun wq=>Vx n wq z2;have HF:Hi _:=fun wq=>Ot f wq O;have HT:Hi _:=fun wq=>Ot t wq O;have HK:Hi _:=fun wq=>Vq k wq O;have mH:=dt eN;clear fT eN hZ;unfold dm;go_enter func82,ntmps82;go_wp2_with fail;generalize hW:w.alloc _=W;have hX:W.heap[w.heap.size]? =U (C #[I J v,Y s,Y n,Y f,Y t,Y k,S ma ms.length mc] 68 (0,0)):=by rw[<-hW];exact bl w _
 have HB:Hi (Bw w W):=by show H _ _ _;rw[<-hW];exact Be
 have TX:Hi (il W ma ms):=mH.below HB;have c0:=(yl hX 0).trans X;have c1:=(yl hX 1).trans X;have c2:=(yl hX 2).trans X;have c3:=(yl hX 3).trans X;have c4:=(yl hX 4).trans X;have c5:=(yl hX 5).trans X;have c6:=(yl hX 6).trans X;have l0:=lc c0;clear hX hW mH;refine(HI _).mono ?_;rintro e w1 ⟨r1,rfl,(cF:Hi _),k1,rfl⟩;go_wp2_with fail;refine(HU _).mono ?_;rintro e w2 ⟨r2,rfl,(eL:Hi _),k2,rfl⟩;go_wp2_with fail;refine(HF _).mono ?_;rintro e w3 ⟨r3,rfl,(qU:Hi _),k3,rfl⟩;go_wp2_with fail;refine(HT _).mono ?_;rintro e w4 ⟨r4,rfl,(tH:Hi _),k4,rfl⟩;go_wp2_with fail;refine(HK _).mono ?_;rintro e w5 ⟨r5,rfl,(BS:Hi _),k5,rfl⟩;have j0:Hi (∀q,Bw w (W.drewN q)):=fun q=>Go.below_drewN HB q;clear HI HU HF HT HK;go_upto_region 6 with fail;go_cut [74] (fun x wx=>(∃c:Bool,x=Bo c/\(c=false↔(0<=v/\v<=2/\pe s/\Hz n/\mf f/\mf t/\(Op.bytesLess f.toList t.toList||f.toList==t.toList)=true/\qo k)))/\∃q,wx=W.drewN q)
 case first=>
  by_cases q0:v<0;·have d0:decide (v<0)=true:=ch q0;go_wp2;go_meet;exact⟨⟨true,X,⟨fun q=>(by cases q),fun q=>Ab q (fun q=>by have:=q.1;omega)⟩⟩,_,X⟩
  have d0:decide (v<0)=false:=br q0;by_cases q1:2<v;·have d1:decide (2<v)=true:=ch q1;go_wp2;go_meet;exact⟨⟨true,X,⟨fun q=>(by cases q),fun q=>Ab q (fun q=>by have:=q.2.1;omega)⟩⟩,_,X⟩
  have d1:decide (2<v)=false:=br q1
  cases r1 with
  |false=>
   go_wp2
   go_meet
   exact⟨⟨true,X,⟨fun q=>(by cases q),fun q=>Ab q (fun q=>Ab (cF.2 q.2.2.1) Ec)⟩⟩,_,X⟩
  |true=>
  cases r2 with
  |false=>
   go_wp2
   go_meet
   exact⟨⟨true,X,⟨fun q=>(by cases q),fun q=>Ab q (fun q=>Ab (eL.2 q.2.2.2.1.2.2) Ec)⟩⟩,_,X⟩
  |true=>
  cases r3 with
  |false=>
   go_wp2
   go_meet
   exact⟨⟨true,X,⟨fun q=>(by cases q),fun q=>Ab q (fun q=>Ab (qU.2 q.2.2.2.2.1) Ec)⟩⟩,_,X⟩
  |true=>
  cases r4 with
  |false=>
   go_wp2
   go_meet
   exact⟨⟨true,X,⟨fun q=>(by cases q),fun q=>Ab q (fun q=>Ab (tH.2 q.2.2.2.2.2.1) Ec)⟩⟩,_,X⟩
  |true=>
  cases r5 with
  |false=>
   go_wp2
   go_meet
   exact⟨⟨true,X,⟨fun q=>(by cases q),fun q=>Ab q (fun q=>Ab (BS.2 q.2.2.2.2.2.2.2) Ec)⟩⟩,_,X⟩
  |true=>
  have cU:=Oh n
  cases g7:n.toList.isEmpty with
  |true=>
   have HE:Hi _:=cU.1 g7
   clear cU
   go_wp2
   go_meet
   exact⟨⟨true,X,⟨fun q=>(by cases q),fun q=>Ab q (fun q=>by have:=q.2.2.2.1.1;have:=HE.out;omega)⟩⟩,_,X⟩
  |false=>
  have HE:Hi (n.size≠0):=fun q=>by rw[cU.2 q]at g7;cases g7
  clear cU;by_cases q8:64<n.size;·have d8:(64:Int)<n.size:=O;go_wp2;go_meet;exact⟨⟨true,X,⟨fun q=>(by cases q),fun q=>Ab q (fun q=>by have:=q.2.2.2.1.2.1;omega)⟩⟩,_,X⟩
  have d8:(n.size:Int)<=64:=O;have d9:decide ((64:Int)<n.size)=false:=br O
  cases ga:Op.bytesLess f.toList t.toList with
  |true=>
   have HG:Hi ((Op.bytesLess f.toList t.toList||f.toList==t.toList)=true):=by show _=_;rw[ga];rfl
   go_wp2
   go_meet
   exact⟨⟨false,X,⟨fun _=>⟨O,O,cF.out.1 (by first|rfl|trivial),⟨by have:=HE.out;omega,O,eL.out.1 (by first|rfl|trivial)⟩,qU.out.1 (by first|rfl|trivial),tH.out.1 (by first|rfl|trivial),HG.out,BS.out.1 (by first|rfl|trivial)⟩,fun _=>rfl⟩⟩,_,X⟩
  |false=>
  cases gb:(f.toList==t.toList)with
  |true=>
   have HG:Hi ((Op.bytesLess f.toList t.toList||f.toList==t.toList)=true):=by show _=_;rw[ga,gb];rfl
   go_wp2
   go_meet
   exact⟨⟨false,X,⟨fun _=>⟨O,O,cF.out.1 (by first|rfl|trivial),⟨by have:=HE.out;omega,O,eL.out.1 (by first|rfl|trivial)⟩,qU.out.1 (by first|rfl|trivial),tH.out.1 (by first|rfl|trivial),HG.out,BS.out.1 (by first|rfl|trivial)⟩,fun _=>rfl⟩⟩,_,X⟩
  |false=>
   have HG:Hi ((Op.bytesLess f.toList t.toList||f.toList==t.toList)=false):=by show _=_;rw[ga,gb];rfl
   go_wp2
   go_meet
   exact⟨⟨true,X,⟨fun q=>(by cases q),fun q=>Ab q (fun q=>by have h:=q.2.2.2.2.2.2.1;rw[HG.out]at h;cases h)⟩⟩,_,X⟩
 obtain⟨⟨cc,rfl,(NI:Hi _)⟩,kk,rfl⟩:=hcut;clear cF eL qU tH BS
 cases cc with
 |true=>
  go_wp2
  go_ret
  exact⟨j0 _,.inl ⟨fun q=>Ab (NI.2 ⟨q.v0,q.v2,q.ser,q.nam,q.frm,q.til,q.ord,q.key⟩) Dc,X⟩⟩
 |false=>
 have TM:=dt (NI.1 X);clear NI;go_upto_region 8 with fail;go_cut [89] (fun x wx=>(∃c:Bool,x=Bo c/\(c=false↔ij v s n f t k ms.length))/\∃q,wx=W.drewN q)
 case first=>
  obtain⟨e1,e2,e3,e4,e5,e6,e7,e8⟩:=TM.out;by_cases qa:8<ms.length;·have da:(8:Int)<ms.length:=O;clear e1 e2 e3 e4 e5 e6 e7 e8;go_wp2;go_meet;exact⟨⟨true,X,⟨fun q=>(by cases q),fun q=>Ab q (fun q=>by have h:=q.mks;unfold tf at h;split at h<;>omega)⟩⟩,_,X⟩
  have da:(ms.length:Int)<=8:=O;have da2:decide ((8:Int)<ms.length)=false:=br O;by_cases hp:0<ms.length
  ·have rL:(0:Int)<ms.length:=O;by_cases h2:v=2;(·have vS:Hi (ij v s n f t k ms.length):=⟨e1,e2,e3,e4,e5,e6,e7,e8,by unfold tf;rw[ba h2];exact da⟩;subst h2;clear e1 e2 e3 e4 e5 e6 e7 e8;go_wp2;go_meet;exact⟨⟨false,X,⟨fun _=>vS,fun _=>rfl⟩⟩,_,X⟩);have m8:Hi (v≠2):=h2;(have b3:(v !=2)=true:=by simp[h2]);clear e1 e2 e3 e4 e5 e6 e7 e8;go_wp2;go_meet;exact⟨⟨true,X,⟨fun q=>(by cases q),fun q=>Ab q (fun q=>by have h:=q.mks;unfold tf at h;rw[G m8.out]at h;omega)⟩⟩,_,X⟩
  have rL:(ms.length:Int)<=0:=O;have vS:Hi (ij v s n f t k ms.length):=⟨e1,e2,e3,e4,e5,e6,e7,e8,by unfold tf;split<;>omega⟩;clear e1 e2 e3 e4 e5 e6 e7 e8;go_wp2;go_meet;exact⟨⟨false,X,⟨fun _=>vS,fun _=>rfl⟩⟩,_,X⟩
 obtain⟨⟨cc,rfl,yD⟩,kq,rfl⟩:=hcut
 cases cc with
 |true=>
  have HN:Hi (¬ij v s n f t k ms.length):=fun q=>by cases yD.2 q
  clear yD
  go_wp2
  go_ret
  exact⟨j0 _,.inl ⟨HN,X⟩⟩
 |false=>
 have vS:=dt (yD.1 X);have aY:Hi _:=j0 kq;clear yD TM j0 c0 c1 c2 c3 c4 c5;have fE:Bw W (W.drewN kq):=Go.below_drewN By kq;have WU:=(fE.cell l0).trans c6;have kC:Hi (il (W.drewN kq) ma ms):=TX.below fE;have i4:=dt WU;clear fE WU c6 l0 TX;generalize W.drewN kq=W0 at*;go_wp2_with fail;go_loopw [8] (fun vi wr=>∃j:Nat,j<=ms.length/\vi=I J j/\Lt ms j/\Bw W0 wr) (fun vi _=>ms.length-(Io vi).toNat);case atStart=>exact⟨0,Lz,X,fun i hi=>Ab hi (dh _),By⟩
 obtain⟨j,hj,rfl,(r9:Hi _),aT⟩:=hrel;have dU:=dt aT;have x6:wr.cell? (D w.heap.size 6 Z)=U (S ma ms.length mc):=Cb aT i4;have l6:=lc x6;have FQ:Hi _:=Tm aY aT;clear aT;by_cases aA:j<ms.length
 ·have aN:(j:Int)<ms.length:=O;obtain⟨g,o,rfl,d0,d1,d2⟩:=(kC.below dU) j aA;have SV:=dt (fun wq=>HBO j wq aA);have T9:=dt (fun wq=>HOI j wq aA);obtain⟨m,hm⟩:∃m,ms.getD j fh=m:=Ey;rw[hm]at d0 d1 d2 SV T9;have kE:=dt hm;clear hm;go_wp2_with fail;refine(SV _).mono ?_;rintro e w1 ⟨hb1,rr,kn,rfl,lZ,MK,YZ⟩;have aC:Hi _:=dj hb1;have x0:w1.cell? (D wr.heap.size 0 Z)=U (Y m.kind):=bh.new (A:=#[Y m.kind,Bo m.must,Y m.body]) ⟨w1,hb1⟩ X;have x1:w1.cell? (D wr.heap.size 1 Z)=U (Bo m.must):=bh.new (A:=#[Y m.kind,Bo m.must,Y m.body]) ⟨w1,hb1⟩ X;have i9:=lc x0;have HK:Hi ((kn=true↔m.kind=qy\/m.kind=rf)/\(m.kind=qy->(rr=true↔xy m.body))/\(m.kind=rf->(rr=true↔uM m.body))):=⟨lZ,MK,YZ⟩;clear hb1 lZ MK YZ d0 d1 d2;go_wp2_with fail;refine(T9 _).mono ?_;rintro e w2 ⟨ro,rfl,(HO:Hi _),kz,rfl⟩;obtain⟨mu,AK⟩:∃mu,m.must=mu:=Ey;rw[AK]at x1;have zI:=dt AK;clear AK;obtain⟨xb,gL⟩:∃xb,wr.heap.size=xb:=Ey;have SI:=(aC.cell l6).trans x6;have ZL:=lc SI;have aZ:Hi (il w1 (U (D g o Z)) ms):=(kC.below dU).below aC;have SQ:Hi _:=Tm dU aC;rw[gL]at x0 x1 i9 ⊢;clear gL x6 l6 aC FQ dU;go_upto_region 16 with fail;go_cut [126] (fun x wx=>(∃c:Bool,x=Bo c/\(c=false↔rm m))/\∃q,wx=w1.drewN q)
  case first=>
   obtain⟨bQ,iB,nG⟩:=HK.out;have ho:=HO.out;have AK:=zI.out;by_cases hok:rm m
   ·have dQ:=dt hok;have gP:ro=true/\((kn=true/\rr=true)\/(kn=false/\mu=false)):=by
     refine⟨ho.2 ((yn _).2 (Xa hok)),?_⟩;rcases hok with⟨q1,q2⟩|⟨q1,q2⟩|⟨q1,q2,_,q4⟩;(·exact .inl ⟨bQ.2 (.inl q1),(iB q1).2 q2⟩);(·exact .inl ⟨bQ.2 (.inr q1),(nG q1).2 q2⟩);exact .inr ⟨Bool.eq_false_iff.2 fun q=>(bQ.1 q).elim q1 q2,by rw[<-AK];exact q4⟩
    clear bQ iB nG ho AK hok HK HO zI;rcases gP with⟨rfl,⟨rfl,rfl⟩|⟨rfl,rfl⟩⟩;(·go_wp2;(all_goals go_meet);all_goals exact⟨⟨false,X,⟨fun _=>dQ,fun _=>rfl⟩⟩,_,X⟩);go_wp2;(all_goals go_meet);all_goals exact⟨⟨false,X,⟨fun _=>dQ,fun _=>rfl⟩⟩,_,X⟩
   have bM:=dt hok;have gP:(kn=true/\rr=false)\/(kn=false/\mu=true)\/ro=false:=by
    cases hro:ro with
    |false=>exact .inr (.inr X)
    |true=>
     have aeG:=ho.1 hro
     cases lZ:kn with
     |true=>
      refine .inl ⟨X,Bool.eq_false_iff.2 fun q=>hok ?_⟩
      rcases bQ.1 lZ with q1|q1
      ·exact .inl ⟨q1,(iB q1).1 q⟩
      ·exact .inr (.inl ⟨q1,(nG q1).1 q⟩)
     |false=>
      refine .inr (.inl ⟨X,?_⟩)
      cases hmm:mu with
      |true=>rfl
      |false=>exact Ab (.inr (.inr ⟨fun q=>(by rw[bQ.2 (.inl q)]at lZ;cases lZ),fun q=>(by rw[bQ.2 (.inr q)]at lZ;cases lZ),(yn _).1 aeG,by rw[AK];exact hmm⟩)) hok
   clear bQ iB nG ho AK hok HK HO zI;rcases gP with⟨rfl,rfl⟩|⟨rfl,rfl⟩|rfl;(·go_wp2;(all_goals go_meet);all_goals exact⟨⟨true,X,⟨fun q=>Ab q Dc,fun q=>Ab q bM⟩⟩,_,X⟩);(·go_wp2;(all_goals go_meet);all_goals exact⟨⟨true,X,⟨fun q=>Ab q Dc,fun q=>Ab q bM⟩⟩,_,X⟩);cases kn<;>cases rr<;>cases mu;(all_goals go_wp2);(all_goals go_meet);all_goals exact⟨⟨true,X,⟨fun q=>Ab q Dc,fun q=>Ab q bM⟩⟩,_,X⟩
  obtain⟨⟨cc,rfl,yD⟩,kw,rfl⟩:=hcut;have rF:Bw w1 (w1.drewN kw):=Go.below_drewN By kw;have SW:Hi _:=Tm SQ rF;have SX:Hi _:=Tm aY SW
  cases cc with
  |true=>
   have HN:Hi (¬kx ms):=fun q=>by
    have:=(q j aA).1
    rw[kE.out]at this
    cases yD.2 this
   clear yD rF
   go_wp2
   go_ret
   exact⟨SX,.inr (.inl ⟨vS,HN,X⟩)⟩
  |false=>
   have dQ:Hi _:=yD.1 X
   have y0:=(rF.cell i9).trans x0
   have y6:=(rF.cell ZL).trans SI
   have aS:Hi (il (w1.drewN kw) (U (D g o Z)) ms):=aZ.below rF
   have GV:=dt y0
   have HY6:=dt y6
   clear yD rF y0 y6 x0 x1 SI ZL i9 aZ SQ HK HO zI
   generalize w1.drewN kw=w3 at*
   go_wp2_with fail
   go_loopw [13] (fun vj wx=>∃i:Nat,i<=j/\vj=I J i/\(∀l,l<i->(ms.getD l fh).kind≠m.kind)/\∃q,wx=w3.drewN q) (fun vj _=>j-(Io vj).toNat)
   case atStart=>exact⟨0,Lz,X,fun i hi=>Ab hi (dh _),0,X⟩
   case round=>
    obtain⟨i,hi,rfl,(oY:Hi _),qd,rfl⟩:=hrel
    have y0:=GV.out
    have y6:=HY6.out
    by_cases eZ:i<j
    ·have yJ:(i:Int)<j:=O
     have hil:(i:Int)<ms.length:=O
     obtain⟨g',o',e',u0,u1,u2⟩:=aS i O
     injection e' with e'
     injection e' with e1 e2 _
     subst e1 e2
     obtain⟨kj,CW⟩:∃kj,(ms.getD i fh).kind=kj:=Ey
     rw[CW]at u0
     have GF:=dt CW
     clear u1 u2 CW
     by_cases heq:kj=m.kind
     ·have p9:=Np.2 heq
      have HN:Hi (¬kx ms):=fun q=>by
       have:=(q j aA).2 i eZ
       rw[kE,GF.out]at this
       exact this heq
      clear heq
      go_wp2
      go_quiet (fail)
      go_wp2
      go_ret
      exact⟨Go.below_drewN (Go.below_drewN SX _) _,.inr (.inl ⟨vS,HN,X⟩)⟩
     ·have p9:=rn heq
      have OC:Hi ((ms.getD i fh).kind≠m.kind):=by
       show(ms.getD i fh).kind≠m.kind
       rw[GF.out];exact heq
      clear heq
      go_wp2
      go_quiet (fail)
      go_wp2
      go_roundw
      case rel=>
       refine⟨i+1,O,Gn,fun l hl=>?_,_,X⟩
       by_cases yH:l=i
       ·rw[yH];exact OC
       ·exact oY l O
      case measure=>exact Ms
    ·have yJ:(j:Int)<=i:=O
     obtain rfl:i=j:=O
     go_wp2
     go_roundw
     case rel=>
      refine⟨i+1,O,Gn,fun l hl=>?_,Go.below_drewN SW _⟩
      by_cases yH:l=i
      ·rw[yH,kE.out];exact⟨dQ,oY⟩
      ·exact r9 l O
     case measure=>exact Ms
 have aN:¬(j:Int)<ms.length:=O;obtain rfl:j=ms.length:=O;go_wp2;go_ret;exact⟨FQ,.inr (.inr ⟨vS,r9,X⟩)⟩
theorem ahw(w:M):Cs prog 80 #[] w fun e w'=>∃g,e=Rt (S (U (D g 0 Z)) 14 14)/\ew w' (U (D g 0 Z)) dS/\Bw w w':=by
 have HP:Hi _:=fun k ka n kc wq=>Yu k ka n kc wq;have HB:Hi (Bw w w):=By;go_enter func80,ntmps80;go_wp2_with fail;refine(HP 10 _ _ _ _).mono ?_;rintro e w1 ⟨rfl,hb⟩;have bO:=(cm _ w).alloc Ln (C (jw [⟨1,false,im⟩,⟨2,false,az⟩,⟨3,false,az⟩,⟨4,false,az⟩,⟨5,false,az⟩,⟨6,true,az⟩]).toArray 55);have bY:Hi (bn w1 (U (D w.heap.size 0 Z)) [⟨1,false,im⟩,⟨2,false,az⟩,⟨3,false,az⟩,⟨4,false,az⟩,⟨5,false,az⟩,⟨6,true,az⟩]):=(ux [⟨1,false,im⟩,⟨2,false,az⟩,⟨3,false,az⟩,⟨4,false,az⟩,⟨5,false,az⟩,⟨6,true,az⟩] w).below hb;have hc:=Tm bO hb;have HB:Hi _:=Tm HB hc;clear hb hc bO;go_wp2_with fail;refine(HP 2 _ _ _ _).mono ?_;rintro e w2 ⟨rfl,hb⟩;have hc:=hb;have bY:Hi (bn w2 (U (D w.heap.size 0 Z)) [⟨1,false,im⟩,⟨2,false,az⟩,⟨3,false,az⟩,⟨4,false,az⟩,⟨5,false,az⟩,⟨6,true,az⟩]):=bY.below hc;have HB:Hi _:=Tm HB hc;clear hb hc;go_wp2_with fail;refine(HP 13 _ _ _ _).mono ?_;rintro e w3 ⟨rfl,hb⟩;have bO:=(cm _ w2).alloc Ln (C (jw [⟨7,false,az⟩,⟨8,false,az⟩]).toArray 55);have mJ:Hi (bn w3 (U (D w2.heap.size 0 Z)) [⟨7,false,az⟩,⟨8,false,az⟩]):=(ux [⟨7,false,az⟩,⟨8,false,az⟩] w2).below hb;have hc:=Tm bO hb;have bY:Hi (bn w3 (U (D w.heap.size 0 Z)) [⟨1,false,im⟩,⟨2,false,az⟩,⟨3,false,az⟩,⟨4,false,az⟩,⟨5,false,az⟩,⟨6,true,az⟩]):=bY.below hc;have HB:Hi (Bw w w3):=Tm HB hc;clear hb hc bO;go_wp2_with fail;refine(HP 10 _ _ _ _).mono ?_;rintro e w4 ⟨rfl,hb⟩;have bO:=(cm _ w3).alloc Ln (C (jw [⟨9,false,az⟩,⟨9,false,az⟩]).toArray 55);have nK:Hi (bn w4 (U (D w3.heap.size 0 Z)) [⟨9,false,az⟩,⟨9,false,az⟩]):=(ux [⟨9,false,az⟩,⟨9,false,az⟩] w3).below hb;have hc:=Tm bO hb;have bY:Hi (bn w4 (U (D w.heap.size 0 Z)) [⟨1,false,im⟩,⟨2,false,az⟩,⟨3,false,az⟩,⟨4,false,az⟩,⟨5,false,az⟩,⟨6,true,az⟩]):=bY.below hc;have mJ:Hi (bn w4 (U (D w2.heap.size 0 Z)) [⟨7,false,az⟩,⟨8,false,az⟩]):=mJ.below hc;have HB:Hi _:=Tm HB hc;clear hb hc bO;go_wp2_with fail;refine(HP 5 _ _ _ _).mono ?_;rintro e w5 ⟨rfl,hb⟩;have hc:=hb;have bY:Hi (bn w5 (U (D w.heap.size 0 Z)) [⟨1,false,im⟩,⟨2,false,az⟩,⟨3,false,az⟩,⟨4,false,az⟩,⟨5,false,az⟩,⟨6,true,az⟩]):=bY.below hc;have mJ:Hi (bn w5 (U (D w2.heap.size 0 Z)) [⟨7,false,az⟩,⟨8,false,az⟩]):=mJ.below hc;have nK:Hi (bn w5 (U (D w3.heap.size 0 Z)) [⟨9,false,az⟩,⟨9,false,az⟩]):=nK.below hc;have HB:Hi (Bw w w5):=Tm HB hc;clear hb hc;go_wp2_with fail;refine(HP 8 _ _ _ _).mono ?_;rintro e w6 ⟨rfl,hb⟩;have bO:=(cm _ w5).alloc Ln (C (jw [⟨10,false,az⟩]).toArray 55);have qQ:Hi (bn w6 (U (D w5.heap.size 0 Z)) [⟨10,false,az⟩]):=(ux [⟨10,false,az⟩] w5).below hb;have hc:=Tm bO hb;have bY:Hi (bn w6 (U (D w.heap.size 0 Z)) [⟨1,false,im⟩,⟨2,false,az⟩,⟨3,false,az⟩,⟨4,false,az⟩,⟨5,false,az⟩,⟨6,true,az⟩]):=bY.below hc;have mJ:Hi (bn w6 (U (D w2.heap.size 0 Z)) [⟨7,false,az⟩,⟨8,false,az⟩]):=mJ.below hc;have nK:Hi (bn w6 (U (D w3.heap.size 0 Z)) [⟨9,false,az⟩,⟨9,false,az⟩]):=nK.below hc;have HB:Hi (Bw w w6):=Tm HB hc;clear hb hc bO;go_wp2_with fail;refine(HP 7 _ _ _ _).mono ?_;rintro e w7 ⟨rfl,hb⟩;have hc:=hb;have bY:Hi (bn w7 (U (D w.heap.size 0 Z)) [⟨1,false,im⟩,⟨2,false,az⟩,⟨3,false,az⟩,⟨4,false,az⟩,⟨5,false,az⟩,⟨6,true,az⟩]):=bY.below hc;have mJ:Hi (bn w7 (U (D w2.heap.size 0 Z)) [⟨7,false,az⟩,⟨8,false,az⟩]):=mJ.below hc;have nK:Hi (bn w7 (U (D w3.heap.size 0 Z)) [⟨9,false,az⟩,⟨9,false,az⟩]):=nK.below hc;have qQ:Hi (bn w7 (U (D w5.heap.size 0 Z)) [⟨10,false,az⟩]):=qQ.below hc;have HB:Hi (Bw w w7):=Tm HB hc;clear hb hc;go_wp2_with fail;refine(HP 9 _ _ _ _).mono ?_;rintro e w8 ⟨rfl,hb⟩;have hc:=hb;have bY:Hi (bn w8 (U (D w.heap.size 0 Z)) [⟨1,false,im⟩,⟨2,false,az⟩,⟨3,false,az⟩,⟨4,false,az⟩,⟨5,false,az⟩,⟨6,true,az⟩]):=bY.below hc;have mJ:Hi (bn w8 (U (D w2.heap.size 0 Z)) [⟨7,false,az⟩,⟨8,false,az⟩]):=mJ.below hc;have nK:Hi (bn w8 (U (D w3.heap.size 0 Z)) [⟨9,false,az⟩,⟨9,false,az⟩]):=nK.below hc;have qQ:Hi (bn w8 (U (D w5.heap.size 0 Z)) [⟨10,false,az⟩]):=qQ.below hc;have HB:Hi (Bw w w8):=Tm HB hc;clear hb hc;go_wp2_with fail;refine(HP 10 _ _ _ _).mono ?_;rintro e w9 ⟨rfl,hb⟩;have bO:=(cm _ w8).alloc Ln (C (jw [⟨11,false,az⟩,⟨12,false,jf⟩,⟨13,false,az⟩]).toArray 55);have BI:Hi (bn w9 (U (D w8.heap.size 0 Z)) [⟨11,false,az⟩,⟨12,false,jf⟩,⟨13,false,az⟩]):=(ux [⟨11,false,az⟩,⟨12,false,jf⟩,⟨13,false,az⟩] w8).below hb;have hc:=Tm bO hb;have bY:Hi (bn w9 (U (D w.heap.size 0 Z)) [⟨1,false,im⟩,⟨2,false,az⟩,⟨3,false,az⟩,⟨4,false,az⟩,⟨5,false,az⟩,⟨6,true,az⟩]):=bY.below hc;have mJ:Hi (bn w9 (U (D w2.heap.size 0 Z)) [⟨7,false,az⟩,⟨8,false,az⟩]):=mJ.below hc;have nK:Hi (bn w9 (U (D w3.heap.size 0 Z)) [⟨9,false,az⟩,⟨9,false,az⟩]):=nK.below hc;have qQ:Hi (bn w9 (U (D w5.heap.size 0 Z)) [⟨10,false,az⟩]):=qQ.below hc;have HB:Hi (Bw w w9):=Tm HB hc;clear hb hc bO;go_wp2_with fail;refine(HP 4 _ _ _ _).mono ?_;rintro e lF ⟨rfl,hb⟩;have hc:=hb;have bY:Hi (bn lF (U (D w.heap.size 0 Z)) [⟨1,false,im⟩,⟨2,false,az⟩,⟨3,false,az⟩,⟨4,false,az⟩,⟨5,false,az⟩,⟨6,true,az⟩]):=bY.below hc;have mJ:Hi (bn lF (U (D w2.heap.size 0 Z)) [⟨7,false,az⟩,⟨8,false,az⟩]):=mJ.below hc;have nK:Hi (bn lF (U (D w3.heap.size 0 Z)) [⟨9,false,az⟩,⟨9,false,az⟩]):=nK.below hc;have qQ:Hi (bn lF (U (D w5.heap.size 0 Z)) [⟨10,false,az⟩]):=qQ.below hc;have BI:Hi (bn lF (U (D w8.heap.size 0 Z)) [⟨11,false,az⟩,⟨12,false,jf⟩,⟨13,false,az⟩]):=BI.below hc;have HB:Hi _:=Tm HB hc;clear hb hc;go_wp2_with fail;refine(HP 1 _ _ _ _).mono ?_;rintro e qL ⟨rfl,hb⟩;have hc:=hb;have bY:Hi (bn qL (U (D w.heap.size 0 Z)) [⟨1,false,im⟩,⟨2,false,az⟩,⟨3,false,az⟩,⟨4,false,az⟩,⟨5,false,az⟩,⟨6,true,az⟩]):=bY.below hc;have mJ:Hi (bn qL (U (D w2.heap.size 0 Z)) [⟨7,false,az⟩,⟨8,false,az⟩]):=mJ.below hc;have nK:Hi (bn qL (U (D w3.heap.size 0 Z)) [⟨9,false,az⟩,⟨9,false,az⟩]):=nK.below hc;have qQ:Hi (bn qL (U (D w5.heap.size 0 Z)) [⟨10,false,az⟩]):=qQ.below hc;have BI:Hi (bn qL (U (D w8.heap.size 0 Z)) [⟨11,false,az⟩,⟨12,false,jf⟩,⟨13,false,az⟩]):=BI.below hc;have HB:Hi _:=Tm HB hc;clear hb hc;go_wp2_with fail;refine(HP 6 _ _ _ _).mono ?_;rintro e lP ⟨rfl,hb⟩;have hc:=hb;have bY:Hi (bn lP (U (D w.heap.size 0 Z)) [⟨1,false,im⟩,⟨2,false,az⟩,⟨3,false,az⟩,⟨4,false,az⟩,⟨5,false,az⟩,⟨6,true,az⟩]):=bY.below hc;have mJ:Hi (bn lP (U (D w2.heap.size 0 Z)) [⟨7,false,az⟩,⟨8,false,az⟩]):=mJ.below hc;have nK:Hi (bn lP (U (D w3.heap.size 0 Z)) [⟨9,false,az⟩,⟨9,false,az⟩]):=nK.below hc;have qQ:Hi (bn lP (U (D w5.heap.size 0 Z)) [⟨10,false,az⟩]):=qQ.below hc;have BI:Hi (bn lP (U (D w8.heap.size 0 Z)) [⟨11,false,az⟩,⟨12,false,jf⟩,⟨13,false,az⟩]):=BI.below hc;have HB:Hi _:=Tm HB hc;clear hb hc;go_wp2;go_ret;exact⟨_,X,Gc [(⟨10, -1,0,[⟨1,false,im⟩,⟨2,false,az⟩,⟨3,false,az⟩,⟨4,false,az⟩,⟨5,false,az⟩,⟨6,true,az⟩]⟩,U (D w.heap.size 0 Z),6),(⟨2,0,1,[]⟩,Z,0),(⟨2, -1,0,[]⟩,Z,0),(⟨13, -1,0,[⟨7,false,az⟩,⟨8,false,az⟩]⟩,U (D w2.heap.size 0 Z),2),(⟨10, -1,0,[⟨9,false,az⟩,⟨9,false,az⟩]⟩,U (D w3.heap.size 0 Z),2),(⟨5, -1,0,[]⟩,Z,0),(⟨11,3,1,[⟨10,false,az⟩]⟩,U (D w5.heap.size 0 Z),1),(⟨8, -1,0,[]⟩,Z,0),(⟨7, -1,0,[]⟩,Z,0),(⟨9, -1,0,[]⟩,Z,0),(⟨10, -1,0,[⟨11,false,az⟩,⟨12,false,jf⟩,⟨13,false,az⟩]⟩,U (D w8.heap.size 0 Z),3),(⟨4, -1,0,[]⟩,Z,0),(⟨1, -1,0,[]⟩,Z,0),(⟨6, -1,0,[]⟩,Z,0)] lP (iz Ln Dc bY (iz Ln Dc (fun j hj=>Ab hj (dh _)) (iz Ln Dc (fun j hj=>Ab hj (dh _)) (iz Ln Dc mJ (iz Ln Dc nK (iz Ln Dc (fun j hj=>Ab hj (dh _)) (iz Ln Dc qQ (iz Ln Dc (fun j hj=>Ab hj (dh _)) (iz Ln Dc (fun j hj=>Ab hj (dh _)) (iz Ln Dc (fun j hj=>Ab hj (dh _)) (iz Ln Dc BI (iz Ln Dc (fun j hj=>Ab hj (dh _)) (iz Ln Dc (fun j hj=>Ab hj (dh _)) (iz Ln Dc (fun j hj=>Ab hj (dh _)) Gb)))))))))))))),HB.alloc HB.size _⟩
theorem Ba{a b:Q}(h:a≠b):(a.toList !=b.toList)=true:=by unfold bne;rw[rn h];rfl
theorem agy{a b:Ls du}(hl:a.length=b.length)(h:∀i,i<a.length->a.getD i fh=b.getD i fh):a=b:=by
 apply Ll hl;intro i h1 h2;have:=h i h1;rwa[dy,dy,dz h1,dz h2]at this
def Alike(v1 v2:Int)(s1 n1 f1 t1 k1 s2 n2 f2 t2 k2:Q):Prop:=v1=v2/\s1=s2/\n1=n2/\f1=f2/\t1=t2/\k1=k2
theorem Wm(v1 v2:Int)(s1 n1 f1 t1 k1 s2 n2 f2 t2 k2:Q)(m1 m2:Ls du)(a1 a2:Oo Ad)(c1 c2:Nat)(w:M)(h1:il w a1 m1)(h2:il w a2 m2)(z1:m1.length<=1000000)(z2:m2.length<=1000000):Cs prog 50 #[dm v1 s1 n1 f1 t1 k1 (S a1 m1.length c1),dm v2 s2 n2 f2 t2 k2 (S a2 m2.length c2)] w fun e w'=>dw (Alike v1 v2 s1 n1 f1 t1 k1 s2 n2 f2 t2 k2/\m1=m2) w e w':=by
 have aD:∀x y,Hi (Bw w ((w.alloc x).alloc y)):=fun x y=>(Be).alloc Sq _;have H1:∀x y,Hi (il ((w.alloc x).alloc y) a1 m1):=fun x y=>h1.below (aD x y).out;have H2:∀x y,Hi (il ((w.alloc x).alloc y) a2 m2):=fun x y=>h2.below (aD x y).out;clear h1 h2;unfold dm;by_cases e1:v1=v2
 ·subst e1;by_cases e2:s1=s2
  ·subst e2;by_cases e3:n1=n2
   ·subst e3;by_cases e4:f1=f2
    ·subst e4;by_cases e5:t1=t2
     ·subst e5;by_cases e6:k1=k2
      ·subst e6;by_cases e7:m1.length=m2.length
       ·have e7':(m1.length:Int)=m2.length:=O;go_enter func50,ntmps50;go_wp2_with fail;generalize hW:(w.alloc _).alloc _=W;(have hb2:W.heap[w.heap.size+1]? =U (C #[I J v1,Y s1,Y n1,Y f1,Y t1,Y k1,S a2 m2.length c2] 68 (0,0)):=by rw[<-hW];simpa using bl (w.alloc _) _);(have hb1:W.heap[w.heap.size]? =U (C #[I J v1,Y s1,Y n1,Y f1,Y t1,Y k1,S a1 m2.length c1] 68 (0,0)):=by rw[<-hW];exact(nr _ _ _ Sq).trans (bl w _));(have G1:Hi (il W a1 m1):=by rw[<-hW];exact H1 _ _);(have G2:Hi (il W a2 m2):=by rw[<-hW];exact H2 _ _);(have GB:Hi (Bw w W):=by rw[<-hW];exact aD _ _);(have d1:W.cell? (D w.heap.size 6 Z)=U (S a1 m2.length c1):=by simp[Wc,hb1]);(have d2:W.cell? (D (w.heap.size+1) 6 Z)=U (S a2 m2.length c2):=by simp[Wc,hb2]);clear hW hb1 hb2 H1 H2 aD;go_loopw [5] (fun i wr=>∃k:Nat,k<=m1.length/\i=I J k/\(∃q,wr=W.drewN q)/\∀j,j<k->m1.getD j fh=m2.getD j fh) (fun i _=>m1.length-(Io i).toNat);(case atStart=>exact⟨0,Lz,X,⟨0,X⟩,fun j hj=>Ab hj (dh _)⟩);obtain⟨k,hk,rfl,⟨q,rfl⟩,(HE:Hi _)⟩:=hrel;by_cases aA:k<m1.length
        ·obtain⟨g1,o1,rfl,x1,x2,x3⟩:=G1 k aA;obtain⟨g2,o2,rfl,y1,y2,y3⟩:=G2 k O;have yL:(k:Int)<m2.length:=O;obtain⟨x,hx⟩:∃x,m1.getD k fh=x:=Ey;obtain⟨y,hy⟩:∃y,m2.getD k fh=y:=Ey;have HX:Hi _:=hx;have HY:Hi _:=hy;rw[hx]at x1 x2 x3;rw[hy]at y1 y2 y3;clear hx hy;obtain⟨xk,xm,xb⟩:=x;obtain⟨yk,ym,yb⟩:=y;simp only at x1 x2 x3 y1 y2 y3;by_cases q1:xk=yk
         ·subst q1;by_cases q2:xm=ym
          ·subst q2;by_cases q3:xb=yb
           ·subst q3;go_wp2;go_quiet (fail);go_wp2;go_roundw
            case rel=>exact⟨k+1,O,Gn,⟨_,X⟩,fun j hj=>by
             by_cases AE:j<k;(·exact HE j AE);obtain rfl:j=k:=O;rw[HX,HY.out]⟩
            exact Ms
           have b6:=rn q3;have zK:=Ba q3;go_wp2;go_quiet (fail);go_wp2;go_ret;exact cg (fun z=>q3 (by have e:=HX.out;rw[z.2,HY.out]at e;injection e with _ _ e;exact e.symm)) (Go.below_drewN (Go.below_drewN GB.out _) _)
          (have b6:(xm==ym)=false:=by simp[q2]);(have zK:(xm !=ym)=true:=by simp[q2]);go_wp2;go_quiet (fail);go_wp2;go_ret;exact cg (fun z=>q2 (by have e:=HX.out;rw[z.2,HY.out]at e;injection e with _ e _;exact e.symm)) (Go.below_drewN (Go.below_drewN GB.out _) _)
         have b6:=rn q1;have zK:=Ba q1;go_wp2;go_quiet (fail);go_wp2;go_ret;exact cg (fun z=>q1 (by have e:=HX.out;rw[z.2,HY.out]at e;injection e with e _ _;exact e.symm)) (Go.below_drewN (Go.below_drewN GB.out _) _)
        have aN:¬(k:Int)<m2.length:=O;have HL:Hi (k=m1.length/\m1.length=m2.length):=⟨O,e7⟩;go_wp2;go_ret;exact ia ⟨⟨X,X,X,X,X,X⟩,agy HL.2 (by rw[<-HL.1];exact HE)⟩ (Go.below_drewN GB _)
       have e7':¬(m1.length:Int)=m2.length:=O;have e7b:((m1.length:Int)==m2.length)=false:=So;clear H1 H2;go_enter func50,ntmps50;go_wp2;go_ret;exact cg (fun q=>e7 (by rw[q.2])) (aD _ _).out
      have b6:=rn e6;have zK:=Ba e6;clear H1 H2;go_enter func50,ntmps50;go_wp2;go_ret;exact cg (fun q=>e6 q.1.2.2.2.2.2) (aD _ _).out
     have b6:=rn e5;have zK:=Ba e5;clear H1 H2;go_enter func50,ntmps50;go_wp2;go_ret;exact cg (fun q=>e5 q.1.2.2.2.2.1) (aD _ _).out
    have b6:=rn e4;have zK:=Ba e4;clear H1 H2;go_enter func50,ntmps50;go_wp2;go_ret;exact cg (fun q=>e4 q.1.2.2.2.1) (aD _ _).out
   have b6:=rn e3;have zK:=Ba e3;clear H1 H2;go_enter func50,ntmps50;go_wp2;go_ret;exact cg (fun q=>e3 q.1.2.2.1) (aD _ _).out
  have b6:=rn e2;have zK:=Ba e2;clear H1 H2;go_enter func50,ntmps50;go_wp2;go_ret;exact cg (fun q=>e2 q.1.2.1) (aD _ _).out
 have b6:(v1==v2)=false:=by simp[e1]
 have zK:(v1 !=v2)=true:=by simp[e1]
 clear H1 H2;go_enter func50,ntmps50;go_wp2;go_ret;exact cg (fun q=>e1 q.1.1) (aD _ _).out
end
section
open Go.Proofs.Tryz
open Go.RowKit Go.Deep Go.ChangeShapes Go.WideShapes
theorem Nq{ah:Type}{d:DataW ah}{l:Ls (DataW ah)}(h:d∈l):Rows.uptoBulk d<=Rows.uptoBulkAll l:=by
 induction l with
 |nil=>cases h
 |cons x r ih=>
  simp only[Rows.uptoBulkAll]
  rcases Lo.1 h with rfl|e
  ·omega
  ·have:=ih e;omega
theorem To{ah:Type}{c:Nat}{l:Ls (DataW ah)}(h:∀d∈l,c<=Rows.uptoBulk d):l.length*c<=Rows.uptoBulkAll l:=by
 induction l with
 |nil=>simp[Rows.uptoBulkAll]
 |cons x r ih=>
  have h1:=h x Sq
  have h2:=ih fun d hd=>h d (by simp[hd])
  simp only[Rows.uptoBulkAll,fu,Nat.succ_mul]
  omega
theorem zw{ah:Type}(s:Q):Rows.uptoBulk (DataW.lit (H:=ah) (.string s.data.toList))=s.size+1:=by simp only[Rows.uptoBulk];rfl
theorem Sg:prog.cellsOf 73=3:=Kr
theorem aa2:prog.cellsOf 66=1:=Kr
theorem Se:prog.cellsOf 68=7:=Kr
section
variable{ah:Type}{jM:TypeId×Vv->ah}{w:M}{base:Nat}{sp:Nat->Bool}{held:Bool}
theorem agS{gO:Nat}{cs:Ls Vv}{x:DataW ah×Ls MemPlace}(h:DataW.trod jM prog w base sp held gO 73 cs=U x):∃m:du,cs=[Y m.kind,Bo m.must,Y m.body]/\m.kind.size<=Rows.uptoBulk x.1/\m.body.size<=Rows.uptoBulk x.1/\3<=Rows.uptoBulk x.1:=by
 obtain⟨xs,n,_,hx,hl,bP,cG⟩:=Eg underlying73 h;rw[Sg]at hl
 match cs,hl,xs,bP,hx,cG with
 | [c0,c1,c2],_,[x0,x1,x2],_,hx,cG=>
   have k0:=cG 0 _ X
   have k1:=cG 1 _ X
   have k2:=cG 2 _ X
   obtain⟨y0,e0,f0,_⟩:=xv underlying9 k0
   obtain⟨y1,e1,f1⟩:=DataW.trod_bool underlying4 k1
   obtain⟨y2,e2,f2,_⟩:=xv underlying9 k2
   simp[Sd,Fb]at e0 e1 e2
   subst e0 e1 e2
   have b0:Rows.uptoBulk x0.1=y0.size+1:=by rw[f0];exact zw y0
   have b2:Rows.uptoBulk x2.1=y2.size+1:=by rw[f2];exact zw y2
   have hb:Rows.uptoBulk x.1=Rows.uptoBulk x0.1+(Rows.uptoBulk x1.1+(Rows.uptoBulk x2.1+0))+1:=by rw[hx];simp only[Rows.uptoBulk,Rows.uptoBulkAll,uI,zl]
   exact⟨⟨y0,y1,y2⟩,X,by show y0.size<=_;omega,by show y2.size<=_;omega,O⟩
theorem agT{gO:Nat}{cs:Ls Vv}{x:DataW ah×Ls MemPlace}(h:DataW.trod jM prog w base sp held gO 66 cs=U x):∃(a:Oo Ad) (ms:Ls du) (c:Nat),cs=[S a ms.length c]/\ms.length<=c/\il w a ms/\ms.length*3<=Rows.uptoBulk x.1/\∀j,j<ms.length->(ms.getD j fh).kind.size<=Rows.uptoBulk x.1/\(ms.getD j fh).body.size<=Rows.uptoBulk x.1:=by
 rcases open_slice underlying66 h with⟨rfl,rfl⟩|⟨a,len,cap,m,n,af,Pl,rfl,hb,hl,hm,hmm,rfl,hx⟩;·exact⟨Z,[],0,X,Ln,fun j hj=>Ab hj (dh _),Sq,fun j hj=>Ab hj (dh _)⟩
 have EM:len<=m:=by rw[hmm];split<;>omega
 rw[Sg]at hx;have each:∀i,i<len->∃k:du,w.cell? (a.add (i*3))=U (Y k.kind)/\w.cell? (a.add (i*3+1))=U (Bo k.must)/\w.cell? (a.add (i*3+2))=U (Y k.body)/\k.kind.size<=Rows.uptoBulk (af i)/\k.body.size<=Rows.uptoBulk (af i)/\3<=Rows.uptoBulk (af i):=by intro i hi;obtain⟨LD,h1,h2⟩:=hx i O;obtain⟨k,rfl,g1,g2,g3⟩:=agS h2;obtain⟨_,_,eV⟩:=Ij h1;have e0:=eV 0 O;have e1:=eV 1 O;have e2:=eV 2 O;rw[add_add]at e0 e1 e2;exact⟨k,by simpa using e0,by simpa using e1,by simpa using e2,g1,g2,g3⟩
 obtain⟨K,hK⟩:= @choose_lt du ⟨fh⟩ _ _ each;have bP:((List.range len).map K).length=len:=Sq;have hD:∀i,i<len->Rows.uptoBulk (af i)<=Rows.uptoBulkAll ((List.range len).map af):=fun i hi=>Nq (List.mem_map.2 ⟨i,List.mem_range.2 hi,X⟩);have hS:Rows.uptoBulkAll ((List.range len).map af)<=Rows.uptoBulk (.slice ((List.range len).map af) ((List.range (m-len)).map fun j=>af (len+j))):=by simp only[Rows.uptoBulk];omega
 refine⟨U a,(List.range len).map K,cap,by rw[bP],by rw[bP];exact hl,fun j hj=>?_,?_,fun j hj=>?_⟩;·rw[bP]at hj;have h0:=(hK 0 O).1;have ea:a=(D a.block a.off Z):=Gv (w:=w) (a:=a) (v:=Y (K 0).kind) (by simpa [Addr.add]using h0);obtain⟨q0,q1,q2,_⟩:=hK j hj;rw[ea,Gk]at q0 q1 q2;rw[Fu K fh hj];exact⟨a.block,a.off,kr U ea,q0,by rw[<-pf]at q1;exact q1,by rw[<-pf]at q2;exact q2⟩
 ·rw[bP];have h2:=To (c:=3) (l:=(List.range len).map af) fun d hd=>by obtain⟨i,hi,rfl⟩:=List.mem_map.1 hd;exact(hK i (List.mem_range.1 hi)).2.2.2.2.2
  rw[ou,Rn]at h2;exact fw h2 hS
 rw[bP]at hj;rw[Fu K fh hj];obtain⟨_,_,_,g1,g2,_⟩:=hK j hj;exact⟨fw g1 (fw (hD j hj) hS),fw g2 (fw (hD j hj) hS)⟩
structure Aq where
 v:Int
 s:Q
 n:Q
 f:Q
 t:Q
 k:Q
 ms:Ls du
 ma:Oo Ad
 mc:Nat
def ac0:Aq:=⟨0,az,az,az,az,az,[],Z,0⟩
def Aq.Fit(c:Aq)(w:M)(N:Nat):Prop:=c.s.size<=N/\c.n.size<=N/\c.f.size<=N/\c.t.size<=N/\c.k.size<=N/\c.ms.length*3<=N/\(∀j,j<c.ms.length->(c.ms.getD j fh).kind.size<=N/\(c.ms.getD j fh).body.size<=N)/\il w c.ma c.ms/\c.ms.length<=c.mc
theorem Aq.Fit.le{c:Aq}{w:M}{N an:Nat}(h:c.Fit w N)(hN:N<=an):c.Fit w an:=by obtain⟨a1,a2,a3,a4,a5,a6,a7,a8,a9⟩:=h;exact⟨O,O,O,O,O,O,fun j hj=>⟨fw (a7 j hj).1 hN,fw (a7 j hj).2 hN⟩,a8,a9⟩
theorem agP{gO:Nat}{cs:Ls Vv}{x:DataW ah×Ls MemPlace}(h:DataW.trod jM prog w base sp held gO 68 cs=U x):∃c:Aq,cs=[I J c.v,Y c.s,Y c.n,Y c.f,Y c.t,Y c.k,S c.ma c.ms.length c.mc]/\c.Fit w (Rows.uptoBulk x.1):=by
 obtain⟨xs,n,_,hx,hl,bP,cG⟩:=Eg underlying68 h;rw[Se]at hl
 match cs,hl,xs,bP,hx,cG with
 | [c0,c1,c2,c3,c4,c5,c6],_,[x0,x1,x2,x3,x4,x5,x6],_,hx,cG=>
   have k0:=cG 0 _ X
   have k1:=cG 1 _ X
   have k2:=cG 2 _ X
   have k3:=cG 3 _ X
   have k4:=cG 4 _ X
   have k5:=cG 5 _ X
   have k6:=cG 6 _ X
   obtain⟨y0,e0,_⟩:=xu underlying3 k0
   obtain⟨y1,e1,f1,_⟩:=xv underlying9 k1
   obtain⟨y2,e2,f2,_⟩:=xv underlying9 k2
   obtain⟨y3,e3,f3,_⟩:=xv underlying9 k3
   obtain⟨y4,e4,f4,_⟩:=xv underlying9 k4
   obtain⟨y5,e5,f5,_⟩:=xv underlying9 k5
   obtain⟨ma,ms,mc,e6,g1,g2,g3,g4⟩:=agT k6
   simp[Fa,Fb,aa2]at e0 e1 e2 e3 e4 e5 e6
   subst e0 e1 e2 e3 e4 e5 e6
   have b1:Rows.uptoBulk x1.1=y1.size+1:=by rw[f1];exact zw y1
   have b2:Rows.uptoBulk x2.1=y2.size+1:=by rw[f2];exact zw y2
   have b3:Rows.uptoBulk x3.1=y3.size+1:=by rw[f3];exact zw y3
   have b4:Rows.uptoBulk x4.1=y4.size+1:=by rw[f4];exact zw y4
   have b5:Rows.uptoBulk x5.1=y5.size+1:=by rw[f5];exact zw y5
   have hb:Rows.uptoBulk x.1=Rows.uptoBulk x0.1+(Rows.uptoBulk x1.1+(Rows.uptoBulk x2.1+(Rows.uptoBulk x3.1+(Rows.uptoBulk x4.1+(Rows.uptoBulk x5.1+(Rows.uptoBulk x6.1+0))))))+1:=by rw[hx];simp only[Rows.uptoBulk,Rows.uptoBulkAll,uI,zl]
   refine⟨⟨y0,y1,y2,y3,y4,y5,ms,ma,mc⟩,X,by show y1.size<=_;omega,by show y2.size<=_;omega,by show y3.size<=_;omega,by show y4.size<=_;omega,by show y5.size<=_;omega,by show ms.length*3<=_;omega,fun j hj=>?_,g2,g1⟩
   have:=g4 j hj
   exact⟨by show(ms.getD j fh).kind.size<=_;omega,by show(ms.getD j fh).body.size<=_;omega⟩
end
end
