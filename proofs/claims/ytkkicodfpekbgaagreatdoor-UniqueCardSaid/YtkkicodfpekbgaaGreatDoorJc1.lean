/-
Several texts in one.
-/
import Derived.Test.YtkkicodfpekbgaaGreatDoorJa7
import Derived.Test.YtkkicodfpekbgaaGreatDoorJa8
import Derived.Test.YtkkicodfpekbgaaGreatDoorJa11
import Derived.Test.YtkkicodfpekbgaaGreatDoorJc0
namespace Go.Proofs.YtkkicodfpekbgaaGreatDoor
set_option linter.unusedSimpArgs false
set_option linter.unusedVariables false
set_option maxRecDepth 100000
set_option maxHeartbeats 8000000
def VB(B:Nat)(v:Vl):Prop:=v.text.size≤B∧v.kids≤B
theorem choiceF_vb{E:Env}{rec:Rec}{B:Nat}(hB:1≤B)(hr:∀i x y dp vs z,rec i x y dp=some (.ok (vs,z))→∀v∈vs,VB B v){h:Hd}{x tz:Nat}{dp:Int}:∀(ks:List Kd) (j:Nat) (vs:List Vl) (z:Nat),choiceF E rec h x tz dp ks j=some (.ok (vs,z))→∀v∈vs,VB B v
 | [],_,_,_,e=>by cases e
 |k::ks,j,vs,z,e=>by
  unfold choiceF at e
  split at e
  ·obtain⟨us,z',h1,h2⟩:=andThen_ok e
   cases h2
   intro v hv
   rcases List.mem_cons.1 hv with rfl|hv
   ·exact⟨Nat.zero_le _,by show(1:Int)≤B;omega⟩
   ·exact hr _ _ _ _ _ _ h1 v hv
  ·exact choiceF_vb hB hr ks (j+1) vs z e
theorem seqF_vb{E:Env}{rec:Rec}{B:Nat}(hr:∀i x y dp vs z,rec i x y dp=some (.ok (vs,z))→∀v∈vs,VB B v){tz:Nat}{dp:Int}:∀(ks:List Kd) (x:Nat) (acc vs:List Vl) (z:Nat),(∀k∈ks,k.dflt.size≠0→VB B (E.dv k))→(∀v∈acc,VB B v)→seqF E rec tz dp ks x acc=some (.ok (vs,z))→∀v∈vs,VB B v
 | [],x,acc,vs,z,_,ha,e=>by
   unfold seqF at e
   split at e
   ·cases e
   ·cases e;exact ha
 |k::ks,x,acc,vs,z,hk,ha,e=>by
  have hk':∀k∈ks,k.dflt.size≠0→VB B (E.dv k):=fun k h=>hk k (by simp[h])
  unfold seqF at e
  split at e
  ·cases e
  split at e
  ·obtain⟨us,z',h1,h2⟩:=andThen_ok e
   split at h2
   ·cases h2
   ·exact seqF_vb hr ks z' _ vs z hk' (fun v hv=>by
     rcases List.mem_append.1 hv with h|h
     ·exact ha v h
     ·exact hr _ _ _ _ _ _ h1 v h) h2
  split at e
  ·exact seqF_vb hr ks x _ vs z hk' (fun v hv=>by
    rcases List.mem_append.1 hv with h|h
    ·exact ha v h
    ·obtain rfl:=List.mem_singleton.1 h;exact⟨Nat.zero_le _,Int.natCast_nonneg _⟩) e
  split at e
  ·rename_i hd
   exact seqF_vb hr ks x _ vs z hk' (fun v hv=>by
    rcases List.mem_append.1 hv with h|h
    ·exact ha v h
    ·obtain rfl:=List.mem_singleton.1 h;exact hk k (by simp) hd) e
  split at e<;>cases e
theorem manyF_vb{E:Env}{rec:Rec}{B:Nat}(hr:∀i x y dp vs z,rec i x y dp=some (.ok (vs,z))→∀v∈vs,VB B v){set:Bool}{i tz:Nat}{dp:Int}:∀(m x:Nat) (last:ByteArray) (j:Nat) (acc:List Vl) (j':Nat) (vs:List Vl),(∀v∈acc,VB B v)→manyF E rec set i tz dp m x last j acc=some (.ok (j',vs))→(∀v∈vs,VB B v)∧j'≤j+m
 |0,_,_,_,_,_,_,_,e=>by cases e
 |m+1,x,last,j,acc,j',vs,ha,e=>by
  unfold manyF at e
  split at e
  ·obtain⟨us,z',h1,h2⟩:=andThen_ok e
   split at h2
   ·cases h2
   ·have:=manyF_vb hr m z' _ _ _ _ _ (fun v hv=>by
     rcases List.mem_append.1 hv with h|h
     ·exact ha v h
     ·exact hr _ _ _ _ _ _ h1 v h) h2
    exact⟨this.1,by omega⟩
  ·cases e;exact⟨ha,by omega⟩
theorem bareF_vb{E:Env}{rec:Rec}{B:Nat}(hB:8≤B)(hdB:E.d.size≤B)(hr:∀i x y dp vs z,rec i x y dp=some (.ok (vs,z))→∀v∈vs,VB B v){m:Nat}(hm:m≤B){n:Nd}(hk8:n.kids.length≤8)(hdv:∀k∈n.kids,k.dflt.size≠0→VB B (E.dv k)){cl nu:Int}{h:Hd}{x tz:Nat}{dp:Int}{vs:List Vl}{z:Nat}(e:bareF E rec m n cl nu h x tz dp=some (.ok (vs,z))):∀v∈vs,VB B v:=by
 have hex:∀a b,(E.d.extract a b).size≤B:=fun a b=>by rw[ex_size];omega
 unfold bareF at e
 split at e
 ·exact choiceF_vb (by omega) hr _ _ _ _ e
 split at e
 ·cases e
 split at e
 ·cases e
 split at e
 ·cases e
  intro v hv
  obtain rfl:=List.mem_singleton.1 hv
  exact⟨hex _ _,Int.natCast_nonneg _⟩
 split at e
 ·split at e
  ·cases e
  ·cases e
  ·rename_i us z' hs
   cases e
   intro v hv
   rcases List.mem_cons.1 hv with rfl|hv
   ·exact⟨Nat.zero_le _,by show((n.kids.length:Nat):Int)≤B;omega⟩
   ·exact seqF_vb hr _ _ _ _ _ hdv (fun v h=>by cases h) hs v hv
 split at e
 ·split at e
  ·cases e
  ·cases e
  ·rename_i j us hs
   cases e
   have:=manyF_vb hr _ _ _ _ _ _ _ (fun v h=>by cases h) hs
   intro v hv
   rcases List.mem_cons.1 hv with rfl|hv
   ·exact⟨Nat.zero_le _,by show((j:Nat):Int)≤B;omega⟩
   ·exact this.1 v hv
 split at e
 ·cases e
  intro v hv
  obtain rfl:=List.mem_singleton.1 hv
  exact⟨hex _ _,Int.natCast_nonneg _⟩
 ·cases e
theorem rdF_vb{E:Env}{B:Nat}(hB:8≤B)(hdB:E.d.size≤B)(hk8:∀i,(nd E.s i).kids.length≤8)(hdv:∀i,∀k∈(nd E.s i).kids,k.dflt.size≠0→VB B (E.dv k)):∀f,f≤B→∀i x y dp vs z,rdF E f i x y dp=some (.ok (vs,z))→∀v∈vs,VB B v
 |0,_,_,_,_,_,_,_,e=>by cases e
 |f+1,hf,i,x,y,dp,vs,z,e=>by
  have ih:=rdF_vb hB hdB hk8 hdv f (by omega)
  rw[rdF]at e
  split at e
  ·cases e
  unfold valF at e
  split at e
  ·exact bareF_vb hB hdB ih (by omega) (hk8 i) (hdv i) e
  split at e
  ·exact bareF_vb hB hdB ih (by omega) (hk8 i) (hdv i) e
  split at e
  ·cases e
  split at e
  ·cases e
  split at e
  ·cases e
  obtain⟨us,z',h1,h2⟩:=andThen_ok e
  split at h2
  ·cases h2
  ·cases h2
   exact bareF_vb hB hdB ih (by omega) (hk8 i) (hdv i) h1
def PL(y:Nat)(o:Out):Prop:=∀e q,o= .error (e,q)→0≤q∧q≤y
theorem choiceF_pl{E:Env}{rec:Rec}{h:Hd}{x tz Y:Nat}{dp:Int}(hxt:x≤Y)(hr:∀i o,rec i x tz dp=some o→PL Y o):∀(ks:List Kd) (j:Nat) (o:Out),choiceF E rec h x tz dp ks j=some o→PL Y o
 | [],_,_,e=>by cases e;intro e q h;cases h;exact⟨by omega,by omega⟩
 |k::ks,j,o,e=>by
  unfold choiceF at e
  split at e
  ·rcases andThen_cases e with⟨u,h1,rfl⟩|⟨us,z',h1,h2⟩
   ·intro e q h;exact hr _ _ h1 e q h
   ·cases h2;intro e q h;cases h
  ·exact choiceF_pl hxt hr ks (j+1) o e
theorem seqF_pl{E:Env}{rec:Rec}{tz Y:Nat}{dp:Int}(hY:tz≤Y)(hr:∀i x o,x≤tz→rec i x tz dp=some o→PL Y o∧∀vs z,o= .ok (vs,z)→z≤tz):∀(ks:List Kd) (x:Nat) (acc:List Vl) (o:Out),x≤tz→seqF E rec tz dp ks x acc=some o→PL Y o
 | [],x,acc,o,hx,e=>by
   unfold seqF at e
   split at e
   ·cases e;intro e q h;cases h;exact⟨by omega,by omega⟩
   ·cases e;intro e q h;cases h
 |k::ks,x,acc,o,hx,e=>by
  unfold seqF at e
  split at e
  ·cases e;intro e q h;cases h;exact⟨by omega,by omega⟩
  split at e
  ·rcases andThen_cases e with⟨u,h1,rfl⟩|⟨us,z',h1,h2⟩
   ·intro e q h;exact(hr _ _ _ hx h1).1 e q h
   ·have hz:=(hr _ _ _ hx h1).2 _ _ rfl
    split at h2
    ·cases h2;intro e q h;cases h;exact⟨by omega,by omega⟩
    ·exact seqF_pl hY hr ks z' _ o hz h2
  split at e
  ·exact seqF_pl hY hr ks x _ o hx e
  split at e
  ·exact seqF_pl hY hr ks x _ o hx e
  split at e<;> (cases e;intro e q h;cases h;exact⟨by omega,by omega⟩)
theorem manyF_pl{E:Env}{rec:Rec}{set:Bool}{i tz Y:Nat}{dp:Int}(hY:tz≤Y)(hr:∀x o,x≤tz→rec i x tz dp=some o→PL Y o∧∀vs z,o= .ok (vs,z)→z≤tz):∀(m x:Nat) (last:ByteArray) (j:Nat) (acc:List Vl) (o:Except (Int×Int) (Nat×List Vl)),x≤tz→manyF E rec set i tz dp m x last j acc=some o→∀e q,o= .error (e,q)→0≤q∧q≤Y
 |0,_,_,_,_,_,_,e=>by cases e
 |m+1,x,last,j,acc,o,hx,e=>by
  unfold manyF at e
  split at e
  ·rcases andThen_cases e with⟨u,h1,rfl⟩|⟨us,z',h1,h2⟩
   ·intro e q h;cases h;exact(hr _ _ hx h1).1 _ _ rfl
   ·have hz:=(hr _ _ hx h1).2 _ _ rfl
    split at h2
    ·cases h2;intro e q h;cases h;exact⟨by omega,by omega⟩
    ·exact manyF_pl hY hr m z' _ _ _ o hz h2
  ·cases e;intro e q h;cases h
theorem bareF_pl{E:Env}{rec:Rec}{m:Nat}{n:Nd}{cl nu:Int}{h:Hd}{x tz Y:Nat}{dp:Int}(hxt:x+h.s.toNat≤tz)(hY:tz≤Y)(hr:∀i x dp o,x≤tz→rec i x tz dp=some o→PL Y o∧∀vs z,o= .ok (vs,z)→z≤tz){o:Out}(e:bareF E rec m n cl nu h x tz dp=some o):PL Y o:=by
 have hx:∀e' q,(Except.error (e',q):Out)= .error (e',(x:Int))→0≤q∧q≤Y:=fun e' q h=>by cases h;exact⟨by omega,by omega⟩
 unfold bareF at e
 split at e
 ·exact choiceF_pl (by omega) (fun i o h=>(hr i x dp o (by omega) h).1) _ _ _ e
 split at e
 ·cases e;intro e q h;cases h;exact⟨by omega,by omega⟩
 split at e
 ·cases e;intro e q h;cases h;exact⟨by omega,by omega⟩
 split at e
 ·cases e;intro e q h;cases h
 split at e
 ·split at e
  ·cases e
  ·rename_i u hs
   cases e
   intro e q h;cases h
   exact seqF_pl hY (fun i x o hx h=>hr i x _ o hx h) _ _ _ _ hxt hs _ _ rfl
  ·cases e;intro e q h;cases h
 split at e
 ·split at e
  ·cases e
  ·rename_i u hs
   cases e
   intro e q h;cases h
   exact manyF_pl hY (fun x o hx h=>hr _ x _ o hx h) _ _ _ _ _ _ hxt hs _ _ rfl
  ·cases e;intro e q h;cases h
 split at e
 ·cases e;intro e q h;cases h
 ·cases e;intro e q h;cases h;exact⟨by omega,by omega⟩
theorem pl_err{y:Nat}{o:Out}{k q:Int}(h:some (Except.error (k,q))=some o)(hq:0≤q∧q≤y):PL y o:=fun e p he=>by
 rw[←Option.some.inj h]at he
 injection he with he
 injection he with _ he
 omega
theorem pl_ok{y:Nat}{o:Out}{u:List Vl×Nat}(h:some (Except.ok u)=some o):PL y o:=fun e p he=>by
 rw[←Option.some.inj h]at he
 cases he
theorem rdF_pl{E:Env}:∀f i x y dp o,x≤y→rdF E f i x y dp=some o→PL y o∧∀vs z,o= .ok (vs,z)→z≤y
 |0,_,_,_,_,_,_,e=>by cases e
 |f+1,i,x,y,dp,o,hx,e=>by
  refine⟨?_,fun vs z h=>by subst h;obtain⟨q1,q2⟩:=rdF_fin e;have:=fin_le q1;omega⟩
  rw[rdF]at e
  split at e
  ·exact pl_err e ⟨by omega,by omega⟩
  rename_i q0
  have hfl:=fin_le (Classical.not_not.1 q0)
  have ih:∀tz,tz≤y→∀i x dp o,x≤tz→rdF E f i x tz dp=some o→PL y o∧∀vs z,o= .ok (vs,z)→z≤tz:=fun tz ht i x dp o hx h=>by
   obtain⟨a,b⟩:=rdF_pl f i x tz dp o hx h
   exact⟨fun e q h=>by have:=a e q h;omega,b⟩
  unfold valF at e
  split at e
  ·exact bareF_pl hfl.2.1 hfl.2.2.1 (ih _ hfl.2.2.1) e
  split at e
  ·exact bareF_pl hfl.2.1 hfl.2.2.1 (ih _ hfl.2.2.1) e
  split at e
  ·exact pl_err e ⟨by omega,by omega⟩
  split at e
  ·exact pl_err e ⟨by omega,by omega⟩
  split at e
  ·exact pl_err e ⟨by omega,by omega⟩
  rename_i q1
  have hf1:=fin_le (Classical.not_not.1 q1)
  rcases andThen_cases e with⟨u,h1,rfl⟩|⟨us,z',h1,h2⟩
  ·exact bareF_pl hf1.2.1 (by omega) (ih _ (by omega)) h1
  ·split at h2
   ·exact pl_err h2 ⟨by omega,by omega⟩
   ·exact pl_ok h2
theorem strip_le:∀(fs:List (Int×Int×Bool)) (t u:ByteArray),strip fs t=some u→u.size≤t.size
 | [],t,u,h=>by cases h;exact Nat.le_refl _
 |f::fs,t,u,h=>by
  have:=strip_le fs _ _ (strip2.1 h).2
  rw[ex_size]at this
  omega
theorem nd_out{s:List Nd}{i:Nat}(h:¬i<s.length):(nd s i).kids=[]:=by
 unfold nd
 rw[List.getD_eq_getElem?_getD,List.getElem?_eq_none (by omega)]
 rfl
theorem vl_in{t:List Vl}{j:Nat}(hj:j<t.length):vl t j∈t:=by
 unfold vl
 rw[List.getD_eq_getElem?_getD,List.getElem?_eq_getElem hj]
 exact List.getElem_mem _
theorem uniq_math{s:List Nd}(hr:RightP s)(hok:SchOk s)(root:Nat)(hroot:root<s.length)(d:ByteArray):∃E v,DecV E s root d v∧
 ((∃k q,v= .error (k,q)∧k≠0∧0≤q∧q≤d.size)∨(∃vs F,v= .ok vs∧EncV F s root vs (.ok d)∧Sz vs∧(∀j,j<vs.length→(vl vs j).kids≤9223372036854775807)∧2≤d.size∧d.size≤4000)):=by
 obtain⟨E,v,h⟩:=decV_ex s root d
 refine⟨E,v,h,?_⟩
 have h0:RightP s∧(0:Int)≤root∧(root:Int)<s.length:=⟨hr,by omega,by omega⟩
 rcases h with⟨q,_⟩|⟨_,_,rfl⟩|⟨_,hd,rfl,rfl,hE,f,hf,hv⟩
 ·exact absurd h0 q
 ·exact .inl ⟨2,0,rfl,by decide,by omega,by omega⟩
 rw[Int.toNat_natCast]at hv
 unfold readF at hv
 rcases andThen_cases hv with⟨⟨k,q⟩,h1,rfl⟩|⟨vs,z,h1,h2⟩
 ·have:=(rdF_pl _ _ _ _ _ _ (Nat.zero_le _) h1).1 k q rfl
  exact .inl ⟨k,q,rfl,rdF_err _ _ _ _ _ _ h1 k q rfl,this.1,this.2⟩
 have hl:=rdF_len0 hr.fine hroot h1
 split at h2
 ·cases h2
  exact .inl ⟨7,z,rfl,by decide,by omega,by omega⟩
 cases h2
 obtain rfl:z=E.d.size:=by omega
 have hvb:=rdF_vb (E:=E) (B:=140737488351232) (by omega) (by omega) (fun i=>by
  by_cases hi:i<E.s.length
  ·exact hr.fine.eight i hi
  ·rw[nd_out hi];exact Nat.zero_le _) (fun i k hk hd=>by
  by_cases hi:i<E.s.length
  ·obtain⟨u,e1,e2,_⟩:=hE.dv i hi k hk hd
   have hw:=hr.fine.within i hi k hk
   obtain⟨_,_,hT1,hT2,hT3,hT4,hT5⟩:=tagged_of hr (i:=k.node.toNat) (by omega)
   have hst:=((elem_iff (fun z=>hT3 (by omega)) (by omega)).1 e1).1
   have h3:=strip_le _ _ _ hst
   have h4:=hok i hi k hk
   rw[e2]
   exact⟨by show u.size≤_;omega,Int.natCast_nonneg _⟩
  ·rw[nd_out hi]at hk;cases hk) f (by omega) _ _ _ _ _ _ h1
 have hB:Both E ⟨E.s,vs,E.ok⟩:=⟨rfl,hr,hE.bg,hE.ok,hE.ok,hE.dv⟩
 have hw:=fwd_all hB f root 0 E.d.size 1 vs E.d.size hroot h1 (Nat.le_refl _) 0 ⟨[],[],by simp,rfl⟩
 refine .inr ⟨vs,⟨E.s,vs,E.ok⟩,rfl,.inr ⟨h0,rfl,rfl,hE.ok,f+1,_,by rw[Int.toNat_natCast];exact hw,?_⟩,⟨by omega,fun j hj=>?_⟩,fun j hj=>?_,by omega,hd⟩
 ·unfold encR
  simp only
  rw[if_neg (by omega),if_neg (by rw[ex_size];omega),if_neg (by decide),ByteArray.extract_zero_size]
 ·have:=(hvb _ (vl_in hj)).1;omega
 ·have:=(hvb _ (vl_in hj)).2;omega
end Go.Proofs.YtkkicodfpekbgaaGreatDoor
namespace Go.Proofs.YtkkicodfpekbgaaGreatDoor
open Go.RowKit
set_option linter.unusedSimpArgs false
set_option linter.unusedVariables false
set_option maxRecDepth 100000
set_option maxHeartbeats 8000000
def DecEnc(sa:Option Addr)(n sc:Nat)(W:World)(d:ByteArray)(e:Ending)(w':World):Prop:=
 Below W.heap.size W w'∧((∃k q,e= .returned (.tuple #[.slice none 0 0,.int .i64 q,.int .i64 k])∧k≠0∧0≤q∧q≤d.size)∨
  (∃la ln lc,e= .returned (.tuple #[.slice la (ln:Nat) lc,.int .i64 0,.int .i64 0])∧∀wq,Below w'.heap.size w' wq→Calls Tryz.prog 22 #[.slice sa n sc,.int .i64 0,.slice la ln lc] wq fun e w2=>e= .returned (.tuple #[.string d,.int .i64 0])∧Below W.heap.size W w2))
theorem decEnc_any(s:List Nd)(sa:Option Addr)(sc:Nat)(d:ByteArray)(W wq:World)(sn:Sn→Addr)(za:Addr)(hl:Lay W sn)(hz:LayZ W sn za)(het:EtC W)(hs:Sch W sa s)(hok:SchOk s)(hr:RightP s)(hq:Below W.heap.size W wq)(hd:d.size≤9223372036854775807):
 Calls Tryz.prog 23 #[.slice sa s.length sc,.int .i64 0,.string d] wq fun e w'=>DecEnc sa s.length sc W d e w':=by
 have hn0:s.length≤140737488351232:=by have:=hr.2.1;omega
 obtain⟨E,v,hv,hc⟩:=uniq_math hr hok 0 (by have:=hr.1;omega) d
 refine(decode_any E s sa sc 0 d v wq sn za (hl.below hq) (hz.below hq) (het.below hq) (hs.below hq) hok hn0 hd hv).mono fun e w' h=>?_
 obtain⟨hb,h⟩:=h
 have hb':=hq.trans (hb.mono hq.size)
 refine⟨hb',?_⟩
 rcases hc with⟨k,q,rfl,h1,h2,h3⟩|⟨vs,F,rfl,hF,hsz,hkd,_,_⟩
 ·exact .inl ⟨k,q,h,h1,h2,h3⟩
 ·obtain⟨la,lc,he,ho⟩:=h
  refine .inr ⟨la,vs.length,lc,he,fun wr hr'=>?_⟩
  have hb2:=hb'.trans (hr'.mono hb'.size)
  refine(encode_any F s sa sc 0 vs la lc (.ok d) wr sn za (hl.below hb2) (hz.below hb2) (hs.below hb2) hok hn0 ((ValIn.of_own ho).below hr') (own_caps ho).1 hsz hkd hF).mono fun e w2 h=>?_
  exact⟨h.2,hb2.trans (h.1.mono hb2.size)⟩
theorem unique_any(w:World)(na ta:Option Addr)(nl nc tl tc:Nat)(at0 by0:Int)(data:ByteArray)(hp:PlanIn w na ta nl tl)(ha0: -9223372036854775808≤at0)(ha1:at0≤9223372036854775807)(hy0:0≤by0)(hy1:by0<256)(hbh:data.size≤140737488355328)(sn:Sn→Addr)(za:Addr)(hl:Lay w sn)(hz:LayZ w sn za)(het:EtC w):
 Calls Tryz.prog 7 #[.agg #[.slice na nl nc,.slice ta tl tc],.int .i64 at0,.int .u8 by0,.string data] w fun e w'=>e= .returned (.bool true)∧Below w.heap.size w w':=by
 have HL:=hideq hl
 have HZ:=hideq hz
 have HE:=hideq het
 have HBU:Hid (∀wq,Below w.heap.size w wq→Calls Tryz.prog 21 #[.agg #[.slice na nl nc,.slice ta tl tc]] wq fun e w'=>∃s sa sc t la lc,e= .returned (.tuple #[.slice sa (s:List Nd).length sc,.slice la (t:List Vl).length lc])∧Built wq w' s sa t la lc):=fun wq q=>build_any wq na ta nl nc tl tc (plan_below hp q)
 have HPK:Hid (∀(n:Int) wq,0<n→n≤9223372036854775807→Calls Tryz.prog 25 #[.int .i64 at0,.int .i64 n] wq fun e w'=>e= .returned (.int .i64 (pk at0 n))∧wq=w'):=fun n wq h1 h2=>pick_any at0 n wq ha0 ha1 h1 h2
 clear hl hz het hp ha0 ha1
 go_enter Tryz.func7,Tryz.ntmps7
 go_wp2_with fail
 refine(HBU.out _ ((Below.refl _ _).alloc (Nat.le_refl _) _)).mono ?_
 rintro e w1 ⟨s,sa,sc,t,la,lc,rfl,hB1⟩
 have HB1:=hideq hB1
 have HBW1:Hid (Below w.heap.size w w1):=((Below.refl _ _).alloc (Nat.le_refl _) _).trans (hB1.bel.mono (by simp))
 obtain⟨F,b,v,hF,hv⟩:=round_math hB1.right hB1.val hB1.vok hB1.len
 have hpz:pz t t.length≤16777000:=by have:=pz_of_vok hB1.vok t.length (Nat.le_refl _);have:=hB1.len;omega
 have hs40:s.length≤140737488351232:=by have:=hB1.right.2.1;omega
 have ht121:t.length≤121:=hB1.len
 have HEN:Hid (∀wq,Below w1.heap.size w1 wq→Calls Tryz.prog 22 #[.slice sa s.length sc,.int .i64 0,.slice la t.length lc] wq fun e w'=>RetEnc v wq e w'):=fun wq q=>
  encode_any F s sa sc 0 t la lc v wq sn za ((HL.out.below HBW1.out).below q) ((HZ.out.below HBW1.out).below q) (HB1.out.sch.below q) HB1.out.ok hs40 (HB1.out.below q).tree HB1.out.cap (Sz.of_pz hpz) (vl_kids HB1.out.vok) hF
 have HDE:Hid (∀d W wq,Below w1.heap.size w1 W→Below W.heap.size W wq→d.size≤9223372036854775807→Calls Tryz.prog 23 #[.slice sa s.length sc,.int .i64 0,.string d] wq fun e w'=>DecEnc sa s.length sc W d e w'):=fun d W wq q1 q2 hd=>
  decEnc_any s sa sc d W wq sn za ((HL.out.below HBW1.out).below q1) ((HZ.out.below HBW1.out).below q1) ((HE.out.below HBW1.out).below q1) (HB1.out.sch.below q1) HB1.out.ok HB1.out.right q2 hd
 have HV:=hideq hv
 clear hB1 hF hv hpz HBU HL HZ HE HB1
 have HR1:Hid (Below w1.heap.size w1 w1):=Below.refl _ _
 go_wp2_with fail
 refine(HEN.out _ HR1.out).mono ?_
 rintro e w3 ⟨hb3,h3⟩
 have HB3:=hideq hb3
 clear hb3
 rcases HV.out with⟨hve,h30⟩|⟨hve,hb1,hb4,_,_,_⟩
 ·subst hve
  have h3':e= .returned (.tuple #[.string ⟨#[]⟩,.int .i64 2]):=h3
  subst h3'
  have h30':(30:Int)<t.length:=by omega
  clear h3 HV HEN HDE
  go_wp2
  go_ret
  exact⟨rfl,HBW1.out.trans (HB3.out.mono HBW1.out.size)⟩
 ·subst hve
  have h3':e= .returned (.tuple #[.string b,.int .i64 0]):=h3
  subst h3'
  have hbne:(b.toList.isEmpty)=false:=by
   cases hq:b.toList.isEmpty
   ·rfl
   ·have:=(empty_iff b).1 hq;omega
  have hpk:=pk_bd at0 b.size (by omega)
  obtain⟨CAP,hCAP⟩:∃CAP,grownCap w3 b.size 0 5=CAP:=⟨_,rfl⟩
  have hcv:=run_bytes_of_string (P:=Tryz.prog) w3 9 52 5 b Tryz.underlying9 Tryz.underlying52 Tryz.underlying5
  rw[hCAP]at hcv
  obtain⟨w4,hw4⟩:∃w4,w3.drew.alloc (.cells (bytesRow b CAP) 5 ((bytesRow b CAP).size,(bytesRow b CAP).size+1))=w4:=⟨_,rfl⟩
  have hB4:Below w3.heap.size w3 w4:=by rw[←hw4];exact(Below.refl _ _).drew.alloc (Nat.le_refl _) _
  have hv4:w4.heap[w3.heap.size]? =some (.cells (bytesRow b CAP) 5 ((bytesRow b CAP).size,(bytesRow b CAP).size+1)):=by rw[←hw4];exact heap_alloc_new w3.drew _
  rw[hw4]at hcv
  have HB4:=hideq hB4
  have HV4:=hideq hv4
  have HBI:Hid (1≤b.size∧b.size≤4000):=⟨hb1,hb4⟩
  clear h3 HV HEN hB4 hv4 hw4 hCAP
  go_wp2_with fail
  refine(HPK.out b.size _ (by omega) (by omega)).mono ?_
  rintro e w5 ⟨rfl,hw5⟩
  obtain rfl:w4=w5:=hw5
  obtain⟨hp0,hp1⟩:=hpk
  obtain⟨k,hk⟩:=Int.eq_ofNat_of_zero_le hp0
  rw[hk]at hp1 ⊢
  have hkb:k<b.size:=by have q:(k:Int)<b.size:=hp1;omega
  have hkb':(k:Int)<b.size:=by omega
  have ck:=row_cell8 HV4.out hkb
  have fk:w4.frozen? ⟨w3.heap.size,k,none⟩=false:=row_frz HV4.out hkb
  have hg4:w3.heap.size<w4.heap.size:=lt_of_cell ck
  have b0:=b8_bd b k
  obtain⟨z,hz,z0,z1,_⟩:=xor8 (b8 b k) by0 b0.1 b0.2 hy0 hy1
  have hcv2:=turn_conv HV4.out hkb z z0 z1 CAP
  clear hk hp0 hp1 HPK
  obtain⟨W5,hW5⟩:∃W5,W5=(w4.setCell ⟨w3.heap.size,k,none⟩ (.int .u8 z)).alloc (.cells #[.string b,.string (setB b k z),.string data] 9):=⟨_,rfl⟩
  have HB5:Hid (Below w1.heap.size w1 W5):=by
   show Below w1.heap.size w1 W5
   rw[hW5]
   have h4:=HB3.out.trans (HB4.out.mono HB3.out.size)
   have h5:=h4.setCell (p:=⟨w3.heap.size,k,none⟩) HB3.out.size (.int .u8 z)
   exact h5.alloc (by rw[World.size_setCell];exact h4.size) _
  have HCE:Hid (∀i:Nat,i<3→∃d:ByteArray,W5.cell? ⟨w4.heap.size,i,none⟩=some (.string d)∧d.size≤9223372036854775807):=fun i hi=>by
   have hn:W5.heap[w4.heap.size]? =some (.cells #[.string b,.string (setB b k z),.string data] 9):=by
    have:=heap_alloc_new (w4.setCell ⟨w3.heap.size,k,none⟩ (.int .u8 z)) (.cells #[.string b,.string (setB b k z),.string data] 9)
    rw[World.size_setCell]at this
    rw[hW5]
    exact this
   have hc:W5.cell? ⟨w4.heap.size,i,none⟩=(#[.string b,.string (setB b k z),.string data]:Array Value)[i]? :=by simp[World.cell?,hn]
   match i,hi with
   |0,_=>exact⟨b,hc.trans rfl,by have:=HBI.out.2;omega⟩
   |1,_=>exact⟨setB b k z,hc.trans rfl,by rw[setB_size];have:=HBI.out.2;omega⟩
   |2,_=>exact⟨data,hc.trans rfl,by omega⟩
  have HW5:=hideq hW5
  clear hW5
  go_wp2_with fail
  go_loopw [16] (fun vi wr=>∃i:Nat,i≤3∧vi= .int .i64 i∧Below W5.heap.size W5 wr) (fun vi _=>3-(intOf vi).toNat)
  case atStart=>exact⟨0,by omega,rfl,by rw[HW5.out];exact Below.refl _ _⟩
  case round=>
   obtain⟨i,hi,rfl,hbr⟩:=hrel
   have HBR:=hideq hbr
   clear hbr
   by_cases hlt:i<3
   ·have hlt':(i:Int)<3:=by omega
    obtain⟨d,hd,hdz⟩:=HCE.out i hlt
    have HD0:=hideq hd
    have hd1:wr.cell? ⟨w4.heap.size,i,none⟩=some (.string d):=(HBR.out.cell (lt_of_cell hd)).trans hd
    have hgl:=lt_of_cell hd1
    simp only at hgl
    clear hd
    go_wp2_with fail
    refine(HDE.out d W5 _ HB5.out HBR.out hdz).mono ?_
    rintro e w6 ⟨hb6,h6⟩
    have HB6:=hideq hb6
    have hd6:w6.cell? ⟨w4.heap.size,i,none⟩=some (.string d):=(hb6.cell (lt_of_cell HD0.out)).trans HD0.out
    have hg6:=lt_of_cell hd6
    simp only at hg6
    clear hb6 hd1 hgl
    rcases h6 with⟨kk,q,rfl,hk0,hq0,hq1⟩|⟨la,ln,lc,rfl,henc⟩
    ·have hk1:decide (kk=0)=false:=decide_eq_false hk0
     go_wp2
     go_roundw
     case rel=>exact⟨i+1,by omega,by go_num,HB6.out⟩
     case measure=>simp[intOf];omega
    ·have HEC:=hideq henc
     clear henc
     go_wp2_with fail
     refine(HEC.out _ (Below.refl _ _)).mono ?_
     rintro e w7 ⟨rfl,hb7⟩
     have HB7:=hideq hb7
     have hd7:w7.cell? ⟨w4.heap.size,i,none⟩=some (.string d):=(hb7.cell (lt_of_cell HD0.out)).trans HD0.out
     have hg7:=lt_of_cell hd7
     simp only at hg7
     clear hb7 hd6 hg6 HEC
     go_wp2
     go_roundw
     case rel=>exact⟨i+1,by omega,by go_num,HB7.out⟩
     case measure=>simp[intOf];omega
   ·have hlt':(3:Int)≤i:=by omega
    go_wp2
    go_ret
    exact⟨rfl,HBW1.out.trans ((HB5.out.trans (HBR.out.mono HB5.out.size)).mono HBW1.out.size)⟩
end Go.Proofs.YtkkicodfpekbgaaGreatDoor
