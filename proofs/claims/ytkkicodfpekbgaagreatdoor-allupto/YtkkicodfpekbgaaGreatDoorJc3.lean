/- Parts. -/
import Derived.Test.YtkkicodfpekbgaaGreatDoorJb1
import Derived.Shelf.Unicode.ValidAny
import Derived.Test.YtkkicodfpekbgaaGreatDoorJb0
import Derived.Test.YtkkicodfpekbgaaGreatDoorCards
import Derived.Test.YtkkicodfpekbgaaGreatDoorTie
import Derived.ProofKit
import Derived.LaidMore
import Derived.OpenShut
import Derived.Stop.Joined
import Derived.Stop.LaidErr
import Derived.Lib.LaidU8T
import Derived.Lay
open Go.Value renaming int->I,string->Y,slice->S,pointer->Po,bool->Bo,agg->Ag,iface->If
open Go.IntKind renaming i64->J
open Go.Obj renaming cells->C
open Go.Ending renaming returned->Rt
open Option renaming some->U,none->Z
open Go renaming World->M,Calls->Cs,Addr->Ad,Value->Vv
open _root_ renaming ByteArray->Q,Option->Oo,List->Ls
open Go.RowKit renaming Below->H,Hid->Hi
open Go.World renaming cell?->Wc
open Go.MemPlace renaming row->Mr
open Go.Addr renaming mk->D
set_option linter.all false
set_option maxRecDepth 100000
set_option maxHeartbeats 8000000
namespace Go.Proofs.YtkkicodfpekbgaaGreatDoor
variable{w w' W:M}{g:Nat}{sn:Sn->Ad}{n:String}
section
open Go.Proofs.Tryz
open Go.RowKit
def Cv(w:M):Prop:=Lib.Utf8Tabs (Kz.g 3) (Kz.g 4) w
theorem Bv(t:Q)(w:M)(hm:t.size<=9223372036854775807)(hT:Cv w):Mv t w:=by have c:=Any.utf8_ValidString Sl t w hm hT;exact c.mono fun e w' h=>⟨_,h.1,(aiU t).symm,h.2⟩
structure gy(w:M)(sn:Sn->Ad):Prop where
 s:ei w sn
 n:ll w
 d:sf w
 t:Cv w
theorem gy.below(h:gy w sn)(hb:Bw w w'):gy w' sn:=
 ⟨h.s.below hb,h.n.below hb,fun i hi=>(hb.cell (bp (h.d i hi))).trans (h.d i hi),Utf8Tabs_below h.t hb⟩
structure kv(w:M)(sn:Sn->Ad)(za:Ad):Prop where
 c:w.cell? (D 12 0 Z)=U (If 291 (Po (U za)))
 r:∃c t,w.heap[za.block]? =U (C c t (0,0))
 d:∀s:Sn,sn s≠za
theorem kv.below{za:Ad}(h:kv w sn za)(hb:Bw w w'):kv w' sn za:=⟨Cb hb h.c,ry h.r hb,h.d⟩
theorem pj(p:Int)(a:Ad)(w:M):Cs prog 60 #[I J p,If 291 (Po (U a))] w fun e w'=>e=Rt (be p a)/\w'=w:=by
 unfold be;go_enter func60,ntmps60;go_wp2;go_ret;exact⟨X,X⟩
theorem yl{k:Nat}{A:Array Vv}{T:TypeId}(h:w.heap[k]? =U (C A T (0,0))):∀i,w.cell? (D k i Z)=A[i]? :=fun i=>by simp[Wc,h]
def Hz(t:Q):Prop:=1<=t.size/\t.size<=64/\yh t
def tf(v:Int):Int:=if v=2 then 8 else 0
theorem afI(t:Q)(w:M)(hm:t.size<=9223372036854775807)(hT:Cv w):Cs prog 169 #[Y t] w fun e w'=>wk (Hz t) w e w':=by
 have HV:Hi _:=Bv t w hm hT;by_cases h1:1<=t.size
 ·by_cases h2:t.size<=64;·have iH:(1:Int)<=t.size:=O;have kG:(t.size:Int)<=64:=O;go_enter func169,ntmps169;go_wp2_with fail;refine HV.mono ?_;rintro e w1 ⟨r,rfl,(HR:Hi _),(HB:Hi _)⟩;go_wp2;go_ret;exact⟨r,X,⟨fun q=>⟨h1,h2,HR.1 q⟩,fun q=>HR.2 q.2.2⟩,HB⟩
  have iH:(1:Int)<=t.size:=O;have kG:¬(t.size:Int)<=64:=O;go_enter func169,ntmps169;go_wp2;go_ret;exact⟨false,X,⟨fun q=>(by cases q),fun q=>Ab q.2.1 h2⟩,By⟩
 have iH:¬(1:Int)<=t.size:=O;go_enter func169,ntmps169;go_wp2;go_ret;exact⟨false,X,⟨fun q=>(by cases q),fun q=>Ab q.1 h1⟩,By⟩
theorem agv(v:Int)(w:M):Cs prog 170 #[I J v] w fun e w'=>e=Rt (I J (tf v))/\w'=w:=by
 by_cases h:v=2;·subst h;go_enter func170,ntmps170;go_wp2;go_ret;exact⟨X,X⟩
 have e:tf v=0:=by unfold tf;rw[G h]
 have h':(v==2)=false:=by simp[h]
 rw[e];clear h e;go_enter func170,ntmps170;go_wp2;go_ret;exact⟨X,X⟩
structure ij(v:Int)(s n f t k:Q)(m:Nat):Prop where
 v0:0<=v
 v2:v<=2
 ser:pe s
 nam:Hz n
 frm:mf f
 til:mf t
 ord:(Op.bytesLess f.toList t.toList||f.toList==t.toList)=true
 key:qo k
 mks:(m:Int)<=tf v
theorem Fj(P:Prop):∃r:Bool,r=true↔P:=by
 by_cases h:P;·exact⟨true,by simp[h]⟩
 exact⟨false,by simp[h]⟩
def dm(v:Int)(s n f t k:Q)(mk:Vv):Vv:=Ag #[I J v,Y s,Y n,Y f,Y t,Y k,mk]
structure ub(v:Int)(s n f t k:Q)(mk:Vv)(r1 r2 r3 r4 r5:Bool)(w:M):Prop where
 f1:∀x:bh (w.alloc (C #[I J v,Y s,Y n,Y f,Y t,Y k,mk] 68)),Cs prog 138 #[I J 2,Y s] x.v fun e eE=>e=Rt (Bo r1)/\∃y:bh (w.alloc (C #[I J v,Y s,Y n,Y f,Y t,Y k,mk] 68)),eE=y.v
 f2:∀x:bh (w.alloc (C #[I J v,Y s,Y n,Y f,Y t,Y k,mk] 68)),Cs prog 169 #[Y n] x.v fun e eE=>e=Rt (Bo r2)/\∃y:bh (w.alloc (C #[I J v,Y s,Y n,Y f,Y t,Y k,mk] 68)),eE=y.v
 f3:∀x:bh (w.alloc (C #[I J v,Y s,Y n,Y f,Y t,Y k,mk] 68)),Cs prog 138 #[I J 9,Y f] x.v fun e eE=>e=Rt (Bo r3)/\∃y:bh (w.alloc (C #[I J v,Y s,Y n,Y f,Y t,Y k,mk] 68)),eE=y.v
 f4:∀x:bh (w.alloc (C #[I J v,Y s,Y n,Y f,Y t,Y k,mk] 68)),Cs prog 138 #[I J 9,Y t] x.v fun e eE=>e=Rt (Bo r4)/\∃y:bh (w.alloc (C #[I J v,Y s,Y n,Y f,Y t,Y k,mk] 68)),eE=y.v
 f5:∀x:bh (w.alloc (C #[I J v,Y s,Y n,Y f,Y t,Y k,mk] 68)),Cs prog 138 #[I J 5,Y k] x.v fun e eE=>e=Rt (Bo r5)/\∃y:bh (w.alloc (C #[I J v,Y s,Y n,Y f,Y t,Y k,mk] 68)),eE=y.v
 f6:∀x:bh (w.alloc (C #[I J v,Y s,Y n,Y f,Y t,Y k,mk] 68)),Cs prog 170 #[I J v] x.v fun e eE=>e=Rt (I J (tf v))/\∃y:bh (w.alloc (C #[I J v,Y s,Y n,Y f,Y t,Y k,mk] 68)),eE=y.v
set_option maxHeartbeats 16000000 in
theorem afj(v:Int)(s n f t k:Q)(ma:Oo Ad)(m mc:Nat)(w:M)(r1 r2 r3 r4 r5:Bool)(HX:Hi (ub v s n f t k (S ma m mc) r1 r2 r3 r4 r5 w))(g0:decide (0<=v)=false):Cs prog 131 #[dm v s n f t k (S ma m mc)] w fun e w'=>e=Rt (Bo false)/\Bw w w':=by
 have X0:∀x:bh (w.alloc (C #[I J v,Y s,Y n,Y f,Y t,Y k,S ma m mc] 68)),x.v.cell? (D w.heap.size 0 Z)=U (I J v):=fun x=>x.new X;have aY:Hi (∀w5,H (w.alloc (C #[I J v,Y s,Y n,Y f,Y t,Y k,S ma m mc] 68)).heap.size (w.alloc (C #[I J v,Y s,Y n,Y f,Y t,Y k,S ma m mc] 68)) w5->Bw w w5):=fun w5 q=>dj q;unfold dm;go_enter func131,ntmps131;go_wp2_with fail;(have ne:=nh;refine nk Kr Kr ?_;(repeat(first|go_big_quiet_skip|(go_big_quiet_want;go_big_quiet_op;first|go_big_quiet_on|(apply Exists.intro;refine⟨fun x=>?_,?_⟩;(·(first|(go_at_call_of 138 (Value.string s);exact HX.f1 x)|(go_at_call 169;exact HX.f2 x)|(go_at_call_of 138 (Value.string f);exact HX.f3 x)|(go_at_call_of 138 (Value.string t);exact HX.f4 x)|(go_at_call_of 138 (Value.string k);exact HX.f5 x)|(go_at_call 170;exact HX.f6 x)));go_big_quiet_on))));refine nj ?_);intro w5 aH;have aO:Hi _:=aY w5 aH;clear X0 aH;go_wp2;go_ret;exact⟨X,aO⟩
set_option maxHeartbeats 16000000 in
theorem afk(v:Int)(s n f t k:Q)(ma:Oo Ad)(m mc:Nat)(w:M)(r1 r2 r3 r4 r5:Bool)(HX:Hi (ub v s n f t k (S ma m mc) r1 r2 r3 r4 r5 w))(g0:decide (0<=v)=true)(g1:decide (v<=2)=false):Cs prog 131 #[dm v s n f t k (S ma m mc)] w fun e w'=>e=Rt (Bo false)/\Bw w w':=by
 have X0:∀x:bh (w.alloc (C #[I J v,Y s,Y n,Y f,Y t,Y k,S ma m mc] 68)),x.v.cell? (D w.heap.size 0 Z)=U (I J v):=fun x=>x.new X;have aY:Hi (∀w5,H (w.alloc (C #[I J v,Y s,Y n,Y f,Y t,Y k,S ma m mc] 68)).heap.size (w.alloc (C #[I J v,Y s,Y n,Y f,Y t,Y k,S ma m mc] 68)) w5->Bw w w5):=fun w5 q=>dj q;unfold dm;go_enter func131,ntmps131;go_wp2_with fail;(have ne:=nh;refine nk Kr Kr ?_;(repeat(first|go_big_quiet_skip|(go_big_quiet_want;go_big_quiet_op;first|go_big_quiet_on|(apply Exists.intro;refine⟨fun x=>?_,?_⟩;(·(first|(go_at_call_of 138 (Value.string s);exact HX.f1 x)|(go_at_call 169;exact HX.f2 x)|(go_at_call_of 138 (Value.string f);exact HX.f3 x)|(go_at_call_of 138 (Value.string t);exact HX.f4 x)|(go_at_call_of 138 (Value.string k);exact HX.f5 x)|(go_at_call 170;exact HX.f6 x)));go_big_quiet_on))));refine nj ?_);intro w5 aH;have aO:Hi _:=aY w5 aH;clear X0 aH;go_wp2;go_ret;exact⟨X,aO⟩
set_option maxHeartbeats 16000000 in
theorem afl(v:Int)(s n f t k:Q)(ma:Oo Ad)(m mc:Nat)(w:M)(r2 r3 r4 r5:Bool)(HX:Hi (ub v s n f t k (S ma m mc) false r2 r3 r4 r5 w))(g0:decide (0<=v)=true)(g1:decide (v<=2)=true):Cs prog 131 #[dm v s n f t k (S ma m mc)] w fun e w'=>e=Rt (Bo false)/\Bw w w':=by
 have X0:∀x:bh (w.alloc (C #[I J v,Y s,Y n,Y f,Y t,Y k,S ma m mc] 68)),x.v.cell? (D w.heap.size 0 Z)=U (I J v):=fun x=>x.new X;have X1:∀x:bh (w.alloc (C #[I J v,Y s,Y n,Y f,Y t,Y k,S ma m mc] 68)),x.v.cell? (D w.heap.size 1 Z)=U (Y s):=fun x=>x.new X;have aY:Hi (∀w5,H (w.alloc (C #[I J v,Y s,Y n,Y f,Y t,Y k,S ma m mc] 68)).heap.size (w.alloc (C #[I J v,Y s,Y n,Y f,Y t,Y k,S ma m mc] 68)) w5->Bw w w5):=fun w5 q=>dj q;unfold dm;go_enter func131,ntmps131;go_wp2_with fail;(have ne:=nh;refine nk Kr Kr ?_;(repeat(first|go_big_quiet_skip|(go_big_quiet_want;go_big_quiet_op;first|go_big_quiet_on|(apply Exists.intro;refine⟨fun x=>?_,?_⟩;(·(first|(go_at_call_of 138 (Value.string s);exact HX.f1 x)|(go_at_call 169;exact HX.f2 x)|(go_at_call_of 138 (Value.string f);exact HX.f3 x)|(go_at_call_of 138 (Value.string t);exact HX.f4 x)|(go_at_call_of 138 (Value.string k);exact HX.f5 x)|(go_at_call 170;exact HX.f6 x)));go_big_quiet_on))));refine nj ?_);intro w5 aH;have aO:Hi _:=aY w5 aH;clear X0 X1 aH;go_wp2;go_ret;exact⟨X,aO⟩
set_option maxHeartbeats 16000000 in
theorem afm(v:Int)(s n f t k:Q)(ma:Oo Ad)(m mc:Nat)(w:M)(r3 r4 r5:Bool)(HX:Hi (ub v s n f t k (S ma m mc) true false r3 r4 r5 w))(g0:decide (0<=v)=true)(g1:decide (v<=2)=true):Cs prog 131 #[dm v s n f t k (S ma m mc)] w fun e w'=>e=Rt (Bo false)/\Bw w w':=by
 have X0:∀x:bh (w.alloc (C #[I J v,Y s,Y n,Y f,Y t,Y k,S ma m mc] 68)),x.v.cell? (D w.heap.size 0 Z)=U (I J v):=fun x=>x.new X;have X1:∀x:bh (w.alloc (C #[I J v,Y s,Y n,Y f,Y t,Y k,S ma m mc] 68)),x.v.cell? (D w.heap.size 1 Z)=U (Y s):=fun x=>x.new X;have X2:∀x:bh (w.alloc (C #[I J v,Y s,Y n,Y f,Y t,Y k,S ma m mc] 68)),x.v.cell? (D w.heap.size 2 Z)=U (Y n):=fun x=>x.new X;have aY:Hi (∀w5,H (w.alloc (C #[I J v,Y s,Y n,Y f,Y t,Y k,S ma m mc] 68)).heap.size (w.alloc (C #[I J v,Y s,Y n,Y f,Y t,Y k,S ma m mc] 68)) w5->Bw w w5):=fun w5 q=>dj q;unfold dm;go_enter func131,ntmps131;go_wp2_with fail;(have ne:=nh;refine nk Kr Kr ?_;(repeat(first|go_big_quiet_skip|(go_big_quiet_want;go_big_quiet_op;first|go_big_quiet_on|(apply Exists.intro;refine⟨fun x=>?_,?_⟩;(·(first|(go_at_call_of 138 (Value.string s);exact HX.f1 x)|(go_at_call 169;exact HX.f2 x)|(go_at_call_of 138 (Value.string f);exact HX.f3 x)|(go_at_call_of 138 (Value.string t);exact HX.f4 x)|(go_at_call_of 138 (Value.string k);exact HX.f5 x)|(go_at_call 170;exact HX.f6 x)));go_big_quiet_on))));refine nj ?_);intro w5 aH;have aO:Hi _:=aY w5 aH;clear X0 X1 X2 aH;go_wp2;go_ret;exact⟨X,aO⟩
set_option maxHeartbeats 16000000 in
theorem afn(v:Int)(s n f t k:Q)(ma:Oo Ad)(m mc:Nat)(w:M)(r4 r5:Bool)(HX:Hi (ub v s n f t k (S ma m mc) true true false r4 r5 w))(g0:decide (0<=v)=true)(g1:decide (v<=2)=true):Cs prog 131 #[dm v s n f t k (S ma m mc)] w fun e w'=>e=Rt (Bo false)/\Bw w w':=by
 have X0:∀x:bh (w.alloc (C #[I J v,Y s,Y n,Y f,Y t,Y k,S ma m mc] 68)),x.v.cell? (D w.heap.size 0 Z)=U (I J v):=fun x=>x.new X;have X1:∀x:bh (w.alloc (C #[I J v,Y s,Y n,Y f,Y t,Y k,S ma m mc] 68)),x.v.cell? (D w.heap.size 1 Z)=U (Y s):=fun x=>x.new X;have X2:∀x:bh (w.alloc (C #[I J v,Y s,Y n,Y f,Y t,Y k,S ma m mc] 68)),x.v.cell? (D w.heap.size 2 Z)=U (Y n):=fun x=>x.new X;have X3:∀x:bh (w.alloc (C #[I J v,Y s,Y n,Y f,Y t,Y k,S ma m mc] 68)),x.v.cell? (D w.heap.size 3 Z)=U (Y f):=fun x=>x.new X;have aY:Hi (∀w5,H (w.alloc (C #[I J v,Y s,Y n,Y f,Y t,Y k,S ma m mc] 68)).heap.size (w.alloc (C #[I J v,Y s,Y n,Y f,Y t,Y k,S ma m mc] 68)) w5->Bw w w5):=fun w5 q=>dj q;unfold dm;go_enter func131,ntmps131;go_wp2_with fail;(have ne:=nh;refine nk Kr Kr ?_;(repeat(first|go_big_quiet_skip|(go_big_quiet_want;go_big_quiet_op;first|go_big_quiet_on|(apply Exists.intro;refine⟨fun x=>?_,?_⟩;(·(first|(go_at_call_of 138 (Value.string s);exact HX.f1 x)|(go_at_call 169;exact HX.f2 x)|(go_at_call_of 138 (Value.string f);exact HX.f3 x)|(go_at_call_of 138 (Value.string t);exact HX.f4 x)|(go_at_call_of 138 (Value.string k);exact HX.f5 x)|(go_at_call 170;exact HX.f6 x)));go_big_quiet_on))));refine nj ?_);intro w5 aH;have aO:Hi _:=aY w5 aH;clear X0 X1 X2 X3 aH;go_wp2;go_ret;exact⟨X,aO⟩
set_option maxHeartbeats 16000000 in
theorem afq(v:Int)(s n f t k:Q)(ma:Oo Ad)(m mc:Nat)(w:M)(HX:Hi (ub v s n f t k (S ma m mc) true true true true false w))(g0:decide (0<=v)=true)(g1:decide (v<=2)=true)(g6:(Op.bytesLess f.toList t.toList||f.toList==t.toList)=true):Cs prog 131 #[dm v s n f t k (S ma m mc)] w fun e w'=>e=Rt (Bo false)/\Bw w w':=by
 have X0:∀x:bh (w.alloc (C #[I J v,Y s,Y n,Y f,Y t,Y k,S ma m mc] 68)),x.v.cell? (D w.heap.size 0 Z)=U (I J v):=fun x=>x.new X;have X1:∀x:bh (w.alloc (C #[I J v,Y s,Y n,Y f,Y t,Y k,S ma m mc] 68)),x.v.cell? (D w.heap.size 1 Z)=U (Y s):=fun x=>x.new X;have X2:∀x:bh (w.alloc (C #[I J v,Y s,Y n,Y f,Y t,Y k,S ma m mc] 68)),x.v.cell? (D w.heap.size 2 Z)=U (Y n):=fun x=>x.new X;have X3:∀x:bh (w.alloc (C #[I J v,Y s,Y n,Y f,Y t,Y k,S ma m mc] 68)),x.v.cell? (D w.heap.size 3 Z)=U (Y f):=fun x=>x.new X;have X4:∀x:bh (w.alloc (C #[I J v,Y s,Y n,Y f,Y t,Y k,S ma m mc] 68)),x.v.cell? (D w.heap.size 4 Z)=U (Y t):=fun x=>x.new X;have X5:∀x:bh (w.alloc (C #[I J v,Y s,Y n,Y f,Y t,Y k,S ma m mc] 68)),x.v.cell? (D w.heap.size 5 Z)=U (Y k):=fun x=>x.new X;have aY:Hi (∀w5,H (w.alloc (C #[I J v,Y s,Y n,Y f,Y t,Y k,S ma m mc] 68)).heap.size (w.alloc (C #[I J v,Y s,Y n,Y f,Y t,Y k,S ma m mc] 68)) w5->Bw w w5):=fun w5 q=>dj q;unfold dm;go_enter func131,ntmps131;go_wp2_with fail;(have ne:=nh;refine nk Kr Kr ?_;(repeat(first|go_big_quiet_skip|(go_big_quiet_want;go_big_quiet_op;first|go_big_quiet_on|(apply Exists.intro;refine⟨fun x=>?_,?_⟩;(·(first|(go_at_call_of 138 (Value.string s);exact HX.f1 x)|(go_at_call 169;exact HX.f2 x)|(go_at_call_of 138 (Value.string f);exact HX.f3 x)|(go_at_call_of 138 (Value.string t);exact HX.f4 x)|(go_at_call_of 138 (Value.string k);exact HX.f5 x)|(go_at_call 170;exact HX.f6 x)));go_big_quiet_on))));refine nj ?_);intro w5 aH;have aO:Hi (Bw w w5):=aY w5 aH;clear X0 X1 X2 X3 X4 X5 aH;go_wp2;go_ret;exact⟨X,aO⟩
set_option maxHeartbeats 16000000 in
theorem afr(v:Int)(s n f t k:Q)(ma:Oo Ad)(m mc:Nat)(w:M)(HX:Hi (ub v s n f t k (S ma m mc) true true true true true w))(g0:decide (0<=v)=true)(g1:decide (v<=2)=true)(g6:(Op.bytesLess f.toList t.toList||f.toList==t.toList)=true)(g8:decide ((m:Int)<=tf v)=false):Cs prog 131 #[dm v s n f t k (S ma m mc)] w fun e w'=>e=Rt (Bo false)/\Bw w w':=by
 have X0:∀x:bh (w.alloc (C #[I J v,Y s,Y n,Y f,Y t,Y k,S ma m mc] 68)),x.v.cell? (D w.heap.size 0 Z)=U (I J v):=fun x=>x.new X;have X1:∀x:bh (w.alloc (C #[I J v,Y s,Y n,Y f,Y t,Y k,S ma m mc] 68)),x.v.cell? (D w.heap.size 1 Z)=U (Y s):=fun x=>x.new X;have X2:∀x:bh (w.alloc (C #[I J v,Y s,Y n,Y f,Y t,Y k,S ma m mc] 68)),x.v.cell? (D w.heap.size 2 Z)=U (Y n):=fun x=>x.new X;have X3:∀x:bh (w.alloc (C #[I J v,Y s,Y n,Y f,Y t,Y k,S ma m mc] 68)),x.v.cell? (D w.heap.size 3 Z)=U (Y f):=fun x=>x.new X;have X4:∀x:bh (w.alloc (C #[I J v,Y s,Y n,Y f,Y t,Y k,S ma m mc] 68)),x.v.cell? (D w.heap.size 4 Z)=U (Y t):=fun x=>x.new X;have X5:∀x:bh (w.alloc (C #[I J v,Y s,Y n,Y f,Y t,Y k,S ma m mc] 68)),x.v.cell? (D w.heap.size 5 Z)=U (Y k):=fun x=>x.new X;have X6:∀x:bh (w.alloc (C #[I J v,Y s,Y n,Y f,Y t,Y k,S ma m mc] 68)),x.v.cell? (D w.heap.size 6 Z)=U (S ma m mc):=fun x=>x.new X;have aY:Hi (∀w5,H (w.alloc (C #[I J v,Y s,Y n,Y f,Y t,Y k,S ma m mc] 68)).heap.size (w.alloc (C #[I J v,Y s,Y n,Y f,Y t,Y k,S ma m mc] 68)) w5->Bw w w5):=fun w5 q=>dj q;unfold dm;go_enter func131,ntmps131;go_wp2_with fail;(have ne:=nh;refine nk Kr Kr ?_;(repeat(first|go_big_quiet_skip|(go_big_quiet_want;go_big_quiet_op;first|go_big_quiet_on|(apply Exists.intro;refine⟨fun x=>?_,?_⟩;(·(first|(go_at_call_of 138 (Value.string s);exact HX.f1 x)|(go_at_call 169;exact HX.f2 x)|(go_at_call_of 138 (Value.string f);exact HX.f3 x)|(go_at_call_of 138 (Value.string t);exact HX.f4 x)|(go_at_call_of 138 (Value.string k);exact HX.f5 x)|(go_at_call 170;exact HX.f6 x)));go_big_quiet_on))));refine nj ?_);intro w5 aH;have aO:Hi (Bw w w5):=aY w5 aH;clear X0 X1 X2 X3 X4 X5 X6 aH;go_wp2;go_ret;exact⟨X,aO⟩
set_option maxHeartbeats 16000000 in
theorem afo(v:Int)(s n f t k:Q)(ma:Oo Ad)(m mc:Nat)(w:M)(r5:Bool)(HX:Hi (ub v s n f t k (S ma m mc) true true true false r5 w))(g0:decide (0<=v)=true)(g1:decide (v<=2)=true):Cs prog 131 #[dm v s n f t k (S ma m mc)] w fun e w'=>e=Rt (Bo false)/\Bw w w':=by
 have X0:∀x:bh (w.alloc (C #[I J v,Y s,Y n,Y f,Y t,Y k,S ma m mc] 68)),x.v.cell? (D w.heap.size 0 Z)=U (I J v):=fun x=>x.new X;have X1:∀x:bh (w.alloc (C #[I J v,Y s,Y n,Y f,Y t,Y k,S ma m mc] 68)),x.v.cell? (D w.heap.size 1 Z)=U (Y s):=fun x=>x.new X;have X2:∀x:bh (w.alloc (C #[I J v,Y s,Y n,Y f,Y t,Y k,S ma m mc] 68)),x.v.cell? (D w.heap.size 2 Z)=U (Y n):=fun x=>x.new X;have X3:∀x:bh (w.alloc (C #[I J v,Y s,Y n,Y f,Y t,Y k,S ma m mc] 68)),x.v.cell? (D w.heap.size 3 Z)=U (Y f):=fun x=>x.new X;have X4:∀x:bh (w.alloc (C #[I J v,Y s,Y n,Y f,Y t,Y k,S ma m mc] 68)),x.v.cell? (D w.heap.size 4 Z)=U (Y t):=fun x=>x.new X;have aY:Hi (∀w5,H (w.alloc (C #[I J v,Y s,Y n,Y f,Y t,Y k,S ma m mc] 68)).heap.size (w.alloc (C #[I J v,Y s,Y n,Y f,Y t,Y k,S ma m mc] 68)) w5->Bw w w5):=fun w5 q=>dj q;unfold dm;go_enter func131,ntmps131;go_wp2_with fail;(have ne:=nh;refine nk Kr Kr ?_;(repeat(first|go_big_quiet_skip|(go_big_quiet_want;go_big_quiet_op;first|go_big_quiet_on|(apply Exists.intro;refine⟨fun x=>?_,?_⟩;(·(first|(go_at_call_of 138 (Value.string s);exact HX.f1 x)|(go_at_call 169;exact HX.f2 x)|(go_at_call_of 138 (Value.string f);exact HX.f3 x)|(go_at_call_of 138 (Value.string t);exact HX.f4 x)|(go_at_call_of 138 (Value.string k);exact HX.f5 x)|(go_at_call 170;exact HX.f6 x)));go_big_quiet_on))));refine nj ?_);intro w5 aH;have aO:Hi (Bw w w5):=aY w5 aH;clear X0 X1 X2 X3 X4 aH;go_wp2;go_ret;exact⟨X,aO⟩
set_option maxHeartbeats 16000000 in
theorem afp(v:Int)(s n f t k:Q)(ma:Oo Ad)(m mc:Nat)(w:M)(r5:Bool)(HX:Hi (ub v s n f t k (S ma m mc) true true true true r5 w))(g0:decide (0<=v)=true)(g1:decide (v<=2)=true)(g6:(Op.bytesLess f.toList t.toList||f.toList==t.toList)=false):Cs prog 131 #[dm v s n f t k (S ma m mc)] w fun e w'=>e=Rt (Bo false)/\Bw w w':=by
 have X0:∀x:bh (w.alloc (C #[I J v,Y s,Y n,Y f,Y t,Y k,S ma m mc] 68)),x.v.cell? (D w.heap.size 0 Z)=U (I J v):=fun x=>x.new X;have X1:∀x:bh (w.alloc (C #[I J v,Y s,Y n,Y f,Y t,Y k,S ma m mc] 68)),x.v.cell? (D w.heap.size 1 Z)=U (Y s):=fun x=>x.new X;have X2:∀x:bh (w.alloc (C #[I J v,Y s,Y n,Y f,Y t,Y k,S ma m mc] 68)),x.v.cell? (D w.heap.size 2 Z)=U (Y n):=fun x=>x.new X;have X3:∀x:bh (w.alloc (C #[I J v,Y s,Y n,Y f,Y t,Y k,S ma m mc] 68)),x.v.cell? (D w.heap.size 3 Z)=U (Y f):=fun x=>x.new X;have X4:∀x:bh (w.alloc (C #[I J v,Y s,Y n,Y f,Y t,Y k,S ma m mc] 68)),x.v.cell? (D w.heap.size 4 Z)=U (Y t):=fun x=>x.new X;have aY:Hi (∀w5,H (w.alloc (C #[I J v,Y s,Y n,Y f,Y t,Y k,S ma m mc] 68)).heap.size (w.alloc (C #[I J v,Y s,Y n,Y f,Y t,Y k,S ma m mc] 68)) w5->Bw w w5):=fun w5 q=>dj q;unfold dm;go_enter func131,ntmps131;go_wp2_with fail;(have ne:=nh;refine nk Kr Kr ?_;(repeat(first|go_big_quiet_skip|(go_big_quiet_want;go_big_quiet_op;first|go_big_quiet_on|(apply Exists.intro;refine⟨fun x=>?_,?_⟩;(·(first|(go_at_call_of 138 (Value.string s);exact HX.f1 x)|(go_at_call 169;exact HX.f2 x)|(go_at_call_of 138 (Value.string f);exact HX.f3 x)|(go_at_call_of 138 (Value.string t);exact HX.f4 x)|(go_at_call_of 138 (Value.string k);exact HX.f5 x)|(go_at_call 170;exact HX.f6 x)));go_big_quiet_on))));refine nj ?_);intro w5 aH;have aO:Hi (Bw w w5):=aY w5 aH;clear X0 X1 X2 X3 X4 aH;go_wp2;go_ret;exact⟨X,aO⟩
set_option maxHeartbeats 16000000 in
theorem afs(v:Int)(s n f t k:Q)(ma:Oo Ad)(m mc:Nat)(w:M)(HX:Hi (ub v s n f t k (S ma m mc) true true true true true w))(g0:decide (0<=v)=true)(g1:decide (v<=2)=true)(g6:(Op.bytesLess f.toList t.toList||f.toList==t.toList)=true)(g8:decide ((m:Int)<=tf v)=true):Cs prog 131 #[dm v s n f t k (S ma m mc)] w fun e w'=>e=Rt (Bo true)/\Bw w w':=by
 have X0:∀x:bh (w.alloc (C #[I J v,Y s,Y n,Y f,Y t,Y k,S ma m mc] 68)),x.v.cell? (D w.heap.size 0 Z)=U (I J v):=fun x=>x.new X;have X1:∀x:bh (w.alloc (C #[I J v,Y s,Y n,Y f,Y t,Y k,S ma m mc] 68)),x.v.cell? (D w.heap.size 1 Z)=U (Y s):=fun x=>x.new X;have X2:∀x:bh (w.alloc (C #[I J v,Y s,Y n,Y f,Y t,Y k,S ma m mc] 68)),x.v.cell? (D w.heap.size 2 Z)=U (Y n):=fun x=>x.new X;have X3:∀x:bh (w.alloc (C #[I J v,Y s,Y n,Y f,Y t,Y k,S ma m mc] 68)),x.v.cell? (D w.heap.size 3 Z)=U (Y f):=fun x=>x.new X;have X4:∀x:bh (w.alloc (C #[I J v,Y s,Y n,Y f,Y t,Y k,S ma m mc] 68)),x.v.cell? (D w.heap.size 4 Z)=U (Y t):=fun x=>x.new X;have X5:∀x:bh (w.alloc (C #[I J v,Y s,Y n,Y f,Y t,Y k,S ma m mc] 68)),x.v.cell? (D w.heap.size 5 Z)=U (Y k):=fun x=>x.new X;have X6:∀x:bh (w.alloc (C #[I J v,Y s,Y n,Y f,Y t,Y k,S ma m mc] 68)),x.v.cell? (D w.heap.size 6 Z)=U (S ma m mc):=fun x=>x.new X;have aY:Hi (∀w5,H (w.alloc (C #[I J v,Y s,Y n,Y f,Y t,Y k,S ma m mc] 68)).heap.size (w.alloc (C #[I J v,Y s,Y n,Y f,Y t,Y k,S ma m mc] 68)) w5->Bw w w5):=fun w5 q=>dj q;unfold dm;go_enter func131,ntmps131;go_wp2_with fail;(have ne:=nh;refine nk Kr Kr ?_;(repeat(first|go_big_quiet_skip|(go_big_quiet_want;go_big_quiet_op;first|go_big_quiet_on|(apply Exists.intro;refine⟨fun x=>?_,?_⟩;(·(first|(go_at_call_of 138 (Value.string s);exact HX.f1 x)|(go_at_call 169;exact HX.f2 x)|(go_at_call_of 138 (Value.string f);exact HX.f3 x)|(go_at_call_of 138 (Value.string t);exact HX.f4 x)|(go_at_call_of 138 (Value.string k);exact HX.f5 x)|(go_at_call 170;exact HX.f6 x)));go_big_quiet_on))));refine nj ?_);intro w5 aH;have aO:Hi (Bw w w5):=aY w5 aH;clear X0 X1 X2 X3 X4 X5 X6 aH;go_wp2;go_ret;exact⟨X,aO⟩
theorem afi(v:Int)(s n f t k:Q)(ma:Oo Ad)(m mc:Nat)(w:M)(hD:sf w)(hT:Cv w)(z1:s.size<=9223372036854775807)(z2:n.size<=9223372036854775807)(z3:f.size<=9223372036854775807)(z4:t.size<=9223372036854775807)(z5:k.size<=9223372036854775807):Cs prog 131 #[dm v s n f t k (S ma m mc)] w fun e w'=>dw (ij v s n f t k m) w e w':=by
 obtain⟨r1,h1⟩:=Fj (bu 2 s);obtain⟨r2,h2⟩:=Fj (Hz n);obtain⟨r3,h3⟩:=Fj (bu 9 f);obtain⟨r4,h4⟩:=Fj (bu 9 t);obtain⟨r5,h5⟩:=Fj (bu 5 k);have hB:∀(A:Array Vv) (T:TypeId) (x:bh (w.alloc (C A T))),Bw w x.v:=fun A T x=>bh.bel Be x;have HX:Hi (ub v s n f t k (S ma m mc) r1 r2 r3 r4 r5 w):=by show ub v s n f t k (S ma m mc) r1 r2 r3 r4 r5 w;have lay:∀(A:Array Vv) (T:TypeId) (x:bh (w.alloc (C A T))),sf x.v/\Cv x.v:=fun A T x=>⟨fun i hi=>((hB A T x).cell (bp (hD i hi))).trans (hD i hi),Utf8Tabs_below hT (hB A T x)⟩;have ft:∀(A:Array Vv) (T:TypeId) (x:bh (w.alloc (C A T))) (kk:Int) (u:Q) (r:Bool),u.size<=9223372036854775807->(r=true↔bu kk u)->Cs prog 138 #[I J kk,Y u] x.v fun e eE=>e=Rt (Bo r)/\∃y:bh (w.alloc (C A T)),eE=y.v:=fun A T x kk u r hz hr=>bh.callsR hr (Dh kk u x.v hz (lay A T x).1 (Bv u x.v hz (lay A T x).2));exact⟨fun x=>ft _ _ x 2 s r1 z1 h1,fun x=>bh.callsR h2 (afI n x.v z2 (lay _ _ x).2),fun x=>ft _ _ x 9 f r3 z3 h3,fun x=>ft _ _ x 9 t r4 z4 h4,fun x=>ft _ _ x 5 k r5 z5 h5,fun x=>bh.calls ((agv v x.v).mono fun _ _ q=>⟨q.1,by rw[q.2];exact By⟩)⟩
 rw[<-xd]at h1;rw[<-Fl]at h3 h4;rw[<-Ix]at h5;have no:∀{e:Ending} {w':M},¬ij v s n f t k m->e=Rt (Bo false)/\Bw w w'->dw (ij v s n f t k m) w e w':=fun hn q=>by rw[q.1];exact cg hn q.2
 by_cases g0:0<=v;case neg=>exact(afj v s n f t k ma m mc w r1 r2 r3 r4 r5 HX So).mono fun e w' q=>no (fun c=>g0 c.v0) q
 by_cases g1:v<=2;case neg=>exact(afk v s n f t k ma m mc w r1 r2 r3 r4 r5 HX So So).mono fun e w' q=>no (fun c=>g1 c.v2) q
 have d0:decide (0<=v)=true:=So;have d1:decide (v<=2)=true:=So
 cases r1 with
 |false=>exact(afl v s n f t k ma m mc w r2 r3 r4 r5 HX d0 d1).mono fun e w' q=>no (fun c=>by cases h1.2 c.ser) q
 |true=>
 cases r2 with
 |false=>exact(afm v s n f t k ma m mc w r3 r4 r5 HX d0 d1).mono fun e w' q=>no (fun c=>by cases h2.2 c.nam) q
 |true=>
 cases r3 with
 |false=>exact(afn v s n f t k ma m mc w r4 r5 HX d0 d1).mono fun e w' q=>no (fun c=>by cases h3.2 c.frm) q
 |true=>
 cases r4 with
 |false=>exact(afo v s n f t k ma m mc w r5 HX d0 d1).mono fun e w' q=>no (fun c=>by cases h4.2 c.til) q
 |true=>
 cases g6:(Op.bytesLess f.toList t.toList||f.toList==t.toList)with
 |false=>exact(afp v s n f t k ma m mc w r5 HX d0 d1 g6).mono fun e w' q=>no (fun c=>by rw[c.ord]at g6;cases g6) q
 |true=>
 cases r5 with
 |false=>exact(afq v s n f t k ma m mc w HX d0 d1 g6).mono fun e w' q=>no (fun c=>by cases h5.2 c.key) q
 |true=>
 by_cases g8:(m:Int)<=tf v;case neg=>exact(afr v s n f t k ma m mc w HX d0 d1 g6 So).mono fun e w' q=>no (fun c=>g8 c.mks) q
 exact(afs v s n f t k ma m mc w HX d0 d1 g6 So).mono fun e w' q=>by rw[q.1];exact ia ⟨g0,g1,h1.1 X,h2.1 X,h3.1 X,h4.1 X,g6,h5.1 X,g8⟩ q.2
end
section
open Go.ChangeShapes Go.WideShapes Go.ChangeAt Go.WideMaps Go.WideElems Go.RowKit Go.Lib
theorem abH:ownKnob Tryz.prog.godebug=Z:=Kr
theorem abA:laidOutB Tryz.prog=true:=Kr
abbrev wo:Ls (String×DataW Unit):=[("unicode/utf8.acceptRanges",Rows.laid_unicode_utf8_acceptRanges),("hallmark/fault.Schema",Rows.laid_hallmark_fault_Schema),("hallmark/fault.Long",Rows.laid_hallmark_fault_Long),("hallmark/fault.End",Rows.laid_hallmark_fault_End),("hallmark/fault.Tag",Rows.laid_hallmark_fault_Tag),("hallmark/fault.Length",Rows.laid_hallmark_fault_Length),("hallmark/fault.Value",Rows.laid_hallmark_fault_Value),("hallmark/fault.More",Rows.laid_hallmark_fault_More),("hallmark/fault.Order",Rows.laid_hallmark_fault_Order),("hallmark/fault.Default",Rows.laid_hallmark_fault_Default),("hallmark/fault.Deep",Rows.laid_hallmark_fault_Deep),("hallmark/fault.Tree",Rows.laid_hallmark_fault_Tree),("hallmark/fault.Card",Rows.laid_hallmark_fault_Card),("hallmark/fault.Mark",Rows.laid_hallmark_fault_Mark),("hallmark/content.monthDays",Rows.laid_hallmark_content_monthDays),("hallmark/schemas.ownNumbers",Rows.laid_hallmark_schemas_ownNumbers),("unicode/utf8.first",Rows.laid_unicode_utf8_first)]
theorem aa7:Tryz.prog.cellsOf 312=1:=Kr
theorem aa9:Tryz.prog.cellsOf 9=1:=Kr
theorem aa8:Tryz.prog.cellsOf 3=1:=Kr
theorem Sv: "*" ++ "errors.errorString" = "*errors.errorString" :=Dc
theorem abK(u:TypeId)(h:Tryz.prog.typeName? 3 u=U "*errors.errorString"):u=291:=
 typeName_ptr_named (nm:= "errors.errorString") (by rw[Sv];kernel_rfl) Kr Dc u (by rw[Sv];exact h)
theorem abe:Tryz.prog.globalNamed "hallmark/content.monthDays" =U 18:=Kr
theorem abh:(Tryz.prog.globals[18]?).map (·.type)=U 289:=Kr
theorem aaZ:Tryz.prog.cellsOf 289=12:=Kr
theorem abg:Tryz.prog.globalNamed "hallmark/schemas.ownNumbers" =U 16:=Kr
theorem abi:(Tryz.prog.globals[16]?).map (·.type)=U 281:=Kr
theorem aa4:Tryz.prog.cellsOf 281=13:=Kr
theorem Zi{name:String}{t:TypeId}{n:Nat}{zs:Ls Int}(hg:Tryz.prog.globalNamed name=U g)(vM:(Tryz.prog.globals[g]?).map (·.type)=U t)(ht:Tryz.prog.underlying t=U (.array n 3))(zZ:Tryz.prog.cellsOf t=n)(h:VarReads Tryz.prog W name (tabData .i64 zs))(i:Nat)(hi:i<zs.length):W.cell? (D g i Z)=U (.int .i64 (zs.getD i 0)):=by
 obtain⟨g',t',cs,gO,p,dY,qG,aeT,hd⟩:=h;obtain rfl:=dd (hg.symm.trans dY);obtain rfl:=dd (vM.symm.trans qG);have gP:=cells_of_tab ht Tryz.underlying3 aa8 zZ hd;rw[Mx hg aeT i,<-Qu,gP];simp[hi]
theorem adt(h:VarReads Tryz.prog W "hallmark/content.monthDays" Rows.laid_hallmark_content_monthDays):sf W:=fun i hi=>
 Zi (zs:=[31,28,31,30,31,30,31,31,30,31,30,31]) abe abh Tryz.underlying289 aaZ h i hi
theorem agO(h:VarReads Tryz.prog W "hallmark/schemas.ownNumbers" Rows.laid_hallmark_schemas_ownNumbers):ll W:=fun j hj=>by
 have:=Zi (zs:=[0,1,2,5,6,3,4,12,19,24,16,16,17]) abg abi Tryz.underlying281 aa4 h j So;rw[this];unfold own;rw[ld]
theorem abR:U8Extra Tryz.prog Kz where
 n3:=Kr
 n4:=Kr
 y3:=Kr
 y4:=Kr
 c5:=Kr
 c119:=Kr
 c138:=Kr
theorem abZ:(Rows.laid_unicode_utf8_acceptRanges:DataW Unit)=acceptData:=Kr
theorem aiu(h3:VarReads Tryz.prog W "unicode/utf8.first" Rows.laid_unicode_utf8_first)(h4:VarReads Tryz.prog W "unicode/utf8.acceptRanges" Rows.laid_unicode_utf8_acceptRanges):Cv W:=by
 rw[abZ]at h4;have e3:Rows.laid_unicode_utf8_first=firstData:=Kr;rw[e3]at h3;exact utf8Tabs_of_readsT (U8Types.of196 Sl) abR h3 h4
theorem Wg{P:Program}{d:DataW Unit}:∀{l:Ls (String×DataW Unit)} {ps:Ls MemPlace},DataW.LaidVars P w l ps->(n,d)∈l->
 ∃g t cs gO p,P.globalNamed n=U g/\(P.globals[g]?).map (·.type)=U t/\w.var? P n=U cs/\DataW.trod (fun _=>()) P w 0 (fun _=>true) false gO t cs.toList=U (d,p)/\∀x∈Mr (D g 0 Z) cs.size++p,x∈ps
 | [],_,_,hm=>by cases hm
 |(n',d')::r,ps,h,hm=>by
  obtain⟨g,t,cs,gO,p,q,h1,h2,h3,h4,h5,rfl⟩:=h
  rcases Lo.1 hm with e|e
  ·cases e
   exact⟨g,t,cs,gO,p,h1,h2,h3,h4,fun x hx=>Ay _ hx⟩
  ·obtain⟨g,t,cs,gO,p',h1,h2,h3,h4,h6⟩:=Wg h5 e
   exact⟨g,t,cs,gO,p',h1,h2,h3,h4,fun x hx=>List.mem_append_right _ (h6 x hx)⟩
theorem te(h:laidMet Tryz.prog wo W)(i:Nat){tx:Ls UInt8}{g:Nat}(hi:wo[i]? =U (n,.iface "*errors.errorString" (.ptr (.agg [.lit (.string tx)]))):=by rfl)(hg:Tryz.prog.globalNamed n=U g:=by kernel_rfl)(ht:(Tryz.prog.globals[g]?).map (·.type)=U 85:=by kernel_rfl):∃a:Ad,W.cell? (D g 0 Z)=U (.iface 291 (.pointer (U a)))/\(∃c t,W.heap[a.block]? =U (.cells c t (0,0)))/\∃s:Q,W.cell? a=U (.string s)/\s.data.toList=tx:=by
 obtain⟨ps,hv,_,hr⟩:=h;obtain⟨g',t',⟨cs⟩,f,p,e1,e2,e3,e4,e5⟩:=Wg hv (List.mem_of_getElem? hi);obtain rfl:=dd (hg.symm.trans e1);obtain rfl:=dd (ht.symm.trans e2);obtain⟨a,s,rfl,h1,h2,_,rfl⟩:=errorString_of_trod Tryz.underlying85 abK Tryz.underlying291 Tryz.underlying312 X X Tryz.underlying9 aa7 aa9 e4 fun u v e=>by subst e;exact(hr g 0 (e5 _ (by simp[Mr]))).2 u v (by simpa using Mx hg e3 0)
 exact⟨a,by simpa using Mx hg e3 0,(hr a.block a.off (e5 _ (by simp[Mr]))).1,s,h1,h2⟩
def Qj:DataW Unit->Ls UInt8
 | .iface _ (.ptr (.agg [.lit (.string l)]))=>l
 |_=> []
def Sn.text(s:Sn):Ls UInt8:=Qj ((wo.map (·.2)).getD (s.val+2) .nil)
theorem Sn.text_inj:∀s t:Sn,s.text=t.text->s=t:=Dc
theorem Sn.text_z:∀s:Sn,s.text≠Qj Rows.laid_hallmark_fault_Schema:=Dc
theorem af2(h:laidMetH Tryz.prog wo W):∃sn za,gy W sn/\kv W sn za:=by
 rw[MakeChecks.laidMetH_plain _ _ _ Kr]at h;have hD:=adt (laidMet.reads h Sq);have hN:=agO (laidMet.reads h Sq);have hT:=aiu (laidMet.reads h Sq) (laidMet.reads h Sq);have hs:∀s:Sn,∃a:Ad,W.cell? (D s.var 0 Z)=U (.iface 291 (.pointer (U a)))/\(∃c t,W.heap[a.block]? =U (.cells c t (0,0)))/\∃b:Q,W.cell? a=U (.string b)/\b.data.toList=s.text:=Sn.all (te h 2) (te h 3) (te h 4) (te h 5) (te h 6) (te h 7) (te h 8) (te h 9) (te h 10) (te h 11) (te h 12) (te h 13);obtain⟨za,z1,z2,zb,z3,z4⟩:=te h 1 (tx:=Qj Rows.laid_hallmark_fault_Schema) (g:=12);refine⟨fun s=>(hs s).choose,za,⟨⟨fun s=>(hs s).choose_spec.1,fun s=>(hs s).choose_spec.2.1,fun s t e=>?_⟩,hN,hD,hT⟩,z1,z2,fun s e=>?_⟩;·obtain⟨b,q1,q2⟩:=(hs s).choose_spec.2.2;obtain⟨b',r1,r2⟩:=(hs t).choose_spec.2.2;rw[show(hs s).choose=(hs t).choose from e,r1]at q1;injection q1 with q1;injection q1 with q1;subst q1;exact Sn.text_inj s t (q2.symm.trans r2)
 obtain⟨b,q1,q2⟩:=(hs s).choose_spec.2.2;rw[show(hs s).choose=za from e,z3]at q1;injection q1 with q1;injection q1 with q1;subst q1;exact Sn.text_z s (q2.symm.trans z4)
end
