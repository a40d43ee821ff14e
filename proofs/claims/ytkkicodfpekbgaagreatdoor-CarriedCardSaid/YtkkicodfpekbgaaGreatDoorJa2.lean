/-
Several texts in one.
-/
import Derived.Test.YtkkicodfpekbgaaGreatDoorJa1
import Derived.Lib.Bytealg
import Derived.Lib.ValidLaws
import Derived.Deep.RegionWith
namespace Go.Proofs.YtkkicodfpekbgaaGreatDoor
open Go.RowKit
set_option linter.unusedSimpArgs false
set_option linter.unusedVariables false
set_option maxRecDepth 100000
set_option maxHeartbeats 8000000
def signs:List UInt8:=[32,39,40,41,43,44,45,46,47,58,61,63]
def pr(x:Nat):Bool:=(65≤x&&x≤90)||(97≤x&&x≤122)||(48≤x&&x≤57)||signs.contains (UInt8.ofNat x)
def PrOk(t:ByteArray):Prop:=∀i,i<t.size→pr (b8 t i).toNat=true
theorem idx_signs:∀x:Fin 256,decide (0≤Lib.indexByte signs (Nat.toUInt8 x.val))=signs.contains (UInt8.ofNat x.val):=by decide+kernel
theorem Tryz.callIdx(t:ByteArray)(c:Int)(w:World):(callFunc 212 #[.string t,.int .u8 c]).run Tryz.prog w= .ok (.value (.int .i64 (Lib.indexByte t.data.toList c.toNat.toUInt8))) w:=by
 rw[@run_callFunc_extern Tryz.prog 212 _ Extern.BytealgIndexByte.indexByte Tryz.func212 (by kernel_rfl) (by kernel_rfl) (by kernel_rfl) (by kernel_rfl),Lib.run_indexByteString]
 rfl
theorem ret_b{a b:Bool}(h:a=b):Ending.returned (.bool a)= .returned (.bool b):=by rw[h]
theorem isPrintable_any(x:Nat)(w:World)(hx:x<256):
 Calls Tryz.prog 195 #[.int .u8 x] w fun e w'=>e= .returned (.bool (pr x))∧w'=w:=by
 by_cases h1:65≤x∧x≤90
 ·have HP:Hid (true=pr x):=by show _=_;simp[pr,h1]
  obtain⟨h1,h2⟩:=h1
  go_enter Tryz.func195,Tryz.ntmps195
  go_wp2
  go_ret
  exact⟨ret_b HP.out,rfl⟩
 by_cases h2:97≤x∧x≤122
 ·have HP:Hid (true=pr x):=by show _=_;simp[pr,h2]
  have h3:decide ((x:Int)≤90)=false:=decide_eq_false (by omega)
  obtain⟨h4,h5⟩:=h2
  clear h1
  go_enter Tryz.func195,Tryz.ntmps195
  go_wp2
  go_ret
  exact⟨ret_b HP.out,rfl⟩
 by_cases h3:48≤x∧x≤57
 ·have HP:Hid (true=pr x):=by show _=_;simp[pr,h3]
  have h4:decide ((65:Int)≤(x:Int))=false:=decide_eq_false (by omega)
  have h5:decide ((97:Int)≤(x:Int))=false:=decide_eq_false (by omega)
  obtain⟨h6,h7⟩:=h3
  clear h1 h2
  go_enter Tryz.func195,Tryz.ntmps195
  go_wp2
  go_ret
  exact⟨ret_b HP.out,rfl⟩
 have HP:Hid (decide (0≤Lib.indexByte signs (Nat.toUInt8 x))=pr x):=by
  show _=_
  rw[idx_signs ⟨x,hx⟩]
  have e1:(decide (65≤x)&&decide (x≤90))=false:=by simp;omega
  have e2:(decide (97≤x)&&decide (x≤122))=false:=by simp;omega
  have e3:(decide (48≤x)&&decide (x≤57))=false:=by simp;omega
  simp only[pr,e1,e2,e3,Bool.false_or]
 have hi:=Tryz.callIdx
 by_cases q1:x<48
 ·have c0:decide ((65:Int)≤(x:Int))=false:=decide_eq_false (by omega)
  have c1:decide ((x:Int)≤90)=true:=decide_eq_true (by omega)
  have c2:decide ((97:Int)≤(x:Int))=false:=decide_eq_false (by omega)
  have c3:decide ((x:Int)≤122)=true:=decide_eq_true (by omega)
  have c4:decide ((48:Int)≤(x:Int))=false:=decide_eq_false (by omega)
  have c5:decide ((x:Int)≤57)=true:=decide_eq_true (by omega)
  clear h1 h2 h3 hx
  go_enter Tryz.func195,Tryz.ntmps195
  go_wp2
  go_ret
  exact⟨ret_b HP.out,rfl⟩
 by_cases q2:x<65
 ·have c0:decide ((65:Int)≤(x:Int))=false:=decide_eq_false (by omega)
  have c1:decide ((x:Int)≤90)=true:=decide_eq_true (by omega)
  have c2:decide ((97:Int)≤(x:Int))=false:=decide_eq_false (by omega)
  have c3:decide ((x:Int)≤122)=true:=decide_eq_true (by omega)
  have c4:decide ((48:Int)≤(x:Int))=true:=decide_eq_true (by omega)
  have c5:decide ((x:Int)≤57)=false:=decide_eq_false (by omega)
  clear h1 h2 h3 hx
  go_enter Tryz.func195,Tryz.ntmps195
  go_wp2
  go_ret
  exact⟨ret_b HP.out,rfl⟩
 by_cases q3:x<97
 ·have c0:decide ((65:Int)≤(x:Int))=true:=decide_eq_true (by omega)
  have c1:decide ((x:Int)≤90)=false:=decide_eq_false (by omega)
  have c2:decide ((97:Int)≤(x:Int))=false:=decide_eq_false (by omega)
  have c3:decide ((x:Int)≤122)=true:=decide_eq_true (by omega)
  have c4:decide ((48:Int)≤(x:Int))=true:=decide_eq_true (by omega)
  have c5:decide ((x:Int)≤57)=false:=decide_eq_false (by omega)
  clear h1 h2 h3 hx
  go_enter Tryz.func195,Tryz.ntmps195
  go_wp2
  go_ret
  exact⟨ret_b HP.out,rfl⟩
 have c0:decide ((65:Int)≤(x:Int))=true:=decide_eq_true (by omega)
 have c1:decide ((x:Int)≤90)=false:=decide_eq_false (by omega)
 have c2:decide ((97:Int)≤(x:Int))=true:=decide_eq_true (by omega)
 have c3:decide ((x:Int)≤122)=false:=decide_eq_false (by omega)
 have c4:decide ((48:Int)≤(x:Int))=true:=decide_eq_true (by omega)
 have c5:decide ((x:Int)≤57)=false:=decide_eq_false (by omega)
 clear h1 h2 h3 hx
 go_enter Tryz.func195,Tryz.ntmps195
 go_wp2
 go_ret
 exact⟨ret_b HP.out,rfl⟩
theorem fitsPrintable_any(t:ByteArray)(w:World)(hm:t.size≤9223372036854775807):
 Calls Tryz.prog 177 #[.string t] w fun e w'=>RetB (PrOk t) w e w':=by
 go_enter Tryz.func177,Tryz.ntmps177
 go_wp2
 go_loop [6] (fun i=>∃k:Nat,k≤t.size∧i= .int .i64 k∧∀i,i<k→pr (b8 t i).toNat=true) (fun i=>t.size-(intOf i).toNat)
 case atStart=>exact⟨0,by omega,rfl,fun j h=>absurd h (Nat.not_lt_zero _)⟩
 case round=>
  obtain⟨k,hk,rfl,hj⟩:=hrel
  have HJ:Hid (∀i,i<k→pr (b8 t i).toNat=true):=hj
  clear hj
  by_cases hlt:k<t.size
  ·have HE:Hid ((b8 t k).toNat=t[k].toNat):=by show _=_;rw[←b8_get t k hlt];rfl
   have hx:t[k].toNat<256:=t[k].toNat_lt
   go_wp2_with fail
   refine(isPrintable_any t[k].toNat _ hx).mono ?_
   rintro e w2 ⟨rfl,hw⟩
   subst hw
   cases hb:pr t[k].toNat
   ·have HN:Hid (¬PrOk t):=fun h=>by
     have:=h k hlt
     rw[HE.out,hb]at this
     cases this
    clear hb
    go_wp2
    go_ret
    exact ret_no HN.out (drew0 _)
   ·have HX:Hid (∀i,i<k+1→pr (b8 t i).toNat=true):=fun i hi=>by
     by_cases e:i=k
     ·subst e;rw[HE.out];exact hb
     ·exact HJ.out i (by omega)
    clear hb
    go_wp2
    go_round
    case rel=>exact⟨k+1,by omega,by go_num,HX.out⟩
    case measure=>simp[intOf];omega
  ·have HY:Hid (PrOk t):=fun i hi=>HJ.out i (by omega)
   go_wp2
   go_ret
   exact ret_yes HY.out (drew0 w)
def goB(t:ByteArray)(a:Nat)(lo hi:Int):Bool:=decide (a<t.size∧lo≤b8 t a∧b8 t a≤hi)
def loB(b:Int):Int:=if b=224 then 160 else if b=240 then 144 else 128
def hiB(b:Int):Int:=if b=237 then 159 else if b=244 then 143 else 191
def chr(t:ByteArray)(a:Nat):Nat:=
 if b8 t a<128 then 1
 else if 194≤b8 t a∧b8 t a<224∧goB t (a+1) (loB (b8 t a)) (hiB (b8 t a))=true then 2
 else if 224≤b8 t a∧b8 t a<240∧goB t (a+1) (loB (b8 t a)) (hiB (b8 t a))=true∧goB t (a+2) 128 191=true then 3
 else if 240≤b8 t a∧b8 t a<245∧goB t (a+1) (loB (b8 t a)) (hiB (b8 t a))=true∧goB t (a+2) 128 191=true∧goB t (a+3) 128 191=true then 4
 else 0
theorem chr_1(t:ByteArray)(a:Nat)(h:b8 t a<128):chr t a=1:=by unfold chr;rw[if_pos h]
theorem chr_0(t:ByteArray)(a:Nat)(h:(128≤b8 t a∧b8 t a<194)∨245≤b8 t a):chr t a=0:=by
 unfold chr
 rw[if_neg (by omega),if_neg (by omega),if_neg (by omega),if_neg (by omega)]
theorem chr_2(t:ByteArray)(a:Nat)(lo hi:Int)(h0:194≤b8 t a)(h1:b8 t a<224)(hl:loB (b8 t a)=lo)(hh:hiB (b8 t a)=hi):chr t a=if goB t (a+1) lo hi=true then 2 else 0:=by
 unfold chr
 rw[if_neg (by omega),hl,hh]
 by_cases h:goB t (a+1) lo hi=true
 ·rw[if_pos ⟨h0,h1,h⟩,if_pos h]
 ·rw[if_neg (fun x=>h x.2.2),if_neg (by omega),if_neg (by omega),if_neg h]
theorem chr_3(t:ByteArray)(a:Nat)(lo hi:Int)(h0:224≤b8 t a)(h1:b8 t a<240)(hl:loB (b8 t a)=lo)(hh:hiB (b8 t a)=hi):chr t a=if goB t (a+1) lo hi=true∧goB t (a+2) 128 191=true then 3 else 0:=by
 unfold chr
 rw[if_neg (by omega),if_neg (by omega),hl,hh]
 by_cases h:goB t (a+1) lo hi=true∧goB t (a+2) 128 191=true
 ·rw[if_pos ⟨h0,h1,h.1,h.2⟩,if_pos h]
 ·rw[if_neg (fun x=>h x.2.2),if_neg (by omega),if_neg h]
theorem chr_4(t:ByteArray)(a:Nat)(lo hi:Int)(h0:240≤b8 t a)(h1:b8 t a<245)(hl:loB (b8 t a)=lo)(hh:hiB (b8 t a)=hi):chr t a=if goB t (a+1) lo hi=true∧goB t (a+2) 128 191=true∧goB t (a+3) 128 191=true then 4 else 0:=by
 unfold chr
 rw[if_neg (by omega),if_neg (by omega),if_neg (by omega),hl,hh]
 by_cases h:goB t (a+1) lo hi=true∧goB t (a+2) 128 191=true∧goB t (a+3) 128 191=true
 ·rw[if_pos ⟨h0,h1,h.1,h.2.1,h.2.2⟩,if_pos h]
 ·rw[if_neg (fun x=>h x.2.2),if_neg h]
def uTo(t:ByteArray):Nat→Nat→Prop
 |0,k=>t.size≤k
 |n+1,k=>t.size≤k∨(chr t k≠0∧uTo t n (k+chr t k))
def Utf8From(t:ByteArray)(k:Nat):Prop:=∃n,uTo t n k
def Utf8Ok(t:ByteArray):Prop:=Utf8From t 0
theorem utf8_end(t:ByteArray)(k:Nat)(h:t.size≤k):Utf8From t k:=⟨0,h⟩
theorem utf8_step(t:ByteArray)(k:Nat)(h:k<t.size):Utf8From t k↔chr t k≠0∧Utf8From t (k+chr t k):=by
 constructor
 ·rintro⟨n,hn⟩
  cases n with
  |zero=>have:t.size≤k:=hn;omega
  |succ n=>
   rcases hn with h'|⟨h1,h2⟩
   ·omega
   ·exact⟨h1,n,h2⟩
 ·rintro⟨h1,n,h2⟩
  exact⟨n+1,.inr ⟨h1,h2⟩⟩
theorem chr_le(t:ByteArray)(k:Nat)(h:k<t.size):k+chr t k≤t.size:=by
 have g:∀{a:Nat} {lo hi:Int},goB t a lo hi=true→a<t.size:=fun {a lo hi} e=>by
  unfold goB at e
  exact(of_decide_eq_true e).1
 unfold chr
 split
 ·omega
 split
 ·rename_i e;have:=g e.2.2;omega
 split
 ·rename_i e;have:=g e.2.2.2;omega
 split
 ·rename_i e;have:=g e.2.2.2.2;omega
 ·omega
end Go.Proofs.YtkkicodfpekbgaaGreatDoor
namespace Go.Proofs.YtkkicodfpekbgaaGreatDoor
open Go.Lib
set_option linter.unusedSimpArgs false
set_option linter.unusedVariables false
set_option maxRecDepth 100000
set_option maxHeartbeats 8000000
def bN(t:ByteArray)(i:Nat):Nat:=(t.data.toList.getD i 0).toNat
theorem b8_bN(t:ByteArray)(i:Nat):b8 t i=(bN t i:Int):=rfl
theorem bN_lt(t:ByteArray)(i:Nat):bN t i<256:=(t.data.toList.getD i 0).toNat_lt
theorem bN_drop(t:ByteArray)(k i:Nat):((t.data.toList.drop k).getD i 0).toNat=bN t (k+i):=by
 unfold bN
 simp[List.getD_eq_getElem?_getD,List.getElem?_drop]
theorem goB_iff(t:ByteArray)(a:Nat)(lo hi:Nat):goB t a lo hi=true↔a<t.size∧lo≤bN t a∧bN t a≤hi:=by
 unfold goB
 rw[decide_eq_true_iff,b8_bN]
 omega
def told(c:Nat):Option Nat:=if c=0 then none else some c
theorem told_ite(p:Prop) [Decidable p](q:Prop) [Decidable q](c:Nat)(hc:c≠0)(h:p↔¬q):(if q then none else some c)=told (if p then c else 0):=by
 by_cases hq:q
 ·rw[if_pos hq,if_neg (fun hp=>(h.1 hp) hq)];rfl
 ·rw[if_neg hq,if_pos (h.2 hq)];unfold told;rw[if_neg hc]
theorem check_2(t:ByteArray)(k lo hi:Nat)(h0:194≤bN t k)(h1:bN t k<224)(hl:loB (b8 t k)=(lo:Int))(hh:hiB (b8 t k)=(hi:Int)):
 checkN (t.size-k) (bN t (k+1)) (bN t (k+2)) (bN t (k+3)) 2 lo hi=told (chr t k):=by
 rw[chr_2 t k lo hi (by rw[b8_bN];omega) (by rw[b8_bN];omega) hl hh]
 unfold checkN
 rw[if_pos rfl]
 refine told_ite _ _ 2 (by omega) ?_
 rw[goB_iff]
 omega
theorem check_3(t:ByteArray)(k lo hi:Nat)(h0:224≤bN t k)(h1:bN t k<240)(hl:loB (b8 t k)=(lo:Int))(hh:hiB (b8 t k)=(hi:Int)):
 checkN (t.size-k) (bN t (k+1)) (bN t (k+2)) (bN t (k+3)) 3 lo hi=told (chr t k):=by
 rw[chr_3 t k lo hi (by rw[b8_bN];omega) (by rw[b8_bN];omega) hl hh]
 unfold checkN
 rw[if_neg (by omega),if_pos rfl]
 refine told_ite _ _ 3 (by omega) ?_
 rw[goB_iff,show((128:Int)=((128:Nat):Int))from rfl,show((191:Int)=((191:Nat):Int))from rfl,goB_iff]
 omega
theorem check_4(t:ByteArray)(k lo hi:Nat)(h0:240≤bN t k)(h1:bN t k<245)(hl:loB (b8 t k)=(lo:Int))(hh:hiB (b8 t k)=(hi:Int)):
 checkN (t.size-k) (bN t (k+1)) (bN t (k+2)) (bN t (k+3)) 4 lo hi=told (chr t k):=by
 rw[chr_4 t k lo hi (by rw[b8_bN];omega) (by rw[b8_bN];omega) hl hh]
 unfold checkN
 rw[if_neg (by omega),if_neg (by omega),if_pos rfl]
 refine told_ite _ _ 4 (by omega) ?_
 rw[goB_iff,show((128:Int)=((128:Nat):Int))from rfl,show((191:Int)=((191:Nat):Int))from rfl,goB_iff,goB_iff]
 omega
theorem check_chr(t:ByteArray)(k:Nat)(h:128≤bN t k):
 checkN (t.size-k) (bN t (k+1)) (bN t (k+2)) (bN t (k+3)) (firstT (bN t k)%8) (accLo (firstT (bN t k)/16)) (accHi (firstT (bN t k)/16))=told (chr t k):=by
 have key:∀x sz lo hi,firstT (bN t k)=x→x%8=sz→accLo (x/16)=lo→accHi (x/16)=hi→checkN (t.size-k) (bN t (k+1)) (bN t (k+2)) (bN t (k+3)) sz lo hi=told (chr t k)→
  checkN (t.size-k) (bN t (k+1)) (bN t (k+2)) (bN t (k+3)) (firstT (bN t k)%8) (accLo (firstT (bN t k)/16)) (accHi (firstT (bN t k)/16))=told (chr t k):=fun x sz lo hi e0 e1 e2 e3 he=>by
  rw[e0,e1,e2,e3];exact he
 have hb:=bN_lt t k
 have e8:=b8_bN t k
 have n128:¬bN t k<128:=by omega
 have bad:firstT (bN t k)=241→chr t k=0→checkN (t.size-k) (bN t (k+1)) (bN t (k+2)) (bN t (k+3)) (firstT (bN t k)%8) (accLo (firstT (bN t k)/16)) (accHi (firstT (bN t k)/16))=told (chr t k):=fun e0 ec=>by
  rw[e0,ec];rfl
 by_cases c0:bN t k<194
 ·exact bad (by unfold firstT;rw[if_neg n128,if_pos c0]) (chr_0 t k (.inl (by rw[e8];omega)))
 by_cases c1:bN t k<224
 ·exact key 2 2 128 191 (by unfold firstT;rw[if_neg n128,if_neg c0,if_pos c1]) (by decide) (by decide) (by decide)
   (check_2 t k 128 191 (by omega) c1 (by rw[e8];unfold loB;rw[if_neg (by omega),if_neg (by omega)];rfl) (by rw[e8];unfold hiB;rw[if_neg (by omega),if_neg (by omega)];rfl))
 by_cases c2:bN t k=224
 ·exact key 19 3 160 191 (by rw[c2];decide) (by decide) (by decide) (by decide)
   (check_3 t k 160 191 (by omega) (by omega) (by rw[e8,c2];decide) (by rw[e8,c2];decide))
 by_cases c3:bN t k<237
 ·exact key 3 3 128 191 (by unfold firstT;rw[if_neg n128,if_neg c0,if_neg c1,if_neg c2,if_pos c3]) (by decide) (by decide) (by decide)
   (check_3 t k 128 191 (by omega) (by omega) (by rw[e8];unfold loB;rw[if_neg (by omega),if_neg (by omega)];rfl) (by rw[e8];unfold hiB;rw[if_neg (by omega),if_neg (by omega)];rfl))
 by_cases c4:bN t k=237
 ·exact key 35 3 128 159 (by rw[c4];decide) (by decide) (by decide) (by decide)
   (check_3 t k 128 159 (by omega) (by omega) (by rw[e8,c4];decide) (by rw[e8,c4];decide))
 by_cases c5:bN t k<240
 ·exact key 3 3 128 191 (by unfold firstT;rw[if_neg n128,if_neg c0,if_neg c1,if_neg c2,if_neg c3,if_neg c4,if_pos c5]) (by decide) (by decide) (by decide)
   (check_3 t k 128 191 (by omega) (by omega) (by rw[e8];unfold loB;rw[if_neg (by omega),if_neg (by omega)];rfl) (by rw[e8];unfold hiB;rw[if_neg (by omega),if_neg (by omega)];rfl))
 by_cases c6:bN t k=240
 ·exact key 52 4 144 191 (by rw[c6];decide) (by decide) (by decide) (by decide)
   (check_4 t k 144 191 (by omega) (by omega) (by rw[e8,c6];decide) (by rw[e8,c6];decide))
 by_cases c7:bN t k<244
 ·exact key 4 4 128 191 (by unfold firstT;rw[if_neg n128,if_neg c0,if_neg c1,if_neg c2,if_neg c3,if_neg c4,if_neg c5,if_neg c6,if_pos c7]) (by decide) (by decide) (by decide)
   (check_4 t k 128 191 (by omega) (by omega) (by rw[e8];unfold loB;rw[if_neg (by omega),if_neg (by omega)];rfl) (by rw[e8];unfold hiB;rw[if_neg (by omega),if_neg (by omega)];rfl))
 by_cases c8:bN t k=244
 ·exact key 68 4 128 143 (by rw[c8];decide) (by decide) (by decide) (by decide)
   (check_4 t k 128 143 (by omega) (by omega) (by rw[e8,c8];decide) (by rw[e8,c8];decide))
 ·exact bad (by unfold firstT;rw[if_neg n128,if_neg c0,if_neg c1,if_neg c2,if_neg c3,if_neg c4,if_neg c5,if_neg c6,if_neg c7,if_neg c8]) (chr_0 t k (.inr (by rw[e8];omega)))
theorem size_list(t:ByteArray):t.data.toList.length=t.size:=Array.length_toList
theorem valid_chr(t:ByteArray)(k:Nat)(hk:k<t.size):
 validD (t.data.toList.drop k)=if chr t k=0 then false else validD (t.data.toList.drop (k+chr t k)):=by
 have hlen:(t.data.toList.drop k).length=t.size-k:=by rw[List.length_drop,size_list]
 have hne:t.data.toList.drop k≠ []:=fun e=>by rw[e]at hlen;simp at hlen;omega
 by_cases h:bN t k<128
 ·have hc:chr t k=1:=chr_1 t k (by rw[b8_bN];omega)
  have hk':k<t.data.toList.length:=by rw[size_list];exact hk
  rw[hc,if_neg (by omega),List.drop_eq_getElem_cons hk',validD_cons]
  have:bN t k=t.data.toList[k].toNat:=by
   unfold bN
   rw[List.getD_eq_getElem?_getD,List.getElem?_eq_getElem hk']
   rfl
  omega
 ·rw[validD_lead _ hne (by rw[bN_drop];show 128≤bN t k;omega),hlen,bN_drop,bN_drop,bN_drop,bN_drop]
  show(match checkN (t.size-k) (bN t (k+1)) (bN t (k+2)) (bN t (k+3)) (firstT (bN t k)%8) (accLo (firstT (bN t k)/16)) (accHi (firstT (bN t k)/16))with
   |none=>false
   |some j=>validD ((t.data.toList.drop k).drop j))=_
  rw[check_chr t k (by omega)]
  unfold told
  by_cases hc:chr t k=0
  ·rw[if_pos hc,if_pos hc]
  ·rw[if_neg hc,if_neg hc]
   show validD ((t.data.toList.drop k).drop (chr t k))=_
   rw[List.drop_drop]
theorem utf8_valid_from(t:ByteArray):∀(n k:Nat),t.size-k≤n→k≤t.size→(Utf8From t k↔validD (t.data.toList.drop k)=true)
 |n,k,hn,hk=>by
  by_cases he:k=t.size
  ·have:t.data.toList.drop k=[]:=List.drop_eq_nil_of_le (by rw[size_list];omega)
   rw[this,validD_nil]
   exact⟨fun _=>rfl,fun _=>utf8_end t k (by omega)⟩
  ·have hk':k<t.size:=by omega
   rw[utf8_step t k hk',valid_chr t k hk']
   by_cases hc:chr t k=0
   ·rw[if_pos hc]
    exact⟨fun h=>absurd hc h.1,fun h=>by cases h⟩
   ·rw[if_neg hc]
    match n,hn with
    |0,hn=>omega
    |n+1,hn=>
     have ih:=utf8_valid_from t n (k+chr t k) (by omega) (chr_le t k hk')
     exact⟨fun h=>ih.1 h.2,fun h=>⟨hc,ih.2 h⟩⟩
theorem utf8_valid(t:ByteArray):Utf8Ok t↔validD t.data.toList=true:=by
 have:=utf8_valid_from t t.size 0 (by omega) (by omega)
 rw[List.drop_zero]at this
 exact this
end Go.Proofs.YtkkicodfpekbgaaGreatDoor
namespace Go.Proofs.YtkkicodfpekbgaaGreatDoor
open Go.RowKit
set_option linter.unusedSimpArgs false
set_option linter.unusedVariables false
set_option maxRecDepth 100000
set_option maxHeartbeats 8000000
def decTo(s:ByteArray):Nat→Int
 |0=>0
 |k+1=>decTo s k*10+(b8 s k-48)
def DigTo(s:ByteArray)(n:Nat):Prop:=∀i,i<n→48≤b8 s i∧b8 s i≤57
theorem decTo_bd(s:ByteArray)(k:Nat)(hk:k≤4)(h:DigTo s k):0≤decTo s k∧decTo s k<10000:=by
 match k,hk,h with
 |0,_,_=>simp[decTo]
 |1,_,h=>have:=h 0 (by omega);simp only[decTo];omega
 |2,_,h=>have:=h 0 (by omega);have:=h 1 (by omega);simp only[decTo];omega
 |3,_,h=>have:=h 0 (by omega);have:=h 1 (by omega);have:=h 2 (by omega);simp only[decTo];omega
 |4,_,h=>have:=h 0 (by omega);have:=h 1 (by omega);have:=h 2 (by omega);have:=h 3 (by omega);simp only[decTo];omega
theorem decimal_any(s:ByteArray)(w:World)(h4:s.size≤4)(hd:DigTo s s.size):
 Calls Tryz.prog 197 #[.string s] w fun e w'=>e= .returned (.int .i64 (decTo s s.size))∧w'=w:=by
 have HD:Hid (DigTo s s.size):=hd
 clear hd
 go_enter Tryz.func197,Tryz.ntmps197
 go_wp2
 go_loop [3,7] (fun n i=>∃k:Nat,k≤s.size∧i= .int .i64 k∧n= .int .i64 (decTo s k)) (fun _ i=>s.size-(intOf i).toNat)
 case atStart=>exact⟨0,by omega,rfl,rfl⟩
 case round=>
  obtain⟨k,hk,rfl,rfl⟩:=hrel
  have hb:=decTo_bd s k (by omega) (fun i hi=>HD.out i (by omega))
  have hb0:0≤decTo s k:=hb.1
  have hb1:decTo s k<10000:=hb.2
  clear hb
  by_cases hlt:k<s.size
  ·have HE:Hid ((s[k].toNat:Int)=b8 s k):=b8_get s k hlt
   have hx:=HD.out k hlt
   have hx0:48≤(s[k].toNat:Int):=by rw[HE.out];exact hx.1
   have hx1:(s[k].toNat:Int)≤57:=by rw[HE.out];exact hx.2
   clear hx
   go_wp2
   go_round
   case rel=>exact⟨k+1,by omega,by go_num,by show _=Value.int .i64 (decTo s k*10+(b8 s k-48));rw[←HE.out]⟩
   case measure=>simp[intOf];omega
  ·have hkc:s.size=k:=by omega
   have HF:Hid (decTo s k=decTo s s.size):=by show _=_;rw[hkc]
   clear hkc
   go_wp2
   go_ret
   exact⟨ret_i64 HF.out,rfl⟩
def lastDay(y m:Int):Int:=if m=2 then(if y%400=0∨y%4=0∧y%100≠0 then 29 else 28)else if m=4∨m=6∨m=9∨m=11 then 30 else 31
def Days(w:World):Prop:=∀i,i<12→w.cell? ⟨18,i,none⟩=some (.int .i64 ([31,28,31,30,31,30,31,31,30,31,30,31].getD i 0))
theorem Days.drew{w:World}(h:Days w)(k:Nat):Days (w.drewN k):=h
theorem isLeap_any(y:Int)(w:World)(h0:0≤y)(h1:y<10000):
 Calls Tryz.prog 210 #[.int .i64 y] w fun e w'=>e= .returned (.bool (decide (y%400=0∨y%4=0∧y%100≠0)))∧w'=w:=by
 by_cases h4:y%4=0
 ·have h4':(y%4==0)=true:=beq_iff_eq.2 h4
  by_cases h100:y%100=0
  ·have h100':(y%100!=0)=false:=by rw[bne_eq_false_iff_eq];exact h100
   have HB:Hid ((y%400==0)=decide (y%400=0∨y%4=0∧y%100≠0)):=by
    show _=_
    rw[Bool.eq_iff_iff,beq_iff_eq,decide_eq_true_iff];omega
   clear h4 h100
   go_enter Tryz.func210,Tryz.ntmps210
   go_wp2
   go_ret
   exact⟨ret_b HB.out,rfl⟩
  ·have h100':(y%100!=0)=true:=by rw[bne_iff_ne];exact h100
   have HB:Hid (true=decide (y%400=0∨y%4=0∧y%100≠0)):=by
    show _=_
    rw[eq_comm,decide_eq_true_iff];omega
   clear h4 h100
   go_enter Tryz.func210,Tryz.ntmps210
   go_wp2
   go_ret
   exact⟨ret_b HB.out,rfl⟩
 ·have h4':(y%4==0)=false:=beq_eq_false_iff_ne.2 h4
  have HB:Hid ((y%400==0)=decide (y%400=0∨y%4=0∧y%100≠0)):=by
   show _=_
   rw[Bool.eq_iff_iff,beq_iff_eq,decide_eq_true_iff];omega
  clear h4
  go_enter Tryz.func210,Tryz.ntmps210
  go_wp2
  go_ret
  exact⟨ret_b HB.out,rfl⟩
theorem lastDay_any(y:Int)(m:Nat)(w:World)(h0:0≤y)(h1:y<10000)(hm0:1≤m)(hm1:m≤12)(hD:Days w):
 Calls Tryz.prog 207 #[.int .i64 y,.int .i64 m] w fun e w'=>e= .returned (.int .i64 (lastDay y m))∧w'=w:=by
 have hc:w.cell? ⟨18,m-1,none⟩=some (.int .i64 ([31,28,31,30,31,30,31,31,30,31,30,31].getD (m-1) 0)):=hD (m-1) (by omega)
 clear hD
 by_cases h2:m=2
 ·have HL:Hid (Calls Tryz.prog 210 #[.int .i64 y] w fun e w'=>e= .returned (.bool (decide (y%400=0∨y%4=0∧y%100≠0)))∧w'=w):=isLeap_any y w h0 h1
  subst h2
  have hl:lastDay y ((2:Nat):Int)=if y%400=0∨y%4=0∧y%100≠0 then 29 else 28:=rfl
  rw[hl]
  by_cases hy:y%400=0∨y%4=0∧y%100≠0
  ·rw[if_pos hy]
   rw[decide_eq_true hy]at HL
   clear hy hl
   go_enter Tryz.func207,Tryz.ntmps207
   go_wp2_with fail
   refine Calls.mono HL.out ?_
   rintro e w2 ⟨rfl,rfl⟩
   go_wp2_with fail
   go_ret
   exact⟨rfl,rfl⟩
  ·rw[if_neg hy]
   rw[decide_eq_false hy]at HL
   clear hy hl
   go_enter Tryz.func207,Tryz.ntmps207
   go_wp2_with fail
   refine Calls.mono HL.out ?_
   rintro e w2 ⟨rfl,hw⟩
   subst hw
   go_wp2_with fail
   go_ret
   exact⟨rfl,rfl⟩
 ·have h2':((m:Int)==2)=false:=by rw[beq_eq_false_iff_ne];omega
  have HV:Hid ([31,28,31,30,31,30,31,31,30,31,30,31].getD (m-1) 0=lastDay y m):=by
   show _=_
   obtain⟨j,rfl⟩:∃j,m=j+1:=⟨m-1,by omega⟩
   match j,hm1,h2 with
   |0,_,_=>rfl
   |2,_,_=>rfl
   |3,_,_=>rfl
   |4,_,_=>rfl
   |5,_,_=>rfl
   |6,_,_=>rfl
   |7,_,_=>rfl
   |8,_,_=>rfl
   |9,_,_=>rfl
   |10,_,_=>rfl
   |11,_,_=>rfl
  generalize([31,28,31,30,31,30,31,31,30,31,30,31].getD (m-1) 0:Int)=v at hc HV
  clear h2
  go_enter Tryz.func207,Tryz.ntmps207
  go_wp2
  go_ret
  exact⟨ret_i64 HV.out,rfl⟩
def dec(t:ByteArray)(a b:Nat):Int:=decTo (t.extract a b) (t.extract a b).size
def DayOk(y m d:Int):Prop:=1≤m∧m≤12∧1≤d∧d≤lastDay y m
def TimeOk(t:ByteArray):Prop:=t.size=15∧b8 t 14=90∧DigTo t 14∧DayOk (dec t 0 4) (dec t 4 6) (dec t 6 8)∧dec t 8 10≤23∧dec t 10 12≤59∧dec t 12 14≤59
theorem b8_cut(t:ByteArray)(a b i:Nat)(hi:i<b-a)(_hb:b≤t.size):b8 (t.extract a b) i=b8 t (a+i):=by
 unfold b8
 rw[Lib.extract_data]
 rw[List.getD_eq_getElem?_getD,List.getD_eq_getElem?_getD]
 first
  |(rw[List.getElem?_take_of_lt hi,List.getElem?_drop];done)
  |(simp[List.getElem?_take_of_lt hi,List.getElem?_drop];done)
theorem dig_cut{t:ByteArray}(h:DigTo t 14)(hs:t.size=15)(a b:Nat)(hb:b≤14):DigTo (t.extract a b) (t.extract a b).size:=by
 intro i hi
 rw[ByteArray.size_extract]at hi
 rw[b8_cut t a b i (by omega) (by omega)]
 exact h (a+i) (by omega)
theorem dec_bd{t:ByteArray}(h:DigTo t 14)(hs:t.size=15)(a b:Nat)(hb:b≤14)(hab:b-a≤4):0≤dec t a b∧dec t a b<10000:=
 decTo_bd _ _ (by rw[ByteArray.size_extract];omega) (dig_cut h hs a b hb)
theorem dec_bd2{t:ByteArray}(h:DigTo t 14)(hs:t.size=15)(a:Nat)(hb:a+2≤14):0≤dec t a (a+2)∧dec t a (a+2)<100:=by
 unfold dec
 have hz:(t.extract a (a+2)).size=2:=by rw[ByteArray.size_extract];omega
 have hd:=dig_cut h hs a (a+2) hb
 rw[hz]at hd ⊢
 have h0:=hd 0 (by omega)
 have h1:=hd 1 (by omega)
 simp only[decTo]
 omega
theorem isDate_any(y:Int)(m d:Nat)(w:World)(h0:0≤y)(h1:y<10000)(hm:m<100)(hd:d<100)(hD:Days w):
 Calls Tryz.prog 198 #[.int .i64 y,.int .i64 m,.int .i64 d] w fun e w'=>∃r,e= .returned (.bool r)∧(r=true↔DayOk y m d)∧w'=w:=by
 have HD:Hid (Days w):=hD
 clear hD
 by_cases q1:1≤m∧m≤12
 ·obtain⟨a1,a2⟩:=q1
  by_cases q2:1≤d
  ·have HL:Hid (Calls Tryz.prog 207 #[.int .i64 y,.int .i64 m] w fun e w'=>e= .returned (.int .i64 (lastDay y m))∧w'=w):=lastDay_any y m w h0 h1 a1 a2 HD.out
   have HI:Hid (decide ((d:Int)≤lastDay y m)=true↔DayOk y m d):=by
    show _↔_
    rw[decide_eq_true_iff]
    exact⟨fun h=>⟨by omega,by omega,by omega,h⟩,fun h=>h.2.2.2⟩
   generalize lastDay y m=L at HL HI
   go_enter Tryz.func198,Tryz.ntmps198
   go_wp2_with fail
   refine Calls.mono HL.out ?_
   rintro e w2 ⟨rfl,hw⟩
   subst hw
   go_wp2_with fail
   go_ret
   exact⟨_,rfl,HI.out,rfl⟩
  ·have HN:Hid (¬DayOk y m d):=fun h=>by have:=h.2.2.1;omega
   have c1:decide ((1:Int)≤(d:Int))=false:=decide_eq_false (by omega)
   go_enter Tryz.func198,Tryz.ntmps198
   go_wp2
   go_ret
   exact⟨false,rfl,⟨fun e=>(by cases e),fun h=>absurd h HN.out⟩,rfl⟩
 ·have HN:Hid (¬DayOk y m d):=fun h=>q1 ⟨by have:=h.1;omega,by have:=h.2.1;omega⟩
  by_cases q3:1≤m
  ·have c1:decide ((m:Int)≤12)=false:=decide_eq_false (by omega)
   clear q1
   go_enter Tryz.func198,Tryz.ntmps198
   go_wp2
   go_ret
   exact⟨false,rfl,⟨fun e=>(by cases e),fun h=>absurd h HN.out⟩,rfl⟩
  ·have c1:decide ((1:Int)≤(m:Int))=false:=decide_eq_false (by omega)
   clear q1
   go_enter Tryz.func198,Tryz.ntmps198
   go_wp2
   go_ret
   exact⟨false,rfl,⟨fun e=>(by cases e),fun h=>absurd h HN.out⟩,rfl⟩
theorem drew2{w w1:World}{a:Nat}(h:w.drewN a=w1)(b:Nat):∃k,w1.drewN b=w.drewN k:=⟨a+b,by rw[←h,World.drewN_drewN]⟩
theorem timeOk_iff{t:ByteArray}(hs:t.size=15)(hz:b8 t 14=90)(hg:DigTo t 14):TimeOk t↔DayOk (dec t 0 4) (dec t 4 6) (dec t 6 8)∧dec t 8 10≤23∧dec t 10 12≤59∧dec t 12 14≤59:=
 ⟨fun h=>h.2.2.2,fun h=>⟨hs,hz,hg,h⟩⟩
theorem fitsTime_any(t:ByteArray)(w:World)(hm:t.size≤9223372036854775807)(hD:Days w):
 Calls Tryz.prog 178 #[.string t] w fun e w'=>RetB (TimeOk t) w e w':=by
 have HD:Hid (Days w):=hD
 clear hD
 by_cases hs:t.size=15
 ·have hs':((t.size:Int)!=15)=false:=by rw[bne_eq_false_iff_eq];omega
  have h14:14<t.size:=by omega
  have h14':(14:Int)<t.size:=by omega
  have HZ:Hid ((t[14].toNat:Int)=b8 t 14):=b8_get t 14 h14
  have HS:Hid (t.size=15):=hs
  have hge:15≤t.size:=by omega
  clear hs
  by_cases hz:(t[14].toNat:Int)=90
  ·have hz':((t[14].toNat:Int)!=90)=false:=by rw[bne_eq_false_iff_eq];exact hz
   have HZ2:Hid (b8 t 14=90):=by show _=_;rw[←HZ.out];exact hz
   clear hz
   go_enter Tryz.func178,Tryz.ntmps178
   go_wp2
   go_loop [18] (fun i=>∃k:Nat,k≤14∧i= .int .i64 k∧DigTo t k) (fun i=>14-(intOf i).toNat)
   case atStart=>exact⟨0,by omega,rfl,fun j h=>absurd h (Nat.not_lt_zero _)⟩
   case round=>
    obtain⟨k,hk,rfl,hg⟩:=hrel
    have HG:Hid (DigTo t k):=hg
    clear hg
    by_cases hlt:k<14
    ·have hkt:k<t.size:=by omega
     have HE:Hid ((t[k].toNat:Int)=b8 t k):=b8_get t k hkt
     by_cases hd:48≤(t[k].toNat:Int)∧(t[k].toNat:Int)≤57
     ·have HX:Hid (DigTo t (k+1)):=fun i hi=>by
       by_cases e:i=k
       ·subst e;rw[←HE.out];exact hd
       ·exact HG.out i (by omega)
      obtain⟨d1,d2⟩:=hd
      go_wp2
      go_round
      case rel=>exact⟨k+1,by omega,by go_num,HX.out⟩
      case measure=>simp[intOf];omega
     ·have HN:Hid (¬TimeOk t):=fun h=>hd (by rw[HE.out];exact h.2.2.1 k hlt)
      by_cases d1:48≤(t[k].toNat:Int)
      ·have c1:decide ((t[k].toNat:Int)≤57)=false:=decide_eq_false (by omega)
       clear hd
       go_wp2
       go_ret
       exact ret_no HN.out (drew0 w)
      ·have c1:decide ((48:Int)≤(t[k].toNat:Int))=false:=decide_eq_false d1
       clear hd
       go_wp2
       go_ret
       exact ret_no HN.out (drew0 w)
    ·have hk14:k=14:=by omega
     subst hk14
     have HG:DigTo t 14:=HG.out
     have hs:=HS.out
     have PY:Hid (∀w,Calls Tryz.prog 197 #[.string (t.extract 0 4)] w fun e w'=>e= .returned (.int .i64 (dec t 0 4))∧w'=w):=fun w=>decimal_any _ w (by rw[ByteArray.size_extract];omega) (dig_cut HG hs 0 4 (by omega))
     have PMo:Hid (∀w,Calls Tryz.prog 197 #[.string (t.extract 4 6)] w fun e w'=>e= .returned (.int .i64 (dec t 4 6))∧w'=w):=fun w=>decimal_any _ w (by rw[ByteArray.size_extract];omega) (dig_cut HG hs 4 6 (by omega))
     have PDa:Hid (∀w,Calls Tryz.prog 197 #[.string (t.extract 6 8)] w fun e w'=>e= .returned (.int .i64 (dec t 6 8))∧w'=w):=fun w=>decimal_any _ w (by rw[ByteArray.size_extract];omega) (dig_cut HG hs 6 8 (by omega))
     have PHo:Hid (∀w,Calls Tryz.prog 197 #[.string (t.extract 8 10)] w fun e w'=>e= .returned (.int .i64 (dec t 8 10))∧w'=w):=fun w=>decimal_any _ w (by rw[ByteArray.size_extract];omega) (dig_cut HG hs 8 10 (by omega))
     have PMi:Hid (∀w,Calls Tryz.prog 197 #[.string (t.extract 10 12)] w fun e w'=>e= .returned (.int .i64 (dec t 10 12))∧w'=w):=fun w=>decimal_any _ w (by rw[ByteArray.size_extract];omega) (dig_cut HG hs 10 12 (by omega))
     have PSe:Hid (∀w,Calls Tryz.prog 197 #[.string (t.extract 12 14)] w fun e w'=>e= .returned (.int .i64 (dec t 12 14))∧w'=w):=fun w=>decimal_any _ w (by rw[ByteArray.size_extract];omega) (dig_cut HG hs 12 14 (by omega))
     have HT:Hid (TimeOk t↔DayOk (dec t 0 4) (dec t 4 6) (dec t 6 8)∧dec t 8 10≤23∧dec t 10 12≤59∧dec t 12 14≤59):=timeOk_iff hs HZ2.out HG
     obtain⟨y0,y1⟩:=dec_bd HG hs 0 4 (by omega) (by omega)
     obtain⟨vMo,eMo⟩:=Int.eq_ofNat_of_zero_le (dec_bd2 HG hs 4 (by omega)).1
     have lMo:vMo<100:=by have:=(dec_bd2 HG hs 4 (by omega)).2;omega
     rw[eMo]at PMo HT
     obtain⟨vDa,eDa⟩:=Int.eq_ofNat_of_zero_le (dec_bd2 HG hs 6 (by omega)).1
     have lDa:vDa<100:=by have:=(dec_bd2 HG hs 6 (by omega)).2;omega
     rw[eDa]at PDa HT
     obtain⟨vHo,eHo⟩:=Int.eq_ofNat_of_zero_le (dec_bd2 HG hs 8 (by omega)).1
     have lHo:vHo<100:=by have:=(dec_bd2 HG hs 8 (by omega)).2;omega
     rw[eHo]at PHo HT
     obtain⟨vMi,eMi⟩:=Int.eq_ofNat_of_zero_le (dec_bd2 HG hs 10 (by omega)).1
     have lMi:vMi<100:=by have:=(dec_bd2 HG hs 10 (by omega)).2;omega
     rw[eMi]at PMi HT
     obtain⟨vSe,eSe⟩:=Int.eq_ofNat_of_zero_le (dec_bd2 HG hs 12 (by omega)).1
     have lSe:vSe<100:=by have:=(dec_bd2 HG hs 12 (by omega)).2;omega
     rw[eSe]at PSe HT
     generalize dec t 0 4=vY at PY HT y0 y1
     have z8:(8:Int)≤t.size:=by omega
     have z10:(10:Int)≤t.size:=by omega
     have z12:(12:Int)≤t.size:=by omega
     have z14:(14:Int)≤t.size:=by omega
     clear HG hs eMo eDa eHo eMi eSe
     go_wp2_with fail
     go_quiet ((first|(go_at_call_of 197 (Value.string (t.extract 0 4));exact Calls.quiet_of_same (PY.out _))|(go_at_call_of 197 (Value.string (t.extract 4 6));exact Calls.quiet_of_same (PMo.out _))|(go_at_call_of 197 (Value.string (t.extract 6 8));exact Calls.quiet_of_same (PDa.out _))))
     go_wp2_with fail
     generalize hw1:w.drewN nq=w1
     have HD1:Hid (Days w1):=by rw[←hw1];exact HD.out
     have HW1:Hid (w.drewN nq=w1):=hw1
     clear hw1
     go_quiet ((first|(go_at_call_of 197 (Value.string (t.extract 8 10));exact Calls.quiet_of_same (PHo.out _))|(go_at_call_of 197 (Value.string (t.extract 10 12));exact Calls.quiet_of_same (PMi.out _))|(go_at_call_of 197 (Value.string (t.extract 12 14));exact Calls.quiet_of_same (PSe.out _))))
     go_wp2_with fail
     refine(isDate_any vY vMo vDa _ y0 y1 lMo lDa (by exact HD1.out)).mono ?_
     rintro e w2 ⟨r,rfl,hr,hw⟩
     subst hw
     have HR:Hid (r=true↔DayOk vY vMo vDa):=hr
     clear hr
     cases r
     ·have HN:Hid (¬TimeOk t):=fun h=>by cases HR.out.2 (HT.out.1 h).1
      go_wp2_with fail
      go_ret
      exact ret_no HN.out (drew2 HW1.out _)
     by_cases g1:vHo≤23
     ·by_cases g2:vMi≤59
      ·by_cases g3:vSe≤59
       ·have HY:Hid (TimeOk t):=HT.out.2 ⟨HR.out.1 rfl,by omega,by omega,by omega⟩
        have c1:decide ((vSe:Int)≤59)=true:=decide_eq_true (by omega)
        go_wp2_with fail
        go_ret
        exact ret_yes HY.out (drew2 HW1.out _)
       ·have HN:Hid (¬TimeOk t):=fun h=>by have:=(HT.out.1 h).2.2.2;omega
        have c1:decide ((vSe:Int)≤59)=false:=decide_eq_false (by omega)
        go_wp2_with fail
        go_ret
        exact ret_no HN.out (drew2 HW1.out _)
      ·have HN:Hid (¬TimeOk t):=fun h=>by have:=(HT.out.1 h).2.2.1;omega
       have c1:decide ((vMi:Int)≤59)=false:=decide_eq_false (by omega)
       go_wp2_with fail
       go_ret
       exact ret_no HN.out (drew2 HW1.out _)
     ·have HN:Hid (¬TimeOk t):=fun h=>by have:=(HT.out.1 h).2.1;omega
      have c1:decide ((vHo:Int)≤23)=false:=decide_eq_false (by omega)
      go_wp2_with fail
      go_ret
      exact ret_no HN.out (drew2 HW1.out _)
  ·have hz':((t[14].toNat:Int)!=90)=true:=by rw[bne_iff_ne];exact hz
   have HN:Hid (¬TimeOk t):=fun h=>hz (HZ.out.trans h.2.1)
   clear hz
   go_enter Tryz.func178,Tryz.ntmps178
   go_wp2
   go_ret
   exact ret_no HN.out (drew0 w)
 ·have hs':((t.size:Int)!=15)=true:=by rw[bne_iff_ne];omega
  have HN:Hid (¬TimeOk t):=fun h=>hs h.1
  clear hs
  go_enter Tryz.func178,Tryz.ntmps178
  go_wp2
  go_ret
  exact ret_no HN.out (drew0 w)
end Go.Proofs.YtkkicodfpekbgaaGreatDoor
