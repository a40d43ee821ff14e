/-
Several texts in one.
-/
import Derived.Test.YtkkicodfpekbgaaGreatDoorJa0
import Derived.BigQuiet
import Derived.Deep.QuietTactic
import Derived.Deep.RegionWith
import Derived.Laws.IdiomStrings
import Derived.Test.YtkkicodfpekbgaaGreatDoorRows
import Derived.WalkKit
import Derived.WalkSpells
import Derived.WalkLawsBesides
namespace Go.Proofs.YtkkicodfpekbgaaGreatDoor
open Go.RowKit
set_option linter.unusedSimpArgs false
set_option linter.unusedVariables false
set_option maxRecDepth 100000
set_option maxHeartbeats 8000000
theorem rl_empty(t:ByteArray)(w:World)(sn:Sn→Addr)(hs:Sent w sn)(ht:t.size=0):
 Calls Tryz.prog 186 #[.string t] w fun e w'=>e= .returned (.tuple #[.int .i64 0,.int .i64 0,.iface 291 (.pointer (some (sn .End)))])∧Below w.heap.size w w':=by
 have h0:=hs.cE
 have he:=emp_t ht
 clear hs
 go_enter Tryz.func186,Tryz.ntmps186
 go_wp2
 go_quiet (fail)
 go_wp2
 go_ret3
 exact⟨rfl,Go.below_drewN (Below.refl _ _) _⟩
theorem rl_short(t:ByteArray)(w:World)(h:0<t.size)(_hm:t.size≤9223372036854775807)(hb:(t[0].toNat:Int)<128):
 Calls Tryz.prog 186 #[.string t] w fun e w'=>e= .returned (.tuple #[.int .i64 1,.int .i64 (t[0].toNat:Int),.nilIface])∧Below w.heap.size w w':=by
 have he:=emp_f h
 go_enter Tryz.func186,Tryz.ntmps186
 go_wp2
 go_quiet (fail)
 go_wp2
 go_ret3
 exact⟨rfl,Go.below_drewN (Below.refl _ _) _⟩
theorem rl_bad(t:ByteArray)(w:World)(sn:Sn→Addr)(hs:Sent w sn)(h:0<t.size)(_hm:t.size≤9223372036854775807)(hb:128≤(t[0].toNat:Int))(hc:(t[0].toNat:Int)=128∨131<(t[0].toNat:Int)):
 Calls Tryz.prog 186 #[.string t] w fun e w'=>e= .returned (.tuple #[.int .i64 0,.int .i64 0,.iface 291 (.pointer (some (sn .Length)))])∧Below w.heap.size w w':=by
 have h2:=hs.cL
 have he:=emp_f h
 have hx:(t[0].toNat:Int)<256:=by have:=t[0].toNat_lt;omega
 clear hs
 by_cases hz:(t[0].toNat:Int)-128=0
 ·have hz1:((t[0].toNat:Int)-128==0)=true:=beq_iff_eq.2 hz
  clear hc hz
  go_enter Tryz.func186,Tryz.ntmps186
  go_wp2
  go_quiet (fail)
  go_wp2
  go_ret3
  exact⟨rfl,Go.below_drewN (Below.refl _ _) _⟩
 ·have hz1:((t[0].toNat:Int)-128==0)=false:=beq_eq_false_iff_ne.2 hz
  have hz2:3<(t[0].toNat:Int)-128:=by omega
  clear hc hz
  go_enter Tryz.func186,Tryz.ntmps186
  go_wp2
  go_quiet (fail)
  go_wp2
  go_ret3
  exact⟨rfl,Go.below_drewN (Below.refl _ _) _⟩
theorem rl_end(t:ByteArray)(w:World)(sn:Sn→Addr)(hs:Sent w sn)(h:0<t.size)(_hm:t.size≤9223372036854775807)(hb:128<(t[0].toNat:Int))(hc:(t[0].toNat:Int)≤131)(hl:(t.size:Int)≤(t[0].toNat:Int)-128):
 Calls Tryz.prog 186 #[.string t] w fun e w'=>e= .returned (.tuple #[.int .i64 0,.int .i64 0,.iface 291 (.pointer (some (sn .End)))])∧Below w.heap.size w w':=by
 have h2:=hs.cE
 have he:=emp_f h
 have hz1:((t[0].toNat:Int)-128==0)=false:=beq_eq_false_iff_ne.2 (by omega)
 have hz2:(t[0].toNat:Int)-128≤3:=by omega
 clear hs
 go_enter Tryz.func186,Tryz.ntmps186
 go_wp2
 go_quiet (fail)
 go_wp2
 go_ret3
 exact⟨rfl,Go.below_drewN (Below.refl _ _) _⟩
theorem ret3{a b c d:Int}{v:Value}(h1:a=c)(h2:b=d):Ending.returned (.tuple #[.int .i64 a,.int .i64 b,v])= .returned (.tuple #[.int .i64 c,.int .i64 d,v]):=by rw[h1,h2]
theorem rl_ok(t:ByteArray)(w:World)(sn:Sn→Addr)(c:Nat)(hs:Sent w sn)(h:0<t.size)(hm:t.size≤9223372036854775807)(hb1:(t[0].toNat:Int)-128≤c)(hb2:c≤(t[0].toNat:Int)-128)(h1:1≤c)(h3:c≤3)(hl:c<t.size)(hq:(c:Int)=cnt (numTo t c)):
 Calls Tryz.prog 186 #[.string t] w fun e w'=>e= .returned (.tuple #[.int .i64 (1+c),.int .i64 (numTo t c),.nilIface])∧Below w.heap.size w w':=by
 have h2:=hs.cL
 have he:=emp_f h
 have hz1:((t[0].toNat:Int)-128==0)=false:=beq_eq_false_iff_ne.2 (by omega)
 have hz2:(t[0].toNat:Int)-128≤3:=by omega
 have HQ:Hid ((c:Int)=cnt (numTo t c)):=hq
 clear hs hq
 go_enter Tryz.func186,Tryz.ntmps186
 go_wp2
 go_loop [3,6] (fun n i=>∃k:Nat,1≤k∧k≤c+1∧i= .int .i64 k∧n= .int .i64 (numTo t (k-1))) (fun _ i=>c+1-(intOf i).toNat)
 case atStart=>exact⟨1,by omega,by omega,rfl,rfl⟩
 case round=>
  obtain⟨k,hk1,hk,rfl,rfl⟩:=hrel
  have hn:=numTo_bd t (k-1)
  have hn0:0≤numTo t (k-1):=hn.1
  have hn1:numTo t (k-1)<16777216:=hn.2.1 (by omega)
  clear hn
  by_cases hlt:k≤c
  ·have hk2:k<t.size:=by omega
   have hbk:=b8_bd t k
   have HE:Hid ((t[k].toNat:Int)=b8 t k):=b8_get t k hk2
   have HN:Hid (numTo t k=numTo t (k-1)*256+b8 t k):=by
    obtain⟨j,rfl⟩:∃j,k=j+1:=⟨k-1,by omega⟩
    rfl
   go_wp2
   go_round
   case rel=>exact⟨k+1,by omega,by omega,by go_num,by rw[HE.out,IntWalk.wrap64_in _ ⟨by omega,by omega⟩,i64_or8 _ _ (by omega) (by omega) (by omega) (by omega) (by omega),Nat.add_sub_cancel,HN.out]⟩
   case measure=>simp[intOf];omega
  ·have hkc:k=c+1:=by omega
   subst hkc
   simp only[Nat.add_sub_cancel]at hn0 hn1 ⊢
   have HX:Hid ((t[0].toNat:Int)-128=c):=by show _=_;omega
   rcases cnt_cases (numTo t c)with⟨r1,r3⟩|⟨r1,r2,r3⟩|⟨r1,r2,r3⟩|⟨r1,r3⟩
   ·have:=HQ.out;omega
   ·have hbq:((t[0].toNat:Int)-128!=1)=false:=by rw[bne_eq_false_iff_eq];have:=HQ.out;omega
    clear r3
    go_wp2
    go_ret3
    exact⟨ret3 (by rw[HX.out]) rfl,Below.refl _ _⟩
   ·have hbq:((t[0].toNat:Int)-128!=2)=false:=by rw[bne_eq_false_iff_eq];have:=HQ.out;omega
    clear r3
    go_wp2
    go_ret3
    exact⟨ret3 (by rw[HX.out]) rfl,Below.refl _ _⟩
   ·have hbq:((t[0].toNat:Int)-128!=3)=false:=by rw[bne_eq_false_iff_eq];have:=HQ.out;omega
    clear r3
    go_wp2
    go_ret3
    exact⟨ret3 (by rw[HX.out]) rfl,Below.refl _ _⟩
theorem rl_no(t:ByteArray)(w:World)(sn:Sn→Addr)(c:Nat)(hs:Sent w sn)(h:0<t.size)(hm:t.size≤9223372036854775807)(hb1:(t[0].toNat:Int)-128≤c)(hb2:c≤(t[0].toNat:Int)-128)(h1:1≤c)(h3:c≤3)(hl:c<t.size)(hq:¬(c:Int)=cnt (numTo t c)):
 Calls Tryz.prog 186 #[.string t] w fun e w'=>e= .returned (.tuple #[.int .i64 0,.int .i64 0,.iface 291 (.pointer (some (sn .Length)))])∧Below w.heap.size w w':=by
 have h2:=hs.cL
 have he:=emp_f h
 have hz1:((t[0].toNat:Int)-128==0)=false:=beq_eq_false_iff_ne.2 (by omega)
 have hz2:(t[0].toNat:Int)-128≤3:=by omega
 have HQ:Hid (¬(c:Int)=cnt (numTo t c)):=hq
 clear hs hq
 go_enter Tryz.func186,Tryz.ntmps186
 go_wp2
 go_loop [3,6] (fun n i=>∃k:Nat,1≤k∧k≤c+1∧i= .int .i64 k∧n= .int .i64 (numTo t (k-1))) (fun _ i=>c+1-(intOf i).toNat)
 case atStart=>exact⟨1,by omega,by omega,rfl,rfl⟩
 case round=>
  obtain⟨k,hk1,hk,rfl,rfl⟩:=hrel
  have hn:=numTo_bd t (k-1)
  have hn0:0≤numTo t (k-1):=hn.1
  have hn1:numTo t (k-1)<16777216:=hn.2.1 (by omega)
  clear hn
  by_cases hlt:k≤c
  ·have hk2:k<t.size:=by omega
   have hbk:=b8_bd t k
   have HE:Hid ((t[k].toNat:Int)=b8 t k):=b8_get t k hk2
   have HN:Hid (numTo t k=numTo t (k-1)*256+b8 t k):=by
    obtain⟨j,rfl⟩:∃j,k=j+1:=⟨k-1,by omega⟩
    rfl
   go_wp2
   go_round
   case rel=>exact⟨k+1,by omega,by omega,by go_num,by rw[HE.out,IntWalk.wrap64_in _ ⟨by omega,by omega⟩,i64_or8 _ _ (by omega) (by omega) (by omega) (by omega) (by omega),Nat.add_sub_cancel,HN.out]⟩
   case measure=>simp[intOf];omega
  ·have hkc:k=c+1:=by omega
   subst hkc
   simp only[Nat.add_sub_cancel]at hn0 hn1 ⊢
   have HX:Hid ((t[0].toNat:Int)-128=c):=by show _=_;omega
   rcases cnt_cases (numTo t c)with⟨r1,r3⟩|⟨r1,r2,r3⟩|⟨r1,r2,r3⟩|⟨r1,r3⟩
   ·have hbq:((t[0].toNat:Int)-128!=0)=true:=by rw[bne_iff_ne];have:=HQ.out;omega
    clear r3
    go_wp2
    go_quiet (fail)
    go_wp2
    go_ret3
    exact⟨rfl,Go.below_drewN (Below.refl _ _) _⟩
   ·have hbq:((t[0].toNat:Int)-128!=1)=true:=by rw[bne_iff_ne];have:=HQ.out;omega
    clear r3
    go_wp2
    go_quiet (fail)
    go_wp2
    go_ret3
    exact⟨rfl,Go.below_drewN (Below.refl _ _) _⟩
   ·have hbq:((t[0].toNat:Int)-128!=2)=true:=by rw[bne_iff_ne];have:=HQ.out;omega
    clear r3
    go_wp2
    go_quiet (fail)
    go_wp2
    go_ret3
    exact⟨rfl,Go.below_drewN (Below.refl _ _) _⟩
   ·have hbq:((t[0].toNat:Int)-128!=3)=true:=by rw[bne_iff_ne];have:=HQ.out;omega
    clear r3
    go_wp2
    go_quiet (fail)
    go_wp2
    go_ret3
    exact⟨rfl,Go.below_drewN (Below.refl _ _) _⟩
def which(sn:Sn→Addr)(c:Int):Value:=if c=0 then .nilIface else if c=3 then .iface 291 (.pointer (some (sn .End)))else .iface 291 (.pointer (some (sn .Length)))
theorem readLength_any(t:ByteArray)(w:World)(sn:Sn→Addr)(hs:Sent w sn)(hm:t.size≤9223372036854775807):
 Calls Tryz.prog 186 #[.string t] w fun e w'=>e= .returned (.tuple #[.int .i64 (rl t).2.1,.int .i64 (rl t).2.2,which sn (rl t).1])∧Below w.heap.size w w':=by
 unfold rl
 split
 ·rename_i h;exact rl_empty t w sn hs h
 rename_i h
 have h:0<t.size:=by omega
 have hb:=b8_bd t 0
 have e0:=b8_get t 0 h
 split
 ·rename_i h1
  have:=rl_short t w h hm (by omega)
  rw[e0]at this
  exact this
 split
 ·rename_i h1;exact rl_bad t w sn hs h hm (by omega) (by omega)
 split
 ·exact rl_end t w sn hs h hm (by omega) (by omega) (by omega)
 rename_i h1 h2 h3
 obtain⟨c,hc⟩:=Int.eq_ofNat_of_zero_le (show 0≤b8 t 0-128 by omega)
 rw[hc,Int.toNat_natCast]
 split
 ·rename_i h4;exact rl_no t w sn c hs h hm (by omega) (by omega) (by omega) (by omega) (by omega) h4
 ·rename_i h4;exact rl_ok t w sn c hs h hm (by omega) (by omega) (by omega) (by omega) (by omega) (by omega)
theorem readLength_eq(t:ByteArray)(w:World)(sn:Sn→Addr)(c z1 z2:Int)(v:Value)(hs:Sent w sn)(hm:t.size≤9223372036854775807)(h:rl t=(c,z1,z2))(hv:which sn c=v):
 Calls Tryz.prog 186 #[.string t] w fun e w'=>e= .returned (.tuple #[.int .i64 z1,.int .i64 z2,v])∧Below w.heap.size w w':=by
 have:=readLength_any t w sn hs hm
 rw[h]at this
 rw[←hv]
 exact this
def hv(h:Hd):Value:= .agg #[.int .i64 h.c,.bool h.b,.int .i64 h.n,.int .i64 h.s,.int .i64 h.l]
theorem below5{B:Nat}{w w1:World}(h:Below B w w1)(b:Nat)(hb:B≤b)(v0 v1 v2 v3 v4:Value):
 Below B w (((((w1.setCell ⟨b,0,none⟩ v0).setCell ⟨b,1,none⟩ v1).setCell ⟨b,2,none⟩ v2).setCell ⟨b,3,none⟩ v3).setCell ⟨b,4,none⟩ v4):=
 ((((h.setCell (p:=⟨b,0,none⟩) hb v0).setCell (p:=⟨b,1,none⟩) hb v1).setCell (p:=⟨b,2,none⟩) hb v2).setCell (p:=⟨b,3,none⟩) hb v3).setCell (p:=⟨b,4,none⟩) hb v4
theorem rd_empty(s:ByteArray)(p:Nat)(w:World)(sn:Sn→Addr)(hs:Sent w sn)(_hm:s.size≤9223372036854775807)(hp:p≤s.size)(hz:(s.extract p s.size).size=0):
 Calls Tryz.prog 156 #[.string s,.int .i64 p] w fun e w'=>e= .returned (.tuple #[hv .zero,fault p (sn .End)])∧Below w.heap.size w w':=by
 have h0:=hs.cE
 have h0':=cell_lt hs.cE
 have he:=emp_t hz
 clear hs
 unfold fault hv Hd.zero
 go_enter Tryz.func156,Tryz.ntmps156
 go_wp2
 exact bodyPost_ret (v:= .tuple #[.agg #[.int .i64 0,.bool false,.int .i64 0,.int .i64 0,.int .i64 0],.iface 155 (.agg #[.int .i64 p,.iface 291 (.pointer (some (sn .End)))])]) (by simp[results,Tryz.results156,go_sem]) rfl ⟨rfl,(Below.refl _ _).alloc (Nat.le_refl _) _⟩
theorem rd_tag(s:ByteArray)(p:Nat)(w:World)(sn:Sn→Addr)(hs:Sent w sn)(_hm:s.size≤9223372036854775807)(hp:p≤s.size)(hz:0<(s.extract p s.size).size)(hpos:0<s.size-p)(hx1:((s.extract p s.size)[0].toNat:Int)<256)(hx2:30<bits .and .i64 ((s.extract p s.size)[0].toNat:Int) 31):
 Calls Tryz.prog 156 #[.string s,.int .i64 p] w fun e w'=>e= .returned (.tuple #[hv .zero,fault p (sn .Tag)])∧Below w.heap.size w w':=by
 have h1:=hs.cT
 have h1':=cell_lt hs.cT
 have he:=emp_f hz
 clear hs
 unfold fault hv Hd.zero
 go_enter Tryz.func156,Tryz.ntmps156
 go_wp2
 exact bodyPost_ret (v:= .tuple #[.agg #[.int .i64 0,.bool false,.int .i64 0,.int .i64 0,.int .i64 0],.iface 155 (.agg #[.int .i64 p,.iface 291 (.pointer (some (sn .Tag)))])]) (by simp[results,Tryz.results156,go_sem]) rfl ⟨rfl,(Below.refl _ _).alloc (Nat.le_refl _) _⟩
theorem rd_len(s:ByteArray)(p:Nat)(w:World)(sn:Sn→Addr)(z1 z2:Int)(hs:Sent w sn)(hm:s.size≤9223372036854775807)(hp:p≤s.size)(hz:0<(s.extract p s.size).size)(hpos:0<s.size-p)(hx1:((s.extract p s.size)[0].toNat:Int)<256)(hx2:bits .and .i64 ((s.extract p s.size)[0].toNat:Int) 31≤30)(c:Int)(a:Addr)
 (hw:rl ((s.extract p s.size).extract 1 (s.size-p))=(c,z1,z2))(hv':which sn c=(.iface 291 (.pointer (some a)))):
 Calls Tryz.prog 156 #[.string s,.int .i64 p] w fun e w'=>e= .returned (.tuple #[hv .zero,fault p a])∧Below w.heap.size w w':=by
 have HW:Hid (rl ((s.extract p s.size).extract 1 (s.size-p))=(c,z1,z2)):=hw
 have HV:Hid (which sn c=(.iface 291 (.pointer (some a)))):=hv'
 clear hw hv'
 have HS:Hid (Sent w sn):=hs
 have he:=emp_f hz
 clear hs
 unfold fault hv Hd.zero
 go_enter Tryz.func156,Tryz.ntmps156
 go_wp2_with fail
 refine(readLength_eq _ _ sn c z1 z2 (.iface 291 (.pointer (some a))) (HS.out.below ((Below.refl _ _).alloc (Nat.le_refl _) _)) (by simp;omega) HW.out HV.out).mono ?_
 rintro e w1 ⟨rfl,hb⟩
 obtain⟨hc,hf⟩:=bcell hb
 have hz':w.heap.size<w1.heap.size:=by have:=hb.size;simp at this;omega
 have HB:Hid (Below (w.alloc (.cells #[.int .i64 0,.bool false,.int .i64 0,.int .i64 0,.int .i64 0] 179)).heap.size (w.alloc (.cells #[.int .i64 0,.bool false,.int .i64 0,.int .i64 0,.int .i64 0] 179)) w1):=hb
 clear hb
 go_wp2
 refine bodyPost_ret (v:= .tuple #[.agg #[.int .i64 0,.bool false,.int .i64 0,.int .i64 0,.int .i64 0],.iface 155 (.agg #[.int .i64 p,.iface 291 (.pointer (some a))])]) (by simp[results,Tryz.results156,go_sem,hc]) rfl ⟨rfl,?_⟩
 exact below5 (((Below.refl w.heap.size w).alloc (Nat.le_refl _) _).trans (HB.out.mono (by simp))) _ (Nat.le_refl _) _ _ _ _ _
theorem rd_end(s:ByteArray)(p:Nat)(w:World)(sn:Sn→Addr)(z1 z2:Int)(hs:Sent w sn)(hm:s.size≤9223372036854775807)(hp:p≤s.size)(hz:0<(s.extract p s.size).size)(hpos:0<s.size-p)(hx1:((s.extract p s.size)[0].toNat:Int)<256)(hx2:bits .and .i64 ((s.extract p s.size)[0].toNat:Int) 31≤30)
 (hw:rl ((s.extract p s.size).extract 1 (s.size-p))=(0,z1,z2))(b1:0≤z1)(b2:z1≤4)(b3:0≤z2)(b4:z2<16777216)(hl:((s.size-p:Nat):Int)-(z1+1)<z2):
 Calls Tryz.prog 156 #[.string s,.int .i64 p] w fun e w'=>e= .returned (.tuple #[hv .zero,fault p (sn .End)])∧Below w.heap.size w w':=by
 have HW:Hid (rl ((s.extract p s.size).extract 1 (s.size-p))=(0,z1,z2)):=hw
 have HV:Hid (which sn 0= .nilIface):=rfl
 clear hw
 have HS:Hid (Sent w sn):=hs
 have he:=emp_f hz
 have h0:=hs.cE
 have h0':=cell_lt hs.cE
 clear hs
 unfold fault hv Hd.zero
 go_enter Tryz.func156,Tryz.ntmps156
 go_wp2_with fail
 refine(readLength_eq _ _ sn 0 z1 z2 .nilIface (HS.out.below ((Below.refl _ _).alloc (Nat.le_refl _) _)) (by simp;omega) HW.out HV.out).mono ?_
 rintro e w1 ⟨rfl,hb⟩
 have h9:=((HS.out.below ((Below.refl _ _).alloc (Nat.le_refl _) _)).below hb).cE
 obtain⟨hc,hf⟩:=bcell hb
 have hz':w.heap.size<w1.heap.size:=by have:=hb.size;simp at this;omega
 have HB:Hid (Below (w.alloc (.cells #[.int .i64 0,.bool false,.int .i64 0,.int .i64 0,.int .i64 0] 179)).heap.size (w.alloc (.cells #[.int .i64 0,.bool false,.int .i64 0,.int .i64 0,.int .i64 0] 179)) w1):=hb
 clear hb
 go_wp2
 refine bodyPost_ret (v:= .tuple #[.agg #[.int .i64 0,.bool false,.int .i64 0,.int .i64 0,.int .i64 0],.iface 155 (.agg #[.int .i64 p,.iface 291 (.pointer (some (sn .End)))])]) (by simp[results,Tryz.results156,go_sem,hc]) rfl ⟨rfl,?_⟩
 exact below5 (((Below.refl w.heap.size w).alloc (Nat.le_refl _) _).trans (HB.out.mono (by simp))) _ (Nat.le_refl _) _ _ _ _ _
theorem rd_ok(s:ByteArray)(p:Nat)(w:World)(sn:Sn→Addr)(z1 z2:Int)(hs:Sent w sn)(hm:s.size≤9223372036854775807)(hp:p≤s.size)(hz:0<(s.extract p s.size).size)(hpos:0<s.size-p)(hx1:((s.extract p s.size)[0].toNat:Int)<256)(hx2:bits .and .i64 ((s.extract p s.size)[0].toNat:Int) 31≤30)
 (hw:rl ((s.extract p s.size).extract 1 (s.size-p))=(0,z1,z2))(b1:0≤z1)(b2:z1≤4)(b3:0≤z2)(b4:z2<16777216)(hl:z2≤((s.size-p:Nat):Int)-(z1+1)):
 Calls Tryz.prog 156 #[.string s,.int .i64 p] w fun e w'=>e= .returned (.tuple #[hv ⟨((s.extract p s.size)[0].toNat:Int)/64,bits .and .i64 ((s.extract p s.size)[0].toNat:Int) 32!=0,bits .and .i64 ((s.extract p s.size)[0].toNat:Int) 31,z1+1,z2⟩,.nilIface])∧Below w.heap.size w w':=by
 have HW:Hid (rl ((s.extract p s.size).extract 1 (s.size-p))=(0,z1,z2)):=hw
 have HV:Hid (which sn 0= .nilIface):=rfl
 clear hw
 have HS:Hid (Sent w sn):=hs
 have he:=emp_f hz
 clear hs
 unfold hv
 go_enter Tryz.func156,Tryz.ntmps156
 go_wp2_with fail
 refine(readLength_eq _ _ sn 0 z1 z2 .nilIface (HS.out.below ((Below.refl _ _).alloc (Nat.le_refl _) _)) (by simp;omega) HW.out HV.out).mono ?_
 rintro e w1 ⟨rfl,hb⟩
 obtain⟨hc,hf⟩:=bcell hb
 have hz':w.heap.size<w1.heap.size:=by have:=hb.size;simp at this;omega
 have HB:Hid (Below (w.alloc (.cells #[.int .i64 0,.bool false,.int .i64 0,.int .i64 0,.int .i64 0] 179)).heap.size (w.alloc (.cells #[.int .i64 0,.bool false,.int .i64 0,.int .i64 0,.int .i64 0] 179)) w1):=hb
 clear hb
 go_wp2
 refine bodyPost_ret (v:= .tuple #[.agg #[.int .i64 (((s.extract p s.size)[0].toNat:Int)/64),.bool (bits .and .i64 ((s.extract p s.size)[0].toNat:Int) 32!=0),.int .i64 (bits .and .i64 ((s.extract p s.size)[0].toNat:Int) 31),.int .i64 (z1+1),.int .i64 z2],.nilIface]) (by simp[results,Tryz.results156,go_sem,hc]) rfl ⟨rfl,?_⟩
 exact below5 (((Below.refl w.heap.size w).alloc (Nat.le_refl _) _).trans (HB.out.mono (by simp))) _ (Nat.le_refl _) _ _ _ _ _
def errAt(p:Int)(sn:Sn→Addr)(c:Int):Value:=if c=0 then .nilIface else if c=3 then fault p (sn .End)else if c=4 then fault p (sn .Tag)else fault p (sn .Length)
theorem read_any(s:ByteArray)(p:Nat)(w:World)(sn:Sn→Addr)(hs:Sent w sn)(hm:s.size≤9223372036854775807)(hp:p≤s.size):
 Calls Tryz.prog 156 #[.string s,.int .i64 p] w fun e w'=>e= .returned (.tuple #[hv (hd (s.extract p s.size)).2,errAt p sn (hd (s.extract p s.size)).1])∧Below w.heap.size w w':=by
 have hsz:(s.extract p s.size).size=s.size-p:=by simp
 unfold hd
 split
 ·rename_i h;exact rd_empty s p w sn hs hm hp h
 rename_i h
 have hz:0<(s.extract p s.size).size:=by omega
 have hpos:0<s.size-p:=by omega
 have hb:=b8_bd (s.extract p s.size) 0
 have e0:=b8_get (s.extract p s.size) 0 hz
 have ea:=i64_and31 (b8 (s.extract p s.size) 0) hb.1 hb.2
 split
 ·rename_i h1
  exact rd_tag s p w sn hs hm hp hz hpos (by rw[e0];exact hb.2) (by rw[e0,ea];omega)
 rename_i h1
 have hx1:((s.extract p s.size)[0].toNat:Int)<256:=by rw[e0];exact hb.2
 have hx2:bits .and .i64 ((s.extract p s.size)[0].toNat:Int) 31≤30:=by rw[e0,ea];omega
 rw[hsz]
 have hr:=rl_bd ((s.extract p s.size).extract 1 (s.size-p))
 obtain⟨c,z1,z2,hw⟩:∃c z1 z2,rl ((s.extract p s.size).extract 1 (s.size-p))=(c,z1,z2):=⟨_,_,_,rfl⟩
 rw[hw]at hr ⊢
 simp only at hr ⊢
 split
 ·rename_i h2
  rcases hr.1 with h|h|h
  ·exact absurd h h2
  ·subst h;exact rd_len s p w sn z1 z2 hs hm hp hz hpos hx1 hx2 3 (sn .End) hw rfl
  ·subst h;exact rd_len s p w sn z1 z2 hs hm hp hz hpos hx1 hx2 5 (sn .Length) hw rfl
 rename_i h2
 have h2:c=0:=by omega
 subst h2
 split
 ·rename_i h3
  exact rd_end s p w sn z1 z2 hs hm hp hz hpos hx1 hx2 hw hr.2.1 hr.2.2.1 hr.2.2.2.1 hr.2.2.2.2 h3
 ·rename_i h3
  have:=rd_ok s p w sn z1 z2 hs hm hp hz hpos hx1 hx2 hw hr.2.1 hr.2.2.1 hr.2.2.2.1 hr.2.2.2.2 (by omega)
  rw[e0,ea,i64_and32 _ hb.1 hb.2]at this
  exact this
theorem extract_all(s:ByteArray):s.extract 0 s.size=s:=by
 simp
theorem read0(s:ByteArray)(w:World)(sn:Sn→Addr)(hs:Sent w sn)(hm:s.size≤9223372036854775807):
 Calls Tryz.prog 156 #[.string s,.int .i64 0] w fun e w'=>e= .returned (.tuple #[hv (hd s).2,errAt 0 sn (hd s).1])∧Below w.heap.size w w':=by
 have:=read_any s 0 w sn hs hm (Nat.zero_le _)
 rw[extract_all]at this
 exact this
theorem Tryz.info8:(Tryz.prog.info? 5).map (fun i=>(i.zero,i.size,i.bytes))=some (some (.int .u8 0),1,1):=by kernel_rfl
theorem conv_own{w:World}{B n:Nat}{v:Value}{l:List UInt8}(h:w.ownsRow B 5 1 v n (l.map bv))(hl:l≠ []):
 (convert 52 9 v).run Tryz.prog w= .ok (.string ⟨l.toArray⟩) w:=by
 obtain⟨h1,h2⟩:=h
 have hn:n=l.length:=by simpa using h1.symm
 subst hn
 rcases h2 with⟨_,h0⟩|⟨g,cap,cur,rfl,_,hg,hc,_,hs,ht⟩
 ·exact absurd (List.length_eq_zero_iff.1 h0) hl
 refine run_convert_bytes_back w 52 9 5 ⟨g,0,none⟩ cap l Tryz.underlying52 Tryz.underlying5 Tryz.underlying9 fun j hj=>?_
 have e1:(⟨g,0,none⟩:Addr).add j=⟨g,j,none⟩:=by unfold Addr.add;split<;>simp_all
 rw[e1]
 have e2:w.cell? ⟨g,j,none⟩=cur[j]? :=by simp[World.cell?,hg]
 rw[e2]
 have e3:(cur.toList.take (l.length*1))[j]? =(l.map bv)[j]? :=by rw[ht]
 rw[Nat.mul_one,List.getElem?_take_of_lt hj,List.getElem?_map,List.getElem?_eq_getElem hj]at e3
 rw[←Array.getElem?_toList,e3]
 rfl
theorem conv_one(x:Int)(h0:0≤x)(h1:x<256)(w:World):(convert 52 9 (.slice (some ⟨w.heap.size,0,none⟩) 1 1)).run Tryz.prog (w.alloc (.cells #[.int .u8 x] 5))= .ok (.string ⟨#[UInt8.ofNat x.toNat]⟩) (w.alloc (.cells #[.int .u8 x] 5)):=by
 refine conv_own (B:=0) (n:=1) (l:=[UInt8.ofNat x.toNat]) ⟨by simp,.inr ⟨w.heap.size,1,#[.int .u8 x],rfl,Nat.zero_le _,heap_alloc_new w _,by omega,by decide,rfl,?_⟩⟩ (by simp)
 simp[bv_of x h0 h1]
theorem conv_at(x:Int)(h0:0≤x)(h1:x<256)(w:World)(k:Nat)(hk:k=w.heap.size):(convert 52 9 (.slice (some ⟨k,0,none⟩) 1 1)).run Tryz.prog (w.alloc (.cells #[.int .u8 x] 5))= .ok (.string ⟨#[UInt8.ofNat x.toNat]⟩) (w.alloc (.cells #[.int .u8 x] 5)):=by
 subst hk;exact conv_one x h0 h1 w
theorem conv_cell(x:Int)(h0:0≤x)(h1:x<256)(W:World)(k:Nat)(hk:W.cell? ⟨k,0,none⟩=some (.int .u8 x)):(convert 52 9 (.slice (some ⟨k,0,none⟩) 1 1)).run Tryz.prog W= .ok (.string ⟨#[UInt8.ofNat x.toNat]⟩) W:=by
 refine run_convert_bytes_back W 52 9 5 ⟨k,0,none⟩ 1 [UInt8.ofNat x.toNat] Tryz.underlying52 Tryz.underlying5 Tryz.underlying9 fun j hj=>?_
 have:j=0:=by simpa using hj
 subst this
 have e1:(⟨k,0,none⟩:Addr).add 0=⟨k,0,none⟩:=by unfold Addr.add;split<;>simp_all
 rw[e1,hk]
 have:=bv_of x h0 h1
 unfold bv at this
 simpa using this.symm
def RetY(A:ByteArray→Prop)(P:World→Prop)(e:Ending)(w':World):Prop:=∃s:ByteArray,e= .returned (.string s)∧A s∧P w'
theorem b8_app0(x:UInt8)(s:ByteArray):b8 ((⟨#[x]⟩:ByteArray)++s) 0=x.toNat:=by
 unfold b8
 simp
theorem app_size(x:UInt8)(s:ByteArray):((⟨#[x]⟩:ByteArray)++s).size=s.size+1:=by
 rw[ByteArray.size_append]
 show 1+s.size=_
 omega
theorem int_made(r:Int)(s:ByteArray)(h0:0≤r)(h1:r<127)(hs:s.size≤19):IntOk ((⟨#[UInt8.ofNat (1+r).toNat]⟩:ByteArray)++s):=by
 have e:b8 ((⟨#[UInt8.ofNat (1+r).toNat]⟩:ByteArray)++s) 0=1+r:=by
  rw[b8_app0,UInt8.toNat_ofNat']
  omega
 refine⟨by rw[app_size];omega,by rw[app_size];omega,fun _=>?_⟩
 rw[e]
 have h2:b8 ((⟨#[UInt8.ofNat (1+r).toNat]⟩:ByteArray)++s) 1<256∧0≤b8 ((⟨#[UInt8.ofNat (1+r).toNat]⟩:ByteArray)++s) 1:=by
  unfold b8
  have:=((((⟨#[UInt8.ofNat (1+r).toNat]⟩:ByteArray)++s).data.toList).getD 1 0).toNat_lt
  omega
 omega
theorem bits_made(s:ByteArray):BitsOk ((⟨#[0]⟩:ByteArray)++s):=by
 have e:b8 ((⟨#[0]⟩:ByteArray)++s) 0=0:=by rw[b8_app0];rfl
 refine⟨by rw[app_size];omega,by rw[e];omega,fun _=>e,fun _=>?_⟩
 rw[e]
 simp
theorem app_le{o x:ByteArray}{j:Nat}(ho:o.size≤4*j)(hx:x.size≤4):(o++x).size≤4*(j+1):=by rw[ByteArray.size_append];omega
theorem content_int(W w:World)(M:Nat)(na ta:Option Addr)(nl nc tl tc:Nat)(vs vl:Value)(h:MkI W w M na ta nl nc tl tc vs vl)(hp:PlanIn W na ta nl tl):
 Calls Tryz.prog 54 #[.pointer (some ⟨M,0,none⟩),.int .i64 2] w fun e w'=>RetY (fun s=>IntOk s∧s.size≤20) (fun w'=>MkI W w' M na ta nl nc tl tc vs vl∧FrM M w w') e w':=by
 have HT:Hid (Calls Tryz.prog 56 #[.pointer (some ⟨M,0,none⟩)] w fun e w'=>RetX 9223372036854775807 (fun w'=>MkI W w' M na ta nl nc tl tc vs vl∧FrM M w w') e w'):=text_any W w M na ta nl nc tl tc vs vl h hp
 have HC:Hid (∀s wq,s.size≤9223372036854775807→Calls Tryz.prog 55 #[.string s,.int .i64 19] wq fun e w'=>RetX 19 (fun w'=>w'=wq) e w'):=fun s wq q=>cut_any s 19 wq q (by omega)
 have HO:Hid (∀wq,MkI W wq M na ta nl nc tl tc vs vl→Calls Tryz.prog 53 #[.pointer (some ⟨M,0,none⟩),.int .i64 127] wq fun e w'=>RetNo 127 (fun w'=>MkI W w' M na ta nl nc tl tc vs vl∧FrM M wq w') e w'):=fun wq q=>one_any W wq M na ta nl nc tl tc vs vl 127 (by omega) (by omega) q hp
 clear h hp
 go_enter Tryz.func54,Tryz.ntmps54
 go_wp2_with fail
 refine HT.out.mono ?_
 rintro e w1 ⟨s0,rfl,hs0,hI1,hF1⟩
 have HI1:Hid (MkI W w1 M na ta nl nc tl tc vs vl):=hI1
 have HF1:Hid (FrM M w w1):=hF1
 clear hI1 hF1
 go_wp2_with fail
 refine(HC.out s0 _ hs0).mono ?_
 rintro e w2 ⟨s,rfl,hs,rfl⟩
 clear hs0
 go_wp2_with fail
 refine(HO.out _ HI1.out).mono ?_
 rintro e w3 ⟨r,rfl,r0,r1,hI3,hF3⟩
 have HI3:Hid (MkI W w3 M na ta nl nc tl tc vs vl):=hI3
 have HF3:Hid (FrM M w w3):=HF1.out.trans hF3
 have hcv:=conv_at (1+r) (by omega) (by omega)
 clear hI3 hF3
 go_wp2
 go_ret
 exact⟨_,rfl,⟨int_made r s r0 r1 hs,by rw[app_size];omega⟩,HI3.out.below ((Below.refl _ _).alloc (Nat.le_refl _) _),HF3.out.trans (FrM.below ((Below.refl _ _).alloc (Nat.le_refl _) _))⟩
theorem content_bits(W w:World)(M:Nat)(na ta:Option Addr)(nl nc tl tc:Nat)(vs vl:Value)(h:MkI W w M na ta nl nc tl tc vs vl)(hp:PlanIn W na ta nl tl):
 Calls Tryz.prog 54 #[.pointer (some ⟨M,0,none⟩),.int .i64 5] w fun e w'=>RetY (fun s=>BitsOk s∧s.size≤20) (fun w'=>MkI W w' M na ta nl nc tl tc vs vl∧FrM M w w') e w':=by
 have HT:Hid (Calls Tryz.prog 56 #[.pointer (some ⟨M,0,none⟩)] w fun e w'=>RetX 9223372036854775807 (fun w'=>MkI W w' M na ta nl nc tl tc vs vl∧FrM M w w') e w'):=text_any W w M na ta nl nc tl tc vs vl h hp
 have HC:Hid (∀s wq,s.size≤9223372036854775807→Calls Tryz.prog 55 #[.string s,.int .i64 19] wq fun e w'=>RetX 19 (fun w'=>w'=wq) e w'):=fun s wq q=>cut_any s 19 wq q (by omega)
 clear h hp
 go_enter Tryz.func54,Tryz.ntmps54
 go_wp2_with fail
 refine HT.out.mono ?_
 rintro e w1 ⟨s0,rfl,hs0,hI1,hF1⟩
 have HI1:Hid (MkI W w1 M na ta nl nc tl tc vs vl):=hI1
 have HF1:Hid (FrM M w w1):=hF1
 clear hI1 hF1
 go_wp2_with fail
 refine(HC.out s0 _ hs0).mono ?_
 rintro e w2 ⟨s,rfl,hs,rfl⟩
 clear hs0
 go_wp2
 go_ret
 exact⟨_,rfl,⟨bits_made s,by rw[app_size];omega⟩,HI1.out,HF1.out⟩
def RetB(P:Prop)(w:World)(e:Ending)(w':World):Prop:=∃r,e= .returned (.bool r)∧(r=true↔P)∧∃k,w'=w.drewN k
theorem ret_no{P:Prop}{w w':World}(h:¬P)(hw:∃k,w'=w.drewN k):RetB P w (.returned (.bool false)) w':=⟨false,rfl,⟨fun e=>(by cases e),fun p=>absurd p h⟩,hw⟩
theorem ret_yes{P:Prop}{w w':World}(h:P)(hw:∃k,w'=w.drewN k):RetB P w (.returned (.bool true)) w':=⟨true,rfl,⟨fun _=>h,fun _=>rfl⟩,hw⟩
theorem ret_iff{P:Prop}{w w':World}{r:Bool}(h:r=true↔P)(hw:∃k,w'=w.drewN k):RetB P w (.returned (.bool r)) w':=⟨r,rfl,h,hw⟩
def SaysB(P:Prop)(v:Value):Prop:=∃q:Bool,v= .bool q∧(q=true↔P)
theorem drew0(w:World):∃k,w=w.drewN k:=⟨0,rfl⟩
theorem fitsInt_any(t:ByteArray)(w:World)(hm:t.size≤9223372036854775807):
 Calls Tryz.prog 173 #[.string t] w fun e w'=>RetB (IntOk t) w e w':=by
 by_cases h1:t.size<1
 ·clear hm
  go_enter Tryz.func173,Tryz.ntmps173
  go_wp2
  go_ret
  exact ret_no (fun h:IntOk t=>by have:=h.1;omega) (drew0 w)
 by_cases h2:20<t.size
 ·have h2':(20:Int)<t.size:=by omega
  go_enter Tryz.func173,Tryz.ntmps173
  go_wp2
  go_ret
  exact ret_no (fun h:IntOk t=>by have:=h.2.1;omega) (drew0 w)
 by_cases h3:t.size=1
 ·have h3':((t.size:Int)==1)=true:=by rw[h3];rfl
  have HI:Hid (IntOk t):=⟨by omega,by omega,by omega⟩
  clear h3
  go_enter Tryz.func173,Tryz.ntmps173
  go_wp2
  go_ret
  exact ret_yes HI.out (drew0 w)
 have h3':((t.size:Int)==1)=false:=by rw[beq_eq_false_iff_ne];omega
 have h4:(0:Int)<t.size:=by omega
 have h5:(1:Int)<t.size:=by omega
 have h6:0<t.size:=by omega
 have h7:1<t.size:=by omega
 have e0:=b8_get t 0 h6
 have e1:=b8_get t 1 h7
 have b0:=b8_bd t 0
 have b1:=b8_bd t 1
 have x0:(t[0].toNat:Int)<256:=by omega
 have x1:(t[1].toNat:Int)<256:=by omega
 have HE:Hid (bits .or .i64 ((t[0].toNat:Int)*2) ((t[1].toNat:Int)/128)=b8 t 0*2+b8 t 1/128):=by
  show _=_
  rw[e0,e1,i64_or1 _ _ (by omega) (by omega) (by omega) (by omega) (by omega)]
 have HI:Hid (IntOk t↔b8 t 0*2+b8 t 1/128≠0∧b8 t 0*2+b8 t 1/128≠511):=⟨fun h=>h.2.2 (by omega),fun h=>⟨by omega,by omega,fun _=>h⟩⟩
 clear e0 e1
 go_enter Tryz.func173,Tryz.ntmps173
 go_wp2
 go_quiet (fail)
 rw[HE.out]
 generalize b8 t 0*2+b8 t 1/128=x at HI
 by_cases h8:x=0
 ·have h8':(x !=0)=false:=by rw[bne_eq_false_iff_eq];exact h8
  have HN:Hid (¬IntOk t):=fun h=>(HI.out.1 h).1 h8
  clear h8
  go_wp2
  go_ret
  exact ret_no HN.out ⟨_,rfl⟩
 have h8':(x !=0)=true:=by rw[bne_iff_ne];exact h8
 by_cases h9:x=511
 ·have h9':(x !=511)=false:=by rw[bne_eq_false_iff_eq];exact h9
  have HN:Hid (¬IntOk t):=fun h=>(HI.out.1 h).2 h9
  clear h9 h8
  go_wp2
  go_ret
  exact ret_no HN.out ⟨_,rfl⟩
 ·have h9':(x !=511)=true:=by rw[bne_iff_ne];exact h9
  have HN:Hid (IntOk t):=HI.out.2 ⟨h8,h9⟩
  clear h9 h8
  go_wp2
  go_ret
  exact ret_yes HN.out ⟨_,rfl⟩
theorem fitsOid_any(t:ByteArray)(w:World)(hm:t.size≤9223372036854775807):
 Calls Tryz.prog 174 #[.string t] w fun e w'=>RetB (OidOk t) w e w':=by
 by_cases h1:t.size<1
 ·clear hm
  go_enter Tryz.func174,Tryz.ntmps174
  go_wp2
  go_ret
  exact ret_no (fun h:OidOk t=>by have:=h.1;omega) (drew0 w)
 by_cases h2:20<t.size
 ·have h2':(20:Int)<t.size:=by omega
  go_enter Tryz.func174,Tryz.ntmps174
  go_wp2
  go_ret
  exact ret_no (fun h:OidOk t=>by have:=h.2.1;omega) (drew0 w)
 go_enter Tryz.func174,Tryz.ntmps174
 go_wp2
 go_loop [3,15] (fun bt i=>∃k:Nat,k≤t.size∧i= .int .i64 k∧oidTo t k∧SaysB (btw t k) bt) (fun _ i=>t.size-(intOf i).toNat)
 case atStart=>exact⟨0,by omega,rfl,oidTo_zero t,true,rfl,⟨fun _=> .inl rfl,fun _=>rfl⟩⟩
 case round=>
  obtain⟨k,hk,rfl,ho,q,rfl,hq⟩:=hrel
  have HO:Hid (oidTo t k):=ho
  have HQ:Hid (q=true↔btw t k):=hq
  clear ho hq
  by_cases hlt:k<t.size
  ·have HE:Hid ((t[k].toNat:Int)=b8 t k):=b8_get t k hlt
   by_cases hb:(t[k].toNat:Int)=128
   ·have hb':((t[k].toNat:Int)==128)=true:=beq_iff_eq.2 hb
    cases q
    ·have HX:Hid (oidTo t (k+1)):=(oidTo_succ t k).2 ⟨HO.out,fun h=>by cases HQ.out.2 h.1⟩
     have HY:Hid (¬btw t (k+1)):=fun h=>by
      rcases h with h|h
      ·omega
      ·rw[Nat.add_sub_cancel,←HE.out]at h;omega
     have hd:decide ((t[k].toNat:Int)<128)=false:=decide_eq_false (by omega)
     clear hb
     go_wp2
     go_round
     case rel=>exact⟨k+1,by omega,by go_num,HX.out,false,rfl,⟨fun e=>(by cases e),fun h=>absurd h HY.out⟩⟩
     case measure=>simp[intOf];omega
    ·have HN:Hid (¬OidOk t):=oid_no t k hlt ⟨HQ.out.1 rfl,by rw[←HE.out];exact hb⟩
     clear hb
     go_wp2
     go_ret
     exact ret_no HN.out (drew0 w)
   ·have hb':((t[k].toNat:Int)==128)=false:=beq_eq_false_iff_ne.2 hb
    have HX:Hid (oidTo t (k+1)):=(oidTo_succ t k).2 ⟨HO.out,fun h=>hb (HE.out.trans h.2)⟩
    have HY:Hid (decide ((t[k].toNat:Int)<128)=true↔btw t (k+1)):=by
     show _↔_
     rw[decide_eq_true_iff,HE.out]
     exact⟨fun h=> .inr (by rw[Nat.add_sub_cancel];exact h),fun h=>by rcases h with h|h;(·omega);(·rw[Nat.add_sub_cancel]at h;exact h)⟩
    clear hb
    cases q
    all_goals
     go_wp2
     go_round
     case rel=>exact⟨k+1,by omega,by go_num,HX.out,_,rfl,HY.out⟩
     case measure=>simp[intOf];omega
  ·have hkc:t.size=k:=by omega
   have HF:Hid (q=true↔OidOk t):=⟨fun h=>⟨by omega,by omega,by rw[hkc];exact HO.out,by rw[hkc];exact HQ.out.1 h⟩,fun h=>HQ.out.2 (by rw[←hkc];exact h.2.2.2)⟩
   clear hkc
   go_wp2
   go_ret
   exact ret_iff HF.out (drew0 w)
def tzTab:ByteArray:=⟨#[8,0,1,0,2,0,1,0,3,0,1,0,2,0,1,0,4,0,1,0,2,0,1,0,3,0,1,0,2,0,1,0,5,0,1,0,2,0,1,0,3,0,1,0,2,0,1,0,4,0,1,0,2,0,1,0,3,0,1,0,2,0,1,0,6,0,1,0,2,0,1,0,3,0,1,0,2,0,1,0,4,0,1,0,2,0,1,0,3,0,1,0,2,0,1,0,5,0,1,0,2,0,1,0,3,0,1,0,2,0,1,0,4,0,1,0,2,0,1,0,3,0,1,0,2,0,1,0,7,0,1,0,2,0,1,0,3,0,1,0,2,0,1,0,4,0,1,0,2,0,1,0,3,0,1,0,2,0,1,0,5,0,1,0,2,0,1,0,3,0,1,0,2,0,1,0,4,0,1,0,2,0,1,0,3,0,1,0,2,0,1,0,6,0,1,0,2,0,1,0,3,0,1,0,2,0,1,0,4,0,1,0,2,0,1,0,3,0,1,0,2,0,1,0,5,0,1,0,2,0,1,0,3,0,1,0,2,0,1,0,4,0,1,0,2,0,1,0,3,0,1,0,2,0,1,0]⟩
theorem tzTab_size:tzTab.size=256:=by decide+kernel
theorem tzTab_get:∀j:Fin 256,(tzTab[j.val]'(by rw[tzTab_size];exact j.isLt)).toNat=tz8 j.val:=by decide+kernel
theorem tz8_le:∀j:Fin 256,tz8 j.val≤8:=by decide+kernel
theorem ret_i64{a b:Int}(h:a=b):Ending.returned (.int .i64 a)= .returned (.int .i64 b):=by rw[h]
theorem tz8_any(x:Nat)(w:World)(hx:x<256):
 Calls Tryz.prog 193 #[.int .u8 x] w fun e w'=>e= .returned (.int .i64 (tz8 x))∧w'=w:=by
 have HT:Hid (wrap64 ((tzTab[x]'(by rw[tzTab_size];exact hx)).toNat:Int)=(tz8 x:Int)):=by
  show _=_
  rw[tzTab_get ⟨x,hx⟩,IntWalk.wrap64_in]
  have:=tz8_le ⟨x,hx⟩
  simp only at this ⊢
  omega
 go_enter Tryz.func193,Tryz.ntmps193
 go_wp2
 go_ret
 exact⟨ret_i64 HT.out,rfl⟩
theorem fitsBits_any(t:ByteArray)(w:World)(hm:t.size≤9223372036854775807):
 Calls Tryz.prog 175 #[.string t] w fun e w'=>RetB (BitsOk t) w e w':=by
 by_cases h0:t.size=0
 ·have h0':((t.size:Int)==0)=true:=by rw[beq_iff_eq];omega
  have HN:Hid (¬BitsOk t):=fun h=>by have:=h.1;omega
  clear h0
  go_enter Tryz.func175,Tryz.ntmps175
  go_wp2
  go_ret
  exact ret_no HN.out (drew0 w)
 have h0':((t.size:Int)==0)=false:=by rw[beq_eq_false_iff_ne];omega
 have h6:0<t.size:=by omega
 have h6':(0:Int)<t.size:=by omega
 have e0:=b8_get t 0 h6
 have hb0:=b8_bd t 0
 have x0:(t[0].toNat:Int)<256:=by omega
 by_cases h1:t.size=1
 ·have h1':((t.size:Int)==1)=true:=by rw[beq_iff_eq];omega
  have HI:Hid (((t[0].toNat:Int)==0)=true↔BitsOk t):=by
   show _↔_
   rw[beq_iff_eq,e0]
   exact⟨fun h=>⟨by omega,by omega,fun _=>h,fun _=>by omega⟩,fun h=>h.2.2.1 h1⟩
  clear h1 e0
  go_enter Tryz.func175,Tryz.ntmps175
  go_wp2
  go_ret
  exact ret_iff HI.out (drew0 w)
 have h1':((t.size:Int)==1)=false:=by rw[beq_eq_false_iff_ne];omega
 have h3:t.size-1<t.size:=by omega
 have h3':(t.size:Int)-1<t.size:=by omega
 by_cases h7:7<(t[0].toNat:Int)
 ·have h7':decide ((t[0].toNat:Int)≤7)=false:=decide_eq_false (by omega)
  have HN:Hid (¬BitsOk t):=fun h=>by have:=h.2.1;omega
  clear e0
  go_enter Tryz.func175,Tryz.ntmps175
  go_wp2
  go_quiet (fail)
  go_wp2
  go_ret
  exact ret_no HN.out ⟨_,rfl⟩
 have h7':decide ((t[0].toNat:Int)≤7)=true:=decide_eq_true (by omega)
 obtain⟨m,HM⟩:∃m,Hid (t.size=m+1):=⟨t.size-1,by show _=_;omega⟩
 have hml:m<t.size:=by have:=HM.out;omega
 have hml':(m:Int)<t.size:=by omega
 have hwr:IntKind.i64.wrap ((t.size:Int)-1)=(m:Int):=by have:=HM.out;rw[wraps_i64 _ (by omega) (by omega)];omega
 have el:=b8_get t m hml
 have hxl:t[m].toNat<256:=t[m].toNat_lt
 have HI:Hid (decide (t[0].toNat≤tz8 t[m].toNat)=true↔BitsOk t):=by
  show _↔_
  have hk:t[0].toNat<8:=by omega
  have:=tz8_ge ⟨t[m].toNat,hxl⟩ ⟨t[0].toNat,hk⟩
  simp only at this
  rw[decide_eq_true_iff,this]
  have ep:(b8 t 0).toNat=t[0].toNat:=by omega
  have em:t.size-1=m:=by have:=HM.out;omega
  constructor
  ·intro h
   refine⟨by omega,by omega,fun _=>by omega,fun _=>?_⟩
   rw[ep,em,←el]
   exact_mod_cast h
  ·intro h
   have:=h.2.2.2 (by omega)
   rw[ep,em,←el]at this
   exact_mod_cast this
 clear e0 el h3 h3'
 go_enter Tryz.func175,Tryz.ntmps175
 go_wp2
 go_quiet ((go_at_call 193;exact Calls.quiet_of_same (tz8_any _ _ hxl)))
 go_wp2
 go_ret
 exact ret_iff HI.out ⟨_,rfl⟩
end Go.Proofs.YtkkicodfpekbgaaGreatDoor
