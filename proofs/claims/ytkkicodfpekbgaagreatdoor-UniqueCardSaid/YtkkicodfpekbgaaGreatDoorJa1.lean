/-
Several texts in one.
-/
import Derived.Test.YtkkicodfpekbgaaGreatDoorJa0
import Derived.Deep.Light
import Derived.Shelf.Lays
import Derived.Below
import Derived.Deep.RegionWith
import Derived.Test.YtkkicodfpekbgaaGreatDoorRows
import Derived.WalkKit
import Derived.WalkSpells
import Derived.WalkLawsBesides
import Derived.Deep.RegionLaw
import Derived.BigQuiet
namespace Go.Proofs.YtkkicodfpekbgaaGreatDoor
open Go.RowKit
set_option linter.unusedSimpArgs false
set_option linter.unusedVariables false
set_option maxRecDepth 100000
set_option maxHeartbeats 8000000
def digs:List UInt8:=[48,49,50,51,52,53,54,55,56,57]
theorem digs_in(t:ByteArray)(hs:t.size=15):(∀i,i<(t.extract 0 14).size→∃j,j<(⟨digs.toArray⟩:ByteArray).size∧b8 ⟨digs.toArray⟩ j=b8 (t.extract 0 14) i)↔DigTo t 14:=by
 have hz:(t.extract 0 14).size=14:=by rw[ByteArray.size_extract];omega
 have hd:(⟨digs.toArray⟩:ByteArray).size=10:=by decide+kernel
 have hb:∀j,j<10→b8 ⟨digs.toArray⟩ j=48+j:=by
  have:∀j:Fin 10,b8 ⟨digs.toArray⟩ j.val=48+(j.val:Int):=by decide+kernel
  exact fun j hj=>this ⟨j,hj⟩
 rw[hz,hd]
 constructor
 ·intro h i hi
  obtain⟨j,hj,e⟩:=h i hi
  rw[hb j hj,b8_cut t 0 14 i (by omega) (by omega),Nat.zero_add]at e
  omega
 ·intro h i hi
  have:=h i hi
  refine⟨(b8 t i-48).toNat,by omega,?_⟩
  rw[hb _ (by omega),b8_cut t 0 14 i (by omega) (by omega),Nat.zero_add]
  omega
theorem lastDay_cases(y m:Int):(m=2∧(y%400=0∨y%4=0∧y%100≠0)∧lastDay y m=29)∨(m=2∧¬(y%400=0∨y%4=0∧y%100≠0)∧lastDay y m=28)∨
 (m≠2∧(m=4∨m=6∨m=9∨m=11)∧lastDay y m=30)∨(m≠2∧¬(m=4∨m=6∨m=9∨m=11)∧lastDay y m=31):=by
 unfold lastDay
 by_cases h:m=2
 ·by_cases hl:y%400=0∨y%4=0∧y%100≠0
  ·left;exact⟨h,hl,by rw[if_pos h,if_pos hl]⟩
  ·right;left;exact⟨h,hl,by rw[if_pos h,if_neg hl]⟩
 ·by_cases hl:m=4∨m=6∨m=9∨m=11
  ·right;right;left;exact⟨h,hl,by rw[if_neg h,if_pos hl]⟩
  ·right;right;right;exact⟨h,hl,by rw[if_neg h,if_neg hl]⟩
theorem isTime_any(t:ByteArray)(w:World)(hm:t.size≤9223372036854775807):
 Calls Tryz.prog 126 #[.string t] w fun e w'=>RetB (TimeOk t) w e w':=by
 by_cases hs:t.size=15
 ·have hs':((t.size:Int)!=15)=false:=by rw[bne_eq_false_iff_eq];omega
  have h14:14<t.size:=by omega
  have h14':(14:Int)<t.size:=by omega
  have HZ:Hid ((t[14].toNat:Int)=b8 t 14):=b8_get t 14 h14
  have HS:Hid (t.size=15):=hs
  have hge:15≤t.size:=by omega
  clear hs
  by_cases hz:(t[14].toNat:Int)=90
  ·have hz':((t[14].toNat:Int)!=90)=false:=by rw[bne_eq_false_iff_eq];exact hz
   have HZ2:Hid (b8 t 14=90):=by show _=_;rw[←HZ.out];exact hz
   clear hz
   go_enter Tryz.func126,Tryz.ntmps126
   go_wp2_with fail
   refine(all_any (t.extract 0 14) ⟨digs.toArray⟩ _ (by rw[ByteArray.size_extract];omega) (by decide+kernel)).mono ?_
   rintro e w1 ⟨r,rfl,hr,hd⟩
   have HR:Hid (r=true↔DigTo t 14):=hr.trans (digs_in t HS.out)
   obtain⟨q,hd⟩:=hd
   have HW1:Hid (w.drewN q=w1):=hd.symm
   clear hr hd
   cases r
   ·have HN:Hid (¬TimeOk t):=fun h=>by cases HR.out.2 h.2.2.1
    go_wp2_with fail
    go_ret
    exact ret_no HN.out (drew2 HW1.out 0)
   have HG:DigTo t 14:=HR.out.1 rfl
   have hs:=HS.out
   have PY:Hid (∀w,Calls Tryz.prog 168 #[.string (t.extract 0 4)] w fun e w'=>e= .returned (.int .i64 (dec t 0 4))∧w'=w):=fun w=>numberRef_any _ w (by rw[ByteArray.size_extract];omega) (dig_cut HG hs 0 4 (by omega))
   have PMo:Hid (∀w,Calls Tryz.prog 168 #[.string (t.extract 4 6)] w fun e w'=>e= .returned (.int .i64 (dec t 4 6))∧w'=w):=fun w=>numberRef_any _ w (by rw[ByteArray.size_extract];omega) (dig_cut HG hs 4 6 (by omega))
   have PDa:Hid (∀w,Calls Tryz.prog 168 #[.string (t.extract 6 8)] w fun e w'=>e= .returned (.int .i64 (dec t 6 8))∧w'=w):=fun w=>numberRef_any _ w (by rw[ByteArray.size_extract];omega) (dig_cut HG hs 6 8 (by omega))
   have PHo:Hid (∀w,Calls Tryz.prog 168 #[.string (t.extract 8 10)] w fun e w'=>e= .returned (.int .i64 (dec t 8 10))∧w'=w):=fun w=>numberRef_any _ w (by rw[ByteArray.size_extract];omega) (dig_cut HG hs 8 10 (by omega))
   have PMi:Hid (∀w,Calls Tryz.prog 168 #[.string (t.extract 10 12)] w fun e w'=>e= .returned (.int .i64 (dec t 10 12))∧w'=w):=fun w=>numberRef_any _ w (by rw[ByteArray.size_extract];omega) (dig_cut HG hs 10 12 (by omega))
   have PSe:Hid (∀w,Calls Tryz.prog 168 #[.string (t.extract 12 14)] w fun e w'=>e= .returned (.int .i64 (dec t 12 14))∧w'=w):=fun w=>numberRef_any _ w (by rw[ByteArray.size_extract];omega) (dig_cut HG hs 12 14 (by omega))
   have HT:Hid (TimeOk t↔DayOk (dec t 0 4) (dec t 4 6) (dec t 6 8)∧dec t 8 10≤23∧dec t 10 12≤59∧dec t 12 14≤59):=timeOk_iff hs HZ2.out HG
   obtain⟨y0,y1⟩:=dec_bd HG hs 0 4 (by omega) (by omega)
   obtain⟨vMo,eMo⟩:=Int.eq_ofNat_of_zero_le (dec_bd2 HG hs 4 (by omega)).1
   have lMo:vMo<100:=by have:=(dec_bd2 HG hs 4 (by omega)).2;omega
   rw[eMo]at PMo HT
   obtain⟨vDa,eDa⟩:=Int.eq_ofNat_of_zero_le (dec_bd2 HG hs 6 (by omega)).1
   have lDa:vDa<100:=by have:=(dec_bd2 HG hs 6 (by omega)).2;omega
   rw[eDa]at PDa HT
   obtain⟨vHo,eHo⟩:=Int.eq_ofNat_of_zero_le (dec_bd2 HG hs 8 (by omega)).1
   have lHo:vHo<100:=by have:=(dec_bd2 HG hs 8 (by omega)).2;omega
   rw[eHo]at PHo HT
   obtain⟨vMi,eMi⟩:=Int.eq_ofNat_of_zero_le (dec_bd2 HG hs 10 (by omega)).1
   have lMi:vMi<100:=by have:=(dec_bd2 HG hs 10 (by omega)).2;omega
   rw[eMi]at PMi HT
   obtain⟨vSe,eSe⟩:=Int.eq_ofNat_of_zero_le (dec_bd2 HG hs 12 (by omega)).1
   have lSe:vSe<100:=by have:=(dec_bd2 HG hs 12 (by omega)).2;omega
   rw[eSe]at PSe HT
   generalize dec t 0 4=vY at PY HT y0 y1
   clear HG hs eMo eDa eHo eMi eSe
   go_wp2_with fail
   refine Calls.mono (PY.out _) ?_
   rintro e w2 ⟨rfl,rfl⟩
   go_wp2_with fail
   refine Calls.mono (PMo.out _) ?_
   rintro e w3 ⟨rfl,rfl⟩
   go_wp2_with fail
   refine Calls.mono (PDa.out _) ?_
   rintro e w4 ⟨rfl,rfl⟩
   go_wp2_with fail
   all_goals first
    |(go_ret
      refine ret_no (fun h=>?_) (drew2 HW1.out 0)
      have hd:=(HT.out.1 h).1
      have hl:=lastDay_cases vY vMo
      unfold DayOk at hd
      go_light
      simp only[beq_iff_eq,beq_eq_false_iff_ne,bne_iff_ne,bne_eq_false_iff_eq,ne_eq]at*
      omega)
    |(have HY:Hid (DayOk vY vMo vDa):=by
       have hl:=lastDay_cases vY vMo
       show DayOk vY vMo vDa
       unfold DayOk
       go_light
       simp only[beq_iff_eq,beq_eq_false_iff_ne,bne_iff_ne,bne_eq_false_iff_eq,ne_eq]at*
       omega
      refine Calls.mono (PHo.out _) ?_
      rintro e w5 ⟨rfl,rfl⟩
      by_cases g1:vHo<24
      ·go_wp2_with fail
       refine Calls.mono (PMi.out _) ?_
       rintro e w6 ⟨rfl,rfl⟩
       by_cases g2:vMi<60
       ·go_wp2_with fail
        refine Calls.mono (PSe.out _) ?_
        rintro e w7 ⟨rfl,rfl⟩
        by_cases g3:vSe<60
        ·have HF:Hid (TimeOk t):=HT.out.2 ⟨HY.out,by omega,by omega,by omega⟩
         have c1:decide ((vSe:Int)<60)=true:=decide_eq_true (by omega)
         go_wp2_with fail
         go_ret
         exact ret_yes HF.out (drew2 HW1.out 0)
        ·have HF:Hid (¬TimeOk t):=fun h=>by have:=(HT.out.1 h).2.2.2;omega
         have c1:decide ((vSe:Int)<60)=false:=decide_eq_false (by omega)
         go_wp2_with fail
         go_ret
         exact ret_no HF.out (drew2 HW1.out 0)
       ·have HF:Hid (¬TimeOk t):=fun h=>by have:=(HT.out.1 h).2.2.1;omega
        have c1:decide ((vMi:Int)<60)=false:=decide_eq_false (by omega)
        go_wp2_with fail
        go_ret
        exact ret_no HF.out (drew2 HW1.out 0)
      ·have HF:Hid (¬TimeOk t):=fun h=>by have:=(HT.out.1 h).2.1;omega
       have c1:decide ((vHo:Int)<24)=false:=decide_eq_false (by omega)
       go_wp2_with fail
       go_ret
       exact ret_no HF.out (drew2 HW1.out 0))
  ·have hz':((t[14].toNat:Int)!=90)=true:=by rw[bne_iff_ne];exact hz
   have HN:Hid (¬TimeOk t):=fun h=>hz (HZ.out.trans h.2.1)
   clear hz
   go_enter Tryz.func126,Tryz.ntmps126
   go_wp2
   go_ret
   exact ret_no HN.out (drew0 w)
 ·have hs':((t.size:Int)!=15)=true:=by rw[bne_iff_ne];omega
  have HN:Hid (¬TimeOk t):=fun h=>hs h.1
  clear hs
  go_enter Tryz.func126,Tryz.ntmps126
  go_wp2
  go_ret
  exact ret_no HN.out (drew0 w)
def BoolOk(t:ByteArray):Prop:=t.size=1∧(b8 t 0=0∨b8 t 0=255)
theorem empty_iff(t:ByteArray):t.toList.isEmpty=true↔t.size=0:=by
 rw[Lib.toList_data,List.isEmpty_iff,←List.length_eq_zero_iff,size_list]
theorem boolOk_iff(t:ByteArray):BoolOk t↔t.toList=[0]∨t.toList=[255]:=by
 unfold BoolOk b8
 rw[Lib.toList_data,←size_list]
 generalize t.data.toList=l
 match l with
 | []=>simp
 | [x]=>
   have h0:((x.toNat:Int)=0↔x=0):=⟨fun h=>UInt8.toNat_inj.1 (by show x.toNat=0;omega),fun h=>by rw[h];rfl⟩
   have h1:((x.toNat:Int)=255↔x=255):=⟨fun h=>UInt8.toNat_inj.1 (by show x.toNat=255;omega),fun h=>by rw[h];rfl⟩
   show([x].length=1∧((x.toNat:Int)=0∨(x.toNat:Int)=255))↔_
   rw[h0,h1]
   simp
 |_::_::_=>simp
theorem isContent_1(t:ByteArray)(w:World):
 Calls Tryz.prog 108 #[.int .i64 1,.string t] w fun e w'=>RetB (BoolOk t) w e w':=by
 go_enter Tryz.func108,Tryz.ntmps108
 by_cases h1:t.size=1
 ·have e0:(t[0].toNat:Int)=b8 t 0:=b8_get t 0 (by omega)
  have HB:Hid (BoolOk t↔(t[0].toNat:Int)=0∨(t[0].toNat:Int)=255):=by
   show BoolOk t↔_
   rw[e0];exact⟨fun h=>h.2,fun h=>⟨h1,h⟩⟩
  clear e0
  by_cases h2:(t[0].toNat:Int)=0
  ·have HY:Hid (BoolOk t):=HB.out.2 (.inl h2)
   go_wp2
   go_ret
   exact ret_yes HY.out (drew0 w)
  ·go_wp2
   go_ret
   refine ret_iff (Iff.trans ?_ HB.out.symm) (drew0 w)
   rw[Bool.or_eq_true,beq_iff_eq,beq_iff_eq]
 ·have HN:Hid (¬BoolOk t):=fun h=>h1 h.1
  go_wp2
  go_ret
  exact ret_no HN.out (drew0 w)
theorem isContent_2(t:ByteArray)(w:World)(hm:t.size≤9223372036854775807):
 Calls Tryz.prog 108 #[.int .i64 2,.string t] w fun e w'=>RetB (IntOk t) w e w':=by
 go_enter Tryz.func108,Tryz.ntmps108
 go_wp2_with fail
 refine(isInt_any t _ hm).mono ?_
 rintro e w2 ⟨r,rfl,hr,hd⟩
 have HR:Hid (r=true↔IntOk t):=hr
 have HD:Hid (∃k,w2=w.drewN k):=hd
 clear hr hd
 go_wp2_with fail
 go_ret
 exact ret_iff HR.out HD.out
theorem isContent_3(t:ByteArray)(w:World):
 Calls Tryz.prog 108 #[.int .i64 3,.string t] w fun e w'=>RetB (t.size=0) w e w':=by
 go_enter Tryz.func108,Tryz.ntmps108
 go_wp2
 go_ret
 exact ret_iff (empty_iff t) (drew0 w)
theorem isContent_4(t:ByteArray)(w:World)(hm:t.size≤9223372036854775807):
 Calls Tryz.prog 108 #[.int .i64 4,.string t] w fun e w'=>RetB (OidOk t) w e w':=by
 go_enter Tryz.func108,Tryz.ntmps108
 go_wp2_with fail
 refine(isOid_any t _ hm).mono ?_
 rintro e w2 ⟨r,rfl,hr,hd⟩
 have HR:Hid (r=true↔OidOk t):=hr
 have HD:Hid (∃k,w2=w.drewN k):=hd
 clear hr hd
 go_wp2_with fail
 go_ret
 exact ret_iff HR.out HD.out
theorem isContent_5(t:ByteArray)(w:World)(hm:t.size≤9223372036854775807):
 Calls Tryz.prog 108 #[.int .i64 5,.string t] w fun e w'=>RetB (BitsOk t) w e w':=by
 go_enter Tryz.func108,Tryz.ntmps108
 go_wp2_with fail
 refine(isBits_any t _ hm).mono ?_
 rintro e w2 ⟨r,rfl,hr,hd⟩
 have HR:Hid (r=true↔BitsOk t):=hr
 have HD:Hid (∃k,w2=w.drewN k):=hd
 clear hr hd
 go_wp2_with fail
 go_ret
 exact ret_iff HR.out HD.out
theorem isContent_6(t:ByteArray)(w:World):
 Calls Tryz.prog 108 #[.int .i64 6,.string t] w fun e w'=>RetB True w e w':=by
 go_enter Tryz.func108,Tryz.ntmps108
 go_wp2
 go_ret
 exact ret_yes trivial (drew0 w)
theorem isContent_7(t:ByteArray)(w:World)(hm:t.size≤140737488355328):
 Calls Tryz.prog 108 #[.int .i64 7,.string t] w fun e w'=>RetB (Utf8Ok t) w e w':=by
 go_enter Tryz.func108,Tryz.ntmps108
 go_wp2_with fail
 refine(isUtf8_any t _ hm).mono ?_
 rintro e w2 ⟨r,rfl,hr,hd⟩
 have HR:Hid (r=true↔Utf8Ok t):=hr
 have HD:Hid (∃k,w2=w.drewN k):=hd
 clear hr hd
 go_wp2_with fail
 go_ret
 exact ret_iff HR.out HD.out
theorem isContent_8(t:ByteArray)(w:World)(hm:t.size≤9223372036854775807):
 Calls Tryz.prog 108 #[.int .i64 8,.string t] w fun e w'=>RetB (PrOk t) w e w':=by
 go_enter Tryz.func108,Tryz.ntmps108
 go_wp2_with fail
 refine(isPrintableRef_any t _ hm).mono ?_
 rintro e w2 ⟨r,rfl,hr,hd⟩
 have HR:Hid (r=true↔PrOk t):=hr
 have HD:Hid (∃k,w2=w.drewN k):=hd
 clear hr hd
 go_wp2_with fail
 go_ret
 exact ret_iff HR.out HD.out
theorem isContent_9(t:ByteArray)(w:World)(hm:t.size≤9223372036854775807):
 Calls Tryz.prog 108 #[.int .i64 9,.string t] w fun e w'=>RetB (TimeOk t) w e w':=by
 go_enter Tryz.func108,Tryz.ntmps108
 go_wp2_with fail
 refine(isTime_any t _ hm).mono ?_
 rintro e w2 ⟨r,rfl,hr,hd⟩
 have HR:Hid (r=true↔TimeOk t):=hr
 have HD:Hid (∃k,w2=w.drewN k):=hd
 clear hr hd
 go_wp2_with fail
 go_ret
 exact ret_iff HR.out HD.out
theorem isContent_no(k:Int)(t:ByteArray)(w:World)(hk:k<1∨9<k):
 Calls Tryz.prog 108 #[.int .i64 k,.string t] w fun e w'=>RetB False w e w':=by
 go_enter Tryz.func108,Tryz.ntmps108
 have g:∀c:Int,1≤c→c≤9→(k==c)=false:=fun c h1 h2=>by rw[beq_eq_false_iff_ne];omega
 have g1:=g 1 (by omega) (by omega)
 have g2:=g 2 (by omega) (by omega)
 have g3:=g 3 (by omega) (by omega)
 have g4:=g 4 (by omega) (by omega)
 have g5:=g 5 (by omega) (by omega)
 have g6:=g 6 (by omega) (by omega)
 have g7:=g 7 (by omega) (by omega)
 have g8:=g 8 (by omega) (by omega)
 have g9:=g 9 (by omega) (by omega)
 clear g
 go_wp2
 go_ret
 exact ret_no id (drew0 w)
theorem fits_2(t:ByteArray)(w:World)(hm:t.size≤9223372036854775807):
 Calls Tryz.prog 138 #[.int .i64 2,.string t] w fun e w'=>RetB (IntOk t) w e w':=by
 go_enter Tryz.func138,Tryz.ntmps138
 go_wp2_with fail
 refine(fitsInt_any t _ hm).mono ?_
 rintro e w2 ⟨r,rfl,hr,hd⟩
 have HR:Hid (r=true↔IntOk t):=hr
 have HD:Hid (∃k,w2=w.drewN k):=hd
 clear hr hd
 go_wp2_with fail
 go_ret
 exact ret_iff HR.out HD.out
theorem fits_4(t:ByteArray)(w:World)(hm:t.size≤9223372036854775807):
 Calls Tryz.prog 138 #[.int .i64 4,.string t] w fun e w'=>RetB (OidOk t) w e w':=by
 go_enter Tryz.func138,Tryz.ntmps138
 go_wp2_with fail
 refine(fitsOid_any t _ hm).mono ?_
 rintro e w2 ⟨r,rfl,hr,hd⟩
 have HR:Hid (r=true↔OidOk t):=hr
 have HD:Hid (∃k,w2=w.drewN k):=hd
 clear hr hd
 go_wp2_with fail
 go_ret
 exact ret_iff HR.out HD.out
theorem fits_5(t:ByteArray)(w:World)(hm:t.size≤9223372036854775807):
 Calls Tryz.prog 138 #[.int .i64 5,.string t] w fun e w'=>RetB (BitsOk t) w e w':=by
 go_enter Tryz.func138,Tryz.ntmps138
 go_wp2_with fail
 refine(fitsBits_any t _ hm).mono ?_
 rintro e w2 ⟨r,rfl,hr,hd⟩
 have HR:Hid (r=true↔BitsOk t):=hr
 have HD:Hid (∃k,w2=w.drewN k):=hd
 clear hr hd
 go_wp2_with fail
 go_ret
 exact ret_iff HR.out HD.out
theorem fits_8(t:ByteArray)(w:World)(hm:t.size≤9223372036854775807):
 Calls Tryz.prog 138 #[.int .i64 8,.string t] w fun e w'=>RetB (PrOk t) w e w':=by
 go_enter Tryz.func138,Tryz.ntmps138
 go_wp2_with fail
 refine(fitsPrintable_any t _ hm).mono ?_
 rintro e w2 ⟨r,rfl,hr,hd⟩
 have HR:Hid (r=true↔PrOk t):=hr
 have HD:Hid (∃k,w2=w.drewN k):=hd
 clear hr hd
 go_wp2_with fail
 go_ret
 exact ret_iff HR.out HD.out
theorem fits_9(t:ByteArray)(w:World)(hm:t.size≤9223372036854775807)(hD:Days w):
 Calls Tryz.prog 138 #[.int .i64 9,.string t] w fun e w'=>RetB (TimeOk t) w e w':=by
 go_enter Tryz.func138,Tryz.ntmps138
 go_wp2_with fail
 refine(fitsTime_any t _ hm hD).mono ?_
 rintro e w2 ⟨r,rfl,hr,hd⟩
 have HR:Hid (r=true↔TimeOk t):=hr
 have HD:Hid (∃k,w2=w.drewN k):=hd
 clear hr hd
 go_wp2_with fail
 go_ret
 exact ret_iff HR.out HD.out
theorem fits_3(t:ByteArray)(w:World):
 Calls Tryz.prog 138 #[.int .i64 3,.string t] w fun e w'=>RetB (t.size=0) w e w':=by
 go_enter Tryz.func138,Tryz.ntmps138
 go_wp2
 go_ret
 exact ret_iff (empty_iff t) (drew0 w)
theorem fits_6(t:ByteArray)(w:World):
 Calls Tryz.prog 138 #[.int .i64 6,.string t] w fun e w'=>RetB True w e w':=by
 go_enter Tryz.func138,Tryz.ntmps138
 go_wp2
 go_ret
 exact ret_yes trivial (drew0 w)
theorem fits_no(k:Int)(t:ByteArray)(w:World)(hk:k<1∨9<k):
 Calls Tryz.prog 138 #[.int .i64 k,.string t] w fun e w'=>RetB False w e w':=by
 go_enter Tryz.func138,Tryz.ntmps138
 have g:∀c:Int,1≤c→c≤9→(k==c)=false:=fun c h1 h2=>by rw[beq_eq_false_iff_ne];omega
 have g1:=g 1 (by omega) (by omega)
 have g2:=g 2 (by omega) (by omega)
 have g3:=g 3 (by omega) (by omega)
 have g4:=g 4 (by omega) (by omega)
 have g5:=g 5 (by omega) (by omega)
 have g6:=g 6 (by omega) (by omega)
 have g7:=g 7 (by omega) (by omega)
 have g8:=g 8 (by omega) (by omega)
 have g9:=g 9 (by omega) (by omega)
 clear g
 go_wp2
 go_ret
 exact ret_no id (drew0 w)
theorem fits_1(t:ByteArray)(w:World):
 Calls Tryz.prog 138 #[.int .i64 1,.string t] w fun e w'=>RetB (BoolOk t) w e w':=by
 go_enter Tryz.func138,Tryz.ntmps138
 by_cases h0:t.toList=[0]
 ·have HY:Hid (BoolOk t):=(boolOk_iff t).2 (.inl h0)
  go_wp2
  go_ret
  exact ret_yes HY.out (drew0 w)
 ·go_wp2
  go_ret
  refine ret_iff (Iff.trans ?_ (boolOk_iff t).symm) (drew0 w)
  rw[Bool.or_eq_true,beq_iff_eq,beq_iff_eq]
end Go.Proofs.YtkkicodfpekbgaaGreatDoor
namespace Go.Proofs.YtkkicodfpekbgaaGreatDoor
open Go.Shelf
set_option linter.unusedSimpArgs false
set_option linter.unusedVariables false
set_option maxRecDepth 100000
set_option maxHeartbeats 8000000
def valRen:Ren where
 f:=fun|196=>176|259=>194|n=>n
 t:=fun|0=>0|3=>3|4=>4|5=>5|9=>9|12=>12|46=>266|53=>286|119=>275|138=>277|139=>278|n=>n
 g:=fun|3=>14|4=>15|n=>n
theorem Tryz.laysValid:Lays.n196 Tryz.prog valRen where
 mixed:=by kernel_rfl
 f196:=Tryz.func176.trans (congrArg some (by kernel_rfl))
 f259:=Tryz.func194.trans (congrArg some (by kernel_rfl))
 t0:=Tryz.underlying0
 a0:=Tryz.isAgg0
 z0:=Tryz.sizeOf0
 v0:=Tryz.zeroValue0
 t3:=Tryz.underlying3
 a3:=Tryz.isAgg3
 z3:=Tryz.sizeOf3
 v3:=Tryz.zeroValue3
 t4:=Tryz.underlying4
 a4:=Tryz.isAgg4
 z4:=Tryz.sizeOf4
 v4:=Tryz.zeroValue4
 t5:=Tryz.underlying5
 a5:=Tryz.isAgg5
 z5:=Tryz.sizeOf5
 v5:=Tryz.zeroValue5
 t9:=Tryz.underlying9
 a9:=Tryz.isAgg9
 z9:=Tryz.sizeOf9
 v9:=Tryz.zeroValue9
 t12:=Tryz.underlying12
 a12:=Tryz.isAgg12
 z12:=Tryz.sizeOf12
 v12:=Tryz.zeroValue12
 t46:=Tryz.underlying266
 a46:=Tryz.isAgg266
 z46:=Tryz.sizeOf266
 v46:=Tryz.zeroValue266
 t53:=Tryz.underlying286
 a53:=Tryz.isAgg286
 z53:=Tryz.sizeOf286
 v53:=Tryz.zeroValue286
 t119:=Tryz.underlying275
 a119:=Tryz.isAgg275
 z119:=Tryz.sizeOf275
 t138:=Tryz.underlying277
 a138:=Tryz.isAgg277
 z138:=Tryz.sizeOf277
 v138:=Tryz.zeroValue277
 t139:=Tryz.underlying278
 a139:=Tryz.isAgg278
 z139:=Tryz.sizeOf278
 v139:=Tryz.zeroValue278
 g3:=by kernel_rfl
 g4:=by kernel_rfl
end Go.Proofs.YtkkicodfpekbgaaGreatDoor
namespace Go.Proofs.YtkkicodfpekbgaaGreatDoor
open Go.RowKit
set_option linter.unusedSimpArgs false
set_option linter.unusedVariables false
set_option maxRecDepth 100000
set_option maxHeartbeats 8000000
def ContentOk(k:Int)(t:ByteArray):Prop:=
 (k=1∧BoolOk t)∨(k=2∧IntOk t)∨(k=3∧t.size=0)∨(k=4∧OidOk t)∨(k=5∧BitsOk t)∨(k=6∧True)∨(k=7∧Utf8Ok t)∨(k=8∧PrOk t)∨(k=9∧TimeOk t)
theorem contentOk_1(t:ByteArray):BoolOk t↔ContentOk 1 t:=by unfold ContentOk;simp
theorem contentOk_2(t:ByteArray):IntOk t↔ContentOk 2 t:=by unfold ContentOk;simp
theorem contentOk_3(t:ByteArray):t.size=0↔ContentOk 3 t:=by unfold ContentOk;simp
theorem contentOk_4(t:ByteArray):OidOk t↔ContentOk 4 t:=by unfold ContentOk;simp
theorem contentOk_5(t:ByteArray):BitsOk t↔ContentOk 5 t:=by unfold ContentOk;simp
theorem contentOk_6(t:ByteArray):True↔ContentOk 6 t:=by unfold ContentOk;simp
theorem contentOk_7(t:ByteArray):Utf8Ok t↔ContentOk 7 t:=by unfold ContentOk;simp
theorem contentOk_8(t:ByteArray):PrOk t↔ContentOk 8 t:=by unfold ContentOk;simp
theorem contentOk_9(t:ByteArray):TimeOk t↔ContentOk 9 t:=by unfold ContentOk;simp
theorem contentOk_no(k:Int)(t:ByteArray)(h:k<1∨9<k):False↔ContentOk k t:=by
 unfold ContentOk
 refine⟨False.elim,fun c=>?_⟩
 rcases c with c|c|c|c|c|c|c|c|c<;> (have:=c.1;omega)
theorem RetB.to{P Q:Prop}{w w':World}{e:Ending}(h:RetB P w e w')(i:P↔Q):RetB Q w e w':=by
 obtain⟨r,h1,h2,h3⟩:=h
 exact⟨r,h1,h2.trans i,h3⟩
def RetW(P:Prop)(w:World)(e:Ending)(w':World):Prop:=∃r,e= .returned (.bool r)∧(r=true↔P)∧Below w.heap.size w w'
theorem below_drawn{B:Nat}{a w:World}(h:Below B a w):∀q,Below B a (w.drewN q)
 |0=>h
 |q+1=>(below_drawn h q).drew
theorem RetB.toW{P:Prop}{w w':World}{e:Ending}(h:RetB P w e w'):RetW P w e w':=by
 obtain⟨r,h1,h2,k,rfl⟩:=h
 exact⟨r,h1,h2,below_drawn (Below.refl _ _) k⟩
theorem RetW.to{P Q:Prop}{w w':World}{e:Ending}(h:RetW P w e w')(i:P↔Q):RetW Q w e w':=by
 obtain⟨r,h1,h2,h3⟩:=h
 exact⟨r,h1,h2.trans i,h3⟩
theorem kinds(k:Int):(k<1∨9<k)∨k=1∨k=2∨k=3∨k=4∨k=5∨k=6∨k=7∨k=8∨k=9:=by omega
theorem isContent_any(k:Int)(t:ByteArray)(w:World)(hs:t.size≤140737488355328):
 Calls Tryz.prog 108 #[.int .i64 k,.string t] w fun e w'=>RetB (ContentOk k t) w e w':=by
 have hm:t.size≤9223372036854775807:=by omega
 rcases kinds k with h|rfl|rfl|rfl|rfl|rfl|rfl|rfl|rfl|rfl
 ·exact(isContent_no k t w h).mono fun _ _ r=>r.to (contentOk_no k t h)
 ·exact(isContent_1 t w).mono fun _ _ r=>r.to (contentOk_1 t)
 ·exact(isContent_2 t w hm).mono fun _ _ r=>r.to (contentOk_2 t)
 ·exact(isContent_3 t w).mono fun _ _ r=>r.to (contentOk_3 t)
 ·exact(isContent_4 t w hm).mono fun _ _ r=>r.to (contentOk_4 t)
 ·exact(isContent_5 t w hm).mono fun _ _ r=>r.to (contentOk_5 t)
 ·exact(isContent_6 t w).mono fun _ _ r=>r.to (contentOk_6 t)
 ·exact(isContent_7 t w hs).mono fun _ _ r=>r.to (contentOk_7 t)
 ·exact(isContent_8 t w hm).mono fun _ _ r=>r.to (contentOk_8 t)
 ·exact(isContent_9 t w hm).mono fun _ _ r=>r.to (contentOk_9 t)
def Valids(t:ByteArray)(w:World):Prop:=Calls Tryz.prog 176 #[.string t] w fun e w'=>RetW (Utf8Ok t) w e w'
theorem fits_7(t:ByteArray)(w:World)(hV:Valids t w):
 Calls Tryz.prog 138 #[.int .i64 7,.string t] w fun e w'=>RetW (Utf8Ok t) w e w':=by
 go_enter Tryz.func138,Tryz.ntmps138
 go_wp2_with fail
 refine Calls.mono hV ?_
 rintro e w2 ⟨r,rfl,hr,hd⟩
 have HR:Hid (r=true↔Utf8Ok t):=hr
 have HD:Hid (Below w.heap.size w w2):=hd
 clear hr hd
 go_wp2_with fail
 go_ret
 exact⟨_,rfl,HR.out,HD.out⟩
theorem fits_any(k:Int)(t:ByteArray)(w:World)(hm:t.size≤9223372036854775807)(hD:Days w)(hV:Valids t w):
 Calls Tryz.prog 138 #[.int .i64 k,.string t] w fun e w'=>RetW (ContentOk k t) w e w':=by
 rcases kinds k with h|rfl|rfl|rfl|rfl|rfl|rfl|rfl|rfl|rfl
 ·exact(fits_no k t w h).mono fun _ _ r=>(r.to (contentOk_no k t h)).toW
 ·exact(fits_1 t w).mono fun _ _ r=>(r.to (contentOk_1 t)).toW
 ·exact(fits_2 t w hm).mono fun _ _ r=>(r.to (contentOk_2 t)).toW
 ·exact(fits_3 t w).mono fun _ _ r=>(r.to (contentOk_3 t)).toW
 ·exact(fits_4 t w hm).mono fun _ _ r=>(r.to (contentOk_4 t)).toW
 ·exact(fits_5 t w hm).mono fun _ _ r=>(r.to (contentOk_5 t)).toW
 ·exact(fits_6 t w).mono fun _ _ r=>(r.to (contentOk_6 t)).toW
 ·exact(fits_7 t w hV).mono fun _ _ r=>r.to (contentOk_7 t)
 ·exact(fits_8 t w hm).mono fun _ _ r=>(r.to (contentOk_8 t)).toW
 ·exact(fits_9 t w hm hD).mono fun _ _ r=>(r.to (contentOk_9 t)).toW
theorem own_any(k:Int)(h:0≤k)(h':k≤12)(w:World):
 Calls Tryz.prog 142 #[.int .i64 k] w fun e w'=>e= .returned (.int .i64 (own k))∧Below w.heap.size w w':=by
 obtain⟨n,rfl⟩:∃n:Nat,k=n:=⟨k.toNat,by omega⟩
 have hn:n≤12:=by omega
 clear h h'
 match n,hn with
 |0,_|1,_|2,_|3,_|4,_|5,_|6,_|7,_|8,_|9,_|10,_|11,_|12,_=>
  go_enter Tryz.func142,Tryz.ntmps142
  go_wp2
  go_ret
  exact⟨rfl,(Below.refl _ _).alloc (Nat.le_refl _) _⟩
theorem hd_ok{r:ByteArray}(h:(hd r).1=0):1≤(hd r).2.s∧0≤(hd r).2.l∧(hd r).2.s+(hd r).2.l≤r.size:=by
 have hr:=rl_bd (r.extract 1 r.size)
 unfold hd at h ⊢
 repeat' split at h
 all_goals first|(exfalso;simp at h;done)|skip
 ·rename_i h1;exfalso;exact h1 h
 ·rename_i h1 h2 h3 h4
  rw[if_neg h1,if_neg h2,if_neg h3,if_neg h4]
  simp only
  omega
theorem own0_any(k:Int)(h:0≤k)(h':k≤12)(w:World):
 Calls Tryz.prog 103 #[.int .i64 k] w fun e w'=>e= .returned (.int .i64 (own k))∧Below w.heap.size w w':=by
 have HO:Hid (∀w,Calls Tryz.prog 142 #[.int .i64 k] w fun e w'=>e= .returned (.int .i64 (own k))∧Below w.heap.size w w'):=fun w=>own_any k h h' w
 go_enter Tryz.func103,Tryz.ntmps103
 go_wp2_with fail
 refine(HO.out _).mono ?_
 rintro e w1 ⟨rfl,hb⟩
 have HB:Hid (Below w.heap.size w w1):=hb
 clear hb
 go_wp2
 go_ret
 exact⟨rfl,HB.out⟩
def NodeAt(N:Nd)(data:ByteArray)(x y:Nat)(dp:Int)(to:Nat)(u:ByteArray):Prop:=
 dp≤12∧(hd (data.extract x y)).1=0∧(to:Int)=x+(hd (data.extract x y)).2.s+(hd (data.extract x y)).2.l∧
 ((N.tag<0∧(hd (data.extract x y)).2.c=0∧(hd (data.extract x y)).2.n=own N.kind∧(hd (data.extract x y)).2.b=false∧u=data.extract (x+(hd (data.extract x y)).2.s.toNat) to∧ContentOk N.kind u)∨
  (0≤N.tag∧N.mode=0∧(hd (data.extract x y)).2.c=2∧(hd (data.extract x y)).2.n=N.tag∧(hd (data.extract x y)).2.b=false∧u=data.extract (x+(hd (data.extract x y)).2.s.toNat) to∧ContentOk N.kind u)∨
  (0≤N.tag∧N.mode≠0∧(hd (data.extract x y)).2.c=2∧(hd (data.extract x y)).2.n=N.tag∧(hd (data.extract x y)).2.b=true∧
    ∃t,t=data.extract (x+(hd (data.extract x y)).2.s.toNat) to∧(hd t).1=0∧(hd t).2.c=0∧(hd t).2.n=own N.kind∧(hd t).2.b=false∧(x:Int)+(hd (data.extract x y)).2.s+(hd t).2.s+(hd t).2.l=to∧
     u=data.extract (x+(hd (data.extract x y)).2.s.toNat+(hd t).2.s.toNat) to∧ContentOk N.kind u))
theorem own_form{w:World}{base e size:Nat}{v:Value}{n:Nat}{xs:List Value}(h:w.ownsRow base e size v n xs):∃a cap,v= .slice a n cap∧(0<n→∃g,a=some ⟨g,0,none⟩):=by
 rcases h.2 with⟨hv,hn⟩|⟨g,cap,cur,hv,_⟩
 ·subst hn;exact⟨none,0,hv,fun h=>absurd h (Nat.lt_irrefl _)⟩
 ·exact⟨_,cap,hv,fun _=>⟨g,rfl⟩⟩
def Kinds(s:List Nd):Prop:=∀j,j<s.length→1≤(nd s j).kind∧(nd s j).kind≤14
theorem begins_any(s:List Nd)(a:Option Addr)(cp i:Nat)(c m:Int)(w:World)(hs:Sch w a s)(hw:Within s)(hkd:Kinds s)(hi:i<s.length)(hn:s.length≤40):
 Calls Tryz.prog 100 #[.slice a s.length cp,.int .i64 i,.int .i64 c,.int .i64 m] w fun e w'=>RetO (Beg s i c m) w e w':=by
 have HS:Hid (Sch w a s):=hs
 have HW:Hid (Within s):=hw
 have HK:Hid (Kinds s):=hkd
 have HC:Hid (Calls Tryz.prog 37 #[.slice a s.length cp,.int .i64 i] w fun e w'=>RetL s i w e w'):=leaves_any s a cp i w hs hw hi hn
 clear hs hw hkd
 go_enter Tryz.func100,Tryz.ntmps100
 go_wp2_with fail
 refine HC.out.mono ?_
 rintro e w1 ⟨v,l,bk,rfl,hown,hb,hl,hlf,_⟩
 obtain⟨va,vc,rfl,hva⟩:=own_form hown
 have HO:Hid (w1.ownsRow w.heap.size 3 1 (.slice va l.length vc) l.length (ivs l)):=hown
 have HB:Hid (Below w.heap.size w w1):=hb
 have HF:Hid (∀j,j∈l↔Leaf s i j):=hlf
 have HA:Hid (0<l.length→∃g,va=some ⟨g,0,none⟩):=hva
 clear hown hb hlf hva HC
 go_wp2
 go_loopw [11] (fun vk wr=>∃k:Nat,k≤l.length∧vk= .int .i64 k∧(∀p,p<k→¬begAt (nd s (l.getD p 0)) c m)∧Below w1.heap.size w1 wr) (fun vk _=>l.length-(intOf vk).toNat)
 case atStart=>exact⟨0,Nat.zero_le _,rfl,fun p hp=>absurd hp (Nat.not_lt_zero _),Below.refl _ _⟩
 case round=>
  obtain⟨k,hk,rfl,hno,hbr⟩:=hrel
  have HN:Hid (∀p,p<k→¬begAt (nd s (l.getD p 0)) c m):=hno
  have HBR:Hid (Below w1.heap.size w1 wr):=hbr
  by_cases hlt:k<l.length
  ·obtain⟨g,rfl⟩:=HA.out (by omega)
   have ck:=own_cell (own_below HO.out hbr) hlt
   have HX:Hid (l.getD k 0∈l):=by show _∈l;rw[List.getD_eq_getElem?_getD,List.getElem?_eq_getElem hlt];exact List.getElem_mem hlt
   generalize hx:l.getD k 0=x at ck HX
   have HXE:Hid (l.getD k 0=x):=hx
   have hxs:x<s.length:=((HF.out x).1 HX.out).1.lt HW.out hi
   have hkx:=HK.out x hxs
   have HLX:Hid (Leaf s i x):=(HF.out x).1 HX.out
   obtain⟨b,o,ka,kc,rfl,nc,kl,km,ks⟩:=HS.out x hxs
   have HBW:Hid (Below w.heap.size w wr):=HB.out.trans (hbr.mono HB.out.size)
   obtain⟨n1,n2,n3,n4⟩:=nc.below HBW.out
   have hlt':(k:Int)<l.length:=by omega
   have hxs':(x:Int)<s.length:=by omega
   have NX:Hid (∀(h:¬begAt (nd s x) c m),∀p,p<k+1→¬begAt (nd s (l.getD p 0)) c m):=fun h p hp=>by
    by_cases e:p=k
    ·subst e;rw[HXE.out];exact h
    ·exact HN.out p (by omega)
   have YES:Hid (begAt (nd s x) c m→Beg s i c m):=fun h=>⟨x,HLX.out,h⟩
   clear hno hbr hx nc ks
   by_cases ht:0≤(nd s x).tag
   ·by_cases hc:c=2
    ·subst hc
     by_cases hm:m=(nd s x).tag
     ·have HH:Hid (begAt (nd s x) 2 m):= .inl ⟨ht,rfl,hm⟩
      subst hm
      go_wp2
      go_ret
      exact reto_yes (YES.out HH.out) (HBW.out.alloc HBW.out.size _)
     ·have HH:Hid (¬begAt (nd s x) 2 m):=fun h=>by rcases h with h|h|h<;>omega
      have hm':(m==(nd s x).tag)=false:=by rw[beq_eq_false_iff_ne];exact hm
      clear hm
      go_wp2
      go_roundw
      case rel=>exact⟨k+1,by omega,by go_num,NX.out HH.out,HBR.out.alloc HBR.out.size _⟩
      case measure=>simp[intOf];omega
    ·have HH:Hid (¬begAt (nd s x) c m):=fun h=>by rcases h with h|h|h<;>omega
     have hc':(c==2)=false:=by rw[beq_eq_false_iff_ne];exact hc
     clear hc
     go_wp2
     go_roundw
     case rel=>exact⟨k+1,by omega,by go_num,NX.out HH.out,HBR.out.alloc HBR.out.size _⟩
     case measure=>simp[intOf];omega
   ·have ht':(nd s x).tag<0:=by omega
    clear ht
    by_cases ha:(nd s x).kind=14
    ·have HH:Hid (begAt (nd s x) c m):= .inr (.inl ⟨ht',ha⟩)
     have ha':((nd s x).kind==14)=true:=by rw[beq_iff_eq];exact ha
     clear ha hkx
     go_wp2
     go_ret
     exact reto_yes (YES.out HH.out) (HBW.out.alloc HBW.out.size _)
    ·have ha':((nd s x).kind==14)=false:=by rw[beq_eq_false_iff_ne];exact ha
     by_cases hc:c=0
     ·subst hc
      have HO1:Hid (∀w,Calls Tryz.prog 142 #[.int .i64 (nd s x).kind] w fun e w'=>e= .returned (.int .i64 (own (nd s x).kind))∧Below w.heap.size w w'):=fun w=>own_any _ (by omega) (by have h3:=HLX.out.2;have:(nd s x).kind≠13:=fun e=>h3 ⟨e,ht'⟩;omega) w
      by_cases hm:m=own (nd s x).kind
      ·have HH:Hid (begAt (nd s x) 0 m):= .inr (.inr ⟨ht',ha,rfl,hm⟩)
       have hm':(m==own (nd s x).kind)=true:=by rw[beq_iff_eq];exact hm
       clear hm ha
       go_wp2_with fail
       refine(HO1.out _).mono ?_
       rintro e w2 ⟨rfl,hb2⟩
       have HB2:Hid (Below w.heap.size w w2):=HBW.out.trans ((below_alloc hb2).mono HBW.out.size)
       clear hb2
       go_wp2
       go_ret
       exact reto_yes (YES.out HH.out) HB2.out
      ·have HH:Hid (¬begAt (nd s x) 0 m):=fun h=>by rcases h with h|h|h<;>omega
       have hm':(m==own (nd s x).kind)=false:=by rw[beq_eq_false_iff_ne];exact hm
       clear hm ha
       go_wp2_with fail
       refine(HO1.out _).mono ?_
       rintro e w2 ⟨rfl,hb2⟩
       have HB2:Hid (Below w1.heap.size w1 w2):=HBR.out.trans ((below_alloc hb2).mono HBR.out.size)
       clear hb2
       go_wp2
       go_roundw
       case rel=>exact⟨k+1,by omega,by go_num,NX.out HH.out,HB2.out⟩
       case measure=>simp[intOf];omega
     ·have HH:Hid (¬begAt (nd s x) c m):=fun h=>by rcases h with h|h|h<;>omega
      have hc':(c==0)=false:=by rw[beq_eq_false_iff_ne];exact hc
      clear hc ha
      go_wp2
      go_roundw
      case rel=>exact⟨k+1,by omega,by go_num,NX.out HH.out,HBR.out.alloc HBR.out.size _⟩
      case measure=>simp[intOf];omega
  ·have hlt':(l.length:Int)≤k:=by omega
   clear hno hbr
   go_wp2
   go_ret
   exact reto_no (fun⟨j,hj,hbg⟩=>by
    obtain⟨p,hp,e⟩:=List.getElem_of_mem ((HF.out j).2 hj)
    refine HN.out p (by omega) ?_
    rw[List.getD_eq_getElem?_getD,List.getElem?_eq_getElem hp];simpa [e]using hbg) (HB.out.trans (HBR.out.mono HB.out.size))
def Nd.stops(n:Nd)(k:Kd):Prop:=n.kind=10∧k.must
def kd(n:Nd)(i:Nat):Kd:=n.kids.getD i kd0
def ToldAt(C:Nat→Nat→Prop)(n:Nd)(i m:Nat):Prop:=n.stops (kd n i)∨∀k,i<k→k<m→(∀j,i<j→j<k→¬n.stops (kd n j))→¬C (kd n i).node.toNat (kd n k).node.toNat
def Told(C:Nat→Nat→Prop)(n:Nd):Prop:=∀i,i<n.kids.length→ToldAt C n i n.kids.length
def Count(k:Int)(m:Nat):Prop:=if k=10 then m≤8 else if k=11∨k=12 then m=1 else if k=13 then 1≤m∧m≤8 else m=0
def KidOk(len:Nat)(n:Nd)(k:Kd):Prop:=0≤k.node∧k.node<len∧(k.must∨n.kind=10)∧¬(k.opt=true∧k.dflt.size≠0)
def Bad1(n:Nd):Prop:=n.kind<1∨14<n.kind∨n.tag< -1∨30<n.tag∨(n.mode≠0∧n.mode≠1)
def Bad2(n:Nd):Prop:=(n.mode=1∧n.tag= -1)∨((n.kind=13∨n.kind=14)∧0≤n.tag∧n.mode=0)
def Alone(len:Nat)(n:Nd):Prop:=¬Bad1 n∧¬Bad2 n∧Count n.kind n.kids.length∧∀j,j<n.kids.length→KidOk len n (kd n j)
def ElemOk(N:Nd)(t u:ByteArray):Prop:=NodeAt N t 0 t.size 1 t.size u
def DfltOk(s:List Nd)(n:Nd)(m:Nat):Prop:=∀j,j<m→(kd n j).dflt.size=0∨((nd s (kd n j).node.toNat).kind≤9∧∃u,ElemOk (nd s (kd n j).node.toNat) (kd n j).dflt u)
def RightP(s:List Nd):Prop:=1≤s.length∧s.length≤40∧(∀i,i<s.length→Alone s.length (nd s i))∧(∀i,i<s.length→¬Back s i)∧
 ∀i,i<s.length→((nd s i).kind=10∨(nd s i).kind=13→Told (Common s) (nd s i))∧DfltOk s (nd s i) (nd s i).kids.length
theorem within_of{s:List Nd}(h:∀i,i<s.length→Alone s.length (nd s i)):Within s:=fun i hi k hk=>by
 obtain⟨j,hj,e⟩:=List.getElem_of_mem hk
 have:=(h i hi).2.2.2 j hj
 unfold kd at this
 rw[List.getD_eq_getElem?_getD,List.getElem?_eq_getElem hj]at this
 simp only[Option.getD_some,e]at this
 exact⟨this.1,this.2.1⟩
theorem kinds_of{s:List Nd}(h:∀i,i<s.length→Alone s.length (nd s i)):Kinds s:=fun i hi=>by have:=(h i hi).1;unfold Bad1 at this;omega
theorem count8{s:List Nd}(h:∀i,i<s.length→Alone s.length (nd s i)){i:Nat}(hi:i<s.length):(nd s i).kids.length≤8:=by
 have:=(h i hi).2.2.1
 unfold Count at this
 repeat' split at this
 all_goals omega
theorem mode_of{s:List Nd}(h:∀i,i<s.length→Alone s.length (nd s i)){i:Nat}(hi:i<s.length):(nd s i).mode=0∨(nd s i).mode=1:=by have:=(h i hi).1;unfold Bad1 at this;omega
end Go.Proofs.YtkkicodfpekbgaaGreatDoor
namespace Go.Proofs.YtkkicodfpekbgaaGreatDoor
set_option linter.unusedSimpArgs false
set_option linter.unusedVariables false
set_option maxRecDepth 100000
set_option maxHeartbeats 8000000
abbrev Out:=Except (Int×Int) (List Vl×Nat)
structure Env where
 s:List Nd
 d:ByteArray
 bg:Nat→Int→Int→Bool
 ok:Int→ByteArray→Bool
 dv:Kd→Vl
def own0(k:Int):Int:=if 12<k then 0 else own k
abbrev noB:ByteArray:=⟨#[]⟩
abbrev Rec:=Nat→Nat→Nat→Int→Option Out
def Env.hd(E:Env)(x y:Nat):Int×Hd:=Go.Proofs.YtkkicodfpekbgaaGreatDoor.hd (E.d.extract x y)
def Out.andThen{α:Type}(o:Option Out)(k:List Vl→Nat→Option (Except (Int×Int) α)):Option (Except (Int×Int) α):=
 match o with
 |none=>none
 |some (.error e)=>some (.error e)
 |some (.ok (vs,z))=>k vs z
def choiceF(E:Env)(rec:Rec)(h:Hd)(x to:Nat)(dp:Int):List Kd→Nat→Option Out
 | [],_=>some (.error (4,x))
 |k::ks,j=>if E.bg k.node.toNat h.c h.n=true then Out.andThen (rec k.node.toNat x to dp) fun vs _=>some (.ok (⟨13,noB,j,1⟩::vs,to))else choiceF E rec h x to dp ks (j+1)
def seqF(E:Env)(rec:Rec)(to:Nat)(dp:Int):List Kd→Nat→List Vl→Option Out
 | [],x,acc=>if x<to then some (.error (7,x))else some (.ok (acc,x))
 |k::ks,x,acc=>
  if x<to∧(E.hd x to).1≠0 then some (.error ((E.hd x to).1,x))
  else if x<to∧E.bg k.node.toNat (E.hd x to).2.c (E.hd x to).2.n=true then
   Out.andThen (rec k.node.toNat x to dp) fun vs z=>if E.d.extract x z=k.dflt then some (.error (9,x))else seqF E rec to dp ks z (acc++vs)
  else if k.opt=true then seqF E rec to dp ks x (acc++[⟨15,noB,0,0⟩])
  else if k.dflt.size≠0 then seqF E rec to dp ks x (acc++[E.dv k])
  else if x<to then some (.error (4,x))else some (.error (3,x))
def below(a b:ByteArray):Bool:=Op.bytesLess a.toList b.toList
def manyF(E:Env)(rec:Rec)(set:Bool)(i to:Nat)(dp:Int):Nat→Nat→ByteArray→Nat→List Vl→Option (Except (Int×Int) (Nat×List Vl))
 |0,_,_,_,_=>none
 |m+1,x,last,j,acc=>
  if x<to then
   Out.andThen (rec i x to dp) fun vs z=>if set=true∧below (E.d.extract x z) last=true then some (.error (8,x))else manyF E rec set i to dp m z (E.d.extract x z) (j+1) (acc++vs)
  else some (.ok (j,acc))
def bareF(E:Env)(rec:Rec)(m:Nat)(n:Nd)(cl nu:Int)(h:Hd)(x to:Nat)(dp:Int):Option Out:=
 if n.kind=13 then choiceF E rec h x to dp n.kids 0
 else if n.kind≠14∧¬(h.c=cl∧h.n=nu∧h.b=decide (10≤n.kind∧n.kind≤12))then some (.error (4,x))
 else if 12<dp then some (.error (10,x))
 else if n.kind=14 then some (.ok ([⟨14,E.d.extract x to,0,0⟩],to))
 else if n.kind=10 then
  match seqF E rec to (dp+1) n.kids (x+h.s.toNat) []with
  |none=>none
  |some (.error e)=>some (.error e)
  |some (.ok (vs,_))=>some (.ok (⟨10,noB,0,n.kids.length⟩::vs,to))
 else if 10≤n.kind∧n.kind≤12 then
  match manyF E rec (decide (n.kind=12)) (kd n 0).node.toNat to (dp+1) m (x+h.s.toNat) noB 0 []with
  |none=>none
  |some (.error e)=>some (.error e)
  |some (.ok (j,vs))=>some (.ok (⟨n.kind,noB,0,j⟩::vs,to))
 else if E.ok n.kind (E.d.extract (x+h.s.toNat) to)=true then some (.ok ([⟨n.kind,E.d.extract (x+h.s.toNat) to,0,0⟩],to))
 else some (.error (6,x))
def fin(x:Nat)(h:Hd):Nat:=x+h.s.toNat+h.l.toNat
def valF(E:Env)(rec:Rec)(m i:Nat)(h:Hd)(x to:Nat)(dp:Int):Option Out:=
 if(nd E.s i).tag<0 then bareF E rec m (nd E.s i) 0 (own0 (nd E.s i).kind) h x to dp
 else if(nd E.s i).mode=0 then bareF E rec m (nd E.s i) 2 (nd E.s i).tag h x to dp
 else if¬(h.c=2∧h.n=(nd E.s i).tag∧h.b=true)then some (.error (4,x))
 else if 12<dp then some (.error (10,x))
 else if(E.hd (x+h.s.toNat) to).1≠0 then some (.error ((E.hd (x+h.s.toNat) to).1,x+h.s.toNat))
 else
  Out.andThen (bareF E rec m (nd E.s i) 0 (own0 (nd E.s i).kind) (E.hd (x+h.s.toNat) to).2 (x+h.s.toNat) (fin (x+h.s.toNat) (E.hd (x+h.s.toNat) to).2) dp) fun vs _=>
   if fin (x+h.s.toNat) (E.hd (x+h.s.toNat) to).2<to then some (.error (7,fin (x+h.s.toNat) (E.hd (x+h.s.toNat) to).2))else some (.ok (vs,to))
def rdF(E:Env):Nat→Rec
 |0,_,_,_,_=>none
 |f+1,i,x,y,dp=>if(E.hd x y).1≠0 then some (.error ((E.hd x y).1,x))else valF E (rdF E f) f i (E.hd x y).2 x (fin x (E.hd x y).2) dp
def readF(E:Env)(f root:Nat):Option (Except (Int×Int) (List Vl)):=
 Out.andThen (rdF E f root 0 E.d.size 1) fun vs z=>if z<E.d.size then some (.error (7,z))else some (.ok vs)
def RecLe(r r':Rec):Prop:=∀i x y dp o,r i x y dp=some o→r' i x y dp=some o
theorem Out.andThen_le{α:Type}{o o':Option Out}{k k':List Vl→Nat→Option (Except (Int×Int) α)}{v:Except (Int×Int) α}(ho:∀u,o=some u→o'=some u)(hk:∀vs z v,k vs z=some v→k' vs z=some v)(h:Out.andThen o k=some v):Out.andThen o' k'=some v:=by
 unfold Out.andThen at h ⊢
 split at h
 ·cases h
 ·rename_i e;rw[ho _ rfl];exact h
 ·rename_i vs z;rw[ho _ rfl];exact hk _ _ _ h
theorem choiceF_le{E:Env}{r r':Rec}(hr:RecLe r r'){h:Hd}{x to:Nat}{dp:Int}:∀(ks:List Kd) (j:Nat) (v:Out),choiceF E r h x to dp ks j=some v→choiceF E r' h x to dp ks j=some v
 | [],_,_,e=>e
 |k::ks,j,v,e=>by
  unfold choiceF at e ⊢
  split
  ·rename_i q;rw[if_pos q]at e;exact Out.andThen_le (fun u=>hr _ _ _ _ u) (fun _ _ _ q=>q) e
  ·rename_i q;rw[if_neg q]at e;exact choiceF_le hr ks (j+1) v e
theorem seqF_le{E:Env}{r r':Rec}(hr:RecLe r r'){to:Nat}{dp:Int}:∀(ks:List Kd) (x:Nat) (acc:List Vl) (v:Out),seqF E r to dp ks x acc=some v→seqF E r' to dp ks x acc=some v
 | [],_,_,_,e=>e
 |k::ks,x,acc,v,e=>by
  unfold seqF at e ⊢
  split
  ·rename_i q;rw[if_pos q]at e;exact e
  rename_i q;rw[if_neg q]at e
  split
  ·rename_i q;rw[if_pos q]at e
   refine Out.andThen_le (fun u=>hr _ _ _ _ u) (fun vs z v q=>?_) e
   split
   ·rename_i q';rw[if_pos q']at q;exact q
   ·rename_i q';rw[if_neg q']at q;exact seqF_le hr ks _ _ _ q
  rename_i q;rw[if_neg q]at e
  split
  ·rename_i q;rw[if_pos q]at e;exact seqF_le hr ks _ _ _ e
  rename_i q;rw[if_neg q]at e
  split
  ·rename_i q;rw[if_pos q]at e;exact seqF_le hr ks _ _ _ e
  rename_i q;rw[if_neg q]at e
  exact e
theorem manyF_le{E:Env}{r r':Rec}(hr:RecLe r r'){set:Bool}{i to:Nat}{dp:Int}:∀(m m':Nat) (x:Nat) (last:ByteArray) (j:Nat) (acc:List Vl) (v:Except (Int×Int) (Nat×List Vl)),m≤m'→manyF E r set i to dp m x last j acc=some v→manyF E r' set i to dp m' x last j acc=some v
 |0,_,_,_,_,_,_,_,e=>by cases e
 |m+1,m',x,last,j,acc,v,hm,e=>by
  obtain⟨m'',rfl⟩:∃k,m'=k+1:=⟨m'-1,by omega⟩
  unfold manyF at e ⊢
  split
  ·rename_i q;rw[if_pos q]at e
   refine Out.andThen_le (fun u=>hr _ _ _ _ u) (fun vs z v q=>?_) e
   split
   ·rename_i q';rw[if_pos q']at q;exact q
   ·rename_i q';rw[if_neg q']at q;exact manyF_le hr m m'' _ _ _ _ _ (by omega) q
  ·rename_i q;rw[if_neg q]at e;exact e
theorem bareF_le{E:Env}{r r':Rec}(hr:RecLe r r'){m m':Nat}(hm:m≤m'){n:Nd}{cl nu:Int}{h:Hd}{x to:Nat}{dp:Int}{v:Out}(e:bareF E r m n cl nu h x to dp=some v):bareF E r' m' n cl nu h x to dp=some v:=by
 unfold bareF at e ⊢
 split
 ·rename_i q;rw[if_pos q]at e;exact choiceF_le hr _ _ _ e
 rename_i q;rw[if_neg q]at e
 split
 ·rename_i q;rw[if_pos q]at e;exact e
 rename_i q;rw[if_neg q]at e
 split
 ·rename_i q;rw[if_pos q]at e;exact e
 rename_i q;rw[if_neg q]at e
 split
 ·rename_i q;rw[if_pos q]at e;exact e
 rename_i q;rw[if_neg q]at e
 split
 ·rename_i q;rw[if_pos q]at e
  cases hs:seqF E r to (dp+1) n.kids (x+h.s.toNat) []with
  |none=>rw[hs]at e;cases e
  |some o=>rw[hs]at e;rw[seqF_le hr _ _ _ _ hs];exact e
 rename_i q;rw[if_neg q]at e
 split
 ·rename_i q;rw[if_pos q]at e
  cases hs:manyF E r (decide (n.kind=12)) (kd n 0).node.toNat to (dp+1) m (x+h.s.toNat) noB 0 []with
  |none=>rw[hs]at e;cases e
  |some o=>rw[hs]at e;rw[manyF_le hr _ _ _ _ _ _ _ hm hs];exact e
 rename_i q;rw[if_neg q]at e
 exact e
theorem valF_le{E:Env}{r r':Rec}(hr:RecLe r r'){m m':Nat}(hm:m≤m'){i:Nat}{h:Hd}{x to:Nat}{dp:Int}{v:Out}(e:valF E r m i h x to dp=some v):valF E r' m' i h x to dp=some v:=by
 unfold valF at e ⊢
 split
 ·rename_i q;rw[if_pos q]at e;exact bareF_le hr hm e
 rename_i q;rw[if_neg q]at e
 split
 ·rename_i q;rw[if_pos q]at e;exact bareF_le hr hm e
 rename_i q;rw[if_neg q]at e
 split
 ·rename_i q;rw[if_pos q]at e;exact e
 rename_i q;rw[if_neg q]at e
 split
 ·rename_i q;rw[if_pos q]at e;exact e
 rename_i q;rw[if_neg q]at e
 split
 ·rename_i q;rw[if_pos q]at e;exact e
 rename_i q;rw[if_neg q]at e
 exact Out.andThen_le (fun u=>bareF_le hr hm) (fun _ _ _ q=>q) e
theorem rdF_le{E:Env}:∀f,RecLe (rdF E f) (rdF E (f+1))
 |0=>fun _ _ _ _ _ e=>by cases e
 |f+1=>fun i x y dp o e=>by
  rw[rdF]at e ⊢
  split
  ·rename_i q;rw[if_pos q]at e;exact e
  ·rename_i q;rw[if_neg q]at e;exact valF_le (rdF_le f) (Nat.le_succ f) e
theorem b8_ex(t:ByteArray)(a b i:Nat)(h:a+i<b)(hb:b≤t.size):b8 (t.extract a b) i=b8 t (a+i):=by
 unfold b8
 rw[Lib.extract_data]
 congr 2
 rw[List.getD_eq_getElem?_getD,List.getD_eq_getElem?_getD]
 congr 1
 rw[List.getElem?_take]
 rw[if_pos (by omega),List.getElem?_drop]
theorem ex_size(t:ByteArray)(a b:Nat):(t.extract a b).size=min b t.size-a:=ByteArray.size_extract
theorem numTo_congr{u u':ByteArray}:∀k:Nat,(∀i,1≤i→i≤k→b8 u' i=b8 u i)→numTo u' k=numTo u k
 |0,_=>rfl
 |k+1,h=>by
  simp only[numTo]
  rw[numTo_congr k (fun i a b=>h i a (by omega)),h (k+1) (by omega) (by omega)]
theorem rl_same{u u':ByteArray}(h:(rl u).1=0)(hs:(rl u).2.1≤u'.size)(hb:∀i:Nat,(i:Int)<(rl u).2.1→b8 u' i=b8 u i):rl u'=rl u∧1≤(rl u).2.1:=by
 have h0:=b8_bd u 0
 unfold rl at h hs hb ⊢
 by_cases q1:u.size=0
 ·rw[if_pos q1]at h;cases h
 rw[if_neg q1]at h hs hb ⊢
 by_cases q2:b8 u 0<128
 ·rw[if_pos q2]at h hs hb ⊢
  have e0:b8 u' 0=b8 u 0:=hb 0 (by show(0:Int)<1;decide)
  have s0:¬u'.size=0:=by simp only at hs;omega
  rw[if_neg s0,e0,if_pos q2]
  exact⟨rfl,by simp⟩
 rw[if_neg q2]at h hs hb ⊢
 by_cases q3:b8 u 0=128∨131<b8 u 0
 ·rw[if_pos q3]at h;cases h
 rw[if_neg q3]at h hs hb ⊢
 by_cases q4:(u.size:Int)≤b8 u 0-128
 ·rw[if_pos q4]at h;cases h
 rw[if_neg q4]at h hs hb ⊢
 by_cases q5:b8 u 0-128≠cnt (numTo u (b8 u 0-128).toNat)
 ·rw[if_pos q5]at h;cases h
 rw[if_neg q5]at h hs hb ⊢
 simp only at hs hb
 have e0:b8 u' 0=b8 u 0:=hb 0 (by omega)
 have s0:¬u'.size=0:=by omega
 have en:numTo u' (b8 u 0-128).toNat=numTo u (b8 u 0-128).toNat:=numTo_congr _ fun i _ b=>hb i (by omega)
 rw[if_neg s0,e0,if_neg q2,if_neg q3,if_neg (by omega),en,if_neg q5]
 exact⟨rfl,by simp only;omega⟩
theorem hd_same{t t':ByteArray}(h:(hd t).1=0)(hs:(hd t).2.s+(hd t).2.l≤t'.size)(hb:∀i:Nat,(i:Int)<(hd t).2.s→b8 t' i=b8 t i):hd t'=hd t∧2≤(hd t).2.s:=by
 have hr:=rl_bd (t.extract 1 t.size)
 unfold hd at h hs hb ⊢
 by_cases q1:t.size=0
 ·rw[if_pos q1]at h;cases h
 rw[if_neg q1]at h hs hb ⊢
 by_cases q2:b8 t 0%32=31
 ·rw[if_pos q2]at h;cases h
 rw[if_neg q2]at h hs hb ⊢
 by_cases q3:(rl (t.extract 1 t.size)).1≠0
 ·rw[if_pos q3]at h;exact absurd h q3
 rw[if_neg q3]at h hs hb ⊢
 by_cases q4:(t.size:Int)-((rl (t.extract 1 t.size)).2.1+1)<(rl (t.extract 1 t.size)).2.2
 ·rw[if_pos q4]at h;cases h
 rw[if_neg q4]at h hs hb ⊢
 simp only at hs hb
 have q3':(rl (t.extract 1 t.size)).1=0:=Classical.not_not.1 q3
 have e0:b8 t' 0=b8 t 0:=hb 0 (by omega)
 have s1:(t'.extract 1 t'.size).size=t'.size-1:=by rw[ex_size];omega
 obtain⟨er,r1⟩:=rl_same (u:=t.extract 1 t.size) (u':=t'.extract 1 t'.size) q3' (by rw[s1];omega) (fun i hi=>by
  rw[b8_ex t' 1 t'.size i (by omega) (Nat.le_refl _),b8_ex t 1 t.size i (by omega) (Nat.le_refl _)]
  exact hb (1+i) (by omega))
 rw[if_neg (by omega),e0,if_neg q2,er,if_neg q3,if_neg (by omega)]
 exact⟨rfl,by simp only;omega⟩
theorem hd_two{t:ByteArray}(h:(hd t).1=0):2≤(hd t).2.s:=(hd_same (t':=t) h (hd_ok h).2.2 fun _ _=>rfl).2
theorem fin_le{E:Env}{x y:Nat}(h:(E.hd x y).1=0):x+2≤x+(E.hd x y).2.s.toNat∧x+(E.hd x y).2.s.toNat≤fin x (E.hd x y).2∧fin x (E.hd x y).2≤y∧fin x (E.hd x y).2≤E.d.size:=by
 have h1:=hd_two h
 have h2:=hd_ok h
 have h3:=ex_size E.d x y
 unfold fin
 unfold Env.hd at*
 omega
theorem fin_int{E:Env}{x y:Nat}(h:(E.hd x y).1=0):((fin x (E.hd x y).2:Nat):Int)=x+(E.hd x y).2.s+(E.hd x y).2.l∧(((E.hd x y).2.s.toNat:Nat):Int)=(E.hd x y).2.s:=by
 have h1:=hd_two h
 have h2:=hd_ok h
 unfold fin
 unfold Env.hd at*
 omega
theorem hd_again{E:Env}{x y z:Nat}(h:(E.hd x y).1=0)(hz:fin x (E.hd x y).2≤z)(hs:z≤E.d.size)(hy:y≤E.d.size):E.hd x z=E.hd x y:=by
 have h1:=hd_two h
 have h2:=hd_ok h
 have h3:=ex_size E.d x y
 have h4:=ex_size E.d x z
 have h5:=fin_le h
 have h6:=fin_int h
 unfold Env.hd at*
 exact(hd_same h (by omega) fun i hi=>by rw[b8_ex _ _ _ _ (by omega) hs,b8_ex _ _ _ _ (by omega) hy]).1
theorem andThen_ok{α:Type}{o:Option Out}{k:List Vl→Nat→Option (Except (Int×Int) α)}{v:α}(h:Out.andThen o k=some (.ok v)):∃vs z,o=some (.ok (vs,z))∧k vs z=some (.ok v):=by
 unfold Out.andThen at h
 split at h
 ·cases h
 ·cases h
 ·rename_i vs z;exact⟨vs,z,rfl,h⟩
theorem andThen_some{α:Type}{o:Option Out}{k:List Vl→Nat→Option (Except (Int×Int) α)}{u:Out}(ho:o=some u)(hk:∀vs z,u= .ok (vs,z)→∃v,k vs z=some v):∃v,Out.andThen o k=some v:=by
 subst ho
 unfold Out.andThen
 cases u with
 |error e=>exact⟨_,rfl⟩
 |ok p=>obtain⟨vs,z⟩:=p;exact hk vs z rfl
theorem choiceF_fin{E:Env}{rec:Rec}{h:Hd}{x to:Nat}{dp:Int}:∀(ks:List Kd) (j:Nat) {vs:List Vl} {z:Nat},choiceF E rec h x to dp ks j=some (.ok (vs,z))→z=to
 | [],_,_,_,e=>by cases e
 |k::ks,j,vs,z,e=>by
  unfold choiceF at e
  split at e
  ·obtain⟨_,_,_,e⟩:=andThen_ok e
   simp at e;exact e.2.symm
  ·exact choiceF_fin ks (j+1) e
theorem bareF_fin{E:Env}{rec:Rec}{m:Nat}{n:Nd}{cl nu:Int}{h:Hd}{x to:Nat}{dp:Int}{vs:List Vl}{z:Nat}(e:bareF E rec m n cl nu h x to dp=some (.ok (vs,z))):z=to:=by
 unfold bareF at e
 repeat' split at e
 all_goals first|(exact choiceF_fin _ _ e)|(cases e;done)|(simp at e;exact e.2.symm)
theorem valF_fin{E:Env}{rec:Rec}{m i:Nat}{h:Hd}{x to:Nat}{dp:Int}{vs:List Vl}{z:Nat}(e:valF E rec m i h x to dp=some (.ok (vs,z))):z=to:=by
 unfold valF at e
 split at e
 ·exact bareF_fin e
 split at e
 ·exact bareF_fin e
 split at e
 ·cases e
 split at e
 ·cases e
 split at e
 ·cases e
 obtain⟨_,_,_,e⟩:=andThen_ok e
 split at e
 ·cases e
 ·simp at e;exact e.2.symm
theorem rdF_fin{E:Env}{f i x y:Nat}{dp:Int}{vs:List Vl}{z:Nat}(e:rdF E f i x y dp=some (.ok (vs,z))):(E.hd x y).1=0∧z=fin x (E.hd x y).2:=by
 cases f with
 |zero=>cases e
 |succ f=>
  rw[rdF]at e
  split at e
  ·cases e
  ·rename_i q;exact⟨Classical.not_not.1 q,valF_fin e⟩
structure Fine(s:List Nd):Prop where
 within:Within s
 back:∀i,i<s.length→¬Back s i
 len:s.length≤40
 tagged:∀i,i<s.length→(nd s i).kind=13→0≤(nd s i).tag→(nd s i).mode≠0
 one:∀i,i<s.length→((nd s i).kind=11∨(nd s i).kind=12)→(nd s i).kids.length=1
 eight:∀i,i<s.length→(nd s i).kids.length≤8
def Rch1(s:List Nd)(v i:Nat):Prop:=∃j,Rch s v j∧(nd s j).opn∧∃k∈(nd s j).kids,k.node.toNat=i
structure Way(s:List Nd)(V:List Nat)(i:Nat):Prop where
 nodup:V.Nodup
 lt:∀v∈V,v<s.length
 to:∀v∈V,Rch1 s v i
theorem Way.nil(s:List Nd)(i:Nat):Way s [] i:=⟨.nil,by simp,by simp⟩
theorem Way.len{s:List Nd}{V:List Nat}{i:Nat}(h:Way s V i)(hf:Fine s):V.length≤40:=Nat.le_trans (nodup_le _ _ h.nodup h.lt) hf.len
theorem Way.cons{s:List Nd}{V:List Nat}{i:Nat}(h:Way s V i)(hf:Fine s)(hi:i<s.length)(ho:(nd s i).opn){k:Kd}(hk:k∈(nd s i).kids):Way s (i::V) k.node.toNat where
 nodup:=by
  refine List.nodup_cons.2 ⟨fun hm=>hf.back i hi ?_,h.nodup⟩
  obtain⟨j,hj,hjo,k',hk',e⟩:=h.to i hm
  have:=hf.within j (hj.lt hf.within hi) k' hk'
  exact⟨j,hj,hjo,k',hk',by omega⟩
 lt:=fun v hv=>by
  rcases List.mem_cons.1 hv with rfl|hv
  ·exact hi
  ·exact h.lt v hv
 to:=fun v hv=>by
  rcases List.mem_cons.1 hv with rfl|hv
  ·exact⟨v,.refl,ho,k,hk,rfl⟩
  ·obtain⟨j,hj,hjo,k',hk',e⟩:=h.to v hv
   exact⟨i,e▸hj.step hjo hk',ho,k,hk,rfl⟩
theorem choiceF_some{E:Env}{rec:Rec}{h:Hd}{x to:Nat}{dp:Int}:∀(ks:List Kd) (j:Nat),(∀k∈ks,∃o,rec k.node.toNat x to dp=some o)→∃o,choiceF E rec h x to dp ks j=some o
 | [],_,_=>⟨_,rfl⟩
 |k::ks,j,hr=>by
  unfold choiceF
  split
  ·obtain⟨o,ho⟩:=hr k (by simp)
   exact andThen_some ho fun _ _ _=>⟨_,rfl⟩
  ·exact choiceF_some ks (j+1) fun k hk=>hr k (by simp[hk])
theorem seqF_some{E:Env}{rec:Rec}{to x0:Nat}{dp:Int}(hz:∀i x vs z,rec i x to dp=some (.ok (vs,z))→x≤z∧z≤to):∀(ks:List Kd) (x:Nat) (acc:List Vl),x0≤x→x≤to→(∀k∈ks,∀x',x0≤x'→x'≤to→∃o,rec k.node.toNat x' to dp=some o)→∃o,seqF E rec to dp ks x acc=some o
 | [],x,_,_,_,_=>by unfold seqF;split<;>exact⟨_,rfl⟩
 |k::ks,x,acc,h0,h1,hr=>by
  have hr':∀k∈ks,∀x',x0≤x'→x'≤to→∃o,rec k.node.toNat x' to dp=some o:=fun k hk=>hr k (by simp[hk])
  unfold seqF
  split
  ·exact⟨_,rfl⟩
  split
  ·obtain⟨o,ho⟩:=hr k (by simp) x h0 h1
   refine andThen_some ho fun vs z e=>?_
   subst e
   have:=hz _ _ _ _ ho
   split
   ·exact⟨_,rfl⟩
   ·exact seqF_some hz ks z _ (by omega) (by omega) hr'
  split
  ·exact seqF_some hz ks x _ h0 h1 hr'
  split
  ·exact seqF_some hz ks x _ h0 h1 hr'
  split<;>exact⟨_,rfl⟩
theorem manyF_some{E:Env}{rec:Rec}{set:Bool}{i to x0:Nat}{dp:Int}(hz:∀x vs z,rec i x to dp=some (.ok (vs,z))→x<z∧z≤to)(hr:∀x',x0≤x'→x'≤to→∃o,rec i x' to dp=some o):∀(m x:Nat) (last:ByteArray) (j:Nat) (acc:List Vl),x0≤x→x≤to→to-x<m→∃o,manyF E rec set i to dp m x last j acc=some o
 |0,_,_,_,_,_,_,h=>absurd h (Nat.not_lt_zero _)
 |m+1,x,last,j,acc,h0,h1,hm=>by
  unfold manyF
  split
  ·obtain⟨o,ho⟩:=hr x h0 h1
   refine andThen_some ho fun vs z e=>?_
   subst e
   have:=hz _ _ _ ho
   split
   ·exact⟨_,rfl⟩
   ·exact manyF_some hz hr m z _ _ _ (by omega) (by omega) (by omega)
  ·exact⟨_,rfl⟩
theorem kd_mem{n:Nd}{i:Nat}(h:i<n.kids.length):kd n i∈n.kids:=by
 unfold kd;rw[List.getD_eq_getElem?_getD,List.getElem?_eq_getElem h];exact List.getElem_mem h
theorem bareF_some{E:Env}(hf:Fine E.s){f i:Nat}(hi:i<E.s.length){cl nu:Int}{x x1 to:Nat}{dp:Int}{h:Hd}(hx1:x+h.s.toNat=x1)(hxt:x1≤to)(hfu:to-x1<f)
 (hc:(nd E.s i).kind=13→∀k∈(nd E.s i).kids,∃o,rdF E f k.node.toNat x to dp=some o)
 (hr:∀(j:Nat) (x':Nat),j<E.s.length→x1≤x'→x'≤to→∃o,rdF E f j x' to (dp+1)=some o):∃o,bareF E (rdF E f) f (nd E.s i) cl nu h x to dp=some o:=by
 have hlt:∀k∈(nd E.s i).kids,k.node.toNat<E.s.length:=fun k hk=>by have:=hf.within i hi k hk;omega
 have hz:∀i x vs z,rdF E f i x to (dp+1)=some (.ok (vs,z))→x<z∧z≤to:=fun i x vs z e=>by
  obtain⟨q1,q2⟩:=rdF_fin e
  have:=fin_le q1
  omega
 unfold bareF
 split
 ·rename_i q;exact choiceF_some _ _ (hc q)
 split
 ·exact⟨_,rfl⟩
 split
 ·exact⟨_,rfl⟩
 split
 ·exact⟨_,rfl⟩
 split
 ·obtain⟨o,ho⟩:=seqF_some (x0:=x1) (fun i x vs z e=>by have:=hz i x vs z e;omega) (nd E.s i).kids (x+h.s.toNat) [] (by omega) (by omega) (fun k hk x' a b=>hr _ x' (hlt k hk) a b)
  rw[ho]
  cases o with
  |error e=>exact⟨_,rfl⟩
  |ok p=>obtain⟨vs,z⟩:=p;exact⟨_,rfl⟩
 split
 ·rename_i q10 q
  have h1:=hf.one i hi (by omega)
  have hk:=hlt _ (kd_mem (n:=nd E.s i) (i:=0) (by omega))
  obtain⟨o,ho⟩:=manyF_some (set:=decide ((nd E.s i).kind=12)) (x0:=x1) (fun x vs z e=>hz _ x vs z e) (fun x' a b=>hr _ x' hk a b) f (x+h.s.toNat) noB 0 [] (by omega) (by omega) (by omega)
  rw[ho]
  cases o with
  |error e=>exact⟨_,rfl⟩
  |ok p=>obtain⟨vs,z⟩:=p;exact⟨_,rfl⟩
 split<;>exact⟨_,rfl⟩
theorem rdF_some{E:Env}(hf:Fine E.s):∀(f i x y:Nat) (dp:Int) (V:List Nat),i<E.s.length→Way E.s V i→42*(y-x)+41≤f+V.length→∃o,rdF E f i x y dp=some o
 |0,i,x,y,dp,V,_,hV,h=>by have:=hV.len hf;omega
 |f+1,i,x,y,dp,V,hi,hV,h=>by
  have hVl:=hV.len hf
  rw[rdF]
  split
  ·exact⟨_,rfl⟩
  rename_i q
  have hq:(E.hd x y).1=0:=Classical.not_not.1 q
  have hfin:=fin_le hq
  have hlt:∀k∈(nd E.s i).kids,k.node.toNat<E.s.length:=fun k hk=>by have:=hf.within i hi k hk;omega
  unfold valF
  split
  ·rename_i ht
   exact bareF_some hf hi rfl hfin.2.1 (by omega) (fun hk k hkm=>rdF_some hf f k.node.toNat x _ dp (i::V) (hlt k hkm) (hV.cons hf hi ⟨hk,ht⟩ hkm) (by simp only[List.length_cons];omega))
    (fun j x' hj a b=>rdF_some hf f j x' _ (dp+1) [] hj (Way.nil _ _) (by simp only[List.length_nil];omega))
  split
  ·rename_i ht hm
   exact bareF_some hf hi rfl hfin.2.1 (by omega) (fun hk=>absurd hm (hf.tagged i hi hk (by omega)))
    (fun j x' hj a b=>rdF_some hf f j x' _ (dp+1) [] hj (Way.nil _ _) (by simp only[List.length_nil];omega))
  split
  ·exact⟨_,rfl⟩
  split
  ·exact⟨_,rfl⟩
  split
  ·exact⟨_,rfl⟩
  rename_i q'
  have hq':(E.hd (x+(E.hd x y).2.s.toNat) (fin x (E.hd x y).2)).1=0:=Classical.not_not.1 q'
  have hfin':=fin_le hq'
  obtain⟨o,ho⟩:=bareF_some (cl:=0) (nu:=own0 (nd E.s i).kind) (dp:=dp) hf hi rfl hfin'.2.1 (f:=f) (by omega) (fun hk k hkm=>rdF_some hf f k.node.toNat _ _ dp [] (hlt k hkm) (Way.nil _ _) (by simp only[List.length_nil];omega))
   (fun j x' hj a b=>rdF_some hf f j x' _ (dp+1) [] hj (Way.nil _ _) (by simp only[List.length_nil];omega))
  refine andThen_some ho fun vs z _=>?_
  split<;>exact⟨_,rfl⟩
end Go.Proofs.YtkkicodfpekbgaaGreatDoor
namespace Go.Proofs.YtkkicodfpekbgaaGreatDoor
open Go.RowKit
set_option linter.unusedSimpArgs false
set_option linter.unusedVariables false
set_option maxRecDepth 100000
set_option maxHeartbeats 8000000
theorem step_calls{P:Program}{ops:Array Oper}{o:Oper}{a:Act}{w:World}{K:Act→World→Prop}{Q:Exit→Act→World→Prop}{E:Prop}(hgd:o.guard=none)(f:FuncId)(args:Array Operand)(tys:Array TypeId)
 (ho:o.op= .call {callee:= .value (.func f),args:=args,argTypes:=tys})(vals:Array Value)(hv:args.map a.eval=vals)(v:Value)(S:World→Prop)
 (hrun:(callFunc f vals).run P w= .ok (.enter f vals) w)
 (hc:Calls P f vals w fun e w'=>e= .returned v∧S w')(hk:∀w',S w'→K (a.put o.dst v) w'):if Region.wanted o (yielded ops a.tmps)=true then Oper.wp P o a w K Q else E:=by
 have hw:Region.wanted o (yielded ops a.tmps)=true:=by simp[Region.wanted,hgd]
 rw[if_pos hw]
 unfold Oper.wp
 simp only[execOp,ho,resolve,invoke]
 simp[Act.eval,Deferred.ofValue,hv,hrun,Oper.upon_enter]
 exact hc.mono fun e w' ⟨h1,h2⟩=>by subst h1;exact hk w' h2
theorem run_enter{P:Program}{f:FuncId}{fn:Func}{c:Code}(hf:P.funcs[f]? =some fn)(hname:(fn.name== "runtime.NumGoroutine")=false)(hb:fn.body=some c)(args:Array Value)(w:World):
 (callFunc f args).run P w= .ok (.enter f args) w:=by
 have h1:fn.name≠ "runtime.NumGoroutine" :=by simpa using hname
 simp[callFunc,hf,h1,hb]
theorem step_callsW{P:Program}{ops:Array Oper}{o:Oper}{a:Act}{w:World}{K:Act→World→Prop}{Q:Exit→Act→World→Prop}{E:Prop}(hw:Region.wanted o (yielded ops a.tmps)=true)(f:FuncId)(args:Array Operand)(tys:Array TypeId)
 (ho:o.op= .call {callee:= .value (.func f),args:=args,argTypes:=tys})(vals:Array Value)(hv:args.map a.eval=vals)(R:Ending→World→Prop)
 (hrun:(callFunc f vals).run P w= .ok (.enter f vals) w)(hc:Calls P f vals w R)(hk:∀e w',R e w'→∃v,e= .returned v∧K (a.put o.dst v) w'):
 if Region.wanted o (yielded ops a.tmps)=true then Oper.wp P o a w K Q else E:=by
 rw[if_pos hw]
 unfold Oper.wp
 simp only[execOp,ho,resolve,invoke]
 simp[Act.eval,Deferred.ofValue,hv,hrun,Oper.upon_enter]
 refine hc.mono fun e w' h=>?_
 obtain⟨v,rfl,h2⟩:=hk e w' h
 exact h2
structure Ext(w:World) where
 v:World
 h:Below w.heap.size w v
theorem ext_ne(w:World):Nonempty (Ext w):=⟨⟨w,Below.refl _ _⟩⟩
theorem Ext.cell{w:World}(x:Ext w){a:Addr}{u:Value}(h:w.cell? a=some u):x.v.cell? a=some u:=(x.h.cell (lt_of_cell h)).trans h
theorem Ext.block{w:World}(x:Ext w){g:Nat}{o:Obj}(h:w.heap[g]? =some o):x.v.heap[g]? =some o:=block_below h x.h
theorem Ext.old{w:World}{o:Obj}(x:Ext (w.alloc o)){a:Addr}{u:Value}(h:w.cell? a=some u):x.v.cell? a=some u:=x.cell ((((Below.refl w.heap.size w).alloc (Nat.le_refl _) o).cell (lt_of_cell h)).trans h)
theorem Ext.bel{w0 w:World}(hb:Below w0.heap.size w0 w)(x:Ext w):Below w0.heap.size w0 x.v:=hb.trans (x.h.mono hb.size)
theorem Ext.far{w0 w:World}(hb:Below w0.heap.size w0 w)(x:Ext w){a:Addr}{u:Value}(h:w0.cell? a=some u):x.v.cell? a=some u:=((Ext.bel hb x).cell (lt_of_cell h)).trans h
theorem Ext.new{w:World}{A:Array Value}{T:TypeId}(x:Ext (w.alloc (.cells A T))){i:Nat}{u:Value}(h:A[i]? =some u):x.v.cell? ⟨w.heap.size,i,none⟩=some u:=x.cell (by have q:=heap_alloc_new w (.cells A T);unfold World.cell?;simp only[q];exact h)
theorem wp_region_ext{P:Program}{id:Nat}{Q:Exit→Act→World→Prop}{a:Act}{w:World}{l:List Oper}(hm:P.follows .mixedOrders=true)(hB:Region.lexB .any l.toArray=true)
 (h:wpQuiet P l.toArray (fun w'=>∃x:Ext w,w'=x.v) (fun a'=>∀w',(∃x:Ext w,w'=x.v)→Q .normal a' w') l a):(Code.region id l.toArray true).wp P Q a w:=
 wp_region_quiet (C:=fun w'=>∃x:Ext w,w'=x.v) hm hB ⟨⟨w.drew,(Below.refl _ _).drew⟩,rfl⟩ (by simpa using h)
theorem nil_ext{P:Program}{ops:Array Oper}{Q:Exit→Act→World→Prop}{a:Act}{w:World}(h:∀w',Below w.heap.size w w'→Q .normal a w'):
 wpQuiet P ops (fun w'=>∃x:Ext w,w'=x.v) (fun a'=>∀w',(∃x:Ext w,w'=x.v)→Q .normal a' w') [] a:=fun _ hx=>by obtain⟨x,rfl⟩:=hx;exact h x.v x.h
theorem Ext.calls{P:Program}{f:FuncId}{args:Array Value}{w:World}{x:Ext w}{v:Value}(h:Calls P f args x.v fun e w'=>e= .returned v∧Below x.v.heap.size x.v w'):
 Calls P f args x.v fun e w''=>e= .returned v∧∃y:Ext w,w''=y.v:=h.mono fun _ w' q=>⟨q.1,⟨w',x.h.trans (q.2.mono x.h.size)⟩,rfl⟩
theorem Ext.callsO{P:Program}{f:FuncId}{args:Array Value}{w:World}{x:Ext w}{R:Prop} [Decidable R](h:Calls P f args x.v fun e w'=>RetO R x.v e w'):
 Calls P f args x.v fun e w''=>e= .returned (.bool (decide R))∧∃y:Ext w,w''=y.v:=h.mono fun _ w' q=>by
 obtain⟨r,rfl,h1,h2⟩:=q
 refine⟨?_,⟨w',x.h.trans (h2.mono x.h.size)⟩,rfl⟩
 by_cases hR:R
 ·rw[decide_eq_true hR,h1.2 hR]
 ·rw[decide_eq_false hR]
  cases r
  ·rfl
  ·exact absurd (h1.1 rfl) hR
theorem Ext.callsR{P:Program}{f:FuncId}{args:Array Value}{w:World}{x:Ext w}{R:Prop}{r:Bool}(hr:r=true↔R)(h:Calls P f args x.v fun e w'=>RetO R x.v e w'):
 Calls P f args x.v fun e w''=>e= .returned (.bool r)∧∃y:Ext w,w''=y.v:=h.mono fun _ w' q=>by
 obtain⟨r',rfl,h1,h2⟩:=q
 refine⟨?_,⟨w',x.h.trans (h2.mono x.h.size)⟩,rfl⟩
 have:r'=r:=by
  cases r<;>cases r'
  ·rfl
  ·exact absurd (hr.2 (h1.1 rfl)) (by simp)
  ·exact absurd (h1.2 (hr.1 rfl)) (by simp)
  ·rfl
 rw[this]
theorem bool_of(R:Prop):∃r:Bool,r=true↔R:=by
 by_cases h:R
 ·exact⟨true,by simp[h]⟩
 ·exact⟨false,by simp[h]⟩
def Nums(w:World):Prop:=∀j:Nat,j≤12→w.cell? ⟨16,j,none⟩=some (.int .i64 (own j))
theorem Nums.below{w w':World}(h:Nums w)(hb:Below w.heap.size w w'):Nums w':=fun j hj=>(hb.cell (lt_of_cell (h j hj))).trans (h j hj)
theorem ownTag_any(k:Int)(h:0≤k)(h':k≤12)(w:World)(hn:Nums w):
 Calls Tryz.prog 179 #[.int .i64 k] w fun e w'=>e= .returned (.agg #[.int .i64 0,.int .i64 (own k)])∧Below w.heap.size w w':=by
 obtain⟨n,rfl⟩:∃n:Nat,k=n:=⟨k.toNat,by omega⟩
 have c:=hn n (by omega)
 have hl:=lt_of_cell c
 simp only at hl
 clear hn
 have h13:(n:Int)<13:=by omega
 go_enter Tryz.func179,Tryz.ntmps179
 go_wp2
 refine bodyPost_ret (v:= .agg #[.int .i64 0,.int .i64 (own n)]) (by simp[results,Tryz.results179,go_sem]) rfl ⟨rfl,?_⟩
 exact(Below.refl _ _).alloc (Nat.le_refl _) _
theorem outerTag_any(n:Nd)(ka:Option Addr)(kc:Nat)(w:World)(hn:Nums w)(ht: -1≤n.tag)(hk:0≤n.kind)(hk':n.tag<0→n.kind≤12):
 Calls Tryz.prog 140 #[.agg #[.int .i64 n.kind,.int .i64 n.tag,.int .i64 n.mode,.slice ka n.kids.length kc]] w fun e w'=>e= .returned (.agg #[.int .i64 n.outer.1,.int .i64 n.outer.2])∧Below w.heap.size w w':=by
 by_cases h:0≤n.tag
 ·have e:n.outer=(2,n.tag):=by unfold Nd.outer;rw[if_pos h]
  have h1:(n.tag != -1)=true:=by rw[bne_iff_ne];omega
  rw[e]
  clear e hk' hn
  go_enter Tryz.func140,Tryz.ntmps140
  go_wp2
  refine bodyPost_ret (v:= .agg #[.int .i64 2,.int .i64 n.tag]) (by simp[results,Tryz.results140,go_sem]) rfl ⟨rfl,?_⟩
  exact((Below.refl _ _).alloc (Nat.le_refl _) _).alloc (by simp) _
 ·have e:n.outer=(0,own n.kind):=by unfold Nd.outer;rw[if_neg h]
  have h1:(n.tag != -1)=false:=by rw[bne_eq_false_iff_eq];omega
  have HC:Hid (∀w,Nums w→Calls Tryz.prog 179 #[.int .i64 n.kind] w fun e w'=>e= .returned (.agg #[.int .i64 0,.int .i64 (own n.kind)])∧Below w.heap.size w w'):=fun w q=>ownTag_any n.kind hk (hk' (by omega)) w q
  have HN:Hid (∀o1 o2,Nums ((w.alloc o1).alloc o2)):=fun o1 o2=>hn.below (((Below.refl _ _).alloc (Nat.le_refl _) _).alloc (by simp) _)
  rw[e]
  clear e hk' hn
  go_enter Tryz.func140,Tryz.ntmps140
  go_wp2_with fail
  refine(HC.out _ (HN.out _ _)).mono ?_
  rintro e w1 ⟨rfl,hb⟩
  have HB:Hid (Below w.heap.size w w1):=below_alloc (below_alloc hb)
  have hG:w1.heap[w.heap.size+1]? =some (.cells #[.int .i64 0,.int .i64 0] 147 (0,0)):=block_below (by simpa using heap_alloc_new (w.alloc _) _) hb
  have q0:w1.cell? ⟨w.heap.size+1,0,none⟩=some (.int .i64 0):=by simp[World.cell?,hG]
  have q1:w1.cell? ⟨w.heap.size+1,1,none⟩=some (.int .i64 0):=by simp[World.cell?,hG]
  have f0:w1.frozen? ⟨w.heap.size+1,0,none⟩=false:=by simp[World.frozen?,hG]
  have f1:w1.frozen? ⟨w.heap.size+1,1,none⟩=false:=by simp[World.frozen?,hG]
  clear hb hG
  go_wp2
  refine bodyPost_ret (v:= .agg #[.int .i64 0,.int .i64 (own n.kind)]) (by simp[results,Tryz.results140,go_sem,q0,q1]) rfl ⟨rfl,?_⟩
  exact(HB.out.setCell (p:=⟨w.heap.size+1,0,none⟩) (by simp) _).setCell (p:=⟨w.heap.size+1,1,none⟩) (by simp) _
def Nd.opn1(n:Nd):Prop:=n.kind=13∧n.tag= -1
def Tagged(n:Nd):Prop:= -1≤n.tag∧n.tag≤30∧(n.tag= -1→n.mode=0)∧(0≤n.tag→(n.kind=13∨n.kind=14)→n.mode=1)∧(0≤n.tag→n.kind≠13→n.kind≠14→n.mode=0∨n.mode=1)
theorem isOpen_any(n:Nd)(ka:Option Addr)(kc:Nat)(w:World):
 Calls Tryz.prog 139 #[.agg #[.int .i64 n.kind,.int .i64 n.tag,.int .i64 n.mode,.slice ka n.kids.length kc]] w fun e w'=>RetO n.opn1 w e w':=by
 by_cases h1:n.kind=13
 ·have h1':(n.kind==13)=true:=by simp[h1]
  by_cases h2:n.tag= -1
  ·have HP:Hid n.opn1:=⟨h1,h2⟩
   have h2':(n.tag== -1)=true:=by simp[h2]
   clear h1 h2
   go_enter Tryz.func139,Tryz.ntmps139
   go_wp2
   go_ret
   exact reto_yes HP.out ((Below.refl _ _).alloc (Nat.le_refl _) _)
  ·have HP:Hid (¬n.opn1):=fun h=>h2 h.2
   have h2':(n.tag== -1)=false:=by simp[h2]
   clear h1 h2
   go_enter Tryz.func139,Tryz.ntmps139
   go_wp2
   go_ret
   exact reto_no HP.out ((Below.refl _ _).alloc (Nat.le_refl _) _)
 ·have h1':(n.kind==13)=false:=by simp[h1]
  have HP:Hid (¬n.opn1):=fun h=>h1 h.1
  clear h1
  go_enter Tryz.func139,Tryz.ntmps139
  go_wp2
  go_ret
  exact reto_no HP.out ((Below.refl _ _).alloc (Nat.le_refl _) _)
theorem mayLack_any(k:Kd)(w:World):
 Calls Tryz.prog 94 #[.agg #[.int .i64 k.node,.bool k.opt,.string k.dflt]] w fun e w'=>RetO (¬k.must) w e w':=by
 cases h:k.opt with
 |true=>
  have HP:Hid (¬k.must):=fun q=>by have:=q.1;rw[h]at this;cases this
  clear h
  go_enter Tryz.func94,Tryz.ntmps94
  go_wp2
  go_ret
  exact reto_yes HP.out ((Below.refl _ _).alloc (Nat.le_refl _) _)
 |false=>
  have HO:Hid (k.opt=false):=h
  clear h
  by_cases h2:k.dflt.size=0
  ·have e:=emp_t h2
   have HP:Hid (¬¬k.must):=fun q=>q ⟨HO.out,h2⟩
   clear h2
   go_enter Tryz.func94,Tryz.ntmps94
   go_wp2
   go_ret
   exact reto_no HP.out ((Below.refl _ _).alloc (Nat.le_refl _) _)
  ·have e:=emp_f (t:=k.dflt) (by omega)
   have HP:Hid (¬k.must):=fun q=>h2 q.2
   clear h2
   go_enter Tryz.func94,Tryz.ntmps94
   go_wp2
   go_ret
   exact reto_yes HP.out ((Below.refl _ _).alloc (Nat.le_refl _) _)
theorem isTagged_any(n:Nd)(ka:Option Addr)(kc:Nat)(w:World):
 Calls Tryz.prog 92 #[.agg #[.int .i64 n.kind,.int .i64 n.tag,.int .i64 n.mode,.slice ka n.kids.length kc]] w fun e w'=>RetO (Tagged n) w e w':=by
 by_cases h1:n.tag< -1
 ·have HP:Hid (¬Tagged n):=by show¬Tagged n;unfold Tagged;omega
  go_enter Tryz.func92,Tryz.ntmps92
  go_wp2
  go_ret
  exact reto_no HP.out ((Below.refl _ _).alloc (Nat.le_refl _) _)
 have h1': -1≤n.tag:=by omega
 clear h1
 by_cases h2:30<n.tag
 ·have HP:Hid (¬Tagged n):=by show¬Tagged n;unfold Tagged;omega
  go_enter Tryz.func92,Tryz.ntmps92
  go_wp2
  go_ret
  exact reto_no HP.out ((Below.refl _ _).alloc (Nat.le_refl _) _)
 have h2':n.tag≤30:=by omega
 clear h2
 by_cases h3:n.tag= -1
 ·have e3:(n.tag== -1)=true:=by simp[h3]
  by_cases h4:n.mode=0
  ·have e4:(n.mode==0)=true:=by simp[h4]
   have HP:Hid (Tagged n):=by show Tagged n;unfold Tagged;omega
   clear h3 h4 h1' h2'
   have h1': -1≤n.tag:=by have:=HP.out.1;omega
   have h2':n.tag≤30:=by have:=HP.out.2.1;omega
   go_enter Tryz.func92,Tryz.ntmps92
   go_wp2
   go_ret
   exact reto_yes HP.out ((Below.refl _ _).alloc (Nat.le_refl _) _)
  ·have e4:(n.mode==0)=false:=by simp[h4]
   have HP:Hid (¬Tagged n):=by show¬Tagged n;unfold Tagged;omega
   clear h3 h4
   go_enter Tryz.func92,Tryz.ntmps92
   go_wp2
   go_ret
   exact reto_no HP.out ((Below.refl _ _).alloc (Nat.le_refl _) _)
 have e3:(n.tag== -1)=false:=by simp[h3]
 have h3':0≤n.tag:=by omega
 clear h3
 have hk:(n.kind=13∧(n.kind==13)=true)∨(n.kind=14∧(n.kind==13)=false∧(n.kind==14)=true)∨(n.kind≠13∧n.kind≠14∧(n.kind==13)=false∧(n.kind==14)=false):=by
  by_cases a:n.kind=13
  ·exact .inl ⟨a,by simp[a]⟩
  ·by_cases b:n.kind=14
   ·exact .inr (.inl ⟨b,by simp[b],by simp[b]⟩)
   ·exact .inr (.inr ⟨a,b,by simp[a],by simp[b]⟩)
 have hm:(n.mode=0∧(n.mode==0)=true∧(n.mode==1)=false)∨(n.mode=1∧(n.mode==0)=false∧(n.mode==1)=true)∨(n.mode≠0∧n.mode≠1∧(n.mode==0)=false∧(n.mode==1)=false):=by
  by_cases a:n.mode=0
  ·exact .inl ⟨a,by simp[a],by simp[a]⟩
  ·by_cases b:n.mode=1
   ·exact .inr (.inl ⟨b,by simp[b],by simp[b]⟩)
   ·exact .inr (.inr ⟨a,b,by simp[a],by simp[b]⟩)
 rcases hk with⟨k0,k1⟩|⟨k0,k1,k2⟩|⟨k0,k3,k1,k2⟩
 ·rcases hm with⟨m0,m1,m2⟩|⟨m0,m1,m2⟩|⟨m0,m3,m1,m2⟩
  ·have HP:Hid (¬Tagged n):=by show¬Tagged n;unfold Tagged;omega
   clear k0 m0
   go_enter Tryz.func92,Tryz.ntmps92
   go_wp2
   go_ret
   exact reto_no HP.out ((Below.refl _ _).alloc (Nat.le_refl _) _)
  ·have HP:Hid (Tagged n):=by show Tagged n;unfold Tagged;omega
   clear k0 m0
   go_enter Tryz.func92,Tryz.ntmps92
   go_wp2
   go_ret
   exact reto_yes HP.out ((Below.refl _ _).alloc (Nat.le_refl _) _)
  ·have HP:Hid (¬Tagged n):=by show¬Tagged n;unfold Tagged;omega
   clear k0 m0 m3
   go_enter Tryz.func92,Tryz.ntmps92
   go_wp2
   go_ret
   exact reto_no HP.out ((Below.refl _ _).alloc (Nat.le_refl _) _)
 ·rcases hm with⟨m0,m1,m2⟩|⟨m0,m1,m2⟩|⟨m0,m3,m1,m2⟩
  ·have HP:Hid (¬Tagged n):=by show¬Tagged n;unfold Tagged;omega
   clear k0 m0
   go_enter Tryz.func92,Tryz.ntmps92
   go_wp2
   go_ret
   exact reto_no HP.out ((Below.refl _ _).alloc (Nat.le_refl _) _)
  ·have HP:Hid (Tagged n):=by show Tagged n;unfold Tagged;omega
   clear k0 m0
   go_enter Tryz.func92,Tryz.ntmps92
   go_wp2
   go_ret
   exact reto_yes HP.out ((Below.refl _ _).alloc (Nat.le_refl _) _)
  ·have HP:Hid (¬Tagged n):=by show¬Tagged n;unfold Tagged;omega
   clear k0 m0 m3
   go_enter Tryz.func92,Tryz.ntmps92
   go_wp2
   go_ret
   exact reto_no HP.out ((Below.refl _ _).alloc (Nat.le_refl _) _)
 ·rcases hm with⟨m0,m1,m2⟩|⟨m0,m1,m2⟩|⟨m0,m3,m1,m2⟩
  ·have HP:Hid (Tagged n):=by show Tagged n;unfold Tagged;omega
   clear k0 m0 k3
   go_enter Tryz.func92,Tryz.ntmps92
   go_wp2
   go_ret
   exact reto_yes HP.out ((Below.refl _ _).alloc (Nat.le_refl _) _)
  ·have HP:Hid (Tagged n):=by show Tagged n;unfold Tagged;omega
   clear k0 m0 k3
   go_enter Tryz.func92,Tryz.ntmps92
   go_wp2
   go_ret
   exact reto_yes HP.out ((Below.refl _ _).alloc (Nat.le_refl _) _)
  ·have HP:Hid (¬Tagged n):=by show¬Tagged n;unfold Tagged;omega
   clear k0 m0 k3 m3
   go_enter Tryz.func92,Tryz.ntmps92
   go_wp2
   go_ret
   exact reto_no HP.out ((Below.refl _ _).alloc (Nat.le_refl _) _)
def bnd(k:Int):Int×Int:=if k=10 then(0,8)else if k=11∨k=12 then(1,1)else if k=13 then(1,8)else(0,0)
theorem kidBounds_any(k:Int)(w:World):
 Calls Tryz.prog 93 #[.int .i64 k] w fun e w'=>e= .returned (.tuple #[.int .i64 (bnd k).1,.int .i64 (bnd k).2])∧Below w.heap.size w w':=by
 by_cases h10:k=10
 ·subst h10
  have e:bnd 10=(0,8):=by unfold bnd;rfl
  rw[e]
  clear e
  go_enter Tryz.func93,Tryz.ntmps93
  go_wp2
  go_ret2
  exact⟨rfl,Below.refl _ _⟩
 have e10:(k==10)=false:=by simp[h10]
 by_cases h11:k=11
 ·subst h11
  have e:bnd 11=(1,1):=by unfold bnd;rfl
  rw[e]
  clear e
  go_enter Tryz.func93,Tryz.ntmps93
  go_wp2
  go_ret2
  exact⟨rfl,Below.refl _ _⟩
 have e11:(k==11)=false:=by simp[h11]
 by_cases h12:k=12
 ·subst h12
  have e:bnd 12=(1,1):=by unfold bnd;rfl
  rw[e]
  clear e
  go_enter Tryz.func93,Tryz.ntmps93
  go_wp2
  go_ret2
  exact⟨rfl,Below.refl _ _⟩
 have e12:(k==12)=false:=by simp[h12]
 by_cases h13:k=13
 ·subst h13
  have e:bnd 13=(1,8):=by unfold bnd;rfl
  rw[e]
  clear e
  go_enter Tryz.func93,Tryz.ntmps93
  go_wp2
  go_ret2
  exact⟨rfl,Below.refl _ _⟩
 have e13:(k==13)=false:=by simp[h13]
 have e:bnd k=(0,0):=by unfold bnd;rw[if_neg h10,if_neg (by omega),if_neg h13]
 rw[e]
 clear e h10 h11 h12 h13
 go_enter Tryz.func93,Tryz.ntmps93
 go_wp2
 go_ret2
 exact⟨rfl,Below.refl _ _⟩
end Go.Proofs.YtkkicodfpekbgaaGreatDoor
namespace Go.Proofs.YtkkicodfpekbgaaGreatDoor
set_option linter.unusedSimpArgs false
set_option linter.unusedVariables false
set_option maxRecDepth 100000
set_option maxHeartbeats 8000000
structure Re(s:List Nd)(i:Nat)(V A S:List Nat)(bk:Bool):Prop where
 mem:i∈V++A
 rch:∀x∈V++A,Rch s i x
 sin:∀x∈S,x∈V++A
 snd:S.Nodup
 slt:∀x∈S,x<s.length
 cnt:V.length+A.length=1+S.length
 cl:∀x∈V,(nd s x).opn→∀k∈(nd s x).kids,k.node.toNat∈S
 back:bk=true↔∃x∈V,(nd s x).opn∧∃k∈(nd s x).kids,k.node=i
structure ReM(s:List Nd)(i:Nat)(V:List Nat)(x j:Nat)(A S:List Nat)(bk:Bool):Prop where
 mem:i∈V++x::A
 rch:∀y∈V++x::A,Rch s i y
 sin:∀y∈S,y∈V++x::A
 snd:S.Nodup
 slt:∀y∈S,y<s.length
 cnt:V.length+(A.length+1)=1+S.length
 cl:∀y∈V,(nd s y).opn→∀k∈(nd s y).kids,k.node.toNat∈S
 cl2:∀m,m<j→((nd s x).kids.getD m kd0).node.toNat∈S
 back:bk=true↔(∃y∈V,(nd s y).opn∧∃k∈(nd s y).kids,k.node=i)∨∃m,m<j∧((nd s x).kids.getD m kd0).node=i
theorem Re.start(s:List Nd)(i:Nat):Re s i [] [i] [] false where
 mem:=by simp
 rch:=fun x hx=>by simp at hx;subst hx;exact .refl
 sin:=fun x hx=>by cases hx
 snd:=List.nodup_nil
 slt:=fun x hx=>by cases hx
 cnt:=rfl
 cl:=fun x hx=>by cases hx
 back:=by simp
theorem Re.len{s:List Nd}{i:Nat}{V A S:List Nat}{bk:Bool}(h:Re s i V A S bk):V.length+A.length≤1+s.length:=by
 have:=nodup_le s.length S h.snd h.slt;have:=h.cnt;omega
theorem ReM.len{s:List Nd}{i:Nat}{V A S:List Nat}{x j:Nat}{bk:Bool}(h:ReM s i V x j A S bk):V.length+A.length≤s.length∧S.length≤s.length:=by
 have:=nodup_le s.length S h.snd h.slt;have:=h.cnt;omega
theorem mem_mid{V A:List Nat}{x y:Nat}:y∈V++x::A↔y∈V++[x]++A:=by simp
theorem Re.leaf{s:List Nd}{i x:Nat}{V A S:List Nat}{bk:Bool}(h:Re s i V (A++[x]) S bk)(ho:¬(nd s x).opn):Re s i (V++[x]) A S bk where
 mem:=by have:=h.mem;simp at this ⊢;rcases this with q|q|q<;>simp[q]
 rch:=fun y hy=>h.rch y (by simp at hy ⊢;rcases hy with hy|hy|hy<;>simp[hy])
 sin:=fun y hy=>by have:=h.sin y hy;simp at this ⊢;rcases this with q|q|q<;>simp[q]
 snd:=h.snd
 slt:=h.slt
 cnt:=by have:=h.cnt;simp at this ⊢;omega
 cl:=fun y hy hyo=>by
  rcases List.mem_append.1 hy with hy|hy
  ·exact h.cl y hy hyo
  ·simp at hy;subst hy;exact absurd hyo ho
 back:=by
  rw[h.back]
  constructor
  ·rintro⟨y,hy,hr⟩;exact⟨y,by simp[hy],hr⟩
  ·rintro⟨y,hy,hyo,hr⟩
   rcases List.mem_append.1 hy with hy|hy
   ·exact⟨y,hy,hyo,hr⟩
   ·simp at hy;subst hy;exact absurd hyo ho
theorem Re.mid{s:List Nd}{i x:Nat}{V A S:List Nat}{bk:Bool}(h:Re s i V (A++[x]) S bk):ReM s i V x 0 A S bk where
 mem:=by have:=h.mem;simp at this ⊢;rcases this with q|q|q<;>simp[q]
 rch:=fun y hy=>h.rch y (by simp at hy ⊢;rcases hy with hy|hy|hy<;>simp[hy])
 sin:=fun y hy=>by have:=h.sin y hy;simp at this ⊢;rcases this with q|q|q<;>simp[q]
 snd:=h.snd
 slt:=h.slt
 cnt:=by have:=h.cnt;simp at this ⊢;omega
 cl:=h.cl
 cl2:=fun m hm=>absurd hm (Nat.not_lt_zero _)
 back:=by rw[h.back];simp
theorem back_step{P:Prop}{f:Nat→Int}{j t i:Nat}{bk:Bool}(h:bk=true↔P∨∃m,m<j∧f m=i)(ht:f j=t):(bk||decide ((t:Int)=i))=true↔P∨∃m,m<j+1∧f m=i:=by
 rw[Bool.or_eq_true,h,or_assoc,decide_eq_true_iff]
 refine or_congr Iff.rfl ⟨?_,?_⟩
 ·rintro(⟨m,h1,h2⟩|e)
  ·exact⟨m,by omega,h2⟩
  ·exact⟨j,by omega,ht.trans e⟩
 ·rintro⟨m,h1,h2⟩
  by_cases e:m=j
  ·subst e;exact .inr (ht.symm.trans h2)
  ·exact .inl ⟨m,by omega,h2⟩
theorem ReM.step_old{s:List Nd}{i:Nat}{V A S:List Nat}{x j t:Nat}{bk:Bool}(h:ReM s i V x j A S bk)(ht:((nd s x).kids.getD j kd0).node=t)(hm:t∈S):
 ReM s i V x (j+1) A S (bk||decide ((t:Int)=i)) where
 mem:=h.mem
 rch:=h.rch
 sin:=h.sin
 snd:=h.snd
 slt:=h.slt
 cnt:=h.cnt
 cl:=h.cl
 cl2:=fun m hm'=>by
  by_cases e:m=j
  ·subst e;rw[ht];exact hm
  ·exact h.cl2 m (by omega)
 back:=back_step (f:=fun m=>((nd s x).kids.getD m kd0).node) h.back ht
theorem ReM.step_new{s:List Nd}{i:Nat}{V A S:List Nat}{x j t:Nat}{bk:Bool}(h:ReM s i V x j A S bk)(ht:((nd s x).kids.getD j kd0).node=t)(hj:j<(nd s x).kids.length)(ho:(nd s x).opn)(htl:t<s.length)(hm:t∉S):
 ReM s i V x (j+1) (A++[t]) (S++[t]) (bk||decide ((t:Int)=i)):=by
 have hk:(nd s x).kids.getD j kd0∈(nd s x).kids:=by
  rw[List.getD_eq_getElem?_getD,List.getElem?_eq_getElem hj];exact List.getElem_mem hj
 have hx:Rch s i x:=h.rch x (by simp)
 have ht':((nd s x).kids.getD j kd0).node.toNat=t:=by rw[ht];rfl
 exact {
  mem:=by have:=h.mem;simp at this ⊢;rcases this with q|q|q<;>simp[q]
  rch:=fun y hy=>by
   rw[←List.cons_append,←List.append_assoc]at hy
   rcases List.mem_append.1 hy with hy|hy
   ·exact h.rch y hy
   ·simp at hy;subst hy;rw[←ht'];exact .step hx ho hk
  sin:=fun y hy=>by
   rcases List.mem_append.1 hy with hy|hy
   ·have:=h.sin y hy;simp at this ⊢;rcases this with q|q|q<;>simp[q]
   ·simp at hy;subst hy;simp
  snd:=by rw[List.nodup_append];exact⟨h.snd,by simp,fun a ha b hb=>by simp at hb;subst hb;intro e;subst e;exact hm ha⟩
  slt:=fun y hy=>by
   rcases List.mem_append.1 hy with hy|hy
   ·exact h.slt y hy
   ·simp at hy;subst hy;exact htl
  cnt:=by have:=h.cnt;simp;omega
  cl:=fun y hy hyo k hk=>List.mem_append_left _ (h.cl y hy hyo k hk)
  cl2:=fun m hm'=>by
   by_cases e:m=j
   ·subst e;rw[ht'];simp
   ·exact List.mem_append_left _ (h.cl2 m (by omega))
  back:=back_step (f:=fun m=>((nd s x).kids.getD m kd0).node) h.back ht}
theorem ReM.finish{s:List Nd}{i:Nat}{V A S:List Nat}{x:Nat}{bk:Bool}(h:ReM s i V x (nd s x).kids.length A S bk)(ho:(nd s x).opn):Re s i (V++[x]) A S bk:=by
 have hget:∀k∈(nd s x).kids,∃m,m<(nd s x).kids.length∧(nd s x).kids.getD m kd0=k:=fun k hk=>by
  obtain⟨m,hm,e⟩:=List.getElem_of_mem hk
  exact⟨m,hm,by rw[List.getD_eq_getElem?_getD,List.getElem?_eq_getElem hm];exact e⟩
 exact {
  mem:=mem_mid.1 h.mem
  rch:=fun y hy=>h.rch y (mem_mid.2 hy)
  sin:=fun y hy=>mem_mid.1 (h.sin y hy)
  snd:=h.snd
  slt:=h.slt
  cnt:=by have:=h.cnt;simp;omega
  cl:=fun y hy hyo k hk=>by
   rcases List.mem_append.1 hy with hy|hy
   ·exact h.cl y hy hyo k hk
   ·simp at hy;subst hy
    obtain⟨m,hm,e⟩:=hget k hk
    rw[←e];exact h.cl2 m hm
  back:=by
   rw[h.back]
   constructor
   ·rintro(⟨y,hy,hr⟩|⟨m,hm,e⟩)
    ·exact⟨y,by simp[hy],hr⟩
    ·exact⟨x,by simp,ho,_,by rw[List.getD_eq_getElem?_getD,List.getElem?_eq_getElem hm];exact List.getElem_mem hm,e⟩
   ·rintro⟨y,hy,hyo,k,hk,e⟩
    rcases List.mem_append.1 hy with hy|hy
    ·exact .inl ⟨y,hy,hyo,k,hk,e⟩
    ·simp at hy;subst hy
     obtain⟨m,hm,e'⟩:=hget k hk
     exact .inr ⟨m,hm,by rw[e'];exact e⟩}
theorem Re.reached{s:List Nd}{i:Nat}{V S:List Nat}{bk:Bool}(h:Re s i V [] S bk){j:Nat}(hj:Rch s i j):j∈V:=by
 exact Rch.ind (P:=fun j=>j∈V) (by simpa using h.mem) (fun _ _ _ ho hk ih=>by simpa using h.sin _ (h.cl _ ih ho _ hk)) hj
theorem Re.leaves{s:List Nd}{i:Nat}{V S:List Nat}{bk:Bool}(h:Re s i V [] S bk)(j:Nat):j∈outs s V↔Leaf s i j:=by
 unfold outs Leaf
 rw[List.mem_filter]
 simp only[Bool.not_eq_true',←Bool.not_eq_true,Nd.opnB_iff]
 exact and_congr ⟨fun hm=>h.rch j (by simp[hm]),fun hr=>h.reached hr⟩ Iff.rfl
theorem Re.backs{s:List Nd}{i:Nat}{V S:List Nat}{bk:Bool}(h:Re s i V [] S bk):bk=true↔Back s i:=by
 rw[h.back]
 unfold Back
 constructor
 ·rintro⟨x,hx,ho,k,hk,e⟩;exact⟨x,h.rch x (by simp[hx]),ho,k,hk,e⟩
 ·rintro⟨x,hx,ho,k,hk,e⟩;exact⟨x,h.reached hx,ho,k,hk,e⟩
end Go.Proofs.YtkkicodfpekbgaaGreatDoor
