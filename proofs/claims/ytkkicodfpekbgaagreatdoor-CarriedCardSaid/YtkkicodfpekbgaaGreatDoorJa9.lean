/-
The program's encoder: element.IsWhole; fits (written by gen_ya.py).
-/
import Derived.Test.YtkkicodfpekbgaaGreatDoorJa5
import Derived.Test.YtkkicodfpekbgaaGreatDoorJa3
import Derived.Test.YtkkicodfpekbgaaGreatDoorJa8
namespace Go.Proofs.YtkkicodfpekbgaaGreatDoor
open Go.RowKit
set_option linter.unusedSimpArgs false
set_option linter.unusedVariables false
set_option maxRecDepth 100000
set_option maxHeartbeats 8000000
def FitP(n:Nd)(v:Vl):Prop:=
 v.kind=n.kind∧
 if n.kind=13 then v.text.size=0∧v.kids=1∧0≤v.alt∧v.alt<n.kids.length
 else if n.kind=14 then(hd v.text).1=0∧(hd v.text).2.s+(hd v.text).2.l=v.text.size∧v.alt=0∧v.kids=0
 else if n.kind=10 then v.text.size=0∧v.alt=0∧v.kids=n.kids.length
 else if 10≤n.kind∧n.kind≤12 then v.text.size=0∧v.alt=0∧0≤v.kids
 else ContentOk n.kind v.text∧v.alt=0∧v.kids=0
theorem fit10{n:Nd}{v:Vl}(h:n.kind=10)(hv:v.kind=n.kind):FitP n v↔v.text.size=0∧v.alt=0∧v.kids=n.kids.length:=by
 unfold FitP
 rw[if_neg (by omega),if_neg (by omega),if_pos h]
 exact⟨fun q=>q.2,fun q=>⟨hv,q⟩⟩
theorem fit12{n:Nd}{v:Vl}(h:n.kind=11∨n.kind=12)(hv:v.kind=n.kind):FitP n v↔v.text.size=0∧v.alt=0∧0≤v.kids:=by
 unfold FitP
 rw[if_neg (by omega),if_neg (by omega),if_neg (by omega),if_pos (by omega)]
 exact⟨fun q=>q.2,fun q=>⟨hv,q⟩⟩
theorem fit13{n:Nd}{v:Vl}(h:n.kind=13)(hv:v.kind=n.kind):FitP n v↔v.text.size=0∧v.kids=1∧0≤v.alt∧v.alt<n.kids.length:=by
 unfold FitP
 rw[if_pos h]
 exact⟨fun q=>q.2,fun q=>⟨hv,q⟩⟩
theorem fit14{n:Nd}{v:Vl}(h:n.kind=14)(hv:v.kind=n.kind):FitP n v↔(hd v.text).1=0∧(hd v.text).2.s+(hd v.text).2.l=v.text.size∧v.alt=0∧v.kids=0:=by
 unfold FitP
 rw[if_neg (by omega),if_pos h]
 exact⟨fun q=>q.2,fun q=>⟨hv,q⟩⟩
theorem fit9{n:Nd}{v:Vl}(h:n.kind<10∨14<n.kind)(hv:v.kind=n.kind):FitP n v↔ContentOk n.kind v.text∧v.alt=0∧v.kids=0:=by
 unfold FitP
 rw[if_neg (by omega),if_neg (by omega),if_neg (by omega),if_neg (by omega)]
 exact⟨fun q=>q.2,fun q=>⟨hv,q⟩⟩
theorem isWhole_any(t:ByteArray)(w:World)(sn:Sn→Addr)(hs:Sent w sn)(hm:t.size≤9223372036854775807):
 Calls Tryz.prog 181 #[.string t] w fun e w'=>RetO ((hd t).1=0∧(hd t).2.s+(hd t).2.l=t.size) w e w':=by
 have h:=read_any t 0 w sn hs hm (Nat.zero_le _)
 rw[show t.extract 0 t.size=t by simp]at h
 have HRD:Hid (Calls Tryz.prog 156 #[.string t,.int .i64 0] w fun e w'=>e= .returned (.tuple #[hv (hd t).2,errAt 0 sn (hd t).1])∧Below w.heap.size w w'):=h
 unfold hv at HRD
 clear hs h
 by_cases q1:(hd t).1=0
 ·have hok:=hd_ok q1
  have Q1:=hide q1
  rw[q1]at HRD
  have he:errAt 0 sn 0= .nilIface:=rfl
  rw[he]at HRD
  obtain⟨H,hH⟩:∃H,(hd t).2=H:=⟨_,rfl⟩
  have HH:=hide hH
  rw[hH]at HRD hok
  rw[hH]
  clear q1 he hH
  go_enter Tryz.func181,Tryz.ntmps181
  go_wp2_with fail
  refine HRD.out.mono ?_
  rintro e w1 ⟨rfl,hb1⟩
  have HB1:=hide hb1
  clear hb1
  by_cases q2:H.s+H.l=t.size
  ·have Q2:=hide q2
   have q2b:(H.s+H.l==(t.size:Int))=true:=by simpa using q2
   clear q2
   go_wp2
   go_ret
   exact reto_yes ⟨Q1.out,Q2.out⟩ (HB1.out.alloc HB1.out.size _)
  ·have Q2:=hide q2
   have q2b:(H.s+H.l==(t.size:Int))=false:=by simpa using q2
   clear q2
   go_wp2
   go_ret
   exact reto_no (fun h=>Q2.out h.2) (HB1.out.alloc HB1.out.size _)
 ·have Q1:=hide q1
  have he:=errAt_of (t:=t) 0 sn q1
  rw[he]at HRD
  unfold fault at HRD
  obtain⟨H,hH⟩:∃H,(hd t).2=H:=⟨_,rfl⟩
  rw[hH]at HRD
  rw[hH]
  clear q1 he hH
  go_enter Tryz.func181,Tryz.ntmps181
  go_wp2_with fail
  refine HRD.out.mono ?_
  rintro e w1 ⟨rfl,hb1⟩
  have HB1:=hide hb1
  clear hb1
  go_wp2
  go_ret
  exact reto_no (fun h=>Q1.out h.1) (HB1.out.alloc HB1.out.size _)
theorem wfits10(n:Nd)(v:Vl)(ka:Option Addr)(kc:Nat)(w:World)(hk:n.kind=10)(hvk:v.kind=n.kind)(hk8:n.kids.length≤8):
 Calls Tryz.prog 148 #[.agg #[.int .i64 n.kind,.int .i64 n.tag,.int .i64 n.mode,.slice ka n.kids.length kc],.agg #[.int .i64 v.kind,.string v.text,.int .i64 v.alt,.int .i64 v.kids]] w fun e w'=>RetO (FitP n v) w e w':=by
 have HI:=hide (fit10 (v:=v) hk hvk)
 rw[hvk,hk]
 go_enter Tryz.func148,Tryz.ntmps148
 by_cases q1:v.text.size=0
 ·have t1:=emp_t q1
  have Q1:=hide q1
  by_cases q2:v.alt=0
  ·have Q2:=hide q2
   rw[q2]
   by_cases q3:v.kids=(n.kids.length:Int)
   ·have Q3:=hide q3
    rw[q3]
    clear q1 q2 q3 hk hvk
    go_wp2
    go_ret
    exact reto_yes (HI.out.2 ⟨Q1.out,Q2.out,Q3.out⟩) (((Below.refl _ _).alloc (Nat.le_refl _) _).alloc (by simp) _)
   ·have Q3:=hide q3
    have q3b:(v.kids==(n.kids.length:Int))=false:=by simpa using q3
    clear q1 q2 hk hvk
    go_wp2
    go_ret
    exact reto_no (fun h=>Q3.out (HI.out.1 h).2.2) (((Below.refl _ _).alloc (Nat.le_refl _) _).alloc (by simp) _)
  ·have Q2:=hide q2
   have q2b:(v.alt==0)=false:=by simpa using q2
   clear q1 hk hvk
   go_wp2
   go_ret
   exact reto_no (fun h=>Q2.out (HI.out.1 h).2.1) (((Below.refl _ _).alloc (Nat.le_refl _) _).alloc (by simp) _)
 ·have t1:=emp_f (t:=v.text) (by omega)
  have Q1:=hide q1
  clear q1 hk hvk
  go_wp2
  go_ret
  exact reto_no (fun h=>Q1.out (HI.out.1 h).1) (((Below.refl _ _).alloc (Nat.le_refl _) _).alloc (by simp) _)
theorem wfits12(n:Nd)(v:Vl)(ka:Option Addr)(kc:Nat)(w:World)(hk:n.kind=11∨n.kind=12)(hvk:v.kind=n.kind)(hk8:n.kids.length≤8):
 Calls Tryz.prog 148 #[.agg #[.int .i64 n.kind,.int .i64 n.tag,.int .i64 n.mode,.slice ka n.kids.length kc],.agg #[.int .i64 v.kind,.string v.text,.int .i64 v.alt,.int .i64 v.kids]] w fun e w'=>RetO (FitP n v) w e w':=by
 have HI:=hide (fit12 (v:=v) hk hvk)
 rw[hvk]
 rcases hk with hk|hk
 all_goals
  rw[hk]
  go_enter Tryz.func148,Tryz.ntmps148
  by_cases q1:v.text.size=0
  ·have t1:=emp_t q1
   have Q1:=hide q1
   by_cases q2:v.alt=0
   ·have Q2:=hide q2
    rw[q2]
    by_cases q3:0≤v.kids
    ·have Q3:=hide q3
     have hmx:max v.kids 0=v.kids:=by omega
     clear q1 q2 hk hvk
     go_wp2
     go_ret
     exact reto_yes (HI.out.2 ⟨Q1.out,Q2.out,Q3.out⟩) (((Below.refl _ _).alloc (Nat.le_refl _) _).alloc (by simp) _)
    ·have Q3:=hide q3
     have hmx:max v.kids 0=0:=by omega
     have q3b:(v.kids==0)=false:=by simp;omega
     clear q1 q2 hk hvk
     go_wp2
     go_ret
     exact reto_no (fun h=>by have h1:=(HI.out.1 h).2.2;have h2:=Q3.out;omega) (((Below.refl _ _).alloc (Nat.le_refl _) _).alloc (by simp) _)
   ·have Q2:=hide q2
    have q2b:(v.alt==0)=false:=by simpa using q2
    clear q1 hk hvk
    go_wp2
    go_ret
    exact reto_no (fun h=>Q2.out (HI.out.1 h).2.1) (((Below.refl _ _).alloc (Nat.le_refl _) _).alloc (by simp) _)
  ·have t1:=emp_f (t:=v.text) (by omega)
   have Q1:=hide q1
   clear q1 hk hvk
   go_wp2
   go_ret
   exact reto_no (fun h=>Q1.out (HI.out.1 h).1) (((Below.refl _ _).alloc (Nat.le_refl _) _).alloc (by simp) _)
theorem wfits13(n:Nd)(v:Vl)(ka:Option Addr)(kc:Nat)(w:World)(hk:n.kind=13)(hvk:v.kind=n.kind)(hk8:n.kids.length≤8):
 Calls Tryz.prog 148 #[.agg #[.int .i64 n.kind,.int .i64 n.tag,.int .i64 n.mode,.slice ka n.kids.length kc],.agg #[.int .i64 v.kind,.string v.text,.int .i64 v.alt,.int .i64 v.kids]] w fun e w'=>RetO (FitP n v) w e w':=by
 have HI:=hide (fit13 (v:=v) hk hvk)
 rw[hvk,hk]
 go_enter Tryz.func148,Tryz.ntmps148
 by_cases q1:v.text.size=0
 ·have t1:=emp_t q1
  have Q1:=hide q1
  by_cases q2:v.kids=1
  ·have Q2:=hide q2
   rw[q2]
   by_cases q3:0≤v.alt
   ·have Q3:=hide q3
    by_cases q4:v.alt<(n.kids.length:Int)
    ·have Q4:=hide q4
     clear q1 q2 hk hvk
     go_wp2
     go_ret
     exact reto_yes (HI.out.2 ⟨Q1.out,Q2.out,Q3.out,Q4.out⟩) (((Below.refl _ _).alloc (Nat.le_refl _) _).alloc (by simp) _)
    ·have Q4:=hide q4
     have q4b:decide (v.alt<(n.kids.length:Int))=false:=decide_eq_false q4
     clear q1 q2 hk hvk
     go_wp2
     go_ret
     exact reto_no (fun h=>by have h1:=(HI.out.1 h).2.2.2;have h2:=Q4.out;omega) (((Below.refl _ _).alloc (Nat.le_refl _) _).alloc (by simp) _)
   ·have Q3:=hide q3
    have q3b:decide (0≤v.alt)=false:=decide_eq_false q3
    clear q1 q2 hk hvk
    go_wp2
    go_ret
    exact reto_no (fun h=>by have h1:=(HI.out.1 h).2.2.1;have h2:=Q3.out;omega) (((Below.refl _ _).alloc (Nat.le_refl _) _).alloc (by simp) _)
  ·have Q2:=hide q2
   have q2b:(v.kids==1)=false:=by simpa using q2
   clear q1 hk hvk
   go_wp2
   go_ret
   exact reto_no (fun h=>Q2.out (HI.out.1 h).2.1) (((Below.refl _ _).alloc (Nat.le_refl _) _).alloc (by simp) _)
 ·have t1:=emp_f (t:=v.text) (by omega)
  have Q1:=hide q1
  clear q1 hk hvk
  go_wp2
  go_ret
  exact reto_no (fun h=>Q1.out (HI.out.1 h).1) (((Below.refl _ _).alloc (Nat.le_refl _) _).alloc (by simp) _)
theorem wfits14(n:Nd)(v:Vl)(ka:Option Addr)(kc:Nat)(w:World)(hk:n.kind=14)(sn:Sn→Addr)(hl:Lay w sn)(hts:v.text.size≤140737488355328)(hvk:v.kind=n.kind)(hk8:n.kids.length≤8):
 Calls Tryz.prog 148 #[.agg #[.int .i64 n.kind,.int .i64 n.tag,.int .i64 n.mode,.slice ka n.kids.length kc],.agg #[.int .i64 v.kind,.string v.text,.int .i64 v.alt,.int .i64 v.kids]] w fun e w'=>RetO (FitP n v) w e w':=by
 have HI:=hide (fit14 (v:=v) hk hvk)
 have HF:Hid (∀wq,Below w.heap.size w wq→Calls Tryz.prog 181 #[.string v.text] wq fun e w'=>∃rv,e= .returned (.bool rv)∧(rv=true↔((hd v.text).1=0∧(hd v.text).2.s+(hd v.text).2.l=v.text.size))∧Below wq.heap.size wq w'):=fun wq q=>isWhole_any v.text wq sn (hl.below q).s (by omega)
 have HA:Hid (∀A B,Below w.heap.size w ((w.alloc A).alloc B)):=fun A B=>((Below.refl w.heap.size w).alloc (Nat.le_refl _) A).alloc (by simp) B
 rw[hvk,hk]
 clear hk hvk hl hts
 go_enter Tryz.func148,Tryz.ntmps148
 by_cases q2:v.alt=0
 ·have Q2:=hide q2
  rw[q2]
  by_cases q3:v.kids=0
  ·have Q3:=hide q3
   rw[q3]
   clear q2 q3
   go_wp2_with fail
   refine(HF.out _ (HA.out _ _)).mono ?_
   rintro e w1 ⟨rv,rfl,hrv,hb1⟩
   have HB1:Hid (Below w.heap.size w w1):=(HA.out _ _).trans (hb1.mono (HA.out _ _).size)
   have HRV:=hide hrv
   clear hb1 hrv
   go_wp2
   go_ret
   exact⟨rv,rfl,⟨fun h=>HI.out.2 ⟨(HRV.out.1 h).1,(HRV.out.1 h).2,Q2.out,Q3.out⟩,fun h=>HRV.out.2 ⟨(HI.out.1 h).1,(HI.out.1 h).2.1⟩⟩,HB1.out⟩
  ·have Q3:=hide q3
   have q3b:(v.kids !=0)=true:=by simpa using q3
   clear q2
   go_wp2
   go_ret
   exact reto_no (fun h=>Q3.out (HI.out.1 h).2.2.2) (((Below.refl _ _).alloc (Nat.le_refl _) _).alloc (by simp) _)
 ·have Q2:=hide q2
  have q2b:(v.alt !=0)=true:=by simpa using q2
  go_wp2
  go_ret
  exact reto_no (fun h=>Q2.out (HI.out.1 h).2.2.1) (((Below.refl _ _).alloc (Nat.le_refl _) _).alloc (by simp) _)
theorem wfits9(n:Nd)(v:Vl)(ka:Option Addr)(kc:Nat)(w:World)(hk:n.kind<10∨14<n.kind)(sn:Sn→Addr)(hl:Lay w sn)(hts:v.text.size≤140737488355328)(hvk:v.kind=n.kind)(hk8:n.kids.length≤8):
 Calls Tryz.prog 148 #[.agg #[.int .i64 n.kind,.int .i64 n.tag,.int .i64 n.mode,.slice ka n.kids.length kc],.agg #[.int .i64 v.kind,.string v.text,.int .i64 v.alt,.int .i64 v.kids]] w fun e w'=>RetO (FitP n v) w e w':=by
 have HI:=hide (fit9 (v:=v) hk hvk)
 have HF:Hid (∀wq,Below w.heap.size w wq→Calls Tryz.prog 138 #[.int .i64 n.kind,.string v.text] wq fun e w'=>∃rv,e= .returned (.bool rv)∧(rv=true↔ContentOk n.kind v.text)∧Below wq.heap.size wq w'):=fun wq q=>fits_any _ _ wq (by omega) (hl.below q).d (valids _ wq (by omega) (hl.below q).t)
 have HA:Hid (∀A B,Below w.heap.size w ((w.alloc A).alloc B)):=fun A B=>((Below.refl w.heap.size w).alloc (Nat.le_refl _) A).alloc (by simp) B
 have t10:(n.kind==10)=false:=by simp;omega
 have t11:(n.kind==11)=false:=by simp;omega
 have t12:(n.kind==12)=false:=by simp;omega
 have t13:(n.kind==13)=false:=by simp;omega
 have t14:(n.kind==14)=false:=by simp;omega
 rw[hvk]
 clear hk hvk hl hts
 go_enter Tryz.func148,Tryz.ntmps148
 by_cases q2:v.alt=0
 ·have Q2:=hide q2
  rw[q2]
  by_cases q3:v.kids=0
  ·have Q3:=hide q3
   rw[q3]
   clear q2 q3
   go_wp2_with fail
   refine(HF.out _ (HA.out _ _)).mono ?_
   rintro e w1 ⟨rv,rfl,hrv,hb1⟩
   have HB1:Hid (Below w.heap.size w w1):=(HA.out _ _).trans (hb1.mono (HA.out _ _).size)
   have HRV:=hide hrv
   clear hb1 hrv
   go_wp2
   go_ret
   exact⟨rv,rfl,⟨fun h=>HI.out.2 ⟨HRV.out.1 h,Q2.out,Q3.out⟩,fun h=>HRV.out.2 (HI.out.1 h).1⟩,HB1.out⟩
  ·have Q3:=hide q3
   have q3b:(v.kids !=0)=true:=by simpa using q3
   clear q2
   go_wp2
   go_ret
   exact reto_no (fun h=>Q3.out (HI.out.1 h).2.2) (((Below.refl _ _).alloc (Nat.le_refl _) _).alloc (by simp) _)
 ·have Q2:=hide q2
  have q2b:(v.alt !=0)=true:=by simpa using q2
  go_wp2
  go_ret
  exact reto_no (fun h=>Q2.out (HI.out.1 h).2.1) (((Below.refl _ _).alloc (Nat.le_refl _) _).alloc (by simp) _)
theorem wfits_any(n:Nd)(v:Vl)(ka:Option Addr)(kc:Nat)(w:World)(sn:Sn→Addr)(hl:Lay w sn)(hts:v.text.size≤140737488355328)(hk8:n.kids.length≤8):
 Calls Tryz.prog 148 #[.agg #[.int .i64 n.kind,.int .i64 n.tag,.int .i64 n.mode,.slice ka n.kids.length kc],.agg #[.int .i64 v.kind,.string v.text,.int .i64 v.alt,.int .i64 v.kids]] w fun e w'=>RetO (FitP n v) w e w':=by
 by_cases hvk:v.kind=n.kind
 ·by_cases h13:n.kind=13
  ·exact wfits13 n v ka kc w h13 hvk hk8
  by_cases h14:n.kind=14
  ·exact wfits14 n v ka kc w h14 sn hl hts hvk hk8
  by_cases h10:n.kind=10
  ·exact wfits10 n v ka kc w h10 hvk hk8
  by_cases h12:n.kind=11∨n.kind=12
  ·exact wfits12 n v ka kc w h12 hvk hk8
  ·exact wfits9 n v ka kc w (by omega) sn hl hts hvk hk8
 ·have Q:=hide hvk
  have hb:(v.kind !=n.kind)=true:=by simpa using hvk
  clear hl hts
  go_enter Tryz.func148,Tryz.ntmps148
  go_wp2
  go_ret
  exact reto_no (fun h=>Q.out h.1) (((Below.refl _ _).alloc (Nat.le_refl _) _).alloc (by simp) _)
end Go.Proofs.YtkkicodfpekbgaaGreatDoor
