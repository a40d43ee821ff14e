/-
Several texts in one.
-/
import Derived.Test.YtkkicodfpekbgaaGreatDoorJa8
namespace Go.Proofs.YtkkicodfpekbgaaGreatDoor
open Go.RowKit
set_option linter.unusedSimpArgs false
set_option linter.unusedVariables false
set_option maxRecDepth 100000
set_option maxHeartbeats 8000000
set_option maxHeartbeats 16000000 in
theorem isCard_w0(v:Int)(s n f t k:ByteArray)(ma:Option Addr)(m mc:Nat)(w:World)(r1 r2 r3 r4 r5:Bool)(HX:Hid (CdX v s n f t k (.slice ma m mc) r1 r2 r3 r4 r5 w))(g0:decide (0≤v)=false):
 Calls Tryz.prog 131 #[cardV v s n f t k (.slice ma m mc)] w fun e w'=>e= .returned (.bool false)∧Below w.heap.size w w':=by
 have X0:∀x:Ext (w.alloc (.cells #[.int .i64 v,.string s,.string n,.string f,.string t,.string k,.slice ma m mc] 68)),x.v.cell? ⟨w.heap.size,0,none⟩=some (.int .i64 v):=fun x=>x.new rfl
 have X1:∀x:Ext (w.alloc (.cells #[.int .i64 v,.string s,.string n,.string f,.string t,.string k,.slice ma m mc] 68)),x.v.cell? ⟨w.heap.size,1,none⟩=some (.string s):=fun x=>x.new rfl
 have X2:∀x:Ext (w.alloc (.cells #[.int .i64 v,.string s,.string n,.string f,.string t,.string k,.slice ma m mc] 68)),x.v.cell? ⟨w.heap.size,2,none⟩=some (.string n):=fun x=>x.new rfl
 have X3:∀x:Ext (w.alloc (.cells #[.int .i64 v,.string s,.string n,.string f,.string t,.string k,.slice ma m mc] 68)),x.v.cell? ⟨w.heap.size,3,none⟩=some (.string f):=fun x=>x.new rfl
 have X4:∀x:Ext (w.alloc (.cells #[.int .i64 v,.string s,.string n,.string f,.string t,.string k,.slice ma m mc] 68)),x.v.cell? ⟨w.heap.size,4,none⟩=some (.string t):=fun x=>x.new rfl
 have X5:∀x:Ext (w.alloc (.cells #[.int .i64 v,.string s,.string n,.string f,.string t,.string k,.slice ma m mc] 68)),x.v.cell? ⟨w.heap.size,5,none⟩=some (.string k):=fun x=>x.new rfl
 have X6:∀x:Ext (w.alloc (.cells #[.int .i64 v,.string s,.string n,.string f,.string t,.string k,.slice ma m mc] 68)),x.v.cell? ⟨w.heap.size,6,none⟩=some (.slice ma m mc):=fun x=>x.new rfl
 have HB0:Hid (∀w5,Below (w.alloc (.cells #[.int .i64 v,.string s,.string n,.string f,.string t,.string k,.slice ma m mc] 68)).heap.size (w.alloc (.cells #[.int .i64 v,.string s,.string n,.string f,.string t,.string k,.slice ma m mc] 68)) w5→Below w.heap.size w w5):=fun w5 q=>below_alloc q
 unfold cardV
 go_enter Tryz.func131,Tryz.ntmps131
 go_wp2_with fail
 (have ne:=ext_ne;refine wp_region_ext (by kernel_rfl) (by kernel_rfl) ?_;(repeat(first|go_big_quiet_skip|(go_big_quiet_want;go_big_quiet_op;first|go_big_quiet_on|(apply Exists.intro;refine⟨fun x=>?_,?_⟩;(·(first|(go_at_call_of 138 (Value.string s);exact HX.out.f1 x)|(go_at_call 169;exact HX.out.f2 x)|(go_at_call_of 138 (Value.string f);exact HX.out.f3 x)|(go_at_call_of 138 (Value.string t);exact HX.out.f4 x)|(go_at_call_of 138 (Value.string k);exact HX.out.f5 x)|(go_at_call 170;exact HX.out.f6 x)));go_big_quiet_on))));refine nil_ext ?_)
 intro w5 hb5
 have HB5:Hid (Below w.heap.size w w5):=HB0.out w5 hb5
 clear X0 X1 X2 X3 X4 X5 X6 hb5
 go_wp2
 go_ret
 exact⟨rfl,HB5.out⟩
set_option maxHeartbeats 16000000 in
theorem isCard_w1(v:Int)(s n f t k:ByteArray)(ma:Option Addr)(m mc:Nat)(w:World)(r1 r2 r3 r4 r5:Bool)(HX:Hid (CdX v s n f t k (.slice ma m mc) r1 r2 r3 r4 r5 w))(g0:decide (0≤v)=true)(g1:decide (v≤2)=false):
 Calls Tryz.prog 131 #[cardV v s n f t k (.slice ma m mc)] w fun e w'=>e= .returned (.bool false)∧Below w.heap.size w w':=by
 have X0:∀x:Ext (w.alloc (.cells #[.int .i64 v,.string s,.string n,.string f,.string t,.string k,.slice ma m mc] 68)),x.v.cell? ⟨w.heap.size,0,none⟩=some (.int .i64 v):=fun x=>x.new rfl
 have X1:∀x:Ext (w.alloc (.cells #[.int .i64 v,.string s,.string n,.string f,.string t,.string k,.slice ma m mc] 68)),x.v.cell? ⟨w.heap.size,1,none⟩=some (.string s):=fun x=>x.new rfl
 have X2:∀x:Ext (w.alloc (.cells #[.int .i64 v,.string s,.string n,.string f,.string t,.string k,.slice ma m mc] 68)),x.v.cell? ⟨w.heap.size,2,none⟩=some (.string n):=fun x=>x.new rfl
 have X3:∀x:Ext (w.alloc (.cells #[.int .i64 v,.string s,.string n,.string f,.string t,.string k,.slice ma m mc] 68)),x.v.cell? ⟨w.heap.size,3,none⟩=some (.string f):=fun x=>x.new rfl
 have X4:∀x:Ext (w.alloc (.cells #[.int .i64 v,.string s,.string n,.string f,.string t,.string k,.slice ma m mc] 68)),x.v.cell? ⟨w.heap.size,4,none⟩=some (.string t):=fun x=>x.new rfl
 have X5:∀x:Ext (w.alloc (.cells #[.int .i64 v,.string s,.string n,.string f,.string t,.string k,.slice ma m mc] 68)),x.v.cell? ⟨w.heap.size,5,none⟩=some (.string k):=fun x=>x.new rfl
 have X6:∀x:Ext (w.alloc (.cells #[.int .i64 v,.string s,.string n,.string f,.string t,.string k,.slice ma m mc] 68)),x.v.cell? ⟨w.heap.size,6,none⟩=some (.slice ma m mc):=fun x=>x.new rfl
 have HB0:Hid (∀w5,Below (w.alloc (.cells #[.int .i64 v,.string s,.string n,.string f,.string t,.string k,.slice ma m mc] 68)).heap.size (w.alloc (.cells #[.int .i64 v,.string s,.string n,.string f,.string t,.string k,.slice ma m mc] 68)) w5→Below w.heap.size w w5):=fun w5 q=>below_alloc q
 unfold cardV
 go_enter Tryz.func131,Tryz.ntmps131
 go_wp2_with fail
 (have ne:=ext_ne;refine wp_region_ext (by kernel_rfl) (by kernel_rfl) ?_;(repeat(first|go_big_quiet_skip|(go_big_quiet_want;go_big_quiet_op;first|go_big_quiet_on|(apply Exists.intro;refine⟨fun x=>?_,?_⟩;(·(first|(go_at_call_of 138 (Value.string s);exact HX.out.f1 x)|(go_at_call 169;exact HX.out.f2 x)|(go_at_call_of 138 (Value.string f);exact HX.out.f3 x)|(go_at_call_of 138 (Value.string t);exact HX.out.f4 x)|(go_at_call_of 138 (Value.string k);exact HX.out.f5 x)|(go_at_call 170;exact HX.out.f6 x)));go_big_quiet_on))));refine nil_ext ?_)
 intro w5 hb5
 have HB5:Hid (Below w.heap.size w w5):=HB0.out w5 hb5
 clear X0 X1 X2 X3 X4 X5 X6 hb5
 go_wp2
 go_ret
 exact⟨rfl,HB5.out⟩
set_option maxHeartbeats 16000000 in
theorem isCard_w2(v:Int)(s n f t k:ByteArray)(ma:Option Addr)(m mc:Nat)(w:World)(r2 r3 r4 r5:Bool)(HX:Hid (CdX v s n f t k (.slice ma m mc) false r2 r3 r4 r5 w))(g0:decide (0≤v)=true)(g1:decide (v≤2)=true):
 Calls Tryz.prog 131 #[cardV v s n f t k (.slice ma m mc)] w fun e w'=>e= .returned (.bool false)∧Below w.heap.size w w':=by
 have X0:∀x:Ext (w.alloc (.cells #[.int .i64 v,.string s,.string n,.string f,.string t,.string k,.slice ma m mc] 68)),x.v.cell? ⟨w.heap.size,0,none⟩=some (.int .i64 v):=fun x=>x.new rfl
 have X1:∀x:Ext (w.alloc (.cells #[.int .i64 v,.string s,.string n,.string f,.string t,.string k,.slice ma m mc] 68)),x.v.cell? ⟨w.heap.size,1,none⟩=some (.string s):=fun x=>x.new rfl
 have X2:∀x:Ext (w.alloc (.cells #[.int .i64 v,.string s,.string n,.string f,.string t,.string k,.slice ma m mc] 68)),x.v.cell? ⟨w.heap.size,2,none⟩=some (.string n):=fun x=>x.new rfl
 have X3:∀x:Ext (w.alloc (.cells #[.int .i64 v,.string s,.string n,.string f,.string t,.string k,.slice ma m mc] 68)),x.v.cell? ⟨w.heap.size,3,none⟩=some (.string f):=fun x=>x.new rfl
 have X4:∀x:Ext (w.alloc (.cells #[.int .i64 v,.string s,.string n,.string f,.string t,.string k,.slice ma m mc] 68)),x.v.cell? ⟨w.heap.size,4,none⟩=some (.string t):=fun x=>x.new rfl
 have X5:∀x:Ext (w.alloc (.cells #[.int .i64 v,.string s,.string n,.string f,.string t,.string k,.slice ma m mc] 68)),x.v.cell? ⟨w.heap.size,5,none⟩=some (.string k):=fun x=>x.new rfl
 have X6:∀x:Ext (w.alloc (.cells #[.int .i64 v,.string s,.string n,.string f,.string t,.string k,.slice ma m mc] 68)),x.v.cell? ⟨w.heap.size,6,none⟩=some (.slice ma m mc):=fun x=>x.new rfl
 have HB0:Hid (∀w5,Below (w.alloc (.cells #[.int .i64 v,.string s,.string n,.string f,.string t,.string k,.slice ma m mc] 68)).heap.size (w.alloc (.cells #[.int .i64 v,.string s,.string n,.string f,.string t,.string k,.slice ma m mc] 68)) w5→Below w.heap.size w w5):=fun w5 q=>below_alloc q
 unfold cardV
 go_enter Tryz.func131,Tryz.ntmps131
 go_wp2_with fail
 (have ne:=ext_ne;refine wp_region_ext (by kernel_rfl) (by kernel_rfl) ?_;(repeat(first|go_big_quiet_skip|(go_big_quiet_want;go_big_quiet_op;first|go_big_quiet_on|(apply Exists.intro;refine⟨fun x=>?_,?_⟩;(·(first|(go_at_call_of 138 (Value.string s);exact HX.out.f1 x)|(go_at_call 169;exact HX.out.f2 x)|(go_at_call_of 138 (Value.string f);exact HX.out.f3 x)|(go_at_call_of 138 (Value.string t);exact HX.out.f4 x)|(go_at_call_of 138 (Value.string k);exact HX.out.f5 x)|(go_at_call 170;exact HX.out.f6 x)));go_big_quiet_on))));refine nil_ext ?_)
 intro w5 hb5
 have HB5:Hid (Below w.heap.size w w5):=HB0.out w5 hb5
 clear X0 X1 X2 X3 X4 X5 X6 hb5
 go_wp2
 go_ret
 exact⟨rfl,HB5.out⟩
set_option maxHeartbeats 16000000 in
theorem isCard_w3(v:Int)(s n f t k:ByteArray)(ma:Option Addr)(m mc:Nat)(w:World)(r3 r4 r5:Bool)(HX:Hid (CdX v s n f t k (.slice ma m mc) true false r3 r4 r5 w))(g0:decide (0≤v)=true)(g1:decide (v≤2)=true):
 Calls Tryz.prog 131 #[cardV v s n f t k (.slice ma m mc)] w fun e w'=>e= .returned (.bool false)∧Below w.heap.size w w':=by
 have X0:∀x:Ext (w.alloc (.cells #[.int .i64 v,.string s,.string n,.string f,.string t,.string k,.slice ma m mc] 68)),x.v.cell? ⟨w.heap.size,0,none⟩=some (.int .i64 v):=fun x=>x.new rfl
 have X1:∀x:Ext (w.alloc (.cells #[.int .i64 v,.string s,.string n,.string f,.string t,.string k,.slice ma m mc] 68)),x.v.cell? ⟨w.heap.size,1,none⟩=some (.string s):=fun x=>x.new rfl
 have X2:∀x:Ext (w.alloc (.cells #[.int .i64 v,.string s,.string n,.string f,.string t,.string k,.slice ma m mc] 68)),x.v.cell? ⟨w.heap.size,2,none⟩=some (.string n):=fun x=>x.new rfl
 have X3:∀x:Ext (w.alloc (.cells #[.int .i64 v,.string s,.string n,.string f,.string t,.string k,.slice ma m mc] 68)),x.v.cell? ⟨w.heap.size,3,none⟩=some (.string f):=fun x=>x.new rfl
 have X4:∀x:Ext (w.alloc (.cells #[.int .i64 v,.string s,.string n,.string f,.string t,.string k,.slice ma m mc] 68)),x.v.cell? ⟨w.heap.size,4,none⟩=some (.string t):=fun x=>x.new rfl
 have X5:∀x:Ext (w.alloc (.cells #[.int .i64 v,.string s,.string n,.string f,.string t,.string k,.slice ma m mc] 68)),x.v.cell? ⟨w.heap.size,5,none⟩=some (.string k):=fun x=>x.new rfl
 have X6:∀x:Ext (w.alloc (.cells #[.int .i64 v,.string s,.string n,.string f,.string t,.string k,.slice ma m mc] 68)),x.v.cell? ⟨w.heap.size,6,none⟩=some (.slice ma m mc):=fun x=>x.new rfl
 have HB0:Hid (∀w5,Below (w.alloc (.cells #[.int .i64 v,.string s,.string n,.string f,.string t,.string k,.slice ma m mc] 68)).heap.size (w.alloc (.cells #[.int .i64 v,.string s,.string n,.string f,.string t,.string k,.slice ma m mc] 68)) w5→Below w.heap.size w w5):=fun w5 q=>below_alloc q
 unfold cardV
 go_enter Tryz.func131,Tryz.ntmps131
 go_wp2_with fail
 (have ne:=ext_ne;refine wp_region_ext (by kernel_rfl) (by kernel_rfl) ?_;(repeat(first|go_big_quiet_skip|(go_big_quiet_want;go_big_quiet_op;first|go_big_quiet_on|(apply Exists.intro;refine⟨fun x=>?_,?_⟩;(·(first|(go_at_call_of 138 (Value.string s);exact HX.out.f1 x)|(go_at_call 169;exact HX.out.f2 x)|(go_at_call_of 138 (Value.string f);exact HX.out.f3 x)|(go_at_call_of 138 (Value.string t);exact HX.out.f4 x)|(go_at_call_of 138 (Value.string k);exact HX.out.f5 x)|(go_at_call 170;exact HX.out.f6 x)));go_big_quiet_on))));refine nil_ext ?_)
 intro w5 hb5
 have HB5:Hid (Below w.heap.size w w5):=HB0.out w5 hb5
 clear X0 X1 X2 X3 X4 X5 X6 hb5
 go_wp2
 go_ret
 exact⟨rfl,HB5.out⟩
set_option maxHeartbeats 16000000 in
theorem isCard_w4(v:Int)(s n f t k:ByteArray)(ma:Option Addr)(m mc:Nat)(w:World)(r4 r5:Bool)(HX:Hid (CdX v s n f t k (.slice ma m mc) true true false r4 r5 w))(g0:decide (0≤v)=true)(g1:decide (v≤2)=true):
 Calls Tryz.prog 131 #[cardV v s n f t k (.slice ma m mc)] w fun e w'=>e= .returned (.bool false)∧Below w.heap.size w w':=by
 have X0:∀x:Ext (w.alloc (.cells #[.int .i64 v,.string s,.string n,.string f,.string t,.string k,.slice ma m mc] 68)),x.v.cell? ⟨w.heap.size,0,none⟩=some (.int .i64 v):=fun x=>x.new rfl
 have X1:∀x:Ext (w.alloc (.cells #[.int .i64 v,.string s,.string n,.string f,.string t,.string k,.slice ma m mc] 68)),x.v.cell? ⟨w.heap.size,1,none⟩=some (.string s):=fun x=>x.new rfl
 have X2:∀x:Ext (w.alloc (.cells #[.int .i64 v,.string s,.string n,.string f,.string t,.string k,.slice ma m mc] 68)),x.v.cell? ⟨w.heap.size,2,none⟩=some (.string n):=fun x=>x.new rfl
 have X3:∀x:Ext (w.alloc (.cells #[.int .i64 v,.string s,.string n,.string f,.string t,.string k,.slice ma m mc] 68)),x.v.cell? ⟨w.heap.size,3,none⟩=some (.string f):=fun x=>x.new rfl
 have X4:∀x:Ext (w.alloc (.cells #[.int .i64 v,.string s,.string n,.string f,.string t,.string k,.slice ma m mc] 68)),x.v.cell? ⟨w.heap.size,4,none⟩=some (.string t):=fun x=>x.new rfl
 have X5:∀x:Ext (w.alloc (.cells #[.int .i64 v,.string s,.string n,.string f,.string t,.string k,.slice ma m mc] 68)),x.v.cell? ⟨w.heap.size,5,none⟩=some (.string k):=fun x=>x.new rfl
 have X6:∀x:Ext (w.alloc (.cells #[.int .i64 v,.string s,.string n,.string f,.string t,.string k,.slice ma m mc] 68)),x.v.cell? ⟨w.heap.size,6,none⟩=some (.slice ma m mc):=fun x=>x.new rfl
 have HB0:Hid (∀w5,Below (w.alloc (.cells #[.int .i64 v,.string s,.string n,.string f,.string t,.string k,.slice ma m mc] 68)).heap.size (w.alloc (.cells #[.int .i64 v,.string s,.string n,.string f,.string t,.string k,.slice ma m mc] 68)) w5→Below w.heap.size w w5):=fun w5 q=>below_alloc q
 unfold cardV
 go_enter Tryz.func131,Tryz.ntmps131
 go_wp2_with fail
 (have ne:=ext_ne;refine wp_region_ext (by kernel_rfl) (by kernel_rfl) ?_;(repeat(first|go_big_quiet_skip|(go_big_quiet_want;go_big_quiet_op;first|go_big_quiet_on|(apply Exists.intro;refine⟨fun x=>?_,?_⟩;(·(first|(go_at_call_of 138 (Value.string s);exact HX.out.f1 x)|(go_at_call 169;exact HX.out.f2 x)|(go_at_call_of 138 (Value.string f);exact HX.out.f3 x)|(go_at_call_of 138 (Value.string t);exact HX.out.f4 x)|(go_at_call_of 138 (Value.string k);exact HX.out.f5 x)|(go_at_call 170;exact HX.out.f6 x)));go_big_quiet_on))));refine nil_ext ?_)
 intro w5 hb5
 have HB5:Hid (Below w.heap.size w w5):=HB0.out w5 hb5
 clear X0 X1 X2 X3 X4 X5 X6 hb5
 go_wp2
 go_ret
 exact⟨rfl,HB5.out⟩
set_option maxHeartbeats 16000000 in
theorem isCard_w5(v:Int)(s n f t k:ByteArray)(ma:Option Addr)(m mc:Nat)(w:World)(r5:Bool)(HX:Hid (CdX v s n f t k (.slice ma m mc) true true true false r5 w))(g0:decide (0≤v)=true)(g1:decide (v≤2)=true):
 Calls Tryz.prog 131 #[cardV v s n f t k (.slice ma m mc)] w fun e w'=>e= .returned (.bool false)∧Below w.heap.size w w':=by
 have X0:∀x:Ext (w.alloc (.cells #[.int .i64 v,.string s,.string n,.string f,.string t,.string k,.slice ma m mc] 68)),x.v.cell? ⟨w.heap.size,0,none⟩=some (.int .i64 v):=fun x=>x.new rfl
 have X1:∀x:Ext (w.alloc (.cells #[.int .i64 v,.string s,.string n,.string f,.string t,.string k,.slice ma m mc] 68)),x.v.cell? ⟨w.heap.size,1,none⟩=some (.string s):=fun x=>x.new rfl
 have X2:∀x:Ext (w.alloc (.cells #[.int .i64 v,.string s,.string n,.string f,.string t,.string k,.slice ma m mc] 68)),x.v.cell? ⟨w.heap.size,2,none⟩=some (.string n):=fun x=>x.new rfl
 have X3:∀x:Ext (w.alloc (.cells #[.int .i64 v,.string s,.string n,.string f,.string t,.string k,.slice ma m mc] 68)),x.v.cell? ⟨w.heap.size,3,none⟩=some (.string f):=fun x=>x.new rfl
 have X4:∀x:Ext (w.alloc (.cells #[.int .i64 v,.string s,.string n,.string f,.string t,.string k,.slice ma m mc] 68)),x.v.cell? ⟨w.heap.size,4,none⟩=some (.string t):=fun x=>x.new rfl
 have X5:∀x:Ext (w.alloc (.cells #[.int .i64 v,.string s,.string n,.string f,.string t,.string k,.slice ma m mc] 68)),x.v.cell? ⟨w.heap.size,5,none⟩=some (.string k):=fun x=>x.new rfl
 have X6:∀x:Ext (w.alloc (.cells #[.int .i64 v,.string s,.string n,.string f,.string t,.string k,.slice ma m mc] 68)),x.v.cell? ⟨w.heap.size,6,none⟩=some (.slice ma m mc):=fun x=>x.new rfl
 have HB0:Hid (∀w5,Below (w.alloc (.cells #[.int .i64 v,.string s,.string n,.string f,.string t,.string k,.slice ma m mc] 68)).heap.size (w.alloc (.cells #[.int .i64 v,.string s,.string n,.string f,.string t,.string k,.slice ma m mc] 68)) w5→Below w.heap.size w w5):=fun w5 q=>below_alloc q
 unfold cardV
 go_enter Tryz.func131,Tryz.ntmps131
 go_wp2_with fail
 (have ne:=ext_ne;refine wp_region_ext (by kernel_rfl) (by kernel_rfl) ?_;(repeat(first|go_big_quiet_skip|(go_big_quiet_want;go_big_quiet_op;first|go_big_quiet_on|(apply Exists.intro;refine⟨fun x=>?_,?_⟩;(·(first|(go_at_call_of 138 (Value.string s);exact HX.out.f1 x)|(go_at_call 169;exact HX.out.f2 x)|(go_at_call_of 138 (Value.string f);exact HX.out.f3 x)|(go_at_call_of 138 (Value.string t);exact HX.out.f4 x)|(go_at_call_of 138 (Value.string k);exact HX.out.f5 x)|(go_at_call 170;exact HX.out.f6 x)));go_big_quiet_on))));refine nil_ext ?_)
 intro w5 hb5
 have HB5:Hid (Below w.heap.size w w5):=HB0.out w5 hb5
 clear X0 X1 X2 X3 X4 X5 X6 hb5
 go_wp2
 go_ret
 exact⟨rfl,HB5.out⟩
set_option maxHeartbeats 16000000 in
theorem isCard_w6(v:Int)(s n f t k:ByteArray)(ma:Option Addr)(m mc:Nat)(w:World)(r5:Bool)(HX:Hid (CdX v s n f t k (.slice ma m mc) true true true true r5 w))(g0:decide (0≤v)=true)(g1:decide (v≤2)=true)(g6:(Op.bytesLess f.toList t.toList||f.toList==t.toList)=false):
 Calls Tryz.prog 131 #[cardV v s n f t k (.slice ma m mc)] w fun e w'=>e= .returned (.bool false)∧Below w.heap.size w w':=by
 have X0:∀x:Ext (w.alloc (.cells #[.int .i64 v,.string s,.string n,.string f,.string t,.string k,.slice ma m mc] 68)),x.v.cell? ⟨w.heap.size,0,none⟩=some (.int .i64 v):=fun x=>x.new rfl
 have X1:∀x:Ext (w.alloc (.cells #[.int .i64 v,.string s,.string n,.string f,.string t,.string k,.slice ma m mc] 68)),x.v.cell? ⟨w.heap.size,1,none⟩=some (.string s):=fun x=>x.new rfl
 have X2:∀x:Ext (w.alloc (.cells #[.int .i64 v,.string s,.string n,.string f,.string t,.string k,.slice ma m mc] 68)),x.v.cell? ⟨w.heap.size,2,none⟩=some (.string n):=fun x=>x.new rfl
 have X3:∀x:Ext (w.alloc (.cells #[.int .i64 v,.string s,.string n,.string f,.string t,.string k,.slice ma m mc] 68)),x.v.cell? ⟨w.heap.size,3,none⟩=some (.string f):=fun x=>x.new rfl
 have X4:∀x:Ext (w.alloc (.cells #[.int .i64 v,.string s,.string n,.string f,.string t,.string k,.slice ma m mc] 68)),x.v.cell? ⟨w.heap.size,4,none⟩=some (.string t):=fun x=>x.new rfl
 have X5:∀x:Ext (w.alloc (.cells #[.int .i64 v,.string s,.string n,.string f,.string t,.string k,.slice ma m mc] 68)),x.v.cell? ⟨w.heap.size,5,none⟩=some (.string k):=fun x=>x.new rfl
 have X6:∀x:Ext (w.alloc (.cells #[.int .i64 v,.string s,.string n,.string f,.string t,.string k,.slice ma m mc] 68)),x.v.cell? ⟨w.heap.size,6,none⟩=some (.slice ma m mc):=fun x=>x.new rfl
 have HB0:Hid (∀w5,Below (w.alloc (.cells #[.int .i64 v,.string s,.string n,.string f,.string t,.string k,.slice ma m mc] 68)).heap.size (w.alloc (.cells #[.int .i64 v,.string s,.string n,.string f,.string t,.string k,.slice ma m mc] 68)) w5→Below w.heap.size w w5):=fun w5 q=>below_alloc q
 unfold cardV
 go_enter Tryz.func131,Tryz.ntmps131
 go_wp2_with fail
 (have ne:=ext_ne;refine wp_region_ext (by kernel_rfl) (by kernel_rfl) ?_;(repeat(first|go_big_quiet_skip|(go_big_quiet_want;go_big_quiet_op;first|go_big_quiet_on|(apply Exists.intro;refine⟨fun x=>?_,?_⟩;(·(first|(go_at_call_of 138 (Value.string s);exact HX.out.f1 x)|(go_at_call 169;exact HX.out.f2 x)|(go_at_call_of 138 (Value.string f);exact HX.out.f3 x)|(go_at_call_of 138 (Value.string t);exact HX.out.f4 x)|(go_at_call_of 138 (Value.string k);exact HX.out.f5 x)|(go_at_call 170;exact HX.out.f6 x)));go_big_quiet_on))));refine nil_ext ?_)
 intro w5 hb5
 have HB5:Hid (Below w.heap.size w w5):=HB0.out w5 hb5
 clear X0 X1 X2 X3 X4 X5 X6 hb5
 go_wp2
 go_ret
 exact⟨rfl,HB5.out⟩
set_option maxHeartbeats 16000000 in
theorem isCard_w7(v:Int)(s n f t k:ByteArray)(ma:Option Addr)(m mc:Nat)(w:World)(HX:Hid (CdX v s n f t k (.slice ma m mc) true true true true false w))(g0:decide (0≤v)=true)(g1:decide (v≤2)=true)(g6:(Op.bytesLess f.toList t.toList||f.toList==t.toList)=true):
 Calls Tryz.prog 131 #[cardV v s n f t k (.slice ma m mc)] w fun e w'=>e= .returned (.bool false)∧Below w.heap.size w w':=by
 have X0:∀x:Ext (w.alloc (.cells #[.int .i64 v,.string s,.string n,.string f,.string t,.string k,.slice ma m mc] 68)),x.v.cell? ⟨w.heap.size,0,none⟩=some (.int .i64 v):=fun x=>x.new rfl
 have X1:∀x:Ext (w.alloc (.cells #[.int .i64 v,.string s,.string n,.string f,.string t,.string k,.slice ma m mc] 68)),x.v.cell? ⟨w.heap.size,1,none⟩=some (.string s):=fun x=>x.new rfl
 have X2:∀x:Ext (w.alloc (.cells #[.int .i64 v,.string s,.string n,.string f,.string t,.string k,.slice ma m mc] 68)),x.v.cell? ⟨w.heap.size,2,none⟩=some (.string n):=fun x=>x.new rfl
 have X3:∀x:Ext (w.alloc (.cells #[.int .i64 v,.string s,.string n,.string f,.string t,.string k,.slice ma m mc] 68)),x.v.cell? ⟨w.heap.size,3,none⟩=some (.string f):=fun x=>x.new rfl
 have X4:∀x:Ext (w.alloc (.cells #[.int .i64 v,.string s,.string n,.string f,.string t,.string k,.slice ma m mc] 68)),x.v.cell? ⟨w.heap.size,4,none⟩=some (.string t):=fun x=>x.new rfl
 have X5:∀x:Ext (w.alloc (.cells #[.int .i64 v,.string s,.string n,.string f,.string t,.string k,.slice ma m mc] 68)),x.v.cell? ⟨w.heap.size,5,none⟩=some (.string k):=fun x=>x.new rfl
 have X6:∀x:Ext (w.alloc (.cells #[.int .i64 v,.string s,.string n,.string f,.string t,.string k,.slice ma m mc] 68)),x.v.cell? ⟨w.heap.size,6,none⟩=some (.slice ma m mc):=fun x=>x.new rfl
 have HB0:Hid (∀w5,Below (w.alloc (.cells #[.int .i64 v,.string s,.string n,.string f,.string t,.string k,.slice ma m mc] 68)).heap.size (w.alloc (.cells #[.int .i64 v,.string s,.string n,.string f,.string t,.string k,.slice ma m mc] 68)) w5→Below w.heap.size w w5):=fun w5 q=>below_alloc q
 unfold cardV
 go_enter Tryz.func131,Tryz.ntmps131
 go_wp2_with fail
 (have ne:=ext_ne;refine wp_region_ext (by kernel_rfl) (by kernel_rfl) ?_;(repeat(first|go_big_quiet_skip|(go_big_quiet_want;go_big_quiet_op;first|go_big_quiet_on|(apply Exists.intro;refine⟨fun x=>?_,?_⟩;(·(first|(go_at_call_of 138 (Value.string s);exact HX.out.f1 x)|(go_at_call 169;exact HX.out.f2 x)|(go_at_call_of 138 (Value.string f);exact HX.out.f3 x)|(go_at_call_of 138 (Value.string t);exact HX.out.f4 x)|(go_at_call_of 138 (Value.string k);exact HX.out.f5 x)|(go_at_call 170;exact HX.out.f6 x)));go_big_quiet_on))));refine nil_ext ?_)
 intro w5 hb5
 have HB5:Hid (Below w.heap.size w w5):=HB0.out w5 hb5
 clear X0 X1 X2 X3 X4 X5 X6 hb5
 go_wp2
 go_ret
 exact⟨rfl,HB5.out⟩
set_option maxHeartbeats 16000000 in
theorem isCard_w8(v:Int)(s n f t k:ByteArray)(ma:Option Addr)(m mc:Nat)(w:World)(HX:Hid (CdX v s n f t k (.slice ma m mc) true true true true true w))(g0:decide (0≤v)=true)(g1:decide (v≤2)=true)(g6:(Op.bytesLess f.toList t.toList||f.toList==t.toList)=true)(g8:decide ((m:Int)≤most v)=false):
 Calls Tryz.prog 131 #[cardV v s n f t k (.slice ma m mc)] w fun e w'=>e= .returned (.bool false)∧Below w.heap.size w w':=by
 have X0:∀x:Ext (w.alloc (.cells #[.int .i64 v,.string s,.string n,.string f,.string t,.string k,.slice ma m mc] 68)),x.v.cell? ⟨w.heap.size,0,none⟩=some (.int .i64 v):=fun x=>x.new rfl
 have X1:∀x:Ext (w.alloc (.cells #[.int .i64 v,.string s,.string n,.string f,.string t,.string k,.slice ma m mc] 68)),x.v.cell? ⟨w.heap.size,1,none⟩=some (.string s):=fun x=>x.new rfl
 have X2:∀x:Ext (w.alloc (.cells #[.int .i64 v,.string s,.string n,.string f,.string t,.string k,.slice ma m mc] 68)),x.v.cell? ⟨w.heap.size,2,none⟩=some (.string n):=fun x=>x.new rfl
 have X3:∀x:Ext (w.alloc (.cells #[.int .i64 v,.string s,.string n,.string f,.string t,.string k,.slice ma m mc] 68)),x.v.cell? ⟨w.heap.size,3,none⟩=some (.string f):=fun x=>x.new rfl
 have X4:∀x:Ext (w.alloc (.cells #[.int .i64 v,.string s,.string n,.string f,.string t,.string k,.slice ma m mc] 68)),x.v.cell? ⟨w.heap.size,4,none⟩=some (.string t):=fun x=>x.new rfl
 have X5:∀x:Ext (w.alloc (.cells #[.int .i64 v,.string s,.string n,.string f,.string t,.string k,.slice ma m mc] 68)),x.v.cell? ⟨w.heap.size,5,none⟩=some (.string k):=fun x=>x.new rfl
 have X6:∀x:Ext (w.alloc (.cells #[.int .i64 v,.string s,.string n,.string f,.string t,.string k,.slice ma m mc] 68)),x.v.cell? ⟨w.heap.size,6,none⟩=some (.slice ma m mc):=fun x=>x.new rfl
 have HB0:Hid (∀w5,Below (w.alloc (.cells #[.int .i64 v,.string s,.string n,.string f,.string t,.string k,.slice ma m mc] 68)).heap.size (w.alloc (.cells #[.int .i64 v,.string s,.string n,.string f,.string t,.string k,.slice ma m mc] 68)) w5→Below w.heap.size w w5):=fun w5 q=>below_alloc q
 unfold cardV
 go_enter Tryz.func131,Tryz.ntmps131
 go_wp2_with fail
 (have ne:=ext_ne;refine wp_region_ext (by kernel_rfl) (by kernel_rfl) ?_;(repeat(first|go_big_quiet_skip|(go_big_quiet_want;go_big_quiet_op;first|go_big_quiet_on|(apply Exists.intro;refine⟨fun x=>?_,?_⟩;(·(first|(go_at_call_of 138 (Value.string s);exact HX.out.f1 x)|(go_at_call 169;exact HX.out.f2 x)|(go_at_call_of 138 (Value.string f);exact HX.out.f3 x)|(go_at_call_of 138 (Value.string t);exact HX.out.f4 x)|(go_at_call_of 138 (Value.string k);exact HX.out.f5 x)|(go_at_call 170;exact HX.out.f6 x)));go_big_quiet_on))));refine nil_ext ?_)
 intro w5 hb5
 have HB5:Hid (Below w.heap.size w w5):=HB0.out w5 hb5
 clear X0 X1 X2 X3 X4 X5 X6 hb5
 go_wp2
 go_ret
 exact⟨rfl,HB5.out⟩
end Go.Proofs.YtkkicodfpekbgaaGreatDoor
