/-
  Several texts in one:
  cards.isName, mostMarks, isCard: whether all is right with a card but for what stands in its marks.
  cards.isCard: what it answers.
  cards.isCard: what is asked first is not so.
  cards.isCard: what is asked later is not so.
  cards.isCard: what is asked later is not so.
  cards.isCard: all is so.
  cards.isCard: what it answers.
  cards.isMark, areMarks, check, Write, hallmark.WriteCard: of what they refuse.
  hallmarkkeep.card: what it holds in memory.
  hallmarkkeep.Refused: what it answers.
-/
import Derived.Test.YtkkicodfpekbgaaGreatDoorJ3
import Derived.Test.YtkkicodfpekbgaaGreatDoorJ0
import Derived.Test.YtkkicodfpekbgaaGreatDoorJ1
import Derived.Test.YtkkicodfpekbgaaGreatDoorJ2
import Derived.Deep.AppendLies
import Derived.Deep.RegionHeldLaw
/-! cards.isName, mostMarks, isCard: whether all is right with a card but for what stands in its marks. -/
namespace Go.Proofs.YtkkicodfpekbgaaGreatDoor
set_option linter.unusedSimpArgs false
set_option linter.unusedVariables false
open Go.RowKit

/-- All cells of a block. -/
theorem cells_of {w : World} {k : Nat} {A : Array Value} {T : TypeId} (h : w.heap[k]? = some (.cells A T (0, 0))) : ∀ i, w.cell? ⟨k, i, none⟩ = A[i]? := fun i => by simp [World.cell?, h]
theorem frozen_of {w : World} {k : Nat} {A : Array Value} {T : TypeId} (h : w.heap[k]? = some (.cells A T (0, 0))) : ∀ i, w.frozen? ⟨k, i, none⟩ = false := fun i => by simp [World.frozen?, h]

/-- A name that a card may have. -/
def NameOk (t : ByteArray) : Prop := 1 ≤ t.size ∧ t.size ≤ 64 ∧ Utf8Ok t
/-- So many marks a card of this version may have. -/
def most (v : Int) : Int := if v = 2 then 8 else 0

set_option maxHeartbeats 1000000 in
set_option maxRecDepth 100000 in
theorem isName_any (t : ByteArray) (w : World) (hm : t.size ≤ 9223372036854775807) (hT : Tabs w) :
    Calls Tryz.prog 169 #[.string t] w fun e w' => RetW (NameOk t) w e w' := by
  have HV : Hid (Calls Tryz.prog 176 #[.string t] w fun e w' => RetW (Utf8Ok t) w e w') := valids t w hm hT
  by_cases h1 : 1 ≤ t.size
  · by_cases h2 : t.size ≤ 64
    · have h1' : (1 : Int) ≤ t.size := by omega
      have h2' : (t.size : Int) ≤ 64 := by omega
      go_enter Tryz.func169, Tryz.ntmps169
      go_wp2_with fail
      refine HV.out.mono ?_
      rintro e w1 ⟨r, rfl, hr, hb⟩
      have HR : Hid (r = true ↔ Utf8Ok t) := hr
      have HB : Hid (Below w.heap.size w w1) := hb
      clear hr hb
      go_wp2
      go_ret
      exact ⟨r, rfl, ⟨fun q => ⟨h1, h2, HR.out.1 q⟩, fun q => HR.out.2 q.2.2⟩, HB.out⟩
    · have h1' : (1 : Int) ≤ t.size := by omega
      have h2' : ¬ (t.size : Int) ≤ 64 := by omega
      go_enter Tryz.func169, Tryz.ntmps169
      go_wp2
      go_ret
      exact ⟨false, rfl, ⟨fun q => (by cases q), fun q => absurd q.2.1 h2⟩, Below.refl _ _⟩
  · have h1' : ¬ (1 : Int) ≤ t.size := by omega
    go_enter Tryz.func169, Tryz.ntmps169
    go_wp2
    go_ret
    exact ⟨false, rfl, ⟨fun q => (by cases q), fun q => absurd q.1 h1⟩, Below.refl _ _⟩

set_option maxHeartbeats 1000000 in
set_option maxRecDepth 100000 in
theorem mostMarks_any (v : Int) (w : World) :
    Calls Tryz.prog 170 #[.int .i64 v] w fun e w' => e = .returned (.int .i64 (most v)) ∧ w' = w := by
  by_cases h : v = 2
  · subst h
    go_enter Tryz.func170, Tryz.ntmps170
    go_wp2
    go_ret
    exact ⟨rfl, rfl⟩
  · have e : most v = 0 := by unfold most; rw [if_neg h]
    have h' : (v == 2) = false := by simp [h]
    rw [e]
    clear h e
    go_enter Tryz.func170, Tryz.ntmps170
    go_wp2
    go_ret
    exact ⟨rfl, rfl⟩

/-- A card but for its marks' insides. -/
structure CardOk (v : Int) (s n f t k : ByteArray) (m : Nat) : Prop where
  v0 : 0 ≤ v
  v2 : v ≤ 2
  ser : IntOk s
  nam : NameOk n
  frm : TimeOk f
  til : TimeOk t
  ord : (Op.bytesLess f.toList t.toList || f.toList == t.toList) = true
  key : BitsOk k
  mks : (m : Int) ≤ most v
end Go.Proofs.YtkkicodfpekbgaaGreatDoor

/-! cards.isCard: what it answers. -/
namespace Go.Proofs.YtkkicodfpekbgaaGreatDoor
set_option linter.unusedSimpArgs false
set_option linter.unusedVariables false
open Go.RowKit

theorem bool_ex (P : Prop) : ∃ r : Bool, r = true ↔ P := by
  by_cases h : P
  · exact ⟨true, by simp [h]⟩
  · exact ⟨false, by simp [h]⟩
/-- A card's value. -/
def cardV (v : Int) (s n f t k : ByteArray) (mk : Value) : Value := .agg #[.int .i64 v, .string s, .string n, .string f, .string t, .string k, mk]
/-- What isCard reads: its box, and what it calls. -/
structure CdX (v : Int) (s n f t k : ByteArray) (mk : Value) (r1 r2 r3 r4 r5 : Bool) (w : World) : Prop where
  f1 : ∀ x : Ext (w.alloc (.cells #[.int .i64 v, .string s, .string n, .string f, .string t, .string k, mk] 68)), Calls Tryz.prog 138 #[.int .i64 2, .string s] x.v fun e w'' => e = .returned (.bool r1) ∧ ∃ y : Ext (w.alloc (.cells #[.int .i64 v, .string s, .string n, .string f, .string t, .string k, mk] 68)), w'' = y.v
  f2 : ∀ x : Ext (w.alloc (.cells #[.int .i64 v, .string s, .string n, .string f, .string t, .string k, mk] 68)), Calls Tryz.prog 169 #[.string n] x.v fun e w'' => e = .returned (.bool r2) ∧ ∃ y : Ext (w.alloc (.cells #[.int .i64 v, .string s, .string n, .string f, .string t, .string k, mk] 68)), w'' = y.v
  f3 : ∀ x : Ext (w.alloc (.cells #[.int .i64 v, .string s, .string n, .string f, .string t, .string k, mk] 68)), Calls Tryz.prog 138 #[.int .i64 9, .string f] x.v fun e w'' => e = .returned (.bool r3) ∧ ∃ y : Ext (w.alloc (.cells #[.int .i64 v, .string s, .string n, .string f, .string t, .string k, mk] 68)), w'' = y.v
  f4 : ∀ x : Ext (w.alloc (.cells #[.int .i64 v, .string s, .string n, .string f, .string t, .string k, mk] 68)), Calls Tryz.prog 138 #[.int .i64 9, .string t] x.v fun e w'' => e = .returned (.bool r4) ∧ ∃ y : Ext (w.alloc (.cells #[.int .i64 v, .string s, .string n, .string f, .string t, .string k, mk] 68)), w'' = y.v
  f5 : ∀ x : Ext (w.alloc (.cells #[.int .i64 v, .string s, .string n, .string f, .string t, .string k, mk] 68)), Calls Tryz.prog 138 #[.int .i64 5, .string k] x.v fun e w'' => e = .returned (.bool r5) ∧ ∃ y : Ext (w.alloc (.cells #[.int .i64 v, .string s, .string n, .string f, .string t, .string k, mk] 68)), w'' = y.v
  f6 : ∀ x : Ext (w.alloc (.cells #[.int .i64 v, .string s, .string n, .string f, .string t, .string k, mk] 68)), Calls Tryz.prog 170 #[.int .i64 v] x.v fun e w'' => e = .returned (.int .i64 (most v)) ∧ ∃ y : Ext (w.alloc (.cells #[.int .i64 v, .string s, .string n, .string f, .string t, .string k, mk] 68)), w'' = y.v

end Go.Proofs.YtkkicodfpekbgaaGreatDoor

/-! cards.isCard: what is asked first is not so. -/
namespace Go.Proofs.YtkkicodfpekbgaaGreatDoor
set_option linter.unusedSimpArgs false
set_option linter.unusedVariables false
open Go.RowKit

set_option maxHeartbeats 16000000 in
set_option maxRecDepth 100000 in
theorem isCard_w0 (v : Int) (s n f t k : ByteArray) (ma : Option Addr) (m mc : Nat) (w : World) (r1 r2 r3 r4 r5 : Bool) (HX : Hid (CdX v s n f t k (.slice ma m mc) r1 r2 r3 r4 r5 w)) (g0 : decide (0 ≤ v) = false) :
    Calls Tryz.prog 131 #[cardV v s n f t k (.slice ma m mc)] w fun e w' => e = .returned (.bool false) ∧ Below w.heap.size w w' := by
  have X0 : ∀ x : Ext (w.alloc (.cells #[.int .i64 v, .string s, .string n, .string f, .string t, .string k, .slice ma m mc] 68)), x.v.cell? ⟨w.heap.size, 0, none⟩ = some (.int .i64 v) := fun x => x.new rfl
  have X1 : ∀ x : Ext (w.alloc (.cells #[.int .i64 v, .string s, .string n, .string f, .string t, .string k, .slice ma m mc] 68)), x.v.cell? ⟨w.heap.size, 1, none⟩ = some (.string s) := fun x => x.new rfl
  have X2 : ∀ x : Ext (w.alloc (.cells #[.int .i64 v, .string s, .string n, .string f, .string t, .string k, .slice ma m mc] 68)), x.v.cell? ⟨w.heap.size, 2, none⟩ = some (.string n) := fun x => x.new rfl
  have X3 : ∀ x : Ext (w.alloc (.cells #[.int .i64 v, .string s, .string n, .string f, .string t, .string k, .slice ma m mc] 68)), x.v.cell? ⟨w.heap.size, 3, none⟩ = some (.string f) := fun x => x.new rfl
  have X4 : ∀ x : Ext (w.alloc (.cells #[.int .i64 v, .string s, .string n, .string f, .string t, .string k, .slice ma m mc] 68)), x.v.cell? ⟨w.heap.size, 4, none⟩ = some (.string t) := fun x => x.new rfl
  have X5 : ∀ x : Ext (w.alloc (.cells #[.int .i64 v, .string s, .string n, .string f, .string t, .string k, .slice ma m mc] 68)), x.v.cell? ⟨w.heap.size, 5, none⟩ = some (.string k) := fun x => x.new rfl
  have X6 : ∀ x : Ext (w.alloc (.cells #[.int .i64 v, .string s, .string n, .string f, .string t, .string k, .slice ma m mc] 68)), x.v.cell? ⟨w.heap.size, 6, none⟩ = some (.slice ma m mc) := fun x => x.new rfl
  have HB0 : Hid (∀ w5, Below (w.alloc (.cells #[.int .i64 v, .string s, .string n, .string f, .string t, .string k, .slice ma m mc] 68)).heap.size (w.alloc (.cells #[.int .i64 v, .string s, .string n, .string f, .string t, .string k, .slice ma m mc] 68)) w5 → Below w.heap.size w w5) := fun w5 q => below_alloc q
  unfold cardV
  go_enter Tryz.func131, Tryz.ntmps131
  go_wp2_with fail
  (have ne := ext_ne; refine wp_region_ext (by kernel_rfl) (by kernel_rfl) ?_; (repeat (first | go_big_quiet_skip | (go_big_quiet_want; go_big_quiet_op; first | go_big_quiet_on | (apply Exists.intro; refine ⟨fun x => ?_, ?_⟩; (· (first | (go_at_call_of 138 (Value.string s); exact HX.out.f1 x) | (go_at_call 169; exact HX.out.f2 x) | (go_at_call_of 138 (Value.string f); exact HX.out.f3 x) | (go_at_call_of 138 (Value.string t); exact HX.out.f4 x) | (go_at_call_of 138 (Value.string k); exact HX.out.f5 x) | (go_at_call 170; exact HX.out.f6 x))); go_big_quiet_on)))); refine nil_ext ?_)
  intro w5 hb5
  have HB5 : Hid (Below w.heap.size w w5) := HB0.out w5 hb5
  clear X0 X1 X2 X3 X4 X5 X6 hb5
  go_wp2
  go_ret
  exact ⟨rfl, HB5.out⟩
set_option maxHeartbeats 16000000 in
set_option maxRecDepth 100000 in
theorem isCard_w1 (v : Int) (s n f t k : ByteArray) (ma : Option Addr) (m mc : Nat) (w : World) (r1 r2 r3 r4 r5 : Bool) (HX : Hid (CdX v s n f t k (.slice ma m mc) r1 r2 r3 r4 r5 w)) (g0 : decide (0 ≤ v) = true) (g1 : decide (v ≤ 2) = false) :
    Calls Tryz.prog 131 #[cardV v s n f t k (.slice ma m mc)] w fun e w' => e = .returned (.bool false) ∧ Below w.heap.size w w' := by
  have X0 : ∀ x : Ext (w.alloc (.cells #[.int .i64 v, .string s, .string n, .string f, .string t, .string k, .slice ma m mc] 68)), x.v.cell? ⟨w.heap.size, 0, none⟩ = some (.int .i64 v) := fun x => x.new rfl
  have X1 : ∀ x : Ext (w.alloc (.cells #[.int .i64 v, .string s, .string n, .string f, .string t, .string k, .slice ma m mc] 68)), x.v.cell? ⟨w.heap.size, 1, none⟩ = some (.string s) := fun x => x.new rfl
  have X2 : ∀ x : Ext (w.alloc (.cells #[.int .i64 v, .string s, .string n, .string f, .string t, .string k, .slice ma m mc] 68)), x.v.cell? ⟨w.heap.size, 2, none⟩ = some (.string n) := fun x => x.new rfl
  have X3 : ∀ x : Ext (w.alloc (.cells #[.int .i64 v, .string s, .string n, .string f, .string t, .string k, .slice ma m mc] 68)), x.v.cell? ⟨w.heap.size, 3, none⟩ = some (.string f) := fun x => x.new rfl
  have X4 : ∀ x : Ext (w.alloc (.cells #[.int .i64 v, .string s, .string n, .string f, .string t, .string k, .slice ma m mc] 68)), x.v.cell? ⟨w.heap.size, 4, none⟩ = some (.string t) := fun x => x.new rfl
  have X5 : ∀ x : Ext (w.alloc (.cells #[.int .i64 v, .string s, .string n, .string f, .string t, .string k, .slice ma m mc] 68)), x.v.cell? ⟨w.heap.size, 5, none⟩ = some (.string k) := fun x => x.new rfl
  have X6 : ∀ x : Ext (w.alloc (.cells #[.int .i64 v, .string s, .string n, .string f, .string t, .string k, .slice ma m mc] 68)), x.v.cell? ⟨w.heap.size, 6, none⟩ = some (.slice ma m mc) := fun x => x.new rfl
  have HB0 : Hid (∀ w5, Below (w.alloc (.cells #[.int .i64 v, .string s, .string n, .string f, .string t, .string k, .slice ma m mc] 68)).heap.size (w.alloc (.cells #[.int .i64 v, .string s, .string n, .string f, .string t, .string k, .slice ma m mc] 68)) w5 → Below w.heap.size w w5) := fun w5 q => below_alloc q
  unfold cardV
  go_enter Tryz.func131, Tryz.ntmps131
  go_wp2_with fail
  (have ne := ext_ne; refine wp_region_ext (by kernel_rfl) (by kernel_rfl) ?_; (repeat (first | go_big_quiet_skip | (go_big_quiet_want; go_big_quiet_op; first | go_big_quiet_on | (apply Exists.intro; refine ⟨fun x => ?_, ?_⟩; (· (first | (go_at_call_of 138 (Value.string s); exact HX.out.f1 x) | (go_at_call 169; exact HX.out.f2 x) | (go_at_call_of 138 (Value.string f); exact HX.out.f3 x) | (go_at_call_of 138 (Value.string t); exact HX.out.f4 x) | (go_at_call_of 138 (Value.string k); exact HX.out.f5 x) | (go_at_call 170; exact HX.out.f6 x))); go_big_quiet_on)))); refine nil_ext ?_)
  intro w5 hb5
  have HB5 : Hid (Below w.heap.size w w5) := HB0.out w5 hb5
  clear X0 X1 X2 X3 X4 X5 X6 hb5
  go_wp2
  go_ret
  exact ⟨rfl, HB5.out⟩
set_option maxHeartbeats 16000000 in
set_option maxRecDepth 100000 in
theorem isCard_w2 (v : Int) (s n f t k : ByteArray) (ma : Option Addr) (m mc : Nat) (w : World) (r2 r3 r4 r5 : Bool) (HX : Hid (CdX v s n f t k (.slice ma m mc) false r2 r3 r4 r5 w)) (g0 : decide (0 ≤ v) = true) (g1 : decide (v ≤ 2) = true) :
    Calls Tryz.prog 131 #[cardV v s n f t k (.slice ma m mc)] w fun e w' => e = .returned (.bool false) ∧ Below w.heap.size w w' := by
  have X0 : ∀ x : Ext (w.alloc (.cells #[.int .i64 v, .string s, .string n, .string f, .string t, .string k, .slice ma m mc] 68)), x.v.cell? ⟨w.heap.size, 0, none⟩ = some (.int .i64 v) := fun x => x.new rfl
  have X1 : ∀ x : Ext (w.alloc (.cells #[.int .i64 v, .string s, .string n, .string f, .string t, .string k, .slice ma m mc] 68)), x.v.cell? ⟨w.heap.size, 1, none⟩ = some (.string s) := fun x => x.new rfl
  have X2 : ∀ x : Ext (w.alloc (.cells #[.int .i64 v, .string s, .string n, .string f, .string t, .string k, .slice ma m mc] 68)), x.v.cell? ⟨w.heap.size, 2, none⟩ = some (.string n) := fun x => x.new rfl
  have X3 : ∀ x : Ext (w.alloc (.cells #[.int .i64 v, .string s, .string n, .string f, .string t, .string k, .slice ma m mc] 68)), x.v.cell? ⟨w.heap.size, 3, none⟩ = some (.string f) := fun x => x.new rfl
  have X4 : ∀ x : Ext (w.alloc (.cells #[.int .i64 v, .string s, .string n, .string f, .string t, .string k, .slice ma m mc] 68)), x.v.cell? ⟨w.heap.size, 4, none⟩ = some (.string t) := fun x => x.new rfl
  have X5 : ∀ x : Ext (w.alloc (.cells #[.int .i64 v, .string s, .string n, .string f, .string t, .string k, .slice ma m mc] 68)), x.v.cell? ⟨w.heap.size, 5, none⟩ = some (.string k) := fun x => x.new rfl
  have X6 : ∀ x : Ext (w.alloc (.cells #[.int .i64 v, .string s, .string n, .string f, .string t, .string k, .slice ma m mc] 68)), x.v.cell? ⟨w.heap.size, 6, none⟩ = some (.slice ma m mc) := fun x => x.new rfl
  have HB0 : Hid (∀ w5, Below (w.alloc (.cells #[.int .i64 v, .string s, .string n, .string f, .string t, .string k, .slice ma m mc] 68)).heap.size (w.alloc (.cells #[.int .i64 v, .string s, .string n, .string f, .string t, .string k, .slice ma m mc] 68)) w5 → Below w.heap.size w w5) := fun w5 q => below_alloc q
  unfold cardV
  go_enter Tryz.func131, Tryz.ntmps131
  go_wp2_with fail
  (have ne := ext_ne; refine wp_region_ext (by kernel_rfl) (by kernel_rfl) ?_; (repeat (first | go_big_quiet_skip | (go_big_quiet_want; go_big_quiet_op; first | go_big_quiet_on | (apply Exists.intro; refine ⟨fun x => ?_, ?_⟩; (· (first | (go_at_call_of 138 (Value.string s); exact HX.out.f1 x) | (go_at_call 169; exact HX.out.f2 x) | (go_at_call_of 138 (Value.string f); exact HX.out.f3 x) | (go_at_call_of 138 (Value.string t); exact HX.out.f4 x) | (go_at_call_of 138 (Value.string k); exact HX.out.f5 x) | (go_at_call 170; exact HX.out.f6 x))); go_big_quiet_on)))); refine nil_ext ?_)
  intro w5 hb5
  have HB5 : Hid (Below w.heap.size w w5) := HB0.out w5 hb5
  clear X0 X1 X2 X3 X4 X5 X6 hb5
  go_wp2
  go_ret
  exact ⟨rfl, HB5.out⟩
set_option maxHeartbeats 16000000 in
set_option maxRecDepth 100000 in
theorem isCard_w3 (v : Int) (s n f t k : ByteArray) (ma : Option Addr) (m mc : Nat) (w : World) (r3 r4 r5 : Bool) (HX : Hid (CdX v s n f t k (.slice ma m mc) true false r3 r4 r5 w)) (g0 : decide (0 ≤ v) = true) (g1 : decide (v ≤ 2) = true) :
    Calls Tryz.prog 131 #[cardV v s n f t k (.slice ma m mc)] w fun e w' => e = .returned (.bool false) ∧ Below w.heap.size w w' := by
  have X0 : ∀ x : Ext (w.alloc (.cells #[.int .i64 v, .string s, .string n, .string f, .string t, .string k, .slice ma m mc] 68)), x.v.cell? ⟨w.heap.size, 0, none⟩ = some (.int .i64 v) := fun x => x.new rfl
  have X1 : ∀ x : Ext (w.alloc (.cells #[.int .i64 v, .string s, .string n, .string f, .string t, .string k, .slice ma m mc] 68)), x.v.cell? ⟨w.heap.size, 1, none⟩ = some (.string s) := fun x => x.new rfl
  have X2 : ∀ x : Ext (w.alloc (.cells #[.int .i64 v, .string s, .string n, .string f, .string t, .string k, .slice ma m mc] 68)), x.v.cell? ⟨w.heap.size, 2, none⟩ = some (.string n) := fun x => x.new rfl
  have X3 : ∀ x : Ext (w.alloc (.cells #[.int .i64 v, .string s, .string n, .string f, .string t, .string k, .slice ma m mc] 68)), x.v.cell? ⟨w.heap.size, 3, none⟩ = some (.string f) := fun x => x.new rfl
  have X4 : ∀ x : Ext (w.alloc (.cells #[.int .i64 v, .string s, .string n, .string f, .string t, .string k, .slice ma m mc] 68)), x.v.cell? ⟨w.heap.size, 4, none⟩ = some (.string t) := fun x => x.new rfl
  have X5 : ∀ x : Ext (w.alloc (.cells #[.int .i64 v, .string s, .string n, .string f, .string t, .string k, .slice ma m mc] 68)), x.v.cell? ⟨w.heap.size, 5, none⟩ = some (.string k) := fun x => x.new rfl
  have X6 : ∀ x : Ext (w.alloc (.cells #[.int .i64 v, .string s, .string n, .string f, .string t, .string k, .slice ma m mc] 68)), x.v.cell? ⟨w.heap.size, 6, none⟩ = some (.slice ma m mc) := fun x => x.new rfl
  have HB0 : Hid (∀ w5, Below (w.alloc (.cells #[.int .i64 v, .string s, .string n, .string f, .string t, .string k, .slice ma m mc] 68)).heap.size (w.alloc (.cells #[.int .i64 v, .string s, .string n, .string f, .string t, .string k, .slice ma m mc] 68)) w5 → Below w.heap.size w w5) := fun w5 q => below_alloc q
  unfold cardV
  go_enter Tryz.func131, Tryz.ntmps131
  go_wp2_with fail
  (have ne := ext_ne; refine wp_region_ext (by kernel_rfl) (by kernel_rfl) ?_; (repeat (first | go_big_quiet_skip | (go_big_quiet_want; go_big_quiet_op; first | go_big_quiet_on | (apply Exists.intro; refine ⟨fun x => ?_, ?_⟩; (· (first | (go_at_call_of 138 (Value.string s); exact HX.out.f1 x) | (go_at_call 169; exact HX.out.f2 x) | (go_at_call_of 138 (Value.string f); exact HX.out.f3 x) | (go_at_call_of 138 (Value.string t); exact HX.out.f4 x) | (go_at_call_of 138 (Value.string k); exact HX.out.f5 x) | (go_at_call 170; exact HX.out.f6 x))); go_big_quiet_on)))); refine nil_ext ?_)
  intro w5 hb5
  have HB5 : Hid (Below w.heap.size w w5) := HB0.out w5 hb5
  clear X0 X1 X2 X3 X4 X5 X6 hb5
  go_wp2
  go_ret
  exact ⟨rfl, HB5.out⟩
set_option maxHeartbeats 16000000 in
set_option maxRecDepth 100000 in
theorem isCard_w4 (v : Int) (s n f t k : ByteArray) (ma : Option Addr) (m mc : Nat) (w : World) (r4 r5 : Bool) (HX : Hid (CdX v s n f t k (.slice ma m mc) true true false r4 r5 w)) (g0 : decide (0 ≤ v) = true) (g1 : decide (v ≤ 2) = true) :
    Calls Tryz.prog 131 #[cardV v s n f t k (.slice ma m mc)] w fun e w' => e = .returned (.bool false) ∧ Below w.heap.size w w' := by
  have X0 : ∀ x : Ext (w.alloc (.cells #[.int .i64 v, .string s, .string n, .string f, .string t, .string k, .slice ma m mc] 68)), x.v.cell? ⟨w.heap.size, 0, none⟩ = some (.int .i64 v) := fun x => x.new rfl
  have X1 : ∀ x : Ext (w.alloc (.cells #[.int .i64 v, .string s, .string n, .string f, .string t, .string k, .slice ma m mc] 68)), x.v.cell? ⟨w.heap.size, 1, none⟩ = some (.string s) := fun x => x.new rfl
  have X2 : ∀ x : Ext (w.alloc (.cells #[.int .i64 v, .string s, .string n, .string f, .string t, .string k, .slice ma m mc] 68)), x.v.cell? ⟨w.heap.size, 2, none⟩ = some (.string n) := fun x => x.new rfl
  have X3 : ∀ x : Ext (w.alloc (.cells #[.int .i64 v, .string s, .string n, .string f, .string t, .string k, .slice ma m mc] 68)), x.v.cell? ⟨w.heap.size, 3, none⟩ = some (.string f) := fun x => x.new rfl
  have X4 : ∀ x : Ext (w.alloc (.cells #[.int .i64 v, .string s, .string n, .string f, .string t, .string k, .slice ma m mc] 68)), x.v.cell? ⟨w.heap.size, 4, none⟩ = some (.string t) := fun x => x.new rfl
  have X5 : ∀ x : Ext (w.alloc (.cells #[.int .i64 v, .string s, .string n, .string f, .string t, .string k, .slice ma m mc] 68)), x.v.cell? ⟨w.heap.size, 5, none⟩ = some (.string k) := fun x => x.new rfl
  have X6 : ∀ x : Ext (w.alloc (.cells #[.int .i64 v, .string s, .string n, .string f, .string t, .string k, .slice ma m mc] 68)), x.v.cell? ⟨w.heap.size, 6, none⟩ = some (.slice ma m mc) := fun x => x.new rfl
  have HB0 : Hid (∀ w5, Below (w.alloc (.cells #[.int .i64 v, .string s, .string n, .string f, .string t, .string k, .slice ma m mc] 68)).heap.size (w.alloc (.cells #[.int .i64 v, .string s, .string n, .string f, .string t, .string k, .slice ma m mc] 68)) w5 → Below w.heap.size w w5) := fun w5 q => below_alloc q
  unfold cardV
  go_enter Tryz.func131, Tryz.ntmps131
  go_wp2_with fail
  (have ne := ext_ne; refine wp_region_ext (by kernel_rfl) (by kernel_rfl) ?_; (repeat (first | go_big_quiet_skip | (go_big_quiet_want; go_big_quiet_op; first | go_big_quiet_on | (apply Exists.intro; refine ⟨fun x => ?_, ?_⟩; (· (first | (go_at_call_of 138 (Value.string s); exact HX.out.f1 x) | (go_at_call 169; exact HX.out.f2 x) | (go_at_call_of 138 (Value.string f); exact HX.out.f3 x) | (go_at_call_of 138 (Value.string t); exact HX.out.f4 x) | (go_at_call_of 138 (Value.string k); exact HX.out.f5 x) | (go_at_call 170; exact HX.out.f6 x))); go_big_quiet_on)))); refine nil_ext ?_)
  intro w5 hb5
  have HB5 : Hid (Below w.heap.size w w5) := HB0.out w5 hb5
  clear X0 X1 X2 X3 X4 X5 X6 hb5
  go_wp2
  go_ret
  exact ⟨rfl, HB5.out⟩
end Go.Proofs.YtkkicodfpekbgaaGreatDoor

/-! cards.isCard: what is asked later is not so. -/
namespace Go.Proofs.YtkkicodfpekbgaaGreatDoor
set_option linter.unusedSimpArgs false
set_option linter.unusedVariables false
open Go.RowKit

set_option maxHeartbeats 16000000 in
set_option maxRecDepth 100000 in
theorem isCard_w5 (v : Int) (s n f t k : ByteArray) (ma : Option Addr) (m mc : Nat) (w : World) (r5 : Bool) (HX : Hid (CdX v s n f t k (.slice ma m mc) true true true false r5 w)) (g0 : decide (0 ≤ v) = true) (g1 : decide (v ≤ 2) = true) :
    Calls Tryz.prog 131 #[cardV v s n f t k (.slice ma m mc)] w fun e w' => e = .returned (.bool false) ∧ Below w.heap.size w w' := by
  have X0 : ∀ x : Ext (w.alloc (.cells #[.int .i64 v, .string s, .string n, .string f, .string t, .string k, .slice ma m mc] 68)), x.v.cell? ⟨w.heap.size, 0, none⟩ = some (.int .i64 v) := fun x => x.new rfl
  have X1 : ∀ x : Ext (w.alloc (.cells #[.int .i64 v, .string s, .string n, .string f, .string t, .string k, .slice ma m mc] 68)), x.v.cell? ⟨w.heap.size, 1, none⟩ = some (.string s) := fun x => x.new rfl
  have X2 : ∀ x : Ext (w.alloc (.cells #[.int .i64 v, .string s, .string n, .string f, .string t, .string k, .slice ma m mc] 68)), x.v.cell? ⟨w.heap.size, 2, none⟩ = some (.string n) := fun x => x.new rfl
  have X3 : ∀ x : Ext (w.alloc (.cells #[.int .i64 v, .string s, .string n, .string f, .string t, .string k, .slice ma m mc] 68)), x.v.cell? ⟨w.heap.size, 3, none⟩ = some (.string f) := fun x => x.new rfl
  have X4 : ∀ x : Ext (w.alloc (.cells #[.int .i64 v, .string s, .string n, .string f, .string t, .string k, .slice ma m mc] 68)), x.v.cell? ⟨w.heap.size, 4, none⟩ = some (.string t) := fun x => x.new rfl
  have X5 : ∀ x : Ext (w.alloc (.cells #[.int .i64 v, .string s, .string n, .string f, .string t, .string k, .slice ma m mc] 68)), x.v.cell? ⟨w.heap.size, 5, none⟩ = some (.string k) := fun x => x.new rfl
  have X6 : ∀ x : Ext (w.alloc (.cells #[.int .i64 v, .string s, .string n, .string f, .string t, .string k, .slice ma m mc] 68)), x.v.cell? ⟨w.heap.size, 6, none⟩ = some (.slice ma m mc) := fun x => x.new rfl
  have HB0 : Hid (∀ w5, Below (w.alloc (.cells #[.int .i64 v, .string s, .string n, .string f, .string t, .string k, .slice ma m mc] 68)).heap.size (w.alloc (.cells #[.int .i64 v, .string s, .string n, .string f, .string t, .string k, .slice ma m mc] 68)) w5 → Below w.heap.size w w5) := fun w5 q => below_alloc q
  unfold cardV
  go_enter Tryz.func131, Tryz.ntmps131
  go_wp2_with fail
  (have ne := ext_ne; refine wp_region_ext (by kernel_rfl) (by kernel_rfl) ?_; (repeat (first | go_big_quiet_skip | (go_big_quiet_want; go_big_quiet_op; first | go_big_quiet_on | (apply Exists.intro; refine ⟨fun x => ?_, ?_⟩; (· (first | (go_at_call_of 138 (Value.string s); exact HX.out.f1 x) | (go_at_call 169; exact HX.out.f2 x) | (go_at_call_of 138 (Value.string f); exact HX.out.f3 x) | (go_at_call_of 138 (Value.string t); exact HX.out.f4 x) | (go_at_call_of 138 (Value.string k); exact HX.out.f5 x) | (go_at_call 170; exact HX.out.f6 x))); go_big_quiet_on)))); refine nil_ext ?_)
  intro w5 hb5
  have HB5 : Hid (Below w.heap.size w w5) := HB0.out w5 hb5
  clear X0 X1 X2 X3 X4 X5 X6 hb5
  go_wp2
  go_ret
  exact ⟨rfl, HB5.out⟩
set_option maxHeartbeats 16000000 in
set_option maxRecDepth 100000 in
theorem isCard_w6 (v : Int) (s n f t k : ByteArray) (ma : Option Addr) (m mc : Nat) (w : World) (r5 : Bool) (HX : Hid (CdX v s n f t k (.slice ma m mc) true true true true r5 w)) (g0 : decide (0 ≤ v) = true) (g1 : decide (v ≤ 2) = true) (g6 : (Op.bytesLess f.toList t.toList || f.toList == t.toList) = false) :
    Calls Tryz.prog 131 #[cardV v s n f t k (.slice ma m mc)] w fun e w' => e = .returned (.bool false) ∧ Below w.heap.size w w' := by
  have X0 : ∀ x : Ext (w.alloc (.cells #[.int .i64 v, .string s, .string n, .string f, .string t, .string k, .slice ma m mc] 68)), x.v.cell? ⟨w.heap.size, 0, none⟩ = some (.int .i64 v) := fun x => x.new rfl
  have X1 : ∀ x : Ext (w.alloc (.cells #[.int .i64 v, .string s, .string n, .string f, .string t, .string k, .slice ma m mc] 68)), x.v.cell? ⟨w.heap.size, 1, none⟩ = some (.string s) := fun x => x.new rfl
  have X2 : ∀ x : Ext (w.alloc (.cells #[.int .i64 v, .string s, .string n, .string f, .string t, .string k, .slice ma m mc] 68)), x.v.cell? ⟨w.heap.size, 2, none⟩ = some (.string n) := fun x => x.new rfl
  have X3 : ∀ x : Ext (w.alloc (.cells #[.int .i64 v, .string s, .string n, .string f, .string t, .string k, .slice ma m mc] 68)), x.v.cell? ⟨w.heap.size, 3, none⟩ = some (.string f) := fun x => x.new rfl
  have X4 : ∀ x : Ext (w.alloc (.cells #[.int .i64 v, .string s, .string n, .string f, .string t, .string k, .slice ma m mc] 68)), x.v.cell? ⟨w.heap.size, 4, none⟩ = some (.string t) := fun x => x.new rfl
  have X5 : ∀ x : Ext (w.alloc (.cells #[.int .i64 v, .string s, .string n, .string f, .string t, .string k, .slice ma m mc] 68)), x.v.cell? ⟨w.heap.size, 5, none⟩ = some (.string k) := fun x => x.new rfl
  have X6 : ∀ x : Ext (w.alloc (.cells #[.int .i64 v, .string s, .string n, .string f, .string t, .string k, .slice ma m mc] 68)), x.v.cell? ⟨w.heap.size, 6, none⟩ = some (.slice ma m mc) := fun x => x.new rfl
  have HB0 : Hid (∀ w5, Below (w.alloc (.cells #[.int .i64 v, .string s, .string n, .string f, .string t, .string k, .slice ma m mc] 68)).heap.size (w.alloc (.cells #[.int .i64 v, .string s, .string n, .string f, .string t, .string k, .slice ma m mc] 68)) w5 → Below w.heap.size w w5) := fun w5 q => below_alloc q
  unfold cardV
  go_enter Tryz.func131, Tryz.ntmps131
  go_wp2_with fail
  (have ne := ext_ne; refine wp_region_ext (by kernel_rfl) (by kernel_rfl) ?_; (repeat (first | go_big_quiet_skip | (go_big_quiet_want; go_big_quiet_op; first | go_big_quiet_on | (apply Exists.intro; refine ⟨fun x => ?_, ?_⟩; (· (first | (go_at_call_of 138 (Value.string s); exact HX.out.f1 x) | (go_at_call 169; exact HX.out.f2 x) | (go_at_call_of 138 (Value.string f); exact HX.out.f3 x) | (go_at_call_of 138 (Value.string t); exact HX.out.f4 x) | (go_at_call_of 138 (Value.string k); exact HX.out.f5 x) | (go_at_call 170; exact HX.out.f6 x))); go_big_quiet_on)))); refine nil_ext ?_)
  intro w5 hb5
  have HB5 : Hid (Below w.heap.size w w5) := HB0.out w5 hb5
  clear X0 X1 X2 X3 X4 X5 X6 hb5
  go_wp2
  go_ret
  exact ⟨rfl, HB5.out⟩
end Go.Proofs.YtkkicodfpekbgaaGreatDoor

/-! cards.isCard: what is asked later is not so. -/
namespace Go.Proofs.YtkkicodfpekbgaaGreatDoor
set_option linter.unusedSimpArgs false
set_option linter.unusedVariables false
open Go.RowKit

set_option maxHeartbeats 16000000 in
set_option maxRecDepth 100000 in
theorem isCard_w7 (v : Int) (s n f t k : ByteArray) (ma : Option Addr) (m mc : Nat) (w : World) (HX : Hid (CdX v s n f t k (.slice ma m mc) true true true true false w)) (g0 : decide (0 ≤ v) = true) (g1 : decide (v ≤ 2) = true) (g6 : (Op.bytesLess f.toList t.toList || f.toList == t.toList) = true) :
    Calls Tryz.prog 131 #[cardV v s n f t k (.slice ma m mc)] w fun e w' => e = .returned (.bool false) ∧ Below w.heap.size w w' := by
  have X0 : ∀ x : Ext (w.alloc (.cells #[.int .i64 v, .string s, .string n, .string f, .string t, .string k, .slice ma m mc] 68)), x.v.cell? ⟨w.heap.size, 0, none⟩ = some (.int .i64 v) := fun x => x.new rfl
  have X1 : ∀ x : Ext (w.alloc (.cells #[.int .i64 v, .string s, .string n, .string f, .string t, .string k, .slice ma m mc] 68)), x.v.cell? ⟨w.heap.size, 1, none⟩ = some (.string s) := fun x => x.new rfl
  have X2 : ∀ x : Ext (w.alloc (.cells #[.int .i64 v, .string s, .string n, .string f, .string t, .string k, .slice ma m mc] 68)), x.v.cell? ⟨w.heap.size, 2, none⟩ = some (.string n) := fun x => x.new rfl
  have X3 : ∀ x : Ext (w.alloc (.cells #[.int .i64 v, .string s, .string n, .string f, .string t, .string k, .slice ma m mc] 68)), x.v.cell? ⟨w.heap.size, 3, none⟩ = some (.string f) := fun x => x.new rfl
  have X4 : ∀ x : Ext (w.alloc (.cells #[.int .i64 v, .string s, .string n, .string f, .string t, .string k, .slice ma m mc] 68)), x.v.cell? ⟨w.heap.size, 4, none⟩ = some (.string t) := fun x => x.new rfl
  have X5 : ∀ x : Ext (w.alloc (.cells #[.int .i64 v, .string s, .string n, .string f, .string t, .string k, .slice ma m mc] 68)), x.v.cell? ⟨w.heap.size, 5, none⟩ = some (.string k) := fun x => x.new rfl
  have X6 : ∀ x : Ext (w.alloc (.cells #[.int .i64 v, .string s, .string n, .string f, .string t, .string k, .slice ma m mc] 68)), x.v.cell? ⟨w.heap.size, 6, none⟩ = some (.slice ma m mc) := fun x => x.new rfl
  have HB0 : Hid (∀ w5, Below (w.alloc (.cells #[.int .i64 v, .string s, .string n, .string f, .string t, .string k, .slice ma m mc] 68)).heap.size (w.alloc (.cells #[.int .i64 v, .string s, .string n, .string f, .string t, .string k, .slice ma m mc] 68)) w5 → Below w.heap.size w w5) := fun w5 q => below_alloc q
  unfold cardV
  go_enter Tryz.func131, Tryz.ntmps131
  go_wp2_with fail
  (have ne := ext_ne; refine wp_region_ext (by kernel_rfl) (by kernel_rfl) ?_; (repeat (first | go_big_quiet_skip | (go_big_quiet_want; go_big_quiet_op; first | go_big_quiet_on | (apply Exists.intro; refine ⟨fun x => ?_, ?_⟩; (· (first | (go_at_call_of 138 (Value.string s); exact HX.out.f1 x) | (go_at_call 169; exact HX.out.f2 x) | (go_at_call_of 138 (Value.string f); exact HX.out.f3 x) | (go_at_call_of 138 (Value.string t); exact HX.out.f4 x) | (go_at_call_of 138 (Value.string k); exact HX.out.f5 x) | (go_at_call 170; exact HX.out.f6 x))); go_big_quiet_on)))); refine nil_ext ?_)
  intro w5 hb5
  have HB5 : Hid (Below w.heap.size w w5) := HB0.out w5 hb5
  clear X0 X1 X2 X3 X4 X5 X6 hb5
  go_wp2
  go_ret
  exact ⟨rfl, HB5.out⟩
set_option maxHeartbeats 16000000 in
set_option maxRecDepth 100000 in
theorem isCard_w8 (v : Int) (s n f t k : ByteArray) (ma : Option Addr) (m mc : Nat) (w : World) (HX : Hid (CdX v s n f t k (.slice ma m mc) true true true true true w)) (g0 : decide (0 ≤ v) = true) (g1 : decide (v ≤ 2) = true) (g6 : (Op.bytesLess f.toList t.toList || f.toList == t.toList) = true) (g8 : decide ((m : Int) ≤ most v) = false) :
    Calls Tryz.prog 131 #[cardV v s n f t k (.slice ma m mc)] w fun e w' => e = .returned (.bool false) ∧ Below w.heap.size w w' := by
  have X0 : ∀ x : Ext (w.alloc (.cells #[.int .i64 v, .string s, .string n, .string f, .string t, .string k, .slice ma m mc] 68)), x.v.cell? ⟨w.heap.size, 0, none⟩ = some (.int .i64 v) := fun x => x.new rfl
  have X1 : ∀ x : Ext (w.alloc (.cells #[.int .i64 v, .string s, .string n, .string f, .string t, .string k, .slice ma m mc] 68)), x.v.cell? ⟨w.heap.size, 1, none⟩ = some (.string s) := fun x => x.new rfl
  have X2 : ∀ x : Ext (w.alloc (.cells #[.int .i64 v, .string s, .string n, .string f, .string t, .string k, .slice ma m mc] 68)), x.v.cell? ⟨w.heap.size, 2, none⟩ = some (.string n) := fun x => x.new rfl
  have X3 : ∀ x : Ext (w.alloc (.cells #[.int .i64 v, .string s, .string n, .string f, .string t, .string k, .slice ma m mc] 68)), x.v.cell? ⟨w.heap.size, 3, none⟩ = some (.string f) := fun x => x.new rfl
  have X4 : ∀ x : Ext (w.alloc (.cells #[.int .i64 v, .string s, .string n, .string f, .string t, .string k, .slice ma m mc] 68)), x.v.cell? ⟨w.heap.size, 4, none⟩ = some (.string t) := fun x => x.new rfl
  have X5 : ∀ x : Ext (w.alloc (.cells #[.int .i64 v, .string s, .string n, .string f, .string t, .string k, .slice ma m mc] 68)), x.v.cell? ⟨w.heap.size, 5, none⟩ = some (.string k) := fun x => x.new rfl
  have X6 : ∀ x : Ext (w.alloc (.cells #[.int .i64 v, .string s, .string n, .string f, .string t, .string k, .slice ma m mc] 68)), x.v.cell? ⟨w.heap.size, 6, none⟩ = some (.slice ma m mc) := fun x => x.new rfl
  have HB0 : Hid (∀ w5, Below (w.alloc (.cells #[.int .i64 v, .string s, .string n, .string f, .string t, .string k, .slice ma m mc] 68)).heap.size (w.alloc (.cells #[.int .i64 v, .string s, .string n, .string f, .string t, .string k, .slice ma m mc] 68)) w5 → Below w.heap.size w w5) := fun w5 q => below_alloc q
  unfold cardV
  go_enter Tryz.func131, Tryz.ntmps131
  go_wp2_with fail
  (have ne := ext_ne; refine wp_region_ext (by kernel_rfl) (by kernel_rfl) ?_; (repeat (first | go_big_quiet_skip | (go_big_quiet_want; go_big_quiet_op; first | go_big_quiet_on | (apply Exists.intro; refine ⟨fun x => ?_, ?_⟩; (· (first | (go_at_call_of 138 (Value.string s); exact HX.out.f1 x) | (go_at_call 169; exact HX.out.f2 x) | (go_at_call_of 138 (Value.string f); exact HX.out.f3 x) | (go_at_call_of 138 (Value.string t); exact HX.out.f4 x) | (go_at_call_of 138 (Value.string k); exact HX.out.f5 x) | (go_at_call 170; exact HX.out.f6 x))); go_big_quiet_on)))); refine nil_ext ?_)
  intro w5 hb5
  have HB5 : Hid (Below w.heap.size w w5) := HB0.out w5 hb5
  clear X0 X1 X2 X3 X4 X5 X6 hb5
  go_wp2
  go_ret
  exact ⟨rfl, HB5.out⟩
end Go.Proofs.YtkkicodfpekbgaaGreatDoor

/-! cards.isCard: all is so. -/
namespace Go.Proofs.YtkkicodfpekbgaaGreatDoor
set_option linter.unusedSimpArgs false
set_option linter.unusedVariables false
open Go.RowKit

set_option maxHeartbeats 16000000 in
set_option maxRecDepth 100000 in
theorem isCard_w9 (v : Int) (s n f t k : ByteArray) (ma : Option Addr) (m mc : Nat) (w : World) (HX : Hid (CdX v s n f t k (.slice ma m mc) true true true true true w)) (g0 : decide (0 ≤ v) = true) (g1 : decide (v ≤ 2) = true) (g6 : (Op.bytesLess f.toList t.toList || f.toList == t.toList) = true) (g8 : decide ((m : Int) ≤ most v) = true) :
    Calls Tryz.prog 131 #[cardV v s n f t k (.slice ma m mc)] w fun e w' => e = .returned (.bool true) ∧ Below w.heap.size w w' := by
  have X0 : ∀ x : Ext (w.alloc (.cells #[.int .i64 v, .string s, .string n, .string f, .string t, .string k, .slice ma m mc] 68)), x.v.cell? ⟨w.heap.size, 0, none⟩ = some (.int .i64 v) := fun x => x.new rfl
  have X1 : ∀ x : Ext (w.alloc (.cells #[.int .i64 v, .string s, .string n, .string f, .string t, .string k, .slice ma m mc] 68)), x.v.cell? ⟨w.heap.size, 1, none⟩ = some (.string s) := fun x => x.new rfl
  have X2 : ∀ x : Ext (w.alloc (.cells #[.int .i64 v, .string s, .string n, .string f, .string t, .string k, .slice ma m mc] 68)), x.v.cell? ⟨w.heap.size, 2, none⟩ = some (.string n) := fun x => x.new rfl
  have X3 : ∀ x : Ext (w.alloc (.cells #[.int .i64 v, .string s, .string n, .string f, .string t, .string k, .slice ma m mc] 68)), x.v.cell? ⟨w.heap.size, 3, none⟩ = some (.string f) := fun x => x.new rfl
  have X4 : ∀ x : Ext (w.alloc (.cells #[.int .i64 v, .string s, .string n, .string f, .string t, .string k, .slice ma m mc] 68)), x.v.cell? ⟨w.heap.size, 4, none⟩ = some (.string t) := fun x => x.new rfl
  have X5 : ∀ x : Ext (w.alloc (.cells #[.int .i64 v, .string s, .string n, .string f, .string t, .string k, .slice ma m mc] 68)), x.v.cell? ⟨w.heap.size, 5, none⟩ = some (.string k) := fun x => x.new rfl
  have X6 : ∀ x : Ext (w.alloc (.cells #[.int .i64 v, .string s, .string n, .string f, .string t, .string k, .slice ma m mc] 68)), x.v.cell? ⟨w.heap.size, 6, none⟩ = some (.slice ma m mc) := fun x => x.new rfl
  have HB0 : Hid (∀ w5, Below (w.alloc (.cells #[.int .i64 v, .string s, .string n, .string f, .string t, .string k, .slice ma m mc] 68)).heap.size (w.alloc (.cells #[.int .i64 v, .string s, .string n, .string f, .string t, .string k, .slice ma m mc] 68)) w5 → Below w.heap.size w w5) := fun w5 q => below_alloc q
  unfold cardV
  go_enter Tryz.func131, Tryz.ntmps131
  go_wp2_with fail
  (have ne := ext_ne; refine wp_region_ext (by kernel_rfl) (by kernel_rfl) ?_; (repeat (first | go_big_quiet_skip | (go_big_quiet_want; go_big_quiet_op; first | go_big_quiet_on | (apply Exists.intro; refine ⟨fun x => ?_, ?_⟩; (· (first | (go_at_call_of 138 (Value.string s); exact HX.out.f1 x) | (go_at_call 169; exact HX.out.f2 x) | (go_at_call_of 138 (Value.string f); exact HX.out.f3 x) | (go_at_call_of 138 (Value.string t); exact HX.out.f4 x) | (go_at_call_of 138 (Value.string k); exact HX.out.f5 x) | (go_at_call 170; exact HX.out.f6 x))); go_big_quiet_on)))); refine nil_ext ?_)
  intro w5 hb5
  have HB5 : Hid (Below w.heap.size w w5) := HB0.out w5 hb5
  clear X0 X1 X2 X3 X4 X5 X6 hb5
  go_wp2
  go_ret
  exact ⟨rfl, HB5.out⟩
end Go.Proofs.YtkkicodfpekbgaaGreatDoor

/-! cards.isCard: what it answers. -/
namespace Go.Proofs.YtkkicodfpekbgaaGreatDoor
set_option linter.unusedSimpArgs false
set_option linter.unusedVariables false
open Go.RowKit

set_option maxHeartbeats 1000000 in
set_option maxRecDepth 100000 in
theorem isCard_any (v : Int) (s n f t k : ByteArray) (ma : Option Addr) (m mc : Nat) (w : World) (hD : Days w) (hT : Tabs w) (z1 : s.size ≤ 9223372036854775807) (z2 : n.size ≤ 9223372036854775807) (z3 : f.size ≤ 9223372036854775807) (z4 : t.size ≤ 9223372036854775807) (z5 : k.size ≤ 9223372036854775807) :
    Calls Tryz.prog 131 #[cardV v s n f t k (.slice ma m mc)] w fun e w' => RetO (CardOk v s n f t k m) w e w' := by
  obtain ⟨r1, h1⟩ := bool_ex (ContentOk 2 s)
  obtain ⟨r2, h2⟩ := bool_ex (NameOk n)
  obtain ⟨r3, h3⟩ := bool_ex (ContentOk 9 f)
  obtain ⟨r4, h4⟩ := bool_ex (ContentOk 9 t)
  obtain ⟨r5, h5⟩ := bool_ex (ContentOk 5 k)
  have hB : ∀ (A : Array Value) (T : TypeId) (x : Ext (w.alloc (.cells A T))), Below w.heap.size w x.v := fun A T x => Ext.bel ((Below.refl _ _).alloc (Nat.le_refl _) _) x
  have HX : Hid (CdX v s n f t k (.slice ma m mc) r1 r2 r3 r4 r5 w) := by
    show CdX v s n f t k (.slice ma m mc) r1 r2 r3 r4 r5 w
    have lay : ∀ (A : Array Value) (T : TypeId) (x : Ext (w.alloc (.cells A T))), Days x.v ∧ Tabs x.v := fun A T x => ⟨fun i hi => ((hB A T x).cell (lt_of_cell (hD i hi))).trans (hD i hi), Utf8Tabs_below hT (hB A T x)⟩
    have ft : ∀ (A : Array Value) (T : TypeId) (x : Ext (w.alloc (.cells A T))) (kk : Int) (u : ByteArray) (r : Bool), u.size ≤ 9223372036854775807 → (r = true ↔ ContentOk kk u) → Calls Tryz.prog 138 #[.int .i64 kk, .string u] x.v fun e w'' => e = .returned (.bool r) ∧ ∃ y : Ext (w.alloc (.cells A T)), w'' = y.v := fun A T x kk u r hz hr =>
      Ext.callsR hr (fits_any kk u x.v hz (lay A T x).1 (valids u x.v hz (lay A T x).2))
    exact ⟨fun x => ft _ _ x 2 s r1 z1 h1, fun x => Ext.callsR h2 (isName_any n x.v z2 (lay _ _ x).2), fun x => ft _ _ x 9 f r3 z3 h3, fun x => ft _ _ x 9 t r4 z4 h4, fun x => ft _ _ x 5 k r5 z5 h5, fun x => Ext.calls ((mostMarks_any v x.v).mono fun _ _ q => ⟨q.1, by rw [q.2]; exact Below.refl _ _⟩)⟩
  rw [← contentOk_2] at h1
  rw [← contentOk_9] at h3 h4
  rw [← contentOk_5] at h5
  have no : ∀ {e : Ending} {w' : World}, ¬ CardOk v s n f t k m → e = .returned (.bool false) ∧ Below w.heap.size w w' → RetO (CardOk v s n f t k m) w e w' := fun hn q => by rw [q.1]; exact reto_no hn q.2
  by_cases g0 : 0 ≤ v
  case neg => exact (isCard_w0 v s n f t k ma m mc w r1 r2 r3 r4 r5 HX (by simp; omega)).mono fun e w' q => no (fun c => g0 c.v0) q
  by_cases g1 : v ≤ 2
  case neg => exact (isCard_w1 v s n f t k ma m mc w r1 r2 r3 r4 r5 HX (by simp; omega) (by simp; omega)).mono fun e w' q => no (fun c => g1 c.v2) q
  have d0 : decide (0 ≤ v) = true := by simp; omega
  have d1 : decide (v ≤ 2) = true := by simp; omega
  cases r1 with
  | false => exact (isCard_w2 v s n f t k ma m mc w r2 r3 r4 r5 HX d0 d1).mono fun e w' q => no (fun c => by cases h1.2 c.ser) q
  | true =>
  cases r2 with
  | false => exact (isCard_w3 v s n f t k ma m mc w r3 r4 r5 HX d0 d1).mono fun e w' q => no (fun c => by cases h2.2 c.nam) q
  | true =>
  cases r3 with
  | false => exact (isCard_w4 v s n f t k ma m mc w r4 r5 HX d0 d1).mono fun e w' q => no (fun c => by cases h3.2 c.frm) q
  | true =>
  cases r4 with
  | false => exact (isCard_w5 v s n f t k ma m mc w r5 HX d0 d1).mono fun e w' q => no (fun c => by cases h4.2 c.til) q
  | true =>
  cases g6 : (Op.bytesLess f.toList t.toList || f.toList == t.toList) with
  | false => exact (isCard_w6 v s n f t k ma m mc w r5 HX d0 d1 g6).mono fun e w' q => no (fun c => by rw [c.ord] at g6; cases g6) q
  | true =>
  cases r5 with
  | false => exact (isCard_w7 v s n f t k ma m mc w HX d0 d1 g6).mono fun e w' q => no (fun c => by cases h5.2 c.key) q
  | true =>
  by_cases g8 : (m : Int) ≤ most v
  case neg => exact (isCard_w8 v s n f t k ma m mc w HX d0 d1 g6 (by simp; omega)).mono fun e w' q => no (fun c => g8 c.mks) q
  exact (isCard_w9 v s n f t k ma m mc w HX d0 d1 g6 (by simp; omega)).mono fun e w' q => by rw [q.1]; exact reto_yes ⟨g0, g1, h1.1 rfl, h2.1 rfl, h3.1 rfl, h4.1 rfl, g6, h5.1 rfl, g8⟩ q.2

end Go.Proofs.YtkkicodfpekbgaaGreatDoor

/-! cards.isMark, areMarks, check, Write, hallmark.WriteCard: of what they refuse. -/
namespace Go.Proofs.YtkkicodfpekbgaaGreatDoor
set_option linter.unusedSimpArgs false
set_option linter.unusedVariables false
open Go.RowKit

abbrev star : ByteArray := ⟨#[42]⟩

set_option maxHeartbeats 1000000 in
set_option maxRecDepth 100000 in
theorem isMark_must (b : ByteArray) (w : World) (hD : Days w) (hT : Tabs w) :
    Calls Tryz.prog 171 #[.agg #[.string star, .bool true, .string b]] w fun e w' => e = .returned (.bool false) ∧ Below w.heap.size w w' := by
  have HF : Hid (∀ wq, Below w.heap.size w wq → Calls Tryz.prog 138 #[.int .i64 4, .string star] wq fun e w' => RetW (ContentOk 4 star) wq e w') := fun wq q =>
    fits_any 4 star wq (by decide) (fun i hi => (q.cell (lt_of_cell (hD i hi))).trans (hD i hi)) (valids star wq (by decide) (Utf8Tabs_below hT q))
  clear hD hT
  go_enter Tryz.func171, Tryz.ntmps171
  go_wp2_with fail
  refine (HF.out _ ((Below.refl _ _).alloc (Nat.le_refl _) _)).mono ?_
  rintro e w1 ⟨r, rfl, hr, hb⟩
  clear hr
  have HB : Hid (Below w.heap.size w w1) := below_alloc hb
  have c1 : w1.cell? ⟨w.heap.size, 1, none⟩ = some (.bool true) := (cells_of (block_below (heap_alloc_new w _) hb) 1).trans rfl
  have hl1 : w.heap.size < w1.heap.size := lt_of_cell c1
  clear hb
  cases r
  · go_wp2
    go_ret
    exact ⟨rfl, HB.out⟩
  · go_wp2
    go_ret
    exact ⟨rfl, HB.out⟩

set_option maxHeartbeats 1000000 in
set_option maxRecDepth 100000 in
theorem areMarks_must (b : ByteArray) (g mc : Nat) (w : World) (hD : Days w) (hT : Tabs w) (hg : w.heap[g]? = some (.cells #[.string star, .bool true, .string b] 73 (0, 0))) :
    Calls Tryz.prog 132 #[.slice (some ⟨g, 0, none⟩) 1 mc] w fun e w' => e = .returned (.bool false) ∧ Below w.heap.size w w' := by
  have HM : Hid (∀ wq, Below w.heap.size w wq → Calls Tryz.prog 171 #[.agg #[.string star, .bool true, .string b]] wq fun e w' => e = .returned (.bool false) ∧ Below wq.heap.size wq w') := fun wq q =>
    isMark_must b wq (fun i hi => (q.cell (lt_of_cell (hD i hi))).trans (hD i hi)) (Utf8Tabs_below hT q)
  have g0 : w.cell? ⟨g, 0, none⟩ = some (.string star) := (cells_of hg 0).trans rfl
  have g1 : w.cell? ⟨g, 1, none⟩ = some (.bool true) := (cells_of hg 1).trans rfl
  have g2 : w.cell? ⟨g, 2, none⟩ = some (.string b) := (cells_of hg 2).trans rfl
  have hgl : g < w.heap.size := row_lt hg
  clear hD hT hg
  go_enter Tryz.func132, Tryz.ntmps132
  go_wp2
  go_loopw [9] (fun vi wr => vi = .int .i64 0 ∧ wr = w) (fun _ _ => 0)
  case atStart => exact ⟨rfl, rfl⟩
  case round =>
    obtain ⟨rfl, rfl⟩ := hrel
    go_wp2_with fail
    refine (HM.out _ ((Below.refl _ _).alloc (Nat.le_refl _) _)).mono ?_
    rintro e w1 ⟨rfl, hb⟩
    have HB : Hid (Below wr.heap.size wr w1) := below_alloc hb
    clear hb
    go_wp2
    go_ret
    exact ⟨rfl, HB.out⟩

/-- How great a card's texts may be. -/
structure CdZ (s n f t k : ByteArray) : Prop where
  z1 : s.size ≤ 9223372036854775807
  z2 : n.size ≤ 9223372036854775807
  z3 : f.size ≤ 9223372036854775807
  z4 : t.size ≤ 9223372036854775807
  z5 : k.size ≤ 9223372036854775807

set_option maxHeartbeats 1000000 in
set_option maxRecDepth 100000 in
theorem check_card (v : Int) (s n f t k : ByteArray) (ma : Option Addr) (m mc : Nat) (w : World) (sn : Sn → Addr) (hl : Lay w sn) (hz : CdZ s n f t k) (hno : ¬ CardOk v s n f t k m) :
    Calls Tryz.prog 85 #[cardV v s n f t k (.slice ma m mc)] w fun e w' => e = .returned (fault 0 (sn .Card)) ∧ Below w.heap.size w w' := by
  have HIC : Hid (∀ wq, Below w.heap.size w wq → Calls Tryz.prog 131 #[cardV v s n f t k (.slice ma m mc)] wq fun e w' => RetO (CardOk v s n f t k m) wq e w') := fun wq q => isCard_any v s n f t k ma m mc wq (hl.below q).d (hl.below q).t hz.z1 hz.z2 hz.z3 hz.z4 hz.z5
  have HL : Hid (Lay w sn) := hl
  have HNO : Hid (¬ CardOk v s n f t k m) := hno
  have HAT : Hid (∀ wq, Calls Tryz.prog 60 #[.int .i64 0, .iface 291 (.pointer (some (sn .Card)))] wq fun e w' => e = .returned (fault 0 (sn .Card)) ∧ w' = wq) := fun wq => at_any 0 _ wq
  unfold fault at HAT ⊢
  unfold cardV at HIC ⊢
  clear hl hno hz
  go_enter Tryz.func85, Tryz.ntmps85
  go_wp2_with fail
  refine (HIC.out _ ((Below.refl _ _).alloc (Nat.le_refl _) _)).mono ?_
  rintro e w1 ⟨r, rfl, hr, hb⟩
  have HB : Hid (Below w.heap.size w w1) := below_alloc hb
  have er : r = false := by
    cases r with
    | false => rfl
    | true => exact absurd (hr.1 rfl) HNO.out
  subst er
  have cC := (HL.out.below HB.out).s.cCard
  have hgl := lt_of_cell cC
  simp only at hgl
  clear hb hr
  go_wp2_with fail
  refine (HAT.out _).mono ?_
  rintro e w2 ⟨rfl, rfl⟩
  go_wp2
  go_ret
  exact ⟨rfl, HB.out⟩

set_option maxHeartbeats 1000000 in
set_option maxRecDepth 100000 in
theorem check_must (v : Int) (s n f t k b : ByteArray) (g mc : Nat) (w : World) (sn : Sn → Addr) (hl : Lay w sn) (hz : CdZ s n f t k) (hok : CardOk v s n f t k 1) (hg : w.heap[g]? = some (.cells #[.string star, .bool true, .string b] 73 (0, 0))) :
    Calls Tryz.prog 85 #[cardV v s n f t k (.slice (some ⟨g, 0, none⟩) (1 : Nat) mc)] w fun e w' => e = .returned (fault 0 (sn .Mark)) ∧ Below w.heap.size w w' := by
  have HIC : Hid (∀ wq, Below w.heap.size w wq → Calls Tryz.prog 131 #[cardV v s n f t k (.slice (some ⟨g, 0, none⟩) (1 : Nat) mc)] wq fun e w' => RetO (CardOk v s n f t k 1) wq e w') := fun wq q => isCard_any v s n f t k (some ⟨g, 0, none⟩) 1 mc wq (hl.below q).d (hl.below q).t hz.z1 hz.z2 hz.z3 hz.z4 hz.z5
  have HAM : Hid (∀ wq, Below w.heap.size w wq → Calls Tryz.prog 132 #[.slice (some ⟨g, 0, none⟩) 1 mc] wq fun e w' => e = .returned (.bool false) ∧ Below wq.heap.size wq w') := fun wq q => areMarks_must b g mc wq (hl.below q).d (hl.below q).t (block_below hg q)
  have HL : Hid (Lay w sn) := hl
  have HOK : Hid (CardOk v s n f t k 1) := hok
  have HAT : Hid (∀ wq, Calls Tryz.prog 60 #[.int .i64 0, .iface 291 (.pointer (some (sn .Mark)))] wq fun e w' => e = .returned (fault 0 (sn .Mark)) ∧ w' = wq) := fun wq => at_any 0 _ wq
  unfold fault at HAT ⊢
  unfold cardV at HIC ⊢
  clear hl hok hz hg
  go_enter Tryz.func85, Tryz.ntmps85
  go_wp2_with fail
  refine (HIC.out _ ((Below.refl _ _).alloc (Nat.le_refl _) _)).mono ?_
  rintro e w1 ⟨r, rfl, hr, hb⟩
  have HB : Hid (Below w.heap.size w w1) := below_alloc hb
  have er : r = true := hr.2 HOK.out
  subst er
  have c6 : w1.cell? ⟨w.heap.size, 6, none⟩ = some (.slice (some ⟨g, 0, none⟩) (1 : Nat) mc) := (cells_of (block_below (heap_alloc_new w _) hb) 6).trans rfl
  have hl6 : w.heap.size < w1.heap.size := lt_of_cell c6
  clear hb hr
  go_wp2_with fail
  refine (HAM.out _ HB.out).mono ?_
  rintro e w2 ⟨rfl, hb2⟩
  have HB2 : Hid (Below w.heap.size w w2) := HB.out.trans (hb2.mono HB.out.size)
  have cC := (HL.out.below HB2.out).s.cMark
  have hgl := lt_of_cell cC
  simp only at hgl
  clear hb2 c6 hl6
  go_wp2_with fail
  refine (HAT.out _).mono ?_
  rintro e w3 ⟨rfl, rfl⟩
  go_wp2
  go_ret
  exact ⟨rfl, HB2.out⟩

set_option maxHeartbeats 1000000 in
set_option maxRecDepth 100000 in
theorem write_no (c : Value) (v : Int) (s n f t k : ByteArray) (mv : Value) (hc : c = cardV v s n f t k mv) (a : Addr) (w : World)
    (h : ∀ wq, Below w.heap.size w wq → Calls Tryz.prog 85 #[c] wq fun e w' => e = .returned (fault 0 a) ∧ Below wq.heap.size wq w') :
    Calls Tryz.prog 57 #[c] w fun e w' => e = .returned (.tuple #[.string ⟨#[]⟩, fault 0 a]) ∧ Below w.heap.size w w' := by
  subst hc
  have HC : Hid (∀ wq, Below w.heap.size w wq → Calls Tryz.prog 85 #[cardV v s n f t k mv] wq fun e w' => e = .returned (fault 0 a) ∧ Below wq.heap.size wq w') := h
  unfold fault at HC ⊢
  unfold cardV at HC ⊢
  clear h
  go_enter Tryz.func57, Tryz.ntmps57
  go_wp2_with fail
  refine (HC.out _ ((Below.refl _ _).alloc (Nat.le_refl _) _)).mono ?_
  rintro e w1 ⟨rfl, hb⟩
  have HB : Hid (Below w.heap.size w w1) := below_alloc hb
  clear hb
  go_wp2
  go_ret2
  exact ⟨rfl, HB.out⟩

set_option maxHeartbeats 1000000 in
set_option maxRecDepth 100000 in
theorem writeCard_no (v : Int) (s n f t k : ByteArray) (mv : Value) (x : Sn) (w : World) (sn : Sn → Addr) (hs : Sent w sn)
    (h : ∀ wq, Below w.heap.size w wq → Calls Tryz.prog 85 #[cardV v s n f t k mv] wq fun e w' => e = .returned (fault 0 (sn x)) ∧ Below wq.heap.size wq w') :
    Calls Tryz.prog 31 #[cardV v s n f t k mv] w fun e w' => e = .returned (.tuple #[.string ⟨#[]⟩, .int .i64 x.code]) ∧ Below w.heap.size w w' := by
  have HC : Hid (∀ wq, Below w.heap.size w wq → Calls Tryz.prog 57 #[cardV v s n f t k mv] wq fun e w' => e = .returned (.tuple #[.string ⟨#[]⟩, fault 0 (sn x)]) ∧ Below wq.heap.size wq w') := fun wq q =>
    write_no _ v s n f t k mv rfl (sn x) wq fun w2 q2 => h w2 (q.trans (q2.mono q.size))
  have HN : Hid (∀ wq, Below w.heap.size w wq → Calls Tryz.prog 34 #[fault 0 (sn x)] wq fun e w' => e = .returned (.int .i64 x.code) ∧ Below wq.heap.size wq w') := fun wq q => by
    have := number_at 0 (sn x) wq sn (hs.below q) ((hs.below q).r x)
    rw [hs.nm] at this
    exact this
  unfold fault at HC HN
  unfold cardV at HC ⊢
  clear h hs
  go_enter Tryz.func31, Tryz.ntmps31
  go_wp2_with fail
  refine (HC.out _ ((Below.refl _ _).alloc (Nat.le_refl _) _)).mono ?_
  rintro e w1 ⟨rfl, hb⟩
  have HB : Hid (Below w.heap.size w w1) := below_alloc hb
  clear hb
  go_wp2_with fail
  refine (HN.out _ HB.out).mono ?_
  rintro e w2 ⟨rfl, hb2⟩
  have HB2 : Hid (Below w.heap.size w w2) := HB.out.trans (hb2.mono HB.out.size)
  clear hb2
  go_wp2
  go_ret2
  exact ⟨rfl, HB2.out⟩
end Go.Proofs.YtkkicodfpekbgaaGreatDoor

/-! hallmarkkeep.card: what it holds in memory. -/
namespace Go.Proofs.YtkkicodfpekbgaaGreatDoor
set_option linter.unusedSimpArgs false
set_option linter.unusedVariables false
open Go.RowKit

/-- A mark. -/
structure Mks where
  kind : ByteArray
  must : Bool
  body : ByteArray
def mcells (ms : List Mks) : List Value := ms.flatMap fun m => [.string m.kind, .bool m.must, .string m.body]
theorem mcells_append (ms : List Mks) (m : Mks) : mcells (ms ++ [m]) = mcells ms ++ [.string m.kind, .bool m.must, .string m.body] := by unfold mcells; simp
/-- The times of a card that is made. -/
abbrev tFrom : ByteArray := ⟨#[49, 57, 57, 57, 48, 49, 48, 49, 48, 48, 48, 48, 48, 48, 90]⟩
abbrev tTill : ByteArray := ⟨#[50, 48, 50, 52, 48, 50, 50, 57, 50, 51, 53, 57, 53, 57, 90]⟩
/-- A card's cells. -/
abbrev cdCells (v : Int) (s n k : ByteArray) (mv : Value) : Array Value := #[.int .i64 v, .string s, .string n, .string tFrom, .string tTill, .string k, mv]
abbrev cdZero : Array Value := #[.int .i64 0, .string ⟨#[]⟩, .string ⟨#[]⟩, .string ⟨#[]⟩, .string ⟨#[]⟩, .string ⟨#[]⟩, .slice none 0 0]
def Tryz.zeroMark : Value := .agg #[.string ⟨#[]⟩, .bool false, .string ⟨#[]⟩]
theorem Tryz.infoMark : (Tryz.prog.info? 73).map (fun i => (i.zero, i.size, i.bytes)) = some (some Tryz.zeroMark, 3, 40) := by kernel_rfl

/-- What card holds in memory: W: the world when it was called; M: the maker, C: the card. -/
structure CI (W wr : World) (M C : Nat) (na ta : Option Addr) (nl nc tl tc : Nat) (v : Int) (s n k : ByteArray) (mv : Value) (ms : List Mks) : Prop where
  mak : MkI W wr M na ta nl nc tl tc (.slice none 0 0) (.slice none 0 0)
  box : wr.heap[C]? = some (.cells (cdCells v s n k mv) 68 (0, 0))
  own : wr.ownsRow W.heap.size 73 3 mv ms.length (mcells ms)
  res : wr.heap[W.heap.size + 1]? = some (.cells cdZero 68 (0, 0))
  lo : W.heap.size + 1 < C
  ne : C ≠ M
  nr : W.heap.size + 1 < M
theorem own_keep {w w' : World} {base : Nat} {e : TypeId} {size : Nat} {v : Value} {n : Nat} {xs : List Value} (h : w.ownsRow base e size v n xs) (hk : ∀ (j : Nat) (A : Array Value), w.heap[j]? = some (Obj.cells A e (0, 0)) → w'.heap[j]? = w.heap[j]?) : w'.ownsRow base e size v n xs := by
  obtain ⟨h1, h2⟩ := h
  refine ⟨h1, ?_⟩
  rcases h2 with h2 | ⟨g, cap, cur, q1, q2, q3, q4⟩
  · exact .inl h2
  · exact .inr ⟨g, cap, cur, q1, q2, by rw [hk g cur q3]; exact q3, q4⟩
theorem CI.below {W wr w' : World} {M C : Nat} {na ta : Option Addr} {nl nc tl tc : Nat} {v : Int} {s n k : ByteArray} {mv : Value} {ms : List Mks} (h : CI W wr M C na ta nl nc tl tc v s n k mv ms) (hb : Below wr.heap.size wr w') : CI W w' M C na ta nl nc tl tc v s n k mv ms :=
  ⟨h.mak.below hb, block_below h.box hb, own_below h.own hb, block_below h.res hb, h.lo, h.ne, h.nr⟩
theorem CI.frm {W wr w' : World} {M C : Nat} {na ta : Option Addr} {nl nc tl tc : Nat} {v : Int} {s n k : ByteArray} {mv : Value} {ms : List Mks} (h : CI W wr M C na ta nl nc tl tc v s n k mv ms) (hm : MkI W w' M na ta nl nc tl tc (.slice none 0 0) (.slice none 0 0)) (hf : FrM M wr w') : CI W w' M C na ta nl nc tl tc v s n k mv ms := by
  obtain ⟨_, _, n0, t0, _, _, hM⟩ := h.mak
  refine ⟨hm, by rw [hf.2 C h.ne (row_lt h.box)]; exact h.box, own_keep h.own fun j A hj => hf.2 j ?_ (row_lt hj), by rw [hf.2 _ (by have := h.nr; omega) (row_lt h.res)]; exact h.res, h.lo, h.ne, h.nr⟩
  rintro rfl
  rw [hM] at hj
  injection hj with hj
  injection hj with _ e _
  revert e
  decide
theorem CI.loC {W wr : World} {M C : Nat} {na ta : Option Addr} {nl nc tl tc : Nat} {v : Int} {s n k : ByteArray} {mv : Value} {ms : List Mks} (h : CI W wr M C na ta nl nc tl tc v s n k mv ms) : W.heap.size ≤ C := by have := h.lo; omega
/-- A store into the card. -/
theorem CI.set {W wr : World} {M C : Nat} {na ta : Option Addr} {nl nc tl tc : Nat} {v : Int} {s n k : ByteArray} {mv : Value} {ms : List Mks} (h : CI W wr M C na ta nl nc tl tc v s n k mv ms) (n' : ByteArray) : CI W (wr.setCell ⟨C, 2, none⟩ (.string n')) M C na ta nl nc tl tc v s n' k mv ms where
  mak := by
    obtain ⟨h1, h2, n0, t0, h3, h4, hM⟩ := h.mak
    exact ⟨h1.setCell (h.loC) _, h2, n0, t0, h3, h4, by rw [heap_setCell_other _ _ _ _ (fun q => h.ne q.symm)]; exact hM⟩
  box := heap_setCell_same wr _ 2 _ _ _ h.box
  own := ownsRow_setCell_other h.own (row_ne1 h.box h.own (by decide)) _
  res := by rw [heap_setCell_other _ _ _ _ (Nat.ne_of_lt h.lo)]; exact h.res
  lo := h.lo
  ne := h.ne
  nr := h.nr
/-- A mark more. -/
theorem CI.put {W wr w' : World} {M C : Nat} {na ta : Option Addr} {nl nc tl tc : Nat} {v : Int} {s n k : ByteArray} {mv : Value} {ms : List Mks} {g cap : Nat} (h : CI W wr M C na ta nl nc tl tc v s n k mv ms) (m : Mks)
    (h1 : w'.ownsRow W.heap.size 73 3 (.slice (some ⟨g, 0, none⟩) (ms.length + 1) cap) (ms.length + 1) (mcells ms ++ [.string m.kind, .bool m.must, .string m.body])) (h2 : wr.grownBy w' mv.ownBlock) :
    CI W (w'.setCell ⟨C, 6, none⟩ (.slice (some ⟨g, 0, none⟩) (ms.length + 1) cap)) M C na ta nl nc tl tc v s n k (.slice (some ⟨g, 0, none⟩) (ms.length + 1) cap) (ms ++ [m]) ∧ w'.cell? ⟨C, 6, none⟩ = some mv ∧ w'.frozen? ⟨C, 6, none⟩ = false := by
  have hC : w'.heap[C]? = some (.cells (cdCells v s n k mv) 68 (0, 0)) := by rw [h2.block C (row_lt h.box) (fun q => row_ne1 h.box h.own (by decide) q.symm)]; exact h.box
  have hR : w'.heap[W.heap.size + 1]? = some (.cells cdZero 68 (0, 0)) := by rw [h2.block _ (row_lt h.res) (fun q => row_ne1 h.res h.own (by decide) q.symm)]; exact h.res
  refine ⟨⟨?_, heap_setCell_same w' _ 6 _ _ _ hC, ?_, by rw [heap_setCell_other _ _ _ _ (Nat.ne_of_lt h.lo)]; exact hR, h.lo, h.ne, h.nr⟩, by simp [World.cell?, hC], by simp [World.frozen?, hC]⟩
  · obtain ⟨b1, b2, n0, t0, h3, h4, hM⟩ := h.mak
    refine ⟨(b1.grown h2 b1.size (fun k hk => (h.own.lt k hk).1)).setCell (h.loC) _, b2, n0, t0, h3, h4, ?_⟩
    rw [heap_setCell_other _ _ _ _ (fun q => h.ne q.symm), h2.block M (row_lt hM) (fun q => row_ne1 hM h.own (by decide) q.symm)]
    exact hM
  · rw [mcells_append, List.length_append]
    exact ownsRow_setCell_other h1 (row_ne1 hC h1 (by decide)) _
theorem CI.c6 {W wr : World} {M C : Nat} {na ta : Option Addr} {nl nc tl tc : Nat} {v : Int} {s n k : ByteArray} {mv : Value} {ms : List Mks} (h : CI W wr M C na ta nl nc tl tc v s n k mv ms) : wr.cell? ⟨C, 6, none⟩ = some mv := by simp [World.cell?, h.box]
/-- What card answers. -/
def RetM (w : World) (e : Ending) (w' : World) : Prop :=
  ∃ (v : Int) (s n k : ByteArray) (ma : Option Addr) (m mc : Nat), e = .returned (cardV v s n tFrom tTill k (.slice ma m mc)) ∧ 0 ≤ v ∧ v ≤ 2 ∧ IntOk s ∧ BitsOk k ∧ s.size ≤ 20 ∧ k.size ≤ 20 ∧ n.size ≤ 1000 ∧ Below w.heap.size w w'
end Go.Proofs.YtkkicodfpekbgaaGreatDoor

/-! hallmarkkeep.Refused: what it answers. -/
namespace Go.Proofs.YtkkicodfpekbgaaGreatDoor
set_option linter.unusedSimpArgs false
set_option linter.unusedVariables false
open Go.RowKit

abbrev tBad1 : ByteArray := ⟨#[50, 48, 50, 52, 48, 51, 48, 49, 48, 48, 48, 48, 48, 48, 90]⟩
abbrev tBad2 : ByteArray := ⟨#[50, 48, 50, 51, 48, 50, 50, 57, 48, 48, 48, 48, 48, 48, 90]⟩
abbrev nName : ByteArray := ⟨#[110]⟩
theorem time_from : TimeOk tFrom := by
  refine ⟨by decide, by decide, ?_, ?_, by decide, by decide, by decide⟩
  · unfold DigTo; decide
  · unfold DayOk; decide
theorem time_till : TimeOk tTill := by
  refine ⟨by decide, by decide, ?_, ?_, by decide, by decide, by decide⟩
  · unfold DigTo; decide
  · unfold DayOk; decide
theorem time_bad : ¬ TimeOk tBad2 := fun h => by
  have := h.2.2.2.1.2.2.2
  revert this
  decide
theorem name_n : NameOk nName := by
  refine ⟨by decide, by decide, ?_⟩
  rw [utf8_valid]
  decide
theorem name_ff : ¬ NameOk ⟨#[255]⟩ := fun h => by
  have := h.2.2
  rw [utf8_valid] at this
  revert this
  decide
theorem int_bad : ¬ IntOk ⟨#[0, 1]⟩ := fun h => (h.2.2 (by decide)).1 (by decide)
theorem bits_bad : ¬ BitsOk ⟨#[8, 0]⟩ := fun h => absurd h.2.1 (by decide)

theorem PlanIn.below {w w' : World} {na ta : Option Addr} {nl tl : Nat} (h : PlanIn w na ta nl tl) (hb : Below w.heap.size w w') : PlanIn w' na ta nl tl where
  num := fun i hi => by
    obtain ⟨b, o, z, e, q, z0, z1⟩ := h.num i hi
    exact ⟨b, o, z, e, (hb.cell (lt_of_cell q)).trans q, z0, z1⟩
  txt := fun i hi => by
    obtain ⟨b, o, z, e, q, z1⟩ := h.txt i hi
    exact ⟨b, o, z, e, (hb.cell (lt_of_cell q)).trans q, z1⟩
  nle := h.nle
  tle := h.tle

set_option maxHeartbeats 4000000 in
set_option maxRecDepth 100000 in
theorem refused_any (w : World) (na ta : Option Addr) (nl nc tl tc : Nat) (wh : Int) (sn : Sn → Addr) (hl : Lay w sn) (hp : PlanIn w na ta nl tl) (h0 : -9223372036854775808 ≤ wh) (h1 : wh ≤ 9223372036854775807)
    (hcard : ∀ wq, PlanIn wq na ta nl tl → Calls Tryz.prog 29 #[.agg #[.slice na nl nc, .slice ta tl tc]] wq fun e w' => RetM wq e w') :
    Calls Tryz.prog 11 #[.agg #[.slice na nl nc, .slice ta tl tc], .int .i64 wh] w fun e w' => e = .returned (.bool true) ∧ Below w.heap.size w w' := by
  have HCD : Hid (∀ wq, Below w.heap.size w wq → Calls Tryz.prog 29 #[.agg #[.slice na nl nc, .slice ta tl tc]] wq fun e w' => RetM wq e w') := fun wq q => hcard wq (hp.below q)
  have HPK : Hid (∀ wq, Calls Tryz.prog 25 #[.int .i64 wh, .int .i64 9] wq fun e w' => e = .returned (.int .i64 (pk wh 9)) ∧ wq = w') := fun wq => pick_any wh 9 wq h0 h1 (by omega) (by omega)
  obtain ⟨p0, p1⟩ := pk_bd wh 9 (by omega)
  generalize pk wh 9 = q at HPK p0 p1
  have HW : Hid (∀ (v : Int) (s n f t k : ByteArray) (ma : Option Addr) (m mc : Nat) wq, Below w.heap.size w wq → CdZ s n f t k → ¬ CardOk v s n f t k m → Calls Tryz.prog 31 #[.agg #[.int .i64 v, .string s, .string n, .string f, .string t, .string k, .slice ma m mc]] wq fun e w' => e = .returned (.tuple #[.string ⟨#[]⟩, .int .i64 12]) ∧ Below wq.heap.size wq w') := fun v s n f t k ma m mc wq qb hz hn =>
    writeCard_no v s n f t k (.slice ma m mc) Sn.Card wq sn (hl.below qb).s fun w2 q2 => check_card v s n f t k ma m mc w2 sn ((hl.below qb).below q2) hz hn
  have HWM : Hid (∀ (v : Int) (s n f t k b : ByteArray) (g mc : Nat) wq, Below w.heap.size w wq → CdZ s n f t k → CardOk v s n f t k 1 → wq.heap[g]? = some (.cells #[.string star, .bool true, .string b] 73 (0, 0)) → Calls Tryz.prog 31 #[.agg #[.int .i64 v, .string s, .string n, .string f, .string t, .string k, .slice (some ⟨g, 0, none⟩) (1 : Nat) mc]] wq fun e w' => e = .returned (.tuple #[.string ⟨#[]⟩, .int .i64 13]) ∧ Below wq.heap.size wq w') := fun v s n f t k b g mc wq qb hz hn hg =>
    writeCard_no v s n f t k (.slice (some ⟨g, 0, none⟩) (1 : Nat) mc) Sn.Mark wq sn (hl.below qb).s fun w2 q2 => check_must v s n f t k b g mc w2 sn ((hl.below qb).below q2) hz hn (block_below hg q2)
  clear hl hp hcard h0 h1
  go_enter Tryz.func11, Tryz.ntmps11
  go_wp2_with fail
  refine (HCD.out _ ((Below.refl _ _).alloc (Nat.le_refl _) _)).mono ?_
  rintro e w1 ⟨v, s, n, k, ma, m, mc, he, v0, v2, hs, hk, zs, zk, zn, hb1⟩
  unfold cardV at he
  subst he
  have HB1 : Hid (Below w.heap.size w w1) := below_alloc hb1
  have HS : Hid (IntOk s) := hs
  have HK : Hid (BitsOk k) := hk
  have HBA : Hid (∀ o, Below w.heap.size w (w1.alloc o)) := fun o => HB1.out.alloc HB1.out.size o
  have HZ : Hid (∀ s' n' f' t' k' : ByteArray, s'.size ≤ 100 → n'.size ≤ 100 → f'.size ≤ 100 → t'.size ≤ 100 → k'.size ≤ 100 → CdZ s' n' f' t' k') := fun _ _ _ _ _ a b c d e => ⟨by omega, by omega, by omega, by omega, by omega⟩
  clear hs hk hb1 zn
  go_wp2_with fail
  refine (HPK.out _).mono ?_
  rintro e w2 ⟨rfl, rfl⟩
  have hq : q = 0 ∨ q = 1 ∨ q = 2 ∨ q = 3 ∨ q = 4 ∨ q = 5 ∨ q = 6 ∨ q = 7 ∨ q = 8 := by omega
  clear p0 p1
  rcases hq with rfl | rfl | rfl | rfl | rfl | rfl | rfl | rfl | rfl
  · go_wp2_with fail
    refine (HW.out 3 s nName tFrom tTill k ma m mc _ (HBA.out _) (HZ.out _ _ _ _ _ (by first | omega | decide) (by decide) (by decide) (by decide) (by first | omega | decide)) (fun c => absurd c.v2 (by decide))).mono ?_
    rintro e w3 ⟨rfl, hb3⟩
    have HB3 : Hid (Below w.heap.size w w3) := (HBA.out _).trans (hb3.mono (HBA.out _).size)
    clear hb3
    go_wp2
    go_ret
    exact ⟨rfl, HB3.out⟩
  · go_wp2_with fail
    refine (HW.out v ⟨#[0, 1]⟩ nName tFrom tTill k ma m mc _ (HBA.out _) (HZ.out _ _ _ _ _ (by first | omega | decide) (by decide) (by decide) (by decide) (by first | omega | decide)) (fun c => int_bad c.ser)).mono ?_
    rintro e w3 ⟨rfl, hb3⟩
    have HB3 : Hid (Below w.heap.size w w3) := (HBA.out _).trans (hb3.mono (HBA.out _).size)
    clear hb3
    go_wp2
    go_ret
    exact ⟨rfl, HB3.out⟩
  · go_wp2_with fail
    refine (HW.out v s ⟨#[]⟩ tFrom tTill k ma m mc _ (HBA.out _) (HZ.out _ _ _ _ _ (by first | omega | decide) (by decide) (by decide) (by decide) (by first | omega | decide)) (fun c => absurd c.nam.1 (by decide))).mono ?_
    rintro e w3 ⟨rfl, hb3⟩
    have HB3 : Hid (Below w.heap.size w w3) := (HBA.out _).trans (hb3.mono (HBA.out _).size)
    clear hb3
    go_wp2
    go_ret
    exact ⟨rfl, HB3.out⟩
  · go_wp2_with fail
    refine (HW.out v s ⟨#[255]⟩ tFrom tTill k ma m mc _ (HBA.out _) (HZ.out _ _ _ _ _ (by first | omega | decide) (by decide) (by decide) (by decide) (by first | omega | decide)) (fun c => name_ff c.nam)).mono ?_
    rintro e w3 ⟨rfl, hb3⟩
    have HB3 : Hid (Below w.heap.size w w3) := (HBA.out _).trans (hb3.mono (HBA.out _).size)
    clear hb3
    go_wp2
    go_ret
    exact ⟨rfl, HB3.out⟩
  · go_wp2_with fail
    refine (HW.out v s nName tBad1 tTill k ma m mc _ (HBA.out _) (HZ.out _ _ _ _ _ (by first | omega | decide) (by decide) (by decide) (by decide) (by first | omega | decide)) (fun c => absurd c.ord (by decide +kernel))).mono ?_
    rintro e w3 ⟨rfl, hb3⟩
    have HB3 : Hid (Below w.heap.size w w3) := (HBA.out _).trans (hb3.mono (HBA.out _).size)
    clear hb3
    go_wp2
    go_ret
    exact ⟨rfl, HB3.out⟩
  · go_wp2_with fail
    refine (HW.out v s nName tFrom tBad2 k ma m mc _ (HBA.out _) (HZ.out _ _ _ _ _ (by first | omega | decide) (by decide) (by decide) (by decide) (by first | omega | decide)) (fun c => time_bad c.til)).mono ?_
    rintro e w3 ⟨rfl, hb3⟩
    have HB3 : Hid (Below w.heap.size w w3) := (HBA.out _).trans (hb3.mono (HBA.out _).size)
    clear hb3
    go_wp2
    go_ret
    exact ⟨rfl, HB3.out⟩
  · go_wp2_with fail
    refine (HW.out v s nName tFrom tTill ⟨#[8, 0]⟩ ma m mc _ (HBA.out _) (HZ.out _ _ _ _ _ (by first | omega | decide) (by decide) (by decide) (by decide) (by first | omega | decide)) (fun c => bits_bad c.key)).mono ?_
    rintro e w3 ⟨rfl, hb3⟩
    have HB3 : Hid (Below w.heap.size w w3) := (HBA.out _).trans (hb3.mono (HBA.out _).size)
    clear hb3
    go_wp2
    go_ret
    exact ⟨rfl, HB3.out⟩
  · go_wp2_with fail
    refine (HW.out 1 s nName tFrom tTill k (some ⟨w1.heap.size + 1, 0, none⟩) 1 1 _ ((HBA.out _).alloc (HBA.out _).size _) (HZ.out _ _ _ _ _ (by omega) (by decide) (by decide) (by decide) (by omega)) (fun c => absurd c.mks (by decide))).mono ?_
    rintro e w3 ⟨rfl, hb3⟩
    have HB3 : Hid (Below w.heap.size w w3) := ((HBA.out _).alloc (HBA.out _).size _).trans (hb3.mono ((HBA.out _).alloc (HBA.out _).size _).size)
    clear hb3
    go_wp2
    go_ret
    exact ⟨rfl, HB3.out⟩
  · go_wp2_with fail
    refine (HWM.out 2 s nName tFrom tTill k ⟨#[]⟩ (w1.heap.size + 1) 1 _ ((HBA.out _).alloc (HBA.out _).size _) (HZ.out _ _ _ _ _ (by omega) (by decide) (by decide) (by decide) (by omega)) ⟨by decide, by decide, HS.out, name_n, time_from, time_till, by decide +kernel, HK.out, by decide⟩ (by simpa using heap_alloc_new (w1.alloc _) _)).mono ?_
    rintro e w3 ⟨rfl, hb3⟩
    have HB3 : Hid (Below w.heap.size w w3) := ((HBA.out _).alloc (HBA.out _).size _).trans (hb3.mono ((HBA.out _).alloc (HBA.out _).size _).size)
    clear hb3
    go_wp2
    go_ret
    exact ⟨rfl, HB3.out⟩
end Go.Proofs.YtkkicodfpekbgaaGreatDoor
