/-
  errors.Is over the program's own Fault (a struct by value that wraps a sentinel): what it answers, by contracts; then the number by which a call answers.
-/
import Derived.Test.YtjceeljaljdmoaaGreatDoorRows
import Derived.WalkKit
import Derived.WalkSpells
import Derived.WalkLawsBesides
import Derived.LaidEql
import Derived.Stop.Asserts
import Derived.RowKitTokens
namespace Go.Proofs.YtjceeljaljdmoaaGreatDoor
open Go.RowKit Go.Extern.Stop Go.Stop Go.Extern

theorem Tryz.isTypeOf (v : Value) (w : World) : (Extern.ReflectliteType.typeOf #[.iface 254 v]).run Tryz.prog w = .ok (.iface 181 (.agg #[.pointer (some ⟨17, 254, none⟩)])) w := by kernel_rfl
/-- The model's own row for (rtype).Comparable. -/
def compEntry : Array Value → Sem Value := Extern.ReflectliteType.method fun t => do Extern.Rtype.noPackHeld "Comparable" t; pure (.bool (← typeInfo t).comparable)
theorem Tryz.isComparable (w : World) : (compEntry #[.agg #[.pointer (some ⟨17, 254, none⟩)]]).run Tryz.prog w = .ok (.bool true) w := by kernel_rfl
theorem Tryz.callComparable (w : World) : (callFunc 198 #[.agg #[.pointer (some ⟨17, 254, none⟩)]]).run Tryz.prog w = .ok (.value (.bool true)) w := by
  rw [@run_callFunc_extern Tryz.prog 198 _ compEntry Tryz.func198 (by kernel_rfl) (by kernel_rfl) (by kernel_rfl) (by kernel_rfl), Tryz.isComparable]
  rfl
theorem Tryz.callTypeOf (v : Value) (w : World) : (callFunc 61 #[.iface 254 v]).run Tryz.prog w = .ok (.value (.iface 181 (.agg #[.pointer (some ⟨17, 254, none⟩)]))) w := by
  rw [@run_callFunc_extern Tryz.prog 61 _ Extern.ReflectliteType.typeOf Tryz.func61 (by kernel_rfl) (by kernel_rfl) (by kernel_rfl) (by kernel_rfl), Tryz.isTypeOf]
  rfl
theorem Tryz.isMethodComparable (v : Value) (w : World) : (Go.method 387 181 v "Comparable").run Tryz.prog w = .ok (198, v) w := by kernel_rfl
theorem Tryz.isComp : (Tryz.prog.info? 254).map (·.comparable) = some true := by kernel_rfl
theorem Tryz.isSize : (Tryz.prog.info? 275).map (·.size) = some 1 := by kernel_rfl
theorem Tryz.noIsE (v : Value) (xT : TypeId) (w : World) : (Instr.typeAssert (.iface 254 v) xT 183 true).run Tryz.prog w = .ok (.tuple #[.nilIface, .bool false]) w := run_typeAssert_lacksB Tryz.underlying183 (by kernel_rfl) (by kernel_rfl) v xT w
theorem Tryz.noUnwrapE (v : Value) (xT : TypeId) (w : World) : (Instr.typeAssert (.iface 254 v) xT 186 true).run Tryz.prog w = .ok (.tuple #[.nilIface, .bool false]) w := run_typeAssert_lacksB Tryz.underlying186 (by kernel_rfl) (by kernel_rfl) v xT w
theorem Tryz.noUnwrapsE (v : Value) (xT : TypeId) (w : World) : (Instr.typeAssert (.iface 254 v) xT 188 true).run Tryz.prog w = .ok (.tuple #[.nilIface, .bool false]) w := run_typeAssert_lacksB Tryz.underlying188 (by kernel_rfl) (by kernel_rfl) v xT w
theorem Tryz.noIsF (v : Value) (xT : TypeId) (w : World) : (Instr.typeAssert (.iface 129 v) xT 183 true).run Tryz.prog w = .ok (.tuple #[.nilIface, .bool false]) w := run_typeAssert_lacksB Tryz.underlying183 (by kernel_rfl) (by kernel_rfl) v xT w
theorem Tryz.hasUnwrapF (v : Value) (xT : TypeId) (w : World) : (Instr.typeAssert (.iface 129 v) xT 186 true).run Tryz.prog w = .ok (.tuple #[.iface 129 v, .bool true]) w := run_typeAssert_hasB Tryz.underlying186 (by kernel_rfl) v xT w
theorem Tryz.methodUnwrap (v : Value) (w : World) : (Go.method 387 129 v "Unwrap").run Tryz.prog w = .ok (192, v) w := by kernel_rfl

/-- The error that wraps the sentinel at a, at a place. -/
def fault (p : Int) (a : Addr) : Value := .iface 129 (.agg #[.int .i64 p, .iface 254 (.pointer (some a))])

set_option maxHeartbeats 1000000 in
set_option maxRecDepth 100000 in
theorem is_same (p : Int) (b : Addr) (w : World) :
    Calls Tryz.prog 38 #[fault p b, .iface 254 (.pointer (some b))] w fun e w' => e = .returned (.bool true) ∧ Below w.heap.size w w' := by
  obtain ⟨i, hi, hcmp⟩ := Option.map_eq_some_iff.1 Tryz.isComp
  obtain ⟨j, hj, hjs⟩ := Option.map_eq_some_iff.1 Tryz.isSize
  have h8 := Tryz.callTypeOf
  have h32 := Tryz.callComparable
  have mR := Tryz.isMethodComparable
  have nF := Tryz.noIsF
  have uF := Tryz.hasUnwrapF
  have mU := Tryz.methodUnwrap
  have heq := fun w => run_eql_iface_ptr_same (P := Tryz.prog) w b Tryz.underlying65 Tryz.underlying254 hi hcmp hj
  have hty := fun x w => run_eql_iface_types (P := Tryz.prog) 129 254 x (.pointer (some b)) Tryz.underlying65 (by decide) w
  unfold fault
  go_enter Tryz.func38, Tryz.ntmps38
  go_wp2
  refine wp_loop_rounds 2 ?_
  rw [rounds_succ]
  go_wp2
  rw [rounds_succ]
  go_wp2
  go_ret
  exact ⟨rfl, (Below.refl _ _).alloc (Nat.le_refl _) _⟩

set_option maxHeartbeats 1000000 in
set_option maxRecDepth 100000 in
theorem is_other (p : Int) (a b : Addr) (ca cb : Array Value) (ta tb : TypeId) (w : World) (hne : a ≠ b) (ha : w.heap[a.block]? = some (.cells ca ta (0, 0))) (hb : w.heap[b.block]? = some (.cells cb tb (0, 0))) :
    Calls Tryz.prog 38 #[fault p a, .iface 254 (.pointer (some b))] w fun e w' => e = .returned (.bool false) ∧ Below w.heap.size w w' := by
  obtain ⟨i, hi, hcmp⟩ := Option.map_eq_some_iff.1 Tryz.isComp
  obtain ⟨j, hj, hjs⟩ := Option.map_eq_some_iff.1 Tryz.isSize
  have lt : ∀ {k : Nat} {o : Obj}, w.heap[k]? = some o → k < w.heap.size := fun {k o} h => by
    rcases Nat.lt_or_ge k w.heap.size with h' | h'
    · exact h'
    · rw [Array.getElem?_eq_none h'] at h; cases h
  have heq := fun o => run_eql_iface_ptr_other (P := Tryz.prog) (w.alloc o) Tryz.underlying65 Tryz.underlying254 hi hcmp hj (by rw [hjs]; decide) hne ((Below.heap_alloc w o _ (lt ha)).trans ha) ((Below.heap_alloc w o _ (lt hb)).trans hb)
  clear lt ha hb
  have h8 := Tryz.callTypeOf
  have h32 := Tryz.callComparable
  have mR := Tryz.isMethodComparable
  have nF := Tryz.noIsF
  have uF := Tryz.hasUnwrapF
  have mU := Tryz.methodUnwrap
  have nE := Tryz.noIsE
  have uE := Tryz.noUnwrapE
  have vE := Tryz.noUnwrapsE
  have hty := fun x w => run_eql_iface_types (P := Tryz.prog) 129 254 x (.pointer (some b)) Tryz.underlying65 (by decide) w
  unfold fault
  go_enter Tryz.func38, Tryz.ntmps38
  go_wp2
  refine wp_loop_rounds 2 ?_
  rw [rounds_succ]
  go_wp2
  rw [rounds_succ]
  go_wp2
  go_ret
  exact ⟨rfl, (Below.refl _ _).alloc (Nat.le_refl _) _⟩

/-- errors.Is of such an error against a sentinel. -/
theorem is_any (p : Int) (a b : Addr) (w : World) (ha : ∃ c t, w.heap[a.block]? = some (.cells c t (0, 0))) (hb : ∃ c t, w.heap[b.block]? = some (.cells c t (0, 0))) :
    Calls Tryz.prog 38 #[fault p a, .iface 254 (.pointer (some b))] w fun e w' => e = .returned (.bool (decide (a = b))) ∧ Below w.heap.size w w' := by
  by_cases h : a = b
  · subst h
    simpa using is_same p a w
  · obtain ⟨c, t, ha⟩ := ha
    obtain ⟨c', t', hb⟩ := hb
    simpa [h] using is_other p a b c c' t t' w h ha hb

end Go.Proofs.YtjceeljaljdmoaaGreatDoor
