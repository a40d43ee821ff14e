/-
  errors.Is over the program's own Fault (a struct by value that wraps a sentinel): what it answers, by contracts; then the number by which a call answers.
-/
import Derived.Test.YtjdebakjocekfaaDoorRows
import Derived.WalkKit
import Derived.WalkSpells
import Derived.WalkLawsBesides
import Derived.LaidEql
import Derived.Stop.Asserts
import Derived.RowKitTokens
namespace Go.Proofs.YtjdebakjocekfaaDoor
open Go.RowKit Go.Extern.Stop Go.Stop Go.Extern

theorem Tryd.isTypeOf (v : Value) (w : World) : (Extern.ReflectliteType.typeOf #[.iface 150 v]).run Tryd.prog w = .ok (.iface 104 (.agg #[.pointer (some ⟨9, 150, none⟩)])) w := by kernel_rfl
/-- The model's own row for (rtype).Comparable. -/
def compEntry : Array Value → Sem Value := Extern.ReflectliteType.method fun t => do Extern.Rtype.noPackHeld "Comparable" t; pure (.bool (← typeInfo t).comparable)
theorem Tryd.isComparable (w : World) : (compEntry #[.agg #[.pointer (some ⟨9, 150, none⟩)]]).run Tryd.prog w = .ok (.bool true) w := by kernel_rfl
theorem Tryd.callComparable (w : World) : (callFunc 116 #[.agg #[.pointer (some ⟨9, 150, none⟩)]]).run Tryd.prog w = .ok (.value (.bool true)) w := by
  rw [@run_callFunc_extern Tryd.prog 116 _ compEntry Tryd.func116 (by kernel_rfl) (by kernel_rfl) (by kernel_rfl) (by kernel_rfl), Tryd.isComparable]
  rfl
theorem Tryd.callTypeOf (v : Value) (w : World) : (callFunc 41 #[.iface 150 v]).run Tryd.prog w = .ok (.value (.iface 104 (.agg #[.pointer (some ⟨9, 150, none⟩)]))) w := by
  rw [@run_callFunc_extern Tryd.prog 41 _ Extern.ReflectliteType.typeOf Tryd.func41 (by kernel_rfl) (by kernel_rfl) (by kernel_rfl) (by kernel_rfl), Tryd.isTypeOf]
  rfl
theorem Tryd.isMethodComparable (v : Value) (w : World) : (Go.method 288 104 v "Comparable").run Tryd.prog w = .ok (116, v) w := by kernel_rfl
theorem Tryd.isComp : (Tryd.prog.info? 150).map (·.comparable) = some true := by kernel_rfl
theorem Tryd.isSize : (Tryd.prog.info? 176).map (·.size) = some 1 := by kernel_rfl
theorem Tryd.noIsE (v : Value) (xT : TypeId) (w : World) : (Instr.typeAssert (.iface 150 v) xT 106 true).run Tryd.prog w = .ok (.tuple #[.nilIface, .bool false]) w := run_typeAssert_lacksB Tryd.underlying106 (by kernel_rfl) (by kernel_rfl) v xT w
theorem Tryd.noUnwrapE (v : Value) (xT : TypeId) (w : World) : (Instr.typeAssert (.iface 150 v) xT 109 true).run Tryd.prog w = .ok (.tuple #[.nilIface, .bool false]) w := run_typeAssert_lacksB Tryd.underlying109 (by kernel_rfl) (by kernel_rfl) v xT w
theorem Tryd.noUnwrapsE (v : Value) (xT : TypeId) (w : World) : (Instr.typeAssert (.iface 150 v) xT 111 true).run Tryd.prog w = .ok (.tuple #[.nilIface, .bool false]) w := run_typeAssert_lacksB Tryd.underlying111 (by kernel_rfl) (by kernel_rfl) v xT w
theorem Tryd.noIsF (v : Value) (xT : TypeId) (w : World) : (Instr.typeAssert (.iface 85 v) xT 106 true).run Tryd.prog w = .ok (.tuple #[.nilIface, .bool false]) w := run_typeAssert_lacksB Tryd.underlying106 (by kernel_rfl) (by kernel_rfl) v xT w
theorem Tryd.hasUnwrapF (v : Value) (xT : TypeId) (w : World) : (Instr.typeAssert (.iface 85 v) xT 109 true).run Tryd.prog w = .ok (.tuple #[.iface 85 v, .bool true]) w := run_typeAssert_hasB Tryd.underlying109 (by kernel_rfl) v xT w
theorem Tryd.methodUnwrap (v : Value) (w : World) : (Go.method 288 85 v "Unwrap").run Tryd.prog w = .ok (112, v) w := by kernel_rfl

/-- The error that wraps the sentinel at a, at a place. -/
def fault (p : Int) (a : Addr) : Value := .iface 85 (.agg #[.int .i64 p, .iface 150 (.pointer (some a))])

set_option maxHeartbeats 1000000 in
set_option maxRecDepth 100000 in
theorem is_same (p : Int) (b : Addr) (w : World) :
    Calls Tryd.prog 28 #[fault p b, .iface 150 (.pointer (some b))] w fun e w' => e = .returned (.bool true) ∧ Below w.heap.size w w' := by
  obtain ⟨i, hi, hcmp⟩ := Option.map_eq_some_iff.1 Tryd.isComp
  obtain ⟨j, hj, hjs⟩ := Option.map_eq_some_iff.1 Tryd.isSize
  have h8 := Tryd.callTypeOf
  have h32 := Tryd.callComparable
  have mR := Tryd.isMethodComparable
  have nF := Tryd.noIsF
  have uF := Tryd.hasUnwrapF
  have mU := Tryd.methodUnwrap
  have heq := fun w => run_eql_iface_ptr_same (P := Tryd.prog) w b Tryd.underlying44 Tryd.underlying150 hi hcmp hj
  have hty := fun x w => run_eql_iface_types (P := Tryd.prog) 85 150 x (.pointer (some b)) Tryd.underlying44 (by decide) w
  unfold fault
  go_enter Tryd.func28, Tryd.ntmps28
  go_wp2
  refine wp_loop_rounds 2 ?_
  rw [rounds_succ]
  go_wp2
  rw [rounds_succ]
  go_wp2
  go_ret
  exact ⟨rfl, (Below.refl _ _).alloc (Nat.le_refl _) _⟩

set_option maxHeartbeats 1000000 in
set_option maxRecDepth 100000 in
theorem is_other (p : Int) (a b : Addr) (ca cb : Array Value) (ta tb : TypeId) (w : World) (hne : a ≠ b) (ha : w.heap[a.block]? = some (.cells ca ta (0, 0))) (hb : w.heap[b.block]? = some (.cells cb tb (0, 0))) :
    Calls Tryd.prog 28 #[fault p a, .iface 150 (.pointer (some b))] w fun e w' => e = .returned (.bool false) ∧ Below w.heap.size w w' := by
  obtain ⟨i, hi, hcmp⟩ := Option.map_eq_some_iff.1 Tryd.isComp
  obtain ⟨j, hj, hjs⟩ := Option.map_eq_some_iff.1 Tryd.isSize
  have lt : ∀ {k : Nat} {o : Obj}, w.heap[k]? = some o → k < w.heap.size := fun {k o} h => by
    rcases Nat.lt_or_ge k w.heap.size with h' | h'
    · exact h'
    · rw [Array.getElem?_eq_none h'] at h; cases h
  have heq := fun o => run_eql_iface_ptr_other (P := Tryd.prog) (w.alloc o) Tryd.underlying44 Tryd.underlying150 hi hcmp hj (by rw [hjs]; decide) hne ((Below.heap_alloc w o _ (lt ha)).trans ha) ((Below.heap_alloc w o _ (lt hb)).trans hb)
  clear lt ha hb
  have h8 := Tryd.callTypeOf
  have h32 := Tryd.callComparable
  have mR := Tryd.isMethodComparable
  have nF := Tryd.noIsF
  have uF := Tryd.hasUnwrapF
  have mU := Tryd.methodUnwrap
  have nE := Tryd.noIsE
  have uE := Tryd.noUnwrapE
  have vE := Tryd.noUnwrapsE
  have hty := fun x w => run_eql_iface_types (P := Tryd.prog) 85 150 x (.pointer (some b)) Tryd.underlying44 (by decide) w
  unfold fault
  go_enter Tryd.func28, Tryd.ntmps28
  go_wp2
  refine wp_loop_rounds 2 ?_
  rw [rounds_succ]
  go_wp2
  rw [rounds_succ]
  go_wp2
  go_ret
  exact ⟨rfl, (Below.refl _ _).alloc (Nat.le_refl _) _⟩

/-- The three sentinels lie where the variables point, at three places. -/
structure Sent (w : World) (aE aT aL : Addr) : Prop where
  cE : w.cell? ⟨0, 0, none⟩ = some (.iface 150 (.pointer (some aE)))
  cT : w.cell? ⟨1, 0, none⟩ = some (.iface 150 (.pointer (some aT)))
  cL : w.cell? ⟨2, 0, none⟩ = some (.iface 150 (.pointer (some aL)))
  rE : ∃ c t, w.heap[aE.block]? = some (.cells c t (0, 0))
  rT : ∃ c t, w.heap[aT.block]? = some (.cells c t (0, 0))
  rL : ∃ c t, w.heap[aL.block]? = some (.cells c t (0, 0))
  ET : aE ≠ aT
  EL : aE ≠ aL
  TL : aT ≠ aL
theorem cell_lt {w : World} {a : Addr} {v : Value} (h : w.cell? a = some v) : a.block < w.heap.size := by
  rcases Nat.lt_or_ge a.block w.heap.size with h' | h'
  · exact h'
  · simp [World.cell?, Array.getElem?_eq_none h'] at h
theorem row_lt {w : World} {k : Nat} {o : Obj} (h : w.heap[k]? = some o) : k < w.heap.size := by
  rcases Nat.lt_or_ge k w.heap.size with h' | h'
  · exact h'
  · rw [Array.getElem?_eq_none h'] at h; cases h
theorem Sent.below {w w' : World} {aE aT aL : Addr} (h : Sent w aE aT aL) (hb : Below w.heap.size w w') : Sent w' aE aT aL where
  cE := (hb.cell (cell_lt h.cE)).trans h.cE
  cT := (hb.cell (cell_lt h.cT)).trans h.cT
  cL := (hb.cell (cell_lt h.cL)).trans h.cL
  rE := by obtain ⟨c, t, e⟩ := h.rE; exact ⟨c, t, (hb.block _ (row_lt e)).trans e⟩
  rT := by obtain ⟨c, t, e⟩ := h.rT; exact ⟨c, t, (hb.block _ (row_lt e)).trans e⟩
  rL := by obtain ⟨c, t, e⟩ := h.rL; exact ⟨c, t, (hb.block _ (row_lt e)).trans e⟩
  ET := h.ET
  EL := h.EL
  TL := h.TL
theorem bcell {W w1 : World} (hb : Below W.heap.size W w1) : (∀ b o, b < W.heap.size → w1.cell? ⟨b, o, none⟩ = W.cell? ⟨b, o, none⟩) ∧ (∀ b o, b < W.heap.size → w1.frozen? ⟨b, o, none⟩ = W.frozen? ⟨b, o, none⟩) :=
  ⟨fun b o h => hb.cell (p := ⟨b, o, none⟩) h, fun b o h => hb.frozen (p := ⟨b, o, none⟩) h⟩

/-- errors.Is of such an error against a sentinel. -/
theorem is_any (p : Int) (a b : Addr) (w : World) (ha : ∃ c t, w.heap[a.block]? = some (.cells c t (0, 0))) (hb : ∃ c t, w.heap[b.block]? = some (.cells c t (0, 0))) :
    Calls Tryd.prog 28 #[fault p a, .iface 150 (.pointer (some b))] w fun e w' => e = .returned (.bool (decide (a = b))) ∧ Below w.heap.size w w' := by
  by_cases h : a = b
  · subst h
    simpa using is_same p a w
  · obtain ⟨c, t, ha⟩ := ha
    obtain ⟨c', t', hb⟩ := hb
    simpa [h] using is_other p a b c c' t t' w h ha hb

end Go.Proofs.YtjdebakjocekfaaDoor
