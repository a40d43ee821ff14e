/-
  Several texts in one:
  errors.Is over the program's own Fault (a struct by value that wraps a sentinel): what it answers, by contracts; then the number by which a call answers.
  The package's errors: which there are, and that each variable holds one of its own.
  The document's reader in memory: its block, the tree that it owns; stop, put.
  The number by which a call answers an error: hallmark.number.
  readLength: what it answers.
  element.Read: what it answers.
  element.Read from the front; hallmark.number of what it answers.
  string of a slice of the call's own.
  The document's Length.
-/
import Derived.Test.YtkkicodfpekbgaaGreatDoorRows
import Derived.WalkKit
import Derived.WalkSpells
import Derived.WalkLawsBesides
import Derived.LaidEql
import Derived.Stop.Asserts
import Derived.RowKitTokens
import Derived.Test.YtkkicodfpekbgaaGreatDoorJ1
import Derived.Test.YtkkicodfpekbgaaGreatDoorJ0
import Derived.BigQuiet
import Derived.Deep.QuietTactic
import Derived.Deep.RegionWith
import Derived.Laws.IdiomStrings
/-! errors.Is over the program's own Fault (a struct by value that wraps a sentinel): what it answers, by contracts; then the number by which a call answers. -/
namespace Go.Proofs.YtkkicodfpekbgaaGreatDoor
set_option linter.unusedSimpArgs false
set_option linter.unusedVariables false
open Go.RowKit Go.Extern.Stop Go.Stop Go.Extern

theorem Tryz.isTypeOf (v : Value) (w : World) : (Extern.ReflectliteType.typeOf #[.iface 291 v]).run Tryz.prog w = .ok (.iface 220 (.agg #[.pointer (some ⟨19, 291, none⟩)])) w := by kernel_rfl
/-- The model's own row for (rtype).Comparable. -/
def compEntry : Array Value → Sem Value := Extern.ReflectliteType.method fun t => do Extern.Rtype.noPackHeld "Comparable" t; pure (.bool (← typeInfo t).comparable)
theorem Tryz.isComparable (w : World) : (compEntry #[.agg #[.pointer (some ⟨19, 291, none⟩)]]).run Tryz.prog w = .ok (.bool true) w := by kernel_rfl
theorem Tryz.callComparable (w : World) : (callFunc 237 #[.agg #[.pointer (some ⟨19, 291, none⟩)]]).run Tryz.prog w = .ok (.value (.bool true)) w := by
  rw [@run_callFunc_extern Tryz.prog 237 _ compEntry Tryz.func237 (by kernel_rfl) (by kernel_rfl) (by kernel_rfl) (by kernel_rfl), Tryz.isComparable]
  rfl
theorem Tryz.callTypeOf (v : Value) (w : World) : (callFunc 90 #[.iface 291 v]).run Tryz.prog w = .ok (.value (.iface 220 (.agg #[.pointer (some ⟨19, 291, none⟩)]))) w := by
  rw [@run_callFunc_extern Tryz.prog 90 _ Extern.ReflectliteType.typeOf Tryz.func90 (by kernel_rfl) (by kernel_rfl) (by kernel_rfl) (by kernel_rfl), Tryz.isTypeOf]
  rfl
theorem Tryz.isMethodComparable (v : Value) (w : World) : (Go.method 424 220 v "Comparable").run Tryz.prog w = .ok (237, v) w := by kernel_rfl
theorem Tryz.isComp : (Tryz.prog.info? 291).map (·.comparable) = some true := by kernel_rfl
theorem Tryz.isSize : (Tryz.prog.info? 312).map (·.size) = some 1 := by kernel_rfl
theorem Tryz.noIsE (v : Value) (xT : TypeId) (w : World) : (Instr.typeAssert (.iface 291 v) xT 222 true).run Tryz.prog w = .ok (.tuple #[.nilIface, .bool false]) w := run_typeAssert_lacksB Tryz.underlying222 (by kernel_rfl) (by kernel_rfl) v xT w
theorem Tryz.noUnwrapE (v : Value) (xT : TypeId) (w : World) : (Instr.typeAssert (.iface 291 v) xT 225 true).run Tryz.prog w = .ok (.tuple #[.nilIface, .bool false]) w := run_typeAssert_lacksB Tryz.underlying225 (by kernel_rfl) (by kernel_rfl) v xT w
theorem Tryz.noUnwrapsE (v : Value) (xT : TypeId) (w : World) : (Instr.typeAssert (.iface 291 v) xT 227 true).run Tryz.prog w = .ok (.tuple #[.nilIface, .bool false]) w := run_typeAssert_lacksB Tryz.underlying227 (by kernel_rfl) (by kernel_rfl) v xT w
theorem Tryz.noIsF (v : Value) (xT : TypeId) (w : World) : (Instr.typeAssert (.iface 155 v) xT 222 true).run Tryz.prog w = .ok (.tuple #[.nilIface, .bool false]) w := run_typeAssert_lacksB Tryz.underlying222 (by kernel_rfl) (by kernel_rfl) v xT w
theorem Tryz.hasUnwrapF (v : Value) (xT : TypeId) (w : World) : (Instr.typeAssert (.iface 155 v) xT 225 true).run Tryz.prog w = .ok (.tuple #[.iface 155 v, .bool true]) w := run_typeAssert_hasB Tryz.underlying225 (by kernel_rfl) v xT w
theorem Tryz.methodUnwrap (v : Value) (w : World) : (Go.method 424 155 v "Unwrap").run Tryz.prog w = .ok (231, v) w := by kernel_rfl

/-- The error that wraps the sentinel at a, at a place. -/
def fault (p : Int) (a : Addr) : Value := .iface 155 (.agg #[.int .i64 p, .iface 291 (.pointer (some a))])

set_option maxHeartbeats 1000000 in
set_option maxRecDepth 100000 in
theorem is_same (p : Int) (b : Addr) (w : World) :
    Calls Tryz.prog 59 #[fault p b, .iface 291 (.pointer (some b))] w fun e w' => e = .returned (.bool true) ∧ Below w.heap.size w w' := by
  obtain ⟨i, hi, hcmp⟩ := Option.map_eq_some_iff.1 Tryz.isComp
  obtain ⟨j, hj, hjs⟩ := Option.map_eq_some_iff.1 Tryz.isSize
  have h8 := Tryz.callTypeOf
  have h32 := Tryz.callComparable
  have mR := Tryz.isMethodComparable
  have nF := Tryz.noIsF
  have uF := Tryz.hasUnwrapF
  have mU := Tryz.methodUnwrap
  have heq := fun w => run_eql_iface_ptr_same (P := Tryz.prog) w b Tryz.underlying85 Tryz.underlying291 hi hcmp hj
  have hty := fun x w => run_eql_iface_types (P := Tryz.prog) 155 291 x (.pointer (some b)) Tryz.underlying85 (by decide) w
  unfold fault
  go_enter Tryz.func59, Tryz.ntmps59
  go_wp2
  refine wp_loop_rounds 2 ?_
  rw [rounds_succ]
  go_wp2
  rw [rounds_succ]
  go_wp2
  go_ret
  exact ⟨rfl, (Below.refl _ _).alloc (Nat.le_refl _) _⟩

set_option maxHeartbeats 1000000 in
set_option maxRecDepth 100000 in
theorem is_other (p : Int) (a b : Addr) (ca cb : Array Value) (ta tb : TypeId) (w : World) (hne : a ≠ b) (ha : w.heap[a.block]? = some (.cells ca ta (0, 0))) (hb : w.heap[b.block]? = some (.cells cb tb (0, 0))) :
    Calls Tryz.prog 59 #[fault p a, .iface 291 (.pointer (some b))] w fun e w' => e = .returned (.bool false) ∧ Below w.heap.size w w' := by
  obtain ⟨i, hi, hcmp⟩ := Option.map_eq_some_iff.1 Tryz.isComp
  obtain ⟨j, hj, hjs⟩ := Option.map_eq_some_iff.1 Tryz.isSize
  have lt : ∀ {k : Nat} {o : Obj}, w.heap[k]? = some o → k < w.heap.size := fun {k o} h => by
    rcases Nat.lt_or_ge k w.heap.size with h' | h'
    · exact h'
    · rw [Array.getElem?_eq_none h'] at h; cases h
  have heq := fun o => run_eql_iface_ptr_other (P := Tryz.prog) (w.alloc o) Tryz.underlying85 Tryz.underlying291 hi hcmp hj (by rw [hjs]; decide) hne ((Below.heap_alloc w o _ (lt ha)).trans ha) ((Below.heap_alloc w o _ (lt hb)).trans hb)
  clear lt ha hb
  have h8 := Tryz.callTypeOf
  have h32 := Tryz.callComparable
  have mR := Tryz.isMethodComparable
  have nF := Tryz.noIsF
  have uF := Tryz.hasUnwrapF
  have mU := Tryz.methodUnwrap
  have nE := Tryz.noIsE
  have uE := Tryz.noUnwrapE
  have vE := Tryz.noUnwrapsE
  have hty := fun x w => run_eql_iface_types (P := Tryz.prog) 155 291 x (.pointer (some b)) Tryz.underlying85 (by decide) w
  unfold fault
  go_enter Tryz.func59, Tryz.ntmps59
  go_wp2
  refine wp_loop_rounds 2 ?_
  rw [rounds_succ]
  go_wp2
  rw [rounds_succ]
  go_wp2
  go_ret
  exact ⟨rfl, (Below.refl _ _).alloc (Nat.le_refl _) _⟩

/-- errors.Is of such an error against a sentinel. -/
theorem is_any (p : Int) (a b : Addr) (w : World) (ha : ∃ c t, w.heap[a.block]? = some (.cells c t (0, 0))) (hb : ∃ c t, w.heap[b.block]? = some (.cells c t (0, 0))) :
    Calls Tryz.prog 59 #[fault p a, .iface 291 (.pointer (some b))] w fun e w' => e = .returned (.bool (decide (a = b))) ∧ Below w.heap.size w w' := by
  by_cases h : a = b
  · subst h
    simpa using is_same p a w
  · obtain ⟨c, t, ha⟩ := ha
    obtain ⟨c', t', hb⟩ := hb
    simpa [h] using is_other p a b c c' t t' w h ha hb

end Go.Proofs.YtkkicodfpekbgaaGreatDoor

/-! The package's errors: which there are, and that each variable holds one of its own. -/
namespace Go.Proofs.YtkkicodfpekbgaaGreatDoor
set_option linter.unusedSimpArgs false
set_option linter.unusedVariables false
open Go.RowKit

/-- The errors that hallmark.number asks for, in its order. -/
abbrev Sn := Fin 12
def Sn.Long : Sn := ⟨0, by decide⟩
def Sn.End : Sn := ⟨1, by decide⟩
def Sn.Tag : Sn := ⟨2, by decide⟩
def Sn.Length : Sn := ⟨3, by decide⟩
def Sn.Value : Sn := ⟨4, by decide⟩
def Sn.More : Sn := ⟨5, by decide⟩
def Sn.Order : Sn := ⟨6, by decide⟩
def Sn.Default : Sn := ⟨7, by decide⟩
def Sn.Deep : Sn := ⟨8, by decide⟩
def Sn.Tree : Sn := ⟨9, by decide⟩
def Sn.Card : Sn := ⟨10, by decide⟩
def Sn.Mark : Sn := ⟨11, by decide⟩
theorem Sn.all {P : Sn → Prop} (h0 : P .Long) (h1 : P .End) (h2 : P .Tag) (h3 : P .Length) (h4 : P .Value) (h5 : P .More) (h6 : P .Order) (h7 : P .Default) (h8 : P .Deep) (h9 : P .Tree) (h10 : P .Card) (h11 : P .Mark) : ∀ s, P s
  | ⟨0, _⟩ => h0
  | ⟨1, _⟩ => h1
  | ⟨2, _⟩ => h2
  | ⟨3, _⟩ => h3
  | ⟨4, _⟩ => h4
  | ⟨5, _⟩ => h5
  | ⟨6, _⟩ => h6
  | ⟨7, _⟩ => h7
  | ⟨8, _⟩ => h8
  | ⟨9, _⟩ => h9
  | ⟨10, _⟩ => h10
  | ⟨11, _⟩ => h11
  | ⟨n + 12, h⟩ => absurd h (by omega)
/-- The variable of each. -/
def Sn.var (s : Sn) : Nat := [0, 1, 2, 3, 4, 5, 6, 7, 8, 9, 10, 11].getD s.val 0
/-- The number by which each is answered. -/
def Sn.code (s : Sn) : Int := [2, 3, 4, 5, 6, 7, 8, 9, 10, 11, 12, 13].getD s.val 0

/-- The errors lie where the variables point, each at a place of its own. -/
structure Sent (w : World) (sn : Sn → Addr) : Prop where
  c : ∀ s : Sn, w.cell? ⟨s.var, 0, none⟩ = some (.iface 291 (.pointer (some (sn s))))
  r : ∀ s : Sn, ∃ c t, w.heap[(sn s).block]? = some (.cells c t (0, 0))
  inj : ∀ s t : Sn, sn s = sn t → s = t
theorem cell_lt {w : World} {a : Addr} {v : Value} (h : w.cell? a = some v) : a.block < w.heap.size := by
  rcases Nat.lt_or_ge a.block w.heap.size with h' | h'
  · exact h'
  · simp [World.cell?, Array.getElem?_eq_none h'] at h
theorem row_lt {w : World} {k : Nat} {o : Obj} (h : w.heap[k]? = some o) : k < w.heap.size := by
  rcases Nat.lt_or_ge k w.heap.size with h' | h'
  · exact h'
  · rw [Array.getElem?_eq_none h'] at h; cases h
theorem row_below {w w' : World} {k : Nat} (h : ∃ c t, w.heap[k]? = some (.cells c t (0, 0))) (hb : Below w.heap.size w w') : ∃ c t, w'.heap[k]? = some (.cells c t (0, 0)) := by
  obtain ⟨c, t, e⟩ := h; exact ⟨c, t, (hb.block _ (row_lt e)).trans e⟩
theorem Sent.below {w w' : World} {sn : Sn → Addr} (h : Sent w sn) (hb : Below w.heap.size w w') : Sent w' sn where
  c := fun s => (hb.cell (cell_lt (h.c s))).trans (h.c s)
  r := fun s => row_below (h.r s) hb
  inj := h.inj
theorem bcell {W w1 : World} (hb : Below W.heap.size W w1) : (∀ b o, b < W.heap.size → w1.cell? ⟨b, o, none⟩ = W.cell? ⟨b, o, none⟩) ∧ (∀ b o, b < W.heap.size → w1.frozen? ⟨b, o, none⟩ = W.frozen? ⟨b, o, none⟩) :=
  ⟨fun b o h => hb.cell (p := ⟨b, o, none⟩) h, fun b o h => hb.frozen (p := ⟨b, o, none⟩) h⟩

theorem Sent.cLong {w : World} {sn : Sn → Addr} (h : Sent w sn) : w.cell? ⟨0, 0, none⟩ = some (.iface 291 (.pointer (some (sn .Long)))) := h.c .Long
theorem Sent.cEnd {w : World} {sn : Sn → Addr} (h : Sent w sn) : w.cell? ⟨1, 0, none⟩ = some (.iface 291 (.pointer (some (sn .End)))) := h.c .End
theorem Sent.cTag {w : World} {sn : Sn → Addr} (h : Sent w sn) : w.cell? ⟨2, 0, none⟩ = some (.iface 291 (.pointer (some (sn .Tag)))) := h.c .Tag
theorem Sent.cLength {w : World} {sn : Sn → Addr} (h : Sent w sn) : w.cell? ⟨3, 0, none⟩ = some (.iface 291 (.pointer (some (sn .Length)))) := h.c .Length
theorem Sent.cValue {w : World} {sn : Sn → Addr} (h : Sent w sn) : w.cell? ⟨4, 0, none⟩ = some (.iface 291 (.pointer (some (sn .Value)))) := h.c .Value
theorem Sent.cMore {w : World} {sn : Sn → Addr} (h : Sent w sn) : w.cell? ⟨5, 0, none⟩ = some (.iface 291 (.pointer (some (sn .More)))) := h.c .More
theorem Sent.cOrder {w : World} {sn : Sn → Addr} (h : Sent w sn) : w.cell? ⟨6, 0, none⟩ = some (.iface 291 (.pointer (some (sn .Order)))) := h.c .Order
theorem Sent.cDefault {w : World} {sn : Sn → Addr} (h : Sent w sn) : w.cell? ⟨7, 0, none⟩ = some (.iface 291 (.pointer (some (sn .Default)))) := h.c .Default
theorem Sent.cDeep {w : World} {sn : Sn → Addr} (h : Sent w sn) : w.cell? ⟨8, 0, none⟩ = some (.iface 291 (.pointer (some (sn .Deep)))) := h.c .Deep
theorem Sent.cTree {w : World} {sn : Sn → Addr} (h : Sent w sn) : w.cell? ⟨9, 0, none⟩ = some (.iface 291 (.pointer (some (sn .Tree)))) := h.c .Tree
theorem Sent.cCard {w : World} {sn : Sn → Addr} (h : Sent w sn) : w.cell? ⟨10, 0, none⟩ = some (.iface 291 (.pointer (some (sn .Card)))) := h.c .Card
theorem Sent.cMark {w : World} {sn : Sn → Addr} (h : Sent w sn) : w.cell? ⟨11, 0, none⟩ = some (.iface 291 (.pointer (some (sn .Mark)))) := h.c .Mark
theorem Sent.cE {w : World} {sn : Sn → Addr} (h : Sent w sn) : w.cell? ⟨1, 0, none⟩ = some (.iface 291 (.pointer (some (sn .End)))) := h.c .End
theorem Sent.cT {w : World} {sn : Sn → Addr} (h : Sent w sn) : w.cell? ⟨2, 0, none⟩ = some (.iface 291 (.pointer (some (sn .Tag)))) := h.c .Tag
theorem Sent.cL {w : World} {sn : Sn → Addr} (h : Sent w sn) : w.cell? ⟨3, 0, none⟩ = some (.iface 291 (.pointer (some (sn .Length)))) := h.c .Length
/-- The number of the error that lies at an address. -/
def nm (sn : Sn → Addr) (x : Addr) : Int :=
  if x = sn .Long then 2 else if x = sn .End then 3 else if x = sn .Tag then 4 else if x = sn .Length then 5 else if x = sn .Value then 6 else if x = sn .More then 7 else if x = sn .Order then 8 else if x = sn .Default then 9 else if x = sn .Deep then 10 else if x = sn .Tree then 11 else if x = sn .Card then 12 else if x = sn .Mark then 13 else 1
theorem Sent.nm {w : World} {sn : Sn → Addr} (h : Sent w sn) (s : Sn) : nm sn (sn s) = s.code := by
  have e : ∀ s t : Sn, s ≠ t → ¬ sn s = sn t := fun s t q p => q (h.inj s t p)
  revert s
  unfold Go.Proofs.YtkkicodfpekbgaaGreatDoor.nm
  refine Sn.all ?_ ?_ ?_ ?_ ?_ ?_ ?_ ?_ ?_ ?_ ?_ ?_
  · rw [if_pos rfl]; rfl
  · rw [if_neg (e .End .Long (by decide)), if_pos rfl]; rfl
  · rw [if_neg (e .Tag .Long (by decide)), if_neg (e .Tag .End (by decide)), if_pos rfl]; rfl
  · rw [if_neg (e .Length .Long (by decide)), if_neg (e .Length .End (by decide)), if_neg (e .Length .Tag (by decide)), if_pos rfl]; rfl
  · rw [if_neg (e .Value .Long (by decide)), if_neg (e .Value .End (by decide)), if_neg (e .Value .Tag (by decide)), if_neg (e .Value .Length (by decide)), if_pos rfl]; rfl
  · rw [if_neg (e .More .Long (by decide)), if_neg (e .More .End (by decide)), if_neg (e .More .Tag (by decide)), if_neg (e .More .Length (by decide)), if_neg (e .More .Value (by decide)), if_pos rfl]; rfl
  · rw [if_neg (e .Order .Long (by decide)), if_neg (e .Order .End (by decide)), if_neg (e .Order .Tag (by decide)), if_neg (e .Order .Length (by decide)), if_neg (e .Order .Value (by decide)), if_neg (e .Order .More (by decide)), if_pos rfl]; rfl
  · rw [if_neg (e .Default .Long (by decide)), if_neg (e .Default .End (by decide)), if_neg (e .Default .Tag (by decide)), if_neg (e .Default .Length (by decide)), if_neg (e .Default .Value (by decide)), if_neg (e .Default .More (by decide)), if_neg (e .Default .Order (by decide)), if_pos rfl]; rfl
  · rw [if_neg (e .Deep .Long (by decide)), if_neg (e .Deep .End (by decide)), if_neg (e .Deep .Tag (by decide)), if_neg (e .Deep .Length (by decide)), if_neg (e .Deep .Value (by decide)), if_neg (e .Deep .More (by decide)), if_neg (e .Deep .Order (by decide)), if_neg (e .Deep .Default (by decide)), if_pos rfl]; rfl
  · rw [if_neg (e .Tree .Long (by decide)), if_neg (e .Tree .End (by decide)), if_neg (e .Tree .Tag (by decide)), if_neg (e .Tree .Length (by decide)), if_neg (e .Tree .Value (by decide)), if_neg (e .Tree .More (by decide)), if_neg (e .Tree .Order (by decide)), if_neg (e .Tree .Default (by decide)), if_neg (e .Tree .Deep (by decide)), if_pos rfl]; rfl
  · rw [if_neg (e .Card .Long (by decide)), if_neg (e .Card .End (by decide)), if_neg (e .Card .Tag (by decide)), if_neg (e .Card .Length (by decide)), if_neg (e .Card .Value (by decide)), if_neg (e .Card .More (by decide)), if_neg (e .Card .Order (by decide)), if_neg (e .Card .Default (by decide)), if_neg (e .Card .Deep (by decide)), if_neg (e .Card .Tree (by decide)), if_pos rfl]; rfl
  · rw [if_neg (e .Mark .Long (by decide)), if_neg (e .Mark .End (by decide)), if_neg (e .Mark .Tag (by decide)), if_neg (e .Mark .Length (by decide)), if_neg (e .Mark .Value (by decide)), if_neg (e .Mark .More (by decide)), if_neg (e .Mark .Order (by decide)), if_neg (e .Mark .Default (by decide)), if_neg (e .Mark .Deep (by decide)), if_neg (e .Mark .Tree (by decide)), if_neg (e .Mark .Card (by decide)), if_pos rfl]; rfl
theorem nm_none {sn : Sn → Addr} {x : Addr} (h : ∀ s, x ≠ sn s) : nm sn x = 1 := by
  unfold nm
  simp [h]
end Go.Proofs.YtkkicodfpekbgaaGreatDoor

/-! The document's reader in memory: its block, the tree that it owns; stop, put. -/
namespace Go.Proofs.YtkkicodfpekbgaaGreatDoor
set_option linter.unusedSimpArgs false
set_option linter.unusedVariables false
open Go.RowKit

/-- A value of a tree. -/
structure Vl where
  kind : Int
  text : ByteArray
  alt : Int
  kids : Int
def Vl.cells (v : Vl) : List Value := [.int .i64 v.kind, .string v.text, .int .i64 v.alt, .int .i64 v.kids]
/-- A tree's cells. -/
def vcells (l : List Vl) : List Value := l.flatMap Vl.cells
theorem vcells_append (l : List Vl) (v : Vl) : vcells (l ++ [v]) = vcells l ++ v.cells := by unfold vcells; simp
/-- The reader's cells. -/
def rdObj (a : Option Addr) (n c : Nat) (data : ByteArray) (vt : Value) (e p : Int) : Obj := .cells #[.slice a n c, .string data, vt, .int .i64 e, .int .i64 p] 128 (0, 0)
/-- The reader in memory: W: the world when it was made; its schema's slice, its data; the tree so far, what is wrong, where. -/
structure RdI (W w : World) (R : Nat) (a : Option Addr) (n c : Nat) (data : ByteArray) (tree : List Vl) (e p : Int) : Prop where
  bel : Below W.heap.size W w
  lo : W.heap.size ≤ R
  own : ∃ vt, w.heap[R]? = some (rdObj a n c data vt e p) ∧ w.ownsRow W.heap.size 60 4 vt tree.length (vcells tree)
/-- Blocks of other types, but for the reader's own, are as they were. -/
def Fr (R : Nat) (w w' : World) : Prop := ∀ (k : Nat) (A : Array Value) (T : TypeId), k ≠ R → T ≠ 60 → w.heap[k]? = some (.cells A T (0, 0)) → w'.heap[k]? = some (.cells A T (0, 0))
theorem Fr.refl (R : Nat) (w : World) : Fr R w w := fun _ _ _ _ _ h => h
theorem Fr.trans {R : Nat} {w w1 w2 : World} (h1 : Fr R w w1) (h2 : Fr R w1 w2) : Fr R w w2 := fun k A T a b h => h2 k A T a b (h1 k A T a b h)
theorem Fr.of_below {R : Nat} {w w' : World} (h : Below w.heap.size w w') : Fr R w w' := fun _ _ _ _ _ q => block_below q h
theorem Fr.of_same {R : Nat} {w w' : World} (h : ∀ k, k ≠ R → w'.heap[k]? = w.heap[k]?) : Fr R w w' := fun k _ _ a _ q => (h k a).trans q
theorem Fr.set5 {R : Nat} {w w2 : World} (h : Fr R w w2) {q : Nat} (hq : w.heap.size ≤ q) (v0 v1 v2 v3 v4 : Value) :
    Fr R w (((((w2.setCell ⟨q, 0, none⟩ v0).setCell ⟨q, 1, none⟩ v1).setCell ⟨q, 2, none⟩ v2).setCell ⟨q, 3, none⟩ v3).setCell ⟨q, 4, none⟩ v4) := fun k A T a b g => by
  have hlt : k < w.heap.size := by
    rcases Nat.lt_or_ge k w.heap.size with h' | h'
    · exact h'
    · rw [Array.getElem?_eq_none h'] at g; cases g
  have hne : k ≠ q := by omega
  rw [heap_setCell_other _ _ _ _ hne, heap_setCell_other _ _ _ _ hne, heap_setCell_other _ _ _ _ hne, heap_setCell_other _ _ _ _ hne, heap_setCell_other _ _ _ _ hne]
  exact h k A T a b g
theorem RdI.below {W w w' : World} {R : Nat} {a : Option Addr} {n c : Nat} {data : ByteArray} {tree : List Vl} {e p : Int} (h : RdI W w R a n c data tree e p) (hb : Below w.heap.size w w') : RdI W w' R a n c data tree e p where
  bel := h.bel.trans (hb.mono h.bel.size)
  lo := h.lo
  own := by
    obtain ⟨vt, h1, h2⟩ := h.own
    exact ⟨vt, block_below h1 hb, own_below h2 hb⟩

def Tryz.zeroVal : Value := .agg #[.int .i64 0, .string ⟨#[]⟩, .int .i64 0, .int .i64 0]
theorem Tryz.infoVal : (Tryz.prog.info? 60).map (fun i => (i.zero, i.size, i.bytes)) = some (some Tryz.zeroVal, 4, 40) := by kernel_rfl
theorem row_ne {w : World} {R base size n : Nat} {e T : TypeId} {v : Value} {xs : List Value} {A : Array Value} (hg : w.heap[R]? = some (.cells A T (0, 0))) (h : w.ownsRow base e size v n xs) (hT : T ≠ e) : v.ownBlock ≠ some R := by
  intro hv
  rcases h.2 with ⟨h', _⟩ | ⟨g, cap, cur, h', _, hg', _⟩
  · subst h'; cases hv
  · subst h'
    obtain rfl : g = R := by simpa [Value.ownBlock] using hv
    rw [hg] at hg'
    injection hg' with hg'
    injection hg' with _ e _
    exact hT e
/-- A store into one of the reader's cells. -/
theorem rd_set {W w : World} {R : Nat} {A : Array Value} {tree : List Vl} {vt : Value} (i : Nat) (u : Value) (hb : Below W.heap.size W w) (hlo : W.heap.size ≤ R) (hg : w.heap[R]? = some (.cells A 128 (0, 0)))
    (ho : w.ownsRow W.heap.size 60 4 vt tree.length (vcells tree)) :
    Below W.heap.size W (w.setCell ⟨R, i, none⟩ u) ∧ (w.setCell ⟨R, i, none⟩ u).heap[R]? = some (.cells (A.setIfInBounds i u) 128 (0, 0)) ∧ (w.setCell ⟨R, i, none⟩ u).ownsRow W.heap.size 60 4 vt tree.length (vcells tree) :=
  ⟨hb.setCell hlo u, heap_setCell_same w R i A _ u hg, ownsRow_setCell_other ho (row_ne hg ho (by decide)) u⟩

/-- A store into a block of another type. -/
theorem RdI.set_other {W w : World} {R : Nat} {a : Option Addr} {n c : Nat} {data : ByteArray} {tree : List Vl} {e p : Int} (h : RdI W w R a n c data tree e p) {k : Nat} {A : Array Value} {T : TypeId} (hk : W.heap.size ≤ k) (hkR : k ≠ R) (hT : T ≠ 60)
    (hg : w.heap[k]? = some (.cells A T (0, 0))) (i : Nat) (u : Value) : RdI W (w.setCell ⟨k, i, none⟩ u) R a n c data tree e p ∧ (w.setCell ⟨k, i, none⟩ u).heap[k]? = some (.cells (A.setIfInBounds i u) T (0, 0)) := by
  obtain ⟨hb, hlo, vt, hr, ho⟩ := h
  exact ⟨⟨hb.setCell hk u, hlo, vt, by rw [heap_setCell_other _ _ _ _ (by exact Ne.symm hkR)]; exact hr, ownsRow_setCell_other ho (row_ne hg ho hT) u⟩, heap_setCell_same w k i A _ u hg⟩
theorem RdI.set5 {W w : World} {R : Nat} {a : Option Addr} {n c : Nat} {data : ByteArray} {tree : List Vl} {e p : Int} (h : RdI W w R a n c data tree e p) {k : Nat} {A : Array Value} {T : TypeId} (hk : W.heap.size ≤ k) (hkR : k ≠ R) (hT : T ≠ 60)
    (hg : w.heap[k]? = some (.cells A T (0, 0))) (v0 v1 v2 v3 v4 : Value) :
    RdI W (((((w.setCell ⟨k, 0, none⟩ v0).setCell ⟨k, 1, none⟩ v1).setCell ⟨k, 2, none⟩ v2).setCell ⟨k, 3, none⟩ v3).setCell ⟨k, 4, none⟩ v4) R a n c data tree e p := by
  obtain ⟨h0, g0⟩ := h.set_other hk hkR hT hg 0 v0
  obtain ⟨h1, g1⟩ := h0.set_other hk hkR hT g0 1 v1
  obtain ⟨h2, g2⟩ := h1.set_other hk hkR hT g1 2 v2
  obtain ⟨h3, g3⟩ := h2.set_other hk hkR hT g2 3 v3
  exact (h3.set_other hk hkR hT g3 4 v4).1

set_option maxHeartbeats 1000000 in
set_option maxRecDepth 100000 in
theorem stop_first (W w : World) (R : Nat) (a : Option Addr) (n c : Nat) (data : ByteArray) (tree : List Vl) (p e1 p1 : Int) (h : RdI W w R a n c data tree 0 p) :
    Calls Tryz.prog 70 #[.pointer (some ⟨R, 0, none⟩), .int .i64 e1, .int .i64 p1] w fun e w' => e = .returned (.tuple #[]) ∧ RdI W w' R a n c data tree e1 p1 ∧ ∀ k, k ≠ R → w'.heap[k]? = w.heap[k]? := by
  obtain ⟨hb, hlo, vt, hr, ho⟩ := h
  have HB : Hid (Below W.heap.size W w) := hb
  have HO : Hid (w.ownsRow W.heap.size 60 4 vt tree.length (vcells tree)) := ho
  have HR : Hid (w.heap[R]? = some (rdObj a n c data vt 0 p)) := hr
  unfold rdObj at hr
  have c3 : w.cell? ⟨R, 3, none⟩ = some (.int .i64 0) := by simp [World.cell?, hr]
  have f3 : w.frozen? ⟨R, 3, none⟩ = false := by simp [World.frozen?, hr]
  have c4 : w.cell? ⟨R, 4, none⟩ = some (.int .i64 p) := by simp [World.cell?, hr]
  have f4 : w.frozen? ⟨R, 4, none⟩ = false := by simp [World.frozen?, hr]
  clear hb ho hr
  go_enter Tryz.func70, Tryz.ntmps70
  go_wp2
  go_end0
  obtain ⟨b1, r1, o1⟩ := rd_set 3 (.int .i64 e1) HB.out hlo HR.out HO.out
  obtain ⟨b2, r2, o2⟩ := rd_set 4 (.int .i64 p1) b1 hlo r1 o1
  exact ⟨rfl, ⟨b2, hlo, vt, r2, o2⟩, fun k hk => by rw [heap_setCell_other _ _ _ _ hk, heap_setCell_other _ _ _ _ hk]⟩

set_option maxHeartbeats 1000000 in
set_option maxRecDepth 100000 in
theorem put_any (W w : World) (R : Nat) (a : Option Addr) (n c : Nat) (data : ByteArray) (tree : List Vl) (e p : Int) (v : Vl) (h : RdI W w R a n c data tree e p) (hl : tree.length ≤ 1099511627776) :
    Calls Tryz.prog 144 #[.pointer (some ⟨R, 0, none⟩), .int .i64 v.kind, .string v.text, .int .i64 v.alt, .int .i64 v.kids] w fun e' w' => e' = .returned (.int .i64 (tree.length : Nat)) ∧ RdI W w' R a n c data (tree ++ [v]) e p ∧ Fr R w w' := by
  obtain ⟨i0, hi0, hz0, hz1, hz2⟩ := info_parts Tryz.infoVal
  obtain ⟨hb, hlo, vt, hr, ho⟩ := h
  have HB : Hid (Below W.heap.size W w) := hb
  have HO : Hid (w.ownsRow W.heap.size 60 4 vt tree.length (vcells tree)) := ho
  have HR : Hid (w.heap[R]? = some (rdObj a n c data vt e p)) := hr
  unfold rdObj at hr
  have c2 : w.cell? ⟨R, 2, none⟩ = some vt := by simp [World.cell?, hr]
  have f2 : w.frozen? ⟨R, 2, none⟩ = false := by simp [World.frozen?, hr]
  have hRl : R < w.heap.size := lt_of_cell c2
  have hsz : W.heap.size ≤ w.heap.size + 1 := by have := hb.size; omega
  clear hb ho hr
  go_enter Tryz.func144, Tryz.ntmps144
  go_wp2_with (at_builtin; refine wpList_append_lies _ rfl (.tmp 15) (.tmp 21) 39 rfl W.heap.size 60 i0 Tryz.zeroVal 4 40 Tryz.underlying39 hi0 hz0 hz1 hz2 rfl (by decide) vt tree.length (vcells tree) rfl (HO.out.alloc _) ⟨w.heap.size, 0, none⟩ 1 1 v.cells rfl rfl (World.news_of_block (heap_alloc_new w _)) (by intro u hu; unfold Vl.cells at hu; simp at hu; rcases hu with rfl | rfl | rfl | rfl <;> rfl) (by decide) (by unfold maxLen; omega) (by omega) (by simpa using hsz) (w.heap.size + 1) (by simp) ?_)
  intro g cap w3 h1 h2 h3 h4
  have hR3 : w3.heap[R]? = some (rdObj a n c data vt e p) := by
    rw [h2.block R (by simp; omega) (fun q => row_ne HR.out HO.out (by decide) q.symm), Below.heap_alloc w _ _ hRl]; exact HR.out
  have hb3 : Below W.heap.size W w3 := by
    have hb0 : Below W.heap.size W (w.alloc (.cells #[.int .i64 v.kind, .string v.text, .int .i64 v.alt, .int .i64 v.kids] 60)) := HB.out.alloc HB.out.size _
    exact hb0.grown h2 hb0.size (fun k hk => (HO.out.lt k hk).1)
  have ho3 : w3.ownsRow W.heap.size 60 4 (.slice (some ⟨g, 0, none⟩) (tree.length + 1) cap) (tree ++ [v]).length (vcells (tree ++ [v])) := by rw [vcells_append, List.length_append]; exact h1
  have FIN : Hid (RdI W (w3.setCell ⟨R, 2, none⟩ (.slice (some ⟨g, 0, none⟩) (tree.length + 1) cap)) R a n c data (tree ++ [v]) e p) := by
    obtain ⟨b1, r1, o1⟩ := rd_set 2 (.slice (some ⟨g, 0, none⟩) (tree.length + 1) cap) hb3 hlo hR3 ho3
    exact ⟨b1, hlo, _, r1, o1⟩
  have HFR : Hid (Fr R w (w3.setCell ⟨R, 2, none⟩ (.slice (some ⟨g, 0, none⟩) (tree.length + 1) cap))) := fun k A T hk hT hg => by
    have hlt : k < w.heap.size := by
      rcases Nat.lt_or_ge k w.heap.size with h' | h'
      · exact h'
      · rw [Array.getElem?_eq_none h'] at hg; cases hg
    rw [heap_setCell_other _ _ _ _ hk, h2.block k (by simp; omega) (fun q => row_ne hg HO.out hT q.symm), Below.heap_alloc w _ _ hlt]
    exact hg
  unfold rdObj at hR3
  have d2 : w3.cell? ⟨R, 2, none⟩ = some vt := by simp [World.cell?, hR3]
  have g2 : w3.frozen? ⟨R, 2, none⟩ = false := by simp [World.frozen?, hR3]
  clear h1 h2 h3 h4 hR3 hb3 ho3 c2 f2
  go_wp2
  go_ret
  exact ⟨by congr 1, FIN.out, HFR.out⟩
end Go.Proofs.YtkkicodfpekbgaaGreatDoor

/-! The number by which a call answers an error: hallmark.number. -/
namespace Go.Proofs.YtkkicodfpekbgaaGreatDoor
set_option linter.unusedSimpArgs false
set_option linter.unusedVariables false
open Go.RowKit

theorem is_u (p : Int) (a b : Addr) (w : World) (ha : ∃ c t, w.heap[a.block]? = some (.cells c t (0, 0))) (hb : ∃ c t, w.heap[b.block]? = some (.cells c t (0, 0))) :
    Calls Tryz.prog 59 #[.iface 155 (.agg #[.int .i64 p, .iface 291 (.pointer (some a))]), .iface 291 (.pointer (some b))] w fun e w' => e = .returned (.bool (decide (a = b))) ∧ Below w.heap.size w w' := is_any p a b w ha hb

theorem number_nil (w : World) : Calls Tryz.prog 34 #[.nilIface] w fun e w' => e = .returned (.int .i64 0) ∧ w' = w := by
  go_enter Tryz.func34, Tryz.ntmps34
  go_wp2
  go_ret
  exact ⟨rfl, rfl⟩

set_option maxHeartbeats 4000000 in
set_option maxRecDepth 100000 in
theorem number_at (p : Int) (x : Addr) (w : World) (sn : Sn → Addr) (hs : Sent w sn) (hx : ∃ c t, w.heap[x.block]? = some (.cells c t (0, 0))) :
    Calls Tryz.prog 34 #[fault p x] w fun e w' => e = .returned (.int .i64 (nm sn x)) ∧ Below w.heap.size w w' := by
  have h0 := hs.cLong
  have S0 : Hid (Sent w sn) := hs
  have X0 : Hid (∃ c t, w.heap[x.block]? = some (.cells c t (0, 0))) := hx
  have B0 : Hid (Below w.heap.size w w) := Below.refl _ _
  clear hs hx
  unfold fault
  go_enter Tryz.func34, Tryz.ntmps34
  go_wp2_with fail
  refine (is_u p x (sn .Long) w X0.out (S0.out.r .Long)).mono ?_
  rintro e w1 ⟨rfl, hb⟩
  have B1 : Hid (Below w.heap.size w w1) := B0.out.trans (hb.mono B0.out.size)
  have S1 : Hid (Sent w1 sn) := S0.out.below hb
  have X1 : Hid (∃ c t, w1.heap[x.block]? = some (.cells c t (0, 0))) := row_below X0.out hb
  clear hb h0
  by_cases q0 : x = sn .Long
  · rw [decide_eq_true q0]
    have e : Hid (nm sn x = 2) := by
      show nm sn x = 2
      unfold nm
      rw [if_pos q0]
    go_wp2_with fail
    go_ret
    exact ⟨by rw [e.out]; rfl, B1.out⟩
  rw [decide_eq_false q0]
  have h1 := S1.out.cEnd
  go_wp2_with fail
  refine (is_u p x (sn .End) w1 X1.out (S1.out.r .End)).mono ?_
  rintro e w2 ⟨rfl, hb⟩
  have B2 : Hid (Below w.heap.size w w2) := B1.out.trans (hb.mono B1.out.size)
  have S2 : Hid (Sent w2 sn) := S1.out.below hb
  have X2 : Hid (∃ c t, w2.heap[x.block]? = some (.cells c t (0, 0))) := row_below X1.out hb
  clear hb h1
  by_cases q1 : x = sn .End
  · rw [decide_eq_true q1]
    have e : Hid (nm sn x = 3) := by
      show nm sn x = 3
      unfold nm
      rw [if_neg q0, if_pos q1]
    go_wp2_with fail
    go_ret
    exact ⟨by rw [e.out]; rfl, B2.out⟩
  rw [decide_eq_false q1]
  have h2 := S2.out.cTag
  go_wp2_with fail
  refine (is_u p x (sn .Tag) w2 X2.out (S2.out.r .Tag)).mono ?_
  rintro e w3 ⟨rfl, hb⟩
  have B3 : Hid (Below w.heap.size w w3) := B2.out.trans (hb.mono B2.out.size)
  have S3 : Hid (Sent w3 sn) := S2.out.below hb
  have X3 : Hid (∃ c t, w3.heap[x.block]? = some (.cells c t (0, 0))) := row_below X2.out hb
  clear hb h2
  by_cases q2 : x = sn .Tag
  · rw [decide_eq_true q2]
    have e : Hid (nm sn x = 4) := by
      show nm sn x = 4
      unfold nm
      rw [if_neg q0, if_neg q1, if_pos q2]
    go_wp2_with fail
    go_ret
    exact ⟨by rw [e.out]; rfl, B3.out⟩
  rw [decide_eq_false q2]
  have h3 := S3.out.cLength
  go_wp2_with fail
  refine (is_u p x (sn .Length) w3 X3.out (S3.out.r .Length)).mono ?_
  rintro e w4 ⟨rfl, hb⟩
  have B4 : Hid (Below w.heap.size w w4) := B3.out.trans (hb.mono B3.out.size)
  have S4 : Hid (Sent w4 sn) := S3.out.below hb
  have X4 : Hid (∃ c t, w4.heap[x.block]? = some (.cells c t (0, 0))) := row_below X3.out hb
  clear hb h3
  by_cases q3 : x = sn .Length
  · rw [decide_eq_true q3]
    have e : Hid (nm sn x = 5) := by
      show nm sn x = 5
      unfold nm
      rw [if_neg q0, if_neg q1, if_neg q2, if_pos q3]
    go_wp2_with fail
    go_ret
    exact ⟨by rw [e.out]; rfl, B4.out⟩
  rw [decide_eq_false q3]
  have h4 := S4.out.cValue
  go_wp2_with fail
  refine (is_u p x (sn .Value) w4 X4.out (S4.out.r .Value)).mono ?_
  rintro e w5 ⟨rfl, hb⟩
  have B5 : Hid (Below w.heap.size w w5) := B4.out.trans (hb.mono B4.out.size)
  have S5 : Hid (Sent w5 sn) := S4.out.below hb
  have X5 : Hid (∃ c t, w5.heap[x.block]? = some (.cells c t (0, 0))) := row_below X4.out hb
  clear hb h4
  by_cases q4 : x = sn .Value
  · rw [decide_eq_true q4]
    have e : Hid (nm sn x = 6) := by
      show nm sn x = 6
      unfold nm
      rw [if_neg q0, if_neg q1, if_neg q2, if_neg q3, if_pos q4]
    go_wp2_with fail
    go_ret
    exact ⟨by rw [e.out]; rfl, B5.out⟩
  rw [decide_eq_false q4]
  have h5 := S5.out.cMore
  go_wp2_with fail
  refine (is_u p x (sn .More) w5 X5.out (S5.out.r .More)).mono ?_
  rintro e w6 ⟨rfl, hb⟩
  have B6 : Hid (Below w.heap.size w w6) := B5.out.trans (hb.mono B5.out.size)
  have S6 : Hid (Sent w6 sn) := S5.out.below hb
  have X6 : Hid (∃ c t, w6.heap[x.block]? = some (.cells c t (0, 0))) := row_below X5.out hb
  clear hb h5
  by_cases q5 : x = sn .More
  · rw [decide_eq_true q5]
    have e : Hid (nm sn x = 7) := by
      show nm sn x = 7
      unfold nm
      rw [if_neg q0, if_neg q1, if_neg q2, if_neg q3, if_neg q4, if_pos q5]
    go_wp2_with fail
    go_ret
    exact ⟨by rw [e.out]; rfl, B6.out⟩
  rw [decide_eq_false q5]
  have h6 := S6.out.cOrder
  go_wp2_with fail
  refine (is_u p x (sn .Order) w6 X6.out (S6.out.r .Order)).mono ?_
  rintro e w7 ⟨rfl, hb⟩
  have B7 : Hid (Below w.heap.size w w7) := B6.out.trans (hb.mono B6.out.size)
  have S7 : Hid (Sent w7 sn) := S6.out.below hb
  have X7 : Hid (∃ c t, w7.heap[x.block]? = some (.cells c t (0, 0))) := row_below X6.out hb
  clear hb h6
  by_cases q6 : x = sn .Order
  · rw [decide_eq_true q6]
    have e : Hid (nm sn x = 8) := by
      show nm sn x = 8
      unfold nm
      rw [if_neg q0, if_neg q1, if_neg q2, if_neg q3, if_neg q4, if_neg q5, if_pos q6]
    go_wp2_with fail
    go_ret
    exact ⟨by rw [e.out]; rfl, B7.out⟩
  rw [decide_eq_false q6]
  have h7 := S7.out.cDefault
  go_wp2_with fail
  refine (is_u p x (sn .Default) w7 X7.out (S7.out.r .Default)).mono ?_
  rintro e w8 ⟨rfl, hb⟩
  have B8 : Hid (Below w.heap.size w w8) := B7.out.trans (hb.mono B7.out.size)
  have S8 : Hid (Sent w8 sn) := S7.out.below hb
  have X8 : Hid (∃ c t, w8.heap[x.block]? = some (.cells c t (0, 0))) := row_below X7.out hb
  clear hb h7
  by_cases q7 : x = sn .Default
  · rw [decide_eq_true q7]
    have e : Hid (nm sn x = 9) := by
      show nm sn x = 9
      unfold nm
      rw [if_neg q0, if_neg q1, if_neg q2, if_neg q3, if_neg q4, if_neg q5, if_neg q6, if_pos q7]
    go_wp2_with fail
    go_ret
    exact ⟨by rw [e.out]; rfl, B8.out⟩
  rw [decide_eq_false q7]
  have h8 := S8.out.cDeep
  go_wp2_with fail
  refine (is_u p x (sn .Deep) w8 X8.out (S8.out.r .Deep)).mono ?_
  rintro e w9 ⟨rfl, hb⟩
  have B9 : Hid (Below w.heap.size w w9) := B8.out.trans (hb.mono B8.out.size)
  have S9 : Hid (Sent w9 sn) := S8.out.below hb
  have X9 : Hid (∃ c t, w9.heap[x.block]? = some (.cells c t (0, 0))) := row_below X8.out hb
  clear hb h8
  by_cases q8 : x = sn .Deep
  · rw [decide_eq_true q8]
    have e : Hid (nm sn x = 10) := by
      show nm sn x = 10
      unfold nm
      rw [if_neg q0, if_neg q1, if_neg q2, if_neg q3, if_neg q4, if_neg q5, if_neg q6, if_neg q7, if_pos q8]
    go_wp2_with fail
    go_ret
    exact ⟨by rw [e.out]; rfl, B9.out⟩
  rw [decide_eq_false q8]
  have h9 := S9.out.cTree
  go_wp2_with fail
  refine (is_u p x (sn .Tree) w9 X9.out (S9.out.r .Tree)).mono ?_
  rintro e w10 ⟨rfl, hb⟩
  have B10 : Hid (Below w.heap.size w w10) := B9.out.trans (hb.mono B9.out.size)
  have S10 : Hid (Sent w10 sn) := S9.out.below hb
  have X10 : Hid (∃ c t, w10.heap[x.block]? = some (.cells c t (0, 0))) := row_below X9.out hb
  clear hb h9
  by_cases q9 : x = sn .Tree
  · rw [decide_eq_true q9]
    have e : Hid (nm sn x = 11) := by
      show nm sn x = 11
      unfold nm
      rw [if_neg q0, if_neg q1, if_neg q2, if_neg q3, if_neg q4, if_neg q5, if_neg q6, if_neg q7, if_neg q8, if_pos q9]
    go_wp2_with fail
    go_ret
    exact ⟨by rw [e.out]; rfl, B10.out⟩
  rw [decide_eq_false q9]
  have h10 := S10.out.cCard
  go_wp2_with fail
  refine (is_u p x (sn .Card) w10 X10.out (S10.out.r .Card)).mono ?_
  rintro e w11 ⟨rfl, hb⟩
  have B11 : Hid (Below w.heap.size w w11) := B10.out.trans (hb.mono B10.out.size)
  have S11 : Hid (Sent w11 sn) := S10.out.below hb
  have X11 : Hid (∃ c t, w11.heap[x.block]? = some (.cells c t (0, 0))) := row_below X10.out hb
  clear hb h10
  by_cases q10 : x = sn .Card
  · rw [decide_eq_true q10]
    have e : Hid (nm sn x = 12) := by
      show nm sn x = 12
      unfold nm
      rw [if_neg q0, if_neg q1, if_neg q2, if_neg q3, if_neg q4, if_neg q5, if_neg q6, if_neg q7, if_neg q8, if_neg q9, if_pos q10]
    go_wp2_with fail
    go_ret
    exact ⟨by rw [e.out]; rfl, B11.out⟩
  rw [decide_eq_false q10]
  have h11 := S11.out.cMark
  go_wp2_with fail
  refine (is_u p x (sn .Mark) w11 X11.out (S11.out.r .Mark)).mono ?_
  rintro e w12 ⟨rfl, hb⟩
  have B12 : Hid (Below w.heap.size w w12) := B11.out.trans (hb.mono B11.out.size)
  have S12 : Hid (Sent w12 sn) := S11.out.below hb
  have X12 : Hid (∃ c t, w12.heap[x.block]? = some (.cells c t (0, 0))) := row_below X11.out hb
  clear hb h11
  by_cases q11 : x = sn .Mark
  · rw [decide_eq_true q11]
    have e : Hid (nm sn x = 13) := by
      show nm sn x = 13
      unfold nm
      rw [if_neg q0, if_neg q1, if_neg q2, if_neg q3, if_neg q4, if_neg q5, if_neg q6, if_neg q7, if_neg q8, if_neg q9, if_neg q10, if_pos q11]
    go_wp2_with fail
    go_ret
    exact ⟨by rw [e.out]; rfl, B12.out⟩
  rw [decide_eq_false q11]
  have e : Hid (nm sn x = 1) := by
    show nm sn x = 1
    unfold nm
    rw [if_neg q0, if_neg q1, if_neg q2, if_neg q3, if_neg q4, if_neg q5, if_neg q6, if_neg q7, if_neg q8, if_neg q9, if_neg q10, if_neg q11]
  go_wp2_with fail
  go_ret
  exact ⟨by rw [e.out]; rfl, B12.out⟩

theorem number_sn (p : Int) (s : Sn) (w : World) (sn : Sn → Addr) (hs : Sent w sn) :
    Calls Tryz.prog 34 #[fault p (sn s)] w fun e w' => e = .returned (.int .i64 s.code) ∧ Below w.heap.size w w' := by
  rw [← hs.nm s]; exact number_at p (sn s) w sn hs (hs.r s)
theorem number_E (p : Int) (w : World) (sn : Sn → Addr) (hs : Sent w sn) : Calls Tryz.prog 34 #[fault p (sn .End)] w fun e w' => e = .returned (.int .i64 3) ∧ Below w.heap.size w w' := number_sn p .End w sn hs
theorem number_T (p : Int) (w : World) (sn : Sn → Addr) (hs : Sent w sn) : Calls Tryz.prog 34 #[fault p (sn .Tag)] w fun e w' => e = .returned (.int .i64 4) ∧ Below w.heap.size w w' := number_sn p .Tag w sn hs
theorem number_L (p : Int) (w : World) (sn : Sn → Addr) (hs : Sent w sn) : Calls Tryz.prog 34 #[fault p (sn .Length)] w fun e w' => e = .returned (.int .i64 5) ∧ Below w.heap.size w w' := number_sn p .Length w sn hs
end Go.Proofs.YtkkicodfpekbgaaGreatDoor

/-! readLength: what it answers. -/
namespace Go.Proofs.YtkkicodfpekbgaaGreatDoor
set_option linter.unusedSimpArgs false
set_option linter.unusedVariables false
open Go.RowKit

set_option maxHeartbeats 1000000 in
set_option maxRecDepth 100000 in
theorem rl_empty (t : ByteArray) (w : World) (sn : Sn → Addr) (hs : Sent w sn) (ht : t.size = 0) :
    Calls Tryz.prog 186 #[.string t] w fun e w' => e = .returned (.tuple #[.int .i64 0, .int .i64 0, .iface 291 (.pointer (some (sn .End)))]) ∧ Below w.heap.size w w' := by
  have h0 := hs.cE
  have he := emp_t ht
  clear hs
  go_enter Tryz.func186, Tryz.ntmps186
  go_wp2
  go_quiet (fail)
  go_wp2
  go_ret3
  exact ⟨rfl, below_drewN (Below.refl _ _) _⟩

set_option maxHeartbeats 1000000 in
set_option maxRecDepth 100000 in
theorem rl_short (t : ByteArray) (w : World) (h : 0 < t.size) (_hm : t.size ≤ 9223372036854775807) (hb : (t[0].toNat : Int) < 128) :
    Calls Tryz.prog 186 #[.string t] w fun e w' => e = .returned (.tuple #[.int .i64 1, .int .i64 (t[0].toNat : Int), .nilIface]) ∧ Below w.heap.size w w' := by
  have he := emp_f h
  go_enter Tryz.func186, Tryz.ntmps186
  go_wp2
  go_quiet (fail)
  go_wp2
  go_ret3
  exact ⟨rfl, below_drewN (Below.refl _ _) _⟩

set_option maxHeartbeats 1000000 in
set_option maxRecDepth 100000 in
theorem rl_bad (t : ByteArray) (w : World) (sn : Sn → Addr) (hs : Sent w sn) (h : 0 < t.size) (_hm : t.size ≤ 9223372036854775807) (hb : 128 ≤ (t[0].toNat : Int)) (hc : (t[0].toNat : Int) = 128 ∨ 131 < (t[0].toNat : Int)) :
    Calls Tryz.prog 186 #[.string t] w fun e w' => e = .returned (.tuple #[.int .i64 0, .int .i64 0, .iface 291 (.pointer (some (sn .Length)))]) ∧ Below w.heap.size w w' := by
  have h2 := hs.cL
  have he := emp_f h
  have hx : (t[0].toNat : Int) < 256 := by have := t[0].toNat_lt; omega
  clear hs
  by_cases hz : (t[0].toNat : Int) - 128 = 0
  · have hz1 : ((t[0].toNat : Int) - 128 == 0) = true := beq_iff_eq.2 hz
    clear hc hz
    go_enter Tryz.func186, Tryz.ntmps186
    go_wp2
    go_quiet (fail)
    go_wp2
    go_ret3
    exact ⟨rfl, below_drewN (Below.refl _ _) _⟩
  · have hz1 : ((t[0].toNat : Int) - 128 == 0) = false := beq_eq_false_iff_ne.2 hz
    have hz2 : 3 < (t[0].toNat : Int) - 128 := by omega
    clear hc hz
    go_enter Tryz.func186, Tryz.ntmps186
    go_wp2
    go_quiet (fail)
    go_wp2
    go_ret3
    exact ⟨rfl, below_drewN (Below.refl _ _) _⟩

set_option maxHeartbeats 1000000 in
set_option maxRecDepth 100000 in
theorem rl_end (t : ByteArray) (w : World) (sn : Sn → Addr) (hs : Sent w sn) (h : 0 < t.size) (_hm : t.size ≤ 9223372036854775807) (hb : 128 < (t[0].toNat : Int)) (hc : (t[0].toNat : Int) ≤ 131) (hl : (t.size : Int) ≤ (t[0].toNat : Int) - 128) :
    Calls Tryz.prog 186 #[.string t] w fun e w' => e = .returned (.tuple #[.int .i64 0, .int .i64 0, .iface 291 (.pointer (some (sn .End)))]) ∧ Below w.heap.size w w' := by
  have h2 := hs.cE
  have he := emp_f h
  have hz1 : ((t[0].toNat : Int) - 128 == 0) = false := beq_eq_false_iff_ne.2 (by omega)
  have hz2 : (t[0].toNat : Int) - 128 ≤ 3 := by omega
  clear hs
  go_enter Tryz.func186, Tryz.ntmps186
  go_wp2
  go_quiet (fail)
  go_wp2
  go_ret3
  exact ⟨rfl, below_drewN (Below.refl _ _) _⟩

theorem ret3 {a b c d : Int} {v : Value} (h1 : a = c) (h2 : b = d) : Ending.returned (.tuple #[.int .i64 a, .int .i64 b, v]) = .returned (.tuple #[.int .i64 c, .int .i64 d, v]) := by rw [h1, h2]

set_option maxHeartbeats 1000000 in
set_option maxRecDepth 100000 in
theorem rl_ok (t : ByteArray) (w : World) (sn : Sn → Addr) (c : Nat) (hs : Sent w sn) (h : 0 < t.size) (hm : t.size ≤ 9223372036854775807) (hb1 : (t[0].toNat : Int) - 128 ≤ c) (hb2 : c ≤ (t[0].toNat : Int) - 128) (h1 : 1 ≤ c) (h3 : c ≤ 3) (hl : c < t.size) (hq : (c : Int) = cnt (numTo t c)) :
    Calls Tryz.prog 186 #[.string t] w fun e w' => e = .returned (.tuple #[.int .i64 (1 + c), .int .i64 (numTo t c), .nilIface]) ∧ Below w.heap.size w w' := by
  have h2 := hs.cL
  have he := emp_f h
  have hz1 : ((t[0].toNat : Int) - 128 == 0) = false := beq_eq_false_iff_ne.2 (by omega)
  have hz2 : (t[0].toNat : Int) - 128 ≤ 3 := by omega
  have HQ : Hid ((c : Int) = cnt (numTo t c)) := hq
  clear hs hq
  go_enter Tryz.func186, Tryz.ntmps186
  go_wp2
  go_loop [3, 6] (fun n i => ∃ k : Nat, 1 ≤ k ∧ k ≤ c + 1 ∧ i = .int .i64 k ∧ n = .int .i64 (numTo t (k - 1))) (fun _ i => c + 1 - (intOf i).toNat)
  case atStart => exact ⟨1, by omega, by omega, rfl, rfl⟩
  case round =>
    obtain ⟨k, hk1, hk, rfl, rfl⟩ := hrel
    have hn := numTo_bd t (k - 1)
    have hn0 : 0 ≤ numTo t (k - 1) := hn.1
    have hn1 : numTo t (k - 1) < 16777216 := hn.2.1 (by omega)
    clear hn
    by_cases hlt : k ≤ c
    · have hk2 : k < t.size := by omega
      have hbk := b8_bd t k
      have HE : Hid ((t[k].toNat : Int) = b8 t k) := b8_get t k hk2
      have HN : Hid (numTo t k = numTo t (k - 1) * 256 + b8 t k) := by
        obtain ⟨j, rfl⟩ : ∃ j, k = j + 1 := ⟨k - 1, by omega⟩
        rfl
      go_wp2
      go_round
      case rel => exact ⟨k + 1, by omega, by omega, by go_num, by rw [HE.out, IntWalk.wrap64_in _ ⟨by omega, by omega⟩, i64_or8 _ _ (by omega) (by omega) (by omega) (by omega) (by omega), Nat.add_sub_cancel, HN.out]⟩
      case measure => simp [intOf]; omega
    · have hkc : k = c + 1 := by omega
      subst hkc
      simp only [Nat.add_sub_cancel] at hn0 hn1 ⊢
      have HX : Hid ((t[0].toNat : Int) - 128 = c) := by show _ = _; omega
      rcases cnt_cases (numTo t c) with ⟨r1, r3⟩ | ⟨r1, r2, r3⟩ | ⟨r1, r2, r3⟩ | ⟨r1, r3⟩
      · have := HQ.out; omega
      · have hbq : ((t[0].toNat : Int) - 128 != 1) = false := by rw [bne_eq_false_iff_eq]; have := HQ.out; omega
        clear r3
        go_wp2
        go_ret3
        exact ⟨ret3 (by rw [HX.out]) rfl, Below.refl _ _⟩
      · have hbq : ((t[0].toNat : Int) - 128 != 2) = false := by rw [bne_eq_false_iff_eq]; have := HQ.out; omega
        clear r3
        go_wp2
        go_ret3
        exact ⟨ret3 (by rw [HX.out]) rfl, Below.refl _ _⟩
      · have hbq : ((t[0].toNat : Int) - 128 != 3) = false := by rw [bne_eq_false_iff_eq]; have := HQ.out; omega
        clear r3
        go_wp2
        go_ret3
        exact ⟨ret3 (by rw [HX.out]) rfl, Below.refl _ _⟩

set_option maxHeartbeats 1000000 in
set_option maxRecDepth 100000 in
theorem rl_no (t : ByteArray) (w : World) (sn : Sn → Addr) (c : Nat) (hs : Sent w sn) (h : 0 < t.size) (hm : t.size ≤ 9223372036854775807) (hb1 : (t[0].toNat : Int) - 128 ≤ c) (hb2 : c ≤ (t[0].toNat : Int) - 128) (h1 : 1 ≤ c) (h3 : c ≤ 3) (hl : c < t.size) (hq : ¬ (c : Int) = cnt (numTo t c)) :
    Calls Tryz.prog 186 #[.string t] w fun e w' => e = .returned (.tuple #[.int .i64 0, .int .i64 0, .iface 291 (.pointer (some (sn .Length)))]) ∧ Below w.heap.size w w' := by
  have h2 := hs.cL
  have he := emp_f h
  have hz1 : ((t[0].toNat : Int) - 128 == 0) = false := beq_eq_false_iff_ne.2 (by omega)
  have hz2 : (t[0].toNat : Int) - 128 ≤ 3 := by omega
  have HQ : Hid (¬ (c : Int) = cnt (numTo t c)) := hq
  clear hs hq
  go_enter Tryz.func186, Tryz.ntmps186
  go_wp2
  go_loop [3, 6] (fun n i => ∃ k : Nat, 1 ≤ k ∧ k ≤ c + 1 ∧ i = .int .i64 k ∧ n = .int .i64 (numTo t (k - 1))) (fun _ i => c + 1 - (intOf i).toNat)
  case atStart => exact ⟨1, by omega, by omega, rfl, rfl⟩
  case round =>
    obtain ⟨k, hk1, hk, rfl, rfl⟩ := hrel
    have hn := numTo_bd t (k - 1)
    have hn0 : 0 ≤ numTo t (k - 1) := hn.1
    have hn1 : numTo t (k - 1) < 16777216 := hn.2.1 (by omega)
    clear hn
    by_cases hlt : k ≤ c
    · have hk2 : k < t.size := by omega
      have hbk := b8_bd t k
      have HE : Hid ((t[k].toNat : Int) = b8 t k) := b8_get t k hk2
      have HN : Hid (numTo t k = numTo t (k - 1) * 256 + b8 t k) := by
        obtain ⟨j, rfl⟩ : ∃ j, k = j + 1 := ⟨k - 1, by omega⟩
        rfl
      go_wp2
      go_round
      case rel => exact ⟨k + 1, by omega, by omega, by go_num, by rw [HE.out, IntWalk.wrap64_in _ ⟨by omega, by omega⟩, i64_or8 _ _ (by omega) (by omega) (by omega) (by omega) (by omega), Nat.add_sub_cancel, HN.out]⟩
      case measure => simp [intOf]; omega
    · have hkc : k = c + 1 := by omega
      subst hkc
      simp only [Nat.add_sub_cancel] at hn0 hn1 ⊢
      have HX : Hid ((t[0].toNat : Int) - 128 = c) := by show _ = _; omega
      rcases cnt_cases (numTo t c) with ⟨r1, r3⟩ | ⟨r1, r2, r3⟩ | ⟨r1, r2, r3⟩ | ⟨r1, r3⟩
      · have hbq : ((t[0].toNat : Int) - 128 != 0) = true := by rw [bne_iff_ne]; have := HQ.out; omega
        clear r3
        go_wp2
        go_quiet (fail)
        go_wp2
        go_ret3
        exact ⟨rfl, below_drewN (Below.refl _ _) _⟩
      · have hbq : ((t[0].toNat : Int) - 128 != 1) = true := by rw [bne_iff_ne]; have := HQ.out; omega
        clear r3
        go_wp2
        go_quiet (fail)
        go_wp2
        go_ret3
        exact ⟨rfl, below_drewN (Below.refl _ _) _⟩
      · have hbq : ((t[0].toNat : Int) - 128 != 2) = true := by rw [bne_iff_ne]; have := HQ.out; omega
        clear r3
        go_wp2
        go_quiet (fail)
        go_wp2
        go_ret3
        exact ⟨rfl, below_drewN (Below.refl _ _) _⟩
      · have hbq : ((t[0].toNat : Int) - 128 != 3) = true := by rw [bne_iff_ne]; have := HQ.out; omega
        clear r3
        go_wp2
        go_quiet (fail)
        go_wp2
        go_ret3
        exact ⟨rfl, below_drewN (Below.refl _ _) _⟩

/-- Which error it is, as a value: nil, or a sentinel. -/
def which (sn : Sn → Addr) (c : Int) : Value := if c = 0 then .nilIface else if c = 3 then .iface 291 (.pointer (some (sn .End))) else .iface 291 (.pointer (some (sn .Length)))

theorem readLength_any (t : ByteArray) (w : World) (sn : Sn → Addr) (hs : Sent w sn) (hm : t.size ≤ 9223372036854775807) :
    Calls Tryz.prog 186 #[.string t] w fun e w' => e = .returned (.tuple #[.int .i64 (rl t).2.1, .int .i64 (rl t).2.2, which sn (rl t).1]) ∧ Below w.heap.size w w' := by
  unfold rl
  split
  · rename_i h; exact rl_empty t w sn hs h
  rename_i h
  have h : 0 < t.size := by omega
  have hb := b8_bd t 0
  have e0 := b8_get t 0 h
  split
  · rename_i h1
    have := rl_short t w h hm (by omega)
    rw [e0] at this
    exact this
  split
  · rename_i h1; exact rl_bad t w sn hs h hm (by omega) (by omega)
  split
  · exact rl_end t w sn hs h hm (by omega) (by omega) (by omega)
  rename_i h1 h2 h3
  obtain ⟨c, hc⟩ := Int.eq_ofNat_of_zero_le (show 0 ≤ b8 t 0 - 128 by omega)
  rw [hc, Int.toNat_natCast]
  split
  · rename_i h4; exact rl_no t w sn c hs h hm (by omega) (by omega) (by omega) (by omega) (by omega) h4
  · rename_i h4; exact rl_ok t w sn c hs h hm (by omega) (by omega) (by omega) (by omega) (by omega) (by omega)
theorem readLength_eq (t : ByteArray) (w : World) (sn : Sn → Addr) (c z1 z2 : Int) (v : Value) (hs : Sent w sn) (hm : t.size ≤ 9223372036854775807) (h : rl t = (c, z1, z2)) (hv : which sn c = v) :
    Calls Tryz.prog 186 #[.string t] w fun e w' => e = .returned (.tuple #[.int .i64 z1, .int .i64 z2, v]) ∧ Below w.heap.size w w' := by
  have := readLength_any t w sn hs hm
  rw [h] at this
  rw [← hv]
  exact this
end Go.Proofs.YtkkicodfpekbgaaGreatDoor

/-! element.Read: what it answers. -/
namespace Go.Proofs.YtkkicodfpekbgaaGreatDoor
set_option linter.unusedSimpArgs false
set_option linter.unusedVariables false
open Go.RowKit

/-- A head as a value. -/
def hv (h : Hd) : Value := .agg #[.int .i64 h.c, .bool h.b, .int .i64 h.n, .int .i64 h.s, .int .i64 h.l]

theorem below5 {B : Nat} {w w1 : World} (h : Below B w w1) (b : Nat) (hb : B ≤ b) (v0 v1 v2 v3 v4 : Value) :
    Below B w (((((w1.setCell ⟨b, 0, none⟩ v0).setCell ⟨b, 1, none⟩ v1).setCell ⟨b, 2, none⟩ v2).setCell ⟨b, 3, none⟩ v3).setCell ⟨b, 4, none⟩ v4) :=
  ((((h.setCell (p := ⟨b, 0, none⟩) hb v0).setCell (p := ⟨b, 1, none⟩) hb v1).setCell (p := ⟨b, 2, none⟩) hb v2).setCell (p := ⟨b, 3, none⟩) hb v3).setCell (p := ⟨b, 4, none⟩) hb v4

set_option maxHeartbeats 1000000 in
set_option maxRecDepth 100000 in
theorem rd_empty (s : ByteArray) (p : Nat) (w : World) (sn : Sn → Addr) (hs : Sent w sn) (_hm : s.size ≤ 9223372036854775807) (hp : p ≤ s.size) (hz : (s.extract p s.size).size = 0) :
    Calls Tryz.prog 156 #[.string s, .int .i64 p] w fun e w' => e = .returned (.tuple #[hv .zero, fault p (sn .End)]) ∧ Below w.heap.size w w' := by
  have h0 := hs.cE
  have h0' := cell_lt hs.cE
  have he := emp_t hz
  clear hs
  unfold fault hv Hd.zero
  go_enter Tryz.func156, Tryz.ntmps156
  go_wp2
  exact bodyPost_ret (v := .tuple #[.agg #[.int .i64 0, .bool false, .int .i64 0, .int .i64 0, .int .i64 0], .iface 155 (.agg #[.int .i64 p, .iface 291 (.pointer (some (sn .End)))])]) (by simp [results, Tryz.results156, go_sem]) rfl ⟨rfl, (Below.refl _ _).alloc (Nat.le_refl _) _⟩

set_option maxHeartbeats 1000000 in
set_option maxRecDepth 100000 in
theorem rd_tag (s : ByteArray) (p : Nat) (w : World) (sn : Sn → Addr) (hs : Sent w sn) (_hm : s.size ≤ 9223372036854775807) (hp : p ≤ s.size) (hz : 0 < (s.extract p s.size).size) (hpos : 0 < s.size - p) (hx1 : ((s.extract p s.size)[0].toNat : Int) < 256) (hx2 : 30 < bits .and .i64 ((s.extract p s.size)[0].toNat : Int) 31) :
    Calls Tryz.prog 156 #[.string s, .int .i64 p] w fun e w' => e = .returned (.tuple #[hv .zero, fault p (sn .Tag)]) ∧ Below w.heap.size w w' := by
  have h1 := hs.cT
  have h1' := cell_lt hs.cT
  have he := emp_f hz
  clear hs
  unfold fault hv Hd.zero
  go_enter Tryz.func156, Tryz.ntmps156
  go_wp2
  exact bodyPost_ret (v := .tuple #[.agg #[.int .i64 0, .bool false, .int .i64 0, .int .i64 0, .int .i64 0], .iface 155 (.agg #[.int .i64 p, .iface 291 (.pointer (some (sn .Tag)))])]) (by simp [results, Tryz.results156, go_sem]) rfl ⟨rfl, (Below.refl _ _).alloc (Nat.le_refl _) _⟩

set_option maxHeartbeats 1000000 in
set_option maxRecDepth 100000 in
theorem rd_len (s : ByteArray) (p : Nat) (w : World) (sn : Sn → Addr) (z1 z2 : Int) (hs : Sent w sn) (hm : s.size ≤ 9223372036854775807) (hp : p ≤ s.size) (hz : 0 < (s.extract p s.size).size) (hpos : 0 < s.size - p) (hx1 : ((s.extract p s.size)[0].toNat : Int) < 256) (hx2 : bits .and .i64 ((s.extract p s.size)[0].toNat : Int) 31 ≤ 30) (c : Int) (a : Addr)
    (hw : rl ((s.extract p s.size).extract 1 (s.size - p)) = (c, z1, z2)) (hv' : which sn c = (.iface 291 (.pointer (some a)))) :
    Calls Tryz.prog 156 #[.string s, .int .i64 p] w fun e w' => e = .returned (.tuple #[hv .zero, fault p a]) ∧ Below w.heap.size w w' := by
  have HW : Hid (rl ((s.extract p s.size).extract 1 (s.size - p)) = (c, z1, z2)) := hw
  have HV : Hid (which sn c = (.iface 291 (.pointer (some a)))) := hv'
  clear hw hv'
  have HS : Hid (Sent w sn) := hs
  have he := emp_f hz
  clear hs
  unfold fault hv Hd.zero
  go_enter Tryz.func156, Tryz.ntmps156
  go_wp2_with fail
  refine (readLength_eq _ _ sn c z1 z2 (.iface 291 (.pointer (some a))) (HS.out.below ((Below.refl _ _).alloc (Nat.le_refl _) _)) (by simp; omega) HW.out HV.out).mono ?_
  rintro e w1 ⟨rfl, hb⟩
  obtain ⟨hc, hf⟩ := bcell hb
  have hz' : w.heap.size < w1.heap.size := by have := hb.size; simp at this; omega
  have HB : Hid (Below (w.alloc (.cells #[.int .i64 0, .bool false, .int .i64 0, .int .i64 0, .int .i64 0] 179)).heap.size (w.alloc (.cells #[.int .i64 0, .bool false, .int .i64 0, .int .i64 0, .int .i64 0] 179)) w1) := hb
  clear hb
  go_wp2
  refine bodyPost_ret (v := .tuple #[.agg #[.int .i64 0, .bool false, .int .i64 0, .int .i64 0, .int .i64 0], .iface 155 (.agg #[.int .i64 p, .iface 291 (.pointer (some a))])]) (by simp [results, Tryz.results156, go_sem, hc]) rfl ⟨rfl, ?_⟩
  exact below5 (((Below.refl w.heap.size w).alloc (Nat.le_refl _) _).trans (HB.out.mono (by simp))) _ (Nat.le_refl _) _ _ _ _ _

set_option maxHeartbeats 1000000 in
set_option maxRecDepth 100000 in
theorem rd_end (s : ByteArray) (p : Nat) (w : World) (sn : Sn → Addr) (z1 z2 : Int) (hs : Sent w sn) (hm : s.size ≤ 9223372036854775807) (hp : p ≤ s.size) (hz : 0 < (s.extract p s.size).size) (hpos : 0 < s.size - p) (hx1 : ((s.extract p s.size)[0].toNat : Int) < 256) (hx2 : bits .and .i64 ((s.extract p s.size)[0].toNat : Int) 31 ≤ 30)
    (hw : rl ((s.extract p s.size).extract 1 (s.size - p)) = (0, z1, z2)) (b1 : 0 ≤ z1) (b2 : z1 ≤ 4) (b3 : 0 ≤ z2) (b4 : z2 < 16777216) (hl : ((s.size - p : Nat) : Int) - (z1 + 1) < z2) :
    Calls Tryz.prog 156 #[.string s, .int .i64 p] w fun e w' => e = .returned (.tuple #[hv .zero, fault p (sn .End)]) ∧ Below w.heap.size w w' := by
  have HW : Hid (rl ((s.extract p s.size).extract 1 (s.size - p)) = (0, z1, z2)) := hw
  have HV : Hid (which sn 0 = .nilIface) := rfl
  clear hw
  have HS : Hid (Sent w sn) := hs
  have he := emp_f hz
  have h0 := hs.cE
  have h0' := cell_lt hs.cE
  clear hs
  unfold fault hv Hd.zero
  go_enter Tryz.func156, Tryz.ntmps156
  go_wp2_with fail
  refine (readLength_eq _ _ sn 0 z1 z2 .nilIface (HS.out.below ((Below.refl _ _).alloc (Nat.le_refl _) _)) (by simp; omega) HW.out HV.out).mono ?_
  rintro e w1 ⟨rfl, hb⟩
  have h9 := ((HS.out.below ((Below.refl _ _).alloc (Nat.le_refl _) _)).below hb).cE
  obtain ⟨hc, hf⟩ := bcell hb
  have hz' : w.heap.size < w1.heap.size := by have := hb.size; simp at this; omega
  have HB : Hid (Below (w.alloc (.cells #[.int .i64 0, .bool false, .int .i64 0, .int .i64 0, .int .i64 0] 179)).heap.size (w.alloc (.cells #[.int .i64 0, .bool false, .int .i64 0, .int .i64 0, .int .i64 0] 179)) w1) := hb
  clear hb
  go_wp2
  refine bodyPost_ret (v := .tuple #[.agg #[.int .i64 0, .bool false, .int .i64 0, .int .i64 0, .int .i64 0], .iface 155 (.agg #[.int .i64 p, .iface 291 (.pointer (some (sn .End)))])]) (by simp [results, Tryz.results156, go_sem, hc]) rfl ⟨rfl, ?_⟩
  exact below5 (((Below.refl w.heap.size w).alloc (Nat.le_refl _) _).trans (HB.out.mono (by simp))) _ (Nat.le_refl _) _ _ _ _ _

set_option maxHeartbeats 1000000 in
set_option maxRecDepth 100000 in
theorem rd_ok (s : ByteArray) (p : Nat) (w : World) (sn : Sn → Addr) (z1 z2 : Int) (hs : Sent w sn) (hm : s.size ≤ 9223372036854775807) (hp : p ≤ s.size) (hz : 0 < (s.extract p s.size).size) (hpos : 0 < s.size - p) (hx1 : ((s.extract p s.size)[0].toNat : Int) < 256) (hx2 : bits .and .i64 ((s.extract p s.size)[0].toNat : Int) 31 ≤ 30)
    (hw : rl ((s.extract p s.size).extract 1 (s.size - p)) = (0, z1, z2)) (b1 : 0 ≤ z1) (b2 : z1 ≤ 4) (b3 : 0 ≤ z2) (b4 : z2 < 16777216) (hl : z2 ≤ ((s.size - p : Nat) : Int) - (z1 + 1)) :
    Calls Tryz.prog 156 #[.string s, .int .i64 p] w fun e w' => e = .returned (.tuple #[hv ⟨((s.extract p s.size)[0].toNat : Int) / 64, bits .and .i64 ((s.extract p s.size)[0].toNat : Int) 32 != 0, bits .and .i64 ((s.extract p s.size)[0].toNat : Int) 31, z1 + 1, z2⟩, .nilIface]) ∧ Below w.heap.size w w' := by
  have HW : Hid (rl ((s.extract p s.size).extract 1 (s.size - p)) = (0, z1, z2)) := hw
  have HV : Hid (which sn 0 = .nilIface) := rfl
  clear hw
  have HS : Hid (Sent w sn) := hs
  have he := emp_f hz
  clear hs
  unfold hv
  go_enter Tryz.func156, Tryz.ntmps156
  go_wp2_with fail
  refine (readLength_eq _ _ sn 0 z1 z2 .nilIface (HS.out.below ((Below.refl _ _).alloc (Nat.le_refl _) _)) (by simp; omega) HW.out HV.out).mono ?_
  rintro e w1 ⟨rfl, hb⟩
  obtain ⟨hc, hf⟩ := bcell hb
  have hz' : w.heap.size < w1.heap.size := by have := hb.size; simp at this; omega
  have HB : Hid (Below (w.alloc (.cells #[.int .i64 0, .bool false, .int .i64 0, .int .i64 0, .int .i64 0] 179)).heap.size (w.alloc (.cells #[.int .i64 0, .bool false, .int .i64 0, .int .i64 0, .int .i64 0] 179)) w1) := hb
  clear hb
  go_wp2
  refine bodyPost_ret (v := .tuple #[.agg #[.int .i64 (((s.extract p s.size)[0].toNat : Int) / 64), .bool (bits .and .i64 ((s.extract p s.size)[0].toNat : Int) 32 != 0), .int .i64 (bits .and .i64 ((s.extract p s.size)[0].toNat : Int) 31), .int .i64 (z1 + 1), .int .i64 z2], .nilIface]) (by simp [results, Tryz.results156, go_sem, hc]) rfl ⟨rfl, ?_⟩
  exact below5 (((Below.refl w.heap.size w).alloc (Nat.le_refl _) _).trans (HB.out.mono (by simp))) _ (Nat.le_refl _) _ _ _ _ _

/-- The error at a place, by its number. -/
def errAt (p : Int) (sn : Sn → Addr) (c : Int) : Value := if c = 0 then .nilIface else if c = 3 then fault p (sn .End) else if c = 4 then fault p (sn .Tag) else fault p (sn .Length)

theorem read_any (s : ByteArray) (p : Nat) (w : World) (sn : Sn → Addr) (hs : Sent w sn) (hm : s.size ≤ 9223372036854775807) (hp : p ≤ s.size) :
    Calls Tryz.prog 156 #[.string s, .int .i64 p] w fun e w' => e = .returned (.tuple #[hv (hd (s.extract p s.size)).2, errAt p sn (hd (s.extract p s.size)).1]) ∧ Below w.heap.size w w' := by
  have hsz : (s.extract p s.size).size = s.size - p := by simp
  unfold hd
  split
  · rename_i h; exact rd_empty s p w sn hs hm hp h
  rename_i h
  have hz : 0 < (s.extract p s.size).size := by omega
  have hpos : 0 < s.size - p := by omega
  have hb := b8_bd (s.extract p s.size) 0
  have e0 := b8_get (s.extract p s.size) 0 hz
  have ea := i64_and31 (b8 (s.extract p s.size) 0) hb.1 hb.2
  split
  · rename_i h1
    exact rd_tag s p w sn hs hm hp hz hpos (by rw [e0]; exact hb.2) (by rw [e0, ea]; omega)
  rename_i h1
  have hx1 : ((s.extract p s.size)[0].toNat : Int) < 256 := by rw [e0]; exact hb.2
  have hx2 : bits .and .i64 ((s.extract p s.size)[0].toNat : Int) 31 ≤ 30 := by rw [e0, ea]; omega
  rw [hsz]
  have hr := rl_bd ((s.extract p s.size).extract 1 (s.size - p))
  obtain ⟨c, z1, z2, hw⟩ : ∃ c z1 z2, rl ((s.extract p s.size).extract 1 (s.size - p)) = (c, z1, z2) := ⟨_, _, _, rfl⟩
  rw [hw] at hr ⊢
  simp only at hr ⊢
  split
  · rename_i h2
    rcases hr.1 with h | h | h
    · exact absurd h h2
    · subst h; exact rd_len s p w sn z1 z2 hs hm hp hz hpos hx1 hx2 3 (sn .End) hw rfl
    · subst h; exact rd_len s p w sn z1 z2 hs hm hp hz hpos hx1 hx2 5 (sn .Length) hw rfl
  rename_i h2
  have h2 : c = 0 := by omega
  subst h2
  split
  · rename_i h3
    exact rd_end s p w sn z1 z2 hs hm hp hz hpos hx1 hx2 hw hr.2.1 hr.2.2.1 hr.2.2.2.1 hr.2.2.2.2 h3
  · rename_i h3
    have := rd_ok s p w sn z1 z2 hs hm hp hz hpos hx1 hx2 hw hr.2.1 hr.2.2.1 hr.2.2.2.1 hr.2.2.2.2 (by omega)
    rw [e0, ea, i64_and32 _ hb.1 hb.2] at this
    exact this
end Go.Proofs.YtkkicodfpekbgaaGreatDoor

/-! element.Read from the front; hallmark.number of what it answers. -/
namespace Go.Proofs.YtkkicodfpekbgaaGreatDoor
set_option linter.unusedSimpArgs false
set_option linter.unusedVariables false
open Go.RowKit

theorem extract_all (s : ByteArray) : s.extract 0 s.size = s := by
  simp
theorem read0 (s : ByteArray) (w : World) (sn : Sn → Addr) (hs : Sent w sn) (hm : s.size ≤ 9223372036854775807) :
    Calls Tryz.prog 156 #[.string s, .int .i64 0] w fun e w' => e = .returned (.tuple #[hv (hd s).2, errAt 0 sn (hd s).1]) ∧ Below w.heap.size w w' := by
  have := read_any s 0 w sn hs hm (Nat.zero_le _)
  rw [extract_all] at this
  exact this
theorem hd_code (s : ByteArray) : (hd s).1 = 0 ∨ (hd s).1 = 3 ∨ (hd s).1 = 4 ∨ (hd s).1 = 5 := by
  have hr := (rl_bd (s.extract 1 s.size)).1
  unfold hd
  repeat' split
  all_goals simp
  omega
theorem number_any (p : Int) (c : Int) (w : World) (sn : Sn → Addr) (hs : Sent w sn) (hc : c = 0 ∨ c = 3 ∨ c = 4 ∨ c = 5) :
    Calls Tryz.prog 34 #[errAt p sn c] w fun e w' => e = .returned (.int .i64 c) ∧ Below w.heap.size w w' := by
  rcases hc with rfl | rfl | rfl | rfl
  · exact (number_nil w).mono fun e w' h => ⟨h.1, h.2 ▸ Below.refl _ _⟩
  · exact number_E p w sn hs
  · exact number_T p w sn hs
  · exact number_L p w sn hs
end Go.Proofs.YtkkicodfpekbgaaGreatDoor

/-! string of a slice of the call's own. -/
namespace Go.Proofs.YtkkicodfpekbgaaGreatDoor
set_option linter.unusedSimpArgs false
set_option linter.unusedVariables false
open Go.RowKit

theorem Tryz.info8 : (Tryz.prog.info? 5).map (fun i => (i.zero, i.size, i.bytes)) = some (some (.int .u8 0), 1, 1) := by kernel_rfl
/-- string(v), v a slice of the call's own that holds these bytes. -/
theorem conv_own {w : World} {B n : Nat} {v : Value} {l : List UInt8} (h : w.ownsRow B 5 1 v n (l.map bv)) (hl : l ≠ []) :
    (convert 52 9 v).run Tryz.prog w = .ok (.string ⟨l.toArray⟩) w := by
  obtain ⟨h1, h2⟩ := h
  have hn : n = l.length := by simpa using h1.symm
  subst hn
  rcases h2 with ⟨_, h0⟩ | ⟨g, cap, cur, rfl, _, hg, hc, _, hs, ht⟩
  · exact absurd (List.length_eq_zero_iff.1 h0) hl
  refine run_convert_bytes_back w 52 9 5 ⟨g, 0, none⟩ cap l Tryz.underlying52 Tryz.underlying5 Tryz.underlying9 fun j hj => ?_
  have e1 : (⟨g, 0, none⟩ : Addr).add j = ⟨g, j, none⟩ := by unfold Addr.add; split <;> simp_all
  rw [e1]
  have e2 : w.cell? ⟨g, j, none⟩ = cur[j]? := by simp [World.cell?, hg]
  rw [e2]
  have e3 : (cur.toList.take (l.length * 1))[j]? = (l.map bv)[j]? := by rw [ht]
  rw [Nat.mul_one, List.getElem?_take_of_lt hj, List.getElem?_map, List.getElem?_eq_getElem hj] at e3
  rw [← Array.getElem?_toList, e3]
  rfl
theorem conv_one (x : Int) (h0 : 0 ≤ x) (h1 : x < 256) (w : World) : (convert 52 9 (.slice (some ⟨w.heap.size, 0, none⟩) 1 1)).run Tryz.prog (w.alloc (.cells #[.int .u8 x] 5)) = .ok (.string ⟨#[UInt8.ofNat x.toNat]⟩) (w.alloc (.cells #[.int .u8 x] 5)) := by
  refine conv_own (B := 0) (n := 1) (l := [UInt8.ofNat x.toNat]) ⟨by simp, .inr ⟨w.heap.size, 1, #[.int .u8 x], rfl, Nat.zero_le _, heap_alloc_new w _, by omega, by decide, rfl, ?_⟩⟩ (by simp)
  simp [bv_of x h0 h1]
end Go.Proofs.YtkkicodfpekbgaaGreatDoor

/-! The document's Length. -/
namespace Go.Proofs.YtkkicodfpekbgaaGreatDoor
set_option linter.unusedSimpArgs false
set_option linter.unusedVariables false
open Go.RowKit

theorem conv_at (x : Int) (h0 : 0 ≤ x) (h1 : x < 256) (w : World) (k : Nat) (hk : k = w.heap.size) : (convert 52 9 (.slice (some ⟨k, 0, none⟩) 1 1)).run Tryz.prog (w.alloc (.cells #[.int .u8 x] 5)) = .ok (.string ⟨#[UInt8.ofNat x.toNat]⟩) (w.alloc (.cells #[.int .u8 x] 5)) := by
  subst hk; exact conv_one x h0 h1 w
theorem conv_cell (x : Int) (h0 : 0 ≤ x) (h1 : x < 256) (W : World) (k : Nat) (hk : W.cell? ⟨k, 0, none⟩ = some (.int .u8 x)) : (convert 52 9 (.slice (some ⟨k, 0, none⟩) 1 1)).run Tryz.prog W = .ok (.string ⟨#[UInt8.ofNat x.toNat]⟩) W := by
  refine run_convert_bytes_back W 52 9 5 ⟨k, 0, none⟩ 1 [UInt8.ofNat x.toNat] Tryz.underlying52 Tryz.underlying5 Tryz.underlying9 fun j hj => ?_
  have : j = 0 := by simpa using hj
  subst this
  have e1 : (⟨k, 0, none⟩ : Addr).add 0 = ⟨k, 0, none⟩ := by unfold Addr.add; split <;> simp_all
  rw [e1, hk]
  have := bv_of x h0 h1
  unfold bv at this
  simpa using this.symm
theorem ret_str {a b : ByteArray} (h : a = b) : Ending.returned (.string a) = .returned (.string b) := by rw [h]

set_option maxHeartbeats 1000000 in
set_option maxRecDepth 100000 in
theorem len_0 (L : Int) (w : World) (h0 : 0 ≤ L) (h1 : L < 128) :
    Calls Tryz.prog 147 #[.int .i64 L] w fun e w' => e = .returned (.string ⟨#[UInt8.ofNat L.toNat]⟩) ∧ Below w.heap.size w w' := by
  have hc := conv_at L h0 (by omega)
  go_enter Tryz.func147, Tryz.ntmps147
  go_wp2
  go_ret
  exact ⟨rfl, (Below.refl _ _).alloc (Nat.le_refl _) _⟩

set_option maxHeartbeats 1000000 in
set_option maxRecDepth 100000 in
theorem len_1 (L : Int) (w : World) (h0 : 128 ≤ L) (h1 : L < 256) :
    Calls Tryz.prog 147 #[.int .i64 L] w fun e w' => e = .returned (.string ⟨#[129, UInt8.ofNat L.toNat]⟩) ∧ Below w.heap.size w w' := by
  have hc0 := conv_at (L) (by omega) (by omega)
  have hc1 := conv_at (L % 256) (by omega) (by omega)
  have hc2 := conv_at (129) (by omega) (by omega)
  go_enter Tryz.func147, Tryz.ntmps147
  go_wp2
  refine wp_loop_rounds 2 ?_
  rw [rounds_succ]
  go_wp2
  rw [rounds_succ]
  go_wp2
  go_ret
  refine ⟨ret_str ?_, (((Below.refl w.heap.size w).alloc (by simp; try omega) _).alloc (by simp; try omega) _)⟩
  apply ByteArray.ext
  simp
  rw [show L % 256 = L by omega]

set_option maxHeartbeats 1000000 in
set_option maxRecDepth 100000 in
theorem len_2 (L : Int) (w : World) (h0 : 256 ≤ L) (h1 : L < 65536) :
    Calls Tryz.prog 147 #[.int .i64 L] w fun e w' => e = .returned (.string ⟨#[130, UInt8.ofNat (L / 256).toNat, UInt8.ofNat (L % 256).toNat]⟩) ∧ Below w.heap.size w w' := by
  have hc0 := conv_at (L % 256) (by omega) (by omega)
  have hc1 := conv_at (L / 256 % 256) (by omega) (by omega)
  have hc2 := conv_at (L / 256) (by omega) (by omega)
  have hc3 := conv_at (130) (by omega) (by omega)
  go_enter Tryz.func147, Tryz.ntmps147
  go_wp2
  refine wp_loop_rounds 3 ?_
  rw [rounds_succ]
  go_wp2
  rw [rounds_succ]
  go_wp2
  rw [rounds_succ]
  go_wp2
  go_ret
  refine ⟨ret_str ?_, ((((Below.refl w.heap.size w).alloc (by simp; try omega) _).alloc (by simp; try omega) _).alloc (by simp; try omega) _)⟩
  apply ByteArray.ext
  simp
  rw [show L / 256 % 256 = L / 256 by omega]

set_option maxHeartbeats 1000000 in
set_option maxRecDepth 100000 in
theorem len_3 (L : Int) (w : World) (h0 : 65536 ≤ L) (h1 : L < 16777216) :
    Calls Tryz.prog 147 #[.int .i64 L] w fun e w' => e = .returned (.string ⟨#[131, UInt8.ofNat (L / 65536).toNat, UInt8.ofNat (L / 256 % 256).toNat, UInt8.ofNat (L % 256).toNat]⟩) ∧ Below w.heap.size w w' := by
  have hc0 := conv_at (L % 256) (by omega) (by omega)
  have hc1 := conv_at (L / 256 % 256) (by omega) (by omega)
  have hc2 := conv_at (L / 256 / 256 % 256) (by omega) (by omega)
  have hc3 := conv_at (L / 256 / 256) (by omega) (by omega)
  have hc4 := conv_at (131) (by omega) (by omega)
  go_enter Tryz.func147, Tryz.ntmps147
  go_wp2
  refine wp_loop_rounds 4 ?_
  rw [rounds_succ]
  go_wp2
  rw [rounds_succ]
  go_wp2
  rw [rounds_succ]
  go_wp2
  rw [rounds_succ]
  go_wp2
  go_ret
  refine ⟨ret_str ?_, (((((Below.refl w.heap.size w).alloc (by simp; try omega) _).alloc (by simp; try omega) _).alloc (by simp; try omega) _).alloc (by simp; try omega) _)⟩
  apply ByteArray.ext
  simp
  rw [show L / 256 / 256 % 256 = L / 65536 by omega]

theorem Length_any (L : Int) (w : World) (h0 : 0 ≤ L) (h1 : L < 16777216) :
    Calls Tryz.prog 147 #[.int .i64 L] w fun e w' => e = .returned (.string ⟨(tl L).toArray⟩) ∧ Below w.heap.size w w' := by
  unfold tl
  split
  · exact len_0 L w h0 (by omega)
  split
  · exact len_1 L w (by omega) (by omega)
  split
  · exact len_2 L w (by omega) (by omega)
  · exact len_3 L w (by omega) (by omega)
end Go.Proofs.YtkkicodfpekbgaaGreatDoor
