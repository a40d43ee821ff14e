/-
  Several texts in one:
  schemas.ownTag, outerTag: what they answer, where the table of own numbers lies.
  errors.Is over the program's own Fault (a struct by value that wraps a sentinel): what it answers, by contracts; then the number by which a call answers.
  The package's errors: which there are, and that each variable holds one of its own.
  Calls inside regions that draw their order: a step by the callee's contract.
  Calls inside regions that draw their order, under a guard or with a result that is told by a relation.
  Regions that draw their order, whose operations read and whose callees leave all that was there: one walk.
  The number by which a call answers an error: hallmark.number.
  hallmarkkeep.pick: a raw number, taken into its bounds.
  hallmarkkeep's maker: raw numbers and texts, used up one after the other.
  readLength: what it answers.
  element.Read: what it answers.
  element.Read from the front; hallmark.number of what it answers.
  string of a slice of the call's own.
  The document's Length.
  hallmarkkeep's maker: contents.
  schemas.isOpen, mayLack, isTagged, kidBounds: what they answer.
  Schemas: the pure part of the search for the leaves, as the program goes (a stack; what was put on it is marked).
  schemas.reach: the nodes where one comes to, and whether one comes back.
  hallmarkref.Own: the number of a kind's own tag.
  hallmarkref.Begins: what it answers.
-/
import Derived.Test.YtkkicodfpekbgaaGreatDoorJ0
import Derived.Test.YtkkicodfpekbgaaGreatDoorRows
import Derived.WalkKit
import Derived.WalkSpells
import Derived.WalkLawsBesides
import Derived.LaidEql
import Derived.Stop.Asserts
import Derived.RowKitTokens
import Derived.Deep.RegionLaw
import Derived.BigQuiet
import Derived.Deep.QuietTactic
import Derived.Deep.RegionWith
import Derived.Laws.IdiomStrings
import Derived.Deep.LoopGhost
/-! schemas.ownTag, outerTag: what they answer, where the table of own numbers lies. -/
namespace Go.Proofs.YtkkicodfpekbgaaGreatDoor
set_option linter.unusedSimpArgs false
set_option linter.unusedVariables false
open Go.RowKit

/-- The table of the kinds' own numbers lies. -/
def Nums (w : World) : Prop := ∀ j : Nat, j ≤ 12 → w.cell? ⟨16, j, none⟩ = some (.int .i64 (own j))
theorem Nums.below {w w' : World} (h : Nums w) (hb : Below w.heap.size w w') : Nums w' := fun j hj => (hb.cell (lt_of_cell (h j hj))).trans (h j hj)

set_option maxHeartbeats 1000000 in
set_option maxRecDepth 100000 in
theorem ownTag_any (k : Int) (h : 0 ≤ k) (h' : k ≤ 12) (w : World) (hn : Nums w) :
    Calls Tryz.prog 179 #[.int .i64 k] w fun e w' => e = .returned (.agg #[.int .i64 0, .int .i64 (own k)]) ∧ Below w.heap.size w w' := by
  obtain ⟨n, rfl⟩ : ∃ n : Nat, k = n := ⟨k.toNat, by omega⟩
  have c := hn n (by omega)
  have hl := lt_of_cell c
  simp only at hl
  clear hn
  have h13 : (n : Int) < 13 := by omega
  go_enter Tryz.func179, Tryz.ntmps179
  go_wp2
  refine bodyPost_ret (v := .agg #[.int .i64 0, .int .i64 (own n)]) (by simp [results, Tryz.results179, go_sem]) rfl ⟨rfl, ?_⟩
  exact (Below.refl _ _).alloc (Nat.le_refl _) _

set_option maxHeartbeats 1000000 in
set_option maxRecDepth 100000 in
theorem outerTag_any (n : Nd) (ka : Option Addr) (kc : Nat) (w : World) (hn : Nums w) (ht : -1 ≤ n.tag) (hk : 0 ≤ n.kind) (hk' : n.tag < 0 → n.kind ≤ 12) :
    Calls Tryz.prog 140 #[.agg #[.int .i64 n.kind, .int .i64 n.tag, .int .i64 n.mode, .slice ka n.kids.length kc]] w fun e w' => e = .returned (.agg #[.int .i64 n.outer.1, .int .i64 n.outer.2]) ∧ Below w.heap.size w w' := by
  by_cases h : 0 ≤ n.tag
  · have e : n.outer = (2, n.tag) := by unfold Nd.outer; rw [if_pos h]
    have h1 : (n.tag != -1) = true := by rw [bne_iff_ne]; omega
    rw [e]
    clear e hk' hn
    go_enter Tryz.func140, Tryz.ntmps140
    go_wp2
    refine bodyPost_ret (v := .agg #[.int .i64 2, .int .i64 n.tag]) (by simp [results, Tryz.results140, go_sem]) rfl ⟨rfl, ?_⟩
    exact ((Below.refl _ _).alloc (Nat.le_refl _) _).alloc (by simp) _
  · have e : n.outer = (0, own n.kind) := by unfold Nd.outer; rw [if_neg h]
    have h1 : (n.tag != -1) = false := by rw [bne_eq_false_iff_eq]; omega
    have HC : Hid (∀ w, Nums w → Calls Tryz.prog 179 #[.int .i64 n.kind] w fun e w' => e = .returned (.agg #[.int .i64 0, .int .i64 (own n.kind)]) ∧ Below w.heap.size w w') := fun w q => ownTag_any n.kind hk (hk' (by omega)) w q
    have HN : Hid (∀ o1 o2, Nums ((w.alloc o1).alloc o2)) := fun o1 o2 => hn.below (((Below.refl _ _).alloc (Nat.le_refl _) _).alloc (by simp) _)
    rw [e]
    clear e hk' hn
    go_enter Tryz.func140, Tryz.ntmps140
    go_wp2_with fail
    refine (HC.out _ (HN.out _ _)).mono ?_
    rintro e w1 ⟨rfl, hb⟩
    have HB : Hid (Below w.heap.size w w1) := below_alloc (below_alloc hb)
    have hG : w1.heap[w.heap.size + 1]? = some (.cells #[.int .i64 0, .int .i64 0] 147 (0, 0)) := block_below (by simpa using heap_alloc_new (w.alloc _) _) hb
    have q0 : w1.cell? ⟨w.heap.size + 1, 0, none⟩ = some (.int .i64 0) := by simp [World.cell?, hG]
    have q1 : w1.cell? ⟨w.heap.size + 1, 1, none⟩ = some (.int .i64 0) := by simp [World.cell?, hG]
    have f0 : w1.frozen? ⟨w.heap.size + 1, 0, none⟩ = false := by simp [World.frozen?, hG]
    have f1 : w1.frozen? ⟨w.heap.size + 1, 1, none⟩ = false := by simp [World.frozen?, hG]
    clear hb hG
    go_wp2
    refine bodyPost_ret (v := .agg #[.int .i64 0, .int .i64 (own n.kind)]) (by simp [results, Tryz.results140, go_sem, q0, q1]) rfl ⟨rfl, ?_⟩
    exact (HB.out.setCell (p := ⟨w.heap.size + 1, 0, none⟩) (by simp) _).setCell (p := ⟨w.heap.size + 1, 1, none⟩) (by simp) _
end Go.Proofs.YtkkicodfpekbgaaGreatDoor

/-! errors.Is over the program's own Fault (a struct by value that wraps a sentinel): what it answers, by contracts; then the number by which a call answers. -/
namespace Go.Proofs.YtkkicodfpekbgaaGreatDoor
set_option linter.unusedSimpArgs false
set_option linter.unusedVariables false
open Go.RowKit Go.Extern.Stop Go.Stop Go.Extern

theorem Tryz.isTypeOf (v : Value) (w : World) : (Extern.ReflectliteType.typeOf #[.iface 291 v]).run Tryz.prog w = .ok (.iface 220 (.agg #[.pointer (some ⟨19, 291, none⟩)])) w := by kernel_rfl
/-- The model's own row for (rtype).Comparable. -/
def compEntry : Array Value → Sem Value := Extern.ReflectliteType.method fun t => do Extern.Rtype.noPackHeld "Comparable" t; pure (.bool (← typeInfo t).comparable)
theorem Tryz.isComparable (w : World) : (compEntry #[.agg #[.pointer (some ⟨19, 291, none⟩)]]).run Tryz.prog w = .ok (.bool true) w := by kernel_rfl
theorem Tryz.callComparable (w : World) : (callFunc 237 #[.agg #[.pointer (some ⟨19, 291, none⟩)]]).run Tryz.prog w = .ok (.value (.bool true)) w := by
  rw [@run_callFunc_extern Tryz.prog 237 _ compEntry Tryz.func237 (by kernel_rfl) (by kernel_rfl) (by kernel_rfl) (by kernel_rfl), Tryz.isComparable]
  rfl
theorem Tryz.callTypeOf (v : Value) (w : World) : (callFunc 90 #[.iface 291 v]).run Tryz.prog w = .ok (.value (.iface 220 (.agg #[.pointer (some ⟨19, 291, none⟩)]))) w := by
  rw [@run_callFunc_extern Tryz.prog 90 _ Extern.ReflectliteType.typeOf Tryz.func90 (by kernel_rfl) (by kernel_rfl) (by kernel_rfl) (by kernel_rfl), Tryz.isTypeOf]
  rfl
theorem Tryz.isMethodComparable (v : Value) (w : World) : (Go.method 424 220 v "Comparable").run Tryz.prog w = .ok (237, v) w := by kernel_rfl
theorem Tryz.isComp : (Tryz.prog.info? 291).map (·.comparable) = some true := by kernel_rfl
theorem Tryz.isSize : (Tryz.prog.info? 312).map (·.size) = some 1 := by kernel_rfl
theorem Tryz.noIsE (v : Value) (xT : TypeId) (w : World) : (Instr.typeAssert (.iface 291 v) xT 222 true).run Tryz.prog w = .ok (.tuple #[.nilIface, .bool false]) w := run_typeAssert_lacksB Tryz.underlying222 (by kernel_rfl) (by kernel_rfl) v xT w
theorem Tryz.noUnwrapE (v : Value) (xT : TypeId) (w : World) : (Instr.typeAssert (.iface 291 v) xT 225 true).run Tryz.prog w = .ok (.tuple #[.nilIface, .bool false]) w := run_typeAssert_lacksB Tryz.underlying225 (by kernel_rfl) (by kernel_rfl) v xT w
theorem Tryz.noUnwrapsE (v : Value) (xT : TypeId) (w : World) : (Instr.typeAssert (.iface 291 v) xT 227 true).run Tryz.prog w = .ok (.tuple #[.nilIface, .bool false]) w := run_typeAssert_lacksB Tryz.underlying227 (by kernel_rfl) (by kernel_rfl) v xT w
theorem Tryz.noIsF (v : Value) (xT : TypeId) (w : World) : (Instr.typeAssert (.iface 155 v) xT 222 true).run Tryz.prog w = .ok (.tuple #[.nilIface, .bool false]) w := run_typeAssert_lacksB Tryz.underlying222 (by kernel_rfl) (by kernel_rfl) v xT w
theorem Tryz.hasUnwrapF (v : Value) (xT : TypeId) (w : World) : (Instr.typeAssert (.iface 155 v) xT 225 true).run Tryz.prog w = .ok (.tuple #[.iface 155 v, .bool true]) w := run_typeAssert_hasB Tryz.underlying225 (by kernel_rfl) v xT w
theorem Tryz.methodUnwrap (v : Value) (w : World) : (Go.method 424 155 v "Unwrap").run Tryz.prog w = .ok (231, v) w := by kernel_rfl

/-- The error that wraps the sentinel at a, at a place. -/
def fault (p : Int) (a : Addr) : Value := .iface 155 (.agg #[.int .i64 p, .iface 291 (.pointer (some a))])

set_option maxHeartbeats 1000000 in
set_option maxRecDepth 100000 in
theorem is_same (p : Int) (b : Addr) (w : World) :
    Calls Tryz.prog 59 #[fault p b, .iface 291 (.pointer (some b))] w fun e w' => e = .returned (.bool true) ∧ Below w.heap.size w w' := by
  obtain ⟨i, hi, hcmp⟩ := Option.map_eq_some_iff.1 Tryz.isComp
  obtain ⟨j, hj, hjs⟩ := Option.map_eq_some_iff.1 Tryz.isSize
  have h8 := Tryz.callTypeOf
  have h32 := Tryz.callComparable
  have mR := Tryz.isMethodComparable
  have nF := Tryz.noIsF
  have uF := Tryz.hasUnwrapF
  have mU := Tryz.methodUnwrap
  have heq := fun w => run_eql_iface_ptr_same (P := Tryz.prog) w b Tryz.underlying85 Tryz.underlying291 hi hcmp hj
  have hty := fun x w => run_eql_iface_types (P := Tryz.prog) 155 291 x (.pointer (some b)) Tryz.underlying85 (by decide) w
  unfold fault
  go_enter Tryz.func59, Tryz.ntmps59
  go_wp2
  refine wp_loop_rounds 2 ?_
  rw [rounds_succ]
  go_wp2
  rw [rounds_succ]
  go_wp2
  go_ret
  exact ⟨rfl, (Below.refl _ _).alloc (Nat.le_refl _) _⟩

set_option maxHeartbeats 1000000 in
set_option maxRecDepth 100000 in
theorem is_other (p : Int) (a b : Addr) (ca cb : Array Value) (ta tb : TypeId) (w : World) (hne : a ≠ b) (ha : w.heap[a.block]? = some (.cells ca ta (0, 0))) (hb : w.heap[b.block]? = some (.cells cb tb (0, 0))) :
    Calls Tryz.prog 59 #[fault p a, .iface 291 (.pointer (some b))] w fun e w' => e = .returned (.bool false) ∧ Below w.heap.size w w' := by
  obtain ⟨i, hi, hcmp⟩ := Option.map_eq_some_iff.1 Tryz.isComp
  obtain ⟨j, hj, hjs⟩ := Option.map_eq_some_iff.1 Tryz.isSize
  have lt : ∀ {k : Nat} {o : Obj}, w.heap[k]? = some o → k < w.heap.size := fun {k o} h => by
    rcases Nat.lt_or_ge k w.heap.size with h' | h'
    · exact h'
    · rw [Array.getElem?_eq_none h'] at h; cases h
  have heq := fun o => run_eql_iface_ptr_other (P := Tryz.prog) (w.alloc o) Tryz.underlying85 Tryz.underlying291 hi hcmp hj (by rw [hjs]; decide) hne ((Below.heap_alloc w o _ (lt ha)).trans ha) ((Below.heap_alloc w o _ (lt hb)).trans hb)
  clear lt ha hb
  have h8 := Tryz.callTypeOf
  have h32 := Tryz.callComparable
  have mR := Tryz.isMethodComparable
  have nF := Tryz.noIsF
  have uF := Tryz.hasUnwrapF
  have mU := Tryz.methodUnwrap
  have nE := Tryz.noIsE
  have uE := Tryz.noUnwrapE
  have vE := Tryz.noUnwrapsE
  have hty := fun x w => run_eql_iface_types (P := Tryz.prog) 155 291 x (.pointer (some b)) Tryz.underlying85 (by decide) w
  unfold fault
  go_enter Tryz.func59, Tryz.ntmps59
  go_wp2
  refine wp_loop_rounds 2 ?_
  rw [rounds_succ]
  go_wp2
  rw [rounds_succ]
  go_wp2
  go_ret
  exact ⟨rfl, (Below.refl _ _).alloc (Nat.le_refl _) _⟩

/-- errors.Is of such an error against a sentinel. -/
theorem is_any (p : Int) (a b : Addr) (w : World) (ha : ∃ c t, w.heap[a.block]? = some (.cells c t (0, 0))) (hb : ∃ c t, w.heap[b.block]? = some (.cells c t (0, 0))) :
    Calls Tryz.prog 59 #[fault p a, .iface 291 (.pointer (some b))] w fun e w' => e = .returned (.bool (decide (a = b))) ∧ Below w.heap.size w w' := by
  by_cases h : a = b
  · subst h
    simpa using is_same p a w
  · obtain ⟨c, t, ha⟩ := ha
    obtain ⟨c', t', hb⟩ := hb
    simpa [h] using is_other p a b c c' t t' w h ha hb

end Go.Proofs.YtkkicodfpekbgaaGreatDoor

/-! The package's errors: which there are, and that each variable holds one of its own. -/
namespace Go.Proofs.YtkkicodfpekbgaaGreatDoor
set_option linter.unusedSimpArgs false
set_option linter.unusedVariables false
open Go.RowKit

/-- The errors that hallmark.number asks for, in its order. -/
abbrev Sn := Fin 12
def Sn.Long : Sn := ⟨0, by decide⟩
def Sn.End : Sn := ⟨1, by decide⟩
def Sn.Tag : Sn := ⟨2, by decide⟩
def Sn.Length : Sn := ⟨3, by decide⟩
def Sn.Value : Sn := ⟨4, by decide⟩
def Sn.More : Sn := ⟨5, by decide⟩
def Sn.Order : Sn := ⟨6, by decide⟩
def Sn.Default : Sn := ⟨7, by decide⟩
def Sn.Deep : Sn := ⟨8, by decide⟩
def Sn.Tree : Sn := ⟨9, by decide⟩
def Sn.Card : Sn := ⟨10, by decide⟩
def Sn.Mark : Sn := ⟨11, by decide⟩
theorem Sn.all {P : Sn → Prop} (h0 : P .Long) (h1 : P .End) (h2 : P .Tag) (h3 : P .Length) (h4 : P .Value) (h5 : P .More) (h6 : P .Order) (h7 : P .Default) (h8 : P .Deep) (h9 : P .Tree) (h10 : P .Card) (h11 : P .Mark) : ∀ s, P s
  | ⟨0, _⟩ => h0
  | ⟨1, _⟩ => h1
  | ⟨2, _⟩ => h2
  | ⟨3, _⟩ => h3
  | ⟨4, _⟩ => h4
  | ⟨5, _⟩ => h5
  | ⟨6, _⟩ => h6
  | ⟨7, _⟩ => h7
  | ⟨8, _⟩ => h8
  | ⟨9, _⟩ => h9
  | ⟨10, _⟩ => h10
  | ⟨11, _⟩ => h11
  | ⟨n + 12, h⟩ => absurd h (by omega)
/-- The variable of each. -/
def Sn.var (s : Sn) : Nat := [0, 1, 2, 3, 4, 5, 6, 7, 8, 9, 10, 11].getD s.val 0
/-- The number by which each is answered. -/
def Sn.code (s : Sn) : Int := [2, 3, 4, 5, 6, 7, 8, 9, 10, 11, 12, 13].getD s.val 0

/-- The errors lie where the variables point, each at a place of its own. -/
structure Sent (w : World) (sn : Sn → Addr) : Prop where
  c : ∀ s : Sn, w.cell? ⟨s.var, 0, none⟩ = some (.iface 291 (.pointer (some (sn s))))
  r : ∀ s : Sn, ∃ c t, w.heap[(sn s).block]? = some (.cells c t (0, 0))
  inj : ∀ s t : Sn, sn s = sn t → s = t
theorem cell_lt {w : World} {a : Addr} {v : Value} (h : w.cell? a = some v) : a.block < w.heap.size := by
  rcases Nat.lt_or_ge a.block w.heap.size with h' | h'
  · exact h'
  · simp [World.cell?, Array.getElem?_eq_none h'] at h
theorem row_lt {w : World} {k : Nat} {o : Obj} (h : w.heap[k]? = some o) : k < w.heap.size := by
  rcases Nat.lt_or_ge k w.heap.size with h' | h'
  · exact h'
  · rw [Array.getElem?_eq_none h'] at h; cases h
theorem row_below {w w' : World} {k : Nat} (h : ∃ c t, w.heap[k]? = some (.cells c t (0, 0))) (hb : Below w.heap.size w w') : ∃ c t, w'.heap[k]? = some (.cells c t (0, 0)) := by
  obtain ⟨c, t, e⟩ := h; exact ⟨c, t, (hb.block _ (row_lt e)).trans e⟩
theorem Sent.below {w w' : World} {sn : Sn → Addr} (h : Sent w sn) (hb : Below w.heap.size w w') : Sent w' sn where
  c := fun s => (hb.cell (cell_lt (h.c s))).trans (h.c s)
  r := fun s => row_below (h.r s) hb
  inj := h.inj
theorem bcell {W w1 : World} (hb : Below W.heap.size W w1) : (∀ b o, b < W.heap.size → w1.cell? ⟨b, o, none⟩ = W.cell? ⟨b, o, none⟩) ∧ (∀ b o, b < W.heap.size → w1.frozen? ⟨b, o, none⟩ = W.frozen? ⟨b, o, none⟩) :=
  ⟨fun b o h => hb.cell (p := ⟨b, o, none⟩) h, fun b o h => hb.frozen (p := ⟨b, o, none⟩) h⟩

theorem Sent.cLong {w : World} {sn : Sn → Addr} (h : Sent w sn) : w.cell? ⟨0, 0, none⟩ = some (.iface 291 (.pointer (some (sn .Long)))) := h.c .Long
theorem Sent.cEnd {w : World} {sn : Sn → Addr} (h : Sent w sn) : w.cell? ⟨1, 0, none⟩ = some (.iface 291 (.pointer (some (sn .End)))) := h.c .End
theorem Sent.cTag {w : World} {sn : Sn → Addr} (h : Sent w sn) : w.cell? ⟨2, 0, none⟩ = some (.iface 291 (.pointer (some (sn .Tag)))) := h.c .Tag
theorem Sent.cLength {w : World} {sn : Sn → Addr} (h : Sent w sn) : w.cell? ⟨3, 0, none⟩ = some (.iface 291 (.pointer (some (sn .Length)))) := h.c .Length
theorem Sent.cValue {w : World} {sn : Sn → Addr} (h : Sent w sn) : w.cell? ⟨4, 0, none⟩ = some (.iface 291 (.pointer (some (sn .Value)))) := h.c .Value
theorem Sent.cMore {w : World} {sn : Sn → Addr} (h : Sent w sn) : w.cell? ⟨5, 0, none⟩ = some (.iface 291 (.pointer (some (sn .More)))) := h.c .More
theorem Sent.cOrder {w : World} {sn : Sn → Addr} (h : Sent w sn) : w.cell? ⟨6, 0, none⟩ = some (.iface 291 (.pointer (some (sn .Order)))) := h.c .Order
theorem Sent.cDefault {w : World} {sn : Sn → Addr} (h : Sent w sn) : w.cell? ⟨7, 0, none⟩ = some (.iface 291 (.pointer (some (sn .Default)))) := h.c .Default
theorem Sent.cDeep {w : World} {sn : Sn → Addr} (h : Sent w sn) : w.cell? ⟨8, 0, none⟩ = some (.iface 291 (.pointer (some (sn .Deep)))) := h.c .Deep
theorem Sent.cTree {w : World} {sn : Sn → Addr} (h : Sent w sn) : w.cell? ⟨9, 0, none⟩ = some (.iface 291 (.pointer (some (sn .Tree)))) := h.c .Tree
theorem Sent.cCard {w : World} {sn : Sn → Addr} (h : Sent w sn) : w.cell? ⟨10, 0, none⟩ = some (.iface 291 (.pointer (some (sn .Card)))) := h.c .Card
theorem Sent.cMark {w : World} {sn : Sn → Addr} (h : Sent w sn) : w.cell? ⟨11, 0, none⟩ = some (.iface 291 (.pointer (some (sn .Mark)))) := h.c .Mark
theorem Sent.cE {w : World} {sn : Sn → Addr} (h : Sent w sn) : w.cell? ⟨1, 0, none⟩ = some (.iface 291 (.pointer (some (sn .End)))) := h.c .End
theorem Sent.cT {w : World} {sn : Sn → Addr} (h : Sent w sn) : w.cell? ⟨2, 0, none⟩ = some (.iface 291 (.pointer (some (sn .Tag)))) := h.c .Tag
theorem Sent.cL {w : World} {sn : Sn → Addr} (h : Sent w sn) : w.cell? ⟨3, 0, none⟩ = some (.iface 291 (.pointer (some (sn .Length)))) := h.c .Length
/-- The number of the error that lies at an address. -/
def nm (sn : Sn → Addr) (x : Addr) : Int :=
  if x = sn .Long then 2 else if x = sn .End then 3 else if x = sn .Tag then 4 else if x = sn .Length then 5 else if x = sn .Value then 6 else if x = sn .More then 7 else if x = sn .Order then 8 else if x = sn .Default then 9 else if x = sn .Deep then 10 else if x = sn .Tree then 11 else if x = sn .Card then 12 else if x = sn .Mark then 13 else 1
theorem Sent.nm {w : World} {sn : Sn → Addr} (h : Sent w sn) (s : Sn) : nm sn (sn s) = s.code := by
  have e : ∀ s t : Sn, s ≠ t → ¬ sn s = sn t := fun s t q p => q (h.inj s t p)
  revert s
  unfold Go.Proofs.YtkkicodfpekbgaaGreatDoor.nm
  refine Sn.all ?_ ?_ ?_ ?_ ?_ ?_ ?_ ?_ ?_ ?_ ?_ ?_
  · rw [if_pos rfl]; rfl
  · rw [if_neg (e .End .Long (by decide)), if_pos rfl]; rfl
  · rw [if_neg (e .Tag .Long (by decide)), if_neg (e .Tag .End (by decide)), if_pos rfl]; rfl
  · rw [if_neg (e .Length .Long (by decide)), if_neg (e .Length .End (by decide)), if_neg (e .Length .Tag (by decide)), if_pos rfl]; rfl
  · rw [if_neg (e .Value .Long (by decide)), if_neg (e .Value .End (by decide)), if_neg (e .Value .Tag (by decide)), if_neg (e .Value .Length (by decide)), if_pos rfl]; rfl
  · rw [if_neg (e .More .Long (by decide)), if_neg (e .More .End (by decide)), if_neg (e .More .Tag (by decide)), if_neg (e .More .Length (by decide)), if_neg (e .More .Value (by decide)), if_pos rfl]; rfl
  · rw [if_neg (e .Order .Long (by decide)), if_neg (e .Order .End (by decide)), if_neg (e .Order .Tag (by decide)), if_neg (e .Order .Length (by decide)), if_neg (e .Order .Value (by decide)), if_neg (e .Order .More (by decide)), if_pos rfl]; rfl
  · rw [if_neg (e .Default .Long (by decide)), if_neg (e .Default .End (by decide)), if_neg (e .Default .Tag (by decide)), if_neg (e .Default .Length (by decide)), if_neg (e .Default .Value (by decide)), if_neg (e .Default .More (by decide)), if_neg (e .Default .Order (by decide)), if_pos rfl]; rfl
  · rw [if_neg (e .Deep .Long (by decide)), if_neg (e .Deep .End (by decide)), if_neg (e .Deep .Tag (by decide)), if_neg (e .Deep .Length (by decide)), if_neg (e .Deep .Value (by decide)), if_neg (e .Deep .More (by decide)), if_neg (e .Deep .Order (by decide)), if_neg (e .Deep .Default (by decide)), if_pos rfl]; rfl
  · rw [if_neg (e .Tree .Long (by decide)), if_neg (e .Tree .End (by decide)), if_neg (e .Tree .Tag (by decide)), if_neg (e .Tree .Length (by decide)), if_neg (e .Tree .Value (by decide)), if_neg (e .Tree .More (by decide)), if_neg (e .Tree .Order (by decide)), if_neg (e .Tree .Default (by decide)), if_neg (e .Tree .Deep (by decide)), if_pos rfl]; rfl
  · rw [if_neg (e .Card .Long (by decide)), if_neg (e .Card .End (by decide)), if_neg (e .Card .Tag (by decide)), if_neg (e .Card .Length (by decide)), if_neg (e .Card .Value (by decide)), if_neg (e .Card .More (by decide)), if_neg (e .Card .Order (by decide)), if_neg (e .Card .Default (by decide)), if_neg (e .Card .Deep (by decide)), if_neg (e .Card .Tree (by decide)), if_pos rfl]; rfl
  · rw [if_neg (e .Mark .Long (by decide)), if_neg (e .Mark .End (by decide)), if_neg (e .Mark .Tag (by decide)), if_neg (e .Mark .Length (by decide)), if_neg (e .Mark .Value (by decide)), if_neg (e .Mark .More (by decide)), if_neg (e .Mark .Order (by decide)), if_neg (e .Mark .Default (by decide)), if_neg (e .Mark .Deep (by decide)), if_neg (e .Mark .Tree (by decide)), if_neg (e .Mark .Card (by decide)), if_pos rfl]; rfl
theorem nm_none {sn : Sn → Addr} {x : Addr} (h : ∀ s, x ≠ sn s) : nm sn x = 1 := by
  unfold nm
  simp [h]
end Go.Proofs.YtkkicodfpekbgaaGreatDoor

/-! Calls inside regions that draw their order: a step by the callee's contract. -/
namespace Go.Proofs.YtkkicodfpekbgaaGreatDoor
set_option linter.unusedSimpArgs false
set_option linter.unusedVariables false
open Go.RowKit

/-- A step of a region that draws: a call of a function, by its contract. -/
theorem step_calls {P : Program} {ops : Array Oper} {o : Oper} {a : Act} {w : World} {K : Act → World → Prop} {Q : Exit → Act → World → Prop} {E : Prop} (hgd : o.guard = none) (f : FuncId) (args : Array Operand) (tys : Array TypeId)
    (ho : o.op = .call { callee := .value (.func f), args := args, argTypes := tys }) (vals : Array Value) (hv : args.map a.eval = vals) (v : Value) (S : World → Prop)
    (hrun : (callFunc f vals).run P w = .ok (.enter f vals) w)
    (hc : Calls P f vals w fun e w' => e = .returned v ∧ S w') (hk : ∀ w', S w' → K (a.put o.dst v) w') : if Region.wanted o (yielded ops a.tmps) = true then Oper.wp P o a w K Q else E := by
  have hw : Region.wanted o (yielded ops a.tmps) = true := by simp [Region.wanted, hgd]
  rw [if_pos hw]
  unfold Oper.wp
  simp only [execOp, ho, resolve, invoke]
  simp [Act.eval, Deferred.ofValue, hv, hrun, Oper.upon_enter]
  exact hc.mono fun e w' ⟨h1, h2⟩ => by subst h1; exact hk w' h2
theorem run_enter {P : Program} {f : FuncId} {fn : Func} {c : Code} (hf : P.funcs[f]? = some fn) (hname : (fn.name == "runtime.NumGoroutine") = false) (hb : fn.body = some c) (args : Array Value) (w : World) :
    (callFunc f args).run P w = .ok (.enter f args) w := by
  have h1 : fn.name ≠ "runtime.NumGoroutine" := by simpa using hname
  simp [callFunc, hf, h1, hb]
end Go.Proofs.YtkkicodfpekbgaaGreatDoor

/-! Calls inside regions that draw their order, under a guard or with a result that is told by a relation. -/
namespace Go.Proofs.YtkkicodfpekbgaaGreatDoor
set_option linter.unusedSimpArgs false
set_option linter.unusedVariables false
open Go.RowKit

theorem step_callsW {P : Program} {ops : Array Oper} {o : Oper} {a : Act} {w : World} {K : Act → World → Prop} {Q : Exit → Act → World → Prop} {E : Prop} (hw : Region.wanted o (yielded ops a.tmps) = true) (f : FuncId) (args : Array Operand) (tys : Array TypeId)
    (ho : o.op = .call { callee := .value (.func f), args := args, argTypes := tys }) (vals : Array Value) (hv : args.map a.eval = vals) (R : Ending → World → Prop)
    (hrun : (callFunc f vals).run P w = .ok (.enter f vals) w) (hc : Calls P f vals w R) (hk : ∀ e w', R e w' → ∃ v, e = .returned v ∧ K (a.put o.dst v) w') :
    if Region.wanted o (yielded ops a.tmps) = true then Oper.wp P o a w K Q else E := by
  rw [if_pos hw]
  unfold Oper.wp
  simp only [execOp, ho, resolve, invoke]
  simp [Act.eval, Deferred.ofValue, hv, hrun, Oper.upon_enter]
  refine hc.mono fun e w' h => ?_
  obtain ⟨v, rfl, h2⟩ := hk e w' h
  exact h2
end Go.Proofs.YtkkicodfpekbgaaGreatDoor

/-! Regions that draw their order, whose operations read and whose callees leave all that was there: one walk. -/
namespace Go.Proofs.YtkkicodfpekbgaaGreatDoor
set_option linter.unusedSimpArgs false
set_option linter.unusedVariables false
open Go.RowKit

/-- A world that goes on from this one. -/
structure Ext (w : World) where
  v : World
  h : Below w.heap.size w v
theorem ext_ne (w : World) : Nonempty (Ext w) := ⟨⟨w, Below.refl _ _⟩⟩
theorem Ext.cell {w : World} (x : Ext w) {a : Addr} {u : Value} (h : w.cell? a = some u) : x.v.cell? a = some u := (x.h.cell (lt_of_cell h)).trans h
theorem Ext.block {w : World} (x : Ext w) {g : Nat} {o : Obj} (h : w.heap[g]? = some o) : x.v.heap[g]? = some o := block_below h x.h
theorem Ext.old {w : World} {o : Obj} (x : Ext (w.alloc o)) {a : Addr} {u : Value} (h : w.cell? a = some u) : x.v.cell? a = some u := x.cell ((((Below.refl w.heap.size w).alloc (Nat.le_refl _) o).cell (lt_of_cell h)).trans h)
theorem Ext.bel {w0 w : World} (hb : Below w0.heap.size w0 w) (x : Ext w) : Below w0.heap.size w0 x.v := hb.trans (x.h.mono hb.size)
theorem Ext.far {w0 w : World} (hb : Below w0.heap.size w0 w) (x : Ext w) {a : Addr} {u : Value} (h : w0.cell? a = some u) : x.v.cell? a = some u := ((Ext.bel hb x).cell (lt_of_cell h)).trans h
theorem Ext.new {w : World} {A : Array Value} {T : TypeId} (x : Ext (w.alloc (.cells A T))) {i : Nat} {u : Value} (h : A[i]? = some u) : x.v.cell? ⟨w.heap.size, i, none⟩ = some u := x.cell (by have q := heap_alloc_new w (.cells A T); unfold World.cell?; simp only [q]; exact h)
theorem wp_region_ext {P : Program} {id : Nat} {Q : Exit → Act → World → Prop} {a : Act} {w : World} {l : List Oper} (hm : P.follows .mixedOrders = true) (hB : Region.lexB .any l.toArray = true)
    (h : wpQuiet P l.toArray (fun w' => ∃ x : Ext w, w' = x.v) (fun a' => ∀ w', (∃ x : Ext w, w' = x.v) → Q .normal a' w') l a) : (Code.region id l.toArray true).wp P Q a w :=
  wp_region_quiet (C := fun w' => ∃ x : Ext w, w' = x.v) hm hB ⟨⟨w.drew, (Below.refl _ _).drew⟩, rfl⟩ (by simpa using h)
theorem nil_ext {P : Program} {ops : Array Oper} {Q : Exit → Act → World → Prop} {a : Act} {w : World} (h : ∀ w', Below w.heap.size w w' → Q .normal a w') :
    wpQuiet P ops (fun w' => ∃ x : Ext w, w' = x.v) (fun a' => ∀ w', (∃ x : Ext w, w' = x.v) → Q .normal a' w') [] a := fun _ hx => by obtain ⟨x, rfl⟩ := hx; exact h x.v x.h
theorem Ext.calls {P : Program} {f : FuncId} {args : Array Value} {w : World} {x : Ext w} {v : Value} (h : Calls P f args x.v fun e w' => e = .returned v ∧ Below x.v.heap.size x.v w') :
    Calls P f args x.v fun e w'' => e = .returned v ∧ ∃ y : Ext w, w'' = y.v := h.mono fun _ w' q => ⟨q.1, ⟨w', x.h.trans (q.2.mono x.h.size)⟩, rfl⟩
theorem Ext.callsO {P : Program} {f : FuncId} {args : Array Value} {w : World} {x : Ext w} {R : Prop} [Decidable R] (h : Calls P f args x.v fun e w' => RetO R x.v e w') :
    Calls P f args x.v fun e w'' => e = .returned (.bool (decide R)) ∧ ∃ y : Ext w, w'' = y.v := h.mono fun _ w' q => by
  obtain ⟨r, rfl, h1, h2⟩ := q
  refine ⟨?_, ⟨w', x.h.trans (h2.mono x.h.size)⟩, rfl⟩
  by_cases hR : R
  · rw [decide_eq_true hR, h1.2 hR]
  · rw [decide_eq_false hR]
    cases r
    · rfl
    · exact absurd (h1.1 rfl) hR
theorem Ext.callsR {P : Program} {f : FuncId} {args : Array Value} {w : World} {x : Ext w} {R : Prop} {r : Bool} (hr : r = true ↔ R) (h : Calls P f args x.v fun e w' => RetO R x.v e w') :
    Calls P f args x.v fun e w'' => e = .returned (.bool r) ∧ ∃ y : Ext w, w'' = y.v := h.mono fun _ w' q => by
  obtain ⟨r', rfl, h1, h2⟩ := q
  refine ⟨?_, ⟨w', x.h.trans (h2.mono x.h.size)⟩, rfl⟩
  have : r' = r := by
    cases r <;> cases r'
    · rfl
    · exact absurd (hr.2 (h1.1 rfl)) (by simp)
    · exact absurd (h1.2 (hr.1 rfl)) (by simp)
    · rfl
  rw [this]
/-- A bool for whatever may be asked. -/
theorem bool_of (R : Prop) : ∃ r : Bool, r = true ↔ R := by
  by_cases h : R
  · exact ⟨true, by simp [h]⟩
  · exact ⟨false, by simp [h]⟩
end Go.Proofs.YtkkicodfpekbgaaGreatDoor

/-! The number by which a call answers an error: hallmark.number. -/
namespace Go.Proofs.YtkkicodfpekbgaaGreatDoor
set_option linter.unusedSimpArgs false
set_option linter.unusedVariables false
open Go.RowKit

theorem is_u (p : Int) (a b : Addr) (w : World) (ha : ∃ c t, w.heap[a.block]? = some (.cells c t (0, 0))) (hb : ∃ c t, w.heap[b.block]? = some (.cells c t (0, 0))) :
    Calls Tryz.prog 59 #[.iface 155 (.agg #[.int .i64 p, .iface 291 (.pointer (some a))]), .iface 291 (.pointer (some b))] w fun e w' => e = .returned (.bool (decide (a = b))) ∧ Below w.heap.size w w' := is_any p a b w ha hb

theorem number_nil (w : World) : Calls Tryz.prog 34 #[.nilIface] w fun e w' => e = .returned (.int .i64 0) ∧ w' = w := by
  go_enter Tryz.func34, Tryz.ntmps34
  go_wp2
  go_ret
  exact ⟨rfl, rfl⟩

set_option maxHeartbeats 4000000 in
set_option maxRecDepth 100000 in
theorem number_at (p : Int) (x : Addr) (w : World) (sn : Sn → Addr) (hs : Sent w sn) (hx : ∃ c t, w.heap[x.block]? = some (.cells c t (0, 0))) :
    Calls Tryz.prog 34 #[fault p x] w fun e w' => e = .returned (.int .i64 (nm sn x)) ∧ Below w.heap.size w w' := by
  have h0 := hs.cLong
  have S0 : Hid (Sent w sn) := hs
  have X0 : Hid (∃ c t, w.heap[x.block]? = some (.cells c t (0, 0))) := hx
  have B0 : Hid (Below w.heap.size w w) := Below.refl _ _
  clear hs hx
  unfold fault
  go_enter Tryz.func34, Tryz.ntmps34
  go_wp2_with fail
  refine (is_u p x (sn .Long) w X0.out (S0.out.r .Long)).mono ?_
  rintro e w1 ⟨rfl, hb⟩
  have B1 : Hid (Below w.heap.size w w1) := B0.out.trans (hb.mono B0.out.size)
  have S1 : Hid (Sent w1 sn) := S0.out.below hb
  have X1 : Hid (∃ c t, w1.heap[x.block]? = some (.cells c t (0, 0))) := row_below X0.out hb
  clear hb h0
  by_cases q0 : x = sn .Long
  · rw [decide_eq_true q0]
    have e : Hid (nm sn x = 2) := by
      show nm sn x = 2
      unfold nm
      rw [if_pos q0]
    go_wp2_with fail
    go_ret
    exact ⟨by rw [e.out]; rfl, B1.out⟩
  rw [decide_eq_false q0]
  have h1 := S1.out.cEnd
  go_wp2_with fail
  refine (is_u p x (sn .End) w1 X1.out (S1.out.r .End)).mono ?_
  rintro e w2 ⟨rfl, hb⟩
  have B2 : Hid (Below w.heap.size w w2) := B1.out.trans (hb.mono B1.out.size)
  have S2 : Hid (Sent w2 sn) := S1.out.below hb
  have X2 : Hid (∃ c t, w2.heap[x.block]? = some (.cells c t (0, 0))) := row_below X1.out hb
  clear hb h1
  by_cases q1 : x = sn .End
  · rw [decide_eq_true q1]
    have e : Hid (nm sn x = 3) := by
      show nm sn x = 3
      unfold nm
      rw [if_neg q0, if_pos q1]
    go_wp2_with fail
    go_ret
    exact ⟨by rw [e.out]; rfl, B2.out⟩
  rw [decide_eq_false q1]
  have h2 := S2.out.cTag
  go_wp2_with fail
  refine (is_u p x (sn .Tag) w2 X2.out (S2.out.r .Tag)).mono ?_
  rintro e w3 ⟨rfl, hb⟩
  have B3 : Hid (Below w.heap.size w w3) := B2.out.trans (hb.mono B2.out.size)
  have S3 : Hid (Sent w3 sn) := S2.out.below hb
  have X3 : Hid (∃ c t, w3.heap[x.block]? = some (.cells c t (0, 0))) := row_below X2.out hb
  clear hb h2
  by_cases q2 : x = sn .Tag
  · rw [decide_eq_true q2]
    have e : Hid (nm sn x = 4) := by
      show nm sn x = 4
      unfold nm
      rw [if_neg q0, if_neg q1, if_pos q2]
    go_wp2_with fail
    go_ret
    exact ⟨by rw [e.out]; rfl, B3.out⟩
  rw [decide_eq_false q2]
  have h3 := S3.out.cLength
  go_wp2_with fail
  refine (is_u p x (sn .Length) w3 X3.out (S3.out.r .Length)).mono ?_
  rintro e w4 ⟨rfl, hb⟩
  have B4 : Hid (Below w.heap.size w w4) := B3.out.trans (hb.mono B3.out.size)
  have S4 : Hid (Sent w4 sn) := S3.out.below hb
  have X4 : Hid (∃ c t, w4.heap[x.block]? = some (.cells c t (0, 0))) := row_below X3.out hb
  clear hb h3
  by_cases q3 : x = sn .Length
  · rw [decide_eq_true q3]
    have e : Hid (nm sn x = 5) := by
      show nm sn x = 5
      unfold nm
      rw [if_neg q0, if_neg q1, if_neg q2, if_pos q3]
    go_wp2_with fail
    go_ret
    exact ⟨by rw [e.out]; rfl, B4.out⟩
  rw [decide_eq_false q3]
  have h4 := S4.out.cValue
  go_wp2_with fail
  refine (is_u p x (sn .Value) w4 X4.out (S4.out.r .Value)).mono ?_
  rintro e w5 ⟨rfl, hb⟩
  have B5 : Hid (Below w.heap.size w w5) := B4.out.trans (hb.mono B4.out.size)
  have S5 : Hid (Sent w5 sn) := S4.out.below hb
  have X5 : Hid (∃ c t, w5.heap[x.block]? = some (.cells c t (0, 0))) := row_below X4.out hb
  clear hb h4
  by_cases q4 : x = sn .Value
  · rw [decide_eq_true q4]
    have e : Hid (nm sn x = 6) := by
      show nm sn x = 6
      unfold nm
      rw [if_neg q0, if_neg q1, if_neg q2, if_neg q3, if_pos q4]
    go_wp2_with fail
    go_ret
    exact ⟨by rw [e.out]; rfl, B5.out⟩
  rw [decide_eq_false q4]
  have h5 := S5.out.cMore
  go_wp2_with fail
  refine (is_u p x (sn .More) w5 X5.out (S5.out.r .More)).mono ?_
  rintro e w6 ⟨rfl, hb⟩
  have B6 : Hid (Below w.heap.size w w6) := B5.out.trans (hb.mono B5.out.size)
  have S6 : Hid (Sent w6 sn) := S5.out.below hb
  have X6 : Hid (∃ c t, w6.heap[x.block]? = some (.cells c t (0, 0))) := row_below X5.out hb
  clear hb h5
  by_cases q5 : x = sn .More
  · rw [decide_eq_true q5]
    have e : Hid (nm sn x = 7) := by
      show nm sn x = 7
      unfold nm
      rw [if_neg q0, if_neg q1, if_neg q2, if_neg q3, if_neg q4, if_pos q5]
    go_wp2_with fail
    go_ret
    exact ⟨by rw [e.out]; rfl, B6.out⟩
  rw [decide_eq_false q5]
  have h6 := S6.out.cOrder
  go_wp2_with fail
  refine (is_u p x (sn .Order) w6 X6.out (S6.out.r .Order)).mono ?_
  rintro e w7 ⟨rfl, hb⟩
  have B7 : Hid (Below w.heap.size w w7) := B6.out.trans (hb.mono B6.out.size)
  have S7 : Hid (Sent w7 sn) := S6.out.below hb
  have X7 : Hid (∃ c t, w7.heap[x.block]? = some (.cells c t (0, 0))) := row_below X6.out hb
  clear hb h6
  by_cases q6 : x = sn .Order
  · rw [decide_eq_true q6]
    have e : Hid (nm sn x = 8) := by
      show nm sn x = 8
      unfold nm
      rw [if_neg q0, if_neg q1, if_neg q2, if_neg q3, if_neg q4, if_neg q5, if_pos q6]
    go_wp2_with fail
    go_ret
    exact ⟨by rw [e.out]; rfl, B7.out⟩
  rw [decide_eq_false q6]
  have h7 := S7.out.cDefault
  go_wp2_with fail
  refine (is_u p x (sn .Default) w7 X7.out (S7.out.r .Default)).mono ?_
  rintro e w8 ⟨rfl, hb⟩
  have B8 : Hid (Below w.heap.size w w8) := B7.out.trans (hb.mono B7.out.size)
  have S8 : Hid (Sent w8 sn) := S7.out.below hb
  have X8 : Hid (∃ c t, w8.heap[x.block]? = some (.cells c t (0, 0))) := row_below X7.out hb
  clear hb h7
  by_cases q7 : x = sn .Default
  · rw [decide_eq_true q7]
    have e : Hid (nm sn x = 9) := by
      show nm sn x = 9
      unfold nm
      rw [if_neg q0, if_neg q1, if_neg q2, if_neg q3, if_neg q4, if_neg q5, if_neg q6, if_pos q7]
    go_wp2_with fail
    go_ret
    exact ⟨by rw [e.out]; rfl, B8.out⟩
  rw [decide_eq_false q7]
  have h8 := S8.out.cDeep
  go_wp2_with fail
  refine (is_u p x (sn .Deep) w8 X8.out (S8.out.r .Deep)).mono ?_
  rintro e w9 ⟨rfl, hb⟩
  have B9 : Hid (Below w.heap.size w w9) := B8.out.trans (hb.mono B8.out.size)
  have S9 : Hid (Sent w9 sn) := S8.out.below hb
  have X9 : Hid (∃ c t, w9.heap[x.block]? = some (.cells c t (0, 0))) := row_below X8.out hb
  clear hb h8
  by_cases q8 : x = sn .Deep
  · rw [decide_eq_true q8]
    have e : Hid (nm sn x = 10) := by
      show nm sn x = 10
      unfold nm
      rw [if_neg q0, if_neg q1, if_neg q2, if_neg q3, if_neg q4, if_neg q5, if_neg q6, if_neg q7, if_pos q8]
    go_wp2_with fail
    go_ret
    exact ⟨by rw [e.out]; rfl, B9.out⟩
  rw [decide_eq_false q8]
  have h9 := S9.out.cTree
  go_wp2_with fail
  refine (is_u p x (sn .Tree) w9 X9.out (S9.out.r .Tree)).mono ?_
  rintro e w10 ⟨rfl, hb⟩
  have B10 : Hid (Below w.heap.size w w10) := B9.out.trans (hb.mono B9.out.size)
  have S10 : Hid (Sent w10 sn) := S9.out.below hb
  have X10 : Hid (∃ c t, w10.heap[x.block]? = some (.cells c t (0, 0))) := row_below X9.out hb
  clear hb h9
  by_cases q9 : x = sn .Tree
  · rw [decide_eq_true q9]
    have e : Hid (nm sn x = 11) := by
      show nm sn x = 11
      unfold nm
      rw [if_neg q0, if_neg q1, if_neg q2, if_neg q3, if_neg q4, if_neg q5, if_neg q6, if_neg q7, if_neg q8, if_pos q9]
    go_wp2_with fail
    go_ret
    exact ⟨by rw [e.out]; rfl, B10.out⟩
  rw [decide_eq_false q9]
  have h10 := S10.out.cCard
  go_wp2_with fail
  refine (is_u p x (sn .Card) w10 X10.out (S10.out.r .Card)).mono ?_
  rintro e w11 ⟨rfl, hb⟩
  have B11 : Hid (Below w.heap.size w w11) := B10.out.trans (hb.mono B10.out.size)
  have S11 : Hid (Sent w11 sn) := S10.out.below hb
  have X11 : Hid (∃ c t, w11.heap[x.block]? = some (.cells c t (0, 0))) := row_below X10.out hb
  clear hb h10
  by_cases q10 : x = sn .Card
  · rw [decide_eq_true q10]
    have e : Hid (nm sn x = 12) := by
      show nm sn x = 12
      unfold nm
      rw [if_neg q0, if_neg q1, if_neg q2, if_neg q3, if_neg q4, if_neg q5, if_neg q6, if_neg q7, if_neg q8, if_neg q9, if_pos q10]
    go_wp2_with fail
    go_ret
    exact ⟨by rw [e.out]; rfl, B11.out⟩
  rw [decide_eq_false q10]
  have h11 := S11.out.cMark
  go_wp2_with fail
  refine (is_u p x (sn .Mark) w11 X11.out (S11.out.r .Mark)).mono ?_
  rintro e w12 ⟨rfl, hb⟩
  have B12 : Hid (Below w.heap.size w w12) := B11.out.trans (hb.mono B11.out.size)
  have S12 : Hid (Sent w12 sn) := S11.out.below hb
  have X12 : Hid (∃ c t, w12.heap[x.block]? = some (.cells c t (0, 0))) := row_below X11.out hb
  clear hb h11
  by_cases q11 : x = sn .Mark
  · rw [decide_eq_true q11]
    have e : Hid (nm sn x = 13) := by
      show nm sn x = 13
      unfold nm
      rw [if_neg q0, if_neg q1, if_neg q2, if_neg q3, if_neg q4, if_neg q5, if_neg q6, if_neg q7, if_neg q8, if_neg q9, if_neg q10, if_pos q11]
    go_wp2_with fail
    go_ret
    exact ⟨by rw [e.out]; rfl, B12.out⟩
  rw [decide_eq_false q11]
  have e : Hid (nm sn x = 1) := by
    show nm sn x = 1
    unfold nm
    rw [if_neg q0, if_neg q1, if_neg q2, if_neg q3, if_neg q4, if_neg q5, if_neg q6, if_neg q7, if_neg q8, if_neg q9, if_neg q10, if_neg q11]
  go_wp2_with fail
  go_ret
  exact ⟨by rw [e.out]; rfl, B12.out⟩

theorem number_sn (p : Int) (s : Sn) (w : World) (sn : Sn → Addr) (hs : Sent w sn) :
    Calls Tryz.prog 34 #[fault p (sn s)] w fun e w' => e = .returned (.int .i64 s.code) ∧ Below w.heap.size w w' := by
  rw [← hs.nm s]; exact number_at p (sn s) w sn hs (hs.r s)
theorem number_E (p : Int) (w : World) (sn : Sn → Addr) (hs : Sent w sn) : Calls Tryz.prog 34 #[fault p (sn .End)] w fun e w' => e = .returned (.int .i64 3) ∧ Below w.heap.size w w' := number_sn p .End w sn hs
theorem number_T (p : Int) (w : World) (sn : Sn → Addr) (hs : Sent w sn) : Calls Tryz.prog 34 #[fault p (sn .Tag)] w fun e w' => e = .returned (.int .i64 4) ∧ Below w.heap.size w w' := number_sn p .Tag w sn hs
theorem number_L (p : Int) (w : World) (sn : Sn → Addr) (hs : Sent w sn) : Calls Tryz.prog 34 #[fault p (sn .Length)] w fun e w' => e = .returned (.int .i64 5) ∧ Below w.heap.size w w' := number_sn p .Length w sn hs
end Go.Proofs.YtkkicodfpekbgaaGreatDoor

/-! hallmarkkeep.pick: a raw number, taken into its bounds. -/
namespace Go.Proofs.YtkkicodfpekbgaaGreatDoor
set_option linter.unusedSimpArgs false
set_option linter.unusedVariables false
open Go.RowKit

/-- A raw number, taken into its bounds. -/
def pk (c n : Int) : Int := if c < 0 then -(c + 1) % n else c % n
theorem pk_bd (c n : Int) (hn : 0 < n) : 0 ≤ pk c n ∧ pk c n < n := by
  unfold pk
  split
  · exact ⟨Int.emod_nonneg _ (by omega), Int.emod_lt_of_pos _ hn⟩
  · exact ⟨Int.emod_nonneg _ (by omega), Int.emod_lt_of_pos _ hn⟩

theorem ret_int {a b : Int} (h : a = b) : Ending.returned (.int .i64 a) = .returned (.int .i64 b) := by rw [h]

set_option maxHeartbeats 1000000 in
set_option maxRecDepth 100000 in
theorem pick_any (c n : Int) (w : World) (h0 : -9223372036854775808 ≤ c) (h1 : c ≤ 9223372036854775807) (hn : 0 < n) (hn1 : n ≤ 9223372036854775807) :
    Calls Tryz.prog 25 #[.int .i64 c, .int .i64 n] w fun e w' => e = .returned (.int .i64 (pk c n)) ∧ w = w' := by
  unfold pk
  have hnz : (n == 0) = false := beq_eq_false_iff_ne.2 (by omega)
  by_cases h : c < 0
  · rw [if_pos h]
    go_enter Tryz.func25, Tryz.ntmps25
    go_wp2
    go_ret
    refine ⟨ret_int ?_, rfl⟩
    rw [← Int.neg_tmod, Int.tmod_eq_emod_of_nonneg (by omega)]
  · rw [if_neg h]
    go_enter Tryz.func25, Tryz.ntmps25
    go_wp2
    go_ret
    exact ⟨rfl, rfl⟩
end Go.Proofs.YtkkicodfpekbgaaGreatDoor

/-! hallmarkkeep's maker: raw numbers and texts, used up one after the other. -/
namespace Go.Proofs.YtkkicodfpekbgaaGreatDoor
set_option linter.unusedSimpArgs false
set_option linter.unusedVariables false
open Go.RowKit

/-- A plan in memory. -/
structure PlanIn (w : World) (na ta : Option Addr) (nl tl : Nat) : Prop where
  num : ∀ i, i < nl → ∃ b o z, na = some ⟨b, o, none⟩ ∧ w.cell? ⟨b, o + i, none⟩ = some (.int .i64 z) ∧ -9223372036854775808 ≤ z ∧ z ≤ 9223372036854775807
  txt : ∀ i, i < tl → ∃ b o s, ta = some ⟨b, o, none⟩ ∧ w.cell? ⟨b, o + i, none⟩ = some (.string s) ∧ s.size ≤ 9223372036854775807
  nle : nl ≤ maxLen
  tle : tl ≤ maxLen
/-- The maker in memory. -/
structure MkI (W w : World) (M : Nat) (na ta : Option Addr) (nl nc tl tc : Nat) (vs vl : Value) : Prop where
  bel : Below W.heap.size W w
  lo : W.heap.size ≤ M
  own : ∃ n t : Nat, n ≤ nl ∧ t ≤ tl ∧ w.heap[M]? = some (.cells #[.slice na nl nc, .slice ta tl tc, .int .i64 n, .int .i64 t, vs, vl] 97 (0, 0))
/-- Nothing but the maker has changed. -/
def FrM (M : Nat) (w w' : World) : Prop := w.heap.size ≤ w'.heap.size ∧ ∀ j, j ≠ M → j < w.heap.size → w'.heap[j]? = w.heap[j]?
theorem FrM.refl (M : Nat) (w : World) : FrM M w w := ⟨Nat.le_refl _, fun _ _ _ => rfl⟩
theorem FrM.trans {M : Nat} {w w1 w2 : World} (h : FrM M w w1) (h' : FrM M w1 w2) : FrM M w w2 := ⟨Nat.le_trans h.1 h'.1, fun j hj hl => (h'.2 j hj (Nat.lt_of_lt_of_le hl h.1)).trans (h.2 j hj hl)⟩
theorem FrM.below {M : Nat} {w w' : World} (h : Below w.heap.size w w') : FrM M w w' := ⟨h.size, fun j _ hl => h.block j hl⟩
theorem MkI.below {W w w' : World} {M : Nat} {na ta : Option Addr} {nl nc tl tc : Nat} {vs vl : Value} (h : MkI W w M na ta nl nc tl tc vs vl) (hb : Below w.heap.size w w') : MkI W w' M na ta nl nc tl tc vs vl := by
  obtain ⟨h1, h2, n, t, hn, ht, h3⟩ := h
  exact ⟨h1.trans (hb.mono h1.size), h2, n, t, hn, ht, block_below h3 hb⟩
/-- What a number of the plan's is. -/
def RetN (n : Int) (P : World → Prop) (e : Ending) (w' : World) : Prop := ∃ r : Int, e = .returned (.int .i64 r) ∧ 0 ≤ r ∧ r < n ∧ P w'
/-- What a text of the plan's is. -/
def RetX (N : Nat) (P : World → Prop) (e : Ending) (w' : World) : Prop := ∃ s : ByteArray, e = .returned (.string s) ∧ s.size ≤ N ∧ P w'

set_option maxHeartbeats 1000000 in
set_option maxRecDepth 100000 in
theorem one_any (W w : World) (M : Nat) (na ta : Option Addr) (nl nc tl tc : Nat) (vs vl : Value) (n : Int) (hn : 0 < n) (hn1 : n ≤ 1000000) (h : MkI W w M na ta nl nc tl tc vs vl) (hp : PlanIn W na ta nl tl) :
    Calls Tryz.prog 53 #[.pointer (some ⟨M, 0, none⟩), .int .i64 n] w fun e w' => RetN n (fun w' => MkI W w' M na ta nl nc tl tc vs vl ∧ FrM M w w') e w' := by
  obtain ⟨hb, hlo, k, t, hk, ht, hM⟩ := h
  have hml : M < w.heap.size := row_lt hM
  have c0 : w.cell? ⟨M, 0, none⟩ = some (.slice na nl nc) := by simp [World.cell?, hM]
  have c2 : w.cell? ⟨M, 2, none⟩ = some (.int .i64 k) := by simp [World.cell?, hM]
  have f2 : w.frozen? ⟨M, 2, none⟩ = false := by simp [World.frozen?, hM]
  have hnl := hp.nle
  unfold maxLen at hnl
  have HB : Hid (Below W.heap.size W w) := hb
  have HM : Hid (w.heap[M]? = some (.cells #[.slice na nl nc, .slice ta tl tc, .int .i64 k, .int .i64 t, vs, vl] 97 (0, 0))) := hM
  have HPK : Hid (∀ (z : Int) wq, -9223372036854775808 ≤ z → z ≤ 9223372036854775807 → Calls Tryz.prog 25 #[.int .i64 z, .int .i64 n] wq fun e w' => e = .returned (.int .i64 (pk z n)) ∧ wq = w') := fun z wq h0 h1 => pick_any z n wq h0 h1 hn (by omega)
  have HPD : Hid (∀ z, 0 ≤ pk z n ∧ pk z n < n) := fun z => pk_bd z n hn
  by_cases hlt : k < nl
  · obtain ⟨b, o, z, rfl, hc, z0, z1⟩ := hp.num k hlt
    have hbl : b < W.heap.size := lt_of_cell hc
    have hbw : b < w.heap.size := Nat.lt_of_lt_of_le hbl hb.size
    have cz : w.cell? ⟨b, o + k, none⟩ = some (.int .i64 z) := (hb.cell (p := ⟨b, o + k, none⟩) hbl).trans hc
    have hlt' : (k : Int) < nl := by omega
    clear hb hM hc hp
    go_enter Tryz.func53, Tryz.ntmps53
    go_wp2_with fail
    go_quiet (fail)
    go_wp2_with fail
    generalize hw1 : w.drewN nq = w1
    have HW1 : Hid (w.drewN nq = w1) := hw1
    have d0 : w1.cell? ⟨M, 0, none⟩ = some (.slice (some ⟨b, o, none⟩) nl nc) := by rw [← hw1]; exact c0
    have d2 : w1.cell? ⟨M, 2, none⟩ = some (.int .i64 k) := by rw [← hw1]; exact c2
    have g2 : w1.frozen? ⟨M, 2, none⟩ = false := by rw [← hw1]; exact f2
    have dz : w1.cell? ⟨b, o + k, none⟩ = some (.int .i64 z) := by rw [← hw1]; exact cz
    have hs1 : w.heap.size = w1.heap.size := by rw [← hw1]; rfl
    have hbw1 : b < w1.heap.size := by omega
    have hml1 : M < w1.heap.size := by omega
    clear hw1 c0 c2 f2 cz hbw hml
    go_quiet (fail)
    go_wp2_with fail
    refine (HPK.out z _ z0 z1).mono ?_
    rintro e w2 ⟨rfl, rfl⟩
    go_wp2
    go_ret
    obtain rfl := HW1.out
    refine ⟨pk z n, rfl, (HPD.out z).1, (HPD.out z).2, ⟨(below_drewN (below_drewN HB.out _) _).setCell hlo _, hlo, k + 1, t, by omega, ht, ?_⟩, by simp, fun j hj _ => heap_setCell_other _ _ _ _ hj⟩
    exact heap_setCell_same _ _ _ _ _ _ HM.out
  · have hlt' : ¬ (k : Int) < nl := by omega
    clear hb hM hp
    go_enter Tryz.func53, Tryz.ntmps53
    go_wp2_with fail
    go_quiet (fail)
    go_wp2_with fail
    refine (HPK.out 0 _ (by omega) (by omega)).mono ?_
    rintro e w1 ⟨rfl, rfl⟩
    go_wp2
    go_ret
    exact ⟨pk 0 n, rfl, (HPD.out 0).1, (HPD.out 0).2, ⟨below_drewN HB.out _, hlo, k, t, hk, ht, HM.out⟩, FrM.refl _ _⟩

set_option maxHeartbeats 1000000 in
set_option maxRecDepth 100000 in
theorem text_any (W w : World) (M : Nat) (na ta : Option Addr) (nl nc tl tc : Nat) (vs vl : Value) (h : MkI W w M na ta nl nc tl tc vs vl) (hp : PlanIn W na ta nl tl) :
    Calls Tryz.prog 56 #[.pointer (some ⟨M, 0, none⟩)] w fun e w' => RetX 9223372036854775807 (fun w' => MkI W w' M na ta nl nc tl tc vs vl ∧ FrM M w w') e w' := by
  obtain ⟨hb, hlo, k, t, hk, ht, hM⟩ := h
  have hml : M < w.heap.size := row_lt hM
  have c1 : w.cell? ⟨M, 1, none⟩ = some (.slice ta tl tc) := by simp [World.cell?, hM]
  have c3 : w.cell? ⟨M, 3, none⟩ = some (.int .i64 t) := by simp [World.cell?, hM]
  have f3 : w.frozen? ⟨M, 3, none⟩ = false := by simp [World.frozen?, hM]
  have htl := hp.tle
  unfold maxLen at htl
  have HB : Hid (Below W.heap.size W w) := hb
  have HM : Hid (w.heap[M]? = some (.cells #[.slice na nl nc, .slice ta tl tc, .int .i64 k, .int .i64 t, vs, vl] 97 (0, 0))) := hM
  by_cases hlt : t < tl
  · obtain ⟨b, o, z, rfl, hc, zs⟩ := hp.txt t hlt
    have hbl : b < W.heap.size := lt_of_cell hc
    have hbw : b < w.heap.size := Nat.lt_of_lt_of_le hbl hb.size
    have hbm : b ≠ M := by omega
    have cz : w.cell? ⟨b, o + t, none⟩ = some (.string z) := (hb.cell (p := ⟨b, o + t, none⟩) hbl).trans hc
    have hlt' : (t : Int) < tl := by omega
    clear hb hM hc hp
    go_enter Tryz.func56, Tryz.ntmps56
    go_wp2_with fail
    go_quiet (fail)
    go_wp2_with fail
    generalize hw1 : (w.drewN nq).setCell ⟨M, 3, none⟩ (.int .i64 (t + 1)) = w1
    have HW1 : Hid ((w.drewN nq).setCell ⟨M, 3, none⟩ (.int .i64 (t + 1)) = w1) := hw1
    have d1 : w1.cell? ⟨M, 1, none⟩ = some (.slice (some ⟨b, o, none⟩) tl tc) := by rw [← hw1]; simp [go_sem, c1]
    have d3 : w1.cell? ⟨M, 3, none⟩ = some (.int .i64 (t + 1)) := by rw [← hw1]; simp [go_sem, c3]
    have dz : w1.cell? ⟨b, o + t, none⟩ = some (.string z) := by rw [← hw1]; simp [go_sem, cz, hbm]
    have hs1 : w.heap.size = w1.heap.size := by rw [← hw1]; simp
    have hbw1 : b < w1.heap.size := by omega
    have hml1 : M < w1.heap.size := by omega
    clear hw1 c1 c3 f3 cz hbw hml
    go_quiet (fail)
    go_wp2
    go_ret
    obtain rfl := HW1.out
    refine ⟨z, rfl, zs, ⟨below_drewN ((below_drewN HB.out _).setCell hlo _) _, hlo, k, t + 1, hk, by omega, ?_⟩, by simp, fun j hj _ => heap_setCell_other _ _ _ _ hj⟩
    exact heap_setCell_same _ _ _ _ _ _ HM.out
  · have hlt' : (tl : Int) ≤ t := by omega
    clear hb hM hp
    go_enter Tryz.func56, Tryz.ntmps56
    go_wp2_with fail
    go_quiet (fail)
    go_wp2
    go_ret
    exact ⟨⟨#[]⟩, rfl, Nat.zero_le _, ⟨below_drewN HB.out _, hlo, k, t, hk, ht, HM.out⟩, FrM.refl _ _⟩

set_option maxHeartbeats 1000000 in
set_option maxRecDepth 100000 in
theorem cut_any (s : ByteArray) (n : Nat) (w : World) (hs : s.size ≤ 9223372036854775807) (hn : n ≤ 1000000) :
    Calls Tryz.prog 55 #[.string s, .int .i64 n] w fun e w' => RetX n (fun w' => w' = w) e w' := by
  by_cases h : n < s.size
  · have h' : (n : Int) < s.size := by omega
    go_enter Tryz.func55, Tryz.ntmps55
    go_wp2
    go_ret
    exact ⟨s.extract 0 n, rfl, by rw [ByteArray.size_extract]; omega, rfl⟩
  · have h' : ¬ (n : Int) < s.size := by omega
    go_enter Tryz.func55, Tryz.ntmps55
    go_wp2
    go_ret
    exact ⟨s, rfl, by omega, rfl⟩
end Go.Proofs.YtkkicodfpekbgaaGreatDoor

/-! readLength: what it answers. -/
namespace Go.Proofs.YtkkicodfpekbgaaGreatDoor
set_option linter.unusedSimpArgs false
set_option linter.unusedVariables false
open Go.RowKit

set_option maxHeartbeats 1000000 in
set_option maxRecDepth 100000 in
theorem rl_empty (t : ByteArray) (w : World) (sn : Sn → Addr) (hs : Sent w sn) (ht : t.size = 0) :
    Calls Tryz.prog 186 #[.string t] w fun e w' => e = .returned (.tuple #[.int .i64 0, .int .i64 0, .iface 291 (.pointer (some (sn .End)))]) ∧ Below w.heap.size w w' := by
  have h0 := hs.cE
  have he := emp_t ht
  clear hs
  go_enter Tryz.func186, Tryz.ntmps186
  go_wp2
  go_quiet (fail)
  go_wp2
  go_ret3
  exact ⟨rfl, below_drewN (Below.refl _ _) _⟩

set_option maxHeartbeats 1000000 in
set_option maxRecDepth 100000 in
theorem rl_short (t : ByteArray) (w : World) (h : 0 < t.size) (_hm : t.size ≤ 9223372036854775807) (hb : (t[0].toNat : Int) < 128) :
    Calls Tryz.prog 186 #[.string t] w fun e w' => e = .returned (.tuple #[.int .i64 1, .int .i64 (t[0].toNat : Int), .nilIface]) ∧ Below w.heap.size w w' := by
  have he := emp_f h
  go_enter Tryz.func186, Tryz.ntmps186
  go_wp2
  go_quiet (fail)
  go_wp2
  go_ret3
  exact ⟨rfl, below_drewN (Below.refl _ _) _⟩

set_option maxHeartbeats 1000000 in
set_option maxRecDepth 100000 in
theorem rl_bad (t : ByteArray) (w : World) (sn : Sn → Addr) (hs : Sent w sn) (h : 0 < t.size) (_hm : t.size ≤ 9223372036854775807) (hb : 128 ≤ (t[0].toNat : Int)) (hc : (t[0].toNat : Int) = 128 ∨ 131 < (t[0].toNat : Int)) :
    Calls Tryz.prog 186 #[.string t] w fun e w' => e = .returned (.tuple #[.int .i64 0, .int .i64 0, .iface 291 (.pointer (some (sn .Length)))]) ∧ Below w.heap.size w w' := by
  have h2 := hs.cL
  have he := emp_f h
  have hx : (t[0].toNat : Int) < 256 := by have := t[0].toNat_lt; omega
  clear hs
  by_cases hz : (t[0].toNat : Int) - 128 = 0
  · have hz1 : ((t[0].toNat : Int) - 128 == 0) = true := beq_iff_eq.2 hz
    clear hc hz
    go_enter Tryz.func186, Tryz.ntmps186
    go_wp2
    go_quiet (fail)
    go_wp2
    go_ret3
    exact ⟨rfl, below_drewN (Below.refl _ _) _⟩
  · have hz1 : ((t[0].toNat : Int) - 128 == 0) = false := beq_eq_false_iff_ne.2 hz
    have hz2 : 3 < (t[0].toNat : Int) - 128 := by omega
    clear hc hz
    go_enter Tryz.func186, Tryz.ntmps186
    go_wp2
    go_quiet (fail)
    go_wp2
    go_ret3
    exact ⟨rfl, below_drewN (Below.refl _ _) _⟩

set_option maxHeartbeats 1000000 in
set_option maxRecDepth 100000 in
theorem rl_end (t : ByteArray) (w : World) (sn : Sn → Addr) (hs : Sent w sn) (h : 0 < t.size) (_hm : t.size ≤ 9223372036854775807) (hb : 128 < (t[0].toNat : Int)) (hc : (t[0].toNat : Int) ≤ 131) (hl : (t.size : Int) ≤ (t[0].toNat : Int) - 128) :
    Calls Tryz.prog 186 #[.string t] w fun e w' => e = .returned (.tuple #[.int .i64 0, .int .i64 0, .iface 291 (.pointer (some (sn .End)))]) ∧ Below w.heap.size w w' := by
  have h2 := hs.cE
  have he := emp_f h
  have hz1 : ((t[0].toNat : Int) - 128 == 0) = false := beq_eq_false_iff_ne.2 (by omega)
  have hz2 : (t[0].toNat : Int) - 128 ≤ 3 := by omega
  clear hs
  go_enter Tryz.func186, Tryz.ntmps186
  go_wp2
  go_quiet (fail)
  go_wp2
  go_ret3
  exact ⟨rfl, below_drewN (Below.refl _ _) _⟩

theorem ret3 {a b c d : Int} {v : Value} (h1 : a = c) (h2 : b = d) : Ending.returned (.tuple #[.int .i64 a, .int .i64 b, v]) = .returned (.tuple #[.int .i64 c, .int .i64 d, v]) := by rw [h1, h2]

set_option maxHeartbeats 1000000 in
set_option maxRecDepth 100000 in
theorem rl_ok (t : ByteArray) (w : World) (sn : Sn → Addr) (c : Nat) (hs : Sent w sn) (h : 0 < t.size) (hm : t.size ≤ 9223372036854775807) (hb1 : (t[0].toNat : Int) - 128 ≤ c) (hb2 : c ≤ (t[0].toNat : Int) - 128) (h1 : 1 ≤ c) (h3 : c ≤ 3) (hl : c < t.size) (hq : (c : Int) = cnt (numTo t c)) :
    Calls Tryz.prog 186 #[.string t] w fun e w' => e = .returned (.tuple #[.int .i64 (1 + c), .int .i64 (numTo t c), .nilIface]) ∧ Below w.heap.size w w' := by
  have h2 := hs.cL
  have he := emp_f h
  have hz1 : ((t[0].toNat : Int) - 128 == 0) = false := beq_eq_false_iff_ne.2 (by omega)
  have hz2 : (t[0].toNat : Int) - 128 ≤ 3 := by omega
  have HQ : Hid ((c : Int) = cnt (numTo t c)) := hq
  clear hs hq
  go_enter Tryz.func186, Tryz.ntmps186
  go_wp2
  go_loop [3, 6] (fun n i => ∃ k : Nat, 1 ≤ k ∧ k ≤ c + 1 ∧ i = .int .i64 k ∧ n = .int .i64 (numTo t (k - 1))) (fun _ i => c + 1 - (intOf i).toNat)
  case atStart => exact ⟨1, by omega, by omega, rfl, rfl⟩
  case round =>
    obtain ⟨k, hk1, hk, rfl, rfl⟩ := hrel
    have hn := numTo_bd t (k - 1)
    have hn0 : 0 ≤ numTo t (k - 1) := hn.1
    have hn1 : numTo t (k - 1) < 16777216 := hn.2.1 (by omega)
    clear hn
    by_cases hlt : k ≤ c
    · have hk2 : k < t.size := by omega
      have hbk := b8_bd t k
      have HE : Hid ((t[k].toNat : Int) = b8 t k) := b8_get t k hk2
      have HN : Hid (numTo t k = numTo t (k - 1) * 256 + b8 t k) := by
        obtain ⟨j, rfl⟩ : ∃ j, k = j + 1 := ⟨k - 1, by omega⟩
        rfl
      go_wp2
      go_round
      case rel => exact ⟨k + 1, by omega, by omega, by go_num, by rw [HE.out, IntWalk.wrap64_in _ ⟨by omega, by omega⟩, i64_or8 _ _ (by omega) (by omega) (by omega) (by omega) (by omega), Nat.add_sub_cancel, HN.out]⟩
      case measure => simp [intOf]; omega
    · have hkc : k = c + 1 := by omega
      subst hkc
      simp only [Nat.add_sub_cancel] at hn0 hn1 ⊢
      have HX : Hid ((t[0].toNat : Int) - 128 = c) := by show _ = _; omega
      rcases cnt_cases (numTo t c) with ⟨r1, r3⟩ | ⟨r1, r2, r3⟩ | ⟨r1, r2, r3⟩ | ⟨r1, r3⟩
      · have := HQ.out; omega
      · have hbq : ((t[0].toNat : Int) - 128 != 1) = false := by rw [bne_eq_false_iff_eq]; have := HQ.out; omega
        clear r3
        go_wp2
        go_ret3
        exact ⟨ret3 (by rw [HX.out]) rfl, Below.refl _ _⟩
      · have hbq : ((t[0].toNat : Int) - 128 != 2) = false := by rw [bne_eq_false_iff_eq]; have := HQ.out; omega
        clear r3
        go_wp2
        go_ret3
        exact ⟨ret3 (by rw [HX.out]) rfl, Below.refl _ _⟩
      · have hbq : ((t[0].toNat : Int) - 128 != 3) = false := by rw [bne_eq_false_iff_eq]; have := HQ.out; omega
        clear r3
        go_wp2
        go_ret3
        exact ⟨ret3 (by rw [HX.out]) rfl, Below.refl _ _⟩

set_option maxHeartbeats 1000000 in
set_option maxRecDepth 100000 in
theorem rl_no (t : ByteArray) (w : World) (sn : Sn → Addr) (c : Nat) (hs : Sent w sn) (h : 0 < t.size) (hm : t.size ≤ 9223372036854775807) (hb1 : (t[0].toNat : Int) - 128 ≤ c) (hb2 : c ≤ (t[0].toNat : Int) - 128) (h1 : 1 ≤ c) (h3 : c ≤ 3) (hl : c < t.size) (hq : ¬ (c : Int) = cnt (numTo t c)) :
    Calls Tryz.prog 186 #[.string t] w fun e w' => e = .returned (.tuple #[.int .i64 0, .int .i64 0, .iface 291 (.pointer (some (sn .Length)))]) ∧ Below w.heap.size w w' := by
  have h2 := hs.cL
  have he := emp_f h
  have hz1 : ((t[0].toNat : Int) - 128 == 0) = false := beq_eq_false_iff_ne.2 (by omega)
  have hz2 : (t[0].toNat : Int) - 128 ≤ 3 := by omega
  have HQ : Hid (¬ (c : Int) = cnt (numTo t c)) := hq
  clear hs hq
  go_enter Tryz.func186, Tryz.ntmps186
  go_wp2
  go_loop [3, 6] (fun n i => ∃ k : Nat, 1 ≤ k ∧ k ≤ c + 1 ∧ i = .int .i64 k ∧ n = .int .i64 (numTo t (k - 1))) (fun _ i => c + 1 - (intOf i).toNat)
  case atStart => exact ⟨1, by omega, by omega, rfl, rfl⟩
  case round =>
    obtain ⟨k, hk1, hk, rfl, rfl⟩ := hrel
    have hn := numTo_bd t (k - 1)
    have hn0 : 0 ≤ numTo t (k - 1) := hn.1
    have hn1 : numTo t (k - 1) < 16777216 := hn.2.1 (by omega)
    clear hn
    by_cases hlt : k ≤ c
    · have hk2 : k < t.size := by omega
      have hbk := b8_bd t k
      have HE : Hid ((t[k].toNat : Int) = b8 t k) := b8_get t k hk2
      have HN : Hid (numTo t k = numTo t (k - 1) * 256 + b8 t k) := by
        obtain ⟨j, rfl⟩ : ∃ j, k = j + 1 := ⟨k - 1, by omega⟩
        rfl
      go_wp2
      go_round
      case rel => exact ⟨k + 1, by omega, by omega, by go_num, by rw [HE.out, IntWalk.wrap64_in _ ⟨by omega, by omega⟩, i64_or8 _ _ (by omega) (by omega) (by omega) (by omega) (by omega), Nat.add_sub_cancel, HN.out]⟩
      case measure => simp [intOf]; omega
    · have hkc : k = c + 1 := by omega
      subst hkc
      simp only [Nat.add_sub_cancel] at hn0 hn1 ⊢
      have HX : Hid ((t[0].toNat : Int) - 128 = c) := by show _ = _; omega
      rcases cnt_cases (numTo t c) with ⟨r1, r3⟩ | ⟨r1, r2, r3⟩ | ⟨r1, r2, r3⟩ | ⟨r1, r3⟩
      · have hbq : ((t[0].toNat : Int) - 128 != 0) = true := by rw [bne_iff_ne]; have := HQ.out; omega
        clear r3
        go_wp2
        go_quiet (fail)
        go_wp2
        go_ret3
        exact ⟨rfl, below_drewN (Below.refl _ _) _⟩
      · have hbq : ((t[0].toNat : Int) - 128 != 1) = true := by rw [bne_iff_ne]; have := HQ.out; omega
        clear r3
        go_wp2
        go_quiet (fail)
        go_wp2
        go_ret3
        exact ⟨rfl, below_drewN (Below.refl _ _) _⟩
      · have hbq : ((t[0].toNat : Int) - 128 != 2) = true := by rw [bne_iff_ne]; have := HQ.out; omega
        clear r3
        go_wp2
        go_quiet (fail)
        go_wp2
        go_ret3
        exact ⟨rfl, below_drewN (Below.refl _ _) _⟩
      · have hbq : ((t[0].toNat : Int) - 128 != 3) = true := by rw [bne_iff_ne]; have := HQ.out; omega
        clear r3
        go_wp2
        go_quiet (fail)
        go_wp2
        go_ret3
        exact ⟨rfl, below_drewN (Below.refl _ _) _⟩

/-- Which error it is, as a value: nil, or a sentinel. -/
def which (sn : Sn → Addr) (c : Int) : Value := if c = 0 then .nilIface else if c = 3 then .iface 291 (.pointer (some (sn .End))) else .iface 291 (.pointer (some (sn .Length)))

theorem readLength_any (t : ByteArray) (w : World) (sn : Sn → Addr) (hs : Sent w sn) (hm : t.size ≤ 9223372036854775807) :
    Calls Tryz.prog 186 #[.string t] w fun e w' => e = .returned (.tuple #[.int .i64 (rl t).2.1, .int .i64 (rl t).2.2, which sn (rl t).1]) ∧ Below w.heap.size w w' := by
  unfold rl
  split
  · rename_i h; exact rl_empty t w sn hs h
  rename_i h
  have h : 0 < t.size := by omega
  have hb := b8_bd t 0
  have e0 := b8_get t 0 h
  split
  · rename_i h1
    have := rl_short t w h hm (by omega)
    rw [e0] at this
    exact this
  split
  · rename_i h1; exact rl_bad t w sn hs h hm (by omega) (by omega)
  split
  · exact rl_end t w sn hs h hm (by omega) (by omega) (by omega)
  rename_i h1 h2 h3
  obtain ⟨c, hc⟩ := Int.eq_ofNat_of_zero_le (show 0 ≤ b8 t 0 - 128 by omega)
  rw [hc, Int.toNat_natCast]
  split
  · rename_i h4; exact rl_no t w sn c hs h hm (by omega) (by omega) (by omega) (by omega) (by omega) h4
  · rename_i h4; exact rl_ok t w sn c hs h hm (by omega) (by omega) (by omega) (by omega) (by omega) (by omega)
theorem readLength_eq (t : ByteArray) (w : World) (sn : Sn → Addr) (c z1 z2 : Int) (v : Value) (hs : Sent w sn) (hm : t.size ≤ 9223372036854775807) (h : rl t = (c, z1, z2)) (hv : which sn c = v) :
    Calls Tryz.prog 186 #[.string t] w fun e w' => e = .returned (.tuple #[.int .i64 z1, .int .i64 z2, v]) ∧ Below w.heap.size w w' := by
  have := readLength_any t w sn hs hm
  rw [h] at this
  rw [← hv]
  exact this
end Go.Proofs.YtkkicodfpekbgaaGreatDoor

/-! element.Read: what it answers. -/
namespace Go.Proofs.YtkkicodfpekbgaaGreatDoor
set_option linter.unusedSimpArgs false
set_option linter.unusedVariables false
open Go.RowKit

/-- A head as a value. -/
def hv (h : Hd) : Value := .agg #[.int .i64 h.c, .bool h.b, .int .i64 h.n, .int .i64 h.s, .int .i64 h.l]

theorem below5 {B : Nat} {w w1 : World} (h : Below B w w1) (b : Nat) (hb : B ≤ b) (v0 v1 v2 v3 v4 : Value) :
    Below B w (((((w1.setCell ⟨b, 0, none⟩ v0).setCell ⟨b, 1, none⟩ v1).setCell ⟨b, 2, none⟩ v2).setCell ⟨b, 3, none⟩ v3).setCell ⟨b, 4, none⟩ v4) :=
  ((((h.setCell (p := ⟨b, 0, none⟩) hb v0).setCell (p := ⟨b, 1, none⟩) hb v1).setCell (p := ⟨b, 2, none⟩) hb v2).setCell (p := ⟨b, 3, none⟩) hb v3).setCell (p := ⟨b, 4, none⟩) hb v4

set_option maxHeartbeats 1000000 in
set_option maxRecDepth 100000 in
theorem rd_empty (s : ByteArray) (p : Nat) (w : World) (sn : Sn → Addr) (hs : Sent w sn) (_hm : s.size ≤ 9223372036854775807) (hp : p ≤ s.size) (hz : (s.extract p s.size).size = 0) :
    Calls Tryz.prog 156 #[.string s, .int .i64 p] w fun e w' => e = .returned (.tuple #[hv .zero, fault p (sn .End)]) ∧ Below w.heap.size w w' := by
  have h0 := hs.cE
  have h0' := cell_lt hs.cE
  have he := emp_t hz
  clear hs
  unfold fault hv Hd.zero
  go_enter Tryz.func156, Tryz.ntmps156
  go_wp2
  exact bodyPost_ret (v := .tuple #[.agg #[.int .i64 0, .bool false, .int .i64 0, .int .i64 0, .int .i64 0], .iface 155 (.agg #[.int .i64 p, .iface 291 (.pointer (some (sn .End)))])]) (by simp [results, Tryz.results156, go_sem]) rfl ⟨rfl, (Below.refl _ _).alloc (Nat.le_refl _) _⟩

set_option maxHeartbeats 1000000 in
set_option maxRecDepth 100000 in
theorem rd_tag (s : ByteArray) (p : Nat) (w : World) (sn : Sn → Addr) (hs : Sent w sn) (_hm : s.size ≤ 9223372036854775807) (hp : p ≤ s.size) (hz : 0 < (s.extract p s.size).size) (hpos : 0 < s.size - p) (hx1 : ((s.extract p s.size)[0].toNat : Int) < 256) (hx2 : 30 < bits .and .i64 ((s.extract p s.size)[0].toNat : Int) 31) :
    Calls Tryz.prog 156 #[.string s, .int .i64 p] w fun e w' => e = .returned (.tuple #[hv .zero, fault p (sn .Tag)]) ∧ Below w.heap.size w w' := by
  have h1 := hs.cT
  have h1' := cell_lt hs.cT
  have he := emp_f hz
  clear hs
  unfold fault hv Hd.zero
  go_enter Tryz.func156, Tryz.ntmps156
  go_wp2
  exact bodyPost_ret (v := .tuple #[.agg #[.int .i64 0, .bool false, .int .i64 0, .int .i64 0, .int .i64 0], .iface 155 (.agg #[.int .i64 p, .iface 291 (.pointer (some (sn .Tag)))])]) (by simp [results, Tryz.results156, go_sem]) rfl ⟨rfl, (Below.refl _ _).alloc (Nat.le_refl _) _⟩

set_option maxHeartbeats 1000000 in
set_option maxRecDepth 100000 in
theorem rd_len (s : ByteArray) (p : Nat) (w : World) (sn : Sn → Addr) (z1 z2 : Int) (hs : Sent w sn) (hm : s.size ≤ 9223372036854775807) (hp : p ≤ s.size) (hz : 0 < (s.extract p s.size).size) (hpos : 0 < s.size - p) (hx1 : ((s.extract p s.size)[0].toNat : Int) < 256) (hx2 : bits .and .i64 ((s.extract p s.size)[0].toNat : Int) 31 ≤ 30) (c : Int) (a : Addr)
    (hw : rl ((s.extract p s.size).extract 1 (s.size - p)) = (c, z1, z2)) (hv' : which sn c = (.iface 291 (.pointer (some a)))) :
    Calls Tryz.prog 156 #[.string s, .int .i64 p] w fun e w' => e = .returned (.tuple #[hv .zero, fault p a]) ∧ Below w.heap.size w w' := by
  have HW : Hid (rl ((s.extract p s.size).extract 1 (s.size - p)) = (c, z1, z2)) := hw
  have HV : Hid (which sn c = (.iface 291 (.pointer (some a)))) := hv'
  clear hw hv'
  have HS : Hid (Sent w sn) := hs
  have he := emp_f hz
  clear hs
  unfold fault hv Hd.zero
  go_enter Tryz.func156, Tryz.ntmps156
  go_wp2_with fail
  refine (readLength_eq _ _ sn c z1 z2 (.iface 291 (.pointer (some a))) (HS.out.below ((Below.refl _ _).alloc (Nat.le_refl _) _)) (by simp; omega) HW.out HV.out).mono ?_
  rintro e w1 ⟨rfl, hb⟩
  obtain ⟨hc, hf⟩ := bcell hb
  have hz' : w.heap.size < w1.heap.size := by have := hb.size; simp at this; omega
  have HB : Hid (Below (w.alloc (.cells #[.int .i64 0, .bool false, .int .i64 0, .int .i64 0, .int .i64 0] 179)).heap.size (w.alloc (.cells #[.int .i64 0, .bool false, .int .i64 0, .int .i64 0, .int .i64 0] 179)) w1) := hb
  clear hb
  go_wp2
  refine bodyPost_ret (v := .tuple #[.agg #[.int .i64 0, .bool false, .int .i64 0, .int .i64 0, .int .i64 0], .iface 155 (.agg #[.int .i64 p, .iface 291 (.pointer (some a))])]) (by simp [results, Tryz.results156, go_sem, hc]) rfl ⟨rfl, ?_⟩
  exact below5 (((Below.refl w.heap.size w).alloc (Nat.le_refl _) _).trans (HB.out.mono (by simp))) _ (Nat.le_refl _) _ _ _ _ _

set_option maxHeartbeats 1000000 in
set_option maxRecDepth 100000 in
theorem rd_end (s : ByteArray) (p : Nat) (w : World) (sn : Sn → Addr) (z1 z2 : Int) (hs : Sent w sn) (hm : s.size ≤ 9223372036854775807) (hp : p ≤ s.size) (hz : 0 < (s.extract p s.size).size) (hpos : 0 < s.size - p) (hx1 : ((s.extract p s.size)[0].toNat : Int) < 256) (hx2 : bits .and .i64 ((s.extract p s.size)[0].toNat : Int) 31 ≤ 30)
    (hw : rl ((s.extract p s.size).extract 1 (s.size - p)) = (0, z1, z2)) (b1 : 0 ≤ z1) (b2 : z1 ≤ 4) (b3 : 0 ≤ z2) (b4 : z2 < 16777216) (hl : ((s.size - p : Nat) : Int) - (z1 + 1) < z2) :
    Calls Tryz.prog 156 #[.string s, .int .i64 p] w fun e w' => e = .returned (.tuple #[hv .zero, fault p (sn .End)]) ∧ Below w.heap.size w w' := by
  have HW : Hid (rl ((s.extract p s.size).extract 1 (s.size - p)) = (0, z1, z2)) := hw
  have HV : Hid (which sn 0 = .nilIface) := rfl
  clear hw
  have HS : Hid (Sent w sn) := hs
  have he := emp_f hz
  have h0 := hs.cE
  have h0' := cell_lt hs.cE
  clear hs
  unfold fault hv Hd.zero
  go_enter Tryz.func156, Tryz.ntmps156
  go_wp2_with fail
  refine (readLength_eq _ _ sn 0 z1 z2 .nilIface (HS.out.below ((Below.refl _ _).alloc (Nat.le_refl _) _)) (by simp; omega) HW.out HV.out).mono ?_
  rintro e w1 ⟨rfl, hb⟩
  have h9 := ((HS.out.below ((Below.refl _ _).alloc (Nat.le_refl _) _)).below hb).cE
  obtain ⟨hc, hf⟩ := bcell hb
  have hz' : w.heap.size < w1.heap.size := by have := hb.size; simp at this; omega
  have HB : Hid (Below (w.alloc (.cells #[.int .i64 0, .bool false, .int .i64 0, .int .i64 0, .int .i64 0] 179)).heap.size (w.alloc (.cells #[.int .i64 0, .bool false, .int .i64 0, .int .i64 0, .int .i64 0] 179)) w1) := hb
  clear hb
  go_wp2
  refine bodyPost_ret (v := .tuple #[.agg #[.int .i64 0, .bool false, .int .i64 0, .int .i64 0, .int .i64 0], .iface 155 (.agg #[.int .i64 p, .iface 291 (.pointer (some (sn .End)))])]) (by simp [results, Tryz.results156, go_sem, hc]) rfl ⟨rfl, ?_⟩
  exact below5 (((Below.refl w.heap.size w).alloc (Nat.le_refl _) _).trans (HB.out.mono (by simp))) _ (Nat.le_refl _) _ _ _ _ _

set_option maxHeartbeats 1000000 in
set_option maxRecDepth 100000 in
theorem rd_ok (s : ByteArray) (p : Nat) (w : World) (sn : Sn → Addr) (z1 z2 : Int) (hs : Sent w sn) (hm : s.size ≤ 9223372036854775807) (hp : p ≤ s.size) (hz : 0 < (s.extract p s.size).size) (hpos : 0 < s.size - p) (hx1 : ((s.extract p s.size)[0].toNat : Int) < 256) (hx2 : bits .and .i64 ((s.extract p s.size)[0].toNat : Int) 31 ≤ 30)
    (hw : rl ((s.extract p s.size).extract 1 (s.size - p)) = (0, z1, z2)) (b1 : 0 ≤ z1) (b2 : z1 ≤ 4) (b3 : 0 ≤ z2) (b4 : z2 < 16777216) (hl : z2 ≤ ((s.size - p : Nat) : Int) - (z1 + 1)) :
    Calls Tryz.prog 156 #[.string s, .int .i64 p] w fun e w' => e = .returned (.tuple #[hv ⟨((s.extract p s.size)[0].toNat : Int) / 64, bits .and .i64 ((s.extract p s.size)[0].toNat : Int) 32 != 0, bits .and .i64 ((s.extract p s.size)[0].toNat : Int) 31, z1 + 1, z2⟩, .nilIface]) ∧ Below w.heap.size w w' := by
  have HW : Hid (rl ((s.extract p s.size).extract 1 (s.size - p)) = (0, z1, z2)) := hw
  have HV : Hid (which sn 0 = .nilIface) := rfl
  clear hw
  have HS : Hid (Sent w sn) := hs
  have he := emp_f hz
  clear hs
  unfold hv
  go_enter Tryz.func156, Tryz.ntmps156
  go_wp2_with fail
  refine (readLength_eq _ _ sn 0 z1 z2 .nilIface (HS.out.below ((Below.refl _ _).alloc (Nat.le_refl _) _)) (by simp; omega) HW.out HV.out).mono ?_
  rintro e w1 ⟨rfl, hb⟩
  obtain ⟨hc, hf⟩ := bcell hb
  have hz' : w.heap.size < w1.heap.size := by have := hb.size; simp at this; omega
  have HB : Hid (Below (w.alloc (.cells #[.int .i64 0, .bool false, .int .i64 0, .int .i64 0, .int .i64 0] 179)).heap.size (w.alloc (.cells #[.int .i64 0, .bool false, .int .i64 0, .int .i64 0, .int .i64 0] 179)) w1) := hb
  clear hb
  go_wp2
  refine bodyPost_ret (v := .tuple #[.agg #[.int .i64 (((s.extract p s.size)[0].toNat : Int) / 64), .bool (bits .and .i64 ((s.extract p s.size)[0].toNat : Int) 32 != 0), .int .i64 (bits .and .i64 ((s.extract p s.size)[0].toNat : Int) 31), .int .i64 (z1 + 1), .int .i64 z2], .nilIface]) (by simp [results, Tryz.results156, go_sem, hc]) rfl ⟨rfl, ?_⟩
  exact below5 (((Below.refl w.heap.size w).alloc (Nat.le_refl _) _).trans (HB.out.mono (by simp))) _ (Nat.le_refl _) _ _ _ _ _

/-- The error at a place, by its number. -/
def errAt (p : Int) (sn : Sn → Addr) (c : Int) : Value := if c = 0 then .nilIface else if c = 3 then fault p (sn .End) else if c = 4 then fault p (sn .Tag) else fault p (sn .Length)

theorem read_any (s : ByteArray) (p : Nat) (w : World) (sn : Sn → Addr) (hs : Sent w sn) (hm : s.size ≤ 9223372036854775807) (hp : p ≤ s.size) :
    Calls Tryz.prog 156 #[.string s, .int .i64 p] w fun e w' => e = .returned (.tuple #[hv (hd (s.extract p s.size)).2, errAt p sn (hd (s.extract p s.size)).1]) ∧ Below w.heap.size w w' := by
  have hsz : (s.extract p s.size).size = s.size - p := by simp
  unfold hd
  split
  · rename_i h; exact rd_empty s p w sn hs hm hp h
  rename_i h
  have hz : 0 < (s.extract p s.size).size := by omega
  have hpos : 0 < s.size - p := by omega
  have hb := b8_bd (s.extract p s.size) 0
  have e0 := b8_get (s.extract p s.size) 0 hz
  have ea := i64_and31 (b8 (s.extract p s.size) 0) hb.1 hb.2
  split
  · rename_i h1
    exact rd_tag s p w sn hs hm hp hz hpos (by rw [e0]; exact hb.2) (by rw [e0, ea]; omega)
  rename_i h1
  have hx1 : ((s.extract p s.size)[0].toNat : Int) < 256 := by rw [e0]; exact hb.2
  have hx2 : bits .and .i64 ((s.extract p s.size)[0].toNat : Int) 31 ≤ 30 := by rw [e0, ea]; omega
  rw [hsz]
  have hr := rl_bd ((s.extract p s.size).extract 1 (s.size - p))
  obtain ⟨c, z1, z2, hw⟩ : ∃ c z1 z2, rl ((s.extract p s.size).extract 1 (s.size - p)) = (c, z1, z2) := ⟨_, _, _, rfl⟩
  rw [hw] at hr ⊢
  simp only at hr ⊢
  split
  · rename_i h2
    rcases hr.1 with h | h | h
    · exact absurd h h2
    · subst h; exact rd_len s p w sn z1 z2 hs hm hp hz hpos hx1 hx2 3 (sn .End) hw rfl
    · subst h; exact rd_len s p w sn z1 z2 hs hm hp hz hpos hx1 hx2 5 (sn .Length) hw rfl
  rename_i h2
  have h2 : c = 0 := by omega
  subst h2
  split
  · rename_i h3
    exact rd_end s p w sn z1 z2 hs hm hp hz hpos hx1 hx2 hw hr.2.1 hr.2.2.1 hr.2.2.2.1 hr.2.2.2.2 h3
  · rename_i h3
    have := rd_ok s p w sn z1 z2 hs hm hp hz hpos hx1 hx2 hw hr.2.1 hr.2.2.1 hr.2.2.2.1 hr.2.2.2.2 (by omega)
    rw [e0, ea, i64_and32 _ hb.1 hb.2] at this
    exact this
end Go.Proofs.YtkkicodfpekbgaaGreatDoor

/-! element.Read from the front; hallmark.number of what it answers. -/
namespace Go.Proofs.YtkkicodfpekbgaaGreatDoor
set_option linter.unusedSimpArgs false
set_option linter.unusedVariables false
open Go.RowKit

theorem extract_all (s : ByteArray) : s.extract 0 s.size = s := by
  simp
theorem read0 (s : ByteArray) (w : World) (sn : Sn → Addr) (hs : Sent w sn) (hm : s.size ≤ 9223372036854775807) :
    Calls Tryz.prog 156 #[.string s, .int .i64 0] w fun e w' => e = .returned (.tuple #[hv (hd s).2, errAt 0 sn (hd s).1]) ∧ Below w.heap.size w w' := by
  have := read_any s 0 w sn hs hm (Nat.zero_le _)
  rw [extract_all] at this
  exact this
theorem hd_code (s : ByteArray) : (hd s).1 = 0 ∨ (hd s).1 = 3 ∨ (hd s).1 = 4 ∨ (hd s).1 = 5 := by
  have hr := (rl_bd (s.extract 1 s.size)).1
  unfold hd
  repeat' split
  all_goals simp
  omega
theorem number_any (p : Int) (c : Int) (w : World) (sn : Sn → Addr) (hs : Sent w sn) (hc : c = 0 ∨ c = 3 ∨ c = 4 ∨ c = 5) :
    Calls Tryz.prog 34 #[errAt p sn c] w fun e w' => e = .returned (.int .i64 c) ∧ Below w.heap.size w w' := by
  rcases hc with rfl | rfl | rfl | rfl
  · exact (number_nil w).mono fun e w' h => ⟨h.1, h.2 ▸ Below.refl _ _⟩
  · exact number_E p w sn hs
  · exact number_T p w sn hs
  · exact number_L p w sn hs
end Go.Proofs.YtkkicodfpekbgaaGreatDoor

/-! string of a slice of the call's own. -/
namespace Go.Proofs.YtkkicodfpekbgaaGreatDoor
set_option linter.unusedSimpArgs false
set_option linter.unusedVariables false
open Go.RowKit

theorem Tryz.info8 : (Tryz.prog.info? 5).map (fun i => (i.zero, i.size, i.bytes)) = some (some (.int .u8 0), 1, 1) := by kernel_rfl
/-- string(v), v a slice of the call's own that holds these bytes. -/
theorem conv_own {w : World} {B n : Nat} {v : Value} {l : List UInt8} (h : w.ownsRow B 5 1 v n (l.map bv)) (hl : l ≠ []) :
    (convert 52 9 v).run Tryz.prog w = .ok (.string ⟨l.toArray⟩) w := by
  obtain ⟨h1, h2⟩ := h
  have hn : n = l.length := by simpa using h1.symm
  subst hn
  rcases h2 with ⟨_, h0⟩ | ⟨g, cap, cur, rfl, _, hg, hc, _, hs, ht⟩
  · exact absurd (List.length_eq_zero_iff.1 h0) hl
  refine run_convert_bytes_back w 52 9 5 ⟨g, 0, none⟩ cap l Tryz.underlying52 Tryz.underlying5 Tryz.underlying9 fun j hj => ?_
  have e1 : (⟨g, 0, none⟩ : Addr).add j = ⟨g, j, none⟩ := by unfold Addr.add; split <;> simp_all
  rw [e1]
  have e2 : w.cell? ⟨g, j, none⟩ = cur[j]? := by simp [World.cell?, hg]
  rw [e2]
  have e3 : (cur.toList.take (l.length * 1))[j]? = (l.map bv)[j]? := by rw [ht]
  rw [Nat.mul_one, List.getElem?_take_of_lt hj, List.getElem?_map, List.getElem?_eq_getElem hj] at e3
  rw [← Array.getElem?_toList, e3]
  rfl
theorem conv_one (x : Int) (h0 : 0 ≤ x) (h1 : x < 256) (w : World) : (convert 52 9 (.slice (some ⟨w.heap.size, 0, none⟩) 1 1)).run Tryz.prog (w.alloc (.cells #[.int .u8 x] 5)) = .ok (.string ⟨#[UInt8.ofNat x.toNat]⟩) (w.alloc (.cells #[.int .u8 x] 5)) := by
  refine conv_own (B := 0) (n := 1) (l := [UInt8.ofNat x.toNat]) ⟨by simp, .inr ⟨w.heap.size, 1, #[.int .u8 x], rfl, Nat.zero_le _, heap_alloc_new w _, by omega, by decide, rfl, ?_⟩⟩ (by simp)
  simp [bv_of x h0 h1]
end Go.Proofs.YtkkicodfpekbgaaGreatDoor

/-! The document's Length. -/
namespace Go.Proofs.YtkkicodfpekbgaaGreatDoor
set_option linter.unusedSimpArgs false
set_option linter.unusedVariables false
open Go.RowKit

theorem conv_at (x : Int) (h0 : 0 ≤ x) (h1 : x < 256) (w : World) (k : Nat) (hk : k = w.heap.size) : (convert 52 9 (.slice (some ⟨k, 0, none⟩) 1 1)).run Tryz.prog (w.alloc (.cells #[.int .u8 x] 5)) = .ok (.string ⟨#[UInt8.ofNat x.toNat]⟩) (w.alloc (.cells #[.int .u8 x] 5)) := by
  subst hk; exact conv_one x h0 h1 w
theorem conv_cell (x : Int) (h0 : 0 ≤ x) (h1 : x < 256) (W : World) (k : Nat) (hk : W.cell? ⟨k, 0, none⟩ = some (.int .u8 x)) : (convert 52 9 (.slice (some ⟨k, 0, none⟩) 1 1)).run Tryz.prog W = .ok (.string ⟨#[UInt8.ofNat x.toNat]⟩) W := by
  refine run_convert_bytes_back W 52 9 5 ⟨k, 0, none⟩ 1 [UInt8.ofNat x.toNat] Tryz.underlying52 Tryz.underlying5 Tryz.underlying9 fun j hj => ?_
  have : j = 0 := by simpa using hj
  subst this
  have e1 : (⟨k, 0, none⟩ : Addr).add 0 = ⟨k, 0, none⟩ := by unfold Addr.add; split <;> simp_all
  rw [e1, hk]
  have := bv_of x h0 h1
  unfold bv at this
  simpa using this.symm
theorem ret_str {a b : ByteArray} (h : a = b) : Ending.returned (.string a) = .returned (.string b) := by rw [h]

set_option maxHeartbeats 1000000 in
set_option maxRecDepth 100000 in
theorem len_0 (L : Int) (w : World) (h0 : 0 ≤ L) (h1 : L < 128) :
    Calls Tryz.prog 147 #[.int .i64 L] w fun e w' => e = .returned (.string ⟨#[UInt8.ofNat L.toNat]⟩) ∧ Below w.heap.size w w' := by
  have hc := conv_at L h0 (by omega)
  go_enter Tryz.func147, Tryz.ntmps147
  go_wp2
  go_ret
  exact ⟨rfl, (Below.refl _ _).alloc (Nat.le_refl _) _⟩

set_option maxHeartbeats 1000000 in
set_option maxRecDepth 100000 in
theorem len_1 (L : Int) (w : World) (h0 : 128 ≤ L) (h1 : L < 256) :
    Calls Tryz.prog 147 #[.int .i64 L] w fun e w' => e = .returned (.string ⟨#[129, UInt8.ofNat L.toNat]⟩) ∧ Below w.heap.size w w' := by
  have hc0 := conv_at (L) (by omega) (by omega)
  have hc1 := conv_at (L % 256) (by omega) (by omega)
  have hc2 := conv_at (129) (by omega) (by omega)
  go_enter Tryz.func147, Tryz.ntmps147
  go_wp2
  refine wp_loop_rounds 2 ?_
  rw [rounds_succ]
  go_wp2
  rw [rounds_succ]
  go_wp2
  go_ret
  refine ⟨ret_str ?_, (((Below.refl w.heap.size w).alloc (by simp; try omega) _).alloc (by simp; try omega) _)⟩
  apply ByteArray.ext
  simp
  rw [show L % 256 = L by omega]

set_option maxHeartbeats 1000000 in
set_option maxRecDepth 100000 in
theorem len_2 (L : Int) (w : World) (h0 : 256 ≤ L) (h1 : L < 65536) :
    Calls Tryz.prog 147 #[.int .i64 L] w fun e w' => e = .returned (.string ⟨#[130, UInt8.ofNat (L / 256).toNat, UInt8.ofNat (L % 256).toNat]⟩) ∧ Below w.heap.size w w' := by
  have hc0 := conv_at (L % 256) (by omega) (by omega)
  have hc1 := conv_at (L / 256 % 256) (by omega) (by omega)
  have hc2 := conv_at (L / 256) (by omega) (by omega)
  have hc3 := conv_at (130) (by omega) (by omega)
  go_enter Tryz.func147, Tryz.ntmps147
  go_wp2
  refine wp_loop_rounds 3 ?_
  rw [rounds_succ]
  go_wp2
  rw [rounds_succ]
  go_wp2
  rw [rounds_succ]
  go_wp2
  go_ret
  refine ⟨ret_str ?_, ((((Below.refl w.heap.size w).alloc (by simp; try omega) _).alloc (by simp; try omega) _).alloc (by simp; try omega) _)⟩
  apply ByteArray.ext
  simp
  rw [show L / 256 % 256 = L / 256 by omega]

set_option maxHeartbeats 1000000 in
set_option maxRecDepth 100000 in
theorem len_3 (L : Int) (w : World) (h0 : 65536 ≤ L) (h1 : L < 16777216) :
    Calls Tryz.prog 147 #[.int .i64 L] w fun e w' => e = .returned (.string ⟨#[131, UInt8.ofNat (L / 65536).toNat, UInt8.ofNat (L / 256 % 256).toNat, UInt8.ofNat (L % 256).toNat]⟩) ∧ Below w.heap.size w w' := by
  have hc0 := conv_at (L % 256) (by omega) (by omega)
  have hc1 := conv_at (L / 256 % 256) (by omega) (by omega)
  have hc2 := conv_at (L / 256 / 256 % 256) (by omega) (by omega)
  have hc3 := conv_at (L / 256 / 256) (by omega) (by omega)
  have hc4 := conv_at (131) (by omega) (by omega)
  go_enter Tryz.func147, Tryz.ntmps147
  go_wp2
  refine wp_loop_rounds 4 ?_
  rw [rounds_succ]
  go_wp2
  rw [rounds_succ]
  go_wp2
  rw [rounds_succ]
  go_wp2
  rw [rounds_succ]
  go_wp2
  go_ret
  refine ⟨ret_str ?_, (((((Below.refl w.heap.size w).alloc (by simp; try omega) _).alloc (by simp; try omega) _).alloc (by simp; try omega) _).alloc (by simp; try omega) _)⟩
  apply ByteArray.ext
  simp
  rw [show L / 256 / 256 % 256 = L / 65536 by omega]

theorem Length_any (L : Int) (w : World) (h0 : 0 ≤ L) (h1 : L < 16777216) :
    Calls Tryz.prog 147 #[.int .i64 L] w fun e w' => e = .returned (.string ⟨(tl L).toArray⟩) ∧ Below w.heap.size w w' := by
  unfold tl
  split
  · exact len_0 L w h0 (by omega)
  split
  · exact len_1 L w (by omega) (by omega)
  split
  · exact len_2 L w (by omega) (by omega)
  · exact len_3 L w (by omega) (by omega)
end Go.Proofs.YtkkicodfpekbgaaGreatDoor

/-! hallmarkkeep's maker: contents. -/
namespace Go.Proofs.YtkkicodfpekbgaaGreatDoor
set_option linter.unusedSimpArgs false
set_option linter.unusedVariables false
open Go.RowKit

/-- A text that comes back. -/
def RetY (A : ByteArray → Prop) (P : World → Prop) (e : Ending) (w' : World) : Prop := ∃ s : ByteArray, e = .returned (.string s) ∧ A s ∧ P w'
theorem b8_app0 (x : UInt8) (s : ByteArray) : b8 ((⟨#[x]⟩ : ByteArray) ++ s) 0 = x.toNat := by
  unfold b8
  simp
theorem app_size (x : UInt8) (s : ByteArray) : ((⟨#[x]⟩ : ByteArray) ++ s).size = s.size + 1 := by
  rw [ByteArray.size_append]
  show 1 + s.size = _
  omega
theorem int_made (r : Int) (s : ByteArray) (h0 : 0 ≤ r) (h1 : r < 127) (hs : s.size ≤ 19) : IntOk ((⟨#[UInt8.ofNat (1 + r).toNat]⟩ : ByteArray) ++ s) := by
  have e : b8 ((⟨#[UInt8.ofNat (1 + r).toNat]⟩ : ByteArray) ++ s) 0 = 1 + r := by
    rw [b8_app0, UInt8.toNat_ofNat']
    omega
  refine ⟨by rw [app_size]; omega, by rw [app_size]; omega, fun _ => ?_⟩
  rw [e]
  have h2 : b8 ((⟨#[UInt8.ofNat (1 + r).toNat]⟩ : ByteArray) ++ s) 1 < 256 ∧ 0 ≤ b8 ((⟨#[UInt8.ofNat (1 + r).toNat]⟩ : ByteArray) ++ s) 1 := by
    unfold b8
    have := ((((⟨#[UInt8.ofNat (1 + r).toNat]⟩ : ByteArray) ++ s).data.toList).getD 1 0).toNat_lt
    omega
  omega
theorem bits_made (s : ByteArray) : BitsOk ((⟨#[0]⟩ : ByteArray) ++ s) := by
  have e : b8 ((⟨#[0]⟩ : ByteArray) ++ s) 0 = 0 := by rw [b8_app0]; rfl
  refine ⟨by rw [app_size]; omega, by rw [e]; omega, fun _ => e, fun _ => ?_⟩
  rw [e]
  simp

theorem app_le {o x : ByteArray} {j : Nat} (ho : o.size ≤ 4 * j) (hx : x.size ≤ 4) : (o ++ x).size ≤ 4 * (j + 1) := by rw [ByteArray.size_append]; omega

set_option maxHeartbeats 2000000 in
set_option maxRecDepth 100000 in
theorem content_int (W w : World) (M : Nat) (na ta : Option Addr) (nl nc tl tc : Nat) (vs vl : Value) (h : MkI W w M na ta nl nc tl tc vs vl) (hp : PlanIn W na ta nl tl) :
    Calls Tryz.prog 54 #[.pointer (some ⟨M, 0, none⟩), .int .i64 2] w fun e w' => RetY (fun s => IntOk s ∧ s.size ≤ 20) (fun w' => MkI W w' M na ta nl nc tl tc vs vl ∧ FrM M w w') e w' := by
  have HT : Hid (Calls Tryz.prog 56 #[.pointer (some ⟨M, 0, none⟩)] w fun e w' => RetX 9223372036854775807 (fun w' => MkI W w' M na ta nl nc tl tc vs vl ∧ FrM M w w') e w') := text_any W w M na ta nl nc tl tc vs vl h hp
  have HC : Hid (∀ s wq, s.size ≤ 9223372036854775807 → Calls Tryz.prog 55 #[.string s, .int .i64 19] wq fun e w' => RetX 19 (fun w' => w' = wq) e w') := fun s wq q => cut_any s 19 wq q (by omega)
  have HO : Hid (∀ wq, MkI W wq M na ta nl nc tl tc vs vl → Calls Tryz.prog 53 #[.pointer (some ⟨M, 0, none⟩), .int .i64 127] wq fun e w' => RetN 127 (fun w' => MkI W w' M na ta nl nc tl tc vs vl ∧ FrM M wq w') e w') := fun wq q => one_any W wq M na ta nl nc tl tc vs vl 127 (by omega) (by omega) q hp
  clear h hp
  go_enter Tryz.func54, Tryz.ntmps54
  go_wp2_with fail
  refine HT.out.mono ?_
  rintro e w1 ⟨s0, rfl, hs0, hI1, hF1⟩
  have HI1 : Hid (MkI W w1 M na ta nl nc tl tc vs vl) := hI1
  have HF1 : Hid (FrM M w w1) := hF1
  clear hI1 hF1
  go_wp2_with fail
  refine (HC.out s0 _ hs0).mono ?_
  rintro e w2 ⟨s, rfl, hs, rfl⟩
  clear hs0
  go_wp2_with fail
  refine (HO.out _ HI1.out).mono ?_
  rintro e w3 ⟨r, rfl, r0, r1, hI3, hF3⟩
  have HI3 : Hid (MkI W w3 M na ta nl nc tl tc vs vl) := hI3
  have HF3 : Hid (FrM M w w3) := HF1.out.trans hF3
  have hcv := conv_at (1 + r) (by omega) (by omega)
  clear hI3 hF3
  go_wp2
  go_ret
  exact ⟨_, rfl, ⟨int_made r s r0 r1 hs, by rw [app_size]; omega⟩, HI3.out.below ((Below.refl _ _).alloc (Nat.le_refl _) _), HF3.out.trans (FrM.below ((Below.refl _ _).alloc (Nat.le_refl _) _))⟩

set_option maxHeartbeats 2000000 in
set_option maxRecDepth 100000 in
theorem content_bits (W w : World) (M : Nat) (na ta : Option Addr) (nl nc tl tc : Nat) (vs vl : Value) (h : MkI W w M na ta nl nc tl tc vs vl) (hp : PlanIn W na ta nl tl) :
    Calls Tryz.prog 54 #[.pointer (some ⟨M, 0, none⟩), .int .i64 5] w fun e w' => RetY (fun s => BitsOk s ∧ s.size ≤ 20) (fun w' => MkI W w' M na ta nl nc tl tc vs vl ∧ FrM M w w') e w' := by
  have HT : Hid (Calls Tryz.prog 56 #[.pointer (some ⟨M, 0, none⟩)] w fun e w' => RetX 9223372036854775807 (fun w' => MkI W w' M na ta nl nc tl tc vs vl ∧ FrM M w w') e w') := text_any W w M na ta nl nc tl tc vs vl h hp
  have HC : Hid (∀ s wq, s.size ≤ 9223372036854775807 → Calls Tryz.prog 55 #[.string s, .int .i64 19] wq fun e w' => RetX 19 (fun w' => w' = wq) e w') := fun s wq q => cut_any s 19 wq q (by omega)
  clear h hp
  go_enter Tryz.func54, Tryz.ntmps54
  go_wp2_with fail
  refine HT.out.mono ?_
  rintro e w1 ⟨s0, rfl, hs0, hI1, hF1⟩
  have HI1 : Hid (MkI W w1 M na ta nl nc tl tc vs vl) := hI1
  have HF1 : Hid (FrM M w w1) := hF1
  clear hI1 hF1
  go_wp2_with fail
  refine (HC.out s0 _ hs0).mono ?_
  rintro e w2 ⟨s, rfl, hs, rfl⟩
  clear hs0
  go_wp2
  go_ret
  exact ⟨_, rfl, ⟨bits_made s, by rw [app_size]; omega⟩, HI1.out, HF1.out⟩

set_option maxHeartbeats 2000000 in
set_option maxRecDepth 100000 in
theorem content_utf (W w : World) (M : Nat) (na ta : Option Addr) (nl nc tl tc : Nat) (vs vl : Value) (h : MkI W w M na ta nl nc tl tc vs vl) (hp : PlanIn W na ta nl tl) :
    Calls Tryz.prog 54 #[.pointer (some ⟨M, 0, none⟩), .int .i64 7] w fun e w' => RetY (fun s => s.size ≤ 76) (fun w' => MkI W w' M na ta nl nc tl tc vs vl ∧ FrM M w w') e w' := by
  have HT : Hid (Calls Tryz.prog 56 #[.pointer (some ⟨M, 0, none⟩)] w fun e w' => RetX 9223372036854775807 (fun w' => MkI W w' M na ta nl nc tl tc vs vl ∧ FrM M w w') e w') := text_any W w M na ta nl nc tl tc vs vl h hp
  have HC : Hid (∀ s wq, s.size ≤ 9223372036854775807 → Calls Tryz.prog 55 #[.string s, .int .i64 19] wq fun e w' => RetX 19 (fun w' => w' = wq) e w') := fun s wq q => cut_any s 19 wq q (by omega)
  clear h hp
  go_enter Tryz.func54, Tryz.ntmps54
  go_wp2_with fail
  refine HT.out.mono ?_
  rintro e w1 ⟨s0, rfl, hs0, hI1, hF1⟩
  have HI1 : Hid (MkI W w1 M na ta nl nc tl tc vs vl) := hI1
  have HF1 : Hid (FrM M w w1) := hF1
  clear hI1 hF1
  go_wp2_with fail
  refine (HC.out s0 _ hs0).mono ?_
  rintro e w2 ⟨s, rfl, hs, rfl⟩
  clear hs0
  go_wp2
  go_loopw [6, 8] (fun vo vi wr => ∃ (o : ByteArray) (j : Nat), vo = .string o ∧ vi = .int .i64 j ∧ j ≤ s.size ∧ o.size ≤ 4 * j ∧ Below w2.heap.size w2 wr) (fun _ vi _ => s.size - (intOf vi).toNat)
  case atStart => exact ⟨⟨#[]⟩, 0, rfl, rfl, Nat.zero_le _, Nat.zero_le _, Below.refl _ _⟩
  case round =>
    obtain ⟨o, j, rfl, rfl, hj, ho, hb⟩ := hrel
    have HB : Hid (Below w2.heap.size w2 wr) := hb
    clear hb
    by_cases hlt : j < s.size
    · have hlt' : (j : Int) < s.size := by omega
      obtain ⟨m, hm⟩ : ∃ m : Nat, s[j].toNat % 5 = m := ⟨_, rfl⟩
      have hm5 : m < 5 := by omega
      have hmi : Int.tmod (s[j].toNat : Int) 5 = (m : Int) := by rw [Int.tmod_eq_emod_of_nonneg (by omega)]; omega
      have hw64 : wrap64 (s[j].toNat : Int) = s[j].toNat := by have := s[j].toNat_lt; unfold wrap64; omega
      have hcase : m = 0 ∨ m = 1 ∨ m = 2 ∨ m = 3 ∨ m = 4 := by omega
      clear hm hm5
      rcases hcase with rfl | rfl | rfl | rfl | rfl
      all_goals
        go_wp2
        go_roundw
        case rel => exact ⟨_, j + 1, rfl, by go_num, by omega, app_le ho (by decide), HB.out.alloc HB.out.size _⟩
        case measure => simp [intOf]; omega
    · have hlt' : ¬ (j : Int) < s.size := by omega
      go_wp2
      go_ret
      exact ⟨o, rfl, by omega, HI1.out.below HB.out, HF1.out.trans (FrM.below HB.out)⟩
set_option maxHeartbeats 2000000 in
set_option maxRecDepth 100000 in
theorem content_pr (W w : World) (M : Nat) (na ta : Option Addr) (nl nc tl tc : Nat) (vs vl : Value) (h : MkI W w M na ta nl nc tl tc vs vl) (hp : PlanIn W na ta nl tl) :
    Calls Tryz.prog 54 #[.pointer (some ⟨M, 0, none⟩), .int .i64 8] w fun e w' => RetY (fun s => s.size ≤ 76) (fun w' => MkI W w' M na ta nl nc tl tc vs vl ∧ FrM M w w') e w' := by
  have HT : Hid (Calls Tryz.prog 56 #[.pointer (some ⟨M, 0, none⟩)] w fun e w' => RetX 9223372036854775807 (fun w' => MkI W w' M na ta nl nc tl tc vs vl ∧ FrM M w w') e w') := text_any W w M na ta nl nc tl tc vs vl h hp
  have HC : Hid (∀ s wq, s.size ≤ 9223372036854775807 → Calls Tryz.prog 55 #[.string s, .int .i64 19] wq fun e w' => RetX 19 (fun w' => w' = wq) e w') := fun s wq q => cut_any s 19 wq q (by omega)
  clear h hp
  go_enter Tryz.func54, Tryz.ntmps54
  go_wp2_with fail
  refine HT.out.mono ?_
  rintro e w1 ⟨s0, rfl, hs0, hI1, hF1⟩
  have HI1 : Hid (MkI W w1 M na ta nl nc tl tc vs vl) := hI1
  have HF1 : Hid (FrM M w w1) := hF1
  clear hI1 hF1
  go_wp2_with fail
  refine (HC.out s0 _ hs0).mono ?_
  rintro e w2 ⟨s, rfl, hs, rfl⟩
  clear hs0
  go_wp2
  go_loopw [6, 9] (fun vo vi wr => ∃ (o : ByteArray) (j : Nat), vo = .string o ∧ vi = .int .i64 j ∧ j ≤ s.size ∧ o.size ≤ 4 * j ∧ Below w2.heap.size w2 wr) (fun _ vi _ => s.size - (intOf vi).toNat)
  case atStart => exact ⟨⟨#[]⟩, 0, rfl, rfl, Nat.zero_le _, Nat.zero_le _, Below.refl _ _⟩
  case round =>
    obtain ⟨o, j, rfl, rfl, hj, ho, hb⟩ := hrel
    have HB : Hid (Below w2.heap.size w2 wr) := hb
    clear hb
    by_cases hlt : j < s.size
    · have hlt' : (j : Int) < s.size := by omega
      obtain ⟨m, hm⟩ : ∃ m : Nat, s[j].toNat % 21 = m := ⟨_, rfl⟩
      have hm21 : m < 21 := by omega
      have hmi : Int.tmod (s[j].toNat : Int) 21 = (m : Int) := by rw [Int.tmod_eq_emod_of_nonneg (by omega)]; omega
      have hw64 : wrap64 (s[j].toNat : Int) = s[j].toNat := by have := s[j].toNat_lt; unfold wrap64; omega
      have hm21' : (m : Int) ≤ 21 := by omega
      have hm20' : (1 : Int) ≤ 21 - m := by omega
      clear hm
      go_wp2
      go_roundw
      case rel => exact ⟨_, j + 1, rfl, by go_num, by omega, app_le ho (by rw [ByteArray.size_extract]; omega), HB.out⟩
      case measure => simp [intOf]; omega
    · have hlt' : ¬ (j : Int) < s.size := by omega
      go_wp2
      go_ret
      exact ⟨o, rfl, by omega, HI1.out.below HB.out, HF1.out.trans (FrM.below HB.out)⟩
end Go.Proofs.YtkkicodfpekbgaaGreatDoor

/-! schemas.isOpen, mayLack, isTagged, kidBounds: what they answer. -/
namespace Go.Proofs.YtkkicodfpekbgaaGreatDoor
set_option linter.unusedSimpArgs false
set_option linter.unusedVariables false
open Go.RowKit

/-- A Choice without a Tag, as the program asks. -/
def Nd.opn1 (n : Nd) : Prop := n.kind = 13 ∧ n.tag = -1
/-- A node's Tag and Mode. -/
def Tagged (n : Nd) : Prop := -1 ≤ n.tag ∧ n.tag ≤ 30 ∧ (n.tag = -1 → n.mode = 0) ∧ (0 ≤ n.tag → (n.kind = 13 ∨ n.kind = 14) → n.mode = 1) ∧ (0 ≤ n.tag → n.kind ≠ 13 → n.kind ≠ 14 → n.mode = 0 ∨ n.mode = 1)
set_option maxHeartbeats 1000000 in
set_option maxRecDepth 100000 in
theorem isOpen_any (n : Nd) (ka : Option Addr) (kc : Nat) (w : World) :
    Calls Tryz.prog 139 #[.agg #[.int .i64 n.kind, .int .i64 n.tag, .int .i64 n.mode, .slice ka n.kids.length kc]] w fun e w' => RetO n.opn1 w e w' := by
  by_cases h1 : n.kind = 13
  · have h1' : (n.kind == 13) = true := by simp [h1]
    by_cases h2 : n.tag = -1
    · have HP : Hid n.opn1 := ⟨h1, h2⟩
      have h2' : (n.tag == -1) = true := by simp [h2]
      clear h1 h2
      go_enter Tryz.func139, Tryz.ntmps139
      go_wp2
      go_ret
      exact reto_yes HP.out ((Below.refl _ _).alloc (Nat.le_refl _) _)
    · have HP : Hid (¬ n.opn1) := fun h => h2 h.2
      have h2' : (n.tag == -1) = false := by simp [h2]
      clear h1 h2
      go_enter Tryz.func139, Tryz.ntmps139
      go_wp2
      go_ret
      exact reto_no HP.out ((Below.refl _ _).alloc (Nat.le_refl _) _)
  · have h1' : (n.kind == 13) = false := by simp [h1]
    have HP : Hid (¬ n.opn1) := fun h => h1 h.1
    clear h1
    go_enter Tryz.func139, Tryz.ntmps139
    go_wp2
    go_ret
    exact reto_no HP.out ((Below.refl _ _).alloc (Nat.le_refl _) _)
set_option maxHeartbeats 1000000 in
set_option maxRecDepth 100000 in
theorem mayLack_any (k : Kd) (w : World) :
    Calls Tryz.prog 94 #[.agg #[.int .i64 k.node, .bool k.opt, .string k.dflt]] w fun e w' => RetO (¬ k.must) w e w' := by
  cases h : k.opt with
  | true =>
    have HP : Hid (¬ k.must) := fun q => by have := q.1; rw [h] at this; cases this
    clear h
    go_enter Tryz.func94, Tryz.ntmps94
    go_wp2
    go_ret
    exact reto_yes HP.out ((Below.refl _ _).alloc (Nat.le_refl _) _)
  | false =>
    have HO : Hid (k.opt = false) := h
    clear h
    by_cases h2 : k.dflt.size = 0
    · have e := emp_t h2
      have HP : Hid (¬ ¬ k.must) := fun q => q ⟨HO.out, h2⟩
      clear h2
      go_enter Tryz.func94, Tryz.ntmps94
      go_wp2
      go_ret
      exact reto_no HP.out ((Below.refl _ _).alloc (Nat.le_refl _) _)
    · have e := emp_f (t := k.dflt) (by omega)
      have HP : Hid (¬ k.must) := fun q => h2 q.2
      clear h2
      go_enter Tryz.func94, Tryz.ntmps94
      go_wp2
      go_ret
      exact reto_yes HP.out ((Below.refl _ _).alloc (Nat.le_refl _) _)
set_option maxHeartbeats 2000000 in
set_option maxRecDepth 100000 in
theorem isTagged_any (n : Nd) (ka : Option Addr) (kc : Nat) (w : World) :
    Calls Tryz.prog 92 #[.agg #[.int .i64 n.kind, .int .i64 n.tag, .int .i64 n.mode, .slice ka n.kids.length kc]] w fun e w' => RetO (Tagged n) w e w' := by
  by_cases h1 : n.tag < -1
  · have HP : Hid (¬ Tagged n) := by show ¬ Tagged n; unfold Tagged; omega
    go_enter Tryz.func92, Tryz.ntmps92
    go_wp2
    go_ret
    exact reto_no HP.out ((Below.refl _ _).alloc (Nat.le_refl _) _)
  have h1' : -1 ≤ n.tag := by omega
  clear h1
  by_cases h2 : 30 < n.tag
  · have HP : Hid (¬ Tagged n) := by show ¬ Tagged n; unfold Tagged; omega
    go_enter Tryz.func92, Tryz.ntmps92
    go_wp2
    go_ret
    exact reto_no HP.out ((Below.refl _ _).alloc (Nat.le_refl _) _)
  have h2' : n.tag ≤ 30 := by omega
  clear h2
  by_cases h3 : n.tag = -1
  · have e3 : (n.tag == -1) = true := by simp [h3]
    by_cases h4 : n.mode = 0
    · have e4 : (n.mode == 0) = true := by simp [h4]
      have HP : Hid (Tagged n) := by show Tagged n; unfold Tagged; omega
      clear h3 h4 h1' h2'
      have h1' : -1 ≤ n.tag := by have := HP.out.1; omega
      have h2' : n.tag ≤ 30 := by have := HP.out.2.1; omega
      go_enter Tryz.func92, Tryz.ntmps92
      go_wp2
      go_ret
      exact reto_yes HP.out ((Below.refl _ _).alloc (Nat.le_refl _) _)
    · have e4 : (n.mode == 0) = false := by simp [h4]
      have HP : Hid (¬ Tagged n) := by show ¬ Tagged n; unfold Tagged; omega
      clear h3 h4
      go_enter Tryz.func92, Tryz.ntmps92
      go_wp2
      go_ret
      exact reto_no HP.out ((Below.refl _ _).alloc (Nat.le_refl _) _)
  have e3 : (n.tag == -1) = false := by simp [h3]
  have h3' : 0 ≤ n.tag := by omega
  clear h3
  have hk : (n.kind = 13 ∧ (n.kind == 13) = true) ∨ (n.kind = 14 ∧ (n.kind == 13) = false ∧ (n.kind == 14) = true) ∨ (n.kind ≠ 13 ∧ n.kind ≠ 14 ∧ (n.kind == 13) = false ∧ (n.kind == 14) = false) := by
    by_cases a : n.kind = 13
    · exact .inl ⟨a, by simp [a]⟩
    · by_cases b : n.kind = 14
      · exact .inr (.inl ⟨b, by simp [b], by simp [b]⟩)
      · exact .inr (.inr ⟨a, b, by simp [a], by simp [b]⟩)
  have hm : (n.mode = 0 ∧ (n.mode == 0) = true ∧ (n.mode == 1) = false) ∨ (n.mode = 1 ∧ (n.mode == 0) = false ∧ (n.mode == 1) = true) ∨ (n.mode ≠ 0 ∧ n.mode ≠ 1 ∧ (n.mode == 0) = false ∧ (n.mode == 1) = false) := by
    by_cases a : n.mode = 0
    · exact .inl ⟨a, by simp [a], by simp [a]⟩
    · by_cases b : n.mode = 1
      · exact .inr (.inl ⟨b, by simp [b], by simp [b]⟩)
      · exact .inr (.inr ⟨a, b, by simp [a], by simp [b]⟩)
  rcases hk with ⟨k0, k1⟩ | ⟨k0, k1, k2⟩ | ⟨k0, k3, k1, k2⟩
  · rcases hm with ⟨m0, m1, m2⟩ | ⟨m0, m1, m2⟩ | ⟨m0, m3, m1, m2⟩
    · have HP : Hid (¬ Tagged n) := by show ¬ Tagged n; unfold Tagged; omega
      clear k0 m0
      go_enter Tryz.func92, Tryz.ntmps92
      go_wp2
      go_ret
      exact reto_no HP.out ((Below.refl _ _).alloc (Nat.le_refl _) _)
    · have HP : Hid (Tagged n) := by show Tagged n; unfold Tagged; omega
      clear k0 m0
      go_enter Tryz.func92, Tryz.ntmps92
      go_wp2
      go_ret
      exact reto_yes HP.out ((Below.refl _ _).alloc (Nat.le_refl _) _)
    · have HP : Hid (¬ Tagged n) := by show ¬ Tagged n; unfold Tagged; omega
      clear k0 m0 m3
      go_enter Tryz.func92, Tryz.ntmps92
      go_wp2
      go_ret
      exact reto_no HP.out ((Below.refl _ _).alloc (Nat.le_refl _) _)
  · rcases hm with ⟨m0, m1, m2⟩ | ⟨m0, m1, m2⟩ | ⟨m0, m3, m1, m2⟩
    · have HP : Hid (¬ Tagged n) := by show ¬ Tagged n; unfold Tagged; omega
      clear k0 m0
      go_enter Tryz.func92, Tryz.ntmps92
      go_wp2
      go_ret
      exact reto_no HP.out ((Below.refl _ _).alloc (Nat.le_refl _) _)
    · have HP : Hid (Tagged n) := by show Tagged n; unfold Tagged; omega
      clear k0 m0
      go_enter Tryz.func92, Tryz.ntmps92
      go_wp2
      go_ret
      exact reto_yes HP.out ((Below.refl _ _).alloc (Nat.le_refl _) _)
    · have HP : Hid (¬ Tagged n) := by show ¬ Tagged n; unfold Tagged; omega
      clear k0 m0 m3
      go_enter Tryz.func92, Tryz.ntmps92
      go_wp2
      go_ret
      exact reto_no HP.out ((Below.refl _ _).alloc (Nat.le_refl _) _)
  · rcases hm with ⟨m0, m1, m2⟩ | ⟨m0, m1, m2⟩ | ⟨m0, m3, m1, m2⟩
    · have HP : Hid (Tagged n) := by show Tagged n; unfold Tagged; omega
      clear k0 m0 k3
      go_enter Tryz.func92, Tryz.ntmps92
      go_wp2
      go_ret
      exact reto_yes HP.out ((Below.refl _ _).alloc (Nat.le_refl _) _)
    · have HP : Hid (Tagged n) := by show Tagged n; unfold Tagged; omega
      clear k0 m0 k3
      go_enter Tryz.func92, Tryz.ntmps92
      go_wp2
      go_ret
      exact reto_yes HP.out ((Below.refl _ _).alloc (Nat.le_refl _) _)
    · have HP : Hid (¬ Tagged n) := by show ¬ Tagged n; unfold Tagged; omega
      clear k0 m0 k3 m3
      go_enter Tryz.func92, Tryz.ntmps92
      go_wp2
      go_ret
      exact reto_no HP.out ((Below.refl _ _).alloc (Nat.le_refl _) _)
/-- The least and the most kids of a kind. -/
def bnd (k : Int) : Int × Int := if k = 10 then (0, 8) else if k = 11 ∨ k = 12 then (1, 1) else if k = 13 then (1, 8) else (0, 0)
set_option maxHeartbeats 1000000 in
set_option maxRecDepth 100000 in
theorem kidBounds_any (k : Int) (w : World) :
    Calls Tryz.prog 93 #[.int .i64 k] w fun e w' => e = .returned (.tuple #[.int .i64 (bnd k).1, .int .i64 (bnd k).2]) ∧ Below w.heap.size w w' := by
  by_cases h10 : k = 10
  · subst h10
    have e : bnd 10 = (0, 8) := by unfold bnd; rfl
    rw [e]
    clear e
    go_enter Tryz.func93, Tryz.ntmps93
    go_wp2
    go_ret2
    exact ⟨rfl, Below.refl _ _⟩
  have e10 : (k == 10) = false := by simp [h10]
  by_cases h11 : k = 11
  · subst h11
    have e : bnd 11 = (1, 1) := by unfold bnd; rfl
    rw [e]
    clear e
    go_enter Tryz.func93, Tryz.ntmps93
    go_wp2
    go_ret2
    exact ⟨rfl, Below.refl _ _⟩
  have e11 : (k == 11) = false := by simp [h11]
  by_cases h12 : k = 12
  · subst h12
    have e : bnd 12 = (1, 1) := by unfold bnd; rfl
    rw [e]
    clear e
    go_enter Tryz.func93, Tryz.ntmps93
    go_wp2
    go_ret2
    exact ⟨rfl, Below.refl _ _⟩
  have e12 : (k == 12) = false := by simp [h12]
  by_cases h13 : k = 13
  · subst h13
    have e : bnd 13 = (1, 8) := by unfold bnd; rfl
    rw [e]
    clear e
    go_enter Tryz.func93, Tryz.ntmps93
    go_wp2
    go_ret2
    exact ⟨rfl, Below.refl _ _⟩
  have e13 : (k == 13) = false := by simp [h13]
  have e : bnd k = (0, 0) := by unfold bnd; rw [if_neg h10, if_neg (by omega), if_neg h13]
  rw [e]
  clear e h10 h11 h12 h13
  go_enter Tryz.func93, Tryz.ntmps93
  go_wp2
  go_ret2
  exact ⟨rfl, Below.refl _ _⟩
end Go.Proofs.YtkkicodfpekbgaaGreatDoor

/-! Schemas: the pure part of the search for the leaves, as the program goes (a stack; what was put on it is marked). -/
namespace Go.Proofs.YtkkicodfpekbgaaGreatDoor
set_option linter.unusedSimpArgs false
set_option linter.unusedVariables false

structure Re (s : List Nd) (i : Nat) (V A S : List Nat) (bk : Bool) : Prop where
  mem : i ∈ V ++ A
  rch : ∀ x ∈ V ++ A, Rch s i x
  sin : ∀ x ∈ S, x ∈ V ++ A
  snd : S.Nodup
  slt : ∀ x ∈ S, x < s.length
  cnt : V.length + A.length = 1 + S.length
  cl : ∀ x ∈ V, (nd s x).opn → ∀ k ∈ (nd s x).kids, k.node.toNat ∈ S
  back : bk = true ↔ ∃ x ∈ V, (nd s x).opn ∧ ∃ k ∈ (nd s x).kids, k.node = i
structure ReM (s : List Nd) (i : Nat) (V : List Nat) (x j : Nat) (A S : List Nat) (bk : Bool) : Prop where
  mem : i ∈ V ++ x :: A
  rch : ∀ y ∈ V ++ x :: A, Rch s i y
  sin : ∀ y ∈ S, y ∈ V ++ x :: A
  snd : S.Nodup
  slt : ∀ y ∈ S, y < s.length
  cnt : V.length + (A.length + 1) = 1 + S.length
  cl : ∀ y ∈ V, (nd s y).opn → ∀ k ∈ (nd s y).kids, k.node.toNat ∈ S
  cl2 : ∀ m, m < j → ((nd s x).kids.getD m kd0).node.toNat ∈ S
  back : bk = true ↔ (∃ y ∈ V, (nd s y).opn ∧ ∃ k ∈ (nd s y).kids, k.node = i) ∨ ∃ m, m < j ∧ ((nd s x).kids.getD m kd0).node = i

theorem Re.start (s : List Nd) (i : Nat) : Re s i [] [i] [] false where
  mem := by simp
  rch := fun x hx => by simp at hx; subst hx; exact .refl
  sin := fun x hx => by cases hx
  snd := List.nodup_nil
  slt := fun x hx => by cases hx
  cnt := rfl
  cl := fun x hx => by cases hx
  back := by simp
theorem Re.len {s : List Nd} {i : Nat} {V A S : List Nat} {bk : Bool} (h : Re s i V A S bk) : V.length + A.length ≤ 1 + s.length := by
  have := nodup_le s.length S h.snd h.slt; have := h.cnt; omega
theorem ReM.len {s : List Nd} {i : Nat} {V A S : List Nat} {x j : Nat} {bk : Bool} (h : ReM s i V x j A S bk) : V.length + A.length ≤ s.length ∧ S.length ≤ s.length := by
  have := nodup_le s.length S h.snd h.slt; have := h.cnt; omega
theorem mem_mid {V A : List Nat} {x y : Nat} : y ∈ V ++ x :: A ↔ y ∈ V ++ [x] ++ A := by simp
theorem Re.leaf {s : List Nd} {i x : Nat} {V A S : List Nat} {bk : Bool} (h : Re s i V (A ++ [x]) S bk) (ho : ¬ (nd s x).opn) : Re s i (V ++ [x]) A S bk where
  mem := by have := h.mem; simp at this ⊢; rcases this with q | q | q <;> simp [q]
  rch := fun y hy => h.rch y (by simp at hy ⊢; rcases hy with hy | hy | hy <;> simp [hy])
  sin := fun y hy => by have := h.sin y hy; simp at this ⊢; rcases this with q | q | q <;> simp [q]
  snd := h.snd
  slt := h.slt
  cnt := by have := h.cnt; simp at this ⊢; omega
  cl := fun y hy hyo => by
    rcases List.mem_append.1 hy with hy | hy
    · exact h.cl y hy hyo
    · simp at hy; subst hy; exact absurd hyo ho
  back := by
    rw [h.back]
    constructor
    · rintro ⟨y, hy, hr⟩; exact ⟨y, by simp [hy], hr⟩
    · rintro ⟨y, hy, hyo, hr⟩
      rcases List.mem_append.1 hy with hy | hy
      · exact ⟨y, hy, hyo, hr⟩
      · simp at hy; subst hy; exact absurd hyo ho
theorem Re.mid {s : List Nd} {i x : Nat} {V A S : List Nat} {bk : Bool} (h : Re s i V (A ++ [x]) S bk) : ReM s i V x 0 A S bk where
  mem := by have := h.mem; simp at this ⊢; rcases this with q | q | q <;> simp [q]
  rch := fun y hy => h.rch y (by simp at hy ⊢; rcases hy with hy | hy | hy <;> simp [hy])
  sin := fun y hy => by have := h.sin y hy; simp at this ⊢; rcases this with q | q | q <;> simp [q]
  snd := h.snd
  slt := h.slt
  cnt := by have := h.cnt; simp at this ⊢; omega
  cl := h.cl
  cl2 := fun m hm => absurd hm (Nat.not_lt_zero _)
  back := by rw [h.back]; simp
theorem back_step {P : Prop} {f : Nat → Int} {j t i : Nat} {bk : Bool} (h : bk = true ↔ P ∨ ∃ m, m < j ∧ f m = i) (ht : f j = t) : (bk || decide ((t : Int) = i)) = true ↔ P ∨ ∃ m, m < j + 1 ∧ f m = i := by
  rw [Bool.or_eq_true, h, or_assoc, decide_eq_true_iff]
  refine or_congr Iff.rfl ⟨?_, ?_⟩
  · rintro (⟨m, h1, h2⟩ | e)
    · exact ⟨m, by omega, h2⟩
    · exact ⟨j, by omega, ht.trans e⟩
  · rintro ⟨m, h1, h2⟩
    by_cases e : m = j
    · subst e; exact .inr (ht.symm.trans h2)
    · exact .inl ⟨m, by omega, h2⟩
theorem ReM.step_old {s : List Nd} {i : Nat} {V A S : List Nat} {x j t : Nat} {bk : Bool} (h : ReM s i V x j A S bk) (ht : ((nd s x).kids.getD j kd0).node = t) (hm : t ∈ S) :
    ReM s i V x (j + 1) A S (bk || decide ((t : Int) = i)) where
  mem := h.mem
  rch := h.rch
  sin := h.sin
  snd := h.snd
  slt := h.slt
  cnt := h.cnt
  cl := h.cl
  cl2 := fun m hm' => by
    by_cases e : m = j
    · subst e; rw [ht]; exact hm
    · exact h.cl2 m (by omega)
  back := back_step (f := fun m => ((nd s x).kids.getD m kd0).node) h.back ht
theorem ReM.step_new {s : List Nd} {i : Nat} {V A S : List Nat} {x j t : Nat} {bk : Bool} (h : ReM s i V x j A S bk) (ht : ((nd s x).kids.getD j kd0).node = t) (hj : j < (nd s x).kids.length) (ho : (nd s x).opn) (htl : t < s.length) (hm : t ∉ S) :
    ReM s i V x (j + 1) (A ++ [t]) (S ++ [t]) (bk || decide ((t : Int) = i)) := by
  have hk : (nd s x).kids.getD j kd0 ∈ (nd s x).kids := by
    rw [List.getD_eq_getElem?_getD, List.getElem?_eq_getElem hj]; exact List.getElem_mem hj
  have hx : Rch s i x := h.rch x (by simp)
  have ht' : ((nd s x).kids.getD j kd0).node.toNat = t := by rw [ht]; rfl
  exact {
    mem := by have := h.mem; simp at this ⊢; rcases this with q | q | q <;> simp [q]
    rch := fun y hy => by
      rw [← List.cons_append, ← List.append_assoc] at hy
      rcases List.mem_append.1 hy with hy | hy
      · exact h.rch y hy
      · simp at hy; subst hy; rw [← ht']; exact .step hx ho hk
    sin := fun y hy => by
      rcases List.mem_append.1 hy with hy | hy
      · have := h.sin y hy; simp at this ⊢; rcases this with q | q | q <;> simp [q]
      · simp at hy; subst hy; simp
    snd := by rw [List.nodup_append]; exact ⟨h.snd, by simp, fun a ha b hb => by simp at hb; subst hb; intro e; subst e; exact hm ha⟩
    slt := fun y hy => by
      rcases List.mem_append.1 hy with hy | hy
      · exact h.slt y hy
      · simp at hy; subst hy; exact htl
    cnt := by have := h.cnt; simp; omega
    cl := fun y hy hyo k hk => List.mem_append_left _ (h.cl y hy hyo k hk)
    cl2 := fun m hm' => by
      by_cases e : m = j
      · subst e; rw [ht']; simp
      · exact List.mem_append_left _ (h.cl2 m (by omega))
    back := back_step (f := fun m => ((nd s x).kids.getD m kd0).node) h.back ht }
theorem ReM.finish {s : List Nd} {i : Nat} {V A S : List Nat} {x : Nat} {bk : Bool} (h : ReM s i V x (nd s x).kids.length A S bk) (ho : (nd s x).opn) : Re s i (V ++ [x]) A S bk := by
  have hget : ∀ k ∈ (nd s x).kids, ∃ m, m < (nd s x).kids.length ∧ (nd s x).kids.getD m kd0 = k := fun k hk => by
    obtain ⟨m, hm, e⟩ := List.getElem_of_mem hk
    exact ⟨m, hm, by rw [List.getD_eq_getElem?_getD, List.getElem?_eq_getElem hm]; exact e⟩
  exact {
    mem := mem_mid.1 h.mem
    rch := fun y hy => h.rch y (mem_mid.2 hy)
    sin := fun y hy => mem_mid.1 (h.sin y hy)
    snd := h.snd
    slt := h.slt
    cnt := by have := h.cnt; simp; omega
    cl := fun y hy hyo k hk => by
      rcases List.mem_append.1 hy with hy | hy
      · exact h.cl y hy hyo k hk
      · simp at hy; subst hy
        obtain ⟨m, hm, e⟩ := hget k hk
        rw [← e]; exact h.cl2 m hm
    back := by
      rw [h.back]
      constructor
      · rintro (⟨y, hy, hr⟩ | ⟨m, hm, e⟩)
        · exact ⟨y, by simp [hy], hr⟩
        · exact ⟨x, by simp, ho, _, by rw [List.getD_eq_getElem?_getD, List.getElem?_eq_getElem hm]; exact List.getElem_mem hm, e⟩
      · rintro ⟨y, hy, hyo, k, hk, e⟩
        rcases List.mem_append.1 hy with hy | hy
        · exact .inl ⟨y, hy, hyo, k, hk, e⟩
        · simp at hy; subst hy
          obtain ⟨m, hm, e'⟩ := hget k hk
          exact .inr ⟨m, hm, by rw [e']; exact e⟩ }
theorem Re.reached {s : List Nd} {i : Nat} {V S : List Nat} {bk : Bool} (h : Re s i V [] S bk) {j : Nat} (hj : Rch s i j) : j ∈ V := by
  exact Rch.ind (P := fun j => j ∈ V) (by simpa using h.mem) (fun _ _ _ ho hk ih => by simpa using h.sin _ (h.cl _ ih ho _ hk)) hj
theorem Re.leaves {s : List Nd} {i : Nat} {V S : List Nat} {bk : Bool} (h : Re s i V [] S bk) (j : Nat) : j ∈ outs s V ↔ Leaf s i j := by
  unfold outs Leaf
  rw [List.mem_filter]
  simp only [Bool.not_eq_true', ← Bool.not_eq_true, Nd.opnB_iff]
  exact and_congr ⟨fun hm => h.rch j (by simp [hm]), fun hr => h.reached hr⟩ Iff.rfl
theorem Re.backs {s : List Nd} {i : Nat} {V S : List Nat} {bk : Bool} (h : Re s i V [] S bk) : bk = true ↔ Back s i := by
  rw [h.back]
  unfold Back
  constructor
  · rintro ⟨x, hx, ho, k, hk, e⟩; exact ⟨x, h.rch x (by simp [hx]), ho, k, hk, e⟩
  · rintro ⟨x, hx, ho, k, hk, e⟩; exact ⟨x, h.reached hx, ho, k, hk, e⟩
end Go.Proofs.YtkkicodfpekbgaaGreatDoor

/-! schemas.reach: the nodes where one comes to, and whether one comes back. -/
namespace Go.Proofs.YtkkicodfpekbgaaGreatDoor
set_option linter.unusedSimpArgs false
set_option linter.unusedVariables false
open Go.RowKit

/-- Tags are -1 or more. -/
def Tags (s : List Nd) : Prop := ∀ j, j < s.length → -1 ≤ (nd s j).tag
theorem opn_iff {n : Nd} (h : -1 ≤ n.tag) : n.opn1 ↔ n.opn := by unfold Nd.opn1 Nd.opn; omega
/-- What the search holds in memory. -/
structure ReW (s : List Nd) (w wr : World) (V A S : List Nat) (va vend : Value) (gs : Nat) : Prop where
  inn : wr.ownsRow w.heap.size 3 1 va A.length (ivs A)
  out : wr.ownsRow w.heap.size 3 1 vend (outs s V).length (ivs (outs s V))
  ap : va.ownBlock = none ∨ vend.ownBlock = none ∨ vend.ownBlock ≠ va.ownBlock
  bel : Below w.heap.size w wr
  glo : w.heap.size ≤ gs
  see : ∃ C : Array Value, wr.heap[gs]? = some (.cells C 232 (0, 0)) ∧ ∀ j, j < 40 → C[j]? = some (.bool (decide (j ∈ S)))

/-- What it answers. -/
def RetE (s : List Nd) (i : Nat) (w : World) (e : Ending) (w' : World) : Prop :=
  ∃ (v : Value) (l : List Nat) (bk : Bool), e = .returned (.tuple #[v, .bool bk]) ∧ w'.ownsRow w.heap.size 3 1 v l.length (ivs l) ∧ Below w.heap.size w w' ∧ l.length ≤ s.length + 1 ∧ (∀ j, j ∈ l ↔ Leaf s i j) ∧ (bk = true ↔ Back s i)
theorem own_pop {w : World} {base g ca : Nat} {A : List Nat} {x : Nat} (h : w.ownsRow base 3 1 (.slice (some ⟨g, 0, none⟩) (A ++ [x]).length ca) (A ++ [x]).length (ivs (A ++ [x]))) : w.ownsRow base 3 1 (.slice (some ⟨g, 0, none⟩) A.length ca) A.length (ivs A) := by
  obtain ⟨h1, h2⟩ := h
  refine ⟨by simp [ivs], ?_⟩
  rcases h2 with ⟨h2, _⟩ | ⟨g', cap, cur, hv, h3, h4, h5, h6, h7, h8⟩
  · cases h2
  · refine .inr ⟨g', cap, cur, ?_, h3, h4, ?_, h6, h7, ?_⟩
    · injection hv with a b d
      rw [a, d]
    · simp at h5; omega
    · have e : cur.toList.take A.length = (cur.toList.take (A.length + 1)).take A.length := by rw [List.take_take]; congr 1; omega
      simp only [Nat.mul_one, List.length_append, List.length_singleton] at h8 ⊢
      rw [e, h8, ivs_append, List.take_append_of_le_length (by simp [ivs]), List.take_of_length_le (by simp [ivs])]
theorem ReW.below {s : List Nd} {w wr w' : World} {V A S : List Nat} {va vend : Value} {gs : Nat} (h : ReW s w wr V A S va vend gs) (hb : Below wr.heap.size wr w') : ReW s w w' V A S va vend gs where
  inn := own_below h.inn hb
  out := own_below h.out hb
  ap := h.ap
  bel := h.bel.trans (hb.mono h.bel.size)
  glo := h.glo
  see := by obtain ⟨C, h1, h2⟩ := h.see; exact ⟨C, block_below h1 hb, h2⟩
theorem keep_other {w w' : World} {k : Nat} {A : Array Value} {T : TypeId} {row : Option Nat} {o : Obj} (hg : w.heap[k]? = some (.cells A T (0, 0))) (hne : row ≠ some k) (h2 : (w.alloc o).grownBy w' row) : w'.heap[k]? = some (.cells A T (0, 0)) := by
  have hlt : k < w.heap.size := by
    rcases Nat.lt_or_ge k w.heap.size with h' | h'
    · exact h'
    · rw [Array.getElem?_eq_none h'] at hg; cases hg
  rw [h2.block k (by simp; omega) (fun e => hne e.symm), Below.heap_alloc w o _ hlt, hg]
theorem row_ne1 {w : World} {R base size n : Nat} {e T : TypeId} {v : Value} {xs : List Value} {A : Array Value} (hg : w.heap[R]? = some (.cells A T (0, 0))) (h : w.ownsRow base e size v n xs) (hT : T ≠ e) : v.ownBlock ≠ some R := by
  intro hv
  rcases h.2 with ⟨h', _⟩ | ⟨g, cap, cur, h', _, hg', _⟩
  · subst h'; cases hv
  · subst h'
    obtain rfl : g = R := by simpa [Value.ownBlock] using hv
    rw [hg] at hg'
    injection hg' with hg'
    injection hg' with _ e _
    exact hT e
/-- A leaf more. -/
theorem ReW.put {s : List Nd} {w wr w' : World} {x : Nat} {V A S : List Nat} {va vend : Value} {gs g cap : Nat} {o : Obj} (h : ReW s w wr V A S va vend gs) (ho : ¬ (nd s x).opn)
    (h1 : w'.ownsRow w.heap.size 3 1 (.slice (some ⟨g, 0, none⟩) ((outs s V).length + 1) cap) ((outs s V).length + 1) (ivs (outs s V) ++ [.int .i64 (x : Int)]))
    (h2 : (wr.alloc o).grownBy w' vend.ownBlock) (h3 : vend.ownBlock = some g ∨ g = wr.heap.size + 1) : ReW s w w' (V ++ [x]) A S va (.slice (some ⟨g, 0, none⟩) ((outs s V).length + 1) cap) gs := by
  have hb : Below w.heap.size w (wr.alloc o) := h.bel.alloc h.bel.size o
  exact {
    inn := by
      refine (h.inn.alloc o).kept h2 ?_
      rcases h.ap with q | q | q
      · exact .inl q
      · rw [q]
        by_cases e : va.ownBlock = none
        · exact .inl e
        · exact .inr e
      · exact .inr (fun e => q e.symm)
    out := by rw [outs_leaf ho, ivs_append, List.length_append]; exact h1
    ap := by
      by_cases e : va.ownBlock = none
      · exact .inl e
      · refine .inr (.inr (fun e' => ?_))
        have e'' : va.ownBlock = some g := by rw [← e']; rfl
        rcases h3 with h3 | h3
        · rcases h.ap with q | q | q
          · exact e q
          · rw [h3] at q; cases q
          · exact q (by rw [h3, e''])
        · have := (h.inn.lt g e'').2; omega
    bel := hb.grown h2 hb.size (fun k hk => (h.out.lt k hk).1)
    glo := h.glo
    see := by
      obtain ⟨C, q1, q2⟩ := h.see
      exact ⟨C, keep_other q1 (row_ne1 q1 h.out (by decide)) h2, q2⟩ }
/-- A place more to go to, marked. -/
theorem ReW.push {s : List Nd} {w wr w' : World} {t : Nat} {V A S : List Nat} {va vend : Value} {gs g cap : Nat} {o : Obj} (h : ReW s w wr V A S va vend gs)
    (h1 : w'.ownsRow w.heap.size 3 1 (.slice (some ⟨g, 0, none⟩) (A.length + 1) cap) (A.length + 1) (ivs A ++ [.int .i64 (t : Int)]))
    (h2 : (wr.alloc o).grownBy w' va.ownBlock) (h3 : va.ownBlock = some g ∨ g = wr.heap.size + 1) : ReW s w w' V (A ++ [t]) S (.slice (some ⟨g, 0, none⟩) (A.length + 1) cap) vend gs := by
  have hb : Below w.heap.size w (wr.alloc o) := h.bel.alloc h.bel.size o
  exact {
    inn := by rw [ivs_append, List.length_append]; exact h1
    out := by
      refine (h.out.alloc o).kept h2 ?_
      rcases h.ap with q | q | q
      · rw [q]
        by_cases e : vend.ownBlock = none
        · exact .inl e
        · exact .inr e
      · exact .inl q
      · exact .inr q
    ap := by
      by_cases e : vend.ownBlock = none
      · exact .inr (.inl e)
      · refine .inr (.inr (fun e' => ?_))
        have e'' : vend.ownBlock = some g := by rw [e']; rfl
        rcases h3 with h3 | h3
        · rcases h.ap with q | q | q
          · rw [h3] at q; cases q
          · exact e q
          · exact q (by rw [h3, e''])
        · have := (h.out.lt g e'').2; omega
    bel := hb.grown h2 hb.size (fun k hk => (h.inn.lt k hk).1)
    glo := h.glo
    see := by
      obtain ⟨C, q1, q2⟩ := h.see
      exact ⟨C, keep_other q1 (row_ne1 q1 h.inn (by decide)) h2, q2⟩ }
/-- A mark. -/
theorem ReW.mark {s : List Nd} {w wr : World} {t : Nat} {V A S : List Nat} {va vend : Value} {gs : Nat} (h : ReW s w wr V A S va vend gs) (ht : t < 40) : ReW s w (wr.setCell ⟨gs, t, none⟩ (.bool true)) V A (S ++ [t]) va vend gs := by
  obtain ⟨C, q1, q2⟩ := h.see
  exact {
    inn := ownsRow_setCell_other h.inn (row_ne1 q1 h.inn (by decide)) _
    out := ownsRow_setCell_other h.out (row_ne1 q1 h.out (by decide)) _
    ap := h.ap
    bel := h.bel.setCell h.glo _
    glo := h.glo
    see := ⟨C.setIfInBounds t (.bool true), heap_setCell_same wr gs t C _ _ q1, fun j hj => by
      have hsz : t < C.size := by
        have := q2 t ht
        rcases Nat.lt_or_ge t C.size with h' | h'
        · exact h'
        · rw [Array.getElem?_eq_none h'] at this; cases this
      rw [Array.getElem?_setIfInBounds]
      by_cases e : t = j
      · subst e; rw [if_pos rfl, if_pos hsz]; simp
      · rw [if_neg e, q2 j hj]; congr 2; simp; omega⟩ }

set_option maxHeartbeats 4000000 in
set_option maxRecDepth 100000 in
theorem reach_any (s : List Nd) (a : Option Addr) (c i : Nat) (w : World) (hs : Sch w a s) (hw : Within s) (htg : Tags s) (hi : i < s.length) (hn : s.length ≤ 40) :
    Calls Tryz.prog 96 #[.slice a s.length c, .int .i64 i] w fun e w' => RetE s i w e w' := by
  have HS : Hid (Sch w a s) := hs
  have HW : Hid (Within s) := hw
  have HTG : Hid (Tags s) := htg
  clear hs hw htg
  obtain ⟨i0, hi0, hz0, hz1, hz2⟩ := info_parts Tryz.infoInt
  go_enter Tryz.func96, Tryz.ntmps96
  go_wp2
  go_loopg [4, 5, 7] 41 (fun gk vend vbk va wr => ∃ V A S bk aa ca, va = .slice aa A.length ca ∧ (0 < A.length → ∃ g, aa = some ⟨g, 0, none⟩) ∧ vbk = .bool bk ∧ gk + V.length = 41 ∧ Re s i V A S bk ∧ ReW s w wr V A S va vend w.heap.size)
  case atStart =>
    refine ⟨[], [i], [], false, _, 1, rfl, fun _ => ⟨w.heap.size + 1, rfl⟩, rfl, rfl, Re.start s i, ?_⟩
    exact ⟨⟨rfl, .inr ⟨w.heap.size + 1, 1, _, rfl, by omega, by simpa using heap_alloc_new (w.alloc _) _, Nat.le_refl _, by decide, rfl, rfl⟩⟩, World.ownsRow_nil _ _ _ _, .inr (.inl rfl), ((Below.refl _ _).alloc (Nat.le_refl _) _).alloc (by simp) _, Nat.le_refl _, _, block_below (heap_alloc_new w _) ((Below.refl _ _).alloc (Nat.le_refl _) _), fun j hj => by
      match j, hj with
      | 0, _ | 1, _ | 2, _ | 3, _ | 4, _ | 5, _ | 6, _ | 7, _ | 8, _ | 9, _ | 10, _ | 11, _ | 12, _ | 13, _ | 14, _ | 15, _ | 16, _ | 17, _ | 18, _ | 19, _ | 20, _ | 21, _ | 22, _ | 23, _ | 24, _ | 25, _ | 26, _ | 27, _ | 28, _ | 29, _ | 30, _ | 31, _ | 32, _ | 33, _ | 34, _ | 35, _ | 36, _ | 37, _ | 38, _ | 39, _ => rfl
      | n + 40, h => exact absurd h (by omega)⟩
  case round =>
    obtain ⟨V, A, S, bk, aa, ca, rfl, haa, rfl, hgk, hL, hM⟩ := hrel
    have hlen := hL.len
    have HL : Hid (Re s i V A S bk) := hL
    have HM : Hid (ReW s w wr V A S (.slice aa A.length ca) u4 w.heap.size) := hM
    rcases List.eq_nil_or_concat A with rfl | ⟨A', x, hA⟩
    · clear hL hM
      go_wp2
      go_ret2
      exact ⟨u4, outs s V, bk, rfl, HM.out.out, HM.out.bel, Nat.le_trans (outs_le s V) (by simp at hlen; omega), HL.out.leaves, HL.out.backs⟩
    · have hA' : A = A' ++ [x] := by rw [hA]; simp
      subst hA'
      clear hA
      have hlm : (A' ++ [x]).length = A'.length + 1 := by simp
      obtain ⟨g, rfl⟩ := haa (by omega)
      have cx : wr.cell? ⟨g, A'.length, none⟩ = some (.int .i64 (x : Int)) := by
        have := own_cell (j := A'.length) hM.inn (by omega)
        rw [this]; congr 3; simp
      have HM' : Hid (ReW s w wr V A' S (.slice (some ⟨g, 0, none⟩) A'.length ca) u4 w.heap.size) := ⟨own_pop hM.inn, hM.out, hM.ap, hM.bel, hM.glo, hM.see⟩
      have hxs : x < s.length := (hL.rch x (by simp)).lt HW.out hi
      obtain ⟨b, o, ka, kc, rfl, nc, kl, km, ks⟩ := HS.out x hxs
      obtain ⟨n1, n2, n3, n4⟩ := nc.below hM.bel
      have KS : Hid (KidsIn w ka (nd s x).kids) := ks
      have hxs' : (x : Int) < s.length := by omega
      have hmc : A'.length + 1 ≤ ca ∧ ca ≤ maxLen := by
        rcases hM.inn.2 with ⟨q, _⟩ | ⟨g', cap, cur, hv, _, _, q1, q2, _⟩
        · cases q
        · injection hv with _ _ e; subst e; exact ⟨by omega, q2⟩
      have hm40 : A'.length ≤ 40 := by omega
      have hsz : w.heap.size < wr.heap.size := by
        obtain ⟨C, q1, _⟩ := hM.see
        rcases Nat.lt_or_ge w.heap.size wr.heap.size with h' | h'
        · exact h'
        · rw [Array.getElem?_eq_none h'] at q1; cases q1
      have HO : Hid (∀ wr, Calls Tryz.prog 139 #[.agg #[.int .i64 (nd s x).kind, .int .i64 (nd s x).tag, .int .i64 (nd s x).mode, .slice ka (nd s x).kids.length kc]] wr fun e w' => RetO (nd s x).opn wr e w') := fun wr => by
        have := isOpen_any (nd s x) ka kc wr
        refine this.mono fun e w' q => ?_
        obtain ⟨r, h1, h2, h3⟩ := q
        exact ⟨r, h1, h2.trans (opn_iff (HTG.out x hxs)), h3⟩
      have hV : V.length + A'.length ≤ s.length := by omega
      clear hL hM hlm ks nc haa
      go_wp2_with fail
      refine (HO.out _).mono ?_
      by_cases ho : (nd s x).opn
      · intro e w2 hq
        obtain ⟨rfl, hb2⟩ := hq.yes ho
        have HM2 : Hid (ReW s w w2 V A' S (.slice (some ⟨g, 0, none⟩) A'.length ca) u4 w.heap.size) := HM'.out.below hb2
        have HLM : Hid (ReM s i V x 0 A' S bk) := HL.out.mid
        have e4 : w2.cell? ⟨b, o + x * 4 + 3, none⟩ = some (.slice ka (nd s x).kids.length kc) := (hb2.cell (lt_of_cell n4)).trans n4
        have hkm : (nd s x).kids.length ≤ 9223372036854775807 := by unfold maxLen at km; omega
        clear hq hb2 cx n1 n2 n3 n4
        go_wp2
        go_loopw [5, 7, 43] (fun vbk va vj wx => ∃ A1 S1 bk1 aa1 ca1 j, va = .slice aa1 A1.length ca1 ∧ (0 < A1.length → ∃ g, aa1 = some ⟨g, 0, none⟩) ∧ vbk = .bool bk1 ∧ vj = .int .i64 (j : Nat) ∧ j ≤ (nd s x).kids.length ∧ ReM s i V x j A1 S1 bk1 ∧ ReW s w wx V A1 S1 (.slice aa1 A1.length ca1) u4 w.heap.size)
          (fun _ _ vj _ => (nd s x).kids.length - (intOf vj).toNat)
        case atStart => exact ⟨A', S, bk, _, ca, 0, rfl, fun _ => ⟨g, rfl⟩, rfl, rfl, Nat.zero_le _, HLM.out, HM2.out⟩
        case round =>
          clear HLM HM2 e4
          obtain ⟨A1, S1, bk1, aa1, ca1, j, rfl, haa1, rfl, rfl, hj, hLM, hM3⟩ := hrel
          have HAA : Hid (0 < A1.length → ∃ g, aa1 = some ⟨g, 0, none⟩) := haa1
          have HLM : Hid (ReM s i V x j A1 S1 bk1) := hLM
          have HM3 : Hid (ReW s w wr V A1 S1 (.slice aa1 A1.length ca1) u4 w.heap.size) := hM3
          have hlen1 := hLM.len
          have hszw : w.heap.size < wr.heap.size := by
            obtain ⟨C, q1, _⟩ := hM3.see
            rcases Nat.lt_or_ge w.heap.size wr.heap.size with h' | h'
            · exact h'
            · rw [Array.getElem?_eq_none h'] at q1; cases q1
          have cS : ∀ t, t < 40 → wr.cell? ⟨w.heap.size, t, none⟩ = some (.bool (decide (t ∈ S1))) := fun t ht => by
            obtain ⟨C, q1, q2⟩ := hM3.see
            simp only [World.cell?, q1]
            exact q2 t ht
          have fS : ∀ t, wr.frozen? ⟨w.heap.size, t, none⟩ = false := fun t => by
            obtain ⟨C, q1, q2⟩ := hM3.see
            simp [World.frozen?, q1]
          by_cases hjl : j < (nd s x).kids.length
          · obtain ⟨kb, ko, rfl, kcl⟩ := KS.out j hjl
            have hkr := HW.out x hxs ((nd s x).kids.getD j kd0) (by rw [List.getD_eq_getElem?_getD, List.getElem?_eq_getElem hjl]; exact List.getElem_mem hjl)
            obtain ⟨t, ht⟩ : ∃ t : Nat, ((nd s x).kids.getD j kd0).node = t := ⟨_, (Int.toNat_of_nonneg hkr.1).symm⟩
            obtain ⟨k1, k2, k3⟩ := kcl.below hM3.bel
            have HT : Hid (((nd s x).kids.getD j kd0).node = t) := ht
            rw [ht] at k1 hkr
            obtain ⟨bo, hbo⟩ : ∃ v, ((nd s x).kids.getD j kd0).opt = v := ⟨_, rfl⟩
            obtain ⟨bd, hbd⟩ : ∃ v, ((nd s x).kids.getD j kd0).dflt = v := ⟨_, rfl⟩
            rw [hbo] at k2
            rw [hbd] at k3
            have htl : t < s.length := by omega
            have ht40 : t < 40 := by omega
            have ht40' : (t : Int) < 40 := by omega
            have hjl' : (j : Int) < (nd s x).kids.length := by omega
            have ft := fS t
            have cs := cS t ht40
            obtain ⟨bk2, hbk2⟩ : ∃ b2, b2 = (bk1 || decide ((t : Int) = i)) := ⟨_, rfl⟩
            have HBK : Hid (bk2 = (bk1 || decide ((t : Int) = i))) := hbk2
            have hcs : (bk1 = true ∧ bk2 = true) ∨ (bk1 = false ∧ ((t : Int) == i) = bk2) := by
              cases bk1
              · right; exact ⟨rfl, by rw [hbk2, Bool.false_or, Bool.eq_iff_iff]; simp⟩
              · left; exact ⟨rfl, by rw [hbk2]; simp⟩
            clear hbk2 hLM hM3 kcl ht hkr hbo hbd fS cS haa1
            rcases hcs with ⟨rfl, rfl⟩ | ⟨rfl, hti⟩
            · by_cases hts : t ∈ S1
              · have HS1 : Hid (t ∈ S1) := hts
                rw [decide_eq_true hts] at cs
                clear hts
                have HLM' : Hid (ReM s i V x (j + 1) A1 S1 true) := HBK.out ▸ HLM.out.step_old HT.out HS1.out
                have HM4 : Hid (∀ o, ReW s w (wr.alloc o) V A1 S1 (.slice aa1 A1.length ca1) u4 w.heap.size) := fun o => HM3.out.below ((Below.refl _ _).alloc (Nat.le_refl _) o)
                go_wp2
                go_roundw
                case rel => exact ⟨A1, S1, true, aa1, ca1, j + 1, rfl, HAA.out, rfl, by go_num, by omega, HLM'.out, HM4.out _⟩
                case measure => simp [intOf]; omega
              · have HS1 : Hid (t ∉ S1) := hts
                rw [decide_eq_false hts] at cs
                clear hts
                have HLM' : Hid (ReM s i V x (j + 1) (A1 ++ [t]) (S1 ++ [t]) true) := HBK.out ▸ HLM.out.step_new HT.out hjl ho htl HS1.out
                have HM4 : Hid (∀ o, ReW s w ((wr.setCell ⟨w.heap.size, t, none⟩ (.bool true)).alloc o) V A1 (S1 ++ [t]) (.slice aa1 A1.length ca1) u4 w.heap.size) := fun o => (HM3.out.mark ht40).below ((Below.refl _ _).alloc (Nat.le_refl _) o)
                have hsz3 : w.heap.size ≤ wr.heap.size + 2 := by omega
                have NEWS : Hid (∀ (j : Nat) (u : Value), [Value.int .i64 (t : Int)][j]? = some u → (((wr.setCell ⟨w.heap.size, t, none⟩ (.bool true)).alloc (.cells #[.int .i64 (t : Int), .bool bo, .string bd] 55)).alloc (.cells #[.int .i64 (t : Int)] 3)).cell? ((⟨wr.heap.size + 1, 0, none⟩ : Addr).add j) = some u) := by
                  have q := cell_one_new ((wr.setCell ⟨w.heap.size, t, none⟩ (.bool true)).alloc (.cells #[.int .i64 (t : Int), .bool bo, .string bd] 55)) (.int .i64 (t : Int)) 3
                  rw [show ((wr.setCell ⟨w.heap.size, t, none⟩ (.bool true)).alloc (.cells #[.int .i64 (t : Int), .bool bo, .string bd] 55)).heap.size = wr.heap.size + 1 by simp] at q
                  exact q
                go_wp2_with (at_builtin; refine wpList_append_lies _ rfl (.tmp 62) (.tmp 65) 32 rfl w.heap.size 3 i0 (.int .i64 0) 1 8 Tryz.underlying32 hi0 hz0 hz1 hz2 rfl (by decide) (.slice aa1 A1.length ca1) A1.length (ivs A1) rfl ((HM4.out _).inn.alloc _) ⟨wr.heap.size + 1, 0, none⟩ 1 1 [.int .i64 (t : Int)] rfl rfl NEWS.out (by intro u hu; simp at hu; subst hu; rfl) (by decide) (by unfold maxLen; omega) (by omega) (by simpa using hsz3) (wr.heap.size + 2) (by simp) ?_)
                intro g' cap w3 h1 h2 h3 h4
                have HM5 : Hid (ReW s w w3 V (A1 ++ [t]) (S1 ++ [t]) (.slice (some ⟨g', 0, none⟩) (A1.length + 1) cap) u4 w.heap.size) := (HM4.out _).push h1 h2 (by simpa using h3)
                clear h1 h2 h3 h4
                go_wp2
                go_roundw
                case rel => exact ⟨A1 ++ [t], S1 ++ [t], true, _, cap, j + 1, by simp, fun _ => ⟨g', rfl⟩, rfl, by go_num, by omega, HLM'.out, by simpa using HM5.out⟩
                case measure => simp [intOf]; omega
            · by_cases hts : t ∈ S1
              · have HS1 : Hid (t ∈ S1) := hts
                rw [decide_eq_true hts] at cs
                clear hts
                have HLM' : Hid (ReM s i V x (j + 1) A1 S1 bk2) := HBK.out ▸ HLM.out.step_old HT.out HS1.out
                have HM4 : Hid (∀ o, ReW s w (wr.alloc o) V A1 S1 (.slice aa1 A1.length ca1) u4 w.heap.size) := fun o => HM3.out.below ((Below.refl _ _).alloc (Nat.le_refl _) o)
                go_wp2
                go_roundw
                case rel => exact ⟨A1, S1, bk2, aa1, ca1, j + 1, rfl, HAA.out, rfl, by go_num, by omega, HLM'.out, HM4.out _⟩
                case measure => simp [intOf]; omega
              · have HS1 : Hid (t ∉ S1) := hts
                rw [decide_eq_false hts] at cs
                clear hts
                have HLM' : Hid (ReM s i V x (j + 1) (A1 ++ [t]) (S1 ++ [t]) bk2) := HBK.out ▸ HLM.out.step_new HT.out hjl ho htl HS1.out
                have HM4 : Hid (∀ o, ReW s w ((wr.setCell ⟨w.heap.size, t, none⟩ (.bool true)).alloc o) V A1 (S1 ++ [t]) (.slice aa1 A1.length ca1) u4 w.heap.size) := fun o => (HM3.out.mark ht40).below ((Below.refl _ _).alloc (Nat.le_refl _) o)
                have hsz3 : w.heap.size ≤ wr.heap.size + 2 := by omega
                have NEWS : Hid (∀ (j : Nat) (u : Value), [Value.int .i64 (t : Int)][j]? = some u → (((wr.setCell ⟨w.heap.size, t, none⟩ (.bool true)).alloc (.cells #[.int .i64 (t : Int), .bool bo, .string bd] 55)).alloc (.cells #[.int .i64 (t : Int)] 3)).cell? ((⟨wr.heap.size + 1, 0, none⟩ : Addr).add j) = some u) := by
                  have q := cell_one_new ((wr.setCell ⟨w.heap.size, t, none⟩ (.bool true)).alloc (.cells #[.int .i64 (t : Int), .bool bo, .string bd] 55)) (.int .i64 (t : Int)) 3
                  rw [show ((wr.setCell ⟨w.heap.size, t, none⟩ (.bool true)).alloc (.cells #[.int .i64 (t : Int), .bool bo, .string bd] 55)).heap.size = wr.heap.size + 1 by simp] at q
                  exact q
                go_wp2_with (at_builtin; refine wpList_append_lies _ rfl (.tmp 62) (.tmp 65) 32 rfl w.heap.size 3 i0 (.int .i64 0) 1 8 Tryz.underlying32 hi0 hz0 hz1 hz2 rfl (by decide) (.slice aa1 A1.length ca1) A1.length (ivs A1) rfl ((HM4.out _).inn.alloc _) ⟨wr.heap.size + 1, 0, none⟩ 1 1 [.int .i64 (t : Int)] rfl rfl NEWS.out (by intro u hu; simp at hu; subst hu; rfl) (by decide) (by unfold maxLen; omega) (by omega) (by simpa using hsz3) (wr.heap.size + 2) (by simp) ?_)
                intro g' cap w3 h1 h2 h3 h4
                have HM5 : Hid (ReW s w w3 V (A1 ++ [t]) (S1 ++ [t]) (.slice (some ⟨g', 0, none⟩) (A1.length + 1) cap) u4 w.heap.size) := (HM4.out _).push h1 h2 (by simpa using h3)
                clear h1 h2 h3 h4
                go_wp2
                go_roundw
                case rel => exact ⟨A1 ++ [t], S1 ++ [t], bk2, _, cap, j + 1, by simp, fun _ => ⟨g', rfl⟩, rfl, by go_num, by omega, HLM'.out, by simpa using HM5.out⟩
                case measure => simp [intOf]; omega
          · have hjl' : ((nd s x).kids.length : Int) ≤ j := by omega
            obtain rfl : j = (nd s x).kids.length := by omega
            have HL' : Hid (Re s i (V ++ [x]) A1 S1 bk1) := hLM.finish ho
            have HM' : Hid (ReW s w wr (V ++ [x]) A1 S1 (.slice aa1 A1.length ca1) u4 w.heap.size) := ⟨hM3.inn, by rw [outs_open ho]; exact hM3.out, hM3.ap, hM3.bel, hM3.glo, hM3.see⟩
            clear hLM hM3 cS fS haa1
            go_wp2
            go_roundg (gk - 1)
            case rel => exact ⟨V ++ [x], A1, S1, bk1, aa1, ca1, rfl, HAA.out, rfl, by simp; omega, HL'.out, HM'.out⟩
            case measure => omega
      · intro e w2 hq
        obtain ⟨rfl, hb2⟩ := hq.no ho
        have HM2 : Hid (ReW s w w2 V A' S (.slice (some ⟨g, 0, none⟩) A'.length ca) u4 w.heap.size) := HM'.out.below hb2
        have hol : (outs s V).length ≤ 41 := by have := outs_le s V; omega
        have hsz2 : w.heap.size ≤ w2.heap.size + 1 := by have := HM2.out.bel.size; omega
        clear hq hb2 cx n1 n2 n3 n4
        go_wp2_with (at_builtin; refine wpList_append_lies _ rfl (.tmp 33) (.tmp 35) 32 rfl w.heap.size 3 i0 (.int .i64 0) 1 8 Tryz.underlying32 hi0 hz0 hz1 hz2 rfl (by decide) u4 (outs s V).length (ivs (outs s V)) rfl (HM2.out.out.alloc _) ⟨w2.heap.size, 0, none⟩ 1 1 [.int .i64 (x : Int)] rfl rfl (cell_one_new _ _ _) (by intro u hu; simp at hu; subst hu; rfl) (by decide) (by unfold maxLen; omega) (by omega) (by simpa using hsz2) (w2.heap.size + 1) (by simp) ?_)
        intro g' cap w3 h1 h2 h3 h4
        have HM3 : Hid (ReW s w w3 (V ++ [x]) A' S (.slice (some ⟨g, 0, none⟩) A'.length ca) (.slice (some ⟨g', 0, none⟩) ((outs s V).length + 1) cap) w.heap.size) := HM2.out.put ho h1 h2 h3
        clear h1 h2 h3 h4
        go_wp2
        go_roundg (gk - 1)
        case rel => exact ⟨V ++ [x], A', S, bk, _, ca, rfl, fun _ => ⟨g, rfl⟩, rfl, by simp; omega, HL.out.leaf ho, HM3.out⟩
        case measure => omega
end Go.Proofs.YtkkicodfpekbgaaGreatDoor

/-! hallmarkref.Own: the number of a kind's own tag. -/
namespace Go.Proofs.YtkkicodfpekbgaaGreatDoor
set_option linter.unusedSimpArgs false
set_option linter.unusedVariables false
open Go.RowKit

set_option maxHeartbeats 1000000 in
set_option maxRecDepth 100000 in
theorem own_any (k : Int) (h : 0 ≤ k) (h' : k ≤ 12) (w : World) :
    Calls Tryz.prog 142 #[.int .i64 k] w fun e w' => e = .returned (.int .i64 (own k)) ∧ Below w.heap.size w w' := by
  obtain ⟨n, rfl⟩ : ∃ n : Nat, k = n := ⟨k.toNat, by omega⟩
  have hn : n ≤ 12 := by omega
  clear h h'
  match n, hn with
  | 0, _ | 1, _ | 2, _ | 3, _ | 4, _ | 5, _ | 6, _ | 7, _ | 8, _ | 9, _ | 10, _ | 11, _ | 12, _ =>
    go_enter Tryz.func142, Tryz.ntmps142
    go_wp2
    go_ret
    exact ⟨rfl, (Below.refl _ _).alloc (Nat.le_refl _) _⟩
end Go.Proofs.YtkkicodfpekbgaaGreatDoor

/-! hallmarkref.Begins: what it answers. -/
namespace Go.Proofs.YtkkicodfpekbgaaGreatDoor
set_option linter.unusedSimpArgs false
set_option linter.unusedVariables false
open Go.RowKit

theorem own_form {w : World} {base e size : Nat} {v : Value} {n : Nat} {xs : List Value} (h : w.ownsRow base e size v n xs) : ∃ a cap, v = .slice a n cap ∧ (0 < n → ∃ g, a = some ⟨g, 0, none⟩) := by
  rcases h.2 with ⟨hv, hn⟩ | ⟨g, cap, cur, hv, _⟩
  · subst hn; exact ⟨none, 0, hv, fun h => absurd h (Nat.lt_irrefl _)⟩
  · exact ⟨_, cap, hv, fun _ => ⟨g, rfl⟩⟩
/-- The kinds are those that there are. -/
def Kinds (s : List Nd) : Prop := ∀ j, j < s.length → 1 ≤ (nd s j).kind ∧ (nd s j).kind ≤ 14

set_option maxHeartbeats 4000000 in
set_option maxRecDepth 100000 in
theorem begins_any (s : List Nd) (a : Option Addr) (cp i : Nat) (c m : Int) (w : World) (hs : Sch w a s) (hw : Within s) (hkd : Kinds s) (hi : i < s.length) (hn : s.length ≤ 40) :
    Calls Tryz.prog 100 #[.slice a s.length cp, .int .i64 i, .int .i64 c, .int .i64 m] w fun e w' => RetO (Beg s i c m) w e w' := by
  have HS : Hid (Sch w a s) := hs
  have HW : Hid (Within s) := hw
  have HK : Hid (Kinds s) := hkd
  have HC : Hid (Calls Tryz.prog 37 #[.slice a s.length cp, .int .i64 i] w fun e w' => RetL s i w e w') := leaves_any s a cp i w hs hw hi hn
  clear hs hw hkd
  go_enter Tryz.func100, Tryz.ntmps100
  go_wp2_with fail
  refine HC.out.mono ?_
  rintro e w1 ⟨v, l, bk, rfl, hown, hb, hl, hlf, _⟩
  obtain ⟨va, vc, rfl, hva⟩ := own_form hown
  have HO : Hid (w1.ownsRow w.heap.size 3 1 (.slice va l.length vc) l.length (ivs l)) := hown
  have HB : Hid (Below w.heap.size w w1) := hb
  have HF : Hid (∀ j, j ∈ l ↔ Leaf s i j) := hlf
  have HA : Hid (0 < l.length → ∃ g, va = some ⟨g, 0, none⟩) := hva
  clear hown hb hlf hva HC
  go_wp2
  go_loopw [11] (fun vk wr => ∃ k : Nat, k ≤ l.length ∧ vk = .int .i64 k ∧ (∀ p, p < k → ¬ begAt (nd s (l.getD p 0)) c m) ∧ Below w1.heap.size w1 wr) (fun vk _ => l.length - (intOf vk).toNat)
  case atStart => exact ⟨0, Nat.zero_le _, rfl, fun p hp => absurd hp (Nat.not_lt_zero _), Below.refl _ _⟩
  case round =>
    obtain ⟨k, hk, rfl, hno, hbr⟩ := hrel
    have HN : Hid (∀ p, p < k → ¬ begAt (nd s (l.getD p 0)) c m) := hno
    have HBR : Hid (Below w1.heap.size w1 wr) := hbr
    by_cases hlt : k < l.length
    · obtain ⟨g, rfl⟩ := HA.out (by omega)
      have ck := own_cell (own_below HO.out hbr) hlt
      have HX : Hid (l.getD k 0 ∈ l) := by show _ ∈ l; rw [List.getD_eq_getElem?_getD, List.getElem?_eq_getElem hlt]; exact List.getElem_mem hlt
      generalize hx : l.getD k 0 = x at ck HX
      have HXE : Hid (l.getD k 0 = x) := hx
      have hxs : x < s.length := ((HF.out x).1 HX.out).1.lt HW.out hi
      have hkx := HK.out x hxs
      have HLX : Hid (Leaf s i x) := (HF.out x).1 HX.out
      obtain ⟨b, o, ka, kc, rfl, nc, kl, km, ks⟩ := HS.out x hxs
      have HBW : Hid (Below w.heap.size w wr) := HB.out.trans (hbr.mono HB.out.size)
      obtain ⟨n1, n2, n3, n4⟩ := nc.below HBW.out
      have hlt' : (k : Int) < l.length := by omega
      have hxs' : (x : Int) < s.length := by omega
      have NX : Hid (∀ (h : ¬ begAt (nd s x) c m), ∀ p, p < k + 1 → ¬ begAt (nd s (l.getD p 0)) c m) := fun h p hp => by
        by_cases e : p = k
        · subst e; rw [HXE.out]; exact h
        · exact HN.out p (by omega)
      have YES : Hid (begAt (nd s x) c m → Beg s i c m) := fun h => ⟨x, HLX.out, h⟩
      clear hno hbr hx nc ks
      by_cases ht : 0 ≤ (nd s x).tag
      · by_cases hc : c = 2
        · subst hc
          by_cases hm : m = (nd s x).tag
          · have HH : Hid (begAt (nd s x) 2 m) := .inl ⟨ht, rfl, hm⟩
            subst hm
            go_wp2
            go_ret
            exact reto_yes (YES.out HH.out) (HBW.out.alloc HBW.out.size _)
          · have HH : Hid (¬ begAt (nd s x) 2 m) := fun h => by rcases h with h | h | h <;> omega
            have hm' : (m == (nd s x).tag) = false := by rw [beq_eq_false_iff_ne]; exact hm
            clear hm
            go_wp2
            go_roundw
            case rel => exact ⟨k + 1, by omega, by go_num, NX.out HH.out, HBR.out.alloc HBR.out.size _⟩
            case measure => simp [intOf]; omega
        · have HH : Hid (¬ begAt (nd s x) c m) := fun h => by rcases h with h | h | h <;> omega
          have hc' : (c == 2) = false := by rw [beq_eq_false_iff_ne]; exact hc
          clear hc
          go_wp2
          go_roundw
          case rel => exact ⟨k + 1, by omega, by go_num, NX.out HH.out, HBR.out.alloc HBR.out.size _⟩
          case measure => simp [intOf]; omega
      · have ht' : (nd s x).tag < 0 := by omega
        clear ht
        by_cases ha : (nd s x).kind = 14
        · have HH : Hid (begAt (nd s x) c m) := .inr (.inl ⟨ht', ha⟩)
          have ha' : ((nd s x).kind == 14) = true := by rw [beq_iff_eq]; exact ha
          clear ha hkx
          go_wp2
          go_ret
          exact reto_yes (YES.out HH.out) (HBW.out.alloc HBW.out.size _)
        · have ha' : ((nd s x).kind == 14) = false := by rw [beq_eq_false_iff_ne]; exact ha
          by_cases hc : c = 0
          · subst hc
            have HO1 : Hid (∀ w, Calls Tryz.prog 142 #[.int .i64 (nd s x).kind] w fun e w' => e = .returned (.int .i64 (own (nd s x).kind)) ∧ Below w.heap.size w w') := fun w => own_any _ (by omega) (by have h3 := HLX.out.2; have : (nd s x).kind ≠ 13 := fun e => h3 ⟨e, ht'⟩; omega) w
            by_cases hm : m = own (nd s x).kind
            · have HH : Hid (begAt (nd s x) 0 m) := .inr (.inr ⟨ht', ha, rfl, hm⟩)
              have hm' : (m == own (nd s x).kind) = true := by rw [beq_iff_eq]; exact hm
              clear hm ha
              go_wp2_with fail
              refine (HO1.out _).mono ?_
              rintro e w2 ⟨rfl, hb2⟩
              have HB2 : Hid (Below w.heap.size w w2) := HBW.out.trans ((below_alloc hb2).mono HBW.out.size)
              clear hb2
              go_wp2
              go_ret
              exact reto_yes (YES.out HH.out) HB2.out
            · have HH : Hid (¬ begAt (nd s x) 0 m) := fun h => by rcases h with h | h | h <;> omega
              have hm' : (m == own (nd s x).kind) = false := by rw [beq_eq_false_iff_ne]; exact hm
              clear hm ha
              go_wp2_with fail
              refine (HO1.out _).mono ?_
              rintro e w2 ⟨rfl, hb2⟩
              have HB2 : Hid (Below w1.heap.size w1 w2) := HBR.out.trans ((below_alloc hb2).mono HBR.out.size)
              clear hb2
              go_wp2
              go_roundw
              case rel => exact ⟨k + 1, by omega, by go_num, NX.out HH.out, HB2.out⟩
              case measure => simp [intOf]; omega
          · have HH : Hid (¬ begAt (nd s x) c m) := fun h => by rcases h with h | h | h <;> omega
            have hc' : (c == 0) = false := by rw [beq_eq_false_iff_ne]; exact hc
            clear hc ha
            go_wp2
            go_roundw
            case rel => exact ⟨k + 1, by omega, by go_num, NX.out HH.out, HBR.out.alloc HBR.out.size _⟩
            case measure => simp [intOf]; omega
    · have hlt' : (l.length : Int) ≤ k := by omega
      clear hno hbr
      go_wp2
      go_ret
      exact reto_no (fun ⟨j, hj, hbg⟩ => by
        obtain ⟨p, hp, e⟩ := List.getElem_of_mem ((HF.out j).2 hj)
        refine HN.out p (by omega) ?_
        rw [List.getD_eq_getElem?_getD, List.getElem?_eq_getElem hp]; simpa [e] using hbg) (HB.out.trans (HBR.out.mono HB.out.size))
end Go.Proofs.YtkkicodfpekbgaaGreatDoor
