/-
  The package's errors: which there are, and that each variable holds one of its own.
-/
import Derived.Test.YtjceeljaljdmoaaDoorErr
namespace Go.Proofs.YtjceeljaljdmoaaDoor
open Go.RowKit

/-- The errors that hallmark.number asks for, in its order. -/
inductive Sn where
  | Long
  | End
  | Tag
  | Length
  | Value
  | More
  | Order
  | Default
  | Deep
  | Tree
  deriving DecidableEq
/-- The variable of each. -/
def Sn.var : Sn → Nat
  | .Long => 2
  | .End => 0
  | .Tag => 1
  | .Length => 3
  | .Value => 4
  | .More => 5
  | .Order => 6
  | .Default => 7
  | .Deep => 8
  | .Tree => 9
/-- The number by which each is answered. -/
def Sn.code : Sn → Int
  | .Long => 2
  | .End => 3
  | .Tag => 4
  | .Length => 5
  | .Value => 6
  | .More => 7
  | .Order => 8
  | .Default => 9
  | .Deep => 10
  | .Tree => 11

/-- The errors lie where the variables point, each at a place of its own. -/
structure Sent (w : World) (sn : Sn → Addr) : Prop where
  c : ∀ s : Sn, w.cell? ⟨s.var, 0, none⟩ = some (.iface 72 (.pointer (some (sn s))))
  r : ∀ s : Sn, ∃ c t, w.heap[(sn s).block]? = some (.cells c t (0, 0))
  inj : ∀ s t : Sn, sn s = sn t → s = t
theorem cell_lt {w : World} {a : Addr} {v : Value} (h : w.cell? a = some v) : a.block < w.heap.size := by
  rcases Nat.lt_or_ge a.block w.heap.size with h' | h'
  · exact h'
  · simp [World.cell?, Array.getElem?_eq_none h'] at h
theorem row_lt {w : World} {k : Nat} {o : Obj} (h : w.heap[k]? = some o) : k < w.heap.size := by
  rcases Nat.lt_or_ge k w.heap.size with h' | h'
  · exact h'
  · rw [Array.getElem?_eq_none h'] at h; cases h
theorem row_below {w w' : World} {k : Nat} (h : ∃ c t, w.heap[k]? = some (.cells c t (0, 0))) (hb : Below w.heap.size w w') : ∃ c t, w'.heap[k]? = some (.cells c t (0, 0)) := by
  obtain ⟨c, t, e⟩ := h; exact ⟨c, t, (hb.block _ (row_lt e)).trans e⟩
theorem Sent.below {w w' : World} {sn : Sn → Addr} (h : Sent w sn) (hb : Below w.heap.size w w') : Sent w' sn where
  c := fun s => (hb.cell (cell_lt (h.c s))).trans (h.c s)
  r := fun s => row_below (h.r s) hb
  inj := h.inj
theorem bcell {W w1 : World} (hb : Below W.heap.size W w1) : (∀ b o, b < W.heap.size → w1.cell? ⟨b, o, none⟩ = W.cell? ⟨b, o, none⟩) ∧ (∀ b o, b < W.heap.size → w1.frozen? ⟨b, o, none⟩ = W.frozen? ⟨b, o, none⟩) :=
  ⟨fun b o h => hb.cell (p := ⟨b, o, none⟩) h, fun b o h => hb.frozen (p := ⟨b, o, none⟩) h⟩

theorem Sent.cLong {w : World} {sn : Sn → Addr} (h : Sent w sn) : w.cell? ⟨2, 0, none⟩ = some (.iface 72 (.pointer (some (sn .Long)))) := h.c .Long
theorem Sent.cEnd {w : World} {sn : Sn → Addr} (h : Sent w sn) : w.cell? ⟨0, 0, none⟩ = some (.iface 72 (.pointer (some (sn .End)))) := h.c .End
theorem Sent.cTag {w : World} {sn : Sn → Addr} (h : Sent w sn) : w.cell? ⟨1, 0, none⟩ = some (.iface 72 (.pointer (some (sn .Tag)))) := h.c .Tag
theorem Sent.cLength {w : World} {sn : Sn → Addr} (h : Sent w sn) : w.cell? ⟨3, 0, none⟩ = some (.iface 72 (.pointer (some (sn .Length)))) := h.c .Length
theorem Sent.cValue {w : World} {sn : Sn → Addr} (h : Sent w sn) : w.cell? ⟨4, 0, none⟩ = some (.iface 72 (.pointer (some (sn .Value)))) := h.c .Value
theorem Sent.cMore {w : World} {sn : Sn → Addr} (h : Sent w sn) : w.cell? ⟨5, 0, none⟩ = some (.iface 72 (.pointer (some (sn .More)))) := h.c .More
theorem Sent.cOrder {w : World} {sn : Sn → Addr} (h : Sent w sn) : w.cell? ⟨6, 0, none⟩ = some (.iface 72 (.pointer (some (sn .Order)))) := h.c .Order
theorem Sent.cDefault {w : World} {sn : Sn → Addr} (h : Sent w sn) : w.cell? ⟨7, 0, none⟩ = some (.iface 72 (.pointer (some (sn .Default)))) := h.c .Default
theorem Sent.cDeep {w : World} {sn : Sn → Addr} (h : Sent w sn) : w.cell? ⟨8, 0, none⟩ = some (.iface 72 (.pointer (some (sn .Deep)))) := h.c .Deep
theorem Sent.cTree {w : World} {sn : Sn → Addr} (h : Sent w sn) : w.cell? ⟨9, 0, none⟩ = some (.iface 72 (.pointer (some (sn .Tree)))) := h.c .Tree
theorem Sent.cE {w : World} {sn : Sn → Addr} (h : Sent w sn) : w.cell? ⟨0, 0, none⟩ = some (.iface 72 (.pointer (some (sn .End)))) := h.c .End
theorem Sent.cT {w : World} {sn : Sn → Addr} (h : Sent w sn) : w.cell? ⟨1, 0, none⟩ = some (.iface 72 (.pointer (some (sn .Tag)))) := h.c .Tag
theorem Sent.cL {w : World} {sn : Sn → Addr} (h : Sent w sn) : w.cell? ⟨3, 0, none⟩ = some (.iface 72 (.pointer (some (sn .Length)))) := h.c .Length
/-- The number of the error that lies at an address. -/
def nm (sn : Sn → Addr) (x : Addr) : Int :=
  if x = sn .Long then 2 else if x = sn .End then 3 else if x = sn .Tag then 4 else if x = sn .Length then 5 else if x = sn .Value then 6 else if x = sn .More then 7 else if x = sn .Order then 8 else if x = sn .Default then 9 else if x = sn .Deep then 10 else if x = sn .Tree then 11 else 1
theorem Sent.nm {w : World} {sn : Sn → Addr} (h : Sent w sn) (s : Sn) : nm sn (sn s) = s.code := by
  have e : ∀ t, (sn s = sn t) ↔ s = t := fun t => ⟨h.inj s t, congrArg sn⟩
  unfold Go.Proofs.YtjceeljaljdmoaaDoor.nm
  simp only [e]
  cases s <;> simp [Sn.code]
theorem nm_none {sn : Sn → Addr} {x : Addr} (h : ∀ s, x ≠ sn s) : nm sn x = 1 := by
  unfold nm
  simp [h]
end Go.Proofs.YtjceeljaljdmoaaDoor
