/-
  The package's errors: which there are, and that each variable holds one of its own.
-/
import Derived.Test.YtkkicodfpekbgaaDoorErr
namespace Go.Proofs.YtkkicodfpekbgaaDoor
open Go.RowKit

/-- The errors that hallmark.number asks for, in its order. -/
abbrev Sn := Fin 12
def Sn.Long : Sn := ⟨0, by decide⟩
def Sn.End : Sn := ⟨1, by decide⟩
def Sn.Tag : Sn := ⟨2, by decide⟩
def Sn.Length : Sn := ⟨3, by decide⟩
def Sn.Value : Sn := ⟨4, by decide⟩
def Sn.More : Sn := ⟨5, by decide⟩
def Sn.Order : Sn := ⟨6, by decide⟩
def Sn.Default : Sn := ⟨7, by decide⟩
def Sn.Deep : Sn := ⟨8, by decide⟩
def Sn.Tree : Sn := ⟨9, by decide⟩
def Sn.Card : Sn := ⟨10, by decide⟩
def Sn.Mark : Sn := ⟨11, by decide⟩
theorem Sn.all {P : Sn → Prop} (h0 : P .Long) (h1 : P .End) (h2 : P .Tag) (h3 : P .Length) (h4 : P .Value) (h5 : P .More) (h6 : P .Order) (h7 : P .Default) (h8 : P .Deep) (h9 : P .Tree) (h10 : P .Card) (h11 : P .Mark) : ∀ s, P s
  | ⟨0, _⟩ => h0
  | ⟨1, _⟩ => h1
  | ⟨2, _⟩ => h2
  | ⟨3, _⟩ => h3
  | ⟨4, _⟩ => h4
  | ⟨5, _⟩ => h5
  | ⟨6, _⟩ => h6
  | ⟨7, _⟩ => h7
  | ⟨8, _⟩ => h8
  | ⟨9, _⟩ => h9
  | ⟨10, _⟩ => h10
  | ⟨11, _⟩ => h11
  | ⟨n + 12, h⟩ => absurd h (by omega)
/-- The variable of each. -/
def Sn.var (s : Sn) : Nat := [2, 0, 1, 3, 4, 5, 6, 7, 8, 9, 10, 11].getD s.val 0
/-- The number by which each is answered. -/
def Sn.code (s : Sn) : Int := [2, 3, 4, 5, 6, 7, 8, 9, 10, 11, 12, 13].getD s.val 0

/-- The errors lie where the variables point, each at a place of its own. -/
structure Sent (w : World) (sn : Sn → Addr) : Prop where
  c : ∀ s : Sn, w.cell? ⟨s.var, 0, none⟩ = some (.iface 72 (.pointer (some (sn s))))
  r : ∀ s : Sn, ∃ c t, w.heap[(sn s).block]? = some (.cells c t (0, 0))
  inj : ∀ s t : Sn, sn s = sn t → s = t
theorem cell_lt {w : World} {a : Addr} {v : Value} (h : w.cell? a = some v) : a.block < w.heap.size := by
  rcases Nat.lt_or_ge a.block w.heap.size with h' | h'
  · exact h'
  · simp [World.cell?, Array.getElem?_eq_none h'] at h
theorem row_lt {w : World} {k : Nat} {o : Obj} (h : w.heap[k]? = some o) : k < w.heap.size := by
  rcases Nat.lt_or_ge k w.heap.size with h' | h'
  · exact h'
  · rw [Array.getElem?_eq_none h'] at h; cases h
theorem row_below {w w' : World} {k : Nat} (h : ∃ c t, w.heap[k]? = some (.cells c t (0, 0))) (hb : Below w.heap.size w w') : ∃ c t, w'.heap[k]? = some (.cells c t (0, 0)) := by
  obtain ⟨c, t, e⟩ := h; exact ⟨c, t, (hb.block _ (row_lt e)).trans e⟩
theorem Sent.below {w w' : World} {sn : Sn → Addr} (h : Sent w sn) (hb : Below w.heap.size w w') : Sent w' sn where
  c := fun s => (hb.cell (cell_lt (h.c s))).trans (h.c s)
  r := fun s => row_below (h.r s) hb
  inj := h.inj
theorem bcell {W w1 : World} (hb : Below W.heap.size W w1) : (∀ b o, b < W.heap.size → w1.cell? ⟨b, o, none⟩ = W.cell? ⟨b, o, none⟩) ∧ (∀ b o, b < W.heap.size → w1.frozen? ⟨b, o, none⟩ = W.frozen? ⟨b, o, none⟩) :=
  ⟨fun b o h => hb.cell (p := ⟨b, o, none⟩) h, fun b o h => hb.frozen (p := ⟨b, o, none⟩) h⟩

theorem Sent.cLong {w : World} {sn : Sn → Addr} (h : Sent w sn) : w.cell? ⟨2, 0, none⟩ = some (.iface 72 (.pointer (some (sn .Long)))) := h.c .Long
theorem Sent.cEnd {w : World} {sn : Sn → Addr} (h : Sent w sn) : w.cell? ⟨0, 0, none⟩ = some (.iface 72 (.pointer (some (sn .End)))) := h.c .End
theorem Sent.cTag {w : World} {sn : Sn → Addr} (h : Sent w sn) : w.cell? ⟨1, 0, none⟩ = some (.iface 72 (.pointer (some (sn .Tag)))) := h.c .Tag
theorem Sent.cLength {w : World} {sn : Sn → Addr} (h : Sent w sn) : w.cell? ⟨3, 0, none⟩ = some (.iface 72 (.pointer (some (sn .Length)))) := h.c .Length
theorem Sent.cValue {w : World} {sn : Sn → Addr} (h : Sent w sn) : w.cell? ⟨4, 0, none⟩ = some (.iface 72 (.pointer (some (sn .Value)))) := h.c .Value
theorem Sent.cMore {w : World} {sn : Sn → Addr} (h : Sent w sn) : w.cell? ⟨5, 0, none⟩ = some (.iface 72 (.pointer (some (sn .More)))) := h.c .More
theorem Sent.cOrder {w : World} {sn : Sn → Addr} (h : Sent w sn) : w.cell? ⟨6, 0, none⟩ = some (.iface 72 (.pointer (some (sn .Order)))) := h.c .Order
theorem Sent.cDefault {w : World} {sn : Sn → Addr} (h : Sent w sn) : w.cell? ⟨7, 0, none⟩ = some (.iface 72 (.pointer (some (sn .Default)))) := h.c .Default
theorem Sent.cDeep {w : World} {sn : Sn → Addr} (h : Sent w sn) : w.cell? ⟨8, 0, none⟩ = some (.iface 72 (.pointer (some (sn .Deep)))) := h.c .Deep
theorem Sent.cTree {w : World} {sn : Sn → Addr} (h : Sent w sn) : w.cell? ⟨9, 0, none⟩ = some (.iface 72 (.pointer (some (sn .Tree)))) := h.c .Tree
theorem Sent.cCard {w : World} {sn : Sn → Addr} (h : Sent w sn) : w.cell? ⟨10, 0, none⟩ = some (.iface 72 (.pointer (some (sn .Card)))) := h.c .Card
theorem Sent.cMark {w : World} {sn : Sn → Addr} (h : Sent w sn) : w.cell? ⟨11, 0, none⟩ = some (.iface 72 (.pointer (some (sn .Mark)))) := h.c .Mark
theorem Sent.cE {w : World} {sn : Sn → Addr} (h : Sent w sn) : w.cell? ⟨0, 0, none⟩ = some (.iface 72 (.pointer (some (sn .End)))) := h.c .End
theorem Sent.cT {w : World} {sn : Sn → Addr} (h : Sent w sn) : w.cell? ⟨1, 0, none⟩ = some (.iface 72 (.pointer (some (sn .Tag)))) := h.c .Tag
theorem Sent.cL {w : World} {sn : Sn → Addr} (h : Sent w sn) : w.cell? ⟨3, 0, none⟩ = some (.iface 72 (.pointer (some (sn .Length)))) := h.c .Length
/-- The number of the error that lies at an address. -/
def nm (sn : Sn → Addr) (x : Addr) : Int :=
  if x = sn .Long then 2 else if x = sn .End then 3 else if x = sn .Tag then 4 else if x = sn .Length then 5 else if x = sn .Value then 6 else if x = sn .More then 7 else if x = sn .Order then 8 else if x = sn .Default then 9 else if x = sn .Deep then 10 else if x = sn .Tree then 11 else if x = sn .Card then 12 else if x = sn .Mark then 13 else 1
theorem Sent.nm {w : World} {sn : Sn → Addr} (h : Sent w sn) (s : Sn) : nm sn (sn s) = s.code := by
  have e : ∀ s t : Sn, s ≠ t → ¬ sn s = sn t := fun s t q p => q (h.inj s t p)
  revert s
  unfold Go.Proofs.YtkkicodfpekbgaaDoor.nm
  refine Sn.all ?_ ?_ ?_ ?_ ?_ ?_ ?_ ?_ ?_ ?_ ?_ ?_
  · rw [if_pos rfl]; rfl
  · rw [if_neg (e .End .Long (by decide)), if_pos rfl]; rfl
  · rw [if_neg (e .Tag .Long (by decide)), if_neg (e .Tag .End (by decide)), if_pos rfl]; rfl
  · rw [if_neg (e .Length .Long (by decide)), if_neg (e .Length .End (by decide)), if_neg (e .Length .Tag (by decide)), if_pos rfl]; rfl
  · rw [if_neg (e .Value .Long (by decide)), if_neg (e .Value .End (by decide)), if_neg (e .Value .Tag (by decide)), if_neg (e .Value .Length (by decide)), if_pos rfl]; rfl
  · rw [if_neg (e .More .Long (by decide)), if_neg (e .More .End (by decide)), if_neg (e .More .Tag (by decide)), if_neg (e .More .Length (by decide)), if_neg (e .More .Value (by decide)), if_pos rfl]; rfl
  · rw [if_neg (e .Order .Long (by decide)), if_neg (e .Order .End (by decide)), if_neg (e .Order .Tag (by decide)), if_neg (e .Order .Length (by decide)), if_neg (e .Order .Value (by decide)), if_neg (e .Order .More (by decide)), if_pos rfl]; rfl
  · rw [if_neg (e .Default .Long (by decide)), if_neg (e .Default .End (by decide)), if_neg (e .Default .Tag (by decide)), if_neg (e .Default .Length (by decide)), if_neg (e .Default .Value (by decide)), if_neg (e .Default .More (by decide)), if_neg (e .Default .Order (by decide)), if_pos rfl]; rfl
  · rw [if_neg (e .Deep .Long (by decide)), if_neg (e .Deep .End (by decide)), if_neg (e .Deep .Tag (by decide)), if_neg (e .Deep .Length (by decide)), if_neg (e .Deep .Value (by decide)), if_neg (e .Deep .More (by decide)), if_neg (e .Deep .Order (by decide)), if_neg (e .Deep .Default (by decide)), if_pos rfl]; rfl
  · rw [if_neg (e .Tree .Long (by decide)), if_neg (e .Tree .End (by decide)), if_neg (e .Tree .Tag (by decide)), if_neg (e .Tree .Length (by decide)), if_neg (e .Tree .Value (by decide)), if_neg (e .Tree .More (by decide)), if_neg (e .Tree .Order (by decide)), if_neg (e .Tree .Default (by decide)), if_neg (e .Tree .Deep (by decide)), if_pos rfl]; rfl
  · rw [if_neg (e .Card .Long (by decide)), if_neg (e .Card .End (by decide)), if_neg (e .Card .Tag (by decide)), if_neg (e .Card .Length (by decide)), if_neg (e .Card .Value (by decide)), if_neg (e .Card .More (by decide)), if_neg (e .Card .Order (by decide)), if_neg (e .Card .Default (by decide)), if_neg (e .Card .Deep (by decide)), if_neg (e .Card .Tree (by decide)), if_pos rfl]; rfl
  · rw [if_neg (e .Mark .Long (by decide)), if_neg (e .Mark .End (by decide)), if_neg (e .Mark .Tag (by decide)), if_neg (e .Mark .Length (by decide)), if_neg (e .Mark .Value (by decide)), if_neg (e .Mark .More (by decide)), if_neg (e .Mark .Order (by decide)), if_neg (e .Mark .Default (by decide)), if_neg (e .Mark .Deep (by decide)), if_neg (e .Mark .Tree (by decide)), if_neg (e .Mark .Card (by decide)), if_pos rfl]; rfl
theorem nm_none {sn : Sn → Addr} {x : Addr} (h : ∀ s, x ≠ sn s) : nm sn x = 1 := by
  unfold nm
  simp [h]
end Go.Proofs.YtkkicodfpekbgaaDoor
