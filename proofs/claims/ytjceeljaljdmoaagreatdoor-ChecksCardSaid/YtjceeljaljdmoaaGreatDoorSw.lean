/-
  A schema in memory: which cells hold it, and that new memory leaves it as it is.
-/
import Derived.Test.YtjceeljaljdmoaaGreatDoorSm
import Derived.Test.YtjceeljaljdmoaaGreatDoorMath
import Derived.Test.YtjceeljaljdmoaaGreatDoorRows
import Derived.WalkKit
import Derived.WalkSpells
import Derived.WalkLawsBesides
import Derived.BigQuiet
import Derived.Deep.QuietTactic
namespace Go.Proofs.YtjceeljaljdmoaaGreatDoor
open Go.RowKit

/-- A kid's cells. -/
structure KidCells (w : World) (b o : Nat) (k : Kd) : Prop where
  node : w.cell? ⟨b, o, none⟩ = some (.int .i64 k.node)
  opt : w.cell? ⟨b, o + 1, none⟩ = some (.bool k.opt)
  dflt : w.cell? ⟨b, o + 2, none⟩ = some (.string k.dflt)
/-- A node's cells. -/
structure NodeCells (w : World) (b o : Nat) (n : Nd) (ka : Option Addr) (kc : Nat) : Prop where
  kind : w.cell? ⟨b, o, none⟩ = some (.int .i64 n.kind)
  tag : w.cell? ⟨b, o + 1, none⟩ = some (.int .i64 n.tag)
  mode : w.cell? ⟨b, o + 2, none⟩ = some (.int .i64 n.mode)
  kids : w.cell? ⟨b, o + 3, none⟩ = some (.slice ka n.kids.length kc)
/-- Kids behind an address. -/
def KidsIn (w : World) (ka : Option Addr) (ks : List Kd) : Prop := ∀ j, j < ks.length → ∃ b o, ka = some ⟨b, o, none⟩ ∧ KidCells w b (o + j * 3) (ks.getD j kd0)
/-- Nodes behind an address. -/
def Sch (w : World) (a : Option Addr) (s : List Nd) : Prop := ∀ i, i < s.length → ∃ b o ka kc, a = some ⟨b, o, none⟩ ∧ NodeCells w b (o + i * 4) (nd s i) ka kc ∧ (nd s i).kids.length ≤ kc ∧ kc ≤ maxLen ∧ KidsIn w ka (nd s i).kids
/-- What a schema's numbers and texts are in Go. -/
def SchOk (s : List Nd) : Prop := ∀ i, i < s.length → ∀ k ∈ (nd s i).kids, k.dflt.size ≤ 140737488351232

theorem lt_of_cell {w : World} {a : Addr} {v : Value} (h : w.cell? a = some v) : a.block < w.heap.size := by
  rcases Nat.lt_or_ge a.block w.heap.size with h' | h'
  · exact h'
  · simp [World.cell?, Array.getElem?_eq_none h'] at h
theorem KidCells.below {w w' : World} {b o : Nat} {k : Kd} (h : KidCells w b o k) (hb : Below w.heap.size w w') : KidCells w' b o k :=
  ⟨(hb.cell (lt_of_cell h.node)).trans h.node, (hb.cell (lt_of_cell h.opt)).trans h.opt, (hb.cell (lt_of_cell h.dflt)).trans h.dflt⟩
theorem NodeCells.below {w w' : World} {b o : Nat} {n : Nd} {ka : Option Addr} {kc : Nat} (h : NodeCells w b o n ka kc) (hb : Below w.heap.size w w') : NodeCells w' b o n ka kc :=
  ⟨(hb.cell (lt_of_cell h.kind)).trans h.kind, (hb.cell (lt_of_cell h.tag)).trans h.tag, (hb.cell (lt_of_cell h.mode)).trans h.mode, (hb.cell (lt_of_cell h.kids)).trans h.kids⟩
theorem KidsIn.below {w w' : World} {ka : Option Addr} {ks : List Kd} (h : KidsIn w ka ks) (hb : Below w.heap.size w w') : KidsIn w' ka ks := fun j hj => by
  obtain ⟨b, o, e, hc⟩ := h j hj; exact ⟨b, o, e, hc.below hb⟩
theorem Sch.below {w w' : World} {a : Option Addr} {s : List Nd} (h : Sch w a s) (hb : Below w.heap.size w w') : Sch w' a s := fun i hi => by
  obtain ⟨b, o, ka, kc, e, hc, h1, h2, hk⟩ := h i hi; exact ⟨b, o, ka, kc, e, hc.below hb, h1, h2, hk.below hb⟩

/-- The value of a node whose kids lie at an address. -/
def nodeV (n : Nd) (ka : Option Addr) (kc : Nat) : Value := .agg #[.int .i64 n.kind, .int .i64 n.tag, .int .i64 n.mode, .slice ka n.kids.length kc]
/-- The value of a kid. -/
def kidV (k : Kd) : Value := .agg #[.int .i64 k.node, .bool k.opt, .string k.dflt]
/-- A bool that says whether P; old memory as it was. -/
def RetO (P : Prop) (w : World) (e : Ending) (w' : World) : Prop := ∃ r, e = .returned (.bool r) ∧ (r = true ↔ P) ∧ Below w.heap.size w w'
theorem reto_no {P : Prop} {w w' : World} (h : ¬ P) (hw : Below w.heap.size w w') : RetO P w (.returned (.bool false)) w' := ⟨false, rfl, ⟨fun e => (by cases e), fun p => absurd p h⟩, hw⟩
theorem reto_yes {P : Prop} {w w' : World} (h : P) (hw : Below w.heap.size w w') : RetO P w (.returned (.bool true)) w' := ⟨true, rfl, ⟨fun _ => h, fun _ => rfl⟩, hw⟩
theorem reto_iff {P : Prop} {w w' : World} {r : Bool} (h : r = true ↔ P) (hw : Below w.heap.size w w') : RetO P w (.returned (.bool r)) w' := ⟨r, rfl, h, hw⟩
end Go.Proofs.YtjceeljaljdmoaaGreatDoor
