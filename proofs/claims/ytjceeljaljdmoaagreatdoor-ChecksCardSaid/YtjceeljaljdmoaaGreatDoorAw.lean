/-
  Regions that draw their order, whose operations read and whose callees leave all that was there: one walk.
-/
import Derived.Test.YtjceeljaljdmoaaGreatDoorAq
import Derived.Test.YtjceeljaljdmoaaGreatDoorSl
import Derived.BigQuiet
namespace Go.Proofs.YtjceeljaljdmoaaGreatDoor
open Go.RowKit

/-- A world that goes on from this one. -/
structure Ext (w : World) where
  v : World
  h : Below w.heap.size w v
theorem ext_ne (w : World) : Nonempty (Ext w) := ⟨⟨w, Below.refl _ _⟩⟩
theorem Ext.cell {w : World} (x : Ext w) {a : Addr} {u : Value} (h : w.cell? a = some u) : x.v.cell? a = some u := (x.h.cell (lt_of_cell h)).trans h
theorem Ext.block {w : World} (x : Ext w) {g : Nat} {o : Obj} (h : w.heap[g]? = some o) : x.v.heap[g]? = some o := block_below h x.h
theorem Ext.old {w : World} {o : Obj} (x : Ext (w.alloc o)) {a : Addr} {u : Value} (h : w.cell? a = some u) : x.v.cell? a = some u := x.cell ((((Below.refl w.heap.size w).alloc (Nat.le_refl _) o).cell (lt_of_cell h)).trans h)
theorem Ext.bel {w0 w : World} (hb : Below w0.heap.size w0 w) (x : Ext w) : Below w0.heap.size w0 x.v := hb.trans (x.h.mono hb.size)
theorem Ext.far {w0 w : World} (hb : Below w0.heap.size w0 w) (x : Ext w) {a : Addr} {u : Value} (h : w0.cell? a = some u) : x.v.cell? a = some u := ((Ext.bel hb x).cell (lt_of_cell h)).trans h
theorem Ext.new {w : World} {A : Array Value} {T : TypeId} (x : Ext (w.alloc (.cells A T))) {i : Nat} {u : Value} (h : A[i]? = some u) : x.v.cell? ⟨w.heap.size, i, none⟩ = some u := x.cell (by have q := heap_alloc_new w (.cells A T); unfold World.cell?; simp only [q]; exact h)
theorem wp_region_ext {P : Program} {id : Nat} {Q : Exit → Act → World → Prop} {a : Act} {w : World} {l : List Oper} (hm : P.follows .mixedOrders = true) (hB : Region.lexB .any l.toArray = true)
    (h : wpQuiet P l.toArray (fun w' => ∃ x : Ext w, w' = x.v) (fun a' => ∀ w', (∃ x : Ext w, w' = x.v) → Q .normal a' w') l a) : (Code.region id l.toArray true).wp P Q a w :=
  wp_region_quiet (C := fun w' => ∃ x : Ext w, w' = x.v) hm hB ⟨⟨w.drew, (Below.refl _ _).drew⟩, rfl⟩ (by simpa using h)
theorem nil_ext {P : Program} {ops : Array Oper} {Q : Exit → Act → World → Prop} {a : Act} {w : World} (h : ∀ w', Below w.heap.size w w' → Q .normal a w') :
    wpQuiet P ops (fun w' => ∃ x : Ext w, w' = x.v) (fun a' => ∀ w', (∃ x : Ext w, w' = x.v) → Q .normal a' w') [] a := fun _ hx => by obtain ⟨x, rfl⟩ := hx; exact h x.v x.h
theorem Ext.calls {P : Program} {f : FuncId} {args : Array Value} {w : World} {x : Ext w} {v : Value} (h : Calls P f args x.v fun e w' => e = .returned v ∧ Below x.v.heap.size x.v w') :
    Calls P f args x.v fun e w'' => e = .returned v ∧ ∃ y : Ext w, w'' = y.v := h.mono fun _ w' q => ⟨q.1, ⟨w', x.h.trans (q.2.mono x.h.size)⟩, rfl⟩
theorem Ext.callsO {P : Program} {f : FuncId} {args : Array Value} {w : World} {x : Ext w} {R : Prop} [Decidable R] (h : Calls P f args x.v fun e w' => RetO R x.v e w') :
    Calls P f args x.v fun e w'' => e = .returned (.bool (decide R)) ∧ ∃ y : Ext w, w'' = y.v := h.mono fun _ w' q => by
  obtain ⟨r, rfl, h1, h2⟩ := q
  refine ⟨?_, ⟨w', x.h.trans (h2.mono x.h.size)⟩, rfl⟩
  by_cases hR : R
  · rw [decide_eq_true hR, h1.2 hR]
  · rw [decide_eq_false hR]
    cases r
    · rfl
    · exact absurd (h1.1 rfl) hR
theorem Ext.callsR {P : Program} {f : FuncId} {args : Array Value} {w : World} {x : Ext w} {R : Prop} {r : Bool} (hr : r = true ↔ R) (h : Calls P f args x.v fun e w' => RetO R x.v e w') :
    Calls P f args x.v fun e w'' => e = .returned (.bool r) ∧ ∃ y : Ext w, w'' = y.v := h.mono fun _ w' q => by
  obtain ⟨r', rfl, h1, h2⟩ := q
  refine ⟨?_, ⟨w', x.h.trans (h2.mono x.h.size)⟩, rfl⟩
  have : r' = r := by
    cases r <;> cases r'
    · rfl
    · exact absurd (hr.2 (h1.1 rfl)) (by simp)
    · exact absurd (h1.2 (hr.1 rfl)) (by simp)
    · rfl
  rw [this]
/-- A bool for whatever may be asked. -/
theorem bool_of (R : Prop) : ∃ r : Bool, r = true ↔ R := by
  by_cases h : R
  · exact ⟨true, by simp [h]⟩
  · exact ⟨false, by simp [h]⟩
end Go.Proofs.YtjceeljaljdmoaaGreatDoor
