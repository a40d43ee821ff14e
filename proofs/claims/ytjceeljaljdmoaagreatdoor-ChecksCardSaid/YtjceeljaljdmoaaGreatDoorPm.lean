/-
  Beginnings read again: the row that AllBeginnings leaves; two of them meet as the nodes do.
-/
import Derived.Test.YtjceeljaljdmoaaGreatDoorPl
import Derived.Test.YtjceeljaljdmoaaGreatDoorSt
namespace Go.Proofs.YtjceeljaljdmoaaGreatDoor
open Go.RowKit

theorem tcells_get (l : List (Int × Int)) (i : Nat) (hi : i < l.length) : (tcells l)[i * 2]? = some (.int .i64 (l.getD i (0, 0)).1) ∧ (tcells l)[i * 2 + 1]? = some (.int .i64 (l.getD i (0, 0)).2) := by
  induction l generalizing i with
  | nil => simp at hi
  | cons a l ih =>
    have e : tcells (a :: l) = [.int .i64 a.1, .int .i64 a.2] ++ tcells l := by unfold tcells; simp
    rw [e]
    cases i with
    | zero => simp
    | succ i =>
      have h := ih i (by simp at hi; omega)
      constructor
      · rw [List.getElem?_append_right (by simp; omega)]
        have : (i + 1) * 2 - [Value.int IntKind.i64 a.1, Value.int IntKind.i64 a.2].length = i * 2 := by simp; omega
        rw [this, h.1]; simp
      · rw [List.getElem?_append_right (by simp; omega)]
        have : (i + 1) * 2 + 1 - [Value.int IntKind.i64 a.1, Value.int IntKind.i64 a.2].length = i * 2 + 1 := by simp; omega
        rw [this, h.2]; simp
/-- The beginnings of all nodes lie in a row. -/
def AbR (w : World) (gb : Nat) (s : List Nd) : Prop := ∀ j, j < s.length → ∃ all ta tc ts, w.cell? ⟨gb, j * 2, none⟩ = some (.bool all) ∧ w.cell? ⟨gb, j * 2 + 1, none⟩ = some (.slice ta (ts : List (Int × Int)).length tc) ∧ TagsIn w ta ts ∧ BegIs s j all ts
theorem AbR.below {w w' : World} {gb : Nat} {s : List Nd} (h : AbR w gb s) (hb : Below w.heap.size w w') : AbR w' gb s := fun j hj => by
  obtain ⟨all, ta, tc, ts, h1, h2, h3, h4⟩ := h j hj
  exact ⟨all, ta, tc, ts, (hb.cell (lt_of_cell h1)).trans h1, (hb.cell (lt_of_cell h2)).trans h2, h3.below hb, h4⟩
theorem AbW.read {s : List Nd} {w wr : World} (h : AbW s w wr s.length) : AbR wr w.heap.size s := fun j hj => by
  obtain ⟨C, h1, h2, h3⟩ := h.row
  obtain ⟨all, vt, ts, q1, q2, q3, q4⟩ := h3 j hj
  obtain ⟨ta, tc, rfl, hta⟩ := own_form q3
  refine ⟨all, ta, tc, ts, by simp only [World.cell?, h1]; simpa using q1, by simp only [World.cell?, h1]; simpa using q2, fun k hk => ?_, q4⟩
  obtain ⟨g, rfl⟩ := hta (by omega)
  have a0 : ∀ p, (⟨g, 0, none⟩ : Addr).add p = ⟨g, p, none⟩ := fun p => by unfold Addr.add; split <;> simp_all
  have c0 := q3.cells (g := g) rfl _ _ (tcells_get ts k hk).1
  have c1 := q3.cells (g := g) rfl _ _ (tcells_get ts k hk).2
  rw [a0] at c0 c1
  exact ⟨g, 0, rfl, by simpa using c0, by simpa using c1⟩
theorem meetsT_iff {s : List Nd} {i k : Nat} {a1 a2 : Bool} {t1 t2 : List (Int × Int)} (h1 : BegIs s i a1 t1) (h2 : BegIs s k a2 t2) : MeetsT a1 a2 t1 t2 ↔ Meets s i k := by
  unfold MeetsT Meets
  rw [h1.2.1, h2.2.1]
  refine or_congr Iff.rfl (or_congr Iff.rfl ⟨?_, ?_⟩)
  · rintro ⟨t, q1, q2⟩
    obtain ⟨j, r1, r2, r3⟩ := (h1.2.2 t).1 q1
    obtain ⟨l, r4, r5, r6⟩ := (h2.2.2 t).1 q2
    exact ⟨j, l, r1, r2, r4, r5, r3.trans r6.symm⟩
  · rintro ⟨j, l, r1, r2, r4, r5, r6⟩
    exact ⟨(nd s j).outer, (h1.2.2 _).2 ⟨j, r1, r2, rfl⟩, (h2.2.2 _).2 ⟨l, r4, r5, r6.symm⟩⟩
/-- Kids are told apart by the program's test as by the document's. -/
theorem told_congr {C D : Nat → Nat → Prop} {n : Nd} {m : Nat} (hw : ∀ j, j < n.kids.length → (kd n j).node.toNat < m) (h : ∀ i k, i < m → k < m → (C i k ↔ D i k)) : Told C n ↔ Told D n := by
  unfold Told ToldAt
  constructor
  · intro q i hi
    rcases q i hi with q | q
    · exact .inl q
    · exact .inr fun k h1 h2 h3 h4 => q k h1 h2 h3 ((h _ _ (hw i hi) (hw k h2)).2 h4)
  · intro q i hi
    rcases q i hi with q | q
    · exact .inl q
    · exact .inr fun k h1 h2 h3 h4 => q k h1 h2 h3 ((h _ _ (hw i hi) (hw k h2)).1 h4)
end Go.Proofs.YtjceeljaljdmoaaGreatDoor
