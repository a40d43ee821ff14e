/-
  hallmarklaw.copied: what it holds in memory, and that it is the schema.
-/
import Derived.Test.YtjceeljaljdmoaaGreatDoorPr
import Derived.Test.YtjceeljaljdmoaaGreatDoorAp
namespace Go.Proofs.YtjceeljaljdmoaaGreatDoor
open Go.RowKit

def Kd.cells (k : Kd) : List Value := [.int .i64 k.node, .bool k.opt, .string k.dflt]
def kcells (ks : List Kd) : List Value := ks.flatMap Kd.cells
theorem kcells_append (l : List Kd) (k : Kd) : kcells (l ++ [k]) = kcells l ++ k.cells := by unfold kcells; simp
theorem kcells_len (l : List Kd) : (kcells l).length = l.length * 3 := by
  unfold kcells
  induction l with
  | nil => rfl
  | cons a l ih => simp [Kd.cells, ih]; omega
/-- A node's cells, its kids' slice being a value. -/
def ncell (n : Nd) (K : Value) : List Value := [.int .i64 n.kind, .int .i64 n.tag, .int .i64 n.mode, K]
def ncells (s : List Nd) (K : Nat → Value) (k : Nat) : List Value := (List.range k).flatMap fun i => ncell (nd s i) (K i)
theorem ncells_succ (s : List Nd) (K : Nat → Value) (k : Nat) : ncells s K (k + 1) = ncells s K k ++ ncell (nd s k) (K k) := by
  unfold ncells; rw [List.range_succ]; simp
theorem ncells_congr {s : List Nd} {K K' : Nat → Value} {k : Nat} (h : ∀ i, i < k → K i = K' i) : ncells s K k = ncells s K' k := by
  induction k with
  | zero => rfl
  | succ k ih => rw [ncells_succ, ncells_succ, ih (fun i hi => h i (by omega)), h k (by omega)]
theorem ncells_len (s : List Nd) (K : Nat → Value) (k : Nat) : (ncells s K k).length = k * 4 := by
  induction k with
  | zero => rfl
  | succ k ih => rw [ncells_succ, List.length_append, ih]; simp [ncell]; omega
theorem ncells_get (s : List Nd) (K : Nat → Value) (k i : Nat) (hi : i < k) (j : Nat) (hj : j < 4) : (ncells s K k)[i * 4 + j]? = (ncell (nd s i) (K i))[j]? := by
  induction k with
  | zero => omega
  | succ k ih =>
    rw [ncells_succ]
    by_cases e : i = k
    · subst e
      rw [List.getElem?_append_right (by rw [ncells_len]; omega), ncells_len]
      congr 1; omega
    · rw [List.getElem?_append_left (by rw [ncells_len]; omega)]
      exact ih (by omega)
theorem kcells_get (l : List Kd) (i : Nat) (hi : i < l.length) (j : Nat) (hj : j < 3) : (kcells l)[i * 3 + j]? = (l.getD i kd0).cells[j]? := by
  induction l generalizing i with
  | nil => simp at hi
  | cons a l ih =>
    have e : kcells (a :: l) = a.cells ++ kcells l := by unfold kcells; simp
    rw [e]
    cases i with
    | zero => rw [List.getElem?_append_left (by simp [Kd.cells]; omega)]; simp
    | succ i =>
      rw [List.getElem?_append_right (by simp [Kd.cells]; omega)]
      have : (i + 1) * 3 + j - a.cells.length = i * 3 + j := by simp [Kd.cells]; omega
      rw [this, ih i (by simp at hi; omega)]
      simp
/-- What copied holds in memory. -/
structure CpW (s : List Nd) (w wr : World) (k : Nat) (vout : Value) : Prop where
  bel : Below w.heap.size w wr
  own : ∃ K : Nat → Value, wr.ownsRow w.heap.size 58 4 vout k (ncells s K k) ∧ ∀ i, i < k → wr.ownsRow w.heap.size 55 3 (K i) (nd s i).kids.length (kcells (nd s i).kids)
theorem CpW.below {s : List Nd} {w wr w' : World} {k : Nat} {vout : Value} (h : CpW s w wr k vout) (hb : Below wr.heap.size wr w') : CpW s w w' k vout where
  bel := h.bel.trans (hb.mono h.bel.size)
  own := by obtain ⟨K, h1, h2⟩ := h.own; exact ⟨K, own_below h1 hb, fun i hi => own_below (h2 i hi) hb⟩
theorem ownsRow_base {w : World} {b b' : Nat} {e : TypeId} {size : Nat} {v : Value} {n : Nat} {xs : List Value} (h : w.ownsRow b e size v n xs) (hb : b' ≤ b) : w.ownsRow b' e size v n xs := by
  obtain ⟨h1, h2⟩ := h
  refine ⟨h1, ?_⟩
  rcases h2 with h2 | ⟨g, cap, cur, h3, h4, h5⟩
  · exact .inl h2
  · exact .inr ⟨g, cap, cur, h3, Nat.le_trans hb h4, h5⟩
theorem row_ne3 {w : World} {b1 b2 s1 s2 n1 n2 : Nat} {e1 e2 : TypeId} {v1 v2 : Value} {x1 x2 : List Value} (h1 : w.ownsRow b1 e1 s1 v1 n1 x1) (h2 : w.ownsRow b2 e2 s2 v2 n2 x2) (hT : e2 ≠ e1) : v2.ownBlock = none ∨ v2.ownBlock ≠ v1.ownBlock := by
  rcases h2.2 with ⟨q, _⟩ | ⟨g, cap, cur, q, _, hg, _⟩
  · left; rw [q]; rfl
  · right
    intro e
    have : v1.ownBlock = some g := by rw [← e, q]; rfl
    exact row_ne1 hg h1 hT this
/-- A node more. -/
theorem CpW.put {s : List Nd} {w wr w' : World} {k g cap : Nat} {vout vk : Value} {o : Obj} {K : Nat → Value} (hb0 : Below w.heap.size w wr) (q1 : wr.ownsRow w.heap.size 58 4 vout k (ncells s K k)) (q2 : ∀ i, i < k → wr.ownsRow w.heap.size 55 3 (K i) (nd s i).kids.length (kcells (nd s i).kids))
    (hk : wr.ownsRow w.heap.size 55 3 vk (nd s k).kids.length (kcells (nd s k).kids))
    (h1 : w'.ownsRow w.heap.size 58 4 (.slice (some ⟨g, 0, none⟩) (k + 1) cap) (k + 1) (ncells s K k ++ ncell (nd s k) vk))
    (h2 : (wr.alloc o).grownBy w' vout.ownBlock) : CpW s w w' (k + 1) (.slice (some ⟨g, 0, none⟩) (k + 1) cap) := by
  have hb : Below w.heap.size w (wr.alloc o) := hb0.alloc hb0.size o
  refine ⟨hb.grown h2 hb.size (fun j hj => (q1.lt j hj).1), fun i => if i = k then vk else K i, ?_, fun i hi => ?_⟩
  · rw [ncells_succ, if_pos rfl, ncells_congr (K' := K) (fun i hi => if_neg (by omega))]
    exact h1
  · show w'.ownsRow _ _ _ (if i = k then vk else K i) _ _
    by_cases e : i = k
    · subst e; rw [if_pos rfl]; exact (hk.alloc o).kept h2 (row_ne3 q1 hk (by decide))
    · rw [if_neg e]; exact ((q2 i (by omega)).alloc o).kept h2 (row_ne3 q1 (q2 i (by omega)) (by decide))
theorem own_form2 {w : World} {base : Nat} {e : TypeId} {size : Nat} {v : Value} {n : Nat} {xs : List Value} (h : w.ownsRow base e size v n xs) : ∃ a cap, v = .slice a n cap ∧ (0 < n → ∃ g, a = some ⟨g, 0, none⟩) := by
  rcases h.2 with ⟨hv, hn⟩ | ⟨g, cap, cur, hv, _⟩
  · subst hn; exact ⟨none, 0, hv, fun h => absurd h (Nat.lt_irrefl _)⟩
  · exact ⟨_, cap, hv, fun _ => ⟨g, rfl⟩⟩
theorem add0 (g j : Nat) : (⟨g, 0, none⟩ : Addr).add j = ⟨g, j, none⟩ := by unfold Addr.add; split <;> simp_all
/-- The copy is the schema. -/
theorem CpW.sch {s : List Nd} {w wr : World} {vout : Value} (h : CpW s w wr s.length vout) : ∃ a c, vout = .slice a s.length c ∧ Sch wr a s := by
  obtain ⟨K, q1, q2⟩ := h.own
  obtain ⟨a, c, rfl, ha⟩ := own_form2 q1
  refine ⟨a, c, rfl, fun i hi => ?_⟩
  obtain ⟨g, rfl⟩ := ha (by omega)
  have cell : ∀ j, j < 4 → ∀ u, (ncell (nd s i) (K i))[j]? = some u → wr.cell? ⟨g, i * 4 + j, none⟩ = some u := fun j hj u hu => by
    have := q1.cells (g := g) rfl (i * 4 + j) u (by rw [ncells_get s K s.length i hi j hj]; exact hu)
    rwa [add0] at this
  obtain ⟨ka, kc, hK, hka⟩ := own_form2 (q2 i hi)
  have hq := q2 i hi
  rw [hK] at hq cell
  have hcap : (nd s i).kids.length ≤ kc ∧ kc ≤ maxLen := by
    rcases hq.2 with ⟨q, e⟩ | ⟨g', cap, cur, q, _, _, q3, q4, _⟩
    · injection q with _ e1 e2; subst e2; rw [e]; exact ⟨Nat.le_refl _, Nat.zero_le _⟩
    · injection q with _ _ e2; subst e2; exact ⟨q3, q4⟩
  refine ⟨g, 0, ka, kc, rfl, ⟨?_, ?_, ?_, ?_⟩, hcap.1, hcap.2, fun j hj => ?_⟩
  · simpa using cell 0 (by omega) _ rfl
  · simpa using cell 1 (by omega) _ rfl
  · simpa using cell 2 (by omega) _ rfl
  · simpa using cell 3 (by omega) _ rfl
  · obtain ⟨g', rfl⟩ := hka (by omega)
    have kcell : ∀ p, p < 3 → ∀ u, ((nd s i).kids.getD j kd0).cells[p]? = some u → wr.cell? ⟨g', j * 3 + p, none⟩ = some u := fun p hp u hu => by
      have := hq.cells (g := g') rfl (j * 3 + p) u (by rw [kcells_get _ j hj p hp]; exact hu)
      rwa [add0] at this
    exact ⟨g', 0, rfl, by simpa using kcell 0 (by omega) _ rfl, by simpa using kcell 1 (by omega) _ rfl, by simpa using kcell 2 (by omega) _ rfl⟩
end Go.Proofs.YtjceeljaljdmoaaGreatDoor
