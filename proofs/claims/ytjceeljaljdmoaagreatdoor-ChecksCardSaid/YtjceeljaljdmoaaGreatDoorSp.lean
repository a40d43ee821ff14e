/-
  Schemas: the pure part of the search for the leaves, as the document goes (a list that grows at its end).
-/
import Derived.Test.YtjceeljaljdmoaaGreatDoorSm
namespace Go.Proofs.YtjceeljaljdmoaaGreatDoor

structure Lv (s : List Nd) (i : Nat) (done q : List Nat) (bk : Bool) : Prop where
  pre : ∃ r, q = done ++ r
  mem : i ∈ q
  nodup : q.Nodup
  rch : ∀ x ∈ q, Rch s i x
  cl : ∀ x ∈ done, (nd s x).opn → ∀ k ∈ (nd s x).kids, k.node.toNat ∈ q
  back : bk = true ↔ ∃ x ∈ done, (nd s x).opn ∧ ∃ k ∈ (nd s x).kids, k.node = i
/-- In the middle of a Choice's kids. -/
structure LvM (s : List Nd) (i : Nat) (done : List Nat) (x j : Nat) (q : List Nat) (bk : Bool) : Prop where
  pre : ∃ r, q = done ++ x :: r
  mem : i ∈ q
  nodup : q.Nodup
  rch : ∀ x ∈ q, Rch s i x
  cl : ∀ x ∈ done, (nd s x).opn → ∀ k ∈ (nd s x).kids, k.node.toNat ∈ q
  cl2 : ∀ m, m < j → ((nd s x).kids.getD m kd0).node.toNat ∈ q
  back : bk = true ↔ (∃ x ∈ done, (nd s x).opn ∧ ∃ k ∈ (nd s x).kids, k.node = i) ∨ ∃ m, m < j ∧ ((nd s x).kids.getD m kd0).node = i
/-- What has been put out. -/
def outs (s : List Nd) (l : List Nat) : List Nat := l.filter (fun j => !(nd s j).opnB)

theorem Lv.start (s : List Nd) (i : Nat) : Lv s i [] [i] false where
  pre := ⟨[i], rfl⟩
  mem := by simp
  nodup := by simp
  rch := fun x hx => by simp at hx; subst hx; exact .refl
  cl := fun x hx => by cases hx
  back := by simp
theorem Lv.at {s : List Nd} {i : Nat} {done q : List Nat} {bk : Bool} (h : Lv s i done q bk) (hl : done.length < q.length) : ∃ x r, q = done ++ x :: r := by
  obtain ⟨r, e⟩ := h.pre
  cases r with
  | nil => subst e; simp at hl
  | cons x r => exact ⟨x, r, e⟩
theorem Lv.le {s : List Nd} {i : Nat} {done q : List Nat} {bk : Bool} (h : Lv s i done q bk) : done.length ≤ q.length := by
  obtain ⟨r, e⟩ := h.pre; subst e; simp
theorem Lv.len {s : List Nd} {i : Nat} {done q : List Nat} {bk : Bool} (h : Lv s i done q bk) (hw : Within s) (hi : i < s.length) : q.length ≤ s.length :=
  nodup_le _ q h.nodup fun x hx => (h.rch x hx).lt hw hi
theorem LvM.len {s : List Nd} {i : Nat} {done q : List Nat} {x j : Nat} {bk : Bool} (h : LvM s i done x j q bk) (hw : Within s) (hi : i < s.length) : q.length ≤ s.length :=
  nodup_le _ q h.nodup fun x hx => (h.rch x hx).lt hw hi
theorem Lv.leaf {s : List Nd} {i : Nat} {done q r : List Nat} {bk : Bool} {x : Nat} (h : Lv s i done q bk) (e : q = done ++ x :: r) (ho : ¬ (nd s x).opn) : Lv s i (done ++ [x]) q bk where
  pre := ⟨r, by simp [e]⟩
  mem := h.mem
  nodup := h.nodup
  rch := h.rch
  cl := fun y hy hyo => by
    rcases List.mem_append.1 hy with hy | hy
    · exact h.cl y hy hyo
    · simp at hy; subst hy; exact absurd hyo ho
  back := by
    rw [h.back]
    constructor
    · rintro ⟨y, hy, hr⟩; exact ⟨y, by simp [hy], hr⟩
    · rintro ⟨y, hy, hyo, hr⟩
      rcases List.mem_append.1 hy with hy | hy
      · exact ⟨y, hy, hyo, hr⟩
      · simp at hy; subst hy; exact absurd hyo ho
theorem outs_leaf {s : List Nd} {done : List Nat} {x : Nat} (ho : ¬ (nd s x).opn) : outs s (done ++ [x]) = outs s done ++ [x] := by
  unfold outs; rw [List.filter_append]; simp [Nd.opnB_no ho]
theorem outs_open {s : List Nd} {done : List Nat} {x : Nat} (ho : (nd s x).opn) : outs s (done ++ [x]) = outs s done := by
  unfold outs; rw [List.filter_append]; simp [Nd.opnB_yes ho]
theorem outs_le (s : List Nd) (l : List Nat) : (outs s l).length ≤ l.length := List.length_filter_le _ _
theorem Lv.mid {s : List Nd} {i : Nat} {done q r : List Nat} {bk : Bool} {x : Nat} (h : Lv s i done q bk) (e : q = done ++ x :: r) : LvM s i done x 0 q bk where
  pre := ⟨r, e⟩
  mem := h.mem
  nodup := h.nodup
  rch := h.rch
  cl := h.cl
  cl2 := fun m hm => absurd hm (Nat.not_lt_zero _)
  back := by rw [h.back]; simp
theorem LvM.step_old {s : List Nd} {i : Nat} {done q : List Nat} {x j t : Nat} {bk : Bool} (h : LvM s i done x j q bk) (ht : ((nd s x).kids.getD j kd0).node = t) (hm : t ∈ q) :
    LvM s i done x (j + 1) q (bk || decide ((t : Int) = i)) where
  pre := h.pre
  mem := h.mem
  nodup := h.nodup
  rch := h.rch
  cl := h.cl
  cl2 := fun m hm' => by
    by_cases e : m = j
    · subst e; rw [ht]; exact hm
    · exact h.cl2 m (by omega)
  back := by
    rw [Bool.or_eq_true, h.back, or_assoc, decide_eq_true_iff]
    refine or_congr Iff.rfl ⟨?_, ?_⟩
    · rintro (⟨m, h1, h2⟩ | e)
      · exact ⟨m, by omega, h2⟩
      · exact ⟨j, by omega, ht.trans e⟩
    · rintro ⟨m, h1, h2⟩
      by_cases e : m = j
      · subst e; exact .inr (ht.symm.trans h2)
      · exact .inl ⟨m, by omega, h2⟩
theorem LvM.step_new {s : List Nd} {i : Nat} {done q : List Nat} {x j t : Nat} {bk : Bool} (h : LvM s i done x j q bk) (ht : ((nd s x).kids.getD j kd0).node = t) (hj : j < (nd s x).kids.length) (ho : (nd s x).opn) (hm : t ∉ q) :
    LvM s i done x (j + 1) (q ++ [t]) (bk || decide ((t : Int) = i)) := by
  have hk : (nd s x).kids.getD j kd0 ∈ (nd s x).kids := by
    rw [List.getD_eq_getElem?_getD, List.getElem?_eq_getElem hj]; exact List.getElem_mem hj
  have hx : Rch s i x := by obtain ⟨r, e⟩ := h.pre; exact h.rch x (by simp [e])
  have ht' : ((nd s x).kids.getD j kd0).node.toNat = t := by rw [ht]; rfl
  exact {
    pre := by obtain ⟨r, e⟩ := h.pre; exact ⟨r ++ [t], by simp [e]⟩
    mem := by simp [h.mem]
    nodup := by rw [List.nodup_append]; exact ⟨h.nodup, by simp, fun a ha b hb => by simp at hb; subst hb; intro e; subst e; exact hm ha⟩
    rch := fun y hy => by
      rcases List.mem_append.1 hy with hy | hy
      · exact h.rch y hy
      · simp at hy; subst hy; rw [← ht']; exact .step hx ho hk
    cl := fun y hy hyo k hk => List.mem_append_left _ (h.cl y hy hyo k hk)
    cl2 := fun m hm' => by
      by_cases e : m = j
      · subst e; rw [ht']; simp
      · exact List.mem_append_left _ (h.cl2 m (by omega))
    back := (by
      rw [Bool.or_eq_true, h.back, or_assoc, decide_eq_true_iff]
      refine or_congr Iff.rfl ⟨?_, ?_⟩
      · rintro (⟨m, h1, h2⟩ | e)
        · exact ⟨m, by omega, h2⟩
        · exact ⟨j, by omega, ht.trans e⟩
      · rintro ⟨m, h1, h2⟩
        by_cases e : m = j
        · subst e; exact .inr (ht.symm.trans h2)
        · exact .inl ⟨m, by omega, h2⟩) }
theorem LvM.finish {s : List Nd} {i : Nat} {done q : List Nat} {x : Nat} {bk : Bool} (h : LvM s i done x (nd s x).kids.length q bk) (ho : (nd s x).opn) : Lv s i (done ++ [x]) q bk := by
  have hget : ∀ k ∈ (nd s x).kids, ∃ m, m < (nd s x).kids.length ∧ (nd s x).kids.getD m kd0 = k := fun k hk => by
    obtain ⟨m, hm, e⟩ := List.getElem_of_mem hk
    exact ⟨m, hm, by rw [List.getD_eq_getElem?_getD, List.getElem?_eq_getElem hm]; exact e⟩
  exact {
    pre := by obtain ⟨r, e⟩ := h.pre; exact ⟨r, by simp [e]⟩
    mem := h.mem
    nodup := h.nodup
    rch := h.rch
    cl := fun y hy hyo k hk => by
      rcases List.mem_append.1 hy with hy | hy
      · exact h.cl y hy hyo k hk
      · simp at hy; subst hy
        obtain ⟨m, hm, e⟩ := hget k hk
        rw [← e]; exact h.cl2 m hm
    back := by
      rw [h.back]
      constructor
      · rintro (⟨y, hy, hr⟩ | ⟨m, hm, e⟩)
        · exact ⟨y, by simp [hy], hr⟩
        · exact ⟨x, by simp, ho, _, by rw [List.getD_eq_getElem?_getD, List.getElem?_eq_getElem hm]; exact List.getElem_mem hm, e⟩
      · rintro ⟨y, hy, hyo, k, hk, e⟩
        rcases List.mem_append.1 hy with hy | hy
        · exact .inl ⟨y, hy, hyo, k, hk, e⟩
        · simp at hy; subst hy
          obtain ⟨m, hm, e'⟩ := hget k hk
          exact .inr ⟨m, hm, by rw [e']; exact e⟩ }
theorem Lv.reached {s : List Nd} {i : Nat} {q : List Nat} {bk : Bool} (h : Lv s i q q bk) {j : Nat} (hj : Rch s i j) : j ∈ q := by
  exact Rch.ind (P := fun j => j ∈ q) h.mem (fun _ _ _ ho hk ih => h.cl _ ih ho _ hk) hj
theorem Lv.leaves {s : List Nd} {i : Nat} {q : List Nat} {bk : Bool} (h : Lv s i q q bk) (j : Nat) : j ∈ outs s q ↔ Leaf s i j := by
  unfold outs Leaf
  rw [List.mem_filter]
  simp only [Bool.not_eq_true', ← Bool.not_eq_true, Nd.opnB_iff]
  exact and_congr ⟨fun hm => h.rch j hm, fun hr => h.reached hr⟩ Iff.rfl
theorem Lv.backs {s : List Nd} {i : Nat} {q : List Nat} {bk : Bool} (h : Lv s i q q bk) : bk = true ↔ Back s i := by
  rw [h.back]
  unfold Back
  constructor
  · rintro ⟨x, hx, ho, k, hk, e⟩; exact ⟨x, h.rch x hx, ho, k, hk, e⟩
  · rintro ⟨x, hx, ho, k, hk, e⟩; exact ⟨x, h.reached hx, ho, k, hk, e⟩
theorem Lv.done_eq {s : List Nd} {i : Nat} {done q : List Nat} {bk : Bool} (h : Lv s i done q bk) (hl : q.length ≤ done.length) : done = q := by
  obtain ⟨r, e⟩ := h.pre
  subst e
  have : r = [] := List.eq_nil_of_length_eq_zero (by simp at hl; omega)
  simp [this]
end Go.Proofs.YtjceeljaljdmoaaGreatDoor
