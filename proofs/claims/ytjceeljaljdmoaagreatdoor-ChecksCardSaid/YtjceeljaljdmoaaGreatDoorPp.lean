/-
  Schemas: the pure part of the search for the leaves, as the program goes (a stack; what was put on it is marked).
-/
import Derived.Test.YtjceeljaljdmoaaGreatDoorSp
namespace Go.Proofs.YtjceeljaljdmoaaGreatDoor

structure Re (s : List Nd) (i : Nat) (V A S : List Nat) (bk : Bool) : Prop where
  mem : i ∈ V ++ A
  rch : ∀ x ∈ V ++ A, Rch s i x
  sin : ∀ x ∈ S, x ∈ V ++ A
  snd : S.Nodup
  slt : ∀ x ∈ S, x < s.length
  cnt : V.length + A.length = 1 + S.length
  cl : ∀ x ∈ V, (nd s x).opn → ∀ k ∈ (nd s x).kids, k.node.toNat ∈ S
  back : bk = true ↔ ∃ x ∈ V, (nd s x).opn ∧ ∃ k ∈ (nd s x).kids, k.node = i
structure ReM (s : List Nd) (i : Nat) (V : List Nat) (x j : Nat) (A S : List Nat) (bk : Bool) : Prop where
  mem : i ∈ V ++ x :: A
  rch : ∀ y ∈ V ++ x :: A, Rch s i y
  sin : ∀ y ∈ S, y ∈ V ++ x :: A
  snd : S.Nodup
  slt : ∀ y ∈ S, y < s.length
  cnt : V.length + (A.length + 1) = 1 + S.length
  cl : ∀ y ∈ V, (nd s y).opn → ∀ k ∈ (nd s y).kids, k.node.toNat ∈ S
  cl2 : ∀ m, m < j → ((nd s x).kids.getD m kd0).node.toNat ∈ S
  back : bk = true ↔ (∃ y ∈ V, (nd s y).opn ∧ ∃ k ∈ (nd s y).kids, k.node = i) ∨ ∃ m, m < j ∧ ((nd s x).kids.getD m kd0).node = i

theorem Re.start (s : List Nd) (i : Nat) : Re s i [] [i] [] false where
  mem := by simp
  rch := fun x hx => by simp at hx; subst hx; exact .refl
  sin := fun x hx => by cases hx
  snd := List.nodup_nil
  slt := fun x hx => by cases hx
  cnt := rfl
  cl := fun x hx => by cases hx
  back := by simp
theorem Re.len {s : List Nd} {i : Nat} {V A S : List Nat} {bk : Bool} (h : Re s i V A S bk) : V.length + A.length ≤ 1 + s.length := by
  have := nodup_le s.length S h.snd h.slt; have := h.cnt; omega
theorem ReM.len {s : List Nd} {i : Nat} {V A S : List Nat} {x j : Nat} {bk : Bool} (h : ReM s i V x j A S bk) : V.length + A.length ≤ s.length ∧ S.length ≤ s.length := by
  have := nodup_le s.length S h.snd h.slt; have := h.cnt; omega
theorem mem_mid {V A : List Nat} {x y : Nat} : y ∈ V ++ x :: A ↔ y ∈ V ++ [x] ++ A := by simp
theorem Re.leaf {s : List Nd} {i x : Nat} {V A S : List Nat} {bk : Bool} (h : Re s i V (A ++ [x]) S bk) (ho : ¬ (nd s x).opn) : Re s i (V ++ [x]) A S bk where
  mem := by have := h.mem; simp at this ⊢; rcases this with q | q | q <;> simp [q]
  rch := fun y hy => h.rch y (by simp at hy ⊢; rcases hy with hy | hy | hy <;> simp [hy])
  sin := fun y hy => by have := h.sin y hy; simp at this ⊢; rcases this with q | q | q <;> simp [q]
  snd := h.snd
  slt := h.slt
  cnt := by have := h.cnt; simp at this ⊢; omega
  cl := fun y hy hyo => by
    rcases List.mem_append.1 hy with hy | hy
    · exact h.cl y hy hyo
    · simp at hy; subst hy; exact absurd hyo ho
  back := by
    rw [h.back]
    constructor
    · rintro ⟨y, hy, hr⟩; exact ⟨y, by simp [hy], hr⟩
    · rintro ⟨y, hy, hyo, hr⟩
      rcases List.mem_append.1 hy with hy | hy
      · exact ⟨y, hy, hyo, hr⟩
      · simp at hy; subst hy; exact absurd hyo ho
theorem Re.mid {s : List Nd} {i x : Nat} {V A S : List Nat} {bk : Bool} (h : Re s i V (A ++ [x]) S bk) : ReM s i V x 0 A S bk where
  mem := by have := h.mem; simp at this ⊢; rcases this with q | q | q <;> simp [q]
  rch := fun y hy => h.rch y (by simp at hy ⊢; rcases hy with hy | hy | hy <;> simp [hy])
  sin := fun y hy => by have := h.sin y hy; simp at this ⊢; rcases this with q | q | q <;> simp [q]
  snd := h.snd
  slt := h.slt
  cnt := by have := h.cnt; simp at this ⊢; omega
  cl := h.cl
  cl2 := fun m hm => absurd hm (Nat.not_lt_zero _)
  back := by rw [h.back]; simp
theorem back_step {P : Prop} {f : Nat → Int} {j t i : Nat} {bk : Bool} (h : bk = true ↔ P ∨ ∃ m, m < j ∧ f m = i) (ht : f j = t) : (bk || decide ((t : Int) = i)) = true ↔ P ∨ ∃ m, m < j + 1 ∧ f m = i := by
  rw [Bool.or_eq_true, h, or_assoc, decide_eq_true_iff]
  refine or_congr Iff.rfl ⟨?_, ?_⟩
  · rintro (⟨m, h1, h2⟩ | e)
    · exact ⟨m, by omega, h2⟩
    · exact ⟨j, by omega, ht.trans e⟩
  · rintro ⟨m, h1, h2⟩
    by_cases e : m = j
    · subst e; exact .inr (ht.symm.trans h2)
    · exact .inl ⟨m, by omega, h2⟩
theorem ReM.step_old {s : List Nd} {i : Nat} {V A S : List Nat} {x j t : Nat} {bk : Bool} (h : ReM s i V x j A S bk) (ht : ((nd s x).kids.getD j kd0).node = t) (hm : t ∈ S) :
    ReM s i V x (j + 1) A S (bk || decide ((t : Int) = i)) where
  mem := h.mem
  rch := h.rch
  sin := h.sin
  snd := h.snd
  slt := h.slt
  cnt := h.cnt
  cl := h.cl
  cl2 := fun m hm' => by
    by_cases e : m = j
    · subst e; rw [ht]; exact hm
    · exact h.cl2 m (by omega)
  back := back_step (f := fun m => ((nd s x).kids.getD m kd0).node) h.back ht
theorem ReM.step_new {s : List Nd} {i : Nat} {V A S : List Nat} {x j t : Nat} {bk : Bool} (h : ReM s i V x j A S bk) (ht : ((nd s x).kids.getD j kd0).node = t) (hj : j < (nd s x).kids.length) (ho : (nd s x).opn) (htl : t < s.length) (hm : t ∉ S) :
    ReM s i V x (j + 1) (A ++ [t]) (S ++ [t]) (bk || decide ((t : Int) = i)) := by
  have hk : (nd s x).kids.getD j kd0 ∈ (nd s x).kids := by
    rw [List.getD_eq_getElem?_getD, List.getElem?_eq_getElem hj]; exact List.getElem_mem hj
  have hx : Rch s i x := h.rch x (by simp)
  have ht' : ((nd s x).kids.getD j kd0).node.toNat = t := by rw [ht]; rfl
  exact {
    mem := by have := h.mem; simp at this ⊢; rcases this with q | q | q <;> simp [q]
    rch := fun y hy => by
      rw [← List.cons_append, ← List.append_assoc] at hy
      rcases List.mem_append.1 hy with hy | hy
      · exact h.rch y hy
      · simp at hy; subst hy; rw [← ht']; exact .step hx ho hk
    sin := fun y hy => by
      rcases List.mem_append.1 hy with hy | hy
      · have := h.sin y hy; simp at this ⊢; rcases this with q | q | q <;> simp [q]
      · simp at hy; subst hy; simp
    snd := by rw [List.nodup_append]; exact ⟨h.snd, by simp, fun a ha b hb => by simp at hb; subst hb; intro e; subst e; exact hm ha⟩
    slt := fun y hy => by
      rcases List.mem_append.1 hy with hy | hy
      · exact h.slt y hy
      · simp at hy; subst hy; exact htl
    cnt := by have := h.cnt; simp; omega
    cl := fun y hy hyo k hk => List.mem_append_left _ (h.cl y hy hyo k hk)
    cl2 := fun m hm' => by
      by_cases e : m = j
      · subst e; rw [ht']; simp
      · exact List.mem_append_left _ (h.cl2 m (by omega))
    back := back_step (f := fun m => ((nd s x).kids.getD m kd0).node) h.back ht }
theorem ReM.finish {s : List Nd} {i : Nat} {V A S : List Nat} {x : Nat} {bk : Bool} (h : ReM s i V x (nd s x).kids.length A S bk) (ho : (nd s x).opn) : Re s i (V ++ [x]) A S bk := by
  have hget : ∀ k ∈ (nd s x).kids, ∃ m, m < (nd s x).kids.length ∧ (nd s x).kids.getD m kd0 = k := fun k hk => by
    obtain ⟨m, hm, e⟩ := List.getElem_of_mem hk
    exact ⟨m, hm, by rw [List.getD_eq_getElem?_getD, List.getElem?_eq_getElem hm]; exact e⟩
  exact {
    mem := mem_mid.1 h.mem
    rch := fun y hy => h.rch y (mem_mid.2 hy)
    sin := fun y hy => mem_mid.1 (h.sin y hy)
    snd := h.snd
    slt := h.slt
    cnt := by have := h.cnt; simp; omega
    cl := fun y hy hyo k hk => by
      rcases List.mem_append.1 hy with hy | hy
      · exact h.cl y hy hyo k hk
      · simp at hy; subst hy
        obtain ⟨m, hm, e⟩ := hget k hk
        rw [← e]; exact h.cl2 m hm
    back := by
      rw [h.back]
      constructor
      · rintro (⟨y, hy, hr⟩ | ⟨m, hm, e⟩)
        · exact ⟨y, by simp [hy], hr⟩
        · exact ⟨x, by simp, ho, _, by rw [List.getD_eq_getElem?_getD, List.getElem?_eq_getElem hm]; exact List.getElem_mem hm, e⟩
      · rintro ⟨y, hy, hyo, k, hk, e⟩
        rcases List.mem_append.1 hy with hy | hy
        · exact .inl ⟨y, hy, hyo, k, hk, e⟩
        · simp at hy; subst hy
          obtain ⟨m, hm, e'⟩ := hget k hk
          exact .inr ⟨m, hm, by rw [e']; exact e⟩ }
theorem Re.reached {s : List Nd} {i : Nat} {V S : List Nat} {bk : Bool} (h : Re s i V [] S bk) {j : Nat} (hj : Rch s i j) : j ∈ V := by
  exact Rch.ind (P := fun j => j ∈ V) (by simpa using h.mem) (fun _ _ _ ho hk ih => by simpa using h.sin _ (h.cl _ ih ho _ hk)) hj
theorem Re.leaves {s : List Nd} {i : Nat} {V S : List Nat} {bk : Bool} (h : Re s i V [] S bk) (j : Nat) : j ∈ outs s V ↔ Leaf s i j := by
  unfold outs Leaf
  rw [List.mem_filter]
  simp only [Bool.not_eq_true', ← Bool.not_eq_true, Nd.opnB_iff]
  exact and_congr ⟨fun hm => h.rch j (by simp [hm]), fun hr => h.reached hr⟩ Iff.rfl
theorem Re.backs {s : List Nd} {i : Nat} {V S : List Nat} {bk : Bool} (h : Re s i V [] S bk) : bk = true ↔ Back s i := by
  rw [h.back]
  unfold Back
  constructor
  · rintro ⟨x, hx, ho, k, hk, e⟩; exact ⟨x, h.rch x (by simp [hx]), ho, k, hk, e⟩
  · rintro ⟨x, hx, ho, k, hk, e⟩; exact ⟨x, h.reached hx, ho, k, hk, e⟩
end Go.Proofs.YtjceeljaljdmoaaGreatDoor
