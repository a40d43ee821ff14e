/-
  Schemas as plain data: what can be reached by Choices without a Tag, beginnings, and that the program's test of two beginnings is the document's. No walk in it.
-/
import Derived.Test.YtjceeljaljdmoaaGreatDoorRows
import Derived.WalkKit
namespace Go.Proofs.YtjceeljaljdmoaaGreatDoor

/-- A kid. -/
structure Kd where
  node : Int
  opt : Bool
  dflt : ByteArray
/-- A node. -/
structure Nd where
  kind : Int
  tag : Int
  mode : Int
  kids : List Kd
/-- A node and a kid for places that hold none. -/
def nd0 : Nd := ⟨0, 0, 0, []⟩
def kd0 : Kd := ⟨0, false, ⟨#[]⟩⟩
/-- The node at a place. -/
def nd (s : List Nd) (i : Nat) : Nd := s.getD i nd0
/-- A Choice without a Tag. -/
def Nd.opn (n : Nd) : Prop := n.kind = 13 ∧ n.tag < 0
/-- The same, as a Bool. -/
def Nd.opnB (n : Nd) : Bool := decide (n.kind = 13) && decide (n.tag < 0)
theorem Nd.opnB_iff (n : Nd) : n.opnB = true ↔ n.opn := by simp [Nd.opnB, Nd.opn]
theorem Nd.opnB_yes {n : Nd} (h : n.opn) : n.opnB = true := n.opnB_iff.2 h
theorem Nd.opnB_no {n : Nd} (h : ¬ n.opn) : n.opnB = false := Bool.eq_false_iff.2 fun q => h (n.opnB_iff.1 q)

/-- What one comes to from a node by Choices without a Tag. -/
def Rch (s : List Nd) (i j : Nat) : Prop := ∀ P : Nat → Prop, P i → (∀ (m : Nat) (k : Kd), P m → (nd s m).opn → k ∈ (nd s m).kids → P k.node.toNat) → P j
theorem Rch.refl {s : List Nd} {i : Nat} : Rch s i i := fun _ h _ => h
theorem Rch.step {s : List Nd} {i j : Nat} {k : Kd} (h : Rch s i j) (ho : (nd s j).opn) (hk : k ∈ (nd s j).kids) : Rch s i k.node.toNat := fun P h0 hs => hs j k (h P h0 hs) ho hk
theorem Rch.ind {s : List Nd} {i : Nat} {P : Nat → Prop} (h0 : P i) (hs : ∀ (m : Nat) (k : Kd), Rch s i m → (nd s m).opn → k ∈ (nd s m).kids → P m → P k.node.toNat) {j : Nat} (h : Rch s i j) : P j :=
  (h (fun j => Rch s i j ∧ P j) ⟨.refl, h0⟩ fun m k q ho hk => ⟨q.1.step ho hk, hs m k q.1 ho hk q.2⟩).2
/-- One comes back to it. -/
def Back (s : List Nd) (i : Nat) : Prop := ∃ j, Rch s i j ∧ (nd s j).opn ∧ ∃ k ∈ (nd s j).kids, k.node = i
/-- The nodes where that ends. -/
def Leaf (s : List Nd) (i j : Nat) : Prop := Rch s i j ∧ ¬ (nd s j).opn
/-- Kids name nodes of the list. -/
def Within (s : List Nd) : Prop := ∀ i, i < s.length → ∀ k ∈ (nd s i).kids, 0 ≤ k.node ∧ k.node < s.length

theorem Rch.lt {s : List Nd} (hw : Within s) {i j : Nat} (hi : i < s.length) (h : Rch s i j) : j < s.length := by
  refine Rch.ind (P := fun j => j < s.length) hi (fun m k _ _ hk ih => ?_) h
  have := hw _ ih _ hk; omega
theorem Rch.trans {s : List Nd} {i j k : Nat} (h1 : Rch s i j) (h2 : Rch s j k) : Rch s i k := by
  exact Rch.ind (P := fun k => Rch s i k) h1 (fun _ _ _ ho hk ih => ih.step ho hk) h2

theorem nodup_le : ∀ (n : Nat) (l : List Nat), l.Nodup → (∀ x ∈ l, x < n) → l.length ≤ n
  | 0, [], _, _ => Nat.le_refl _
  | 0, x :: _, _, h => absurd (h x (by simp)) (by omega)
  | n + 1, l, hd, h => by
    have h2 := nodup_le n (l.erase n) (hd.erase n) (fun x hx => by
      have h3 := h x (List.mem_of_mem_erase hx)
      have h4 : x ≠ n := fun e => by subst e; exact hd.not_mem_erase hx
      omega)
    have h5 := List.length_erase (a := n) (l := l)
    split at h5 <;> omega

/-- Where no Choice comes back to itself, and each has a kid, one comes to an end. -/
theorem leaf_ex {s : List Nd} (hw : Within s) (hk : ∀ i, i < s.length → (nd s i).opn → (nd s i).kids ≠ []) (hb : ∀ i, i < s.length → ¬ Back s i) {i : Nat} (hi : i < s.length) :
    ∃ j, Leaf s i j := by
  apply Classical.byContradiction
  intro hno
  have ho : ∀ j, Rch s i j → (nd s j).opn := fun j hj => Classical.byContradiction fun h => hno ⟨j, hj, h⟩
  -- longer and longer ways without a node met twice
  have key : ∀ n : Nat, ∃ l : List Nat, l.length = n + 1 ∧ l.Nodup ∧ (∀ x ∈ l, Rch s i x) ∧ (∃ c r, l = c :: r ∧ ∀ x ∈ l, Rch s x c) := by
    intro n
    induction n with
    | zero => exact ⟨[i], rfl, by simp, by simp [Rch.refl], i, [], rfl, by simp [Rch.refl]⟩
    | succ n ih =>
      obtain ⟨l, hl, hd, hr, c, r, hc, hx⟩ := ih
      have hrc : Rch s i c := hr c (by simp [hc])
      have hcl := hrc.lt hw hi
      obtain ⟨k, ks, hks⟩ := List.exists_cons_of_ne_nil (hk c hcl (ho c hrc))
      have hkm : k ∈ (nd s c).kids := by simp [hks]
      have hkr := hw c hcl k hkm
      have hst : ∀ x ∈ l, Rch s x k.node.toNat := fun x h => .step (hx x h) (ho c hrc) hkm
      refine ⟨k.node.toNat :: l, by simp [hl], ?_, ?_, k.node.toNat, l, rfl, ?_⟩
      · rw [List.nodup_cons]
        refine ⟨fun hm => ?_, hd⟩
        have hlt : k.node.toNat < s.length := by omega
        exact hb _ hlt ⟨c, hx _ hm, ho c hrc, k, hkm, by omega⟩
      · intro x h
        rcases List.mem_cons.1 h with rfl | h
        · exact .step hrc (ho c hrc) hkm
        · exact hr x h
      · intro x h
        rcases List.mem_cons.1 h with rfl | h
        · exact .refl
        · exact hst x h
  obtain ⟨l, hl, hd, hr, _⟩ := key s.length
  have := nodup_le s.length l hd (fun x h => (hr x h).lt hw hi)
  omega

/-- The number of a kind's own tag. -/
def own (k : Int) : Int := [0, 1, 2, 5, 6, 3, 4, 12, 19, 24, 16, 16, 17].getD k.toNat 0
/-- May an element of a node (no open Choice) begin so? -/
def begAt (n : Nd) (c m : Int) : Prop := (0 ≤ n.tag ∧ c = 2 ∧ m = n.tag) ∨ (n.tag < 0 ∧ n.kind = 14) ∨ (n.tag < 0 ∧ n.kind ≠ 14 ∧ c = 0 ∧ m = own n.kind)
/-- The document's beginnings. -/
def Beg (s : List Nd) (i : Nat) (c m : Int) : Prop := ∃ j, Leaf s i j ∧ begAt (nd s j) c m
/-- Two nodes have a beginning in common. -/
def Common (s : List Nd) (i k : Nat) : Prop := ∃ c m : Int, 0 ≤ c ∧ c < 4 ∧ 0 ≤ m ∧ m < 31 ∧ Beg s i c m ∧ Beg s k c m
/-- Any without a Tag. -/
def Nd.every (n : Nd) : Prop := n.kind = 14 ∧ n.tag < 0
/-- The same, as a Bool. -/
def Nd.everyB (n : Nd) : Bool := decide (n.kind = 14) && decide (n.tag < 0)
theorem Nd.everyB_iff (n : Nd) : n.everyB = true ↔ n.every := by simp [Nd.everyB, Nd.every]
theorem Nd.everyB_yes {n : Nd} (h : n.every) : n.everyB = true := n.everyB_iff.2 h
theorem Nd.everyB_no {n : Nd} (h : ¬ n.every) : n.everyB = false := Bool.eq_false_iff.2 fun q => h (n.everyB_iff.1 q)
/-- The tag that an element begins with. -/
def Nd.outer (n : Nd) : Int × Int := if 0 ≤ n.tag then (2, n.tag) else (0, own n.kind)
theorem begAt_iff (n : Nd) (c m : Int) : begAt n c m ↔ n.every ∨ (¬ n.every ∧ n.outer = (c, m)) := by
  unfold begAt Nd.every Nd.outer
  by_cases h : 0 ≤ n.tag
  · rw [if_pos h, Prod.mk.injEq]
    constructor
    · rintro (⟨_, a, b⟩ | ⟨a, _⟩ | ⟨a, _⟩)
      · exact .inr ⟨fun q => by omega, a.symm, b.symm⟩
      · omega
      · omega
    · rintro (⟨_, a⟩ | ⟨_, a, b⟩)
      · omega
      · exact .inl ⟨h, a.symm, b.symm⟩
  · rw [if_neg h, Prod.mk.injEq]
    constructor
    · rintro (⟨a, _⟩ | ⟨a, b⟩ | ⟨a, b, e, f⟩)
      · omega
      · exact .inl ⟨b, a⟩
      · exact .inr ⟨fun q => b q.1, e.symm, f.symm⟩
    · rintro (⟨a, b⟩ | ⟨a, b, e⟩)
      · exact .inr (.inl ⟨b, a⟩)
      · exact .inr (.inr ⟨by omega, fun q => a ⟨q, by omega⟩, b.symm, e.symm⟩)
theorem own_range (k : Int) : 0 ≤ own k ∧ own k < 31 := by
  unfold own
  match k.toNat with
  | 0 | 1 | 2 | 3 | 4 | 5 | 6 | 7 | 8 | 9 | 10 | 11 | 12 => decide
  | n + 13 => simp

/-- Two nodes' beginnings as the program holds them: all, or tags. -/
def Meets (s : List Nd) (i k : Nat) : Prop :=
  (∃ j, Leaf s i j ∧ (nd s j).every) ∨ (∃ j, Leaf s k j ∧ (nd s j).every) ∨ ∃ j l, Leaf s i j ∧ ¬ (nd s j).every ∧ Leaf s k l ∧ ¬ (nd s l).every ∧ (nd s j).outer = (nd s l).outer
theorem outer_range {n : Nd} (h : n.tag ≤ 30) : 0 ≤ n.outer.1 ∧ n.outer.1 < 4 ∧ 0 ≤ n.outer.2 ∧ n.outer.2 < 31 := by
  have := own_range n.kind
  unfold Nd.outer
  split <;> simp only <;> omega
theorem common_iff {s : List Nd} (ht : ∀ j, j < s.length → (nd s j).tag ≤ 30) (hw : Within s) {i k : Nat} (hi : i < s.length) (hk : k < s.length)
    (hli : ∃ j, Leaf s i j) (hlk : ∃ j, Leaf s k j) : Common s i k ↔ Meets s i k := by
  constructor
  · rintro ⟨c, m, _, _, _, _, ⟨j, hj, hbj⟩, ⟨l, hl, hbl⟩⟩
    rw [begAt_iff] at hbj hbl
    rcases hbj with e | ⟨e, ej⟩
    · exact .inl ⟨j, hj, e⟩
    rcases hbl with f | ⟨f, fl⟩
    · exact .inr (.inl ⟨l, hl, f⟩)
    · exact .inr (.inr ⟨j, l, hj, e, hl, f, ej.trans fl.symm⟩)
  · have pick : ∀ {a : Nat}, a < s.length → (∃ j, Leaf s a j) → ∀ {b : Nat}, (∃ j, Leaf s b j ∧ (nd s j).every) → ∃ c m : Int, 0 ≤ c ∧ c < 4 ∧ 0 ≤ m ∧ m < 31 ∧ Beg s a c m ∧ Beg s b c m := by
      rintro a ha ⟨l, hl⟩ b ⟨j, hj, e⟩
      have hr := outer_range (ht l (hl.1.lt hw ha))
      refine ⟨(nd s l).outer.1, (nd s l).outer.2, hr.1, hr.2.1, hr.2.2.1, hr.2.2.2, ⟨l, hl, ?_⟩, ⟨j, hj, (begAt_iff _ _ _).2 (.inl e)⟩⟩
      rw [begAt_iff]
      by_cases h : (nd s l).every
      · exact .inl h
      · exact .inr ⟨h, rfl⟩
    rintro (h | h | ⟨j, l, hj, e, hl, f, hjl⟩)
    · obtain ⟨c, m, h1, h2, h3, h4, h5, h6⟩ := pick hk hlk h
      exact ⟨c, m, h1, h2, h3, h4, h6, h5⟩
    · exact pick hi hli h
    · have hr := outer_range (ht j (hj.1.lt hw hi))
      exact ⟨(nd s j).outer.1, (nd s j).outer.2, hr.1, hr.2.1, hr.2.2.1, hr.2.2.2, ⟨j, hj, (begAt_iff _ _ _).2 (.inr ⟨e, rfl⟩)⟩, ⟨l, hl, (begAt_iff _ _ _).2 (.inr ⟨f, hjl.symm⟩)⟩⟩
end Go.Proofs.YtjceeljaljdmoaaGreatDoor
