/-
  schemas.isOpen, mayLack, isTagged, kidBounds: what they answer.
-/
import Derived.Test.YtjceeljaljdmoaaGreatDoorSo
namespace Go.Proofs.YtjceeljaljdmoaaGreatDoor
open Go.RowKit

/-- A Choice without a Tag, as the program asks. -/
def Nd.opn1 (n : Nd) : Prop := n.kind = 13 ∧ n.tag = -1
/-- A node's Tag and Mode. -/
def Tagged (n : Nd) : Prop := -1 ≤ n.tag ∧ n.tag ≤ 30 ∧ (n.tag = -1 → n.mode = 0) ∧ (0 ≤ n.tag → (n.kind = 13 ∨ n.kind = 14) → n.mode = 1) ∧ (0 ≤ n.tag → n.kind ≠ 13 → n.kind ≠ 14 → n.mode = 0 ∨ n.mode = 1)
set_option maxHeartbeats 1000000 in
set_option maxRecDepth 100000 in
theorem isOpen_any (n : Nd) (ka : Option Addr) (kc : Nat) (w : World) :
    Calls Tryz.prog 98 #[.agg #[.int .i64 n.kind, .int .i64 n.tag, .int .i64 n.mode, .slice ka n.kids.length kc]] w fun e w' => RetO n.opn1 w e w' := by
  by_cases h1 : n.kind = 13
  · have h1' : (n.kind == 13) = true := by simp [h1]
    by_cases h2 : n.tag = -1
    · have HP : Hid n.opn1 := ⟨h1, h2⟩
      have h2' : (n.tag == -1) = true := by simp [h2]
      clear h1 h2
      go_enter Tryz.func98, Tryz.ntmps98
      go_wp2
      go_ret
      exact reto_yes HP.out ((Below.refl _ _).alloc (Nat.le_refl _) _)
    · have HP : Hid (¬ n.opn1) := fun h => h2 h.2
      have h2' : (n.tag == -1) = false := by simp [h2]
      clear h1 h2
      go_enter Tryz.func98, Tryz.ntmps98
      go_wp2
      go_ret
      exact reto_no HP.out ((Below.refl _ _).alloc (Nat.le_refl _) _)
  · have h1' : (n.kind == 13) = false := by simp [h1]
    have HP : Hid (¬ n.opn1) := fun h => h1 h.1
    clear h1
    go_enter Tryz.func98, Tryz.ntmps98
    go_wp2
    go_ret
    exact reto_no HP.out ((Below.refl _ _).alloc (Nat.le_refl _) _)
set_option maxHeartbeats 1000000 in
set_option maxRecDepth 100000 in
theorem mayLack_any (k : Kd) (w : World) :
    Calls Tryz.prog 65 #[.agg #[.int .i64 k.node, .bool k.opt, .string k.dflt]] w fun e w' => RetO (¬ k.must) w e w' := by
  cases h : k.opt with
  | true =>
    have HP : Hid (¬ k.must) := fun q => by have := q.1; rw [h] at this; cases this
    clear h
    go_enter Tryz.func65, Tryz.ntmps65
    go_wp2
    go_ret
    exact reto_yes HP.out ((Below.refl _ _).alloc (Nat.le_refl _) _)
  | false =>
    have HO : Hid (k.opt = false) := h
    clear h
    by_cases h2 : k.dflt.size = 0
    · have e := emp_t h2
      have HP : Hid (¬ ¬ k.must) := fun q => q ⟨HO.out, h2⟩
      clear h2
      go_enter Tryz.func65, Tryz.ntmps65
      go_wp2
      go_ret
      exact reto_no HP.out ((Below.refl _ _).alloc (Nat.le_refl _) _)
    · have e := emp_f (t := k.dflt) (by omega)
      have HP : Hid (¬ k.must) := fun q => h2 q.2
      clear h2
      go_enter Tryz.func65, Tryz.ntmps65
      go_wp2
      go_ret
      exact reto_yes HP.out ((Below.refl _ _).alloc (Nat.le_refl _) _)
set_option maxHeartbeats 2000000 in
set_option maxRecDepth 100000 in
theorem isTagged_any (n : Nd) (ka : Option Addr) (kc : Nat) (w : World) :
    Calls Tryz.prog 63 #[.agg #[.int .i64 n.kind, .int .i64 n.tag, .int .i64 n.mode, .slice ka n.kids.length kc]] w fun e w' => RetO (Tagged n) w e w' := by
  by_cases h1 : n.tag < -1
  · have HP : Hid (¬ Tagged n) := by show ¬ Tagged n; unfold Tagged; omega
    go_enter Tryz.func63, Tryz.ntmps63
    go_wp2
    go_ret
    exact reto_no HP.out ((Below.refl _ _).alloc (Nat.le_refl _) _)
  have h1' : -1 ≤ n.tag := by omega
  clear h1
  by_cases h2 : 30 < n.tag
  · have HP : Hid (¬ Tagged n) := by show ¬ Tagged n; unfold Tagged; omega
    go_enter Tryz.func63, Tryz.ntmps63
    go_wp2
    go_ret
    exact reto_no HP.out ((Below.refl _ _).alloc (Nat.le_refl _) _)
  have h2' : n.tag ≤ 30 := by omega
  clear h2
  by_cases h3 : n.tag = -1
  · have e3 : (n.tag == -1) = true := by simp [h3]
    by_cases h4 : n.mode = 0
    · have e4 : (n.mode == 0) = true := by simp [h4]
      have HP : Hid (Tagged n) := by show Tagged n; unfold Tagged; omega
      clear h3 h4 h1' h2'
      have h1' : -1 ≤ n.tag := by have := HP.out.1; omega
      have h2' : n.tag ≤ 30 := by have := HP.out.2.1; omega
      go_enter Tryz.func63, Tryz.ntmps63
      go_wp2
      go_ret
      exact reto_yes HP.out ((Below.refl _ _).alloc (Nat.le_refl _) _)
    · have e4 : (n.mode == 0) = false := by simp [h4]
      have HP : Hid (¬ Tagged n) := by show ¬ Tagged n; unfold Tagged; omega
      clear h3 h4
      go_enter Tryz.func63, Tryz.ntmps63
      go_wp2
      go_ret
      exact reto_no HP.out ((Below.refl _ _).alloc (Nat.le_refl _) _)
  have e3 : (n.tag == -1) = false := by simp [h3]
  have h3' : 0 ≤ n.tag := by omega
  clear h3
  have hk : (n.kind = 13 ∧ (n.kind == 13) = true) ∨ (n.kind = 14 ∧ (n.kind == 13) = false ∧ (n.kind == 14) = true) ∨ (n.kind ≠ 13 ∧ n.kind ≠ 14 ∧ (n.kind == 13) = false ∧ (n.kind == 14) = false) := by
    by_cases a : n.kind = 13
    · exact .inl ⟨a, by simp [a]⟩
    · by_cases b : n.kind = 14
      · exact .inr (.inl ⟨b, by simp [b], by simp [b]⟩)
      · exact .inr (.inr ⟨a, b, by simp [a], by simp [b]⟩)
  have hm : (n.mode = 0 ∧ (n.mode == 0) = true ∧ (n.mode == 1) = false) ∨ (n.mode = 1 ∧ (n.mode == 0) = false ∧ (n.mode == 1) = true) ∨ (n.mode ≠ 0 ∧ n.mode ≠ 1 ∧ (n.mode == 0) = false ∧ (n.mode == 1) = false) := by
    by_cases a : n.mode = 0
    · exact .inl ⟨a, by simp [a], by simp [a]⟩
    · by_cases b : n.mode = 1
      · exact .inr (.inl ⟨b, by simp [b], by simp [b]⟩)
      · exact .inr (.inr ⟨a, b, by simp [a], by simp [b]⟩)
  rcases hk with ⟨k0, k1⟩ | ⟨k0, k1, k2⟩ | ⟨k0, k3, k1, k2⟩
  · rcases hm with ⟨m0, m1, m2⟩ | ⟨m0, m1, m2⟩ | ⟨m0, m3, m1, m2⟩
    · have HP : Hid (¬ Tagged n) := by show ¬ Tagged n; unfold Tagged; omega
      clear k0 m0
      go_enter Tryz.func63, Tryz.ntmps63
      go_wp2
      go_ret
      exact reto_no HP.out ((Below.refl _ _).alloc (Nat.le_refl _) _)
    · have HP : Hid (Tagged n) := by show Tagged n; unfold Tagged; omega
      clear k0 m0
      go_enter Tryz.func63, Tryz.ntmps63
      go_wp2
      go_ret
      exact reto_yes HP.out ((Below.refl _ _).alloc (Nat.le_refl _) _)
    · have HP : Hid (¬ Tagged n) := by show ¬ Tagged n; unfold Tagged; omega
      clear k0 m0 m3
      go_enter Tryz.func63, Tryz.ntmps63
      go_wp2
      go_ret
      exact reto_no HP.out ((Below.refl _ _).alloc (Nat.le_refl _) _)
  · rcases hm with ⟨m0, m1, m2⟩ | ⟨m0, m1, m2⟩ | ⟨m0, m3, m1, m2⟩
    · have HP : Hid (¬ Tagged n) := by show ¬ Tagged n; unfold Tagged; omega
      clear k0 m0
      go_enter Tryz.func63, Tryz.ntmps63
      go_wp2
      go_ret
      exact reto_no HP.out ((Below.refl _ _).alloc (Nat.le_refl _) _)
    · have HP : Hid (Tagged n) := by show Tagged n; unfold Tagged; omega
      clear k0 m0
      go_enter Tryz.func63, Tryz.ntmps63
      go_wp2
      go_ret
      exact reto_yes HP.out ((Below.refl _ _).alloc (Nat.le_refl _) _)
    · have HP : Hid (¬ Tagged n) := by show ¬ Tagged n; unfold Tagged; omega
      clear k0 m0 m3
      go_enter Tryz.func63, Tryz.ntmps63
      go_wp2
      go_ret
      exact reto_no HP.out ((Below.refl _ _).alloc (Nat.le_refl _) _)
  · rcases hm with ⟨m0, m1, m2⟩ | ⟨m0, m1, m2⟩ | ⟨m0, m3, m1, m2⟩
    · have HP : Hid (Tagged n) := by show Tagged n; unfold Tagged; omega
      clear k0 m0 k3
      go_enter Tryz.func63, Tryz.ntmps63
      go_wp2
      go_ret
      exact reto_yes HP.out ((Below.refl _ _).alloc (Nat.le_refl _) _)
    · have HP : Hid (Tagged n) := by show Tagged n; unfold Tagged; omega
      clear k0 m0 k3
      go_enter Tryz.func63, Tryz.ntmps63
      go_wp2
      go_ret
      exact reto_yes HP.out ((Below.refl _ _).alloc (Nat.le_refl _) _)
    · have HP : Hid (¬ Tagged n) := by show ¬ Tagged n; unfold Tagged; omega
      clear k0 m0 k3 m3
      go_enter Tryz.func63, Tryz.ntmps63
      go_wp2
      go_ret
      exact reto_no HP.out ((Below.refl _ _).alloc (Nat.le_refl _) _)
/-- The least and the most kids of a kind. -/
def bnd (k : Int) : Int × Int := if k = 10 then (0, 8) else if k = 11 ∨ k = 12 then (1, 1) else if k = 13 then (1, 8) else (0, 0)
set_option maxHeartbeats 1000000 in
set_option maxRecDepth 100000 in
theorem kidBounds_any (k : Int) (w : World) :
    Calls Tryz.prog 64 #[.int .i64 k] w fun e w' => e = .returned (.tuple #[.int .i64 (bnd k).1, .int .i64 (bnd k).2]) ∧ Below w.heap.size w w' := by
  by_cases h10 : k = 10
  · subst h10
    have e : bnd 10 = (0, 8) := by unfold bnd; rfl
    rw [e]
    clear e
    go_enter Tryz.func64, Tryz.ntmps64
    go_wp2
    go_ret2
    exact ⟨rfl, Below.refl _ _⟩
  have e10 : (k == 10) = false := by simp [h10]
  by_cases h11 : k = 11
  · subst h11
    have e : bnd 11 = (1, 1) := by unfold bnd; rfl
    rw [e]
    clear e
    go_enter Tryz.func64, Tryz.ntmps64
    go_wp2
    go_ret2
    exact ⟨rfl, Below.refl _ _⟩
  have e11 : (k == 11) = false := by simp [h11]
  by_cases h12 : k = 12
  · subst h12
    have e : bnd 12 = (1, 1) := by unfold bnd; rfl
    rw [e]
    clear e
    go_enter Tryz.func64, Tryz.ntmps64
    go_wp2
    go_ret2
    exact ⟨rfl, Below.refl _ _⟩
  have e12 : (k == 12) = false := by simp [h12]
  by_cases h13 : k = 13
  · subst h13
    have e : bnd 13 = (1, 8) := by unfold bnd; rfl
    rw [e]
    clear e
    go_enter Tryz.func64, Tryz.ntmps64
    go_wp2
    go_ret2
    exact ⟨rfl, Below.refl _ _⟩
  have e13 : (k == 13) = false := by simp [h13]
  have e : bnd k = (0, 0) := by unfold bnd; rw [if_neg h10, if_neg (by omega), if_neg h13]
  rw [e]
  clear e h10 h11 h12 h13
  go_enter Tryz.func64, Tryz.ntmps64
  go_wp2
  go_ret2
  exact ⟨rfl, Below.refl _ _⟩
end Go.Proofs.YtjceeljaljdmoaaGreatDoor
