/-
  hallmarkref.open: what it answers.
-/
import Derived.Test.YtjceeljaljdmoaaGreatDoorSw
namespace Go.Proofs.YtjceeljaljdmoaaGreatDoor
open Go.RowKit
set_option maxHeartbeats 1000000 in
set_option maxRecDepth 100000 in
theorem open_any (n : Nd) (ka : Option Addr) (kc : Nat) (w : World) :
    Calls Tryz.prog 46 #[nodeV n ka kc] w fun e w' => RetO n.opn w e w' := by
  unfold nodeV
  by_cases h1 : n.kind = 13
  · have h1' : (n.kind == 13) = true := by simp [h1]
    by_cases h2 : n.tag < 0
    · have HP : Hid n.opn := ⟨h1, h2⟩
      clear h1
      go_enter Tryz.func46, Tryz.ntmps46
      go_wp2
      go_ret
      exact reto_yes HP.out ((Below.refl _ _).alloc (Nat.le_refl _) _)
    · have HP : Hid (¬ n.opn) := fun h => h2 h.2
      have h2' : 0 ≤ n.tag := by omega
      clear h1
      go_enter Tryz.func46, Tryz.ntmps46
      go_wp2
      go_ret
      exact reto_no HP.out ((Below.refl _ _).alloc (Nat.le_refl _) _)
  · have h1' : (n.kind == 13) = false := by simp [h1]
    have HP : Hid (¬ n.opn) := fun h => h1 h.1
    clear h1
    go_enter Tryz.func46, Tryz.ntmps46
    go_wp2
    go_ret
    exact reto_no HP.out ((Below.refl _ _).alloc (Nat.le_refl _) _)

theorem RetO.yes {P : Prop} {w w' : World} {e : Ending} (h : RetO P w e w') (p : P) : e = .returned (.bool true) ∧ Below w.heap.size w w' := by
  obtain ⟨r, rfl, hr, hb⟩ := h; rw [hr.2 p]; exact ⟨rfl, hb⟩
theorem RetO.no {P : Prop} {w w' : World} {e : Ending} (h : RetO P w e w') (p : ¬ P) : e = .returned (.bool false) ∧ Below w.heap.size w w' := by
  obtain ⟨r, rfl, hr, hb⟩ := h
  cases r
  · exact ⟨rfl, hb⟩
  · exact absurd (hr.1 rfl) p
theorem open_yes (n : Nd) (ka : Option Addr) (kc : Nat) (w : World) (h : n.opn) :
    Calls Tryz.prog 46 #[.agg #[.int .i64 n.kind, .int .i64 n.tag, .int .i64 n.mode, .slice ka n.kids.length kc]] w fun e w' => e = .returned (.bool true) ∧ Below w.heap.size w w' :=
  (open_any n ka kc w).mono fun _ _ q => q.yes h
theorem open_no (n : Nd) (ka : Option Addr) (kc : Nat) (w : World) (h : ¬ n.opn) :
    Calls Tryz.prog 46 #[.agg #[.int .i64 n.kind, .int .i64 n.tag, .int .i64 n.mode, .slice ka n.kids.length kc]] w fun e w' => e = .returned (.bool false) ∧ Below w.heap.size w w' :=
  (open_any n ka kc w).mono fun _ _ q => q.no h

/-- A kid that must be told. -/
def Kd.must (k : Kd) : Prop := k.opt = false ∧ k.dflt.size = 0
set_option maxHeartbeats 1000000 in
set_option maxRecDepth 100000 in
theorem must_any (k : Kd) (w : World) :
    Calls Tryz.prog 45 #[kidV k] w fun e w' => RetO k.must w e w' := by
  unfold kidV
  cases h : k.opt with
  | true =>
    have HP : Hid (¬ k.must) := fun q => by have := q.1; rw [h] at this; cases this
    clear h
    go_enter Tryz.func45, Tryz.ntmps45
    go_wp2
    go_ret
    exact reto_no HP.out ((Below.refl _ _).alloc (Nat.le_refl _) _)
  | false =>
    have HO : Hid (k.opt = false) := h
    clear h
    by_cases h2 : k.dflt.size = 0
    · have e := emp_t h2
      have HP : Hid k.must := ⟨HO.out, h2⟩
      clear h2
      go_enter Tryz.func45, Tryz.ntmps45
      go_wp2
      go_ret
      exact reto_yes HP.out ((Below.refl _ _).alloc (Nat.le_refl _) _)
    · have e := emp_f (t := k.dflt) (by omega)
      have HP : Hid (¬ k.must) := fun q => h2 q.2
      clear h2
      go_enter Tryz.func45, Tryz.ntmps45
      go_wp2
      go_ret
      exact reto_no HP.out ((Below.refl _ _).alloc (Nat.le_refl _) _)
end Go.Proofs.YtjceeljaljdmoaaGreatDoor
