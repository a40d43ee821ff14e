/-
  The document's reader: Own0, node of the kinds 1 to 9.
-/
import Derived.Test.YtjceeljaljdmoaaGreatDoorRt
import Derived.Test.YtjceeljaljdmoaaGreatDoorRu
import Derived.Test.YtjceeljaljdmoaaGreatDoorSq
import Derived.Deep.RegionWith
namespace Go.Proofs.YtjceeljaljdmoaaGreatDoor
open Go.RowKit

theorem hd_ok {r : ByteArray} (h : (hd r).1 = 0) : 1 ≤ (hd r).2.s ∧ 0 ≤ (hd r).2.l ∧ (hd r).2.s + (hd r).2.l ≤ r.size := by
  have hr := rl_bd (r.extract 1 r.size)
  unfold hd at h ⊢
  repeat' split at h
  all_goals first | (exfalso; simp at h; done) | skip
  · rename_i h1; exfalso; exact h1 h
  · rename_i h1 h2 h3 h4
    rw [if_neg h1, if_neg h2, if_neg h3, if_neg h4]
    simp only
    omega

set_option maxHeartbeats 1000000 in
set_option maxRecDepth 100000 in
theorem own0_any (k : Int) (h : 0 ≤ k) (h' : k ≤ 12) (w : World) :
    Calls Tryz.prog 74 #[.int .i64 k] w fun e w' => e = .returned (.int .i64 (own k)) ∧ Below w.heap.size w w' := by
  have HO : Hid (∀ w, Calls Tryz.prog 101 #[.int .i64 k] w fun e w' => e = .returned (.int .i64 (own k)) ∧ Below w.heap.size w w') := fun w => own_any k h h' w
  go_enter Tryz.func74, Tryz.ntmps74
  go_wp2_with fail
  refine (HO.out _).mono ?_
  rintro e w1 ⟨rfl, hb⟩
  have HB : Hid (Below w.heap.size w w1) := hb
  clear hb
  go_wp2
  go_ret
  exact ⟨rfl, HB.out⟩

/-- An element of a node (kinds 1 to 9) at a place: where it ends, and its content. -/
def NodeAt (N : Nd) (data : ByteArray) (x y : Nat) (dp : Int) (to : Nat) (u : ByteArray) : Prop :=
  dp ≤ 12 ∧ (hd (data.extract x y)).1 = 0 ∧ (to : Int) = x + (hd (data.extract x y)).2.s + (hd (data.extract x y)).2.l ∧
  ((N.tag < 0 ∧ (hd (data.extract x y)).2.c = 0 ∧ (hd (data.extract x y)).2.n = own N.kind ∧ (hd (data.extract x y)).2.b = false ∧ u = data.extract (x + (hd (data.extract x y)).2.s.toNat) to ∧ ContentOk N.kind u) ∨
   (0 ≤ N.tag ∧ N.mode = 0 ∧ (hd (data.extract x y)).2.c = 2 ∧ (hd (data.extract x y)).2.n = N.tag ∧ (hd (data.extract x y)).2.b = false ∧ u = data.extract (x + (hd (data.extract x y)).2.s.toNat) to ∧ ContentOk N.kind u) ∨
   (0 ≤ N.tag ∧ N.mode ≠ 0 ∧ (hd (data.extract x y)).2.c = 2 ∧ (hd (data.extract x y)).2.n = N.tag ∧ (hd (data.extract x y)).2.b = true ∧
     ∃ t, t = data.extract (x + (hd (data.extract x y)).2.s.toNat) to ∧ (hd t).1 = 0 ∧ (hd t).2.c = 0 ∧ (hd t).2.n = own N.kind ∧ (hd t).2.b = false ∧ (x : Int) + (hd (data.extract x y)).2.s + (hd t).2.s + (hd t).2.l = to ∧
       u = data.extract (x + (hd (data.extract x y)).2.s.toNat + (hd t).2.s.toNat) to ∧ ContentOk N.kind u))
/-- What node leaves: kinds 1 to 9. -/
def RetN (W : World) (R : Nat) (a : Option Addr) (n c : Nat) (data : ByteArray) (N : Nd) (x y : Nat) (dp : Int) (tree : List Vl) (e : Ending) (w' : World) : Prop :=
  ∃ (v : Int) (tree' : List Vl) (e' p' : Int), e = .returned (.int .i64 v) ∧ RdI W w' R a n c data tree' e' p' ∧
    ((e' = 0 ∧ ∃ to u, v = (to : Nat) ∧ NodeAt N data x y dp to u ∧ tree' = tree ++ [⟨N.kind, u, 0, 0⟩]) ∨ (e' ≠ 0 ∧ ∀ to u, ¬ NodeAt N data x y dp to u))
end Go.Proofs.YtjceeljaljdmoaaGreatDoor
