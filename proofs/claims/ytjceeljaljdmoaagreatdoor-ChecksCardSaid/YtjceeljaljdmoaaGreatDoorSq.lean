/-
  hallmarkref.Own: the number of a kind's own tag.
-/
import Derived.Test.YtjceeljaljdmoaaGreatDoorSw
namespace Go.Proofs.YtjceeljaljdmoaaGreatDoor
open Go.RowKit

set_option maxHeartbeats 1000000 in
set_option maxRecDepth 100000 in
theorem own_any (k : Int) (h : 0 ≤ k) (h' : k ≤ 12) (w : World) :
    Calls Tryz.prog 101 #[.int .i64 k] w fun e w' => e = .returned (.int .i64 (own k)) ∧ Below w.heap.size w w' := by
  obtain ⟨n, rfl⟩ : ∃ n : Nat, k = n := ⟨k.toNat, by omega⟩
  have hn : n ≤ 12 := by omega
  clear h h'
  match n, hn with
  | 0, _ | 1, _ | 2, _ | 3, _ | 4, _ | 5, _ | 6, _ | 7, _ | 8, _ | 9, _ | 10, _ | 11, _ | 12, _ =>
    go_enter Tryz.func101, Tryz.ntmps101
    go_wp2
    go_ret
    exact ⟨rfl, (Below.refl _ _).alloc (Nat.le_refl _) _⟩
end Go.Proofs.YtjceeljaljdmoaaGreatDoor
