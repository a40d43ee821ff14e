/-
  hallmarklaw.alike: of two schemas that are the same, wherever they lie, it answers true.
-/
import Derived.Test.YtjceeljaljdmoaaGreatDoorSw
namespace Go.Proofs.YtjceeljaljdmoaaGreatDoor
open Go.RowKit
set_option maxHeartbeats 2000000 in
set_option maxRecDepth 100000 in
theorem alike_any (s : List Nd) (a1 a2 : Option Addr) (c1 c2 : Nat) (w : World) (h1 : Sch w a1 s) (h2 : Sch w a2 s) (hn : s.length ≤ 140737488351232) :
    Calls Tryz.prog 12 #[.slice a1 s.length c1, .slice a2 s.length c2] w fun e w' => RetO True w e w' := by
  have H1 : Hid (Sch w a1 s) := h1
  have H2 : Hid (Sch w a2 s) := h2
  clear h1 h2
  go_enter Tryz.func12, Tryz.ntmps12
  go_wp2
  go_loopw [5] (fun i wr => ∃ k : Nat, k ≤ s.length ∧ i = .int .i64 k ∧ ∃ q, wr = w.drewN q) (fun i _ => s.length - (intOf i).toNat)
  case atStart => exact ⟨0, Nat.zero_le _, rfl, 0, rfl⟩
  case round =>
    obtain ⟨k, hk, rfl, q, rfl⟩ := hrel
    by_cases hlt : k < s.length
    · obtain ⟨b1, o1, ka1, kc1, e1, n1, m1, M1, k1⟩ := H1.out k hlt
      obtain ⟨b2, o2, ka2, kc2, e2, n2, m2, M2, k2⟩ := H2.out k hlt
      subst e1 e2
      have hlt' : (k : Int) < s.length := by omega
      have hlt'' : decide ((k : Int) < s.length) = true := by simpa using hlt
      obtain ⟨x1, x2, x3, x4⟩ := n1
      obtain ⟨y1, y2, y3, y4⟩ := n2
      have K1 : Hid (KidsIn w ka1 (nd s k).kids) := k1
      have K2 : Hid (KidsIn w ka2 (nd s k).kids) := k2
      clear k1 k2
      go_wp2
      go_quiet (fail)
      go_wp2
      go_loopw [6] (fun i wr => ∃ m : Nat, m ≤ (nd s k).kids.length ∧ i = .int .i64 m ∧ ∃ q, wr = w.drewN q) (fun i _ => (nd s k).kids.length - (intOf i).toNat)
      case atStart => exact ⟨0, Nat.zero_le _, rfl, q + nq, by rw [World.drewN_drewN]⟩
      case round =>
        obtain ⟨m, hm, rfl, q', rfl⟩ := hrel
        have hml : (nd s k).kids.length ≤ 9223372036854775807 := by unfold maxLen at M1; omega
        by_cases hl2 : m < (nd s k).kids.length
        · obtain ⟨d1, p1, f1, r1⟩ := K1.out m hl2
          obtain ⟨d2, p2, f2, r2⟩ := K2.out m hl2
          subst f1 f2
          obtain ⟨i1, i2, i3⟩ := r1
          obtain ⟨j1, j2, j3⟩ := r2
          generalize (nd s k).kids.getD m kd0 = kd at i1 i2 i3 j1 j2 j3
          have hl2' : (m : Int) < (nd s k).kids.length := by omega
          go_wp2
          go_quiet (fail)
          go_wp2
          go_roundw
          case rel => exact ⟨m + 1, by omega, by go_num, _, rfl⟩
          case measure => simp [intOf]; omega
        · have hl2' : ((nd s k).kids.length : Int) ≤ m := by omega
          go_wp2
          go_roundw
          case rel => exact ⟨k + 1, by omega, by go_num, _, rfl⟩
          case measure => simp [intOf]; omega
    · have hlt' : (s.length : Int) ≤ k := by omega
      go_wp2
      go_ret
      exact reto_yes trivial (below_drewN (Below.refl _ _) _)
end Go.Proofs.YtjceeljaljdmoaaGreatDoor
