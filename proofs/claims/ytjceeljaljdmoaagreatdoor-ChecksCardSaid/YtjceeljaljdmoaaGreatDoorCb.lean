/-
  Contents: Bits: what the program's and the document's functions answer.
-/
import Derived.Test.YtjceeljaljdmoaaGreatDoorCt
namespace Go.Proofs.YtjceeljaljdmoaaGreatDoor
open Go.RowKit

/-- The library's table of trailing zeros. -/
def tzTab : ByteArray := ⟨#[8, 0, 1, 0, 2, 0, 1, 0, 3, 0, 1, 0, 2, 0, 1, 0, 4, 0, 1, 0, 2, 0, 1, 0, 3, 0, 1, 0, 2, 0, 1, 0, 5, 0, 1, 0, 2, 0, 1, 0, 3, 0, 1, 0, 2, 0, 1, 0, 4, 0, 1, 0, 2, 0, 1, 0, 3, 0, 1, 0, 2, 0, 1, 0, 6, 0, 1, 0, 2, 0, 1, 0, 3, 0, 1, 0, 2, 0, 1, 0, 4, 0, 1, 0, 2, 0, 1, 0, 3, 0, 1, 0, 2, 0, 1, 0, 5, 0, 1, 0, 2, 0, 1, 0, 3, 0, 1, 0, 2, 0, 1, 0, 4, 0, 1, 0, 2, 0, 1, 0, 3, 0, 1, 0, 2, 0, 1, 0, 7, 0, 1, 0, 2, 0, 1, 0, 3, 0, 1, 0, 2, 0, 1, 0, 4, 0, 1, 0, 2, 0, 1, 0, 3, 0, 1, 0, 2, 0, 1, 0, 5, 0, 1, 0, 2, 0, 1, 0, 3, 0, 1, 0, 2, 0, 1, 0, 4, 0, 1, 0, 2, 0, 1, 0, 3, 0, 1, 0, 2, 0, 1, 0, 6, 0, 1, 0, 2, 0, 1, 0, 3, 0, 1, 0, 2, 0, 1, 0, 4, 0, 1, 0, 2, 0, 1, 0, 3, 0, 1, 0, 2, 0, 1, 0, 5, 0, 1, 0, 2, 0, 1, 0, 3, 0, 1, 0, 2, 0, 1, 0, 4, 0, 1, 0, 2, 0, 1, 0, 3, 0, 1, 0, 2, 0, 1, 0]⟩
theorem tzTab_size : tzTab.size = 256 := by decide +kernel
theorem tzTab_get : ∀ j : Fin 256, (tzTab[j.val]'(by rw [tzTab_size]; exact j.isLt)).toNat = tz8 j.val := by decide +kernel
theorem tz8_le : ∀ j : Fin 256, tz8 j.val ≤ 8 := by decide +kernel
theorem ret_i64 {a b : Int} (h : a = b) : Ending.returned (.int .i64 a) = .returned (.int .i64 b) := by rw [h]

set_option maxHeartbeats 1000000 in
set_option maxRecDepth 100000 in
theorem tz8_any (x : Nat) (w : World) (hx : x < 256) :
    Calls Tryz.prog 153 #[.int .u8 x] w fun e w' => e = .returned (.int .i64 (tz8 x)) ∧ w' = w := by
  have HT : Hid (wrap64 ((tzTab[x]'(by rw [tzTab_size]; exact hx)).toNat : Int) = (tz8 x : Int)) := by
    show _ = _
    rw [tzTab_get ⟨x, hx⟩, IntWalk.wrap64_in]
    have := tz8_le ⟨x, hx⟩
    simp only at this ⊢
    omega
  go_enter Tryz.func153, Tryz.ntmps153
  go_wp2
  go_ret
  exact ⟨ret_i64 HT.out, rfl⟩

set_option maxHeartbeats 1000000 in
set_option maxRecDepth 100000 in
theorem fitsBits_any (t : ByteArray) (w : World) (hm : t.size ≤ 9223372036854775807) :
    Calls Tryz.prog 135 #[.string t] w fun e w' => RetB (BitsOk t) w e w' := by
  by_cases h0 : t.size = 0
  · have h0' : ((t.size : Int) == 0) = true := by rw [beq_iff_eq]; omega
    have HN : Hid (¬ BitsOk t) := fun h => by have := h.1; omega
    clear h0
    go_enter Tryz.func135, Tryz.ntmps135
    go_wp2
    go_ret
    exact ret_no HN.out (drew0 w)
  have h0' : ((t.size : Int) == 0) = false := by rw [beq_eq_false_iff_ne]; omega
  have h6 : 0 < t.size := by omega
  have h6' : (0 : Int) < t.size := by omega
  have e0 := b8_get t 0 h6
  have hb0 := b8_bd t 0
  have x0 : (t[0].toNat : Int) < 256 := by omega
  by_cases h1 : t.size = 1
  · have h1' : ((t.size : Int) == 1) = true := by rw [beq_iff_eq]; omega
    have HI : Hid (((t[0].toNat : Int) == 0) = true ↔ BitsOk t) := by
      show _ ↔ _
      rw [beq_iff_eq, e0]
      exact ⟨fun h => ⟨by omega, by omega, fun _ => h, fun _ => by omega⟩, fun h => h.2.2.1 h1⟩
    clear h1 e0
    go_enter Tryz.func135, Tryz.ntmps135
    go_wp2
    go_ret
    exact ret_iff HI.out (drew0 w)
  have h1' : ((t.size : Int) == 1) = false := by rw [beq_eq_false_iff_ne]; omega
  have h3 : t.size - 1 < t.size := by omega
  have h3' : (t.size : Int) - 1 < t.size := by omega
  by_cases h7 : 7 < (t[0].toNat : Int)
  · have h7' : decide ((t[0].toNat : Int) ≤ 7) = false := decide_eq_false (by omega)
    have HN : Hid (¬ BitsOk t) := fun h => by have := h.2.1; omega
    clear e0
    go_enter Tryz.func135, Tryz.ntmps135
    go_wp2
    go_quiet (fail)
    go_wp2
    go_ret
    exact ret_no HN.out ⟨_, rfl⟩
  have h7' : decide ((t[0].toNat : Int) ≤ 7) = true := decide_eq_true (by omega)
  obtain ⟨m, HM⟩ : ∃ m, Hid (t.size = m + 1) := ⟨t.size - 1, by show _ = _; omega⟩
  have hml : m < t.size := by have := HM.out; omega
  have hml' : (m : Int) < t.size := by omega
  have hwr : IntKind.i64.wrap ((t.size : Int) - 1) = (m : Int) := by have := HM.out; rw [wraps_i64 _ (by omega) (by omega)]; omega
  have el := b8_get t m hml
  have hxl : t[m].toNat < 256 := t[m].toNat_lt
  have HI : Hid (decide (t[0].toNat ≤ tz8 t[m].toNat) = true ↔ BitsOk t) := by
    show _ ↔ _
    have hk : t[0].toNat < 8 := by omega
    have := tz8_ge ⟨t[m].toNat, hxl⟩ ⟨t[0].toNat, hk⟩
    simp only at this
    rw [decide_eq_true_iff, this]
    have ep : (b8 t 0).toNat = t[0].toNat := by omega
    have em : t.size - 1 = m := by have := HM.out; omega
    constructor
    · intro h
      refine ⟨by omega, by omega, fun _ => by omega, fun _ => ?_⟩
      rw [ep, em, ← el]
      exact_mod_cast h
    · intro h
      have := h.2.2.2 (by omega)
      rw [ep, em, ← el] at this
      exact_mod_cast this
  clear e0 el h3 h3'
  go_enter Tryz.func135, Tryz.ntmps135
  go_wp2
  go_quiet ((go_at_call 153; exact Calls.quiet_of_same (tz8_any _ _ hxl)))
  go_wp2
  go_ret
  exact ret_iff HI.out ⟨_, rfl⟩

set_option maxHeartbeats 1000000 in
set_option maxRecDepth 100000 in
theorem isBits_any (t : ByteArray) (w : World) (hm : t.size ≤ 9223372036854775807) :
    Calls Tryz.prog 110 #[.string t] w fun e w' => RetB (BitsOk t) w e w' := by
  by_cases h0 : t.size = 0
  · have h0' : ((t.size : Int) == 0) = true := by rw [beq_iff_eq]; omega
    have HN : Hid (¬ BitsOk t) := fun h => by have := h.1; omega
    clear h0
    go_enter Tryz.func110, Tryz.ntmps110
    go_wp2
    go_ret
    exact ret_no HN.out (drew0 w)
  have h0' : ((t.size : Int) == 0) = false := by rw [beq_eq_false_iff_ne]; omega
  have h6 : 0 < t.size := by omega
  have h6' : (0 : Int) < t.size := by omega
  have e0 := b8_get t 0 h6
  have hb0 := b8_bd t 0
  have x0 : (t[0].toNat : Int) < 256 := by omega
  by_cases h7 : 7 < (t[0].toNat : Int)
  · have HN : Hid (¬ BitsOk t) := fun h => by have := h.2.1; omega
    clear e0
    go_enter Tryz.func110, Tryz.ntmps110
    go_wp2
    go_ret
    exact ret_no HN.out (drew0 w)
  by_cases h1 : t.size = 1
  · have h1' : ((t.size : Int) == 1) = true := by rw [beq_iff_eq]; omega
    have HI : Hid (((t[0].toNat : Int) == 0) = true ↔ BitsOk t) := by
      show _ ↔ _
      rw [beq_iff_eq, e0]
      exact ⟨fun h => ⟨by omega, by omega, fun _ => h, fun _ => by omega⟩, fun h => h.2.2.1 h1⟩
    clear h1 e0
    go_enter Tryz.func110, Tryz.ntmps110
    go_wp2
    go_ret
    exact ret_iff HI.out (drew0 w)
  have h1' : ((t.size : Int) == 1) = false := by rw [beq_eq_false_iff_ne]; omega
  have h3 : t.size - 1 < t.size := by omega
  have h3' : (t.size : Int) - 1 < t.size := by omega
  have el := b8_get t (t.size - 1) h3
  have hxl : (t[t.size - 1].toNat : Int) < 256 := by have := t[t.size - 1].toNat_lt; omega
  have HI : Hid (((t[t.size - 1].toNat : Int) % ((2 ^ t[0].toNat : Nat) : Int) == 0) = true ↔ BitsOk t) := by
    show _ ↔ _
    have ep : (b8 t 0).toNat = t[0].toNat := by omega
    rw [beq_iff_eq]
    constructor
    · intro h
      refine ⟨by omega, by omega, fun _ => by omega, fun _ => ?_⟩
      rw [ep, ← el]
      exact_mod_cast h
    · intro h
      have := h.2.2.2 (by omega)
      rw [ep, ← el] at this
      exact_mod_cast this
  clear e0 el
  go_enter Tryz.func110, Tryz.ntmps110
  go_wp2
  go_loop [3, 4] (fun p i => ∃ k : Nat, k ≤ t[0].toNat ∧ i = .int .i64 k ∧ p = .int .i64 ((2 ^ k : Nat) : Int)) (fun _ i => t[0].toNat - (intOf i).toNat)
  case atStart => exact ⟨0, by omega, rfl, rfl⟩
  case round =>
    obtain ⟨k, hk, rfl, rfl⟩ := hrel
    have hp1 : 2 ^ k ≤ 2 ^ 7 := Nat.pow_le_pow_right (by omega) (by omega)
    have hp0 : 0 < 2 ^ k := Nat.two_pow_pos k
    have HP : Hid (2 ^ (k + 1) = 2 ^ k * 2) := Nat.pow_succ 2 k
    by_cases hlt : k < t[0].toNat
    · generalize hq : 2 ^ k = q at hp1 hp0 HP
      have HQ : Hid (2 ^ k = q) := hq
      clear hq
      go_wp2
      go_round
      case rel => exact ⟨k + 1, by omega, by go_num, by rw [HP.out]; go_num⟩
      case measure => simp [intOf]; omega
    · have hkc : t[0].toNat = k := by omega
      rw [hkc] at HI
      generalize 2 ^ k = q at hp1 hp0 HI
      have hq0 : ((q : Int) == 0) = false := by rw [beq_eq_false_iff_ne]; omega
      clear hkc
      go_wp2
      go_ret
      exact ret_iff HI.out (drew0 w)
end Go.Proofs.YtjceeljaljdmoaaGreatDoor
