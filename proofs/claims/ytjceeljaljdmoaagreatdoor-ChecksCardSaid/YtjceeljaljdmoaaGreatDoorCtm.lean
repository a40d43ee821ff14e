/-
  Contents: Time: the parts.
-/
import Derived.Test.YtjceeljaljdmoaaGreatDoorCp
import Derived.Test.YtjceeljaljdmoaaGreatDoorCb
namespace Go.Proofs.YtjceeljaljdmoaaGreatDoor
open Go.RowKit

/-- The number that the first k digits tell. -/
def decTo (s : ByteArray) : Nat → Int
  | 0 => 0
  | k + 1 => decTo s k * 10 + (b8 s k - 48)
/-- All of a text's first n bytes are digits. -/
def DigTo (s : ByteArray) (n : Nat) : Prop := ∀ i, i < n → 48 ≤ b8 s i ∧ b8 s i ≤ 57
theorem decTo_bd (s : ByteArray) (k : Nat) (hk : k ≤ 4) (h : DigTo s k) : 0 ≤ decTo s k ∧ decTo s k < 10000 := by
  match k, hk, h with
  | 0, _, _ => simp [decTo]
  | 1, _, h => have := h 0 (by omega); simp only [decTo]; omega
  | 2, _, h => have := h 0 (by omega); have := h 1 (by omega); simp only [decTo]; omega
  | 3, _, h => have := h 0 (by omega); have := h 1 (by omega); have := h 2 (by omega); simp only [decTo]; omega
  | 4, _, h => have := h 0 (by omega); have := h 1 (by omega); have := h 2 (by omega); have := h 3 (by omega); simp only [decTo]; omega

set_option maxHeartbeats 1000000 in
set_option maxRecDepth 100000 in
theorem decimal_any (s : ByteArray) (w : World) (h4 : s.size ≤ 4) (hd : DigTo s s.size) :
    Calls Tryz.prog 157 #[.string s] w fun e w' => e = .returned (.int .i64 (decTo s s.size)) ∧ w' = w := by
  have HD : Hid (DigTo s s.size) := hd
  clear hd
  go_enter Tryz.func157, Tryz.ntmps157
  go_wp2
  go_loop [3, 7] (fun n i => ∃ k : Nat, k ≤ s.size ∧ i = .int .i64 k ∧ n = .int .i64 (decTo s k)) (fun _ i => s.size - (intOf i).toNat)
  case atStart => exact ⟨0, by omega, rfl, rfl⟩
  case round =>
    obtain ⟨k, hk, rfl, rfl⟩ := hrel
    have hb := decTo_bd s k (by omega) (fun i hi => HD.out i (by omega))
    have hb0 : 0 ≤ decTo s k := hb.1
    have hb1 : decTo s k < 10000 := hb.2
    clear hb
    by_cases hlt : k < s.size
    · have HE : Hid ((s[k].toNat : Int) = b8 s k) := b8_get s k hlt
      have hx := HD.out k hlt
      have hx0 : 48 ≤ (s[k].toNat : Int) := by rw [HE.out]; exact hx.1
      have hx1 : (s[k].toNat : Int) ≤ 57 := by rw [HE.out]; exact hx.2
      clear hx
      go_wp2
      go_round
      case rel => exact ⟨k + 1, by omega, by go_num, by show _ = Value.int .i64 (decTo s k * 10 + (b8 s k - 48)); rw [← HE.out]⟩
      case measure => simp [intOf]; omega
    · have hkc : s.size = k := by omega
      have HF : Hid (decTo s k = decTo s s.size) := by show _ = _; rw [hkc]
      clear hkc
      go_wp2
      go_ret
      exact ⟨ret_i64 HF.out, rfl⟩

set_option maxHeartbeats 1000000 in
set_option maxRecDepth 100000 in
theorem numberRef_any (s : ByteArray) (w : World) (h4 : s.size ≤ 4) (hd : DigTo s s.size) :
    Calls Tryz.prog 143 #[.string s] w fun e w' => e = .returned (.int .i64 (decTo s s.size)) ∧ w' = w := by
  have HD : Hid (DigTo s s.size) := hd
  clear hd
  go_enter Tryz.func143, Tryz.ntmps143
  go_wp2
  go_loop [3, 4] (fun n i => ∃ k : Nat, k ≤ s.size ∧ i = .int .i64 k ∧ n = .int .i64 (decTo s k)) (fun _ i => s.size - (intOf i).toNat)
  case atStart => exact ⟨0, by omega, rfl, rfl⟩
  case round =>
    obtain ⟨k, hk, rfl, rfl⟩ := hrel
    have hb := decTo_bd s k (by omega) (fun i hi => HD.out i (by omega))
    have hb0 : 0 ≤ decTo s k := hb.1
    have hb1 : decTo s k < 10000 := hb.2
    clear hb
    by_cases hlt : k < s.size
    · have HE : Hid ((s[k].toNat : Int) = b8 s k) := b8_get s k hlt
      have hx := HD.out k hlt
      have hx0 : 48 ≤ (s[k].toNat : Int) := by rw [HE.out]; exact hx.1
      have hx1 : (s[k].toNat : Int) ≤ 57 := by rw [HE.out]; exact hx.2
      clear hx
      go_wp2
      go_round
      case rel => exact ⟨k + 1, by omega, by go_num, by show _ = Value.int .i64 (decTo s k * 10 + (b8 s k - 48)); rw [← HE.out]; go_num⟩
      case measure => simp [intOf]; omega
    · have hkc : s.size = k := by omega
      have HF : Hid (decTo s k = decTo s s.size) := by show _ = _; rw [hkc]
      clear hkc
      go_wp2
      go_ret
      exact ⟨ret_i64 HF.out, rfl⟩

/-- The last day of a month. -/
def lastDay (y m : Int) : Int := if m = 2 then (if y % 400 = 0 ∨ y % 4 = 0 ∧ y % 100 ≠ 0 then 29 else 28) else if m = 4 ∨ m = 6 ∨ m = 9 ∨ m = 11 then 30 else 31
def Leap (y : Int) : Prop := y % 400 = 0 ∨ y % 4 = 0 ∧ y % 100 ≠ 0
/-- The program's table of days lies in memory. -/
def Days (w : World) : Prop := ∀ i, i < 12 → w.cell? ⟨16, i, none⟩ = some (.int .i64 ([31, 28, 31, 30, 31, 30, 31, 31, 30, 31, 30, 31].getD i 0))
theorem Days.drew {w : World} (h : Days w) (k : Nat) : Days (w.drewN k) := h

set_option maxHeartbeats 1000000 in
set_option maxRecDepth 100000 in
theorem isLeap_any (y : Int) (w : World) (h0 : 0 ≤ y) (h1 : y < 10000) :
    Calls Tryz.prog 171 #[.int .i64 y] w fun e w' => e = .returned (.bool (decide (y % 400 = 0 ∨ y % 4 = 0 ∧ y % 100 ≠ 0))) ∧ w' = w := by
  by_cases h4 : y % 4 = 0
  · have h4' : (y % 4 == 0) = true := beq_iff_eq.2 h4
    by_cases h100 : y % 100 = 0
    · have h100' : (y % 100 != 0) = false := by rw [bne_eq_false_iff_eq]; exact h100
      have HB : Hid ((y % 400 == 0) = decide (y % 400 = 0 ∨ y % 4 = 0 ∧ y % 100 ≠ 0)) := by
        show _ = _
        rw [Bool.eq_iff_iff, beq_iff_eq, decide_eq_true_iff]; omega
      clear h4 h100
      go_enter Tryz.func171, Tryz.ntmps171
      go_wp2
      go_ret
      exact ⟨ret_b HB.out, rfl⟩
    · have h100' : (y % 100 != 0) = true := by rw [bne_iff_ne]; exact h100
      have HB : Hid (true = decide (y % 400 = 0 ∨ y % 4 = 0 ∧ y % 100 ≠ 0)) := by
        show _ = _
        rw [eq_comm, decide_eq_true_iff]; omega
      clear h4 h100
      go_enter Tryz.func171, Tryz.ntmps171
      go_wp2
      go_ret
      exact ⟨ret_b HB.out, rfl⟩
  · have h4' : (y % 4 == 0) = false := beq_eq_false_iff_ne.2 h4
    have HB : Hid ((y % 400 == 0) = decide (y % 400 = 0 ∨ y % 4 = 0 ∧ y % 100 ≠ 0)) := by
      show _ = _
      rw [Bool.eq_iff_iff, beq_iff_eq, decide_eq_true_iff]; omega
    clear h4
    go_enter Tryz.func171, Tryz.ntmps171
    go_wp2
    go_ret
    exact ⟨ret_b HB.out, rfl⟩

set_option maxHeartbeats 1000000 in
set_option maxRecDepth 100000 in
theorem lastDay_any (y : Int) (m : Nat) (w : World) (h0 : 0 ≤ y) (h1 : y < 10000) (hm0 : 1 ≤ m) (hm1 : m ≤ 12) (hD : Days w) :
    Calls Tryz.prog 168 #[.int .i64 y, .int .i64 m] w fun e w' => e = .returned (.int .i64 (lastDay y m)) ∧ w' = w := by
  have hc : w.cell? ⟨16, m - 1, none⟩ = some (.int .i64 ([31, 28, 31, 30, 31, 30, 31, 31, 30, 31, 30, 31].getD (m - 1) 0)) := hD (m - 1) (by omega)
  clear hD
  by_cases h2 : m = 2
  · have HL : Hid (Calls Tryz.prog 171 #[.int .i64 y] w fun e w' => e = .returned (.bool (decide (y % 400 = 0 ∨ y % 4 = 0 ∧ y % 100 ≠ 0))) ∧ w' = w) := isLeap_any y w h0 h1
    subst h2
    have hl : lastDay y ((2 : Nat) : Int) = if y % 400 = 0 ∨ y % 4 = 0 ∧ y % 100 ≠ 0 then 29 else 28 := rfl
    rw [hl]
    by_cases hy : y % 400 = 0 ∨ y % 4 = 0 ∧ y % 100 ≠ 0
    · rw [if_pos hy]
      rw [decide_eq_true hy] at HL
      clear hy hl
      go_enter Tryz.func168, Tryz.ntmps168
      go_wp2_with fail
      refine Calls.mono HL.out ?_
      rintro e w2 ⟨rfl, rfl⟩
      go_wp2_with fail
      go_ret
      exact ⟨rfl, rfl⟩
    · rw [if_neg hy]
      rw [decide_eq_false hy] at HL
      clear hy hl
      go_enter Tryz.func168, Tryz.ntmps168
      go_wp2_with fail
      refine Calls.mono HL.out ?_
      rintro e w2 ⟨rfl, hw⟩
      subst hw
      go_wp2_with fail
      go_ret
      exact ⟨rfl, rfl⟩
  · have h2' : ((m : Int) == 2) = false := by rw [beq_eq_false_iff_ne]; omega
    have HV : Hid ([31, 28, 31, 30, 31, 30, 31, 31, 30, 31, 30, 31].getD (m - 1) 0 = lastDay y m) := by
      show _ = _
      obtain ⟨j, rfl⟩ : ∃ j, m = j + 1 := ⟨m - 1, by omega⟩
      match j, hm1, h2 with
      | 0, _, _ => rfl
      | 2, _, _ => rfl
      | 3, _, _ => rfl
      | 4, _, _ => rfl
      | 5, _, _ => rfl
      | 6, _, _ => rfl
      | 7, _, _ => rfl
      | 8, _, _ => rfl
      | 9, _, _ => rfl
      | 10, _, _ => rfl
      | 11, _, _ => rfl
    generalize ([31, 28, 31, 30, 31, 30, 31, 31, 30, 31, 30, 31].getD (m - 1) 0 : Int) = v at hc HV
    clear h2
    go_enter Tryz.func168, Tryz.ntmps168
    go_wp2
    go_ret
    exact ⟨ret_i64 HV.out, rfl⟩
end Go.Proofs.YtjceeljaljdmoaaGreatDoor
