/-
  readLength: what it answers.
-/
import Derived.Test.YtkkicodfpekbgaaDoorNum
import Derived.Test.YtkkicodfpekbgaaDoorMath
import Derived.BigQuiet
import Derived.Deep.QuietTactic
namespace Go.Proofs.YtkkicodfpekbgaaDoor
open Go.RowKit

set_option maxHeartbeats 1000000 in
set_option maxRecDepth 100000 in
theorem rl_empty (t : ByteArray) (w : World) (sn : Sn → Addr) (hs : Sent w sn) (ht : t.size = 0) :
    Calls Tryd.prog 17 #[.string t] w fun e w' => e = .returned (.tuple #[.int .i64 0, .int .i64 0, .iface 72 (.pointer (some (sn .End)))]) ∧ Below w.heap.size w w' := by
  have h0 := hs.cE
  have he := emp_t ht
  clear hs
  go_enter Tryd.func17, Tryd.ntmps17
  go_wp2
  go_quiet (fail)
  go_wp2
  go_ret3
  exact ⟨rfl, below_drewN (Below.refl _ _) _⟩

set_option maxHeartbeats 1000000 in
set_option maxRecDepth 100000 in
theorem rl_short (t : ByteArray) (w : World) (h : 0 < t.size) (_hm : t.size ≤ 9223372036854775807) (hb : (t[0].toNat : Int) < 128) :
    Calls Tryd.prog 17 #[.string t] w fun e w' => e = .returned (.tuple #[.int .i64 1, .int .i64 (t[0].toNat : Int), .nilIface]) ∧ Below w.heap.size w w' := by
  have he := emp_f h
  go_enter Tryd.func17, Tryd.ntmps17
  go_wp2
  go_quiet (fail)
  go_wp2
  go_ret3
  exact ⟨rfl, below_drewN (Below.refl _ _) _⟩

set_option maxHeartbeats 1000000 in
set_option maxRecDepth 100000 in
theorem rl_bad (t : ByteArray) (w : World) (sn : Sn → Addr) (hs : Sent w sn) (h : 0 < t.size) (_hm : t.size ≤ 9223372036854775807) (hb : 128 ≤ (t[0].toNat : Int)) (hc : (t[0].toNat : Int) = 128 ∨ 131 < (t[0].toNat : Int)) :
    Calls Tryd.prog 17 #[.string t] w fun e w' => e = .returned (.tuple #[.int .i64 0, .int .i64 0, .iface 72 (.pointer (some (sn .Length)))]) ∧ Below w.heap.size w w' := by
  have h2 := hs.cL
  have he := emp_f h
  have hx : (t[0].toNat : Int) < 256 := by have := t[0].toNat_lt; omega
  clear hs
  by_cases hz : (t[0].toNat : Int) - 128 = 0
  · have hz1 : ((t[0].toNat : Int) - 128 == 0) = true := beq_iff_eq.2 hz
    clear hc hz
    go_enter Tryd.func17, Tryd.ntmps17
    go_wp2
    go_quiet (fail)
    go_wp2
    go_ret3
    exact ⟨rfl, below_drewN (Below.refl _ _) _⟩
  · have hz1 : ((t[0].toNat : Int) - 128 == 0) = false := beq_eq_false_iff_ne.2 hz
    have hz2 : 3 < (t[0].toNat : Int) - 128 := by omega
    clear hc hz
    go_enter Tryd.func17, Tryd.ntmps17
    go_wp2
    go_quiet (fail)
    go_wp2
    go_ret3
    exact ⟨rfl, below_drewN (Below.refl _ _) _⟩

set_option maxHeartbeats 1000000 in
set_option maxRecDepth 100000 in
theorem rl_end (t : ByteArray) (w : World) (sn : Sn → Addr) (hs : Sent w sn) (h : 0 < t.size) (_hm : t.size ≤ 9223372036854775807) (hb : 128 < (t[0].toNat : Int)) (hc : (t[0].toNat : Int) ≤ 131) (hl : (t.size : Int) ≤ (t[0].toNat : Int) - 128) :
    Calls Tryd.prog 17 #[.string t] w fun e w' => e = .returned (.tuple #[.int .i64 0, .int .i64 0, .iface 72 (.pointer (some (sn .End)))]) ∧ Below w.heap.size w w' := by
  have h2 := hs.cE
  have he := emp_f h
  have hz1 : ((t[0].toNat : Int) - 128 == 0) = false := beq_eq_false_iff_ne.2 (by omega)
  have hz2 : (t[0].toNat : Int) - 128 ≤ 3 := by omega
  clear hs
  go_enter Tryd.func17, Tryd.ntmps17
  go_wp2
  go_quiet (fail)
  go_wp2
  go_ret3
  exact ⟨rfl, below_drewN (Below.refl _ _) _⟩

theorem ret3 {a b c d : Int} {v : Value} (h1 : a = c) (h2 : b = d) : Ending.returned (.tuple #[.int .i64 a, .int .i64 b, v]) = .returned (.tuple #[.int .i64 c, .int .i64 d, v]) := by rw [h1, h2]

set_option maxHeartbeats 1000000 in
set_option maxRecDepth 100000 in
theorem rl_ok (t : ByteArray) (w : World) (sn : Sn → Addr) (c : Nat) (hs : Sent w sn) (h : 0 < t.size) (hm : t.size ≤ 9223372036854775807) (hb1 : (t[0].toNat : Int) - 128 ≤ c) (hb2 : c ≤ (t[0].toNat : Int) - 128) (h1 : 1 ≤ c) (h3 : c ≤ 3) (hl : c < t.size) (hq : (c : Int) = cnt (numTo t c)) :
    Calls Tryd.prog 17 #[.string t] w fun e w' => e = .returned (.tuple #[.int .i64 (1 + c), .int .i64 (numTo t c), .nilIface]) ∧ Below w.heap.size w w' := by
  have h2 := hs.cL
  have he := emp_f h
  have hz1 : ((t[0].toNat : Int) - 128 == 0) = false := beq_eq_false_iff_ne.2 (by omega)
  have hz2 : (t[0].toNat : Int) - 128 ≤ 3 := by omega
  have HQ : Hid ((c : Int) = cnt (numTo t c)) := hq
  clear hs hq
  go_enter Tryd.func17, Tryd.ntmps17
  go_wp2
  go_loop [3, 6] (fun n i => ∃ k : Nat, 1 ≤ k ∧ k ≤ c + 1 ∧ i = .int .i64 k ∧ n = .int .i64 (numTo t (k - 1))) (fun _ i => c + 1 - (intOf i).toNat)
  case atStart => exact ⟨1, by omega, by omega, rfl, rfl⟩
  case round =>
    obtain ⟨k, hk1, hk, rfl, rfl⟩ := hrel
    have hn := numTo_bd t (k - 1)
    have hn0 : 0 ≤ numTo t (k - 1) := hn.1
    have hn1 : numTo t (k - 1) < 16777216 := hn.2.1 (by omega)
    clear hn
    by_cases hlt : k ≤ c
    · have hk2 : k < t.size := by omega
      have hbk := b8_bd t k
      have HE : Hid ((t[k].toNat : Int) = b8 t k) := b8_get t k hk2
      have HN : Hid (numTo t k = numTo t (k - 1) * 256 + b8 t k) := by
        obtain ⟨j, rfl⟩ : ∃ j, k = j + 1 := ⟨k - 1, by omega⟩
        rfl
      go_wp2
      go_round
      case rel => exact ⟨k + 1, by omega, by omega, by go_num, by rw [HE.out, IntWalk.wrap64_in _ ⟨by omega, by omega⟩, i64_or8 _ _ (by omega) (by omega) (by omega) (by omega) (by omega), Nat.add_sub_cancel, HN.out]⟩
      case measure => simp [intOf]; omega
    · have hkc : k = c + 1 := by omega
      subst hkc
      simp only [Nat.add_sub_cancel] at hn0 hn1 ⊢
      have HX : Hid ((t[0].toNat : Int) - 128 = c) := by show _ = _; omega
      rcases cnt_cases (numTo t c) with ⟨r1, r3⟩ | ⟨r1, r2, r3⟩ | ⟨r1, r2, r3⟩ | ⟨r1, r3⟩
      · have := HQ.out; omega
      · have hbq : ((t[0].toNat : Int) - 128 != 1) = false := by rw [bne_eq_false_iff_eq]; have := HQ.out; omega
        clear r3
        go_wp2
        go_ret3
        exact ⟨ret3 (by rw [HX.out]) rfl, Below.refl _ _⟩
      · have hbq : ((t[0].toNat : Int) - 128 != 2) = false := by rw [bne_eq_false_iff_eq]; have := HQ.out; omega
        clear r3
        go_wp2
        go_ret3
        exact ⟨ret3 (by rw [HX.out]) rfl, Below.refl _ _⟩
      · have hbq : ((t[0].toNat : Int) - 128 != 3) = false := by rw [bne_eq_false_iff_eq]; have := HQ.out; omega
        clear r3
        go_wp2
        go_ret3
        exact ⟨ret3 (by rw [HX.out]) rfl, Below.refl _ _⟩

set_option maxHeartbeats 1000000 in
set_option maxRecDepth 100000 in
theorem rl_no (t : ByteArray) (w : World) (sn : Sn → Addr) (c : Nat) (hs : Sent w sn) (h : 0 < t.size) (hm : t.size ≤ 9223372036854775807) (hb1 : (t[0].toNat : Int) - 128 ≤ c) (hb2 : c ≤ (t[0].toNat : Int) - 128) (h1 : 1 ≤ c) (h3 : c ≤ 3) (hl : c < t.size) (hq : ¬ (c : Int) = cnt (numTo t c)) :
    Calls Tryd.prog 17 #[.string t] w fun e w' => e = .returned (.tuple #[.int .i64 0, .int .i64 0, .iface 72 (.pointer (some (sn .Length)))]) ∧ Below w.heap.size w w' := by
  have h2 := hs.cL
  have he := emp_f h
  have hz1 : ((t[0].toNat : Int) - 128 == 0) = false := beq_eq_false_iff_ne.2 (by omega)
  have hz2 : (t[0].toNat : Int) - 128 ≤ 3 := by omega
  have HQ : Hid (¬ (c : Int) = cnt (numTo t c)) := hq
  clear hs hq
  go_enter Tryd.func17, Tryd.ntmps17
  go_wp2
  go_loop [3, 6] (fun n i => ∃ k : Nat, 1 ≤ k ∧ k ≤ c + 1 ∧ i = .int .i64 k ∧ n = .int .i64 (numTo t (k - 1))) (fun _ i => c + 1 - (intOf i).toNat)
  case atStart => exact ⟨1, by omega, by omega, rfl, rfl⟩
  case round =>
    obtain ⟨k, hk1, hk, rfl, rfl⟩ := hrel
    have hn := numTo_bd t (k - 1)
    have hn0 : 0 ≤ numTo t (k - 1) := hn.1
    have hn1 : numTo t (k - 1) < 16777216 := hn.2.1 (by omega)
    clear hn
    by_cases hlt : k ≤ c
    · have hk2 : k < t.size := by omega
      have hbk := b8_bd t k
      have HE : Hid ((t[k].toNat : Int) = b8 t k) := b8_get t k hk2
      have HN : Hid (numTo t k = numTo t (k - 1) * 256 + b8 t k) := by
        obtain ⟨j, rfl⟩ : ∃ j, k = j + 1 := ⟨k - 1, by omega⟩
        rfl
      go_wp2
      go_round
      case rel => exact ⟨k + 1, by omega, by omega, by go_num, by rw [HE.out, IntWalk.wrap64_in _ ⟨by omega, by omega⟩, i64_or8 _ _ (by omega) (by omega) (by omega) (by omega) (by omega), Nat.add_sub_cancel, HN.out]⟩
      case measure => simp [intOf]; omega
    · have hkc : k = c + 1 := by omega
      subst hkc
      simp only [Nat.add_sub_cancel] at hn0 hn1 ⊢
      have HX : Hid ((t[0].toNat : Int) - 128 = c) := by show _ = _; omega
      rcases cnt_cases (numTo t c) with ⟨r1, r3⟩ | ⟨r1, r2, r3⟩ | ⟨r1, r2, r3⟩ | ⟨r1, r3⟩
      · have hbq : ((t[0].toNat : Int) - 128 != 0) = true := by rw [bne_iff_ne]; have := HQ.out; omega
        clear r3
        go_wp2
        go_quiet (fail)
        go_wp2
        go_ret3
        exact ⟨rfl, below_drewN (Below.refl _ _) _⟩
      · have hbq : ((t[0].toNat : Int) - 128 != 1) = true := by rw [bne_iff_ne]; have := HQ.out; omega
        clear r3
        go_wp2
        go_quiet (fail)
        go_wp2
        go_ret3
        exact ⟨rfl, below_drewN (Below.refl _ _) _⟩
      · have hbq : ((t[0].toNat : Int) - 128 != 2) = true := by rw [bne_iff_ne]; have := HQ.out; omega
        clear r3
        go_wp2
        go_quiet (fail)
        go_wp2
        go_ret3
        exact ⟨rfl, below_drewN (Below.refl _ _) _⟩
      · have hbq : ((t[0].toNat : Int) - 128 != 3) = true := by rw [bne_iff_ne]; have := HQ.out; omega
        clear r3
        go_wp2
        go_quiet (fail)
        go_wp2
        go_ret3
        exact ⟨rfl, below_drewN (Below.refl _ _) _⟩

/-- Which error it is, as a value: nil, or a sentinel. -/
def which (sn : Sn → Addr) (c : Int) : Value := if c = 0 then .nilIface else if c = 3 then .iface 72 (.pointer (some (sn .End))) else .iface 72 (.pointer (some (sn .Length)))

theorem readLength_any (t : ByteArray) (w : World) (sn : Sn → Addr) (hs : Sent w sn) (hm : t.size ≤ 9223372036854775807) :
    Calls Tryd.prog 17 #[.string t] w fun e w' => e = .returned (.tuple #[.int .i64 (rl t).2.1, .int .i64 (rl t).2.2, which sn (rl t).1]) ∧ Below w.heap.size w w' := by
  unfold rl
  split
  · rename_i h; exact rl_empty t w sn hs h
  rename_i h
  have h : 0 < t.size := by omega
  have hb := b8_bd t 0
  have e0 := b8_get t 0 h
  split
  · rename_i h1
    have := rl_short t w h hm (by omega)
    rw [e0] at this
    exact this
  split
  · rename_i h1; exact rl_bad t w sn hs h hm (by omega) (by omega)
  split
  · exact rl_end t w sn hs h hm (by omega) (by omega) (by omega)
  rename_i h1 h2 h3
  obtain ⟨c, hc⟩ := Int.eq_ofNat_of_zero_le (show 0 ≤ b8 t 0 - 128 by omega)
  rw [hc, Int.toNat_natCast]
  split
  · rename_i h4; exact rl_no t w sn c hs h hm (by omega) (by omega) (by omega) (by omega) (by omega) h4
  · rename_i h4; exact rl_ok t w sn c hs h hm (by omega) (by omega) (by omega) (by omega) (by omega) (by omega)
theorem readLength_eq (t : ByteArray) (w : World) (sn : Sn → Addr) (c z1 z2 : Int) (v : Value) (hs : Sent w sn) (hm : t.size ≤ 9223372036854775807) (h : rl t = (c, z1, z2)) (hv : which sn c = v) :
    Calls Tryd.prog 17 #[.string t] w fun e w' => e = .returned (.tuple #[.int .i64 z1, .int .i64 z2, v]) ∧ Below w.heap.size w w' := by
  have := readLength_any t w sn hs hm
  rw [h] at this
  rw [← hv]
  exact this
end Go.Proofs.YtkkicodfpekbgaaDoor
