/-
  Contents: Utf8: what the document's functions answer.
-/
import Derived.Test.YtjceeljaljdmoaaGreatDoorCt
import Derived.Test.YtjceeljaljdmoaaGreatDoorCb
import Derived.Test.YtjceeljaljdmoaaGreatDoorCp
namespace Go.Proofs.YtjceeljaljdmoaaGreatDoor
open Go.RowKit

/-- The byte at a place is from lo to hi. -/
def goB (t : ByteArray) (a : Nat) (lo hi : Int) : Bool := decide (a < t.size ∧ lo ≤ b8 t a ∧ b8 t a ≤ hi)
def loB (b : Int) : Int := if b = 224 then 160 else if b = 240 then 144 else 128
def hiB (b : Int) : Int := if b = 237 then 159 else if b = 244 then 143 else 191
/-- How many bytes the character has that begins at a place; 0: none does. -/
def chr (t : ByteArray) (a : Nat) : Nat :=
  if b8 t a < 128 then 1
  else if 194 ≤ b8 t a ∧ b8 t a < 224 ∧ goB t (a + 1) (loB (b8 t a)) (hiB (b8 t a)) = true then 2
  else if 224 ≤ b8 t a ∧ b8 t a < 240 ∧ goB t (a + 1) (loB (b8 t a)) (hiB (b8 t a)) = true ∧ goB t (a + 2) 128 191 = true then 3
  else if 240 ≤ b8 t a ∧ b8 t a < 245 ∧ goB t (a + 1) (loB (b8 t a)) (hiB (b8 t a)) = true ∧ goB t (a + 2) 128 191 = true ∧ goB t (a + 3) 128 191 = true then 4
  else 0

set_option maxHeartbeats 400000 in
set_option maxRecDepth 100000 in
theorem goes_any (t : ByteArray) (a : Nat) (lo hi : Int) (w : World) (_hm : t.size ≤ 9223372036854775807) :
    Calls Tryz.prog 160 #[.string t, .int .i64 a, .int .i64 lo, .int .i64 hi] w fun e w' => e = .returned (.bool (goB t a lo hi)) ∧ w' = w := by
  by_cases h1 : a < t.size
  · have HE : Hid ((t[a].toNat : Int) = b8 t a) := b8_get t a h1
    have hx : (t[a].toNat : Int) < 256 := by have := t[a].toNat_lt; omega
    by_cases h2 : lo ≤ (t[a].toNat : Int)
    · have HV : Hid (decide ((t[a].toNat : Int) ≤ hi) = goB t a lo hi) := by
        show _ = _
        unfold goB
        rw [Bool.eq_iff_iff, decide_eq_true_iff, decide_eq_true_iff, ← HE.out]
        exact ⟨fun h => ⟨h1, h2, h⟩, fun h => h.2.2⟩
      go_enter Tryz.func160, Tryz.ntmps160
      go_wp2
      go_ret
      exact ⟨ret_b HV.out, rfl⟩
    · have HV : Hid (false = goB t a lo hi) := by
        show _ = _
        unfold goB
        rw [eq_comm, decide_eq_false_iff_not, ← HE.out]
        exact fun h => h2 h.2.1
      have c1 : decide (lo ≤ (t[a].toNat : Int)) = false := decide_eq_false h2
      go_enter Tryz.func160, Tryz.ntmps160
      go_wp2
      go_ret
      exact ⟨ret_b HV.out, rfl⟩
  · have HV : Hid (false = goB t a lo hi) := by
      show _ = _
      unfold goB
      rw [eq_comm, decide_eq_false_iff_not]
      exact fun h => h1 h.1
    have c1 : decide ((a : Int) < (t.size : Int)) = false := decide_eq_false (by omega)
    go_enter Tryz.func160, Tryz.ntmps160
    go_wp2
    go_ret
    exact ⟨ret_b HV.out, rfl⟩

theorem chr_1 (t : ByteArray) (a : Nat) (h : b8 t a < 128) : chr t a = 1 := by unfold chr; rw [if_pos h]
theorem chr_0 (t : ByteArray) (a : Nat) (h : (128 ≤ b8 t a ∧ b8 t a < 194) ∨ 245 ≤ b8 t a) : chr t a = 0 := by
  unfold chr
  rw [if_neg (by omega), if_neg (by omega), if_neg (by omega), if_neg (by omega)]
theorem chr_2 (t : ByteArray) (a : Nat) (lo hi : Int) (h0 : 194 ≤ b8 t a) (h1 : b8 t a < 224) (hl : loB (b8 t a) = lo) (hh : hiB (b8 t a) = hi) : chr t a = if goB t (a + 1) lo hi = true then 2 else 0 := by
  unfold chr
  rw [if_neg (by omega), hl, hh]
  by_cases h : goB t (a + 1) lo hi = true
  · rw [if_pos ⟨h0, h1, h⟩, if_pos h]
  · rw [if_neg (fun x => h x.2.2), if_neg (by omega), if_neg (by omega), if_neg h]
theorem chr_3 (t : ByteArray) (a : Nat) (lo hi : Int) (h0 : 224 ≤ b8 t a) (h1 : b8 t a < 240) (hl : loB (b8 t a) = lo) (hh : hiB (b8 t a) = hi) : chr t a = if goB t (a + 1) lo hi = true ∧ goB t (a + 2) 128 191 = true then 3 else 0 := by
  unfold chr
  rw [if_neg (by omega), if_neg (by omega), hl, hh]
  by_cases h : goB t (a + 1) lo hi = true ∧ goB t (a + 2) 128 191 = true
  · rw [if_pos ⟨h0, h1, h.1, h.2⟩, if_pos h]
  · rw [if_neg (fun x => h x.2.2), if_neg (by omega), if_neg h]
theorem chr_4 (t : ByteArray) (a : Nat) (lo hi : Int) (h0 : 240 ≤ b8 t a) (h1 : b8 t a < 245) (hl : loB (b8 t a) = lo) (hh : hiB (b8 t a) = hi) : chr t a = if goB t (a + 1) lo hi = true ∧ goB t (a + 2) 128 191 = true ∧ goB t (a + 3) 128 191 = true then 4 else 0 := by
  unfold chr
  rw [if_neg (by omega), if_neg (by omega), if_neg (by omega), hl, hh]
  by_cases h : goB t (a + 1) lo hi = true ∧ goB t (a + 2) 128 191 = true ∧ goB t (a + 3) 128 191 = true
  · rw [if_pos ⟨h0, h1, h.1, h.2.1, h.2.2⟩, if_pos h]
  · rw [if_neg (fun x => h x.2.2), if_neg h]

set_option maxHeartbeats 400000 in
set_option maxRecDepth 100000 in
theorem char_1 (t : ByteArray) (a : Nat) (w : World) (hm : t.size ≤ 140737488355328) (ha : a < t.size) (hr : (t[a].toNat : Int) < 128) :
    Calls Tryz.prog 141 #[.string t, .int .i64 a] w fun e w' => e = .returned (.int .i64 (chr t a)) ∧ w' = w := by
  have HE : Hid ((t[a].toNat : Int) = b8 t a) := b8_get t a ha
  have hx : (t[a].toNat : Int) < 256 := by have := t[a].toNat_lt; omega
  have G1 : Hid (∀ w, Calls Tryz.prog 160 #[.string t, .int .i64 ((a : Int) + 1), .int .i64 128, .int .i64 191] w fun e w' => e = .returned (.bool (goB t (a + 1) 128 191)) ∧ w = w') := fun w => (goes_any t (a + 1) 128 191 w (by omega)).mono fun e w' h => ⟨h.1, h.2.symm⟩
  have G2 : Hid (∀ w, Calls Tryz.prog 160 #[.string t, .int .i64 ((a : Int) + 2), .int .i64 128, .int .i64 191] w fun e w' => e = .returned (.bool (goB t (a + 2) 128 191)) ∧ w = w') := fun w => (goes_any t (a + 2) 128 191 w (by omega)).mono fun e w' h => ⟨h.1, h.2.symm⟩
  have G3 : Hid (∀ w, Calls Tryz.prog 160 #[.string t, .int .i64 ((a : Int) + 3), .int .i64 128, .int .i64 191] w fun e w' => e = .returned (.bool (goB t (a + 3) 128 191)) ∧ w = w') := fun w => (goes_any t (a + 3) 128 191 w (by omega)).mono fun e w' h => ⟨h.1, h.2.symm⟩
  have HC : Hid (chr t a = 1) := chr_1 t a (by rw [← HE.out]; exact hr)
  have e224 : ((t[a].toNat : Int) == 224) = false := by rw [beq_eq_false_iff_ne]; omega
  have e237 : ((t[a].toNat : Int) == 237) = false := by rw [beq_eq_false_iff_ne]; omega
  have e240 : ((t[a].toNat : Int) == 240) = false := by rw [beq_eq_false_iff_ne]; omega
  have e244 : ((t[a].toNat : Int) == 244) = false := by rw [beq_eq_false_iff_ne]; omega
  have d1 : decide ((t[a].toNat : Int) < 128) = true := decide_eq_true (by omega)
  have d2 : decide ((194 : Int) ≤ (t[a].toNat : Int)) = false := decide_eq_false (by omega)
  have d3 : decide ((t[a].toNat : Int) < 224) = true := decide_eq_true (by omega)
  have d4 : decide ((224 : Int) ≤ (t[a].toNat : Int)) = false := decide_eq_false (by omega)
  have d5 : decide ((t[a].toNat : Int) < 240) = true := decide_eq_true (by omega)
  have d6 : decide ((240 : Int) ≤ (t[a].toNat : Int)) = false := decide_eq_false (by omega)
  have d7 : decide ((t[a].toNat : Int) < 245) = true := decide_eq_true (by omega)
  generalize chr t a = res at HC ⊢
  generalize goB t (a + 1) 128 191 = one at G1
  generalize goB t (a + 2) 128 191 = two at G2
  generalize goB t (a + 3) 128 191 = three at G3
  clear hr
  go_enter Tryz.func141, Tryz.ntmps141
  go_wp2_with fail
  refine Calls.mono (G1.out _) ?_
  rintro e w2 ⟨rfl, rfl⟩
  go_wp2_with fail
  refine Calls.mono (G2.out _) ?_
  rintro e w3 ⟨rfl, rfl⟩
  go_wp2_with fail
  refine Calls.mono (G3.out _) ?_
  rintro e w4 ⟨rfl, rfl⟩
  go_wp2_with fail
  go_ret
  exact ⟨ret_i64 (by rw [HC.out]; rfl), rfl⟩

set_option maxHeartbeats 400000 in
set_option maxRecDepth 100000 in
theorem char_2 (t : ByteArray) (a : Nat) (w : World) (hm : t.size ≤ 140737488355328) (ha : a < t.size) (hr : 128 ≤ (t[a].toNat : Int) ∧ (t[a].toNat : Int) < 194) :
    Calls Tryz.prog 141 #[.string t, .int .i64 a] w fun e w' => e = .returned (.int .i64 (chr t a)) ∧ w' = w := by
  have HE : Hid ((t[a].toNat : Int) = b8 t a) := b8_get t a ha
  have hx : (t[a].toNat : Int) < 256 := by have := t[a].toNat_lt; omega
  have G1 : Hid (∀ w, Calls Tryz.prog 160 #[.string t, .int .i64 ((a : Int) + 1), .int .i64 128, .int .i64 191] w fun e w' => e = .returned (.bool (goB t (a + 1) 128 191)) ∧ w = w') := fun w => (goes_any t (a + 1) 128 191 w (by omega)).mono fun e w' h => ⟨h.1, h.2.symm⟩
  have G2 : Hid (∀ w, Calls Tryz.prog 160 #[.string t, .int .i64 ((a : Int) + 2), .int .i64 128, .int .i64 191] w fun e w' => e = .returned (.bool (goB t (a + 2) 128 191)) ∧ w = w') := fun w => (goes_any t (a + 2) 128 191 w (by omega)).mono fun e w' h => ⟨h.1, h.2.symm⟩
  have G3 : Hid (∀ w, Calls Tryz.prog 160 #[.string t, .int .i64 ((a : Int) + 3), .int .i64 128, .int .i64 191] w fun e w' => e = .returned (.bool (goB t (a + 3) 128 191)) ∧ w = w') := fun w => (goes_any t (a + 3) 128 191 w (by omega)).mono fun e w' h => ⟨h.1, h.2.symm⟩
  have HC : Hid (chr t a = 0) := chr_0 t a (by rw [← HE.out]; omega)
  have e224 : ((t[a].toNat : Int) == 224) = false := by rw [beq_eq_false_iff_ne]; omega
  have e237 : ((t[a].toNat : Int) == 237) = false := by rw [beq_eq_false_iff_ne]; omega
  have e240 : ((t[a].toNat : Int) == 240) = false := by rw [beq_eq_false_iff_ne]; omega
  have e244 : ((t[a].toNat : Int) == 244) = false := by rw [beq_eq_false_iff_ne]; omega
  have d1 : decide ((t[a].toNat : Int) < 128) = false := decide_eq_false (by omega)
  have d2 : decide ((194 : Int) ≤ (t[a].toNat : Int)) = false := decide_eq_false (by omega)
  have d3 : decide ((t[a].toNat : Int) < 224) = true := decide_eq_true (by omega)
  have d4 : decide ((224 : Int) ≤ (t[a].toNat : Int)) = false := decide_eq_false (by omega)
  have d5 : decide ((t[a].toNat : Int) < 240) = true := decide_eq_true (by omega)
  have d6 : decide ((240 : Int) ≤ (t[a].toNat : Int)) = false := decide_eq_false (by omega)
  have d7 : decide ((t[a].toNat : Int) < 245) = true := decide_eq_true (by omega)
  generalize chr t a = res at HC ⊢
  generalize goB t (a + 1) 128 191 = one at G1
  generalize goB t (a + 2) 128 191 = two at G2
  generalize goB t (a + 3) 128 191 = three at G3
  clear hr
  go_enter Tryz.func141, Tryz.ntmps141
  go_wp2_with fail
  refine Calls.mono (G1.out _) ?_
  rintro e w2 ⟨rfl, rfl⟩
  go_wp2_with fail
  refine Calls.mono (G2.out _) ?_
  rintro e w3 ⟨rfl, rfl⟩
  go_wp2_with fail
  refine Calls.mono (G3.out _) ?_
  rintro e w4 ⟨rfl, rfl⟩
  go_wp2_with fail
  go_ret
  exact ⟨ret_i64 (by rw [HC.out]; rfl), rfl⟩

set_option maxHeartbeats 400000 in
set_option maxRecDepth 100000 in
theorem char_3 (t : ByteArray) (a : Nat) (w : World) (hm : t.size ≤ 140737488355328) (ha : a < t.size) (hr : 194 ≤ (t[a].toNat : Int) ∧ (t[a].toNat : Int) < 224) :
    Calls Tryz.prog 141 #[.string t, .int .i64 a] w fun e w' => e = .returned (.int .i64 (chr t a)) ∧ w' = w := by
  have HE : Hid ((t[a].toNat : Int) = b8 t a) := b8_get t a ha
  have hx : (t[a].toNat : Int) < 256 := by have := t[a].toNat_lt; omega
  have G1 : Hid (∀ w, Calls Tryz.prog 160 #[.string t, .int .i64 ((a : Int) + 1), .int .i64 128, .int .i64 191] w fun e w' => e = .returned (.bool (goB t (a + 1) 128 191)) ∧ w = w') := fun w => (goes_any t (a + 1) 128 191 w (by omega)).mono fun e w' h => ⟨h.1, h.2.symm⟩
  have G2 : Hid (∀ w, Calls Tryz.prog 160 #[.string t, .int .i64 ((a : Int) + 2), .int .i64 128, .int .i64 191] w fun e w' => e = .returned (.bool (goB t (a + 2) 128 191)) ∧ w = w') := fun w => (goes_any t (a + 2) 128 191 w (by omega)).mono fun e w' h => ⟨h.1, h.2.symm⟩
  have G3 : Hid (∀ w, Calls Tryz.prog 160 #[.string t, .int .i64 ((a : Int) + 3), .int .i64 128, .int .i64 191] w fun e w' => e = .returned (.bool (goB t (a + 3) 128 191)) ∧ w = w') := fun w => (goes_any t (a + 3) 128 191 w (by omega)).mono fun e w' h => ⟨h.1, h.2.symm⟩
  have HC : Hid (chr t a = if goB t (a + 1) 128 191 = true then 2 else 0) := by
    have e := HE.out
    exact chr_2 t a 128 191 (by omega) (by omega) (by unfold loB; rw [if_neg (by omega), if_neg (by omega)]) (by unfold hiB; rw [if_neg (by omega), if_neg (by omega)])
  have e224 : ((t[a].toNat : Int) == 224) = false := by rw [beq_eq_false_iff_ne]; omega
  have e237 : ((t[a].toNat : Int) == 237) = false := by rw [beq_eq_false_iff_ne]; omega
  have e240 : ((t[a].toNat : Int) == 240) = false := by rw [beq_eq_false_iff_ne]; omega
  have e244 : ((t[a].toNat : Int) == 244) = false := by rw [beq_eq_false_iff_ne]; omega
  have d1 : decide ((t[a].toNat : Int) < 128) = false := decide_eq_false (by omega)
  have d2 : decide ((194 : Int) ≤ (t[a].toNat : Int)) = true := decide_eq_true (by omega)
  have d3 : decide ((t[a].toNat : Int) < 224) = true := decide_eq_true (by omega)
  have d4 : decide ((224 : Int) ≤ (t[a].toNat : Int)) = false := decide_eq_false (by omega)
  have d5 : decide ((t[a].toNat : Int) < 240) = true := decide_eq_true (by omega)
  have d6 : decide ((240 : Int) ≤ (t[a].toNat : Int)) = false := decide_eq_false (by omega)
  have d7 : decide ((t[a].toNat : Int) < 245) = true := decide_eq_true (by omega)
  generalize chr t a = res at HC ⊢
  generalize goB t (a + 1) 128 191 = one at G1 HC
  generalize goB t (a + 2) 128 191 = two at G2
  generalize goB t (a + 3) 128 191 = three at G3
  clear hr
  go_enter Tryz.func141, Tryz.ntmps141
  go_wp2_with fail
  refine Calls.mono (G1.out _) ?_
  rintro e w2 ⟨rfl, rfl⟩
  go_wp2_with fail
  refine Calls.mono (G2.out _) ?_
  rintro e w3 ⟨rfl, rfl⟩
  go_wp2_with fail
  refine Calls.mono (G3.out _) ?_
  rintro e w4 ⟨rfl, rfl⟩
  cases one
  · go_wp2_with fail
    go_ret
    exact ⟨ret_i64 (by rw [HC.out]; rw [if_neg (by simp)]; rfl), rfl⟩
  · go_wp2_with fail
    go_ret
    exact ⟨ret_i64 (by rw [HC.out]; rw [if_pos (by simp)]; rfl), rfl⟩

set_option maxHeartbeats 400000 in
set_option maxRecDepth 100000 in
theorem char_4 (t : ByteArray) (a : Nat) (w : World) (hm : t.size ≤ 140737488355328) (ha : a < t.size) (hr : (t[a].toNat : Int) = 224) :
    Calls Tryz.prog 141 #[.string t, .int .i64 a] w fun e w' => e = .returned (.int .i64 (chr t a)) ∧ w' = w := by
  have HE : Hid ((t[a].toNat : Int) = b8 t a) := b8_get t a ha
  have hx : (t[a].toNat : Int) < 256 := by have := t[a].toNat_lt; omega
  have G1 : Hid (∀ w, Calls Tryz.prog 160 #[.string t, .int .i64 ((a : Int) + 1), .int .i64 160, .int .i64 191] w fun e w' => e = .returned (.bool (goB t (a + 1) 160 191)) ∧ w = w') := fun w => (goes_any t (a + 1) 160 191 w (by omega)).mono fun e w' h => ⟨h.1, h.2.symm⟩
  have G2 : Hid (∀ w, Calls Tryz.prog 160 #[.string t, .int .i64 ((a : Int) + 2), .int .i64 128, .int .i64 191] w fun e w' => e = .returned (.bool (goB t (a + 2) 128 191)) ∧ w = w') := fun w => (goes_any t (a + 2) 128 191 w (by omega)).mono fun e w' h => ⟨h.1, h.2.symm⟩
  have G3 : Hid (∀ w, Calls Tryz.prog 160 #[.string t, .int .i64 ((a : Int) + 3), .int .i64 128, .int .i64 191] w fun e w' => e = .returned (.bool (goB t (a + 3) 128 191)) ∧ w = w') := fun w => (goes_any t (a + 3) 128 191 w (by omega)).mono fun e w' h => ⟨h.1, h.2.symm⟩
  have HC : Hid (chr t a = if goB t (a + 1) 160 191 = true ∧ goB t (a + 2) 128 191 = true then 3 else 0) := by
    have e := HE.out
    exact chr_3 t a 160 191 (by omega) (by omega) (by unfold loB; rw [if_pos (by omega)]) (by unfold hiB; rw [if_neg (by omega), if_neg (by omega)])
  have e224 : ((t[a].toNat : Int) == 224) = true := by rw [beq_iff_eq]; omega
  have e237 : ((t[a].toNat : Int) == 237) = false := by rw [beq_eq_false_iff_ne]; omega
  have e240 : ((t[a].toNat : Int) == 240) = false := by rw [beq_eq_false_iff_ne]; omega
  have e244 : ((t[a].toNat : Int) == 244) = false := by rw [beq_eq_false_iff_ne]; omega
  have d1 : decide ((t[a].toNat : Int) < 128) = false := decide_eq_false (by omega)
  have d2 : decide ((194 : Int) ≤ (t[a].toNat : Int)) = true := decide_eq_true (by omega)
  have d3 : decide ((t[a].toNat : Int) < 224) = false := decide_eq_false (by omega)
  have d4 : decide ((224 : Int) ≤ (t[a].toNat : Int)) = true := decide_eq_true (by omega)
  have d5 : decide ((t[a].toNat : Int) < 240) = true := decide_eq_true (by omega)
  have d6 : decide ((240 : Int) ≤ (t[a].toNat : Int)) = false := decide_eq_false (by omega)
  have d7 : decide ((t[a].toNat : Int) < 245) = true := decide_eq_true (by omega)
  generalize chr t a = res at HC ⊢
  generalize goB t (a + 1) 160 191 = one at G1 HC
  generalize goB t (a + 2) 128 191 = two at G2 HC
  generalize goB t (a + 3) 128 191 = three at G3
  clear hr
  go_enter Tryz.func141, Tryz.ntmps141
  go_wp2_with fail
  refine Calls.mono (G1.out _) ?_
  rintro e w2 ⟨rfl, rfl⟩
  go_wp2_with fail
  refine Calls.mono (G2.out _) ?_
  rintro e w3 ⟨rfl, rfl⟩
  go_wp2_with fail
  refine Calls.mono (G3.out _) ?_
  rintro e w4 ⟨rfl, rfl⟩
  cases one
  · go_wp2_with fail
    go_ret
    exact ⟨ret_i64 (by rw [HC.out]; rw [if_neg (by simp)]; rfl), rfl⟩
  cases two
  · go_wp2_with fail
    go_ret
    exact ⟨ret_i64 (by rw [HC.out]; rw [if_neg (by simp)]; rfl), rfl⟩
  · go_wp2_with fail
    go_ret
    exact ⟨ret_i64 (by rw [HC.out]; rw [if_pos (by simp)]; rfl), rfl⟩

set_option maxHeartbeats 400000 in
set_option maxRecDepth 100000 in
theorem char_5 (t : ByteArray) (a : Nat) (w : World) (hm : t.size ≤ 140737488355328) (ha : a < t.size) (hr : 225 ≤ (t[a].toNat : Int) ∧ (t[a].toNat : Int) < 237) :
    Calls Tryz.prog 141 #[.string t, .int .i64 a] w fun e w' => e = .returned (.int .i64 (chr t a)) ∧ w' = w := by
  have HE : Hid ((t[a].toNat : Int) = b8 t a) := b8_get t a ha
  have hx : (t[a].toNat : Int) < 256 := by have := t[a].toNat_lt; omega
  have G1 : Hid (∀ w, Calls Tryz.prog 160 #[.string t, .int .i64 ((a : Int) + 1), .int .i64 128, .int .i64 191] w fun e w' => e = .returned (.bool (goB t (a + 1) 128 191)) ∧ w = w') := fun w => (goes_any t (a + 1) 128 191 w (by omega)).mono fun e w' h => ⟨h.1, h.2.symm⟩
  have G2 : Hid (∀ w, Calls Tryz.prog 160 #[.string t, .int .i64 ((a : Int) + 2), .int .i64 128, .int .i64 191] w fun e w' => e = .returned (.bool (goB t (a + 2) 128 191)) ∧ w = w') := fun w => (goes_any t (a + 2) 128 191 w (by omega)).mono fun e w' h => ⟨h.1, h.2.symm⟩
  have G3 : Hid (∀ w, Calls Tryz.prog 160 #[.string t, .int .i64 ((a : Int) + 3), .int .i64 128, .int .i64 191] w fun e w' => e = .returned (.bool (goB t (a + 3) 128 191)) ∧ w = w') := fun w => (goes_any t (a + 3) 128 191 w (by omega)).mono fun e w' h => ⟨h.1, h.2.symm⟩
  have HC : Hid (chr t a = if goB t (a + 1) 128 191 = true ∧ goB t (a + 2) 128 191 = true then 3 else 0) := by
    have e := HE.out
    exact chr_3 t a 128 191 (by omega) (by omega) (by unfold loB; rw [if_neg (by omega), if_neg (by omega)]) (by unfold hiB; rw [if_neg (by omega), if_neg (by omega)])
  have e224 : ((t[a].toNat : Int) == 224) = false := by rw [beq_eq_false_iff_ne]; omega
  have e237 : ((t[a].toNat : Int) == 237) = false := by rw [beq_eq_false_iff_ne]; omega
  have e240 : ((t[a].toNat : Int) == 240) = false := by rw [beq_eq_false_iff_ne]; omega
  have e244 : ((t[a].toNat : Int) == 244) = false := by rw [beq_eq_false_iff_ne]; omega
  have d1 : decide ((t[a].toNat : Int) < 128) = false := decide_eq_false (by omega)
  have d2 : decide ((194 : Int) ≤ (t[a].toNat : Int)) = true := decide_eq_true (by omega)
  have d3 : decide ((t[a].toNat : Int) < 224) = false := decide_eq_false (by omega)
  have d4 : decide ((224 : Int) ≤ (t[a].toNat : Int)) = true := decide_eq_true (by omega)
  have d5 : decide ((t[a].toNat : Int) < 240) = true := decide_eq_true (by omega)
  have d6 : decide ((240 : Int) ≤ (t[a].toNat : Int)) = false := decide_eq_false (by omega)
  have d7 : decide ((t[a].toNat : Int) < 245) = true := decide_eq_true (by omega)
  generalize chr t a = res at HC ⊢
  generalize goB t (a + 1) 128 191 = one at G1 HC
  generalize goB t (a + 2) 128 191 = two at G2 HC
  generalize goB t (a + 3) 128 191 = three at G3
  clear hr
  go_enter Tryz.func141, Tryz.ntmps141
  go_wp2_with fail
  refine Calls.mono (G1.out _) ?_
  rintro e w2 ⟨rfl, rfl⟩
  go_wp2_with fail
  refine Calls.mono (G2.out _) ?_
  rintro e w3 ⟨rfl, rfl⟩
  go_wp2_with fail
  refine Calls.mono (G3.out _) ?_
  rintro e w4 ⟨rfl, rfl⟩
  cases one
  · go_wp2_with fail
    go_ret
    exact ⟨ret_i64 (by rw [HC.out]; rw [if_neg (by simp)]; rfl), rfl⟩
  cases two
  · go_wp2_with fail
    go_ret
    exact ⟨ret_i64 (by rw [HC.out]; rw [if_neg (by simp)]; rfl), rfl⟩
  · go_wp2_with fail
    go_ret
    exact ⟨ret_i64 (by rw [HC.out]; rw [if_pos (by simp)]; rfl), rfl⟩

set_option maxHeartbeats 400000 in
set_option maxRecDepth 100000 in
theorem char_6 (t : ByteArray) (a : Nat) (w : World) (hm : t.size ≤ 140737488355328) (ha : a < t.size) (hr : (t[a].toNat : Int) = 237) :
    Calls Tryz.prog 141 #[.string t, .int .i64 a] w fun e w' => e = .returned (.int .i64 (chr t a)) ∧ w' = w := by
  have HE : Hid ((t[a].toNat : Int) = b8 t a) := b8_get t a ha
  have hx : (t[a].toNat : Int) < 256 := by have := t[a].toNat_lt; omega
  have G1 : Hid (∀ w, Calls Tryz.prog 160 #[.string t, .int .i64 ((a : Int) + 1), .int .i64 128, .int .i64 159] w fun e w' => e = .returned (.bool (goB t (a + 1) 128 159)) ∧ w = w') := fun w => (goes_any t (a + 1) 128 159 w (by omega)).mono fun e w' h => ⟨h.1, h.2.symm⟩
  have G2 : Hid (∀ w, Calls Tryz.prog 160 #[.string t, .int .i64 ((a : Int) + 2), .int .i64 128, .int .i64 191] w fun e w' => e = .returned (.bool (goB t (a + 2) 128 191)) ∧ w = w') := fun w => (goes_any t (a + 2) 128 191 w (by omega)).mono fun e w' h => ⟨h.1, h.2.symm⟩
  have G3 : Hid (∀ w, Calls Tryz.prog 160 #[.string t, .int .i64 ((a : Int) + 3), .int .i64 128, .int .i64 191] w fun e w' => e = .returned (.bool (goB t (a + 3) 128 191)) ∧ w = w') := fun w => (goes_any t (a + 3) 128 191 w (by omega)).mono fun e w' h => ⟨h.1, h.2.symm⟩
  have HC : Hid (chr t a = if goB t (a + 1) 128 159 = true ∧ goB t (a + 2) 128 191 = true then 3 else 0) := by
    have e := HE.out
    exact chr_3 t a 128 159 (by omega) (by omega) (by unfold loB; rw [if_neg (by omega), if_neg (by omega)]) (by unfold hiB; rw [if_pos (by omega)])
  have e224 : ((t[a].toNat : Int) == 224) = false := by rw [beq_eq_false_iff_ne]; omega
  have e237 : ((t[a].toNat : Int) == 237) = true := by rw [beq_iff_eq]; omega
  have e240 : ((t[a].toNat : Int) == 240) = false := by rw [beq_eq_false_iff_ne]; omega
  have e244 : ((t[a].toNat : Int) == 244) = false := by rw [beq_eq_false_iff_ne]; omega
  have d1 : decide ((t[a].toNat : Int) < 128) = false := decide_eq_false (by omega)
  have d2 : decide ((194 : Int) ≤ (t[a].toNat : Int)) = true := decide_eq_true (by omega)
  have d3 : decide ((t[a].toNat : Int) < 224) = false := decide_eq_false (by omega)
  have d4 : decide ((224 : Int) ≤ (t[a].toNat : Int)) = true := decide_eq_true (by omega)
  have d5 : decide ((t[a].toNat : Int) < 240) = true := decide_eq_true (by omega)
  have d6 : decide ((240 : Int) ≤ (t[a].toNat : Int)) = false := decide_eq_false (by omega)
  have d7 : decide ((t[a].toNat : Int) < 245) = true := decide_eq_true (by omega)
  generalize chr t a = res at HC ⊢
  generalize goB t (a + 1) 128 159 = one at G1 HC
  generalize goB t (a + 2) 128 191 = two at G2 HC
  generalize goB t (a + 3) 128 191 = three at G3
  clear hr
  go_enter Tryz.func141, Tryz.ntmps141
  go_wp2_with fail
  refine Calls.mono (G1.out _) ?_
  rintro e w2 ⟨rfl, rfl⟩
  go_wp2_with fail
  refine Calls.mono (G2.out _) ?_
  rintro e w3 ⟨rfl, rfl⟩
  go_wp2_with fail
  refine Calls.mono (G3.out _) ?_
  rintro e w4 ⟨rfl, rfl⟩
  cases one
  · go_wp2_with fail
    go_ret
    exact ⟨ret_i64 (by rw [HC.out]; rw [if_neg (by simp)]; rfl), rfl⟩
  cases two
  · go_wp2_with fail
    go_ret
    exact ⟨ret_i64 (by rw [HC.out]; rw [if_neg (by simp)]; rfl), rfl⟩
  · go_wp2_with fail
    go_ret
    exact ⟨ret_i64 (by rw [HC.out]; rw [if_pos (by simp)]; rfl), rfl⟩

set_option maxHeartbeats 400000 in
set_option maxRecDepth 100000 in
theorem char_7 (t : ByteArray) (a : Nat) (w : World) (hm : t.size ≤ 140737488355328) (ha : a < t.size) (hr : 238 ≤ (t[a].toNat : Int) ∧ (t[a].toNat : Int) < 240) :
    Calls Tryz.prog 141 #[.string t, .int .i64 a] w fun e w' => e = .returned (.int .i64 (chr t a)) ∧ w' = w := by
  have HE : Hid ((t[a].toNat : Int) = b8 t a) := b8_get t a ha
  have hx : (t[a].toNat : Int) < 256 := by have := t[a].toNat_lt; omega
  have G1 : Hid (∀ w, Calls Tryz.prog 160 #[.string t, .int .i64 ((a : Int) + 1), .int .i64 128, .int .i64 191] w fun e w' => e = .returned (.bool (goB t (a + 1) 128 191)) ∧ w = w') := fun w => (goes_any t (a + 1) 128 191 w (by omega)).mono fun e w' h => ⟨h.1, h.2.symm⟩
  have G2 : Hid (∀ w, Calls Tryz.prog 160 #[.string t, .int .i64 ((a : Int) + 2), .int .i64 128, .int .i64 191] w fun e w' => e = .returned (.bool (goB t (a + 2) 128 191)) ∧ w = w') := fun w => (goes_any t (a + 2) 128 191 w (by omega)).mono fun e w' h => ⟨h.1, h.2.symm⟩
  have G3 : Hid (∀ w, Calls Tryz.prog 160 #[.string t, .int .i64 ((a : Int) + 3), .int .i64 128, .int .i64 191] w fun e w' => e = .returned (.bool (goB t (a + 3) 128 191)) ∧ w = w') := fun w => (goes_any t (a + 3) 128 191 w (by omega)).mono fun e w' h => ⟨h.1, h.2.symm⟩
  have HC : Hid (chr t a = if goB t (a + 1) 128 191 = true ∧ goB t (a + 2) 128 191 = true then 3 else 0) := by
    have e := HE.out
    exact chr_3 t a 128 191 (by omega) (by omega) (by unfold loB; rw [if_neg (by omega), if_neg (by omega)]) (by unfold hiB; rw [if_neg (by omega), if_neg (by omega)])
  have e224 : ((t[a].toNat : Int) == 224) = false := by rw [beq_eq_false_iff_ne]; omega
  have e237 : ((t[a].toNat : Int) == 237) = false := by rw [beq_eq_false_iff_ne]; omega
  have e240 : ((t[a].toNat : Int) == 240) = false := by rw [beq_eq_false_iff_ne]; omega
  have e244 : ((t[a].toNat : Int) == 244) = false := by rw [beq_eq_false_iff_ne]; omega
  have d1 : decide ((t[a].toNat : Int) < 128) = false := decide_eq_false (by omega)
  have d2 : decide ((194 : Int) ≤ (t[a].toNat : Int)) = true := decide_eq_true (by omega)
  have d3 : decide ((t[a].toNat : Int) < 224) = false := decide_eq_false (by omega)
  have d4 : decide ((224 : Int) ≤ (t[a].toNat : Int)) = true := decide_eq_true (by omega)
  have d5 : decide ((t[a].toNat : Int) < 240) = true := decide_eq_true (by omega)
  have d6 : decide ((240 : Int) ≤ (t[a].toNat : Int)) = false := decide_eq_false (by omega)
  have d7 : decide ((t[a].toNat : Int) < 245) = true := decide_eq_true (by omega)
  generalize chr t a = res at HC ⊢
  generalize goB t (a + 1) 128 191 = one at G1 HC
  generalize goB t (a + 2) 128 191 = two at G2 HC
  generalize goB t (a + 3) 128 191 = three at G3
  clear hr
  go_enter Tryz.func141, Tryz.ntmps141
  go_wp2_with fail
  refine Calls.mono (G1.out _) ?_
  rintro e w2 ⟨rfl, rfl⟩
  go_wp2_with fail
  refine Calls.mono (G2.out _) ?_
  rintro e w3 ⟨rfl, rfl⟩
  go_wp2_with fail
  refine Calls.mono (G3.out _) ?_
  rintro e w4 ⟨rfl, rfl⟩
  cases one
  · go_wp2_with fail
    go_ret
    exact ⟨ret_i64 (by rw [HC.out]; rw [if_neg (by simp)]; rfl), rfl⟩
  cases two
  · go_wp2_with fail
    go_ret
    exact ⟨ret_i64 (by rw [HC.out]; rw [if_neg (by simp)]; rfl), rfl⟩
  · go_wp2_with fail
    go_ret
    exact ⟨ret_i64 (by rw [HC.out]; rw [if_pos (by simp)]; rfl), rfl⟩

end Go.Proofs.YtjceeljaljdmoaaGreatDoor
