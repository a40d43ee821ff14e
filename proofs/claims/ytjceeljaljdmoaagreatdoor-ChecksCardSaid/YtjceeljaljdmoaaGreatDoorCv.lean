/-
  Contents: Utf8: what the document's functions answer (the other half).
-/
import Derived.Test.YtjceeljaljdmoaaGreatDoorCu
namespace Go.Proofs.YtjceeljaljdmoaaGreatDoor
open Go.RowKit

set_option maxHeartbeats 400000 in
set_option maxRecDepth 100000 in
theorem char_8 (t : ByteArray) (a : Nat) (w : World) (hm : t.size ≤ 140737488355328) (ha : a < t.size) (hr : (t[a].toNat : Int) = 240) :
    Calls Tryz.prog 141 #[.string t, .int .i64 a] w fun e w' => e = .returned (.int .i64 (chr t a)) ∧ w' = w := by
  have HE : Hid ((t[a].toNat : Int) = b8 t a) := b8_get t a ha
  have hx : (t[a].toNat : Int) < 256 := by have := t[a].toNat_lt; omega
  have G1 : Hid (∀ w, Calls Tryz.prog 160 #[.string t, .int .i64 ((a : Int) + 1), .int .i64 144, .int .i64 191] w fun e w' => e = .returned (.bool (goB t (a + 1) 144 191)) ∧ w = w') := fun w => (goes_any t (a + 1) 144 191 w (by omega)).mono fun e w' h => ⟨h.1, h.2.symm⟩
  have G2 : Hid (∀ w, Calls Tryz.prog 160 #[.string t, .int .i64 ((a : Int) + 2), .int .i64 128, .int .i64 191] w fun e w' => e = .returned (.bool (goB t (a + 2) 128 191)) ∧ w = w') := fun w => (goes_any t (a + 2) 128 191 w (by omega)).mono fun e w' h => ⟨h.1, h.2.symm⟩
  have G3 : Hid (∀ w, Calls Tryz.prog 160 #[.string t, .int .i64 ((a : Int) + 3), .int .i64 128, .int .i64 191] w fun e w' => e = .returned (.bool (goB t (a + 3) 128 191)) ∧ w = w') := fun w => (goes_any t (a + 3) 128 191 w (by omega)).mono fun e w' h => ⟨h.1, h.2.symm⟩
  have HC : Hid (chr t a = if goB t (a + 1) 144 191 = true ∧ goB t (a + 2) 128 191 = true ∧ goB t (a + 3) 128 191 = true then 4 else 0) := by
    have e := HE.out
    exact chr_4 t a 144 191 (by omega) (by omega) (by unfold loB; rw [if_neg (by omega), if_pos (by omega)]) (by unfold hiB; rw [if_neg (by omega), if_neg (by omega)])
  have e224 : ((t[a].toNat : Int) == 224) = false := by rw [beq_eq_false_iff_ne]; omega
  have e237 : ((t[a].toNat : Int) == 237) = false := by rw [beq_eq_false_iff_ne]; omega
  have e240 : ((t[a].toNat : Int) == 240) = true := by rw [beq_iff_eq]; omega
  have e244 : ((t[a].toNat : Int) == 244) = false := by rw [beq_eq_false_iff_ne]; omega
  have d1 : decide ((t[a].toNat : Int) < 128) = false := decide_eq_false (by omega)
  have d2 : decide ((194 : Int) ≤ (t[a].toNat : Int)) = true := decide_eq_true (by omega)
  have d3 : decide ((t[a].toNat : Int) < 224) = false := decide_eq_false (by omega)
  have d4 : decide ((224 : Int) ≤ (t[a].toNat : Int)) = true := decide_eq_true (by omega)
  have d5 : decide ((t[a].toNat : Int) < 240) = false := decide_eq_false (by omega)
  have d6 : decide ((240 : Int) ≤ (t[a].toNat : Int)) = true := decide_eq_true (by omega)
  have d7 : decide ((t[a].toNat : Int) < 245) = true := decide_eq_true (by omega)
  generalize chr t a = res at HC ⊢
  generalize goB t (a + 1) 144 191 = one at G1 HC
  generalize goB t (a + 2) 128 191 = two at G2 HC
  generalize goB t (a + 3) 128 191 = three at G3 HC
  clear hr
  go_enter Tryz.func141, Tryz.ntmps141
  go_wp2_with fail
  refine Calls.mono (G1.out _) ?_
  rintro e w2 ⟨rfl, rfl⟩
  go_wp2_with fail
  refine Calls.mono (G2.out _) ?_
  rintro e w3 ⟨rfl, rfl⟩
  go_wp2_with fail
  refine Calls.mono (G3.out _) ?_
  rintro e w4 ⟨rfl, rfl⟩
  cases one
  · go_wp2_with fail
    go_ret
    exact ⟨ret_i64 (by rw [HC.out]; rw [if_neg (by simp)]; rfl), rfl⟩
  cases two
  · go_wp2_with fail
    go_ret
    exact ⟨ret_i64 (by rw [HC.out]; rw [if_neg (by simp)]; rfl), rfl⟩
  cases three
  · go_wp2_with fail
    go_ret
    exact ⟨ret_i64 (by rw [HC.out]; rw [if_neg (by simp)]; rfl), rfl⟩
  · go_wp2_with fail
    go_ret
    exact ⟨ret_i64 (by rw [HC.out]; rw [if_pos (by simp)]; rfl), rfl⟩

set_option maxHeartbeats 400000 in
set_option maxRecDepth 100000 in
theorem char_9 (t : ByteArray) (a : Nat) (w : World) (hm : t.size ≤ 140737488355328) (ha : a < t.size) (hr : 241 ≤ (t[a].toNat : Int) ∧ (t[a].toNat : Int) < 244) :
    Calls Tryz.prog 141 #[.string t, .int .i64 a] w fun e w' => e = .returned (.int .i64 (chr t a)) ∧ w' = w := by
  have HE : Hid ((t[a].toNat : Int) = b8 t a) := b8_get t a ha
  have hx : (t[a].toNat : Int) < 256 := by have := t[a].toNat_lt; omega
  have G1 : Hid (∀ w, Calls Tryz.prog 160 #[.string t, .int .i64 ((a : Int) + 1), .int .i64 128, .int .i64 191] w fun e w' => e = .returned (.bool (goB t (a + 1) 128 191)) ∧ w = w') := fun w => (goes_any t (a + 1) 128 191 w (by omega)).mono fun e w' h => ⟨h.1, h.2.symm⟩
  have G2 : Hid (∀ w, Calls Tryz.prog 160 #[.string t, .int .i64 ((a : Int) + 2), .int .i64 128, .int .i64 191] w fun e w' => e = .returned (.bool (goB t (a + 2) 128 191)) ∧ w = w') := fun w => (goes_any t (a + 2) 128 191 w (by omega)).mono fun e w' h => ⟨h.1, h.2.symm⟩
  have G3 : Hid (∀ w, Calls Tryz.prog 160 #[.string t, .int .i64 ((a : Int) + 3), .int .i64 128, .int .i64 191] w fun e w' => e = .returned (.bool (goB t (a + 3) 128 191)) ∧ w = w') := fun w => (goes_any t (a + 3) 128 191 w (by omega)).mono fun e w' h => ⟨h.1, h.2.symm⟩
  have HC : Hid (chr t a = if goB t (a + 1) 128 191 = true ∧ goB t (a + 2) 128 191 = true ∧ goB t (a + 3) 128 191 = true then 4 else 0) := by
    have e := HE.out
    exact chr_4 t a 128 191 (by omega) (by omega) (by unfold loB; rw [if_neg (by omega), if_neg (by omega)]) (by unfold hiB; rw [if_neg (by omega), if_neg (by omega)])
  have e224 : ((t[a].toNat : Int) == 224) = false := by rw [beq_eq_false_iff_ne]; omega
  have e237 : ((t[a].toNat : Int) == 237) = false := by rw [beq_eq_false_iff_ne]; omega
  have e240 : ((t[a].toNat : Int) == 240) = false := by rw [beq_eq_false_iff_ne]; omega
  have e244 : ((t[a].toNat : Int) == 244) = false := by rw [beq_eq_false_iff_ne]; omega
  have d1 : decide ((t[a].toNat : Int) < 128) = false := decide_eq_false (by omega)
  have d2 : decide ((194 : Int) ≤ (t[a].toNat : Int)) = true := decide_eq_true (by omega)
  have d3 : decide ((t[a].toNat : Int) < 224) = false := decide_eq_false (by omega)
  have d4 : decide ((224 : Int) ≤ (t[a].toNat : Int)) = true := decide_eq_true (by omega)
  have d5 : decide ((t[a].toNat : Int) < 240) = false := decide_eq_false (by omega)
  have d6 : decide ((240 : Int) ≤ (t[a].toNat : Int)) = true := decide_eq_true (by omega)
  have d7 : decide ((t[a].toNat : Int) < 245) = true := decide_eq_true (by omega)
  generalize chr t a = res at HC ⊢
  generalize goB t (a + 1) 128 191 = one at G1 HC
  generalize goB t (a + 2) 128 191 = two at G2 HC
  generalize goB t (a + 3) 128 191 = three at G3 HC
  clear hr
  go_enter Tryz.func141, Tryz.ntmps141
  go_wp2_with fail
  refine Calls.mono (G1.out _) ?_
  rintro e w2 ⟨rfl, rfl⟩
  go_wp2_with fail
  refine Calls.mono (G2.out _) ?_
  rintro e w3 ⟨rfl, rfl⟩
  go_wp2_with fail
  refine Calls.mono (G3.out _) ?_
  rintro e w4 ⟨rfl, rfl⟩
  cases one
  · go_wp2_with fail
    go_ret
    exact ⟨ret_i64 (by rw [HC.out]; rw [if_neg (by simp)]; rfl), rfl⟩
  cases two
  · go_wp2_with fail
    go_ret
    exact ⟨ret_i64 (by rw [HC.out]; rw [if_neg (by simp)]; rfl), rfl⟩
  cases three
  · go_wp2_with fail
    go_ret
    exact ⟨ret_i64 (by rw [HC.out]; rw [if_neg (by simp)]; rfl), rfl⟩
  · go_wp2_with fail
    go_ret
    exact ⟨ret_i64 (by rw [HC.out]; rw [if_pos (by simp)]; rfl), rfl⟩

set_option maxHeartbeats 400000 in
set_option maxRecDepth 100000 in
theorem char_10 (t : ByteArray) (a : Nat) (w : World) (hm : t.size ≤ 140737488355328) (ha : a < t.size) (hr : (t[a].toNat : Int) = 244) :
    Calls Tryz.prog 141 #[.string t, .int .i64 a] w fun e w' => e = .returned (.int .i64 (chr t a)) ∧ w' = w := by
  have HE : Hid ((t[a].toNat : Int) = b8 t a) := b8_get t a ha
  have hx : (t[a].toNat : Int) < 256 := by have := t[a].toNat_lt; omega
  have G1 : Hid (∀ w, Calls Tryz.prog 160 #[.string t, .int .i64 ((a : Int) + 1), .int .i64 128, .int .i64 143] w fun e w' => e = .returned (.bool (goB t (a + 1) 128 143)) ∧ w = w') := fun w => (goes_any t (a + 1) 128 143 w (by omega)).mono fun e w' h => ⟨h.1, h.2.symm⟩
  have G2 : Hid (∀ w, Calls Tryz.prog 160 #[.string t, .int .i64 ((a : Int) + 2), .int .i64 128, .int .i64 191] w fun e w' => e = .returned (.bool (goB t (a + 2) 128 191)) ∧ w = w') := fun w => (goes_any t (a + 2) 128 191 w (by omega)).mono fun e w' h => ⟨h.1, h.2.symm⟩
  have G3 : Hid (∀ w, Calls Tryz.prog 160 #[.string t, .int .i64 ((a : Int) + 3), .int .i64 128, .int .i64 191] w fun e w' => e = .returned (.bool (goB t (a + 3) 128 191)) ∧ w = w') := fun w => (goes_any t (a + 3) 128 191 w (by omega)).mono fun e w' h => ⟨h.1, h.2.symm⟩
  have HC : Hid (chr t a = if goB t (a + 1) 128 143 = true ∧ goB t (a + 2) 128 191 = true ∧ goB t (a + 3) 128 191 = true then 4 else 0) := by
    have e := HE.out
    exact chr_4 t a 128 143 (by omega) (by omega) (by unfold loB; rw [if_neg (by omega), if_neg (by omega)]) (by unfold hiB; rw [if_neg (by omega), if_pos (by omega)])
  have e224 : ((t[a].toNat : Int) == 224) = false := by rw [beq_eq_false_iff_ne]; omega
  have e237 : ((t[a].toNat : Int) == 237) = false := by rw [beq_eq_false_iff_ne]; omega
  have e240 : ((t[a].toNat : Int) == 240) = false := by rw [beq_eq_false_iff_ne]; omega
  have e244 : ((t[a].toNat : Int) == 244) = true := by rw [beq_iff_eq]; omega
  have d1 : decide ((t[a].toNat : Int) < 128) = false := decide_eq_false (by omega)
  have d2 : decide ((194 : Int) ≤ (t[a].toNat : Int)) = true := decide_eq_true (by omega)
  have d3 : decide ((t[a].toNat : Int) < 224) = false := decide_eq_false (by omega)
  have d4 : decide ((224 : Int) ≤ (t[a].toNat : Int)) = true := decide_eq_true (by omega)
  have d5 : decide ((t[a].toNat : Int) < 240) = false := decide_eq_false (by omega)
  have d6 : decide ((240 : Int) ≤ (t[a].toNat : Int)) = true := decide_eq_true (by omega)
  have d7 : decide ((t[a].toNat : Int) < 245) = true := decide_eq_true (by omega)
  generalize chr t a = res at HC ⊢
  generalize goB t (a + 1) 128 143 = one at G1 HC
  generalize goB t (a + 2) 128 191 = two at G2 HC
  generalize goB t (a + 3) 128 191 = three at G3 HC
  clear hr
  go_enter Tryz.func141, Tryz.ntmps141
  go_wp2_with fail
  refine Calls.mono (G1.out _) ?_
  rintro e w2 ⟨rfl, rfl⟩
  go_wp2_with fail
  refine Calls.mono (G2.out _) ?_
  rintro e w3 ⟨rfl, rfl⟩
  go_wp2_with fail
  refine Calls.mono (G3.out _) ?_
  rintro e w4 ⟨rfl, rfl⟩
  cases one
  · go_wp2_with fail
    go_ret
    exact ⟨ret_i64 (by rw [HC.out]; rw [if_neg (by simp)]; rfl), rfl⟩
  cases two
  · go_wp2_with fail
    go_ret
    exact ⟨ret_i64 (by rw [HC.out]; rw [if_neg (by simp)]; rfl), rfl⟩
  cases three
  · go_wp2_with fail
    go_ret
    exact ⟨ret_i64 (by rw [HC.out]; rw [if_neg (by simp)]; rfl), rfl⟩
  · go_wp2_with fail
    go_ret
    exact ⟨ret_i64 (by rw [HC.out]; rw [if_pos (by simp)]; rfl), rfl⟩

set_option maxHeartbeats 400000 in
set_option maxRecDepth 100000 in
theorem char_11 (t : ByteArray) (a : Nat) (w : World) (hm : t.size ≤ 140737488355328) (ha : a < t.size) (hr : 245 ≤ (t[a].toNat : Int)) :
    Calls Tryz.prog 141 #[.string t, .int .i64 a] w fun e w' => e = .returned (.int .i64 (chr t a)) ∧ w' = w := by
  have HE : Hid ((t[a].toNat : Int) = b8 t a) := b8_get t a ha
  have hx : (t[a].toNat : Int) < 256 := by have := t[a].toNat_lt; omega
  have G1 : Hid (∀ w, Calls Tryz.prog 160 #[.string t, .int .i64 ((a : Int) + 1), .int .i64 128, .int .i64 191] w fun e w' => e = .returned (.bool (goB t (a + 1) 128 191)) ∧ w = w') := fun w => (goes_any t (a + 1) 128 191 w (by omega)).mono fun e w' h => ⟨h.1, h.2.symm⟩
  have G2 : Hid (∀ w, Calls Tryz.prog 160 #[.string t, .int .i64 ((a : Int) + 2), .int .i64 128, .int .i64 191] w fun e w' => e = .returned (.bool (goB t (a + 2) 128 191)) ∧ w = w') := fun w => (goes_any t (a + 2) 128 191 w (by omega)).mono fun e w' h => ⟨h.1, h.2.symm⟩
  have G3 : Hid (∀ w, Calls Tryz.prog 160 #[.string t, .int .i64 ((a : Int) + 3), .int .i64 128, .int .i64 191] w fun e w' => e = .returned (.bool (goB t (a + 3) 128 191)) ∧ w = w') := fun w => (goes_any t (a + 3) 128 191 w (by omega)).mono fun e w' h => ⟨h.1, h.2.symm⟩
  have HC : Hid (chr t a = 0) := chr_0 t a (by rw [← HE.out]; omega)
  have e224 : ((t[a].toNat : Int) == 224) = false := by rw [beq_eq_false_iff_ne]; omega
  have e237 : ((t[a].toNat : Int) == 237) = false := by rw [beq_eq_false_iff_ne]; omega
  have e240 : ((t[a].toNat : Int) == 240) = false := by rw [beq_eq_false_iff_ne]; omega
  have e244 : ((t[a].toNat : Int) == 244) = false := by rw [beq_eq_false_iff_ne]; omega
  have d1 : decide ((t[a].toNat : Int) < 128) = false := decide_eq_false (by omega)
  have d2 : decide ((194 : Int) ≤ (t[a].toNat : Int)) = true := decide_eq_true (by omega)
  have d3 : decide ((t[a].toNat : Int) < 224) = false := decide_eq_false (by omega)
  have d4 : decide ((224 : Int) ≤ (t[a].toNat : Int)) = true := decide_eq_true (by omega)
  have d5 : decide ((t[a].toNat : Int) < 240) = false := decide_eq_false (by omega)
  have d6 : decide ((240 : Int) ≤ (t[a].toNat : Int)) = true := decide_eq_true (by omega)
  have d7 : decide ((t[a].toNat : Int) < 245) = false := decide_eq_false (by omega)
  generalize chr t a = res at HC ⊢
  generalize goB t (a + 1) 128 191 = one at G1
  generalize goB t (a + 2) 128 191 = two at G2
  generalize goB t (a + 3) 128 191 = three at G3
  clear hr
  go_enter Tryz.func141, Tryz.ntmps141
  go_wp2_with fail
  refine Calls.mono (G1.out _) ?_
  rintro e w2 ⟨rfl, rfl⟩
  go_wp2_with fail
  refine Calls.mono (G2.out _) ?_
  rintro e w3 ⟨rfl, rfl⟩
  go_wp2_with fail
  refine Calls.mono (G3.out _) ?_
  rintro e w4 ⟨rfl, rfl⟩
  go_wp2_with fail
  go_ret
  exact ⟨ret_i64 (by rw [HC.out]; rfl), rfl⟩

set_option maxHeartbeats 400000 in
set_option maxRecDepth 100000 in
theorem char_any (t : ByteArray) (a : Nat) (w : World) (hm : t.size ≤ 140737488355328) (ha : a < t.size) :
    Calls Tryz.prog 141 #[.string t, .int .i64 a] w fun e w' => e = .returned (.int .i64 (chr t a)) ∧ w' = w := by
  by_cases h1 : (t[a].toNat : Int) < 128
  · exact char_1 t a w hm ha h1
  by_cases h2 : 128 ≤ (t[a].toNat : Int) ∧ (t[a].toNat : Int) < 194
  · exact char_2 t a w hm ha h2
  by_cases h3 : 194 ≤ (t[a].toNat : Int) ∧ (t[a].toNat : Int) < 224
  · exact char_3 t a w hm ha h3
  by_cases h4 : (t[a].toNat : Int) = 224
  · exact char_4 t a w hm ha h4
  by_cases h5 : 225 ≤ (t[a].toNat : Int) ∧ (t[a].toNat : Int) < 237
  · exact char_5 t a w hm ha h5
  by_cases h6 : (t[a].toNat : Int) = 237
  · exact char_6 t a w hm ha h6
  by_cases h7 : 238 ≤ (t[a].toNat : Int) ∧ (t[a].toNat : Int) < 240
  · exact char_7 t a w hm ha h7
  by_cases h8 : (t[a].toNat : Int) = 240
  · exact char_8 t a w hm ha h8
  by_cases h9 : 241 ≤ (t[a].toNat : Int) ∧ (t[a].toNat : Int) < 244
  · exact char_9 t a w hm ha h9
  by_cases h10 : (t[a].toNat : Int) = 244
  · exact char_10 t a w hm ha h10
  exact char_11 t a w hm ha (by omega)

/-- From a place on: characters, to the end (n: how many at the most). -/
def uTo (t : ByteArray) : Nat → Nat → Prop
  | 0, k => t.size ≤ k
  | n + 1, k => t.size ≤ k ∨ (chr t k ≠ 0 ∧ uTo t n (k + chr t k))
theorem uTo_mono (t : ByteArray) : ∀ (n k : Nat), uTo t n k → uTo t (n + 1) k
  | 0, _, h => .inl h
  | n + 1, k, h => by
    rcases h with h | ⟨h1, h2⟩
    · exact .inl h
    · exact .inr ⟨h1, uTo_mono t n _ h2⟩
/-- Characters, to the end. -/
def Utf8From (t : ByteArray) (k : Nat) : Prop := ∃ n, uTo t n k
def Utf8Ok (t : ByteArray) : Prop := Utf8From t 0
theorem utf8_end (t : ByteArray) (k : Nat) (h : t.size ≤ k) : Utf8From t k := ⟨0, h⟩
theorem utf8_step (t : ByteArray) (k : Nat) (h : k < t.size) : Utf8From t k ↔ chr t k ≠ 0 ∧ Utf8From t (k + chr t k) := by
  constructor
  · rintro ⟨n, hn⟩
    cases n with
    | zero => have : t.size ≤ k := hn; omega
    | succ n =>
      rcases hn with h' | ⟨h1, h2⟩
      · omega
      · exact ⟨h1, n, h2⟩
  · rintro ⟨h1, n, h2⟩
    exact ⟨n + 1, .inr ⟨h1, h2⟩⟩
theorem chr_le (t : ByteArray) (k : Nat) (h : k < t.size) : k + chr t k ≤ t.size := by
  have g : ∀ {a : Nat} {lo hi : Int}, goB t a lo hi = true → a < t.size := fun {a lo hi} e => by
    unfold goB at e
    exact (of_decide_eq_true e).1
  unfold chr
  split
  · omega
  split
  · rename_i e; have := g e.2.2; omega
  split
  · rename_i e; have := g e.2.2.2; omega
  split
  · rename_i e; have := g e.2.2.2.2; omega
  · omega

set_option maxHeartbeats 1000000 in
set_option maxRecDepth 100000 in
theorem isUtf8_any (t : ByteArray) (w : World) (hm : t.size ≤ 140737488355328) :
    Calls Tryz.prog 111 #[.string t] w fun e w' => RetB (Utf8Ok t) w e w' := by
  go_enter Tryz.func111, Tryz.ntmps111
  go_wp2
  go_loop [3] (fun i => ∃ k : Nat, k ≤ t.size ∧ i = .int .i64 k ∧ (Utf8Ok t ↔ Utf8From t k)) (fun i => t.size - (intOf i).toNat)
  case atStart => exact ⟨0, by omega, rfl, Iff.rfl⟩
  case round =>
    obtain ⟨k, hk, rfl, hu⟩ := hrel
    have HU : Hid (Utf8Ok t ↔ Utf8From t k) := hu
    clear hu
    by_cases hlt : k < t.size
    · have HS : Hid (Utf8From t k ↔ chr t k ≠ 0 ∧ Utf8From t (k + chr t k)) := utf8_step t k hlt
      have hc := chr_le t k hlt
      have HC : Hid (∀ w, Calls Tryz.prog 141 #[.string t, .int .i64 k] w fun e w' => e = .returned (.int .i64 (chr t k)) ∧ w = w') := fun w => (char_any t k w hm hlt).mono fun e w' h => ⟨h.1, h.2.symm⟩
      generalize chr t k = c at HS hc HC
      go_wp2_with fail
      refine Calls.mono (HC.out _) ?_
      rintro e w2 ⟨rfl, rfl⟩
      by_cases hz : c = 0
      · have HN : Hid (¬ Utf8Ok t) := fun h => (HS.out.1 (HU.out.1 h)).1 hz
        have hz' : ((c : Int) == 0) = true := by rw [beq_iff_eq]; omega
        clear hz
        go_wp2_with fail
        go_ret
        exact ret_no HN.out (drew0 _)
      · have HX : Hid (Utf8Ok t ↔ Utf8From t (k + c)) := HU.out.trans (HS.out.trans ⟨fun h => h.2, fun h => ⟨hz, h⟩⟩)
        have hz' : ((c : Int) == 0) = false := by rw [beq_eq_false_iff_ne]; omega
        have hpos : 1 ≤ c := by omega
        clear hz
        go_wp2_with fail
        go_round
        case rel => exact ⟨k + c, by omega, by go_num, HX.out⟩
        case measure => simp [intOf]; omega
    · have HY : Hid (Utf8Ok t) := HU.out.2 (utf8_end t k (by omega))
      go_wp2
      go_ret
      exact ret_yes HY.out (drew0 w)
end Go.Proofs.YtjceeljaljdmoaaGreatDoor
