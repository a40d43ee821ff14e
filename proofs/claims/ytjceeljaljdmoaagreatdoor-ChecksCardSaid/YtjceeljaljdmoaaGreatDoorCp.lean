/-
  Contents: Printable: what the program's and the document's functions answer.
-/
import Derived.Test.YtjceeljaljdmoaaGreatDoorCt
import Derived.Lib.Bytealg
namespace Go.Proofs.YtjceeljaljdmoaaGreatDoor
open Go.RowKit

/-- The signs beside letters and digits. -/
def signs : List UInt8 := [32, 39, 40, 41, 43, 44, 45, 46, 47, 58, 61, 63]
/-- A sign that a Printable may have. -/
def pr (x : Nat) : Bool := (65 ≤ x && x ≤ 90) || (97 ≤ x && x ≤ 122) || (48 ≤ x && x ≤ 57) || signs.contains (UInt8.ofNat x)
def PrOk (t : ByteArray) : Prop := ∀ i, i < t.size → pr (b8 t i).toNat = true
theorem idx_signs : ∀ x : Fin 256, decide (0 ≤ Lib.indexByte signs (Nat.toUInt8 x.val)) = signs.contains (UInt8.ofNat x.val) := by decide +kernel
/-- All of them, as the document lists them. -/
def prAll : List UInt8 := [48, 49, 50, 51, 52, 53, 54, 55, 56, 57, 97, 98, 99, 100, 101, 102, 103, 104, 105, 106, 107, 108, 109, 110, 111, 112, 113, 114, 115, 116, 117, 118, 119, 120, 121, 122, 65, 66, 67, 68, 69, 70, 71, 72, 73, 74, 75, 76, 77, 78, 79, 80, 81, 82, 83, 84, 85, 86, 87, 88, 89, 90, 32, 39, 40, 41, 43, 44, 45, 46, 47, 58, 61, 63]
theorem pr_all : ∀ x : Fin 256, pr x.val = prAll.contains (UInt8.ofNat x.val) := by decide +kernel

theorem Tryz.callIdx (t : ByteArray) (c : Int) (w : World) : (callFunc 173 #[.string t, .int .u8 c]).run Tryz.prog w = .ok (.value (.int .i64 (Lib.indexByte t.data.toList c.toNat.toUInt8))) w := by
  rw [@run_callFunc_extern Tryz.prog 173 _ Extern.BytealgIndexByte.indexByte Tryz.func173 (by kernel_rfl) (by kernel_rfl) (by kernel_rfl) (by kernel_rfl), Lib.run_indexByteString]
  rfl

theorem ret_b {a b : Bool} (h : a = b) : Ending.returned (.bool a) = .returned (.bool b) := by rw [h]

set_option maxHeartbeats 1000000 in
set_option maxRecDepth 100000 in
theorem isPrintable_any (x : Nat) (w : World) (hx : x < 256) :
    Calls Tryz.prog 155 #[.int .u8 x] w fun e w' => e = .returned (.bool (pr x)) ∧ w' = w := by
  by_cases h1 : 65 ≤ x ∧ x ≤ 90
  · have HP : Hid (true = pr x) := by show _ = _; simp [pr, h1]
    obtain ⟨h1, h2⟩ := h1
    go_enter Tryz.func155, Tryz.ntmps155
    go_wp2
    go_ret
    exact ⟨ret_b HP.out, rfl⟩
  by_cases h2 : 97 ≤ x ∧ x ≤ 122
  · have HP : Hid (true = pr x) := by show _ = _; simp [pr, h2]
    have h3 : decide ((x : Int) ≤ 90) = false := decide_eq_false (by omega)
    obtain ⟨h4, h5⟩ := h2
    clear h1
    go_enter Tryz.func155, Tryz.ntmps155
    go_wp2
    go_ret
    exact ⟨ret_b HP.out, rfl⟩
  by_cases h3 : 48 ≤ x ∧ x ≤ 57
  · have HP : Hid (true = pr x) := by show _ = _; simp [pr, h3]
    have h4 : decide ((65 : Int) ≤ (x : Int)) = false := decide_eq_false (by omega)
    have h5 : decide ((97 : Int) ≤ (x : Int)) = false := decide_eq_false (by omega)
    obtain ⟨h6, h7⟩ := h3
    clear h1 h2
    go_enter Tryz.func155, Tryz.ntmps155
    go_wp2
    go_ret
    exact ⟨ret_b HP.out, rfl⟩
  have HP : Hid (decide (0 ≤ Lib.indexByte signs (Nat.toUInt8 x)) = pr x) := by
    show _ = _
    rw [idx_signs ⟨x, hx⟩]
    have e1 : (decide (65 ≤ x) && decide (x ≤ 90)) = false := by simp; omega
    have e2 : (decide (97 ≤ x) && decide (x ≤ 122)) = false := by simp; omega
    have e3 : (decide (48 ≤ x) && decide (x ≤ 57)) = false := by simp; omega
    simp only [pr, e1, e2, e3, Bool.false_or]
  have hi := Tryz.callIdx
  by_cases q1 : x < 48
  · have c0 : decide ((65 : Int) ≤ (x : Int)) = false := decide_eq_false (by omega)
    have c1 : decide ((x : Int) ≤ 90) = true := decide_eq_true (by omega)
    have c2 : decide ((97 : Int) ≤ (x : Int)) = false := decide_eq_false (by omega)
    have c3 : decide ((x : Int) ≤ 122) = true := decide_eq_true (by omega)
    have c4 : decide ((48 : Int) ≤ (x : Int)) = false := decide_eq_false (by omega)
    have c5 : decide ((x : Int) ≤ 57) = true := decide_eq_true (by omega)
    clear h1 h2 h3 hx
    go_enter Tryz.func155, Tryz.ntmps155
    go_wp2
    go_ret
    exact ⟨ret_b HP.out, rfl⟩
  by_cases q2 : x < 65
  · have c0 : decide ((65 : Int) ≤ (x : Int)) = false := decide_eq_false (by omega)
    have c1 : decide ((x : Int) ≤ 90) = true := decide_eq_true (by omega)
    have c2 : decide ((97 : Int) ≤ (x : Int)) = false := decide_eq_false (by omega)
    have c3 : decide ((x : Int) ≤ 122) = true := decide_eq_true (by omega)
    have c4 : decide ((48 : Int) ≤ (x : Int)) = true := decide_eq_true (by omega)
    have c5 : decide ((x : Int) ≤ 57) = false := decide_eq_false (by omega)
    clear h1 h2 h3 hx
    go_enter Tryz.func155, Tryz.ntmps155
    go_wp2
    go_ret
    exact ⟨ret_b HP.out, rfl⟩
  by_cases q3 : x < 97
  · have c0 : decide ((65 : Int) ≤ (x : Int)) = true := decide_eq_true (by omega)
    have c1 : decide ((x : Int) ≤ 90) = false := decide_eq_false (by omega)
    have c2 : decide ((97 : Int) ≤ (x : Int)) = false := decide_eq_false (by omega)
    have c3 : decide ((x : Int) ≤ 122) = true := decide_eq_true (by omega)
    have c4 : decide ((48 : Int) ≤ (x : Int)) = true := decide_eq_true (by omega)
    have c5 : decide ((x : Int) ≤ 57) = false := decide_eq_false (by omega)
    clear h1 h2 h3 hx
    go_enter Tryz.func155, Tryz.ntmps155
    go_wp2
    go_ret
    exact ⟨ret_b HP.out, rfl⟩
  have c0 : decide ((65 : Int) ≤ (x : Int)) = true := decide_eq_true (by omega)
  have c1 : decide ((x : Int) ≤ 90) = false := decide_eq_false (by omega)
  have c2 : decide ((97 : Int) ≤ (x : Int)) = true := decide_eq_true (by omega)
  have c3 : decide ((x : Int) ≤ 122) = false := decide_eq_false (by omega)
  have c4 : decide ((48 : Int) ≤ (x : Int)) = true := decide_eq_true (by omega)
  have c5 : decide ((x : Int) ≤ 57) = false := decide_eq_false (by omega)
  clear h1 h2 h3 hx
  go_enter Tryz.func155, Tryz.ntmps155
  go_wp2
  go_ret
  exact ⟨ret_b HP.out, rfl⟩

set_option maxHeartbeats 1000000 in
set_option maxRecDepth 100000 in
theorem in_any (x : Nat) (s : ByteArray) (w : World) (hm : s.size ≤ 9223372036854775807) :
    Calls Tryz.prog 161 #[.int .u8 x, .string s] w fun e w' => RetB (∃ j, j < s.size ∧ b8 s j = x) w e w' := by
  go_enter Tryz.func161, Tryz.ntmps161
  go_wp2
  go_loop [5] (fun i => ∃ k : Nat, k ≤ s.size ∧ i = .int .i64 k ∧ ∀ j, j < k → b8 s j ≠ x) (fun i => s.size - (intOf i).toNat)
  case atStart => exact ⟨0, by omega, rfl, fun j h => absurd h (Nat.not_lt_zero _)⟩
  case round =>
    obtain ⟨k, hk, rfl, hj⟩ := hrel
    have HJ : Hid (∀ j, j < k → b8 s j ≠ x) := hj
    clear hj
    by_cases hlt : k < s.size
    · have HE : Hid ((s[k].toNat : Int) = b8 s k) := b8_get s k hlt
      by_cases hb : (s[k].toNat : Int) = x
      · have hb' : ((s[k].toNat : Int) == x) = true := beq_iff_eq.2 hb
        have HY : Hid (∃ j, j < s.size ∧ b8 s j = x) := ⟨k, hlt, by rw [← HE.out]; exact hb⟩
        clear hb
        go_wp2
        go_ret
        exact ret_yes HY.out (drew0 w)
      · have hb' : ((s[k].toNat : Int) == x) = false := beq_eq_false_iff_ne.2 hb
        have HX : Hid (∀ j, j < k + 1 → b8 s j ≠ x) := fun j hj => by
          by_cases e : j = k
          · subst e; rw [← HE.out]; exact hb
          · exact HJ.out j (by omega)
        clear hb
        go_wp2
        go_round
        case rel => exact ⟨k + 1, by omega, by go_num, HX.out⟩
        case measure => simp [intOf]; omega
    · have HN : Hid (¬ ∃ j, j < s.size ∧ b8 s j = x) := fun ⟨j, h1, h2⟩ => HJ.out j (by omega) h2
      go_wp2
      go_ret
      exact ret_no HN.out (drew0 w)

set_option maxHeartbeats 1000000 in
set_option maxRecDepth 100000 in
theorem all_any (t s : ByteArray) (w : World) (ht : t.size ≤ 9223372036854775807) (hm : s.size ≤ 9223372036854775807) :
    Calls Tryz.prog 142 #[.string t, .string s] w fun e w' => RetB (∀ i, i < t.size → ∃ j, j < s.size ∧ b8 s j = b8 t i) w e w' := by
  go_enter Tryz.func142, Tryz.ntmps142
  go_wp2
  go_loopw [5] (fun i wr => ∃ k : Nat, k ≤ t.size ∧ i = .int .i64 k ∧ (∀ i, i < k → ∃ j, j < s.size ∧ b8 s j = b8 t i) ∧ ∃ q, wr = w.drewN q) (fun i _ => t.size - (intOf i).toNat)
  case atStart => exact ⟨0, by omega, rfl, fun j h => absurd h (Nat.not_lt_zero _), drew0 w⟩
  case round =>
    obtain ⟨k, hk, rfl, hj, hw⟩ := hrel
    have HJ : Hid (∀ i, i < k → ∃ j, j < s.size ∧ b8 s j = b8 t i) := hj
    have HW : Hid (∃ q, wr = w.drewN q) := hw
    clear hj hw
    by_cases hlt : k < t.size
    · have HE : Hid ((t[k].toNat : Int) = b8 t k) := b8_get t k hlt
      go_wp2_with fail
      refine (in_any t[k].toNat s _ hm).mono ?_
      rintro e w2 ⟨r, rfl, hr, hd⟩
      have HR : Hid (r = true ↔ ∃ j, j < s.size ∧ b8 s j = t[k].toNat) := hr
      have HD : Hid (∃ q, w2 = w.drewN q) := by
        obtain ⟨a, e1⟩ := HW.out
        obtain ⟨b, e2⟩ := hd
        exact ⟨a + b, by rw [e2, e1, World.drewN_drewN]⟩
      clear hr hd
      cases r
      · have HN : Hid (¬ ∀ i, i < t.size → ∃ j, j < s.size ∧ b8 s j = b8 t i) := fun h => by
          have := h k hlt
          rw [← HE.out] at this
          cases HR.out.2 this
        go_wp2
        go_ret
        exact ret_no HN.out HD.out
      · have HX : Hid (∀ i, i < k + 1 → ∃ j, j < s.size ∧ b8 s j = b8 t i) := fun i hi => by
          by_cases e : i = k
          · subst e; rw [← HE.out]; exact HR.out.1 rfl
          · exact HJ.out i (by omega)
        go_wp2
        go_roundw
        case rel => exact ⟨k + 1, by omega, by go_num, HX.out, HD.out⟩
        case measure => simp [intOf]; omega
    · have HY : Hid (∀ i, i < t.size → ∃ j, j < s.size ∧ b8 s j = b8 t i) := fun i hi => HJ.out i (by omega)
      go_wp2
      go_ret
      exact ret_yes HY.out HW.out

set_option maxHeartbeats 1000000 in
set_option maxRecDepth 100000 in
theorem fitsPrintable_any (t : ByteArray) (w : World) (hm : t.size ≤ 9223372036854775807) :
    Calls Tryz.prog 137 #[.string t] w fun e w' => RetB (PrOk t) w e w' := by
  go_enter Tryz.func137, Tryz.ntmps137
  go_wp2
  go_loop [6] (fun i => ∃ k : Nat, k ≤ t.size ∧ i = .int .i64 k ∧ ∀ i, i < k → pr (b8 t i).toNat = true) (fun i => t.size - (intOf i).toNat)
  case atStart => exact ⟨0, by omega, rfl, fun j h => absurd h (Nat.not_lt_zero _)⟩
  case round =>
    obtain ⟨k, hk, rfl, hj⟩ := hrel
    have HJ : Hid (∀ i, i < k → pr (b8 t i).toNat = true) := hj
    clear hj
    by_cases hlt : k < t.size
    · have HE : Hid ((b8 t k).toNat = t[k].toNat) := by show _ = _; rw [← b8_get t k hlt]; rfl
      have hx : t[k].toNat < 256 := t[k].toNat_lt
      go_wp2_with fail
      refine (isPrintable_any t[k].toNat _ hx).mono ?_
      rintro e w2 ⟨rfl, hw⟩
      subst hw
      cases hb : pr t[k].toNat
      · have HN : Hid (¬ PrOk t) := fun h => by
          have := h k hlt
          rw [HE.out, hb] at this
          cases this
        clear hb
        go_wp2
        go_ret
        exact ret_no HN.out (drew0 _)
      · have HX : Hid (∀ i, i < k + 1 → pr (b8 t i).toNat = true) := fun i hi => by
          by_cases e : i = k
          · subst e; rw [HE.out]; exact hb
          · exact HJ.out i (by omega)
        clear hb
        go_wp2
        go_round
        case rel => exact ⟨k + 1, by omega, by go_num, HX.out⟩
        case measure => simp [intOf]; omega
    · have HY : Hid (PrOk t) := fun i hi => HJ.out i (by omega)
      go_wp2
      go_ret
      exact ret_yes HY.out (drew0 w)

theorem prAll_size : (⟨prAll.toArray⟩ : ByteArray).size = 74 := by decide +kernel
theorem prAll_in : ∀ x : Fin 256, (prAll.contains (UInt8.ofNat x.val) = true ↔ ∃ j : Fin 74, ((prAll.getD j.val 0).toNat) = x.val) := by decide +kernel
theorem prOk_iff (t : ByteArray) : (∀ i, i < t.size → ∃ j, j < (⟨prAll.toArray⟩ : ByteArray).size ∧ b8 ⟨prAll.toArray⟩ j = b8 t i) ↔ PrOk t := by
  unfold PrOk
  have key : ∀ i, (∃ j, j < (⟨prAll.toArray⟩ : ByteArray).size ∧ b8 ⟨prAll.toArray⟩ j = b8 t i) ↔ pr (b8 t i).toNat = true := fun i => by
    have hb := b8_bd t i
    have hx : (b8 t i).toNat < 256 := by omega
    rw [pr_all ⟨_, hx⟩, prAll_in ⟨_, hx⟩, prAll_size]
    constructor
    · rintro ⟨j, hj, e⟩
      refine ⟨⟨j, hj⟩, ?_⟩
      have : b8 ⟨prAll.toArray⟩ j = ((prAll.getD j 0).toNat : Int) := by simp [b8]
      simp only
      omega
    · rintro ⟨j, e⟩
      refine ⟨j.val, j.isLt, ?_⟩
      have : b8 ⟨prAll.toArray⟩ j.val = ((prAll.getD j.val 0).toNat : Int) := by simp [b8]
      simp only at e
      omega
  exact ⟨fun h i hi => (key i).1 (h i hi), fun h i hi => (key i).2 (h i hi)⟩

set_option maxHeartbeats 1000000 in
set_option maxRecDepth 100000 in
theorem isPrintableRef_any (t : ByteArray) (w : World) (hm : t.size ≤ 9223372036854775807) :
    Calls Tryz.prog 112 #[.string t] w fun e w' => RetB (PrOk t) w e w' := by
  go_enter Tryz.func112, Tryz.ntmps112
  go_wp2_with fail
  refine (all_any t ⟨prAll.toArray⟩ _ hm (by rw [prAll_size]; decide)).mono ?_
  rintro e w2 ⟨r, rfl, hr, hd⟩
  have HR : Hid (r = true ↔ PrOk t) := hr.trans (prOk_iff t)
  have HD : Hid (∃ k, w2 = w.drewN k) := hd
  clear hr hd
  go_wp2_with fail
  go_ret
  exact ret_iff HR.out HD.out
end Go.Proofs.YtjceeljaljdmoaaGreatDoor
