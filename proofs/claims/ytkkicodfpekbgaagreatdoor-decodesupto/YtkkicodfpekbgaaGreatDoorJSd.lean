/-
  hallmarkref.alone: what it answers.
-/
import Derived.Test.YtkkicodfpekbgaaGreatDoorJ2
import Derived.Deep.DeepCutAuto
namespace Go.Proofs.YtkkicodfpekbgaaGreatDoor
set_option linter.unusedSimpArgs false
set_option linter.unusedVariables false
open Go.RowKit Classical

/-- How many kids a kind has. -/
def Count (k : Int) (m : Nat) : Prop := if k = 10 then m ≤ 8 else if k = 11 ∨ k = 12 then m = 1 else if k = 13 then 1 ≤ m ∧ m ≤ 8 else m = 0
/-- A kid that may be, in a schema of so many nodes. -/
def KidOk (len : Nat) (n : Nd) (k : Kd) : Prop := 0 ≤ k.node ∧ k.node < len ∧ (k.must ∨ n.kind = 10) ∧ ¬ (k.opt = true ∧ k.dflt.size ≠ 0)
def Bad1 (n : Nd) : Prop := n.kind < 1 ∨ 14 < n.kind ∨ n.tag < -1 ∨ 30 < n.tag ∨ (n.mode ≠ 0 ∧ n.mode ≠ 1)
def Bad2 (n : Nd) : Prop := (n.mode = 1 ∧ n.tag = -1) ∨ ((n.kind = 13 ∨ n.kind = 14) ∧ 0 ≤ n.tag ∧ n.mode = 0)
/-- A node that is right by itself. -/
def Alone (len : Nat) (n : Nd) : Prop := ¬ Bad1 n ∧ ¬ Bad2 n ∧ Count n.kind n.kids.length ∧ ∀ j, j < n.kids.length → KidOk len n (kd n j)

set_option maxHeartbeats 8000000 in
set_option maxRecDepth 100000 in
theorem alone_any (s : List Nd) (a : Option Addr) (cp : Nat) (n : Nd) (ka : Option Addr) (kc : Nat) (w : World) (hn : s.length ≤ 40) (hka : KidsIn w ka n.kids) (hkm : n.kids.length ≤ maxLen) :
    Calls Tryz.prog 36 #[.slice a s.length cp, nodeV n ka kc] w fun e w' => RetO (Alone s.length n) w e w' := by
  have HM : Hid (∀ (wr : World) (k : Kd), Calls Tryz.prog 66 #[.agg #[.int .i64 k.node, .bool k.opt, .string k.dflt]] wr fun e w' => RetO k.must wr e w') := fun wr k => must_any k wr
  have HKI : Hid (KidsIn w ka n.kids) := hka
  clear hka
  unfold nodeV
  go_enter Tryz.func36, Tryz.ntmps36
  go_upto_region 1 with fail
  go_cut [36] (fun c wx => c = .bool (decide (Bad1 n)) ∧ wx = w.alloc (.cells #[.int .i64 n.kind, .int .i64 n.tag, .int .i64 n.mode, .slice ka n.kids.length kc] 58))
  case first =>
    by_cases h1 : n.kind < 1
    · go_wp2_with fail; go_meet; exact ⟨congrArg Value.bool (decide_eq_true (p := Bad1 n) (by unfold Bad1; omega)).symm, rfl⟩
    have h1' : 1 ≤ n.kind := by omega
    clear h1
    by_cases h2 : 14 < n.kind
    · go_wp2_with fail; go_meet; exact ⟨congrArg Value.bool (decide_eq_true (p := Bad1 n) (by unfold Bad1; omega)).symm, rfl⟩
    have h2' : n.kind ≤ 14 := by omega
    clear h2
    by_cases h3 : n.tag < -1
    · go_wp2_with fail; go_meet; exact ⟨congrArg Value.bool (decide_eq_true (p := Bad1 n) (by unfold Bad1; omega)).symm, rfl⟩
    have h3' : -1 ≤ n.tag := by omega
    clear h3
    by_cases h4 : 30 < n.tag
    · go_wp2_with fail; go_meet; exact ⟨congrArg Value.bool (decide_eq_true (p := Bad1 n) (by unfold Bad1; omega)).symm, rfl⟩
    have h4' : n.tag ≤ 30 := by omega
    clear h4
    by_cases h5 : n.mode = 0
    · have e5 : (n.mode != 0) = false := by simp [h5]
      have Hh5 : Hid (n.mode = 0) := h5
      clear h5
      go_wp2_with fail; go_meet; exact ⟨congrArg Value.bool (by have q := Hh5.out; rw [decide_eq_false (p := Bad1 n) (by unfold Bad1; omega)]; simp; omega), rfl⟩
    have e5 : (n.mode != 0) = true := by simp [h5]
    by_cases h6 : n.mode = 1
    · have e6 : (n.mode != 1) = false := by simp [h6]
      have Hh6 : Hid (n.mode = 1) := h6
      clear h5 h6
      go_wp2_with fail; go_meet; exact ⟨congrArg Value.bool (by have q := Hh6.out; rw [decide_eq_false (p := Bad1 n) (by unfold Bad1; omega)]; simp; omega), rfl⟩
    have e6 : (n.mode != 1) = true := by simp [h6]
    have Hh7 : Hid (n.mode ≠ 0 ∧ n.mode ≠ 1) := ⟨h5, h6⟩
    clear h5 h6
    go_wp2_with fail; go_meet; exact ⟨congrArg Value.bool (decide_eq_true (p := Bad1 n) (by have q_h7 := Hh7.out; unfold Bad1; omega)).symm, rfl⟩
  case rest =>
    obtain ⟨hc1, rfl⟩ := hcut
    by_cases hb1 : Bad1 n
    · rw [decide_eq_true hb1] at hc1
      subst hc1
      have HX : Hid (Bad1 n) := hb1
      clear hb1
      go_wp2
      go_ret
      exact reto_no (fun h => h.1 HX.out) ((Below.refl _ _).alloc (Nat.le_refl _) _)
    rw [decide_eq_false hb1] at hc1
    subst hc1
    have hr : 1 ≤ n.kind ∧ n.kind ≤ 14 ∧ -1 ≤ n.tag ∧ n.tag ≤ 30 ∧ (n.mode = 0 ∨ n.mode = 1) := by unfold Bad1 at hb1; omega
    have HB1 : Hid (¬ Bad1 n) := hb1
    have HR : Hid (1 ≤ n.kind ∧ n.kind ≤ 14 ∧ -1 ≤ n.tag ∧ n.tag ≤ 30 ∧ (n.mode = 0 ∨ n.mode = 1)) := hr
    clear hb1 hr
    go_upto_region 3 with fail
    go_cut [64] (fun c wx => c = .bool (decide (Bad2 n)) ∧ wx = w.alloc (.cells #[.int .i64 n.kind, .int .i64 n.tag, .int .i64 n.mode, .slice ka n.kids.length kc] 58))
    case first =>
      obtain ⟨r1, r2, r3, r4, r5⟩ := HR.out
      have hk : n.kind = 13 ∨ n.kind = 14 ∨ (n.kind ≠ 13 ∧ n.kind ≠ 14) := by omega
      rcases r5 with h5 | h5
      · have e5 : (n.mode == 1) = false := by simp [h5]
        have e5' : (n.mode == 0) = true := by simp [h5]
        have Hh5 : Hid (n.mode = 0) := h5
        clear h5
        by_cases h6 : 0 ≤ n.tag
        · rcases hk with h7 | h7 | h7
          · have e7 : (n.kind == 13) = true := by simp [h7]
            have Hh7 : Hid (n.kind = 13) := h7
            clear h7
            go_wp2_with fail; go_meet; exact ⟨congrArg Value.bool (decide_eq_true (p := Bad2 n) (by have q_h5 := Hh5.out; have q_h7 := Hh7.out; unfold Bad2; omega)).symm, rfl⟩
          · have e7 : (n.kind == 13) = false := by simp [h7]
            have e8 : (n.kind == 14) = true := by simp [h7]
            have Hh7 : Hid (n.kind = 14) := h7
            clear h7
            go_wp2_with fail; go_meet; exact ⟨congrArg Value.bool (decide_eq_true (p := Bad2 n) (by have q_h5 := Hh5.out; have q_h7 := Hh7.out; unfold Bad2; omega)).symm, rfl⟩
          · have e7 : (n.kind == 13) = false := by simp [h7.1]
            have e8 : (n.kind == 14) = false := by simp [h7.2]
            have Hh7 : Hid (n.kind ≠ 13 ∧ n.kind ≠ 14) := h7
            clear h7
            go_wp2_with fail; go_meet; exact ⟨congrArg Value.bool (decide_eq_false (p := Bad2 n) (by have q_h5 := Hh5.out; have q_h7 := Hh7.out; unfold Bad2; omega)).symm, rfl⟩
        · have h6' : n.tag < 0 := by omega
          clear h6
          rcases hk with h7 | h7 | h7
          · have e7 : (n.kind == 13) = true := by simp [h7]
            have Hh7 : Hid (n.kind = 13) := h7
            clear h7
            go_wp2_with fail; go_meet; exact ⟨congrArg Value.bool (decide_eq_false (p := Bad2 n) (by have q_h5 := Hh5.out; have q_h7 := Hh7.out; unfold Bad2; omega)).symm, rfl⟩
          · have e7 : (n.kind == 13) = false := by simp [h7]
            have e8 : (n.kind == 14) = true := by simp [h7]
            have Hh7 : Hid (n.kind = 14) := h7
            clear h7
            go_wp2_with fail; go_meet; exact ⟨congrArg Value.bool (decide_eq_false (p := Bad2 n) (by have q_h5 := Hh5.out; have q_h7 := Hh7.out; unfold Bad2; omega)).symm, rfl⟩
          · have e7 : (n.kind == 13) = false := by simp [h7.1]
            have e8 : (n.kind == 14) = false := by simp [h7.2]
            have Hh7 : Hid (n.kind ≠ 13 ∧ n.kind ≠ 14) := h7
            clear h7
            go_wp2_with fail; go_meet; exact ⟨congrArg Value.bool (decide_eq_false (p := Bad2 n) (by have q_h5 := Hh5.out; have q_h7 := Hh7.out; unfold Bad2; omega)).symm, rfl⟩
      · have e5 : (n.mode == 1) = true := by simp [h5]
        have e5' : (n.mode == 0) = false := by simp [h5]
        have Hh5 : Hid (n.mode = 1) := h5
        clear h5
        by_cases h6 : n.tag = -1
        · have e6 : (n.tag == -1) = true := by simp [h6]
          have Hh6 : Hid (n.tag = -1) := h6
          clear h6
          go_wp2_with fail; go_meet; exact ⟨congrArg Value.bool (decide_eq_true (p := Bad2 n) (by have q_h5 := Hh5.out; have q_h6 := Hh6.out; unfold Bad2; omega)).symm, rfl⟩
        · have e6 : (n.tag == -1) = false := by simp [h6]
          have h6' : 0 ≤ n.tag := by omega
          clear h6
          rcases hk with h7 | h7 | h7
          · have e7 : (n.kind == 13) = true := by simp [h7]
            have Hh7 : Hid (n.kind = 13) := h7
            clear h7
            go_wp2_with fail; go_meet; exact ⟨congrArg Value.bool (decide_eq_false (p := Bad2 n) (by have q_h5 := Hh5.out; have q_h7 := Hh7.out; unfold Bad2; omega)).symm, rfl⟩
          · have e7 : (n.kind == 13) = false := by simp [h7]
            have e8 : (n.kind == 14) = true := by simp [h7]
            have Hh7 : Hid (n.kind = 14) := h7
            clear h7
            go_wp2_with fail; go_meet; exact ⟨congrArg Value.bool (decide_eq_false (p := Bad2 n) (by have q_h5 := Hh5.out; have q_h7 := Hh7.out; unfold Bad2; omega)).symm, rfl⟩
          · have e7 : (n.kind == 13) = false := by simp [h7.1]
            have e8 : (n.kind == 14) = false := by simp [h7.2]
            have Hh7 : Hid (n.kind ≠ 13 ∧ n.kind ≠ 14) := h7
            clear h7
            go_wp2_with fail; go_meet; exact ⟨congrArg Value.bool (decide_eq_false (p := Bad2 n) (by have q_h5 := Hh5.out; have q_h7 := Hh7.out; unfold Bad2; omega)).symm, rfl⟩
    case rest =>
      obtain ⟨hc2, rfl⟩ := hcut
      by_cases hb2 : Bad2 n
      · rw [decide_eq_true hb2] at hc2
        subst hc2
        have HX : Hid (Bad2 n) := hb2
        clear hb2
        go_wp2
        go_ret
        exact reto_no (fun h => h.2.1 HX.out) ((Below.refl _ _).alloc (Nat.le_refl _) _)
      rw [decide_eq_false hb2] at hc2
      subst hc2
      have HB2 : Hid (¬ Bad2 n) := hb2
      clear hb2
      obtain ⟨B, hB⟩ : ∃ B, B = w.heap.size := ⟨_, rfl⟩
      have HW0 : Hid (∀ wr, Below (w.alloc (.cells #[.int .i64 n.kind, .int .i64 n.tag, .int .i64 n.mode, .slice ka n.kids.length kc] 58)).heap.size (w.alloc (.cells #[.int .i64 n.kind, .int .i64 n.tag, .int .i64 n.mode, .slice ka n.kids.length kc] 58)) wr →
          wr.cell? ⟨B, 0, none⟩ = some (.int .i64 n.kind) ∧ wr.cell? ⟨B, 3, none⟩ = some (.slice ka n.kids.length kc) ∧ Below w.heap.size w wr) := fun wr h => by
        have h1 := block_below (heap_alloc_new w _) h
        subst hB
        exact ⟨by simp [World.cell?, h1], by simp [World.cell?, h1], below_alloc h⟩
      generalize (w.alloc (.cells #[.int .i64 n.kind, .int .i64 n.tag, .int .i64 n.mode, .slice ka n.kids.length kc] 58)) = W0 at *
      obtain ⟨c0, c3, bw⟩ := HW0.out W0 (Below.refl _ _)
      have HBW0 : Hid (Below w.heap.size w W0) := bw
      clear bw
      rw [← hB]
      clear hB
      by_cases h10 : n.kind = 10
      · have e10 : (n.kind == 10) = true := by simp [h10]
        by_cases hc : ¬ n.kids.length ≤ 8
        · have HX : Hid (¬ Count n.kind n.kids.length) := by show ¬ Count n.kind n.kids.length; unfold Count; rw [if_pos h10]; exact hc
          have hc' : (8 : Int) < n.kids.length := by omega
          clear hc h10
          go_wp2
          go_ret
          exact reto_no (fun h => HX.out h.2.2.1) HBW0.out
        have hc : n.kids.length ≤ 8 := by omega
        have HC : Hid (Count n.kind n.kids.length) := by show Count n.kind n.kids.length; unfold Count; rw [if_pos h10]; exact hc
        have hkm' : n.kids.length ≤ 8 := by omega
        clear h10
        go_wp2
        go_loopw [6] (fun vi wr => ∃ i : Nat, i ≤ n.kids.length ∧ vi = .int .i64 i ∧ (∀ j, j < i → KidOk s.length n (kd n j)) ∧ Below W0.heap.size W0 wr) (fun vi _ => n.kids.length - (intOf vi).toNat)
        case atStart => exact ⟨0, Nat.zero_le _, rfl, fun _ h => absurd h (Nat.not_lt_zero _), Below.refl _ _⟩
        case round =>
          obtain ⟨i, hi, rfl, hall, hbr⟩ := hrel
          have HA : Hid (∀ j, j < i → KidOk s.length n (kd n j)) := hall
          have HB : Hid (Below W0.heap.size W0 wr) := hbr
          obtain ⟨d0, d3, hbw⟩ := HW0.out wr hbr
          have HBW : Hid (Below w.heap.size w wr) := hbw
          clear hall hbr hbw
          by_cases hlt : i < n.kids.length
          · have hlt' : (i : Int) < n.kids.length := by omega
            obtain ⟨kb, ko, rfl, kcl⟩ := HKI.out i hlt
            obtain ⟨y, hy⟩ : ∃ y, kd n i = y := ⟨_, rfl⟩
            have HY : Hid (kd n i = y) := hy
            have hkc : KidCells w kb (ko + i * 3) y := by rw [← hy]; exact kcl
            obtain ⟨k1, k2, k3⟩ := hkc.below HBW.out
            clear hy kcl hkc
            go_wp2_with fail
            refine (HM.out _ y).mono ?_
            rintro e w1 ⟨r, rfl, hr, hb1⟩
            have HRM : Hid (r = true ↔ y.must) := hr
            have HB1' : Hid (Below W0.heap.size W0 w1) := HB.out.trans ((below_alloc hb1).mono HB.out.size)
            have HYB : Hid (w1.heap[wr.heap.size]? = some (.cells #[.int .i64 y.node, .bool y.opt, .string y.dflt] 55 (0, 0))) := block_below (heap_alloc_new wr _) hb1
            obtain ⟨f0, f3, hbw1⟩ := HW0.out w1 HB1'.out
            have HBW1 : Hid (Below w.heap.size w w1) := hbw1
            have y0 : w1.cell? ⟨wr.heap.size, 0, none⟩ = some (.int .i64 y.node) := by simp [World.cell?, HYB.out]
            have y1 : w1.cell? ⟨wr.heap.size, 1, none⟩ = some (.bool y.opt) := by simp [World.cell?, HYB.out]
            have y2 : w1.cell? ⟨wr.heap.size, 2, none⟩ = some (.string y.dflt) := by simp [World.cell?, HYB.out]
            clear hr hb1 hbw1 d0 d3 k1 k2 k3
            have NO : Hid (¬ KidOk s.length n y → ¬ Alone s.length n) := fun h h' => h (HY.out ▸ h'.2.2.2 i hlt)
            have YES : Hid (KidOk s.length n y → ∀ j, j < i + 1 → KidOk s.length n (kd n j)) := fun h j hj => by
              by_cases e : j = i
              · subst e; rw [HY.out]; exact h
              · exact HA.out j (by omega)
            by_cases q1 : y.node < 0
            · have HX : Hid (¬ KidOk s.length n y) := fun h => by have := h.1; omega
              go_wp2
              go_ret
              exact reto_no (NO.out HX.out) HBW1.out
            have q1' : 0 ≤ y.node := by omega
            by_cases q2 : ¬ y.node < s.length
            · have HX : Hid (¬ KidOk s.length n y) := fun h => q2 h.2.1
              have q2' : (s.length : Int) ≤ y.node := by omega
              clear q1 q2
              go_wp2
              go_ret
              exact reto_no (NO.out HX.out) HBW1.out
            have q2 : y.node < s.length := by omega
            clear q1
            by_cases q3 : ¬ (y.must ∨ n.kind = 10)
            · have HX : Hid (¬ KidOk s.length n y) := fun h => q3 h.2.2.1
              obtain rfl : r = false := by cases r; rfl; exact absurd (.inl (HRM.out.1 rfl)) q3
              have q4 : (n.kind != 10) = true := by simp; exact fun e => q3 (.inr e)
              clear q3
              go_wp2
              go_ret
              exact reto_no (NO.out HX.out) HBW1.out
            have q3 : y.must ∨ n.kind = 10 := Classical.not_not.1 q3
            have HQ3 : Hid (y.must ∨ n.kind = 10) := q3
            have q5 : r = true ∨ (r = false ∧ (n.kind != 10) = false) := by
              cases r
              · right
                refine ⟨rfl, ?_⟩
                rcases q3 with q3 | q3
                · exact Bool.noConfusion (HRM.out.2 q3)
                · simp [q3]
              · exact .inl rfl
            clear q3
            by_cases q6 : y.opt = true
            · by_cases q7 : y.dflt.size = 0
              · have e7 := emp_t q7
                have HX : Hid (KidOk s.length n y) := ⟨q1', q2, HQ3.out, fun h => h.2 q7⟩
                clear q7
                rw [q6] at y1
                clear q6
                rcases q5 with rfl | ⟨rfl, q8⟩
                · go_wp2
                  go_roundw
                  case rel => exact ⟨i + 1, by omega, by go_num, YES.out HX.out, HB1'.out⟩
                  case measure => simp [intOf]; omega
                · go_wp2
                  go_roundw
                  case rel => exact ⟨i + 1, by omega, by go_num, YES.out HX.out, HB1'.out⟩
                  case measure => simp [intOf]; omega
              · have e7 := emp_f (t := y.dflt) (by omega)
                have HX : Hid (¬ KidOk s.length n y) := fun h => h.2.2.2 ⟨q6, q7⟩
                clear q7
                rw [q6] at y1
                clear q6
                rcases q5 with rfl | ⟨rfl, q8⟩
                · go_wp2
                  go_ret
                  exact reto_no (NO.out HX.out) HBW1.out
                · go_wp2
                  go_ret
                  exact reto_no (NO.out HX.out) HBW1.out
            · have q6' : y.opt = false := by simpa using q6
              have HX : Hid (KidOk s.length n y) := ⟨q1', q2, HQ3.out, fun h => q6 h.1⟩
              rw [q6'] at y1
              clear q6 q6'
              rcases q5 with rfl | ⟨rfl, q8⟩
              · go_wp2
                go_roundw
                case rel => exact ⟨i + 1, by omega, by go_num, YES.out HX.out, HB1'.out⟩
                case measure => simp [intOf]; omega
              · go_wp2
                go_roundw
                case rel => exact ⟨i + 1, by omega, by go_num, YES.out HX.out, HB1'.out⟩
                case measure => simp [intOf]; omega
          · have hlt' : (n.kids.length : Int) ≤ i := by omega
            go_wp2
            go_ret
            exact reto_yes ⟨HB1.out, HB2.out, HC.out, fun j h => HA.out j (by omega)⟩ HBW.out
      have e10 : (n.kind == 10) = false := by simp [h10]
      by_cases h11 : n.kind = 11
      · have e11 : (n.kind == 11) = true := by simp [h11]
        by_cases hc : ¬ n.kids.length = 1
        · have HX : Hid (¬ Count n.kind n.kids.length) := by show ¬ Count n.kind n.kids.length; unfold Count; rw [if_neg h10, if_pos (.inl h11)]; exact hc
          have hc' : ((n.kids.length : Int) != 1) = true := by rw [bne_iff_ne]; omega
          clear hc h10 h11
          go_wp2
          go_ret
          exact reto_no (fun h => HX.out h.2.2.1) HBW0.out
        have hc : n.kids.length = 1 := by omega
        have hc' : ((n.kids.length : Int) != 1) = false := by simp [hc]
        have HC : Hid (Count n.kind n.kids.length) := by show Count n.kind n.kids.length; unfold Count; rw [if_neg h10, if_pos (.inl h11)]; exact hc
        have hkm' : n.kids.length ≤ 8 := by omega
        clear h10 h11 hc
        go_wp2
        go_loopw [6] (fun vi wr => ∃ i : Nat, i ≤ n.kids.length ∧ vi = .int .i64 i ∧ (∀ j, j < i → KidOk s.length n (kd n j)) ∧ Below W0.heap.size W0 wr) (fun vi _ => n.kids.length - (intOf vi).toNat)
        case atStart => exact ⟨0, Nat.zero_le _, rfl, fun _ h => absurd h (Nat.not_lt_zero _), Below.refl _ _⟩
        case round =>
          obtain ⟨i, hi, rfl, hall, hbr⟩ := hrel
          have HA : Hid (∀ j, j < i → KidOk s.length n (kd n j)) := hall
          have HB : Hid (Below W0.heap.size W0 wr) := hbr
          obtain ⟨d0, d3, hbw⟩ := HW0.out wr hbr
          have HBW : Hid (Below w.heap.size w wr) := hbw
          clear hall hbr hbw
          by_cases hlt : i < n.kids.length
          · have hlt' : (i : Int) < n.kids.length := by omega
            obtain ⟨kb, ko, rfl, kcl⟩ := HKI.out i hlt
            obtain ⟨y, hy⟩ : ∃ y, kd n i = y := ⟨_, rfl⟩
            have HY : Hid (kd n i = y) := hy
            have hkc : KidCells w kb (ko + i * 3) y := by rw [← hy]; exact kcl
            obtain ⟨k1, k2, k3⟩ := hkc.below HBW.out
            clear hy kcl hkc
            go_wp2_with fail
            refine (HM.out _ y).mono ?_
            rintro e w1 ⟨r, rfl, hr, hb1⟩
            have HRM : Hid (r = true ↔ y.must) := hr
            have HB1' : Hid (Below W0.heap.size W0 w1) := HB.out.trans ((below_alloc hb1).mono HB.out.size)
            have HYB : Hid (w1.heap[wr.heap.size]? = some (.cells #[.int .i64 y.node, .bool y.opt, .string y.dflt] 55 (0, 0))) := block_below (heap_alloc_new wr _) hb1
            obtain ⟨f0, f3, hbw1⟩ := HW0.out w1 HB1'.out
            have HBW1 : Hid (Below w.heap.size w w1) := hbw1
            have y0 : w1.cell? ⟨wr.heap.size, 0, none⟩ = some (.int .i64 y.node) := by simp [World.cell?, HYB.out]
            have y1 : w1.cell? ⟨wr.heap.size, 1, none⟩ = some (.bool y.opt) := by simp [World.cell?, HYB.out]
            have y2 : w1.cell? ⟨wr.heap.size, 2, none⟩ = some (.string y.dflt) := by simp [World.cell?, HYB.out]
            clear hr hb1 hbw1 d0 d3 k1 k2 k3
            have NO : Hid (¬ KidOk s.length n y → ¬ Alone s.length n) := fun h h' => h (HY.out ▸ h'.2.2.2 i hlt)
            have YES : Hid (KidOk s.length n y → ∀ j, j < i + 1 → KidOk s.length n (kd n j)) := fun h j hj => by
              by_cases e : j = i
              · subst e; rw [HY.out]; exact h
              · exact HA.out j (by omega)
            by_cases q1 : y.node < 0
            · have HX : Hid (¬ KidOk s.length n y) := fun h => by have := h.1; omega
              go_wp2
              go_ret
              exact reto_no (NO.out HX.out) HBW1.out
            have q1' : 0 ≤ y.node := by omega
            by_cases q2 : ¬ y.node < s.length
            · have HX : Hid (¬ KidOk s.length n y) := fun h => q2 h.2.1
              have q2' : (s.length : Int) ≤ y.node := by omega
              clear q1 q2
              go_wp2
              go_ret
              exact reto_no (NO.out HX.out) HBW1.out
            have q2 : y.node < s.length := by omega
            clear q1
            by_cases q3 : ¬ (y.must ∨ n.kind = 10)
            · have HX : Hid (¬ KidOk s.length n y) := fun h => q3 h.2.2.1
              obtain rfl : r = false := by cases r; rfl; exact absurd (.inl (HRM.out.1 rfl)) q3
              have q4 : (n.kind != 10) = true := by simp; exact fun e => q3 (.inr e)
              clear q3
              go_wp2
              go_ret
              exact reto_no (NO.out HX.out) HBW1.out
            have q3 : y.must ∨ n.kind = 10 := Classical.not_not.1 q3
            have HQ3 : Hid (y.must ∨ n.kind = 10) := q3
            have q5 : r = true ∨ (r = false ∧ (n.kind != 10) = false) := by
              cases r
              · right
                refine ⟨rfl, ?_⟩
                rcases q3 with q3 | q3
                · exact Bool.noConfusion (HRM.out.2 q3)
                · simp [q3]
              · exact .inl rfl
            clear q3
            by_cases q6 : y.opt = true
            · by_cases q7 : y.dflt.size = 0
              · have e7 := emp_t q7
                have HX : Hid (KidOk s.length n y) := ⟨q1', q2, HQ3.out, fun h => h.2 q7⟩
                clear q7
                rw [q6] at y1
                clear q6
                rcases q5 with rfl | ⟨rfl, q8⟩
                · go_wp2
                  go_roundw
                  case rel => exact ⟨i + 1, by omega, by go_num, YES.out HX.out, HB1'.out⟩
                  case measure => simp [intOf]; omega
                · go_wp2
                  go_roundw
                  case rel => exact ⟨i + 1, by omega, by go_num, YES.out HX.out, HB1'.out⟩
                  case measure => simp [intOf]; omega
              · have e7 := emp_f (t := y.dflt) (by omega)
                have HX : Hid (¬ KidOk s.length n y) := fun h => h.2.2.2 ⟨q6, q7⟩
                clear q7
                rw [q6] at y1
                clear q6
                rcases q5 with rfl | ⟨rfl, q8⟩
                · go_wp2
                  go_ret
                  exact reto_no (NO.out HX.out) HBW1.out
                · go_wp2
                  go_ret
                  exact reto_no (NO.out HX.out) HBW1.out
            · have q6' : y.opt = false := by simpa using q6
              have HX : Hid (KidOk s.length n y) := ⟨q1', q2, HQ3.out, fun h => q6 h.1⟩
              rw [q6'] at y1
              clear q6 q6'
              rcases q5 with rfl | ⟨rfl, q8⟩
              · go_wp2
                go_roundw
                case rel => exact ⟨i + 1, by omega, by go_num, YES.out HX.out, HB1'.out⟩
                case measure => simp [intOf]; omega
              · go_wp2
                go_roundw
                case rel => exact ⟨i + 1, by omega, by go_num, YES.out HX.out, HB1'.out⟩
                case measure => simp [intOf]; omega
          · have hlt' : (n.kids.length : Int) ≤ i := by omega
            go_wp2
            go_ret
            exact reto_yes ⟨HB1.out, HB2.out, HC.out, fun j h => HA.out j (by omega)⟩ HBW.out
      have e11 : (n.kind == 11) = false := by simp [h11]
      by_cases h12 : n.kind = 12
      · have e12 : (n.kind == 12) = true := by simp [h12]
        by_cases hc : ¬ n.kids.length = 1
        · have HX : Hid (¬ Count n.kind n.kids.length) := by show ¬ Count n.kind n.kids.length; unfold Count; rw [if_neg h10, if_pos (.inr h12)]; exact hc
          have hc' : ((n.kids.length : Int) != 1) = true := by rw [bne_iff_ne]; omega
          clear hc h10 h11 h12
          go_wp2
          go_ret
          exact reto_no (fun h => HX.out h.2.2.1) HBW0.out
        have hc : n.kids.length = 1 := by omega
        have hc' : ((n.kids.length : Int) != 1) = false := by simp [hc]
        have HC : Hid (Count n.kind n.kids.length) := by show Count n.kind n.kids.length; unfold Count; rw [if_neg h10, if_pos (.inr h12)]; exact hc
        have hkm' : n.kids.length ≤ 8 := by omega
        clear h10 h11 h12 hc
        go_wp2
        go_loopw [6] (fun vi wr => ∃ i : Nat, i ≤ n.kids.length ∧ vi = .int .i64 i ∧ (∀ j, j < i → KidOk s.length n (kd n j)) ∧ Below W0.heap.size W0 wr) (fun vi _ => n.kids.length - (intOf vi).toNat)
        case atStart => exact ⟨0, Nat.zero_le _, rfl, fun _ h => absurd h (Nat.not_lt_zero _), Below.refl _ _⟩
        case round =>
          obtain ⟨i, hi, rfl, hall, hbr⟩ := hrel
          have HA : Hid (∀ j, j < i → KidOk s.length n (kd n j)) := hall
          have HB : Hid (Below W0.heap.size W0 wr) := hbr
          obtain ⟨d0, d3, hbw⟩ := HW0.out wr hbr
          have HBW : Hid (Below w.heap.size w wr) := hbw
          clear hall hbr hbw
          by_cases hlt : i < n.kids.length
          · have hlt' : (i : Int) < n.kids.length := by omega
            obtain ⟨kb, ko, rfl, kcl⟩ := HKI.out i hlt
            obtain ⟨y, hy⟩ : ∃ y, kd n i = y := ⟨_, rfl⟩
            have HY : Hid (kd n i = y) := hy
            have hkc : KidCells w kb (ko + i * 3) y := by rw [← hy]; exact kcl
            obtain ⟨k1, k2, k3⟩ := hkc.below HBW.out
            clear hy kcl hkc
            go_wp2_with fail
            refine (HM.out _ y).mono ?_
            rintro e w1 ⟨r, rfl, hr, hb1⟩
            have HRM : Hid (r = true ↔ y.must) := hr
            have HB1' : Hid (Below W0.heap.size W0 w1) := HB.out.trans ((below_alloc hb1).mono HB.out.size)
            have HYB : Hid (w1.heap[wr.heap.size]? = some (.cells #[.int .i64 y.node, .bool y.opt, .string y.dflt] 55 (0, 0))) := block_below (heap_alloc_new wr _) hb1
            obtain ⟨f0, f3, hbw1⟩ := HW0.out w1 HB1'.out
            have HBW1 : Hid (Below w.heap.size w w1) := hbw1
            have y0 : w1.cell? ⟨wr.heap.size, 0, none⟩ = some (.int .i64 y.node) := by simp [World.cell?, HYB.out]
            have y1 : w1.cell? ⟨wr.heap.size, 1, none⟩ = some (.bool y.opt) := by simp [World.cell?, HYB.out]
            have y2 : w1.cell? ⟨wr.heap.size, 2, none⟩ = some (.string y.dflt) := by simp [World.cell?, HYB.out]
            clear hr hb1 hbw1 d0 d3 k1 k2 k3
            have NO : Hid (¬ KidOk s.length n y → ¬ Alone s.length n) := fun h h' => h (HY.out ▸ h'.2.2.2 i hlt)
            have YES : Hid (KidOk s.length n y → ∀ j, j < i + 1 → KidOk s.length n (kd n j)) := fun h j hj => by
              by_cases e : j = i
              · subst e; rw [HY.out]; exact h
              · exact HA.out j (by omega)
            by_cases q1 : y.node < 0
            · have HX : Hid (¬ KidOk s.length n y) := fun h => by have := h.1; omega
              go_wp2
              go_ret
              exact reto_no (NO.out HX.out) HBW1.out
            have q1' : 0 ≤ y.node := by omega
            by_cases q2 : ¬ y.node < s.length
            · have HX : Hid (¬ KidOk s.length n y) := fun h => q2 h.2.1
              have q2' : (s.length : Int) ≤ y.node := by omega
              clear q1 q2
              go_wp2
              go_ret
              exact reto_no (NO.out HX.out) HBW1.out
            have q2 : y.node < s.length := by omega
            clear q1
            by_cases q3 : ¬ (y.must ∨ n.kind = 10)
            · have HX : Hid (¬ KidOk s.length n y) := fun h => q3 h.2.2.1
              obtain rfl : r = false := by cases r; rfl; exact absurd (.inl (HRM.out.1 rfl)) q3
              have q4 : (n.kind != 10) = true := by simp; exact fun e => q3 (.inr e)
              clear q3
              go_wp2
              go_ret
              exact reto_no (NO.out HX.out) HBW1.out
            have q3 : y.must ∨ n.kind = 10 := Classical.not_not.1 q3
            have HQ3 : Hid (y.must ∨ n.kind = 10) := q3
            have q5 : r = true ∨ (r = false ∧ (n.kind != 10) = false) := by
              cases r
              · right
                refine ⟨rfl, ?_⟩
                rcases q3 with q3 | q3
                · exact Bool.noConfusion (HRM.out.2 q3)
                · simp [q3]
              · exact .inl rfl
            clear q3
            by_cases q6 : y.opt = true
            · by_cases q7 : y.dflt.size = 0
              · have e7 := emp_t q7
                have HX : Hid (KidOk s.length n y) := ⟨q1', q2, HQ3.out, fun h => h.2 q7⟩
                clear q7
                rw [q6] at y1
                clear q6
                rcases q5 with rfl | ⟨rfl, q8⟩
                · go_wp2
                  go_roundw
                  case rel => exact ⟨i + 1, by omega, by go_num, YES.out HX.out, HB1'.out⟩
                  case measure => simp [intOf]; omega
                · go_wp2
                  go_roundw
                  case rel => exact ⟨i + 1, by omega, by go_num, YES.out HX.out, HB1'.out⟩
                  case measure => simp [intOf]; omega
              · have e7 := emp_f (t := y.dflt) (by omega)
                have HX : Hid (¬ KidOk s.length n y) := fun h => h.2.2.2 ⟨q6, q7⟩
                clear q7
                rw [q6] at y1
                clear q6
                rcases q5 with rfl | ⟨rfl, q8⟩
                · go_wp2
                  go_ret
                  exact reto_no (NO.out HX.out) HBW1.out
                · go_wp2
                  go_ret
                  exact reto_no (NO.out HX.out) HBW1.out
            · have q6' : y.opt = false := by simpa using q6
              have HX : Hid (KidOk s.length n y) := ⟨q1', q2, HQ3.out, fun h => q6 h.1⟩
              rw [q6'] at y1
              clear q6 q6'
              rcases q5 with rfl | ⟨rfl, q8⟩
              · go_wp2
                go_roundw
                case rel => exact ⟨i + 1, by omega, by go_num, YES.out HX.out, HB1'.out⟩
                case measure => simp [intOf]; omega
              · go_wp2
                go_roundw
                case rel => exact ⟨i + 1, by omega, by go_num, YES.out HX.out, HB1'.out⟩
                case measure => simp [intOf]; omega
          · have hlt' : (n.kids.length : Int) ≤ i := by omega
            go_wp2
            go_ret
            exact reto_yes ⟨HB1.out, HB2.out, HC.out, fun j h => HA.out j (by omega)⟩ HBW.out
      have e12 : (n.kind == 12) = false := by simp [h12]
      by_cases h13 : n.kind = 13
      · have e13 : (n.kind == 13) = true := by simp [h13]
        by_cases hc : ¬ 1 ≤ n.kids.length
        · have HX : Hid (¬ Count n.kind n.kids.length) := by show ¬ Count n.kind n.kids.length; unfold Count; rw [if_neg h10, if_neg (by omega), if_pos h13]; omega
          have hc' : (n.kids.length : Int) < 1 := by omega
          clear hc h10 h11 h12 h13
          go_wp2
          go_ret
          exact reto_no (fun h => HX.out h.2.2.1) HBW0.out
        by_cases hc2 : ¬ n.kids.length ≤ 8
        · have HX : Hid (¬ Count n.kind n.kids.length) := by show ¬ Count n.kind n.kids.length; unfold Count; rw [if_neg h10, if_neg (by omega), if_pos h13]; omega
          have hc' : (8 : Int) < n.kids.length := by omega
          clear hc2 h10 h11 h12 h13
          go_wp2
          go_ret
          exact reto_no (fun h => HX.out h.2.2.1) HBW0.out
        have hc : 1 ≤ n.kids.length := by omega
        have hc2 : n.kids.length ≤ 8 := by omega
        have HC : Hid (Count n.kind n.kids.length) := by show Count n.kind n.kids.length; unfold Count; rw [if_neg h10, if_neg (by omega), if_pos h13]; omega
        have hkm' : n.kids.length ≤ 8 := by omega
        clear h10 h11 h12 h13
        go_wp2
        go_loopw [6] (fun vi wr => ∃ i : Nat, i ≤ n.kids.length ∧ vi = .int .i64 i ∧ (∀ j, j < i → KidOk s.length n (kd n j)) ∧ Below W0.heap.size W0 wr) (fun vi _ => n.kids.length - (intOf vi).toNat)
        case atStart => exact ⟨0, Nat.zero_le _, rfl, fun _ h => absurd h (Nat.not_lt_zero _), Below.refl _ _⟩
        case round =>
          obtain ⟨i, hi, rfl, hall, hbr⟩ := hrel
          have HA : Hid (∀ j, j < i → KidOk s.length n (kd n j)) := hall
          have HB : Hid (Below W0.heap.size W0 wr) := hbr
          obtain ⟨d0, d3, hbw⟩ := HW0.out wr hbr
          have HBW : Hid (Below w.heap.size w wr) := hbw
          clear hall hbr hbw
          by_cases hlt : i < n.kids.length
          · have hlt' : (i : Int) < n.kids.length := by omega
            obtain ⟨kb, ko, rfl, kcl⟩ := HKI.out i hlt
            obtain ⟨y, hy⟩ : ∃ y, kd n i = y := ⟨_, rfl⟩
            have HY : Hid (kd n i = y) := hy
            have hkc : KidCells w kb (ko + i * 3) y := by rw [← hy]; exact kcl
            obtain ⟨k1, k2, k3⟩ := hkc.below HBW.out
            clear hy kcl hkc
            go_wp2_with fail
            refine (HM.out _ y).mono ?_
            rintro e w1 ⟨r, rfl, hr, hb1⟩
            have HRM : Hid (r = true ↔ y.must) := hr
            have HB1' : Hid (Below W0.heap.size W0 w1) := HB.out.trans ((below_alloc hb1).mono HB.out.size)
            have HYB : Hid (w1.heap[wr.heap.size]? = some (.cells #[.int .i64 y.node, .bool y.opt, .string y.dflt] 55 (0, 0))) := block_below (heap_alloc_new wr _) hb1
            obtain ⟨f0, f3, hbw1⟩ := HW0.out w1 HB1'.out
            have HBW1 : Hid (Below w.heap.size w w1) := hbw1
            have y0 : w1.cell? ⟨wr.heap.size, 0, none⟩ = some (.int .i64 y.node) := by simp [World.cell?, HYB.out]
            have y1 : w1.cell? ⟨wr.heap.size, 1, none⟩ = some (.bool y.opt) := by simp [World.cell?, HYB.out]
            have y2 : w1.cell? ⟨wr.heap.size, 2, none⟩ = some (.string y.dflt) := by simp [World.cell?, HYB.out]
            clear hr hb1 hbw1 d0 d3 k1 k2 k3
            have NO : Hid (¬ KidOk s.length n y → ¬ Alone s.length n) := fun h h' => h (HY.out ▸ h'.2.2.2 i hlt)
            have YES : Hid (KidOk s.length n y → ∀ j, j < i + 1 → KidOk s.length n (kd n j)) := fun h j hj => by
              by_cases e : j = i
              · subst e; rw [HY.out]; exact h
              · exact HA.out j (by omega)
            by_cases q1 : y.node < 0
            · have HX : Hid (¬ KidOk s.length n y) := fun h => by have := h.1; omega
              go_wp2
              go_ret
              exact reto_no (NO.out HX.out) HBW1.out
            have q1' : 0 ≤ y.node := by omega
            by_cases q2 : ¬ y.node < s.length
            · have HX : Hid (¬ KidOk s.length n y) := fun h => q2 h.2.1
              have q2' : (s.length : Int) ≤ y.node := by omega
              clear q1 q2
              go_wp2
              go_ret
              exact reto_no (NO.out HX.out) HBW1.out
            have q2 : y.node < s.length := by omega
            clear q1
            by_cases q3 : ¬ (y.must ∨ n.kind = 10)
            · have HX : Hid (¬ KidOk s.length n y) := fun h => q3 h.2.2.1
              obtain rfl : r = false := by cases r; rfl; exact absurd (.inl (HRM.out.1 rfl)) q3
              have q4 : (n.kind != 10) = true := by simp; exact fun e => q3 (.inr e)
              clear q3
              go_wp2
              go_ret
              exact reto_no (NO.out HX.out) HBW1.out
            have q3 : y.must ∨ n.kind = 10 := Classical.not_not.1 q3
            have HQ3 : Hid (y.must ∨ n.kind = 10) := q3
            have q5 : r = true ∨ (r = false ∧ (n.kind != 10) = false) := by
              cases r
              · right
                refine ⟨rfl, ?_⟩
                rcases q3 with q3 | q3
                · exact Bool.noConfusion (HRM.out.2 q3)
                · simp [q3]
              · exact .inl rfl
            clear q3
            by_cases q6 : y.opt = true
            · by_cases q7 : y.dflt.size = 0
              · have e7 := emp_t q7
                have HX : Hid (KidOk s.length n y) := ⟨q1', q2, HQ3.out, fun h => h.2 q7⟩
                clear q7
                rw [q6] at y1
                clear q6
                rcases q5 with rfl | ⟨rfl, q8⟩
                · go_wp2
                  go_roundw
                  case rel => exact ⟨i + 1, by omega, by go_num, YES.out HX.out, HB1'.out⟩
                  case measure => simp [intOf]; omega
                · go_wp2
                  go_roundw
                  case rel => exact ⟨i + 1, by omega, by go_num, YES.out HX.out, HB1'.out⟩
                  case measure => simp [intOf]; omega
              · have e7 := emp_f (t := y.dflt) (by omega)
                have HX : Hid (¬ KidOk s.length n y) := fun h => h.2.2.2 ⟨q6, q7⟩
                clear q7
                rw [q6] at y1
                clear q6
                rcases q5 with rfl | ⟨rfl, q8⟩
                · go_wp2
                  go_ret
                  exact reto_no (NO.out HX.out) HBW1.out
                · go_wp2
                  go_ret
                  exact reto_no (NO.out HX.out) HBW1.out
            · have q6' : y.opt = false := by simpa using q6
              have HX : Hid (KidOk s.length n y) := ⟨q1', q2, HQ3.out, fun h => q6 h.1⟩
              rw [q6'] at y1
              clear q6 q6'
              rcases q5 with rfl | ⟨rfl, q8⟩
              · go_wp2
                go_roundw
                case rel => exact ⟨i + 1, by omega, by go_num, YES.out HX.out, HB1'.out⟩
                case measure => simp [intOf]; omega
              · go_wp2
                go_roundw
                case rel => exact ⟨i + 1, by omega, by go_num, YES.out HX.out, HB1'.out⟩
                case measure => simp [intOf]; omega
          · have hlt' : (n.kids.length : Int) ≤ i := by omega
            go_wp2
            go_ret
            exact reto_yes ⟨HB1.out, HB2.out, HC.out, fun j h => HA.out j (by omega)⟩ HBW.out
      have e13 : (n.kind == 13) = false := by simp [h13]
      by_cases hc : ¬ n.kids.length = 0
      · have HX : Hid (¬ Count n.kind n.kids.length) := by show ¬ Count n.kind n.kids.length; unfold Count; rw [if_neg h10, if_neg (by omega), if_neg h13]; exact hc
        have hc' : ((n.kids.length : Int) != 0) = true := by rw [bne_iff_ne]; omega
        clear hc h10 h11 h12 h13
        go_wp2
        go_ret
        exact reto_no (fun h => HX.out h.2.2.1) HBW0.out
      have hc : n.kids.length = 0 := by omega
      have HC : Hid (Count n.kind n.kids.length) := by show Count n.kind n.kids.length; unfold Count; rw [if_neg h10, if_neg (by omega), if_neg h13]; exact hc
      have hc' : ((n.kids.length : Int) != 0) = false := by simp [hc]
      have hl' : (n.kids.length : Int) ≤ 0 := by omega
      have HZ : Hid (n.kids.length = 0) := hc
      clear h10 h11 h12 h13 hc
      go_wp2
      refine wp_loop_rounds 1 ?_
      rw [rounds_succ]
      go_wp2
      go_ret
      exact reto_yes ⟨HB1.out, HB2.out, HC.out, fun j h => absurd h (by have := HZ.out; omega)⟩ HBW0.out
end Go.Proofs.YtkkicodfpekbgaaGreatDoor
