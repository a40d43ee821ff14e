/-
  schemas.comesBack, isShaped: what they answer.
-/
import Derived.Test.YtjceeljaljdmoaaGreatDoorPr
import Derived.Test.YtjceeljaljdmoaaGreatDoorSd
namespace Go.Proofs.YtjceeljaljdmoaaGreatDoor
open Go.RowKit

set_option maxHeartbeats 1000000 in
set_option maxRecDepth 100000 in
theorem comesBack_any (s : List Nd) (a : Option Addr) (c i : Nat) (w : World) (hs : Sch w a s) (hw : Within s) (htg : Tags s) (hi : i < s.length) (hn : s.length ≤ 40) :
    Calls Tryz.prog 42 #[.slice a s.length c, .int .i64 i] w fun e w' => RetO (Back s i) w e w' := by
  have HC : Hid (Calls Tryz.prog 67 #[.slice a s.length c, .int .i64 i] w fun e w' => RetE s i w e w') := reach_any s a c i w hs hw htg hi hn
  clear hs hw htg
  go_enter Tryz.func42, Tryz.ntmps42
  go_wp2_with fail
  refine HC.out.mono ?_
  rintro e w1 ⟨v, l, bk, rfl, _, hb, _, _, hbk⟩
  have HB : Hid (Below w.heap.size w w1) := hb
  have HR : Hid (bk = true ↔ Back s i) := hbk
  clear hb hbk
  go_wp2
  go_ret
  exact reto_iff HR.out HB.out

theorem tagged_iff (n : Nd) : (¬ Bad1 n ∧ ¬ Bad2 n) ↔ (1 ≤ n.kind ∧ n.kind ≤ 14 ∧ Tagged n) := by unfold Bad1 Bad2 Tagged; omega
theorem count_iff (k : Int) (m : Nat) : Count k m ↔ ((bnd k).1 ≤ (m : Int) ∧ (m : Int) ≤ (bnd k).2) := by
  unfold Count bnd
  repeat' split
  all_goals simp only; omega

set_option maxHeartbeats 4000000 in
set_option maxRecDepth 100000 in
theorem isShaped_any (m : Nat) (n : Nd) (ka : Option Addr) (kc : Nat) (w : World) (hka : KidsIn w ka n.kids) (hkm : n.kids.length ≤ maxLen) :
    Calls Tryz.prog 40 #[.agg #[.int .i64 n.kind, .int .i64 n.tag, .int .i64 n.mode, .slice ka n.kids.length kc], .int .i64 m] w fun e w' => RetO (Alone m n) w e w' := by
  have HM : Hid (∀ (wr : World) (k : Kd), Calls Tryz.prog 65 #[.agg #[.int .i64 k.node, .bool k.opt, .string k.dflt]] wr fun e w' => RetO (¬ k.must) wr e w') := fun wr k => mayLack_any k wr
  have HT : Hid (∀ wr, Calls Tryz.prog 63 #[.agg #[.int .i64 n.kind, .int .i64 n.tag, .int .i64 n.mode, .slice ka n.kids.length kc]] wr fun e w' => RetO (Tagged n) wr e w') := fun wr => isTagged_any n ka kc wr
  have HKB : Hid (∀ wr, Calls Tryz.prog 64 #[.int .i64 n.kind] wr fun e w' => e = .returned (.tuple #[.int .i64 (bnd n.kind).1, .int .i64 (bnd n.kind).2]) ∧ Below wr.heap.size wr w') := fun wr => kidBounds_any n.kind wr
  have HKI : Hid (KidsIn w ka n.kids) := hka
  clear hka
  by_cases h1 : n.kind < 1
  · have HX : Hid (¬ Alone m n) := fun h => h.1 (.inl h1)
    go_enter Tryz.func40, Tryz.ntmps40
    go_wp2
    go_ret
    exact reto_no HX.out ((Below.refl _ _).alloc (Nat.le_refl _) _)
  have h1' : 1 ≤ n.kind := by omega
  by_cases h2 : 14 < n.kind
  · have HX : Hid (¬ Alone m n) := fun h => h.1 (.inr (.inl h2))
    clear h1
    go_enter Tryz.func40, Tryz.ntmps40
    go_wp2
    go_ret
    exact reto_no HX.out ((Below.refl _ _).alloc (Nat.le_refl _) _)
  have h2' : n.kind ≤ 14 := by omega
  clear h1 h2
  go_enter Tryz.func40, Tryz.ntmps40
  go_wp2_with fail
  refine (HT.out _).mono ?_
  rintro e w1 ⟨r, rfl, hr, hb1⟩
  have HR : Hid (r = true ↔ Tagged n) := hr
  have HB1 : Hid (Below w.heap.size w w1) := below_alloc hb1
  obtain ⟨Bn, hBn⟩ : ∃ Bn, Bn = w.heap.size := ⟨_, rfl⟩
  have HBN : Hid (Bn = w.heap.size) := hBn
  have HG1 : Hid (w1.heap[Bn]? = some (.cells #[.int .i64 n.kind, .int .i64 n.tag, .int .i64 n.mode, .slice ka n.kids.length kc] 58 (0, 0))) := by rw [hBn]; exact block_below (heap_alloc_new w _) hb1
  have q0 : w1.cell? ⟨Bn, 0, none⟩ = some (.int .i64 n.kind) := by simp [World.cell?, HG1.out]
  have q3 : w1.cell? ⟨Bn, 3, none⟩ = some (.slice ka n.kids.length kc) := by simp [World.cell?, HG1.out]
  rw [← hBn]
  clear hr hb1 hBn
  cases r
  · go_wp2
    go_ret
    exact reto_no (fun h => Bool.noConfusion (HR.out.2 ((tagged_iff n).1 ⟨h.1, h.2.1⟩).2.2)) HB1.out
  · have HTG : Hid (¬ Bad1 n ∧ ¬ Bad2 n) := (tagged_iff n).2 ⟨h1', h2', HR.out.1 rfl⟩
    go_wp2_with fail
    refine (HKB.out _).mono ?_
    rintro e w2 ⟨rfl, hb2⟩
    have HB2 : Hid (Below w.heap.size w w2) := HB1.out.trans (hb2.mono HB1.out.size)
    have HG2 : Hid (w2.heap[Bn]? = some (.cells #[.int .i64 n.kind, .int .i64 n.tag, .int .i64 n.mode, .slice ka n.kids.length kc] 58 (0, 0))) := block_below HG1.out hb2
    have p0 : w2.cell? ⟨Bn, 0, none⟩ = some (.int .i64 n.kind) := by simp [World.cell?, HG2.out]
    have p3 : w2.cell? ⟨Bn, 3, none⟩ = some (.slice ka n.kids.length kc) := by simp [World.cell?, HG2.out]
    have HCI := count_iff n.kind n.kids.length
    have HCH : Hid (Count n.kind n.kids.length ↔ ((bnd n.kind).1 ≤ (n.kids.length : Int) ∧ (n.kids.length : Int) ≤ (bnd n.kind).2)) := HCI
    generalize (bnd n.kind).1 = lo at *
    generalize (bnd n.kind).2 = hi at *
    clear hb2 q0 q3 HCI
    by_cases c1 : (n.kids.length : Int) < lo
    · have HX : Hid (¬ Count n.kind n.kids.length) := fun q => by have := HCH.out.1 q; omega
      go_wp2
      go_ret
      exact reto_no (fun h => HX.out h.2.2.1) HB2.out
    have c1' : lo ≤ (n.kids.length : Int) := by omega
    by_cases c2 : hi < (n.kids.length : Int)
    · have HX : Hid (¬ Count n.kind n.kids.length) := fun q => by have := HCH.out.1 q; omega
      clear c1
      go_wp2
      go_ret
      exact reto_no (fun h => HX.out h.2.2.1) HB2.out
    have c2' : (n.kids.length : Int) ≤ hi := by omega
    have HC : Hid (Count n.kind n.kids.length) := HCH.out.2 ⟨c1', c2'⟩
    have hk8 : n.kids.length ≤ 8 := by
      have := HC.out
      unfold Count at this
      repeat' split at this
      all_goals omega
    clear c1 c2
    go_wp2
    go_loopw [43] (fun vi wr => ∃ i : Nat, i ≤ n.kids.length ∧ vi = .int .i64 i ∧ (∀ j, j < i → KidOk m n (kd n j)) ∧ Below w2.heap.size w2 wr) (fun vi _ => n.kids.length - (intOf vi).toNat)
    case atStart => exact ⟨0, Nat.zero_le _, rfl, fun _ h => absurd h (Nat.not_lt_zero _), Below.refl _ _⟩
    case round =>
      obtain ⟨i, hi', rfl, hall, hbr⟩ := hrel
      have HA : Hid (∀ j, j < i → KidOk m n (kd n j)) := hall
      have HB : Hid (Below w2.heap.size w2 wr) := hbr
      have HBW : Hid (Below w.heap.size w wr) := HB2.out.trans (hbr.mono HB2.out.size)
      have HG3 : Hid (wr.heap[Bn]? = some (.cells #[.int .i64 n.kind, .int .i64 n.tag, .int .i64 n.mode, .slice ka n.kids.length kc] 58 (0, 0))) := block_below HG2.out hbr
      clear hall hbr
      by_cases hlt : i < n.kids.length
      · have hlt' : (i : Int) < n.kids.length := by omega
        obtain ⟨kb, ko, rfl, kcl⟩ := HKI.out i hlt
        obtain ⟨y, hy⟩ : ∃ y, kd n i = y := ⟨_, rfl⟩
        have HY : Hid (kd n i = y) := hy
        have hkc : KidCells w kb (ko + i * 3) y := by rw [← hy]; exact kcl
        obtain ⟨k1, k2, k3⟩ := hkc.below HBW.out
        have HB6 : Hid (∀ o, Below w.heap.size w (wr.alloc o)) := fun o => HBW.out.alloc HBW.out.size o
        have NO : Hid (¬ KidOk m n y → ¬ Alone m n) := fun h h' => h (HY.out ▸ h'.2.2.2 i hlt)
        have YES : Hid (KidOk m n y → ∀ j, j < i + 1 → KidOk m n (kd n j)) := fun h j hj => by
          by_cases e : j = i
          · subst e; rw [HY.out]; exact h
          · exact HA.out j (by omega)
        clear hy kcl hkc
        by_cases q1 : y.node < 0
        · have HX : Hid (¬ KidOk m n y) := fun h => by have := h.1; omega
          go_wp2
          go_ret
          exact reto_no (NO.out HX.out) (HB6.out _)
        have q1' : 0 ≤ y.node := by omega
        by_cases q2 : ¬ y.node < m
        · have HX : Hid (¬ KidOk m n y) := fun h => q2 h.2.1
          have q2' : (m : Int) ≤ y.node := by omega
          clear q1 q2
          go_wp2
          go_ret
          exact reto_no (NO.out HX.out) (HB6.out _)
        have q2' : y.node < m := by omega
        clear q1 q2
        go_wp2_with fail
        refine (HM.out _ y).mono ?_
        rintro e w3 ⟨r, rfl, hr, hb3⟩
        have HRM : Hid (r = true ↔ ¬ y.must) := hr
        have HB3 : Hid (Below w2.heap.size w2 w3) := HB.out.trans ((below_alloc hb3).mono HB.out.size)
        have HBW3 : Hid (Below w.heap.size w w3) := HBW.out.trans ((below_alloc hb3).mono HBW.out.size)
        have HG4 : Hid (w3.heap[Bn]? = some (.cells #[.int .i64 n.kind, .int .i64 n.tag, .int .i64 n.mode, .slice (some ⟨kb, ko, none⟩) n.kids.length kc] 58 (0, 0))) := block_below HG3.out (below_alloc hb3)
        have HYB : Hid (w3.heap[wr.heap.size]? = some (.cells #[.int .i64 y.node, .bool y.opt, .string y.dflt] 55 (0, 0))) := block_below (heap_alloc_new wr _) hb3
        have f0 : w3.cell? ⟨Bn, 0, none⟩ = some (.int .i64 n.kind) := by simp [World.cell?, HG4.out]
        have y1 : w3.cell? ⟨wr.heap.size, 1, none⟩ = some (.bool y.opt) := by simp [World.cell?, HYB.out]
        have y2 : w3.cell? ⟨wr.heap.size, 2, none⟩ = some (.string y.dflt) := by simp [World.cell?, HYB.out]
        clear hr hb3 k1 k2 k3
        by_cases q3 : ¬ (y.must ∨ n.kind = 10)
        · have HX : Hid (¬ KidOk m n y) := fun h => q3 h.2.2.1
          obtain rfl : r = true := HRM.out.2 (fun q => q3 (.inl q))
          have q4 : (n.kind != 10) = true := by simp; exact fun e => q3 (.inr e)
          clear q3
          go_wp2
          go_ret
          exact reto_no (NO.out HX.out) HBW3.out
        have q3 : y.must ∨ n.kind = 10 := Classical.not_not.1 q3
        have HQ3 : Hid (y.must ∨ n.kind = 10) := q3
        have q5 : r = false ∨ (r = true ∧ (n.kind != 10) = false) := by
          cases r
          · exact .inl rfl
          · right
            refine ⟨rfl, ?_⟩
            rcases q3 with q3 | q3
            · exact absurd q3 (HRM.out.1 rfl)
            · simp [q3]
        clear q3
        by_cases q6 : y.opt = true
        · by_cases q7 : y.dflt.size = 0
          · have e7 := emp_t q7
            have HX : Hid (KidOk m n y) := ⟨q1', q2', HQ3.out, fun h => h.2 q7⟩
            clear q7
            rw [q6] at y1
            clear q6
            rcases q5 with rfl | ⟨rfl, q8⟩
            · go_wp2
              go_roundw
              case rel => exact ⟨i + 1, by omega, by go_num, YES.out HX.out, HB3.out⟩
              case measure => simp [intOf]; omega
            · go_wp2
              go_roundw
              case rel => exact ⟨i + 1, by omega, by go_num, YES.out HX.out, HB3.out⟩
              case measure => simp [intOf]; omega
          · have e7 := emp_f (t := y.dflt) (by omega)
            have HX : Hid (¬ KidOk m n y) := fun h => h.2.2.2 ⟨q6, q7⟩
            clear q7
            rw [q6] at y1
            clear q6
            rcases q5 with rfl | ⟨rfl, q8⟩
            · go_wp2
              go_ret
              exact reto_no (NO.out HX.out) HBW3.out
            · go_wp2
              go_ret
              exact reto_no (NO.out HX.out) HBW3.out
        · have q6' : y.opt = false := by simpa using q6
          have HX : Hid (KidOk m n y) := ⟨q1', q2', HQ3.out, fun h => q6 h.1⟩
          rw [q6'] at y1
          clear q6 q6'
          rcases q5 with rfl | ⟨rfl, q8⟩
          · go_wp2
            go_roundw
            case rel => exact ⟨i + 1, by omega, by go_num, YES.out HX.out, HB3.out⟩
            case measure => simp [intOf]; omega
          · go_wp2
            go_roundw
            case rel => exact ⟨i + 1, by omega, by go_num, YES.out HX.out, HB3.out⟩
            case measure => simp [intOf]; omega
      · have hlt' : (n.kids.length : Int) ≤ i := by omega
        go_wp2
        go_ret
        exact reto_yes ⟨HTG.out.1, HTG.out.2, HC.out, fun j h => HA.out j (by omega)⟩ HBW.out
end Go.Proofs.YtjceeljaljdmoaaGreatDoor
