/-
  slices.Index, slices.Contains at tags; tagSet.meets: what they answer.
-/
import Derived.Test.YtjceeljaljdmoaaGreatDoorPc
namespace Go.Proofs.YtjceeljaljdmoaaGreatDoor
open Go.RowKit

/-- Tags behind an address. -/
def TagsIn (w : World) (a : Option Addr) (ts : List (Int × Int)) : Prop := ∀ j, j < ts.length → ∃ b o, a = some ⟨b, o, none⟩ ∧ w.cell? ⟨b, o + j * 2, none⟩ = some (.int .i64 (ts.getD j (0, 0)).1) ∧ w.cell? ⟨b, o + j * 2 + 1, none⟩ = some (.int .i64 (ts.getD j (0, 0)).2)
theorem TagsIn.below {w w' : World} {a : Option Addr} {ts : List (Int × Int)} (h : TagsIn w a ts) (hb : Below w.heap.size w w') : TagsIn w' a ts := fun j hj => by
  obtain ⟨b, o, e, h1, h2⟩ := h j hj
  exact ⟨b, o, e, (hb.cell (lt_of_cell h1)).trans h1, (hb.cell (lt_of_cell h2)).trans h2⟩

set_option maxHeartbeats 2000000 in
set_option maxRecDepth 100000 in
theorem index_any (ts : List (Int × Int)) (a : Option Addr) (c : Nat) (t : Int × Int) (w : World) (h : TagsIn w a ts) (hl : ts.length ≤ 41) :
    Calls Tryz.prog 159 #[.slice a ts.length c, .agg #[.int .i64 t.1, .int .i64 t.2]] w fun e w' => ∃ r, e = .returned (.int .i64 r) ∧ (0 ≤ r ↔ t ∈ ts) ∧ Below w.heap.size w w' := by
  obtain ⟨t1, t2⟩ := t
  have HI : Hid (TagsIn w a ts) := h
  clear h
  go_enter Tryz.func159, Tryz.ntmps159
  go_wp2
  go_loopw [8] (fun vj wr => ∃ j : Nat, vj = .int .i64 j ∧ j ≤ ts.length ∧ (∀ p, p < j → ts.getD p (0, 0) ≠ (t1, t2)) ∧ ∃ q, wr = (w.alloc (.cells #[.int .i64 t1, .int .i64 t2] 121)).drewN q) (fun vj _ => ts.length - (intOf vj).toNat)
  case atStart => exact ⟨0, rfl, Nat.zero_le _, fun _ h => absurd h (Nat.not_lt_zero _), 0, rfl⟩
  case round =>
    obtain ⟨j, rfl, hj, hno, q, rfl⟩ := hrel
    have HN : Hid (∀ p, p < j → ts.getD p (0, 0) ≠ (t1, t2)) := hno
    have HB : Hid (∀ q, Below w.heap.size w ((w.alloc (.cells #[.int .i64 t1, .int .i64 t2] 121)).drewN q)) := fun q => below_drewN ((Below.refl _ _).alloc (Nat.le_refl _) _) q
    clear hno
    by_cases hlt : j < ts.length
    · obtain ⟨b, o, rfl, c1, c2⟩ := HI.out j hlt
      have hbl : b < w.heap.size := lt_of_cell c1
      have hlt' : (j : Int) < ts.length := by omega
      have HM : Hid (ts.getD j (0, 0) ∈ ts) := by show _ ∈ ts; rw [List.getD_eq_getElem?_getD, List.getElem?_eq_getElem hlt]; exact List.getElem_mem hlt
      obtain ⟨u, hu⟩ : ∃ u, ts.getD j (0, 0) = u := ⟨_, rfl⟩
      have HU : Hid (ts.getD j (0, 0) = u) := hu
      rw [hu] at c1 c2
      clear hu
      obtain ⟨u1, u2⟩ := u
      simp only at c1 c2
      by_cases e : t1 = u1 ∧ t2 = u2
      · obtain ⟨rfl, rfl⟩ := e
        go_wp2
        go_quiet (fail)
        go_wp2
        go_ret
        exact ⟨j, rfl, ⟨fun _ => by rw [← HU.out]; exact HM.out, fun _ => by omega⟩, below_drewN (HB.out _) _⟩
      · have HE : Hid ((u1, u2) ≠ (t1, t2)) := fun q => e (by injection q with q1 q2; exact ⟨q1.symm, q2.symm⟩)
        by_cases e1 : t1 = u1
        · subst e1
          have e2 : (t2 == u2) = false := by rw [beq_eq_false_iff_ne]; exact fun q => e ⟨rfl, q⟩
          clear e
          go_wp2
          go_quiet (fail)
          go_wp2
          go_roundw
          case rel => exact ⟨j + 1, by go_num, by omega, fun p hp => by
            by_cases ep : p = j
            · subst ep; rw [HU.out]; exact HE.out
            · exact HN.out p (by omega), _, rfl⟩
          case measure => simp [intOf]; omega
        · have e2 : (t1 == u1) = false := by rw [beq_eq_false_iff_ne]; exact e1
          clear e e1
          go_wp2
          go_quiet (fail)
          go_wp2
          go_roundw
          case rel => exact ⟨j + 1, by go_num, by omega, fun p hp => by
            by_cases ep : p = j
            · subst ep; rw [HU.out]; exact HE.out
            · exact HN.out p (by omega), _, rfl⟩
          case measure => simp [intOf]; omega
    · have hlt' : (ts.length : Int) ≤ j := by omega
      go_wp2
      go_ret
      exact ⟨-1, rfl, ⟨fun h => absurd h (by decide), fun h => by
        obtain ⟨p, hp, e⟩ := List.getElem_of_mem h
        exact absurd (by rw [List.getD_eq_getElem?_getD, List.getElem?_eq_getElem hp]; simpa using e) (HN.out p (by omega))⟩, HB.out _⟩

set_option maxHeartbeats 1000000 in
set_option maxRecDepth 100000 in
theorem contains_any (ts : List (Int × Int)) (a : Option Addr) (c : Nat) (t : Int × Int) (w : World) (h : TagsIn w a ts) (hl : ts.length ≤ 41) :
    Calls Tryz.prog 140 #[.slice a ts.length c, .agg #[.int .i64 t.1, .int .i64 t.2]] w fun e w' => RetO (t ∈ ts) w e w' := by
  have HC : Hid (∀ w, TagsIn w a ts → Calls Tryz.prog 159 #[.slice a ts.length c, .agg #[.int .i64 t.1, .int .i64 t.2]] w fun e w' => ∃ r, e = .returned (.int .i64 r) ∧ (0 ≤ r ↔ t ∈ ts) ∧ Below w.heap.size w w') := fun w q => index_any ts a c t w q hl
  have HI : Hid (∀ o, TagsIn (w.alloc o) a ts) := fun o => h.below ((Below.refl _ _).alloc (Nat.le_refl _) _)
  clear h
  go_enter Tryz.func140, Tryz.ntmps140
  go_wp2_with fail
  refine (HC.out _ (HI.out _)).mono ?_
  rintro e w1 ⟨r, rfl, hr, hb⟩
  have HR : Hid (0 ≤ r ↔ t ∈ ts) := hr
  have HB : Hid (Below w.heap.size w w1) := below_alloc hb
  clear hr hb
  go_wp2
  go_ret
  exact reto_iff (by rw [decide_eq_true_iff]; exact HR.out) HB.out

/-- Beginnings as the program holds them. -/
structure Bgs (w : World) (all : Bool) (a : Option Addr) (ts : List (Int × Int)) : Prop where
  tags : TagsIn w a ts
  len : ts.length ≤ 41
/-- They have one in common. -/
def MeetsT (al1 al2 : Bool) (t1 t2 : List (Int × Int)) : Prop := al1 = true ∨ al2 = true ∨ ∃ t, t ∈ t1 ∧ t ∈ t2

set_option maxHeartbeats 2000000 in
set_option maxRecDepth 100000 in
theorem meets_any (al1 al2 : Bool) (a1 a2 : Option Addr) (c1 c2 : Nat) (t1 t2 : List (Int × Int)) (w : World) (h1 : TagsIn w a1 t1) (h2 : TagsIn w a2 t2) (hl1 : t1.length ≤ 41) (hl2 : t2.length ≤ 41) :
    Calls Tryz.prog 100 #[.agg #[.bool al1, .slice a1 t1.length c1], .agg #[.bool al2, .slice a2 t2.length c2]] w fun e w' => RetO (MeetsT al1 al2 t1 t2) w e w' := by
  have HC : Hid (∀ w t, TagsIn w a2 t2 → Calls Tryz.prog 140 #[.slice a2 t2.length c2, .agg #[.int .i64 t.1, .int .i64 t.2]] w fun e w' => RetO (t ∈ t2) w e w') := fun w t q => contains_any t2 a2 c2 t w q hl2
  have H1 : Hid (TagsIn w a1 t1) := h1
  have H2 : Hid (TagsIn w a2 t2) := h2
  clear h1 h2
  have hb0 : Below w.heap.size w ((w.alloc (.cells #[.bool al1, .slice a1 t1.length c1] 141)).alloc (.cells #[.bool al2, .slice a2 t2.length c2] 141)) := ((Below.refl _ _).alloc (Nat.le_refl _) _).alloc (by simp) _
  cases al1
  · cases al2
    · have HB0 : Hid (Below w.heap.size w ((w.alloc (.cells #[.bool false, .slice a1 t1.length c1] 141)).alloc (.cells #[.bool false, .slice a2 t2.length c2] 141))) := hb0
      clear hb0
      go_enter Tryz.func100, Tryz.ntmps100
      go_wp2
      obtain ⟨B, hB⟩ : ∃ B, B = w.heap.size + 1 := ⟨_, rfl⟩
      have HW0 : Hid (∀ wr, Below ((w.alloc (.cells #[.bool false, .slice a1 t1.length c1] 141)).alloc (.cells #[.bool false, .slice a2 t2.length c2] 141)).heap.size ((w.alloc (.cells #[.bool false, .slice a1 t1.length c1] 141)).alloc (.cells #[.bool false, .slice a2 t2.length c2] 141)) wr →
          wr.cell? ⟨B, 1, none⟩ = some (.slice a2 t2.length c2) ∧ Below w.heap.size w wr) := fun wr h => by
        have q := block_below (show _ = some (Obj.cells _ _ _) from heap_alloc_new (w.alloc (.cells #[.bool false, .slice a1 t1.length c1] 141)) (.cells #[.bool false, .slice a2 t2.length c2] 141)) h
        subst hB
        exact ⟨by simp at q; simp [World.cell?, q], below_alloc (below_alloc h)⟩
      generalize ((w.alloc (.cells #[.bool false, .slice a1 t1.length c1] 141)).alloc (.cells #[.bool false, .slice a2 t2.length c2] 141)) = W0 at *
      rw [← hB]
      clear hB
      go_loopw [16] (fun vj wr => ∃ j : Nat, vj = .int .i64 j ∧ j ≤ t1.length ∧ (∀ p, p < j → t1.getD p (0, 0) ∉ t2) ∧ Below W0.heap.size W0 wr) (fun vj _ => t1.length - (intOf vj).toNat)
      case atStart => exact ⟨0, rfl, Nat.zero_le _, fun _ h => absurd h (Nat.not_lt_zero _), Below.refl _ _⟩
      case round =>
        obtain ⟨j, rfl, hj, hno, hbr⟩ := hrel
        have HN : Hid (∀ p, p < j → t1.getD p (0, 0) ∉ t2) := hno
        have HB : Hid (Below W0.heap.size W0 wr) := hbr
        obtain ⟨d1, hbw⟩ := HW0.out wr hbr
        have HBW : Hid (Below w.heap.size w wr) := hbw
        clear hno hbr hbw
        by_cases hlt : j < t1.length
        · obtain ⟨b, o, rfl, c1', c2'⟩ := (H1.out.below HBW.out) j hlt
          have hlt' : (j : Int) < t1.length := by omega
          have HM : Hid (t1.getD j (0, 0) ∈ t1) := by show _ ∈ t1; rw [List.getD_eq_getElem?_getD, List.getElem?_eq_getElem hlt]; exact List.getElem_mem hlt
          obtain ⟨u, hu⟩ : ∃ u, t1.getD j (0, 0) = u := ⟨_, rfl⟩
          have HU : Hid (t1.getD j (0, 0) = u) := hu
          rw [hu] at c1' c2'
          clear hu
          have hbB := lt_of_cell d1
          go_wp2_with fail
          refine (HC.out _ u ((H2.out.below HBW.out).below ((Below.refl _ _).alloc (Nat.le_refl _) _))).mono ?_
          rintro e w3 ⟨r, rfl, hr, hb3⟩
          have HR : Hid (r = true ↔ u ∈ t2) := hr
          have HB3 : Hid (Below W0.heap.size W0 w3) := HB.out.trans ((below_alloc hb3).mono HB.out.size)
          have HBW3 : Hid (Below w.heap.size w w3) := HBW.out.trans ((below_alloc hb3).mono HBW.out.size)
          clear hr hb3
          cases r
          · go_wp2
            go_roundw
            case rel => exact ⟨j + 1, by go_num, by omega, fun p hp => by
              by_cases ep : p = j
              · subst ep; rw [HU.out]; exact fun q => Bool.noConfusion (HR.out.2 q)
              · exact HN.out p (by omega), HB3.out⟩
            case measure => simp [intOf]; omega
          · go_wp2
            go_ret
            exact reto_yes (.inr (.inr ⟨u, by rw [← HU.out]; exact HM.out, HR.out.1 trivial⟩)) HBW3.out
        · have hlt' : (t1.length : Int) ≤ j := by omega
          go_wp2
          go_ret
          exact reto_no (fun h => by
            rcases h with h | h | ⟨t, h1, h2⟩
            · cases h
            · cases h
            · obtain ⟨p, hp, e⟩ := List.getElem_of_mem h1
              refine HN.out p (by omega) ?_
              rw [List.getD_eq_getElem?_getD, List.getElem?_eq_getElem hp]
              simpa [e] using h2) HBW.out
    · have HB0 : Hid (Below w.heap.size w ((w.alloc (.cells #[.bool false, .slice a1 t1.length c1] 141)).alloc (.cells #[.bool true, .slice a2 t2.length c2] 141))) := hb0
      clear hb0
      go_enter Tryz.func100, Tryz.ntmps100
      go_wp2
      go_ret
      exact reto_yes (.inr (.inl rfl)) HB0.out
  · have HB0 : Hid (Below w.heap.size w ((w.alloc (.cells #[.bool true, .slice a1 t1.length c1] 141)).alloc (.cells #[.bool al2, .slice a2 t2.length c2] 141))) := hb0
    clear hb0
    go_enter Tryz.func100, Tryz.ntmps100
    go_wp2
    go_ret
    exact reto_yes (.inl rfl) HB0.out
end Go.Proofs.YtjceeljaljdmoaaGreatDoor
