/-
  Contents: Time: what the document's function answers.
-/
import Derived.Test.YtjceeljaljdmoaaGreatDoorCti
import Derived.Deep.Light
namespace Go.Proofs.YtjceeljaljdmoaaGreatDoor
open Go.RowKit

def digs : List UInt8 := [48, 49, 50, 51, 52, 53, 54, 55, 56, 57]
theorem digs_in (t : ByteArray) (hs : t.size = 15) : (∀ i, i < (t.extract 0 14).size → ∃ j, j < (⟨digs.toArray⟩ : ByteArray).size ∧ b8 ⟨digs.toArray⟩ j = b8 (t.extract 0 14) i) ↔ DigTo t 14 := by
  have hz : (t.extract 0 14).size = 14 := by rw [ByteArray.size_extract]; omega
  have hd : (⟨digs.toArray⟩ : ByteArray).size = 10 := by decide +kernel
  have hb : ∀ j, j < 10 → b8 ⟨digs.toArray⟩ j = 48 + j := by
    have : ∀ j : Fin 10, b8 ⟨digs.toArray⟩ j.val = 48 + (j.val : Int) := by decide +kernel
    exact fun j hj => this ⟨j, hj⟩
  rw [hz, hd]
  constructor
  · intro h i hi
    obtain ⟨j, hj, e⟩ := h i hi
    rw [hb j hj, b8_cut t 0 14 i (by omega) (by omega), Nat.zero_add] at e
    omega
  · intro h i hi
    have := h i hi
    refine ⟨(b8 t i - 48).toNat, by omega, ?_⟩
    rw [hb _ (by omega), b8_cut t 0 14 i (by omega) (by omega), Nat.zero_add]
    omega

theorem lastDay_cases (y m : Int) : (m = 2 ∧ (y % 400 = 0 ∨ y % 4 = 0 ∧ y % 100 ≠ 0) ∧ lastDay y m = 29) ∨ (m = 2 ∧ ¬ (y % 400 = 0 ∨ y % 4 = 0 ∧ y % 100 ≠ 0) ∧ lastDay y m = 28) ∨
    (m ≠ 2 ∧ (m = 4 ∨ m = 6 ∨ m = 9 ∨ m = 11) ∧ lastDay y m = 30) ∨ (m ≠ 2 ∧ ¬ (m = 4 ∨ m = 6 ∨ m = 9 ∨ m = 11) ∧ lastDay y m = 31) := by
  unfold lastDay
  by_cases h : m = 2
  · by_cases hl : y % 400 = 0 ∨ y % 4 = 0 ∧ y % 100 ≠ 0
    · left; exact ⟨h, hl, by rw [if_pos h, if_pos hl]⟩
    · right; left; exact ⟨h, hl, by rw [if_pos h, if_neg hl]⟩
  · by_cases hl : m = 4 ∨ m = 6 ∨ m = 9 ∨ m = 11
    · right; right; left; exact ⟨h, hl, by rw [if_neg h, if_pos hl]⟩
    · right; right; right; exact ⟨h, hl, by rw [if_neg h, if_neg hl]⟩

set_option maxHeartbeats 2000000 in
set_option maxRecDepth 100000 in
theorem isTime_any (t : ByteArray) (w : World) (hm : t.size ≤ 9223372036854775807) :
    Calls Tryz.prog 113 #[.string t] w fun e w' => RetB (TimeOk t) w e w' := by
  by_cases hs : t.size = 15
  · have hs' : ((t.size : Int) != 15) = false := by rw [bne_eq_false_iff_eq]; omega
    have h14 : 14 < t.size := by omega
    have h14' : (14 : Int) < t.size := by omega
    have HZ : Hid ((t[14].toNat : Int) = b8 t 14) := b8_get t 14 h14
    have HS : Hid (t.size = 15) := hs
    have hge : 15 ≤ t.size := by omega
    clear hs
    by_cases hz : (t[14].toNat : Int) = 90
    · have hz' : ((t[14].toNat : Int) != 90) = false := by rw [bne_eq_false_iff_eq]; exact hz
      have HZ2 : Hid (b8 t 14 = 90) := by show _ = _; rw [← HZ.out]; exact hz
      clear hz
      go_enter Tryz.func113, Tryz.ntmps113
      go_wp2_with fail
      refine (all_any (t.extract 0 14) ⟨digs.toArray⟩ _ (by rw [ByteArray.size_extract]; omega) (by decide +kernel)).mono ?_
      rintro e w1 ⟨r, rfl, hr, hd⟩
      have HR : Hid (r = true ↔ DigTo t 14) := hr.trans (digs_in t HS.out)
      obtain ⟨q, hd⟩ := hd
      have HW1 : Hid (w.drewN q = w1) := hd.symm
      clear hr hd
      cases r
      · have HN : Hid (¬ TimeOk t) := fun h => by cases HR.out.2 h.2.2.1
        go_wp2_with fail
        go_ret
        exact ret_no HN.out (drew2 HW1.out 0)
      have HG : DigTo t 14 := HR.out.1 rfl
      have hs := HS.out
      have PY : Hid (∀ w, Calls Tryz.prog 143 #[.string (t.extract 0 4)] w fun e w' => e = .returned (.int .i64 (dec t 0 4)) ∧ w' = w) := fun w => numberRef_any _ w (by rw [ByteArray.size_extract]; omega) (dig_cut HG hs 0 4 (by omega))
      have PMo : Hid (∀ w, Calls Tryz.prog 143 #[.string (t.extract 4 6)] w fun e w' => e = .returned (.int .i64 (dec t 4 6)) ∧ w' = w) := fun w => numberRef_any _ w (by rw [ByteArray.size_extract]; omega) (dig_cut HG hs 4 6 (by omega))
      have PDa : Hid (∀ w, Calls Tryz.prog 143 #[.string (t.extract 6 8)] w fun e w' => e = .returned (.int .i64 (dec t 6 8)) ∧ w' = w) := fun w => numberRef_any _ w (by rw [ByteArray.size_extract]; omega) (dig_cut HG hs 6 8 (by omega))
      have PHo : Hid (∀ w, Calls Tryz.prog 143 #[.string (t.extract 8 10)] w fun e w' => e = .returned (.int .i64 (dec t 8 10)) ∧ w' = w) := fun w => numberRef_any _ w (by rw [ByteArray.size_extract]; omega) (dig_cut HG hs 8 10 (by omega))
      have PMi : Hid (∀ w, Calls Tryz.prog 143 #[.string (t.extract 10 12)] w fun e w' => e = .returned (.int .i64 (dec t 10 12)) ∧ w' = w) := fun w => numberRef_any _ w (by rw [ByteArray.size_extract]; omega) (dig_cut HG hs 10 12 (by omega))
      have PSe : Hid (∀ w, Calls Tryz.prog 143 #[.string (t.extract 12 14)] w fun e w' => e = .returned (.int .i64 (dec t 12 14)) ∧ w' = w) := fun w => numberRef_any _ w (by rw [ByteArray.size_extract]; omega) (dig_cut HG hs 12 14 (by omega))
      have HT : Hid (TimeOk t ↔ DayOk (dec t 0 4) (dec t 4 6) (dec t 6 8) ∧ dec t 8 10 ≤ 23 ∧ dec t 10 12 ≤ 59 ∧ dec t 12 14 ≤ 59) := timeOk_iff hs HZ2.out HG
      obtain ⟨y0, y1⟩ := dec_bd HG hs 0 4 (by omega) (by omega)
      obtain ⟨vMo, eMo⟩ := Int.eq_ofNat_of_zero_le (dec_bd2 HG hs 4 (by omega)).1
      have lMo : vMo < 100 := by have := (dec_bd2 HG hs 4 (by omega)).2; omega
      rw [eMo] at PMo HT
      obtain ⟨vDa, eDa⟩ := Int.eq_ofNat_of_zero_le (dec_bd2 HG hs 6 (by omega)).1
      have lDa : vDa < 100 := by have := (dec_bd2 HG hs 6 (by omega)).2; omega
      rw [eDa] at PDa HT
      obtain ⟨vHo, eHo⟩ := Int.eq_ofNat_of_zero_le (dec_bd2 HG hs 8 (by omega)).1
      have lHo : vHo < 100 := by have := (dec_bd2 HG hs 8 (by omega)).2; omega
      rw [eHo] at PHo HT
      obtain ⟨vMi, eMi⟩ := Int.eq_ofNat_of_zero_le (dec_bd2 HG hs 10 (by omega)).1
      have lMi : vMi < 100 := by have := (dec_bd2 HG hs 10 (by omega)).2; omega
      rw [eMi] at PMi HT
      obtain ⟨vSe, eSe⟩ := Int.eq_ofNat_of_zero_le (dec_bd2 HG hs 12 (by omega)).1
      have lSe : vSe < 100 := by have := (dec_bd2 HG hs 12 (by omega)).2; omega
      rw [eSe] at PSe HT
      generalize dec t 0 4 = vY at PY HT y0 y1
      clear HG hs eMo eDa eHo eMi eSe
      go_wp2_with fail
      refine Calls.mono (PY.out _) ?_
      rintro e w2 ⟨rfl, rfl⟩
      go_wp2_with fail
      refine Calls.mono (PMo.out _) ?_
      rintro e w3 ⟨rfl, rfl⟩
      go_wp2_with fail
      refine Calls.mono (PDa.out _) ?_
      rintro e w4 ⟨rfl, rfl⟩
      go_wp2_with fail
      all_goals first
        | (go_ret
           refine ret_no (fun h => ?_) (drew2 HW1.out 0)
           have hd := (HT.out.1 h).1
           have hl := lastDay_cases vY vMo
           unfold DayOk at hd
           go_light
           simp only [beq_iff_eq, beq_eq_false_iff_ne, bne_iff_ne, bne_eq_false_iff_eq, ne_eq] at *
           omega)
        | (have HY : Hid (DayOk vY vMo vDa) := by
             have hl := lastDay_cases vY vMo
             show DayOk vY vMo vDa
             unfold DayOk
             go_light
             simp only [beq_iff_eq, beq_eq_false_iff_ne, bne_iff_ne, bne_eq_false_iff_eq, ne_eq] at *
             omega
           refine Calls.mono (PHo.out _) ?_
           rintro e w5 ⟨rfl, rfl⟩
           by_cases g1 : vHo < 24
           · go_wp2_with fail
             refine Calls.mono (PMi.out _) ?_
             rintro e w6 ⟨rfl, rfl⟩
             by_cases g2 : vMi < 60
             · go_wp2_with fail
               refine Calls.mono (PSe.out _) ?_
               rintro e w7 ⟨rfl, rfl⟩
               by_cases g3 : vSe < 60
               · have HF : Hid (TimeOk t) := HT.out.2 ⟨HY.out, by omega, by omega, by omega⟩
                 have c1 : decide ((vSe : Int) < 60) = true := decide_eq_true (by omega)
                 go_wp2_with fail
                 go_ret
                 exact ret_yes HF.out (drew2 HW1.out 0)
               · have HF : Hid (¬ TimeOk t) := fun h => by have := (HT.out.1 h).2.2.2; omega
                 have c1 : decide ((vSe : Int) < 60) = false := decide_eq_false (by omega)
                 go_wp2_with fail
                 go_ret
                 exact ret_no HF.out (drew2 HW1.out 0)
             · have HF : Hid (¬ TimeOk t) := fun h => by have := (HT.out.1 h).2.2.1; omega
               have c1 : decide ((vMi : Int) < 60) = false := decide_eq_false (by omega)
               go_wp2_with fail
               go_ret
               exact ret_no HF.out (drew2 HW1.out 0)
           · have HF : Hid (¬ TimeOk t) := fun h => by have := (HT.out.1 h).2.1; omega
             have c1 : decide ((vHo : Int) < 24) = false := decide_eq_false (by omega)
             go_wp2_with fail
             go_ret
             exact ret_no HF.out (drew2 HW1.out 0))
    · have hz' : ((t[14].toNat : Int) != 90) = true := by rw [bne_iff_ne]; exact hz
      have HN : Hid (¬ TimeOk t) := fun h => hz (HZ.out.trans h.2.1)
      clear hz
      go_enter Tryz.func113, Tryz.ntmps113
      go_wp2
      go_ret
      exact ret_no HN.out (drew0 w)
  · have hs' : ((t.size : Int) != 15) = true := by rw [bne_iff_ne]; omega
    have HN : Hid (¬ TimeOk t) := fun h => hs h.1
    clear hs
    go_enter Tryz.func113, Tryz.ntmps113
    go_wp2
    go_ret
    exact ret_no HN.out (drew0 w)
end Go.Proofs.YtjceeljaljdmoaaGreatDoor
