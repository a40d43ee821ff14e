/-
  Contents: Time: what the program's and the document's functions answer.
-/
import Derived.Test.YtjceeljaljdmoaaGreatDoorCtm
import Derived.Deep.RegionWith
namespace Go.Proofs.YtjceeljaljdmoaaGreatDoor
open Go.RowKit

/-- The number that the digits from a to b tell. -/
def dec (t : ByteArray) (a b : Nat) : Int := decTo (t.extract a b) (t.extract a b).size
def DayOk (y m d : Int) : Prop := 1 ≤ m ∧ m ≤ 12 ∧ 1 ≤ d ∧ d ≤ lastDay y m
def TimeOk (t : ByteArray) : Prop := t.size = 15 ∧ b8 t 14 = 90 ∧ DigTo t 14 ∧ DayOk (dec t 0 4) (dec t 4 6) (dec t 6 8) ∧ dec t 8 10 ≤ 23 ∧ dec t 10 12 ≤ 59 ∧ dec t 12 14 ≤ 59
theorem b8_cut (t : ByteArray) (a b i : Nat) (hi : i < b - a) (_hb : b ≤ t.size) : b8 (t.extract a b) i = b8 t (a + i) := by
  unfold b8
  rw [Lib.extract_data]
  rw [List.getD_eq_getElem?_getD, List.getD_eq_getElem?_getD]
  first
    | (rw [List.getElem?_take_of_lt hi, List.getElem?_drop]; done)
    | (simp [List.getElem?_take_of_lt hi, List.getElem?_drop]; done)
theorem dig_cut {t : ByteArray} (h : DigTo t 14) (hs : t.size = 15) (a b : Nat) (hb : b ≤ 14) : DigTo (t.extract a b) (t.extract a b).size := by
  intro i hi
  rw [ByteArray.size_extract] at hi
  rw [b8_cut t a b i (by omega) (by omega)]
  exact h (a + i) (by omega)
theorem dec_bd {t : ByteArray} (h : DigTo t 14) (hs : t.size = 15) (a b : Nat) (hb : b ≤ 14) (hab : b - a ≤ 4) : 0 ≤ dec t a b ∧ dec t a b < 10000 :=
  decTo_bd _ _ (by rw [ByteArray.size_extract]; omega) (dig_cut h hs a b hb)
theorem dec_bd2 {t : ByteArray} (h : DigTo t 14) (hs : t.size = 15) (a : Nat) (hb : a + 2 ≤ 14) : 0 ≤ dec t a (a + 2) ∧ dec t a (a + 2) < 100 := by
  unfold dec
  have hz : (t.extract a (a + 2)).size = 2 := by rw [ByteArray.size_extract]; omega
  have hd := dig_cut h hs a (a + 2) hb
  rw [hz] at hd ⊢
  have h0 := hd 0 (by omega)
  have h1 := hd 1 (by omega)
  simp only [decTo]
  omega

set_option maxHeartbeats 1000000 in
set_option maxRecDepth 100000 in
theorem isDate_any (y : Int) (m d : Nat) (w : World) (h0 : 0 ≤ y) (h1 : y < 10000) (hm : m < 100) (hd : d < 100) (hD : Days w) :
    Calls Tryz.prog 158 #[.int .i64 y, .int .i64 m, .int .i64 d] w fun e w' => ∃ r, e = .returned (.bool r) ∧ (r = true ↔ DayOk y m d) ∧ w' = w := by
  have HD : Hid (Days w) := hD
  clear hD
  by_cases q1 : 1 ≤ m ∧ m ≤ 12
  · obtain ⟨a1, a2⟩ := q1
    by_cases q2 : 1 ≤ d
    · have HL : Hid (Calls Tryz.prog 168 #[.int .i64 y, .int .i64 m] w fun e w' => e = .returned (.int .i64 (lastDay y m)) ∧ w' = w) := lastDay_any y m w h0 h1 a1 a2 HD.out
      have HI : Hid (decide ((d : Int) ≤ lastDay y m) = true ↔ DayOk y m d) := by
        show _ ↔ _
        rw [decide_eq_true_iff]
        exact ⟨fun h => ⟨by omega, by omega, by omega, h⟩, fun h => h.2.2.2⟩
      generalize lastDay y m = L at HL HI
      go_enter Tryz.func158, Tryz.ntmps158
      go_wp2_with fail
      refine Calls.mono HL.out ?_
      rintro e w2 ⟨rfl, hw⟩
      subst hw
      go_wp2_with fail
      go_ret
      exact ⟨_, rfl, HI.out, rfl⟩
    · have HN : Hid (¬ DayOk y m d) := fun h => by have := h.2.2.1; omega
      have c1 : decide ((1 : Int) ≤ (d : Int)) = false := decide_eq_false (by omega)
      go_enter Tryz.func158, Tryz.ntmps158
      go_wp2
      go_ret
      exact ⟨false, rfl, ⟨fun e => (by cases e), fun h => absurd h HN.out⟩, rfl⟩
  · have HN : Hid (¬ DayOk y m d) := fun h => q1 ⟨by have := h.1; omega, by have := h.2.1; omega⟩
    by_cases q3 : 1 ≤ m
    · have c1 : decide ((m : Int) ≤ 12) = false := decide_eq_false (by omega)
      clear q1
      go_enter Tryz.func158, Tryz.ntmps158
      go_wp2
      go_ret
      exact ⟨false, rfl, ⟨fun e => (by cases e), fun h => absurd h HN.out⟩, rfl⟩
    · have c1 : decide ((1 : Int) ≤ (m : Int)) = false := decide_eq_false (by omega)
      clear q1
      go_enter Tryz.func158, Tryz.ntmps158
      go_wp2
      go_ret
      exact ⟨false, rfl, ⟨fun e => (by cases e), fun h => absurd h HN.out⟩, rfl⟩

theorem drew2 {w w1 : World} {a : Nat} (h : w.drewN a = w1) (b : Nat) : ∃ k, w1.drewN b = w.drewN k := ⟨a + b, by rw [← h, World.drewN_drewN]⟩
/-- Behind the digits: the program's Time. -/
theorem timeOk_iff {t : ByteArray} (hs : t.size = 15) (hz : b8 t 14 = 90) (hg : DigTo t 14) : TimeOk t ↔ DayOk (dec t 0 4) (dec t 4 6) (dec t 6 8) ∧ dec t 8 10 ≤ 23 ∧ dec t 10 12 ≤ 59 ∧ dec t 12 14 ≤ 59 :=
  ⟨fun h => h.2.2.2, fun h => ⟨hs, hz, hg, h⟩⟩

set_option maxHeartbeats 2000000 in
set_option maxRecDepth 100000 in
theorem fitsTime_any (t : ByteArray) (w : World) (hm : t.size ≤ 9223372036854775807) (hD : Days w) :
    Calls Tryz.prog 138 #[.string t] w fun e w' => RetB (TimeOk t) w e w' := by
  have HD : Hid (Days w) := hD
  clear hD
  by_cases hs : t.size = 15
  · have hs' : ((t.size : Int) != 15) = false := by rw [bne_eq_false_iff_eq]; omega
    have h14 : 14 < t.size := by omega
    have h14' : (14 : Int) < t.size := by omega
    have HZ : Hid ((t[14].toNat : Int) = b8 t 14) := b8_get t 14 h14
    have HS : Hid (t.size = 15) := hs
    have hge : 15 ≤ t.size := by omega
    clear hs
    by_cases hz : (t[14].toNat : Int) = 90
    · have hz' : ((t[14].toNat : Int) != 90) = false := by rw [bne_eq_false_iff_eq]; exact hz
      have HZ2 : Hid (b8 t 14 = 90) := by show _ = _; rw [← HZ.out]; exact hz
      clear hz
      go_enter Tryz.func138, Tryz.ntmps138
      go_wp2
      go_loop [18] (fun i => ∃ k : Nat, k ≤ 14 ∧ i = .int .i64 k ∧ DigTo t k) (fun i => 14 - (intOf i).toNat)
      case atStart => exact ⟨0, by omega, rfl, fun j h => absurd h (Nat.not_lt_zero _)⟩
      case round =>
        obtain ⟨k, hk, rfl, hg⟩ := hrel
        have HG : Hid (DigTo t k) := hg
        clear hg
        by_cases hlt : k < 14
        · have hkt : k < t.size := by omega
          have HE : Hid ((t[k].toNat : Int) = b8 t k) := b8_get t k hkt
          by_cases hd : 48 ≤ (t[k].toNat : Int) ∧ (t[k].toNat : Int) ≤ 57
          · have HX : Hid (DigTo t (k + 1)) := fun i hi => by
              by_cases e : i = k
              · subst e; rw [← HE.out]; exact hd
              · exact HG.out i (by omega)
            obtain ⟨d1, d2⟩ := hd
            go_wp2
            go_round
            case rel => exact ⟨k + 1, by omega, by go_num, HX.out⟩
            case measure => simp [intOf]; omega
          · have HN : Hid (¬ TimeOk t) := fun h => hd (by rw [HE.out]; exact h.2.2.1 k hlt)
            by_cases d1 : 48 ≤ (t[k].toNat : Int)
            · have c1 : decide ((t[k].toNat : Int) ≤ 57) = false := decide_eq_false (by omega)
              clear hd
              go_wp2
              go_ret
              exact ret_no HN.out (drew0 w)
            · have c1 : decide ((48 : Int) ≤ (t[k].toNat : Int)) = false := decide_eq_false d1
              clear hd
              go_wp2
              go_ret
              exact ret_no HN.out (drew0 w)
        · have hk14 : k = 14 := by omega
          subst hk14
          have HG : DigTo t 14 := HG.out
          have hs := HS.out
          have PY : Hid (∀ w, Calls Tryz.prog 157 #[.string (t.extract 0 4)] w fun e w' => e = .returned (.int .i64 (dec t 0 4)) ∧ w' = w) := fun w => decimal_any _ w (by rw [ByteArray.size_extract]; omega) (dig_cut HG hs 0 4 (by omega))
          have PMo : Hid (∀ w, Calls Tryz.prog 157 #[.string (t.extract 4 6)] w fun e w' => e = .returned (.int .i64 (dec t 4 6)) ∧ w' = w) := fun w => decimal_any _ w (by rw [ByteArray.size_extract]; omega) (dig_cut HG hs 4 6 (by omega))
          have PDa : Hid (∀ w, Calls Tryz.prog 157 #[.string (t.extract 6 8)] w fun e w' => e = .returned (.int .i64 (dec t 6 8)) ∧ w' = w) := fun w => decimal_any _ w (by rw [ByteArray.size_extract]; omega) (dig_cut HG hs 6 8 (by omega))
          have PHo : Hid (∀ w, Calls Tryz.prog 157 #[.string (t.extract 8 10)] w fun e w' => e = .returned (.int .i64 (dec t 8 10)) ∧ w' = w) := fun w => decimal_any _ w (by rw [ByteArray.size_extract]; omega) (dig_cut HG hs 8 10 (by omega))
          have PMi : Hid (∀ w, Calls Tryz.prog 157 #[.string (t.extract 10 12)] w fun e w' => e = .returned (.int .i64 (dec t 10 12)) ∧ w' = w) := fun w => decimal_any _ w (by rw [ByteArray.size_extract]; omega) (dig_cut HG hs 10 12 (by omega))
          have PSe : Hid (∀ w, Calls Tryz.prog 157 #[.string (t.extract 12 14)] w fun e w' => e = .returned (.int .i64 (dec t 12 14)) ∧ w' = w) := fun w => decimal_any _ w (by rw [ByteArray.size_extract]; omega) (dig_cut HG hs 12 14 (by omega))
          have HT : Hid (TimeOk t ↔ DayOk (dec t 0 4) (dec t 4 6) (dec t 6 8) ∧ dec t 8 10 ≤ 23 ∧ dec t 10 12 ≤ 59 ∧ dec t 12 14 ≤ 59) := timeOk_iff hs HZ2.out HG
          obtain ⟨y0, y1⟩ := dec_bd HG hs 0 4 (by omega) (by omega)
          obtain ⟨vMo, eMo⟩ := Int.eq_ofNat_of_zero_le (dec_bd2 HG hs 4 (by omega)).1
          have lMo : vMo < 100 := by have := (dec_bd2 HG hs 4 (by omega)).2; omega
          rw [eMo] at PMo HT
          obtain ⟨vDa, eDa⟩ := Int.eq_ofNat_of_zero_le (dec_bd2 HG hs 6 (by omega)).1
          have lDa : vDa < 100 := by have := (dec_bd2 HG hs 6 (by omega)).2; omega
          rw [eDa] at PDa HT
          obtain ⟨vHo, eHo⟩ := Int.eq_ofNat_of_zero_le (dec_bd2 HG hs 8 (by omega)).1
          have lHo : vHo < 100 := by have := (dec_bd2 HG hs 8 (by omega)).2; omega
          rw [eHo] at PHo HT
          obtain ⟨vMi, eMi⟩ := Int.eq_ofNat_of_zero_le (dec_bd2 HG hs 10 (by omega)).1
          have lMi : vMi < 100 := by have := (dec_bd2 HG hs 10 (by omega)).2; omega
          rw [eMi] at PMi HT
          obtain ⟨vSe, eSe⟩ := Int.eq_ofNat_of_zero_le (dec_bd2 HG hs 12 (by omega)).1
          have lSe : vSe < 100 := by have := (dec_bd2 HG hs 12 (by omega)).2; omega
          rw [eSe] at PSe HT
          generalize dec t 0 4 = vY at PY HT y0 y1
          have z8 : (8 : Int) ≤ t.size := by omega
          have z10 : (10 : Int) ≤ t.size := by omega
          have z12 : (12 : Int) ≤ t.size := by omega
          have z14 : (14 : Int) ≤ t.size := by omega
          clear HG hs eMo eDa eHo eMi eSe
          go_wp2_with fail
          go_quiet ((first | (go_at_call_of 157 (Value.string (t.extract 0 4)); exact Calls.quiet_of_same (PY.out _)) | (go_at_call_of 157 (Value.string (t.extract 4 6)); exact Calls.quiet_of_same (PMo.out _)) | (go_at_call_of 157 (Value.string (t.extract 6 8)); exact Calls.quiet_of_same (PDa.out _))))
          go_wp2_with fail
          generalize hw1 : w.drewN nq = w1
          have HD1 : Hid (Days w1) := by rw [← hw1]; exact HD.out
          have HW1 : Hid (w.drewN nq = w1) := hw1
          clear hw1
          go_quiet ((first | (go_at_call_of 157 (Value.string (t.extract 8 10)); exact Calls.quiet_of_same (PHo.out _)) | (go_at_call_of 157 (Value.string (t.extract 10 12)); exact Calls.quiet_of_same (PMi.out _)) | (go_at_call_of 157 (Value.string (t.extract 12 14)); exact Calls.quiet_of_same (PSe.out _))))
          go_wp2_with fail
          refine (isDate_any vY vMo vDa _ y0 y1 lMo lDa (by exact HD1.out)).mono ?_
          rintro e w2 ⟨r, rfl, hr, hw⟩
          subst hw
          have HR : Hid (r = true ↔ DayOk vY vMo vDa) := hr
          clear hr
          cases r
          · have HN : Hid (¬ TimeOk t) := fun h => by cases HR.out.2 (HT.out.1 h).1
            go_wp2_with fail
            go_ret
            exact ret_no HN.out (drew2 HW1.out _)
          by_cases g1 : vHo ≤ 23
          · by_cases g2 : vMi ≤ 59
            · by_cases g3 : vSe ≤ 59
              · have HY : Hid (TimeOk t) := HT.out.2 ⟨HR.out.1 rfl, by omega, by omega, by omega⟩
                have c1 : decide ((vSe : Int) ≤ 59) = true := decide_eq_true (by omega)
                go_wp2_with fail
                go_ret
                exact ret_yes HY.out (drew2 HW1.out _)
              · have HN : Hid (¬ TimeOk t) := fun h => by have := (HT.out.1 h).2.2.2; omega
                have c1 : decide ((vSe : Int) ≤ 59) = false := decide_eq_false (by omega)
                go_wp2_with fail
                go_ret
                exact ret_no HN.out (drew2 HW1.out _)
            · have HN : Hid (¬ TimeOk t) := fun h => by have := (HT.out.1 h).2.2.1; omega
              have c1 : decide ((vMi : Int) ≤ 59) = false := decide_eq_false (by omega)
              go_wp2_with fail
              go_ret
              exact ret_no HN.out (drew2 HW1.out _)
          · have HN : Hid (¬ TimeOk t) := fun h => by have := (HT.out.1 h).2.1; omega
            have c1 : decide ((vHo : Int) ≤ 23) = false := decide_eq_false (by omega)
            go_wp2_with fail
            go_ret
            exact ret_no HN.out (drew2 HW1.out _)
    · have hz' : ((t[14].toNat : Int) != 90) = true := by rw [bne_iff_ne]; exact hz
      have HN : Hid (¬ TimeOk t) := fun h => hz (HZ.out.trans h.2.1)
      clear hz
      go_enter Tryz.func138, Tryz.ntmps138
      go_wp2
      go_ret
      exact ret_no HN.out (drew0 w)
  · have hs' : ((t.size : Int) != 15) = true := by rw [bne_iff_ne]; omega
    have HN : Hid (¬ TimeOk t) := fun h => hs h.1
    clear hs
    go_enter Tryz.func138, Tryz.ntmps138
    go_wp2
    go_ret
    exact ret_no HN.out (drew0 w)
end Go.Proofs.YtjceeljaljdmoaaGreatDoor
