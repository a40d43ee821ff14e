/-
  Several texts in one:
  Contents: Time: what the program's and the document's functions answer.
  Contents: Time: what the document's function answers.
  Contents: which content a kind may have: the document's IsContent, kind by kind.
  Contents: Utf8: the numbers by which the library's contract for utf8.ValidString lies at this dump.
  Contents: every kind: the document's IsContent and the program's Fits against one proposition.
  Schemas as plain data: what can be reached by Choices without a Tag, beginnings, and that the program's test of two beginnings is the document's. No walk in it.
  A schema in memory: which cells hold it, and that new memory leaves it as it is.
  hallmarkref.open: what it answers.
  Schemas: the pure part of the search for the leaves, as the document goes (a list that grows at its end).
  hallmarkref.Leaves: the nodes where one comes to, and whether one comes back.
  schemas.ownTag, outerTag: what they answer, where the table of own numbers lies.
-/
import Derived.Test.YtkkicodfpekbgaaGreatDoorJ0
import Derived.Deep.RegionWith
import Derived.Deep.Light
import Derived.Shelf.Lays
import Derived.Below
import Derived.Test.YtkkicodfpekbgaaGreatDoorRows
import Derived.WalkKit
import Derived.WalkSpells
import Derived.WalkLawsBesides
import Derived.BigQuiet
import Derived.Deep.QuietTactic
import Derived.Deep.AppendLies
/-! Contents: Time: what the program's and the document's functions answer. -/
namespace Go.Proofs.YtkkicodfpekbgaaGreatDoor
set_option linter.unusedSimpArgs false
set_option linter.unusedVariables false
open Go.RowKit

/-- The number that the digits from a to b tell. -/
def dec (t : ByteArray) (a b : Nat) : Int := decTo (t.extract a b) (t.extract a b).size
def DayOk (y m d : Int) : Prop := 1 ≤ m ∧ m ≤ 12 ∧ 1 ≤ d ∧ d ≤ lastDay y m
def TimeOk (t : ByteArray) : Prop := t.size = 15 ∧ b8 t 14 = 90 ∧ DigTo t 14 ∧ DayOk (dec t 0 4) (dec t 4 6) (dec t 6 8) ∧ dec t 8 10 ≤ 23 ∧ dec t 10 12 ≤ 59 ∧ dec t 12 14 ≤ 59
theorem b8_cut (t : ByteArray) (a b i : Nat) (hi : i < b - a) (_hb : b ≤ t.size) : b8 (t.extract a b) i = b8 t (a + i) := by
  unfold b8
  rw [Lib.extract_data]
  rw [List.getD_eq_getElem?_getD, List.getD_eq_getElem?_getD]
  first
    | (rw [List.getElem?_take_of_lt hi, List.getElem?_drop]; done)
    | (simp [List.getElem?_take_of_lt hi, List.getElem?_drop]; done)
theorem dig_cut {t : ByteArray} (h : DigTo t 14) (hs : t.size = 15) (a b : Nat) (hb : b ≤ 14) : DigTo (t.extract a b) (t.extract a b).size := by
  intro i hi
  rw [ByteArray.size_extract] at hi
  rw [b8_cut t a b i (by omega) (by omega)]
  exact h (a + i) (by omega)
theorem dec_bd {t : ByteArray} (h : DigTo t 14) (hs : t.size = 15) (a b : Nat) (hb : b ≤ 14) (hab : b - a ≤ 4) : 0 ≤ dec t a b ∧ dec t a b < 10000 :=
  decTo_bd _ _ (by rw [ByteArray.size_extract]; omega) (dig_cut h hs a b hb)
theorem dec_bd2 {t : ByteArray} (h : DigTo t 14) (hs : t.size = 15) (a : Nat) (hb : a + 2 ≤ 14) : 0 ≤ dec t a (a + 2) ∧ dec t a (a + 2) < 100 := by
  unfold dec
  have hz : (t.extract a (a + 2)).size = 2 := by rw [ByteArray.size_extract]; omega
  have hd := dig_cut h hs a (a + 2) hb
  rw [hz] at hd ⊢
  have h0 := hd 0 (by omega)
  have h1 := hd 1 (by omega)
  simp only [decTo]
  omega

set_option maxHeartbeats 1000000 in
set_option maxRecDepth 100000 in
theorem isDate_any (y : Int) (m d : Nat) (w : World) (h0 : 0 ≤ y) (h1 : y < 10000) (hm : m < 100) (hd : d < 100) (hD : Days w) :
    Calls Tryz.prog 198 #[.int .i64 y, .int .i64 m, .int .i64 d] w fun e w' => ∃ r, e = .returned (.bool r) ∧ (r = true ↔ DayOk y m d) ∧ w' = w := by
  have HD : Hid (Days w) := hD
  clear hD
  by_cases q1 : 1 ≤ m ∧ m ≤ 12
  · obtain ⟨a1, a2⟩ := q1
    by_cases q2 : 1 ≤ d
    · have HL : Hid (Calls Tryz.prog 207 #[.int .i64 y, .int .i64 m] w fun e w' => e = .returned (.int .i64 (lastDay y m)) ∧ w' = w) := lastDay_any y m w h0 h1 a1 a2 HD.out
      have HI : Hid (decide ((d : Int) ≤ lastDay y m) = true ↔ DayOk y m d) := by
        show _ ↔ _
        rw [decide_eq_true_iff]
        exact ⟨fun h => ⟨by omega, by omega, by omega, h⟩, fun h => h.2.2.2⟩
      generalize lastDay y m = L at HL HI
      go_enter Tryz.func198, Tryz.ntmps198
      go_wp2_with fail
      refine Calls.mono HL.out ?_
      rintro e w2 ⟨rfl, hw⟩
      subst hw
      go_wp2_with fail
      go_ret
      exact ⟨_, rfl, HI.out, rfl⟩
    · have HN : Hid (¬ DayOk y m d) := fun h => by have := h.2.2.1; omega
      have c1 : decide ((1 : Int) ≤ (d : Int)) = false := decide_eq_false (by omega)
      go_enter Tryz.func198, Tryz.ntmps198
      go_wp2
      go_ret
      exact ⟨false, rfl, ⟨fun e => (by cases e), fun h => absurd h HN.out⟩, rfl⟩
  · have HN : Hid (¬ DayOk y m d) := fun h => q1 ⟨by have := h.1; omega, by have := h.2.1; omega⟩
    by_cases q3 : 1 ≤ m
    · have c1 : decide ((m : Int) ≤ 12) = false := decide_eq_false (by omega)
      clear q1
      go_enter Tryz.func198, Tryz.ntmps198
      go_wp2
      go_ret
      exact ⟨false, rfl, ⟨fun e => (by cases e), fun h => absurd h HN.out⟩, rfl⟩
    · have c1 : decide ((1 : Int) ≤ (m : Int)) = false := decide_eq_false (by omega)
      clear q1
      go_enter Tryz.func198, Tryz.ntmps198
      go_wp2
      go_ret
      exact ⟨false, rfl, ⟨fun e => (by cases e), fun h => absurd h HN.out⟩, rfl⟩

theorem drew2 {w w1 : World} {a : Nat} (h : w.drewN a = w1) (b : Nat) : ∃ k, w1.drewN b = w.drewN k := ⟨a + b, by rw [← h, World.drewN_drewN]⟩
/-- Behind the digits: the program's Time. -/
theorem timeOk_iff {t : ByteArray} (hs : t.size = 15) (hz : b8 t 14 = 90) (hg : DigTo t 14) : TimeOk t ↔ DayOk (dec t 0 4) (dec t 4 6) (dec t 6 8) ∧ dec t 8 10 ≤ 23 ∧ dec t 10 12 ≤ 59 ∧ dec t 12 14 ≤ 59 :=
  ⟨fun h => h.2.2.2, fun h => ⟨hs, hz, hg, h⟩⟩

set_option maxHeartbeats 2000000 in
set_option maxRecDepth 100000 in
theorem fitsTime_any (t : ByteArray) (w : World) (hm : t.size ≤ 9223372036854775807) (hD : Days w) :
    Calls Tryz.prog 178 #[.string t] w fun e w' => RetB (TimeOk t) w e w' := by
  have HD : Hid (Days w) := hD
  clear hD
  by_cases hs : t.size = 15
  · have hs' : ((t.size : Int) != 15) = false := by rw [bne_eq_false_iff_eq]; omega
    have h14 : 14 < t.size := by omega
    have h14' : (14 : Int) < t.size := by omega
    have HZ : Hid ((t[14].toNat : Int) = b8 t 14) := b8_get t 14 h14
    have HS : Hid (t.size = 15) := hs
    have hge : 15 ≤ t.size := by omega
    clear hs
    by_cases hz : (t[14].toNat : Int) = 90
    · have hz' : ((t[14].toNat : Int) != 90) = false := by rw [bne_eq_false_iff_eq]; exact hz
      have HZ2 : Hid (b8 t 14 = 90) := by show _ = _; rw [← HZ.out]; exact hz
      clear hz
      go_enter Tryz.func178, Tryz.ntmps178
      go_wp2
      go_loop [18] (fun i => ∃ k : Nat, k ≤ 14 ∧ i = .int .i64 k ∧ DigTo t k) (fun i => 14 - (intOf i).toNat)
      case atStart => exact ⟨0, by omega, rfl, fun j h => absurd h (Nat.not_lt_zero _)⟩
      case round =>
        obtain ⟨k, hk, rfl, hg⟩ := hrel
        have HG : Hid (DigTo t k) := hg
        clear hg
        by_cases hlt : k < 14
        · have hkt : k < t.size := by omega
          have HE : Hid ((t[k].toNat : Int) = b8 t k) := b8_get t k hkt
          by_cases hd : 48 ≤ (t[k].toNat : Int) ∧ (t[k].toNat : Int) ≤ 57
          · have HX : Hid (DigTo t (k + 1)) := fun i hi => by
              by_cases e : i = k
              · subst e; rw [← HE.out]; exact hd
              · exact HG.out i (by omega)
            obtain ⟨d1, d2⟩ := hd
            go_wp2
            go_round
            case rel => exact ⟨k + 1, by omega, by go_num, HX.out⟩
            case measure => simp [intOf]; omega
          · have HN : Hid (¬ TimeOk t) := fun h => hd (by rw [HE.out]; exact h.2.2.1 k hlt)
            by_cases d1 : 48 ≤ (t[k].toNat : Int)
            · have c1 : decide ((t[k].toNat : Int) ≤ 57) = false := decide_eq_false (by omega)
              clear hd
              go_wp2
              go_ret
              exact ret_no HN.out (drew0 w)
            · have c1 : decide ((48 : Int) ≤ (t[k].toNat : Int)) = false := decide_eq_false d1
              clear hd
              go_wp2
              go_ret
              exact ret_no HN.out (drew0 w)
        · have hk14 : k = 14 := by omega
          subst hk14
          have HG : DigTo t 14 := HG.out
          have hs := HS.out
          have PY : Hid (∀ w, Calls Tryz.prog 197 #[.string (t.extract 0 4)] w fun e w' => e = .returned (.int .i64 (dec t 0 4)) ∧ w' = w) := fun w => decimal_any _ w (by rw [ByteArray.size_extract]; omega) (dig_cut HG hs 0 4 (by omega))
          have PMo : Hid (∀ w, Calls Tryz.prog 197 #[.string (t.extract 4 6)] w fun e w' => e = .returned (.int .i64 (dec t 4 6)) ∧ w' = w) := fun w => decimal_any _ w (by rw [ByteArray.size_extract]; omega) (dig_cut HG hs 4 6 (by omega))
          have PDa : Hid (∀ w, Calls Tryz.prog 197 #[.string (t.extract 6 8)] w fun e w' => e = .returned (.int .i64 (dec t 6 8)) ∧ w' = w) := fun w => decimal_any _ w (by rw [ByteArray.size_extract]; omega) (dig_cut HG hs 6 8 (by omega))
          have PHo : Hid (∀ w, Calls Tryz.prog 197 #[.string (t.extract 8 10)] w fun e w' => e = .returned (.int .i64 (dec t 8 10)) ∧ w' = w) := fun w => decimal_any _ w (by rw [ByteArray.size_extract]; omega) (dig_cut HG hs 8 10 (by omega))
          have PMi : Hid (∀ w, Calls Tryz.prog 197 #[.string (t.extract 10 12)] w fun e w' => e = .returned (.int .i64 (dec t 10 12)) ∧ w' = w) := fun w => decimal_any _ w (by rw [ByteArray.size_extract]; omega) (dig_cut HG hs 10 12 (by omega))
          have PSe : Hid (∀ w, Calls Tryz.prog 197 #[.string (t.extract 12 14)] w fun e w' => e = .returned (.int .i64 (dec t 12 14)) ∧ w' = w) := fun w => decimal_any _ w (by rw [ByteArray.size_extract]; omega) (dig_cut HG hs 12 14 (by omega))
          have HT : Hid (TimeOk t ↔ DayOk (dec t 0 4) (dec t 4 6) (dec t 6 8) ∧ dec t 8 10 ≤ 23 ∧ dec t 10 12 ≤ 59 ∧ dec t 12 14 ≤ 59) := timeOk_iff hs HZ2.out HG
          obtain ⟨y0, y1⟩ := dec_bd HG hs 0 4 (by omega) (by omega)
          obtain ⟨vMo, eMo⟩ := Int.eq_ofNat_of_zero_le (dec_bd2 HG hs 4 (by omega)).1
          have lMo : vMo < 100 := by have := (dec_bd2 HG hs 4 (by omega)).2; omega
          rw [eMo] at PMo HT
          obtain ⟨vDa, eDa⟩ := Int.eq_ofNat_of_zero_le (dec_bd2 HG hs 6 (by omega)).1
          have lDa : vDa < 100 := by have := (dec_bd2 HG hs 6 (by omega)).2; omega
          rw [eDa] at PDa HT
          obtain ⟨vHo, eHo⟩ := Int.eq_ofNat_of_zero_le (dec_bd2 HG hs 8 (by omega)).1
          have lHo : vHo < 100 := by have := (dec_bd2 HG hs 8 (by omega)).2; omega
          rw [eHo] at PHo HT
          obtain ⟨vMi, eMi⟩ := Int.eq_ofNat_of_zero_le (dec_bd2 HG hs 10 (by omega)).1
          have lMi : vMi < 100 := by have := (dec_bd2 HG hs 10 (by omega)).2; omega
          rw [eMi] at PMi HT
          obtain ⟨vSe, eSe⟩ := Int.eq_ofNat_of_zero_le (dec_bd2 HG hs 12 (by omega)).1
          have lSe : vSe < 100 := by have := (dec_bd2 HG hs 12 (by omega)).2; omega
          rw [eSe] at PSe HT
          generalize dec t 0 4 = vY at PY HT y0 y1
          have z8 : (8 : Int) ≤ t.size := by omega
          have z10 : (10 : Int) ≤ t.size := by omega
          have z12 : (12 : Int) ≤ t.size := by omega
          have z14 : (14 : Int) ≤ t.size := by omega
          clear HG hs eMo eDa eHo eMi eSe
          go_wp2_with fail
          go_quiet ((first | (go_at_call_of 197 (Value.string (t.extract 0 4)); exact Calls.quiet_of_same (PY.out _)) | (go_at_call_of 197 (Value.string (t.extract 4 6)); exact Calls.quiet_of_same (PMo.out _)) | (go_at_call_of 197 (Value.string (t.extract 6 8)); exact Calls.quiet_of_same (PDa.out _))))
          go_wp2_with fail
          generalize hw1 : w.drewN nq = w1
          have HD1 : Hid (Days w1) := by rw [← hw1]; exact HD.out
          have HW1 : Hid (w.drewN nq = w1) := hw1
          clear hw1
          go_quiet ((first | (go_at_call_of 197 (Value.string (t.extract 8 10)); exact Calls.quiet_of_same (PHo.out _)) | (go_at_call_of 197 (Value.string (t.extract 10 12)); exact Calls.quiet_of_same (PMi.out _)) | (go_at_call_of 197 (Value.string (t.extract 12 14)); exact Calls.quiet_of_same (PSe.out _))))
          go_wp2_with fail
          refine (isDate_any vY vMo vDa _ y0 y1 lMo lDa (by exact HD1.out)).mono ?_
          rintro e w2 ⟨r, rfl, hr, hw⟩
          subst hw
          have HR : Hid (r = true ↔ DayOk vY vMo vDa) := hr
          clear hr
          cases r
          · have HN : Hid (¬ TimeOk t) := fun h => by cases HR.out.2 (HT.out.1 h).1
            go_wp2_with fail
            go_ret
            exact ret_no HN.out (drew2 HW1.out _)
          by_cases g1 : vHo ≤ 23
          · by_cases g2 : vMi ≤ 59
            · by_cases g3 : vSe ≤ 59
              · have HY : Hid (TimeOk t) := HT.out.2 ⟨HR.out.1 rfl, by omega, by omega, by omega⟩
                have c1 : decide ((vSe : Int) ≤ 59) = true := decide_eq_true (by omega)
                go_wp2_with fail
                go_ret
                exact ret_yes HY.out (drew2 HW1.out _)
              · have HN : Hid (¬ TimeOk t) := fun h => by have := (HT.out.1 h).2.2.2; omega
                have c1 : decide ((vSe : Int) ≤ 59) = false := decide_eq_false (by omega)
                go_wp2_with fail
                go_ret
                exact ret_no HN.out (drew2 HW1.out _)
            · have HN : Hid (¬ TimeOk t) := fun h => by have := (HT.out.1 h).2.2.1; omega
              have c1 : decide ((vMi : Int) ≤ 59) = false := decide_eq_false (by omega)
              go_wp2_with fail
              go_ret
              exact ret_no HN.out (drew2 HW1.out _)
          · have HN : Hid (¬ TimeOk t) := fun h => by have := (HT.out.1 h).2.1; omega
            have c1 : decide ((vHo : Int) ≤ 23) = false := decide_eq_false (by omega)
            go_wp2_with fail
            go_ret
            exact ret_no HN.out (drew2 HW1.out _)
    · have hz' : ((t[14].toNat : Int) != 90) = true := by rw [bne_iff_ne]; exact hz
      have HN : Hid (¬ TimeOk t) := fun h => hz (HZ.out.trans h.2.1)
      clear hz
      go_enter Tryz.func178, Tryz.ntmps178
      go_wp2
      go_ret
      exact ret_no HN.out (drew0 w)
  · have hs' : ((t.size : Int) != 15) = true := by rw [bne_iff_ne]; omega
    have HN : Hid (¬ TimeOk t) := fun h => hs h.1
    clear hs
    go_enter Tryz.func178, Tryz.ntmps178
    go_wp2
    go_ret
    exact ret_no HN.out (drew0 w)
end Go.Proofs.YtkkicodfpekbgaaGreatDoor

/-! Contents: Time: what the document's function answers. -/
namespace Go.Proofs.YtkkicodfpekbgaaGreatDoor
set_option linter.unusedSimpArgs false
set_option linter.unusedVariables false
open Go.RowKit

def digs : List UInt8 := [48, 49, 50, 51, 52, 53, 54, 55, 56, 57]
theorem digs_in (t : ByteArray) (hs : t.size = 15) : (∀ i, i < (t.extract 0 14).size → ∃ j, j < (⟨digs.toArray⟩ : ByteArray).size ∧ b8 ⟨digs.toArray⟩ j = b8 (t.extract 0 14) i) ↔ DigTo t 14 := by
  have hz : (t.extract 0 14).size = 14 := by rw [ByteArray.size_extract]; omega
  have hd : (⟨digs.toArray⟩ : ByteArray).size = 10 := by decide +kernel
  have hb : ∀ j, j < 10 → b8 ⟨digs.toArray⟩ j = 48 + j := by
    have : ∀ j : Fin 10, b8 ⟨digs.toArray⟩ j.val = 48 + (j.val : Int) := by decide +kernel
    exact fun j hj => this ⟨j, hj⟩
  rw [hz, hd]
  constructor
  · intro h i hi
    obtain ⟨j, hj, e⟩ := h i hi
    rw [hb j hj, b8_cut t 0 14 i (by omega) (by omega), Nat.zero_add] at e
    omega
  · intro h i hi
    have := h i hi
    refine ⟨(b8 t i - 48).toNat, by omega, ?_⟩
    rw [hb _ (by omega), b8_cut t 0 14 i (by omega) (by omega), Nat.zero_add]
    omega

theorem lastDay_cases (y m : Int) : (m = 2 ∧ (y % 400 = 0 ∨ y % 4 = 0 ∧ y % 100 ≠ 0) ∧ lastDay y m = 29) ∨ (m = 2 ∧ ¬ (y % 400 = 0 ∨ y % 4 = 0 ∧ y % 100 ≠ 0) ∧ lastDay y m = 28) ∨
    (m ≠ 2 ∧ (m = 4 ∨ m = 6 ∨ m = 9 ∨ m = 11) ∧ lastDay y m = 30) ∨ (m ≠ 2 ∧ ¬ (m = 4 ∨ m = 6 ∨ m = 9 ∨ m = 11) ∧ lastDay y m = 31) := by
  unfold lastDay
  by_cases h : m = 2
  · by_cases hl : y % 400 = 0 ∨ y % 4 = 0 ∧ y % 100 ≠ 0
    · left; exact ⟨h, hl, by rw [if_pos h, if_pos hl]⟩
    · right; left; exact ⟨h, hl, by rw [if_pos h, if_neg hl]⟩
  · by_cases hl : m = 4 ∨ m = 6 ∨ m = 9 ∨ m = 11
    · right; right; left; exact ⟨h, hl, by rw [if_neg h, if_pos hl]⟩
    · right; right; right; exact ⟨h, hl, by rw [if_neg h, if_neg hl]⟩

set_option maxHeartbeats 2000000 in
set_option maxRecDepth 100000 in
theorem isTime_any (t : ByteArray) (w : World) (hm : t.size ≤ 9223372036854775807) :
    Calls Tryz.prog 126 #[.string t] w fun e w' => RetB (TimeOk t) w e w' := by
  by_cases hs : t.size = 15
  · have hs' : ((t.size : Int) != 15) = false := by rw [bne_eq_false_iff_eq]; omega
    have h14 : 14 < t.size := by omega
    have h14' : (14 : Int) < t.size := by omega
    have HZ : Hid ((t[14].toNat : Int) = b8 t 14) := b8_get t 14 h14
    have HS : Hid (t.size = 15) := hs
    have hge : 15 ≤ t.size := by omega
    clear hs
    by_cases hz : (t[14].toNat : Int) = 90
    · have hz' : ((t[14].toNat : Int) != 90) = false := by rw [bne_eq_false_iff_eq]; exact hz
      have HZ2 : Hid (b8 t 14 = 90) := by show _ = _; rw [← HZ.out]; exact hz
      clear hz
      go_enter Tryz.func126, Tryz.ntmps126
      go_wp2_with fail
      refine (all_any (t.extract 0 14) ⟨digs.toArray⟩ _ (by rw [ByteArray.size_extract]; omega) (by decide +kernel)).mono ?_
      rintro e w1 ⟨r, rfl, hr, hd⟩
      have HR : Hid (r = true ↔ DigTo t 14) := hr.trans (digs_in t HS.out)
      obtain ⟨q, hd⟩ := hd
      have HW1 : Hid (w.drewN q = w1) := hd.symm
      clear hr hd
      cases r
      · have HN : Hid (¬ TimeOk t) := fun h => by cases HR.out.2 h.2.2.1
        go_wp2_with fail
        go_ret
        exact ret_no HN.out (drew2 HW1.out 0)
      have HG : DigTo t 14 := HR.out.1 rfl
      have hs := HS.out
      have PY : Hid (∀ w, Calls Tryz.prog 168 #[.string (t.extract 0 4)] w fun e w' => e = .returned (.int .i64 (dec t 0 4)) ∧ w' = w) := fun w => numberRef_any _ w (by rw [ByteArray.size_extract]; omega) (dig_cut HG hs 0 4 (by omega))
      have PMo : Hid (∀ w, Calls Tryz.prog 168 #[.string (t.extract 4 6)] w fun e w' => e = .returned (.int .i64 (dec t 4 6)) ∧ w' = w) := fun w => numberRef_any _ w (by rw [ByteArray.size_extract]; omega) (dig_cut HG hs 4 6 (by omega))
      have PDa : Hid (∀ w, Calls Tryz.prog 168 #[.string (t.extract 6 8)] w fun e w' => e = .returned (.int .i64 (dec t 6 8)) ∧ w' = w) := fun w => numberRef_any _ w (by rw [ByteArray.size_extract]; omega) (dig_cut HG hs 6 8 (by omega))
      have PHo : Hid (∀ w, Calls Tryz.prog 168 #[.string (t.extract 8 10)] w fun e w' => e = .returned (.int .i64 (dec t 8 10)) ∧ w' = w) := fun w => numberRef_any _ w (by rw [ByteArray.size_extract]; omega) (dig_cut HG hs 8 10 (by omega))
      have PMi : Hid (∀ w, Calls Tryz.prog 168 #[.string (t.extract 10 12)] w fun e w' => e = .returned (.int .i64 (dec t 10 12)) ∧ w' = w) := fun w => numberRef_any _ w (by rw [ByteArray.size_extract]; omega) (dig_cut HG hs 10 12 (by omega))
      have PSe : Hid (∀ w, Calls Tryz.prog 168 #[.string (t.extract 12 14)] w fun e w' => e = .returned (.int .i64 (dec t 12 14)) ∧ w' = w) := fun w => numberRef_any _ w (by rw [ByteArray.size_extract]; omega) (dig_cut HG hs 12 14 (by omega))
      have HT : Hid (TimeOk t ↔ DayOk (dec t 0 4) (dec t 4 6) (dec t 6 8) ∧ dec t 8 10 ≤ 23 ∧ dec t 10 12 ≤ 59 ∧ dec t 12 14 ≤ 59) := timeOk_iff hs HZ2.out HG
      obtain ⟨y0, y1⟩ := dec_bd HG hs 0 4 (by omega) (by omega)
      obtain ⟨vMo, eMo⟩ := Int.eq_ofNat_of_zero_le (dec_bd2 HG hs 4 (by omega)).1
      have lMo : vMo < 100 := by have := (dec_bd2 HG hs 4 (by omega)).2; omega
      rw [eMo] at PMo HT
      obtain ⟨vDa, eDa⟩ := Int.eq_ofNat_of_zero_le (dec_bd2 HG hs 6 (by omega)).1
      have lDa : vDa < 100 := by have := (dec_bd2 HG hs 6 (by omega)).2; omega
      rw [eDa] at PDa HT
      obtain ⟨vHo, eHo⟩ := Int.eq_ofNat_of_zero_le (dec_bd2 HG hs 8 (by omega)).1
      have lHo : vHo < 100 := by have := (dec_bd2 HG hs 8 (by omega)).2; omega
      rw [eHo] at PHo HT
      obtain ⟨vMi, eMi⟩ := Int.eq_ofNat_of_zero_le (dec_bd2 HG hs 10 (by omega)).1
      have lMi : vMi < 100 := by have := (dec_bd2 HG hs 10 (by omega)).2; omega
      rw [eMi] at PMi HT
      obtain ⟨vSe, eSe⟩ := Int.eq_ofNat_of_zero_le (dec_bd2 HG hs 12 (by omega)).1
      have lSe : vSe < 100 := by have := (dec_bd2 HG hs 12 (by omega)).2; omega
      rw [eSe] at PSe HT
      generalize dec t 0 4 = vY at PY HT y0 y1
      clear HG hs eMo eDa eHo eMi eSe
      go_wp2_with fail
      refine Calls.mono (PY.out _) ?_
      rintro e w2 ⟨rfl, rfl⟩
      go_wp2_with fail
      refine Calls.mono (PMo.out _) ?_
      rintro e w3 ⟨rfl, rfl⟩
      go_wp2_with fail
      refine Calls.mono (PDa.out _) ?_
      rintro e w4 ⟨rfl, rfl⟩
      go_wp2_with fail
      all_goals first
        | (go_ret
           refine ret_no (fun h => ?_) (drew2 HW1.out 0)
           have hd := (HT.out.1 h).1
           have hl := lastDay_cases vY vMo
           unfold DayOk at hd
           go_light
           simp only [beq_iff_eq, beq_eq_false_iff_ne, bne_iff_ne, bne_eq_false_iff_eq, ne_eq] at *
           omega)
        | (have HY : Hid (DayOk vY vMo vDa) := by
             have hl := lastDay_cases vY vMo
             show DayOk vY vMo vDa
             unfold DayOk
             go_light
             simp only [beq_iff_eq, beq_eq_false_iff_ne, bne_iff_ne, bne_eq_false_iff_eq, ne_eq] at *
             omega
           refine Calls.mono (PHo.out _) ?_
           rintro e w5 ⟨rfl, rfl⟩
           by_cases g1 : vHo < 24
           · go_wp2_with fail
             refine Calls.mono (PMi.out _) ?_
             rintro e w6 ⟨rfl, rfl⟩
             by_cases g2 : vMi < 60
             · go_wp2_with fail
               refine Calls.mono (PSe.out _) ?_
               rintro e w7 ⟨rfl, rfl⟩
               by_cases g3 : vSe < 60
               · have HF : Hid (TimeOk t) := HT.out.2 ⟨HY.out, by omega, by omega, by omega⟩
                 have c1 : decide ((vSe : Int) < 60) = true := decide_eq_true (by omega)
                 go_wp2_with fail
                 go_ret
                 exact ret_yes HF.out (drew2 HW1.out 0)
               · have HF : Hid (¬ TimeOk t) := fun h => by have := (HT.out.1 h).2.2.2; omega
                 have c1 : decide ((vSe : Int) < 60) = false := decide_eq_false (by omega)
                 go_wp2_with fail
                 go_ret
                 exact ret_no HF.out (drew2 HW1.out 0)
             · have HF : Hid (¬ TimeOk t) := fun h => by have := (HT.out.1 h).2.2.1; omega
               have c1 : decide ((vMi : Int) < 60) = false := decide_eq_false (by omega)
               go_wp2_with fail
               go_ret
               exact ret_no HF.out (drew2 HW1.out 0)
           · have HF : Hid (¬ TimeOk t) := fun h => by have := (HT.out.1 h).2.1; omega
             have c1 : decide ((vHo : Int) < 24) = false := decide_eq_false (by omega)
             go_wp2_with fail
             go_ret
             exact ret_no HF.out (drew2 HW1.out 0))
    · have hz' : ((t[14].toNat : Int) != 90) = true := by rw [bne_iff_ne]; exact hz
      have HN : Hid (¬ TimeOk t) := fun h => hz (HZ.out.trans h.2.1)
      clear hz
      go_enter Tryz.func126, Tryz.ntmps126
      go_wp2
      go_ret
      exact ret_no HN.out (drew0 w)
  · have hs' : ((t.size : Int) != 15) = true := by rw [bne_iff_ne]; omega
    have HN : Hid (¬ TimeOk t) := fun h => hs h.1
    clear hs
    go_enter Tryz.func126, Tryz.ntmps126
    go_wp2
    go_ret
    exact ret_no HN.out (drew0 w)
end Go.Proofs.YtkkicodfpekbgaaGreatDoor

/-! Contents: which content a kind may have: the document's IsContent, kind by kind. -/
namespace Go.Proofs.YtkkicodfpekbgaaGreatDoor
set_option linter.unusedSimpArgs false
set_option linter.unusedVariables false
open Go.RowKit

def BoolOk (t : ByteArray) : Prop := t.size = 1 ∧ (b8 t 0 = 0 ∨ b8 t 0 = 255)
theorem empty_iff (t : ByteArray) : t.toList.isEmpty = true ↔ t.size = 0 := by
  rw [Lib.toList_data, List.isEmpty_iff, ← List.length_eq_zero_iff, size_list]
theorem boolOk_iff (t : ByteArray) : BoolOk t ↔ t.toList = [0] ∨ t.toList = [255] := by
  unfold BoolOk b8
  rw [Lib.toList_data, ← size_list]
  generalize t.data.toList = l
  match l with
  | [] => simp
  | [x] =>
    have h0 : ((x.toNat : Int) = 0 ↔ x = 0) := ⟨fun h => UInt8.toNat_inj.1 (by show x.toNat = 0; omega), fun h => by rw [h]; rfl⟩
    have h1 : ((x.toNat : Int) = 255 ↔ x = 255) := ⟨fun h => UInt8.toNat_inj.1 (by show x.toNat = 255; omega), fun h => by rw [h]; rfl⟩
    show ([x].length = 1 ∧ ((x.toNat : Int) = 0 ∨ (x.toNat : Int) = 255)) ↔ _
    rw [h0, h1]
    simp
  | _ :: _ :: _ => simp
set_option maxHeartbeats 1000000 in
set_option maxRecDepth 100000 in
theorem isContent_1 (t : ByteArray) (w : World) :
    Calls Tryz.prog 108 #[.int .i64 1, .string t] w fun e w' => RetB (BoolOk t) w e w' := by
  go_enter Tryz.func108, Tryz.ntmps108
  by_cases h1 : t.size = 1
  · have e0 : (t[0].toNat : Int) = b8 t 0 := b8_get t 0 (by omega)
    have HB : Hid (BoolOk t ↔ (t[0].toNat : Int) = 0 ∨ (t[0].toNat : Int) = 255) := by
      show BoolOk t ↔ _
      rw [e0]; exact ⟨fun h => h.2, fun h => ⟨h1, h⟩⟩
    clear e0
    by_cases h2 : (t[0].toNat : Int) = 0
    · have HY : Hid (BoolOk t) := HB.out.2 (.inl h2)
      go_wp2
      go_ret
      exact ret_yes HY.out (drew0 w)
    · go_wp2
      go_ret
      refine ret_iff (Iff.trans ?_ HB.out.symm) (drew0 w)
      rw [Bool.or_eq_true, beq_iff_eq, beq_iff_eq]
  · have HN : Hid (¬ BoolOk t) := fun h => h1 h.1
    go_wp2
    go_ret
    exact ret_no HN.out (drew0 w)
set_option maxHeartbeats 1000000 in
set_option maxRecDepth 100000 in
theorem isContent_2 (t : ByteArray) (w : World) (hm : t.size ≤ 9223372036854775807) :
    Calls Tryz.prog 108 #[.int .i64 2, .string t] w fun e w' => RetB (IntOk t) w e w' := by
  go_enter Tryz.func108, Tryz.ntmps108
  go_wp2_with fail
  refine (isInt_any t _ hm).mono ?_
  rintro e w2 ⟨r, rfl, hr, hd⟩
  have HR : Hid (r = true ↔ IntOk t) := hr
  have HD : Hid (∃ k, w2 = w.drewN k) := hd
  clear hr hd
  go_wp2_with fail
  go_ret
  exact ret_iff HR.out HD.out
set_option maxHeartbeats 1000000 in
set_option maxRecDepth 100000 in
theorem isContent_3 (t : ByteArray) (w : World) :
    Calls Tryz.prog 108 #[.int .i64 3, .string t] w fun e w' => RetB (t.size = 0) w e w' := by
  go_enter Tryz.func108, Tryz.ntmps108
  go_wp2
  go_ret
  exact ret_iff (empty_iff t) (drew0 w)
set_option maxHeartbeats 1000000 in
set_option maxRecDepth 100000 in
theorem isContent_4 (t : ByteArray) (w : World) (hm : t.size ≤ 9223372036854775807) :
    Calls Tryz.prog 108 #[.int .i64 4, .string t] w fun e w' => RetB (OidOk t) w e w' := by
  go_enter Tryz.func108, Tryz.ntmps108
  go_wp2_with fail
  refine (isOid_any t _ hm).mono ?_
  rintro e w2 ⟨r, rfl, hr, hd⟩
  have HR : Hid (r = true ↔ OidOk t) := hr
  have HD : Hid (∃ k, w2 = w.drewN k) := hd
  clear hr hd
  go_wp2_with fail
  go_ret
  exact ret_iff HR.out HD.out
set_option maxHeartbeats 1000000 in
set_option maxRecDepth 100000 in
theorem isContent_5 (t : ByteArray) (w : World) (hm : t.size ≤ 9223372036854775807) :
    Calls Tryz.prog 108 #[.int .i64 5, .string t] w fun e w' => RetB (BitsOk t) w e w' := by
  go_enter Tryz.func108, Tryz.ntmps108
  go_wp2_with fail
  refine (isBits_any t _ hm).mono ?_
  rintro e w2 ⟨r, rfl, hr, hd⟩
  have HR : Hid (r = true ↔ BitsOk t) := hr
  have HD : Hid (∃ k, w2 = w.drewN k) := hd
  clear hr hd
  go_wp2_with fail
  go_ret
  exact ret_iff HR.out HD.out
set_option maxHeartbeats 1000000 in
set_option maxRecDepth 100000 in
theorem isContent_6 (t : ByteArray) (w : World) :
    Calls Tryz.prog 108 #[.int .i64 6, .string t] w fun e w' => RetB True w e w' := by
  go_enter Tryz.func108, Tryz.ntmps108
  go_wp2
  go_ret
  exact ret_yes trivial (drew0 w)
set_option maxHeartbeats 1000000 in
set_option maxRecDepth 100000 in
theorem isContent_7 (t : ByteArray) (w : World) (hm : t.size ≤ 140737488355328) :
    Calls Tryz.prog 108 #[.int .i64 7, .string t] w fun e w' => RetB (Utf8Ok t) w e w' := by
  go_enter Tryz.func108, Tryz.ntmps108
  go_wp2_with fail
  refine (isUtf8_any t _ hm).mono ?_
  rintro e w2 ⟨r, rfl, hr, hd⟩
  have HR : Hid (r = true ↔ Utf8Ok t) := hr
  have HD : Hid (∃ k, w2 = w.drewN k) := hd
  clear hr hd
  go_wp2_with fail
  go_ret
  exact ret_iff HR.out HD.out
set_option maxHeartbeats 1000000 in
set_option maxRecDepth 100000 in
theorem isContent_8 (t : ByteArray) (w : World) (hm : t.size ≤ 9223372036854775807) :
    Calls Tryz.prog 108 #[.int .i64 8, .string t] w fun e w' => RetB (PrOk t) w e w' := by
  go_enter Tryz.func108, Tryz.ntmps108
  go_wp2_with fail
  refine (isPrintableRef_any t _ hm).mono ?_
  rintro e w2 ⟨r, rfl, hr, hd⟩
  have HR : Hid (r = true ↔ PrOk t) := hr
  have HD : Hid (∃ k, w2 = w.drewN k) := hd
  clear hr hd
  go_wp2_with fail
  go_ret
  exact ret_iff HR.out HD.out
set_option maxHeartbeats 1000000 in
set_option maxRecDepth 100000 in
theorem isContent_9 (t : ByteArray) (w : World) (hm : t.size ≤ 9223372036854775807) :
    Calls Tryz.prog 108 #[.int .i64 9, .string t] w fun e w' => RetB (TimeOk t) w e w' := by
  go_enter Tryz.func108, Tryz.ntmps108
  go_wp2_with fail
  refine (isTime_any t _ hm).mono ?_
  rintro e w2 ⟨r, rfl, hr, hd⟩
  have HR : Hid (r = true ↔ TimeOk t) := hr
  have HD : Hid (∃ k, w2 = w.drewN k) := hd
  clear hr hd
  go_wp2_with fail
  go_ret
  exact ret_iff HR.out HD.out
set_option maxHeartbeats 1000000 in
set_option maxRecDepth 100000 in
theorem isContent_no (k : Int) (t : ByteArray) (w : World) (hk : k < 1 ∨ 9 < k) :
    Calls Tryz.prog 108 #[.int .i64 k, .string t] w fun e w' => RetB False w e w' := by
  go_enter Tryz.func108, Tryz.ntmps108
  have g : ∀ c : Int, 1 ≤ c → c ≤ 9 → (k == c) = false := fun c h1 h2 => by rw [beq_eq_false_iff_ne]; omega
  have g1 := g 1 (by omega) (by omega)
  have g2 := g 2 (by omega) (by omega)
  have g3 := g 3 (by omega) (by omega)
  have g4 := g 4 (by omega) (by omega)
  have g5 := g 5 (by omega) (by omega)
  have g6 := g 6 (by omega) (by omega)
  have g7 := g 7 (by omega) (by omega)
  have g8 := g 8 (by omega) (by omega)
  have g9 := g 9 (by omega) (by omega)
  clear g
  go_wp2
  go_ret
  exact ret_no id (drew0 w)
set_option maxHeartbeats 1000000 in
set_option maxRecDepth 100000 in
theorem fits_2 (t : ByteArray) (w : World) (hm : t.size ≤ 9223372036854775807) :
    Calls Tryz.prog 138 #[.int .i64 2, .string t] w fun e w' => RetB (IntOk t) w e w' := by
  go_enter Tryz.func138, Tryz.ntmps138
  go_wp2_with fail
  refine (fitsInt_any t _ hm).mono ?_
  rintro e w2 ⟨r, rfl, hr, hd⟩
  have HR : Hid (r = true ↔ IntOk t) := hr
  have HD : Hid (∃ k, w2 = w.drewN k) := hd
  clear hr hd
  go_wp2_with fail
  go_ret
  exact ret_iff HR.out HD.out
set_option maxHeartbeats 1000000 in
set_option maxRecDepth 100000 in
theorem fits_4 (t : ByteArray) (w : World) (hm : t.size ≤ 9223372036854775807) :
    Calls Tryz.prog 138 #[.int .i64 4, .string t] w fun e w' => RetB (OidOk t) w e w' := by
  go_enter Tryz.func138, Tryz.ntmps138
  go_wp2_with fail
  refine (fitsOid_any t _ hm).mono ?_
  rintro e w2 ⟨r, rfl, hr, hd⟩
  have HR : Hid (r = true ↔ OidOk t) := hr
  have HD : Hid (∃ k, w2 = w.drewN k) := hd
  clear hr hd
  go_wp2_with fail
  go_ret
  exact ret_iff HR.out HD.out
set_option maxHeartbeats 1000000 in
set_option maxRecDepth 100000 in
theorem fits_5 (t : ByteArray) (w : World) (hm : t.size ≤ 9223372036854775807) :
    Calls Tryz.prog 138 #[.int .i64 5, .string t] w fun e w' => RetB (BitsOk t) w e w' := by
  go_enter Tryz.func138, Tryz.ntmps138
  go_wp2_with fail
  refine (fitsBits_any t _ hm).mono ?_
  rintro e w2 ⟨r, rfl, hr, hd⟩
  have HR : Hid (r = true ↔ BitsOk t) := hr
  have HD : Hid (∃ k, w2 = w.drewN k) := hd
  clear hr hd
  go_wp2_with fail
  go_ret
  exact ret_iff HR.out HD.out
set_option maxHeartbeats 1000000 in
set_option maxRecDepth 100000 in
theorem fits_8 (t : ByteArray) (w : World) (hm : t.size ≤ 9223372036854775807) :
    Calls Tryz.prog 138 #[.int .i64 8, .string t] w fun e w' => RetB (PrOk t) w e w' := by
  go_enter Tryz.func138, Tryz.ntmps138
  go_wp2_with fail
  refine (fitsPrintable_any t _ hm).mono ?_
  rintro e w2 ⟨r, rfl, hr, hd⟩
  have HR : Hid (r = true ↔ PrOk t) := hr
  have HD : Hid (∃ k, w2 = w.drewN k) := hd
  clear hr hd
  go_wp2_with fail
  go_ret
  exact ret_iff HR.out HD.out
set_option maxHeartbeats 1000000 in
set_option maxRecDepth 100000 in
theorem fits_9 (t : ByteArray) (w : World) (hm : t.size ≤ 9223372036854775807) (hD : Days w) :
    Calls Tryz.prog 138 #[.int .i64 9, .string t] w fun e w' => RetB (TimeOk t) w e w' := by
  go_enter Tryz.func138, Tryz.ntmps138
  go_wp2_with fail
  refine (fitsTime_any t _ hm hD).mono ?_
  rintro e w2 ⟨r, rfl, hr, hd⟩
  have HR : Hid (r = true ↔ TimeOk t) := hr
  have HD : Hid (∃ k, w2 = w.drewN k) := hd
  clear hr hd
  go_wp2_with fail
  go_ret
  exact ret_iff HR.out HD.out
set_option maxHeartbeats 1000000 in
set_option maxRecDepth 100000 in
theorem fits_3 (t : ByteArray) (w : World) :
    Calls Tryz.prog 138 #[.int .i64 3, .string t] w fun e w' => RetB (t.size = 0) w e w' := by
  go_enter Tryz.func138, Tryz.ntmps138
  go_wp2
  go_ret
  exact ret_iff (empty_iff t) (drew0 w)
set_option maxHeartbeats 1000000 in
set_option maxRecDepth 100000 in
theorem fits_6 (t : ByteArray) (w : World) :
    Calls Tryz.prog 138 #[.int .i64 6, .string t] w fun e w' => RetB True w e w' := by
  go_enter Tryz.func138, Tryz.ntmps138
  go_wp2
  go_ret
  exact ret_yes trivial (drew0 w)
set_option maxHeartbeats 1000000 in
set_option maxRecDepth 100000 in
theorem fits_no (k : Int) (t : ByteArray) (w : World) (hk : k < 1 ∨ 9 < k) :
    Calls Tryz.prog 138 #[.int .i64 k, .string t] w fun e w' => RetB False w e w' := by
  go_enter Tryz.func138, Tryz.ntmps138
  have g : ∀ c : Int, 1 ≤ c → c ≤ 9 → (k == c) = false := fun c h1 h2 => by rw [beq_eq_false_iff_ne]; omega
  have g1 := g 1 (by omega) (by omega)
  have g2 := g 2 (by omega) (by omega)
  have g3 := g 3 (by omega) (by omega)
  have g4 := g 4 (by omega) (by omega)
  have g5 := g 5 (by omega) (by omega)
  have g6 := g 6 (by omega) (by omega)
  have g7 := g 7 (by omega) (by omega)
  have g8 := g 8 (by omega) (by omega)
  have g9 := g 9 (by omega) (by omega)
  clear g
  go_wp2
  go_ret
  exact ret_no id (drew0 w)
set_option maxHeartbeats 1000000 in
set_option maxRecDepth 100000 in
theorem fits_1 (t : ByteArray) (w : World) :
    Calls Tryz.prog 138 #[.int .i64 1, .string t] w fun e w' => RetB (BoolOk t) w e w' := by
  go_enter Tryz.func138, Tryz.ntmps138
  by_cases h0 : t.toList = [0]
  · have HY : Hid (BoolOk t) := (boolOk_iff t).2 (.inl h0)
    go_wp2
    go_ret
    exact ret_yes HY.out (drew0 w)
  · go_wp2
    go_ret
    refine ret_iff (Iff.trans ?_ (boolOk_iff t).symm) (drew0 w)
    rw [Bool.or_eq_true, beq_iff_eq, beq_iff_eq]
end Go.Proofs.YtkkicodfpekbgaaGreatDoor

/-! Contents: Utf8: the numbers by which the library's contract for utf8.ValidString lies at this dump. -/
namespace Go.Proofs.YtkkicodfpekbgaaGreatDoor
set_option linter.unusedSimpArgs false
set_option linter.unusedVariables false
open Go.Shelf

def valRen : Ren where
  f := fun | 196 => 176 | 259 => 194 | n => n
  t := fun | 0 => 0 | 3 => 3 | 4 => 4 | 5 => 5 | 9 => 9 | 12 => 12 | 46 => 266 | 53 => 286 | 119 => 275 | 138 => 277 | 139 => 278 | n => n
  g := fun | 3 => 14 | 4 => 15 | n => n
set_option maxRecDepth 100000 in
theorem Tryz.laysValid : Lays.n196 Tryz.prog valRen where
  mixed := by kernel_rfl
  f196 := Tryz.func176.trans (congrArg some (by kernel_rfl))
  f259 := Tryz.func194.trans (congrArg some (by kernel_rfl))
  t0 := Tryz.underlying0
  a0 := Tryz.isAgg0
  z0 := Tryz.sizeOf0
  v0 := Tryz.zeroValue0
  t3 := Tryz.underlying3
  a3 := Tryz.isAgg3
  z3 := Tryz.sizeOf3
  v3 := Tryz.zeroValue3
  t4 := Tryz.underlying4
  a4 := Tryz.isAgg4
  z4 := Tryz.sizeOf4
  v4 := Tryz.zeroValue4
  t5 := Tryz.underlying5
  a5 := Tryz.isAgg5
  z5 := Tryz.sizeOf5
  v5 := Tryz.zeroValue5
  t9 := Tryz.underlying9
  a9 := Tryz.isAgg9
  z9 := Tryz.sizeOf9
  v9 := Tryz.zeroValue9
  t12 := Tryz.underlying12
  a12 := Tryz.isAgg12
  z12 := Tryz.sizeOf12
  v12 := Tryz.zeroValue12
  t46 := Tryz.underlying266
  a46 := Tryz.isAgg266
  z46 := Tryz.sizeOf266
  v46 := Tryz.zeroValue266
  t53 := Tryz.underlying286
  a53 := Tryz.isAgg286
  z53 := Tryz.sizeOf286
  v53 := Tryz.zeroValue286
  t119 := Tryz.underlying275
  a119 := Tryz.isAgg275
  z119 := Tryz.sizeOf275
  t138 := Tryz.underlying277
  a138 := Tryz.isAgg277
  z138 := Tryz.sizeOf277
  v138 := Tryz.zeroValue277
  t139 := Tryz.underlying278
  a139 := Tryz.isAgg278
  z139 := Tryz.sizeOf278
  v139 := Tryz.zeroValue278
  g3 := by kernel_rfl
  g4 := by kernel_rfl
end Go.Proofs.YtkkicodfpekbgaaGreatDoor

/-! Contents: every kind: the document's IsContent and the program's Fits against one proposition. -/
namespace Go.Proofs.YtkkicodfpekbgaaGreatDoor
set_option linter.unusedSimpArgs false
set_option linter.unusedVariables false
open Go.RowKit

/-- The text may be the content of this kind. -/
def ContentOk (k : Int) (t : ByteArray) : Prop :=
  (k = 1 ∧ BoolOk t) ∨ (k = 2 ∧ IntOk t) ∨ (k = 3 ∧ t.size = 0) ∨ (k = 4 ∧ OidOk t) ∨ (k = 5 ∧ BitsOk t) ∨ (k = 6 ∧ True) ∨ (k = 7 ∧ Utf8Ok t) ∨ (k = 8 ∧ PrOk t) ∨ (k = 9 ∧ TimeOk t)
theorem contentOk_1 (t : ByteArray) : BoolOk t ↔ ContentOk 1 t := by unfold ContentOk; simp
theorem contentOk_2 (t : ByteArray) : IntOk t ↔ ContentOk 2 t := by unfold ContentOk; simp
theorem contentOk_3 (t : ByteArray) : t.size = 0 ↔ ContentOk 3 t := by unfold ContentOk; simp
theorem contentOk_4 (t : ByteArray) : OidOk t ↔ ContentOk 4 t := by unfold ContentOk; simp
theorem contentOk_5 (t : ByteArray) : BitsOk t ↔ ContentOk 5 t := by unfold ContentOk; simp
theorem contentOk_6 (t : ByteArray) : True ↔ ContentOk 6 t := by unfold ContentOk; simp
theorem contentOk_7 (t : ByteArray) : Utf8Ok t ↔ ContentOk 7 t := by unfold ContentOk; simp
theorem contentOk_8 (t : ByteArray) : PrOk t ↔ ContentOk 8 t := by unfold ContentOk; simp
theorem contentOk_9 (t : ByteArray) : TimeOk t ↔ ContentOk 9 t := by unfold ContentOk; simp
theorem contentOk_no (k : Int) (t : ByteArray) (h : k < 1 ∨ 9 < k) : False ↔ ContentOk k t := by
  unfold ContentOk
  refine ⟨False.elim, fun c => ?_⟩
  rcases c with c | c | c | c | c | c | c | c | c <;> (have := c.1; omega)
theorem RetB.to {P Q : Prop} {w w' : World} {e : Ending} (h : RetB P w e w') (i : P ↔ Q) : RetB Q w e w' := by
  obtain ⟨r, h1, h2, h3⟩ := h
  exact ⟨r, h1, h2.trans i, h3⟩
/-- A bool that says whether P, what lay before as it was. -/
def RetW (P : Prop) (w : World) (e : Ending) (w' : World) : Prop := ∃ r, e = .returned (.bool r) ∧ (r = true ↔ P) ∧ Below w.heap.size w w'
theorem below_drawn {B : Nat} {a w : World} (h : Below B a w) : ∀ q, Below B a (w.drewN q)
  | 0 => h
  | q + 1 => (below_drawn h q).drew
theorem RetB.toW {P : Prop} {w w' : World} {e : Ending} (h : RetB P w e w') : RetW P w e w' := by
  obtain ⟨r, h1, h2, k, rfl⟩ := h
  exact ⟨r, h1, h2, below_drawn (Below.refl _ _) k⟩
theorem RetW.to {P Q : Prop} {w w' : World} {e : Ending} (h : RetW P w e w') (i : P ↔ Q) : RetW Q w e w' := by
  obtain ⟨r, h1, h2, h3⟩ := h
  exact ⟨r, h1, h2.trans i, h3⟩
theorem kinds (k : Int) : (k < 1 ∨ 9 < k) ∨ k = 1 ∨ k = 2 ∨ k = 3 ∨ k = 4 ∨ k = 5 ∨ k = 6 ∨ k = 7 ∨ k = 8 ∨ k = 9 := by omega

theorem isContent_any (k : Int) (t : ByteArray) (w : World) (hs : t.size ≤ 140737488355328) :
    Calls Tryz.prog 108 #[.int .i64 k, .string t] w fun e w' => RetB (ContentOk k t) w e w' := by
  have hm : t.size ≤ 9223372036854775807 := by omega
  rcases kinds k with h | rfl | rfl | rfl | rfl | rfl | rfl | rfl | rfl | rfl
  · exact (isContent_no k t w h).mono fun _ _ r => r.to (contentOk_no k t h)
  · exact (isContent_1 t w).mono fun _ _ r => r.to (contentOk_1 t)
  · exact (isContent_2 t w hm).mono fun _ _ r => r.to (contentOk_2 t)
  · exact (isContent_3 t w).mono fun _ _ r => r.to (contentOk_3 t)
  · exact (isContent_4 t w hm).mono fun _ _ r => r.to (contentOk_4 t)
  · exact (isContent_5 t w hm).mono fun _ _ r => r.to (contentOk_5 t)
  · exact (isContent_6 t w).mono fun _ _ r => r.to (contentOk_6 t)
  · exact (isContent_7 t w hs).mono fun _ _ r => r.to (contentOk_7 t)
  · exact (isContent_8 t w hm).mono fun _ _ r => r.to (contentOk_8 t)
  · exact (isContent_9 t w hm).mono fun _ _ r => r.to (contentOk_9 t)

/-- What utf8.ValidString answers at this text in this world. -/
def Valids (t : ByteArray) (w : World) : Prop := Calls Tryz.prog 176 #[.string t] w fun e w' => RetW (Utf8Ok t) w e w'
set_option maxHeartbeats 1000000 in
set_option maxRecDepth 100000 in
theorem fits_7 (t : ByteArray) (w : World) (hV : Valids t w) :
    Calls Tryz.prog 138 #[.int .i64 7, .string t] w fun e w' => RetW (Utf8Ok t) w e w' := by
  go_enter Tryz.func138, Tryz.ntmps138
  go_wp2_with fail
  refine Calls.mono hV ?_
  rintro e w2 ⟨r, rfl, hr, hd⟩
  have HR : Hid (r = true ↔ Utf8Ok t) := hr
  have HD : Hid (Below w.heap.size w w2) := hd
  clear hr hd
  go_wp2_with fail
  go_ret
  exact ⟨_, rfl, HR.out, HD.out⟩
theorem fits_any (k : Int) (t : ByteArray) (w : World) (hm : t.size ≤ 9223372036854775807) (hD : Days w) (hV : Valids t w) :
    Calls Tryz.prog 138 #[.int .i64 k, .string t] w fun e w' => RetW (ContentOk k t) w e w' := by
  rcases kinds k with h | rfl | rfl | rfl | rfl | rfl | rfl | rfl | rfl | rfl
  · exact (fits_no k t w h).mono fun _ _ r => (r.to (contentOk_no k t h)).toW
  · exact (fits_1 t w).mono fun _ _ r => (r.to (contentOk_1 t)).toW
  · exact (fits_2 t w hm).mono fun _ _ r => (r.to (contentOk_2 t)).toW
  · exact (fits_3 t w).mono fun _ _ r => (r.to (contentOk_3 t)).toW
  · exact (fits_4 t w hm).mono fun _ _ r => (r.to (contentOk_4 t)).toW
  · exact (fits_5 t w hm).mono fun _ _ r => (r.to (contentOk_5 t)).toW
  · exact (fits_6 t w).mono fun _ _ r => (r.to (contentOk_6 t)).toW
  · exact (fits_7 t w hV).mono fun _ _ r => r.to (contentOk_7 t)
  · exact (fits_8 t w hm).mono fun _ _ r => (r.to (contentOk_8 t)).toW
  · exact (fits_9 t w hm hD).mono fun _ _ r => (r.to (contentOk_9 t)).toW
end Go.Proofs.YtkkicodfpekbgaaGreatDoor

/-! Schemas as plain data: what can be reached by Choices without a Tag, beginnings, and that the program's test of two beginnings is the document's. No walk in it. -/
namespace Go.Proofs.YtkkicodfpekbgaaGreatDoor
set_option linter.unusedSimpArgs false
set_option linter.unusedVariables false

/-- A kid. -/
structure Kd where
  node : Int
  opt : Bool
  dflt : ByteArray
/-- A node. -/
structure Nd where
  kind : Int
  tag : Int
  mode : Int
  kids : List Kd
/-- A node and a kid for places that hold none. -/
def nd0 : Nd := ⟨0, 0, 0, []⟩
def kd0 : Kd := ⟨0, false, ⟨#[]⟩⟩
/-- The node at a place. -/
def nd (s : List Nd) (i : Nat) : Nd := s.getD i nd0
/-- A Choice without a Tag. -/
def Nd.opn (n : Nd) : Prop := n.kind = 13 ∧ n.tag < 0
/-- The same, as a Bool. -/
def Nd.opnB (n : Nd) : Bool := decide (n.kind = 13) && decide (n.tag < 0)
theorem Nd.opnB_iff (n : Nd) : n.opnB = true ↔ n.opn := by simp [Nd.opnB, Nd.opn]
theorem Nd.opnB_yes {n : Nd} (h : n.opn) : n.opnB = true := n.opnB_iff.2 h
theorem Nd.opnB_no {n : Nd} (h : ¬ n.opn) : n.opnB = false := Bool.eq_false_iff.2 fun q => h (n.opnB_iff.1 q)

/-- What one comes to from a node by Choices without a Tag. -/
def Rch (s : List Nd) (i j : Nat) : Prop := ∀ P : Nat → Prop, P i → (∀ (m : Nat) (k : Kd), P m → (nd s m).opn → k ∈ (nd s m).kids → P k.node.toNat) → P j
theorem Rch.refl {s : List Nd} {i : Nat} : Rch s i i := fun _ h _ => h
theorem Rch.step {s : List Nd} {i j : Nat} {k : Kd} (h : Rch s i j) (ho : (nd s j).opn) (hk : k ∈ (nd s j).kids) : Rch s i k.node.toNat := fun P h0 hs => hs j k (h P h0 hs) ho hk
theorem Rch.ind {s : List Nd} {i : Nat} {P : Nat → Prop} (h0 : P i) (hs : ∀ (m : Nat) (k : Kd), Rch s i m → (nd s m).opn → k ∈ (nd s m).kids → P m → P k.node.toNat) {j : Nat} (h : Rch s i j) : P j :=
  (h (fun j => Rch s i j ∧ P j) ⟨.refl, h0⟩ fun m k q ho hk => ⟨q.1.step ho hk, hs m k q.1 ho hk q.2⟩).2
/-- One comes back to it. -/
def Back (s : List Nd) (i : Nat) : Prop := ∃ j, Rch s i j ∧ (nd s j).opn ∧ ∃ k ∈ (nd s j).kids, k.node = i
/-- The nodes where that ends. -/
def Leaf (s : List Nd) (i j : Nat) : Prop := Rch s i j ∧ ¬ (nd s j).opn
/-- Kids name nodes of the list. -/
def Within (s : List Nd) : Prop := ∀ i, i < s.length → ∀ k ∈ (nd s i).kids, 0 ≤ k.node ∧ k.node < s.length

theorem Rch.lt {s : List Nd} (hw : Within s) {i j : Nat} (hi : i < s.length) (h : Rch s i j) : j < s.length := by
  refine Rch.ind (P := fun j => j < s.length) hi (fun m k _ _ hk ih => ?_) h
  have := hw _ ih _ hk; omega
theorem Rch.trans {s : List Nd} {i j k : Nat} (h1 : Rch s i j) (h2 : Rch s j k) : Rch s i k := by
  exact Rch.ind (P := fun k => Rch s i k) h1 (fun _ _ _ ho hk ih => ih.step ho hk) h2

theorem nodup_le : ∀ (n : Nat) (l : List Nat), l.Nodup → (∀ x ∈ l, x < n) → l.length ≤ n
  | 0, [], _, _ => Nat.le_refl _
  | 0, x :: _, _, h => absurd (h x (by simp)) (by omega)
  | n + 1, l, hd, h => by
    have h2 := nodup_le n (l.erase n) (hd.erase n) (fun x hx => by
      have h3 := h x (List.mem_of_mem_erase hx)
      have h4 : x ≠ n := fun e => by subst e; exact hd.not_mem_erase hx
      omega)
    have h5 := List.length_erase (a := n) (l := l)
    split at h5 <;> omega

/-- Where no Choice comes back to itself, and each has a kid, one comes to an end. -/
theorem leaf_ex {s : List Nd} (hw : Within s) (hk : ∀ i, i < s.length → (nd s i).opn → (nd s i).kids ≠ []) (hb : ∀ i, i < s.length → ¬ Back s i) {i : Nat} (hi : i < s.length) :
    ∃ j, Leaf s i j := by
  apply Classical.byContradiction
  intro hno
  have ho : ∀ j, Rch s i j → (nd s j).opn := fun j hj => Classical.byContradiction fun h => hno ⟨j, hj, h⟩
  -- longer and longer ways without a node met twice
  have key : ∀ n : Nat, ∃ l : List Nat, l.length = n + 1 ∧ l.Nodup ∧ (∀ x ∈ l, Rch s i x) ∧ (∃ c r, l = c :: r ∧ ∀ x ∈ l, Rch s x c) := by
    intro n
    induction n with
    | zero => exact ⟨[i], rfl, by simp, by simp [Rch.refl], i, [], rfl, by simp [Rch.refl]⟩
    | succ n ih =>
      obtain ⟨l, hl, hd, hr, c, r, hc, hx⟩ := ih
      have hrc : Rch s i c := hr c (by simp [hc])
      have hcl := hrc.lt hw hi
      obtain ⟨k, ks, hks⟩ := List.exists_cons_of_ne_nil (hk c hcl (ho c hrc))
      have hkm : k ∈ (nd s c).kids := by simp [hks]
      have hkr := hw c hcl k hkm
      have hst : ∀ x ∈ l, Rch s x k.node.toNat := fun x h => .step (hx x h) (ho c hrc) hkm
      refine ⟨k.node.toNat :: l, by simp [hl], ?_, ?_, k.node.toNat, l, rfl, ?_⟩
      · rw [List.nodup_cons]
        refine ⟨fun hm => ?_, hd⟩
        have hlt : k.node.toNat < s.length := by omega
        exact hb _ hlt ⟨c, hx _ hm, ho c hrc, k, hkm, by omega⟩
      · intro x h
        rcases List.mem_cons.1 h with rfl | h
        · exact .step hrc (ho c hrc) hkm
        · exact hr x h
      · intro x h
        rcases List.mem_cons.1 h with rfl | h
        · exact .refl
        · exact hst x h
  obtain ⟨l, hl, hd, hr, _⟩ := key s.length
  have := nodup_le s.length l hd (fun x h => (hr x h).lt hw hi)
  omega

/-- The number of a kind's own tag. -/
def own (k : Int) : Int := [0, 1, 2, 5, 6, 3, 4, 12, 19, 24, 16, 16, 17].getD k.toNat 0
/-- May an element of a node (no open Choice) begin so? -/
def begAt (n : Nd) (c m : Int) : Prop := (0 ≤ n.tag ∧ c = 2 ∧ m = n.tag) ∨ (n.tag < 0 ∧ n.kind = 14) ∨ (n.tag < 0 ∧ n.kind ≠ 14 ∧ c = 0 ∧ m = own n.kind)
/-- The document's beginnings. -/
def Beg (s : List Nd) (i : Nat) (c m : Int) : Prop := ∃ j, Leaf s i j ∧ begAt (nd s j) c m
/-- Two nodes have a beginning in common. -/
def Common (s : List Nd) (i k : Nat) : Prop := ∃ c m : Int, 0 ≤ c ∧ c < 4 ∧ 0 ≤ m ∧ m < 31 ∧ Beg s i c m ∧ Beg s k c m
/-- Any without a Tag. -/
def Nd.every (n : Nd) : Prop := n.kind = 14 ∧ n.tag < 0
/-- The same, as a Bool. -/
def Nd.everyB (n : Nd) : Bool := decide (n.kind = 14) && decide (n.tag < 0)
theorem Nd.everyB_iff (n : Nd) : n.everyB = true ↔ n.every := by simp [Nd.everyB, Nd.every]
theorem Nd.everyB_yes {n : Nd} (h : n.every) : n.everyB = true := n.everyB_iff.2 h
theorem Nd.everyB_no {n : Nd} (h : ¬ n.every) : n.everyB = false := Bool.eq_false_iff.2 fun q => h (n.everyB_iff.1 q)
/-- The tag that an element begins with. -/
def Nd.outer (n : Nd) : Int × Int := if 0 ≤ n.tag then (2, n.tag) else (0, own n.kind)
theorem begAt_iff (n : Nd) (c m : Int) : begAt n c m ↔ n.every ∨ (¬ n.every ∧ n.outer = (c, m)) := by
  unfold begAt Nd.every Nd.outer
  by_cases h : 0 ≤ n.tag
  · rw [if_pos h, Prod.mk.injEq]
    constructor
    · rintro (⟨_, a, b⟩ | ⟨a, _⟩ | ⟨a, _⟩)
      · exact .inr ⟨fun q => by omega, a.symm, b.symm⟩
      · omega
      · omega
    · rintro (⟨_, a⟩ | ⟨_, a, b⟩)
      · omega
      · exact .inl ⟨h, a.symm, b.symm⟩
  · rw [if_neg h, Prod.mk.injEq]
    constructor
    · rintro (⟨a, _⟩ | ⟨a, b⟩ | ⟨a, b, e, f⟩)
      · omega
      · exact .inl ⟨b, a⟩
      · exact .inr ⟨fun q => b q.1, e.symm, f.symm⟩
    · rintro (⟨a, b⟩ | ⟨a, b, e⟩)
      · exact .inr (.inl ⟨b, a⟩)
      · exact .inr (.inr ⟨by omega, fun q => a ⟨q, by omega⟩, b.symm, e.symm⟩)
theorem own_range (k : Int) : 0 ≤ own k ∧ own k < 31 := by
  unfold own
  match k.toNat with
  | 0 | 1 | 2 | 3 | 4 | 5 | 6 | 7 | 8 | 9 | 10 | 11 | 12 => decide
  | n + 13 => simp

/-- Two nodes' beginnings as the program holds them: all, or tags. -/
def Meets (s : List Nd) (i k : Nat) : Prop :=
  (∃ j, Leaf s i j ∧ (nd s j).every) ∨ (∃ j, Leaf s k j ∧ (nd s j).every) ∨ ∃ j l, Leaf s i j ∧ ¬ (nd s j).every ∧ Leaf s k l ∧ ¬ (nd s l).every ∧ (nd s j).outer = (nd s l).outer
theorem outer_range {n : Nd} (h : n.tag ≤ 30) : 0 ≤ n.outer.1 ∧ n.outer.1 < 4 ∧ 0 ≤ n.outer.2 ∧ n.outer.2 < 31 := by
  have := own_range n.kind
  unfold Nd.outer
  split <;> simp only <;> omega
theorem common_iff {s : List Nd} (ht : ∀ j, j < s.length → (nd s j).tag ≤ 30) (hw : Within s) {i k : Nat} (hi : i < s.length) (hk : k < s.length)
    (hli : ∃ j, Leaf s i j) (hlk : ∃ j, Leaf s k j) : Common s i k ↔ Meets s i k := by
  constructor
  · rintro ⟨c, m, _, _, _, _, ⟨j, hj, hbj⟩, ⟨l, hl, hbl⟩⟩
    rw [begAt_iff] at hbj hbl
    rcases hbj with e | ⟨e, ej⟩
    · exact .inl ⟨j, hj, e⟩
    rcases hbl with f | ⟨f, fl⟩
    · exact .inr (.inl ⟨l, hl, f⟩)
    · exact .inr (.inr ⟨j, l, hj, e, hl, f, ej.trans fl.symm⟩)
  · have pick : ∀ {a : Nat}, a < s.length → (∃ j, Leaf s a j) → ∀ {b : Nat}, (∃ j, Leaf s b j ∧ (nd s j).every) → ∃ c m : Int, 0 ≤ c ∧ c < 4 ∧ 0 ≤ m ∧ m < 31 ∧ Beg s a c m ∧ Beg s b c m := by
      rintro a ha ⟨l, hl⟩ b ⟨j, hj, e⟩
      have hr := outer_range (ht l (hl.1.lt hw ha))
      refine ⟨(nd s l).outer.1, (nd s l).outer.2, hr.1, hr.2.1, hr.2.2.1, hr.2.2.2, ⟨l, hl, ?_⟩, ⟨j, hj, (begAt_iff _ _ _).2 (.inl e)⟩⟩
      rw [begAt_iff]
      by_cases h : (nd s l).every
      · exact .inl h
      · exact .inr ⟨h, rfl⟩
    rintro (h | h | ⟨j, l, hj, e, hl, f, hjl⟩)
    · obtain ⟨c, m, h1, h2, h3, h4, h5, h6⟩ := pick hk hlk h
      exact ⟨c, m, h1, h2, h3, h4, h6, h5⟩
    · exact pick hi hli h
    · have hr := outer_range (ht j (hj.1.lt hw hi))
      exact ⟨(nd s j).outer.1, (nd s j).outer.2, hr.1, hr.2.1, hr.2.2.1, hr.2.2.2, ⟨j, hj, (begAt_iff _ _ _).2 (.inr ⟨e, rfl⟩)⟩, ⟨l, hl, (begAt_iff _ _ _).2 (.inr ⟨f, hjl.symm⟩)⟩⟩
end Go.Proofs.YtkkicodfpekbgaaGreatDoor

/-! A schema in memory: which cells hold it, and that new memory leaves it as it is. -/
namespace Go.Proofs.YtkkicodfpekbgaaGreatDoor
set_option linter.unusedSimpArgs false
set_option linter.unusedVariables false
open Go.RowKit

/-- A kid's cells. -/
structure KidCells (w : World) (b o : Nat) (k : Kd) : Prop where
  node : w.cell? ⟨b, o, none⟩ = some (.int .i64 k.node)
  opt : w.cell? ⟨b, o + 1, none⟩ = some (.bool k.opt)
  dflt : w.cell? ⟨b, o + 2, none⟩ = some (.string k.dflt)
/-- A node's cells. -/
structure NodeCells (w : World) (b o : Nat) (n : Nd) (ka : Option Addr) (kc : Nat) : Prop where
  kind : w.cell? ⟨b, o, none⟩ = some (.int .i64 n.kind)
  tag : w.cell? ⟨b, o + 1, none⟩ = some (.int .i64 n.tag)
  mode : w.cell? ⟨b, o + 2, none⟩ = some (.int .i64 n.mode)
  kids : w.cell? ⟨b, o + 3, none⟩ = some (.slice ka n.kids.length kc)
/-- Kids behind an address. -/
def KidsIn (w : World) (ka : Option Addr) (ks : List Kd) : Prop := ∀ j, j < ks.length → ∃ b o, ka = some ⟨b, o, none⟩ ∧ KidCells w b (o + j * 3) (ks.getD j kd0)
/-- Nodes behind an address. -/
def Sch (w : World) (a : Option Addr) (s : List Nd) : Prop := ∀ i, i < s.length → ∃ b o ka kc, a = some ⟨b, o, none⟩ ∧ NodeCells w b (o + i * 4) (nd s i) ka kc ∧ (nd s i).kids.length ≤ kc ∧ kc ≤ maxLen ∧ KidsIn w ka (nd s i).kids
/-- What a schema's numbers and texts are in Go. -/
def SchOk (s : List Nd) : Prop := ∀ i, i < s.length → ∀ k ∈ (nd s i).kids, k.dflt.size ≤ 140737488351232

theorem lt_of_cell {w : World} {a : Addr} {v : Value} (h : w.cell? a = some v) : a.block < w.heap.size := by
  rcases Nat.lt_or_ge a.block w.heap.size with h' | h'
  · exact h'
  · simp [World.cell?, Array.getElem?_eq_none h'] at h
theorem KidCells.below {w w' : World} {b o : Nat} {k : Kd} (h : KidCells w b o k) (hb : Below w.heap.size w w') : KidCells w' b o k :=
  ⟨(hb.cell (lt_of_cell h.node)).trans h.node, (hb.cell (lt_of_cell h.opt)).trans h.opt, (hb.cell (lt_of_cell h.dflt)).trans h.dflt⟩
theorem NodeCells.below {w w' : World} {b o : Nat} {n : Nd} {ka : Option Addr} {kc : Nat} (h : NodeCells w b o n ka kc) (hb : Below w.heap.size w w') : NodeCells w' b o n ka kc :=
  ⟨(hb.cell (lt_of_cell h.kind)).trans h.kind, (hb.cell (lt_of_cell h.tag)).trans h.tag, (hb.cell (lt_of_cell h.mode)).trans h.mode, (hb.cell (lt_of_cell h.kids)).trans h.kids⟩
theorem KidsIn.below {w w' : World} {ka : Option Addr} {ks : List Kd} (h : KidsIn w ka ks) (hb : Below w.heap.size w w') : KidsIn w' ka ks := fun j hj => by
  obtain ⟨b, o, e, hc⟩ := h j hj; exact ⟨b, o, e, hc.below hb⟩
theorem Sch.below {w w' : World} {a : Option Addr} {s : List Nd} (h : Sch w a s) (hb : Below w.heap.size w w') : Sch w' a s := fun i hi => by
  obtain ⟨b, o, ka, kc, e, hc, h1, h2, hk⟩ := h i hi; exact ⟨b, o, ka, kc, e, hc.below hb, h1, h2, hk.below hb⟩

/-- The value of a node whose kids lie at an address. -/
def nodeV (n : Nd) (ka : Option Addr) (kc : Nat) : Value := .agg #[.int .i64 n.kind, .int .i64 n.tag, .int .i64 n.mode, .slice ka n.kids.length kc]
/-- The value of a kid. -/
def kidV (k : Kd) : Value := .agg #[.int .i64 k.node, .bool k.opt, .string k.dflt]
/-- A bool that says whether P; old memory as it was. -/
def RetO (P : Prop) (w : World) (e : Ending) (w' : World) : Prop := ∃ r, e = .returned (.bool r) ∧ (r = true ↔ P) ∧ Below w.heap.size w w'
theorem reto_no {P : Prop} {w w' : World} (h : ¬ P) (hw : Below w.heap.size w w') : RetO P w (.returned (.bool false)) w' := ⟨false, rfl, ⟨fun e => (by cases e), fun p => absurd p h⟩, hw⟩
theorem reto_yes {P : Prop} {w w' : World} (h : P) (hw : Below w.heap.size w w') : RetO P w (.returned (.bool true)) w' := ⟨true, rfl, ⟨fun _ => h, fun _ => rfl⟩, hw⟩
theorem reto_iff {P : Prop} {w w' : World} {r : Bool} (h : r = true ↔ P) (hw : Below w.heap.size w w') : RetO P w (.returned (.bool r)) w' := ⟨r, rfl, h, hw⟩
end Go.Proofs.YtkkicodfpekbgaaGreatDoor

/-! hallmarkref.open: what it answers. -/
namespace Go.Proofs.YtkkicodfpekbgaaGreatDoor
set_option linter.unusedSimpArgs false
set_option linter.unusedVariables false
open Go.RowKit
set_option maxHeartbeats 1000000 in
set_option maxRecDepth 100000 in
theorem open_any (n : Nd) (ka : Option Addr) (kc : Nat) (w : World) :
    Calls Tryz.prog 67 #[nodeV n ka kc] w fun e w' => RetO n.opn w e w' := by
  unfold nodeV
  by_cases h1 : n.kind = 13
  · have h1' : (n.kind == 13) = true := by simp [h1]
    by_cases h2 : n.tag < 0
    · have HP : Hid n.opn := ⟨h1, h2⟩
      clear h1
      go_enter Tryz.func67, Tryz.ntmps67
      go_wp2
      go_ret
      exact reto_yes HP.out ((Below.refl _ _).alloc (Nat.le_refl _) _)
    · have HP : Hid (¬ n.opn) := fun h => h2 h.2
      have h2' : 0 ≤ n.tag := by omega
      clear h1
      go_enter Tryz.func67, Tryz.ntmps67
      go_wp2
      go_ret
      exact reto_no HP.out ((Below.refl _ _).alloc (Nat.le_refl _) _)
  · have h1' : (n.kind == 13) = false := by simp [h1]
    have HP : Hid (¬ n.opn) := fun h => h1 h.1
    clear h1
    go_enter Tryz.func67, Tryz.ntmps67
    go_wp2
    go_ret
    exact reto_no HP.out ((Below.refl _ _).alloc (Nat.le_refl _) _)

theorem RetO.yes {P : Prop} {w w' : World} {e : Ending} (h : RetO P w e w') (p : P) : e = .returned (.bool true) ∧ Below w.heap.size w w' := by
  obtain ⟨r, rfl, hr, hb⟩ := h; rw [hr.2 p]; exact ⟨rfl, hb⟩
theorem RetO.no {P : Prop} {w w' : World} {e : Ending} (h : RetO P w e w') (p : ¬ P) : e = .returned (.bool false) ∧ Below w.heap.size w w' := by
  obtain ⟨r, rfl, hr, hb⟩ := h
  cases r
  · exact ⟨rfl, hb⟩
  · exact absurd (hr.1 rfl) p
theorem open_yes (n : Nd) (ka : Option Addr) (kc : Nat) (w : World) (h : n.opn) :
    Calls Tryz.prog 67 #[.agg #[.int .i64 n.kind, .int .i64 n.tag, .int .i64 n.mode, .slice ka n.kids.length kc]] w fun e w' => e = .returned (.bool true) ∧ Below w.heap.size w w' :=
  (open_any n ka kc w).mono fun _ _ q => q.yes h
theorem open_no (n : Nd) (ka : Option Addr) (kc : Nat) (w : World) (h : ¬ n.opn) :
    Calls Tryz.prog 67 #[.agg #[.int .i64 n.kind, .int .i64 n.tag, .int .i64 n.mode, .slice ka n.kids.length kc]] w fun e w' => e = .returned (.bool false) ∧ Below w.heap.size w w' :=
  (open_any n ka kc w).mono fun _ _ q => q.no h

/-- A kid that must be told. -/
def Kd.must (k : Kd) : Prop := k.opt = false ∧ k.dflt.size = 0
set_option maxHeartbeats 1000000 in
set_option maxRecDepth 100000 in
theorem must_any (k : Kd) (w : World) :
    Calls Tryz.prog 66 #[kidV k] w fun e w' => RetO k.must w e w' := by
  unfold kidV
  cases h : k.opt with
  | true =>
    have HP : Hid (¬ k.must) := fun q => by have := q.1; rw [h] at this; cases this
    clear h
    go_enter Tryz.func66, Tryz.ntmps66
    go_wp2
    go_ret
    exact reto_no HP.out ((Below.refl _ _).alloc (Nat.le_refl _) _)
  | false =>
    have HO : Hid (k.opt = false) := h
    clear h
    by_cases h2 : k.dflt.size = 0
    · have e := emp_t h2
      have HP : Hid k.must := ⟨HO.out, h2⟩
      clear h2
      go_enter Tryz.func66, Tryz.ntmps66
      go_wp2
      go_ret
      exact reto_yes HP.out ((Below.refl _ _).alloc (Nat.le_refl _) _)
    · have e := emp_f (t := k.dflt) (by omega)
      have HP : Hid (¬ k.must) := fun q => h2 q.2
      clear h2
      go_enter Tryz.func66, Tryz.ntmps66
      go_wp2
      go_ret
      exact reto_no HP.out ((Below.refl _ _).alloc (Nat.le_refl _) _)
end Go.Proofs.YtkkicodfpekbgaaGreatDoor

/-! Schemas: the pure part of the search for the leaves, as the document goes (a list that grows at its end). -/
namespace Go.Proofs.YtkkicodfpekbgaaGreatDoor
set_option linter.unusedSimpArgs false
set_option linter.unusedVariables false

structure Lv (s : List Nd) (i : Nat) (done q : List Nat) (bk : Bool) : Prop where
  pre : ∃ r, q = done ++ r
  mem : i ∈ q
  nodup : q.Nodup
  rch : ∀ x ∈ q, Rch s i x
  cl : ∀ x ∈ done, (nd s x).opn → ∀ k ∈ (nd s x).kids, k.node.toNat ∈ q
  back : bk = true ↔ ∃ x ∈ done, (nd s x).opn ∧ ∃ k ∈ (nd s x).kids, k.node = i
/-- In the middle of a Choice's kids. -/
structure LvM (s : List Nd) (i : Nat) (done : List Nat) (x j : Nat) (q : List Nat) (bk : Bool) : Prop where
  pre : ∃ r, q = done ++ x :: r
  mem : i ∈ q
  nodup : q.Nodup
  rch : ∀ x ∈ q, Rch s i x
  cl : ∀ x ∈ done, (nd s x).opn → ∀ k ∈ (nd s x).kids, k.node.toNat ∈ q
  cl2 : ∀ m, m < j → ((nd s x).kids.getD m kd0).node.toNat ∈ q
  back : bk = true ↔ (∃ x ∈ done, (nd s x).opn ∧ ∃ k ∈ (nd s x).kids, k.node = i) ∨ ∃ m, m < j ∧ ((nd s x).kids.getD m kd0).node = i
/-- What has been put out. -/
def outs (s : List Nd) (l : List Nat) : List Nat := l.filter (fun j => !(nd s j).opnB)

theorem Lv.start (s : List Nd) (i : Nat) : Lv s i [] [i] false where
  pre := ⟨[i], rfl⟩
  mem := by simp
  nodup := by simp
  rch := fun x hx => by simp at hx; subst hx; exact .refl
  cl := fun x hx => by cases hx
  back := by simp
theorem Lv.at {s : List Nd} {i : Nat} {done q : List Nat} {bk : Bool} (h : Lv s i done q bk) (hl : done.length < q.length) : ∃ x r, q = done ++ x :: r := by
  obtain ⟨r, e⟩ := h.pre
  cases r with
  | nil => subst e; simp at hl
  | cons x r => exact ⟨x, r, e⟩
theorem Lv.le {s : List Nd} {i : Nat} {done q : List Nat} {bk : Bool} (h : Lv s i done q bk) : done.length ≤ q.length := by
  obtain ⟨r, e⟩ := h.pre; subst e; simp
theorem Lv.len {s : List Nd} {i : Nat} {done q : List Nat} {bk : Bool} (h : Lv s i done q bk) (hw : Within s) (hi : i < s.length) : q.length ≤ s.length :=
  nodup_le _ q h.nodup fun x hx => (h.rch x hx).lt hw hi
theorem LvM.len {s : List Nd} {i : Nat} {done q : List Nat} {x j : Nat} {bk : Bool} (h : LvM s i done x j q bk) (hw : Within s) (hi : i < s.length) : q.length ≤ s.length :=
  nodup_le _ q h.nodup fun x hx => (h.rch x hx).lt hw hi
theorem Lv.leaf {s : List Nd} {i : Nat} {done q r : List Nat} {bk : Bool} {x : Nat} (h : Lv s i done q bk) (e : q = done ++ x :: r) (ho : ¬ (nd s x).opn) : Lv s i (done ++ [x]) q bk where
  pre := ⟨r, by simp [e]⟩
  mem := h.mem
  nodup := h.nodup
  rch := h.rch
  cl := fun y hy hyo => by
    rcases List.mem_append.1 hy with hy | hy
    · exact h.cl y hy hyo
    · simp at hy; subst hy; exact absurd hyo ho
  back := by
    rw [h.back]
    constructor
    · rintro ⟨y, hy, hr⟩; exact ⟨y, by simp [hy], hr⟩
    · rintro ⟨y, hy, hyo, hr⟩
      rcases List.mem_append.1 hy with hy | hy
      · exact ⟨y, hy, hyo, hr⟩
      · simp at hy; subst hy; exact absurd hyo ho
theorem outs_leaf {s : List Nd} {done : List Nat} {x : Nat} (ho : ¬ (nd s x).opn) : outs s (done ++ [x]) = outs s done ++ [x] := by
  unfold outs; rw [List.filter_append]; simp [Nd.opnB_no ho]
theorem outs_open {s : List Nd} {done : List Nat} {x : Nat} (ho : (nd s x).opn) : outs s (done ++ [x]) = outs s done := by
  unfold outs; rw [List.filter_append]; simp [Nd.opnB_yes ho]
theorem outs_le (s : List Nd) (l : List Nat) : (outs s l).length ≤ l.length := List.length_filter_le _ _
theorem Lv.mid {s : List Nd} {i : Nat} {done q r : List Nat} {bk : Bool} {x : Nat} (h : Lv s i done q bk) (e : q = done ++ x :: r) : LvM s i done x 0 q bk where
  pre := ⟨r, e⟩
  mem := h.mem
  nodup := h.nodup
  rch := h.rch
  cl := h.cl
  cl2 := fun m hm => absurd hm (Nat.not_lt_zero _)
  back := by rw [h.back]; simp
theorem LvM.step_old {s : List Nd} {i : Nat} {done q : List Nat} {x j t : Nat} {bk : Bool} (h : LvM s i done x j q bk) (ht : ((nd s x).kids.getD j kd0).node = t) (hm : t ∈ q) :
    LvM s i done x (j + 1) q (bk || decide ((t : Int) = i)) where
  pre := h.pre
  mem := h.mem
  nodup := h.nodup
  rch := h.rch
  cl := h.cl
  cl2 := fun m hm' => by
    by_cases e : m = j
    · subst e; rw [ht]; exact hm
    · exact h.cl2 m (by omega)
  back := by
    rw [Bool.or_eq_true, h.back, or_assoc, decide_eq_true_iff]
    refine or_congr Iff.rfl ⟨?_, ?_⟩
    · rintro (⟨m, h1, h2⟩ | e)
      · exact ⟨m, by omega, h2⟩
      · exact ⟨j, by omega, ht.trans e⟩
    · rintro ⟨m, h1, h2⟩
      by_cases e : m = j
      · subst e; exact .inr (ht.symm.trans h2)
      · exact .inl ⟨m, by omega, h2⟩
theorem LvM.step_new {s : List Nd} {i : Nat} {done q : List Nat} {x j t : Nat} {bk : Bool} (h : LvM s i done x j q bk) (ht : ((nd s x).kids.getD j kd0).node = t) (hj : j < (nd s x).kids.length) (ho : (nd s x).opn) (hm : t ∉ q) :
    LvM s i done x (j + 1) (q ++ [t]) (bk || decide ((t : Int) = i)) := by
  have hk : (nd s x).kids.getD j kd0 ∈ (nd s x).kids := by
    rw [List.getD_eq_getElem?_getD, List.getElem?_eq_getElem hj]; exact List.getElem_mem hj
  have hx : Rch s i x := by obtain ⟨r, e⟩ := h.pre; exact h.rch x (by simp [e])
  have ht' : ((nd s x).kids.getD j kd0).node.toNat = t := by rw [ht]; rfl
  exact {
    pre := by obtain ⟨r, e⟩ := h.pre; exact ⟨r ++ [t], by simp [e]⟩
    mem := by simp [h.mem]
    nodup := by rw [List.nodup_append]; exact ⟨h.nodup, by simp, fun a ha b hb => by simp at hb; subst hb; intro e; subst e; exact hm ha⟩
    rch := fun y hy => by
      rcases List.mem_append.1 hy with hy | hy
      · exact h.rch y hy
      · simp at hy; subst hy; rw [← ht']; exact .step hx ho hk
    cl := fun y hy hyo k hk => List.mem_append_left _ (h.cl y hy hyo k hk)
    cl2 := fun m hm' => by
      by_cases e : m = j
      · subst e; rw [ht']; simp
      · exact List.mem_append_left _ (h.cl2 m (by omega))
    back := (by
      rw [Bool.or_eq_true, h.back, or_assoc, decide_eq_true_iff]
      refine or_congr Iff.rfl ⟨?_, ?_⟩
      · rintro (⟨m, h1, h2⟩ | e)
        · exact ⟨m, by omega, h2⟩
        · exact ⟨j, by omega, ht.trans e⟩
      · rintro ⟨m, h1, h2⟩
        by_cases e : m = j
        · subst e; exact .inr (ht.symm.trans h2)
        · exact .inl ⟨m, by omega, h2⟩) }
theorem LvM.finish {s : List Nd} {i : Nat} {done q : List Nat} {x : Nat} {bk : Bool} (h : LvM s i done x (nd s x).kids.length q bk) (ho : (nd s x).opn) : Lv s i (done ++ [x]) q bk := by
  have hget : ∀ k ∈ (nd s x).kids, ∃ m, m < (nd s x).kids.length ∧ (nd s x).kids.getD m kd0 = k := fun k hk => by
    obtain ⟨m, hm, e⟩ := List.getElem_of_mem hk
    exact ⟨m, hm, by rw [List.getD_eq_getElem?_getD, List.getElem?_eq_getElem hm]; exact e⟩
  exact {
    pre := by obtain ⟨r, e⟩ := h.pre; exact ⟨r, by simp [e]⟩
    mem := h.mem
    nodup := h.nodup
    rch := h.rch
    cl := fun y hy hyo k hk => by
      rcases List.mem_append.1 hy with hy | hy
      · exact h.cl y hy hyo k hk
      · simp at hy; subst hy
        obtain ⟨m, hm, e⟩ := hget k hk
        rw [← e]; exact h.cl2 m hm
    back := by
      rw [h.back]
      constructor
      · rintro (⟨y, hy, hr⟩ | ⟨m, hm, e⟩)
        · exact ⟨y, by simp [hy], hr⟩
        · exact ⟨x, by simp, ho, _, by rw [List.getD_eq_getElem?_getD, List.getElem?_eq_getElem hm]; exact List.getElem_mem hm, e⟩
      · rintro ⟨y, hy, hyo, k, hk, e⟩
        rcases List.mem_append.1 hy with hy | hy
        · exact .inl ⟨y, hy, hyo, k, hk, e⟩
        · simp at hy; subst hy
          obtain ⟨m, hm, e'⟩ := hget k hk
          exact .inr ⟨m, hm, by rw [e']; exact e⟩ }
theorem Lv.reached {s : List Nd} {i : Nat} {q : List Nat} {bk : Bool} (h : Lv s i q q bk) {j : Nat} (hj : Rch s i j) : j ∈ q := by
  exact Rch.ind (P := fun j => j ∈ q) h.mem (fun _ _ _ ho hk ih => h.cl _ ih ho _ hk) hj
theorem Lv.leaves {s : List Nd} {i : Nat} {q : List Nat} {bk : Bool} (h : Lv s i q q bk) (j : Nat) : j ∈ outs s q ↔ Leaf s i j := by
  unfold outs Leaf
  rw [List.mem_filter]
  simp only [Bool.not_eq_true', ← Bool.not_eq_true, Nd.opnB_iff]
  exact and_congr ⟨fun hm => h.rch j hm, fun hr => h.reached hr⟩ Iff.rfl
theorem Lv.backs {s : List Nd} {i : Nat} {q : List Nat} {bk : Bool} (h : Lv s i q q bk) : bk = true ↔ Back s i := by
  rw [h.back]
  unfold Back
  constructor
  · rintro ⟨x, hx, ho, k, hk, e⟩; exact ⟨x, h.rch x hx, ho, k, hk, e⟩
  · rintro ⟨x, hx, ho, k, hk, e⟩; exact ⟨x, h.reached hx, ho, k, hk, e⟩
theorem Lv.done_eq {s : List Nd} {i : Nat} {done q : List Nat} {bk : Bool} (h : Lv s i done q bk) (hl : q.length ≤ done.length) : done = q := by
  obtain ⟨r, e⟩ := h.pre
  subst e
  have : r = [] := List.eq_nil_of_length_eq_zero (by simp at hl; omega)
  simp [this]
end Go.Proofs.YtkkicodfpekbgaaGreatDoor

/-! hallmarkref.Leaves: the nodes where one comes to, and whether one comes back. -/
namespace Go.Proofs.YtkkicodfpekbgaaGreatDoor
set_option linter.unusedSimpArgs false
set_option linter.unusedVariables false
open Go.RowKit

/-- Places as Go's numbers. -/
def ivs (l : List Nat) : List Value := l.map fun (j : Nat) => Value.int .i64 (j : Int)
/-- What the search holds in memory. -/
structure LvW (s : List Nd) (w wr : World) (i : Nat) (done q : List Nat) (gi ci : Nat) (vout : Value) : Prop where
  inn : wr.ownsRow w.heap.size 3 1 (.slice (some ⟨gi, 0, none⟩) q.length ci) q.length (ivs q)
  out : wr.ownsRow w.heap.size 3 1 vout (outs s done).length (ivs (outs s done))
  ap : vout.ownBlock ≠ some gi
  bel : Below w.heap.size w wr
theorem Tryz.infoInt : (Tryz.prog.info? 3).map (fun i => (i.zero, i.size, i.bytes)) = some (some (.int .i64 0), 1, 8) := by kernel_rfl
theorem ivs_get {l : List Nat} {j : Nat} (h : j < l.length) : (ivs l)[j]? = some (.int .i64 ((l.getD j 0 : Nat) : Int)) := by
  unfold ivs; simp [h]
theorem own_cell {w : World} {base g n c : Nat} {l : List Nat} (h : w.ownsRow base 3 1 (.slice (some ⟨g, 0, none⟩) n c) l.length (ivs l)) {j : Nat} (hj : j < l.length) :
    w.cell? ⟨g, j, none⟩ = some (.int .i64 ((l.getD j 0 : Nat) : Int)) := by
  have := h.cells (g := g) rfl j _ (ivs_get hj)
  have e : (⟨g, 0, none⟩ : Addr).add j = ⟨g, j, none⟩ := by unfold Addr.add; split <;> simp_all
  rwa [e] at this
theorem own_below {w w' : World} {base : Nat} {e : TypeId} {size : Nat} {v : Value} {n : Nat} {xs : List Value} (h : w.ownsRow base e size v n xs) (hb : Below w.heap.size w w') : w'.ownsRow base e size v n xs := by
  obtain ⟨h1, h2⟩ := h
  refine ⟨h1, ?_⟩
  rcases h2 with h2 | ⟨g, cap, cur, rfl, h3, h4, h5⟩
  · exact .inl h2
  · refine .inr ⟨g, cap, cur, rfl, h3, ?_, h5⟩
    have hlt : g < w.heap.size := by
      rcases Nat.lt_or_ge g w.heap.size with h' | h'
      · exact h'
      · rw [Array.getElem?_eq_none h'] at h4; cases h4
    exact (hb.block _ hlt).trans h4
theorem LvW.below {s : List Nd} {w wr w' : World} {i : Nat} {done q : List Nat} {gi ci : Nat} {vout : Value} (h : LvW s w wr i done q gi ci vout) (hb : Below wr.heap.size wr w') : LvW s w w' i done q gi ci vout where
  inn := own_below h.inn hb
  out := own_below h.out hb
  ap := h.ap
  bel := h.bel.trans (hb.mono h.bel.size)
theorem below_alloc {w w' : World} {o : Obj} (hb : Below (w.alloc o).heap.size (w.alloc o) w') : Below w.heap.size w w' :=
  ((Below.refl w.heap.size w).alloc (Nat.le_refl _) o).trans (hb.mono (by simp))
theorem ivs_append (l : List Nat) (x : Nat) : ivs (l ++ [x]) = ivs l ++ [.int .i64 (x : Int)] := by unfold ivs; simp
/-- A leaf more. -/
theorem LvW.put {s : List Nd} {w wr w' : World} {i x : Nat} {done q : List Nat} {gi ci g cap : Nat} {vout : Value} {o : Obj} (h : LvW s w wr i done q gi ci vout) (ho : ¬ (nd s x).opn)
    (h1 : w'.ownsRow w.heap.size 3 1 (.slice (some ⟨g, 0, none⟩) ((outs s done).length + 1) cap) ((outs s done).length + 1) (ivs (outs s done) ++ [.int .i64 (x : Int)]))
    (h2 : (wr.alloc o).grownBy w' vout.ownBlock) (h3 : vout.ownBlock = some g ∨ g = wr.heap.size + 1) : LvW s w w' i (done ++ [x]) q gi ci (.slice (some ⟨g, 0, none⟩) ((outs s done).length + 1) cap) := by
  have hgi : gi < wr.heap.size := (h.inn.lt gi rfl).2
  have hb : Below w.heap.size w (wr.alloc o) := h.bel.alloc h.bel.size o
  exact {
    inn := (h.inn.alloc o).kept h2 (.inr (fun e => h.ap e.symm))
    out := by rw [outs_leaf ho, ivs_append, List.length_append]; exact h1
    ap := by
      intro e
      have e' : g = gi := by simpa [Value.ownBlock] using e
      rcases h3 with h3 | h3
      · exact h.ap (by rw [h3, e'])
      · omega
    bel := hb.grown h2 hb.size (fun k hk => (h.out.lt k hk).1) }
/-- A place more to go to. -/
theorem LvW.push {s : List Nd} {w wr w' : World} {i t : Nat} {done q : List Nat} {gi ci g cap : Nat} {vout : Value} {o : Obj} (h : LvW s w wr i done q gi ci vout)
    (h1 : w'.ownsRow w.heap.size 3 1 (.slice (some ⟨g, 0, none⟩) (q.length + 1) cap) (q.length + 1) (ivs q ++ [.int .i64 (t : Int)]))
    (h2 : (wr.alloc o).grownBy w' (some gi)) (h3 : some gi = some g ∨ g = wr.heap.size + 1) : LvW s w w' i done (q ++ [t]) g cap vout := by
  have hb : Below w.heap.size w (wr.alloc o) := h.bel.alloc h.bel.size o
  exact {
    inn := by rw [ivs_append, List.length_append]; exact h1
    out := (h.out.alloc o).kept h2 (.inr h.ap)
    ap := by
      intro e
      rcases h3 with h3 | h3
      · exact h.ap (by rw [e, h3])
      · have := (h.out.lt g e).2; omega
    bel := hb.grown h2 hb.size (fun k hk => by have := (h.inn.lt k hk).1; exact this) }
theorem LvW.beside {s : List Nd} {w wr w' : World} {i : Nat} {done q : List Nat} {gi ci gn : Nat} {vout : Value} {A : Array Value} {T : TypeId} {o : Obj} (h : LvW s w wr i done q gi ci vout) (hT : T ≠ 3)
    (hg : wr.heap[gn]? = some (.cells A T (0, 0))) (h2 : (wr.alloc o).grownBy w' (some gi)) : w'.heap[gn]? = some (.cells A T (0, 0)) := by
  have hlt : gn < wr.heap.size := by
    rcases Nat.lt_or_ge gn wr.heap.size with h' | h'
    · exact h'
    · rw [Array.getElem?_eq_none h'] at hg; cases hg
  have hne : gn ≠ gi := by
    rintro rfl
    rcases h.inn.2 with ⟨h', _⟩ | ⟨g, cap, cur, hv, _, hg', _⟩
    · cases h'
    · obtain rfl : g = gn := by injection hv with h1 _ _; injection h1 with h1; injection h1 with h1 _ _; exact h1.symm
      rw [hg] at hg'
      injection hg' with hg'
      injection hg' with _ e _
      exact hT e
  have h3 := h2.block gn (by simp; omega) (fun e => hne (by injection e))
  rw [h3, Below.heap_alloc wr o _ hlt, hg]
theorem block_below {w w' : World} {k : Nat} {o : Obj} (h : w.heap[k]? = some o) (hb : Below w.heap.size w w') : w'.heap[k]? = some o := by
  have hlt : k < w.heap.size := by
    rcases Nat.lt_or_ge k w.heap.size with h' | h'
    · exact h'
    · rw [Array.getElem?_eq_none h'] at h; cases h
  exact (hb.block _ hlt).trans h
theorem mem_take_succ {q : List Nat} {p t : Nat} (hp : p < q.length) : t ∈ q.take (p + 1) ↔ t ∈ q.take p ∨ q.getD p 0 = t := by
  rw [List.take_add_one, List.mem_append, List.getElem?_eq_getElem hp]
  simp [hp, eq_comm]
/-- A value that says whether P. -/
def SaysP (P : Prop) (v : Value) : Prop := ∃ q : Bool, v = .bool q ∧ (q = true ↔ P)
/-- What it answers. -/
def RetL (s : List Nd) (i : Nat) (w : World) (e : Ending) (w' : World) : Prop :=
  ∃ (v : Value) (l : List Nat) (bk : Bool), e = .returned (.tuple #[v, .bool bk]) ∧ w'.ownsRow w.heap.size 3 1 v l.length (ivs l) ∧ Below w.heap.size w w' ∧ l.length ≤ s.length ∧ (∀ j, j ∈ l ↔ Leaf s i j) ∧ (bk = true ↔ Back s i)

set_option maxHeartbeats 4000000 in
set_option maxRecDepth 100000 in
theorem leaves_any (s : List Nd) (a : Option Addr) (c i : Nat) (w : World) (hs : Sch w a s) (hw : Within s) (hi : i < s.length) (hn : s.length ≤ 40) :
    Calls Tryz.prog 37 #[.slice a s.length c, .int .i64 i] w fun e w' => RetL s i w e w' := by
  have HS : Hid (Sch w a s) := hs
  have HW : Hid (Within s) := hw
  clear hs hw
  obtain ⟨i0, hi0, hz0, hz1, hz2⟩ := info_parts Tryz.infoInt
  go_enter Tryz.func37, Tryz.ntmps37
  go_wp2
  go_loopw [6, 7, 8, 9] (fun vin vbk vout vi wr => ∃ done q gi ci bk, vin = .slice (some ⟨gi, 0, none⟩) q.length ci ∧ vbk = .bool bk ∧ vi = .int .i64 (done.length : Nat) ∧ Lv s i done q bk ∧ LvW s w wr i done q gi ci vout)
    (fun _ _ _ vi _ => s.length - (intOf vi).toNat)
  case atStart =>
    exact ⟨[], [i], w.heap.size, 1, false, rfl, rfl, rfl, Lv.start s i, ⟨⟨rfl, .inr ⟨w.heap.size, 1, _, rfl, Nat.le_refl _, heap_alloc_new w _, Nat.le_refl _, by decide, rfl, rfl⟩⟩, World.ownsRow_nil _ _ _ _, by simp [Value.ownBlock], (Below.refl _ _).alloc (Nat.le_refl _) _⟩⟩
  case round =>
    obtain ⟨done, q, gi, ci, bk, rfl, rfl, rfl, hL, hM⟩ := hrel
    have hlen := hL.len HW.out hi
    have HL : Hid (Lv s i done q bk) := hL
    have HM : Hid (LvW s w wr i done q gi ci u8) := hM
    by_cases hlt : done.length < q.length
    · obtain ⟨x, r, hq⟩ := hL.at hlt
      have HQ : Hid (q = done ++ x :: r) := hq
      have hx : q.getD done.length 0 = x := by simp [hq]
      have cin := own_cell hM.inn hlt
      rw [hx] at cin
      have hxs : x < s.length := (hL.rch x (by simp [hq])).lt HW.out hi
      obtain ⟨b, o, ka, kc, rfl, nc, kl, km, ks⟩ := HS.out x hxs
      obtain ⟨n1, n2, n3, n4⟩ := nc.below hM.bel
      have KS : Hid (KidsIn w ka (nd s x).kids) := ks
      have hlt' : (done.length : Int) < q.length := by omega
      have hxs' : (x : Int) < s.length := by omega
      clear hL hM hq hx ks nc
      by_cases ho : (nd s x).opn
      · go_wp2_with fail
        refine (open_yes _ ka kc _ ho).mono ?_
        rintro e w2 ⟨rfl, hb2⟩
        have HM2 : Hid (LvW s w w2 i done q gi ci u8) := HM.out.below (below_alloc hb2)
        have HG2 : Hid (w2.heap[wr.heap.size]? = some (.cells #[.int .i64 (nd s x).kind, .int .i64 (nd s x).tag, .int .i64 (nd s x).mode, .slice ka (nd s x).kids.length kc] 58 (0, 0))) := block_below (heap_alloc_new wr _) hb2
        have HLM : Hid (LvM s i done x 0 q bk) := HL.out.mid HQ.out
        obtain ⟨gn, hgn⟩ : ∃ gn, gn = wr.heap.size := ⟨_, rfl⟩
        rw [← hgn] at HG2
        clear hb2 cin n1 n2 n3 n4
        go_wp2
        rw [← hgn]
        clear hgn
        go_loopw [6, 7, 11] (fun vin vbk vj wx => ∃ q' gi' ci' bk' j, vin = .slice (some ⟨gi', 0, none⟩) q'.length ci' ∧ vbk = .bool bk' ∧ vj = .int .i64 (j : Nat) ∧ j ≤ (nd s x).kids.length ∧ LvM s i done x j q' bk' ∧ LvW s w wx i done q' gi' ci' u8 ∧
            Hid (wx.heap[gn]? = some (.cells #[.int .i64 (nd s x).kind, .int .i64 (nd s x).tag, .int .i64 (nd s x).mode, .slice ka (nd s x).kids.length kc] 58 (0, 0))))
          (fun _ _ vj _ => (nd s x).kids.length - (intOf vj).toNat)
        case atStart => exact ⟨q, gi, ci, bk, 0, rfl, rfl, rfl, Nat.zero_le _, HLM.out, HM2.out, HG2⟩
        case round =>
          clear HLM HM2 HG2
          obtain ⟨q', gi', ci', bk', j, rfl, rfl, rfl, hj, hLM, hM2, HG⟩ := hrel
          have hlen' := hLM.len HW.out hi
          have g3 : wr.cell? ⟨gn, 3, none⟩ = some (.slice ka (nd s x).kids.length kc) := by simp [World.cell?, HG.out]
          have HLM : Hid (LvM s i done x j q' bk') := hLM
          have HM2 : Hid (LvW s w wr i done q' gi' ci' u8) := hM2
          have hkm : (nd s x).kids.length ≤ 9223372036854775807 := by unfold maxLen at km; omega
          by_cases hjl : j < (nd s x).kids.length
          · obtain ⟨kb, ko, rfl, kcl⟩ := KS.out j hjl
            have hkr := HW.out x hxs ((nd s x).kids.getD j kd0) (by rw [List.getD_eq_getElem?_getD, List.getElem?_eq_getElem hjl]; exact List.getElem_mem hjl)
            obtain ⟨t, ht⟩ : ∃ t : Nat, ((nd s x).kids.getD j kd0).node = t := ⟨_, (Int.toNat_of_nonneg hkr.1).symm⟩
            have kn := (kcl.below hM2.bel).node
            rw [ht] at kn hkr
            have HT : Hid (((nd s x).kids.getD j kd0).node = t) := ht
            have htl : t < s.length := by omega
            have hjl' : (j : Int) < (nd s x).kids.length := by omega
            clear hLM hM2 kcl ht hkr
            obtain ⟨bk2, hbk2⟩ : ∃ b2, b2 = (bk' || decide ((t : Int) = i)) := ⟨_, rfl⟩
            have HBK : Hid (bk2 = (bk' || decide ((t : Int) = i))) := hbk2
            have hcs : (bk' = true ∧ bk2 = true) ∨ (bk' = false ∧ ((t : Int) == i) = bk2) := by
              cases bk'
              · right; exact ⟨rfl, by rw [hbk2, Bool.false_or, Bool.eq_iff_iff]; simp⟩
              · left; exact ⟨rfl, by rw [hbk2]; simp⟩
            clear hbk2
            rcases hcs with ⟨rfl, rfl⟩ | ⟨rfl, hti⟩
            · go_wp2
              go_loop [13, 14] (fun f m => ∃ p : Nat, p ≤ q'.length ∧ m = .int .i64 p ∧ SaysP (t ∉ q'.take p) f) (fun _ m => q'.length - (intOf m).toNat)
              case atStart => exact ⟨0, Nat.zero_le _, rfl, true, rfl, by simp⟩
              case round =>
                obtain ⟨p, hp, rfl, fb, rfl, hf⟩ := hrel
                have HP : Hid (fb = true ↔ t ∉ q'.take p) := hf
                clear hf
                by_cases hpl : p < q'.length
                · have cp := own_cell HM2.out.inn hpl
                  have hpl' : (p : Int) < q'.length := by omega
                  cases fb
                  · go_wp2
                    go_round
                    case rel => exact ⟨p + 1, by omega, by go_num, false, rfl, by
                      have h := HP.out
                      rw [mem_take_succ hpl]
                      refine ⟨fun h => (by cases h), fun h' => ?_⟩
                      exact h.2 (fun q => h' (.inl q))⟩
                    case measure => simp [intOf]; omega
                  · by_cases hqt : q'.getD p 0 = t
                    · have HQT : Hid (q'.getD p 0 = t) := hqt
                      rw [hqt] at cp
                      clear hqt
                      go_wp2
                      go_round
                      case rel => exact ⟨p + 1, by omega, by go_num, false, rfl, by
                        rw [mem_take_succ hpl]
                        exact ⟨fun h => (by cases h), fun h' => absurd (.inr HQT.out) h'⟩⟩
                      case measure => simp [intOf]; omega
                    · have HQT : Hid (¬ q'.getD p 0 = t) := hqt
                      generalize q'.getD p 0 = y at cp hqt
                      have e1 : ((y : Int) != (t : Int)) = true := by rw [bne_iff_ne]; omega
                      clear hqt
                      go_wp2
                      go_round
                      case rel => exact ⟨p + 1, by omega, by go_num, true, rfl, by
                        rw [mem_take_succ hpl]
                        exact ⟨fun _ h => h.elim (HP.out.1 rfl) HQT.out, fun _ => rfl⟩⟩
                      case measure => simp [intOf]; omega
                · have hpl' : (q'.length : Int) ≤ p := by omega
                  obtain rfl : p = q'.length := by omega
                  rw [List.take_length] at HP
                  cases fb
                  · have hm : t ∈ q' := Classical.byContradiction fun h => by have := HP.out.2 h; cases this
                    have HLM' : Hid (LvM s i done x (j + 1) q' true) := HBK.out ▸ HLM.out.step_old HT.out hm
                    clear hm
                    go_wp2
                    go_roundw
                    case rel => exact ⟨q', gi', ci', true, j + 1, rfl, rfl, by go_num, by omega, HLM'.out, HM2.out, HG⟩
                    case measure => simp [intOf]; omega
                  · have hm : t ∉ q' := HP.out.1 rfl
                    have HLM' : Hid (LvM s i done x (j + 1) (q' ++ [t]) true) := HBK.out ▸ HLM.out.step_new HT.out hjl ho hm
                    have hsz : w.heap.size ≤ wr.heap.size + 1 := by have := HM2.out.bel.size; omega
                    clear hm
                    go_wp2_with (at_builtin; refine wpList_append_lies _ rfl (.tmp 75) (.tmp 77) 32 rfl w.heap.size 3 i0 (.int .i64 0) 1 8 Tryz.underlying32 hi0 hz0 hz1 hz2 rfl (by decide) (.slice (some ⟨gi', 0, none⟩) q'.length ci') q'.length (ivs q') rfl (HM2.out.inn.alloc _) ⟨wr.heap.size, 0, none⟩ 1 1 [.int .i64 (t : Int)] rfl rfl (cell_one_new _ _ _) (by intro u hu; simp at hu; subst hu; rfl) (by decide) (by unfold maxLen; omega) (by omega) (by simpa using hsz) (wr.heap.size + 1) (by simp) ?_)
                    intro g cap w3 h1 h2 h3 h4
                    have HM3 : Hid (LvW s w w3 i done (q' ++ [t]) g cap u8) := HM2.out.push h1 h2 h3
                    have HG3 : Hid (w3.heap[gn]? = some (.cells #[.int .i64 (nd s x).kind, .int .i64 (nd s x).tag, .int .i64 (nd s x).mode, .slice (some ⟨kb, ko, none⟩) (nd s x).kids.length kc] 58 (0, 0))) := HM2.out.beside (by decide) HG.out h2
                    clear h1 h2 h3 h4
                    go_wp2
                    go_roundw
                    case rel => exact ⟨q' ++ [t], g, cap, true, j + 1, by simp, rfl, by go_num, by omega, HLM'.out, HM3.out, HG3⟩
                    case measure => simp [intOf]; omega
            · go_wp2
              go_loop [13, 14] (fun f m => ∃ p : Nat, p ≤ q'.length ∧ m = .int .i64 p ∧ SaysP (t ∉ q'.take p) f) (fun _ m => q'.length - (intOf m).toNat)
              case atStart => exact ⟨0, Nat.zero_le _, rfl, true, rfl, by simp⟩
              case round =>
                obtain ⟨p, hp, rfl, fb, rfl, hf⟩ := hrel
                have HP : Hid (fb = true ↔ t ∉ q'.take p) := hf
                clear hf
                by_cases hpl : p < q'.length
                · have cp := own_cell HM2.out.inn hpl
                  have hpl' : (p : Int) < q'.length := by omega
                  cases fb
                  · go_wp2
                    go_round
                    case rel => exact ⟨p + 1, by omega, by go_num, false, rfl, by
                      have h := HP.out
                      rw [mem_take_succ hpl]
                      refine ⟨fun h => (by cases h), fun h' => ?_⟩
                      exact h.2 (fun q => h' (.inl q))⟩
                    case measure => simp [intOf]; omega
                  · by_cases hqt : q'.getD p 0 = t
                    · have HQT : Hid (q'.getD p 0 = t) := hqt
                      rw [hqt] at cp
                      clear hqt
                      go_wp2
                      go_round
                      case rel => exact ⟨p + 1, by omega, by go_num, false, rfl, by
                        rw [mem_take_succ hpl]
                        exact ⟨fun h => (by cases h), fun h' => absurd (.inr HQT.out) h'⟩⟩
                      case measure => simp [intOf]; omega
                    · have HQT : Hid (¬ q'.getD p 0 = t) := hqt
                      generalize q'.getD p 0 = y at cp hqt
                      have e1 : ((y : Int) != (t : Int)) = true := by rw [bne_iff_ne]; omega
                      clear hqt
                      go_wp2
                      go_round
                      case rel => exact ⟨p + 1, by omega, by go_num, true, rfl, by
                        rw [mem_take_succ hpl]
                        exact ⟨fun _ h => h.elim (HP.out.1 rfl) HQT.out, fun _ => rfl⟩⟩
                      case measure => simp [intOf]; omega
                · have hpl' : (q'.length : Int) ≤ p := by omega
                  obtain rfl : p = q'.length := by omega
                  rw [List.take_length] at HP
                  cases fb
                  · have hm : t ∈ q' := Classical.byContradiction fun h => by have := HP.out.2 h; cases this
                    have HLM' : Hid (LvM s i done x (j + 1) q' bk2) := HBK.out ▸ HLM.out.step_old HT.out hm
                    clear hm
                    go_wp2
                    go_roundw
                    case rel => exact ⟨q', gi', ci', bk2, j + 1, rfl, rfl, by go_num, by omega, HLM'.out, HM2.out, HG⟩
                    case measure => simp [intOf]; omega
                  · have hm : t ∉ q' := HP.out.1 rfl
                    have HLM' : Hid (LvM s i done x (j + 1) (q' ++ [t]) bk2) := HBK.out ▸ HLM.out.step_new HT.out hjl ho hm
                    have hsz : w.heap.size ≤ wr.heap.size + 1 := by have := HM2.out.bel.size; omega
                    clear hm
                    go_wp2_with (at_builtin; refine wpList_append_lies _ rfl (.tmp 75) (.tmp 77) 32 rfl w.heap.size 3 i0 (.int .i64 0) 1 8 Tryz.underlying32 hi0 hz0 hz1 hz2 rfl (by decide) (.slice (some ⟨gi', 0, none⟩) q'.length ci') q'.length (ivs q') rfl (HM2.out.inn.alloc _) ⟨wr.heap.size, 0, none⟩ 1 1 [.int .i64 (t : Int)] rfl rfl (cell_one_new _ _ _) (by intro u hu; simp at hu; subst hu; rfl) (by decide) (by unfold maxLen; omega) (by omega) (by simpa using hsz) (wr.heap.size + 1) (by simp) ?_)
                    intro g cap w3 h1 h2 h3 h4
                    have HM3 : Hid (LvW s w w3 i done (q' ++ [t]) g cap u8) := HM2.out.push h1 h2 h3
                    have HG3 : Hid (w3.heap[gn]? = some (.cells #[.int .i64 (nd s x).kind, .int .i64 (nd s x).tag, .int .i64 (nd s x).mode, .slice (some ⟨kb, ko, none⟩) (nd s x).kids.length kc] 58 (0, 0))) := HM2.out.beside (by decide) HG.out h2
                    clear h1 h2 h3 h4
                    go_wp2
                    go_roundw
                    case rel => exact ⟨q' ++ [t], g, cap, bk2, j + 1, by simp, rfl, by go_num, by omega, HLM'.out, HM3.out, HG3⟩
                    case measure => simp [intOf]; omega
          · have hjl' : ((nd s x).kids.length : Int) ≤ j := by omega
            obtain rfl : j = (nd s x).kids.length := by omega
            have HL' : Hid (Lv s i (done ++ [x]) q' bk') := hLM.finish ho
            have HM' : Hid (LvW s w wr i (done ++ [x]) q' gi' ci' u8) := ⟨hM2.inn, by rw [outs_open ho]; exact hM2.out, hM2.ap, hM2.bel⟩
            clear hLM hM2
            go_wp2
            go_roundw
            case rel => exact ⟨done ++ [x], q', gi', ci', bk', rfl, rfl, by simp, HL'.out, HM'.out⟩
            case measure => simp [intOf]; omega
      · go_wp2_with fail
        refine (open_no _ ka kc _ ho).mono ?_
        rintro e w2 ⟨rfl, hb2⟩
        have HM2 : Hid (LvW s w w2 i done q gi ci u8) := HM.out.below (below_alloc hb2)
        have cin2 : w2.cell? ⟨gi, done.length, none⟩ = some (.int .i64 (x : Int)) := ((below_alloc hb2).cell (lt_of_cell cin)).trans cin
        have hol : (outs s done).length ≤ 40 := by have := outs_le s done; omega
        have hsz : w.heap.size ≤ w2.heap.size + 1 := by have := HM2.out.bel.size; omega
        clear hb2 cin n1 n2 n3 n4
        go_wp2_with (at_builtin; refine wpList_append_lies _ rfl (.tmp 33) (.tmp 38) 32 rfl w.heap.size 3 i0 (.int .i64 0) 1 8 Tryz.underlying32 hi0 hz0 hz1 hz2 rfl (by decide) u8 (outs s done).length (ivs (outs s done)) rfl (HM2.out.out.alloc _) ⟨w2.heap.size, 0, none⟩ 1 1 [.int .i64 (x : Int)] rfl rfl (cell_one_new _ _ _) (by intro u hu; simp at hu; subst hu; rfl) (by decide) (by unfold maxLen; omega) (by omega) (by simpa using hsz) (w2.heap.size + 1) (by simp) ?_)
        intro g cap w3 h1 h2 h3 h4
        have HM3 : Hid (LvW s w w3 i (done ++ [x]) q gi ci (.slice (some ⟨g, 0, none⟩) ((outs s done).length + 1) cap)) := HM2.out.put ho h1 h2 h3
        clear h1 h2 h3 h4
        go_wp2
        go_roundw
        case rel => exact ⟨done ++ [x], q, gi, ci, bk, rfl, rfl, by simp, HL.out.leaf HQ.out ho, HM3.out⟩
        case measure => simp [intOf]; omega
    · obtain rfl : done = q := hL.done_eq (by omega)
      have hlt' : (done.length : Int) ≤ done.length := Int.le_refl _
      clear hL hM
      go_wp2
      go_ret2
      exact ⟨u8, outs s done, bk, rfl, HM.out.out, HM.out.bel, Nat.le_trans (outs_le s done) hlen, HL.out.leaves, HL.out.backs⟩
end Go.Proofs.YtkkicodfpekbgaaGreatDoor

/-! schemas.ownTag, outerTag: what they answer, where the table of own numbers lies. -/
namespace Go.Proofs.YtkkicodfpekbgaaGreatDoor
set_option linter.unusedSimpArgs false
set_option linter.unusedVariables false
open Go.RowKit

/-- The table of the kinds' own numbers lies. -/
def Nums (w : World) : Prop := ∀ j : Nat, j ≤ 12 → w.cell? ⟨16, j, none⟩ = some (.int .i64 (own j))
theorem Nums.below {w w' : World} (h : Nums w) (hb : Below w.heap.size w w') : Nums w' := fun j hj => (hb.cell (lt_of_cell (h j hj))).trans (h j hj)

set_option maxHeartbeats 1000000 in
set_option maxRecDepth 100000 in
theorem ownTag_any (k : Int) (h : 0 ≤ k) (h' : k ≤ 12) (w : World) (hn : Nums w) :
    Calls Tryz.prog 179 #[.int .i64 k] w fun e w' => e = .returned (.agg #[.int .i64 0, .int .i64 (own k)]) ∧ Below w.heap.size w w' := by
  obtain ⟨n, rfl⟩ : ∃ n : Nat, k = n := ⟨k.toNat, by omega⟩
  have c := hn n (by omega)
  have hl := lt_of_cell c
  simp only at hl
  clear hn
  have h13 : (n : Int) < 13 := by omega
  go_enter Tryz.func179, Tryz.ntmps179
  go_wp2
  refine bodyPost_ret (v := .agg #[.int .i64 0, .int .i64 (own n)]) (by simp [results, Tryz.results179, go_sem]) rfl ⟨rfl, ?_⟩
  exact (Below.refl _ _).alloc (Nat.le_refl _) _

set_option maxHeartbeats 1000000 in
set_option maxRecDepth 100000 in
theorem outerTag_any (n : Nd) (ka : Option Addr) (kc : Nat) (w : World) (hn : Nums w) (ht : -1 ≤ n.tag) (hk : 0 ≤ n.kind) (hk' : n.tag < 0 → n.kind ≤ 12) :
    Calls Tryz.prog 140 #[.agg #[.int .i64 n.kind, .int .i64 n.tag, .int .i64 n.mode, .slice ka n.kids.length kc]] w fun e w' => e = .returned (.agg #[.int .i64 n.outer.1, .int .i64 n.outer.2]) ∧ Below w.heap.size w w' := by
  by_cases h : 0 ≤ n.tag
  · have e : n.outer = (2, n.tag) := by unfold Nd.outer; rw [if_pos h]
    have h1 : (n.tag != -1) = true := by rw [bne_iff_ne]; omega
    rw [e]
    clear e hk' hn
    go_enter Tryz.func140, Tryz.ntmps140
    go_wp2
    refine bodyPost_ret (v := .agg #[.int .i64 2, .int .i64 n.tag]) (by simp [results, Tryz.results140, go_sem]) rfl ⟨rfl, ?_⟩
    exact ((Below.refl _ _).alloc (Nat.le_refl _) _).alloc (by simp) _
  · have e : n.outer = (0, own n.kind) := by unfold Nd.outer; rw [if_neg h]
    have h1 : (n.tag != -1) = false := by rw [bne_eq_false_iff_eq]; omega
    have HC : Hid (∀ w, Nums w → Calls Tryz.prog 179 #[.int .i64 n.kind] w fun e w' => e = .returned (.agg #[.int .i64 0, .int .i64 (own n.kind)]) ∧ Below w.heap.size w w') := fun w q => ownTag_any n.kind hk (hk' (by omega)) w q
    have HN : Hid (∀ o1 o2, Nums ((w.alloc o1).alloc o2)) := fun o1 o2 => hn.below (((Below.refl _ _).alloc (Nat.le_refl _) _).alloc (by simp) _)
    rw [e]
    clear e hk' hn
    go_enter Tryz.func140, Tryz.ntmps140
    go_wp2_with fail
    refine (HC.out _ (HN.out _ _)).mono ?_
    rintro e w1 ⟨rfl, hb⟩
    have HB : Hid (Below w.heap.size w w1) := below_alloc (below_alloc hb)
    have hG : w1.heap[w.heap.size + 1]? = some (.cells #[.int .i64 0, .int .i64 0] 147 (0, 0)) := block_below (by simpa using heap_alloc_new (w.alloc _) _) hb
    have q0 : w1.cell? ⟨w.heap.size + 1, 0, none⟩ = some (.int .i64 0) := by simp [World.cell?, hG]
    have q1 : w1.cell? ⟨w.heap.size + 1, 1, none⟩ = some (.int .i64 0) := by simp [World.cell?, hG]
    have f0 : w1.frozen? ⟨w.heap.size + 1, 0, none⟩ = false := by simp [World.frozen?, hG]
    have f1 : w1.frozen? ⟨w.heap.size + 1, 1, none⟩ = false := by simp [World.frozen?, hG]
    clear hb hG
    go_wp2
    refine bodyPost_ret (v := .agg #[.int .i64 0, .int .i64 (own n.kind)]) (by simp [results, Tryz.results140, go_sem, q0, q1]) rfl ⟨rfl, ?_⟩
    exact (HB.out.setCell (p := ⟨w.heap.size + 1, 0, none⟩) (by simp) _).setCell (p := ⟨w.heap.size + 1, 1, none⟩) (by simp) _
end Go.Proofs.YtkkicodfpekbgaaGreatDoor
