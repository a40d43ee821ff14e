/-
  Contents: Int, Oid, Bits: what the program's and the document's functions answer.
-/
import Derived.Test.YtjceeljaljdmoaaGreatDoorCm
import Derived.Test.YtjceeljaljdmoaaGreatDoorRows
import Derived.WalkKit
import Derived.WalkSpells
import Derived.WalkLawsBesides
import Derived.BigQuiet
import Derived.Deep.QuietTactic
namespace Go.Proofs.YtjceeljaljdmoaaGreatDoor
open Go.RowKit

/-- A bool that says whether P, the world but for draws as it was. -/
def RetB (P : Prop) (w : World) (e : Ending) (w' : World) : Prop := ∃ r, e = .returned (.bool r) ∧ (r = true ↔ P) ∧ ∃ k, w' = w.drewN k
theorem ret_no {P : Prop} {w w' : World} (h : ¬ P) (hw : ∃ k, w' = w.drewN k) : RetB P w (.returned (.bool false)) w' := ⟨false, rfl, ⟨fun e => (by cases e), fun p => absurd p h⟩, hw⟩
theorem ret_yes {P : Prop} {w w' : World} (h : P) (hw : ∃ k, w' = w.drewN k) : RetB P w (.returned (.bool true)) w' := ⟨true, rfl, ⟨fun _ => h, fun _ => rfl⟩, hw⟩
theorem ret_iff {P : Prop} {w w' : World} {r : Bool} (h : r = true ↔ P) (hw : ∃ k, w' = w.drewN k) : RetB P w (.returned (.bool r)) w' := ⟨r, rfl, h, hw⟩
/-- A bool that says whether P. -/
def SaysB (P : Prop) (v : Value) : Prop := ∃ q : Bool, v = .bool q ∧ (q = true ↔ P)
theorem drew0 (w : World) : ∃ k, w = w.drewN k := ⟨0, rfl⟩

set_option maxHeartbeats 1000000 in
set_option maxRecDepth 100000 in
theorem fitsInt_any (t : ByteArray) (w : World) (hm : t.size ≤ 9223372036854775807) :
    Calls Tryz.prog 133 #[.string t] w fun e w' => RetB (IntOk t) w e w' := by
  by_cases h1 : t.size < 1
  · clear hm
    go_enter Tryz.func133, Tryz.ntmps133
    go_wp2
    go_ret
    exact ret_no (fun h : IntOk t => by have := h.1; omega) (drew0 w)
  by_cases h2 : 20 < t.size
  · have h2' : (20 : Int) < t.size := by omega
    go_enter Tryz.func133, Tryz.ntmps133
    go_wp2
    go_ret
    exact ret_no (fun h : IntOk t => by have := h.2.1; omega) (drew0 w)
  by_cases h3 : t.size = 1
  · have h3' : ((t.size : Int) == 1) = true := by rw [h3]; rfl
    have HI : Hid (IntOk t) := ⟨by omega, by omega, by omega⟩
    clear h3
    go_enter Tryz.func133, Tryz.ntmps133
    go_wp2
    go_ret
    exact ret_yes HI.out (drew0 w)
  have h3' : ((t.size : Int) == 1) = false := by rw [beq_eq_false_iff_ne]; omega
  have h4 : (0 : Int) < t.size := by omega
  have h5 : (1 : Int) < t.size := by omega
  have h6 : 0 < t.size := by omega
  have h7 : 1 < t.size := by omega
  have e0 := b8_get t 0 h6
  have e1 := b8_get t 1 h7
  have b0 := b8_bd t 0
  have b1 := b8_bd t 1
  have x0 : (t[0].toNat : Int) < 256 := by omega
  have x1 : (t[1].toNat : Int) < 256 := by omega
  have HE : Hid (bits .or .i64 ((t[0].toNat : Int) * 2) ((t[1].toNat : Int) / 128) = b8 t 0 * 2 + b8 t 1 / 128) := by
    show _ = _
    rw [e0, e1, i64_or1 _ _ (by omega) (by omega) (by omega) (by omega) (by omega)]
  have HI : Hid (IntOk t ↔ b8 t 0 * 2 + b8 t 1 / 128 ≠ 0 ∧ b8 t 0 * 2 + b8 t 1 / 128 ≠ 511) := ⟨fun h => h.2.2 (by omega), fun h => ⟨by omega, by omega, fun _ => h⟩⟩
  clear e0 e1
  go_enter Tryz.func133, Tryz.ntmps133
  go_wp2
  go_quiet (fail)
  rw [HE.out]
  generalize b8 t 0 * 2 + b8 t 1 / 128 = x at HI
  by_cases h8 : x = 0
  · have h8' : (x != 0) = false := by rw [bne_eq_false_iff_eq]; exact h8
    have HN : Hid (¬ IntOk t) := fun h => (HI.out.1 h).1 h8
    clear h8
    go_wp2
    go_ret
    exact ret_no HN.out ⟨_, rfl⟩
  have h8' : (x != 0) = true := by rw [bne_iff_ne]; exact h8
  by_cases h9 : x = 511
  · have h9' : (x != 511) = false := by rw [bne_eq_false_iff_eq]; exact h9
    have HN : Hid (¬ IntOk t) := fun h => (HI.out.1 h).2 h9
    clear h9 h8
    go_wp2
    go_ret
    exact ret_no HN.out ⟨_, rfl⟩
  · have h9' : (x != 511) = true := by rw [bne_iff_ne]; exact h9
    have HN : Hid (IntOk t) := HI.out.2 ⟨h8, h9⟩
    clear h9 h8
    go_wp2
    go_ret
    exact ret_yes HN.out ⟨_, rfl⟩

set_option maxHeartbeats 1000000 in
set_option maxRecDepth 100000 in
theorem isInt_any (t : ByteArray) (w : World) (hm : t.size ≤ 9223372036854775807) :
    Calls Tryz.prog 108 #[.string t] w fun e w' => RetB (IntOk t) w e w' := by
  by_cases h1 : t.size < 1
  · have h1' : ((t.size : Int) == 0) = true := by rw [beq_iff_eq]; omega
    go_enter Tryz.func108, Tryz.ntmps108
    go_wp2
    go_ret
    exact ret_no (fun h : IntOk t => by have := h.1; omega) (drew0 w)
  have h1' : ((t.size : Int) == 0) = false := by rw [beq_eq_false_iff_ne]; omega
  by_cases h2 : 20 < t.size
  · have h2' : (20 : Int) < t.size := by omega
    go_enter Tryz.func108, Tryz.ntmps108
    go_wp2
    go_ret
    exact ret_no (fun h : IntOk t => by have := h.2.1; omega) (drew0 w)
  by_cases h3 : t.size = 1
  · have h3' : ((t.size : Int) == 1) = true := by rw [h3]; rfl
    have HI : Hid (IntOk t) := ⟨by omega, by omega, by omega⟩
    clear h3
    go_enter Tryz.func108, Tryz.ntmps108
    go_wp2
    go_ret
    exact ret_yes HI.out (drew0 w)
  have h3' : ((t.size : Int) == 1) = false := by rw [beq_eq_false_iff_ne]; omega
  have h4 : (0 : Int) < t.size := by omega
  have h5 : (1 : Int) < t.size := by omega
  have h6 : 0 < t.size := by omega
  have h7 : 1 < t.size := by omega
  have e0 := b8_get t 0 h6
  have e1 := b8_get t 1 h7
  have b0 := b8_bd t 0
  have b1 := b8_bd t 1
  have x0 : (t[0].toNat : Int) < 256 := by omega
  have x1 : (t[1].toNat : Int) < 256 := by omega
  have HE : Hid ((2 : Int) * (t[0].toNat : Int) + (t[1].toNat : Int) / 128 = b8 t 0 * 2 + b8 t 1 / 128) := by
    show _ = _
    rw [e0, e1]; omega
  have HI : Hid (IntOk t ↔ b8 t 0 * 2 + b8 t 1 / 128 ≠ 0 ∧ b8 t 0 * 2 + b8 t 1 / 128 ≠ 511) := ⟨fun h => h.2.2 (by omega), fun h => ⟨by omega, by omega, fun _ => h⟩⟩
  clear e0 e1
  go_enter Tryz.func108, Tryz.ntmps108
  go_wp2
  go_quiet (fail)
  rw [HE.out]
  generalize b8 t 0 * 2 + b8 t 1 / 128 = x at HI
  by_cases h8 : x = 0
  · have h8' : (x != 0) = false := by rw [bne_eq_false_iff_eq]; exact h8
    have HN : Hid (¬ IntOk t) := fun h => (HI.out.1 h).1 h8
    clear h8
    go_wp2
    go_ret
    exact ret_no HN.out ⟨_, rfl⟩
  have h8' : (x != 0) = true := by rw [bne_iff_ne]; exact h8
  by_cases h9 : x = 511
  · have h9' : (x != 511) = false := by rw [bne_eq_false_iff_eq]; exact h9
    have HN : Hid (¬ IntOk t) := fun h => (HI.out.1 h).2 h9
    clear h9 h8
    go_wp2
    go_ret
    exact ret_no HN.out ⟨_, rfl⟩
  · have h9' : (x != 511) = true := by rw [bne_iff_ne]; exact h9
    have HN : Hid (IntOk t) := HI.out.2 ⟨h8, h9⟩
    clear h9 h8
    go_wp2
    go_ret
    exact ret_yes HN.out ⟨_, rfl⟩

set_option maxHeartbeats 1000000 in
set_option maxRecDepth 100000 in
theorem fitsOid_any (t : ByteArray) (w : World) (hm : t.size ≤ 9223372036854775807) :
    Calls Tryz.prog 134 #[.string t] w fun e w' => RetB (OidOk t) w e w' := by
  by_cases h1 : t.size < 1
  · clear hm
    go_enter Tryz.func134, Tryz.ntmps134
    go_wp2
    go_ret
    exact ret_no (fun h : OidOk t => by have := h.1; omega) (drew0 w)
  by_cases h2 : 20 < t.size
  · have h2' : (20 : Int) < t.size := by omega
    go_enter Tryz.func134, Tryz.ntmps134
    go_wp2
    go_ret
    exact ret_no (fun h : OidOk t => by have := h.2.1; omega) (drew0 w)
  go_enter Tryz.func134, Tryz.ntmps134
  go_wp2
  go_loop [3, 15] (fun bt i => ∃ k : Nat, k ≤ t.size ∧ i = .int .i64 k ∧ oidTo t k ∧ SaysB (btw t k) bt) (fun _ i => t.size - (intOf i).toNat)
  case atStart => exact ⟨0, by omega, rfl, oidTo_zero t, true, rfl, ⟨fun _ => .inl rfl, fun _ => rfl⟩⟩
  case round =>
    obtain ⟨k, hk, rfl, ho, q, rfl, hq⟩ := hrel
    have HO : Hid (oidTo t k) := ho
    have HQ : Hid (q = true ↔ btw t k) := hq
    clear ho hq
    by_cases hlt : k < t.size
    · have HE : Hid ((t[k].toNat : Int) = b8 t k) := b8_get t k hlt
      by_cases hb : (t[k].toNat : Int) = 128
      · have hb' : ((t[k].toNat : Int) == 128) = true := beq_iff_eq.2 hb
        cases q
        · have HX : Hid (oidTo t (k + 1)) := (oidTo_succ t k).2 ⟨HO.out, fun h => by cases HQ.out.2 h.1⟩
          have HY : Hid (¬ btw t (k + 1)) := fun h => by
            rcases h with h | h
            · omega
            · rw [Nat.add_sub_cancel, ← HE.out] at h; omega
          have hd : decide ((t[k].toNat : Int) < 128) = false := decide_eq_false (by omega)
          clear hb
          go_wp2
          go_round
          case rel => exact ⟨k + 1, by omega, by go_num, HX.out, false, rfl, ⟨fun e => (by cases e), fun h => absurd h HY.out⟩⟩
          case measure => simp [intOf]; omega
        · have HN : Hid (¬ OidOk t) := oid_no t k hlt ⟨HQ.out.1 rfl, by rw [← HE.out]; exact hb⟩
          clear hb
          go_wp2
          go_ret
          exact ret_no HN.out (drew0 w)
      · have hb' : ((t[k].toNat : Int) == 128) = false := beq_eq_false_iff_ne.2 hb
        have HX : Hid (oidTo t (k + 1)) := (oidTo_succ t k).2 ⟨HO.out, fun h => hb (HE.out.trans h.2)⟩
        have HY : Hid (decide ((t[k].toNat : Int) < 128) = true ↔ btw t (k + 1)) := by
          show _ ↔ _
          rw [decide_eq_true_iff, HE.out]
          exact ⟨fun h => .inr (by rw [Nat.add_sub_cancel]; exact h), fun h => by rcases h with h | h; (· omega); (· rw [Nat.add_sub_cancel] at h; exact h)⟩
        clear hb
        cases q
        all_goals
          go_wp2
          go_round
          case rel => exact ⟨k + 1, by omega, by go_num, HX.out, _, rfl, HY.out⟩
          case measure => simp [intOf]; omega
    · have hkc : t.size = k := by omega
      have HF : Hid (q = true ↔ OidOk t) := ⟨fun h => ⟨by omega, by omega, by rw [hkc]; exact HO.out, by rw [hkc]; exact HQ.out.1 h⟩, fun h => HQ.out.2 (by rw [← hkc]; exact h.2.2.2)⟩
      clear hkc
      go_wp2
      go_ret
      exact ret_iff HF.out (drew0 w)

set_option maxHeartbeats 1000000 in
set_option maxRecDepth 100000 in
theorem isOid_any (t : ByteArray) (w : World) (hm : t.size ≤ 9223372036854775807) :
    Calls Tryz.prog 109 #[.string t] w fun e w' => RetB (OidOk t) w e w' := by
  by_cases h1 : t.size < 1
  · have h1' : ((t.size : Int) == 0) = true := by rw [beq_iff_eq]; omega
    go_enter Tryz.func109, Tryz.ntmps109
    go_wp2
    go_ret
    exact ret_no (fun h : OidOk t => by have := h.1; omega) (drew0 w)
  have h1' : ((t.size : Int) == 0) = false := by rw [beq_eq_false_iff_ne]; omega
  by_cases h2 : 20 < t.size
  · have h2' : (20 : Int) < t.size := by omega
    go_enter Tryz.func109, Tryz.ntmps109
    go_wp2
    go_ret
    exact ret_no (fun h : OidOk t => by have := h.2.1; omega) (drew0 w)
  have h3 : t.size - 1 < t.size := by omega
  have HL : Hid ((t[t.size - 1].toNat : Int) = b8 t (t.size - 1)) := b8_get t (t.size - 1) h3
  have h20 : (t.size : Int) ≤ 20 := by omega
  by_cases h4 : 127 < (t[t.size - 1].toNat : Int)
  · have HN : Hid (¬ OidOk t) := fun h => by
      rcases h.2.2.2 with h | h
      · omega
      · rw [← HL.out] at h; omega
    go_enter Tryz.func109, Tryz.ntmps109
    go_wp2
    go_ret
    exact ret_no HN.out (drew0 w)
  have HB : Hid (btw t t.size) := .inr (by rw [← HL.out]; omega)
  have hd : decide (127 < (t[t.size - 1].toNat : Int)) = false := decide_eq_false h4
  go_enter Tryz.func109, Tryz.ntmps109
  go_wp2
  go_loop [3] (fun i => ∃ k : Nat, k ≤ t.size ∧ i = .int .i64 k ∧ oidTo t k) (fun i => t.size - (intOf i).toNat)
  case atStart => exact ⟨0, by omega, rfl, oidTo_zero t⟩
  case round =>
    obtain ⟨k, hk, rfl, ho⟩ := hrel
    have HO : Hid (oidTo t k) := ho
    clear ho
    by_cases hlt : k < t.size
    · have HE : Hid ((t[k].toNat : Int) = b8 t k) := b8_get t k hlt
      by_cases hb : (t[k].toNat : Int) = 128
      · have hb' : ((t[k].toNat : Int) == 128) = true := beq_iff_eq.2 hb
        by_cases hz : k = 0
        · have HN : Hid (¬ OidOk t) := oid_no t k hlt ⟨.inl hz, by rw [← HE.out]; exact hb⟩
          have hz' : ((k : Int) == 0) = true := by rw [beq_iff_eq]; omega
          clear hb hz
          go_wp2
          go_ret
          exact ret_no HN.out (drew0 w)
        have hz' : ((k : Int) == 0) = false := by rw [beq_eq_false_iff_ne]; omega
        have hk1 : k - 1 < t.size := by omega
        have HP : Hid ((t[k - 1].toNat : Int) = b8 t (k - 1)) := b8_get t (k - 1) hk1
        by_cases hp : (t[k - 1].toNat : Int) < 128
        · have HN : Hid (¬ OidOk t) := oid_no t k hlt ⟨.inr (by rw [← HP.out]; exact hp), by rw [← HE.out]; exact hb⟩
          have hpos : 1 ≤ k := by omega
          clear hb hz
          go_wp2
          go_ret
          exact ret_no HN.out (drew0 w)
        · have HX : Hid (oidTo t (k + 1)) := (oidTo_succ t k).2 ⟨HO.out, fun h => by
            rcases h.1 with h | h
            · omega
            · rw [← HP.out] at h; omega⟩
          have hpos : 1 ≤ k := by omega
          clear hb hz
          go_wp2
          go_round
          case rel => exact ⟨k + 1, by omega, by go_num, HX.out⟩
          case measure => simp [intOf]; omega
      · have hb' : ((t[k].toNat : Int) == 128) = false := beq_eq_false_iff_ne.2 hb
        have HX : Hid (oidTo t (k + 1)) := (oidTo_succ t k).2 ⟨HO.out, fun h => hb (HE.out.trans h.2)⟩
        clear hb
        go_wp2
        go_round
        case rel => exact ⟨k + 1, by omega, by go_num, HX.out⟩
        case measure => simp [intOf]; omega
    · have hkc : t.size = k := by omega
      have HF : Hid (OidOk t) := ⟨by omega, by omega, by rw [hkc]; exact HO.out, HB.out⟩
      clear hkc
      go_wp2
      go_ret
      exact ret_yes HF.out (drew0 w)

end Go.Proofs.YtjceeljaljdmoaaGreatDoor
