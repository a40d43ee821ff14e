/-
  hallmarkref.common: what it answers.
-/
import Derived.Test.YtjceeljaljdmoaaGreatDoorSb
namespace Go.Proofs.YtjceeljaljdmoaaGreatDoor
open Go.RowKit

set_option maxHeartbeats 4000000 in
set_option maxRecDepth 100000 in
theorem common_any (s : List Nd) (a : Option Addr) (cp i k : Nat) (w : World) (hs : Sch w a s) (hw : Within s) (hkd : Kinds s) (hi : i < s.length) (hk : k < s.length) (hn : s.length ≤ 40) :
    Calls Tryz.prog 47 #[.slice a s.length cp, .int .i64 i, .int .i64 k] w fun e w' => RetO (Common s i k) w e w' := by
  have HC : Hid (∀ (wr : World) (j : Nat) (c m : Int), Below w.heap.size w wr → j < s.length → Calls Tryz.prog 71 #[.slice a s.length cp, .int .i64 j, .int .i64 c, .int .i64 m] wr fun e w' => RetO (Beg s j c m) wr e w') :=
    fun wr j c m hb hj => begins_any s a cp j c m wr (hs.below hb) hw hkd hj hn
  clear hs hw hkd
  go_enter Tryz.func47, Tryz.ntmps47
  go_wp2
  go_loopw [7] (fun vc wr => ∃ c : Nat, c ≤ 4 ∧ vc = .int .i64 c ∧ (∀ c' m' : Nat, c' < c → m' < 31 → ¬ (Beg s i c' m' ∧ Beg s k c' m')) ∧ Below w.heap.size w wr) (fun vc _ => 4 - (intOf vc).toNat)
  case atStart => exact ⟨0, by omega, rfl, fun _ _ h => absurd h (Nat.not_lt_zero _), Below.refl _ _⟩
  case round =>
    obtain ⟨c, hc, rfl, hno, hbr⟩ := hrel
    have HN : Hid (∀ c' m' : Nat, c' < c → m' < 31 → ¬ (Beg s i c' m' ∧ Beg s k c' m')) := hno
    have HB : Hid (Below w.heap.size w wr) := hbr
    clear hno hbr
    by_cases hlt : c < 4
    · have hlt' : (c : Int) < 4 := by omega
      go_wp2
      go_loopw [8] (fun vm wx => ∃ m : Nat, m ≤ 31 ∧ vm = .int .i64 m ∧ (∀ m' : Nat, m' < m → ¬ (Beg s i c m' ∧ Beg s k c m')) ∧ Below w.heap.size w wx) (fun vm _ => 31 - (intOf vm).toNat)
      case atStart => exact ⟨0, by omega, rfl, fun _ h => absurd h (Nat.not_lt_zero _), HB.out⟩
      case round =>
        obtain ⟨m, hm, rfl, hno, hbr⟩ := hrel
        have HN2 : Hid (∀ m' : Nat, m' < m → ¬ (Beg s i c m' ∧ Beg s k c m')) := hno
        have HB2 : Hid (Below w.heap.size w wr) := hbr
        clear hno hbr
        by_cases hml : m < 31
        · have hml' : (m : Int) < 31 := by omega
          have NX : Hid (∀ (h : ¬ (Beg s i c m ∧ Beg s k c m)), ∀ m' : Nat, m' < m + 1 → ¬ (Beg s i c m' ∧ Beg s k c m')) := fun h m' hm' => by
            by_cases e : m' = m
            · subst e; exact h
            · exact HN2.out m' (by omega)
          go_wp2_with fail
          refine (HC.out _ i c m HB2.out hi).mono ?_
          rintro e w1 ⟨r, rfl, hr, hb1⟩
          have HR : Hid (r = true ↔ Beg s i c m) := hr
          have HB3 : Hid (Below w.heap.size w w1) := HB2.out.trans (hb1.mono HB2.out.size)
          clear hr hb1
          cases r
          · go_wp2
            go_roundw
            case rel => exact ⟨m + 1, by omega, by go_num, NX.out (fun h => by have := HR.out.2 h.1; cases this), HB3.out⟩
            case measure => simp [intOf]; omega
          · go_wp2_with fail
            refine (HC.out _ k c m HB3.out hk).mono ?_
            rintro e w2 ⟨r, rfl, hr, hb2⟩
            have HR2 : Hid (r = true ↔ Beg s k c m) := hr
            have HB4 : Hid (Below w.heap.size w w2) := HB3.out.trans (hb2.mono HB3.out.size)
            clear hr hb2
            cases r
            · go_wp2
              go_roundw
              case rel => exact ⟨m + 1, by omega, by go_num, NX.out (fun h => by have := HR2.out.2 h.2; cases this), HB4.out⟩
              case measure => simp [intOf]; omega
            · go_wp2
              go_ret
              exact reto_yes ⟨c, m, by omega, by omega, by omega, by omega, HR.out.1 trivial, HR2.out.1 trivial⟩ HB4.out
        · have hml' : (31 : Int) ≤ m := by omega
          go_wp2
          go_roundw
          case rel => exact ⟨c + 1, by omega, by go_num, fun c' m' h1 h2 => by
            by_cases e : c' = c
            · subst e; exact HN2.out m' (by omega)
            · exact HN.out c' m' (by omega) h2, HB2.out⟩
          case measure => simp [intOf]; omega
    · have hlt' : (4 : Int) ≤ c := by omega
      go_wp2
      go_ret
      exact reto_no (fun ⟨c', m', h1, h2, h3, h4, h5, h6⟩ => HN.out c'.toNat m'.toNat (by omega) (by omega) (by rw [Int.toNat_of_nonneg h1, Int.toNat_of_nonneg h3]; exact ⟨h5, h6⟩)) HB.out
end Go.Proofs.YtjceeljaljdmoaaGreatDoor
