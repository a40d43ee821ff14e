/-
  Several texts in one:
  The document's Head: what it answers.
  The document's Head, whole.
  The document's reader: head.
  The document's reader: bare, of the kinds 1 to 9.
  hallmarkref.Own: the number of a kind's own tag.
  The document's reader: Own0, node of the kinds 1 to 9.
  hallmarkref.Begins: what it answers.
  What a schema is asked to be, as plain data.
-/
import Derived.Test.YtkkicodfpekbgaaGreatDoorJ2
import Derived.Test.YtkkicodfpekbgaaGreatDoorJ1
import Derived.Deep.RegionWith
/-! The document's Head: what it answers. -/
namespace Go.Proofs.YtkkicodfpekbgaaGreatDoor
set_option linter.unusedSimpArgs false
set_option linter.unusedVariables false
open Go.RowKit

set_option maxHeartbeats 1000000 in
set_option maxRecDepth 100000 in
theorem rh_empty (s : ByteArray) (w : World) (_hm : s.size ≤ 9223372036854775807) (hz : s.size = 0) :
    Calls Tryz.prog 105 #[.string s] w fun e w' => e = .returned (.tuple #[.agg #[.int .i64 0, .bool false, .int .i64 0, .int .i64 0, .int .i64 0], .int .i64 3]) ∧ Below w.heap.size w w' := by
  have he := emp_t hz
  go_enter Tryz.func105, Tryz.ntmps105
  go_wp2
  exact bodyPost_ret (v := .tuple #[.agg #[.int .i64 0, .bool false, .int .i64 0, .int .i64 0, .int .i64 0], .int .i64 3]) (by simp [results, Tryz.results105, go_sem]) rfl ⟨rfl, ((Below.refl w.heap.size w).alloc (Nat.le_refl _) _).alloc (by simp) _⟩

set_option maxHeartbeats 1000000 in
set_option maxRecDepth 100000 in
theorem rh_tag (s : ByteArray) (w : World) (hm : s.size ≤ 9223372036854775807) (h1 : 1 ≤ s.size) (hx1 : (s[0].toNat : Int) < 256) (hx2 : ((s[0].toNat : Int) % 32 == 31) = true) :
    Calls Tryz.prog 105 #[.string s] w fun e w' => e = .returned (.tuple #[.agg #[.int .i64 0, .bool false, .int .i64 0, .int .i64 0, .int .i64 0], .int .i64 4]) ∧ Below w.heap.size w w' := by
  have he := emp_f (t := s) (by omega)
  go_enter Tryz.func105, Tryz.ntmps105
  go_wp2
  exact bodyPost_ret (v := .tuple #[.agg #[.int .i64 0, .bool false, .int .i64 0, .int .i64 0, .int .i64 0], .int .i64 4]) (by simp [results, Tryz.results105, go_sem]) rfl ⟨rfl, ((Below.refl w.heap.size w).alloc (Nat.le_refl _) _).alloc (by simp) _⟩

set_option maxHeartbeats 1000000 in
set_option maxRecDepth 100000 in
theorem rh_one (s : ByteArray) (w : World) (hm : s.size ≤ 9223372036854775807) (h1 : 1 ≤ s.size) (hx1 : (s[0].toNat : Int) < 256) (hx2 : ((s[0].toNat : Int) % 32 == 31) = false) (h2 : s.size < 2) :
    Calls Tryz.prog 105 #[.string s] w fun e w' => e = .returned (.tuple #[.agg #[.int .i64 0, .bool false, .int .i64 0, .int .i64 0, .int .i64 0], .int .i64 3]) ∧ Below w.heap.size w w' := by
  have he := emp_f (t := s) (by omega)
  go_enter Tryz.func105, Tryz.ntmps105
  go_wp2
  exact bodyPost_ret (v := .tuple #[.agg #[.int .i64 0, .bool false, .int .i64 0, .int .i64 0, .int .i64 0], .int .i64 3]) (by simp [results, Tryz.results105, go_sem]) rfl ⟨rfl, ((Below.refl w.heap.size w).alloc (Nat.le_refl _) _).alloc (by simp) _⟩

set_option maxHeartbeats 1000000 in
set_option maxRecDepth 100000 in
theorem rh_sEnd (s : ByteArray) (w : World) (hm : s.size ≤ 9223372036854775807) (h1 : 1 ≤ s.size) (hx1 : (s[0].toNat : Int) < 256) (hx2 : ((s[0].toNat : Int) % 32 == 31) = false) (h2 : 2 ≤ s.size) (hy : (s[1].toNat : Int) < 256) (hn : (s[1].toNat : Int) < 128) (hl : (s.size : Int) < 2 + (s[1].toNat : Int)) :
    Calls Tryz.prog 105 #[.string s] w fun e w' => e = .returned (.tuple #[.agg #[.int .i64 0, .bool false, .int .i64 0, .int .i64 0, .int .i64 0], .int .i64 3]) ∧ Below w.heap.size w w' := by
  have he := emp_f (t := s) (by omega)
  go_enter Tryz.func105, Tryz.ntmps105
  go_wp2
  exact bodyPost_ret (v := .tuple #[.agg #[.int .i64 0, .bool false, .int .i64 0, .int .i64 0, .int .i64 0], .int .i64 3]) (by simp [results, Tryz.results105, go_sem]) rfl ⟨rfl, ((Below.refl w.heap.size w).alloc (Nat.le_refl _) _).alloc (by simp) _⟩

set_option maxHeartbeats 1000000 in
set_option maxRecDepth 100000 in
theorem rh_sOk (s : ByteArray) (w : World) (hm : s.size ≤ 9223372036854775807) (h1 : 1 ≤ s.size) (hx1 : (s[0].toNat : Int) < 256) (hx2 : ((s[0].toNat : Int) % 32 == 31) = false) (h2 : 2 ≤ s.size) (hy : (s[1].toNat : Int) < 256) (hn : (s[1].toNat : Int) < 128) (hl : 2 + (s[1].toNat : Int) ≤ (s.size : Int)) :
    Calls Tryz.prog 105 #[.string s] w fun e w' => e = .returned (.tuple #[.agg #[.int .i64 ((s[0].toNat : Int) / 64), .bool ((s[0].toNat : Int) / 32 % 2 == 1), .int .i64 ((s[0].toNat : Int) % 32), .int .i64 2, .int .i64 (s[1].toNat : Int)], .int .i64 0]) ∧ Below w.heap.size w w' := by
  have he := emp_f (t := s) (by omega)
  go_enter Tryz.func105, Tryz.ntmps105
  go_wp2
  exact bodyPost_ret (v := .tuple #[.agg #[.int .i64 ((s[0].toNat : Int) / 64), .bool ((s[0].toNat : Int) / 32 % 2 == 1), .int .i64 ((s[0].toNat : Int) % 32), .int .i64 2, .int .i64 (s[1].toNat : Int)], .int .i64 0]) (by simp [results, Tryz.results105, go_sem]) rfl ⟨rfl, ((Below.refl w.heap.size w).alloc (Nat.le_refl _) _).alloc (by simp) _⟩

set_option maxHeartbeats 1000000 in
set_option maxRecDepth 100000 in
theorem rh_bad0 (s : ByteArray) (w : World) (hm : s.size ≤ 9223372036854775807) (h1 : 1 ≤ s.size) (hx1 : (s[0].toNat : Int) < 256) (hx2 : ((s[0].toNat : Int) % 32 == 31) = false) (h2 : 2 ≤ s.size) (hy : (s[1].toNat : Int) < 256) (hn : 128 ≤ (s[1].toNat : Int)) (hz : ((s[1].toNat : Int) - 128 == 0) = true) :
    Calls Tryz.prog 105 #[.string s] w fun e w' => e = .returned (.tuple #[.agg #[.int .i64 0, .bool false, .int .i64 0, .int .i64 0, .int .i64 0], .int .i64 5]) ∧ Below w.heap.size w w' := by
  have he := emp_f (t := s) (by omega)
  go_enter Tryz.func105, Tryz.ntmps105
  go_wp2
  exact bodyPost_ret (v := .tuple #[.agg #[.int .i64 0, .bool false, .int .i64 0, .int .i64 0, .int .i64 0], .int .i64 5]) (by simp [results, Tryz.results105, go_sem]) rfl ⟨rfl, ((Below.refl w.heap.size w).alloc (Nat.le_refl _) _).alloc (by simp) _⟩

set_option maxHeartbeats 1000000 in
set_option maxRecDepth 100000 in
theorem rh_bad1 (s : ByteArray) (w : World) (hm : s.size ≤ 9223372036854775807) (h1 : 1 ≤ s.size) (hx1 : (s[0].toNat : Int) < 256) (hx2 : ((s[0].toNat : Int) % 32 == 31) = false) (h2 : 2 ≤ s.size) (hy : (s[1].toNat : Int) < 256) (hn : 128 ≤ (s[1].toNat : Int)) (hz : ((s[1].toNat : Int) - 128 == 0) = false) (hz2 : 3 < (s[1].toNat : Int) - 128) :
    Calls Tryz.prog 105 #[.string s] w fun e w' => e = .returned (.tuple #[.agg #[.int .i64 0, .bool false, .int .i64 0, .int .i64 0, .int .i64 0], .int .i64 5]) ∧ Below w.heap.size w w' := by
  have he := emp_f (t := s) (by omega)
  go_enter Tryz.func105, Tryz.ntmps105
  go_wp2
  exact bodyPost_ret (v := .tuple #[.agg #[.int .i64 0, .bool false, .int .i64 0, .int .i64 0, .int .i64 0], .int .i64 5]) (by simp [results, Tryz.results105, go_sem]) rfl ⟨rfl, ((Below.refl w.heap.size w).alloc (Nat.le_refl _) _).alloc (by simp) _⟩

set_option maxHeartbeats 1000000 in
set_option maxRecDepth 100000 in
theorem rh_lEnd (s : ByteArray) (w : World) (hm : s.size ≤ 9223372036854775807) (h1 : 1 ≤ s.size) (hx1 : (s[0].toNat : Int) < 256) (hx2 : ((s[0].toNat : Int) % 32 == 31) = false) (h2 : 2 ≤ s.size) (hy : (s[1].toNat : Int) < 256) (hn : 128 ≤ (s[1].toNat : Int)) (hz : ((s[1].toNat : Int) - 128 == 0) = false) (hz2 : (s[1].toNat : Int) - 128 ≤ 3) (hl : (s.size : Int) < 2 + ((s[1].toNat : Int) - 128)) :
    Calls Tryz.prog 105 #[.string s] w fun e w' => e = .returned (.tuple #[.agg #[.int .i64 0, .bool false, .int .i64 0, .int .i64 0, .int .i64 0], .int .i64 3]) ∧ Below w.heap.size w w' := by
  have he := emp_f (t := s) (by omega)
  go_enter Tryz.func105, Tryz.ntmps105
  go_wp2
  exact bodyPost_ret (v := .tuple #[.agg #[.int .i64 0, .bool false, .int .i64 0, .int .i64 0, .int .i64 0], .int .i64 3]) (by simp [results, Tryz.results105, go_sem]) rfl ⟨rfl, ((Below.refl w.heap.size w).alloc (Nat.le_refl _) _).alloc (by simp) _⟩

set_option maxHeartbeats 1000000 in
set_option maxRecDepth 100000 in
theorem rh_no (s : ByteArray) (w : World) (hm : s.size ≤ 9223372036854775807) (h1 : 1 ≤ s.size) (hx1 : (s[0].toNat : Int) < 256) (hx2 : ((s[0].toNat : Int) % 32 == 31) = false) (h2 : 2 ≤ s.size) (hy : (s[1].toNat : Int) < 256) (hn : 128 ≤ (s[1].toNat : Int)) (hz : ((s[1].toNat : Int) - 128 == 0) = false) (hz2 : (s[1].toNat : Int) - 128 ≤ 3) (c : Nat) (hb1 : (s[1].toNat : Int) - 128 ≤ c) (hb2 : c ≤ (s[1].toNat : Int) - 128) (hl : 2 + (c : Int) ≤ (s.size : Int)) (hq : ¬ (c : Int) = cnt (numTo (s.extract 1 s.size) c)) :
    Calls Tryz.prog 105 #[.string s] w fun e w' => e = .returned (.tuple #[.agg #[.int .i64 0, .bool false, .int .i64 0, .int .i64 0, .int .i64 0], .int .i64 5]) ∧ Below w.heap.size w w' := by
  have he := emp_f (t := s) (by omega)
  have HX : Hid ((s[1].toNat : Int) - 128 = c) := by show _ = _; omega
  have hnd : decide ((128 : Int) ≤ (s[1].toNat : Int)) = true := decide_eq_true hn
  have hk3 : c ≤ 3 := by omega
  have hnb := numTo_bd (s.extract 1 s.size) c
  have hnc0 : 0 ≤ numTo (s.extract 1 s.size) c := hnb.1
  have hnc1 : numTo (s.extract 1 s.size) c < 16777216 := hnb.2.1 hk3
  clear hnb
  have HL : Hid (∀ w, Calls Tryz.prog 147 #[.int .i64 (numTo (s.extract 1 s.size) c)] w fun e w' => e = .returned (.string ⟨(tl (numTo (s.extract 1 s.size) c)).toArray⟩) ∧ Below w.heap.size w w') := fun w => Length_any _ w hnc0 hnc1
  have hts : Hid (((⟨(tl (numTo (s.extract 1 s.size) c)).toArray⟩ : ByteArray).size : Int) = 1 + cnt (numTo (s.extract 1 s.size) c)) := by
    have := tl_length (numTo (s.extract 1 s.size) c)
    show (((tl (numTo (s.extract 1 s.size) c)).toArray.size : Nat) : Int) = _
    rw [List.size_toArray]; exact this
  generalize (⟨(tl (numTo (s.extract 1 s.size) c)).toArray⟩ : ByteArray) = t at HL hts
  have hq' : (2 + ((s[1].toNat : Int) - 128) != (t.size : Int) + 1) = true := by rw [bne_iff_ne]; have h1 := hts.out; have h2 := HX.out; omega
  clear hq
  have htb : t.size ≤ 4 := by have := hts.out; have := cnt_cases (numTo (s.extract 1 s.size) c); omega
  go_enter Tryz.func105, Tryz.ntmps105
  go_wp2
  go_loop [6, 9] (fun n i => ∃ k : Nat, k ≤ c ∧ i = .int .i64 k ∧ n = .int .i64 (numTo (s.extract 1 s.size) k)) (fun _ i => c - (intOf i).toNat)
  case atStart => exact ⟨0, by omega, rfl, rfl⟩
  case round =>
    obtain ⟨k, hk, rfl, rfl⟩ := hrel
    have hn := numTo_bd (s.extract 1 s.size) k
    have hn0 : 0 ≤ numTo (s.extract 1 s.size) k := hn.1
    have hn1 : numTo (s.extract 1 s.size) k < 16777216 := hn.2.1 (by omega)
    clear hn
    by_cases hlt : k < c
    · have hk2 : 2 + k < s.size := by omega
      have hbk := b8_bd s (2 + k)
      have HE : Hid ((s[2 + k].toNat : Int) = b8 s (2 + k)) := b8_get s (2 + k) hk2
      have hek : (s[2 + k].toNat : Int) < 256 := by rw [HE.out]; omega
      have HN : Hid (numTo (s.extract 1 s.size) (k + 1) = numTo (s.extract 1 s.size) k * 256 + b8 s (2 + k)) := by
        show numTo (s.extract 1 s.size) k * 256 + b8 (s.extract 1 s.size) (k + 1) = _
        rw [b8_extract s 1 (k + 1) (by omega), show 1 + (k + 1) = 2 + k by omega]
      go_wp2
      go_round
      case rel => exact ⟨k + 1, by omega, by go_num, by rw [HN.out, HE.out]; go_num⟩
      case measure => simp [intOf]; omega
    · have hkc : c = k := by omega
      subst hkc
      go_wp2_with fail
      refine Calls.mono (HL.out _) ?_
      rintro e w1 ⟨rfl, hb⟩
      obtain ⟨hc, hf⟩ := bcell hb
      have hz' : w.heap.size + 1 < w1.heap.size := by have := hb.size; simp at this; omega
      have HB : Hid (Below ((w.alloc (.cells #[.int .i64 0, .bool false, .int .i64 0, .int .i64 0, .int .i64 0] 179)).alloc (.cells #[.int .i64 0, .bool false, .int .i64 0, .int .i64 0, .int .i64 0] 179)).heap.size ((w.alloc (.cells #[.int .i64 0, .bool false, .int .i64 0, .int .i64 0, .int .i64 0] 179)).alloc (.cells #[.int .i64 0, .bool false, .int .i64 0, .int .i64 0, .int .i64 0] 179)) w1) := hb
      have hr0 : w1.cell? ⟨w.heap.size, 0, none⟩ = some (.int .i64 0) := by rw [hc w.heap.size 0 (by simp; omega)]; simp
      have hr1 : w1.cell? ⟨w.heap.size, 1, none⟩ = some (.bool false) := by rw [hc w.heap.size 1 (by simp; omega)]; simp
      have hr2 : w1.cell? ⟨w.heap.size, 2, none⟩ = some (.int .i64 0) := by rw [hc w.heap.size 2 (by simp; omega)]; simp
      have hr3 : w1.cell? ⟨w.heap.size, 3, none⟩ = some (.int .i64 0) := by rw [hc w.heap.size 3 (by simp; omega)]; simp
      have hr4 : w1.cell? ⟨w.heap.size, 4, none⟩ = some (.int .i64 0) := by rw [hc w.heap.size 4 (by simp; omega)]; simp
      clear hb
      go_wp2
      refine bodyPost_ret (v := .tuple #[.agg #[.int .i64 0, .bool false, .int .i64 0, .int .i64 0, .int .i64 0], .int .i64 5]) (by simp [results, Tryz.results105, go_sem, hr0, hr1, hr2, hr3, hr4]) rfl ⟨rfl, ?_⟩
      exact below5 ((((Below.refl w.heap.size w).alloc (Nat.le_refl _) _).alloc (by simp) _).trans (HB.out.mono (by simp; omega))) _ (Nat.le_refl _) _ _ _ _ _

set_option maxHeartbeats 1000000 in
set_option maxRecDepth 100000 in
theorem rh_lEnd2 (s : ByteArray) (w : World) (hm : s.size ≤ 9223372036854775807) (h1 : 1 ≤ s.size) (hx1 : (s[0].toNat : Int) < 256) (hx2 : ((s[0].toNat : Int) % 32 == 31) = false) (h2 : 2 ≤ s.size) (hy : (s[1].toNat : Int) < 256) (hn : 128 ≤ (s[1].toNat : Int)) (hz : ((s[1].toNat : Int) - 128 == 0) = false) (hz2 : (s[1].toNat : Int) - 128 ≤ 3) (c : Nat) (hb1 : (s[1].toNat : Int) - 128 ≤ c) (hb2 : c ≤ (s[1].toNat : Int) - 128) (hl : 2 + (c : Int) ≤ (s.size : Int)) (hq : (c : Int) = cnt (numTo (s.extract 1 s.size) c)) (hE : (s.size : Int) < 2 + c + numTo (s.extract 1 s.size) c) :
    Calls Tryz.prog 105 #[.string s] w fun e w' => e = .returned (.tuple #[.agg #[.int .i64 0, .bool false, .int .i64 0, .int .i64 0, .int .i64 0], .int .i64 3]) ∧ Below w.heap.size w w' := by
  have he := emp_f (t := s) (by omega)
  have HX : Hid ((s[1].toNat : Int) - 128 = c) := by show _ = _; omega
  have hnd : decide ((128 : Int) ≤ (s[1].toNat : Int)) = true := decide_eq_true hn
  have hk3 : c ≤ 3 := by omega
  have hnb := numTo_bd (s.extract 1 s.size) c
  have hnc0 : 0 ≤ numTo (s.extract 1 s.size) c := hnb.1
  have hnc1 : numTo (s.extract 1 s.size) c < 16777216 := hnb.2.1 hk3
  clear hnb
  have HL : Hid (∀ w, Calls Tryz.prog 147 #[.int .i64 (numTo (s.extract 1 s.size) c)] w fun e w' => e = .returned (.string ⟨(tl (numTo (s.extract 1 s.size) c)).toArray⟩) ∧ Below w.heap.size w w') := fun w => Length_any _ w hnc0 hnc1
  have hts : Hid (((⟨(tl (numTo (s.extract 1 s.size) c)).toArray⟩ : ByteArray).size : Int) = 1 + cnt (numTo (s.extract 1 s.size) c)) := by
    have := tl_length (numTo (s.extract 1 s.size) c)
    show (((tl (numTo (s.extract 1 s.size) c)).toArray.size : Nat) : Int) = _
    rw [List.size_toArray]; exact this
  generalize (⟨(tl (numTo (s.extract 1 s.size) c)).toArray⟩ : ByteArray) = t at HL hts
  have hq' : (2 + ((s[1].toNat : Int) - 128) != (t.size : Int) + 1) = false := by rw [bne_eq_false_iff_eq]; have h1 := hts.out; have h2 := HX.out; omega
  clear hq
  have htb : t.size ≤ 4 := by have := hts.out; have := cnt_cases (numTo (s.extract 1 s.size) c); omega
  go_enter Tryz.func105, Tryz.ntmps105
  go_wp2
  go_loop [6, 9] (fun n i => ∃ k : Nat, k ≤ c ∧ i = .int .i64 k ∧ n = .int .i64 (numTo (s.extract 1 s.size) k)) (fun _ i => c - (intOf i).toNat)
  case atStart => exact ⟨0, by omega, rfl, rfl⟩
  case round =>
    obtain ⟨k, hk, rfl, rfl⟩ := hrel
    have hn := numTo_bd (s.extract 1 s.size) k
    have hn0 : 0 ≤ numTo (s.extract 1 s.size) k := hn.1
    have hn1 : numTo (s.extract 1 s.size) k < 16777216 := hn.2.1 (by omega)
    clear hn
    by_cases hlt : k < c
    · have hk2 : 2 + k < s.size := by omega
      have hbk := b8_bd s (2 + k)
      have HE : Hid ((s[2 + k].toNat : Int) = b8 s (2 + k)) := b8_get s (2 + k) hk2
      have hek : (s[2 + k].toNat : Int) < 256 := by rw [HE.out]; omega
      have HN : Hid (numTo (s.extract 1 s.size) (k + 1) = numTo (s.extract 1 s.size) k * 256 + b8 s (2 + k)) := by
        show numTo (s.extract 1 s.size) k * 256 + b8 (s.extract 1 s.size) (k + 1) = _
        rw [b8_extract s 1 (k + 1) (by omega), show 1 + (k + 1) = 2 + k by omega]
      go_wp2
      go_round
      case rel => exact ⟨k + 1, by omega, by go_num, by rw [HN.out, HE.out]; go_num⟩
      case measure => simp [intOf]; omega
    · have hkc : c = k := by omega
      subst hkc
      go_wp2_with fail
      refine Calls.mono (HL.out _) ?_
      rintro e w1 ⟨rfl, hb⟩
      obtain ⟨hc, hf⟩ := bcell hb
      have hz' : w.heap.size + 1 < w1.heap.size := by have := hb.size; simp at this; omega
      have HB : Hid (Below ((w.alloc (.cells #[.int .i64 0, .bool false, .int .i64 0, .int .i64 0, .int .i64 0] 179)).alloc (.cells #[.int .i64 0, .bool false, .int .i64 0, .int .i64 0, .int .i64 0] 179)).heap.size ((w.alloc (.cells #[.int .i64 0, .bool false, .int .i64 0, .int .i64 0, .int .i64 0] 179)).alloc (.cells #[.int .i64 0, .bool false, .int .i64 0, .int .i64 0, .int .i64 0] 179)) w1) := hb
      have hr0 : w1.cell? ⟨w.heap.size, 0, none⟩ = some (.int .i64 0) := by rw [hc w.heap.size 0 (by simp; omega)]; simp
      have hr1 : w1.cell? ⟨w.heap.size, 1, none⟩ = some (.bool false) := by rw [hc w.heap.size 1 (by simp; omega)]; simp
      have hr2 : w1.cell? ⟨w.heap.size, 2, none⟩ = some (.int .i64 0) := by rw [hc w.heap.size 2 (by simp; omega)]; simp
      have hr3 : w1.cell? ⟨w.heap.size, 3, none⟩ = some (.int .i64 0) := by rw [hc w.heap.size 3 (by simp; omega)]; simp
      have hr4 : w1.cell? ⟨w.heap.size, 4, none⟩ = some (.int .i64 0) := by rw [hc w.heap.size 4 (by simp; omega)]; simp
      clear hb
      go_wp2
      refine bodyPost_ret (v := .tuple #[.agg #[.int .i64 0, .bool false, .int .i64 0, .int .i64 0, .int .i64 0], .int .i64 3]) (by simp [results, Tryz.results105, go_sem, hr0, hr1, hr2, hr3, hr4]) rfl ⟨rfl, ?_⟩
      exact below5 ((((Below.refl w.heap.size w).alloc (Nat.le_refl _) _).alloc (by simp) _).trans (HB.out.mono (by simp; omega))) _ (Nat.le_refl _) _ _ _ _ _

set_option maxHeartbeats 1000000 in
set_option maxRecDepth 100000 in
theorem rh_lOk (s : ByteArray) (w : World) (hm : s.size ≤ 9223372036854775807) (h1 : 1 ≤ s.size) (hx1 : (s[0].toNat : Int) < 256) (hx2 : ((s[0].toNat : Int) % 32 == 31) = false) (h2 : 2 ≤ s.size) (hy : (s[1].toNat : Int) < 256) (hn : 128 ≤ (s[1].toNat : Int)) (hz : ((s[1].toNat : Int) - 128 == 0) = false) (hz2 : (s[1].toNat : Int) - 128 ≤ 3) (c : Nat) (hb1 : (s[1].toNat : Int) - 128 ≤ c) (hb2 : c ≤ (s[1].toNat : Int) - 128) (hl : 2 + (c : Int) ≤ (s.size : Int)) (hq : (c : Int) = cnt (numTo (s.extract 1 s.size) c)) (hE : 2 + c + numTo (s.extract 1 s.size) c ≤ (s.size : Int)) :
    Calls Tryz.prog 105 #[.string s] w fun e w' => e = .returned (.tuple #[.agg #[.int .i64 ((s[0].toNat : Int) / 64), .bool ((s[0].toNat : Int) / 32 % 2 == 1), .int .i64 ((s[0].toNat : Int) % 32), .int .i64 (2 + ((s[1].toNat : Int) - 128)), .int .i64 (numTo (s.extract 1 s.size) c)], .int .i64 0]) ∧ Below w.heap.size w w' := by
  have he := emp_f (t := s) (by omega)
  have HX : Hid ((s[1].toNat : Int) - 128 = c) := by show _ = _; omega
  have hnd : decide ((128 : Int) ≤ (s[1].toNat : Int)) = true := decide_eq_true hn
  have hk3 : c ≤ 3 := by omega
  have hnb := numTo_bd (s.extract 1 s.size) c
  have hnc0 : 0 ≤ numTo (s.extract 1 s.size) c := hnb.1
  have hnc1 : numTo (s.extract 1 s.size) c < 16777216 := hnb.2.1 hk3
  clear hnb
  have HL : Hid (∀ w, Calls Tryz.prog 147 #[.int .i64 (numTo (s.extract 1 s.size) c)] w fun e w' => e = .returned (.string ⟨(tl (numTo (s.extract 1 s.size) c)).toArray⟩) ∧ Below w.heap.size w w') := fun w => Length_any _ w hnc0 hnc1
  have hts : Hid (((⟨(tl (numTo (s.extract 1 s.size) c)).toArray⟩ : ByteArray).size : Int) = 1 + cnt (numTo (s.extract 1 s.size) c)) := by
    have := tl_length (numTo (s.extract 1 s.size) c)
    show (((tl (numTo (s.extract 1 s.size) c)).toArray.size : Nat) : Int) = _
    rw [List.size_toArray]; exact this
  generalize (⟨(tl (numTo (s.extract 1 s.size) c)).toArray⟩ : ByteArray) = t at HL hts
  have hq' : (2 + ((s[1].toNat : Int) - 128) != (t.size : Int) + 1) = false := by rw [bne_eq_false_iff_eq]; have h1 := hts.out; have h2 := HX.out; omega
  clear hq
  have htb : t.size ≤ 4 := by have := hts.out; have := cnt_cases (numTo (s.extract 1 s.size) c); omega
  go_enter Tryz.func105, Tryz.ntmps105
  go_wp2
  go_loop [6, 9] (fun n i => ∃ k : Nat, k ≤ c ∧ i = .int .i64 k ∧ n = .int .i64 (numTo (s.extract 1 s.size) k)) (fun _ i => c - (intOf i).toNat)
  case atStart => exact ⟨0, by omega, rfl, rfl⟩
  case round =>
    obtain ⟨k, hk, rfl, rfl⟩ := hrel
    have hn := numTo_bd (s.extract 1 s.size) k
    have hn0 : 0 ≤ numTo (s.extract 1 s.size) k := hn.1
    have hn1 : numTo (s.extract 1 s.size) k < 16777216 := hn.2.1 (by omega)
    clear hn
    by_cases hlt : k < c
    · have hk2 : 2 + k < s.size := by omega
      have hbk := b8_bd s (2 + k)
      have HE : Hid ((s[2 + k].toNat : Int) = b8 s (2 + k)) := b8_get s (2 + k) hk2
      have hek : (s[2 + k].toNat : Int) < 256 := by rw [HE.out]; omega
      have HN : Hid (numTo (s.extract 1 s.size) (k + 1) = numTo (s.extract 1 s.size) k * 256 + b8 s (2 + k)) := by
        show numTo (s.extract 1 s.size) k * 256 + b8 (s.extract 1 s.size) (k + 1) = _
        rw [b8_extract s 1 (k + 1) (by omega), show 1 + (k + 1) = 2 + k by omega]
      go_wp2
      go_round
      case rel => exact ⟨k + 1, by omega, by go_num, by rw [HN.out, HE.out]; go_num⟩
      case measure => simp [intOf]; omega
    · have hkc : c = k := by omega
      subst hkc
      go_wp2_with fail
      refine Calls.mono (HL.out _) ?_
      rintro e w1 ⟨rfl, hb⟩
      obtain ⟨hc, hf⟩ := bcell hb
      have hz' : w.heap.size + 1 < w1.heap.size := by have := hb.size; simp at this; omega
      have HB : Hid (Below ((w.alloc (.cells #[.int .i64 0, .bool false, .int .i64 0, .int .i64 0, .int .i64 0] 179)).alloc (.cells #[.int .i64 0, .bool false, .int .i64 0, .int .i64 0, .int .i64 0] 179)).heap.size ((w.alloc (.cells #[.int .i64 0, .bool false, .int .i64 0, .int .i64 0, .int .i64 0] 179)).alloc (.cells #[.int .i64 0, .bool false, .int .i64 0, .int .i64 0, .int .i64 0] 179)) w1) := hb
      have hr0 : w1.cell? ⟨w.heap.size, 0, none⟩ = some (.int .i64 0) := by rw [hc w.heap.size 0 (by simp; omega)]; simp
      have hr1 : w1.cell? ⟨w.heap.size, 1, none⟩ = some (.bool false) := by rw [hc w.heap.size 1 (by simp; omega)]; simp
      have hr2 : w1.cell? ⟨w.heap.size, 2, none⟩ = some (.int .i64 0) := by rw [hc w.heap.size 2 (by simp; omega)]; simp
      have hr3 : w1.cell? ⟨w.heap.size, 3, none⟩ = some (.int .i64 0) := by rw [hc w.heap.size 3 (by simp; omega)]; simp
      have hr4 : w1.cell? ⟨w.heap.size, 4, none⟩ = some (.int .i64 0) := by rw [hc w.heap.size 4 (by simp; omega)]; simp
      clear hb
      go_wp2
      refine bodyPost_ret (v := .tuple #[.agg #[.int .i64 ((s[0].toNat : Int) / 64), .bool ((s[0].toNat : Int) / 32 % 2 == 1), .int .i64 ((s[0].toNat : Int) % 32), .int .i64 (2 + ((s[1].toNat : Int) - 128)), .int .i64 (numTo (s.extract 1 s.size) c)], .int .i64 0]) (by simp [results, Tryz.results105, go_sem, hr0, hr1, hr2, hr3, hr4]) rfl ⟨rfl, ?_⟩
      exact below5 ((((Below.refl w.heap.size w).alloc (Nat.le_refl _) _).alloc (by simp) _).trans (HB.out.mono (by simp; omega))) _ (Nat.le_refl _) _ _ _ _ _

end Go.Proofs.YtkkicodfpekbgaaGreatDoor

/-! The document's Head, whole. -/
namespace Go.Proofs.YtkkicodfpekbgaaGreatDoor
set_option linter.unusedSimpArgs false
set_option linter.unusedVariables false
open Go.RowKit

theorem rHead_any (s : ByteArray) (w : World) (hm : s.size ≤ 9223372036854775807) :
    Calls Tryz.prog 105 #[.string s] w fun e w' => e = .returned (.tuple #[hv (hd s).2, .int .i64 (hd s).1]) ∧ Below w.heap.size w w' := by
  have hT : (s.extract 1 s.size).size = s.size - 1 := by simp
  unfold hd
  split
  · rename_i h; exact rh_empty s w hm h
  rename_i h
  have h1 : 1 ≤ s.size := by omega
  have hb0 := b8_bd s 0
  have e0 := b8_get s 0 h1
  have hx1 : (s[0].toNat : Int) < 256 := by rw [e0]; omega
  split
  · rename_i h2
    exact rh_tag s w hm h1 hx1 (by rw [e0, beq_iff_eq]; exact h2)
  rename_i h2
  have hx2 : ((s[0].toNat : Int) % 32 == 31) = false := by rw [e0, beq_eq_false_iff_ne]; exact h2
  by_cases h3 : s.size < 2
  · have hr : rl (s.extract 1 s.size) = (3, 0, 0) := by unfold rl; rw [if_pos (by omega)]
    rw [hr]
    exact rh_one s w hm h1 hx1 hx2 h3
  have h3 : 2 ≤ s.size := by omega
  have e1 := b8_get s 1 (by omega)
  have hb1 := b8_bd s 1
  have eT : b8 (s.extract 1 s.size) 0 = b8 s 1 := b8_extract s 1 0 (by omega)
  have hy : (s[1].toNat : Int) < 256 := by rw [e1]; omega
  by_cases hn : b8 s 1 < 128
  · have hr : rl (s.extract 1 s.size) = (0, 1, b8 s 1) := by unfold rl; rw [if_neg (by omega), eT, if_pos hn]
    rw [hr]
    simp only
    rw [if_neg (by omega)]
    split
    · exact rh_sEnd s w hm h1 hx1 hx2 h3 hy (by rw [e1]; exact hn) (by rw [e1]; omega)
    · have := rh_sOk s w hm h1 hx1 hx2 h3 hy (by rw [e1]; exact hn) (by rw [e1]; omega)
      rw [e0, e1] at this
      exact this
  have hn' : 128 ≤ (s[1].toNat : Int) := by rw [e1]; omega
  by_cases hbad : b8 s 1 = 128 ∨ 131 < b8 s 1
  · have hr : rl (s.extract 1 s.size) = (5, 0, 0) := by unfold rl; rw [if_neg (by omega), eT, if_neg hn, if_pos hbad]
    rw [hr]
    by_cases hz : b8 s 1 = 128
    · exact rh_bad0 s w hm h1 hx1 hx2 h3 hy hn' (by rw [e1, beq_iff_eq]; omega)
    · exact rh_bad1 s w hm h1 hx1 hx2 h3 hy hn' (by rw [e1, beq_eq_false_iff_ne]; omega) (by rw [e1]; omega)
  have hz : ((s[1].toNat : Int) - 128 == 0) = false := by rw [e1, beq_eq_false_iff_ne]; omega
  have hz2 : (s[1].toNat : Int) - 128 ≤ 3 := by rw [e1]; omega
  by_cases hl : (s.size : Int) < 2 + (b8 s 1 - 128)
  · have hr : rl (s.extract 1 s.size) = (3, 0, 0) := by unfold rl; rw [if_neg (by omega), eT, if_neg hn, if_neg hbad, if_pos (by omega)]
    rw [hr]
    exact rh_lEnd s w hm h1 hx1 hx2 h3 hy hn' hz hz2 (by rw [e1]; exact hl)
  obtain ⟨c, hc⟩ := Int.eq_ofNat_of_zero_le (show 0 ≤ b8 s 1 - 128 by omega)
  by_cases hq : (c : Int) = cnt (numTo (s.extract 1 s.size) c)
  · have hr : rl (s.extract 1 s.size) = (0, 1 + (c : Int), numTo (s.extract 1 s.size) c) := by
      unfold rl
      rw [if_neg (by omega), eT, if_neg hn, if_neg hbad, if_neg (by omega), hc, Int.toNat_natCast, if_neg (by omega)]
    rw [hr]
    simp only
    rw [if_neg (by omega)]
    split
    · exact rh_lEnd2 s w hm h1 hx1 hx2 h3 hy hn' hz hz2 c (by rw [e1]; omega) (by rw [e1]; omega) (by omega) hq (by omega)
    · have := rh_lOk s w hm h1 hx1 hx2 h3 hy hn' hz hz2 c (by rw [e1]; omega) (by rw [e1]; omega) (by omega) hq (by omega)
      rw [e0, e1, show ((2 : Nat) : Int) + (b8 s 1 - 128) = 1 + (c : Int) + 1 by omega] at this
      exact this
  · have hr : rl (s.extract 1 s.size) = (5, 0, 0) := by
      unfold rl
      rw [if_neg (by omega), eT, if_neg hn, if_neg hbad, if_neg (by omega), hc, Int.toNat_natCast, if_pos hq]
    rw [hr]
    exact rh_no s w hm h1 hx1 hx2 h3 hy hn' hz hz2 c (by rw [e1]; omega) (by rw [e1]; omega) (by omega) hq

/-- A head lies in a block. -/
structure LiesH (w : World) (k : Nat) (c : Int) (b : Bool) (n z l : Int) : Prop where
  f0 : w.cell? ⟨k, 0, none⟩ = some (.int .i64 c)
  f1 : w.cell? ⟨k, 1, none⟩ = some (.bool b)
  f2 : w.cell? ⟨k, 2, none⟩ = some (.int .i64 n)
  f3 : w.cell? ⟨k, 3, none⟩ = some (.int .i64 z)
  f4 : w.cell? ⟨k, 4, none⟩ = some (.int .i64 l)
theorem LiesH.lt {w : World} {k : Nat} {c : Int} {b : Bool} {n z l : Int} (h : LiesH w k c b n z l) : k < w.heap.size := cell_lt h.f0
theorem LiesH.below {w w' : World} {k : Nat} {c : Int} {b : Bool} {n z l : Int} (h : LiesH w k c b n z l) (hb : Below w.heap.size w w') : LiesH w' k c b n z l :=
  ⟨(hb.cell h.lt).trans h.f0, (hb.cell h.lt).trans h.f1, (hb.cell h.lt).trans h.f2, (hb.cell h.lt).trans h.f3, (hb.cell h.lt).trans h.f4⟩
theorem LiesH.new (w : World) (c : Int) (b : Bool) (n z l : Int) (T : TypeId) : LiesH (w.alloc (.cells #[.int .i64 c, .bool b, .int .i64 n, .int .i64 z, .int .i64 l] T)) w.heap.size c b n z l :=
  ⟨by simp, by simp, by simp, by simp, by simp⟩
theorem LiesH.alloc {w : World} {k : Nat} {c : Int} {b : Bool} {n z l : Int} (h : LiesH w k c b n z l) (o : Obj) : LiesH (w.alloc o) k c b n z l := h.below ((Below.refl _ _).alloc (Nat.le_refl _) _)
end Go.Proofs.YtkkicodfpekbgaaGreatDoor

/-! The document's reader: head. -/
namespace Go.Proofs.YtkkicodfpekbgaaGreatDoor
set_option linter.unusedSimpArgs false
set_option linter.unusedVariables false
open Go.RowKit

set_option maxHeartbeats 2000000 in
set_option maxRecDepth 100000 in
theorem rdhead_any (W w : World) (R : Nat) (a : Option Addr) (n c : Nat) (data : ByteArray) (tree : List Vl) (p : Int) (x y : Nat) (h : RdI W w R a n c data tree 0 p) (hxy : x ≤ y) (hy : y ≤ data.size) (hm : data.size ≤ 140737488355328) :
    Calls Tryz.prog 101 #[.pointer (some ⟨R, 0, none⟩), .int .i64 x, .int .i64 y] w fun e w' => e = .returned (hv (hd (data.extract x y)).2) ∧ RdI W w' R a n c data tree (hd (data.extract x y)).1 (if (hd (data.extract x y)).1 = 0 then p else x) ∧ Fr R w w' := by
  have HI : Hid (RdI W w R a n c data tree 0 p) := h
  have HH : Hid (∀ w, Calls Tryz.prog 105 #[.string (data.extract x y)] w fun e w' => e = .returned (.tuple #[hv (hd (data.extract x y)).2, .int .i64 (hd (data.extract x y)).1]) ∧ Below w.heap.size w w') := fun w => rHead_any _ w (by simp; omega)
  obtain ⟨_, hlo, vt, hr, _⟩ := h
  unfold rdObj at hr
  have c1 : w.cell? ⟨R, 1, none⟩ = some (.string data) := by simp [World.cell?, hr]
  have c3 : w.cell? ⟨R, 3, none⟩ = some (.int .i64 0) := by simp [World.cell?, hr]
  have hRl : R < w.heap.size := lt_of_cell c1
  clear hr
  have hxy' : (x : Int) ≤ y := by omega
  have hy' : (y : Int) ≤ data.size := by omega
  generalize (hd (data.extract x y)).1 = k at HH ⊢
  generalize (hd (data.extract x y)).2 = H at HH ⊢
  obtain ⟨hc, hb, hn, hs, hl⟩ := H
  unfold hv at HH ⊢
  go_enter Tryz.func101, Tryz.ntmps101
  go_wp2_with fail
  refine (HH.out _).mono ?_
  rintro e w1 ⟨rfl, hb1⟩
  have HB1 : Hid (Below w.heap.size w w1) := below_alloc hb1
  have HG1 : Hid (w1.heap[w.heap.size]? = some (.cells #[.int .i64 0, .bool false, .int .i64 0, .int .i64 0, .int .i64 0] 179 (0, 0))) := block_below (heap_alloc_new w _) hb1
  have hs1 : w.heap.size < w1.heap.size := by have := hb1.size; simp at this; omega
  clear hb1
  have q0 : w1.cell? ⟨w.heap.size, 0, none⟩ = some (.int .i64 0) := by simp [World.cell?, HG1.out]
  have f0 : w1.frozen? ⟨w.heap.size, 0, none⟩ = false := by simp [World.frozen?, HG1.out]
  have q1 : w1.cell? ⟨w.heap.size, 1, none⟩ = some (.bool false) := by simp [World.cell?, HG1.out]
  have f1 : w1.frozen? ⟨w.heap.size, 1, none⟩ = false := by simp [World.frozen?, HG1.out]
  have q2 : w1.cell? ⟨w.heap.size, 2, none⟩ = some (.int .i64 0) := by simp [World.cell?, HG1.out]
  have f2 : w1.frozen? ⟨w.heap.size, 2, none⟩ = false := by simp [World.frozen?, HG1.out]
  have q3 : w1.cell? ⟨w.heap.size, 3, none⟩ = some (.int .i64 0) := by simp [World.cell?, HG1.out]
  have f3 : w1.frozen? ⟨w.heap.size, 3, none⟩ = false := by simp [World.frozen?, HG1.out]
  have q4 : w1.cell? ⟨w.heap.size, 4, none⟩ = some (.int .i64 0) := by simp [World.cell?, HG1.out]
  have f4 : w1.frozen? ⟨w.heap.size, 4, none⟩ = false := by simp [World.frozen?, HG1.out]
  have hne : w.heap.size ≠ R := by omega
  have hW : W.heap.size ≤ w.heap.size := by omega
  by_cases hk : k = 0
  · subst hk
    have HF : Hid (RdI W (w1.alloc (.cells #[.int .i64 hc, .bool hb, .int .i64 hn, .int .i64 hs, .int .i64 hl] 179)) R a n c data tree 0 p) := (HI.out.below HB1.out).below ((Below.refl _ _).alloc (Nat.le_refl _) _)
    have HG : Hid ((w1.alloc (.cells #[.int .i64 hc, .bool hb, .int .i64 hn, .int .i64 hs, .int .i64 hl] 179)).heap[w.heap.size]? = some (.cells #[.int .i64 0, .bool false, .int .i64 0, .int .i64 0, .int .i64 0] 179 (0, 0))) := block_below HG1.out ((Below.refl _ _).alloc (Nat.le_refl _) _)
    go_wp2
    refine bodyPost_ret (v := .agg #[.int .i64 hc, .bool hb, .int .i64 hn, .int .i64 hs, .int .i64 hl]) (by simp [results, Tryz.results101, go_sem, hs1, q0, q1, q2, q3, q4]) rfl ⟨rfl, ?_, ?_⟩
    · exact ((HI.out.below HB1.out).set5 hW hne (by decide) HG1.out _ _ _ _ _).below ((Below.refl _ _).alloc (Nat.le_refl _) _)
    · exact ((Fr.of_below HB1.out).set5 (Nat.le_refl _) _ _ _ _ _).trans (Fr.of_below ((Below.refl _ _).alloc (Nat.le_refl _) _))
  · have hk' : (k != 0) = true := by simp [hk]
    have HK : Hid (¬ k = 0) := hk
    clear hk
    have HF : Hid (RdI W (w1.alloc (.cells #[.int .i64 hc, .bool hb, .int .i64 hn, .int .i64 hs, .int .i64 hl] 179)) R a n c data tree 0 p) := (HI.out.below HB1.out).below ((Below.refl _ _).alloc (Nat.le_refl _) _)
    have HG : Hid ((w1.alloc (.cells #[.int .i64 hc, .bool hb, .int .i64 hn, .int .i64 hs, .int .i64 hl] 179)).heap[w.heap.size]? = some (.cells #[.int .i64 0, .bool false, .int .i64 0, .int .i64 0, .int .i64 0] 179 (0, 0))) := block_below HG1.out ((Below.refl _ _).alloc (Nat.le_refl _) _)
    go_wp2_with fail
    refine (stop_first W _ R a n c data tree p k x HF.out).mono ?_
    rintro e w2 ⟨rfl, hI2, hoth⟩
    have HI2 : Hid (RdI W w2 R a n c data tree k x) := hI2
    have HG2 : Hid (w2.heap[w.heap.size]? = some (.cells #[.int .i64 0, .bool false, .int .i64 0, .int .i64 0, .int .i64 0] 179 (0, 0))) := (hoth _ hne).trans HG.out
    have hG3 : w2.heap[w1.heap.size]? = some (.cells #[.int .i64 hc, .bool hb, .int .i64 hn, .int .i64 hs, .int .i64 hl] 179 (0, 0)) := (hoth _ (by omega)).trans (heap_alloc_new w1 _)
    have r0 : w2.cell? ⟨w.heap.size, 0, none⟩ = some (.int .i64 0) := by simp [World.cell?, HG2.out]
    have g0 : w2.frozen? ⟨w.heap.size, 0, none⟩ = false := by simp [World.frozen?, HG2.out]
    have r1 : w2.cell? ⟨w.heap.size, 1, none⟩ = some (.bool false) := by simp [World.cell?, HG2.out]
    have g1 : w2.frozen? ⟨w.heap.size, 1, none⟩ = false := by simp [World.frozen?, HG2.out]
    have r2 : w2.cell? ⟨w.heap.size, 2, none⟩ = some (.int .i64 0) := by simp [World.cell?, HG2.out]
    have g2 : w2.frozen? ⟨w.heap.size, 2, none⟩ = false := by simp [World.frozen?, HG2.out]
    have r3 : w2.cell? ⟨w.heap.size, 3, none⟩ = some (.int .i64 0) := by simp [World.cell?, HG2.out]
    have g3 : w2.frozen? ⟨w.heap.size, 3, none⟩ = false := by simp [World.frozen?, HG2.out]
    have r4 : w2.cell? ⟨w.heap.size, 4, none⟩ = some (.int .i64 0) := by simp [World.cell?, HG2.out]
    have g4 : w2.frozen? ⟨w.heap.size, 4, none⟩ = false := by simp [World.frozen?, HG2.out]
    have t0 : w2.cell? ⟨w1.heap.size, 0, none⟩ = some (.int .i64 hc) := by simp [World.cell?, hG3]
    have t1 : w2.cell? ⟨w1.heap.size, 1, none⟩ = some (.bool hb) := by simp [World.cell?, hG3]
    have t2 : w2.cell? ⟨w1.heap.size, 2, none⟩ = some (.int .i64 hn) := by simp [World.cell?, hG3]
    have t3 : w2.cell? ⟨w1.heap.size, 3, none⟩ = some (.int .i64 hs) := by simp [World.cell?, hG3]
    have t4 : w2.cell? ⟨w1.heap.size, 4, none⟩ = some (.int .i64 hl) := by simp [World.cell?, hG3]
    have HFR : Hid (Fr R w w2) := ((Fr.of_below HB1.out).trans (Fr.of_below ((Below.refl _ _).alloc (Nat.le_refl _) _))).trans (Fr.of_same hoth)
    clear hI2 hoth hG3 q0 q1 q2 q3 q4 f0 f1 f2 f3 f4
    go_wp2
    refine bodyPost_ret (v := .agg #[.int .i64 hc, .bool hb, .int .i64 hn, .int .i64 hs, .int .i64 hl]) (by simp [results, Tryz.results101, go_sem, r0, r1, r2, r3, r4]) rfl ⟨rfl, ?_, ?_⟩
    · exact HI2.out.set5 hW hne (by decide) HG2.out _ _ _ _ _
    · exact HFR.out.set5 (Nat.le_refl _) _ _ _ _ _
end Go.Proofs.YtkkicodfpekbgaaGreatDoor

/-! The document's reader: bare, of the kinds 1 to 9. -/
namespace Go.Proofs.YtkkicodfpekbgaaGreatDoor
set_option linter.unusedSimpArgs false
set_option linter.unusedVariables false
open Go.RowKit

/-- What bare does: kinds 1 to 9. -/
def BareL (k cl nu : Int) (h : Hd) (data : ByteArray) (x z y : Nat) (dp : Int) (tree : List Vl) (p : Int) (tree' : List Vl) (e' p' : Int) : Prop :=
  (¬ (h.c = cl ∧ h.n = nu ∧ h.b = false) ∧ tree' = tree ∧ e' = 4 ∧ p' = x) ∨
  ((h.c = cl ∧ h.n = nu ∧ h.b = false) ∧ 12 < dp ∧ tree' = tree ∧ e' = 10 ∧ p' = x) ∨
  ((h.c = cl ∧ h.n = nu ∧ h.b = false) ∧ dp ≤ 12 ∧ ContentOk k (data.extract (x + z) y) ∧ tree' = tree ++ [⟨k, data.extract (x + z) y, 0, 0⟩] ∧ e' = 0 ∧ p' = p) ∨
  ((h.c = cl ∧ h.n = nu ∧ h.b = false) ∧ dp ≤ 12 ∧ ¬ ContentOk k (data.extract (x + z) y) ∧ tree' = tree ∧ e' = 6 ∧ p' = x)
/-- What a method of the reader leaves. -/
def RetR (W w : World) (R : Nat) (a : Option Addr) (n c : Nat) (data : ByteArray) (v : Value) (Q : List Vl → Int → Int → Prop) (e : Ending) (w' : World) : Prop :=
  e = .returned v ∧ ∃ tree' e' p', RdI W w' R a n c data tree' e' p' ∧ Q tree' e' p' ∧ Fr R w w'

set_option maxHeartbeats 4000000 in
set_option maxRecDepth 100000 in
theorem bare_leaf (W w : World) (R : Nat) (a : Option Addr) (n c : Nat) (data : ByteArray) (tree : List Vl) (p : Int) (N : Nd) (ka : Option Addr) (kc : Nat) (cl nu : Int) (hc : Int) (hb : Bool) (hn : Int) (z : Nat) (hl : Int) (x y : Nat) (dp : Int)
    (h : RdI W w R a n c data tree 0 p) (hk1 : 1 ≤ N.kind) (hk9 : N.kind ≤ 9) (hxy : x + z ≤ y) (hy : y ≤ data.size) (hm : data.size ≤ 140737488355328) (ht : tree.length ≤ 1099511627776) :
    Calls Tryz.prog 102 #[.pointer (some ⟨R, 0, none⟩), .agg #[.int .i64 N.kind, .int .i64 N.tag, .int .i64 N.mode, .slice ka N.kids.length kc], .int .i64 cl, .int .i64 nu, .agg #[.int .i64 hc, .bool hb, .int .i64 hn, .int .i64 z, .int .i64 hl], .int .i64 x, .int .i64 y, .int .i64 dp] w
      fun e w' => RetR W w R a n c data (.tuple #[]) (BareL N.kind cl nu ⟨hc, hb, hn, z, hl⟩ data x z y dp tree p) e w' := by
  have HI : Hid (RdI W w R a n c data tree 0 p) := h
  have HC : Hid (∀ w, Calls Tryz.prog 108 #[.int .i64 N.kind, .string (data.extract (x + z) y)] w fun e w' => RetB (ContentOk N.kind (data.extract (x + z) y)) w e w') := fun w => isContent_any _ _ w (by simp; omega)
  obtain ⟨_, hlo, vt, hr, _⟩ := h
  unfold rdObj at hr
  have c1 : w.cell? ⟨R, 1, none⟩ = some (.string data) := by simp [World.cell?, hr]
  have hRl : R < w.heap.size := lt_of_cell c1
  clear hr
  have k13 : (N.kind == 13) = false := by rw [beq_eq_false_iff_ne]; omega
  have k14 : (N.kind == 14) = false := by rw [beq_eq_false_iff_ne]; omega
  have k14' : (N.kind != 14) = true := by rw [bne_iff_ne]; omega
  have k10 : (N.kind == 10) = false := by rw [beq_eq_false_iff_ne]; omega
  have k10' : N.kind < 10 := by omega
  have HW1 : Hid (∀ o1 o2, RdI W ((w.alloc o1).alloc o2) R a n c data tree 0 p) := fun o1 o2 => (HI.out.below ((Below.refl _ _).alloc (Nat.le_refl _) _)).below ((Below.refl _ _).alloc (Nat.le_refl _) _)
  have FW : Hid (∀ o1 o2 k, Fr R w (((w.alloc o1).alloc o2).drewN k)) := fun o1 o2 k => Fr.of_below (below_drewN (((Below.refl w.heap.size w).alloc (Nat.le_refl _) o1).alloc (by simp) o2) k)
  by_cases q : hc = cl ∧ hn = nu ∧ hb = false
  · have HQ : Hid (hc = cl ∧ hn = nu ∧ hb = false) := q
    obtain ⟨rfl, rfl, rfl⟩ := q
    by_cases hd : 12 < dp
    · have HD : Hid (12 < dp) := hd
      go_enter Tryz.func102, Tryz.ntmps102
      go_wp2_with fail
      refine (stop_first W _ R a n c data tree p 10 x (HW1.out _ _)).mono ?_
      rintro e w2 ⟨rfl, hI2, hoth⟩
      have HI2 : Hid (RdI W w2 R a n c data tree 10 x) := hI2
      have HFR : Hid (Fr R w w2) := (FW.out _ _ 0).trans (Fr.of_same hoth)
      clear hI2 hoth
      go_wp2
      go_end0
      exact ⟨rfl, tree, 10, x, HI2.out, .inr (.inl ⟨⟨rfl, rfl, rfl⟩, HD.out, rfl, rfl, rfl⟩), HFR.out⟩
    · have hd' : dp ≤ 12 := by omega
      have HD : Hid (dp ≤ 12) := hd'
      have hxy' : (x : Int) + z ≤ y := by omega
      have hy' : (y : Int) ≤ data.size := by omega
      have hx0 : (x : Int) + z ≤ 140737488355328 := by omega
      clear hd
      go_enter Tryz.func102, Tryz.ntmps102
      go_wp2_with fail
      go_quiet (fail)
      go_wp2_with fail
      refine (HC.out _).mono ?_
      rintro e w2 ⟨r, rfl, hr2, kq, rfl⟩
      have HR2 : Hid (r = true ↔ ContentOk N.kind (data.extract (x + z) y)) := hr2
      clear hr2
      cases r
      · go_wp2_with fail
        refine (stop_first W _ R a n c data tree p 6 x ((HW1.out _ _).below (below_drewN (Below.refl _ _) _))).mono ?_
        rintro e w3 ⟨rfl, hI3, hoth⟩
        have HI3 : Hid (RdI W w3 R a n c data tree 6 x) := hI3
        have HFR : Hid (Fr R w w3) := (FW.out _ _ _).trans (Fr.of_same hoth)
        clear hI3 hoth
        go_wp2
        go_end0
        exact ⟨rfl, tree, 6, x, HI3.out, .inr (.inr (.inr ⟨⟨rfl, rfl, rfl⟩, HD.out, fun h => Bool.noConfusion (HR2.out.2 h), rfl, rfl, rfl⟩)), HFR.out⟩
      · go_wp2_with fail
        refine (put_any W _ R a n c data tree 0 p ⟨N.kind, data.extract (x + z) y, 0, 0⟩ ((HW1.out _ _).below (below_drewN (Below.refl _ _) _)) ht).mono ?_
        rintro e w3 ⟨rfl, hI3, hfr⟩
        have HI3 : Hid (RdI W w3 R a n c data (tree ++ [⟨N.kind, data.extract (x + z) y, 0, 0⟩]) 0 p) := hI3
        have HFR : Hid (Fr R w w3) := (FW.out _ _ _).trans hfr
        clear hI3 hfr
        go_wp2
        go_end0
        exact ⟨rfl, _, 0, p, HI3.out, .inr (.inr (.inl ⟨⟨rfl, rfl, rfl⟩, HD.out, HR2.out.1 trivial, rfl, rfl, rfl⟩)), HFR.out⟩
  · have HQ : Hid (¬ (hc = cl ∧ hn = nu ∧ hb = false)) := q
    have q' : (hc != cl) = true ∨ ((hc != cl) = false ∧ (hn != nu) = true) ∨ ((hc != cl) = false ∧ (hn != nu) = false ∧ hb = true) := by
      by_cases q1 : hc = cl
      · by_cases q2 : hn = nu
        · right; right
          refine ⟨by simp [q1], by simp [q2], ?_⟩
          cases hb
          · exact absurd ⟨q1, q2, rfl⟩ q
          · rfl
        · right; left; exact ⟨by simp [q1], by simp [q2]⟩
      · left; simp [q1]
    clear q
    rcases q' with e1 | ⟨e1, e2⟩ | ⟨e1, e2, rfl⟩
    · go_enter Tryz.func102, Tryz.ntmps102
      go_wp2_with fail
      refine (stop_first W _ R a n c data tree p 4 x (HW1.out _ _)).mono ?_
      rintro e w2 ⟨rfl, hI2, hoth⟩
      have HI2 : Hid (RdI W w2 R a n c data tree 4 x) := hI2
      have HFR : Hid (Fr R w w2) := (FW.out _ _ 0).trans (Fr.of_same hoth)
      clear hI2 hoth
      go_wp2
      go_end0
      exact ⟨rfl, tree, 4, x, HI2.out, .inl ⟨HQ.out, rfl, rfl, rfl⟩, HFR.out⟩
    · go_enter Tryz.func102, Tryz.ntmps102
      go_wp2_with fail
      refine (stop_first W _ R a n c data tree p 4 x (HW1.out _ _)).mono ?_
      rintro e w2 ⟨rfl, hI2, hoth⟩
      have HI2 : Hid (RdI W w2 R a n c data tree 4 x) := hI2
      have HFR : Hid (Fr R w w2) := (FW.out _ _ 0).trans (Fr.of_same hoth)
      clear hI2 hoth
      go_wp2
      go_end0
      exact ⟨rfl, tree, 4, x, HI2.out, .inl ⟨HQ.out, rfl, rfl, rfl⟩, HFR.out⟩
    · go_enter Tryz.func102, Tryz.ntmps102
      go_wp2_with fail
      refine (stop_first W _ R a n c data tree p 4 x (HW1.out _ _)).mono ?_
      rintro e w2 ⟨rfl, hI2, hoth⟩
      have HI2 : Hid (RdI W w2 R a n c data tree 4 x) := hI2
      have HFR : Hid (Fr R w w2) := (FW.out _ _ 0).trans (Fr.of_same hoth)
      clear hI2 hoth
      go_wp2
      go_end0
      exact ⟨rfl, tree, 4, x, HI2.out, .inl ⟨HQ.out, rfl, rfl, rfl⟩, HFR.out⟩
end Go.Proofs.YtkkicodfpekbgaaGreatDoor

/-! hallmarkref.Own: the number of a kind's own tag. -/
namespace Go.Proofs.YtkkicodfpekbgaaGreatDoor
set_option linter.unusedSimpArgs false
set_option linter.unusedVariables false
open Go.RowKit

set_option maxHeartbeats 1000000 in
set_option maxRecDepth 100000 in
theorem own_any (k : Int) (h : 0 ≤ k) (h' : k ≤ 12) (w : World) :
    Calls Tryz.prog 142 #[.int .i64 k] w fun e w' => e = .returned (.int .i64 (own k)) ∧ Below w.heap.size w w' := by
  obtain ⟨n, rfl⟩ : ∃ n : Nat, k = n := ⟨k.toNat, by omega⟩
  have hn : n ≤ 12 := by omega
  clear h h'
  match n, hn with
  | 0, _ | 1, _ | 2, _ | 3, _ | 4, _ | 5, _ | 6, _ | 7, _ | 8, _ | 9, _ | 10, _ | 11, _ | 12, _ =>
    go_enter Tryz.func142, Tryz.ntmps142
    go_wp2
    go_ret
    exact ⟨rfl, (Below.refl _ _).alloc (Nat.le_refl _) _⟩
end Go.Proofs.YtkkicodfpekbgaaGreatDoor

/-! The document's reader: Own0, node of the kinds 1 to 9. -/
namespace Go.Proofs.YtkkicodfpekbgaaGreatDoor
set_option linter.unusedSimpArgs false
set_option linter.unusedVariables false
open Go.RowKit

theorem hd_ok {r : ByteArray} (h : (hd r).1 = 0) : 1 ≤ (hd r).2.s ∧ 0 ≤ (hd r).2.l ∧ (hd r).2.s + (hd r).2.l ≤ r.size := by
  have hr := rl_bd (r.extract 1 r.size)
  unfold hd at h ⊢
  repeat' split at h
  all_goals first | (exfalso; simp at h; done) | skip
  · rename_i h1; exfalso; exact h1 h
  · rename_i h1 h2 h3 h4
    rw [if_neg h1, if_neg h2, if_neg h3, if_neg h4]
    simp only
    omega

set_option maxHeartbeats 1000000 in
set_option maxRecDepth 100000 in
theorem own0_any (k : Int) (h : 0 ≤ k) (h' : k ≤ 12) (w : World) :
    Calls Tryz.prog 103 #[.int .i64 k] w fun e w' => e = .returned (.int .i64 (own k)) ∧ Below w.heap.size w w' := by
  have HO : Hid (∀ w, Calls Tryz.prog 142 #[.int .i64 k] w fun e w' => e = .returned (.int .i64 (own k)) ∧ Below w.heap.size w w') := fun w => own_any k h h' w
  go_enter Tryz.func103, Tryz.ntmps103
  go_wp2_with fail
  refine (HO.out _).mono ?_
  rintro e w1 ⟨rfl, hb⟩
  have HB : Hid (Below w.heap.size w w1) := hb
  clear hb
  go_wp2
  go_ret
  exact ⟨rfl, HB.out⟩

/-- An element of a node (kinds 1 to 9) at a place: where it ends, and its content. -/
def NodeAt (N : Nd) (data : ByteArray) (x y : Nat) (dp : Int) (to : Nat) (u : ByteArray) : Prop :=
  dp ≤ 12 ∧ (hd (data.extract x y)).1 = 0 ∧ (to : Int) = x + (hd (data.extract x y)).2.s + (hd (data.extract x y)).2.l ∧
  ((N.tag < 0 ∧ (hd (data.extract x y)).2.c = 0 ∧ (hd (data.extract x y)).2.n = own N.kind ∧ (hd (data.extract x y)).2.b = false ∧ u = data.extract (x + (hd (data.extract x y)).2.s.toNat) to ∧ ContentOk N.kind u) ∨
   (0 ≤ N.tag ∧ N.mode = 0 ∧ (hd (data.extract x y)).2.c = 2 ∧ (hd (data.extract x y)).2.n = N.tag ∧ (hd (data.extract x y)).2.b = false ∧ u = data.extract (x + (hd (data.extract x y)).2.s.toNat) to ∧ ContentOk N.kind u) ∨
   (0 ≤ N.tag ∧ N.mode ≠ 0 ∧ (hd (data.extract x y)).2.c = 2 ∧ (hd (data.extract x y)).2.n = N.tag ∧ (hd (data.extract x y)).2.b = true ∧
     ∃ t, t = data.extract (x + (hd (data.extract x y)).2.s.toNat) to ∧ (hd t).1 = 0 ∧ (hd t).2.c = 0 ∧ (hd t).2.n = own N.kind ∧ (hd t).2.b = false ∧ (x : Int) + (hd (data.extract x y)).2.s + (hd t).2.s + (hd t).2.l = to ∧
       u = data.extract (x + (hd (data.extract x y)).2.s.toNat + (hd t).2.s.toNat) to ∧ ContentOk N.kind u))
/-- What node leaves: kinds 1 to 9. -/
def RetN (W : World) (R : Nat) (a : Option Addr) (n c : Nat) (data : ByteArray) (N : Nd) (x y : Nat) (dp : Int) (tree : List Vl) (e : Ending) (w' : World) : Prop :=
  ∃ (v : Int) (tree' : List Vl) (e' p' : Int), e = .returned (.int .i64 v) ∧ RdI W w' R a n c data tree' e' p' ∧
    ((e' = 0 ∧ ∃ to u, v = (to : Nat) ∧ NodeAt N data x y dp to u ∧ tree' = tree ++ [⟨N.kind, u, 0, 0⟩]) ∨ (e' ≠ 0 ∧ ∀ to u, ¬ NodeAt N data x y dp to u))
end Go.Proofs.YtkkicodfpekbgaaGreatDoor

/-! hallmarkref.Begins: what it answers. -/
namespace Go.Proofs.YtkkicodfpekbgaaGreatDoor
set_option linter.unusedSimpArgs false
set_option linter.unusedVariables false
open Go.RowKit

theorem own_form {w : World} {base e size : Nat} {v : Value} {n : Nat} {xs : List Value} (h : w.ownsRow base e size v n xs) : ∃ a cap, v = .slice a n cap ∧ (0 < n → ∃ g, a = some ⟨g, 0, none⟩) := by
  rcases h.2 with ⟨hv, hn⟩ | ⟨g, cap, cur, hv, _⟩
  · subst hn; exact ⟨none, 0, hv, fun h => absurd h (Nat.lt_irrefl _)⟩
  · exact ⟨_, cap, hv, fun _ => ⟨g, rfl⟩⟩
/-- The kinds are those that there are. -/
def Kinds (s : List Nd) : Prop := ∀ j, j < s.length → 1 ≤ (nd s j).kind ∧ (nd s j).kind ≤ 14

set_option maxHeartbeats 4000000 in
set_option maxRecDepth 100000 in
theorem begins_any (s : List Nd) (a : Option Addr) (cp i : Nat) (c m : Int) (w : World) (hs : Sch w a s) (hw : Within s) (hkd : Kinds s) (hi : i < s.length) (hn : s.length ≤ 40) :
    Calls Tryz.prog 100 #[.slice a s.length cp, .int .i64 i, .int .i64 c, .int .i64 m] w fun e w' => RetO (Beg s i c m) w e w' := by
  have HS : Hid (Sch w a s) := hs
  have HW : Hid (Within s) := hw
  have HK : Hid (Kinds s) := hkd
  have HC : Hid (Calls Tryz.prog 37 #[.slice a s.length cp, .int .i64 i] w fun e w' => RetL s i w e w') := leaves_any s a cp i w hs hw hi hn
  clear hs hw hkd
  go_enter Tryz.func100, Tryz.ntmps100
  go_wp2_with fail
  refine HC.out.mono ?_
  rintro e w1 ⟨v, l, bk, rfl, hown, hb, hl, hlf, _⟩
  obtain ⟨va, vc, rfl, hva⟩ := own_form hown
  have HO : Hid (w1.ownsRow w.heap.size 3 1 (.slice va l.length vc) l.length (ivs l)) := hown
  have HB : Hid (Below w.heap.size w w1) := hb
  have HF : Hid (∀ j, j ∈ l ↔ Leaf s i j) := hlf
  have HA : Hid (0 < l.length → ∃ g, va = some ⟨g, 0, none⟩) := hva
  clear hown hb hlf hva HC
  go_wp2
  go_loopw [11] (fun vk wr => ∃ k : Nat, k ≤ l.length ∧ vk = .int .i64 k ∧ (∀ p, p < k → ¬ begAt (nd s (l.getD p 0)) c m) ∧ Below w1.heap.size w1 wr) (fun vk _ => l.length - (intOf vk).toNat)
  case atStart => exact ⟨0, Nat.zero_le _, rfl, fun p hp => absurd hp (Nat.not_lt_zero _), Below.refl _ _⟩
  case round =>
    obtain ⟨k, hk, rfl, hno, hbr⟩ := hrel
    have HN : Hid (∀ p, p < k → ¬ begAt (nd s (l.getD p 0)) c m) := hno
    have HBR : Hid (Below w1.heap.size w1 wr) := hbr
    by_cases hlt : k < l.length
    · obtain ⟨g, rfl⟩ := HA.out (by omega)
      have ck := own_cell (own_below HO.out hbr) hlt
      have HX : Hid (l.getD k 0 ∈ l) := by show _ ∈ l; rw [List.getD_eq_getElem?_getD, List.getElem?_eq_getElem hlt]; exact List.getElem_mem hlt
      generalize hx : l.getD k 0 = x at ck HX
      have HXE : Hid (l.getD k 0 = x) := hx
      have hxs : x < s.length := ((HF.out x).1 HX.out).1.lt HW.out hi
      have hkx := HK.out x hxs
      have HLX : Hid (Leaf s i x) := (HF.out x).1 HX.out
      obtain ⟨b, o, ka, kc, rfl, nc, kl, km, ks⟩ := HS.out x hxs
      have HBW : Hid (Below w.heap.size w wr) := HB.out.trans (hbr.mono HB.out.size)
      obtain ⟨n1, n2, n3, n4⟩ := nc.below HBW.out
      have hlt' : (k : Int) < l.length := by omega
      have hxs' : (x : Int) < s.length := by omega
      have NX : Hid (∀ (h : ¬ begAt (nd s x) c m), ∀ p, p < k + 1 → ¬ begAt (nd s (l.getD p 0)) c m) := fun h p hp => by
        by_cases e : p = k
        · subst e; rw [HXE.out]; exact h
        · exact HN.out p (by omega)
      have YES : Hid (begAt (nd s x) c m → Beg s i c m) := fun h => ⟨x, HLX.out, h⟩
      clear hno hbr hx nc ks
      by_cases ht : 0 ≤ (nd s x).tag
      · by_cases hc : c = 2
        · subst hc
          by_cases hm : m = (nd s x).tag
          · have HH : Hid (begAt (nd s x) 2 m) := .inl ⟨ht, rfl, hm⟩
            subst hm
            go_wp2
            go_ret
            exact reto_yes (YES.out HH.out) (HBW.out.alloc HBW.out.size _)
          · have HH : Hid (¬ begAt (nd s x) 2 m) := fun h => by rcases h with h | h | h <;> omega
            have hm' : (m == (nd s x).tag) = false := by rw [beq_eq_false_iff_ne]; exact hm
            clear hm
            go_wp2
            go_roundw
            case rel => exact ⟨k + 1, by omega, by go_num, NX.out HH.out, HBR.out.alloc HBR.out.size _⟩
            case measure => simp [intOf]; omega
        · have HH : Hid (¬ begAt (nd s x) c m) := fun h => by rcases h with h | h | h <;> omega
          have hc' : (c == 2) = false := by rw [beq_eq_false_iff_ne]; exact hc
          clear hc
          go_wp2
          go_roundw
          case rel => exact ⟨k + 1, by omega, by go_num, NX.out HH.out, HBR.out.alloc HBR.out.size _⟩
          case measure => simp [intOf]; omega
      · have ht' : (nd s x).tag < 0 := by omega
        clear ht
        by_cases ha : (nd s x).kind = 14
        · have HH : Hid (begAt (nd s x) c m) := .inr (.inl ⟨ht', ha⟩)
          have ha' : ((nd s x).kind == 14) = true := by rw [beq_iff_eq]; exact ha
          clear ha hkx
          go_wp2
          go_ret
          exact reto_yes (YES.out HH.out) (HBW.out.alloc HBW.out.size _)
        · have ha' : ((nd s x).kind == 14) = false := by rw [beq_eq_false_iff_ne]; exact ha
          by_cases hc : c = 0
          · subst hc
            have HO1 : Hid (∀ w, Calls Tryz.prog 142 #[.int .i64 (nd s x).kind] w fun e w' => e = .returned (.int .i64 (own (nd s x).kind)) ∧ Below w.heap.size w w') := fun w => own_any _ (by omega) (by have h3 := HLX.out.2; have : (nd s x).kind ≠ 13 := fun e => h3 ⟨e, ht'⟩; omega) w
            by_cases hm : m = own (nd s x).kind
            · have HH : Hid (begAt (nd s x) 0 m) := .inr (.inr ⟨ht', ha, rfl, hm⟩)
              have hm' : (m == own (nd s x).kind) = true := by rw [beq_iff_eq]; exact hm
              clear hm ha
              go_wp2_with fail
              refine (HO1.out _).mono ?_
              rintro e w2 ⟨rfl, hb2⟩
              have HB2 : Hid (Below w.heap.size w w2) := HBW.out.trans ((below_alloc hb2).mono HBW.out.size)
              clear hb2
              go_wp2
              go_ret
              exact reto_yes (YES.out HH.out) HB2.out
            · have HH : Hid (¬ begAt (nd s x) 0 m) := fun h => by rcases h with h | h | h <;> omega
              have hm' : (m == own (nd s x).kind) = false := by rw [beq_eq_false_iff_ne]; exact hm
              clear hm ha
              go_wp2_with fail
              refine (HO1.out _).mono ?_
              rintro e w2 ⟨rfl, hb2⟩
              have HB2 : Hid (Below w1.heap.size w1 w2) := HBR.out.trans ((below_alloc hb2).mono HBR.out.size)
              clear hb2
              go_wp2
              go_roundw
              case rel => exact ⟨k + 1, by omega, by go_num, NX.out HH.out, HB2.out⟩
              case measure => simp [intOf]; omega
          · have HH : Hid (¬ begAt (nd s x) c m) := fun h => by rcases h with h | h | h <;> omega
            have hc' : (c == 0) = false := by rw [beq_eq_false_iff_ne]; exact hc
            clear hc ha
            go_wp2
            go_roundw
            case rel => exact ⟨k + 1, by omega, by go_num, NX.out HH.out, HBR.out.alloc HBR.out.size _⟩
            case measure => simp [intOf]; omega
    · have hlt' : (l.length : Int) ≤ k := by omega
      clear hno hbr
      go_wp2
      go_ret
      exact reto_no (fun ⟨j, hj, hbg⟩ => by
        obtain ⟨p, hp, e⟩ := List.getElem_of_mem ((HF.out j).2 hj)
        refine HN.out p (by omega) ?_
        rw [List.getD_eq_getElem?_getD, List.getElem?_eq_getElem hp]; simpa [e] using hbg) (HB.out.trans (HBR.out.mono HB.out.size))
end Go.Proofs.YtkkicodfpekbgaaGreatDoor

/-! What a schema is asked to be, as plain data. -/
namespace Go.Proofs.YtkkicodfpekbgaaGreatDoor
set_option linter.unusedSimpArgs false
set_option linter.unusedVariables false
open Go.RowKit

/-- What is behind it is never taken for what is ahead. -/
def Nd.stops (n : Nd) (k : Kd) : Prop := n.kind = 10 ∧ k.must
/-- The kid at a place. -/
def kd (n : Nd) (i : Nat) : Kd := n.kids.getD i kd0
/-- Kid by kid, up to a place: can they be told apart? (C: two nodes have a beginning in common.) -/
def ToldAt (C : Nat → Nat → Prop) (n : Nd) (i m : Nat) : Prop := n.stops (kd n i) ∨ ∀ k, i < k → k < m → (∀ j, i < j → j < k → ¬ n.stops (kd n j)) → ¬ C (kd n i).node.toNat (kd n k).node.toNat
def Told (C : Nat → Nat → Prop) (n : Nd) : Prop := ∀ i, i < n.kids.length → ToldAt C n i n.kids.length
/-- How many kids a kind has. -/
def Count (k : Int) (m : Nat) : Prop := if k = 10 then m ≤ 8 else if k = 11 ∨ k = 12 then m = 1 else if k = 13 then 1 ≤ m ∧ m ≤ 8 else m = 0
/-- A kid that may be, in a schema of so many nodes. -/
def KidOk (len : Nat) (n : Nd) (k : Kd) : Prop := 0 ≤ k.node ∧ k.node < len ∧ (k.must ∨ n.kind = 10) ∧ ¬ (k.opt = true ∧ k.dflt.size ≠ 0)
def Bad1 (n : Nd) : Prop := n.kind < 1 ∨ 14 < n.kind ∨ n.tag < -1 ∨ 30 < n.tag ∨ (n.mode ≠ 0 ∧ n.mode ≠ 1)
def Bad2 (n : Nd) : Prop := (n.mode = 1 ∧ n.tag = -1) ∨ ((n.kind = 13 ∨ n.kind = 14) ∧ 0 ≤ n.tag ∧ n.mode = 0)
/-- A node that is right by itself. -/
def Alone (len : Nat) (n : Nd) : Prop := ¬ Bad1 n ∧ ¬ Bad2 n ∧ Count n.kind n.kids.length ∧ ∀ j, j < n.kids.length → KidOk len n (kd n j)
/-- The whole text is an element of the node, with this content. -/
def ElemOk (N : Nd) (t u : ByteArray) : Prop := NodeAt N t 0 t.size 1 t.size u
/-- The Defaults of a node's kids are elements of these kids. -/
def DfltOk (s : List Nd) (n : Nd) (m : Nat) : Prop := ∀ j, j < m → (kd n j).dflt.size = 0 ∨ ((nd s (kd n j).node.toNat).kind ≤ 9 ∧ ∃ u, ElemOk (nd s (kd n j).node.toNat) (kd n j).dflt u)
/-- A schema is right. -/
def RightP (s : List Nd) : Prop := 1 ≤ s.length ∧ s.length ≤ 40 ∧ (∀ i, i < s.length → Alone s.length (nd s i)) ∧ (∀ i, i < s.length → ¬ Back s i) ∧
  ∀ i, i < s.length → ((nd s i).kind = 10 ∨ (nd s i).kind = 13 → Told (Common s) (nd s i)) ∧ DfltOk s (nd s i) (nd s i).kids.length
theorem within_of {s : List Nd} (h : ∀ i, i < s.length → Alone s.length (nd s i)) : Within s := fun i hi k hk => by
  obtain ⟨j, hj, e⟩ := List.getElem_of_mem hk
  have := (h i hi).2.2.2 j hj
  unfold kd at this
  rw [List.getD_eq_getElem?_getD, List.getElem?_eq_getElem hj] at this
  simp only [Option.getD_some, e] at this
  exact ⟨this.1, this.2.1⟩
theorem kinds_of {s : List Nd} (h : ∀ i, i < s.length → Alone s.length (nd s i)) : Kinds s := fun i hi => by have := (h i hi).1; unfold Bad1 at this; omega
theorem count8 {s : List Nd} (h : ∀ i, i < s.length → Alone s.length (nd s i)) {i : Nat} (hi : i < s.length) : (nd s i).kids.length ≤ 8 := by
  have := (h i hi).2.2.1
  unfold Count at this
  repeat' split at this
  all_goals omega
theorem mode_of {s : List Nd} (h : ∀ i, i < s.length → Alone s.length (nd s i)) {i : Nat} (hi : i < s.length) : (nd s i).mode = 0 ∨ (nd s i).mode = 1 := by have := (h i hi).1; unfold Bad1 at this; omega
end Go.Proofs.YtkkicodfpekbgaaGreatDoor
