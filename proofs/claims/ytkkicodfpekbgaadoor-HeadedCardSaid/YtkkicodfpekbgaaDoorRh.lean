/-
  The document's Head: what it answers.
-/
import Derived.Test.YtkkicodfpekbgaaDoorRg
namespace Go.Proofs.YtkkicodfpekbgaaDoor
open Go.RowKit

set_option maxHeartbeats 1000000 in
set_option maxRecDepth 100000 in
theorem rh_empty (s : ByteArray) (w : World) (_hm : s.size ≤ 9223372036854775807) (hz : s.size = 0) :
    Calls Tryd.prog 6 #[.string s] w fun e w' => e = .returned (.tuple #[.agg #[.int .i64 0, .bool false, .int .i64 0, .int .i64 0, .int .i64 0], .int .i64 3]) ∧ Below w.heap.size w w' := by
  have he := emp_t hz
  go_enter Tryd.func6, Tryd.ntmps6
  go_wp2
  exact bodyPost_ret (v := .tuple #[.agg #[.int .i64 0, .bool false, .int .i64 0, .int .i64 0, .int .i64 0], .int .i64 3]) (by simp [results, Tryd.results6, go_sem]) rfl ⟨rfl, ((Below.refl w.heap.size w).alloc (Nat.le_refl _) _).alloc (by simp) _⟩

set_option maxHeartbeats 1000000 in
set_option maxRecDepth 100000 in
theorem rh_tag (s : ByteArray) (w : World) (hm : s.size ≤ 9223372036854775807) (h1 : 1 ≤ s.size) (hx1 : (s[0].toNat : Int) < 256) (hx2 : ((s[0].toNat : Int) % 32 == 31) = true) :
    Calls Tryd.prog 6 #[.string s] w fun e w' => e = .returned (.tuple #[.agg #[.int .i64 0, .bool false, .int .i64 0, .int .i64 0, .int .i64 0], .int .i64 4]) ∧ Below w.heap.size w w' := by
  have he := emp_f (t := s) (by omega)
  go_enter Tryd.func6, Tryd.ntmps6
  go_wp2
  exact bodyPost_ret (v := .tuple #[.agg #[.int .i64 0, .bool false, .int .i64 0, .int .i64 0, .int .i64 0], .int .i64 4]) (by simp [results, Tryd.results6, go_sem]) rfl ⟨rfl, ((Below.refl w.heap.size w).alloc (Nat.le_refl _) _).alloc (by simp) _⟩

set_option maxHeartbeats 1000000 in
set_option maxRecDepth 100000 in
theorem rh_one (s : ByteArray) (w : World) (hm : s.size ≤ 9223372036854775807) (h1 : 1 ≤ s.size) (hx1 : (s[0].toNat : Int) < 256) (hx2 : ((s[0].toNat : Int) % 32 == 31) = false) (h2 : s.size < 2) :
    Calls Tryd.prog 6 #[.string s] w fun e w' => e = .returned (.tuple #[.agg #[.int .i64 0, .bool false, .int .i64 0, .int .i64 0, .int .i64 0], .int .i64 3]) ∧ Below w.heap.size w w' := by
  have he := emp_f (t := s) (by omega)
  go_enter Tryd.func6, Tryd.ntmps6
  go_wp2
  exact bodyPost_ret (v := .tuple #[.agg #[.int .i64 0, .bool false, .int .i64 0, .int .i64 0, .int .i64 0], .int .i64 3]) (by simp [results, Tryd.results6, go_sem]) rfl ⟨rfl, ((Below.refl w.heap.size w).alloc (Nat.le_refl _) _).alloc (by simp) _⟩

set_option maxHeartbeats 1000000 in
set_option maxRecDepth 100000 in
theorem rh_sEnd (s : ByteArray) (w : World) (hm : s.size ≤ 9223372036854775807) (h1 : 1 ≤ s.size) (hx1 : (s[0].toNat : Int) < 256) (hx2 : ((s[0].toNat : Int) % 32 == 31) = false) (h2 : 2 ≤ s.size) (hy : (s[1].toNat : Int) < 256) (hn : (s[1].toNat : Int) < 128) (hl : (s.size : Int) < 2 + (s[1].toNat : Int)) :
    Calls Tryd.prog 6 #[.string s] w fun e w' => e = .returned (.tuple #[.agg #[.int .i64 0, .bool false, .int .i64 0, .int .i64 0, .int .i64 0], .int .i64 3]) ∧ Below w.heap.size w w' := by
  have he := emp_f (t := s) (by omega)
  go_enter Tryd.func6, Tryd.ntmps6
  go_wp2
  exact bodyPost_ret (v := .tuple #[.agg #[.int .i64 0, .bool false, .int .i64 0, .int .i64 0, .int .i64 0], .int .i64 3]) (by simp [results, Tryd.results6, go_sem]) rfl ⟨rfl, ((Below.refl w.heap.size w).alloc (Nat.le_refl _) _).alloc (by simp) _⟩

set_option maxHeartbeats 1000000 in
set_option maxRecDepth 100000 in
theorem rh_sOk (s : ByteArray) (w : World) (hm : s.size ≤ 9223372036854775807) (h1 : 1 ≤ s.size) (hx1 : (s[0].toNat : Int) < 256) (hx2 : ((s[0].toNat : Int) % 32 == 31) = false) (h2 : 2 ≤ s.size) (hy : (s[1].toNat : Int) < 256) (hn : (s[1].toNat : Int) < 128) (hl : 2 + (s[1].toNat : Int) ≤ (s.size : Int)) :
    Calls Tryd.prog 6 #[.string s] w fun e w' => e = .returned (.tuple #[.agg #[.int .i64 ((s[0].toNat : Int) / 64), .bool ((s[0].toNat : Int) / 32 % 2 == 1), .int .i64 ((s[0].toNat : Int) % 32), .int .i64 2, .int .i64 (s[1].toNat : Int)], .int .i64 0]) ∧ Below w.heap.size w w' := by
  have he := emp_f (t := s) (by omega)
  go_enter Tryd.func6, Tryd.ntmps6
  go_wp2
  exact bodyPost_ret (v := .tuple #[.agg #[.int .i64 ((s[0].toNat : Int) / 64), .bool ((s[0].toNat : Int) / 32 % 2 == 1), .int .i64 ((s[0].toNat : Int) % 32), .int .i64 2, .int .i64 (s[1].toNat : Int)], .int .i64 0]) (by simp [results, Tryd.results6, go_sem]) rfl ⟨rfl, ((Below.refl w.heap.size w).alloc (Nat.le_refl _) _).alloc (by simp) _⟩

set_option maxHeartbeats 1000000 in
set_option maxRecDepth 100000 in
theorem rh_bad0 (s : ByteArray) (w : World) (hm : s.size ≤ 9223372036854775807) (h1 : 1 ≤ s.size) (hx1 : (s[0].toNat : Int) < 256) (hx2 : ((s[0].toNat : Int) % 32 == 31) = false) (h2 : 2 ≤ s.size) (hy : (s[1].toNat : Int) < 256) (hn : 128 ≤ (s[1].toNat : Int)) (hz : ((s[1].toNat : Int) - 128 == 0) = true) :
    Calls Tryd.prog 6 #[.string s] w fun e w' => e = .returned (.tuple #[.agg #[.int .i64 0, .bool false, .int .i64 0, .int .i64 0, .int .i64 0], .int .i64 5]) ∧ Below w.heap.size w w' := by
  have he := emp_f (t := s) (by omega)
  go_enter Tryd.func6, Tryd.ntmps6
  go_wp2
  exact bodyPost_ret (v := .tuple #[.agg #[.int .i64 0, .bool false, .int .i64 0, .int .i64 0, .int .i64 0], .int .i64 5]) (by simp [results, Tryd.results6, go_sem]) rfl ⟨rfl, ((Below.refl w.heap.size w).alloc (Nat.le_refl _) _).alloc (by simp) _⟩

set_option maxHeartbeats 1000000 in
set_option maxRecDepth 100000 in
theorem rh_bad1 (s : ByteArray) (w : World) (hm : s.size ≤ 9223372036854775807) (h1 : 1 ≤ s.size) (hx1 : (s[0].toNat : Int) < 256) (hx2 : ((s[0].toNat : Int) % 32 == 31) = false) (h2 : 2 ≤ s.size) (hy : (s[1].toNat : Int) < 256) (hn : 128 ≤ (s[1].toNat : Int)) (hz : ((s[1].toNat : Int) - 128 == 0) = false) (hz2 : 3 < (s[1].toNat : Int) - 128) :
    Calls Tryd.prog 6 #[.string s] w fun e w' => e = .returned (.tuple #[.agg #[.int .i64 0, .bool false, .int .i64 0, .int .i64 0, .int .i64 0], .int .i64 5]) ∧ Below w.heap.size w w' := by
  have he := emp_f (t := s) (by omega)
  go_enter Tryd.func6, Tryd.ntmps6
  go_wp2
  exact bodyPost_ret (v := .tuple #[.agg #[.int .i64 0, .bool false, .int .i64 0, .int .i64 0, .int .i64 0], .int .i64 5]) (by simp [results, Tryd.results6, go_sem]) rfl ⟨rfl, ((Below.refl w.heap.size w).alloc (Nat.le_refl _) _).alloc (by simp) _⟩

set_option maxHeartbeats 1000000 in
set_option maxRecDepth 100000 in
theorem rh_lEnd (s : ByteArray) (w : World) (hm : s.size ≤ 9223372036854775807) (h1 : 1 ≤ s.size) (hx1 : (s[0].toNat : Int) < 256) (hx2 : ((s[0].toNat : Int) % 32 == 31) = false) (h2 : 2 ≤ s.size) (hy : (s[1].toNat : Int) < 256) (hn : 128 ≤ (s[1].toNat : Int)) (hz : ((s[1].toNat : Int) - 128 == 0) = false) (hz2 : (s[1].toNat : Int) - 128 ≤ 3) (hl : (s.size : Int) < 2 + ((s[1].toNat : Int) - 128)) :
    Calls Tryd.prog 6 #[.string s] w fun e w' => e = .returned (.tuple #[.agg #[.int .i64 0, .bool false, .int .i64 0, .int .i64 0, .int .i64 0], .int .i64 3]) ∧ Below w.heap.size w w' := by
  have he := emp_f (t := s) (by omega)
  go_enter Tryd.func6, Tryd.ntmps6
  go_wp2
  exact bodyPost_ret (v := .tuple #[.agg #[.int .i64 0, .bool false, .int .i64 0, .int .i64 0, .int .i64 0], .int .i64 3]) (by simp [results, Tryd.results6, go_sem]) rfl ⟨rfl, ((Below.refl w.heap.size w).alloc (Nat.le_refl _) _).alloc (by simp) _⟩

set_option maxHeartbeats 1000000 in
set_option maxRecDepth 100000 in
theorem rh_no (s : ByteArray) (w : World) (hm : s.size ≤ 9223372036854775807) (h1 : 1 ≤ s.size) (hx1 : (s[0].toNat : Int) < 256) (hx2 : ((s[0].toNat : Int) % 32 == 31) = false) (h2 : 2 ≤ s.size) (hy : (s[1].toNat : Int) < 256) (hn : 128 ≤ (s[1].toNat : Int)) (hz : ((s[1].toNat : Int) - 128 == 0) = false) (hz2 : (s[1].toNat : Int) - 128 ≤ 3) (c : Nat) (hb1 : (s[1].toNat : Int) - 128 ≤ c) (hb2 : c ≤ (s[1].toNat : Int) - 128) (hl : 2 + (c : Int) ≤ (s.size : Int)) (hq : ¬ (c : Int) = cnt (numTo (s.extract 1 s.size) c)) :
    Calls Tryd.prog 6 #[.string s] w fun e w' => e = .returned (.tuple #[.agg #[.int .i64 0, .bool false, .int .i64 0, .int .i64 0, .int .i64 0], .int .i64 5]) ∧ Below w.heap.size w w' := by
  have he := emp_f (t := s) (by omega)
  have HX : Hid ((s[1].toNat : Int) - 128 = c) := by show _ = _; omega
  have hnd : decide ((128 : Int) ≤ (s[1].toNat : Int)) = true := decide_eq_true hn
  have hk3 : c ≤ 3 := by omega
  have hnb := numTo_bd (s.extract 1 s.size) c
  have hnc0 : 0 ≤ numTo (s.extract 1 s.size) c := hnb.1
  have hnc1 : numTo (s.extract 1 s.size) c < 16777216 := hnb.2.1 hk3
  clear hnb
  have HL : Hid (∀ w, Calls Tryd.prog 13 #[.int .i64 (numTo (s.extract 1 s.size) c)] w fun e w' => e = .returned (.string ⟨(tl (numTo (s.extract 1 s.size) c)).toArray⟩) ∧ Below w.heap.size w w') := fun w => Length_any _ w hnc0 hnc1
  have hts : Hid (((⟨(tl (numTo (s.extract 1 s.size) c)).toArray⟩ : ByteArray).size : Int) = 1 + cnt (numTo (s.extract 1 s.size) c)) := by
    have := tl_length (numTo (s.extract 1 s.size) c)
    show (((tl (numTo (s.extract 1 s.size) c)).toArray.size : Nat) : Int) = _
    rw [List.size_toArray]; exact this
  generalize (⟨(tl (numTo (s.extract 1 s.size) c)).toArray⟩ : ByteArray) = t at HL hts
  have hq' : (2 + ((s[1].toNat : Int) - 128) != (t.size : Int) + 1) = true := by rw [bne_iff_ne]; have h1 := hts.out; have h2 := HX.out; omega
  clear hq
  have htb : t.size ≤ 4 := by have := hts.out; have := cnt_cases (numTo (s.extract 1 s.size) c); omega
  go_enter Tryd.func6, Tryd.ntmps6
  go_wp2
  go_loop [6, 9] (fun n i => ∃ k : Nat, k ≤ c ∧ i = .int .i64 k ∧ n = .int .i64 (numTo (s.extract 1 s.size) k)) (fun _ i => c - (intOf i).toNat)
  case atStart => exact ⟨0, by omega, rfl, rfl⟩
  case round =>
    obtain ⟨k, hk, rfl, rfl⟩ := hrel
    have hn := numTo_bd (s.extract 1 s.size) k
    have hn0 : 0 ≤ numTo (s.extract 1 s.size) k := hn.1
    have hn1 : numTo (s.extract 1 s.size) k < 16777216 := hn.2.1 (by omega)
    clear hn
    by_cases hlt : k < c
    · have hk2 : 2 + k < s.size := by omega
      have hbk := b8_bd s (2 + k)
      have HE : Hid ((s[2 + k].toNat : Int) = b8 s (2 + k)) := b8_get s (2 + k) hk2
      have hek : (s[2 + k].toNat : Int) < 256 := by rw [HE.out]; omega
      have HN : Hid (numTo (s.extract 1 s.size) (k + 1) = numTo (s.extract 1 s.size) k * 256 + b8 s (2 + k)) := by
        show numTo (s.extract 1 s.size) k * 256 + b8 (s.extract 1 s.size) (k + 1) = _
        rw [b8_extract s 1 (k + 1) (by omega), show 1 + (k + 1) = 2 + k by omega]
      go_wp2
      go_round
      case rel => exact ⟨k + 1, by omega, by go_num, by rw [HN.out, HE.out]; go_num⟩
      case measure => simp [intOf]; omega
    · have hkc : c = k := by omega
      subst hkc
      go_wp2_with fail
      refine Calls.mono (HL.out _) ?_
      rintro e w1 ⟨rfl, hb⟩
      obtain ⟨hc, hf⟩ := bcell hb
      have hz' : w.heap.size + 1 < w1.heap.size := by have := hb.size; simp at this; omega
      have HB : Hid (Below ((w.alloc (.cells #[.int .i64 0, .bool false, .int .i64 0, .int .i64 0, .int .i64 0] 23)).alloc (.cells #[.int .i64 0, .bool false, .int .i64 0, .int .i64 0, .int .i64 0] 23)).heap.size ((w.alloc (.cells #[.int .i64 0, .bool false, .int .i64 0, .int .i64 0, .int .i64 0] 23)).alloc (.cells #[.int .i64 0, .bool false, .int .i64 0, .int .i64 0, .int .i64 0] 23)) w1) := hb
      have hr0 : w1.cell? ⟨w.heap.size, 0, none⟩ = some (.int .i64 0) := by rw [hc w.heap.size 0 (by simp; omega)]; simp
      have hr1 : w1.cell? ⟨w.heap.size, 1, none⟩ = some (.bool false) := by rw [hc w.heap.size 1 (by simp; omega)]; simp
      have hr2 : w1.cell? ⟨w.heap.size, 2, none⟩ = some (.int .i64 0) := by rw [hc w.heap.size 2 (by simp; omega)]; simp
      have hr3 : w1.cell? ⟨w.heap.size, 3, none⟩ = some (.int .i64 0) := by rw [hc w.heap.size 3 (by simp; omega)]; simp
      have hr4 : w1.cell? ⟨w.heap.size, 4, none⟩ = some (.int .i64 0) := by rw [hc w.heap.size 4 (by simp; omega)]; simp
      clear hb
      go_wp2
      refine bodyPost_ret (v := .tuple #[.agg #[.int .i64 0, .bool false, .int .i64 0, .int .i64 0, .int .i64 0], .int .i64 5]) (by simp [results, Tryd.results6, go_sem, hr0, hr1, hr2, hr3, hr4]) rfl ⟨rfl, ?_⟩
      exact below5 ((((Below.refl w.heap.size w).alloc (Nat.le_refl _) _).alloc (by simp) _).trans (HB.out.mono (by simp; omega))) _ (Nat.le_refl _) _ _ _ _ _

set_option maxHeartbeats 1000000 in
set_option maxRecDepth 100000 in
theorem rh_lEnd2 (s : ByteArray) (w : World) (hm : s.size ≤ 9223372036854775807) (h1 : 1 ≤ s.size) (hx1 : (s[0].toNat : Int) < 256) (hx2 : ((s[0].toNat : Int) % 32 == 31) = false) (h2 : 2 ≤ s.size) (hy : (s[1].toNat : Int) < 256) (hn : 128 ≤ (s[1].toNat : Int)) (hz : ((s[1].toNat : Int) - 128 == 0) = false) (hz2 : (s[1].toNat : Int) - 128 ≤ 3) (c : Nat) (hb1 : (s[1].toNat : Int) - 128 ≤ c) (hb2 : c ≤ (s[1].toNat : Int) - 128) (hl : 2 + (c : Int) ≤ (s.size : Int)) (hq : (c : Int) = cnt (numTo (s.extract 1 s.size) c)) (hE : (s.size : Int) < 2 + c + numTo (s.extract 1 s.size) c) :
    Calls Tryd.prog 6 #[.string s] w fun e w' => e = .returned (.tuple #[.agg #[.int .i64 0, .bool false, .int .i64 0, .int .i64 0, .int .i64 0], .int .i64 3]) ∧ Below w.heap.size w w' := by
  have he := emp_f (t := s) (by omega)
  have HX : Hid ((s[1].toNat : Int) - 128 = c) := by show _ = _; omega
  have hnd : decide ((128 : Int) ≤ (s[1].toNat : Int)) = true := decide_eq_true hn
  have hk3 : c ≤ 3 := by omega
  have hnb := numTo_bd (s.extract 1 s.size) c
  have hnc0 : 0 ≤ numTo (s.extract 1 s.size) c := hnb.1
  have hnc1 : numTo (s.extract 1 s.size) c < 16777216 := hnb.2.1 hk3
  clear hnb
  have HL : Hid (∀ w, Calls Tryd.prog 13 #[.int .i64 (numTo (s.extract 1 s.size) c)] w fun e w' => e = .returned (.string ⟨(tl (numTo (s.extract 1 s.size) c)).toArray⟩) ∧ Below w.heap.size w w') := fun w => Length_any _ w hnc0 hnc1
  have hts : Hid (((⟨(tl (numTo (s.extract 1 s.size) c)).toArray⟩ : ByteArray).size : Int) = 1 + cnt (numTo (s.extract 1 s.size) c)) := by
    have := tl_length (numTo (s.extract 1 s.size) c)
    show (((tl (numTo (s.extract 1 s.size) c)).toArray.size : Nat) : Int) = _
    rw [List.size_toArray]; exact this
  generalize (⟨(tl (numTo (s.extract 1 s.size) c)).toArray⟩ : ByteArray) = t at HL hts
  have hq' : (2 + ((s[1].toNat : Int) - 128) != (t.size : Int) + 1) = false := by rw [bne_eq_false_iff_eq]; have h1 := hts.out; have h2 := HX.out; omega
  clear hq
  have htb : t.size ≤ 4 := by have := hts.out; have := cnt_cases (numTo (s.extract 1 s.size) c); omega
  go_enter Tryd.func6, Tryd.ntmps6
  go_wp2
  go_loop [6, 9] (fun n i => ∃ k : Nat, k ≤ c ∧ i = .int .i64 k ∧ n = .int .i64 (numTo (s.extract 1 s.size) k)) (fun _ i => c - (intOf i).toNat)
  case atStart => exact ⟨0, by omega, rfl, rfl⟩
  case round =>
    obtain ⟨k, hk, rfl, rfl⟩ := hrel
    have hn := numTo_bd (s.extract 1 s.size) k
    have hn0 : 0 ≤ numTo (s.extract 1 s.size) k := hn.1
    have hn1 : numTo (s.extract 1 s.size) k < 16777216 := hn.2.1 (by omega)
    clear hn
    by_cases hlt : k < c
    · have hk2 : 2 + k < s.size := by omega
      have hbk := b8_bd s (2 + k)
      have HE : Hid ((s[2 + k].toNat : Int) = b8 s (2 + k)) := b8_get s (2 + k) hk2
      have hek : (s[2 + k].toNat : Int) < 256 := by rw [HE.out]; omega
      have HN : Hid (numTo (s.extract 1 s.size) (k + 1) = numTo (s.extract 1 s.size) k * 256 + b8 s (2 + k)) := by
        show numTo (s.extract 1 s.size) k * 256 + b8 (s.extract 1 s.size) (k + 1) = _
        rw [b8_extract s 1 (k + 1) (by omega), show 1 + (k + 1) = 2 + k by omega]
      go_wp2
      go_round
      case rel => exact ⟨k + 1, by omega, by go_num, by rw [HN.out, HE.out]; go_num⟩
      case measure => simp [intOf]; omega
    · have hkc : c = k := by omega
      subst hkc
      go_wp2_with fail
      refine Calls.mono (HL.out _) ?_
      rintro e w1 ⟨rfl, hb⟩
      obtain ⟨hc, hf⟩ := bcell hb
      have hz' : w.heap.size + 1 < w1.heap.size := by have := hb.size; simp at this; omega
      have HB : Hid (Below ((w.alloc (.cells #[.int .i64 0, .bool false, .int .i64 0, .int .i64 0, .int .i64 0] 23)).alloc (.cells #[.int .i64 0, .bool false, .int .i64 0, .int .i64 0, .int .i64 0] 23)).heap.size ((w.alloc (.cells #[.int .i64 0, .bool false, .int .i64 0, .int .i64 0, .int .i64 0] 23)).alloc (.cells #[.int .i64 0, .bool false, .int .i64 0, .int .i64 0, .int .i64 0] 23)) w1) := hb
      have hr0 : w1.cell? ⟨w.heap.size, 0, none⟩ = some (.int .i64 0) := by rw [hc w.heap.size 0 (by simp; omega)]; simp
      have hr1 : w1.cell? ⟨w.heap.size, 1, none⟩ = some (.bool false) := by rw [hc w.heap.size 1 (by simp; omega)]; simp
      have hr2 : w1.cell? ⟨w.heap.size, 2, none⟩ = some (.int .i64 0) := by rw [hc w.heap.size 2 (by simp; omega)]; simp
      have hr3 : w1.cell? ⟨w.heap.size, 3, none⟩ = some (.int .i64 0) := by rw [hc w.heap.size 3 (by simp; omega)]; simp
      have hr4 : w1.cell? ⟨w.heap.size, 4, none⟩ = some (.int .i64 0) := by rw [hc w.heap.size 4 (by simp; omega)]; simp
      clear hb
      go_wp2
      refine bodyPost_ret (v := .tuple #[.agg #[.int .i64 0, .bool false, .int .i64 0, .int .i64 0, .int .i64 0], .int .i64 3]) (by simp [results, Tryd.results6, go_sem, hr0, hr1, hr2, hr3, hr4]) rfl ⟨rfl, ?_⟩
      exact below5 ((((Below.refl w.heap.size w).alloc (Nat.le_refl _) _).alloc (by simp) _).trans (HB.out.mono (by simp; omega))) _ (Nat.le_refl _) _ _ _ _ _

set_option maxHeartbeats 1000000 in
set_option maxRecDepth 100000 in
theorem rh_lOk (s : ByteArray) (w : World) (hm : s.size ≤ 9223372036854775807) (h1 : 1 ≤ s.size) (hx1 : (s[0].toNat : Int) < 256) (hx2 : ((s[0].toNat : Int) % 32 == 31) = false) (h2 : 2 ≤ s.size) (hy : (s[1].toNat : Int) < 256) (hn : 128 ≤ (s[1].toNat : Int)) (hz : ((s[1].toNat : Int) - 128 == 0) = false) (hz2 : (s[1].toNat : Int) - 128 ≤ 3) (c : Nat) (hb1 : (s[1].toNat : Int) - 128 ≤ c) (hb2 : c ≤ (s[1].toNat : Int) - 128) (hl : 2 + (c : Int) ≤ (s.size : Int)) (hq : (c : Int) = cnt (numTo (s.extract 1 s.size) c)) (hE : 2 + c + numTo (s.extract 1 s.size) c ≤ (s.size : Int)) :
    Calls Tryd.prog 6 #[.string s] w fun e w' => e = .returned (.tuple #[.agg #[.int .i64 ((s[0].toNat : Int) / 64), .bool ((s[0].toNat : Int) / 32 % 2 == 1), .int .i64 ((s[0].toNat : Int) % 32), .int .i64 (2 + ((s[1].toNat : Int) - 128)), .int .i64 (numTo (s.extract 1 s.size) c)], .int .i64 0]) ∧ Below w.heap.size w w' := by
  have he := emp_f (t := s) (by omega)
  have HX : Hid ((s[1].toNat : Int) - 128 = c) := by show _ = _; omega
  have hnd : decide ((128 : Int) ≤ (s[1].toNat : Int)) = true := decide_eq_true hn
  have hk3 : c ≤ 3 := by omega
  have hnb := numTo_bd (s.extract 1 s.size) c
  have hnc0 : 0 ≤ numTo (s.extract 1 s.size) c := hnb.1
  have hnc1 : numTo (s.extract 1 s.size) c < 16777216 := hnb.2.1 hk3
  clear hnb
  have HL : Hid (∀ w, Calls Tryd.prog 13 #[.int .i64 (numTo (s.extract 1 s.size) c)] w fun e w' => e = .returned (.string ⟨(tl (numTo (s.extract 1 s.size) c)).toArray⟩) ∧ Below w.heap.size w w') := fun w => Length_any _ w hnc0 hnc1
  have hts : Hid (((⟨(tl (numTo (s.extract 1 s.size) c)).toArray⟩ : ByteArray).size : Int) = 1 + cnt (numTo (s.extract 1 s.size) c)) := by
    have := tl_length (numTo (s.extract 1 s.size) c)
    show (((tl (numTo (s.extract 1 s.size) c)).toArray.size : Nat) : Int) = _
    rw [List.size_toArray]; exact this
  generalize (⟨(tl (numTo (s.extract 1 s.size) c)).toArray⟩ : ByteArray) = t at HL hts
  have hq' : (2 + ((s[1].toNat : Int) - 128) != (t.size : Int) + 1) = false := by rw [bne_eq_false_iff_eq]; have h1 := hts.out; have h2 := HX.out; omega
  clear hq
  have htb : t.size ≤ 4 := by have := hts.out; have := cnt_cases (numTo (s.extract 1 s.size) c); omega
  go_enter Tryd.func6, Tryd.ntmps6
  go_wp2
  go_loop [6, 9] (fun n i => ∃ k : Nat, k ≤ c ∧ i = .int .i64 k ∧ n = .int .i64 (numTo (s.extract 1 s.size) k)) (fun _ i => c - (intOf i).toNat)
  case atStart => exact ⟨0, by omega, rfl, rfl⟩
  case round =>
    obtain ⟨k, hk, rfl, rfl⟩ := hrel
    have hn := numTo_bd (s.extract 1 s.size) k
    have hn0 : 0 ≤ numTo (s.extract 1 s.size) k := hn.1
    have hn1 : numTo (s.extract 1 s.size) k < 16777216 := hn.2.1 (by omega)
    clear hn
    by_cases hlt : k < c
    · have hk2 : 2 + k < s.size := by omega
      have hbk := b8_bd s (2 + k)
      have HE : Hid ((s[2 + k].toNat : Int) = b8 s (2 + k)) := b8_get s (2 + k) hk2
      have hek : (s[2 + k].toNat : Int) < 256 := by rw [HE.out]; omega
      have HN : Hid (numTo (s.extract 1 s.size) (k + 1) = numTo (s.extract 1 s.size) k * 256 + b8 s (2 + k)) := by
        show numTo (s.extract 1 s.size) k * 256 + b8 (s.extract 1 s.size) (k + 1) = _
        rw [b8_extract s 1 (k + 1) (by omega), show 1 + (k + 1) = 2 + k by omega]
      go_wp2
      go_round
      case rel => exact ⟨k + 1, by omega, by go_num, by rw [HN.out, HE.out]; go_num⟩
      case measure => simp [intOf]; omega
    · have hkc : c = k := by omega
      subst hkc
      go_wp2_with fail
      refine Calls.mono (HL.out _) ?_
      rintro e w1 ⟨rfl, hb⟩
      obtain ⟨hc, hf⟩ := bcell hb
      have hz' : w.heap.size + 1 < w1.heap.size := by have := hb.size; simp at this; omega
      have HB : Hid (Below ((w.alloc (.cells #[.int .i64 0, .bool false, .int .i64 0, .int .i64 0, .int .i64 0] 23)).alloc (.cells #[.int .i64 0, .bool false, .int .i64 0, .int .i64 0, .int .i64 0] 23)).heap.size ((w.alloc (.cells #[.int .i64 0, .bool false, .int .i64 0, .int .i64 0, .int .i64 0] 23)).alloc (.cells #[.int .i64 0, .bool false, .int .i64 0, .int .i64 0, .int .i64 0] 23)) w1) := hb
      have hr0 : w1.cell? ⟨w.heap.size, 0, none⟩ = some (.int .i64 0) := by rw [hc w.heap.size 0 (by simp; omega)]; simp
      have hr1 : w1.cell? ⟨w.heap.size, 1, none⟩ = some (.bool false) := by rw [hc w.heap.size 1 (by simp; omega)]; simp
      have hr2 : w1.cell? ⟨w.heap.size, 2, none⟩ = some (.int .i64 0) := by rw [hc w.heap.size 2 (by simp; omega)]; simp
      have hr3 : w1.cell? ⟨w.heap.size, 3, none⟩ = some (.int .i64 0) := by rw [hc w.heap.size 3 (by simp; omega)]; simp
      have hr4 : w1.cell? ⟨w.heap.size, 4, none⟩ = some (.int .i64 0) := by rw [hc w.heap.size 4 (by simp; omega)]; simp
      clear hb
      go_wp2
      refine bodyPost_ret (v := .tuple #[.agg #[.int .i64 ((s[0].toNat : Int) / 64), .bool ((s[0].toNat : Int) / 32 % 2 == 1), .int .i64 ((s[0].toNat : Int) % 32), .int .i64 (2 + ((s[1].toNat : Int) - 128)), .int .i64 (numTo (s.extract 1 s.size) c)], .int .i64 0]) (by simp [results, Tryd.results6, go_sem, hr0, hr1, hr2, hr3, hr4]) rfl ⟨rfl, ?_⟩
      exact below5 ((((Below.refl w.heap.size w).alloc (Nat.le_refl _) _).alloc (by simp) _).trans (HB.out.mono (by simp; omega))) _ (Nat.le_refl _) _ _ _ _ _

end Go.Proofs.YtkkicodfpekbgaaDoor
