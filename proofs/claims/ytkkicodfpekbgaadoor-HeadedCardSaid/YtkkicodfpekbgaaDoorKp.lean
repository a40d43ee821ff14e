/-
  Headed's own parts: the zeros that are made.
-/
import Derived.Test.YtkkicodfpekbgaaDoorHs
import Derived.Test.YtkkicodfpekbgaaDoorMt
import Derived.Test.YtkkicodfpekbgaaDoorPk
namespace Go.Proofs.YtkkicodfpekbgaaDoor
open Go.RowKit

/-- The zeros that make lays, as bytes. -/
theorem zeros_bv (n : Nat) : (madeCells (Value.int .u8 0).cells (n * 1)).toList = (List.replicate n (0 : UInt8)).map bv := by
  have e : ∀ j : Nat, ((Value.int .u8 0).cells)[j % ((Value.int .u8 0).cells).size]! = Value.int .u8 0 := fun j => by
    have hs : ((Value.int .u8 0).cells).size = 1 := rfl
    rw [hs, Nat.mod_one]
    rfl
  unfold madeCells
  simp only [e, Nat.mul_one]
  rw [List.map_replicate, Array.toList_map, Array.toList_range, List.map_const', List.length_range]
  rfl
theorem conv_zeros {w : World} {B : Nat} (k n : Nat) (h : w.ownsRow B 5 1 (.slice (some ⟨k, 0, none⟩) n n) n (madeCells (Value.int .u8 0).cells (n * 1)).toList) :
    (convert 36 9 (.slice (some ⟨k, 0, none⟩) n n)).run Tryd.prog w = .ok (.string ⟨(List.replicate n (0 : UInt8)).toArray⟩) w := by
  by_cases hn : n = 0
  · subst hn
    exact run_convert_bytes_back w 36 9 5 ⟨k, 0, none⟩ 0 [] Tryd.underlying36 Tryd.underlying5 Tryd.underlying9 fun j hj => by simp at hj
  · refine conv_own (ownsRow_cast h rfl (zeros_bv n)) ?_
    intro e
    have := congrArg List.length e
    simp at this
    exact hn this

theorem LiesH.setSize {w : World} {k : Nat} {c : Int} {b : Bool} {n z l : Int} (h : LiesH w k c b n z l) (z' : Int) : LiesH (w.setCell ⟨k, 3, none⟩ (.int .i64 z')) k c b n z' l := by
  have a0 := h.f0
  have a1 := h.f1
  have a2 := h.f2
  have a3 := h.f3
  have a4 := h.f4
  exact ⟨by simp [go_sem, a0], by simp [go_sem, a1], by simp [go_sem, a2], by simp [go_sem, a3], by simp [go_sem, a4]⟩
theorem LiesH.grown {w w' : World} {k : Nat} {c : Int} {b : Bool} {n z l : Int} (h : LiesH w k c b n z l) (hg : w.grownBy w' none) : LiesH w' k c b n z l :=
  ⟨hg.cell h.f0 (by simp), hg.cell h.f1 (by simp), hg.cell h.f2 (by simp), hg.cell h.f3 (by simp), hg.cell h.f4 (by simp)⟩

set_option maxHeartbeats 2000000 in
set_option maxRecDepth 100000 in
theorem Headed_any (c : Int) (b : Bool) (n l : Int) (t : ByteArray) (w : World) (sn : Sn → Addr) (hs : Sent w sn)
    (c0 : -9223372036854775808 ≤ c) (c1 : c ≤ 9223372036854775807) (n0 : -9223372036854775808 ≤ n) (n1 : n ≤ 9223372036854775807) (l0 : -9223372036854775808 ≤ l) (l1 : l ≤ 9223372036854775807) (ht : t.size ≤ 140737488355328) :
    Calls Tryd.prog 4 #[.int .i64 c, .bool b, .int .i64 n, .int .i64 l, .string t] w fun e w' => e = .returned (.bool true) ∧ Below w.heap.size w w' := by
  have HS : Hid (Sent w sn) := hs
  clear hs
  have P1 : Hid (∀ w, Calls Tryd.prog 10 #[.int .i64 l, .int .i64 70000] w fun e w' => e = .returned (.int .i64 (pk l 70000)) ∧ w = w') := fun w => pick_any l 70000 w l0 l1 (by omega) (by omega)
  have P2 : Hid (∀ w, Calls Tryd.prog 10 #[.int .i64 c, .int .i64 4] w fun e w' => e = .returned (.int .i64 (pk c 4)) ∧ w = w') := fun w => pick_any c 4 w c0 c1 (by omega) (by omega)
  have P3 : Hid (∀ w, Calls Tryd.prog 10 #[.int .i64 n, .int .i64 31] w fun e w' => e = .returned (.int .i64 (pk n 31)) ∧ w = w') := fun w => pick_any n 31 w n0 n1 (by omega) (by omega)
  obtain ⟨bl0, bl1⟩ := pk_bd l 70000 (by omega)
  obtain ⟨bc0, bc1⟩ := pk_bd c 4 (by omega)
  obtain ⟨bn0, bn1⟩ := pk_bd n 31 (by omega)
  generalize pk l 70000 = l' at P1 bl0 bl1
  generalize pk c 4 = c' at P2 bc0 bc1
  generalize pk n 31 = n' at P3 bn0 bn1
  clear c0 c1 n0 n1 l0 l1
  obtain ⟨m, rfl⟩ := Int.eq_ofNat_of_zero_le bl0
  have HT : Hid (∀ w, Sent w sn → Calls Tryd.prog 7 #[.agg #[.int .i64 c', .bool b, .int .i64 n', .int .i64 0, .int .i64 m]] w fun e w' => e = .returned (.tuple #[.string ⟨(UInt8.ofNat (fb ⟨c', b, n', 0, m⟩).toNat :: tl m).toArray⟩, .int .i64 0]) ∧ Below w.heap.size w w') := fun w q => by
    have := Tell_any ⟨c', b, n', 0, m⟩ w sn q
    have e : tsp ⟨c', b, n', 0, m⟩ = (0, UInt8.ofNat (fb ⟨c', b, n', 0, m⟩).toNat :: tl m) := by
      unfold tsp
      rw [if_neg (by simp only; omega), if_neg (by simp only; omega)]
    rw [e] at this
    exact this
  have hsz : 2 ≤ (⟨(UInt8.ofNat (fb ⟨c', b, n', 0, m⟩).toNat :: tl m).toArray⟩ : ByteArray).size ∧ (⟨(UInt8.ofNat (fb ⟨c', b, n', 0, m⟩).toNat :: tl m).toArray⟩ : ByteArray).size ≤ 5 := by
    rw [size_mk]
    have h1 := tl_length m
    have h2 := cnt_cases m
    simp only [List.length_cons]
    omega
  have HH1 : Hid (∀ w, Sent w sn → Calls Tryd.prog 5 #[.string (⟨(UInt8.ofNat (fb ⟨c', b, n', 0, m⟩).toNat :: tl m).toArray⟩ ++ (⟨Array.replicate m 0⟩ : ByteArray) ++ t)] w fun e w' => e = .returned (.tuple #[.agg #[.int .i64 c', .bool b, .int .i64 n', .int .i64 (⟨(UInt8.ofNat (fb ⟨c', b, n', 0, m⟩).toNat :: tl m).toArray⟩ : ByteArray).size, .int .i64 m], .int .i64 0]) ∧ Below w.heap.size w w') := fun w q => by
    have hzz : ((⟨Array.replicate m 0⟩ : ByteArray)).size = m := by rw [mk_zeros, size_mk]; simp
    have hzs : (⟨(UInt8.ofNat (fb ⟨c', b, n', 0, m⟩).toNat :: tl m).toArray⟩ ++ (⟨Array.replicate m 0⟩ : ByteArray) ++ t).size ≤ 9223372036854775807 := by
      rw [ByteArray.size_append, ByteArray.size_append, hzz]
      have := hsz.2
      omega
    have := head_any (⟨(UInt8.ofNat (fb ⟨c', b, n', 0, m⟩).toNat :: tl m).toArray⟩ ++ (⟨Array.replicate m 0⟩ : ByteArray) ++ t) w sn q hzs
    rw [told_plus c' b n' 0 m bc0 (by omega) bn0 (by omega) (by omega) t] at this
    exact this
  have HH2 : Hid (∀ w, Sent w sn → Calls Tryd.prog 5 #[.string (((⟨(UInt8.ofNat (fb ⟨c', b, n', 0, m⟩).toNat :: tl m).toArray⟩ : ByteArray) ++ (⟨Array.replicate m 0⟩ : ByteArray)).extract 0 ((⟨(UInt8.ofNat (fb ⟨c', b, n', 0, m⟩).toNat :: tl m).toArray⟩ : ByteArray).size + m - 1))] w fun e w' => e = .returned (.tuple #[.agg #[.int .i64 0, .bool false, .int .i64 0, .int .i64 0, .int .i64 0], .int .i64 3]) ∧ Below w.heap.size w w') := fun w q => by
    have hzz : ((⟨Array.replicate m 0⟩ : ByteArray)).size = m := by rw [mk_zeros, size_mk]; simp
    have hzs : (((⟨(UInt8.ofNat (fb ⟨c', b, n', 0, m⟩).toNat :: tl m).toArray⟩ : ByteArray) ++ (⟨Array.replicate m 0⟩ : ByteArray)).extract 0 ((⟨(UInt8.ofNat (fb ⟨c', b, n', 0, m⟩).toNat :: tl m).toArray⟩ : ByteArray).size + m - 1)).size ≤ 9223372036854775807 := by
      rw [ByteArray.size_extract, ByteArray.size_append, hzz]
      have := hsz.2
      omega
    have := head_any (((⟨(UInt8.ofNat (fb ⟨c', b, n', 0, m⟩).toNat :: tl m).toArray⟩ : ByteArray) ++ (⟨Array.replicate m 0⟩ : ByteArray)).extract 0 ((⟨(UInt8.ofNat (fb ⟨c', b, n', 0, m⟩).toNat :: tl m).toArray⟩ : ByteArray).size + m - 1)) w sn q hzs
    rw [told_less c' b n' 0 m _ bc0 (by omega) bn0 (by omega) (by omega) rfl] at this
    exact this
  generalize hS : (⟨(UInt8.ofNat (fb ⟨c', b, n', 0, m⟩).toNat :: tl m).toArray⟩ : ByteArray) = S at HT hsz HH1 HH2
  have HSS : Hid ((⟨(UInt8.ofNat (fb ⟨c', b, n', 0, m⟩).toNat :: tl m).toArray⟩ : ByteArray) = S) := hS
  clear hS
  obtain ⟨hs1, hs2⟩ := hsz
  have he := emp_f (t := S) (by omega)
  go_enter Tryd.func4, Tryd.ntmps4
  go_wp2_with fail
  refine Calls.mono (P1.out _) ?_
  rintro e w' ⟨rfl, rfl⟩
  go_wp2_with fail
  refine Calls.mono (P2.out _) ?_
  rintro e w' ⟨rfl, rfl⟩
  go_wp2_with fail
  refine Calls.mono (P3.out _) ?_
  rintro e w' ⟨rfl, rfl⟩
  go_wp2_with fail
  refine Calls.mono (HT.out _ (HS.out.below ((Below.refl _ _).alloc (Nat.le_refl _) _))) ?_
  rintro e w1 ⟨rfl, hb⟩
  have HL0 : Hid (LiesH w1 w.heap.size c' b n' 0 m) := (LiesH.new w c' b n' 0 m 23).below hb
  have HB1 : Hid (Below w.heap.size w w1) := ((Below.refl w.heap.size w).alloc (Nat.le_refl _) _).trans (hb.mono (by simp))
  have hz1 : w.heap.size < w1.heap.size := HL0.out.lt
  have hfz : w1.frozen? ⟨w.heap.size, 3, none⟩ = false := by rw [hb.frozen (p := ⟨w.heap.size, 3, none⟩) (by simp)]; simp
  have g3 := HL0.out.f3
  clear hb
  obtain ⟨i0, hi, hy0, hy1, hy2⟩ := info_parts Tryd.info8
  go_wp2_with (at_make; refine wpList_make_full _ rfl (.tmp 44) (.tmp 44) 36 rfl (w.heap.size + 1) 5 i0 (.int .u8 0) 1 Tryd.underlying36 hi hy0 hy1 .i64 .i64 m m m rfl rfl rfl rfl (by rw [hy2]; omega) (by unfold maxLen; omega) (by simp; omega) ?_; intro w2 hown hgrow; have hcv := conv_zeros w1.heap.size m (by simpa using hown); have HG : Hid ((w1.setCell ⟨w.heap.size, 3, none⟩ (.int .i64 S.size)).grownBy w2 none) := hgrow; clear hown hgrow; have hZs : (⟨(List.replicate m (0 : UInt8)).toArray⟩ : ByteArray).size = m := by rw [size_mk]; simp)
  have HB2 : Hid (Below w.heap.size w w2) := (HB1.out.setCell (p := ⟨w.heap.size, 3, none⟩) (Nat.le_refl _) _).grown HG.out (by simp; omega) (fun k hk => by cases hk)
  have HL1 : Hid (LiesH w2 w.heap.size c' b n' S.size m) := (HL0.out.setSize S.size).grown HG.out
  clear hcv g3 hfz hz1
  refine Calls.mono (HH1.out _ (HS.out.below HB2.out)) ?_
  rintro e w3 ⟨rfl, hb⟩
  have HL2 : Hid (LiesH w3 w.heap.size c' b n' S.size m) := HL1.out.below hb
  have HB3 : Hid (Below w.heap.size w w3) := HB2.out.trans (hb.mono HB2.out.size)
  clear hb
  go_wp2_with fail
  refine Calls.mono (HH2.out _ (HS.out.below (HB3.out.alloc HB3.out.size _))) ?_
  rintro e w4 ⟨rfl, hb⟩
  have HL3 : Hid (LiesH w4 w.heap.size c' b n' S.size m) := (HL2.out.alloc _).below hb
  have HL4 : Hid (LiesH w4 w3.heap.size c' b n' S.size m) := (LiesH.new w3 c' b n' S.size m 23).below hb
  have HB4 : Hid (Below w.heap.size w w4) := (HB3.out.alloc HB3.out.size _).trans (hb.mono (by have := HB3.out.size; simp; omega))
  clear hb
  have z1 := HL3.out.lt
  have z2 := HL4.out.lt
  have g0 := HL3.out.f0
  have g1 := HL3.out.f1
  have g2 := HL3.out.f2
  have g3 := HL3.out.f3
  have g4 := HL3.out.f4
  have k0 := HL4.out.f0
  have k1 := HL4.out.f1
  have k2 := HL4.out.f2
  have k3 := HL4.out.f3
  have k4 := HL4.out.f4
  go_wp2
  go_ret
  exact ⟨rfl, HB4.out.alloc HB4.out.size _⟩
end Go.Proofs.YtkkicodfpekbgaaDoor
