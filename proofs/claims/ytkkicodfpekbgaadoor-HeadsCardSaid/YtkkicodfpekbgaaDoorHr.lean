/-
  The document's Head, whole.
-/
import Derived.Test.YtkkicodfpekbgaaDoorRh
namespace Go.Proofs.YtkkicodfpekbgaaDoor
open Go.RowKit

theorem rHead_any (s : ByteArray) (w : World) (hm : s.size ≤ 9223372036854775807) :
    Calls Tryd.prog 6 #[.string s] w fun e w' => e = .returned (.tuple #[hv (hd s).2, .int .i64 (hd s).1]) ∧ Below w.heap.size w w' := by
  have hT : (s.extract 1 s.size).size = s.size - 1 := by simp
  unfold hd
  split
  · rename_i h; exact rh_empty s w hm h
  rename_i h
  have h1 : 1 ≤ s.size := by omega
  have hb0 := b8_bd s 0
  have e0 := b8_get s 0 h1
  have hx1 : (s[0].toNat : Int) < 256 := by rw [e0]; omega
  split
  · rename_i h2
    exact rh_tag s w hm h1 hx1 (by rw [e0, beq_iff_eq]; exact h2)
  rename_i h2
  have hx2 : ((s[0].toNat : Int) % 32 == 31) = false := by rw [e0, beq_eq_false_iff_ne]; exact h2
  by_cases h3 : s.size < 2
  · have hr : rl (s.extract 1 s.size) = (3, 0, 0) := by unfold rl; rw [if_pos (by omega)]
    rw [hr]
    exact rh_one s w hm h1 hx1 hx2 h3
  have h3 : 2 ≤ s.size := by omega
  have e1 := b8_get s 1 (by omega)
  have hb1 := b8_bd s 1
  have eT : b8 (s.extract 1 s.size) 0 = b8 s 1 := b8_extract s 1 0 (by omega)
  have hy : (s[1].toNat : Int) < 256 := by rw [e1]; omega
  by_cases hn : b8 s 1 < 128
  · have hr : rl (s.extract 1 s.size) = (0, 1, b8 s 1) := by unfold rl; rw [if_neg (by omega), eT, if_pos hn]
    rw [hr]
    simp only
    rw [if_neg (by omega)]
    split
    · exact rh_sEnd s w hm h1 hx1 hx2 h3 hy (by rw [e1]; exact hn) (by rw [e1]; omega)
    · have := rh_sOk s w hm h1 hx1 hx2 h3 hy (by rw [e1]; exact hn) (by rw [e1]; omega)
      rw [e0, e1] at this
      exact this
  have hn' : 128 ≤ (s[1].toNat : Int) := by rw [e1]; omega
  by_cases hbad : b8 s 1 = 128 ∨ 131 < b8 s 1
  · have hr : rl (s.extract 1 s.size) = (5, 0, 0) := by unfold rl; rw [if_neg (by omega), eT, if_neg hn, if_pos hbad]
    rw [hr]
    by_cases hz : b8 s 1 = 128
    · exact rh_bad0 s w hm h1 hx1 hx2 h3 hy hn' (by rw [e1, beq_iff_eq]; omega)
    · exact rh_bad1 s w hm h1 hx1 hx2 h3 hy hn' (by rw [e1, beq_eq_false_iff_ne]; omega) (by rw [e1]; omega)
  have hz : ((s[1].toNat : Int) - 128 == 0) = false := by rw [e1, beq_eq_false_iff_ne]; omega
  have hz2 : (s[1].toNat : Int) - 128 ≤ 3 := by rw [e1]; omega
  by_cases hl : (s.size : Int) < 2 + (b8 s 1 - 128)
  · have hr : rl (s.extract 1 s.size) = (3, 0, 0) := by unfold rl; rw [if_neg (by omega), eT, if_neg hn, if_neg hbad, if_pos (by omega)]
    rw [hr]
    exact rh_lEnd s w hm h1 hx1 hx2 h3 hy hn' hz hz2 (by rw [e1]; exact hl)
  obtain ⟨c, hc⟩ := Int.eq_ofNat_of_zero_le (show 0 ≤ b8 s 1 - 128 by omega)
  by_cases hq : (c : Int) = cnt (numTo (s.extract 1 s.size) c)
  · have hr : rl (s.extract 1 s.size) = (0, 1 + (c : Int), numTo (s.extract 1 s.size) c) := by
      unfold rl
      rw [if_neg (by omega), eT, if_neg hn, if_neg hbad, if_neg (by omega), hc, Int.toNat_natCast, if_neg (by omega)]
    rw [hr]
    simp only
    rw [if_neg (by omega)]
    split
    · exact rh_lEnd2 s w hm h1 hx1 hx2 h3 hy hn' hz hz2 c (by rw [e1]; omega) (by rw [e1]; omega) (by omega) hq (by omega)
    · have := rh_lOk s w hm h1 hx1 hx2 h3 hy hn' hz hz2 c (by rw [e1]; omega) (by rw [e1]; omega) (by omega) hq (by omega)
      rw [e0, e1, show ((2 : Nat) : Int) + (b8 s 1 - 128) = 1 + (c : Int) + 1 by omega] at this
      exact this
  · have hr : rl (s.extract 1 s.size) = (5, 0, 0) := by
      unfold rl
      rw [if_neg (by omega), eT, if_neg hn, if_neg hbad, if_neg (by omega), hc, Int.toNat_natCast, if_pos hq]
    rw [hr]
    exact rh_no s w hm h1 hx1 hx2 h3 hy hn' hz hz2 c (by rw [e1]; omega) (by rw [e1]; omega) (by omega) hq

/-- A head lies in a block. -/
structure LiesH (w : World) (k : Nat) (c : Int) (b : Bool) (n z l : Int) : Prop where
  f0 : w.cell? ⟨k, 0, none⟩ = some (.int .i64 c)
  f1 : w.cell? ⟨k, 1, none⟩ = some (.bool b)
  f2 : w.cell? ⟨k, 2, none⟩ = some (.int .i64 n)
  f3 : w.cell? ⟨k, 3, none⟩ = some (.int .i64 z)
  f4 : w.cell? ⟨k, 4, none⟩ = some (.int .i64 l)
theorem LiesH.lt {w : World} {k : Nat} {c : Int} {b : Bool} {n z l : Int} (h : LiesH w k c b n z l) : k < w.heap.size := cell_lt h.f0
theorem LiesH.below {w w' : World} {k : Nat} {c : Int} {b : Bool} {n z l : Int} (h : LiesH w k c b n z l) (hb : Below w.heap.size w w') : LiesH w' k c b n z l :=
  ⟨(hb.cell h.lt).trans h.f0, (hb.cell h.lt).trans h.f1, (hb.cell h.lt).trans h.f2, (hb.cell h.lt).trans h.f3, (hb.cell h.lt).trans h.f4⟩
theorem LiesH.new (w : World) (c : Int) (b : Bool) (n z l : Int) (T : TypeId) : LiesH (w.alloc (.cells #[.int .i64 c, .bool b, .int .i64 n, .int .i64 z, .int .i64 l] T)) w.heap.size c b n z l :=
  ⟨by simp, by simp, by simp, by simp, by simp⟩
theorem LiesH.alloc {w : World} {k : Nat} {c : Int} {b : Bool} {n z l : Int} (h : LiesH w k c b n z l) (o : Obj) : LiesH (w.alloc o) k c b n z l := h.below ((Below.refl _ _).alloc (Nat.le_refl _) _)
end Go.Proofs.YtkkicodfpekbgaaDoor
