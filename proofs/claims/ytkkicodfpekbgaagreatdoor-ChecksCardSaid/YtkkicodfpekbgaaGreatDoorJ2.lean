/-
  Several texts in one:
  The document's Head, whole.
  The document's reader: head.
  The document's reader: bare, of the kinds 1 to 9.
  hallmarkref.Own: the number of a kind's own tag.
  The document's reader: Own0, node of the kinds 1 to 9.
  schemas.within: what the heads of an element are around.
  The document's reader: node, of the kinds 1 to 9: the pure part.
  The document's reader: node, of the kinds 1 to 9 (without a Tag).
  The document's reader: node, of the kinds 1 to 9 (a Tag of Mode 0).
  hallmarkref.Begins: what it answers.
  hallmarkref.common: what it answers.
-/
import Derived.Test.YtkkicodfpekbgaaGreatDoorJ1
import Derived.Test.YtkkicodfpekbgaaGreatDoorJ0
import Derived.Deep.RegionWith
import Derived.Deep.DrawnRows
/-! The document's Head, whole. -/
namespace Go.Proofs.YtkkicodfpekbgaaGreatDoor
set_option linter.unusedSimpArgs false
set_option linter.unusedVariables false
open Go.RowKit

theorem rHead_any (s : ByteArray) (w : World) (hm : s.size ≤ 9223372036854775807) :
    Calls Tryz.prog 105 #[.string s] w fun e w' => e = .returned (.tuple #[hv (hd s).2, .int .i64 (hd s).1]) ∧ Below w.heap.size w w' := by
  have hT : (s.extract 1 s.size).size = s.size - 1 := by simp
  unfold hd
  split
  · rename_i h; exact rh_empty s w hm h
  rename_i h
  have h1 : 1 ≤ s.size := by omega
  have hb0 := b8_bd s 0
  have e0 := b8_get s 0 h1
  have hx1 : (s[0].toNat : Int) < 256 := by rw [e0]; omega
  split
  · rename_i h2
    exact rh_tag s w hm h1 hx1 (by rw [e0, beq_iff_eq]; exact h2)
  rename_i h2
  have hx2 : ((s[0].toNat : Int) % 32 == 31) = false := by rw [e0, beq_eq_false_iff_ne]; exact h2
  by_cases h3 : s.size < 2
  · have hr : rl (s.extract 1 s.size) = (3, 0, 0) := by unfold rl; rw [if_pos (by omega)]
    rw [hr]
    exact rh_one s w hm h1 hx1 hx2 h3
  have h3 : 2 ≤ s.size := by omega
  have e1 := b8_get s 1 (by omega)
  have hb1 := b8_bd s 1
  have eT : b8 (s.extract 1 s.size) 0 = b8 s 1 := b8_extract s 1 0 (by omega)
  have hy : (s[1].toNat : Int) < 256 := by rw [e1]; omega
  by_cases hn : b8 s 1 < 128
  · have hr : rl (s.extract 1 s.size) = (0, 1, b8 s 1) := by unfold rl; rw [if_neg (by omega), eT, if_pos hn]
    rw [hr]
    simp only
    rw [if_neg (by omega)]
    split
    · exact rh_sEnd s w hm h1 hx1 hx2 h3 hy (by rw [e1]; exact hn) (by rw [e1]; omega)
    · have := rh_sOk s w hm h1 hx1 hx2 h3 hy (by rw [e1]; exact hn) (by rw [e1]; omega)
      rw [e0, e1] at this
      exact this
  have hn' : 128 ≤ (s[1].toNat : Int) := by rw [e1]; omega
  by_cases hbad : b8 s 1 = 128 ∨ 131 < b8 s 1
  · have hr : rl (s.extract 1 s.size) = (5, 0, 0) := by unfold rl; rw [if_neg (by omega), eT, if_neg hn, if_pos hbad]
    rw [hr]
    by_cases hz : b8 s 1 = 128
    · exact rh_bad0 s w hm h1 hx1 hx2 h3 hy hn' (by rw [e1, beq_iff_eq]; omega)
    · exact rh_bad1 s w hm h1 hx1 hx2 h3 hy hn' (by rw [e1, beq_eq_false_iff_ne]; omega) (by rw [e1]; omega)
  have hz : ((s[1].toNat : Int) - 128 == 0) = false := by rw [e1, beq_eq_false_iff_ne]; omega
  have hz2 : (s[1].toNat : Int) - 128 ≤ 3 := by rw [e1]; omega
  by_cases hl : (s.size : Int) < 2 + (b8 s 1 - 128)
  · have hr : rl (s.extract 1 s.size) = (3, 0, 0) := by unfold rl; rw [if_neg (by omega), eT, if_neg hn, if_neg hbad, if_pos (by omega)]
    rw [hr]
    exact rh_lEnd s w hm h1 hx1 hx2 h3 hy hn' hz hz2 (by rw [e1]; exact hl)
  obtain ⟨c, hc⟩ := Int.eq_ofNat_of_zero_le (show 0 ≤ b8 s 1 - 128 by omega)
  by_cases hq : (c : Int) = cnt (numTo (s.extract 1 s.size) c)
  · have hr : rl (s.extract 1 s.size) = (0, 1 + (c : Int), numTo (s.extract 1 s.size) c) := by
      unfold rl
      rw [if_neg (by omega), eT, if_neg hn, if_neg hbad, if_neg (by omega), hc, Int.toNat_natCast, if_neg (by omega)]
    rw [hr]
    simp only
    rw [if_neg (by omega)]
    split
    · exact rh_lEnd2 s w hm h1 hx1 hx2 h3 hy hn' hz hz2 c (by rw [e1]; omega) (by rw [e1]; omega) (by omega) hq (by omega)
    · have := rh_lOk s w hm h1 hx1 hx2 h3 hy hn' hz hz2 c (by rw [e1]; omega) (by rw [e1]; omega) (by omega) hq (by omega)
      rw [e0, e1, show ((2 : Nat) : Int) + (b8 s 1 - 128) = 1 + (c : Int) + 1 by omega] at this
      exact this
  · have hr : rl (s.extract 1 s.size) = (5, 0, 0) := by
      unfold rl
      rw [if_neg (by omega), eT, if_neg hn, if_neg hbad, if_neg (by omega), hc, Int.toNat_natCast, if_pos hq]
    rw [hr]
    exact rh_no s w hm h1 hx1 hx2 h3 hy hn' hz hz2 c (by rw [e1]; omega) (by rw [e1]; omega) (by omega) hq

/-- A head lies in a block. -/
structure LiesH (w : World) (k : Nat) (c : Int) (b : Bool) (n z l : Int) : Prop where
  f0 : w.cell? ⟨k, 0, none⟩ = some (.int .i64 c)
  f1 : w.cell? ⟨k, 1, none⟩ = some (.bool b)
  f2 : w.cell? ⟨k, 2, none⟩ = some (.int .i64 n)
  f3 : w.cell? ⟨k, 3, none⟩ = some (.int .i64 z)
  f4 : w.cell? ⟨k, 4, none⟩ = some (.int .i64 l)
theorem LiesH.lt {w : World} {k : Nat} {c : Int} {b : Bool} {n z l : Int} (h : LiesH w k c b n z l) : k < w.heap.size := cell_lt h.f0
theorem LiesH.below {w w' : World} {k : Nat} {c : Int} {b : Bool} {n z l : Int} (h : LiesH w k c b n z l) (hb : Below w.heap.size w w') : LiesH w' k c b n z l :=
  ⟨(hb.cell h.lt).trans h.f0, (hb.cell h.lt).trans h.f1, (hb.cell h.lt).trans h.f2, (hb.cell h.lt).trans h.f3, (hb.cell h.lt).trans h.f4⟩
theorem LiesH.new (w : World) (c : Int) (b : Bool) (n z l : Int) (T : TypeId) : LiesH (w.alloc (.cells #[.int .i64 c, .bool b, .int .i64 n, .int .i64 z, .int .i64 l] T)) w.heap.size c b n z l :=
  ⟨by simp, by simp, by simp, by simp, by simp⟩
theorem LiesH.alloc {w : World} {k : Nat} {c : Int} {b : Bool} {n z l : Int} (h : LiesH w k c b n z l) (o : Obj) : LiesH (w.alloc o) k c b n z l := h.below ((Below.refl _ _).alloc (Nat.le_refl _) _)
end Go.Proofs.YtkkicodfpekbgaaGreatDoor

/-! The document's reader: head. -/
namespace Go.Proofs.YtkkicodfpekbgaaGreatDoor
set_option linter.unusedSimpArgs false
set_option linter.unusedVariables false
open Go.RowKit

set_option maxHeartbeats 2000000 in
set_option maxRecDepth 100000 in
theorem rdhead_any (W w : World) (R : Nat) (a : Option Addr) (n c : Nat) (data : ByteArray) (tree : List Vl) (p : Int) (x y : Nat) (h : RdI W w R a n c data tree 0 p) (hxy : x ≤ y) (hy : y ≤ data.size) (hm : data.size ≤ 140737488355328) :
    Calls Tryz.prog 101 #[.pointer (some ⟨R, 0, none⟩), .int .i64 x, .int .i64 y] w fun e w' => e = .returned (hv (hd (data.extract x y)).2) ∧ RdI W w' R a n c data tree (hd (data.extract x y)).1 (if (hd (data.extract x y)).1 = 0 then p else x) ∧ Fr R w w' := by
  have HI : Hid (RdI W w R a n c data tree 0 p) := h
  have HH : Hid (∀ w, Calls Tryz.prog 105 #[.string (data.extract x y)] w fun e w' => e = .returned (.tuple #[hv (hd (data.extract x y)).2, .int .i64 (hd (data.extract x y)).1]) ∧ Below w.heap.size w w') := fun w => rHead_any _ w (by simp; omega)
  obtain ⟨_, hlo, vt, hr, _⟩ := h
  unfold rdObj at hr
  have c1 : w.cell? ⟨R, 1, none⟩ = some (.string data) := by simp [World.cell?, hr]
  have c3 : w.cell? ⟨R, 3, none⟩ = some (.int .i64 0) := by simp [World.cell?, hr]
  have hRl : R < w.heap.size := lt_of_cell c1
  clear hr
  have hxy' : (x : Int) ≤ y := by omega
  have hy' : (y : Int) ≤ data.size := by omega
  generalize (hd (data.extract x y)).1 = k at HH ⊢
  generalize (hd (data.extract x y)).2 = H at HH ⊢
  obtain ⟨hc, hb, hn, hs, hl⟩ := H
  unfold hv at HH ⊢
  go_enter Tryz.func101, Tryz.ntmps101
  go_wp2_with fail
  refine (HH.out _).mono ?_
  rintro e w1 ⟨rfl, hb1⟩
  have HB1 : Hid (Below w.heap.size w w1) := below_alloc hb1
  have HG1 : Hid (w1.heap[w.heap.size]? = some (.cells #[.int .i64 0, .bool false, .int .i64 0, .int .i64 0, .int .i64 0] 179 (0, 0))) := block_below (heap_alloc_new w _) hb1
  have hs1 : w.heap.size < w1.heap.size := by have := hb1.size; simp at this; omega
  clear hb1
  have q0 : w1.cell? ⟨w.heap.size, 0, none⟩ = some (.int .i64 0) := by simp [World.cell?, HG1.out]
  have f0 : w1.frozen? ⟨w.heap.size, 0, none⟩ = false := by simp [World.frozen?, HG1.out]
  have q1 : w1.cell? ⟨w.heap.size, 1, none⟩ = some (.bool false) := by simp [World.cell?, HG1.out]
  have f1 : w1.frozen? ⟨w.heap.size, 1, none⟩ = false := by simp [World.frozen?, HG1.out]
  have q2 : w1.cell? ⟨w.heap.size, 2, none⟩ = some (.int .i64 0) := by simp [World.cell?, HG1.out]
  have f2 : w1.frozen? ⟨w.heap.size, 2, none⟩ = false := by simp [World.frozen?, HG1.out]
  have q3 : w1.cell? ⟨w.heap.size, 3, none⟩ = some (.int .i64 0) := by simp [World.cell?, HG1.out]
  have f3 : w1.frozen? ⟨w.heap.size, 3, none⟩ = false := by simp [World.frozen?, HG1.out]
  have q4 : w1.cell? ⟨w.heap.size, 4, none⟩ = some (.int .i64 0) := by simp [World.cell?, HG1.out]
  have f4 : w1.frozen? ⟨w.heap.size, 4, none⟩ = false := by simp [World.frozen?, HG1.out]
  have hne : w.heap.size ≠ R := by omega
  have hW : W.heap.size ≤ w.heap.size := by omega
  by_cases hk : k = 0
  · subst hk
    have HF : Hid (RdI W (w1.alloc (.cells #[.int .i64 hc, .bool hb, .int .i64 hn, .int .i64 hs, .int .i64 hl] 179)) R a n c data tree 0 p) := (HI.out.below HB1.out).below ((Below.refl _ _).alloc (Nat.le_refl _) _)
    have HG : Hid ((w1.alloc (.cells #[.int .i64 hc, .bool hb, .int .i64 hn, .int .i64 hs, .int .i64 hl] 179)).heap[w.heap.size]? = some (.cells #[.int .i64 0, .bool false, .int .i64 0, .int .i64 0, .int .i64 0] 179 (0, 0))) := block_below HG1.out ((Below.refl _ _).alloc (Nat.le_refl _) _)
    go_wp2
    refine bodyPost_ret (v := .agg #[.int .i64 hc, .bool hb, .int .i64 hn, .int .i64 hs, .int .i64 hl]) (by simp [results, Tryz.results101, go_sem, hs1, q0, q1, q2, q3, q4]) rfl ⟨rfl, ?_, ?_⟩
    · exact ((HI.out.below HB1.out).set5 hW hne (by decide) HG1.out _ _ _ _ _).below ((Below.refl _ _).alloc (Nat.le_refl _) _)
    · exact ((Fr.of_below HB1.out).set5 (Nat.le_refl _) _ _ _ _ _).trans (Fr.of_below ((Below.refl _ _).alloc (Nat.le_refl _) _))
  · have hk' : (k != 0) = true := by simp [hk]
    have HK : Hid (¬ k = 0) := hk
    clear hk
    have HF : Hid (RdI W (w1.alloc (.cells #[.int .i64 hc, .bool hb, .int .i64 hn, .int .i64 hs, .int .i64 hl] 179)) R a n c data tree 0 p) := (HI.out.below HB1.out).below ((Below.refl _ _).alloc (Nat.le_refl _) _)
    have HG : Hid ((w1.alloc (.cells #[.int .i64 hc, .bool hb, .int .i64 hn, .int .i64 hs, .int .i64 hl] 179)).heap[w.heap.size]? = some (.cells #[.int .i64 0, .bool false, .int .i64 0, .int .i64 0, .int .i64 0] 179 (0, 0))) := block_below HG1.out ((Below.refl _ _).alloc (Nat.le_refl _) _)
    go_wp2_with fail
    refine (stop_first W _ R a n c data tree p k x HF.out).mono ?_
    rintro e w2 ⟨rfl, hI2, hoth⟩
    have HI2 : Hid (RdI W w2 R a n c data tree k x) := hI2
    have HG2 : Hid (w2.heap[w.heap.size]? = some (.cells #[.int .i64 0, .bool false, .int .i64 0, .int .i64 0, .int .i64 0] 179 (0, 0))) := (hoth _ hne).trans HG.out
    have hG3 : w2.heap[w1.heap.size]? = some (.cells #[.int .i64 hc, .bool hb, .int .i64 hn, .int .i64 hs, .int .i64 hl] 179 (0, 0)) := (hoth _ (by omega)).trans (heap_alloc_new w1 _)
    have r0 : w2.cell? ⟨w.heap.size, 0, none⟩ = some (.int .i64 0) := by simp [World.cell?, HG2.out]
    have g0 : w2.frozen? ⟨w.heap.size, 0, none⟩ = false := by simp [World.frozen?, HG2.out]
    have r1 : w2.cell? ⟨w.heap.size, 1, none⟩ = some (.bool false) := by simp [World.cell?, HG2.out]
    have g1 : w2.frozen? ⟨w.heap.size, 1, none⟩ = false := by simp [World.frozen?, HG2.out]
    have r2 : w2.cell? ⟨w.heap.size, 2, none⟩ = some (.int .i64 0) := by simp [World.cell?, HG2.out]
    have g2 : w2.frozen? ⟨w.heap.size, 2, none⟩ = false := by simp [World.frozen?, HG2.out]
    have r3 : w2.cell? ⟨w.heap.size, 3, none⟩ = some (.int .i64 0) := by simp [World.cell?, HG2.out]
    have g3 : w2.frozen? ⟨w.heap.size, 3, none⟩ = false := by simp [World.frozen?, HG2.out]
    have r4 : w2.cell? ⟨w.heap.size, 4, none⟩ = some (.int .i64 0) := by simp [World.cell?, HG2.out]
    have g4 : w2.frozen? ⟨w.heap.size, 4, none⟩ = false := by simp [World.frozen?, HG2.out]
    have t0 : w2.cell? ⟨w1.heap.size, 0, none⟩ = some (.int .i64 hc) := by simp [World.cell?, hG3]
    have t1 : w2.cell? ⟨w1.heap.size, 1, none⟩ = some (.bool hb) := by simp [World.cell?, hG3]
    have t2 : w2.cell? ⟨w1.heap.size, 2, none⟩ = some (.int .i64 hn) := by simp [World.cell?, hG3]
    have t3 : w2.cell? ⟨w1.heap.size, 3, none⟩ = some (.int .i64 hs) := by simp [World.cell?, hG3]
    have t4 : w2.cell? ⟨w1.heap.size, 4, none⟩ = some (.int .i64 hl) := by simp [World.cell?, hG3]
    have HFR : Hid (Fr R w w2) := ((Fr.of_below HB1.out).trans (Fr.of_below ((Below.refl _ _).alloc (Nat.le_refl _) _))).trans (Fr.of_same hoth)
    clear hI2 hoth hG3 q0 q1 q2 q3 q4 f0 f1 f2 f3 f4
    go_wp2
    refine bodyPost_ret (v := .agg #[.int .i64 hc, .bool hb, .int .i64 hn, .int .i64 hs, .int .i64 hl]) (by simp [results, Tryz.results101, go_sem, r0, r1, r2, r3, r4]) rfl ⟨rfl, ?_, ?_⟩
    · exact HI2.out.set5 hW hne (by decide) HG2.out _ _ _ _ _
    · exact HFR.out.set5 (Nat.le_refl _) _ _ _ _ _
end Go.Proofs.YtkkicodfpekbgaaGreatDoor

/-! The document's reader: bare, of the kinds 1 to 9. -/
namespace Go.Proofs.YtkkicodfpekbgaaGreatDoor
set_option linter.unusedSimpArgs false
set_option linter.unusedVariables false
open Go.RowKit

/-- What bare does: kinds 1 to 9. -/
def BareL (k cl nu : Int) (h : Hd) (data : ByteArray) (x z y : Nat) (dp : Int) (tree : List Vl) (p : Int) (tree' : List Vl) (e' p' : Int) : Prop :=
  (¬ (h.c = cl ∧ h.n = nu ∧ h.b = false) ∧ tree' = tree ∧ e' = 4 ∧ p' = x) ∨
  ((h.c = cl ∧ h.n = nu ∧ h.b = false) ∧ 12 < dp ∧ tree' = tree ∧ e' = 10 ∧ p' = x) ∨
  ((h.c = cl ∧ h.n = nu ∧ h.b = false) ∧ dp ≤ 12 ∧ ContentOk k (data.extract (x + z) y) ∧ tree' = tree ++ [⟨k, data.extract (x + z) y, 0, 0⟩] ∧ e' = 0 ∧ p' = p) ∨
  ((h.c = cl ∧ h.n = nu ∧ h.b = false) ∧ dp ≤ 12 ∧ ¬ ContentOk k (data.extract (x + z) y) ∧ tree' = tree ∧ e' = 6 ∧ p' = x)
/-- What a method of the reader leaves. -/
def RetR (W w : World) (R : Nat) (a : Option Addr) (n c : Nat) (data : ByteArray) (v : Value) (Q : List Vl → Int → Int → Prop) (e : Ending) (w' : World) : Prop :=
  e = .returned v ∧ ∃ tree' e' p', RdI W w' R a n c data tree' e' p' ∧ Q tree' e' p' ∧ Fr R w w'

set_option maxHeartbeats 4000000 in
set_option maxRecDepth 100000 in
theorem bare_leaf (W w : World) (R : Nat) (a : Option Addr) (n c : Nat) (data : ByteArray) (tree : List Vl) (p : Int) (N : Nd) (ka : Option Addr) (kc : Nat) (cl nu : Int) (hc : Int) (hb : Bool) (hn : Int) (z : Nat) (hl : Int) (x y : Nat) (dp : Int)
    (h : RdI W w R a n c data tree 0 p) (hk1 : 1 ≤ N.kind) (hk9 : N.kind ≤ 9) (hxy : x + z ≤ y) (hy : y ≤ data.size) (hm : data.size ≤ 140737488355328) (ht : tree.length ≤ 1099511627776) :
    Calls Tryz.prog 102 #[.pointer (some ⟨R, 0, none⟩), .agg #[.int .i64 N.kind, .int .i64 N.tag, .int .i64 N.mode, .slice ka N.kids.length kc], .int .i64 cl, .int .i64 nu, .agg #[.int .i64 hc, .bool hb, .int .i64 hn, .int .i64 z, .int .i64 hl], .int .i64 x, .int .i64 y, .int .i64 dp] w
      fun e w' => RetR W w R a n c data (.tuple #[]) (BareL N.kind cl nu ⟨hc, hb, hn, z, hl⟩ data x z y dp tree p) e w' := by
  have HI : Hid (RdI W w R a n c data tree 0 p) := h
  have HC : Hid (∀ w, Calls Tryz.prog 108 #[.int .i64 N.kind, .string (data.extract (x + z) y)] w fun e w' => RetB (ContentOk N.kind (data.extract (x + z) y)) w e w') := fun w => isContent_any _ _ w (by simp; omega)
  obtain ⟨_, hlo, vt, hr, _⟩ := h
  unfold rdObj at hr
  have c1 : w.cell? ⟨R, 1, none⟩ = some (.string data) := by simp [World.cell?, hr]
  have hRl : R < w.heap.size := lt_of_cell c1
  clear hr
  have k13 : (N.kind == 13) = false := by rw [beq_eq_false_iff_ne]; omega
  have k14 : (N.kind == 14) = false := by rw [beq_eq_false_iff_ne]; omega
  have k14' : (N.kind != 14) = true := by rw [bne_iff_ne]; omega
  have k10 : (N.kind == 10) = false := by rw [beq_eq_false_iff_ne]; omega
  have k10' : N.kind < 10 := by omega
  have HW1 : Hid (∀ o1 o2, RdI W ((w.alloc o1).alloc o2) R a n c data tree 0 p) := fun o1 o2 => (HI.out.below ((Below.refl _ _).alloc (Nat.le_refl _) _)).below ((Below.refl _ _).alloc (Nat.le_refl _) _)
  have FW : Hid (∀ o1 o2 k, Fr R w (((w.alloc o1).alloc o2).drewN k)) := fun o1 o2 k => Fr.of_below (below_drewN (((Below.refl w.heap.size w).alloc (Nat.le_refl _) o1).alloc (by simp) o2) k)
  by_cases q : hc = cl ∧ hn = nu ∧ hb = false
  · have HQ : Hid (hc = cl ∧ hn = nu ∧ hb = false) := q
    obtain ⟨rfl, rfl, rfl⟩ := q
    by_cases hd : 12 < dp
    · have HD : Hid (12 < dp) := hd
      go_enter Tryz.func102, Tryz.ntmps102
      go_wp2_with fail
      refine (stop_first W _ R a n c data tree p 10 x (HW1.out _ _)).mono ?_
      rintro e w2 ⟨rfl, hI2, hoth⟩
      have HI2 : Hid (RdI W w2 R a n c data tree 10 x) := hI2
      have HFR : Hid (Fr R w w2) := (FW.out _ _ 0).trans (Fr.of_same hoth)
      clear hI2 hoth
      go_wp2
      go_end0
      exact ⟨rfl, tree, 10, x, HI2.out, .inr (.inl ⟨⟨rfl, rfl, rfl⟩, HD.out, rfl, rfl, rfl⟩), HFR.out⟩
    · have hd' : dp ≤ 12 := by omega
      have HD : Hid (dp ≤ 12) := hd'
      have hxy' : (x : Int) + z ≤ y := by omega
      have hy' : (y : Int) ≤ data.size := by omega
      have hx0 : (x : Int) + z ≤ 140737488355328 := by omega
      clear hd
      go_enter Tryz.func102, Tryz.ntmps102
      go_wp2_with fail
      go_quiet (fail)
      go_wp2_with fail
      refine (HC.out _).mono ?_
      rintro e w2 ⟨r, rfl, hr2, kq, rfl⟩
      have HR2 : Hid (r = true ↔ ContentOk N.kind (data.extract (x + z) y)) := hr2
      clear hr2
      cases r
      · go_wp2_with fail
        refine (stop_first W _ R a n c data tree p 6 x ((HW1.out _ _).below (below_drewN (Below.refl _ _) _))).mono ?_
        rintro e w3 ⟨rfl, hI3, hoth⟩
        have HI3 : Hid (RdI W w3 R a n c data tree 6 x) := hI3
        have HFR : Hid (Fr R w w3) := (FW.out _ _ _).trans (Fr.of_same hoth)
        clear hI3 hoth
        go_wp2
        go_end0
        exact ⟨rfl, tree, 6, x, HI3.out, .inr (.inr (.inr ⟨⟨rfl, rfl, rfl⟩, HD.out, fun h => Bool.noConfusion (HR2.out.2 h), rfl, rfl, rfl⟩)), HFR.out⟩
      · go_wp2_with fail
        refine (put_any W _ R a n c data tree 0 p ⟨N.kind, data.extract (x + z) y, 0, 0⟩ ((HW1.out _ _).below (below_drewN (Below.refl _ _) _)) ht).mono ?_
        rintro e w3 ⟨rfl, hI3, hfr⟩
        have HI3 : Hid (RdI W w3 R a n c data (tree ++ [⟨N.kind, data.extract (x + z) y, 0, 0⟩]) 0 p) := hI3
        have HFR : Hid (Fr R w w3) := (FW.out _ _ _).trans hfr
        clear hI3 hfr
        go_wp2
        go_end0
        exact ⟨rfl, _, 0, p, HI3.out, .inr (.inr (.inl ⟨⟨rfl, rfl, rfl⟩, HD.out, HR2.out.1 trivial, rfl, rfl, rfl⟩)), HFR.out⟩
  · have HQ : Hid (¬ (hc = cl ∧ hn = nu ∧ hb = false)) := q
    have q' : (hc != cl) = true ∨ ((hc != cl) = false ∧ (hn != nu) = true) ∨ ((hc != cl) = false ∧ (hn != nu) = false ∧ hb = true) := by
      by_cases q1 : hc = cl
      · by_cases q2 : hn = nu
        · right; right
          refine ⟨by simp [q1], by simp [q2], ?_⟩
          cases hb
          · exact absurd ⟨q1, q2, rfl⟩ q
          · rfl
        · right; left; exact ⟨by simp [q1], by simp [q2]⟩
      · left; simp [q1]
    clear q
    rcases q' with e1 | ⟨e1, e2⟩ | ⟨e1, e2, rfl⟩
    · go_enter Tryz.func102, Tryz.ntmps102
      go_wp2_with fail
      refine (stop_first W _ R a n c data tree p 4 x (HW1.out _ _)).mono ?_
      rintro e w2 ⟨rfl, hI2, hoth⟩
      have HI2 : Hid (RdI W w2 R a n c data tree 4 x) := hI2
      have HFR : Hid (Fr R w w2) := (FW.out _ _ 0).trans (Fr.of_same hoth)
      clear hI2 hoth
      go_wp2
      go_end0
      exact ⟨rfl, tree, 4, x, HI2.out, .inl ⟨HQ.out, rfl, rfl, rfl⟩, HFR.out⟩
    · go_enter Tryz.func102, Tryz.ntmps102
      go_wp2_with fail
      refine (stop_first W _ R a n c data tree p 4 x (HW1.out _ _)).mono ?_
      rintro e w2 ⟨rfl, hI2, hoth⟩
      have HI2 : Hid (RdI W w2 R a n c data tree 4 x) := hI2
      have HFR : Hid (Fr R w w2) := (FW.out _ _ 0).trans (Fr.of_same hoth)
      clear hI2 hoth
      go_wp2
      go_end0
      exact ⟨rfl, tree, 4, x, HI2.out, .inl ⟨HQ.out, rfl, rfl, rfl⟩, HFR.out⟩
    · go_enter Tryz.func102, Tryz.ntmps102
      go_wp2_with fail
      refine (stop_first W _ R a n c data tree p 4 x (HW1.out _ _)).mono ?_
      rintro e w2 ⟨rfl, hI2, hoth⟩
      have HI2 : Hid (RdI W w2 R a n c data tree 4 x) := hI2
      have HFR : Hid (Fr R w w2) := (FW.out _ _ 0).trans (Fr.of_same hoth)
      clear hI2 hoth
      go_wp2
      go_end0
      exact ⟨rfl, tree, 4, x, HI2.out, .inl ⟨HQ.out, rfl, rfl, rfl⟩, HFR.out⟩
end Go.Proofs.YtkkicodfpekbgaaGreatDoor

/-! hallmarkref.Own: the number of a kind's own tag. -/
namespace Go.Proofs.YtkkicodfpekbgaaGreatDoor
set_option linter.unusedSimpArgs false
set_option linter.unusedVariables false
open Go.RowKit

set_option maxHeartbeats 1000000 in
set_option maxRecDepth 100000 in
theorem own_any (k : Int) (h : 0 ≤ k) (h' : k ≤ 12) (w : World) :
    Calls Tryz.prog 142 #[.int .i64 k] w fun e w' => e = .returned (.int .i64 (own k)) ∧ Below w.heap.size w w' := by
  obtain ⟨n, rfl⟩ : ∃ n : Nat, k = n := ⟨k.toNat, by omega⟩
  have hn : n ≤ 12 := by omega
  clear h h'
  match n, hn with
  | 0, _ | 1, _ | 2, _ | 3, _ | 4, _ | 5, _ | 6, _ | 7, _ | 8, _ | 9, _ | 10, _ | 11, _ | 12, _ =>
    go_enter Tryz.func142, Tryz.ntmps142
    go_wp2
    go_ret
    exact ⟨rfl, (Below.refl _ _).alloc (Nat.le_refl _) _⟩
end Go.Proofs.YtkkicodfpekbgaaGreatDoor

/-! The document's reader: Own0, node of the kinds 1 to 9. -/
namespace Go.Proofs.YtkkicodfpekbgaaGreatDoor
set_option linter.unusedSimpArgs false
set_option linter.unusedVariables false
open Go.RowKit

theorem hd_ok {r : ByteArray} (h : (hd r).1 = 0) : 1 ≤ (hd r).2.s ∧ 0 ≤ (hd r).2.l ∧ (hd r).2.s + (hd r).2.l ≤ r.size := by
  have hr := rl_bd (r.extract 1 r.size)
  unfold hd at h ⊢
  repeat' split at h
  all_goals first | (exfalso; simp at h; done) | skip
  · rename_i h1; exfalso; exact h1 h
  · rename_i h1 h2 h3 h4
    rw [if_neg h1, if_neg h2, if_neg h3, if_neg h4]
    simp only
    omega

set_option maxHeartbeats 1000000 in
set_option maxRecDepth 100000 in
theorem own0_any (k : Int) (h : 0 ≤ k) (h' : k ≤ 12) (w : World) :
    Calls Tryz.prog 103 #[.int .i64 k] w fun e w' => e = .returned (.int .i64 (own k)) ∧ Below w.heap.size w w' := by
  have HO : Hid (∀ w, Calls Tryz.prog 142 #[.int .i64 k] w fun e w' => e = .returned (.int .i64 (own k)) ∧ Below w.heap.size w w') := fun w => own_any k h h' w
  go_enter Tryz.func103, Tryz.ntmps103
  go_wp2_with fail
  refine (HO.out _).mono ?_
  rintro e w1 ⟨rfl, hb⟩
  have HB : Hid (Below w.heap.size w w1) := hb
  clear hb
  go_wp2
  go_ret
  exact ⟨rfl, HB.out⟩

/-- An element of a node (kinds 1 to 9) at a place: where it ends, and its content. -/
def NodeAt (N : Nd) (data : ByteArray) (x y : Nat) (dp : Int) (to : Nat) (u : ByteArray) : Prop :=
  dp ≤ 12 ∧ (hd (data.extract x y)).1 = 0 ∧ (to : Int) = x + (hd (data.extract x y)).2.s + (hd (data.extract x y)).2.l ∧
  ((N.tag < 0 ∧ (hd (data.extract x y)).2.c = 0 ∧ (hd (data.extract x y)).2.n = own N.kind ∧ (hd (data.extract x y)).2.b = false ∧ u = data.extract (x + (hd (data.extract x y)).2.s.toNat) to ∧ ContentOk N.kind u) ∨
   (0 ≤ N.tag ∧ N.mode = 0 ∧ (hd (data.extract x y)).2.c = 2 ∧ (hd (data.extract x y)).2.n = N.tag ∧ (hd (data.extract x y)).2.b = false ∧ u = data.extract (x + (hd (data.extract x y)).2.s.toNat) to ∧ ContentOk N.kind u) ∨
   (0 ≤ N.tag ∧ N.mode ≠ 0 ∧ (hd (data.extract x y)).2.c = 2 ∧ (hd (data.extract x y)).2.n = N.tag ∧ (hd (data.extract x y)).2.b = true ∧
     ∃ t, t = data.extract (x + (hd (data.extract x y)).2.s.toNat) to ∧ (hd t).1 = 0 ∧ (hd t).2.c = 0 ∧ (hd t).2.n = own N.kind ∧ (hd t).2.b = false ∧ (x : Int) + (hd (data.extract x y)).2.s + (hd t).2.s + (hd t).2.l = to ∧
       u = data.extract (x + (hd (data.extract x y)).2.s.toNat + (hd t).2.s.toNat) to ∧ ContentOk N.kind u))
/-- What node leaves: kinds 1 to 9. -/
def RetN (W : World) (R : Nat) (a : Option Addr) (n c : Nat) (data : ByteArray) (N : Nd) (x y : Nat) (dp : Int) (tree : List Vl) (e : Ending) (w' : World) : Prop :=
  ∃ (v : Int) (tree' : List Vl) (e' p' : Int), e = .returned (.int .i64 v) ∧ RdI W w' R a n c data tree' e' p' ∧
    ((e' = 0 ∧ ∃ to u, v = (to : Nat) ∧ NodeAt N data x y dp to u ∧ tree' = tree ++ [⟨N.kind, u, 0, 0⟩]) ∨ (e' ≠ 0 ∧ ∀ to u, ¬ NodeAt N data x y dp to u))
end Go.Proofs.YtkkicodfpekbgaaGreatDoor

/-! schemas.within: what the heads of an element are around. -/
namespace Go.Proofs.YtkkicodfpekbgaaGreatDoor
set_option linter.unusedSimpArgs false
set_option linter.unusedVariables false
open Go.RowKit
attribute [local go_sem ↓] Go.wp_at_zero Go.wp_at_succ

/-- A text without these heads. -/
def strip : List (Int × Int × Bool) → ByteArray → Option ByteArray
  | [], t => some t
  | f :: fs, t => if (hd t).1 = 0 ∧ ((hd t).2.c, (hd t).2.n, (hd t).2.b) = f ∧ (hd t).2.s + (hd t).2.l = t.size then strip fs (t.extract (hd t).2.s.toNat t.size) else none
/-- What it answers. -/
def RetI (n : Nd) (t : ByteArray) (w : World) (e : Ending) (w' : World) : Prop :=
  ∃ (u : ByteArray) (r : Bool), e = .returned (.tuple #[.string u, .bool r]) ∧ ((r = true ∧ strip n.lays t = some u) ∨ (r = false ∧ strip n.lays t = none)) ∧ Below w.heap.size w w' ∧ u.size ≤ t.size

set_option maxHeartbeats 4000000 in
set_option maxRecDepth 100000 in
theorem within_any (n : Nd) (ka : Option Addr) (kc : Nat) (t : ByteArray) (w : World) (sn : Sn → Addr) (hsn : Sent w sn) (hn : Nums w) (ht : -1 ≤ n.tag) (hk : 0 ≤ n.kind) (hk' : n.kind ≤ 9) (hm1 : n.mode = 1 → 0 ≤ n.tag) (hm : t.size ≤ 140737488355328) :
    Calls Tryz.prog 137 #[.agg #[.int .i64 n.kind, .int .i64 n.tag, .int .i64 n.mode, .slice ka n.kids.length kc], .string t] w fun e w' => RetI n t w e w' := by
  have HL : Hid (∀ wq, Below w.heap.size w wq → Calls Tryz.prog 172 #[.agg #[.int .i64 n.kind, .int .i64 n.tag, .int .i64 n.mode, .slice ka n.kids.length kc]] wq fun e w' => ∃ g, e = .returned (.slice (some ⟨g, 0, none⟩) n.lays.length n.lays.length) ∧ (∃ T, w'.heap[g]? = some (.cells (lcells n.lays).toArray T (0, 0))) ∧ Below wq.heap.size wq w') := fun wq q => layers_any n ka kc wq (hn.below q) ht hk hk' hm1
  have HS : Hid (Sent w sn) := hsn
  have hlen : n.lays.length ≤ 2 := by unfold Nd.lays; split <;> simp
  clear hsn hn hm1
  obtain ⟨L, hL⟩ : ∃ L, n.lays = L := ⟨_, rfl⟩
  have HLL : Hid (n.lays = L) := hL
  rw [hL] at HL hlen
  clear hL
  go_enter Tryz.func137, Tryz.ntmps137
  go_wp2_with fail
  refine (HL.out _ ((Below.refl _ _).alloc (Nat.le_refl _) _)).mono ?_
  rintro e w1 ⟨g, rfl, ⟨T, hG⟩, hb1⟩
  have HB1 : Hid (Below w.heap.size w w1) := below_alloc hb1
  have HG : Hid (w1.heap[g]? = some (.cells (lcells L).toArray T (0, 0))) := hG
  clear hb1 hG
  go_wp2
  go_loopw [1, 13] (fun v1 vj wr => ∃ (j : Nat) (u : ByteArray), vj = .int .i64 j ∧ v1 = .string u ∧ j ≤ L.length ∧ strip L t = strip (L.drop j) u ∧ u.size ≤ t.size ∧ Below w1.heap.size w1 wr) (fun _ vj _ => L.length - (intOf vj).toNat)
  case atStart => exact ⟨0, t, rfl, rfl, Nat.zero_le _, rfl, Nat.le_refl _, Below.refl _ _⟩
  case round =>
    obtain ⟨j, u, rfl, rfl, hj, hst, hu, hbr⟩ := hrel
    have HST : Hid (strip L t = strip (L.drop j) u) := hst
    have HB : Hid (Below w1.heap.size w1 wr) := hbr
    have HBW : Hid (Below w.heap.size w wr) := HB1.out.trans (hbr.mono HB1.out.size)
    have hGr := block_below HG.out hbr
    by_cases hlt : j < L.length
    · have hlt' : (j : Int) < L.length := by omega
      obtain ⟨c, m, b, hf⟩ : ∃ c m b, L[j]? = some (c, m, b) := ⟨(L[j]).1, (L[j]).2.1, (L[j]).2.2, by rw [List.getElem?_eq_getElem hlt]⟩
      have HF : Hid (L.drop j = (c, m, b) :: L.drop (j + 1)) := by
        show L.drop j = _
        rw [List.drop_eq_getElem_cons hlt]
        rw [List.getElem?_eq_getElem hlt] at hf
        injection hf with hf
        rw [hf]
      have hcell : wr.cell? ⟨g, j * 3, none⟩ = some (.int .i64 c) ∧ wr.cell? ⟨g, j * 3 + 1, none⟩ = some (.int .i64 m) ∧ wr.cell? ⟨g, j * 3 + 2, none⟩ = some (.bool b) := by
        simp only [World.cell?, hGr]
        match L, hlen, j, hlt, hf with
        | [f0], _, 0, _, hf => simp at hf; subst hf; simp [lcells]
        | [f0, f1], _, 0, _, hf => simp at hf; subst hf; simp [lcells]
        | [f0, f1], _, 1, _, hf => simp at hf; subst hf; simp [lcells]
      obtain ⟨g0, g1, g2⟩ := hcell
      have HRD : Hid (∀ wq, Below w.heap.size w wq → Calls Tryz.prog 156 #[.string u, .int .i64 0] wq fun e w' => e = .returned (.tuple #[hv (hd u).2, errAt 0 sn (hd u).1]) ∧ Below wq.heap.size wq w') := fun wq q => read0 u wq sn (HS.out.below q) (by omega)
      have hlg := lt_of_cell g0
      simp only at hlg
      clear hst hbr hGr hf
      go_wp2_with fail
      refine (HRD.out _ (HBW.out.alloc HBW.out.size _)).mono ?_
      rintro e w2 ⟨rfl, hb2⟩
      have HB2 : Hid (Below w1.heap.size w1 w2) := HB.out.trans ((below_alloc hb2).mono HB.out.size)
      have HBW2 : Hid (Below w.heap.size w w2) := HBW.out.trans ((below_alloc hb2).mono HBW.out.size)
      have hF := block_below (heap_alloc_new wr (.cells #[.int .i64 c, .int .i64 m, .bool b] 149)) hb2
      have hs2 := lt_of_block hF
      have t0 : w2.cell? ⟨wr.heap.size, 0, none⟩ = some (.int .i64 c) := by simp [World.cell?, hF]
      have t1 : w2.cell? ⟨wr.heap.size, 1, none⟩ = some (.int .i64 m) := by simp [World.cell?, hF]
      have t2 : w2.cell? ⟨wr.heap.size, 2, none⟩ = some (.bool b) := by simp [World.cell?, hF]
      obtain ⟨hc, hb, hn, hz, hl, hH⟩ : ∃ hc hb hn hz hl, (hd u).2 = ⟨hc, hb, hn, hz, hl⟩ := ⟨_, _, _, _, _, rfl⟩
      have HH : Hid ((hd u).2 = ⟨hc, hb, hn, hz, hl⟩) := hH
      rw [hH]
      unfold hv
      clear hb2 hF hH g0 g1 g2
      by_cases hk0 : (hd u).1 = 0
      · have HK : Hid ((hd u).1 = 0) := hk0
        have hok := hd_ok hk0
        rw [HH.out] at hok
        simp only at hok
        obtain ⟨z, rfl⟩ : ∃ z : Nat, hz = z := ⟨hz.toNat, by omega⟩
        obtain ⟨l, rfl⟩ : ∃ l : Nat, hl = l := ⟨hl.toNat, by omega⟩
        have e0 : errAt 0 sn (hd u).1 = .nilIface := by rw [hk0]; rfl
        rw [e0]
        have HFO : Hid (∀ wq, Calls Tryz.prog 157 #[.agg #[.int .i64 hc, .bool hb, .int .i64 hn, .int .i64 z, .int .i64 l]] wq fun e w' => e = .returned (.agg #[.int .i64 hc, .int .i64 hn, .bool hb]) ∧ Below wq.heap.size wq w') := fun wq => firstOf_any hc hb hn z l wq
        have HBW3 : Hid (Below w.heap.size w (w2.alloc (.cells #[.int .i64 hc, .bool hb, .int .i64 hn, .int .i64 z, .int .i64 l] 179))) := HBW2.out.alloc HBW2.out.size _
        have HB3 : Hid (Below w1.heap.size w1 (w2.alloc (.cells #[.int .i64 hc, .bool hb, .int .i64 hn, .int .i64 z, .int .i64 l] 179))) := HB2.out.alloc HB2.out.size _
        have X0 : ∀ x : Ext (w2.alloc (.cells #[.int .i64 hc, .bool hb, .int .i64 hn, .int .i64 z, .int .i64 l] 179)), x.v.cell? ⟨w2.heap.size, 0, none⟩ = some (.int .i64 hc) := fun x => x.new rfl
        have X1 : ∀ x : Ext (w2.alloc (.cells #[.int .i64 hc, .bool hb, .int .i64 hn, .int .i64 z, .int .i64 l] 179)), x.v.cell? ⟨w2.heap.size, 1, none⟩ = some (.bool hb) := fun x => x.new rfl
        have X2 : ∀ x : Ext (w2.alloc (.cells #[.int .i64 hc, .bool hb, .int .i64 hn, .int .i64 z, .int .i64 l] 179)), x.v.cell? ⟨w2.heap.size, 2, none⟩ = some (.int .i64 hn) := fun x => x.new rfl
        have X3 : ∀ x : Ext (w2.alloc (.cells #[.int .i64 hc, .bool hb, .int .i64 hn, .int .i64 z, .int .i64 l] 179)), x.v.cell? ⟨w2.heap.size, 3, none⟩ = some (.int .i64 z) := fun x => x.new rfl
        have X4 : ∀ x : Ext (w2.alloc (.cells #[.int .i64 hc, .bool hb, .int .i64 hn, .int .i64 z, .int .i64 l] 179)), x.v.cell? ⟨w2.heap.size, 4, none⟩ = some (.int .i64 l) := fun x => x.new rfl
        have Y0 : ∀ x : Ext (w2.alloc (.cells #[.int .i64 hc, .bool hb, .int .i64 hn, .int .i64 z, .int .i64 l] 179)), x.v.cell? ⟨wr.heap.size, 0, none⟩ = some (.int .i64 c) := fun x => x.old t0
        have Y1 : ∀ x : Ext (w2.alloc (.cells #[.int .i64 hc, .bool hb, .int .i64 hn, .int .i64 z, .int .i64 l] 179)), x.v.cell? ⟨wr.heap.size, 1, none⟩ = some (.int .i64 m) := fun x => x.old t1
        have Y2 : ∀ x : Ext (w2.alloc (.cells #[.int .i64 hc, .bool hb, .int .i64 hn, .int .i64 z, .int .i64 l] 179)), x.v.cell? ⟨wr.heap.size, 2, none⟩ = some (.bool b) := fun x => x.old t2
        have hzl : (z : Int) + l ≤ 9223372036854775807 := by omega
        clear hk0 e0
        by_cases hq : hc = c ∧ hn = m ∧ hb = b
        · obtain ⟨rfl, rfl, rfl⟩ := hq
          go_wp2_with fail
          (have ne := ext_ne; refine wp_region_ext (by kernel_rfl) (by kernel_rfl) ?_; (repeat (first | go_big_quiet_skip | (go_big_quiet_want; go_big_quiet_op; first | go_big_quiet_on | (apply Exists.intro; refine ⟨fun x => ?_, ?_⟩; (· (exact Ext.calls (HFO.out x.v))); go_big_quiet_on)))); refine nil_ext ?_)
          intro w5 hb5
          have z3 := X3 ⟨w5, hb5⟩
          have HB5 : Hid (Below w1.heap.size w1 w5) := HB3.out.trans (hb5.mono HB3.out.size)
          have HBW5 : Hid (Below w.heap.size w w5) := HBW3.out.trans (hb5.mono HBW3.out.size)
          have HS5 : Hid (w2.heap.size < w5.heap.size) := lt_of_cell z3
          simp only at z3
          clear X0 X1 X2 X3 X4 Y0 Y1 Y2 hb5
          by_cases hsz : (z : Int) + l = u.size
          · have hsz' : ((z : Int) + l != u.size) = false := by rw [bne_eq_false_iff_eq]; exact hsz
            have hzu : (z : Int) ≤ u.size := by omega
            go_wp2
            go_roundw
            case rel =>
              refine ⟨j + 1, u.extract z u.size, by go_num, rfl, by omega, ?_, ?_, HB5.out⟩
              · rw [HST.out, HF.out]
                show (if _ then _ else _) = _
                rw [HH.out, if_pos ⟨HK.out, rfl, hsz⟩]
                rfl
              · have : (u.extract z u.size).size = u.size - z := by simp
                omega
            case measure => simp [intOf]; omega
          · have hsz' : ((z : Int) + l != u.size) = true := by rw [bne_iff_ne]; exact hsz
            have HNO : Hid (strip L t = none) := by show strip L t = none; rw [HST.out, HF.out]; unfold strip; rw [if_neg (fun q => hsz (by have := q.2.2; rw [HH.out] at this; exact this))]
            clear hsz
            go_wp2
            go_ret2
            exact ⟨⟨#[]⟩, false, rfl, .inr ⟨rfl, by rw [HLL.out]; exact HNO.out⟩, HBW5.out, by exact Nat.zero_le _⟩
        · have HNO : Hid (strip L t = none) := by show strip L t = none; rw [HST.out, HF.out]; unfold strip; rw [if_neg (fun q => hq (by have := q.2.1; rw [HH.out] at this; simpa using this))]
          have hq3 : ¬ hc = c ∨ (hc = c ∧ ¬ hn = m) ∨ (hc = c ∧ hn = m ∧ ¬ hb = b) := by
            by_cases a1 : hc = c
            · by_cases a2 : hn = m
              · exact .inr (.inr ⟨a1, a2, fun a3 => hq ⟨a1, a2, a3⟩⟩)
              · exact .inr (.inl ⟨a1, a2⟩)
            · exact .inl a1
          clear hq
          rcases hq3 with hq | ⟨rfl, hq⟩ | ⟨rfl, rfl, hq⟩
          all_goals
            go_wp2_with fail
            (have ne := ext_ne; refine wp_region_ext (by kernel_rfl) (by kernel_rfl) ?_; (repeat (first | go_big_quiet_skip | (go_big_quiet_want; go_big_quiet_op; first | go_big_quiet_on | (apply Exists.intro; refine ⟨fun x => ?_, ?_⟩; (· (exact Ext.calls (HFO.out x.v))); go_big_quiet_on)))); refine nil_ext ?_)
            intro w5 hb5
            have HBW5 : Hid (Below w.heap.size w w5) := HBW3.out.trans (hb5.mono HBW3.out.size)
            clear X0 X1 X2 X3 X4 Y0 Y1 Y2 hb5
            go_wp2
            go_ret2
            exact ⟨⟨#[]⟩, false, rfl, .inr ⟨rfl, by rw [HLL.out]; exact HNO.out⟩, HBW5.out, by exact Nat.zero_le _⟩
      · have HK : Hid (¬ (hd u).1 = 0) := hk0
        have HNO : Hid (strip L t = none) := by show strip L t = none; rw [HST.out, HF.out]; unfold strip; rw [if_neg (fun q => hk0 q.1)]
        obtain ⟨fp, fa, he⟩ : ∃ fp fa, errAt 0 sn (hd u).1 = fault fp fa := by
          unfold errAt
          rw [if_neg hk0]
          repeat' split
          all_goals exact ⟨_, _, rfl⟩
        rw [he]
        unfold fault
        clear hk0 he
        go_wp2_with fail
        go_quiet (fail)
        go_wp2
        go_ret2
        exact ⟨⟨#[]⟩, false, rfl, .inr ⟨rfl, by rw [HLL.out]; exact HNO.out⟩, below_drewN (HBW2.out.alloc HBW2.out.size _) _, by exact Nat.zero_le _⟩
    · have hlt' : (L.length : Int) ≤ j := by omega
      have HE : Hid (strip L t = some u) := by show strip L t = some u; rw [hst, List.drop_of_length_le (by omega)]; rfl
      clear hst hbr hGr
      go_wp2
      go_ret2
      exact ⟨u, true, rfl, .inl ⟨rfl, by rw [HLL.out]; exact HE.out⟩, HBW.out, hu⟩
end Go.Proofs.YtkkicodfpekbgaaGreatDoor

/-! The document's reader: node, of the kinds 1 to 9: the pure part. -/
namespace Go.Proofs.YtkkicodfpekbgaaGreatDoor
set_option linter.unusedSimpArgs false
set_option linter.unusedVariables false
open Go.RowKit

/-- The disjunction of RetN. -/
def NodeD (N : Nd) (data : ByteArray) (x y : Nat) (dp : Int) (tree tree' : List Vl) (v e' : Int) : Prop :=
  (e' = 0 ∧ ∃ to u, v = (to : Nat) ∧ NodeAt N data x y dp to u ∧ tree' = tree ++ [⟨N.kind, u, 0, 0⟩]) ∨ (e' ≠ 0 ∧ ∀ to u, ¬ NodeAt N data x y dp to u)
theorem nodeA {N : Nd} {data : ByteArray} {x y z l : Nat} {dp : Int} {tree tree' : List Vl} {p e' p' hc hn : Int} {hb : Bool} (cl nu : Int) (hk : (hd (data.extract x y)).1 = 0) (hH : (hd (data.extract x y)).2 = ⟨hc, hb, hn, z, l⟩)
    (hcn : (N.tag < 0 ∧ cl = 0 ∧ nu = own N.kind) ∨ (0 ≤ N.tag ∧ N.mode = 0 ∧ cl = 2 ∧ nu = N.tag))
    (h : BareL N.kind cl nu ⟨hc, hb, hn, z, l⟩ data x z (x + z + l) dp tree p tree' e' p') : NodeD N data x y dp tree tree' ((x : Int) + z + l) e' := by
  have hto : ∀ to u, NodeAt N data x y dp to u → to = x + z + l ∧ hc = cl ∧ hn = nu ∧ hb = false ∧ dp ≤ 12 ∧ u = data.extract (x + z) (x + z + l) ∧ ContentOk N.kind u := by
    rintro to u ⟨h1, _, h3, h4⟩
    rw [hH] at h3 h4
    simp only [Int.toNat_natCast] at h3 h4
    have : to = x + z + l := by omega
    subst this
    rcases h4 with ⟨q1, q2, q3, q4, q5, q6⟩ | ⟨q1, q2, q3, q4, q5, q6, q7⟩ | ⟨q1, q2, _⟩
    · rcases hcn with ⟨_, r1, r2⟩ | ⟨r0, _⟩
      · exact ⟨rfl, q2.trans r1.symm, q3.trans r2.symm, q4, h1, q5, q6⟩
      · omega
    · rcases hcn with ⟨r0, _⟩ | ⟨_, _, r1, r2⟩
      · omega
      · exact ⟨rfl, q3.trans r1.symm, q4.trans r2.symm, q5, h1, q6, q7⟩
    · rcases hcn with ⟨r0, _⟩ | ⟨_, r1, _⟩
      · omega
      · exact absurd r1 q2
  rcases h with ⟨h1, _, h3, _⟩ | ⟨_, h2, _, h3, _⟩ | ⟨⟨h1, h2, h3⟩, h4, h5, h6, h7, _⟩ | ⟨_, _, h5, _, h7, _⟩
  · exact .inr ⟨by omega, fun to u q => h1 ⟨(hto to u q).2.1, (hto to u q).2.2.1, (hto to u q).2.2.2.1⟩⟩
  · exact .inr ⟨by omega, fun to u q => by have := (hto to u q).2.2.2.2.1; omega⟩
  · refine .inl ⟨h7, x + z + l, _, by omega, ⟨h4, hk, by rw [hH]; simp only; omega, ?_⟩, h6⟩
    rw [hH]
    simp only [Int.toNat_natCast]
    rcases hcn with ⟨r0, r1, r2⟩ | ⟨r0, r1, r2, r3⟩
    · exact .inl ⟨r0, h1.trans r1, h2.trans r2, h3, trivial, h5⟩
    · exact .inr (.inl ⟨r0, r1, h1.trans r2, h2.trans r3, h3, trivial, h5⟩)
  · exact .inr ⟨by omega, fun to u q => h5 (by have := (hto to u q).2.2.2.2.2; rw [← this.1]; exact this.2)⟩

theorem nodeC_no {N : Nd} {data : ByteArray} {x y z l : Nat} {dp : Int} {hc hn : Int} {hb : Bool} (hH : (hd (data.extract x y)).2 = ⟨hc, hb, hn, z, l⟩) (ht : 0 ≤ N.tag) (hm : N.mode = 1)
    {to : Nat} {u : ByteArray} (h : NodeAt N data x y dp to u) : to = x + z + l ∧ hc = 2 ∧ hn = N.tag ∧ hb = true ∧ dp ≤ 12 ∧ (hd (data.extract (x + z) (x + z + l))).1 = 0 ∧
      ∀ hc2 hb2 hn2 (z2 l2 : Nat), (hd (data.extract (x + z) (x + z + l))).2 = ⟨hc2, hb2, hn2, z2, l2⟩ → hc2 = 0 ∧ hn2 = own N.kind ∧ hb2 = false ∧ x + z + z2 + l2 = x + z + l ∧ u = data.extract (x + z + z2) (x + z + l) ∧ ContentOk N.kind u := by
  obtain ⟨h1, _, h3, h4⟩ := h
  rw [hH] at h3 h4
  simp only [Int.toNat_natCast] at h3 h4
  obtain rfl : to = x + z + l := by omega
  rcases h4 with ⟨q1, _⟩ | ⟨_, q1, _⟩ | ⟨_, _, q1, q2, q3, t, rfl, q4, q5, q6, q7, q8, q9, q10⟩
  · omega
  · omega
  · refine ⟨rfl, q1, q2, q3, h1, q4, fun hc2 hb2 hn2 z2 l2 hH2 => ?_⟩
    rw [hH2] at q5 q6 q7 q8 q9
    simp only [Int.toNat_natCast] at q5 q6 q7 q8 q9
    exact ⟨q5, q6, q7, by omega, q9, q10⟩
theorem nodeC {N : Nd} {data : ByteArray} {x y z l z2 l2 : Nat} {dp : Int} {tree tree' : List Vl} {p e' p' hc hn hc2 hn2 : Int} {hb hb2 : Bool} (hk : (hd (data.extract x y)).1 = 0) (hH : (hd (data.extract x y)).2 = ⟨hc, hb, hn, z, l⟩) (ht : 0 ≤ N.tag) (hm : N.mode = 1)
    (hq : hc = 2 ∧ hn = N.tag ∧ hb = true) (hdp : dp ≤ 12) (hk2 : (hd (data.extract (x + z) (x + z + l))).1 = 0) (hH2 : (hd (data.extract (x + z) (x + z + l))).2 = ⟨hc2, hb2, hn2, z2, l2⟩)
    (h : BareL N.kind 0 (own N.kind) ⟨hc2, hb2, hn2, z2, l2⟩ data (x + z) z2 (x + z + z2 + l2) dp tree p tree' e' p') :
    (x + z + z2 + l2 = x + z + l → NodeD N data x y dp tree tree' ((x : Int) + z + l) e') ∧ (x + z + z2 + l2 ≠ x + z + l → ∀ to u, ¬ NodeAt N data x y dp to u) ∧ (e' ≠ 0 → ∀ to u, ¬ NodeAt N data x y dp to u) := by
  have hno : ∀ {to u}, NodeAt N data x y dp to u → _ := fun q => nodeC_no hH ht hm q
  have hne : e' ≠ 0 → ∀ to u, ¬ NodeAt N data x y dp to u := fun he to u q => by
    obtain ⟨r1, r2, r3, r4, r5, r6, r7⟩ := hno q
    obtain ⟨s1, s2, s3, s4, s5, s6⟩ := r7 hc2 hb2 hn2 z2 l2 hH2
    rcases h with ⟨g1, _⟩ | ⟨_, g1, _⟩ | ⟨_, _, _, _, g1, _⟩ | ⟨_, _, g1, _⟩
    · exact g1 ⟨s1, s2, s3⟩
    · omega
    · exact he g1
    · exact g1 (by rw [s4, ← s5]; exact s6)
  refine ⟨fun he => ?_, fun he to u q => he ((hno q).2.2.2.2.2.2 hc2 hb2 hn2 z2 l2 hH2).2.2.2.1, hne⟩
  by_cases he0 : e' = 0
  · left
    refine ⟨he0, x + z + l, data.extract (x + z + z2) (x + z + l), by omega, ⟨hdp, hk, by rw [hH]; simp only; omega, ?_⟩, ?_⟩
    · rw [hH]
      simp only [Int.toNat_natCast]
      refine .inr (.inr ⟨ht, by omega, hq.1, hq.2.1, hq.2.2, _, rfl, hk2, ?_⟩)
      rw [hH2]
      simp only [Int.toNat_natCast]
      rcases h with ⟨_, _, g1, _⟩ | ⟨_, _, _, g1, _⟩ | ⟨⟨g1, g2, g3⟩, _, g4, _⟩ | ⟨_, _, _, _, g1, _⟩
      · omega
      · omega
      · exact ⟨g1, g2, g3, by omega, trivial, by rw [← he]; exact g4⟩
      · omega
    · rcases h with ⟨_, _, g1, _⟩ | ⟨_, _, _, g1, _⟩ | ⟨_, _, _, g4, _⟩ | ⟨_, _, _, _, g1, _⟩
      · omega
      · omega
      · rw [← he]; exact g4
      · omega
  · exact .inr ⟨he0, hne he0⟩
end Go.Proofs.YtkkicodfpekbgaaGreatDoor

/-! The document's reader: node, of the kinds 1 to 9 (without a Tag). -/
namespace Go.Proofs.YtkkicodfpekbgaaGreatDoor
set_option linter.unusedSimpArgs false
set_option linter.unusedVariables false
open Go.RowKit

set_option maxHeartbeats 8000000 in
set_option maxRecDepth 100000 in
theorem node_leafA (s : List Nd) (W w : World) (R : Nat) (a : Option Addr) (c : Nat) (data : ByteArray) (tree : List Vl) (p : Int) (i x y : Nat) (dp : Int)
    (h : RdI W w R a s.length c data tree 0 p) (hs : Sch W a s) (hi : i < s.length) (hk1 : 1 ≤ (nd s i).kind) (hk9 : (nd s i).kind ≤ 9) (htg : (nd s i).tag < 0)
    (hxy : x ≤ y) (hy : y ≤ data.size) (hm : data.size ≤ 140737488355328) (ht : tree.length ≤ 1099511627776) :
    Calls Tryz.prog 69 #[.pointer (some ⟨R, 0, none⟩), .int .i64 i, .int .i64 x, .int .i64 y, .int .i64 dp] w
      fun e w' => RetN W R a s.length c data (nd s i) x y dp tree e w' := by
  have HI : Hid (RdI W w R a s.length c data tree 0 p) := h
  have HHD : Hid (∀ (w1 : World) (p : Int) (x y : Nat), RdI W w1 R a s.length c data tree 0 p → x ≤ y → y ≤ data.size → Calls Tryz.prog 101 #[.pointer (some ⟨R, 0, none⟩), .int .i64 x, .int .i64 y] w1 fun e w' => e = .returned (hv (hd (data.extract x y)).2) ∧ RdI W w' R a s.length c data tree (hd (data.extract x y)).1 (if (hd (data.extract x y)).1 = 0 then p else x) ∧ Fr R w1 w') :=
    fun w1 p x y h1 h2 h3 => rdhead_any W w1 R a s.length c data tree p x y h1 h2 h3 hm
  obtain ⟨hb, hlo, vt, hr, _⟩ := h
  unfold rdObj at hr
  have c0 : w.cell? ⟨R, 0, none⟩ = some (.slice a s.length c) := by simp [World.cell?, hr]
  have hRl : R < w.heap.size := lt_of_cell c0
  clear hr
  obtain ⟨b, o, ka, kc, rfl, nc, kl, km, ks⟩ := hs i hi
  obtain ⟨n1, n2, n3, n4⟩ := nc.below hb
  have hi' : (i : Int) < s.length := by omega
  clear hs nc ks hb
  generalize hN : nd s i = N at *
  clear hN
  have HX : Hid (∀ to u, NodeAt N data x y dp to u → (hd (data.extract x y)).1 = 0) := fun to u q => q.2.1
  go_enter Tryz.func69, Tryz.ntmps69
  go_wp2_with fail
  refine (HHD.out _ p x y (HI.out.below ((Below.refl _ _).alloc (Nat.le_refl _) _)) hxy hy).mono ?_
  rintro e w1 ⟨rfl, hI1, hf1⟩
  have HG1 : Hid (w1.heap[w.heap.size]? = some (.cells #[.int .i64 N.kind, .int .i64 N.tag, .int .i64 N.mode, .slice ka N.kids.length kc] 58 (0, 0))) := hf1 _ _ _ (by omega) (by decide) (heap_alloc_new w _)
  obtain ⟨hc, hb, hn, hz, hl, hH⟩ : ∃ hc hb hn hz hl, (hd (data.extract x y)).2 = ⟨hc, hb, hn, hz, hl⟩ := ⟨_, _, _, _, _, rfl⟩
  have HH : Hid ((hd (data.extract x y)).2 = ⟨hc, hb, hn, hz, hl⟩) := hH
  rw [hH]
  unfold hv
  obtain ⟨k1, hk⟩ : ∃ k, (hd (data.extract x y)).1 = k := ⟨_, rfl⟩
  have HK : Hid ((hd (data.extract x y)).1 = k1) := hk
  rw [hk] at hI1
  have HI1 : Hid (RdI W w1 R (some ⟨b, o, none⟩) s.length c data tree k1 (if k1 = 0 then p else x)) := hI1
  obtain ⟨_, _, vt1, hr1, _⟩ := hI1
  unfold rdObj at hr1
  have r3 : w1.cell? ⟨R, 3, none⟩ = some (.int .i64 k1) := by simp [World.cell?, hr1]
  have hs1 : w.heap.size < w1.heap.size := by
    rcases Nat.lt_or_ge w.heap.size w1.heap.size with h' | h'
    · exact h'
    · have := HG1.out; rw [Array.getElem?_eq_none h'] at this; cases this
  have hRs : R < w1.heap.size := by omega
  have m0 : w1.cell? ⟨w.heap.size, 0, none⟩ = some (.int .i64 N.kind) := by simp [World.cell?, HG1.out]
  have m1 : w1.cell? ⟨w.heap.size, 1, none⟩ = some (.int .i64 N.tag) := by simp [World.cell?, HG1.out]
  have m2 : w1.cell? ⟨w.heap.size, 2, none⟩ = some (.int .i64 N.mode) := by simp [World.cell?, HG1.out]
  have m3 : w1.cell? ⟨w.heap.size, 3, none⟩ = some (.slice ka N.kids.length kc) := by simp [World.cell?, HG1.out]
  clear hf1 hH hk hr1 n1 n2 n3 n4 c0
  by_cases hk0 : k1 = 0
  · subst hk0
    have hok := hd_ok HK.out
    rw [HH.out] at hok
    simp only at hok
    rw [show (data.extract x y).size = y - x by simp; omega] at hok
    obtain ⟨z, rfl⟩ : ∃ z : Nat, hz = z := ⟨hz.toNat, by omega⟩
    obtain ⟨l, rfl⟩ : ∃ l : Nat, hl = l := ⟨hl.toNat, by omega⟩
    have hzl : x + z + l ≤ y := by omega
    have hto1 : (x : Int) + z ≤ 9223372036854775807 := by omega
    have hto2 : (x : Int) + z + l ≤ 9223372036854775807 := by omega
    have BA : Hid (∀ (w3 : World) (cl nu : Int), RdI W w3 R (some ⟨b, o, none⟩) s.length c data tree 0 p → Calls Tryz.prog 102 #[.pointer (some ⟨R, 0, none⟩), .agg #[.int .i64 N.kind, .int .i64 N.tag, .int .i64 N.mode, .slice ka N.kids.length kc], .int .i64 cl, .int .i64 nu, .agg #[.int .i64 hc, .bool hb, .int .i64 hn, .int .i64 z, .int .i64 l], .int .i64 x, .int .i64 ((x : Int) + z + l), .int .i64 dp] w3
      fun e w' => RetR W w3 R (some ⟨b, o, none⟩) s.length c data (.tuple #[]) (BareL N.kind cl nu ⟨hc, hb, hn, z, l⟩ data x z (x + z + l) dp tree p) e w') := fun w3 cl nu h3 => by
      have := bare_leaf W w3 R (some ⟨b, o, none⟩) s.length c data tree p N ka kc cl nu hc hb hn z l x (x + z + l) dp h3 hk1 hk9 (by omega) (by omega) hm ht
      rw [show ((x + z + l : Nat) : Int) = (x : Int) + z + l by omega] at this
      exact this
    have HI2 : Hid (∀ o1, RdI W (w1.alloc o1) R (some ⟨b, o, none⟩) s.length c data tree 0 p) := fun o1 => HI1.out.below ((Below.refl _ _).alloc (Nat.le_refl _) _)
    clear hok
    have RUN0 : Hid (∀ args w, (callFunc 103 args).run Tryz.prog w = .ok (.enter 103 args) w) := fun args w => run_enter Tryz.func103 (by kernel_rfl) (by rfl) args w
    have RUNB : Hid (∀ args w, (callFunc 102 args).run Tryz.prog w = .ok (.enter 102 args) w) := fun args w => run_enter Tryz.func102 (by kernel_rfl) (by rfl) args w
    have HO : Hid (∀ w, Calls Tryz.prog 103 #[.int .i64 N.kind] w fun e w' => e = .returned (.int .i64 (own N.kind)) ∧ Below w.heap.size w w') := fun w => own0_any N.kind (by omega) (by omega) w
    have HT : Hid (N.tag < 0) := htg
    go_wp2_with fail
    go_region_law (first | (refine step_calls rfl 103 _ _ rfl #[.int .i64 N.kind] (by simp [Act.eval, Act.put]) (.int .i64 (own N.kind)) (fun w' => Below ((w1.alloc (.cells #[.int .i64 hc, .bool hb, .int .i64 hn, .int .i64 z, .int .i64 l] 179)).drew).heap.size ((w1.alloc (.cells #[.int .i64 hc, .bool hb, .int .i64 hn, .int .i64 z, .int .i64 l] 179)).drew) w') (RUN0.out _ _) (HO.out _) ?_; intro w3 hb3; have hI3 := ((HI2.out _).below (below_drewN (Below.refl _ _) 1)).below hb3; obtain ⟨hc3, hf3⟩ := bcell hb3) | (refine step_calls rfl 102 _ _ rfl #[.pointer (some ⟨R, 0, none⟩), .agg #[.int .i64 N.kind, .int .i64 N.tag, .int .i64 N.mode, .slice ka N.kids.length kc], .int .i64 0, .int .i64 (own N.kind), .agg #[.int .i64 hc, .bool hb, .int .i64 hn, .int .i64 z, .int .i64 l], .int .i64 x, .int .i64 ((x : Int) + z + l), .int .i64 dp] (by simp [Act.eval, Act.put]) (.tuple #[]) (fun w' => ∃ tree' e' p', RdI W w' R (some ⟨b, o, none⟩) s.length c data tree' e' p' ∧ BareL N.kind 0 (own N.kind) ⟨hc, hb, hn, z, l⟩ data x z (x + z + l) dp tree p tree' e' p' ∧ Fr R w3 w') (RUNB.out _ _) (BA.out _ 0 (own N.kind) hI3) ?_; rintro w4 ⟨tree', e', p', hI4, hB4, hf4⟩))
    all_goals
      have HB4 : Hid (BareL N.kind 0 (own N.kind) ⟨hc, hb, hn, z, l⟩ data x z (x + z + l) dp tree p tree' e' p') := hB4
      have HI4 : Hid (RdI W w4 R (some ⟨b, o, none⟩) s.length c data tree' e' p') := hI4
      clear hB4 hI4 hf4 hc3 hf3 hI3 hb3
      go_wp2
      go_ret
      exact ⟨_, tree', e', p', rfl, HI4.out, nodeA 0 (own N.kind) HK.out HH.out (.inl ⟨HT.out, rfl, rfl⟩) HB4.out⟩
  · have HK0 : Hid (k1 ≠ 0) := hk0
    have e0 : (k1 != 0) = true := by simp [hk0]
    have HI1' : Hid (RdI W w1 R (some ⟨b, o, none⟩) s.length c data tree k1 x) := by have := HI1.out; rw [if_neg hk0] at this; exact this
    have HI3 : Hid (∀ o1, RdI W (w1.alloc o1) R (some ⟨b, o, none⟩) s.length c data tree k1 x) := fun o1 => HI1'.out.below ((Below.refl _ _).alloc (Nat.le_refl _) _)
    clear hk0
    go_wp2
    go_ret
    exact ⟨y, tree, k1, x, rfl, HI3.out _, .inr ⟨HK0.out, fun to u q => HK0.out (HK.out.symm.trans (HX.out to u q))⟩⟩
end Go.Proofs.YtkkicodfpekbgaaGreatDoor

/-! The document's reader: node, of the kinds 1 to 9 (a Tag of Mode 0). -/
namespace Go.Proofs.YtkkicodfpekbgaaGreatDoor
set_option linter.unusedSimpArgs false
set_option linter.unusedVariables false
open Go.RowKit

set_option maxHeartbeats 8000000 in
set_option maxRecDepth 100000 in
theorem node_leafB (s : List Nd) (W w : World) (R : Nat) (a : Option Addr) (c : Nat) (data : ByteArray) (tree : List Vl) (p : Int) (i x y : Nat) (dp : Int)
    (h : RdI W w R a s.length c data tree 0 p) (hs : Sch W a s) (hi : i < s.length) (hk1 : 1 ≤ (nd s i).kind) (hk9 : (nd s i).kind ≤ 9) (htg' : 0 ≤ (nd s i).tag) (hm0 : (nd s i).mode = 0)
    (hxy : x ≤ y) (hy : y ≤ data.size) (hm : data.size ≤ 140737488355328) (ht : tree.length ≤ 1099511627776) :
    Calls Tryz.prog 69 #[.pointer (some ⟨R, 0, none⟩), .int .i64 i, .int .i64 x, .int .i64 y, .int .i64 dp] w
      fun e w' => RetN W R a s.length c data (nd s i) x y dp tree e w' := by
  have HI : Hid (RdI W w R a s.length c data tree 0 p) := h
  have HHD : Hid (∀ (w1 : World) (p : Int) (x y : Nat), RdI W w1 R a s.length c data tree 0 p → x ≤ y → y ≤ data.size → Calls Tryz.prog 101 #[.pointer (some ⟨R, 0, none⟩), .int .i64 x, .int .i64 y] w1 fun e w' => e = .returned (hv (hd (data.extract x y)).2) ∧ RdI W w' R a s.length c data tree (hd (data.extract x y)).1 (if (hd (data.extract x y)).1 = 0 then p else x) ∧ Fr R w1 w') :=
    fun w1 p x y h1 h2 h3 => rdhead_any W w1 R a s.length c data tree p x y h1 h2 h3 hm
  obtain ⟨hb, hlo, vt, hr, _⟩ := h
  unfold rdObj at hr
  have c0 : w.cell? ⟨R, 0, none⟩ = some (.slice a s.length c) := by simp [World.cell?, hr]
  have hRl : R < w.heap.size := lt_of_cell c0
  clear hr
  obtain ⟨b, o, ka, kc, rfl, nc, kl, km, ks⟩ := hs i hi
  obtain ⟨n1, n2, n3, n4⟩ := nc.below hb
  have hi' : (i : Int) < s.length := by omega
  clear hs nc ks hb
  generalize hN : nd s i = N at *
  clear hN
  have HM0 : Hid (N.mode = 0) := hm0
  have e0 : (N.mode == 0) = true := by simp [hm0]
  clear hm0
  have HX : Hid (∀ to u, NodeAt N data x y dp to u → (hd (data.extract x y)).1 = 0) := fun to u q => q.2.1
  go_enter Tryz.func69, Tryz.ntmps69
  go_wp2_with fail
  refine (HHD.out _ p x y (HI.out.below ((Below.refl _ _).alloc (Nat.le_refl _) _)) hxy hy).mono ?_
  rintro e w1 ⟨rfl, hI1, hf1⟩
  have HG1 : Hid (w1.heap[w.heap.size]? = some (.cells #[.int .i64 N.kind, .int .i64 N.tag, .int .i64 N.mode, .slice ka N.kids.length kc] 58 (0, 0))) := hf1 _ _ _ (by omega) (by decide) (heap_alloc_new w _)
  obtain ⟨hc, hb, hn, hz, hl, hH⟩ : ∃ hc hb hn hz hl, (hd (data.extract x y)).2 = ⟨hc, hb, hn, hz, hl⟩ := ⟨_, _, _, _, _, rfl⟩
  have HH : Hid ((hd (data.extract x y)).2 = ⟨hc, hb, hn, hz, hl⟩) := hH
  rw [hH]
  unfold hv
  obtain ⟨k1, hk⟩ : ∃ k, (hd (data.extract x y)).1 = k := ⟨_, rfl⟩
  have HK : Hid ((hd (data.extract x y)).1 = k1) := hk
  rw [hk] at hI1
  have HI1 : Hid (RdI W w1 R (some ⟨b, o, none⟩) s.length c data tree k1 (if k1 = 0 then p else x)) := hI1
  obtain ⟨_, _, vt1, hr1, _⟩ := hI1
  unfold rdObj at hr1
  have r3 : w1.cell? ⟨R, 3, none⟩ = some (.int .i64 k1) := by simp [World.cell?, hr1]
  have hs1 : w.heap.size < w1.heap.size := by
    rcases Nat.lt_or_ge w.heap.size w1.heap.size with h' | h'
    · exact h'
    · have := HG1.out; rw [Array.getElem?_eq_none h'] at this; cases this
  have hRs : R < w1.heap.size := by omega
  have m0 : w1.cell? ⟨w.heap.size, 0, none⟩ = some (.int .i64 N.kind) := by simp [World.cell?, HG1.out]
  have m1 : w1.cell? ⟨w.heap.size, 1, none⟩ = some (.int .i64 N.tag) := by simp [World.cell?, HG1.out]
  have m2 : w1.cell? ⟨w.heap.size, 2, none⟩ = some (.int .i64 N.mode) := by simp [World.cell?, HG1.out]
  have m3 : w1.cell? ⟨w.heap.size, 3, none⟩ = some (.slice ka N.kids.length kc) := by simp [World.cell?, HG1.out]
  clear hf1 hH hk hr1 n1 n2 n3 n4 c0
  by_cases hk0 : k1 = 0
  · subst hk0
    have hok := hd_ok HK.out
    rw [HH.out] at hok
    simp only at hok
    rw [show (data.extract x y).size = y - x by simp; omega] at hok
    obtain ⟨z, rfl⟩ : ∃ z : Nat, hz = z := ⟨hz.toNat, by omega⟩
    obtain ⟨l, rfl⟩ : ∃ l : Nat, hl = l := ⟨hl.toNat, by omega⟩
    have hzl : x + z + l ≤ y := by omega
    have hto1 : (x : Int) + z ≤ 9223372036854775807 := by omega
    have hto2 : (x : Int) + z + l ≤ 9223372036854775807 := by omega
    have BA : Hid (∀ (w3 : World) (cl nu : Int), RdI W w3 R (some ⟨b, o, none⟩) s.length c data tree 0 p → Calls Tryz.prog 102 #[.pointer (some ⟨R, 0, none⟩), .agg #[.int .i64 N.kind, .int .i64 N.tag, .int .i64 N.mode, .slice ka N.kids.length kc], .int .i64 cl, .int .i64 nu, .agg #[.int .i64 hc, .bool hb, .int .i64 hn, .int .i64 z, .int .i64 l], .int .i64 x, .int .i64 ((x : Int) + z + l), .int .i64 dp] w3
      fun e w' => RetR W w3 R (some ⟨b, o, none⟩) s.length c data (.tuple #[]) (BareL N.kind cl nu ⟨hc, hb, hn, z, l⟩ data x z (x + z + l) dp tree p) e w') := fun w3 cl nu h3 => by
      have := bare_leaf W w3 R (some ⟨b, o, none⟩) s.length c data tree p N ka kc cl nu hc hb hn z l x (x + z + l) dp h3 hk1 hk9 (by omega) (by omega) hm ht
      rw [show ((x + z + l : Nat) : Int) = (x : Int) + z + l by omega] at this
      exact this
    have HI2 : Hid (∀ o1, RdI W (w1.alloc o1) R (some ⟨b, o, none⟩) s.length c data tree 0 p) := fun o1 => HI1.out.below ((Below.refl _ _).alloc (Nat.le_refl _) _)
    clear hok
    have RUN0 : Hid (∀ args w, (callFunc 103 args).run Tryz.prog w = .ok (.enter 103 args) w) := fun args w => run_enter Tryz.func103 (by kernel_rfl) (by rfl) args w
    have RUNB : Hid (∀ args w, (callFunc 102 args).run Tryz.prog w = .ok (.enter 102 args) w) := fun args w => run_enter Tryz.func102 (by kernel_rfl) (by rfl) args w
    have HT : Hid (0 ≤ N.tag) := htg'
    go_wp2_with fail
    refine (BA.out _ 2 N.tag (HI2.out _)).mono ?_
    rintro e w4 ⟨rfl, tree', e', p', hI4, hB4, hf4⟩
    have HB4 : Hid (BareL N.kind 2 N.tag ⟨hc, hb, hn, z, l⟩ data x z (x + z + l) dp tree p tree' e' p') := hB4
    have HI4 : Hid (RdI W w4 R (some ⟨b, o, none⟩) s.length c data tree' e' p') := hI4
    clear hB4 hI4 hf4
    go_wp2
    go_ret
    exact ⟨_, tree', e', p', rfl, HI4.out, nodeA 2 N.tag HK.out HH.out (.inr ⟨HT.out, HM0.out, rfl, rfl⟩) HB4.out⟩
  · have HK0 : Hid (k1 ≠ 0) := hk0
    have e0 : (k1 != 0) = true := by simp [hk0]
    have HI1' : Hid (RdI W w1 R (some ⟨b, o, none⟩) s.length c data tree k1 x) := by have := HI1.out; rw [if_neg hk0] at this; exact this
    have HI3 : Hid (∀ o1, RdI W (w1.alloc o1) R (some ⟨b, o, none⟩) s.length c data tree k1 x) := fun o1 => HI1'.out.below ((Below.refl _ _).alloc (Nat.le_refl _) _)
    clear hk0
    go_wp2
    go_ret
    exact ⟨y, tree, k1, x, rfl, HI3.out _, .inr ⟨HK0.out, fun to u q => HK0.out (HK.out.symm.trans (HX.out to u q))⟩⟩
end Go.Proofs.YtkkicodfpekbgaaGreatDoor

/-! hallmarkref.Begins: what it answers. -/
namespace Go.Proofs.YtkkicodfpekbgaaGreatDoor
set_option linter.unusedSimpArgs false
set_option linter.unusedVariables false
open Go.RowKit

theorem own_form {w : World} {base e size : Nat} {v : Value} {n : Nat} {xs : List Value} (h : w.ownsRow base e size v n xs) : ∃ a cap, v = .slice a n cap ∧ (0 < n → ∃ g, a = some ⟨g, 0, none⟩) := by
  rcases h.2 with ⟨hv, hn⟩ | ⟨g, cap, cur, hv, _⟩
  · subst hn; exact ⟨none, 0, hv, fun h => absurd h (Nat.lt_irrefl _)⟩
  · exact ⟨_, cap, hv, fun _ => ⟨g, rfl⟩⟩
/-- The kinds are those that there are. -/
def Kinds (s : List Nd) : Prop := ∀ j, j < s.length → 1 ≤ (nd s j).kind ∧ (nd s j).kind ≤ 14

set_option maxHeartbeats 4000000 in
set_option maxRecDepth 100000 in
theorem begins_any (s : List Nd) (a : Option Addr) (cp i : Nat) (c m : Int) (w : World) (hs : Sch w a s) (hw : Within s) (hkd : Kinds s) (hi : i < s.length) (hn : s.length ≤ 40) :
    Calls Tryz.prog 100 #[.slice a s.length cp, .int .i64 i, .int .i64 c, .int .i64 m] w fun e w' => RetO (Beg s i c m) w e w' := by
  have HS : Hid (Sch w a s) := hs
  have HW : Hid (Within s) := hw
  have HK : Hid (Kinds s) := hkd
  have HC : Hid (Calls Tryz.prog 37 #[.slice a s.length cp, .int .i64 i] w fun e w' => RetL s i w e w') := leaves_any s a cp i w hs hw hi hn
  clear hs hw hkd
  go_enter Tryz.func100, Tryz.ntmps100
  go_wp2_with fail
  refine HC.out.mono ?_
  rintro e w1 ⟨v, l, bk, rfl, hown, hb, hl, hlf, _⟩
  obtain ⟨va, vc, rfl, hva⟩ := own_form hown
  have HO : Hid (w1.ownsRow w.heap.size 3 1 (.slice va l.length vc) l.length (ivs l)) := hown
  have HB : Hid (Below w.heap.size w w1) := hb
  have HF : Hid (∀ j, j ∈ l ↔ Leaf s i j) := hlf
  have HA : Hid (0 < l.length → ∃ g, va = some ⟨g, 0, none⟩) := hva
  clear hown hb hlf hva HC
  go_wp2
  go_loopw [11] (fun vk wr => ∃ k : Nat, k ≤ l.length ∧ vk = .int .i64 k ∧ (∀ p, p < k → ¬ begAt (nd s (l.getD p 0)) c m) ∧ Below w1.heap.size w1 wr) (fun vk _ => l.length - (intOf vk).toNat)
  case atStart => exact ⟨0, Nat.zero_le _, rfl, fun p hp => absurd hp (Nat.not_lt_zero _), Below.refl _ _⟩
  case round =>
    obtain ⟨k, hk, rfl, hno, hbr⟩ := hrel
    have HN : Hid (∀ p, p < k → ¬ begAt (nd s (l.getD p 0)) c m) := hno
    have HBR : Hid (Below w1.heap.size w1 wr) := hbr
    by_cases hlt : k < l.length
    · obtain ⟨g, rfl⟩ := HA.out (by omega)
      have ck := own_cell (own_below HO.out hbr) hlt
      have HX : Hid (l.getD k 0 ∈ l) := by show _ ∈ l; rw [List.getD_eq_getElem?_getD, List.getElem?_eq_getElem hlt]; exact List.getElem_mem hlt
      generalize hx : l.getD k 0 = x at ck HX
      have HXE : Hid (l.getD k 0 = x) := hx
      have hxs : x < s.length := ((HF.out x).1 HX.out).1.lt HW.out hi
      have hkx := HK.out x hxs
      have HLX : Hid (Leaf s i x) := (HF.out x).1 HX.out
      obtain ⟨b, o, ka, kc, rfl, nc, kl, km, ks⟩ := HS.out x hxs
      have HBW : Hid (Below w.heap.size w wr) := HB.out.trans (hbr.mono HB.out.size)
      obtain ⟨n1, n2, n3, n4⟩ := nc.below HBW.out
      have hlt' : (k : Int) < l.length := by omega
      have hxs' : (x : Int) < s.length := by omega
      have NX : Hid (∀ (h : ¬ begAt (nd s x) c m), ∀ p, p < k + 1 → ¬ begAt (nd s (l.getD p 0)) c m) := fun h p hp => by
        by_cases e : p = k
        · subst e; rw [HXE.out]; exact h
        · exact HN.out p (by omega)
      have YES : Hid (begAt (nd s x) c m → Beg s i c m) := fun h => ⟨x, HLX.out, h⟩
      clear hno hbr hx nc ks
      by_cases ht : 0 ≤ (nd s x).tag
      · by_cases hc : c = 2
        · subst hc
          by_cases hm : m = (nd s x).tag
          · have HH : Hid (begAt (nd s x) 2 m) := .inl ⟨ht, rfl, hm⟩
            subst hm
            go_wp2
            go_ret
            exact reto_yes (YES.out HH.out) (HBW.out.alloc HBW.out.size _)
          · have HH : Hid (¬ begAt (nd s x) 2 m) := fun h => by rcases h with h | h | h <;> omega
            have hm' : (m == (nd s x).tag) = false := by rw [beq_eq_false_iff_ne]; exact hm
            clear hm
            go_wp2
            go_roundw
            case rel => exact ⟨k + 1, by omega, by go_num, NX.out HH.out, HBR.out.alloc HBR.out.size _⟩
            case measure => simp [intOf]; omega
        · have HH : Hid (¬ begAt (nd s x) c m) := fun h => by rcases h with h | h | h <;> omega
          have hc' : (c == 2) = false := by rw [beq_eq_false_iff_ne]; exact hc
          clear hc
          go_wp2
          go_roundw
          case rel => exact ⟨k + 1, by omega, by go_num, NX.out HH.out, HBR.out.alloc HBR.out.size _⟩
          case measure => simp [intOf]; omega
      · have ht' : (nd s x).tag < 0 := by omega
        clear ht
        by_cases ha : (nd s x).kind = 14
        · have HH : Hid (begAt (nd s x) c m) := .inr (.inl ⟨ht', ha⟩)
          have ha' : ((nd s x).kind == 14) = true := by rw [beq_iff_eq]; exact ha
          clear ha hkx
          go_wp2
          go_ret
          exact reto_yes (YES.out HH.out) (HBW.out.alloc HBW.out.size _)
        · have ha' : ((nd s x).kind == 14) = false := by rw [beq_eq_false_iff_ne]; exact ha
          by_cases hc : c = 0
          · subst hc
            have HO1 : Hid (∀ w, Calls Tryz.prog 142 #[.int .i64 (nd s x).kind] w fun e w' => e = .returned (.int .i64 (own (nd s x).kind)) ∧ Below w.heap.size w w') := fun w => own_any _ (by omega) (by have h3 := HLX.out.2; have : (nd s x).kind ≠ 13 := fun e => h3 ⟨e, ht'⟩; omega) w
            by_cases hm : m = own (nd s x).kind
            · have HH : Hid (begAt (nd s x) 0 m) := .inr (.inr ⟨ht', ha, rfl, hm⟩)
              have hm' : (m == own (nd s x).kind) = true := by rw [beq_iff_eq]; exact hm
              clear hm ha
              go_wp2_with fail
              refine (HO1.out _).mono ?_
              rintro e w2 ⟨rfl, hb2⟩
              have HB2 : Hid (Below w.heap.size w w2) := HBW.out.trans ((below_alloc hb2).mono HBW.out.size)
              clear hb2
              go_wp2
              go_ret
              exact reto_yes (YES.out HH.out) HB2.out
            · have HH : Hid (¬ begAt (nd s x) 0 m) := fun h => by rcases h with h | h | h <;> omega
              have hm' : (m == own (nd s x).kind) = false := by rw [beq_eq_false_iff_ne]; exact hm
              clear hm ha
              go_wp2_with fail
              refine (HO1.out _).mono ?_
              rintro e w2 ⟨rfl, hb2⟩
              have HB2 : Hid (Below w1.heap.size w1 w2) := HBR.out.trans ((below_alloc hb2).mono HBR.out.size)
              clear hb2
              go_wp2
              go_roundw
              case rel => exact ⟨k + 1, by omega, by go_num, NX.out HH.out, HB2.out⟩
              case measure => simp [intOf]; omega
          · have HH : Hid (¬ begAt (nd s x) c m) := fun h => by rcases h with h | h | h <;> omega
            have hc' : (c == 0) = false := by rw [beq_eq_false_iff_ne]; exact hc
            clear hc ha
            go_wp2
            go_roundw
            case rel => exact ⟨k + 1, by omega, by go_num, NX.out HH.out, HBR.out.alloc HBR.out.size _⟩
            case measure => simp [intOf]; omega
    · have hlt' : (l.length : Int) ≤ k := by omega
      clear hno hbr
      go_wp2
      go_ret
      exact reto_no (fun ⟨j, hj, hbg⟩ => by
        obtain ⟨p, hp, e⟩ := List.getElem_of_mem ((HF.out j).2 hj)
        refine HN.out p (by omega) ?_
        rw [List.getD_eq_getElem?_getD, List.getElem?_eq_getElem hp]; simpa [e] using hbg) (HB.out.trans (HBR.out.mono HB.out.size))
end Go.Proofs.YtkkicodfpekbgaaGreatDoor

/-! hallmarkref.common: what it answers. -/
namespace Go.Proofs.YtkkicodfpekbgaaGreatDoor
set_option linter.unusedSimpArgs false
set_option linter.unusedVariables false
open Go.RowKit

set_option maxHeartbeats 4000000 in
set_option maxRecDepth 100000 in
theorem common_any (s : List Nd) (a : Option Addr) (cp i k : Nat) (w : World) (hs : Sch w a s) (hw : Within s) (hkd : Kinds s) (hi : i < s.length) (hk : k < s.length) (hn : s.length ≤ 40) :
    Calls Tryz.prog 68 #[.slice a s.length cp, .int .i64 i, .int .i64 k] w fun e w' => RetO (Common s i k) w e w' := by
  have HC : Hid (∀ (wr : World) (j : Nat) (c m : Int), Below w.heap.size w wr → j < s.length → Calls Tryz.prog 100 #[.slice a s.length cp, .int .i64 j, .int .i64 c, .int .i64 m] wr fun e w' => RetO (Beg s j c m) wr e w') :=
    fun wr j c m hb hj => begins_any s a cp j c m wr (hs.below hb) hw hkd hj hn
  clear hs hw hkd
  go_enter Tryz.func68, Tryz.ntmps68
  go_wp2
  go_loopw [7] (fun vc wr => ∃ c : Nat, c ≤ 4 ∧ vc = .int .i64 c ∧ (∀ c' m' : Nat, c' < c → m' < 31 → ¬ (Beg s i c' m' ∧ Beg s k c' m')) ∧ Below w.heap.size w wr) (fun vc _ => 4 - (intOf vc).toNat)
  case atStart => exact ⟨0, by omega, rfl, fun _ _ h => absurd h (Nat.not_lt_zero _), Below.refl _ _⟩
  case round =>
    obtain ⟨c, hc, rfl, hno, hbr⟩ := hrel
    have HN : Hid (∀ c' m' : Nat, c' < c → m' < 31 → ¬ (Beg s i c' m' ∧ Beg s k c' m')) := hno
    have HB : Hid (Below w.heap.size w wr) := hbr
    clear hno hbr
    by_cases hlt : c < 4
    · have hlt' : (c : Int) < 4 := by omega
      go_wp2
      go_loopw [8] (fun vm wx => ∃ m : Nat, m ≤ 31 ∧ vm = .int .i64 m ∧ (∀ m' : Nat, m' < m → ¬ (Beg s i c m' ∧ Beg s k c m')) ∧ Below w.heap.size w wx) (fun vm _ => 31 - (intOf vm).toNat)
      case atStart => exact ⟨0, by omega, rfl, fun _ h => absurd h (Nat.not_lt_zero _), HB.out⟩
      case round =>
        obtain ⟨m, hm, rfl, hno, hbr⟩ := hrel
        have HN2 : Hid (∀ m' : Nat, m' < m → ¬ (Beg s i c m' ∧ Beg s k c m')) := hno
        have HB2 : Hid (Below w.heap.size w wr) := hbr
        clear hno hbr
        by_cases hml : m < 31
        · have hml' : (m : Int) < 31 := by omega
          have NX : Hid (∀ (h : ¬ (Beg s i c m ∧ Beg s k c m)), ∀ m' : Nat, m' < m + 1 → ¬ (Beg s i c m' ∧ Beg s k c m')) := fun h m' hm' => by
            by_cases e : m' = m
            · subst e; exact h
            · exact HN2.out m' (by omega)
          go_wp2_with fail
          refine (HC.out _ i c m HB2.out hi).mono ?_
          rintro e w1 ⟨r, rfl, hr, hb1⟩
          have HR : Hid (r = true ↔ Beg s i c m) := hr
          have HB3 : Hid (Below w.heap.size w w1) := HB2.out.trans (hb1.mono HB2.out.size)
          clear hr hb1
          cases r
          · go_wp2
            go_roundw
            case rel => exact ⟨m + 1, by omega, by go_num, NX.out (fun h => by have := HR.out.2 h.1; cases this), HB3.out⟩
            case measure => simp [intOf]; omega
          · go_wp2_with fail
            refine (HC.out _ k c m HB3.out hk).mono ?_
            rintro e w2 ⟨r, rfl, hr, hb2⟩
            have HR2 : Hid (r = true ↔ Beg s k c m) := hr
            have HB4 : Hid (Below w.heap.size w w2) := HB3.out.trans (hb2.mono HB3.out.size)
            clear hr hb2
            cases r
            · go_wp2
              go_roundw
              case rel => exact ⟨m + 1, by omega, by go_num, NX.out (fun h => by have := HR2.out.2 h.2; cases this), HB4.out⟩
              case measure => simp [intOf]; omega
            · go_wp2
              go_ret
              exact reto_yes ⟨c, m, by omega, by omega, by omega, by omega, HR.out.1 trivial, HR2.out.1 trivial⟩ HB4.out
        · have hml' : (31 : Int) ≤ m := by omega
          go_wp2
          go_roundw
          case rel => exact ⟨c + 1, by omega, by go_num, fun c' m' h1 h2 => by
            by_cases e : c' = c
            · subst e; exact HN2.out m' (by omega)
            · exact HN.out c' m' (by omega) h2, HB2.out⟩
          case measure => simp [intOf]; omega
    · have hlt' : (4 : Int) ≤ c := by omega
      go_wp2
      go_ret
      exact reto_no (fun ⟨c', m', h1, h2, h3, h4, h5, h6⟩ => HN.out c'.toNat m'.toNat (by omega) (by omega) (by rw [Int.toNat_of_nonneg h1, Int.toNat_of_nonneg h3]; exact ⟨h5, h6⟩)) HB.out
end Go.Proofs.YtkkicodfpekbgaaGreatDoor
