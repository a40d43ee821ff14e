/-
  The document's reader: head.
-/
import Derived.Test.YtjceeljaljdmoaaGreatDoorRs
import Derived.Test.YtjceeljaljdmoaaGreatDoorHr
namespace Go.Proofs.YtjceeljaljdmoaaGreatDoor
open Go.RowKit

set_option maxHeartbeats 2000000 in
set_option maxRecDepth 100000 in
theorem rdhead_any (W w : World) (R : Nat) (a : Option Addr) (n c : Nat) (data : ByteArray) (tree : List Vl) (p : Int) (x y : Nat) (h : RdI W w R a n c data tree 0 p) (hxy : x ≤ y) (hy : y ≤ data.size) (hm : data.size ≤ 140737488355328) :
    Calls Tryz.prog 72 #[.pointer (some ⟨R, 0, none⟩), .int .i64 x, .int .i64 y] w fun e w' => e = .returned (hv (hd (data.extract x y)).2) ∧ RdI W w' R a n c data tree (hd (data.extract x y)).1 (if (hd (data.extract x y)).1 = 0 then p else x) ∧ Fr R w w' := by
  have HI : Hid (RdI W w R a n c data tree 0 p) := h
  have HH : Hid (∀ w, Calls Tryz.prog 76 #[.string (data.extract x y)] w fun e w' => e = .returned (.tuple #[hv (hd (data.extract x y)).2, .int .i64 (hd (data.extract x y)).1]) ∧ Below w.heap.size w w') := fun w => rHead_any _ w (by simp; omega)
  obtain ⟨_, hlo, vt, hr, _⟩ := h
  unfold rdObj at hr
  have c1 : w.cell? ⟨R, 1, none⟩ = some (.string data) := by simp [World.cell?, hr]
  have c3 : w.cell? ⟨R, 3, none⟩ = some (.int .i64 0) := by simp [World.cell?, hr]
  have hRl : R < w.heap.size := lt_of_cell c1
  clear hr
  have hxy' : (x : Int) ≤ y := by omega
  have hy' : (y : Int) ≤ data.size := by omega
  generalize (hd (data.extract x y)).1 = k at HH ⊢
  generalize (hd (data.extract x y)).2 = H at HH ⊢
  obtain ⟨hc, hb, hn, hs, hl⟩ := H
  unfold hv at HH ⊢
  go_enter Tryz.func72, Tryz.ntmps72
  go_wp2_with fail
  refine (HH.out _).mono ?_
  rintro e w1 ⟨rfl, hb1⟩
  have HB1 : Hid (Below w.heap.size w w1) := below_alloc hb1
  have HG1 : Hid (w1.heap[w.heap.size]? = some (.cells #[.int .i64 0, .bool false, .int .i64 0, .int .i64 0, .int .i64 0] 146 (0, 0))) := block_below (heap_alloc_new w _) hb1
  have hs1 : w.heap.size < w1.heap.size := by have := hb1.size; simp at this; omega
  clear hb1
  have q0 : w1.cell? ⟨w.heap.size, 0, none⟩ = some (.int .i64 0) := by simp [World.cell?, HG1.out]
  have f0 : w1.frozen? ⟨w.heap.size, 0, none⟩ = false := by simp [World.frozen?, HG1.out]
  have q1 : w1.cell? ⟨w.heap.size, 1, none⟩ = some (.bool false) := by simp [World.cell?, HG1.out]
  have f1 : w1.frozen? ⟨w.heap.size, 1, none⟩ = false := by simp [World.frozen?, HG1.out]
  have q2 : w1.cell? ⟨w.heap.size, 2, none⟩ = some (.int .i64 0) := by simp [World.cell?, HG1.out]
  have f2 : w1.frozen? ⟨w.heap.size, 2, none⟩ = false := by simp [World.frozen?, HG1.out]
  have q3 : w1.cell? ⟨w.heap.size, 3, none⟩ = some (.int .i64 0) := by simp [World.cell?, HG1.out]
  have f3 : w1.frozen? ⟨w.heap.size, 3, none⟩ = false := by simp [World.frozen?, HG1.out]
  have q4 : w1.cell? ⟨w.heap.size, 4, none⟩ = some (.int .i64 0) := by simp [World.cell?, HG1.out]
  have f4 : w1.frozen? ⟨w.heap.size, 4, none⟩ = false := by simp [World.frozen?, HG1.out]
  have hne : w.heap.size ≠ R := by omega
  have hW : W.heap.size ≤ w.heap.size := by omega
  by_cases hk : k = 0
  · subst hk
    have HF : Hid (RdI W (w1.alloc (.cells #[.int .i64 hc, .bool hb, .int .i64 hn, .int .i64 hs, .int .i64 hl] 146)) R a n c data tree 0 p) := (HI.out.below HB1.out).below ((Below.refl _ _).alloc (Nat.le_refl _) _)
    have HG : Hid ((w1.alloc (.cells #[.int .i64 hc, .bool hb, .int .i64 hn, .int .i64 hs, .int .i64 hl] 146)).heap[w.heap.size]? = some (.cells #[.int .i64 0, .bool false, .int .i64 0, .int .i64 0, .int .i64 0] 146 (0, 0))) := block_below HG1.out ((Below.refl _ _).alloc (Nat.le_refl _) _)
    go_wp2
    refine bodyPost_ret (v := .agg #[.int .i64 hc, .bool hb, .int .i64 hn, .int .i64 hs, .int .i64 hl]) (by simp [results, Tryz.results72, go_sem, hs1, q0, q1, q2, q3, q4]) rfl ⟨rfl, ?_, ?_⟩
    · exact ((HI.out.below HB1.out).set5 hW hne (by decide) HG1.out _ _ _ _ _).below ((Below.refl _ _).alloc (Nat.le_refl _) _)
    · exact ((Fr.of_below HB1.out).set5 (Nat.le_refl _) _ _ _ _ _).trans (Fr.of_below ((Below.refl _ _).alloc (Nat.le_refl _) _))
  · have hk' : (k != 0) = true := by simp [hk]
    have HK : Hid (¬ k = 0) := hk
    clear hk
    have HF : Hid (RdI W (w1.alloc (.cells #[.int .i64 hc, .bool hb, .int .i64 hn, .int .i64 hs, .int .i64 hl] 146)) R a n c data tree 0 p) := (HI.out.below HB1.out).below ((Below.refl _ _).alloc (Nat.le_refl _) _)
    have HG : Hid ((w1.alloc (.cells #[.int .i64 hc, .bool hb, .int .i64 hn, .int .i64 hs, .int .i64 hl] 146)).heap[w.heap.size]? = some (.cells #[.int .i64 0, .bool false, .int .i64 0, .int .i64 0, .int .i64 0] 146 (0, 0))) := block_below HG1.out ((Below.refl _ _).alloc (Nat.le_refl _) _)
    go_wp2_with fail
    refine (stop_first W _ R a n c data tree p k x HF.out).mono ?_
    rintro e w2 ⟨rfl, hI2, hoth⟩
    have HI2 : Hid (RdI W w2 R a n c data tree k x) := hI2
    have HG2 : Hid (w2.heap[w.heap.size]? = some (.cells #[.int .i64 0, .bool false, .int .i64 0, .int .i64 0, .int .i64 0] 146 (0, 0))) := (hoth _ hne).trans HG.out
    have hG3 : w2.heap[w1.heap.size]? = some (.cells #[.int .i64 hc, .bool hb, .int .i64 hn, .int .i64 hs, .int .i64 hl] 146 (0, 0)) := (hoth _ (by omega)).trans (heap_alloc_new w1 _)
    have r0 : w2.cell? ⟨w.heap.size, 0, none⟩ = some (.int .i64 0) := by simp [World.cell?, HG2.out]
    have g0 : w2.frozen? ⟨w.heap.size, 0, none⟩ = false := by simp [World.frozen?, HG2.out]
    have r1 : w2.cell? ⟨w.heap.size, 1, none⟩ = some (.bool false) := by simp [World.cell?, HG2.out]
    have g1 : w2.frozen? ⟨w.heap.size, 1, none⟩ = false := by simp [World.frozen?, HG2.out]
    have r2 : w2.cell? ⟨w.heap.size, 2, none⟩ = some (.int .i64 0) := by simp [World.cell?, HG2.out]
    have g2 : w2.frozen? ⟨w.heap.size, 2, none⟩ = false := by simp [World.frozen?, HG2.out]
    have r3 : w2.cell? ⟨w.heap.size, 3, none⟩ = some (.int .i64 0) := by simp [World.cell?, HG2.out]
    have g3 : w2.frozen? ⟨w.heap.size, 3, none⟩ = false := by simp [World.frozen?, HG2.out]
    have r4 : w2.cell? ⟨w.heap.size, 4, none⟩ = some (.int .i64 0) := by simp [World.cell?, HG2.out]
    have g4 : w2.frozen? ⟨w.heap.size, 4, none⟩ = false := by simp [World.frozen?, HG2.out]
    have t0 : w2.cell? ⟨w1.heap.size, 0, none⟩ = some (.int .i64 hc) := by simp [World.cell?, hG3]
    have t1 : w2.cell? ⟨w1.heap.size, 1, none⟩ = some (.bool hb) := by simp [World.cell?, hG3]
    have t2 : w2.cell? ⟨w1.heap.size, 2, none⟩ = some (.int .i64 hn) := by simp [World.cell?, hG3]
    have t3 : w2.cell? ⟨w1.heap.size, 3, none⟩ = some (.int .i64 hs) := by simp [World.cell?, hG3]
    have t4 : w2.cell? ⟨w1.heap.size, 4, none⟩ = some (.int .i64 hl) := by simp [World.cell?, hG3]
    have HFR : Hid (Fr R w w2) := ((Fr.of_below HB1.out).trans (Fr.of_below ((Below.refl _ _).alloc (Nat.le_refl _) _))).trans (Fr.of_same hoth)
    clear hI2 hoth hG3 q0 q1 q2 q3 q4 f0 f1 f2 f3 f4
    go_wp2
    refine bodyPost_ret (v := .agg #[.int .i64 hc, .bool hb, .int .i64 hn, .int .i64 hs, .int .i64 hl]) (by simp [results, Tryz.results72, go_sem, r0, r1, r2, r3, r4]) rfl ⟨rfl, ?_, ?_⟩
    · exact HI2.out.set5 hW hne (by decide) HG2.out _ _ _ _ _
    · exact HFR.out.set5 (Nat.le_refl _) _ _ _ _ _
end Go.Proofs.YtjceeljaljdmoaaGreatDoor
