/-
  The document's Length.
-/
import Derived.Test.YtkkicodfpekbgaaDoorAc
namespace Go.Proofs.YtkkicodfpekbgaaDoor
open Go.RowKit

theorem conv_at (x : Int) (h0 : 0 ≤ x) (h1 : x < 256) (w : World) (k : Nat) (hk : k = w.heap.size) : (convert 36 9 (.slice (some ⟨k, 0, none⟩) 1 1)).run Tryd.prog (w.alloc (.cells #[.int .u8 x] 5)) = .ok (.string ⟨#[UInt8.ofNat x.toNat]⟩) (w.alloc (.cells #[.int .u8 x] 5)) := by
  subst hk; exact conv_one x h0 h1 w
theorem ret_str {a b : ByteArray} (h : a = b) : Ending.returned (.string a) = .returned (.string b) := by rw [h]

set_option maxHeartbeats 1000000 in
set_option maxRecDepth 100000 in
theorem len_0 (L : Int) (w : World) (h0 : 0 ≤ L) (h1 : L < 128) :
    Calls Tryd.prog 13 #[.int .i64 L] w fun e w' => e = .returned (.string ⟨#[UInt8.ofNat L.toNat]⟩) ∧ Below w.heap.size w w' := by
  have hc := conv_at L h0 (by omega)
  go_enter Tryd.func13, Tryd.ntmps13
  go_wp2
  go_ret
  exact ⟨rfl, (Below.refl _ _).alloc (Nat.le_refl _) _⟩

set_option maxHeartbeats 1000000 in
set_option maxRecDepth 100000 in
theorem len_1 (L : Int) (w : World) (h0 : 128 ≤ L) (h1 : L < 256) :
    Calls Tryd.prog 13 #[.int .i64 L] w fun e w' => e = .returned (.string ⟨#[129, UInt8.ofNat L.toNat]⟩) ∧ Below w.heap.size w w' := by
  have hc0 := conv_at (L) (by omega) (by omega)
  have hc1 := conv_at (L % 256) (by omega) (by omega)
  have hc2 := conv_at (129) (by omega) (by omega)
  go_enter Tryd.func13, Tryd.ntmps13
  go_wp2
  refine wp_loop_rounds 2 ?_
  rw [rounds_succ]
  go_wp2
  rw [rounds_succ]
  go_wp2
  go_ret
  refine ⟨ret_str ?_, (((Below.refl w.heap.size w).alloc (by simp; try omega) _).alloc (by simp; try omega) _)⟩
  apply ByteArray.ext
  simp
  rw [show L % 256 = L by omega]

set_option maxHeartbeats 1000000 in
set_option maxRecDepth 100000 in
theorem len_2 (L : Int) (w : World) (h0 : 256 ≤ L) (h1 : L < 65536) :
    Calls Tryd.prog 13 #[.int .i64 L] w fun e w' => e = .returned (.string ⟨#[130, UInt8.ofNat (L / 256).toNat, UInt8.ofNat (L % 256).toNat]⟩) ∧ Below w.heap.size w w' := by
  have hc0 := conv_at (L % 256) (by omega) (by omega)
  have hc1 := conv_at (L / 256 % 256) (by omega) (by omega)
  have hc2 := conv_at (L / 256) (by omega) (by omega)
  have hc3 := conv_at (130) (by omega) (by omega)
  go_enter Tryd.func13, Tryd.ntmps13
  go_wp2
  refine wp_loop_rounds 3 ?_
  rw [rounds_succ]
  go_wp2
  rw [rounds_succ]
  go_wp2
  rw [rounds_succ]
  go_wp2
  go_ret
  refine ⟨ret_str ?_, ((((Below.refl w.heap.size w).alloc (by simp; try omega) _).alloc (by simp; try omega) _).alloc (by simp; try omega) _)⟩
  apply ByteArray.ext
  simp
  rw [show L / 256 % 256 = L / 256 by omega]

set_option maxHeartbeats 1000000 in
set_option maxRecDepth 100000 in
theorem len_3 (L : Int) (w : World) (h0 : 65536 ≤ L) (h1 : L < 16777216) :
    Calls Tryd.prog 13 #[.int .i64 L] w fun e w' => e = .returned (.string ⟨#[131, UInt8.ofNat (L / 65536).toNat, UInt8.ofNat (L / 256 % 256).toNat, UInt8.ofNat (L % 256).toNat]⟩) ∧ Below w.heap.size w w' := by
  have hc0 := conv_at (L % 256) (by omega) (by omega)
  have hc1 := conv_at (L / 256 % 256) (by omega) (by omega)
  have hc2 := conv_at (L / 256 / 256 % 256) (by omega) (by omega)
  have hc3 := conv_at (L / 256 / 256) (by omega) (by omega)
  have hc4 := conv_at (131) (by omega) (by omega)
  go_enter Tryd.func13, Tryd.ntmps13
  go_wp2
  refine wp_loop_rounds 4 ?_
  rw [rounds_succ]
  go_wp2
  rw [rounds_succ]
  go_wp2
  rw [rounds_succ]
  go_wp2
  rw [rounds_succ]
  go_wp2
  go_ret
  refine ⟨ret_str ?_, (((((Below.refl w.heap.size w).alloc (by simp; try omega) _).alloc (by simp; try omega) _).alloc (by simp; try omega) _).alloc (by simp; try omega) _)⟩
  apply ByteArray.ext
  simp
  rw [show L / 256 / 256 % 256 = L / 65536 by omega]

theorem Length_any (L : Int) (w : World) (h0 : 0 ≤ L) (h1 : L < 16777216) :
    Calls Tryd.prog 13 #[.int .i64 L] w fun e w' => e = .returned (.string ⟨(tl L).toArray⟩) ∧ Below w.heap.size w w' := by
  unfold tl
  split
  · exact len_0 L w h0 (by omega)
  split
  · exact len_1 L w (by omega) (by omega)
  split
  · exact len_2 L w (by omega) (by omega)
  · exact len_3 L w (by omega) (by omega)
end Go.Proofs.YtkkicodfpekbgaaDoor
