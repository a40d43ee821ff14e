/-
  string of a slice of the call's own.
-/
import Derived.Test.YtkkicodfpekbgaaDoorHd0
import Derived.Laws.IdiomStrings
namespace Go.Proofs.YtkkicodfpekbgaaDoor
open Go.RowKit

theorem Tryd.info8 : (Tryd.prog.info? 5).map (fun i => (i.zero, i.size, i.bytes)) = some (some (.int .u8 0), 1, 1) := by kernel_rfl
/-- string(v), v a slice of the call's own that holds these bytes. -/
theorem conv_own {w : World} {B n : Nat} {v : Value} {l : List UInt8} (h : w.ownsRow B 5 1 v n (l.map bv)) (hl : l ≠ []) :
    (convert 36 9 v).run Tryd.prog w = .ok (.string ⟨l.toArray⟩) w := by
  obtain ⟨h1, h2⟩ := h
  have hn : n = l.length := by simpa using h1.symm
  subst hn
  rcases h2 with ⟨_, h0⟩ | ⟨g, cap, cur, rfl, _, hg, hc, _, hs, ht⟩
  · exact absurd (List.length_eq_zero_iff.1 h0) hl
  refine run_convert_bytes_back w 36 9 5 ⟨g, 0, none⟩ cap l Tryd.underlying36 Tryd.underlying5 Tryd.underlying9 fun j hj => ?_
  have e1 : (⟨g, 0, none⟩ : Addr).add j = ⟨g, j, none⟩ := by unfold Addr.add; split <;> simp_all
  rw [e1]
  have e2 : w.cell? ⟨g, j, none⟩ = cur[j]? := by simp [World.cell?, hg]
  rw [e2]
  have e3 : (cur.toList.take (l.length * 1))[j]? = (l.map bv)[j]? := by rw [ht]
  rw [Nat.mul_one, List.getElem?_take_of_lt hj, List.getElem?_map, List.getElem?_eq_getElem hj] at e3
  rw [← Array.getElem?_toList, e3]
  rfl
theorem conv_one (x : Int) (h0 : 0 ≤ x) (h1 : x < 256) (w : World) : (convert 36 9 (.slice (some ⟨w.heap.size, 0, none⟩) 1 1)).run Tryd.prog (w.alloc (.cells #[.int .u8 x] 5)) = .ok (.string ⟨#[UInt8.ofNat x.toNat]⟩) (w.alloc (.cells #[.int .u8 x] 5)) := by
  refine conv_own (B := 0) (n := 1) (l := [UInt8.ofNat x.toNat]) ⟨by simp, .inr ⟨w.heap.size, 1, #[.int .u8 x], rfl, Nat.zero_le _, heap_alloc_new w _, by omega, by decide, rfl, ?_⟩⟩ (by simp)
  simp [bv_of x h0 h1]
end Go.Proofs.YtkkicodfpekbgaaDoor
