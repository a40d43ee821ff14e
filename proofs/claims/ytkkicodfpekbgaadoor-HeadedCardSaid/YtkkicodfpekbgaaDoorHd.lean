/-
  hallmark.Head: what it answers.
-/
import Derived.Test.YtkkicodfpekbgaaDoorHd0
import Derived.Deep.RegionWith
namespace Go.Proofs.YtkkicodfpekbgaaDoor
open Go.RowKit

set_option maxHeartbeats 1000000 in
set_option maxRecDepth 100000 in
theorem head_any (s : ByteArray) (w : World) (sn : Sn → Addr) (hs : Sent w sn) (hm : s.size ≤ 9223372036854775807) :
    Calls Tryd.prog 5 #[.string s] w fun e w' => e = .returned (.tuple #[hv (hd s).2, .int .i64 (hd s).1]) ∧ Below w.heap.size w w' := by
  have HS : Hid (Sent w sn) := hs
  have HN : Hid (∀ w, Sent w sn → Calls Tryd.prog 12 #[errAt 0 sn (hd s).1] w fun e w' => e = .returned (.int .i64 (hd s).1) ∧ Below w.heap.size w w') := fun w h => number_any 0 _ w sn h (hd_code s)
  have HR : Hid (∀ w, Sent w sn → Calls Tryd.prog 11 #[.string s, .int .i64 0] w fun e w' => e = .returned (.tuple #[hv (hd s).2, errAt 0 sn (hd s).1]) ∧ Below w.heap.size w w') := fun w h => read0 s w sn h hm
  clear hs
  generalize errAt 0 sn (hd s).1 = v at HN HR
  generalize (hd s).1 = k at HN ⊢
  generalize (hd s).2 = H at HR ⊢
  obtain ⟨c, b, n, z, l⟩ := H
  unfold hv at HR ⊢
  go_enter Tryd.func5, Tryd.ntmps5
  go_wp2_with fail
  refine Calls.mono (HR.out _ (HS.out.below ((Below.refl _ _).alloc (Nat.le_refl _) _))) ?_
  rintro e w1 ⟨rfl, hb⟩
  obtain ⟨hc, hf⟩ := bcell hb
  have hz' : w.heap.size < w1.heap.size := by have := hb.size; simp at this; omega
  have HB : Hid (Below w.heap.size w w1) := ((Below.refl w.heap.size w).alloc (Nat.le_refl _) _).trans (hb.mono (by simp))
  have HA : Hid (Below (w.alloc (.cells #[.int .i64 0, .bool false, .int .i64 0, .int .i64 0, .int .i64 0] 23)).heap.size (w.alloc (.cells #[.int .i64 0, .bool false, .int .i64 0, .int .i64 0, .int .i64 0] 23)) w1) := hb
  have HS1 : Hid (Sent w1 sn) := HS.out.below HB.out
  clear hb
  go_wp2_with fail
  have HS2 : Hid (∀ o, Sent (w1.alloc o) sn) := fun o => HS1.out.below ((Below.refl _ _).alloc (Nat.le_refl _) _)
  go_region_with (go_at_call 12; refine Calls.mono (HN.out _ ?_) ?_; (first | exact HS2.out _ | exact (HS2.out _).below (below_drewN (Below.refl _ _) 1)); rintro e w2 ⟨rfl, hb2⟩; obtain ⟨hc2, hf2⟩ := bcell hb2)
  all_goals go_wp2
  all_goals
    have hz2 : w.heap.size < w2.heap.size := by have := hb2.size; simp at this; omega
    have B1 : Below (w.alloc (.cells #[.int .i64 0, .bool false, .int .i64 0, .int .i64 0, .int .i64 0] 23)).heap.size (w.alloc (.cells #[.int .i64 0, .bool false, .int .i64 0, .int .i64 0, .int .i64 0] 23)) w2 := by
      first
        | exact (HA.out.alloc (by simp; omega) _).trans (hb2.mono (by simp; omega))
        | exact (HA.out.alloc (by simp; omega) _).drew.trans (hb2.mono (by simp; omega))
    obtain ⟨hc3, hf3⟩ := bcell B1
    clear hc2 hc hf hf2 hb2
    refine bodyPost_ret (v := .tuple #[.agg #[.int .i64 c, .bool b, .int .i64 n, .int .i64 z, .int .i64 l], .int .i64 k]) (by simp [results, Tryd.results5, go_sem, hc3]) rfl ⟨rfl, ?_⟩
    exact below5 (((Below.refl w.heap.size w).alloc (Nat.le_refl _) _).trans (B1.mono (by simp))) _ (Nat.le_refl _) _ _ _ _ _
end Go.Proofs.YtkkicodfpekbgaaDoor
