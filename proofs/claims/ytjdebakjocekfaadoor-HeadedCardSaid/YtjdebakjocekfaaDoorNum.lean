/-
  The number by which a call answers an error: hallmark.number.
-/
import Derived.Test.YtjdebakjocekfaaDoorErr
namespace Go.Proofs.YtjdebakjocekfaaDoor
open Go.RowKit

theorem is_u (p : Int) (a b : Addr) (w : World) (ha : ∃ c t, w.heap[a.block]? = some (.cells c t (0, 0))) (hb : ∃ c t, w.heap[b.block]? = some (.cells c t (0, 0))) :
    Calls Tryd.prog 28 #[.iface 85 (.agg #[.int .i64 p, .iface 150 (.pointer (some a))]), .iface 150 (.pointer (some b))] w fun e w' => e = .returned (.bool (decide (a = b))) ∧ Below w.heap.size w w' := is_any p a b w ha hb
theorem is_s (p : Int) (b : Addr) (w : World) :
    Calls Tryd.prog 28 #[.iface 85 (.agg #[.int .i64 p, .iface 150 (.pointer (some b))]), .iface 150 (.pointer (some b))] w fun e w' => e = .returned (.bool true) ∧ Below w.heap.size w w' := is_same p b w

theorem number_nil (w : World) : Calls Tryd.prog 17 #[.nilIface] w fun e w' => e = .returned (.int .i64 0) ∧ w' = w := by
  go_enter Tryd.func17, Tryd.ntmps17
  go_wp2
  go_ret
  exact ⟨rfl, rfl⟩

set_option maxHeartbeats 1000000 in
theorem number_E (p : Int) (w : World) (aE aT aL : Addr) (hs : Sent w aE aT aL) :
    Calls Tryd.prog 17 #[fault p aE] w fun e w' => e = .returned (.int .i64 3) ∧ Below w.heap.size w w' := by
  have h0 := hs.cE
  clear hs
  unfold fault
  go_enter Tryd.func17, Tryd.ntmps17
  go_wp2_with fail
  refine (is_s p aE w).mono ?_
  rintro e w1 ⟨rfl, hb⟩
  go_wp2_with fail
  go_ret
  exact ⟨rfl, hb⟩

set_option maxHeartbeats 1000000 in
theorem number_T (p : Int) (w : World) (aE aT aL : Addr) (hs : Sent w aE aT aL) :
    Calls Tryd.prog 17 #[fault p aT] w fun e w' => e = .returned (.int .i64 4) ∧ Below w.heap.size w w' := by
  have h0 := hs.cE
  have HS : Hid (Sent w aE aT aL) := hs
  clear hs
  unfold fault
  go_enter Tryd.func17, Tryd.ntmps17
  go_wp2_with fail
  refine (is_u p aT aE w HS.out.rT HS.out.rE).mono ?_
  rintro e w1 ⟨rfl, hb⟩
  rw [decide_eq_false (Ne.symm HS.out.ET)]
  have h1 := (HS.out.below hb).cT
  have HB : Hid (Below w.heap.size w w1) := hb
  clear hb h0
  go_wp2_with fail
  refine (is_s p aT w1).mono ?_
  rintro e w2 ⟨rfl, hb2⟩
  have HB2 : Hid (Below w1.heap.size w1 w2) := hb2
  clear hb2
  go_wp2_with fail
  go_ret
  exact ⟨rfl, HB.out.trans (HB2.out.mono HB.out.size)⟩

set_option maxHeartbeats 1000000 in
theorem number_L (p : Int) (w : World) (aE aT aL : Addr) (hs : Sent w aE aT aL) :
    Calls Tryd.prog 17 #[fault p aL] w fun e w' => e = .returned (.int .i64 5) ∧ Below w.heap.size w w' := by
  have h0 := hs.cE
  have HS : Hid (Sent w aE aT aL) := hs
  clear hs
  unfold fault
  go_enter Tryd.func17, Tryd.ntmps17
  go_wp2_with fail
  refine (is_u p aL aE w HS.out.rL HS.out.rE).mono ?_
  rintro e w1 ⟨rfl, hb⟩
  rw [decide_eq_false (Ne.symm HS.out.EL)]
  have HS1 : Hid (Sent w1 aE aT aL) := HS.out.below hb
  have h1 := HS1.out.cT
  have HB : Hid (Below w.heap.size w w1) := hb
  clear hb h0
  go_wp2_with fail
  refine (is_u p aL aT w1 HS1.out.rL HS1.out.rT).mono ?_
  rintro e w2 ⟨rfl, hb2⟩
  rw [decide_eq_false (Ne.symm HS.out.TL)]
  have h2 := (HS1.out.below hb2).cL
  have HB2 : Hid (Below w1.heap.size w1 w2) := hb2
  clear hb2 h1
  go_wp2_with fail
  refine (is_s p aL w2).mono ?_
  rintro e w3 ⟨rfl, hb3⟩
  have HB3 : Hid (Below w2.heap.size w2 w3) := hb3
  clear hb3
  go_wp2_with fail
  go_ret
  exact ⟨rfl, HB.out.trans ((HB2.out.mono HB.out.size).trans (HB3.out.mono (Nat.le_trans HB.out.size HB2.out.size)))⟩
end Go.Proofs.YtjdebakjocekfaaDoor
