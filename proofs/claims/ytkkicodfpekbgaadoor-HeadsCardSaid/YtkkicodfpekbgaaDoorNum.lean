/-
  The number by which a call answers an error: hallmark.number.
-/
import Derived.Test.YtkkicodfpekbgaaDoorSn
namespace Go.Proofs.YtkkicodfpekbgaaDoor
open Go.RowKit

theorem is_u (p : Int) (a b : Addr) (w : World) (ha : ∃ c t, w.heap[a.block]? = some (.cells c t (0, 0))) (hb : ∃ c t, w.heap[b.block]? = some (.cells c t (0, 0))) :
    Calls Tryd.prog 18 #[.iface 54 (.agg #[.int .i64 p, .iface 72 (.pointer (some a))]), .iface 72 (.pointer (some b))] w fun e w' => e = .returned (.bool (decide (a = b))) ∧ Below w.heap.size w w' := is_any p a b w ha hb

theorem number_nil (w : World) : Calls Tryd.prog 12 #[.nilIface] w fun e w' => e = .returned (.int .i64 0) ∧ w' = w := by
  go_enter Tryd.func12, Tryd.ntmps12
  go_wp2
  go_ret
  exact ⟨rfl, rfl⟩

set_option maxHeartbeats 4000000 in
set_option maxRecDepth 100000 in
theorem number_at (p : Int) (x : Addr) (w : World) (sn : Sn → Addr) (hs : Sent w sn) (hx : ∃ c t, w.heap[x.block]? = some (.cells c t (0, 0))) :
    Calls Tryd.prog 12 #[fault p x] w fun e w' => e = .returned (.int .i64 (nm sn x)) ∧ Below w.heap.size w w' := by
  have h0 := hs.cLong
  have S0 : Hid (Sent w sn) := hs
  have X0 : Hid (∃ c t, w.heap[x.block]? = some (.cells c t (0, 0))) := hx
  have B0 : Hid (Below w.heap.size w w) := Below.refl _ _
  clear hs hx
  unfold fault
  go_enter Tryd.func12, Tryd.ntmps12
  go_wp2_with fail
  refine (is_u p x (sn .Long) w X0.out (S0.out.r .Long)).mono ?_
  rintro e w1 ⟨rfl, hb⟩
  have B1 : Hid (Below w.heap.size w w1) := B0.out.trans (hb.mono B0.out.size)
  have S1 : Hid (Sent w1 sn) := S0.out.below hb
  have X1 : Hid (∃ c t, w1.heap[x.block]? = some (.cells c t (0, 0))) := row_below X0.out hb
  clear hb h0
  by_cases q0 : x = sn .Long
  · rw [decide_eq_true q0]
    have e : Hid (nm sn x = 2) := by
      show nm sn x = 2
      unfold nm
      rw [if_pos q0]
    go_wp2_with fail
    go_ret
    exact ⟨by rw [e.out]; rfl, B1.out⟩
  rw [decide_eq_false q0]
  have h1 := S1.out.cEnd
  go_wp2_with fail
  refine (is_u p x (sn .End) w1 X1.out (S1.out.r .End)).mono ?_
  rintro e w2 ⟨rfl, hb⟩
  have B2 : Hid (Below w.heap.size w w2) := B1.out.trans (hb.mono B1.out.size)
  have S2 : Hid (Sent w2 sn) := S1.out.below hb
  have X2 : Hid (∃ c t, w2.heap[x.block]? = some (.cells c t (0, 0))) := row_below X1.out hb
  clear hb h1
  by_cases q1 : x = sn .End
  · rw [decide_eq_true q1]
    have e : Hid (nm sn x = 3) := by
      show nm sn x = 3
      unfold nm
      rw [if_neg q0, if_pos q1]
    go_wp2_with fail
    go_ret
    exact ⟨by rw [e.out]; rfl, B2.out⟩
  rw [decide_eq_false q1]
  have h2 := S2.out.cTag
  go_wp2_with fail
  refine (is_u p x (sn .Tag) w2 X2.out (S2.out.r .Tag)).mono ?_
  rintro e w3 ⟨rfl, hb⟩
  have B3 : Hid (Below w.heap.size w w3) := B2.out.trans (hb.mono B2.out.size)
  have S3 : Hid (Sent w3 sn) := S2.out.below hb
  have X3 : Hid (∃ c t, w3.heap[x.block]? = some (.cells c t (0, 0))) := row_below X2.out hb
  clear hb h2
  by_cases q2 : x = sn .Tag
  · rw [decide_eq_true q2]
    have e : Hid (nm sn x = 4) := by
      show nm sn x = 4
      unfold nm
      rw [if_neg q0, if_neg q1, if_pos q2]
    go_wp2_with fail
    go_ret
    exact ⟨by rw [e.out]; rfl, B3.out⟩
  rw [decide_eq_false q2]
  have h3 := S3.out.cLength
  go_wp2_with fail
  refine (is_u p x (sn .Length) w3 X3.out (S3.out.r .Length)).mono ?_
  rintro e w4 ⟨rfl, hb⟩
  have B4 : Hid (Below w.heap.size w w4) := B3.out.trans (hb.mono B3.out.size)
  have S4 : Hid (Sent w4 sn) := S3.out.below hb
  have X4 : Hid (∃ c t, w4.heap[x.block]? = some (.cells c t (0, 0))) := row_below X3.out hb
  clear hb h3
  by_cases q3 : x = sn .Length
  · rw [decide_eq_true q3]
    have e : Hid (nm sn x = 5) := by
      show nm sn x = 5
      unfold nm
      rw [if_neg q0, if_neg q1, if_neg q2, if_pos q3]
    go_wp2_with fail
    go_ret
    exact ⟨by rw [e.out]; rfl, B4.out⟩
  rw [decide_eq_false q3]
  have h4 := S4.out.cValue
  go_wp2_with fail
  refine (is_u p x (sn .Value) w4 X4.out (S4.out.r .Value)).mono ?_
  rintro e w5 ⟨rfl, hb⟩
  have B5 : Hid (Below w.heap.size w w5) := B4.out.trans (hb.mono B4.out.size)
  have S5 : Hid (Sent w5 sn) := S4.out.below hb
  have X5 : Hid (∃ c t, w5.heap[x.block]? = some (.cells c t (0, 0))) := row_below X4.out hb
  clear hb h4
  by_cases q4 : x = sn .Value
  · rw [decide_eq_true q4]
    have e : Hid (nm sn x = 6) := by
      show nm sn x = 6
      unfold nm
      rw [if_neg q0, if_neg q1, if_neg q2, if_neg q3, if_pos q4]
    go_wp2_with fail
    go_ret
    exact ⟨by rw [e.out]; rfl, B5.out⟩
  rw [decide_eq_false q4]
  have h5 := S5.out.cMore
  go_wp2_with fail
  refine (is_u p x (sn .More) w5 X5.out (S5.out.r .More)).mono ?_
  rintro e w6 ⟨rfl, hb⟩
  have B6 : Hid (Below w.heap.size w w6) := B5.out.trans (hb.mono B5.out.size)
  have S6 : Hid (Sent w6 sn) := S5.out.below hb
  have X6 : Hid (∃ c t, w6.heap[x.block]? = some (.cells c t (0, 0))) := row_below X5.out hb
  clear hb h5
  by_cases q5 : x = sn .More
  · rw [decide_eq_true q5]
    have e : Hid (nm sn x = 7) := by
      show nm sn x = 7
      unfold nm
      rw [if_neg q0, if_neg q1, if_neg q2, if_neg q3, if_neg q4, if_pos q5]
    go_wp2_with fail
    go_ret
    exact ⟨by rw [e.out]; rfl, B6.out⟩
  rw [decide_eq_false q5]
  have h6 := S6.out.cOrder
  go_wp2_with fail
  refine (is_u p x (sn .Order) w6 X6.out (S6.out.r .Order)).mono ?_
  rintro e w7 ⟨rfl, hb⟩
  have B7 : Hid (Below w.heap.size w w7) := B6.out.trans (hb.mono B6.out.size)
  have S7 : Hid (Sent w7 sn) := S6.out.below hb
  have X7 : Hid (∃ c t, w7.heap[x.block]? = some (.cells c t (0, 0))) := row_below X6.out hb
  clear hb h6
  by_cases q6 : x = sn .Order
  · rw [decide_eq_true q6]
    have e : Hid (nm sn x = 8) := by
      show nm sn x = 8
      unfold nm
      rw [if_neg q0, if_neg q1, if_neg q2, if_neg q3, if_neg q4, if_neg q5, if_pos q6]
    go_wp2_with fail
    go_ret
    exact ⟨by rw [e.out]; rfl, B7.out⟩
  rw [decide_eq_false q6]
  have h7 := S7.out.cDefault
  go_wp2_with fail
  refine (is_u p x (sn .Default) w7 X7.out (S7.out.r .Default)).mono ?_
  rintro e w8 ⟨rfl, hb⟩
  have B8 : Hid (Below w.heap.size w w8) := B7.out.trans (hb.mono B7.out.size)
  have S8 : Hid (Sent w8 sn) := S7.out.below hb
  have X8 : Hid (∃ c t, w8.heap[x.block]? = some (.cells c t (0, 0))) := row_below X7.out hb
  clear hb h7
  by_cases q7 : x = sn .Default
  · rw [decide_eq_true q7]
    have e : Hid (nm sn x = 9) := by
      show nm sn x = 9
      unfold nm
      rw [if_neg q0, if_neg q1, if_neg q2, if_neg q3, if_neg q4, if_neg q5, if_neg q6, if_pos q7]
    go_wp2_with fail
    go_ret
    exact ⟨by rw [e.out]; rfl, B8.out⟩
  rw [decide_eq_false q7]
  have h8 := S8.out.cDeep
  go_wp2_with fail
  refine (is_u p x (sn .Deep) w8 X8.out (S8.out.r .Deep)).mono ?_
  rintro e w9 ⟨rfl, hb⟩
  have B9 : Hid (Below w.heap.size w w9) := B8.out.trans (hb.mono B8.out.size)
  have S9 : Hid (Sent w9 sn) := S8.out.below hb
  have X9 : Hid (∃ c t, w9.heap[x.block]? = some (.cells c t (0, 0))) := row_below X8.out hb
  clear hb h8
  by_cases q8 : x = sn .Deep
  · rw [decide_eq_true q8]
    have e : Hid (nm sn x = 10) := by
      show nm sn x = 10
      unfold nm
      rw [if_neg q0, if_neg q1, if_neg q2, if_neg q3, if_neg q4, if_neg q5, if_neg q6, if_neg q7, if_pos q8]
    go_wp2_with fail
    go_ret
    exact ⟨by rw [e.out]; rfl, B9.out⟩
  rw [decide_eq_false q8]
  have h9 := S9.out.cTree
  go_wp2_with fail
  refine (is_u p x (sn .Tree) w9 X9.out (S9.out.r .Tree)).mono ?_
  rintro e w10 ⟨rfl, hb⟩
  have B10 : Hid (Below w.heap.size w w10) := B9.out.trans (hb.mono B9.out.size)
  have S10 : Hid (Sent w10 sn) := S9.out.below hb
  have X10 : Hid (∃ c t, w10.heap[x.block]? = some (.cells c t (0, 0))) := row_below X9.out hb
  clear hb h9
  by_cases q9 : x = sn .Tree
  · rw [decide_eq_true q9]
    have e : Hid (nm sn x = 11) := by
      show nm sn x = 11
      unfold nm
      rw [if_neg q0, if_neg q1, if_neg q2, if_neg q3, if_neg q4, if_neg q5, if_neg q6, if_neg q7, if_neg q8, if_pos q9]
    go_wp2_with fail
    go_ret
    exact ⟨by rw [e.out]; rfl, B10.out⟩
  rw [decide_eq_false q9]
  have h10 := S10.out.cCard
  go_wp2_with fail
  refine (is_u p x (sn .Card) w10 X10.out (S10.out.r .Card)).mono ?_
  rintro e w11 ⟨rfl, hb⟩
  have B11 : Hid (Below w.heap.size w w11) := B10.out.trans (hb.mono B10.out.size)
  have S11 : Hid (Sent w11 sn) := S10.out.below hb
  have X11 : Hid (∃ c t, w11.heap[x.block]? = some (.cells c t (0, 0))) := row_below X10.out hb
  clear hb h10
  by_cases q10 : x = sn .Card
  · rw [decide_eq_true q10]
    have e : Hid (nm sn x = 12) := by
      show nm sn x = 12
      unfold nm
      rw [if_neg q0, if_neg q1, if_neg q2, if_neg q3, if_neg q4, if_neg q5, if_neg q6, if_neg q7, if_neg q8, if_neg q9, if_pos q10]
    go_wp2_with fail
    go_ret
    exact ⟨by rw [e.out]; rfl, B11.out⟩
  rw [decide_eq_false q10]
  have h11 := S11.out.cMark
  go_wp2_with fail
  refine (is_u p x (sn .Mark) w11 X11.out (S11.out.r .Mark)).mono ?_
  rintro e w12 ⟨rfl, hb⟩
  have B12 : Hid (Below w.heap.size w w12) := B11.out.trans (hb.mono B11.out.size)
  have S12 : Hid (Sent w12 sn) := S11.out.below hb
  have X12 : Hid (∃ c t, w12.heap[x.block]? = some (.cells c t (0, 0))) := row_below X11.out hb
  clear hb h11
  by_cases q11 : x = sn .Mark
  · rw [decide_eq_true q11]
    have e : Hid (nm sn x = 13) := by
      show nm sn x = 13
      unfold nm
      rw [if_neg q0, if_neg q1, if_neg q2, if_neg q3, if_neg q4, if_neg q5, if_neg q6, if_neg q7, if_neg q8, if_neg q9, if_neg q10, if_pos q11]
    go_wp2_with fail
    go_ret
    exact ⟨by rw [e.out]; rfl, B12.out⟩
  rw [decide_eq_false q11]
  have e : Hid (nm sn x = 1) := by
    show nm sn x = 1
    unfold nm
    rw [if_neg q0, if_neg q1, if_neg q2, if_neg q3, if_neg q4, if_neg q5, if_neg q6, if_neg q7, if_neg q8, if_neg q9, if_neg q10, if_neg q11]
  go_wp2_with fail
  go_ret
  exact ⟨by rw [e.out]; rfl, B12.out⟩

theorem number_sn (p : Int) (s : Sn) (w : World) (sn : Sn → Addr) (hs : Sent w sn) :
    Calls Tryd.prog 12 #[fault p (sn s)] w fun e w' => e = .returned (.int .i64 s.code) ∧ Below w.heap.size w w' := by
  rw [← hs.nm s]; exact number_at p (sn s) w sn hs (hs.r s)
theorem number_E (p : Int) (w : World) (sn : Sn → Addr) (hs : Sent w sn) : Calls Tryd.prog 12 #[fault p (sn .End)] w fun e w' => e = .returned (.int .i64 3) ∧ Below w.heap.size w w' := number_sn p .End w sn hs
theorem number_T (p : Int) (w : World) (sn : Sn → Addr) (hs : Sent w sn) : Calls Tryd.prog 12 #[fault p (sn .Tag)] w fun e w' => e = .returned (.int .i64 4) ∧ Below w.heap.size w w' := number_sn p .Tag w sn hs
theorem number_L (p : Int) (w : World) (sn : Sn → Addr) (hs : Sent w sn) : Calls Tryd.prog 12 #[fault p (sn .Length)] w fun e w' => e = .returned (.int .i64 5) ∧ Below w.heap.size w w' := number_sn p .Length w sn hs
end Go.Proofs.YtkkicodfpekbgaaDoor
