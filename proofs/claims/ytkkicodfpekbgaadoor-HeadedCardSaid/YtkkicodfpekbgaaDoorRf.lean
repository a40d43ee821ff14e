/-
  The document's answer: Length, Told, Tell, Head: what they answer.
-/
import Derived.Test.YtkkicodfpekbgaaDoorTl
import Derived.Test.YtkkicodfpekbgaaDoorRg
namespace Go.Proofs.YtkkicodfpekbgaaDoor
open Go.RowKit

theorem conv_cell (x : Int) (h0 : 0 ≤ x) (h1 : x < 256) (W : World) (k : Nat) (hk : W.cell? ⟨k, 0, none⟩ = some (.int .u8 x)) : (convert 36 9 (.slice (some ⟨k, 0, none⟩) 1 1)).run Tryd.prog W = .ok (.string ⟨#[UInt8.ofNat x.toNat]⟩) W := by
  refine run_convert_bytes_back W 36 9 5 ⟨k, 0, none⟩ 1 [UInt8.ofNat x.toNat] Tryd.underlying36 Tryd.underlying5 Tryd.underlying9 fun j hj => ?_
  have : j = 0 := by simpa using hj
  subst this
  have e1 : (⟨k, 0, none⟩ : Addr).add 0 = ⟨k, 0, none⟩ := by unfold Addr.add; split <;> simp_all
  rw [e1, hk]
  have := bv_of x h0 h1
  unfold bv at this
  simpa using this.symm

set_option maxHeartbeats 1000000 in
set_option maxRecDepth 100000 in
theorem Told_f (c n l : Int) (w : World) (q1 : 0 ≤ c) (q2 : c ≤ 3) (q3 : 0 ≤ n) (q4 : n ≤ 30) (q5 : 0 ≤ l) (q6 : l ≤ 16777215) :
    Calls Tryd.prog 15 #[.int .i64 c, .bool false, .int .i64 n, .int .i64 l] w fun e w' => e = .returned (.string ⟨(UInt8.ofNat (c * 64 + n).toNat :: tl l).toArray⟩) ∧ Below w.heap.size w w' := by
  have hc := conv_cell (64 * c + n) (by omega) (by omega)
  have h8 : IntKind.u8.wrap (64 * c + n) = 64 * c + n := by rw [IntKind.wrap_u8]; omega
  have hfin : Hid ((⟨#[UInt8.ofNat (64 * c + n).toNat]⟩ : ByteArray) ++ ⟨(tl l).toArray⟩ = ⟨(UInt8.ofNat (c * 64 + n).toNat :: tl l).toArray⟩) := by
    show _ = _
    rw [show 64 * c + n = c * 64 + n by omega]
    apply ByteArray.ext
    simp
  have hts : (⟨(tl l).toArray⟩ : ByteArray).size ≤ 4 := by
    have h1 := tl_length l
    have h2 := cnt_cases l
    show (tl l).toArray.size ≤ 4
    rw [List.size_toArray]
    omega
  have HL : Hid (∀ w, Calls Tryd.prog 13 #[.int .i64 l] w fun e w' => e = .returned (.string ⟨(tl l).toArray⟩) ∧ Below w.heap.size w w') := fun w => Length_any l w q5 (by omega)
  generalize (⟨(tl l).toArray⟩ : ByteArray) = t at hfin hts HL
  go_enter Tryd.func15, Tryd.ntmps15
  go_wp2_with fail
  go_region_with (go_at_call 13; refine (HL.out _).mono ?_; rintro e w2 ⟨rfl, hb2⟩; obtain ⟨hc2, hf2⟩ := bcell hb2)
  all_goals (try go_wp2)
  all_goals go_ret
  all_goals refine ⟨ret_str hfin.out, ?_⟩
  all_goals first
    | exact ((Below.refl w.heap.size w).alloc (Nat.le_refl _) _).drew.trans (hb2.mono (by simp))
    | exact ((Below.refl w.heap.size w).drew.trans (hb2.mono (Nat.le_refl _))).alloc hb2.size _

set_option maxHeartbeats 1000000 in
set_option maxRecDepth 100000 in
theorem Told_t (c n l : Int) (w : World) (q1 : 0 ≤ c) (q2 : c ≤ 3) (q3 : 0 ≤ n) (q4 : n ≤ 30) (q5 : 0 ≤ l) (q6 : l ≤ 16777215) :
    Calls Tryd.prog 15 #[.int .i64 c, .bool true, .int .i64 n, .int .i64 l] w fun e w' => e = .returned (.string ⟨(UInt8.ofNat (c * 64 + n + 32).toNat :: tl l).toArray⟩) ∧ Below w.heap.size w w' := by
  have hc := conv_cell (64 * c + n + 32) (by omega) (by omega)
  have h8 : IntKind.u8.wrap (64 * c + n + 32) = 64 * c + n + 32 := by rw [IntKind.wrap_u8]; omega
  have hfin : Hid ((⟨#[UInt8.ofNat (64 * c + n + 32).toNat]⟩ : ByteArray) ++ ⟨(tl l).toArray⟩ = ⟨(UInt8.ofNat (c * 64 + n + 32).toNat :: tl l).toArray⟩) := by
    show _ = _
    rw [show 64 * c + n + 32 = c * 64 + n + 32 by omega]
    apply ByteArray.ext
    simp
  have hts : (⟨(tl l).toArray⟩ : ByteArray).size ≤ 4 := by
    have h1 := tl_length l
    have h2 := cnt_cases l
    show (tl l).toArray.size ≤ 4
    rw [List.size_toArray]
    omega
  have HL : Hid (∀ w, Calls Tryd.prog 13 #[.int .i64 l] w fun e w' => e = .returned (.string ⟨(tl l).toArray⟩) ∧ Below w.heap.size w w') := fun w => Length_any l w q5 (by omega)
  generalize (⟨(tl l).toArray⟩ : ByteArray) = t at hfin hts HL
  go_enter Tryd.func15, Tryd.ntmps15
  go_wp2_with fail
  go_region_with (go_at_call 13; refine (HL.out _).mono ?_; rintro e w2 ⟨rfl, hb2⟩; obtain ⟨hc2, hf2⟩ := bcell hb2)
  all_goals (try go_wp2)
  all_goals go_ret
  all_goals refine ⟨ret_str hfin.out, ?_⟩
  all_goals first
    | exact ((Below.refl w.heap.size w).alloc (Nat.le_refl _) _).drew.trans (hb2.mono (by simp))
    | exact ((Below.refl w.heap.size w).drew.trans (hb2.mono (Nat.le_refl _))).alloc hb2.size _

theorem Told_any (h : Hd) (w : World) (q1 : 0 ≤ h.c) (q2 : h.c ≤ 3) (q3 : 0 ≤ h.n) (q4 : h.n ≤ 30) (q5 : 0 ≤ h.l) (q6 : h.l ≤ 16777215) :
    Calls Tryd.prog 15 #[.int .i64 h.c, .bool h.b, .int .i64 h.n, .int .i64 h.l] w fun e w' => e = .returned (.string ⟨(UInt8.ofNat (fb h).toNat :: tl h.l).toArray⟩) ∧ Below w.heap.size w w' := by
  obtain ⟨c, b, n, s, l⟩ := h
  cases b
  · exact Told_f c n l w q1 q2 q3 q4 q5 q6
  · exact Told_t c n l w q1 q2 q3 q4 q5 q6

set_option maxHeartbeats 1000000 in
set_option maxRecDepth 100000 in
theorem rtell_tag (c : Int) (b : Bool) (n s l : Int) (w : World) (h : c < 0 ∨ 3 < c ∨ n < 0 ∨ 30 < n) :
    Calls Tryd.prog 8 #[.agg #[.int .i64 c, .bool b, .int .i64 n, .int .i64 s, .int .i64 l]] w fun e w' => e = .returned (.tuple #[.string ⟨#[]⟩, .int .i64 4]) ∧ Below w.heap.size w w' := by
  by_cases q1 : c < 0
  · clear h
    go_enter Tryd.func8, Tryd.ntmps8
    go_wp2
    go_ret2
    exact ⟨rfl, (Below.refl _ _).alloc (Nat.le_refl _) _⟩
  by_cases q2 : 3 < c
  · clear h
    go_enter Tryd.func8, Tryd.ntmps8
    go_wp2
    go_ret2
    exact ⟨rfl, (Below.refl _ _).alloc (Nat.le_refl _) _⟩
  by_cases q3 : n < 0
  · clear h
    go_enter Tryd.func8, Tryd.ntmps8
    go_wp2
    go_ret2
    exact ⟨rfl, (Below.refl _ _).alloc (Nat.le_refl _) _⟩
  have q4 : 30 < n := by omega
  clear h
  go_enter Tryd.func8, Tryd.ntmps8
  go_wp2
  go_ret2
  exact ⟨rfl, (Below.refl _ _).alloc (Nat.le_refl _) _⟩

set_option maxHeartbeats 1000000 in
set_option maxRecDepth 100000 in
theorem rtell_len (c : Int) (b : Bool) (n s l : Int) (w : World) (q1 : 0 ≤ c) (q2 : c ≤ 3) (q3 : 0 ≤ n) (q4 : n ≤ 30) (h : l < 0 ∨ 16777215 < l) :
    Calls Tryd.prog 8 #[.agg #[.int .i64 c, .bool b, .int .i64 n, .int .i64 s, .int .i64 l]] w fun e w' => e = .returned (.tuple #[.string ⟨#[]⟩, .int .i64 5]) ∧ Below w.heap.size w w' := by
  by_cases q5 : l < 0
  · clear h
    go_enter Tryd.func8, Tryd.ntmps8
    go_wp2
    go_ret2
    exact ⟨rfl, (Below.refl _ _).alloc (Nat.le_refl _) _⟩
  have q6 : 16777215 < l := by omega
  clear h
  go_enter Tryd.func8, Tryd.ntmps8
  go_wp2
  go_ret2
  exact ⟨rfl, (Below.refl _ _).alloc (Nat.le_refl _) _⟩

set_option maxHeartbeats 1000000 in
set_option maxRecDepth 100000 in
theorem rtell_ok (c : Int) (b : Bool) (n s l : Int) (w : World) (q1 : 0 ≤ c) (q2 : c ≤ 3) (q3 : 0 ≤ n) (q4 : n ≤ 30) (q5 : 0 ≤ l) (q6 : l ≤ 16777215) :
    Calls Tryd.prog 8 #[.agg #[.int .i64 c, .bool b, .int .i64 n, .int .i64 s, .int .i64 l]] w fun e w' => e = .returned (.tuple #[.string ⟨(UInt8.ofNat (fb ⟨c, b, n, s, l⟩).toNat :: tl l).toArray⟩, .int .i64 0]) ∧ Below w.heap.size w w' := by
  have HT : Hid (∀ w, Calls Tryd.prog 15 #[.int .i64 c, .bool b, .int .i64 n, .int .i64 l] w fun e w' => e = .returned (.string ⟨(UInt8.ofNat (fb ⟨c, b, n, s, l⟩).toNat :: tl l).toArray⟩) ∧ Below w.heap.size w w') := fun w => Told_any ⟨c, b, n, s, l⟩ w q1 q2 q3 q4 q5 q6
  generalize (⟨(UInt8.ofNat (fb ⟨c, b, n, s, l⟩).toNat :: tl l).toArray⟩ : ByteArray) = t at HT ⊢
  go_enter Tryd.func8, Tryd.ntmps8
  go_wp2_with fail
  refine Calls.mono (HT.out _) ?_
  rintro e w1 ⟨rfl, hb⟩
  have HB : Hid (Below w.heap.size w w1) := ((Below.refl w.heap.size w).alloc (Nat.le_refl _) _).trans (hb.mono (by simp))
  clear hb
  go_wp2_with fail
  go_ret2
  exact ⟨rfl, HB.out⟩

theorem rTell_any (h : Hd) (w : World) :
    Calls Tryd.prog 8 #[hv h] w fun e w' => e = .returned (.tuple #[.string ⟨(tsp h).2.toArray⟩, .int .i64 (tsp h).1]) ∧ Below w.heap.size w w' := by
  obtain ⟨c, b, n, s, l⟩ := h
  unfold tsp
  split
  · rename_i q; exact rtell_tag c b n s l w q
  rename_i q
  simp only at q
  split
  · rename_i q'; exact rtell_len c b n s l w (by omega) (by omega) (by omega) (by omega) q'
  · rename_i q'
    simp only at q'
    exact rtell_ok c b n s l w (by omega) (by omega) (by omega) (by omega) (by omega) (by omega)
end Go.Proofs.YtkkicodfpekbgaaDoor
