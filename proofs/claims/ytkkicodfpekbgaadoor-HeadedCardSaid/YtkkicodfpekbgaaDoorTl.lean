/-
  element.Tell, hallmark.Tell: what they answer.
-/
import Derived.Test.YtkkicodfpekbgaaDoorAl
namespace Go.Proofs.YtkkicodfpekbgaaDoor
open Go.RowKit

theorem own_one {B : Nat} (w : World) (x : Value) (T : TypeId) (hB : B ≤ w.heap.size) : (w.alloc (.cells #[x] T)).ownsRow B T 1 (.slice (some ⟨w.heap.size, 0, none⟩) 1 1) 1 [x] :=
  ⟨by simp, .inr ⟨w.heap.size, 1, #[x], rfl, hB, heap_alloc_new w _, by omega, by decide, rfl, by simp⟩⟩

set_option maxHeartbeats 1000000 in
set_option maxRecDepth 100000 in
theorem tell_tag (c : Int) (b : Bool) (n s l : Int) (w : World) (sn : Sn → Addr) (hs : Sent w sn) (h : c < 0 ∨ 3 < c ∨ n < 0 ∨ 30 < n) :
    Calls Tryd.prog 14 #[.agg #[.int .i64 c, .bool b, .int .i64 n, .int .i64 s, .int .i64 l]] w fun e w' => e = .returned (.tuple #[.string ⟨#[]⟩, fault 0 (sn .Tag)]) ∧ Below w.heap.size w w' := by
  have h1 := hs.cT
  have h1' := cell_lt hs.cT
  clear hs
  unfold fault
  by_cases q1 : c < 0
  · clear h
    go_enter Tryd.func14, Tryd.ntmps14
    go_wp2
    go_ret2
    exact ⟨rfl, (Below.refl _ _).alloc (Nat.le_refl _) _⟩
  by_cases q2 : 3 < c
  · clear h
    go_enter Tryd.func14, Tryd.ntmps14
    go_wp2
    go_ret2
    exact ⟨rfl, (Below.refl _ _).alloc (Nat.le_refl _) _⟩
  by_cases q3 : n < 0
  · clear h
    go_enter Tryd.func14, Tryd.ntmps14
    go_wp2
    go_ret2
    exact ⟨rfl, (Below.refl _ _).alloc (Nat.le_refl _) _⟩
  have q4 : 30 < n := by omega
  clear h
  go_enter Tryd.func14, Tryd.ntmps14
  go_wp2
  go_ret2
  exact ⟨rfl, (Below.refl _ _).alloc (Nat.le_refl _) _⟩

set_option maxHeartbeats 1000000 in
set_option maxRecDepth 100000 in
theorem tell_len (c : Int) (b : Bool) (n s l : Int) (w : World) (sn : Sn → Addr) (hs : Sent w sn) (q1 : 0 ≤ c) (q2 : c ≤ 3) (q3 : 0 ≤ n) (q4 : n ≤ 30) (h : l < 0 ∨ 16777215 < l) :
    Calls Tryd.prog 14 #[.agg #[.int .i64 c, .bool b, .int .i64 n, .int .i64 s, .int .i64 l]] w fun e w' => e = .returned (.tuple #[.string ⟨#[]⟩, fault 0 (sn .Length)]) ∧ Below w.heap.size w w' := by
  have h1 := hs.cL
  have h1' := cell_lt hs.cL
  clear hs
  unfold fault
  by_cases q5 : l < 0
  · clear h
    go_enter Tryd.func14, Tryd.ntmps14
    go_wp2
    go_ret2
    exact ⟨rfl, (Below.refl _ _).alloc (Nat.le_refl _) _⟩
  have q6 : 16777215 < l := by omega
  clear h
  go_enter Tryd.func14, Tryd.ntmps14
  go_wp2
  go_ret2
  exact ⟨rfl, (Below.refl _ _).alloc (Nat.le_refl _) _⟩

set_option maxHeartbeats 1000000 in
set_option maxRecDepth 100000 in
theorem tell_ok (c : Int) (b : Bool) (n s l : Int) (w : World) (q1 : 0 ≤ c) (q2 : c ≤ 3) (q3 : 0 ≤ n) (q4 : n ≤ 30) (q5 : 0 ≤ l) (q6 : l ≤ 16777215) :
    Calls Tryd.prog 14 #[.agg #[.int .i64 c, .bool b, .int .i64 n, .int .i64 s, .int .i64 l]] w fun e w' => e = .returned (.tuple #[.string ⟨(UInt8.ofNat (fb ⟨c, b, n, s, l⟩).toNat :: tl l).toArray⟩, .nilIface]) ∧ Below w.heap.size w w' := by
  cases b
  · have hy : Hid (bits .or .i64 (c * 64) n % 256 = c * 64 + n) := by show _ = _; rw [i64_or6 _ _ (by omega) (by omega) (by omega) (by omega) (by omega)]; omega
    go_enter Tryd.func14, Tryd.ntmps14
    go_wp2_with fail
    rw [hy.out]
    have ho1 : ((w.alloc (.cells #[.int .i64 c, .bool false, .int .i64 n, .int .i64 s, .int .i64 l] 23)).alloc (.cells #[.int .u8 (c * 64 + n)] 5)).ownsRow w.heap.size 5 1 (.slice (some ⟨w.heap.size + 1, 0, none⟩) 1 1) 1 [.int .u8 (c * 64 + n)] := by
      have := own_one (B := w.heap.size) (w.alloc (.cells #[.int .i64 c, .bool false, .int .i64 n, .int .i64 s, .int .i64 l] 23)) (.int .u8 (c * 64 + n)) 5 (by simp)
      simpa using this
    refine (appendLength_any w.heap.size (.slice (some ⟨w.heap.size + 1, 0, none⟩) 1 1) 1 [.int .u8 (c * 64 + n)] l _ q5 (by omega) (by exact ho1) (by simp; omega) (by omega)).mono ?_
    rintro e w2 ⟨v', m, rfl, ho, hb⟩
    have hcv := conv_own (l := UInt8.ofNat (c * 64 + n).toNat :: tl l) (ownsRow_cast ho rfl (by simp [bv_of (c * 64 + n) (by omega) (by omega)])) (by simp)
    have HB : Hid (Below w.heap.size w w2) := (((Below.refl w.heap.size w).alloc (Nat.le_refl _) _).alloc (by simp) _).trans hb
    clear ho hb
    go_wp2
    go_ret2
    exact ⟨rfl, HB.out⟩
  · have hy : Hid (bits .or .i64 (bits .or .i64 (c * 64) n) 32 % 256 = c * 64 + n + 32) := by show _ = _; rw [i64_or6 (c * 64) n (by omega) (by omega) (by omega) (by omega) (by omega), i64_or32 c n q1 q2 q3 q4]; omega
    go_enter Tryd.func14, Tryd.ntmps14
    go_wp2_with fail
    rw [hy.out]
    have ho1 : ((w.alloc (.cells #[.int .i64 c, .bool true, .int .i64 n, .int .i64 s, .int .i64 l] 23)).alloc (.cells #[.int .u8 (c * 64 + n + 32)] 5)).ownsRow w.heap.size 5 1 (.slice (some ⟨w.heap.size + 1, 0, none⟩) 1 1) 1 [.int .u8 (c * 64 + n + 32)] := by
      have := own_one (B := w.heap.size) (w.alloc (.cells #[.int .i64 c, .bool true, .int .i64 n, .int .i64 s, .int .i64 l] 23)) (.int .u8 (c * 64 + n + 32)) 5 (by simp)
      simpa using this
    refine (appendLength_any w.heap.size (.slice (some ⟨w.heap.size + 1, 0, none⟩) 1 1) 1 [.int .u8 (c * 64 + n + 32)] l _ q5 (by omega) (by exact ho1) (by simp; omega) (by omega)).mono ?_
    rintro e w2 ⟨v', m, rfl, ho, hb⟩
    have hcv := conv_own (l := UInt8.ofNat (c * 64 + n + 32).toNat :: tl l) (ownsRow_cast ho rfl (by simp [bv_of (c * 64 + n + 32) (by omega) (by omega)])) (by simp)
    have HB : Hid (Below w.heap.size w w2) := (((Below.refl w.heap.size w).alloc (Nat.le_refl _) _).alloc (by simp) _).trans hb
    clear ho hb
    go_wp2
    go_ret2
    exact ⟨rfl, HB.out⟩

theorem tell_any (h : Hd) (w : World) (sn : Sn → Addr) (hs : Sent w sn) :
    Calls Tryd.prog 14 #[hv h] w fun e w' => e = .returned (.tuple #[.string ⟨(tsp h).2.toArray⟩, errAt 0 sn (tsp h).1]) ∧ Below w.heap.size w w' := by
  obtain ⟨c, b, n, s, l⟩ := h
  unfold tsp
  split
  · rename_i q; exact tell_tag c b n s l w sn hs q
  rename_i q
  simp only at q
  split
  · rename_i q'; exact tell_len c b n s l w sn hs (by omega) (by omega) (by omega) (by omega) q'
  · rename_i q'
    simp only at q'
    exact tell_ok c b n s l w (by omega) (by omega) (by omega) (by omega) (by omega) (by omega)

set_option maxHeartbeats 1000000 in
set_option maxRecDepth 100000 in
theorem Tell_any (h : Hd) (w : World) (sn : Sn → Addr) (hs : Sent w sn) :
    Calls Tryd.prog 7 #[hv h] w fun e w' => e = .returned (.tuple #[.string ⟨(tsp h).2.toArray⟩, .int .i64 (tsp h).1]) ∧ Below w.heap.size w w' := by
  have HS : Hid (Sent w sn) := hs
  have HN : Hid (∀ w, Sent w sn → Calls Tryd.prog 12 #[errAt 0 sn (tsp h).1] w fun e w' => e = .returned (.int .i64 (tsp h).1) ∧ Below w.heap.size w w') := fun w q => number_any 0 _ w sn q (tsp_code h)
  have HR : Hid (∀ w, Sent w sn → Calls Tryd.prog 14 #[hv h] w fun e w' => e = .returned (.tuple #[.string ⟨(tsp h).2.toArray⟩, errAt 0 sn (tsp h).1]) ∧ Below w.heap.size w w') := fun w q => tell_any h w sn q
  clear hs
  generalize errAt 0 sn (tsp h).1 = v at HN HR
  generalize (tsp h).1 = k at HN ⊢
  generalize (⟨(tsp h).2.toArray⟩ : ByteArray) = t at HR ⊢
  obtain ⟨c, b, n, z, l⟩ := h
  unfold hv at HR ⊢
  go_enter Tryd.func7, Tryd.ntmps7
  go_wp2_with fail
  refine Calls.mono (HR.out _ (HS.out.below ((Below.refl _ _).alloc (Nat.le_refl _) _))) ?_
  rintro e w1 ⟨rfl, hb⟩
  have HB : Hid (Below w.heap.size w w1) := ((Below.refl w.heap.size w).alloc (Nat.le_refl _) _).trans (hb.mono (by simp))
  clear hb
  go_wp2_with fail
  refine Calls.mono (HN.out _ (HS.out.below HB.out)) ?_
  rintro e w2 ⟨rfl, hb⟩
  have HB2 : Hid (Below w.heap.size w w2) := HB.out.trans (hb.mono HB.out.size)
  clear hb
  go_wp2_with fail
  go_ret2
  exact ⟨rfl, HB2.out⟩
end Go.Proofs.YtkkicodfpekbgaaDoor
