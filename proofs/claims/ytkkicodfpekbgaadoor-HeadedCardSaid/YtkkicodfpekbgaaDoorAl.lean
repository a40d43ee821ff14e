/-
  appendLength: what it appends.
-/
import Derived.Test.YtkkicodfpekbgaaDoorHd
import Derived.Test.YtkkicodfpekbgaaDoorAc
import Derived.Laws.IdiomStrings
namespace Go.Proofs.YtkkicodfpekbgaaDoor
open Go.RowKit

/-- append(v, x) of one byte, on a slice of the call's own. -/
theorem wpList_push8 {w : World} {ops : Array Oper} {rest : List Oper} {o : Oper} {a : Act} {Q : Exit → Act → World → Prop} (hgd : o.guard = none) (s x : Operand)
    (ho : o.op = .call { callee := .builtin .append, args := #[s, x], argTypes := #[36, 36] })
    (B : Nat) (v : Value) (n : Nat) (xs : List Value) (hs : a.eval s = v) (hown : w.ownsRow B 5 1 v n xs) (u : Int) (T : TypeId)
    (hx : a.eval x = .slice (some ⟨w.heap.size, 0, none⟩) 1 1) (hn : n ≤ 1000) (hB : B ≤ w.heap.size)
    (h : ∀ v' w', w'.ownsRow B 5 1 v' (n + 1) (xs ++ [.int .u8 u]) → Below B w w' → wpList Tryd.prog ops Q rest (a.put o.dst v') w') :
    wpList Tryd.prog ops Q (o :: rest) a (w.alloc (.cells #[.int .u8 u] T)) := by
  obtain ⟨i0, hi, hz0, hz1, hz2⟩ := info_parts Tryd.info8
  refine wpList_append_own _ hgd s x 36 ho B 5 i0 (.int .u8 0) 1 1 Tryd.underlying36 hi hz0 hz1 hz2 rfl (by decide) v n xs hs (hown.alloc _) ⟨w.heap.size, 0, none⟩ 1 1 [.int .u8 u] hx rfl ?_ ?_ ?_ ?_ ?_ ?_
  · intro j y hj
    match j, hj with
    | 0, hj => simp at hj; subst hj; simp [Addr.add]
  · intro y hy; simp at hy; subst hy; rfl
  · unfold maxLen; omega
  · omega
  · simp; omega
  · intro v' w' h1 h2 _
    exact h v' w' h1 (((Below.refl B w).alloc hB _).grown h2 (by simp; omega) fun k hk => (hown.lt k hk).1)

theorem ownsRow_cast {w : World} {B : Nat} {v : Value} {n m : Nat} {xs ys : List Value} (h : w.ownsRow B 5 1 v n xs) (hn : n = m) (hx : xs = ys) : w.ownsRow B 5 1 v m ys := by subst hn; subst hx; exact h

set_option maxHeartbeats 1000000 in
set_option maxRecDepth 100000 in
theorem al_0 (B : Nat) (v : Value) (n : Nat) (xs : List Value) (L : Int) (w : World) (h0 : 0 ≤ L) (h1 : L < 128) (hown : w.ownsRow B 5 1 v n xs) (hB : B ≤ w.heap.size) (hn : n ≤ 900) :
    Calls Tryd.prog 19 #[v, .int .i64 L] w fun e w' => ∃ v', e = .returned v' ∧ w'.ownsRow B 5 1 v' (n + 1) (xs ++ [.int .u8 L]) ∧ Below B w w' := by
  have HO : Hid (w.ownsRow B 5 1 v n xs) := hown
  clear hown
  go_enter Tryd.func19, Tryd.ntmps19
  go_wp2_with (first | (at_builtin; refine wpList_push8 rfl (.tmp 11) (.tmp 14) rfl B _ _ _ rfl HO.out _ _ rfl (by omega) hB ?_; intro v1 w1 o1 b1) | go_in)
  go_ret
  exact ⟨_, rfl, o1, b1⟩

set_option maxHeartbeats 1000000 in
set_option maxRecDepth 100000 in
theorem al_1 (B : Nat) (v : Value) (n : Nat) (xs : List Value) (L : Int) (w : World) (h0 : 128 ≤ L) (h1 : L < 256) (hown : w.ownsRow B 5 1 v n xs) (hB : B ≤ w.heap.size) (hn : n ≤ 900) :
    Calls Tryd.prog 19 #[v, .int .i64 L] w fun e w' => ∃ v', e = .returned v' ∧ w'.ownsRow B 5 1 v' (n + 2) (xs ++ [.int .u8 129, .int .u8 L]) ∧ Below B w w' := by
  have HO : Hid (w.ownsRow B 5 1 v n xs) := hown
  clear hown
  go_enter Tryd.func19, Tryd.ntmps19
  go_wp2_with (first | (at_builtin; refine wpList_push8 rfl (.tmp 16) (.tmp 20) rfl B _ _ _ rfl HO.out _ _ rfl (by omega) hB ?_; intro v1 w1 o1 b1) | go_in)
  have HO1 : Hid (w1.ownsRow B 5 1 v1 (n + 1) (xs ++ [.int .u8 129])) := o1
  have HB1 : Hid (Below B w w1) := b1
  have hB1 : B ≤ w1.heap.size := Nat.le_trans hB b1.size
  clear o1 b1
  refine wp_loop_rounds 2 ?_
  rw [rounds_succ]
  go_wp2_with (first | (at_builtin; refine wpList_push8 rfl (.tmp 28) (.tmp 34) rfl B _ _ _ rfl HO1.out _ _ rfl (by omega) hB1 ?_; intro v2 w2 o2 b2) | go_in)
  have HO2 : Hid (w2.ownsRow B 5 1 v2 (n + 1 + 1) (xs ++ [.int .u8 129] ++ [.int .u8 L])) := o2
  have HB2 : Hid (Below B w w2) := HB1.out.trans b2
  have hB2 : B ≤ w2.heap.size := Nat.le_trans hB1 b2.size
  clear o2 b2
  rw [rounds_succ]
  go_wp2_with fail
  go_ret
  exact ⟨_, rfl, ownsRow_cast HO2.out rfl (by simp), HB2.out⟩

set_option maxHeartbeats 1000000 in
set_option maxRecDepth 100000 in
theorem al_2 (B : Nat) (v : Value) (n : Nat) (xs : List Value) (L : Int) (w : World) (h0 : 256 ≤ L) (h1 : L < 65536) (hown : w.ownsRow B 5 1 v n xs) (hB : B ≤ w.heap.size) (hn : n ≤ 900) :
    Calls Tryd.prog 19 #[v, .int .i64 L] w fun e w' => ∃ v', e = .returned v' ∧ w'.ownsRow B 5 1 v' (n + 3) (xs ++ [.int .u8 130, .int .u8 (L / 256), .int .u8 (L % 256)]) ∧ Below B w w' := by
  have HO : Hid (w.ownsRow B 5 1 v n xs) := hown
  clear hown
  go_enter Tryd.func19, Tryd.ntmps19
  go_wp2_with (first | (at_builtin; refine wpList_push8 rfl (.tmp 16) (.tmp 20) rfl B _ _ _ rfl HO.out _ _ rfl (by omega) hB ?_; intro v1 w1 o1 b1) | go_in)
  have HO1 : Hid (w1.ownsRow B 5 1 v1 (n + 1) (xs ++ [.int .u8 130])) := o1
  have HB1 : Hid (Below B w w1) := b1
  have hB1 : B ≤ w1.heap.size := Nat.le_trans hB b1.size
  clear o1 b1
  refine wp_loop_rounds 3 ?_
  rw [rounds_succ]
  go_wp2_with (first | (at_builtin; refine wpList_push8 rfl (.tmp 28) (.tmp 34) rfl B _ _ _ rfl HO1.out _ _ rfl (by omega) hB1 ?_; intro v2 w2 o2 b2) | go_in)
  have HO2 : Hid (w2.ownsRow B 5 1 v2 (n + 1 + 1) (xs ++ [.int .u8 130] ++ [.int .u8 (L / 256)])) := o2
  have HB2 : Hid (Below B w w2) := HB1.out.trans b2
  have hB2 : B ≤ w2.heap.size := Nat.le_trans hB1 b2.size
  clear o2 b2
  rw [rounds_succ]
  go_wp2_with (first | (at_builtin; refine wpList_push8 rfl (.tmp 28) (.tmp 34) rfl B _ _ _ rfl HO2.out _ _ rfl (by omega) hB2 ?_; intro v3 w3 o3 b3) | go_in)
  have HO3 : Hid (w3.ownsRow B 5 1 v3 (n + 1 + 1 + 1) (xs ++ [.int .u8 130] ++ [.int .u8 (L / 256)] ++ [.int .u8 (L % 256)])) := o3
  have HB3 : Hid (Below B w w3) := HB2.out.trans b3
  have hB3 : B ≤ w3.heap.size := Nat.le_trans hB2 b3.size
  clear o3 b3
  rw [rounds_succ]
  go_wp2_with fail
  go_ret
  exact ⟨_, rfl, ownsRow_cast HO3.out rfl (by simp), HB3.out⟩

set_option maxHeartbeats 1000000 in
set_option maxRecDepth 100000 in
theorem al_3 (B : Nat) (v : Value) (n : Nat) (xs : List Value) (L : Int) (w : World) (h0 : 65536 ≤ L) (h1 : L < 16777216) (hown : w.ownsRow B 5 1 v n xs) (hB : B ≤ w.heap.size) (hn : n ≤ 900) :
    Calls Tryd.prog 19 #[v, .int .i64 L] w fun e w' => ∃ v', e = .returned v' ∧ w'.ownsRow B 5 1 v' (n + 4) (xs ++ [.int .u8 131, .int .u8 (L / 65536), .int .u8 (L / 256 % 256), .int .u8 (L % 256)]) ∧ Below B w w' := by
  have HO : Hid (w.ownsRow B 5 1 v n xs) := hown
  clear hown
  go_enter Tryd.func19, Tryd.ntmps19
  go_wp2_with (first | (at_builtin; refine wpList_push8 rfl (.tmp 16) (.tmp 20) rfl B _ _ _ rfl HO.out _ _ rfl (by omega) hB ?_; intro v1 w1 o1 b1) | go_in)
  have HO1 : Hid (w1.ownsRow B 5 1 v1 (n + 1) (xs ++ [.int .u8 131])) := o1
  have HB1 : Hid (Below B w w1) := b1
  have hB1 : B ≤ w1.heap.size := Nat.le_trans hB b1.size
  clear o1 b1
  refine wp_loop_rounds 4 ?_
  rw [rounds_succ]
  go_wp2_with (first | (at_builtin; refine wpList_push8 rfl (.tmp 28) (.tmp 34) rfl B _ _ _ rfl HO1.out _ _ rfl (by omega) hB1 ?_; intro v2 w2 o2 b2) | go_in)
  have HO2 : Hid (w2.ownsRow B 5 1 v2 (n + 1 + 1) (xs ++ [.int .u8 131] ++ [.int .u8 (L / 65536)])) := o2
  have HB2 : Hid (Below B w w2) := HB1.out.trans b2
  have hB2 : B ≤ w2.heap.size := Nat.le_trans hB1 b2.size
  clear o2 b2
  rw [rounds_succ]
  go_wp2_with (first | (at_builtin; refine wpList_push8 rfl (.tmp 28) (.tmp 34) rfl B _ _ _ rfl HO2.out _ _ rfl (by omega) hB2 ?_; intro v3 w3 o3 b3) | go_in)
  have HO3 : Hid (w3.ownsRow B 5 1 v3 (n + 1 + 1 + 1) (xs ++ [.int .u8 131] ++ [.int .u8 (L / 65536)] ++ [.int .u8 (L / 256 % 256)])) := o3
  have HB3 : Hid (Below B w w3) := HB2.out.trans b3
  have hB3 : B ≤ w3.heap.size := Nat.le_trans hB2 b3.size
  clear o3 b3
  rw [rounds_succ]
  go_wp2_with (first | (at_builtin; refine wpList_push8 rfl (.tmp 28) (.tmp 34) rfl B _ _ _ rfl HO3.out _ _ rfl (by omega) hB3 ?_; intro v4 w4 o4 b4) | go_in)
  have HO4 : Hid (w4.ownsRow B 5 1 v4 (n + 1 + 1 + 1 + 1) (xs ++ [.int .u8 131] ++ [.int .u8 (L / 65536)] ++ [.int .u8 (L / 256 % 256)] ++ [.int .u8 (L % 256)])) := o4
  have HB4 : Hid (Below B w w4) := HB3.out.trans b4
  have hB4 : B ≤ w4.heap.size := Nat.le_trans hB3 b4.size
  clear o4 b4
  rw [rounds_succ]
  go_wp2_with fail
  go_ret
  exact ⟨_, rfl, ownsRow_cast HO4.out rfl (by simp), HB4.out⟩

theorem appendLength_any (B : Nat) (v : Value) (n : Nat) (xs : List Value) (L : Int) (w : World) (h0 : 0 ≤ L) (h1 : L < 16777216) (hown : w.ownsRow B 5 1 v n xs) (hB : B ≤ w.heap.size) (hn : n ≤ 900) :
    Calls Tryd.prog 19 #[v, .int .i64 L] w fun e w' => ∃ v' m, e = .returned v' ∧ w'.ownsRow B 5 1 v' m (xs ++ (tl L).map bv) ∧ Below B w w' := by
  unfold tl
  split
  · refine (al_0 B v n xs L w h0 (by omega) hown hB hn).mono ?_
    rintro e w' ⟨v', rfl, ho, hb⟩
    exact ⟨v', _, rfl, ownsRow_cast ho rfl (by simp [bv_of L h0 (by omega)]), hb⟩
  split
  · refine (al_1 B v n xs L w (by omega) (by omega) hown hB hn).mono ?_
    rintro e w' ⟨v', rfl, ho, hb⟩
    exact ⟨v', _, rfl, ownsRow_cast ho rfl (by simp [bv_of L h0 (by omega)]; rfl), hb⟩
  split
  · refine (al_2 B v n xs L w (by omega) (by omega) hown hB hn).mono ?_
    rintro e w' ⟨v', rfl, ho, hb⟩
    exact ⟨v', _, rfl, ownsRow_cast ho rfl (by simp [bv_of (L / 256) (by omega) (by omega), bv_of (L % 256) (by omega) (by omega)]; rfl), hb⟩
  · refine (al_3 B v n xs L w (by omega) (by omega) hown hB hn).mono ?_
    rintro e w' ⟨v', rfl, ho, hb⟩
    exact ⟨v', _, rfl, ownsRow_cast ho rfl (by simp [bv_of (L / 65536) (by omega) (by omega), bv_of (L / 256 % 256) (by omega) (by omega), bv_of (L % 256) (by omega) (by omega)]; rfl), hb⟩

end Go.Proofs.YtkkicodfpekbgaaDoor
