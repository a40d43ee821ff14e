/-
  The document's reader: node, of the kinds 1 to 9 (a Tag of Mode 0).
-/
import Derived.Test.YtjceeljaljdmoaaGreatDoorRwp
namespace Go.Proofs.YtjceeljaljdmoaaGreatDoor
open Go.RowKit

set_option maxHeartbeats 8000000 in
set_option maxRecDepth 100000 in
theorem node_leafB (s : List Nd) (W w : World) (R : Nat) (a : Option Addr) (c : Nat) (data : ByteArray) (tree : List Vl) (p : Int) (i x y : Nat) (dp : Int)
    (h : RdI W w R a s.length c data tree 0 p) (hs : Sch W a s) (hi : i < s.length) (hk1 : 1 ≤ (nd s i).kind) (hk9 : (nd s i).kind ≤ 9) (htg' : 0 ≤ (nd s i).tag) (hm0 : (nd s i).mode = 0)
    (hxy : x ≤ y) (hy : y ≤ data.size) (hm : data.size ≤ 140737488355328) (ht : tree.length ≤ 1099511627776) :
    Calls Tryz.prog 48 #[.pointer (some ⟨R, 0, none⟩), .int .i64 i, .int .i64 x, .int .i64 y, .int .i64 dp] w
      fun e w' => RetN W R a s.length c data (nd s i) x y dp tree e w' := by
  have HI : Hid (RdI W w R a s.length c data tree 0 p) := h
  have HHD : Hid (∀ (w1 : World) (p : Int) (x y : Nat), RdI W w1 R a s.length c data tree 0 p → x ≤ y → y ≤ data.size → Calls Tryz.prog 72 #[.pointer (some ⟨R, 0, none⟩), .int .i64 x, .int .i64 y] w1 fun e w' => e = .returned (hv (hd (data.extract x y)).2) ∧ RdI W w' R a s.length c data tree (hd (data.extract x y)).1 (if (hd (data.extract x y)).1 = 0 then p else x) ∧ Fr R w1 w') :=
    fun w1 p x y h1 h2 h3 => rdhead_any W w1 R a s.length c data tree p x y h1 h2 h3 hm
  obtain ⟨hb, hlo, vt, hr, _⟩ := h
  unfold rdObj at hr
  have c0 : w.cell? ⟨R, 0, none⟩ = some (.slice a s.length c) := by simp [World.cell?, hr]
  have hRl : R < w.heap.size := lt_of_cell c0
  clear hr
  obtain ⟨b, o, ka, kc, rfl, nc, kl, km, ks⟩ := hs i hi
  obtain ⟨n1, n2, n3, n4⟩ := nc.below hb
  have hi' : (i : Int) < s.length := by omega
  clear hs nc ks hb
  generalize hN : nd s i = N at *
  clear hN
  have HM0 : Hid (N.mode = 0) := hm0
  have e0 : (N.mode == 0) = true := by simp [hm0]
  clear hm0
  have HX : Hid (∀ to u, NodeAt N data x y dp to u → (hd (data.extract x y)).1 = 0) := fun to u q => q.2.1
  go_enter Tryz.func48, Tryz.ntmps48
  go_wp2_with fail
  refine (HHD.out _ p x y (HI.out.below ((Below.refl _ _).alloc (Nat.le_refl _) _)) hxy hy).mono ?_
  rintro e w1 ⟨rfl, hI1, hf1⟩
  have HG1 : Hid (w1.heap[w.heap.size]? = some (.cells #[.int .i64 N.kind, .int .i64 N.tag, .int .i64 N.mode, .slice ka N.kids.length kc] 58 (0, 0))) := hf1 _ _ _ (by omega) (by decide) (heap_alloc_new w _)
  obtain ⟨hc, hb, hn, hz, hl, hH⟩ : ∃ hc hb hn hz hl, (hd (data.extract x y)).2 = ⟨hc, hb, hn, hz, hl⟩ := ⟨_, _, _, _, _, rfl⟩
  have HH : Hid ((hd (data.extract x y)).2 = ⟨hc, hb, hn, hz, hl⟩) := hH
  rw [hH]
  unfold hv
  obtain ⟨k1, hk⟩ : ∃ k, (hd (data.extract x y)).1 = k := ⟨_, rfl⟩
  have HK : Hid ((hd (data.extract x y)).1 = k1) := hk
  rw [hk] at hI1
  have HI1 : Hid (RdI W w1 R (some ⟨b, o, none⟩) s.length c data tree k1 (if k1 = 0 then p else x)) := hI1
  obtain ⟨_, _, vt1, hr1, _⟩ := hI1
  unfold rdObj at hr1
  have r3 : w1.cell? ⟨R, 3, none⟩ = some (.int .i64 k1) := by simp [World.cell?, hr1]
  have hs1 : w.heap.size < w1.heap.size := by
    rcases Nat.lt_or_ge w.heap.size w1.heap.size with h' | h'
    · exact h'
    · have := HG1.out; rw [Array.getElem?_eq_none h'] at this; cases this
  have hRs : R < w1.heap.size := by omega
  have m0 : w1.cell? ⟨w.heap.size, 0, none⟩ = some (.int .i64 N.kind) := by simp [World.cell?, HG1.out]
  have m1 : w1.cell? ⟨w.heap.size, 1, none⟩ = some (.int .i64 N.tag) := by simp [World.cell?, HG1.out]
  have m2 : w1.cell? ⟨w.heap.size, 2, none⟩ = some (.int .i64 N.mode) := by simp [World.cell?, HG1.out]
  have m3 : w1.cell? ⟨w.heap.size, 3, none⟩ = some (.slice ka N.kids.length kc) := by simp [World.cell?, HG1.out]
  clear hf1 hH hk hr1 n1 n2 n3 n4 c0
  by_cases hk0 : k1 = 0
  · subst hk0
    have hok := hd_ok HK.out
    rw [HH.out] at hok
    simp only at hok
    rw [show (data.extract x y).size = y - x by simp; omega] at hok
    obtain ⟨z, rfl⟩ : ∃ z : Nat, hz = z := ⟨hz.toNat, by omega⟩
    obtain ⟨l, rfl⟩ : ∃ l : Nat, hl = l := ⟨hl.toNat, by omega⟩
    have hzl : x + z + l ≤ y := by omega
    have hto1 : (x : Int) + z ≤ 9223372036854775807 := by omega
    have hto2 : (x : Int) + z + l ≤ 9223372036854775807 := by omega
    have BA : Hid (∀ (w3 : World) (cl nu : Int), RdI W w3 R (some ⟨b, o, none⟩) s.length c data tree 0 p → Calls Tryz.prog 73 #[.pointer (some ⟨R, 0, none⟩), .agg #[.int .i64 N.kind, .int .i64 N.tag, .int .i64 N.mode, .slice ka N.kids.length kc], .int .i64 cl, .int .i64 nu, .agg #[.int .i64 hc, .bool hb, .int .i64 hn, .int .i64 z, .int .i64 l], .int .i64 x, .int .i64 ((x : Int) + z + l), .int .i64 dp] w3
      fun e w' => RetR W w3 R (some ⟨b, o, none⟩) s.length c data (.tuple #[]) (BareL N.kind cl nu ⟨hc, hb, hn, z, l⟩ data x z (x + z + l) dp tree p) e w') := fun w3 cl nu h3 => by
      have := bare_leaf W w3 R (some ⟨b, o, none⟩) s.length c data tree p N ka kc cl nu hc hb hn z l x (x + z + l) dp h3 hk1 hk9 (by omega) (by omega) hm ht
      rw [show ((x + z + l : Nat) : Int) = (x : Int) + z + l by omega] at this
      exact this
    have HI2 : Hid (∀ o1, RdI W (w1.alloc o1) R (some ⟨b, o, none⟩) s.length c data tree 0 p) := fun o1 => HI1.out.below ((Below.refl _ _).alloc (Nat.le_refl _) _)
    clear hok
    have RUN0 : Hid (∀ args w, (callFunc 74 args).run Tryz.prog w = .ok (.enter 74 args) w) := fun args w => run_enter Tryz.func74 (by kernel_rfl) (by rfl) args w
    have RUNB : Hid (∀ args w, (callFunc 73 args).run Tryz.prog w = .ok (.enter 73 args) w) := fun args w => run_enter Tryz.func73 (by kernel_rfl) (by rfl) args w
    have HT : Hid (0 ≤ N.tag) := htg'
    go_wp2_with fail
    refine (BA.out _ 2 N.tag (HI2.out _)).mono ?_
    rintro e w4 ⟨rfl, tree', e', p', hI4, hB4, hf4⟩
    have HB4 : Hid (BareL N.kind 2 N.tag ⟨hc, hb, hn, z, l⟩ data x z (x + z + l) dp tree p tree' e' p') := hB4
    have HI4 : Hid (RdI W w4 R (some ⟨b, o, none⟩) s.length c data tree' e' p') := hI4
    clear hB4 hI4 hf4
    go_wp2
    go_ret
    exact ⟨_, tree', e', p', rfl, HI4.out, nodeA 2 N.tag HK.out HH.out (.inr ⟨HT.out, HM0.out, rfl, rfl⟩) HB4.out⟩
  · have HK0 : Hid (k1 ≠ 0) := hk0
    have e0 : (k1 != 0) = true := by simp [hk0]
    have HI1' : Hid (RdI W w1 R (some ⟨b, o, none⟩) s.length c data tree k1 x) := by have := HI1.out; rw [if_neg hk0] at this; exact this
    have HI3 : Hid (∀ o1, RdI W (w1.alloc o1) R (some ⟨b, o, none⟩) s.length c data tree k1 x) := fun o1 => HI1'.out.below ((Below.refl _ _).alloc (Nat.le_refl _) _)
    clear hk0
    go_wp2
    go_ret
    exact ⟨y, tree, k1, x, rfl, HI3.out _, .inr ⟨HK0.out, fun to u q => HK0.out (HK.out.symm.trans (HX.out to u q))⟩⟩
end Go.Proofs.YtjceeljaljdmoaaGreatDoor
