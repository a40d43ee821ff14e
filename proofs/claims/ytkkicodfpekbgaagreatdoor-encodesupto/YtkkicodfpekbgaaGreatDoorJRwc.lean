/-
  The document's reader: node, of the kinds 1 to 9 (a Tag of Mode 1).
-/
import Derived.Test.YtkkicodfpekbgaaGreatDoorJ6
import Derived.Deep.DeepCutAuto
namespace Go.Proofs.YtkkicodfpekbgaaGreatDoor
set_option linter.unusedSimpArgs false
set_option linter.unusedVariables false
open Go.RowKit

set_option maxHeartbeats 8000000 in
set_option maxRecDepth 100000 in
theorem node_leafC (s : List Nd) (W w : World) (R : Nat) (a : Option Addr) (c : Nat) (data : ByteArray) (tree : List Vl) (p : Int) (i x y : Nat) (dp : Int)
    (h : RdI W w R a s.length c data tree 0 p) (hs : Sch W a s) (hi : i < s.length) (hk1 : 1 ≤ (nd s i).kind) (hk9 : (nd s i).kind ≤ 9) (htg' : 0 ≤ (nd s i).tag) (hm0 : (nd s i).mode = 1)
    (hxy : x ≤ y) (hy : y ≤ data.size) (hm : data.size ≤ 140737488355328) (ht : tree.length ≤ 1099511627776) :
    Calls Tryz.prog 69 #[.pointer (some ⟨R, 0, none⟩), .int .i64 i, .int .i64 x, .int .i64 y, .int .i64 dp] w
      fun e w' => RetN W R a s.length c data (nd s i) x y dp tree e w' := by
  have HI : Hid (RdI W w R a s.length c data tree 0 p) := h
  have HHD : Hid (∀ (w1 : World) (p : Int) (x y : Nat), RdI W w1 R a s.length c data tree 0 p → x ≤ y → y ≤ data.size → Calls Tryz.prog 101 #[.pointer (some ⟨R, 0, none⟩), .int .i64 x, .int .i64 y] w1 fun e w' => e = .returned (hv (hd (data.extract x y)).2) ∧ RdI W w' R a s.length c data tree (hd (data.extract x y)).1 (if (hd (data.extract x y)).1 = 0 then p else x) ∧ Fr R w1 w') :=
    fun w1 p x y h1 h2 h3 => rdhead_any W w1 R a s.length c data tree p x y h1 h2 h3 hm
  obtain ⟨hb, hlo, vt, hr, _⟩ := h
  unfold rdObj at hr
  have c0 : w.cell? ⟨R, 0, none⟩ = some (.slice a s.length c) := by simp [World.cell?, hr]
  have hRl : R < w.heap.size := lt_of_cell c0
  clear hr
  obtain ⟨b, o, ka, kc, rfl, nc, kl, km, ks⟩ := hs i hi
  obtain ⟨n1, n2, n3, n4⟩ := nc.below hb
  have hi' : (i : Int) < s.length := by omega
  clear hs nc ks hb
  generalize hN : nd s i = N at *
  clear hN
  have HM0 : Hid (N.mode = 1) := hm0
  have e0 : (N.mode == 0) = false := by simp [hm0]
  clear hm0
  have HX : Hid (∀ tq u, NodeAt N data x y dp tq u → (hd (data.extract x y)).1 = 0) := fun tq u q => q.2.1
  go_enter Tryz.func69, Tryz.ntmps69
  go_wp2_with fail
  refine (HHD.out _ p x y (HI.out.below ((Below.refl _ _).alloc (Nat.le_refl _) _)) hxy hy).mono ?_
  rintro e w1 ⟨rfl, hI1, hf1⟩
  have HG1 : Hid (w1.heap[w.heap.size]? = some (.cells #[.int .i64 N.kind, .int .i64 N.tag, .int .i64 N.mode, .slice ka N.kids.length kc] 58 (0, 0))) := hf1 _ _ _ (by omega) (by decide) (heap_alloc_new w _)
  obtain ⟨hc, hb, hn, hz, hl, hH⟩ : ∃ hc hb hn hz hl, (hd (data.extract x y)).2 = ⟨hc, hb, hn, hz, hl⟩ := ⟨_, _, _, _, _, rfl⟩
  have HH : Hid ((hd (data.extract x y)).2 = ⟨hc, hb, hn, hz, hl⟩) := hH
  rw [hH]
  unfold hv
  obtain ⟨k1, hk⟩ : ∃ k, (hd (data.extract x y)).1 = k := ⟨_, rfl⟩
  have HK : Hid ((hd (data.extract x y)).1 = k1) := hk
  rw [hk] at hI1
  have HI1 : Hid (RdI W w1 R (some ⟨b, o, none⟩) s.length c data tree k1 (if k1 = 0 then p else x)) := hI1
  obtain ⟨_, _, vt1, hr1, _⟩ := hI1
  unfold rdObj at hr1
  have r3 : w1.cell? ⟨R, 3, none⟩ = some (.int .i64 k1) := by simp [World.cell?, hr1]
  have hs1 : w.heap.size < w1.heap.size := by
    rcases Nat.lt_or_ge w.heap.size w1.heap.size with h' | h'
    · exact h'
    · have := HG1.out; rw [Array.getElem?_eq_none h'] at this; cases this
  have hRs : R < w1.heap.size := by omega
  have m0 : w1.cell? ⟨w.heap.size, 0, none⟩ = some (.int .i64 N.kind) := by simp [World.cell?, HG1.out]
  have m1 : w1.cell? ⟨w.heap.size, 1, none⟩ = some (.int .i64 N.tag) := by simp [World.cell?, HG1.out]
  have m2 : w1.cell? ⟨w.heap.size, 2, none⟩ = some (.int .i64 N.mode) := by simp [World.cell?, HG1.out]
  have m3 : w1.cell? ⟨w.heap.size, 3, none⟩ = some (.slice ka N.kids.length kc) := by simp [World.cell?, HG1.out]
  clear hf1 hH hk hr1 n1 n2 n3 n4 c0
  by_cases hk0 : k1 = 0
  · subst hk0
    have hok := hd_ok HK.out
    rw [HH.out] at hok
    simp only at hok
    rw [show (data.extract x y).size = y - x by simp; omega] at hok
    obtain ⟨z, rfl⟩ : ∃ z : Nat, hz = z := ⟨hz.toNat, by omega⟩
    obtain ⟨l, rfl⟩ : ∃ l : Nat, hl = l := ⟨hl.toNat, by omega⟩
    have hzl : x + z + l ≤ y := by omega
    have hto1 : (x : Int) + z ≤ 9223372036854775807 := by omega
    have hto2 : (x : Int) + z + l ≤ 9223372036854775807 := by omega
    have BA : Hid (∀ (w3 : World) (cl nu : Int), RdI W w3 R (some ⟨b, o, none⟩) s.length c data tree 0 p → Calls Tryz.prog 102 #[.pointer (some ⟨R, 0, none⟩), .agg #[.int .i64 N.kind, .int .i64 N.tag, .int .i64 N.mode, .slice ka N.kids.length kc], .int .i64 cl, .int .i64 nu, .agg #[.int .i64 hc, .bool hb, .int .i64 hn, .int .i64 z, .int .i64 l], .int .i64 x, .int .i64 ((x : Int) + z + l), .int .i64 dp] w3
      fun e w' => RetR W w3 R (some ⟨b, o, none⟩) s.length c data (.tuple #[]) (BareL N.kind cl nu ⟨hc, hb, hn, z, l⟩ data x z (x + z + l) dp tree p) e w') := fun w3 cl nu h3 => by
      have := bare_leaf W w3 R (some ⟨b, o, none⟩) s.length c data tree p N ka kc cl nu hc hb hn z l x (x + z + l) dp h3 hk1 hk9 (by omega) (by omega) hm ht
      rw [show ((x + z + l : Nat) : Int) = (x : Int) + z + l by omega] at this
      exact this
    have HI2 : Hid (∀ o1, RdI W (w1.alloc o1) R (some ⟨b, o, none⟩) s.length c data tree 0 p) := fun o1 => HI1.out.below ((Below.refl _ _).alloc (Nat.le_refl _) _)
    clear hok
    have RUN0 : Hid (∀ args w, (callFunc 103 args).run Tryz.prog w = .ok (.enter 103 args) w) := fun args w => run_enter Tryz.func103 (by kernel_rfl) (by rfl) args w
    have RUNB : Hid (∀ args w, (callFunc 102 args).run Tryz.prog w = .ok (.enter 102 args) w) := fun args w => run_enter Tryz.func102 (by kernel_rfl) (by rfl) args w
    have HT : Hid (0 ≤ N.tag) := htg'
    by_cases q : hc = 2 ∧ hn = N.tag ∧ hb = true
    · have HQ : Hid (hc = 2 ∧ hn = N.tag ∧ hb = true) := q
      have q1 : (hc != 2) = false := by simp [q.1]
      have q2 : (hn != N.tag) = false := by simp [q.2.1]
      obtain rfl : hb = true := q.2.2
      clear q
      by_cases hdp : 12 < dp
      · have HD : Hid (12 < dp) := hdp
        go_wp2_with fail
        refine (stop_first W _ R _ s.length c data tree p 10 x (HI2.out _)).mono ?_
        rintro e w3 ⟨rfl, hI3, _⟩
        have HI3 : Hid (RdI W w3 R (some ⟨b, o, none⟩) s.length c data tree 10 x) := hI3
        clear hI3
        go_wp2
        go_ret
        exact ⟨y, tree, 10, x, rfl, HI3.out, .inr ⟨by decide, fun tq u q => by have := (nodeC_no HH.out HT.out HM0.out q).2.2.2.2.1; have := HD.out; omega⟩⟩
      · have hdp' : dp ≤ 12 := by omega
        have HD : Hid (dp ≤ 12) := hdp'
        clear hdp
        have HHD2 : Hid (∀ w1, RdI W w1 R (some ⟨b, o, none⟩) s.length c data tree 0 p → Calls Tryz.prog 101 #[.pointer (some ⟨R, 0, none⟩), .int .i64 ((x : Int) + z), .int .i64 ((x : Int) + z + l)] w1 fun e w' => e = .returned (hv (hd (data.extract (x + z) (x + z + l))).2) ∧ RdI W w' R (some ⟨b, o, none⟩) s.length c data tree (hd (data.extract (x + z) (x + z + l))).1 (if (hd (data.extract (x + z) (x + z + l))).1 = 0 then p else ((x + z : Nat) : Int)) ∧ Fr R w1 w') := fun w1 h1 => by
          have := HHD.out w1 p (x + z) (x + z + l) h1 (by omega) (by omega)
          rw [show ((x + z + l : Nat) : Int) = (x : Int) + z + l by omega] at this
          rw [show ((x + z : Nat) : Int) = (x : Int) + z by omega] at this ⊢
          exact this
        go_wp2_with fail
        refine (HHD2.out _ (HI2.out _)).mono ?_
        rintro e w3 ⟨rfl, hI3, hf3⟩
        have HG3 : Hid (w3.heap[w.heap.size]? = some (.cells #[.int .i64 N.kind, .int .i64 N.tag, .int .i64 N.mode, .slice ka N.kids.length kc] 58 (0, 0))) := hf3 _ _ _ (by omega) (by decide) (block_below HG1.out ((Below.refl _ _).alloc (Nat.le_refl _) _))
        have HG4 : Hid (w3.heap[w1.heap.size]? = some (.cells #[.int .i64 hc, .bool true, .int .i64 hn, .int .i64 z, .int .i64 l] 179 (0, 0))) := hf3 _ _ _ (by omega) (by decide) (heap_alloc_new w1 _)
        obtain ⟨hc2, hb2, hn2, hz2, hl2, hH2⟩ : ∃ hc hb hn hz hl, (hd (data.extract (x + z) (x + z + l))).2 = ⟨hc, hb, hn, hz, hl⟩ := ⟨_, _, _, _, _, rfl⟩
        have HH2 : Hid ((hd (data.extract (x + z) (x + z + l))).2 = ⟨hc2, hb2, hn2, hz2, hl2⟩) := hH2
        rw [hH2]
        unfold hv
        obtain ⟨k2, hk2⟩ : ∃ k, (hd (data.extract (x + z) (x + z + l))).1 = k := ⟨_, rfl⟩
        have HK2 : Hid ((hd (data.extract (x + z) (x + z + l))).1 = k2) := hk2
        rw [hk2] at hI3
        have HI3 : Hid (RdI W w3 R (some ⟨b, o, none⟩) s.length c data tree k2 (if k2 = 0 then p else ((x + z : Nat) : Int))) := hI3
        obtain ⟨_, _, vt3, hr3, _⟩ := hI3
        unfold rdObj at hr3
        have r33 : w3.cell? ⟨R, 3, none⟩ = some (.int .i64 k2) := by simp [World.cell?, hr3]
        have hs3 : w1.heap.size < w3.heap.size := by
          rcases Nat.lt_or_ge w1.heap.size w3.heap.size with h' | h'
          · exact h'
          · have := HG4.out; rw [Array.getElem?_eq_none h'] at this; cases this
        have hs3' : w.heap.size < w3.heap.size := by omega
        have hR3 : R < w3.heap.size := by omega
        have p0 : w3.cell? ⟨w.heap.size, 0, none⟩ = some (.int .i64 N.kind) := by simp [World.cell?, HG3.out]
        have p1 : w3.cell? ⟨w.heap.size, 1, none⟩ = some (.int .i64 N.tag) := by simp [World.cell?, HG3.out]
        have p2 : w3.cell? ⟨w.heap.size, 2, none⟩ = some (.int .i64 N.mode) := by simp [World.cell?, HG3.out]
        have p3 : w3.cell? ⟨w.heap.size, 3, none⟩ = some (.slice ka N.kids.length kc) := by simp [World.cell?, HG3.out]
        have g3 : w3.cell? ⟨w1.heap.size, 3, none⟩ = some (.int .i64 z) := by simp [World.cell?, HG4.out]
        clear hf3 hH2 hk2 hr3 m0 m1 m2 m3 r3
        by_cases hk20 : k2 = 0
        · subst hk20
          have hok := hd_ok HK2.out
          rw [HH2.out] at hok
          simp only at hok
          rw [show (data.extract (x + z) (x + z + l)).size = l by simp; omega] at hok
          obtain ⟨z2, rfl⟩ : ∃ z2 : Nat, hz2 = z2 := ⟨hz2.toNat, by omega⟩
          obtain ⟨l2, rfl⟩ : ∃ l2 : Nat, hl2 = l2 := ⟨hl2.toNat, by omega⟩
          have hzl2 : z2 + l2 ≤ l := by omega
          have hto3 : (x : Int) + z + z2 ≤ 9223372036854775807 := by omega
          have hto4 : (x : Int) + z + z2 + l2 ≤ 9223372036854775807 := by omega
          have BA2 : Hid (∀ (w3 : World), RdI W w3 R (some ⟨b, o, none⟩) s.length c data tree 0 p → Calls Tryz.prog 102 #[.pointer (some ⟨R, 0, none⟩), .agg #[.int .i64 N.kind, .int .i64 N.tag, .int .i64 N.mode, .slice ka N.kids.length kc], .int .i64 0, .int .i64 (own N.kind), .agg #[.int .i64 hc2, .bool hb2, .int .i64 hn2, .int .i64 z2, .int .i64 l2], .int .i64 ((x : Int) + z), .int .i64 ((x : Int) + z + z2 + l2), .int .i64 dp] w3
            fun e w' => RetR W w3 R (some ⟨b, o, none⟩) s.length c data (.tuple #[]) (BareL N.kind 0 (own N.kind) ⟨hc2, hb2, hn2, z2, l2⟩ data (x + z) z2 (x + z + z2 + l2) dp tree p) e w') := fun w3 h3 => by
            have := bare_leaf W w3 R (some ⟨b, o, none⟩) s.length c data tree p N ka kc 0 (own N.kind) hc2 hb2 hn2 z2 l2 (x + z) (x + z + z2 + l2) dp h3 hk1 hk9 (by omega) (by omega) hm ht
            rw [show ((x + z + z2 + l2 : Nat) : Int) = (x : Int) + z + z2 + l2 by omega, show ((x + z : Nat) : Int) = (x : Int) + z by omega] at this
            exact this
          have HI4 : Hid (∀ o1, RdI W (w3.alloc o1) R (some ⟨b, o, none⟩) s.length c data tree 0 p) := fun o1 => HI3.out.below ((Below.refl _ _).alloc (Nat.le_refl _) _)
          have HO : Hid (∀ w, Calls Tryz.prog 103 #[.int .i64 N.kind] w fun e w' => e = .returned (.int .i64 (own N.kind)) ∧ Below w.heap.size w w') := fun w => own0_any N.kind (by omega) (by omega) w
          clear hok
          have hwr : IntKind.i64.wrap ((x : Int) + z) = (x : Int) + z := wraps_i64 _ (by omega) (by omega)
          go_upto_region 22 with fail
          go_cut [127] (fun _ wx => ∃ tree' e' p', RdI W wx R (some ⟨b, o, none⟩) s.length c data tree' e' p' ∧ BareL N.kind 0 (own N.kind) ⟨hc2, hb2, hn2, z2, l2⟩ data (x + z) z2 (x + z + z2 + l2) dp tree p tree' e' p')
          case first =>
            go_region_law (first | (refine step_calls rfl 103 _ _ rfl #[.int .i64 N.kind] (by simp [Act.eval, Act.put]) (.int .i64 (own N.kind)) (fun w' => Below ((w3.alloc (.cells #[.int .i64 hc2, .bool hb2, .int .i64 hn2, .int .i64 z2, .int .i64 l2] 179)).drew).heap.size ((w3.alloc (.cells #[.int .i64 hc2, .bool hb2, .int .i64 hn2, .int .i64 z2, .int .i64 l2] 179)).drew) w') (RUN0.out _ _) (HO.out _) ?_; intro w5 hb5; have hI5 := ((HI4.out _).below (below_drewN (Below.refl _ _) 1)).below hb5; obtain ⟨hc5, hf5⟩ := bcell hb5) | (refine step_calls rfl 102 _ _ rfl #[.pointer (some ⟨R, 0, none⟩), .agg #[.int .i64 N.kind, .int .i64 N.tag, .int .i64 N.mode, .slice ka N.kids.length kc], .int .i64 0, .int .i64 (own N.kind), .agg #[.int .i64 hc2, .bool hb2, .int .i64 hn2, .int .i64 z2, .int .i64 l2], .int .i64 ((x : Int) + z), .int .i64 ((x : Int) + z + z2 + l2), .int .i64 dp] (by simp [Act.eval, Act.put, hwr]) (.tuple #[]) (fun w' => ∃ tree' e' p', RdI W w' R (some ⟨b, o, none⟩) s.length c data tree' e' p' ∧ BareL N.kind 0 (own N.kind) ⟨hc2, hb2, hn2, z2, l2⟩ data (x + z) z2 (x + z + z2 + l2) dp tree p tree' e' p' ∧ Fr R w5 w') (RUNB.out _ _) (BA2.out _ hI5) ?_; rintro w6 ⟨tree', e', p', hI6, hB6, hf6⟩))
            all_goals
              clear hc5 hf5 hb5 hf6
              go_wp2_with fail
              go_meet
              exact ⟨tree', e', p', hI6, hB6⟩
          case rest =>
            obtain ⟨tree', e', p', hI6, hB6⟩ := hcut
            obtain ⟨w6, hw6⟩ : ∃ w6, w6 = wc := ⟨_, rfl⟩
            subst hw6
            have HB6 : Hid (BareL N.kind 0 (own N.kind) ⟨hc2, hb2, hn2, z2, l2⟩ data (x + z) z2 (x + z + z2 + l2) dp tree p tree' e' p') := hB6
            have HI6 : Hid (RdI W w6 R (some ⟨b, o, none⟩) s.length c data tree' e' p') := hI6
            have HC := nodeC HK.out HH.out HT.out HM0.out ⟨HQ.out.1, HQ.out.2.1, rfl⟩ HD.out HK2.out HH2.out hB6
            have HCH : Hid ((x + z + z2 + l2 = x + z + l → NodeD N data x y dp tree tree' ((x : Int) + z + l) e') ∧ (x + z + z2 + l2 ≠ x + z + l → ∀ tq u, ¬ NodeAt N data x y dp tq u) ∧ (e' ≠ 0 → ∀ tq u, ¬ NodeAt N data x y dp tq u)) := HC
            obtain ⟨_, _, vt6, hr6, _⟩ := hI6
            unfold rdObj at hr6
            have r6 : w6.cell? ⟨R, 3, none⟩ = some (.int .i64 e') := by simp [World.cell?, hr6]
            clear hB6 HC hr6 p0 p1 p2 p3 g3 r33
            by_cases he : e' = 0
            · subst he
              by_cases hbe : z2 + l2 = l
              · have hbe' : (x : Int) + z + l ≤ (x : Int) + z + z2 + l2 := by omega
                go_wp2
                go_ret
                exact ⟨_, tree', 0, p', rfl, HI6.out, HCH.out.1 (by omega)⟩
              · have hbe' : (x : Int) + z + z2 + l2 < (x : Int) + z + l := by omega
                have HNE : Hid (x + z + z2 + l2 ≠ x + z + l) := by show x + z + z2 + l2 ≠ x + z + l; omega
                go_wp2_with fail
                refine (stop_first W _ R _ s.length c data tree' p' 7 ((x : Int) + z + z2 + l2) HI6.out).mono ?_
                rintro e w7 ⟨rfl, hI7, _⟩
                have HI7 : Hid (RdI W w7 R (some ⟨b, o, none⟩) s.length c data tree' 7 ((x : Int) + z + z2 + l2)) := hI7
                clear hI7
                go_wp2
                go_ret
                exact ⟨_, tree', 7, _, rfl, HI7.out, .inr ⟨by decide, HCH.out.2.1 HNE.out⟩⟩
            · have he' : (e' == 0) = false := by simp [he]
              have HE : Hid (e' ≠ 0) := he
              clear he
              go_wp2
              go_ret
              exact ⟨_, tree', e', p', rfl, HI6.out, .inr ⟨HE.out, HCH.out.2.2 HE.out⟩⟩
        · have HK0 : Hid (k2 ≠ 0) := hk20
          have e2 : (k2 != 0) = true := by simp [hk20]
          have HI4 : Hid (∀ o1, RdI W (w3.alloc o1) R (some ⟨b, o, none⟩) s.length c data tree k2 (if k2 = 0 then p else ((x + z : Nat) : Int))) := fun o1 => HI3.out.below ((Below.refl _ _).alloc (Nat.le_refl _) _)
          clear hk20
          go_wp2
          go_ret
          exact ⟨y, tree, k2, _, rfl, HI4.out _, .inr ⟨HK0.out, fun tq u q => HK0.out (HK2.out.symm.trans (nodeC_no HH.out HT.out HM0.out q).2.2.2.2.2.1)⟩⟩
    · have HQ : Hid (¬ (hc = 2 ∧ hn = N.tag ∧ hb = true)) := q
      have q' : (hc != 2) = true ∨ ((hc != 2) = false ∧ (hn != N.tag) = true) ∨ ((hc != 2) = false ∧ (hn != N.tag) = false ∧ hb = false) := by
        by_cases q1 : hc = 2
        · by_cases q2 : hn = N.tag
          · right; right
            refine ⟨by simp [q1], by simp [q2], ?_⟩
            cases hb
            · rfl
            · exact absurd ⟨q1, q2, rfl⟩ q
          · right; left; exact ⟨by simp [q1], by simp [q2]⟩
        · left; simp [q1]
      clear q
      rcases q' with e1 | ⟨e1, e2⟩ | ⟨e1, e2, rfl⟩
      · go_wp2_with fail
        refine (stop_first W _ R _ s.length c data tree p 4 x (HI2.out _)).mono ?_
        rintro e w3 ⟨rfl, hI3, _⟩
        have HI3 : Hid (RdI W w3 R (some ⟨b, o, none⟩) s.length c data tree 4 x) := hI3
        clear hI3
        go_wp2
        go_ret
        exact ⟨y, tree, 4, x, rfl, HI3.out, .inr ⟨by decide, fun tq u q => HQ.out ⟨(nodeC_no HH.out HT.out HM0.out q).2.1, (nodeC_no HH.out HT.out HM0.out q).2.2.1, (nodeC_no HH.out HT.out HM0.out q).2.2.2.1⟩⟩⟩
      · go_wp2_with fail
        refine (stop_first W _ R _ s.length c data tree p 4 x (HI2.out _)).mono ?_
        rintro e w3 ⟨rfl, hI3, _⟩
        have HI3 : Hid (RdI W w3 R (some ⟨b, o, none⟩) s.length c data tree 4 x) := hI3
        clear hI3
        go_wp2
        go_ret
        exact ⟨y, tree, 4, x, rfl, HI3.out, .inr ⟨by decide, fun tq u q => HQ.out ⟨(nodeC_no HH.out HT.out HM0.out q).2.1, (nodeC_no HH.out HT.out HM0.out q).2.2.1, (nodeC_no HH.out HT.out HM0.out q).2.2.2.1⟩⟩⟩
      · go_wp2_with fail
        refine (stop_first W _ R _ s.length c data tree p 4 x (HI2.out _)).mono ?_
        rintro e w3 ⟨rfl, hI3, _⟩
        have HI3 : Hid (RdI W w3 R (some ⟨b, o, none⟩) s.length c data tree 4 x) := hI3
        clear hI3
        go_wp2
        go_ret
        exact ⟨y, tree, 4, x, rfl, HI3.out, .inr ⟨by decide, fun tq u q => HQ.out ⟨(nodeC_no HH.out HT.out HM0.out q).2.1, (nodeC_no HH.out HT.out HM0.out q).2.2.1, (nodeC_no HH.out HT.out HM0.out q).2.2.2.1⟩⟩⟩
  · have HK0 : Hid (k1 ≠ 0) := hk0
    have e0 : (k1 != 0) = true := by simp [hk0]
    have HI1' : Hid (RdI W w1 R (some ⟨b, o, none⟩) s.length c data tree k1 x) := by have := HI1.out; rw [if_neg hk0] at this; exact this
    have HI3 : Hid (∀ o1, RdI W (w1.alloc o1) R (some ⟨b, o, none⟩) s.length c data tree k1 x) := fun o1 => HI1'.out.below ((Below.refl _ _).alloc (Nat.le_refl _) _)
    clear hk0
    go_wp2
    go_ret
    exact ⟨y, tree, k1, x, rfl, HI3.out _, .inr ⟨HK0.out, fun tq u q => HK0.out (HK.out.symm.trans (HX.out tq u q))⟩⟩
end Go.Proofs.YtkkicodfpekbgaaGreatDoor
