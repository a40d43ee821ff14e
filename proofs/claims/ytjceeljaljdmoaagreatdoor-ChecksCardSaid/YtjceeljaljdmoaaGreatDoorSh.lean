/-
  hallmarklaw.copied: a schema like another, with lists of its own.
-/
import Derived.Test.YtjceeljaljdmoaaGreatDoorSg
namespace Go.Proofs.YtjceeljaljdmoaaGreatDoor
open Go.RowKit

def Tryz.zeroNode : Value := .agg #[.int .i64 0, .int .i64 0, .int .i64 0, .slice none 0 0]
theorem Tryz.infoNode : (Tryz.prog.info? 58).map (fun i => (i.zero, i.size, i.bytes)) = some (some Tryz.zeroNode, 4, 48) := by kernel_rfl
def Tryz.zeroKid : Value := .agg #[.int .i64 0, .bool false, .string ⟨#[]⟩]
theorem Tryz.infoKid : (Tryz.prog.info? 55).map (fun i => (i.zero, i.size, i.bytes)) = some (some Tryz.zeroKid, 3, 32) := by kernel_rfl

set_option maxHeartbeats 4000000 in
set_option maxRecDepth 100000 in
theorem copied_any (s : List Nd) (a : Option Addr) (c : Nat) (w : World) (hs : Sch w a s) (hn : s.length * 48 ≤ 140737488351232) (hkn : ∀ i, i < s.length → (nd s i).kids.length * 32 ≤ 140737488351232) :
    Calls Tryz.prog 9 #[.slice a s.length c] w fun e w' => ∃ vout, e = .returned vout ∧ CpW s w w' s.length vout := by
  have HS : Hid (Sch w a s) := hs
  have HKN : Hid (∀ i, i < s.length → (nd s i).kids.length * 32 ≤ 140737488351232) := hkn
  clear hs hkn
  obtain ⟨iN, hiN, hzN0, hzN1, hzN2⟩ := info_parts Tryz.infoNode
  obtain ⟨iK, hiK, hzK0, hzK1, hzK2⟩ := info_parts Tryz.infoKid
  go_enter Tryz.func9, Tryz.ntmps9
  go_wp2
  go_loopw [3, 4] (fun vout vi wr => ∃ k : Nat, k ≤ s.length ∧ vi = .int .i64 k ∧ CpW s w wr k vout) (fun _ vi _ => s.length - (intOf vi).toNat)
  case atStart => exact ⟨0, Nat.zero_le _, rfl, Below.refl _ _, fun _ => .slice none 0 0, World.ownsRow_nil _ _ _ _, fun i hi => absurd hi (Nat.not_lt_zero _)⟩
  case round =>
    obtain ⟨k, hk, rfl, hC⟩ := hrel
    have HC : Hid (CpW s w wr k u3) := hC
    by_cases hlt : k < s.length
    · have hlt' : (k : Int) < s.length := by omega
      have hkb := HKN.out k hlt
      obtain ⟨b, o, ka, kc, rfl, nc, kl, km, ks⟩ := HS.out k hlt
      obtain ⟨n1, n2, n3, n4⟩ := nc.below hC.bel
      have KS : Hid (KidsIn w ka (nd s k).kids) := ks
      have HN4 : Hid (w.cell? ⟨b, o + k * 4 + 3, none⟩ = some (.slice ka (nd s k).kids.length kc)) := nc.kids
      clear hC nc ks
      go_wp2
      obtain ⟨w0, hw0⟩ : ∃ w0, w0 = wr := ⟨_, rfl⟩
      subst hw0
      obtain ⟨Bn, hBn⟩ : ∃ Bn, Bn = w0.heap.size := ⟨_, rfl⟩
      have HBN : Hid (Bn = w0.heap.size) := hBn
      rw [← hBn]
      clear hBn
      go_loopw [6] (fun vj wx => ∃ (j : Nat) (vk : Value), vj = .int .i64 j ∧ j ≤ (nd s k).kids.length ∧ Hid (wx.heap[Bn]? = some (.cells #[.int .i64 (nd s k).kind, .int .i64 (nd s k).tag, .int .i64 (nd s k).mode, vk] 58 (0, 0))) ∧ Hid (wx.ownsRow (Bn + 1) 55 3 vk j (kcells ((nd s k).kids.take j))) ∧ Hid (Below Bn w0 wx)) (fun vj _ => (nd s k).kids.length - (intOf vj).toNat)
      case atStart =>
        obtain rfl := HBN.out
        exact ⟨0, _, rfl, Nat.zero_le _, heap_alloc_new w0 _, World.ownsRow_nil _ _ _ _, (Below.refl _ _).alloc (Nat.le_refl _) _⟩
      case round =>
        obtain ⟨j, vk, rfl, hj, HB, HO, HBL⟩ := hrel
        obtain ⟨va, vc, rfl, hva⟩ := own_form2 HO.out
        have HBW : Hid (Below w.heap.size w wr) := HC.out.bel.trans (by have := HBL.out; rw [HBN.out] at this; exact this.mono HC.out.bel.size)
        have g3 : wr.cell? ⟨Bn, 3, none⟩ = some (.slice va j vc) := by simp [World.cell?, HB.out]
        have f3 : wr.frozen? ⟨Bn, 3, none⟩ = false := by simp [World.frozen?, HB.out]
        have g0 : wr.cell? ⟨Bn, 0, none⟩ = some (.int .i64 (nd s k).kind) := by simp [World.cell?, HB.out]
        have g1 : wr.cell? ⟨Bn, 1, none⟩ = some (.int .i64 (nd s k).tag) := by simp [World.cell?, HB.out]
        have g2 : wr.cell? ⟨Bn, 2, none⟩ = some (.int .i64 (nd s k).mode) := by simp [World.cell?, HB.out]
        have hBl := lt_of_cell g3
        simp only at hBl
        have e4 : wr.cell? ⟨b, o + k * 4 + 3, none⟩ = some (.slice ka (nd s k).kids.length kc) := (HBW.out.cell (lt_of_cell HN4.out)).trans HN4.out
        have hkm : (nd s k).kids.length ≤ 9223372036854775807 := by omega
        have hszB : Bn ≤ wr.heap.size := by omega
        clear hva
        by_cases hjl : j < (nd s k).kids.length
        · obtain ⟨kb, ko, rfl, kcl⟩ := KS.out j hjl
          obtain ⟨y, hy⟩ : ∃ y, (nd s k).kids.getD j kd0 = y := ⟨_, rfl⟩
          have HY : Hid ((nd s k).kids.take (j + 1) = (nd s k).kids.take j ++ [y]) := by show (nd s k).kids.take (j + 1) = _; rw [List.take_add_one, List.getElem?_eq_getElem hjl, ← hy]; simp [hjl]
          rw [hy] at kcl
          obtain ⟨k1, k2, k3⟩ := kcl.below HBW.out
          have hjl' : (j : Int) < (nd s k).kids.length := by omega
          have NEB : Hid ((Value.slice va j vc).ownBlock ≠ some Bn) := fun e => by have := (HO.out.lt Bn e).1; omega
          clear kcl hy
          go_wp2_with fail
          have hszB1 : Bn + 1 ≤ (wr.drew.alloc (.cells #[.int .i64 y.node, .bool y.opt, .string y.dflt] 55)).heap.size := by simp; omega
          go_region_law (refine step_append_lies _ rfl (.tmp 29) (.tmp 38) 56 rfl (Bn + 1) 55 iK Tryz.zeroKid 3 32 Tryz.underlying56 hiK hzK0 hzK1 hzK2 rfl (by decide) (.slice va j vc) j (kcells ((nd s k).kids.take j)) (by simp [Act.eval, Act.put]) (HO.out.drew.alloc _) ⟨wr.heap.size, 0, none⟩ 1 1 y.cells (by simp [Act.eval, Act.put]) rfl (World.news_of_block (heap_alloc_new wr.drew _)) (by intro u hu; unfold Kd.cells at hu; simp at hu; rcases hu with rfl | rfl | rfl <;> rfl) (by decide) (by unfold maxLen; omega) (by omega) hszB1 (wr.heap.size + 1) (by simp) ?_; intro g cap w3 h1 h2 h3 h4; have hG3 := keep_other (w := wr.drew) HB.out NEB.out h2; have hB3 := (HBL.out.drew.alloc (by exact hszB) _).grown h2 (Nat.le_trans hszB (by simp)) (fun q hq => by have := (HO.out.lt q hq).1; omega); have d3 : w3.cell? ⟨Bn, 3, none⟩ = some (.slice va j vc) := (by simp [World.cell?, hG3]); have e3 : w3.frozen? ⟨Bn, 3, none⟩ = false := (by simp [World.frozen?, hG3]))
          all_goals
            have HG4 : Hid ((w3.setCell ⟨Bn, 3, none⟩ (.slice (some ⟨g, 0, none⟩) (j + 1) cap)).heap[Bn]? = some (.cells #[.int .i64 (nd s k).kind, .int .i64 (nd s k).tag, .int .i64 (nd s k).mode, .slice (some ⟨g, 0, none⟩) (j + 1) cap] 58 (0, 0))) := heap_setCell_same w3 Bn 3 _ _ _ hG3
            have HO4 : Hid ((w3.setCell ⟨Bn, 3, none⟩ (.slice (some ⟨g, 0, none⟩) (j + 1) cap)).ownsRow (Bn + 1) 55 3 (.slice (some ⟨g, 0, none⟩) (j + 1) cap) (j + 1) (kcells ((nd s k).kids.take (j + 1)))) := by
              show World.ownsRow _ _ _ _ _ _ _
              rw [HY.out, kcells_append]
              exact ownsRow_setCell_other h1 (fun e => by have := (h1.lt Bn e).1; omega) _
            have HB4 : Hid (Below Bn w0 (w3.setCell ⟨Bn, 3, none⟩ (.slice (some ⟨g, 0, none⟩) (j + 1) cap))) := hB3.setCell (p := ⟨Bn, 3, none⟩) (Nat.le_refl _) _
            clear h1 h2 h3 h4 hG3 hB3
            go_wp2
            go_roundw
            case rel => exact ⟨j + 1, _, by go_num, by omega, HG4, HO4, HB4⟩
            case measure => simp [intOf]; omega
        · have hjl' : ((nd s k).kids.length : Int) ≤ j := by omega
          obtain rfl : j = (nd s k).kids.length := by omega
          have hC' : CpW s w wr k u3 := HC.out.below (by have := HBL.out; rw [HBN.out] at this; exact this)
          obtain ⟨K, q1, q2⟩ := hC'.own
          have HQ1 : Hid (wr.ownsRow w.heap.size 58 4 u3 k (ncells s K k)) := q1
          have HQ2 : Hid (∀ i, i < k → wr.ownsRow w.heap.size 55 3 (K i) (nd s i).kids.length (kcells (nd s i).kids)) := q2
          have HQ3 : Hid (wr.ownsRow w.heap.size 55 3 (.slice va (nd s k).kids.length vc) (nd s k).kids.length (kcells (nd s k).kids)) := by
            have := HO.out
            rw [List.take_length] at this
            exact ownsRow_base this (by have := HC.out.bel.size; have := HBN.out; omega)
          have hszW : w.heap.size ≤ wr.heap.size + 1 := by have := HBW.out.size; omega
          clear hC' q1 q2
          go_wp2_with (at_builtin; refine wpList_append_lies _ rfl (.tmp 41) (.tmp 43) 22 rfl w.heap.size 58 iN Tryz.zeroNode 4 48 Tryz.underlying22 hiN hzN0 hzN1 hzN2 rfl (by decide) u3 k (ncells s K k) rfl (HQ1.out.alloc _) ⟨wr.heap.size, 0, none⟩ 1 1 (ncell (nd s k) (.slice va (nd s k).kids.length vc)) rfl rfl (World.news_of_block (heap_alloc_new wr _)) (by intro u hu; unfold ncell at hu; simp at hu; rcases hu with rfl | rfl | rfl | rfl <;> rfl) (by decide) (by unfold maxLen; omega) (by omega) (by simpa using hszW) (wr.heap.size + 1) (by simp) ?_)
          intro g cap w3 h1 h2 h3 h4
          have HC3 : Hid (CpW s w w3 (k + 1) (.slice (some ⟨g, 0, none⟩) (k + 1) cap)) := CpW.put HBW.out HQ1.out HQ2.out HQ3.out h1 h2
          clear h1 h2 h3 h4
          go_wp2
          go_roundw
          case rel => exact ⟨k + 1, by omega, by go_num, HC3.out⟩
          case measure => simp [intOf]; omega
    · have hlt' : (s.length : Int) ≤ k := by omega
      obtain rfl : k = s.length := by omega
      clear hC
      go_wp2
      go_ret
      exact ⟨u3, rfl, HC.out⟩
end Go.Proofs.YtjceeljaljdmoaaGreatDoor
