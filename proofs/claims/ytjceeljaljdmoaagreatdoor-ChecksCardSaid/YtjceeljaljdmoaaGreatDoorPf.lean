/-
  schemas.layers: what the heads of an element say.
-/
import Derived.Test.YtjceeljaljdmoaaGreatDoorPe
import Derived.Test.YtjceeljaljdmoaaGreatDoorAp
namespace Go.Proofs.YtjceeljaljdmoaaGreatDoor
open Go.RowKit

/-- The heads' first bytes, the outermost first. -/
def Nd.lays (n : Nd) : List (Int × Int × Bool) := if n.mode = 1 then [(2, n.tag, true), (n.ownT.1, n.ownT.2, false)] else [(n.ownT.1, n.ownT.2, false)]
def lcells (l : List (Int × Int × Bool)) : List Value := l.flatMap fun t => [.int .i64 t.1, .int .i64 t.2.1, .bool t.2.2]

set_option maxHeartbeats 2000000 in
set_option maxRecDepth 100000 in
theorem layers_any (n : Nd) (ka : Option Addr) (kc : Nat) (w : World) (hn : Nums w) (ht : -1 ≤ n.tag) (hk : 0 ≤ n.kind) (hk' : n.kind ≤ 9) (hm1 : n.mode = 1 → 0 ≤ n.tag) :
    Calls Tryz.prog 132 #[.agg #[.int .i64 n.kind, .int .i64 n.tag, .int .i64 n.mode, .slice ka n.kids.length kc]] w fun e w' => ∃ g, e = .returned (.slice (some ⟨g, 0, none⟩) n.lays.length n.lays.length) ∧ (∃ T, w'.heap[g]? = some (.cells (lcells n.lays).toArray T (0, 0))) ∧ Below w.heap.size w w' := by
  have HO : Hid (∀ wq, Below w.heap.size w wq → Calls Tryz.prog 118 #[.agg #[.int .i64 n.kind, .int .i64 n.tag, .int .i64 n.mode, .slice ka n.kids.length kc]] wq fun e w' => e = .returned (.agg #[.int .i64 n.ownT.1, .int .i64 n.ownT.2, .bool false]) ∧ Below wq.heap.size wq w') := fun wq q => own_first n ka kc wq (hn.below q) ht hk hk'
  by_cases hm : n.mode = 1
  · have HA : Hid (∀ wq, Below w.heap.size w wq → Calls Tryz.prog 84 #[.agg #[.int .i64 n.kind, .int .i64 n.tag, .int .i64 n.mode, .slice ka n.kids.length kc]] wq fun e w' => e = .returned (.tuple #[.agg #[.int .i64 2, .int .i64 n.tag, .bool true], .bool true]) ∧ Below wq.heap.size wq w') := fun wq q => around_yes n ka kc wq hm (hn.below q) (hm1 hm) hk
    have e : n.lays = [(2, n.tag, true), (n.ownT.1, n.ownT.2, false)] := by unfold Nd.lays; rw [if_pos hm]
    rw [e]
    have RUN : Hid (∀ args w, (callFunc 118 args).run Tryz.prog w = .ok (.enter 118 args) w) := fun args w => run_enter Tryz.func118 (by kernel_rfl) (by rfl) args w
    clear hm hn hm1 e
    go_enter Tryz.func132, Tryz.ntmps132
    go_wp2_with fail
    refine (HA.out _ ((Below.refl _ _).alloc (Nat.le_refl _) _)).mono ?_
    rintro e w1 ⟨rfl, hb1⟩
    have HB1 : Hid (Below w.heap.size w w1) := below_alloc hb1
    have hG := block_below (heap_alloc_new w (.cells #[.int .i64 n.kind, .int .i64 n.tag, .int .i64 n.mode, .slice ka n.kids.length kc] 58)) hb1
    have hs1 := lt_of_block hG
    have p0 : w1.cell? ⟨w.heap.size, 0, none⟩ = some (.int .i64 n.kind) := by simp [World.cell?, hG]
    have p1 : w1.cell? ⟨w.heap.size, 1, none⟩ = some (.int .i64 n.tag) := by simp [World.cell?, hG]
    have p2 : w1.cell? ⟨w.heap.size, 2, none⟩ = some (.int .i64 n.mode) := by simp [World.cell?, hG]
    have p3 : w1.cell? ⟨w.heap.size, 3, none⟩ = some (.slice ka n.kids.length kc) := by simp [World.cell?, hG]
    have HB2 : Hid (∀ o, Below w.heap.size w (w1.alloc o).drew) := fun o => (HB1.out.alloc HB1.out.size o).drew
    clear hb1 hG
    go_wp2_with fail
    go_region_law (refine step_calls rfl 118 _ _ rfl #[.agg #[.int .i64 n.kind, .int .i64 n.tag, .int .i64 n.mode, .slice ka n.kids.length kc]] (by simp [Act.eval, Act.put]) (.agg #[.int .i64 n.ownT.1, .int .i64 n.ownT.2, .bool false]) (fun w'' => Below ((w1.alloc (.cells #[.int .i64 2, .int .i64 n.tag, .bool true] 123)).drew).heap.size ((w1.alloc (.cells #[.int .i64 2, .int .i64 n.tag, .bool true] 123)).drew) w'') (RUN.out _ _) (HO.out _ (HB2.out _)) ?_; intro w5 hb5; have HB5 := (HB2.out _).trans (hb5.mono (HB2.out _).size); have hF := block_below (heap_alloc_new w1.drew (.cells #[.int .i64 2, .int .i64 n.tag, .bool true] 123)) hb5; have t0 : w5.cell? ⟨w1.heap.size, 0, none⟩ = some (.int .i64 2) := (by simp [World.cell?] at hF ⊢; simp [hF]); have t1 : w5.cell? ⟨w1.heap.size, 1, none⟩ = some (.int .i64 n.tag) := (by simp [World.cell?] at hF ⊢; simp [hF]); have t2 : w5.cell? ⟨w1.heap.size, 2, none⟩ = some (.bool true) := (by simp [World.cell?] at hF ⊢; simp [hF]); clear hb5 hF)
    all_goals
      have HB6 : Hid (Below w.heap.size w w5) := HB5
      clear HB5
      go_wp2
      go_ret
      exact ⟨w5.heap.size, rfl, ⟨_, heap_alloc_new w5 _⟩, HB6.out.alloc HB6.out.size _⟩
  · have HA : Hid (∀ wq, Calls Tryz.prog 84 #[.agg #[.int .i64 n.kind, .int .i64 n.tag, .int .i64 n.mode, .slice ka n.kids.length kc]] wq fun e w' => e = .returned (.tuple #[.agg #[.int .i64 0, .int .i64 0, .bool false], .bool false]) ∧ Below wq.heap.size wq w') := fun wq => around_no n ka kc wq hm
    have e : n.lays = [(n.ownT.1, n.ownT.2, false)] := by unfold Nd.lays; rw [if_neg hm]
    rw [e]
    clear hm hn hm1 e
    go_enter Tryz.func132, Tryz.ntmps132
    go_wp2_with fail
    refine (HA.out _).mono ?_
    rintro e w1 ⟨rfl, hb1⟩
    have HB1 : Hid (Below w.heap.size w w1) := below_alloc hb1
    have hG := block_below (heap_alloc_new w (.cells #[.int .i64 n.kind, .int .i64 n.tag, .int .i64 n.mode, .slice ka n.kids.length kc] 58)) hb1
    have hs1 := lt_of_block hG
    have p0 : w1.cell? ⟨w.heap.size, 0, none⟩ = some (.int .i64 n.kind) := by simp [World.cell?, hG]
    have p1 : w1.cell? ⟨w.heap.size, 1, none⟩ = some (.int .i64 n.tag) := by simp [World.cell?, hG]
    have p2 : w1.cell? ⟨w.heap.size, 2, none⟩ = some (.int .i64 n.mode) := by simp [World.cell?, hG]
    have p3 : w1.cell? ⟨w.heap.size, 3, none⟩ = some (.slice ka n.kids.length kc) := by simp [World.cell?, hG]
    clear hb1 hG
    go_wp2_with fail
    refine (HO.out _ (HB1.out.alloc HB1.out.size _)).mono ?_
    rintro e w2 ⟨rfl, hb2⟩
    have HB2 : Hid (Below w.heap.size w w2) := HB1.out.trans ((below_alloc hb2).mono HB1.out.size)
    clear hb2
    go_wp2
    go_ret
    exact ⟨w2.heap.size, rfl, ⟨_, heap_alloc_new w2 _⟩, HB2.out.alloc HB2.out.size _⟩
end Go.Proofs.YtjceeljaljdmoaaGreatDoor
