/-
  schemas.ownTag, outerTag: what they answer, where the table of own numbers lies.
-/
import Derived.Test.YtjceeljaljdmoaaGreatDoorSo
import Derived.Test.YtjceeljaljdmoaaGreatDoorSl
namespace Go.Proofs.YtjceeljaljdmoaaGreatDoor
open Go.RowKit

/-- The table of the kinds' own numbers lies. -/
def Nums (w : World) : Prop := ∀ j : Nat, j ≤ 12 → w.cell? ⟨14, j, none⟩ = some (.int .i64 (own j))
theorem Nums.below {w w' : World} (h : Nums w) (hb : Below w.heap.size w w') : Nums w' := fun j hj => (hb.cell (lt_of_cell (h j hj))).trans (h j hj)

set_option maxHeartbeats 1000000 in
set_option maxRecDepth 100000 in
theorem ownTag_any (k : Int) (h : 0 ≤ k) (h' : k ≤ 12) (w : World) (hn : Nums w) :
    Calls Tryz.prog 139 #[.int .i64 k] w fun e w' => e = .returned (.agg #[.int .i64 0, .int .i64 (own k)]) ∧ Below w.heap.size w w' := by
  obtain ⟨n, rfl⟩ : ∃ n : Nat, k = n := ⟨k.toNat, by omega⟩
  have c := hn n (by omega)
  have hl := lt_of_cell c
  simp only at hl
  clear hn
  have h13 : (n : Int) < 13 := by omega
  go_enter Tryz.func139, Tryz.ntmps139
  go_wp2
  refine bodyPost_ret (v := .agg #[.int .i64 0, .int .i64 (own n)]) (by simp [results, Tryz.results139, go_sem]) rfl ⟨rfl, ?_⟩
  exact (Below.refl _ _).alloc (Nat.le_refl _) _

set_option maxHeartbeats 1000000 in
set_option maxRecDepth 100000 in
theorem outerTag_any (n : Nd) (ka : Option Addr) (kc : Nat) (w : World) (hn : Nums w) (ht : -1 ≤ n.tag) (hk : 0 ≤ n.kind) (hk' : n.tag < 0 → n.kind ≤ 12) :
    Calls Tryz.prog 99 #[.agg #[.int .i64 n.kind, .int .i64 n.tag, .int .i64 n.mode, .slice ka n.kids.length kc]] w fun e w' => e = .returned (.agg #[.int .i64 n.outer.1, .int .i64 n.outer.2]) ∧ Below w.heap.size w w' := by
  by_cases h : 0 ≤ n.tag
  · have e : n.outer = (2, n.tag) := by unfold Nd.outer; rw [if_pos h]
    have h1 : (n.tag != -1) = true := by rw [bne_iff_ne]; omega
    rw [e]
    clear e hk' hn
    go_enter Tryz.func99, Tryz.ntmps99
    go_wp2
    refine bodyPost_ret (v := .agg #[.int .i64 2, .int .i64 n.tag]) (by simp [results, Tryz.results99, go_sem]) rfl ⟨rfl, ?_⟩
    exact ((Below.refl _ _).alloc (Nat.le_refl _) _).alloc (by simp) _
  · have e : n.outer = (0, own n.kind) := by unfold Nd.outer; rw [if_neg h]
    have h1 : (n.tag != -1) = false := by rw [bne_eq_false_iff_eq]; omega
    have HC : Hid (∀ w, Nums w → Calls Tryz.prog 139 #[.int .i64 n.kind] w fun e w' => e = .returned (.agg #[.int .i64 0, .int .i64 (own n.kind)]) ∧ Below w.heap.size w w') := fun w q => ownTag_any n.kind hk (hk' (by omega)) w q
    have HN : Hid (∀ o1 o2, Nums ((w.alloc o1).alloc o2)) := fun o1 o2 => hn.below (((Below.refl _ _).alloc (Nat.le_refl _) _).alloc (by simp) _)
    rw [e]
    clear e hk' hn
    go_enter Tryz.func99, Tryz.ntmps99
    go_wp2_with fail
    refine (HC.out _ (HN.out _ _)).mono ?_
    rintro e w1 ⟨rfl, hb⟩
    have HB : Hid (Below w.heap.size w w1) := below_alloc (below_alloc hb)
    have hG : w1.heap[w.heap.size + 1]? = some (.cells #[.int .i64 0, .int .i64 0] 121 (0, 0)) := block_below (by simpa using heap_alloc_new (w.alloc _) _) hb
    have q0 : w1.cell? ⟨w.heap.size + 1, 0, none⟩ = some (.int .i64 0) := by simp [World.cell?, hG]
    have q1 : w1.cell? ⟨w.heap.size + 1, 1, none⟩ = some (.int .i64 0) := by simp [World.cell?, hG]
    have f0 : w1.frozen? ⟨w.heap.size + 1, 0, none⟩ = false := by simp [World.frozen?, hG]
    have f1 : w1.frozen? ⟨w.heap.size + 1, 1, none⟩ = false := by simp [World.frozen?, hG]
    clear hb hG
    go_wp2
    refine bodyPost_ret (v := .agg #[.int .i64 0, .int .i64 (own n.kind)]) (by simp [results, Tryz.results99, go_sem, q0, q1]) rfl ⟨rfl, ?_⟩
    exact (HB.out.setCell (p := ⟨w.heap.size + 1, 0, none⟩) (by simp) _).setCell (p := ⟨w.heap.size + 1, 1, none⟩) (by simp) _
end Go.Proofs.YtjceeljaljdmoaaGreatDoor
