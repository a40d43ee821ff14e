/-
  element.FirstOf, schemas.Around, schemas.Own: what they answer.
-/
import Derived.Test.YtjceeljaljdmoaaGreatDoorPb
import Derived.Test.YtjceeljaljdmoaaGreatDoorPr
namespace Go.Proofs.YtjceeljaljdmoaaGreatDoor
open Go.RowKit

/-- What a head's first byte says, as Go's value. -/
def fv (c n : Int) (b : Bool) : Value := .agg #[.int .i64 c, .int .i64 n, .bool b]

set_option maxHeartbeats 1000000 in
set_option maxRecDepth 100000 in
theorem firstOf_any (c : Int) (b : Bool) (n z l : Int) (w : World) :
    Calls Tryz.prog 123 #[.agg #[.int .i64 c, .bool b, .int .i64 n, .int .i64 z, .int .i64 l]] w fun e w' => e = .returned (fv c n b) ∧ Below w.heap.size w w' := by
  unfold fv
  go_enter Tryz.func123, Tryz.ntmps123
  go_wp2
  refine bodyPost_ret (v := .agg #[.int .i64 c, .int .i64 n, .bool b]) (by simp [results, Tryz.results123, go_sem]) rfl ⟨rfl, ?_⟩
  exact ((Below.refl _ _).alloc (Nat.le_refl _) _).alloc (by simp) _

set_option maxHeartbeats 1000000 in
set_option maxRecDepth 100000 in
theorem around_no (n : Nd) (ka : Option Addr) (kc : Nat) (w : World) (hm : n.mode ≠ 1) :
    Calls Tryz.prog 84 #[.agg #[.int .i64 n.kind, .int .i64 n.tag, .int .i64 n.mode, .slice ka n.kids.length kc]] w fun e w' => e = .returned (.tuple #[fv 0 0 false, .bool false]) ∧ Below w.heap.size w w' := by
  have e : (n.mode != 1) = true := by simp [hm]
  unfold fv
  clear hm
  go_enter Tryz.func84, Tryz.ntmps84
  go_wp2
  refine bodyPost_ret (v := .tuple #[.agg #[.int .i64 0, .int .i64 0, .bool false], .bool false]) (by simp [results, Tryz.results84, go_sem]) rfl ⟨rfl, ?_⟩
  exact ((Below.refl _ _).alloc (Nat.le_refl _) _).alloc (by simp) _

theorem setCell3 {B : Nat} {w w1 : World} (h : Below B w w1) (b : Nat) (hb : B ≤ b) (v0 v1 v2 : Value) : Below B w (((w1.setCell ⟨b, 0, none⟩ v0).setCell ⟨b, 1, none⟩ v1).setCell ⟨b, 2, none⟩ v2) :=
  ((h.setCell (p := ⟨b, 0, none⟩) hb v0).setCell (p := ⟨b, 1, none⟩) hb v1).setCell (p := ⟨b, 2, none⟩) hb v2

set_option maxHeartbeats 1000000 in
set_option maxRecDepth 100000 in
theorem around_yes (n : Nd) (ka : Option Addr) (kc : Nat) (w : World) (hm : n.mode = 1) (hn : Nums w) (ht : 0 ≤ n.tag) (hk : 0 ≤ n.kind) :
    Calls Tryz.prog 84 #[.agg #[.int .i64 n.kind, .int .i64 n.tag, .int .i64 n.mode, .slice ka n.kids.length kc]] w fun e w' => e = .returned (.tuple #[fv 2 n.tag true, .bool true]) ∧ Below w.heap.size w w' := by
  have e : (n.mode != 1) = false := by simp [hm]
  have HC : Hid (∀ w', Nums w' → Calls Tryz.prog 99 #[.agg #[.int .i64 n.kind, .int .i64 n.tag, .int .i64 n.mode, .slice ka n.kids.length kc]] w' fun e w'' => e = .returned (.agg #[.int .i64 2, .int .i64 n.tag]) ∧ Below w'.heap.size w' w'') := fun w' q => by
    have := outerTag_any n ka kc w' q (by omega) hk (fun h => by omega)
    unfold Nd.outer at this
    rw [if_pos ht] at this
    exact this
  have HN : Hid (∀ o1 o2, Nums ((w.alloc o1).alloc o2)) := fun o1 o2 => hn.below (((Below.refl _ _).alloc (Nat.le_refl _) _).alloc (by simp) _)
  unfold fv
  clear hm hn
  go_enter Tryz.func84, Tryz.ntmps84
  go_wp2_with fail
  refine (HC.out _ (HN.out _ _)).mono ?_
  rintro e w1 ⟨rfl, hb⟩
  have HB : Hid (Below w.heap.size w w1) := below_alloc (below_alloc hb)
  have hG : w1.heap[w.heap.size + 1]? = some (.cells #[.int .i64 0, .int .i64 0, .bool false] 123 (0, 0)) := block_below (by simpa using heap_alloc_new (w.alloc _) _) hb
  have q0 : w1.cell? ⟨w.heap.size + 1, 0, none⟩ = some (.int .i64 0) := by simp [World.cell?, hG]
  have q1 : w1.cell? ⟨w.heap.size + 1, 1, none⟩ = some (.int .i64 0) := by simp [World.cell?, hG]
  have q2 : w1.cell? ⟨w.heap.size + 1, 2, none⟩ = some (.bool false) := by simp [World.cell?, hG]
  have f0 : w1.frozen? ⟨w.heap.size + 1, 0, none⟩ = false := by simp [World.frozen?, hG]
  have f1 : w1.frozen? ⟨w.heap.size + 1, 1, none⟩ = false := by simp [World.frozen?, hG]
  have f2 : w1.frozen? ⟨w.heap.size + 1, 2, none⟩ = false := by simp [World.frozen?, hG]
  clear hb hG
  go_wp2
  refine bodyPost_ret (v := .tuple #[.agg #[.int .i64 2, .int .i64 n.tag, .bool true], .bool true]) (by simp [results, Tryz.results84, go_sem, q0, q1, q2]) rfl ⟨rfl, ?_⟩
  exact setCell3 HB.out _ (by simp) _ _ _
/-- The own tag of a node, as class and number. -/
def Nd.ownT (n : Nd) : Int × Int := if n.mode = 0 ∧ 0 ≤ n.tag then (2, n.tag) else (0, own n.kind)

set_option maxHeartbeats 2000000 in
set_option maxRecDepth 100000 in
theorem own_first (n : Nd) (ka : Option Addr) (kc : Nat) (w : World) (hn : Nums w) (ht : -1 ≤ n.tag) (hk : 0 ≤ n.kind) (hk' : n.kind ≤ 9) :
    Calls Tryz.prog 118 #[.agg #[.int .i64 n.kind, .int .i64 n.tag, .int .i64 n.mode, .slice ka n.kids.length kc]] w fun e w' => e = .returned (fv n.ownT.1 n.ownT.2 false) ∧ Below w.heap.size w w' := by
  have HC : Hid (∀ w', Nums w' → Calls Tryz.prog 99 #[.agg #[.int .i64 n.kind, .int .i64 n.tag, .int .i64 n.mode, .slice ka n.kids.length kc]] w' fun e w'' => e = .returned (.agg #[.int .i64 n.outer.1, .int .i64 n.outer.2]) ∧ Below w'.heap.size w' w'') := fun w' q => outerTag_any n ka kc w' q ht hk (fun h => by omega)
  have HW : Hid (∀ w', Nums w' → Calls Tryz.prog 139 #[.int .i64 n.kind] w' fun e w'' => e = .returned (.agg #[.int .i64 0, .int .i64 (own n.kind)]) ∧ Below w'.heap.size w' w'') := fun w' q => ownTag_any n.kind hk (by omega) w' q
  have HN : Hid (∀ wq, Below w.heap.size w wq → Nums wq) := fun wq q => hn.below q
  have hk10 : n.kind < 10 := by omega
  have hd10 : decide (10 ≤ n.kind) = false := by simp; omega
  obtain ⟨T1, T2, hT⟩ : ∃ T1 T2, n.ownT = (T1, T2) := ⟨_, _, rfl⟩
  have HT : Hid (n.ownT = (T1, T2)) := hT
  rw [hT]
  unfold fv
  clear hn hT
  go_enter Tryz.func118, Tryz.ntmps118
  go_wp2_with fail
  refine (HW.out _ (HN.out _ (((Below.refl _ _).alloc (Nat.le_refl _) _).alloc (by simp) _))).mono ?_
  rintro e w1 ⟨rfl, hb⟩
  have HB : Hid (Below w.heap.size w w1) := below_alloc (below_alloc hb)
  have HG : Hid (w1.heap[w.heap.size + 1]? = some (.cells #[.int .i64 0, .int .i64 0, .bool false] 123 (0, 0))) := block_below (by simpa using heap_alloc_new (w.alloc _) _) hb
  have HG0 : Hid (w1.heap[w.heap.size]? = some (.cells #[.int .i64 n.kind, .int .i64 n.tag, .int .i64 n.mode, .slice ka n.kids.length kc] 58 (0, 0))) := block_below (block_below (heap_alloc_new w _) ((Below.refl _ _).alloc (Nat.le_refl _) _)) hb
  have hs1 : w.heap.size + 1 < w1.heap.size := by have := hb.size; simp at this; omega
  have hs0 : w.heap.size < w1.heap.size := by omega
  have p0 : w1.cell? ⟨w.heap.size, 0, none⟩ = some (.int .i64 n.kind) := by simp [World.cell?, HG0.out]
  have p1 : w1.cell? ⟨w.heap.size, 1, none⟩ = some (.int .i64 n.tag) := by simp [World.cell?, HG0.out]
  have p2 : w1.cell? ⟨w.heap.size, 2, none⟩ = some (.int .i64 n.mode) := by simp [World.cell?, HG0.out]
  have p3 : w1.cell? ⟨w.heap.size, 3, none⟩ = some (.slice ka n.kids.length kc) := by simp [World.cell?, HG0.out]
  have q0 : w1.cell? ⟨w.heap.size + 1, 0, none⟩ = some (.int .i64 0) := by simp [World.cell?, HG.out]
  have q1 : w1.cell? ⟨w.heap.size + 1, 1, none⟩ = some (.int .i64 0) := by simp [World.cell?, HG.out]
  have q2 : w1.cell? ⟨w.heap.size + 1, 2, none⟩ = some (.bool false) := by simp [World.cell?, HG.out]
  have f0 : w1.frozen? ⟨w.heap.size + 1, 0, none⟩ = false := by simp [World.frozen?, HG.out]
  have f1 : w1.frozen? ⟨w.heap.size + 1, 1, none⟩ = false := by simp [World.frozen?, HG.out]
  have f2 : w1.frozen? ⟨w.heap.size + 1, 2, none⟩ = false := by simp [World.frozen?, HG.out]
  clear hb
  by_cases hm : n.mode = 0
  · have e0 : (n.mode == 0) = true := by simp [hm]
    have HE : Hid (n.ownT = n.outer) := by
      show n.ownT = n.outer
      unfold Nd.ownT Nd.outer
      by_cases q : 0 ≤ n.tag
      · rw [if_pos ⟨hm, q⟩, if_pos q]
      · rw [if_neg (fun r => q r.2), if_neg q]
    obtain ⟨rfl, rfl⟩ : T1 = n.outer.1 ∧ T2 = n.outer.2 := by rw [← HE.out, HT.out]; exact ⟨rfl, rfl⟩
    clear hm
    go_wp2_with fail
    refine (HC.out _ (HN.out _ (HB.out.alloc HB.out.size _))).mono ?_
    rintro e w2 ⟨rfl, hb2⟩
    have HB2 : Hid (Below w.heap.size w w2) := HB.out.trans ((below_alloc hb2).mono HB.out.size)
    have hA : w2.heap[w1.heap.size]? = some (.cells #[.int .i64 0, .int .i64 (own n.kind)] 121 (0, 0)) := block_below (heap_alloc_new w1 _) hb2
    have hG2 := block_below HG.out (below_alloc hb2)
    have hG02 := block_below HG0.out (below_alloc hb2)
    have hs2 : w1.heap.size < w2.heap.size := by have := hb2.size; simp at this; omega
    have t0 : w2.cell? ⟨w1.heap.size, 0, none⟩ = some (.int .i64 0) := by simp [World.cell?, hA]
    have t1 : w2.cell? ⟨w1.heap.size, 1, none⟩ = some (.int .i64 (own n.kind)) := by simp [World.cell?, hA]
    have t2 : w2.frozen? ⟨w1.heap.size, 0, none⟩ = false := by simp [World.frozen?, hA]
    have t3 : w2.frozen? ⟨w1.heap.size, 1, none⟩ = false := by simp [World.frozen?, hA]
    have r0 : w2.cell? ⟨w.heap.size + 1, 0, none⟩ = some (.int .i64 0) := by simp [World.cell?, hG2]
    have r1 : w2.cell? ⟨w.heap.size + 1, 1, none⟩ = some (.int .i64 0) := by simp [World.cell?, hG2]
    have r2 : w2.cell? ⟨w.heap.size + 1, 2, none⟩ = some (.bool false) := by simp [World.cell?, hG2]
    have g0 : w2.frozen? ⟨w.heap.size + 1, 0, none⟩ = false := by simp [World.frozen?, hG2]
    have g1 : w2.frozen? ⟨w.heap.size + 1, 1, none⟩ = false := by simp [World.frozen?, hG2]
    have g2 : w2.frozen? ⟨w.heap.size + 1, 2, none⟩ = false := by simp [World.frozen?, hG2]
    have d0 : w2.cell? ⟨w.heap.size, 0, none⟩ = some (.int .i64 n.kind) := by simp [World.cell?, hG02]
    have hne1 : ¬ w1.heap.size = w.heap.size + 1 := by omega
    have hne0 : ¬ w1.heap.size = w.heap.size := by omega
    have hne2 : ¬ w.heap.size + 1 = w1.heap.size := by omega
    have hne3 : ¬ w.heap.size = w1.heap.size := by omega
    clear hb2 hA hG2 hG02 p0 p1 p2 p3 q0 q1 q2 f0 f1 f2
    go_wp2
    refine bodyPost_ret (v := .agg #[.int .i64 n.outer.1, .int .i64 n.outer.2, .bool false]) (by simp [results, Tryz.results118, go_sem, r0, r1, r2, t0, t1, hne1, hne2, hd10]) rfl ⟨rfl, ?_⟩
    exact setCell3 ((HB2.out.setCell (p := ⟨w1.heap.size, 0, none⟩) (by exact Nat.le_of_lt hs0) _).setCell (p := ⟨w1.heap.size, 1, none⟩) (by exact Nat.le_of_lt hs0) _) _ (by simp) _ _ _
  · have e0 : (n.mode == 0) = false := by simp [hm]
    have HE : Hid (n.ownT = (0, own n.kind)) := by
      show n.ownT = (0, own n.kind)
      unfold Nd.ownT
      rw [if_neg (fun r => hm r.1)]
    obtain ⟨rfl, rfl⟩ : T1 = 0 ∧ T2 = own n.kind := by have := HE.out; rw [HT.out] at this; injection this with a b; exact ⟨a, b⟩
    clear hm
    go_wp2
    refine bodyPost_ret (v := .agg #[.int .i64 0, .int .i64 (own n.kind), .bool false]) (by simp [results, Tryz.results118, go_sem, q0, q1, q2, hs1, hd10]) rfl ⟨rfl, ?_⟩
    first
      | exact (setCell3 HB.out _ (by simp) _ _ _).alloc (setCell3 HB.out _ (by simp) _ _ _).size _
      | exact setCell3 (HB.out.alloc HB.out.size _) _ (by simp) _ _ _
end Go.Proofs.YtjceeljaljdmoaaGreatDoor
