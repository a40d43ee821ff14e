/-
  A schema that came in: its nodes and kids as plain data, and how great they may be.
-/
import Derived.Test.YtjceeljaljdmoaaGreatDoorSw
import Derived.Deep.Slices
import Derived.SizedLaws
namespace Go.Proofs.YtjceeljaljdmoaaGreatDoor
open Go.RowKit Go.Deep Go.ChangeShapes Go.WideShapes
set_option maxRecDepth 100000

theorem Tryz.cK : Tryz.prog.cellsOf 55 = 3 := by kernel_rfl
theorem Tryz.cN : Tryz.prog.cellsOf 58 = 4 := by kernel_rfl
theorem Tryz.cI : Tryz.prog.cellsOf 3 = 1 := by kernel_rfl
theorem Tryz.cB : Tryz.prog.cellsOf 4 = 1 := by kernel_rfl
theorem Tryz.cS : Tryz.prog.cellsOf 9 = 1 := by kernel_rfl
theorem Tryz.cKs : Tryz.prog.cellsOf 56 = 1 := by kernel_rfl
theorem Tryz.bK : Tryz.prog.bytesOf 55 = 32 := by kernel_rfl
theorem Tryz.bN : Tryz.prog.bytesOf 58 = 48 := by kernel_rfl

theorem mem_weightsAll {H : Type} {P : Program} {e : TypeId} {l : List (DataW H)} {d : DataW H} (hd : d ∈ l) {n : Nat} (hn : n ∈ d.weights P e) : n ∈ DataW.weightsAll P e l := by
  induction l with
  | nil => cases hd
  | cons x r ih =>
    simp only [DataW.weightsAll, List.mem_append]
    rcases List.mem_cons.1 hd with rfl | h
    · exact .inl hn
    · exact .inr (ih h)
theorem plain_add (b o n : Nat) : (⟨b, o, none⟩ : Addr).add n = ⟨b, o + n, none⟩ := by unfold Addr.add; split <;> simp_all
theorem spot_none {w : World} {a : Addr} {v : Value} (h : w.cell? a = some v) : a = ⟨a.block, a.off, none⟩ := by
  obtain ⟨b, o, sp⟩ := a
  cases sp with
  | none => rfl
  | some k =>
    unfold World.cell? at h
    simp only at h
    split at h
    · simp at h
    · cases h
theorem getD_map_range {α : Type} (f : Nat → α) (d : α) {n i : Nat} (h : i < n) : ((List.range n).map f).getD i d = f i := by
  rw [List.getD_eq_getElem?_getD, List.getElem?_eq_getElem (by simpa using h)]
  simp

section
variable {H : Type} {enc : TypeId × Value → H} {w : World} {base : Nat} {sp : Nat → Bool} {held : Bool}
theorem open_kid {fuel : Nat} {cs : List Value} {x : DataW H × List MemPlace} (h : DataW.trod enc Tryz.prog w base sp held fuel 55 cs = some x) :
    ∃ k : Kd, cs = [.int .i64 k.node, .bool k.opt, .string k.dflt] ∧ k.dflt.size ∈ x.1.weights Tryz.prog 55 := by
  obtain ⟨xs, n, _, hx, hl, hlen, hel⟩ := DataW.trod_struct Tryz.underlying55 h
  rw [Tryz.cK] at hl
  match cs, hl, xs, hlen, hx, hel with
  | [c0, c1, c2], _, [x0, x1, x2], _, hx, hel =>
    have k0 := hel 0 _ rfl
    have k1 := hel 1 _ rfl
    have k2 := hel 2 _ rfl
    obtain ⟨y0, e0, _⟩ := DataW.trod_int Tryz.underlying3 k0
    obtain ⟨y1, e1, _⟩ := DataW.trod_bool Tryz.underlying4 k1
    obtain ⟨y2, e2, f2, _⟩ := DataW.trod_string Tryz.underlying9 k2
    simp [Tryz.cI, Tryz.cB, Tryz.cS] at e0 e1 e2
    subst e0 e1 e2
    refine ⟨⟨y0, y1, y2⟩, rfl, ?_⟩
    rw [hx]
    simp only [DataW.weights, Tryz.underlying55]
    refine DataW.weights_mem_each (j := 2) (t := 9) (d := x2.1) rfl rfl _ ?_
    rw [f2]
    simp only [DataW.weights]
    exact List.mem_singleton.2 (Array.length_toList (xs := y2.data)).symm
theorem open_kids {fuel : Nat} {cs : List Value} {x : DataW H × List MemPlace} (h : DataW.trod enc Tryz.prog w base sp held fuel 56 cs = some x) :
    ∃ (ka : Option Addr) (ks : List Kd) (kc : Nat), cs = [.slice ka ks.length kc] ∧ ks.length ≤ kc ∧ kc ≤ maxLen ∧ KidsIn w ka ks ∧
      ∀ N, (∀ n ∈ x.1.weights Tryz.prog 56, n ≤ N) → ks.length * 32 ≤ N ∧ ∀ k ∈ ks, k.dflt.size ≤ N := by
  rcases open_slice Tryz.underlying56 h with ⟨rfl, rfl⟩ | ⟨a, len, cap, m, n, D, Pl, rfl, hb, hl, hm, hmm, rfl, hx⟩
  · exact ⟨none, [], 0, rfl, Nat.le_refl _, Nat.zero_le _, fun j hj => absurd hj (Nat.not_lt_zero _), fun N _ => ⟨by simp, fun k hk => by cases hk⟩⟩
  have hlm : len ≤ m := by rw [hmm]; split <;> omega
  rw [Tryz.cK] at hx
  have each : ∀ i, i < len → ∃ k : Kd, w.cell? (a.add (i * 3)) = some (.int .i64 k.node) ∧ w.cell? (a.add (i * 3 + 1)) = some (.bool k.opt) ∧ w.cell? (a.add (i * 3 + 2)) = some (.string k.dflt) ∧ k.dflt.size ∈ (D i).weights Tryz.prog 55 := by
    intro i hi
    obtain ⟨cs', h1, h2⟩ := hx i (by omega)
    obtain ⟨k, rfl, hk⟩ := open_kid h2
    obtain ⟨_, _, hcell⟩ := World.cells?_some h1
    have e0 := hcell 0 (by omega)
    have e1 := hcell 1 (by omega)
    have e2 := hcell 2 (by omega)
    rw [add_add] at e0 e1 e2
    exact ⟨k, by simpa using e0, by simpa using e1, by simpa using e2, hk⟩
  obtain ⟨K, hK⟩ := @choose_lt Kd ⟨kd0⟩ _ _ each
  have hlen : ((List.range len).map K).length = len := by simp
  refine ⟨some a, (List.range len).map K, cap, by rw [hlen], by rw [hlen]; exact hl, hm, fun j hj => ?_, fun N hN => ?_⟩
  · rw [hlen] at hj
    have h0 := (hK 0 (by omega)).1
    have ea : a = ⟨a.block, a.off, none⟩ := spot_none (w := w) (a := a) (v := .int .i64 (K 0).node) (by simpa [Addr.add] using h0)
    obtain ⟨q0, q1, q2, _⟩ := hK j hj
    rw [ea, plain_add] at q0 q1 q2
    rw [getD_map_range K kd0 hj]
    exact ⟨a.block, a.off, congrArg some ea, q0, by rw [← Nat.add_assoc] at q1; exact q1, by rw [← Nat.add_assoc] at q2; exact q2⟩
  · simp only [DataW.weights, Tryz.underlying56] at hN
    refine ⟨?_, fun k hk => ?_⟩
    · have := hN _ (List.mem_cons_self ..)
      rw [Tryz.bK] at this
      simp at this ⊢
      omega
    · obtain ⟨i, hi, rfl⟩ := List.mem_map.1 hk
      have hi' := List.mem_range.1 hi
      exact hN _ (List.mem_cons_of_mem _ (List.mem_append_left _ (mem_weightsAll (d := D i) (List.mem_map.2 ⟨i, hi, rfl⟩) (hK i hi').2.2.2)))
theorem open_node {fuel : Nat} {cs : List Value} {x : DataW H × List MemPlace} (h : DataW.trod enc Tryz.prog w base sp held fuel 58 cs = some x) :
    ∃ (n : Nd) (ka : Option Addr) (kc : Nat), cs = [.int .i64 n.kind, .int .i64 n.tag, .int .i64 n.mode, .slice ka n.kids.length kc] ∧ n.kids.length ≤ kc ∧ kc ≤ maxLen ∧ KidsIn w ka n.kids ∧
      ∀ N, (∀ m ∈ x.1.weights Tryz.prog 58, m ≤ N) → n.kids.length * 32 ≤ N ∧ ∀ k ∈ n.kids, k.dflt.size ≤ N := by
  obtain ⟨xs, n, _, hx, hl, hlen, hel⟩ := DataW.trod_struct Tryz.underlying58 h
  rw [Tryz.cN] at hl
  match cs, hl, xs, hlen, hx, hel with
  | [c0, c1, c2, c3], _, [x0, x1, x2, x3], _, hx, hel =>
    have k0 := hel 0 _ rfl
    have k1 := hel 1 _ rfl
    have k2 := hel 2 _ rfl
    have k3 := hel 3 _ rfl
    obtain ⟨y0, e0, _⟩ := DataW.trod_int Tryz.underlying3 k0
    obtain ⟨y1, e1, _⟩ := DataW.trod_int Tryz.underlying3 k1
    obtain ⟨y2, e2, _⟩ := DataW.trod_int Tryz.underlying3 k2
    obtain ⟨ka, ks, kc, e3, g1, g2, g3, g4⟩ := open_kids k3
    simp [Tryz.cI, Tryz.cKs] at e0 e1 e2 e3
    subst e0 e1 e2 e3
    refine ⟨⟨y0, y1, y2, ks⟩, ka, kc, rfl, g1, g2, g3, fun N hN => g4 N fun m hm => hN m ?_⟩
    rw [hx]
    simp only [DataW.weights, Tryz.underlying58]
    exact DataW.weights_mem_each (j := 3) (t := 56) (d := x3.1) rfl rfl _ hm
/-- How great a schema may be. -/
structure Fits (s : List Nd) : Prop where
  len : s.length * 48 ≤ 140737488351232
  kids : ∀ i, i < s.length → (nd s i).kids.length * 32 ≤ 140737488351232
  ok : SchOk s
theorem open_schema {fuel : Nat} {cs : List Value} {x : DataW H × List MemPlace} (h : DataW.trod enc Tryz.prog w base sp held fuel 22 cs = some x) :
    ∃ (a : Option Addr) (s : List Nd) (c : Nat), cs = [.slice a s.length c] ∧ s.length ≤ c ∧ c ≤ maxLen ∧ Sch w a s ∧ ((∀ n ∈ x.1.weights Tryz.prog 22, n ≤ 140737488351232) → Fits s) := by
  rcases open_slice Tryz.underlying22 h with ⟨rfl, rfl⟩ | ⟨a, len, cap, m, n, D, Pl, rfl, hb, hl, hm, hmm, rfl, hx⟩
  · exact ⟨none, [], 0, rfl, Nat.le_refl _, Nat.zero_le _, fun j hj => absurd hj (Nat.not_lt_zero _), fun _ => ⟨by simp, fun i hi => absurd hi (Nat.not_lt_zero _), fun i hi => absurd hi (Nat.not_lt_zero _)⟩⟩
  have hlm : len ≤ m := by rw [hmm]; split <;> omega
  rw [Tryz.cN] at hx
  have each : ∀ i, i < len → ∃ q : Nd × Option Addr × Nat, w.cell? (a.add (i * 4)) = some (.int .i64 q.1.kind) ∧ w.cell? (a.add (i * 4 + 1)) = some (.int .i64 q.1.tag) ∧ w.cell? (a.add (i * 4 + 2)) = some (.int .i64 q.1.mode) ∧
      w.cell? (a.add (i * 4 + 3)) = some (.slice q.2.1 q.1.kids.length q.2.2) ∧ q.1.kids.length ≤ q.2.2 ∧ q.2.2 ≤ maxLen ∧ KidsIn w q.2.1 q.1.kids ∧
      ∀ N, (∀ m ∈ (D i).weights Tryz.prog 58, m ≤ N) → q.1.kids.length * 32 ≤ N ∧ ∀ k ∈ q.1.kids, k.dflt.size ≤ N := by
    intro i hi
    obtain ⟨cs', h1, h2⟩ := hx i (by omega)
    obtain ⟨k, ka, kc, rfl, g1, g2, g3, g4⟩ := open_node h2
    obtain ⟨_, _, hcell⟩ := World.cells?_some h1
    have e0 := hcell 0 (by omega)
    have e1 := hcell 1 (by omega)
    have e2 := hcell 2 (by omega)
    have e3 := hcell 3 (by omega)
    rw [add_add] at e0 e1 e2 e3
    exact ⟨(k, ka, kc), by simpa using e0, by simpa using e1, by simpa using e2, by simpa using e3, g1, g2, g3, g4⟩
  obtain ⟨K, hK⟩ := @choose_lt (Nd × Option Addr × Nat) ⟨(nd0, none, 0)⟩ _ _ each
  have hlen : ((List.range len).map fun i => (K i).1).length = len := by simp
  have hnd : ∀ i, i < len → nd ((List.range len).map fun i => (K i).1) i = (K i).1 := fun i hi => getD_map_range (fun i => (K i).1) nd0 hi
  refine ⟨some a, (List.range len).map fun i => (K i).1, cap, by rw [hlen], by rw [hlen]; exact hl, hm, fun j hj => ?_, fun hN => ?_⟩
  · rw [hlen] at hj
    have h0 := (hK 0 (by omega)).1
    have ea : a = ⟨a.block, a.off, none⟩ := spot_none (w := w) (a := a) (v := .int .i64 (K 0).1.kind) (by simpa [Addr.add] using h0)
    obtain ⟨q0, q1, q2, q3, g1, g2, g3, _⟩ := hK j hj
    rw [ea, plain_add] at q0 q1 q2 q3
    rw [hnd j hj]
    exact ⟨a.block, a.off, (K j).2.1, (K j).2.2, congrArg some ea, ⟨q0, by rw [← Nat.add_assoc] at q1; exact q1, by rw [← Nat.add_assoc] at q2; exact q2, by rw [← Nat.add_assoc] at q3; exact q3⟩, g1, g2, g3⟩
  · simp only [DataW.weights, Tryz.underlying22] at hN
    have each2 : ∀ i, i < len → (K i).1.kids.length * 32 ≤ 140737488351232 ∧ ∀ k ∈ (K i).1.kids, k.dflt.size ≤ 140737488351232 := fun i hi =>
      (hK i hi).2.2.2.2.2.2.2 _ fun m hm => hN m (List.mem_cons_of_mem _ (List.mem_append_left _ (mem_weightsAll (d := D i) (List.mem_map.2 ⟨i, List.mem_range.2 hi, rfl⟩) hm)))
    refine ⟨?_, fun i hi => ?_, fun i hi => ?_⟩
    · have := hN _ (List.mem_cons_self ..)
      rw [Tryz.bN] at this
      simp at this ⊢
      omega
    · rw [hlen] at hi; rw [hnd i hi]; exact (each2 i hi).1
    · rw [hlen] at hi; rw [hnd i hi]; exact (each2 i hi).2
end
end Go.Proofs.YtjceeljaljdmoaaGreatDoor
