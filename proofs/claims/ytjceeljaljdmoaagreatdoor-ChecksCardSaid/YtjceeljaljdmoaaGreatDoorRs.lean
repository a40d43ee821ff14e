/-
  The document's reader in memory: its block, the tree that it owns; stop, put.
-/
import Derived.Test.YtjceeljaljdmoaaGreatDoorSl
namespace Go.Proofs.YtjceeljaljdmoaaGreatDoor
open Go.RowKit

/-- A value of a tree. -/
structure Vl where
  kind : Int
  text : ByteArray
  alt : Int
  kids : Int
def Vl.cells (v : Vl) : List Value := [.int .i64 v.kind, .string v.text, .int .i64 v.alt, .int .i64 v.kids]
/-- A tree's cells. -/
def vcells (l : List Vl) : List Value := l.flatMap Vl.cells
theorem vcells_append (l : List Vl) (v : Vl) : vcells (l ++ [v]) = vcells l ++ v.cells := by unfold vcells; simp
/-- The reader's cells. -/
def rdObj (a : Option Addr) (n c : Nat) (data : ByteArray) (vt : Value) (e p : Int) : Obj := .cells #[.slice a n c, .string data, vt, .int .i64 e, .int .i64 p] 100 (0, 0)
/-- The reader in memory: W: the world when it was made; its schema's slice, its data; the tree so far, what is wrong, where. -/
structure RdI (W w : World) (R : Nat) (a : Option Addr) (n c : Nat) (data : ByteArray) (tree : List Vl) (e p : Int) : Prop where
  bel : Below W.heap.size W w
  lo : W.heap.size ≤ R
  own : ∃ vt, w.heap[R]? = some (rdObj a n c data vt e p) ∧ w.ownsRow W.heap.size 60 4 vt tree.length (vcells tree)
/-- Blocks of other types, but for the reader's own, are as they were. -/
def Fr (R : Nat) (w w' : World) : Prop := ∀ (k : Nat) (A : Array Value) (T : TypeId), k ≠ R → T ≠ 60 → w.heap[k]? = some (.cells A T (0, 0)) → w'.heap[k]? = some (.cells A T (0, 0))
theorem Fr.refl (R : Nat) (w : World) : Fr R w w := fun _ _ _ _ _ h => h
theorem Fr.trans {R : Nat} {w w1 w2 : World} (h1 : Fr R w w1) (h2 : Fr R w1 w2) : Fr R w w2 := fun k A T a b h => h2 k A T a b (h1 k A T a b h)
theorem Fr.of_below {R : Nat} {w w' : World} (h : Below w.heap.size w w') : Fr R w w' := fun _ _ _ _ _ q => block_below q h
theorem Fr.of_same {R : Nat} {w w' : World} (h : ∀ k, k ≠ R → w'.heap[k]? = w.heap[k]?) : Fr R w w' := fun k _ _ a _ q => (h k a).trans q
theorem Fr.set5 {R : Nat} {w w2 : World} (h : Fr R w w2) {q : Nat} (hq : w.heap.size ≤ q) (v0 v1 v2 v3 v4 : Value) :
    Fr R w (((((w2.setCell ⟨q, 0, none⟩ v0).setCell ⟨q, 1, none⟩ v1).setCell ⟨q, 2, none⟩ v2).setCell ⟨q, 3, none⟩ v3).setCell ⟨q, 4, none⟩ v4) := fun k A T a b g => by
  have hlt : k < w.heap.size := by
    rcases Nat.lt_or_ge k w.heap.size with h' | h'
    · exact h'
    · rw [Array.getElem?_eq_none h'] at g; cases g
  have hne : k ≠ q := by omega
  rw [heap_setCell_other _ _ _ _ hne, heap_setCell_other _ _ _ _ hne, heap_setCell_other _ _ _ _ hne, heap_setCell_other _ _ _ _ hne, heap_setCell_other _ _ _ _ hne]
  exact h k A T a b g
theorem RdI.below {W w w' : World} {R : Nat} {a : Option Addr} {n c : Nat} {data : ByteArray} {tree : List Vl} {e p : Int} (h : RdI W w R a n c data tree e p) (hb : Below w.heap.size w w') : RdI W w' R a n c data tree e p where
  bel := h.bel.trans (hb.mono h.bel.size)
  lo := h.lo
  own := by
    obtain ⟨vt, h1, h2⟩ := h.own
    exact ⟨vt, block_below h1 hb, own_below h2 hb⟩

def Tryz.zeroVal : Value := .agg #[.int .i64 0, .string ⟨#[]⟩, .int .i64 0, .int .i64 0]
theorem Tryz.infoVal : (Tryz.prog.info? 60).map (fun i => (i.zero, i.size, i.bytes)) = some (some Tryz.zeroVal, 4, 40) := by kernel_rfl
theorem row_ne {w : World} {R base size n : Nat} {e T : TypeId} {v : Value} {xs : List Value} {A : Array Value} (hg : w.heap[R]? = some (.cells A T (0, 0))) (h : w.ownsRow base e size v n xs) (hT : T ≠ e) : v.ownBlock ≠ some R := by
  intro hv
  rcases h.2 with ⟨h', _⟩ | ⟨g, cap, cur, h', _, hg', _⟩
  · subst h'; cases hv
  · subst h'
    obtain rfl : g = R := by simpa [Value.ownBlock] using hv
    rw [hg] at hg'
    injection hg' with hg'
    injection hg' with _ e _
    exact hT e
/-- A store into one of the reader's cells. -/
theorem rd_set {W w : World} {R : Nat} {A : Array Value} {tree : List Vl} {vt : Value} (i : Nat) (u : Value) (hb : Below W.heap.size W w) (hlo : W.heap.size ≤ R) (hg : w.heap[R]? = some (.cells A 100 (0, 0)))
    (ho : w.ownsRow W.heap.size 60 4 vt tree.length (vcells tree)) :
    Below W.heap.size W (w.setCell ⟨R, i, none⟩ u) ∧ (w.setCell ⟨R, i, none⟩ u).heap[R]? = some (.cells (A.setIfInBounds i u) 100 (0, 0)) ∧ (w.setCell ⟨R, i, none⟩ u).ownsRow W.heap.size 60 4 vt tree.length (vcells tree) :=
  ⟨hb.setCell hlo u, heap_setCell_same w R i A _ u hg, ownsRow_setCell_other ho (row_ne hg ho (by decide)) u⟩

/-- A store into a block of another type. -/
theorem RdI.set_other {W w : World} {R : Nat} {a : Option Addr} {n c : Nat} {data : ByteArray} {tree : List Vl} {e p : Int} (h : RdI W w R a n c data tree e p) {k : Nat} {A : Array Value} {T : TypeId} (hk : W.heap.size ≤ k) (hkR : k ≠ R) (hT : T ≠ 60)
    (hg : w.heap[k]? = some (.cells A T (0, 0))) (i : Nat) (u : Value) : RdI W (w.setCell ⟨k, i, none⟩ u) R a n c data tree e p ∧ (w.setCell ⟨k, i, none⟩ u).heap[k]? = some (.cells (A.setIfInBounds i u) T (0, 0)) := by
  obtain ⟨hb, hlo, vt, hr, ho⟩ := h
  exact ⟨⟨hb.setCell hk u, hlo, vt, by rw [heap_setCell_other _ _ _ _ (by exact Ne.symm hkR)]; exact hr, ownsRow_setCell_other ho (row_ne hg ho hT) u⟩, heap_setCell_same w k i A _ u hg⟩
theorem RdI.set5 {W w : World} {R : Nat} {a : Option Addr} {n c : Nat} {data : ByteArray} {tree : List Vl} {e p : Int} (h : RdI W w R a n c data tree e p) {k : Nat} {A : Array Value} {T : TypeId} (hk : W.heap.size ≤ k) (hkR : k ≠ R) (hT : T ≠ 60)
    (hg : w.heap[k]? = some (.cells A T (0, 0))) (v0 v1 v2 v3 v4 : Value) :
    RdI W (((((w.setCell ⟨k, 0, none⟩ v0).setCell ⟨k, 1, none⟩ v1).setCell ⟨k, 2, none⟩ v2).setCell ⟨k, 3, none⟩ v3).setCell ⟨k, 4, none⟩ v4) R a n c data tree e p := by
  obtain ⟨h0, g0⟩ := h.set_other hk hkR hT hg 0 v0
  obtain ⟨h1, g1⟩ := h0.set_other hk hkR hT g0 1 v1
  obtain ⟨h2, g2⟩ := h1.set_other hk hkR hT g1 2 v2
  obtain ⟨h3, g3⟩ := h2.set_other hk hkR hT g2 3 v3
  exact (h3.set_other hk hkR hT g3 4 v4).1

set_option maxHeartbeats 1000000 in
set_option maxRecDepth 100000 in
theorem stop_first (W w : World) (R : Nat) (a : Option Addr) (n c : Nat) (data : ByteArray) (tree : List Vl) (p e1 p1 : Int) (h : RdI W w R a n c data tree 0 p) :
    Calls Tryz.prog 49 #[.pointer (some ⟨R, 0, none⟩), .int .i64 e1, .int .i64 p1] w fun e w' => e = .returned (.tuple #[]) ∧ RdI W w' R a n c data tree e1 p1 ∧ ∀ k, k ≠ R → w'.heap[k]? = w.heap[k]? := by
  obtain ⟨hb, hlo, vt, hr, ho⟩ := h
  have HB : Hid (Below W.heap.size W w) := hb
  have HO : Hid (w.ownsRow W.heap.size 60 4 vt tree.length (vcells tree)) := ho
  have HR : Hid (w.heap[R]? = some (rdObj a n c data vt 0 p)) := hr
  unfold rdObj at hr
  have c3 : w.cell? ⟨R, 3, none⟩ = some (.int .i64 0) := by simp [World.cell?, hr]
  have f3 : w.frozen? ⟨R, 3, none⟩ = false := by simp [World.frozen?, hr]
  have c4 : w.cell? ⟨R, 4, none⟩ = some (.int .i64 p) := by simp [World.cell?, hr]
  have f4 : w.frozen? ⟨R, 4, none⟩ = false := by simp [World.frozen?, hr]
  clear hb ho hr
  go_enter Tryz.func49, Tryz.ntmps49
  go_wp2
  go_end0
  obtain ⟨b1, r1, o1⟩ := rd_set 3 (.int .i64 e1) HB.out hlo HR.out HO.out
  obtain ⟨b2, r2, o2⟩ := rd_set 4 (.int .i64 p1) b1 hlo r1 o1
  exact ⟨rfl, ⟨b2, hlo, vt, r2, o2⟩, fun k hk => by rw [heap_setCell_other _ _ _ _ hk, heap_setCell_other _ _ _ _ hk]⟩

set_option maxHeartbeats 1000000 in
set_option maxRecDepth 100000 in
theorem put_any (W w : World) (R : Nat) (a : Option Addr) (n c : Nat) (data : ByteArray) (tree : List Vl) (e p : Int) (v : Vl) (h : RdI W w R a n c data tree e p) (hl : tree.length ≤ 1099511627776) :
    Calls Tryz.prog 103 #[.pointer (some ⟨R, 0, none⟩), .int .i64 v.kind, .string v.text, .int .i64 v.alt, .int .i64 v.kids] w fun e' w' => e' = .returned (.int .i64 (tree.length : Nat)) ∧ RdI W w' R a n c data (tree ++ [v]) e p ∧ Fr R w w' := by
  obtain ⟨i0, hi0, hz0, hz1, hz2⟩ := info_parts Tryz.infoVal
  obtain ⟨hb, hlo, vt, hr, ho⟩ := h
  have HB : Hid (Below W.heap.size W w) := hb
  have HO : Hid (w.ownsRow W.heap.size 60 4 vt tree.length (vcells tree)) := ho
  have HR : Hid (w.heap[R]? = some (rdObj a n c data vt e p)) := hr
  unfold rdObj at hr
  have c2 : w.cell? ⟨R, 2, none⟩ = some vt := by simp [World.cell?, hr]
  have f2 : w.frozen? ⟨R, 2, none⟩ = false := by simp [World.frozen?, hr]
  have hRl : R < w.heap.size := lt_of_cell c2
  have hsz : W.heap.size ≤ w.heap.size + 1 := by have := hb.size; omega
  clear hb ho hr
  go_enter Tryz.func103, Tryz.ntmps103
  go_wp2_with (at_builtin; refine wpList_append_lies _ rfl (.tmp 15) (.tmp 21) 39 rfl W.heap.size 60 i0 Tryz.zeroVal 4 40 Tryz.underlying39 hi0 hz0 hz1 hz2 rfl (by decide) vt tree.length (vcells tree) rfl (HO.out.alloc _) ⟨w.heap.size, 0, none⟩ 1 1 v.cells rfl rfl (World.news_of_block (heap_alloc_new w _)) (by intro u hu; unfold Vl.cells at hu; simp at hu; rcases hu with rfl | rfl | rfl | rfl <;> rfl) (by decide) (by unfold maxLen; omega) (by omega) (by simpa using hsz) (w.heap.size + 1) (by simp) ?_)
  intro g cap w3 h1 h2 h3 h4
  have hR3 : w3.heap[R]? = some (rdObj a n c data vt e p) := by
    rw [h2.block R (by simp; omega) (fun q => row_ne HR.out HO.out (by decide) q.symm), Below.heap_alloc w _ _ hRl]; exact HR.out
  have hb3 : Below W.heap.size W w3 := by
    have hb0 : Below W.heap.size W (w.alloc (.cells #[.int .i64 v.kind, .string v.text, .int .i64 v.alt, .int .i64 v.kids] 60)) := HB.out.alloc HB.out.size _
    exact hb0.grown h2 hb0.size (fun k hk => (HO.out.lt k hk).1)
  have ho3 : w3.ownsRow W.heap.size 60 4 (.slice (some ⟨g, 0, none⟩) (tree.length + 1) cap) (tree ++ [v]).length (vcells (tree ++ [v])) := by rw [vcells_append, List.length_append]; exact h1
  have FIN : Hid (RdI W (w3.setCell ⟨R, 2, none⟩ (.slice (some ⟨g, 0, none⟩) (tree.length + 1) cap)) R a n c data (tree ++ [v]) e p) := by
    obtain ⟨b1, r1, o1⟩ := rd_set 2 (.slice (some ⟨g, 0, none⟩) (tree.length + 1) cap) hb3 hlo hR3 ho3
    exact ⟨b1, hlo, _, r1, o1⟩
  have HFR : Hid (Fr R w (w3.setCell ⟨R, 2, none⟩ (.slice (some ⟨g, 0, none⟩) (tree.length + 1) cap))) := fun k A T hk hT hg => by
    have hlt : k < w.heap.size := by
      rcases Nat.lt_or_ge k w.heap.size with h' | h'
      · exact h'
      · rw [Array.getElem?_eq_none h'] at hg; cases hg
    rw [heap_setCell_other _ _ _ _ hk, h2.block k (by simp; omega) (fun q => row_ne hg HO.out hT q.symm), Below.heap_alloc w _ _ hlt]
    exact hg
  unfold rdObj at hR3
  have d2 : w3.cell? ⟨R, 2, none⟩ = some vt := by simp [World.cell?, hR3]
  have g2 : w3.frozen? ⟨R, 2, none⟩ = false := by simp [World.frozen?, hR3]
  clear h1 h2 h3 h4 hR3 hb3 ho3 c2 f2
  go_wp2
  go_ret
  exact ⟨by congr 1, FIN.out, HFR.out⟩
end Go.Proofs.YtjceeljaljdmoaaGreatDoor
