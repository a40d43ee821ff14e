/-
  Several texts in one:
  The document's reader: node, of the kinds 1 to 9.
  hallmarkref.Read, of a root of the kinds 1 to 9.
-/
import Derived.Test.YtkkicodfpekbgaaGreatDoorJ2
import Derived.Test.YtkkicodfpekbgaaGreatDoorJRwc
/-! The document's reader: node, of the kinds 1 to 9. -/
namespace Go.Proofs.YtkkicodfpekbgaaGreatDoor
set_option linter.unusedSimpArgs false
set_option linter.unusedVariables false
open Go.RowKit

theorem node_leaf (s : List Nd) (W w : World) (R : Nat) (a : Option Addr) (c : Nat) (data : ByteArray) (tree : List Vl) (p : Int) (i x y : Nat) (dp : Int)
    (h : RdI W w R a s.length c data tree 0 p) (hs : Sch W a s) (hi : i < s.length) (hk1 : 1 ≤ (nd s i).kind) (hk9 : (nd s i).kind ≤ 9) (hmo : 0 ≤ (nd s i).tag → (nd s i).mode = 0 ∨ (nd s i).mode = 1)
    (hxy : x ≤ y) (hy : y ≤ data.size) (hm : data.size ≤ 140737488355328) (ht : tree.length ≤ 1099511627776) :
    Calls Tryz.prog 69 #[.pointer (some ⟨R, 0, none⟩), .int .i64 i, .int .i64 x, .int .i64 y, .int .i64 dp] w
      fun e w' => RetN W R a s.length c data (nd s i) x y dp tree e w' := by
  by_cases htg : (nd s i).tag < 0
  · exact node_leafA s W w R a c data tree p i x y dp h hs hi hk1 hk9 htg hxy hy hm ht
  · have htg' : 0 ≤ (nd s i).tag := by omega
    rcases hmo htg' with hm0 | hm0
    · exact node_leafB s W w R a c data tree p i x y dp h hs hi hk1 hk9 htg' hm0 hxy hy hm ht
    · exact node_leafC s W w R a c data tree p i x y dp h hs hi hk1 hk9 htg' hm0 hxy hy hm ht
end Go.Proofs.YtkkicodfpekbgaaGreatDoor

/-! hallmarkref.Read, of a root of the kinds 1 to 9. -/
namespace Go.Proofs.YtkkicodfpekbgaaGreatDoor
set_option linter.unusedSimpArgs false
set_option linter.unusedVariables false
open Go.RowKit

/-- The whole text is an element of the node, with this content. -/
def ElemOk (N : Nd) (t u : ByteArray) : Prop := NodeAt N t 0 t.size 1 t.size u
/-- What Read answers. -/
def RetRd (N : Nd) (t : ByteArray) (w : World) (e : Ending) (w' : World) : Prop :=
  ∃ (v : Value) (p c : Int), e = .returned (.tuple #[v, .int .i64 p, .int .i64 c]) ∧ Below w.heap.size w w' ∧
    ((c = 0 ∧ p = 0 ∧ ∃ u, ElemOk N t u ∧ w'.ownsRow w.heap.size 60 4 v 1 (vcells [⟨N.kind, u, 0, 0⟩])) ∨ (c ≠ 0 ∧ v = .slice none 0 0 ∧ ∀ u, ¬ ElemOk N t u))

set_option maxHeartbeats 2000000 in
set_option maxRecDepth 100000 in
theorem read_leaf (s : List Nd) (a : Option Addr) (c i : Nat) (t : ByteArray) (w : World) (hs : Sch w a s) (hi : i < s.length) (hk1 : 1 ≤ (nd s i).kind) (hk9 : (nd s i).kind ≤ 9) (hmo : 0 ≤ (nd s i).tag → (nd s i).mode = 0 ∨ (nd s i).mode = 1) (hm : t.size ≤ 140737488355328) :
    Calls Tryz.prog 39 #[.slice a s.length c, .int .i64 i, .string t] w fun e w' => RetRd (nd s i) t w e w' := by
  have HI : Hid (RdI w (w.alloc (rdObj a s.length c t (.slice none 0 0) 0 0)) w.heap.size a s.length c t [] 0 0) := ⟨(Below.refl _ _).alloc (Nat.le_refl _) _, Nat.le_refl _, _, heap_alloc_new w _, World.ownsRow_nil _ _ _ _⟩
  have HN : Hid (Calls Tryz.prog 69 #[.pointer (some ⟨w.heap.size, 0, none⟩), .int .i64 i, .int .i64 0, .int .i64 t.size, .int .i64 1] (w.alloc (rdObj a s.length c t (.slice none 0 0) 0 0)) fun e w' => RetN w w.heap.size a s.length c t (nd s i) 0 t.size 1 [] e w') :=
    node_leaf s w _ w.heap.size a c t [] 0 i 0 t.size 1 HI.out hs hi hk1 hk9 hmo (Nat.zero_le _) (Nat.le_refl _) hm (by simp)
  clear hs hmo
  generalize nd s i = N at *
  unfold rdObj at HN
  go_enter Tryz.func39, Tryz.ntmps39
  go_wp2_with fail
  refine HN.out.mono ?_
  rintro e w1 ⟨v, tree', e', p', rfl, hI1, hD⟩
  have HI1 : Hid (RdI w w1 w.heap.size a s.length c t tree' e' p') := hI1
  have HD : Hid ((e' = 0 ∧ ∃ tq u, v = ((tq : Nat) : Int) ∧ NodeAt N t 0 t.size 1 tq u ∧ tree' = [] ++ [⟨N.kind, u, 0, 0⟩]) ∨ (e' ≠ 0 ∧ ∀ tq u, ¬ NodeAt N t 0 t.size 1 tq u)) := hD
  obtain ⟨_, _, vt, hr, ho⟩ := hI1
  have HO : Hid (w1.ownsRow w.heap.size 60 4 vt tree'.length (vcells tree')) := ho
  unfold rdObj at hr
  have c2 : w1.cell? ⟨w.heap.size, 2, none⟩ = some vt := by simp [World.cell?, hr]
  have c3 : w1.cell? ⟨w.heap.size, 3, none⟩ = some (.int .i64 e') := by simp [World.cell?, hr]
  have c4 : w1.cell? ⟨w.heap.size, 4, none⟩ = some (.int .i64 p') := by simp [World.cell?, hr]
  clear hr ho HN HI
  rcases hD with ⟨rfl, tq, u, rfl, hAt, htr⟩ | ⟨he, hno⟩
  · have hto : tq ≤ t.size := by
      obtain ⟨_, h1, h2, _⟩ := hAt
      have := hd_ok h1
      rw [show (t.extract 0 t.size).size = t.size by simp] at this
      omega
    have HAT : Hid (NodeAt N t 0 t.size 1 tq u) := hAt
    have HTR : Hid (tree' = [⟨N.kind, u, 0, 0⟩]) := htr
    clear hAt htr HD
    by_cases hlt : tq < t.size
    · have hlt' : (tq : Int) < t.size := by omega
      go_wp2_with fail
      refine (stop_first w _ w.heap.size a s.length c t tree' p' 7 tq HI1.out).mono ?_
      rintro e w2 ⟨rfl, hI2, _⟩
      have HI2 : Hid (RdI w w2 w.heap.size a s.length c t tree' 7 tq) := hI2
      obtain ⟨_, _, vt2, hr2, _⟩ := hI2
      unfold rdObj at hr2
      have d3 : w2.cell? ⟨w.heap.size, 3, none⟩ = some (.int .i64 7) := by simp [World.cell?, hr2]
      have d4 : w2.cell? ⟨w.heap.size, 4, none⟩ = some (.int .i64 tq) := by simp [World.cell?, hr2]
      clear hr2 c2 c3 c4
      go_wp2
      go_quiet (fail)
      go_wp2
      refine bodyPost_ret (v := .tuple #[.slice none 0 0, .int .i64 tq, .int .i64 7]) (by simp [results, Tryz.results39, go_sem]) rfl ⟨_, tq, 7, rfl, below_drewN HI2.out.bel _, .inr ⟨by decide, rfl, fun u' q => ?_⟩⟩
      have q1 := q.2.2.1
      have q2 := HAT.out.2.2.1
      omega
    · have hlt' : (t.size : Int) ≤ tq := by omega
      obtain rfl : tq = t.size := by omega
      obtain ⟨ta, tc, rfl, _⟩ : ∃ ta tc, vt = .slice ta tree'.length tc ∧ True := by
        rcases HO.out.2 with ⟨q, q'⟩ | ⟨g, cap, cur, q, _⟩
        · exact ⟨none, 0, by rw [q, q'], trivial⟩
        · exact ⟨_, cap, q, trivial⟩
      go_wp2
      refine bodyPost_ret (v := .tuple #[.slice ta tree'.length tc, .int .i64 0, .int .i64 0]) (by simp [results, Tryz.results39, go_sem]) rfl ⟨_, 0, 0, rfl, HI1.out.bel, .inl ⟨rfl, rfl, u, HAT.out, ?_⟩⟩
      have := HO.out
      rw [HTR.out] at this ⊢
      exact this
  · have HE : Hid (e' ≠ 0) := he
    have HNO : Hid (∀ tq u, ¬ NodeAt N t 0 t.size 1 tq u) := hno
    have he1 : (e' == 0) = false := by simp [he]
    have he2 : (e' != 0) = true := by simp [he]
    clear he hno HD
    go_wp2
    go_quiet (fail)
    go_wp2
    refine bodyPost_ret (v := .tuple #[.slice none 0 0, .int .i64 p', .int .i64 e']) (by simp [results, Tryz.results39, go_sem]) rfl ⟨_, p', e', rfl, below_drewN HI1.out.bel _, .inr ⟨HE.out, rfl, fun u' q => HNO.out _ _ q⟩⟩
end Go.Proofs.YtkkicodfpekbgaaGreatDoor
