/-
  Several texts in one:
  hallmarklaw.alike: of two schemas that are the same, wherever they lie, it answers true.
  hallmarklaw.copied: what it holds in memory, and that it is the schema.
  hallmarklaw.copied: a schema like another, with lists of its own.
  A schema that came in: its nodes and kids as plain data, and how great they may be.
-/
import Derived.Test.YtkkicodfpekbgaaGreatDoorJ1
import Derived.Test.YtkkicodfpekbgaaGreatDoorJ4
import Derived.Deep.Slices
import Derived.SizedLaws
/-! hallmarklaw.alike: of two schemas that are the same, wherever they lie, it answers true. -/
namespace Go.Proofs.YtkkicodfpekbgaaGreatDoor
set_option linter.unusedSimpArgs false
set_option linter.unusedVariables false
open Go.RowKit
set_option maxHeartbeats 2000000 in
set_option maxRecDepth 100000 in
theorem alike_any (s : List Nd) (a1 a2 : Option Addr) (c1 c2 : Nat) (w : World) (h1 : Sch w a1 s) (h2 : Sch w a2 s) (hn : s.length ≤ 140737488351232) :
    Calls Tryz.prog 16 #[.slice a1 s.length c1, .slice a2 s.length c2] w fun e w' => RetO True w e w' := by
  have H1 : Hid (Sch w a1 s) := h1
  have H2 : Hid (Sch w a2 s) := h2
  clear h1 h2
  go_enter Tryz.func16, Tryz.ntmps16
  go_wp2
  go_loopw [5] (fun i wr => ∃ k : Nat, k ≤ s.length ∧ i = .int .i64 k ∧ ∃ q, wr = w.drewN q) (fun i _ => s.length - (intOf i).toNat)
  case atStart => exact ⟨0, Nat.zero_le _, rfl, 0, rfl⟩
  case round =>
    obtain ⟨k, hk, rfl, q, rfl⟩ := hrel
    by_cases hlt : k < s.length
    · obtain ⟨b1, o1, ka1, kc1, e1, n1, m1, M1, k1⟩ := H1.out k hlt
      obtain ⟨b2, o2, ka2, kc2, e2, n2, m2, M2, k2⟩ := H2.out k hlt
      subst e1 e2
      have hlt' : (k : Int) < s.length := by omega
      have hlt'' : decide ((k : Int) < s.length) = true := by simpa using hlt
      obtain ⟨x1, x2, x3, x4⟩ := n1
      obtain ⟨y1, y2, y3, y4⟩ := n2
      have K1 : Hid (KidsIn w ka1 (nd s k).kids) := k1
      have K2 : Hid (KidsIn w ka2 (nd s k).kids) := k2
      clear k1 k2
      go_wp2
      go_quiet (fail)
      go_wp2
      go_loopw [6] (fun i wr => ∃ m : Nat, m ≤ (nd s k).kids.length ∧ i = .int .i64 m ∧ ∃ q, wr = w.drewN q) (fun i _ => (nd s k).kids.length - (intOf i).toNat)
      case atStart => exact ⟨0, Nat.zero_le _, rfl, q + nq, by rw [World.drewN_drewN]⟩
      case round =>
        obtain ⟨m, hm, rfl, q', rfl⟩ := hrel
        have hml : (nd s k).kids.length ≤ 9223372036854775807 := by unfold maxLen at M1; omega
        by_cases hl2 : m < (nd s k).kids.length
        · obtain ⟨d1, p1, f1, r1⟩ := K1.out m hl2
          obtain ⟨d2, p2, f2, r2⟩ := K2.out m hl2
          subst f1 f2
          obtain ⟨i1, i2, i3⟩ := r1
          obtain ⟨j1, j2, j3⟩ := r2
          generalize (nd s k).kids.getD m kd0 = kd at i1 i2 i3 j1 j2 j3
          have hl2' : (m : Int) < (nd s k).kids.length := by omega
          go_wp2
          go_quiet (fail)
          go_wp2
          go_roundw
          case rel => exact ⟨m + 1, by omega, by go_num, _, rfl⟩
          case measure => simp [intOf]; omega
        · have hl2' : ((nd s k).kids.length : Int) ≤ m := by omega
          go_wp2
          go_roundw
          case rel => exact ⟨k + 1, by omega, by go_num, _, rfl⟩
          case measure => simp [intOf]; omega
    · have hlt' : (s.length : Int) ≤ k := by omega
      go_wp2
      go_ret
      exact reto_yes trivial (below_drewN (Below.refl _ _) _)
end Go.Proofs.YtkkicodfpekbgaaGreatDoor

/-! hallmarklaw.copied: what it holds in memory, and that it is the schema. -/
namespace Go.Proofs.YtkkicodfpekbgaaGreatDoor
set_option linter.unusedSimpArgs false
set_option linter.unusedVariables false
open Go.RowKit

def Kd.cells (k : Kd) : List Value := [.int .i64 k.node, .bool k.opt, .string k.dflt]
def kcells (ks : List Kd) : List Value := ks.flatMap Kd.cells
theorem kcells_append (l : List Kd) (k : Kd) : kcells (l ++ [k]) = kcells l ++ k.cells := by unfold kcells; simp
theorem kcells_len (l : List Kd) : (kcells l).length = l.length * 3 := by
  unfold kcells
  induction l with
  | nil => rfl
  | cons a l ih => simp [Kd.cells, ih]; omega
/-- A node's cells, its kids' slice being a value. -/
def ncell (n : Nd) (K : Value) : List Value := [.int .i64 n.kind, .int .i64 n.tag, .int .i64 n.mode, K]
def ncells (s : List Nd) (K : Nat → Value) (k : Nat) : List Value := (List.range k).flatMap fun i => ncell (nd s i) (K i)
theorem ncells_succ (s : List Nd) (K : Nat → Value) (k : Nat) : ncells s K (k + 1) = ncells s K k ++ ncell (nd s k) (K k) := by
  unfold ncells; rw [List.range_succ]; simp
theorem ncells_congr {s : List Nd} {K K' : Nat → Value} {k : Nat} (h : ∀ i, i < k → K i = K' i) : ncells s K k = ncells s K' k := by
  induction k with
  | zero => rfl
  | succ k ih => rw [ncells_succ, ncells_succ, ih (fun i hi => h i (by omega)), h k (by omega)]
theorem ncells_len (s : List Nd) (K : Nat → Value) (k : Nat) : (ncells s K k).length = k * 4 := by
  induction k with
  | zero => rfl
  | succ k ih => rw [ncells_succ, List.length_append, ih]; simp [ncell]; omega
theorem ncells_get (s : List Nd) (K : Nat → Value) (k i : Nat) (hi : i < k) (j : Nat) (hj : j < 4) : (ncells s K k)[i * 4 + j]? = (ncell (nd s i) (K i))[j]? := by
  induction k with
  | zero => omega
  | succ k ih =>
    rw [ncells_succ]
    by_cases e : i = k
    · subst e
      rw [List.getElem?_append_right (by rw [ncells_len]; omega), ncells_len]
      congr 1; omega
    · rw [List.getElem?_append_left (by rw [ncells_len]; omega)]
      exact ih (by omega)
theorem kcells_get (l : List Kd) (i : Nat) (hi : i < l.length) (j : Nat) (hj : j < 3) : (kcells l)[i * 3 + j]? = (l.getD i kd0).cells[j]? := by
  induction l generalizing i with
  | nil => simp at hi
  | cons a l ih =>
    have e : kcells (a :: l) = a.cells ++ kcells l := by unfold kcells; simp
    rw [e]
    cases i with
    | zero => rw [List.getElem?_append_left (by simp [Kd.cells]; omega)]; simp
    | succ i =>
      rw [List.getElem?_append_right (by simp [Kd.cells]; omega)]
      have : (i + 1) * 3 + j - a.cells.length = i * 3 + j := by simp [Kd.cells]; omega
      rw [this, ih i (by simp at hi; omega)]
      simp
/-- What copied holds in memory. -/
structure CpW (s : List Nd) (w wr : World) (k : Nat) (vout : Value) : Prop where
  bel : Below w.heap.size w wr
  own : ∃ K : Nat → Value, wr.ownsRow w.heap.size 58 4 vout k (ncells s K k) ∧ ∀ i, i < k → wr.ownsRow w.heap.size 55 3 (K i) (nd s i).kids.length (kcells (nd s i).kids)
theorem CpW.below {s : List Nd} {w wr w' : World} {k : Nat} {vout : Value} (h : CpW s w wr k vout) (hb : Below wr.heap.size wr w') : CpW s w w' k vout where
  bel := h.bel.trans (hb.mono h.bel.size)
  own := by obtain ⟨K, h1, h2⟩ := h.own; exact ⟨K, own_below h1 hb, fun i hi => own_below (h2 i hi) hb⟩
theorem ownsRow_base {w : World} {b b' : Nat} {e : TypeId} {size : Nat} {v : Value} {n : Nat} {xs : List Value} (h : w.ownsRow b e size v n xs) (hb : b' ≤ b) : w.ownsRow b' e size v n xs := by
  obtain ⟨h1, h2⟩ := h
  refine ⟨h1, ?_⟩
  rcases h2 with h2 | ⟨g, cap, cur, h3, h4, h5⟩
  · exact .inl h2
  · exact .inr ⟨g, cap, cur, h3, Nat.le_trans hb h4, h5⟩
theorem row_ne3 {w : World} {b1 b2 s1 s2 n1 n2 : Nat} {e1 e2 : TypeId} {v1 v2 : Value} {x1 x2 : List Value} (h1 : w.ownsRow b1 e1 s1 v1 n1 x1) (h2 : w.ownsRow b2 e2 s2 v2 n2 x2) (hT : e2 ≠ e1) : v2.ownBlock = none ∨ v2.ownBlock ≠ v1.ownBlock := by
  rcases h2.2 with ⟨q, _⟩ | ⟨g, cap, cur, q, _, hg, _⟩
  · left; rw [q]; rfl
  · right
    intro e
    have : v1.ownBlock = some g := by rw [← e, q]; rfl
    exact row_ne1 hg h1 hT this
/-- A node more. -/
theorem CpW.put {s : List Nd} {w wr w' : World} {k g cap : Nat} {vout vk : Value} {o : Obj} {K : Nat → Value} (hb0 : Below w.heap.size w wr) (q1 : wr.ownsRow w.heap.size 58 4 vout k (ncells s K k)) (q2 : ∀ i, i < k → wr.ownsRow w.heap.size 55 3 (K i) (nd s i).kids.length (kcells (nd s i).kids))
    (hk : wr.ownsRow w.heap.size 55 3 vk (nd s k).kids.length (kcells (nd s k).kids))
    (h1 : w'.ownsRow w.heap.size 58 4 (.slice (some ⟨g, 0, none⟩) (k + 1) cap) (k + 1) (ncells s K k ++ ncell (nd s k) vk))
    (h2 : (wr.alloc o).grownBy w' vout.ownBlock) : CpW s w w' (k + 1) (.slice (some ⟨g, 0, none⟩) (k + 1) cap) := by
  have hb : Below w.heap.size w (wr.alloc o) := hb0.alloc hb0.size o
  refine ⟨hb.grown h2 hb.size (fun j hj => (q1.lt j hj).1), fun i => if i = k then vk else K i, ?_, fun i hi => ?_⟩
  · rw [ncells_succ, if_pos rfl, ncells_congr (K' := K) (fun i hi => if_neg (by omega))]
    exact h1
  · show w'.ownsRow _ _ _ (if i = k then vk else K i) _ _
    by_cases e : i = k
    · subst e; rw [if_pos rfl]; exact (hk.alloc o).kept h2 (row_ne3 q1 hk (by decide))
    · rw [if_neg e]; exact ((q2 i (by omega)).alloc o).kept h2 (row_ne3 q1 (q2 i (by omega)) (by decide))
theorem own_form2 {w : World} {base : Nat} {e : TypeId} {size : Nat} {v : Value} {n : Nat} {xs : List Value} (h : w.ownsRow base e size v n xs) : ∃ a cap, v = .slice a n cap ∧ (0 < n → ∃ g, a = some ⟨g, 0, none⟩) := by
  rcases h.2 with ⟨hv, hn⟩ | ⟨g, cap, cur, hv, _⟩
  · subst hn; exact ⟨none, 0, hv, fun h => absurd h (Nat.lt_irrefl _)⟩
  · exact ⟨_, cap, hv, fun _ => ⟨g, rfl⟩⟩
theorem add0 (g j : Nat) : (⟨g, 0, none⟩ : Addr).add j = ⟨g, j, none⟩ := by unfold Addr.add; split <;> simp_all
/-- The copy is the schema. -/
theorem CpW.sch {s : List Nd} {w wr : World} {vout : Value} (h : CpW s w wr s.length vout) : ∃ a c, vout = .slice a s.length c ∧ Sch wr a s := by
  obtain ⟨K, q1, q2⟩ := h.own
  obtain ⟨a, c, rfl, ha⟩ := own_form2 q1
  refine ⟨a, c, rfl, fun i hi => ?_⟩
  obtain ⟨g, rfl⟩ := ha (by omega)
  have cell : ∀ j, j < 4 → ∀ u, (ncell (nd s i) (K i))[j]? = some u → wr.cell? ⟨g, i * 4 + j, none⟩ = some u := fun j hj u hu => by
    have := q1.cells (g := g) rfl (i * 4 + j) u (by rw [ncells_get s K s.length i hi j hj]; exact hu)
    rwa [add0] at this
  obtain ⟨ka, kc, hK, hka⟩ := own_form2 (q2 i hi)
  have hq := q2 i hi
  rw [hK] at hq cell
  have hcap : (nd s i).kids.length ≤ kc ∧ kc ≤ maxLen := by
    rcases hq.2 with ⟨q, e⟩ | ⟨g', cap, cur, q, _, _, q3, q4, _⟩
    · injection q with _ e1 e2; subst e2; rw [e]; exact ⟨Nat.le_refl _, Nat.zero_le _⟩
    · injection q with _ _ e2; subst e2; exact ⟨q3, q4⟩
  refine ⟨g, 0, ka, kc, rfl, ⟨?_, ?_, ?_, ?_⟩, hcap.1, hcap.2, fun j hj => ?_⟩
  · simpa using cell 0 (by omega) _ rfl
  · simpa using cell 1 (by omega) _ rfl
  · simpa using cell 2 (by omega) _ rfl
  · simpa using cell 3 (by omega) _ rfl
  · obtain ⟨g', rfl⟩ := hka (by omega)
    have kcell : ∀ p, p < 3 → ∀ u, ((nd s i).kids.getD j kd0).cells[p]? = some u → wr.cell? ⟨g', j * 3 + p, none⟩ = some u := fun p hp u hu => by
      have := hq.cells (g := g') rfl (j * 3 + p) u (by rw [kcells_get _ j hj p hp]; exact hu)
      rwa [add0] at this
    exact ⟨g', 0, rfl, by simpa using kcell 0 (by omega) _ rfl, by simpa using kcell 1 (by omega) _ rfl, by simpa using kcell 2 (by omega) _ rfl⟩
end Go.Proofs.YtkkicodfpekbgaaGreatDoor

/-! hallmarklaw.copied: a schema like another, with lists of its own. -/
namespace Go.Proofs.YtkkicodfpekbgaaGreatDoor
set_option linter.unusedSimpArgs false
set_option linter.unusedVariables false
open Go.RowKit

def Tryz.zeroNode : Value := .agg #[.int .i64 0, .int .i64 0, .int .i64 0, .slice none 0 0]
theorem Tryz.infoNode : (Tryz.prog.info? 58).map (fun i => (i.zero, i.size, i.bytes)) = some (some Tryz.zeroNode, 4, 48) := by kernel_rfl
def Tryz.zeroKid : Value := .agg #[.int .i64 0, .bool false, .string ⟨#[]⟩]
theorem Tryz.infoKid : (Tryz.prog.info? 55).map (fun i => (i.zero, i.size, i.bytes)) = some (some Tryz.zeroKid, 3, 32) := by kernel_rfl

set_option maxHeartbeats 4000000 in
set_option maxRecDepth 100000 in
theorem copied_any (s : List Nd) (a : Option Addr) (c : Nat) (w : World) (hs : Sch w a s) (hn : s.length * 48 ≤ 140737488351232) (hkn : ∀ i, i < s.length → (nd s i).kids.length * 32 ≤ 140737488351232) :
    Calls Tryz.prog 13 #[.slice a s.length c] w fun e w' => ∃ vout, e = .returned vout ∧ CpW s w w' s.length vout := by
  have HS : Hid (Sch w a s) := hs
  have HKN : Hid (∀ i, i < s.length → (nd s i).kids.length * 32 ≤ 140737488351232) := hkn
  clear hs hkn
  obtain ⟨iN, hiN, hzN0, hzN1, hzN2⟩ := info_parts Tryz.infoNode
  obtain ⟨iK, hiK, hzK0, hzK1, hzK2⟩ := info_parts Tryz.infoKid
  go_enter Tryz.func13, Tryz.ntmps13
  go_wp2
  go_loopw [3, 4] (fun vout vi wr => ∃ k : Nat, k ≤ s.length ∧ vi = .int .i64 k ∧ CpW s w wr k vout) (fun _ vi _ => s.length - (intOf vi).toNat)
  case atStart => exact ⟨0, Nat.zero_le _, rfl, Below.refl _ _, fun _ => .slice none 0 0, World.ownsRow_nil _ _ _ _, fun i hi => absurd hi (Nat.not_lt_zero _)⟩
  case round =>
    obtain ⟨k, hk, rfl, hC⟩ := hrel
    have HC : Hid (CpW s w wr k u3) := hC
    by_cases hlt : k < s.length
    · have hlt' : (k : Int) < s.length := by omega
      have hkb := HKN.out k hlt
      obtain ⟨b, o, ka, kc, rfl, nc, kl, km, ks⟩ := HS.out k hlt
      obtain ⟨n1, n2, n3, n4⟩ := nc.below hC.bel
      have KS : Hid (KidsIn w ka (nd s k).kids) := ks
      have HN4 : Hid (w.cell? ⟨b, o + k * 4 + 3, none⟩ = some (.slice ka (nd s k).kids.length kc)) := nc.kids
      clear hC nc ks
      go_wp2
      obtain ⟨w0, hw0⟩ : ∃ w0, w0 = wr := ⟨_, rfl⟩
      subst hw0
      obtain ⟨Bn, hBn⟩ : ∃ Bn, Bn = w0.heap.size := ⟨_, rfl⟩
      have HBN : Hid (Bn = w0.heap.size) := hBn
      rw [← hBn]
      clear hBn
      go_loopw [6] (fun vj wx => ∃ (j : Nat) (vk : Value), vj = .int .i64 j ∧ j ≤ (nd s k).kids.length ∧ Hid (wx.heap[Bn]? = some (.cells #[.int .i64 (nd s k).kind, .int .i64 (nd s k).tag, .int .i64 (nd s k).mode, vk] 58 (0, 0))) ∧ Hid (wx.ownsRow (Bn + 1) 55 3 vk j (kcells ((nd s k).kids.take j))) ∧ Hid (Below Bn w0 wx)) (fun vj _ => (nd s k).kids.length - (intOf vj).toNat)
      case atStart =>
        obtain rfl := HBN.out
        exact ⟨0, _, rfl, Nat.zero_le _, heap_alloc_new w0 _, World.ownsRow_nil _ _ _ _, (Below.refl _ _).alloc (Nat.le_refl _) _⟩
      case round =>
        obtain ⟨j, vk, rfl, hj, HB, HO, HBL⟩ := hrel
        obtain ⟨va, vc, rfl, hva⟩ := own_form2 HO.out
        have HBW : Hid (Below w.heap.size w wr) := HC.out.bel.trans (by have := HBL.out; rw [HBN.out] at this; exact this.mono HC.out.bel.size)
        have g3 : wr.cell? ⟨Bn, 3, none⟩ = some (.slice va j vc) := by simp [World.cell?, HB.out]
        have f3 : wr.frozen? ⟨Bn, 3, none⟩ = false := by simp [World.frozen?, HB.out]
        have g0 : wr.cell? ⟨Bn, 0, none⟩ = some (.int .i64 (nd s k).kind) := by simp [World.cell?, HB.out]
        have g1 : wr.cell? ⟨Bn, 1, none⟩ = some (.int .i64 (nd s k).tag) := by simp [World.cell?, HB.out]
        have g2 : wr.cell? ⟨Bn, 2, none⟩ = some (.int .i64 (nd s k).mode) := by simp [World.cell?, HB.out]
        have hBl := lt_of_cell g3
        simp only at hBl
        have e4 : wr.cell? ⟨b, o + k * 4 + 3, none⟩ = some (.slice ka (nd s k).kids.length kc) := (HBW.out.cell (lt_of_cell HN4.out)).trans HN4.out
        have hkm : (nd s k).kids.length ≤ 9223372036854775807 := by omega
        have hszB : Bn ≤ wr.heap.size := by omega
        clear hva
        by_cases hjl : j < (nd s k).kids.length
        · obtain ⟨kb, ko, rfl, kcl⟩ := KS.out j hjl
          obtain ⟨y, hy⟩ : ∃ y, (nd s k).kids.getD j kd0 = y := ⟨_, rfl⟩
          have HY : Hid ((nd s k).kids.take (j + 1) = (nd s k).kids.take j ++ [y]) := by show (nd s k).kids.take (j + 1) = _; rw [List.take_add_one, List.getElem?_eq_getElem hjl, ← hy]; simp [hjl]
          rw [hy] at kcl
          obtain ⟨k1, k2, k3⟩ := kcl.below HBW.out
          have hjl' : (j : Int) < (nd s k).kids.length := by omega
          have NEB : Hid ((Value.slice va j vc).ownBlock ≠ some Bn) := fun e => by have := (HO.out.lt Bn e).1; omega
          clear kcl hy
          go_wp2_with fail
          have hszB1 : Bn + 1 ≤ (wr.drew.alloc (.cells #[.int .i64 y.node, .bool y.opt, .string y.dflt] 55)).heap.size := by simp; omega
          go_region_law (refine step_append_lies _ rfl (.tmp 29) (.tmp 38) 56 rfl (Bn + 1) 55 iK Tryz.zeroKid 3 32 Tryz.underlying56 hiK hzK0 hzK1 hzK2 rfl (by decide) (.slice va j vc) j (kcells ((nd s k).kids.take j)) (by simp [Act.eval, Act.put]) (HO.out.drew.alloc _) ⟨wr.heap.size, 0, none⟩ 1 1 y.cells (by simp [Act.eval, Act.put]) rfl (World.news_of_block (heap_alloc_new wr.drew _)) (by intro u hu; unfold Kd.cells at hu; simp at hu; rcases hu with rfl | rfl | rfl <;> rfl) (by decide) (by unfold maxLen; omega) (by omega) hszB1 (wr.heap.size + 1) (by simp) ?_; intro g cap w3 h1 h2 h3 h4; have hG3 := keep_other (w := wr.drew) HB.out NEB.out h2; have hB3 := (HBL.out.drew.alloc (by exact hszB) _).grown h2 (Nat.le_trans hszB (by simp)) (fun q hq => by have := (HO.out.lt q hq).1; omega); have d3 : w3.cell? ⟨Bn, 3, none⟩ = some (.slice va j vc) := (by simp [World.cell?, hG3]); have e3 : w3.frozen? ⟨Bn, 3, none⟩ = false := (by simp [World.frozen?, hG3]))
          all_goals
            have HG4 : Hid ((w3.setCell ⟨Bn, 3, none⟩ (.slice (some ⟨g, 0, none⟩) (j + 1) cap)).heap[Bn]? = some (.cells #[.int .i64 (nd s k).kind, .int .i64 (nd s k).tag, .int .i64 (nd s k).mode, .slice (some ⟨g, 0, none⟩) (j + 1) cap] 58 (0, 0))) := heap_setCell_same w3 Bn 3 _ _ _ hG3
            have HO4 : Hid ((w3.setCell ⟨Bn, 3, none⟩ (.slice (some ⟨g, 0, none⟩) (j + 1) cap)).ownsRow (Bn + 1) 55 3 (.slice (some ⟨g, 0, none⟩) (j + 1) cap) (j + 1) (kcells ((nd s k).kids.take (j + 1)))) := by
              show World.ownsRow _ _ _ _ _ _ _
              rw [HY.out, kcells_append]
              exact ownsRow_setCell_other h1 (fun e => by have := (h1.lt Bn e).1; omega) _
            have HB4 : Hid (Below Bn w0 (w3.setCell ⟨Bn, 3, none⟩ (.slice (some ⟨g, 0, none⟩) (j + 1) cap))) := hB3.setCell (p := ⟨Bn, 3, none⟩) (Nat.le_refl _) _
            clear h1 h2 h3 h4 hG3 hB3
            go_wp2
            go_roundw
            case rel => exact ⟨j + 1, _, by go_num, by omega, HG4, HO4, HB4⟩
            case measure => simp [intOf]; omega
        · have hjl' : ((nd s k).kids.length : Int) ≤ j := by omega
          obtain rfl : j = (nd s k).kids.length := by omega
          have hC' : CpW s w wr k u3 := HC.out.below (by have := HBL.out; rw [HBN.out] at this; exact this)
          obtain ⟨K, q1, q2⟩ := hC'.own
          have HQ1 : Hid (wr.ownsRow w.heap.size 58 4 u3 k (ncells s K k)) := q1
          have HQ2 : Hid (∀ i, i < k → wr.ownsRow w.heap.size 55 3 (K i) (nd s i).kids.length (kcells (nd s i).kids)) := q2
          have HQ3 : Hid (wr.ownsRow w.heap.size 55 3 (.slice va (nd s k).kids.length vc) (nd s k).kids.length (kcells (nd s k).kids)) := by
            have := HO.out
            rw [List.take_length] at this
            exact ownsRow_base this (by have := HC.out.bel.size; have := HBN.out; omega)
          have hszW : w.heap.size ≤ wr.heap.size + 1 := by have := HBW.out.size; omega
          clear hC' q1 q2
          go_wp2_with (at_builtin; refine wpList_append_lies _ rfl (.tmp 41) (.tmp 43) 22 rfl w.heap.size 58 iN Tryz.zeroNode 4 48 Tryz.underlying22 hiN hzN0 hzN1 hzN2 rfl (by decide) u3 k (ncells s K k) rfl (HQ1.out.alloc _) ⟨wr.heap.size, 0, none⟩ 1 1 (ncell (nd s k) (.slice va (nd s k).kids.length vc)) rfl rfl (World.news_of_block (heap_alloc_new wr _)) (by intro u hu; unfold ncell at hu; simp at hu; rcases hu with rfl | rfl | rfl | rfl <;> rfl) (by decide) (by unfold maxLen; omega) (by omega) (by simpa using hszW) (wr.heap.size + 1) (by simp) ?_)
          intro g cap w3 h1 h2 h3 h4
          have HC3 : Hid (CpW s w w3 (k + 1) (.slice (some ⟨g, 0, none⟩) (k + 1) cap)) := CpW.put HBW.out HQ1.out HQ2.out HQ3.out h1 h2
          clear h1 h2 h3 h4
          go_wp2
          go_roundw
          case rel => exact ⟨k + 1, by omega, by go_num, HC3.out⟩
          case measure => simp [intOf]; omega
    · have hlt' : (s.length : Int) ≤ k := by omega
      obtain rfl : k = s.length := by omega
      clear hC
      go_wp2
      go_ret
      exact ⟨u3, rfl, HC.out⟩
end Go.Proofs.YtkkicodfpekbgaaGreatDoor

/-! A schema that came in: its nodes and kids as plain data, and how great they may be. -/
namespace Go.Proofs.YtkkicodfpekbgaaGreatDoor
set_option linter.unusedSimpArgs false
set_option linter.unusedVariables false
open Go.RowKit Go.Deep Go.ChangeShapes Go.WideShapes
set_option maxRecDepth 100000

theorem Tryz.cK : Tryz.prog.cellsOf 55 = 3 := by kernel_rfl
theorem Tryz.cN : Tryz.prog.cellsOf 58 = 4 := by kernel_rfl
theorem Tryz.cI : Tryz.prog.cellsOf 3 = 1 := by kernel_rfl
theorem Tryz.cB : Tryz.prog.cellsOf 4 = 1 := by kernel_rfl
theorem Tryz.cS : Tryz.prog.cellsOf 9 = 1 := by kernel_rfl
theorem Tryz.cKs : Tryz.prog.cellsOf 56 = 1 := by kernel_rfl
theorem Tryz.bK : Tryz.prog.bytesOf 55 = 32 := by kernel_rfl
theorem Tryz.bN : Tryz.prog.bytesOf 58 = 48 := by kernel_rfl

theorem mem_weightsAll {H : Type} {P : Program} {e : TypeId} {l : List (DataW H)} {d : DataW H} (hd : d ∈ l) {n : Nat} (hn : n ∈ d.weights P e) : n ∈ DataW.weightsAll P e l := by
  induction l with
  | nil => cases hd
  | cons x r ih =>
    simp only [DataW.weightsAll, List.mem_append]
    rcases List.mem_cons.1 hd with rfl | h
    · exact .inl hn
    · exact .inr (ih h)
theorem plain_add (b o n : Nat) : (⟨b, o, none⟩ : Addr).add n = ⟨b, o + n, none⟩ := by unfold Addr.add; split <;> simp_all
theorem spot_none {w : World} {a : Addr} {v : Value} (h : w.cell? a = some v) : a = ⟨a.block, a.off, none⟩ := by
  obtain ⟨b, o, sp⟩ := a
  cases sp with
  | none => rfl
  | some k =>
    unfold World.cell? at h
    simp only at h
    split at h
    · simp at h
    · cases h
theorem getD_map_range {α : Type} (f : Nat → α) (d : α) {n i : Nat} (h : i < n) : ((List.range n).map f).getD i d = f i := by
  rw [List.getD_eq_getElem?_getD, List.getElem?_eq_getElem (by simpa using h)]
  simp

section
variable {H : Type} {enc : TypeId × Value → H} {w : World} {base : Nat} {sp : Nat → Bool} {held : Bool}
theorem open_kid {fuel : Nat} {cs : List Value} {x : DataW H × List MemPlace} (h : DataW.trod enc Tryz.prog w base sp held fuel 55 cs = some x) :
    ∃ k : Kd, cs = [.int .i64 k.node, .bool k.opt, .string k.dflt] ∧ k.dflt.size ∈ x.1.weights Tryz.prog 55 := by
  obtain ⟨xs, n, _, hx, hl, hlen, hel⟩ := DataW.trod_struct Tryz.underlying55 h
  rw [Tryz.cK] at hl
  match cs, hl, xs, hlen, hx, hel with
  | [c0, c1, c2], _, [x0, x1, x2], _, hx, hel =>
    have k0 := hel 0 _ rfl
    have k1 := hel 1 _ rfl
    have k2 := hel 2 _ rfl
    obtain ⟨y0, e0, _⟩ := DataW.trod_int Tryz.underlying3 k0
    obtain ⟨y1, e1, _⟩ := DataW.trod_bool Tryz.underlying4 k1
    obtain ⟨y2, e2, f2, _⟩ := DataW.trod_string Tryz.underlying9 k2
    simp [Tryz.cI, Tryz.cB, Tryz.cS] at e0 e1 e2
    subst e0 e1 e2
    refine ⟨⟨y0, y1, y2⟩, rfl, ?_⟩
    rw [hx]
    simp only [DataW.weights, Tryz.underlying55]
    refine DataW.weights_mem_each (j := 2) (t := 9) (d := x2.1) rfl rfl _ ?_
    rw [f2]
    simp only [DataW.weights]
    exact List.mem_singleton.2 (Array.length_toList (xs := y2.data)).symm
theorem open_kids {fuel : Nat} {cs : List Value} {x : DataW H × List MemPlace} (h : DataW.trod enc Tryz.prog w base sp held fuel 56 cs = some x) :
    ∃ (ka : Option Addr) (ks : List Kd) (kc : Nat), cs = [.slice ka ks.length kc] ∧ ks.length ≤ kc ∧ kc ≤ maxLen ∧ KidsIn w ka ks ∧
      ∀ N, (∀ n ∈ x.1.weights Tryz.prog 56, n ≤ N) → ks.length * 32 ≤ N ∧ ∀ k ∈ ks, k.dflt.size ≤ N := by
  rcases open_slice Tryz.underlying56 h with ⟨rfl, rfl⟩ | ⟨a, len, cap, m, n, D, Pl, rfl, hb, hl, hm, hmm, rfl, hx⟩
  · exact ⟨none, [], 0, rfl, Nat.le_refl _, Nat.zero_le _, fun j hj => absurd hj (Nat.not_lt_zero _), fun N _ => ⟨by simp, fun k hk => by cases hk⟩⟩
  have hlm : len ≤ m := by rw [hmm]; split <;> omega
  rw [Tryz.cK] at hx
  have each : ∀ i, i < len → ∃ k : Kd, w.cell? (a.add (i * 3)) = some (.int .i64 k.node) ∧ w.cell? (a.add (i * 3 + 1)) = some (.bool k.opt) ∧ w.cell? (a.add (i * 3 + 2)) = some (.string k.dflt) ∧ k.dflt.size ∈ (D i).weights Tryz.prog 55 := by
    intro i hi
    obtain ⟨cs', h1, h2⟩ := hx i (by omega)
    obtain ⟨k, rfl, hk⟩ := open_kid h2
    obtain ⟨_, _, hcell⟩ := World.cells?_some h1
    have e0 := hcell 0 (by omega)
    have e1 := hcell 1 (by omega)
    have e2 := hcell 2 (by omega)
    rw [add_add] at e0 e1 e2
    exact ⟨k, by simpa using e0, by simpa using e1, by simpa using e2, hk⟩
  obtain ⟨K, hK⟩ := @choose_lt Kd ⟨kd0⟩ _ _ each
  have hlen : ((List.range len).map K).length = len := by simp
  refine ⟨some a, (List.range len).map K, cap, by rw [hlen], by rw [hlen]; exact hl, hm, fun j hj => ?_, fun N hN => ?_⟩
  · rw [hlen] at hj
    have h0 := (hK 0 (by omega)).1
    have ea : a = ⟨a.block, a.off, none⟩ := spot_none (w := w) (a := a) (v := .int .i64 (K 0).node) (by simpa [Addr.add] using h0)
    obtain ⟨q0, q1, q2, _⟩ := hK j hj
    rw [ea, plain_add] at q0 q1 q2
    rw [getD_map_range K kd0 hj]
    exact ⟨a.block, a.off, congrArg some ea, q0, by rw [← Nat.add_assoc] at q1; exact q1, by rw [← Nat.add_assoc] at q2; exact q2⟩
  · simp only [DataW.weights, Tryz.underlying56] at hN
    refine ⟨?_, fun k hk => ?_⟩
    · have := hN _ (List.mem_cons_self ..)
      rw [Tryz.bK] at this
      simp at this ⊢
      omega
    · obtain ⟨i, hi, rfl⟩ := List.mem_map.1 hk
      have hi' := List.mem_range.1 hi
      exact hN _ (List.mem_cons_of_mem _ (List.mem_append_left _ (mem_weightsAll (d := D i) (List.mem_map.2 ⟨i, hi, rfl⟩) (hK i hi').2.2.2)))
theorem open_node {fuel : Nat} {cs : List Value} {x : DataW H × List MemPlace} (h : DataW.trod enc Tryz.prog w base sp held fuel 58 cs = some x) :
    ∃ (n : Nd) (ka : Option Addr) (kc : Nat), cs = [.int .i64 n.kind, .int .i64 n.tag, .int .i64 n.mode, .slice ka n.kids.length kc] ∧ n.kids.length ≤ kc ∧ kc ≤ maxLen ∧ KidsIn w ka n.kids ∧
      ∀ N, (∀ m ∈ x.1.weights Tryz.prog 58, m ≤ N) → n.kids.length * 32 ≤ N ∧ ∀ k ∈ n.kids, k.dflt.size ≤ N := by
  obtain ⟨xs, n, _, hx, hl, hlen, hel⟩ := DataW.trod_struct Tryz.underlying58 h
  rw [Tryz.cN] at hl
  match cs, hl, xs, hlen, hx, hel with
  | [c0, c1, c2, c3], _, [x0, x1, x2, x3], _, hx, hel =>
    have k0 := hel 0 _ rfl
    have k1 := hel 1 _ rfl
    have k2 := hel 2 _ rfl
    have k3 := hel 3 _ rfl
    obtain ⟨y0, e0, _⟩ := DataW.trod_int Tryz.underlying3 k0
    obtain ⟨y1, e1, _⟩ := DataW.trod_int Tryz.underlying3 k1
    obtain ⟨y2, e2, _⟩ := DataW.trod_int Tryz.underlying3 k2
    obtain ⟨ka, ks, kc, e3, g1, g2, g3, g4⟩ := open_kids k3
    simp [Tryz.cI, Tryz.cKs] at e0 e1 e2 e3
    subst e0 e1 e2 e3
    refine ⟨⟨y0, y1, y2, ks⟩, ka, kc, rfl, g1, g2, g3, fun N hN => g4 N fun m hm => hN m ?_⟩
    rw [hx]
    simp only [DataW.weights, Tryz.underlying58]
    exact DataW.weights_mem_each (j := 3) (t := 56) (d := x3.1) rfl rfl _ hm
/-- How great a schema may be. -/
structure Fits (s : List Nd) : Prop where
  len : s.length * 48 ≤ 140737488351232
  kids : ∀ i, i < s.length → (nd s i).kids.length * 32 ≤ 140737488351232
  ok : SchOk s
theorem open_schema {fuel : Nat} {cs : List Value} {x : DataW H × List MemPlace} (h : DataW.trod enc Tryz.prog w base sp held fuel 22 cs = some x) :
    ∃ (a : Option Addr) (s : List Nd) (c : Nat), cs = [.slice a s.length c] ∧ s.length ≤ c ∧ c ≤ maxLen ∧ Sch w a s ∧ ((∀ n ∈ x.1.weights Tryz.prog 22, n ≤ 140737488351232) → Fits s) := by
  rcases open_slice Tryz.underlying22 h with ⟨rfl, rfl⟩ | ⟨a, len, cap, m, n, D, Pl, rfl, hb, hl, hm, hmm, rfl, hx⟩
  · exact ⟨none, [], 0, rfl, Nat.le_refl _, Nat.zero_le _, fun j hj => absurd hj (Nat.not_lt_zero _), fun _ => ⟨by simp, fun i hi => absurd hi (Nat.not_lt_zero _), fun i hi => absurd hi (Nat.not_lt_zero _)⟩⟩
  have hlm : len ≤ m := by rw [hmm]; split <;> omega
  rw [Tryz.cN] at hx
  have each : ∀ i, i < len → ∃ q : Nd × Option Addr × Nat, w.cell? (a.add (i * 4)) = some (.int .i64 q.1.kind) ∧ w.cell? (a.add (i * 4 + 1)) = some (.int .i64 q.1.tag) ∧ w.cell? (a.add (i * 4 + 2)) = some (.int .i64 q.1.mode) ∧
      w.cell? (a.add (i * 4 + 3)) = some (.slice q.2.1 q.1.kids.length q.2.2) ∧ q.1.kids.length ≤ q.2.2 ∧ q.2.2 ≤ maxLen ∧ KidsIn w q.2.1 q.1.kids ∧
      ∀ N, (∀ m ∈ (D i).weights Tryz.prog 58, m ≤ N) → q.1.kids.length * 32 ≤ N ∧ ∀ k ∈ q.1.kids, k.dflt.size ≤ N := by
    intro i hi
    obtain ⟨cs', h1, h2⟩ := hx i (by omega)
    obtain ⟨k, ka, kc, rfl, g1, g2, g3, g4⟩ := open_node h2
    obtain ⟨_, _, hcell⟩ := World.cells?_some h1
    have e0 := hcell 0 (by omega)
    have e1 := hcell 1 (by omega)
    have e2 := hcell 2 (by omega)
    have e3 := hcell 3 (by omega)
    rw [add_add] at e0 e1 e2 e3
    exact ⟨(k, ka, kc), by simpa using e0, by simpa using e1, by simpa using e2, by simpa using e3, g1, g2, g3, g4⟩
  obtain ⟨K, hK⟩ := @choose_lt (Nd × Option Addr × Nat) ⟨(nd0, none, 0)⟩ _ _ each
  have hlen : ((List.range len).map fun i => (K i).1).length = len := by simp
  have hnd : ∀ i, i < len → nd ((List.range len).map fun i => (K i).1) i = (K i).1 := fun i hi => getD_map_range (fun i => (K i).1) nd0 hi
  refine ⟨some a, (List.range len).map fun i => (K i).1, cap, by rw [hlen], by rw [hlen]; exact hl, hm, fun j hj => ?_, fun hN => ?_⟩
  · rw [hlen] at hj
    have h0 := (hK 0 (by omega)).1
    have ea : a = ⟨a.block, a.off, none⟩ := spot_none (w := w) (a := a) (v := .int .i64 (K 0).1.kind) (by simpa [Addr.add] using h0)
    obtain ⟨q0, q1, q2, q3, g1, g2, g3, _⟩ := hK j hj
    rw [ea, plain_add] at q0 q1 q2 q3
    rw [hnd j hj]
    exact ⟨a.block, a.off, (K j).2.1, (K j).2.2, congrArg some ea, ⟨q0, by rw [← Nat.add_assoc] at q1; exact q1, by rw [← Nat.add_assoc] at q2; exact q2, by rw [← Nat.add_assoc] at q3; exact q3⟩, g1, g2, g3⟩
  · simp only [DataW.weights, Tryz.underlying22] at hN
    have each2 : ∀ i, i < len → (K i).1.kids.length * 32 ≤ 140737488351232 ∧ ∀ k ∈ (K i).1.kids, k.dflt.size ≤ 140737488351232 := fun i hi =>
      (hK i hi).2.2.2.2.2.2.2 _ fun m hm => hN m (List.mem_cons_of_mem _ (List.mem_append_left _ (mem_weightsAll (d := D i) (List.mem_map.2 ⟨i, List.mem_range.2 hi, rfl⟩) hm)))
    refine ⟨?_, fun i hi => ?_, fun i hi => ?_⟩
    · have := hN _ (List.mem_cons_self ..)
      rw [Tryz.bN] at this
      simp at this ⊢
      omega
    · rw [hlen] at hi; rw [hnd i hi]; exact (each2 i hi).1
    · rw [hlen] at hi; rw [hnd i hi]; exact (each2 i hi).2
end
end Go.Proofs.YtkkicodfpekbgaaGreatDoor
