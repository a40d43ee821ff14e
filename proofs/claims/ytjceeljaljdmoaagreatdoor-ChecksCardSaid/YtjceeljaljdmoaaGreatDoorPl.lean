/-
  schemas.AllBeginnings: what it answers.
-/
import Derived.Test.YtjceeljaljdmoaaGreatDoorPi
namespace Go.Proofs.YtjceeljaljdmoaaGreatDoor
open Go.RowKit

/-- What the beginnings of a node are. -/
def BegIs (s : List Nd) (i : Nat) (all : Bool) (ts : List (Int × Int)) : Prop := ts.length ≤ 41 ∧ (all = true ↔ ∃ j, Leaf s i j ∧ (nd s j).every) ∧ (∀ t, t ∈ ts ↔ ∃ j, Leaf s i j ∧ ¬ (nd s j).every ∧ (nd s j).outer = t)
/-- The first of them lie in a row that the call owns. -/
structure AbW (s : List Nd) (w wr : World) (m : Nat) : Prop where
  bel : Below w.heap.size w wr
  row : ∃ C : Array Value, wr.heap[w.heap.size]? = some (.cells C 141 (0, 0)) ∧ C.size = s.length * 2 ∧
    ∀ j, j < m → ∃ all vt ts, C[j * 2]? = some (.bool all) ∧ C[j * 2 + 1]? = some vt ∧ wr.ownsRow w.heap.size 121 2 vt ts.length (tcells ts) ∧ BegIs s j all ts
theorem AbW.below {s : List Nd} {w wr w' : World} {m : Nat} (h : AbW s w wr m) (hb : Below wr.heap.size wr w') : AbW s w w' m where
  bel := h.bel.trans (hb.mono h.bel.size)
  row := by
    obtain ⟨C, h1, h2, h3⟩ := h.row
    refine ⟨C, block_below h1 hb, h2, fun j hj => ?_⟩
    obtain ⟨all, vt, ts, q1, q2, q3, q4⟩ := h3 j hj
    exact ⟨all, vt, ts, q1, q2, own_below q3 hb, q4⟩
/-- One more is stored. -/
theorem AbW.put {s : List Nd} {w wr : World} {m : Nat} {all : Bool} {vt : Value} {ts : List (Int × Int)} (h : AbW s w wr m) (hm : m < s.length) (ho : wr.ownsRow w.heap.size 121 2 vt ts.length (tcells ts)) (hb : BegIs s m all ts) :
    AbW s w ((wr.setCell ⟨w.heap.size, m * 2, none⟩ (.bool all)).setCell ⟨w.heap.size, m * 2 + 1, none⟩ vt) (m + 1) where
  bel := (h.bel.setCell (p := ⟨w.heap.size, m * 2, none⟩) (Nat.le_refl _) _).setCell (p := ⟨w.heap.size, m * 2 + 1, none⟩) (Nat.le_refl _) _
  row := by
    obtain ⟨C, h1, h2, h3⟩ := h.row
    refine ⟨(C.setIfInBounds (m * 2) (.bool all)).setIfInBounds (m * 2 + 1) vt, heap_setCell_same _ _ _ _ _ _ (heap_setCell_same wr _ _ _ _ _ h1), by simp [h2], fun j hj => ?_⟩
    have own : ∀ {v : Value} {ts : List (Int × Int)}, wr.ownsRow w.heap.size 121 2 v ts.length (tcells ts) → ((wr.setCell ⟨w.heap.size, m * 2, none⟩ (.bool all)).setCell ⟨w.heap.size, m * 2 + 1, none⟩ vt).ownsRow w.heap.size 121 2 v ts.length (tcells ts) := fun q => by
      have ne := row_ne1 h1 q (by decide)
      exact ownsRow_setCell_other (ownsRow_setCell_other q ne _) ne _
    by_cases e : j = m
    · subst e
      refine ⟨all, vt, ts, ?_, ?_, own ho, hb⟩
      · rw [Array.getElem?_setIfInBounds, if_neg (by omega), Array.getElem?_setIfInBounds, if_pos rfl, if_pos (by omega)]
      · rw [Array.getElem?_setIfInBounds, if_pos rfl, if_pos (by simp; omega)]
    · obtain ⟨all', vt', ts', q1, q2, q3, q4⟩ := h3 j (by omega)
      refine ⟨all', vt', ts', ?_, ?_, own q3, q4⟩
      · rw [Array.getElem?_setIfInBounds, if_neg (by omega), Array.getElem?_setIfInBounds, if_neg (by omega)]; exact q1
      · rw [Array.getElem?_setIfInBounds, if_neg (by omega), Array.getElem?_setIfInBounds, if_neg (by omega)]; exact q2
def Tryz.zeroTs : Value := .agg #[.bool false, .slice none 0 0]
theorem Tryz.infoTs : (Tryz.prog.info? 141).map (fun i => (i.zero, i.size, i.bytes)) = some (some Tryz.zeroTs, 2, 32) := by kernel_rfl

set_option maxHeartbeats 2000000 in
set_option maxRecDepth 100000 in
theorem allBeginnings_any (s : List Nd) (a : Option Addr) (c : Nat) (w : World) (hs : Sch w a s) (hw : Within s) (htg : Tags s) (hkd : Kinds s) (hnm : Nums w) (hn : s.length ≤ 40) :
    Calls Tryz.prog 43 #[.slice a s.length c] w fun e w' => e = .returned (.slice (some ⟨w.heap.size, 0, none⟩) s.length s.length) ∧ AbW s w w' s.length := by
  have HR : Hid (∀ wr i, Below w.heap.size w wr → i < s.length → Calls Tryz.prog 68 #[.slice a s.length c, .int .i64 i] wr fun e w' => RetT s i wr e w') := fun wr i hb hi => beginningsOf_any s a c i wr (hs.below hb) hw htg hkd (hnm.below hb) hi hn
  clear hs hw htg hkd hnm
  obtain ⟨i0, hi0, hz0, hz1, hz2⟩ := info_parts Tryz.infoTs
  obtain ⟨w1, hrun, hown, hgr⟩ := run_make_full (P := Tryz.prog) w w.heap.size 92 141 i0 Tryz.zeroTs 2 Tryz.underlying92 hi0 hz0 hz1 .i64 .i64 s.length (by rw [hz2]; omega) (by unfold maxLen; omega) (Nat.le_refl _)
  have HA0 : Hid (AbW s w w1 0) := by
    refine ⟨(Below.refl w.heap.size w).grown hgr (Nat.le_refl _) (fun k hk => by cases hk), ?_⟩
    rcases hown.2 with ⟨q, _⟩ | ⟨g, cap, cur, q, _, q1, _, _, q2, _⟩
    · cases q
    · injection q with e1 _ e3
      injection e1 with e1
      injection e1 with e1 _ _
      subst e1 e3
      exact ⟨cur, q1, q2, fun j hj => absurd hj (Nat.not_lt_zero _)⟩
  clear hown hgr
  go_enter Tryz.func43, Tryz.ntmps43
  go_wp2
  go_loopw [10] (fun vj wr => ∃ j : Nat, vj = .int .i64 j ∧ j ≤ s.length ∧ AbW s w wr j) (fun vj _ => s.length - (intOf vj).toNat)
  case atStart => exact ⟨0, rfl, Nat.zero_le _, HA0.out⟩
  case round =>
    obtain ⟨j, rfl, hj, hA⟩ := hrel
    have HA : Hid (AbW s w wr j) := hA
    by_cases hlt : j < s.length
    · have hlt' : (j : Int) < s.length := by omega
      clear hA
      go_wp2_with fail
      refine (HR.out _ j HA.out.bel hlt).mono ?_
      rintro e w2 ⟨all, vt, ts, rfl, hown, hb2, hl, h1, h2⟩
      have HA2 : Hid (AbW s w w2 j) := HA.out.below hb2
      obtain ⟨ta, tc, rfl, _⟩ := own_form hown
      have HO2 : Hid (w2.ownsRow w.heap.size 121 2 (.slice ta ts.length tc) ts.length (tcells ts)) := by
        obtain ⟨q1, q2⟩ := hown
        refine ⟨q1, ?_⟩
        rcases q2 with q2 | ⟨g, cap, cur, q3, q4, q5⟩
        · exact .inl q2
        · exact .inr ⟨g, cap, cur, q3, Nat.le_trans HA.out.bel.size q4, q5⟩
      have HBI : Hid (BegIs s j all ts) := ⟨hl, h1, h2⟩
      have hC : ∀ k, k < s.length * 2 → (∃ u, w2.cell? ⟨w.heap.size, k, none⟩ = some u) ∧ w2.frozen? ⟨w.heap.size, k, none⟩ = false := fun k hk => by
        obtain ⟨C, q1, q2, _⟩ := HA2.out.row
        refine ⟨⟨C[k]'(by omega), by simp only [World.cell?, q1]; simp⟩, by simp [World.frozen?, q1]⟩
      obtain ⟨⟨u0, c0⟩, f0⟩ := hC (j * 2) (by omega)
      obtain ⟨⟨u1, c1⟩, f1⟩ := hC (j * 2 + 1) (by omega)
      clear hown hb2 h1 h2 hl hC
      go_wp2
      go_roundw
      case rel => exact ⟨j + 1, by go_num, by omega, HA2.out.put hlt HO2.out HBI.out⟩
      case measure => simp [intOf]; omega
    · have hlt' : (s.length : Int) ≤ j := by omega
      obtain rfl : j = s.length := by omega
      clear hA
      go_wp2
      go_ret
      exact ⟨rfl, HA.out⟩
end Go.Proofs.YtjceeljaljdmoaaGreatDoor
