/-
  Several texts in one:
  slices.Index, slices.Contains at tags; tagSet.meets: what they answer.
  schemas.AllBeginnings: what it answers.
  Beginnings read again: the row that AllBeginnings leaves; two of them meet as the nodes do.
  schemas.choiceIsPlain: what it answers.
  schemas.seqIsPlain, schemas.isPlain: what they answer.
  hallmarklaw.copied: what it holds in memory, and that it is the schema.
  What writing a tree comes to, as a function on plain data: with fuel, the writing of a node as a parameter of the parts. No walk in it.
  Sorted: its schema, its trees, its bytes.
  hallmarklaw.alike: of two schemas that are the same, wherever they lie, it answers true.
  hallmarkkeep.same, of two lists that hold the same values; hallmarkkeep.rises: what it answers.
  hallmarkkeep.pick: a raw number, taken into its bounds.
  A head that is told is read again: plain mathematics; no program is named here.
  What is read of a head can be told in one way alone: plain mathematics.
  A text that lies within data, and what is read of it: plain mathematics.
  appendLength: what it appends.
  slices.Insert of bytes: what it leaves (the library's own text; the roads: at the end; in place; a new row).
  What the program's writer has told, step by step: plain mathematics.
  bytes.Compare: what it answers.
  element.Tell, hallmark.Tell: what they answer.
  slices.Backward over the heads around: the library's iterator, its contract.
  Choices within one another, and the heads around them: plain mathematics; the list of these heads in memory.
-/
import Derived.Test.YtkkicodfpekbgaaGreatDoorJ4
import Derived.Test.YtkkicodfpekbgaaGreatDoorJ3
import Derived.Deep.RegionWith
import Derived.WalkMore
import Derived.Test.YtkkicodfpekbgaaGreatDoorJ1
import Derived.Test.YtkkicodfpekbgaaGreatDoorJ2
import Derived.Test.YtkkicodfpekbgaaGreatDoorJ0
import Derived.Test.YtkkicodfpekbgaaGreatDoorRows
import Derived.WalkKit
import Derived.WalkSpells
import Derived.WalkLawsBesides
import Derived.Laws.IdiomStrings
import Derived.Deep.AppendLies
import Derived.Deep.RegionLaw
import Derived.Lib.AppendZeros
import Derived.Lib.AppendZerosOnto
import Derived.Laws.Externs
import Derived.Laws.IdiomCopy
import Derived.Laws.NewBlocks
import Derived.Lib.Bytealg
import Derived.RangeFuncNested
import Derived.RangeFuncBound
import Derived.RangeFuncCalls
import Derived.RangeFuncLeaves
import Derived.RangeFuncBox
import Derived.Shelf.Abstract
import Derived.Shelf.RegionOpen
import Derived.OwnWalkIn
import Derived.TacticsInMore
import Derived.LoopNIn
import Derived.LoopIn
/-! slices.Index, slices.Contains at tags; tagSet.meets: what they answer. -/
namespace Go.Proofs.YtkkicodfpekbgaaGreatDoor
set_option linter.unusedSimpArgs false
set_option linter.unusedVariables false
open Go.RowKit

/-- Tags behind an address. -/
def TagsIn (w : World) (a : Option Addr) (ts : List (Int × Int)) : Prop := ∀ j, j < ts.length → ∃ b o, a = some ⟨b, o, none⟩ ∧ w.cell? ⟨b, o + j * 2, none⟩ = some (.int .i64 (ts.getD j (0, 0)).1) ∧ w.cell? ⟨b, o + j * 2 + 1, none⟩ = some (.int .i64 (ts.getD j (0, 0)).2)
theorem TagsIn.below {w w' : World} {a : Option Addr} {ts : List (Int × Int)} (h : TagsIn w a ts) (hb : Below w.heap.size w w') : TagsIn w' a ts := fun j hj => by
  obtain ⟨b, o, e, h1, h2⟩ := h j hj
  exact ⟨b, o, e, (hb.cell (lt_of_cell h1)).trans h1, (hb.cell (lt_of_cell h2)).trans h2⟩

set_option maxHeartbeats 2000000 in
set_option maxRecDepth 100000 in
theorem index_any (ts : List (Int × Int)) (a : Option Addr) (c : Nat) (t : Int × Int) (w : World) (h : TagsIn w a ts) (hl : ts.length ≤ 41) :
    Calls Tryz.prog 199 #[.slice a ts.length c, .agg #[.int .i64 t.1, .int .i64 t.2]] w fun e w' => ∃ r, e = .returned (.int .i64 r) ∧ (0 ≤ r ↔ t ∈ ts) ∧ Below w.heap.size w w' := by
  obtain ⟨t1, t2⟩ := t
  have HI : Hid (TagsIn w a ts) := h
  clear h
  go_enter Tryz.func199, Tryz.ntmps199
  go_wp2
  go_loopw [8] (fun vj wr => ∃ j : Nat, vj = .int .i64 j ∧ j ≤ ts.length ∧ (∀ p, p < j → ts.getD p (0, 0) ≠ (t1, t2)) ∧ ∃ q, wr = (w.alloc (.cells #[.int .i64 t1, .int .i64 t2] 147)).drewN q) (fun vj _ => ts.length - (intOf vj).toNat)
  case atStart => exact ⟨0, rfl, Nat.zero_le _, fun _ h => absurd h (Nat.not_lt_zero _), 0, rfl⟩
  case round =>
    obtain ⟨j, rfl, hj, hno, q, rfl⟩ := hrel
    have HN : Hid (∀ p, p < j → ts.getD p (0, 0) ≠ (t1, t2)) := hno
    have HB : Hid (∀ q, Below w.heap.size w ((w.alloc (.cells #[.int .i64 t1, .int .i64 t2] 147)).drewN q)) := fun q => below_drewN ((Below.refl _ _).alloc (Nat.le_refl _) _) q
    clear hno
    by_cases hlt : j < ts.length
    · obtain ⟨b, o, rfl, c1, c2⟩ := HI.out j hlt
      have hbl : b < w.heap.size := lt_of_cell c1
      have hlt' : (j : Int) < ts.length := by omega
      have HM : Hid (ts.getD j (0, 0) ∈ ts) := by show _ ∈ ts; rw [List.getD_eq_getElem?_getD, List.getElem?_eq_getElem hlt]; exact List.getElem_mem hlt
      obtain ⟨u, hu⟩ : ∃ u, ts.getD j (0, 0) = u := ⟨_, rfl⟩
      have HU : Hid (ts.getD j (0, 0) = u) := hu
      rw [hu] at c1 c2
      clear hu
      obtain ⟨u1, u2⟩ := u
      simp only at c1 c2
      by_cases e : t1 = u1 ∧ t2 = u2
      · obtain ⟨rfl, rfl⟩ := e
        go_wp2
        go_quiet (fail)
        go_wp2
        go_ret
        exact ⟨j, rfl, ⟨fun _ => by rw [← HU.out]; exact HM.out, fun _ => by omega⟩, below_drewN (HB.out _) _⟩
      · have HE : Hid ((u1, u2) ≠ (t1, t2)) := fun q => e (by injection q with q1 q2; exact ⟨q1.symm, q2.symm⟩)
        by_cases e1 : t1 = u1
        · subst e1
          have e2 : (t2 == u2) = false := by rw [beq_eq_false_iff_ne]; exact fun q => e ⟨rfl, q⟩
          clear e
          go_wp2
          go_quiet (fail)
          go_wp2
          go_roundw
          case rel => exact ⟨j + 1, by go_num, by omega, fun p hp => by
            by_cases ep : p = j
            · subst ep; rw [HU.out]; exact HE.out
            · exact HN.out p (by omega), _, rfl⟩
          case measure => simp [intOf]; omega
        · have e2 : (t1 == u1) = false := by rw [beq_eq_false_iff_ne]; exact e1
          clear e e1
          go_wp2
          go_quiet (fail)
          go_wp2
          go_roundw
          case rel => exact ⟨j + 1, by go_num, by omega, fun p hp => by
            by_cases ep : p = j
            · subst ep; rw [HU.out]; exact HE.out
            · exact HN.out p (by omega), _, rfl⟩
          case measure => simp [intOf]; omega
    · have hlt' : (ts.length : Int) ≤ j := by omega
      go_wp2
      go_ret
      exact ⟨-1, rfl, ⟨fun h => absurd h (by decide), fun h => by
        obtain ⟨p, hp, e⟩ := List.getElem_of_mem h
        exact absurd (by rw [List.getD_eq_getElem?_getD, List.getElem?_eq_getElem hp]; simpa using e) (HN.out p (by omega))⟩, HB.out _⟩

set_option maxHeartbeats 1000000 in
set_option maxRecDepth 100000 in
theorem contains_any (ts : List (Int × Int)) (a : Option Addr) (c : Nat) (t : Int × Int) (w : World) (h : TagsIn w a ts) (hl : ts.length ≤ 41) :
    Calls Tryz.prog 180 #[.slice a ts.length c, .agg #[.int .i64 t.1, .int .i64 t.2]] w fun e w' => RetO (t ∈ ts) w e w' := by
  have HC : Hid (∀ w, TagsIn w a ts → Calls Tryz.prog 199 #[.slice a ts.length c, .agg #[.int .i64 t.1, .int .i64 t.2]] w fun e w' => ∃ r, e = .returned (.int .i64 r) ∧ (0 ≤ r ↔ t ∈ ts) ∧ Below w.heap.size w w') := fun w q => index_any ts a c t w q hl
  have HI : Hid (∀ o, TagsIn (w.alloc o) a ts) := fun o => h.below ((Below.refl _ _).alloc (Nat.le_refl _) _)
  clear h
  go_enter Tryz.func180, Tryz.ntmps180
  go_wp2_with fail
  refine (HC.out _ (HI.out _)).mono ?_
  rintro e w1 ⟨r, rfl, hr, hb⟩
  have HR : Hid (0 ≤ r ↔ t ∈ ts) := hr
  have HB : Hid (Below w.heap.size w w1) := below_alloc hb
  clear hr hb
  go_wp2
  go_ret
  exact reto_iff (by rw [decide_eq_true_iff]; exact HR.out) HB.out

/-- Beginnings as the program holds them. -/
structure Bgs (w : World) (all : Bool) (a : Option Addr) (ts : List (Int × Int)) : Prop where
  tags : TagsIn w a ts
  len : ts.length ≤ 41
/-- They have one in common. -/
def MeetsT (al1 al2 : Bool) (t1 t2 : List (Int × Int)) : Prop := al1 = true ∨ al2 = true ∨ ∃ t, t ∈ t1 ∧ t ∈ t2

set_option maxHeartbeats 2000000 in
set_option maxRecDepth 100000 in
theorem meets_any (al1 al2 : Bool) (a1 a2 : Option Addr) (c1 c2 : Nat) (t1 t2 : List (Int × Int)) (w : World) (h1 : TagsIn w a1 t1) (h2 : TagsIn w a2 t2) (hl1 : t1.length ≤ 41) (hl2 : t2.length ≤ 41) :
    Calls Tryz.prog 141 #[.agg #[.bool al1, .slice a1 t1.length c1], .agg #[.bool al2, .slice a2 t2.length c2]] w fun e w' => RetO (MeetsT al1 al2 t1 t2) w e w' := by
  have HC : Hid (∀ w t, TagsIn w a2 t2 → Calls Tryz.prog 180 #[.slice a2 t2.length c2, .agg #[.int .i64 t.1, .int .i64 t.2]] w fun e w' => RetO (t ∈ t2) w e w') := fun w t q => contains_any t2 a2 c2 t w q hl2
  have H1 : Hid (TagsIn w a1 t1) := h1
  have H2 : Hid (TagsIn w a2 t2) := h2
  clear h1 h2
  have hb0 : Below w.heap.size w ((w.alloc (.cells #[.bool al1, .slice a1 t1.length c1] 174)).alloc (.cells #[.bool al2, .slice a2 t2.length c2] 174)) := ((Below.refl _ _).alloc (Nat.le_refl _) _).alloc (by simp) _
  cases al1
  · cases al2
    · have HB0 : Hid (Below w.heap.size w ((w.alloc (.cells #[.bool false, .slice a1 t1.length c1] 174)).alloc (.cells #[.bool false, .slice a2 t2.length c2] 174))) := hb0
      clear hb0
      go_enter Tryz.func141, Tryz.ntmps141
      go_wp2
      obtain ⟨B, hB⟩ : ∃ B, B = w.heap.size + 1 := ⟨_, rfl⟩
      have HW0 : Hid (∀ wr, Below ((w.alloc (.cells #[.bool false, .slice a1 t1.length c1] 174)).alloc (.cells #[.bool false, .slice a2 t2.length c2] 174)).heap.size ((w.alloc (.cells #[.bool false, .slice a1 t1.length c1] 174)).alloc (.cells #[.bool false, .slice a2 t2.length c2] 174)) wr →
          wr.cell? ⟨B, 1, none⟩ = some (.slice a2 t2.length c2) ∧ Below w.heap.size w wr) := fun wr h => by
        have q := block_below (show _ = some (Obj.cells _ _ _) from heap_alloc_new (w.alloc (.cells #[.bool false, .slice a1 t1.length c1] 174)) (.cells #[.bool false, .slice a2 t2.length c2] 174)) h
        subst hB
        exact ⟨by simp at q; simp [World.cell?, q], below_alloc (below_alloc h)⟩
      generalize ((w.alloc (.cells #[.bool false, .slice a1 t1.length c1] 174)).alloc (.cells #[.bool false, .slice a2 t2.length c2] 174)) = W0 at *
      rw [← hB]
      clear hB
      go_loopw [16] (fun vj wr => ∃ j : Nat, vj = .int .i64 j ∧ j ≤ t1.length ∧ (∀ p, p < j → t1.getD p (0, 0) ∉ t2) ∧ Below W0.heap.size W0 wr) (fun vj _ => t1.length - (intOf vj).toNat)
      case atStart => exact ⟨0, rfl, Nat.zero_le _, fun _ h => absurd h (Nat.not_lt_zero _), Below.refl _ _⟩
      case round =>
        obtain ⟨j, rfl, hj, hno, hbr⟩ := hrel
        have HN : Hid (∀ p, p < j → t1.getD p (0, 0) ∉ t2) := hno
        have HB : Hid (Below W0.heap.size W0 wr) := hbr
        obtain ⟨d1, hbw⟩ := HW0.out wr hbr
        have HBW : Hid (Below w.heap.size w wr) := hbw
        clear hno hbr hbw
        by_cases hlt : j < t1.length
        · obtain ⟨b, o, rfl, c1', c2'⟩ := (H1.out.below HBW.out) j hlt
          have hlt' : (j : Int) < t1.length := by omega
          have HM : Hid (t1.getD j (0, 0) ∈ t1) := by show _ ∈ t1; rw [List.getD_eq_getElem?_getD, List.getElem?_eq_getElem hlt]; exact List.getElem_mem hlt
          obtain ⟨u, hu⟩ : ∃ u, t1.getD j (0, 0) = u := ⟨_, rfl⟩
          have HU : Hid (t1.getD j (0, 0) = u) := hu
          rw [hu] at c1' c2'
          clear hu
          have hbB := lt_of_cell d1
          go_wp2_with fail
          refine (HC.out _ u ((H2.out.below HBW.out).below ((Below.refl _ _).alloc (Nat.le_refl _) _))).mono ?_
          rintro e w3 ⟨r, rfl, hr, hb3⟩
          have HR : Hid (r = true ↔ u ∈ t2) := hr
          have HB3 : Hid (Below W0.heap.size W0 w3) := HB.out.trans ((below_alloc hb3).mono HB.out.size)
          have HBW3 : Hid (Below w.heap.size w w3) := HBW.out.trans ((below_alloc hb3).mono HBW.out.size)
          clear hr hb3
          cases r
          · go_wp2
            go_roundw
            case rel => exact ⟨j + 1, by go_num, by omega, fun p hp => by
              by_cases ep : p = j
              · subst ep; rw [HU.out]; exact fun q => Bool.noConfusion (HR.out.2 q)
              · exact HN.out p (by omega), HB3.out⟩
            case measure => simp [intOf]; omega
          · go_wp2
            go_ret
            exact reto_yes (.inr (.inr ⟨u, by rw [← HU.out]; exact HM.out, HR.out.1 trivial⟩)) HBW3.out
        · have hlt' : (t1.length : Int) ≤ j := by omega
          go_wp2
          go_ret
          exact reto_no (fun h => by
            rcases h with h | h | ⟨t, h1, h2⟩
            · cases h
            · cases h
            · obtain ⟨p, hp, e⟩ := List.getElem_of_mem h1
              refine HN.out p (by omega) ?_
              rw [List.getD_eq_getElem?_getD, List.getElem?_eq_getElem hp]
              simpa [e] using h2) HBW.out
    · have HB0 : Hid (Below w.heap.size w ((w.alloc (.cells #[.bool false, .slice a1 t1.length c1] 174)).alloc (.cells #[.bool true, .slice a2 t2.length c2] 174))) := hb0
      clear hb0
      go_enter Tryz.func141, Tryz.ntmps141
      go_wp2
      go_ret
      exact reto_yes (.inr (.inl rfl)) HB0.out
  · have HB0 : Hid (Below w.heap.size w ((w.alloc (.cells #[.bool true, .slice a1 t1.length c1] 174)).alloc (.cells #[.bool al2, .slice a2 t2.length c2] 174))) := hb0
    clear hb0
    go_enter Tryz.func141, Tryz.ntmps141
    go_wp2
    go_ret
    exact reto_yes (.inl rfl) HB0.out
end Go.Proofs.YtkkicodfpekbgaaGreatDoor

/-! schemas.AllBeginnings: what it answers. -/
namespace Go.Proofs.YtkkicodfpekbgaaGreatDoor
set_option linter.unusedSimpArgs false
set_option linter.unusedVariables false
open Go.RowKit

/-- What the beginnings of a node are. -/
def BegIs (s : List Nd) (i : Nat) (all : Bool) (ts : List (Int × Int)) : Prop := ts.length ≤ 41 ∧ (all = true ↔ ∃ j, Leaf s i j ∧ (nd s j).every) ∧ (∀ t, t ∈ ts ↔ ∃ j, Leaf s i j ∧ ¬ (nd s j).every ∧ (nd s j).outer = t)
/-- The first of them lie in a row that the call owns. -/
structure AbW (s : List Nd) (w wr : World) (m : Nat) : Prop where
  bel : Below w.heap.size w wr
  row : ∃ C : Array Value, wr.heap[w.heap.size]? = some (.cells C 174 (0, 0)) ∧ C.size = s.length * 2 ∧
    ∀ j, j < m → ∃ all vt ts, C[j * 2]? = some (.bool all) ∧ C[j * 2 + 1]? = some vt ∧ wr.ownsRow w.heap.size 147 2 vt ts.length (tcells ts) ∧ BegIs s j all ts
theorem AbW.below {s : List Nd} {w wr w' : World} {m : Nat} (h : AbW s w wr m) (hb : Below wr.heap.size wr w') : AbW s w w' m where
  bel := h.bel.trans (hb.mono h.bel.size)
  row := by
    obtain ⟨C, h1, h2, h3⟩ := h.row
    refine ⟨C, block_below h1 hb, h2, fun j hj => ?_⟩
    obtain ⟨all, vt, ts, q1, q2, q3, q4⟩ := h3 j hj
    exact ⟨all, vt, ts, q1, q2, own_below q3 hb, q4⟩
/-- One more is stored. -/
theorem AbW.put {s : List Nd} {w wr : World} {m : Nat} {all : Bool} {vt : Value} {ts : List (Int × Int)} (h : AbW s w wr m) (hm : m < s.length) (ho : wr.ownsRow w.heap.size 147 2 vt ts.length (tcells ts)) (hb : BegIs s m all ts) :
    AbW s w ((wr.setCell ⟨w.heap.size, m * 2, none⟩ (.bool all)).setCell ⟨w.heap.size, m * 2 + 1, none⟩ vt) (m + 1) where
  bel := (h.bel.setCell (p := ⟨w.heap.size, m * 2, none⟩) (Nat.le_refl _) _).setCell (p := ⟨w.heap.size, m * 2 + 1, none⟩) (Nat.le_refl _) _
  row := by
    obtain ⟨C, h1, h2, h3⟩ := h.row
    refine ⟨(C.setIfInBounds (m * 2) (.bool all)).setIfInBounds (m * 2 + 1) vt, heap_setCell_same _ _ _ _ _ _ (heap_setCell_same wr _ _ _ _ _ h1), by simp [h2], fun j hj => ?_⟩
    have own : ∀ {v : Value} {ts : List (Int × Int)}, wr.ownsRow w.heap.size 147 2 v ts.length (tcells ts) → ((wr.setCell ⟨w.heap.size, m * 2, none⟩ (.bool all)).setCell ⟨w.heap.size, m * 2 + 1, none⟩ vt).ownsRow w.heap.size 147 2 v ts.length (tcells ts) := fun q => by
      have ne := row_ne1 h1 q (by decide)
      exact ownsRow_setCell_other (ownsRow_setCell_other q ne _) ne _
    by_cases e : j = m
    · subst e
      refine ⟨all, vt, ts, ?_, ?_, own ho, hb⟩
      · rw [Array.getElem?_setIfInBounds, if_neg (by omega), Array.getElem?_setIfInBounds, if_pos rfl, if_pos (by omega)]
      · rw [Array.getElem?_setIfInBounds, if_pos rfl, if_pos (by simp; omega)]
    · obtain ⟨all', vt', ts', q1, q2, q3, q4⟩ := h3 j (by omega)
      refine ⟨all', vt', ts', ?_, ?_, own q3, q4⟩
      · rw [Array.getElem?_setIfInBounds, if_neg (by omega), Array.getElem?_setIfInBounds, if_neg (by omega)]; exact q1
      · rw [Array.getElem?_setIfInBounds, if_neg (by omega), Array.getElem?_setIfInBounds, if_neg (by omega)]; exact q2
def Tryz.zeroTs : Value := .agg #[.bool false, .slice none 0 0]
theorem Tryz.infoTs : (Tryz.prog.info? 174).map (fun i => (i.zero, i.size, i.bytes)) = some (some Tryz.zeroTs, 2, 32) := by kernel_rfl

set_option maxHeartbeats 2000000 in
set_option maxRecDepth 100000 in
theorem allBeginnings_any (s : List Nd) (a : Option Addr) (c : Nat) (w : World) (hs : Sch w a s) (hw : Within s) (htg : Tags s) (hkd : Kinds s) (hnm : Nums w) (hn : s.length ≤ 40) :
    Calls Tryz.prog 64 #[.slice a s.length c] w fun e w' => e = .returned (.slice (some ⟨w.heap.size, 0, none⟩) s.length s.length) ∧ AbW s w w' s.length := by
  have HR : Hid (∀ wr i, Below w.heap.size w wr → i < s.length → Calls Tryz.prog 97 #[.slice a s.length c, .int .i64 i] wr fun e w' => RetT s i wr e w') := fun wr i hb hi => beginningsOf_any s a c i wr (hs.below hb) hw htg hkd (hnm.below hb) hi hn
  clear hs hw htg hkd hnm
  obtain ⟨i0, hi0, hz0, hz1, hz2⟩ := info_parts Tryz.infoTs
  obtain ⟨w1, hrun, hown, hgr⟩ := run_make_full (P := Tryz.prog) w w.heap.size 120 174 i0 Tryz.zeroTs 2 Tryz.underlying120 hi0 hz0 hz1 .i64 .i64 s.length (by rw [hz2]; omega) (by unfold maxLen; omega) (Nat.le_refl _)
  have HA0 : Hid (AbW s w w1 0) := by
    refine ⟨(Below.refl w.heap.size w).grown hgr (Nat.le_refl _) (fun k hk => by cases hk), ?_⟩
    rcases hown.2 with ⟨q, _⟩ | ⟨g, cap, cur, q, _, q1, _, _, q2, _⟩
    · cases q
    · injection q with e1 _ e3
      injection e1 with e1
      injection e1 with e1 _ _
      subst e1 e3
      exact ⟨cur, q1, q2, fun j hj => absurd hj (Nat.not_lt_zero _)⟩
  clear hown hgr
  go_enter Tryz.func64, Tryz.ntmps64
  go_wp2
  go_loopw [10] (fun vj wr => ∃ j : Nat, vj = .int .i64 j ∧ j ≤ s.length ∧ AbW s w wr j) (fun vj _ => s.length - (intOf vj).toNat)
  case atStart => exact ⟨0, rfl, Nat.zero_le _, HA0.out⟩
  case round =>
    obtain ⟨j, rfl, hj, hA⟩ := hrel
    have HA : Hid (AbW s w wr j) := hA
    by_cases hlt : j < s.length
    · have hlt' : (j : Int) < s.length := by omega
      clear hA
      go_wp2_with fail
      refine (HR.out _ j HA.out.bel hlt).mono ?_
      rintro e w2 ⟨all, vt, ts, rfl, hown, hb2, hl, h1, h2⟩
      have HA2 : Hid (AbW s w w2 j) := HA.out.below hb2
      obtain ⟨ta, tc, rfl, _⟩ := own_form hown
      have HO2 : Hid (w2.ownsRow w.heap.size 147 2 (.slice ta ts.length tc) ts.length (tcells ts)) := by
        obtain ⟨q1, q2⟩ := hown
        refine ⟨q1, ?_⟩
        rcases q2 with q2 | ⟨g, cap, cur, q3, q4, q5⟩
        · exact .inl q2
        · exact .inr ⟨g, cap, cur, q3, Nat.le_trans HA.out.bel.size q4, q5⟩
      have HBI : Hid (BegIs s j all ts) := ⟨hl, h1, h2⟩
      have hC : ∀ k, k < s.length * 2 → (∃ u, w2.cell? ⟨w.heap.size, k, none⟩ = some u) ∧ w2.frozen? ⟨w.heap.size, k, none⟩ = false := fun k hk => by
        obtain ⟨C, q1, q2, _⟩ := HA2.out.row
        refine ⟨⟨C[k]'(by omega), by simp only [World.cell?, q1]; simp⟩, by simp [World.frozen?, q1]⟩
      obtain ⟨⟨u0, c0⟩, f0⟩ := hC (j * 2) (by omega)
      obtain ⟨⟨u1, c1⟩, f1⟩ := hC (j * 2 + 1) (by omega)
      clear hown hb2 h1 h2 hl hC
      go_wp2
      go_roundw
      case rel => exact ⟨j + 1, by go_num, by omega, HA2.out.put hlt HO2.out HBI.out⟩
      case measure => simp [intOf]; omega
    · have hlt' : (s.length : Int) ≤ j := by omega
      obtain rfl : j = s.length := by omega
      clear hA
      go_wp2
      go_ret
      exact ⟨rfl, HA.out⟩
end Go.Proofs.YtkkicodfpekbgaaGreatDoor

/-! Beginnings read again: the row that AllBeginnings leaves; two of them meet as the nodes do. -/
namespace Go.Proofs.YtkkicodfpekbgaaGreatDoor
set_option linter.unusedSimpArgs false
set_option linter.unusedVariables false
open Go.RowKit

theorem tcells_get (l : List (Int × Int)) (i : Nat) (hi : i < l.length) : (tcells l)[i * 2]? = some (.int .i64 (l.getD i (0, 0)).1) ∧ (tcells l)[i * 2 + 1]? = some (.int .i64 (l.getD i (0, 0)).2) := by
  induction l generalizing i with
  | nil => simp at hi
  | cons a l ih =>
    have e : tcells (a :: l) = [.int .i64 a.1, .int .i64 a.2] ++ tcells l := by unfold tcells; simp
    rw [e]
    cases i with
    | zero => simp
    | succ i =>
      have h := ih i (by simp at hi; omega)
      constructor
      · rw [List.getElem?_append_right (by simp; omega)]
        have : (i + 1) * 2 - [Value.int IntKind.i64 a.1, Value.int IntKind.i64 a.2].length = i * 2 := by simp; omega
        rw [this, h.1]; simp
      · rw [List.getElem?_append_right (by simp; omega)]
        have : (i + 1) * 2 + 1 - [Value.int IntKind.i64 a.1, Value.int IntKind.i64 a.2].length = i * 2 + 1 := by simp; omega
        rw [this, h.2]; simp
/-- The beginnings of all nodes lie in a row. -/
def AbR (w : World) (gb : Nat) (s : List Nd) : Prop := ∀ j, j < s.length → ∃ all ta tc ts, w.cell? ⟨gb, j * 2, none⟩ = some (.bool all) ∧ w.cell? ⟨gb, j * 2 + 1, none⟩ = some (.slice ta (ts : List (Int × Int)).length tc) ∧ TagsIn w ta ts ∧ BegIs s j all ts
theorem AbR.below {w w' : World} {gb : Nat} {s : List Nd} (h : AbR w gb s) (hb : Below w.heap.size w w') : AbR w' gb s := fun j hj => by
  obtain ⟨all, ta, tc, ts, h1, h2, h3, h4⟩ := h j hj
  exact ⟨all, ta, tc, ts, (hb.cell (lt_of_cell h1)).trans h1, (hb.cell (lt_of_cell h2)).trans h2, h3.below hb, h4⟩
theorem AbW.read {s : List Nd} {w wr : World} (h : AbW s w wr s.length) : AbR wr w.heap.size s := fun j hj => by
  obtain ⟨C, h1, h2, h3⟩ := h.row
  obtain ⟨all, vt, ts, q1, q2, q3, q4⟩ := h3 j hj
  obtain ⟨ta, tc, rfl, hta⟩ := own_form q3
  refine ⟨all, ta, tc, ts, by simp only [World.cell?, h1]; simpa using q1, by simp only [World.cell?, h1]; simpa using q2, fun k hk => ?_, q4⟩
  obtain ⟨g, rfl⟩ := hta (by omega)
  have a0 : ∀ p, (⟨g, 0, none⟩ : Addr).add p = ⟨g, p, none⟩ := fun p => by unfold Addr.add; split <;> simp_all
  have c0 := q3.cells (g := g) rfl _ _ (tcells_get ts k hk).1
  have c1 := q3.cells (g := g) rfl _ _ (tcells_get ts k hk).2
  rw [a0] at c0 c1
  exact ⟨g, 0, rfl, by simpa using c0, by simpa using c1⟩
theorem meetsT_iff {s : List Nd} {i k : Nat} {a1 a2 : Bool} {t1 t2 : List (Int × Int)} (h1 : BegIs s i a1 t1) (h2 : BegIs s k a2 t2) : MeetsT a1 a2 t1 t2 ↔ Meets s i k := by
  unfold MeetsT Meets
  rw [h1.2.1, h2.2.1]
  refine or_congr Iff.rfl (or_congr Iff.rfl ⟨?_, ?_⟩)
  · rintro ⟨t, q1, q2⟩
    obtain ⟨j, r1, r2, r3⟩ := (h1.2.2 t).1 q1
    obtain ⟨l, r4, r5, r6⟩ := (h2.2.2 t).1 q2
    exact ⟨j, l, r1, r2, r4, r5, r3.trans r6.symm⟩
  · rintro ⟨j, l, r1, r2, r4, r5, r6⟩
    exact ⟨(nd s j).outer, (h1.2.2 _).2 ⟨j, r1, r2, rfl⟩, (h2.2.2 _).2 ⟨l, r4, r5, r6.symm⟩⟩
/-- Kids are told apart by the program's test as by the document's. -/
theorem told_congr {C D : Nat → Nat → Prop} {n : Nd} {m : Nat} (hw : ∀ j, j < n.kids.length → (kd n j).node.toNat < m) (h : ∀ i k, i < m → k < m → (C i k ↔ D i k)) : Told C n ↔ Told D n := by
  unfold Told ToldAt
  constructor
  · intro q i hi
    rcases q i hi with q | q
    · exact .inl q
    · exact .inr fun k h1 h2 h3 h4 => q k h1 h2 h3 ((h _ _ (hw i hi) (hw k h2)).2 h4)
  · intro q i hi
    rcases q i hi with q | q
    · exact .inl q
    · exact .inr fun k h1 h2 h3 h4 => q k h1 h2 h3 ((h _ _ (hw i hi) (hw k h2)).1 h4)
end Go.Proofs.YtkkicodfpekbgaaGreatDoor

/-! schemas.choiceIsPlain: what it answers. -/
namespace Go.Proofs.YtkkicodfpekbgaaGreatDoor
set_option linter.unusedSimpArgs false
set_option linter.unusedVariables false
open Go.RowKit

/-- A kid of a schema, its node as a place. -/
theorem kid_at {n : Nd} {m i : Nat} (hw : ∀ j, j < n.kids.length → ∃ t : Nat, (kd n j).node = t ∧ t < m) (hi : i < n.kids.length) : ∃ (t : Nat) (o : Bool) (d : ByteArray), kd n i = ⟨t, o, d⟩ ∧ t < m := by
  obtain ⟨t, h1, h2⟩ := hw i hi
  refine ⟨t, (kd n i).opt, (kd n i).dflt, ?_, h2⟩
  rw [← h1]

set_option maxHeartbeats 2000000 in
set_option maxRecDepth 100000 in
theorem choiceIsPlain_any (s : List Nd) (n : Nd) (ka : Option Addr) (kc gb : Nat) (w : World) (hka : KidsIn w ka n.kids) (hkc : n.kids.length ≤ kc) (hk8 : n.kids.length ≤ 8) (hw : ∀ j, j < n.kids.length → ∃ t : Nat, (kd n j).node = t ∧ t < s.length) (hb : AbR w gb s) (hn : s.length ≤ 40) :
    Calls Tryz.prog 98 #[.slice ka n.kids.length kc, .slice (some ⟨gb, 0, none⟩) s.length s.length] w fun e w' => RetO (∀ i k, i < k → k < n.kids.length → ¬ Meets s (kd n i).node.toNat (kd n k).node.toNat) w e w' := by
  have HKI : Hid (KidsIn w ka n.kids) := hka
  have HKR : Hid (∀ j, j < n.kids.length → ∃ t : Nat, (kd n j).node = t ∧ t < s.length) := hw
  have HAB : Hid (AbR w gb s) := hb
  clear hka hw hb
  go_enter Tryz.func98, Tryz.ntmps98
  go_wp2
  go_loopw [11] (fun vi wr => ∃ i : Nat, i ≤ n.kids.length ∧ vi = .int .i64 i ∧ (∀ i', i' < i → ∀ k, i' < k → k < n.kids.length → ¬ Meets s (kd n i').node.toNat (kd n k).node.toNat) ∧ Below w.heap.size w wr) (fun vi _ => n.kids.length - (intOf vi).toNat)
  case atStart => exact ⟨0, Nat.zero_le _, rfl, fun _ h => absurd h (Nat.not_lt_zero _), Below.refl _ _⟩
  case round =>
    obtain ⟨i, hi, rfl, hall, hbr⟩ := hrel
    have HA : Hid (∀ i', i' < i → ∀ k, i' < k → k < n.kids.length → ¬ Meets s (kd n i').node.toNat (kd n k).node.toNat) := hall
    have HB : Hid (Below w.heap.size w wr) := hbr
    clear hall hbr
    by_cases hlt : i < n.kids.length
    · have hlt' : (i : Int) < n.kids.length := by omega
      obtain ⟨kb, ko, rfl, kcl⟩ := HKI.out i hlt
      obtain ⟨ty, yo, yd, hy, hty⟩ := kid_at HKR.out hlt
      have HY : Hid (kd n i = ⟨ty, yo, yd⟩) := hy
      have hkcl : KidCells w kb (ko + i * 3) ⟨ty, yo, yd⟩ := by rw [← hy]; exact kcl
      obtain ⟨k1, k2, k3⟩ := hkcl.below HB.out
      simp only at k1 k2 k3
      have HBA : Hid (Below w.heap.size w (wr.alloc (.cells #[.int .i64 ty, .bool yo, .string yd] 55))) := HB.out.alloc HB.out.size _
      clear hy kcl hkcl
      by_cases hkk : kc = i + 1
      · subst hkk
        have HZ : Hid (∀ k, i < k → k < n.kids.length → ¬ Meets s (kd n i).node.toNat (kd n k).node.toNat) := fun k _ _ => by omega
        have hz : ((n.kids.length - (i + 1) : Nat) : Int) ≤ 0 := by omega
        go_wp2
        go_loopw [21] (fun vj wq => vj = .int .i64 0 ∧ wq = wr.alloc (.cells #[.int .i64 ty, .bool yo, .string yd] 55)) (fun _ _ => 0)
        case atStart => exact ⟨rfl, rfl⟩
        case round =>
          obtain ⟨rfl, rfl⟩ := hrel
          go_wp2
          go_roundw
          case rel =>
            refine ⟨i + 1, by omega, by go_num, fun i' h1 k h2 h3 => ?_, HBA.out⟩
            by_cases e : i' = i
            · subst e; exact HZ.out k h2 h3
            · exact HA.out i' (by omega) k h2 h3
          case measure => simp [intOf]; omega
      · go_wp2
        generalize hW : wr.alloc (.cells #[.int .i64 ty, .bool yo, .string yd] 55) = W at *
        have hWb : W.heap[wr.heap.size]? = some (.cells #[.int .i64 ty, .bool yo, .string yd] 55 (0, 0)) := by rw [← hW]; exact heap_alloc_new wr _
        have HWb : Hid (W.heap[wr.heap.size]? = some (.cells #[.int .i64 ty, .bool yo, .string yd] 55 (0, 0))) := hWb
        obtain ⟨Y, hY⟩ : ∃ Y, Y = wr.heap.size := ⟨_, rfl⟩
        have HY0 : Hid (W.cell? ⟨Y, 0, none⟩ = some (.int .i64 ty)) := by show W.cell? _ = _; rw [hY]; simp [World.cell?, hWb]
        rw [← hY]
        clear hW hWb k1 k2 k3 hY HWb
        go_loopw [21] (fun vj wq => ∃ j : Nat, j ≤ n.kids.length - (i + 1) ∧ vj = .int .i64 j ∧ (∀ k, i < k → k < i + 1 + j → ¬ Meets s (kd n i).node.toNat (kd n k).node.toNat) ∧ Below W.heap.size W wq) (fun vj _ => n.kids.length - (intOf vj).toNat)
        case atStart => exact ⟨0, Nat.zero_le _, rfl, fun k h1 h2 => absurd h1 (by omega), Below.refl _ _⟩
        case round =>
          obtain ⟨j, hj, rfl, hno, hbq⟩ := hrel
          have HNO : Hid (∀ k, i < k → k < i + 1 + j → ¬ Meets s (kd n i).node.toNat (kd n k).node.toNat) := hno
          have HBQ : Hid (Below W.heap.size W wr) := hbq
          have HBW : Hid (Below w.heap.size w wr) := HBA.out.trans (hbq.mono HBA.out.size)
          have d0 := (hbq.cell (lt_of_cell HY0.out)).trans HY0.out
          clear hno hbq
          by_cases hjl : j < n.kids.length - (i + 1)
          · have hjl' : (j : Int) < ((n.kids.length - (i + 1) : Nat) : Int) := by omega
            obtain ⟨kb', ko', he, kcl⟩ := HKI.out (i + 1 + j) (by omega)
            obtain ⟨rfl, rfl⟩ : kb = kb' ∧ ko = ko' := by injection he with he; injection he with e1 e2; exact ⟨e1, e2⟩
            obtain ⟨tz, zo, zd, hz, htz⟩ := kid_at HKR.out (show i + 1 + j < n.kids.length by omega)
            have HZ : Hid (kd n (i + 1 + j) = ⟨tz, zo, zd⟩) := hz
            have hkcl : KidCells w kb (ko + (i + 1) * 3 + j * 3) ⟨tz, zo, zd⟩ := by rw [← hz]; have e : ko + (i + 1 + j) * 3 = ko + (i + 1) * 3 + j * 3 := (by omega); rw [← e]; exact kcl
            obtain ⟨k1, k2, k3⟩ := hkcl.below HBW.out
            simp only at k1 k2 k3
            obtain ⟨al1, a1, c1, t1, p1, p2, p3, p4⟩ := HAB.out ty hty
            obtain ⟨al2, a2, c2, t2, q1, q2, q3, q4⟩ := HAB.out tz htz
            obtain ⟨r, hr⟩ := bool_of (MeetsT al1 al2 t1 t2)
            have HR : Hid (r = true ↔ Meets s (kd n i).node.toNat (kd n (i + 1 + j)).node.toNat) := by
              rw [HY.out, HZ.out]
              exact hr.trans (meetsT_iff p4 q4)
            have HB2 : Hid (Below w.heap.size w (wr.alloc (.cells #[.int .i64 tz, .bool zo, .string zd] 55))) := HBW.out.alloc HBW.out.size _
            have HB3 : Hid (Below W.heap.size W (wr.alloc (.cells #[.int .i64 tz, .bool zo, .string zd] 55))) := HBQ.out.alloc HBQ.out.size _
            have HM : Hid (∀ x : Ext (wr.alloc (.cells #[.int .i64 tz, .bool zo, .string zd] 55)), Calls Tryz.prog 141 #[.agg #[.bool al1, .slice a1 t1.length c1], .agg #[.bool al2, .slice a2 t2.length c2]] x.v fun e w'' => e = .returned (.bool r) ∧ ∃ y : Ext (wr.alloc (.cells #[.int .i64 tz, .bool zo, .string zd] 55)), w'' = y.v) := fun x => Ext.callsR hr (meets_any al1 al2 a1 a2 c1 c2 t1 t2 x.v (p3.below (Ext.bel HB2.out x)) (q3.below (Ext.bel HB2.out x)) p4.1 q4.1)
            have X0 : ∀ x : Ext (wr.alloc (.cells #[.int .i64 tz, .bool zo, .string zd] 55)), x.v.cell? ⟨Y, 0, none⟩ = some (.int .i64 ty) := fun x => x.old d0
            have X1 : ∀ x : Ext (wr.alloc (.cells #[.int .i64 tz, .bool zo, .string zd] 55)), x.v.cell? ⟨wr.heap.size, 0, none⟩ = some (.int .i64 tz) := fun x => x.new rfl
            have X2 : ∀ x : Ext (wr.alloc (.cells #[.int .i64 tz, .bool zo, .string zd] 55)), x.v.cell? ⟨gb, ty * 2, none⟩ = some (.bool al1) := fun x => Ext.far HB2.out x p1
            have X3 : ∀ x : Ext (wr.alloc (.cells #[.int .i64 tz, .bool zo, .string zd] 55)), x.v.cell? ⟨gb, ty * 2 + 1, none⟩ = some (.slice a1 t1.length c1) := fun x => Ext.far HB2.out x p2
            have X4 : ∀ x : Ext (wr.alloc (.cells #[.int .i64 tz, .bool zo, .string zd] 55)), x.v.cell? ⟨gb, tz * 2, none⟩ = some (.bool al2) := fun x => Ext.far HB2.out x q1
            have X5 : ∀ x : Ext (wr.alloc (.cells #[.int .i64 tz, .bool zo, .string zd] 55)), x.v.cell? ⟨gb, tz * 2 + 1, none⟩ = some (.slice a2 t2.length c2) := fun x => Ext.far HB2.out x q2
            have hty' : (ty : Int) < s.length := by omega
            have htz' : (tz : Int) < s.length := by omega
            clear kcl hkcl hz he hr p1 p2 p3 p4 q1 q2 q3 q4
            go_wp2_with fail
            (have ne := ext_ne; refine wp_region_ext (by kernel_rfl) (by kernel_rfl) ?_; (repeat (first | go_big_quiet_skip | (go_big_quiet_want; go_big_quiet_op; first | go_big_quiet_on | (apply Exists.intro; refine ⟨fun x => ?_, ?_⟩; (· (exact HM.out x)); go_big_quiet_on)))); refine nil_ext ?_)
            intro w5 hb5
            have HB5 : Hid (Below w.heap.size w w5) := HB2.out.trans (hb5.mono HB2.out.size)
            have HB6 : Hid (Below W.heap.size W w5) := HB3.out.trans (hb5.mono HB3.out.size)
            clear X0 X1 X2 X3 X4 X5 hb5 HM
            cases r
            · have HN : Hid (¬ Meets s (kd n i).node.toNat (kd n (i + 1 + j)).node.toNat) := fun q => Bool.noConfusion (HR.out.2 q)
              go_wp2
              go_roundw
              case rel =>
                refine ⟨j + 1, by omega, by go_num, fun k h1 h2 => ?_, HB6.out⟩
                by_cases e : k = i + 1 + j
                · subst e; exact HN.out
                · exact HNO.out k h1 (by omega)
              case measure => simp [intOf]; omega
            · have HN : Hid (Meets s (kd n i).node.toNat (kd n (i + 1 + j)).node.toNat) := HR.out.1 rfl
              go_wp2
              go_ret
              exact reto_no (fun q => q i (i + 1 + j) (by omega) (by omega) HN.out) HB5.out
          · have hjl' : ((n.kids.length - (i + 1) : Nat) : Int) ≤ (j : Int) := by omega
            go_wp2
            go_roundw
            case rel =>
              refine ⟨i + 1, by omega, by go_num, fun i' h1 k h2 h3 => ?_, HBW.out⟩
              by_cases e : i' = i
              · subst e; exact HNO.out k h2 (by omega)
              · exact HA.out i' (by omega) k h2 h3
            case measure => simp [intOf]; omega
    · have hlt' : (n.kids.length : Int) ≤ i := by omega
      go_wp2
      go_ret
      exact reto_yes (fun i' k h1 h2 => HA.out i' (by omega) k h1 h2) HB.out
end Go.Proofs.YtkkicodfpekbgaaGreatDoor

/-! schemas.seqIsPlain, schemas.isPlain: what they answer. -/
namespace Go.Proofs.YtkkicodfpekbgaaGreatDoor
set_option linter.unusedSimpArgs false
set_option linter.unusedVariables false
open Go.RowKit

/-- A kid that may lack is told from those behind it, up to the first that may not. -/
def SeqAt (s : List Nd) (n : Nd) (i : Nat) : Prop := (kd n i).must ∨ ∀ k, i < k → k < n.kids.length → (∀ j, i < j → j < k → ¬ (kd n j).must) → ¬ Meets s (kd n i).node.toNat (kd n k).node.toNat

set_option maxHeartbeats 2000000 in
set_option maxRecDepth 100000 in
theorem seqIsPlain_any (s : List Nd) (n : Nd) (ka : Option Addr) (kc gb : Nat) (w : World) (hka : KidsIn w ka n.kids) (hkc : n.kids.length ≤ kc) (hk8 : n.kids.length ≤ 8) (hw : ∀ j, j < n.kids.length → ∃ t : Nat, (kd n j).node = t ∧ t < s.length) (hb : AbR w gb s) (hn : s.length ≤ 40) :
    Calls Tryz.prog 99 #[.slice ka n.kids.length kc, .slice (some ⟨gb, 0, none⟩) s.length s.length] w fun e w' => RetO (∀ i, i < n.kids.length → SeqAt s n i) w e w' := by
  have HKI : Hid (KidsIn w ka n.kids) := hka
  have HKR : Hid (∀ j, j < n.kids.length → ∃ t : Nat, (kd n j).node = t ∧ t < s.length) := hw
  have HAB : Hid (AbR w gb s) := hb
  have HML : Hid (∀ (a : Int) (b : Bool) (c : ByteArray) (wq : World), Calls Tryz.prog 94 #[.agg #[.int .i64 a, .bool b, .string c]] wq fun e w' => RetO (¬ Kd.must ⟨a, b, c⟩) wq e w') := fun a b c wq => mayLack_any ⟨a, b, c⟩ wq
  clear hka hw hb
  go_enter Tryz.func99, Tryz.ntmps99
  go_wp2
  go_step3
  go_wp2
  go_step3
  go_wp2
  go_loopw [11] (fun vi wr => ∃ i : Nat, i ≤ n.kids.length ∧ vi = .int .i64 i ∧ (∀ i', i' < i → SeqAt s n i') ∧ Below w.heap.size w wr) (fun vi _ => n.kids.length - (intOf vi).toNat)
  case atStart => exact ⟨0, Nat.zero_le _, rfl, fun _ h => absurd h (Nat.not_lt_zero _), Below.refl _ _⟩
  case round =>
    obtain ⟨i, hi, rfl, hall, hbr⟩ := hrel
    have HA : Hid (∀ i', i' < i → SeqAt s n i') := hall
    have HB : Hid (Below w.heap.size w wr) := hbr
    have STEP : Hid (SeqAt s n i → ∀ i', i' < i + 1 → SeqAt s n i') := fun q i' h => by
      by_cases e : i' = i
      · subst e; exact q
      · exact hall i' (by omega)
    clear hall hbr
    by_cases hlt : i < n.kids.length
    · have hlt' : (i : Int) < n.kids.length := by omega
      obtain ⟨kb, ko, rfl, kcl⟩ := HKI.out i hlt
      obtain ⟨ty, yo, yd, hy, hty⟩ := kid_at HKR.out hlt
      have HY : Hid (kd n i = ⟨ty, yo, yd⟩) := hy
      have hkcl : KidCells w kb (ko + i * 3) ⟨ty, yo, yd⟩ := by rw [← hy]; exact kcl
      obtain ⟨k1, k2, k3⟩ := hkcl.below HB.out
      simp only at k1 k2 k3
      have HBA : Hid (Below w.heap.size w (wr.alloc (.cells #[.int .i64 ty, .bool yo, .string yd] 55))) := HB.out.alloc HB.out.size _
      clear hy kcl hkcl
      go_wp2_with fail
      refine (HML.out _ _ _ _).mono ?_
      rintro e W ⟨r0, rfl, hr0, hb0⟩
      have HR0 : Hid (r0 = true ↔ ¬ Kd.must ⟨ty, yo, yd⟩) := hr0
      have HBW0 : Hid (Below w.heap.size w W) := HBA.out.trans (hb0.mono HBA.out.size)
      have hWb := block_below (heap_alloc_new wr (.cells #[.int .i64 ty, .bool yo, .string yd] 55)) hb0
      obtain ⟨Y, hY⟩ : ∃ Y, Y = wr.heap.size := ⟨_, rfl⟩
      have HY0 : Hid (W.cell? ⟨Y, 0, none⟩ = some (.int .i64 ty)) := by show W.cell? _ = _; rw [hY]; simp [World.cell?, hWb]
      rw [← hY]
      clear hY hWb hb0 hr0 k1 k2 k3
      cases r0
      · have HQ : Hid (SeqAt s n i) := .inl (by
          rw [HY.out]
          by_cases q : Kd.must ⟨ty, yo, yd⟩
          · exact q
          · exact Bool.noConfusion (HR0.out.2 q))
        go_wp2
        go_roundw
        case rel => exact ⟨i + 1, by omega, by go_num, STEP.out HQ.out, HBW0.out⟩
        case measure => simp [intOf]; omega
      · have HNM : Hid (¬ (kd n i).must) := by rw [HY.out]; exact HR0.out.1 rfl
        by_cases hkk : kc = i + 1
        · subst hkk
          have HQ : Hid (SeqAt s n i) := .inr fun k _ _ => by omega
          have hz : ((n.kids.length - (i + 1) : Nat) : Int) ≤ 0 := by omega
          go_wp2
          go_loopw [24] (fun vj wq => vj = .int .i64 0 ∧ wq = W) (fun _ _ => 0)
          case atStart => exact ⟨rfl, rfl⟩
          case round =>
            obtain ⟨rfl, rfl⟩ := hrel
            go_wp2
            go_roundw
            case rel => exact ⟨i + 1, by omega, by go_num, STEP.out HQ.out, HBW0.out⟩
            case measure => simp [intOf]; omega
        · go_wp2
          go_loopw [24] (fun vj wq => ∃ j : Nat, j ≤ n.kids.length - (i + 1) ∧ vj = .int .i64 j ∧ (∀ k, i < k → k < i + 1 + j → ¬ (kd n k).must ∧ ¬ Meets s (kd n i).node.toNat (kd n k).node.toNat) ∧ Below W.heap.size W wq) (fun vj _ => n.kids.length - (intOf vj).toNat)
          case atStart => exact ⟨0, Nat.zero_le _, rfl, fun k h1 h2 => absurd h1 (by omega), Below.refl _ _⟩
          case round =>
            obtain ⟨j, hj, rfl, hno, hbq⟩ := hrel
            have HNO : Hid (∀ k, i < k → k < i + 1 + j → ¬ (kd n k).must ∧ ¬ Meets s (kd n i).node.toNat (kd n k).node.toNat) := hno
            have HBQ : Hid (Below W.heap.size W wr) := hbq
            have HBW : Hid (Below w.heap.size w wr) := HBW0.out.trans (hbq.mono HBW0.out.size)
            have d0 := (hbq.cell (lt_of_cell HY0.out)).trans HY0.out
            clear hno hbq
            by_cases hjl : j < n.kids.length - (i + 1)
            · have hjl' : (j : Int) < ((n.kids.length - (i + 1) : Nat) : Int) := by omega
              obtain ⟨kb', ko', he, kcl⟩ := HKI.out (i + 1 + j) (by omega)
              obtain ⟨rfl, rfl⟩ : kb = kb' ∧ ko = ko' := by injection he with he; injection he with e1 e2; exact ⟨e1, e2⟩
              obtain ⟨tz, zo, zd, hz, htz⟩ := kid_at HKR.out (show i + 1 + j < n.kids.length by omega)
              have HZ : Hid (kd n (i + 1 + j) = ⟨tz, zo, zd⟩) := hz
              have hkcl : KidCells w kb (ko + (i + 1) * 3 + j * 3) ⟨tz, zo, zd⟩ := by rw [← hz]; have e : ko + (i + 1 + j) * 3 = ko + (i + 1) * 3 + j * 3 := (by omega); rw [← e]; exact kcl
              obtain ⟨k1, k2, k3⟩ := hkcl.below HBW.out
              simp only at k1 k2 k3
              obtain ⟨al1, a1, c1, t1, p1, p2, p3, p4⟩ := HAB.out ty hty
              obtain ⟨al2, a2, c2, t2, q1, q2, q3, q4⟩ := HAB.out tz htz
              obtain ⟨r, hr⟩ := bool_of (MeetsT al1 al2 t1 t2)
              have HR : Hid (r = true ↔ Meets s (kd n i).node.toNat (kd n (i + 1 + j)).node.toNat) := by
                rw [HY.out, HZ.out]
                exact hr.trans (meetsT_iff p4 q4)
              have HB2 : Hid (Below w.heap.size w (wr.alloc (.cells #[.int .i64 tz, .bool zo, .string zd] 55))) := HBW.out.alloc HBW.out.size _
              have HB3 : Hid (Below W.heap.size W (wr.alloc (.cells #[.int .i64 tz, .bool zo, .string zd] 55))) := HBQ.out.alloc HBQ.out.size _
              have HM : Hid (∀ x : Ext (wr.alloc (.cells #[.int .i64 tz, .bool zo, .string zd] 55)), Calls Tryz.prog 141 #[.agg #[.bool al1, .slice a1 t1.length c1], .agg #[.bool al2, .slice a2 t2.length c2]] x.v fun e w'' => e = .returned (.bool r) ∧ ∃ y : Ext (wr.alloc (.cells #[.int .i64 tz, .bool zo, .string zd] 55)), w'' = y.v) := fun x => Ext.callsR hr (meets_any al1 al2 a1 a2 c1 c2 t1 t2 x.v (p3.below (Ext.bel HB2.out x)) (q3.below (Ext.bel HB2.out x)) p4.1 q4.1)
              have X0 : ∀ x : Ext (wr.alloc (.cells #[.int .i64 tz, .bool zo, .string zd] 55)), x.v.cell? ⟨Y, 0, none⟩ = some (.int .i64 ty) := fun x => x.old d0
              have X1 : ∀ x : Ext (wr.alloc (.cells #[.int .i64 tz, .bool zo, .string zd] 55)), x.v.cell? ⟨wr.heap.size, 0, none⟩ = some (.int .i64 tz) := fun x => x.new rfl
              have X2 : ∀ x : Ext (wr.alloc (.cells #[.int .i64 tz, .bool zo, .string zd] 55)), x.v.cell? ⟨gb, ty * 2, none⟩ = some (.bool al1) := fun x => Ext.far HB2.out x p1
              have X3 : ∀ x : Ext (wr.alloc (.cells #[.int .i64 tz, .bool zo, .string zd] 55)), x.v.cell? ⟨gb, ty * 2 + 1, none⟩ = some (.slice a1 t1.length c1) := fun x => Ext.far HB2.out x p2
              have X4 : ∀ x : Ext (wr.alloc (.cells #[.int .i64 tz, .bool zo, .string zd] 55)), x.v.cell? ⟨gb, tz * 2, none⟩ = some (.bool al2) := fun x => Ext.far HB2.out x q1
              have X5 : ∀ x : Ext (wr.alloc (.cells #[.int .i64 tz, .bool zo, .string zd] 55)), x.v.cell? ⟨gb, tz * 2 + 1, none⟩ = some (.slice a2 t2.length c2) := fun x => Ext.far HB2.out x q2
              have hty' : (ty : Int) < s.length := by omega
              have htz' : (tz : Int) < s.length := by omega
              clear kcl hkcl hz he hr p1 p2 p3 p4 q1 q2 q3 q4
              go_wp2_with fail
              (have ne := ext_ne; refine wp_region_ext (by kernel_rfl) (by kernel_rfl) ?_; (repeat (first | go_big_quiet_skip | (go_big_quiet_want; go_big_quiet_op; first | go_big_quiet_on | (apply Exists.intro; refine ⟨fun x => ?_, ?_⟩; (· (exact HM.out x)); go_big_quiet_on)))); refine nil_ext ?_)
              intro w5 hb5
              have HB5 : Hid (Below w.heap.size w w5) := HB2.out.trans (hb5.mono HB2.out.size)
              have HB6 : Hid (Below W.heap.size W w5) := HB3.out.trans (hb5.mono HB3.out.size)
              have z0 := (Ext.mk w5 hb5).new (i := 0) rfl
              have z1 := (Ext.mk w5 hb5).new (i := 1) rfl
              have z2 := (Ext.mk w5 hb5).new (i := 2) rfl
              simp only at z0 z1 z2
              clear X0 X1 X2 X3 X4 X5 hb5 HM
              cases r
              · have HN : Hid (¬ Meets s (kd n i).node.toNat (kd n (i + 1 + j)).node.toNat) := fun q => Bool.noConfusion (HR.out.2 q)
                go_wp2_with fail
                refine (HML.out _ _ _ _).mono ?_
                rintro e w6 ⟨r1, rfl, hr1, hb6⟩
                have HR1 : Hid (r1 = true ↔ ¬ Kd.must ⟨tz, zo, zd⟩) := hr1
                have HB7 : Hid (Below w.heap.size w w6) := HB5.out.trans (hb6.mono HB5.out.size)
                have HB8 : Hid (Below W.heap.size W w6) := HB6.out.trans (hb6.mono HB6.out.size)
                clear hr1 hb6
                cases r1
                · have HMU : Hid ((kd n (i + 1 + j)).must) := by
                    rw [HZ.out]
                    by_cases q : Kd.must ⟨tz, zo, zd⟩
                    · exact q
                    · exact Bool.noConfusion (HR1.out.2 q)
                  have HQ : Hid (SeqAt s n i) := .inr fun k h1 h2 h3 => by
                    by_cases e : k < i + 1 + j
                    · exact (HNO.out k h1 e).2
                    · by_cases e2 : k = i + 1 + j
                      · subst e2; exact HN.out
                      · exact absurd HMU.out (h3 _ (by omega) (by omega))
                  go_wp2
                  go_roundw
                  case rel => exact ⟨i + 1, by omega, by go_num, STEP.out HQ.out, HB7.out⟩
                  case measure => simp [intOf]; omega
                · have HMU : Hid (¬ (kd n (i + 1 + j)).must) := by rw [HZ.out]; exact HR1.out.1 rfl
                  go_wp2
                  go_roundw
                  case rel =>
                    refine ⟨j + 1, by omega, by go_num, fun k h1 h2 => ?_, HB8.out⟩
                    by_cases e : k = i + 1 + j
                    · subst e; exact ⟨HMU.out, HN.out⟩
                    · exact HNO.out k h1 (by omega)
                  case measure => simp [intOf]; omega
              · have HN : Hid (Meets s (kd n i).node.toNat (kd n (i + 1 + j)).node.toNat) := HR.out.1 rfl
                go_wp2
                go_ret
                refine reto_no (fun q => ?_) HB5.out
                rcases q i hlt with q | q
                · exact HNM.out q
                · exact q (i + 1 + j) (by omega) (by omega) (fun j' h1 h2 => (HNO.out j' h1 h2).1) HN.out
            · have hjl' : ((n.kids.length - (i + 1) : Nat) : Int) ≤ (j : Int) := by omega
              have HQ : Hid (SeqAt s n i) := .inr fun k h1 h2 _ => (HNO.out k h1 (by omega)).2
              go_wp2
              go_roundw
              case rel => exact ⟨i + 1, by omega, by go_num, STEP.out HQ.out, HBW.out⟩
              case measure => simp [intOf]; omega
    · have hlt' : (n.kids.length : Int) ≤ i := by omega
      go_wp2
      go_ret
      exact reto_yes (fun i' h1 => HA.out i' (by omega)) HB.out

/-- What isPlain asks. -/
def PlainAt (s : List Nd) (n : Nd) : Prop := n.kind = 10 ∨ n.kind = 13 → Told (Meets s) n
theorem told_choice {C : Nat → Nat → Prop} {n : Nd} (h : n.kind = 13) : Told C n ↔ ∀ i k, i < k → k < n.kids.length → ¬ C (kd n i).node.toNat (kd n k).node.toNat := by
  have hst : ∀ k, ¬ n.stops k := fun k q => by have := q.1; omega
  unfold Told ToldAt
  constructor
  · intro q i k h1 h2
    rcases q i (by omega) with q | q
    · exact absurd q (hst _)
    · exact q k h1 h2 (fun j _ _ => hst _)
  · exact fun q i hi => .inr fun k h1 h2 _ => q i k h1 h2
theorem told_seq {s : List Nd} {n : Nd} (h : n.kind = 10) : Told (Meets s) n ↔ ∀ i, i < n.kids.length → SeqAt s n i := by
  have hst : ∀ k, n.stops k ↔ k.must := fun k => ⟨fun q => q.2, fun q => ⟨h, q⟩⟩
  unfold Told ToldAt SeqAt
  simp only [hst]

set_option maxHeartbeats 1000000 in
set_option maxRecDepth 100000 in
theorem isPlain_any (s : List Nd) (n : Nd) (ka : Option Addr) (kc gb : Nat) (w : World) (hka : KidsIn w ka n.kids) (hkc : n.kids.length ≤ kc) (hk8 : n.kids.length ≤ 8) (hw : ∀ j, j < n.kids.length → ∃ t : Nat, (kd n j).node = t ∧ t < s.length) (hb : AbR w gb s) (hn : s.length ≤ 40) :
    Calls Tryz.prog 65 #[.agg #[.int .i64 n.kind, .int .i64 n.tag, .int .i64 n.mode, .slice ka n.kids.length kc], .slice (some ⟨gb, 0, none⟩) s.length s.length] w fun e w' => RetO (PlainAt s n) w e w' := by
  by_cases h13 : n.kind = 13
  · have HC : Hid (∀ wq, Below w.heap.size w wq → Calls Tryz.prog 98 #[.slice ka n.kids.length kc, .slice (some ⟨gb, 0, none⟩) s.length s.length] wq fun e w' => RetO (∀ i k, i < k → k < n.kids.length → ¬ Meets s (kd n i).node.toNat (kd n k).node.toNat) wq e w') := fun wq q => choiceIsPlain_any s n ka kc gb wq (hka.below q) hkc hk8 hw (hb.below q) hn
    have e13 : (n.kind == 13) = true := by simp [h13]
    have HX : Hid (PlainAt s n ↔ ∀ i k, i < k → k < n.kids.length → ¬ Meets s (kd n i).node.toNat (kd n k).node.toNat) := (show PlainAt s n ↔ Told (Meets s) n from ⟨fun q => q (.inr h13), fun q _ => q⟩).trans (told_choice h13)
    clear h13 hka hw hb
    go_enter Tryz.func65, Tryz.ntmps65
    go_wp2_with fail
    refine (HC.out _ ((Below.refl _ _).alloc (Nat.le_refl _) _)).mono ?_
    rintro e w1 ⟨r, rfl, hr, hb1⟩
    have HR : Hid (r = true ↔ PlainAt s n) := hr.trans HX.out.symm
    have HB1 : Hid (Below w.heap.size w w1) := below_alloc hb1
    clear hr hb1
    go_wp2
    go_ret
    exact reto_iff HR.out HB1.out
  · have e13 : (n.kind == 13) = false := by simp [h13]
    by_cases h10 : n.kind = 10
    · have HC : Hid (∀ wq, Below w.heap.size w wq → Calls Tryz.prog 99 #[.slice ka n.kids.length kc, .slice (some ⟨gb, 0, none⟩) s.length s.length] wq fun e w' => RetO (∀ i, i < n.kids.length → SeqAt s n i) wq e w') := fun wq q => seqIsPlain_any s n ka kc gb wq (hka.below q) hkc hk8 hw (hb.below q) hn
      have e10 : (n.kind == 10) = true := by simp [h10]
      have HX : Hid (PlainAt s n ↔ ∀ i, i < n.kids.length → SeqAt s n i) := (show PlainAt s n ↔ Told (Meets s) n from ⟨fun q => q (.inl h10), fun q _ => q⟩).trans (told_seq h10)
      clear h13 h10 hka hw hb
      go_enter Tryz.func65, Tryz.ntmps65
      go_wp2_with fail
      refine (HC.out _ ((Below.refl _ _).alloc (Nat.le_refl _) _)).mono ?_
      rintro e w1 ⟨r, rfl, hr, hb1⟩
      have HR : Hid (r = true ↔ PlainAt s n) := hr.trans HX.out.symm
      have HB1 : Hid (Below w.heap.size w w1) := below_alloc hb1
      clear hr hb1
      go_wp2
      go_ret
      exact reto_iff HR.out HB1.out
    · have e10 : (n.kind == 10) = false := by simp [h10]
      have HX : Hid (PlainAt s n) := fun q => by omega
      clear h13 h10 hka hw hb
      go_enter Tryz.func65, Tryz.ntmps65
      go_wp2
      go_ret
      exact reto_yes HX.out ((Below.refl _ _).alloc (Nat.le_refl _) _)
end Go.Proofs.YtkkicodfpekbgaaGreatDoor

/-! hallmarklaw.copied: what it holds in memory, and that it is the schema. -/
namespace Go.Proofs.YtkkicodfpekbgaaGreatDoor
set_option linter.unusedSimpArgs false
set_option linter.unusedVariables false
open Go.RowKit

def Kd.cells (k : Kd) : List Value := [.int .i64 k.node, .bool k.opt, .string k.dflt]
def kcells (ks : List Kd) : List Value := ks.flatMap Kd.cells
theorem kcells_append (l : List Kd) (k : Kd) : kcells (l ++ [k]) = kcells l ++ k.cells := by unfold kcells; simp
theorem kcells_len (l : List Kd) : (kcells l).length = l.length * 3 := by
  unfold kcells
  induction l with
  | nil => rfl
  | cons a l ih => simp [Kd.cells, ih]; omega
/-- A node's cells, its kids' slice being a value. -/
def ncell (n : Nd) (K : Value) : List Value := [.int .i64 n.kind, .int .i64 n.tag, .int .i64 n.mode, K]
def ncells (s : List Nd) (K : Nat → Value) (k : Nat) : List Value := (List.range k).flatMap fun i => ncell (nd s i) (K i)
theorem ncells_succ (s : List Nd) (K : Nat → Value) (k : Nat) : ncells s K (k + 1) = ncells s K k ++ ncell (nd s k) (K k) := by
  unfold ncells; rw [List.range_succ]; simp
theorem ncells_congr {s : List Nd} {K K' : Nat → Value} {k : Nat} (h : ∀ i, i < k → K i = K' i) : ncells s K k = ncells s K' k := by
  induction k with
  | zero => rfl
  | succ k ih => rw [ncells_succ, ncells_succ, ih (fun i hi => h i (by omega)), h k (by omega)]
theorem ncells_len (s : List Nd) (K : Nat → Value) (k : Nat) : (ncells s K k).length = k * 4 := by
  induction k with
  | zero => rfl
  | succ k ih => rw [ncells_succ, List.length_append, ih]; simp [ncell]; omega
theorem ncells_get (s : List Nd) (K : Nat → Value) (k i : Nat) (hi : i < k) (j : Nat) (hj : j < 4) : (ncells s K k)[i * 4 + j]? = (ncell (nd s i) (K i))[j]? := by
  induction k with
  | zero => omega
  | succ k ih =>
    rw [ncells_succ]
    by_cases e : i = k
    · subst e
      rw [List.getElem?_append_right (by rw [ncells_len]; omega), ncells_len]
      congr 1; omega
    · rw [List.getElem?_append_left (by rw [ncells_len]; omega)]
      exact ih (by omega)
theorem kcells_get (l : List Kd) (i : Nat) (hi : i < l.length) (j : Nat) (hj : j < 3) : (kcells l)[i * 3 + j]? = (l.getD i kd0).cells[j]? := by
  induction l generalizing i with
  | nil => simp at hi
  | cons a l ih =>
    have e : kcells (a :: l) = a.cells ++ kcells l := by unfold kcells; simp
    rw [e]
    cases i with
    | zero => rw [List.getElem?_append_left (by simp [Kd.cells]; omega)]; simp
    | succ i =>
      rw [List.getElem?_append_right (by simp [Kd.cells]; omega)]
      have : (i + 1) * 3 + j - a.cells.length = i * 3 + j := by simp [Kd.cells]; omega
      rw [this, ih i (by simp at hi; omega)]
      simp
/-- What copied holds in memory. -/
structure CpW (s : List Nd) (w wr : World) (k : Nat) (vout : Value) : Prop where
  bel : Below w.heap.size w wr
  own : ∃ K : Nat → Value, wr.ownsRow w.heap.size 58 4 vout k (ncells s K k) ∧ ∀ i, i < k → wr.ownsRow w.heap.size 55 3 (K i) (nd s i).kids.length (kcells (nd s i).kids)
theorem CpW.below {s : List Nd} {w wr w' : World} {k : Nat} {vout : Value} (h : CpW s w wr k vout) (hb : Below wr.heap.size wr w') : CpW s w w' k vout where
  bel := h.bel.trans (hb.mono h.bel.size)
  own := by obtain ⟨K, h1, h2⟩ := h.own; exact ⟨K, own_below h1 hb, fun i hi => own_below (h2 i hi) hb⟩
theorem ownsRow_base {w : World} {b b' : Nat} {e : TypeId} {size : Nat} {v : Value} {n : Nat} {xs : List Value} (h : w.ownsRow b e size v n xs) (hb : b' ≤ b) : w.ownsRow b' e size v n xs := by
  obtain ⟨h1, h2⟩ := h
  refine ⟨h1, ?_⟩
  rcases h2 with h2 | ⟨g, cap, cur, h3, h4, h5⟩
  · exact .inl h2
  · exact .inr ⟨g, cap, cur, h3, Nat.le_trans hb h4, h5⟩
theorem row_ne3 {w : World} {b1 b2 s1 s2 n1 n2 : Nat} {e1 e2 : TypeId} {v1 v2 : Value} {x1 x2 : List Value} (h1 : w.ownsRow b1 e1 s1 v1 n1 x1) (h2 : w.ownsRow b2 e2 s2 v2 n2 x2) (hT : e2 ≠ e1) : v2.ownBlock = none ∨ v2.ownBlock ≠ v1.ownBlock := by
  rcases h2.2 with ⟨q, _⟩ | ⟨g, cap, cur, q, _, hg, _⟩
  · left; rw [q]; rfl
  · right
    intro e
    have : v1.ownBlock = some g := by rw [← e, q]; rfl
    exact row_ne1 hg h1 hT this
/-- A node more. -/
theorem CpW.put {s : List Nd} {w wr w' : World} {k g cap : Nat} {vout vk : Value} {o : Obj} {K : Nat → Value} (hb0 : Below w.heap.size w wr) (q1 : wr.ownsRow w.heap.size 58 4 vout k (ncells s K k)) (q2 : ∀ i, i < k → wr.ownsRow w.heap.size 55 3 (K i) (nd s i).kids.length (kcells (nd s i).kids))
    (hk : wr.ownsRow w.heap.size 55 3 vk (nd s k).kids.length (kcells (nd s k).kids))
    (h1 : w'.ownsRow w.heap.size 58 4 (.slice (some ⟨g, 0, none⟩) (k + 1) cap) (k + 1) (ncells s K k ++ ncell (nd s k) vk))
    (h2 : (wr.alloc o).grownBy w' vout.ownBlock) : CpW s w w' (k + 1) (.slice (some ⟨g, 0, none⟩) (k + 1) cap) := by
  have hb : Below w.heap.size w (wr.alloc o) := hb0.alloc hb0.size o
  refine ⟨hb.grown h2 hb.size (fun j hj => (q1.lt j hj).1), fun i => if i = k then vk else K i, ?_, fun i hi => ?_⟩
  · rw [ncells_succ, if_pos rfl, ncells_congr (K' := K) (fun i hi => if_neg (by omega))]
    exact h1
  · show w'.ownsRow _ _ _ (if i = k then vk else K i) _ _
    by_cases e : i = k
    · subst e; rw [if_pos rfl]; exact (hk.alloc o).kept h2 (row_ne3 q1 hk (by decide))
    · rw [if_neg e]; exact ((q2 i (by omega)).alloc o).kept h2 (row_ne3 q1 (q2 i (by omega)) (by decide))
theorem own_form2 {w : World} {base : Nat} {e : TypeId} {size : Nat} {v : Value} {n : Nat} {xs : List Value} (h : w.ownsRow base e size v n xs) : ∃ a cap, v = .slice a n cap ∧ (0 < n → ∃ g, a = some ⟨g, 0, none⟩) := by
  rcases h.2 with ⟨hv, hn⟩ | ⟨g, cap, cur, hv, _⟩
  · subst hn; exact ⟨none, 0, hv, fun h => absurd h (Nat.lt_irrefl _)⟩
  · exact ⟨_, cap, hv, fun _ => ⟨g, rfl⟩⟩
theorem add0 (g j : Nat) : (⟨g, 0, none⟩ : Addr).add j = ⟨g, j, none⟩ := by unfold Addr.add; split <;> simp_all
/-- The copy is the schema. -/
theorem CpW.sch {s : List Nd} {w wr : World} {vout : Value} (h : CpW s w wr s.length vout) : ∃ a c, vout = .slice a s.length c ∧ Sch wr a s := by
  obtain ⟨K, q1, q2⟩ := h.own
  obtain ⟨a, c, rfl, ha⟩ := own_form2 q1
  refine ⟨a, c, rfl, fun i hi => ?_⟩
  obtain ⟨g, rfl⟩ := ha (by omega)
  have cell : ∀ j, j < 4 → ∀ u, (ncell (nd s i) (K i))[j]? = some u → wr.cell? ⟨g, i * 4 + j, none⟩ = some u := fun j hj u hu => by
    have := q1.cells (g := g) rfl (i * 4 + j) u (by rw [ncells_get s K s.length i hi j hj]; exact hu)
    rwa [add0] at this
  obtain ⟨ka, kc, hK, hka⟩ := own_form2 (q2 i hi)
  have hq := q2 i hi
  rw [hK] at hq cell
  have hcap : (nd s i).kids.length ≤ kc ∧ kc ≤ maxLen := by
    rcases hq.2 with ⟨q, e⟩ | ⟨g', cap, cur, q, _, _, q3, q4, _⟩
    · injection q with _ e1 e2; subst e2; rw [e]; exact ⟨Nat.le_refl _, Nat.zero_le _⟩
    · injection q with _ _ e2; subst e2; exact ⟨q3, q4⟩
  refine ⟨g, 0, ka, kc, rfl, ⟨?_, ?_, ?_, ?_⟩, hcap.1, hcap.2, fun j hj => ?_⟩
  · simpa using cell 0 (by omega) _ rfl
  · simpa using cell 1 (by omega) _ rfl
  · simpa using cell 2 (by omega) _ rfl
  · simpa using cell 3 (by omega) _ rfl
  · obtain ⟨g', rfl⟩ := hka (by omega)
    have kcell : ∀ p, p < 3 → ∀ u, ((nd s i).kids.getD j kd0).cells[p]? = some u → wr.cell? ⟨g', j * 3 + p, none⟩ = some u := fun p hp u hu => by
      have := hq.cells (g := g') rfl (j * 3 + p) u (by rw [kcells_get _ j hj p hp]; exact hu)
      rwa [add0] at this
    exact ⟨g', 0, rfl, by simpa using kcell 0 (by omega) _ rfl, by simpa using kcell 1 (by omega) _ rfl, by simpa using kcell 2 (by omega) _ rfl⟩
end Go.Proofs.YtkkicodfpekbgaaGreatDoor

/-! What writing a tree comes to, as a function on plain data: with fuel, the writing of a node as a parameter of the parts. No walk in it. -/
namespace Go.Proofs.YtkkicodfpekbgaaGreatDoor
set_option linter.unusedSimpArgs false
set_option linter.unusedVariables false

/-- What comes of writing: no tree, or the bytes, which value is next, whether some SetOf is not in order. -/
abbrev WOut := Option (ByteArray × Nat × Bool)
/-- What is written by: a schema, a tree, which content may be. -/
structure WEnv where
  s : List Nd
  t : List Vl
  ok : Int → ByteArray → Bool
/-- How a node is written: node, which value is next, depth. -/
abbrev WRec := Nat → Nat → Int → Option WOut
def vl (t : List Vl) (j : Nat) : Vl := t.getD j ⟨0, noB, 0, 0⟩
/-- A content with its head. -/
def elB (c : Int) (b : Bool) (n : Int) (s : ByteArray) : ByteArray := ⟨(UInt8.ofNat (fb ⟨c, b, n, 0, s.size⟩).toNat :: tl s.size).toArray⟩ ++ s
/-- What follows if a part was written. -/
def WOut.andThen (o : Option WOut) (k : ByteArray → Nat → Bool → Option WOut) : Option WOut :=
  match o with
  | none => none
  | some none => some none
  | some (some (b, x, u)) => k b x u

def wseqF (E : WEnv) (rec : WRec) (dp : Int) : List Kd → Nat → ByteArray → Bool → Option WOut
  | [], x, out, u => some (some (out, x, u))
  | k :: ks, x, out, u =>
    if k.opt = true ∧ x < E.t.length ∧ (vl E.t x).kind = 15 then
      if (vl E.t x).text.size = 0 ∧ (vl E.t x).alt = 0 ∧ (vl E.t x).kids = 0 then wseqF E rec dp ks (x + 1) out u else some none
    else WOut.andThen (rec k.node.toNat x (if k.dflt.size = 0 then dp + 1 else 1)) fun b x' u' =>
      if k.dflt.size ≠ 0 ∧ b = k.dflt then wseqF E rec dp ks x' out (u || u')
      else if 12 < dp + 1 then some none
      else wseqF E rec dp ks x' (out ++ b) (u || u')

def wmanyF (E : WEnv) (rec : WRec) (set : Bool) (i : Nat) (dp : Int) : Nat → Int → Nat → ByteArray → ByteArray → Bool → Option WOut
  | 0, _, _, _, _, _ => none
  | m + 1, c, x, out, last, u =>
    if 0 < c then WOut.andThen (rec i x dp) fun b x' u' => wmanyF E rec set i dp m (c - 1) x' (out ++ b) b (u || u' || (set && below b last))
    else some (some (out, x, u))

/-- A value's element but for a Tag of Mode 1; x: the value behind it. -/
def wbareF (E : WEnv) (rec : WRec) (m : Nat) (n : Nd) (cl nu : Int) (v : Vl) (x : Nat) (dp : Int) : Option WOut :=
  if n.kind = 13 then
    if v.text.size = 0 ∧ v.kids = 1 ∧ 0 ≤ v.alt ∧ v.alt < n.kids.length then rec (kd n v.alt.toNat).node.toNat x dp else some none
  else if n.kind = 14 then
    if (hd v.text).1 = 0 ∧ (hd v.text).2.s + (hd v.text).2.l = v.text.size ∧ v.alt = 0 ∧ v.kids = 0 then some (some (v.text, x, false)) else some none
  else if n.kind = 10 then
    if v.text.size = 0 ∧ v.alt = 0 ∧ v.kids = n.kids.length then WOut.andThen (wseqF E rec dp n.kids x noB false) fun b x' u => some (some (elB cl true nu b, x', u)) else some none
  else if 10 ≤ n.kind ∧ n.kind ≤ 12 then
    if v.text.size = 0 ∧ v.alt = 0 ∧ 0 ≤ v.kids then WOut.andThen (wmanyF E rec (decide (n.kind = 12)) (kd n 0).node.toNat (dp + 1) m v.kids x noB noB false) fun b x' u => some (some (elB cl true nu b, x', u)) else some none
  else if E.ok n.kind v.text = true ∧ v.alt = 0 ∧ v.kids = 0 then some (some (elB cl false nu v.text, x, false)) else some none

/-- The class and the number of a node's own head. -/
def wcl (n : Nd) : Int := if 0 ≤ n.tag ∧ n.mode = 0 then 2 else 0
def wnu (n : Nd) : Int := if 0 ≤ n.tag ∧ n.mode = 0 then n.tag else own0 n.kind
/-- The next value as an element of a node. -/
def wrF (E : WEnv) : Nat → WRec
  | 0, _, _, _ => none
  | f + 1, i, x, dp =>
    if x < E.t.length ∧ (vl E.t x).kind = (nd E.s i).kind ∧ dp ≤ 12 then
      WOut.andThen (wbareF E (wrF E f) f (nd E.s i) (wcl (nd E.s i)) (wnu (nd E.s i)) (vl E.t x) (x + 1) dp) fun b x' u => some (some (if (nd E.s i).mode = 1 then elB 2 true (nd E.s i).tag b else b, x', u))
    else some none

theorem wandThen_cases {o : Option WOut} {k : ByteArray → Nat → Bool → Option WOut} {r : WOut} (h : WOut.andThen o k = some r) : (o = some none ∧ r = none) ∨ ∃ b x u, o = some (some (b, x, u)) ∧ k b x u = some r := by
  unfold WOut.andThen at h
  split at h
  · cases h
  · exact .inl ⟨rfl, (Option.some.inj h).symm⟩
  · exact .inr ⟨_, _, _, rfl, h⟩
theorem wandThen_some {o : Option WOut} {r : WOut} {k : ByteArray → Nat → Bool → Option WOut} (h : o = some r) (hk : ∀ b x u, r = some (b, x, u) → ∃ r', k b x u = some r') : ∃ r', WOut.andThen o k = some r' := by
  subst h
  unfold WOut.andThen
  match r with
  | none => exact ⟨none, rfl⟩
  | some (b, x, u) => exact hk b x u rfl

/-! ### Which value is next, and how many bytes there are -/
/-- So many bytes at most come of the values ahead of a place. -/
def pz (t : List Vl) (x : Nat) : Nat := ((t.take x).map (·.text.size)).sum + 10 * x
theorem pz_succ {t : List Vl} {x : Nat} (h : x < t.length) : pz t (x + 1) = pz t x + (vl t x).text.size + 10 := by
  have e1 : t.take (x + 1) = t.take x ++ [t[x]] := by rw [List.take_add_one, List.getElem?_eq_getElem h]; rfl
  have e2 : vl t x = t[x] := by unfold vl; rw [List.getD_eq_getElem?_getD, List.getElem?_eq_getElem h]; rfl
  unfold pz
  rw [e1, e2, List.map_append, List.sum_append]
  simp only [List.map_cons, List.map_nil, List.sum_cons, List.sum_nil]
  omega
theorem tl_le (n : Int) : (tl n).length ≤ 4 := by
  unfold tl
  repeat' split
  all_goals simp
theorem elB_size (c : Int) (b : Bool) (n : Int) (s : ByteArray) : (elB c b n s).size ≤ s.size + 5 := by
  unfold elB
  have h := tl_le s.size
  rw [ByteArray.size_append]
  show (UInt8.ofNat _ :: tl s.size).toArray.size + s.size ≤ _
  rw [List.size_toArray, List.length_cons]
  omega
/-- A node's element, once written: the next value lies behind, and the bytes are no more than they may be. -/
def Adv (E : WEnv) (x : Nat) (r : WOut) : Prop := ∀ b x' u, r = some (b, x', u) → x < x' ∧ x' ≤ E.t.length ∧ b.size + pz E.t x ≤ pz E.t x'
theorem wseqF_adv {E : WEnv} {rec : WRec} (hr : ∀ i x dp r, rec i x dp = some r → Adv E x r) {dp : Int} : ∀ (ks : List Kd) (x : Nat) (out : ByteArray) (u : Bool) (r : WOut), x ≤ E.t.length → wseqF E rec dp ks x out u = some r → ∀ b x' u', r = some (b, x', u') → x ≤ x' ∧ x' ≤ E.t.length ∧ b.size + pz E.t x ≤ out.size + pz E.t x'
  | [], x, out, u, r, hx, e => by
    unfold wseqF at e
    cases e
    intro b x' u' q
    cases q
    exact ⟨Nat.le_refl _, hx, Nat.le_refl _⟩
  | k :: ks, x, out, u, r, hx, e => by
    unfold wseqF at e
    split at e
    · rename_i q
      split at e
      · intro b x' u' h
        have := wseqF_adv hr ks (x + 1) out u r q.2.1 e b x' u' h
        have hp := pz_succ q.2.1
        omega
      · cases e; intro b x' u' h; cases h
    · rcases wandThen_cases e with ⟨_, rfl⟩ | ⟨b1, x1, u1, h1, h2⟩
      · intro b x' u' h; cases h
      · have a1 := hr _ _ _ _ h1 b1 x1 u1 rfl
        split at h2
        · intro b x' u' h
          have := wseqF_adv hr ks x1 out _ r a1.2.1 h2 b x' u' h
          omega
        · split at h2
          · cases h2; intro b x' u' h; cases h
          · intro b x' u' h
            have := wseqF_adv hr ks x1 _ _ r a1.2.1 h2 b x' u' h
            rw [ByteArray.size_append] at this
            omega
theorem wmanyF_adv {E : WEnv} {rec : WRec} (hr : ∀ i x dp r, rec i x dp = some r → Adv E x r) {set : Bool} {i : Nat} {dp : Int} : ∀ (m : Nat) (c : Int) (x : Nat) (out last : ByteArray) (u : Bool) (r : WOut), x ≤ E.t.length → wmanyF E rec set i dp m c x out last u = some r → ∀ b x' u', r = some (b, x', u') → x ≤ x' ∧ x' ≤ E.t.length ∧ b.size + pz E.t x ≤ out.size + pz E.t x'
  | 0, _, _, _, _, _, _, _, e => by cases e
  | m + 1, c, x, out, last, u, r, hx, e => by
    unfold wmanyF at e
    split at e
    · rcases wandThen_cases e with ⟨_, rfl⟩ | ⟨b1, x1, u1, h1, h2⟩
      · intro b x' u' h; cases h
      · have a1 := hr _ _ _ _ h1 b1 x1 u1 rfl
        intro b x' u' h
        have := wmanyF_adv hr m _ x1 _ _ _ r a1.2.1 h2 b x' u' h
        rw [ByteArray.size_append] at this
        omega
    · cases e
      intro b x' u' h
      cases h
      exact ⟨Nat.le_refl _, hx, Nat.le_refl _⟩
theorem wbareF_adv {E : WEnv} {rec : WRec} (hr : ∀ i x dp r, rec i x dp = some r → Adv E x r) {m : Nat} {n : Nd} {cl nu : Int} {x : Nat} {dp : Int} {r : WOut} (hx : x < E.t.length) (e : wbareF E rec m n cl nu (vl E.t x) (x + 1) dp = some r) : ∀ b x' u, r = some (b, x', u) → x < x' ∧ x' ≤ E.t.length ∧ b.size + pz E.t x + 5 ≤ pz E.t x' := by
  have hp := pz_succ hx
  have h0 : noB.size = 0 := rfl
  unfold wbareF at e
  split at e
  · split at e
    · intro b x' u h
      have := hr _ _ _ _ e b x' u h
      omega
    · cases e; intro b x' u h; cases h
  split at e
  · split at e
    · cases e; intro b x' u h; cases h
      exact ⟨by omega, by omega, by omega⟩
    · cases e; intro b x' u h; cases h
  split at e
  · split at e
    · rcases wandThen_cases e with ⟨_, rfl⟩ | ⟨b1, x1, u1, h1, h2⟩
      · intro b x' u' h; cases h
      · have a1 := wseqF_adv hr _ _ _ _ _ (by omega) h1 b1 x1 u1 rfl
        cases h2
        intro b x' u' h
        cases h
        have := elB_size cl true nu b1
        omega
    · cases e; intro b x' u h; cases h
  split at e
  · split at e
    · rcases wandThen_cases e with ⟨_, rfl⟩ | ⟨b1, x1, u1, h1, h2⟩
      · intro b x' u' h; cases h
      · have a1 := wmanyF_adv hr _ _ _ _ _ _ _ (by omega) h1 b1 x1 u1 rfl
        cases h2
        intro b x' u' h
        cases h
        have := elB_size cl true nu b1
        omega
    · cases e; intro b x' u h; cases h
  split at e
  · cases e; intro b x' u h; cases h
    have := elB_size cl false nu (vl E.t x).text
    exact ⟨by omega, by omega, by omega⟩
  · cases e; intro b x' u h; cases h
theorem wrF_adv {E : WEnv} : ∀ (f i x : Nat) (dp : Int) (r : WOut), wrF E f i x dp = some r → Adv E x r
  | 0, _, _, _, _, e => by cases e
  | f + 1, i, x, dp, r, e => by
    rw [wrF] at e
    split at e
    · rename_i q
      rcases wandThen_cases e with ⟨_, rfl⟩ | ⟨b1, x1, u1, h1, h2⟩
      · intro b x' u h; cases h
      · have a1 := wbareF_adv (wrF_adv f) q.1 h1 b1 x1 u1 rfl
        cases h2
        intro b x' u h
        cases h
        refine ⟨a1.1, a1.2.1, ?_⟩
        split
        · have := elB_size 2 true (nd E.s i).tag b1
          omega
        · omega
    · cases e; intro b x' u h; cases h

/-! ### There is an end -/
theorem wseqF_some {E : WEnv} {rec : WRec} (ha : ∀ i x dp r, rec i x dp = some r → Adv E x r) {dp : Int} (x0 : Nat) (hr : ∀ i x dp, x0 ≤ x → ∃ r, rec i x dp = some r) : ∀ (ks : List Kd) (x : Nat) (out : ByteArray) (u : Bool), x0 ≤ x → ∃ r, wseqF E rec dp ks x out u = some r
  | [], x, out, u, _ => ⟨_, rfl⟩
  | k :: ks, x, out, u, hx => by
    unfold wseqF
    split
    · split
      · exact wseqF_some ha x0 hr ks (x + 1) out u (by omega)
      · exact ⟨_, rfl⟩
    · obtain ⟨r1, h1⟩ := hr k.node.toNat x (if k.dflt.size = 0 then dp + 1 else 1) hx
      refine wandThen_some h1 fun b x' u' q => ?_
      have a1 := ha _ _ _ _ h1 b x' u' q
      split
      · exact wseqF_some ha x0 hr ks x' _ _ (by omega)
      split
      · exact ⟨_, rfl⟩
      · exact wseqF_some ha x0 hr ks x' _ _ (by omega)
theorem wmanyF_some {E : WEnv} {rec : WRec} (ha : ∀ i x dp r, rec i x dp = some r → Adv E x r) {set : Bool} {i : Nat} {dp : Int} (x0 : Nat) (hr : ∀ i x dp, x0 ≤ x → ∃ r, rec i x dp = some r) : ∀ (m : Nat) (c : Int) (x : Nat) (out last : ByteArray) (u : Bool), x0 ≤ x → x ≤ E.t.length → E.t.length + 1 ≤ m + x → ∃ r, wmanyF E rec set i dp m c x out last u = some r
  | 0, c, x, out, last, u, _, h1, h2 => by omega
  | m + 1, c, x, out, last, u, hx, h1, h2 => by
    unfold wmanyF
    split
    · obtain ⟨r1, g1⟩ := hr i x dp hx
      refine wandThen_some g1 fun b x' u' q => ?_
      have a1 := ha _ _ _ _ g1 b x' u' q
      exact wmanyF_some ha x0 hr m _ x' _ _ _ (by omega) a1.2.1 (by omega)
    · exact ⟨_, rfl⟩
theorem wrF_some {E : WEnv} : ∀ (f i x : Nat) (dp : Int), E.t.length + 1 ≤ f + x → 1 ≤ f → ∃ r, wrF E f i x dp = some r
  | 0, _, _, _, _, h => by omega
  | f + 1, i, x, dp, h, _ => by
    rw [wrF]
    split
    · rename_i q
      have hr : ∀ i' x' dp', x + 1 ≤ x' → ∃ r, wrF E f i' x' dp' = some r := fun i' x' dp' hx => wrF_some f i' x' dp' (by omega) (by omega)
      have ha := wrF_adv (E := E) f
      have hb : ∃ r, wbareF E (wrF E f) f (nd E.s i) (wcl (nd E.s i)) (wnu (nd E.s i)) (vl E.t x) (x + 1) dp = some r := by
        unfold wbareF
        split
        · split
          · exact hr _ _ _ (Nat.le_refl _)
          · exact ⟨_, rfl⟩
        split
        · split <;> exact ⟨_, rfl⟩
        split
        · split
          · obtain ⟨r1, g1⟩ := wseqF_some (E := E) ha (dp := dp) (x + 1) hr (nd E.s i).kids (x + 1) noB false (Nat.le_refl _)
            exact wandThen_some g1 fun _ _ _ _ => ⟨_, rfl⟩
          · exact ⟨_, rfl⟩
        split
        · split
          · obtain ⟨r1, g1⟩ := wmanyF_some (E := E) ha (set := decide ((nd E.s i).kind = 12)) (i := (kd (nd E.s i) 0).node.toNat) (dp := dp + 1) (x + 1) hr f (vl E.t x).kids (x + 1) noB noB false (Nat.le_refl _) q.1 (by omega)
            exact wandThen_some g1 fun _ _ _ _ => ⟨_, rfl⟩
          · exact ⟨_, rfl⟩
        split <;> exact ⟨_, rfl⟩
      obtain ⟨r1, g1⟩ := hb
      exact wandThen_some g1 fun _ _ _ _ => ⟨_, rfl⟩
    · exact ⟨_, rfl⟩
end Go.Proofs.YtkkicodfpekbgaaGreatDoor

/-! Sorted: its schema, its trees, its bytes. -/
namespace Go.Proofs.YtkkicodfpekbgaaGreatDoor
set_option linter.unusedSimpArgs false
set_option linter.unusedVariables false

/-- The schema of Sorted, and a tree of it. -/
def srtS : List Nd := [⟨12, -1, 0, [⟨1, false, noB⟩]⟩, ⟨6, -1, 0, []⟩]
def srtT (ts : List ByteArray) : List Vl := ⟨12, noB, 0, ts.length⟩ :: ts.map fun t => ⟨6, t, 0, 0⟩
/-- A text's element. -/
def oct (t : ByteArray) : ByteArray := elB 0 false 4 t
/-- Some text's element lies below the one before. -/
def falls : ByteArray → List ByteArray → Bool
  | _, [] => false
  | l, t :: ts => below (oct t) l || falls (oct t) ts
/-- The elements of texts. -/
def cat : List ByteArray → ByteArray
  | [] => noB
  | t :: ts => oct t ++ cat ts
end Go.Proofs.YtkkicodfpekbgaaGreatDoor

/-! hallmarklaw.alike: of two schemas that are the same, wherever they lie, it answers true. -/
namespace Go.Proofs.YtkkicodfpekbgaaGreatDoor
set_option linter.unusedSimpArgs false
set_option linter.unusedVariables false
open Go.RowKit
set_option maxHeartbeats 2000000 in
set_option maxRecDepth 100000 in
theorem alike_any (s : List Nd) (a1 a2 : Option Addr) (c1 c2 : Nat) (w : World) (h1 : Sch w a1 s) (h2 : Sch w a2 s) (hn : s.length ≤ 140737488351232) :
    Calls Tryz.prog 16 #[.slice a1 s.length c1, .slice a2 s.length c2] w fun e w' => RetO True w e w' := by
  have H1 : Hid (Sch w a1 s) := h1
  have H2 : Hid (Sch w a2 s) := h2
  clear h1 h2
  go_enter Tryz.func16, Tryz.ntmps16
  go_wp2
  go_loopw [5] (fun i wr => ∃ k : Nat, k ≤ s.length ∧ i = .int .i64 k ∧ ∃ q, wr = w.drewN q) (fun i _ => s.length - (intOf i).toNat)
  case atStart => exact ⟨0, Nat.zero_le _, rfl, 0, rfl⟩
  case round =>
    obtain ⟨k, hk, rfl, q, rfl⟩ := hrel
    by_cases hlt : k < s.length
    · obtain ⟨b1, o1, ka1, kc1, e1, n1, m1, M1, k1⟩ := H1.out k hlt
      obtain ⟨b2, o2, ka2, kc2, e2, n2, m2, M2, k2⟩ := H2.out k hlt
      subst e1 e2
      have hlt' : (k : Int) < s.length := by omega
      have hlt'' : decide ((k : Int) < s.length) = true := by simpa using hlt
      obtain ⟨x1, x2, x3, x4⟩ := n1
      obtain ⟨y1, y2, y3, y4⟩ := n2
      have K1 : Hid (KidsIn w ka1 (nd s k).kids) := k1
      have K2 : Hid (KidsIn w ka2 (nd s k).kids) := k2
      clear k1 k2
      go_wp2
      go_quiet (fail)
      go_wp2
      go_loopw [6] (fun i wr => ∃ m : Nat, m ≤ (nd s k).kids.length ∧ i = .int .i64 m ∧ ∃ q, wr = w.drewN q) (fun i _ => (nd s k).kids.length - (intOf i).toNat)
      case atStart => exact ⟨0, Nat.zero_le _, rfl, q + nq, by rw [World.drewN_drewN]⟩
      case round =>
        obtain ⟨m, hm, rfl, q', rfl⟩ := hrel
        have hml : (nd s k).kids.length ≤ 9223372036854775807 := by unfold maxLen at M1; omega
        by_cases hl2 : m < (nd s k).kids.length
        · obtain ⟨d1, p1, f1, r1⟩ := K1.out m hl2
          obtain ⟨d2, p2, f2, r2⟩ := K2.out m hl2
          subst f1 f2
          obtain ⟨i1, i2, i3⟩ := r1
          obtain ⟨j1, j2, j3⟩ := r2
          generalize (nd s k).kids.getD m kd0 = kd at i1 i2 i3 j1 j2 j3
          have hl2' : (m : Int) < (nd s k).kids.length := by omega
          go_wp2
          go_quiet (fail)
          go_wp2
          go_roundw
          case rel => exact ⟨m + 1, by omega, by go_num, _, rfl⟩
          case measure => simp [intOf]; omega
        · have hl2' : ((nd s k).kids.length : Int) ≤ m := by omega
          go_wp2
          go_roundw
          case rel => exact ⟨k + 1, by omega, by go_num, _, rfl⟩
          case measure => simp [intOf]; omega
    · have hlt' : (s.length : Int) ≤ k := by omega
      go_wp2
      go_ret
      exact reto_yes trivial (below_drewN (Below.refl _ _) _)
end Go.Proofs.YtkkicodfpekbgaaGreatDoor

/-! hallmarkkeep.same, of two lists that hold the same values; hallmarkkeep.rises: what it answers. -/
namespace Go.Proofs.YtkkicodfpekbgaaGreatDoor
set_option linter.unusedSimpArgs false
set_option linter.unusedVariables false
open Go.RowKit

theorem hidez {p : Prop} (h : p) : Hid p := h
/-- The values of a list lie in memory. -/
def ValIn (w : World) (a : Option Addr) (vs : List Vl) : Prop := ∀ j, j < vs.length → ∃ g o, a = some ⟨g, o, none⟩ ∧ w.cell? ⟨g, o + j * 4, none⟩ = some (.int .i64 (vl vs j).kind) ∧ w.cell? ⟨g, o + j * 4 + 1, none⟩ = some (.string (vl vs j).text) ∧
  w.cell? ⟨g, o + j * 4 + 2, none⟩ = some (.int .i64 (vl vs j).alt) ∧ w.cell? ⟨g, o + j * 4 + 3, none⟩ = some (.int .i64 (vl vs j).kids)
theorem vcells_in : ∀ (l : List Vl) (i : Nat), i < l.length → ∀ j, j < 4 → (vcells l)[i * 4 + j]? = (vl l i).cells[j]?
  | [], i, h, _, _ => absurd h (Nat.not_lt_zero _)
  | v :: l, 0, _, j, hj => by
    have e : vcells (v :: l) = v.cells ++ vcells l := by unfold vcells; simp
    rw [e, List.getElem?_append_left (by show 0 * 4 + j < 4; omega)]
    simp [vl]
  | v :: l, i + 1, h, j, hj => by
    have e : vcells (v :: l) = v.cells ++ vcells l := by unfold vcells; simp
    have hl : v.cells.length = 4 := rfl
    rw [e, List.getElem?_append_right (by omega), hl, show (i + 1) * 4 + j - 4 = i * 4 + j by omega, vcells_in l i (by simpa using h) j hj]
    simp [vl]
theorem ValIn.of_own {w : World} {base : Nat} {a : Option Addr} {c : Nat} {vs : List Vl} (h : w.ownsRow base 60 4 (.slice a vs.length c) vs.length (vcells vs)) : ValIn w a vs := fun j hj => by
  obtain ⟨a', c', e, hf⟩ := own_form2 h
  obtain ⟨g, rfl⟩ := hf (by omega)
  injection e with e1 _ _
  subst e1
  have q := h.cells (g := g) rfl
  refine ⟨g, 0, rfl, ?_, ?_, ?_, ?_⟩ <;> rw [Nat.zero_add]
  · have := q (j * 4) (.int .i64 (vl vs j).kind) (by rw [show j * 4 = j * 4 + 0 by omega, vcells_in vs j hj 0 (by decide)]; rfl); rwa [add0] at this
  · have := q (j * 4 + 1) (.string (vl vs j).text) (by rw [vcells_in vs j hj 1 (by decide)]; rfl); rwa [add0] at this
  · have := q (j * 4 + 2) (.int .i64 (vl vs j).alt) (by rw [vcells_in vs j hj 2 (by decide)]; rfl); rwa [add0] at this
  · have := q (j * 4 + 3) (.int .i64 (vl vs j).kids) (by rw [vcells_in vs j hj 3 (by decide)]; rfl); rwa [add0] at this
theorem ValIn.below {w w' : World} {a : Option Addr} {vs : List Vl} (h : ValIn w a vs) (hb : Below w.heap.size w w') : ValIn w' a vs := fun j hj => by
  obtain ⟨g, o, e, h1, h2, h3, h4⟩ := h j hj
  exact ⟨g, o, e, (hb.cell (lt_of_cell h1)).trans h1, (hb.cell (lt_of_cell h2)).trans h2, (hb.cell (lt_of_cell h3)).trans h3, (hb.cell (lt_of_cell h4)).trans h4⟩

set_option maxHeartbeats 1000000 in
set_option maxRecDepth 100000 in
theorem ksame_any (vs : List Vl) (a1 a2 : Option Addr) (c1 c2 : Nat) (w : World) (h1 : ValIn w a1 vs) (h2 : ValIn w a2 vs) (hn : vs.length ≤ 140737488351232) :
    Calls Tryz.prog 24 #[.slice a1 vs.length c1, .slice a2 vs.length c2] w fun e w' => e = .returned (.bool true) ∧ Below w.heap.size w w' := by
  have H1 := hidez h1
  have H2 := hidez h2
  clear h1 h2
  go_enter Tryz.func24, Tryz.ntmps24
  go_wp2
  go_loopw [5] (fun i wr => ∃ k : Nat, k ≤ vs.length ∧ i = .int .i64 k ∧ ∃ q, wr = w.drewN q) (fun i _ => vs.length - (intOf i).toNat)
  case atStart => exact ⟨0, Nat.zero_le _, rfl, 0, rfl⟩
  case round =>
    obtain ⟨k, hk, rfl, q, rfl⟩ := hrel
    by_cases hlt : k < vs.length
    · obtain ⟨g1, o1, e1, x1, x2, x3, x4⟩ := H1.out k hlt
      obtain ⟨g2, o2, e2, y1, y2, y3, y4⟩ := H2.out k hlt
      subst e1 e2
      have hlt' : (k : Int) < vs.length := by omega
      generalize vl vs k = x at x1 x2 x3 x4 y1 y2 y3 y4
      go_wp2
      go_quiet (fail)
      go_wp2
      go_roundw
      case rel => exact ⟨k + 1, by omega, by go_num, _, rfl⟩
      case measure => simp [intOf]; omega
    · have hlt' : (vs.length : Int) ≤ k := by omega
      go_wp2
      go_ret
      exact ⟨rfl, below_drewN (Below.refl _ _) _⟩

/-- Texts in memory. -/
def StrIn (w : World) (a : Option Addr) (ts : List ByteArray) : Prop := ∀ j, j < ts.length → ∃ g o, a = some ⟨g, o, none⟩ ∧ w.cell? ⟨g, o + j, none⟩ = some (.string (ts.getD j noB))
/-- Each of the first texts is not below the one before. -/
def RisesTo (ts : List ByteArray) (n : Nat) : Prop := ∀ j, j + 1 < n → below (ts.getD (j + 1) noB) (ts.getD j noB) = false
set_option maxHeartbeats 1000000 in
set_option maxRecDepth 100000 in
theorem rises_any (ts : List ByteArray) (a : Option Addr) (c : Nat) (w : World) (h : StrIn w a ts) (hn : ts.length ≤ 140737488351232) :
    Calls Tryz.prog 26 #[.slice a ts.length c] w fun e w' => RetO (RisesTo ts ts.length) w e w' := by
  have H := hidez h
  clear h
  go_enter Tryz.func26, Tryz.ntmps26
  go_wp2
  go_loopw [3] (fun i wr => ∃ m : Nat, i = .int .i64 m ∧ 1 ≤ m ∧ (m = 1 ∨ m ≤ ts.length) ∧ RisesTo ts m ∧ ∃ q, wr = w.drewN q) (fun i _ => ts.length + 1 - (intOf i).toNat)
  case atStart => exact ⟨1, rfl, Nat.le_refl _, .inl rfl, fun j hj => by omega, 0, rfl⟩
  case round =>
    obtain ⟨m, rfl, hm1, hk, hR, q, rfl⟩ := hrel
    have HR := hidez hR
    clear hR
    by_cases hlt : m < ts.length
    · obtain ⟨p, hp⟩ : ∃ p, m = p + 1 := ⟨m - 1, by omega⟩
      obtain ⟨g1, o1, e1, x1⟩ := H.out m hlt
      obtain ⟨g2, o2, e2, y1⟩ := H.out p (by omega)
      subst e1
      injection e2 with e2
      injection e2 with e2 e3 _
      subst e2 e3
      have hlt' : (m : Int) < ts.length := by omega
      have hpl : p < ts.length := by omega
      have hpl' : (p : Int) < ts.length := by omega
      have hmw : (m : Int) - 1 = p := by omega
      have hw1 : IntKind.i64.wrap ((m : Int) - 1) = (p : Int) := by rw [hmw]; exact wraps_i64 _ (by omega) (by omega)
      have HB : Hid (∀ b, below (ts.getD m noB) (ts.getD p noB) = b → Op.bytesLess (ts.getD m noB).toList (ts.getD p noB).toList = b) := fun b e => e
      have HBN : Hid (below (ts.getD m noB) (ts.getD p noB) = true → ¬ RisesTo ts ts.length) := fun e z => by
        have := z p (by omega)
        rw [← hp, e] at this
        cases this
      have HBY : Hid (below (ts.getD m noB) (ts.getD p noB) = false → RisesTo ts (m + 1)) := fun e j hj => by
        by_cases z : j = p
        · rw [z, ← hp]; exact e
        · exact HR.out j (by omega)
      clear hk hp hmw hm1
      generalize ts.getD m noB = u at x1 HB HBN HBY
      generalize ts.getD p noB = v at y1 HB HBN HBY
      by_cases hb : below u v = true
      · have hb' := HB.out _ hb
        go_wp2
        go_quiet (fail)
        go_wp2
        go_ret
        exact reto_no (HBN.out hb) (below_drewN (below_drewN (Below.refl _ _) _) _)
      · have hb1 : below u v = false := by simpa using hb
        have hb' := HB.out _ hb1
        go_wp2
        go_quiet (fail)
        go_wp2
        go_roundw
        case rel => exact ⟨m + 1, by go_num, by omega, .inr hlt, HBY.out hb1, _, rfl⟩
        case measure => simp [intOf]; omega
    · have hlt' : (ts.length : Int) ≤ m := by omega
      have HY : Hid (RisesTo ts ts.length) := fun j hj => HR.out j (by omega)
      clear hk
      go_wp2
      go_ret
      exact reto_yes HY.out (below_drewN (Below.refl _ _) _)
end Go.Proofs.YtkkicodfpekbgaaGreatDoor

/-! hallmarkkeep.pick: a raw number, taken into its bounds. -/
namespace Go.Proofs.YtkkicodfpekbgaaGreatDoor
set_option linter.unusedSimpArgs false
set_option linter.unusedVariables false
open Go.RowKit

/-- A raw number, taken into its bounds. -/
def pk (c n : Int) : Int := if c < 0 then -(c + 1) % n else c % n
theorem pk_bd (c n : Int) (hn : 0 < n) : 0 ≤ pk c n ∧ pk c n < n := by
  unfold pk
  split
  · exact ⟨Int.emod_nonneg _ (by omega), Int.emod_lt_of_pos _ hn⟩
  · exact ⟨Int.emod_nonneg _ (by omega), Int.emod_lt_of_pos _ hn⟩

theorem ret_int {a b : Int} (h : a = b) : Ending.returned (.int .i64 a) = .returned (.int .i64 b) := by rw [h]

set_option maxHeartbeats 1000000 in
set_option maxRecDepth 100000 in
theorem pick_any (c n : Int) (w : World) (h0 : -9223372036854775808 ≤ c) (h1 : c ≤ 9223372036854775807) (hn : 0 < n) (hn1 : n ≤ 9223372036854775807) :
    Calls Tryz.prog 25 #[.int .i64 c, .int .i64 n] w fun e w' => e = .returned (.int .i64 (pk c n)) ∧ w = w' := by
  unfold pk
  have hnz : (n == 0) = false := beq_eq_false_iff_ne.2 (by omega)
  by_cases h : c < 0
  · rw [if_pos h]
    go_enter Tryz.func25, Tryz.ntmps25
    go_wp2
    go_ret
    refine ⟨ret_int ?_, rfl⟩
    rw [← Int.neg_tmod, Int.tmod_eq_emod_of_nonneg (by omega)]
  · rw [if_neg h]
    go_enter Tryz.func25, Tryz.ntmps25
    go_wp2
    go_ret
    exact ⟨rfl, rfl⟩
end Go.Proofs.YtkkicodfpekbgaaGreatDoor

/-! A head that is told is read again: plain mathematics; no program is named here. -/
namespace Go.Proofs.YtkkicodfpekbgaaGreatDoor
set_option linter.unusedSimpArgs false
set_option linter.unusedVariables false

theorem b8_mk (l : List UInt8) (i : Nat) : b8 ⟨l.toArray⟩ i = ((l.getD i 0).toNat : Int) := by simp [b8]
theorem size_mk (l : List UInt8) : (⟨l.toArray⟩ : ByteArray).size = l.length := by show l.toArray.size = _; simp
theorem extract_mk (a : UInt8) (l : List UInt8) : (⟨(a :: l).toArray⟩ : ByteArray).extract 1 (⟨(a :: l).toArray⟩ : ByteArray).size = ⟨l.toArray⟩ := by
  apply ByteArray.ext
  rw [size_mk]
  apply Array.toList_inj.1
  rw [Lib.extract_data]
  simp
theorem u8_nat (x : Int) (h0 : 0 ≤ x) (h1 : x < 256) : ((UInt8.ofNat x.toNat).toNat : Int) = x := by
  have : (UInt8.ofNat x.toNat).toNat = x.toNat := by rw [UInt8.toNat_ofNat']; omega
  omega

/-- The length's bytes, whatever comes behind, tell the length. -/
theorem rl_tl (n : Int) (h0 : 0 ≤ n) (h1 : n < 16777216) (rest : List UInt8) : rl ⟨(tl n ++ rest).toArray⟩ = (0, 1 + cnt n, n) := by
  have hlen := tl_length n
  have hc := cnt_cases n
  rcases hc with ⟨a, b⟩ | ⟨a, a', b⟩ | ⟨a, a', b⟩ | ⟨a, b⟩
  · have e : tl n = [UInt8.ofNat n.toNat] := by unfold tl; rw [if_pos a]
    have e0 : b8 ⟨(tl n ++ rest).toArray⟩ 0 = n := by rw [b8_mk, e]; exact u8_nat n h0 (by omega)
    unfold rl
    rw [size_mk, e0, if_neg (by rw [e]; simp), if_pos a, b]
    rfl
  · have e : tl n = [129, UInt8.ofNat n.toNat] := by unfold tl; rw [if_neg (by omega), if_pos a']
    have e0 : b8 ⟨(tl n ++ rest).toArray⟩ 0 = 129 := by rw [b8_mk, e]; rfl
    have e1 : b8 ⟨(tl n ++ rest).toArray⟩ 1 = n := by rw [b8_mk, e]; exact u8_nat n h0 (by omega)
    have en : numTo ⟨(tl n ++ rest).toArray⟩ 1 = n := by simp only [numTo]; rw [e1]; omega
    unfold rl
    rw [size_mk, e0, if_neg (by rw [e]; simp), if_neg (by omega), if_neg (by omega), if_neg (by rw [e]; simp; omega), show ((129 : Int) - 128).toNat = 1 by rfl, en, if_neg (by omega), b]
    rfl
  · have e : tl n = [130, UInt8.ofNat (n / 256).toNat, UInt8.ofNat (n % 256).toNat] := by unfold tl; rw [if_neg (by omega), if_neg (by omega), if_pos a']
    have e0 : b8 ⟨(tl n ++ rest).toArray⟩ 0 = 130 := by rw [b8_mk, e]; rfl
    have e1 : b8 ⟨(tl n ++ rest).toArray⟩ 1 = n / 256 := by rw [b8_mk, e]; exact u8_nat _ (by omega) (by omega)
    have e2 : b8 ⟨(tl n ++ rest).toArray⟩ 2 = n % 256 := by rw [b8_mk, e]; exact u8_nat _ (by omega) (by omega)
    have en : numTo ⟨(tl n ++ rest).toArray⟩ 2 = n := by simp only [numTo]; rw [e1, e2]; omega
    unfold rl
    rw [size_mk, e0, if_neg (by rw [e]; simp), if_neg (by omega), if_neg (by omega), if_neg (by rw [e]; simp; omega), show ((130 : Int) - 128).toNat = 2 by rfl, en, if_neg (by omega), b]
    rfl
  · have e : tl n = [131, UInt8.ofNat (n / 65536).toNat, UInt8.ofNat (n / 256 % 256).toNat, UInt8.ofNat (n % 256).toNat] := by unfold tl; rw [if_neg (by omega), if_neg (by omega), if_neg (by omega)]
    have e0 : b8 ⟨(tl n ++ rest).toArray⟩ 0 = 131 := by rw [b8_mk, e]; rfl
    have e1 : b8 ⟨(tl n ++ rest).toArray⟩ 1 = n / 65536 := by rw [b8_mk, e]; exact u8_nat _ (by omega) (by omega)
    have e2 : b8 ⟨(tl n ++ rest).toArray⟩ 2 = n / 256 % 256 := by rw [b8_mk, e]; exact u8_nat _ (by omega) (by omega)
    have e3 : b8 ⟨(tl n ++ rest).toArray⟩ 3 = n % 256 := by rw [b8_mk, e]; exact u8_nat _ (by omega) (by omega)
    have en : numTo ⟨(tl n ++ rest).toArray⟩ 3 = n := by simp only [numTo]; rw [e1, e2, e3]; omega
    unfold rl
    rw [size_mk, e0, if_neg (by rw [e]; simp), if_neg (by omega), if_neg (by omega), if_neg (by rw [e]; simp; omega), show ((131 : Int) - 128).toNat = 3 by rfl, en, if_neg (by omega), b]
    rfl

/-- A head's bytes and what comes behind them, read: the head, if that is enough; else they end. -/
theorem hd_told (c : Int) (b : Bool) (n l : Int) (z : Int) (q1 : 0 ≤ c) (q2 : c ≤ 3) (q3 : 0 ≤ n) (q4 : n ≤ 30) (q5 : 0 ≤ l) (q6 : l ≤ 16777215) (rest : List UInt8) :
    hd ⟨(UInt8.ofNat (fb ⟨c, b, n, z, l⟩).toNat :: (tl l ++ rest)).toArray⟩ = if (rest.length : Int) < l then (3, .zero) else (0, ⟨c, b, n, 2 + cnt l, l⟩) := by
  have hf : fb ⟨c, b, n, z, l⟩ = c * 64 + n + (if b then 32 else 0) := by unfold fb; cases b <;> simp
  have hf0 : 0 ≤ fb ⟨c, b, n, z, l⟩ ∧ fb ⟨c, b, n, z, l⟩ < 256 := by rw [hf]; cases b <;> simp <;> omega
  have e0 : b8 ⟨(UInt8.ofNat (fb ⟨c, b, n, z, l⟩).toNat :: (tl l ++ rest)).toArray⟩ 0 = fb ⟨c, b, n, z, l⟩ := by rw [b8_mk]; exact u8_nat _ hf0.1 hf0.2
  have hlen := tl_length l
  have hd1 : fb ⟨c, b, n, z, l⟩ % 32 = n := by rw [hf]; cases b <;> simp <;> omega
  have hd2 : fb ⟨c, b, n, z, l⟩ / 64 = c := by rw [hf]; cases b <;> simp <;> omega
  have hd3 : (fb ⟨c, b, n, z, l⟩ / 32 % 2 == 1) = b := by
    rw [hf]; cases b
    · rw [beq_eq_false_iff_ne]; simp; omega
    · rw [beq_iff_eq]; simp; omega
  unfold hd
  rw [extract_mk, rl_tl l q5 (by omega) rest, e0, hd1, hd2, hd3, size_mk]
  simp only
  rw [if_neg (by simp), if_neg (by omega), if_neg (by omega)]
  have hL : (((UInt8.ofNat (fb ⟨c, b, n, z, l⟩).toNat :: (tl l ++ rest)).length : Nat) : Int) = 2 + cnt l + rest.length := by
    simp only [List.length_cons, List.length_append]; omega
  rw [hL]
  by_cases h : (rest.length : Int) < l
  · rw [if_pos h, if_pos (by omega)]
  · rw [if_neg h, if_neg (by omega), show 1 + cnt l + 1 = 2 + cnt l by omega]
theorem hd_one (a : UInt8) (h : (a.toNat : Int) % 32 ≠ 31) : hd ⟨[a].toArray⟩ = (3, .zero) := by
  have e0 : b8 ⟨[a].toArray⟩ 0 = a.toNat := by rw [b8_mk]; rfl
  unfold hd
  rw [extract_mk, e0, size_mk]
  have hr : rl ⟨([] : List UInt8).toArray⟩ = (3, 0, 0) := by unfold rl; rw [size_mk]; rfl
  rw [hr, if_neg (by simp), if_neg h]
  rfl
theorem mk_append (x y : List UInt8) : (⟨x.toArray⟩ : ByteArray) ++ ⟨y.toArray⟩ = ⟨(x ++ y).toArray⟩ := by
  apply ByteArray.ext
  simp
theorem mk_eta (t : ByteArray) : t = ⟨t.data.toList.toArray⟩ := by
  apply ByteArray.ext
  simp
theorem mk_zeros (m : Nat) : (⟨Array.replicate m 0⟩ : ByteArray) = ⟨(List.replicate m (0 : UInt8)).toArray⟩ := by
  apply ByteArray.ext
  simp
theorem told_plus (c : Int) (b : Bool) (n z : Int) (m : Nat) (q1 : 0 ≤ c) (q2 : c ≤ 3) (q3 : 0 ≤ n) (q4 : n ≤ 30) (q6 : (m : Int) ≤ 16777215) (t : ByteArray) :
    hd (⟨(UInt8.ofNat (fb ⟨c, b, n, z, m⟩).toNat :: tl m).toArray⟩ ++ ⟨Array.replicate m 0⟩ ++ t) = (0, ⟨c, b, n, ((⟨(UInt8.ofNat (fb ⟨c, b, n, z, m⟩).toNat :: tl m).toArray⟩ : ByteArray).size : Int), m⟩) := by
  have hl := tl_length m
  rw [size_mk, mk_zeros, mk_append, mk_eta t, mk_append]
  have e : (UInt8.ofNat (fb ⟨c, b, n, z, m⟩).toNat :: tl m) ++ List.replicate m (0 : UInt8) ++ t.data.toList = UInt8.ofNat (fb ⟨c, b, n, z, m⟩).toNat :: (tl m ++ (List.replicate m (0 : UInt8) ++ t.data.toList)) := by simp
  rw [e, hd_told c b n m z q1 q2 q3 q4 (by omega) q6, if_neg (by simp only [List.length_append, List.length_replicate]; omega)]
  rw [show ((UInt8.ofNat (fb ⟨c, b, n, z, m⟩).toNat :: tl m).length : Int) = 2 + cnt m by simp only [List.length_cons]; omega]
theorem told_less (c : Int) (b : Bool) (n z : Int) (m k : Nat) (q1 : 0 ≤ c) (q2 : c ≤ 3) (q3 : 0 ≤ n) (q4 : n ≤ 30) (q6 : (m : Int) ≤ 16777215)
    (hk : k = (⟨(UInt8.ofNat (fb ⟨c, b, n, z, m⟩).toNat :: tl m).toArray⟩ : ByteArray).size + m - 1) :
    hd ((⟨(UInt8.ofNat (fb ⟨c, b, n, z, m⟩).toNat :: tl m).toArray⟩ ++ ⟨Array.replicate m 0⟩ : ByteArray).extract 0 k) = (3, .zero) := by
  have hl := tl_length m
  rw [size_mk] at hk
  simp only [List.length_cons] at hk
  rw [mk_zeros, mk_append]
  have ex : ∀ (l : List UInt8) (j : Nat), (⟨l.toArray⟩ : ByteArray).extract 0 j = ⟨(l.take j).toArray⟩ := fun l j => by
    apply ByteArray.ext
    apply Array.toList_inj.1
    rw [Lib.extract_data]
    simp
  rw [ex]
  by_cases hm : m = 0
  · subst hm
    have et : tl ((0 : Nat) : Int) = [0] := rfl
    rw [et] at hk ⊢
    have hk1 : k = 1 := by simp at hk; omega
    subst hk1
    simp only [List.replicate, List.append_nil, List.take_succ_cons, List.take_zero]
    refine hd_one _ ?_
    have hf : fb ⟨c, b, n, z, ((0 : Nat) : Int)⟩ = c * 64 + n + (if b then 32 else 0) := by unfold fb; cases b <;> simp
    rw [u8_nat _ (by rw [hf]; cases b <;> simp <;> omega) (by rw [hf]; cases b <;> simp <;> omega), hf]
    cases b <;> simp <;> omega
  · obtain ⟨j, rfl⟩ : ∃ j, m = j + 1 := ⟨m - 1, by omega⟩
    have e : ((UInt8.ofNat (fb ⟨c, b, n, z, ((j + 1 : Nat) : Int)⟩).toNat :: tl ((j + 1 : Nat) : Int)) ++ List.replicate (j + 1) (0 : UInt8)).take k = UInt8.ofNat (fb ⟨c, b, n, z, ((j + 1 : Nat) : Int)⟩).toNat :: (tl ((j + 1 : Nat) : Int) ++ List.replicate j (0 : UInt8)) := by
      have hk' : k = (UInt8.ofNat (fb ⟨c, b, n, z, ((j + 1 : Nat) : Int)⟩).toNat :: tl ((j + 1 : Nat) : Int)).length + j := by simp only [List.length_cons]; omega
      rw [hk', List.take_length_add_append, List.take_replicate, Nat.min_eq_left (by omega)]
      simp
    rw [e, hd_told c b n ((j + 1 : Nat) : Int) z q1 q2 q3 q4 (by omega) q6, if_pos (by rw [List.length_replicate]; omega)]
end Go.Proofs.YtkkicodfpekbgaaGreatDoor

/-! What is read of a head can be told in one way alone: plain mathematics. -/
namespace Go.Proofs.YtkkicodfpekbgaaGreatDoor
set_option linter.unusedSimpArgs false
set_option linter.unusedVariables false

theorem elB_list (c : Int) (b : Bool) (n : Int) (s : ByteArray) : elB c b n s = ⟨(UInt8.ofNat (fb ⟨c, b, n, 0, s.size⟩).toNat :: (tl s.size ++ s.data.toList)).toArray⟩ := by
  unfold elB
  conv => lhs; rw [mk_eta s]
  rw [mk_append, ← mk_eta s]
  rfl
/-- An element's head is read as it was told. -/
theorem hd_elB (c : Int) (b : Bool) (n : Int) (s : ByteArray) (q1 : 0 ≤ c) (q2 : c ≤ 3) (q3 : 0 ≤ n) (q4 : n ≤ 30) (hs : s.size ≤ 16777215) : hd (elB c b n s) = (0, ⟨c, b, n, 2 + cnt s.size, s.size⟩) := by
  rw [elB_list, hd_told c b n s.size 0 q1 q2 q3 q4 (by omega) (by omega), if_neg (by show ¬ (((s.data.toList.length : Nat) : Int) < s.size); simp)]
theorem elB_sz (c : Int) (b : Bool) (n : Int) (s : ByteArray) : ((elB c b n s).size : Int) = 2 + cnt s.size + s.size := by
  have h := tl_length s.size
  unfold elB
  rw [ByteArray.size_append, size_mk, List.length_cons]
  omega
theorem elB_rest (c : Int) (b : Bool) (n : Int) (s : ByteArray) : (elB c b n s).extract (2 + cnt s.size).toNat (elB c b n s).size = s := by
  have h := tl_length s.size
  have hz := elB_sz c b n s
  rw [elB_list]
  apply ByteArray.ext
  apply Array.toList_inj.1
  rw [Lib.extract_data, size_mk, show (2 + cnt s.size).toNat = (tl s.size).length + 1 by omega]
  show ((UInt8.ofNat (fb ⟨c, b, n, 0, s.size⟩).toNat :: (tl s.size ++ s.data.toList)).drop _).take _ = _
  rw [List.drop_succ_cons, List.drop_left, List.take_of_length_le (by simp)]
/-- A length's bytes are the one way to tell it. -/
theorem rl_inv (r : List UInt8) (h : (rl ⟨r.toArray⟩).1 = 0) : ∃ rest, r = tl (rl ⟨r.toArray⟩).2.2 ++ rest ∧ (rl ⟨r.toArray⟩).2.1 = 1 + cnt (rl ⟨r.toArray⟩).2.2 := by
  obtain ⟨u, hu⟩ : ∃ u, rl ⟨r.toArray⟩ = u := ⟨_, rfl⟩
  rw [hu] at h ⊢
  have hof : ∀ a : UInt8, UInt8.ofNat ((a.toNat : Int)).toNat = a := fun a => by simp
  unfold rl at hu
  rw [size_mk] at hu
  rcases r with _ | ⟨a, r⟩
  · rw [if_pos List.length_nil] at hu; rw [← hu] at h; cases h
  · have ha := UInt8.toNat_lt a
    rw [if_neg (by simp), show b8 ⟨(a :: r).toArray⟩ 0 = (a.toNat : Int) by rw [b8_mk]; rfl] at hu
    by_cases h1 : (a.toNat : Int) < 128
    · rw [if_pos h1] at hu
      subst hu
      refine ⟨r, ?_, ?_⟩
      · show _ = tl (a.toNat : Int) ++ r
        unfold tl
        rw [if_pos h1, hof]; rfl
      · show (1 : Int) = 1 + cnt (a.toNat : Int)
        unfold cnt
        rw [if_pos h1]; rfl
    rw [if_neg h1] at hu
    by_cases h2 : (a.toNat : Int) = 128 ∨ 131 < (a.toNat : Int)
    · rw [if_pos h2] at hu; rw [← hu] at h; cases h
    rw [if_neg h2] at hu
    by_cases h3 : (((a :: r).length : Nat) : Int) ≤ (a.toNat : Int) - 128
    · rw [if_pos h3] at hu; rw [← hu] at h; cases h
    rw [if_neg h3] at hu
    by_cases h4 : (a.toNat : Int) - 128 ≠ cnt (numTo ⟨(a :: r).toArray⟩ ((a.toNat : Int) - 128).toNat)
    · rw [if_pos h4] at hu; rw [← hu] at h; cases h
    rw [if_neg h4] at hu
    have h4' : (a.toNat : Int) - 128 = cnt (numTo ⟨(a :: r).toArray⟩ ((a.toNat : Int) - 128).toNat) := Classical.not_not.1 h4
    subst hu
    have hN := numTo_bd ⟨(a :: r).toArray⟩ ((a.toNat : Int) - 128).toNat
    obtain ⟨N, hNe⟩ : ∃ N, numTo ⟨(a :: r).toArray⟩ ((a.toNat : Int) - 128).toNat = N := ⟨_, rfl⟩
    rw [hNe] at h4' hN ⊢
    show ∃ rest, a :: r = tl N ++ rest ∧ 1 + ((a.toNat : Int) - 128) = 1 + cnt N
    have hlen : ((a.toNat : Int) - 128) < ((a :: r).length : Nat) := by omega
    simp only [List.length_cons] at hlen
    have hc := cnt_cases N
    have haa : ∀ k : Nat, k < 256 → a.toNat = k → a = UInt8.ofNat k := fun k hk e => by rw [← e]; simp
    have hA : a.toNat = 129 ∨ a.toNat = 130 ∨ a.toNat = 131 := by omega
    rcases hA with hA | hA | hA
    · have hc1 : 128 ≤ N ∧ N < 256 := by omega
      rcases r with _ | ⟨r1, rest⟩
      · simp at hlen; omega
      · have e1 : N = (r1.toNat : Int) := by
          rw [← hNe, show ((a.toNat : Int) - 128).toNat = 1 by omega]
          simp only [numTo]
          rw [b8_mk]; simp
        refine ⟨rest, ?_, by omega⟩
        unfold tl
        rw [if_neg (by omega), if_pos hc1.2, e1, hof, haa 129 (by decide) hA]; rfl
    · have hc1 : 256 ≤ N ∧ N < 65536 := by omega
      rcases r with _ | ⟨r1, _ | ⟨r2, rest⟩⟩
      · simp at hlen; omega
      · simp at hlen; omega
      · have b1 := UInt8.toNat_lt r1
        have b2 := UInt8.toNat_lt r2
        have e1 : N = (r1.toNat : Int) * 256 + (r2.toNat : Int) := by
          rw [← hNe, show ((a.toNat : Int) - 128).toNat = 2 by omega]
          simp only [numTo]
          rw [b8_mk, b8_mk]; simp
        refine ⟨rest, ?_, by omega⟩
        unfold tl
        rw [if_neg (by omega), if_neg (by omega), if_pos hc1.2, show N / 256 = (r1.toNat : Int) by omega, show N % 256 = (r2.toNat : Int) by omega, hof, hof, haa 130 (by decide) hA]; rfl
    · have hc1 : 65536 ≤ N := by omega
      rcases r with _ | ⟨r1, _ | ⟨r2, _ | ⟨r3, rest⟩⟩⟩
      · simp at hlen; omega
      · simp at hlen; omega
      · simp at hlen; omega
      · have b1 := UInt8.toNat_lt r1
        have b2 := UInt8.toNat_lt r2
        have b3 := UInt8.toNat_lt r3
        have e1 : N = ((r1.toNat : Int) * 256 + (r2.toNat : Int)) * 256 + (r3.toNat : Int) := by
          rw [← hNe, show ((a.toNat : Int) - 128).toNat = 3 by omega]
          simp only [numTo]
          rw [b8_mk, b8_mk, b8_mk]; simp
        refine ⟨rest, ?_, by omega⟩
        unfold tl
        rw [if_neg (by omega), if_neg (by omega), if_neg (by omega), show N / 65536 = (r1.toNat : Int) by omega, show N / 256 % 256 = (r2.toNat : Int) by omega, show N % 256 = (r3.toNat : Int) by omega, hof, hof, hof, haa 131 (by decide) hA]; rfl
/-- A text that is one element is the one way to tell it. -/
theorem elB_hd {t : ByteArray} (h : (hd t).1 = 0) (hz : (hd t).2.s + (hd t).2.l = t.size) : t = elB (hd t).2.c (hd t).2.b (hd t).2.n (t.extract (hd t).2.s.toNat t.size) ∧ 0 ≤ (hd t).2.c ∧ (hd t).2.c ≤ 3 ∧ 0 ≤ (hd t).2.n ∧ (hd t).2.n ≤ 30 ∧ ((t.extract (hd t).2.s.toNat t.size).size : Int) = (hd t).2.l ∧ (hd t).2.l ≤ 16777215 := by
  have e : t = ⟨t.data.toList.toArray⟩ := mk_eta t
  generalize t.data.toList = l at e
  subst e
  rcases l with _ | ⟨a, r⟩
  · unfold hd at h; rw [size_mk, if_pos List.length_nil] at h; cases h
  · have ha := UInt8.toNat_lt a
    have hb : b8 ⟨(a :: r).toArray⟩ 0 = (a.toNat : Int) := by rw [b8_mk]; rfl
    unfold hd at h hz ⊢
    rw [extract_mk, hb] at h hz ⊢
    have hzr : ((⟨(a :: r).toArray⟩ : ByteArray).size) ≠ 0 := by rw [size_mk]; simp
    rw [if_neg hzr] at h hz ⊢
    by_cases q1 : (a.toNat : Int) % 32 = 31
    · rw [if_pos q1] at h; cases h
    rw [if_neg q1] at h hz ⊢
    by_cases q2 : (rl ⟨r.toArray⟩).1 ≠ 0
    · rw [if_pos q2] at h; exact absurd h q2
    rw [if_neg q2] at h hz ⊢
    have q2' : (rl ⟨r.toArray⟩).1 = 0 := Classical.not_not.1 q2
    have hbd := rl_bd ⟨r.toArray⟩
    obtain ⟨rest, e1, e2⟩ := rl_inv r q2'
    generalize rl ⟨r.toArray⟩ = u at h hz e1 e2 q2' hbd ⊢
    obtain ⟨u0, u1, u2⟩ := u
    simp only at h hz e1 e2 q2' hbd ⊢
    split at h
    · cases h
    rename_i q3
    rw [if_neg q3] at hz ⊢
    simp only at hz ⊢
    have hl := tl_length u2
    have hrest : (⟨(a :: r).toArray⟩ : ByteArray).extract (u1 + 1).toNat (⟨(a :: r).toArray⟩ : ByteArray).size = ⟨rest.toArray⟩ := by
      apply ByteArray.ext
      apply Array.toList_inj.1
      rw [Lib.extract_data, size_mk]
      show ((a :: r).toArray.toList.drop (u1 + 1).toNat).take _ = _
      rw [show (u1 + 1).toNat = (tl u2).length + 1 by omega, e1]
      simp
    have hsz : (⟨(a :: r).toArray⟩ : ByteArray).size = (tl u2).length + 1 + rest.length := by rw [size_mk, e1]; simp; omega
    rw [hsz] at hz
    have hr : (rest.length : Int) = u2 := by omega
    rw [hrest, size_mk]
    refine ⟨?_, by omega, by omega, by omega, by omega, by omega, by omega⟩
    rw [elB_list, size_mk, hr]
    have hf : fb ⟨(a.toNat : Int) / 64, (a.toNat : Int) / 32 % 2 == 1, (a.toNat : Int) % 32, 0, u2⟩ = (a.toNat : Int) := by
      unfold fb
      simp only
      split
      · rename_i hh; have := beq_iff_eq.1 hh; omega
      · rename_i hh; have : ¬ (a.toNat : Int) / 32 % 2 = 1 := fun q => hh (beq_iff_eq.2 q); omega
    rw [hf, show UInt8.ofNat ((a.toNat : Int)).toNat = a by simp, show (⟨rest.toArray⟩ : ByteArray).data.toList = rest by simp, ← e1]
end Go.Proofs.YtkkicodfpekbgaaGreatDoor

/-! A text that lies within data, and what is read of it: plain mathematics. -/
namespace Go.Proofs.YtkkicodfpekbgaaGreatDoor
set_option linter.unusedSimpArgs false
set_option linter.unusedVariables false

/-- A text lies in data at a place. -/
def At (d : ByteArray) (x : Nat) (b : ByteArray) : Prop := x + b.size ≤ d.size ∧ d.extract x (x + b.size) = b
theorem At.all (d : ByteArray) : At d 0 d := ⟨by omega, by rw [Nat.zero_add]; exact ByteArray.extract_zero_size⟩
theorem At.nil {d : ByteArray} {x : Nat} (h : x ≤ d.size) : At d x noB := ⟨h, by
  apply ByteArray.ext
  apply Array.toList_inj.1
  apply List.eq_nil_of_length_eq_zero
  show (d.extract x (x + 0)).size = 0
  rw [ex_size]; omega⟩
theorem At.left {d a b : ByteArray} {x : Nat} (h : At d x (a ++ b)) : At d x a := by
  have e := h.2
  have hz := h.1
  rw [ByteArray.size_append] at e hz
  refine ⟨by omega, ?_⟩
  have q : (d.extract x (x + (a.size + b.size))).extract 0 a.size = (a ++ b).extract 0 a.size := by rw [e]
  rw [ByteArray.extract_extract, ByteArray.extract_append_eq_left rfl, Nat.add_zero, Nat.min_eq_left (by omega)] at q
  exact q
theorem At.right {d a b : ByteArray} {x : Nat} (h : At d x (a ++ b)) : At d (x + a.size) b := by
  have e := h.2
  have hz := h.1
  rw [ByteArray.size_append] at e hz
  refine ⟨by omega, ?_⟩
  have q : (d.extract x (x + (a.size + b.size))).extract a.size (a.size + b.size) = (a ++ b).extract a.size (a.size + b.size) := by rw [e]
  rw [ByteArray.extract_extract, ByteArray.extract_append_eq_right rfl rfl, Nat.min_self, ← Nat.add_assoc] at q
  exact q
theorem At.more {d b : ByteArray} (r : ByteArray) {x : Nat} (h : At d x b) : At (d ++ r) x b := by
  refine ⟨by have := h.1; rw [ByteArray.size_append]; omega, ?_⟩
  have h1 := h.1
  have e := h.2
  have q : ((d ++ r).extract 0 d.size).extract x (x + b.size) = b := by rw [ByteArray.extract_append_eq_left rfl]; exact e
  rw [ByteArray.extract_extract, Nat.zero_add, Nat.zero_add, Nat.min_eq_left h1] at q
  exact q
/-- An element within data: what is read of its head. -/
theorem At.hd {E : Env} {b : ByteArray} {x y : Nat} (h : At E.d x b) (h0 : (hd b).1 = 0) (hz : (hd b).2.s + (hd b).2.l = b.size) (hy : x + b.size ≤ y) (hyd : y ≤ E.d.size) : E.hd x y = Go.Proofs.YtkkicodfpekbgaaGreatDoor.hd b ∧ fin x (E.hd x y).2 = x + b.size := by
  have e : E.hd x (x + b.size) = Go.Proofs.YtkkicodfpekbgaaGreatDoor.hd b := by unfold Env.hd; rw [h.2]
  have h1 : (E.hd x (x + b.size)).1 = 0 := by rw [e]; exact h0
  have hf : fin x (E.hd x (x + b.size)).2 = x + b.size := by
    have := fin_int h1
    rw [e] at this ⊢
    omega
  have ha := hd_again h1 (z := y) (by omega) hyd h.1
  rw [ha]
  exact ⟨e, hf⟩
theorem At.el {d s : ByteArray} {x : Nat} {c : Int} {b : Bool} {n : Int} (h : At d x (elB c b n s)) : At d (x + (2 + cnt s.size).toNat) s := by
  have hz := elB_sz c b n s
  unfold elB at h hz
  have q := h.right
  rw [ByteArray.size_append] at hz
  rw [show (2 + cnt s.size).toNat = (⟨(UInt8.ofNat (fb ⟨c, b, n, 0, s.size⟩).toNat :: tl s.size).toArray⟩ : ByteArray).size by omega]
  exact q
end Go.Proofs.YtkkicodfpekbgaaGreatDoor

/-! appendLength: what it appends. -/
namespace Go.Proofs.YtkkicodfpekbgaaGreatDoor
set_option linter.unusedSimpArgs false
set_option linter.unusedVariables false
open Go.RowKit

/-- append(v, x) of one byte, on a slice of the call's own. -/
theorem wpList_push8 {w : World} {ops : Array Oper} {rest : List Oper} {o : Oper} {a : Act} {Q : Exit → Act → World → Prop} (hgd : o.guard = none) (s x : Operand)
    (ho : o.op = .call { callee := .builtin .append, args := #[s, x], argTypes := #[52, 52] })
    (B : Nat) (v : Value) (n : Nat) (xs : List Value) (hs : a.eval s = v) (hown : w.ownsRow B 5 1 v n xs) (u : Int) (T : TypeId)
    (hx : a.eval x = .slice (some ⟨w.heap.size, 0, none⟩) 1 1) (hn : n ≤ 1000) (hB : B ≤ w.heap.size)
    (h : ∀ v' w', w'.ownsRow B 5 1 v' (n + 1) (xs ++ [.int .u8 u]) → Below B w w' → wpList Tryz.prog ops Q rest (a.put o.dst v') w') :
    wpList Tryz.prog ops Q (o :: rest) a (w.alloc (.cells #[.int .u8 u] T)) := by
  obtain ⟨i0, hi, hz0, hz1, hz2⟩ := info_parts Tryz.info8
  refine wpList_append_own _ hgd s x 52 ho B 5 i0 (.int .u8 0) 1 1 Tryz.underlying52 hi hz0 hz1 hz2 rfl (by decide) v n xs hs (hown.alloc _) ⟨w.heap.size, 0, none⟩ 1 1 [.int .u8 u] hx rfl ?_ ?_ ?_ ?_ ?_ ?_
  · intro j y hj
    match j, hj with
    | 0, hj => simp at hj; subst hj; simp [Addr.add]
  · intro y hy; simp at hy; subst hy; rfl
  · unfold maxLen; omega
  · omega
  · simp; omega
  · intro v' w' h1 h2 _
    exact h v' w' h1 (((Below.refl B w).alloc hB _).grown h2 (by simp; omega) fun k hk => (hown.lt k hk).1)

theorem ownsRow_cast {w : World} {B : Nat} {v : Value} {n m : Nat} {xs ys : List Value} (h : w.ownsRow B 5 1 v n xs) (hn : n = m) (hx : xs = ys) : w.ownsRow B 5 1 v m ys := by subst hn; subst hx; exact h

set_option maxHeartbeats 1000000 in
set_option maxRecDepth 100000 in
theorem al_0 (B : Nat) (v : Value) (n : Nat) (xs : List Value) (L : Int) (w : World) (h0 : 0 ≤ L) (h1 : L < 128) (hown : w.ownsRow B 5 1 v n xs) (hB : B ≤ w.heap.size) (hn : n ≤ 900) :
    Calls Tryz.prog 185 #[v, .int .i64 L] w fun e w' => ∃ v', e = .returned v' ∧ w'.ownsRow B 5 1 v' (n + 1) (xs ++ [.int .u8 L]) ∧ Below B w w' := by
  have HO : Hid (w.ownsRow B 5 1 v n xs) := hown
  clear hown
  go_enter Tryz.func185, Tryz.ntmps185
  go_wp2_with (first | (at_builtin; refine wpList_push8 rfl (.tmp 11) (.tmp 14) rfl B _ _ _ rfl HO.out _ _ rfl (by omega) hB ?_; intro v1 w1 o1 b1) | go_in)
  go_ret
  exact ⟨_, rfl, o1, b1⟩

set_option maxHeartbeats 1000000 in
set_option maxRecDepth 100000 in
theorem al_1 (B : Nat) (v : Value) (n : Nat) (xs : List Value) (L : Int) (w : World) (h0 : 128 ≤ L) (h1 : L < 256) (hown : w.ownsRow B 5 1 v n xs) (hB : B ≤ w.heap.size) (hn : n ≤ 900) :
    Calls Tryz.prog 185 #[v, .int .i64 L] w fun e w' => ∃ v', e = .returned v' ∧ w'.ownsRow B 5 1 v' (n + 2) (xs ++ [.int .u8 129, .int .u8 L]) ∧ Below B w w' := by
  have HO : Hid (w.ownsRow B 5 1 v n xs) := hown
  clear hown
  go_enter Tryz.func185, Tryz.ntmps185
  go_wp2_with (first | (at_builtin; refine wpList_push8 rfl (.tmp 16) (.tmp 20) rfl B _ _ _ rfl HO.out _ _ rfl (by omega) hB ?_; intro v1 w1 o1 b1) | go_in)
  have HO1 : Hid (w1.ownsRow B 5 1 v1 (n + 1) (xs ++ [.int .u8 129])) := o1
  have HB1 : Hid (Below B w w1) := b1
  have hB1 : B ≤ w1.heap.size := Nat.le_trans hB b1.size
  clear o1 b1
  refine wp_loop_rounds 2 ?_
  rw [rounds_succ]
  go_wp2_with (first | (at_builtin; refine wpList_push8 rfl (.tmp 28) (.tmp 34) rfl B _ _ _ rfl HO1.out _ _ rfl (by omega) hB1 ?_; intro v2 w2 o2 b2) | go_in)
  have HO2 : Hid (w2.ownsRow B 5 1 v2 (n + 1 + 1) (xs ++ [.int .u8 129] ++ [.int .u8 L])) := o2
  have HB2 : Hid (Below B w w2) := HB1.out.trans b2
  have hB2 : B ≤ w2.heap.size := Nat.le_trans hB1 b2.size
  clear o2 b2
  rw [rounds_succ]
  go_wp2_with fail
  go_ret
  exact ⟨_, rfl, ownsRow_cast HO2.out rfl (by simp), HB2.out⟩

set_option maxHeartbeats 1000000 in
set_option maxRecDepth 100000 in
theorem al_2 (B : Nat) (v : Value) (n : Nat) (xs : List Value) (L : Int) (w : World) (h0 : 256 ≤ L) (h1 : L < 65536) (hown : w.ownsRow B 5 1 v n xs) (hB : B ≤ w.heap.size) (hn : n ≤ 900) :
    Calls Tryz.prog 185 #[v, .int .i64 L] w fun e w' => ∃ v', e = .returned v' ∧ w'.ownsRow B 5 1 v' (n + 3) (xs ++ [.int .u8 130, .int .u8 (L / 256), .int .u8 (L % 256)]) ∧ Below B w w' := by
  have HO : Hid (w.ownsRow B 5 1 v n xs) := hown
  clear hown
  go_enter Tryz.func185, Tryz.ntmps185
  go_wp2_with (first | (at_builtin; refine wpList_push8 rfl (.tmp 16) (.tmp 20) rfl B _ _ _ rfl HO.out _ _ rfl (by omega) hB ?_; intro v1 w1 o1 b1) | go_in)
  have HO1 : Hid (w1.ownsRow B 5 1 v1 (n + 1) (xs ++ [.int .u8 130])) := o1
  have HB1 : Hid (Below B w w1) := b1
  have hB1 : B ≤ w1.heap.size := Nat.le_trans hB b1.size
  clear o1 b1
  refine wp_loop_rounds 3 ?_
  rw [rounds_succ]
  go_wp2_with (first | (at_builtin; refine wpList_push8 rfl (.tmp 28) (.tmp 34) rfl B _ _ _ rfl HO1.out _ _ rfl (by omega) hB1 ?_; intro v2 w2 o2 b2) | go_in)
  have HO2 : Hid (w2.ownsRow B 5 1 v2 (n + 1 + 1) (xs ++ [.int .u8 130] ++ [.int .u8 (L / 256)])) := o2
  have HB2 : Hid (Below B w w2) := HB1.out.trans b2
  have hB2 : B ≤ w2.heap.size := Nat.le_trans hB1 b2.size
  clear o2 b2
  rw [rounds_succ]
  go_wp2_with (first | (at_builtin; refine wpList_push8 rfl (.tmp 28) (.tmp 34) rfl B _ _ _ rfl HO2.out _ _ rfl (by omega) hB2 ?_; intro v3 w3 o3 b3) | go_in)
  have HO3 : Hid (w3.ownsRow B 5 1 v3 (n + 1 + 1 + 1) (xs ++ [.int .u8 130] ++ [.int .u8 (L / 256)] ++ [.int .u8 (L % 256)])) := o3
  have HB3 : Hid (Below B w w3) := HB2.out.trans b3
  have hB3 : B ≤ w3.heap.size := Nat.le_trans hB2 b3.size
  clear o3 b3
  rw [rounds_succ]
  go_wp2_with fail
  go_ret
  exact ⟨_, rfl, ownsRow_cast HO3.out rfl (by simp), HB3.out⟩

set_option maxHeartbeats 1000000 in
set_option maxRecDepth 100000 in
theorem al_3 (B : Nat) (v : Value) (n : Nat) (xs : List Value) (L : Int) (w : World) (h0 : 65536 ≤ L) (h1 : L < 16777216) (hown : w.ownsRow B 5 1 v n xs) (hB : B ≤ w.heap.size) (hn : n ≤ 900) :
    Calls Tryz.prog 185 #[v, .int .i64 L] w fun e w' => ∃ v', e = .returned v' ∧ w'.ownsRow B 5 1 v' (n + 4) (xs ++ [.int .u8 131, .int .u8 (L / 65536), .int .u8 (L / 256 % 256), .int .u8 (L % 256)]) ∧ Below B w w' := by
  have HO : Hid (w.ownsRow B 5 1 v n xs) := hown
  clear hown
  go_enter Tryz.func185, Tryz.ntmps185
  go_wp2_with (first | (at_builtin; refine wpList_push8 rfl (.tmp 16) (.tmp 20) rfl B _ _ _ rfl HO.out _ _ rfl (by omega) hB ?_; intro v1 w1 o1 b1) | go_in)
  have HO1 : Hid (w1.ownsRow B 5 1 v1 (n + 1) (xs ++ [.int .u8 131])) := o1
  have HB1 : Hid (Below B w w1) := b1
  have hB1 : B ≤ w1.heap.size := Nat.le_trans hB b1.size
  clear o1 b1
  refine wp_loop_rounds 4 ?_
  rw [rounds_succ]
  go_wp2_with (first | (at_builtin; refine wpList_push8 rfl (.tmp 28) (.tmp 34) rfl B _ _ _ rfl HO1.out _ _ rfl (by omega) hB1 ?_; intro v2 w2 o2 b2) | go_in)
  have HO2 : Hid (w2.ownsRow B 5 1 v2 (n + 1 + 1) (xs ++ [.int .u8 131] ++ [.int .u8 (L / 65536)])) := o2
  have HB2 : Hid (Below B w w2) := HB1.out.trans b2
  have hB2 : B ≤ w2.heap.size := Nat.le_trans hB1 b2.size
  clear o2 b2
  rw [rounds_succ]
  go_wp2_with (first | (at_builtin; refine wpList_push8 rfl (.tmp 28) (.tmp 34) rfl B _ _ _ rfl HO2.out _ _ rfl (by omega) hB2 ?_; intro v3 w3 o3 b3) | go_in)
  have HO3 : Hid (w3.ownsRow B 5 1 v3 (n + 1 + 1 + 1) (xs ++ [.int .u8 131] ++ [.int .u8 (L / 65536)] ++ [.int .u8 (L / 256 % 256)])) := o3
  have HB3 : Hid (Below B w w3) := HB2.out.trans b3
  have hB3 : B ≤ w3.heap.size := Nat.le_trans hB2 b3.size
  clear o3 b3
  rw [rounds_succ]
  go_wp2_with (first | (at_builtin; refine wpList_push8 rfl (.tmp 28) (.tmp 34) rfl B _ _ _ rfl HO3.out _ _ rfl (by omega) hB3 ?_; intro v4 w4 o4 b4) | go_in)
  have HO4 : Hid (w4.ownsRow B 5 1 v4 (n + 1 + 1 + 1 + 1) (xs ++ [.int .u8 131] ++ [.int .u8 (L / 65536)] ++ [.int .u8 (L / 256 % 256)] ++ [.int .u8 (L % 256)])) := o4
  have HB4 : Hid (Below B w w4) := HB3.out.trans b4
  have hB4 : B ≤ w4.heap.size := Nat.le_trans hB3 b4.size
  clear o4 b4
  rw [rounds_succ]
  go_wp2_with fail
  go_ret
  exact ⟨_, rfl, ownsRow_cast HO4.out rfl (by simp), HB4.out⟩

theorem appendLength_any (B : Nat) (v : Value) (n : Nat) (xs : List Value) (L : Int) (w : World) (h0 : 0 ≤ L) (h1 : L < 16777216) (hown : w.ownsRow B 5 1 v n xs) (hB : B ≤ w.heap.size) (hn : n ≤ 900) :
    Calls Tryz.prog 185 #[v, .int .i64 L] w fun e w' => ∃ v' m, e = .returned v' ∧ w'.ownsRow B 5 1 v' m (xs ++ (tl L).map bv) ∧ Below B w w' := by
  unfold tl
  split
  · refine (al_0 B v n xs L w h0 (by omega) hown hB hn).mono ?_
    rintro e w' ⟨v', rfl, ho, hb⟩
    exact ⟨v', _, rfl, ownsRow_cast ho rfl (by simp [bv_of L h0 (by omega)]), hb⟩
  split
  · refine (al_1 B v n xs L w (by omega) (by omega) hown hB hn).mono ?_
    rintro e w' ⟨v', rfl, ho, hb⟩
    exact ⟨v', _, rfl, ownsRow_cast ho rfl (by simp [bv_of L h0 (by omega)]; rfl), hb⟩
  split
  · refine (al_2 B v n xs L w (by omega) (by omega) hown hB hn).mono ?_
    rintro e w' ⟨v', rfl, ho, hb⟩
    exact ⟨v', _, rfl, ownsRow_cast ho rfl (by simp [bv_of (L / 256) (by omega) (by omega), bv_of (L % 256) (by omega) (by omega)]; rfl), hb⟩
  · refine (al_3 B v n xs L w (by omega) (by omega) hown hB hn).mono ?_
    rintro e w' ⟨v', rfl, ho, hb⟩
    exact ⟨v', _, rfl, ownsRow_cast ho rfl (by simp [bv_of (L / 65536) (by omega) (by omega), bv_of (L / 256 % 256) (by omega) (by omega), bv_of (L % 256) (by omega) (by omega)]; rfl), hb⟩

end Go.Proofs.YtkkicodfpekbgaaGreatDoor

/-! slices.Insert of bytes: what it leaves (the library's own text; the roads: at the end; in place; a new row). -/
set_option linter.unusedVariables false
set_option linter.unusedSimpArgs false
namespace Go.Proofs.YtkkicodfpekbgaaGreatDoor
set_option linter.unusedSimpArgs false
set_option linter.unusedVariables false
open Go.RowKit Go.Lib

/-- A row's cells, those from a place on set. -/
def layA : Array Value → Nat → List Value → Array Value
  | cur, _, [] => cur
  | cur, o, v :: r => layA (cur.setIfInBounds o v) (o + 1) r
theorem layA_list : ∀ (vs : List Value) (cur : Array Value) (o : Nat), o + vs.length ≤ cur.size → (layA cur o vs).toList = cur.toList.take o ++ vs ++ cur.toList.drop (o + vs.length)
  | [], cur, o, _ => by simp [layA]
  | v :: r, cur, o, h => by
    simp only [List.length_cons] at h
    rw [layA, layA_list r _ _ (by simp; omega)]
    have hl : o < cur.toList.length := by simp; omega
    rw [Array.toList_setIfInBounds, List.take_add_one, List.getElem?_set_self hl, List.take_set_of_le (Nat.le_refl _), List.drop_set_of_lt (by omega)]
    simp only [Option.toList_some, List.append_assoc, List.cons_append, List.length_cons, List.nil_append]
    rw [show o + 1 + r.length = o + (r.length + 1) by omega]
theorem layA_size (vs : List Value) : ∀ (cur : Array Value) (o : Nat), (layA cur o vs).size = cur.size := by
  induction vs with
  | nil => intro cur o; rfl
  | cons v r ih => intro cur o; rw [layA, ih]; simp
theorem setCells_row (g : Nat) (T : TypeId) (fz : Nat × Nat) : ∀ (vs : List Value) (o : Nat) (w : World) (cur : Array Value), w.heap[g]? = some (.cells cur T fz) → (w.setCells g o vs).heap[g]? = some (.cells (layA cur o vs) T fz)
  | [], _, _, _, h => h
  | v :: r, o, w, cur, h => by
    rw [World.setCells, layA]
    refine setCells_row g T fz r (o + 1) _ _ ?_
    simp [World.setCell, Array.getElem?_modify, h]
theorem setCells_other (g : Nat) : ∀ (vs : List Value) (o : Nat) (w : World) (k : Nat), k ≠ g → (w.setCells g o vs).heap[k]? = w.heap[k]?
  | [], _, _, _, _ => rfl
  | v :: r, o, w, k, h => by
    rw [World.setCells, setCells_other g r _ _ k h]
    simp [World.setCell, Array.getElem?_modify, Ne.symm h]
theorem setCells_size (g : Nat) : ∀ (vs : List Value) (o : Nat) (w : World), (w.setCells g o vs).heap.size = w.heap.size
  | [], _, _ => rfl
  | v :: r, o, w => by
    rw [World.setCells, setCells_size g r]
    simp [World.setCell]
theorem setCells_below {B g : Nat} (hb : B ≤ g) {w0 : World} : ∀ (vs : List Value) (o : Nat) (w : World), Below B w0 w → Below B w0 (w.setCells g o vs)
  | [], _, _, h => h
  | v :: r, o, w, h => by
    rw [World.setCells]
    exact setCells_below hb r _ _ (h.setCell (p := ⟨g, o, none⟩) hb _)
/-- slices.overlaps of bytes of a string and a row: two blocks. -/
theorem run_overlaps_str {P : Program} (w : World) (tS tR e : TypeId) (ht : P.underlying tS = some (.slice e)) (size : Nat) (hz : ∀ w, (Go.sizeOf e).run P w = .ok size w)
    (a b : Addr) (la ca lb cb : Nat) (hne : a.block ≠ b.block) (tA tB : TypeId) (kA kB : Nat)
    (hsa : w.shape? a.block = some (tA, kA)) (hsb : w.shape? b.block = some (tB, kB)) (hkA : kA ≠ 0)
    (hfa : w.frozen? a = false) (hfb : w.frozen? b = false) (hfe : w.frozen? { block := b.block, off := kB } = false) :
    (Extern.SlicesOverlaps.overlaps #[tS, tS] #[tR] #[.slice (some a) la ca, .slice (some b) lb cb]).run P w = .ok (.bool false) w := by
  have hnb : (a.block != b.block) = true := by simpa using hne
  have hnb' : (a.block == b.block) = false := by simpa using hne
  change Sem.run P (α := Value) (do
    let some t := (#[tS, tS] : Array TypeId)[0]? | stuck "slices.overlaps: no parameter types"
    let .slice elem ← underlying t | stuck "slices.overlaps: slice type expected"
    let size ← sizeOf elem
    match (some a : Option Addr), (some b : Option Addr) with
    | some a, some b =>
      if la = 0 ∨ lb = 0 ∨ size = 0 then pure (Value.bool false)
      else if a.block != b.block && (← frozen a) && (← frozen b) then unsupported .addressObserved
      else do
        if a.block != b.block then do
          noView a; noView b
          if ← mayBeOne a b then return Value.bool ((← choose (.extern "sameAddr.stringBytes" 2)) == 1)
        pure (Value.bool (a.block == b.block && a.off < b.off + lb * size && b.off < a.off + la * size))
    | _, _ => pure (Value.bool false)) w = _
  by_cases h0 : la = 0 ∨ lb = 0 ∨ size = 0
  · simp [run_underlying ht, hz, h0]
  · cases kA with
    | zero => exact absurd rfl hkA
    | succ kA =>
      cases hq : w.frozen? { block := a.block, off := kA + 1 } <;>
      simp [run_underlying ht, hz, h0, hnb, hnb', frozen, noView, viewAt, mayBeOne, stringish, shape, Sem.run, hsa, hsb, hfa, hfb, hfe, hq]

theorem hidei {p : Prop} (h : p) : Hid p := h
/-- 'copy(d, s)' where its run is known. -/
theorem wp_copyB (w : World) {o : Oper} {a : Act} {K : Act → World → Prop} {Q : Exit → Act → World → Prop} (d s : Operand) (t t' : TypeId)
    (ho : o.op = .call { callee := .builtin .copy, args := #[d, s], argTypes := #[t, t'] }) (v u : Value) (hd : a.eval d = v) (hs : a.eval s = u) {v' : Value} {w' : World}
    (hr : (Builtin.copy_ #[t, t'] o.type #[v, u]).run Tryz.prog w = .ok v' w') (h : K (a.put o.dst v') w') : o.wp Tryz.prog a w K Q := by
  unfold Oper.wp execOp
  simp only [ho, resolve, invoke, builtin, Sem.run_bind, Sem.run_pure, Result.andThen_ok, List.map_toArray, List.map_cons, List.map_nil, hd, hs, hr]
  exact h
theorem wpList_copyB (w : World) {ops : Array Oper} {rest : List Oper} {o : Oper} {a : Act} {Q : Exit → Act → World → Prop} (hgd : o.guard = none) (d s : Operand) (t t' : TypeId)
    (ho : o.op = .call { callee := .builtin .copy, args := #[d, s], argTypes := #[t, t'] }) (v u : Value) (hd : a.eval d = v) (hs : a.eval s = u) {v' : Value} {w' : World}
    (hr : (Builtin.copy_ #[t, t'] o.type #[v, u]).run Tryz.prog w = .ok v' w') (h : wpList Tryz.prog ops Q rest (a.put o.dst v') w') : wpList Tryz.prog ops Q (o :: rest) a w :=
  wpList_plain hgd fun _ hK => wp_copyB w d s t t' ho v u hd hs hr (hK _ _ h)
theorem step_copyB {ops : Array Oper} {o : Oper} {a : Act} {w : World} {K : Act → World → Prop} {Q : Exit → Act → World → Prop} {E : Prop}
    (hg : o.guard = none) (d x : Operand) (dT sT : TypeId) (hop : o.op = Op.call { callee := Callee.builtin Builtin.copy, args := #[d, x], argTypes := #[dT, sT] })
    (v u : Value) (hd : a.eval d = v) (hx : a.eval x = u) {v' : Value} {w' : World} (hr : (Builtin.copy_ #[dT, sT] o.type #[v, u]).run Tryz.prog w = .ok v' w') (hK : K (a.put o.dst v') w') :
    if Region.wanted o (yielded ops a.tmps) = true then Oper.wp Tryz.prog o a w K Q else E := by
  have hw : Region.wanted o (yielded ops a.tmps) = true := by simp [Region.wanted, hg]
  rw [if_pos hw]
  unfold Oper.wp
  simp [execOp, hop, resolve, invoke, builtin, hd, hx, hr, Result.andThen]
  exact hK
theorem isSomeC (b : Nat) (vs : List Value) (o : Nat) (w : World) (h : ∀ j, j < vs.length → (w.cell? ⟨b, o + j, none⟩).isSome = true) (k : Nat) (hk : (w.cell? ⟨b, k, none⟩).isSome = true) : ((w.setCells b o vs).cell? ⟨b, k, none⟩).isSome = true := by
  by_cases hin : o ≤ k ∧ k < o + vs.length
  · have := World.cell?_setCells_in b vs o w h (k - o) (by omega)
    rw [show o + (k - o) = k by omega] at this
    rw [this]; rfl
  · rw [World.cell?_setCells_out b vs o w ⟨b, k, none⟩ (fun _ _ => by show k < o ∨ o + vs.length ≤ k; omega)]
    exact hk
theorem Tryz.size8 (w : World) : (Go.sizeOf 5).run Tryz.prog w = .ok 1 w := by
  obtain ⟨i0, hi, hz0, hz1, hz2⟩ := info_parts Tryz.info8
  simp [sizeOf, typeInfo, hi, hz1]

set_option maxHeartbeats 4000000 in
set_option maxRecDepth 100000 in
/-- There is room, i < len(s): in place. -/
theorem ins_shift (b n c i vb m vc : Nat) (cs vs : List Value) (w : World) (hi : i < n) (hm : 0 < m) (hroom : n + m ≤ c) (hc63 : c ≤ 9223372036854775807) (hvb : vb ≠ b)
    (hcl : cs.length = n) (hvl : vs.length = m)
    (hcs : ∀ j v, cs[j]? = some v → w.cell? ⟨b, j, none⟩ = some v) (hsp : ∀ j, j < n + m → (w.cell? ⟨b, j, none⟩).isSome = true) (hfz : ∀ j, w.frozen? ⟨b, j, none⟩ = false)
    (hvs : ∀ j v, vs[j]? = some v → w.cell? ⟨vb, j, none⟩ = some v) (h1c : ∀ v ∈ cs, v.oneCell' = true) (h1v : ∀ v ∈ vs, v.oneCell' = true)
    (tA tB : TypeId) (kA kB : Nat) (hsa : w.shape? vb = some (tA, kA)) (hsb : w.shape? b = some (tB, kB)) (hkA : kA ≠ 0) (hfa : w.frozen? ⟨vb, 0, none⟩ = false) :
    Calls Tryz.prog 182 #[.slice (some ⟨b, 0, none⟩) n c, .int .i64 i, .slice (some ⟨vb, 0, none⟩) m vc] w fun e w' =>
      e = .returned (.slice (some ⟨b, 0, none⟩) (n + m) c) ∧ w' = (w.drew.setCells b (i + m) (cs.drop i)).setCells b i vs := by
  obtain ⟨i0, hi0, hz0, hzs, hzb⟩ := info_parts Tryz.info8
  have hz1 : ¬ ((m : Int) = 0) := by omega
  have hz2 : ¬ ((i : Int) = (n : Int)) := by omega
  have hsz : (Tryz.prog.info? 5).map (·.size) = some 1 := by rw [hi0]; simp [hzs]
  have hov : ∀ lb cb, (callFunc 200 #[.slice (some ⟨vb, 0, none⟩) m vc, .slice (some ⟨b, i + m, none⟩) lb cb]).run Tryz.prog w = .ok (.value (.bool false)) w := fun lb cb => by
    rw [run_callFunc_extern Tryz.func200 (by kernel_rfl) (by kernel_rfl) (by kernel_rfl) (e := Extern.SlicesOverlaps.overlaps #[52, 52] #[4]) (by kernel_rfl),
      run_overlaps_str w 52 4 5 Tryz.underlying52 1 Tryz.size8 ⟨vb, 0, none⟩ ⟨b, i + m, none⟩ m vc lb cb hvb tA tB kA kB hsa hsb hkA hfa (hfz _) (hfz _)]
    rfl
  have hdl : (cs.drop i).length = n - i := by rw [List.length_drop, hcl]
  have hw1 : IntKind.i64.wrap ((i : Int) + (m : Int)) = (i : Int) + (m : Int) := by rw [IntKind.wrap_i64]; omega
  have hb1 : (0 : Int) ≤ (i : Int) + (m : Int) := by omega
  have hin : i ≤ n := by omega
  have htn : ((i : Int) + (m : Int)).toNat = i + m := by omega
  have hb2 : ¬ (c = i + m) := by omega
  have hb3 : (i : Int) ≤ (n : Int) + (m : Int) := by omega
  have hb4 : ¬ (c = i) := by omega
  have hcp1 : ∀ ty dc sc, (Builtin.copy_ #[52, 52] ty #[.slice (some ⟨b, i + m, none⟩) (n + m - (i + m)) dc, .slice (some ⟨b, i, none⟩) (n + m - i) sc]).run Tryz.prog w.drew = .ok (goInt (cs.drop i).length) (w.drew.setCells b (i + m) (cs.drop i)) := fun ty dc sc =>
    run_copy_cells w.drew _ _ ty 5 b (i + m) (n + m - (i + m)) dc ⟨b, i, none⟩ (n + m - i) sc (cs.drop i) Tryz.underlying52 hsz (by rw [hdl]; simp only [Nat.min_def]; split <;> omega)
      (fun j v hj => by rw [Addr.add_lit]; exact hcs (i + j) v (by rwa [List.getElem?_drop] at hj))
      (fun j hj => hsp _ (by omega)) (fun j hj => hfz _) (fun v hv => h1c v (List.mem_of_mem_drop hv))
  obtain ⟨W1, hW1⟩ : ∃ W1, W1 = w.drew.setCells b (i + m) (cs.drop i) := ⟨_, rfl⟩
  have hsp1 : ∀ k, k < n + m → (W1.cell? ⟨b, k, none⟩).isSome = true := fun k hk => by
    rw [hW1]
    exact isSomeC b (cs.drop i) (i + m) w.drew (fun j hj => hsp (i + m + j) (by rw [hdl] at hj; omega)) k (hsp k hk)
  have hcp2 : ∀ (W : World), (∀ x, W.cell? x = W1.cell? x) → (∀ x, W.frozen? x = W1.frozen? x) → ∀ ty dc, (Builtin.copy_ #[52, 52] ty #[.slice (some ⟨b, i, none⟩) (n + m - i) dc, .slice (some ⟨vb, 0, none⟩) m vc]).run Tryz.prog W = .ok (goInt vs.length) (W.setCells b i vs) := fun W hWc hWf ty dc =>
    run_copy_cells W _ _ ty 5 b i (n + m - i) dc ⟨vb, 0, none⟩ m vc vs Tryz.underlying52 hsz (by rw [hvl]; simp only [Nat.min_def]; split <;> omega)
      (fun j v hj => by
        rw [Addr.add_lit, hWc, hW1, World.cell?_setCells_out b _ _ _ _ (fun h _ => absurd h hvb), Nat.zero_add]
        exact hvs j v hj)
      (fun j hj => by rw [hWc]; exact hsp1 _ (by omega)) (fun j hj => by rw [hWf, hW1, World.frozen?_setCells]; exact hfz _) h1v
  rw [← hW1] at hcp1
  go_enter Tryz.func182, Tryz.ntmps182
  go_wp2_with (simp only [hov])
  go_region_law (refine step_copyB rfl _ _ 52 52 rfl _ _ (by simp [Act.eval, Act.put]) (by simp [Act.eval, Act.put]) (hcp1 _ _ _) ?_)
  go_wp2_with (at_builtin; refine wpList_copyB _ rfl _ _ 52 52 rfl _ _ rfl rfl (hcp2 _ (fun _ => rfl) (fun _ => rfl) _ _) ?_)
  go_ret
  first | exact ⟨rfl, rfl⟩ | exact ⟨rfl, by rw [hW1]⟩

set_option maxHeartbeats 4000000 in
set_option maxRecDepth 100000 in
/-- No room, i < len(s): a new row. -/
theorem ins_grow (b n c i vb m vc : Nat) (cs vs : List Value) (w : World) (hi : i < n) (hm : 0 < m) (hnc : n ≤ c) (hroom : c < n + m) (hbig : (n + m) * 1 ≤ 140737488355328)
    (hcl : cs.length = n) (hvl : vs.length = m)
    (hcs : ∀ j v, cs[j]? = some v → w.cell? ⟨b, j, none⟩ = some v)
    (hvs : ∀ j v, vs[j]? = some v → w.cell? ⟨vb, j, none⟩ = some v) (h1c : ∀ v ∈ cs, v.oneCell' = true) (h1v : ∀ v ∈ vs, v.oneCell' = true) :
    Calls Tryz.prog 182 #[.slice (some ⟨b, 0, none⟩) n c, .int .i64 i, .slice (some ⟨vb, 0, none⟩) m vc] w fun e w' =>
      ∃ G, n + m ≤ G ∧ G ≤ maxLen ∧ e = .returned (.slice (some ⟨w.heap.size, 0, none⟩) (n + m) G) ∧
      w' = (((w.alloc (.cells ((cs.take i).toArray ++ Builtin.zeroCells (Value.int .u8 0).cells (n + m - i) ++ Builtin.zeroCells (Value.int .u8 0).cells (G - (n + m))) 5)).drew.setCells w.heap.size i vs).drew).setCells w.heap.size (i + m) (cs.drop i) := by
  obtain ⟨i0, hi0, hz0, hzs, hzb⟩ := info_parts Tryz.info8
  have hz1 : ¬ ((m : Int) = 0) := by omega
  have hz2 : ¬ ((i : Int) = (n : Int)) := by omega
  have hz3 : (c : Int) < (n : Int) + (m : Int) := by omega
  have hsz : (Tryz.prog.info? 5).map (·.size) = some 1 := by rw [hi0]; simp [hzs]
  have hbw : b < w.heap.size := block_lt_of_cell (hcs 0 _ (List.getElem?_eq_getElem (by omega)))
  have hvw : vb < w.heap.size := block_lt_of_cell (hvs 0 _ (List.getElem?_eq_getElem (by omega)))
  have hkk : (n : Int) + (m : Int) - (i : Int) = ((n + m - i : Nat) : Int) := by omega
  have hik : i + (n + m - i) = n + m := by omega
  have hold : (Builtin.firstCells i0.size i (.slice (some ⟨b, 0, none⟩) i c)).run Tryz.prog w.drew = .ok (cs.take i).toArray w.drew := by
    rw [hzs]
    exact run_firstCells_some w.drew 1 i ⟨b, 0, none⟩ i c (cs.take i) (by rw [List.length_take]; omega) (fun j v hj => by
      rw [Addr.add_lit, Nat.zero_add]
      rw [List.getElem?_take] at hj
      split at hj
      · exact hcs j v hj
      · cases hj)
  have hrz : ∀ ty, (Builtin.append_ #[52, 3] ty #[.slice (some ⟨b, 0, none⟩) i c, .int .i64 ((n : Int) + (m : Int) - (i : Int))]).run Tryz.prog w =
      .ok (.slice (some ⟨w.heap.size, 0, none⟩) (n + m) (grownCap w (n + m) c 5)) (w.drew.alloc (.cells ((cs.take i).toArray ++ Builtin.zeroCells (Value.int .u8 0).cells (n + m - i) ++ Builtin.zeroCells (Value.int .u8 0).cells (grownCap w (n + m) c 5 - (n + m))) 5)) := fun ty => by
    have h := Lib.run_append_grow_zeros w 52 3 ty 5 i0 _ .i64 .i64 Tryz.underlying52 Tryz.underlying3 hi0 hz0 (some ⟨b, 0, none⟩) i c (cs.take i) hold (n + m - i) (by omega) (by omega) (by omega) (by omega) (by rw [hzb]; omega) (by rw [hzb, hik]; exact growslice_fits hroom hbig)
    rw [hik] at h
    rw [hkk]
    exact h
  obtain ⟨G, hG⟩ : ∃ G, G = grownCap w (n + m) c 5 := ⟨_, rfl⟩
  obtain ⟨ROW, hROW⟩ : ∃ ROW : Array Value, ROW = (cs.take i).toArray ++ Builtin.zeroCells (Value.int .u8 0).cells (n + m - i) ++ Builtin.zeroCells (Value.int .u8 0).cells (G - (n + m)) := ⟨_, rfl⟩
  have HROW := hidei hROW
  rw [← hG] at hrz
  rw [← hROW] at hrz
  have hRl : n + m ≤ ROW.size := by
    rw [hROW]
    simp [Builtin.zeroCells, Value.cells]
    omega
  obtain ⟨W1, hW1⟩ : ∃ W1, W1 = w.drew.alloc (.cells ROW 5) := ⟨_, rfl⟩
  rw [← hW1] at hrz
  have hN : ∀ j, j < n + m → (W1.cell? ⟨w.heap.size, j, none⟩).isSome = true := fun j hj => by
    rw [hW1, World.cell?_alloc_at (w := w.drew) ROW _ w.heap.size j rfl, Array.getElem?_eq_getElem (by omega)]; rfl
  have hNf : ∀ j, W1.frozen? ⟨w.heap.size, j, none⟩ = false := fun j => by rw [hW1]; exact World.frozen?_alloc_at (w := w.drew) ROW _ w.heap.size j rfl
  have hOb : ∀ j v, w.cell? ⟨b, j, none⟩ = some v → W1.cell? ⟨b, j, none⟩ = some v := fun j v h => by rw [hW1, World.cell?_alloc_past (w := w.drew) _ b j hbw]; exact h
  have hOv : ∀ j v, w.cell? ⟨vb, j, none⟩ = some v → W1.cell? ⟨vb, j, none⟩ = some v := fun j v h => by rw [hW1, World.cell?_alloc_past (w := w.drew) _ vb j hvw]; exact h
  have hcpA : ∀ (W : World), (∀ x, W.cell? x = W1.cell? x) → (∀ x, W.frozen? x = W1.frozen? x) → ∀ ty dc, (Builtin.copy_ #[52, 52] ty #[.slice (some ⟨w.heap.size, i, none⟩) (n + m - i) dc, .slice (some ⟨vb, 0, none⟩) m vc]).run Tryz.prog W = .ok (goInt vs.length) (W.setCells w.heap.size i vs) := fun W hWc hWf ty dc =>
    run_copy_cells W _ _ ty 5 w.heap.size i (n + m - i) dc ⟨vb, 0, none⟩ m vc vs Tryz.underlying52 hsz (by rw [hvl]; simp only [Nat.min_def]; split <;> omega)
      (fun j v hj => by rw [Addr.add_lit, hWc, Nat.zero_add]; exact hOv _ v (hvs j v hj))
      (fun j hj => by rw [hWc]; exact hN _ (by omega)) (fun j hj => by rw [hWf]; exact hNf _) h1v
  have hGn : n + m ≤ G := by rw [hG]; exact grownCap_ge w _ _ _
  have hGm : G ≤ maxLen := by
    have := grownCap_le_maxLen w (n + m) c 5 (by unfold maxLen; omega)
    rw [← hG] at this
    exact this
  have hG63 : G ≤ 9223372036854775807 := by
    unfold maxLen at hGm
    omega
  have HGN : Hid (n + m ≤ G ∧ G ≤ maxLen) := ⟨hGn, hGm⟩
  have hGi : ¬ (G = i) := by omega
  have hGim : ¬ (G = i + m) := by omega
  have hci : ¬ (c = i) := by omega
  have hbN : b ≠ w.heap.size := by omega
  have hdl : (cs.drop i).length = n - i := by rw [List.length_drop, hcl]
  have hcpB : ∀ (W : World), (∀ x, W.cell? x = (W1.setCells w.heap.size i vs).cell? x) → (∀ x, W.frozen? x = (W1.setCells w.heap.size i vs).frozen? x) → ∀ ty dc sc, (Builtin.copy_ #[52, 52] ty #[.slice (some ⟨w.heap.size, i + m, none⟩) (n + m - (i + m)) dc, .slice (some ⟨b, i, none⟩) (n - i) sc]).run Tryz.prog W = .ok (goInt (cs.drop i).length) (W.setCells w.heap.size (i + m) (cs.drop i)) := fun W hWc hWf ty dc sc =>
    run_copy_cells W _ _ ty 5 w.heap.size (i + m) (n + m - (i + m)) dc ⟨b, i, none⟩ (n - i) sc (cs.drop i) Tryz.underlying52 hsz (by rw [hdl]; simp only [Nat.min_def]; split <;> omega)
      (fun j v hj => by
        rw [Addr.add_lit, hWc, World.cell?_setCells_out _ _ _ _ _ (fun h _ => absurd h hbN)]
        exact hOb _ v (hcs (i + j) v (by rwa [List.getElem?_drop] at hj)))
      (fun j hj => by rw [hWc]; exact isSomeC _ _ _ _ (fun t ht => hN _ (by omega)) _ (hN _ (by omega)))
      (fun j hj => by rw [hWf, World.frozen?_setCells]; exact hNf _) (fun v hv => h1c v (List.mem_of_mem_drop hv))
  subst hW1
  have hE1 : ∀ x, ((w.alloc (.cells ROW 5)).drew).cell? x = (w.drew.alloc (.cells ROW 5)).cell? x := fun x => rfl
  have hE2 : ∀ x, ((w.alloc (.cells ROW 5)).drew).frozen? x = (w.drew.alloc (.cells ROW 5)).frozen? x := fun x => rfl
  have hF1 : ∀ x, (((w.alloc (.cells ROW 5)).drew.setCells w.heap.size i vs).drew).cell? x = ((w.drew.alloc (.cells ROW 5)).setCells w.heap.size i vs).cell? x := fun x => rfl
  have hF2 : ∀ x, (((w.alloc (.cells ROW 5)).drew.setCells w.heap.size i vs).drew).frozen? x = ((w.drew.alloc (.cells ROW 5)).setCells w.heap.size i vs).frozen? x := fun x => rfl
  have hw1 : IntKind.i64.wrap ((i : Int) + (m : Int)) = (i : Int) + (m : Int) := by rw [IntKind.wrap_i64]; omega
  have hb1 : (0 : Int) ≤ (i : Int) + (m : Int) := by omega
  have hin : i ≤ n := by omega
  have htn : ((i : Int) + (m : Int)).toNat = i + m := by omega
  have hb3 : (i : Int) ≤ (n : Int) := by omega
  clear hkk hik hold hROW hG hRl
  go_enter Tryz.func182, Tryz.ntmps182
  go_wp2_with (first
    | (at_builtin; refine Lib.wpList_append_run _ rfl _ _ _ _ rfl _ _ rfl rfl _ _ (hrz _) ?_)
    | (at_builtin; refine wpList_copyB _ rfl _ _ 52 52 rfl _ _ rfl rfl (hcpA _ hE1 hE2 _ _) ?_)
    | (at_builtin; refine wpList_copyB _ rfl _ _ 52 52 rfl _ _ rfl rfl (hcpB _ (fun _ => rfl) (fun _ => rfl) _ _ _) ?_))
  go_region_law (refine step_copyB rfl _ _ 52 52 rfl (.slice (some ⟨w.heap.size, i + m, none⟩) (n + m - (i + m)) (G - (i + m))) (.slice (some ⟨b, i, none⟩) (n - i) (c - i)) (by simp [Act.eval, Act.put]) (by simp [Act.eval, Act.put]) (hcpB _ hF1 hF2 3 (G - (i + m)) (c - i)) ?_)
  go_wp2
  go_ret
  exact ⟨G, HGN.out.1, HGN.out.2, rfl, by rw [← HROW.out]⟩

/-- What slices.Insert leaves: a row of the call's own; what is no row of plain bytes stays. -/
def InsP (B : Nat) (n : Nat) (cs : List Value) (w : World) (e : Ending) (w' : World) : Prop :=
  ∃ v', e = .returned v' ∧ w'.ownsRow B 5 1 v' n cs ∧ Below B w w' ∧ ∀ (k : Nat) (o : Obj), (∀ A, o ≠ .cells A 5 (0, 0)) → w.heap[k]? = some o → w'.heap[k]? = some o

set_option maxHeartbeats 4000000 in
set_option maxRecDepth 100000 in
/-- At the end. -/
theorem ins_end (B : Nat) (tv : Value) (n vb m vc : Nat) (cs vs : List Value) (w : World) (hown : w.ownsRow B 5 1 tv n cs) (hm : 0 < m) (hnm : n + m ≤ 4000) (hB : B ≤ w.heap.size)
    (hvl : vs.length = m) (hvs : ∀ j v, vs[j]? = some v → w.cell? ⟨vb, j, none⟩ = some v) (h1v : ∀ v ∈ vs, v.oneCell' = true) :
    Calls Tryz.prog 182 #[tv, .int .i64 n, .slice (some ⟨vb, 0, none⟩) m vc] w fun e w' => InsP B (n + m) (cs ++ vs) w e w' := by
  obtain ⟨i0, hi0, hz0, hzs, hzb⟩ := info_parts Tryz.info8
  have HO := hidei hown
  have hz1 : ¬ ((m : Int) = 0) := by omega
  have hvs' : ∀ j u, vs[j]? = some u → w.cell? ((⟨vb, 0, none⟩ : Addr).add j) = some u := fun j u hj => by rw [Addr.add_lit, Nat.zero_add]; exact hvs j u hj
  have hfin : ∀ g cap w', w'.ownsRow B 5 1 (.slice (some ⟨g, 0, none⟩) (n + m) cap) (n + m) (cs ++ vs) → w.grownBy w' tv.ownBlock → InsP B (n + m) (cs ++ vs) w (.returned (.slice (some ⟨g, 0, none⟩) (n + m) cap)) w' := fun g cap w' h1 h2 => by
    refine ⟨_, rfl, h1, (Below.refl B w).grown h2 hB fun k hk => (hown.lt k hk).1, fun k o hT hg => ?_⟩
    rw [h2.block k (row_lt hg) ?_]
    · exact hg
    · rcases hown.2 with ⟨rfl, _⟩ | ⟨g', c', cur, rfl, _, hgg, _⟩
      · intro q; cases q
      · intro q
        simp only [Value.ownBlock, Option.some.injEq] at q
        subst q
        rw [hgg] at hg
        injection hg with hg
        exact hT cur hg.symm
  have HFIN := hidei hfin
  clear hfin
  have hnc : ∃ bs cp, tv = .slice bs n cp := by
    rcases hown.2 with ⟨rfl, h⟩ | ⟨g', c', cur, rfl, _⟩
    · exact ⟨none, 0, by rw [h]⟩
    · exact ⟨_, _, rfl⟩
  have hcap : ∃ bs cp, tv = .slice bs n cp ∧ n ≤ cp ∧ cp ≤ maxLen := by
    rcases hown.2 with ⟨rfl, h⟩ | ⟨g', c', cur, rfl, _, _, h1, h2, _⟩
    · exact ⟨none, 0, by rw [h], by omega, by unfold maxLen; omega⟩
    · exact ⟨_, _, rfl, h1, h2⟩
  obtain ⟨bs, cp, rfl, hc1, hc2⟩ := hcap
  have hc3 : cp ≤ 9223372036854775807 := by unfold maxLen at hc2; omega
  have hbs : bs = none ∨ ∃ g, bs = some ⟨g, 0, none⟩ := by
    rcases hown.2 with ⟨h, _⟩ | ⟨g', c', cur, h, _⟩
    · injection h with h; exact .inl h
    · injection h with h; exact .inr ⟨g', h⟩
  clear hown hnc hvs
  go_enter Tryz.func182, Tryz.ntmps182
  rcases hbs with rfl | ⟨g0, rfl⟩
  · go_wp2_with (at_builtin; refine wpList_append_lies _ rfl _ _ 52 rfl B 5 i0 (.int .u8 0) 1 1 Tryz.underlying52 hi0 hz0 hzs hzb rfl (by decide) _ n cs rfl HO.out ⟨vb, 0, none⟩ m vc vs rfl (by omega) hvs' h1v hm (by unfold maxLen; omega) (by omega) hB w.heap.size rfl ?_; intro g cap w' h1 h2 h3 h4)
    all_goals
      go_ret
      exact HFIN.out _ _ _ h1 h2
  · go_wp2_with (at_builtin; refine wpList_append_lies _ rfl _ _ 52 rfl B 5 i0 (.int .u8 0) 1 1 Tryz.underlying52 hi0 hz0 hzs hzb rfl (by decide) _ n cs rfl HO.out ⟨vb, 0, none⟩ m vc vs rfl (by omega) hvs' h1v hm (by unfold maxLen; omega) (by omega) hB w.heap.size rfl ?_; intro g cap w' h1 h2 h3 h4)
    all_goals
      go_ret
      exact HFIN.out _ _ _ h1 h2

/-- slices.Insert of the bytes of a string into bytes of the call's own. -/
theorem ins_any (B : Nat) (tv : Value) (n i vb m vc : Nat) (cs vs : List Value) (CUR : Array Value) (fz : Nat × Nat) (w : World) (hown : w.ownsRow B 5 1 tv n cs) (hi : i ≤ n) (hm : 0 < m) (hnm : n + m ≤ 4000) (hB : B ≤ w.heap.size)
    (hvb : w.heap[vb]? = some (.cells CUR 5 fz)) (hfz : 0 < fz.1) (hCUR : CUR.toList.take m = vs) (hvl : vs.length = m) (h1c : ∀ v ∈ cs, v.oneCell' = true) (h1v : ∀ v ∈ vs, v.oneCell' = true) :
    Calls Tryz.prog 182 #[tv, .int .i64 i, .slice (some ⟨vb, 0, none⟩) m vc] w fun e w' => InsP B (n + m) (cs.take i ++ vs ++ cs.drop i) w e w' := by
  have hcl : cs.length = n := by have := hown.1; omega
  have hvs : ∀ j v, vs[j]? = some v → w.cell? ⟨vb, j, none⟩ = some v := fun j v hj => by
    rw [← hCUR, List.getElem?_take] at hj
    split at hj
    · simp [World.cell?, hvb]; simpa using hj
    · cases hj
  have hCs : m ≤ CUR.size := by
    have := congrArg List.length hCUR
    rw [List.length_take] at this
    simp at this
    omega
  by_cases hin : i = n
  · subst hin
    rw [List.take_of_length_le (by omega), List.drop_of_length_le (by omega), List.append_nil]
    exact ins_end B tv i vb m vc cs vs w hown hm hnm hB hvl hvs h1v
  have hlt : i < n := by omega
  rcases hown.2 with ⟨_, h⟩ | ⟨g, cap, cur, rfl, hBg, hg, hnc, hcm, hcs, hct⟩
  · omega
  rw [Nat.mul_one] at hcs hct
  have hct' : cur.toList.take n = cs := hct
  have hne : vb ≠ g := by
    rintro rfl
    rw [hg] at hvb
    injection hvb with hvb
    injection hvb with _ _ h3
    subst h3
    simp at hfz
  have hcell : ∀ j v, cs[j]? = some v → w.cell? ⟨g, j, none⟩ = some v := fun j v hj => by
    rw [← hct', List.getElem?_take] at hj
    split at hj
    · simp [World.cell?, hg]; simpa using hj
    · cases hj
  have hcap : cap ≤ 9223372036854775807 := by unfold maxLen at hcm; omega
  by_cases hroom : n + m ≤ cap
  · refine (ins_shift g n cap i vb m vc cs vs w hlt hm hroom hcap hne hcl hvl hcell (fun j hj => ?_) (fun j => frozen_of_row w g j cur _ hg) hvs h1c h1v 5 5 CUR.size cur.size ?_ ?_ (by omega) ?_).mono ?_
    · simp [World.cell?, hg]; omega
    · simp [World.shape?, hvb]
    · simp [World.shape?, hg]
    · simp [World.frozen?, hvb]; omega
    · rintro e w' ⟨rfl, rfl⟩
      have hr1 : w.drew.heap[g]? = some (.cells cur 5 (0, 0)) := hg
      have hr2 := setCells_row g 5 (0, 0) vs i _ _ (setCells_row g 5 (0, 0) (cs.drop i) (i + m) _ _ hr1)
      have hdl : (cs.drop i).length = n - i := by rw [List.length_drop, hcl]
      have l1 := layA_list (cs.drop i) cur (i + m) (by rw [hdl]; omega)
      have l2 := layA_list vs (layA cur (i + m) (cs.drop i)) i (by rw [layA_size]; omega)
      refine ⟨_, rfl, ⟨by simp; omega, .inr ⟨g, cap, _, rfl, hBg, hr2, hroom, hcm, by rw [layA_size, layA_size]; omega, ?_⟩⟩, setCells_below hBg _ _ _ (setCells_below hBg _ _ _ (Below.refl _ _).drew), fun k o hT hk => ?_⟩
      · rw [l2, l1, hdl, hvl, Nat.mul_one]
        have e1 : ((cur.toList.take (i + m) ++ cs.drop i ++ cur.toList.drop (i + m + (n - i))).take i) = cs.take i := by
          rw [List.append_assoc, List.take_append_of_le_length (by simp; omega), List.take_take, Nat.min_eq_left (by omega), ← hct', List.take_take, Nat.min_eq_left (by omega)]
        have e2 : ((cur.toList.take (i + m) ++ cs.drop i ++ cur.toList.drop (i + m + (n - i))).drop (i + m)) = cs.drop i ++ cur.toList.drop (i + m + (n - i)) := by
          rw [List.append_assoc]
          exact List.drop_left' (by simp; omega)
        rw [e1, e2, ← List.append_assoc]
        exact List.take_left' (by simp; omega)
      · have hkg : k ≠ g := by
          rintro rfl
          rw [hg] at hk
          injection hk with hk
          exact hT cur hk.symm
        rw [setCells_other g _ _ _ k hkg, setCells_other g _ _ _ k hkg]
        exact hk
  · refine (ins_grow g n cap i vb m vc cs vs w hlt hm hnc (by omega) (by omega) hcl hvl hcell hvs h1c h1v).mono ?_
    rintro e w' ⟨G, hG1, hG2, rfl, rfl⟩
    have hdl : (cs.drop i).length = n - i := by rw [List.length_drop, hcl]
    obtain ⟨ROW, hROW⟩ : ∃ ROW : Array Value, ROW = (cs.take i).toArray ++ Builtin.zeroCells (Value.int .u8 0).cells (n + m - i) ++ Builtin.zeroCells (Value.int .u8 0).cells (G - (n + m)) := ⟨_, rfl⟩
    have hRs : ROW.size = G := by rw [hROW]; simp [Builtin.zeroCells, Value.cells]; omega
    have hRt : ROW.toList.take i = cs.take i := by
      rw [hROW, Array.toList_append, Array.toList_append, List.append_assoc]
      exact List.take_left' (by simp; omega)
    rw [← hROW]
    have hr1 : (w.alloc (.cells ROW 5)).drew.heap[w.heap.size]? = some (.cells ROW 5 (0, 0)) := heap_alloc_new w _
    have hr2 := setCells_row w.heap.size 5 (0, 0) vs i _ _ hr1
    have hr3 := setCells_row w.heap.size 5 (0, 0) (cs.drop i) (i + m) _ _ (show (((w.alloc (.cells ROW 5)).drew.setCells w.heap.size i vs).drew).heap[w.heap.size]? = _ from hr2)
    have l1 := layA_list vs ROW i (by omega)
    have l2 := layA_list (cs.drop i) (layA ROW i vs) (i + m) (by rw [layA_size, hdl]; omega)
    have hbw : Below B w (w.alloc (.cells ROW 5)).drew := ((Below.refl _ _).alloc hB _).drew
    refine ⟨_, rfl, ⟨by simp; omega, .inr ⟨w.heap.size, G, _, rfl, hB, hr3, hG1, hG2, by rw [layA_size, layA_size]; omega, ?_⟩⟩, setCells_below hB _ _ _ (setCells_below hB _ _ _ hbw).drew, fun k o hT hk => ?_⟩
    · rw [l2, l1, hvl, hRt, hdl, Nat.mul_one]
      have e1 : (cs.take i ++ vs ++ ROW.toList.drop (i + m)).take (i + m) = cs.take i ++ vs := List.take_left' (by simp; omega)
      rw [e1]
      exact List.take_left' (by simp; omega)
    · have hkg : k ≠ w.heap.size := by have := row_lt hk; omega
      rw [setCells_other _ _ _ _ k hkg]
      show ((w.alloc (.cells ROW 5)).drew.setCells w.heap.size i vs).heap[k]? = _
      rw [setCells_other _ _ _ _ k hkg]
      exact block_below hk ((Below.refl _ _).alloc (Nat.le_refl _) _).drew
end Go.Proofs.YtkkicodfpekbgaaGreatDoor

/-! What the program's writer has told, step by step: plain mathematics. -/
namespace Go.Proofs.YtkkicodfpekbgaaGreatDoor
set_option linter.unusedSimpArgs false
set_option linter.unusedVariables false

/-- A head's bytes. -/
def hdB (c : Int) (b : Bool) (n : Int) (l : Nat) : ByteArray := ⟨(UInt8.ofNat (fb ⟨c, b, n, 0, l⟩).toNat :: tl l).toArray⟩
theorem elB_hdB (c : Int) (b : Bool) (n : Int) (s : ByteArray) : elB c b n s = hdB c b n s.size ++ s := rfl
/-- What an insertion at a place leaves of the bytes told. -/
def insB (t : ByteArray) (p : Nat) (tx : ByteArray) : ByteArray := t.extract 0 p ++ tx ++ t.extract p t.size
theorem insB_size {t : ByteArray} {p : Nat} (tx : ByteArray) (hp : p ≤ t.size) : (insB t p tx).size = t.size + tx.size := by
  unfold insB
  rw [ByteArray.size_append, ByteArray.size_append, ByteArray.size_extract, ByteArray.size_extract]
  omega
def Ins (t0 : ByteArray) (l0 : Bool) (p : Nat) (tx : ByteArray) (t1 : ByteArray) (l1 : Bool) : Prop :=
  ((l0 = true ∨ 4000 < t0.size + tx.size) ∧ t1 = t0 ∧ l1 = true) ∨ (l0 = false ∧ t0.size + tx.size ≤ 4000 ∧ t1 = insB t0 p tx ∧ l1 = false)
/-- How writing some bytes leaves what has been told, whether it is too long, and the first that is out of order. -/
structure Tld (t0 : ByteArray) (l0 : Bool) (o0 : Option Int) (b : ByteArray) (u : Bool) (t1 : ByteArray) (l1 : Bool) (o1 : Option Int) : Prop where
  le : t0.size ≤ t1.size
  mx : t1.size ≤ 4000
  mono : l0 = true → l1 = true
  told : l1 = false → t1 = t0 ++ b
  ord : l1 = false → o1.isSome = (o0.isSome || u)
  long : l0 = false → l1 = true → 4000 < t0.size + b.size
theorem app_noB (t : ByteArray) : t ++ noB = t := by
  apply ByteArray.ext
  simp [noB]
theorem Tld.refl {t : ByteArray} {l : Bool} {o : Option Int} (h : t.size ≤ 4000) : Tld t l o noB false t l o where
  le := Nat.le_refl _
  mx := h
  mono := id
  told := fun _ => (app_noB t).symm
  ord := fun _ => by simp
  long := fun h1 h2 => by rw [h1] at h2; cases h2
theorem Tld.trans {t0 t1 t2 : ByteArray} {l0 l1 l2 : Bool} {o0 o1 o2 : Option Int} {b1 b2 : ByteArray} {u1 u2 : Bool} (h : Tld t0 l0 o0 b1 u1 t1 l1 o1) (k : Tld t1 l1 o1 b2 u2 t2 l2 o2) : Tld t0 l0 o0 (b1 ++ b2) (u1 || u2) t2 l2 o2 := by
  have h1 : l2 = false → l1 = false := fun q => by
    cases hl : l1
    · rfl
    · rw [k.mono hl] at q; cases q
  refine ⟨Nat.le_trans h.le k.le, k.mx, fun q => k.mono (h.mono q), fun q => ?_, fun q => ?_, fun q1 q2 => ?_⟩
  · rw [k.told q, h.told (h1 q), ByteArray.append_assoc]
  · rw [k.ord q, h.ord (h1 q), Bool.or_assoc]
  · rw [ByteArray.size_append]
    cases hl : l1
    · have := k.long hl q2
      rw [h.told hl, ByteArray.size_append] at this
      omega
    · have := h.long q1 hl
      omega
theorem ins_end_eq (t tx : ByteArray) : insB t t.size tx = t ++ tx := by
  unfold insB
  rw [show t.extract 0 t.size = t by simp, show t.extract t.size t.size = noB by apply ByteArray.ext; simp [noB], app_noB]
theorem Tld.ofIns {t0 t1 : ByteArray} {l0 l1 : Bool} {o : Option Int} {tx : ByteArray} (h4 : t0.size ≤ 4000) (h : Ins t0 l0 t0.size tx t1 l1) : Tld t0 l0 o tx false t1 l1 o := by
  rcases h with ⟨h1, rfl, rfl⟩ | ⟨rfl, h2, rfl, rfl⟩
  · refine ⟨Nat.le_refl _, h4, fun _ => rfl, fun q => (by cases q), fun q => (by cases q), fun q _ => ?_⟩
    rcases h1 with h1 | h1
    · rw [q] at h1; cases h1
    · exact h1
  · refine ⟨?_, ?_, fun q => q, fun _ => ins_end_eq _ _, fun _ => by simp, fun _ q => (by cases q)⟩
    · rw [insB_size tx (Nat.le_refl _)]; omega
    · rw [insB_size tx (Nat.le_refl _)]; exact h2
theorem ins_mid_eq (t b tx : ByteArray) : insB (t ++ b) t.size tx = t ++ (tx ++ b) := by
  unfold insB
  have e1 : (t ++ b).extract 0 t.size = t := by
    apply ByteArray.ext
    simp
  have e2 : (t ++ b).extract t.size (t ++ b).size = b := by
    apply ByteArray.ext
    apply Array.toList_inj.1
    rw [Lib.extract_data, ByteArray.size_append]
    simp
    exact List.take_of_length_le (by simp)
  rw [e1, e2, ByteArray.append_assoc]
/-- A head put ahead of what has been told from a place on. -/
theorem Tld.wrap {t0 t1 t2 : ByteArray} {l0 l1 l2 : Bool} {o0 o1 : Option Int} {b : ByteArray} {u : Bool} {c : Int} {bt : Bool} {n : Int} (h : Tld t0 l0 o0 b u t1 l1 o1) (k : Ins t1 l1 t0.size (hdB c bt n (t1.size - t0.size)) t2 l2) : Tld t0 l0 o0 (elB c bt n b) u t2 l2 o1 := by
  have hsz : l1 = false → t1.size - t0.size = b.size := fun q => by rw [h.told q, ByteArray.size_append]; omega
  have hel : (elB c bt n b).size = (hdB c bt n b.size).size + b.size := by rw [elB_hdB, ByteArray.size_append]
  rcases k with ⟨h1, rfl, rfl⟩ | ⟨rfl, h2, rfl, rfl⟩
  · refine ⟨h.le, h.mx, fun _ => rfl, fun q => (by cases q), fun q => (by cases q), fun q _ => ?_⟩
    rw [hel]
    cases hl : l1
    · rcases h1 with h1 | h1
      · rw [hl] at h1; cases h1
      · rw [hsz hl, h.told hl, ByteArray.size_append] at h1
        omega
    · have := h.long q hl
      omega
  · have hs := insB_size (hdB c bt n (t1.size - t0.size)) h.le
    refine ⟨?_, ?_, fun q => h.mono q, fun _ => ?_, fun q => h.ord rfl, fun _ q => (by cases q)⟩
    · have := h.le; omega
    · omega
    · rw [hsz rfl, h.told rfl, ins_mid_eq, elB_hdB]
theorem Tld.order {t0 t1 : ByteArray} {l0 l1 : Bool} {o0 o1 o2 : Option Int} {b : ByteArray} {u z : Bool} (h : Tld t0 l0 o0 b u t1 l1 o1) (k : l1 = false → o2.isSome = (o1.isSome || z)) : Tld t0 l0 o0 b (u || z) t1 l1 o2 :=
  ⟨h.le, h.mx, h.mono, h.told, fun q => by rw [k q, h.ord q, Bool.or_assoc], h.long⟩
/-- Once it is too long nothing else counts. -/
theorem Tld.longer {t0 t1 : ByteArray} {l0 : Bool} {o0 o1 o2 : Option Int} {b b' : ByteArray} {u u' : Bool} (h : Tld t0 true o0 b u t1 true o1) (k : l0 = false → 4000 < b'.size) : Tld t0 l0 o2 b' u' t1 true o1 :=
  ⟨h.le, h.mx, fun _ => rfl, fun q => (by cases q), fun q => (by cases q), fun q _ => by have := k q; omega⟩
/-- Heads put around, the last of the list first. -/
def wraps (l : List Int) (b : ByteArray) : ByteArray := l.foldr (fun t b => elB 2 true t b) b
theorem wraps_snoc (l : List Int) (t : Int) (b : ByteArray) : wraps (l ++ [t]) b = wraps l (elB 2 true t b) := by simp [wraps]
theorem wraps_cons (l : List Int) (t : Int) (b : ByteArray) : wraps (t :: l) b = elB 2 true t (wraps l b) := by simp [wraps]
theorem wraps_size : ∀ (l : List Int) (b : ByteArray), 2 * l.length + b.size ≤ (wraps l b).size
  | [], b => by simp [wraps]
  | t :: l, b => by
    have h := wraps_size l b
    have h2 := elB_sz 2 true t (wraps l b)
    have h3 := cnt_cases (wraps l b).size
    rw [wraps_cons]
    simp only [List.length_cons]
    omega
theorem less_iff : ∀ (a b : List UInt8), (decide (Lib.compareBytes a b < 0)) = Op.bytesLess a b
  | [], [] => rfl
  | [], _ :: _ => rfl
  | _ :: _, [] => rfl
  | a :: x, b :: y => by
    rw [Lib.compareBytes, Op.bytesLess]
    by_cases h : a < b
    · simp [h]
    · rw [if_neg h]
      by_cases h2 : b < a
      · have hne : (a == b) = false := by
          rw [beq_eq_false_iff_ne]
          rintro rfl
          exact UInt8.lt_irrefl _ h2
        rw [if_pos h2, hne]
        simp [h]
      · rw [if_neg h2]
        have he : a = b := by
          apply UInt8.toNat_inj.1
          rw [UInt8.lt_iff_toNat_lt] at h h2
          omega
        subst he
        rw [less_iff x y]
        simp [UInt8.lt_irrefl]
end Go.Proofs.YtkkicodfpekbgaaGreatDoor

/-! bytes.Compare: what it answers. -/
namespace Go.Proofs.YtkkicodfpekbgaaGreatDoor
set_option linter.unusedSimpArgs false
set_option linter.unusedVariables false
open Go.RowKit

/-- A slice of bytes that holds these. -/
def BytesAt (w : World) (v : Value) (l : List UInt8) : Prop :=
  (v = .slice none 0 0 ∧ l = []) ∨ ∃ a c, v = .slice (some a) l.length c ∧ ∀ j x, l[j]? = some x → w.cell? (a.add j) = some (.int .u8 (x.toNat : Int))
theorem run_loadB (w : World) : ∀ (l : List UInt8) (a : Addr) (acc : ByteArray), (∀ j x, l[j]? = some x → w.cell? (a.add j) = some (.int .u8 (x.toNat : Int))) → (Extern.Bytes.loadBytes a l.length acc).run Tryz.prog w = .ok ⟨acc.data ++ l.toArray⟩ w
  | [], a, acc, _ => by simp [Extern.Bytes.loadBytes]
  | x :: l, a, acc, h => by
    have h0 : w.cell? a = some (.int .u8 (x.toNat : Int)) := by
      have := h 0 x rfl
      simpa [Addr.add] using this
    have ih := run_loadB w l (a.add 1) (acc.push ((x.toNat : Int).toNat.toUInt8)) (fun j y hy => by
      have := h (j + 1) y (by simpa using hy)
      have e : (a.add 1).add j = a.add (j + 1) := by
        unfold Addr.add
        by_cases hj : j = 0
        · subst hj; simp
        · simp [hj]; omega
      rw [e]; exact this)
    simp only [List.length_cons, Extern.Bytes.loadBytes, Sem.run_bind, run_load, h0, Result.andThen]
    rw [ih]
    congr 1
    apply ByteArray.ext
    simp [ByteArray.push]
theorem run_bytesOfB {w : World} {v : Value} {l : List UInt8} (h : BytesAt w v l) : (Extern.Bytes.bytesOf v).run Tryz.prog w = .ok ⟨l.toArray⟩ w := by
  rcases h with ⟨rfl, rfl⟩ | ⟨a, c, rfl, h⟩
  · rfl
  · have := run_loadB w l a .empty h
    simpa [Extern.Bytes.bytesOf] using this
theorem run_compareB {w : World} {v u : Value} {l m : List UInt8} (h : BytesAt w v l) (k : BytesAt w u m) : (Extern.BytealgCompare.compare #[v, u]).run Tryz.prog w = .ok (.int .i64 (Lib.compareBytes l m)) w := by
  change Sem.run Tryz.prog (α := Value) (do pure (goInt (Extern.BytealgCompare.cmp (← Extern.Bytes.bytesOf v) (← Extern.Bytes.bytesOf u)))) w = _
  simp only [Sem.run_bind, run_bytesOfB h, run_bytesOfB k, Result.andThen, Sem.run_pure]
  rw [Lib.cmp_eq]
  rfl

set_option maxHeartbeats 1000000 in
set_option maxRecDepth 100000 in
theorem bcompare_any (v u : Value) (l m : List UInt8) (w : World) (h : BytesAt w v l) (k : BytesAt w u m) :
    Calls Tryz.prog 184 #[v, u] w fun e w' => e = .returned (.int .i64 (Lib.compareBytes l m)) ∧ w' = w := by
  have HR : Hid ((callFunc 203 #[v, u]).run Tryz.prog w = .ok (.value (.int .i64 (Lib.compareBytes l m))) w) := by
    unfold Hid
    rw [run_callFunc_extern Tryz.func203 (by kernel_rfl) (by kernel_rfl) (by kernel_rfl) (e := Extern.BytealgCompare.compare) (by kernel_rfl), run_compareB h k]
    rfl
  clear h k
  go_enter Tryz.func184, Tryz.ntmps184
  go_wp2
  rw [HR.out]
  try simp only [Result.andThen]
  try rw [Oper.upon_value]
  go_wp2
  go_ret
  exact ⟨rfl, rfl⟩
end Go.Proofs.YtkkicodfpekbgaaGreatDoor

/-! element.Tell, hallmark.Tell: what they answer. -/
namespace Go.Proofs.YtkkicodfpekbgaaGreatDoor
set_option linter.unusedSimpArgs false
set_option linter.unusedVariables false
open Go.RowKit

theorem own_one {B : Nat} (w : World) (x : Value) (T : TypeId) (hB : B ≤ w.heap.size) : (w.alloc (.cells #[x] T)).ownsRow B T 1 (.slice (some ⟨w.heap.size, 0, none⟩) 1 1) 1 [x] :=
  ⟨by simp, .inr ⟨w.heap.size, 1, #[x], rfl, hB, heap_alloc_new w _, by omega, by decide, rfl, by simp⟩⟩

set_option maxHeartbeats 1000000 in
set_option maxRecDepth 100000 in
theorem tell_tag (c : Int) (b : Bool) (n s l : Int) (w : World) (sn : Sn → Addr) (hs : Sent w sn) (h : c < 0 ∨ 3 < c ∨ n < 0 ∨ 30 < n) :
    Calls Tryz.prog 154 #[.agg #[.int .i64 c, .bool b, .int .i64 n, .int .i64 s, .int .i64 l]] w fun e w' => e = .returned (.tuple #[.string ⟨#[]⟩, fault 0 (sn .Tag)]) ∧ Below w.heap.size w w' := by
  have h1 := hs.cT
  have h1' := cell_lt hs.cT
  clear hs
  unfold fault
  by_cases q1 : c < 0
  · clear h
    go_enter Tryz.func154, Tryz.ntmps154
    go_wp2
    go_ret2
    exact ⟨rfl, (Below.refl _ _).alloc (Nat.le_refl _) _⟩
  by_cases q2 : 3 < c
  · clear h
    go_enter Tryz.func154, Tryz.ntmps154
    go_wp2
    go_ret2
    exact ⟨rfl, (Below.refl _ _).alloc (Nat.le_refl _) _⟩
  by_cases q3 : n < 0
  · clear h
    go_enter Tryz.func154, Tryz.ntmps154
    go_wp2
    go_ret2
    exact ⟨rfl, (Below.refl _ _).alloc (Nat.le_refl _) _⟩
  have q4 : 30 < n := by omega
  clear h
  go_enter Tryz.func154, Tryz.ntmps154
  go_wp2
  go_ret2
  exact ⟨rfl, (Below.refl _ _).alloc (Nat.le_refl _) _⟩

set_option maxHeartbeats 1000000 in
set_option maxRecDepth 100000 in
theorem tell_len (c : Int) (b : Bool) (n s l : Int) (w : World) (sn : Sn → Addr) (hs : Sent w sn) (q1 : 0 ≤ c) (q2 : c ≤ 3) (q3 : 0 ≤ n) (q4 : n ≤ 30) (h : l < 0 ∨ 16777215 < l) :
    Calls Tryz.prog 154 #[.agg #[.int .i64 c, .bool b, .int .i64 n, .int .i64 s, .int .i64 l]] w fun e w' => e = .returned (.tuple #[.string ⟨#[]⟩, fault 0 (sn .Length)]) ∧ Below w.heap.size w w' := by
  have h1 := hs.cL
  have h1' := cell_lt hs.cL
  clear hs
  unfold fault
  by_cases q5 : l < 0
  · clear h
    go_enter Tryz.func154, Tryz.ntmps154
    go_wp2
    go_ret2
    exact ⟨rfl, (Below.refl _ _).alloc (Nat.le_refl _) _⟩
  have q6 : 16777215 < l := by omega
  clear h
  go_enter Tryz.func154, Tryz.ntmps154
  go_wp2
  go_ret2
  exact ⟨rfl, (Below.refl _ _).alloc (Nat.le_refl _) _⟩

set_option maxHeartbeats 1000000 in
set_option maxRecDepth 100000 in
theorem tell_ok (c : Int) (b : Bool) (n s l : Int) (w : World) (q1 : 0 ≤ c) (q2 : c ≤ 3) (q3 : 0 ≤ n) (q4 : n ≤ 30) (q5 : 0 ≤ l) (q6 : l ≤ 16777215) :
    Calls Tryz.prog 154 #[.agg #[.int .i64 c, .bool b, .int .i64 n, .int .i64 s, .int .i64 l]] w fun e w' => e = .returned (.tuple #[.string ⟨(UInt8.ofNat (fb ⟨c, b, n, s, l⟩).toNat :: tl l).toArray⟩, .nilIface]) ∧ Below w.heap.size w w' := by
  cases b
  · have hy : Hid (bits .or .i64 (c * 64) n % 256 = c * 64 + n) := by show _ = _; rw [i64_or6 _ _ (by omega) (by omega) (by omega) (by omega) (by omega)]; omega
    go_enter Tryz.func154, Tryz.ntmps154
    go_wp2_with fail
    rw [hy.out]
    have ho1 : ((w.alloc (.cells #[.int .i64 c, .bool false, .int .i64 n, .int .i64 s, .int .i64 l] 179)).alloc (.cells #[.int .u8 (c * 64 + n)] 5)).ownsRow w.heap.size 5 1 (.slice (some ⟨w.heap.size + 1, 0, none⟩) 1 1) 1 [.int .u8 (c * 64 + n)] := by
      have := own_one (B := w.heap.size) (w.alloc (.cells #[.int .i64 c, .bool false, .int .i64 n, .int .i64 s, .int .i64 l] 179)) (.int .u8 (c * 64 + n)) 5 (by simp)
      simpa using this
    refine (appendLength_any w.heap.size (.slice (some ⟨w.heap.size + 1, 0, none⟩) 1 1) 1 [.int .u8 (c * 64 + n)] l _ q5 (by omega) (by exact ho1) (by simp; omega) (by omega)).mono ?_
    rintro e w2 ⟨v', m, rfl, ho, hb⟩
    have hcv := conv_own (l := UInt8.ofNat (c * 64 + n).toNat :: tl l) (ownsRow_cast ho rfl (by simp [bv_of (c * 64 + n) (by omega) (by omega)])) (by simp)
    have HB : Hid (Below w.heap.size w w2) := (((Below.refl w.heap.size w).alloc (Nat.le_refl _) _).alloc (by simp) _).trans hb
    clear ho hb
    go_wp2
    go_ret2
    exact ⟨rfl, HB.out⟩
  · have hy : Hid (bits .or .i64 (bits .or .i64 (c * 64) n) 32 % 256 = c * 64 + n + 32) := by show _ = _; rw [i64_or6 (c * 64) n (by omega) (by omega) (by omega) (by omega) (by omega), i64_or32 c n q1 q2 q3 q4]; omega
    go_enter Tryz.func154, Tryz.ntmps154
    go_wp2_with fail
    rw [hy.out]
    have ho1 : ((w.alloc (.cells #[.int .i64 c, .bool true, .int .i64 n, .int .i64 s, .int .i64 l] 179)).alloc (.cells #[.int .u8 (c * 64 + n + 32)] 5)).ownsRow w.heap.size 5 1 (.slice (some ⟨w.heap.size + 1, 0, none⟩) 1 1) 1 [.int .u8 (c * 64 + n + 32)] := by
      have := own_one (B := w.heap.size) (w.alloc (.cells #[.int .i64 c, .bool true, .int .i64 n, .int .i64 s, .int .i64 l] 179)) (.int .u8 (c * 64 + n + 32)) 5 (by simp)
      simpa using this
    refine (appendLength_any w.heap.size (.slice (some ⟨w.heap.size + 1, 0, none⟩) 1 1) 1 [.int .u8 (c * 64 + n + 32)] l _ q5 (by omega) (by exact ho1) (by simp; omega) (by omega)).mono ?_
    rintro e w2 ⟨v', m, rfl, ho, hb⟩
    have hcv := conv_own (l := UInt8.ofNat (c * 64 + n + 32).toNat :: tl l) (ownsRow_cast ho rfl (by simp [bv_of (c * 64 + n + 32) (by omega) (by omega)])) (by simp)
    have HB : Hid (Below w.heap.size w w2) := (((Below.refl w.heap.size w).alloc (Nat.le_refl _) _).alloc (by simp) _).trans hb
    clear ho hb
    go_wp2
    go_ret2
    exact ⟨rfl, HB.out⟩

theorem tell_any (h : Hd) (w : World) (sn : Sn → Addr) (hs : Sent w sn) :
    Calls Tryz.prog 154 #[hv h] w fun e w' => e = .returned (.tuple #[.string ⟨(tsp h).2.toArray⟩, errAt 0 sn (tsp h).1]) ∧ Below w.heap.size w w' := by
  obtain ⟨c, b, n, s, l⟩ := h
  unfold tsp
  split
  · rename_i q; exact tell_tag c b n s l w sn hs q
  rename_i q
  simp only at q
  split
  · rename_i q'; exact tell_len c b n s l w sn hs (by omega) (by omega) (by omega) (by omega) q'
  · rename_i q'
    simp only at q'
    exact tell_ok c b n s l w (by omega) (by omega) (by omega) (by omega) (by omega) (by omega)
end Go.Proofs.YtkkicodfpekbgaaGreatDoor

/-! slices.Backward over the heads around: the library's iterator, its contract. -/
namespace Go.Proofs.YtkkicodfpekbgaaGreatDoor
set_option linter.unusedSimpArgs false
set_option linter.unusedVariables false
open Go.RowKit Go.Shelf

attribute [local go_sem] Oper.semAt_some

/-- A tag's number. -/
abbrev TagI := { t : Int // 0 ≤ t ∧ t ≤ 30 }
def tag0 : TagI := ⟨0, by decide, by decide⟩
/-- What a round is handed: the index, the head's first byte. -/
def encB (x : Nat × TagI) : Array Value := #[.int .i64 (x.1 : Int), .agg #[.int .i64 2, .int .i64 x.2.1, .bool true]]
/-- What the rounds keep: blocks of cells but one, and but rows of bytes. -/
def FrK (R : Nat) (w w' : World) : Prop := ∀ (k : Nat) (A : Array Value) (T : TypeId), k ≠ R → T ≠ 5 → w.heap[k]? = some (.cells A T (0, 0)) → w'.heap[k]? = some (.cells A T (0, 0))
/-- What has come when k rounds are over. -/
def backTo (ars : List TagI) (k : Nat) : List (Nat × TagI) := (List.range k).map fun j => (ars.length - 1 - j, ars[ars.length - 1 - j]?.getD tag0)
theorem backTo_succ (ars : List TagI) (k : Nat) : backTo ars (k + 1) = backTo ars k ++ [(ars.length - 1 - k, ars[ars.length - 1 - k]?.getD tag0)] := by simp [backTo, List.range_succ]
theorem backTo_len (ars : List TagI) (k : Nat) : (backTo ars k).length = k := by simp [backTo]
/-- The heads in memory. -/
def AroundIn (w : World) (Bs R : Nat) (ars : List TagI) : Prop :=
  Bs ≠ R ∧ ((ars = [] ∧ w.heap[Bs]? = some (.cells #[.slice none 0 0] 186 (0, 0))) ∨
    ∃ g cap cur, g ≠ R ∧ cap ≤ 9223372036854775807 ∧ ars.length ≤ cap ∧ w.heap[Bs]? = some (.cells #[.slice (some ⟨g, 0, none⟩) ars.length cap] 186 (0, 0)) ∧ w.heap[g]? = some (.cells cur 149 (0, 0)) ∧
      ∀ j, j < ars.length → cur[j * 3]? = some (.int .i64 2) ∧ cur[j * 3 + 1]? = some (.int .i64 (ars[j]?.getD tag0).1) ∧ cur[j * 3 + 2]? = some (.bool true))
theorem AroundIn.keep {w w' : World} {Bs R : Nat} {ars : List TagI} (h : AroundIn w Bs R ars) (k : FrK R w w') : AroundIn w' Bs R ars := by
  refine ⟨h.1, ?_⟩
  rcases h.2 with ⟨h1, h2⟩ | ⟨g, cap, cur, h1, h2, h3, h4, h5, h6⟩
  · exact .inl ⟨h1, k _ _ _ h.1 (by decide) h2⟩
  · exact .inr ⟨g, cap, cur, h1, h2, h3, k _ _ _ h.1 (by decide) h4, k _ _ _ h1 (by decide) h5, h6⟩

set_option maxRecDepth 100000 in
set_option maxHeartbeats 4000000 in
theorem back1_in (n : Nat) (hn : 1 ≤ n) (l Bs R : Nat) (ars : List TagI) (hl : ars.length ≤ 1000000) (J Jx : List (Nat × TagI) → World → Prop)
    (hY : ∀ pre x W, J pre W → pre.length < ars.length → YieldAt Fence.wide (n - 1) Tryz.prog l (encB x) W fun e W' =>
      (e = .returned (.bool true) ∧ J (pre ++ [x]) W' ∧ FrK R W W') ∨ (e = .returned (.bool false) ∧ Jx (pre ++ [x]) W'))
    (W : World) (hA : AroundIn W Bs R ars) (h0 : J [] W) :
    CallsIn Fence.wide n Tryz.prog 153 #[.func (.yield l) #[] #[], .pointer (some ⟨Bs, 0, none⟩)] W fun e W' => (∃ v, e = .returned v) ∧
      ((∃ ys, ys = backTo ars ars.length ∧ J ys W') ∨ (∃ pre, True ∧ Jx pre W')) := by
  rcases hA.2 with ⟨rfl, hb⟩ | ⟨g, cap, cur, hg1, hg2, hg3, hb, hg, hcs⟩
  · have c0 : W.cell? ⟨Bs, 0, none⟩ = some (.slice none 0 0) := by simp [World.cell?, hb]
    have hlb : Bs < W.heap.size := (Array.getElem?_eq_some_iff.1 hb).1
    clear hb hY hA
    refine callsIn_of_wp Tryz.func153 rfl trivial ?_ rfl
    simp only [Tryz.ntmps153, List.size_toArray, List.length_cons, List.length_nil, Nat.reduceAdd, Nat.reduceSub, Array.replicate_succ, Array.replicate_zero, List.push_toArray, List.append_toArray, List.nil_append, List.cons_append]
    gi_wp2
    gi_loopw [3] (fun i wr => i = .int .i64 (-1) ∧ J [] wr) (fun _ _ => 0)
    case atStart => exact ⟨rfl, h0⟩
    case round =>
      obtain ⟨rfl, hJs⟩ := hrel
      gi_wp2
      go_end0
      exact ⟨⟨_, rfl⟩, .inl ⟨_, rfl, hJs⟩⟩
  · have c0 : W.cell? ⟨Bs, 0, none⟩ = some (.slice (some ⟨g, 0, none⟩) ars.length cap) := by simp [World.cell?, hb]
    have hlb : Bs < W.heap.size := (Array.getElem?_eq_some_iff.1 hb).1
    obtain ⟨L, hL⟩ : ∃ L, ars.length = L := ⟨_, rfl⟩
    have hw1 : IntKind.i64.wrap ((L : Int) - 1) = (L : Int) - 1 := by rw [IntKind.wrap_i64]; omega
    rw [hL] at c0 hY hg3 hcs hl hb ⊢
    refine callsIn_of_wp Tryz.func153 rfl trivial ?_ rfl
    simp only [Tryz.ntmps153, List.size_toArray, List.length_cons, List.length_nil, Nat.reduceAdd, Nat.reduceSub, Array.replicate_succ, Array.replicate_zero, List.push_toArray, List.append_toArray, List.nil_append, List.cons_append]
    gi_wp2
    gi_loopw [3] (fun i wr => ∃ k : Nat, k ≤ L ∧ i = .int .i64 ((L : Int) - 1 - k) ∧ J (backTo ars k) wr ∧ FrK R W wr) (fun i _ => (intOf i + 1).toNat)
    case atStart => exact ⟨0, Nat.zero_le _, by simp, h0, fun _ _ _ _ _ h => h⟩
    case round =>
      obtain ⟨k, hk, rfl, hJs, hnx⟩ := hrel
      have hb' := hnx _ _ _ hA.1 (by decide) hb
      have hg' := hnx _ _ _ hg1 (by decide) hg
      have d0 : wr.cell? ⟨Bs, 0, none⟩ = some (.slice (some ⟨g, 0, none⟩) L cap) := by simp [World.cell?, hb']
      have hlb' : Bs < wr.heap.size := (Array.getElem?_eq_some_iff.1 hb').1
      have hlg' : g < wr.heap.size := (Array.getElem?_eq_some_iff.1 hg').1
      by_cases hlt : k < L
      · obtain ⟨j, hj⟩ : ∃ j : Nat, L - 1 - k = j := ⟨_, rfl⟩
        have hji : (L : Int) - 1 - (k : Int) = (j : Int) := by omega
        have hjl : j < L := by omega
        obtain ⟨z0, z1, z2⟩ := hcs j hjl
        have e0 : wr.cell? ⟨g, j * 3, none⟩ = some (.int .i64 2) := by simp [World.cell?, hg', z0]
        have e1 : wr.cell? ⟨g, j * 3 + 1, none⟩ = some (.int .i64 (ars[j]?.getD tag0).1) := by simp [World.cell?, hg', z1]
        have e2 : wr.cell? ⟨g, j * 3 + 2, none⟩ = some (.bool true) := by simp [World.cell?, hg', z2]
        obtain ⟨fn, tmps, assign, body, hy, hR⟩ := hY (backTo ars k) (j, ars[j]?.getD tag0) wr hJs (by rw [backTo_len]; exact hlt)
        unfold encB at hy
        dsimp only at hy
        obtain ⟨tg, htg⟩ : ∃ tg, (ars[j]?.getD tag0) = tg := ⟨_, rfl⟩
        rw [htg] at e1 hy hR
        have hbk : backTo ars (k + 1) = backTo ars k ++ [(j, tg)] := by rw [backTo_succ, hL, hj, htg]
        rw [hji]
        have hj0 : (0 : Int) ≤ (j : Int) := by omega
        have hjl' : (j : Int) < (L : Int) := by omega
        have hw2 : IntKind.i64.wrap ((j : Int) - 1) = (j : Int) - 1 := by rw [IntKind.wrap_i64]; omega
        clear z0 z1 z2 hb' hg' hb hg hcs htg hY
        gi_wp2
        first | refine hR.mono ?_ | (refine ⟨fun _ => hn, ?_⟩; refine hR.mono ?_)
        rintro e W3 (⟨rfl, hJ3, hk3⟩ | ⟨rfl, hJx3⟩)
        · gi_wp2
          go_roundw
          case rel => exact ⟨k + 1, by omega, by congr 1 <;> omega, by rw [hbk]; exact hJ3, fun q A T h1 h2 h3 => hk3 q A T h1 h2 (hnx q A T h1 h2 h3)⟩
          case measure => (simp [intOf]; try omega)
        · gi_wp2
          refine bodyPost_ret (results_none rfl _ _ _) rfl ?_
          exact ⟨⟨_, rfl⟩, .inr ⟨_, trivial, hJx3⟩⟩
      · obtain rfl : k = L := by omega
        have hneg : (k : Int) - 1 - (k : Int) = -1 := by omega
        rw [hneg]
        gi_wp2
        go_end0
        exact ⟨⟨_, rfl⟩, .inl ⟨_, rfl, hJs⟩⟩

theorem back_stops (n : Nat) (hn : 1 ≤ n) (Bs R : Nat) (ars : List TagI) (hl : ars.length ≤ 1000000) (w : World) (hA : AroundIn w Bs R ars) :
    SeqStopsK Fence.wide n Tryz.prog 153 #[.pointer (some ⟨Bs, 0, none⟩)] encB (FrK R) (fun ys => ys = backTo ars ars.length) (fun _ => True) ars.length w := fun l J Jx W hW _ _ hY h0 => by
  have hA' : AroundIn W Bs R ars := hA.keep fun k A T _ _ hg => block_below hg hW
  refine (back1_in n hn l Bs R ars hl J Jx hY W hA' h0).mono ?_
  rintro e W' ⟨he, h | h⟩
  · exact ⟨he, .inl h⟩
  · exact ⟨he, .inr h⟩

set_option maxHeartbeats 1000000 in
set_option maxRecDepth 100000 in
theorem backward_any (a : Option Addr) (len cap : Nat) (w : World) :
    Calls Tryz.prog 112 #[.slice a len cap] w fun e w' => e = .returned (.func (.func 153) #[] #[.pointer (some ⟨w.heap.size, 0, none⟩)]) ∧ w' = w.alloc (.cells #[.slice a len cap] 186) := by
  go_enter Tryz.func112, Tryz.ntmps112
  go_wp2
  go_ret
  exact ⟨rfl, rfl⟩

/-- A range over a function whose loop variable lies in a box of its own, made anew in each round. -/
theorem wpIn_rangeFunc_box {P : Program} {F : Fence} {n : Nat} {α : Type} {g : Operand} {ps : Array Tmp} {assign body : Code} {Q : Exit → Act → World → Prop} {a : Act} {w : World}
    (hro : F.round = none) (h1 : 1 ≤ n) {gf : Nat} {lb : Array Value} (hg : a.eval g = .func (.func gf) #[] lb) (hFg : F.fn gf) (eg : ∀ args w, (callFunc gf args).run P w = .ok (.enter gf args) w)
    {encs : α → Array Value} {Kp : World → World → Prop} {S Sp : List α → Prop} {N : Nat} {w0 : World} (hseq : SeqStopsK F (n - 1) P gf lb encs Kp S Sp N w0)
    (hKt : ∀ {A B C : World}, Kp A B → Kp B C → Kp A C) (hKb : ∀ (W : World) (l : Nat) (o o' : Obj), w.heap.size ≤ l → W.heap[l]? = some o → o.isCells = false → o.isWalk = false → Kp W (W.putObj l o')) (hKa : ∀ (W : World) (o : Obj), Kp W (W.alloc o)) (hb0 : Below w0.heap.size w0 w) (hps : ∀ x, (encs x).size = ps.size)
    (I : List α → World → Prop) (hI : OwnFrom w.heap.size I) (h0 : I [] w) (t : Tmp) (T : TypeId) (cl : α → Array Value)
    (hassign : ∀ (l : Nat) (x : α) (W : World) (K : Act → World → Prop), K { tmps := ((ps.zip (encs x)).foldl (fun t (p, v) => t.setIfInBounds p v) a.tmps).setIfInBounds t (.pointer (some ⟨W.heap.size, 0, none⟩)), defers := [] } (W.alloc (.cells (cl x) T)) →
      assign.wpIn (F.inRound l) (n - 1 - 1) P (Exit.then K (fun _ _ _ => False)) { tmps := (ps.zip (encs x)).foldl (fun t (p, v) => t.setIfInBounds p v) a.tmps, defers := [] } W)
    (hbody : ∀ (l : Nat) (pre : List α) (x : α) (Bx : Nat) (W : World), I pre W → W.heap[Bx]? = some (.cells (cl x) T (0, 0)) → pre.length < N → body.wpIn (F.inRound l) (n - 1 - 1) P (ownPostG w.heap.size Kp I (fun _ _ _ => False) (pre ++ [x]) W) { tmps := ((ps.zip (encs x)).foldl (fun t (p, v) => t.setIfInBounds p v) a.tmps).setIfInBounds t (.pointer (some ⟨Bx, 0, none⟩)), defers := [] } W)
    (hdone : ∀ (D : Nat) (xs : List α) (W : World), w.heap.size ≤ D → S xs → I xs W → W.heap[D]? = some (.deferred (some [])) → Q .normal { a with defers := { target := .collected D, args := #[] } :: a.defers } W) :
    (Code.rangeFunc g ps assign body).wpIn F n P Q a w := by
  refine wpIn_rangeFunc_ownH hro h1 hg hFg eg hseq hKt hKb hb0 hps I (fun _ _ _ => False) hI (fun _ _ _ _ _ h _ _ => h) h0
    (fun x a' W => ∃ Bx, W.heap[Bx]? = some (.cells (cl x) T (0, 0)) ∧ a' = { tmps := ((ps.zip (encs x)).foldl (fun t (p, v) => t.setIfInBounds p v) a.tmps).setIfInBounds t (.pointer (some ⟨Bx, 0, none⟩)), defers := [] })
    (fun x a' _ X Y row hs hg' hr => ?_) (fun l pre x W K hi hK => ?_) (fun l pre x a' W _ _ hi hax hlt => ?_) hdone (fun _ _ _ _ _ _ h => h.elim)
  · obtain ⟨Bx, h2, h3⟩ := hs
    refine ⟨Bx, ?_, h3⟩
    rw [hg'.block Bx (Array.getElem?_eq_some_iff.1 h2).1 (fun e => ?_)]
    · exact h2
    · obtain ⟨_, o, ho, hc⟩ := hr Bx e.symm
      rw [h2] at ho
      injection ho with ho
      subst ho
      cases hc
  · exact hassign l x W K (hK _ _ ((KeepsOthers.alloc _ _).from _) (hKa _ _) (hI.alloc _ hi) ⟨W.heap.size, World.alloc_heap_new W _, rfl⟩)
  · obtain ⟨Bx, h2, rfl⟩ := hax
    exact hbody l pre x Bx W hi h2 hlt
/-- A return ahead of such a loop, and behind it. -/
theorem leavesM_ret {P : Program} {F : Fence} {n : Nat} {fn : Func} {R : Ending → World → Prop} {a : Act} {w : World} {v : Value} (hr : (results fn a.tmps).run P w = .ok v w) (hd : a.defers = []) (hR : R (.returned v) w) : bodyPostM F n P fn R .ret a w := by
  show LeavesInM F n P fn a.tmps R a.defers .returning w
  rw [hd]
  exact ⟨v, hr, hR⟩
theorem leavesM_one {P : Program} {F : Fence} {n : Nat} {fn : Func} {R : Ending → World → Prop} {a : Act} {w : World} {v : Value} {D : Nat} (hK : w.heap[D]? = some (.deferred (some []))) (hr : (results fn a.tmps).run P (w.putObj D (.deferred none)) = .ok v (w.putObj D (.deferred none))) (hd : a.defers = [{ target := .collected D, args := #[] }]) (hR : R (.returned v) (w.putObj D (.deferred none))) : bodyPostM F n P fn R .ret a w := by
  show LeavesInM F n P fn a.tmps R a.defers .returning w
  rw [hd]
  exact ⟨by simp, .inl ⟨_, _, rfl, run_takeDeferred hK, v, hr, hR⟩⟩
end Go.Proofs.YtkkicodfpekbgaaGreatDoor

/-! Choices within one another, and the heads around them: plain mathematics; the list of these heads in memory. -/
namespace Go.Proofs.YtkkicodfpekbgaaGreatDoor
set_option linter.unusedSimpArgs false
set_option linter.unusedVariables false
open Go.RowKit

def acells (l : List TagI) : List Value := l.flatMap fun t => [.int .i64 2, .int .i64 t.1, .bool true]
theorem acells_len (l : List TagI) : (acells l).length = l.length * 3 := by
  unfold acells
  induction l with
  | nil => rfl
  | cons t l ih => rw [List.flatMap_cons, List.length_append, ih]; simp; omega
theorem acells_snoc (l : List TagI) (t : TagI) : acells (l ++ [t]) = acells l ++ [.int .i64 2, .int .i64 t.1, .bool true] := by simp [acells]
theorem acells_get : ∀ (l : List TagI) (j : Nat), j < l.length → (acells l)[j * 3]? = some (.int .i64 2) ∧ (acells l)[j * 3 + 1]? = some (.int .i64 (l[j]?.getD tag0).1) ∧ (acells l)[j * 3 + 2]? = some (.bool true)
  | [], j, h => by simp at h
  | t :: l, 0, _ => by simp [acells]
  | t :: l, j + 1, h => by
    have ih := acells_get l j (by simpa using h)
    have e : acells (t :: l) = [.int .i64 2, .int .i64 t.1, .bool true] ++ acells l := by simp [acells]
    rw [e]
    have g : ∀ k, ([Value.int .i64 2, .int .i64 t.1, .bool true] ++ acells l)[(j + 1) * 3 + k]? = (acells l)[j * 3 + k]? := fun k => by
      rw [List.getElem?_append_right (by simp; omega)]
      congr 1
      simp
      omega
    have g0 := g 0
    simp only [Nat.add_zero] at g0
    rw [g0, g 1, g 2]
    simpa using ih
theorem AroundIn.of_own {w : World} {Bs R B : Nat} {v : Value} {ars : List TagI} (h : w.ownsRow B 149 3 v ars.length (acells ars)) (hb : w.heap[Bs]? = some (.cells #[v] 186 (0, 0))) (hR : R < B) (hne : Bs ≠ R) : AroundIn w Bs R ars := by
  refine ⟨hne, ?_⟩
  rcases h.2 with ⟨rfl, h0⟩ | ⟨g, cap, cur, rfl, h1, h2, h3, h4, h5, h6⟩
  · exact .inl ⟨List.length_eq_zero_iff.1 h0, hb⟩
  · refine .inr ⟨g, cap, cur, by omega, by unfold maxLen at h4; omega, h3, hb, h2, fun j hj => ?_⟩
    have hg := acells_get ars j hj
    rw [← h6] at hg
    rw [List.getElem?_take_of_lt (by omega), List.getElem?_take_of_lt (by omega), List.getElem?_take_of_lt (by omega)] at hg
    simpa using hg

/-- The element of a node around what it comes to without its own Tag of Mode 1. -/
def outR (n : Nd) (r : WOut) : WOut := r.map fun (b, x, u) => (if n.mode = 1 then elB 2 true n.tag b else b, x, u)
theorem outR_of {n : Nd} {o : Option WOut} {r : WOut} (h : WOut.andThen o (fun b x' u => some (some (if n.mode = 1 then elB 2 true n.tag b else b, x', u))) = some r) : ∃ r', o = some r' ∧ r = outR n r' := by
  rcases wandThen_cases h with ⟨h1, h2⟩ | ⟨b, x, u, h1, h2⟩
  · exact ⟨none, h1, h2⟩
  · refine ⟨_, h1, ?_⟩
    injection h2 with h2
    exact h2.symm
def wrR (ars : List TagI) (r : WOut) : WOut := r.map fun (b, x, u) => (wraps (ars.map (·.1)) b, x, u)
def RelL (l0 : Bool) (r r' : WOut) : Prop := (r' = none → r = none) ∧ ∀ b x u, r' = some (b, x, u) → ∃ b0, r = some (b0, x, u) ∧ (l0 = false → 4000 < b0.size)
/-- How what is asked for follows of what is left to be done. -/
def Chain (l0 lc : Bool) (ars : List TagI) (r r' : WOut) : Prop := (lc = false ∧ l0 = false ∧ ars.length ≤ 2000 ∧ r = wrR ars r') ∨ (lc = true ∧ ars.length ≤ 2001 ∧ RelL l0 r r')
theorem Chain.start (l0 : Bool) (r : WOut) : Chain l0 l0 [] r r := by
  cases l0 with
  | false =>
    refine .inl ⟨rfl, rfl, by simp, ?_⟩
    cases r with
    | none => rfl
    | some z => rfl
  | true => exact .inr ⟨rfl, by simp, fun h => h, fun b x u h => ⟨b, h, fun q => by cases q⟩⟩
/-- No head is put around. -/
theorem Chain.plain {l0 lc : Bool} {ars : List TagI} {r r'' : WOut} {n : Nd} (h : Chain l0 lc ars r (outR n r'')) (hm : ¬ (n.mode = 1) ∨ lc = true) : Chain l0 lc ars r r'' := by
  rcases h with ⟨h1, h2, h3, h4⟩ | ⟨h1, h2, h3, h4⟩
  · have hm' : ¬ n.mode = 1 := by
      rcases hm with q | q
      · exact q
      · rw [h1] at q; cases q
    refine .inl ⟨h1, h2, h3, ?_⟩
    rw [h4]
    cases r'' with
    | none => rfl
    | some z => simp [outR, wrR, hm']
  · refine .inr ⟨h1, h2, fun q => h3 (by rw [q]; rfl), fun b x u q => ?_⟩
    exact h4 _ x u (by rw [q]; rfl)
/-- A head is put around. -/
theorem Chain.head {l0 : Bool} {ars : List TagI} {r r'' : WOut} {n : Nd} (h : Chain l0 false ars r (outR n r'')) (hm : n.mode = 1) (t : TagI) (ht : t.1 = n.tag) : Chain l0 (decide (2000 < ars.length + 1)) (ars ++ [t]) r r'' := by
  rcases h with ⟨_, h2, h3, h4⟩ | ⟨h1, _⟩
  · have e : wrR ars (outR n r'') = wrR (ars ++ [t]) r'' := by
      cases r'' with
      | none => rfl
      | some z =>
        simp only [outR, wrR, hm, Option.map_some, if_true]
        rw [List.map_append, List.map_cons, List.map_nil, wraps_snoc, ht]
    rw [e] at h4
    by_cases hl : 2000 < ars.length + 1
    · rw [decide_eq_true hl]
      refine .inr ⟨rfl, by simp; omega, fun q => by rw [h4, q]; rfl, fun b x u q => ⟨wraps ((ars ++ [t]).map (·.1)) b, by rw [h4, q]; rfl, fun _ => ?_⟩⟩
      have := wraps_size ((ars ++ [t]).map (·.1)) b
      simp only [List.length_map, List.length_append, List.length_cons, List.length_nil] at this
      omega
    · rw [decide_eq_false hl]
      exact .inl ⟨rfl, h2, by simp; omega, h4⟩
  · cases h1
theorem Chain.none {l0 lc : Bool} {ars : List TagI} {r : WOut} (h : Chain l0 lc ars r none) : r = none := by
  rcases h with ⟨_, _, _, h4⟩ | ⟨_, _, h3, _⟩
  · rw [h4]; rfl
  · exact h3 rfl
theorem Chain.len {l0 lc : Bool} {ars : List TagI} {r r' : WOut} (h : Chain l0 lc ars r r') : ars.length ≤ 2001 := by
  rcases h with ⟨_, _, h, _⟩ | ⟨_, h, _⟩ <;> omega
theorem Chain.end {l0 lc l2 : Bool} {ars : List TagI} {r : WOut} {b : ByteArray} {x : Nat} {u : Bool} {t0 t2 : ByteArray} {o0 o1 : Option Int} (h : Chain l0 lc ars r (some (b, x, u))) (hT : Tld t0 lc o0 (wraps (ars.map (·.1)) b) u t2 l2 o1) : ∃ b0, r = some (b0, x, u) ∧ Tld t0 l0 o0 b0 u t2 l2 o1 := by
  rcases h with ⟨h1, h2, _, h4⟩ | ⟨h1, _, _, h4⟩
  · refine ⟨_, h4, ?_⟩
    rw [h2, ← h1]
    exact hT
  · obtain ⟨b0, h5, h6⟩ := h4 b x u rfl
    refine ⟨b0, h5, ?_⟩
    subst h1
    have hl := hT.mono rfl
    subst hl
    exact hT.longer h6
/-- Heads that came, the last first. -/
def wrapsB (pre : List (Nat × TagI)) (b : ByteArray) : ByteArray := pre.foldl (fun b x => elB 2 true x.2.1 b) b
theorem wrapsB_snoc (pre : List (Nat × TagI)) (x : Nat × TagI) (b : ByteArray) : wrapsB (pre ++ [x]) b = elB 2 true x.2.1 (wrapsB pre b) := by simp [wrapsB]
theorem backTo_rev (ars : List TagI) : (backTo ars ars.length).map (·.2) = ars.reverse := by
  apply List.ext_getElem
  · simp [backTo]
  · intro i h1 h2
    simp only [backTo, List.map_map, List.getElem_map, List.getElem_range, Function.comp_apply, List.getElem_reverse]
    have hi : i < ars.length := by simpa using h2
    rw [List.getElem?_eq_getElem (by omega)]
    rfl
theorem wrapsB_all (ars : List TagI) (b : ByteArray) : wrapsB (backTo ars ars.length) b = wraps (ars.map (·.1)) b := by
  have h := backTo_rev ars
  have e1 : wrapsB (backTo ars ars.length) b = ((backTo ars ars.length).map (·.2)).foldl (fun b t => elB 2 true t.1 b) b := by
    unfold wrapsB
    rw [List.foldl_map]
  rw [e1, h, List.foldl_reverse]
  unfold wraps
  rw [List.foldr_map]
end Go.Proofs.YtkkicodfpekbgaaGreatDoor
