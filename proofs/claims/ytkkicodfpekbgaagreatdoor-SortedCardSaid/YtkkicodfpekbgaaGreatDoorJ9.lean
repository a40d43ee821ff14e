/-
  Several texts in one:
  schemas.comesBack, isShaped: what they answer.
  schemas.isElement: what it answers.
  schemas.defaultsFit: what it answers.
  schemas.Check: what it answers.
  Small things that the reader's and the writer's texts both need: rows, the fine schema, schemas.Default, schemas.Own, schemas.CheckRoot.
  The document's reader, in general: what its methods leave, by the function on plain data; what stays the same throughout.
  Reading on plain data: how many values come of so many bytes. No walk in it.
  What reading is reckoned by, and what the readers of the document and of the program share: plain mathematics.
  The program's reader in memory; add, notDeep, expect.
  The program's reader: notDeep, expect.
  The program's reader: which node may begin so; open.
  The program's reader: open.
  The program's reader: what stays, what a method leaves; any.
  The program's reader: choice.
  The program's reader: list.
  The program's reader: what is left out, a kid of a Seq.
  The program's reader: a kid of a Seq.
-/
import Derived.Test.YtkkicodfpekbgaaGreatDoorJ4
import Derived.Test.YtkkicodfpekbgaaGreatDoorJ3
import Derived.Deep.DeepCutAuto
import Derived.Deep.RegionWith
import Derived.Test.YtkkicodfpekbgaaGreatDoorJ7
import Derived.Test.YtkkicodfpekbgaaGreatDoorJ5
import Derived.Handy
import Derived.Deep.RegionHeldLaw
import Derived.Deep.LoopGhost
import Derived.Laws.OwnMore
/-! schemas.comesBack, isShaped: what they answer. -/
namespace Go.Proofs.YtkkicodfpekbgaaGreatDoor
set_option linter.unusedSimpArgs false
set_option linter.unusedVariables false
open Go.RowKit

set_option maxHeartbeats 1000000 in
set_option maxRecDepth 100000 in
theorem comesBack_any (s : List Nd) (a : Option Addr) (c i : Nat) (w : World) (hs : Sch w a s) (hw : Within s) (htg : Tags s) (hi : i < s.length) (hn : s.length ≤ 40) :
    Calls Tryz.prog 63 #[.slice a s.length c, .int .i64 i] w fun e w' => RetO (Back s i) w e w' := by
  have HC : Hid (Calls Tryz.prog 96 #[.slice a s.length c, .int .i64 i] w fun e w' => RetE s i w e w') := reach_any s a c i w hs hw htg hi hn
  clear hs hw htg
  go_enter Tryz.func63, Tryz.ntmps63
  go_wp2_with fail
  refine HC.out.mono ?_
  rintro e w1 ⟨v, l, bk, rfl, _, hb, _, _, hbk⟩
  have HB : Hid (Below w.heap.size w w1) := hb
  have HR : Hid (bk = true ↔ Back s i) := hbk
  clear hb hbk
  go_wp2
  go_ret
  exact reto_iff HR.out HB.out

theorem tagged_iff (n : Nd) : (¬ Bad1 n ∧ ¬ Bad2 n) ↔ (1 ≤ n.kind ∧ n.kind ≤ 14 ∧ Tagged n) := by unfold Bad1 Bad2 Tagged; omega
theorem count_iff (k : Int) (m : Nat) : Count k m ↔ ((bnd k).1 ≤ (m : Int) ∧ (m : Int) ≤ (bnd k).2) := by
  unfold Count bnd
  repeat' split
  all_goals simp only; omega

set_option maxHeartbeats 4000000 in
set_option maxRecDepth 100000 in
theorem isShaped_any (m : Nat) (n : Nd) (ka : Option Addr) (kc : Nat) (w : World) (hka : KidsIn w ka n.kids) (hkm : n.kids.length ≤ maxLen) :
    Calls Tryz.prog 61 #[.agg #[.int .i64 n.kind, .int .i64 n.tag, .int .i64 n.mode, .slice ka n.kids.length kc], .int .i64 m] w fun e w' => RetO (Alone m n) w e w' := by
  have HM : Hid (∀ (wr : World) (k : Kd), Calls Tryz.prog 94 #[.agg #[.int .i64 k.node, .bool k.opt, .string k.dflt]] wr fun e w' => RetO (¬ k.must) wr e w') := fun wr k => mayLack_any k wr
  have HT : Hid (∀ wr, Calls Tryz.prog 92 #[.agg #[.int .i64 n.kind, .int .i64 n.tag, .int .i64 n.mode, .slice ka n.kids.length kc]] wr fun e w' => RetO (Tagged n) wr e w') := fun wr => isTagged_any n ka kc wr
  have HKB : Hid (∀ wr, Calls Tryz.prog 93 #[.int .i64 n.kind] wr fun e w' => e = .returned (.tuple #[.int .i64 (bnd n.kind).1, .int .i64 (bnd n.kind).2]) ∧ Below wr.heap.size wr w') := fun wr => kidBounds_any n.kind wr
  have HKI : Hid (KidsIn w ka n.kids) := hka
  clear hka
  by_cases h1 : n.kind < 1
  · have HX : Hid (¬ Alone m n) := fun h => h.1 (.inl h1)
    go_enter Tryz.func61, Tryz.ntmps61
    go_wp2
    go_ret
    exact reto_no HX.out ((Below.refl _ _).alloc (Nat.le_refl _) _)
  have h1' : 1 ≤ n.kind := by omega
  by_cases h2 : 14 < n.kind
  · have HX : Hid (¬ Alone m n) := fun h => h.1 (.inr (.inl h2))
    clear h1
    go_enter Tryz.func61, Tryz.ntmps61
    go_wp2
    go_ret
    exact reto_no HX.out ((Below.refl _ _).alloc (Nat.le_refl _) _)
  have h2' : n.kind ≤ 14 := by omega
  clear h1 h2
  go_enter Tryz.func61, Tryz.ntmps61
  go_wp2_with fail
  refine (HT.out _).mono ?_
  rintro e w1 ⟨r, rfl, hr, hb1⟩
  have HR : Hid (r = true ↔ Tagged n) := hr
  have HB1 : Hid (Below w.heap.size w w1) := below_alloc hb1
  obtain ⟨Bn, hBn⟩ : ∃ Bn, Bn = w.heap.size := ⟨_, rfl⟩
  have HBN : Hid (Bn = w.heap.size) := hBn
  have HG1 : Hid (w1.heap[Bn]? = some (.cells #[.int .i64 n.kind, .int .i64 n.tag, .int .i64 n.mode, .slice ka n.kids.length kc] 58 (0, 0))) := by rw [hBn]; exact block_below (heap_alloc_new w _) hb1
  have q0 : w1.cell? ⟨Bn, 0, none⟩ = some (.int .i64 n.kind) := by simp [World.cell?, HG1.out]
  have q3 : w1.cell? ⟨Bn, 3, none⟩ = some (.slice ka n.kids.length kc) := by simp [World.cell?, HG1.out]
  rw [← hBn]
  clear hr hb1 hBn
  cases r
  · go_wp2
    go_ret
    exact reto_no (fun h => Bool.noConfusion (HR.out.2 ((tagged_iff n).1 ⟨h.1, h.2.1⟩).2.2)) HB1.out
  · have HTG : Hid (¬ Bad1 n ∧ ¬ Bad2 n) := (tagged_iff n).2 ⟨h1', h2', HR.out.1 rfl⟩
    go_wp2_with fail
    refine (HKB.out _).mono ?_
    rintro e w2 ⟨rfl, hb2⟩
    have HB2 : Hid (Below w.heap.size w w2) := HB1.out.trans (hb2.mono HB1.out.size)
    have HG2 : Hid (w2.heap[Bn]? = some (.cells #[.int .i64 n.kind, .int .i64 n.tag, .int .i64 n.mode, .slice ka n.kids.length kc] 58 (0, 0))) := block_below HG1.out hb2
    have p0 : w2.cell? ⟨Bn, 0, none⟩ = some (.int .i64 n.kind) := by simp [World.cell?, HG2.out]
    have p3 : w2.cell? ⟨Bn, 3, none⟩ = some (.slice ka n.kids.length kc) := by simp [World.cell?, HG2.out]
    have HCI := count_iff n.kind n.kids.length
    have HCH : Hid (Count n.kind n.kids.length ↔ ((bnd n.kind).1 ≤ (n.kids.length : Int) ∧ (n.kids.length : Int) ≤ (bnd n.kind).2)) := HCI
    generalize (bnd n.kind).1 = lo at *
    generalize (bnd n.kind).2 = hi at *
    clear hb2 q0 q3 HCI
    by_cases c1 : (n.kids.length : Int) < lo
    · have HX : Hid (¬ Count n.kind n.kids.length) := fun q => by have := HCH.out.1 q; omega
      go_wp2
      go_ret
      exact reto_no (fun h => HX.out h.2.2.1) HB2.out
    have c1' : lo ≤ (n.kids.length : Int) := by omega
    by_cases c2 : hi < (n.kids.length : Int)
    · have HX : Hid (¬ Count n.kind n.kids.length) := fun q => by have := HCH.out.1 q; omega
      clear c1
      go_wp2
      go_ret
      exact reto_no (fun h => HX.out h.2.2.1) HB2.out
    have c2' : (n.kids.length : Int) ≤ hi := by omega
    have HC : Hid (Count n.kind n.kids.length) := HCH.out.2 ⟨c1', c2'⟩
    have hk8 : n.kids.length ≤ 8 := by
      have := HC.out
      unfold Count at this
      repeat' split at this
      all_goals omega
    clear c1 c2
    go_wp2
    go_loopw [43] (fun vi wr => ∃ i : Nat, i ≤ n.kids.length ∧ vi = .int .i64 i ∧ (∀ j, j < i → KidOk m n (kd n j)) ∧ Below w2.heap.size w2 wr) (fun vi _ => n.kids.length - (intOf vi).toNat)
    case atStart => exact ⟨0, Nat.zero_le _, rfl, fun _ h => absurd h (Nat.not_lt_zero _), Below.refl _ _⟩
    case round =>
      obtain ⟨i, hi', rfl, hall, hbr⟩ := hrel
      have HA : Hid (∀ j, j < i → KidOk m n (kd n j)) := hall
      have HB : Hid (Below w2.heap.size w2 wr) := hbr
      have HBW : Hid (Below w.heap.size w wr) := HB2.out.trans (hbr.mono HB2.out.size)
      have HG3 : Hid (wr.heap[Bn]? = some (.cells #[.int .i64 n.kind, .int .i64 n.tag, .int .i64 n.mode, .slice ka n.kids.length kc] 58 (0, 0))) := block_below HG2.out hbr
      clear hall hbr
      by_cases hlt : i < n.kids.length
      · have hlt' : (i : Int) < n.kids.length := by omega
        obtain ⟨kb, ko, rfl, kcl⟩ := HKI.out i hlt
        obtain ⟨y, hy⟩ : ∃ y, kd n i = y := ⟨_, rfl⟩
        have HY : Hid (kd n i = y) := hy
        have hkc : KidCells w kb (ko + i * 3) y := by rw [← hy]; exact kcl
        obtain ⟨k1, k2, k3⟩ := hkc.below HBW.out
        have HB6 : Hid (∀ o, Below w.heap.size w (wr.alloc o)) := fun o => HBW.out.alloc HBW.out.size o
        have NO : Hid (¬ KidOk m n y → ¬ Alone m n) := fun h h' => h (HY.out ▸ h'.2.2.2 i hlt)
        have YES : Hid (KidOk m n y → ∀ j, j < i + 1 → KidOk m n (kd n j)) := fun h j hj => by
          by_cases e : j = i
          · subst e; rw [HY.out]; exact h
          · exact HA.out j (by omega)
        clear hy kcl hkc
        by_cases q1 : y.node < 0
        · have HX : Hid (¬ KidOk m n y) := fun h => by have := h.1; omega
          go_wp2
          go_ret
          exact reto_no (NO.out HX.out) (HB6.out _)
        have q1' : 0 ≤ y.node := by omega
        by_cases q2 : ¬ y.node < m
        · have HX : Hid (¬ KidOk m n y) := fun h => q2 h.2.1
          have q2' : (m : Int) ≤ y.node := by omega
          clear q1 q2
          go_wp2
          go_ret
          exact reto_no (NO.out HX.out) (HB6.out _)
        have q2' : y.node < m := by omega
        clear q1 q2
        go_wp2_with fail
        refine (HM.out _ y).mono ?_
        rintro e w3 ⟨r, rfl, hr, hb3⟩
        have HRM : Hid (r = true ↔ ¬ y.must) := hr
        have HB3 : Hid (Below w2.heap.size w2 w3) := HB.out.trans ((below_alloc hb3).mono HB.out.size)
        have HBW3 : Hid (Below w.heap.size w w3) := HBW.out.trans ((below_alloc hb3).mono HBW.out.size)
        have HG4 : Hid (w3.heap[Bn]? = some (.cells #[.int .i64 n.kind, .int .i64 n.tag, .int .i64 n.mode, .slice (some ⟨kb, ko, none⟩) n.kids.length kc] 58 (0, 0))) := block_below HG3.out (below_alloc hb3)
        have HYB : Hid (w3.heap[wr.heap.size]? = some (.cells #[.int .i64 y.node, .bool y.opt, .string y.dflt] 55 (0, 0))) := block_below (heap_alloc_new wr _) hb3
        have f0 : w3.cell? ⟨Bn, 0, none⟩ = some (.int .i64 n.kind) := by simp [World.cell?, HG4.out]
        have y1 : w3.cell? ⟨wr.heap.size, 1, none⟩ = some (.bool y.opt) := by simp [World.cell?, HYB.out]
        have y2 : w3.cell? ⟨wr.heap.size, 2, none⟩ = some (.string y.dflt) := by simp [World.cell?, HYB.out]
        clear hr hb3 k1 k2 k3
        by_cases q3 : ¬ (y.must ∨ n.kind = 10)
        · have HX : Hid (¬ KidOk m n y) := fun h => q3 h.2.2.1
          obtain rfl : r = true := HRM.out.2 (fun q => q3 (.inl q))
          have q4 : (n.kind != 10) = true := by simp; exact fun e => q3 (.inr e)
          clear q3
          go_wp2
          go_ret
          exact reto_no (NO.out HX.out) HBW3.out
        have q3 : y.must ∨ n.kind = 10 := Classical.not_not.1 q3
        have HQ3 : Hid (y.must ∨ n.kind = 10) := q3
        have q5 : r = false ∨ (r = true ∧ (n.kind != 10) = false) := by
          cases r
          · exact .inl rfl
          · right
            refine ⟨rfl, ?_⟩
            rcases q3 with q3 | q3
            · exact absurd q3 (HRM.out.1 rfl)
            · simp [q3]
        clear q3
        by_cases q6 : y.opt = true
        · by_cases q7 : y.dflt.size = 0
          · have e7 := emp_t q7
            have HX : Hid (KidOk m n y) := ⟨q1', q2', HQ3.out, fun h => h.2 q7⟩
            clear q7
            rw [q6] at y1
            clear q6
            rcases q5 with rfl | ⟨rfl, q8⟩
            · go_wp2
              go_roundw
              case rel => exact ⟨i + 1, by omega, by go_num, YES.out HX.out, HB3.out⟩
              case measure => simp [intOf]; omega
            · go_wp2
              go_roundw
              case rel => exact ⟨i + 1, by omega, by go_num, YES.out HX.out, HB3.out⟩
              case measure => simp [intOf]; omega
          · have e7 := emp_f (t := y.dflt) (by omega)
            have HX : Hid (¬ KidOk m n y) := fun h => h.2.2.2 ⟨q6, q7⟩
            clear q7
            rw [q6] at y1
            clear q6
            rcases q5 with rfl | ⟨rfl, q8⟩
            · go_wp2
              go_ret
              exact reto_no (NO.out HX.out) HBW3.out
            · go_wp2
              go_ret
              exact reto_no (NO.out HX.out) HBW3.out
        · have q6' : y.opt = false := by simpa using q6
          have HX : Hid (KidOk m n y) := ⟨q1', q2', HQ3.out, fun h => q6 h.1⟩
          rw [q6'] at y1
          clear q6 q6'
          rcases q5 with rfl | ⟨rfl, q8⟩
          · go_wp2
            go_roundw
            case rel => exact ⟨i + 1, by omega, by go_num, YES.out HX.out, HB3.out⟩
            case measure => simp [intOf]; omega
          · go_wp2
            go_roundw
            case rel => exact ⟨i + 1, by omega, by go_num, YES.out HX.out, HB3.out⟩
            case measure => simp [intOf]; omega
      · have hlt' : (n.kids.length : Int) ≤ i := by omega
        go_wp2
        go_ret
        exact reto_yes ⟨HTG.out.1, HTG.out.2, HC.out, fun j h => HA.out j (by omega)⟩ HBW.out
end Go.Proofs.YtkkicodfpekbgaaGreatDoor

/-! schemas.isElement: what it answers. -/
namespace Go.Proofs.YtkkicodfpekbgaaGreatDoor
set_option linter.unusedSimpArgs false
set_option linter.unusedVariables false
open Go.RowKit

theorem lays_0 {N : Nd} (ht : N.tag < 0) (hm : N.mode = 0) : N.lays = [(0, own N.kind, false)] := by unfold Nd.lays Nd.ownT; rw [if_neg (by omega), if_neg (by omega)]
theorem lays_1 {N : Nd} (ht : 0 ≤ N.tag) (hm : N.mode = 0) : N.lays = [(2, N.tag, false)] := by unfold Nd.lays Nd.ownT; rw [if_neg (by omega), if_pos ⟨hm, ht⟩]
theorem lays_2 {N : Nd} (hm : N.mode = 1) : N.lays = [(2, N.tag, true), (0, own N.kind, false)] := by unfold Nd.lays Nd.ownT; rw [if_pos hm, if_neg (by omega)]
theorem strip1 {f : Int × Int × Bool} {t u : ByteArray} : strip [f] t = some u ↔ ((hd t).1 = 0 ∧ ((hd t).2.c, (hd t).2.n, (hd t).2.b) = f ∧ (hd t).2.s + (hd t).2.l = t.size) ∧ u = t.extract (hd t).2.s.toNat t.size := by
  show (if _ then some _ else none) = _ ↔ _
  by_cases h : (hd t).1 = 0 ∧ ((hd t).2.c, (hd t).2.n, (hd t).2.b) = f ∧ (hd t).2.s + (hd t).2.l = t.size
  · rw [if_pos h]
    exact ⟨fun e => ⟨h, by injection e with e; exact e.symm⟩, fun e => by rw [e.2]⟩
  · rw [if_neg h]
    exact ⟨fun e => (by cases e), fun e => absurd e.1 h⟩
theorem strip2 {f : Int × Int × Bool} {fs : List (Int × Int × Bool)} {t u : ByteArray} : strip (f :: fs) t = some u ↔ ((hd t).1 = 0 ∧ ((hd t).2.c, (hd t).2.n, (hd t).2.b) = f ∧ (hd t).2.s + (hd t).2.l = t.size) ∧ strip fs (t.extract (hd t).2.s.toNat t.size) = some u := by
  show (if _ then _ else none) = _ ↔ _
  by_cases h : (hd t).1 = 0 ∧ ((hd t).2.c, (hd t).2.n, (hd t).2.b) = f ∧ (hd t).2.s + (hd t).2.l = t.size
  · rw [if_pos h]
    exact ⟨fun e => ⟨h, e⟩, fun e => e.2⟩
  · rw [if_neg h]
    exact ⟨fun e => (by cases e), fun e => absurd e.1 h⟩
theorem elem_iff {N : Nd} {t u : ByteArray} (ht : N.tag < 0 → N.mode = 0) (hm : N.mode = 0 ∨ N.mode = 1) : ElemOk N t u ↔ (strip N.lays t = some u ∧ ContentOk N.kind u) := by
  unfold ElemOk NodeAt
  rw [extract_all]
  by_cases h0 : N.tag < 0
  · rw [lays_0 h0 (ht h0), strip1]
    constructor
    · rintro ⟨_, h1, h2, h3⟩
      rcases h3 with ⟨_, b, c, d, e, f⟩ | ⟨a, _⟩ | ⟨a, _⟩
      · exact ⟨⟨⟨h1, by rw [b, c, d], by omega⟩, by rw [e, Nat.zero_add]⟩, f⟩
      · omega
      · omega
    · rintro ⟨⟨⟨h1, h2, h3⟩, h4⟩, h5⟩
      injection h2 with b h2
      injection h2 with c d
      exact ⟨by omega, h1, by omega, .inl ⟨h0, b, c, d, by rw [h4, Nat.zero_add], h5⟩⟩
  · rcases hm with hm | hm
    · rw [lays_1 (by omega) hm, strip1]
      constructor
      · rintro ⟨_, h1, h2, h3⟩
        rcases h3 with ⟨a, _⟩ | ⟨_, _, b, c, d, e, f⟩ | ⟨_, a, _⟩
        · omega
        · exact ⟨⟨⟨h1, by rw [b, c, d], by omega⟩, by rw [e, Nat.zero_add]⟩, f⟩
        · omega
      · rintro ⟨⟨⟨h1, h2, h3⟩, h4⟩, h5⟩
        injection h2 with b h2
        injection h2 with c d
        exact ⟨by omega, h1, by omega, .inr (.inl ⟨by omega, hm, b, c, d, by rw [h4, Nat.zero_add], h5⟩)⟩
    · rw [lays_2 hm, strip2, strip1]
      constructor
      · rintro ⟨_, h1, h2, h3⟩
        rcases h3 with ⟨a, _⟩ | ⟨_, a, _⟩ | ⟨_, _, b, c, d, t', e, f, g, h, i, j, k, l⟩
        · omega
        · omega
        · rw [Nat.zero_add] at e k
          have ho := hd_ok h1
          have hz : t'.size = t.size - (hd t).2.s.toNat := by rw [e]; simp
          rw [← e]
          refine ⟨⟨⟨h1, by rw [b, c, d], by omega⟩, ⟨f, by rw [g, h, i], by omega⟩, ?_⟩, l⟩
          have hmn : min ((hd t).2.s.toNat + (t.size - (hd t).2.s.toNat)) t.size = t.size := by omega
          rw [k, hz, e, ByteArray.extract_extract, hmn]
      · rintro ⟨⟨⟨h1, h2, h3⟩, ⟨f, h4, h6⟩, h7⟩, h5⟩
        injection h2 with b h2
        injection h2 with c d
        injection h4 with g h4
        injection h4 with h i
        have ho := hd_ok h1
        have hz : (t.extract (hd t).2.s.toNat t.size).size = t.size - (hd t).2.s.toNat := by simp
        have hmn : min ((hd t).2.s.toNat + (t.size - (hd t).2.s.toNat)) t.size = t.size := by omega
        refine ⟨by omega, h1, by omega, .inr (.inr ⟨by omega, by omega, b, c, d, t.extract (hd t).2.s.toNat t.size, by rw [Nat.zero_add], f, g, h, i, ?_, ?_, h5⟩)⟩
        · omega
        · rw [h7, hz, ByteArray.extract_extract, Nat.zero_add, hmn]

set_option maxHeartbeats 1000000 in
set_option maxRecDepth 100000 in
theorem isElement_any (n : Nd) (ka : Option Addr) (kc : Nat) (t : ByteArray) (w : World) (sn : Sn → Addr) (hl : Lay w sn) (hT : Tagged n) (hk1 : 1 ≤ n.kind) (hm : t.size ≤ 140737488355328) :
    Calls Tryz.prog 95 #[.agg #[.int .i64 n.kind, .int .i64 n.tag, .int .i64 n.mode, .slice ka n.kids.length kc], .string t] w fun e w' => RetO (n.kind ≤ 9 ∧ ∃ u, ElemOk n t u) w e w' := by
  by_cases h9 : 9 < n.kind
  · have HX : Hid (¬ (n.kind ≤ 9 ∧ ∃ u, ElemOk n t u)) := fun q => by have := q.1; omega
    clear hl hT
    go_enter Tryz.func95, Tryz.ntmps95
    go_wp2
    go_ret
    exact reto_no HX.out ((Below.refl _ _).alloc (Nat.le_refl _) _)
  · have h9' : n.kind ≤ 9 := by omega
    have hT' := hT
    unfold Tagged at hT'
    have HE : Hid (∀ u, ElemOk n t u ↔ (strip n.lays t = some u ∧ ContentOk n.kind u)) := fun u => elem_iff (by omega) (by omega)
    have HW : Hid (∀ wq, Below w.heap.size w wq → Calls Tryz.prog 137 #[.agg #[.int .i64 n.kind, .int .i64 n.tag, .int .i64 n.mode, .slice ka n.kids.length kc], .string t] wq fun e w' => RetI n t wq e w') := fun wq q => within_any n ka kc t wq sn (hl.below q).s (hl.below q).n (by omega) (by omega) h9' (by omega) hm
    have HF : Hid (∀ u wq, u.size ≤ t.size → Below w.heap.size w wq → Calls Tryz.prog 138 #[.int .i64 n.kind, .string u] wq fun e w' => RetW (ContentOk n.kind u) wq e w') := fun u wq hu q => fits_any n.kind u wq (by omega) (hl.below q).d (valids u wq (by omega) (hl.below q).t)
    clear hl hT hT' h9
    go_enter Tryz.func95, Tryz.ntmps95
    go_wp2_with fail
    refine (HW.out _ ((Below.refl _ _).alloc (Nat.le_refl _) _)).mono ?_
    rintro e w1 ⟨u, r, rfl, hr, hb1, hu⟩
    have HB1 : Hid (Below w.heap.size w w1) := below_alloc hb1
    have HG := block_below (heap_alloc_new w (.cells #[.int .i64 n.kind, .int .i64 n.tag, .int .i64 n.mode, .slice ka n.kids.length kc] 58)) hb1
    have q0 : w1.cell? ⟨w.heap.size, 0, none⟩ = some (.int .i64 n.kind) := by simp [World.cell?, HG]
    have hs1 := lt_of_block HG
    clear HG hb1
    cases r
    · have HX : Hid (¬ (n.kind ≤ 9 ∧ ∃ u, ElemOk n t u)) := by
        rcases hr with ⟨e, _⟩ | ⟨_, e⟩
        · cases e
        · rintro ⟨_, u, q⟩
          rw [HE.out, e] at q
          cases q.1
      clear hr
      go_wp2
      go_ret
      exact reto_no HX.out HB1.out
    · have HX : Hid (strip n.lays t = some u) := by
        rcases hr with ⟨_, e⟩ | ⟨e, _⟩
        · exact e
        · cases e
      clear hr
      go_wp2_with fail
      refine (HF.out u _ hu HB1.out).mono ?_
      rintro e w2 ⟨r, rfl, hr, hb2⟩
      have HR : Hid (r = true ↔ (n.kind ≤ 9 ∧ ∃ u, ElemOk n t u)) := by
        refine hr.trans ⟨fun q => ⟨h9', u, (HE.out u).2 ⟨HX.out, q⟩⟩, ?_⟩
        rintro ⟨_, v, q⟩
        rw [HE.out, HX.out] at q
        obtain ⟨q1, q2⟩ := q
        injection q1 with q1
        rw [q1]; exact q2
      have HB2 : Hid (Below w.heap.size w w2) := HB1.out.trans (hb2.mono HB1.out.size)
      clear hr hb2
      go_wp2
      go_ret
      exact reto_iff HR.out HB2.out
end Go.Proofs.YtkkicodfpekbgaaGreatDoor

/-! schemas.defaultsFit: what it answers. -/
namespace Go.Proofs.YtkkicodfpekbgaaGreatDoor
set_option linter.unusedSimpArgs false
set_option linter.unusedVariables false
open Go.RowKit

set_option maxHeartbeats 2000000 in
set_option maxRecDepth 100000 in
theorem defaultsFit_any (s : List Nd) (a : Option Addr) (c : Nat) (n : Nd) (ka : Option Addr) (kc : Nat) (w : World) (sn : Sn → Addr) (hl : Lay w sn) (hs : Sch w a s) (hka : KidsIn w ka n.kids) (hk8 : n.kids.length ≤ 8) (hw : ∀ j, j < n.kids.length → ∃ t : Nat, (kd n j).node = t ∧ t < s.length)
    (hT : ∀ i, i < s.length → Tagged (nd s i)) (hkd : Kinds s) (hn : s.length ≤ 40) (hd : ∀ j, j < n.kids.length → (kd n j).dflt.size ≤ 140737488351232) :
    Calls Tryz.prog 62 #[.slice a s.length c, .agg #[.int .i64 n.kind, .int .i64 n.tag, .int .i64 n.mode, .slice ka n.kids.length kc]] w fun e w' => RetO (DfltOk s n n.kids.length) w e w' := by
  have HKI : Hid (KidsIn w ka n.kids) := hka
  have HKR : Hid (∀ j, j < n.kids.length → ∃ t : Nat, (kd n j).node = t ∧ t < s.length) := hw
  have HS : Hid (Sch w a s) := hs
  have HD : Hid (∀ j, j < n.kids.length → (kd n j).dflt.size ≤ 140737488351232) := hd
  have HIE : Hid (∀ (i : Nat) (ka : Option Addr) (kc : Nat) (t : ByteArray) (wq : World), i < s.length → t.size ≤ 140737488351232 → Below w.heap.size w wq → Calls Tryz.prog 95 #[.agg #[.int .i64 (nd s i).kind, .int .i64 (nd s i).tag, .int .i64 (nd s i).mode, .slice ka (nd s i).kids.length kc], .string t] wq fun e w' => RetO ((nd s i).kind ≤ 9 ∧ ∃ u, ElemOk (nd s i) t u) wq e w') :=
    fun i ka kc t wq hi ht q => isElement_any (nd s i) ka kc t wq sn (hl.below q) (hT i hi) (hkd i hi).1 (by omega)
  clear hka hw hs hd hl hT hkd
  go_enter Tryz.func62, Tryz.ntmps62
  go_wp2
  have HB0 : Hid (Below w.heap.size w (w.alloc (.cells #[.int .i64 n.kind, .int .i64 n.tag, .int .i64 n.mode, .slice ka n.kids.length kc] 58))) := (Below.refl _ _).alloc (Nat.le_refl _) _
  go_loopw [10] (fun vi wr => ∃ i : Nat, i ≤ n.kids.length ∧ vi = .int .i64 i ∧ DfltOk s n i ∧ Below w.heap.size w wr) (fun vi _ => n.kids.length - (intOf vi).toNat)
  case atStart => exact ⟨0, Nat.zero_le _, rfl, fun _ h => absurd h (Nat.not_lt_zero _), HB0.out⟩
  case round =>
    obtain ⟨i, hi, rfl, hall, hbr⟩ := hrel
    have HA : Hid (DfltOk s n i) := hall
    have HB : Hid (Below w.heap.size w wr) := hbr
    clear hall hbr
    by_cases hlt : i < n.kids.length
    · have hlt' : (i : Int) < n.kids.length := by omega
      obtain ⟨kb, ko, rfl, kcl⟩ := HKI.out i hlt
      obtain ⟨ty, yo, yd, hy, hty⟩ := kid_at HKR.out hlt
      have HY : Hid (kd n i = ⟨ty, yo, yd⟩) := hy
      have hkcl : KidCells w kb (ko + i * 3) ⟨ty, yo, yd⟩ := by rw [← hy]; exact kcl
      have hds : yd.size ≤ 140737488351232 := by have := HD.out i hlt; rw [hy] at this; exact this
      obtain ⟨k1, k2, k3⟩ := hkcl.below HB.out
      simp only at k1 k2 k3
      have HB2 : Hid (Below w.heap.size w (wr.alloc (.cells #[.int .i64 ty, .bool yo, .string yd] 55))) := HB.out.alloc HB.out.size _
      obtain ⟨b, o, ka2, kc2, rfl, nc, _⟩ := HS.out ty hty
      have X0 : ∀ x : Ext (wr.alloc (.cells #[.int .i64 ty, .bool yo, .string yd] 55)), x.v.cell? ⟨wr.heap.size, 0, none⟩ = some (.int .i64 ty) := fun x => x.new rfl
      have X2 : ∀ x : Ext (wr.alloc (.cells #[.int .i64 ty, .bool yo, .string yd] 55)), x.v.cell? ⟨wr.heap.size, 2, none⟩ = some (.string yd) := fun x => x.new rfl
      have X3 : ∀ x : Ext (wr.alloc (.cells #[.int .i64 ty, .bool yo, .string yd] 55)), x.v.cell? ⟨b, o + ty * 4, none⟩ = some (.int .i64 (nd s ty).kind) := fun x => Ext.far HB2.out x nc.kind
      have X4 : ∀ x : Ext (wr.alloc (.cells #[.int .i64 ty, .bool yo, .string yd] 55)), x.v.cell? ⟨b, o + ty * 4 + 1, none⟩ = some (.int .i64 (nd s ty).tag) := fun x => Ext.far HB2.out x nc.tag
      have X5 : ∀ x : Ext (wr.alloc (.cells #[.int .i64 ty, .bool yo, .string yd] 55)), x.v.cell? ⟨b, o + ty * 4 + 2, none⟩ = some (.int .i64 (nd s ty).mode) := fun x => Ext.far HB2.out x nc.mode
      have X6 : ∀ x : Ext (wr.alloc (.cells #[.int .i64 ty, .bool yo, .string yd] 55)), x.v.cell? ⟨b, o + ty * 4 + 3, none⟩ = some (.slice ka2 (nd s ty).kids.length kc2) := fun x => Ext.far HB2.out x nc.kids
      obtain ⟨r, hr⟩ := bool_of ((nd s ty).kind ≤ 9 ∧ ∃ u, ElemOk (nd s ty) yd u)
      have HR : Hid (r = true ↔ ((nd s ty).kind ≤ 9 ∧ ∃ u, ElemOk (nd s ty) yd u)) := hr
      have HM : Hid (∀ x : Ext (wr.alloc (.cells #[.int .i64 ty, .bool yo, .string yd] 55)), Calls Tryz.prog 95 #[.agg #[.int .i64 (nd s ty).kind, .int .i64 (nd s ty).tag, .int .i64 (nd s ty).mode, .slice ka2 (nd s ty).kids.length kc2], .string yd] x.v fun e w'' => e = .returned (.bool r) ∧ ∃ y : Ext (wr.alloc (.cells #[.int .i64 ty, .bool yo, .string yd] 55)), w'' = y.v) := fun x => Ext.callsR hr (HIE.out ty ka2 kc2 yd x.v hty hds (Ext.bel HB2.out x))
      have hty' : (ty : Int) < s.length := by omega
      have STEP : Hid (yd.size = 0 ∨ ((nd s ty).kind ≤ 9 ∧ ∃ u, ElemOk (nd s ty) yd u) → DfltOk s n (i + 1)) := fun h j hj => by
        by_cases e : j = i
        · subst e; rw [HY.out]; simpa using h
        · exact HA.out j (by omega)
      have BADD : Hid (0 < yd.size → ¬ ((nd s ty).kind ≤ 9 ∧ ∃ u, ElemOk (nd s ty) yd u) → ¬ DfltOk s n n.kids.length) := fun h1 h2 q => by
        have := q i hlt
        rw [HY.out] at this
        simp only [Int.toNat_natCast] at this
        rcases this with h | h
        · omega
        · exact h2 h
      clear hy kcl hkcl nc hr
      by_cases hz : yd.size = 0
      · have e0 := emp_t hz
        have HZ : Hid (yd.size = 0) := hz
        clear hz
        go_wp2_with fail
        (have ne := ext_ne; refine wp_region_ext (by kernel_rfl) (by kernel_rfl) ?_; (repeat (first | go_big_quiet_skip | (go_big_quiet_want; go_big_quiet_op; first | go_big_quiet_on | (apply Exists.intro; refine ⟨fun x => ?_, ?_⟩; (· (exact HM.out x)); go_big_quiet_on)))); refine nil_ext ?_)
        intro w5 hb5
        have HB5 : Hid (Below w.heap.size w w5) := HB2.out.trans (hb5.mono HB2.out.size)
        clear X0 X2 X3 X4 X5 X6 hb5 HM
        go_wp2
        go_roundw
        case rel => exact ⟨i + 1, by omega, by go_num, STEP.out (.inl HZ.out), HB5.out⟩
        case measure => simp [intOf]; omega
      · have e0 := emp_f (t := yd) (by omega)
        have HZ : Hid (0 < yd.size) := by show 0 < yd.size; omega
        clear hz
        go_wp2_with fail
        (have ne := ext_ne; refine wp_region_ext (by kernel_rfl) (by kernel_rfl) ?_; (repeat (first | go_big_quiet_skip | (go_big_quiet_want; go_big_quiet_op; first | go_big_quiet_on | (apply Exists.intro; refine ⟨fun x => ?_, ?_⟩; (· (exact HM.out x)); go_big_quiet_on)))); refine nil_ext ?_)
        intro w5 hb5
        have HB5 : Hid (Below w.heap.size w w5) := HB2.out.trans (hb5.mono HB2.out.size)
        clear X0 X2 X3 X4 X5 X6 hb5 HM
        cases r
        · go_wp2
          go_ret
          exact reto_no (BADD.out HZ.out (fun q => Bool.noConfusion (HR.out.2 q))) HB5.out
        · go_wp2
          go_roundw
          case rel => exact ⟨i + 1, by omega, by go_num, STEP.out (.inr (HR.out.1 rfl)), HB5.out⟩
          case measure => simp [intOf]; omega
    · have hlt' : (n.kids.length : Int) ≤ i := by omega
      have HI : Hid (i = n.kids.length) := by show i = _; omega
      go_wp2
      go_ret
      exact reto_yes (HI.out ▸ HA.out) HB.out
end Go.Proofs.YtkkicodfpekbgaaGreatDoor

/-! schemas.Check: what it answers. -/
namespace Go.Proofs.YtkkicodfpekbgaaGreatDoor
set_option linter.unusedSimpArgs false
set_option linter.unusedVariables false
open Go.RowKit

/-- What Check answers. -/
def RetK (s : List Nd) (za : Addr) (w : World) (e : Ending) (w' : World) : Prop := Below w.heap.size w w' ∧ ((e = .returned .nilIface ∧ RightP s) ∨ ((∃ p : Int, e = .returned (fault p za)) ∧ ¬ RightP s))

theorem kidsOf {s : List Nd} (h : ∀ i, i < s.length → Alone s.length (nd s i)) {i : Nat} (hi : i < s.length) : ∀ j, j < (nd s i).kids.length → ∃ t : Nat, (kd (nd s i) j).node = t ∧ t < s.length := fun j hj => by
  have q := (h i hi).2.2.2 j hj
  have q1 := q.1
  have q2 := q.2.1
  exact ⟨(kd (nd s i) j).node.toNat, by omega, by omega⟩
theorem taggedOf {s : List Nd} (h : ∀ i, i < s.length → Alone s.length (nd s i)) : ∀ i, i < s.length → Tagged (nd s i) := fun i hi => ((tagged_iff _).1 ⟨(h i hi).1, (h i hi).2.1⟩).2.2
theorem dfltOf {s : List Nd} (h : SchOk s) {i : Nat} (hi : i < s.length) : ∀ j, j < (nd s i).kids.length → (kd (nd s i) j).dflt.size ≤ 140737488351232 := fun j hj => by
  refine h i hi _ ?_
  unfold kd
  rw [List.getD_eq_getElem?_getD, List.getElem?_eq_getElem hj]
  exact List.getElem_mem hj
theorem plain_iff {s : List Nd} (h : ∀ i, i < s.length → Alone s.length (nd s i)) (hb : ∀ i, i < s.length → ¬ Back s i) {i : Nat} (hi : i < s.length) :
    PlainAt s (nd s i) ↔ ((nd s i).kind = 10 ∨ (nd s i).kind = 13 → Told (Common s) (nd s i)) := by
  have hw := within_of h
  have hlf : ∀ i, i < s.length → ∃ j, Leaf s i j := fun i hi => leaf_ex hw (fun i hi ho e => by
    have h1 := (h i hi).2.2.1
    have h2 := ho.1
    unfold Count at h1
    rw [if_neg (by omega), if_neg (by omega), if_pos h2, e] at h1
    have := h1.1
    simp at this) hb hi
  have ht : ∀ j, j < s.length → (nd s j).tag ≤ 30 := fun j hj => (taggedOf h j hj).2.1
  unfold PlainAt
  refine forall_congr' fun _ => (told_congr (m := s.length) (fun j hj => ?_) fun i k h1 h2 => (common_iff ht hw h1 h2 (hlf i h1) (hlf k h2)).symm)
  obtain ⟨t, e, q⟩ := kidsOf h hi j hj
  rw [e]; simpa using q

set_option maxHeartbeats 4000000 in
set_option maxRecDepth 100000 in
theorem check_any (s : List Nd) (a : Option Addr) (c : Nat) (w : World) (sn : Sn → Addr) (za : Addr) (hl : Lay w sn) (hz : LayZ w sn za) (hs : Sch w a s) (hok : SchOk s) (hn0 : s.length ≤ 140737488351232) :
    Calls Tryz.prog 35 #[.slice a s.length c] w fun e w' => RetK s za w e w' := by
  have HS : Hid (Sch w a s) := hs
  have HOK : Hid (SchOk s) := hok
  have HL : Hid (Lay w sn) := hl
  have HZ : Hid (∀ wq, Below w.heap.size w wq → wq.cell? ⟨12, 0, none⟩ = some (.iface 291 (.pointer (some za)))) := fun wq q => (hz.below q).c
  have HAT : Hid (∀ (p : Int) (wq : World), Calls Tryz.prog 60 #[.int .i64 p, .iface 291 (.pointer (some za))] wq fun e w' => e = .returned (fault p za) ∧ w' = wq) := fun p wq => at_any p za wq
  have NO : Hid (∀ (p : Int) (wq : World), ¬ RightP s → Below w.heap.size w wq → RetK s za w (.returned (fault p za)) wq) := fun p wq h q => ⟨q, .inr ⟨⟨p, rfl⟩, h⟩⟩
  have z0 := HZ.out w (Below.refl _ _)
  clear hs hok hl hz
  by_cases hb : s.length < 1
  · have hb' : (s.length : Int) < 1 := by omega
    have HX : Hid (¬ RightP s) := fun h => by have := h.1; omega
    clear hb
    go_enter Tryz.func35, Tryz.ntmps35
    go_wp2_with fail
    refine (HAT.out _ _).mono ?_
    rintro e w1 ⟨rfl, rfl⟩
    unfold fault
    go_wp2
    go_ret
    exact NO.out _ _ HX.out (Below.refl _ _)
  by_cases hb2 : 40 < s.length
  · have hb' : (40 : Int) < s.length := by omega
    have hb1' : (1 : Int) ≤ s.length := by omega
    have HX : Hid (¬ RightP s) := fun h => by have := h.2.1; omega
    clear hb hb2
    go_enter Tryz.func35, Tryz.ntmps35
    go_wp2_with fail
    refine (HAT.out _ _).mono ?_
    rintro e w1 ⟨rfl, rfl⟩
    unfold fault
    go_wp2
    go_ret
    exact NO.out _ _ HX.out (Below.refl _ _)
  have h1 : 1 ≤ s.length := by omega
  have h40 : s.length ≤ 40 := by omega
  have h1' : (1 : Int) ≤ s.length := by omega
  have h40' : (s.length : Int) ≤ 40 := by omega
  clear hb hb2 hn0 z0
  go_enter Tryz.func35, Tryz.ntmps35
  go_wp2
  go_loopw [22] (fun vi wr => ∃ i : Nat, i ≤ s.length ∧ vi = .int .i64 i ∧ (∀ j, j < i → Alone s.length (nd s j)) ∧ Below w.heap.size w wr) (fun vi _ => s.length - (intOf vi).toNat)
  case atStart => exact ⟨0, Nat.zero_le _, rfl, fun _ h => absurd h (Nat.not_lt_zero _), Below.refl _ _⟩
  case round =>
    obtain ⟨i, hi, rfl, hall, hbr⟩ := hrel
    have HA : Hid (∀ j, j < i → Alone s.length (nd s j)) := hall
    have HB : Hid (Below w.heap.size w wr) := hbr
    clear hall hbr
    by_cases hlt : i < s.length
    · have hlt' : (i : Int) < s.length := by omega
      obtain ⟨b, o, ka, kc, rfl, nc, kl, km, ks⟩ := HS.out i hlt
      obtain ⟨n1, n2, n3, n4⟩ := nc.below HB.out
      have HB2 : Hid (Below w.heap.size w (wr.alloc (.cells #[.int .i64 (nd s i).kind, .int .i64 (nd s i).tag, .int .i64 (nd s i).mode, .slice ka (nd s i).kids.length kc] 58))) := HB.out.alloc HB.out.size _
      have HC : Hid (∀ wq, Below w.heap.size w wq → Calls Tryz.prog 61 #[.agg #[.int .i64 (nd s i).kind, .int .i64 (nd s i).tag, .int .i64 (nd s i).mode, .slice ka (nd s i).kids.length kc], .int .i64 s.length] wq fun e w' => RetO (Alone s.length (nd s i)) wq e w') := fun wq q => isShaped_any s.length (nd s i) ka kc wq (ks.below q) (by omega)
      clear ks nc
      go_wp2_with fail
      refine (HC.out _ HB2.out).mono ?_
      rintro e w1 ⟨r, rfl, hr, hb1⟩
      have HR : Hid (r = true ↔ Alone s.length (nd s i)) := hr
      have HB1 : Hid (Below w.heap.size w w1) := HB2.out.trans (hb1.mono HB2.out.size)
      have z1 := HZ.out w1 HB1.out
      clear hr hb1 n1 n2 n3 n4 HC
      cases r
      · have HX : Hid (¬ RightP s) := fun h => Bool.noConfusion (HR.out.2 (h.2.2.1 i hlt))
        go_wp2_with fail
        refine (HAT.out _ _).mono ?_
        rintro e w2 ⟨rfl, rfl⟩
        unfold fault
        go_wp2
        go_ret
        exact NO.out _ _ HX.out HB1.out
      · go_wp2
        go_roundw
        case rel => exact ⟨i + 1, by omega, by go_num, fun j hj => by
          by_cases e : j = i
          · subst e; exact HR.out.1 trivial
          · exact HA.out j (by omega), HB1.out⟩
        case measure => simp [intOf]; omega
    · have hlt' : (s.length : Int) ≤ i := by omega
      obtain rfl : i = s.length := by omega
      go_wp2
      go_loopw [38] (fun vi wr => ∃ i : Nat, i ≤ s.length ∧ vi = .int .i64 i ∧ (∀ j, j < i → DfltOk s (nd s j) (nd s j).kids.length ∧ ¬ Back s j) ∧ Below w.heap.size w wr) (fun vi _ => s.length - (intOf vi).toNat)
      case atStart => exact ⟨0, Nat.zero_le _, rfl, fun _ h => absurd h (Nat.not_lt_zero _), HB.out⟩
      case round =>
        obtain ⟨i, hi, rfl, hall, hbr⟩ := hrel
        have HBK : Hid (∀ j, j < i → DfltOk s (nd s j) (nd s j).kids.length ∧ ¬ Back s j) := hall
        have HB2 : Hid (Below w.heap.size w wr) := hbr
        clear hall hbr
        by_cases hlt : i < s.length
        · have hlt' : (i : Int) < s.length := by omega
          obtain ⟨b, o, ka, kc, rfl, nc, kl, km, ks⟩ := HS.out i hlt
          obtain ⟨n1, n2, n3, n4⟩ := nc.below HB2.out
          have HB3 : Hid (Below w.heap.size w (wr.alloc (.cells #[.int .i64 (nd s i).kind, .int .i64 (nd s i).tag, .int .i64 (nd s i).mode, .slice ka (nd s i).kids.length kc] 58))) := HB2.out.alloc HB2.out.size _
          have HD : Hid (∀ wq, Below w.heap.size w wq → Calls Tryz.prog 62 #[.slice (some ⟨b, o, none⟩) s.length c, .agg #[.int .i64 (nd s i).kind, .int .i64 (nd s i).tag, .int .i64 (nd s i).mode, .slice ka (nd s i).kids.length kc]] wq fun e w' => RetO (DfltOk s (nd s i) (nd s i).kids.length) wq e w') := fun wq q => defaultsFit_any s _ c (nd s i) ka kc wq sn (HL.out.below q) (HS.out.below q) (ks.below q) (count8 HA.out hlt) (kidsOf HA.out hlt) (taggedOf HA.out) (kinds_of HA.out) h40 (dfltOf HOK.out hlt)
          have HC : Hid (∀ wq, Below w.heap.size w wq → Calls Tryz.prog 63 #[.slice (some ⟨b, o, none⟩) s.length c, .int .i64 i] wq fun e w' => RetO (Back s i) wq e w') := fun wq q => comesBack_any s _ c i wq (HS.out.below q) (within_of HA.out) (fun j hj => (taggedOf HA.out j hj).1) hlt h40
          clear ks nc
          go_wp2_with fail
          refine (HD.out _ HB3.out).mono ?_
          rintro e w1 ⟨r, rfl, hr, hb1⟩
          have HR : Hid (r = true ↔ DfltOk s (nd s i) (nd s i).kids.length) := hr
          have HB1 : Hid (Below w.heap.size w w1) := HB3.out.trans (hb1.mono HB3.out.size)
          have z1 := HZ.out w1 HB1.out
          clear hr hb1 n1 n2 n3 n4 HD
          cases r
          · have HX : Hid (¬ RightP s) := fun h => Bool.noConfusion (HR.out.2 (h.2.2.2.2 i hlt).2)
            go_wp2_with fail
            refine (HAT.out _ _).mono ?_
            rintro e w2 ⟨rfl, rfl⟩
            unfold fault
            go_wp2
            go_ret
            exact NO.out _ _ HX.out HB1.out
          · have HDF : Hid (DfltOk s (nd s i) (nd s i).kids.length) := HR.out.1 rfl
            go_wp2_with fail
            refine (HC.out _ HB1.out).mono ?_
            rintro e w2 ⟨r, rfl, hr, hb2⟩
            have HR2 : Hid (r = true ↔ Back s i) := hr
            have HB4 : Hid (Below w.heap.size w w2) := HB1.out.trans (hb2.mono HB1.out.size)
            have z2 := HZ.out w2 HB4.out
            clear hr hb2 HC
            cases r
            · go_wp2
              go_roundw
              case rel => exact ⟨i + 1, by omega, by go_num, fun j hj => by
                by_cases e : j = i
                · subst e; exact ⟨HDF.out, fun q => Bool.noConfusion (HR2.out.2 q)⟩
                · exact HBK.out j (by omega), HB4.out⟩
              case measure => simp [intOf]; omega
            · have HX : Hid (¬ RightP s) := fun h => h.2.2.2.1 i hlt (HR2.out.1 rfl)
              go_wp2_with fail
              refine (HAT.out _ _).mono ?_
              rintro e w3 ⟨rfl, rfl⟩
              unfold fault
              go_wp2
              go_ret
              exact NO.out _ _ HX.out HB4.out
        · have hlt' : (s.length : Int) ≤ i := by omega
          obtain rfl : i = s.length := by omega
          have HC : Hid (Calls Tryz.prog 64 #[.slice a s.length c] wr fun e w' => e = .returned (.slice (some ⟨wr.heap.size, 0, none⟩) s.length s.length) ∧ AbW s wr w' s.length) := allBeginnings_any s a c wr (HS.out.below HB2.out) (within_of HA.out) (fun j hj => (taggedOf HA.out j hj).1) (kinds_of HA.out) (HL.out.below HB2.out).n h40
          go_wp2_with fail
          refine HC.out.mono ?_
          rintro e w1 ⟨rfl, hab⟩
          obtain ⟨gb, hgb⟩ : ∃ gb, gb = wr.heap.size := ⟨_, rfl⟩
          have HAB : Hid (AbR w1 gb s) := by rw [hgb]; exact hab.read
          have HB3 : Hid (Below w.heap.size w w1) := HB2.out.trans (hab.bel.mono HB2.out.size)
          rw [← hgb]
          clear hab hgb HC
          go_wp2
          go_loopw [60] (fun vi wr => ∃ i : Nat, i ≤ s.length ∧ vi = .int .i64 i ∧ (∀ j, j < i → PlainAt s (nd s j)) ∧ Below w1.heap.size w1 wr) (fun vi _ => s.length - (intOf vi).toNat)
          case atStart => exact ⟨0, Nat.zero_le _, rfl, fun _ h => absurd h (Nat.not_lt_zero _), Below.refl _ _⟩
          case round =>
            obtain ⟨i, hi, rfl, hall, hbr⟩ := hrel
            have HPL : Hid (∀ j, j < i → PlainAt s (nd s j)) := hall
            have HB4 : Hid (Below w1.heap.size w1 wr) := hbr
            have HB5 : Hid (Below w.heap.size w wr) := HB3.out.trans (hbr.mono HB3.out.size)
            clear hall hbr
            by_cases hlt : i < s.length
            · have hlt' : (i : Int) < s.length := by omega
              obtain ⟨b, o, ka, kc, rfl, nc, kl, km, ks⟩ := HS.out i hlt
              obtain ⟨n1, n2, n3, n4⟩ := nc.below HB5.out
              have HB6 : Hid (Below w1.heap.size w1 (wr.alloc (.cells #[.int .i64 (nd s i).kind, .int .i64 (nd s i).tag, .int .i64 (nd s i).mode, .slice ka (nd s i).kids.length kc] 58))) := HB4.out.alloc HB4.out.size _
              have HP : Hid (∀ wq, Below w1.heap.size w1 wq → Calls Tryz.prog 65 #[.agg #[.int .i64 (nd s i).kind, .int .i64 (nd s i).tag, .int .i64 (nd s i).mode, .slice ka (nd s i).kids.length kc], .slice (some ⟨gb, 0, none⟩) s.length s.length] wq fun e w' => RetO (PlainAt s (nd s i)) wq e w') := fun wq q => isPlain_any s (nd s i) ka kc gb wq (ks.below (HB3.out.trans (q.mono HB3.out.size))) kl (count8 HA.out hlt) (kidsOf HA.out hlt) (HAB.out.below q) h40
              clear ks nc
              go_wp2_with fail
              refine (HP.out _ HB6.out).mono ?_
              rintro e w2 ⟨r, rfl, hr, hb2⟩
              have HR : Hid (r = true ↔ PlainAt s (nd s i)) := hr
              have HB7 : Hid (Below w1.heap.size w1 w2) := HB6.out.trans (hb2.mono HB6.out.size)
              have HB8 : Hid (Below w.heap.size w w2) := HB3.out.trans (HB7.out.mono HB3.out.size)
              have z2 := HZ.out w2 HB8.out
              clear hr hb2 n1 n2 n3 n4 HP
              cases r
              · have HX : Hid (¬ RightP s) := fun h => Bool.noConfusion (HR.out.2 ((plain_iff HA.out (fun j hj => (HBK.out j hj).2) hlt).2 (h.2.2.2.2 i hlt).1))
                go_wp2_with fail
                refine (HAT.out _ _).mono ?_
                rintro e w3 ⟨rfl, rfl⟩
                unfold fault
                go_wp2
                go_ret
                exact NO.out _ _ HX.out HB8.out
              · go_wp2
                go_roundw
                case rel => exact ⟨i + 1, by omega, by go_num, fun j hj => by
                  by_cases e : j = i
                  · subst e; exact HR.out.1 trivial
                  · exact HPL.out j (by omega), HB7.out⟩
                case measure => simp [intOf]; omega
            · have hlt' : (s.length : Int) ≤ i := by omega
              obtain rfl : i = s.length := by omega
              go_wp2
              go_ret
              exact ⟨HB5.out, .inl ⟨rfl, h1, h40, HA.out, fun j hj => (HBK.out j hj).2, fun j hj => ⟨(plain_iff HA.out (fun j hj => (HBK.out j hj).2) hj).1 (HPL.out j hj), (HBK.out j hj).1⟩⟩⟩
end Go.Proofs.YtkkicodfpekbgaaGreatDoor

/-! Small things that the reader's and the writer's texts both need: rows, the fine schema, schemas.Default, schemas.Own, schemas.CheckRoot. -/
namespace Go.Proofs.YtkkicodfpekbgaaGreatDoor
set_option linter.unusedSimpArgs false
set_option linter.unusedVariables false
open Go.RowKit

theorem RightP.fine {s : List Nd} (h : RightP s) : Fine s where
  within := within_of h.2.2.1
  back := h.2.2.2.1
  len := h.2.1
  tagged := fun i hi hk ht hm => by have := (h.2.2.1 i hi).2.1; unfold Bad2 at this; omega
  one := fun i hi hk => by
    have := (h.2.2.1 i hi).2.2.1
    unfold Count at this
    rw [if_neg (by omega), if_pos hk] at this
    exact this
  eight := fun i hi => by
    have := (h.2.2.1 i hi).2.2.1
    unfold Count at this
    repeat' split at this
    all_goals omega
theorem cell_of_row {w : World} {k : Nat} {A : Array Value} {T : TypeId} (h : w.heap[k]? = some (.cells A T (0, 0))) {i : Nat} {u : Value} (hi : A[i]? = some u) : w.cell? ⟨k, i, none⟩ = some u := by
  simp [World.cell?, h, hi]
theorem drop_kid {n : Nd} {j : Nat} (h : j < n.kids.length) : n.kids.drop j = kd n j :: n.kids.drop (j + 1) := by
  rw [List.drop_eq_getElem_cons h]
  congr 1
  unfold kd
  rw [List.getD_eq_getElem?_getD, List.getElem?_eq_getElem h]; rfl
theorem hide {p : Prop} (h : p) : Hid p := h
theorem elem_one {N : Nd} {t u u' : ByteArray} (h : ElemOk N t u) (h' : ElemOk N t u') : u = u' := by
  unfold ElemOk NodeAt at h h'
  obtain ⟨_, _, _, h⟩ := h
  obtain ⟨_, _, _, h'⟩ := h'
  rcases h with ⟨a1, _, _, _, a2, _⟩ | ⟨a1, b1, _, _, _, a2, _⟩ | ⟨a1, b1, _, _, _, t1, e1, _, _, _, _, _, a2, _⟩ <;> rcases h' with ⟨c1, _, _, _, c2, _⟩ | ⟨c1, d1, _, _, _, c2, _⟩ | ⟨c1, d1, _, _, _, t2, e2, _, _, _, _, _, c2, _⟩
  all_goals first | (rw [a2, c2]; done) | (exfalso; omega) | (subst e1 e2; rw [a2, c2])
set_option maxHeartbeats 1000000 in
set_option maxRecDepth 100000 in
theorem own0_all (k : Int) (h : 0 ≤ k) (w : World) :
    Calls Tryz.prog 103 #[.int .i64 k] w fun e w' => e = .returned (.int .i64 (own0 k)) ∧ Below w.heap.size w w' := by
  by_cases h12 : 12 < k
  · have HE : Hid (own0 k = 0) := by show own0 k = 0; unfold own0; rw [if_pos h12]
    go_enter Tryz.func103, Tryz.ntmps103
    go_wp2
    go_ret
    exact ⟨by rw [HE.out]; rfl, Below.refl _ _⟩
  · have e : own0 k = own k := by unfold own0; rw [if_neg h12]
    rw [e]
    exact own0_any k h (by omega) w
theorem frozen_row {w : World} {k : Nat} {A : Array Value} {T : TypeId} (h : w.heap[k]? = some (.cells A T (0, 0))) {i : Nat} : w.frozen? ⟨k, i, none⟩ = false := by simp [World.frozen?, h]
/-- The error of a number. -/
def snOf (k : Int) : Sn := if k = 3 then .End else if k = 4 then .Tag else if k = 5 then .Length else if k = 6 then .Value else if k = 7 then .More else if k = 8 then .Order else if k = 9 then .Default else .Deep
theorem hd_c345 (t : ByteArray) : (hd t).1 = 0 ∨ (hd t).1 = 3 ∨ (hd t).1 = 4 ∨ (hd t).1 = 5 := by
  unfold hd
  repeat' split
  all_goals simp
  unfold rl
  repeat' split
  all_goals simp
theorem errAt_of {t : ByteArray} (x : Int) (sn : Sn → Addr) (h : (hd t).1 ≠ 0) : errAt x sn (hd t).1 = fault x (sn (snOf (hd t).1)) := by
  rcases hd_c345 t with e | e | e | e
  · exact absurd e h
  · rw [e]; rfl
  · rw [e]; rfl
  · rw [e]; rfl
theorem tagged_of {s : List Nd} (h : RightP s) {i : Nat} (hi : i < s.length) : 1 ≤ (nd s i).kind ∧ (nd s i).kind ≤ 14 ∧ Tagged (nd s i) := (tagged_iff _).1 ⟨(h.2.2.1 i hi).1, (h.2.2.1 i hi).2.1⟩
set_option maxHeartbeats 2000000 in
set_option maxRecDepth 100000 in
theorem default_any (s : List Nd) (a : Option Addr) (c t : Nat) (ko : Bool) (yd u : ByteArray) (w : World) (sn : Sn → Addr) (hl : Lay w sn) (hs : Sch w a s) (hr : RightP s) (ht : t < s.length) (hk9 : (nd s t).kind ≤ 9) (hu : ElemOk (nd s t) yd u) (hz : yd.size ≤ 140737488355328) :
    Calls Tryz.prog 202 #[.slice a s.length c, .agg #[.int .i64 t, .bool ko, .string yd]] w fun e w' => e = .returned (.agg #[.int .i64 (nd s t).kind, .string u, .int .i64 0, .int .i64 0]) ∧ Below w.heap.size w w' := by
  obtain ⟨hk1, _, hT1, hT2, hT3, hT4, hT5⟩ := tagged_of hr ht
  obtain ⟨b, o, ka, kc, rfl, ncl, _⟩ := hs t ht
  obtain ⟨N, hN⟩ : ∃ N, nd s t = N := ⟨_, rfl⟩
  rw [hN] at ncl hk1 hk9 hT3 hT4 hT5 hu hT1 hT2 ⊢
  have hmode : N.mode = 0 ∨ N.mode = 1 := by omega
  have htm : N.tag < 0 → N.mode = 0 := fun q => hT3 (by omega)
  have hst : strip N.lays yd = some u := ((elem_iff htm hmode).1 hu).1
  have HW : Hid (∀ wq, Below w.heap.size w wq → Calls Tryz.prog 137 #[.agg #[.int .i64 N.kind, .int .i64 N.tag, .int .i64 N.mode, .slice ka N.kids.length kc], .string yd] wq fun e w' => ∃ r, e = .returned (.tuple #[.string u, .bool r]) ∧ Below wq.heap.size wq w') := fun wq q =>
    (within_any N ka kc yd wq sn (hl.below q).s (hl.below q).n (by omega) (by omega) hk9 (by omega) hz).mono fun e w' ⟨u', r, he, hc, hb, _⟩ => by
      rcases hc with ⟨_, hc⟩ | ⟨_, hc⟩
      · rw [hst] at hc; injection hc with hc; subst hc; exact ⟨r, he, hb⟩
      · rw [hst] at hc; cases hc
  obtain ⟨n0, n1, n2, n3⟩ := ncl
  have hbl : b < w.heap.size := lt_of_cell n0
  have ht' : (t : Int) < s.length := by omega
  have HA : Hid (∀ A B C, Below w.heap.size w (((w.alloc A).alloc B).alloc C)) := fun A B C => (((Below.refl w.heap.size w).alloc (Nat.le_refl _) A).alloc (by simp) B).alloc (by simp; omega) C
  clear hl hs hr hu hst hN hT1 hT2 hT3 hT4 hT5 htm hmode hk1 hk9 hz ht
  go_enter Tryz.func202, Tryz.ntmps202
  go_wp2_with fail
  refine (HW.out _ (HA.out _ _ _)).mono ?_
  rintro e w1 ⟨r, rfl, hb1⟩
  have HB1 : Hid (Below w.heap.size w w1) := (HA.out _ _ _).trans (hb1.mono (HA.out _ _ _).size)
  have hZ : w1.heap[w.heap.size + 1]? = some (.cells #[.int .i64 0, .string ⟨#[]⟩, .int .i64 0, .int .i64 0] 60 (0, 0)) := block_below (block_below (by simpa using heap_alloc_new (w.alloc _) _) ((Below.refl _ _).alloc (Nat.le_refl _) _)) hb1
  have hK : w1.heap[w.heap.size + 1 + 1]? = some (.cells #[.int .i64 N.kind, .int .i64 N.tag, .int .i64 N.mode, .slice ka N.kids.length kc] 58 (0, 0)) := block_below (by simpa using heap_alloc_new ((w.alloc _).alloc _) _) hb1
  have z0 : w1.cell? ⟨w.heap.size + 1, 0, none⟩ = some (.int .i64 0) := cell_of_row hZ rfl
  have z1 : w1.cell? ⟨w.heap.size + 1, 1, none⟩ = some (.string ⟨#[]⟩) := cell_of_row hZ rfl
  have z2 : w1.cell? ⟨w.heap.size + 1, 2, none⟩ = some (.int .i64 0) := cell_of_row hZ rfl
  have z3 : w1.cell? ⟨w.heap.size + 1, 3, none⟩ = some (.int .i64 0) := cell_of_row hZ rfl
  have f0 : w1.frozen? ⟨w.heap.size + 1, 0, none⟩ = false := frozen_row hZ
  have f1 : w1.frozen? ⟨w.heap.size + 1, 1, none⟩ = false := frozen_row hZ
  have f2 : w1.frozen? ⟨w.heap.size + 1, 2, none⟩ = false := frozen_row hZ
  have f3 : w1.frozen? ⟨w.heap.size + 1, 3, none⟩ = false := frozen_row hZ
  have k0 : w1.cell? ⟨w.heap.size + 1 + 1, 0, none⟩ = some (.int .i64 N.kind) := cell_of_row hK rfl
  have hl1 : w.heap.size + 1 + 1 < w1.heap.size := lt_of_cell k0
  clear hb1 hZ hK n0 n1 n2 n3 hbl
  go_wp2_with fail
  refine bodyPost_ret (v := .agg #[.int .i64 N.kind, .string u, .int .i64 0, .int .i64 0]) (by simp [results, Tryz.results202, go_sem, z0, z1, z2, z3]) rfl ⟨rfl, ?_⟩
  exact (((HB1.out.setCell (p := ⟨w.heap.size + 1, 0, none⟩) (Nat.le_succ _) _).setCell (p := ⟨w.heap.size + 1, 1, none⟩) (Nat.le_succ _) _).setCell (p := ⟨w.heap.size + 1, 2, none⟩) (Nat.le_succ _) _).setCell (p := ⟨w.heap.size + 1, 3, none⟩) (Nat.le_succ _) _
set_option maxHeartbeats 2000000 in
set_option maxRecDepth 100000 in
theorem own_built (n : Nd) (ka : Option Addr) (kc : Nat) (w : World) (hn : Nums w) (ht : -1 ≤ n.tag) (hk : 10 ≤ n.kind) (hk' : n.kind ≤ 12) :
    Calls Tryz.prog 152 #[.agg #[.int .i64 n.kind, .int .i64 n.tag, .int .i64 n.mode, .slice ka n.kids.length kc]] w fun e w' => e = .returned (fv n.ownT.1 n.ownT.2 true) ∧ Below w.heap.size w w' := by
  have HC : Hid (∀ w', Nums w' → Calls Tryz.prog 140 #[.agg #[.int .i64 n.kind, .int .i64 n.tag, .int .i64 n.mode, .slice ka n.kids.length kc]] w' fun e w'' => e = .returned (.agg #[.int .i64 n.outer.1, .int .i64 n.outer.2]) ∧ Below w'.heap.size w' w'') := fun w' q => outerTag_any n ka kc w' q ht (by omega) (fun h => by omega)
  have HW : Hid (∀ w', Nums w' → Calls Tryz.prog 179 #[.int .i64 n.kind] w' fun e w'' => e = .returned (.agg #[.int .i64 0, .int .i64 (own n.kind)]) ∧ Below w'.heap.size w' w'') := fun w' q => ownTag_any n.kind (by omega) (by omega) w' q
  have HN : Hid (∀ wq, Below w.heap.size w wq → Nums wq) := fun wq q => hn.below q
  have hd10 : decide (10 ≤ n.kind) = true := by simp; omega
  obtain ⟨T1, T2, hT⟩ : ∃ T1 T2, n.ownT = (T1, T2) := ⟨_, _, rfl⟩
  have HT : Hid (n.ownT = (T1, T2)) := hT
  rw [hT]
  unfold fv
  clear hn hT
  go_enter Tryz.func152, Tryz.ntmps152
  go_wp2_with fail
  refine (HW.out _ (HN.out _ (((Below.refl _ _).alloc (Nat.le_refl _) _).alloc (by simp) _))).mono ?_
  rintro e w1 ⟨rfl, hb⟩
  have HB : Hid (Below w.heap.size w w1) := below_alloc (below_alloc hb)
  have HG : Hid (w1.heap[w.heap.size + 1]? = some (.cells #[.int .i64 0, .int .i64 0, .bool false] 149 (0, 0))) := block_below (by simpa using heap_alloc_new (w.alloc _) _) hb
  have HG0 : Hid (w1.heap[w.heap.size]? = some (.cells #[.int .i64 n.kind, .int .i64 n.tag, .int .i64 n.mode, .slice ka n.kids.length kc] 58 (0, 0))) := block_below (block_below (heap_alloc_new w _) ((Below.refl _ _).alloc (Nat.le_refl _) _)) hb
  have hs1 : w.heap.size + 1 < w1.heap.size := by have := hb.size; simp at this; omega
  have hs0 : w.heap.size < w1.heap.size := by omega
  have p0 : w1.cell? ⟨w.heap.size, 0, none⟩ = some (.int .i64 n.kind) := by simp [World.cell?, HG0.out]
  have p1 : w1.cell? ⟨w.heap.size, 1, none⟩ = some (.int .i64 n.tag) := by simp [World.cell?, HG0.out]
  have p2 : w1.cell? ⟨w.heap.size, 2, none⟩ = some (.int .i64 n.mode) := by simp [World.cell?, HG0.out]
  have p3 : w1.cell? ⟨w.heap.size, 3, none⟩ = some (.slice ka n.kids.length kc) := by simp [World.cell?, HG0.out]
  have q0 : w1.cell? ⟨w.heap.size + 1, 0, none⟩ = some (.int .i64 0) := by simp [World.cell?, HG.out]
  have q1 : w1.cell? ⟨w.heap.size + 1, 1, none⟩ = some (.int .i64 0) := by simp [World.cell?, HG.out]
  have q2 : w1.cell? ⟨w.heap.size + 1, 2, none⟩ = some (.bool false) := by simp [World.cell?, HG.out]
  have f0 : w1.frozen? ⟨w.heap.size + 1, 0, none⟩ = false := by simp [World.frozen?, HG.out]
  have f1 : w1.frozen? ⟨w.heap.size + 1, 1, none⟩ = false := by simp [World.frozen?, HG.out]
  have f2 : w1.frozen? ⟨w.heap.size + 1, 2, none⟩ = false := by simp [World.frozen?, HG.out]
  clear hb
  by_cases hm : n.mode = 0
  · have e0 : (n.mode == 0) = true := by simp [hm]
    have HE : Hid (n.ownT = n.outer) := by
      show n.ownT = n.outer
      unfold Nd.ownT Nd.outer
      by_cases q : 0 ≤ n.tag
      · rw [if_pos ⟨hm, q⟩, if_pos q]
      · rw [if_neg (fun r => q r.2), if_neg q]
    obtain ⟨rfl, rfl⟩ : T1 = n.outer.1 ∧ T2 = n.outer.2 := by rw [← HE.out, HT.out]; exact ⟨rfl, rfl⟩
    clear hm
    go_wp2_with fail
    refine (HC.out _ (HN.out _ (HB.out.alloc HB.out.size _))).mono ?_
    rintro e w2 ⟨rfl, hb2⟩
    have HB2 : Hid (Below w.heap.size w w2) := HB.out.trans ((below_alloc hb2).mono HB.out.size)
    have hA : w2.heap[w1.heap.size]? = some (.cells #[.int .i64 0, .int .i64 (own n.kind)] 147 (0, 0)) := block_below (heap_alloc_new w1 _) hb2
    have hG2 := block_below HG.out (below_alloc hb2)
    have hG02 := block_below HG0.out (below_alloc hb2)
    have hs2 : w1.heap.size < w2.heap.size := by have := hb2.size; simp at this; omega
    have t0 : w2.cell? ⟨w1.heap.size, 0, none⟩ = some (.int .i64 0) := by simp [World.cell?, hA]
    have t1 : w2.cell? ⟨w1.heap.size, 1, none⟩ = some (.int .i64 (own n.kind)) := by simp [World.cell?, hA]
    have t2 : w2.frozen? ⟨w1.heap.size, 0, none⟩ = false := by simp [World.frozen?, hA]
    have t3 : w2.frozen? ⟨w1.heap.size, 1, none⟩ = false := by simp [World.frozen?, hA]
    have r0 : w2.cell? ⟨w.heap.size + 1, 0, none⟩ = some (.int .i64 0) := by simp [World.cell?, hG2]
    have r1 : w2.cell? ⟨w.heap.size + 1, 1, none⟩ = some (.int .i64 0) := by simp [World.cell?, hG2]
    have r2 : w2.cell? ⟨w.heap.size + 1, 2, none⟩ = some (.bool false) := by simp [World.cell?, hG2]
    have g0 : w2.frozen? ⟨w.heap.size + 1, 0, none⟩ = false := by simp [World.frozen?, hG2]
    have g1 : w2.frozen? ⟨w.heap.size + 1, 1, none⟩ = false := by simp [World.frozen?, hG2]
    have g2 : w2.frozen? ⟨w.heap.size + 1, 2, none⟩ = false := by simp [World.frozen?, hG2]
    have d0 : w2.cell? ⟨w.heap.size, 0, none⟩ = some (.int .i64 n.kind) := by simp [World.cell?, hG02]
    have hne1 : ¬ w1.heap.size = w.heap.size + 1 := by omega
    have hne0 : ¬ w1.heap.size = w.heap.size := by omega
    have hne2 : ¬ w.heap.size + 1 = w1.heap.size := by omega
    have hne3 : ¬ w.heap.size = w1.heap.size := by omega
    clear hb2 hA hG2 hG02 p0 p1 p2 p3 q0 q1 q2 f0 f1 f2
    go_wp2
    refine bodyPost_ret (v := .agg #[.int .i64 n.outer.1, .int .i64 n.outer.2, .bool true]) (by simp [results, Tryz.results152, go_sem, r0, r1, r2, t0, t1, hne1, hne2, hd10]) rfl ⟨rfl, ?_⟩
    exact setCell3 ((HB2.out.setCell (p := ⟨w1.heap.size, 0, none⟩) (by exact Nat.le_of_lt hs0) _).setCell (p := ⟨w1.heap.size, 1, none⟩) (by exact Nat.le_of_lt hs0) _) _ (by simp) _ _ _
  · have e0 : (n.mode == 0) = false := by simp [hm]
    have HE : Hid (n.ownT = (0, own n.kind)) := by
      show n.ownT = (0, own n.kind)
      unfold Nd.ownT
      rw [if_neg (fun r => hm r.1)]
    obtain ⟨rfl, rfl⟩ : T1 = 0 ∧ T2 = own n.kind := by have := HE.out; rw [HT.out] at this; injection this with a b; exact ⟨a, b⟩
    clear hm
    go_wp2
    refine bodyPost_ret (v := .agg #[.int .i64 0, .int .i64 (own n.kind), .bool true]) (by simp [results, Tryz.results152, go_sem, q0, q1, q2, hs1, hd10]) rfl ⟨rfl, ?_⟩
    first
      | exact (setCell3 HB.out _ (by simp) _ _ _).alloc (setCell3 HB.out _ (by simp) _ _ _).size _
      | exact setCell3 (HB.out.alloc HB.out.size _) _ (by simp) _ _ _
theorem own_all (n : Nd) (ka : Option Addr) (kc : Nat) (w : World) (hn : Nums w) (ht : -1 ≤ n.tag) (hk : 0 ≤ n.kind) (hk' : n.kind ≤ 12) :
    Calls Tryz.prog 152 #[.agg #[.int .i64 n.kind, .int .i64 n.tag, .int .i64 n.mode, .slice ka n.kids.length kc]] w fun e w' => e = .returned (fv n.ownT.1 n.ownT.2 (decide (10 ≤ n.kind ∧ n.kind ≤ 12))) ∧ Below w.heap.size w w' := by
  by_cases h : n.kind ≤ 9
  · rw [decide_eq_false (by omega)]; exact own_first n ka kc w hn ht hk h
  · rw [decide_eq_true (by omega)]; exact own_built n ka kc w hn ht (by omega) hk'
/-- A fault that wraps any error. -/
def faultV (p : Int) (v : Value) : Value := .iface 155 (.agg #[.int .i64 p, v])
theorem fault_V (p : Int) (a : Addr) : fault p a = faultV p (.iface 291 (.pointer (some a))) := rfl
set_option maxHeartbeats 400000 in
theorem at_all (p : Int) (tt : TypeId) (u : Value) (w : World) :
    Calls Tryz.prog 60 #[.int .i64 p, .iface tt u] w fun e w' => e = .returned (faultV p (.iface tt u)) ∧ w' = w := by
  unfold faultV
  go_enter Tryz.func60, Tryz.ntmps60
  go_wp2
  go_ret
  exact ⟨rfl, rfl⟩
/-- What CheckRoot answers. -/
def RetRt (s : List Nd) (root : Int) (za : Addr) (w : World) (e : Ending) (w' : World) : Prop :=
  Below w.heap.size w w' ∧ ((e = .returned .nilIface ∧ RightP s ∧ 0 ≤ root ∧ root < s.length) ∨ ((∃ p : Int, e = .returned (faultV 0 (fault p za))) ∧ ¬ RightP s) ∨ (e = .returned (fault 0 za) ∧ RightP s ∧ ¬ (0 ≤ root ∧ root < s.length)))
set_option maxHeartbeats 2000000 in
set_option maxRecDepth 100000 in
theorem checkRoot_any (s : List Nd) (a : Option Addr) (c : Nat) (root : Int) (w : World) (sn : Sn → Addr) (za : Addr) (hl : Lay w sn) (hz : LayZ w sn za) (hs : Sch w a s) (hok : SchOk s) (hn0 : s.length ≤ 140737488351232) :
    Calls Tryz.prog 74 #[.slice a s.length c, .int .i64 root] w fun e w' => RetRt s root za w e w' := by
  have HC : Hid (Calls Tryz.prog 35 #[.slice a s.length c] w fun e w' => RetK s za w e w') := check_any s a c w sn za hl hz hs hok hn0
  have HZ := hide hz
  have HAT : Hid (∀ tt u wq, Calls Tryz.prog 60 #[.int .i64 0, .iface tt u] wq fun e w' => e = .returned (faultV 0 (.iface tt u)) ∧ w' = wq) := fun tt u wq => at_all 0 tt u wq
  unfold faultV at HAT
  clear hl hz hs hok
  go_enter Tryz.func74, Tryz.ntmps74
  go_wp2_with fail
  refine HC.out.mono ?_
  rintro e w1 ⟨hb1, h1⟩
  have HB1 := hide hb1
  clear hb1
  rcases h1 with ⟨rfl, hr⟩ | ⟨⟨p, rfl⟩, hr⟩
  · have HR := hide hr
    clear hr
    have cS := (HZ.out.below HB1.out).c
    have hgl := lt_of_cell cS
    simp only at hgl
    by_cases h0 : root < 0
    · go_wp2_with fail
      refine (HAT.out _ _ _).mono ?_
      rintro e w2 ⟨rfl, rfl⟩
      go_wp2
      go_ret
      exact ⟨HB1.out, .inr (.inr ⟨rfl, HR.out, by omega⟩)⟩
    · have h0' : 0 ≤ root := by omega
      by_cases h2 : root < s.length
      · go_wp2
        go_ret
        exact ⟨HB1.out, .inl ⟨rfl, HR.out, h0', h2⟩⟩
      · have h2' : (s.length : Int) ≤ root := by omega
        go_wp2_with fail
        refine (HAT.out _ _ _).mono ?_
        rintro e w2 ⟨rfl, rfl⟩
        go_wp2
        go_ret
        exact ⟨HB1.out, .inr (.inr ⟨rfl, HR.out, by omega⟩)⟩
  · have HR := hide hr
    clear hr
    unfold fault
    go_wp2_with fail
    refine (HAT.out _ _ _).mono ?_
    rintro e w2 ⟨rfl, rfl⟩
    go_wp2
    go_ret
    exact ⟨HB1.out, .inr (.inl ⟨⟨p, rfl⟩, HR.out⟩)⟩
end Go.Proofs.YtkkicodfpekbgaaGreatDoor

/-! The document's reader, in general: what its methods leave, by the function on plain data; what stays the same throughout. -/
namespace Go.Proofs.YtkkicodfpekbgaaGreatDoor
set_option linter.unusedSimpArgs false
set_option linter.unusedVariables false
open Go.RowKit
/-- What reads: the schema is right and lies in memory; the functions of the environment are what they say. -/
structure RC (E : Env) (W : World) (a : Option Addr) : Prop where
  sch : Sch W a E.s
  right : RightP E.s
  sok : SchOk E.s
  bg : ∀ i, i < E.s.length → ∀ c m, E.bg i c m = true ↔ Beg E.s i c m
  ok : ∀ k t, E.ok k t = true ↔ ContentOk k t
  size : E.d.size ≤ 4000
/-- What a method leaves, by what reading comes to. -/
def OutIs (o : Out) (tree tree' : List Vl) (e' p p' : Int) : Prop :=
  match o with
  | .error (e, q) => e' = e ∧ p' = q ∧ e ≠ 0
  | .ok (vs, _) => e' = 0 ∧ tree' = tree ++ vs ∧ p' = p
/-- .. in memory. -/
def AfterR (E : Env) (W : World) (R : Nat) (a : Option Addr) (c : Nat) (o : Out) (tree : List Vl) (p : Int) (w w' : World) : Prop :=
  ∃ tree' e' p', RdI W w' R a E.s.length c E.d tree' e' p' ∧ OutIs o tree tree' e' p p' ∧ Fr R w w'
/-- Room for as many values as may come. -/
def Room (tree : List Vl) (f x y : Nat) : Prop := tree.length + 10 * f + 100 * (y - x) ≤ 1099511627776
/-- What node answers, with so much fuel. -/
def NodeC (E : Env) (W : World) (R : Nat) (a : Option Addr) (c f : Nat) : Prop :=
  ∀ (i x y : Nat) (dp : Int) (o : Out) (tree : List Vl) (p : Int) (w : World), rdF E f i x y dp = some o → i < E.s.length → x ≤ y → y ≤ E.d.size → 1 ≤ dp → dp ≤ 13 → Room tree f x y → RdI W w R a E.s.length c E.d tree 0 p →
    Calls Tryz.prog 69 #[.pointer (some ⟨R, 0, none⟩), .int .i64 i, .int .i64 x, .int .i64 y, .int .i64 dp] w fun e w' => ∃ v : Int, e = .returned (.int .i64 v) ∧ AfterR E W R a c o tree p w w' ∧ ∀ vs z, o = .ok (vs, z) → v = z

theorem RdI.r0 {W w : World} {R : Nat} {a : Option Addr} {n c : Nat} {data : ByteArray} {tree : List Vl} {e p : Int} (h : RdI W w R a n c data tree e p) : w.cell? ⟨R, 0, none⟩ = some (.slice a n c) := by
  obtain ⟨_, _, vt, hr, _⟩ := h; unfold rdObj at hr; simp [World.cell?, hr]
theorem RdI.r1 {W w : World} {R : Nat} {a : Option Addr} {n c : Nat} {data : ByteArray} {tree : List Vl} {e p : Int} (h : RdI W w R a n c data tree e p) : w.cell? ⟨R, 1, none⟩ = some (.string data) := by
  obtain ⟨_, _, vt, hr, _⟩ := h; unfold rdObj at hr; simp [World.cell?, hr]
theorem RdI.r3 {W w : World} {R : Nat} {a : Option Addr} {n c : Nat} {data : ByteArray} {tree : List Vl} {e p : Int} (h : RdI W w R a n c data tree e p) : w.cell? ⟨R, 3, none⟩ = some (.int .i64 e) := by
  obtain ⟨_, _, vt, hr, _⟩ := h; unfold rdObj at hr; simp [World.cell?, hr]
theorem Fr.below {R : Nat} {w w1 w2 : World} (h : Fr R w w1) (hb : Below w1.heap.size w1 w2) : Fr R w w2 := h.trans (Fr.of_below hb)
theorem AfterR.of {E : Env} {W : World} {R : Nat} {a : Option Addr} {c : Nat} {o : Out} {tree : List Vl} {p : Int} {w w1 w' : World} (h : AfterR E W R a c o tree p w1 w') (hf : Fr R w w1) : AfterR E W R a c o tree p w w' := by
  obtain ⟨t, e, q, h1, h2, h3⟩ := h
  exact ⟨t, e, q, h1, h2, hf.trans h3⟩
theorem andThen_cases {α : Type} {o : Option Out} {k : List Vl → Nat → Option (Except (Int × Int) α)} {v : Except (Int × Int) α} (h : Out.andThen o k = some v) : (∃ e, o = some (.error e) ∧ v = .error e) ∨ ∃ vs z, o = some (.ok (vs, z)) ∧ k vs z = some v := by
  unfold Out.andThen at h
  split at h
  · cases h
  · rename_i e; exact .inl ⟨e, rfl, (Option.some.inj h).symm⟩
  · rename_i vs z; exact .inr ⟨vs, z, rfl, h⟩

/-! ### Errors that are told are errors -/
def IsErr (o : Out) : Prop := ∀ e q, o = .error (e, q) → e ≠ 0
theorem choiceF_err {E : Env} {rec : Rec} (hr : ∀ i x y dp o, rec i x y dp = some o → IsErr o) {h : Hd} {x tz : Nat} {dp : Int} : ∀ (ks : List Kd) (j : Nat) {o : Out}, choiceF E rec h x tz dp ks j = some o → IsErr o
  | [], _, o, e => by unfold choiceF at e; cases e; intro a b q; cases q; decide
  | k :: ks, j, o, e => by
    unfold choiceF at e
    split at e
    · rcases andThen_cases e with ⟨u, h1, rfl⟩ | ⟨vs, z, h1, h2⟩
      · exact hr _ _ _ _ _ h1
      · cases h2; intro a b q; cases q
    · exact choiceF_err hr ks (j + 1) e
theorem seqF_err {E : Env} {rec : Rec} (hr : ∀ i x y dp o, rec i x y dp = some o → IsErr o) {tz : Nat} {dp : Int} : ∀ (ks : List Kd) (x : Nat) (acc : List Vl) {o : Out}, seqF E rec tz dp ks x acc = some o → IsErr o
  | [], x, acc, o, e => by unfold seqF at e; split at e <;> (cases e; intro a b q; cases q <;> decide)
  | k :: ks, x, acc, o, e => by
    unfold seqF at e
    split at e
    · rename_i q; cases e; intro a b p; cases p; exact q.2
    split at e
    · rcases andThen_cases e with ⟨u, h1, rfl⟩ | ⟨vs, z, h1, h2⟩
      · exact hr _ _ _ _ _ h1
      · split at h2
        · cases h2; intro a b q; cases q; decide
        · exact seqF_err hr ks _ _ h2
    split at e
    · exact seqF_err hr ks _ _ e
    split at e
    · exact seqF_err hr ks _ _ e
    split at e <;> (cases e; intro a b q; cases q <;> decide)
theorem manyF_err {E : Env} {rec : Rec} (hr : ∀ i x y dp o, rec i x y dp = some o → IsErr o) {set : Bool} {i tz : Nat} {dp : Int} : ∀ (m x : Nat) (last : ByteArray) (j : Nat) (acc : List Vl) {v : Except (Int × Int) (Nat × List Vl)}, manyF E rec set i tz dp m x last j acc = some v → ∀ e q, v = .error (e, q) → e ≠ 0
  | 0, _, _, _, _, _, e => by cases e
  | m + 1, x, last, j, acc, v, e => by
    unfold manyF at e
    split at e
    · rcases andThen_cases e with ⟨u, h1, rfl⟩ | ⟨vs, z, h1, h2⟩
      · intro a b q; cases q; exact hr _ _ _ _ _ h1 _ _ rfl
      · split at h2
        · cases h2; intro a b q; cases q; decide
        · exact manyF_err hr m _ _ _ _ h2
    · cases e; intro a b q; cases q
theorem bareF_err {E : Env} {rec : Rec} (hr : ∀ i x y dp o, rec i x y dp = some o → IsErr o) {m : Nat} {n : Nd} {cl nu : Int} {h : Hd} {x tz : Nat} {dp : Int} {o : Out} (e : bareF E rec m n cl nu h x tz dp = some o) : IsErr o := by
  unfold bareF at e
  split at e
  · exact choiceF_err hr _ _ e
  split at e
  · cases e; intro a b q; cases q; decide
  split at e
  · cases e; intro a b q; cases q; decide
  split at e
  · cases e; intro a b q; cases q
  split at e
  · split at e
    · cases e
    · rename_i u hs; cases e; intro a b q; cases q; exact seqF_err hr _ _ _ hs _ _ rfl
    · cases e; intro a b q; cases q
  split at e
  · split at e
    · cases e
    · rename_i u hs; cases e; intro a b q; cases q; exact manyF_err hr _ _ _ _ _ hs _ _ rfl
    · cases e; intro a b q; cases q
  split at e
  · cases e; intro a b q; cases q
  · cases e; intro a b q; cases q; decide
theorem valF_err {E : Env} {rec : Rec} (hr : ∀ i x y dp o, rec i x y dp = some o → IsErr o) {m i : Nat} {h : Hd} {x tz : Nat} {dp : Int} {o : Out} (e : valF E rec m i h x tz dp = some o) : IsErr o := by
  unfold valF at e
  split at e
  · exact bareF_err hr e
  split at e
  · exact bareF_err hr e
  split at e
  · cases e; intro a b q; cases q; decide
  split at e
  · cases e; intro a b q; cases q; decide
  split at e
  · rename_i q; cases e; intro a b p; cases p; exact q
  rcases andThen_cases e with ⟨u, h1, rfl⟩ | ⟨vs, z, h1, h2⟩
  · exact bareF_err hr h1
  · split at h2 <;> (cases h2; intro a b q; cases q <;> decide)
theorem rdF_err {E : Env} : ∀ (f i x y : Nat) (dp : Int) (o : Out), rdF E f i x y dp = some o → IsErr o
  | 0, _, _, _, _, _, e => by cases e
  | f + 1, i, x, y, dp, o, e => by
    rw [rdF] at e
    split at e
    · rename_i q; cases e; intro a b p; cases p; exact q
    · exact valF_err (rdF_err f) e
theorem out_err {o : Out} {e q : Int} (h : IsErr o) (ho : o = .error (e, q)) (tree tree' : List Vl) (p : Int) : OutIs o tree tree' e p q := by
  subst ho; exact ⟨rfl, rfl, h e q rfl⟩
theorem out_ok (vs : List Vl) (z : Nat) (tree : List Vl) (p : Int) : OutIs (.ok (vs, z)) tree (tree ++ vs) 0 p p := ⟨rfl, rfl, rfl⟩
end Go.Proofs.YtkkicodfpekbgaaGreatDoor

/-! Reading on plain data: how many values come of so many bytes. No walk in it. -/
namespace Go.Proofs.YtkkicodfpekbgaaGreatDoor
set_option linter.unusedSimpArgs false
set_option linter.unusedVariables false

theorem choiceF_len {E : Env} {rec : Rec} {h : Hd} {x tz B : Nat} {dp : Int} : ∀ (ks : List Kd) (j : Nat) {vs : List Vl} {z : Nat}, (∀ k ∈ ks, ∀ vs z, rec k.node.toNat x tz dp = some (.ok (vs, z)) → vs.length + 1 ≤ B) → choiceF E rec h x tz dp ks j = some (.ok (vs, z)) → vs.length ≤ B
  | [], _, _, _, _, e => by cases e
  | k :: ks, j, vs, z, hB, e => by
    unfold choiceF at e
    split at e
    · obtain ⟨us, z', h1, h2⟩ := andThen_ok e
      have := hB k (by simp) us z' h1
      simp at h2
      rw [← h2.1]; simpa using this
    · exact choiceF_len ks (j + 1) (fun k hk => hB k (by simp [hk])) e
theorem seqF_len {E : Env} {rec : Rec} {tz : Nat} {dp : Int} : ∀ (ks : List Kd) (x : Nat) (acc : List Vl) {vs : List Vl} {z : Nat}, (∀ k ∈ ks, ∀ x vs z, rec k.node.toNat x tz dp = some (.ok (vs, z)) → vs.length ≤ 100 * (z - x) ∧ x ≤ z ∧ z ≤ tz) → x ≤ tz → seqF E rec tz dp ks x acc = some (.ok (vs, z)) → vs.length ≤ acc.length + ks.length + 100 * (z - x) ∧ x ≤ z ∧ z ≤ tz
  | [], x, acc, vs, z, _, hx, e => by
    unfold seqF at e
    split at e
    · cases e
    · simp at e; obtain ⟨rfl, rfl⟩ := e; simp; exact hx
  | k :: ks, x, acc, vs, z, hr, hx, e => by
    have hr' : ∀ k ∈ ks, ∀ x vs z, rec k.node.toNat x tz dp = some (.ok (vs, z)) → vs.length ≤ 100 * (z - x) ∧ x ≤ z ∧ z ≤ tz := fun k hk => hr k (by simp [hk])
    unfold seqF at e
    split at e
    · cases e
    split at e
    · obtain ⟨us, z', h1, h2⟩ := andThen_ok e
      have h3 := hr k (by simp) x us z' h1
      split at h2
      · cases h2
      · have := seqF_len ks z' _ hr' (by omega) h2
        simp only [List.length_append, List.length_cons] at this ⊢
        omega
    split at e
    · have := seqF_len ks x _ hr' hx e
      simp only [List.length_append, List.length_cons, List.length_nil] at this ⊢
      omega
    split at e
    · have := seqF_len ks x _ hr' hx e
      simp only [List.length_append, List.length_cons, List.length_nil] at this ⊢
      omega
    split at e <;> cases e
theorem manyF_len {E : Env} {rec : Rec} {set : Bool} {i tz : Nat} {dp : Int} (hr : ∀ x vs z, rec i x tz dp = some (.ok (vs, z)) → vs.length ≤ 100 * (z - x) ∧ x ≤ z ∧ z ≤ tz) : ∀ (m x : Nat) (last : ByteArray) (j : Nat) (acc : List Vl) {j' : Nat} {vs : List Vl}, x ≤ tz → manyF E rec set i tz dp m x last j acc = some (.ok (j', vs)) → vs.length ≤ acc.length + 100 * (tz - x)
  | 0, _, _, _, _, _, _, _, e => by cases e
  | m + 1, x, last, j, acc, j', vs, hx, e => by
    unfold manyF at e
    split at e
    · obtain ⟨us, z', h1, h2⟩ := andThen_ok e
      have h3 := hr x us z' h1
      split at h2
      · cases h2
      · have := manyF_len hr m z' _ _ _ (by omega) h2
        simp only [List.length_append] at this
        omega
    · simp at e; rw [← e.2]; omega
theorem bareF_len {E : Env} (hf : Fine E.s) {f i : Nat} (hi : i < E.s.length) {cl nu : Int} {x tz : Nat} {dp : Int} {h : Hd} {V C : Nat} (hV : V ≤ 40) (hh : 2 ≤ h.s.toNat) (hxt : x + h.s.toNat ≤ tz)
    (hc : (nd E.s i).kind = 13 → ∀ k ∈ (nd E.s i).kids, ∀ vs z, rdF E f k.node.toNat x tz dp = some (.ok (vs, z)) → vs.length + (V + 1) ≤ 100 * (tz - x) + C)
    (hr : ∀ (j : Nat) (x' : Nat) vs z, j < E.s.length → rdF E f j x' tz (dp + 1) = some (.ok (vs, z)) → vs.length ≤ 100 * (z - x'))
    {vs : List Vl} {z : Nat} (e : bareF E (rdF E f) f (nd E.s i) cl nu h x tz dp = some (.ok (vs, z))) : vs.length + V ≤ 100 * (tz - x) + C := by
  have hlt : ∀ k ∈ (nd E.s i).kids, k.node.toNat < E.s.length := fun k hk => by have := hf.within i hi k hk; omega
  have hz : ∀ i x vs z, rdF E f i x tz (dp + 1) = some (.ok (vs, z)) → x ≤ z ∧ z ≤ tz := fun i x vs z e => by
    obtain ⟨q1, q2⟩ := rdF_fin e
    have := fin_le q1
    omega
  unfold bareF at e
  split at e
  · rename_i q
    have := choiceF_len (B := 100 * (tz - x) + C - V) _ _ (fun k hk us z' h1 => by have := hc q k hk us z' h1; omega) e
    omega
  split at e
  · cases e
  split at e
  · cases e
  split at e
  · simp at e; rw [← e.1]; simp; omega
  split at e
  · split at e
    · cases e
    · cases e
    · rename_i us z' hs
      have h8 := hf.eight i hi
      have := seqF_len _ _ _ (fun k hk x' us z' h1 => ⟨hr _ _ _ _ (hlt k hk) h1, hz _ _ _ _ h1⟩) hxt hs
      simp at e; rw [← e.1]
      simp only [List.length_nil, List.length_cons] at this ⊢
      omega
  split at e
  · rename_i q
    split at e
    · cases e
    · cases e
    · rename_i j us hs
      have h1 := hf.one i hi (by omega)
      have hk := hlt _ (kd_mem (n := nd E.s i) (i := 0) (by omega))
      have := manyF_len (fun x' us z' h1 => ⟨hr _ _ _ _ hk h1, hz _ _ _ _ h1⟩) _ _ _ _ _ hxt hs
      simp at e; rw [← e.1]
      simp only [List.length_nil, List.length_cons] at this ⊢
      omega
  split at e
  · simp at e; rw [← e.1]; simp; omega
  · cases e
/-- So many bytes, so many values at most. -/
theorem rdF_len {E : Env} (hf : Fine E.s) : ∀ (f i x y : Nat) (dp : Int) (V : List Nat), i < E.s.length → Way E.s V i → ∀ vs z, rdF E f i x y dp = some (.ok (vs, z)) → vs.length + V.length ≤ 100 * (z - x)
  | 0, _, _, _, _, _, _, _, _, _, e => by cases e
  | f + 1, i, x, y, dp, V, hi, hV, vs, z, e => by
    have hVl := hV.len hf
    obtain ⟨hq, rfl⟩ := rdF_fin e
    have hfin := fin_le hq
    have hlt : ∀ k ∈ (nd E.s i).kids, k.node.toNat < E.s.length := fun k hk => by have := hf.within i hi k hk; omega
    have hr : ∀ (j : Nat) (x' : Nat) (tz : Nat) vs z, j < E.s.length → rdF E f j x' tz (dp + 1) = some (.ok (vs, z)) → vs.length ≤ 100 * (z - x') := fun j x' tz vs z hj e => by
      have := rdF_len hf f j x' tz (dp + 1) [] hj (Way.nil _ _) vs z e
      simpa using this
    rw [rdF, if_neg (by rw [hq]; decide)] at e
    unfold valF at e
    split at e
    · rename_i ht
      refine bareF_len (C := 0) hf hi hVl (by omega) hfin.2.1 (fun hk k hkm us z' h1 => ?_) (fun j x' us z' hj h1 => hr j x' _ us z' hj h1) e
      have := rdF_len hf f k.node.toNat x _ dp (i :: V) (hlt k hkm) (hV.cons hf hi ⟨hk, ht⟩ hkm) us z' h1
      obtain ⟨a1, a2⟩ := rdF_fin h1
      have := fin_le a1
      simp only [List.length_cons] at *
      omega
    split at e
    · rename_i ht hm
      exact bareF_len (C := 0) hf hi hVl (by omega) hfin.2.1 (fun hk => absurd hm (hf.tagged i hi hk (by omega))) (fun j x' us z' hj h1 => hr j x' _ us z' hj h1) e
    split at e
    · cases e
    split at e
    · cases e
    split at e
    · cases e
    rename_i q'
    have hq' : (E.hd (x + (E.hd x y).2.s.toNat) (fin x (E.hd x y).2)).1 = 0 := Classical.not_not.1 q'
    have hfin' := fin_le hq'
    obtain ⟨us, z', h1, h2⟩ := andThen_ok e
    have h3 := bareF_len (V := 0) (C := 1) hf hi (by omega) (by omega) hfin'.2.1 (fun hk k hkm us z' h1 => by
      have := rdF_len hf f k.node.toNat _ _ dp [] (hlt k hkm) (Way.nil _ _) us z' h1
      obtain ⟨a1, a2⟩ := rdF_fin h1
      have := fin_le a1
      simp only [List.length_nil] at *
      omega) (fun j x' us z' hj h1 => hr j x' _ us z' hj h1) h1
    split at h2
    · cases h2
    · simp at h2
      rw [← h2]
      omega
theorem rdF_len0 {E : Env} (hf : Fine E.s) {f i x y : Nat} {dp : Int} {vs : List Vl} {z : Nat} (hi : i < E.s.length) (e : rdF E f i x y dp = some (.ok (vs, z))) : vs.length ≤ 100 * (z - x) ∧ x + 2 ≤ z ∧ z ≤ y ∧ z ≤ E.d.size := by
  have := rdF_len hf f i x y dp [] hi (Way.nil _ _) vs z e
  obtain ⟨a1, a2⟩ := rdF_fin e
  have := fin_le a1
  simp only [List.length_nil] at *
  omega
end Go.Proofs.YtkkicodfpekbgaaGreatDoor

/-! What reading is reckoned by, and what the readers of the document and of the program share: plain mathematics. -/
namespace Go.Proofs.YtkkicodfpekbgaaGreatDoor
set_option linter.unusedSimpArgs false
set_option linter.unusedVariables false
open Go.RowKit

theorem vcells_app (l m : List Vl) : vcells (l ++ m) = vcells l ++ vcells m := by unfold vcells; simp
theorem vcells_len (l : List Vl) : (vcells l).length = l.length * 4 := by
  induction l with
  | nil => rfl
  | cons v l ih => show (v.cells ++ vcells l).length = _; rw [List.length_append, ih]; show 4 + l.length * 4 = _; simp; omega
theorem vcells_cons (v : Vl) (l : List Vl) : vcells (v :: l) = v.cells ++ vcells l := by unfold vcells; simp
theorem choiceF_yes {E : Env} {rec : Rec} {h : Hd} {x tz : Nat} {dp : Int} {n : Nd} {j : Nat} {o : Out} (hj : j < n.kids.length) (e : choiceF E rec h x tz dp (n.kids.drop j) j = some o) (hb : E.bg (kd n j).node.toNat h.c h.n = true) :
    ∃ o', rec (kd n j).node.toNat x tz dp = some o' ∧ ((∃ u, o' = .error u ∧ o = .error u) ∨ ∃ vs z, o' = .ok (vs, z) ∧ o = .ok (⟨13, noB, j, 1⟩ :: vs, tz)) := by
  rw [drop_kid hj] at e
  unfold choiceF at e
  rw [if_pos hb] at e
  rcases andThen_cases e with ⟨u, h1, rfl⟩ | ⟨vs, z, h1, h2⟩
  · exact ⟨_, h1, .inl ⟨u, rfl, rfl⟩⟩
  · cases h2; exact ⟨_, h1, .inr ⟨vs, z, rfl, rfl⟩⟩
theorem choiceF_no {E : Env} {rec : Rec} {h : Hd} {x tz : Nat} {dp : Int} {n : Nd} {j : Nat} {o : Out} (hj : j < n.kids.length) (e : choiceF E rec h x tz dp (n.kids.drop j) j = some o) (hb : E.bg (kd n j).node.toNat h.c h.n = false) :
    choiceF E rec h x tz dp (n.kids.drop (j + 1)) (j + 1) = some o := by
  rw [drop_kid hj] at e
  unfold choiceF at e
  rw [if_neg (by rw [hb]; decide)] at e
  exact e
theorem manyF_on {E : Env} {rec : Rec} {set : Bool} {i tz : Nat} {dp : Int} {m x : Nat} {last : ByteArray} {j : Nat} {acc : List Vl} {o : Except (Int × Int) (Nat × List Vl)} (e : manyF E rec set i tz dp m x last j acc = some o) (hx : x < tz) :
    ∃ o', rec i x tz dp = some o' ∧ ((∃ u, o' = .error u ∧ o = .error u) ∨ ∃ vs z, o' = .ok (vs, z) ∧ ((set = true ∧ below (E.d.extract x z) last = true ∧ o = .error (8, (x : Int))) ∨ (¬ (set = true ∧ below (E.d.extract x z) last = true) ∧ ∃ m', manyF E rec set i tz dp m' z (E.d.extract x z) (j + 1) (acc ++ vs) = some o))) := by
  cases m with
  | zero => cases e
  | succ m =>
    unfold manyF at e
    rw [if_pos hx] at e
    rcases andThen_cases e with ⟨u, h1, rfl⟩ | ⟨vs, z, h1, h2⟩
    · exact ⟨_, h1, .inl ⟨u, rfl, rfl⟩⟩
    · refine ⟨_, h1, .inr ⟨vs, z, rfl, ?_⟩⟩
      split at h2
      · rename_i q; cases h2; exact .inl ⟨q.1, q.2, rfl⟩
      · rename_i q; exact .inr ⟨q, m, h2⟩
theorem manyF_off {E : Env} {rec : Rec} {set : Bool} {i tz : Nat} {dp : Int} {m x : Nat} {last : ByteArray} {j : Nat} {acc : List Vl} {o : Except (Int × Int) (Nat × List Vl)} (e : manyF E rec set i tz dp m x last j acc = some o) (hx : ¬ x < tz) : o = .ok (j, acc) := by
  cases m with
  | zero => cases e
  | succ m => unfold manyF at e; rw [if_neg hx] at e; exact (Option.some.inj e).symm
/-- What comes of many elements, as a method leaves it. -/
def OutM (kind : Int) (tz : Nat) (v : Except (Int × Int) (Nat × List Vl)) : Out :=
  match v with
  | .error e => .error e
  | .ok (j, vs) => .ok (⟨kind, noB, 0, j⟩ :: vs, tz)
theorem vcells_at (l : List Vl) (v : Vl) (m : List Vl) : (vcells (l ++ v :: m))[l.length * 4 + 3]? = some (.int .i64 v.kids) := by
  rw [vcells_app, List.getElem?_append_right (by rw [vcells_len]; omega), vcells_len, vcells_cons]
  rw [show l.length * 4 + 3 - l.length * 4 = 3 by omega]
  rfl
theorem vcells_set (l : List Vl) (v : Vl) (m : List Vl) (k : Int) : (vcells (l ++ v :: m)).set (l.length * 4 + 3) (.int .i64 k) = vcells (l ++ ⟨v.kind, v.text, v.alt, k⟩ :: m) := by
  rw [vcells_app, vcells_app, List.set_append_right _ _ (by rw [vcells_len]; omega), vcells_len, vcells_cons, vcells_cons]
  rw [show l.length * 4 + 3 - l.length * 4 = 3 by omega]
  rfl
/-- What a kid with a Default is when it is left out. -/
def DvOk (E : Env) : Prop := ∀ i, i < E.s.length → ∀ k ∈ (nd E.s i).kids, k.dflt.size ≠ 0 → ∃ u, ElemOk (nd E.s k.node.toNat) k.dflt u ∧ E.dv k = ⟨(nd E.s k.node.toNat).kind, u, 0, 0⟩ ∧ 1 ≤ (nd E.s k.node.toNat).kind ∧ (nd E.s k.node.toNat).kind ≤ 9
/-- What Read and Decode answer. -/
def RetDec (v : Except (Int × Int) (List Vl)) (w : World) (e : Ending) (w' : World) : Prop :=
  Below w.heap.size w w' ∧
  match v with
  | .error (c, p) => e = .returned (.tuple #[.slice none 0 0, .int .i64 p, .int .i64 c])
  | .ok vs => ∃ ta tc, e = .returned (.tuple #[.slice ta vs.length tc, .int .i64 0, .int .i64 0]) ∧ w'.ownsRow w.heap.size 60 4 (.slice ta vs.length tc) vs.length (vcells vs)
theorem own_lower {w : World} {base base' : Nat} {e : TypeId} {size : Nat} {v : Value} {n : Nat} {xs : List Value} (h : w.ownsRow base e size v n xs) (hb : base' ≤ base) : w.ownsRow base' e size v n xs := by
  refine ⟨h.1, ?_⟩
  rcases h.2 with q | ⟨g, cap, cur, q, q2, r⟩
  · exact .inl q
  · exact .inr ⟨g, cap, cur, q, Nat.le_trans hb q2, r⟩
/-- The functions that reading goes by are what they say. -/
structure EnvOk (E : Env) : Prop where
  bg : ∀ i, i < E.s.length → ∀ c m, E.bg i c m = true ↔ Beg E.s i c m
  ok : ∀ k t, E.ok k t = true ↔ ContentOk k t
  dv : DvOk E
/-- There are such. -/
theorem env_ex (s : List Nd) (d : ByteArray) (h : RightP s) : ∃ E : Env, E.s = s ∧ E.d = d ∧ EnvOk E := by
  have hb : ∃ bg : Nat → Int → Int → Bool, ∀ i c m, bg i c m = true ↔ Beg s i c m :=
    ⟨fun i c m => @decide (Beg s i c m) (Classical.propDecidable _), fun i c m => by simp⟩
  have hk : ∃ ok : Int → ByteArray → Bool, ∀ k t, ok k t = true ↔ ContentOk k t :=
    ⟨fun k t => @decide (ContentOk k t) (Classical.propDecidable _), fun k t => by simp⟩
  have hd : ∃ dv : Kd → Vl, ∀ k u, ElemOk (nd s k.node.toNat) k.dflt u → dv k = ⟨(nd s k.node.toNat).kind, u, 0, 0⟩ := by
    refine ⟨fun k => ⟨(nd s k.node.toNat).kind, @dite _ (∃ u, ElemOk (nd s k.node.toNat) k.dflt u) (Classical.propDecidable _) (fun q => Classical.choose q) (fun _ => ⟨#[]⟩), 0, 0⟩, fun k u hu => ?_⟩
    have q : ∃ u, ElemOk (nd s k.node.toNat) k.dflt u := ⟨u, hu⟩
    simp only [dif_pos q]
    rw [elem_one (Classical.choose_spec q) hu]
  obtain ⟨bg, hb⟩ := hb
  obtain ⟨ok, hk⟩ := hk
  obtain ⟨dv, hd⟩ := hd
  refine ⟨⟨s, d, bg, ok, dv⟩, rfl, rfl, fun i _ c m => hb i c m, hk, fun i hi k hkm hne => ?_⟩
  obtain ⟨j, hj, e⟩ := List.getElem_of_mem hkm
  have hkd : kd (nd s i) j = k := by unfold kd; rw [List.getD_eq_getElem?_getD, List.getElem?_eq_getElem hj]; exact e
  have hw := h.fine.within i hi k hkm
  rcases (h.2.2.2.2 i hi).2 j hj with q | ⟨q1, u, q2⟩
  · rw [hkd] at q; exact absurd q hne
  · rw [hkd] at q1 q2
    exact ⟨u, q2, hd k u q2, (kinds_of h.2.2.1 k.node.toNat (by omega)).1, q1⟩
/-- What Decode comes to. -/
def DecV (E : Env) (s : List Nd) (root : Int) (d : ByteArray) (v : Except (Int × Int) (List Vl)) : Prop :=
  (¬ (RightP s ∧ 0 ≤ root ∧ root < s.length) ∧ v = .error (1, 0)) ∨
  ((RightP s ∧ 0 ≤ root ∧ root < s.length) ∧ 4000 < d.size ∧ v = .error (2, 0)) ∨
  ((RightP s ∧ 0 ≤ root ∧ root < s.length) ∧ d.size ≤ 4000 ∧ E.s = s ∧ E.d = d ∧ EnvOk E ∧ ∃ f, f ≤ 1000000 ∧ readF E f root.toNat = some v)
/-- There is one. -/
theorem decV_ex (s : List Nd) (root : Int) (d : ByteArray) : ∃ E v, DecV E s root d v := by
  by_cases h : RightP s ∧ 0 ≤ root ∧ root < s.length
  · by_cases hd : d.size ≤ 4000
    · obtain ⟨E, rfl, rfl, hE⟩ := env_ex s d h.1
      obtain ⟨o, ho⟩ := rdF_some h.1.fine 168041 root.toNat 0 E.d.size 1 [] (by omega) (Way.nil _ _) (by simp only [List.length_nil]; omega)
      obtain ⟨v, hv⟩ : ∃ v, readF E 168041 root.toNat = some v := by
        unfold readF
        refine andThen_some ho fun vs z _ => ?_
        split <;> exact ⟨_, rfl⟩
      exact ⟨E, v, .inr (.inr ⟨h, hd, rfl, rfl, hE, 168041, by omega, hv⟩)⟩
    · exact ⟨⟨[], d, fun _ _ _ => false, fun _ _ => false, fun _ => ⟨0, d, 0, 0⟩⟩, _, .inr (.inl ⟨h, by omega, rfl⟩)⟩
  · exact ⟨⟨[], d, fun _ _ _ => false, fun _ _ => false, fun _ => ⟨0, d, 0, 0⟩⟩, _, .inl ⟨h, rfl⟩⟩
end Go.Proofs.YtkkicodfpekbgaaGreatDoor

/-! The program's reader in memory; add, notDeep, expect. -/
namespace Go.Proofs.YtkkicodfpekbgaaGreatDoor
set_option linter.unusedSimpArgs false
set_option linter.unusedVariables false
open Go.RowKit

/-- The reader's cells. -/
def ddObj (a : Option Addr) (n c gb : Nat) (data : ByteArray) (vt : Value) : Obj := .cells #[.slice a n c, .slice (some ⟨gb, 0, none⟩) n n, .string data, vt] 144 (0, 0)
/-- The reader in memory: W: the world when it was made; its schema's slice, the beginnings, its data; the tree so far. -/
structure RdD (W w : World) (R : Nat) (a : Option Addr) (n c gb : Nat) (data : ByteArray) (tree : List Vl) : Prop where
  bel : Below W.heap.size W w
  lo : W.heap.size ≤ R
  own : ∃ vt, w.heap[R]? = some (ddObj a n c gb data vt) ∧ w.ownsRow W.heap.size 60 4 vt tree.length (vcells tree)
theorem RdD.below {W w w' : World} {R : Nat} {a : Option Addr} {n c gb : Nat} {data : ByteArray} {tree : List Vl} (h : RdD W w R a n c gb data tree) (hb : Below w.heap.size w w') : RdD W w' R a n c gb data tree where
  bel := h.bel.trans (hb.mono h.bel.size)
  lo := h.lo
  own := by
    obtain ⟨vt, h1, h2⟩ := h.own
    exact ⟨vt, block_below h1 hb, own_below h2 hb⟩
theorem RdD.r0 {W w : World} {R : Nat} {a : Option Addr} {n c gb : Nat} {data : ByteArray} {tree : List Vl} (h : RdD W w R a n c gb data tree) : w.cell? ⟨R, 0, none⟩ = some (.slice a n c) := by
  obtain ⟨_, _, vt, hr, _⟩ := h; unfold ddObj at hr; simp [World.cell?, hr]
theorem RdD.r1 {W w : World} {R : Nat} {a : Option Addr} {n c gb : Nat} {data : ByteArray} {tree : List Vl} (h : RdD W w R a n c gb data tree) : w.cell? ⟨R, 1, none⟩ = some (.slice (some ⟨gb, 0, none⟩) n n) := by
  obtain ⟨_, _, vt, hr, _⟩ := h; unfold ddObj at hr; simp [World.cell?, hr]
theorem RdD.r2 {W w : World} {R : Nat} {a : Option Addr} {n c gb : Nat} {data : ByteArray} {tree : List Vl} (h : RdD W w R a n c gb data tree) : w.cell? ⟨R, 2, none⟩ = some (.string data) := by
  obtain ⟨_, _, vt, hr, _⟩ := h; unfold ddObj at hr; simp [World.cell?, hr]
/-- A store into the reader's tree cell. -/
theorem dd_set {W w : World} {R : Nat} {A : Array Value} {tree : List Vl} {vt : Value} (i : Nat) (u : Value) (hb : Below W.heap.size W w) (hlo : W.heap.size ≤ R) (hg : w.heap[R]? = some (.cells A 144 (0, 0)))
    (ho : w.ownsRow W.heap.size 60 4 vt tree.length (vcells tree)) :
    Below W.heap.size W (w.setCell ⟨R, i, none⟩ u) ∧ (w.setCell ⟨R, i, none⟩ u).heap[R]? = some (.cells (A.setIfInBounds i u) 144 (0, 0)) ∧ (w.setCell ⟨R, i, none⟩ u).ownsRow W.heap.size 60 4 vt tree.length (vcells tree) :=
  ⟨hb.setCell hlo u, heap_setCell_same w R i A _ u hg, ownsRow_setCell_other ho (row_ne hg ho (by decide)) u⟩

set_option maxHeartbeats 2000000 in
set_option maxRecDepth 100000 in
theorem add_any (W w : World) (R : Nat) (a : Option Addr) (n c gb : Nat) (data : ByteArray) (tree : List Vl) (k : Int) (u : ByteArray) (al ki : Int) (h : RdD W w R a n c gb data tree) (hl : tree.length ≤ 1099511627776) :
    Calls Tryz.prog 162 #[.pointer (some ⟨R, 0, none⟩), .agg #[.int .i64 k, .string u, .int .i64 al, .int .i64 ki]] w fun e' w' => e' = .returned (.tuple #[]) ∧ RdD W w' R a n c gb data (tree ++ [⟨k, u, al, ki⟩]) ∧ Fr R w w' := by
  obtain ⟨i0, hi0, hz0, hz1, hz2⟩ := info_parts Tryz.infoVal
  obtain ⟨hb, hlo, vt, hr, ho⟩ := h
  have HB : Hid (Below W.heap.size W w) := hb
  have HO : Hid (w.ownsRow W.heap.size 60 4 vt tree.length (vcells tree)) := ho
  have HR : Hid (w.heap[R]? = some (ddObj a n c gb data vt)) := hr
  unfold ddObj at hr
  have y3 : w.cell? ⟨R, 3, none⟩ = some vt := by simp [World.cell?, hr]
  have f3 : w.frozen? ⟨R, 3, none⟩ = false := by simp [World.frozen?, hr]
  have hRl : R < w.heap.size := lt_of_cell y3
  have hsz : W.heap.size ≤ w.heap.size + 1 + 1 := by have := hb.size; omega
  have HAP : Hid (∀ g cap w3, w3.ownsRow W.heap.size 60 4 (.slice (some ⟨g, 0, none⟩) (tree.length + 1) cap) (tree.length + 1) (vcells tree ++ [.int .i64 k, .string u, .int .i64 al, .int .i64 ki]) → ((w.alloc (.cells #[.int .i64 k, .string u, .int .i64 al, .int .i64 ki] 60)).drew.alloc (.cells #[.int .i64 k, .string u, .int .i64 al, .int .i64 ki] 60)).grownBy w3 vt.ownBlock →
      w3.cell? ⟨R, 3, none⟩ = some vt ∧ w3.frozen? ⟨R, 3, none⟩ = false ∧ RdD W (w3.setCell ⟨R, 3, none⟩ (.slice (some ⟨g, 0, none⟩) (tree.length + 1) cap)) R a n c gb data (tree ++ [⟨k, u, al, ki⟩]) ∧ Fr R w (w3.setCell ⟨R, 3, none⟩ (.slice (some ⟨g, 0, none⟩) (tree.length + 1) cap))) := fun g cap w3 h1 h2 => by
    have old : ∀ j, j < w.heap.size → (some j ≠ vt.ownBlock) → w3.heap[j]? = w.heap[j]? := fun j hj hne => by
      rw [h2.block j (by simp; omega) hne, Below.heap_alloc _ _ _ (by simp; omega)]
      exact Below.heap_alloc w _ _ hj
    have hR3 : w3.heap[R]? = some (ddObj a n c gb data vt) := by
      rw [old R hRl (fun q => row_ne HR.out HO.out (by decide) q.symm)]; exact HR.out
    have hb3 : Below W.heap.size W w3 := by
      have hb0 : Below W.heap.size W ((w.alloc (.cells #[.int .i64 k, .string u, .int .i64 al, .int .i64 ki] 60)).drew.alloc (.cells #[.int .i64 k, .string u, .int .i64 al, .int .i64 ki] 60)) := (HB.out.alloc HB.out.size _).drew.alloc (by have := HB.out.size; simp; omega) _
      exact hb0.grown h2 hb0.size (fun k hk => (HO.out.lt k hk).1)
    have ho3 : w3.ownsRow W.heap.size 60 4 (.slice (some ⟨g, 0, none⟩) (tree.length + 1) cap) (tree ++ [(⟨k, u, al, ki⟩ : Vl)]).length (vcells (tree ++ [(⟨k, u, al, ki⟩ : Vl)])) := by rw [vcells_append, List.length_append]; exact h1
    obtain ⟨b1, r1, o1⟩ := dd_set 3 (.slice (some ⟨g, 0, none⟩) (tree.length + 1) cap) hb3 hlo hR3 ho3
    refine ⟨by unfold ddObj at hR3; simp [World.cell?, hR3], by unfold ddObj at hR3; simp [World.frozen?, hR3], ⟨b1, hlo, _, r1, o1⟩, fun j A T hj hT hg => ?_⟩
    rw [heap_setCell_other _ _ _ _ hj, old j (row_lt hg) (fun q => row_ne hg HO.out hT q.symm)]
    exact hg
  clear hb ho hr
  go_enter Tryz.func162, Tryz.ntmps162
  go_wp2_with fail
  go_region_law (refine step_append_lies _ rfl (.tmp 8) (.tmp 10) 39 rfl W.heap.size 60 i0 Tryz.zeroVal 4 40 Tryz.underlying39 hi0 hz0 hz1 hz2 rfl (by decide) vt tree.length (vcells tree) (by simp [Act.eval, Act.put]) ((HO.out.alloc _).drew.alloc _) ⟨w.heap.size + 1, 0, none⟩ 1 1 [.int .i64 k, .string u, .int .i64 al, .int .i64 ki] (by simp [Act.eval, Act.put]) rfl (by have q := World.news_of_block (heap_alloc_new (w.alloc (.cells #[.int .i64 k, .string u, .int .i64 al, .int .i64 ki] 60)) (.cells #[.int .i64 k, .string u, .int .i64 al, .int .i64 ki] 60)); simpa using q) (by intro u hu; simp at hu; rcases hu with rfl | rfl | rfl | rfl <;> rfl) (by decide) (by unfold maxLen; omega) (by omega) (by simpa using hsz) (w.heap.size + 1 + 1) (by simp) ?_; intro g6 cap6 w6 h61 h62 h63 h64; obtain ⟨e3, q3, hI6, hF6⟩ := HAP.out g6 cap6 w6 h61 h62; have HI6 := hide hI6; have HF6 := hide hF6; clear h61 h62 h63 h64 hI6 hF6)
  all_goals
    go_simp
    go_wp2
    go_returns
    exact ⟨rfl, HI6.out, HF6.out⟩
end Go.Proofs.YtkkicodfpekbgaaGreatDoor

/-! The program's reader: notDeep, expect. -/
namespace Go.Proofs.YtkkicodfpekbgaaGreatDoor
set_option linter.unusedSimpArgs false
set_option linter.unusedVariables false
open Go.RowKit

set_option maxHeartbeats 1000000 in
set_option maxRecDepth 100000 in
theorem notDeep_any (c n : Int) (b : Bool) (pl inn en dp : Int) (w : World) (sn : Sn → Addr) (hs : Sent w sn) :
    Calls Tryz.prog 163 #[.agg #[.int .i64 c, .int .i64 n, .bool b, .int .i64 pl, .int .i64 inn, .int .i64 en], .int .i64 dp] w fun e w' => e = .returned (if 12 < dp then fault pl (sn .Deep) else .nilIface) ∧ Below w.heap.size w w' := by
  have cD := hs.cDeep
  have hgl := lt_of_cell cD
  simp only at hgl
  by_cases h : 12 < dp
  · rw [if_pos h]
    have HAT : Hid (∀ wq, Calls Tryz.prog 60 #[.int .i64 pl, .iface 291 (.pointer (some (sn .Deep)))] wq fun e w' => e = .returned (fault pl (sn .Deep)) ∧ w' = wq) := fun wq => at_any pl _ wq
    unfold fault at HAT ⊢
    go_enter Tryz.func163, Tryz.ntmps163
    go_wp2_with fail
    refine (HAT.out _).mono ?_
    rintro e w1 ⟨rfl, rfl⟩
    go_wp2
    go_ret
    exact ⟨rfl, (Below.refl _ _).alloc (Nat.le_refl _) _⟩
  · rw [if_neg h]
    have h' : dp ≤ 12 := by omega
    clear h
    go_enter Tryz.func163, Tryz.ntmps163
    go_wp2
    go_ret
    exact ⟨rfl, (Below.refl _ _).alloc (Nat.le_refl _) _⟩

/-- What expect answers. -/
def expV (c n : Int) (b : Bool) (wc wn : Int) (wb : Bool) (pl dp : Int) (sn : Sn → Addr) : Value := if ¬ (c = wc ∧ n = wn ∧ b = wb) then fault pl (sn .Tag) else if 12 < dp then fault pl (sn .Deep) else .nilIface

set_option maxHeartbeats 2000000 in
set_option maxRecDepth 100000 in
theorem expect_any (c n : Int) (b : Bool) (pl inn en : Int) (wc wn : Int) (wb : Bool) (dp : Int) (w : World) (sn : Sn → Addr) (hs : Sent w sn) :
    Calls Tryz.prog 116 #[.agg #[.int .i64 c, .int .i64 n, .bool b, .int .i64 pl, .int .i64 inn, .int .i64 en], .agg #[.int .i64 wc, .int .i64 wn, .bool wb], .int .i64 dp] w fun e w' => e = .returned (expV c n b wc wn wb pl dp sn) ∧ Below w.heap.size w w' := by
  have cT := hs.cTag
  have hgl := lt_of_cell cT
  simp only at hgl
  have HS : Hid (Sent w sn) := hs
  have HB0 : Hid (∀ A B, Below w.heap.size w ((w.alloc A).alloc B)) := fun A B => ((Below.refl w.heap.size w).alloc (Nat.le_refl _) A).alloc (by simp) B
  by_cases q : c = wc ∧ n = wn ∧ b = wb
  · have HE : Hid (expV c n b wc wn wb pl dp sn = if 12 < dp then fault pl (sn .Deep) else .nilIface) := by show expV _ _ _ _ _ _ _ _ _ = _; unfold expV; rw [if_neg (fun h => h q)]
    obtain ⟨rfl, rfl, rfl⟩ := q
    have HND : Hid (∀ wq, Sent wq sn → Calls Tryz.prog 163 #[.agg #[.int .i64 c, .int .i64 n, .bool b, .int .i64 pl, .int .i64 inn, .int .i64 en], .int .i64 dp] wq fun e w' => e = .returned (expV c n b c n b pl dp sn) ∧ Below wq.heap.size wq w') := fun wq h => by rw [HE.out]; exact notDeep_any c n b pl inn en dp wq sn h
    generalize expV c n b c n b pl dp sn = r at HND HE ⊢
    clear hs
    go_enter Tryz.func116, Tryz.ntmps116
    go_wp2_with fail
    refine (HND.out _ (HS.out.below (HB0.out _ _))).mono ?_
    rintro e w1 ⟨rfl, hb1⟩
    have HB1 : Hid (Below w.heap.size w w1) := (HB0.out _ _).trans (hb1.mono (HB0.out _ _).size)
    clear hb1
    go_wp2
    go_ret
    exact ⟨rfl, HB1.out⟩
  · have HE : Hid (expV c n b wc wn wb pl dp sn = fault pl (sn .Tag)) := by show expV _ _ _ _ _ _ _ _ _ = _; unfold expV; rw [if_pos q]
    have HAT : Hid (∀ wq, Calls Tryz.prog 60 #[.int .i64 pl, .iface 291 (.pointer (some (sn .Tag)))] wq fun e w' => e = .returned (fault pl (sn .Tag)) ∧ w' = wq) := fun wq => at_any pl _ wq
    have q' : (c == wc) = false ∨ ((c == wc) = true ∧ (n == wn) = false) ∨ ((c == wc) = true ∧ (n == wn) = true ∧ (b == wb) = false) := by
      by_cases q1 : c = wc
      · by_cases q2 : n = wn
        · right; right
          refine ⟨by simp [q1], by simp [q2], ?_⟩
          rw [beq_eq_false_iff_ne]
          exact fun q3 => q ⟨q1, q2, q3⟩
        · right; left; exact ⟨by simp [q1], by simp [q2]⟩
      · left; simp [q1]
    rw [HE.out]
    unfold fault at HAT ⊢
    clear hs q
    rcases q' with e1 | ⟨e1, e2⟩ | ⟨e1, e2, e3⟩
    all_goals
      go_enter Tryz.func116, Tryz.ntmps116
      go_wp2_with fail
      refine (HAT.out _).mono ?_
      rintro e w1 ⟨rfl, rfl⟩
      go_wp2
      go_ret
      exact ⟨rfl, HB0.out _ _⟩
end Go.Proofs.YtkkicodfpekbgaaGreatDoor

/-! The program's reader: which node may begin so; open. -/
namespace Go.Proofs.YtkkicodfpekbgaaGreatDoor
set_option linter.unusedSimpArgs false
set_option linter.unusedVariables false
open Go.RowKit

theorem beg_iff {s : List Nd} {i : Nat} {all : Bool} {ts : List (Int × Int)} (h : BegIs s i all ts) (c m : Int) : Beg s i c m ↔ (all = true ∨ (c, m) ∈ ts) := by
  obtain ⟨_, h1, h2⟩ := h
  rw [h1, h2]
  unfold Beg
  constructor
  · rintro ⟨j, hj, hb⟩
    rcases (begAt_iff _ _ _).1 hb with q | ⟨q1, q2⟩
    · exact .inl ⟨j, hj, q⟩
    · exact .inr ⟨j, hj, q1, q2⟩
  · rintro (⟨j, hj, q⟩ | ⟨j, hj, q1, q2⟩)
    · exact ⟨j, hj, (begAt_iff _ _ _).2 (.inl q)⟩
    · exact ⟨j, hj, (begAt_iff _ _ _).2 (.inr ⟨q1, q2⟩)⟩

set_option maxHeartbeats 2000000 in
set_option maxRecDepth 100000 in
theorem has_any (s : List Nd) (gb i : Nat) (c m : Int) (w : World) (hA : AbR w gb s) (hi : i < s.length) (hn : s.length ≤ 40) :
    Calls Tryz.prog 187 #[.slice (some ⟨gb, 0, none⟩) s.length s.length, .int .i64 i, .agg #[.int .i64 c, .int .i64 m]] w fun e w' => RetO (Beg s i c m) w e w' := by
  obtain ⟨all, ta, tc, ts, p1, p2, p3, p4⟩ := hA i hi
  have hi' : (i : Int) < s.length := by omega
  have hb := beg_iff p4 c m
  have hgl := lt_of_cell p1
  simp only at hgl
  cases all
  · have HB : Hid (Beg s i c m ↔ (c, m) ∈ ts) := by show _ ↔ _; rw [hb]; simp
    obtain ⟨r, hr⟩ := bool_of ((c, m) ∈ ts)
    have HR : Hid (r = true ↔ (c, m) ∈ ts) := hr
    have HB1 : Hid (Below w.heap.size w (w.alloc (.cells #[.int .i64 c, .int .i64 m] 147))) := (Below.refl _ _).alloc (Nat.le_refl _) _
    have HCN : Hid (∀ x : Ext (w.alloc (.cells #[.int .i64 c, .int .i64 m] 147)), Calls Tryz.prog 180 #[.slice ta ts.length tc, .agg #[.int .i64 c, .int .i64 m]] x.v fun e w'' => e = .returned (.bool r) ∧ ∃ y : Ext (w.alloc (.cells #[.int .i64 c, .int .i64 m] 147)), w'' = y.v) := fun x =>
      Ext.callsR hr (contains_any ts ta tc (c, m) x.v (p3.below (Ext.bel HB1.out x)) p4.1)
    have X0 : ∀ x : Ext (w.alloc (.cells #[.int .i64 c, .int .i64 m] 147)), x.v.cell? ⟨gb, i * 2, none⟩ = some (.bool false) := fun x => x.old p1
    have X1 : ∀ x : Ext (w.alloc (.cells #[.int .i64 c, .int .i64 m] 147)), x.v.cell? ⟨gb, i * 2 + 1, none⟩ = some (.slice ta ts.length tc) := fun x => x.old p2
    have X2 : ∀ x : Ext (w.alloc (.cells #[.int .i64 c, .int .i64 m] 147)), x.v.cell? ⟨w.heap.size, 0, none⟩ = some (.int .i64 c) := fun x => x.new rfl
    have X3 : ∀ x : Ext (w.alloc (.cells #[.int .i64 c, .int .i64 m] 147)), x.v.cell? ⟨w.heap.size, 1, none⟩ = some (.int .i64 m) := fun x => x.new rfl
    clear hA hb hr p3 p4
    go_enter Tryz.func187, Tryz.ntmps187
    go_wp2_with fail
    (have ne := ext_ne; refine wp_region_ext (by kernel_rfl) (by kernel_rfl) ?_; (repeat (first | go_big_quiet_skip | (go_big_quiet_want; go_big_quiet_op; first | go_big_quiet_on | (apply Exists.intro; refine ⟨fun x => ?_, ?_⟩; (· (exact HCN.out x)); go_big_quiet_on)))); refine nil_ext ?_)
    intro w5 hb5
    have HB5 : Hid (Below w.heap.size w w5) := HB1.out.trans (hb5.mono HB1.out.size)
    clear X0 X1 X2 X3 hb5
    go_wp2
    go_ret
    exact reto_iff (HR.out.trans HB.out.symm) HB5.out
  · have HB : Hid (Beg s i c m) := hb.2 (.inl rfl)
    clear hA hb p3 p4
    go_enter Tryz.func187, Tryz.ntmps187
    go_wp2_with fail
    go_quiet (fail)
    go_wp2
    go_ret
    exact reto_yes HB.out (below_drewN ((Below.refl _ _).alloc (Nat.le_refl _) _) _)
end Go.Proofs.YtkkicodfpekbgaaGreatDoor

/-! The program's reader: open. -/
namespace Go.Proofs.YtkkicodfpekbgaaGreatDoor
set_option linter.unusedSimpArgs false
set_option linter.unusedVariables false
open Go.RowKit

theorem ex_ex (d : ByteArray) (x y : Nat) (hxy : x ≤ y) (hy : y ≤ d.size) : (d.extract 0 y).extract x (d.extract 0 y).size = d.extract x y := by
  have hs : (d.extract 0 y).size = y := by rw [ex_size]; omega
  rw [hs]
  apply ByteArray.ext
  rw [ByteArray.data_extract, ByteArray.data_extract, ByteArray.data_extract]
  apply Array.ext'
  rw [Array.toList_extract, Array.toList_extract, Array.toList_extract, List.extract_eq_take_drop, List.extract_eq_take_drop, List.extract_eq_take_drop]
  rw [List.drop_zero, Nat.sub_zero, List.drop_take, List.take_take]
  congr 1
  omega
/-- A span's value. -/
def spanV (h : Hd) (x : Nat) : Value := .agg #[.int .i64 h.c, .int .i64 h.n, .bool h.b, .int .i64 x, .int .i64 ((x : Int) + h.s), .int .i64 ((x : Int) + h.s + h.l)]
def span0 : Value := .agg #[.int .i64 0, .int .i64 0, .bool false, .int .i64 0, .int .i64 0, .int .i64 0]

set_option maxHeartbeats 1000000 in
set_option maxRecDepth 100000 in
theorem open_any1 (W w : World) (R : Nat) (a : Option Addr) (n c gb0 : Nat) (data : ByteArray) (tree : List Vl) (x y : Nat) (sn : Sn → Addr) (h : RdD W w R a n c gb0 data tree) (hs : Sent w sn) (hxy : x ≤ y) (hy : y ≤ data.size) (hm : data.size ≤ 140737488355328) :
    Calls Tryz.prog 114 #[.pointer (some ⟨R, 0, none⟩), .int .i64 x, .int .i64 y] w fun e w' => Below w.heap.size w w' ∧
      (((hd (data.extract x y)).1 = 0 ∧ e = .returned (.tuple #[spanV (hd (data.extract x y)).2 x, .nilIface])) ∨ ((hd (data.extract x y)).1 ≠ 0 ∧ e = .returned (.tuple #[span0, errAt x sn (hd (data.extract x y)).1]))) := by
  have r2 := h.r2
  have hRl : R < w.heap.size := lt_of_cell r2
  have hsz0 : (data.extract 0 y).size = y := by rw [ex_size]; omega
  obtain ⟨G, hG⟩ : ∃ G, hd (data.extract x y) = G := ⟨_, rfl⟩
  obtain ⟨ge, gc, gb, gn, gs, gl⟩ := G
  have HRD : Hid (∀ wq, Sent wq sn → Calls Tryz.prog 156 #[.string (data.extract 0 y), .int .i64 x] wq fun e w' => e = .returned (.tuple #[.agg #[.int .i64 gc, .bool gb, .int .i64 gn, .int .i64 gs, .int .i64 gl], errAt x sn ge]) ∧ Below wq.heap.size wq w') := fun wq q => by
    have := read_any (data.extract 0 y) x wq sn q (by omega) (by omega)
    rw [ex_ex data x y hxy hy, hG] at this
    exact this
  have HFO : Hid (∀ wq, Calls Tryz.prog 157 #[.agg #[.int .i64 gc, .bool gb, .int .i64 gn, .int .i64 gs, .int .i64 gl]] wq fun e w' => e = .returned (.agg #[.int .i64 gc, .int .i64 gn, .bool gb]) ∧ Below wq.heap.size wq w') := fun wq => firstOf_any gc gb gn gs gl wq
  have HS : Hid (Sent w sn) := hs
  have HOKH : Hid (ge = 0 → 1 ≤ gs ∧ 0 ≤ gl ∧ gs + gl ≤ (data.extract x y).size) := fun q => by
    have := hd_ok (r := data.extract x y) (by rw [hG]; exact q)
    rw [hG] at this
    exact this
  have hsz1 : (data.extract x y).size = y - x := by rw [ex_size]; omega
  rw [hG]
  simp only
  have hxy' : (x : Int) ≤ y := by omega
  have hy' : (y : Int) ≤ data.size := by omega
  clear hG h hs
  go_enter Tryz.func114, Tryz.ntmps114
  go_wp2_with fail
  refine (HRD.out _ (HS.out.below ((Below.refl _ _).alloc (Nat.le_refl _) _))).mono ?_
  rintro e w1 ⟨rfl, hb1⟩
  have HB1 : Hid (Below w.heap.size w w1) := below_alloc hb1
  have HG1 : Hid (w1.heap[w.heap.size]? = some (.cells #[.int .i64 0, .int .i64 0, .bool false, .int .i64 0, .int .i64 0, .int .i64 0] 151 (0, 0))) := block_below (heap_alloc_new w _) hb1
  have hs1 : w.heap.size < w1.heap.size := row_lt HG1.out
  have z0 : w1.cell? ⟨w.heap.size, 0, none⟩ = some (.int .i64 0) := cell_of_row HG1.out rfl
  have z1 : w1.cell? ⟨w.heap.size, 1, none⟩ = some (.int .i64 0) := cell_of_row HG1.out rfl
  have z2 : w1.cell? ⟨w.heap.size, 2, none⟩ = some (.bool false) := cell_of_row HG1.out rfl
  have z3 : w1.cell? ⟨w.heap.size, 3, none⟩ = some (.int .i64 0) := cell_of_row HG1.out rfl
  have z4 : w1.cell? ⟨w.heap.size, 4, none⟩ = some (.int .i64 0) := cell_of_row HG1.out rfl
  have z5 : w1.cell? ⟨w.heap.size, 5, none⟩ = some (.int .i64 0) := cell_of_row HG1.out rfl
  have f0 : w1.frozen? ⟨w.heap.size, 0, none⟩ = false := by simp [World.frozen?, HG1.out]
  have f1 : w1.frozen? ⟨w.heap.size, 1, none⟩ = false := by simp [World.frozen?, HG1.out]
  have f2 : w1.frozen? ⟨w.heap.size, 2, none⟩ = false := by simp [World.frozen?, HG1.out]
  have f3 : w1.frozen? ⟨w.heap.size, 3, none⟩ = false := by simp [World.frozen?, HG1.out]
  have f4 : w1.frozen? ⟨w.heap.size, 4, none⟩ = false := by simp [World.frozen?, HG1.out]
  have f5 : w1.frozen? ⟨w.heap.size, 5, none⟩ = false := by simp [World.frozen?, HG1.out]
  clear hb1 r2
  by_cases hge : ge = 0
  · subst hge
    have e0 : errAt x sn 0 = .nilIface := by unfold errAt; simp
    obtain ⟨gs0, gl0, gsl⟩ := HOKH.out rfl
    have gsl' : (x : Int) + gs + gl ≤ 140737488355328 := by omega
    rw [e0]
    clear e0 HRD HS HOKH hsz0 hsz1 hxy hy hxy' hy' hm hRl
    go_upto_region 4 with fail
    have HX : Hid (Below w.heap.size w (w1.alloc (.cells #[.int .i64 gc, .bool gb, .int .i64 gn, .int .i64 gs, .int .i64 gl] 179))) := HB1.out.alloc HB1.out.size _
    have hZ : (w1.alloc (.cells #[.int .i64 gc, .bool gb, .int .i64 gn, .int .i64 gs, .int .i64 gl] 179)).heap[w.heap.size]? = some (.cells #[.int .i64 0, .int .i64 0, .bool false, .int .i64 0, .int .i64 0, .int .i64 0] 151 (0, 0)) := (Below.heap_alloc w1 _ _ hs1).trans HG1.out
    have hH : (w1.alloc (.cells #[.int .i64 gc, .bool gb, .int .i64 gn, .int .i64 gs, .int .i64 gl] 179)).heap[w1.heap.size]? = some (.cells #[.int .i64 gc, .bool gb, .int .i64 gn, .int .i64 gs, .int .i64 gl] 179 (0, 0)) := heap_alloc_new w1 _
    clear z0 z1 z2 z3 z4 z5 f0 f1 f2 f3 f4 f5
    generalize w1.alloc (.cells #[.int .i64 gc, .bool gb, .int .i64 gn, .int .i64 gs, .int .i64 gl] 179) = wX at HX hZ hH ⊢
    obtain ⟨hb, hhb⟩ : ∃ hb, w1.heap.size = hb := ⟨_, rfl⟩
    rw [hhb] at hH hs1 ⊢
    have hne : w.heap.size ≠ hb := by omega
    clear hhb HG1 HB1
    have HZ := hide hZ
    have HH := hide hH
    have h3 : wX.cell? ⟨hb, 3, none⟩ = some (.int .i64 gs) := cell_of_row hH rfl
    have hbl : hb < wX.heap.size := row_lt hH
    clear hZ hH
    go_upto_region 5 with fail
    have HSS : Hid (∀ w' : World, w'.heap[hb]? = some (.cells #[.int .i64 gc, .bool gb, .int .i64 gn, .int .i64 gs, .int .i64 gl] 179 (0, 0)) → w'.cell? ⟨hb, 0, none⟩ = some (.int .i64 gc) ∧ w'.cell? ⟨hb, 1, none⟩ = some (.bool gb) ∧ w'.cell? ⟨hb, 2, none⟩ = some (.int .i64 gn) ∧ w'.cell? ⟨hb, 3, none⟩ = some (.int .i64 gs) ∧ w'.cell? ⟨hb, 4, none⟩ = some (.int .i64 gl)) := fun w' q => ⟨cell_of_row q rfl, cell_of_row q rfl, cell_of_row q rfl, cell_of_row q rfl, cell_of_row q rfl⟩
    obtain ⟨p0, p1, p2, p3, p4⟩ := HSS.out _ HH.out
    clear h3
    go_region_held_law (fun w' => w'.cell? ⟨hb, 0, none⟩ = some (.int .i64 gc) ∧ w'.cell? ⟨hb, 1, none⟩ = some (.bool gb) ∧ w'.cell? ⟨hb, 2, none⟩ = some (.int .i64 gn) ∧ w'.cell? ⟨hb, 3, none⟩ = some (.int .i64 gs) ∧ w'.cell? ⟨hb, 4, none⟩ = some (.int .i64 gl)) (go_keep) ((go_at_call 157; refine (HFO.out _).mono ?_; rintro e w2 ⟨rfl, hb2⟩; have hH2 := block_below (w := wX.drew) HH.out hb2; have hZ2 := block_below (w := wX.drew) HZ.out hb2; have HB2 := hide (HX.out.drew.trans (hb2.mono HX.out.drew.size)); obtain ⟨q0, q1, q2, q3, q4⟩ := HSS.out _ hH2; have hlh := row_lt hH2; have hlz := row_lt hZ2; clear hH2; have z0 := cell_of_row (i := 0) hZ2 rfl; have z1 := cell_of_row (i := 1) hZ2 rfl; have z2 := cell_of_row (i := 2) hZ2 rfl; have z3 := cell_of_row (i := 3) hZ2 rfl; have z4 := cell_of_row (i := 4) hZ2 rfl; have z5 := cell_of_row (i := 5) hZ2 rfl; have f0 := frozen_row (i := 0) hZ2; have f1 := frozen_row (i := 1) hZ2; have f2 := frozen_row (i := 2) hZ2; have f3 := frozen_row (i := 3) hZ2; have f4 := frozen_row (i := 4) hZ2; have f5 := frozen_row (i := 5) hZ2; clear hb2 hZ2))
    have hwr : IntKind.i64.wrap ((x : Int) + gs + gl) = (x : Int) + gs + gl := by simp [IntKind.wrap, IntKind.bits, IntKind.signed]; omega
    rw [hwr]
    clear hwr p0 p1 p2 p3 p4 q0 q1 q2 q3 q4
    go_wp2_with fail
    refine bodyPost_ret (v := .tuple #[spanV ⟨gc, gb, gn, gs, gl⟩ x, .nilIface]) (by simp [results, Tryz.results114, go_sem, spanV, z0, z1, z2, z3, z4, z5]) rfl ?_
    refine ⟨?_, by first | exact .inl ⟨rfl, rfl⟩ | rfl⟩
    exact (((((HB2.out.setCell (p := ⟨w.heap.size, 0, none⟩) (Nat.le_refl _) _).setCell (p := ⟨w.heap.size, 1, none⟩) (Nat.le_refl _) _).setCell (p := ⟨w.heap.size, 2, none⟩) (Nat.le_refl _) _).setCell (p := ⟨w.heap.size, 3, none⟩) (Nat.le_refl _) _).setCell (p := ⟨w.heap.size, 4, none⟩) (Nat.le_refl _) _).setCell (p := ⟨w.heap.size, 5, none⟩) (Nat.le_refl _) _
  · have HGE : Hid (ge ≠ 0) := hge
    obtain ⟨za, hv⟩ : ∃ za, errAt x sn ge = fault x za := by
      unfold errAt
      rw [if_neg hge]
      repeat' split
      all_goals exact ⟨_, rfl⟩
    have HV : Hid (errAt x sn ge = fault x za) := hv
    rw [hv]
    unfold fault
    clear hge hv HFO HRD HS HOKH hsz0 hsz1 hxy hy hxy' hy' hm hRl
    go_upto_region 3 with fail
    have HX : Hid (Below w.heap.size w (w1.alloc (.cells #[.int .i64 gc, .bool gb, .int .i64 gn, .int .i64 gs, .int .i64 gl] 179))) := HB1.out.alloc HB1.out.size _
    have hZ : (w1.alloc (.cells #[.int .i64 gc, .bool gb, .int .i64 gn, .int .i64 gs, .int .i64 gl] 179)).heap[w.heap.size]? = some (.cells #[.int .i64 0, .int .i64 0, .bool false, .int .i64 0, .int .i64 0, .int .i64 0] 151 (0, 0)) := (Below.heap_alloc w1 _ _ hs1).trans HG1.out
    clear z0 z1 z2 z3 z4 z5 f0 f1 f2 f3 f4 f5
    generalize w1.alloc (.cells #[.int .i64 gc, .bool gb, .int .i64 gn, .int .i64 gs, .int .i64 gl] 179) = wX at HX hZ ⊢
    have z0 : wX.cell? ⟨w.heap.size, 0, none⟩ = some (.int .i64 0) := cell_of_row hZ rfl
    have z1 : wX.cell? ⟨w.heap.size, 1, none⟩ = some (.int .i64 0) := cell_of_row hZ rfl
    have z2 : wX.cell? ⟨w.heap.size, 2, none⟩ = some (.bool false) := cell_of_row hZ rfl
    have z3 : wX.cell? ⟨w.heap.size, 3, none⟩ = some (.int .i64 0) := cell_of_row hZ rfl
    have z4 : wX.cell? ⟨w.heap.size, 4, none⟩ = some (.int .i64 0) := cell_of_row hZ rfl
    have z5 : wX.cell? ⟨w.heap.size, 5, none⟩ = some (.int .i64 0) := cell_of_row hZ rfl
    have f0 : wX.frozen? ⟨w.heap.size, 0, none⟩ = false := by simp [World.frozen?, hZ]
    have f1 : wX.frozen? ⟨w.heap.size, 1, none⟩ = false := by simp [World.frozen?, hZ]
    have f2 : wX.frozen? ⟨w.heap.size, 2, none⟩ = false := by simp [World.frozen?, hZ]
    have f3 : wX.frozen? ⟨w.heap.size, 3, none⟩ = false := by simp [World.frozen?, hZ]
    have f4 : wX.frozen? ⟨w.heap.size, 4, none⟩ = false := by simp [World.frozen?, hZ]
    have f5 : wX.frozen? ⟨w.heap.size, 5, none⟩ = false := by simp [World.frozen?, hZ]
    clear hZ hs1
    go_wp2_with fail
    refine bodyPost_ret (v := .tuple #[span0, fault x za]) (by simp [results, Tryz.results114, go_sem, span0, fault, z0, z1, z2, z3, z4, z5]) rfl ?_
    refine ⟨?_, .inr ⟨HGE.out, by rw [HV.out]⟩⟩
    exact (((((HX.out.setCell (p := ⟨w.heap.size, 0, none⟩) (Nat.le_refl _) _).setCell (p := ⟨w.heap.size, 1, none⟩) (Nat.le_refl _) _).setCell (p := ⟨w.heap.size, 2, none⟩) (Nat.le_refl _) _).setCell (p := ⟨w.heap.size, 3, none⟩) (Nat.le_refl _) _).setCell (p := ⟨w.heap.size, 4, none⟩) (Nat.le_refl _) _).setCell (p := ⟨w.heap.size, 5, none⟩) (Nat.le_refl _) _
end Go.Proofs.YtkkicodfpekbgaaGreatDoor

/-! The program's reader: what stays, what a method leaves; any. -/
namespace Go.Proofs.YtkkicodfpekbgaaGreatDoor
set_option linter.unusedSimpArgs false
set_option linter.unusedVariables false
open Go.RowKit

/-- What the program reads by: the schema is right and lies in memory, so do the beginnings and the package's variables. -/
structure PC (E : Env) (W : World) (a : Option Addr) (gb : Nat) (sn : Sn → Addr) : Prop where
  sch : Sch W a E.s
  right : RightP E.s
  sok : SchOk E.s
  bg : ∀ i, i < E.s.length → ∀ c m, E.bg i c m = true ↔ Beg E.s i c m
  ok : ∀ k t, E.ok k t = true ↔ ContentOk k t
  size : E.d.size ≤ 4000
  ab : AbR W gb E.s
  lay : Lay W sn
/-- What a method of the reader leaves, by what reading comes to. -/
def AfterD (E : Env) (W : World) (R : Nat) (a : Option Addr) (c gb : Nat) (sn : Sn → Addr) (o : Out) (tree : List Vl) (w : World) (e : Ending) (w' : World) : Prop :=
  Fr R w w' ∧ ((∃ vs z, o = .ok (vs, z) ∧ e = .returned .nilIface ∧ RdD W w' R a E.s.length c gb E.d (tree ++ vs)) ∨
    ∃ k q tree', o = .error (k, q) ∧ e = .returned (fault q (sn (snOf k))) ∧ RdD W w' R a E.s.length c gb E.d tree')
theorem AfterD.of {E : Env} {W : World} {R : Nat} {a : Option Addr} {c gb : Nat} {sn : Sn → Addr} {o : Out} {tree : List Vl} {w w1 w' : World} {e : Ending} (h : AfterD E W R a c gb sn o tree w1 e w') (hf : Fr R w w1) : AfterD E W R a c gb sn o tree w e w' := ⟨hf.trans h.1, h.2⟩
/-- What value answers, with so much fuel. -/
def NodeP (E : Env) (W : World) (R : Nat) (a : Option Addr) (c gb : Nat) (sn : Sn → Addr) (f : Nat) : Prop :=
  ∀ (i x y : Nat) (g : Hd) (dp : Int) (o : Out) (tree : List Vl) (w : World), E.hd x y = (0, g) → rdF E f i x y dp = some o → i < E.s.length → x ≤ y → y ≤ E.d.size → 1 ≤ dp → dp ≤ 13 → Room tree f x y → RdD W w R a E.s.length c gb E.d tree →
    Calls Tryz.prog 78 #[.pointer (some ⟨R, 0, none⟩), .int .i64 i, .int .i64 dp, spanV g x] w fun e w' => AfterD E W R a c gb sn o tree w e w'
/-- A span's cells. -/
abbrev spCells (g : Hd) (x : Nat) : Array Value := #[.int .i64 g.c, .int .i64 g.n, .bool g.b, .int .i64 x, .int .i64 ((x : Int) + g.s), .int .i64 ((x : Int) + g.s + g.l)]

set_option maxHeartbeats 2000000 in
set_option maxRecDepth 100000 in
theorem any_any (E : Env) (W : World) (R : Nat) (a : Option Addr) (c gb : Nat) (sn : Sn → Addr) (hc : PC E W a gb sn) (g : Hd) (x tz : Nat) (dp : Int) (tree : List Vl) (w : World) (htz : (tz : Int) = (x : Int) + g.s + g.l) (hxz : x ≤ tz) (hz : tz ≤ E.d.size) (hroom : tree.length ≤ 1099511627776) (hI : RdD W w R a E.s.length c gb E.d tree) :
    Calls Tryz.prog 159 #[.pointer (some ⟨R, 0, none⟩), .int .i64 dp, spanV g x] w fun e w' => AfterD E W R a c gb sn (if 12 < dp then .error (10, x) else .ok ([⟨14, E.d.extract x tz, 0, 0⟩], tz)) tree w e w' := by
  have HI : Hid (RdD W w R a E.s.length c gb E.d tree) := hI
  have HND : Hid (∀ wq, Below w.heap.size w wq → Calls Tryz.prog 163 #[.agg (spCells g x), .int .i64 dp] wq fun e w' => e = .returned (if 12 < dp then fault x (sn .Deep) else .nilIface) ∧ Below wq.heap.size wq w') := fun wq q => notDeep_any _ _ _ _ _ _ _ wq sn ((hc.lay.below hI.bel).below q).s
  have HAD : Hid (∀ wq, RdD W wq R a E.s.length c gb E.d tree → Calls Tryz.prog 162 #[.pointer (some ⟨R, 0, none⟩), .agg #[.int .i64 14, .string (E.d.extract x tz), .int .i64 0, .int .i64 0]] wq fun e' w' => e' = .returned (.tuple #[]) ∧ RdD W w' R a E.s.length c gb E.d (tree ++ [⟨14, E.d.extract x tz, 0, 0⟩]) ∧ Fr R wq w') := fun wq q => add_any W wq R a _ c gb E.d tree 14 _ 0 0 q hroom
  have hRl : R < w.heap.size := lt_of_cell hI.r0
  have hds := hc.size
  unfold spanV
  rw [← htz]
  unfold spCells at HND
  rw [← htz] at HND
  clear hI hc hroom htz
  by_cases hdp : 12 < dp
  · rw [if_pos hdp]
    have HND' : Hid (∀ wq, Below w.heap.size w wq → Calls Tryz.prog 163 #[.agg #[.int .i64 g.c, .int .i64 g.n, .bool g.b, .int .i64 x, .int .i64 ((x : Int) + g.s), .int .i64 tz], .int .i64 dp] wq fun e w' => e = .returned (fault x (sn .Deep)) ∧ Below wq.heap.size wq w') := fun wq q => by
      have := HND.out wq q
      rw [if_pos hdp] at this
      exact this
    unfold fault at HND'
    clear HND hdp
    go_enter Tryz.func159, Tryz.ntmps159
    go_wp2_with fail
    refine (HND'.out _ ((Below.refl _ _).alloc (Nat.le_refl _) _)).mono ?_
    rintro e w1 ⟨rfl, hb1⟩
    have HB1 : Hid (Below w.heap.size w w1) := below_alloc hb1
    clear hb1
    go_wp2
    go_ret
    exact ⟨Fr.of_below HB1.out, .inr ⟨10, x, tree, rfl, rfl, HI.out.below HB1.out⟩⟩
  · rw [if_neg hdp]
    have HND' : Hid (∀ wq, Below w.heap.size w wq → Calls Tryz.prog 163 #[.agg #[.int .i64 g.c, .int .i64 g.n, .bool g.b, .int .i64 x, .int .i64 ((x : Int) + g.s), .int .i64 tz], .int .i64 dp] wq fun e w' => e = .returned .nilIface ∧ Below wq.heap.size wq w') := fun wq q => by
      have := HND.out wq q
      rw [if_neg hdp] at this
      exact this
    clear HND hdp
    have hxz' : (x : Int) ≤ tz := by omega
    have hz' : (tz : Int) ≤ E.d.size := by omega
    go_enter Tryz.func159, Tryz.ntmps159
    go_wp2_with fail
    refine (HND'.out _ ((Below.refl _ _).alloc (Nat.le_refl _) _)).mono ?_
    rintro e w1 ⟨rfl, hb1⟩
    have HB1 : Hid (Below w.heap.size w w1) := below_alloc hb1
    have HG1 : Hid (w1.heap[w.heap.size]? = some (.cells #[.int .i64 g.c, .int .i64 g.n, .bool g.b, .int .i64 x, .int .i64 ((x : Int) + g.s), .int .i64 tz] 151 (0, 0))) := block_below (heap_alloc_new w _) hb1
    have HI1 : Hid (RdD W w1 R a E.s.length c gb E.d tree) := HI.out.below HB1.out
    clear hb1
    have q1 : w1.cell? ⟨R, 2, none⟩ = some (.string E.d) := HI1.out.r2
    have q2 : w1.cell? ⟨w.heap.size, 3, none⟩ = some (.int .i64 x) := cell_of_row HG1.out rfl
    have q3 : w1.cell? ⟨w.heap.size, 5, none⟩ = some (.int .i64 tz) := cell_of_row HG1.out rfl
    have hR1 : R < w1.heap.size := lt_of_cell q1
    have hB1 : w.heap.size < w1.heap.size := lt_of_cell q2
    have hne : w.heap.size ≠ R := by omega
    go_upto_region 4 with fail
    go_region_held_law (fun w' => w'.cell? ⟨R, 2, none⟩ = some (.string E.d) ∧ w'.cell? ⟨w.heap.size, 3, none⟩ = some (.int .i64 x) ∧ w'.cell? ⟨w.heap.size, 5, none⟩ = some (.int .i64 tz)) (go_keep) ((go_at_call 162; refine (HAD.out _ (HI1.out.below (Below.refl _ _).drew)).mono ?_; rintro e w3 ⟨rfl, hI3, hF3⟩; have p1 := hI3.r2; have hG3 := hF3 _ _ _ hne (by decide) HG1.out; have p2 : w3.cell? ⟨w.heap.size, 3, none⟩ = some (.int .i64 x) := cell_of_row hG3 rfl; have p3 : w3.cell? ⟨w.heap.size, 5, none⟩ = some (.int .i64 tz) := cell_of_row hG3 rfl; have HI3 := hide hI3; have HF3 : Hid (Fr R w w3) := (Fr.of_below (HB1.out.drew)).trans hF3; clear hI3 hF3 hG3))
    go_wp2
    go_ret
    exact ⟨HF3.out, .inl ⟨_, _, rfl, rfl, HI3.out⟩⟩
end Go.Proofs.YtkkicodfpekbgaaGreatDoor

/-! The program's reader: choice. -/
namespace Go.Proofs.YtkkicodfpekbgaaGreatDoor
set_option linter.unusedSimpArgs false
set_option linter.unusedVariables false
open Go.RowKit

/-- A node's cells. -/
abbrev ndCells (n : Nd) (ka : Option Addr) (kc : Nat) : Array Value := #[.int .i64 n.kind, .int .i64 n.tag, .int .i64 n.mode, .slice ka n.kids.length kc]

set_option maxHeartbeats 4000000 in
set_option maxRecDepth 100000 in
theorem choice_p (E : Env) (W : World) (R : Nat) (a : Option Addr) (c gb : Nat) (sn : Sn → Addr) (f : Nat) (hc : PC E W a gb sn) (hN : NodeP E W R a c gb sn f) (i : Nat) (hi : i < E.s.length) (ka : Option Addr) (kc : Nat) (hka : KidsIn W ka (nd E.s i).kids) (hkc : (nd E.s i).kids.length ≤ kc)
    (g : Hd) (x tz : Nat) (dp : Int) (o : Out) (tree : List Vl) (w : World) (hg : E.hd x tz = (0, g)) (hm : choiceF E (rdF E f) g x tz dp (nd E.s i).kids 0 = some o) (hxz : x ≤ tz) (hz : tz ≤ E.d.size) (hd1 : 1 ≤ dp) (hd2 : dp ≤ 13) (hroom : Room tree (f + 1) x tz) (hI : RdD W w R a E.s.length c gb E.d tree) :
    Calls Tryz.prog 158 #[.pointer (some ⟨R, 0, none⟩), .agg (ndCells (nd E.s i) ka kc), .int .i64 dp, spanV g x] w fun e w' => AfterD E W R a c gb sn o tree w e w' := by
  have HC : Hid (PC E W a gb sn) := hc
  have HN : Hid (NodeP E W R a c gb sn f) := hN
  have HG : Hid (E.hd x tz = (0, g)) := hg
  have HKI : Hid (KidsIn W ka (nd E.s i).kids) := hka
  have HM : Hid (choiceF E (rdF E f) g x tz dp ((nd E.s i).kids.drop 0) 0 = some o) := hm
  have HI : Hid (RdD W w R a E.s.length c gb E.d tree) := hI
  have hRl : R < w.heap.size := lt_of_cell hI.r0
  have HRO : Hid (Room tree (f + 1) x tz) := hroom
  have HKR : Hid (∀ j, j < (nd E.s i).kids.length → ∃ t : Nat, (kd (nd E.s i) j).node = t ∧ t < E.s.length) := fun j hj => by
    have := hc.right.fine.within i hi _ (kd_mem hj)
    exact ⟨(kd (nd E.s i) j).node.toNat, by omega, by omega⟩
  have hk8 := hc.right.fine.eight i hi
  have hs40 := hc.right.fine.len
  have HAT : Hid (∀ wq, Calls Tryz.prog 60 #[.int .i64 x, .iface 291 (.pointer (some (sn .Tag)))] wq fun e w' => e = .returned (fault x (sn .Tag)) ∧ w' = wq) := fun wq => at_any x _ wq
  unfold fault at HAT
  have HA : Hid (∀ A B, Below w.heap.size w ((w.alloc A).alloc B)) := fun A B => ((Below.refl w.heap.size w).alloc (Nat.le_refl _) A).alloc (by simp) B
  clear hc hN hka hm hI hroom hi hg
  unfold spanV ndCells
  go_enter Tryz.func158, Tryz.ntmps158
  go_wp2
  generalize hW0 : (w.alloc (.cells #[.int .i64 (nd E.s i).kind, .int .i64 (nd E.s i).tag, .int .i64 (nd E.s i).mode, .slice ka (nd E.s i).kids.length kc] 58)).alloc (.cells #[.int .i64 g.c, .int .i64 g.n, .bool g.b, .int .i64 x, .int .i64 ((x : Int) + g.s), .int .i64 ((x : Int) + g.s + g.l)] 151) = w0
  have HB0 : Hid (Below w.heap.size w w0) := by show Below w.heap.size w w0; rw [← hW0]; exact HA.out _ _
  have HG2 : Hid (w0.heap[w.heap.size + 1]? = some (.cells (spCells g x) 151 (0, 0))) := by
    show w0.heap[w.heap.size + 1]? = _
    rw [← hW0]
    have q := heap_alloc_new (w.alloc (.cells #[.int .i64 (nd E.s i).kind, .int .i64 (nd E.s i).tag, .int .i64 (nd E.s i).mode, .slice ka (nd E.s i).kids.length kc] 58)) (.cells (spCells g x) 151)
    simpa using q
  have HI0 : Hid (RdD W w0 R a E.s.length c gb E.d tree) := HI.out.below HB0.out
  clear hW0 HA
  go_loopw [14] (fun vj wq => ∃ j : Nat, j ≤ (nd E.s i).kids.length ∧ vj = .int .i64 j ∧ choiceF E (rdF E f) g x tz dp ((nd E.s i).kids.drop j) j = some o ∧ Below w0.heap.size w0 wq) (fun vj _ => (nd E.s i).kids.length - (intOf vj).toNat)
  case atStart => exact ⟨0, Nat.zero_le _, rfl, HM.out, Below.refl _ _⟩
  case round =>
    obtain ⟨j, hj, rfl, hmj, hbr⟩ := hrel
    have HMJ : Hid (choiceF E (rdF E f) g x tz dp ((nd E.s i).kids.drop j) j = some o) := hmj
    have HB : Hid (Below w0.heap.size w0 wr) := hbr
    have HIr : Hid (RdD W wr R a E.s.length c gb E.d tree) := HI0.out.below hbr
    have HFr : Hid (Fr R w wr) := (Fr.of_below HB0.out).below hbr
    have HR2 : Hid (wr.heap[w.heap.size + 1]? = some (.cells (spCells g x) 151 (0, 0))) := block_below HG2.out hbr
    have hB2 : w.heap.size + 1 < wr.heap.size := row_lt HR2.out
    clear hmj hbr
    by_cases hlt : j < (nd E.s i).kids.length
    · have hlt' : (j : Int) < (nd E.s i).kids.length := by omega
      obtain ⟨kb, ko, rfl, kcl⟩ := HKI.out j hlt
      obtain ⟨t, ht, htl⟩ := HKR.out j hlt
      obtain ⟨k1, k2, k3⟩ := kcl.below HIr.out.bel
      obtain ⟨ko2, hko2⟩ : ∃ b, ((nd E.s i).kids.getD j kd0).opt = b := ⟨_, rfl⟩
      obtain ⟨kd2, hkd2⟩ : ∃ b, ((nd E.s i).kids.getD j kd0).dflt = b := ⟨_, rfl⟩
      have ht2 : ((nd E.s i).kids.getD j kd0).node = t := ht
      rw [ht2] at k1
      rw [hko2] at k2
      rw [hkd2] at k3
      have htn : (kd (nd E.s i) j).node.toNat = t := by omega
      have HT : Hid ((kd (nd E.s i) j).node.toNat = t) := htn
      have hkbl : kb < wr.heap.size := lt_of_cell k1
      clear kcl ht htn ht2 hko2 hkd2
      go_upto_region 4 with fail
      generalize hW4 : wr.alloc (.cells #[.int .i64 t, .bool ko2, .string kd2] 55) = w4
      have HB4 : Hid (Below wr.heap.size wr w4) := by show Below wr.heap.size wr w4; rw [← hW4]; exact (Below.refl _ _).alloc (Nat.le_refl _) _
      have HK4 : Hid (w4.heap[wr.heap.size]? = some (.cells #[.int .i64 t, .bool ko2, .string kd2] 55 (0, 0))) := by show w4.heap[wr.heap.size]? = _; rw [← hW4]; exact heap_alloc_new wr _
      have HS4 : Hid (w4.heap[w.heap.size + 1]? = some (.cells (spCells g x) 151 (0, 0))) := block_below HR2.out HB4.out
      have HI4 : Hid (RdD W w4 R a E.s.length c gb E.d tree) := HIr.out.below HB4.out
      clear hW4 k1 k2 k3
      have HBG : Hid (∀ x : Ext w4, Calls Tryz.prog 187 #[.slice (some ⟨gb, 0, none⟩) E.s.length E.s.length, .int .i64 t, .agg #[.int .i64 g.c, .int .i64 g.n]] x.v fun e w'' => e = .returned (.bool (E.bg t g.c g.n)) ∧ ∃ y : Ext w4, w'' = y.v) := fun x =>
        Ext.callsR (HC.out.bg t htl g.c g.n) (has_any E.s gb t g.c g.n x.v (HC.out.ab.below (HI4.out.bel.trans (x.h.mono HI4.out.bel.size))) htl hs40)
      have X0 : ∀ x : Ext w4, x.v.cell? ⟨R, 1, none⟩ = some (.slice (some ⟨gb, 0, none⟩) E.s.length E.s.length) := fun x => x.cell HI4.out.r1
      have X2 : ∀ x : Ext w4, x.v.cell? ⟨wr.heap.size, 0, none⟩ = some (.int .i64 t) := fun x => x.cell (cell_of_row HK4.out rfl)
      have X3 : ∀ y : Ext w4, y.v.cell? ⟨w.heap.size + 1, 0, none⟩ = some (.int .i64 g.c) := fun y => y.cell (cell_of_row HS4.out rfl)
      have X4 : ∀ y : Ext w4, y.v.cell? ⟨w.heap.size + 1, 1, none⟩ = some (.int .i64 g.n) := fun y => y.cell (cell_of_row HS4.out rfl)
      (have ne := ext_ne; refine wp_region_ext (by kernel_rfl) (by kernel_rfl) ?_; (repeat (first | go_big_quiet_skip | (go_big_quiet_want; go_big_quiet_op; first | go_big_quiet_on | (apply Exists.intro; refine ⟨fun x => ?_, ?_⟩; (· (exact HBG.out x)); go_big_quiet_on)))); refine nil_ext ?_)
      intro w5 hb5
      have HB5 : Hid (Below wr.heap.size wr w5) := HB4.out.trans (hb5.mono HB4.out.size)
      have HI5 : Hid (RdD W w5 R a E.s.length c gb E.d tree) := HI4.out.below hb5
      have HF5 : Hid (Fr R w w5) := HFr.out.below HB5.out
      have HK5 : Hid (w5.heap[wr.heap.size]? = some (.cells #[.int .i64 t, .bool ko2, .string kd2] 55 (0, 0))) := block_below HK4.out hb5
      have HS5 : Hid (w5.heap[w.heap.size + 1]? = some (.cells (spCells g x) 151 (0, 0))) := block_below HS4.out hb5
      clear X0 X2 X3 X4 hb5 HBG HB4 HK4 HS4 HI4
      cases hbg : E.bg t g.c g.n
      · have HNX : Hid (choiceF E (rdF E f) g x tz dp ((nd E.s i).kids.drop (j + 1)) (j + 1) = some o) := choiceF_no hlt HMJ.out (by rw [HT.out]; exact hbg)
        clear hbg
        go_wp2
        go_roundw
        case rel => exact ⟨j + 1, by omega, by go_num, HNX.out, HB.out.trans (HB5.out.mono HB.out.size)⟩
        case measure => simp [intOf]; omega
      · obtain ⟨o', hr, ho⟩ := choiceF_yes hlt HMJ.out (by rw [HT.out]; exact hbg)
        rw [HT.out] at hr
        have HREC : Hid (rdF E f t x tz dp = some o') := hr
        have HO : Hid ((∃ u, o' = .error u ∧ o = .error u) ∨ ∃ vs z, o' = .ok (vs, z) ∧ o = .ok (⟨13, noB, j, 1⟩ :: vs, tz)) := ho
        clear hbg hr ho
        have hl1 : tree.length ≤ 1099511627776 := by have := HRO.out; unfold Room at this; omega
        have HRO2 : Hid (Room (tree ++ [⟨13, ⟨#[]⟩, (j : Int), 1⟩]) f x tz) := by show Room _ _ _ _; have := HRO.out; unfold Room at this ⊢; simp only [List.length_append, List.length_cons, List.length_nil]; omega
        have hkl : wr.heap.size < w5.heap.size := row_lt HK5.out
        have hne1 : wr.heap.size ≠ R := by have := HB0.out.size; have := HB.out.size; omega
        have hne2 : w.heap.size + 1 ≠ R := by omega
        go_wp2_with fail
        refine (add_any W _ R a E.s.length c gb E.d tree 13 ⟨#[]⟩ j 1 HI5.out hl1).mono ?_
        rintro e w6 ⟨rfl, hI6, hf6⟩
        have HI6 : Hid (RdD W w6 R a E.s.length c gb E.d (tree ++ [⟨13, ⟨#[]⟩, (j : Int), 1⟩])) := hI6
        have HF6 : Hid (Fr R w w6) := HF5.out.trans hf6
        have hK6 := hf6 _ _ _ hne1 (by decide) HK5.out
        have hS6 := hf6 _ _ _ hne2 (by decide) HS5.out
        have m0 : w6.cell? ⟨wr.heap.size, 0, none⟩ = some (.int .i64 t) := cell_of_row hK6 rfl
        have s0 : w6.cell? ⟨w.heap.size + 1, 0, none⟩ = some (.int .i64 g.c) := cell_of_row hS6 rfl
        have s1 : w6.cell? ⟨w.heap.size + 1, 1, none⟩ = some (.int .i64 g.n) := cell_of_row hS6 rfl
        have s2 : w6.cell? ⟨w.heap.size + 1, 2, none⟩ = some (.bool g.b) := cell_of_row hS6 rfl
        have s3 : w6.cell? ⟨w.heap.size + 1, 3, none⟩ = some (.int .i64 x) := cell_of_row hS6 rfl
        have s4 : w6.cell? ⟨w.heap.size + 1, 4, none⟩ = some (.int .i64 ((x : Int) + g.s)) := cell_of_row hS6 rfl
        have s5 : w6.cell? ⟨w.heap.size + 1, 5, none⟩ = some (.int .i64 ((x : Int) + g.s + g.l)) := cell_of_row hS6 rfl
        clear hI6 hf6 hK6 hS6
        go_wp2_with fail
        refine (HN.out t x tz g dp o' _ _ HG.out HREC.out htl hxz hz hd1 hd2 HRO2.out HI6.out).mono ?_
        rintro e w7 ha7
        have HA7 : Hid (AfterD E W R a c gb sn o' (tree ++ [⟨13, ⟨#[]⟩, (j : Int), 1⟩]) w6 e w7) := ha7
        clear ha7 m0 s0 s1 s2 s3 s4 s5
        have HFIN : Hid (∀ e, AfterD E W R a c gb sn o' (tree ++ [⟨13, ⟨#[]⟩, (j : Int), 1⟩]) w6 e w7 → AfterD E W R a c gb sn o tree w e w7) := fun e q => by
          obtain ⟨q1, q2⟩ := q
          refine ⟨HF6.out.trans q1, ?_⟩
          rcases HO.out with ⟨u, hu, ho⟩ | ⟨vs, z, hu, ho⟩
          · rcases q2 with ⟨vs, z, q3, _⟩ | ⟨k, q, tr, q3, q4, q5⟩
            · rw [hu] at q3; cases q3
            · exact .inr ⟨k, q, tr, by rw [ho, ← hu, q3], q4, q5⟩
          · rcases q2 with ⟨vs', z', q3, q4, q5⟩ | ⟨k, q, tr, q3, _⟩
            · rw [hu] at q3
              cases q3
              refine .inl ⟨_, _, ho, q4, ?_⟩
              rw [List.append_assoc] at q5
              exact q5
            · rw [hu] at q3; cases q3
        have hcase : (e = .returned .nilIface) ∨ ∃ q z, e = .returned (fault q z) := by
          rcases HA7.out.2 with ⟨_, _, _, q4, _⟩ | ⟨k, q, _, _, q4, _⟩
          · exact .inl q4
          · exact .inr ⟨q, _, q4⟩
        rcases hcase with rfl | ⟨q, za, rfl⟩
        · go_wp2
          go_ret
          exact HFIN.out _ HA7.out
        · unfold fault
          go_wp2
          go_ret
          exact HFIN.out _ HA7.out
    · have hlt' : ¬ (j : Int) < (nd E.s i).kids.length := by omega
      have ho : o = .error (4, (x : Int)) := by
        have q := HMJ.out
        rw [List.drop_eq_nil_of_le (by omega)] at q
        unfold choiceF at q
        cases q
        rfl
      have HO : Hid (o = .error (4, (x : Int))) := ho
      have cT := (HC.out.lay.below HIr.out.bel).s.cTag
      have hgl := lt_of_cell cT
      simp only at hgl
      have s3 : wr.cell? ⟨w.heap.size + 1, 3, none⟩ = some (.int .i64 x) := cell_of_row HR2.out rfl
      clear ho
      go_wp2_with fail
      refine (HAT.out _).mono ?_
      rintro e w6 ⟨rfl, rfl⟩
      go_wp2
      go_ret
      exact ⟨HFr.out, .inr ⟨4, x, tree, HO.out, rfl, HIr.out⟩⟩
end Go.Proofs.YtkkicodfpekbgaaGreatDoor

/-! The program's reader: list. -/
namespace Go.Proofs.YtkkicodfpekbgaaGreatDoor
set_option linter.unusedSimpArgs false
set_option linter.unusedVariables false
open Go.RowKit

theorem RdD.r3 {W w : World} {R : Nat} {a : Option Addr} {n c gb : Nat} {data : ByteArray} {tree : List Vl} (h : RdD W w R a n c gb data tree) : ∃ va vc, w.cell? ⟨R, 3, none⟩ = some (.slice va tree.length vc) := by
  obtain ⟨_, _, vt, hr, ho⟩ := h
  obtain ⟨va, vc, rfl, _⟩ := own_form ho
  unfold ddObj at hr
  exact ⟨va, vc, by simp [World.cell?, hr]⟩
/-- The cell that holds how many kids a value has, and a store there. -/
theorem RdD.bump {W w : World} {R : Nat} {a : Option Addr} {n c gb : Nat} {data : ByteArray} {tree acc : List Vl} {v : Vl} (h : RdD W w R a n c gb data (tree ++ v :: acc)) :
    ∃ g cap, w.cell? ⟨R, 3, none⟩ = some (.slice (some ⟨g, 0, none⟩) (tree ++ v :: acc).length cap) ∧ w.cell? ⟨g, tree.length * 4 + 3, none⟩ = some (.int .i64 v.kids) ∧ w.frozen? ⟨g, tree.length * 4 + 3, none⟩ = false ∧
      ∀ k : Int, RdD W (w.setCell ⟨g, tree.length * 4 + 3, none⟩ (.int .i64 k)) R a n c gb data (tree ++ ⟨v.kind, v.text, v.alt, k⟩ :: acc) ∧ Fr R w (w.setCell ⟨g, tree.length * 4 + 3, none⟩ (.int .i64 k)) := by
  obtain ⟨hb, hlo, vt, hr, ho⟩ := h
  obtain ⟨g, cap, rfl⟩ : ∃ g cap, vt = .slice (some ⟨g, 0, none⟩) (tree ++ v :: acc).length cap := by
    obtain ⟨g, cap, q⟩ := ho.form (by simp only [List.length_append, List.length_cons]; omega)
    exact ⟨g, cap, q.1⟩
  have hgR : g ≠ R := fun q => row_ne hr ho (by decide) (by simp [Value.ownBlock, q])
  have hlt := (ho.lt g rfl)
  have hT : ∃ cur, w.heap[g]? = some (.cells cur 60 (0, 0)) := by
    rcases ho.2 with ⟨q, _⟩ | ⟨g', cap', cur, q, _, q2, _⟩
    · cases q
    · injection q with q; injection q with q; injection q with q; subst q; exact ⟨cur, q2⟩
  refine ⟨g, cap, ?_, ?_, ?_, fun k => ⟨⟨hb.setCell hlt.1 _, hlo, .slice (some ⟨g, 0, none⟩) (tree ++ v :: acc).length cap, ?_, ?_⟩, ?_⟩⟩
  · unfold ddObj at hr; simp [World.cell?, hr]
  · rw [ho.cellAt _ (by simp only [List.length_append, List.length_cons]; omega)]; exact vcells_at tree v acc
  · exact ho.frozenAt _
  · rw [heap_setCell_other _ _ _ _ (Ne.symm hgR)]; exact hr
  · have := (ho.stored (tree.length * 4 + 3) (.int .i64 k)).1
    rw [vcells_set] at this
    simpa using this
  · intro j A T hj hTn hA
    obtain ⟨cur, hcur⟩ := hT
    have hne : j ≠ g := fun q => by
      subst q; rw [hcur] at hA; injection hA with hA; injection hA with _ q _; exact hTn q.symm
    rw [heap_setCell_other _ _ _ _ hne]; exact hA
theorem rdF_head_err {E : Env} {f i x y : Nat} {dp : Int} {o : Out} (e : rdF E f i x y dp = some o) (h : (E.hd x y).1 ≠ 0) : o = .error ((E.hd x y).1, (x : Int)) := by
  cases f with
  | zero => cases e
  | succ f => unfold rdF at e; rw [if_pos h] at e; exact (Option.some.inj e).symm
/-- Behind some of many elements. -/
def ManyP (E : Env) (W : World) (R : Nat) (a : Option Addr) (c gb f : Nat) (kset : Bool) (t x tz : Nat) (dp kind : Int) (o : Except (Int × Int) (Nat × List Vl)) (tree : List Vl) (x' : Nat) (last : ByteArray) (wq : World) : Prop :=
  ∃ (m j : Nat) (acc : List Vl), manyF E (rdF E f) kset t tz (dp + 1) m x' last j acc = some o ∧ RdD W wq R a E.s.length c gb E.d (tree ++ ⟨kind, ⟨#[]⟩, 0, (j : Int)⟩ :: acc) ∧ acc.length ≤ 100 * (x' - x) ∧ j ≤ x' - x

set_option maxHeartbeats 8000000 in
set_option maxRecDepth 100000 in
theorem list_p (E : Env) (W : World) (R : Nat) (a : Option Addr) (c gb : Nat) (sn : Sn → Addr) (f : Nat) (hc : PC E W a gb sn) (hN : NodeP E W R a c gb sn f) (i : Nat) (hi : i < E.s.length) (hk : (nd E.s i).kind = 11 ∨ (nd E.s i).kind = 12) (ka : Option Addr) (kc : Nat) (hka : KidsIn W ka (nd E.s i).kids) (hkc : (nd E.s i).kids.length ≤ kc)
    (g : Hd) (x0 x tz m : Nat) (dp : Int) (o : Except (Int × Int) (Nat × List Vl)) (tree : List Vl) (w : World) (hx0 : (x : Int) = (x0 : Int) + g.s) (htz : (tz : Int) = (x0 : Int) + g.s + g.l) (hm : manyF E (rdF E f) (decide ((nd E.s i).kind = 12)) (kd (nd E.s i) 0).node.toNat tz (dp + 1) m x noB 0 [] = some o) (hxz : x ≤ tz) (hz : tz ≤ E.d.size) (hd1 : 1 ≤ dp) (hd2 : dp ≤ 12) (hroom : Room tree (f + 1) x tz) (hI : RdD W w R a E.s.length c gb E.d tree) :
    Calls Tryz.prog 161 #[.pointer (some ⟨R, 0, none⟩), .agg (ndCells (nd E.s i) ka kc), .int .i64 dp, spanV g x0] w fun e w' => AfterD E W R a c gb sn (OutM (nd E.s i).kind tz o) tree w e w' := by
  have HC : Hid (PC E W a gb sn) := hc
  have HN : Hid (NodeP E W R a c gb sn f) := hN
  have HI : Hid (RdD W w R a E.s.length c gb E.d tree) := hI
  have hRl : R < w.heap.size := lt_of_cell hI.r0
  have HRO : Hid (Room tree (f + 1) x tz) := hroom
  have h1 := hc.right.fine.one i hi hk
  obtain ⟨kb, ko, rfl, kcl⟩ := hka 0 (by omega)
  have hkr := hc.right.fine.within i hi _ (kd_mem (n := nd E.s i) (i := 0) (by omega))
  obtain ⟨t, ht⟩ : ∃ t : Nat, (kd (nd E.s i) 0).node = t := ⟨(kd (nd E.s i) 0).node.toNat, by omega⟩
  have htl : t < E.s.length := by omega
  have htn : (kd (nd E.s i) 0).node.toNat = t := by omega
  have k0 : W.cell? ⟨kb, ko, none⟩ = some (.int .i64 t) := by rw [← ht]; have := kcl.node; rw [Nat.zero_mul, Nat.add_zero] at this; exact this
  have hkl : (0 : Int) < (nd E.s i).kids.length := by omega
  rw [htn] at hm
  obtain ⟨kset, hks⟩ : ∃ b : Bool, b = decide ((nd E.s i).kind = 12) := ⟨_, rfl⟩
  have hkb : ((nd E.s i).kind == 12) = kset := by rw [hks]; exact rfl
  rw [← hks] at hm
  have HM : Hid (manyF E (rdF E f) kset t tz (dp + 1) m x noB 0 [] = some o) := hm
  have hl0 : tree.length ≤ 1099511627776 := by unfold Room at hroom; omega
  have HKN : Hid (W.cell? ⟨kb, ko, none⟩ = some (.int .i64 t)) := k0
  have hds := hc.size
  have HAT : Hid (∀ (x' : Nat) wq, Calls Tryz.prog 60 #[.int .i64 x', .iface 291 (.pointer (some (sn .Order)))] wq fun e w' => e = .returned (fault x' (sn .Order)) ∧ w' = wq) := fun x' wq => at_any x' _ wq
  unfold fault at HAT
  have HA : Hid (∀ A B, Below w.heap.size w ((w.alloc A).alloc B)) := fun A B => ((Below.refl w.heap.size w).alloc (Nat.le_refl _) A).alloc (by simp) B
  unfold spanV ndCells
  rw [← htz, ← hx0]
  clear hc hN hka hm hI hroom hi hk kcl hkr ht htn hks k0 h1 hx0 htz
  generalize hW0 : (w.alloc (.cells #[.int .i64 (nd E.s i).kind, .int .i64 (nd E.s i).tag, .int .i64 (nd E.s i).mode, .slice (some ⟨kb, ko, none⟩) (nd E.s i).kids.length kc] 58)).alloc (.cells #[.int .i64 g.c, .int .i64 g.n, .bool g.b, .int .i64 x0, .int .i64 x, .int .i64 tz] 151) = w0
  have HB0 : Hid (Below w.heap.size w w0) := by show Below w.heap.size w w0; rw [← hW0]; exact HA.out _ _
  have HG1 : Hid (w0.heap[w.heap.size]? = some (.cells #[.int .i64 (nd E.s i).kind, .int .i64 (nd E.s i).tag, .int .i64 (nd E.s i).mode, .slice (some ⟨kb, ko, none⟩) (nd E.s i).kids.length kc] 58 (0, 0))) := by
    show w0.heap[w.heap.size]? = _
    rw [← hW0]; exact block_below (heap_alloc_new w _) ((Below.refl _ _).alloc (Nat.le_refl _) _)
  have HG2 : Hid (w0.heap[w.heap.size + 1]? = some (.cells #[.int .i64 g.c, .int .i64 g.n, .bool g.b, .int .i64 x0, .int .i64 x, .int .i64 tz] 151 (0, 0))) := by
    show w0.heap[w.heap.size + 1]? = _
    rw [← hW0]
    have q := heap_alloc_new (w.alloc (.cells #[.int .i64 (nd E.s i).kind, .int .i64 (nd E.s i).tag, .int .i64 (nd E.s i).mode, .slice (some ⟨kb, ko, none⟩) (nd E.s i).kids.length kc] 58)) (.cells #[.int .i64 g.c, .int .i64 g.n, .bool g.b, .int .i64 x0, .int .i64 x, .int .i64 tz] 151)
    simpa using q
  have HI0 : Hid (RdD W w0 R a E.s.length c gb E.d tree) := HI.out.below HB0.out
  have HW0 := hide hW0
  clear hW0 HA
  obtain ⟨va, vc, r3⟩ := HI0.out.r3
  have hR0 : R < w0.heap.size := lt_of_cell r3
  have n0 : w0.cell? ⟨w.heap.size, 0, none⟩ = some (.int .i64 (nd E.s i).kind) := cell_of_row HG1.out rfl
  go_enter Tryz.func161, Tryz.ntmps161
  go_upto_region 1 with fail
  rw [HW0.out]
  clear HW0
  go_wp2_with fail
  refine (add_any W _ R a E.s.length c gb E.d tree (nd E.s i).kind ⟨#[]⟩ 0 0 HI0.out hl0).mono ?_
  rintro e w1 ⟨rfl, hI1, hf1⟩
  have HI1 : Hid (RdD W w1 R a E.s.length c gb E.d (tree ++ [⟨(nd E.s i).kind, ⟨#[]⟩, 0, 0⟩])) := hI1
  have HF1 : Hid (Fr R w w1) := (Fr.of_below HB0.out).trans hf1
  have hn1 : w.heap.size ≠ R := by omega
  have hn2 : w.heap.size + 1 ≠ R := by omega
  have HN1 := hide (hf1 _ _ _ hn1 (by decide) HG1.out)
  have HN2 := hide (hf1 _ _ _ hn2 (by decide) HG2.out)
  have s4 : w1.cell? ⟨w.heap.size + 1, 4, none⟩ = some (.int .i64 x) := cell_of_row HN2.out rfl
  have hl2 : w.heap.size + 1 < w1.heap.size := lt_of_cell s4
  clear hI1 hf1 r3 n0 hR0
  go_wp2
  go_loopw [10, 11] (fun vl vp wq => ∃ (x' : Nat) (last : ByteArray), vl = .string last ∧ vp = .int .i64 x' ∧ x ≤ x' ∧ x' ≤ tz ∧ Fr R w wq ∧ wq.heap[w.heap.size]? = some (.cells #[.int .i64 (nd E.s i).kind, .int .i64 (nd E.s i).tag, .int .i64 (nd E.s i).mode, .slice (some ⟨kb, ko, none⟩) (nd E.s i).kids.length kc] 58 (0, 0)) ∧ wq.heap[w.heap.size + 1]? = some (.cells #[.int .i64 g.c, .int .i64 g.n, .bool g.b, .int .i64 x0, .int .i64 x, .int .i64 tz] 151 (0, 0)) ∧ ManyP E W R a c gb f kset t x tz dp (nd E.s i).kind o tree x' last wq) (fun _ vp _ => tz - (intOf vp).toNat)
  case atStart => exact ⟨x, ⟨#[]⟩, rfl, rfl, Nat.le_refl _, hxz, HF1.out, HN1.out, HN2.out, ⟨m, 0, [], HM.out, HI1.out, by simp, by omega⟩⟩
  case round =>
    obtain ⟨x', last, rfl, rfl, hx1, hx2, hfr, hb1, hb2, hrun⟩ := hrel
    have HFR : Hid (Fr R w wr) := hfr
    have HX1 : Hid (wr.heap[w.heap.size]? = some (.cells #[.int .i64 (nd E.s i).kind, .int .i64 (nd E.s i).tag, .int .i64 (nd E.s i).mode, .slice (some ⟨kb, ko, none⟩) (nd E.s i).kids.length kc] 58 (0, 0))) := hb1
    have HX2 : Hid (wr.heap[w.heap.size + 1]? = some (.cells #[.int .i64 g.c, .int .i64 g.n, .bool g.b, .int .i64 x0, .int .i64 x, .int .i64 tz] 151 (0, 0))) := hb2
    obtain ⟨m', j, acc, hmm, hIr, hacc, hjx⟩ := hrun
    have HMM : Hid (manyF E (rdF E f) kset t tz (dp + 1) m' x' last j acc = some o) := hmm
    have HIR : Hid (RdD W wr R a E.s.length c gb E.d (tree ++ ⟨(nd E.s i).kind, ⟨#[]⟩, 0, (j : Int)⟩ :: acc)) := hIr
    have s5 : wr.cell? ⟨w.heap.size + 1, 5, none⟩ = some (.int .i64 tz) := cell_of_row hb2 rfl
    have hl5 : w.heap.size + 1 < wr.heap.size := lt_of_cell s5
    have hRr : R < wr.heap.size := lt_of_cell hIr.r0
    clear hmm hIr hfr hb1 hb2 s4 hl2
    by_cases hlt : x' < tz
    · have hlt' : (x' : Int) < tz := by omega
      obtain ⟨o', hrec, ho⟩ := manyF_on HMM.out hlt
      have HREC : Hid (rdF E f t x' tz (dp + 1) = some o') := hrec
      have HO : Hid ((∃ u, o' = .error u ∧ o = .error u) ∨ ∃ vs z, o' = .ok (vs, z) ∧ ((kset = true ∧ below (E.d.extract x' z) last = true ∧ o = .error (8, (x' : Int))) ∨ (¬ (kset = true ∧ below (E.d.extract x' z) last = true) ∧ ∃ m', manyF E (rdF E f) kset t tz (dp + 1) m' z (E.d.extract x' z) (j + 1) (acc ++ vs) = some o))) := ho
      have HRO2 : Hid (Room (tree ++ ⟨(nd E.s i).kind, ⟨#[]⟩, 0, (j : Int)⟩ :: acc) f x' tz) := by
        show Room _ _ _ _
        have := HRO.out
        unfold Room at this ⊢
        simp only [List.length_append, List.length_cons]
        omega
      have HOP := hide (open_any1 W wr R a E.s.length c gb E.d _ x' tz sn HIR.out (HC.out.lay.below HIR.out.bel).s (by omega) hz (by omega))
      clear hrec ho
      go_wp2_with fail
      refine HOP.out.mono ?_
      rintro e w4 ⟨hb4, h4⟩
      have HB4 := hide hb4
      clear HOP hb4
      rcases h4 with ⟨h40, rfl⟩ | ⟨h40, rfl⟩
      · obtain ⟨h, hh⟩ : ∃ h, (hd (E.d.extract x' tz)).2 = h := ⟨_, rfl⟩
        have HHD : Hid (E.hd x' tz = (0, h)) := by
          show E.hd x' tz = (0, h)
          unfold Env.hd
          rw [← h40, ← hh]
        rw [hh]
        clear h40 hh
        obtain ⟨z, hzf⟩ : ∃ z, z = fin x' h := ⟨_, rfl⟩
        have hfi := fin_int (E := E) (x := x') (y := tz) (by rw [HHD.out])
        have hfl := fin_le (E := E) (x := x') (y := tz) (by rw [HHD.out])
        rw [HHD.out] at hfi hfl
        simp only at hfi hfl
        rw [← hzf] at hfi hfl
        have hzz : (x' : Int) + h.s + h.l = z := by omega
        have HNV : Hid (∀ wq, RdD W wq R a E.s.length c gb E.d (tree ++ ⟨(nd E.s i).kind, ⟨#[]⟩, 0, (j : Int)⟩ :: acc) → Calls Tryz.prog 78 #[.pointer (some ⟨R, 0, none⟩), .int .i64 t, .int .i64 (dp + 1), .agg #[.int .i64 h.c, .int .i64 h.n, .bool h.b, .int .i64 x', .int .i64 ((x' : Int) + h.s), .int .i64 z]] wq fun e w' => ∃ ve, e = .returned ve ∧ AfterD E W R a c gb sn o' (tree ++ ⟨(nd E.s i).kind, ⟨#[]⟩, 0, (j : Int)⟩ :: acc) wq (.returned ve) w') := fun wq q => by
          have := HN.out t x' tz h (dp + 1) o' _ wq HHD.out HREC.out htl (by omega) hz (by omega) (by omega) HRO2.out q
          unfold spanV at this
          rw [hzz] at this
          exact this.mono fun e w' qa => by
            rcases qa.2 with ⟨_, _, _, q4, _⟩ | ⟨_, _, _, _, q4, _⟩
            · exact ⟨_, q4, by rw [← q4]; exact qa⟩
            · exact ⟨_, q4, by rw [← q4]; exact qa⟩
        have HZF : Hid (z = fin x' h) := hzf
        have hz1 : x' + 2 ≤ z := by omega
        have hz2 : z ≤ tz := by omega
        unfold spanV
        rw [hzz]
        clear hzf hfi hfl hzz
        go_upto_region 9 with fail
        generalize hW5 : w4.alloc (.cells #[.int .i64 h.c, .int .i64 h.n, .bool h.b, .int .i64 x', .int .i64 ((x' : Int) + h.s), .int .i64 z] 151) = w5
        have HB5 : Hid (Below wr.heap.size wr w5) := by show Below wr.heap.size wr w5; rw [← hW5]; exact HB4.out.alloc HB4.out.size _
        have HS5 : Hid (w5.heap[w4.heap.size]? = some (.cells #[.int .i64 h.c, .int .i64 h.n, .bool h.b, .int .i64 x', .int .i64 ((x' : Int) + h.s), .int .i64 z] 151 (0, 0))) := by show w5.heap[w4.heap.size]? = _; rw [← hW5]; exact heap_alloc_new w4 _
        have HI5 : Hid (RdD W w5 R a E.s.length c gb E.d (tree ++ ⟨(nd E.s i).kind, ⟨#[]⟩, 0, (j : Int)⟩ :: acc)) := HIR.out.below HB5.out
        have H15 := hide (block_below HX1.out HB5.out)
        have H25 := hide (block_below HX2.out HB5.out)
        obtain ⟨b3, hb3⟩ : ∃ b3, w4.heap.size = b3 := ⟨_, rfl⟩
        rw [hb3] at HS5 ⊢
        have hb3w : wr.heap.size ≤ b3 := by rw [← hb3]; exact HB4.out.size
        have hb3R : b3 ≠ R := by omega
        clear hW5 hb3 s5
        have n3 : w5.cell? ⟨w.heap.size, 3, none⟩ = some (.slice (some ⟨kb, ko, none⟩) (nd E.s i).kids.length kc) := cell_of_row H15.out rfl
        have k3 : w5.cell? ⟨kb, ko, none⟩ = some (.int .i64 t) := (HI5.out.bel.cell (p := ⟨kb, ko, none⟩) (lt_of_cell HKN.out)).trans HKN.out
        have t0 : w5.cell? ⟨b3, 0, none⟩ = some (.int .i64 h.c) := cell_of_row HS5.out rfl
        have t1 : w5.cell? ⟨b3, 1, none⟩ = some (.int .i64 h.n) := cell_of_row HS5.out rfl
        have t2 : w5.cell? ⟨b3, 2, none⟩ = some (.bool h.b) := cell_of_row HS5.out rfl
        have t3 : w5.cell? ⟨b3, 3, none⟩ = some (.int .i64 x') := cell_of_row HS5.out rfl
        have t4 : w5.cell? ⟨b3, 4, none⟩ = some (.int .i64 ((x' : Int) + h.s)) := cell_of_row HS5.out rfl
        have t5 : w5.cell? ⟨b3, 5, none⟩ = some (.int .i64 z) := cell_of_row HS5.out rfl
        go_region_held_law (fun w' => w'.cell? ⟨w.heap.size, 3, none⟩ = some (.slice (some ⟨kb, ko, none⟩) (nd E.s i).kids.length kc) ∧ w'.cell? ⟨kb, ko, none⟩ = some (.int .i64 t) ∧ w'.cell? ⟨b3, 0, none⟩ = some (.int .i64 h.c) ∧ w'.cell? ⟨b3, 1, none⟩ = some (.int .i64 h.n) ∧ w'.cell? ⟨b3, 2, none⟩ = some (.bool h.b) ∧ w'.cell? ⟨b3, 3, none⟩ = some (.int .i64 x') ∧ w'.cell? ⟨b3, 4, none⟩ = some (.int .i64 ((x' : Int) + h.s)) ∧ w'.cell? ⟨b3, 5, none⟩ = some (.int .i64 z)) (first | exact ⟨p3, pk, q0, q1, q2, q3, q4, q5⟩ | exact ⟨n3, k3, t0, t1, t2, t3, t4, t5⟩) ((go_at_call 78; refine (HNV.out _ (HI5.out.below (Below.refl _ _).drew)).mono ?_; rintro e w6 ⟨ve, rfl, ha6⟩; have HA6 := hide ha6; have hF6 : Fr R w5 w6 := (Fr.of_below ((Below.refl w5.heap.size w5).drew)).trans ha6.1; have hbel : Below W.heap.size W w6 := (by rcases ha6.2 with ⟨_, _, _, _, q⟩ | ⟨_, _, _, _, _, q⟩ <;> exact q.bel); have hS6 := hF6 _ _ _ hb3R (by decide) HS5.out; have h16 := hF6 _ _ _ hn1 (by decide) H15.out; have h26 := hF6 _ _ _ hn2 (by decide) H25.out; have HS6 := hide hS6; have H16 := hide h16; have H26 := hide h26; have p3 : w6.cell? ⟨w.heap.size, 3, none⟩ = some (.slice (some ⟨kb, ko, none⟩) (nd E.s i).kids.length kc) := cell_of_row h16 rfl; have pk : w6.cell? ⟨kb, ko, none⟩ = some (.int .i64 t) := (hbel.cell (p := ⟨kb, ko, none⟩) (lt_of_cell HKN.out)).trans HKN.out; have q0 : w6.cell? ⟨b3, 0, none⟩ = some (.int .i64 h.c) := cell_of_row hS6 rfl; have q1 : w6.cell? ⟨b3, 1, none⟩ = some (.int .i64 h.n) := cell_of_row hS6 rfl; have q2 : w6.cell? ⟨b3, 2, none⟩ = some (.bool h.b) := cell_of_row hS6 rfl; have q3 : w6.cell? ⟨b3, 3, none⟩ = some (.int .i64 x') := cell_of_row hS6 rfl; have q4 : w6.cell? ⟨b3, 4, none⟩ = some (.int .i64 ((x' : Int) + h.s)) := cell_of_row hS6 rfl; have q5 : w6.cell? ⟨b3, 5, none⟩ = some (.int .i64 z) := cell_of_row hS6 rfl; have HF6 := hide hF6; clear ha6 hF6 hbel hS6 h16 h26))
        clear n3 k3 t0 t1 t2 t3 t4 t5 p3 pk q0 q1 q2 q4
        have HFW : Hid (Fr R w w6) := (HFR.out.below HB5.out).trans HF6.out
        rcases HA6.out.2 with ⟨vs, zz, ho', hve, hI6⟩ | ⟨ke, qe, tr, ho', hve, hI6⟩
        · obtain rfl : ve = .nilIface := by injection hve
          obtain ⟨_, hzz⟩ := rdF_fin (by rw [← ho']; exact HREC.out)
          rw [HHD.out] at hzz
          have hzz2 : zz = z := by rw [hzz]; exact HZF.out.symm
          subst hzz2
          have hlen := rdF_len0 HC.out.right.fine htl (by rw [← ho']; exact HREC.out)
          have HOO : Hid ((kset = true ∧ below (E.d.extract x' zz) last = true ∧ o = .error (8, (x' : Int))) ∨ (¬ (kset = true ∧ below (E.d.extract x' zz) last = true) ∧ ∃ m', manyF E (rdF E f) kset t tz (dp + 1) m' zz (E.d.extract x' zz) (j + 1) (acc ++ vs) = some o)) := by
            rcases HO.out with ⟨u, hu, _⟩ | ⟨vs', z', hu, ho⟩
            · rw [ho'] at hu; cases hu
            · rw [ho'] at hu; cases hu; exact ho
          have hI8 : RdD W w6 R a E.s.length c gb E.d (tree ++ ⟨(nd E.s i).kind, ⟨#[]⟩, 0, (j : Int)⟩ :: (acc ++ vs)) := by have := hI6; simpa using this
          have HI8 := hide hI8
          clear hve ho' hzz hI6 hI8
          have d2 : w6.cell? ⟨R, 2, none⟩ = some (.string E.d) := HI8.out.r2
          have hR6 : R < w6.heap.size := lt_of_cell d2
          have hb36 : b3 < w6.heap.size := lt_of_cell q3
          have hq1 : (x' : Int) ≤ zz := by omega
          have hq2 : (zz : Int) ≤ E.d.size := by omega
          go_upto_region 12 with fail
          go_quiet (fail)
          generalize hw7 : w6.drewN nq = w7
          have HB7 : Hid (Below w6.heap.size w6 w7) := by show Below w6.heap.size w6 w7; rw [← hw7]; exact below_drewN (Below.refl _ _) _
          have HI7 := hide (HI8.out.below HB7.out)
          have HS7 := hide (block_below HS6.out HB7.out)
          have H17 := hide (block_below H16.out HB7.out)
          have H27 := hide (block_below H26.out HB7.out)
          have HF7 : Hid (Fr R w w7) := HFW.out.below HB7.out
          clear hw7 d2 q3 q5 hR6 hb36
          have g0 : w7.cell? ⟨w.heap.size, 0, none⟩ = some (.int .i64 (nd E.s i).kind) := cell_of_row H17.out rfl
          have e5 : w7.cell? ⟨b3, 5, none⟩ = some (.int .i64 zz) := cell_of_row HS7.out rfl
          have hl7 : w.heap.size < w7.heap.size := lt_of_cell g0
          have hb37 : b3 < w7.heap.size := lt_of_cell e5
          by_cases hord : kset = true ∧ below (E.d.extract x' zz) last = true
          · obtain ⟨rfl, hbl⟩ := hord
            have HOE : Hid (o = .error (8, (x' : Int))) := by
              rcases HOO.out with q | q
              · exact q.2.2
              · exact absurd ⟨rfl, hbl⟩ q.1
            unfold below at hbl
            have cO := (HC.out.lay.below HI7.out.bel).s.cOrder
            have hgl := lt_of_cell cO
            simp only at hgl
            go_wp2_with fail
            refine (HAT.out x' _).mono ?_
            rintro e w8 ⟨rfl, rfl⟩
            go_wp2
            go_ret
            exact ⟨HF7.out, .inr ⟨8, x', _, by rw [HOE.out]; rfl, rfl, HI7.out⟩⟩
          · have HNX : Hid (∃ m', manyF E (rdF E f) kset t tz (dp + 1) m' zz (E.d.extract x' zz) (j + 1) (acc ++ vs) = some o) := by
              rcases HOO.out with q | q
              · exact absurd ⟨q.1, q.2.1⟩ hord
              · exact q.2
            have hdd : kset = false ∨ (kset = true ∧ Op.bytesLess (E.d.extract x' zz).toList last.toList = false) := by
              cases kset
              · exact .inl rfl
              · refine .inr ⟨rfl, ?_⟩
                cases hq : Op.bytesLess (E.d.extract x' zz).toList last.toList with
                | false => rfl
                | true => exact absurd ⟨rfl, hq⟩ hord
            have hj1 : (j : Int) + 1 < 1000000 := by have := HC.out.size; omega
            have hla : tree.length < (tree ++ ⟨(nd E.s i).kind, ⟨#[]⟩, 0, (j : Int)⟩ :: (acc ++ vs)).length := by simp only [List.length_append, List.length_cons]; omega
            clear hord
            rcases hdd with rfl | ⟨rfl, hbl⟩
            all_goals
              go_upto_region 15 with fail
              go_quiet (fail)
              generalize hw8 : w7.drewN nq = w8
              have HB8 : Hid (Below w7.heap.size w7 w8) := by show Below w7.heap.size w7 w8; rw [← hw8]; exact below_drewN (Below.refl _ _) _
              have HI9 := hide (HI7.out.below HB8.out)
              have H18 := hide (block_below H17.out HB8.out)
              have H28 := hide (block_below H27.out HB8.out)
              have HF8 : Hid (Fr R w w8) := HF7.out.below HB8.out
              clear hw8 g0 e5 hl7 hb37
              obtain ⟨gg, cap, b1, b2, b4, b5⟩ := HI9.out.bump
              have HB4' := hide b5
              obtain ⟨N, hNN⟩ : ∃ N, N = (tree ++ ⟨(nd E.s i).kind, ⟨#[]⟩, 0, (j : Int)⟩ :: (acc ++ vs)).length := ⟨_, rfl⟩
              have hNl : (tree.length : Int) < N := by omega
              rw [← hNN] at b1
              simp only at b2
              have hgl := lt_of_cell b2
              have hRl8 : R < w8.heap.size := lt_of_cell b1
              simp only at hgl
              clear b5 hNN hla
              go_wp2
              go_roundw
              case rel => exact ⟨zz, _, rfl, rfl, by omega, by omega, HF8.out.trans (HB4'.out _).2, (HB4'.out _).2 _ _ _ hn1 (by decide) H18.out, (HB4'.out _).2 _ _ _ hn2 (by decide) H28.out, by
                obtain ⟨m2, hm2⟩ := HNX.out
                exact ⟨m2, j + 1, acc ++ vs, hm2, (HB4'.out _).1, by simp only [List.length_append]; omega, by omega⟩⟩
              case measure => simp [intOf]; omega
        · obtain rfl : ve = fault qe (sn (snOf ke)) := by injection hve
          have HOE : Hid (o = .error (ke, qe)) := by
            rcases HO.out with ⟨u, hu, ho⟩ | ⟨vs', z', hu, ho⟩
            · rw [ho'] at hu; injection hu with hu; show o = _; rw [ho, ← hu]
            · rw [ho'] at hu; cases hu
          have HI7 := hide hI6
          unfold fault
          clear hve ho' hI6
          go_wp2
          go_ret
          exact ⟨HFW.out, .inr ⟨ke, qe, tr, by rw [HOE.out]; rfl, rfl, HI7.out⟩⟩
      · have he := errAt_of (t := E.d.extract x' tz) x' sn h40
        have HO2 : Hid (o = .error ((hd (E.d.extract x' tz)).1, (x' : Int))) := by
          have q := rdF_head_err HREC.out h40
          rcases HO.out with ⟨u, hu, ho⟩ | ⟨vs, z, hu, _⟩
          · rw [hu] at q; injection q with q; show o = _; rw [ho, q]; rfl
          · rw [hu] at q; cases q
        generalize (hd (E.d.extract x' tz)).1 = k at he HO2
        rw [he]
        unfold span0 fault
        clear he h40
        go_wp2
        go_ret
        refine ⟨HFR.out.trans (Fr.of_below (HB4.out.alloc HB4.out.size _)), .inr ⟨k, x', _, by rw [HO2.out]; rfl, rfl, HIR.out.below (HB4.out.alloc HB4.out.size _)⟩⟩
    · have hlt' : ¬ (x' : Int) < tz := by omega
      have ho := manyF_off HMM.out hlt
      have HO : Hid (o = .ok (j, acc)) := ho
      clear ho
      go_wp2
      go_ret
      exact ⟨HFR.out, .inl ⟨_, _, by rw [HO.out]; rfl, rfl, HIR.out⟩⟩
end Go.Proofs.YtkkicodfpekbgaaGreatDoor

/-! The program's reader: what is left out, a kid of a Seq. -/
namespace Go.Proofs.YtkkicodfpekbgaaGreatDoor
set_option linter.unusedSimpArgs false
set_option linter.unusedVariables false
open Go.RowKit
/-- What leaving a kid out comes to. -/
def leftOut (E : Env) (k : Kd) : Option Vl := if k.opt = true then some ⟨15, noB, 0, 0⟩ else if k.dflt.size ≠ 0 then some (E.dv k) else none
def AfterL (E : Env) (W : World) (R : Nat) (a : Option Addr) (c gb : Nat) (r : Option Vl) (tree : List Vl) (w : World) (e : Ending) (w' : World) : Prop :=
  Fr R w w' ∧ ((∃ v, r = some v ∧ e = .returned (.bool true) ∧ RdD W w' R a E.s.length c gb E.d (tree ++ [v])) ∨ (r = none ∧ e = .returned (.bool false) ∧ RdD W w' R a E.s.length c gb E.d tree))

set_option maxHeartbeats 4000000 in
set_option maxRecDepth 100000 in
theorem leaveOut_p (E : Env) (W : World) (R : Nat) (a : Option Addr) (c gb : Nat) (sn : Sn → Addr) (hc : PC E W a gb sn) (hdv : DvOk E) (i : Nat) (hi : i < E.s.length) (k : Kd) (hk : k ∈ (nd E.s i).kids) (tree : List Vl) (w : World) (hl : tree.length ≤ 1099511627776) (hI : RdD W w R a E.s.length c gb E.d tree) :
    Calls Tryz.prog 189 #[.pointer (some ⟨R, 0, none⟩), .agg #[.int .i64 k.node, .bool k.opt, .string k.dflt]] w fun e w' => AfterL E W R a c gb (leftOut E k) tree w e w' := by
  have HI : Hid (RdD W w R a E.s.length c gb E.d tree) := hI
  have HAD : Hid (∀ wq kk (uu : ByteArray), RdD W wq R a E.s.length c gb E.d tree → Calls Tryz.prog 162 #[.pointer (some ⟨R, 0, none⟩), .agg #[.int .i64 kk, .string uu, .int .i64 0, .int .i64 0]] wq fun e' w' => e' = .returned (.tuple #[]) ∧ RdD W w' R a E.s.length c gb E.d (tree ++ [⟨kk, uu, 0, 0⟩]) ∧ Fr R wq w') := fun wq kk uu q => add_any W wq R a _ c gb E.d tree kk uu 0 0 q hl
  have hRl : R < w.heap.size := lt_of_cell hI.r0
  have hw := hc.right.fine.within i hi k hk
  obtain ⟨t, ht⟩ : ∃ t : Nat, k.node = t := ⟨k.node.toNat, by omega⟩
  have htl : t < E.s.length := by omega
  have htn : k.node.toNat = t := by omega
  have hB1 : Below w.heap.size w (w.alloc (.cells #[.int .i64 k.node, .bool k.opt, .string k.dflt] 55)) := (Below.refl _ _).alloc (Nat.le_refl _) _
  by_cases ho : k.opt = true
  · have e1 : leftOut E k = some ⟨15, noB, 0, 0⟩ := by unfold leftOut; rw [if_pos ho]
    have HE1 := hide e1
    have HB1 := hide hB1
    rw [ht, ho] at HB1 ⊢
    clear e1 hI hc hdv hk hw ht htn hB1 ho
    go_enter Tryz.func189, Tryz.ntmps189
    go_wp2_with fail
    refine (HAD.out _ 15 ⟨#[]⟩ (HI.out.below HB1.out)).mono ?_
    rintro e w1 ⟨rfl, hI1, hF1⟩
    have HI1 := hide hI1
    have HF1 := hide hF1
    clear hI1 hF1
    go_wp2
    go_ret
    exact ⟨(Fr.of_below HB1.out).trans HF1.out, .inl ⟨_, HE1.out, rfl, HI1.out⟩⟩
  have ho' : k.opt = false := by simpa using ho
  by_cases hd : k.dflt.size = 0
  · have e1 : leftOut E k = none := by unfold leftOut; rw [if_neg ho, if_neg (by omega)]
    have HE1 := hide e1
    have HB1 := hide hB1
    have hem := emp_t hd
    rw [ht, ho'] at HB1 ⊢
    clear e1 hI hc hdv hk hw ht htn hB1 ho ho' hd
    go_enter Tryz.func189, Tryz.ntmps189
    go_wp2
    go_ret
    exact ⟨Fr.of_below HB1.out, .inr ⟨HE1.out, rfl, HI.out.below HB1.out⟩⟩
  · have e1 : leftOut E k = some (E.dv k) := by unfold leftOut; rw [if_neg ho, if_pos hd]
    obtain ⟨u, hu, hv, hk1, hk9⟩ := hdv i hi k hk hd
    rw [htn] at hu hv hk9
    have HV := hide hv
    have HE1 := hide e1
    have HB1 := hide hB1
    have hem := emp_f (t := k.dflt) (by omega)
    have hyz := hc.sok i hi k hk
    obtain ⟨yd, hyd⟩ : ∃ y, k.dflt = y := ⟨_, rfl⟩
    rw [hyd] at hu hyz hem
    rw [ht, ho', hyd] at HB1 ⊢
    have HDF : Hid (∀ wq, Below W.heap.size W wq → Calls Tryz.prog 202 #[.slice a E.s.length c, .agg #[.int .i64 t, .bool false, .string yd]] wq fun e w' => e = .returned (.agg #[.int .i64 (nd E.s t).kind, .string u, .int .i64 0, .int .i64 0]) ∧ Below wq.heap.size wq w') := fun wq q => default_any E.s a c t false yd u wq sn (hc.lay.below q) (hc.sch.below q) hc.right htl hk9 hu (by omega)
    clear e1 hI hc hdv hk hw ht htn hB1 ho ho' hd hu hv hk1 hk9 hyd hyz
    go_enter Tryz.func189, Tryz.ntmps189
    go_upto_region 5 with fail
    generalize hW1 : w.alloc (.cells #[.int .i64 t, .bool false, .string yd] 55) = w1
    have hG1 : w1.heap[w.heap.size]? = some (.cells #[.int .i64 t, .bool false, .string yd] 55 (0, 0)) := by rw [← hW1]; exact heap_alloc_new w _
    rw [hW1] at HB1
    have HG1 := hide hG1
    have HI1 := hide (HI.out.below HB1.out)
    clear hW1 hG1
    have r0 : w1.cell? ⟨R, 0, none⟩ = some (.slice a E.s.length c) := HI1.out.r0
    have g0 : w1.cell? ⟨w.heap.size, 0, none⟩ = some (.int .i64 t) := cell_of_row HG1.out rfl
    have g1 : w1.cell? ⟨w.heap.size, 1, none⟩ = some (.bool false) := cell_of_row HG1.out rfl
    have g2 : w1.cell? ⟨w.heap.size, 2, none⟩ = some (.string yd) := cell_of_row HG1.out rfl
    have hn1 : w.heap.size ≠ R := by omega
    go_region_held_law (fun w' => w'.cell? ⟨R, 0, none⟩ = some (.slice a E.s.length c) ∧ w'.cell? ⟨w.heap.size, 0, none⟩ = some (.int .i64 t) ∧ w'.cell? ⟨w.heap.size, 1, none⟩ = some (.bool false) ∧ w'.cell? ⟨w.heap.size, 2, none⟩ = some (.string yd)) (first | exact ⟨x0, x1, x2, x3⟩ | exact ⟨y0, y1, y2, y3⟩ | exact ⟨r0, g0, g1, g2⟩) (first | (go_at_call 202; refine (HDF.out _ HI1.out.bel.drew).mono ?_; rintro e w2 ⟨rfl, hb2⟩; have hI2 := (HI1.out.below (Below.refl _ _).drew).below hb2; have hG2 := block_below (w := w1.drew) HG1.out hb2; have HI2 := hide hI2; have HG2 := hide hG2; have HF2 : Hid (Fr R w w2) := (Fr.of_below HB1.out.drew).below hb2; have y0 := hI2.r0; have y1 : w2.cell? ⟨w.heap.size, 0, none⟩ = some (.int .i64 t) := cell_of_row hG2 rfl; have y2 : w2.cell? ⟨w.heap.size, 1, none⟩ = some (.bool false) := cell_of_row hG2 rfl; have y3 : w2.cell? ⟨w.heap.size, 2, none⟩ = some (.string yd) := cell_of_row hG2 rfl; clear hb2 hI2 hG2) | (go_at_call 162; refine (HAD.out _ _ _ HI2.out).mono ?_; rintro e w3 ⟨rfl, hI3, hF3⟩; have hG3 := hF3 _ _ _ hn1 (by decide) HG2.out; have HI3 := hide hI3; have HF3 : Hid (Fr R w w3) := HF2.out.trans hF3; have x0 := hI3.r0; have x1 : w3.cell? ⟨w.heap.size, 0, none⟩ = some (.int .i64 t) := cell_of_row hG3 rfl; have x2 : w3.cell? ⟨w.heap.size, 1, none⟩ = some (.bool false) := cell_of_row hG3 rfl; have x3 : w3.cell? ⟨w.heap.size, 2, none⟩ = some (.string yd) := cell_of_row hG3 rfl; clear hI3 hF3 hG3))
    clear x0 x1 x2 x3 y0 y1 y2 y3 r0 g0 g1 g2
    go_wp2
    go_ret
    exact ⟨HF3.out, .inl ⟨_, HE1.out, rfl, by rw [HV.out]; exact HI3.out⟩⟩
end Go.Proofs.YtkkicodfpekbgaaGreatDoor

/-! The program's reader: a kid of a Seq. -/
namespace Go.Proofs.YtkkicodfpekbgaaGreatDoor
set_option linter.unusedSimpArgs false
set_option linter.unusedVariables false
open Go.RowKit

/-- What a kid that is there comes to. -/
def kidO (E : Env) (x : Nat) (yd : ByteArray) (o' : Out) : Out :=
  match o' with
  | .error u => .error u
  | .ok (vs, z) => if E.d.extract x z = yd then .error (9, x) else .ok (vs, z)

set_option maxHeartbeats 4000000 in
set_option maxRecDepth 100000 in
theorem kid_p (E : Env) (W : World) (R : Nat) (a : Option Addr) (c gb : Nat) (sn : Sn → Addr) (f : Nat) (hc : PC E W a gb sn) (hN : NodeP E W R a c gb sn f) (t : Nat) (htl : t < E.s.length) (ko : Bool) (yd : ByteArray)
    (g : Hd) (x y : Nat) (dp : Int) (o' : Out) (tree : List Vl) (w : World) (hg : E.hd x y = (0, g)) (hrec : rdF E f t x y dp = some o') (hxz : x ≤ y) (hz : y ≤ E.d.size) (hd1 : 1 ≤ dp) (hd2 : dp ≤ 13) (hroom : Room tree f x y) (hI : RdD W w R a E.s.length c gb E.d tree) :
    Calls Tryz.prog 188 #[.pointer (some ⟨R, 0, none⟩), .agg #[.int .i64 t, .bool ko, .string yd], .int .i64 dp, spanV g x] w fun e w' => AfterD E W R a c gb sn (kidO E x yd o') tree w e w' := by
  have HI : Hid (RdD W w R a E.s.length c gb E.d tree) := hI
  have hRl : R < w.heap.size := lt_of_cell hI.r0
  have HC := hide hc
  obtain ⟨z, hzf⟩ : ∃ z, z = fin x g := ⟨_, rfl⟩
  have hfi := fin_int (E := E) (x := x) (y := y) (by rw [hg])
  have hfl := fin_le (E := E) (x := x) (y := y) (by rw [hg])
  rw [hg] at hfi hfl
  simp only at hfi hfl
  rw [← hzf] at hfi hfl
  have hzz : (x : Int) + g.s + g.l = z := by omega
  have HNV : Hid (∀ wq, RdD W wq R a E.s.length c gb E.d tree → Calls Tryz.prog 78 #[.pointer (some ⟨R, 0, none⟩), .int .i64 t, .int .i64 dp, .agg #[.int .i64 g.c, .int .i64 g.n, .bool g.b, .int .i64 x, .int .i64 ((x : Int) + g.s), .int .i64 z]] wq fun e w' => ∃ ve, e = .returned ve ∧ AfterD E W R a c gb sn o' tree wq (.returned ve) w') := fun wq q => by
    have := hN t x y g dp o' tree wq hg hrec htl hxz hz hd1 hd2 hroom q
    unfold spanV at this
    rw [hzz] at this
    exact this.mono fun e w' qa => by
      rcases qa.2 with ⟨_, _, _, q4, _⟩ | ⟨_, _, _, _, q4, _⟩
      · exact ⟨_, q4, by rw [← q4]; exact qa⟩
      · exact ⟨_, q4, by rw [← q4]; exact qa⟩
  have HZO : Hid (∀ vs zz, o' = .ok (vs, zz) → zz = z) := fun vs zz q => by
    obtain ⟨_, h⟩ := rdF_fin (by rw [← q]; exact hrec)
    rw [hg] at h
    rw [h]; exact hzf.symm
  have hz1 : x + 2 ≤ z := by omega
  have hz2 : z ≤ E.d.size := by omega
  have HAT : Hid (∀ wq, Calls Tryz.prog 60 #[.int .i64 x, .iface 291 (.pointer (some (sn .Default)))] wq fun e w' => e = .returned (fault x (sn .Default)) ∧ w' = wq) := fun wq => at_any x _ wq
  unfold fault at HAT
  have HA : Hid (∀ A B, Below w.heap.size w ((w.alloc A).alloc B)) := fun A B => ((Below.refl w.heap.size w).alloc (Nat.le_refl _) A).alloc (by simp) B
  unfold spanV
  rw [hzz]
  clear hI hc hN hg hrec hroom hzf hfi hfl hzz hd1 hd2 hxz
  go_enter Tryz.func188, Tryz.ntmps188
  go_wp2_with fail
  refine (HNV.out _ (HI.out.below (HA.out _ _))).mono ?_
  rintro e w1 ⟨ve, rfl, ha1⟩
  have HA1 := hide ha1
  have hn1 : w.heap.size ≠ R := by omega
  have hn2 : w.heap.size + 1 ≠ R := by omega
  have hG1 : w1.heap[w.heap.size]? = some (.cells #[.int .i64 t, .bool ko, .string yd] 55 (0, 0)) := ha1.1 _ _ _ hn1 (by decide) (block_below (heap_alloc_new w _) ((Below.refl _ _).alloc (Nat.le_refl _) _))
  have hG2 : w1.heap[w.heap.size + 1]? = some (.cells #[.int .i64 g.c, .int .i64 g.n, .bool g.b, .int .i64 x, .int .i64 ((x : Int) + g.s), .int .i64 z] 151 (0, 0)) := ha1.1 _ _ _ hn2 (by decide) (by simpa using heap_alloc_new (w.alloc _) _)
  have HF1 : Hid (Fr R w w1) := (Fr.of_below (HA.out _ _)).trans ha1.1
  have k2 : w1.cell? ⟨w.heap.size, 2, none⟩ = some (.string yd) := cell_of_row hG1 rfl
  have s3 : w1.cell? ⟨w.heap.size + 1, 3, none⟩ = some (.int .i64 x) := cell_of_row hG2 rfl
  have s5 : w1.cell? ⟨w.heap.size + 1, 5, none⟩ = some (.int .i64 z) := cell_of_row hG2 rfl
  have hl1 : w.heap.size + 1 < w1.heap.size := lt_of_cell s3
  have HG2 := hide hG2
  clear ha1 hG1 hG2 HA HNV
  rcases HA1.out.2 with ⟨vs, zz, ho', hve, hI1⟩ | ⟨ke, qe, tr, ho', hve, hI1⟩
  · obtain rfl : ve = .nilIface := by injection hve
    have hzz := HZO.out vs zz ho'
    subst hzz
    have HO := hide ho'
    have HI1 := hide hI1
    have d2 : w1.cell? ⟨R, 2, none⟩ = some (.string E.d) := HI1.out.r2
    have hR1 : R < w1.heap.size := lt_of_cell d2
    have hq1 : (x : Int) ≤ zz := by omega
    have hq2 : (zz : Int) ≤ E.d.size := by omega
    clear ho' hve hI1
    by_cases hd : yd.size = 0
    · have hem := emp_t hd
      have hne : E.d.extract x zz ≠ yd := fun q => by
        have h1 : (E.d.extract x zz).size = yd.size := by rw [q]
        rw [ex_size] at h1
        omega
      have HK : Hid (kidO E x yd o' = .ok (vs, zz)) := by show kidO E x yd o' = _; rw [HO.out]; unfold kidO; simp only; rw [if_neg hne]
      clear hd hne
      go_wp2_with fail
      go_quiet (fail)
      go_wp2
      go_ret
      exact ⟨HF1.out.below (below_drewN (Below.refl _ _) _), .inl ⟨vs, zz, HK.out, rfl, HI1.out.below (below_drewN (Below.refl _ _) _)⟩⟩
    · have hem := emp_f (t := yd) (by omega)
      by_cases heq : E.d.extract x zz = yd
      · have hbe : ((E.d.extract x zz).toList == yd.toList) = true := by rw [heq]; simp
        have HK : Hid (kidO E x yd o' = .error (9, (x : Int))) := by show kidO E x yd o' = _; rw [HO.out]; unfold kidO; simp only; rw [if_pos heq]
        clear hd heq
        go_wp2_with fail
        go_quiet (fail)
        generalize hw2 : w1.drewN nq = w2
        have HB2 : Hid (Below w1.heap.size w1 w2) := by show Below w1.heap.size w1 w2; rw [← hw2]; exact below_drewN (Below.refl _ _) _
        have HI2 := hide (HI1.out.below HB2.out)
        have t3 : w2.cell? ⟨w.heap.size + 1, 3, none⟩ = some (.int .i64 x) := cell_of_row (block_below HG2.out HB2.out) rfl
        have hl2 : w.heap.size + 1 < w2.heap.size := lt_of_cell t3
        have cD := (HC.out.lay.below HI2.out.bel).s.cDefault
        have hgl := lt_of_cell cD
        simp only at hgl
        clear hw2 d2 s3 s5 k2 hR1 hl1
        go_wp2_with fail
        refine (HAT.out _).mono ?_
        rintro e w3 ⟨rfl, rfl⟩
        go_wp2
        go_ret
        exact ⟨HF1.out.below HB2.out, .inr ⟨9, x, _, HK.out, rfl, HI2.out⟩⟩
      · have hbe : ((E.d.extract x zz).toList == yd.toList) = false := by
          rw [beq_eq_false_iff_ne, Lib.toList_data, Lib.toList_data]
          intro q
          exact heq (ByteArray.ext (Array.toList_inj.1 q))
        have HK : Hid (kidO E x yd o' = .ok (vs, zz)) := by show kidO E x yd o' = _; rw [HO.out]; unfold kidO; simp only; rw [if_neg heq]
        clear hd heq
        go_wp2_with fail
        go_quiet (fail)
        go_wp2
        go_ret
        exact ⟨HF1.out.below (below_drewN (Below.refl _ _) _), .inl ⟨vs, zz, HK.out, rfl, HI1.out.below (below_drewN (Below.refl _ _) _)⟩⟩
  · obtain rfl : ve = fault qe (sn (snOf ke)) := by injection hve
    have HK : Hid (kidO E x yd o' = .error (ke, qe)) := by show kidO E x yd o' = _; rw [ho']; rfl
    have HI1 := hide hI1
    unfold fault
    clear hve ho' hI1
    go_wp2
    go_ret
    exact ⟨HF1.out, .inr ⟨ke, qe, tr, HK.out, rfl, HI1.out⟩⟩
end Go.Proofs.YtkkicodfpekbgaaGreatDoor
