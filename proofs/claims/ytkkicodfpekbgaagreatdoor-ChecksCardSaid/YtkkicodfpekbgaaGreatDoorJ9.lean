/-
  Several texts in one:
  schemas.comesBack, isShaped: what they answer.
  schemas.isElement: what it answers.
  hallmarkref.Right: what it answers.
  schemas.defaultsFit: what it answers.
  schemas.Check: what it answers.
  hallmark.Check, hallmarklaw.Checks: what they answer.
-/
import Derived.Test.YtkkicodfpekbgaaGreatDoorJ1
import Derived.Test.YtkkicodfpekbgaaGreatDoorJSd
import Derived.Test.YtkkicodfpekbgaaGreatDoorJ2
import Derived.Test.YtkkicodfpekbgaaGreatDoorJ4
import Derived.Test.YtkkicodfpekbgaaGreatDoorJ7
import Derived.Test.YtkkicodfpekbgaaGreatDoorJ3
/-! schemas.comesBack, isShaped: what they answer. -/
namespace Go.Proofs.YtkkicodfpekbgaaGreatDoor
set_option linter.unusedSimpArgs false
set_option linter.unusedVariables false
open Go.RowKit

set_option maxHeartbeats 1000000 in
set_option maxRecDepth 100000 in
theorem comesBack_any (s : List Nd) (a : Option Addr) (c i : Nat) (w : World) (hs : Sch w a s) (hw : Within s) (htg : Tags s) (hi : i < s.length) (hn : s.length ≤ 40) :
    Calls Tryz.prog 63 #[.slice a s.length c, .int .i64 i] w fun e w' => RetO (Back s i) w e w' := by
  have HC : Hid (Calls Tryz.prog 96 #[.slice a s.length c, .int .i64 i] w fun e w' => RetE s i w e w') := reach_any s a c i w hs hw htg hi hn
  clear hs hw htg
  go_enter Tryz.func63, Tryz.ntmps63
  go_wp2_with fail
  refine HC.out.mono ?_
  rintro e w1 ⟨v, l, bk, rfl, _, hb, _, _, hbk⟩
  have HB : Hid (Below w.heap.size w w1) := hb
  have HR : Hid (bk = true ↔ Back s i) := hbk
  clear hb hbk
  go_wp2
  go_ret
  exact reto_iff HR.out HB.out

theorem tagged_iff (n : Nd) : (¬ Bad1 n ∧ ¬ Bad2 n) ↔ (1 ≤ n.kind ∧ n.kind ≤ 14 ∧ Tagged n) := by unfold Bad1 Bad2 Tagged; omega
theorem count_iff (k : Int) (m : Nat) : Count k m ↔ ((bnd k).1 ≤ (m : Int) ∧ (m : Int) ≤ (bnd k).2) := by
  unfold Count bnd
  repeat' split
  all_goals simp only; omega

set_option maxHeartbeats 4000000 in
set_option maxRecDepth 100000 in
theorem isShaped_any (m : Nat) (n : Nd) (ka : Option Addr) (kc : Nat) (w : World) (hka : KidsIn w ka n.kids) (hkm : n.kids.length ≤ maxLen) :
    Calls Tryz.prog 61 #[.agg #[.int .i64 n.kind, .int .i64 n.tag, .int .i64 n.mode, .slice ka n.kids.length kc], .int .i64 m] w fun e w' => RetO (Alone m n) w e w' := by
  have HM : Hid (∀ (wr : World) (k : Kd), Calls Tryz.prog 94 #[.agg #[.int .i64 k.node, .bool k.opt, .string k.dflt]] wr fun e w' => RetO (¬ k.must) wr e w') := fun wr k => mayLack_any k wr
  have HT : Hid (∀ wr, Calls Tryz.prog 92 #[.agg #[.int .i64 n.kind, .int .i64 n.tag, .int .i64 n.mode, .slice ka n.kids.length kc]] wr fun e w' => RetO (Tagged n) wr e w') := fun wr => isTagged_any n ka kc wr
  have HKB : Hid (∀ wr, Calls Tryz.prog 93 #[.int .i64 n.kind] wr fun e w' => e = .returned (.tuple #[.int .i64 (bnd n.kind).1, .int .i64 (bnd n.kind).2]) ∧ Below wr.heap.size wr w') := fun wr => kidBounds_any n.kind wr
  have HKI : Hid (KidsIn w ka n.kids) := hka
  clear hka
  by_cases h1 : n.kind < 1
  · have HX : Hid (¬ Alone m n) := fun h => h.1 (.inl h1)
    go_enter Tryz.func61, Tryz.ntmps61
    go_wp2
    go_ret
    exact reto_no HX.out ((Below.refl _ _).alloc (Nat.le_refl _) _)
  have h1' : 1 ≤ n.kind := by omega
  by_cases h2 : 14 < n.kind
  · have HX : Hid (¬ Alone m n) := fun h => h.1 (.inr (.inl h2))
    clear h1
    go_enter Tryz.func61, Tryz.ntmps61
    go_wp2
    go_ret
    exact reto_no HX.out ((Below.refl _ _).alloc (Nat.le_refl _) _)
  have h2' : n.kind ≤ 14 := by omega
  clear h1 h2
  go_enter Tryz.func61, Tryz.ntmps61
  go_wp2_with fail
  refine (HT.out _).mono ?_
  rintro e w1 ⟨r, rfl, hr, hb1⟩
  have HR : Hid (r = true ↔ Tagged n) := hr
  have HB1 : Hid (Below w.heap.size w w1) := below_alloc hb1
  obtain ⟨Bn, hBn⟩ : ∃ Bn, Bn = w.heap.size := ⟨_, rfl⟩
  have HBN : Hid (Bn = w.heap.size) := hBn
  have HG1 : Hid (w1.heap[Bn]? = some (.cells #[.int .i64 n.kind, .int .i64 n.tag, .int .i64 n.mode, .slice ka n.kids.length kc] 58 (0, 0))) := by rw [hBn]; exact block_below (heap_alloc_new w _) hb1
  have q0 : w1.cell? ⟨Bn, 0, none⟩ = some (.int .i64 n.kind) := by simp [World.cell?, HG1.out]
  have q3 : w1.cell? ⟨Bn, 3, none⟩ = some (.slice ka n.kids.length kc) := by simp [World.cell?, HG1.out]
  rw [← hBn]
  clear hr hb1 hBn
  cases r
  · go_wp2
    go_ret
    exact reto_no (fun h => Bool.noConfusion (HR.out.2 ((tagged_iff n).1 ⟨h.1, h.2.1⟩).2.2)) HB1.out
  · have HTG : Hid (¬ Bad1 n ∧ ¬ Bad2 n) := (tagged_iff n).2 ⟨h1', h2', HR.out.1 rfl⟩
    go_wp2_with fail
    refine (HKB.out _).mono ?_
    rintro e w2 ⟨rfl, hb2⟩
    have HB2 : Hid (Below w.heap.size w w2) := HB1.out.trans (hb2.mono HB1.out.size)
    have HG2 : Hid (w2.heap[Bn]? = some (.cells #[.int .i64 n.kind, .int .i64 n.tag, .int .i64 n.mode, .slice ka n.kids.length kc] 58 (0, 0))) := block_below HG1.out hb2
    have p0 : w2.cell? ⟨Bn, 0, none⟩ = some (.int .i64 n.kind) := by simp [World.cell?, HG2.out]
    have p3 : w2.cell? ⟨Bn, 3, none⟩ = some (.slice ka n.kids.length kc) := by simp [World.cell?, HG2.out]
    have HCI := count_iff n.kind n.kids.length
    have HCH : Hid (Count n.kind n.kids.length ↔ ((bnd n.kind).1 ≤ (n.kids.length : Int) ∧ (n.kids.length : Int) ≤ (bnd n.kind).2)) := HCI
    generalize (bnd n.kind).1 = lo at *
    generalize (bnd n.kind).2 = hi at *
    clear hb2 q0 q3 HCI
    by_cases c1 : (n.kids.length : Int) < lo
    · have HX : Hid (¬ Count n.kind n.kids.length) := fun q => by have := HCH.out.1 q; omega
      go_wp2
      go_ret
      exact reto_no (fun h => HX.out h.2.2.1) HB2.out
    have c1' : lo ≤ (n.kids.length : Int) := by omega
    by_cases c2 : hi < (n.kids.length : Int)
    · have HX : Hid (¬ Count n.kind n.kids.length) := fun q => by have := HCH.out.1 q; omega
      clear c1
      go_wp2
      go_ret
      exact reto_no (fun h => HX.out h.2.2.1) HB2.out
    have c2' : (n.kids.length : Int) ≤ hi := by omega
    have HC : Hid (Count n.kind n.kids.length) := HCH.out.2 ⟨c1', c2'⟩
    have hk8 : n.kids.length ≤ 8 := by
      have := HC.out
      unfold Count at this
      repeat' split at this
      all_goals omega
    clear c1 c2
    go_wp2
    go_loopw [43] (fun vi wr => ∃ i : Nat, i ≤ n.kids.length ∧ vi = .int .i64 i ∧ (∀ j, j < i → KidOk m n (kd n j)) ∧ Below w2.heap.size w2 wr) (fun vi _ => n.kids.length - (intOf vi).toNat)
    case atStart => exact ⟨0, Nat.zero_le _, rfl, fun _ h => absurd h (Nat.not_lt_zero _), Below.refl _ _⟩
    case round =>
      obtain ⟨i, hi', rfl, hall, hbr⟩ := hrel
      have HA : Hid (∀ j, j < i → KidOk m n (kd n j)) := hall
      have HB : Hid (Below w2.heap.size w2 wr) := hbr
      have HBW : Hid (Below w.heap.size w wr) := HB2.out.trans (hbr.mono HB2.out.size)
      have HG3 : Hid (wr.heap[Bn]? = some (.cells #[.int .i64 n.kind, .int .i64 n.tag, .int .i64 n.mode, .slice ka n.kids.length kc] 58 (0, 0))) := block_below HG2.out hbr
      clear hall hbr
      by_cases hlt : i < n.kids.length
      · have hlt' : (i : Int) < n.kids.length := by omega
        obtain ⟨kb, ko, rfl, kcl⟩ := HKI.out i hlt
        obtain ⟨y, hy⟩ : ∃ y, kd n i = y := ⟨_, rfl⟩
        have HY : Hid (kd n i = y) := hy
        have hkc : KidCells w kb (ko + i * 3) y := by rw [← hy]; exact kcl
        obtain ⟨k1, k2, k3⟩ := hkc.below HBW.out
        have HB6 : Hid (∀ o, Below w.heap.size w (wr.alloc o)) := fun o => HBW.out.alloc HBW.out.size o
        have NO : Hid (¬ KidOk m n y → ¬ Alone m n) := fun h h' => h (HY.out ▸ h'.2.2.2 i hlt)
        have YES : Hid (KidOk m n y → ∀ j, j < i + 1 → KidOk m n (kd n j)) := fun h j hj => by
          by_cases e : j = i
          · subst e; rw [HY.out]; exact h
          · exact HA.out j (by omega)
        clear hy kcl hkc
        by_cases q1 : y.node < 0
        · have HX : Hid (¬ KidOk m n y) := fun h => by have := h.1; omega
          go_wp2
          go_ret
          exact reto_no (NO.out HX.out) (HB6.out _)
        have q1' : 0 ≤ y.node := by omega
        by_cases q2 : ¬ y.node < m
        · have HX : Hid (¬ KidOk m n y) := fun h => q2 h.2.1
          have q2' : (m : Int) ≤ y.node := by omega
          clear q1 q2
          go_wp2
          go_ret
          exact reto_no (NO.out HX.out) (HB6.out _)
        have q2' : y.node < m := by omega
        clear q1 q2
        go_wp2_with fail
        refine (HM.out _ y).mono ?_
        rintro e w3 ⟨r, rfl, hr, hb3⟩
        have HRM : Hid (r = true ↔ ¬ y.must) := hr
        have HB3 : Hid (Below w2.heap.size w2 w3) := HB.out.trans ((below_alloc hb3).mono HB.out.size)
        have HBW3 : Hid (Below w.heap.size w w3) := HBW.out.trans ((below_alloc hb3).mono HBW.out.size)
        have HG4 : Hid (w3.heap[Bn]? = some (.cells #[.int .i64 n.kind, .int .i64 n.tag, .int .i64 n.mode, .slice (some ⟨kb, ko, none⟩) n.kids.length kc] 58 (0, 0))) := block_below HG3.out (below_alloc hb3)
        have HYB : Hid (w3.heap[wr.heap.size]? = some (.cells #[.int .i64 y.node, .bool y.opt, .string y.dflt] 55 (0, 0))) := block_below (heap_alloc_new wr _) hb3
        have f0 : w3.cell? ⟨Bn, 0, none⟩ = some (.int .i64 n.kind) := by simp [World.cell?, HG4.out]
        have y1 : w3.cell? ⟨wr.heap.size, 1, none⟩ = some (.bool y.opt) := by simp [World.cell?, HYB.out]
        have y2 : w3.cell? ⟨wr.heap.size, 2, none⟩ = some (.string y.dflt) := by simp [World.cell?, HYB.out]
        clear hr hb3 k1 k2 k3
        by_cases q3 : ¬ (y.must ∨ n.kind = 10)
        · have HX : Hid (¬ KidOk m n y) := fun h => q3 h.2.2.1
          obtain rfl : r = true := HRM.out.2 (fun q => q3 (.inl q))
          have q4 : (n.kind != 10) = true := by simp; exact fun e => q3 (.inr e)
          clear q3
          go_wp2
          go_ret
          exact reto_no (NO.out HX.out) HBW3.out
        have q3 : y.must ∨ n.kind = 10 := Classical.not_not.1 q3
        have HQ3 : Hid (y.must ∨ n.kind = 10) := q3
        have q5 : r = false ∨ (r = true ∧ (n.kind != 10) = false) := by
          cases r
          · exact .inl rfl
          · right
            refine ⟨rfl, ?_⟩
            rcases q3 with q3 | q3
            · exact absurd q3 (HRM.out.1 rfl)
            · simp [q3]
        clear q3
        by_cases q6 : y.opt = true
        · by_cases q7 : y.dflt.size = 0
          · have e7 := emp_t q7
            have HX : Hid (KidOk m n y) := ⟨q1', q2', HQ3.out, fun h => h.2 q7⟩
            clear q7
            rw [q6] at y1
            clear q6
            rcases q5 with rfl | ⟨rfl, q8⟩
            · go_wp2
              go_roundw
              case rel => exact ⟨i + 1, by omega, by go_num, YES.out HX.out, HB3.out⟩
              case measure => simp [intOf]; omega
            · go_wp2
              go_roundw
              case rel => exact ⟨i + 1, by omega, by go_num, YES.out HX.out, HB3.out⟩
              case measure => simp [intOf]; omega
          · have e7 := emp_f (t := y.dflt) (by omega)
            have HX : Hid (¬ KidOk m n y) := fun h => h.2.2.2 ⟨q6, q7⟩
            clear q7
            rw [q6] at y1
            clear q6
            rcases q5 with rfl | ⟨rfl, q8⟩
            · go_wp2
              go_ret
              exact reto_no (NO.out HX.out) HBW3.out
            · go_wp2
              go_ret
              exact reto_no (NO.out HX.out) HBW3.out
        · have q6' : y.opt = false := by simpa using q6
          have HX : Hid (KidOk m n y) := ⟨q1', q2', HQ3.out, fun h => q6 h.1⟩
          rw [q6'] at y1
          clear q6 q6'
          rcases q5 with rfl | ⟨rfl, q8⟩
          · go_wp2
            go_roundw
            case rel => exact ⟨i + 1, by omega, by go_num, YES.out HX.out, HB3.out⟩
            case measure => simp [intOf]; omega
          · go_wp2
            go_roundw
            case rel => exact ⟨i + 1, by omega, by go_num, YES.out HX.out, HB3.out⟩
            case measure => simp [intOf]; omega
      · have hlt' : (n.kids.length : Int) ≤ i := by omega
        go_wp2
        go_ret
        exact reto_yes ⟨HTG.out.1, HTG.out.2, HC.out, fun j h => HA.out j (by omega)⟩ HBW.out
end Go.Proofs.YtkkicodfpekbgaaGreatDoor

/-! schemas.isElement: what it answers. -/
namespace Go.Proofs.YtkkicodfpekbgaaGreatDoor
set_option linter.unusedSimpArgs false
set_option linter.unusedVariables false
open Go.RowKit

theorem lays_0 {N : Nd} (ht : N.tag < 0) (hm : N.mode = 0) : N.lays = [(0, own N.kind, false)] := by unfold Nd.lays Nd.ownT; rw [if_neg (by omega), if_neg (by omega)]
theorem lays_1 {N : Nd} (ht : 0 ≤ N.tag) (hm : N.mode = 0) : N.lays = [(2, N.tag, false)] := by unfold Nd.lays Nd.ownT; rw [if_neg (by omega), if_pos ⟨hm, ht⟩]
theorem lays_2 {N : Nd} (hm : N.mode = 1) : N.lays = [(2, N.tag, true), (0, own N.kind, false)] := by unfold Nd.lays Nd.ownT; rw [if_pos hm, if_neg (by omega)]
theorem strip1 {f : Int × Int × Bool} {t u : ByteArray} : strip [f] t = some u ↔ ((hd t).1 = 0 ∧ ((hd t).2.c, (hd t).2.n, (hd t).2.b) = f ∧ (hd t).2.s + (hd t).2.l = t.size) ∧ u = t.extract (hd t).2.s.toNat t.size := by
  show (if _ then some _ else none) = _ ↔ _
  by_cases h : (hd t).1 = 0 ∧ ((hd t).2.c, (hd t).2.n, (hd t).2.b) = f ∧ (hd t).2.s + (hd t).2.l = t.size
  · rw [if_pos h]
    exact ⟨fun e => ⟨h, by injection e with e; exact e.symm⟩, fun e => by rw [e.2]⟩
  · rw [if_neg h]
    exact ⟨fun e => (by cases e), fun e => absurd e.1 h⟩
theorem strip2 {f : Int × Int × Bool} {fs : List (Int × Int × Bool)} {t u : ByteArray} : strip (f :: fs) t = some u ↔ ((hd t).1 = 0 ∧ ((hd t).2.c, (hd t).2.n, (hd t).2.b) = f ∧ (hd t).2.s + (hd t).2.l = t.size) ∧ strip fs (t.extract (hd t).2.s.toNat t.size) = some u := by
  show (if _ then _ else none) = _ ↔ _
  by_cases h : (hd t).1 = 0 ∧ ((hd t).2.c, (hd t).2.n, (hd t).2.b) = f ∧ (hd t).2.s + (hd t).2.l = t.size
  · rw [if_pos h]
    exact ⟨fun e => ⟨h, e⟩, fun e => e.2⟩
  · rw [if_neg h]
    exact ⟨fun e => (by cases e), fun e => absurd e.1 h⟩
theorem elem_iff {N : Nd} {t u : ByteArray} (ht : N.tag < 0 → N.mode = 0) (hm : N.mode = 0 ∨ N.mode = 1) : ElemOk N t u ↔ (strip N.lays t = some u ∧ ContentOk N.kind u) := by
  unfold ElemOk NodeAt
  rw [extract_all]
  by_cases h0 : N.tag < 0
  · rw [lays_0 h0 (ht h0), strip1]
    constructor
    · rintro ⟨_, h1, h2, h3⟩
      rcases h3 with ⟨_, b, c, d, e, f⟩ | ⟨a, _⟩ | ⟨a, _⟩
      · exact ⟨⟨⟨h1, by rw [b, c, d], by omega⟩, by rw [e, Nat.zero_add]⟩, f⟩
      · omega
      · omega
    · rintro ⟨⟨⟨h1, h2, h3⟩, h4⟩, h5⟩
      injection h2 with b h2
      injection h2 with c d
      exact ⟨by omega, h1, by omega, .inl ⟨h0, b, c, d, by rw [h4, Nat.zero_add], h5⟩⟩
  · rcases hm with hm | hm
    · rw [lays_1 (by omega) hm, strip1]
      constructor
      · rintro ⟨_, h1, h2, h3⟩
        rcases h3 with ⟨a, _⟩ | ⟨_, _, b, c, d, e, f⟩ | ⟨_, a, _⟩
        · omega
        · exact ⟨⟨⟨h1, by rw [b, c, d], by omega⟩, by rw [e, Nat.zero_add]⟩, f⟩
        · omega
      · rintro ⟨⟨⟨h1, h2, h3⟩, h4⟩, h5⟩
        injection h2 with b h2
        injection h2 with c d
        exact ⟨by omega, h1, by omega, .inr (.inl ⟨by omega, hm, b, c, d, by rw [h4, Nat.zero_add], h5⟩)⟩
    · rw [lays_2 hm, strip2, strip1]
      constructor
      · rintro ⟨_, h1, h2, h3⟩
        rcases h3 with ⟨a, _⟩ | ⟨_, a, _⟩ | ⟨_, _, b, c, d, t', e, f, g, h, i, j, k, l⟩
        · omega
        · omega
        · rw [Nat.zero_add] at e k
          have ho := hd_ok h1
          have hz : t'.size = t.size - (hd t).2.s.toNat := by rw [e]; simp
          rw [← e]
          refine ⟨⟨⟨h1, by rw [b, c, d], by omega⟩, ⟨f, by rw [g, h, i], by omega⟩, ?_⟩, l⟩
          have hmn : min ((hd t).2.s.toNat + (t.size - (hd t).2.s.toNat)) t.size = t.size := by omega
          rw [k, hz, e, ByteArray.extract_extract, hmn]
      · rintro ⟨⟨⟨h1, h2, h3⟩, ⟨f, h4, h6⟩, h7⟩, h5⟩
        injection h2 with b h2
        injection h2 with c d
        injection h4 with g h4
        injection h4 with h i
        have ho := hd_ok h1
        have hz : (t.extract (hd t).2.s.toNat t.size).size = t.size - (hd t).2.s.toNat := by simp
        have hmn : min ((hd t).2.s.toNat + (t.size - (hd t).2.s.toNat)) t.size = t.size := by omega
        refine ⟨by omega, h1, by omega, .inr (.inr ⟨by omega, by omega, b, c, d, t.extract (hd t).2.s.toNat t.size, by rw [Nat.zero_add], f, g, h, i, ?_, ?_, h5⟩)⟩
        · omega
        · rw [h7, hz, ByteArray.extract_extract, Nat.zero_add, hmn]

set_option maxHeartbeats 1000000 in
set_option maxRecDepth 100000 in
theorem isElement_any (n : Nd) (ka : Option Addr) (kc : Nat) (t : ByteArray) (w : World) (sn : Sn → Addr) (hl : Lay w sn) (hT : Tagged n) (hk1 : 1 ≤ n.kind) (hm : t.size ≤ 140737488355328) :
    Calls Tryz.prog 95 #[.agg #[.int .i64 n.kind, .int .i64 n.tag, .int .i64 n.mode, .slice ka n.kids.length kc], .string t] w fun e w' => RetO (n.kind ≤ 9 ∧ ∃ u, ElemOk n t u) w e w' := by
  by_cases h9 : 9 < n.kind
  · have HX : Hid (¬ (n.kind ≤ 9 ∧ ∃ u, ElemOk n t u)) := fun q => by have := q.1; omega
    clear hl hT
    go_enter Tryz.func95, Tryz.ntmps95
    go_wp2
    go_ret
    exact reto_no HX.out ((Below.refl _ _).alloc (Nat.le_refl _) _)
  · have h9' : n.kind ≤ 9 := by omega
    have hT' := hT
    unfold Tagged at hT'
    have HE : Hid (∀ u, ElemOk n t u ↔ (strip n.lays t = some u ∧ ContentOk n.kind u)) := fun u => elem_iff (by omega) (by omega)
    have HW : Hid (∀ wq, Below w.heap.size w wq → Calls Tryz.prog 137 #[.agg #[.int .i64 n.kind, .int .i64 n.tag, .int .i64 n.mode, .slice ka n.kids.length kc], .string t] wq fun e w' => RetI n t wq e w') := fun wq q => within_any n ka kc t wq sn (hl.below q).s (hl.below q).n (by omega) (by omega) h9' (by omega) hm
    have HF : Hid (∀ u wq, u.size ≤ t.size → Below w.heap.size w wq → Calls Tryz.prog 138 #[.int .i64 n.kind, .string u] wq fun e w' => RetW (ContentOk n.kind u) wq e w') := fun u wq hu q => fits_any n.kind u wq (by omega) (hl.below q).d (valids u wq (by omega) (hl.below q).t)
    clear hl hT hT' h9
    go_enter Tryz.func95, Tryz.ntmps95
    go_wp2_with fail
    refine (HW.out _ ((Below.refl _ _).alloc (Nat.le_refl _) _)).mono ?_
    rintro e w1 ⟨u, r, rfl, hr, hb1, hu⟩
    have HB1 : Hid (Below w.heap.size w w1) := below_alloc hb1
    have HG := block_below (heap_alloc_new w (.cells #[.int .i64 n.kind, .int .i64 n.tag, .int .i64 n.mode, .slice ka n.kids.length kc] 58)) hb1
    have q0 : w1.cell? ⟨w.heap.size, 0, none⟩ = some (.int .i64 n.kind) := by simp [World.cell?, HG]
    have hs1 := lt_of_block HG
    clear HG hb1
    cases r
    · have HX : Hid (¬ (n.kind ≤ 9 ∧ ∃ u, ElemOk n t u)) := by
        rcases hr with ⟨e, _⟩ | ⟨_, e⟩
        · cases e
        · rintro ⟨_, u, q⟩
          rw [HE.out, e] at q
          cases q.1
      clear hr
      go_wp2
      go_ret
      exact reto_no HX.out HB1.out
    · have HX : Hid (strip n.lays t = some u) := by
        rcases hr with ⟨_, e⟩ | ⟨e, _⟩
        · exact e
        · cases e
      clear hr
      go_wp2_with fail
      refine (HF.out u _ hu HB1.out).mono ?_
      rintro e w2 ⟨r, rfl, hr, hb2⟩
      have HR : Hid (r = true ↔ (n.kind ≤ 9 ∧ ∃ u, ElemOk n t u)) := by
        refine hr.trans ⟨fun q => ⟨h9', u, (HE.out u).2 ⟨HX.out, q⟩⟩, ?_⟩
        rintro ⟨_, v, q⟩
        rw [HE.out, HX.out] at q
        obtain ⟨q1, q2⟩ := q
        injection q1 with q1
        rw [q1]; exact q2
      have HB2 : Hid (Below w.heap.size w w2) := HB1.out.trans (hb2.mono HB1.out.size)
      clear hr hb2
      go_wp2
      go_ret
      exact reto_iff HR.out HB2.out
end Go.Proofs.YtkkicodfpekbgaaGreatDoor

/-! hallmarkref.Right: what it answers. -/
namespace Go.Proofs.YtkkicodfpekbgaaGreatDoor
set_option linter.unusedSimpArgs false
set_option linter.unusedVariables false
open Go.RowKit

/-- The Defaults of a node's kids are elements of these kids. -/
def DfltOk (s : List Nd) (n : Nd) (m : Nat) : Prop := ∀ j, j < m → (kd n j).dflt.size = 0 ∨ ((nd s (kd n j).node.toNat).kind ≤ 9 ∧ ∃ u, ElemOk (nd s (kd n j).node.toNat) (kd n j).dflt u)
/-- A schema is right. -/
def RightP (s : List Nd) : Prop := 1 ≤ s.length ∧ s.length ≤ 40 ∧ (∀ i, i < s.length → Alone s.length (nd s i)) ∧ (∀ i, i < s.length → ¬ Back s i) ∧
  ∀ i, i < s.length → ((nd s i).kind = 10 ∨ (nd s i).kind = 13 → Told (Common s) (nd s i)) ∧ DfltOk s (nd s i) (nd s i).kids.length
theorem within_of {s : List Nd} (h : ∀ i, i < s.length → Alone s.length (nd s i)) : Within s := fun i hi k hk => by
  obtain ⟨j, hj, e⟩ := List.getElem_of_mem hk
  have := (h i hi).2.2.2 j hj
  unfold kd at this
  rw [List.getD_eq_getElem?_getD, List.getElem?_eq_getElem hj] at this
  simp only [Option.getD_some, e] at this
  exact ⟨this.1, this.2.1⟩
theorem kinds_of {s : List Nd} (h : ∀ i, i < s.length → Alone s.length (nd s i)) : Kinds s := fun i hi => by have := (h i hi).1; unfold Bad1 at this; omega
theorem count8 {s : List Nd} (h : ∀ i, i < s.length → Alone s.length (nd s i)) {i : Nat} (hi : i < s.length) : (nd s i).kids.length ≤ 8 := by
  have := (h i hi).2.2.1
  unfold Count at this
  repeat' split at this
  all_goals omega
theorem mode_of {s : List Nd} (h : ∀ i, i < s.length → Alone s.length (nd s i)) {i : Nat} (hi : i < s.length) : (nd s i).mode = 0 ∨ (nd s i).mode = 1 := by have := (h i hi).1; unfold Bad1 at this; omega

set_option maxHeartbeats 8000000 in
set_option maxRecDepth 100000 in
theorem right_any (s : List Nd) (a : Option Addr) (c : Nat) (w : World) (hs : Sch w a s) (hok : SchOk s) (hn0 : s.length ≤ 140737488351232) :
    Calls Tryz.prog 15 #[.slice a s.length c] w fun e w' => RetO (RightP s) w e w' := by
  have HS : Hid (Sch w a s) := hs
  have HOK : Hid (SchOk s) := hok
  by_cases hb : s.length < 1
  · have hb' : (s.length : Int) < 1 := by omega
    have HX : Hid (¬ RightP s) := fun h => by have := h.1; omega
    clear hs hok
    go_enter Tryz.func15, Tryz.ntmps15
    go_wp2
    go_ret
    exact reto_no HX.out (Below.refl _ _)
  by_cases hb2 : 40 < s.length
  · have hb' : (40 : Int) < s.length := by omega
    have hb1' : (1 : Int) ≤ s.length := by omega
    have HX : Hid (¬ RightP s) := fun h => by have := h.2.1; omega
    clear hs hok hb
    go_enter Tryz.func15, Tryz.ntmps15
    go_wp2
    go_ret
    exact reto_no HX.out (Below.refl _ _)
  have h1 : 1 ≤ s.length := by omega
  have h40 : s.length ≤ 40 := by omega
  have h1' : (1 : Int) ≤ s.length := by omega
  have h40' : (s.length : Int) ≤ 40 := by omega
  clear hb hb2 hs hok hn0
  go_enter Tryz.func15, Tryz.ntmps15
  go_wp2
  go_loopw [3] (fun vi wr => ∃ i : Nat, i ≤ s.length ∧ vi = .int .i64 i ∧ (∀ j, j < i → Alone s.length (nd s j)) ∧ Below w.heap.size w wr) (fun vi _ => s.length - (intOf vi).toNat)
  case atStart => exact ⟨0, Nat.zero_le _, rfl, fun _ h => absurd h (Nat.not_lt_zero _), Below.refl _ _⟩
  case round =>
    obtain ⟨i, hi, rfl, hall, hbr⟩ := hrel
    have HA : Hid (∀ j, j < i → Alone s.length (nd s j)) := hall
    have HB : Hid (Below w.heap.size w wr) := hbr
    clear hall hbr
    by_cases hlt : i < s.length
    · have hlt' : (i : Int) < s.length := by omega
      obtain ⟨b, o, ka, kc, rfl, nc, kl, km, ks⟩ := (HS.out.below HB.out) i hlt
      obtain ⟨n1, n2, n3, n4⟩ := nc
      have HC : Hid (Calls Tryz.prog 36 #[.slice (some ⟨b, o, none⟩) s.length c, .agg #[.int .i64 (nd s i).kind, .int .i64 (nd s i).tag, .int .i64 (nd s i).mode, .slice ka (nd s i).kids.length kc]] wr fun e w' => RetO (Alone s.length (nd s i)) wr e w') := alone_any s _ c (nd s i) ka kc wr h40 ks (by omega)
      clear ks
      go_wp2_with fail
      refine HC.out.mono ?_
      rintro e w1 ⟨r, rfl, hr, hb1⟩
      have HR : Hid (r = true ↔ Alone s.length (nd s i)) := hr
      have HB1 : Hid (Below w.heap.size w w1) := HB.out.trans (hb1.mono HB.out.size)
      clear hr hb1 n1 n2 n3 n4 HC
      cases r
      · go_wp2
        go_ret
        exact reto_no (fun h => Bool.noConfusion (HR.out.2 (h.2.2.1 i hlt))) HB1.out
      · go_wp2
        go_roundw
        case rel => exact ⟨i + 1, by omega, by go_num, fun j hj => by
          by_cases e : j = i
          · subst e; exact HR.out.1 trivial
          · exact HA.out j (by omega), HB1.out⟩
        case measure => simp [intOf]; omega
    · have hlt' : (s.length : Int) ≤ i := by omega
      obtain rfl : i = s.length := by omega
      go_wp2
      go_loopw [5] (fun vi wr => ∃ i : Nat, i ≤ s.length ∧ vi = .int .i64 i ∧ (∀ j, j < i → ¬ Back s j) ∧ Below w.heap.size w wr) (fun vi _ => s.length - (intOf vi).toNat)
      case atStart => exact ⟨0, Nat.zero_le _, rfl, fun _ h => absurd h (Nat.not_lt_zero _), HB.out⟩
      case round =>
        obtain ⟨i, hi, rfl, hall, hbr⟩ := hrel
        have HBK : Hid (∀ j, j < i → ¬ Back s j) := hall
        have HB2 : Hid (Below w.heap.size w wr) := hbr
        clear hall hbr
        by_cases hlt : i < s.length
        · have hlt' : (i : Int) < s.length := by omega
          have HC : Hid (Calls Tryz.prog 37 #[.slice a s.length c, .int .i64 i] wr fun e w' => RetL s i wr e w') := leaves_any s a c i wr (HS.out.below HB2.out) (within_of HA.out) hlt h40
          go_wp2_with fail
          refine HC.out.mono ?_
          rintro e w1 ⟨v, l, bk, rfl, hown, hb1, _, _, hbk⟩
          have HR : Hid (bk = true ↔ Back s i) := hbk
          have HB3 : Hid (Below w.heap.size w w1) := HB2.out.trans (hb1.mono HB2.out.size)
          clear hown hb1 hbk HC
          cases bk
          · go_wp2
            go_roundw
            case rel => exact ⟨i + 1, by omega, by go_num, fun j hj => by
              by_cases e : j = i
              · subst e; exact fun q => Bool.noConfusion (HR.out.2 q)
              · exact HBK.out j (by omega), HB3.out⟩
            case measure => simp [intOf]; omega
          · go_wp2
            go_ret
            exact reto_no (fun h => h.2.2.2.1 i hlt (HR.out.1 trivial)) HB3.out
        · have hlt' : (s.length : Int) ≤ i := by omega
          obtain rfl : i = s.length := by omega
          go_wp2
          go_loopw [8] (fun vi wr => ∃ i : Nat, i ≤ s.length ∧ vi = .int .i64 i ∧ (∀ j, j < i → ((nd s j).kind = 10 ∨ (nd s j).kind = 13 → Told (Common s) (nd s j)) ∧ DfltOk s (nd s j) (nd s j).kids.length) ∧ Below w.heap.size w wr) (fun vi _ => s.length - (intOf vi).toNat)
          case atStart => exact ⟨0, Nat.zero_le _, rfl, fun _ h => absurd h (Nat.not_lt_zero _), HB2.out⟩
          case round =>
            obtain ⟨i, hi, rfl, hall, hbr⟩ := hrel
            have HL : Hid (∀ j, j < i → ((nd s j).kind = 10 ∨ (nd s j).kind = 13 → Told (Common s) (nd s j)) ∧ DfltOk s (nd s j) (nd s j).kids.length) := hall
            have HB3 : Hid (Below w.heap.size w wr) := hbr
            clear hall hbr
            by_cases hlt : i < s.length
            · have hlt' : (i : Int) < s.length := by omega
              obtain ⟨b, o, ka, kc, rfl, nc, kl, km, ks⟩ := HS.out i hlt
              obtain ⟨n1, n2, n3, n4⟩ := nc.below HB3.out
              have KS : Hid (KidsIn w ka (nd s i).kids) := ks
              have h8 := count8 HA.out hlt
              obtain ⟨Bn, hBn⟩ : ∃ Bn, Bn = wr.heap.size := ⟨_, rfl⟩
              have HBN : Hid (Bn = wr.heap.size) := hBn
              have HB4' : Hid (Below w.heap.size w (wr.alloc (.cells #[.int .i64 (nd s i).kind, .int .i64 (nd s i).tag, .int .i64 (nd s i).mode, .slice ka (nd s i).kids.length kc] 58))) := HB3.out.alloc HB3.out.size _
              have W3' : (wr.alloc (.cells #[.int .i64 (nd s i).kind, .int .i64 (nd s i).tag, .int .i64 (nd s i).mode, .slice ka (nd s i).kids.length kc] 58)).cell? ⟨Bn, 3, none⟩ = some (.slice ka (nd s i).kids.length kc) := by rw [hBn]; simp
              clear ks nc hBn
              by_cases hk : (nd s i).kind = 10 ∨ (nd s i).kind = 13
              · have hkb : ((nd s i).kind == 10) = true ∨ (((nd s i).kind == 10) = false ∧ ((nd s i).kind == 13) = true) := by
                  rcases hk with hk | hk
                  · left; simp [hk]
                  · right; simp [hk]
                have HTD : Hid (Calls Tryz.prog 38 #[.slice (some ⟨b, o, none⟩) s.length c, .agg #[.int .i64 (nd s i).kind, .int .i64 (nd s i).tag, .int .i64 (nd s i).mode, .slice ka (nd s i).kids.length kc]] (wr.alloc (.cells #[.int .i64 (nd s i).kind, .int .i64 (nd s i).tag, .int .i64 (nd s i).mode, .slice ka (nd s i).kids.length kc] 58)) fun e w' => RetO (Told (Common s) (nd s i)) (wr.alloc (.cells #[.int .i64 (nd s i).kind, .int .i64 (nd s i).tag, .int .i64 (nd s i).mode, .slice ka (nd s i).kids.length kc] 58)) e w') :=
                  told_any s _ c i ka kc _ (HS.out.below HB4'.out) (within_of HA.out) (kinds_of HA.out) hlt h40 (KS.out.below HB4'.out) h8
                have HK : Hid ((nd s i).kind = 10 ∨ (nd s i).kind = 13) := hk
                clear hk
                rcases hkb with e1 | ⟨e1, e2⟩
                · go_wp2_with fail
                  refine HTD.out.mono ?_
                  rintro e W1 ⟨r, rfl, hr, hb4⟩
                  have HR : Hid (r = true ↔ Told (Common s) (nd s i)) := hr
                  have HB4 : Hid (Below w.heap.size w W1) := HB4'.out.trans (hb4.mono HB4'.out.size)
                  have W3 : W1.cell? ⟨Bn, 3, none⟩ = some (.slice ka (nd s i).kids.length kc) := (hb4.cell (lt_of_cell W3')).trans W3'
                  clear hr hb4 n1 n2 n3 n4 W3' HTD
                  cases r
                  · go_wp2
                    go_ret
                    exact reto_no (fun h => Bool.noConfusion (HR.out.2 ((h.2.2.2.2 i hlt).1 HK.out))) HB4.out
                  · go_wp2
                    rw [← HBN.out]
                    go_loopw [11] (fun vj wx => ∃ j : Nat, j ≤ (nd s i).kids.length ∧ vj = .int .i64 j ∧ DfltOk s (nd s i) j ∧ Below W1.heap.size W1 wx) (fun vj _ => (nd s i).kids.length - (intOf vj).toNat)
                    case atStart => exact ⟨0, Nat.zero_le _, rfl, fun _ h => absurd h (Nat.not_lt_zero _), Below.refl _ _⟩
                    case round =>
                      obtain ⟨j, hj, rfl, hdf, hbr⟩ := hrel
                      have HDF : Hid (DfltOk s (nd s i) j) := hdf
                      have HBX : Hid (Below W1.heap.size W1 wr) := hbr
                      have HBW : Hid (Below w.heap.size w wr) := HB4.out.trans (hbr.mono HB4.out.size)
                      have g3 : wr.cell? ⟨Bn, 3, none⟩ = some (.slice ka (nd s i).kids.length kc) := (hbr.cell (lt_of_cell W3)).trans W3
                      clear hdf hbr
                      by_cases hjl : j < (nd s i).kids.length
                      · have hjl' : (j : Int) < (nd s i).kids.length := by omega
                        obtain ⟨kb, ko, rfl, kcl⟩ := KS.out j hjl
                        obtain ⟨y, hy⟩ : ∃ y, kd (nd s i) j = y := ⟨_, rfl⟩
                        have HY : Hid (kd (nd s i) j = y) := hy
                        have hkc : KidCells w kb (ko + j * 3) y := by rw [← hy]; exact kcl
                        obtain ⟨k1, k2, k3⟩ := hkc.below HBW.out
                        have hko := (HA.out i hlt).2.2.2 j hjl
                        rw [hy] at hko
                        obtain ⟨t, ht⟩ : ∃ t : Nat, y.node = t := ⟨_, (Int.toNat_of_nonneg hko.1).symm⟩
                        have HT : Hid (y.node = t) := ht
                        have htl : t < s.length := by have := hko.2.1; omega
                        have htl' : (t : Int) < s.length := by omega
                        have hds : y.dflt.size ≤ 140737488351232 := HOK.out i hlt y (by rw [← hy]; unfold kd; rw [List.getD_eq_getElem?_getD, List.getElem?_eq_getElem hjl]; exact List.getElem_mem hjl)
                        rw [ht] at k1
                        have YES : Hid ((y.dflt.size = 0 ∨ ((nd s t).kind ≤ 9 ∧ ∃ u, ElemOk (nd s t) y.dflt u)) → DfltOk s (nd s i) (j + 1)) := fun h q hq => by
                          by_cases e : q = j
                          · subst e; rw [HY.out, HT.out]; exact h
                          · exact HDF.out q (by omega)
                        have NO : Hid (¬ (y.dflt.size = 0 ∨ ((nd s t).kind ≤ 9 ∧ ∃ u, ElemOk (nd s t) y.dflt u)) → ¬ RightP s) := fun h q => h (by have := (q.2.2.2.2 i hlt).2 j hjl; rw [HY.out, HT.out] at this; exact this)
                        clear hy kcl hkc hko ht
                        by_cases hz : y.dflt.size = 0
                        · have e := emp_t hz
                          have HZ : Hid (y.dflt.size = 0) := hz
                          have HB5 : Hid (∀ o, Below W1.heap.size W1 (wr.alloc o)) := fun o => HBX.out.alloc HBX.out.size o
                          clear hz
                          go_wp2
                          go_roundw
                          case rel => exact ⟨j + 1, by omega, by go_num, YES.out (.inl HZ.out), HB5.out _⟩
                          case measure => simp [intOf]; omega
                        · have e := emp_f (t := y.dflt) (by omega)
                          have HZ : Hid (¬ y.dflt.size = 0) := hz
                          obtain ⟨b', o', ka', kc', e', nc', _, _, _⟩ := (HS.out.below HBW.out) t htl
                          have nt := nc'.kind
                          obtain ⟨rfl, rfl⟩ : b = b' ∧ o = o' := by injection e' with e'; injection e' with a1 a2 _; exact ⟨a1, a2⟩
                          have hbl := lt_of_cell nt
                          simp only at hbl
                          clear hz e' nc'
                          by_cases hk9 : 9 < (nd s t).kind
                          · have HK : Hid (9 < (nd s t).kind) := hk9
                            have HB6 : Hid (∀ o, Below w.heap.size w (wr.alloc o)) := fun o => HBW.out.alloc HBW.out.size o
                            go_wp2
                            go_ret
                            exact reto_no (NO.out (fun q => by rcases q with q | q; exact HZ.out q; have := HK.out; have := q.1; omega)) (HB6.out _)
                          · have hk9' : (nd s t).kind ≤ 9 := by omega
                            have HK : Hid ((nd s t).kind ≤ 9) := hk9'
                            have HB6 : Hid (∀ o, Below w.heap.size w (wr.alloc o)) := fun o => HBW.out.alloc HBW.out.size o
                            have HB7 : Hid (∀ o, Below W1.heap.size W1 (wr.alloc o)) := fun o => HBX.out.alloc HBX.out.size o
                            have HRD : Hid (∀ wq, Below w.heap.size w wq → Calls Tryz.prog 39 #[.slice (some ⟨b, o, none⟩) s.length c, .int .i64 t, .string y.dflt] wq fun e w' => RetRd (nd s t) y.dflt wq e w') := fun wq hq => read_leaf s _ c t y.dflt wq (HS.out.below hq) htl (kinds_of HA.out t htl).1 hk9' (fun _ => mode_of HA.out htl) (by omega)
                            clear hk9
                            go_wp2_with fail
                            refine (HRD.out _ (HB6.out _)).mono ?_
                            rintro e w5 ⟨v5, p5, c5, rfl, hb5, hD⟩
                            have HD : Hid ((c5 = 0 ∧ p5 = 0 ∧ ∃ u, ElemOk (nd s t) y.dflt u ∧ w5.ownsRow _ 60 4 v5 1 (vcells [⟨(nd s t).kind, u, 0, 0⟩])) ∨ (c5 ≠ 0 ∧ v5 = .slice none 0 0 ∧ ∀ u, ¬ ElemOk (nd s t) y.dflt u)) := hD
                            have HB8 : Hid (Below w.heap.size w w5) := (HB6.out _).trans (hb5.mono (HB6.out _).size)
                            have HB9 : Hid (Below W1.heap.size W1 w5) := (HB7.out _).trans (hb5.mono (HB7.out _).size)
                            clear hb5
                            rcases hD with ⟨rfl, _, u, hu, _⟩ | ⟨hne, _, hno⟩
                            · have HU : Hid (ElemOk (nd s t) y.dflt u) := hu
                              clear hu HD
                              go_wp2
                              go_roundw
                              case rel => exact ⟨j + 1, by omega, by go_num, YES.out (.inr ⟨HK.out, u, HU.out⟩), HB9.out⟩
                              case measure => simp [intOf]; omega
                            · have hne' : (c5 != 0) = true := by simp [hne]
                              have HNO : Hid (∀ u, ¬ ElemOk (nd s t) y.dflt u) := hno
                              clear hno hne HD
                              go_wp2
                              go_ret
                              exact reto_no (NO.out (fun q => by rcases q with q | ⟨_, u, q⟩; exact HZ.out q; exact HNO.out u q)) HB8.out
                      · have hjl' : ((nd s i).kids.length : Int) ≤ j := by omega
                        obtain rfl : j = (nd s i).kids.length := by omega
                        go_wp2
                        go_roundw
                        case rel => exact ⟨i + 1, by omega, by go_num, fun q hq => by
                          by_cases e : q = i
                          · subst e; exact ⟨fun _ => HR.out.1 trivial, HDF.out⟩
                          · exact HL.out q (by omega), HBW.out⟩
                        case measure => simp [intOf]; omega
                · go_wp2_with fail
                  refine HTD.out.mono ?_
                  rintro e W1 ⟨r, rfl, hr, hb4⟩
                  have HR : Hid (r = true ↔ Told (Common s) (nd s i)) := hr
                  have HB4 : Hid (Below w.heap.size w W1) := HB4'.out.trans (hb4.mono HB4'.out.size)
                  have W3 : W1.cell? ⟨Bn, 3, none⟩ = some (.slice ka (nd s i).kids.length kc) := (hb4.cell (lt_of_cell W3')).trans W3'
                  clear hr hb4 n1 n2 n3 n4 W3' HTD
                  cases r
                  · go_wp2
                    go_ret
                    exact reto_no (fun h => Bool.noConfusion (HR.out.2 ((h.2.2.2.2 i hlt).1 HK.out))) HB4.out
                  · go_wp2
                    rw [← HBN.out]
                    go_loopw [11] (fun vj wx => ∃ j : Nat, j ≤ (nd s i).kids.length ∧ vj = .int .i64 j ∧ DfltOk s (nd s i) j ∧ Below W1.heap.size W1 wx) (fun vj _ => (nd s i).kids.length - (intOf vj).toNat)
                    case atStart => exact ⟨0, Nat.zero_le _, rfl, fun _ h => absurd h (Nat.not_lt_zero _), Below.refl _ _⟩
                    case round =>
                      obtain ⟨j, hj, rfl, hdf, hbr⟩ := hrel
                      have HDF : Hid (DfltOk s (nd s i) j) := hdf
                      have HBX : Hid (Below W1.heap.size W1 wr) := hbr
                      have HBW : Hid (Below w.heap.size w wr) := HB4.out.trans (hbr.mono HB4.out.size)
                      have g3 : wr.cell? ⟨Bn, 3, none⟩ = some (.slice ka (nd s i).kids.length kc) := (hbr.cell (lt_of_cell W3)).trans W3
                      clear hdf hbr
                      by_cases hjl : j < (nd s i).kids.length
                      · have hjl' : (j : Int) < (nd s i).kids.length := by omega
                        obtain ⟨kb, ko, rfl, kcl⟩ := KS.out j hjl
                        obtain ⟨y, hy⟩ : ∃ y, kd (nd s i) j = y := ⟨_, rfl⟩
                        have HY : Hid (kd (nd s i) j = y) := hy
                        have hkc : KidCells w kb (ko + j * 3) y := by rw [← hy]; exact kcl
                        obtain ⟨k1, k2, k3⟩ := hkc.below HBW.out
                        have hko := (HA.out i hlt).2.2.2 j hjl
                        rw [hy] at hko
                        obtain ⟨t, ht⟩ : ∃ t : Nat, y.node = t := ⟨_, (Int.toNat_of_nonneg hko.1).symm⟩
                        have HT : Hid (y.node = t) := ht
                        have htl : t < s.length := by have := hko.2.1; omega
                        have htl' : (t : Int) < s.length := by omega
                        have hds : y.dflt.size ≤ 140737488351232 := HOK.out i hlt y (by rw [← hy]; unfold kd; rw [List.getD_eq_getElem?_getD, List.getElem?_eq_getElem hjl]; exact List.getElem_mem hjl)
                        rw [ht] at k1
                        have YES : Hid ((y.dflt.size = 0 ∨ ((nd s t).kind ≤ 9 ∧ ∃ u, ElemOk (nd s t) y.dflt u)) → DfltOk s (nd s i) (j + 1)) := fun h q hq => by
                          by_cases e : q = j
                          · subst e; rw [HY.out, HT.out]; exact h
                          · exact HDF.out q (by omega)
                        have NO : Hid (¬ (y.dflt.size = 0 ∨ ((nd s t).kind ≤ 9 ∧ ∃ u, ElemOk (nd s t) y.dflt u)) → ¬ RightP s) := fun h q => h (by have := (q.2.2.2.2 i hlt).2 j hjl; rw [HY.out, HT.out] at this; exact this)
                        clear hy kcl hkc hko ht
                        by_cases hz : y.dflt.size = 0
                        · have e := emp_t hz
                          have HZ : Hid (y.dflt.size = 0) := hz
                          have HB5 : Hid (∀ o, Below W1.heap.size W1 (wr.alloc o)) := fun o => HBX.out.alloc HBX.out.size o
                          clear hz
                          go_wp2
                          go_roundw
                          case rel => exact ⟨j + 1, by omega, by go_num, YES.out (.inl HZ.out), HB5.out _⟩
                          case measure => simp [intOf]; omega
                        · have e := emp_f (t := y.dflt) (by omega)
                          have HZ : Hid (¬ y.dflt.size = 0) := hz
                          obtain ⟨b', o', ka', kc', e', nc', _, _, _⟩ := (HS.out.below HBW.out) t htl
                          have nt := nc'.kind
                          obtain ⟨rfl, rfl⟩ : b = b' ∧ o = o' := by injection e' with e'; injection e' with a1 a2 _; exact ⟨a1, a2⟩
                          have hbl := lt_of_cell nt
                          simp only at hbl
                          clear hz e' nc'
                          by_cases hk9 : 9 < (nd s t).kind
                          · have HK : Hid (9 < (nd s t).kind) := hk9
                            have HB6 : Hid (∀ o, Below w.heap.size w (wr.alloc o)) := fun o => HBW.out.alloc HBW.out.size o
                            go_wp2
                            go_ret
                            exact reto_no (NO.out (fun q => by rcases q with q | q; exact HZ.out q; have := HK.out; have := q.1; omega)) (HB6.out _)
                          · have hk9' : (nd s t).kind ≤ 9 := by omega
                            have HK : Hid ((nd s t).kind ≤ 9) := hk9'
                            have HB6 : Hid (∀ o, Below w.heap.size w (wr.alloc o)) := fun o => HBW.out.alloc HBW.out.size o
                            have HB7 : Hid (∀ o, Below W1.heap.size W1 (wr.alloc o)) := fun o => HBX.out.alloc HBX.out.size o
                            have HRD : Hid (∀ wq, Below w.heap.size w wq → Calls Tryz.prog 39 #[.slice (some ⟨b, o, none⟩) s.length c, .int .i64 t, .string y.dflt] wq fun e w' => RetRd (nd s t) y.dflt wq e w') := fun wq hq => read_leaf s _ c t y.dflt wq (HS.out.below hq) htl (kinds_of HA.out t htl).1 hk9' (fun _ => mode_of HA.out htl) (by omega)
                            clear hk9
                            go_wp2_with fail
                            refine (HRD.out _ (HB6.out _)).mono ?_
                            rintro e w5 ⟨v5, p5, c5, rfl, hb5, hD⟩
                            have HD : Hid ((c5 = 0 ∧ p5 = 0 ∧ ∃ u, ElemOk (nd s t) y.dflt u ∧ w5.ownsRow _ 60 4 v5 1 (vcells [⟨(nd s t).kind, u, 0, 0⟩])) ∨ (c5 ≠ 0 ∧ v5 = .slice none 0 0 ∧ ∀ u, ¬ ElemOk (nd s t) y.dflt u)) := hD
                            have HB8 : Hid (Below w.heap.size w w5) := (HB6.out _).trans (hb5.mono (HB6.out _).size)
                            have HB9 : Hid (Below W1.heap.size W1 w5) := (HB7.out _).trans (hb5.mono (HB7.out _).size)
                            clear hb5
                            rcases hD with ⟨rfl, _, u, hu, _⟩ | ⟨hne, _, hno⟩
                            · have HU : Hid (ElemOk (nd s t) y.dflt u) := hu
                              clear hu HD
                              go_wp2
                              go_roundw
                              case rel => exact ⟨j + 1, by omega, by go_num, YES.out (.inr ⟨HK.out, u, HU.out⟩), HB9.out⟩
                              case measure => simp [intOf]; omega
                            · have hne' : (c5 != 0) = true := by simp [hne]
                              have HNO : Hid (∀ u, ¬ ElemOk (nd s t) y.dflt u) := hno
                              clear hno hne HD
                              go_wp2
                              go_ret
                              exact reto_no (NO.out (fun q => by rcases q with q | ⟨_, u, q⟩; exact HZ.out q; exact HNO.out u q)) HB8.out
                      · have hjl' : ((nd s i).kids.length : Int) ≤ j := by omega
                        obtain rfl : j = (nd s i).kids.length := by omega
                        go_wp2
                        go_roundw
                        case rel => exact ⟨i + 1, by omega, by go_num, fun q hq => by
                          by_cases e : q = i
                          · subst e; exact ⟨fun _ => HR.out.1 trivial, HDF.out⟩
                          · exact HL.out q (by omega), HBW.out⟩
                        case measure => simp [intOf]; omega
              · have e1 : ((nd s i).kind == 10) = false := by simp; exact fun q => hk (.inl q)
                have e2 : ((nd s i).kind == 13) = false := by simp; exact fun q => hk (.inr q)
                have HK : Hid (¬ ((nd s i).kind = 10 ∨ (nd s i).kind = 13)) := hk
                have W3 := W3'
                have HB4 := HB4'
                clear hk W3' HB4'
                go_wp2
                rw [← HBN.out]
                generalize (wr.alloc (.cells #[.int .i64 (nd s i).kind, .int .i64 (nd s i).tag, .int .i64 (nd s i).mode, .slice ka (nd s i).kids.length kc] 58)) = W1 at *
                go_loopw [11] (fun vj wx => ∃ j : Nat, j ≤ (nd s i).kids.length ∧ vj = .int .i64 j ∧ DfltOk s (nd s i) j ∧ Below W1.heap.size W1 wx) (fun vj _ => (nd s i).kids.length - (intOf vj).toNat)
                case atStart => exact ⟨0, Nat.zero_le _, rfl, fun _ h => absurd h (Nat.not_lt_zero _), Below.refl _ _⟩
                case round =>
                  obtain ⟨j, hj, rfl, hdf, hbr⟩ := hrel
                  have HDF : Hid (DfltOk s (nd s i) j) := hdf
                  have HBX : Hid (Below W1.heap.size W1 wr) := hbr
                  have HBW : Hid (Below w.heap.size w wr) := HB4.out.trans (hbr.mono HB4.out.size)
                  have g3 : wr.cell? ⟨Bn, 3, none⟩ = some (.slice ka (nd s i).kids.length kc) := (hbr.cell (lt_of_cell W3)).trans W3
                  clear hdf hbr
                  by_cases hjl : j < (nd s i).kids.length
                  · have hjl' : (j : Int) < (nd s i).kids.length := by omega
                    obtain ⟨kb, ko, rfl, kcl⟩ := KS.out j hjl
                    obtain ⟨y, hy⟩ : ∃ y, kd (nd s i) j = y := ⟨_, rfl⟩
                    have HY : Hid (kd (nd s i) j = y) := hy
                    have hkc : KidCells w kb (ko + j * 3) y := by rw [← hy]; exact kcl
                    obtain ⟨k1, k2, k3⟩ := hkc.below HBW.out
                    have hko := (HA.out i hlt).2.2.2 j hjl
                    rw [hy] at hko
                    obtain ⟨t, ht⟩ : ∃ t : Nat, y.node = t := ⟨_, (Int.toNat_of_nonneg hko.1).symm⟩
                    have HT : Hid (y.node = t) := ht
                    have htl : t < s.length := by have := hko.2.1; omega
                    have htl' : (t : Int) < s.length := by omega
                    have hds : y.dflt.size ≤ 140737488351232 := HOK.out i hlt y (by rw [← hy]; unfold kd; rw [List.getD_eq_getElem?_getD, List.getElem?_eq_getElem hjl]; exact List.getElem_mem hjl)
                    rw [ht] at k1
                    have YES : Hid ((y.dflt.size = 0 ∨ ((nd s t).kind ≤ 9 ∧ ∃ u, ElemOk (nd s t) y.dflt u)) → DfltOk s (nd s i) (j + 1)) := fun h q hq => by
                      by_cases e : q = j
                      · subst e; rw [HY.out, HT.out]; exact h
                      · exact HDF.out q (by omega)
                    have NO : Hid (¬ (y.dflt.size = 0 ∨ ((nd s t).kind ≤ 9 ∧ ∃ u, ElemOk (nd s t) y.dflt u)) → ¬ RightP s) := fun h q => h (by have := (q.2.2.2.2 i hlt).2 j hjl; rw [HY.out, HT.out] at this; exact this)
                    clear hy kcl hkc hko ht
                    by_cases hz : y.dflt.size = 0
                    · have e := emp_t hz
                      have HZ : Hid (y.dflt.size = 0) := hz
                      have HB5 : Hid (∀ o, Below W1.heap.size W1 (wr.alloc o)) := fun o => HBX.out.alloc HBX.out.size o
                      clear hz
                      go_wp2
                      go_roundw
                      case rel => exact ⟨j + 1, by omega, by go_num, YES.out (.inl HZ.out), HB5.out _⟩
                      case measure => simp [intOf]; omega
                    · have e := emp_f (t := y.dflt) (by omega)
                      have HZ : Hid (¬ y.dflt.size = 0) := hz
                      obtain ⟨b', o', ka', kc', e', nc', _, _, _⟩ := (HS.out.below HBW.out) t htl
                      have nt := nc'.kind
                      obtain ⟨rfl, rfl⟩ : b = b' ∧ o = o' := by injection e' with e'; injection e' with a1 a2 _; exact ⟨a1, a2⟩
                      have hbl := lt_of_cell nt
                      simp only at hbl
                      clear hz e' nc'
                      by_cases hk9 : 9 < (nd s t).kind
                      · have HK : Hid (9 < (nd s t).kind) := hk9
                        have HB6 : Hid (∀ o, Below w.heap.size w (wr.alloc o)) := fun o => HBW.out.alloc HBW.out.size o
                        go_wp2
                        go_ret
                        exact reto_no (NO.out (fun q => by rcases q with q | q; exact HZ.out q; have := HK.out; have := q.1; omega)) (HB6.out _)
                      · have hk9' : (nd s t).kind ≤ 9 := by omega
                        have HK : Hid ((nd s t).kind ≤ 9) := hk9'
                        have HB6 : Hid (∀ o, Below w.heap.size w (wr.alloc o)) := fun o => HBW.out.alloc HBW.out.size o
                        have HB7 : Hid (∀ o, Below W1.heap.size W1 (wr.alloc o)) := fun o => HBX.out.alloc HBX.out.size o
                        have HRD : Hid (∀ wq, Below w.heap.size w wq → Calls Tryz.prog 39 #[.slice (some ⟨b, o, none⟩) s.length c, .int .i64 t, .string y.dflt] wq fun e w' => RetRd (nd s t) y.dflt wq e w') := fun wq hq => read_leaf s _ c t y.dflt wq (HS.out.below hq) htl (kinds_of HA.out t htl).1 hk9' (fun _ => mode_of HA.out htl) (by omega)
                        clear hk9
                        go_wp2_with fail
                        refine (HRD.out _ (HB6.out _)).mono ?_
                        rintro e w5 ⟨v5, p5, c5, rfl, hb5, hD⟩
                        have HD : Hid ((c5 = 0 ∧ p5 = 0 ∧ ∃ u, ElemOk (nd s t) y.dflt u ∧ w5.ownsRow _ 60 4 v5 1 (vcells [⟨(nd s t).kind, u, 0, 0⟩])) ∨ (c5 ≠ 0 ∧ v5 = .slice none 0 0 ∧ ∀ u, ¬ ElemOk (nd s t) y.dflt u)) := hD
                        have HB8 : Hid (Below w.heap.size w w5) := (HB6.out _).trans (hb5.mono (HB6.out _).size)
                        have HB9 : Hid (Below W1.heap.size W1 w5) := (HB7.out _).trans (hb5.mono (HB7.out _).size)
                        clear hb5
                        rcases hD with ⟨rfl, _, u, hu, _⟩ | ⟨hne, _, hno⟩
                        · have HU : Hid (ElemOk (nd s t) y.dflt u) := hu
                          clear hu HD
                          go_wp2
                          go_roundw
                          case rel => exact ⟨j + 1, by omega, by go_num, YES.out (.inr ⟨HK.out, u, HU.out⟩), HB9.out⟩
                          case measure => simp [intOf]; omega
                        · have hne' : (c5 != 0) = true := by simp [hne]
                          have HNO : Hid (∀ u, ¬ ElemOk (nd s t) y.dflt u) := hno
                          clear hno hne HD
                          go_wp2
                          go_ret
                          exact reto_no (NO.out (fun q => by rcases q with q | ⟨_, u, q⟩; exact HZ.out q; exact HNO.out u q)) HB8.out
                  · have hjl' : ((nd s i).kids.length : Int) ≤ j := by omega
                    obtain rfl : j = (nd s i).kids.length := by omega
                    go_wp2
                    go_roundw
                    case rel => exact ⟨i + 1, by omega, by go_num, fun q hq => by
                      by_cases e : q = i
                      · subst e; exact ⟨fun q => absurd q HK.out, HDF.out⟩
                      · exact HL.out q (by omega), HBW.out⟩
                    case measure => simp [intOf]; omega
            · have hlt' : (s.length : Int) ≤ i := by omega
              obtain rfl : i = s.length := by omega
              go_wp2
              go_ret
              exact reto_yes ⟨h1, h40, HA.out, HBK.out, HL.out⟩ HB3.out
end Go.Proofs.YtkkicodfpekbgaaGreatDoor

/-! schemas.defaultsFit: what it answers. -/
namespace Go.Proofs.YtkkicodfpekbgaaGreatDoor
set_option linter.unusedSimpArgs false
set_option linter.unusedVariables false
open Go.RowKit

set_option maxHeartbeats 2000000 in
set_option maxRecDepth 100000 in
theorem defaultsFit_any (s : List Nd) (a : Option Addr) (c : Nat) (n : Nd) (ka : Option Addr) (kc : Nat) (w : World) (sn : Sn → Addr) (hl : Lay w sn) (hs : Sch w a s) (hka : KidsIn w ka n.kids) (hk8 : n.kids.length ≤ 8) (hw : ∀ j, j < n.kids.length → ∃ t : Nat, (kd n j).node = t ∧ t < s.length)
    (hT : ∀ i, i < s.length → Tagged (nd s i)) (hkd : Kinds s) (hn : s.length ≤ 40) (hd : ∀ j, j < n.kids.length → (kd n j).dflt.size ≤ 140737488351232) :
    Calls Tryz.prog 62 #[.slice a s.length c, .agg #[.int .i64 n.kind, .int .i64 n.tag, .int .i64 n.mode, .slice ka n.kids.length kc]] w fun e w' => RetO (DfltOk s n n.kids.length) w e w' := by
  have HKI : Hid (KidsIn w ka n.kids) := hka
  have HKR : Hid (∀ j, j < n.kids.length → ∃ t : Nat, (kd n j).node = t ∧ t < s.length) := hw
  have HS : Hid (Sch w a s) := hs
  have HD : Hid (∀ j, j < n.kids.length → (kd n j).dflt.size ≤ 140737488351232) := hd
  have HIE : Hid (∀ (i : Nat) (ka : Option Addr) (kc : Nat) (t : ByteArray) (wq : World), i < s.length → t.size ≤ 140737488351232 → Below w.heap.size w wq → Calls Tryz.prog 95 #[.agg #[.int .i64 (nd s i).kind, .int .i64 (nd s i).tag, .int .i64 (nd s i).mode, .slice ka (nd s i).kids.length kc], .string t] wq fun e w' => RetO ((nd s i).kind ≤ 9 ∧ ∃ u, ElemOk (nd s i) t u) wq e w') :=
    fun i ka kc t wq hi ht q => isElement_any (nd s i) ka kc t wq sn (hl.below q) (hT i hi) (hkd i hi).1 (by omega)
  clear hka hw hs hd hl hT hkd
  go_enter Tryz.func62, Tryz.ntmps62
  go_wp2
  have HB0 : Hid (Below w.heap.size w (w.alloc (.cells #[.int .i64 n.kind, .int .i64 n.tag, .int .i64 n.mode, .slice ka n.kids.length kc] 58))) := (Below.refl _ _).alloc (Nat.le_refl _) _
  go_loopw [10] (fun vi wr => ∃ i : Nat, i ≤ n.kids.length ∧ vi = .int .i64 i ∧ DfltOk s n i ∧ Below w.heap.size w wr) (fun vi _ => n.kids.length - (intOf vi).toNat)
  case atStart => exact ⟨0, Nat.zero_le _, rfl, fun _ h => absurd h (Nat.not_lt_zero _), HB0.out⟩
  case round =>
    obtain ⟨i, hi, rfl, hall, hbr⟩ := hrel
    have HA : Hid (DfltOk s n i) := hall
    have HB : Hid (Below w.heap.size w wr) := hbr
    clear hall hbr
    by_cases hlt : i < n.kids.length
    · have hlt' : (i : Int) < n.kids.length := by omega
      obtain ⟨kb, ko, rfl, kcl⟩ := HKI.out i hlt
      obtain ⟨ty, yo, yd, hy, hty⟩ := kid_at HKR.out hlt
      have HY : Hid (kd n i = ⟨ty, yo, yd⟩) := hy
      have hkcl : KidCells w kb (ko + i * 3) ⟨ty, yo, yd⟩ := by rw [← hy]; exact kcl
      have hds : yd.size ≤ 140737488351232 := by have := HD.out i hlt; rw [hy] at this; exact this
      obtain ⟨k1, k2, k3⟩ := hkcl.below HB.out
      simp only at k1 k2 k3
      have HB2 : Hid (Below w.heap.size w (wr.alloc (.cells #[.int .i64 ty, .bool yo, .string yd] 55))) := HB.out.alloc HB.out.size _
      obtain ⟨b, o, ka2, kc2, rfl, nc, _⟩ := HS.out ty hty
      have X0 : ∀ x : Ext (wr.alloc (.cells #[.int .i64 ty, .bool yo, .string yd] 55)), x.v.cell? ⟨wr.heap.size, 0, none⟩ = some (.int .i64 ty) := fun x => x.new rfl
      have X2 : ∀ x : Ext (wr.alloc (.cells #[.int .i64 ty, .bool yo, .string yd] 55)), x.v.cell? ⟨wr.heap.size, 2, none⟩ = some (.string yd) := fun x => x.new rfl
      have X3 : ∀ x : Ext (wr.alloc (.cells #[.int .i64 ty, .bool yo, .string yd] 55)), x.v.cell? ⟨b, o + ty * 4, none⟩ = some (.int .i64 (nd s ty).kind) := fun x => Ext.far HB2.out x nc.kind
      have X4 : ∀ x : Ext (wr.alloc (.cells #[.int .i64 ty, .bool yo, .string yd] 55)), x.v.cell? ⟨b, o + ty * 4 + 1, none⟩ = some (.int .i64 (nd s ty).tag) := fun x => Ext.far HB2.out x nc.tag
      have X5 : ∀ x : Ext (wr.alloc (.cells #[.int .i64 ty, .bool yo, .string yd] 55)), x.v.cell? ⟨b, o + ty * 4 + 2, none⟩ = some (.int .i64 (nd s ty).mode) := fun x => Ext.far HB2.out x nc.mode
      have X6 : ∀ x : Ext (wr.alloc (.cells #[.int .i64 ty, .bool yo, .string yd] 55)), x.v.cell? ⟨b, o + ty * 4 + 3, none⟩ = some (.slice ka2 (nd s ty).kids.length kc2) := fun x => Ext.far HB2.out x nc.kids
      obtain ⟨r, hr⟩ := bool_of ((nd s ty).kind ≤ 9 ∧ ∃ u, ElemOk (nd s ty) yd u)
      have HR : Hid (r = true ↔ ((nd s ty).kind ≤ 9 ∧ ∃ u, ElemOk (nd s ty) yd u)) := hr
      have HM : Hid (∀ x : Ext (wr.alloc (.cells #[.int .i64 ty, .bool yo, .string yd] 55)), Calls Tryz.prog 95 #[.agg #[.int .i64 (nd s ty).kind, .int .i64 (nd s ty).tag, .int .i64 (nd s ty).mode, .slice ka2 (nd s ty).kids.length kc2], .string yd] x.v fun e w'' => e = .returned (.bool r) ∧ ∃ y : Ext (wr.alloc (.cells #[.int .i64 ty, .bool yo, .string yd] 55)), w'' = y.v) := fun x => Ext.callsR hr (HIE.out ty ka2 kc2 yd x.v hty hds (Ext.bel HB2.out x))
      have hty' : (ty : Int) < s.length := by omega
      have STEP : Hid (yd.size = 0 ∨ ((nd s ty).kind ≤ 9 ∧ ∃ u, ElemOk (nd s ty) yd u) → DfltOk s n (i + 1)) := fun h j hj => by
        by_cases e : j = i
        · subst e; rw [HY.out]; simpa using h
        · exact HA.out j (by omega)
      have BADD : Hid (0 < yd.size → ¬ ((nd s ty).kind ≤ 9 ∧ ∃ u, ElemOk (nd s ty) yd u) → ¬ DfltOk s n n.kids.length) := fun h1 h2 q => by
        have := q i hlt
        rw [HY.out] at this
        simp only [Int.toNat_natCast] at this
        rcases this with h | h
        · omega
        · exact h2 h
      clear hy kcl hkcl nc hr
      by_cases hz : yd.size = 0
      · have e0 := emp_t hz
        have HZ : Hid (yd.size = 0) := hz
        clear hz
        go_wp2_with fail
        (have ne := ext_ne; refine wp_region_ext (by kernel_rfl) (by kernel_rfl) ?_; (repeat (first | go_big_quiet_skip | (go_big_quiet_want; go_big_quiet_op; first | go_big_quiet_on | (apply Exists.intro; refine ⟨fun x => ?_, ?_⟩; (· (exact HM.out x)); go_big_quiet_on)))); refine nil_ext ?_)
        intro w5 hb5
        have HB5 : Hid (Below w.heap.size w w5) := HB2.out.trans (hb5.mono HB2.out.size)
        clear X0 X2 X3 X4 X5 X6 hb5 HM
        go_wp2
        go_roundw
        case rel => exact ⟨i + 1, by omega, by go_num, STEP.out (.inl HZ.out), HB5.out⟩
        case measure => simp [intOf]; omega
      · have e0 := emp_f (t := yd) (by omega)
        have HZ : Hid (0 < yd.size) := by show 0 < yd.size; omega
        clear hz
        go_wp2_with fail
        (have ne := ext_ne; refine wp_region_ext (by kernel_rfl) (by kernel_rfl) ?_; (repeat (first | go_big_quiet_skip | (go_big_quiet_want; go_big_quiet_op; first | go_big_quiet_on | (apply Exists.intro; refine ⟨fun x => ?_, ?_⟩; (· (exact HM.out x)); go_big_quiet_on)))); refine nil_ext ?_)
        intro w5 hb5
        have HB5 : Hid (Below w.heap.size w w5) := HB2.out.trans (hb5.mono HB2.out.size)
        clear X0 X2 X3 X4 X5 X6 hb5 HM
        cases r
        · go_wp2
          go_ret
          exact reto_no (BADD.out HZ.out (fun q => Bool.noConfusion (HR.out.2 q))) HB5.out
        · go_wp2
          go_roundw
          case rel => exact ⟨i + 1, by omega, by go_num, STEP.out (.inr (HR.out.1 rfl)), HB5.out⟩
          case measure => simp [intOf]; omega
    · have hlt' : (n.kids.length : Int) ≤ i := by omega
      have HI : Hid (i = n.kids.length) := by show i = _; omega
      go_wp2
      go_ret
      exact reto_yes (HI.out ▸ HA.out) HB.out
end Go.Proofs.YtkkicodfpekbgaaGreatDoor

/-! schemas.Check: what it answers. -/
namespace Go.Proofs.YtkkicodfpekbgaaGreatDoor
set_option linter.unusedSimpArgs false
set_option linter.unusedVariables false
open Go.RowKit

/-- What Check answers. -/
def RetK (s : List Nd) (za : Addr) (w : World) (e : Ending) (w' : World) : Prop := Below w.heap.size w w' ∧ ((e = .returned .nilIface ∧ RightP s) ∨ ((∃ p : Int, e = .returned (fault p za)) ∧ ¬ RightP s))

theorem kidsOf {s : List Nd} (h : ∀ i, i < s.length → Alone s.length (nd s i)) {i : Nat} (hi : i < s.length) : ∀ j, j < (nd s i).kids.length → ∃ t : Nat, (kd (nd s i) j).node = t ∧ t < s.length := fun j hj => by
  have q := (h i hi).2.2.2 j hj
  have q1 := q.1
  have q2 := q.2.1
  exact ⟨(kd (nd s i) j).node.toNat, by omega, by omega⟩
theorem taggedOf {s : List Nd} (h : ∀ i, i < s.length → Alone s.length (nd s i)) : ∀ i, i < s.length → Tagged (nd s i) := fun i hi => ((tagged_iff _).1 ⟨(h i hi).1, (h i hi).2.1⟩).2.2
theorem dfltOf {s : List Nd} (h : SchOk s) {i : Nat} (hi : i < s.length) : ∀ j, j < (nd s i).kids.length → (kd (nd s i) j).dflt.size ≤ 140737488351232 := fun j hj => by
  refine h i hi _ ?_
  unfold kd
  rw [List.getD_eq_getElem?_getD, List.getElem?_eq_getElem hj]
  exact List.getElem_mem hj
theorem plain_iff {s : List Nd} (h : ∀ i, i < s.length → Alone s.length (nd s i)) (hb : ∀ i, i < s.length → ¬ Back s i) {i : Nat} (hi : i < s.length) :
    PlainAt s (nd s i) ↔ ((nd s i).kind = 10 ∨ (nd s i).kind = 13 → Told (Common s) (nd s i)) := by
  have hw := within_of h
  have hlf : ∀ i, i < s.length → ∃ j, Leaf s i j := fun i hi => leaf_ex hw (fun i hi ho e => by
    have h1 := (h i hi).2.2.1
    have h2 := ho.1
    unfold Count at h1
    rw [if_neg (by omega), if_neg (by omega), if_pos h2, e] at h1
    have := h1.1
    simp at this) hb hi
  have ht : ∀ j, j < s.length → (nd s j).tag ≤ 30 := fun j hj => (taggedOf h j hj).2.1
  unfold PlainAt
  refine forall_congr' fun _ => (told_congr (m := s.length) (fun j hj => ?_) fun i k h1 h2 => (common_iff ht hw h1 h2 (hlf i h1) (hlf k h2)).symm)
  obtain ⟨t, e, q⟩ := kidsOf h hi j hj
  rw [e]; simpa using q

set_option maxHeartbeats 4000000 in
set_option maxRecDepth 100000 in
theorem check_any (s : List Nd) (a : Option Addr) (c : Nat) (w : World) (sn : Sn → Addr) (za : Addr) (hl : Lay w sn) (hz : LayZ w sn za) (hs : Sch w a s) (hok : SchOk s) (hn0 : s.length ≤ 140737488351232) :
    Calls Tryz.prog 35 #[.slice a s.length c] w fun e w' => RetK s za w e w' := by
  have HS : Hid (Sch w a s) := hs
  have HOK : Hid (SchOk s) := hok
  have HL : Hid (Lay w sn) := hl
  have HZ : Hid (∀ wq, Below w.heap.size w wq → wq.cell? ⟨12, 0, none⟩ = some (.iface 291 (.pointer (some za)))) := fun wq q => (hz.below q).c
  have HAT : Hid (∀ (p : Int) (wq : World), Calls Tryz.prog 60 #[.int .i64 p, .iface 291 (.pointer (some za))] wq fun e w' => e = .returned (fault p za) ∧ w' = wq) := fun p wq => at_any p za wq
  have NO : Hid (∀ (p : Int) (wq : World), ¬ RightP s → Below w.heap.size w wq → RetK s za w (.returned (fault p za)) wq) := fun p wq h q => ⟨q, .inr ⟨⟨p, rfl⟩, h⟩⟩
  have z0 := HZ.out w (Below.refl _ _)
  clear hs hok hl hz
  by_cases hb : s.length < 1
  · have hb' : (s.length : Int) < 1 := by omega
    have HX : Hid (¬ RightP s) := fun h => by have := h.1; omega
    clear hb
    go_enter Tryz.func35, Tryz.ntmps35
    go_wp2_with fail
    refine (HAT.out _ _).mono ?_
    rintro e w1 ⟨rfl, rfl⟩
    unfold fault
    go_wp2
    go_ret
    exact NO.out _ _ HX.out (Below.refl _ _)
  by_cases hb2 : 40 < s.length
  · have hb' : (40 : Int) < s.length := by omega
    have hb1' : (1 : Int) ≤ s.length := by omega
    have HX : Hid (¬ RightP s) := fun h => by have := h.2.1; omega
    clear hb hb2
    go_enter Tryz.func35, Tryz.ntmps35
    go_wp2_with fail
    refine (HAT.out _ _).mono ?_
    rintro e w1 ⟨rfl, rfl⟩
    unfold fault
    go_wp2
    go_ret
    exact NO.out _ _ HX.out (Below.refl _ _)
  have h1 : 1 ≤ s.length := by omega
  have h40 : s.length ≤ 40 := by omega
  have h1' : (1 : Int) ≤ s.length := by omega
  have h40' : (s.length : Int) ≤ 40 := by omega
  clear hb hb2 hn0 z0
  go_enter Tryz.func35, Tryz.ntmps35
  go_wp2
  go_loopw [22] (fun vi wr => ∃ i : Nat, i ≤ s.length ∧ vi = .int .i64 i ∧ (∀ j, j < i → Alone s.length (nd s j)) ∧ Below w.heap.size w wr) (fun vi _ => s.length - (intOf vi).toNat)
  case atStart => exact ⟨0, Nat.zero_le _, rfl, fun _ h => absurd h (Nat.not_lt_zero _), Below.refl _ _⟩
  case round =>
    obtain ⟨i, hi, rfl, hall, hbr⟩ := hrel
    have HA : Hid (∀ j, j < i → Alone s.length (nd s j)) := hall
    have HB : Hid (Below w.heap.size w wr) := hbr
    clear hall hbr
    by_cases hlt : i < s.length
    · have hlt' : (i : Int) < s.length := by omega
      obtain ⟨b, o, ka, kc, rfl, nc, kl, km, ks⟩ := HS.out i hlt
      obtain ⟨n1, n2, n3, n4⟩ := nc.below HB.out
      have HB2 : Hid (Below w.heap.size w (wr.alloc (.cells #[.int .i64 (nd s i).kind, .int .i64 (nd s i).tag, .int .i64 (nd s i).mode, .slice ka (nd s i).kids.length kc] 58))) := HB.out.alloc HB.out.size _
      have HC : Hid (∀ wq, Below w.heap.size w wq → Calls Tryz.prog 61 #[.agg #[.int .i64 (nd s i).kind, .int .i64 (nd s i).tag, .int .i64 (nd s i).mode, .slice ka (nd s i).kids.length kc], .int .i64 s.length] wq fun e w' => RetO (Alone s.length (nd s i)) wq e w') := fun wq q => isShaped_any s.length (nd s i) ka kc wq (ks.below q) (by omega)
      clear ks nc
      go_wp2_with fail
      refine (HC.out _ HB2.out).mono ?_
      rintro e w1 ⟨r, rfl, hr, hb1⟩
      have HR : Hid (r = true ↔ Alone s.length (nd s i)) := hr
      have HB1 : Hid (Below w.heap.size w w1) := HB2.out.trans (hb1.mono HB2.out.size)
      have z1 := HZ.out w1 HB1.out
      clear hr hb1 n1 n2 n3 n4 HC
      cases r
      · have HX : Hid (¬ RightP s) := fun h => Bool.noConfusion (HR.out.2 (h.2.2.1 i hlt))
        go_wp2_with fail
        refine (HAT.out _ _).mono ?_
        rintro e w2 ⟨rfl, rfl⟩
        unfold fault
        go_wp2
        go_ret
        exact NO.out _ _ HX.out HB1.out
      · go_wp2
        go_roundw
        case rel => exact ⟨i + 1, by omega, by go_num, fun j hj => by
          by_cases e : j = i
          · subst e; exact HR.out.1 trivial
          · exact HA.out j (by omega), HB1.out⟩
        case measure => simp [intOf]; omega
    · have hlt' : (s.length : Int) ≤ i := by omega
      obtain rfl : i = s.length := by omega
      go_wp2
      go_loopw [38] (fun vi wr => ∃ i : Nat, i ≤ s.length ∧ vi = .int .i64 i ∧ (∀ j, j < i → DfltOk s (nd s j) (nd s j).kids.length ∧ ¬ Back s j) ∧ Below w.heap.size w wr) (fun vi _ => s.length - (intOf vi).toNat)
      case atStart => exact ⟨0, Nat.zero_le _, rfl, fun _ h => absurd h (Nat.not_lt_zero _), HB.out⟩
      case round =>
        obtain ⟨i, hi, rfl, hall, hbr⟩ := hrel
        have HBK : Hid (∀ j, j < i → DfltOk s (nd s j) (nd s j).kids.length ∧ ¬ Back s j) := hall
        have HB2 : Hid (Below w.heap.size w wr) := hbr
        clear hall hbr
        by_cases hlt : i < s.length
        · have hlt' : (i : Int) < s.length := by omega
          obtain ⟨b, o, ka, kc, rfl, nc, kl, km, ks⟩ := HS.out i hlt
          obtain ⟨n1, n2, n3, n4⟩ := nc.below HB2.out
          have HB3 : Hid (Below w.heap.size w (wr.alloc (.cells #[.int .i64 (nd s i).kind, .int .i64 (nd s i).tag, .int .i64 (nd s i).mode, .slice ka (nd s i).kids.length kc] 58))) := HB2.out.alloc HB2.out.size _
          have HD : Hid (∀ wq, Below w.heap.size w wq → Calls Tryz.prog 62 #[.slice (some ⟨b, o, none⟩) s.length c, .agg #[.int .i64 (nd s i).kind, .int .i64 (nd s i).tag, .int .i64 (nd s i).mode, .slice ka (nd s i).kids.length kc]] wq fun e w' => RetO (DfltOk s (nd s i) (nd s i).kids.length) wq e w') := fun wq q => defaultsFit_any s _ c (nd s i) ka kc wq sn (HL.out.below q) (HS.out.below q) (ks.below q) (count8 HA.out hlt) (kidsOf HA.out hlt) (taggedOf HA.out) (kinds_of HA.out) h40 (dfltOf HOK.out hlt)
          have HC : Hid (∀ wq, Below w.heap.size w wq → Calls Tryz.prog 63 #[.slice (some ⟨b, o, none⟩) s.length c, .int .i64 i] wq fun e w' => RetO (Back s i) wq e w') := fun wq q => comesBack_any s _ c i wq (HS.out.below q) (within_of HA.out) (fun j hj => (taggedOf HA.out j hj).1) hlt h40
          clear ks nc
          go_wp2_with fail
          refine (HD.out _ HB3.out).mono ?_
          rintro e w1 ⟨r, rfl, hr, hb1⟩
          have HR : Hid (r = true ↔ DfltOk s (nd s i) (nd s i).kids.length) := hr
          have HB1 : Hid (Below w.heap.size w w1) := HB3.out.trans (hb1.mono HB3.out.size)
          have z1 := HZ.out w1 HB1.out
          clear hr hb1 n1 n2 n3 n4 HD
          cases r
          · have HX : Hid (¬ RightP s) := fun h => Bool.noConfusion (HR.out.2 (h.2.2.2.2 i hlt).2)
            go_wp2_with fail
            refine (HAT.out _ _).mono ?_
            rintro e w2 ⟨rfl, rfl⟩
            unfold fault
            go_wp2
            go_ret
            exact NO.out _ _ HX.out HB1.out
          · have HDF : Hid (DfltOk s (nd s i) (nd s i).kids.length) := HR.out.1 rfl
            go_wp2_with fail
            refine (HC.out _ HB1.out).mono ?_
            rintro e w2 ⟨r, rfl, hr, hb2⟩
            have HR2 : Hid (r = true ↔ Back s i) := hr
            have HB4 : Hid (Below w.heap.size w w2) := HB1.out.trans (hb2.mono HB1.out.size)
            have z2 := HZ.out w2 HB4.out
            clear hr hb2 HC
            cases r
            · go_wp2
              go_roundw
              case rel => exact ⟨i + 1, by omega, by go_num, fun j hj => by
                by_cases e : j = i
                · subst e; exact ⟨HDF.out, fun q => Bool.noConfusion (HR2.out.2 q)⟩
                · exact HBK.out j (by omega), HB4.out⟩
              case measure => simp [intOf]; omega
            · have HX : Hid (¬ RightP s) := fun h => h.2.2.2.1 i hlt (HR2.out.1 rfl)
              go_wp2_with fail
              refine (HAT.out _ _).mono ?_
              rintro e w3 ⟨rfl, rfl⟩
              unfold fault
              go_wp2
              go_ret
              exact NO.out _ _ HX.out HB4.out
        · have hlt' : (s.length : Int) ≤ i := by omega
          obtain rfl : i = s.length := by omega
          have HC : Hid (Calls Tryz.prog 64 #[.slice a s.length c] wr fun e w' => e = .returned (.slice (some ⟨wr.heap.size, 0, none⟩) s.length s.length) ∧ AbW s wr w' s.length) := allBeginnings_any s a c wr (HS.out.below HB2.out) (within_of HA.out) (fun j hj => (taggedOf HA.out j hj).1) (kinds_of HA.out) (HL.out.below HB2.out).n h40
          go_wp2_with fail
          refine HC.out.mono ?_
          rintro e w1 ⟨rfl, hab⟩
          obtain ⟨gb, hgb⟩ : ∃ gb, gb = wr.heap.size := ⟨_, rfl⟩
          have HAB : Hid (AbR w1 gb s) := by rw [hgb]; exact hab.read
          have HB3 : Hid (Below w.heap.size w w1) := HB2.out.trans (hab.bel.mono HB2.out.size)
          rw [← hgb]
          clear hab hgb HC
          go_wp2
          go_loopw [60] (fun vi wr => ∃ i : Nat, i ≤ s.length ∧ vi = .int .i64 i ∧ (∀ j, j < i → PlainAt s (nd s j)) ∧ Below w1.heap.size w1 wr) (fun vi _ => s.length - (intOf vi).toNat)
          case atStart => exact ⟨0, Nat.zero_le _, rfl, fun _ h => absurd h (Nat.not_lt_zero _), Below.refl _ _⟩
          case round =>
            obtain ⟨i, hi, rfl, hall, hbr⟩ := hrel
            have HPL : Hid (∀ j, j < i → PlainAt s (nd s j)) := hall
            have HB4 : Hid (Below w1.heap.size w1 wr) := hbr
            have HB5 : Hid (Below w.heap.size w wr) := HB3.out.trans (hbr.mono HB3.out.size)
            clear hall hbr
            by_cases hlt : i < s.length
            · have hlt' : (i : Int) < s.length := by omega
              obtain ⟨b, o, ka, kc, rfl, nc, kl, km, ks⟩ := HS.out i hlt
              obtain ⟨n1, n2, n3, n4⟩ := nc.below HB5.out
              have HB6 : Hid (Below w1.heap.size w1 (wr.alloc (.cells #[.int .i64 (nd s i).kind, .int .i64 (nd s i).tag, .int .i64 (nd s i).mode, .slice ka (nd s i).kids.length kc] 58))) := HB4.out.alloc HB4.out.size _
              have HP : Hid (∀ wq, Below w1.heap.size w1 wq → Calls Tryz.prog 65 #[.agg #[.int .i64 (nd s i).kind, .int .i64 (nd s i).tag, .int .i64 (nd s i).mode, .slice ka (nd s i).kids.length kc], .slice (some ⟨gb, 0, none⟩) s.length s.length] wq fun e w' => RetO (PlainAt s (nd s i)) wq e w') := fun wq q => isPlain_any s (nd s i) ka kc gb wq (ks.below (HB3.out.trans (q.mono HB3.out.size))) kl (count8 HA.out hlt) (kidsOf HA.out hlt) (HAB.out.below q) h40
              clear ks nc
              go_wp2_with fail
              refine (HP.out _ HB6.out).mono ?_
              rintro e w2 ⟨r, rfl, hr, hb2⟩
              have HR : Hid (r = true ↔ PlainAt s (nd s i)) := hr
              have HB7 : Hid (Below w1.heap.size w1 w2) := HB6.out.trans (hb2.mono HB6.out.size)
              have HB8 : Hid (Below w.heap.size w w2) := HB3.out.trans (HB7.out.mono HB3.out.size)
              have z2 := HZ.out w2 HB8.out
              clear hr hb2 n1 n2 n3 n4 HP
              cases r
              · have HX : Hid (¬ RightP s) := fun h => Bool.noConfusion (HR.out.2 ((plain_iff HA.out (fun j hj => (HBK.out j hj).2) hlt).2 (h.2.2.2.2 i hlt).1))
                go_wp2_with fail
                refine (HAT.out _ _).mono ?_
                rintro e w3 ⟨rfl, rfl⟩
                unfold fault
                go_wp2
                go_ret
                exact NO.out _ _ HX.out HB8.out
              · go_wp2
                go_roundw
                case rel => exact ⟨i + 1, by omega, by go_num, fun j hj => by
                  by_cases e : j = i
                  · subst e; exact HR.out.1 trivial
                  · exact HPL.out j (by omega), HB7.out⟩
                case measure => simp [intOf]; omega
            · have hlt' : (s.length : Int) ≤ i := by omega
              obtain rfl : i = s.length := by omega
              go_wp2
              go_ret
              exact ⟨HB5.out, .inl ⟨rfl, h1, h40, HA.out, fun j hj => (HBK.out j hj).2, fun j hj => ⟨(plain_iff HA.out (fun j hj => (HBK.out j hj).2) hj).1 (HPL.out j hj), (HBK.out j hj).1⟩⟩⟩
end Go.Proofs.YtkkicodfpekbgaaGreatDoor

/-! hallmark.Check, hallmarklaw.Checks: what they answer. -/
namespace Go.Proofs.YtkkicodfpekbgaaGreatDoor
set_option linter.unusedSimpArgs false
set_option linter.unusedVariables false
open Go.RowKit

/-- What hallmark.Check answers. -/
def RetC (s : List Nd) (w : World) (e : Ending) (w' : World) : Prop := Below w.heap.size w w' ∧ ((e = .returned (.int .i64 0) ∧ RightP s) ∨ (e = .returned (.int .i64 1) ∧ ¬ RightP s))
theorem nm_za {sn : Sn → Addr} {za : Addr} (h : ∀ s : Sn, sn s ≠ za) : nm sn za = 1 := by
  unfold nm
  simp [fun s => (h s).symm]

set_option maxHeartbeats 1000000 in
set_option maxRecDepth 100000 in
theorem hcheck_any (s : List Nd) (a : Option Addr) (c : Nat) (w : World) (sn : Sn → Addr) (za : Addr) (hl : Lay w sn) (hz : LayZ w sn za) (hs : Sch w a s) (hok : SchOk s) (hn0 : s.length ≤ 140737488351232) :
    Calls Tryz.prog 14 #[.slice a s.length c] w fun e w' => RetC s w e w' := by
  have HC : Hid (Calls Tryz.prog 35 #[.slice a s.length c] w fun e w' => RetK s za w e w') := check_any s a c w sn za hl hz hs hok hn0
  have HN : Hid (∀ (p : Int) (wq : World), Below w.heap.size w wq → Calls Tryz.prog 34 #[fault p za] wq fun e w' => e = .returned (.int .i64 1) ∧ Below wq.heap.size wq w') := fun p wq q => by
    have := number_at p za wq sn (hl.below q).s (hz.below q).r
    rw [nm_za hz.d] at this
    exact this
  have H0 : Hid (∀ wq, Calls Tryz.prog 34 #[.nilIface] wq fun e w' => e = .returned (.int .i64 0) ∧ w' = wq) := fun wq => number_nil wq
  clear hl hz hs hok
  go_enter Tryz.func14, Tryz.ntmps14
  go_wp2_with fail
  refine HC.out.mono ?_
  rintro e w1 ⟨hb1, h1⟩
  have HB1 : Hid (Below w.heap.size w w1) := hb1
  clear hb1
  rcases h1 with ⟨rfl, hr⟩ | ⟨⟨p, rfl⟩, hr⟩
  · have HR : Hid (RightP s) := hr
    clear hr
    go_wp2_with fail
    refine (H0.out _).mono ?_
    rintro e w2 ⟨rfl, rfl⟩
    go_wp2
    go_ret
    exact ⟨HB1.out, .inl ⟨rfl, HR.out⟩⟩
  · have HR : Hid (¬ RightP s) := hr
    have HN2 := HN.out p w1 HB1.out
    have HN3 : Hid (Calls Tryz.prog 34 #[fault p za] w1 fun e w' => e = .returned (.int .i64 1) ∧ Below w1.heap.size w1 w') := HN2
    unfold fault at HN3 ⊢
    clear hr HN2
    go_wp2_with fail
    refine HN3.out.mono ?_
    rintro e w2 ⟨rfl, hb2⟩
    have HB2 : Hid (Below w.heap.size w w2) := HB1.out.trans (hb2.mono HB1.out.size)
    clear hb2
    go_wp2
    go_ret
    exact ⟨HB2.out, .inr ⟨rfl, HR.out⟩⟩

set_option maxHeartbeats 400000 in
theorem num_any (z : Int) (w : World) : Calls Tryz.prog 17 #[.int .i64 z] w fun e w' => e = .returned (.int .i64 z) ∧ w' = w := by
  go_enter Tryz.func17, Tryz.ntmps17
  go_wp2
  go_ret
  exact ⟨rfl, rfl⟩

set_option maxHeartbeats 1000000 in
set_option maxRecDepth 100000 in
theorem checks_any (s : List Nd) (a : Option Addr) (c : Nat) (w : World) (sn : Sn → Addr) (za : Addr) (hl : Lay w sn) (hz : LayZ w sn za) (hs : Sch w a s) (hok : SchOk s) (hn : s.length * 48 ≤ 140737488351232) (hkn : ∀ i, i < s.length → (nd s i).kids.length * 32 ≤ 140737488351232) :
    Calls Tryz.prog 3 #[.slice a s.length c] w fun e w' => e = .returned (.bool true) ∧ Below w.heap.size w w' := by
  have HCP : Hid (Calls Tryz.prog 13 #[.slice a s.length c] w fun e w' => ∃ vout, e = .returned vout ∧ CpW s w w' s.length vout) := copied_any s a c w hs hn hkn
  have HL : Hid (Lay w sn) := hl
  have HZ : Hid (LayZ w sn za) := hz
  have HS : Hid (Sch w a s) := hs
  have HOK : Hid (SchOk s) := hok
  have hn0 : s.length ≤ 140737488351232 := by omega
  have HNU : Hid (∀ (z : Int) (wq : World), Calls Tryz.prog 17 #[.int .i64 z] wq fun e w' => e = .returned (.int .i64 z) ∧ w' = wq) := num_any
  clear hl hz hs hok hkn
  go_enter Tryz.func3, Tryz.ntmps3
  go_wp2_with fail
  refine HCP.out.mono ?_
  rintro e w1 ⟨vout, rfl, hcp⟩
  have HB1 : Hid (Below w.heap.size w w1) := hcp.bel
  obtain ⟨a2, c2, rfl, hs2⟩ := hcp.sch
  have HS2 : Hid (Sch w1 a2 s) := hs2
  have HCK : Hid (Calls Tryz.prog 14 #[.slice a2 s.length c2] w1 fun e w' => RetC s w1 e w') := hcheck_any s a2 c2 w1 sn za (HL.out.below HB1.out) (HZ.out.below HB1.out) hs2 HOK.out hn0
  clear hcp hs2
  go_wp2_with fail
  refine HCK.out.mono ?_
  rintro e w2 ⟨hb2, h2⟩
  have HB2 : Hid (Below w1.heap.size w1 w2) := hb2
  have HB3 : Hid (Below w.heap.size w w2) := HB1.out.trans (hb2.mono HB1.out.size)
  have HRT : Hid (Calls Tryz.prog 15 #[.slice a s.length c] w2 fun e w' => RetO (RightP s) w2 e w') := right_any s a c w2 (HS.out.below HB3.out) HOK.out hn0
  clear hb2
  obtain ⟨z, r, rfl, hzr⟩ : ∃ (z : Int) (r : Bool), e = .returned (.int .i64 z) ∧ ((r = true ∧ z = 0 ∧ RightP s) ∨ (r = false ∧ z = 1 ∧ ¬ RightP s)) := by
    rcases h2 with ⟨rfl, h⟩ | ⟨rfl, h⟩
    · exact ⟨0, true, rfl, .inl ⟨rfl, rfl, h⟩⟩
    · exact ⟨1, false, rfl, .inr ⟨rfl, rfl, h⟩⟩
  clear h2
  go_wp2_with fail
  refine HRT.out.mono ?_
  rintro e w3 ⟨r', rfl, hr', hb3⟩
  have HB4 : Hid (Below w1.heap.size w1 w3) := HB2.out.trans (hb3.mono HB2.out.size)
  have HB5 : Hid (Below w.heap.size w w3) := HB3.out.trans (hb3.mono HB3.out.size)
  have HAL : Hid (Calls Tryz.prog 16 #[.slice a2 s.length c2, .slice a s.length c] w3 fun e w' => RetO True w3 e w') := alike_any s a2 a c2 c w3 (HS2.out.below HB4.out) (HS.out.below HB5.out) hn0
  have hrr : r' = r := by
    rcases hzr with ⟨rfl, _, h⟩ | ⟨rfl, _, h⟩
    · exact hr'.2 h
    · cases r'
      · rfl
      · exact absurd (hr'.1 rfl) h
  subst hrr
  have hz2 : (r' = true ∧ z = 0) ∨ (r' = false ∧ z = 1) := by
    rcases hzr with ⟨h1, h2, _⟩ | ⟨h1, h2, _⟩
    · exact .inl ⟨h1, h2⟩
    · exact .inr ⟨h1, h2⟩
  clear hb3 hr' hzr
  go_wp2_with fail
  refine HAL.out.mono ?_
  rintro e w4 ⟨r4, rfl, hr4, hb4⟩
  obtain rfl : r4 = true := hr4.2 trivial
  have HB6 : Hid (Below w.heap.size w w4) := HB5.out.trans (hb4.mono HB5.out.size)
  clear hb4 hr4
  rcases hz2 with ⟨rfl, rfl⟩ | ⟨rfl, rfl⟩
  · go_wp2
    go_ret
    exact ⟨rfl, HB6.out⟩
  · go_wp2_with fail
    refine (HNU.out _ _).mono ?_
    rintro e w5 ⟨rfl, rfl⟩
    go_wp2
    go_ret
    exact ⟨rfl, HB6.out⟩
end Go.Proofs.YtkkicodfpekbgaaGreatDoor
