/-
  schemas.isElement: what it answers.
-/
import Derived.Test.YtjceeljaljdmoaaGreatDoorPg
import Derived.Test.YtjceeljaljdmoaaGreatDoorDa
import Derived.Test.YtjceeljaljdmoaaGreatDoorRx
import Derived.Test.YtjceeljaljdmoaaGreatDoorPs
namespace Go.Proofs.YtjceeljaljdmoaaGreatDoor
open Go.RowKit

/-- What the package's variables hold. -/
structure Lay (w : World) (sn : Sn → Addr) : Prop where
  s : Sent w sn
  n : Nums w
  d : Days w
  t : Tabs w
theorem Lay.below {w w' : World} {sn : Sn → Addr} (h : Lay w sn) (hb : Below w.heap.size w w') : Lay w' sn :=
  ⟨h.s.below hb, h.n.below hb, fun i hi => (hb.cell (lt_of_cell (h.d i hi))).trans (h.d i hi), Utf8Tabs_below h.t hb⟩
theorem lays_0 {N : Nd} (ht : N.tag < 0) (hm : N.mode = 0) : N.lays = [(0, own N.kind, false)] := by unfold Nd.lays Nd.ownT; rw [if_neg (by omega), if_neg (by omega)]
theorem lays_1 {N : Nd} (ht : 0 ≤ N.tag) (hm : N.mode = 0) : N.lays = [(2, N.tag, false)] := by unfold Nd.lays Nd.ownT; rw [if_neg (by omega), if_pos ⟨hm, ht⟩]
theorem lays_2 {N : Nd} (hm : N.mode = 1) : N.lays = [(2, N.tag, true), (0, own N.kind, false)] := by unfold Nd.lays Nd.ownT; rw [if_pos hm, if_neg (by omega)]
theorem strip1 {f : Int × Int × Bool} {t u : ByteArray} : strip [f] t = some u ↔ ((hd t).1 = 0 ∧ ((hd t).2.c, (hd t).2.n, (hd t).2.b) = f ∧ (hd t).2.s + (hd t).2.l = t.size) ∧ u = t.extract (hd t).2.s.toNat t.size := by
  show (if _ then some _ else none) = _ ↔ _
  by_cases h : (hd t).1 = 0 ∧ ((hd t).2.c, (hd t).2.n, (hd t).2.b) = f ∧ (hd t).2.s + (hd t).2.l = t.size
  · rw [if_pos h]
    exact ⟨fun e => ⟨h, by injection e with e; exact e.symm⟩, fun e => by rw [e.2]⟩
  · rw [if_neg h]
    exact ⟨fun e => (by cases e), fun e => absurd e.1 h⟩
theorem strip2 {f : Int × Int × Bool} {fs : List (Int × Int × Bool)} {t u : ByteArray} : strip (f :: fs) t = some u ↔ ((hd t).1 = 0 ∧ ((hd t).2.c, (hd t).2.n, (hd t).2.b) = f ∧ (hd t).2.s + (hd t).2.l = t.size) ∧ strip fs (t.extract (hd t).2.s.toNat t.size) = some u := by
  show (if _ then _ else none) = _ ↔ _
  by_cases h : (hd t).1 = 0 ∧ ((hd t).2.c, (hd t).2.n, (hd t).2.b) = f ∧ (hd t).2.s + (hd t).2.l = t.size
  · rw [if_pos h]
    exact ⟨fun e => ⟨h, e⟩, fun e => e.2⟩
  · rw [if_neg h]
    exact ⟨fun e => (by cases e), fun e => absurd e.1 h⟩
theorem elem_iff {N : Nd} {t u : ByteArray} (ht : N.tag < 0 → N.mode = 0) (hm : N.mode = 0 ∨ N.mode = 1) : ElemOk N t u ↔ (strip N.lays t = some u ∧ ContentOk N.kind u) := by
  unfold ElemOk NodeAt
  rw [extract_all]
  by_cases h0 : N.tag < 0
  · rw [lays_0 h0 (ht h0), strip1]
    constructor
    · rintro ⟨_, h1, h2, h3⟩
      rcases h3 with ⟨_, b, c, d, e, f⟩ | ⟨a, _⟩ | ⟨a, _⟩
      · exact ⟨⟨⟨h1, by rw [b, c, d], by omega⟩, by rw [e, Nat.zero_add]⟩, f⟩
      · omega
      · omega
    · rintro ⟨⟨⟨h1, h2, h3⟩, h4⟩, h5⟩
      injection h2 with b h2
      injection h2 with c d
      exact ⟨by omega, h1, by omega, .inl ⟨h0, b, c, d, by rw [h4, Nat.zero_add], h5⟩⟩
  · rcases hm with hm | hm
    · rw [lays_1 (by omega) hm, strip1]
      constructor
      · rintro ⟨_, h1, h2, h3⟩
        rcases h3 with ⟨a, _⟩ | ⟨_, _, b, c, d, e, f⟩ | ⟨_, a, _⟩
        · omega
        · exact ⟨⟨⟨h1, by rw [b, c, d], by omega⟩, by rw [e, Nat.zero_add]⟩, f⟩
        · omega
      · rintro ⟨⟨⟨h1, h2, h3⟩, h4⟩, h5⟩
        injection h2 with b h2
        injection h2 with c d
        exact ⟨by omega, h1, by omega, .inr (.inl ⟨by omega, hm, b, c, d, by rw [h4, Nat.zero_add], h5⟩)⟩
    · rw [lays_2 hm, strip2, strip1]
      constructor
      · rintro ⟨_, h1, h2, h3⟩
        rcases h3 with ⟨a, _⟩ | ⟨_, a, _⟩ | ⟨_, _, b, c, d, t', e, f, g, h, i, j, k, l⟩
        · omega
        · omega
        · rw [Nat.zero_add] at e k
          have ho := hd_ok h1
          have hz : t'.size = t.size - (hd t).2.s.toNat := by rw [e]; simp
          rw [← e]
          refine ⟨⟨⟨h1, by rw [b, c, d], by omega⟩, ⟨f, by rw [g, h, i], by omega⟩, ?_⟩, l⟩
          have hmn : min ((hd t).2.s.toNat + (t.size - (hd t).2.s.toNat)) t.size = t.size := by omega
          rw [k, hz, e, ByteArray.extract_extract, hmn]
      · rintro ⟨⟨⟨h1, h2, h3⟩, ⟨f, h4, h6⟩, h7⟩, h5⟩
        injection h2 with b h2
        injection h2 with c d
        injection h4 with g h4
        injection h4 with h i
        have ho := hd_ok h1
        have hz : (t.extract (hd t).2.s.toNat t.size).size = t.size - (hd t).2.s.toNat := by simp
        have hmn : min ((hd t).2.s.toNat + (t.size - (hd t).2.s.toNat)) t.size = t.size := by omega
        refine ⟨by omega, h1, by omega, .inr (.inr ⟨by omega, by omega, b, c, d, t.extract (hd t).2.s.toNat t.size, by rw [Nat.zero_add], f, g, h, i, ?_, ?_, h5⟩)⟩
        · omega
        · rw [h7, hz, ByteArray.extract_extract, Nat.zero_add, hmn]

set_option maxHeartbeats 1000000 in
set_option maxRecDepth 100000 in
theorem isElement_any (n : Nd) (ka : Option Addr) (kc : Nat) (t : ByteArray) (w : World) (sn : Sn → Addr) (hl : Lay w sn) (hT : Tagged n) (hk1 : 1 ≤ n.kind) (hm : t.size ≤ 140737488355328) :
    Calls Tryz.prog 66 #[.agg #[.int .i64 n.kind, .int .i64 n.tag, .int .i64 n.mode, .slice ka n.kids.length kc], .string t] w fun e w' => RetO (n.kind ≤ 9 ∧ ∃ u, ElemOk n t u) w e w' := by
  by_cases h9 : 9 < n.kind
  · have HX : Hid (¬ (n.kind ≤ 9 ∧ ∃ u, ElemOk n t u)) := fun q => by have := q.1; omega
    clear hl hT
    go_enter Tryz.func66, Tryz.ntmps66
    go_wp2
    go_ret
    exact reto_no HX.out ((Below.refl _ _).alloc (Nat.le_refl _) _)
  · have h9' : n.kind ≤ 9 := by omega
    have hT' := hT
    unfold Tagged at hT'
    have HE : Hid (∀ u, ElemOk n t u ↔ (strip n.lays t = some u ∧ ContentOk n.kind u)) := fun u => elem_iff (by omega) (by omega)
    have HW : Hid (∀ wq, Below w.heap.size w wq → Calls Tryz.prog 96 #[.agg #[.int .i64 n.kind, .int .i64 n.tag, .int .i64 n.mode, .slice ka n.kids.length kc], .string t] wq fun e w' => RetI n t wq e w') := fun wq q => within_any n ka kc t wq sn (hl.below q).s (hl.below q).n (by omega) (by omega) h9' (by omega) hm
    have HF : Hid (∀ u wq, u.size ≤ t.size → Below w.heap.size w wq → Calls Tryz.prog 97 #[.int .i64 n.kind, .string u] wq fun e w' => RetW (ContentOk n.kind u) wq e w') := fun u wq hu q => fits_any n.kind u wq (by omega) (hl.below q).d (valids u wq (by omega) (hl.below q).t)
    clear hl hT hT' h9
    go_enter Tryz.func66, Tryz.ntmps66
    go_wp2_with fail
    refine (HW.out _ ((Below.refl _ _).alloc (Nat.le_refl _) _)).mono ?_
    rintro e w1 ⟨u, r, rfl, hr, hb1, hu⟩
    have HB1 : Hid (Below w.heap.size w w1) := below_alloc hb1
    have HG := block_below (heap_alloc_new w (.cells #[.int .i64 n.kind, .int .i64 n.tag, .int .i64 n.mode, .slice ka n.kids.length kc] 58)) hb1
    have q0 : w1.cell? ⟨w.heap.size, 0, none⟩ = some (.int .i64 n.kind) := by simp [World.cell?, HG]
    have hs1 := lt_of_block HG
    clear HG hb1
    cases r
    · have HX : Hid (¬ (n.kind ≤ 9 ∧ ∃ u, ElemOk n t u)) := by
        rcases hr with ⟨e, _⟩ | ⟨_, e⟩
        · cases e
        · rintro ⟨_, u, q⟩
          rw [HE.out, e] at q
          cases q.1
      clear hr
      go_wp2
      go_ret
      exact reto_no HX.out HB1.out
    · have HX : Hid (strip n.lays t = some u) := by
        rcases hr with ⟨_, e⟩ | ⟨e, _⟩
        · exact e
        · cases e
      clear hr
      go_wp2_with fail
      refine (HF.out u _ hu HB1.out).mono ?_
      rintro e w2 ⟨r, rfl, hr, hb2⟩
      have HR : Hid (r = true ↔ (n.kind ≤ 9 ∧ ∃ u, ElemOk n t u)) := by
        refine hr.trans ⟨fun q => ⟨h9', u, (HE.out u).2 ⟨HX.out, q⟩⟩, ?_⟩
        rintro ⟨_, v, q⟩
        rw [HE.out, HX.out] at q
        obtain ⟨q1, q2⟩ := q
        injection q1 with q1
        rw [q1]; exact q2
      have HB2 : Hid (Below w.heap.size w w2) := HB1.out.trans (hb2.mono HB1.out.size)
      clear hr hb2
      go_wp2
      go_ret
      exact reto_iff HR.out HB2.out
end Go.Proofs.YtjceeljaljdmoaaGreatDoor
