/-
  Several texts in one:
  What a value must be at a node, and writing: where it is not, there is no tree.
  Writing, and what is left out: the bytes of a Default are those of its value alone.
  Sorted: what writing comes to at its schema: plain mathematics.
  What is written is an element, and begins as its node may: plain mathematics.
  What is written is read again: plain mathematics.
  Sorted: what reading comes to at its schema: plain mathematics.
  The program's writer: insert.
  What writing is reckoned by, and what the writers of the document and of the program share: plain mathematics.
  The program's writer: what its methods leave, by what writing comes to.
  The program's writer: leftOut.
  The program's writer: seq.
  The program's writer: list.
  The program's writer: wrap.
-/
import Derived.Test.YtkkicodfpekbgaaGreatDoorJYb
import Derived.Test.YtkkicodfpekbgaaGreatDoorJ5
import Derived.Test.YtkkicodfpekbgaaGreatDoorJ9
import Derived.Deep.RegionHeldLaw
import Derived.Test.YtkkicodfpekbgaaGreatDoorJ4
/-! What a value must be at a node, and writing: where it is not, there is no tree. -/
namespace Go.Proofs.YtkkicodfpekbgaaGreatDoor
set_option linter.unusedSimpArgs false
set_option linter.unusedVariables false

theorem wbare_no {E : WEnv} {rec : WRec} {m : Nat} {n : Nd} {cl nu : Int} {v : Vl} {x : Nat} {dp : Int} (hok : ∀ k t, E.ok k t = true ↔ ContentOk k t) (hv : v.kind = n.kind) (h : ¬ FitP n v) : wbareF E rec m n cl nu v x dp = some none := by
  unfold FitP at h
  have h' := fun q => h ⟨hv, q⟩
  clear h
  unfold wbareF
  by_cases h13 : n.kind = 13
  · rw [if_pos h13] at h' ⊢
    rw [if_neg h']
  rw [if_neg h13] at h' ⊢
  by_cases h14 : n.kind = 14
  · rw [if_pos h14] at h' ⊢
    rw [if_neg h']
  rw [if_neg h14] at h' ⊢
  by_cases h10 : n.kind = 10
  · rw [if_pos h10] at h' ⊢
    rw [if_neg h']
  rw [if_neg h10] at h' ⊢
  by_cases h12 : 10 ≤ n.kind ∧ n.kind ≤ 12
  · rw [if_pos h12] at h' ⊢
    rw [if_neg h']
  rw [if_neg h12] at h' ⊢
  rw [if_neg (by rw [hok]; exact h')]
/-- What take refuses, writing does not take. -/
theorem wrF_no {E : WEnv} {f i x : Nat} {dp : Int} (hok : ∀ k t, E.ok k t = true ↔ ContentOk k t) (h : ¬ (x < E.t.length ∧ dp ≤ 12 ∧ FitP (nd E.s i) (vl E.t x))) : wrF E (f + 1) i x dp = some none := by
  rw [wrF]
  split
  · rename_i q
    rw [wbare_no hok q.2.1 (fun hf => h ⟨q.1, q.2.2, hf⟩)]
    rfl
  · rfl
/-- What take takes, writing goes on with. -/
theorem wrF_yes {E : WEnv} {f i x : Nat} {dp : Int} (h1 : x < E.t.length) (h2 : dp ≤ 12) (h3 : FitP (nd E.s i) (vl E.t x)) : wrF E (f + 1) i x dp = WOut.andThen (wbareF E (wrF E f) f (nd E.s i) (wcl (nd E.s i)) (wnu (nd E.s i)) (vl E.t x) (x + 1) dp) fun b x' u => some (some (if (nd E.s i).mode = 1 then elB 2 true (nd E.s i).tag b else b, x', u)) := by
  rw [wrF, if_pos ⟨h1, h3.1, h2⟩]
end Go.Proofs.YtkkicodfpekbgaaGreatDoor

/-! Writing, and what is left out: the bytes of a Default are those of its value alone. -/
namespace Go.Proofs.YtkkicodfpekbgaaGreatDoor
set_option linter.unusedSimpArgs false
set_option linter.unusedVariables false

theorem wnu_bd {s : List Nd} (h : RightP s) {i : Nat} (hi : i < s.length) : 0 ≤ wcl (nd s i) ∧ wcl (nd s i) ≤ 3 ∧ 0 ≤ wnu (nd s i) ∧ wnu (nd s i) ≤ 30 := by
  have hk := kinds_of h.2.2.1 i hi
  have ht := (taggedOf h.2.2.1 i hi).2.1
  unfold wcl wnu
  split
  · rename_i q; omega
  · refine ⟨by decide, by decide, ?_⟩
    unfold own0
    split
    · omega
    · obtain ⟨k, hkk⟩ : ∃ k, (nd s i).kind = k := ⟨_, rfl⟩
      rw [hkk] at hk ⊢
      obtain rfl | rfl | rfl | rfl | rfl | rfl | rfl | rfl | rfl | rfl | rfl | rfl : k = 1 ∨ k = 2 ∨ k = 3 ∨ k = 4 ∨ k = 5 ∨ k = 6 ∨ k = 7 ∨ k = 8 ∨ k = 9 ∨ k = 10 ∨ k = 11 ∨ k = 12 := by omega
      all_goals decide
/-- The element of a node of the kinds 1 to 9. -/
def leafB (n : Nd) (t : ByteArray) : ByteArray := if n.mode = 1 then elB 2 true n.tag (elB (wcl n) false (wnu n) t) else elB (wcl n) false (wnu n) t
theorem wnu_own {n : Nd} (h : n.kind ≤ 12) : (wcl n, wnu n) = n.ownT := by
  unfold wcl wnu Nd.ownT own0
  by_cases q : n.mode = 0 ∧ 0 ≤ n.tag
  · rw [if_pos ⟨q.2, q.1⟩, if_pos ⟨q.2, q.1⟩, if_pos q]
  · rw [if_neg (fun z => q ⟨z.2, z.1⟩), if_neg (fun z => q ⟨z.2, z.1⟩), if_neg q, if_neg (by omega)]
/-- One head told, one head read. -/
theorem strip_el {c : Int} {b : Bool} {n : Int} {fs : List (Int × Int × Bool)} {t : ByteArray} (q1 : 0 ≤ c) (q2 : c ≤ 3) (q3 : 0 ≤ n) (q4 : n ≤ 30) (ht : t.size ≤ 16777215) : strip ((c, n, b) :: fs) (elB c b n t) = strip fs t := by
  have h := hd_elB c b n t q1 q2 q3 q4 ht
  have hz := elB_sz c b n t
  show (if _ then _ else none) = _
  rw [h]
  rw [if_pos ⟨rfl, rfl, by simp only; omega⟩]
  simp only
  rw [elB_rest]
theorem strip_inv {f : Int × Int × Bool} {fs : List (Int × Int × Bool)} {d u : ByteArray} (h : strip (f :: fs) d = some u) : ∃ d', d = elB f.1 f.2.2 f.2.1 d' ∧ strip fs d' = some u := by
  obtain ⟨⟨h1, h2, h3⟩, h4⟩ := strip2.1 h
  have e := (elB_hd h1 h3).1
  refine ⟨_, ?_, h4⟩
  rw [← h2]
  exact e
theorem leaf_elem {s : List Nd} {i : Nat} (hr : RightP s) (hi : i < s.length) (hk : (nd s i).kind ≤ 9) {d u t : ByteArray} (hu : ElemOk (nd s i) d u) (ht : t.size ≤ 16777000) : leafB (nd s i) t = d ↔ t = u := by
  obtain ⟨hk1, _, hT1, hT2, hT3, hT4, hT5⟩ := tagged_of hr hi
  obtain ⟨b1, b2, b3, b4⟩ := wnu_bd hr hi
  have hw := wnu_own (n := nd s i) (by omega)
  generalize nd s i = N at *
  have hmode : N.mode = 0 ∨ N.mode = 1 := by omega
  have htm : N.tag < 0 → N.mode = 0 := fun q => hT3 (by omega)
  have hst : strip N.lays d = some u := ((elem_iff htm hmode).1 hu).1
  have hl : N.lays = if N.mode = 1 then [(2, N.tag, true), (wcl N, wnu N, false)] else [(wcl N, wnu N, false)] := by
    unfold Nd.lays
    rw [← hw]
  have he := elB_size (wcl N) false (wnu N) t
  rw [hl] at hst
  unfold leafB
  by_cases hm : N.mode = 1
  · have htg : 0 ≤ N.tag := by
      by_cases q : N.tag < 0
      · have := htm q; omega
      · omega
    rw [if_pos hm] at hst ⊢
    constructor
    · rintro rfl
      rw [strip_el (by decide) (by decide) htg (by omega) (by omega), strip_el b1 b2 b3 b4 (by omega)] at hst
      injection hst
    · rintro rfl
      obtain ⟨d1, e1, h1⟩ := strip_inv hst
      obtain ⟨d2, e2, h2⟩ := strip_inv h1
      injection h2 with h2
      rw [e1, e2, h2]
  · rw [if_neg hm] at hst ⊢
    constructor
    · rintro rfl
      rw [strip_el b1 b2 b3 b4 (by omega)] at hst
      injection hst
    · rintro rfl
      obtain ⟨d2, e2, h2⟩ := strip_inv hst
      injection h2 with h2
      rw [e2, h2]
/-- A leaf's writing. -/
theorem wrF_leaf {E : WEnv} {f i x : Nat} {dp : Int} (hk1 : 1 ≤ (nd E.s i).kind) (hk9 : (nd E.s i).kind ≤ 9) : wrF E (f + 1) i x dp =
    if (x < E.t.length ∧ (vl E.t x).kind = (nd E.s i).kind ∧ dp ≤ 12) ∧ E.ok (nd E.s i).kind (vl E.t x).text = true ∧ (vl E.t x).alt = 0 ∧ (vl E.t x).kids = 0 then some (some (leafB (nd E.s i) (vl E.t x).text, x + 1, false)) else some none := by
  rw [wrF]
  by_cases q : x < E.t.length ∧ (vl E.t x).kind = (nd E.s i).kind ∧ dp ≤ 12
  · rw [if_pos q]
    unfold wbareF
    rw [if_neg (by omega), if_neg (by omega), if_neg (by omega), if_neg (by omega)]
    by_cases q2 : E.ok (nd E.s i).kind (vl E.t x).text = true ∧ (vl E.t x).alt = 0 ∧ (vl E.t x).kids = 0
    · rw [if_pos q2, if_pos ⟨q, q2⟩]
      rfl
    · rw [if_neg q2, if_neg (fun z => q2 z.2)]
      rfl
  · rw [if_neg q, if_neg (fun z => q z.1)]
theorem wrF_deep {E : WEnv} {f i x : Nat} {dp : Int} {b : ByteArray} {x' : Nat} {u : Bool} (h : wrF E f i x dp = some (some (b, x', u))) : dp ≤ 12 := by
  match f with
  | 0 => cases h
  | f + 1 =>
    rw [wrF] at h
    split at h
    · rename_i q; exact q.2.2
    · cases h
/-- The next value is that of a kid that has no bytes. -/
def LO (E : WEnv) (k : Kd) (x : Nat) : Prop := x < E.t.length ∧ ((k.opt = true ∧ vl E.t x = ⟨15, noB, 0, 0⟩) ∨ (k.dflt.size ≠ 0 ∧ ∃ u, ElemOk (nd E.s k.node.toNat) k.dflt u ∧ vl E.t x = ⟨(nd E.s k.node.toNat).kind, u, 0, 0⟩))
theorem kidOf {n : Nd} {k : Kd} (hk : k ∈ n.kids) : ∃ j, j < n.kids.length ∧ kd n j = k := by
  obtain ⟨j, hj, e⟩ := List.getElem_of_mem hk
  refine ⟨j, hj, ?_⟩
  unfold kd
  rw [List.getD_eq_getElem?_getD, List.getElem?_eq_getElem hj, Option.getD_some, e]
theorem noB_of {t : ByteArray} (h : t.size = 0) : t = noB := by
  apply ByteArray.ext
  have : t.data.size = 0 := h
  exact Array.eq_empty_of_size_eq_zero this
/-- A kid of a Seq, as the program takes it. -/
theorem wseq_kid {E : WEnv} {f : Nat} {dp : Int} {k : Kd} {ks : List Kd} {x : Nat} {out : ByteArray} {u : Bool} {r : WOut} (hr : RightP E.s) (hok : ∀ k t, E.ok k t = true ↔ ContentOk k t) {i : Nat} (hi : i < E.s.length) (hk : k ∈ (nd E.s i).kids)
    (hf : 1 ≤ f) (htz : ∀ j, j < E.t.length → (vl E.t j).text.size ≤ 16777000) (e : wseqF E (wrF E f) dp (k :: ks) x out u = some r) :
    (LO E k x ∧ wseqF E (wrF E f) dp ks (x + 1) out u = some r) ∨ (¬ LO E k x ∧ ∀ r1, wrF E f k.node.toNat x (dp + 1) = some r1 → (r1 = none ∧ r = none) ∨ ∃ b x' u', r1 = some (b, x', u') ∧ wseqF E (wrF E f) dp ks x' (out ++ b) (u || u') = some r) := by
  obtain ⟨f, rfl⟩ : ∃ g, f = g + 1 := ⟨f - 1, by omega⟩
  obtain ⟨j, hj, hjk⟩ := kidOf hk
  have hKid := (hr.2.2.1 i hi).2.2.2 j hj
  have hDf := (hr.2.2.2.2 i hi).2 j hj
  rw [hjk] at hKid hDf
  obtain ⟨hn0, hn1, _, hod⟩ := hKid
  have ht : k.node.toNat < E.s.length := by omega
  obtain ⟨hk1, hk14, _⟩ := tagged_of hr ht
  unfold wseqF at e
  by_cases q : k.opt = true ∧ x < E.t.length ∧ (vl E.t x).kind = 15
  · rw [if_pos q] at e
    have hd0 : ¬ k.dflt.size ≠ 0 := fun z => hod ⟨q.1, z⟩
    by_cases q2 : (vl E.t x).text.size = 0 ∧ (vl E.t x).alt = 0 ∧ (vl E.t x).kids = 0
    · rw [if_pos q2] at e
      refine .inl ⟨⟨q.2.1, .inl ⟨q.1, ?_⟩⟩, e⟩
      have h1 := q.2.2
      have h2 := noB_of q2.1
      have h3 := q2.2.1
      have h4 := q2.2.2
      generalize vl E.t x = v at *
      obtain ⟨a, b, c, d⟩ := v
      simp only at h1 h2 h3 h4
      subst h1 h2 h3 h4
      rfl
    · rw [if_neg q2] at e
      refine .inr ⟨?_, fun r1 h1 => .inl ⟨?_, ?_⟩⟩
      · rintro ⟨_, ⟨_, h⟩ | ⟨h, _⟩⟩
        · rw [h] at q2; exact q2 ⟨rfl, rfl, rfl⟩
        · exact hd0 h
      · rw [wrF, if_neg (fun z => by have := z.2.1; omega)] at h1
        injection h1 with h1; exact h1.symm
      · injection e with e; exact e.symm
  rw [if_neg q] at e
  by_cases hd : k.dflt.size = 0
  · rw [if_pos hd] at e
    refine .inr ⟨?_, fun r1 h1 => ?_⟩
    · rintro ⟨h0, ⟨h, h'⟩ | ⟨h, _⟩⟩
      · exact q ⟨h, h0, by rw [h']⟩
      · exact h hd
    · rcases wandThen_cases e with ⟨h2, h3⟩ | ⟨b, x', u', h2, h3⟩
      · rw [h2] at h1; injection h1 with h1; exact .inl ⟨h1.symm, h3⟩
      · have hdp := wrF_deep h2
        rw [h2] at h1
        injection h1 with h1
        rw [if_neg (fun z => z.1 hd), if_neg (by omega)] at h3
        exact .inr ⟨b, x', u', h1.symm, h3⟩
  · rw [if_neg hd] at e
    obtain ⟨hk9, y, hy⟩ : (nd E.s k.node.toNat).kind ≤ 9 ∧ ∃ u, ElemOk (nd E.s k.node.toNat) k.dflt u := by
      rcases hDf with h | h
      · exact absurd h hd
      · exact h
    have hno : ¬ k.opt = true := fun z => hod ⟨z, hd⟩
    rw [wrF_leaf hk1 hk9] at e
    by_cases q3 : (x < E.t.length ∧ (vl E.t x).kind = (nd E.s k.node.toNat).kind ∧ (1 : Int) ≤ 12) ∧ E.ok (nd E.s k.node.toNat).kind (vl E.t x).text = true ∧ (vl E.t x).alt = 0 ∧ (vl E.t x).kids = 0
    · rw [if_pos q3] at e
      unfold WOut.andThen at e
      simp only at e
      have hle := leaf_elem hr ht hk9 hy (htz x q3.1.1)
      by_cases q4 : leafB (nd E.s k.node.toNat) (vl E.t x).text = k.dflt
      · rw [if_pos ⟨hd, q4⟩, Bool.or_false] at e
        refine .inl ⟨⟨q3.1.1, .inr ⟨hd, y, hy, ?_⟩⟩, e⟩
        have h1 := q3.1.2.1
        have h2 := hle.1 q4
        have h3 := q3.2.2.1
        have h4 := q3.2.2.2
        generalize vl E.t x = v at *
        obtain ⟨a, b, c, d⟩ := v
        simp only at h1 h2 h3 h4
        subst h1 h2 h3 h4
        rfl
      · rw [if_neg (fun z => q4 z.2)] at e
        refine .inr ⟨?_, fun r1 h1 => ?_⟩
        · rintro ⟨h0, ⟨h, _⟩ | ⟨_, y', hy', h'⟩⟩
          · exact hno h
          · have := elem_one hy' hy
            subst this
            exact q4 (hle.2 (by rw [h']))
        · rw [wrF_leaf hk1 hk9] at h1
          by_cases hdp : 12 < dp + 1
          · rw [if_pos hdp] at e
            rw [if_neg (fun z => by have := z.1.2.2; omega)] at h1
            injection h1 with h1
            injection e with e
            exact .inl ⟨h1.symm, e.symm⟩
          · rw [if_neg hdp] at e
            rw [if_pos ⟨⟨q3.1.1, q3.1.2.1, by omega⟩, q3.2⟩] at h1
            injection h1 with h1
            exact .inr ⟨_, _, _, h1.symm, e⟩
    · rw [if_neg q3] at e
      refine .inr ⟨?_, fun r1 h1 => .inl ⟨?_, ?_⟩⟩
      · rintro ⟨h0, ⟨h, _⟩ | ⟨_, y', hy', h'⟩⟩
        · exact hno h
        · have hco : ContentOk (nd E.s k.node.toNat).kind y' := by
            obtain ⟨_, _, hT1, hT2, hT3, hT4, hT5⟩ := tagged_of hr ht
            exact ((elem_iff (fun z => hT3 (by omega)) (by omega)).1 hy').2
          exact q3 ⟨⟨h0, by rw [h'], by decide⟩, by rw [h']; exact (hok _ _).2 hco, by rw [h'], by rw [h']⟩
      · rw [wrF_leaf hk1 hk9, if_neg (fun z => q3 ⟨⟨z.1.1, z.1.2.1, by decide⟩, z.2⟩)] at h1
        injection h1 with h1; exact h1.symm
      · injection e with e; exact e.symm
end Go.Proofs.YtkkicodfpekbgaaGreatDoor

/-! Sorted: what writing comes to at its schema: plain mathematics. -/
namespace Go.Proofs.YtkkicodfpekbgaaGreatDoor
set_option linter.unusedSimpArgs false
set_option linter.unusedVariables false

theorem srt_leaf {E : WEnv} {ts : List ByteArray} (hs : E.s = srtS) (ht : E.t = srtT ts) (hok : ∀ t, E.ok 6 t = true) {f j : Nat} (hj : j < ts.length) : wrF E (f + 1) 1 (j + 1) 2 = some (some (oct (ts.getD j noB), j + 1 + 1, false)) := by
  have hn : nd E.s 1 = ⟨6, -1, 0, []⟩ := by rw [hs]; rfl
  have hv : vl E.t (j + 1) = ⟨6, ts.getD j noB, 0, 0⟩ := by
    rw [ht]
    unfold vl srtT
    rw [List.getD_cons_succ, List.getD_eq_getElem?_getD, List.getElem?_map, List.getElem?_eq_getElem hj, List.getD_eq_getElem?_getD, List.getElem?_eq_getElem hj]
    rfl
  rw [wrF_leaf (by rw [hn]; decide) (by rw [hn]; decide), hn, hv]
  have hl : j + 1 < E.t.length := by rw [ht]; unfold srtT; simp; omega
  rw [if_pos ⟨⟨hl, rfl, by decide⟩, hok _, rfl, rfl⟩]
  rfl
theorem srt_many {E : WEnv} {ts0 : List ByteArray} (hs : E.s = srtS) (ht : E.t = srtT ts0) (hok : ∀ t, E.ok 6 t = true) {f : Nat} : ∀ (ts pre : List ByteArray), ts0 = pre ++ ts → ∀ (m : Nat) (out last : ByteArray) (u : Bool), ts.length < m →
    wmanyF E (wrF E (f + 1)) true 1 2 m (ts.length : Int) (pre.length + 1) out last u = some (some (ts.foldl (fun a t => a ++ oct t) out, ts0.length + 1, u || falls last ts))
  | [], pre, e, m + 1, out, last, u, _ => by
    unfold wmanyF
    rw [if_neg (by simp), e]
    simp [falls]
  | t :: ts, pre, e, m + 1, out, last, u, hm => by
    unfold wmanyF
    have hlt : pre.length < ts0.length := by rw [e]; simp
    have hg : ts0.getD pre.length noB = t := by rw [e, List.getD_eq_getElem?_getD]; simp
    rw [if_pos (by simp), srt_leaf hs ht hok hlt, hg]
    have ih := srt_many hs ht hok (f := f) ts (pre ++ [t]) (by rw [e]; simp) m (out ++ oct t) (oct t) (u || false || (true && below (oct t) last)) (by simp at hm; omega)
    rw [List.length_append, List.length_cons, List.length_nil] at ih
    have e1 : ((((t :: ts).length : Nat) : Int) - 1) = (ts.length : Int) := by simp
    unfold WOut.andThen
    simp only
    rw [e1, ih]
    simp [falls, Bool.or_assoc]
/-- What writing such a tree comes to. -/
theorem srt_wr {E : WEnv} {ts : List ByteArray} (hs : E.s = srtS) (ht : E.t = srtT ts) (hok : ∀ t, E.ok 6 t = true) {f : Nat} (hf : ts.length < f + 1) : wrF E (f + 1 + 1) 0 0 1 = some (some (elB 0 true 17 (ts.foldl (fun a t => a ++ oct t) noB), ts.length + 1, falls noB ts)) := by
  have hn : nd E.s 0 = ⟨12, -1, 0, [⟨1, false, noB⟩]⟩ := by rw [hs]; rfl
  have hv : vl E.t 0 = ⟨12, noB, 0, ts.length⟩ := by rw [ht]; rfl
  have hl : 0 < E.t.length := by rw [ht]; unfold srtT; simp
  rw [wrF, hn, hv, if_pos ⟨hl, rfl, by decide⟩]
  unfold wbareF
  rw [if_neg (by decide), if_neg (by decide), if_neg (by decide), if_pos (by decide), if_pos ⟨rfl, rfl, by simp⟩]
  have h := srt_many hs ht hok (f := f) ts [] rfl (f + 1) noB noB false hf
  rw [Bool.false_or] at h
  have e : wmanyF E (wrF E (f + 1)) (decide ((12 : Int) = 12)) (kd ⟨12, -1, 0, [⟨1, false, noB⟩]⟩ 0).node.toNat (1 + 1) (f + 1) (ts.length : Int) (0 + 1) noB noB false = _ := h
  show WOut.andThen (WOut.andThen (wmanyF E (wrF E (f + 1)) (decide ((12 : Int) = 12)) (kd ⟨12, -1, 0, [⟨1, false, noB⟩]⟩ 0).node.toNat (1 + 1) (f + 1) (ts.length : Int) (0 + 1) noB noB false) _) _ = _
  rw [e]
  rfl
end Go.Proofs.YtkkicodfpekbgaaGreatDoor

/-! What is written is an element, and begins as its node may: plain mathematics. -/
namespace Go.Proofs.YtkkicodfpekbgaaGreatDoor
set_option linter.unusedSimpArgs false
set_option linter.unusedVariables false

/-- A text is an element: a head, and just its content. -/
def Elem (b : ByteArray) : Prop := (hd b).1 = 0 ∧ (hd b).2.s + (hd b).2.l = b.size
theorem cnt_bd (n : Int) : 0 ≤ cnt n ∧ cnt n ≤ 3 := by
  unfold cnt
  repeat' split
  all_goals omega
theorem elem_elB (c : Int) (b : Bool) (n : Int) (s : ByteArray) (q1 : 0 ≤ c) (q2 : c ≤ 3) (q3 : 0 ≤ n) (q4 : n ≤ 30) (hs : (elB c b n s).size ≤ 16777215) : Elem (elB c b n s) ∧ hd (elB c b n s) = (0, ⟨c, b, n, 2 + cnt s.size, s.size⟩) := by
  have hz := elB_sz c b n s
  have hc := cnt_bd s.size
  have h := hd_elB c b n s q1 q2 q3 q4 (by omega)
  exact ⟨⟨by rw [h], by rw [h]; exact hz.symm⟩, h⟩
theorem Elem.pos {b : ByteArray} (h : Elem b) : 2 ≤ b.size := by
  have h1 := hd_two h.1
  have h2 := hd_ok h.1
  have h3 := h.2
  omega
/-- Values from one place to another. -/
def seg (t : List Vl) (p q : Nat) : List Vl := (t.drop p).take (q - p)
theorem seg_nil (t : List Vl) (p : Nat) : seg t p p = [] := by unfold seg; rw [Nat.sub_self]; rfl
theorem seg_one {t : List Vl} {p : Nat} (h : p < t.length) : seg t p (p + 1) = [vl t p] := by
  unfold seg vl
  rw [Nat.add_sub_cancel_left, List.drop_eq_getElem_cons h, List.getD_eq_getElem?_getD, List.getElem?_eq_getElem h]
  rfl
theorem seg_app {t : List Vl} {p q r : Nat} (h1 : p ≤ q) (h2 : q ≤ r) : seg t p q ++ seg t q r = seg t p r := by
  unfold seg
  rw [show r - p = (q - p) + (r - q) by omega, List.take_add, List.drop_drop, show p + (q - p) = q by omega]
theorem seg_cons {t : List Vl} {p r : Nat} (h : p < t.length) (h2 : p + 1 ≤ r) : vl t p :: seg t (p + 1) r = seg t p r := by
  rw [← seg_app (Nat.le_succ p) h2, seg_one h]; rfl

theorem wbare_elem {F : WEnv} (hr : RightP F.s) {f i : Nat} (hi : i < F.s.length) (ih : ∀ i p dp b p' u, i < F.s.length → wrF F f i p dp = some (some (b, p', u)) → b.size ≤ 16777215 → Elem b ∧ Beg F.s i (hd b).2.c (hd b).2.n) {v : Vl} {x : Nat} {dp : Int} {b : ByteArray} {x' : Nat} {u : Bool}
    (h : wbareF F (wrF F f) f (nd F.s i) (wcl (nd F.s i)) (wnu (nd F.s i)) v x dp = some (some (b, x', u))) (hb : b.size ≤ 16777215) : Elem b ∧ ((nd F.s i).mode = 0 → Beg F.s i (hd b).2.c (hd b).2.n) := by
  obtain ⟨hk1, hk14, hT1, hT2, hT3, hT4, hT5⟩ := tagged_of hr hi
  obtain ⟨q1, q2, q3, q4⟩ := wnu_bd hr hi
  have hown : (nd F.s i).kind ≤ 12 → (nd F.s i).mode = 0 → Beg F.s i (wcl (nd F.s i)) (wnu (nd F.s i)) := fun h12 hm => by
    refine ⟨i, ⟨Rch.refl, fun z => by have := z.1; omega⟩, ?_⟩
    unfold wcl wnu begAt
    by_cases ht : 0 ≤ (nd F.s i).tag
    · rw [if_pos ⟨ht, hm⟩, if_pos ⟨ht, hm⟩]; exact .inl ⟨ht, rfl, rfl⟩
    · rw [if_neg (fun z => ht z.1), if_neg (fun z => ht z.1)]
      exact .inr (.inr ⟨by omega, by omega, rfl, by unfold own0; rw [if_neg (by omega)]⟩)
  have hfin : ∀ (bt : Bool) (s : ByteArray), (nd F.s i).kind ≤ 12 → b = elB (wcl (nd F.s i)) bt (wnu (nd F.s i)) s → Elem b ∧ ((nd F.s i).mode = 0 → Beg F.s i (hd b).2.c (hd b).2.n) := fun bt s h12 e => by
    subst e
    obtain ⟨e1, e2⟩ := elem_elB _ bt _ s q1 q2 q3 q4 hb
    refine ⟨e1, fun hm => ?_⟩
    rw [e2]
    exact hown h12 hm
  unfold wbareF at h
  split at h
  · rename_i k13
    split at h
    · rename_i q
      have hm := kd_mem (n := nd F.s i) (i := v.alt.toNat) (by omega)
      have hw := hr.fine.within i hi _ hm
      obtain ⟨e1, j, hj, hbg⟩ := ih _ _ _ _ _ _ (by omega) h hb
      refine ⟨e1, fun hm0 => ?_⟩
      have ho : (nd F.s i).opn := ⟨k13, by
        by_cases z : 0 ≤ (nd F.s i).tag
        · have := hT4 z (.inl k13); omega
        · omega⟩
      exact ⟨j, ⟨(Rch.step Rch.refl ho hm).trans hj.1, hj.2⟩, hbg⟩
    · cases h
  split at h
  · rename_i k14
    split at h
    · rename_i q
      cases h
      refine ⟨⟨q.1, q.2.1⟩, fun hm0 => ?_⟩
      have ht : (nd F.s i).tag < 0 := by
        by_cases z : 0 ≤ (nd F.s i).tag
        · have := hT4 z (.inr k14); omega
        · omega
      exact ⟨i, ⟨Rch.refl, fun z => by have := z.1; omega⟩, .inr (.inl ⟨ht, k14⟩)⟩
    · cases h
  split at h
  · rename_i k10
    split at h
    · rcases wandThen_cases h with ⟨_, h⟩ | ⟨b1, x1, u1, h1, h2⟩
      · cases h
      · cases h2; exact hfin _ _ (by omega) rfl
    · cases h
  split at h
  · rename_i k12
    split at h
    · rcases wandThen_cases h with ⟨_, h⟩ | ⟨b1, x1, u1, h1, h2⟩
      · cases h
      · cases h2; exact hfin _ _ (by omega) rfl
    · cases h
  split at h
  · cases h; exact hfin _ _ (by omega) rfl
  · cases h
theorem wr_elem {F : WEnv} (hr : RightP F.s) : ∀ f i p dp b p' u, i < F.s.length → wrF F f i p dp = some (some (b, p', u)) → b.size ≤ 16777215 → Elem b ∧ Beg F.s i (hd b).2.c (hd b).2.n
  | 0, _, _, _, _, _, _, _, h, _ => by cases h
  | f + 1, i, p, dp, b, p', u, hi, h, hb => by
    obtain ⟨hk1, hk14, hT1, hT2, hT3, hT4, hT5⟩ := tagged_of hr hi
    rw [wrF] at h
    split at h
    · rcases wandThen_cases h with ⟨_, h⟩ | ⟨b1, x1, u1, h1, h2⟩
      · cases h
      · cases h2
        by_cases hm : (nd F.s i).mode = 1
        · rw [if_pos hm] at hb ⊢
          have ht : 0 ≤ (nd F.s i).tag := by
            by_cases z : (nd F.s i).tag = -1
            · have := hT3 z; omega
            · omega
          obtain ⟨e1, e2⟩ := elem_elB 2 true (nd F.s i).tag b1 (by decide) (by decide) ht hT2 hb
          refine ⟨e1, i, ⟨Rch.refl, fun z => by have := z.2; omega⟩, .inl ?_⟩
          rw [e2]
          exact ⟨ht, rfl, rfl⟩
        · rw [if_neg hm] at hb ⊢
          have := wbare_elem hr hi (wr_elem hr f) h1 hb
          exact ⟨this.1, this.2 (by have := mode_of hr.2.2.1 hi; omega)⟩
    · cases h
/-- A kid of a Seq that is written. -/
theorem seq_inv {F : WEnv} {f : Nat} {dp : Int} {k : Kd} {ks : List Kd} {p : Nat} {out : ByteArray} {u : Bool} {b' : ByteArray} {p' : Nat} {u' : Bool} (hr : RightP F.s) (hok : ∀ k t, F.ok k t = true ↔ ContentOk k t) {i : Nat} (hi : i < F.s.length) (hk : k ∈ (nd F.s i).kids)
    (htz : ∀ j, j < F.t.length → (vl F.t j).text.size ≤ 16777000) (e : wseqF F (wrF F f) dp (k :: ks) p out u = some (some (b', p', u'))) :
    (LO F k p ∧ wseqF F (wrF F f) dp ks (p + 1) out u = some (some (b', p', u'))) ∨ ∃ b1 x1 u1, wrF F f k.node.toNat p (dp + 1) = some (some (b1, x1, u1)) ∧ b1 ≠ k.dflt ∧ wseqF F (wrF F f) dp ks x1 (out ++ b1) (u || u1) = some (some (b', p', u')) := by
  obtain ⟨j, hj, hjk⟩ := kidOf hk
  have hDf := (hr.2.2.2.2 i hi).2 j hj
  have hw := hr.fine.within i hi _ hk
  rw [hjk] at hDf
  have ht : k.node.toNat < F.s.length := by omega
  obtain ⟨hk1, hk14, _⟩ := tagged_of hr ht
  have h0 := e
  unfold wseqF at h0
  by_cases q : k.opt = true ∧ p < F.t.length ∧ (vl F.t p).kind = 15
  · rw [if_pos q] at h0
    by_cases q2 : (vl F.t p).text.size = 0 ∧ (vl F.t p).alt = 0 ∧ (vl F.t p).kids = 0
    · rw [if_pos q2] at h0
      refine .inl ⟨⟨q.2.1, .inl ⟨q.1, ?_⟩⟩, h0⟩
      have h1 := q.2.2
      have h2 := noB_of q2.1
      have h3 := q2.2.1
      have h4 := q2.2.2
      generalize vl F.t p = v at *
      obtain ⟨a, b, c, d⟩ := v
      simp only at h1 h2 h3 h4
      subst h1 h2 h3 h4
      rfl
    · rw [if_neg q2] at h0; cases h0
  rw [if_neg q] at h0
  have hf : 1 ≤ f := by
    cases f with
    | zero => rcases wandThen_cases h0 with ⟨h, _⟩ | ⟨_, _, _, h, _⟩ <;> cases h
    | succ f => omega
  have hsome : ∃ r1, wrF F f k.node.toNat p (dp + 1) = some r1 := by
    by_cases hd : k.dflt.size = 0
    · rw [if_pos hd] at h0
      rcases wandThen_cases h0 with ⟨h, _⟩ | ⟨_, _, _, h, _⟩ <;> exact ⟨_, h⟩
    · obtain ⟨hk9, _⟩ := hDf.resolve_left hd
      obtain ⟨g, rfl⟩ : ∃ g, f = g + 1 := ⟨f - 1, by omega⟩
      rw [wrF_leaf hk1 hk9]
      split <;> exact ⟨_, rfl⟩
  rcases wseq_kid hr hok hi hk hf htz e with h | ⟨hnl, hall⟩
  · exact .inl h
  obtain ⟨r1, h1⟩ := hsome
  rcases hall r1 h1 with ⟨_, h⟩ | ⟨b1, x1, u1, rfl, h2⟩
  · cases h
  refine .inr ⟨b1, x1, u1, h1, fun hbd => ?_, h2⟩
  have a1 := wrF_adv _ _ _ _ _ h1 b1 x1 u1 rfl
  obtain ⟨g, rfl⟩ : ∃ g, f = g + 1 := ⟨f - 1, by omega⟩
  by_cases hd : k.dflt.size = 0
  · have hb0 : b1.size ≤ 16777215 := by rw [hbd]; omega
    have := (wr_elem hr _ _ _ _ _ _ _ ht h1 hb0).1.pos
    rw [hbd] at this
    omega
  · obtain ⟨hk9, y, hy⟩ := hDf.resolve_left hd
    rw [wrF_leaf hk1 hk9] at h1
    split at h1
    · rename_i q3
      injection h1 with h1
      injection h1 with h1
      have hb1 : leafB (nd F.s k.node.toNat) (vl F.t p).text = b1 := by injection h1
      have hu := (leaf_elem hr ht hk9 hy (htz p q3.1.1)).1 (hb1.trans hbd)
      refine hnl ⟨q3.1.1, .inr ⟨hd, y, hy, ?_⟩⟩
      have h1 := q3.1.2.1
      have h3 := q3.2.2.1
      have h4 := q3.2.2.2
      generalize vl F.t p = v at *
      obtain ⟨a, b, c, d⟩ := v
      simp only at h1 hu h3 h4
      subst h1 hu h3 h4
      rfl
    · cases h1
end Go.Proofs.YtkkicodfpekbgaaGreatDoor

/-! What is written is read again: plain mathematics. -/
namespace Go.Proofs.YtkkicodfpekbgaaGreatDoor
set_option linter.unusedSimpArgs false
set_option linter.unusedVariables false

theorem noB_app (t : ByteArray) : noB ++ t = t := by
  apply ByteArray.ext
  apply Array.toList_inj.1
  rw [ByteArray.data_append, Array.toList_append]
  rfl
theorem app_noB' (t : ByteArray) : t ++ noB = t := by
  apply ByteArray.ext
  apply Array.toList_inj.1
  rw [ByteArray.data_append, Array.toList_append]
  exact List.append_nil _
theorem app_cancel {a b c : ByteArray} (h : a ++ b = a ++ c) : b = c := by
  apply ByteArray.ext
  apply Array.toList_inj.1
  have h2 := congrArg (fun t : ByteArray => t.data.toList) h
  simp only [ByteArray.data_append, Array.toList_append] at h2
  exact List.append_cancel_left h2
theorem Elem.bd {b : ByteArray} (h : Elem b) : 0 ≤ (hd b).2.c ∧ (hd b).2.c < 4 ∧ 0 ≤ (hd b).2.n ∧ (hd b).2.n < 31 := by
  have := elB_hd h.1 h.2
  omega
/-- A value by its parts. -/
theorem vl_parts {v : Vl} {k a c : Int} {t : ByteArray} (h1 : v.kind = k) (h2 : v.text = t) (h3 : v.alt = a) (h4 : v.kids = c) : v = ⟨k, t, a, c⟩ := by
  obtain ⟨_, _, _, _⟩ := v
  subst h1 h2 h3 h4
  rfl
/-- What is written with so much fuel is read again. -/
def Again (E : Env) (F : WEnv) (f : Nat) : Prop := ∀ i p dp b p', i < F.s.length → wrF F f i p dp = some (some (b, p', false)) → b.size ≤ 16777000 → ∀ x y, At E.d x b → x + b.size ≤ y → y ≤ E.d.size → rdF E f i x y dp = some (.ok (seg F.t p p', x + b.size))
/-- Reading and writing go by the same. -/
structure Both (E : Env) (F : WEnv) : Prop where
  s : E.s = F.s
  right : RightP F.s
  bg : ∀ i, i < F.s.length → ∀ c m, E.bg i c m = true ↔ Beg F.s i c m
  okE : ∀ k t, E.ok k t = true ↔ ContentOk k t
  okF : ∀ k t, F.ok k t = true ↔ ContentOk k t
  dv : DvOk E
  tz : ∀ j, j < F.t.length → (vl F.t j).text.size ≤ 16777000

theorem many_again {E : Env} {F : WEnv} {f : Nat} (hB : Both E F) (hN : Again E F f) {set : Bool} {i : Nat} (hi : i < F.s.length) {dp : Int} {z : Nat} (hz : z ≤ E.d.size) : ∀ (m : Nat) (c : Int) (p : Nat) (out last : ByteArray) (u : Bool) (b' : ByteArray) (p' : Nat), wmanyF F (wrF F f) set i dp m c p out last u = some (some (b', p', false)) → 0 ≤ c →
    u = false ∧ p ≤ p' ∧ ∃ rest, b' = out ++ rest ∧ (rest.size ≤ 16777000 → ∀ (x : Nat) (acc : List Vl) (j : Nat), At E.d x rest → x + rest.size = z → manyF E (rdF E f) set i z dp m x last j acc = some (.ok (j + c.toNat, acc ++ seg F.t p p')))
  | 0, _, _, _, _, _, _, _, e, _ => by cases e
  | m + 1, c, p, out, last, u, b', p', e, hc => by
    unfold wmanyF at e
    split at e
    · rename_i hc0
      rcases wandThen_cases e with ⟨_, h⟩ | ⟨b1, x1, u1, h1, h2⟩
      · cases h
      obtain ⟨hu, hp, rest, hb, hrest⟩ := many_again hB hN hi hz m (c - 1) x1 (out ++ b1) b1 _ b' p' h2 (by omega)
      simp only [Bool.or_eq_false_iff] at hu
      obtain ⟨⟨hu0, hu1⟩, hset⟩ := hu
      subst hu1
      have a1 := wrF_adv _ _ _ _ _ h1 b1 x1 _ rfl
      refine ⟨hu0, by omega, b1 ++ rest, by rw [hb, ByteArray.append_assoc], fun hsz x acc j hat hx => ?_⟩
      rw [ByteArray.size_append] at hsz hx
      have hpos := (wr_elem hB.right _ _ _ _ _ _ _ hi h1 (by omega)).1.pos
      unfold manyF
      rw [if_pos (by omega), hN i p dp b1 x1 hi h1 (by omega) x z hat.left (by omega) hz]
      unfold Out.andThen
      simp only
      rw [hat.left.2, if_neg (by rintro ⟨q1, q2⟩; rw [q1, q2] at hset; cases hset), hrest (by omega) (x + b1.size) (acc ++ seg F.t p x1) (j + 1) hat.right (by omega)]
      rw [List.append_assoc, seg_app (by omega) hp, show j + 1 + (c - 1).toNat = j + c.toNat by omega]
    · rename_i hc0
      cases e
      refine ⟨rfl, Nat.le_refl _, noB, (app_noB' _).symm, fun _ x acc j hat hx => ?_⟩
      unfold manyF
      have h0 : noB.size = 0 := rfl
      rw [if_neg (by omega), seg_nil, List.append_nil, show c.toNat = 0 by omega]
      rfl

/-- How what the kids of a Seq are written to begins. -/
theorem seq_first {E : Env} {F : WEnv} {f : Nat} (hB : Both E F) {i : Nat} (hi : i < F.s.length) {dp : Int} : ∀ (c j p : Nat) (out : ByteArray) (u : Bool) (b' : ByteArray) (p' : Nat) (u' : Bool), j + c = (nd F.s i).kids.length → wseqF F (wrF F f) dp ((nd F.s i).kids.drop j) p out u = some (some (b', p', u')) →
    ∃ rest, b' = out ++ rest ∧ (rest.size ≤ 16777215 → rest = noB ∨ ∃ k, j ≤ k ∧ k < (nd F.s i).kids.length ∧ (∀ l, j ≤ l → l < k → ¬ (kd (nd F.s i) l).must) ∧ ∃ b1 r1, rest = b1 ++ r1 ∧ Elem b1 ∧ Beg F.s (kd (nd F.s i) k).node.toNat (hd b1).2.c (hd b1).2.n)
  | 0, j, p, out, u, b', p', u', hj, e => by
    rw [List.drop_eq_nil_of_le (by omega)] at e
    unfold wseqF at e
    cases e
    exact ⟨noB, (app_noB' _).symm, fun _ => .inl rfl⟩
  | c + 1, j, p, out, u, b', p', u', hj, e => by
    have hjl : j < (nd F.s i).kids.length := by omega
    rw [drop_kid hjl] at e
    rcases seq_inv hB.right hB.okF hi (kd_mem hjl) hB.tz e with ⟨hlo, h⟩ | ⟨b1, x1, u1, h1, hne, h⟩
    · obtain ⟨rest, hb, hrest⟩ := seq_first hB hi c (j + 1) _ _ _ _ _ _ (by omega) h
      refine ⟨rest, hb, fun hz => ?_⟩
      rcases hrest hz with h | ⟨k, k1, k2, k3, k4⟩
      · exact .inl h
      · refine .inr ⟨k, by omega, k2, fun l l1 l2 => ?_, k4⟩
        by_cases e : l = j
        · subst e
          rintro ⟨m1, m2⟩
          rcases hlo.2 with ⟨o, _⟩ | ⟨o, _⟩
          · rw [m1] at o; cases o
          · exact o m2
        · exact k3 l (by omega) l2
    · obtain ⟨rest, hb, _⟩ := seq_first hB hi c (j + 1) _ _ _ _ _ _ (by omega) h
      refine ⟨b1 ++ rest, by rw [hb, ByteArray.append_assoc], fun hz => .inr ⟨j, Nat.le_refl _, hjl, fun l l1 l2 => by omega, b1, rest, rfl, ?_⟩⟩
      rw [ByteArray.size_append] at hz
      exact wr_elem hB.right _ _ _ _ _ _ _ (by have := hB.right.fine.within i hi _ (kd_mem hjl); omega) h1 (by omega)
theorem seq_again {E : Env} {F : WEnv} {f : Nat} (hB : Both E F) (hN : Again E F f) {i : Nat} (hi : i < F.s.length) (hk10 : (nd F.s i).kind = 10) {dp : Int} {z : Nat} (hz : z ≤ E.d.size) : ∀ (c j p : Nat) (out : ByteArray) (u : Bool) (b' : ByteArray) (p' : Nat), j + c = (nd F.s i).kids.length → wseqF F (wrF F f) dp ((nd F.s i).kids.drop j) p out u = some (some (b', p', false)) →
    u = false ∧ p ≤ p' ∧ ∃ rest, b' = out ++ rest ∧ (rest.size ≤ 16777000 → ∀ (x : Nat) (acc : List Vl), At E.d x rest → x + rest.size = z → seqF E (rdF E f) z (dp + 1) ((nd F.s i).kids.drop j) x acc = some (.ok (acc ++ seg F.t p p', z)))
  | 0, j, p, out, u, b', p', hj, e => by
    rw [List.drop_eq_nil_of_le (by omega)] at e ⊢
    unfold wseqF at e
    cases e
    refine ⟨rfl, Nat.le_refl _, noB, (app_noB' _).symm, fun _ x acc hat hx => ?_⟩
    have h0 : noB.size = 0 := rfl
    unfold seqF
    rw [if_neg (by omega), seg_nil, List.append_nil, show x = z by omega]
  | c + 1, j, p, out, u, b', p', hj, e => by
    have hjl : j < (nd F.s i).kids.length := by omega
    have hkm := kd_mem hjl
    have hw := hB.right.fine.within i hi _ hkm
    rw [drop_kid hjl] at e ⊢
    rcases seq_inv hB.right hB.okF hi hkm hB.tz e with ⟨hlo, h⟩ | ⟨b1, x1, u1, h1, hne, h⟩
    · obtain ⟨hu, hp, rest, hb, hrest⟩ := seq_again hB hN hi hk10 hz c (j + 1) _ _ _ _ _ (by omega) h
      obtain ⟨rest', hb', hfirst⟩ := seq_first hB hi c (j + 1) _ _ _ _ _ _ (by omega) h
      obtain rfl : rest' = rest := app_cancel (hb'.symm.trans hb)
      refine ⟨hu, by omega, rest', hb, fun hsz x acc hat hx => ?_⟩
      have hhd : x < z → (E.hd x z).1 = 0 ∧ E.bg (kd (nd F.s i) j).node.toNat (E.hd x z).2.c (E.hd x z).2.n = false := fun hlt => by
        rcases hfirst (by omega) with h0 | ⟨k, k1, k2, k3, b1, r1, hr1, hel, hbeg⟩
        · rw [h0] at hx
          have h0 : noB.size = 0 := rfl
          omega
        · rw [hr1] at hat hx
          rw [ByteArray.size_append] at hx
          obtain ⟨e1, e2⟩ := hat.left.hd hel.1 hel.2 (y := z) (by omega) hz
          rw [e1]
          refine ⟨hel.1, Bool.eq_false_iff.2 fun hbg => ?_⟩
          have hBg := (hB.bg _ (by omega) _ _).1 hbg
          obtain ⟨d1, d2, d3, d4⟩ := hel.bd
          rcases ((hB.right.2.2.2.2 i hi).1 (.inl hk10)) j hjl with hst | hT
          · rcases hlo.2 with ⟨o, _⟩ | ⟨o, _⟩
            · have := hst.2.1; rw [this] at o; cases o
            · exact o hst.2.2
          · exact hT k (by omega) k2 (fun l l1 l2 hst => k3 l (by omega) l2 hst.2) ⟨_, _, d1, d2, d3, d4, hBg, hbeg⟩
      unfold seqF
      rw [if_neg (fun q => q.2 (hhd q.1).1), if_neg (fun q => by rw [(hhd q.1).2] at q; cases q.2)]
      have hcons : vl F.t p :: seg F.t (p + 1) p' = seg F.t p p' := seg_cons hlo.1 hp
      rcases hlo.2 with ⟨o, hv⟩ | ⟨o, u', hu', hv⟩
      · rw [if_pos o, hrest hsz x _ hat hx, List.append_assoc, ← hcons, hv]
        rfl
      · have hno : ¬ (kd (nd F.s i) j).opt = true := fun q => ((hB.right.2.2.1 i hi).2.2.2 j hjl).2.2.2 ⟨q, o⟩
        obtain ⟨u2, e1, e2, _⟩ := hB.dv i (by rw [hB.s]; exact hi) (kd (nd F.s i) j) (by rw [hB.s]; exact hkm) o
        rw [hB.s] at e1 e2
        rw [if_neg hno, if_pos o, hrest hsz x _ hat hx, List.append_assoc, ← hcons, hv, e2, elem_one e1 hu']
        rfl
    · obtain ⟨hu, hp, rest, hb, hrest⟩ := seq_again hB hN hi hk10 hz c (j + 1) _ _ _ _ _ (by omega) h
      simp only [Bool.or_eq_false_iff] at hu
      obtain ⟨hu0, hu1⟩ := hu
      subst hu1
      have a1 := wrF_adv _ _ _ _ _ h1 b1 x1 _ rfl
      refine ⟨hu0, by omega, b1 ++ rest, by rw [hb, ByteArray.append_assoc], fun hsz x acc hat hx => ?_⟩
      rw [ByteArray.size_append] at hsz hx
      obtain ⟨hel, hbeg⟩ := wr_elem hB.right _ _ _ _ _ _ _ (by omega) h1 (by omega)
      have hpos := hel.pos
      obtain ⟨e1, e2⟩ := hat.left.hd hel.1 hel.2 (y := z) (by omega) hz
      unfold seqF
      rw [if_neg (fun q => q.2 (by rw [e1]; exact hel.1)), if_pos ⟨by omega, by rw [e1]; exact (hB.bg _ (by omega) _ _).2 hbeg⟩, hN _ p (dp + 1) b1 x1 (by omega) h1 (by omega) x z hat.left (by omega) hz]
      unfold Out.andThen
      simp only
      rw [hat.left.2, if_neg hne, hrest (by omega) (x + b1.size) (acc ++ seg F.t p x1) hat.right (by omega), List.append_assoc, seg_app (by omega) hp]
/-- Which alternative is read. -/
theorem choice_at {E : Env} {rec : Rec} {h : Hd} {x z : Nat} {dp : Int} {n : Nd} {a : Nat} (ha : a < n.kids.length) (hy : E.bg (kd n a).node.toNat h.c h.n = true) : ∀ (c j : Nat), j + c = a → (∀ l, j ≤ l → l < a → E.bg (kd n l).node.toNat h.c h.n = false) →
    choiceF E rec h x z dp (n.kids.drop j) j = Out.andThen (rec (kd n a).node.toNat x z dp) fun vs _ => some (.ok (⟨13, noB, a, 1⟩ :: vs, z))
  | 0, j, e, hn => by
    obtain rfl : j = a := by omega
    rw [drop_kid ha]
    unfold choiceF
    rw [if_pos hy]
  | c + 1, j, e, hn => by
    rw [drop_kid (by omega)]
    unfold choiceF
    rw [if_neg (by rw [hn j (by omega) (by omega)]; decide)]
    exact choice_at ha hy c (j + 1) (by omega) fun l l1 l2 => hn l (by omega) l2
theorem bare_again {E : Env} {F : WEnv} {f : Nat} (hB : Both E F) (hN : Again E F f) {i : Nat} (hi : i < F.s.length) {p : Nat} {dp cl nu : Int} {b : ByteArray} {p' : Nat} (hp : p < F.t.length) (hkind : (vl F.t p).kind = (nd F.s i).kind) (hdp : dp ≤ 12) (q1 : 0 ≤ cl) (q2 : cl ≤ 3) (q3 : 0 ≤ nu) (q4 : nu ≤ 30)
    (h : wbareF F (wrF F f) f (nd F.s i) cl nu (vl F.t p) (p + 1) dp = some (some (b, p', false))) (hb : b.size ≤ 16777000) {x : Nat} (hat : At E.d x b) : bareF E (rdF E f) f (nd F.s i) cl nu (hd b).2 x (x + b.size) dp = some (.ok (seg F.t p p', x + b.size)) := by
  obtain ⟨hk1, hk14, hT1, hT2, hT3, hT4, hT5⟩ := tagged_of hB.right hi
  unfold wbareF at h
  unfold bareF
  by_cases k13 : (nd F.s i).kind = 13
  · rw [if_pos k13] at h ⊢
    split at h
    · rename_i q
      have ha : (vl F.t p).alt.toNat < (nd F.s i).kids.length := by omega
      have hw := hB.right.fine.within i hi _ (kd_mem ha)
      obtain ⟨hel, hbeg⟩ := wr_elem hB.right _ _ _ _ _ _ _ (by omega) h (by omega)
      obtain ⟨d1, d2, d3, d4⟩ := hel.bd
      have hy := (hB.bg _ (by omega) _ _).2 hbeg
      have hc := choice_at (E := E) (rec := rdF E f) (h := (hd b).2) (x := x) (z := x + b.size) (dp := dp) ha hy (vl F.t p).alt.toNat 0 (by omega) fun l _ l2 => Bool.eq_false_iff.2 fun hbg => by
        have hwl := hB.right.fine.within i hi _ (kd_mem (Nat.lt_trans l2 ha))
        have hBg := (hB.bg _ (by omega) _ _).1 hbg
        rcases ((hB.right.2.2.2.2 i hi).1 (.inr k13)) l (Nat.lt_trans l2 ha) with hst | hT
        · have := hst.1; omega
        · exact hT _ l2 ha (fun l l1 l2 hst => by have := hst.1; omega) ⟨_, _, d1, d2, d3, d4, hBg, hbeg⟩
      rw [List.drop_zero] at hc
      have a1 := wrF_adv _ _ _ _ _ h b p' _ rfl
      rw [hc, hN _ (p + 1) dp b p' (by omega) h hb x (x + b.size) hat (Nat.le_refl _) hat.1]
      unfold Out.andThen
      simp only
      rw [← seg_cons hp (by omega), vl_parts (hkind.trans k13) (noB_of q.1) rfl q.2.1]
      rw [show (((vl F.t p).alt.toNat : Nat) : Int) = (vl F.t p).alt by omega]
    · cases h
  rw [if_neg k13] at h ⊢
  by_cases k14 : (nd F.s i).kind = 14
  · rw [if_pos k14] at h
    rw [if_neg (fun q => q.1 k14), if_neg (by omega), if_pos k14]
    split at h
    · rename_i q
      injection h with h
      injection h with h
      obtain ⟨hbe, h⟩ := Prod.mk.inj h
      obtain ⟨rfl, _⟩ := Prod.mk.inj h
      rw [seg_one hp, hat.2, vl_parts (hkind.trans k14) hbe q.2.2.1 q.2.2.2]
    · cases h
  rw [if_neg k14] at h
  have hel : ∀ (bt : Bool) (s : ByteArray), b = elB cl bt nu s → bt = decide (10 ≤ (nd F.s i).kind ∧ (nd F.s i).kind ≤ 12) → hd b = (0, ⟨cl, bt, nu, 2 + cnt s.size, s.size⟩) ∧ ¬ ((nd F.s i).kind ≠ 14 ∧ ¬ ((hd b).2.c = cl ∧ (hd b).2.n = nu ∧ (hd b).2.b = decide (10 ≤ (nd F.s i).kind ∧ (nd F.s i).kind ≤ 12))) ∧ At E.d (x + (hd b).2.s.toNat) s ∧ x + (hd b).2.s.toNat + s.size = x + b.size := fun bt s e hbt => by
    subst e
    obtain ⟨_, e2⟩ := elem_elB cl bt nu s q1 q2 q3 q4 (by omega)
    have hz := elB_sz cl bt nu s
    have hc := cnt_bd s.size
    rw [e2]
    exact ⟨rfl, fun q => q.2 ⟨rfl, rfl, hbt⟩, hat.el, by show x + (2 + cnt s.size).toNat + s.size = _; omega⟩
  by_cases k10 : (nd F.s i).kind = 10
  · rw [if_pos k10] at h
    split at h
    · rename_i q
      rcases wandThen_cases h with ⟨_, h⟩ | ⟨b1, x1, u1, h1, h2⟩
      · cases h
      injection h2 with h2
      injection h2 with h2
      obtain ⟨hbe, h2⟩ := Prod.mk.inj h2
      obtain ⟨rfl, rfl⟩ := Prod.mk.inj h2
      obtain ⟨he, hck, hat1, hsz⟩ := hel true b1 hbe.symm (by rw [k10]; rfl)
      rw [if_neg hck, if_neg (by omega), if_neg k14, if_pos k10]
      obtain ⟨_, hpp, rest, hb1, hrest⟩ := seq_again hB hN hi k10 (z := x + b.size) hat.1 (nd F.s i).kids.length 0 (p + 1) noB false b1 x1 (by omega) h1
      rw [noB_app] at hb1
      subst hb1
      rw [List.drop_zero] at hrest
      rw [hrest (by omega) _ [] hat1 hsz]
      simp only [List.nil_append]
      rw [← seg_cons hp (by omega), vl_parts (hkind.trans k10) (noB_of q.1) q.2.1 q.2.2]
    · cases h
  rw [if_neg k10] at h
  by_cases k12 : 10 ≤ (nd F.s i).kind ∧ (nd F.s i).kind ≤ 12
  · rw [if_pos k12] at h
    split at h
    · rename_i q
      rcases wandThen_cases h with ⟨_, h⟩ | ⟨b1, x1, u1, h1, h2⟩
      · cases h
      injection h2 with h2
      injection h2 with h2
      obtain ⟨hbe, h2⟩ := Prod.mk.inj h2
      obtain ⟨rfl, rfl⟩ := Prod.mk.inj h2
      obtain ⟨he, hck, hat1, hsz⟩ := hel true b1 hbe.symm (by simp [k12])
      rw [if_neg hck, if_neg (by omega), if_neg k14, if_neg k10, if_pos k12]
      have h1k := hB.right.fine.one i hi (by omega)
      have hw := hB.right.fine.within i hi _ (kd_mem (n := nd F.s i) (i := 0) (by omega))
      obtain ⟨_, hpp, rest, hb1, hrest⟩ := many_again hB hN (i := (kd (nd F.s i) 0).node.toNat) (by omega) (z := x + b.size) hat.1 f _ (p + 1) noB noB false b1 x1 h1 q.2.2
      rw [noB_app] at hb1
      subst hb1
      rw [hrest (by omega) _ [] 0 hat1 hsz]
      simp only [List.nil_append]
      rw [← seg_cons hp (by omega), vl_parts hkind (noB_of q.1) q.2.1 rfl, Nat.zero_add, show (((vl F.t p).kids.toNat : Nat) : Int) = (vl F.t p).kids by omega]
    · cases h
  rw [if_neg k12] at h
  split at h
  · rename_i q
    injection h with h
    injection h with h
    obtain ⟨hbe, h⟩ := Prod.mk.inj h
    obtain ⟨rfl, _⟩ := Prod.mk.inj h
    obtain ⟨he, hck, hat1, hsz⟩ := hel false _ hbe.symm (by simp [k12])
    rw [if_neg hck, if_neg (by omega), if_neg k14, if_neg k10, if_neg k12]
    have hx := hat1.2
    rw [hsz] at hx
    rw [hx, if_pos ((hB.okE _ _).2 ((hB.okF _ _).1 q.1)), seg_one hp, vl_parts hkind rfl q.2.1 q.2.2]
  · cases h
/-- What is written is read again. -/
theorem again_all {E : Env} {F : WEnv} (hB : Both E F) : ∀ f, Again E F f
  | 0 => fun _ _ _ _ _ _ h => by cases h
  | f + 1 => fun i p dp b p' hi h hb x y hat hy hyd => by
    have hel := (wr_elem hB.right _ _ _ _ _ _ _ hi h (by omega)).1
    obtain ⟨hk1, hk14, hT1, hT2, hT3, hT4, hT5⟩ := tagged_of hB.right hi
    obtain ⟨w1, w2, w3, w4⟩ := wnu_bd hB.right hi
    obtain ⟨e1, e2⟩ := hat.hd hel.1 hel.2 hy hyd
    rw [rdF, if_neg (fun q => q (by rw [e1]; exact hel.1)), e2, e1]
    rw [wrF] at h
    split at h
    · rename_i q
      rcases wandThen_cases h with ⟨_, h⟩ | ⟨b1, x1, u1, h1, h2⟩
      · cases h
      injection h2 with h2
      injection h2 with h2
      obtain ⟨hbe, h2⟩ := Prod.mk.inj h2
      obtain ⟨rfl, rfl⟩ := Prod.mk.inj h2
      unfold valF
      rw [hB.s]
      by_cases hm : (nd F.s i).mode = 1
      · rw [if_pos hm] at hbe
        have ht : 0 ≤ (nd F.s i).tag := by
          by_cases z : (nd F.s i).tag = -1
          · have := hT3 z; omega
          · omega
        have hc0 : wcl (nd F.s i) = 0 := by unfold wcl; rw [if_neg (by omega)]
        have hn0 : wnu (nd F.s i) = own0 (nd F.s i).kind := by unfold wnu; rw [if_neg (by omega)]
        rw [if_neg (by omega), if_neg (by omega)]
        subst hbe
        have hz := elB_sz 2 true (nd F.s i).tag b1
        have hc := cnt_bd b1.size
        obtain ⟨_, he2⟩ := elem_elB 2 true (nd F.s i).tag b1 (by decide) (by decide) ht hT2 (by omega)
        have hat1 := hat.el
        have hel1 := (wbare_elem hB.right hi (wr_elem hB.right f) h1 (by omega)).1
        have hsz : x + (2 + cnt b1.size).toNat + b1.size = x + (elB 2 true (nd F.s i).tag b1).size := by omega
        obtain ⟨f1, f2⟩ := hat1.hd hel1.1 hel1.2 (y := x + (elB 2 true (nd F.s i).tag b1).size) (by omega) hat.1
        rw [he2]
        simp only
        rw [if_neg (by simp), if_neg (by omega), if_neg (fun q => q (by rw [f1]; exact hel1.1)), f2, f1]
        rw [hc0, hn0] at h1
        rw [hc0] at w1 w2
        rw [hn0] at w3 w4
        rw [bare_again hB (again_all hB f) hi q.1 q.2.1 q.2.2 w1 w2 w3 w4 h1 (by omega) hat1]
        unfold Out.andThen
        simp only
        rw [if_neg (by omega)]
      · rw [if_neg hm] at hbe
        subst hbe
        have hm0 : (nd F.s i).mode = 0 := by have := mode_of hB.right.2.2.1 hi; omega
        have hbare := bare_again hB (again_all hB f) hi q.1 q.2.1 q.2.2 w1 w2 w3 w4 h1 hb hat
        by_cases ht : (nd F.s i).tag < 0
        · rw [if_pos ht]
          unfold wcl wnu at hbare
          rw [if_neg (by omega), if_neg (by omega)] at hbare
          exact hbare
        · rw [if_neg ht, if_pos hm0]
          unfold wcl wnu at hbare
          rw [if_pos ⟨by omega, hm0⟩, if_pos ⟨by omega, hm0⟩] at hbare
          exact hbare
    · cases h
end Go.Proofs.YtkkicodfpekbgaaGreatDoor

/-! Sorted: what reading comes to at its schema: plain mathematics. -/
namespace Go.Proofs.YtkkicodfpekbgaaGreatDoor
set_option linter.unusedSimpArgs false
set_option linter.unusedVariables false

theorem cat_foldl : ∀ (ts : List ByteArray) (out : ByteArray), ts.foldl (fun a t => a ++ oct t) out = out ++ cat ts
  | [], out => by rw [cat, app_noB']; rfl
  | t :: ts, out => by rw [List.foldl_cons, cat_foldl ts, cat, ByteArray.append_assoc]
theorem oct_size {t : ByteArray} (h : t.size = 2) : (oct t).size = 4 := by
  have hz := elB_sz 0 false 4 t
  rw [h] at hz
  unfold oct
  have : cnt ((2 : Nat) : Int) = 0 := by decide
  omega
theorem oct_hd {t : ByteArray} (h : t.size = 2) : hd (oct t) = (0, ⟨0, false, 4, 2, 2⟩) := by
  unfold oct
  rw [hd_elB 0 false 4 t (by decide) (by decide) (by decide) (by decide) (by omega), h]
  rfl
theorem cat_size : ∀ {ts : List ByteArray}, (∀ t ∈ ts, t.size = 2) → (cat ts).size = 4 * ts.length
  | [], _ => rfl
  | t :: ts, h => by
    rw [cat, ByteArray.size_append, oct_size (h t (by simp)), cat_size (fun t ht => h t (by simp [ht])), List.length_cons]
    omega
theorem srt_elem {E : Env} (hs : E.s = srtS) (hok : ∀ t, E.ok 6 t = true) {t : ByteArray} (ht : t.size = 2) {f x y : Nat} {dp : Int} (hdp : dp ≤ 12) (h : At E.d x (oct t)) (hy : x + 4 ≤ y) (hyd : y ≤ E.d.size) : rdF E (f + 1) 1 x y dp = some (.ok ([⟨6, t, 0, 0⟩], x + 4)) := by
  have hh := oct_hd ht
  have hz := oct_size ht
  obtain ⟨e1, e2⟩ := h.hd (by rw [hh]) (by rw [hh, hz]; decide) (by omega) hyd
  rw [hz] at e2
  rw [hh] at e1
  have hn : nd E.s 1 = ⟨6, -1, 0, []⟩ := by rw [hs]; rfl
  rw [rdF, if_neg (by rw [e1]; decide), e2, e1]
  unfold valF
  rw [hn, if_pos (by decide)]
  unfold bareF
  rw [if_neg (by decide), if_neg (by decide), if_neg (by omega), if_neg (by decide), if_neg (by decide), if_neg (by decide)]
  have hx := h.el
  have e3 : E.d.extract (x + Int.toNat 2) (x + 4) = t := by
    have := hx.2
    rw [ht] at this
    exact this
  show (if E.ok 6 (E.d.extract (x + Int.toNat 2) (x + 4)) = true then some (Except.ok ([(⟨6, E.d.extract (x + Int.toNat 2) (x + 4), 0, 0⟩ : Vl)], x + 4)) else some (Except.error (6, (x : Int)))) = _
  rw [e3, if_pos (hok t)]
theorem srt_rmany {E : Env} (hs : E.s = srtS) (hok : ∀ t, E.ok 6 t = true) {f z : Nat} {dp : Int} (hdp : dp ≤ 12) (hzd : z ≤ E.d.size) : ∀ (ts : List ByteArray) (x : Nat) (last : ByteArray) (j : Nat) (acc : List Vl) (m : Nat), (∀ t ∈ ts, t.size = 2) → At E.d x (cat ts) → x + (cat ts).size = z → ts.length < m →
    (falls last ts = false ∧ manyF E (rdF E (f + 1)) true 1 z dp m x last j acc = some (.ok (j + ts.length, acc ++ ts.map fun t => ⟨6, t, 0, 0⟩))) ∨
    (falls last ts = true ∧ ∃ p, x ≤ p ∧ manyF E (rdF E (f + 1)) true 1 z dp m x last j acc = some (.error (8, (p : Nat))))
  | [], x, last, j, acc, m + 1, _, _, hz, _ => by
    refine .inl ⟨rfl, ?_⟩
    unfold manyF
    have : x = z := by have e : (cat []).size = 0 := rfl; omega
    rw [if_neg (by omega)]
    simp
  | t :: ts, x, last, j, acc, m + 1, h2, ha, hz, hm => by
    have ht := h2 t (by simp)
    have hts : ∀ u ∈ ts, u.size = 2 := fun u hu => h2 u (by simp [hu])
    have hz4 : x + 4 + (cat ts).size = z := by
      rw [cat, ByteArray.size_append, oct_size ht] at hz; omega
    rw [cat] at ha
    have hl := ha.left
    have hr := ha.right
    rw [oct_size ht] at hr
    have hex : E.d.extract x (x + 4) = oct t := by have := hl.2; rw [oct_size ht] at this; exact this
    unfold manyF
    rw [if_pos (by omega), srt_elem hs hok ht hdp hl (by omega) hzd]
    unfold Out.andThen
    simp only
    rw [hex]
    by_cases hb : below (oct t) last = true
    · rw [if_pos (by simp [hb])]
      exact .inr ⟨by simp [falls, hb], x, Nat.le_refl _, rfl⟩
    · rw [if_neg (by simp [hb])]
      have hb' : below (oct t) last = false := by simpa using hb
      rcases srt_rmany hs hok hdp hzd ts (x + 4) (oct t) (j + 1) (acc ++ [⟨6, t, 0, 0⟩]) m hts hr hz4 (by simp at hm; omega) with ⟨q1, q2⟩ | ⟨q1, p, q2, q3⟩
      · refine .inl ⟨by simp [falls, hb', q1], ?_⟩
        rw [q2]
        simp [Nat.add_assoc, Nat.add_comm 1]
      · exact .inr ⟨by simp [falls, q1], p, by omega, q3⟩
/-- What reading the bytes of such a tree comes to. -/
theorem srt_rd {E : Env} {ts : List ByteArray} (hs : E.s = srtS) (hd : E.d = elB 0 true 17 (cat ts)) (hok : ∀ t, E.ok 6 t = true) (h2 : ∀ t ∈ ts, t.size = 2) (h30 : ts.length ≤ 30) {f : Nat} (hf : ts.length < f + 1) :
    (falls noB ts = false ∧ readF E (f + 1 + 1) 0 = some (.ok (srtT ts))) ∨ (falls noB ts = true ∧ ∃ p : Nat, 0 < p ∧ readF E (f + 1 + 1) 0 = some (.error (8, p))) := by
  have hc := cat_size h2
  have hz := elB_sz 0 true 17 (cat ts)
  have hh := hd_elB 0 true 17 (cat ts) (by decide) (by decide) (by decide) (by decide) (by omega)
  have hat : At E.d 0 (elB 0 true 17 (cat ts)) := by rw [hd]; exact At.all _
  obtain ⟨e1, e2⟩ := hat.hd (y := E.d.size) (by rw [hh]) (by rw [hh]; exact hz.symm) (by rw [hd]; omega) (Nat.le_refl _)
  rw [hh] at e1
  rw [Nat.zero_add, ← hd] at e2
  have hn : nd E.s 0 = ⟨12, -1, 0, [⟨1, false, noB⟩]⟩ := by rw [hs]; rfl
  have hel := hat.el
  rw [Nat.zero_add] at hel
  have hcn := cnt_bd (cat ts).size
  have hm := srt_rmany hs hok (f := f) (dp := 1 + 1) (by decide) (Nat.le_refl _) ts (2 + cnt (cat ts).size).toNat noB 0 [] (f + 1) h2 hel (by rw [hd]; omega) hf
  have key : rdF E (f + 1 + 1) 0 0 E.d.size 1 = match manyF E (rdF E (f + 1)) true 1 E.d.size (1 + 1) (f + 1) (2 + cnt (cat ts).size).toNat noB 0 [] with
      | none => none
      | some (.error e) => some (.error e)
      | some (.ok (j, vs)) => some (.ok (⟨12, noB, 0, j⟩ :: vs, E.d.size)) := by
    rw [rdF, if_neg (fun q => q (by rw [e1])), e2, e1]
    unfold valF
    rw [hn, if_pos (by decide)]
    unfold bareF
    rw [if_neg (by decide), if_neg (by simp [own0, own]), if_neg (by decide), if_neg (by decide), if_neg (by decide), if_pos (by decide)]
    rw [Nat.zero_add]
    rfl
  unfold readF
  rw [key]
  rcases hm with ⟨q1, q2⟩ | ⟨q1, p, q2, q3⟩
  · refine .inl ⟨q1, ?_⟩
    rw [q2]
    unfold Out.andThen
    simp only
    rw [if_neg (by omega)]
    unfold srtT
    simp
  · refine .inr ⟨q1, p, by omega, ?_⟩
    rw [q3]
    rfl
end Go.Proofs.YtkkicodfpekbgaaGreatDoor

/-! The program's writer: insert. -/
namespace Go.Proofs.YtkkicodfpekbgaaGreatDoor
set_option linter.unusedSimpArgs false
set_option linter.unusedVariables false
open Go.RowKit

/-- What is neither the writer nor a row of plain bytes stays. -/
structure FrX (R : Nat) (w w' : World) : Prop where
  size : w.heap.size ≤ w'.heap.size
  stay : ∀ (k : Nat) (o : Obj), k ≠ R → (∀ A, o ≠ .cells A 5 (0, 0)) → w.heap[k]? = some o → w'.heap[k]? = some o
theorem FrX.refl (R : Nat) (w : World) : FrX R w w := ⟨Nat.le_refl _, fun _ _ _ _ h => h⟩
theorem FrX.trans {R : Nat} {w w1 w2 : World} (h : FrX R w w1) (k : FrX R w1 w2) : FrX R w w2 := ⟨Nat.le_trans h.size k.size, fun j o hj ho hg => k.stay j o hj ho (h.stay j o hj ho hg)⟩
theorem FrX.of_below {R : Nat} {w w' : World} (h : Below w.heap.size w w') : FrX R w w' := ⟨h.size, fun _ _ _ _ hg => block_below hg h⟩
theorem FrX.set {R : Nat} {w : World} (i : Nat) (u : Value) : FrX R w (w.setCell ⟨R, i, none⟩ u) := ⟨by simp [World.setCell], fun j o hj _ hg => by rw [heap_setCell_other _ _ _ _ hj]; exact hg⟩
theorem FrX.fr {R : Nat} {w w' : World} (h : FrX R w w') : FrE R w w' := fun k A T hk hT hg => h.stay k _ hk (fun B q => hT (by injection q)) hg

theorem bcells_len (t : ByteArray) : (bcells t).length = t.size := by
  unfold bcells
  rw [List.length_map]
  exact Array.length_toList
theorem bcells_ins (t tx : ByteArray) {p : Nat} (hp : p ≤ t.size) : (bcells t).take p ++ bcells tx ++ (bcells t).drop p = bcells (insB t p tx) := by
  unfold bcells insB
  rw [← List.map_take, ← List.map_drop, ← List.map_append, ← List.map_append]
  congr 1
  rw [ByteArray.data_append, ByteArray.data_append, Array.toList_append, Array.toList_append, Lib.extract_data, Lib.extract_data]
  rw [List.drop_zero, Nat.sub_zero, List.take_of_length_le (l := List.drop p t.data.toList) (by rw [List.length_drop]; exact Nat.le_refl _)]
theorem bcells_one (t : ByteArray) : ∀ v ∈ bcells t, v.oneCell' = true := by
  intro v hv
  unfold bcells at hv
  obtain ⟨b, _, rfl⟩ := List.mem_map.1 hv
  rfl
theorem row_take (tx : ByteArray) (c : Nat) : (bytesRow tx c).toList.take tx.size = bcells tx := by
  unfold bytesRow bcells
  rw [Array.toList_append, Array.toList_map]
  exact List.take_left' (by rw [List.length_map]; exact Array.length_toList)

theorem EwD.setLong {W w : World} {R : Nat} {a : Option Addr} {n c : Nat} {ta : Option Addr} {tn tc x : Nat} {told : ByteArray} {lg : Bool} {ov : Value} (h : EwD W w R a n c ta tn tc x told lg ov) (l : Bool) : EwD W (w.setCell ⟨R, 4, none⟩ (.bool l)) R a n c ta tn tc x told l ov := by
  obtain ⟨tv, h1, h2⟩ := h.own
  exact ⟨h.bel.setCell (p := ⟨R, 4, none⟩) h.lo _, h.lo, tv, heap_setCell_same w R 4 _ _ _ h1, ownsRow_setCell_other h2 (row_ne h1 h2 (by decide)) _⟩
theorem EwD.setOrder {W w : World} {R : Nat} {a : Option Addr} {n c : Nat} {ta : Option Addr} {tn tc x : Nat} {told : ByteArray} {lg : Bool} {ov : Value} (h : EwD W w R a n c ta tn tc x told lg ov) (ov' : Value) : EwD W (w.setCell ⟨R, 5, none⟩ ov') R a n c ta tn tc x told lg ov' := by
  obtain ⟨tv, h1, h2⟩ := h.own
  exact ⟨h.bel.setCell (p := ⟨R, 5, none⟩) h.lo _, h.lo, tv, heap_setCell_same w R 5 _ _ _ h1, ownsRow_setCell_other h2 (row_ne h1 h2 (by decide)) _⟩
theorem ewTold {W w : World} {R : Nat} {a : Option Addr} {n c : Nat} {ta : Option Addr} {tn tc x : Nat} {tv : Value} {lg : Bool} {ov : Value} (hb : Below W.heap.size W w) (lo : W.heap.size ≤ R) (hg : w.heap[R]? = some (ewObj a n c ta tn tc x tv lg ov)) {v' : Value} {told : ByteArray} (ho : w.ownsRow W.heap.size 5 1 v' told.size (bcells told)) :
    EwD W (w.setCell ⟨R, 3, none⟩ v') R a n c ta tn tc x told lg ov :=
  ⟨hb.setCell (p := ⟨R, 3, none⟩) lo _, lo, v', heap_setCell_same w R 3 _ _ _ hg, ownsRow_setCell_other ho (row_ne hg ho (by decide)) _⟩
theorem own8 {w : World} {B : Nat} {v : Value} {n : Nat} {xs : List Value} (h : w.ownsRow B 5 1 v n xs) : ∃ bs cp, v = .slice bs n cp ∧ n ≤ cp ∧ cp ≤ 9223372036854775807 ∧ (bs = none ∨ ∃ g, bs = some ⟨g, 0, none⟩) := by
  rcases h.2 with ⟨rfl, h0⟩ | ⟨g, cp, cur, rfl, _, _, h1, h2, _⟩
  · exact ⟨none, 0, by rw [h0], by omega, by omega, .inl rfl⟩
  · exact ⟨_, _, rfl, h1, by unfold maxLen at h2; omega, .inr ⟨g, rfl⟩⟩

set_option maxHeartbeats 4000000 in
set_option maxRecDepth 100000 in
/-- slices.Insert of nothing. -/
theorem ins_none (bs : Option Addr) (n cp i vb vc : Nat) (w : World) (hbs : bs = none ∨ ∃ g, bs = some ⟨g, 0, none⟩) (hi : i ≤ n) (hn : n ≤ cp) (hcp : cp ≤ 9223372036854775807) (h0 : bs = none → n = 0 ∧ cp = 0) :
    Calls Tryz.prog 182 #[.slice bs n cp, .int .i64 i, .slice (some ⟨vb, 0, none⟩) 0 vc] w fun e w' => e = .returned (.slice bs n cp) ∧ w' = w := by
  go_enter Tryz.func182, Tryz.ntmps182
  rcases hbs with rfl | ⟨g, rfl⟩
  · obtain ⟨rfl, rfl⟩ := h0 rfl
    obtain rfl : i = 0 := by omega
    go_wp2
    go_ret
    exact ⟨rfl, rfl⟩
  · have h1 : (i : Int) ≤ (n : Int) := by omega
    by_cases h2 : cp = i
    all_goals
      go_wp2
      go_ret
      exact ⟨rfl, rfl⟩

/-- What insert leaves. -/
def AfterI (W : World) (R : Nat) (a : Option Addr) (m c : Nat) (ta : Option Addr) (tn tc x : Nat) (told : ByteArray) (lg : Bool) (ov : Value) (p : Nat) (tx : ByteArray) (w : World) (e : Ending) (w' : World) : Prop :=
  e = .returned (.tuple #[]) ∧ FrX R w w' ∧ ∃ told' lg', Ins told lg p tx told' lg' ∧ EwD W w' R a m c ta tn tc x told' lg' ov

set_option maxHeartbeats 4000000 in
set_option maxRecDepth 100000 in
theorem insert_any (W w : World) (R : Nat) (a : Option Addr) (m c : Nat) (ta : Option Addr) (tn tc x : Nat) (told : ByteArray) (lg : Bool) (ov : Value) (p : Nat) (tx : ByteArray) (hp : p ≤ told.size) (h4 : told.size ≤ 4000) (htx : tx.size ≤ 140737488355328) (hI : EwD W w R a m c ta tn tc x told lg ov) :
    Calls Tryz.prog 149 #[.pointer (some ⟨R, 0, none⟩), .int .i64 p, .string tx] w fun e w' => AfterI W R a m c ta tn tc x told lg ov p tx w e w' := by
  have HI := hide hI
  obtain ⟨tv, hown, hrow⟩ := hI.own
  obtain ⟨bs, cp, rfl, hc1, hc2, hbs⟩ := own8 hrow
  have HG := hide hown
  have HR := hide hrow
  unfold ewObj at hown
  have c3 : w.cell? ⟨R, 3, none⟩ = some (.slice bs told.size cp) := by simp [World.cell?, hown]
  have c4 : w.cell? ⟨R, 4, none⟩ = some (.bool lg) := by simp [World.cell?, hown]
  have f3 : w.frozen? ⟨R, 3, none⟩ = false := by simp [World.frozen?, hown]
  have f4 : w.frozen? ⟨R, 4, none⟩ = false := by simp [World.frozen?, hown]
  have hRl : R < w.heap.size := lt_of_cell c3
  clear hown hrow
  cases lg with
  | true =>
    clear hI
    go_enter Tryz.func149, Tryz.ntmps149
    go_wp2
    go_returns
    exact ⟨rfl, FrX.set _ _, told, true, .inl ⟨.inl rfl, rfl, rfl⟩, HI.out.setLong _⟩
  | false =>
    clear hI
    by_cases hz : told.size + tx.size ≤ 4000
    · have hzb : decide ((4000 : Int) - (told.size : Int) < (tx.size : Int)) = false := decide_eq_false (by omega)
      have hzc : ¬ ((4000 : Int) - (told.size : Int) < (tx.size : Int)) := by omega
      obtain ⟨CAP, hCAP⟩ : ∃ CAP, grownCap w tx.size 0 5 = CAP := ⟨_, rfl⟩
      have hcv := run_bytes_of_string (P := Tryz.prog) w 9 52 5 tx Tryz.underlying9 Tryz.underlying52 Tryz.underlying5
      rw [hCAP] at hcv
      have hBR : tx.size ≤ (bytesRow tx CAP).size := by
        unfold bytesRow
        rw [Array.size_append, Array.size_map]
        exact Nat.le_add_right _ _
      obtain ⟨w1, hw1⟩ : ∃ w1, w.drew.alloc (.cells (bytesRow tx CAP) 5 ((bytesRow tx CAP).size, (bytesRow tx CAP).size + 1)) = w1 := ⟨_, rfl⟩
      have hB1 : Below w.heap.size w w1 := by rw [← hw1]; exact (Below.refl _ _).drew.alloc (Nat.le_refl _) _
      have hv1 : w1.heap[w.heap.size]? = some (.cells (bytesRow tx CAP) 5 ((bytesRow tx CAP).size, (bytesRow tx CAP).size + 1)) := by rw [← hw1]; exact heap_alloc_new w.drew _
      rw [hw1] at hcv
      have HB1 := hide hB1
      have hs1 := hB1.size
      have hW1 : W.heap.size ≤ w1.heap.size := by have := HI.out.bel.size; omega
      have HR1 := hide (own_below HR.out hB1)
      have HFIN : Hid (∀ v2 w2 (t2 : ByteArray), t2 = insB told p tx → w2.ownsRow W.heap.size 5 1 v2 t2.size (bcells t2) → Below W.heap.size w1 w2 → (∀ (k : Nat) (o : Obj), (∀ A, o ≠ .cells A 5 (0, 0)) → w1.heap[k]? = some o → w2.heap[k]? = some o) →
          w2.cell? ⟨R, 3, none⟩ = some (.slice bs told.size cp) ∧ w2.frozen? ⟨R, 3, none⟩ = false ∧ R < w2.heap.size ∧ AfterI W R a m c ta tn tc x told false ov p tx w (.returned (.tuple #[])) (w2.setCell ⟨R, 3, none⟩ v2)) := fun v2 w2 t2 e1 h1 h2 h3 => by
        have hg2 : w2.heap[R]? = some (ewObj a m c ta tn tc x (.slice bs told.size cp) false ov) := h3 R _ (fun A q => by injection q with _ q _; revert q; decide) (block_below HG.out HB1.out)
        have hg3 := hg2
        unfold ewObj at hg3
        refine ⟨by simp [World.cell?, hg3], by simp [World.frozen?, hg3], row_lt hg2, rfl, ?_, t2, false, .inr ⟨rfl, hz, e1, rfl⟩, ewTold ((HI.out.bel.trans (HB1.out.mono HI.out.bel.size)).trans h2) HI.out.lo hg2 h1⟩
        exact (FrX.of_below HB1.out).trans ((⟨h2.size, fun k o _ ho hk => h3 k o ho hk⟩ : FrX R w1 w2).trans (FrX.set _ _))
      by_cases h0 : tx.size = 0
      · have HINS : Hid (Calls Tryz.prog 182 #[.slice bs told.size cp, .int .i64 p, .slice (some ⟨w.heap.size, 0, none⟩) tx.size CAP] w1 fun e w' => ∃ v2, e = .returned v2 ∧ w'.ownsRow W.heap.size 5 1 v2 (insB told p tx).size (bcells (insB told p tx)) ∧ Below W.heap.size w1 w' ∧ ∀ (k : Nat) (o : Obj), (∀ A, o ≠ .cells A 5 (0, 0)) → w1.heap[k]? = some o → w'.heap[k]? = some o) := by
          rw [h0]
          refine (ins_none bs told.size cp p w.heap.size CAP w1 hbs hp hc1 hc2 (fun q => ?_)).mono ?_
          · subst q
            rcases HR.out.2 with ⟨h, h'⟩ | ⟨g, _, _, h, _⟩
            · injection h with _ _ h; exact ⟨h', h⟩
            · injection h with h; cases h
          · rintro e w' ⟨rfl, rfl⟩
            have e1 : insB told p tx = told := by
              have hb := bcells_ins told tx hp
              have hn : tx = noB := by
                apply ByteArray.ext
                exact Array.eq_empty_of_size_eq_zero h0
              unfold insB
              rw [hn, app_noB]
              apply ByteArray.ext
              apply Array.toList_inj.1
              rw [ByteArray.data_append, Array.toList_append, Lib.extract_data, Lib.extract_data, List.drop_zero, Nat.sub_zero, List.take_of_length_le (l := List.drop p told.data.toList) (by rw [List.length_drop]; exact Nat.le_refl _), List.take_append_drop]
            rw [e1]
            exact ⟨_, rfl, HR1.out, Below.refl _ _, fun _ _ _ h => h⟩
        clear hv1 hB1 hs1 hW1 hw1 hbs h0
        go_enter Tryz.func149, Tryz.ntmps149
        go_wp2_with fail
        refine HINS.out.mono ?_
        rintro e w2 ⟨v2, rfl, ho2, hb2, hf2⟩
        obtain ⟨d3, q3, hR2, hA⟩ := HFIN.out v2 w2 _ rfl ho2 hb2 hf2
        obtain ⟨bs2, cp2, rfl, _, _, _⟩ := own8 ho2
        have HA := hide hA
        clear ho2 hb2 hf2 hA
        go_wp2
        go_returns
        exact HA.out
      · have HINS : Hid (Calls Tryz.prog 182 #[.slice bs told.size cp, .int .i64 p, .slice (some ⟨w.heap.size, 0, none⟩) tx.size CAP] w1 fun e w' => ∃ v2, e = .returned v2 ∧ w'.ownsRow W.heap.size 5 1 v2 (insB told p tx).size (bcells (insB told p tx)) ∧ Below W.heap.size w1 w' ∧ ∀ (k : Nat) (o : Obj), (∀ A, o ≠ .cells A 5 (0, 0)) → w1.heap[k]? = some o → w'.heap[k]? = some o) := by
          rw [insB_size tx hp, ← bcells_ins told tx hp]
          exact ins_any W.heap.size _ told.size p w.heap.size tx.size CAP (bcells told) (bcells tx) (bytesRow tx CAP) _ w1 HR1.out hp (by omega) (by omega) hW1 hv1 (by show 0 < (bytesRow tx CAP).size; omega) (row_take tx CAP) (bcells_len tx) (bcells_one told) (bcells_one tx)
        clear hv1 hB1 hs1 hW1 hw1 hbs h0
        go_enter Tryz.func149, Tryz.ntmps149
        go_wp2_with fail
        refine HINS.out.mono ?_
        rintro e w2 ⟨v2, rfl, ho2, hb2, hf2⟩
        obtain ⟨d3, q3, hR2, hA⟩ := HFIN.out v2 w2 _ rfl ho2 hb2 hf2
        obtain ⟨bs2, cp2, rfl, _, _, _⟩ := own8 ho2
        have HA := hide hA
        clear ho2 hb2 hf2 hA
        go_wp2
        go_returns
        exact HA.out
    · have hzb : decide ((4000 : Int) - (told.size : Int) < (tx.size : Int)) = true := decide_eq_true (by omega)
      have hzc : (4000 : Int) - (told.size : Int) < (tx.size : Int) := by omega
      go_enter Tryz.func149, Tryz.ntmps149
      go_wp2
      go_returns
      exact ⟨rfl, FrX.set _ _, told, true, .inl ⟨.inr (by omega), rfl, rfl⟩, HI.out.setLong _⟩
end Go.Proofs.YtkkicodfpekbgaaGreatDoor

/-! What writing is reckoned by, and what the writers of the document and of the program share: plain mathematics. -/
namespace Go.Proofs.YtkkicodfpekbgaaGreatDoor
set_option linter.unusedSimpArgs false
set_option linter.unusedVariables false
open Go.RowKit

/-- What the writer writes by: the schema is right, both lie in memory, and the bytes are not too many. -/
structure WC (E : WEnv) (W : World) (a ta : Option Addr) : Prop where
  sch : Sch W a E.s
  right : RightP E.s
  sok : SchOk E.s
  ok : ∀ k t, E.ok k t = true ↔ ContentOk k t
  tree : ∀ j, j < E.t.length → ∃ g o, ta = some ⟨g, o, none⟩ ∧ W.cell? ⟨g, o + j * 4, none⟩ = some (.int .i64 (vl E.t j).kind) ∧ W.cell? ⟨g, o + j * 4 + 1, none⟩ = some (.string (vl E.t j).text) ∧ W.cell? ⟨g, o + j * 4 + 2, none⟩ = some (.int .i64 (vl E.t j).alt) ∧ W.cell? ⟨g, o + j * 4 + 3, none⟩ = some (.int .i64 (vl E.t j).kids)
  size : pz E.t E.t.length ≤ 16777000
  kids : ∀ j, j < E.t.length → (vl E.t j).kids ≤ 9223372036854775807
theorem pz_mono {t : List Vl} {x y : Nat} (h : x ≤ y) (hy : y ≤ t.length) : pz t x ≤ pz t y := by
  induction y with
  | zero => obtain rfl : x = 0 := by omega
            exact Nat.le_refl _
  | succ y ih =>
    by_cases e : x = y + 1
    · rw [e]; exact Nat.le_refl _
    · have := ih (by omega) (by omega)
      have := pz_succ (t := t) (x := y) (by omega)
      omega
/-- What writing comes to, by what came of the root's node. -/
def encR (r : WOut) (n : Nat) : Except Int ByteArray :=
  match r with
  | none => .error 11
  | some (b, x, u) => if x < n then .error 11 else if 4000 < b.size then .error 2 else if u = true then .error 8 else .ok b
/-- What Encode comes to. -/
def EncV (E : WEnv) (s : List Nd) (root : Int) (t : List Vl) (v : Except Int ByteArray) : Prop :=
  (¬ (RightP s ∧ 0 ≤ root ∧ root < s.length) ∧ v = .error 1) ∨
  ((RightP s ∧ 0 ≤ root ∧ root < s.length) ∧ E.s = s ∧ E.t = t ∧ (∀ k u, E.ok k u = true ↔ ContentOk k u) ∧ ∃ f r, wrF E f root.toNat 0 1 = some r ∧ v = encR r t.length)
/-- There is one. -/
theorem encV_ex (s : List Nd) (root : Int) (t : List Vl) : ∃ E v, EncV E s root t v := by
  have hk : ∃ ok : Int → ByteArray → Bool, ∀ k t, ok k t = true ↔ ContentOk k t :=
    ⟨fun k t => @decide (ContentOk k t) (Classical.propDecidable _), fun k t => by simp⟩
  obtain ⟨ok, hk⟩ := hk
  by_cases h : RightP s ∧ 0 ≤ root ∧ root < s.length
  · obtain ⟨r, hr⟩ := wrF_some (E := ⟨s, t, ok⟩) (t.length + 1) root.toNat 0 1 (by show t.length + 1 ≤ _; omega) (by omega)
    exact ⟨⟨s, t, ok⟩, _, .inr ⟨h, rfl, rfl, hk, t.length + 1, r, hr, rfl⟩⟩
  · exact ⟨⟨s, t, ok⟩, _, .inl ⟨h, rfl⟩⟩
/-- What the calls answer. -/
def RetEnc (v : Except Int ByteArray) (w : World) (e : Ending) (w' : World) : Prop :=
  Below w.heap.size w w' ∧
  match v with
  | .error k => e = .returned (.tuple #[.string ⟨#[]⟩, .int .i64 k])
  | .ok b => e = .returned (.tuple #[.string b, .int .i64 0])
/-- A tree in memory. -/
def TreeIn (w : World) (ta : Option Addr) (t : List Vl) : Prop := ∀ j, j < t.length → ∃ g o, ta = some ⟨g, o, none⟩ ∧ w.cell? ⟨g, o + j * 4, none⟩ = some (.int .i64 (vl t j).kind) ∧ w.cell? ⟨g, o + j * 4 + 1, none⟩ = some (.string (vl t j).text) ∧ w.cell? ⟨g, o + j * 4 + 2, none⟩ = some (.int .i64 (vl t j).alt) ∧ w.cell? ⟨g, o + j * 4 + 3, none⟩ = some (.int .i64 (vl t j).kids)
theorem TreeIn.below {w w' : World} {ta : Option Addr} {t : List Vl} (h : TreeIn w ta t) (hb : Below w.heap.size w w') : TreeIn w' ta t := fun j hj => by
  obtain ⟨g, o, e, h1, h2, h3, h4⟩ := h j hj
  exact ⟨g, o, e, (hb.cell (lt_of_cell h1)).trans h1, (hb.cell (lt_of_cell h2)).trans h2, (hb.cell (lt_of_cell h3)).trans h3, (hb.cell (lt_of_cell h4)).trans h4⟩
end Go.Proofs.YtkkicodfpekbgaaGreatDoor

/-! The program's writer: what its methods leave, by what writing comes to. -/
namespace Go.Proofs.YtkkicodfpekbgaaGreatDoor
set_option linter.unusedSimpArgs false
set_option linter.unusedVariables false
open Go.RowKit

/-- The first error of order, as a value. -/
def ovV (sn : Sn → Addr) : Option Int → Value
  | none => .nilIface
  | some p => fault p (sn .Order)
/-- What stays while the writer works. -/
structure EC (E : WEnv) (W : World) (a ta : Option Addr) (sn : Sn → Addr) : Prop where
  wc : WC E W a ta
  lay : Lay W sn
theorem EC.txt {E : WEnv} {W : World} {a ta : Option Addr} {sn : Sn → Addr} (h : EC E W a ta sn) {j : Nat} (hj : j < E.t.length) : (vl E.t j).text.size ≤ 16777000 := by
  have h1 := pz_succ hj
  have h2 := pz_mono (t := E.t) (x := j + 1) (y := E.t.length) hj (Nat.le_refl _)
  have h3 := h.wc.size
  omega
theorem EC.len {E : WEnv} {W : World} {a ta : Option Addr} {sn : Sn → Addr} (h : EC E W a ta sn) : E.t.length ≤ 16777000 := by
  have h3 := h.wc.size
  unfold pz at h3
  omega
/-- What a method leaves: the bytes are told, or there is no tree. -/
def AfterE (E : WEnv) (W : World) (R : Nat) (a : Option Addr) (c : Nat) (ta : Option Addr) (tc : Nat) (sn : Sn → Addr) (r : WOut) (t0 : ByteArray) (l0 : Bool) (o0 : Option Int) (w : World) (e : Ending) (w' : World) : Prop :=
  FrE R w w' ∧ ((∃ b x u t1 l1 o1, r = some (b, x, u) ∧ e = .returned .nilIface ∧ Tld t0 l0 o0 b u t1 l1 o1 ∧ EwD W w' R a E.s.length c ta E.t.length tc x t1 l1 (ovV sn o1)) ∨
    (r = none ∧ ∃ (p : Int) (x : Nat) (t1 : ByteArray) (l1 : Bool) (ov : Value), e = .returned (fault p (sn .Tree)) ∧ EwD W w' R a E.s.length c ta E.t.length tc x t1 l1 ov))
theorem AfterE.of {E : WEnv} {W : World} {R : Nat} {a : Option Addr} {c : Nat} {ta : Option Addr} {tc : Nat} {sn : Sn → Addr} {r : WOut} {t0 : ByteArray} {l0 : Bool} {o0 : Option Int} {w w1 w' : World} {e : Ending} (h : AfterE E W R a c ta tc sn r t0 l0 o0 w1 e w') (hf : FrE R w w1) : AfterE E W R a c ta tc sn r t0 l0 o0 w e w' := ⟨hf.trans h.1, h.2⟩
/-- What value answers, with so much fuel. -/
def NodeE (E : WEnv) (W : World) (R : Nat) (a : Option Addr) (c : Nat) (ta : Option Addr) (tc : Nat) (sn : Sn → Addr) (f : Nat) : Prop :=
  ∀ (i x : Nat) (dp : Int) (r : WOut) (t0 : ByteArray) (l0 : Bool) (o0 : Option Int) (w : World), wrF E f i x dp = some r → i < E.s.length → x ≤ E.t.length → E.t.length + 1 ≤ f + x → 1 ≤ f → 1 ≤ dp → dp ≤ 13 → t0.size ≤ 4000 →
    EwD W w R a E.s.length c ta E.t.length tc x t0 l0 (ovV sn o0) →
    Calls Tryz.prog 75 #[.pointer (some ⟨R, 0, none⟩), .int .i64 i, .int .i64 dp] w fun e w' => AfterE E W R a c ta tc sn r t0 l0 o0 w e w'
end Go.Proofs.YtkkicodfpekbgaaGreatDoor

/-! The program's writer: leftOut. -/
namespace Go.Proofs.YtkkicodfpekbgaaGreatDoor
set_option linter.unusedSimpArgs false
set_option linter.unusedVariables false
open Go.RowKit

/-- A step of a region that draws: a call under a guard that is met, by its contract. -/
theorem step_callsG {P : Program} {ops : Array Oper} {o : Oper} {a : Act} {w : World} {K : Act → World → Prop} {Q : Exit → Act → World → Prop} {E : Prop} (hw : Region.wanted o (yielded ops a.tmps) = true) (f : FuncId) (args : Array Operand) (tys : Array TypeId)
    (ho : o.op = .call { callee := .value (.func f), args := args, argTypes := tys }) (vals : Array Value) (hv : args.map a.eval = vals) (v : Value) (S : World → Prop)
    (hrun : (callFunc f vals).run P w = .ok (.enter f vals) w)
    (hc : Calls P f vals w fun e w' => e = .returned v ∧ S w') (hk : ∀ w', S w' → K (a.put o.dst v) w') : if Region.wanted o (yielded ops a.tmps) = true then Oper.wp P o a w K Q else E := by
  rw [if_pos hw]
  unfold Oper.wp
  simp only [execOp, ho, resolve, invoke]
  simp [Act.eval, Deferred.ofValue, hv, hrun, Oper.upon_enter]
  exact hc.mono fun e w' ⟨h1, h2⟩ => by subst h1; exact hk w' h2

/-- What leftOut leaves. -/
def AfterLO (E : WEnv) (W : World) (R : Nat) (a : Option Addr) (c : Nat) (ta : Option Addr) (tc : Nat) (k : Kd) (x : Nat) (t1 : ByteArray) (l1 : Bool) (ov : Value) (w : World) (e : Ending) (w' : World) : Prop :=
  FrE R w w' ∧ ((LO E k x ∧ e = .returned (.bool true) ∧ EwD W w' R a E.s.length c ta E.t.length tc (x + 1) t1 l1 ov) ∨ (¬ LO E k x ∧ e = .returned (.bool false) ∧ EwD W w' R a E.s.length c ta E.t.length tc x t1 l1 ov))

set_option maxHeartbeats 8000000 in
set_option maxRecDepth 100000 in
theorem leftOut_any (E : WEnv) (W : World) (R : Nat) (a : Option Addr) (c : Nat) (ta : Option Addr) (tc : Nat) (sn : Sn → Addr) (hc : EC E W a ta sn) (htc : E.t.length ≤ tc) (i : Nat) (hi : i < E.s.length) (k : Kd) (hk : k ∈ (nd E.s i).kids) (x : Nat) (t1 : ByteArray) (l1 : Bool) (ov : Value) (w : World) (hx : x ≤ E.t.length) (hI : EwD W w R a E.s.length c ta E.t.length tc x t1 l1 ov) :
    Calls Tryz.prog 183 #[.pointer (some ⟨R, 0, none⟩), .agg #[.int .i64 k.node, .bool k.opt, .string k.dflt]] w fun e w' => AfterLO E W R a c ta tc k x t1 l1 ov w e w' := by
  have HC := hide hc
  have HI := hide hI
  have hlen := hc.len
  have hwn := hc.wc.right.fine.within i hi k hk
  obtain ⟨j, hj, hjk⟩ := kidOf hk
  have hKid := (hc.wc.right.2.2.1 i hi).2.2.2 j hj
  have hDf := (hc.wc.right.2.2.2.2 i hi).2 j hj
  rw [hjk] at hKid hDf
  obtain ⟨t, ht⟩ : ∃ t : Nat, k.node = t := ⟨k.node.toNat, by omega⟩
  have htn : k.node.toNat = t := by omega
  have htl : t < E.s.length := by omega
  rw [htn] at hDf
  have hod := hKid.2.2.2
  have hyz := hc.wc.sok i hi k hk
  have HLO : Hid (LO E k x ↔ x < E.t.length ∧ ((k.opt = true ∧ vl E.t x = ⟨15, noB, 0, 0⟩) ∨ (k.dflt.size ≠ 0 ∧ ∃ u, ElemOk (nd E.s t) k.dflt u ∧ vl E.t x = ⟨(nd E.s t).kind, u, 0, 0⟩))) := by
    unfold LO
    rw [htn]
    exact Iff.rfl
  obtain ⟨tv, hown, _⟩ := hI.own
  unfold ewObj at hown
  have c1 : w.cell? ⟨R, 1, none⟩ = some (.slice ta E.t.length tc) := by simp [World.cell?, hown]
  have hRl : R < w.heap.size := lt_of_cell c1
  rw [ht]
  have hB1 : Below w.heap.size w (w.alloc (.cells #[.int .i64 t, .bool k.opt, .string k.dflt] 55)) := (Below.refl _ _).alloc (Nat.le_refl _) _
  have hG1 : (w.alloc (.cells #[.int .i64 t, .bool k.opt, .string k.dflt] 55)).heap[w.heap.size]? = some (.cells #[.int .i64 t, .bool k.opt, .string k.dflt] 55 (0, 0)) := heap_alloc_new w _
  clear hI hown hc hwn hj hjk hKid hk c1 htn ht
  go_enter Tryz.func183, Tryz.ntmps183
  go_upto_region 1 with fail
  obtain ⟨kb, hkb⟩ : ∃ kb, w.heap.size = kb := ⟨_, rfl⟩
  rw [hkb] at hG1 ⊢
  generalize w.alloc (.cells #[.int .i64 t, .bool k.opt, .string k.dflt] 55) = w1 at hB1 hG1 ⊢
  have hneK : kb ≠ R := by omega
  have HB1 := hide hB1
  have HG1 := hide hG1
  have HI1 := hide (HI.out.below hB1)
  obtain ⟨tv, hown, _⟩ := HI1.out.own
  unfold ewObj at hown
  have d1 : w1.cell? ⟨R, 1, none⟩ = some (.slice ta E.t.length tc) := by simp [World.cell?, hown]
  have d2 : w1.cell? ⟨R, 2, none⟩ = some (.int .i64 (x : Int)) := by simp [World.cell?, hown]
  have hR1 : R < w1.heap.size := lt_of_cell d1
  have hxb : x < E.t.length ∨ x = E.t.length := by omega
  clear hB1 hG1 hown
  rcases hxb with hx3 | hx3
  · have hx3' : (x : Int) < (E.t.length : Int) := by omega
    have hxb : ((x : Int) == (E.t.length : Int)) = false := by simp; omega
    have hxb2 : decide ((x : Int) = (E.t.length : Int)) = false := decide_eq_false (by omega)
    go_quiet (fail)
    have HI2 := hide (HI1.out.below (Go.below_drewN (Below.refl w1.heap.size w1) nq))
    have HG2 := hide (block_below HG1.out (Go.below_drewN (Below.refl w1.heap.size w1) nq))
    have HB2 : Hid (Below w.heap.size w (w1.drewN nq)) := Go.below_drewN HB1.out nq
    generalize w1.drewN nq = w2 at HI2 HG2 HB2 ⊢
    clear d1 d2 hR1
    obtain ⟨g, o, hta, p0, p1, p2, p3⟩ := HC.out.wc.tree x hx3
    have hbW := HI2.out.bel
    have m0 : w2.cell? ⟨g, o + x * 4, none⟩ = some (.int .i64 (vl E.t x).kind) := (hbW.cell (lt_of_cell p0)).trans p0
    have m1 : w2.cell? ⟨g, o + x * 4 + 1, none⟩ = some (.string (vl E.t x).text) := (hbW.cell (lt_of_cell p1)).trans p1
    have m2 : w2.cell? ⟨g, o + x * 4 + 2, none⟩ = some (.int .i64 (vl E.t x).alt) := (hbW.cell (lt_of_cell p2)).trans p2
    have m3 : w2.cell? ⟨g, o + x * 4 + 3, none⟩ = some (.int .i64 (vl E.t x).kids) := (hbW.cell (lt_of_cell p3)).trans p3
    have hlG := lt_of_cell m0
    simp only at hlG
    obtain ⟨tv, hown, _⟩ := HI2.out.own
    unfold ewObj at hown
    have d1 : w2.cell? ⟨R, 1, none⟩ = some (.slice (some ⟨g, o, none⟩) E.t.length tc) := by rw [← hta]; simp [World.cell?, hown]
    have d2 : w2.cell? ⟨R, 2, none⟩ = some (.int .i64 (x : Int)) := by simp [World.cell?, hown]
    have hR2 : R < w2.heap.size := lt_of_cell d1
    obtain ⟨v, hv⟩ : ∃ v, vl E.t x = v := ⟨_, rfl⟩
    have HV := hide hv
    rw [hv] at m0 m1 m2 m3
    have hx0 : 0 ≤ (x : Int) := by omega
    clear hown hbW p0 p1 p2 p3 hv hta
    go_wp2_with fail
    have HST : Hid (∀ wq, Below w2.heap.size w2 wq → wq.cell? ⟨R, 1, none⟩ = some (.slice (some ⟨g, o, none⟩) E.t.length tc) ∧ wq.cell? ⟨R, 2, none⟩ = some (.int .i64 (x : Int)) ∧ wq.cell? ⟨g, o + x * 4, none⟩ = some (.int .i64 v.kind) ∧ wq.cell? ⟨g, o + x * 4 + 1, none⟩ = some (.string v.text) ∧ wq.cell? ⟨g, o + x * 4 + 2, none⟩ = some (.int .i64 v.alt) ∧ wq.cell? ⟨g, o + x * 4 + 3, none⟩ = some (.int .i64 v.kids)) := fun wq q =>
      ⟨(q.cell (lt_of_cell d1)).trans d1, (q.cell (lt_of_cell d2)).trans d2, (q.cell (lt_of_cell m0)).trans m0, (q.cell (lt_of_cell m1)).trans m1, (q.cell (lt_of_cell m2)).trans m2, (q.cell (lt_of_cell m3)).trans m3⟩
    go_region_held_law (fun w' => w'.cell? ⟨R, 1, none⟩ = some (.slice (some ⟨g, o, none⟩) E.t.length tc) ∧ w'.cell? ⟨R, 2, none⟩ = some (.int .i64 (x : Int)) ∧ w'.cell? ⟨g, o + x * 4, none⟩ = some (.int .i64 v.kind) ∧ w'.cell? ⟨g, o + x * 4 + 1, none⟩ = some (.string v.text) ∧ w'.cell? ⟨g, o + x * 4 + 2, none⟩ = some (.int .i64 v.alt) ∧ w'.cell? ⟨g, o + x * 4 + 3, none⟩ = some (.int .i64 v.kids)) (first | exact HST.out _ (Below.refl _ _).drew | exact HST.out _ ((Below.refl _ _).drew.alloc (by simp) _) | go_keep) (fail)
    rename_i hHeld
    clear hHeld
    have hB3 : Below w2.heap.size w2 (w2.alloc (.cells #[.int .i64 v.kind, .string v.text, .int .i64 v.alt, .int .i64 v.kids] 60)).drew := ((Below.refl _ _).alloc (Nat.le_refl _) _).drew
    have hG3 : (w2.alloc (.cells #[.int .i64 v.kind, .string v.text, .int .i64 v.alt, .int .i64 v.kids] 60)).drew.heap[w2.heap.size]? = some (.cells #[.int .i64 v.kind, .string v.text, .int .i64 v.alt, .int .i64 v.kids] 60 (0, 0)) := heap_alloc_new w2 _
    obtain ⟨vb, hvb⟩ : ∃ vb, w2.heap.size = vb := ⟨_, rfl⟩
    rw [hvb] at hG3 ⊢
    generalize (w2.alloc (.cells #[.int .i64 v.kind, .string v.text, .int .i64 v.alt, .int .i64 v.kids] 60)).drew = w3 at hB3 hG3 ⊢
    have HI3 := hide (HI2.out.below hB3)
    have HW3 : Hid (Below w.heap.size w w3) := HB2.out.trans (hB3.mono HB2.out.size)
    have hk3 := block_below HG2.out hB3
    have e1 : w3.cell? ⟨kb, 0, none⟩ = some (.int .i64 t) := cell_of_row hk3 rfl
    have e2 : w3.cell? ⟨kb, 1, none⟩ = some (.bool k.opt) := cell_of_row hk3 rfl
    have e3 : w3.cell? ⟨kb, 2, none⟩ = some (.string k.dflt) := cell_of_row hk3 rfl
    have v0 : w3.cell? ⟨vb, 0, none⟩ = some (.int .i64 v.kind) := cell_of_row hG3 rfl
    have v1 : w3.cell? ⟨vb, 1, none⟩ = some (.string v.text) := cell_of_row hG3 rfl
    have v2 : w3.cell? ⟨vb, 2, none⟩ = some (.int .i64 v.alt) := cell_of_row hG3 rfl
    have v3 : w3.cell? ⟨vb, 3, none⟩ = some (.int .i64 v.kids) := cell_of_row hG3 rfl
    obtain ⟨tv3, hown3, _⟩ := HI3.out.own
    unfold ewObj at hown3
    have e0 : w3.cell? ⟨R, 0, none⟩ = some (.slice a E.s.length c) := by simp [World.cell?, hown3]
    have hl0 := lt_of_cell e0
    have hl1 := row_lt hk3
    have hl2 := row_lt hG3
    simp only at hl0
    have hwx : IntKind.i64.wrap ((x : Int) + 1) = (x : Int) + 1 := by rw [IntKind.wrap_i64]; omega
    clear hB3 hG3 hvb hk3 hown3 d1 d2 m0 m1 m2 m3 hlG hR2 HST HI2 HG2 HB2
    go_wp2_with fail
    by_cases hopt : k.opt = true
    · have hd0 : k.dflt.size = 0 := by
        apply Classical.byContradiction
        intro q
        exact hod ⟨hopt, q⟩
      rw [hopt] at e2
      have hem := emp_t hd0
      have HNO : Hid (vl E.t x ≠ ⟨15, noB, 0, 0⟩ → ¬ LO E k x) := fun q z => by
        rcases (HLO.out.1 z).2 with h | h
        · exact q h.2
        · exact h.1 hd0
      clear hd0
      by_cases q1 : v.kind = 15
      · rw [q1] at v0
        by_cases q2 : v.text.size = 0
        · rw [noB_of q2] at v1
          unfold noB at v1
          by_cases q3 : v.alt = 0
          · rw [q3] at v2
            by_cases q4 : v.kids = 0
            · rw [q4] at v3
              have hvv : v = ⟨15, noB, 0, 0⟩ := by
                obtain ⟨va, vb2, vc, vd⟩ := v
                simp only at q1 q2 q3 q4
                rw [q1, noB_of q2, q3, q4]
              have HVV := hide hvv
              clear hvv q1 q2 q3 q4
              have HWHY : Hid (LO E k x) := HLO.out.2 ⟨hx3, .inl ⟨hopt, HV.out.trans HVV.out⟩⟩
              go_quiet (fail)
              clear e0 e1 e2 e3 v0 v1 v2 v3
              have HI4 := hide (HI3.out.below (Go.below_drewN (Below.refl _ _) nq))
              have HW4 : Hid (Below w.heap.size w (w3.drewN nq)) := Go.below_drewN HW3.out nq
              generalize w3.drewN nq = w4 at HI4 HW4 ⊢
              obtain ⟨tv4, hown4, _⟩ := HI4.out.own
              unfold ewObj at hown4
              have n2 : w4.cell? ⟨R, 2, none⟩ = some (.int .i64 (x : Int)) := by simp [World.cell?, hown4]
              have f2 : w4.frozen? ⟨R, 2, none⟩ = false := by simp [World.frozen?, hown4]
              have hR4 : R < w4.heap.size := lt_of_cell n2
              clear hown4
              go_wp2
              go_ret
              exact ⟨(FrE.of_below HW4.out).trans (FrE.set 2 _), .inl ⟨HWHY.out, rfl, HI4.out.setNext (x + 1)⟩⟩
            · have q4b : (v.kids == 0) = false := by simpa using q4
              have Q4 := hide q4
              clear q1 q2 q3 q4
              have HWHY : Hid (¬ LO E k x) := HNO.out (fun z => Q4.out (by rw [← HV.out, z]))
              go_quiet (fail)
              clear e0 e1 e2 e3 v0 v1 v2 v3
              have HI4 := hide (HI3.out.below (Go.below_drewN (Below.refl _ _) nq))
              have HW4 : Hid (Below w.heap.size w (w3.drewN nq)) := Go.below_drewN HW3.out nq
              generalize w3.drewN nq = w4 at HI4 HW4 ⊢
              go_wp2
              go_ret
              exact ⟨FrE.of_below HW4.out, .inr ⟨HWHY.out, rfl, HI4.out⟩⟩
          · have q3b : (v.alt == 0) = false := by simpa using q3
            have Q3 := hide q3
            clear q1 q2 q3
            have HWHY : Hid (¬ LO E k x) := HNO.out (fun z => Q3.out (by rw [← HV.out, z]))
            go_quiet (fail)
            clear e0 e1 e2 e3 v0 v1 v2 v3
            have HI4 := hide (HI3.out.below (Go.below_drewN (Below.refl _ _) nq))
            have HW4 : Hid (Below w.heap.size w (w3.drewN nq)) := Go.below_drewN HW3.out nq
            generalize w3.drewN nq = w4 at HI4 HW4 ⊢
            go_wp2
            go_ret
            exact ⟨FrE.of_below HW4.out, .inr ⟨HWHY.out, rfl, HI4.out⟩⟩
        · have q2b := emp_f (t := v.text) (by omega)
          have Q2 := hide q2
          clear q1 q2
          have HWHY : Hid (¬ LO E k x) := HNO.out (fun z => Q2.out (by rw [← HV.out, z]; rfl))
          go_quiet (fail)
          clear e0 e1 e2 e3 v0 v1 v2 v3
          have HI4 := hide (HI3.out.below (Go.below_drewN (Below.refl _ _) nq))
          have HW4 : Hid (Below w.heap.size w (w3.drewN nq)) := Go.below_drewN HW3.out nq
          generalize w3.drewN nq = w4 at HI4 HW4 ⊢
          go_wp2
          go_ret
          exact ⟨FrE.of_below HW4.out, .inr ⟨HWHY.out, rfl, HI4.out⟩⟩
      · have q1b : (v.kind == 15) = false := by simpa using q1
        have Q1 := hide q1
        clear q1
        have HWHY : Hid (¬ LO E k x) := HNO.out (fun z => Q1.out (by rw [← HV.out, z]))
        go_quiet (fail)
        clear e0 e1 e2 e3 v0 v1 v2 v3
        have HI4 := hide (HI3.out.below (Go.below_drewN (Below.refl _ _) nq))
        have HW4 : Hid (Below w.heap.size w (w3.drewN nq)) := Go.below_drewN HW3.out nq
        generalize w3.drewN nq = w4 at HI4 HW4 ⊢
        go_wp2
        go_ret
        exact ⟨FrE.of_below HW4.out, .inr ⟨HWHY.out, rfl, HI4.out⟩⟩
    · have hopt' : k.opt = false := by simpa using hopt
      rw [hopt'] at e2
      by_cases hd : k.dflt.size = 0
      · have hem := emp_t hd
        have HWHY : Hid (¬ LO E k x) := (fun z => by rcases (HLO.out.1 z).2 with h | h; exact hopt h.1; exact h.1 hd)
        go_quiet (fail)
        clear e0 e1 e2 e3 v0 v1 v2 v3
        have HI4 := hide (HI3.out.below (Go.below_drewN (Below.refl _ _) nq))
        have HW4 : Hid (Below w.heap.size w (w3.drewN nq)) := Go.below_drewN HW3.out nq
        generalize w3.drewN nq = w4 at HI4 HW4 ⊢
        go_wp2
        go_ret
        exact ⟨FrE.of_below HW4.out, .inr ⟨HWHY.out, rfl, HI4.out⟩⟩
      · have hem := emp_f (t := k.dflt) (by omega)
        obtain ⟨hk9, u, hu⟩ : (nd E.s t).kind ≤ 9 ∧ ∃ u, ElemOk (nd E.s t) k.dflt u := by
          rcases hDf with h | h
          · exact absurd h hd
          · exact h
        have HDF : Hid (∀ wq, Below W.heap.size W wq → Calls Tryz.prog 202 #[.slice a E.s.length c, .agg #[.int .i64 t, .bool false, .string k.dflt]] wq fun e w' => e = .returned (.agg #[.int .i64 (nd E.s t).kind, .string u, .int .i64 0, .int .i64 0]) ∧ Below wq.heap.size wq w') := fun wq q => default_any E.s a c t false k.dflt u wq sn (HC.out.lay.below q) (HC.out.wc.sch.below q) HC.out.wc.right htl hk9 hu (by omega)
        have HU := hide hu
        have HNO : Hid (vl E.t x ≠ ⟨(nd E.s t).kind, u, 0, 0⟩ → ¬ LO E k x) := fun q z => by
          rcases (HLO.out.1 z).2 with h | ⟨_, u', hu', h⟩
          · exact hopt h.1
          · rw [elem_one hu' HU.out] at h; exact q h
        obtain ⟨KK, hKK⟩ : ∃ KK, (nd E.s t).kind = KK := ⟨_, rfl⟩
        have HKK := hide hKK
        rw [hKK] at HDF HNO
        clear hKK hu hk9
        have RUN : Hid (∀ args w, (callFunc 202 args).run Tryz.prog w = .ok (.enter 202 args) w) := fun args w => run_enter Tryz.func202 (by kernel_rfl) (by rfl) args w
        have HST : Hid (∀ wq, Below w3.heap.size w3 wq → wq.cell? ⟨R, 0, none⟩ = some (.slice a E.s.length c) ∧ wq.cell? ⟨kb, 0, none⟩ = some (.int .i64 t) ∧ wq.cell? ⟨kb, 1, none⟩ = some (.bool false) ∧ wq.cell? ⟨kb, 2, none⟩ = some (.string k.dflt) ∧ wq.cell? ⟨vb, 0, none⟩ = some (.int .i64 v.kind) ∧ wq.cell? ⟨vb, 1, none⟩ = some (.string v.text) ∧ wq.cell? ⟨vb, 2, none⟩ = some (.int .i64 v.alt) ∧ wq.cell? ⟨vb, 3, none⟩ = some (.int .i64 v.kids)) := fun wq q => ⟨(q.cell (lt_of_cell e0)).trans e0, (q.cell (lt_of_cell e1)).trans e1, (q.cell (lt_of_cell e2)).trans e2, (q.cell (lt_of_cell e3)).trans e3, (q.cell (lt_of_cell v0)).trans v0, (q.cell (lt_of_cell v1)).trans v1, (q.cell (lt_of_cell v2)).trans v2, (q.cell (lt_of_cell v3)).trans v3⟩
        refine wp_region_held_drew (S := (fun w' => w'.cell? ⟨R, 0, none⟩ = some (.slice a E.s.length c) ∧ w'.cell? ⟨kb, 0, none⟩ = some (.int .i64 t) ∧ w'.cell? ⟨kb, 1, none⟩ = some (.bool false) ∧ w'.cell? ⟨kb, 2, none⟩ = some (.string k.dflt) ∧ w'.cell? ⟨vb, 0, none⟩ = some (.int .i64 v.kind) ∧ w'.cell? ⟨vb, 1, none⟩ = some (.string v.text) ∧ w'.cell? ⟨vb, 2, none⟩ = some (.int .i64 v.alt) ∧ w'.cell? ⟨vb, 3, none⟩ = some (.int .i64 v.kids))) (by kernel_rfl) (HST.out _ (Below.refl _ _).drew) (fun hHeld => ?_)
        refine wpAnyH_take (i := 0) (v := ?_) rfl (by kernel_rfl) (by kernel_rfl) (by kernel_rfl) (fun _ _ _ h => h) (Or.inl ⟨by rfl, ?_⟩) (by assumption) ?_
        rotate_left
        · intro wz hSw; (try dsimp only at hSw); go_simp; all_goals with_reducible rfl
        try simp only [Act.put, List.getElem_toArray, List.getElem_cons_zero, List.getElem_cons_succ, List.setIfInBounds_toArray, List.set_cons_zero, List.set_cons_succ]
        refine wpAnyH_take (i := 1) (v := ?_) rfl (by kernel_rfl) (by kernel_rfl) (by kernel_rfl) (fun _ _ _ h => h) (Or.inl ⟨by rfl, ?_⟩) (by assumption) ?_
        rotate_left
        · intro wz hSw; (try dsimp only at hSw); go_simp; all_goals with_reducible rfl
        try simp only [Act.put, List.getElem_toArray, List.getElem_cons_zero, List.getElem_cons_succ, List.setIfInBounds_toArray, List.set_cons_zero, List.set_cons_succ]
        refine wpAnyH_take (i := 2) (v := ?_) rfl (by kernel_rfl) (by kernel_rfl) (by kernel_rfl) (fun _ _ _ h => h) (Or.inl ⟨by rfl, ?_⟩) (by assumption) ?_
        rotate_left
        · intro wz hSw; (try dsimp only at hSw); go_simp; all_goals with_reducible rfl
        try simp only [Act.put, List.getElem_toArray, List.getElem_cons_zero, List.getElem_cons_succ, List.setIfInBounds_toArray, List.set_cons_zero, List.set_cons_succ]
        refine wpAnyH_take (i := 3) (v := undef) rfl (by kernel_rfl) (by kernel_rfl) (by kernel_rfl) (fun _ _ _ h => h) (Or.inr ⟨by rfl, rfl⟩) (by assumption) ?_
        try simp only [Act.put, List.getElem_toArray, List.getElem_cons_zero, List.getElem_cons_succ, List.setIfInBounds_toArray, List.set_cons_zero, List.set_cons_succ]
        refine wpAnyH_take (i := 4) (v := undef) rfl (by kernel_rfl) (by kernel_rfl) (by kernel_rfl) (fun _ _ _ h => h) (Or.inr ⟨by rfl, rfl⟩) (by assumption) ?_
        try simp only [Act.put, List.getElem_toArray, List.getElem_cons_zero, List.getElem_cons_succ, List.setIfInBounds_toArray, List.set_cons_zero, List.set_cons_succ]
        refine wpAnyH_take (i := 5) (v := undef) rfl (by kernel_rfl) (by kernel_rfl) (by kernel_rfl) (fun _ _ _ h => h) (Or.inr ⟨by rfl, rfl⟩) (by assumption) ?_
        try simp only [Act.put, List.getElem_toArray, List.getElem_cons_zero, List.getElem_cons_succ, List.setIfInBounds_toArray, List.set_cons_zero, List.set_cons_succ]
        refine wpAnyH_take (i := 6) (v := ?_) rfl (by kernel_rfl) (by kernel_rfl) (by kernel_rfl) (fun _ _ _ h => h) (Or.inl ⟨by rfl, ?_⟩) (by assumption) ?_
        rotate_left
        · intro wz hSw; (try dsimp only at hSw); go_simp; all_goals with_reducible rfl
        try simp only [Act.put, List.getElem_toArray, List.getElem_cons_zero, List.getElem_cons_succ, List.setIfInBounds_toArray, List.set_cons_zero, List.set_cons_succ]
        refine wpAnyH_take (i := 7) (v := ?_) rfl (by kernel_rfl) (by kernel_rfl) (by kernel_rfl) (fun _ _ _ h => h) (Or.inl ⟨by rfl, ?_⟩) (by assumption) ?_
        rotate_left
        · intro wz hSw; (try dsimp only at hSw); go_simp; all_goals with_reducible rfl
        try simp only [Act.put, List.getElem_toArray, List.getElem_cons_zero, List.getElem_cons_succ, List.setIfInBounds_toArray, List.set_cons_zero, List.set_cons_succ]
        refine wpAnyH_take (i := 8) (v := ?_) rfl (by kernel_rfl) (by kernel_rfl) (by kernel_rfl) (fun _ _ _ h => h) (Or.inl ⟨by rfl, ?_⟩) (by assumption) ?_
        rotate_left
        · intro wz hSw; (try dsimp only at hSw); go_simp; all_goals with_reducible rfl
        try simp only [Act.put, List.getElem_toArray, List.getElem_cons_zero, List.getElem_cons_succ, List.setIfInBounds_toArray, List.set_cons_zero, List.set_cons_succ]
        refine wpAnyH_take (i := 9) (v := ?_) rfl (by kernel_rfl) (by kernel_rfl) (by kernel_rfl) (fun _ _ _ h => h) (Or.inl ⟨by rfl, ?_⟩) (by assumption) ?_
        rotate_left
        · intro wz hSw; (try dsimp only at hSw); go_simp; all_goals with_reducible rfl
        try simp only [Act.put, List.getElem_toArray, List.getElem_cons_zero, List.getElem_cons_succ, List.setIfInBounds_toArray, List.set_cons_zero, List.set_cons_succ]
        refine wpAnyH_take (i := 10) (v := ?_) rfl (by kernel_rfl) (by kernel_rfl) (by kernel_rfl) (fun _ _ _ h => h) (Or.inl ⟨by rfl, ?_⟩) (by assumption) ?_
        rotate_left
        · intro wz hSw; (try dsimp only at hSw); go_simp; all_goals with_reducible rfl
        try simp only [Act.put, List.getElem_toArray, List.getElem_cons_zero, List.getElem_cons_succ, List.setIfInBounds_toArray, List.set_cons_zero, List.set_cons_succ]
        refine wpAnyH_take (i := 11) (v := ?_) rfl (by kernel_rfl) (by kernel_rfl) (by kernel_rfl) (fun _ _ _ h => h) (Or.inl ⟨by rfl, ?_⟩) (by assumption) ?_
        rotate_left
        · intro wz hSw; (try dsimp only at hSw); go_simp; all_goals with_reducible rfl
        try simp only [Act.put, List.getElem_toArray, List.getElem_cons_zero, List.getElem_cons_succ, List.setIfInBounds_toArray, List.set_cons_zero, List.set_cons_succ]
        refine wpAnyH_take (i := 12) (v := ?_) rfl (by kernel_rfl) (by kernel_rfl) (by kernel_rfl) (fun _ _ _ h => h) (Or.inl ⟨by rfl, ?_⟩) (by assumption) ?_
        rotate_left
        · intro wz hSw; (try dsimp only at hSw); go_simp; all_goals with_reducible rfl
        try simp only [Act.put, List.getElem_toArray, List.getElem_cons_zero, List.getElem_cons_succ, List.setIfInBounds_toArray, List.set_cons_zero, List.set_cons_succ]
        refine wpAnyH_take (i := 13) (v := ?_) rfl (by kernel_rfl) (by kernel_rfl) (by kernel_rfl) (fun _ _ _ h => h) (Or.inl ⟨by rfl, ?_⟩) (by assumption) ?_
        rotate_left
        · intro wz hSw; (try dsimp only at hSw); go_simp; all_goals with_reducible rfl
        try simp only [Act.put, List.getElem_toArray, List.getElem_cons_zero, List.getElem_cons_succ, List.setIfInBounds_toArray, List.set_cons_zero, List.set_cons_succ]
        refine wpAnyH_take (i := 14) (v := ?_) rfl (by kernel_rfl) (by kernel_rfl) (by kernel_rfl) (fun _ _ _ h => h) (Or.inl ⟨by rfl, ?_⟩) (by assumption) ?_
        rotate_left
        · intro wz hSw; (try dsimp only at hSw); go_simp; all_goals with_reducible rfl
        try simp only [Act.put, List.getElem_toArray, List.getElem_cons_zero, List.getElem_cons_succ, List.setIfInBounds_toArray, List.set_cons_zero, List.set_cons_succ]
        refine wpAnyH_take (i := 15) (v := ?_) rfl (by kernel_rfl) (by kernel_rfl) (by kernel_rfl) (fun _ _ _ h => h) (Or.inl ⟨by rfl, ?_⟩) (by assumption) ?_
        rotate_left
        · intro wz hSw; (try dsimp only at hSw); go_simp; all_goals with_reducible rfl
        try simp only [Act.put, List.getElem_toArray, List.getElem_cons_zero, List.getElem_cons_succ, List.setIfInBounds_toArray, List.set_cons_zero, List.set_cons_succ]
        refine wpAnyH_take (i := 16) (v := ?_) rfl (by kernel_rfl) (by kernel_rfl) (by kernel_rfl) (fun _ _ _ h => h) (Or.inl ⟨by rfl, ?_⟩) (by assumption) ?_
        rotate_left
        · intro wz hSw; (try dsimp only at hSw); go_simp; all_goals with_reducible rfl
        try simp only [Act.put, List.getElem_toArray, List.getElem_cons_zero, List.getElem_cons_succ, List.setIfInBounds_toArray, List.set_cons_zero, List.set_cons_succ]
        refine wpAnyH_take (i := 17) (v := ?_) rfl (by kernel_rfl) (by kernel_rfl) (by kernel_rfl) (fun _ _ _ h => h) (Or.inl ⟨by rfl, ?_⟩) (by assumption) ?_
        rotate_left
        · intro wz hSw; (try dsimp only at hSw); go_simp; all_goals with_reducible rfl
        try simp only [Act.put, List.getElem_toArray, List.getElem_cons_zero, List.getElem_cons_succ, List.setIfInBounds_toArray, List.set_cons_zero, List.set_cons_succ]
        refine wpAnyH_ready (rs := [18]) (by kernel_rfl) (by simp) ?_
        refine AllReadyH.cons rfl (fun K hK => ?_) AllReadyH.nil
        go_simp
        go_wp2_with (go_at_call 202; refine (HDF.out _ HI3.out.bel.drew).mono ?_; rintro e w4 ⟨rfl, hb4⟩; have HB4 : Hid (Below w3.heap.size w3 w4) := (Below.refl w3.heap.size w3).drew.trans hb4; clear hb4)
        refine hK.out _ _ (HST.out _ HB4.out) (fun hHeld2 => ?_)
        clear hK K hHeld
        try simp only [Act.put, List.getElem_toArray, List.getElem_cons_zero, List.getElem_cons_succ, List.setIfInBounds_toArray, List.set_cons_zero, List.set_cons_succ]
        by_cases q1 : v.kind = KK
        · have Q1 := hide q1
          by_cases q2 : v.text = u
          · have Q2 := hide q2
            by_cases q3 : v.alt = 0
            · have Q3 := hide q3
              by_cases q4 : v.kids = 0
              · have Q4 := hide q4
                have HWHY : Hid (LO E k x) := HLO.out.2 ⟨hx3, .inr ⟨hd, u, HU.out, by rw [HV.out, HKK.out, ← Q1.out, ← Q2.out]; obtain ⟨va, vb2, vc, vd⟩ := v; have h3 := Q3.out; have h4 := Q4.out; simp only at h3 h4; rw [h3, h4]⟩⟩
                refine wpAnyH_take (i := 19) (v := ?_) rfl (by kernel_rfl) (by kernel_rfl) (by kernel_rfl) (fun _ _ _ h => h) (Or.inl ⟨by rfl, ?_⟩) (by assumption) ?_
                rotate_left
                · intro wz hSw; (try dsimp only at hSw); go_simp; all_goals with_reducible rfl
                try simp only [Act.put, List.getElem_toArray, List.getElem_cons_zero, List.getElem_cons_succ, List.setIfInBounds_toArray, List.set_cons_zero, List.set_cons_succ]
                refine wpAnyH_take (i := 20) (v := ?_) rfl (by kernel_rfl) (by kernel_rfl) (by kernel_rfl) (fun _ _ _ h => h) (Or.inl ⟨by rfl, ?_⟩) (by assumption) ?_
                rotate_left
                · intro wz hSw; (try dsimp only at hSw); go_simp; all_goals with_reducible rfl
                try simp only [Act.put, List.getElem_toArray, List.getElem_cons_zero, List.getElem_cons_succ, List.setIfInBounds_toArray, List.set_cons_zero, List.set_cons_succ]
                refine wpAnyH_take (i := 21) (v := ?_) rfl (by kernel_rfl) (by kernel_rfl) (by kernel_rfl) (fun _ _ _ h => h) (Or.inl ⟨by rfl, ?_⟩) (by assumption) ?_
                rotate_left
                · intro wz hSw; (try dsimp only at hSw); go_simp; all_goals with_reducible rfl
                try simp only [Act.put, List.getElem_toArray, List.getElem_cons_zero, List.getElem_cons_succ, List.setIfInBounds_toArray, List.set_cons_zero, List.set_cons_succ]
                refine wpAnyH_done (by kernel_rfl) ?_ _
                clear hHeld2 HST e0 e1 e2 e3 v0 v1 v2 v3
                have HI4 := hide (HI3.out.below HB4.out)
                have HW4 : Hid (Below w.heap.size w w4) := HW3.out.trans (HB4.out.mono HW3.out.size)
                obtain ⟨tv4, hown4, _⟩ := HI4.out.own
                unfold ewObj at hown4
                have n2 : w4.cell? ⟨R, 2, none⟩ = some (.int .i64 (x : Int)) := by simp [World.cell?, hown4]
                have f2 : w4.frozen? ⟨R, 2, none⟩ = false := by simp [World.frozen?, hown4]
                have hR4 : R < w4.heap.size := lt_of_cell n2
                clear hown4
                go_wp2
                go_ret
                exact ⟨(FrE.of_below HW4.out).trans (FrE.set 2 _), .inl ⟨HWHY.out, rfl, HI4.out.setNext (x + 1)⟩⟩
              · have q4b : (v.kids == 0) = false := by simpa using q4
                have Q4 := hide q4
                have HWHY : Hid (¬ LO E k x) := HNO.out (fun z => Q4.out (by rw [← HV.out, z]))
                refine wpAnyH_take (i := 19) (v := ?_) rfl (by kernel_rfl) (by kernel_rfl) (by kernel_rfl) (fun _ _ _ h => h) (Or.inl ⟨by rfl, ?_⟩) (by assumption) ?_
                rotate_left
                · intro wz hSw; (try dsimp only at hSw); go_simp; all_goals with_reducible rfl
                try simp only [Act.put, List.getElem_toArray, List.getElem_cons_zero, List.getElem_cons_succ, List.setIfInBounds_toArray, List.set_cons_zero, List.set_cons_succ]
                refine wpAnyH_take (i := 20) (v := ?_) rfl (by kernel_rfl) (by kernel_rfl) (by kernel_rfl) (fun _ _ _ h => h) (Or.inl ⟨by rfl, ?_⟩) (by assumption) ?_
                rotate_left
                · intro wz hSw; (try dsimp only at hSw); go_simp; all_goals with_reducible rfl
                try simp only [Act.put, List.getElem_toArray, List.getElem_cons_zero, List.getElem_cons_succ, List.setIfInBounds_toArray, List.set_cons_zero, List.set_cons_succ]
                refine wpAnyH_take (i := 21) (v := ?_) rfl (by kernel_rfl) (by kernel_rfl) (by kernel_rfl) (fun _ _ _ h => h) (Or.inl ⟨by rfl, ?_⟩) (by assumption) ?_
                rotate_left
                · intro wz hSw; (try dsimp only at hSw); go_simp; all_goals with_reducible rfl
                try simp only [Act.put, List.getElem_toArray, List.getElem_cons_zero, List.getElem_cons_succ, List.setIfInBounds_toArray, List.set_cons_zero, List.set_cons_succ]
                refine wpAnyH_done (by kernel_rfl) ?_ _
                clear hHeld2 HST e0 e1 e2 e3 v0 v1 v2 v3
                have HI4 := hide (HI3.out.below HB4.out)
                have HW4 : Hid (Below w.heap.size w w4) := HW3.out.trans (HB4.out.mono HW3.out.size)
                go_wp2
                go_ret
                exact ⟨FrE.of_below HW4.out, .inr ⟨HWHY.out, rfl, HI4.out⟩⟩
            · have q3b : (v.alt == 0) = false := by simpa using q3
              have Q3 := hide q3
              have HWHY : Hid (¬ LO E k x) := HNO.out (fun z => Q3.out (by rw [← HV.out, z]))
              refine wpAnyH_take (i := 19) (v := ?_) rfl (by kernel_rfl) (by kernel_rfl) (by kernel_rfl) (fun _ _ _ h => h) (Or.inl ⟨by rfl, ?_⟩) (by assumption) ?_
              rotate_left
              · intro wz hSw; (try dsimp only at hSw); go_simp; all_goals with_reducible rfl
              try simp only [Act.put, List.getElem_toArray, List.getElem_cons_zero, List.getElem_cons_succ, List.setIfInBounds_toArray, List.set_cons_zero, List.set_cons_succ]
              refine wpAnyH_take (i := 20) (v := ?_) rfl (by kernel_rfl) (by kernel_rfl) (by kernel_rfl) (fun _ _ _ h => h) (Or.inl ⟨by rfl, ?_⟩) (by assumption) ?_
              rotate_left
              · intro wz hSw; (try dsimp only at hSw); go_simp; all_goals with_reducible rfl
              try simp only [Act.put, List.getElem_toArray, List.getElem_cons_zero, List.getElem_cons_succ, List.setIfInBounds_toArray, List.set_cons_zero, List.set_cons_succ]
              refine wpAnyH_take (i := 21) (v := ?_) rfl (by kernel_rfl) (by kernel_rfl) (by kernel_rfl) (fun _ _ _ h => h) (Or.inl ⟨by rfl, ?_⟩) (by assumption) ?_
              rotate_left
              · intro wz hSw; (try dsimp only at hSw); go_simp; all_goals with_reducible rfl
              try simp only [Act.put, List.getElem_toArray, List.getElem_cons_zero, List.getElem_cons_succ, List.setIfInBounds_toArray, List.set_cons_zero, List.set_cons_succ]
              refine wpAnyH_done (by kernel_rfl) ?_ _
              clear hHeld2 HST e0 e1 e2 e3 v0 v1 v2 v3
              have HI4 := hide (HI3.out.below HB4.out)
              have HW4 : Hid (Below w.heap.size w w4) := HW3.out.trans (HB4.out.mono HW3.out.size)
              go_wp2
              go_ret
              exact ⟨FrE.of_below HW4.out, .inr ⟨HWHY.out, rfl, HI4.out⟩⟩
          · have q2b : (v.text.toList == u.toList) = false := by rw [beq_eq_false_iff_ne]; intro z; apply q2; apply ByteArray.ext; apply Array.toList_inj.1; rw [← Lib.toList_data, ← Lib.toList_data]; exact z
            have Q2 := hide q2
            have HWHY : Hid (¬ LO E k x) := HNO.out (fun z => Q2.out (by rw [← HV.out, z]))
            refine wpAnyH_take (i := 19) (v := ?_) rfl (by kernel_rfl) (by kernel_rfl) (by kernel_rfl) (fun _ _ _ h => h) (Or.inl ⟨by rfl, ?_⟩) (by assumption) ?_
            rotate_left
            · intro wz hSw; (try dsimp only at hSw); go_simp; all_goals with_reducible rfl
            try simp only [Act.put, List.getElem_toArray, List.getElem_cons_zero, List.getElem_cons_succ, List.setIfInBounds_toArray, List.set_cons_zero, List.set_cons_succ]
            refine wpAnyH_take (i := 20) (v := ?_) rfl (by kernel_rfl) (by kernel_rfl) (by kernel_rfl) (fun _ _ _ h => h) (Or.inl ⟨by rfl, ?_⟩) (by assumption) ?_
            rotate_left
            · intro wz hSw; (try dsimp only at hSw); go_simp; all_goals with_reducible rfl
            try simp only [Act.put, List.getElem_toArray, List.getElem_cons_zero, List.getElem_cons_succ, List.setIfInBounds_toArray, List.set_cons_zero, List.set_cons_succ]
            refine wpAnyH_take (i := 21) (v := ?_) rfl (by kernel_rfl) (by kernel_rfl) (by kernel_rfl) (fun _ _ _ h => h) (Or.inl ⟨by rfl, ?_⟩) (by assumption) ?_
            rotate_left
            · intro wz hSw; (try dsimp only at hSw); go_simp; all_goals with_reducible rfl
            try simp only [Act.put, List.getElem_toArray, List.getElem_cons_zero, List.getElem_cons_succ, List.setIfInBounds_toArray, List.set_cons_zero, List.set_cons_succ]
            refine wpAnyH_done (by kernel_rfl) ?_ _
            clear hHeld2 HST e0 e1 e2 e3 v0 v1 v2 v3
            have HI4 := hide (HI3.out.below HB4.out)
            have HW4 : Hid (Below w.heap.size w w4) := HW3.out.trans (HB4.out.mono HW3.out.size)
            go_wp2
            go_ret
            exact ⟨FrE.of_below HW4.out, .inr ⟨HWHY.out, rfl, HI4.out⟩⟩
        · have q1b : (v.kind == KK) = false := by simpa using q1
          have Q1 := hide q1
          have HWHY : Hid (¬ LO E k x) := HNO.out (fun z => Q1.out (by rw [← HV.out, z]))
          refine wpAnyH_take (i := 19) (v := ?_) rfl (by kernel_rfl) (by kernel_rfl) (by kernel_rfl) (fun _ _ _ h => h) (Or.inl ⟨by rfl, ?_⟩) (by assumption) ?_
          rotate_left
          · intro wz hSw; (try dsimp only at hSw); go_simp; all_goals with_reducible rfl
          try simp only [Act.put, List.getElem_toArray, List.getElem_cons_zero, List.getElem_cons_succ, List.setIfInBounds_toArray, List.set_cons_zero, List.set_cons_succ]
          refine wpAnyH_take (i := 20) (v := ?_) rfl (by kernel_rfl) (by kernel_rfl) (by kernel_rfl) (fun _ _ _ h => h) (Or.inl ⟨by rfl, ?_⟩) (by assumption) ?_
          rotate_left
          · intro wz hSw; (try dsimp only at hSw); go_simp; all_goals with_reducible rfl
          try simp only [Act.put, List.getElem_toArray, List.getElem_cons_zero, List.getElem_cons_succ, List.setIfInBounds_toArray, List.set_cons_zero, List.set_cons_succ]
          refine wpAnyH_take (i := 21) (v := ?_) rfl (by kernel_rfl) (by kernel_rfl) (by kernel_rfl) (fun _ _ _ h => h) (Or.inl ⟨by rfl, ?_⟩) (by assumption) ?_
          rotate_left
          · intro wz hSw; (try dsimp only at hSw); go_simp; all_goals with_reducible rfl
          try simp only [Act.put, List.getElem_toArray, List.getElem_cons_zero, List.getElem_cons_succ, List.setIfInBounds_toArray, List.set_cons_zero, List.set_cons_succ]
          refine wpAnyH_done (by kernel_rfl) ?_ _
          clear hHeld2 HST e0 e1 e2 e3 v0 v1 v2 v3
          have HI4 := hide (HI3.out.below HB4.out)
          have HW4 : Hid (Below w.heap.size w w4) := HW3.out.trans (HB4.out.mono HW3.out.size)
          go_wp2
          go_ret
          exact ⟨FrE.of_below HW4.out, .inr ⟨HWHY.out, rfl, HI4.out⟩⟩
  · subst hx3
    have HNO : Hid (¬ LO E k E.t.length) := fun q => by have := q.1; omega
    go_quiet (fail)
    have HI2 := hide (HI1.out.below (Go.below_drewN (Below.refl w1.heap.size w1) nq))
    have HB2 : Hid (Below w.heap.size w (w1.drewN nq)) := Go.below_drewN HB1.out nq
    generalize w1.drewN nq = w2 at HI2 HB2 ⊢
    clear d1 d2 hR1
    go_wp2
    go_ret
    exact ⟨FrE.of_below HB2.out, .inr ⟨HNO.out, rfl, HI2.out⟩⟩
end Go.Proofs.YtkkicodfpekbgaaGreatDoor

/-! The program's writer: seq. -/
namespace Go.Proofs.YtkkicodfpekbgaaGreatDoor
set_option linter.unusedSimpArgs false
set_option linter.unusedVariables false
open Go.RowKit

/-- Where the loop over a Seq's kids is. -/
def ESeqAt (E : WEnv) (W : World) (R : Nat) (a : Option Addr) (c : Nat) (ta : Option Addr) (tc f : Nat) (sn : Sn → Addr) (n : Nd) (dp : Int) (r : WOut) (x0 : Nat) (t0 : ByteArray) (l0 : Bool) (o0 : Option Int) (w0 : World) (vk : Value) (wr : World) : Prop :=
  ∃ (k x : Nat) (out : ByteArray) (u : Bool) (t1 : ByteArray) (l1 : Bool) (o1 : Option Int), k ≤ n.kids.length ∧ vk = .int .i64 k ∧ wseqF E (wrF E f) dp (n.kids.drop k) x out u = some r ∧ x0 ≤ x ∧ x ≤ E.t.length ∧ Tld t0 l0 o0 out u t1 l1 o1 ∧ EwD W wr R a E.s.length c ta E.t.length tc x t1 l1 (ovV sn o1) ∧ FrE R w0 wr

set_option maxHeartbeats 4000000 in
set_option maxRecDepth 100000 in
theorem eseq_any (E : WEnv) (W : World) (R : Nat) (a : Option Addr) (c : Nat) (ta : Option Addr) (tc f : Nat) (sn : Sn → Addr) (hc : EC E W a ta sn) (htc : E.t.length ≤ tc) (hN : NodeE E W R a c ta tc sn f) (hf1 : 1 ≤ f) (i : Nat) (hi : i < E.s.length) (ka : Option Addr) (kc : Nat) (hka : KidsIn W ka (nd E.s i).kids) (hkc : (nd E.s i).kids.length ≤ kc) (hkm : kc ≤ maxLen)
    (x0 : Nat) (dp : Int) (r : WOut) (t0 : ByteArray) (l0 : Bool) (o0 : Option Int) (w : World) (e : wseqF E (wrF E f) dp (nd E.s i).kids x0 noB false = some r) (hx0 : x0 ≤ E.t.length) (hfx : E.t.length + 1 ≤ f + x0) (hd1 : 1 ≤ dp) (hd2 : dp ≤ 12) (h4 : t0.size ≤ 4000) (hI : EwD W w R a E.s.length c ta E.t.length tc x0 t0 l0 (ovV sn o0)) :
    Calls Tryz.prog 150 #[.pointer (some ⟨R, 0, none⟩), .agg #[.int .i64 (nd E.s i).kind, .int .i64 (nd E.s i).tag, .int .i64 (nd E.s i).mode, .slice ka (nd E.s i).kids.length kc], .int .i64 dp] w fun e w' => AfterE E W R a c ta tc sn r t0 l0 o0 w e w' := by
  have HC := hide hc
  have HNN := hide hN
  have HI := hide hI
  have HKA := hide hka
  have HE := hide e
  have HTC := hide htc
  have hk8 := count8 hc.wc.right.2.2.1 hi
  have hRl : R < w.heap.size := by obtain ⟨tv, h1, _⟩ := hI.own; exact row_lt h1
  have HHI := hide hi
  obtain ⟨n, hn⟩ : ∃ n, nd E.s i = n := ⟨_, rfl⟩
  have HN := hide hn
  rw [hn] at HKA hkc hk8 HE ⊢
  have hw0 : EwD W (w.alloc (.cells #[.int .i64 n.kind, .int .i64 n.tag, .int .i64 n.mode, .slice ka n.kids.length kc] 58)) R a E.s.length c ta E.t.length tc x0 t0 l0 (ovV sn o0) := hI.below ((Below.refl _ _).alloc (Nat.le_refl _) _)
  have HW0 := hide hw0
  have hkm' : kc ≤ 9223372036854775807 := by unfold maxLen at hkm; omega
  clear hc hN hI hka e htc hi hn hw0 hkm
  go_enter Tryz.func150, Tryz.ntmps150
  go_wp2_with fail
  go_loopw [13] (fun vk wr => ESeqAt E W R a c ta tc f sn n dp r x0 t0 l0 o0 w vk wr) (fun vk _ => n.kids.length - (intOf vk).toNat)
  case atStart => exact ⟨0, x0, noB, false, t0, l0, o0, Nat.zero_le _, rfl, HE.out, Nat.le_refl _, hx0, Tld.refl h4, HW0.out, FrE.of_below ((Below.refl _ _).alloc (Nat.le_refl _) _)⟩
  case round =>
    obtain ⟨k, x, out, u, t1, l1, o1, hk, rfl, hE, hx1, hx2, hT, hEw, hFr⟩ := hrel
    have HEW := hide hEw
    have HT := hide hT
    have HFR := hide hFr
    have HEE := hide hE
    clear hEw hT hFr hE
    by_cases hlt : k < n.kids.length
    · obtain ⟨b, o, hkaE, kcl⟩ := HKA.out k hlt
      have hmem : n.kids.getD k kd0 ∈ n.kids := kd_mem (n := n) hlt
      obtain ⟨y, hy⟩ : ∃ y, n.kids.getD k kd0 = y := ⟨_, rfl⟩
      rw [hy] at kcl hmem
      have hdrop : n.kids.drop k = y :: n.kids.drop (k + 1) := by
        rw [List.drop_eq_getElem_cons hlt]
        congr 1
        rw [← hy, List.getD_eq_getElem?_getD, List.getElem?_eq_getElem hlt]
        rfl
      have hE' := HEE.out
      rw [hdrop] at hE'
      have hKK := wseq_kid (dp := dp) HC.out.wc.right HC.out.wc.ok HHI.out (by rw [HN.out]; exact hmem) hf1 (fun j hj => HC.out.txt hj) hE'
      have HKK := hide hKK
      have hwn := HC.out.wc.right.fine.within i HHI.out y (by rw [HN.out]; exact hmem)
      obtain ⟨t, ht⟩ : ∃ t : Nat, y.node = t := ⟨y.node.toNat, by omega⟩
      have htn : y.node.toNat = t := by omega
      have htl : t < E.s.length := by omega
      have HNE : Hid (∀ wq, EwD W wq R a E.s.length c ta E.t.length tc x t1 l1 (ovV sn o1) → ∃ r1, wrF E f t x (dp + 1) = some r1 ∧ Calls Tryz.prog 75 #[.pointer (some ⟨R, 0, none⟩), .int .i64 t, .int .i64 (dp + 1)] wq fun e w' => AfterE E W R a c ta tc sn r1 t1 l1 o1 wq e w') := fun wq q => by
        obtain ⟨r1, h1⟩ := wrF_some (E := E) f t x (dp + 1) (by omega) hf1
        exact ⟨r1, h1, HNN.out t x (dp + 1) r1 t1 l1 o1 wq h1 htl hx2 (by omega) hf1 (by omega) (by omega) HT.out.mx q⟩
      have HLO : Hid (∀ wq, EwD W wq R a E.s.length c ta E.t.length tc x t1 l1 (ovV sn o1) → Calls Tryz.prog 183 #[.pointer (some ⟨R, 0, none⟩), .agg #[.int .i64 t, .bool y.opt, .string y.dflt]] wq fun e w' => AfterLO E W R a c ta tc y x t1 l1 (ovV sn o1) wq e w') := fun wq q => by
        have := leftOut_any E W R a c ta tc sn HC.out HTC.out i HHI.out y (by rw [HN.out]; exact hmem) x t1 l1 (ovV sn o1) wq hx2 q
        rw [ht] at this
        exact this
      obtain ⟨kc0, kc1, kc2⟩ := kcl
      rw [ht] at kc0
      have hbW := HEW.out.bel
      have m0 : wr.cell? ⟨b, o + k * 3, none⟩ = some (.int .i64 t) := (hbW.cell (lt_of_cell kc0)).trans kc0
      have m1 : wr.cell? ⟨b, o + k * 3 + 1, none⟩ = some (.bool y.opt) := (hbW.cell (lt_of_cell kc1)).trans kc1
      have m2 : wr.cell? ⟨b, o + k * 3 + 2, none⟩ = some (.string y.dflt) := (hbW.cell (lt_of_cell kc2)).trans kc2
      have hlb := lt_of_cell m0
      simp only at hlb
      have hlt' : (k : Int) < (n.kids.length : Int) := by omega
      rw [hkaE]
      have HEB : Hid (∀ A, EwD W (wr.alloc A) R a E.s.length c ta E.t.length tc x t1 l1 (ovV sn o1)) := fun A => HEW.out.below ((Below.refl _ _).alloc (Nat.le_refl _) _)
      have HFB : Hid (∀ A, FrE R w (wr.alloc A)) := fun A => HFR.out.trans (FrE.of_below ((Below.refl _ _).alloc (Nat.le_refl _) _))
      have hgk : (wr.alloc (.cells #[.int .i64 t, .bool y.opt, .string y.dflt] 55)).heap[wr.heap.size]? = some (.cells #[.int .i64 t, .bool y.opt, .string y.dflt] 55 (0, 0)) := heap_alloc_new wr _
      have HGK := hide hgk
      have hneR : wr.heap.size ≠ R := by obtain ⟨tv, h1, _⟩ := HEW.out.own; have := row_lt h1; omega
      clear kc0 kc1 kc2 hbW hmem hy hdrop hE' hKK hgk hlt
      go_wp2_with fail
      refine (HLO.out _ (HEB.out _)).mono ?_
      rintro e w2 ⟨hF2, ⟨hlo, rfl, hE2⟩ | ⟨hlo, rfl, hE2⟩⟩
      · have HE2 := hide hE2
        have HF2 : Hid (FrE R w w2) := (HFB.out _).trans hF2
        have HX2 : Hid (wseqF E (wrF E f) dp (n.kids.drop (k + 1)) (x + 1) out u = some r ∧ x + 1 ≤ E.t.length) := by
          rcases HKK.out with h | h
          · exact ⟨h.2, h.1.1⟩
          · exact absurd hlo h.1
        clear hF2 hlo hE2 m0 m1 m2
        go_wp2
        go_roundw
        case rel => exact ⟨k + 1, x + 1, out, u, t1, l1, o1, by omega, by go_num, HX2.out.1, by omega, HX2.out.2, HT.out, HE2.out, HF2.out⟩
        case measure => simp [intOf]; omega
      · have HF2 : Hid (FrE R w w2) := (HFB.out _).trans hF2
        obtain ⟨r1, hr1, hca⟩ := HNE.out w2 hE2
        have HR1 := hide hr1
        have HCA := hide hca
        have HLN := hide hlo
        have hg2 := hF2 _ _ _ hneR (by decide) HGK.out
        have g0 : w2.cell? ⟨wr.heap.size, 0, none⟩ = some (.int .i64 t) := cell_of_row hg2 rfl
        have hl2 := lt_of_cell g0
        simp only at hl2
        have hwr : IntKind.i64.wrap (dp + 1) = dp + 1 := by rw [IntKind.wrap_i64]; omega
        clear hF2 hlo hE2 m0 m1 m2 hr1 hca hg2
        go_wp2_with fail
        refine HCA.out.mono ?_
        rintro e w3 ⟨hF3, ⟨b1, x', u', t2, l2, o2, hq, rfl, hT2, hE3⟩ | ⟨hq, p, x', t2, l2, ov, rfl, hE3⟩⟩
        · have HE3 := hide hE3
          have HF3 : Hid (FrE R w w3) := HF2.out.trans hF3
          have HT2 := hide hT2
          have HX3 : Hid (wseqF E (wrF E f) dp (n.kids.drop (k + 1)) x' (out ++ b1) (u || u') = some r ∧ x0 ≤ x' ∧ x' ≤ E.t.length) := by
            have hadv := wrF_adv f t x (dp + 1) r1 HR1.out b1 x' u' hq
            rcases HKK.out with h | h
            · exact absurd h.1 HLN.out
            · rw [htn] at h
              rcases h.2 r1 HR1.out with h2 | ⟨b2, x2, u2, h2, h3⟩
              · rw [h2.1] at hq; cases hq
              · rw [hq] at h2
                injection h2 with h2
                injection h2 with e1 h2
                injection h2 with e2 e3
                subst e1 e2 e3
                exact ⟨h3, by omega, hadv.2.1⟩
          clear hF3 hT2 hE3 g0 hl2 hq
          go_wp2
          go_roundw
          case rel => exact ⟨k + 1, x', out ++ b1, u || u', t2, l2, o2, by omega, by go_num, HX3.out.1, HX3.out.2.1, HX3.out.2.2, HT.out.trans HT2.out, HE3.out, HF3.out⟩
          case measure => simp [intOf]; omega
        · have HE3 := hide hE3
          have HF3 : Hid (FrE R w w3) := HF2.out.trans hF3
          have HX3 : Hid (r = none) := by
            rcases HKK.out with h | h
            · exact absurd h.1 HLN.out
            · rw [htn] at h
              rcases h.2 r1 HR1.out with h2 | ⟨b2, x2, u2, h2, h3⟩
              · exact h2.2
              · rw [hq] at h2; cases h2
          clear hF3 hE3 g0 hl2 hq
          unfold fault
          go_wp2
          go_ret
          exact ⟨HF3.out, .inr ⟨HX3.out, p, x', t2, l2, ov, rfl, HE3.out⟩⟩
    · obtain rfl : k = n.kids.length := by omega
      have HX : Hid (r = some (out, x, u)) := by
        have h := HEE.out
        rw [List.drop_length] at h
        unfold wseqF at h
        injection h with h
        exact h.symm
      go_wp2
      go_ret
      exact ⟨HFR.out, .inl ⟨out, x, u, t1, l1, o1, HX.out, rfl, HT.out, HEW.out⟩⟩
end Go.Proofs.YtkkicodfpekbgaaGreatDoor

/-! The program's writer: list. -/
namespace Go.Proofs.YtkkicodfpekbgaaGreatDoor
set_option linter.unusedSimpArgs false
set_option linter.unusedVariables false
open Go.RowKit

theorem bcells_get (t : ByteArray) {j : Nat} {x : UInt8} (h : t.data.toList[j]? = some x) : (bcells t)[j]? = some (.int .u8 (x.toNat : Int)) := by
  unfold bcells
  rw [List.getElem?_map, h]
  rfl
theorem bytes_mid {w : World} {g : Nat} {cur : Array Value} {t : ByteArray} (hg : w.heap[g]? = some (.cells cur 5 (0, 0))) (hc : cur.toList.take t.size = bcells t) {q p : Nat} (hqp : q ≤ p) (hp : p ≤ t.size) (c : Nat) :
    BytesAt w (.slice (some ⟨g, q, none⟩) (p - q) c) ((t.data.toList.drop q).take (p - q)) := by
  have hl : t.data.toList.length = t.size := Array.length_toList
  refine .inr ⟨⟨g, q, none⟩, c, ?_, fun j x hj => ?_⟩
  · rw [List.length_take, List.length_drop, hl, Nat.min_eq_left (by omega)]
  · rw [List.getElem?_take] at hj
    split at hj
    · rename_i hlt
      rw [List.getElem?_drop] at hj
      have h1 := bcells_get t hj
      rw [← hc, List.getElem?_take_of_lt (by omega)] at h1
      rw [Addr.add_lit]
      simp [World.cell?, hg]
      simpa using h1
    · cases hj
theorem bytes_from {w : World} {g : Nat} {cur : Array Value} {t : ByteArray} (hg : w.heap[g]? = some (.cells cur 5 (0, 0))) (hc : cur.toList.take t.size = bcells t) {p : Nat} (hp : p ≤ t.size) (c : Nat) :
    BytesAt w (.slice (some ⟨g, p, none⟩) (t.size - p) c) (t.data.toList.drop p) := by
  have hl : t.data.toList.length = t.size := Array.length_toList
  have h := bytes_mid hg hc hp (Nat.le_refl _) c
  rw [List.take_of_length_le (by rw [List.length_drop, hl]; exact Nat.le_refl _)] at h
  exact h
/-- What the comparison comes to where nothing is too long. -/
theorem below_at {t0 out' last b : ByteArray} {q p : Nat} (hq : q = t0.size + out'.size) (hp : p = q + last.size) : Op.bytesLess (((t0 ++ (out' ++ last)) ++ b).data.toList.drop p) ((((t0 ++ (out' ++ last)) ++ b).data.toList.drop q).take (p - q)) = below b last := by
  unfold below
  have h0 : t0.data.toList.length = t0.size := Array.length_toList
  have h1 : out'.data.toList.length = out'.size := Array.length_toList
  have h2 : last.data.toList.length = last.size := Array.length_toList
  have e : ((t0 ++ (out' ++ last)) ++ b).data.toList = (t0.data.toList ++ out'.data.toList) ++ (last.data.toList ++ b.data.toList) := by simp
  rw [e, Lib.toList_data, Lib.toList_data]
  have e1 : ((t0.data.toList ++ out'.data.toList) ++ (last.data.toList ++ b.data.toList)).drop q = last.data.toList ++ b.data.toList := List.drop_left' (by rw [List.length_append]; omega)
  have e2 : ((t0.data.toList ++ out'.data.toList) ++ (last.data.toList ++ b.data.toList)).drop p = b.data.toList := by
    rw [hp, ← List.drop_drop, e1]
    exact List.drop_left' (by omega)
  rw [e1, e2]
  congr 1
  exact List.take_left' (by omega)

/-- Where the loop over the kids of a SeqOf or SetOf is. -/
def EManyAt (E : WEnv) (W : World) (R : Nat) (a : Option Addr) (c : Nat) (ta : Option Addr) (tc f : Nat) (sn : Sn → Addr) (set : Bool) (i : Nat) (dp kids : Int) (r : WOut) (x0 : Nat) (t0 : ByteArray) (l0 : Bool) (o0 : Option Int) (w0 : World) (vb vk : Value) (wr : World) : Prop :=
  ∃ (k bf m x : Nat) (out last : ByteArray) (u : Bool) (t1 : ByteArray) (l1 : Bool) (o1 : Option Int), (k : Int) ≤ kids ∧ vk = .int .i64 k ∧ vb = .int .i64 bf ∧ wmanyF E (wrF E f) set i dp m (kids - k) x out last u = some r ∧ x0 ≤ x ∧ x ≤ E.t.length ∧ Tld t0 l0 o0 out u t1 l1 o1 ∧ bf ≤ t1.size ∧ (l1 = false → ∃ out', out = out' ++ last ∧ bf = t0.size + out'.size) ∧
    EwD W wr R a E.s.length c ta E.t.length tc x t1 l1 (ovV sn o1) ∧ FrE R w0 wr

set_option maxHeartbeats 8000000 in
set_option maxRecDepth 100000 in
theorem elist_any (E : WEnv) (W : World) (R : Nat) (a : Option Addr) (c : Nat) (ta : Option Addr) (tc f : Nat) (sn : Sn → Addr) (hc : EC E W a ta sn) (htc : E.t.length ≤ tc) (hN : NodeE E W R a c ta tc sn f) (hf1 : 1 ≤ f) (i : Nat) (hi : i < E.s.length) (hone : (nd E.s i).kids.length = 1) (ka : Option Addr) (kc : Nat) (hka : KidsIn W ka (nd E.s i).kids) (hkc : (nd E.s i).kids.length ≤ kc) (hkm : kc ≤ maxLen)
    (x0 m0 : Nat) (kids dp : Int) (r : WOut) (t0 : ByteArray) (l0 : Bool) (o0 : Option Int) (w : World) (e : wmanyF E (wrF E f) (decide ((nd E.s i).kind = 12)) (kd (nd E.s i) 0).node.toNat (dp + 1) m0 kids x0 noB noB false = some r) (hk0 : 0 ≤ kids) (hk63 : kids ≤ 9223372036854775807) (hx0 : x0 ≤ E.t.length) (hfx : E.t.length + 1 ≤ f + x0) (hd1 : 1 ≤ dp) (hd2 : dp ≤ 12) (h4 : t0.size ≤ 4000) (hI : EwD W w R a E.s.length c ta E.t.length tc x0 t0 l0 (ovV sn o0)) :
    Calls Tryz.prog 151 #[.pointer (some ⟨R, 0, none⟩), .agg #[.int .i64 (nd E.s i).kind, .int .i64 (nd E.s i).tag, .int .i64 (nd E.s i).mode, .slice ka (nd E.s i).kids.length kc], .int .i64 kids, .int .i64 dp] w fun e w' => AfterE E W R a c ta tc sn r t0 l0 o0 w e w' := by
  have HC := hide hc
  have HNN := hide hN
  have HE := hide e
  have hwn := hc.wc.right.fine.within i hi (kd (nd E.s i) 0) (kd_mem (by omega))
  obtain ⟨t, ht⟩ : ∃ t : Nat, (kd (nd E.s i) 0).node = t := ⟨(kd (nd E.s i) 0).node.toNat, by omega⟩
  have htl : t < E.s.length := by omega
  have htn : (kd (nd E.s i) 0).node.toNat = t := by omega
  rw [htn] at HE
  obtain ⟨b, o, hkaE, kcl⟩ := hka 0 (by omega)
  obtain ⟨kc0, _, _⟩ := kcl
  have hkd : ((nd E.s i).kids.getD 0 kd0).node = t := ht
  rw [hkd] at kc0
  have KC0 := hide kc0
  rw [hkaE, hone]
  rw [hone] at hkc
  obtain ⟨set, hset⟩ : ∃ set, decide ((nd E.s i).kind = 12) = set := ⟨_, rfl⟩
  rw [hset] at HE
  obtain ⟨K, hK⟩ : ∃ K, (nd E.s i).kind = K := ⟨_, rfl⟩
  rw [hK] at hset ⊢
  have HSET := hide hset
  have hkm' : kc ≤ 9223372036854775807 := by unfold maxLen at hkm; omega
  have hkc' : (1 : Int) ≤ (kc : Int) := by omega
  obtain ⟨bs, cp, hform⟩ : ∃ bs cp, ∃ tvx, tvx = Value.slice bs t0.size cp ∧ w.heap[R]? = some (ewObj a E.s.length c ta E.t.length tc x0 tvx l0 (ovV sn o0)) := by
    obtain ⟨tv, h1, h2⟩ := hI.own
    obtain ⟨bs, cp, rfl, _⟩ := own8 h2
    exact ⟨bs, cp, _, rfl, h1⟩
  obtain ⟨_, rfl, hown⟩ := hform
  have hRl : R < w.heap.size := row_lt hown
  generalize hTG : (nd E.s i).tag = TG
  generalize hMD : (nd E.s i).mode = MD
  have hB1 : Below w.heap.size w (w.alloc (.cells #[.int .i64 K, .int .i64 TG, .int .i64 MD, .slice (some ⟨b, o, none⟩) 1 kc] 58)) := (Below.refl _ _).alloc (Nat.le_refl _) _
  have hG1 : (w.alloc (.cells #[.int .i64 K, .int .i64 TG, .int .i64 MD, .slice (some ⟨b, o, none⟩) 1 kc] 58)).heap[w.heap.size]? = some (.cells #[.int .i64 K, .int .i64 TG, .int .i64 MD, .slice (some ⟨b, o, none⟩) 1 kc] 58 (0, 0)) := heap_alloc_new w _
  have HW0 := hide (hI.below hB1)
  have hg3 := block_below hown hB1
  unfold ewObj at hg3
  have c3 : (w.alloc (.cells #[.int .i64 K, .int .i64 TG, .int .i64 MD, .slice (some ⟨b, o, none⟩) 1 kc] 58)).cell? ⟨R, 3, none⟩ = some (.slice bs t0.size cp) := by simp [World.cell?, hg3]
  clear hc hN hI hka e htc hi hone hkaE hwn kc0 hkd ht htn hset hK hkm hown hTG hMD hg3
  go_enter Tryz.func151, Tryz.ntmps151
  go_upto_region 1 with fail
  obtain ⟨nb, hnb⟩ : ∃ nb, w.heap.size = nb := ⟨_, rfl⟩
  rw [hnb] at hG1 ⊢
  generalize w.alloc (.cells #[.int .i64 K, .int .i64 TG, .int .i64 MD, .slice (some ⟨b, o, none⟩) 1 kc] 58) = w1 at hB1 hG1 HW0 c3 ⊢
  have hneN : nb ≠ R := by omega
  have HB1 := hide hB1
  have HG1 := hide hG1
  have hR1 : R < w1.heap.size := lt_of_cell c3
  clear hB1 hG1 hnb
  go_wp2_with fail
  go_loopw [9, 19] (fun vb vk wr => EManyAt E W R a c ta tc f sn set t (dp + 1) kids r x0 t0 l0 o0 w1 vb vk wr) (fun _ vk _ => (kids - intOf vk).toNat)
  case atStart => exact ⟨0, t0.size, m0, x0, noB, noB, false, t0, l0, o0, by omega, rfl, rfl, by simpa using HE.out, Nat.le_refl _, hx0, Tld.refl h4, Nat.le_refl _, fun _ => ⟨noB, (app_noB noB).symm, rfl⟩, HW0.out, fun _ _ _ _ _ h => h⟩
  case round =>
    obtain ⟨k, bf, m, x, out, last, u, t1, l1, o1, hk, rfl, rfl, hE, hx1, hx2, hT, hbf, hbl, hEw, hFr⟩ := hrel
    have HEW := hide hEw
    have HT := hide hT
    have HFR := hide hFr
    have HEE := hide hE
    have HBL := hide hbl
    clear hEw hT hFr hE hbl c3
    by_cases hlt : (k : Int) < kids
    · obtain ⟨m, rfl⟩ : ∃ m', m = m' + 1 := by
        cases m with
        | zero => have h := HEE.out; cases h
        | succ m => exact ⟨m, rfl⟩
      have HST : Hid (∀ r1, wrF E f t x (dp + 1) = some r1 → (r1 = none ∧ r = none) ∨ ∃ b' x' u', r1 = some (b', x', u') ∧ wmanyF E (wrF E f) set t (dp + 1) m (kids - k - 1) x' (out ++ b') b' (u || u' || (set && below b' last)) = some r) := fun r1 h1 => by
        have h := HEE.out
        unfold wmanyF at h
        rw [if_pos (by omega)] at h
        rcases wandThen_cases h with ⟨h2, h3⟩ | ⟨b', x', u', h2, h3⟩
        · rw [h2] at h1; injection h1 with h1; exact .inl ⟨h1.symm, h3⟩
        · rw [h2] at h1; injection h1 with h1; exact .inr ⟨b', x', u', h1.symm, h3⟩
      obtain ⟨tv, hown, hrow⟩ := HEW.out.own
      obtain ⟨bs1, cp1, rfl, _⟩ := own8 hrow
      unfold ewObj at hown
      have d3 : wr.cell? ⟨R, 3, none⟩ = some (.slice bs1 t1.size cp1) := by simp [World.cell?, hown]
      have d2 : wr.cell? ⟨R, 2, none⟩ = some (.int .i64 (x : Int)) := by simp [World.cell?, hown]
      have hRr : R < wr.heap.size := lt_of_cell d3
      clear hown hrow
      go_wp2_with fail
      go_quiet (fail)
      have HEW2 := hide (HEW.out.below (Go.below_drewN (Below.refl wr.heap.size wr) nq))
      have HFR2 : Hid (FrE R w1 (wr.drewN nq)) := HFR.out.trans (FrE.of_below (Go.below_drewN (Below.refl _ _) nq))
      generalize wr.drewN nq = w2 at HEW2 HFR2 ⊢
      obtain ⟨r1, hr1⟩ := wrF_some (E := E) f t x (dp + 1) (by omega) hf1
      have HCA : Hid (Calls Tryz.prog 75 #[.pointer (some ⟨R, 0, none⟩), .int .i64 t, .int .i64 (dp + 1)] w2 fun e w' => AfterE E W R a c ta tc sn r1 t1 l1 o1 w2 e w') := HNN.out t x (dp + 1) r1 t1 l1 o1 w2 hr1 htl hx2 (by omega) hf1 (by omega) (by omega) HT.out.mx HEW2.out
      have HR1 := hide hr1
      have hgn := HFR2.out _ _ _ hneN (by decide) HG1.out
      have n3 : w2.cell? ⟨nb, 3, none⟩ = some (.slice (some ⟨b, o, none⟩) 1 kc) := cell_of_row hgn rfl
      have k0 : w2.cell? ⟨b, o, none⟩ = some (.int .i64 t) := by
        have := (HEW2.out.bel.cell (lt_of_cell KC0.out)).trans KC0.out
        simpa using this
      have hlb := lt_of_cell k0
      simp only at hlb
      have hln := lt_of_cell n3
      simp only at hln
      have hwr : IntKind.i64.wrap (dp + 1) = dp + 1 := by rw [IntKind.wrap_i64]; omega
      clear d3 d2 hRr hr1 hgn
      go_wp2_with fail
      refine HCA.out.mono ?_
      rintro e w3 ⟨hF3, ⟨b', x', u', t2, l2, o2, hq, rfl, hT2, hE3⟩ | ⟨hq, p, x', t2, l2, ov, rfl, hE3⟩⟩
      · have HE3 := hide hE3
        have HF3 : Hid (FrE R w1 w3) := HFR2.out.trans hF3
        have HT2 := hide hT2
        have HX3 : Hid (wmanyF E (wrF E f) set t (dp + 1) m (kids - k - 1) x' (out ++ b') b' (u || u' || (set && below b' last)) = some r ∧ x0 ≤ x' ∧ x' ≤ E.t.length) := by
          have hadv := wrF_adv f t x (dp + 1) r1 HR1.out b' x' u' hq
          rcases HST.out r1 HR1.out with h2 | ⟨b2, x2, u2, h2, h3⟩
          · rw [h2.1] at hq; cases hq
          · rw [hq] at h2
            injection h2 with h2
            injection h2 with e1 h2
            injection h2 with e2 e3
            subst e1 e2 e3
            exact ⟨h3, by omega, hadv.2.1⟩
        -- the round's end, with some order
        have HREL : Hid (∀ (o3 : Option Int) (wq : World), EwD W wq R a E.s.length c ta E.t.length tc x' t2 l2 (ovV sn o3) → FrE R w1 wq → (l2 = false → o3.isSome = (o2.isSome || (set && below b' last))) → EManyAt E W R a c ta tc f sn set t (dp + 1) kids r x0 t0 l0 o0 w1 (.int .i64 t1.size) (.int .i64 ((k : Int) + 1)) wq) := fun o3 wq h1 h2 h3 => by
          refine ⟨k + 1, t1.size, m, x', out ++ b', b', u || u' || (set && below b' last), t2, l2, o3, by omega, by simp, rfl, ?_, HX3.out.2.1, HX3.out.2.2, (HT.out.trans HT2.out).order h3, HT2.out.le, fun q => ⟨out, rfl, ?_⟩, h1, h2⟩
          · rw [show kids - ((k + 1 : Nat) : Int) = kids - k - 1 by omega]; exact HX3.out.1
          · have hl1 : l1 = false := by
              cases hl : l1
              · rfl
              · rw [HT2.out.mono hl] at q; cases q
            rw [HT.out.told hl1, ByteArray.size_append]
        have HBE : Hid (l2 = false → Op.bytesLess (t2.data.toList.drop t1.size) ((t2.data.toList.drop bf).take (t1.size - bf)) = below b' last) := fun q => by
          have hl1 : l1 = false := by
            cases hl : l1
            · rfl
            · rw [HT2.out.mono hl] at q; cases q
          obtain ⟨out', e1, e2⟩ := HBL.out hl1
          have e3 := HT.out.told hl1
          rw [HT2.out.told q, e3, e1]
          exact below_at e2 (by rw [ByteArray.size_append, ByteArray.size_append]; omega)
        obtain ⟨tv, hown, hrow⟩ := HE3.out.own
        obtain ⟨bs2, cp2, rfl, hcp1, hcp2, hbs2⟩ := own8 hrow
        have HROW := hide hrow
        unfold ewObj at hown
        have g3 : w3.cell? ⟨R, 3, none⟩ = some (.slice bs2 t2.size cp2) := by simp [World.cell?, hown]
        have g5 : w3.cell? ⟨R, 5, none⟩ = some (ovV sn o2) := by simp [World.cell?, hown]
        have f5 : w3.frozen? ⟨R, 5, none⟩ = false := by simp [World.frozen?, hown]
        have hR3 : R < w3.heap.size := lt_of_cell g3
        have hgn := HF3.out _ _ _ hneN (by decide) HG1.out
        have n0 : w3.cell? ⟨nb, 0, none⟩ = some (.int .i64 K) := cell_of_row hgn rfl
        have hln3 := lt_of_cell n0
        simp only at hln3
        have htt := HT2.out.le
        have hwk : IntKind.i64.wrap ((k : Int) + 1) = (k : Int) + 1 := by rw [IntKind.wrap_i64]; omega
        clear hF3 hT2 hE3 hq n3 k0 hlb hln hown hrow hgn
        by_cases hK : K = 12
        · subst hK
          obtain rfl : set = true := by rw [← HSET.out]; rfl
          cases o2 with
          | some p =>
            unfold ovV fault at g5
            go_wp2_with fail
            go_quiet (fail)
            have HE4 := hide (HE3.out.below (Go.below_drewN (Below.refl w3.heap.size w3) nq))
            have HF4 : Hid (FrE R w1 (w3.drewN nq)) := HF3.out.trans (FrE.of_below (Go.below_drewN (Below.refl _ _) nq))
            generalize w3.drewN nq = w4 at HE4 HF4 ⊢
            clear g3 g5 f5 hR3 n0 hln3
            go_wp2
            go_roundw
            case rel => exact HREL.out (some p) _ HE4.out HF4.out (fun _ => by simp)
            case measure => (simp [intOf]; omega)
          | none =>
            unfold ovV at g5
            obtain ⟨z, hz⟩ : ∃ z, Op.bytesLess (t2.data.toList.drop t1.size) ((t2.data.toList.drop bf).take (t1.size - bf)) = z := ⟨_, rfl⟩
            have hzc := less_iff (t2.data.toList.drop t1.size) ((t2.data.toList.drop bf).take (t1.size - bf))
            rw [hz] at hzc
            have HZZ : Hid (∀ o3 : Option Int, o3.isSome = z → (l2 = false → o3.isSome = ((none : Option Int).isSome || (true && below b' last)))) := fun o3 h q => by
              rw [h, ← hz, HBE.out q]; simp
            obtain ⟨cz, hcz⟩ : ∃ cz, Lib.compareBytes (t2.data.toList.drop t1.size) ((t2.data.toList.drop bf).take (t1.size - bf)) = cz := ⟨_, rfl⟩
            rw [hcz] at hzc
            obtain ⟨va, vb2, HSL⟩ : ∃ va vb2 : Value, Hid ((∀ wq : World, (∀ x, wq.cell? x = w3.cell? x) → Calls Tryz.prog 184 #[va, vb2] wq fun e w' => e = .returned (.int .i64 cz) ∧ w' = wq) ∧
                ((bs2 = none ∧ va = .slice none 0 0 ∧ vb2 = .slice none 0 0 ∧ t2.size = 0 ∧ cp2 = 0) ∨
                 (∃ g, bs2 = some ⟨g, 0, none⟩ ∧ va = (if cp2 = t1.size then .slice (some ⟨g, 0, none⟩) (t2.size - t1.size) 0 else .slice (some ⟨g, t1.size, none⟩) (t2.size - t1.size) (cp2 - t1.size)) ∧ vb2 = (if cp2 = bf then .slice (some ⟨g, 0, none⟩) (t1.size - bf) (if cp2 = t1.size then t1.size - bf else cp2 - bf) else .slice (some ⟨g, bf, none⟩) (t1.size - bf) (if cp2 = t1.size then t1.size - bf else cp2 - bf))))) := by
              have hl2 : t2.data.toList.length = t2.size := Array.length_toList
              rcases HROW.out.2 with ⟨q, h0⟩ | ⟨g, cap, cur, q, _, hg, h1, _, _, hct⟩
              · injection q with q1 q2 q3
                refine ⟨.slice none 0 0, .slice none 0 0, fun wq hq => ?_, .inl ⟨q1, rfl, rfl, h0, q3⟩⟩
                have e0 : t2.data.toList = [] := List.length_eq_zero_iff.1 (by omega)
                rw [e0] at hcz
                simp only [List.drop_nil, List.take_nil] at hcz
                rw [← hcz]
                exact bcompare_any _ _ [] [] wq (.inl ⟨rfl, rfl⟩) (.inl ⟨rfl, rfl⟩)
              · injection q with q1 q2 q3
                subst q3
                rw [Nat.mul_one] at hct
                refine ⟨_, _, fun wq hq => ?_, .inr ⟨g, q1, rfl, rfl⟩⟩
                have keep : ∀ {v l}, BytesAt w3 v l → BytesAt wq v l := fun {v l} h => by
                  rcases h with h | ⟨a', c', e', h⟩
                  · exact .inl h
                  · exact .inr ⟨a', c', e', fun j x hj => (hq _).trans (h j x hj)⟩
                rw [← hcz]
                refine bcompare_any _ _ _ _ wq (keep ?_) (keep ?_)
                · split
                  · rename_i hc
                    rw [List.drop_of_length_le (by omega), show t2.size - t1.size = 0 by omega]
                    exact .inr ⟨_, _, rfl, fun j x hj => by simp at hj⟩
                  · exact bytes_from hg hct htt _
                · split
                  · rename_i hc
                    rw [show t1.size - bf = 0 by omega, List.take_zero]
                    exact .inr ⟨_, _, rfl, fun j x hj => by simp at hj⟩
                  · exact bytes_mid hg hct hbf htt _
            have HCMP : Hid (∀ n, Calls Tryz.prog 184 #[va, vb2] (w3.drewN n) fun e w' => e = .returned (.int .i64 cz) ∧ w' = w3.drewN n) := fun n => HSL.out.1 _ (fun _ => by simp)
            have hi1 : (t1.size : Int) ≤ (t2.size : Int) := by omega
            have hi2 : (bf : Int) ≤ (t1.size : Int) := by omega
            have hsl := HSL.out.2
            have HZ := hide hzc
            have HDZ := hide (And.intro hz hcz)
            clear HSL hz hcz
            have hAT : ∀ wq, Calls Tryz.prog 60 #[.int .i64 x, .iface 291 (.pointer (some (sn .Order)))] wq fun e w' => e = .returned (fault x (sn .Order)) ∧ w' = wq := fun wq => at_any x _ wq
            unfold fault at hAT
            have HAT := hide hAT
            clear hAT
            rcases hsl with ⟨rfl, rfl, rfl, h0, rfl⟩ | ⟨g, rfl, hva, hvb⟩
            · have hz0 : t1.size = 0 := by omega
              have hb0 : bf = 0 := by omega
              subst hb0
              have hz0i : (t1.size : Int) = 0 := by omega
              have h0i : (t2.size : Int) = 0 := by omega
              by_cases hcz : cz < 0
              · have hcb : decide (cz < 0) = true := decide_eq_true hcz
                have HO3 : Hid (∀ o3 : Option Int, o3.isSome = true → (l2 = false → o3.isSome = ((none : Option Int).isSome || (true && below b' last)))) := fun o3 h => HZZ.out o3 (by rw [h, ← HZ.out, hcb])
                clear HZZ HZ HDZ HBE
                go_wp2_with fail
                go_quiet ((go_at_call 184; exact Calls.quiet_of_same (HCMP.out _)))
                have HE4 := hide (HE3.out.below (Go.below_drewN (Below.refl w3.heap.size w3) nq))
                have HF4 : Hid (FrE R w1 (w3.drewN nq)) := HF3.out.trans (FrE.of_below (Go.below_drewN (Below.refl _ _) nq))
                generalize w3.drewN nq = w4 at HE4 HF4 ⊢
                clear g3 g5 f5 hR3 n0 hln3 HCMP
                have cO := (HC.out.lay.below HE4.out.bel).s.cOrder
                have hgO := lt_of_cell cO
                simp only at hgO
                obtain ⟨tv4, hown4, _⟩ := HE4.out.own
                unfold ewObj at hown4
                have f4 : w4.frozen? ⟨R, 5, none⟩ = false := by simp [World.frozen?, hown4]
                have g4 : w4.cell? ⟨R, 5, none⟩ = some (ovV sn none) := by simp [World.cell?, hown4]
                unfold ovV at g4
                have hR4 : R < w4.heap.size := lt_of_cell g4
                clear hown4
                go_wp2_with fail
                refine (HAT.out _).mono ?_
                rintro e w5 ⟨rfl, rfl⟩
                go_wp2
                go_roundw
                case rel => exact by have h := HREL.out (some (x : Int)) _ (HE4.out.setOrder (fault x (sn .Order))) (HF4.out.trans (FrE.set 5 _)) (HO3.out _ rfl); rw [hz0] at h; exact h
                case measure => (simp [intOf]; omega)
              · have hcb : decide (cz < 0) = false := decide_eq_false hcz
                have HCB := hide hcb
                have HO3 : Hid (l2 = false → (none : Option Int).isSome = ((none : Option Int).isSome || (true && below b' last))) := HZZ.out none (by rw [← HZ.out, hcb]; rfl)
                clear HZZ HZ HDZ HBE hcz hcb
                go_wp2_with fail
                go_quiet ((go_at_call 184; exact Calls.quiet_of_same (HCMP.out _)))
                have HE4 := hide (HE3.out.below (Go.below_drewN (Below.refl w3.heap.size w3) nq))
                have HF4 : Hid (FrE R w1 (w3.drewN nq)) := HF3.out.trans (FrE.of_below (Go.below_drewN (Below.refl _ _) nq))
                generalize w3.drewN nq = w4 at HE4 HF4 ⊢
                clear g3 g5 f5 hR3 n0 hln3 HCMP
                obtain rfl : z = false := hzc.symm.trans HCB.out
                clear hzc
                go_wp2
                go_roundw
                case rel => exact by have h := HREL.out none _ HE4.out HF4.out HO3.out; rw [hz0] at h; exact h
                case measure => (simp [intOf]; omega)
            · by_cases hc1 : cp2 = t1.size
              · rw [if_pos hc1] at hva
                by_cases hc2 : cp2 = bf
                · rw [if_pos hc2, if_pos hc1] at hvb
                  subst hva hvb
                  by_cases hcz : cz < 0
                  · have hcb : decide (cz < 0) = true := decide_eq_true hcz
                    have HO3 : Hid (∀ o3 : Option Int, o3.isSome = true → (l2 = false → o3.isSome = ((none : Option Int).isSome || (true && below b' last)))) := fun o3 h => HZZ.out o3 (by rw [h, ← HZ.out, hcb])
                    clear HZZ HZ HDZ HBE
                    go_wp2_with fail
                    go_quiet ((go_at_call 184; exact Calls.quiet_of_same (HCMP.out _)))
                    have HE4 := hide (HE3.out.below (Go.below_drewN (Below.refl w3.heap.size w3) nq))
                    have HF4 : Hid (FrE R w1 (w3.drewN nq)) := HF3.out.trans (FrE.of_below (Go.below_drewN (Below.refl _ _) nq))
                    generalize w3.drewN nq = w4 at HE4 HF4 ⊢
                    clear g3 g5 f5 hR3 n0 hln3 HCMP
                    have cO := (HC.out.lay.below HE4.out.bel).s.cOrder
                    have hgO := lt_of_cell cO
                    simp only at hgO
                    obtain ⟨tv4, hown4, _⟩ := HE4.out.own
                    unfold ewObj at hown4
                    have f4 : w4.frozen? ⟨R, 5, none⟩ = false := by simp [World.frozen?, hown4]
                    have g4 : w4.cell? ⟨R, 5, none⟩ = some (ovV sn none) := by simp [World.cell?, hown4]
                    unfold ovV at g4
                    have hR4 : R < w4.heap.size := lt_of_cell g4
                    clear hown4
                    go_wp2_with fail
                    refine (HAT.out _).mono ?_
                    rintro e w5 ⟨rfl, rfl⟩
                    go_wp2
                    go_roundw
                    case rel => exact HREL.out (some (x : Int)) _ (HE4.out.setOrder (fault x (sn .Order))) (HF4.out.trans (FrE.set 5 _)) (HO3.out _ rfl)
                    case measure => (simp [intOf]; omega)
                  · have hcb : decide (cz < 0) = false := decide_eq_false hcz
                    have HCB := hide hcb
                    have HO3 : Hid (l2 = false → (none : Option Int).isSome = ((none : Option Int).isSome || (true && below b' last))) := HZZ.out none (by rw [← HZ.out, hcb]; rfl)
                    clear HZZ HZ HDZ HBE hcz hcb
                    go_wp2_with fail
                    go_quiet ((go_at_call 184; exact Calls.quiet_of_same (HCMP.out _)))
                    have HE4 := hide (HE3.out.below (Go.below_drewN (Below.refl w3.heap.size w3) nq))
                    have HF4 : Hid (FrE R w1 (w3.drewN nq)) := HF3.out.trans (FrE.of_below (Go.below_drewN (Below.refl _ _) nq))
                    generalize w3.drewN nq = w4 at HE4 HF4 ⊢
                    clear g3 g5 f5 hR3 n0 hln3 HCMP
                    obtain rfl : z = false := hzc.symm.trans HCB.out
                    clear hzc
                    go_wp2
                    go_roundw
                    case rel => exact HREL.out none _ HE4.out HF4.out HO3.out
                    case measure => (simp [intOf]; omega)
                · rw [if_neg hc2, if_pos hc1] at hvb
                  subst hva hvb
                  by_cases hcz : cz < 0
                  · have hcb : decide (cz < 0) = true := decide_eq_true hcz
                    have HO3 : Hid (∀ o3 : Option Int, o3.isSome = true → (l2 = false → o3.isSome = ((none : Option Int).isSome || (true && below b' last)))) := fun o3 h => HZZ.out o3 (by rw [h, ← HZ.out, hcb])
                    clear HZZ HZ HDZ HBE
                    go_wp2_with fail
                    go_quiet ((go_at_call 184; exact Calls.quiet_of_same (HCMP.out _)))
                    have HE4 := hide (HE3.out.below (Go.below_drewN (Below.refl w3.heap.size w3) nq))
                    have HF4 : Hid (FrE R w1 (w3.drewN nq)) := HF3.out.trans (FrE.of_below (Go.below_drewN (Below.refl _ _) nq))
                    generalize w3.drewN nq = w4 at HE4 HF4 ⊢
                    clear g3 g5 f5 hR3 n0 hln3 HCMP
                    have cO := (HC.out.lay.below HE4.out.bel).s.cOrder
                    have hgO := lt_of_cell cO
                    simp only at hgO
                    obtain ⟨tv4, hown4, _⟩ := HE4.out.own
                    unfold ewObj at hown4
                    have f4 : w4.frozen? ⟨R, 5, none⟩ = false := by simp [World.frozen?, hown4]
                    have g4 : w4.cell? ⟨R, 5, none⟩ = some (ovV sn none) := by simp [World.cell?, hown4]
                    unfold ovV at g4
                    have hR4 : R < w4.heap.size := lt_of_cell g4
                    clear hown4
                    go_wp2_with fail
                    refine (HAT.out _).mono ?_
                    rintro e w5 ⟨rfl, rfl⟩
                    go_wp2
                    go_roundw
                    case rel => exact HREL.out (some (x : Int)) _ (HE4.out.setOrder (fault x (sn .Order))) (HF4.out.trans (FrE.set 5 _)) (HO3.out _ rfl)
                    case measure => (simp [intOf]; omega)
                  · have hcb : decide (cz < 0) = false := decide_eq_false hcz
                    have HCB := hide hcb
                    have HO3 : Hid (l2 = false → (none : Option Int).isSome = ((none : Option Int).isSome || (true && below b' last))) := HZZ.out none (by rw [← HZ.out, hcb]; rfl)
                    clear HZZ HZ HDZ HBE hcz hcb
                    go_wp2_with fail
                    go_quiet ((go_at_call 184; exact Calls.quiet_of_same (HCMP.out _)))
                    have HE4 := hide (HE3.out.below (Go.below_drewN (Below.refl w3.heap.size w3) nq))
                    have HF4 : Hid (FrE R w1 (w3.drewN nq)) := HF3.out.trans (FrE.of_below (Go.below_drewN (Below.refl _ _) nq))
                    generalize w3.drewN nq = w4 at HE4 HF4 ⊢
                    clear g3 g5 f5 hR3 n0 hln3 HCMP
                    obtain rfl : z = false := hzc.symm.trans HCB.out
                    clear hzc
                    go_wp2
                    go_roundw
                    case rel => exact HREL.out none _ HE4.out HF4.out HO3.out
                    case measure => (simp [intOf]; omega)
              · have hc2 : ¬ cp2 = bf := by omega
                rw [if_neg hc1] at hva
                rw [if_neg hc2, if_neg hc1] at hvb
                subst hva hvb
                by_cases hcz : cz < 0
                · have hcb : decide (cz < 0) = true := decide_eq_true hcz
                  have HO3 : Hid (∀ o3 : Option Int, o3.isSome = true → (l2 = false → o3.isSome = ((none : Option Int).isSome || (true && below b' last)))) := fun o3 h => HZZ.out o3 (by rw [h, ← HZ.out, hcb])
                  clear HZZ HZ HDZ HBE
                  go_wp2_with fail
                  go_quiet ((go_at_call 184; exact Calls.quiet_of_same (HCMP.out _)))
                  have HE4 := hide (HE3.out.below (Go.below_drewN (Below.refl w3.heap.size w3) nq))
                  have HF4 : Hid (FrE R w1 (w3.drewN nq)) := HF3.out.trans (FrE.of_below (Go.below_drewN (Below.refl _ _) nq))
                  generalize w3.drewN nq = w4 at HE4 HF4 ⊢
                  clear g3 g5 f5 hR3 n0 hln3 HCMP
                  have cO := (HC.out.lay.below HE4.out.bel).s.cOrder
                  have hgO := lt_of_cell cO
                  simp only at hgO
                  obtain ⟨tv4, hown4, _⟩ := HE4.out.own
                  unfold ewObj at hown4
                  have f4 : w4.frozen? ⟨R, 5, none⟩ = false := by simp [World.frozen?, hown4]
                  have g4 : w4.cell? ⟨R, 5, none⟩ = some (ovV sn none) := by simp [World.cell?, hown4]
                  unfold ovV at g4
                  have hR4 : R < w4.heap.size := lt_of_cell g4
                  clear hown4
                  go_wp2_with fail
                  refine (HAT.out _).mono ?_
                  rintro e w5 ⟨rfl, rfl⟩
                  go_wp2
                  go_roundw
                  case rel => exact HREL.out (some (x : Int)) _ (HE4.out.setOrder (fault x (sn .Order))) (HF4.out.trans (FrE.set 5 _)) (HO3.out _ rfl)
                  case measure => (simp [intOf]; omega)
                · have hcb : decide (cz < 0) = false := decide_eq_false hcz
                  have HCB := hide hcb
                  have HO3 : Hid (l2 = false → (none : Option Int).isSome = ((none : Option Int).isSome || (true && below b' last))) := HZZ.out none (by rw [← HZ.out, hcb]; rfl)
                  clear HZZ HZ HDZ HBE hcz hcb
                  go_wp2_with fail
                  go_quiet ((go_at_call 184; exact Calls.quiet_of_same (HCMP.out _)))
                  have HE4 := hide (HE3.out.below (Go.below_drewN (Below.refl w3.heap.size w3) nq))
                  have HF4 : Hid (FrE R w1 (w3.drewN nq)) := HF3.out.trans (FrE.of_below (Go.below_drewN (Below.refl _ _) nq))
                  generalize w3.drewN nq = w4 at HE4 HF4 ⊢
                  clear g3 g5 f5 hR3 n0 hln3 HCMP
                  obtain rfl : z = false := hzc.symm.trans HCB.out
                  clear hzc
                  go_wp2
                  go_roundw
                  case rel => exact HREL.out none _ HE4.out HF4.out HO3.out
                  case measure => (simp [intOf]; omega)
        · have hKb : (K == 12) = false := by simpa using hK
          obtain rfl : set = false := by rw [← HSET.out]; simpa using hK
          go_wp2_with fail
          go_quiet (fail)
          have HE4 := hide (HE3.out.below (Go.below_drewN (Below.refl w3.heap.size w3) nq))
          have HF4 : Hid (FrE R w1 (w3.drewN nq)) := HF3.out.trans (FrE.of_below (Go.below_drewN (Below.refl _ _) nq))
          generalize w3.drewN nq = w4 at HE4 HF4 ⊢
          clear g3 g5 f5 hR3 n0 hln3
          go_wp2
          go_roundw
          case rel => exact HREL.out o2 _ HE4.out HF4.out (fun _ => by simp)
          case measure => (simp [intOf]; omega)
      · have HE3 := hide hE3
        have HF3 : Hid (FrE R w w3) := (FrE.of_below HB1.out).trans (HFR2.out.trans hF3)
        have HX3 : Hid (r = none) := by
          rcases HST.out r1 HR1.out with h2 | ⟨b2, x2, u2, h2, h3⟩
          · exact h2.2
          · rw [hq] at h2; cases h2
        clear hF3 hE3 hq
        unfold fault
        go_wp2
        go_ret
        exact ⟨HF3.out, .inr ⟨HX3.out, p, x', t2, l2, ov, rfl, HE3.out⟩⟩
    · have HX : Hid (r = some (out, x, u)) := by
        have h := HEE.out
        cases m with
        | zero => cases h
        | succ m =>
          unfold wmanyF at h
          rw [if_neg (by omega)] at h
          injection h with h
          exact h.symm
      have hge : ¬ (k : Int) < kids := hlt
      go_wp2
      go_ret
      exact ⟨(FrE.of_below HB1.out).trans HFR.out, .inl ⟨out, x, u, t1, l1, o1, HX.out, rfl, HT.out, HEW.out⟩⟩
end Go.Proofs.YtkkicodfpekbgaaGreatDoor

/-! The program's writer: wrap. -/
namespace Go.Proofs.YtkkicodfpekbgaaGreatDoor
set_option linter.unusedSimpArgs false
set_option linter.unusedVariables false
open Go.RowKit

set_option maxHeartbeats 1000000 in
set_option maxRecDepth 100000 in
/-- A first byte and a length, as a head. -/
theorem fhead_any (c n : Int) (b : Bool) (l : Int) (w : World) :
    Calls Tryz.prog 155 #[.agg #[.int .i64 c, .int .i64 n, .bool b], .int .i64 l] w fun e w' => e = .returned (.agg #[.int .i64 c, .bool b, .int .i64 n, .int .i64 0, .int .i64 l]) ∧ Below w.heap.size w w' := by
  have HB : Hid (Below w.heap.size w w) := Below.refl _ _
  go_enter Tryz.func155, Tryz.ntmps155
  go_wp2
  refine bodyPost_ret (v := .agg #[.int .i64 c, .bool b, .int .i64 n, .int .i64 0, .int .i64 l]) (by simp [results, Tryz.results155, go_sem]) rfl ⟨rfl, ?_⟩
  exact ((Below.refl _ _).alloc (Nat.le_refl _) _).alloc (by simp) _

theorem tell_hd (c n : Int) (b : Bool) (l : Nat) (w : World) (sn : Sn → Addr) (hs : Sent w sn) (q1 : 0 ≤ c) (q2 : c ≤ 3) (q3 : 0 ≤ n) (q4 : n ≤ 30) (q5 : l ≤ 16777215) :
    Calls Tryz.prog 154 #[.agg #[.int .i64 c, .bool b, .int .i64 n, .int .i64 0, .int .i64 l]] w fun e w' => e = .returned (.tuple #[.string (hdB c b n l), .nilIface]) ∧ Below w.heap.size w w' := by
  have h := tell_any ⟨c, b, n, 0, l⟩ w sn hs
  have e : tsp ⟨c, b, n, 0, (l : Int)⟩ = (0, UInt8.ofNat (fb ⟨c, b, n, 0, (l : Int)⟩).toNat :: tl (l : Int)) := by
    unfold tsp
    rw [if_neg (by simp only; omega), if_neg (by simp only; omega)]
  rw [e] at h
  exact h

/-- What wrap leaves. -/
def AfterV (W : World) (R : Nat) (a : Option Addr) (m c : Nat) (ta : Option Addr) (tn tc x : Nat) (told : ByteArray) (lg : Bool) (ov : Value) (st : Nat) (cl : Int) (bt : Bool) (nu : Int) (w : World) (e : Ending) (w' : World) : Prop :=
  AfterI W R a m c ta tn tc x told lg ov st (hdB cl bt nu (told.size - st)) w e w'

set_option maxHeartbeats 4000000 in
set_option maxRecDepth 100000 in
theorem wrap_any (W w : World) (R : Nat) (a : Option Addr) (m c : Nat) (ta : Option Addr) (tn tc x : Nat) (told : ByteArray) (lg : Bool) (ov : Value) (sn : Sn → Addr) (hl : Lay W sn) (st : Nat) (cl nu : Int) (bt : Bool) (q1 : 0 ≤ cl) (q2 : cl ≤ 3) (q3 : 0 ≤ nu) (q4 : nu ≤ 30) (hp : st ≤ told.size) (h4 : told.size ≤ 4000) (hI : EwD W w R a m c ta tn tc x told lg ov) :
    Calls Tryz.prog 113 #[.pointer (some ⟨R, 0, none⟩), .int .i64 st, .agg #[.int .i64 cl, .int .i64 nu, .bool bt]] w fun e w' => AfterV W R a m c ta tn tc x told lg ov st cl bt nu w e w' := by
  have HI := hide hI
  have HL := hide hl
  obtain ⟨tv, hown, hrow⟩ := hI.own
  obtain ⟨bs, cp, rfl, hc1, hc2, hbs⟩ := own8 hrow
  have HG := hide hown
  have HW1 : Hid (∀ A, Below w.heap.size w (w.alloc A)) := fun A => (Below.refl _ _).alloc (Nat.le_refl _) A
  have HFH : Hid (∀ wq l, Calls Tryz.prog 155 #[.agg #[.int .i64 cl, .int .i64 nu, .bool bt], .int .i64 l] wq fun e w' => e = .returned (.agg #[.int .i64 cl, .bool bt, .int .i64 nu, .int .i64 0, .int .i64 l]) ∧ Below wq.heap.size wq w') := fun wq l => fhead_any cl nu bt l wq
  obtain ⟨D, hD⟩ : ∃ D : Nat, told.size - st = D := ⟨_, rfl⟩
  have hDi : (told.size : Int) - (st : Int) = (D : Int) := by omega
  have hD4 : D ≤ 4000 := by omega
  have HTL : Hid (∀ wq, Below w.heap.size w wq → Calls Tryz.prog 154 #[.agg #[.int .i64 cl, .bool bt, .int .i64 nu, .int .i64 0, .int .i64 D]] wq fun e w' => e = .returned (.tuple #[.string (hdB cl bt nu D), .nilIface]) ∧ Below wq.heap.size wq w') := fun wq q => tell_hd cl nu bt D wq sn ((HL.out.below HI.out.bel).below q).s q1 q2 q3 q4 (by omega)
  have hhs : (hdB cl bt nu D).size ≤ 140737488355328 := by
    have := tl_le D
    unfold hdB
    rw [size_mk, List.length_cons]
    omega
  have HIN : Hid (∀ wq, EwD W wq R a m c ta tn tc x told lg ov → Calls Tryz.prog 149 #[.pointer (some ⟨R, 0, none⟩), .int .i64 st, .string (hdB cl bt nu D)] wq fun e w' => AfterI W R a m c ta tn tc x told lg ov st (hdB cl bt nu D) wq e w') := fun wq q => insert_any W wq R a m c ta tn tc x told lg ov st (hdB cl bt nu D) hp h4 hhs q
  unfold AfterV
  rw [hD]
  have HS : Hid (∀ wq, Below w.heap.size w wq → wq.cell? ⟨R, 3, none⟩ = some (.slice bs told.size cp)) := fun wq q => by
    have h := block_below HG.out q
    unfold ewObj at h
    simp [World.cell?, h]
  have hRl : R < w.heap.size := row_lt hown
  have hwr : IntKind.i64.wrap ((told.size : Int) - (st : Int)) = (D : Int) := by
    rw [hDi]
    simp [IntKind.wrap, IntKind.bits, IntKind.signed]
    omega
  have hwr2 : IntKind.i64.wrap (D : Int) = (D : Int) := by
    simp [IntKind.wrap, IntKind.bits, IntKind.signed]
    omega
  clear hI hl hown hrow hbs hD q1 q2 q3 q4 hhs
  go_enter Tryz.func113, Tryz.ntmps113
  go_wp2_with fail
  generalize hW1 : w.alloc (.cells #[.int .i64 cl, .int .i64 nu, .bool bt] 149) = w1
  have hB1 : Below w.heap.size w w1 := by rw [← hW1]; exact HW1.out _
  have hG1 : w1.heap[w.heap.size]? = some (.cells #[.int .i64 cl, .int .i64 nu, .bool bt] 149 (0, 0)) := by rw [← hW1]; exact heap_alloc_new w _
  have HB1 := hide hB1
  have HST : Hid (∀ wq, Below w1.heap.size w1 wq → wq.cell? ⟨R, 3, none⟩ = some (.slice bs told.size cp) ∧ wq.cell? ⟨w.heap.size, 0, none⟩ = some (.int .i64 cl) ∧ wq.cell? ⟨w.heap.size, 1, none⟩ = some (.int .i64 nu) ∧ wq.cell? ⟨w.heap.size, 2, none⟩ = some (.bool bt)) := fun wq q =>
    ⟨HS.out wq (HB1.out.trans (q.mono HB1.out.size)), cell_of_row (block_below hG1 q) rfl, cell_of_row (block_below hG1 q) rfl, cell_of_row (block_below hG1 q) rfl⟩
  obtain ⟨k0, k1, k2, k3⟩ := HST.out w1 (Below.refl _ _)
  have hl1 := row_lt hG1
  have hR1 : R < w1.heap.size := by have := hB1.size; omega
  clear hW1 hB1 hG1
  go_region_held_law (fun w' => w'.cell? ⟨R, 3, none⟩ = some (.slice bs told.size cp) ∧ w'.cell? ⟨w.heap.size, 0, none⟩ = some (.int .i64 cl) ∧ w'.cell? ⟨w.heap.size, 1, none⟩ = some (.int .i64 nu) ∧ w'.cell? ⟨w.heap.size, 2, none⟩ = some (.bool bt)) (first | exact HST.out _ HB3.out | exact HST.out _ HB2.out | exact HST.out _ (Below.refl _ _).drew | go_keep) (first | (go_at_call 155; refine (HFH.out _ _).mono ?_; rintro e w2 ⟨rfl, hb2⟩; have HB2 : Hid (Below w1.heap.size w1 w2) := (Below.refl w1.heap.size w1).drew.trans hb2; clear hb2) | (go_at_call 154; refine (HTL.out _ (HB1.out.trans (HB2.out.mono HB1.out.size))).mono ?_; rintro e w3 ⟨rfl, hb3⟩; have HB3 : Hid (Below w1.heap.size w1 w3) := HB2.out.trans (hb3.mono HB2.out.size); clear hb3))
  rename_i hHeld
  clear hHeld
  go_wp2_with fail
  refine (HIN.out _ (HI.out.below (HB1.out.trans (HB3.out.mono HB1.out.size)))).mono ?_
  rintro e w4 ⟨rfl, hF4, t4, l4, hi4, hE4⟩
  have HF4 := hide hF4
  have HI4 := hide hi4
  have HE4 := hide hE4
  clear hF4 hi4 hE4
  go_wp2
  go_returns
  exact ⟨rfl, (FrX.of_below (HB1.out.trans (HB3.out.mono HB1.out.size))).trans HF4.out, t4, l4, HI4.out, HE4.out⟩
end Go.Proofs.YtkkicodfpekbgaaGreatDoor
