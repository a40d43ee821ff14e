/-
  The document's reader: node, of the kinds 1 to 9: the pure part.
-/
import Derived.Test.YtjceeljaljdmoaaGreatDoorRv
import Derived.Test.YtjceeljaljdmoaaGreatDoorAp
namespace Go.Proofs.YtjceeljaljdmoaaGreatDoor
open Go.RowKit

/-- The disjunction of RetN. -/
def NodeD (N : Nd) (data : ByteArray) (x y : Nat) (dp : Int) (tree tree' : List Vl) (v e' : Int) : Prop :=
  (e' = 0 ∧ ∃ to u, v = (to : Nat) ∧ NodeAt N data x y dp to u ∧ tree' = tree ++ [⟨N.kind, u, 0, 0⟩]) ∨ (e' ≠ 0 ∧ ∀ to u, ¬ NodeAt N data x y dp to u)
theorem nodeA {N : Nd} {data : ByteArray} {x y z l : Nat} {dp : Int} {tree tree' : List Vl} {p e' p' hc hn : Int} {hb : Bool} (cl nu : Int) (hk : (hd (data.extract x y)).1 = 0) (hH : (hd (data.extract x y)).2 = ⟨hc, hb, hn, z, l⟩)
    (hcn : (N.tag < 0 ∧ cl = 0 ∧ nu = own N.kind) ∨ (0 ≤ N.tag ∧ N.mode = 0 ∧ cl = 2 ∧ nu = N.tag))
    (h : BareL N.kind cl nu ⟨hc, hb, hn, z, l⟩ data x z (x + z + l) dp tree p tree' e' p') : NodeD N data x y dp tree tree' ((x : Int) + z + l) e' := by
  have hto : ∀ to u, NodeAt N data x y dp to u → to = x + z + l ∧ hc = cl ∧ hn = nu ∧ hb = false ∧ dp ≤ 12 ∧ u = data.extract (x + z) (x + z + l) ∧ ContentOk N.kind u := by
    rintro to u ⟨h1, _, h3, h4⟩
    rw [hH] at h3 h4
    simp only [Int.toNat_natCast] at h3 h4
    have : to = x + z + l := by omega
    subst this
    rcases h4 with ⟨q1, q2, q3, q4, q5, q6⟩ | ⟨q1, q2, q3, q4, q5, q6, q7⟩ | ⟨q1, q2, _⟩
    · rcases hcn with ⟨_, r1, r2⟩ | ⟨r0, _⟩
      · exact ⟨rfl, q2.trans r1.symm, q3.trans r2.symm, q4, h1, q5, q6⟩
      · omega
    · rcases hcn with ⟨r0, _⟩ | ⟨_, _, r1, r2⟩
      · omega
      · exact ⟨rfl, q3.trans r1.symm, q4.trans r2.symm, q5, h1, q6, q7⟩
    · rcases hcn with ⟨r0, _⟩ | ⟨_, r1, _⟩
      · omega
      · exact absurd r1 q2
  rcases h with ⟨h1, _, h3, _⟩ | ⟨_, h2, _, h3, _⟩ | ⟨⟨h1, h2, h3⟩, h4, h5, h6, h7, _⟩ | ⟨_, _, h5, _, h7, _⟩
  · exact .inr ⟨by omega, fun to u q => h1 ⟨(hto to u q).2.1, (hto to u q).2.2.1, (hto to u q).2.2.2.1⟩⟩
  · exact .inr ⟨by omega, fun to u q => by have := (hto to u q).2.2.2.2.1; omega⟩
  · refine .inl ⟨h7, x + z + l, _, by omega, ⟨h4, hk, by rw [hH]; simp only; omega, ?_⟩, h6⟩
    rw [hH]
    simp only [Int.toNat_natCast]
    rcases hcn with ⟨r0, r1, r2⟩ | ⟨r0, r1, r2, r3⟩
    · exact .inl ⟨r0, h1.trans r1, h2.trans r2, h3, trivial, h5⟩
    · exact .inr (.inl ⟨r0, r1, h1.trans r2, h2.trans r3, h3, trivial, h5⟩)
  · exact .inr ⟨by omega, fun to u q => h5 (by have := (hto to u q).2.2.2.2.2; rw [← this.1]; exact this.2)⟩

theorem nodeC_no {N : Nd} {data : ByteArray} {x y z l : Nat} {dp : Int} {hc hn : Int} {hb : Bool} (hH : (hd (data.extract x y)).2 = ⟨hc, hb, hn, z, l⟩) (ht : 0 ≤ N.tag) (hm : N.mode = 1)
    {to : Nat} {u : ByteArray} (h : NodeAt N data x y dp to u) : to = x + z + l ∧ hc = 2 ∧ hn = N.tag ∧ hb = true ∧ dp ≤ 12 ∧ (hd (data.extract (x + z) (x + z + l))).1 = 0 ∧
      ∀ hc2 hb2 hn2 (z2 l2 : Nat), (hd (data.extract (x + z) (x + z + l))).2 = ⟨hc2, hb2, hn2, z2, l2⟩ → hc2 = 0 ∧ hn2 = own N.kind ∧ hb2 = false ∧ x + z + z2 + l2 = x + z + l ∧ u = data.extract (x + z + z2) (x + z + l) ∧ ContentOk N.kind u := by
  obtain ⟨h1, _, h3, h4⟩ := h
  rw [hH] at h3 h4
  simp only [Int.toNat_natCast] at h3 h4
  obtain rfl : to = x + z + l := by omega
  rcases h4 with ⟨q1, _⟩ | ⟨_, q1, _⟩ | ⟨_, _, q1, q2, q3, t, rfl, q4, q5, q6, q7, q8, q9, q10⟩
  · omega
  · omega
  · refine ⟨rfl, q1, q2, q3, h1, q4, fun hc2 hb2 hn2 z2 l2 hH2 => ?_⟩
    rw [hH2] at q5 q6 q7 q8 q9
    simp only [Int.toNat_natCast] at q5 q6 q7 q8 q9
    exact ⟨q5, q6, q7, by omega, q9, q10⟩
theorem nodeC {N : Nd} {data : ByteArray} {x y z l z2 l2 : Nat} {dp : Int} {tree tree' : List Vl} {p e' p' hc hn hc2 hn2 : Int} {hb hb2 : Bool} (hk : (hd (data.extract x y)).1 = 0) (hH : (hd (data.extract x y)).2 = ⟨hc, hb, hn, z, l⟩) (ht : 0 ≤ N.tag) (hm : N.mode = 1)
    (hq : hc = 2 ∧ hn = N.tag ∧ hb = true) (hdp : dp ≤ 12) (hk2 : (hd (data.extract (x + z) (x + z + l))).1 = 0) (hH2 : (hd (data.extract (x + z) (x + z + l))).2 = ⟨hc2, hb2, hn2, z2, l2⟩)
    (h : BareL N.kind 0 (own N.kind) ⟨hc2, hb2, hn2, z2, l2⟩ data (x + z) z2 (x + z + z2 + l2) dp tree p tree' e' p') :
    (x + z + z2 + l2 = x + z + l → NodeD N data x y dp tree tree' ((x : Int) + z + l) e') ∧ (x + z + z2 + l2 ≠ x + z + l → ∀ to u, ¬ NodeAt N data x y dp to u) ∧ (e' ≠ 0 → ∀ to u, ¬ NodeAt N data x y dp to u) := by
  have hno : ∀ {to u}, NodeAt N data x y dp to u → _ := fun q => nodeC_no hH ht hm q
  have hne : e' ≠ 0 → ∀ to u, ¬ NodeAt N data x y dp to u := fun he to u q => by
    obtain ⟨r1, r2, r3, r4, r5, r6, r7⟩ := hno q
    obtain ⟨s1, s2, s3, s4, s5, s6⟩ := r7 hc2 hb2 hn2 z2 l2 hH2
    rcases h with ⟨g1, _⟩ | ⟨_, g1, _⟩ | ⟨_, _, _, _, g1, _⟩ | ⟨_, _, g1, _⟩
    · exact g1 ⟨s1, s2, s3⟩
    · omega
    · exact he g1
    · exact g1 (by rw [s4, ← s5]; exact s6)
  refine ⟨fun he => ?_, fun he to u q => he ((hno q).2.2.2.2.2.2 hc2 hb2 hn2 z2 l2 hH2).2.2.2.1, hne⟩
  by_cases he0 : e' = 0
  · left
    refine ⟨he0, x + z + l, data.extract (x + z + z2) (x + z + l), by omega, ⟨hdp, hk, by rw [hH]; simp only; omega, ?_⟩, ?_⟩
    · rw [hH]
      simp only [Int.toNat_natCast]
      refine .inr (.inr ⟨ht, by omega, hq.1, hq.2.1, hq.2.2, _, rfl, hk2, ?_⟩)
      rw [hH2]
      simp only [Int.toNat_natCast]
      rcases h with ⟨_, _, g1, _⟩ | ⟨_, _, _, g1, _⟩ | ⟨⟨g1, g2, g3⟩, _, g4, _⟩ | ⟨_, _, _, _, g1, _⟩
      · omega
      · omega
      · exact ⟨g1, g2, g3, by omega, trivial, by rw [← he]; exact g4⟩
      · omega
    · rcases h with ⟨_, _, g1, _⟩ | ⟨_, _, _, g1, _⟩ | ⟨_, _, _, g4, _⟩ | ⟨_, _, _, _, g1, _⟩
      · omega
      · omega
      · rw [← he]; exact g4
      · omega
  · exact .inr ⟨he0, hne he0⟩
end Go.Proofs.YtjceeljaljdmoaaGreatDoor
