/-
  The statement's own function: Heads.
-/
import Derived.Test.YtkkicodfpekbgaaDoorHr
import Derived.Test.YtkkicodfpekbgaaDoorRf
namespace Go.Proofs.YtkkicodfpekbgaaDoor
open Go.RowKit

set_option maxHeartbeats 2000000 in
set_option maxRecDepth 100000 in
theorem Heads_any (s : ByteArray) (h : Hd) (w : World) (sn : Sn → Addr) (hs : Sent w sn) (hm : s.size ≤ 9223372036854775807) :
    Calls Tryd.prog 3 #[.string s, hv h] w fun e w' => e = .returned (.bool true) ∧ Below w.heap.size w w' := by
  have HS : Hid (Sent w sn) := hs
  have H1 : Hid (∀ w, Sent w sn → Calls Tryd.prog 5 #[.string s] w fun e w' => e = .returned (.tuple #[hv (hd s).2, .int .i64 (hd s).1]) ∧ Below w.heap.size w w') := fun w q => head_any s w sn q hm
  have H2 : Hid (∀ w, Calls Tryd.prog 6 #[.string s] w fun e w' => e = .returned (.tuple #[hv (hd s).2, .int .i64 (hd s).1]) ∧ Below w.heap.size w w') := fun w => rHead_any s w hm
  have H3 : Hid (∀ w, Sent w sn → Calls Tryd.prog 7 #[hv h] w fun e w' => e = .returned (.tuple #[.string ⟨(tsp h).2.toArray⟩, .int .i64 (tsp h).1]) ∧ Below w.heap.size w w') := fun w q => Tell_any h w sn q
  have H4 : Hid (∀ w, Calls Tryd.prog 8 #[hv h] w fun e w' => e = .returned (.tuple #[.string ⟨(tsp h).2.toArray⟩, .int .i64 (tsp h).1]) ∧ Below w.heap.size w w') := fun w => rTell_any h w
  clear hs
  generalize (hd s).1 = k1 at H1 H2
  generalize (hd s).2 = h1 at H1 H2
  generalize (tsp h).1 = k2 at H3 H4
  generalize (⟨(tsp h).2.toArray⟩ : ByteArray) = t at H3 H4
  obtain ⟨c, b, n, z, l⟩ := h
  obtain ⟨c1, b1, n1, z1, l1⟩ := h1
  unfold hv at H1 H2 H3 H4 ⊢
  simp only at H1 H2 H3 H4 ⊢
  go_enter Tryd.func3, Tryd.ntmps3
  go_wp2_with fail
  refine Calls.mono (H1.out _ (HS.out.below ((Below.refl _ _).alloc (Nat.le_refl _) _))) ?_
  rintro e w1 ⟨rfl, hb⟩
  have HL0 : Hid (LiesH w1 w.heap.size c b n z l) := (LiesH.new w c b n z l 23).below hb
  have HB1 : Hid (Below w.heap.size w w1) := ((Below.refl w.heap.size w).alloc (Nat.le_refl _) _).trans (hb.mono (by simp))
  clear hb
  go_wp2_with fail
  refine Calls.mono (H2.out _) ?_
  rintro e w2 ⟨rfl, hb⟩
  have HL1 : Hid (LiesH w2 w.heap.size c b n z l) := (HL0.out.alloc _).below hb
  have HL2 : Hid (LiesH w2 w1.heap.size c1 b1 n1 z1 l1) := (LiesH.new w1 c1 b1 n1 z1 l1 23).below hb
  have HB2 : Hid (Below w.heap.size w w2) := (HB1.out.alloc HB1.out.size _).trans (hb.mono (by have := HB1.out.size; simp; omega))
  clear hb
  have hz1 := HL1.out.lt
  have g0 := HL1.out.f0
  have g1 := HL1.out.f1
  have g2 := HL1.out.f2
  have g3 := HL1.out.f3
  have g4 := HL1.out.f4
  go_wp2_with fail
  refine Calls.mono (H3.out _ (HS.out.below (HB2.out.alloc HB2.out.size _))) ?_
  rintro e w3 ⟨rfl, hb⟩
  have HL3 : Hid (LiesH w3 w.heap.size c b n z l) := (HL1.out.alloc _).below hb
  have HL4 : Hid (LiesH w3 w1.heap.size c1 b1 n1 z1 l1) := (HL2.out.alloc _).below hb
  have HL5 : Hid (LiesH w3 w2.heap.size c1 b1 n1 z1 l1) := (LiesH.new w2 c1 b1 n1 z1 l1 23).below hb
  have HB3 : Hid (Below w.heap.size w w3) := (HB2.out.alloc HB2.out.size _).trans (hb.mono (by have := HB2.out.size; simp; omega))
  clear hb g0 g1 g2 g3 g4 hz1
  have g0 := HL3.out.f0
  have g1 := HL3.out.f1
  have g2 := HL3.out.f2
  have g3 := HL3.out.f3
  have g4 := HL3.out.f4
  go_wp2_with fail
  refine Calls.mono (H4.out _) ?_
  rintro e w4 ⟨rfl, hb⟩
  have HB4 : Hid (Below w.heap.size w w4) := HB3.out.trans (hb.mono HB3.out.size)
  have HL6 : Hid (LiesH w4 w1.heap.size c1 b1 n1 z1 l1) := HL4.out.below hb
  have HL7 : Hid (LiesH w4 w2.heap.size c1 b1 n1 z1 l1) := HL5.out.below hb
  clear hb g0 g1 g2 g3 g4
  have g0 := HL6.out.f0
  have g1 := HL6.out.f1
  have g2 := HL6.out.f2
  have g3 := HL6.out.f3
  have g4 := HL6.out.f4
  have k0 := HL7.out.f0
  have k1 := HL7.out.f1
  have k2 := HL7.out.f2
  have k3 := HL7.out.f3
  have k4 := HL7.out.f4
  go_wp2
  go_ret
  exact ⟨rfl, HB4.out⟩
end Go.Proofs.YtkkicodfpekbgaaDoor
