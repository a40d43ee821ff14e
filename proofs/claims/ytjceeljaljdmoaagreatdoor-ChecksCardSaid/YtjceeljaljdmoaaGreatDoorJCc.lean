/-
  hallmark.Check, hallmarklaw.Checks: what they answer.
-/
import Derived.Test.YtjceeljaljdmoaaGreatDoorJ8
import Derived.Test.YtjceeljaljdmoaaGreatDoorJ0
import Derived.Test.YtjceeljaljdmoaaGreatDoorJ3
namespace Go.Proofs.YtjceeljaljdmoaaGreatDoor
set_option linter.unusedSimpArgs false
set_option linter.unusedVariables false
open Go.RowKit

/-- What hallmark.Check answers. -/
def RetC (s : List Nd) (w : World) (e : Ending) (w' : World) : Prop := Below w.heap.size w w' ∧ ((e = .returned (.int .i64 0) ∧ RightP s) ∨ (e = .returned (.int .i64 1) ∧ ¬ RightP s))
theorem nm_za {sn : Sn → Addr} {za : Addr} (h : ∀ s : Sn, sn s ≠ za) : nm sn za = 1 := by
  unfold nm
  simp [fun s => (h s).symm]

set_option maxHeartbeats 1000000 in
set_option maxRecDepth 100000 in
theorem hcheck_any (s : List Nd) (a : Option Addr) (c : Nat) (w : World) (sn : Sn → Addr) (za : Addr) (hl : Lay w sn) (hz : LayZ w sn za) (hs : Sch w a s) (hok : SchOk s) (hn0 : s.length ≤ 140737488351232) :
    Calls Tryz.prog 10 #[.slice a s.length c] w fun e w' => RetC s w e w' := by
  have HC : Hid (Calls Tryz.prog 24 #[.slice a s.length c] w fun e w' => RetK s za w e w') := check_any s a c w sn za hl hz hs hok hn0
  have HN : Hid (∀ (p : Int) (wq : World), Below w.heap.size w wq → Calls Tryz.prog 23 #[fault p za] wq fun e w' => e = .returned (.int .i64 1) ∧ Below wq.heap.size wq w') := fun p wq q => by
    have := number_at p za wq sn (hl.below q).s (hz.below q).r
    rw [nm_za hz.d] at this
    exact this
  have H0 : Hid (∀ wq, Calls Tryz.prog 23 #[.nilIface] wq fun e w' => e = .returned (.int .i64 0) ∧ w' = wq) := fun wq => number_nil wq
  clear hl hz hs hok
  go_enter Tryz.func10, Tryz.ntmps10
  go_wp2_with fail
  refine HC.out.mono ?_
  rintro e w1 ⟨hb1, h1⟩
  have HB1 : Hid (Below w.heap.size w w1) := hb1
  clear hb1
  rcases h1 with ⟨rfl, hr⟩ | ⟨⟨p, rfl⟩, hr⟩
  · have HR : Hid (RightP s) := hr
    clear hr
    go_wp2_with fail
    refine (H0.out _).mono ?_
    rintro e w2 ⟨rfl, rfl⟩
    go_wp2
    go_ret
    exact ⟨HB1.out, .inl ⟨rfl, HR.out⟩⟩
  · have HR : Hid (¬ RightP s) := hr
    have HN2 := HN.out p w1 HB1.out
    have HN3 : Hid (Calls Tryz.prog 23 #[fault p za] w1 fun e w' => e = .returned (.int .i64 1) ∧ Below w1.heap.size w1 w') := HN2
    unfold fault at HN3 ⊢
    clear hr HN2
    go_wp2_with fail
    refine HN3.out.mono ?_
    rintro e w2 ⟨rfl, hb2⟩
    have HB2 : Hid (Below w.heap.size w w2) := HB1.out.trans (hb2.mono HB1.out.size)
    clear hb2
    go_wp2
    go_ret
    exact ⟨HB2.out, .inr ⟨rfl, HR.out⟩⟩

set_option maxHeartbeats 400000 in
theorem num_any (z : Int) (w : World) : Calls Tryz.prog 13 #[.int .i64 z] w fun e w' => e = .returned (.int .i64 z) ∧ w' = w := by
  go_enter Tryz.func13, Tryz.ntmps13
  go_wp2
  go_ret
  exact ⟨rfl, rfl⟩

set_option maxHeartbeats 1000000 in
set_option maxRecDepth 100000 in
theorem checks_any (s : List Nd) (a : Option Addr) (c : Nat) (w : World) (sn : Sn → Addr) (za : Addr) (hl : Lay w sn) (hz : LayZ w sn za) (hs : Sch w a s) (hok : SchOk s) (hn : s.length * 48 ≤ 140737488351232) (hkn : ∀ i, i < s.length → (nd s i).kids.length * 32 ≤ 140737488351232) :
    Calls Tryz.prog 3 #[.slice a s.length c] w fun e w' => e = .returned (.bool true) ∧ Below w.heap.size w w' := by
  have HCP : Hid (Calls Tryz.prog 9 #[.slice a s.length c] w fun e w' => ∃ vout, e = .returned vout ∧ CpW s w w' s.length vout) := copied_any s a c w hs hn hkn
  have HL : Hid (Lay w sn) := hl
  have HZ : Hid (LayZ w sn za) := hz
  have HS : Hid (Sch w a s) := hs
  have HOK : Hid (SchOk s) := hok
  have hn0 : s.length ≤ 140737488351232 := by omega
  have HNU : Hid (∀ (z : Int) (wq : World), Calls Tryz.prog 13 #[.int .i64 z] wq fun e w' => e = .returned (.int .i64 z) ∧ w' = wq) := num_any
  clear hl hz hs hok hkn
  go_enter Tryz.func3, Tryz.ntmps3
  go_wp2_with fail
  refine HCP.out.mono ?_
  rintro e w1 ⟨vout, rfl, hcp⟩
  have HB1 : Hid (Below w.heap.size w w1) := hcp.bel
  obtain ⟨a2, c2, rfl, hs2⟩ := hcp.sch
  have HS2 : Hid (Sch w1 a2 s) := hs2
  have HCK : Hid (Calls Tryz.prog 10 #[.slice a2 s.length c2] w1 fun e w' => RetC s w1 e w') := hcheck_any s a2 c2 w1 sn za (HL.out.below HB1.out) (HZ.out.below HB1.out) hs2 HOK.out hn0
  clear hcp hs2
  go_wp2_with fail
  refine HCK.out.mono ?_
  rintro e w2 ⟨hb2, h2⟩
  have HB2 : Hid (Below w1.heap.size w1 w2) := hb2
  have HB3 : Hid (Below w.heap.size w w2) := HB1.out.trans (hb2.mono HB1.out.size)
  have HRT : Hid (Calls Tryz.prog 11 #[.slice a s.length c] w2 fun e w' => RetO (RightP s) w2 e w') := right_any s a c w2 (HS.out.below HB3.out) HOK.out hn0
  clear hb2
  obtain ⟨z, r, rfl, hzr⟩ : ∃ (z : Int) (r : Bool), e = .returned (.int .i64 z) ∧ ((r = true ∧ z = 0 ∧ RightP s) ∨ (r = false ∧ z = 1 ∧ ¬ RightP s)) := by
    rcases h2 with ⟨rfl, h⟩ | ⟨rfl, h⟩
    · exact ⟨0, true, rfl, .inl ⟨rfl, rfl, h⟩⟩
    · exact ⟨1, false, rfl, .inr ⟨rfl, rfl, h⟩⟩
  clear h2
  go_wp2_with fail
  refine HRT.out.mono ?_
  rintro e w3 ⟨r', rfl, hr', hb3⟩
  have HB4 : Hid (Below w1.heap.size w1 w3) := HB2.out.trans (hb3.mono HB2.out.size)
  have HB5 : Hid (Below w.heap.size w w3) := HB3.out.trans (hb3.mono HB3.out.size)
  have HAL : Hid (Calls Tryz.prog 12 #[.slice a2 s.length c2, .slice a s.length c] w3 fun e w' => RetO True w3 e w') := alike_any s a2 a c2 c w3 (HS2.out.below HB4.out) (HS.out.below HB5.out) hn0
  have hrr : r' = r := by
    rcases hzr with ⟨rfl, _, h⟩ | ⟨rfl, _, h⟩
    · exact hr'.2 h
    · cases r'
      · rfl
      · exact absurd (hr'.1 rfl) h
  subst hrr
  have hz2 : (r' = true ∧ z = 0) ∨ (r' = false ∧ z = 1) := by
    rcases hzr with ⟨h1, h2, _⟩ | ⟨h1, h2, _⟩
    · exact .inl ⟨h1, h2⟩
    · exact .inr ⟨h1, h2⟩
  clear hb3 hr' hzr
  go_wp2_with fail
  refine HAL.out.mono ?_
  rintro e w4 ⟨r4, rfl, hr4, hb4⟩
  obtain rfl : r4 = true := hr4.2 trivial
  have HB6 : Hid (Below w.heap.size w w4) := HB5.out.trans (hb4.mono HB5.out.size)
  clear hb4 hr4
  rcases hz2 with ⟨rfl, rfl⟩ | ⟨rfl, rfl⟩
  · go_wp2
    go_ret
    exact ⟨rfl, HB6.out⟩
  · go_wp2_with fail
    refine (HNU.out _ _).mono ?_
    rintro e w5 ⟨rfl, rfl⟩
    go_wp2
    go_ret
    exact ⟨rfl, HB6.out⟩
end Go.Proofs.YtjceeljaljdmoaaGreatDoor
