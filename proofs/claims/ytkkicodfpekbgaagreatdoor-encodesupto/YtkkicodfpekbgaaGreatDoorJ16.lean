/-
  Several texts in one:
  The document's Encode: what it answers.
  hallmark.Check, hallmarklaw.Checks: what they answer.
  hallmarklaw.Encodes: it answers true.
-/
import Derived.Test.YtkkicodfpekbgaaGreatDoorJ14
import Derived.Test.YtkkicodfpekbgaaGreatDoorJ15
import Derived.Test.YtkkicodfpekbgaaGreatDoorJ10
import Derived.Test.YtkkicodfpekbgaaGreatDoorJ2
import Derived.Test.YtkkicodfpekbgaaGreatDoorJ7
import Derived.Test.YtkkicodfpekbgaaGreatDoorJ12
/-! The document's Encode: what it answers. -/
namespace Go.Proofs.YtkkicodfpekbgaaGreatDoor
set_option linter.unusedSimpArgs false
set_option linter.unusedVariables false
open Go.RowKit

theorem wnode_all (E : WEnv) (W : World) (R : Nat) (a : Option Addr) (c : Nat) (ta : Option Addr) (tc : Nat) (hc : WC E W a ta) (htc : E.t.length ≤ tc) : ∀ f, NodeW E W R a c ta tc f
  | 0 => fun _ _ _ _ _ _ hm => by cases hm
  | f + 1 => wnode_step E W R a c ta tc f hc htc (wnode_all E W R a c ta tc hc htc f)
set_option maxHeartbeats 2000000 in
set_option maxRecDepth 100000 in
theorem rEncode_any (E : WEnv) (s : List Nd) (a : Option Addr) (c : Nat) (root : Int) (t : List Vl) (ta : Option Addr) (tc : Nat) (v : Except Int ByteArray) (w : World) (hs : Sch w a s) (hok : SchOk s) (hn0 : s.length ≤ 140737488351232) (ht : TreeIn w ta t) (htc : t.length ≤ tc) (hpz : pz t t.length ≤ 16777000) (hkd : ∀ j, j < t.length → (vl t j).kids ≤ 9223372036854775807) (hv : EncV E s root t v) :
    Calls Tryz.prog 43 #[.slice a s.length c, .int .i64 root, .slice ta t.length tc] w fun e w' => RetEnc v w e w' := by
  have HRT : Hid (Calls Tryz.prog 15 #[.slice a s.length c] w fun e w' => RetO (RightP s) w e w') := right_any s a c w hs hok hn0
  have HS := hide hs
  have HOK := hide hok
  have HT := hide ht
  have HV := hide hv
  have HKD := hide hkd
  have htl : t.length ≤ 16777000 := by unfold pz at hpz; omega
  have HPZ := hide hpz
  clear hs hok ht hv hkd hpz
  go_enter Tryz.func43, Tryz.ntmps43
  go_wp2_with fail
  refine HRT.out.mono ?_
  rintro e w1 ⟨r, rfl, hr, hb1⟩
  have HR := hide hr
  have HB1 := hide hb1
  clear hr hb1
  have bad : ∀ w', Below w.heap.size w w' → ¬ (RightP s ∧ 0 ≤ root ∧ root < s.length) → RetEnc v w (.returned (.tuple #[.string ⟨#[]⟩, .int .i64 1])) w' := fun w' hb h => by
    rcases HV.out with ⟨_, rfl⟩ | ⟨q, _⟩
    · exact ⟨hb, rfl⟩
    · exact absurd q h
  have BAD := hide bad
  clear bad
  cases r
  · have HNR : Hid (¬ RightP s) := fun q => Bool.noConfusion (HR.out.2 q)
    go_wp2
    refine bodyPost_ret (v := .tuple #[.string ⟨#[]⟩, .int .i64 1]) (by simp [results, Tryz.results43, go_sem]) rfl ?_
    exact BAD.out _ HB1.out fun q => HNR.out q.1
  · have HYR : Hid (RightP s) := HR.out.1 rfl
    by_cases h0 : root < 0
    · go_wp2
      refine bodyPost_ret (v := .tuple #[.string ⟨#[]⟩, .int .i64 1]) (by simp [results, Tryz.results43, go_sem]) rfl ?_
      exact BAD.out _ HB1.out fun q => by omega
    · have h0' : 0 ≤ root := by omega
      by_cases h1 : root < s.length
      · obtain ⟨rfl, rfl, hkk, f, r, hrd, hvr⟩ : E.s = s ∧ E.t = t ∧ (∀ k u, E.ok k u = true ↔ ContentOk k u) ∧ ∃ f r, wrF E f root.toNat 0 1 = some r ∧ v = encR r t.length := by
          rcases HV.out with ⟨q, _⟩ | ⟨_, q⟩
          · exact absurd ⟨HYR.out, h0', h1⟩ q
          · exact q
        obtain ⟨rt, rfl⟩ : ∃ n : Nat, root = n := ⟨root.toNat, by omega⟩
        have hWC : WC E w1 a ta := ⟨HS.out.below HB1.out, HYR.out, HOK.out, hkk, HT.out.below HB1.out, HPZ.out, HKD.out⟩
        have hG2 : (w1.alloc (wwObj a E.s.length c ta E.t.length tc 0 false false)).heap[w1.heap.size]? = some (wwObj a E.s.length c ta E.t.length tc 0 false false) := heap_alloc_new w1 _
        have hI2 : WrD w1 (w1.alloc (wwObj a E.s.length c ta E.t.length tc 0 false false)) w1.heap.size a E.s.length c ta E.t.length tc 0 false false := ⟨(Below.refl _ _).alloc (Nat.le_refl _) _, Nat.le_refl _, hG2⟩
        have HCL : Hid (Calls Tryz.prog 71 #[.pointer (some ⟨w1.heap.size, 0, none⟩), .int .i64 rt, .int .i64 1] (w1.alloc (wwObj a E.s.length c ta E.t.length tc 0 false false)) fun e w' => AfterW E w1 w1.heap.size a c ta tc r 0 false (w1.alloc (wwObj a E.s.length c ta E.t.length tc 0 false false)) e w') :=
          wnode_all E w1 w1.heap.size a c ta tc hWC htc f rt 0 1 r false _ (by simpa using hrd) (by omega) (Nat.zero_le _) (by decide) (by decide) hI2
        have HVR := hide hvr
        unfold wwObj at HCL
        clear hrd hvr hWC hG2 hI2 hkk
        go_wp2_with fail
        refine HCL.out.mono ?_
        rintro e w3 ha3
        have hcase := ha3.2
        clear ha3
        rcases hcase with ⟨b, x, u, hr, rfl, _, hx, hI3⟩ | ⟨hr, b, x, u, rfl, _, hx, hI3⟩
        · have HB3 : Hid (Below w.heap.size w w3) := HB1.out.trans (hI3.bel.mono HB1.out.size)
          have HRR := hide hr
          have own3 := hI3.own
          unfold wwObj at own3
          have c2 : w3.cell? ⟨w1.heap.size, 2, none⟩ = some (.int .i64 (x : Int)) := by simp [World.cell?, own3]
          have c3 : w3.cell? ⟨w1.heap.size, 3, none⟩ = some (.bool false) := by simp [World.cell?, own3]
          have c4 : w3.cell? ⟨w1.heap.size, 4, none⟩ = some (.bool u) := by simp [World.cell?, own3]
          have hR3 := lt_of_cell c2
          simp only at hR3
          clear hI3 own3 hr HCL
          by_cases hxl : x < E.t.length
          · have hxl' : (x : Int) < E.t.length := by omega
            have HE : Hid (v = .error 11) := by show v = _; rw [HVR.out, HRR.out]; unfold encR; simp only; rw [if_pos hxl]
            go_wp2
            refine bodyPost_ret (v := .tuple #[.string ⟨#[]⟩, .int .i64 11]) (by simp [results, Tryz.results43, go_sem]) rfl ?_
            rw [HE.out]
            exact ⟨HB3.out, rfl⟩
          · have hxl' : (E.t.length : Int) ≤ x := by omega
            by_cases hbl : 4000 < b.size
            · have hbl' : (4000 : Int) < b.size := by omega
              have HE : Hid (v = .error 2) := by show v = _; rw [HVR.out, HRR.out]; unfold encR; simp only; rw [if_neg hxl, if_pos hbl]
              go_wp2
              refine bodyPost_ret (v := .tuple #[.string ⟨#[]⟩, .int .i64 2]) (by simp [results, Tryz.results43, go_sem]) rfl ?_
              rw [HE.out]
              exact ⟨HB3.out, rfl⟩
            · have hbl' : (b.size : Int) ≤ 4000 := by omega
              cases u with
              | true =>
                have HE : Hid (v = .error 8) := by show v = _; rw [HVR.out, HRR.out]; unfold encR; simp only; rw [if_neg hxl, if_neg hbl, if_pos trivial]
                go_wp2
                refine bodyPost_ret (v := .tuple #[.string ⟨#[]⟩, .int .i64 8]) (by simp [results, Tryz.results43, go_sem]) rfl ?_
                rw [HE.out]
                exact ⟨HB3.out, rfl⟩
              | false =>
                have HE : Hid (v = .ok b) := by show v = _; rw [HVR.out, HRR.out]; unfold encR; simp only; rw [if_neg hxl, if_neg hbl, if_neg (by decide)]
                go_wp2
                refine bodyPost_ret (v := .tuple #[.string b, .int .i64 0]) (by simp [results, Tryz.results43, go_sem]) rfl ?_
                rw [HE.out]
                exact ⟨HB3.out, rfl⟩
        · have HB3 : Hid (Below w.heap.size w w3) := HB1.out.trans (hI3.bel.mono HB1.out.size)
          have HE : Hid (v = .error 11) := by show v = _; rw [HVR.out, hr]; rfl
          have own3 := hI3.own
          unfold wwObj at own3
          have c3 : w3.cell? ⟨w1.heap.size, 3, none⟩ = some (.bool true) := by simp [World.cell?, own3]
          have hR3 := lt_of_cell c3
          simp only at hR3
          clear hI3 own3 hr HCL
          go_wp2
          refine bodyPost_ret (v := .tuple #[.string ⟨#[]⟩, .int .i64 11]) (by simp [results, Tryz.results43, go_sem]) rfl ?_
          rw [HE.out]
          exact ⟨HB3.out, rfl⟩
      · have h1' : (s.length : Int) ≤ root := by omega
        go_wp2
        refine bodyPost_ret (v := .tuple #[.string ⟨#[]⟩, .int .i64 1]) (by simp [results, Tryz.results43, go_sem]) rfl ?_
        exact BAD.out _ HB1.out fun q => by omega
end Go.Proofs.YtkkicodfpekbgaaGreatDoor

/-! hallmark.Check, hallmarklaw.Checks: what they answer. -/
namespace Go.Proofs.YtkkicodfpekbgaaGreatDoor
set_option linter.unusedSimpArgs false
set_option linter.unusedVariables false
open Go.RowKit

/-- What hallmark.Check answers. -/
def RetC (s : List Nd) (w : World) (e : Ending) (w' : World) : Prop := Below w.heap.size w w' ∧ ((e = .returned (.int .i64 0) ∧ RightP s) ∨ (e = .returned (.int .i64 1) ∧ ¬ RightP s))
theorem nm_za {sn : Sn → Addr} {za : Addr} (h : ∀ s : Sn, sn s ≠ za) : nm sn za = 1 := by
  unfold nm
  simp [fun s => (h s).symm]

set_option maxHeartbeats 1000000 in
set_option maxRecDepth 100000 in
theorem hcheck_any (s : List Nd) (a : Option Addr) (c : Nat) (w : World) (sn : Sn → Addr) (za : Addr) (hl : Lay w sn) (hz : LayZ w sn za) (hs : Sch w a s) (hok : SchOk s) (hn0 : s.length ≤ 140737488351232) :
    Calls Tryz.prog 14 #[.slice a s.length c] w fun e w' => RetC s w e w' := by
  have HC : Hid (Calls Tryz.prog 35 #[.slice a s.length c] w fun e w' => RetK s za w e w') := check_any s a c w sn za hl hz hs hok hn0
  have HN : Hid (∀ (p : Int) (wq : World), Below w.heap.size w wq → Calls Tryz.prog 34 #[fault p za] wq fun e w' => e = .returned (.int .i64 1) ∧ Below wq.heap.size wq w') := fun p wq q => by
    have := number_at p za wq sn (hl.below q).s (hz.below q).r
    rw [nm_za hz.d] at this
    exact this
  have H0 : Hid (∀ wq, Calls Tryz.prog 34 #[.nilIface] wq fun e w' => e = .returned (.int .i64 0) ∧ w' = wq) := fun wq => number_nil wq
  clear hl hz hs hok
  go_enter Tryz.func14, Tryz.ntmps14
  go_wp2_with fail
  refine HC.out.mono ?_
  rintro e w1 ⟨hb1, h1⟩
  have HB1 : Hid (Below w.heap.size w w1) := hb1
  clear hb1
  rcases h1 with ⟨rfl, hr⟩ | ⟨⟨p, rfl⟩, hr⟩
  · have HR : Hid (RightP s) := hr
    clear hr
    go_wp2_with fail
    refine (H0.out _).mono ?_
    rintro e w2 ⟨rfl, rfl⟩
    go_wp2
    go_ret
    exact ⟨HB1.out, .inl ⟨rfl, HR.out⟩⟩
  · have HR : Hid (¬ RightP s) := hr
    have HN2 := HN.out p w1 HB1.out
    have HN3 : Hid (Calls Tryz.prog 34 #[fault p za] w1 fun e w' => e = .returned (.int .i64 1) ∧ Below w1.heap.size w1 w') := HN2
    unfold fault at HN3 ⊢
    clear hr HN2
    go_wp2_with fail
    refine HN3.out.mono ?_
    rintro e w2 ⟨rfl, hb2⟩
    have HB2 : Hid (Below w.heap.size w w2) := HB1.out.trans (hb2.mono HB1.out.size)
    clear hb2
    go_wp2
    go_ret
    exact ⟨HB2.out, .inr ⟨rfl, HR.out⟩⟩

set_option maxHeartbeats 400000 in
theorem num_any (z : Int) (w : World) : Calls Tryz.prog 17 #[.int .i64 z] w fun e w' => e = .returned (.int .i64 z) ∧ w' = w := by
  go_enter Tryz.func17, Tryz.ntmps17
  go_wp2
  go_ret
  exact ⟨rfl, rfl⟩

set_option maxHeartbeats 1000000 in
set_option maxRecDepth 100000 in
theorem checks_any (s : List Nd) (a : Option Addr) (c : Nat) (w : World) (sn : Sn → Addr) (za : Addr) (hl : Lay w sn) (hz : LayZ w sn za) (hs : Sch w a s) (hok : SchOk s) (hn : s.length * 48 ≤ 140737488351232) (hkn : ∀ i, i < s.length → (nd s i).kids.length * 32 ≤ 140737488351232) :
    Calls Tryz.prog 3 #[.slice a s.length c] w fun e w' => e = .returned (.bool true) ∧ Below w.heap.size w w' := by
  have HCP : Hid (Calls Tryz.prog 13 #[.slice a s.length c] w fun e w' => ∃ vout, e = .returned vout ∧ CpW s w w' s.length vout) := copied_any s a c w hs hn hkn
  have HL : Hid (Lay w sn) := hl
  have HZ : Hid (LayZ w sn za) := hz
  have HS : Hid (Sch w a s) := hs
  have HOK : Hid (SchOk s) := hok
  have hn0 : s.length ≤ 140737488351232 := by omega
  have HNU : Hid (∀ (z : Int) (wq : World), Calls Tryz.prog 17 #[.int .i64 z] wq fun e w' => e = .returned (.int .i64 z) ∧ w' = wq) := num_any
  clear hl hz hs hok hkn
  go_enter Tryz.func3, Tryz.ntmps3
  go_wp2_with fail
  refine HCP.out.mono ?_
  rintro e w1 ⟨vout, rfl, hcp⟩
  have HB1 : Hid (Below w.heap.size w w1) := hcp.bel
  obtain ⟨a2, c2, rfl, hs2⟩ := hcp.sch
  have HS2 : Hid (Sch w1 a2 s) := hs2
  have HCK : Hid (Calls Tryz.prog 14 #[.slice a2 s.length c2] w1 fun e w' => RetC s w1 e w') := hcheck_any s a2 c2 w1 sn za (HL.out.below HB1.out) (HZ.out.below HB1.out) hs2 HOK.out hn0
  clear hcp hs2
  go_wp2_with fail
  refine HCK.out.mono ?_
  rintro e w2 ⟨hb2, h2⟩
  have HB2 : Hid (Below w1.heap.size w1 w2) := hb2
  have HB3 : Hid (Below w.heap.size w w2) := HB1.out.trans (hb2.mono HB1.out.size)
  have HRT : Hid (Calls Tryz.prog 15 #[.slice a s.length c] w2 fun e w' => RetO (RightP s) w2 e w') := right_any s a c w2 (HS.out.below HB3.out) HOK.out hn0
  clear hb2
  obtain ⟨z, r, rfl, hzr⟩ : ∃ (z : Int) (r : Bool), e = .returned (.int .i64 z) ∧ ((r = true ∧ z = 0 ∧ RightP s) ∨ (r = false ∧ z = 1 ∧ ¬ RightP s)) := by
    rcases h2 with ⟨rfl, h⟩ | ⟨rfl, h⟩
    · exact ⟨0, true, rfl, .inl ⟨rfl, rfl, h⟩⟩
    · exact ⟨1, false, rfl, .inr ⟨rfl, rfl, h⟩⟩
  clear h2
  go_wp2_with fail
  refine HRT.out.mono ?_
  rintro e w3 ⟨r', rfl, hr', hb3⟩
  have HB4 : Hid (Below w1.heap.size w1 w3) := HB2.out.trans (hb3.mono HB2.out.size)
  have HB5 : Hid (Below w.heap.size w w3) := HB3.out.trans (hb3.mono HB3.out.size)
  have HAL : Hid (Calls Tryz.prog 16 #[.slice a2 s.length c2, .slice a s.length c] w3 fun e w' => RetO True w3 e w') := alike_any s a2 a c2 c w3 (HS2.out.below HB4.out) (HS.out.below HB5.out) hn0
  have hrr : r' = r := by
    rcases hzr with ⟨rfl, _, h⟩ | ⟨rfl, _, h⟩
    · exact hr'.2 h
    · cases r'
      · rfl
      · exact absurd (hr'.1 rfl) h
  subst hrr
  have hz2 : (r' = true ∧ z = 0) ∨ (r' = false ∧ z = 1) := by
    rcases hzr with ⟨h1, h2, _⟩ | ⟨h1, h2, _⟩
    · exact .inl ⟨h1, h2⟩
    · exact .inr ⟨h1, h2⟩
  clear hb3 hr' hzr
  go_wp2_with fail
  refine HAL.out.mono ?_
  rintro e w4 ⟨r4, rfl, hr4, hb4⟩
  obtain rfl : r4 = true := hr4.2 trivial
  have HB6 : Hid (Below w.heap.size w w4) := HB5.out.trans (hb4.mono HB5.out.size)
  clear hb4 hr4
  rcases hz2 with ⟨rfl, rfl⟩ | ⟨rfl, rfl⟩
  · go_wp2
    go_ret
    exact ⟨rfl, HB6.out⟩
  · go_wp2_with fail
    refine (HNU.out _ _).mono ?_
    rintro e w5 ⟨rfl, rfl⟩
    go_wp2
    go_ret
    exact ⟨rfl, HB6.out⟩
end Go.Proofs.YtkkicodfpekbgaaGreatDoor

/-! hallmarklaw.Encodes: it answers true. -/
namespace Go.Proofs.YtkkicodfpekbgaaGreatDoor
set_option linter.unusedSimpArgs false
set_option linter.unusedVariables false
open Go.RowKit

set_option maxHeartbeats 1000000 in
set_option maxRecDepth 100000 in
/-- hallmarklaw.same, of two lists that hold the same values, wherever they lie. -/
theorem same_tree (vs : List Vl) (a1 a2 : Option Addr) (c1 c2 : Nat) (w : World) (h1 : TreeIn w a1 vs) (h2 : TreeIn w a2 vs) (hn : vs.length ≤ 140737488351232) :
    Calls Tryz.prog 41 #[.slice a1 vs.length c1, .slice a2 vs.length c2] w fun e w' => RetO True w e w' := by
  have H1 := hide h1
  have H2 := hide h2
  clear h1 h2
  go_enter Tryz.func41, Tryz.ntmps41
  go_wp2
  go_loopw [5] (fun i wr => ∃ k : Nat, k ≤ vs.length ∧ i = .int .i64 k ∧ ∃ q, wr = w.drewN q) (fun i _ => vs.length - (intOf i).toNat)
  case atStart => exact ⟨0, Nat.zero_le _, rfl, 0, rfl⟩
  case round =>
    obtain ⟨k, hk, rfl, q, rfl⟩ := hrel
    by_cases hlt : k < vs.length
    · obtain ⟨g1, o1, e1, x1, x2, x3, x4⟩ := H1.out k hlt
      obtain ⟨g2, o2, e2, y1, y2, y3, y4⟩ := H2.out k hlt
      subst e1 e2
      have hlt' : (k : Int) < vs.length := by omega
      generalize vl vs k = x at x1 x2 x3 x4 y1 y2 y3 y4
      go_wp2
      go_quiet (fail)
      go_wp2
      go_roundw
      case rel => exact ⟨k + 1, by omega, by go_num, _, rfl⟩
      case measure => simp [intOf]; omega
    · have hlt' : (vs.length : Int) ≤ k := by omega
      go_wp2
      go_ret
      exact reto_yes trivial (below_drewN (Below.refl _ _) _)

/-- Values of the call's own row, as a tree. -/
theorem TreeIn.of_own {w : World} {base : Nat} {a : Option Addr} {c : Nat} {vs : List Vl} (h : w.ownsRow base 60 4 (.slice a vs.length c) vs.length (vcells vs)) : TreeIn w a vs := fun j hj => by
  have hget : ∀ (l : List Vl) (i : Nat), i < l.length → ∀ k, k < 4 → (vcells l)[i * 4 + k]? = (vl l i).cells[k]? := by
    intro l
    induction l with
    | nil => intro i h; exact absurd h (Nat.not_lt_zero _)
    | cons v l ih =>
      intro i hi k hk
      have e : vcells (v :: l) = v.cells ++ vcells l := by unfold vcells; simp
      have hl : v.cells.length = 4 := rfl
      cases i with
      | zero => rw [e, List.getElem?_append_left (by show 0 * 4 + k < 4; omega)]; simp [vl]
      | succ i => rw [e, List.getElem?_append_right (by omega), hl, show (i + 1) * 4 + k - 4 = i * 4 + k by omega, ih i (by simpa using hi) k hk]; simp [vl]
  rcases h.2 with ⟨_, h0⟩ | ⟨g, cap, cur, hv, _, hg, _, _, _, ht⟩
  · omega
  · injection hv with hv _ _
    have hc : ∀ k, k < 4 → cur[j * 4 + k]? = (vl vs j).cells[k]? := fun k hk => by
      have := hget vs j hj k hk
      rw [← ht, List.getElem?_take_of_lt (by omega)] at this
      simpa using this
    have h0 := hc 0 (by decide)
    have h1 := hc 1 (by decide)
    have h2 := hc 2 (by decide)
    have h3 := hc 3 (by decide)
    refine ⟨g, 0, hv, ?_, ?_, ?_, ?_⟩
    · simp [World.cell?, hg]; exact h0
    · simp [World.cell?, hg]; exact h1
    · simp [World.cell?, hg]; exact h2
    · simp [World.cell?, hg]; exact h3

theorem own_formV {w : World} {B : Nat} {v : Value} {n : Nat} {xs : List Value} (h : w.ownsRow B 60 4 v n xs) : ∃ bs cp, v = .slice bs n cp ∧ n ≤ cp := by
  rcases h.2 with ⟨rfl, h0⟩ | ⟨g, cp, cur, rfl, _, _, h1, _⟩
  · exact ⟨none, 0, by rw [h0], by omega⟩
  · exact ⟨_, _, rfl, h1⟩

set_option maxHeartbeats 4000000 in
set_option maxRecDepth 100000 in
theorem lencode_any (s : List Nd) (a : Option Addr) (c : Nat) (root : Int) (t : List Vl) (ta : Option Addr) (tc : Nat) (w : World) (sn : Sn → Addr) (za : Addr) (hl : Lay w sn) (hz : LayZ w sn za) (hs : Sch w a s) (hok : SchOk s) (hn : s.length * 48 ≤ 140737488351232) (hkn : ∀ i, i < s.length → (nd s i).kids.length * 32 ≤ 140737488351232) (ht : TreeIn w ta t) (htc : t.length ≤ tc) (hpz : pz t t.length ≤ 16777000) (hkd : ∀ j, j < t.length → (vl t j).kids ≤ 9223372036854775807) :
    Calls Tryz.prog 20 #[.slice a s.length c, .int .i64 root, .slice ta t.length tc] w fun e w' => e = .returned (.bool true) ∧ Below w.heap.size w w' := by
  obtain ⟨E, v, hv⟩ := encV_ex s root t
  have hn0 : s.length ≤ 140737488351232 := by omega
  have htl : t.length ≤ 16777000 := by unfold pz at hpz; omega
  have HCP : Hid (Calls Tryz.prog 13 #[.slice a s.length c] w fun e w' => ∃ vout, e = .returned vout ∧ CpW s w w' s.length vout) := copied_any s a c w hs hn hkn
  have HD : Hid (∀ a2 c2 ta2 tc2 wq, Below w.heap.size w wq → Sch wq a2 s → TreeIn wq ta2 t → t.length ≤ tc2 → Calls Tryz.prog 22 #[.slice a2 s.length c2, .int .i64 root, .slice ta2 t.length tc2] wq fun e w' => RetEnc v wq e w') := fun a2 c2 ta2 tc2 wq hq hs2 ht2 hc2 => encode_any E s a2 c2 root t ta2 tc2 v wq sn za (hl.below hq) (hz.below hq) hs2 hok hn0 ht2 hc2 hpz hkd hv
  have HR : Hid (∀ wq, Below w.heap.size w wq → Calls Tryz.prog 43 #[.slice a s.length c, .int .i64 root, .slice ta t.length tc] wq fun e w' => RetEnc v wq e w') := fun wq hq => rEncode_any E s a c root t ta tc v wq (hs.below hq) hok hn0 (ht.below hq) htc hpz hkd hv
  have HNU : Hid (∀ (z : Int) (wq : World), Calls Tryz.prog 17 #[.int .i64 z] wq fun e w' => e = .returned (.int .i64 z) ∧ w' = wq) := num_any
  have HS := hide hs
  have HT := hide ht
  obtain ⟨bo, nu, HVV⟩ : ∃ (bo : ByteArray) (nu : Int), Hid (∀ wq e w', RetEnc v wq e w' → Below wq.heap.size wq w' ∧ e = .returned (.tuple #[.string bo, .int .i64 nu])) := by
    cases v with
    | error k => exact ⟨⟨#[]⟩, k, fun wq e w' h => ⟨h.1, h.2⟩⟩
    | ok b => exact ⟨b, 0, fun wq e w' h => ⟨h.1, h.2⟩⟩
  clear hl hz hs hok hv hkn ht hpz hkd
  go_enter Tryz.func20, Tryz.ntmps20
  go_wp2_with fail
  refine HCP.out.mono ?_
  rintro e w1 ⟨vout, rfl, hcp⟩
  have HB1 : Hid (Below w.heap.size w w1) := hcp.bel
  obtain ⟨a2, c2, rfl, hs2⟩ := hcp.sch
  have HS2 := hide hs2
  clear hcp hs2
  obtain ⟨i0, hi0, hz0, hz1, hz2⟩ := info_parts Tryz.infoVal
  go_wp2_with fail
  go_loopw [8, 9] (fun vl8 vi wr => ∃ k : Nat, k ≤ t.length ∧ vi = .int .i64 k ∧ wr.ownsRow w1.heap.size 60 4 vl8 (t.take k).length (vcells (t.take k)) ∧ Below w1.heap.size w1 wr) (fun _ vi _ => t.length - (intOf vi).toNat)
  case atStart => exact ⟨0, Nat.zero_le _, rfl, World.ownsRow_nil _ _ _ _, Below.refl _ _⟩
  case round =>
    obtain ⟨k, hk, rfl, ho, hb⟩ := hrel
    obtain ⟨bs, cp, rfl, hcp⟩ := own_formV ho
    have HO := hide ho
    have HB := hide hb
    clear ho hb
    by_cases hlt : k < t.length
    · have hlt' : (k : Int) < t.length := by omega
      obtain ⟨g, o, hta, m0, m1, m2, m3⟩ := (HT.out.below (HB1.out.trans (HB.out.mono HB1.out.size))) k hlt
      have hlg := lt_of_cell m0
      simp only at hlg
      have hszk : (t.take k).length = k := by rw [List.length_take]; omega
      have hbs := HB.out.size
      have htake : t.take (k + 1) = t.take k ++ [vl t k] := by
        rw [List.take_add_one, List.getElem?_eq_getElem hlt]
        congr 1
        unfold vl
        rw [List.getD_eq_getElem?_getD, List.getElem?_eq_getElem hlt]
        rfl
      have HTK := hide htake
      obtain ⟨y, hy⟩ : ∃ y, vl t k = y := ⟨_, rfl⟩
      have HY := hide hy
      rw [hy] at m0 m1 m2 m3
      rw [hta]
      have HAP : Hid (∀ g7 cap7 w7, w7.ownsRow w1.heap.size 60 4 (.slice (some ⟨g7, 0, none⟩) ((t.take k).length + 1) cap7) ((t.take k).length + 1) (vcells (t.take k) ++ [.int .i64 y.kind, .string y.text, .int .i64 y.alt, .int .i64 y.kids]) → (wr.alloc (.cells #[.int .i64 y.kind, .string y.text, .int .i64 y.alt, .int .i64 y.kids] 60)).grownBy w7 (Value.slice bs (t.take k).length cp).ownBlock → w7.ownsRow w1.heap.size 60 4 (.slice (some ⟨g7, 0, none⟩) ((t.take k).length + 1) cap7) (t.take (k + 1)).length (vcells (t.take (k + 1))) ∧ Below w1.heap.size w1 w7) := fun g7 cap7 w7 h1 h2 => by
        refine ⟨?_, (HB.out.alloc HB.out.size _).grown h2 (by simp; omega) (fun q hq => (HO.out.lt q hq).1)⟩
        rw [HTK.out, HY.out, vcells_append, List.length_append]
        exact h1
      clear htake hy hta
      go_wp2_with (at_builtin; refine wpList_append_lies _ rfl _ _ 39 rfl w1.heap.size 60 i0 Tryz.zeroVal 4 40 Tryz.underlying39 hi0 hz0 hz1 hz2 rfl (by decide) (.slice bs (t.take k).length cp) (t.take k).length (vcells (t.take k)) rfl (HO.out.alloc _) ⟨wr.heap.size, 0, none⟩ 1 1 [.int .i64 y.kind, .string y.text, .int .i64 y.alt, .int .i64 y.kids] rfl rfl (World.news_of_block (heap_alloc_new wr (.cells #[.int .i64 y.kind, .string y.text, .int .i64 y.alt, .int .i64 y.kids] 60))) (by intro u hu; simp at hu; rcases hu with rfl | rfl | rfl | rfl <;> rfl) (by decide) (by unfold maxLen; omega) (by omega) (by simp; omega) (wr.heap.size + 1) (by simp) ?_; intro g7 cap7 w7 h71 h72 h73 h74; obtain ⟨ho7, hb7⟩ := HAP.out g7 cap7 w7 h71 h72; have HO7 := hide ho7; have HB7 := hide hb7; clear h71 h72 h73 h74 ho7 hb7)
      go_roundw
      case rel => exact ⟨k + 1, by omega, by go_num, by have h := HO7.out; rw [hszk] at h; exact h, HB7.out⟩
      case measure => simp [intOf]; omega
    · obtain rfl : k = t.length := by omega
      have hO := HO.out
      rw [List.take_length] at hO hcp
      rw [List.take_length]
      have HO2 := hide hO
      have HW2 : Hid (Below w.heap.size w wr) := HB1.out.trans (HB.out.mono HB1.out.size)
      clear hO HO
      go_wp2_with fail
      refine (HD.out a2 c2 bs cp wr HW2.out (HS2.out.below HB.out) (TreeIn.of_own HO2.out) hcp).mono ?_
      rintro e w3 hr3
      obtain ⟨hb3, rfl⟩ := HVV.out _ _ _ hr3
      have HB3 := hide hb3
      have HW3 : Hid (Below w.heap.size w w3) := HW2.out.trans (hb3.mono HW2.out.size)
      clear hr3 hb3
      go_wp2_with fail
      refine (HR.out w3 HW3.out).mono ?_
      rintro e w4 hr4
      obtain ⟨hb4, rfl⟩ := HVV.out _ _ _ hr4
      have HB4 : Hid (Below wr.heap.size wr w4) := HB3.out.trans (hb4.mono HB3.out.size)
      have HW4 : Hid (Below w.heap.size w w4) := HW3.out.trans (hb4.mono HW3.out.size)
      clear hr4 hb4
      have HAL : Hid (Calls Tryz.prog 16 #[.slice a2 s.length c2, .slice a s.length c] w4 fun e w' => RetO True w4 e w') := alike_any s a2 a c2 c w4 ((HS2.out.below HB.out).below HB4.out) (HS.out.below HW4.out) hn0
      go_wp2_with fail
      refine HAL.out.mono ?_
      rintro e w5 ⟨r5, rfl, hr5, hb5⟩
      obtain rfl : r5 = true := hr5.2 trivial
      have HB5 : Hid (Below wr.heap.size wr w5) := HB4.out.trans (hb5.mono HB4.out.size)
      have HW5 : Hid (Below w.heap.size w w5) := HW4.out.trans (hb5.mono HW4.out.size)
      clear hr5 hb5
      have HSM : Hid (Calls Tryz.prog 41 #[.slice bs t.length cp, .slice ta t.length tc] w5 fun e w' => RetO True w5 e w') := same_tree t bs ta cp tc w5 ((TreeIn.of_own HO2.out).below HB5.out) (HT.out.below HW5.out) (by omega)
      go_wp2_with fail
      refine HSM.out.mono ?_
      rintro e w6 ⟨r6, rfl, hr6, hb6⟩
      obtain rfl : r6 = true := hr6.2 trivial
      have HW6 : Hid (Below w.heap.size w w6) := HW5.out.trans (hb6.mono HW5.out.size)
      clear hr6 hb6
      go_wp2_with fail
      refine (HNU.out _ _).mono ?_
      rintro e w7 ⟨rfl, rfl⟩
      go_wp2
      go_ret
      exact ⟨rfl, HW6.out⟩

set_option maxHeartbeats 1000000 in
set_option maxRecDepth 100000 in
theorem encodes_any (s : List Nd) (a : Option Addr) (c : Nat) (root : Int) (t : List Vl) (ta : Option Addr) (tc : Nat) (w : World) (sn : Sn → Addr) (za : Addr) (hl : Lay w sn) (hz : LayZ w sn za) (hs : Sch w a s) (hok : SchOk s) (hn : s.length * 48 ≤ 140737488351232) (hkn : ∀ i, i < s.length → (nd s i).kids.length * 32 ≤ 140737488351232) (ht : TreeIn w ta t) (htc : t.length ≤ tc) (hpz : pz t t.length ≤ 16777000) (hkd : ∀ j, j < t.length → (vl t j).kids ≤ 9223372036854775807) :
    Calls Tryz.prog 5 #[.slice a s.length c, .int .i64 root, .slice ta t.length tc] w fun e w' => e = .returned (.bool true) ∧ Below w.heap.size w w' := by
  have H := hide (lencode_any s a c root t ta tc w sn za hl hz hs hok hn hkn ht htc hpz hkd)
  clear hl hz hs hok hn hkn ht hpz hkd
  go_enter Tryz.func5, Tryz.ntmps5
  go_wp2_with fail
  refine H.out.mono ?_
  rintro e w1 ⟨rfl, hb1⟩
  have HB1 := hide hb1
  clear hb1
  go_wp2
  go_ret
  exact ⟨rfl, HB1.out⟩
end Go.Proofs.YtkkicodfpekbgaaGreatDoor
