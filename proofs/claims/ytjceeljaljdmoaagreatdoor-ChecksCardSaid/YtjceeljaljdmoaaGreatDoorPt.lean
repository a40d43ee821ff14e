/-
  schemas.Check: what it answers.
-/
import Derived.Test.YtjceeljaljdmoaaGreatDoorPd
import Derived.Test.YtjceeljaljdmoaaGreatDoorPq
import Derived.Test.YtjceeljaljdmoaaGreatDoorPl
namespace Go.Proofs.YtjceeljaljdmoaaGreatDoor
open Go.RowKit

/-- The error of schemas lies ready, apart from the others. -/
structure LayZ (w : World) (sn : Sn → Addr) (za : Addr) : Prop where
  c : w.cell? ⟨10, 0, none⟩ = some (.iface 254 (.pointer (some za)))
  r : ∃ c t, w.heap[za.block]? = some (.cells c t (0, 0))
  d : ∀ s : Sn, sn s ≠ za
theorem LayZ.below {w w' : World} {sn : Sn → Addr} {za : Addr} (h : LayZ w sn za) (hb : Below w.heap.size w w') : LayZ w' sn za := ⟨(hb.cell (lt_of_cell h.c)).trans h.c, row_below h.r hb, h.d⟩
/-- What Check answers. -/
def RetK (s : List Nd) (za : Addr) (w : World) (e : Ending) (w' : World) : Prop := Below w.heap.size w w' ∧ ((e = .returned .nilIface ∧ RightP s) ∨ ((∃ p : Int, e = .returned (fault p za)) ∧ ¬ RightP s))

set_option maxHeartbeats 400000 in
theorem at_any (p : Int) (a : Addr) (w : World) :
    Calls Tryz.prog 39 #[.int .i64 p, .iface 254 (.pointer (some a))] w fun e w' => e = .returned (fault p a) ∧ w' = w := by
  unfold fault
  go_enter Tryz.func39, Tryz.ntmps39
  go_wp2
  go_ret
  exact ⟨rfl, rfl⟩
theorem kidsOf {s : List Nd} (h : ∀ i, i < s.length → Alone s.length (nd s i)) {i : Nat} (hi : i < s.length) : ∀ j, j < (nd s i).kids.length → ∃ t : Nat, (kd (nd s i) j).node = t ∧ t < s.length := fun j hj => by
  have q := (h i hi).2.2.2 j hj
  have q1 := q.1
  have q2 := q.2.1
  exact ⟨(kd (nd s i) j).node.toNat, by omega, by omega⟩
theorem taggedOf {s : List Nd} (h : ∀ i, i < s.length → Alone s.length (nd s i)) : ∀ i, i < s.length → Tagged (nd s i) := fun i hi => ((tagged_iff _).1 ⟨(h i hi).1, (h i hi).2.1⟩).2.2
theorem dfltOf {s : List Nd} (h : SchOk s) {i : Nat} (hi : i < s.length) : ∀ j, j < (nd s i).kids.length → (kd (nd s i) j).dflt.size ≤ 140737488351232 := fun j hj => by
  refine h i hi _ ?_
  unfold kd
  rw [List.getD_eq_getElem?_getD, List.getElem?_eq_getElem hj]
  exact List.getElem_mem hj
theorem plain_iff {s : List Nd} (h : ∀ i, i < s.length → Alone s.length (nd s i)) (hb : ∀ i, i < s.length → ¬ Back s i) {i : Nat} (hi : i < s.length) :
    PlainAt s (nd s i) ↔ ((nd s i).kind = 10 ∨ (nd s i).kind = 13 → Told (Common s) (nd s i)) := by
  have hw := within_of h
  have hlf : ∀ i, i < s.length → ∃ j, Leaf s i j := fun i hi => leaf_ex hw (fun i hi ho e => by
    have h1 := (h i hi).2.2.1
    have h2 := ho.1
    unfold Count at h1
    rw [if_neg (by omega), if_neg (by omega), if_pos h2, e] at h1
    have := h1.1
    simp at this) hb hi
  have ht : ∀ j, j < s.length → (nd s j).tag ≤ 30 := fun j hj => (taggedOf h j hj).2.1
  unfold PlainAt
  refine forall_congr' fun _ => (told_congr (m := s.length) (fun j hj => ?_) fun i k h1 h2 => (common_iff ht hw h1 h2 (hlf i h1) (hlf k h2)).symm)
  obtain ⟨t, e, q⟩ := kidsOf h hi j hj
  rw [e]; simpa using q

set_option maxHeartbeats 4000000 in
set_option maxRecDepth 100000 in
theorem check_any (s : List Nd) (a : Option Addr) (c : Nat) (w : World) (sn : Sn → Addr) (za : Addr) (hl : Lay w sn) (hz : LayZ w sn za) (hs : Sch w a s) (hok : SchOk s) (hn0 : s.length ≤ 140737488351232) :
    Calls Tryz.prog 24 #[.slice a s.length c] w fun e w' => RetK s za w e w' := by
  have HS : Hid (Sch w a s) := hs
  have HOK : Hid (SchOk s) := hok
  have HL : Hid (Lay w sn) := hl
  have HZ : Hid (∀ wq, Below w.heap.size w wq → wq.cell? ⟨10, 0, none⟩ = some (.iface 254 (.pointer (some za)))) := fun wq q => (hz.below q).c
  have HAT : Hid (∀ (p : Int) (wq : World), Calls Tryz.prog 39 #[.int .i64 p, .iface 254 (.pointer (some za))] wq fun e w' => e = .returned (fault p za) ∧ w' = wq) := fun p wq => at_any p za wq
  have NO : Hid (∀ (p : Int) (wq : World), ¬ RightP s → Below w.heap.size w wq → RetK s za w (.returned (fault p za)) wq) := fun p wq h q => ⟨q, .inr ⟨⟨p, rfl⟩, h⟩⟩
  have z0 := HZ.out w (Below.refl _ _)
  clear hs hok hl hz
  by_cases hb : s.length < 1
  · have hb' : (s.length : Int) < 1 := by omega
    have HX : Hid (¬ RightP s) := fun h => by have := h.1; omega
    clear hb
    go_enter Tryz.func24, Tryz.ntmps24
    go_wp2_with fail
    refine (HAT.out _ _).mono ?_
    rintro e w1 ⟨rfl, rfl⟩
    unfold fault
    go_wp2
    go_ret
    exact NO.out _ _ HX.out (Below.refl _ _)
  by_cases hb2 : 40 < s.length
  · have hb' : (40 : Int) < s.length := by omega
    have hb1' : (1 : Int) ≤ s.length := by omega
    have HX : Hid (¬ RightP s) := fun h => by have := h.2.1; omega
    clear hb hb2
    go_enter Tryz.func24, Tryz.ntmps24
    go_wp2_with fail
    refine (HAT.out _ _).mono ?_
    rintro e w1 ⟨rfl, rfl⟩
    unfold fault
    go_wp2
    go_ret
    exact NO.out _ _ HX.out (Below.refl _ _)
  have h1 : 1 ≤ s.length := by omega
  have h40 : s.length ≤ 40 := by omega
  have h1' : (1 : Int) ≤ s.length := by omega
  have h40' : (s.length : Int) ≤ 40 := by omega
  clear hb hb2 hn0 z0
  go_enter Tryz.func24, Tryz.ntmps24
  go_wp2
  go_loopw [22] (fun vi wr => ∃ i : Nat, i ≤ s.length ∧ vi = .int .i64 i ∧ (∀ j, j < i → Alone s.length (nd s j)) ∧ Below w.heap.size w wr) (fun vi _ => s.length - (intOf vi).toNat)
  case atStart => exact ⟨0, Nat.zero_le _, rfl, fun _ h => absurd h (Nat.not_lt_zero _), Below.refl _ _⟩
  case round =>
    obtain ⟨i, hi, rfl, hall, hbr⟩ := hrel
    have HA : Hid (∀ j, j < i → Alone s.length (nd s j)) := hall
    have HB : Hid (Below w.heap.size w wr) := hbr
    clear hall hbr
    by_cases hlt : i < s.length
    · have hlt' : (i : Int) < s.length := by omega
      obtain ⟨b, o, ka, kc, rfl, nc, kl, km, ks⟩ := HS.out i hlt
      obtain ⟨n1, n2, n3, n4⟩ := nc.below HB.out
      have HB2 : Hid (Below w.heap.size w (wr.alloc (.cells #[.int .i64 (nd s i).kind, .int .i64 (nd s i).tag, .int .i64 (nd s i).mode, .slice ka (nd s i).kids.length kc] 58))) := HB.out.alloc HB.out.size _
      have HC : Hid (∀ wq, Below w.heap.size w wq → Calls Tryz.prog 40 #[.agg #[.int .i64 (nd s i).kind, .int .i64 (nd s i).tag, .int .i64 (nd s i).mode, .slice ka (nd s i).kids.length kc], .int .i64 s.length] wq fun e w' => RetO (Alone s.length (nd s i)) wq e w') := fun wq q => isShaped_any s.length (nd s i) ka kc wq (ks.below q) (by omega)
      clear ks nc
      go_wp2_with fail
      refine (HC.out _ HB2.out).mono ?_
      rintro e w1 ⟨r, rfl, hr, hb1⟩
      have HR : Hid (r = true ↔ Alone s.length (nd s i)) := hr
      have HB1 : Hid (Below w.heap.size w w1) := HB2.out.trans (hb1.mono HB2.out.size)
      have z1 := HZ.out w1 HB1.out
      clear hr hb1 n1 n2 n3 n4 HC
      cases r
      · have HX : Hid (¬ RightP s) := fun h => Bool.noConfusion (HR.out.2 (h.2.2.1 i hlt))
        go_wp2_with fail
        refine (HAT.out _ _).mono ?_
        rintro e w2 ⟨rfl, rfl⟩
        unfold fault
        go_wp2
        go_ret
        exact NO.out _ _ HX.out HB1.out
      · go_wp2
        go_roundw
        case rel => exact ⟨i + 1, by omega, by go_num, fun j hj => by
          by_cases e : j = i
          · subst e; exact HR.out.1 trivial
          · exact HA.out j (by omega), HB1.out⟩
        case measure => simp [intOf]; omega
    · have hlt' : (s.length : Int) ≤ i := by omega
      obtain rfl : i = s.length := by omega
      go_wp2
      go_loopw [38] (fun vi wr => ∃ i : Nat, i ≤ s.length ∧ vi = .int .i64 i ∧ (∀ j, j < i → DfltOk s (nd s j) (nd s j).kids.length ∧ ¬ Back s j) ∧ Below w.heap.size w wr) (fun vi _ => s.length - (intOf vi).toNat)
      case atStart => exact ⟨0, Nat.zero_le _, rfl, fun _ h => absurd h (Nat.not_lt_zero _), HB.out⟩
      case round =>
        obtain ⟨i, hi, rfl, hall, hbr⟩ := hrel
        have HBK : Hid (∀ j, j < i → DfltOk s (nd s j) (nd s j).kids.length ∧ ¬ Back s j) := hall
        have HB2 : Hid (Below w.heap.size w wr) := hbr
        clear hall hbr
        by_cases hlt : i < s.length
        · have hlt' : (i : Int) < s.length := by omega
          obtain ⟨b, o, ka, kc, rfl, nc, kl, km, ks⟩ := HS.out i hlt
          obtain ⟨n1, n2, n3, n4⟩ := nc.below HB2.out
          have HB3 : Hid (Below w.heap.size w (wr.alloc (.cells #[.int .i64 (nd s i).kind, .int .i64 (nd s i).tag, .int .i64 (nd s i).mode, .slice ka (nd s i).kids.length kc] 58))) := HB2.out.alloc HB2.out.size _
          have HD : Hid (∀ wq, Below w.heap.size w wq → Calls Tryz.prog 41 #[.slice (some ⟨b, o, none⟩) s.length c, .agg #[.int .i64 (nd s i).kind, .int .i64 (nd s i).tag, .int .i64 (nd s i).mode, .slice ka (nd s i).kids.length kc]] wq fun e w' => RetO (DfltOk s (nd s i) (nd s i).kids.length) wq e w') := fun wq q => defaultsFit_any s _ c (nd s i) ka kc wq sn (HL.out.below q) (HS.out.below q) (ks.below q) (count8 HA.out hlt) (kidsOf HA.out hlt) (taggedOf HA.out) (kinds_of HA.out) h40 (dfltOf HOK.out hlt)
          have HC : Hid (∀ wq, Below w.heap.size w wq → Calls Tryz.prog 42 #[.slice (some ⟨b, o, none⟩) s.length c, .int .i64 i] wq fun e w' => RetO (Back s i) wq e w') := fun wq q => comesBack_any s _ c i wq (HS.out.below q) (within_of HA.out) (fun j hj => (taggedOf HA.out j hj).1) hlt h40
          clear ks nc
          go_wp2_with fail
          refine (HD.out _ HB3.out).mono ?_
          rintro e w1 ⟨r, rfl, hr, hb1⟩
          have HR : Hid (r = true ↔ DfltOk s (nd s i) (nd s i).kids.length) := hr
          have HB1 : Hid (Below w.heap.size w w1) := HB3.out.trans (hb1.mono HB3.out.size)
          have z1 := HZ.out w1 HB1.out
          clear hr hb1 n1 n2 n3 n4 HD
          cases r
          · have HX : Hid (¬ RightP s) := fun h => Bool.noConfusion (HR.out.2 (h.2.2.2.2 i hlt).2)
            go_wp2_with fail
            refine (HAT.out _ _).mono ?_
            rintro e w2 ⟨rfl, rfl⟩
            unfold fault
            go_wp2
            go_ret
            exact NO.out _ _ HX.out HB1.out
          · have HDF : Hid (DfltOk s (nd s i) (nd s i).kids.length) := HR.out.1 rfl
            go_wp2_with fail
            refine (HC.out _ HB1.out).mono ?_
            rintro e w2 ⟨r, rfl, hr, hb2⟩
            have HR2 : Hid (r = true ↔ Back s i) := hr
            have HB4 : Hid (Below w.heap.size w w2) := HB1.out.trans (hb2.mono HB1.out.size)
            have z2 := HZ.out w2 HB4.out
            clear hr hb2 HC
            cases r
            · go_wp2
              go_roundw
              case rel => exact ⟨i + 1, by omega, by go_num, fun j hj => by
                by_cases e : j = i
                · subst e; exact ⟨HDF.out, fun q => Bool.noConfusion (HR2.out.2 q)⟩
                · exact HBK.out j (by omega), HB4.out⟩
              case measure => simp [intOf]; omega
            · have HX : Hid (¬ RightP s) := fun h => h.2.2.2.1 i hlt (HR2.out.1 rfl)
              go_wp2_with fail
              refine (HAT.out _ _).mono ?_
              rintro e w3 ⟨rfl, rfl⟩
              unfold fault
              go_wp2
              go_ret
              exact NO.out _ _ HX.out HB4.out
        · have hlt' : (s.length : Int) ≤ i := by omega
          obtain rfl : i = s.length := by omega
          have HC : Hid (Calls Tryz.prog 43 #[.slice a s.length c] wr fun e w' => e = .returned (.slice (some ⟨wr.heap.size, 0, none⟩) s.length s.length) ∧ AbW s wr w' s.length) := allBeginnings_any s a c wr (HS.out.below HB2.out) (within_of HA.out) (fun j hj => (taggedOf HA.out j hj).1) (kinds_of HA.out) (HL.out.below HB2.out).n h40
          go_wp2_with fail
          refine HC.out.mono ?_
          rintro e w1 ⟨rfl, hab⟩
          obtain ⟨gb, hgb⟩ : ∃ gb, gb = wr.heap.size := ⟨_, rfl⟩
          have HAB : Hid (AbR w1 gb s) := by rw [hgb]; exact hab.read
          have HB3 : Hid (Below w.heap.size w w1) := HB2.out.trans (hab.bel.mono HB2.out.size)
          rw [← hgb]
          clear hab hgb HC
          go_wp2
          go_loopw [60] (fun vi wr => ∃ i : Nat, i ≤ s.length ∧ vi = .int .i64 i ∧ (∀ j, j < i → PlainAt s (nd s j)) ∧ Below w1.heap.size w1 wr) (fun vi _ => s.length - (intOf vi).toNat)
          case atStart => exact ⟨0, Nat.zero_le _, rfl, fun _ h => absurd h (Nat.not_lt_zero _), Below.refl _ _⟩
          case round =>
            obtain ⟨i, hi, rfl, hall, hbr⟩ := hrel
            have HPL : Hid (∀ j, j < i → PlainAt s (nd s j)) := hall
            have HB4 : Hid (Below w1.heap.size w1 wr) := hbr
            have HB5 : Hid (Below w.heap.size w wr) := HB3.out.trans (hbr.mono HB3.out.size)
            clear hall hbr
            by_cases hlt : i < s.length
            · have hlt' : (i : Int) < s.length := by omega
              obtain ⟨b, o, ka, kc, rfl, nc, kl, km, ks⟩ := HS.out i hlt
              obtain ⟨n1, n2, n3, n4⟩ := nc.below HB5.out
              have HB6 : Hid (Below w1.heap.size w1 (wr.alloc (.cells #[.int .i64 (nd s i).kind, .int .i64 (nd s i).tag, .int .i64 (nd s i).mode, .slice ka (nd s i).kids.length kc] 58))) := HB4.out.alloc HB4.out.size _
              have HP : Hid (∀ wq, Below w1.heap.size w1 wq → Calls Tryz.prog 44 #[.agg #[.int .i64 (nd s i).kind, .int .i64 (nd s i).tag, .int .i64 (nd s i).mode, .slice ka (nd s i).kids.length kc], .slice (some ⟨gb, 0, none⟩) s.length s.length] wq fun e w' => RetO (PlainAt s (nd s i)) wq e w') := fun wq q => isPlain_any s (nd s i) ka kc gb wq (ks.below (HB3.out.trans (q.mono HB3.out.size))) kl (count8 HA.out hlt) (kidsOf HA.out hlt) (HAB.out.below q) h40
              clear ks nc
              go_wp2_with fail
              refine (HP.out _ HB6.out).mono ?_
              rintro e w2 ⟨r, rfl, hr, hb2⟩
              have HR : Hid (r = true ↔ PlainAt s (nd s i)) := hr
              have HB7 : Hid (Below w1.heap.size w1 w2) := HB6.out.trans (hb2.mono HB6.out.size)
              have HB8 : Hid (Below w.heap.size w w2) := HB3.out.trans (HB7.out.mono HB3.out.size)
              have z2 := HZ.out w2 HB8.out
              clear hr hb2 n1 n2 n3 n4 HP
              cases r
              · have HX : Hid (¬ RightP s) := fun h => Bool.noConfusion (HR.out.2 ((plain_iff HA.out (fun j hj => (HBK.out j hj).2) hlt).2 (h.2.2.2.2 i hlt).1))
                go_wp2_with fail
                refine (HAT.out _ _).mono ?_
                rintro e w3 ⟨rfl, rfl⟩
                unfold fault
                go_wp2
                go_ret
                exact NO.out _ _ HX.out HB8.out
              · go_wp2
                go_roundw
                case rel => exact ⟨i + 1, by omega, by go_num, fun j hj => by
                  by_cases e : j = i
                  · subst e; exact HR.out.1 trivial
                  · exact HPL.out j (by omega), HB7.out⟩
                case measure => simp [intOf]; omega
            · have hlt' : (s.length : Int) ≤ i := by omega
              obtain rfl : i = s.length := by omega
              go_wp2
              go_ret
              exact ⟨HB5.out, .inl ⟨rfl, h1, h40, HA.out, fun j hj => (HBK.out j hj).2, fun j hj => ⟨(plain_iff HA.out (fun j hj => (HBK.out j hj).2) hj).1 (HPL.out j hj), (HBK.out j hj).1⟩⟩⟩
end Go.Proofs.YtjceeljaljdmoaaGreatDoor
