/-
  hallmarkref.Right: what it answers.
-/
import Derived.Test.YtjceeljaljdmoaaGreatDoorSd
import Derived.Test.YtjceeljaljdmoaaGreatDoorRx
namespace Go.Proofs.YtjceeljaljdmoaaGreatDoor
open Go.RowKit

/-- The Defaults of a node's kids are elements of these kids. -/
def DfltOk (s : List Nd) (n : Nd) (m : Nat) : Prop := ∀ j, j < m → (kd n j).dflt.size = 0 ∨ ((nd s (kd n j).node.toNat).kind ≤ 9 ∧ ∃ u, ElemOk (nd s (kd n j).node.toNat) (kd n j).dflt u)
/-- A schema is right. -/
def RightP (s : List Nd) : Prop := 1 ≤ s.length ∧ s.length ≤ 40 ∧ (∀ i, i < s.length → Alone s.length (nd s i)) ∧ (∀ i, i < s.length → ¬ Back s i) ∧
  ∀ i, i < s.length → ((nd s i).kind = 10 ∨ (nd s i).kind = 13 → Told (Common s) (nd s i)) ∧ DfltOk s (nd s i) (nd s i).kids.length
theorem within_of {s : List Nd} (h : ∀ i, i < s.length → Alone s.length (nd s i)) : Within s := fun i hi k hk => by
  obtain ⟨j, hj, e⟩ := List.getElem_of_mem hk
  have := (h i hi).2.2.2 j hj
  unfold kd at this
  rw [List.getD_eq_getElem?_getD, List.getElem?_eq_getElem hj] at this
  simp only [Option.getD_some, e] at this
  exact ⟨this.1, this.2.1⟩
theorem kinds_of {s : List Nd} (h : ∀ i, i < s.length → Alone s.length (nd s i)) : Kinds s := fun i hi => by have := (h i hi).1; unfold Bad1 at this; omega
theorem count8 {s : List Nd} (h : ∀ i, i < s.length → Alone s.length (nd s i)) {i : Nat} (hi : i < s.length) : (nd s i).kids.length ≤ 8 := by
  have := (h i hi).2.2.1
  unfold Count at this
  repeat' split at this
  all_goals omega
theorem mode_of {s : List Nd} (h : ∀ i, i < s.length → Alone s.length (nd s i)) {i : Nat} (hi : i < s.length) : (nd s i).mode = 0 ∨ (nd s i).mode = 1 := by have := (h i hi).1; unfold Bad1 at this; omega

set_option maxHeartbeats 8000000 in
set_option maxRecDepth 100000 in
theorem right_any (s : List Nd) (a : Option Addr) (c : Nat) (w : World) (hs : Sch w a s) (hok : SchOk s) (hn0 : s.length ≤ 140737488351232) :
    Calls Tryz.prog 11 #[.slice a s.length c] w fun e w' => RetO (RightP s) w e w' := by
  have HS : Hid (Sch w a s) := hs
  have HOK : Hid (SchOk s) := hok
  by_cases hb : s.length < 1
  · have hb' : (s.length : Int) < 1 := by omega
    have HX : Hid (¬ RightP s) := fun h => by have := h.1; omega
    clear hs hok
    go_enter Tryz.func11, Tryz.ntmps11
    go_wp2
    go_ret
    exact reto_no HX.out (Below.refl _ _)
  by_cases hb2 : 40 < s.length
  · have hb' : (40 : Int) < s.length := by omega
    have hb1' : (1 : Int) ≤ s.length := by omega
    have HX : Hid (¬ RightP s) := fun h => by have := h.2.1; omega
    clear hs hok hb
    go_enter Tryz.func11, Tryz.ntmps11
    go_wp2
    go_ret
    exact reto_no HX.out (Below.refl _ _)
  have h1 : 1 ≤ s.length := by omega
  have h40 : s.length ≤ 40 := by omega
  have h1' : (1 : Int) ≤ s.length := by omega
  have h40' : (s.length : Int) ≤ 40 := by omega
  clear hb hb2 hs hok hn0
  go_enter Tryz.func11, Tryz.ntmps11
  go_wp2
  go_loopw [3] (fun vi wr => ∃ i : Nat, i ≤ s.length ∧ vi = .int .i64 i ∧ (∀ j, j < i → Alone s.length (nd s j)) ∧ Below w.heap.size w wr) (fun vi _ => s.length - (intOf vi).toNat)
  case atStart => exact ⟨0, Nat.zero_le _, rfl, fun _ h => absurd h (Nat.not_lt_zero _), Below.refl _ _⟩
  case round =>
    obtain ⟨i, hi, rfl, hall, hbr⟩ := hrel
    have HA : Hid (∀ j, j < i → Alone s.length (nd s j)) := hall
    have HB : Hid (Below w.heap.size w wr) := hbr
    clear hall hbr
    by_cases hlt : i < s.length
    · have hlt' : (i : Int) < s.length := by omega
      obtain ⟨b, o, ka, kc, rfl, nc, kl, km, ks⟩ := (HS.out.below HB.out) i hlt
      obtain ⟨n1, n2, n3, n4⟩ := nc
      have HC : Hid (Calls Tryz.prog 25 #[.slice (some ⟨b, o, none⟩) s.length c, .agg #[.int .i64 (nd s i).kind, .int .i64 (nd s i).tag, .int .i64 (nd s i).mode, .slice ka (nd s i).kids.length kc]] wr fun e w' => RetO (Alone s.length (nd s i)) wr e w') := alone_any s _ c (nd s i) ka kc wr h40 ks (by omega)
      clear ks
      go_wp2_with fail
      refine HC.out.mono ?_
      rintro e w1 ⟨r, rfl, hr, hb1⟩
      have HR : Hid (r = true ↔ Alone s.length (nd s i)) := hr
      have HB1 : Hid (Below w.heap.size w w1) := HB.out.trans (hb1.mono HB.out.size)
      clear hr hb1 n1 n2 n3 n4 HC
      cases r
      · go_wp2
        go_ret
        exact reto_no (fun h => Bool.noConfusion (HR.out.2 (h.2.2.1 i hlt))) HB1.out
      · go_wp2
        go_roundw
        case rel => exact ⟨i + 1, by omega, by go_num, fun j hj => by
          by_cases e : j = i
          · subst e; exact HR.out.1 trivial
          · exact HA.out j (by omega), HB1.out⟩
        case measure => simp [intOf]; omega
    · have hlt' : (s.length : Int) ≤ i := by omega
      obtain rfl : i = s.length := by omega
      go_wp2
      go_loopw [5] (fun vi wr => ∃ i : Nat, i ≤ s.length ∧ vi = .int .i64 i ∧ (∀ j, j < i → ¬ Back s j) ∧ Below w.heap.size w wr) (fun vi _ => s.length - (intOf vi).toNat)
      case atStart => exact ⟨0, Nat.zero_le _, rfl, fun _ h => absurd h (Nat.not_lt_zero _), HB.out⟩
      case round =>
        obtain ⟨i, hi, rfl, hall, hbr⟩ := hrel
        have HBK : Hid (∀ j, j < i → ¬ Back s j) := hall
        have HB2 : Hid (Below w.heap.size w wr) := hbr
        clear hall hbr
        by_cases hlt : i < s.length
        · have hlt' : (i : Int) < s.length := by omega
          have HC : Hid (Calls Tryz.prog 26 #[.slice a s.length c, .int .i64 i] wr fun e w' => RetL s i wr e w') := leaves_any s a c i wr (HS.out.below HB2.out) (within_of HA.out) hlt h40
          go_wp2_with fail
          refine HC.out.mono ?_
          rintro e w1 ⟨v, l, bk, rfl, hown, hb1, _, _, hbk⟩
          have HR : Hid (bk = true ↔ Back s i) := hbk
          have HB3 : Hid (Below w.heap.size w w1) := HB2.out.trans (hb1.mono HB2.out.size)
          clear hown hb1 hbk HC
          cases bk
          · go_wp2
            go_roundw
            case rel => exact ⟨i + 1, by omega, by go_num, fun j hj => by
              by_cases e : j = i
              · subst e; exact fun q => Bool.noConfusion (HR.out.2 q)
              · exact HBK.out j (by omega), HB3.out⟩
            case measure => simp [intOf]; omega
          · go_wp2
            go_ret
            exact reto_no (fun h => h.2.2.2.1 i hlt (HR.out.1 trivial)) HB3.out
        · have hlt' : (s.length : Int) ≤ i := by omega
          obtain rfl : i = s.length := by omega
          go_wp2
          go_loopw [8] (fun vi wr => ∃ i : Nat, i ≤ s.length ∧ vi = .int .i64 i ∧ (∀ j, j < i → ((nd s j).kind = 10 ∨ (nd s j).kind = 13 → Told (Common s) (nd s j)) ∧ DfltOk s (nd s j) (nd s j).kids.length) ∧ Below w.heap.size w wr) (fun vi _ => s.length - (intOf vi).toNat)
          case atStart => exact ⟨0, Nat.zero_le _, rfl, fun _ h => absurd h (Nat.not_lt_zero _), HB2.out⟩
          case round =>
            obtain ⟨i, hi, rfl, hall, hbr⟩ := hrel
            have HL : Hid (∀ j, j < i → ((nd s j).kind = 10 ∨ (nd s j).kind = 13 → Told (Common s) (nd s j)) ∧ DfltOk s (nd s j) (nd s j).kids.length) := hall
            have HB3 : Hid (Below w.heap.size w wr) := hbr
            clear hall hbr
            by_cases hlt : i < s.length
            · have hlt' : (i : Int) < s.length := by omega
              obtain ⟨b, o, ka, kc, rfl, nc, kl, km, ks⟩ := HS.out i hlt
              obtain ⟨n1, n2, n3, n4⟩ := nc.below HB3.out
              have KS : Hid (KidsIn w ka (nd s i).kids) := ks
              have h8 := count8 HA.out hlt
              obtain ⟨Bn, hBn⟩ : ∃ Bn, Bn = wr.heap.size := ⟨_, rfl⟩
              have HBN : Hid (Bn = wr.heap.size) := hBn
              have HB4' : Hid (Below w.heap.size w (wr.alloc (.cells #[.int .i64 (nd s i).kind, .int .i64 (nd s i).tag, .int .i64 (nd s i).mode, .slice ka (nd s i).kids.length kc] 58))) := HB3.out.alloc HB3.out.size _
              have W3' : (wr.alloc (.cells #[.int .i64 (nd s i).kind, .int .i64 (nd s i).tag, .int .i64 (nd s i).mode, .slice ka (nd s i).kids.length kc] 58)).cell? ⟨Bn, 3, none⟩ = some (.slice ka (nd s i).kids.length kc) := by rw [hBn]; simp
              clear ks nc hBn
              by_cases hk : (nd s i).kind = 10 ∨ (nd s i).kind = 13
              · have hkb : ((nd s i).kind == 10) = true ∨ (((nd s i).kind == 10) = false ∧ ((nd s i).kind == 13) = true) := by
                  rcases hk with hk | hk
                  · left; simp [hk]
                  · right; simp [hk]
                have HTD : Hid (Calls Tryz.prog 27 #[.slice (some ⟨b, o, none⟩) s.length c, .agg #[.int .i64 (nd s i).kind, .int .i64 (nd s i).tag, .int .i64 (nd s i).mode, .slice ka (nd s i).kids.length kc]] (wr.alloc (.cells #[.int .i64 (nd s i).kind, .int .i64 (nd s i).tag, .int .i64 (nd s i).mode, .slice ka (nd s i).kids.length kc] 58)) fun e w' => RetO (Told (Common s) (nd s i)) (wr.alloc (.cells #[.int .i64 (nd s i).kind, .int .i64 (nd s i).tag, .int .i64 (nd s i).mode, .slice ka (nd s i).kids.length kc] 58)) e w') :=
                  told_any s _ c i ka kc _ (HS.out.below HB4'.out) (within_of HA.out) (kinds_of HA.out) hlt h40 (KS.out.below HB4'.out) h8
                have HK : Hid ((nd s i).kind = 10 ∨ (nd s i).kind = 13) := hk
                clear hk
                rcases hkb with e1 | ⟨e1, e2⟩
                · go_wp2_with fail
                  refine HTD.out.mono ?_
                  rintro e W1 ⟨r, rfl, hr, hb4⟩
                  have HR : Hid (r = true ↔ Told (Common s) (nd s i)) := hr
                  have HB4 : Hid (Below w.heap.size w W1) := HB4'.out.trans (hb4.mono HB4'.out.size)
                  have W3 : W1.cell? ⟨Bn, 3, none⟩ = some (.slice ka (nd s i).kids.length kc) := (hb4.cell (lt_of_cell W3')).trans W3'
                  clear hr hb4 n1 n2 n3 n4 W3' HTD
                  cases r
                  · go_wp2
                    go_ret
                    exact reto_no (fun h => Bool.noConfusion (HR.out.2 ((h.2.2.2.2 i hlt).1 HK.out))) HB4.out
                  · go_wp2
                    rw [← HBN.out]
                    go_loopw [11] (fun vj wx => ∃ j : Nat, j ≤ (nd s i).kids.length ∧ vj = .int .i64 j ∧ DfltOk s (nd s i) j ∧ Below W1.heap.size W1 wx) (fun vj _ => (nd s i).kids.length - (intOf vj).toNat)
                    case atStart => exact ⟨0, Nat.zero_le _, rfl, fun _ h => absurd h (Nat.not_lt_zero _), Below.refl _ _⟩
                    case round =>
                      obtain ⟨j, hj, rfl, hdf, hbr⟩ := hrel
                      have HDF : Hid (DfltOk s (nd s i) j) := hdf
                      have HBX : Hid (Below W1.heap.size W1 wr) := hbr
                      have HBW : Hid (Below w.heap.size w wr) := HB4.out.trans (hbr.mono HB4.out.size)
                      have g3 : wr.cell? ⟨Bn, 3, none⟩ = some (.slice ka (nd s i).kids.length kc) := (hbr.cell (lt_of_cell W3)).trans W3
                      clear hdf hbr
                      by_cases hjl : j < (nd s i).kids.length
                      · have hjl' : (j : Int) < (nd s i).kids.length := by omega
                        obtain ⟨kb, ko, rfl, kcl⟩ := KS.out j hjl
                        obtain ⟨y, hy⟩ : ∃ y, kd (nd s i) j = y := ⟨_, rfl⟩
                        have HY : Hid (kd (nd s i) j = y) := hy
                        have hkc : KidCells w kb (ko + j * 3) y := by rw [← hy]; exact kcl
                        obtain ⟨k1, k2, k3⟩ := hkc.below HBW.out
                        have hko := (HA.out i hlt).2.2.2 j hjl
                        rw [hy] at hko
                        obtain ⟨t, ht⟩ : ∃ t : Nat, y.node = t := ⟨_, (Int.toNat_of_nonneg hko.1).symm⟩
                        have HT : Hid (y.node = t) := ht
                        have htl : t < s.length := by have := hko.2.1; omega
                        have htl' : (t : Int) < s.length := by omega
                        have hds : y.dflt.size ≤ 140737488351232 := HOK.out i hlt y (by rw [← hy]; unfold kd; rw [List.getD_eq_getElem?_getD, List.getElem?_eq_getElem hjl]; exact List.getElem_mem hjl)
                        rw [ht] at k1
                        have YES : Hid ((y.dflt.size = 0 ∨ ((nd s t).kind ≤ 9 ∧ ∃ u, ElemOk (nd s t) y.dflt u)) → DfltOk s (nd s i) (j + 1)) := fun h q hq => by
                          by_cases e : q = j
                          · subst e; rw [HY.out, HT.out]; exact h
                          · exact HDF.out q (by omega)
                        have NO : Hid (¬ (y.dflt.size = 0 ∨ ((nd s t).kind ≤ 9 ∧ ∃ u, ElemOk (nd s t) y.dflt u)) → ¬ RightP s) := fun h q => h (by have := (q.2.2.2.2 i hlt).2 j hjl; rw [HY.out, HT.out] at this; exact this)
                        clear hy kcl hkc hko ht
                        by_cases hz : y.dflt.size = 0
                        · have e := emp_t hz
                          have HZ : Hid (y.dflt.size = 0) := hz
                          have HB5 : Hid (∀ o, Below W1.heap.size W1 (wr.alloc o)) := fun o => HBX.out.alloc HBX.out.size o
                          clear hz
                          go_wp2
                          go_roundw
                          case rel => exact ⟨j + 1, by omega, by go_num, YES.out (.inl HZ.out), HB5.out _⟩
                          case measure => simp [intOf]; omega
                        · have e := emp_f (t := y.dflt) (by omega)
                          have HZ : Hid (¬ y.dflt.size = 0) := hz
                          obtain ⟨b', o', ka', kc', e', nc', _, _, _⟩ := (HS.out.below HBW.out) t htl
                          have nt := nc'.kind
                          obtain ⟨rfl, rfl⟩ : b = b' ∧ o = o' := by injection e' with e'; injection e' with a1 a2 _; exact ⟨a1, a2⟩
                          have hbl := lt_of_cell nt
                          simp only at hbl
                          clear hz e' nc'
                          by_cases hk9 : 9 < (nd s t).kind
                          · have HK : Hid (9 < (nd s t).kind) := hk9
                            have HB6 : Hid (∀ o, Below w.heap.size w (wr.alloc o)) := fun o => HBW.out.alloc HBW.out.size o
                            go_wp2
                            go_ret
                            exact reto_no (NO.out (fun q => by rcases q with q | q; exact HZ.out q; have := HK.out; have := q.1; omega)) (HB6.out _)
                          · have hk9' : (nd s t).kind ≤ 9 := by omega
                            have HK : Hid ((nd s t).kind ≤ 9) := hk9'
                            have HB6 : Hid (∀ o, Below w.heap.size w (wr.alloc o)) := fun o => HBW.out.alloc HBW.out.size o
                            have HB7 : Hid (∀ o, Below W1.heap.size W1 (wr.alloc o)) := fun o => HBX.out.alloc HBX.out.size o
                            have HRD : Hid (∀ wq, Below w.heap.size w wq → Calls Tryz.prog 28 #[.slice (some ⟨b, o, none⟩) s.length c, .int .i64 t, .string y.dflt] wq fun e w' => RetRd (nd s t) y.dflt wq e w') := fun wq hq => read_leaf s _ c t y.dflt wq (HS.out.below hq) htl (kinds_of HA.out t htl).1 hk9' (fun _ => mode_of HA.out htl) (by omega)
                            clear hk9
                            go_wp2_with fail
                            refine (HRD.out _ (HB6.out _)).mono ?_
                            rintro e w5 ⟨v5, p5, c5, rfl, hb5, hD⟩
                            have HD : Hid ((c5 = 0 ∧ p5 = 0 ∧ ∃ u, ElemOk (nd s t) y.dflt u ∧ w5.ownsRow _ 60 4 v5 1 (vcells [⟨(nd s t).kind, u, 0, 0⟩])) ∨ (c5 ≠ 0 ∧ v5 = .slice none 0 0 ∧ ∀ u, ¬ ElemOk (nd s t) y.dflt u)) := hD
                            have HB8 : Hid (Below w.heap.size w w5) := (HB6.out _).trans (hb5.mono (HB6.out _).size)
                            have HB9 : Hid (Below W1.heap.size W1 w5) := (HB7.out _).trans (hb5.mono (HB7.out _).size)
                            clear hb5
                            rcases hD with ⟨rfl, _, u, hu, _⟩ | ⟨hne, _, hno⟩
                            · have HU : Hid (ElemOk (nd s t) y.dflt u) := hu
                              clear hu HD
                              go_wp2
                              go_roundw
                              case rel => exact ⟨j + 1, by omega, by go_num, YES.out (.inr ⟨HK.out, u, HU.out⟩), HB9.out⟩
                              case measure => simp [intOf]; omega
                            · have hne' : (c5 != 0) = true := by simp [hne]
                              have HNO : Hid (∀ u, ¬ ElemOk (nd s t) y.dflt u) := hno
                              clear hno hne HD
                              go_wp2
                              go_ret
                              exact reto_no (NO.out (fun q => by rcases q with q | ⟨_, u, q⟩; exact HZ.out q; exact HNO.out u q)) HB8.out
                      · have hjl' : ((nd s i).kids.length : Int) ≤ j := by omega
                        obtain rfl : j = (nd s i).kids.length := by omega
                        go_wp2
                        go_roundw
                        case rel => exact ⟨i + 1, by omega, by go_num, fun q hq => by
                          by_cases e : q = i
                          · subst e; exact ⟨fun _ => HR.out.1 trivial, HDF.out⟩
                          · exact HL.out q (by omega), HBW.out⟩
                        case measure => simp [intOf]; omega
                · go_wp2_with fail
                  refine HTD.out.mono ?_
                  rintro e W1 ⟨r, rfl, hr, hb4⟩
                  have HR : Hid (r = true ↔ Told (Common s) (nd s i)) := hr
                  have HB4 : Hid (Below w.heap.size w W1) := HB4'.out.trans (hb4.mono HB4'.out.size)
                  have W3 : W1.cell? ⟨Bn, 3, none⟩ = some (.slice ka (nd s i).kids.length kc) := (hb4.cell (lt_of_cell W3')).trans W3'
                  clear hr hb4 n1 n2 n3 n4 W3' HTD
                  cases r
                  · go_wp2
                    go_ret
                    exact reto_no (fun h => Bool.noConfusion (HR.out.2 ((h.2.2.2.2 i hlt).1 HK.out))) HB4.out
                  · go_wp2
                    rw [← HBN.out]
                    go_loopw [11] (fun vj wx => ∃ j : Nat, j ≤ (nd s i).kids.length ∧ vj = .int .i64 j ∧ DfltOk s (nd s i) j ∧ Below W1.heap.size W1 wx) (fun vj _ => (nd s i).kids.length - (intOf vj).toNat)
                    case atStart => exact ⟨0, Nat.zero_le _, rfl, fun _ h => absurd h (Nat.not_lt_zero _), Below.refl _ _⟩
                    case round =>
                      obtain ⟨j, hj, rfl, hdf, hbr⟩ := hrel
                      have HDF : Hid (DfltOk s (nd s i) j) := hdf
                      have HBX : Hid (Below W1.heap.size W1 wr) := hbr
                      have HBW : Hid (Below w.heap.size w wr) := HB4.out.trans (hbr.mono HB4.out.size)
                      have g3 : wr.cell? ⟨Bn, 3, none⟩ = some (.slice ka (nd s i).kids.length kc) := (hbr.cell (lt_of_cell W3)).trans W3
                      clear hdf hbr
                      by_cases hjl : j < (nd s i).kids.length
                      · have hjl' : (j : Int) < (nd s i).kids.length := by omega
                        obtain ⟨kb, ko, rfl, kcl⟩ := KS.out j hjl
                        obtain ⟨y, hy⟩ : ∃ y, kd (nd s i) j = y := ⟨_, rfl⟩
                        have HY : Hid (kd (nd s i) j = y) := hy
                        have hkc : KidCells w kb (ko + j * 3) y := by rw [← hy]; exact kcl
                        obtain ⟨k1, k2, k3⟩ := hkc.below HBW.out
                        have hko := (HA.out i hlt).2.2.2 j hjl
                        rw [hy] at hko
                        obtain ⟨t, ht⟩ : ∃ t : Nat, y.node = t := ⟨_, (Int.toNat_of_nonneg hko.1).symm⟩
                        have HT : Hid (y.node = t) := ht
                        have htl : t < s.length := by have := hko.2.1; omega
                        have htl' : (t : Int) < s.length := by omega
                        have hds : y.dflt.size ≤ 140737488351232 := HOK.out i hlt y (by rw [← hy]; unfold kd; rw [List.getD_eq_getElem?_getD, List.getElem?_eq_getElem hjl]; exact List.getElem_mem hjl)
                        rw [ht] at k1
                        have YES : Hid ((y.dflt.size = 0 ∨ ((nd s t).kind ≤ 9 ∧ ∃ u, ElemOk (nd s t) y.dflt u)) → DfltOk s (nd s i) (j + 1)) := fun h q hq => by
                          by_cases e : q = j
                          · subst e; rw [HY.out, HT.out]; exact h
                          · exact HDF.out q (by omega)
                        have NO : Hid (¬ (y.dflt.size = 0 ∨ ((nd s t).kind ≤ 9 ∧ ∃ u, ElemOk (nd s t) y.dflt u)) → ¬ RightP s) := fun h q => h (by have := (q.2.2.2.2 i hlt).2 j hjl; rw [HY.out, HT.out] at this; exact this)
                        clear hy kcl hkc hko ht
                        by_cases hz : y.dflt.size = 0
                        · have e := emp_t hz
                          have HZ : Hid (y.dflt.size = 0) := hz
                          have HB5 : Hid (∀ o, Below W1.heap.size W1 (wr.alloc o)) := fun o => HBX.out.alloc HBX.out.size o
                          clear hz
                          go_wp2
                          go_roundw
                          case rel => exact ⟨j + 1, by omega, by go_num, YES.out (.inl HZ.out), HB5.out _⟩
                          case measure => simp [intOf]; omega
                        · have e := emp_f (t := y.dflt) (by omega)
                          have HZ : Hid (¬ y.dflt.size = 0) := hz
                          obtain ⟨b', o', ka', kc', e', nc', _, _, _⟩ := (HS.out.below HBW.out) t htl
                          have nt := nc'.kind
                          obtain ⟨rfl, rfl⟩ : b = b' ∧ o = o' := by injection e' with e'; injection e' with a1 a2 _; exact ⟨a1, a2⟩
                          have hbl := lt_of_cell nt
                          simp only at hbl
                          clear hz e' nc'
                          by_cases hk9 : 9 < (nd s t).kind
                          · have HK : Hid (9 < (nd s t).kind) := hk9
                            have HB6 : Hid (∀ o, Below w.heap.size w (wr.alloc o)) := fun o => HBW.out.alloc HBW.out.size o
                            go_wp2
                            go_ret
                            exact reto_no (NO.out (fun q => by rcases q with q | q; exact HZ.out q; have := HK.out; have := q.1; omega)) (HB6.out _)
                          · have hk9' : (nd s t).kind ≤ 9 := by omega
                            have HK : Hid ((nd s t).kind ≤ 9) := hk9'
                            have HB6 : Hid (∀ o, Below w.heap.size w (wr.alloc o)) := fun o => HBW.out.alloc HBW.out.size o
                            have HB7 : Hid (∀ o, Below W1.heap.size W1 (wr.alloc o)) := fun o => HBX.out.alloc HBX.out.size o
                            have HRD : Hid (∀ wq, Below w.heap.size w wq → Calls Tryz.prog 28 #[.slice (some ⟨b, o, none⟩) s.length c, .int .i64 t, .string y.dflt] wq fun e w' => RetRd (nd s t) y.dflt wq e w') := fun wq hq => read_leaf s _ c t y.dflt wq (HS.out.below hq) htl (kinds_of HA.out t htl).1 hk9' (fun _ => mode_of HA.out htl) (by omega)
                            clear hk9
                            go_wp2_with fail
                            refine (HRD.out _ (HB6.out _)).mono ?_
                            rintro e w5 ⟨v5, p5, c5, rfl, hb5, hD⟩
                            have HD : Hid ((c5 = 0 ∧ p5 = 0 ∧ ∃ u, ElemOk (nd s t) y.dflt u ∧ w5.ownsRow _ 60 4 v5 1 (vcells [⟨(nd s t).kind, u, 0, 0⟩])) ∨ (c5 ≠ 0 ∧ v5 = .slice none 0 0 ∧ ∀ u, ¬ ElemOk (nd s t) y.dflt u)) := hD
                            have HB8 : Hid (Below w.heap.size w w5) := (HB6.out _).trans (hb5.mono (HB6.out _).size)
                            have HB9 : Hid (Below W1.heap.size W1 w5) := (HB7.out _).trans (hb5.mono (HB7.out _).size)
                            clear hb5
                            rcases hD with ⟨rfl, _, u, hu, _⟩ | ⟨hne, _, hno⟩
                            · have HU : Hid (ElemOk (nd s t) y.dflt u) := hu
                              clear hu HD
                              go_wp2
                              go_roundw
                              case rel => exact ⟨j + 1, by omega, by go_num, YES.out (.inr ⟨HK.out, u, HU.out⟩), HB9.out⟩
                              case measure => simp [intOf]; omega
                            · have hne' : (c5 != 0) = true := by simp [hne]
                              have HNO : Hid (∀ u, ¬ ElemOk (nd s t) y.dflt u) := hno
                              clear hno hne HD
                              go_wp2
                              go_ret
                              exact reto_no (NO.out (fun q => by rcases q with q | ⟨_, u, q⟩; exact HZ.out q; exact HNO.out u q)) HB8.out
                      · have hjl' : ((nd s i).kids.length : Int) ≤ j := by omega
                        obtain rfl : j = (nd s i).kids.length := by omega
                        go_wp2
                        go_roundw
                        case rel => exact ⟨i + 1, by omega, by go_num, fun q hq => by
                          by_cases e : q = i
                          · subst e; exact ⟨fun _ => HR.out.1 trivial, HDF.out⟩
                          · exact HL.out q (by omega), HBW.out⟩
                        case measure => simp [intOf]; omega
              · have e1 : ((nd s i).kind == 10) = false := by simp; exact fun q => hk (.inl q)
                have e2 : ((nd s i).kind == 13) = false := by simp; exact fun q => hk (.inr q)
                have HK : Hid (¬ ((nd s i).kind = 10 ∨ (nd s i).kind = 13)) := hk
                have W3 := W3'
                have HB4 := HB4'
                clear hk W3' HB4'
                go_wp2
                rw [← HBN.out]
                generalize (wr.alloc (.cells #[.int .i64 (nd s i).kind, .int .i64 (nd s i).tag, .int .i64 (nd s i).mode, .slice ka (nd s i).kids.length kc] 58)) = W1 at *
                go_loopw [11] (fun vj wx => ∃ j : Nat, j ≤ (nd s i).kids.length ∧ vj = .int .i64 j ∧ DfltOk s (nd s i) j ∧ Below W1.heap.size W1 wx) (fun vj _ => (nd s i).kids.length - (intOf vj).toNat)
                case atStart => exact ⟨0, Nat.zero_le _, rfl, fun _ h => absurd h (Nat.not_lt_zero _), Below.refl _ _⟩
                case round =>
                  obtain ⟨j, hj, rfl, hdf, hbr⟩ := hrel
                  have HDF : Hid (DfltOk s (nd s i) j) := hdf
                  have HBX : Hid (Below W1.heap.size W1 wr) := hbr
                  have HBW : Hid (Below w.heap.size w wr) := HB4.out.trans (hbr.mono HB4.out.size)
                  have g3 : wr.cell? ⟨Bn, 3, none⟩ = some (.slice ka (nd s i).kids.length kc) := (hbr.cell (lt_of_cell W3)).trans W3
                  clear hdf hbr
                  by_cases hjl : j < (nd s i).kids.length
                  · have hjl' : (j : Int) < (nd s i).kids.length := by omega
                    obtain ⟨kb, ko, rfl, kcl⟩ := KS.out j hjl
                    obtain ⟨y, hy⟩ : ∃ y, kd (nd s i) j = y := ⟨_, rfl⟩
                    have HY : Hid (kd (nd s i) j = y) := hy
                    have hkc : KidCells w kb (ko + j * 3) y := by rw [← hy]; exact kcl
                    obtain ⟨k1, k2, k3⟩ := hkc.below HBW.out
                    have hko := (HA.out i hlt).2.2.2 j hjl
                    rw [hy] at hko
                    obtain ⟨t, ht⟩ : ∃ t : Nat, y.node = t := ⟨_, (Int.toNat_of_nonneg hko.1).symm⟩
                    have HT : Hid (y.node = t) := ht
                    have htl : t < s.length := by have := hko.2.1; omega
                    have htl' : (t : Int) < s.length := by omega
                    have hds : y.dflt.size ≤ 140737488351232 := HOK.out i hlt y (by rw [← hy]; unfold kd; rw [List.getD_eq_getElem?_getD, List.getElem?_eq_getElem hjl]; exact List.getElem_mem hjl)
                    rw [ht] at k1
                    have YES : Hid ((y.dflt.size = 0 ∨ ((nd s t).kind ≤ 9 ∧ ∃ u, ElemOk (nd s t) y.dflt u)) → DfltOk s (nd s i) (j + 1)) := fun h q hq => by
                      by_cases e : q = j
                      · subst e; rw [HY.out, HT.out]; exact h
                      · exact HDF.out q (by omega)
                    have NO : Hid (¬ (y.dflt.size = 0 ∨ ((nd s t).kind ≤ 9 ∧ ∃ u, ElemOk (nd s t) y.dflt u)) → ¬ RightP s) := fun h q => h (by have := (q.2.2.2.2 i hlt).2 j hjl; rw [HY.out, HT.out] at this; exact this)
                    clear hy kcl hkc hko ht
                    by_cases hz : y.dflt.size = 0
                    · have e := emp_t hz
                      have HZ : Hid (y.dflt.size = 0) := hz
                      have HB5 : Hid (∀ o, Below W1.heap.size W1 (wr.alloc o)) := fun o => HBX.out.alloc HBX.out.size o
                      clear hz
                      go_wp2
                      go_roundw
                      case rel => exact ⟨j + 1, by omega, by go_num, YES.out (.inl HZ.out), HB5.out _⟩
                      case measure => simp [intOf]; omega
                    · have e := emp_f (t := y.dflt) (by omega)
                      have HZ : Hid (¬ y.dflt.size = 0) := hz
                      obtain ⟨b', o', ka', kc', e', nc', _, _, _⟩ := (HS.out.below HBW.out) t htl
                      have nt := nc'.kind
                      obtain ⟨rfl, rfl⟩ : b = b' ∧ o = o' := by injection e' with e'; injection e' with a1 a2 _; exact ⟨a1, a2⟩
                      have hbl := lt_of_cell nt
                      simp only at hbl
                      clear hz e' nc'
                      by_cases hk9 : 9 < (nd s t).kind
                      · have HK : Hid (9 < (nd s t).kind) := hk9
                        have HB6 : Hid (∀ o, Below w.heap.size w (wr.alloc o)) := fun o => HBW.out.alloc HBW.out.size o
                        go_wp2
                        go_ret
                        exact reto_no (NO.out (fun q => by rcases q with q | q; exact HZ.out q; have := HK.out; have := q.1; omega)) (HB6.out _)
                      · have hk9' : (nd s t).kind ≤ 9 := by omega
                        have HK : Hid ((nd s t).kind ≤ 9) := hk9'
                        have HB6 : Hid (∀ o, Below w.heap.size w (wr.alloc o)) := fun o => HBW.out.alloc HBW.out.size o
                        have HB7 : Hid (∀ o, Below W1.heap.size W1 (wr.alloc o)) := fun o => HBX.out.alloc HBX.out.size o
                        have HRD : Hid (∀ wq, Below w.heap.size w wq → Calls Tryz.prog 28 #[.slice (some ⟨b, o, none⟩) s.length c, .int .i64 t, .string y.dflt] wq fun e w' => RetRd (nd s t) y.dflt wq e w') := fun wq hq => read_leaf s _ c t y.dflt wq (HS.out.below hq) htl (kinds_of HA.out t htl).1 hk9' (fun _ => mode_of HA.out htl) (by omega)
                        clear hk9
                        go_wp2_with fail
                        refine (HRD.out _ (HB6.out _)).mono ?_
                        rintro e w5 ⟨v5, p5, c5, rfl, hb5, hD⟩
                        have HD : Hid ((c5 = 0 ∧ p5 = 0 ∧ ∃ u, ElemOk (nd s t) y.dflt u ∧ w5.ownsRow _ 60 4 v5 1 (vcells [⟨(nd s t).kind, u, 0, 0⟩])) ∨ (c5 ≠ 0 ∧ v5 = .slice none 0 0 ∧ ∀ u, ¬ ElemOk (nd s t) y.dflt u)) := hD
                        have HB8 : Hid (Below w.heap.size w w5) := (HB6.out _).trans (hb5.mono (HB6.out _).size)
                        have HB9 : Hid (Below W1.heap.size W1 w5) := (HB7.out _).trans (hb5.mono (HB7.out _).size)
                        clear hb5
                        rcases hD with ⟨rfl, _, u, hu, _⟩ | ⟨hne, _, hno⟩
                        · have HU : Hid (ElemOk (nd s t) y.dflt u) := hu
                          clear hu HD
                          go_wp2
                          go_roundw
                          case rel => exact ⟨j + 1, by omega, by go_num, YES.out (.inr ⟨HK.out, u, HU.out⟩), HB9.out⟩
                          case measure => simp [intOf]; omega
                        · have hne' : (c5 != 0) = true := by simp [hne]
                          have HNO : Hid (∀ u, ¬ ElemOk (nd s t) y.dflt u) := hno
                          clear hno hne HD
                          go_wp2
                          go_ret
                          exact reto_no (NO.out (fun q => by rcases q with q | ⟨_, u, q⟩; exact HZ.out q; exact HNO.out u q)) HB8.out
                  · have hjl' : ((nd s i).kids.length : Int) ≤ j := by omega
                    obtain rfl : j = (nd s i).kids.length := by omega
                    go_wp2
                    go_roundw
                    case rel => exact ⟨i + 1, by omega, by go_num, fun q hq => by
                      by_cases e : q = i
                      · subst e; exact ⟨fun q => absurd q HK.out, HDF.out⟩
                      · exact HL.out q (by omega), HBW.out⟩
                    case measure => simp [intOf]; omega
            · have hlt' : (s.length : Int) ≤ i := by omega
              obtain rfl : i = s.length := by omega
              go_wp2
              go_ret
              exact reto_yes ⟨h1, h40, HA.out, HBK.out, HL.out⟩ HB3.out
end Go.Proofs.YtjceeljaljdmoaaGreatDoor
