/-
  Several texts in one:
  hallmarkref.told: what it answers.
  The document's reader: node, of the kinds 1 to 9: the pure part.
  The document's reader: node, of the kinds 1 to 9 (without a Tag).
  The document's reader: node, of the kinds 1 to 9 (a Tag of Mode 0).
  The document's answer: Length, Told, Tell, Head: what they answer.
-/
import Derived.Test.YtkkicodfpekbgaaGreatDoorJ5
import Derived.Test.YtkkicodfpekbgaaGreatDoorJ3
import Derived.Deep.RegionWith
import Derived.Test.YtkkicodfpekbgaaGreatDoorJ4
import Derived.Test.YtkkicodfpekbgaaGreatDoorJ2
/-! hallmarkref.told: what it answers. -/
namespace Go.Proofs.YtkkicodfpekbgaaGreatDoor
set_option linter.unusedSimpArgs false
set_option linter.unusedVariables false
open Go.RowKit

set_option maxHeartbeats 6000000 in
set_option maxRecDepth 100000 in
theorem told_any (s : List Nd) (a : Option Addr) (cp x : Nat) (ka : Option Addr) (kc : Nat) (w : World) (hs : Sch w a s) (hw : Within s) (hkd : Kinds s) (hx : x < s.length) (hn : s.length ≤ 40)
    (hka : KidsIn w ka (nd s x).kids) (hkl : (nd s x).kids.length ≤ 8) :
    Calls Tryz.prog 38 #[.slice a s.length cp, nodeV (nd s x) ka kc] w fun e w' => RetO (Told (Common s) (nd s x)) w e w' := by
  have HC : Hid (∀ (wr : World) (i k : Nat), Below w.heap.size w wr → i < s.length → k < s.length → Calls Tryz.prog 68 #[.slice a s.length cp, .int .i64 i, .int .i64 k] wr fun e w' => RetO (Common s i k) wr e w') :=
    fun wr i k hb hi hk => common_any s a cp i k wr (hs.below hb) hw hkd hi hk hn
  have HM : Hid (∀ (wr : World) (k : Kd), Calls Tryz.prog 66 #[.agg #[.int .i64 k.node, .bool k.opt, .string k.dflt]] wr fun e w' => RetO k.must wr e w') := fun wr k => must_any k wr
  have HKI : Hid (KidsIn w ka (nd s x).kids) := hka
  have HKR : Hid (∀ j, j < (nd s x).kids.length → ∃ t : Nat, (kd (nd s x) j).node = t ∧ t < s.length) := fun j hj => by
    have := hw x hx (kd (nd s x) j) (by unfold kd; rw [List.getD_eq_getElem?_getD, List.getElem?_eq_getElem hj]; exact List.getElem_mem hj)
    exact ⟨(kd (nd s x) j).node.toNat, (Int.toNat_of_nonneg this.1).symm, by omega⟩
  clear hs hw hkd hka
  unfold nodeV
  generalize nd s x = n at *
  go_enter Tryz.func38, Tryz.ntmps38
  go_wp2
  obtain ⟨B, hB⟩ : ∃ B, B = w.heap.size := ⟨_, rfl⟩
  have HW0 : Hid (∀ wr, Below (w.alloc (.cells #[.int .i64 n.kind, .int .i64 n.tag, .int .i64 n.mode, .slice ka n.kids.length kc] 58)).heap.size (w.alloc (.cells #[.int .i64 n.kind, .int .i64 n.tag, .int .i64 n.mode, .slice ka n.kids.length kc] 58)) wr →
      wr.cell? ⟨B, 0, none⟩ = some (.int .i64 n.kind) ∧ wr.cell? ⟨B, 3, none⟩ = some (.slice ka n.kids.length kc) ∧ Below w.heap.size w wr) := fun wr h => by
    have h1 := block_below (heap_alloc_new w _) h
    subst hB
    exact ⟨by simp [World.cell?, h1], by simp [World.cell?, h1], below_alloc h⟩
  generalize (w.alloc (.cells #[.int .i64 n.kind, .int .i64 n.tag, .int .i64 n.mode, .slice ka n.kids.length kc] 58)) = W0 at *
  rw [← hB]
  clear hB
  go_loopw [5] (fun vi wr => ∃ i : Nat, i ≤ n.kids.length ∧ vi = .int .i64 i ∧ (∀ i', i' < i → ToldAt (Common s) n i' n.kids.length) ∧ Below W0.heap.size W0 wr) (fun vi _ => n.kids.length - (intOf vi).toNat)
  case atStart => exact ⟨0, Nat.zero_le _, rfl, fun _ h => absurd h (Nat.not_lt_zero _), Below.refl _ _⟩
  case round =>
    obtain ⟨i, hi, rfl, hall, hbr⟩ := hrel
    have HA : Hid (∀ i', i' < i → ToldAt (Common s) n i' n.kids.length) := hall
    have HB : Hid (Below W0.heap.size W0 wr) := hbr
    obtain ⟨c0, c3, hbw⟩ := HW0.out wr hbr
    have HBW : Hid (Below w.heap.size w wr) := hbw
    clear hall hbr hbw
    by_cases hlt : i < n.kids.length
    · have hlt' : (i : Int) < n.kids.length := by omega
      obtain ⟨kb, ko, rfl, kcl⟩ := HKI.out i hlt
      obtain ⟨k1, k2, k3⟩ := kcl.below HBW.out
      obtain ⟨ti, hti, htl⟩ := HKR.out i hlt
      have HTI : Hid ((kd n i).node = ti) := hti
      have HCL : Hid (KidCells w kb (ko + i * 3) (kd n i)) := kcl
      clear hti kcl
      obtain ⟨y, hy⟩ : ∃ y, n.kids.getD i kd0 = y := ⟨_, rfl⟩
      rw [hy] at k1 k2 k3
      have HY : Hid (kd n i = y) := hy
      clear hy
      go_wp2_with fail
      refine (HM.out _ y).mono ?_
      rintro e w1 ⟨r, rfl, hr, hb1⟩
      have HR : Hid (r = true ↔ (kd n i).must) := by show r = true ↔ (kd n i).must; rw [HY.out]; exact hr
      have HB1 : Hid (Below W0.heap.size W0 w1) := HB.out.trans (hb1.mono HB.out.size)
      obtain ⟨d0, d3, hbw1⟩ := HW0.out w1 HB1.out
      clear hr hb1 c0 c3 k1 k2 k3 hbw1
      have hcs : (n.stops (kd n i) ∧ (n.kind == 10) = true ∧ r = true) ∨ (¬ n.stops (kd n i) ∧ (n.kind == 10) = true ∧ r = false) ∨ (¬ n.stops (kd n i) ∧ (n.kind == 10) = false) := by
        by_cases e : n.kind = 10
        · cases r
          · exact .inr (.inl ⟨fun h => Bool.noConfusion (HR.out.2 h.2), by simp [e], rfl⟩)
          · exact .inl ⟨⟨e, HR.out.1 rfl⟩, by simp [e], rfl⟩
        · exact .inr (.inr ⟨fun h => e h.1, by simp [e]⟩)
      rcases hcs with ⟨hst, hk10, rfl⟩ | ⟨hst, hk10, rfl⟩ | ⟨hst, hk10⟩
      · have HST : Hid (n.stops (kd n i)) := hst
        clear hst
        go_wp2
        go_roundw
        case rel => exact ⟨i + 1, by omega, by go_num, fun i' h => by
          by_cases e : i' = i
          · subst e; exact .inl HST.out
          · exact HA.out i' (by omega), HB1.out⟩
        case measure => simp [intOf]; omega
      · have HST : Hid (¬ n.stops (kd n i)) := hst
        have HK10 : Hid (n.kind = 10) := by show n.kind = 10; simpa using hk10
        clear hst
        go_wp2
        go_loopw [7, 8] (fun vo vk wx => ∃ (k : Nat) (ov : Bool), i < k ∧ k ≤ n.kids.length ∧ vk = .int .i64 k ∧ vo = .bool ov ∧ Hid (ov = true ↔ ∃ j, i < j ∧ j < k ∧ n.stops (kd n j)) ∧ Hid (∀ k', i < k' → k' < k → (∀ j, i < j → j < k' → ¬ n.stops (kd n j)) → ¬ Common s (kd n i).node.toNat (kd n k').node.toNat) ∧ Hid (Below W0.heap.size W0 wx))
          (fun _ vk _ => n.kids.length - (intOf vk).toNat)
        case atStart => exact ⟨i + 1, false, by omega, by omega, by go_num, rfl, ⟨fun h => Bool.noConfusion h, fun ⟨j, h1, h2, _⟩ => absurd h1 (by omega)⟩, fun k' h1 h2 => absurd h1 (by omega), HB1⟩
        case round =>
          obtain ⟨k, ov, hik, hk, rfl, rfl, HOV, HT, HBX⟩ := hrel
          obtain ⟨c0, c3, hbw2⟩ := HW0.out wr HBX.out
          have HBX2 : Hid (Below w.heap.size w wr) := hbw2
          clear hbw2 d0 d3
          by_cases hkl2 : k < n.kids.length
          · have hkl' : (k : Int) < n.kids.length := by omega
            cases ov
            · obtain ⟨kb2, ko2, e2, kcl2⟩ := HKI.out k hkl2
              obtain ⟨rfl, rfl⟩ : kb = kb2 ∧ ko = ko2 := by injection e2 with e2; injection e2 with e3 e4 _; exact ⟨e3, e4⟩
              obtain ⟨tk, htk, htkl⟩ := HKR.out k hkl2
              have k1 := (HCL.out.below HBX2.out).node
              rw [HTI.out] at k1
              obtain ⟨z, hz⟩ : ∃ z, kd n k = z := ⟨_, rfl⟩
              have HZ : Hid (kd n k = z) := hz
              have HCZ : Hid (KidCells w kb (ko + k * 3) z) := by show KidCells w kb (ko + k * 3) z; rw [← hz]; exact kcl2
              rw [hz] at htk
              have z1 := (HCZ.out.below HBX2.out).node
              rw [htk] at z1
              have HTK : Hid (z.node = tk) := htk
              clear e2 kcl2 hz htk
              go_wp2_with fail
              go_region_with (go_at_call 68; refine Calls.mono (HC.out _ ti tk ?_ htl htkl) ?_; (exact below_drewN HBX2.out 1); rintro e w2 ⟨r2, rfl, hr2, hb2⟩)
              all_goals
                have HR2 : Hid (r2 = true ↔ Common s ti tk) := hr2
                have HB3 : Hid (Below W0.heap.size W0 w2) := (below_drewN HBX.out 1).trans (hb2.mono (below_drewN HBX.out 1).size)
                obtain ⟨e0, e3, hbw3⟩ := HW0.out w2 HB3.out
                have HBX3 : Hid (Below w.heap.size w w2) := hbw3
                obtain ⟨z1', z2', z3'⟩ := HCZ.out.below hbw3
                have HIN : Hid (∀ j, i < j → j < k → ¬ n.stops (kd n j)) := fun j h1 h2 h3 => Bool.noConfusion (HOV.out.2 ⟨j, h1, h2, h3⟩)
                have HCE : Hid (Common s (kd n i).node.toNat (kd n k).node.toNat ↔ Common s ti tk) := by
                  show Common s (kd n i).node.toNat (kd n k).node.toNat ↔ Common s ti tk
                  rw [HZ.out, HTI.out, HTK.out]; rfl
                clear hr2 hb2 hbw3 c0 c3 k1 z1
                cases r2
                · go_wp2_with fail
                  refine (HM.out _ z).mono ?_
                  rintro e w4 ⟨r4, rfl, hr4, hb4⟩
                  have HR4 : Hid (r4 = true ↔ z.must) := hr4
                  have HB4 : Hid (Below W0.heap.size W0 w4) := HB3.out.trans (hb4.mono HB3.out.size)
                  obtain ⟨f0, f3, hbw4⟩ := HW0.out w4 HB4.out
                  have HT' : Hid (∀ k', i < k' → k' < k + 1 → (∀ j, i < j → j < k' → ¬ n.stops (kd n j)) → ¬ Common s (kd n i).node.toNat (kd n k').node.toNat) := fun k' h1 h2 h3 => by
                    by_cases ek : k' = k
                    · subst ek; exact fun h4 => Bool.noConfusion (HR2.out.2 (HCE.out.1 h4))
                    · exact HT.out k' h1 (by omega) h3
                  have HOV' : Hid (r4 = true ↔ ∃ j, i < j ∧ j < k + 1 ∧ n.stops (kd n j)) := by
                    show r4 = true ↔ ∃ j, i < j ∧ j < k + 1 ∧ n.stops (kd n j)
                    constructor
                    · intro h; exact ⟨k, hik, by omega, by rw [HZ.out]; exact ⟨HK10.out, HR4.out.1 h⟩⟩
                    · rintro ⟨j, h1, h2, h3⟩
                      by_cases ej : j = k
                      · subst ej; rw [HZ.out] at h3; exact HR4.out.2 h3.2
                      · exact absurd h3 (HIN.out j h1 (by omega))
                  clear hr4 hb4 hbw4 e0 e3 z1' z2' z3'
                  go_wp2
                  go_roundw
                  case rel => exact ⟨k + 1, r4, by omega, by omega, by go_num, rfl, HOV', HT', HB4⟩
                  case measure => simp [intOf]; omega
                · go_wp2
                  go_ret
                  exact reto_no (fun h => by
                    rcases h i hlt with h' | h'
                    · exact HST.out h'
                    · exact h' k hik hkl2 HIN.out (HCE.out.2 (HR2.out.1 trivial))) HBX3.out
            · have HDN : Hid (ToldAt (Common s) n i n.kids.length) := .inr (fun k' h1 h2 h3 => by
                obtain ⟨j, j1, j2, j3⟩ := HOV.out.1 rfl
                by_cases ej : j < k'
                · exact absurd j3 (h3 j j1 ej)
                · exact HT.out k' h1 (by omega) h3)
              go_wp2
              go_roundw
              case rel => exact ⟨i + 1, by omega, by go_num, fun i' h => by
                by_cases e : i' = i
                · subst e; exact HDN.out
                · exact HA.out i' (by omega), HBX.out⟩
              case measure => simp [intOf]; omega
          · have hkl' : (n.kids.length : Int) ≤ k := by omega
            have HDN : Hid (ToldAt (Common s) n i n.kids.length) := .inr (fun k' h1 h2 h3 => HT.out k' h1 (by omega) h3)
            go_wp2
            go_roundw
            case rel => exact ⟨i + 1, by omega, by go_num, fun i' h => by
              by_cases e : i' = i
              · subst e; exact HDN.out
              · exact HA.out i' (by omega), HBX.out⟩
            case measure => simp [intOf]; omega
      · have HST : Hid (¬ n.stops (kd n i)) := hst
        have HK10 : Hid (¬ n.kind = 10) := by show ¬ n.kind = 10; simpa using hk10
        clear hst
        go_wp2
        go_loopw [7, 8] (fun vo vk wx => ∃ (k : Nat) (ov : Bool), i < k ∧ k ≤ n.kids.length ∧ vk = .int .i64 k ∧ vo = .bool ov ∧ Hid (ov = true ↔ ∃ j, i < j ∧ j < k ∧ n.stops (kd n j)) ∧ Hid (∀ k', i < k' → k' < k → (∀ j, i < j → j < k' → ¬ n.stops (kd n j)) → ¬ Common s (kd n i).node.toNat (kd n k').node.toNat) ∧ Hid (Below W0.heap.size W0 wx))
          (fun _ vk _ => n.kids.length - (intOf vk).toNat)
        case atStart => exact ⟨i + 1, false, by omega, by omega, by go_num, rfl, ⟨fun h => Bool.noConfusion h, fun ⟨j, h1, h2, _⟩ => absurd h1 (by omega)⟩, fun k' h1 h2 => absurd h1 (by omega), HB1⟩
        case round =>
          obtain ⟨k, ov, hik, hk, rfl, rfl, HOV, HT, HBX⟩ := hrel
          obtain ⟨c0, c3, hbw2⟩ := HW0.out wr HBX.out
          have HBX2 : Hid (Below w.heap.size w wr) := hbw2
          clear hbw2 d0 d3
          by_cases hkl2 : k < n.kids.length
          · have hkl' : (k : Int) < n.kids.length := by omega
            cases ov
            · obtain ⟨kb2, ko2, e2, kcl2⟩ := HKI.out k hkl2
              obtain ⟨rfl, rfl⟩ : kb = kb2 ∧ ko = ko2 := by injection e2 with e2; injection e2 with e3 e4 _; exact ⟨e3, e4⟩
              obtain ⟨tk, htk, htkl⟩ := HKR.out k hkl2
              have k1 := (HCL.out.below HBX2.out).node
              rw [HTI.out] at k1
              obtain ⟨z, hz⟩ : ∃ z, kd n k = z := ⟨_, rfl⟩
              have HZ : Hid (kd n k = z) := hz
              have HCZ : Hid (KidCells w kb (ko + k * 3) z) := by show KidCells w kb (ko + k * 3) z; rw [← hz]; exact kcl2
              rw [hz] at htk
              have z1 := (HCZ.out.below HBX2.out).node
              rw [htk] at z1
              have HTK : Hid (z.node = tk) := htk
              clear e2 kcl2 hz htk
              go_wp2_with fail
              go_region_with (go_at_call 68; refine Calls.mono (HC.out _ ti tk ?_ htl htkl) ?_; (exact below_drewN HBX2.out 1); rintro e w2 ⟨r2, rfl, hr2, hb2⟩)
              all_goals
                have HR2 : Hid (r2 = true ↔ Common s ti tk) := hr2
                have HB3 : Hid (Below W0.heap.size W0 w2) := (below_drewN HBX.out 1).trans (hb2.mono (below_drewN HBX.out 1).size)
                obtain ⟨e0, e3, hbw3⟩ := HW0.out w2 HB3.out
                have HBX3 : Hid (Below w.heap.size w w2) := hbw3
                obtain ⟨z1', z2', z3'⟩ := HCZ.out.below hbw3
                have HIN : Hid (∀ j, i < j → j < k → ¬ n.stops (kd n j)) := fun j h1 h2 h3 => Bool.noConfusion (HOV.out.2 ⟨j, h1, h2, h3⟩)
                have HCE : Hid (Common s (kd n i).node.toNat (kd n k).node.toNat ↔ Common s ti tk) := by
                  show Common s (kd n i).node.toNat (kd n k).node.toNat ↔ Common s ti tk
                  rw [HZ.out, HTI.out, HTK.out]; rfl
                clear hr2 hb2 hbw3 c0 c3 k1 z1
                cases r2
                · go_wp2_with fail
                  refine (HM.out _ z).mono ?_
                  rintro e w4 ⟨r4, rfl, hr4, hb4⟩
                  have HR4 : Hid (r4 = true ↔ z.must) := hr4
                  have HB4 : Hid (Below W0.heap.size W0 w4) := HB3.out.trans (hb4.mono HB3.out.size)
                  obtain ⟨f0, f3, hbw4⟩ := HW0.out w4 HB4.out
                  have HT' : Hid (∀ k', i < k' → k' < k + 1 → (∀ j, i < j → j < k' → ¬ n.stops (kd n j)) → ¬ Common s (kd n i).node.toNat (kd n k').node.toNat) := fun k' h1 h2 h3 => by
                    by_cases ek : k' = k
                    · subst ek; exact fun h4 => Bool.noConfusion (HR2.out.2 (HCE.out.1 h4))
                    · exact HT.out k' h1 (by omega) h3
                  have HOV' : Hid (false = true ↔ ∃ j, i < j ∧ j < k + 1 ∧ n.stops (kd n j)) := by
                    show false = true ↔ ∃ j, i < j ∧ j < k + 1 ∧ n.stops (kd n j)
                    constructor
                    · intro h; exact Bool.noConfusion h
                    · rintro ⟨j, h1, h2, h3⟩
                      by_cases ej : j = k
                      · subst ej; rw [HZ.out] at h3; exact absurd h3.1 HK10.out
                      · exact absurd h3 (HIN.out j h1 (by omega))
                  clear hr4 hb4 hbw4 e0 e3 z1' z2' z3'
                  go_wp2
                  go_roundw
                  case rel => exact ⟨k + 1, false, by omega, by omega, by go_num, rfl, HOV', HT', HB4⟩
                  case measure => simp [intOf]; omega
                · go_wp2
                  go_ret
                  exact reto_no (fun h => by
                    rcases h i hlt with h' | h'
                    · exact HST.out h'
                    · exact h' k hik hkl2 HIN.out (HCE.out.2 (HR2.out.1 trivial))) HBX3.out
            · have HDN : Hid (ToldAt (Common s) n i n.kids.length) := .inr (fun k' h1 h2 h3 => by
                obtain ⟨j, j1, j2, j3⟩ := HOV.out.1 rfl
                by_cases ej : j < k'
                · exact absurd j3 (h3 j j1 ej)
                · exact HT.out k' h1 (by omega) h3)
              go_wp2
              go_roundw
              case rel => exact ⟨i + 1, by omega, by go_num, fun i' h => by
                by_cases e : i' = i
                · subst e; exact HDN.out
                · exact HA.out i' (by omega), HBX.out⟩
              case measure => simp [intOf]; omega
          · have hkl' : (n.kids.length : Int) ≤ k := by omega
            have HDN : Hid (ToldAt (Common s) n i n.kids.length) := .inr (fun k' h1 h2 h3 => HT.out k' h1 (by omega) h3)
            go_wp2
            go_roundw
            case rel => exact ⟨i + 1, by omega, by go_num, fun i' h => by
              by_cases e : i' = i
              · subst e; exact HDN.out
              · exact HA.out i' (by omega), HBX.out⟩
            case measure => simp [intOf]; omega
    · have hlt' : (n.kids.length : Int) ≤ i := by omega
      go_wp2
      go_ret
      exact reto_yes (fun i' h => HA.out i' (by omega)) HBW.out
end Go.Proofs.YtkkicodfpekbgaaGreatDoor

/-! The document's reader: node, of the kinds 1 to 9: the pure part. -/
namespace Go.Proofs.YtkkicodfpekbgaaGreatDoor
set_option linter.unusedSimpArgs false
set_option linter.unusedVariables false
open Go.RowKit

/-- The disjunction of RetN. -/
def NodeD (N : Nd) (data : ByteArray) (x y : Nat) (dp : Int) (tree tree' : List Vl) (v e' : Int) : Prop :=
  (e' = 0 ∧ ∃ to u, v = (to : Nat) ∧ NodeAt N data x y dp to u ∧ tree' = tree ++ [⟨N.kind, u, 0, 0⟩]) ∨ (e' ≠ 0 ∧ ∀ to u, ¬ NodeAt N data x y dp to u)
theorem nodeA {N : Nd} {data : ByteArray} {x y z l : Nat} {dp : Int} {tree tree' : List Vl} {p e' p' hc hn : Int} {hb : Bool} (cl nu : Int) (hk : (hd (data.extract x y)).1 = 0) (hH : (hd (data.extract x y)).2 = ⟨hc, hb, hn, z, l⟩)
    (hcn : (N.tag < 0 ∧ cl = 0 ∧ nu = own N.kind) ∨ (0 ≤ N.tag ∧ N.mode = 0 ∧ cl = 2 ∧ nu = N.tag))
    (h : BareL N.kind cl nu ⟨hc, hb, hn, z, l⟩ data x z (x + z + l) dp tree p tree' e' p') : NodeD N data x y dp tree tree' ((x : Int) + z + l) e' := by
  have hto : ∀ to u, NodeAt N data x y dp to u → to = x + z + l ∧ hc = cl ∧ hn = nu ∧ hb = false ∧ dp ≤ 12 ∧ u = data.extract (x + z) (x + z + l) ∧ ContentOk N.kind u := by
    rintro to u ⟨h1, _, h3, h4⟩
    rw [hH] at h3 h4
    simp only [Int.toNat_natCast] at h3 h4
    have : to = x + z + l := by omega
    subst this
    rcases h4 with ⟨q1, q2, q3, q4, q5, q6⟩ | ⟨q1, q2, q3, q4, q5, q6, q7⟩ | ⟨q1, q2, _⟩
    · rcases hcn with ⟨_, r1, r2⟩ | ⟨r0, _⟩
      · exact ⟨rfl, q2.trans r1.symm, q3.trans r2.symm, q4, h1, q5, q6⟩
      · omega
    · rcases hcn with ⟨r0, _⟩ | ⟨_, _, r1, r2⟩
      · omega
      · exact ⟨rfl, q3.trans r1.symm, q4.trans r2.symm, q5, h1, q6, q7⟩
    · rcases hcn with ⟨r0, _⟩ | ⟨_, r1, _⟩
      · omega
      · exact absurd r1 q2
  rcases h with ⟨h1, _, h3, _⟩ | ⟨_, h2, _, h3, _⟩ | ⟨⟨h1, h2, h3⟩, h4, h5, h6, h7, _⟩ | ⟨_, _, h5, _, h7, _⟩
  · exact .inr ⟨by omega, fun to u q => h1 ⟨(hto to u q).2.1, (hto to u q).2.2.1, (hto to u q).2.2.2.1⟩⟩
  · exact .inr ⟨by omega, fun to u q => by have := (hto to u q).2.2.2.2.1; omega⟩
  · refine .inl ⟨h7, x + z + l, _, by omega, ⟨h4, hk, by rw [hH]; simp only; omega, ?_⟩, h6⟩
    rw [hH]
    simp only [Int.toNat_natCast]
    rcases hcn with ⟨r0, r1, r2⟩ | ⟨r0, r1, r2, r3⟩
    · exact .inl ⟨r0, h1.trans r1, h2.trans r2, h3, trivial, h5⟩
    · exact .inr (.inl ⟨r0, r1, h1.trans r2, h2.trans r3, h3, trivial, h5⟩)
  · exact .inr ⟨by omega, fun to u q => h5 (by have := (hto to u q).2.2.2.2.2; rw [← this.1]; exact this.2)⟩

theorem nodeC_no {N : Nd} {data : ByteArray} {x y z l : Nat} {dp : Int} {hc hn : Int} {hb : Bool} (hH : (hd (data.extract x y)).2 = ⟨hc, hb, hn, z, l⟩) (ht : 0 ≤ N.tag) (hm : N.mode = 1)
    {to : Nat} {u : ByteArray} (h : NodeAt N data x y dp to u) : to = x + z + l ∧ hc = 2 ∧ hn = N.tag ∧ hb = true ∧ dp ≤ 12 ∧ (hd (data.extract (x + z) (x + z + l))).1 = 0 ∧
      ∀ hc2 hb2 hn2 (z2 l2 : Nat), (hd (data.extract (x + z) (x + z + l))).2 = ⟨hc2, hb2, hn2, z2, l2⟩ → hc2 = 0 ∧ hn2 = own N.kind ∧ hb2 = false ∧ x + z + z2 + l2 = x + z + l ∧ u = data.extract (x + z + z2) (x + z + l) ∧ ContentOk N.kind u := by
  obtain ⟨h1, _, h3, h4⟩ := h
  rw [hH] at h3 h4
  simp only [Int.toNat_natCast] at h3 h4
  obtain rfl : to = x + z + l := by omega
  rcases h4 with ⟨q1, _⟩ | ⟨_, q1, _⟩ | ⟨_, _, q1, q2, q3, t, rfl, q4, q5, q6, q7, q8, q9, q10⟩
  · omega
  · omega
  · refine ⟨rfl, q1, q2, q3, h1, q4, fun hc2 hb2 hn2 z2 l2 hH2 => ?_⟩
    rw [hH2] at q5 q6 q7 q8 q9
    simp only [Int.toNat_natCast] at q5 q6 q7 q8 q9
    exact ⟨q5, q6, q7, by omega, q9, q10⟩
theorem nodeC {N : Nd} {data : ByteArray} {x y z l z2 l2 : Nat} {dp : Int} {tree tree' : List Vl} {p e' p' hc hn hc2 hn2 : Int} {hb hb2 : Bool} (hk : (hd (data.extract x y)).1 = 0) (hH : (hd (data.extract x y)).2 = ⟨hc, hb, hn, z, l⟩) (ht : 0 ≤ N.tag) (hm : N.mode = 1)
    (hq : hc = 2 ∧ hn = N.tag ∧ hb = true) (hdp : dp ≤ 12) (hk2 : (hd (data.extract (x + z) (x + z + l))).1 = 0) (hH2 : (hd (data.extract (x + z) (x + z + l))).2 = ⟨hc2, hb2, hn2, z2, l2⟩)
    (h : BareL N.kind 0 (own N.kind) ⟨hc2, hb2, hn2, z2, l2⟩ data (x + z) z2 (x + z + z2 + l2) dp tree p tree' e' p') :
    (x + z + z2 + l2 = x + z + l → NodeD N data x y dp tree tree' ((x : Int) + z + l) e') ∧ (x + z + z2 + l2 ≠ x + z + l → ∀ to u, ¬ NodeAt N data x y dp to u) ∧ (e' ≠ 0 → ∀ to u, ¬ NodeAt N data x y dp to u) := by
  have hno : ∀ {to u}, NodeAt N data x y dp to u → _ := fun q => nodeC_no hH ht hm q
  have hne : e' ≠ 0 → ∀ to u, ¬ NodeAt N data x y dp to u := fun he to u q => by
    obtain ⟨r1, r2, r3, r4, r5, r6, r7⟩ := hno q
    obtain ⟨s1, s2, s3, s4, s5, s6⟩ := r7 hc2 hb2 hn2 z2 l2 hH2
    rcases h with ⟨g1, _⟩ | ⟨_, g1, _⟩ | ⟨_, _, _, _, g1, _⟩ | ⟨_, _, g1, _⟩
    · exact g1 ⟨s1, s2, s3⟩
    · omega
    · exact he g1
    · exact g1 (by rw [s4, ← s5]; exact s6)
  refine ⟨fun he => ?_, fun he to u q => he ((hno q).2.2.2.2.2.2 hc2 hb2 hn2 z2 l2 hH2).2.2.2.1, hne⟩
  by_cases he0 : e' = 0
  · left
    refine ⟨he0, x + z + l, data.extract (x + z + z2) (x + z + l), by omega, ⟨hdp, hk, by rw [hH]; simp only; omega, ?_⟩, ?_⟩
    · rw [hH]
      simp only [Int.toNat_natCast]
      refine .inr (.inr ⟨ht, by omega, hq.1, hq.2.1, hq.2.2, _, rfl, hk2, ?_⟩)
      rw [hH2]
      simp only [Int.toNat_natCast]
      rcases h with ⟨_, _, g1, _⟩ | ⟨_, _, _, g1, _⟩ | ⟨⟨g1, g2, g3⟩, _, g4, _⟩ | ⟨_, _, _, _, g1, _⟩
      · omega
      · omega
      · exact ⟨g1, g2, g3, by omega, trivial, by rw [← he]; exact g4⟩
      · omega
    · rcases h with ⟨_, _, g1, _⟩ | ⟨_, _, _, g1, _⟩ | ⟨_, _, _, g4, _⟩ | ⟨_, _, _, _, g1, _⟩
      · omega
      · omega
      · rw [← he]; exact g4
      · omega
  · exact .inr ⟨he0, hne he0⟩
end Go.Proofs.YtkkicodfpekbgaaGreatDoor

/-! The document's reader: node, of the kinds 1 to 9 (without a Tag). -/
namespace Go.Proofs.YtkkicodfpekbgaaGreatDoor
set_option linter.unusedSimpArgs false
set_option linter.unusedVariables false
open Go.RowKit

set_option maxHeartbeats 8000000 in
set_option maxRecDepth 100000 in
theorem node_leafA (s : List Nd) (W w : World) (R : Nat) (a : Option Addr) (c : Nat) (data : ByteArray) (tree : List Vl) (p : Int) (i x y : Nat) (dp : Int)
    (h : RdI W w R a s.length c data tree 0 p) (hs : Sch W a s) (hi : i < s.length) (hk1 : 1 ≤ (nd s i).kind) (hk9 : (nd s i).kind ≤ 9) (htg : (nd s i).tag < 0)
    (hxy : x ≤ y) (hy : y ≤ data.size) (hm : data.size ≤ 140737488355328) (ht : tree.length ≤ 1099511627776) :
    Calls Tryz.prog 69 #[.pointer (some ⟨R, 0, none⟩), .int .i64 i, .int .i64 x, .int .i64 y, .int .i64 dp] w
      fun e w' => RetN W R a s.length c data (nd s i) x y dp tree e w' := by
  have HI : Hid (RdI W w R a s.length c data tree 0 p) := h
  have HHD : Hid (∀ (w1 : World) (p : Int) (x y : Nat), RdI W w1 R a s.length c data tree 0 p → x ≤ y → y ≤ data.size → Calls Tryz.prog 101 #[.pointer (some ⟨R, 0, none⟩), .int .i64 x, .int .i64 y] w1 fun e w' => e = .returned (hv (hd (data.extract x y)).2) ∧ RdI W w' R a s.length c data tree (hd (data.extract x y)).1 (if (hd (data.extract x y)).1 = 0 then p else x) ∧ Fr R w1 w') :=
    fun w1 p x y h1 h2 h3 => rdhead_any W w1 R a s.length c data tree p x y h1 h2 h3 hm
  obtain ⟨hb, hlo, vt, hr, _⟩ := h
  unfold rdObj at hr
  have c0 : w.cell? ⟨R, 0, none⟩ = some (.slice a s.length c) := by simp [World.cell?, hr]
  have hRl : R < w.heap.size := lt_of_cell c0
  clear hr
  obtain ⟨b, o, ka, kc, rfl, nc, kl, km, ks⟩ := hs i hi
  obtain ⟨n1, n2, n3, n4⟩ := nc.below hb
  have hi' : (i : Int) < s.length := by omega
  clear hs nc ks hb
  generalize hN : nd s i = N at *
  clear hN
  have HX : Hid (∀ to u, NodeAt N data x y dp to u → (hd (data.extract x y)).1 = 0) := fun to u q => q.2.1
  go_enter Tryz.func69, Tryz.ntmps69
  go_wp2_with fail
  refine (HHD.out _ p x y (HI.out.below ((Below.refl _ _).alloc (Nat.le_refl _) _)) hxy hy).mono ?_
  rintro e w1 ⟨rfl, hI1, hf1⟩
  have HG1 : Hid (w1.heap[w.heap.size]? = some (.cells #[.int .i64 N.kind, .int .i64 N.tag, .int .i64 N.mode, .slice ka N.kids.length kc] 58 (0, 0))) := hf1 _ _ _ (by omega) (by decide) (heap_alloc_new w _)
  obtain ⟨hc, hb, hn, hz, hl, hH⟩ : ∃ hc hb hn hz hl, (hd (data.extract x y)).2 = ⟨hc, hb, hn, hz, hl⟩ := ⟨_, _, _, _, _, rfl⟩
  have HH : Hid ((hd (data.extract x y)).2 = ⟨hc, hb, hn, hz, hl⟩) := hH
  rw [hH]
  unfold hv
  obtain ⟨k1, hk⟩ : ∃ k, (hd (data.extract x y)).1 = k := ⟨_, rfl⟩
  have HK : Hid ((hd (data.extract x y)).1 = k1) := hk
  rw [hk] at hI1
  have HI1 : Hid (RdI W w1 R (some ⟨b, o, none⟩) s.length c data tree k1 (if k1 = 0 then p else x)) := hI1
  obtain ⟨_, _, vt1, hr1, _⟩ := hI1
  unfold rdObj at hr1
  have r3 : w1.cell? ⟨R, 3, none⟩ = some (.int .i64 k1) := by simp [World.cell?, hr1]
  have hs1 : w.heap.size < w1.heap.size := by
    rcases Nat.lt_or_ge w.heap.size w1.heap.size with h' | h'
    · exact h'
    · have := HG1.out; rw [Array.getElem?_eq_none h'] at this; cases this
  have hRs : R < w1.heap.size := by omega
  have m0 : w1.cell? ⟨w.heap.size, 0, none⟩ = some (.int .i64 N.kind) := by simp [World.cell?, HG1.out]
  have m1 : w1.cell? ⟨w.heap.size, 1, none⟩ = some (.int .i64 N.tag) := by simp [World.cell?, HG1.out]
  have m2 : w1.cell? ⟨w.heap.size, 2, none⟩ = some (.int .i64 N.mode) := by simp [World.cell?, HG1.out]
  have m3 : w1.cell? ⟨w.heap.size, 3, none⟩ = some (.slice ka N.kids.length kc) := by simp [World.cell?, HG1.out]
  clear hf1 hH hk hr1 n1 n2 n3 n4 c0
  by_cases hk0 : k1 = 0
  · subst hk0
    have hok := hd_ok HK.out
    rw [HH.out] at hok
    simp only at hok
    rw [show (data.extract x y).size = y - x by simp; omega] at hok
    obtain ⟨z, rfl⟩ : ∃ z : Nat, hz = z := ⟨hz.toNat, by omega⟩
    obtain ⟨l, rfl⟩ : ∃ l : Nat, hl = l := ⟨hl.toNat, by omega⟩
    have hzl : x + z + l ≤ y := by omega
    have hto1 : (x : Int) + z ≤ 9223372036854775807 := by omega
    have hto2 : (x : Int) + z + l ≤ 9223372036854775807 := by omega
    have BA : Hid (∀ (w3 : World) (cl nu : Int), RdI W w3 R (some ⟨b, o, none⟩) s.length c data tree 0 p → Calls Tryz.prog 102 #[.pointer (some ⟨R, 0, none⟩), .agg #[.int .i64 N.kind, .int .i64 N.tag, .int .i64 N.mode, .slice ka N.kids.length kc], .int .i64 cl, .int .i64 nu, .agg #[.int .i64 hc, .bool hb, .int .i64 hn, .int .i64 z, .int .i64 l], .int .i64 x, .int .i64 ((x : Int) + z + l), .int .i64 dp] w3
      fun e w' => RetR W w3 R (some ⟨b, o, none⟩) s.length c data (.tuple #[]) (BareL N.kind cl nu ⟨hc, hb, hn, z, l⟩ data x z (x + z + l) dp tree p) e w') := fun w3 cl nu h3 => by
      have := bare_leaf W w3 R (some ⟨b, o, none⟩) s.length c data tree p N ka kc cl nu hc hb hn z l x (x + z + l) dp h3 hk1 hk9 (by omega) (by omega) hm ht
      rw [show ((x + z + l : Nat) : Int) = (x : Int) + z + l by omega] at this
      exact this
    have HI2 : Hid (∀ o1, RdI W (w1.alloc o1) R (some ⟨b, o, none⟩) s.length c data tree 0 p) := fun o1 => HI1.out.below ((Below.refl _ _).alloc (Nat.le_refl _) _)
    clear hok
    have RUN0 : Hid (∀ args w, (callFunc 103 args).run Tryz.prog w = .ok (.enter 103 args) w) := fun args w => run_enter Tryz.func103 (by kernel_rfl) (by rfl) args w
    have RUNB : Hid (∀ args w, (callFunc 102 args).run Tryz.prog w = .ok (.enter 102 args) w) := fun args w => run_enter Tryz.func102 (by kernel_rfl) (by rfl) args w
    have HO : Hid (∀ w, Calls Tryz.prog 103 #[.int .i64 N.kind] w fun e w' => e = .returned (.int .i64 (own N.kind)) ∧ Below w.heap.size w w') := fun w => own0_any N.kind (by omega) (by omega) w
    have HT : Hid (N.tag < 0) := htg
    go_wp2_with fail
    go_region_law (first | (refine step_calls rfl 103 _ _ rfl #[.int .i64 N.kind] (by simp [Act.eval, Act.put]) (.int .i64 (own N.kind)) (fun w' => Below ((w1.alloc (.cells #[.int .i64 hc, .bool hb, .int .i64 hn, .int .i64 z, .int .i64 l] 179)).drew).heap.size ((w1.alloc (.cells #[.int .i64 hc, .bool hb, .int .i64 hn, .int .i64 z, .int .i64 l] 179)).drew) w') (RUN0.out _ _) (HO.out _) ?_; intro w3 hb3; have hI3 := ((HI2.out _).below (below_drewN (Below.refl _ _) 1)).below hb3; obtain ⟨hc3, hf3⟩ := bcell hb3) | (refine step_calls rfl 102 _ _ rfl #[.pointer (some ⟨R, 0, none⟩), .agg #[.int .i64 N.kind, .int .i64 N.tag, .int .i64 N.mode, .slice ka N.kids.length kc], .int .i64 0, .int .i64 (own N.kind), .agg #[.int .i64 hc, .bool hb, .int .i64 hn, .int .i64 z, .int .i64 l], .int .i64 x, .int .i64 ((x : Int) + z + l), .int .i64 dp] (by simp [Act.eval, Act.put]) (.tuple #[]) (fun w' => ∃ tree' e' p', RdI W w' R (some ⟨b, o, none⟩) s.length c data tree' e' p' ∧ BareL N.kind 0 (own N.kind) ⟨hc, hb, hn, z, l⟩ data x z (x + z + l) dp tree p tree' e' p' ∧ Fr R w3 w') (RUNB.out _ _) (BA.out _ 0 (own N.kind) hI3) ?_; rintro w4 ⟨tree', e', p', hI4, hB4, hf4⟩))
    all_goals
      have HB4 : Hid (BareL N.kind 0 (own N.kind) ⟨hc, hb, hn, z, l⟩ data x z (x + z + l) dp tree p tree' e' p') := hB4
      have HI4 : Hid (RdI W w4 R (some ⟨b, o, none⟩) s.length c data tree' e' p') := hI4
      clear hB4 hI4 hf4 hc3 hf3 hI3 hb3
      go_wp2
      go_ret
      exact ⟨_, tree', e', p', rfl, HI4.out, nodeA 0 (own N.kind) HK.out HH.out (.inl ⟨HT.out, rfl, rfl⟩) HB4.out⟩
  · have HK0 : Hid (k1 ≠ 0) := hk0
    have e0 : (k1 != 0) = true := by simp [hk0]
    have HI1' : Hid (RdI W w1 R (some ⟨b, o, none⟩) s.length c data tree k1 x) := by have := HI1.out; rw [if_neg hk0] at this; exact this
    have HI3 : Hid (∀ o1, RdI W (w1.alloc o1) R (some ⟨b, o, none⟩) s.length c data tree k1 x) := fun o1 => HI1'.out.below ((Below.refl _ _).alloc (Nat.le_refl _) _)
    clear hk0
    go_wp2
    go_ret
    exact ⟨y, tree, k1, x, rfl, HI3.out _, .inr ⟨HK0.out, fun to u q => HK0.out (HK.out.symm.trans (HX.out to u q))⟩⟩
end Go.Proofs.YtkkicodfpekbgaaGreatDoor

/-! The document's reader: node, of the kinds 1 to 9 (a Tag of Mode 0). -/
namespace Go.Proofs.YtkkicodfpekbgaaGreatDoor
set_option linter.unusedSimpArgs false
set_option linter.unusedVariables false
open Go.RowKit

set_option maxHeartbeats 8000000 in
set_option maxRecDepth 100000 in
theorem node_leafB (s : List Nd) (W w : World) (R : Nat) (a : Option Addr) (c : Nat) (data : ByteArray) (tree : List Vl) (p : Int) (i x y : Nat) (dp : Int)
    (h : RdI W w R a s.length c data tree 0 p) (hs : Sch W a s) (hi : i < s.length) (hk1 : 1 ≤ (nd s i).kind) (hk9 : (nd s i).kind ≤ 9) (htg' : 0 ≤ (nd s i).tag) (hm0 : (nd s i).mode = 0)
    (hxy : x ≤ y) (hy : y ≤ data.size) (hm : data.size ≤ 140737488355328) (ht : tree.length ≤ 1099511627776) :
    Calls Tryz.prog 69 #[.pointer (some ⟨R, 0, none⟩), .int .i64 i, .int .i64 x, .int .i64 y, .int .i64 dp] w
      fun e w' => RetN W R a s.length c data (nd s i) x y dp tree e w' := by
  have HI : Hid (RdI W w R a s.length c data tree 0 p) := h
  have HHD : Hid (∀ (w1 : World) (p : Int) (x y : Nat), RdI W w1 R a s.length c data tree 0 p → x ≤ y → y ≤ data.size → Calls Tryz.prog 101 #[.pointer (some ⟨R, 0, none⟩), .int .i64 x, .int .i64 y] w1 fun e w' => e = .returned (hv (hd (data.extract x y)).2) ∧ RdI W w' R a s.length c data tree (hd (data.extract x y)).1 (if (hd (data.extract x y)).1 = 0 then p else x) ∧ Fr R w1 w') :=
    fun w1 p x y h1 h2 h3 => rdhead_any W w1 R a s.length c data tree p x y h1 h2 h3 hm
  obtain ⟨hb, hlo, vt, hr, _⟩ := h
  unfold rdObj at hr
  have c0 : w.cell? ⟨R, 0, none⟩ = some (.slice a s.length c) := by simp [World.cell?, hr]
  have hRl : R < w.heap.size := lt_of_cell c0
  clear hr
  obtain ⟨b, o, ka, kc, rfl, nc, kl, km, ks⟩ := hs i hi
  obtain ⟨n1, n2, n3, n4⟩ := nc.below hb
  have hi' : (i : Int) < s.length := by omega
  clear hs nc ks hb
  generalize hN : nd s i = N at *
  clear hN
  have HM0 : Hid (N.mode = 0) := hm0
  have e0 : (N.mode == 0) = true := by simp [hm0]
  clear hm0
  have HX : Hid (∀ to u, NodeAt N data x y dp to u → (hd (data.extract x y)).1 = 0) := fun to u q => q.2.1
  go_enter Tryz.func69, Tryz.ntmps69
  go_wp2_with fail
  refine (HHD.out _ p x y (HI.out.below ((Below.refl _ _).alloc (Nat.le_refl _) _)) hxy hy).mono ?_
  rintro e w1 ⟨rfl, hI1, hf1⟩
  have HG1 : Hid (w1.heap[w.heap.size]? = some (.cells #[.int .i64 N.kind, .int .i64 N.tag, .int .i64 N.mode, .slice ka N.kids.length kc] 58 (0, 0))) := hf1 _ _ _ (by omega) (by decide) (heap_alloc_new w _)
  obtain ⟨hc, hb, hn, hz, hl, hH⟩ : ∃ hc hb hn hz hl, (hd (data.extract x y)).2 = ⟨hc, hb, hn, hz, hl⟩ := ⟨_, _, _, _, _, rfl⟩
  have HH : Hid ((hd (data.extract x y)).2 = ⟨hc, hb, hn, hz, hl⟩) := hH
  rw [hH]
  unfold hv
  obtain ⟨k1, hk⟩ : ∃ k, (hd (data.extract x y)).1 = k := ⟨_, rfl⟩
  have HK : Hid ((hd (data.extract x y)).1 = k1) := hk
  rw [hk] at hI1
  have HI1 : Hid (RdI W w1 R (some ⟨b, o, none⟩) s.length c data tree k1 (if k1 = 0 then p else x)) := hI1
  obtain ⟨_, _, vt1, hr1, _⟩ := hI1
  unfold rdObj at hr1
  have r3 : w1.cell? ⟨R, 3, none⟩ = some (.int .i64 k1) := by simp [World.cell?, hr1]
  have hs1 : w.heap.size < w1.heap.size := by
    rcases Nat.lt_or_ge w.heap.size w1.heap.size with h' | h'
    · exact h'
    · have := HG1.out; rw [Array.getElem?_eq_none h'] at this; cases this
  have hRs : R < w1.heap.size := by omega
  have m0 : w1.cell? ⟨w.heap.size, 0, none⟩ = some (.int .i64 N.kind) := by simp [World.cell?, HG1.out]
  have m1 : w1.cell? ⟨w.heap.size, 1, none⟩ = some (.int .i64 N.tag) := by simp [World.cell?, HG1.out]
  have m2 : w1.cell? ⟨w.heap.size, 2, none⟩ = some (.int .i64 N.mode) := by simp [World.cell?, HG1.out]
  have m3 : w1.cell? ⟨w.heap.size, 3, none⟩ = some (.slice ka N.kids.length kc) := by simp [World.cell?, HG1.out]
  clear hf1 hH hk hr1 n1 n2 n3 n4 c0
  by_cases hk0 : k1 = 0
  · subst hk0
    have hok := hd_ok HK.out
    rw [HH.out] at hok
    simp only at hok
    rw [show (data.extract x y).size = y - x by simp; omega] at hok
    obtain ⟨z, rfl⟩ : ∃ z : Nat, hz = z := ⟨hz.toNat, by omega⟩
    obtain ⟨l, rfl⟩ : ∃ l : Nat, hl = l := ⟨hl.toNat, by omega⟩
    have hzl : x + z + l ≤ y := by omega
    have hto1 : (x : Int) + z ≤ 9223372036854775807 := by omega
    have hto2 : (x : Int) + z + l ≤ 9223372036854775807 := by omega
    have BA : Hid (∀ (w3 : World) (cl nu : Int), RdI W w3 R (some ⟨b, o, none⟩) s.length c data tree 0 p → Calls Tryz.prog 102 #[.pointer (some ⟨R, 0, none⟩), .agg #[.int .i64 N.kind, .int .i64 N.tag, .int .i64 N.mode, .slice ka N.kids.length kc], .int .i64 cl, .int .i64 nu, .agg #[.int .i64 hc, .bool hb, .int .i64 hn, .int .i64 z, .int .i64 l], .int .i64 x, .int .i64 ((x : Int) + z + l), .int .i64 dp] w3
      fun e w' => RetR W w3 R (some ⟨b, o, none⟩) s.length c data (.tuple #[]) (BareL N.kind cl nu ⟨hc, hb, hn, z, l⟩ data x z (x + z + l) dp tree p) e w') := fun w3 cl nu h3 => by
      have := bare_leaf W w3 R (some ⟨b, o, none⟩) s.length c data tree p N ka kc cl nu hc hb hn z l x (x + z + l) dp h3 hk1 hk9 (by omega) (by omega) hm ht
      rw [show ((x + z + l : Nat) : Int) = (x : Int) + z + l by omega] at this
      exact this
    have HI2 : Hid (∀ o1, RdI W (w1.alloc o1) R (some ⟨b, o, none⟩) s.length c data tree 0 p) := fun o1 => HI1.out.below ((Below.refl _ _).alloc (Nat.le_refl _) _)
    clear hok
    have RUN0 : Hid (∀ args w, (callFunc 103 args).run Tryz.prog w = .ok (.enter 103 args) w) := fun args w => run_enter Tryz.func103 (by kernel_rfl) (by rfl) args w
    have RUNB : Hid (∀ args w, (callFunc 102 args).run Tryz.prog w = .ok (.enter 102 args) w) := fun args w => run_enter Tryz.func102 (by kernel_rfl) (by rfl) args w
    have HT : Hid (0 ≤ N.tag) := htg'
    go_wp2_with fail
    refine (BA.out _ 2 N.tag (HI2.out _)).mono ?_
    rintro e w4 ⟨rfl, tree', e', p', hI4, hB4, hf4⟩
    have HB4 : Hid (BareL N.kind 2 N.tag ⟨hc, hb, hn, z, l⟩ data x z (x + z + l) dp tree p tree' e' p') := hB4
    have HI4 : Hid (RdI W w4 R (some ⟨b, o, none⟩) s.length c data tree' e' p') := hI4
    clear hB4 hI4 hf4
    go_wp2
    go_ret
    exact ⟨_, tree', e', p', rfl, HI4.out, nodeA 2 N.tag HK.out HH.out (.inr ⟨HT.out, HM0.out, rfl, rfl⟩) HB4.out⟩
  · have HK0 : Hid (k1 ≠ 0) := hk0
    have e0 : (k1 != 0) = true := by simp [hk0]
    have HI1' : Hid (RdI W w1 R (some ⟨b, o, none⟩) s.length c data tree k1 x) := by have := HI1.out; rw [if_neg hk0] at this; exact this
    have HI3 : Hid (∀ o1, RdI W (w1.alloc o1) R (some ⟨b, o, none⟩) s.length c data tree k1 x) := fun o1 => HI1'.out.below ((Below.refl _ _).alloc (Nat.le_refl _) _)
    clear hk0
    go_wp2
    go_ret
    exact ⟨y, tree, k1, x, rfl, HI3.out _, .inr ⟨HK0.out, fun to u q => HK0.out (HK.out.symm.trans (HX.out to u q))⟩⟩
end Go.Proofs.YtkkicodfpekbgaaGreatDoor

/-! The document's answer: Length, Told, Tell, Head: what they answer. -/
namespace Go.Proofs.YtkkicodfpekbgaaGreatDoor
set_option linter.unusedSimpArgs false
set_option linter.unusedVariables false
open Go.RowKit

set_option maxHeartbeats 1000000 in
set_option maxRecDepth 100000 in
theorem Told_f (c n l : Int) (w : World) (q1 : 0 ≤ c) (q2 : c ≤ 3) (q3 : 0 ≤ n) (q4 : n ≤ 30) (q5 : 0 ≤ l) (q6 : l ≤ 16777215) :
    Calls Tryz.prog 130 #[.int .i64 c, .bool false, .int .i64 n, .int .i64 l] w fun e w' => e = .returned (.string ⟨(UInt8.ofNat (c * 64 + n).toNat :: tl l).toArray⟩) ∧ Below w.heap.size w w' := by
  have hc := conv_cell (64 * c + n) (by omega) (by omega)
  have h8 : IntKind.u8.wrap (64 * c + n) = 64 * c + n := by rw [IntKind.wrap_u8]; omega
  have hfin : Hid ((⟨#[UInt8.ofNat (64 * c + n).toNat]⟩ : ByteArray) ++ ⟨(tl l).toArray⟩ = ⟨(UInt8.ofNat (c * 64 + n).toNat :: tl l).toArray⟩) := by
    show _ = _
    rw [show 64 * c + n = c * 64 + n by omega]
    apply ByteArray.ext
    simp
  have hts : (⟨(tl l).toArray⟩ : ByteArray).size ≤ 4 := by
    have h1 := tl_length l
    have h2 := cnt_cases l
    show (tl l).toArray.size ≤ 4
    rw [List.size_toArray]
    omega
  have HL : Hid (∀ w, Calls Tryz.prog 147 #[.int .i64 l] w fun e w' => e = .returned (.string ⟨(tl l).toArray⟩) ∧ Below w.heap.size w w') := fun w => Length_any l w q5 (by omega)
  generalize (⟨(tl l).toArray⟩ : ByteArray) = t at hfin hts HL
  go_enter Tryz.func130, Tryz.ntmps130
  go_wp2_with fail
  go_region_with (go_at_call 147; refine (HL.out _).mono ?_; rintro e w2 ⟨rfl, hb2⟩; obtain ⟨hc2, hf2⟩ := bcell hb2)
  all_goals (try go_wp2)
  all_goals go_ret
  all_goals refine ⟨ret_str hfin.out, ?_⟩
  all_goals first
    | exact ((Below.refl w.heap.size w).alloc (Nat.le_refl _) _).drew.trans (hb2.mono (by simp))
    | exact ((Below.refl w.heap.size w).drew.trans (hb2.mono (Nat.le_refl _))).alloc hb2.size _

set_option maxHeartbeats 1000000 in
set_option maxRecDepth 100000 in
theorem Told_t (c n l : Int) (w : World) (q1 : 0 ≤ c) (q2 : c ≤ 3) (q3 : 0 ≤ n) (q4 : n ≤ 30) (q5 : 0 ≤ l) (q6 : l ≤ 16777215) :
    Calls Tryz.prog 130 #[.int .i64 c, .bool true, .int .i64 n, .int .i64 l] w fun e w' => e = .returned (.string ⟨(UInt8.ofNat (c * 64 + n + 32).toNat :: tl l).toArray⟩) ∧ Below w.heap.size w w' := by
  have hc := conv_cell (64 * c + n + 32) (by omega) (by omega)
  have h8 : IntKind.u8.wrap (64 * c + n + 32) = 64 * c + n + 32 := by rw [IntKind.wrap_u8]; omega
  have hfin : Hid ((⟨#[UInt8.ofNat (64 * c + n + 32).toNat]⟩ : ByteArray) ++ ⟨(tl l).toArray⟩ = ⟨(UInt8.ofNat (c * 64 + n + 32).toNat :: tl l).toArray⟩) := by
    show _ = _
    rw [show 64 * c + n + 32 = c * 64 + n + 32 by omega]
    apply ByteArray.ext
    simp
  have hts : (⟨(tl l).toArray⟩ : ByteArray).size ≤ 4 := by
    have h1 := tl_length l
    have h2 := cnt_cases l
    show (tl l).toArray.size ≤ 4
    rw [List.size_toArray]
    omega
  have HL : Hid (∀ w, Calls Tryz.prog 147 #[.int .i64 l] w fun e w' => e = .returned (.string ⟨(tl l).toArray⟩) ∧ Below w.heap.size w w') := fun w => Length_any l w q5 (by omega)
  generalize (⟨(tl l).toArray⟩ : ByteArray) = t at hfin hts HL
  go_enter Tryz.func130, Tryz.ntmps130
  go_wp2_with fail
  go_region_with (go_at_call 147; refine (HL.out _).mono ?_; rintro e w2 ⟨rfl, hb2⟩; obtain ⟨hc2, hf2⟩ := bcell hb2)
  all_goals (try go_wp2)
  all_goals go_ret
  all_goals refine ⟨ret_str hfin.out, ?_⟩
  all_goals first
    | exact ((Below.refl w.heap.size w).alloc (Nat.le_refl _) _).drew.trans (hb2.mono (by simp))
    | exact ((Below.refl w.heap.size w).drew.trans (hb2.mono (Nat.le_refl _))).alloc hb2.size _

theorem Told_any (h : Hd) (w : World) (q1 : 0 ≤ h.c) (q2 : h.c ≤ 3) (q3 : 0 ≤ h.n) (q4 : h.n ≤ 30) (q5 : 0 ≤ h.l) (q6 : h.l ≤ 16777215) :
    Calls Tryz.prog 130 #[.int .i64 h.c, .bool h.b, .int .i64 h.n, .int .i64 h.l] w fun e w' => e = .returned (.string ⟨(UInt8.ofNat (fb h).toNat :: tl h.l).toArray⟩) ∧ Below w.heap.size w w' := by
  obtain ⟨c, b, n, s, l⟩ := h
  cases b
  · exact Told_f c n l w q1 q2 q3 q4 q5 q6
  · exact Told_t c n l w q1 q2 q3 q4 q5 q6
end Go.Proofs.YtkkicodfpekbgaaGreatDoor
