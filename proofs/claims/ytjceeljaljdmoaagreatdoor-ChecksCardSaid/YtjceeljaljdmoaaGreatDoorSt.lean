/-
  hallmarkref.told: what it answers.
-/
import Derived.Test.YtjceeljaljdmoaaGreatDoorSc
import Derived.Deep.RegionWith
namespace Go.Proofs.YtjceeljaljdmoaaGreatDoor
open Go.RowKit

/-- What is behind it is never taken for what is ahead. -/
def Nd.stops (n : Nd) (k : Kd) : Prop := n.kind = 10 ∧ k.must
/-- The kid at a place. -/
def kd (n : Nd) (i : Nat) : Kd := n.kids.getD i kd0
/-- Kid by kid, up to a place: can they be told apart? (C: two nodes have a beginning in common.) -/
def ToldAt (C : Nat → Nat → Prop) (n : Nd) (i m : Nat) : Prop := n.stops (kd n i) ∨ ∀ k, i < k → k < m → (∀ j, i < j → j < k → ¬ n.stops (kd n j)) → ¬ C (kd n i).node.toNat (kd n k).node.toNat
def Told (C : Nat → Nat → Prop) (n : Nd) : Prop := ∀ i, i < n.kids.length → ToldAt C n i n.kids.length

set_option maxHeartbeats 6000000 in
set_option maxRecDepth 100000 in
theorem told_any (s : List Nd) (a : Option Addr) (cp x : Nat) (ka : Option Addr) (kc : Nat) (w : World) (hs : Sch w a s) (hw : Within s) (hkd : Kinds s) (hx : x < s.length) (hn : s.length ≤ 40)
    (hka : KidsIn w ka (nd s x).kids) (hkl : (nd s x).kids.length ≤ 8) :
    Calls Tryz.prog 27 #[.slice a s.length cp, nodeV (nd s x) ka kc] w fun e w' => RetO (Told (Common s) (nd s x)) w e w' := by
  have HC : Hid (∀ (wr : World) (i k : Nat), Below w.heap.size w wr → i < s.length → k < s.length → Calls Tryz.prog 47 #[.slice a s.length cp, .int .i64 i, .int .i64 k] wr fun e w' => RetO (Common s i k) wr e w') :=
    fun wr i k hb hi hk => common_any s a cp i k wr (hs.below hb) hw hkd hi hk hn
  have HM : Hid (∀ (wr : World) (k : Kd), Calls Tryz.prog 45 #[.agg #[.int .i64 k.node, .bool k.opt, .string k.dflt]] wr fun e w' => RetO k.must wr e w') := fun wr k => must_any k wr
  have HKI : Hid (KidsIn w ka (nd s x).kids) := hka
  have HKR : Hid (∀ j, j < (nd s x).kids.length → ∃ t : Nat, (kd (nd s x) j).node = t ∧ t < s.length) := fun j hj => by
    have := hw x hx (kd (nd s x) j) (by unfold kd; rw [List.getD_eq_getElem?_getD, List.getElem?_eq_getElem hj]; exact List.getElem_mem hj)
    exact ⟨(kd (nd s x) j).node.toNat, (Int.toNat_of_nonneg this.1).symm, by omega⟩
  clear hs hw hkd hka
  unfold nodeV
  generalize nd s x = n at *
  go_enter Tryz.func27, Tryz.ntmps27
  go_wp2
  obtain ⟨B, hB⟩ : ∃ B, B = w.heap.size := ⟨_, rfl⟩
  have HW0 : Hid (∀ wr, Below (w.alloc (.cells #[.int .i64 n.kind, .int .i64 n.tag, .int .i64 n.mode, .slice ka n.kids.length kc] 58)).heap.size (w.alloc (.cells #[.int .i64 n.kind, .int .i64 n.tag, .int .i64 n.mode, .slice ka n.kids.length kc] 58)) wr →
      wr.cell? ⟨B, 0, none⟩ = some (.int .i64 n.kind) ∧ wr.cell? ⟨B, 3, none⟩ = some (.slice ka n.kids.length kc) ∧ Below w.heap.size w wr) := fun wr h => by
    have h1 := block_below (heap_alloc_new w _) h
    subst hB
    exact ⟨by simp [World.cell?, h1], by simp [World.cell?, h1], below_alloc h⟩
  generalize (w.alloc (.cells #[.int .i64 n.kind, .int .i64 n.tag, .int .i64 n.mode, .slice ka n.kids.length kc] 58)) = W0 at *
  rw [← hB]
  clear hB
  go_loopw [5] (fun vi wr => ∃ i : Nat, i ≤ n.kids.length ∧ vi = .int .i64 i ∧ (∀ i', i' < i → ToldAt (Common s) n i' n.kids.length) ∧ Below W0.heap.size W0 wr) (fun vi _ => n.kids.length - (intOf vi).toNat)
  case atStart => exact ⟨0, Nat.zero_le _, rfl, fun _ h => absurd h (Nat.not_lt_zero _), Below.refl _ _⟩
  case round =>
    obtain ⟨i, hi, rfl, hall, hbr⟩ := hrel
    have HA : Hid (∀ i', i' < i → ToldAt (Common s) n i' n.kids.length) := hall
    have HB : Hid (Below W0.heap.size W0 wr) := hbr
    obtain ⟨c0, c3, hbw⟩ := HW0.out wr hbr
    have HBW : Hid (Below w.heap.size w wr) := hbw
    clear hall hbr hbw
    by_cases hlt : i < n.kids.length
    · have hlt' : (i : Int) < n.kids.length := by omega
      obtain ⟨kb, ko, rfl, kcl⟩ := HKI.out i hlt
      obtain ⟨k1, k2, k3⟩ := kcl.below HBW.out
      obtain ⟨ti, hti, htl⟩ := HKR.out i hlt
      have HTI : Hid ((kd n i).node = ti) := hti
      have HCL : Hid (KidCells w kb (ko + i * 3) (kd n i)) := kcl
      clear hti kcl
      obtain ⟨y, hy⟩ : ∃ y, n.kids.getD i kd0 = y := ⟨_, rfl⟩
      rw [hy] at k1 k2 k3
      have HY : Hid (kd n i = y) := hy
      clear hy
      go_wp2_with fail
      refine (HM.out _ y).mono ?_
      rintro e w1 ⟨r, rfl, hr, hb1⟩
      have HR : Hid (r = true ↔ (kd n i).must) := by show r = true ↔ (kd n i).must; rw [HY.out]; exact hr
      have HB1 : Hid (Below W0.heap.size W0 w1) := HB.out.trans (hb1.mono HB.out.size)
      obtain ⟨d0, d3, hbw1⟩ := HW0.out w1 HB1.out
      clear hr hb1 c0 c3 k1 k2 k3 hbw1
      have hcs : (n.stops (kd n i) ∧ (n.kind == 10) = true ∧ r = true) ∨ (¬ n.stops (kd n i) ∧ (n.kind == 10) = true ∧ r = false) ∨ (¬ n.stops (kd n i) ∧ (n.kind == 10) = false) := by
        by_cases e : n.kind = 10
        · cases r
          · exact .inr (.inl ⟨fun h => Bool.noConfusion (HR.out.2 h.2), by simp [e], rfl⟩)
          · exact .inl ⟨⟨e, HR.out.1 rfl⟩, by simp [e], rfl⟩
        · exact .inr (.inr ⟨fun h => e h.1, by simp [e]⟩)
      rcases hcs with ⟨hst, hk10, rfl⟩ | ⟨hst, hk10, rfl⟩ | ⟨hst, hk10⟩
      · have HST : Hid (n.stops (kd n i)) := hst
        clear hst
        go_wp2
        go_roundw
        case rel => exact ⟨i + 1, by omega, by go_num, fun i' h => by
          by_cases e : i' = i
          · subst e; exact .inl HST.out
          · exact HA.out i' (by omega), HB1.out⟩
        case measure => simp [intOf]; omega
      · have HST : Hid (¬ n.stops (kd n i)) := hst
        have HK10 : Hid (n.kind = 10) := by show n.kind = 10; simpa using hk10
        clear hst
        go_wp2
        go_loopw [7, 8] (fun vo vk wx => ∃ (k : Nat) (ov : Bool), i < k ∧ k ≤ n.kids.length ∧ vk = .int .i64 k ∧ vo = .bool ov ∧ Hid (ov = true ↔ ∃ j, i < j ∧ j < k ∧ n.stops (kd n j)) ∧ Hid (∀ k', i < k' → k' < k → (∀ j, i < j → j < k' → ¬ n.stops (kd n j)) → ¬ Common s (kd n i).node.toNat (kd n k').node.toNat) ∧ Hid (Below W0.heap.size W0 wx))
          (fun _ vk _ => n.kids.length - (intOf vk).toNat)
        case atStart => exact ⟨i + 1, false, by omega, by omega, by go_num, rfl, ⟨fun h => Bool.noConfusion h, fun ⟨j, h1, h2, _⟩ => absurd h1 (by omega)⟩, fun k' h1 h2 => absurd h1 (by omega), HB1⟩
        case round =>
          obtain ⟨k, ov, hik, hk, rfl, rfl, HOV, HT, HBX⟩ := hrel
          obtain ⟨c0, c3, hbw2⟩ := HW0.out wr HBX.out
          have HBX2 : Hid (Below w.heap.size w wr) := hbw2
          clear hbw2 d0 d3
          by_cases hkl2 : k < n.kids.length
          · have hkl' : (k : Int) < n.kids.length := by omega
            cases ov
            · obtain ⟨kb2, ko2, e2, kcl2⟩ := HKI.out k hkl2
              obtain ⟨rfl, rfl⟩ : kb = kb2 ∧ ko = ko2 := by injection e2 with e2; injection e2 with e3 e4 _; exact ⟨e3, e4⟩
              obtain ⟨tk, htk, htkl⟩ := HKR.out k hkl2
              have k1 := (HCL.out.below HBX2.out).node
              rw [HTI.out] at k1
              obtain ⟨z, hz⟩ : ∃ z, kd n k = z := ⟨_, rfl⟩
              have HZ : Hid (kd n k = z) := hz
              have HCZ : Hid (KidCells w kb (ko + k * 3) z) := by show KidCells w kb (ko + k * 3) z; rw [← hz]; exact kcl2
              rw [hz] at htk
              have z1 := (HCZ.out.below HBX2.out).node
              rw [htk] at z1
              have HTK : Hid (z.node = tk) := htk
              clear e2 kcl2 hz htk
              go_wp2_with fail
              go_region_with (go_at_call 47; refine Calls.mono (HC.out _ ti tk ?_ htl htkl) ?_; (exact below_drewN HBX2.out 1); rintro e w2 ⟨r2, rfl, hr2, hb2⟩)
              all_goals
                have HR2 : Hid (r2 = true ↔ Common s ti tk) := hr2
                have HB3 : Hid (Below W0.heap.size W0 w2) := (below_drewN HBX.out 1).trans (hb2.mono (below_drewN HBX.out 1).size)
                obtain ⟨e0, e3, hbw3⟩ := HW0.out w2 HB3.out
                have HBX3 : Hid (Below w.heap.size w w2) := hbw3
                obtain ⟨z1', z2', z3'⟩ := HCZ.out.below hbw3
                have HIN : Hid (∀ j, i < j → j < k → ¬ n.stops (kd n j)) := fun j h1 h2 h3 => Bool.noConfusion (HOV.out.2 ⟨j, h1, h2, h3⟩)
                have HCE : Hid (Common s (kd n i).node.toNat (kd n k).node.toNat ↔ Common s ti tk) := by
                  show Common s (kd n i).node.toNat (kd n k).node.toNat ↔ Common s ti tk
                  rw [HZ.out, HTI.out, HTK.out]; rfl
                clear hr2 hb2 hbw3 c0 c3 k1 z1
                cases r2
                · go_wp2_with fail
                  refine (HM.out _ z).mono ?_
                  rintro e w4 ⟨r4, rfl, hr4, hb4⟩
                  have HR4 : Hid (r4 = true ↔ z.must) := hr4
                  have HB4 : Hid (Below W0.heap.size W0 w4) := HB3.out.trans (hb4.mono HB3.out.size)
                  obtain ⟨f0, f3, hbw4⟩ := HW0.out w4 HB4.out
                  have HT' : Hid (∀ k', i < k' → k' < k + 1 → (∀ j, i < j → j < k' → ¬ n.stops (kd n j)) → ¬ Common s (kd n i).node.toNat (kd n k').node.toNat) := fun k' h1 h2 h3 => by
                    by_cases ek : k' = k
                    · subst ek; exact fun h4 => Bool.noConfusion (HR2.out.2 (HCE.out.1 h4))
                    · exact HT.out k' h1 (by omega) h3
                  have HOV' : Hid (r4 = true ↔ ∃ j, i < j ∧ j < k + 1 ∧ n.stops (kd n j)) := by
                    show r4 = true ↔ ∃ j, i < j ∧ j < k + 1 ∧ n.stops (kd n j)
                    constructor
                    · intro h; exact ⟨k, hik, by omega, by rw [HZ.out]; exact ⟨HK10.out, HR4.out.1 h⟩⟩
                    · rintro ⟨j, h1, h2, h3⟩
                      by_cases ej : j = k
                      · subst ej; rw [HZ.out] at h3; exact HR4.out.2 h3.2
                      · exact absurd h3 (HIN.out j h1 (by omega))
                  clear hr4 hb4 hbw4 e0 e3 z1' z2' z3'
                  go_wp2
                  go_roundw
                  case rel => exact ⟨k + 1, r4, by omega, by omega, by go_num, rfl, HOV', HT', HB4⟩
                  case measure => simp [intOf]; omega
                · go_wp2
                  go_ret
                  exact reto_no (fun h => by
                    rcases h i hlt with h' | h'
                    · exact HST.out h'
                    · exact h' k hik hkl2 HIN.out (HCE.out.2 (HR2.out.1 trivial))) HBX3.out
            · have HDN : Hid (ToldAt (Common s) n i n.kids.length) := .inr (fun k' h1 h2 h3 => by
                obtain ⟨j, j1, j2, j3⟩ := HOV.out.1 rfl
                by_cases ej : j < k'
                · exact absurd j3 (h3 j j1 ej)
                · exact HT.out k' h1 (by omega) h3)
              go_wp2
              go_roundw
              case rel => exact ⟨i + 1, by omega, by go_num, fun i' h => by
                by_cases e : i' = i
                · subst e; exact HDN.out
                · exact HA.out i' (by omega), HBX.out⟩
              case measure => simp [intOf]; omega
          · have hkl' : (n.kids.length : Int) ≤ k := by omega
            have HDN : Hid (ToldAt (Common s) n i n.kids.length) := .inr (fun k' h1 h2 h3 => HT.out k' h1 (by omega) h3)
            go_wp2
            go_roundw
            case rel => exact ⟨i + 1, by omega, by go_num, fun i' h => by
              by_cases e : i' = i
              · subst e; exact HDN.out
              · exact HA.out i' (by omega), HBX.out⟩
            case measure => simp [intOf]; omega
      · have HST : Hid (¬ n.stops (kd n i)) := hst
        have HK10 : Hid (¬ n.kind = 10) := by show ¬ n.kind = 10; simpa using hk10
        clear hst
        go_wp2
        go_loopw [7, 8] (fun vo vk wx => ∃ (k : Nat) (ov : Bool), i < k ∧ k ≤ n.kids.length ∧ vk = .int .i64 k ∧ vo = .bool ov ∧ Hid (ov = true ↔ ∃ j, i < j ∧ j < k ∧ n.stops (kd n j)) ∧ Hid (∀ k', i < k' → k' < k → (∀ j, i < j → j < k' → ¬ n.stops (kd n j)) → ¬ Common s (kd n i).node.toNat (kd n k').node.toNat) ∧ Hid (Below W0.heap.size W0 wx))
          (fun _ vk _ => n.kids.length - (intOf vk).toNat)
        case atStart => exact ⟨i + 1, false, by omega, by omega, by go_num, rfl, ⟨fun h => Bool.noConfusion h, fun ⟨j, h1, h2, _⟩ => absurd h1 (by omega)⟩, fun k' h1 h2 => absurd h1 (by omega), HB1⟩
        case round =>
          obtain ⟨k, ov, hik, hk, rfl, rfl, HOV, HT, HBX⟩ := hrel
          obtain ⟨c0, c3, hbw2⟩ := HW0.out wr HBX.out
          have HBX2 : Hid (Below w.heap.size w wr) := hbw2
          clear hbw2 d0 d3
          by_cases hkl2 : k < n.kids.length
          · have hkl' : (k : Int) < n.kids.length := by omega
            cases ov
            · obtain ⟨kb2, ko2, e2, kcl2⟩ := HKI.out k hkl2
              obtain ⟨rfl, rfl⟩ : kb = kb2 ∧ ko = ko2 := by injection e2 with e2; injection e2 with e3 e4 _; exact ⟨e3, e4⟩
              obtain ⟨tk, htk, htkl⟩ := HKR.out k hkl2
              have k1 := (HCL.out.below HBX2.out).node
              rw [HTI.out] at k1
              obtain ⟨z, hz⟩ : ∃ z, kd n k = z := ⟨_, rfl⟩
              have HZ : Hid (kd n k = z) := hz
              have HCZ : Hid (KidCells w kb (ko + k * 3) z) := by show KidCells w kb (ko + k * 3) z; rw [← hz]; exact kcl2
              rw [hz] at htk
              have z1 := (HCZ.out.below HBX2.out).node
              rw [htk] at z1
              have HTK : Hid (z.node = tk) := htk
              clear e2 kcl2 hz htk
              go_wp2_with fail
              go_region_with (go_at_call 47; refine Calls.mono (HC.out _ ti tk ?_ htl htkl) ?_; (exact below_drewN HBX2.out 1); rintro e w2 ⟨r2, rfl, hr2, hb2⟩)
              all_goals
                have HR2 : Hid (r2 = true ↔ Common s ti tk) := hr2
                have HB3 : Hid (Below W0.heap.size W0 w2) := (below_drewN HBX.out 1).trans (hb2.mono (below_drewN HBX.out 1).size)
                obtain ⟨e0, e3, hbw3⟩ := HW0.out w2 HB3.out
                have HBX3 : Hid (Below w.heap.size w w2) := hbw3
                obtain ⟨z1', z2', z3'⟩ := HCZ.out.below hbw3
                have HIN : Hid (∀ j, i < j → j < k → ¬ n.stops (kd n j)) := fun j h1 h2 h3 => Bool.noConfusion (HOV.out.2 ⟨j, h1, h2, h3⟩)
                have HCE : Hid (Common s (kd n i).node.toNat (kd n k).node.toNat ↔ Common s ti tk) := by
                  show Common s (kd n i).node.toNat (kd n k).node.toNat ↔ Common s ti tk
                  rw [HZ.out, HTI.out, HTK.out]; rfl
                clear hr2 hb2 hbw3 c0 c3 k1 z1
                cases r2
                · go_wp2_with fail
                  refine (HM.out _ z).mono ?_
                  rintro e w4 ⟨r4, rfl, hr4, hb4⟩
                  have HR4 : Hid (r4 = true ↔ z.must) := hr4
                  have HB4 : Hid (Below W0.heap.size W0 w4) := HB3.out.trans (hb4.mono HB3.out.size)
                  obtain ⟨f0, f3, hbw4⟩ := HW0.out w4 HB4.out
                  have HT' : Hid (∀ k', i < k' → k' < k + 1 → (∀ j, i < j → j < k' → ¬ n.stops (kd n j)) → ¬ Common s (kd n i).node.toNat (kd n k').node.toNat) := fun k' h1 h2 h3 => by
                    by_cases ek : k' = k
                    · subst ek; exact fun h4 => Bool.noConfusion (HR2.out.2 (HCE.out.1 h4))
                    · exact HT.out k' h1 (by omega) h3
                  have HOV' : Hid (false = true ↔ ∃ j, i < j ∧ j < k + 1 ∧ n.stops (kd n j)) := by
                    show false = true ↔ ∃ j, i < j ∧ j < k + 1 ∧ n.stops (kd n j)
                    constructor
                    · intro h; exact Bool.noConfusion h
                    · rintro ⟨j, h1, h2, h3⟩
                      by_cases ej : j = k
                      · subst ej; rw [HZ.out] at h3; exact absurd h3.1 HK10.out
                      · exact absurd h3 (HIN.out j h1 (by omega))
                  clear hr4 hb4 hbw4 e0 e3 z1' z2' z3'
                  go_wp2
                  go_roundw
                  case rel => exact ⟨k + 1, false, by omega, by omega, by go_num, rfl, HOV', HT', HB4⟩
                  case measure => simp [intOf]; omega
                · go_wp2
                  go_ret
                  exact reto_no (fun h => by
                    rcases h i hlt with h' | h'
                    · exact HST.out h'
                    · exact h' k hik hkl2 HIN.out (HCE.out.2 (HR2.out.1 trivial))) HBX3.out
            · have HDN : Hid (ToldAt (Common s) n i n.kids.length) := .inr (fun k' h1 h2 h3 => by
                obtain ⟨j, j1, j2, j3⟩ := HOV.out.1 rfl
                by_cases ej : j < k'
                · exact absurd j3 (h3 j j1 ej)
                · exact HT.out k' h1 (by omega) h3)
              go_wp2
              go_roundw
              case rel => exact ⟨i + 1, by omega, by go_num, fun i' h => by
                by_cases e : i' = i
                · subst e; exact HDN.out
                · exact HA.out i' (by omega), HBX.out⟩
              case measure => simp [intOf]; omega
          · have hkl' : (n.kids.length : Int) ≤ k := by omega
            have HDN : Hid (ToldAt (Common s) n i n.kids.length) := .inr (fun k' h1 h2 h3 => HT.out k' h1 (by omega) h3)
            go_wp2
            go_roundw
            case rel => exact ⟨i + 1, by omega, by go_num, fun i' h => by
              by_cases e : i' = i
              · subst e; exact HDN.out
              · exact HA.out i' (by omega), HBX.out⟩
            case measure => simp [intOf]; omega
    · have hlt' : (n.kids.length : Int) ≤ i := by omega
      go_wp2
      go_ret
      exact reto_yes (fun i' h => HA.out i' (by omega)) HBW.out
end Go.Proofs.YtjceeljaljdmoaaGreatDoor
