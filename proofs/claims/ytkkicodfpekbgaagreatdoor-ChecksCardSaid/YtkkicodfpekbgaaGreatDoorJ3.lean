/-
  Several texts in one:
  hallmarkref.told: what it answers.
  schemas.beginningsOf: what it answers.
  slices.Index, slices.Contains at tags; tagSet.meets: what they answer.
  schemas.AllBeginnings: what it answers.
  Beginnings read again: the row that AllBeginnings leaves; two of them meet as the nodes do.
  schemas.choiceIsPlain: what it answers.
  schemas.seqIsPlain, schemas.isPlain: what they answer.
  hallmarklaw.alike: of two schemas that are the same, wherever they lie, it answers true.
  hallmarklaw.copied: what it holds in memory, and that it is the schema.
  hallmarklaw.copied: a schema like another, with lists of its own.
  A schema that came in: its nodes and kids as plain data, and how great they may be.
-/
import Derived.Test.YtkkicodfpekbgaaGreatDoorJ2
import Derived.Deep.RegionWith
import Derived.Test.YtkkicodfpekbgaaGreatDoorJ1
import Derived.WalkMore
import Derived.Test.YtkkicodfpekbgaaGreatDoorJ0
import Derived.Deep.Slices
import Derived.SizedLaws
/-! hallmarkref.told: what it answers. -/
namespace Go.Proofs.YtkkicodfpekbgaaGreatDoor
set_option linter.unusedSimpArgs false
set_option linter.unusedVariables false
open Go.RowKit

/-- What is behind it is never taken for what is ahead. -/
def Nd.stops (n : Nd) (k : Kd) : Prop := n.kind = 10 ∧ k.must
/-- The kid at a place. -/
def kd (n : Nd) (i : Nat) : Kd := n.kids.getD i kd0
/-- Kid by kid, up to a place: can they be told apart? (C: two nodes have a beginning in common.) -/
def ToldAt (C : Nat → Nat → Prop) (n : Nd) (i m : Nat) : Prop := n.stops (kd n i) ∨ ∀ k, i < k → k < m → (∀ j, i < j → j < k → ¬ n.stops (kd n j)) → ¬ C (kd n i).node.toNat (kd n k).node.toNat
def Told (C : Nat → Nat → Prop) (n : Nd) : Prop := ∀ i, i < n.kids.length → ToldAt C n i n.kids.length

set_option maxHeartbeats 6000000 in
set_option maxRecDepth 100000 in
theorem told_any (s : List Nd) (a : Option Addr) (cp x : Nat) (ka : Option Addr) (kc : Nat) (w : World) (hs : Sch w a s) (hw : Within s) (hkd : Kinds s) (hx : x < s.length) (hn : s.length ≤ 40)
    (hka : KidsIn w ka (nd s x).kids) (hkl : (nd s x).kids.length ≤ 8) :
    Calls Tryz.prog 38 #[.slice a s.length cp, nodeV (nd s x) ka kc] w fun e w' => RetO (Told (Common s) (nd s x)) w e w' := by
  have HC : Hid (∀ (wr : World) (i k : Nat), Below w.heap.size w wr → i < s.length → k < s.length → Calls Tryz.prog 68 #[.slice a s.length cp, .int .i64 i, .int .i64 k] wr fun e w' => RetO (Common s i k) wr e w') :=
    fun wr i k hb hi hk => common_any s a cp i k wr (hs.below hb) hw hkd hi hk hn
  have HM : Hid (∀ (wr : World) (k : Kd), Calls Tryz.prog 66 #[.agg #[.int .i64 k.node, .bool k.opt, .string k.dflt]] wr fun e w' => RetO k.must wr e w') := fun wr k => must_any k wr
  have HKI : Hid (KidsIn w ka (nd s x).kids) := hka
  have HKR : Hid (∀ j, j < (nd s x).kids.length → ∃ t : Nat, (kd (nd s x) j).node = t ∧ t < s.length) := fun j hj => by
    have := hw x hx (kd (nd s x) j) (by unfold kd; rw [List.getD_eq_getElem?_getD, List.getElem?_eq_getElem hj]; exact List.getElem_mem hj)
    exact ⟨(kd (nd s x) j).node.toNat, (Int.toNat_of_nonneg this.1).symm, by omega⟩
  clear hs hw hkd hka
  unfold nodeV
  generalize nd s x = n at *
  go_enter Tryz.func38, Tryz.ntmps38
  go_wp2
  obtain ⟨B, hB⟩ : ∃ B, B = w.heap.size := ⟨_, rfl⟩
  have HW0 : Hid (∀ wr, Below (w.alloc (.cells #[.int .i64 n.kind, .int .i64 n.tag, .int .i64 n.mode, .slice ka n.kids.length kc] 58)).heap.size (w.alloc (.cells #[.int .i64 n.kind, .int .i64 n.tag, .int .i64 n.mode, .slice ka n.kids.length kc] 58)) wr →
      wr.cell? ⟨B, 0, none⟩ = some (.int .i64 n.kind) ∧ wr.cell? ⟨B, 3, none⟩ = some (.slice ka n.kids.length kc) ∧ Below w.heap.size w wr) := fun wr h => by
    have h1 := block_below (heap_alloc_new w _) h
    subst hB
    exact ⟨by simp [World.cell?, h1], by simp [World.cell?, h1], below_alloc h⟩
  generalize (w.alloc (.cells #[.int .i64 n.kind, .int .i64 n.tag, .int .i64 n.mode, .slice ka n.kids.length kc] 58)) = W0 at *
  rw [← hB]
  clear hB
  go_loopw [5] (fun vi wr => ∃ i : Nat, i ≤ n.kids.length ∧ vi = .int .i64 i ∧ (∀ i', i' < i → ToldAt (Common s) n i' n.kids.length) ∧ Below W0.heap.size W0 wr) (fun vi _ => n.kids.length - (intOf vi).toNat)
  case atStart => exact ⟨0, Nat.zero_le _, rfl, fun _ h => absurd h (Nat.not_lt_zero _), Below.refl _ _⟩
  case round =>
    obtain ⟨i, hi, rfl, hall, hbr⟩ := hrel
    have HA : Hid (∀ i', i' < i → ToldAt (Common s) n i' n.kids.length) := hall
    have HB : Hid (Below W0.heap.size W0 wr) := hbr
    obtain ⟨c0, c3, hbw⟩ := HW0.out wr hbr
    have HBW : Hid (Below w.heap.size w wr) := hbw
    clear hall hbr hbw
    by_cases hlt : i < n.kids.length
    · have hlt' : (i : Int) < n.kids.length := by omega
      obtain ⟨kb, ko, rfl, kcl⟩ := HKI.out i hlt
      obtain ⟨k1, k2, k3⟩ := kcl.below HBW.out
      obtain ⟨ti, hti, htl⟩ := HKR.out i hlt
      have HTI : Hid ((kd n i).node = ti) := hti
      have HCL : Hid (KidCells w kb (ko + i * 3) (kd n i)) := kcl
      clear hti kcl
      obtain ⟨y, hy⟩ : ∃ y, n.kids.getD i kd0 = y := ⟨_, rfl⟩
      rw [hy] at k1 k2 k3
      have HY : Hid (kd n i = y) := hy
      clear hy
      go_wp2_with fail
      refine (HM.out _ y).mono ?_
      rintro e w1 ⟨r, rfl, hr, hb1⟩
      have HR : Hid (r = true ↔ (kd n i).must) := by show r = true ↔ (kd n i).must; rw [HY.out]; exact hr
      have HB1 : Hid (Below W0.heap.size W0 w1) := HB.out.trans (hb1.mono HB.out.size)
      obtain ⟨d0, d3, hbw1⟩ := HW0.out w1 HB1.out
      clear hr hb1 c0 c3 k1 k2 k3 hbw1
      have hcs : (n.stops (kd n i) ∧ (n.kind == 10) = true ∧ r = true) ∨ (¬ n.stops (kd n i) ∧ (n.kind == 10) = true ∧ r = false) ∨ (¬ n.stops (kd n i) ∧ (n.kind == 10) = false) := by
        by_cases e : n.kind = 10
        · cases r
          · exact .inr (.inl ⟨fun h => Bool.noConfusion (HR.out.2 h.2), by simp [e], rfl⟩)
          · exact .inl ⟨⟨e, HR.out.1 rfl⟩, by simp [e], rfl⟩
        · exact .inr (.inr ⟨fun h => e h.1, by simp [e]⟩)
      rcases hcs with ⟨hst, hk10, rfl⟩ | ⟨hst, hk10, rfl⟩ | ⟨hst, hk10⟩
      · have HST : Hid (n.stops (kd n i)) := hst
        clear hst
        go_wp2
        go_roundw
        case rel => exact ⟨i + 1, by omega, by go_num, fun i' h => by
          by_cases e : i' = i
          · subst e; exact .inl HST.out
          · exact HA.out i' (by omega), HB1.out⟩
        case measure => simp [intOf]; omega
      · have HST : Hid (¬ n.stops (kd n i)) := hst
        have HK10 : Hid (n.kind = 10) := by show n.kind = 10; simpa using hk10
        clear hst
        go_wp2
        go_loopw [7, 8] (fun vo vk wx => ∃ (k : Nat) (ov : Bool), i < k ∧ k ≤ n.kids.length ∧ vk = .int .i64 k ∧ vo = .bool ov ∧ Hid (ov = true ↔ ∃ j, i < j ∧ j < k ∧ n.stops (kd n j)) ∧ Hid (∀ k', i < k' → k' < k → (∀ j, i < j → j < k' → ¬ n.stops (kd n j)) → ¬ Common s (kd n i).node.toNat (kd n k').node.toNat) ∧ Hid (Below W0.heap.size W0 wx))
          (fun _ vk _ => n.kids.length - (intOf vk).toNat)
        case atStart => exact ⟨i + 1, false, by omega, by omega, by go_num, rfl, ⟨fun h => Bool.noConfusion h, fun ⟨j, h1, h2, _⟩ => absurd h1 (by omega)⟩, fun k' h1 h2 => absurd h1 (by omega), HB1⟩
        case round =>
          obtain ⟨k, ov, hik, hk, rfl, rfl, HOV, HT, HBX⟩ := hrel
          obtain ⟨c0, c3, hbw2⟩ := HW0.out wr HBX.out
          have HBX2 : Hid (Below w.heap.size w wr) := hbw2
          clear hbw2 d0 d3
          by_cases hkl2 : k < n.kids.length
          · have hkl' : (k : Int) < n.kids.length := by omega
            cases ov
            · obtain ⟨kb2, ko2, e2, kcl2⟩ := HKI.out k hkl2
              obtain ⟨rfl, rfl⟩ : kb = kb2 ∧ ko = ko2 := by injection e2 with e2; injection e2 with e3 e4 _; exact ⟨e3, e4⟩
              obtain ⟨tk, htk, htkl⟩ := HKR.out k hkl2
              have k1 := (HCL.out.below HBX2.out).node
              rw [HTI.out] at k1
              obtain ⟨z, hz⟩ : ∃ z, kd n k = z := ⟨_, rfl⟩
              have HZ : Hid (kd n k = z) := hz
              have HCZ : Hid (KidCells w kb (ko + k * 3) z) := by show KidCells w kb (ko + k * 3) z; rw [← hz]; exact kcl2
              rw [hz] at htk
              have z1 := (HCZ.out.below HBX2.out).node
              rw [htk] at z1
              have HTK : Hid (z.node = tk) := htk
              clear e2 kcl2 hz htk
              go_wp2_with fail
              go_region_with (go_at_call 68; refine Calls.mono (HC.out _ ti tk ?_ htl htkl) ?_; (exact below_drewN HBX2.out 1); rintro e w2 ⟨r2, rfl, hr2, hb2⟩)
              all_goals
                have HR2 : Hid (r2 = true ↔ Common s ti tk) := hr2
                have HB3 : Hid (Below W0.heap.size W0 w2) := (below_drewN HBX.out 1).trans (hb2.mono (below_drewN HBX.out 1).size)
                obtain ⟨e0, e3, hbw3⟩ := HW0.out w2 HB3.out
                have HBX3 : Hid (Below w.heap.size w w2) := hbw3
                obtain ⟨z1', z2', z3'⟩ := HCZ.out.below hbw3
                have HIN : Hid (∀ j, i < j → j < k → ¬ n.stops (kd n j)) := fun j h1 h2 h3 => Bool.noConfusion (HOV.out.2 ⟨j, h1, h2, h3⟩)
                have HCE : Hid (Common s (kd n i).node.toNat (kd n k).node.toNat ↔ Common s ti tk) := by
                  show Common s (kd n i).node.toNat (kd n k).node.toNat ↔ Common s ti tk
                  rw [HZ.out, HTI.out, HTK.out]; rfl
                clear hr2 hb2 hbw3 c0 c3 k1 z1
                cases r2
                · go_wp2_with fail
                  refine (HM.out _ z).mono ?_
                  rintro e w4 ⟨r4, rfl, hr4, hb4⟩
                  have HR4 : Hid (r4 = true ↔ z.must) := hr4
                  have HB4 : Hid (Below W0.heap.size W0 w4) := HB3.out.trans (hb4.mono HB3.out.size)
                  obtain ⟨f0, f3, hbw4⟩ := HW0.out w4 HB4.out
                  have HT' : Hid (∀ k', i < k' → k' < k + 1 → (∀ j, i < j → j < k' → ¬ n.stops (kd n j)) → ¬ Common s (kd n i).node.toNat (kd n k').node.toNat) := fun k' h1 h2 h3 => by
                    by_cases ek : k' = k
                    · subst ek; exact fun h4 => Bool.noConfusion (HR2.out.2 (HCE.out.1 h4))
                    · exact HT.out k' h1 (by omega) h3
                  have HOV' : Hid (r4 = true ↔ ∃ j, i < j ∧ j < k + 1 ∧ n.stops (kd n j)) := by
                    show r4 = true ↔ ∃ j, i < j ∧ j < k + 1 ∧ n.stops (kd n j)
                    constructor
                    · intro h; exact ⟨k, hik, by omega, by rw [HZ.out]; exact ⟨HK10.out, HR4.out.1 h⟩⟩
                    · rintro ⟨j, h1, h2, h3⟩
                      by_cases ej : j = k
                      · subst ej; rw [HZ.out] at h3; exact HR4.out.2 h3.2
                      · exact absurd h3 (HIN.out j h1 (by omega))
                  clear hr4 hb4 hbw4 e0 e3 z1' z2' z3'
                  go_wp2
                  go_roundw
                  case rel => exact ⟨k + 1, r4, by omega, by omega, by go_num, rfl, HOV', HT', HB4⟩
                  case measure => simp [intOf]; omega
                · go_wp2
                  go_ret
                  exact reto_no (fun h => by
                    rcases h i hlt with h' | h'
                    · exact HST.out h'
                    · exact h' k hik hkl2 HIN.out (HCE.out.2 (HR2.out.1 trivial))) HBX3.out
            · have HDN : Hid (ToldAt (Common s) n i n.kids.length) := .inr (fun k' h1 h2 h3 => by
                obtain ⟨j, j1, j2, j3⟩ := HOV.out.1 rfl
                by_cases ej : j < k'
                · exact absurd j3 (h3 j j1 ej)
                · exact HT.out k' h1 (by omega) h3)
              go_wp2
              go_roundw
              case rel => exact ⟨i + 1, by omega, by go_num, fun i' h => by
                by_cases e : i' = i
                · subst e; exact HDN.out
                · exact HA.out i' (by omega), HBX.out⟩
              case measure => simp [intOf]; omega
          · have hkl' : (n.kids.length : Int) ≤ k := by omega
            have HDN : Hid (ToldAt (Common s) n i n.kids.length) := .inr (fun k' h1 h2 h3 => HT.out k' h1 (by omega) h3)
            go_wp2
            go_roundw
            case rel => exact ⟨i + 1, by omega, by go_num, fun i' h => by
              by_cases e : i' = i
              · subst e; exact HDN.out
              · exact HA.out i' (by omega), HBX.out⟩
            case measure => simp [intOf]; omega
      · have HST : Hid (¬ n.stops (kd n i)) := hst
        have HK10 : Hid (¬ n.kind = 10) := by show ¬ n.kind = 10; simpa using hk10
        clear hst
        go_wp2
        go_loopw [7, 8] (fun vo vk wx => ∃ (k : Nat) (ov : Bool), i < k ∧ k ≤ n.kids.length ∧ vk = .int .i64 k ∧ vo = .bool ov ∧ Hid (ov = true ↔ ∃ j, i < j ∧ j < k ∧ n.stops (kd n j)) ∧ Hid (∀ k', i < k' → k' < k → (∀ j, i < j → j < k' → ¬ n.stops (kd n j)) → ¬ Common s (kd n i).node.toNat (kd n k').node.toNat) ∧ Hid (Below W0.heap.size W0 wx))
          (fun _ vk _ => n.kids.length - (intOf vk).toNat)
        case atStart => exact ⟨i + 1, false, by omega, by omega, by go_num, rfl, ⟨fun h => Bool.noConfusion h, fun ⟨j, h1, h2, _⟩ => absurd h1 (by omega)⟩, fun k' h1 h2 => absurd h1 (by omega), HB1⟩
        case round =>
          obtain ⟨k, ov, hik, hk, rfl, rfl, HOV, HT, HBX⟩ := hrel
          obtain ⟨c0, c3, hbw2⟩ := HW0.out wr HBX.out
          have HBX2 : Hid (Below w.heap.size w wr) := hbw2
          clear hbw2 d0 d3
          by_cases hkl2 : k < n.kids.length
          · have hkl' : (k : Int) < n.kids.length := by omega
            cases ov
            · obtain ⟨kb2, ko2, e2, kcl2⟩ := HKI.out k hkl2
              obtain ⟨rfl, rfl⟩ : kb = kb2 ∧ ko = ko2 := by injection e2 with e2; injection e2 with e3 e4 _; exact ⟨e3, e4⟩
              obtain ⟨tk, htk, htkl⟩ := HKR.out k hkl2
              have k1 := (HCL.out.below HBX2.out).node
              rw [HTI.out] at k1
              obtain ⟨z, hz⟩ : ∃ z, kd n k = z := ⟨_, rfl⟩
              have HZ : Hid (kd n k = z) := hz
              have HCZ : Hid (KidCells w kb (ko + k * 3) z) := by show KidCells w kb (ko + k * 3) z; rw [← hz]; exact kcl2
              rw [hz] at htk
              have z1 := (HCZ.out.below HBX2.out).node
              rw [htk] at z1
              have HTK : Hid (z.node = tk) := htk
              clear e2 kcl2 hz htk
              go_wp2_with fail
              go_region_with (go_at_call 68; refine Calls.mono (HC.out _ ti tk ?_ htl htkl) ?_; (exact below_drewN HBX2.out 1); rintro e w2 ⟨r2, rfl, hr2, hb2⟩)
              all_goals
                have HR2 : Hid (r2 = true ↔ Common s ti tk) := hr2
                have HB3 : Hid (Below W0.heap.size W0 w2) := (below_drewN HBX.out 1).trans (hb2.mono (below_drewN HBX.out 1).size)
                obtain ⟨e0, e3, hbw3⟩ := HW0.out w2 HB3.out
                have HBX3 : Hid (Below w.heap.size w w2) := hbw3
                obtain ⟨z1', z2', z3'⟩ := HCZ.out.below hbw3
                have HIN : Hid (∀ j, i < j → j < k → ¬ n.stops (kd n j)) := fun j h1 h2 h3 => Bool.noConfusion (HOV.out.2 ⟨j, h1, h2, h3⟩)
                have HCE : Hid (Common s (kd n i).node.toNat (kd n k).node.toNat ↔ Common s ti tk) := by
                  show Common s (kd n i).node.toNat (kd n k).node.toNat ↔ Common s ti tk
                  rw [HZ.out, HTI.out, HTK.out]; rfl
                clear hr2 hb2 hbw3 c0 c3 k1 z1
                cases r2
                · go_wp2_with fail
                  refine (HM.out _ z).mono ?_
                  rintro e w4 ⟨r4, rfl, hr4, hb4⟩
                  have HR4 : Hid (r4 = true ↔ z.must) := hr4
                  have HB4 : Hid (Below W0.heap.size W0 w4) := HB3.out.trans (hb4.mono HB3.out.size)
                  obtain ⟨f0, f3, hbw4⟩ := HW0.out w4 HB4.out
                  have HT' : Hid (∀ k', i < k' → k' < k + 1 → (∀ j, i < j → j < k' → ¬ n.stops (kd n j)) → ¬ Common s (kd n i).node.toNat (kd n k').node.toNat) := fun k' h1 h2 h3 => by
                    by_cases ek : k' = k
                    · subst ek; exact fun h4 => Bool.noConfusion (HR2.out.2 (HCE.out.1 h4))
                    · exact HT.out k' h1 (by omega) h3
                  have HOV' : Hid (false = true ↔ ∃ j, i < j ∧ j < k + 1 ∧ n.stops (kd n j)) := by
                    show false = true ↔ ∃ j, i < j ∧ j < k + 1 ∧ n.stops (kd n j)
                    constructor
                    · intro h; exact Bool.noConfusion h
                    · rintro ⟨j, h1, h2, h3⟩
                      by_cases ej : j = k
                      · subst ej; rw [HZ.out] at h3; exact absurd h3.1 HK10.out
                      · exact absurd h3 (HIN.out j h1 (by omega))
                  clear hr4 hb4 hbw4 e0 e3 z1' z2' z3'
                  go_wp2
                  go_roundw
                  case rel => exact ⟨k + 1, false, by omega, by omega, by go_num, rfl, HOV', HT', HB4⟩
                  case measure => simp [intOf]; omega
                · go_wp2
                  go_ret
                  exact reto_no (fun h => by
                    rcases h i hlt with h' | h'
                    · exact HST.out h'
                    · exact h' k hik hkl2 HIN.out (HCE.out.2 (HR2.out.1 trivial))) HBX3.out
            · have HDN : Hid (ToldAt (Common s) n i n.kids.length) := .inr (fun k' h1 h2 h3 => by
                obtain ⟨j, j1, j2, j3⟩ := HOV.out.1 rfl
                by_cases ej : j < k'
                · exact absurd j3 (h3 j j1 ej)
                · exact HT.out k' h1 (by omega) h3)
              go_wp2
              go_roundw
              case rel => exact ⟨i + 1, by omega, by go_num, fun i' h => by
                by_cases e : i' = i
                · subst e; exact HDN.out
                · exact HA.out i' (by omega), HBX.out⟩
              case measure => simp [intOf]; omega
          · have hkl' : (n.kids.length : Int) ≤ k := by omega
            have HDN : Hid (ToldAt (Common s) n i n.kids.length) := .inr (fun k' h1 h2 h3 => HT.out k' h1 (by omega) h3)
            go_wp2
            go_roundw
            case rel => exact ⟨i + 1, by omega, by go_num, fun i' h => by
              by_cases e : i' = i
              · subst e; exact HDN.out
              · exact HA.out i' (by omega), HBX.out⟩
            case measure => simp [intOf]; omega
    · have hlt' : (n.kids.length : Int) ≤ i := by omega
      go_wp2
      go_ret
      exact reto_yes (fun i' h => HA.out i' (by omega)) HBW.out
end Go.Proofs.YtkkicodfpekbgaaGreatDoor

/-! schemas.beginningsOf: what it answers. -/
namespace Go.Proofs.YtkkicodfpekbgaaGreatDoor
set_option linter.unusedSimpArgs false
set_option linter.unusedVariables false
open Go.RowKit

/-- Tags as Go's cells. -/
def tcells (ts : List (Int × Int)) : List Value := ts.flatMap fun t => [.int .i64 t.1, .int .i64 t.2]
theorem tcells_append (l : List (Int × Int)) (t : Int × Int) : tcells (l ++ [t]) = tcells l ++ [.int .i64 t.1, .int .i64 t.2] := by unfold tcells; simp
/-- The tags of leaves. -/
def tgs (s : List Nd) (l : List Nat) : List (Int × Int) := (l.filter fun j => !(nd s j).everyB).map fun j => (nd s j).outer
theorem tgs_no {s : List Nd} {l : List Nat} {x : Nat} (h : ¬ (nd s x).every) : tgs s (l ++ [x]) = tgs s l ++ [(nd s x).outer] := by unfold tgs; rw [List.filter_append]; simp [Nd.everyB_no h]
theorem tgs_yes {s : List Nd} {l : List Nat} {x : Nat} (h : (nd s x).every) : tgs s (l ++ [x]) = tgs s l := by unfold tgs; rw [List.filter_append]; simp [Nd.everyB_yes h]
theorem tgs_le (s : List Nd) (l : List Nat) : (tgs s l).length ≤ l.length := by unfold tgs; simp; exact List.length_filter_le _ _
theorem mem_tgs {s : List Nd} {l : List Nat} {t : Int × Int} : t ∈ tgs s l ↔ ∃ j ∈ l, ¬ (nd s j).every ∧ (nd s j).outer = t := by
  unfold tgs
  rw [List.mem_map]
  constructor
  · rintro ⟨j, hj, e⟩
    rw [List.mem_filter] at hj
    exact ⟨j, hj.1, fun q => (by have := hj.2; rw [Nd.everyB_yes q] at this; cases this), e⟩
  · rintro ⟨j, hj, h, e⟩
    exact ⟨j, by rw [List.mem_filter]; exact ⟨hj, by rw [Nd.everyB_no h]; rfl⟩, e⟩
/-- What it answers. -/
def RetT (s : List Nd) (i : Nat) (w : World) (e : Ending) (w' : World) : Prop :=
  ∃ (all : Bool) (vt : Value) (ts : List (Int × Int)), e = .returned (.agg #[.bool all, vt]) ∧ w'.ownsRow w.heap.size 147 2 vt ts.length (tcells ts) ∧ Below w.heap.size w w' ∧ ts.length ≤ 41 ∧
    (all = true ↔ ∃ j, Leaf s i j ∧ (nd s j).every) ∧ (∀ t, t ∈ ts ↔ ∃ j, Leaf s i j ∧ ¬ (nd s j).every ∧ (nd s j).outer = t)
def Tryz.zeroTag : Value := .agg #[.int .i64 0, .int .i64 0]
theorem Tryz.infoTag : (Tryz.prog.info? 147).map (fun i => (i.zero, i.size, i.bytes)) = some (some Tryz.zeroTag, 2, 16) := by kernel_rfl
/-- What beginningsOf holds in memory. -/
structure BgW (s : List Nd) (w wr : World) (dn : List Nat) (all : Bool) (vt : Value) : Prop where
  res : wr.heap[w.heap.size]? = some (.cells #[.bool false, .slice none 0 0] 174 (0, 0))
  blk : wr.heap[w.heap.size + 1]? = some (.cells #[.bool all, vt] 174 (0, 0))
  own : wr.ownsRow w.heap.size 147 2 vt (tgs s dn).length (tcells (tgs s dn))
  alls : all = true ↔ ∃ j ∈ dn, (nd s j).every
  bel : Below w.heap.size w wr
theorem BgW.below {s : List Nd} {w wr w' : World} {dn : List Nat} {all : Bool} {vt : Value} (h : BgW s w wr dn all vt) (hb : Below wr.heap.size wr w') : BgW s w w' dn all vt :=
  ⟨block_below h.res hb, block_below h.blk hb, own_below h.own hb, h.alls, h.bel.trans (hb.mono h.bel.size)⟩

theorem BgW.setAll {s : List Nd} {w wr : World} {dn : List Nat} {all : Bool} {vt : Value} {x : Nat} (h : BgW s w wr dn all vt) (hx : (nd s x).every) : BgW s w (wr.setCell ⟨w.heap.size + 1, 0, none⟩ (.bool true)) (dn ++ [x]) true vt where
  res := by rw [heap_setCell_other _ _ _ _ (by simp)]; exact h.res
  blk := heap_setCell_same wr _ 0 _ _ _ h.blk
  own := by rw [tgs_yes hx]; exact ownsRow_setCell_other h.own (row_ne1 h.blk h.own (by decide)) _
  alls := ⟨fun _ => ⟨x, by simp, hx⟩, fun _ => rfl⟩
  bel := h.bel.setCell (by simp) _
theorem BgW.put {s : List Nd} {w wr w' : World} {dn : List Nat} {all : Bool} {vt : Value} {x g cap : Nat} {o : Obj} (h : BgW s w wr dn all vt) (hx : ¬ (nd s x).every)
    (h1 : w'.ownsRow w.heap.size 147 2 (.slice (some ⟨g, 0, none⟩) ((tgs s dn).length + 1) cap) ((tgs s dn).length + 1) (tcells (tgs s dn) ++ [.int .i64 (nd s x).outer.1, .int .i64 (nd s x).outer.2]))
    (h2 : (wr.alloc o).grownBy w' vt.ownBlock) : BgW s w (w'.setCell ⟨w.heap.size + 1, 1, none⟩ (.slice (some ⟨g, 0, none⟩) ((tgs s dn).length + 1) cap)) (dn ++ [x]) all (.slice (some ⟨g, 0, none⟩) ((tgs s dn).length + 1) cap) := by
  have hb : Below w.heap.size w (wr.alloc o) := h.bel.alloc h.bel.size o
  have k1 : w'.heap[w.heap.size]? = some _ := keep_other h.res (row_ne1 h.res h.own (by decide)) h2
  have k2 : w'.heap[w.heap.size + 1]? = some _ := keep_other h.blk (row_ne1 h.blk h.own (by decide)) h2
  exact {
    res := by rw [heap_setCell_other _ _ _ _ (by simp)]; exact k1
    blk := heap_setCell_same w' _ 1 _ _ _ k2
    own := by
      rw [tgs_no hx, tcells_append, List.length_append]
      exact ownsRow_setCell_other h1 (row_ne1 k2 h1 (by decide)) _
    alls := by
      rw [h.alls]
      constructor
      · rintro ⟨j, hj, q⟩; exact ⟨j, by simp [hj], q⟩
      · rintro ⟨j, hj, q⟩
        rcases List.mem_append.1 hj with hj | hj
        · exact ⟨j, hj, q⟩
        · simp at hj; subst hj; exact absurd q hx
    bel := (hb.grown h2 hb.size (fun k hk => (h.own.lt k hk).1)).setCell (by simp) _ }
theorem BgW.cell1 {s : List Nd} {w wr : World} {dn : List Nat} {all : Bool} {vt : Value} (h : BgW s w wr dn all vt) : wr.cell? ⟨w.heap.size + 1, 1, none⟩ = some vt := by simp [World.cell?, h.blk]
theorem BgW.froz1 {s : List Nd} {w wr : World} {dn : List Nat} {all : Bool} {vt : Value} (h : BgW s w wr dn all vt) : wr.frozen? ⟨w.heap.size + 1, 1, none⟩ = false := by simp [World.frozen?, h.blk]
theorem BgW.cell_kept {s : List Nd} {w wr w' : World} {dn : List Nat} {all : Bool} {vt : Value} {o : Obj} (h : BgW s w wr dn all vt) (h2 : (wr.alloc o).grownBy w' vt.ownBlock) : w'.cell? ⟨w.heap.size + 1, 1, none⟩ = some vt ∧ w'.frozen? ⟨w.heap.size + 1, 1, none⟩ = false := by
  have k2 := keep_other h.blk (row_ne1 h.blk h.own (by decide)) h2
  exact ⟨by simp [World.cell?, k2], by simp [World.frozen?, k2]⟩
/-- Two rows of different types lie apart. -/
theorem row_ne2 {w : World} {b1 b2 s1 s2 n1 n2 : Nat} {e1 e2 : TypeId} {v1 v2 : Value} {x1 x2 : List Value} (h1 : w.ownsRow b1 e1 s1 v1 n1 x1) (h2 : w.ownsRow b2 e2 s2 v2 n2 x2) (hT : e2 ≠ e1) : v2.ownBlock = none ∨ v2.ownBlock ≠ v1.ownBlock := by
  rcases h2.2 with ⟨q, _⟩ | ⟨g, cap, cur, q, _, hg, _⟩
  · left; rw [q]; rfl
  · right
    intro e
    have : v1.ownBlock = some g := by rw [← e, q]; rfl
    exact row_ne1 hg h1 hT this
set_option maxHeartbeats 2000000 in
set_option maxRecDepth 100000 in
theorem beginningsOf_any (s : List Nd) (a : Option Addr) (c i : Nat) (w : World) (hs : Sch w a s) (hw : Within s) (htg : Tags s) (hkd : Kinds s) (hnm : Nums w) (hi : i < s.length) (hn : s.length ≤ 40) :
    Calls Tryz.prog 97 #[.slice a s.length c, .int .i64 i] w fun e w' => RetT s i w e w' := by
  have HS : Hid (Sch w a s) := hs
  have HN : Hid (Nums w) := hnm
  have HTG : Hid (Tags s) := htg
  have HKD : Hid (Kinds s) := hkd
  have HW : Hid (Within s) := hw
  have HR : Hid (∀ wr, Below w.heap.size w wr → Calls Tryz.prog 96 #[.slice a s.length c, .int .i64 i] wr fun e w' => RetE s i wr e w') := fun wr hb => reach_any s a c i wr (hs.below hb) hw htg hi hn
  clear hs hw htg hkd hnm
  obtain ⟨i0, hi0, hz0, hz1, hz2⟩ := info_parts Tryz.infoTag
  go_enter Tryz.func97, Tryz.ntmps97
  go_wp2_with fail
  refine (HR.out _ (((Below.refl _ _).alloc (Nat.le_refl _) _).alloc (by simp) _)).mono ?_
  rintro e w1 ⟨v, l, bk, rfl, hown, hb1, hl, hlf, _⟩
  obtain ⟨va, vc, rfl, hva⟩ := own_form hown
  have HA : Hid (0 < l.length → ∃ g, va = some ⟨g, 0, none⟩) := hva
  have HF : Hid (∀ j, j ∈ l ↔ Leaf s i j) := hlf
  have HB0 : Hid (BgW s w w1 [] false (.slice none 0 0)) := ⟨block_below (block_below (heap_alloc_new w _) ((Below.refl _ _).alloc (Nat.le_refl _) _)) hb1, block_below (by simpa using heap_alloc_new (w.alloc _) _) hb1, World.ownsRow_nil _ _ _ _, by simp, below_alloc (below_alloc hb1)⟩
  have HO : Hid (w1.ownsRow w.heap.size 3 1 (.slice va l.length vc) l.length (ivs l)) := by
    obtain ⟨q1, q2⟩ := hown
    refine ⟨q1, ?_⟩
    rcases q2 with q2 | ⟨g, cap, cur, q3, q4, q5⟩
    · exact .inl q2
    · exact .inr ⟨g, cap, cur, q3, by simp at q4; omega, q5⟩
  clear hown hb1 hlf hva HR
  go_wp2
  go_loopw [19] (fun vj wr => ∃ j all vt, vj = .int .i64 (j : Nat) ∧ j ≤ l.length ∧ BgW s w wr (l.take j) all vt ∧ wr.ownsRow w.heap.size 3 1 (.slice va l.length vc) l.length (ivs l)) (fun vj _ => l.length - (intOf vj).toNat)
  case atStart => exact ⟨0, false, _, rfl, Nat.zero_le _, by simpa using HB0.out, HO.out⟩
  case round =>
    obtain ⟨j, all, vt, rfl, hj, hB, hO⟩ := hrel
    have HB : Hid (BgW s w wr (l.take j) all vt) := hB
    have HOw : Hid (wr.ownsRow w.heap.size 3 1 (.slice va l.length vc) l.length (ivs l)) := hO
    have hsz : w.heap.size + 1 < wr.heap.size := by
      have := hB.blk
      rcases Nat.lt_or_ge (w.heap.size + 1) wr.heap.size with h' | h'
      · exact h'
      · rw [Array.getElem?_eq_none h'] at this; cases this
    have t0 : wr.cell? ⟨w.heap.size + 1, 0, none⟩ = some (.bool all) := by simp [World.cell?, hB.blk]
    have t1 : wr.cell? ⟨w.heap.size + 1, 1, none⟩ = some vt := by simp [World.cell?, hB.blk]
    have f0 : wr.frozen? ⟨w.heap.size + 1, 0, none⟩ = false := by simp [World.frozen?, hB.blk]
    have f1 : wr.frozen? ⟨w.heap.size + 1, 1, none⟩ = false := by simp [World.frozen?, hB.blk]
    by_cases hlt : j < l.length
    · obtain ⟨g, rfl⟩ := HA.out (by omega)
      have cj := own_cell hO hlt
      have HX : Hid (l.getD j 0 ∈ l) := by show _ ∈ l; rw [List.getD_eq_getElem?_getD, List.getElem?_eq_getElem hlt]; exact List.getElem_mem hlt
      have HTK : Hid (l.take (j + 1) = l.take j ++ [l.getD j 0]) := by show l.take (j + 1) = _; rw [List.take_add_one, List.getElem?_eq_getElem hlt]; simp [hlt]
      generalize l.getD j 0 = x at cj HX HTK
      have hLX : Leaf s i x := (HF.out x).1 HX.out
      have hxs : x < s.length := hLX.1.lt HW.out hi
      have hkx := HKD.out x hxs
      have htx := HTG.out x hxs
      have hx12 : ¬ (nd s x).every → (nd s x).tag < 0 → (nd s x).kind ≤ 12 := fun h1 h2 => by
        have a1 : (nd s x).kind ≠ 14 := fun e => h1 ⟨e, h2⟩
        have a2 : (nd s x).kind ≠ 13 := fun e => hLX.2 ⟨e, h2⟩
        omega
      have HX12 : Hid (¬ (nd s x).every → (nd s x).tag < 0 → (nd s x).kind ≤ 12) := hx12
      obtain ⟨b, o, ka, kc, rfl, nc, kl, km, ks⟩ := HS.out x hxs
      obtain ⟨n1, n2, n3, n4⟩ := nc.below hB.bel
      have hlt' : (j : Int) < l.length := by omega
      have hxs' : (x : Int) < s.length := by omega
      clear hB hO ks nc hLX hx12
      by_cases hev : (nd s x).every
      · have e1 : ((nd s x).kind == 14) = true := by simp [hev.1]
        have e2 : ((nd s x).tag == -1) = true := by have := hev.2; rw [beq_iff_eq]; omega
        have HEV : Hid (nd s x).every := hev
        clear hev hkx htx
        go_wp2
        go_roundw
        case rel => exact ⟨j + 1, true, vt, by go_num, by omega, by rw [HTK.out]; exact (HB.out.setAll HEV.out).below ((Below.refl _ _).alloc (Nat.le_refl _) _), (ownsRow_setCell_other HOw.out (row_ne1 HB.out.blk HOw.out (by decide)) _).alloc _⟩
        case measure => simp [intOf]; omega
      · have HEV : Hid (¬ (nd s x).every) := hev
        have e12 : ((nd s x).kind == 14) = false ∨ (((nd s x).kind == 14) = true ∧ ((nd s x).tag == -1) = false) := by
          by_cases q : (nd s x).kind = 14
          · right
            exact ⟨by simp [q], by rw [beq_eq_false_iff_ne]; intro q2; exact hev ⟨q, by omega⟩⟩
          · left; simp [q]
        have HOT : Hid (∀ w', Nums w' → Calls Tryz.prog 140 #[.agg #[.int .i64 (nd s x).kind, .int .i64 (nd s x).tag, .int .i64 (nd s x).mode, .slice ka (nd s x).kids.length kc]] w' fun e w'' => e = .returned (.agg #[.int .i64 (nd s x).outer.1, .int .i64 (nd s x).outer.2]) ∧ Below w'.heap.size w' w'') := fun w' q => outerTag_any (nd s x) ka kc w' q htx (by omega) (fun q' => HX12.out HEV.out q')
        have RUN : Hid (∀ args w, (callFunc 140 args).run Tryz.prog w = .ok (.enter 140 args) w) := fun args w => run_enter Tryz.func140 (by kernel_rfl) (by rfl) args w
        have HNW : Hid (∀ o, Nums (wr.alloc o).drew) := fun o => HN.out.below ((HB.out.bel.alloc HB.out.bel.size o).drew)
        have BH : Hid (∀ o w5, Below (wr.alloc o).drew.heap.size (wr.alloc o).drew w5 → BgW s w w5 (l.take j) all vt) := fun o w5 q => (HB.out.below ((Below.refl wr.heap.size wr).alloc (Nat.le_refl _) o).drew).below q
        have OH : Hid (∀ o w5, Below (wr.alloc o).drew.heap.size (wr.alloc o).drew w5 → w5.ownsRow w.heap.size 3 1 (.slice (some ⟨g, 0, none⟩) l.length vc) l.length (ivs l)) := fun o w5 q => own_below (own_below HOw.out ((Below.refl wr.heap.size wr).alloc (Nat.le_refl _) o).drew) q
        have htl : (tgs s (l.take j)).length ≤ 41 := by have := tgs_le s (l.take j); have := List.length_take_le j l; omega
        clear hev hkx htx
        rcases e12 with e1 | ⟨e1, e2⟩
        · go_wp2_with fail
          go_region_law (first | (refine step_calls rfl 140 _ _ rfl #[.agg #[.int .i64 (nd s x).kind, .int .i64 (nd s x).tag, .int .i64 (nd s x).mode, .slice ka (nd s x).kids.length kc]] (by simp [Act.eval, Act.put]) (.agg #[.int .i64 (nd s x).outer.1, .int .i64 (nd s x).outer.2]) (fun w'' => Below ((wr.alloc (.cells #[.int .i64 (nd s x).kind, .int .i64 (nd s x).tag, .int .i64 (nd s x).mode, .slice ka (nd s x).kids.length kc] 58)).drew).heap.size ((wr.alloc (.cells #[.int .i64 (nd s x).kind, .int .i64 (nd s x).tag, .int .i64 (nd s x).mode, .slice ka (nd s x).kids.length kc] 58)).drew) w'') (RUN.out _ _) (HOT.out _ (HNW.out _)) ?_; intro w5 hb5; have HB5 := BH.out _ _ hb5; have HO5 := OH.out _ _ hb5; have t15 := HB5.cell1; have f15 := HB5.froz1; have hs5 := HB5.bel.size; have hl5 : w.heap.size + 1 < w5.heap.size := lt_of_cell t15; clear hb5) | (refine step_append_lies _ rfl (.tmp 37) (.tmp 40) 172 rfl w.heap.size 147 i0 Tryz.zeroTag 2 16 Tryz.underlying172 hi0 hz0 hz1 hz2 rfl (by decide) vt (tgs s (l.take j)).length (tcells (tgs s (l.take j))) (by simp [Act.eval, Act.put]) (HB5.own.alloc _) ⟨w5.heap.size, 0, none⟩ 1 1 [.int .i64 (nd s x).outer.1, .int .i64 (nd s x).outer.2] (by simp [Act.eval, Act.put]) rfl (World.news_of_block (heap_alloc_new w5 _)) (by intro u hu; simp at hu; rcases hu with rfl | rfl <;> rfl) (by decide) (by unfold maxLen; omega) (by omega) (by simp; omega) (w5.heap.size + 1) (by simp) ?_; intro g6 cap6 w6 h61 h62 h63 h64; have HB6 := HB5.put HEV.out h61 h62; have HO6 := (HO5.alloc _).kept h62 (row_ne2 HB5.own HO5 (by decide)); have t16 := HB5.cell_kept h62; have BK6 := keep_other HB5.blk (row_ne1 HB5.blk HB5.own (by decide)) h62; clear h61 h62 h63 h64))
          all_goals
            have HB7 : Hid (BgW s w (w6.setCell ⟨w.heap.size + 1, 1, none⟩ (.slice (some ⟨g6, 0, none⟩) ((tgs s (l.take j)).length + 1) cap6)) (l.take j ++ [x]) all (.slice (some ⟨g6, 0, none⟩) ((tgs s (l.take j)).length + 1) cap6)) := HB6
            have HO7 : Hid ((w6.setCell ⟨w.heap.size + 1, 1, none⟩ (.slice (some ⟨g6, 0, none⟩) ((tgs s (l.take j)).length + 1) cap6)).ownsRow w.heap.size 3 1 (.slice (some ⟨g, 0, none⟩) l.length vc) l.length (ivs l)) := ownsRow_setCell_other HO6 (row_ne1 BK6 HO6 (by decide)) _
            clear HB6 HO6 HB5 HO5 t15 f15 t16 hs5 hl5 BK6
            go_wp2
            go_roundw
            case rel => exact ⟨j + 1, all, _, by go_num, by omega, by rw [HTK.out]; exact HB7.out, HO7.out⟩
            case measure => simp [intOf]; omega
        · go_wp2_with fail
          go_region_law (first | (refine step_calls rfl 140 _ _ rfl #[.agg #[.int .i64 (nd s x).kind, .int .i64 (nd s x).tag, .int .i64 (nd s x).mode, .slice ka (nd s x).kids.length kc]] (by simp [Act.eval, Act.put]) (.agg #[.int .i64 (nd s x).outer.1, .int .i64 (nd s x).outer.2]) (fun w'' => Below ((wr.alloc (.cells #[.int .i64 (nd s x).kind, .int .i64 (nd s x).tag, .int .i64 (nd s x).mode, .slice ka (nd s x).kids.length kc] 58)).drew).heap.size ((wr.alloc (.cells #[.int .i64 (nd s x).kind, .int .i64 (nd s x).tag, .int .i64 (nd s x).mode, .slice ka (nd s x).kids.length kc] 58)).drew) w'') (RUN.out _ _) (HOT.out _ (HNW.out _)) ?_; intro w5 hb5; have HB5 := BH.out _ _ hb5; have HO5 := OH.out _ _ hb5; have t15 := HB5.cell1; have f15 := HB5.froz1; have hs5 := HB5.bel.size; have hl5 : w.heap.size + 1 < w5.heap.size := lt_of_cell t15; clear hb5) | (refine step_append_lies _ rfl (.tmp 37) (.tmp 40) 172 rfl w.heap.size 147 i0 Tryz.zeroTag 2 16 Tryz.underlying172 hi0 hz0 hz1 hz2 rfl (by decide) vt (tgs s (l.take j)).length (tcells (tgs s (l.take j))) (by simp [Act.eval, Act.put]) (HB5.own.alloc _) ⟨w5.heap.size, 0, none⟩ 1 1 [.int .i64 (nd s x).outer.1, .int .i64 (nd s x).outer.2] (by simp [Act.eval, Act.put]) rfl (World.news_of_block (heap_alloc_new w5 _)) (by intro u hu; simp at hu; rcases hu with rfl | rfl <;> rfl) (by decide) (by unfold maxLen; omega) (by omega) (by simp; omega) (w5.heap.size + 1) (by simp) ?_; intro g6 cap6 w6 h61 h62 h63 h64; have HB6 := HB5.put HEV.out h61 h62; have HO6 := (HO5.alloc _).kept h62 (row_ne2 HB5.own HO5 (by decide)); have t16 := HB5.cell_kept h62; have BK6 := keep_other HB5.blk (row_ne1 HB5.blk HB5.own (by decide)) h62; clear h61 h62 h63 h64))
          all_goals
            have HB7 : Hid (BgW s w (w6.setCell ⟨w.heap.size + 1, 1, none⟩ (.slice (some ⟨g6, 0, none⟩) ((tgs s (l.take j)).length + 1) cap6)) (l.take j ++ [x]) all (.slice (some ⟨g6, 0, none⟩) ((tgs s (l.take j)).length + 1) cap6)) := HB6
            have HO7 : Hid ((w6.setCell ⟨w.heap.size + 1, 1, none⟩ (.slice (some ⟨g6, 0, none⟩) ((tgs s (l.take j)).length + 1) cap6)).ownsRow w.heap.size 3 1 (.slice (some ⟨g, 0, none⟩) l.length vc) l.length (ivs l)) := ownsRow_setCell_other HO6 (row_ne1 BK6 HO6 (by decide)) _
            clear HB6 HO6 HB5 HO5 t15 f15 t16 hs5 hl5 BK6
            go_wp2
            go_roundw
            case rel => exact ⟨j + 1, all, _, by go_num, by omega, by rw [HTK.out]; exact HB7.out, HO7.out⟩
            case measure => simp [intOf]; omega
    · have hlt' : (l.length : Int) ≤ j := by omega
      obtain rfl : j = l.length := by omega
      have q0 : wr.cell? ⟨w.heap.size, 0, none⟩ = some (.bool false) := by simp [World.cell?, hB.res]
      have q1 : wr.cell? ⟨w.heap.size, 1, none⟩ = some (.slice none 0 0) := by simp [World.cell?, hB.res]
      have p0 : wr.frozen? ⟨w.heap.size, 0, none⟩ = false := by simp [World.frozen?, hB.res]
      have p1 : wr.frozen? ⟨w.heap.size, 1, none⟩ = false := by simp [World.frozen?, hB.res]
      have hsz' : w.heap.size < wr.heap.size := by omega
      rw [List.take_length] at HB
      obtain ⟨ta, tc, rfl, _⟩ := own_form hB.own
      have hle : (tgs s l).length ≤ 41 := by have := tgs_le s l; omega
      clear hB hO
      go_wp2
      refine bodyPost_ret (v := .agg #[.bool all, .slice ta (tgs s (l.take l.length)).length tc]) (by simp [results, Tryz.results97, go_sem, q0, q1, hsz']) rfl ⟨all, _, tgs s l, rfl, ?_, ?_, hle, ?_, ?_⟩
      · rw [List.take_length] at *
        have ne := row_ne1 HB.out.res HB.out.own (by decide)
        exact ownsRow_setCell_other (ownsRow_setCell_other HB.out.own ne _) ne _
      · exact (HB.out.bel.setCell (p := ⟨w.heap.size, 0, none⟩) (Nat.le_refl _) _).setCell (p := ⟨w.heap.size, 1, none⟩) (Nat.le_refl _) _
      · rw [HB.out.alls]
        exact ⟨fun ⟨j, h1, h2⟩ => ⟨j, (HF.out j).1 h1, h2⟩, fun ⟨j, h1, h2⟩ => ⟨j, (HF.out j).2 h1, h2⟩⟩
      · intro t
        rw [mem_tgs]
        exact ⟨fun ⟨j, h1, h2⟩ => ⟨j, (HF.out j).1 h1, h2⟩, fun ⟨j, h1, h2⟩ => ⟨j, (HF.out j).2 h1, h2⟩⟩
end Go.Proofs.YtkkicodfpekbgaaGreatDoor

/-! slices.Index, slices.Contains at tags; tagSet.meets: what they answer. -/
namespace Go.Proofs.YtkkicodfpekbgaaGreatDoor
set_option linter.unusedSimpArgs false
set_option linter.unusedVariables false
open Go.RowKit

/-- Tags behind an address. -/
def TagsIn (w : World) (a : Option Addr) (ts : List (Int × Int)) : Prop := ∀ j, j < ts.length → ∃ b o, a = some ⟨b, o, none⟩ ∧ w.cell? ⟨b, o + j * 2, none⟩ = some (.int .i64 (ts.getD j (0, 0)).1) ∧ w.cell? ⟨b, o + j * 2 + 1, none⟩ = some (.int .i64 (ts.getD j (0, 0)).2)
theorem TagsIn.below {w w' : World} {a : Option Addr} {ts : List (Int × Int)} (h : TagsIn w a ts) (hb : Below w.heap.size w w') : TagsIn w' a ts := fun j hj => by
  obtain ⟨b, o, e, h1, h2⟩ := h j hj
  exact ⟨b, o, e, (hb.cell (lt_of_cell h1)).trans h1, (hb.cell (lt_of_cell h2)).trans h2⟩

set_option maxHeartbeats 2000000 in
set_option maxRecDepth 100000 in
theorem index_any (ts : List (Int × Int)) (a : Option Addr) (c : Nat) (t : Int × Int) (w : World) (h : TagsIn w a ts) (hl : ts.length ≤ 41) :
    Calls Tryz.prog 199 #[.slice a ts.length c, .agg #[.int .i64 t.1, .int .i64 t.2]] w fun e w' => ∃ r, e = .returned (.int .i64 r) ∧ (0 ≤ r ↔ t ∈ ts) ∧ Below w.heap.size w w' := by
  obtain ⟨t1, t2⟩ := t
  have HI : Hid (TagsIn w a ts) := h
  clear h
  go_enter Tryz.func199, Tryz.ntmps199
  go_wp2
  go_loopw [8] (fun vj wr => ∃ j : Nat, vj = .int .i64 j ∧ j ≤ ts.length ∧ (∀ p, p < j → ts.getD p (0, 0) ≠ (t1, t2)) ∧ ∃ q, wr = (w.alloc (.cells #[.int .i64 t1, .int .i64 t2] 147)).drewN q) (fun vj _ => ts.length - (intOf vj).toNat)
  case atStart => exact ⟨0, rfl, Nat.zero_le _, fun _ h => absurd h (Nat.not_lt_zero _), 0, rfl⟩
  case round =>
    obtain ⟨j, rfl, hj, hno, q, rfl⟩ := hrel
    have HN : Hid (∀ p, p < j → ts.getD p (0, 0) ≠ (t1, t2)) := hno
    have HB : Hid (∀ q, Below w.heap.size w ((w.alloc (.cells #[.int .i64 t1, .int .i64 t2] 147)).drewN q)) := fun q => below_drewN ((Below.refl _ _).alloc (Nat.le_refl _) _) q
    clear hno
    by_cases hlt : j < ts.length
    · obtain ⟨b, o, rfl, c1, c2⟩ := HI.out j hlt
      have hbl : b < w.heap.size := lt_of_cell c1
      have hlt' : (j : Int) < ts.length := by omega
      have HM : Hid (ts.getD j (0, 0) ∈ ts) := by show _ ∈ ts; rw [List.getD_eq_getElem?_getD, List.getElem?_eq_getElem hlt]; exact List.getElem_mem hlt
      obtain ⟨u, hu⟩ : ∃ u, ts.getD j (0, 0) = u := ⟨_, rfl⟩
      have HU : Hid (ts.getD j (0, 0) = u) := hu
      rw [hu] at c1 c2
      clear hu
      obtain ⟨u1, u2⟩ := u
      simp only at c1 c2
      by_cases e : t1 = u1 ∧ t2 = u2
      · obtain ⟨rfl, rfl⟩ := e
        go_wp2
        go_quiet (fail)
        go_wp2
        go_ret
        exact ⟨j, rfl, ⟨fun _ => by rw [← HU.out]; exact HM.out, fun _ => by omega⟩, below_drewN (HB.out _) _⟩
      · have HE : Hid ((u1, u2) ≠ (t1, t2)) := fun q => e (by injection q with q1 q2; exact ⟨q1.symm, q2.symm⟩)
        by_cases e1 : t1 = u1
        · subst e1
          have e2 : (t2 == u2) = false := by rw [beq_eq_false_iff_ne]; exact fun q => e ⟨rfl, q⟩
          clear e
          go_wp2
          go_quiet (fail)
          go_wp2
          go_roundw
          case rel => exact ⟨j + 1, by go_num, by omega, fun p hp => by
            by_cases ep : p = j
            · subst ep; rw [HU.out]; exact HE.out
            · exact HN.out p (by omega), _, rfl⟩
          case measure => simp [intOf]; omega
        · have e2 : (t1 == u1) = false := by rw [beq_eq_false_iff_ne]; exact e1
          clear e e1
          go_wp2
          go_quiet (fail)
          go_wp2
          go_roundw
          case rel => exact ⟨j + 1, by go_num, by omega, fun p hp => by
            by_cases ep : p = j
            · subst ep; rw [HU.out]; exact HE.out
            · exact HN.out p (by omega), _, rfl⟩
          case measure => simp [intOf]; omega
    · have hlt' : (ts.length : Int) ≤ j := by omega
      go_wp2
      go_ret
      exact ⟨-1, rfl, ⟨fun h => absurd h (by decide), fun h => by
        obtain ⟨p, hp, e⟩ := List.getElem_of_mem h
        exact absurd (by rw [List.getD_eq_getElem?_getD, List.getElem?_eq_getElem hp]; simpa using e) (HN.out p (by omega))⟩, HB.out _⟩

set_option maxHeartbeats 1000000 in
set_option maxRecDepth 100000 in
theorem contains_any (ts : List (Int × Int)) (a : Option Addr) (c : Nat) (t : Int × Int) (w : World) (h : TagsIn w a ts) (hl : ts.length ≤ 41) :
    Calls Tryz.prog 180 #[.slice a ts.length c, .agg #[.int .i64 t.1, .int .i64 t.2]] w fun e w' => RetO (t ∈ ts) w e w' := by
  have HC : Hid (∀ w, TagsIn w a ts → Calls Tryz.prog 199 #[.slice a ts.length c, .agg #[.int .i64 t.1, .int .i64 t.2]] w fun e w' => ∃ r, e = .returned (.int .i64 r) ∧ (0 ≤ r ↔ t ∈ ts) ∧ Below w.heap.size w w') := fun w q => index_any ts a c t w q hl
  have HI : Hid (∀ o, TagsIn (w.alloc o) a ts) := fun o => h.below ((Below.refl _ _).alloc (Nat.le_refl _) _)
  clear h
  go_enter Tryz.func180, Tryz.ntmps180
  go_wp2_with fail
  refine (HC.out _ (HI.out _)).mono ?_
  rintro e w1 ⟨r, rfl, hr, hb⟩
  have HR : Hid (0 ≤ r ↔ t ∈ ts) := hr
  have HB : Hid (Below w.heap.size w w1) := below_alloc hb
  clear hr hb
  go_wp2
  go_ret
  exact reto_iff (by rw [decide_eq_true_iff]; exact HR.out) HB.out

/-- Beginnings as the program holds them. -/
structure Bgs (w : World) (all : Bool) (a : Option Addr) (ts : List (Int × Int)) : Prop where
  tags : TagsIn w a ts
  len : ts.length ≤ 41
/-- They have one in common. -/
def MeetsT (al1 al2 : Bool) (t1 t2 : List (Int × Int)) : Prop := al1 = true ∨ al2 = true ∨ ∃ t, t ∈ t1 ∧ t ∈ t2

set_option maxHeartbeats 2000000 in
set_option maxRecDepth 100000 in
theorem meets_any (al1 al2 : Bool) (a1 a2 : Option Addr) (c1 c2 : Nat) (t1 t2 : List (Int × Int)) (w : World) (h1 : TagsIn w a1 t1) (h2 : TagsIn w a2 t2) (hl1 : t1.length ≤ 41) (hl2 : t2.length ≤ 41) :
    Calls Tryz.prog 141 #[.agg #[.bool al1, .slice a1 t1.length c1], .agg #[.bool al2, .slice a2 t2.length c2]] w fun e w' => RetO (MeetsT al1 al2 t1 t2) w e w' := by
  have HC : Hid (∀ w t, TagsIn w a2 t2 → Calls Tryz.prog 180 #[.slice a2 t2.length c2, .agg #[.int .i64 t.1, .int .i64 t.2]] w fun e w' => RetO (t ∈ t2) w e w') := fun w t q => contains_any t2 a2 c2 t w q hl2
  have H1 : Hid (TagsIn w a1 t1) := h1
  have H2 : Hid (TagsIn w a2 t2) := h2
  clear h1 h2
  have hb0 : Below w.heap.size w ((w.alloc (.cells #[.bool al1, .slice a1 t1.length c1] 174)).alloc (.cells #[.bool al2, .slice a2 t2.length c2] 174)) := ((Below.refl _ _).alloc (Nat.le_refl _) _).alloc (by simp) _
  cases al1
  · cases al2
    · have HB0 : Hid (Below w.heap.size w ((w.alloc (.cells #[.bool false, .slice a1 t1.length c1] 174)).alloc (.cells #[.bool false, .slice a2 t2.length c2] 174))) := hb0
      clear hb0
      go_enter Tryz.func141, Tryz.ntmps141
      go_wp2
      obtain ⟨B, hB⟩ : ∃ B, B = w.heap.size + 1 := ⟨_, rfl⟩
      have HW0 : Hid (∀ wr, Below ((w.alloc (.cells #[.bool false, .slice a1 t1.length c1] 174)).alloc (.cells #[.bool false, .slice a2 t2.length c2] 174)).heap.size ((w.alloc (.cells #[.bool false, .slice a1 t1.length c1] 174)).alloc (.cells #[.bool false, .slice a2 t2.length c2] 174)) wr →
          wr.cell? ⟨B, 1, none⟩ = some (.slice a2 t2.length c2) ∧ Below w.heap.size w wr) := fun wr h => by
        have q := block_below (show _ = some (Obj.cells _ _ _) from heap_alloc_new (w.alloc (.cells #[.bool false, .slice a1 t1.length c1] 174)) (.cells #[.bool false, .slice a2 t2.length c2] 174)) h
        subst hB
        exact ⟨by simp at q; simp [World.cell?, q], below_alloc (below_alloc h)⟩
      generalize ((w.alloc (.cells #[.bool false, .slice a1 t1.length c1] 174)).alloc (.cells #[.bool false, .slice a2 t2.length c2] 174)) = W0 at *
      rw [← hB]
      clear hB
      go_loopw [16] (fun vj wr => ∃ j : Nat, vj = .int .i64 j ∧ j ≤ t1.length ∧ (∀ p, p < j → t1.getD p (0, 0) ∉ t2) ∧ Below W0.heap.size W0 wr) (fun vj _ => t1.length - (intOf vj).toNat)
      case atStart => exact ⟨0, rfl, Nat.zero_le _, fun _ h => absurd h (Nat.not_lt_zero _), Below.refl _ _⟩
      case round =>
        obtain ⟨j, rfl, hj, hno, hbr⟩ := hrel
        have HN : Hid (∀ p, p < j → t1.getD p (0, 0) ∉ t2) := hno
        have HB : Hid (Below W0.heap.size W0 wr) := hbr
        obtain ⟨d1, hbw⟩ := HW0.out wr hbr
        have HBW : Hid (Below w.heap.size w wr) := hbw
        clear hno hbr hbw
        by_cases hlt : j < t1.length
        · obtain ⟨b, o, rfl, c1', c2'⟩ := (H1.out.below HBW.out) j hlt
          have hlt' : (j : Int) < t1.length := by omega
          have HM : Hid (t1.getD j (0, 0) ∈ t1) := by show _ ∈ t1; rw [List.getD_eq_getElem?_getD, List.getElem?_eq_getElem hlt]; exact List.getElem_mem hlt
          obtain ⟨u, hu⟩ : ∃ u, t1.getD j (0, 0) = u := ⟨_, rfl⟩
          have HU : Hid (t1.getD j (0, 0) = u) := hu
          rw [hu] at c1' c2'
          clear hu
          have hbB := lt_of_cell d1
          go_wp2_with fail
          refine (HC.out _ u ((H2.out.below HBW.out).below ((Below.refl _ _).alloc (Nat.le_refl _) _))).mono ?_
          rintro e w3 ⟨r, rfl, hr, hb3⟩
          have HR : Hid (r = true ↔ u ∈ t2) := hr
          have HB3 : Hid (Below W0.heap.size W0 w3) := HB.out.trans ((below_alloc hb3).mono HB.out.size)
          have HBW3 : Hid (Below w.heap.size w w3) := HBW.out.trans ((below_alloc hb3).mono HBW.out.size)
          clear hr hb3
          cases r
          · go_wp2
            go_roundw
            case rel => exact ⟨j + 1, by go_num, by omega, fun p hp => by
              by_cases ep : p = j
              · subst ep; rw [HU.out]; exact fun q => Bool.noConfusion (HR.out.2 q)
              · exact HN.out p (by omega), HB3.out⟩
            case measure => simp [intOf]; omega
          · go_wp2
            go_ret
            exact reto_yes (.inr (.inr ⟨u, by rw [← HU.out]; exact HM.out, HR.out.1 trivial⟩)) HBW3.out
        · have hlt' : (t1.length : Int) ≤ j := by omega
          go_wp2
          go_ret
          exact reto_no (fun h => by
            rcases h with h | h | ⟨t, h1, h2⟩
            · cases h
            · cases h
            · obtain ⟨p, hp, e⟩ := List.getElem_of_mem h1
              refine HN.out p (by omega) ?_
              rw [List.getD_eq_getElem?_getD, List.getElem?_eq_getElem hp]
              simpa [e] using h2) HBW.out
    · have HB0 : Hid (Below w.heap.size w ((w.alloc (.cells #[.bool false, .slice a1 t1.length c1] 174)).alloc (.cells #[.bool true, .slice a2 t2.length c2] 174))) := hb0
      clear hb0
      go_enter Tryz.func141, Tryz.ntmps141
      go_wp2
      go_ret
      exact reto_yes (.inr (.inl rfl)) HB0.out
  · have HB0 : Hid (Below w.heap.size w ((w.alloc (.cells #[.bool true, .slice a1 t1.length c1] 174)).alloc (.cells #[.bool al2, .slice a2 t2.length c2] 174))) := hb0
    clear hb0
    go_enter Tryz.func141, Tryz.ntmps141
    go_wp2
    go_ret
    exact reto_yes (.inl rfl) HB0.out
end Go.Proofs.YtkkicodfpekbgaaGreatDoor

/-! schemas.AllBeginnings: what it answers. -/
namespace Go.Proofs.YtkkicodfpekbgaaGreatDoor
set_option linter.unusedSimpArgs false
set_option linter.unusedVariables false
open Go.RowKit

/-- What the beginnings of a node are. -/
def BegIs (s : List Nd) (i : Nat) (all : Bool) (ts : List (Int × Int)) : Prop := ts.length ≤ 41 ∧ (all = true ↔ ∃ j, Leaf s i j ∧ (nd s j).every) ∧ (∀ t, t ∈ ts ↔ ∃ j, Leaf s i j ∧ ¬ (nd s j).every ∧ (nd s j).outer = t)
/-- The first of them lie in a row that the call owns. -/
structure AbW (s : List Nd) (w wr : World) (m : Nat) : Prop where
  bel : Below w.heap.size w wr
  row : ∃ C : Array Value, wr.heap[w.heap.size]? = some (.cells C 174 (0, 0)) ∧ C.size = s.length * 2 ∧
    ∀ j, j < m → ∃ all vt ts, C[j * 2]? = some (.bool all) ∧ C[j * 2 + 1]? = some vt ∧ wr.ownsRow w.heap.size 147 2 vt ts.length (tcells ts) ∧ BegIs s j all ts
theorem AbW.below {s : List Nd} {w wr w' : World} {m : Nat} (h : AbW s w wr m) (hb : Below wr.heap.size wr w') : AbW s w w' m where
  bel := h.bel.trans (hb.mono h.bel.size)
  row := by
    obtain ⟨C, h1, h2, h3⟩ := h.row
    refine ⟨C, block_below h1 hb, h2, fun j hj => ?_⟩
    obtain ⟨all, vt, ts, q1, q2, q3, q4⟩ := h3 j hj
    exact ⟨all, vt, ts, q1, q2, own_below q3 hb, q4⟩
/-- One more is stored. -/
theorem AbW.put {s : List Nd} {w wr : World} {m : Nat} {all : Bool} {vt : Value} {ts : List (Int × Int)} (h : AbW s w wr m) (hm : m < s.length) (ho : wr.ownsRow w.heap.size 147 2 vt ts.length (tcells ts)) (hb : BegIs s m all ts) :
    AbW s w ((wr.setCell ⟨w.heap.size, m * 2, none⟩ (.bool all)).setCell ⟨w.heap.size, m * 2 + 1, none⟩ vt) (m + 1) where
  bel := (h.bel.setCell (p := ⟨w.heap.size, m * 2, none⟩) (Nat.le_refl _) _).setCell (p := ⟨w.heap.size, m * 2 + 1, none⟩) (Nat.le_refl _) _
  row := by
    obtain ⟨C, h1, h2, h3⟩ := h.row
    refine ⟨(C.setIfInBounds (m * 2) (.bool all)).setIfInBounds (m * 2 + 1) vt, heap_setCell_same _ _ _ _ _ _ (heap_setCell_same wr _ _ _ _ _ h1), by simp [h2], fun j hj => ?_⟩
    have own : ∀ {v : Value} {ts : List (Int × Int)}, wr.ownsRow w.heap.size 147 2 v ts.length (tcells ts) → ((wr.setCell ⟨w.heap.size, m * 2, none⟩ (.bool all)).setCell ⟨w.heap.size, m * 2 + 1, none⟩ vt).ownsRow w.heap.size 147 2 v ts.length (tcells ts) := fun q => by
      have ne := row_ne1 h1 q (by decide)
      exact ownsRow_setCell_other (ownsRow_setCell_other q ne _) ne _
    by_cases e : j = m
    · subst e
      refine ⟨all, vt, ts, ?_, ?_, own ho, hb⟩
      · rw [Array.getElem?_setIfInBounds, if_neg (by omega), Array.getElem?_setIfInBounds, if_pos rfl, if_pos (by omega)]
      · rw [Array.getElem?_setIfInBounds, if_pos rfl, if_pos (by simp; omega)]
    · obtain ⟨all', vt', ts', q1, q2, q3, q4⟩ := h3 j (by omega)
      refine ⟨all', vt', ts', ?_, ?_, own q3, q4⟩
      · rw [Array.getElem?_setIfInBounds, if_neg (by omega), Array.getElem?_setIfInBounds, if_neg (by omega)]; exact q1
      · rw [Array.getElem?_setIfInBounds, if_neg (by omega), Array.getElem?_setIfInBounds, if_neg (by omega)]; exact q2
def Tryz.zeroTs : Value := .agg #[.bool false, .slice none 0 0]
theorem Tryz.infoTs : (Tryz.prog.info? 174).map (fun i => (i.zero, i.size, i.bytes)) = some (some Tryz.zeroTs, 2, 32) := by kernel_rfl

set_option maxHeartbeats 2000000 in
set_option maxRecDepth 100000 in
theorem allBeginnings_any (s : List Nd) (a : Option Addr) (c : Nat) (w : World) (hs : Sch w a s) (hw : Within s) (htg : Tags s) (hkd : Kinds s) (hnm : Nums w) (hn : s.length ≤ 40) :
    Calls Tryz.prog 64 #[.slice a s.length c] w fun e w' => e = .returned (.slice (some ⟨w.heap.size, 0, none⟩) s.length s.length) ∧ AbW s w w' s.length := by
  have HR : Hid (∀ wr i, Below w.heap.size w wr → i < s.length → Calls Tryz.prog 97 #[.slice a s.length c, .int .i64 i] wr fun e w' => RetT s i wr e w') := fun wr i hb hi => beginningsOf_any s a c i wr (hs.below hb) hw htg hkd (hnm.below hb) hi hn
  clear hs hw htg hkd hnm
  obtain ⟨i0, hi0, hz0, hz1, hz2⟩ := info_parts Tryz.infoTs
  obtain ⟨w1, hrun, hown, hgr⟩ := run_make_full (P := Tryz.prog) w w.heap.size 120 174 i0 Tryz.zeroTs 2 Tryz.underlying120 hi0 hz0 hz1 .i64 .i64 s.length (by rw [hz2]; omega) (by unfold maxLen; omega) (Nat.le_refl _)
  have HA0 : Hid (AbW s w w1 0) := by
    refine ⟨(Below.refl w.heap.size w).grown hgr (Nat.le_refl _) (fun k hk => by cases hk), ?_⟩
    rcases hown.2 with ⟨q, _⟩ | ⟨g, cap, cur, q, _, q1, _, _, q2, _⟩
    · cases q
    · injection q with e1 _ e3
      injection e1 with e1
      injection e1 with e1 _ _
      subst e1 e3
      exact ⟨cur, q1, q2, fun j hj => absurd hj (Nat.not_lt_zero _)⟩
  clear hown hgr
  go_enter Tryz.func64, Tryz.ntmps64
  go_wp2
  go_loopw [10] (fun vj wr => ∃ j : Nat, vj = .int .i64 j ∧ j ≤ s.length ∧ AbW s w wr j) (fun vj _ => s.length - (intOf vj).toNat)
  case atStart => exact ⟨0, rfl, Nat.zero_le _, HA0.out⟩
  case round =>
    obtain ⟨j, rfl, hj, hA⟩ := hrel
    have HA : Hid (AbW s w wr j) := hA
    by_cases hlt : j < s.length
    · have hlt' : (j : Int) < s.length := by omega
      clear hA
      go_wp2_with fail
      refine (HR.out _ j HA.out.bel hlt).mono ?_
      rintro e w2 ⟨all, vt, ts, rfl, hown, hb2, hl, h1, h2⟩
      have HA2 : Hid (AbW s w w2 j) := HA.out.below hb2
      obtain ⟨ta, tc, rfl, _⟩ := own_form hown
      have HO2 : Hid (w2.ownsRow w.heap.size 147 2 (.slice ta ts.length tc) ts.length (tcells ts)) := by
        obtain ⟨q1, q2⟩ := hown
        refine ⟨q1, ?_⟩
        rcases q2 with q2 | ⟨g, cap, cur, q3, q4, q5⟩
        · exact .inl q2
        · exact .inr ⟨g, cap, cur, q3, Nat.le_trans HA.out.bel.size q4, q5⟩
      have HBI : Hid (BegIs s j all ts) := ⟨hl, h1, h2⟩
      have hC : ∀ k, k < s.length * 2 → (∃ u, w2.cell? ⟨w.heap.size, k, none⟩ = some u) ∧ w2.frozen? ⟨w.heap.size, k, none⟩ = false := fun k hk => by
        obtain ⟨C, q1, q2, _⟩ := HA2.out.row
        refine ⟨⟨C[k]'(by omega), by simp only [World.cell?, q1]; simp⟩, by simp [World.frozen?, q1]⟩
      obtain ⟨⟨u0, c0⟩, f0⟩ := hC (j * 2) (by omega)
      obtain ⟨⟨u1, c1⟩, f1⟩ := hC (j * 2 + 1) (by omega)
      clear hown hb2 h1 h2 hl hC
      go_wp2
      go_roundw
      case rel => exact ⟨j + 1, by go_num, by omega, HA2.out.put hlt HO2.out HBI.out⟩
      case measure => simp [intOf]; omega
    · have hlt' : (s.length : Int) ≤ j := by omega
      obtain rfl : j = s.length := by omega
      clear hA
      go_wp2
      go_ret
      exact ⟨rfl, HA.out⟩
end Go.Proofs.YtkkicodfpekbgaaGreatDoor

/-! Beginnings read again: the row that AllBeginnings leaves; two of them meet as the nodes do. -/
namespace Go.Proofs.YtkkicodfpekbgaaGreatDoor
set_option linter.unusedSimpArgs false
set_option linter.unusedVariables false
open Go.RowKit

theorem tcells_get (l : List (Int × Int)) (i : Nat) (hi : i < l.length) : (tcells l)[i * 2]? = some (.int .i64 (l.getD i (0, 0)).1) ∧ (tcells l)[i * 2 + 1]? = some (.int .i64 (l.getD i (0, 0)).2) := by
  induction l generalizing i with
  | nil => simp at hi
  | cons a l ih =>
    have e : tcells (a :: l) = [.int .i64 a.1, .int .i64 a.2] ++ tcells l := by unfold tcells; simp
    rw [e]
    cases i with
    | zero => simp
    | succ i =>
      have h := ih i (by simp at hi; omega)
      constructor
      · rw [List.getElem?_append_right (by simp; omega)]
        have : (i + 1) * 2 - [Value.int IntKind.i64 a.1, Value.int IntKind.i64 a.2].length = i * 2 := by simp; omega
        rw [this, h.1]; simp
      · rw [List.getElem?_append_right (by simp; omega)]
        have : (i + 1) * 2 + 1 - [Value.int IntKind.i64 a.1, Value.int IntKind.i64 a.2].length = i * 2 + 1 := by simp; omega
        rw [this, h.2]; simp
/-- The beginnings of all nodes lie in a row. -/
def AbR (w : World) (gb : Nat) (s : List Nd) : Prop := ∀ j, j < s.length → ∃ all ta tc ts, w.cell? ⟨gb, j * 2, none⟩ = some (.bool all) ∧ w.cell? ⟨gb, j * 2 + 1, none⟩ = some (.slice ta (ts : List (Int × Int)).length tc) ∧ TagsIn w ta ts ∧ BegIs s j all ts
theorem AbR.below {w w' : World} {gb : Nat} {s : List Nd} (h : AbR w gb s) (hb : Below w.heap.size w w') : AbR w' gb s := fun j hj => by
  obtain ⟨all, ta, tc, ts, h1, h2, h3, h4⟩ := h j hj
  exact ⟨all, ta, tc, ts, (hb.cell (lt_of_cell h1)).trans h1, (hb.cell (lt_of_cell h2)).trans h2, h3.below hb, h4⟩
theorem AbW.read {s : List Nd} {w wr : World} (h : AbW s w wr s.length) : AbR wr w.heap.size s := fun j hj => by
  obtain ⟨C, h1, h2, h3⟩ := h.row
  obtain ⟨all, vt, ts, q1, q2, q3, q4⟩ := h3 j hj
  obtain ⟨ta, tc, rfl, hta⟩ := own_form q3
  refine ⟨all, ta, tc, ts, by simp only [World.cell?, h1]; simpa using q1, by simp only [World.cell?, h1]; simpa using q2, fun k hk => ?_, q4⟩
  obtain ⟨g, rfl⟩ := hta (by omega)
  have a0 : ∀ p, (⟨g, 0, none⟩ : Addr).add p = ⟨g, p, none⟩ := fun p => by unfold Addr.add; split <;> simp_all
  have c0 := q3.cells (g := g) rfl _ _ (tcells_get ts k hk).1
  have c1 := q3.cells (g := g) rfl _ _ (tcells_get ts k hk).2
  rw [a0] at c0 c1
  exact ⟨g, 0, rfl, by simpa using c0, by simpa using c1⟩
theorem meetsT_iff {s : List Nd} {i k : Nat} {a1 a2 : Bool} {t1 t2 : List (Int × Int)} (h1 : BegIs s i a1 t1) (h2 : BegIs s k a2 t2) : MeetsT a1 a2 t1 t2 ↔ Meets s i k := by
  unfold MeetsT Meets
  rw [h1.2.1, h2.2.1]
  refine or_congr Iff.rfl (or_congr Iff.rfl ⟨?_, ?_⟩)
  · rintro ⟨t, q1, q2⟩
    obtain ⟨j, r1, r2, r3⟩ := (h1.2.2 t).1 q1
    obtain ⟨l, r4, r5, r6⟩ := (h2.2.2 t).1 q2
    exact ⟨j, l, r1, r2, r4, r5, r3.trans r6.symm⟩
  · rintro ⟨j, l, r1, r2, r4, r5, r6⟩
    exact ⟨(nd s j).outer, (h1.2.2 _).2 ⟨j, r1, r2, rfl⟩, (h2.2.2 _).2 ⟨l, r4, r5, r6.symm⟩⟩
/-- Kids are told apart by the program's test as by the document's. -/
theorem told_congr {C D : Nat → Nat → Prop} {n : Nd} {m : Nat} (hw : ∀ j, j < n.kids.length → (kd n j).node.toNat < m) (h : ∀ i k, i < m → k < m → (C i k ↔ D i k)) : Told C n ↔ Told D n := by
  unfold Told ToldAt
  constructor
  · intro q i hi
    rcases q i hi with q | q
    · exact .inl q
    · exact .inr fun k h1 h2 h3 h4 => q k h1 h2 h3 ((h _ _ (hw i hi) (hw k h2)).2 h4)
  · intro q i hi
    rcases q i hi with q | q
    · exact .inl q
    · exact .inr fun k h1 h2 h3 h4 => q k h1 h2 h3 ((h _ _ (hw i hi) (hw k h2)).1 h4)
end Go.Proofs.YtkkicodfpekbgaaGreatDoor

/-! schemas.choiceIsPlain: what it answers. -/
namespace Go.Proofs.YtkkicodfpekbgaaGreatDoor
set_option linter.unusedSimpArgs false
set_option linter.unusedVariables false
open Go.RowKit

/-- A kid of a schema, its node as a place. -/
theorem kid_at {n : Nd} {m i : Nat} (hw : ∀ j, j < n.kids.length → ∃ t : Nat, (kd n j).node = t ∧ t < m) (hi : i < n.kids.length) : ∃ (t : Nat) (o : Bool) (d : ByteArray), kd n i = ⟨t, o, d⟩ ∧ t < m := by
  obtain ⟨t, h1, h2⟩ := hw i hi
  refine ⟨t, (kd n i).opt, (kd n i).dflt, ?_, h2⟩
  rw [← h1]

set_option maxHeartbeats 2000000 in
set_option maxRecDepth 100000 in
theorem choiceIsPlain_any (s : List Nd) (n : Nd) (ka : Option Addr) (kc gb : Nat) (w : World) (hka : KidsIn w ka n.kids) (hkc : n.kids.length ≤ kc) (hk8 : n.kids.length ≤ 8) (hw : ∀ j, j < n.kids.length → ∃ t : Nat, (kd n j).node = t ∧ t < s.length) (hb : AbR w gb s) (hn : s.length ≤ 40) :
    Calls Tryz.prog 98 #[.slice ka n.kids.length kc, .slice (some ⟨gb, 0, none⟩) s.length s.length] w fun e w' => RetO (∀ i k, i < k → k < n.kids.length → ¬ Meets s (kd n i).node.toNat (kd n k).node.toNat) w e w' := by
  have HKI : Hid (KidsIn w ka n.kids) := hka
  have HKR : Hid (∀ j, j < n.kids.length → ∃ t : Nat, (kd n j).node = t ∧ t < s.length) := hw
  have HAB : Hid (AbR w gb s) := hb
  clear hka hw hb
  go_enter Tryz.func98, Tryz.ntmps98
  go_wp2
  go_loopw [11] (fun vi wr => ∃ i : Nat, i ≤ n.kids.length ∧ vi = .int .i64 i ∧ (∀ i', i' < i → ∀ k, i' < k → k < n.kids.length → ¬ Meets s (kd n i').node.toNat (kd n k).node.toNat) ∧ Below w.heap.size w wr) (fun vi _ => n.kids.length - (intOf vi).toNat)
  case atStart => exact ⟨0, Nat.zero_le _, rfl, fun _ h => absurd h (Nat.not_lt_zero _), Below.refl _ _⟩
  case round =>
    obtain ⟨i, hi, rfl, hall, hbr⟩ := hrel
    have HA : Hid (∀ i', i' < i → ∀ k, i' < k → k < n.kids.length → ¬ Meets s (kd n i').node.toNat (kd n k).node.toNat) := hall
    have HB : Hid (Below w.heap.size w wr) := hbr
    clear hall hbr
    by_cases hlt : i < n.kids.length
    · have hlt' : (i : Int) < n.kids.length := by omega
      obtain ⟨kb, ko, rfl, kcl⟩ := HKI.out i hlt
      obtain ⟨ty, yo, yd, hy, hty⟩ := kid_at HKR.out hlt
      have HY : Hid (kd n i = ⟨ty, yo, yd⟩) := hy
      have hkcl : KidCells w kb (ko + i * 3) ⟨ty, yo, yd⟩ := by rw [← hy]; exact kcl
      obtain ⟨k1, k2, k3⟩ := hkcl.below HB.out
      simp only at k1 k2 k3
      have HBA : Hid (Below w.heap.size w (wr.alloc (.cells #[.int .i64 ty, .bool yo, .string yd] 55))) := HB.out.alloc HB.out.size _
      clear hy kcl hkcl
      by_cases hkk : kc = i + 1
      · subst hkk
        have HZ : Hid (∀ k, i < k → k < n.kids.length → ¬ Meets s (kd n i).node.toNat (kd n k).node.toNat) := fun k _ _ => by omega
        have hz : ((n.kids.length - (i + 1) : Nat) : Int) ≤ 0 := by omega
        go_wp2
        go_loopw [21] (fun vj wq => vj = .int .i64 0 ∧ wq = wr.alloc (.cells #[.int .i64 ty, .bool yo, .string yd] 55)) (fun _ _ => 0)
        case atStart => exact ⟨rfl, rfl⟩
        case round =>
          obtain ⟨rfl, rfl⟩ := hrel
          go_wp2
          go_roundw
          case rel =>
            refine ⟨i + 1, by omega, by go_num, fun i' h1 k h2 h3 => ?_, HBA.out⟩
            by_cases e : i' = i
            · subst e; exact HZ.out k h2 h3
            · exact HA.out i' (by omega) k h2 h3
          case measure => simp [intOf]; omega
      · go_wp2
        generalize hW : wr.alloc (.cells #[.int .i64 ty, .bool yo, .string yd] 55) = W at *
        have hWb : W.heap[wr.heap.size]? = some (.cells #[.int .i64 ty, .bool yo, .string yd] 55 (0, 0)) := by rw [← hW]; exact heap_alloc_new wr _
        have HWb : Hid (W.heap[wr.heap.size]? = some (.cells #[.int .i64 ty, .bool yo, .string yd] 55 (0, 0))) := hWb
        obtain ⟨Y, hY⟩ : ∃ Y, Y = wr.heap.size := ⟨_, rfl⟩
        have HY0 : Hid (W.cell? ⟨Y, 0, none⟩ = some (.int .i64 ty)) := by show W.cell? _ = _; rw [hY]; simp [World.cell?, hWb]
        rw [← hY]
        clear hW hWb k1 k2 k3 hY HWb
        go_loopw [21] (fun vj wq => ∃ j : Nat, j ≤ n.kids.length - (i + 1) ∧ vj = .int .i64 j ∧ (∀ k, i < k → k < i + 1 + j → ¬ Meets s (kd n i).node.toNat (kd n k).node.toNat) ∧ Below W.heap.size W wq) (fun vj _ => n.kids.length - (intOf vj).toNat)
        case atStart => exact ⟨0, Nat.zero_le _, rfl, fun k h1 h2 => absurd h1 (by omega), Below.refl _ _⟩
        case round =>
          obtain ⟨j, hj, rfl, hno, hbq⟩ := hrel
          have HNO : Hid (∀ k, i < k → k < i + 1 + j → ¬ Meets s (kd n i).node.toNat (kd n k).node.toNat) := hno
          have HBQ : Hid (Below W.heap.size W wr) := hbq
          have HBW : Hid (Below w.heap.size w wr) := HBA.out.trans (hbq.mono HBA.out.size)
          have d0 := (hbq.cell (lt_of_cell HY0.out)).trans HY0.out
          clear hno hbq
          by_cases hjl : j < n.kids.length - (i + 1)
          · have hjl' : (j : Int) < ((n.kids.length - (i + 1) : Nat) : Int) := by omega
            obtain ⟨kb', ko', he, kcl⟩ := HKI.out (i + 1 + j) (by omega)
            obtain ⟨rfl, rfl⟩ : kb = kb' ∧ ko = ko' := by injection he with he; injection he with e1 e2; exact ⟨e1, e2⟩
            obtain ⟨tz, zo, zd, hz, htz⟩ := kid_at HKR.out (show i + 1 + j < n.kids.length by omega)
            have HZ : Hid (kd n (i + 1 + j) = ⟨tz, zo, zd⟩) := hz
            have hkcl : KidCells w kb (ko + (i + 1) * 3 + j * 3) ⟨tz, zo, zd⟩ := by rw [← hz]; have e : ko + (i + 1 + j) * 3 = ko + (i + 1) * 3 + j * 3 := (by omega); rw [← e]; exact kcl
            obtain ⟨k1, k2, k3⟩ := hkcl.below HBW.out
            simp only at k1 k2 k3
            obtain ⟨al1, a1, c1, t1, p1, p2, p3, p4⟩ := HAB.out ty hty
            obtain ⟨al2, a2, c2, t2, q1, q2, q3, q4⟩ := HAB.out tz htz
            obtain ⟨r, hr⟩ := bool_of (MeetsT al1 al2 t1 t2)
            have HR : Hid (r = true ↔ Meets s (kd n i).node.toNat (kd n (i + 1 + j)).node.toNat) := by
              rw [HY.out, HZ.out]
              exact hr.trans (meetsT_iff p4 q4)
            have HB2 : Hid (Below w.heap.size w (wr.alloc (.cells #[.int .i64 tz, .bool zo, .string zd] 55))) := HBW.out.alloc HBW.out.size _
            have HB3 : Hid (Below W.heap.size W (wr.alloc (.cells #[.int .i64 tz, .bool zo, .string zd] 55))) := HBQ.out.alloc HBQ.out.size _
            have HM : Hid (∀ x : Ext (wr.alloc (.cells #[.int .i64 tz, .bool zo, .string zd] 55)), Calls Tryz.prog 141 #[.agg #[.bool al1, .slice a1 t1.length c1], .agg #[.bool al2, .slice a2 t2.length c2]] x.v fun e w'' => e = .returned (.bool r) ∧ ∃ y : Ext (wr.alloc (.cells #[.int .i64 tz, .bool zo, .string zd] 55)), w'' = y.v) := fun x => Ext.callsR hr (meets_any al1 al2 a1 a2 c1 c2 t1 t2 x.v (p3.below (Ext.bel HB2.out x)) (q3.below (Ext.bel HB2.out x)) p4.1 q4.1)
            have X0 : ∀ x : Ext (wr.alloc (.cells #[.int .i64 tz, .bool zo, .string zd] 55)), x.v.cell? ⟨Y, 0, none⟩ = some (.int .i64 ty) := fun x => x.old d0
            have X1 : ∀ x : Ext (wr.alloc (.cells #[.int .i64 tz, .bool zo, .string zd] 55)), x.v.cell? ⟨wr.heap.size, 0, none⟩ = some (.int .i64 tz) := fun x => x.new rfl
            have X2 : ∀ x : Ext (wr.alloc (.cells #[.int .i64 tz, .bool zo, .string zd] 55)), x.v.cell? ⟨gb, ty * 2, none⟩ = some (.bool al1) := fun x => Ext.far HB2.out x p1
            have X3 : ∀ x : Ext (wr.alloc (.cells #[.int .i64 tz, .bool zo, .string zd] 55)), x.v.cell? ⟨gb, ty * 2 + 1, none⟩ = some (.slice a1 t1.length c1) := fun x => Ext.far HB2.out x p2
            have X4 : ∀ x : Ext (wr.alloc (.cells #[.int .i64 tz, .bool zo, .string zd] 55)), x.v.cell? ⟨gb, tz * 2, none⟩ = some (.bool al2) := fun x => Ext.far HB2.out x q1
            have X5 : ∀ x : Ext (wr.alloc (.cells #[.int .i64 tz, .bool zo, .string zd] 55)), x.v.cell? ⟨gb, tz * 2 + 1, none⟩ = some (.slice a2 t2.length c2) := fun x => Ext.far HB2.out x q2
            have hty' : (ty : Int) < s.length := by omega
            have htz' : (tz : Int) < s.length := by omega
            clear kcl hkcl hz he hr p1 p2 p3 p4 q1 q2 q3 q4
            go_wp2_with fail
            (have ne := ext_ne; refine wp_region_ext (by kernel_rfl) (by kernel_rfl) ?_; (repeat (first | go_big_quiet_skip | (go_big_quiet_want; go_big_quiet_op; first | go_big_quiet_on | (apply Exists.intro; refine ⟨fun x => ?_, ?_⟩; (· (exact HM.out x)); go_big_quiet_on)))); refine nil_ext ?_)
            intro w5 hb5
            have HB5 : Hid (Below w.heap.size w w5) := HB2.out.trans (hb5.mono HB2.out.size)
            have HB6 : Hid (Below W.heap.size W w5) := HB3.out.trans (hb5.mono HB3.out.size)
            clear X0 X1 X2 X3 X4 X5 hb5 HM
            cases r
            · have HN : Hid (¬ Meets s (kd n i).node.toNat (kd n (i + 1 + j)).node.toNat) := fun q => Bool.noConfusion (HR.out.2 q)
              go_wp2
              go_roundw
              case rel =>
                refine ⟨j + 1, by omega, by go_num, fun k h1 h2 => ?_, HB6.out⟩
                by_cases e : k = i + 1 + j
                · subst e; exact HN.out
                · exact HNO.out k h1 (by omega)
              case measure => simp [intOf]; omega
            · have HN : Hid (Meets s (kd n i).node.toNat (kd n (i + 1 + j)).node.toNat) := HR.out.1 rfl
              go_wp2
              go_ret
              exact reto_no (fun q => q i (i + 1 + j) (by omega) (by omega) HN.out) HB5.out
          · have hjl' : ((n.kids.length - (i + 1) : Nat) : Int) ≤ (j : Int) := by omega
            go_wp2
            go_roundw
            case rel =>
              refine ⟨i + 1, by omega, by go_num, fun i' h1 k h2 h3 => ?_, HBW.out⟩
              by_cases e : i' = i
              · subst e; exact HNO.out k h2 (by omega)
              · exact HA.out i' (by omega) k h2 h3
            case measure => simp [intOf]; omega
    · have hlt' : (n.kids.length : Int) ≤ i := by omega
      go_wp2
      go_ret
      exact reto_yes (fun i' k h1 h2 => HA.out i' (by omega) k h1 h2) HB.out
end Go.Proofs.YtkkicodfpekbgaaGreatDoor

/-! schemas.seqIsPlain, schemas.isPlain: what they answer. -/
namespace Go.Proofs.YtkkicodfpekbgaaGreatDoor
set_option linter.unusedSimpArgs false
set_option linter.unusedVariables false
open Go.RowKit

/-- A kid that may lack is told from those behind it, up to the first that may not. -/
def SeqAt (s : List Nd) (n : Nd) (i : Nat) : Prop := (kd n i).must ∨ ∀ k, i < k → k < n.kids.length → (∀ j, i < j → j < k → ¬ (kd n j).must) → ¬ Meets s (kd n i).node.toNat (kd n k).node.toNat

set_option maxHeartbeats 2000000 in
set_option maxRecDepth 100000 in
theorem seqIsPlain_any (s : List Nd) (n : Nd) (ka : Option Addr) (kc gb : Nat) (w : World) (hka : KidsIn w ka n.kids) (hkc : n.kids.length ≤ kc) (hk8 : n.kids.length ≤ 8) (hw : ∀ j, j < n.kids.length → ∃ t : Nat, (kd n j).node = t ∧ t < s.length) (hb : AbR w gb s) (hn : s.length ≤ 40) :
    Calls Tryz.prog 99 #[.slice ka n.kids.length kc, .slice (some ⟨gb, 0, none⟩) s.length s.length] w fun e w' => RetO (∀ i, i < n.kids.length → SeqAt s n i) w e w' := by
  have HKI : Hid (KidsIn w ka n.kids) := hka
  have HKR : Hid (∀ j, j < n.kids.length → ∃ t : Nat, (kd n j).node = t ∧ t < s.length) := hw
  have HAB : Hid (AbR w gb s) := hb
  have HML : Hid (∀ (a : Int) (b : Bool) (c : ByteArray) (wq : World), Calls Tryz.prog 94 #[.agg #[.int .i64 a, .bool b, .string c]] wq fun e w' => RetO (¬ Kd.must ⟨a, b, c⟩) wq e w') := fun a b c wq => mayLack_any ⟨a, b, c⟩ wq
  clear hka hw hb
  go_enter Tryz.func99, Tryz.ntmps99
  go_wp2
  go_step3
  go_wp2
  go_step3
  go_wp2
  go_loopw [11] (fun vi wr => ∃ i : Nat, i ≤ n.kids.length ∧ vi = .int .i64 i ∧ (∀ i', i' < i → SeqAt s n i') ∧ Below w.heap.size w wr) (fun vi _ => n.kids.length - (intOf vi).toNat)
  case atStart => exact ⟨0, Nat.zero_le _, rfl, fun _ h => absurd h (Nat.not_lt_zero _), Below.refl _ _⟩
  case round =>
    obtain ⟨i, hi, rfl, hall, hbr⟩ := hrel
    have HA : Hid (∀ i', i' < i → SeqAt s n i') := hall
    have HB : Hid (Below w.heap.size w wr) := hbr
    have STEP : Hid (SeqAt s n i → ∀ i', i' < i + 1 → SeqAt s n i') := fun q i' h => by
      by_cases e : i' = i
      · subst e; exact q
      · exact hall i' (by omega)
    clear hall hbr
    by_cases hlt : i < n.kids.length
    · have hlt' : (i : Int) < n.kids.length := by omega
      obtain ⟨kb, ko, rfl, kcl⟩ := HKI.out i hlt
      obtain ⟨ty, yo, yd, hy, hty⟩ := kid_at HKR.out hlt
      have HY : Hid (kd n i = ⟨ty, yo, yd⟩) := hy
      have hkcl : KidCells w kb (ko + i * 3) ⟨ty, yo, yd⟩ := by rw [← hy]; exact kcl
      obtain ⟨k1, k2, k3⟩ := hkcl.below HB.out
      simp only at k1 k2 k3
      have HBA : Hid (Below w.heap.size w (wr.alloc (.cells #[.int .i64 ty, .bool yo, .string yd] 55))) := HB.out.alloc HB.out.size _
      clear hy kcl hkcl
      go_wp2_with fail
      refine (HML.out _ _ _ _).mono ?_
      rintro e W ⟨r0, rfl, hr0, hb0⟩
      have HR0 : Hid (r0 = true ↔ ¬ Kd.must ⟨ty, yo, yd⟩) := hr0
      have HBW0 : Hid (Below w.heap.size w W) := HBA.out.trans (hb0.mono HBA.out.size)
      have hWb := block_below (heap_alloc_new wr (.cells #[.int .i64 ty, .bool yo, .string yd] 55)) hb0
      obtain ⟨Y, hY⟩ : ∃ Y, Y = wr.heap.size := ⟨_, rfl⟩
      have HY0 : Hid (W.cell? ⟨Y, 0, none⟩ = some (.int .i64 ty)) := by show W.cell? _ = _; rw [hY]; simp [World.cell?, hWb]
      rw [← hY]
      clear hY hWb hb0 hr0 k1 k2 k3
      cases r0
      · have HQ : Hid (SeqAt s n i) := .inl (by
          rw [HY.out]
          by_cases q : Kd.must ⟨ty, yo, yd⟩
          · exact q
          · exact Bool.noConfusion (HR0.out.2 q))
        go_wp2
        go_roundw
        case rel => exact ⟨i + 1, by omega, by go_num, STEP.out HQ.out, HBW0.out⟩
        case measure => simp [intOf]; omega
      · have HNM : Hid (¬ (kd n i).must) := by rw [HY.out]; exact HR0.out.1 rfl
        by_cases hkk : kc = i + 1
        · subst hkk
          have HQ : Hid (SeqAt s n i) := .inr fun k _ _ => by omega
          have hz : ((n.kids.length - (i + 1) : Nat) : Int) ≤ 0 := by omega
          go_wp2
          go_loopw [24] (fun vj wq => vj = .int .i64 0 ∧ wq = W) (fun _ _ => 0)
          case atStart => exact ⟨rfl, rfl⟩
          case round =>
            obtain ⟨rfl, rfl⟩ := hrel
            go_wp2
            go_roundw
            case rel => exact ⟨i + 1, by omega, by go_num, STEP.out HQ.out, HBW0.out⟩
            case measure => simp [intOf]; omega
        · go_wp2
          go_loopw [24] (fun vj wq => ∃ j : Nat, j ≤ n.kids.length - (i + 1) ∧ vj = .int .i64 j ∧ (∀ k, i < k → k < i + 1 + j → ¬ (kd n k).must ∧ ¬ Meets s (kd n i).node.toNat (kd n k).node.toNat) ∧ Below W.heap.size W wq) (fun vj _ => n.kids.length - (intOf vj).toNat)
          case atStart => exact ⟨0, Nat.zero_le _, rfl, fun k h1 h2 => absurd h1 (by omega), Below.refl _ _⟩
          case round =>
            obtain ⟨j, hj, rfl, hno, hbq⟩ := hrel
            have HNO : Hid (∀ k, i < k → k < i + 1 + j → ¬ (kd n k).must ∧ ¬ Meets s (kd n i).node.toNat (kd n k).node.toNat) := hno
            have HBQ : Hid (Below W.heap.size W wr) := hbq
            have HBW : Hid (Below w.heap.size w wr) := HBW0.out.trans (hbq.mono HBW0.out.size)
            have d0 := (hbq.cell (lt_of_cell HY0.out)).trans HY0.out
            clear hno hbq
            by_cases hjl : j < n.kids.length - (i + 1)
            · have hjl' : (j : Int) < ((n.kids.length - (i + 1) : Nat) : Int) := by omega
              obtain ⟨kb', ko', he, kcl⟩ := HKI.out (i + 1 + j) (by omega)
              obtain ⟨rfl, rfl⟩ : kb = kb' ∧ ko = ko' := by injection he with he; injection he with e1 e2; exact ⟨e1, e2⟩
              obtain ⟨tz, zo, zd, hz, htz⟩ := kid_at HKR.out (show i + 1 + j < n.kids.length by omega)
              have HZ : Hid (kd n (i + 1 + j) = ⟨tz, zo, zd⟩) := hz
              have hkcl : KidCells w kb (ko + (i + 1) * 3 + j * 3) ⟨tz, zo, zd⟩ := by rw [← hz]; have e : ko + (i + 1 + j) * 3 = ko + (i + 1) * 3 + j * 3 := (by omega); rw [← e]; exact kcl
              obtain ⟨k1, k2, k3⟩ := hkcl.below HBW.out
              simp only at k1 k2 k3
              obtain ⟨al1, a1, c1, t1, p1, p2, p3, p4⟩ := HAB.out ty hty
              obtain ⟨al2, a2, c2, t2, q1, q2, q3, q4⟩ := HAB.out tz htz
              obtain ⟨r, hr⟩ := bool_of (MeetsT al1 al2 t1 t2)
              have HR : Hid (r = true ↔ Meets s (kd n i).node.toNat (kd n (i + 1 + j)).node.toNat) := by
                rw [HY.out, HZ.out]
                exact hr.trans (meetsT_iff p4 q4)
              have HB2 : Hid (Below w.heap.size w (wr.alloc (.cells #[.int .i64 tz, .bool zo, .string zd] 55))) := HBW.out.alloc HBW.out.size _
              have HB3 : Hid (Below W.heap.size W (wr.alloc (.cells #[.int .i64 tz, .bool zo, .string zd] 55))) := HBQ.out.alloc HBQ.out.size _
              have HM : Hid (∀ x : Ext (wr.alloc (.cells #[.int .i64 tz, .bool zo, .string zd] 55)), Calls Tryz.prog 141 #[.agg #[.bool al1, .slice a1 t1.length c1], .agg #[.bool al2, .slice a2 t2.length c2]] x.v fun e w'' => e = .returned (.bool r) ∧ ∃ y : Ext (wr.alloc (.cells #[.int .i64 tz, .bool zo, .string zd] 55)), w'' = y.v) := fun x => Ext.callsR hr (meets_any al1 al2 a1 a2 c1 c2 t1 t2 x.v (p3.below (Ext.bel HB2.out x)) (q3.below (Ext.bel HB2.out x)) p4.1 q4.1)
              have X0 : ∀ x : Ext (wr.alloc (.cells #[.int .i64 tz, .bool zo, .string zd] 55)), x.v.cell? ⟨Y, 0, none⟩ = some (.int .i64 ty) := fun x => x.old d0
              have X1 : ∀ x : Ext (wr.alloc (.cells #[.int .i64 tz, .bool zo, .string zd] 55)), x.v.cell? ⟨wr.heap.size, 0, none⟩ = some (.int .i64 tz) := fun x => x.new rfl
              have X2 : ∀ x : Ext (wr.alloc (.cells #[.int .i64 tz, .bool zo, .string zd] 55)), x.v.cell? ⟨gb, ty * 2, none⟩ = some (.bool al1) := fun x => Ext.far HB2.out x p1
              have X3 : ∀ x : Ext (wr.alloc (.cells #[.int .i64 tz, .bool zo, .string zd] 55)), x.v.cell? ⟨gb, ty * 2 + 1, none⟩ = some (.slice a1 t1.length c1) := fun x => Ext.far HB2.out x p2
              have X4 : ∀ x : Ext (wr.alloc (.cells #[.int .i64 tz, .bool zo, .string zd] 55)), x.v.cell? ⟨gb, tz * 2, none⟩ = some (.bool al2) := fun x => Ext.far HB2.out x q1
              have X5 : ∀ x : Ext (wr.alloc (.cells #[.int .i64 tz, .bool zo, .string zd] 55)), x.v.cell? ⟨gb, tz * 2 + 1, none⟩ = some (.slice a2 t2.length c2) := fun x => Ext.far HB2.out x q2
              have hty' : (ty : Int) < s.length := by omega
              have htz' : (tz : Int) < s.length := by omega
              clear kcl hkcl hz he hr p1 p2 p3 p4 q1 q2 q3 q4
              go_wp2_with fail
              (have ne := ext_ne; refine wp_region_ext (by kernel_rfl) (by kernel_rfl) ?_; (repeat (first | go_big_quiet_skip | (go_big_quiet_want; go_big_quiet_op; first | go_big_quiet_on | (apply Exists.intro; refine ⟨fun x => ?_, ?_⟩; (· (exact HM.out x)); go_big_quiet_on)))); refine nil_ext ?_)
              intro w5 hb5
              have HB5 : Hid (Below w.heap.size w w5) := HB2.out.trans (hb5.mono HB2.out.size)
              have HB6 : Hid (Below W.heap.size W w5) := HB3.out.trans (hb5.mono HB3.out.size)
              have z0 := (Ext.mk w5 hb5).new (i := 0) rfl
              have z1 := (Ext.mk w5 hb5).new (i := 1) rfl
              have z2 := (Ext.mk w5 hb5).new (i := 2) rfl
              simp only at z0 z1 z2
              clear X0 X1 X2 X3 X4 X5 hb5 HM
              cases r
              · have HN : Hid (¬ Meets s (kd n i).node.toNat (kd n (i + 1 + j)).node.toNat) := fun q => Bool.noConfusion (HR.out.2 q)
                go_wp2_with fail
                refine (HML.out _ _ _ _).mono ?_
                rintro e w6 ⟨r1, rfl, hr1, hb6⟩
                have HR1 : Hid (r1 = true ↔ ¬ Kd.must ⟨tz, zo, zd⟩) := hr1
                have HB7 : Hid (Below w.heap.size w w6) := HB5.out.trans (hb6.mono HB5.out.size)
                have HB8 : Hid (Below W.heap.size W w6) := HB6.out.trans (hb6.mono HB6.out.size)
                clear hr1 hb6
                cases r1
                · have HMU : Hid ((kd n (i + 1 + j)).must) := by
                    rw [HZ.out]
                    by_cases q : Kd.must ⟨tz, zo, zd⟩
                    · exact q
                    · exact Bool.noConfusion (HR1.out.2 q)
                  have HQ : Hid (SeqAt s n i) := .inr fun k h1 h2 h3 => by
                    by_cases e : k < i + 1 + j
                    · exact (HNO.out k h1 e).2
                    · by_cases e2 : k = i + 1 + j
                      · subst e2; exact HN.out
                      · exact absurd HMU.out (h3 _ (by omega) (by omega))
                  go_wp2
                  go_roundw
                  case rel => exact ⟨i + 1, by omega, by go_num, STEP.out HQ.out, HB7.out⟩
                  case measure => simp [intOf]; omega
                · have HMU : Hid (¬ (kd n (i + 1 + j)).must) := by rw [HZ.out]; exact HR1.out.1 rfl
                  go_wp2
                  go_roundw
                  case rel =>
                    refine ⟨j + 1, by omega, by go_num, fun k h1 h2 => ?_, HB8.out⟩
                    by_cases e : k = i + 1 + j
                    · subst e; exact ⟨HMU.out, HN.out⟩
                    · exact HNO.out k h1 (by omega)
                  case measure => simp [intOf]; omega
              · have HN : Hid (Meets s (kd n i).node.toNat (kd n (i + 1 + j)).node.toNat) := HR.out.1 rfl
                go_wp2
                go_ret
                refine reto_no (fun q => ?_) HB5.out
                rcases q i hlt with q | q
                · exact HNM.out q
                · exact q (i + 1 + j) (by omega) (by omega) (fun j' h1 h2 => (HNO.out j' h1 h2).1) HN.out
            · have hjl' : ((n.kids.length - (i + 1) : Nat) : Int) ≤ (j : Int) := by omega
              have HQ : Hid (SeqAt s n i) := .inr fun k h1 h2 _ => (HNO.out k h1 (by omega)).2
              go_wp2
              go_roundw
              case rel => exact ⟨i + 1, by omega, by go_num, STEP.out HQ.out, HBW.out⟩
              case measure => simp [intOf]; omega
    · have hlt' : (n.kids.length : Int) ≤ i := by omega
      go_wp2
      go_ret
      exact reto_yes (fun i' h1 => HA.out i' (by omega)) HB.out

/-- What isPlain asks. -/
def PlainAt (s : List Nd) (n : Nd) : Prop := n.kind = 10 ∨ n.kind = 13 → Told (Meets s) n
theorem told_choice {C : Nat → Nat → Prop} {n : Nd} (h : n.kind = 13) : Told C n ↔ ∀ i k, i < k → k < n.kids.length → ¬ C (kd n i).node.toNat (kd n k).node.toNat := by
  have hst : ∀ k, ¬ n.stops k := fun k q => by have := q.1; omega
  unfold Told ToldAt
  constructor
  · intro q i k h1 h2
    rcases q i (by omega) with q | q
    · exact absurd q (hst _)
    · exact q k h1 h2 (fun j _ _ => hst _)
  · exact fun q i hi => .inr fun k h1 h2 _ => q i k h1 h2
theorem told_seq {s : List Nd} {n : Nd} (h : n.kind = 10) : Told (Meets s) n ↔ ∀ i, i < n.kids.length → SeqAt s n i := by
  have hst : ∀ k, n.stops k ↔ k.must := fun k => ⟨fun q => q.2, fun q => ⟨h, q⟩⟩
  unfold Told ToldAt SeqAt
  simp only [hst]

set_option maxHeartbeats 1000000 in
set_option maxRecDepth 100000 in
theorem isPlain_any (s : List Nd) (n : Nd) (ka : Option Addr) (kc gb : Nat) (w : World) (hka : KidsIn w ka n.kids) (hkc : n.kids.length ≤ kc) (hk8 : n.kids.length ≤ 8) (hw : ∀ j, j < n.kids.length → ∃ t : Nat, (kd n j).node = t ∧ t < s.length) (hb : AbR w gb s) (hn : s.length ≤ 40) :
    Calls Tryz.prog 65 #[.agg #[.int .i64 n.kind, .int .i64 n.tag, .int .i64 n.mode, .slice ka n.kids.length kc], .slice (some ⟨gb, 0, none⟩) s.length s.length] w fun e w' => RetO (PlainAt s n) w e w' := by
  by_cases h13 : n.kind = 13
  · have HC : Hid (∀ wq, Below w.heap.size w wq → Calls Tryz.prog 98 #[.slice ka n.kids.length kc, .slice (some ⟨gb, 0, none⟩) s.length s.length] wq fun e w' => RetO (∀ i k, i < k → k < n.kids.length → ¬ Meets s (kd n i).node.toNat (kd n k).node.toNat) wq e w') := fun wq q => choiceIsPlain_any s n ka kc gb wq (hka.below q) hkc hk8 hw (hb.below q) hn
    have e13 : (n.kind == 13) = true := by simp [h13]
    have HX : Hid (PlainAt s n ↔ ∀ i k, i < k → k < n.kids.length → ¬ Meets s (kd n i).node.toNat (kd n k).node.toNat) := (show PlainAt s n ↔ Told (Meets s) n from ⟨fun q => q (.inr h13), fun q _ => q⟩).trans (told_choice h13)
    clear h13 hka hw hb
    go_enter Tryz.func65, Tryz.ntmps65
    go_wp2_with fail
    refine (HC.out _ ((Below.refl _ _).alloc (Nat.le_refl _) _)).mono ?_
    rintro e w1 ⟨r, rfl, hr, hb1⟩
    have HR : Hid (r = true ↔ PlainAt s n) := hr.trans HX.out.symm
    have HB1 : Hid (Below w.heap.size w w1) := below_alloc hb1
    clear hr hb1
    go_wp2
    go_ret
    exact reto_iff HR.out HB1.out
  · have e13 : (n.kind == 13) = false := by simp [h13]
    by_cases h10 : n.kind = 10
    · have HC : Hid (∀ wq, Below w.heap.size w wq → Calls Tryz.prog 99 #[.slice ka n.kids.length kc, .slice (some ⟨gb, 0, none⟩) s.length s.length] wq fun e w' => RetO (∀ i, i < n.kids.length → SeqAt s n i) wq e w') := fun wq q => seqIsPlain_any s n ka kc gb wq (hka.below q) hkc hk8 hw (hb.below q) hn
      have e10 : (n.kind == 10) = true := by simp [h10]
      have HX : Hid (PlainAt s n ↔ ∀ i, i < n.kids.length → SeqAt s n i) := (show PlainAt s n ↔ Told (Meets s) n from ⟨fun q => q (.inl h10), fun q _ => q⟩).trans (told_seq h10)
      clear h13 h10 hka hw hb
      go_enter Tryz.func65, Tryz.ntmps65
      go_wp2_with fail
      refine (HC.out _ ((Below.refl _ _).alloc (Nat.le_refl _) _)).mono ?_
      rintro e w1 ⟨r, rfl, hr, hb1⟩
      have HR : Hid (r = true ↔ PlainAt s n) := hr.trans HX.out.symm
      have HB1 : Hid (Below w.heap.size w w1) := below_alloc hb1
      clear hr hb1
      go_wp2
      go_ret
      exact reto_iff HR.out HB1.out
    · have e10 : (n.kind == 10) = false := by simp [h10]
      have HX : Hid (PlainAt s n) := fun q => by omega
      clear h13 h10 hka hw hb
      go_enter Tryz.func65, Tryz.ntmps65
      go_wp2
      go_ret
      exact reto_yes HX.out ((Below.refl _ _).alloc (Nat.le_refl _) _)
end Go.Proofs.YtkkicodfpekbgaaGreatDoor

/-! hallmarklaw.alike: of two schemas that are the same, wherever they lie, it answers true. -/
namespace Go.Proofs.YtkkicodfpekbgaaGreatDoor
set_option linter.unusedSimpArgs false
set_option linter.unusedVariables false
open Go.RowKit
set_option maxHeartbeats 2000000 in
set_option maxRecDepth 100000 in
theorem alike_any (s : List Nd) (a1 a2 : Option Addr) (c1 c2 : Nat) (w : World) (h1 : Sch w a1 s) (h2 : Sch w a2 s) (hn : s.length ≤ 140737488351232) :
    Calls Tryz.prog 16 #[.slice a1 s.length c1, .slice a2 s.length c2] w fun e w' => RetO True w e w' := by
  have H1 : Hid (Sch w a1 s) := h1
  have H2 : Hid (Sch w a2 s) := h2
  clear h1 h2
  go_enter Tryz.func16, Tryz.ntmps16
  go_wp2
  go_loopw [5] (fun i wr => ∃ k : Nat, k ≤ s.length ∧ i = .int .i64 k ∧ ∃ q, wr = w.drewN q) (fun i _ => s.length - (intOf i).toNat)
  case atStart => exact ⟨0, Nat.zero_le _, rfl, 0, rfl⟩
  case round =>
    obtain ⟨k, hk, rfl, q, rfl⟩ := hrel
    by_cases hlt : k < s.length
    · obtain ⟨b1, o1, ka1, kc1, e1, n1, m1, M1, k1⟩ := H1.out k hlt
      obtain ⟨b2, o2, ka2, kc2, e2, n2, m2, M2, k2⟩ := H2.out k hlt
      subst e1 e2
      have hlt' : (k : Int) < s.length := by omega
      have hlt'' : decide ((k : Int) < s.length) = true := by simpa using hlt
      obtain ⟨x1, x2, x3, x4⟩ := n1
      obtain ⟨y1, y2, y3, y4⟩ := n2
      have K1 : Hid (KidsIn w ka1 (nd s k).kids) := k1
      have K2 : Hid (KidsIn w ka2 (nd s k).kids) := k2
      clear k1 k2
      go_wp2
      go_quiet (fail)
      go_wp2
      go_loopw [6] (fun i wr => ∃ m : Nat, m ≤ (nd s k).kids.length ∧ i = .int .i64 m ∧ ∃ q, wr = w.drewN q) (fun i _ => (nd s k).kids.length - (intOf i).toNat)
      case atStart => exact ⟨0, Nat.zero_le _, rfl, q + nq, by rw [World.drewN_drewN]⟩
      case round =>
        obtain ⟨m, hm, rfl, q', rfl⟩ := hrel
        have hml : (nd s k).kids.length ≤ 9223372036854775807 := by unfold maxLen at M1; omega
        by_cases hl2 : m < (nd s k).kids.length
        · obtain ⟨d1, p1, f1, r1⟩ := K1.out m hl2
          obtain ⟨d2, p2, f2, r2⟩ := K2.out m hl2
          subst f1 f2
          obtain ⟨i1, i2, i3⟩ := r1
          obtain ⟨j1, j2, j3⟩ := r2
          generalize (nd s k).kids.getD m kd0 = kd at i1 i2 i3 j1 j2 j3
          have hl2' : (m : Int) < (nd s k).kids.length := by omega
          go_wp2
          go_quiet (fail)
          go_wp2
          go_roundw
          case rel => exact ⟨m + 1, by omega, by go_num, _, rfl⟩
          case measure => simp [intOf]; omega
        · have hl2' : ((nd s k).kids.length : Int) ≤ m := by omega
          go_wp2
          go_roundw
          case rel => exact ⟨k + 1, by omega, by go_num, _, rfl⟩
          case measure => simp [intOf]; omega
    · have hlt' : (s.length : Int) ≤ k := by omega
      go_wp2
      go_ret
      exact reto_yes trivial (below_drewN (Below.refl _ _) _)
end Go.Proofs.YtkkicodfpekbgaaGreatDoor

/-! hallmarklaw.copied: what it holds in memory, and that it is the schema. -/
namespace Go.Proofs.YtkkicodfpekbgaaGreatDoor
set_option linter.unusedSimpArgs false
set_option linter.unusedVariables false
open Go.RowKit

def Kd.cells (k : Kd) : List Value := [.int .i64 k.node, .bool k.opt, .string k.dflt]
def kcells (ks : List Kd) : List Value := ks.flatMap Kd.cells
theorem kcells_append (l : List Kd) (k : Kd) : kcells (l ++ [k]) = kcells l ++ k.cells := by unfold kcells; simp
theorem kcells_len (l : List Kd) : (kcells l).length = l.length * 3 := by
  unfold kcells
  induction l with
  | nil => rfl
  | cons a l ih => simp [Kd.cells, ih]; omega
/-- A node's cells, its kids' slice being a value. -/
def ncell (n : Nd) (K : Value) : List Value := [.int .i64 n.kind, .int .i64 n.tag, .int .i64 n.mode, K]
def ncells (s : List Nd) (K : Nat → Value) (k : Nat) : List Value := (List.range k).flatMap fun i => ncell (nd s i) (K i)
theorem ncells_succ (s : List Nd) (K : Nat → Value) (k : Nat) : ncells s K (k + 1) = ncells s K k ++ ncell (nd s k) (K k) := by
  unfold ncells; rw [List.range_succ]; simp
theorem ncells_congr {s : List Nd} {K K' : Nat → Value} {k : Nat} (h : ∀ i, i < k → K i = K' i) : ncells s K k = ncells s K' k := by
  induction k with
  | zero => rfl
  | succ k ih => rw [ncells_succ, ncells_succ, ih (fun i hi => h i (by omega)), h k (by omega)]
theorem ncells_len (s : List Nd) (K : Nat → Value) (k : Nat) : (ncells s K k).length = k * 4 := by
  induction k with
  | zero => rfl
  | succ k ih => rw [ncells_succ, List.length_append, ih]; simp [ncell]; omega
theorem ncells_get (s : List Nd) (K : Nat → Value) (k i : Nat) (hi : i < k) (j : Nat) (hj : j < 4) : (ncells s K k)[i * 4 + j]? = (ncell (nd s i) (K i))[j]? := by
  induction k with
  | zero => omega
  | succ k ih =>
    rw [ncells_succ]
    by_cases e : i = k
    · subst e
      rw [List.getElem?_append_right (by rw [ncells_len]; omega), ncells_len]
      congr 1; omega
    · rw [List.getElem?_append_left (by rw [ncells_len]; omega)]
      exact ih (by omega)
theorem kcells_get (l : List Kd) (i : Nat) (hi : i < l.length) (j : Nat) (hj : j < 3) : (kcells l)[i * 3 + j]? = (l.getD i kd0).cells[j]? := by
  induction l generalizing i with
  | nil => simp at hi
  | cons a l ih =>
    have e : kcells (a :: l) = a.cells ++ kcells l := by unfold kcells; simp
    rw [e]
    cases i with
    | zero => rw [List.getElem?_append_left (by simp [Kd.cells]; omega)]; simp
    | succ i =>
      rw [List.getElem?_append_right (by simp [Kd.cells]; omega)]
      have : (i + 1) * 3 + j - a.cells.length = i * 3 + j := by simp [Kd.cells]; omega
      rw [this, ih i (by simp at hi; omega)]
      simp
/-- What copied holds in memory. -/
structure CpW (s : List Nd) (w wr : World) (k : Nat) (vout : Value) : Prop where
  bel : Below w.heap.size w wr
  own : ∃ K : Nat → Value, wr.ownsRow w.heap.size 58 4 vout k (ncells s K k) ∧ ∀ i, i < k → wr.ownsRow w.heap.size 55 3 (K i) (nd s i).kids.length (kcells (nd s i).kids)
theorem CpW.below {s : List Nd} {w wr w' : World} {k : Nat} {vout : Value} (h : CpW s w wr k vout) (hb : Below wr.heap.size wr w') : CpW s w w' k vout where
  bel := h.bel.trans (hb.mono h.bel.size)
  own := by obtain ⟨K, h1, h2⟩ := h.own; exact ⟨K, own_below h1 hb, fun i hi => own_below (h2 i hi) hb⟩
theorem ownsRow_base {w : World} {b b' : Nat} {e : TypeId} {size : Nat} {v : Value} {n : Nat} {xs : List Value} (h : w.ownsRow b e size v n xs) (hb : b' ≤ b) : w.ownsRow b' e size v n xs := by
  obtain ⟨h1, h2⟩ := h
  refine ⟨h1, ?_⟩
  rcases h2 with h2 | ⟨g, cap, cur, h3, h4, h5⟩
  · exact .inl h2
  · exact .inr ⟨g, cap, cur, h3, Nat.le_trans hb h4, h5⟩
theorem row_ne3 {w : World} {b1 b2 s1 s2 n1 n2 : Nat} {e1 e2 : TypeId} {v1 v2 : Value} {x1 x2 : List Value} (h1 : w.ownsRow b1 e1 s1 v1 n1 x1) (h2 : w.ownsRow b2 e2 s2 v2 n2 x2) (hT : e2 ≠ e1) : v2.ownBlock = none ∨ v2.ownBlock ≠ v1.ownBlock := by
  rcases h2.2 with ⟨q, _⟩ | ⟨g, cap, cur, q, _, hg, _⟩
  · left; rw [q]; rfl
  · right
    intro e
    have : v1.ownBlock = some g := by rw [← e, q]; rfl
    exact row_ne1 hg h1 hT this
/-- A node more. -/
theorem CpW.put {s : List Nd} {w wr w' : World} {k g cap : Nat} {vout vk : Value} {o : Obj} {K : Nat → Value} (hb0 : Below w.heap.size w wr) (q1 : wr.ownsRow w.heap.size 58 4 vout k (ncells s K k)) (q2 : ∀ i, i < k → wr.ownsRow w.heap.size 55 3 (K i) (nd s i).kids.length (kcells (nd s i).kids))
    (hk : wr.ownsRow w.heap.size 55 3 vk (nd s k).kids.length (kcells (nd s k).kids))
    (h1 : w'.ownsRow w.heap.size 58 4 (.slice (some ⟨g, 0, none⟩) (k + 1) cap) (k + 1) (ncells s K k ++ ncell (nd s k) vk))
    (h2 : (wr.alloc o).grownBy w' vout.ownBlock) : CpW s w w' (k + 1) (.slice (some ⟨g, 0, none⟩) (k + 1) cap) := by
  have hb : Below w.heap.size w (wr.alloc o) := hb0.alloc hb0.size o
  refine ⟨hb.grown h2 hb.size (fun j hj => (q1.lt j hj).1), fun i => if i = k then vk else K i, ?_, fun i hi => ?_⟩
  · rw [ncells_succ, if_pos rfl, ncells_congr (K' := K) (fun i hi => if_neg (by omega))]
    exact h1
  · show w'.ownsRow _ _ _ (if i = k then vk else K i) _ _
    by_cases e : i = k
    · subst e; rw [if_pos rfl]; exact (hk.alloc o).kept h2 (row_ne3 q1 hk (by decide))
    · rw [if_neg e]; exact ((q2 i (by omega)).alloc o).kept h2 (row_ne3 q1 (q2 i (by omega)) (by decide))
theorem own_form2 {w : World} {base : Nat} {e : TypeId} {size : Nat} {v : Value} {n : Nat} {xs : List Value} (h : w.ownsRow base e size v n xs) : ∃ a cap, v = .slice a n cap ∧ (0 < n → ∃ g, a = some ⟨g, 0, none⟩) := by
  rcases h.2 with ⟨hv, hn⟩ | ⟨g, cap, cur, hv, _⟩
  · subst hn; exact ⟨none, 0, hv, fun h => absurd h (Nat.lt_irrefl _)⟩
  · exact ⟨_, cap, hv, fun _ => ⟨g, rfl⟩⟩
theorem add0 (g j : Nat) : (⟨g, 0, none⟩ : Addr).add j = ⟨g, j, none⟩ := by unfold Addr.add; split <;> simp_all
/-- The copy is the schema. -/
theorem CpW.sch {s : List Nd} {w wr : World} {vout : Value} (h : CpW s w wr s.length vout) : ∃ a c, vout = .slice a s.length c ∧ Sch wr a s := by
  obtain ⟨K, q1, q2⟩ := h.own
  obtain ⟨a, c, rfl, ha⟩ := own_form2 q1
  refine ⟨a, c, rfl, fun i hi => ?_⟩
  obtain ⟨g, rfl⟩ := ha (by omega)
  have cell : ∀ j, j < 4 → ∀ u, (ncell (nd s i) (K i))[j]? = some u → wr.cell? ⟨g, i * 4 + j, none⟩ = some u := fun j hj u hu => by
    have := q1.cells (g := g) rfl (i * 4 + j) u (by rw [ncells_get s K s.length i hi j hj]; exact hu)
    rwa [add0] at this
  obtain ⟨ka, kc, hK, hka⟩ := own_form2 (q2 i hi)
  have hq := q2 i hi
  rw [hK] at hq cell
  have hcap : (nd s i).kids.length ≤ kc ∧ kc ≤ maxLen := by
    rcases hq.2 with ⟨q, e⟩ | ⟨g', cap, cur, q, _, _, q3, q4, _⟩
    · injection q with _ e1 e2; subst e2; rw [e]; exact ⟨Nat.le_refl _, Nat.zero_le _⟩
    · injection q with _ _ e2; subst e2; exact ⟨q3, q4⟩
  refine ⟨g, 0, ka, kc, rfl, ⟨?_, ?_, ?_, ?_⟩, hcap.1, hcap.2, fun j hj => ?_⟩
  · simpa using cell 0 (by omega) _ rfl
  · simpa using cell 1 (by omega) _ rfl
  · simpa using cell 2 (by omega) _ rfl
  · simpa using cell 3 (by omega) _ rfl
  · obtain ⟨g', rfl⟩ := hka (by omega)
    have kcell : ∀ p, p < 3 → ∀ u, ((nd s i).kids.getD j kd0).cells[p]? = some u → wr.cell? ⟨g', j * 3 + p, none⟩ = some u := fun p hp u hu => by
      have := hq.cells (g := g') rfl (j * 3 + p) u (by rw [kcells_get _ j hj p hp]; exact hu)
      rwa [add0] at this
    exact ⟨g', 0, rfl, by simpa using kcell 0 (by omega) _ rfl, by simpa using kcell 1 (by omega) _ rfl, by simpa using kcell 2 (by omega) _ rfl⟩
end Go.Proofs.YtkkicodfpekbgaaGreatDoor

/-! hallmarklaw.copied: a schema like another, with lists of its own. -/
namespace Go.Proofs.YtkkicodfpekbgaaGreatDoor
set_option linter.unusedSimpArgs false
set_option linter.unusedVariables false
open Go.RowKit

def Tryz.zeroNode : Value := .agg #[.int .i64 0, .int .i64 0, .int .i64 0, .slice none 0 0]
theorem Tryz.infoNode : (Tryz.prog.info? 58).map (fun i => (i.zero, i.size, i.bytes)) = some (some Tryz.zeroNode, 4, 48) := by kernel_rfl
def Tryz.zeroKid : Value := .agg #[.int .i64 0, .bool false, .string ⟨#[]⟩]
theorem Tryz.infoKid : (Tryz.prog.info? 55).map (fun i => (i.zero, i.size, i.bytes)) = some (some Tryz.zeroKid, 3, 32) := by kernel_rfl

set_option maxHeartbeats 4000000 in
set_option maxRecDepth 100000 in
theorem copied_any (s : List Nd) (a : Option Addr) (c : Nat) (w : World) (hs : Sch w a s) (hn : s.length * 48 ≤ 140737488351232) (hkn : ∀ i, i < s.length → (nd s i).kids.length * 32 ≤ 140737488351232) :
    Calls Tryz.prog 13 #[.slice a s.length c] w fun e w' => ∃ vout, e = .returned vout ∧ CpW s w w' s.length vout := by
  have HS : Hid (Sch w a s) := hs
  have HKN : Hid (∀ i, i < s.length → (nd s i).kids.length * 32 ≤ 140737488351232) := hkn
  clear hs hkn
  obtain ⟨iN, hiN, hzN0, hzN1, hzN2⟩ := info_parts Tryz.infoNode
  obtain ⟨iK, hiK, hzK0, hzK1, hzK2⟩ := info_parts Tryz.infoKid
  go_enter Tryz.func13, Tryz.ntmps13
  go_wp2
  go_loopw [3, 4] (fun vout vi wr => ∃ k : Nat, k ≤ s.length ∧ vi = .int .i64 k ∧ CpW s w wr k vout) (fun _ vi _ => s.length - (intOf vi).toNat)
  case atStart => exact ⟨0, Nat.zero_le _, rfl, Below.refl _ _, fun _ => .slice none 0 0, World.ownsRow_nil _ _ _ _, fun i hi => absurd hi (Nat.not_lt_zero _)⟩
  case round =>
    obtain ⟨k, hk, rfl, hC⟩ := hrel
    have HC : Hid (CpW s w wr k u3) := hC
    by_cases hlt : k < s.length
    · have hlt' : (k : Int) < s.length := by omega
      have hkb := HKN.out k hlt
      obtain ⟨b, o, ka, kc, rfl, nc, kl, km, ks⟩ := HS.out k hlt
      obtain ⟨n1, n2, n3, n4⟩ := nc.below hC.bel
      have KS : Hid (KidsIn w ka (nd s k).kids) := ks
      have HN4 : Hid (w.cell? ⟨b, o + k * 4 + 3, none⟩ = some (.slice ka (nd s k).kids.length kc)) := nc.kids
      clear hC nc ks
      go_wp2
      obtain ⟨w0, hw0⟩ : ∃ w0, w0 = wr := ⟨_, rfl⟩
      subst hw0
      obtain ⟨Bn, hBn⟩ : ∃ Bn, Bn = w0.heap.size := ⟨_, rfl⟩
      have HBN : Hid (Bn = w0.heap.size) := hBn
      rw [← hBn]
      clear hBn
      go_loopw [6] (fun vj wx => ∃ (j : Nat) (vk : Value), vj = .int .i64 j ∧ j ≤ (nd s k).kids.length ∧ Hid (wx.heap[Bn]? = some (.cells #[.int .i64 (nd s k).kind, .int .i64 (nd s k).tag, .int .i64 (nd s k).mode, vk] 58 (0, 0))) ∧ Hid (wx.ownsRow (Bn + 1) 55 3 vk j (kcells ((nd s k).kids.take j))) ∧ Hid (Below Bn w0 wx)) (fun vj _ => (nd s k).kids.length - (intOf vj).toNat)
      case atStart =>
        obtain rfl := HBN.out
        exact ⟨0, _, rfl, Nat.zero_le _, heap_alloc_new w0 _, World.ownsRow_nil _ _ _ _, (Below.refl _ _).alloc (Nat.le_refl _) _⟩
      case round =>
        obtain ⟨j, vk, rfl, hj, HB, HO, HBL⟩ := hrel
        obtain ⟨va, vc, rfl, hva⟩ := own_form2 HO.out
        have HBW : Hid (Below w.heap.size w wr) := HC.out.bel.trans (by have := HBL.out; rw [HBN.out] at this; exact this.mono HC.out.bel.size)
        have g3 : wr.cell? ⟨Bn, 3, none⟩ = some (.slice va j vc) := by simp [World.cell?, HB.out]
        have f3 : wr.frozen? ⟨Bn, 3, none⟩ = false := by simp [World.frozen?, HB.out]
        have g0 : wr.cell? ⟨Bn, 0, none⟩ = some (.int .i64 (nd s k).kind) := by simp [World.cell?, HB.out]
        have g1 : wr.cell? ⟨Bn, 1, none⟩ = some (.int .i64 (nd s k).tag) := by simp [World.cell?, HB.out]
        have g2 : wr.cell? ⟨Bn, 2, none⟩ = some (.int .i64 (nd s k).mode) := by simp [World.cell?, HB.out]
        have hBl := lt_of_cell g3
        simp only at hBl
        have e4 : wr.cell? ⟨b, o + k * 4 + 3, none⟩ = some (.slice ka (nd s k).kids.length kc) := (HBW.out.cell (lt_of_cell HN4.out)).trans HN4.out
        have hkm : (nd s k).kids.length ≤ 9223372036854775807 := by omega
        have hszB : Bn ≤ wr.heap.size := by omega
        clear hva
        by_cases hjl : j < (nd s k).kids.length
        · obtain ⟨kb, ko, rfl, kcl⟩ := KS.out j hjl
          obtain ⟨y, hy⟩ : ∃ y, (nd s k).kids.getD j kd0 = y := ⟨_, rfl⟩
          have HY : Hid ((nd s k).kids.take (j + 1) = (nd s k).kids.take j ++ [y]) := by show (nd s k).kids.take (j + 1) = _; rw [List.take_add_one, List.getElem?_eq_getElem hjl, ← hy]; simp [hjl]
          rw [hy] at kcl
          obtain ⟨k1, k2, k3⟩ := kcl.below HBW.out
          have hjl' : (j : Int) < (nd s k).kids.length := by omega
          have NEB : Hid ((Value.slice va j vc).ownBlock ≠ some Bn) := fun e => by have := (HO.out.lt Bn e).1; omega
          clear kcl hy
          go_wp2_with fail
          have hszB1 : Bn + 1 ≤ (wr.drew.alloc (.cells #[.int .i64 y.node, .bool y.opt, .string y.dflt] 55)).heap.size := by simp; omega
          go_region_law (refine step_append_lies _ rfl (.tmp 29) (.tmp 38) 56 rfl (Bn + 1) 55 iK Tryz.zeroKid 3 32 Tryz.underlying56 hiK hzK0 hzK1 hzK2 rfl (by decide) (.slice va j vc) j (kcells ((nd s k).kids.take j)) (by simp [Act.eval, Act.put]) (HO.out.drew.alloc _) ⟨wr.heap.size, 0, none⟩ 1 1 y.cells (by simp [Act.eval, Act.put]) rfl (World.news_of_block (heap_alloc_new wr.drew _)) (by intro u hu; unfold Kd.cells at hu; simp at hu; rcases hu with rfl | rfl | rfl <;> rfl) (by decide) (by unfold maxLen; omega) (by omega) hszB1 (wr.heap.size + 1) (by simp) ?_; intro g cap w3 h1 h2 h3 h4; have hG3 := keep_other (w := wr.drew) HB.out NEB.out h2; have hB3 := (HBL.out.drew.alloc (by exact hszB) _).grown h2 (Nat.le_trans hszB (by simp)) (fun q hq => by have := (HO.out.lt q hq).1; omega); have d3 : w3.cell? ⟨Bn, 3, none⟩ = some (.slice va j vc) := (by simp [World.cell?, hG3]); have e3 : w3.frozen? ⟨Bn, 3, none⟩ = false := (by simp [World.frozen?, hG3]))
          all_goals
            have HG4 : Hid ((w3.setCell ⟨Bn, 3, none⟩ (.slice (some ⟨g, 0, none⟩) (j + 1) cap)).heap[Bn]? = some (.cells #[.int .i64 (nd s k).kind, .int .i64 (nd s k).tag, .int .i64 (nd s k).mode, .slice (some ⟨g, 0, none⟩) (j + 1) cap] 58 (0, 0))) := heap_setCell_same w3 Bn 3 _ _ _ hG3
            have HO4 : Hid ((w3.setCell ⟨Bn, 3, none⟩ (.slice (some ⟨g, 0, none⟩) (j + 1) cap)).ownsRow (Bn + 1) 55 3 (.slice (some ⟨g, 0, none⟩) (j + 1) cap) (j + 1) (kcells ((nd s k).kids.take (j + 1)))) := by
              show World.ownsRow _ _ _ _ _ _ _
              rw [HY.out, kcells_append]
              exact ownsRow_setCell_other h1 (fun e => by have := (h1.lt Bn e).1; omega) _
            have HB4 : Hid (Below Bn w0 (w3.setCell ⟨Bn, 3, none⟩ (.slice (some ⟨g, 0, none⟩) (j + 1) cap))) := hB3.setCell (p := ⟨Bn, 3, none⟩) (Nat.le_refl _) _
            clear h1 h2 h3 h4 hG3 hB3
            go_wp2
            go_roundw
            case rel => exact ⟨j + 1, _, by go_num, by omega, HG4, HO4, HB4⟩
            case measure => simp [intOf]; omega
        · have hjl' : ((nd s k).kids.length : Int) ≤ j := by omega
          obtain rfl : j = (nd s k).kids.length := by omega
          have hC' : CpW s w wr k u3 := HC.out.below (by have := HBL.out; rw [HBN.out] at this; exact this)
          obtain ⟨K, q1, q2⟩ := hC'.own
          have HQ1 : Hid (wr.ownsRow w.heap.size 58 4 u3 k (ncells s K k)) := q1
          have HQ2 : Hid (∀ i, i < k → wr.ownsRow w.heap.size 55 3 (K i) (nd s i).kids.length (kcells (nd s i).kids)) := q2
          have HQ3 : Hid (wr.ownsRow w.heap.size 55 3 (.slice va (nd s k).kids.length vc) (nd s k).kids.length (kcells (nd s k).kids)) := by
            have := HO.out
            rw [List.take_length] at this
            exact ownsRow_base this (by have := HC.out.bel.size; have := HBN.out; omega)
          have hszW : w.heap.size ≤ wr.heap.size + 1 := by have := HBW.out.size; omega
          clear hC' q1 q2
          go_wp2_with (at_builtin; refine wpList_append_lies _ rfl (.tmp 41) (.tmp 43) 22 rfl w.heap.size 58 iN Tryz.zeroNode 4 48 Tryz.underlying22 hiN hzN0 hzN1 hzN2 rfl (by decide) u3 k (ncells s K k) rfl (HQ1.out.alloc _) ⟨wr.heap.size, 0, none⟩ 1 1 (ncell (nd s k) (.slice va (nd s k).kids.length vc)) rfl rfl (World.news_of_block (heap_alloc_new wr _)) (by intro u hu; unfold ncell at hu; simp at hu; rcases hu with rfl | rfl | rfl | rfl <;> rfl) (by decide) (by unfold maxLen; omega) (by omega) (by simpa using hszW) (wr.heap.size + 1) (by simp) ?_)
          intro g cap w3 h1 h2 h3 h4
          have HC3 : Hid (CpW s w w3 (k + 1) (.slice (some ⟨g, 0, none⟩) (k + 1) cap)) := CpW.put HBW.out HQ1.out HQ2.out HQ3.out h1 h2
          clear h1 h2 h3 h4
          go_wp2
          go_roundw
          case rel => exact ⟨k + 1, by omega, by go_num, HC3.out⟩
          case measure => simp [intOf]; omega
    · have hlt' : (s.length : Int) ≤ k := by omega
      obtain rfl : k = s.length := by omega
      clear hC
      go_wp2
      go_ret
      exact ⟨u3, rfl, HC.out⟩
end Go.Proofs.YtkkicodfpekbgaaGreatDoor

/-! A schema that came in: its nodes and kids as plain data, and how great they may be. -/
namespace Go.Proofs.YtkkicodfpekbgaaGreatDoor
set_option linter.unusedSimpArgs false
set_option linter.unusedVariables false
open Go.RowKit Go.Deep Go.ChangeShapes Go.WideShapes
set_option maxRecDepth 100000

theorem Tryz.cK : Tryz.prog.cellsOf 55 = 3 := by kernel_rfl
theorem Tryz.cN : Tryz.prog.cellsOf 58 = 4 := by kernel_rfl
theorem Tryz.cI : Tryz.prog.cellsOf 3 = 1 := by kernel_rfl
theorem Tryz.cB : Tryz.prog.cellsOf 4 = 1 := by kernel_rfl
theorem Tryz.cS : Tryz.prog.cellsOf 9 = 1 := by kernel_rfl
theorem Tryz.cKs : Tryz.prog.cellsOf 56 = 1 := by kernel_rfl
theorem Tryz.bK : Tryz.prog.bytesOf 55 = 32 := by kernel_rfl
theorem Tryz.bN : Tryz.prog.bytesOf 58 = 48 := by kernel_rfl

theorem mem_weightsAll {H : Type} {P : Program} {e : TypeId} {l : List (DataW H)} {d : DataW H} (hd : d ∈ l) {n : Nat} (hn : n ∈ d.weights P e) : n ∈ DataW.weightsAll P e l := by
  induction l with
  | nil => cases hd
  | cons x r ih =>
    simp only [DataW.weightsAll, List.mem_append]
    rcases List.mem_cons.1 hd with rfl | h
    · exact .inl hn
    · exact .inr (ih h)
theorem plain_add (b o n : Nat) : (⟨b, o, none⟩ : Addr).add n = ⟨b, o + n, none⟩ := by unfold Addr.add; split <;> simp_all
theorem spot_none {w : World} {a : Addr} {v : Value} (h : w.cell? a = some v) : a = ⟨a.block, a.off, none⟩ := by
  obtain ⟨b, o, sp⟩ := a
  cases sp with
  | none => rfl
  | some k =>
    unfold World.cell? at h
    simp only at h
    split at h
    · simp at h
    · cases h
theorem getD_map_range {α : Type} (f : Nat → α) (d : α) {n i : Nat} (h : i < n) : ((List.range n).map f).getD i d = f i := by
  rw [List.getD_eq_getElem?_getD, List.getElem?_eq_getElem (by simpa using h)]
  simp

section
variable {H : Type} {enc : TypeId × Value → H} {w : World} {base : Nat} {sp : Nat → Bool} {held : Bool}
theorem open_kid {fuel : Nat} {cs : List Value} {x : DataW H × List MemPlace} (h : DataW.trod enc Tryz.prog w base sp held fuel 55 cs = some x) :
    ∃ k : Kd, cs = [.int .i64 k.node, .bool k.opt, .string k.dflt] ∧ k.dflt.size ∈ x.1.weights Tryz.prog 55 := by
  obtain ⟨xs, n, _, hx, hl, hlen, hel⟩ := DataW.trod_struct Tryz.underlying55 h
  rw [Tryz.cK] at hl
  match cs, hl, xs, hlen, hx, hel with
  | [c0, c1, c2], _, [x0, x1, x2], _, hx, hel =>
    have k0 := hel 0 _ rfl
    have k1 := hel 1 _ rfl
    have k2 := hel 2 _ rfl
    obtain ⟨y0, e0, _⟩ := DataW.trod_int Tryz.underlying3 k0
    obtain ⟨y1, e1, _⟩ := DataW.trod_bool Tryz.underlying4 k1
    obtain ⟨y2, e2, f2, _⟩ := DataW.trod_string Tryz.underlying9 k2
    simp [Tryz.cI, Tryz.cB, Tryz.cS] at e0 e1 e2
    subst e0 e1 e2
    refine ⟨⟨y0, y1, y2⟩, rfl, ?_⟩
    rw [hx]
    simp only [DataW.weights, Tryz.underlying55]
    refine DataW.weights_mem_each (j := 2) (t := 9) (d := x2.1) rfl rfl _ ?_
    rw [f2]
    simp only [DataW.weights]
    exact List.mem_singleton.2 (Array.length_toList (xs := y2.data)).symm
theorem open_kids {fuel : Nat} {cs : List Value} {x : DataW H × List MemPlace} (h : DataW.trod enc Tryz.prog w base sp held fuel 56 cs = some x) :
    ∃ (ka : Option Addr) (ks : List Kd) (kc : Nat), cs = [.slice ka ks.length kc] ∧ ks.length ≤ kc ∧ kc ≤ maxLen ∧ KidsIn w ka ks ∧
      ∀ N, (∀ n ∈ x.1.weights Tryz.prog 56, n ≤ N) → ks.length * 32 ≤ N ∧ ∀ k ∈ ks, k.dflt.size ≤ N := by
  rcases open_slice Tryz.underlying56 h with ⟨rfl, rfl⟩ | ⟨a, len, cap, m, n, D, Pl, rfl, hb, hl, hm, hmm, rfl, hx⟩
  · exact ⟨none, [], 0, rfl, Nat.le_refl _, Nat.zero_le _, fun j hj => absurd hj (Nat.not_lt_zero _), fun N _ => ⟨by simp, fun k hk => by cases hk⟩⟩
  have hlm : len ≤ m := by rw [hmm]; split <;> omega
  rw [Tryz.cK] at hx
  have each : ∀ i, i < len → ∃ k : Kd, w.cell? (a.add (i * 3)) = some (.int .i64 k.node) ∧ w.cell? (a.add (i * 3 + 1)) = some (.bool k.opt) ∧ w.cell? (a.add (i * 3 + 2)) = some (.string k.dflt) ∧ k.dflt.size ∈ (D i).weights Tryz.prog 55 := by
    intro i hi
    obtain ⟨cs', h1, h2⟩ := hx i (by omega)
    obtain ⟨k, rfl, hk⟩ := open_kid h2
    obtain ⟨_, _, hcell⟩ := World.cells?_some h1
    have e0 := hcell 0 (by omega)
    have e1 := hcell 1 (by omega)
    have e2 := hcell 2 (by omega)
    rw [add_add] at e0 e1 e2
    exact ⟨k, by simpa using e0, by simpa using e1, by simpa using e2, hk⟩
  obtain ⟨K, hK⟩ := @choose_lt Kd ⟨kd0⟩ _ _ each
  have hlen : ((List.range len).map K).length = len := by simp
  refine ⟨some a, (List.range len).map K, cap, by rw [hlen], by rw [hlen]; exact hl, hm, fun j hj => ?_, fun N hN => ?_⟩
  · rw [hlen] at hj
    have h0 := (hK 0 (by omega)).1
    have ea : a = ⟨a.block, a.off, none⟩ := spot_none (w := w) (a := a) (v := .int .i64 (K 0).node) (by simpa [Addr.add] using h0)
    obtain ⟨q0, q1, q2, _⟩ := hK j hj
    rw [ea, plain_add] at q0 q1 q2
    rw [getD_map_range K kd0 hj]
    exact ⟨a.block, a.off, congrArg some ea, q0, by rw [← Nat.add_assoc] at q1; exact q1, by rw [← Nat.add_assoc] at q2; exact q2⟩
  · simp only [DataW.weights, Tryz.underlying56] at hN
    refine ⟨?_, fun k hk => ?_⟩
    · have := hN _ (List.mem_cons_self ..)
      rw [Tryz.bK] at this
      simp at this ⊢
      omega
    · obtain ⟨i, hi, rfl⟩ := List.mem_map.1 hk
      have hi' := List.mem_range.1 hi
      exact hN _ (List.mem_cons_of_mem _ (List.mem_append_left _ (mem_weightsAll (d := D i) (List.mem_map.2 ⟨i, hi, rfl⟩) (hK i hi').2.2.2)))
theorem open_node {fuel : Nat} {cs : List Value} {x : DataW H × List MemPlace} (h : DataW.trod enc Tryz.prog w base sp held fuel 58 cs = some x) :
    ∃ (n : Nd) (ka : Option Addr) (kc : Nat), cs = [.int .i64 n.kind, .int .i64 n.tag, .int .i64 n.mode, .slice ka n.kids.length kc] ∧ n.kids.length ≤ kc ∧ kc ≤ maxLen ∧ KidsIn w ka n.kids ∧
      ∀ N, (∀ m ∈ x.1.weights Tryz.prog 58, m ≤ N) → n.kids.length * 32 ≤ N ∧ ∀ k ∈ n.kids, k.dflt.size ≤ N := by
  obtain ⟨xs, n, _, hx, hl, hlen, hel⟩ := DataW.trod_struct Tryz.underlying58 h
  rw [Tryz.cN] at hl
  match cs, hl, xs, hlen, hx, hel with
  | [c0, c1, c2, c3], _, [x0, x1, x2, x3], _, hx, hel =>
    have k0 := hel 0 _ rfl
    have k1 := hel 1 _ rfl
    have k2 := hel 2 _ rfl
    have k3 := hel 3 _ rfl
    obtain ⟨y0, e0, _⟩ := DataW.trod_int Tryz.underlying3 k0
    obtain ⟨y1, e1, _⟩ := DataW.trod_int Tryz.underlying3 k1
    obtain ⟨y2, e2, _⟩ := DataW.trod_int Tryz.underlying3 k2
    obtain ⟨ka, ks, kc, e3, g1, g2, g3, g4⟩ := open_kids k3
    simp [Tryz.cI, Tryz.cKs] at e0 e1 e2 e3
    subst e0 e1 e2 e3
    refine ⟨⟨y0, y1, y2, ks⟩, ka, kc, rfl, g1, g2, g3, fun N hN => g4 N fun m hm => hN m ?_⟩
    rw [hx]
    simp only [DataW.weights, Tryz.underlying58]
    exact DataW.weights_mem_each (j := 3) (t := 56) (d := x3.1) rfl rfl _ hm
/-- How great a schema may be. -/
structure Fits (s : List Nd) : Prop where
  len : s.length * 48 ≤ 140737488351232
  kids : ∀ i, i < s.length → (nd s i).kids.length * 32 ≤ 140737488351232
  ok : SchOk s
theorem open_schema {fuel : Nat} {cs : List Value} {x : DataW H × List MemPlace} (h : DataW.trod enc Tryz.prog w base sp held fuel 22 cs = some x) :
    ∃ (a : Option Addr) (s : List Nd) (c : Nat), cs = [.slice a s.length c] ∧ s.length ≤ c ∧ c ≤ maxLen ∧ Sch w a s ∧ ((∀ n ∈ x.1.weights Tryz.prog 22, n ≤ 140737488351232) → Fits s) := by
  rcases open_slice Tryz.underlying22 h with ⟨rfl, rfl⟩ | ⟨a, len, cap, m, n, D, Pl, rfl, hb, hl, hm, hmm, rfl, hx⟩
  · exact ⟨none, [], 0, rfl, Nat.le_refl _, Nat.zero_le _, fun j hj => absurd hj (Nat.not_lt_zero _), fun _ => ⟨by simp, fun i hi => absurd hi (Nat.not_lt_zero _), fun i hi => absurd hi (Nat.not_lt_zero _)⟩⟩
  have hlm : len ≤ m := by rw [hmm]; split <;> omega
  rw [Tryz.cN] at hx
  have each : ∀ i, i < len → ∃ q : Nd × Option Addr × Nat, w.cell? (a.add (i * 4)) = some (.int .i64 q.1.kind) ∧ w.cell? (a.add (i * 4 + 1)) = some (.int .i64 q.1.tag) ∧ w.cell? (a.add (i * 4 + 2)) = some (.int .i64 q.1.mode) ∧
      w.cell? (a.add (i * 4 + 3)) = some (.slice q.2.1 q.1.kids.length q.2.2) ∧ q.1.kids.length ≤ q.2.2 ∧ q.2.2 ≤ maxLen ∧ KidsIn w q.2.1 q.1.kids ∧
      ∀ N, (∀ m ∈ (D i).weights Tryz.prog 58, m ≤ N) → q.1.kids.length * 32 ≤ N ∧ ∀ k ∈ q.1.kids, k.dflt.size ≤ N := by
    intro i hi
    obtain ⟨cs', h1, h2⟩ := hx i (by omega)
    obtain ⟨k, ka, kc, rfl, g1, g2, g3, g4⟩ := open_node h2
    obtain ⟨_, _, hcell⟩ := World.cells?_some h1
    have e0 := hcell 0 (by omega)
    have e1 := hcell 1 (by omega)
    have e2 := hcell 2 (by omega)
    have e3 := hcell 3 (by omega)
    rw [add_add] at e0 e1 e2 e3
    exact ⟨(k, ka, kc), by simpa using e0, by simpa using e1, by simpa using e2, by simpa using e3, g1, g2, g3, g4⟩
  obtain ⟨K, hK⟩ := @choose_lt (Nd × Option Addr × Nat) ⟨(nd0, none, 0)⟩ _ _ each
  have hlen : ((List.range len).map fun i => (K i).1).length = len := by simp
  have hnd : ∀ i, i < len → nd ((List.range len).map fun i => (K i).1) i = (K i).1 := fun i hi => getD_map_range (fun i => (K i).1) nd0 hi
  refine ⟨some a, (List.range len).map fun i => (K i).1, cap, by rw [hlen], by rw [hlen]; exact hl, hm, fun j hj => ?_, fun hN => ?_⟩
  · rw [hlen] at hj
    have h0 := (hK 0 (by omega)).1
    have ea : a = ⟨a.block, a.off, none⟩ := spot_none (w := w) (a := a) (v := .int .i64 (K 0).1.kind) (by simpa [Addr.add] using h0)
    obtain ⟨q0, q1, q2, q3, g1, g2, g3, _⟩ := hK j hj
    rw [ea, plain_add] at q0 q1 q2 q3
    rw [hnd j hj]
    exact ⟨a.block, a.off, (K j).2.1, (K j).2.2, congrArg some ea, ⟨q0, by rw [← Nat.add_assoc] at q1; exact q1, by rw [← Nat.add_assoc] at q2; exact q2, by rw [← Nat.add_assoc] at q3; exact q3⟩, g1, g2, g3⟩
  · simp only [DataW.weights, Tryz.underlying22] at hN
    have each2 : ∀ i, i < len → (K i).1.kids.length * 32 ≤ 140737488351232 ∧ ∀ k ∈ (K i).1.kids, k.dflt.size ≤ 140737488351232 := fun i hi =>
      (hK i hi).2.2.2.2.2.2.2 _ fun m hm => hN m (List.mem_cons_of_mem _ (List.mem_append_left _ (mem_weightsAll (d := D i) (List.mem_map.2 ⟨i, List.mem_range.2 hi, rfl⟩) hm)))
    refine ⟨?_, fun i hi => ?_, fun i hi => ?_⟩
    · have := hN _ (List.mem_cons_self ..)
      rw [Tryz.bN] at this
      simp at this ⊢
      omega
    · rw [hlen] at hi; rw [hnd i hi]; exact (each2 i hi).1
    · rw [hlen] at hi; rw [hnd i hi]; exact (each2 i hi).2
end
end Go.Proofs.YtkkicodfpekbgaaGreatDoor
