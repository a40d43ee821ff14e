/-
  schemas.seqIsPlain, schemas.isPlain: what they answer.
-/
import Derived.Test.YtjceeljaljdmoaaGreatDoorPo
import Derived.Test.YtjceeljaljdmoaaGreatDoorPa
import Derived.WalkMore
namespace Go.Proofs.YtjceeljaljdmoaaGreatDoor
open Go.RowKit

/-- A kid that may lack is told from those behind it, up to the first that may not. -/
def SeqAt (s : List Nd) (n : Nd) (i : Nat) : Prop := (kd n i).must ∨ ∀ k, i < k → k < n.kids.length → (∀ j, i < j → j < k → ¬ (kd n j).must) → ¬ Meets s (kd n i).node.toNat (kd n k).node.toNat

set_option maxHeartbeats 2000000 in
set_option maxRecDepth 100000 in
theorem seqIsPlain_any (s : List Nd) (n : Nd) (ka : Option Addr) (kc gb : Nat) (w : World) (hka : KidsIn w ka n.kids) (hkc : n.kids.length ≤ kc) (hk8 : n.kids.length ≤ 8) (hw : ∀ j, j < n.kids.length → ∃ t : Nat, (kd n j).node = t ∧ t < s.length) (hb : AbR w gb s) (hn : s.length ≤ 40) :
    Calls Tryz.prog 70 #[.slice ka n.kids.length kc, .slice (some ⟨gb, 0, none⟩) s.length s.length] w fun e w' => RetO (∀ i, i < n.kids.length → SeqAt s n i) w e w' := by
  have HKI : Hid (KidsIn w ka n.kids) := hka
  have HKR : Hid (∀ j, j < n.kids.length → ∃ t : Nat, (kd n j).node = t ∧ t < s.length) := hw
  have HAB : Hid (AbR w gb s) := hb
  have HML : Hid (∀ (a : Int) (b : Bool) (c : ByteArray) (wq : World), Calls Tryz.prog 65 #[.agg #[.int .i64 a, .bool b, .string c]] wq fun e w' => RetO (¬ Kd.must ⟨a, b, c⟩) wq e w') := fun a b c wq => mayLack_any ⟨a, b, c⟩ wq
  clear hka hw hb
  go_enter Tryz.func70, Tryz.ntmps70
  go_wp2
  go_step3
  go_wp2
  go_step3
  go_wp2
  go_loopw [11] (fun vi wr => ∃ i : Nat, i ≤ n.kids.length ∧ vi = .int .i64 i ∧ (∀ i', i' < i → SeqAt s n i') ∧ Below w.heap.size w wr) (fun vi _ => n.kids.length - (intOf vi).toNat)
  case atStart => exact ⟨0, Nat.zero_le _, rfl, fun _ h => absurd h (Nat.not_lt_zero _), Below.refl _ _⟩
  case round =>
    obtain ⟨i, hi, rfl, hall, hbr⟩ := hrel
    have HA : Hid (∀ i', i' < i → SeqAt s n i') := hall
    have HB : Hid (Below w.heap.size w wr) := hbr
    have STEP : Hid (SeqAt s n i → ∀ i', i' < i + 1 → SeqAt s n i') := fun q i' h => by
      by_cases e : i' = i
      · subst e; exact q
      · exact hall i' (by omega)
    clear hall hbr
    by_cases hlt : i < n.kids.length
    · have hlt' : (i : Int) < n.kids.length := by omega
      obtain ⟨kb, ko, rfl, kcl⟩ := HKI.out i hlt
      obtain ⟨ty, yo, yd, hy, hty⟩ := kid_at HKR.out hlt
      have HY : Hid (kd n i = ⟨ty, yo, yd⟩) := hy
      have hkcl : KidCells w kb (ko + i * 3) ⟨ty, yo, yd⟩ := by rw [← hy]; exact kcl
      obtain ⟨k1, k2, k3⟩ := hkcl.below HB.out
      simp only at k1 k2 k3
      have HBA : Hid (Below w.heap.size w (wr.alloc (.cells #[.int .i64 ty, .bool yo, .string yd] 55))) := HB.out.alloc HB.out.size _
      clear hy kcl hkcl
      go_wp2_with fail
      refine (HML.out _ _ _ _).mono ?_
      rintro e W ⟨r0, rfl, hr0, hb0⟩
      have HR0 : Hid (r0 = true ↔ ¬ Kd.must ⟨ty, yo, yd⟩) := hr0
      have HBW0 : Hid (Below w.heap.size w W) := HBA.out.trans (hb0.mono HBA.out.size)
      have hWb := block_below (heap_alloc_new wr (.cells #[.int .i64 ty, .bool yo, .string yd] 55)) hb0
      obtain ⟨Y, hY⟩ : ∃ Y, Y = wr.heap.size := ⟨_, rfl⟩
      have HY0 : Hid (W.cell? ⟨Y, 0, none⟩ = some (.int .i64 ty)) := by show W.cell? _ = _; rw [hY]; simp [World.cell?, hWb]
      rw [← hY]
      clear hY hWb hb0 hr0 k1 k2 k3
      cases r0
      · have HQ : Hid (SeqAt s n i) := .inl (by
          rw [HY.out]
          by_cases q : Kd.must ⟨ty, yo, yd⟩
          · exact q
          · exact Bool.noConfusion (HR0.out.2 q))
        go_wp2
        go_roundw
        case rel => exact ⟨i + 1, by omega, by go_num, STEP.out HQ.out, HBW0.out⟩
        case measure => simp [intOf]; omega
      · have HNM : Hid (¬ (kd n i).must) := by rw [HY.out]; exact HR0.out.1 rfl
        by_cases hkk : kc = i + 1
        · subst hkk
          have HQ : Hid (SeqAt s n i) := .inr fun k _ _ => by omega
          have hz : ((n.kids.length - (i + 1) : Nat) : Int) ≤ 0 := by omega
          go_wp2
          go_loopw [24] (fun vj wq => vj = .int .i64 0 ∧ wq = W) (fun _ _ => 0)
          case atStart => exact ⟨rfl, rfl⟩
          case round =>
            obtain ⟨rfl, rfl⟩ := hrel
            go_wp2
            go_roundw
            case rel => exact ⟨i + 1, by omega, by go_num, STEP.out HQ.out, HBW0.out⟩
            case measure => simp [intOf]; omega
        · go_wp2
          go_loopw [24] (fun vj wq => ∃ j : Nat, j ≤ n.kids.length - (i + 1) ∧ vj = .int .i64 j ∧ (∀ k, i < k → k < i + 1 + j → ¬ (kd n k).must ∧ ¬ Meets s (kd n i).node.toNat (kd n k).node.toNat) ∧ Below W.heap.size W wq) (fun vj _ => n.kids.length - (intOf vj).toNat)
          case atStart => exact ⟨0, Nat.zero_le _, rfl, fun k h1 h2 => absurd h1 (by omega), Below.refl _ _⟩
          case round =>
            obtain ⟨j, hj, rfl, hno, hbq⟩ := hrel
            have HNO : Hid (∀ k, i < k → k < i + 1 + j → ¬ (kd n k).must ∧ ¬ Meets s (kd n i).node.toNat (kd n k).node.toNat) := hno
            have HBQ : Hid (Below W.heap.size W wr) := hbq
            have HBW : Hid (Below w.heap.size w wr) := HBW0.out.trans (hbq.mono HBW0.out.size)
            have d0 := (hbq.cell (lt_of_cell HY0.out)).trans HY0.out
            clear hno hbq
            by_cases hjl : j < n.kids.length - (i + 1)
            · have hjl' : (j : Int) < ((n.kids.length - (i + 1) : Nat) : Int) := by omega
              obtain ⟨kb', ko', he, kcl⟩ := HKI.out (i + 1 + j) (by omega)
              obtain ⟨rfl, rfl⟩ : kb = kb' ∧ ko = ko' := by injection he with he; injection he with e1 e2; exact ⟨e1, e2⟩
              obtain ⟨tz, zo, zd, hz, htz⟩ := kid_at HKR.out (show i + 1 + j < n.kids.length by omega)
              have HZ : Hid (kd n (i + 1 + j) = ⟨tz, zo, zd⟩) := hz
              have hkcl : KidCells w kb (ko + (i + 1) * 3 + j * 3) ⟨tz, zo, zd⟩ := by rw [← hz]; have e : ko + (i + 1 + j) * 3 = ko + (i + 1) * 3 + j * 3 := (by omega); rw [← e]; exact kcl
              obtain ⟨k1, k2, k3⟩ := hkcl.below HBW.out
              simp only at k1 k2 k3
              obtain ⟨al1, a1, c1, t1, p1, p2, p3, p4⟩ := HAB.out ty hty
              obtain ⟨al2, a2, c2, t2, q1, q2, q3, q4⟩ := HAB.out tz htz
              obtain ⟨r, hr⟩ := bool_of (MeetsT al1 al2 t1 t2)
              have HR : Hid (r = true ↔ Meets s (kd n i).node.toNat (kd n (i + 1 + j)).node.toNat) := by
                rw [HY.out, HZ.out]
                exact hr.trans (meetsT_iff p4 q4)
              have HB2 : Hid (Below w.heap.size w (wr.alloc (.cells #[.int .i64 tz, .bool zo, .string zd] 55))) := HBW.out.alloc HBW.out.size _
              have HB3 : Hid (Below W.heap.size W (wr.alloc (.cells #[.int .i64 tz, .bool zo, .string zd] 55))) := HBQ.out.alloc HBQ.out.size _
              have HM : Hid (∀ x : Ext (wr.alloc (.cells #[.int .i64 tz, .bool zo, .string zd] 55)), Calls Tryz.prog 100 #[.agg #[.bool al1, .slice a1 t1.length c1], .agg #[.bool al2, .slice a2 t2.length c2]] x.v fun e w'' => e = .returned (.bool r) ∧ ∃ y : Ext (wr.alloc (.cells #[.int .i64 tz, .bool zo, .string zd] 55)), w'' = y.v) := fun x => Ext.callsR hr (meets_any al1 al2 a1 a2 c1 c2 t1 t2 x.v (p3.below (Ext.bel HB2.out x)) (q3.below (Ext.bel HB2.out x)) p4.1 q4.1)
              have X0 : ∀ x : Ext (wr.alloc (.cells #[.int .i64 tz, .bool zo, .string zd] 55)), x.v.cell? ⟨Y, 0, none⟩ = some (.int .i64 ty) := fun x => x.old d0
              have X1 : ∀ x : Ext (wr.alloc (.cells #[.int .i64 tz, .bool zo, .string zd] 55)), x.v.cell? ⟨wr.heap.size, 0, none⟩ = some (.int .i64 tz) := fun x => x.new rfl
              have X2 : ∀ x : Ext (wr.alloc (.cells #[.int .i64 tz, .bool zo, .string zd] 55)), x.v.cell? ⟨gb, ty * 2, none⟩ = some (.bool al1) := fun x => Ext.far HB2.out x p1
              have X3 : ∀ x : Ext (wr.alloc (.cells #[.int .i64 tz, .bool zo, .string zd] 55)), x.v.cell? ⟨gb, ty * 2 + 1, none⟩ = some (.slice a1 t1.length c1) := fun x => Ext.far HB2.out x p2
              have X4 : ∀ x : Ext (wr.alloc (.cells #[.int .i64 tz, .bool zo, .string zd] 55)), x.v.cell? ⟨gb, tz * 2, none⟩ = some (.bool al2) := fun x => Ext.far HB2.out x q1
              have X5 : ∀ x : Ext (wr.alloc (.cells #[.int .i64 tz, .bool zo, .string zd] 55)), x.v.cell? ⟨gb, tz * 2 + 1, none⟩ = some (.slice a2 t2.length c2) := fun x => Ext.far HB2.out x q2
              have hty' : (ty : Int) < s.length := by omega
              have htz' : (tz : Int) < s.length := by omega
              clear kcl hkcl hz he hr p1 p2 p3 p4 q1 q2 q3 q4
              go_wp2_with fail
              (have ne := ext_ne; refine wp_region_ext (by kernel_rfl) (by kernel_rfl) ?_; (repeat (first | go_big_quiet_skip | (go_big_quiet_want; go_big_quiet_op; first | go_big_quiet_on | (apply Exists.intro; refine ⟨fun x => ?_, ?_⟩; (· (exact HM.out x)); go_big_quiet_on)))); refine nil_ext ?_)
              intro w5 hb5
              have HB5 : Hid (Below w.heap.size w w5) := HB2.out.trans (hb5.mono HB2.out.size)
              have HB6 : Hid (Below W.heap.size W w5) := HB3.out.trans (hb5.mono HB3.out.size)
              have z0 := (Ext.mk w5 hb5).new (i := 0) rfl
              have z1 := (Ext.mk w5 hb5).new (i := 1) rfl
              have z2 := (Ext.mk w5 hb5).new (i := 2) rfl
              simp only at z0 z1 z2
              clear X0 X1 X2 X3 X4 X5 hb5 HM
              cases r
              · have HN : Hid (¬ Meets s (kd n i).node.toNat (kd n (i + 1 + j)).node.toNat) := fun q => Bool.noConfusion (HR.out.2 q)
                go_wp2_with fail
                refine (HML.out _ _ _ _).mono ?_
                rintro e w6 ⟨r1, rfl, hr1, hb6⟩
                have HR1 : Hid (r1 = true ↔ ¬ Kd.must ⟨tz, zo, zd⟩) := hr1
                have HB7 : Hid (Below w.heap.size w w6) := HB5.out.trans (hb6.mono HB5.out.size)
                have HB8 : Hid (Below W.heap.size W w6) := HB6.out.trans (hb6.mono HB6.out.size)
                clear hr1 hb6
                cases r1
                · have HMU : Hid ((kd n (i + 1 + j)).must) := by
                    rw [HZ.out]
                    by_cases q : Kd.must ⟨tz, zo, zd⟩
                    · exact q
                    · exact Bool.noConfusion (HR1.out.2 q)
                  have HQ : Hid (SeqAt s n i) := .inr fun k h1 h2 h3 => by
                    by_cases e : k < i + 1 + j
                    · exact (HNO.out k h1 e).2
                    · by_cases e2 : k = i + 1 + j
                      · subst e2; exact HN.out
                      · exact absurd HMU.out (h3 _ (by omega) (by omega))
                  go_wp2
                  go_roundw
                  case rel => exact ⟨i + 1, by omega, by go_num, STEP.out HQ.out, HB7.out⟩
                  case measure => simp [intOf]; omega
                · have HMU : Hid (¬ (kd n (i + 1 + j)).must) := by rw [HZ.out]; exact HR1.out.1 rfl
                  go_wp2
                  go_roundw
                  case rel =>
                    refine ⟨j + 1, by omega, by go_num, fun k h1 h2 => ?_, HB8.out⟩
                    by_cases e : k = i + 1 + j
                    · subst e; exact ⟨HMU.out, HN.out⟩
                    · exact HNO.out k h1 (by omega)
                  case measure => simp [intOf]; omega
              · have HN : Hid (Meets s (kd n i).node.toNat (kd n (i + 1 + j)).node.toNat) := HR.out.1 rfl
                go_wp2
                go_ret
                refine reto_no (fun q => ?_) HB5.out
                rcases q i hlt with q | q
                · exact HNM.out q
                · exact q (i + 1 + j) (by omega) (by omega) (fun j' h1 h2 => (HNO.out j' h1 h2).1) HN.out
            · have hjl' : ((n.kids.length - (i + 1) : Nat) : Int) ≤ (j : Int) := by omega
              have HQ : Hid (SeqAt s n i) := .inr fun k h1 h2 _ => (HNO.out k h1 (by omega)).2
              go_wp2
              go_roundw
              case rel => exact ⟨i + 1, by omega, by go_num, STEP.out HQ.out, HBW.out⟩
              case measure => simp [intOf]; omega
    · have hlt' : (n.kids.length : Int) ≤ i := by omega
      go_wp2
      go_ret
      exact reto_yes (fun i' h1 => HA.out i' (by omega)) HB.out

/-- What isPlain asks. -/
def PlainAt (s : List Nd) (n : Nd) : Prop := n.kind = 10 ∨ n.kind = 13 → Told (Meets s) n
theorem told_choice {C : Nat → Nat → Prop} {n : Nd} (h : n.kind = 13) : Told C n ↔ ∀ i k, i < k → k < n.kids.length → ¬ C (kd n i).node.toNat (kd n k).node.toNat := by
  have hst : ∀ k, ¬ n.stops k := fun k q => by have := q.1; omega
  unfold Told ToldAt
  constructor
  · intro q i k h1 h2
    rcases q i (by omega) with q | q
    · exact absurd q (hst _)
    · exact q k h1 h2 (fun j _ _ => hst _)
  · exact fun q i hi => .inr fun k h1 h2 _ => q i k h1 h2
theorem told_seq {s : List Nd} {n : Nd} (h : n.kind = 10) : Told (Meets s) n ↔ ∀ i, i < n.kids.length → SeqAt s n i := by
  have hst : ∀ k, n.stops k ↔ k.must := fun k => ⟨fun q => q.2, fun q => ⟨h, q⟩⟩
  unfold Told ToldAt SeqAt
  simp only [hst]

set_option maxHeartbeats 1000000 in
set_option maxRecDepth 100000 in
theorem isPlain_any (s : List Nd) (n : Nd) (ka : Option Addr) (kc gb : Nat) (w : World) (hka : KidsIn w ka n.kids) (hkc : n.kids.length ≤ kc) (hk8 : n.kids.length ≤ 8) (hw : ∀ j, j < n.kids.length → ∃ t : Nat, (kd n j).node = t ∧ t < s.length) (hb : AbR w gb s) (hn : s.length ≤ 40) :
    Calls Tryz.prog 44 #[.agg #[.int .i64 n.kind, .int .i64 n.tag, .int .i64 n.mode, .slice ka n.kids.length kc], .slice (some ⟨gb, 0, none⟩) s.length s.length] w fun e w' => RetO (PlainAt s n) w e w' := by
  by_cases h13 : n.kind = 13
  · have HC : Hid (∀ wq, Below w.heap.size w wq → Calls Tryz.prog 69 #[.slice ka n.kids.length kc, .slice (some ⟨gb, 0, none⟩) s.length s.length] wq fun e w' => RetO (∀ i k, i < k → k < n.kids.length → ¬ Meets s (kd n i).node.toNat (kd n k).node.toNat) wq e w') := fun wq q => choiceIsPlain_any s n ka kc gb wq (hka.below q) hkc hk8 hw (hb.below q) hn
    have e13 : (n.kind == 13) = true := by simp [h13]
    have HX : Hid (PlainAt s n ↔ ∀ i k, i < k → k < n.kids.length → ¬ Meets s (kd n i).node.toNat (kd n k).node.toNat) := (show PlainAt s n ↔ Told (Meets s) n from ⟨fun q => q (.inr h13), fun q _ => q⟩).trans (told_choice h13)
    clear h13 hka hw hb
    go_enter Tryz.func44, Tryz.ntmps44
    go_wp2_with fail
    refine (HC.out _ ((Below.refl _ _).alloc (Nat.le_refl _) _)).mono ?_
    rintro e w1 ⟨r, rfl, hr, hb1⟩
    have HR : Hid (r = true ↔ PlainAt s n) := hr.trans HX.out.symm
    have HB1 : Hid (Below w.heap.size w w1) := below_alloc hb1
    clear hr hb1
    go_wp2
    go_ret
    exact reto_iff HR.out HB1.out
  · have e13 : (n.kind == 13) = false := by simp [h13]
    by_cases h10 : n.kind = 10
    · have HC : Hid (∀ wq, Below w.heap.size w wq → Calls Tryz.prog 70 #[.slice ka n.kids.length kc, .slice (some ⟨gb, 0, none⟩) s.length s.length] wq fun e w' => RetO (∀ i, i < n.kids.length → SeqAt s n i) wq e w') := fun wq q => seqIsPlain_any s n ka kc gb wq (hka.below q) hkc hk8 hw (hb.below q) hn
      have e10 : (n.kind == 10) = true := by simp [h10]
      have HX : Hid (PlainAt s n ↔ ∀ i, i < n.kids.length → SeqAt s n i) := (show PlainAt s n ↔ Told (Meets s) n from ⟨fun q => q (.inl h10), fun q _ => q⟩).trans (told_seq h10)
      clear h13 h10 hka hw hb
      go_enter Tryz.func44, Tryz.ntmps44
      go_wp2_with fail
      refine (HC.out _ ((Below.refl _ _).alloc (Nat.le_refl _) _)).mono ?_
      rintro e w1 ⟨r, rfl, hr, hb1⟩
      have HR : Hid (r = true ↔ PlainAt s n) := hr.trans HX.out.symm
      have HB1 : Hid (Below w.heap.size w w1) := below_alloc hb1
      clear hr hb1
      go_wp2
      go_ret
      exact reto_iff HR.out HB1.out
    · have e10 : (n.kind == 10) = false := by simp [h10]
      have HX : Hid (PlainAt s n) := fun q => by omega
      clear h13 h10 hka hw hb
      go_enter Tryz.func44, Tryz.ntmps44
      go_wp2
      go_ret
      exact reto_yes HX.out ((Below.refl _ _).alloc (Nat.le_refl _) _)
end Go.Proofs.YtjceeljaljdmoaaGreatDoor
