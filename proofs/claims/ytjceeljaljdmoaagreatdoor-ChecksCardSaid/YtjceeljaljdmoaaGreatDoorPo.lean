/-
  schemas.choiceIsPlain: what it answers.
-/
import Derived.Test.YtjceeljaljdmoaaGreatDoorPm
import Derived.Test.YtjceeljaljdmoaaGreatDoorAw
namespace Go.Proofs.YtjceeljaljdmoaaGreatDoor
open Go.RowKit

/-- A kid of a schema, its node as a place. -/
theorem kid_at {n : Nd} {m i : Nat} (hw : ∀ j, j < n.kids.length → ∃ t : Nat, (kd n j).node = t ∧ t < m) (hi : i < n.kids.length) : ∃ (t : Nat) (o : Bool) (d : ByteArray), kd n i = ⟨t, o, d⟩ ∧ t < m := by
  obtain ⟨t, h1, h2⟩ := hw i hi
  refine ⟨t, (kd n i).opt, (kd n i).dflt, ?_, h2⟩
  rw [← h1]

set_option maxHeartbeats 2000000 in
set_option maxRecDepth 100000 in
theorem choiceIsPlain_any (s : List Nd) (n : Nd) (ka : Option Addr) (kc gb : Nat) (w : World) (hka : KidsIn w ka n.kids) (hkc : n.kids.length ≤ kc) (hk8 : n.kids.length ≤ 8) (hw : ∀ j, j < n.kids.length → ∃ t : Nat, (kd n j).node = t ∧ t < s.length) (hb : AbR w gb s) (hn : s.length ≤ 40) :
    Calls Tryz.prog 69 #[.slice ka n.kids.length kc, .slice (some ⟨gb, 0, none⟩) s.length s.length] w fun e w' => RetO (∀ i k, i < k → k < n.kids.length → ¬ Meets s (kd n i).node.toNat (kd n k).node.toNat) w e w' := by
  have HKI : Hid (KidsIn w ka n.kids) := hka
  have HKR : Hid (∀ j, j < n.kids.length → ∃ t : Nat, (kd n j).node = t ∧ t < s.length) := hw
  have HAB : Hid (AbR w gb s) := hb
  clear hka hw hb
  go_enter Tryz.func69, Tryz.ntmps69
  go_wp2
  go_loopw [11] (fun vi wr => ∃ i : Nat, i ≤ n.kids.length ∧ vi = .int .i64 i ∧ (∀ i', i' < i → ∀ k, i' < k → k < n.kids.length → ¬ Meets s (kd n i').node.toNat (kd n k).node.toNat) ∧ Below w.heap.size w wr) (fun vi _ => n.kids.length - (intOf vi).toNat)
  case atStart => exact ⟨0, Nat.zero_le _, rfl, fun _ h => absurd h (Nat.not_lt_zero _), Below.refl _ _⟩
  case round =>
    obtain ⟨i, hi, rfl, hall, hbr⟩ := hrel
    have HA : Hid (∀ i', i' < i → ∀ k, i' < k → k < n.kids.length → ¬ Meets s (kd n i').node.toNat (kd n k).node.toNat) := hall
    have HB : Hid (Below w.heap.size w wr) := hbr
    clear hall hbr
    by_cases hlt : i < n.kids.length
    · have hlt' : (i : Int) < n.kids.length := by omega
      obtain ⟨kb, ko, rfl, kcl⟩ := HKI.out i hlt
      obtain ⟨ty, yo, yd, hy, hty⟩ := kid_at HKR.out hlt
      have HY : Hid (kd n i = ⟨ty, yo, yd⟩) := hy
      have hkcl : KidCells w kb (ko + i * 3) ⟨ty, yo, yd⟩ := by rw [← hy]; exact kcl
      obtain ⟨k1, k2, k3⟩ := hkcl.below HB.out
      simp only at k1 k2 k3
      have HBA : Hid (Below w.heap.size w (wr.alloc (.cells #[.int .i64 ty, .bool yo, .string yd] 55))) := HB.out.alloc HB.out.size _
      clear hy kcl hkcl
      by_cases hkk : kc = i + 1
      · subst hkk
        have HZ : Hid (∀ k, i < k → k < n.kids.length → ¬ Meets s (kd n i).node.toNat (kd n k).node.toNat) := fun k _ _ => by omega
        have hz : ((n.kids.length - (i + 1) : Nat) : Int) ≤ 0 := by omega
        go_wp2
        go_loopw [21] (fun vj wq => vj = .int .i64 0 ∧ wq = wr.alloc (.cells #[.int .i64 ty, .bool yo, .string yd] 55)) (fun _ _ => 0)
        case atStart => exact ⟨rfl, rfl⟩
        case round =>
          obtain ⟨rfl, rfl⟩ := hrel
          go_wp2
          go_roundw
          case rel =>
            refine ⟨i + 1, by omega, by go_num, fun i' h1 k h2 h3 => ?_, HBA.out⟩
            by_cases e : i' = i
            · subst e; exact HZ.out k h2 h3
            · exact HA.out i' (by omega) k h2 h3
          case measure => simp [intOf]; omega
      · go_wp2
        generalize hW : wr.alloc (.cells #[.int .i64 ty, .bool yo, .string yd] 55) = W at *
        have hWb : W.heap[wr.heap.size]? = some (.cells #[.int .i64 ty, .bool yo, .string yd] 55 (0, 0)) := by rw [← hW]; exact heap_alloc_new wr _
        have HWb : Hid (W.heap[wr.heap.size]? = some (.cells #[.int .i64 ty, .bool yo, .string yd] 55 (0, 0))) := hWb
        obtain ⟨Y, hY⟩ : ∃ Y, Y = wr.heap.size := ⟨_, rfl⟩
        have HY0 : Hid (W.cell? ⟨Y, 0, none⟩ = some (.int .i64 ty)) := by show W.cell? _ = _; rw [hY]; simp [World.cell?, hWb]
        rw [← hY]
        clear hW hWb k1 k2 k3 hY HWb
        go_loopw [21] (fun vj wq => ∃ j : Nat, j ≤ n.kids.length - (i + 1) ∧ vj = .int .i64 j ∧ (∀ k, i < k → k < i + 1 + j → ¬ Meets s (kd n i).node.toNat (kd n k).node.toNat) ∧ Below W.heap.size W wq) (fun vj _ => n.kids.length - (intOf vj).toNat)
        case atStart => exact ⟨0, Nat.zero_le _, rfl, fun k h1 h2 => absurd h1 (by omega), Below.refl _ _⟩
        case round =>
          obtain ⟨j, hj, rfl, hno, hbq⟩ := hrel
          have HNO : Hid (∀ k, i < k → k < i + 1 + j → ¬ Meets s (kd n i).node.toNat (kd n k).node.toNat) := hno
          have HBQ : Hid (Below W.heap.size W wr) := hbq
          have HBW : Hid (Below w.heap.size w wr) := HBA.out.trans (hbq.mono HBA.out.size)
          have d0 := (hbq.cell (lt_of_cell HY0.out)).trans HY0.out
          clear hno hbq
          by_cases hjl : j < n.kids.length - (i + 1)
          · have hjl' : (j : Int) < ((n.kids.length - (i + 1) : Nat) : Int) := by omega
            obtain ⟨kb', ko', he, kcl⟩ := HKI.out (i + 1 + j) (by omega)
            obtain ⟨rfl, rfl⟩ : kb = kb' ∧ ko = ko' := by injection he with he; injection he with e1 e2; exact ⟨e1, e2⟩
            obtain ⟨tz, zo, zd, hz, htz⟩ := kid_at HKR.out (show i + 1 + j < n.kids.length by omega)
            have HZ : Hid (kd n (i + 1 + j) = ⟨tz, zo, zd⟩) := hz
            have hkcl : KidCells w kb (ko + (i + 1) * 3 + j * 3) ⟨tz, zo, zd⟩ := by rw [← hz]; have e : ko + (i + 1 + j) * 3 = ko + (i + 1) * 3 + j * 3 := (by omega); rw [← e]; exact kcl
            obtain ⟨k1, k2, k3⟩ := hkcl.below HBW.out
            simp only at k1 k2 k3
            obtain ⟨al1, a1, c1, t1, p1, p2, p3, p4⟩ := HAB.out ty hty
            obtain ⟨al2, a2, c2, t2, q1, q2, q3, q4⟩ := HAB.out tz htz
            obtain ⟨r, hr⟩ := bool_of (MeetsT al1 al2 t1 t2)
            have HR : Hid (r = true ↔ Meets s (kd n i).node.toNat (kd n (i + 1 + j)).node.toNat) := by
              rw [HY.out, HZ.out]
              exact hr.trans (meetsT_iff p4 q4)
            have HB2 : Hid (Below w.heap.size w (wr.alloc (.cells #[.int .i64 tz, .bool zo, .string zd] 55))) := HBW.out.alloc HBW.out.size _
            have HB3 : Hid (Below W.heap.size W (wr.alloc (.cells #[.int .i64 tz, .bool zo, .string zd] 55))) := HBQ.out.alloc HBQ.out.size _
            have HM : Hid (∀ x : Ext (wr.alloc (.cells #[.int .i64 tz, .bool zo, .string zd] 55)), Calls Tryz.prog 100 #[.agg #[.bool al1, .slice a1 t1.length c1], .agg #[.bool al2, .slice a2 t2.length c2]] x.v fun e w'' => e = .returned (.bool r) ∧ ∃ y : Ext (wr.alloc (.cells #[.int .i64 tz, .bool zo, .string zd] 55)), w'' = y.v) := fun x => Ext.callsR hr (meets_any al1 al2 a1 a2 c1 c2 t1 t2 x.v (p3.below (Ext.bel HB2.out x)) (q3.below (Ext.bel HB2.out x)) p4.1 q4.1)
            have X0 : ∀ x : Ext (wr.alloc (.cells #[.int .i64 tz, .bool zo, .string zd] 55)), x.v.cell? ⟨Y, 0, none⟩ = some (.int .i64 ty) := fun x => x.old d0
            have X1 : ∀ x : Ext (wr.alloc (.cells #[.int .i64 tz, .bool zo, .string zd] 55)), x.v.cell? ⟨wr.heap.size, 0, none⟩ = some (.int .i64 tz) := fun x => x.new rfl
            have X2 : ∀ x : Ext (wr.alloc (.cells #[.int .i64 tz, .bool zo, .string zd] 55)), x.v.cell? ⟨gb, ty * 2, none⟩ = some (.bool al1) := fun x => Ext.far HB2.out x p1
            have X3 : ∀ x : Ext (wr.alloc (.cells #[.int .i64 tz, .bool zo, .string zd] 55)), x.v.cell? ⟨gb, ty * 2 + 1, none⟩ = some (.slice a1 t1.length c1) := fun x => Ext.far HB2.out x p2
            have X4 : ∀ x : Ext (wr.alloc (.cells #[.int .i64 tz, .bool zo, .string zd] 55)), x.v.cell? ⟨gb, tz * 2, none⟩ = some (.bool al2) := fun x => Ext.far HB2.out x q1
            have X5 : ∀ x : Ext (wr.alloc (.cells #[.int .i64 tz, .bool zo, .string zd] 55)), x.v.cell? ⟨gb, tz * 2 + 1, none⟩ = some (.slice a2 t2.length c2) := fun x => Ext.far HB2.out x q2
            have hty' : (ty : Int) < s.length := by omega
            have htz' : (tz : Int) < s.length := by omega
            clear kcl hkcl hz he hr p1 p2 p3 p4 q1 q2 q3 q4
            go_wp2_with fail
            (have ne := ext_ne; refine wp_region_ext (by kernel_rfl) (by kernel_rfl) ?_; (repeat (first | go_big_quiet_skip | (go_big_quiet_want; go_big_quiet_op; first | go_big_quiet_on | (apply Exists.intro; refine ⟨fun x => ?_, ?_⟩; (· (exact HM.out x)); go_big_quiet_on)))); refine nil_ext ?_)
            intro w5 hb5
            have HB5 : Hid (Below w.heap.size w w5) := HB2.out.trans (hb5.mono HB2.out.size)
            have HB6 : Hid (Below W.heap.size W w5) := HB3.out.trans (hb5.mono HB3.out.size)
            clear X0 X1 X2 X3 X4 X5 hb5 HM
            cases r
            · have HN : Hid (¬ Meets s (kd n i).node.toNat (kd n (i + 1 + j)).node.toNat) := fun q => Bool.noConfusion (HR.out.2 q)
              go_wp2
              go_roundw
              case rel =>
                refine ⟨j + 1, by omega, by go_num, fun k h1 h2 => ?_, HB6.out⟩
                by_cases e : k = i + 1 + j
                · subst e; exact HN.out
                · exact HNO.out k h1 (by omega)
              case measure => simp [intOf]; omega
            · have HN : Hid (Meets s (kd n i).node.toNat (kd n (i + 1 + j)).node.toNat) := HR.out.1 rfl
              go_wp2
              go_ret
              exact reto_no (fun q => q i (i + 1 + j) (by omega) (by omega) HN.out) HB5.out
          · have hjl' : ((n.kids.length - (i + 1) : Nat) : Int) ≤ (j : Int) := by omega
            go_wp2
            go_roundw
            case rel =>
              refine ⟨i + 1, by omega, by go_num, fun i' h1 k h2 h3 => ?_, HBW.out⟩
              by_cases e : i' = i
              · subst e; exact HNO.out k h2 (by omega)
              · exact HA.out i' (by omega) k h2 h3
            case measure => simp [intOf]; omega
    · have hlt' : (n.kids.length : Int) ≤ i := by omega
      go_wp2
      go_ret
      exact reto_yes (fun i' k h1 h2 => HA.out i' (by omega) k h1 h2) HB.out
end Go.Proofs.YtjceeljaljdmoaaGreatDoor
