/-
  schemas.defaultsFit: what it answers.
-/
import Derived.Test.YtjceeljaljdmoaaGreatDoorPh
import Derived.Test.YtjceeljaljdmoaaGreatDoorPo
import Derived.Test.YtjceeljaljdmoaaGreatDoorSr
namespace Go.Proofs.YtjceeljaljdmoaaGreatDoor
open Go.RowKit

set_option maxHeartbeats 2000000 in
set_option maxRecDepth 100000 in
theorem defaultsFit_any (s : List Nd) (a : Option Addr) (c : Nat) (n : Nd) (ka : Option Addr) (kc : Nat) (w : World) (sn : Sn → Addr) (hl : Lay w sn) (hs : Sch w a s) (hka : KidsIn w ka n.kids) (hk8 : n.kids.length ≤ 8) (hw : ∀ j, j < n.kids.length → ∃ t : Nat, (kd n j).node = t ∧ t < s.length)
    (hT : ∀ i, i < s.length → Tagged (nd s i)) (hkd : Kinds s) (hn : s.length ≤ 40) (hd : ∀ j, j < n.kids.length → (kd n j).dflt.size ≤ 140737488351232) :
    Calls Tryz.prog 41 #[.slice a s.length c, .agg #[.int .i64 n.kind, .int .i64 n.tag, .int .i64 n.mode, .slice ka n.kids.length kc]] w fun e w' => RetO (DfltOk s n n.kids.length) w e w' := by
  have HKI : Hid (KidsIn w ka n.kids) := hka
  have HKR : Hid (∀ j, j < n.kids.length → ∃ t : Nat, (kd n j).node = t ∧ t < s.length) := hw
  have HS : Hid (Sch w a s) := hs
  have HD : Hid (∀ j, j < n.kids.length → (kd n j).dflt.size ≤ 140737488351232) := hd
  have HIE : Hid (∀ (i : Nat) (ka : Option Addr) (kc : Nat) (t : ByteArray) (wq : World), i < s.length → t.size ≤ 140737488351232 → Below w.heap.size w wq → Calls Tryz.prog 66 #[.agg #[.int .i64 (nd s i).kind, .int .i64 (nd s i).tag, .int .i64 (nd s i).mode, .slice ka (nd s i).kids.length kc], .string t] wq fun e w' => RetO ((nd s i).kind ≤ 9 ∧ ∃ u, ElemOk (nd s i) t u) wq e w') :=
    fun i ka kc t wq hi ht q => isElement_any (nd s i) ka kc t wq sn (hl.below q) (hT i hi) (hkd i hi).1 (by omega)
  clear hka hw hs hd hl hT hkd
  go_enter Tryz.func41, Tryz.ntmps41
  go_wp2
  have HB0 : Hid (Below w.heap.size w (w.alloc (.cells #[.int .i64 n.kind, .int .i64 n.tag, .int .i64 n.mode, .slice ka n.kids.length kc] 58))) := (Below.refl _ _).alloc (Nat.le_refl _) _
  go_loopw [10] (fun vi wr => ∃ i : Nat, i ≤ n.kids.length ∧ vi = .int .i64 i ∧ DfltOk s n i ∧ Below w.heap.size w wr) (fun vi _ => n.kids.length - (intOf vi).toNat)
  case atStart => exact ⟨0, Nat.zero_le _, rfl, fun _ h => absurd h (Nat.not_lt_zero _), HB0.out⟩
  case round =>
    obtain ⟨i, hi, rfl, hall, hbr⟩ := hrel
    have HA : Hid (DfltOk s n i) := hall
    have HB : Hid (Below w.heap.size w wr) := hbr
    clear hall hbr
    by_cases hlt : i < n.kids.length
    · have hlt' : (i : Int) < n.kids.length := by omega
      obtain ⟨kb, ko, rfl, kcl⟩ := HKI.out i hlt
      obtain ⟨ty, yo, yd, hy, hty⟩ := kid_at HKR.out hlt
      have HY : Hid (kd n i = ⟨ty, yo, yd⟩) := hy
      have hkcl : KidCells w kb (ko + i * 3) ⟨ty, yo, yd⟩ := by rw [← hy]; exact kcl
      have hds : yd.size ≤ 140737488351232 := by have := HD.out i hlt; rw [hy] at this; exact this
      obtain ⟨k1, k2, k3⟩ := hkcl.below HB.out
      simp only at k1 k2 k3
      have HB2 : Hid (Below w.heap.size w (wr.alloc (.cells #[.int .i64 ty, .bool yo, .string yd] 55))) := HB.out.alloc HB.out.size _
      obtain ⟨b, o, ka2, kc2, rfl, nc, _⟩ := HS.out ty hty
      have X0 : ∀ x : Ext (wr.alloc (.cells #[.int .i64 ty, .bool yo, .string yd] 55)), x.v.cell? ⟨wr.heap.size, 0, none⟩ = some (.int .i64 ty) := fun x => x.new rfl
      have X2 : ∀ x : Ext (wr.alloc (.cells #[.int .i64 ty, .bool yo, .string yd] 55)), x.v.cell? ⟨wr.heap.size, 2, none⟩ = some (.string yd) := fun x => x.new rfl
      have X3 : ∀ x : Ext (wr.alloc (.cells #[.int .i64 ty, .bool yo, .string yd] 55)), x.v.cell? ⟨b, o + ty * 4, none⟩ = some (.int .i64 (nd s ty).kind) := fun x => Ext.far HB2.out x nc.kind
      have X4 : ∀ x : Ext (wr.alloc (.cells #[.int .i64 ty, .bool yo, .string yd] 55)), x.v.cell? ⟨b, o + ty * 4 + 1, none⟩ = some (.int .i64 (nd s ty).tag) := fun x => Ext.far HB2.out x nc.tag
      have X5 : ∀ x : Ext (wr.alloc (.cells #[.int .i64 ty, .bool yo, .string yd] 55)), x.v.cell? ⟨b, o + ty * 4 + 2, none⟩ = some (.int .i64 (nd s ty).mode) := fun x => Ext.far HB2.out x nc.mode
      have X6 : ∀ x : Ext (wr.alloc (.cells #[.int .i64 ty, .bool yo, .string yd] 55)), x.v.cell? ⟨b, o + ty * 4 + 3, none⟩ = some (.slice ka2 (nd s ty).kids.length kc2) := fun x => Ext.far HB2.out x nc.kids
      obtain ⟨r, hr⟩ := bool_of ((nd s ty).kind ≤ 9 ∧ ∃ u, ElemOk (nd s ty) yd u)
      have HR : Hid (r = true ↔ ((nd s ty).kind ≤ 9 ∧ ∃ u, ElemOk (nd s ty) yd u)) := hr
      have HM : Hid (∀ x : Ext (wr.alloc (.cells #[.int .i64 ty, .bool yo, .string yd] 55)), Calls Tryz.prog 66 #[.agg #[.int .i64 (nd s ty).kind, .int .i64 (nd s ty).tag, .int .i64 (nd s ty).mode, .slice ka2 (nd s ty).kids.length kc2], .string yd] x.v fun e w'' => e = .returned (.bool r) ∧ ∃ y : Ext (wr.alloc (.cells #[.int .i64 ty, .bool yo, .string yd] 55)), w'' = y.v) := fun x => Ext.callsR hr (HIE.out ty ka2 kc2 yd x.v hty hds (Ext.bel HB2.out x))
      have hty' : (ty : Int) < s.length := by omega
      have STEP : Hid (yd.size = 0 ∨ ((nd s ty).kind ≤ 9 ∧ ∃ u, ElemOk (nd s ty) yd u) → DfltOk s n (i + 1)) := fun h j hj => by
        by_cases e : j = i
        · subst e; rw [HY.out]; simpa using h
        · exact HA.out j (by omega)
      have BADD : Hid (0 < yd.size → ¬ ((nd s ty).kind ≤ 9 ∧ ∃ u, ElemOk (nd s ty) yd u) → ¬ DfltOk s n n.kids.length) := fun h1 h2 q => by
        have := q i hlt
        rw [HY.out] at this
        simp only [Int.toNat_natCast] at this
        rcases this with h | h
        · omega
        · exact h2 h
      clear hy kcl hkcl nc hr
      by_cases hz : yd.size = 0
      · have e0 := emp_t hz
        have HZ : Hid (yd.size = 0) := hz
        clear hz
        go_wp2_with fail
        (have ne := ext_ne; refine wp_region_ext (by kernel_rfl) (by kernel_rfl) ?_; (repeat (first | go_big_quiet_skip | (go_big_quiet_want; go_big_quiet_op; first | go_big_quiet_on | (apply Exists.intro; refine ⟨fun x => ?_, ?_⟩; (· (exact HM.out x)); go_big_quiet_on)))); refine nil_ext ?_)
        intro w5 hb5
        have HB5 : Hid (Below w.heap.size w w5) := HB2.out.trans (hb5.mono HB2.out.size)
        clear X0 X2 X3 X4 X5 X6 hb5 HM
        go_wp2
        go_roundw
        case rel => exact ⟨i + 1, by omega, by go_num, STEP.out (.inl HZ.out), HB5.out⟩
        case measure => simp [intOf]; omega
      · have e0 := emp_f (t := yd) (by omega)
        have HZ : Hid (0 < yd.size) := by show 0 < yd.size; omega
        clear hz
        go_wp2_with fail
        (have ne := ext_ne; refine wp_region_ext (by kernel_rfl) (by kernel_rfl) ?_; (repeat (first | go_big_quiet_skip | (go_big_quiet_want; go_big_quiet_op; first | go_big_quiet_on | (apply Exists.intro; refine ⟨fun x => ?_, ?_⟩; (· (exact HM.out x)); go_big_quiet_on)))); refine nil_ext ?_)
        intro w5 hb5
        have HB5 : Hid (Below w.heap.size w w5) := HB2.out.trans (hb5.mono HB2.out.size)
        clear X0 X2 X3 X4 X5 X6 hb5 HM
        cases r
        · go_wp2
          go_ret
          exact reto_no (BADD.out HZ.out (fun q => Bool.noConfusion (HR.out.2 q))) HB5.out
        · go_wp2
          go_roundw
          case rel => exact ⟨i + 1, by omega, by go_num, STEP.out (.inr (HR.out.1 rfl)), HB5.out⟩
          case measure => simp [intOf]; omega
    · have hlt' : (n.kids.length : Int) ≤ i := by omega
      have HI : Hid (i = n.kids.length) := by show i = _; omega
      go_wp2
      go_ret
      exact reto_yes (HI.out ▸ HA.out) HB.out
end Go.Proofs.YtjceeljaljdmoaaGreatDoor
