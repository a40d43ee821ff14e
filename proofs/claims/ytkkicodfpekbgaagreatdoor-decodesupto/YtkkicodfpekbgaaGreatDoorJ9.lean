/-
  Several texts in one:
  The document's reader: bare, in general.
  The document's reader: bare of every kind, Own0.
  The document's reader: node, in general.
  The document's reader: Read, in general.
  The document's Decode; that there is what reading goes by.
  schemas.comesBack, isShaped: what they answer.
  schemas.isElement: what it answers.
  schemas.defaultsFit: what it answers.
  schemas.Check: what it answers.
  The program's reader in memory; add, notDeep, expect.
  The program's reader: notDeep, expect.
  The program's reader: which node may begin so; open.
  The program's reader: open.
  The program's reader: what stays, what a method leaves; any.
  The program's reader: choice.
-/
import Derived.Test.YtkkicodfpekbgaaGreatDoorJ8
import Derived.Handy
import Derived.Deep.RegionHeldLaw
import Derived.Test.YtkkicodfpekbgaaGreatDoorJ2
import Derived.Test.YtkkicodfpekbgaaGreatDoorJSd
import Derived.Test.YtkkicodfpekbgaaGreatDoorJ3
import Derived.Test.YtkkicodfpekbgaaGreatDoorJ4
import Derived.Deep.DeepCutAuto
/-! The document's reader: bare, in general. -/
namespace Go.Proofs.YtkkicodfpekbgaaGreatDoor
set_option linter.unusedSimpArgs false
set_option linter.unusedVariables false
open Go.RowKit

set_option maxHeartbeats 4000000 in
set_option maxRecDepth 100000 in
theorem bare_13 (E : Env) (W : World) (R : Nat) (a : Option Addr) (c f : Nat) (hc : RC E W a) (hdv : DvOk E) (hN : NodeC E W R a c f) (i : Nat) (hi : i < E.s.length) (ka : Option Addr) (kc : Nat) (hka : KidsIn W ka (nd E.s i).kids) (hkc : (nd E.s i).kids.length ≤ kc)
    (cl nu gc : Int) (gb : Bool) (gn : Int) (z : Nat) (gl : Int) (x tz : Nat) (dp : Int) (o : Out) (tree : List Vl) (p : Int) (w : World) (hk : (nd E.s i).kind = 13) (hm : bareF E (rdF E f) f (nd E.s i) cl nu ⟨gc, gb, gn, (z : Int), gl⟩ x tz dp = some o) (hxz : x + z ≤ tz) (hz : tz ≤ E.d.size) (hd1 : 1 ≤ dp) (hd2 : dp ≤ 13) (hroom : Room tree (f + 1) x tz) (hI : RdI W w R a E.s.length c E.d tree 0 p) :
    Calls Tryz.prog 102 #[.pointer (some ⟨R, 0, none⟩), .agg #[.int .i64 (nd E.s i).kind, .int .i64 (nd E.s i).tag, .int .i64 (nd E.s i).mode, .slice ka (nd E.s i).kids.length kc], .int .i64 cl, .int .i64 nu, .agg #[.int .i64 gc, .bool gb, .int .i64 gn, .int .i64 z, .int .i64 gl], .int .i64 x, .int .i64 tz, .int .i64 dp] w
      fun e w' => e = .returned (.tuple #[]) ∧ AfterR E W R a c o tree p w w' := by
  unfold bareF at hm
  rw [if_pos hk] at hm
  have HCH : Hid (∀ w0, RdI W w0 R a E.s.length c E.d tree 0 p → Calls Tryz.prog 143 #[.pointer (some ⟨R, 0, none⟩), .agg #[.int .i64 (nd E.s i).kind, .int .i64 (nd E.s i).tag, .int .i64 (nd E.s i).mode, .slice ka (nd E.s i).kids.length kc], .agg #[.int .i64 gc, .bool gb, .int .i64 gn, .int .i64 z, .int .i64 gl], .int .i64 x, .int .i64 tz, .int .i64 dp] w0 fun e w' => e = .returned (.tuple #[]) ∧ AfterR E W R a c o tree p w0 w') := fun w0 q =>
    choice_any E W R a c f hc hN i hi ka kc hka hkc ⟨gc, gb, gn, (z : Int), gl⟩ x tz dp o tree p w0 hm (by omega) hz hd1 hd2 hroom q
  have k13 : ((nd E.s i).kind == 13) = true := by simp [hk]
  have HC : Hid (RC E W a) := hc
  have HN : Hid (NodeC E W R a c f) := hN
  have HDV : Hid (DvOk E) := hdv
  have HKI : Hid (KidsIn W ka (nd E.s i).kids) := hka
  have HIL : Hid (i < E.s.length) := hi
  have HI : Hid (RdI W w R a E.s.length c E.d tree 0 p) := hI
  have HRO : Hid (Room tree (f + 1) x tz) := hroom
  have hRl : R < w.heap.size := lt_of_cell hI.r0
  have hl0 : tree.length ≤ 1099511627776 := by unfold Room at hroom; omega
  have c1 : w.cell? ⟨R, 1, none⟩ = some (.string E.d) := hI.r1
  have HW1 : Hid (∀ o1 o2, RdI W ((w.alloc o1).alloc o2) R a E.s.length c E.d tree 0 p) := fun o1 o2 => (HI.out.below ((Below.refl _ _).alloc (Nat.le_refl _) _)).below ((Below.refl _ _).alloc (Nat.le_refl _) _)
  have FW : Hid (∀ o1 o2 k, Fr R w (((w.alloc o1).alloc o2).drewN k)) := fun o1 o2 k => Fr.of_below (below_drewN (((Below.refl w.heap.size w).alloc (Nat.le_refl _) o1).alloc (by simp) o2) k)
  clear hc hN hdv hka hi hI hroom hm hk
  go_enter Tryz.func102, Tryz.ntmps102
  go_wp2_with fail
  refine (HCH.out _ (HW1.out _ _)).mono ?_
  rintro e w2 ⟨rfl, ha2⟩
  have HA2 : Hid (AfterR E W R a c o tree p w w2) := ha2.of (FW.out _ _ 0)
  clear ha2
  go_wp2
  go_returns
  exact ⟨rfl, HA2.out⟩

set_option maxHeartbeats 4000000 in
set_option maxRecDepth 100000 in
theorem bare_14 (E : Env) (W : World) (R : Nat) (a : Option Addr) (c f : Nat) (hc : RC E W a) (hdv : DvOk E) (hN : NodeC E W R a c f) (i : Nat) (hi : i < E.s.length) (ka : Option Addr) (kc : Nat) (hka : KidsIn W ka (nd E.s i).kids) (hkc : (nd E.s i).kids.length ≤ kc)
    (cl nu gc : Int) (gb : Bool) (gn : Int) (z : Nat) (gl : Int) (x tz : Nat) (dp : Int) (o : Out) (tree : List Vl) (p : Int) (w : World) (hk : (nd E.s i).kind = 14) (hm : bareF E (rdF E f) f (nd E.s i) cl nu ⟨gc, gb, gn, (z : Int), gl⟩ x tz dp = some o) (hxz : x + z ≤ tz) (hz : tz ≤ E.d.size) (hd1 : 1 ≤ dp) (hd2 : dp ≤ 13) (hroom : Room tree (f + 1) x tz) (hI : RdI W w R a E.s.length c E.d tree 0 p) :
    Calls Tryz.prog 102 #[.pointer (some ⟨R, 0, none⟩), .agg #[.int .i64 (nd E.s i).kind, .int .i64 (nd E.s i).tag, .int .i64 (nd E.s i).mode, .slice ka (nd E.s i).kids.length kc], .int .i64 cl, .int .i64 nu, .agg #[.int .i64 gc, .bool gb, .int .i64 gn, .int .i64 z, .int .i64 gl], .int .i64 x, .int .i64 tz, .int .i64 dp] w
      fun e w' => e = .returned (.tuple #[]) ∧ AfterR E W R a c o tree p w w' := by
  have HC : Hid (RC E W a) := hc
  have HN : Hid (NodeC E W R a c f) := hN
  have HDV : Hid (DvOk E) := hdv
  have HKI : Hid (KidsIn W ka (nd E.s i).kids) := hka
  have HIL : Hid (i < E.s.length) := hi
  have HI : Hid (RdI W w R a E.s.length c E.d tree 0 p) := hI
  have HRO : Hid (Room tree (f + 1) x tz) := hroom
  have hRl : R < w.heap.size := lt_of_cell hI.r0
  have hl0 : tree.length ≤ 1099511627776 := by unfold Room at hroom; omega
  have c1 : w.cell? ⟨R, 1, none⟩ = some (.string E.d) := hI.r1
  have HW1 : Hid (∀ o1 o2, RdI W ((w.alloc o1).alloc o2) R a E.s.length c E.d tree 0 p) := fun o1 o2 => (HI.out.below ((Below.refl _ _).alloc (Nat.le_refl _) _)).below ((Below.refl _ _).alloc (Nat.le_refl _) _)
  have FW : Hid (∀ o1 o2 k, Fr R w (((w.alloc o1).alloc o2).drewN k)) := fun o1 o2 k => Fr.of_below (below_drewN (((Below.refl w.heap.size w).alloc (Nat.le_refl _) o1).alloc (by simp) o2) k)
  have k13 : ((nd E.s i).kind == 13) = false := by rw [beq_eq_false_iff_ne]; omega
  have k14 : ((nd E.s i).kind == 14) = true := by simp [hk]
  have k14' : ((nd E.s i).kind != 14) = false := by simp [hk]
  have k12 : 12 < (nd E.s i).kind := by omega
  have k10 : 10 ≤ (nd E.s i).kind := by omega
  unfold bareF at hm
  rw [if_neg (by omega), if_neg (fun q => q.1 hk)] at hm
  by_cases hd : 12 < dp
  · rw [if_pos hd] at hm
    have HOE : Hid (o = .error (10, (x : Int))) := (Option.some.inj hm).symm
    clear hc hN hdv hka hi hI hroom hm hk
    go_enter Tryz.func102, Tryz.ntmps102
    go_wp2_with fail
    refine (stop_first W _ R a E.s.length c E.d tree p 10 x (HW1.out _ _)).mono ?_
    rintro e w2 ⟨rfl, hI2, hoth⟩
    have HI2 : Hid (RdI W w2 R a E.s.length c E.d tree 10 x) := hI2
    have HFR : Hid (Fr R w w2) := (FW.out _ _ 0).trans (Fr.of_same hoth)
    clear hI2 hoth
    go_wp2
    go_returns
    refine ⟨rfl, tree, 10, x, HI2.out, ?_, HFR.out⟩
    rw [HOE.out]
    exact ⟨rfl, rfl, by decide⟩
  · rw [if_neg hd, if_pos hk] at hm
    have HOE : Hid (o = .ok ([⟨14, E.d.extract x tz, 0, 0⟩], tz)) := (Option.some.inj hm).symm
    have hd' : dp ≤ 12 := by omega
    have hxy' : (x : Int) + z ≤ tz := by omega
    have hxy2 : (x : Int) ≤ tz := by omega
    have hy' : (tz : Int) ≤ E.d.size := by omega
    have hx0 : (x : Int) + z ≤ 140737488355328 := by have := hc.size; omega
    clear hc hN hdv hka hi hI hroom hm hk hd
    go_enter Tryz.func102, Tryz.ntmps102
    go_wp2_with fail
    go_quiet (fail)
    go_wp2_with fail
    refine (put_any W _ R a E.s.length c E.d tree 0 p ⟨14, E.d.extract x tz, 0, 0⟩ ((HW1.out _ _).below (below_drewN (Below.refl _ _) _)) hl0).mono ?_
    rintro e w3 ⟨rfl, hI3, hfr⟩
    have HI3 : Hid (RdI W w3 R a E.s.length c E.d (tree ++ [⟨14, E.d.extract x tz, 0, 0⟩]) 0 p) := hI3
    have HFR : Hid (Fr R w w3) := (FW.out _ _ _).trans hfr
    clear hI3 hfr
    go_wp2
    go_returns
    refine ⟨rfl, _, 0, p, HI3.out, ?_, HFR.out⟩
    rw [HOE.out]
    exact ⟨rfl, rfl, rfl⟩

set_option maxHeartbeats 4000000 in
set_option maxRecDepth 100000 in
theorem bare_10 (E : Env) (W : World) (R : Nat) (a : Option Addr) (c f : Nat) (hc : RC E W a) (hdv : DvOk E) (hN : NodeC E W R a c f) (i : Nat) (hi : i < E.s.length) (ka : Option Addr) (kc : Nat) (hka : KidsIn W ka (nd E.s i).kids) (hkc : (nd E.s i).kids.length ≤ kc)
    (cl nu gc : Int) (gb : Bool) (gn : Int) (z : Nat) (gl : Int) (x tz : Nat) (dp : Int) (o : Out) (tree : List Vl) (p : Int) (w : World) (hk : (nd E.s i).kind = 10) (hm : bareF E (rdF E f) f (nd E.s i) cl nu ⟨gc, gb, gn, (z : Int), gl⟩ x tz dp = some o) (hxz : x + z ≤ tz) (hz : tz ≤ E.d.size) (hd1 : 1 ≤ dp) (hd2 : dp ≤ 13) (hroom : Room tree (f + 1) x tz) (hI : RdI W w R a E.s.length c E.d tree 0 p) :
    Calls Tryz.prog 102 #[.pointer (some ⟨R, 0, none⟩), .agg #[.int .i64 (nd E.s i).kind, .int .i64 (nd E.s i).tag, .int .i64 (nd E.s i).mode, .slice ka (nd E.s i).kids.length kc], .int .i64 cl, .int .i64 nu, .agg #[.int .i64 gc, .bool gb, .int .i64 gn, .int .i64 z, .int .i64 gl], .int .i64 x, .int .i64 tz, .int .i64 dp] w
      fun e w' => e = .returned (.tuple #[]) ∧ AfterR E W R a c o tree p w w' := by
  have HC : Hid (RC E W a) := hc
  have HN : Hid (NodeC E W R a c f) := hN
  have HDV : Hid (DvOk E) := hdv
  have HKI : Hid (KidsIn W ka (nd E.s i).kids) := hka
  have HIL : Hid (i < E.s.length) := hi
  have HI : Hid (RdI W w R a E.s.length c E.d tree 0 p) := hI
  have HRO : Hid (Room tree (f + 1) x tz) := hroom
  have hRl : R < w.heap.size := lt_of_cell hI.r0
  have hl0 : tree.length ≤ 1099511627776 := by unfold Room at hroom; omega
  have c1 : w.cell? ⟨R, 1, none⟩ = some (.string E.d) := hI.r1
  have HW1 : Hid (∀ o1 o2, RdI W ((w.alloc o1).alloc o2) R a E.s.length c E.d tree 0 p) := fun o1 o2 => (HI.out.below ((Below.refl _ _).alloc (Nat.le_refl _) _)).below ((Below.refl _ _).alloc (Nat.le_refl _) _)
  have FW : Hid (∀ o1 o2 k, Fr R w (((w.alloc o1).alloc o2).drewN k)) := fun o1 o2 k => Fr.of_below (below_drewN (((Below.refl w.heap.size w).alloc (Nat.le_refl _) o1).alloc (by simp) o2) k)
  have k13 : ((nd E.s i).kind == 13) = false := by rw [beq_eq_false_iff_ne]; omega
  have k14 : ((nd E.s i).kind == 14) = false := by rw [beq_eq_false_iff_ne]; omega
  have k14' : ((nd E.s i).kind != 14) = true := by rw [bne_iff_ne]; omega
  have k12 : (nd E.s i).kind ≤ 12 := by omega
  have k10 : 10 ≤ (nd E.s i).kind := by omega
  have k10e : ((nd E.s i).kind == 10) = true := by simp [hk]
  unfold bareF at hm
  rw [if_neg (by omega)] at hm
  have hbt : decide (10 ≤ (nd E.s i).kind ∧ (nd E.s i).kind ≤ 12) = true := by rw [decide_eq_true_eq]; omega
  rw [hbt] at hm
  by_cases q : gc = cl ∧ gn = nu ∧ gb = true
  · rw [if_neg (fun h => h.2 q)] at hm
    obtain ⟨rfl, rfl, rfl⟩ := q
    by_cases hd : 12 < dp
    · rw [if_pos hd] at hm
      have HOE : Hid (o = .error (10, (x : Int))) := (Option.some.inj hm).symm
      clear hc hN hdv hka hi hI hroom hm hk
      go_enter Tryz.func102, Tryz.ntmps102
      go_wp2_with fail
      refine (stop_first W _ R a E.s.length c E.d tree p 10 x (HW1.out _ _)).mono ?_
      rintro e w2 ⟨rfl, hI2, hoth⟩
      have HI2 : Hid (RdI W w2 R a E.s.length c E.d tree 10 x) := hI2
      have HFR : Hid (Fr R w w2) := (FW.out _ _ 0).trans (Fr.of_same hoth)
      clear hI2 hoth
      go_wp2
      go_returns
      refine ⟨rfl, tree, 10, x, HI2.out, ?_, HFR.out⟩
      rw [HOE.out]
      exact ⟨rfl, rfl, by decide⟩
    · rw [if_neg hd, if_neg (by omega)] at hm
      have hd' : dp ≤ 12 := by omega
      rw [if_pos hk] at hm
      obtain ⟨o1, ho1, ho2⟩ : ∃ o1, seqF E (rdF E f) tz (dp + 1) (nd E.s i).kids (x + z) [] = some o1 ∧ o = OutS (nd E.s i).kids.length tz o1 := by
        simp only [Int.toNat_natCast] at hm
        cases hs : seqF E (rdF E f) tz (dp + 1) (nd E.s i).kids (x + z) [] with
        | none => rw [hs] at hm; cases hm
        | some v =>
          refine ⟨v, rfl, ?_⟩
          rw [hs] at hm
          cases v with
          | error e => exact (Option.some.inj hm).symm
          | ok q => obtain ⟨vs, y⟩ := q; exact (Option.some.inj hm).symm
      have HCH : Hid (∀ w0, RdI W w0 R a E.s.length c E.d tree 0 p → Calls Tryz.prog 145 #[.pointer (some ⟨R, 0, none⟩), .agg #[.int .i64 (nd E.s i).kind, .int .i64 (nd E.s i).tag, .int .i64 (nd E.s i).mode, .slice ka (nd E.s i).kids.length kc], .int .i64 (x + z : Nat), .int .i64 tz, .int .i64 dp] w0 fun e w' => e = .returned (.tuple #[]) ∧ AfterR E W R a c o tree p w0 w') := fun w0 q => by
        rw [ho2]
        exact seq_any E W R a c f HC.out HDV.out HN.out i HIL.out ka kc HKI.out hkc (x + z) tz dp o1 tree p w0 ho1 hxz hz hd1 hd' (by have := HRO.out; unfold Room at this ⊢; omega) q
      have hxy' : (x : Int) + z ≤ tz := by omega
      have hy' : (tz : Int) ≤ E.d.size := by omega
      have hx0 : (x : Int) + z ≤ 140737488355328 := by have := hc.size; omega
      clear hc hN hdv hka hi hI hroom hm hk hd
      go_enter Tryz.func102, Tryz.ntmps102
      go_wp2_with fail
      go_quiet (fail)
      go_wp2_with fail
      rw [show (x : Int) + (z : Int) = ((x + z : Nat) : Int) by omega]
      refine (HCH.out _ ((HW1.out _ _).below (below_drewN (Below.refl _ _) _))).mono ?_
      rintro e w3 ⟨rfl, ha3⟩
      have HA3 : Hid (AfterR E W R a c o tree p w w3) := ha3.of (FW.out _ _ _)
      clear ha3
      go_wp2
      go_returns
      exact ⟨rfl, HA3.out⟩
  · rw [if_pos ⟨by omega, q⟩] at hm
    have HOE : Hid (o = .error (4, (x : Int))) := (Option.some.inj hm).symm
    have q' : (gc != cl) = true ∨ ((gc != cl) = false ∧ (gn != nu) = true) ∨ ((gc != cl) = false ∧ (gn != nu) = false ∧ gb = false) := by
      by_cases q1 : gc = cl
      · by_cases q2 : gn = nu
        · right; right
          refine ⟨by simp [q1], by simp [q2], ?_⟩
          cases gb
          · rfl
          · exact absurd ⟨q1, q2, rfl⟩ q
        · right; left; exact ⟨by simp [q1], by simp [q2]⟩
      · left; simp [q1]
    clear hc hN hdv hka hi hI hroom hm hk q hbt
    rcases q' with e1 | ⟨e1, e2⟩ | ⟨e1, e2, rfl⟩
    · go_enter Tryz.func102, Tryz.ntmps102
      go_wp2_with fail
      refine (stop_first W _ R a E.s.length c E.d tree p 4 x (HW1.out _ _)).mono ?_
      rintro e w2 ⟨rfl, hI2, hoth⟩
      have HI2 : Hid (RdI W w2 R a E.s.length c E.d tree 4 x) := hI2
      have HFR : Hid (Fr R w w2) := (FW.out _ _ 0).trans (Fr.of_same hoth)
      clear hI2 hoth
      go_wp2
      go_returns
      refine ⟨rfl, tree, 4, x, HI2.out, ?_, HFR.out⟩
      rw [HOE.out]
      exact ⟨rfl, rfl, by decide⟩
    · go_enter Tryz.func102, Tryz.ntmps102
      go_wp2_with fail
      refine (stop_first W _ R a E.s.length c E.d tree p 4 x (HW1.out _ _)).mono ?_
      rintro e w2 ⟨rfl, hI2, hoth⟩
      have HI2 : Hid (RdI W w2 R a E.s.length c E.d tree 4 x) := hI2
      have HFR : Hid (Fr R w w2) := (FW.out _ _ 0).trans (Fr.of_same hoth)
      clear hI2 hoth
      go_wp2
      go_returns
      refine ⟨rfl, tree, 4, x, HI2.out, ?_, HFR.out⟩
      rw [HOE.out]
      exact ⟨rfl, rfl, by decide⟩
    · go_enter Tryz.func102, Tryz.ntmps102
      go_wp2_with fail
      refine (stop_first W _ R a E.s.length c E.d tree p 4 x (HW1.out _ _)).mono ?_
      rintro e w2 ⟨rfl, hI2, hoth⟩
      have HI2 : Hid (RdI W w2 R a E.s.length c E.d tree 4 x) := hI2
      have HFR : Hid (Fr R w w2) := (FW.out _ _ 0).trans (Fr.of_same hoth)
      clear hI2 hoth
      go_wp2
      go_returns
      refine ⟨rfl, tree, 4, x, HI2.out, ?_, HFR.out⟩
      rw [HOE.out]
      exact ⟨rfl, rfl, by decide⟩

set_option maxHeartbeats 4000000 in
set_option maxRecDepth 100000 in
theorem bare_11 (E : Env) (W : World) (R : Nat) (a : Option Addr) (c f : Nat) (hc : RC E W a) (hdv : DvOk E) (hN : NodeC E W R a c f) (i : Nat) (hi : i < E.s.length) (ka : Option Addr) (kc : Nat) (hka : KidsIn W ka (nd E.s i).kids) (hkc : (nd E.s i).kids.length ≤ kc)
    (cl nu gc : Int) (gb : Bool) (gn : Int) (z : Nat) (gl : Int) (x tz : Nat) (dp : Int) (o : Out) (tree : List Vl) (p : Int) (w : World) (hk : (nd E.s i).kind = 11 ∨ (nd E.s i).kind = 12) (hm : bareF E (rdF E f) f (nd E.s i) cl nu ⟨gc, gb, gn, (z : Int), gl⟩ x tz dp = some o) (hxz : x + z ≤ tz) (hz : tz ≤ E.d.size) (hd1 : 1 ≤ dp) (hd2 : dp ≤ 13) (hroom : Room tree (f + 1) x tz) (hI : RdI W w R a E.s.length c E.d tree 0 p) :
    Calls Tryz.prog 102 #[.pointer (some ⟨R, 0, none⟩), .agg #[.int .i64 (nd E.s i).kind, .int .i64 (nd E.s i).tag, .int .i64 (nd E.s i).mode, .slice ka (nd E.s i).kids.length kc], .int .i64 cl, .int .i64 nu, .agg #[.int .i64 gc, .bool gb, .int .i64 gn, .int .i64 z, .int .i64 gl], .int .i64 x, .int .i64 tz, .int .i64 dp] w
      fun e w' => e = .returned (.tuple #[]) ∧ AfterR E W R a c o tree p w w' := by
  have HC : Hid (RC E W a) := hc
  have HN : Hid (NodeC E W R a c f) := hN
  have HDV : Hid (DvOk E) := hdv
  have HKI : Hid (KidsIn W ka (nd E.s i).kids) := hka
  have HIL : Hid (i < E.s.length) := hi
  have HI : Hid (RdI W w R a E.s.length c E.d tree 0 p) := hI
  have HRO : Hid (Room tree (f + 1) x tz) := hroom
  have hRl : R < w.heap.size := lt_of_cell hI.r0
  have hl0 : tree.length ≤ 1099511627776 := by unfold Room at hroom; omega
  have c1 : w.cell? ⟨R, 1, none⟩ = some (.string E.d) := hI.r1
  have HW1 : Hid (∀ o1 o2, RdI W ((w.alloc o1).alloc o2) R a E.s.length c E.d tree 0 p) := fun o1 o2 => (HI.out.below ((Below.refl _ _).alloc (Nat.le_refl _) _)).below ((Below.refl _ _).alloc (Nat.le_refl _) _)
  have FW : Hid (∀ o1 o2 k, Fr R w (((w.alloc o1).alloc o2).drewN k)) := fun o1 o2 k => Fr.of_below (below_drewN (((Below.refl w.heap.size w).alloc (Nat.le_refl _) o1).alloc (by simp) o2) k)
  have k13 : ((nd E.s i).kind == 13) = false := by rw [beq_eq_false_iff_ne]; omega
  have k14 : ((nd E.s i).kind == 14) = false := by rw [beq_eq_false_iff_ne]; omega
  have k14' : ((nd E.s i).kind != 14) = true := by rw [bne_iff_ne]; omega
  have k12 : (nd E.s i).kind ≤ 12 := by omega
  have k10 : 10 ≤ (nd E.s i).kind := by omega
  have k10e : ((nd E.s i).kind == 10) = false := by rw [beq_eq_false_iff_ne]; omega
  unfold bareF at hm
  rw [if_neg (by omega)] at hm
  have hbt : decide (10 ≤ (nd E.s i).kind ∧ (nd E.s i).kind ≤ 12) = true := by rw [decide_eq_true_eq]; omega
  rw [hbt] at hm
  by_cases q : gc = cl ∧ gn = nu ∧ gb = true
  · rw [if_neg (fun h => h.2 q)] at hm
    obtain ⟨rfl, rfl, rfl⟩ := q
    by_cases hd : 12 < dp
    · rw [if_pos hd] at hm
      have HOE : Hid (o = .error (10, (x : Int))) := (Option.some.inj hm).symm
      clear hc hN hdv hka hi hI hroom hm hk
      go_enter Tryz.func102, Tryz.ntmps102
      go_wp2_with fail
      refine (stop_first W _ R a E.s.length c E.d tree p 10 x (HW1.out _ _)).mono ?_
      rintro e w2 ⟨rfl, hI2, hoth⟩
      have HI2 : Hid (RdI W w2 R a E.s.length c E.d tree 10 x) := hI2
      have HFR : Hid (Fr R w w2) := (FW.out _ _ 0).trans (Fr.of_same hoth)
      clear hI2 hoth
      go_wp2
      go_returns
      refine ⟨rfl, tree, 10, x, HI2.out, ?_, HFR.out⟩
      rw [HOE.out]
      exact ⟨rfl, rfl, by decide⟩
    · rw [if_neg hd, if_neg (by omega)] at hm
      have hd' : dp ≤ 12 := by omega
      rw [if_neg (by omega), if_pos (by omega)] at hm
      obtain ⟨o1, ho1, ho2⟩ : ∃ o1, manyF E (rdF E f) (decide ((nd E.s i).kind = 12)) (kd (nd E.s i) 0).node.toNat tz (dp + 1) f (x + z) noB 0 [] = some o1 ∧ o = OutM (nd E.s i).kind tz o1 := by
        simp only [Int.toNat_natCast] at hm
        cases hs : manyF E (rdF E f) (decide ((nd E.s i).kind = 12)) (kd (nd E.s i) 0).node.toNat tz (dp + 1) f (x + z) noB 0 [] with
        | none => rw [hs] at hm; cases hm
        | some v =>
          refine ⟨v, rfl, ?_⟩
          rw [hs] at hm
          cases v with
          | error e => exact (Option.some.inj hm).symm
          | ok q => obtain ⟨vs, y⟩ := q; exact (Option.some.inj hm).symm
      have HCH : Hid (∀ w0, RdI W w0 R a E.s.length c E.d tree 0 p → Calls Tryz.prog 146 #[.pointer (some ⟨R, 0, none⟩), .agg #[.int .i64 (nd E.s i).kind, .int .i64 (nd E.s i).tag, .int .i64 (nd E.s i).mode, .slice ka (nd E.s i).kids.length kc], .int .i64 (x + z : Nat), .int .i64 tz, .int .i64 dp] w0 fun e w' => e = .returned (.tuple #[]) ∧ AfterR E W R a c o tree p w0 w') := fun w0 q => by
        rw [ho2]
        exact many_any E W R a c f HC.out HN.out i HIL.out hk ka kc HKI.out hkc (x + z) tz f dp o1 tree p w0 ho1 hxz hz hd1 hd' (by have := HRO.out; unfold Room at this ⊢; omega) q
      have hxy' : (x : Int) + z ≤ tz := by omega
      have hy' : (tz : Int) ≤ E.d.size := by omega
      have hx0 : (x : Int) + z ≤ 140737488355328 := by have := hc.size; omega
      clear hc hN hdv hka hi hI hroom hm hk hd
      go_enter Tryz.func102, Tryz.ntmps102
      go_wp2_with fail
      go_quiet (fail)
      go_wp2_with fail
      rw [show (x : Int) + (z : Int) = ((x + z : Nat) : Int) by omega]
      refine (HCH.out _ ((HW1.out _ _).below (below_drewN (Below.refl _ _) _))).mono ?_
      rintro e w3 ⟨rfl, ha3⟩
      have HA3 : Hid (AfterR E W R a c o tree p w w3) := ha3.of (FW.out _ _ _)
      clear ha3
      go_wp2
      go_returns
      exact ⟨rfl, HA3.out⟩
  · rw [if_pos ⟨by omega, q⟩] at hm
    have HOE : Hid (o = .error (4, (x : Int))) := (Option.some.inj hm).symm
    have q' : (gc != cl) = true ∨ ((gc != cl) = false ∧ (gn != nu) = true) ∨ ((gc != cl) = false ∧ (gn != nu) = false ∧ gb = false) := by
      by_cases q1 : gc = cl
      · by_cases q2 : gn = nu
        · right; right
          refine ⟨by simp [q1], by simp [q2], ?_⟩
          cases gb
          · rfl
          · exact absurd ⟨q1, q2, rfl⟩ q
        · right; left; exact ⟨by simp [q1], by simp [q2]⟩
      · left; simp [q1]
    clear hc hN hdv hka hi hI hroom hm hk q hbt
    rcases q' with e1 | ⟨e1, e2⟩ | ⟨e1, e2, rfl⟩
    · go_enter Tryz.func102, Tryz.ntmps102
      go_wp2_with fail
      refine (stop_first W _ R a E.s.length c E.d tree p 4 x (HW1.out _ _)).mono ?_
      rintro e w2 ⟨rfl, hI2, hoth⟩
      have HI2 : Hid (RdI W w2 R a E.s.length c E.d tree 4 x) := hI2
      have HFR : Hid (Fr R w w2) := (FW.out _ _ 0).trans (Fr.of_same hoth)
      clear hI2 hoth
      go_wp2
      go_returns
      refine ⟨rfl, tree, 4, x, HI2.out, ?_, HFR.out⟩
      rw [HOE.out]
      exact ⟨rfl, rfl, by decide⟩
    · go_enter Tryz.func102, Tryz.ntmps102
      go_wp2_with fail
      refine (stop_first W _ R a E.s.length c E.d tree p 4 x (HW1.out _ _)).mono ?_
      rintro e w2 ⟨rfl, hI2, hoth⟩
      have HI2 : Hid (RdI W w2 R a E.s.length c E.d tree 4 x) := hI2
      have HFR : Hid (Fr R w w2) := (FW.out _ _ 0).trans (Fr.of_same hoth)
      clear hI2 hoth
      go_wp2
      go_returns
      refine ⟨rfl, tree, 4, x, HI2.out, ?_, HFR.out⟩
      rw [HOE.out]
      exact ⟨rfl, rfl, by decide⟩
    · go_enter Tryz.func102, Tryz.ntmps102
      go_wp2_with fail
      refine (stop_first W _ R a E.s.length c E.d tree p 4 x (HW1.out _ _)).mono ?_
      rintro e w2 ⟨rfl, hI2, hoth⟩
      have HI2 : Hid (RdI W w2 R a E.s.length c E.d tree 4 x) := hI2
      have HFR : Hid (Fr R w w2) := (FW.out _ _ 0).trans (Fr.of_same hoth)
      clear hI2 hoth
      go_wp2
      go_returns
      refine ⟨rfl, tree, 4, x, HI2.out, ?_, HFR.out⟩
      rw [HOE.out]
      exact ⟨rfl, rfl, by decide⟩

end Go.Proofs.YtkkicodfpekbgaaGreatDoor

/-! The document's reader: bare of every kind, Own0. -/
namespace Go.Proofs.YtkkicodfpekbgaaGreatDoor
set_option linter.unusedSimpArgs false
set_option linter.unusedVariables false
open Go.RowKit

/-- What bare answers, with so much fuel. -/
def BareC (E : Env) (W : World) (R : Nat) (a : Option Addr) (c f : Nat) : Prop :=
  ∀ (i : Nat) (ka : Option Addr) (kc : Nat) (cl nu gc : Int) (gb : Bool) (gn : Int) (z : Nat) (gl : Int) (x tz : Nat) (dp : Int) (o : Out) (tree : List Vl) (p : Int) (w : World), i < E.s.length → KidsIn W ka (nd E.s i).kids → (nd E.s i).kids.length ≤ kc →
    bareF E (rdF E f) f (nd E.s i) cl nu ⟨gc, gb, gn, (z : Int), gl⟩ x tz dp = some o → x + z ≤ tz → tz ≤ E.d.size → 1 ≤ dp → dp ≤ 13 → Room tree (f + 1) x tz → RdI W w R a E.s.length c E.d tree 0 p →
    Calls Tryz.prog 102 #[.pointer (some ⟨R, 0, none⟩), .agg #[.int .i64 (nd E.s i).kind, .int .i64 (nd E.s i).tag, .int .i64 (nd E.s i).mode, .slice ka (nd E.s i).kids.length kc], .int .i64 cl, .int .i64 nu, .agg #[.int .i64 gc, .bool gb, .int .i64 gn, .int .i64 z, .int .i64 gl], .int .i64 x, .int .i64 tz, .int .i64 dp] w
      fun e w' => e = .returned (.tuple #[]) ∧ AfterR E W R a c o tree p w w'

theorem bare_19 (E : Env) (W : World) (R : Nat) (a : Option Addr) (c f : Nat) (hc : RC E W a) (i : Nat) (ka : Option Addr) (kc : Nat)
    (cl nu gc : Int) (gb : Bool) (gn : Int) (z : Nat) (gl : Int) (x tz : Nat) (dp : Int) (o : Out) (tree : List Vl) (p : Int) (w : World) (hk1 : 1 ≤ (nd E.s i).kind) (hk9 : (nd E.s i).kind ≤ 9) (hm : bareF E (rdF E f) f (nd E.s i) cl nu ⟨gc, gb, gn, (z : Int), gl⟩ x tz dp = some o) (hxz : x + z ≤ tz) (hz : tz ≤ E.d.size) (hroom : Room tree (f + 1) x tz) (hI : RdI W w R a E.s.length c E.d tree 0 p) :
    Calls Tryz.prog 102 #[.pointer (some ⟨R, 0, none⟩), .agg #[.int .i64 (nd E.s i).kind, .int .i64 (nd E.s i).tag, .int .i64 (nd E.s i).mode, .slice ka (nd E.s i).kids.length kc], .int .i64 cl, .int .i64 nu, .agg #[.int .i64 gc, .bool gb, .int .i64 gn, .int .i64 z, .int .i64 gl], .int .i64 x, .int .i64 tz, .int .i64 dp] w
      fun e w' => e = .returned (.tuple #[]) ∧ AfterR E W R a c o tree p w w' := by
  have hl0 : tree.length ≤ 1099511627776 := by unfold Room at hroom; omega
  refine (bare_leaf W w R a E.s.length c E.d tree p (nd E.s i) ka kc cl nu gc gb gn z gl x tz dp hI hk1 hk9 hxz hz (by have := hc.size; omega) hl0).mono ?_
  rintro e w' ⟨rfl, t', e', p', hI', hB, hF⟩
  refine ⟨rfl, t', e', p', hI', ?_, hF⟩
  unfold bareF at hm
  have hbt : decide (10 ≤ (nd E.s i).kind ∧ (nd E.s i).kind ≤ 12) = false := by rw [decide_eq_false_iff_not]; omega
  rw [if_neg (by omega), hbt] at hm
  have k14 : (nd E.s i).kind ≠ 14 := by omega
  rcases hB with ⟨q, rfl, rfl, rfl⟩ | ⟨q, hd, rfl, rfl, rfl⟩ | ⟨q, hd, hok, rfl, rfl, rfl⟩ | ⟨q, hd, hok, rfl, rfl, rfl⟩
  · rw [if_pos ⟨k14, q⟩] at hm
    obtain rfl := Option.some.inj hm
    exact ⟨rfl, rfl, by decide⟩
  all_goals rw [if_neg (fun h => h.2 q)] at hm
  · rw [if_pos hd] at hm
    obtain rfl := Option.some.inj hm
    exact ⟨rfl, rfl, by decide⟩
  all_goals
    rw [if_neg (by omega), if_neg k14, if_neg (by omega), if_neg (by omega)] at hm
    simp only [Int.toNat_natCast] at hm
  · rw [if_pos ((hc.ok _ _).2 hok)] at hm
    obtain rfl := Option.some.inj hm
    exact ⟨rfl, rfl, rfl⟩
  · rw [if_neg (fun h => hok ((hc.ok _ _).1 h))] at hm
    obtain rfl := Option.some.inj hm
    exact ⟨rfl, rfl, by decide⟩

theorem bare_any (E : Env) (W : World) (R : Nat) (a : Option Addr) (c f : Nat) (hc : RC E W a) (hdv : DvOk E) (hN : NodeC E W R a c f) : BareC E W R a c f := by
  intro i ka kc cl nu gc gb gn z gl x tz dp o tree p w hi hka hkc hm hxz hz hd1 hd2 hroom hI
  have hk := kinds_of hc.right.2.2.1 i hi
  by_cases k9 : (nd E.s i).kind ≤ 9
  · exact bare_19 E W R a c f hc i ka kc cl nu gc gb gn z gl x tz dp o tree p w hk.1 k9 hm hxz hz hroom hI
  by_cases k10 : (nd E.s i).kind = 10
  · exact bare_10 E W R a c f hc hdv hN i hi ka kc hka hkc cl nu gc gb gn z gl x tz dp o tree p w k10 hm hxz hz hd1 hd2 hroom hI
  by_cases k11 : (nd E.s i).kind = 11 ∨ (nd E.s i).kind = 12
  · exact bare_11 E W R a c f hc hdv hN i hi ka kc hka hkc cl nu gc gb gn z gl x tz dp o tree p w k11 hm hxz hz hd1 hd2 hroom hI
  by_cases k13 : (nd E.s i).kind = 13
  · exact bare_13 E W R a c f hc hdv hN i hi ka kc hka hkc cl nu gc gb gn z gl x tz dp o tree p w k13 hm hxz hz hd1 hd2 hroom hI
  · exact bare_14 E W R a c f hc hdv hN i hi ka kc hka hkc cl nu gc gb gn z gl x tz dp o tree p w (by omega) hm hxz hz hd1 hd2 hroom hI

set_option maxHeartbeats 1000000 in
set_option maxRecDepth 100000 in
theorem own0_all (k : Int) (h : 0 ≤ k) (w : World) :
    Calls Tryz.prog 103 #[.int .i64 k] w fun e w' => e = .returned (.int .i64 (own0 k)) ∧ Below w.heap.size w w' := by
  by_cases h12 : 12 < k
  · have HE : Hid (own0 k = 0) := by show own0 k = 0; unfold own0; rw [if_pos h12]
    go_enter Tryz.func103, Tryz.ntmps103
    go_wp2
    go_ret
    exact ⟨by rw [HE.out]; rfl, Below.refl _ _⟩
  · have e : own0 k = own k := by unfold own0; rw [if_neg h12]
    rw [e]
    exact own0_any k h (by omega) w
end Go.Proofs.YtkkicodfpekbgaaGreatDoor

/-! The document's reader: node, in general. -/
namespace Go.Proofs.YtkkicodfpekbgaaGreatDoor
set_option linter.unusedSimpArgs false
set_option linter.unusedVariables false
open Go.RowKit

set_option maxHeartbeats 8000000 in
set_option maxRecDepth 100000 in
theorem node_step (E : Env) (W : World) (R : Nat) (a : Option Addr) (c f : Nat) (hc : RC E W a) (hdv : DvOk E) (hN : NodeC E W R a c f) : NodeC E W R a c (f + 1) := by
  intro i x y dp o tree p w hm hi hxy hy hd1 hd2 hroom hI
  have HER : Hid (IsErr o) := rdF_err _ _ _ _ _ _ hm
  have HB : Hid (BareC E W R a c f) := bare_any E W R a c f hc hdv hN
  have HC : Hid (RC E W a) := hc
  have HI : Hid (RdI W w R a E.s.length c E.d tree 0 p) := hI
  have HRO : Hid (Room tree (f + 1) x y) := hroom
  have hRl : R < w.heap.size := lt_of_cell hI.r0
  have hk := kinds_of hc.right.2.2.1 i hi
  have HK : Hid (1 ≤ (nd E.s i).kind) := hk.1
  have hs40 := hc.right.fine.len
  have h4k := hc.size
  obtain ⟨ab, ao, ka, kc, rfl, hnc, hkc, hkm, hka⟩ := hc.sch i hi
  have HKI : Hid (KidsIn W ka (nd E.s i).kids) := hka
  obtain ⟨n0, n1, n2, n3⟩ := hnc.below hI.bel
  have r0 := hI.r0
  have hi' : (i : Int) < E.s.length := by omega
  have HOW : Hid (∀ wq, Calls Tryz.prog 103 #[.int .i64 (nd E.s i).kind] wq fun e w' => e = .returned (.int .i64 (own0 (nd E.s i).kind)) ∧ Below wq.heap.size wq w') := fun wq => own0_all _ (by omega) wq
  have RUN0 : Hid (∀ args w, (callFunc 103 args).run Tryz.prog w = .ok (.enter 103 args) w) := fun args w => run_enter Tryz.func103 (by kernel_rfl) (by rfl) args w
  have RUN1 : Hid (∀ args w, (callFunc 102 args).run Tryz.prog w = .ok (.enter 102 args) w) := fun args w => run_enter Tryz.func102 (by kernel_rfl) (by rfl) args w
  obtain ⟨G, hG⟩ : ∃ G, hd (E.d.extract x y) = G := ⟨_, rfl⟩
  have hEG : E.hd x y = G := hG
  rw [rdF, hEG] at hm
  have HM : Hid ((if G.1 ≠ 0 then some (.error (G.1, (x : Int))) else valF E (rdF E f) f i G.2 x (fin x G.2) dp) = some o) := hm
  have HRH : Hid (∀ (x y : Nat) (ge gc : Int) (gb : Bool) (gn gs gl : Int) (wq : World), hd (E.d.extract x y) = (ge, ⟨gc, gb, gn, gs, gl⟩) → x ≤ y → y ≤ E.d.size → RdI W wq R (some ⟨ab, ao, none⟩) E.s.length c E.d tree 0 p → Calls Tryz.prog 101 #[.pointer (some ⟨R, 0, none⟩), .int .i64 x, .int .i64 y] wq fun e w' => e = .returned (.agg #[.int .i64 gc, .bool gb, .int .i64 gn, .int .i64 gs, .int .i64 gl]) ∧ RdI W w' R (some ⟨ab, ao, none⟩) E.s.length c E.d tree ge (if ge = 0 then p else x) ∧ Fr R wq w') := fun x y ge gc gb gn gs gl wq hG h1 h2 q => by
    have := rdhead_any W wq R (some ⟨ab, ao, none⟩) E.s.length c E.d tree p x y q h1 h2 (by omega)
    rw [hG] at this
    exact this
  have HEG : Hid (E.hd x y = G) := hEG
  have HGH : Hid (hd (E.d.extract x y) = G) := hG
  have HNB : Hid (∀ A, RdI W (w.alloc A) R (some ⟨ab, ao, none⟩) E.s.length c E.d tree 0 p ∧ Fr R w (w.alloc A)) := fun A => ⟨hI.below ((Below.refl _ _).alloc (Nat.le_refl _) _), Fr.of_below ((Below.refl _ _).alloc (Nat.le_refl _) _)⟩
  clear hc hdv hN hI hroom hnc hka hm hEG hG hk hi
  obtain ⟨ge, gc, gb, gn, gs, gl⟩ := G
  simp only at HM
  go_enter Tryz.func69, Tryz.ntmps69
  go_wp2_with fail
  refine (HRH.out x y ge gc gb gn gs gl _ HGH.out hxy hy (HNB.out _).1).mono ?_
  rintro e w2 ⟨rfl, hI2, hf2⟩
  have HF2 : Hid (Fr R w w2) := (HNB.out _).2.trans hf2
  have HG2 : Hid (w2.heap[w.heap.size]? = some (.cells #[.int .i64 (nd E.s i).kind, .int .i64 (nd E.s i).tag, .int .i64 (nd E.s i).mode, .slice ka (nd E.s i).kids.length kc] 58 (0, 0))) := hf2 _ _ _ (by omega) (by decide) (heap_alloc_new w _)
  clear n0 n1 n2 n3 r0 hf2
  have hw2 : w.heap.size < w2.heap.size := row_lt HG2.out
  by_cases hge : ge = 0
  · subst hge
    rw [if_pos rfl] at hI2
    have HI2 : Hid (RdI W w2 R (some ⟨ab, ao, none⟩) E.s.length c E.d tree 0 p) := hI2
    have hfin := fin_le (E := E) (x := x) (y := y) (by rw [HEG.out])
    have hfi := fin_int (E := E) (x := x) (y := y) (by rw [HEG.out])
    have hok := hd_ok (r := E.d.extract x y) (by rw [HGH.out])
    rw [HGH.out] at hok
    rw [HEG.out] at hfin hfi
    unfold fin at hfin hfi
    simp only at hfin hfi hok
    obtain ⟨z, rfl⟩ : ∃ z : Nat, gs = z := ⟨gs.toNat, by omega⟩
    obtain ⟨l, rfl⟩ : ∃ l : Nat, gl = l := ⟨gl.toNat, by omega⟩
    simp only [Int.toNat_natCast] at hfin hfi
    have HMV : Hid (valF E (rdF E f) f i ⟨gc, gb, gn, (z : Int), (l : Int)⟩ x (x + z + l) dp = some o) := by
      show valF _ _ _ _ _ _ _ _ = _
      have := HM.out
      rw [if_neg (by decide)] at this
      unfold fin at this
      simpa only [Int.toNat_natCast] using this
    clear HM hfi hok hI2
    have s3 := HI2.out.r3
    have hb1 : (x : Int) + z ≤ 140737488355328 := by omega
    have hb2 : (x : Int) + z + l ≤ 140737488355328 := by omega
    have hR2 : R < w2.heap.size := lt_of_cell s3
    have HI3 : Hid (RdI W (w2.alloc (.cells #[.int .i64 gc, .bool gb, .int .i64 gn, .int .i64 z, .int .i64 l] 179)) R (some ⟨ab, ao, none⟩) E.s.length c E.d tree 0 p) := HI2.out.below ((Below.refl _ _).alloc (Nat.le_refl _) _)
    have HF3 : Hid (Fr R w (w2.alloc (.cells #[.int .i64 gc, .bool gb, .int .i64 gn, .int .i64 z, .int .i64 l] 179))) := HF2.out.below ((Below.refl _ _).alloc (Nat.le_refl _) _)
    have HG3 : Hid ((w2.alloc (.cells #[.int .i64 gc, .bool gb, .int .i64 gn, .int .i64 z, .int .i64 l] 179)).heap[w.heap.size]? = some (.cells #[.int .i64 (nd E.s i).kind, .int .i64 (nd E.s i).tag, .int .i64 (nd E.s i).mode, .slice ka (nd E.s i).kids.length kc] 58 (0, 0))) := block_below HG2.out ((Below.refl _ _).alloc (Nat.le_refl _) _)
    have HH3 : Hid ((w2.alloc (.cells #[.int .i64 gc, .bool gb, .int .i64 gn, .int .i64 z, .int .i64 l] 179)).heap[w2.heap.size]? = some (.cells #[.int .i64 gc, .bool gb, .int .i64 gn, .int .i64 z, .int .i64 l] 179 (0, 0))) := heap_alloc_new w2 _
    have HSS : Hid (∀ w' : World, w'.heap[w.heap.size]? = some (.cells #[.int .i64 (nd E.s i).kind, .int .i64 (nd E.s i).tag, .int .i64 (nd E.s i).mode, .slice ka (nd E.s i).kids.length kc] 58 (0, 0)) → w'.heap[w2.heap.size]? = some (.cells #[.int .i64 gc, .bool gb, .int .i64 gn, .int .i64 z, .int .i64 l] 179 (0, 0)) → w'.cell? ⟨w.heap.size, 0, none⟩ = some (.int .i64 (nd E.s i).kind) ∧ w'.cell? ⟨w.heap.size, 1, none⟩ = some (.int .i64 (nd E.s i).tag) ∧ w'.cell? ⟨w.heap.size, 2, none⟩ = some (.int .i64 (nd E.s i).mode) ∧ w'.cell? ⟨w.heap.size, 3, none⟩ = some (.slice ka (nd E.s i).kids.length kc) ∧ w'.cell? ⟨w2.heap.size, 0, none⟩ = some (.int .i64 gc) ∧ w'.cell? ⟨w2.heap.size, 1, none⟩ = some (.bool gb) ∧ w'.cell? ⟨w2.heap.size, 2, none⟩ = some (.int .i64 gn) ∧ w'.cell? ⟨w2.heap.size, 3, none⟩ = some (.int .i64 z) ∧ w'.cell? ⟨w2.heap.size, 4, none⟩ = some (.int .i64 l)) := fun w' q1 q2 => ⟨cell_of_row q1 rfl, cell_of_row q1 rfl, cell_of_row q1 rfl, cell_of_row q1 rfl, cell_of_row q2 rfl, cell_of_row q2 rfl, cell_of_row q2 rfl, cell_of_row q2 rfl, cell_of_row q2 rfl⟩
    have HBD : Hid (∀ w3, Below (w2.alloc (.cells #[.int .i64 gc, .bool gb, .int .i64 gn, .int .i64 z, .int .i64 l] 179)).drew.heap.size (w2.alloc (.cells #[.int .i64 gc, .bool gb, .int .i64 gn, .int .i64 z, .int .i64 l] 179)).drew w3 → RdI W w3 R (some ⟨ab, ao, none⟩) E.s.length c E.d tree 0 p ∧ Fr R w w3 ∧ w3.heap[w.heap.size]? = some (.cells #[.int .i64 (nd E.s i).kind, .int .i64 (nd E.s i).tag, .int .i64 (nd E.s i).mode, .slice ka (nd E.s i).kids.length kc] 58 (0, 0)) ∧ w3.heap[w2.heap.size]? = some (.cells #[.int .i64 gc, .bool gb, .int .i64 gn, .int .i64 z, .int .i64 l] 179 (0, 0))) := fun w3 q => by
      have q2 : Below (w2.alloc (.cells #[.int .i64 gc, .bool gb, .int .i64 gn, .int .i64 z, .int .i64 l] 179)).heap.size (w2.alloc (.cells #[.int .i64 gc, .bool gb, .int .i64 gn, .int .i64 z, .int .i64 l] 179)) w3 := (below_drewN (Below.refl _ _) 1).trans q
      exact ⟨HI3.out.below q2, HF3.out.below q2, block_below HG3.out q2, block_below HH3.out q2⟩
    have n1 : w2.cell? ⟨w.heap.size, 1, none⟩ = some (.int .i64 (nd E.s i).tag) := cell_of_row HG2.out rfl
    have n2 : w2.cell? ⟨w.heap.size, 2, none⟩ = some (.int .i64 (nd E.s i).mode) := cell_of_row HG2.out rfl
    by_cases htg : (nd E.s i).tag < 0
    · have HBB : Hid (∀ wq, RdI W wq R (some ⟨ab, ao, none⟩) E.s.length c E.d tree 0 p → Calls Tryz.prog 102 #[.pointer (some ⟨R, 0, none⟩), .agg #[.int .i64 (nd E.s i).kind, .int .i64 (nd E.s i).tag, .int .i64 (nd E.s i).mode, .slice ka (nd E.s i).kids.length kc], .int .i64 0, .int .i64 (own0 (nd E.s i).kind), .agg #[.int .i64 gc, .bool gb, .int .i64 gn, .int .i64 z, .int .i64 l], .int .i64 x, .int .i64 ((x : Int) + z + l), .int .i64 dp] wq fun e w' => e = .returned (.tuple #[]) ∧ AfterR E W R (some ⟨ab, ao, none⟩) c o tree p wq w') := fun wq q => by
        have hv := HMV.out
        unfold valF at hv
        rw [if_pos htg] at hv
        rw [show (x : Int) + z + l = ((x + z + l : Nat) : Int) by omega]
        exact HB.out i ka kc _ _ gc gb gn z l x (x + z + l) dp o tree p wq (by omega) HKI.out hkc hv (by omega) (by omega) hd1 hd2 (by have := HRO.out; unfold Room at this ⊢; omega) q
      have HEND : Hid (∀ vs (z' : Nat), o = .ok (vs, z') → (x : Int) + z + l = z') := fun vs z' e => by
        have hv := HMV.out
        subst e
        have := valF_fin hv
        omega
      go_wp2_with fail
      go_region_held_law (fun w' => w'.cell? ⟨w.heap.size, 0, none⟩ = some (.int .i64 (nd E.s i).kind) ∧ w'.cell? ⟨w.heap.size, 1, none⟩ = some (.int .i64 (nd E.s i).tag) ∧ w'.cell? ⟨w.heap.size, 2, none⟩ = some (.int .i64 (nd E.s i).mode) ∧ w'.cell? ⟨w.heap.size, 3, none⟩ = some (.slice ka (nd E.s i).kids.length kc) ∧ w'.cell? ⟨w2.heap.size, 0, none⟩ = some (.int .i64 gc) ∧ w'.cell? ⟨w2.heap.size, 1, none⟩ = some (.bool gb) ∧ w'.cell? ⟨w2.heap.size, 2, none⟩ = some (.int .i64 gn) ∧ w'.cell? ⟨w2.heap.size, 3, none⟩ = some (.int .i64 z) ∧ w'.cell? ⟨w2.heap.size, 4, none⟩ = some (.int .i64 l)) (exact HSS.out _ (by first | exact hG4 | exact hG3 | exact HG3.out) (by first | exact hH4 | exact hH3 | exact HH3.out)) (first | (go_at_call 103; refine (HOW.out _).mono ?_; rintro e w3 ⟨rfl, hb3⟩; obtain ⟨hI3, hF3, hG3, hH3⟩ := HBD.out _ hb3; clear hb3) | (go_at_call 102; refine (HBB.out _ hI3).mono ?_; rintro e w4 ⟨rfl, ha4⟩; have hA4 := ha4.of hF3; obtain ⟨_, _, _, _, _, hF4⟩ := ha4; have hG4 := hF4 _ _ _ (by omega) (by decide) hG3; have hH4 := hF4 _ _ _ (by omega) (by decide) hH3; clear hF4))
      have HA4 := hide hA4
      clear hA4 hG4 hH4 hI3 hF3 hG3 hH3
      go_wp2
      go_ret
      exact ⟨_, rfl, HA4.out, HEND.out⟩
    · have htg' : (0 : Int) ≤ (nd E.s i).tag := by omega
      have HEND : Hid (∀ vs (z' : Nat), o = .ok (vs, z') → (x : Int) + z + l = z') := fun vs z' e => by
        have hv := HMV.out
        subst e
        have := valF_fin hv
        omega
      by_cases hmd : (nd E.s i).mode = 0
      · have hmd' : ((nd E.s i).mode == 0) = true := by simp [hmd]
        have HBB : Hid (∀ wq, RdI W wq R (some ⟨ab, ao, none⟩) E.s.length c E.d tree 0 p → Calls Tryz.prog 102 #[.pointer (some ⟨R, 0, none⟩), .agg #[.int .i64 (nd E.s i).kind, .int .i64 (nd E.s i).tag, .int .i64 (nd E.s i).mode, .slice ka (nd E.s i).kids.length kc], .int .i64 2, .int .i64 (nd E.s i).tag, .agg #[.int .i64 gc, .bool gb, .int .i64 gn, .int .i64 z, .int .i64 l], .int .i64 x, .int .i64 ((x : Int) + z + l), .int .i64 dp] wq fun e w' => e = .returned (.tuple #[]) ∧ AfterR E W R (some ⟨ab, ao, none⟩) c o tree p wq w') := fun wq q => by
          have hv := HMV.out
          unfold valF at hv
          rw [if_neg htg, if_pos hmd] at hv
          rw [show (x : Int) + z + l = ((x + z + l : Nat) : Int) by omega]
          exact HB.out i ka kc _ _ gc gb gn z l x (x + z + l) dp o tree p wq (by omega) HKI.out hkc hv (by omega) (by omega) hd1 hd2 (by have := HRO.out; unfold Room at this ⊢; omega) q
        have m0 : w2.cell? ⟨w.heap.size, 0, none⟩ = some (.int .i64 (nd E.s i).kind) := cell_of_row HG2.out rfl
        have m3 : w2.cell? ⟨w.heap.size, 3, none⟩ = some (.slice ka (nd E.s i).kids.length kc) := cell_of_row HG2.out rfl
        clear hmd htg
        go_wp2_with fail
        refine (HBB.out _ HI3.out).mono ?_
        rintro e w4 ⟨rfl, ha4⟩
        have HA4 : Hid (AfterR E W R (some ⟨ab, ao, none⟩) c o tree p w w4) := ha4.of HF3.out
        clear ha4
        go_wp2
        go_ret
        exact ⟨_, rfl, HA4.out, HEND.out⟩
      · have hmd' : ((nd E.s i).mode == 0) = false := by simp [hmd]
        have hv := HMV.out
        unfold valF at hv
        rw [if_neg htg, if_neg hmd] at hv
        simp only [Int.toNat_natCast] at hv
        clear hmd htg
        by_cases q : gc = 2 ∧ gn = (nd E.s i).tag ∧ gb = true
        · rw [if_neg (fun h => h q)] at hv
          obtain ⟨rfl, hgn, rfl⟩ := q
          have hgn' : (gn != (nd E.s i).tag) = false := by simp [hgn]
          clear hgn
          by_cases hdp : 12 < dp
          · rw [if_pos hdp] at hv
            have HOE : Hid (o = .error (10, (x : Int))) := (Option.some.inj hv).symm
            clear hv
            go_wp2_with fail
            refine (stop_first W _ R (some ⟨ab, ao, none⟩) E.s.length c E.d tree p 10 x HI3.out).mono ?_
            rintro e w4 ⟨rfl, hI4, hoth⟩
            have HI4 : Hid (RdI W w4 R (some ⟨ab, ao, none⟩) E.s.length c E.d tree 10 x) := hI4
            have HF4 : Hid (Fr R w w4) := HF3.out.trans (Fr.of_same hoth)
            clear hI4 hoth
            go_wp2
            go_ret
            exact ⟨_, rfl, ⟨tree, 10, x, HI4.out, out_err HER.out HOE.out _ _ _, HF4.out⟩, fun vs z' e => by rw [HOE.out] at e; cases e⟩
          · rw [if_neg hdp] at hv
            have hd' : dp ≤ 12 := by omega
            obtain ⟨G2, hG2⟩ : ∃ G, hd (E.d.extract (x + z) (x + z + l)) = G := ⟨_, rfl⟩
            have hEG2 : E.hd (x + z) (x + z + l) = G2 := hG2
            rw [hEG2] at hv
            obtain ⟨ke, kc2, kb2, kn2, ks2, kl2⟩ := G2
            have HV : Hid ((if (ke, (⟨kc2, kb2, kn2, ks2, kl2⟩ : Hd)).1 ≠ 0 then some (.error ((ke, (⟨kc2, kb2, kn2, ks2, kl2⟩ : Hd)).1, ((x + z : Nat) : Int))) else
                Out.andThen (bareF E (rdF E f) f (nd E.s i) 0 (own0 (nd E.s i).kind) ⟨kc2, kb2, kn2, ks2, kl2⟩ (x + z) (fin (x + z) ⟨kc2, kb2, kn2, ks2, kl2⟩) dp) fun vs _ => if fin (x + z) ⟨kc2, kb2, kn2, ks2, kl2⟩ < x + z + l then some (.error (7, ((fin (x + z) ⟨kc2, kb2, kn2, ks2, kl2⟩ : Nat) : Int))) else some (.ok (vs, x + z + l))) = some o) := hv
            have HEG2 : Hid (E.hd (x + z) (x + z + l) = (ke, ⟨kc2, kb2, kn2, ks2, kl2⟩)) := hEG2
            have HGH2 : Hid (hd (E.d.extract (x + z) (x + z + l)) = (ke, ⟨kc2, kb2, kn2, ks2, kl2⟩)) := hG2
            clear hv hG2 hEG2 hdp
            have HRH2 : Hid (∀ wq, RdI W wq R (some ⟨ab, ao, none⟩) E.s.length c E.d tree 0 p → Calls Tryz.prog 101 #[.pointer (some ⟨R, 0, none⟩), .int .i64 ((x : Int) + z), .int .i64 ((x : Int) + z + l)] wq fun e w' => e = .returned (.agg #[.int .i64 kc2, .bool kb2, .int .i64 kn2, .int .i64 ks2, .int .i64 kl2]) ∧ RdI W w' R (some ⟨ab, ao, none⟩) E.s.length c E.d tree ke (if ke = 0 then p else ((x + z : Nat) : Int)) ∧ Fr R wq w') := fun wq q => by
              have := HRH.out (x + z) (x + z + l) ke kc2 kb2 kn2 ks2 kl2 wq HGH2.out (by omega) (by omega) q
              rw [show ((x + z + l : Nat) : Int) = (x : Int) + z + l by omega, show ((x + z : Nat) : Int) = (x : Int) + z by omega] at this
              rw [show ((x + z : Nat) : Int) = (x : Int) + z by omega]
              exact this
            go_wp2_with fail
            refine (HRH2.out _ HI3.out).mono ?_
            rintro e w5 ⟨rfl, hI5, hf5⟩
            have HF5 : Hid (Fr R w w5) := HF3.out.trans hf5
            have HG5 : Hid (w5.heap[w.heap.size]? = some (.cells #[.int .i64 (nd E.s i).kind, .int .i64 (nd E.s i).tag, .int .i64 (nd E.s i).mode, .slice ka (nd E.s i).kids.length kc] 58 (0, 0))) := hf5 _ _ _ (by omega) (by decide) HG3.out
            have HH5 : Hid (w5.heap[w2.heap.size]? = some (.cells #[.int .i64 2, .bool true, .int .i64 gn, .int .i64 z, .int .i64 l] 179 (0, 0))) := hf5 _ _ _ (by omega) (by decide) HH3.out
            have hw5 : w2.heap.size < w5.heap.size := row_lt HH5.out
            have hR5 : R < w5.heap.size := by omega
            have hwl5 : w.heap.size < w5.heap.size := by omega
            clear hf5 n1 n2
            have u3 : w5.cell? ⟨w2.heap.size, 3, none⟩ = some (.int .i64 z) := cell_of_row HH5.out rfl
            by_cases hke : ke = 0
            · subst hke
              rw [if_pos rfl] at hI5
              have hfin2 := fin_le (E := E) (x := x + z) (y := x + z + l) (by rw [HEG2.out])
              have hok2 := hd_ok (r := E.d.extract (x + z) (x + z + l)) (by rw [HGH2.out])
              rw [HGH2.out] at hok2
              rw [HEG2.out] at hfin2
              unfold fin at hfin2
              simp only at hfin2 hok2
              obtain ⟨z2, rfl⟩ : ∃ z2 : Nat, ks2 = z2 := ⟨ks2.toNat, by omega⟩
              obtain ⟨l2, rfl⟩ : ∃ l2 : Nat, kl2 = l2 := ⟨kl2.toNat, by omega⟩
              simp only [Int.toNat_natCast] at hfin2
              have hV2 : Out.andThen (bareF E (rdF E f) f (nd E.s i) 0 (own0 (nd E.s i).kind) ⟨kc2, kb2, kn2, (z2 : Int), (l2 : Int)⟩ (x + z) (x + z + z2 + l2) dp) (fun vs _ => if x + z + z2 + l2 < x + z + l then some (.error (7, ((x + z + z2 + l2 : Nat) : Int))) else some (.ok (vs, x + z + l))) = some o := by
                have := HV.out
                rw [if_neg (fun h => h rfl)] at this
                unfold fin at this
                simpa only [Int.toNat_natCast] using this
              obtain ⟨o1, ho1, hcase⟩ : ∃ o1, bareF E (rdF E f) f (nd E.s i) 0 (own0 (nd E.s i).kind) ⟨kc2, kb2, kn2, (z2 : Int), (l2 : Int)⟩ (x + z) (x + z + z2 + l2) dp = some o1 ∧ ((∃ u, o1 = .error u ∧ o = .error u) ∨ ∃ vs zz, o1 = .ok (vs, zz) ∧ ((x + z + z2 + l2 < x + z + l ∧ o = .error (7, ((x + z + z2 + l2 : Nat) : Int))) ∨ (¬ x + z + z2 + l2 < x + z + l ∧ o = .ok (vs, x + z + l)))) := by
                rcases andThen_cases hV2 with ⟨u, h1, h2⟩ | ⟨vs, zz, h1, h2⟩
                · exact ⟨_, h1, .inl ⟨u, rfl, h2⟩⟩
                · refine ⟨_, h1, .inr ⟨vs, zz, rfl, ?_⟩⟩
                  split at h2
                  · rename_i q; exact .inl ⟨q, (Option.some.inj h2).symm⟩
                  · rename_i q; exact .inr ⟨q, (Option.some.inj h2).symm⟩
              have HCA : Hid ((∃ u, o1 = .error u ∧ o = .error u) ∨ ∃ vs zz, o1 = .ok (vs, zz) ∧ ((x + z + z2 + l2 < x + z + l ∧ o = .error (7, ((x + z + z2 + l2 : Nat) : Int))) ∨ (¬ x + z + z2 + l2 < x + z + l ∧ o = .ok (vs, x + z + l)))) := hcase
              have HI5 : Hid (RdI W w5 R (some ⟨ab, ao, none⟩) E.s.length c E.d tree 0 p) := hI5
              have s5 := hI5.r3
              have HI6 : Hid (RdI W (w5.alloc (.cells #[.int .i64 kc2, .bool kb2, .int .i64 kn2, .int .i64 z2, .int .i64 l2] 179)) R (some ⟨ab, ao, none⟩) E.s.length c E.d tree 0 p) := hI5.below ((Below.refl _ _).alloc (Nat.le_refl _) _)
              have HF6 : Hid (Fr R w (w5.alloc (.cells #[.int .i64 kc2, .bool kb2, .int .i64 kn2, .int .i64 z2, .int .i64 l2] 179))) := HF5.out.below ((Below.refl _ _).alloc (Nat.le_refl _) _)
              have HG6 : Hid ((w5.alloc (.cells #[.int .i64 kc2, .bool kb2, .int .i64 kn2, .int .i64 z2, .int .i64 l2] 179)).heap[w.heap.size]? = some (.cells #[.int .i64 (nd E.s i).kind, .int .i64 (nd E.s i).tag, .int .i64 (nd E.s i).mode, .slice ka (nd E.s i).kids.length kc] 58 (0, 0))) := block_below HG5.out ((Below.refl _ _).alloc (Nat.le_refl _) _)
              have HH6 : Hid ((w5.alloc (.cells #[.int .i64 kc2, .bool kb2, .int .i64 kn2, .int .i64 z2, .int .i64 l2] 179)).heap[w2.heap.size]? = some (.cells #[.int .i64 2, .bool true, .int .i64 gn, .int .i64 z, .int .i64 l] 179 (0, 0))) := block_below HH5.out ((Below.refl _ _).alloc (Nat.le_refl _) _)
              have HJ6 : Hid ((w5.alloc (.cells #[.int .i64 kc2, .bool kb2, .int .i64 kn2, .int .i64 z2, .int .i64 l2] 179)).heap[w5.heap.size]? = some (.cells #[.int .i64 kc2, .bool kb2, .int .i64 kn2, .int .i64 z2, .int .i64 l2] 179 (0, 0))) := heap_alloc_new w5 _
              have HSS2 : Hid (∀ w' : World, w'.heap[w.heap.size]? = some (.cells #[.int .i64 (nd E.s i).kind, .int .i64 (nd E.s i).tag, .int .i64 (nd E.s i).mode, .slice ka (nd E.s i).kids.length kc] 58 (0, 0)) → w'.heap[w2.heap.size]? = some (.cells #[.int .i64 2, .bool true, .int .i64 gn, .int .i64 z, .int .i64 l] 179 (0, 0)) → w'.heap[w5.heap.size]? = some (.cells #[.int .i64 kc2, .bool kb2, .int .i64 kn2, .int .i64 z2, .int .i64 l2] 179 (0, 0)) → w'.cell? ⟨w.heap.size, 0, none⟩ = some (.int .i64 (nd E.s i).kind) ∧ w'.cell? ⟨w.heap.size, 1, none⟩ = some (.int .i64 (nd E.s i).tag) ∧ w'.cell? ⟨w.heap.size, 2, none⟩ = some (.int .i64 (nd E.s i).mode) ∧ w'.cell? ⟨w.heap.size, 3, none⟩ = some (.slice ka (nd E.s i).kids.length kc) ∧ w'.cell? ⟨w2.heap.size, 3, none⟩ = some (.int .i64 z) ∧ w'.cell? ⟨w5.heap.size, 0, none⟩ = some (.int .i64 kc2) ∧ w'.cell? ⟨w5.heap.size, 1, none⟩ = some (.bool kb2) ∧ w'.cell? ⟨w5.heap.size, 2, none⟩ = some (.int .i64 kn2) ∧ w'.cell? ⟨w5.heap.size, 3, none⟩ = some (.int .i64 z2) ∧ w'.cell? ⟨w5.heap.size, 4, none⟩ = some (.int .i64 l2)) := fun w' q1 q2 q3 => ⟨cell_of_row q1 rfl, cell_of_row q1 rfl, cell_of_row q1 rfl, cell_of_row q1 rfl, cell_of_row q2 rfl, cell_of_row q3 rfl, cell_of_row q3 rfl, cell_of_row q3 rfl, cell_of_row q3 rfl, cell_of_row q3 rfl⟩
              have HBD2 : Hid (∀ w3, Below (w5.alloc (.cells #[.int .i64 kc2, .bool kb2, .int .i64 kn2, .int .i64 z2, .int .i64 l2] 179)).drew.heap.size (w5.alloc (.cells #[.int .i64 kc2, .bool kb2, .int .i64 kn2, .int .i64 z2, .int .i64 l2] 179)).drew w3 → RdI W w3 R (some ⟨ab, ao, none⟩) E.s.length c E.d tree 0 p ∧ Fr R w w3 ∧ w3.heap[w.heap.size]? = some (.cells #[.int .i64 (nd E.s i).kind, .int .i64 (nd E.s i).tag, .int .i64 (nd E.s i).mode, .slice ka (nd E.s i).kids.length kc] 58 (0, 0)) ∧ w3.heap[w2.heap.size]? = some (.cells #[.int .i64 2, .bool true, .int .i64 gn, .int .i64 z, .int .i64 l] 179 (0, 0)) ∧ w3.heap[w5.heap.size]? = some (.cells #[.int .i64 kc2, .bool kb2, .int .i64 kn2, .int .i64 z2, .int .i64 l2] 179 (0, 0))) := fun w3 q => by
                have q2 : Below (w5.alloc (.cells #[.int .i64 kc2, .bool kb2, .int .i64 kn2, .int .i64 z2, .int .i64 l2] 179)).heap.size (w5.alloc (.cells #[.int .i64 kc2, .bool kb2, .int .i64 kn2, .int .i64 z2, .int .i64 l2] 179)) w3 := (below_drewN (Below.refl _ _) 1).trans q
                exact ⟨HI6.out.below q2, HF6.out.below q2, block_below HG6.out q2, block_below HH6.out q2, block_below HJ6.out q2⟩
              have HBB : Hid (∀ wq, RdI W wq R (some ⟨ab, ao, none⟩) E.s.length c E.d tree 0 p → Calls Tryz.prog 102 #[.pointer (some ⟨R, 0, none⟩), .agg #[.int .i64 (nd E.s i).kind, .int .i64 (nd E.s i).tag, .int .i64 (nd E.s i).mode, .slice ka (nd E.s i).kids.length kc], .int .i64 0, .int .i64 (own0 (nd E.s i).kind), .agg #[.int .i64 kc2, .bool kb2, .int .i64 kn2, .int .i64 z2, .int .i64 l2], .int .i64 ((x : Int) + z), .int .i64 ((x : Int) + z + z2 + l2), .int .i64 dp] wq fun e w' => e = .returned (.tuple #[]) ∧ AfterR E W R (some ⟨ab, ao, none⟩) c o1 tree p wq w') := fun wq q => by
                rw [show (x : Int) + z + z2 + l2 = ((x + z + z2 + l2 : Nat) : Int) by omega, show (x : Int) + z = ((x + z : Nat) : Int) by omega]
                exact HB.out i ka kc _ _ kc2 kb2 kn2 z2 l2 (x + z) (x + z + z2 + l2) dp o1 tree p wq (by omega) HKI.out hkc ho1 (by omega) (by omega) hd1 hd2 (by have := HRO.out; unfold Room at this ⊢; omega) q
              have HWR : Hid (IntKind.i64.wrap ((x : Int) + z) = (x : Int) + z) := wraps_i64 _ (by omega) (by omega)
              have hb3 : (x : Int) + z + z2 ≤ 140737488355328 := by omega
              have hb4 : (x : Int) + z + z2 + l2 ≤ 140737488355328 := by omega
              clear hI5 hV2 ho1 hcase hok2
              go_wp2_with fail
              go_region_held_law (fun w' => w'.cell? ⟨w.heap.size, 0, none⟩ = some (.int .i64 (nd E.s i).kind) ∧ w'.cell? ⟨w.heap.size, 1, none⟩ = some (.int .i64 (nd E.s i).tag) ∧ w'.cell? ⟨w.heap.size, 2, none⟩ = some (.int .i64 (nd E.s i).mode) ∧ w'.cell? ⟨w.heap.size, 3, none⟩ = some (.slice ka (nd E.s i).kids.length kc) ∧ w'.cell? ⟨w2.heap.size, 3, none⟩ = some (.int .i64 z) ∧ w'.cell? ⟨w5.heap.size, 0, none⟩ = some (.int .i64 kc2) ∧ w'.cell? ⟨w5.heap.size, 1, none⟩ = some (.bool kb2) ∧ w'.cell? ⟨w5.heap.size, 2, none⟩ = some (.int .i64 kn2) ∧ w'.cell? ⟨w5.heap.size, 3, none⟩ = some (.int .i64 z2) ∧ w'.cell? ⟨w5.heap.size, 4, none⟩ = some (.int .i64 l2)) (exact HSS2.out _ (by first | exact hG4 | exact hG3 | exact HG6.out) (by first | exact hH4 | exact hH3 | exact HH6.out) (by first | exact hJ4 | exact hJ3 | exact HJ6.out)) (first | (go_at_call 103; refine (HOW.out _).mono ?_; rintro e w3 ⟨rfl, hb3⟩; obtain ⟨hI3, hF3, hG3, hH3, hJ3⟩ := HBD2.out _ hb3; clear hb3) | (go_at_call 102; rw [HWR.out]; refine (HBB.out _ hI3).mono ?_; rintro e w4 ⟨rfl, ha4⟩; have hA4 := ha4.of hF3; obtain ⟨_, _, _, _, _, hF4⟩ := ha4; have hG4 := hF4 _ _ _ (by omega) (by decide) hG3; have hH4 := hF4 _ _ _ (by omega) (by decide) hH3; have hJ4 := hF4 _ _ _ (by have := row_lt hJ3; omega) (by decide) hJ3; clear hF4))
              obtain ⟨t4, e4, p4, hI4, hO4, hF4⟩ := hA4
              have HI4 : Hid (RdI W w4 R (some ⟨ab, ao, none⟩) E.s.length c E.d t4 e4 p4) := hI4
              have HF4 : Hid (Fr R w w4) := hF4
              have s4 := hI4.r3
              clear hI4 hF4 hG4 hH4 hJ4 hI3 hF3 hG3 hH3 hJ3 s5 u3
              rcases HCA.out with ⟨u, rfl, ho⟩ | ⟨vs, zz, rfl, ho⟩
              · obtain ⟨u1, u2⟩ := u
                obtain ⟨r1, r2, r3⟩ := hO4
                subst r1 r2
                have hne : (e4 == 0) = false := by rw [beq_eq_false_iff_ne]; exact r3
                have HOE : Hid (o = .error (e4, p4)) := ho
                clear r3 ho
                go_wp2
                go_ret
                exact ⟨_, rfl, ⟨t4, e4, p4, HI4.out, out_err HER.out HOE.out _ _ _, HF4.out⟩, fun vs z' e => by rw [HOE.out] at e; cases e⟩
              · obtain ⟨r1, r2, r3⟩ := hO4
                subst r1 r2 r3
                rcases ho with ⟨hlt, ho⟩ | ⟨hlt, ho⟩
                · have HOE : Hid (o = .error (7, ((x + z + z2 + l2 : Nat) : Int))) := ho
                  have hlt' : (x : Int) + z + z2 + l2 < (x : Int) + z + l := by omega
                  clear ho
                  go_wp2_with fail
                  refine (stop_first W _ R (some ⟨ab, ao, none⟩) E.s.length c E.d _ p4 7 _ HI4.out).mono ?_
                  rintro e w6 ⟨rfl, hI6, hoth⟩
                  have HI7 : Hid (∃ t7, RdI W w6 R (some ⟨ab, ao, none⟩) E.s.length c E.d t7 7 ((x + z + z2 + l2 : Nat) : Int)) := ⟨_, by rw [show ((x + z + z2 + l2 : Nat) : Int) = (x : Int) + z + z2 + l2 by omega]; exact hI6⟩
                  have HF7 : Hid (Fr R w w6) := HF4.out.trans (Fr.of_same hoth)
                  clear hI6 hoth
                  go_wp2
                  go_ret
                  obtain ⟨t7, h7⟩ := HI7.out
                  exact ⟨_, rfl, ⟨t7, 7, _, h7, out_err HER.out HOE.out _ _ _, HF7.out⟩, fun vs z' e => by rw [HOE.out] at e; cases e⟩
                · have HOE : Hid (o = .ok (vs, x + z + l)) := ho
                  have hlt' : (x : Int) + z + l ≤ (x : Int) + z + z2 + l2 := by omega
                  clear ho
                  go_wp2
                  go_ret
                  exact ⟨_, rfl, ⟨_, 0, p4, HI4.out, by rw [HOE.out]; exact ⟨rfl, rfl, rfl⟩, HF4.out⟩, HEND.out⟩
            · rw [if_neg hke] at hI5
              have hke' : (ke != 0) = true := by simp [hke]
              have s5 := hI5.r3
              have HOE : Hid (o = .error (ke, ((x + z : Nat) : Int))) := by
                have := HV.out
                rw [if_pos hke] at this
                exact (Option.some.inj this).symm
              have HI6 : Hid (∀ A, RdI W (w5.alloc A) R (some ⟨ab, ao, none⟩) E.s.length c E.d tree ke ((x + z : Nat) : Int) ∧ Fr R w (w5.alloc A)) := fun A => ⟨hI5.below ((Below.refl _ _).alloc (Nat.le_refl _) _), HF5.out.below ((Below.refl _ _).alloc (Nat.le_refl _) _)⟩
              clear hI5 hke
              go_wp2
              go_ret
              exact ⟨_, rfl, ⟨tree, ke, _, (HI6.out _).1, out_err HER.out HOE.out _ _ _, (HI6.out _).2⟩, fun vs z' e => by rw [HOE.out] at e; cases e⟩
        · rw [if_pos q] at hv
          have HOE : Hid (o = .error (4, (x : Int))) := (Option.some.inj hv).symm
          have q' : (gc != 2) = true ∨ ((gc != 2) = false ∧ (gn != (nd E.s i).tag) = true) ∨ ((gc != 2) = false ∧ (gn != (nd E.s i).tag) = false ∧ gb = false) := by
            by_cases q1 : gc = 2
            · by_cases q2 : gn = (nd E.s i).tag
              · right; right
                refine ⟨by simp [q1], by simp [q2], ?_⟩
                cases gb
                · rfl
                · exact absurd ⟨q1, q2, rfl⟩ q
              · right; left; exact ⟨by simp [q1], by simp [q2]⟩
            · left; simp [q1]
          clear hv q
          rcases q' with e1 | ⟨e1, e2⟩ | ⟨e1, e2, rfl⟩
          all_goals
            go_wp2_with fail
            refine (stop_first W _ R (some ⟨ab, ao, none⟩) E.s.length c E.d tree p 4 x HI3.out).mono ?_
            rintro e w4 ⟨rfl, hI4, hoth⟩
            have HI4 : Hid (RdI W w4 R (some ⟨ab, ao, none⟩) E.s.length c E.d tree 4 x) := hI4
            have HF4 : Hid (Fr R w w4) := HF3.out.trans (Fr.of_same hoth)
            clear hI4 hoth
            go_wp2
            go_ret
            exact ⟨_, rfl, ⟨tree, 4, x, HI4.out, out_err HER.out HOE.out _ _ _, HF4.out⟩, fun vs z' e => by rw [HOE.out] at e; cases e⟩
  · rw [if_neg hge] at hI2
    have hge' : (ge != 0) = true := by simp [hge]
    have s3 := hI2.r3
    have hR2 : R < w2.heap.size := lt_of_cell s3
    have HOE : Hid (o = .error (ge, (x : Int))) := by
      have := HM.out
      rw [if_pos hge] at this
      exact (Option.some.inj this).symm
    have HI6 : Hid (∀ A, RdI W (w2.alloc A) R (some ⟨ab, ao, none⟩) E.s.length c E.d tree ge x ∧ Fr R w (w2.alloc A)) := fun A => ⟨hI2.below ((Below.refl _ _).alloc (Nat.le_refl _) _), HF2.out.below ((Below.refl _ _).alloc (Nat.le_refl _) _)⟩
    clear hI2 hge
    go_wp2
    go_ret
    exact ⟨_, rfl, ⟨tree, ge, _, (HI6.out _).1, out_err HER.out HOE.out _ _ _, (HI6.out _).2⟩, fun vs z' e => by rw [HOE.out] at e; cases e⟩
end Go.Proofs.YtkkicodfpekbgaaGreatDoor

/-! The document's reader: Read, in general. -/
namespace Go.Proofs.YtkkicodfpekbgaaGreatDoor
set_option linter.unusedSimpArgs false
set_option linter.unusedVariables false
open Go.RowKit

theorem node_all (E : Env) (W : World) (R : Nat) (a : Option Addr) (c : Nat) (hc : RC E W a) (hdv : DvOk E) : ∀ f, NodeC E W R a c f
  | 0 => by intro i x y dp o tree p w hm; cases hm
  | f + 1 => node_step E W R a c f hc hdv (node_all E W R a c hc hdv f)
/-- What Read and Decode answer. -/
def RetDec (v : Except (Int × Int) (List Vl)) (w : World) (e : Ending) (w' : World) : Prop :=
  Below w.heap.size w w' ∧
  match v with
  | .error (c, p) => e = .returned (.tuple #[.slice none 0 0, .int .i64 p, .int .i64 c])
  | .ok vs => ∃ ta tc, e = .returned (.tuple #[.slice ta vs.length tc, .int .i64 0, .int .i64 0]) ∧ w'.ownsRow w.heap.size 60 4 (.slice ta vs.length tc) vs.length (vcells vs)

set_option maxHeartbeats 2000000 in
set_option maxRecDepth 100000 in
theorem rRead_any (E : Env) (a : Option Addr) (c f root : Nat) (w : World) (hc : RC E w a) (hdv : DvOk E) (hr : root < E.s.length) (hf : f ≤ 1000000) (v : Except (Int × Int) (List Vl)) (hv : readF E f root = some v) :
    Calls Tryz.prog 39 #[.slice a E.s.length c, .int .i64 root, .string E.d] w fun e w' => RetDec v w e w' := by
  have h4k := hc.size
  have HI : Hid (RdI w (w.alloc (rdObj a E.s.length c E.d (.slice none 0 0) 0 0)) w.heap.size a E.s.length c E.d [] 0 0) := ⟨(Below.refl _ _).alloc (Nat.le_refl _) _, Nat.le_refl _, _, heap_alloc_new w _, World.ownsRow_nil _ _ _ _⟩
  obtain ⟨o, ho, hcase⟩ : ∃ o, rdF E f root 0 E.d.size 1 = some o ∧ ((∃ u, o = .error u ∧ v = .error u) ∨ ∃ vs z, o = .ok (vs, z) ∧ ((z < E.d.size ∧ v = .error (7, (z : Int))) ∨ (¬ z < E.d.size ∧ v = .ok vs))) := by
    unfold readF at hv
    rcases andThen_cases hv with ⟨u, h1, h2⟩ | ⟨vs, z, h1, h2⟩
    · exact ⟨_, h1, .inl ⟨u, rfl, h2⟩⟩
    · refine ⟨_, h1, .inr ⟨vs, z, rfl, ?_⟩⟩
      split at h2
      · rename_i q; exact .inl ⟨q, (Option.some.inj h2).symm⟩
      · rename_i q; exact .inr ⟨q, (Option.some.inj h2).symm⟩
  have hne := rdF_err _ _ _ _ _ _ ho
  have HER : Hid (IsErr o) := hne
  have HN : Hid (Calls Tryz.prog 69 #[.pointer (some ⟨w.heap.size, 0, none⟩), .int .i64 root, .int .i64 0, .int .i64 E.d.size, .int .i64 1] (w.alloc (rdObj a E.s.length c E.d (.slice none 0 0) 0 0)) fun e w' => ∃ v : Int, e = .returned (.int .i64 v) ∧ AfterR E w w.heap.size a c o [] 0 (w.alloc (rdObj a E.s.length c E.d (.slice none 0 0) 0 0)) w' ∧ ∀ vs z, o = .ok (vs, z) → v = z) :=
    node_all E w w.heap.size a c hc hdv f root 0 E.d.size 1 o [] 0 _ ho hr (Nat.zero_le _) (Nat.le_refl _) (by decide) (by decide) (by unfold Room; simp only [List.length_nil]; omega) HI.out
  have HCA : Hid ((∃ u, o = .error u ∧ v = .error u) ∨ ∃ vs z, o = .ok (vs, z) ∧ ((z < E.d.size ∧ v = .error (7, (z : Int))) ∨ (¬ z < E.d.size ∧ v = .ok vs))) := hcase
  clear hc hdv hv ho hcase hne
  unfold rdObj at HN
  go_enter Tryz.func39, Tryz.ntmps39
  go_wp2_with fail
  refine HN.out.mono ?_
  rintro e w1 ⟨nx, rfl, ⟨t1, e1, p1, hI1, hO1, _⟩, hz⟩
  have HI1 : Hid (RdI w w1 w.heap.size a E.s.length c E.d t1 e1 p1) := hI1
  obtain ⟨_, _, vt, hr1, ho1⟩ := hI1
  have HO : Hid (w1.ownsRow w.heap.size 60 4 vt t1.length (vcells t1)) := ho1
  unfold rdObj at hr1
  have c2 : w1.cell? ⟨w.heap.size, 2, none⟩ = some vt := by simp [World.cell?, hr1]
  have c3 : w1.cell? ⟨w.heap.size, 3, none⟩ = some (.int .i64 e1) := by simp [World.cell?, hr1]
  have c4 : w1.cell? ⟨w.heap.size, 4, none⟩ = some (.int .i64 p1) := by simp [World.cell?, hr1]
  clear hr1 ho1 HN HI
  rcases HCA.out with ⟨u, rfl, hv⟩ | ⟨vs, z, rfl, hv⟩
  · obtain ⟨u1, u2⟩ := u
    obtain ⟨r1, r2, r3⟩ := hO1
    subst r1 r2
    have hne : (e1 == 0) = false := by rw [beq_eq_false_iff_ne]; exact r3
    have hne' : (e1 != 0) = true := by rw [bne_iff_ne]; exact r3
    have HV : Hid (v = .error (e1, p1)) := hv
    clear r3 hv hz
    go_wp2
    go_quiet (fail)
    go_wp2
    refine bodyPost_ret (v := .tuple #[.slice none 0 0, .int .i64 p1, .int .i64 e1]) (by simp [results, Tryz.results39, go_sem]) rfl ?_
    rw [HV.out]
    exact ⟨below_drewN HI1.out.bel _, rfl⟩
  · obtain ⟨r1, r2, r3⟩ := hO1
    subst r1 r3
    have r2' : vs = t1 := by simpa using r2.symm
    clear r2
    subst r2'
    obtain rfl : nx = (z : Int) := hz vs z rfl
    rcases hv with ⟨hlt, hv⟩ | ⟨hlt, hv⟩
    · have HV : Hid (v = .error (7, (z : Int))) := hv
      have hlt' : (z : Int) < E.d.size := by omega
      clear hv hz
      go_wp2_with fail
      refine (stop_first w _ w.heap.size a E.s.length c E.d _ 0 7 z HI1.out).mono ?_
      rintro e w2 ⟨rfl, hI2, _⟩
      have HI2 : Hid (RdI w w2 w.heap.size a E.s.length c E.d _ 7 z) := hI2
      obtain ⟨_, _, vt2, hr2, _⟩ := hI2
      unfold rdObj at hr2
      have d3 : w2.cell? ⟨w.heap.size, 3, none⟩ = some (.int .i64 7) := by simp [World.cell?, hr2]
      have d4 : w2.cell? ⟨w.heap.size, 4, none⟩ = some (.int .i64 z) := by simp [World.cell?, hr2]
      clear hr2 c2 c3 c4
      go_wp2
      go_quiet (fail)
      go_wp2
      refine bodyPost_ret (v := .tuple #[.slice none 0 0, .int .i64 z, .int .i64 7]) (by simp [results, Tryz.results39, go_sem]) rfl ?_
      rw [HV.out]
      exact ⟨below_drewN HI2.out.bel _, rfl⟩
    · have HV : Hid (v = .ok vs) := hv
      have hlt' : (E.d.size : Int) ≤ z := by omega
      have HO2 : Hid (w1.ownsRow w.heap.size 60 4 vt vs.length (vcells vs)) := HO.out
      obtain ⟨ta, tc, hvt⟩ : ∃ ta tc, vt = .slice ta vs.length tc := by
        rcases HO2.out.2 with ⟨q, q'⟩ | ⟨g, cap, cur, q, _⟩
        · exact ⟨none, 0, by rw [q, q']⟩
        · exact ⟨_, cap, q⟩
      have c2' : w1.cell? ⟨w.heap.size, 2, none⟩ = some (.slice ta vs.length tc) := by rw [← hvt]; exact c2
      have HO3 : Hid (w1.ownsRow w.heap.size 60 4 (.slice ta vs.length tc) vs.length (vcells vs)) := by
        show w1.ownsRow w.heap.size 60 4 (.slice ta vs.length tc) vs.length (vcells vs)
        rw [← hvt]; exact HO2.out
      clear hv hz c2 hvt HO HO2 hlt h4k hf hr c4
      go_wp2
      refine bodyPost_ret (v := .tuple #[.slice ta vs.length tc, .int .i64 0, .int .i64 0]) (by simp [results, Tryz.results39, go_sem]) rfl ?_
      rw [HV.out]
      exact ⟨HI1.out.bel, ta, tc, rfl, HO3.out⟩
end Go.Proofs.YtkkicodfpekbgaaGreatDoor

/-! The document's Decode; that there is what reading goes by. -/
namespace Go.Proofs.YtkkicodfpekbgaaGreatDoor
set_option linter.unusedSimpArgs false
set_option linter.unusedVariables false
open Go.RowKit

theorem own_lower {w : World} {base base' : Nat} {e : TypeId} {size : Nat} {v : Value} {n : Nat} {xs : List Value} (h : w.ownsRow base e size v n xs) (hb : base' ≤ base) : w.ownsRow base' e size v n xs := by
  refine ⟨h.1, ?_⟩
  rcases h.2 with q | ⟨g, cap, cur, q, q2, r⟩
  · exact .inl q
  · exact .inr ⟨g, cap, cur, q, Nat.le_trans hb q2, r⟩
/-- The functions that reading goes by are what they say. -/
structure EnvOk (E : Env) : Prop where
  bg : ∀ i, i < E.s.length → ∀ c m, E.bg i c m = true ↔ Beg E.s i c m
  ok : ∀ k t, E.ok k t = true ↔ ContentOk k t
  dv : DvOk E
/-- There are such. -/
theorem env_ex (s : List Nd) (d : ByteArray) (h : RightP s) : ∃ E : Env, E.s = s ∧ E.d = d ∧ EnvOk E := by
  have hb : ∃ bg : Nat → Int → Int → Bool, ∀ i c m, bg i c m = true ↔ Beg s i c m :=
    ⟨fun i c m => @decide (Beg s i c m) (Classical.propDecidable _), fun i c m => by simp⟩
  have hk : ∃ ok : Int → ByteArray → Bool, ∀ k t, ok k t = true ↔ ContentOk k t :=
    ⟨fun k t => @decide (ContentOk k t) (Classical.propDecidable _), fun k t => by simp⟩
  have hd : ∃ dv : Kd → Vl, ∀ k u, ElemOk (nd s k.node.toNat) k.dflt u → dv k = ⟨(nd s k.node.toNat).kind, u, 0, 0⟩ := by
    refine ⟨fun k => ⟨(nd s k.node.toNat).kind, @dite _ (∃ u, ElemOk (nd s k.node.toNat) k.dflt u) (Classical.propDecidable _) (fun q => Classical.choose q) (fun _ => ⟨#[]⟩), 0, 0⟩, fun k u hu => ?_⟩
    have q : ∃ u, ElemOk (nd s k.node.toNat) k.dflt u := ⟨u, hu⟩
    simp only [dif_pos q]
    rw [elem_one (Classical.choose_spec q) hu]
  obtain ⟨bg, hb⟩ := hb
  obtain ⟨ok, hk⟩ := hk
  obtain ⟨dv, hd⟩ := hd
  refine ⟨⟨s, d, bg, ok, dv⟩, rfl, rfl, fun i _ c m => hb i c m, hk, fun i hi k hkm hne => ?_⟩
  obtain ⟨j, hj, e⟩ := List.getElem_of_mem hkm
  have hkd : kd (nd s i) j = k := by unfold kd; rw [List.getD_eq_getElem?_getD, List.getElem?_eq_getElem hj]; exact e
  have hw := h.fine.within i hi k hkm
  rcases (h.2.2.2.2 i hi).2 j hj with q | ⟨q1, u, q2⟩
  · rw [hkd] at q; exact absurd q hne
  · rw [hkd] at q1 q2
    exact ⟨u, q2, hd k u q2, (kinds_of h.2.2.1 k.node.toNat (by omega)).1, q1⟩
/-- What Decode comes to. -/
def DecV (E : Env) (s : List Nd) (root : Int) (d : ByteArray) (v : Except (Int × Int) (List Vl)) : Prop :=
  (¬ (RightP s ∧ 0 ≤ root ∧ root < s.length) ∧ v = .error (1, 0)) ∨
  ((RightP s ∧ 0 ≤ root ∧ root < s.length) ∧ 4000 < d.size ∧ v = .error (2, 0)) ∨
  ((RightP s ∧ 0 ≤ root ∧ root < s.length) ∧ d.size ≤ 4000 ∧ E.s = s ∧ E.d = d ∧ EnvOk E ∧ ∃ f, f ≤ 1000000 ∧ readF E f root.toNat = some v)
/-- There is one. -/
theorem decV_ex (s : List Nd) (root : Int) (d : ByteArray) : ∃ E v, DecV E s root d v := by
  by_cases h : RightP s ∧ 0 ≤ root ∧ root < s.length
  · by_cases hd : d.size ≤ 4000
    · obtain ⟨E, rfl, rfl, hE⟩ := env_ex s d h.1
      obtain ⟨o, ho⟩ := rdF_some h.1.fine 168041 root.toNat 0 E.d.size 1 [] (by omega) (Way.nil _ _) (by simp only [List.length_nil]; omega)
      obtain ⟨v, hv⟩ : ∃ v, readF E 168041 root.toNat = some v := by
        unfold readF
        refine andThen_some ho fun vs z _ => ?_
        split <;> exact ⟨_, rfl⟩
      exact ⟨E, v, .inr (.inr ⟨h, hd, rfl, rfl, hE, 168041, by omega, hv⟩)⟩
    · exact ⟨⟨[], d, fun _ _ _ => false, fun _ _ => false, fun _ => ⟨0, d, 0, 0⟩⟩, _, .inr (.inl ⟨h, by omega, rfl⟩)⟩
  · exact ⟨⟨[], d, fun _ _ _ => false, fun _ _ => false, fun _ => ⟨0, d, 0, 0⟩⟩, _, .inl ⟨h, rfl⟩⟩

set_option maxHeartbeats 2000000 in
set_option maxRecDepth 100000 in
theorem rDecode_any (E : Env) (s : List Nd) (a : Option Addr) (c : Nat) (root : Int) (d : ByteArray) (v : Except (Int × Int) (List Vl)) (w : World) (hs : Sch w a s) (hok : SchOk s) (hn0 : s.length ≤ 140737488351232) (hdm : d.size ≤ 9223372036854775807) (hv : DecV E s root d v) :
    Calls Tryz.prog 40 #[.slice a s.length c, .int .i64 root, .string d] w fun e w' => RetDec v w e w' := by
  have HRT : Hid (Calls Tryz.prog 15 #[.slice a s.length c] w fun e w' => RetO (RightP s) w e w') := right_any s a c w hs hok hn0
  have HS : Hid (Sch w a s) := hs
  have HOK : Hid (SchOk s) := hok
  have HV : Hid (DecV E s root d v) := hv
  clear hs hok hv
  go_enter Tryz.func40, Tryz.ntmps40
  go_wp2_with fail
  refine HRT.out.mono ?_
  rintro e w1 ⟨r, rfl, hr, hb1⟩
  have HR : Hid (r = true ↔ RightP s) := hr
  have HB1 : Hid (Below w.heap.size w w1) := hb1
  clear hr hb1
  have bad : ∀ w', Below w.heap.size w w' → ¬ (RightP s ∧ 0 ≤ root ∧ root < s.length) → RetDec v w (.returned (.tuple #[.slice none 0 0, .int .i64 0, .int .i64 1])) w' := fun w' hb h => by
    rcases HV.out with ⟨_, rfl⟩ | ⟨q, _⟩ | ⟨q, _⟩
    · exact ⟨hb, rfl⟩
    · exact absurd q h
    · exact absurd q h
  have BAD := hide bad
  clear bad
  cases r
  · have HNR : Hid (¬ RightP s) := fun q => Bool.noConfusion (HR.out.2 q)
    go_wp2
    refine bodyPost_ret (v := .tuple #[.slice none 0 0, .int .i64 0, .int .i64 1]) (by simp [results, Tryz.results40, go_sem]) rfl ?_
    exact BAD.out _ HB1.out fun q => HNR.out q.1
  · have HYR : Hid (RightP s) := HR.out.1 rfl
    by_cases h0 : root < 0
    · go_wp2
      refine bodyPost_ret (v := .tuple #[.slice none 0 0, .int .i64 0, .int .i64 1]) (by simp [results, Tryz.results40, go_sem]) rfl ?_
      exact BAD.out _ HB1.out fun q => by omega
    · have h0' : 0 ≤ root := by omega
      by_cases h1 : root < s.length
      · by_cases h2 : 4000 < d.size
        · have h2' : (4000 : Int) < d.size := by omega
          go_wp2
          refine bodyPost_ret (v := .tuple #[.slice none 0 0, .int .i64 0, .int .i64 2]) (by simp [results, Tryz.results40, go_sem]) rfl ?_
          rcases HV.out with ⟨q, _⟩ | ⟨_, _, rfl⟩ | ⟨_, q, _⟩
          · exact absurd ⟨HYR.out, h0', h1⟩ q
          · exact ⟨HB1.out, rfl⟩
          · omega
        · have h2' : (d.size : Int) ≤ 4000 := by omega
          obtain ⟨hd4, hes, hed, hE, f, hf, hrd⟩ : d.size ≤ 4000 ∧ E.s = s ∧ E.d = d ∧ EnvOk E ∧ ∃ f, f ≤ 1000000 ∧ readF E f root.toNat = some v := by
            rcases HV.out with ⟨q, _⟩ | ⟨_, q, _⟩ | ⟨_, q⟩
            · exact absurd ⟨HYR.out, h0', h1⟩ q
            · omega
            · exact q
          obtain ⟨rt, rfl⟩ : ∃ n : Nat, root = n := ⟨root.toNat, by omega⟩
          have HRD : Hid (Calls Tryz.prog 39 #[.slice a s.length c, .int .i64 rt, .string d] w1 fun e w' => RetDec v w1 e w') := by
            show Calls _ _ _ _ _
            subst hes hed
            exact rRead_any E a c f rt w1 ⟨HS.out.below HB1.out, HYR.out, HOK.out, hE.bg, hE.ok, hd4⟩ hE.dv (by omega) hf v (by simpa using hrd)
          clear hd4 hes hed hE hf hrd
          go_wp2_with fail
          refine HRD.out.mono ?_
          rintro e w2 ⟨hb2, h2⟩
          have HB2 : Hid (Below w.heap.size w w2) := HB1.out.trans (hb2.mono HB1.out.size)
          have hszw := HB1.out.size
          clear hb2
          cases v with
          | error u =>
            obtain ⟨u1, u2⟩ := u
            simp only at h2
            subst h2
            go_wp2
            refine bodyPost_ret (v := .tuple #[.slice none 0 0, .int .i64 u2, .int .i64 u1]) (by simp [results, Tryz.results40, go_sem]) rfl ?_
            exact ⟨HB2.out, rfl⟩
          | ok vs =>
            obtain ⟨ta, tc, rfl, ho⟩ := h2
            have HO : Hid (w2.ownsRow w.heap.size 60 4 (.slice ta vs.length tc) vs.length (vcells vs)) := own_lower ho hszw
            clear ho
            go_wp2
            refine bodyPost_ret (v := .tuple #[.slice ta vs.length tc, .int .i64 0, .int .i64 0]) (by simp [results, Tryz.results40, go_sem]) rfl ?_
            exact ⟨HB2.out, ta, tc, rfl, HO.out⟩
      · have h1' : (s.length : Int) ≤ root := by omega
        go_wp2
        refine bodyPost_ret (v := .tuple #[.slice none 0 0, .int .i64 0, .int .i64 1]) (by simp [results, Tryz.results40, go_sem]) rfl ?_
        exact BAD.out _ HB1.out fun q => by omega
end Go.Proofs.YtkkicodfpekbgaaGreatDoor

/-! schemas.comesBack, isShaped: what they answer. -/
namespace Go.Proofs.YtkkicodfpekbgaaGreatDoor
set_option linter.unusedSimpArgs false
set_option linter.unusedVariables false
open Go.RowKit

set_option maxHeartbeats 1000000 in
set_option maxRecDepth 100000 in
theorem comesBack_any (s : List Nd) (a : Option Addr) (c i : Nat) (w : World) (hs : Sch w a s) (hw : Within s) (htg : Tags s) (hi : i < s.length) (hn : s.length ≤ 40) :
    Calls Tryz.prog 63 #[.slice a s.length c, .int .i64 i] w fun e w' => RetO (Back s i) w e w' := by
  have HC : Hid (Calls Tryz.prog 96 #[.slice a s.length c, .int .i64 i] w fun e w' => RetE s i w e w') := reach_any s a c i w hs hw htg hi hn
  clear hs hw htg
  go_enter Tryz.func63, Tryz.ntmps63
  go_wp2_with fail
  refine HC.out.mono ?_
  rintro e w1 ⟨v, l, bk, rfl, _, hb, _, _, hbk⟩
  have HB : Hid (Below w.heap.size w w1) := hb
  have HR : Hid (bk = true ↔ Back s i) := hbk
  clear hb hbk
  go_wp2
  go_ret
  exact reto_iff HR.out HB.out

theorem tagged_iff (n : Nd) : (¬ Bad1 n ∧ ¬ Bad2 n) ↔ (1 ≤ n.kind ∧ n.kind ≤ 14 ∧ Tagged n) := by unfold Bad1 Bad2 Tagged; omega
theorem count_iff (k : Int) (m : Nat) : Count k m ↔ ((bnd k).1 ≤ (m : Int) ∧ (m : Int) ≤ (bnd k).2) := by
  unfold Count bnd
  repeat' split
  all_goals simp only; omega

set_option maxHeartbeats 4000000 in
set_option maxRecDepth 100000 in
theorem isShaped_any (m : Nat) (n : Nd) (ka : Option Addr) (kc : Nat) (w : World) (hka : KidsIn w ka n.kids) (hkm : n.kids.length ≤ maxLen) :
    Calls Tryz.prog 61 #[.agg #[.int .i64 n.kind, .int .i64 n.tag, .int .i64 n.mode, .slice ka n.kids.length kc], .int .i64 m] w fun e w' => RetO (Alone m n) w e w' := by
  have HM : Hid (∀ (wr : World) (k : Kd), Calls Tryz.prog 94 #[.agg #[.int .i64 k.node, .bool k.opt, .string k.dflt]] wr fun e w' => RetO (¬ k.must) wr e w') := fun wr k => mayLack_any k wr
  have HT : Hid (∀ wr, Calls Tryz.prog 92 #[.agg #[.int .i64 n.kind, .int .i64 n.tag, .int .i64 n.mode, .slice ka n.kids.length kc]] wr fun e w' => RetO (Tagged n) wr e w') := fun wr => isTagged_any n ka kc wr
  have HKB : Hid (∀ wr, Calls Tryz.prog 93 #[.int .i64 n.kind] wr fun e w' => e = .returned (.tuple #[.int .i64 (bnd n.kind).1, .int .i64 (bnd n.kind).2]) ∧ Below wr.heap.size wr w') := fun wr => kidBounds_any n.kind wr
  have HKI : Hid (KidsIn w ka n.kids) := hka
  clear hka
  by_cases h1 : n.kind < 1
  · have HX : Hid (¬ Alone m n) := fun h => h.1 (.inl h1)
    go_enter Tryz.func61, Tryz.ntmps61
    go_wp2
    go_ret
    exact reto_no HX.out ((Below.refl _ _).alloc (Nat.le_refl _) _)
  have h1' : 1 ≤ n.kind := by omega
  by_cases h2 : 14 < n.kind
  · have HX : Hid (¬ Alone m n) := fun h => h.1 (.inr (.inl h2))
    clear h1
    go_enter Tryz.func61, Tryz.ntmps61
    go_wp2
    go_ret
    exact reto_no HX.out ((Below.refl _ _).alloc (Nat.le_refl _) _)
  have h2' : n.kind ≤ 14 := by omega
  clear h1 h2
  go_enter Tryz.func61, Tryz.ntmps61
  go_wp2_with fail
  refine (HT.out _).mono ?_
  rintro e w1 ⟨r, rfl, hr, hb1⟩
  have HR : Hid (r = true ↔ Tagged n) := hr
  have HB1 : Hid (Below w.heap.size w w1) := below_alloc hb1
  obtain ⟨Bn, hBn⟩ : ∃ Bn, Bn = w.heap.size := ⟨_, rfl⟩
  have HBN : Hid (Bn = w.heap.size) := hBn
  have HG1 : Hid (w1.heap[Bn]? = some (.cells #[.int .i64 n.kind, .int .i64 n.tag, .int .i64 n.mode, .slice ka n.kids.length kc] 58 (0, 0))) := by rw [hBn]; exact block_below (heap_alloc_new w _) hb1
  have q0 : w1.cell? ⟨Bn, 0, none⟩ = some (.int .i64 n.kind) := by simp [World.cell?, HG1.out]
  have q3 : w1.cell? ⟨Bn, 3, none⟩ = some (.slice ka n.kids.length kc) := by simp [World.cell?, HG1.out]
  rw [← hBn]
  clear hr hb1 hBn
  cases r
  · go_wp2
    go_ret
    exact reto_no (fun h => Bool.noConfusion (HR.out.2 ((tagged_iff n).1 ⟨h.1, h.2.1⟩).2.2)) HB1.out
  · have HTG : Hid (¬ Bad1 n ∧ ¬ Bad2 n) := (tagged_iff n).2 ⟨h1', h2', HR.out.1 rfl⟩
    go_wp2_with fail
    refine (HKB.out _).mono ?_
    rintro e w2 ⟨rfl, hb2⟩
    have HB2 : Hid (Below w.heap.size w w2) := HB1.out.trans (hb2.mono HB1.out.size)
    have HG2 : Hid (w2.heap[Bn]? = some (.cells #[.int .i64 n.kind, .int .i64 n.tag, .int .i64 n.mode, .slice ka n.kids.length kc] 58 (0, 0))) := block_below HG1.out hb2
    have p0 : w2.cell? ⟨Bn, 0, none⟩ = some (.int .i64 n.kind) := by simp [World.cell?, HG2.out]
    have p3 : w2.cell? ⟨Bn, 3, none⟩ = some (.slice ka n.kids.length kc) := by simp [World.cell?, HG2.out]
    have HCI := count_iff n.kind n.kids.length
    have HCH : Hid (Count n.kind n.kids.length ↔ ((bnd n.kind).1 ≤ (n.kids.length : Int) ∧ (n.kids.length : Int) ≤ (bnd n.kind).2)) := HCI
    generalize (bnd n.kind).1 = lo at *
    generalize (bnd n.kind).2 = hi at *
    clear hb2 q0 q3 HCI
    by_cases c1 : (n.kids.length : Int) < lo
    · have HX : Hid (¬ Count n.kind n.kids.length) := fun q => by have := HCH.out.1 q; omega
      go_wp2
      go_ret
      exact reto_no (fun h => HX.out h.2.2.1) HB2.out
    have c1' : lo ≤ (n.kids.length : Int) := by omega
    by_cases c2 : hi < (n.kids.length : Int)
    · have HX : Hid (¬ Count n.kind n.kids.length) := fun q => by have := HCH.out.1 q; omega
      clear c1
      go_wp2
      go_ret
      exact reto_no (fun h => HX.out h.2.2.1) HB2.out
    have c2' : (n.kids.length : Int) ≤ hi := by omega
    have HC : Hid (Count n.kind n.kids.length) := HCH.out.2 ⟨c1', c2'⟩
    have hk8 : n.kids.length ≤ 8 := by
      have := HC.out
      unfold Count at this
      repeat' split at this
      all_goals omega
    clear c1 c2
    go_wp2
    go_loopw [43] (fun vi wr => ∃ i : Nat, i ≤ n.kids.length ∧ vi = .int .i64 i ∧ (∀ j, j < i → KidOk m n (kd n j)) ∧ Below w2.heap.size w2 wr) (fun vi _ => n.kids.length - (intOf vi).toNat)
    case atStart => exact ⟨0, Nat.zero_le _, rfl, fun _ h => absurd h (Nat.not_lt_zero _), Below.refl _ _⟩
    case round =>
      obtain ⟨i, hi', rfl, hall, hbr⟩ := hrel
      have HA : Hid (∀ j, j < i → KidOk m n (kd n j)) := hall
      have HB : Hid (Below w2.heap.size w2 wr) := hbr
      have HBW : Hid (Below w.heap.size w wr) := HB2.out.trans (hbr.mono HB2.out.size)
      have HG3 : Hid (wr.heap[Bn]? = some (.cells #[.int .i64 n.kind, .int .i64 n.tag, .int .i64 n.mode, .slice ka n.kids.length kc] 58 (0, 0))) := block_below HG2.out hbr
      clear hall hbr
      by_cases hlt : i < n.kids.length
      · have hlt' : (i : Int) < n.kids.length := by omega
        obtain ⟨kb, ko, rfl, kcl⟩ := HKI.out i hlt
        obtain ⟨y, hy⟩ : ∃ y, kd n i = y := ⟨_, rfl⟩
        have HY : Hid (kd n i = y) := hy
        have hkc : KidCells w kb (ko + i * 3) y := by rw [← hy]; exact kcl
        obtain ⟨k1, k2, k3⟩ := hkc.below HBW.out
        have HB6 : Hid (∀ o, Below w.heap.size w (wr.alloc o)) := fun o => HBW.out.alloc HBW.out.size o
        have NO : Hid (¬ KidOk m n y → ¬ Alone m n) := fun h h' => h (HY.out ▸ h'.2.2.2 i hlt)
        have YES : Hid (KidOk m n y → ∀ j, j < i + 1 → KidOk m n (kd n j)) := fun h j hj => by
          by_cases e : j = i
          · subst e; rw [HY.out]; exact h
          · exact HA.out j (by omega)
        clear hy kcl hkc
        by_cases q1 : y.node < 0
        · have HX : Hid (¬ KidOk m n y) := fun h => by have := h.1; omega
          go_wp2
          go_ret
          exact reto_no (NO.out HX.out) (HB6.out _)
        have q1' : 0 ≤ y.node := by omega
        by_cases q2 : ¬ y.node < m
        · have HX : Hid (¬ KidOk m n y) := fun h => q2 h.2.1
          have q2' : (m : Int) ≤ y.node := by omega
          clear q1 q2
          go_wp2
          go_ret
          exact reto_no (NO.out HX.out) (HB6.out _)
        have q2' : y.node < m := by omega
        clear q1 q2
        go_wp2_with fail
        refine (HM.out _ y).mono ?_
        rintro e w3 ⟨r, rfl, hr, hb3⟩
        have HRM : Hid (r = true ↔ ¬ y.must) := hr
        have HB3 : Hid (Below w2.heap.size w2 w3) := HB.out.trans ((below_alloc hb3).mono HB.out.size)
        have HBW3 : Hid (Below w.heap.size w w3) := HBW.out.trans ((below_alloc hb3).mono HBW.out.size)
        have HG4 : Hid (w3.heap[Bn]? = some (.cells #[.int .i64 n.kind, .int .i64 n.tag, .int .i64 n.mode, .slice (some ⟨kb, ko, none⟩) n.kids.length kc] 58 (0, 0))) := block_below HG3.out (below_alloc hb3)
        have HYB : Hid (w3.heap[wr.heap.size]? = some (.cells #[.int .i64 y.node, .bool y.opt, .string y.dflt] 55 (0, 0))) := block_below (heap_alloc_new wr _) hb3
        have f0 : w3.cell? ⟨Bn, 0, none⟩ = some (.int .i64 n.kind) := by simp [World.cell?, HG4.out]
        have y1 : w3.cell? ⟨wr.heap.size, 1, none⟩ = some (.bool y.opt) := by simp [World.cell?, HYB.out]
        have y2 : w3.cell? ⟨wr.heap.size, 2, none⟩ = some (.string y.dflt) := by simp [World.cell?, HYB.out]
        clear hr hb3 k1 k2 k3
        by_cases q3 : ¬ (y.must ∨ n.kind = 10)
        · have HX : Hid (¬ KidOk m n y) := fun h => q3 h.2.2.1
          obtain rfl : r = true := HRM.out.2 (fun q => q3 (.inl q))
          have q4 : (n.kind != 10) = true := by simp; exact fun e => q3 (.inr e)
          clear q3
          go_wp2
          go_ret
          exact reto_no (NO.out HX.out) HBW3.out
        have q3 : y.must ∨ n.kind = 10 := Classical.not_not.1 q3
        have HQ3 : Hid (y.must ∨ n.kind = 10) := q3
        have q5 : r = false ∨ (r = true ∧ (n.kind != 10) = false) := by
          cases r
          · exact .inl rfl
          · right
            refine ⟨rfl, ?_⟩
            rcases q3 with q3 | q3
            · exact absurd q3 (HRM.out.1 rfl)
            · simp [q3]
        clear q3
        by_cases q6 : y.opt = true
        · by_cases q7 : y.dflt.size = 0
          · have e7 := emp_t q7
            have HX : Hid (KidOk m n y) := ⟨q1', q2', HQ3.out, fun h => h.2 q7⟩
            clear q7
            rw [q6] at y1
            clear q6
            rcases q5 with rfl | ⟨rfl, q8⟩
            · go_wp2
              go_roundw
              case rel => exact ⟨i + 1, by omega, by go_num, YES.out HX.out, HB3.out⟩
              case measure => simp [intOf]; omega
            · go_wp2
              go_roundw
              case rel => exact ⟨i + 1, by omega, by go_num, YES.out HX.out, HB3.out⟩
              case measure => simp [intOf]; omega
          · have e7 := emp_f (t := y.dflt) (by omega)
            have HX : Hid (¬ KidOk m n y) := fun h => h.2.2.2 ⟨q6, q7⟩
            clear q7
            rw [q6] at y1
            clear q6
            rcases q5 with rfl | ⟨rfl, q8⟩
            · go_wp2
              go_ret
              exact reto_no (NO.out HX.out) HBW3.out
            · go_wp2
              go_ret
              exact reto_no (NO.out HX.out) HBW3.out
        · have q6' : y.opt = false := by simpa using q6
          have HX : Hid (KidOk m n y) := ⟨q1', q2', HQ3.out, fun h => q6 h.1⟩
          rw [q6'] at y1
          clear q6 q6'
          rcases q5 with rfl | ⟨rfl, q8⟩
          · go_wp2
            go_roundw
            case rel => exact ⟨i + 1, by omega, by go_num, YES.out HX.out, HB3.out⟩
            case measure => simp [intOf]; omega
          · go_wp2
            go_roundw
            case rel => exact ⟨i + 1, by omega, by go_num, YES.out HX.out, HB3.out⟩
            case measure => simp [intOf]; omega
      · have hlt' : (n.kids.length : Int) ≤ i := by omega
        go_wp2
        go_ret
        exact reto_yes ⟨HTG.out.1, HTG.out.2, HC.out, fun j h => HA.out j (by omega)⟩ HBW.out
end Go.Proofs.YtkkicodfpekbgaaGreatDoor

/-! schemas.isElement: what it answers. -/
namespace Go.Proofs.YtkkicodfpekbgaaGreatDoor
set_option linter.unusedSimpArgs false
set_option linter.unusedVariables false
open Go.RowKit

theorem lays_0 {N : Nd} (ht : N.tag < 0) (hm : N.mode = 0) : N.lays = [(0, own N.kind, false)] := by unfold Nd.lays Nd.ownT; rw [if_neg (by omega), if_neg (by omega)]
theorem lays_1 {N : Nd} (ht : 0 ≤ N.tag) (hm : N.mode = 0) : N.lays = [(2, N.tag, false)] := by unfold Nd.lays Nd.ownT; rw [if_neg (by omega), if_pos ⟨hm, ht⟩]
theorem lays_2 {N : Nd} (hm : N.mode = 1) : N.lays = [(2, N.tag, true), (0, own N.kind, false)] := by unfold Nd.lays Nd.ownT; rw [if_pos hm, if_neg (by omega)]
theorem strip1 {f : Int × Int × Bool} {t u : ByteArray} : strip [f] t = some u ↔ ((hd t).1 = 0 ∧ ((hd t).2.c, (hd t).2.n, (hd t).2.b) = f ∧ (hd t).2.s + (hd t).2.l = t.size) ∧ u = t.extract (hd t).2.s.toNat t.size := by
  show (if _ then some _ else none) = _ ↔ _
  by_cases h : (hd t).1 = 0 ∧ ((hd t).2.c, (hd t).2.n, (hd t).2.b) = f ∧ (hd t).2.s + (hd t).2.l = t.size
  · rw [if_pos h]
    exact ⟨fun e => ⟨h, by injection e with e; exact e.symm⟩, fun e => by rw [e.2]⟩
  · rw [if_neg h]
    exact ⟨fun e => (by cases e), fun e => absurd e.1 h⟩
theorem strip2 {f : Int × Int × Bool} {fs : List (Int × Int × Bool)} {t u : ByteArray} : strip (f :: fs) t = some u ↔ ((hd t).1 = 0 ∧ ((hd t).2.c, (hd t).2.n, (hd t).2.b) = f ∧ (hd t).2.s + (hd t).2.l = t.size) ∧ strip fs (t.extract (hd t).2.s.toNat t.size) = some u := by
  show (if _ then _ else none) = _ ↔ _
  by_cases h : (hd t).1 = 0 ∧ ((hd t).2.c, (hd t).2.n, (hd t).2.b) = f ∧ (hd t).2.s + (hd t).2.l = t.size
  · rw [if_pos h]
    exact ⟨fun e => ⟨h, e⟩, fun e => e.2⟩
  · rw [if_neg h]
    exact ⟨fun e => (by cases e), fun e => absurd e.1 h⟩
theorem elem_iff {N : Nd} {t u : ByteArray} (ht : N.tag < 0 → N.mode = 0) (hm : N.mode = 0 ∨ N.mode = 1) : ElemOk N t u ↔ (strip N.lays t = some u ∧ ContentOk N.kind u) := by
  unfold ElemOk NodeAt
  rw [extract_all]
  by_cases h0 : N.tag < 0
  · rw [lays_0 h0 (ht h0), strip1]
    constructor
    · rintro ⟨_, h1, h2, h3⟩
      rcases h3 with ⟨_, b, c, d, e, f⟩ | ⟨a, _⟩ | ⟨a, _⟩
      · exact ⟨⟨⟨h1, by rw [b, c, d], by omega⟩, by rw [e, Nat.zero_add]⟩, f⟩
      · omega
      · omega
    · rintro ⟨⟨⟨h1, h2, h3⟩, h4⟩, h5⟩
      injection h2 with b h2
      injection h2 with c d
      exact ⟨by omega, h1, by omega, .inl ⟨h0, b, c, d, by rw [h4, Nat.zero_add], h5⟩⟩
  · rcases hm with hm | hm
    · rw [lays_1 (by omega) hm, strip1]
      constructor
      · rintro ⟨_, h1, h2, h3⟩
        rcases h3 with ⟨a, _⟩ | ⟨_, _, b, c, d, e, f⟩ | ⟨_, a, _⟩
        · omega
        · exact ⟨⟨⟨h1, by rw [b, c, d], by omega⟩, by rw [e, Nat.zero_add]⟩, f⟩
        · omega
      · rintro ⟨⟨⟨h1, h2, h3⟩, h4⟩, h5⟩
        injection h2 with b h2
        injection h2 with c d
        exact ⟨by omega, h1, by omega, .inr (.inl ⟨by omega, hm, b, c, d, by rw [h4, Nat.zero_add], h5⟩)⟩
    · rw [lays_2 hm, strip2, strip1]
      constructor
      · rintro ⟨_, h1, h2, h3⟩
        rcases h3 with ⟨a, _⟩ | ⟨_, a, _⟩ | ⟨_, _, b, c, d, t', e, f, g, h, i, j, k, l⟩
        · omega
        · omega
        · rw [Nat.zero_add] at e k
          have ho := hd_ok h1
          have hz : t'.size = t.size - (hd t).2.s.toNat := by rw [e]; simp
          rw [← e]
          refine ⟨⟨⟨h1, by rw [b, c, d], by omega⟩, ⟨f, by rw [g, h, i], by omega⟩, ?_⟩, l⟩
          have hmn : min ((hd t).2.s.toNat + (t.size - (hd t).2.s.toNat)) t.size = t.size := by omega
          rw [k, hz, e, ByteArray.extract_extract, hmn]
      · rintro ⟨⟨⟨h1, h2, h3⟩, ⟨f, h4, h6⟩, h7⟩, h5⟩
        injection h2 with b h2
        injection h2 with c d
        injection h4 with g h4
        injection h4 with h i
        have ho := hd_ok h1
        have hz : (t.extract (hd t).2.s.toNat t.size).size = t.size - (hd t).2.s.toNat := by simp
        have hmn : min ((hd t).2.s.toNat + (t.size - (hd t).2.s.toNat)) t.size = t.size := by omega
        refine ⟨by omega, h1, by omega, .inr (.inr ⟨by omega, by omega, b, c, d, t.extract (hd t).2.s.toNat t.size, by rw [Nat.zero_add], f, g, h, i, ?_, ?_, h5⟩)⟩
        · omega
        · rw [h7, hz, ByteArray.extract_extract, Nat.zero_add, hmn]

set_option maxHeartbeats 1000000 in
set_option maxRecDepth 100000 in
theorem isElement_any (n : Nd) (ka : Option Addr) (kc : Nat) (t : ByteArray) (w : World) (sn : Sn → Addr) (hl : Lay w sn) (hT : Tagged n) (hk1 : 1 ≤ n.kind) (hm : t.size ≤ 140737488355328) :
    Calls Tryz.prog 95 #[.agg #[.int .i64 n.kind, .int .i64 n.tag, .int .i64 n.mode, .slice ka n.kids.length kc], .string t] w fun e w' => RetO (n.kind ≤ 9 ∧ ∃ u, ElemOk n t u) w e w' := by
  by_cases h9 : 9 < n.kind
  · have HX : Hid (¬ (n.kind ≤ 9 ∧ ∃ u, ElemOk n t u)) := fun q => by have := q.1; omega
    clear hl hT
    go_enter Tryz.func95, Tryz.ntmps95
    go_wp2
    go_ret
    exact reto_no HX.out ((Below.refl _ _).alloc (Nat.le_refl _) _)
  · have h9' : n.kind ≤ 9 := by omega
    have hT' := hT
    unfold Tagged at hT'
    have HE : Hid (∀ u, ElemOk n t u ↔ (strip n.lays t = some u ∧ ContentOk n.kind u)) := fun u => elem_iff (by omega) (by omega)
    have HW : Hid (∀ wq, Below w.heap.size w wq → Calls Tryz.prog 137 #[.agg #[.int .i64 n.kind, .int .i64 n.tag, .int .i64 n.mode, .slice ka n.kids.length kc], .string t] wq fun e w' => RetI n t wq e w') := fun wq q => within_any n ka kc t wq sn (hl.below q).s (hl.below q).n (by omega) (by omega) h9' (by omega) hm
    have HF : Hid (∀ u wq, u.size ≤ t.size → Below w.heap.size w wq → Calls Tryz.prog 138 #[.int .i64 n.kind, .string u] wq fun e w' => RetW (ContentOk n.kind u) wq e w') := fun u wq hu q => fits_any n.kind u wq (by omega) (hl.below q).d (valids u wq (by omega) (hl.below q).t)
    clear hl hT hT' h9
    go_enter Tryz.func95, Tryz.ntmps95
    go_wp2_with fail
    refine (HW.out _ ((Below.refl _ _).alloc (Nat.le_refl _) _)).mono ?_
    rintro e w1 ⟨u, r, rfl, hr, hb1, hu⟩
    have HB1 : Hid (Below w.heap.size w w1) := below_alloc hb1
    have HG := block_below (heap_alloc_new w (.cells #[.int .i64 n.kind, .int .i64 n.tag, .int .i64 n.mode, .slice ka n.kids.length kc] 58)) hb1
    have q0 : w1.cell? ⟨w.heap.size, 0, none⟩ = some (.int .i64 n.kind) := by simp [World.cell?, HG]
    have hs1 := lt_of_block HG
    clear HG hb1
    cases r
    · have HX : Hid (¬ (n.kind ≤ 9 ∧ ∃ u, ElemOk n t u)) := by
        rcases hr with ⟨e, _⟩ | ⟨_, e⟩
        · cases e
        · rintro ⟨_, u, q⟩
          rw [HE.out, e] at q
          cases q.1
      clear hr
      go_wp2
      go_ret
      exact reto_no HX.out HB1.out
    · have HX : Hid (strip n.lays t = some u) := by
        rcases hr with ⟨_, e⟩ | ⟨e, _⟩
        · exact e
        · cases e
      clear hr
      go_wp2_with fail
      refine (HF.out u _ hu HB1.out).mono ?_
      rintro e w2 ⟨r, rfl, hr, hb2⟩
      have HR : Hid (r = true ↔ (n.kind ≤ 9 ∧ ∃ u, ElemOk n t u)) := by
        refine hr.trans ⟨fun q => ⟨h9', u, (HE.out u).2 ⟨HX.out, q⟩⟩, ?_⟩
        rintro ⟨_, v, q⟩
        rw [HE.out, HX.out] at q
        obtain ⟨q1, q2⟩ := q
        injection q1 with q1
        rw [q1]; exact q2
      have HB2 : Hid (Below w.heap.size w w2) := HB1.out.trans (hb2.mono HB1.out.size)
      clear hr hb2
      go_wp2
      go_ret
      exact reto_iff HR.out HB2.out
end Go.Proofs.YtkkicodfpekbgaaGreatDoor

/-! schemas.defaultsFit: what it answers. -/
namespace Go.Proofs.YtkkicodfpekbgaaGreatDoor
set_option linter.unusedSimpArgs false
set_option linter.unusedVariables false
open Go.RowKit

set_option maxHeartbeats 2000000 in
set_option maxRecDepth 100000 in
theorem defaultsFit_any (s : List Nd) (a : Option Addr) (c : Nat) (n : Nd) (ka : Option Addr) (kc : Nat) (w : World) (sn : Sn → Addr) (hl : Lay w sn) (hs : Sch w a s) (hka : KidsIn w ka n.kids) (hk8 : n.kids.length ≤ 8) (hw : ∀ j, j < n.kids.length → ∃ t : Nat, (kd n j).node = t ∧ t < s.length)
    (hT : ∀ i, i < s.length → Tagged (nd s i)) (hkd : Kinds s) (hn : s.length ≤ 40) (hd : ∀ j, j < n.kids.length → (kd n j).dflt.size ≤ 140737488351232) :
    Calls Tryz.prog 62 #[.slice a s.length c, .agg #[.int .i64 n.kind, .int .i64 n.tag, .int .i64 n.mode, .slice ka n.kids.length kc]] w fun e w' => RetO (DfltOk s n n.kids.length) w e w' := by
  have HKI : Hid (KidsIn w ka n.kids) := hka
  have HKR : Hid (∀ j, j < n.kids.length → ∃ t : Nat, (kd n j).node = t ∧ t < s.length) := hw
  have HS : Hid (Sch w a s) := hs
  have HD : Hid (∀ j, j < n.kids.length → (kd n j).dflt.size ≤ 140737488351232) := hd
  have HIE : Hid (∀ (i : Nat) (ka : Option Addr) (kc : Nat) (t : ByteArray) (wq : World), i < s.length → t.size ≤ 140737488351232 → Below w.heap.size w wq → Calls Tryz.prog 95 #[.agg #[.int .i64 (nd s i).kind, .int .i64 (nd s i).tag, .int .i64 (nd s i).mode, .slice ka (nd s i).kids.length kc], .string t] wq fun e w' => RetO ((nd s i).kind ≤ 9 ∧ ∃ u, ElemOk (nd s i) t u) wq e w') :=
    fun i ka kc t wq hi ht q => isElement_any (nd s i) ka kc t wq sn (hl.below q) (hT i hi) (hkd i hi).1 (by omega)
  clear hka hw hs hd hl hT hkd
  go_enter Tryz.func62, Tryz.ntmps62
  go_wp2
  have HB0 : Hid (Below w.heap.size w (w.alloc (.cells #[.int .i64 n.kind, .int .i64 n.tag, .int .i64 n.mode, .slice ka n.kids.length kc] 58))) := (Below.refl _ _).alloc (Nat.le_refl _) _
  go_loopw [10] (fun vi wr => ∃ i : Nat, i ≤ n.kids.length ∧ vi = .int .i64 i ∧ DfltOk s n i ∧ Below w.heap.size w wr) (fun vi _ => n.kids.length - (intOf vi).toNat)
  case atStart => exact ⟨0, Nat.zero_le _, rfl, fun _ h => absurd h (Nat.not_lt_zero _), HB0.out⟩
  case round =>
    obtain ⟨i, hi, rfl, hall, hbr⟩ := hrel
    have HA : Hid (DfltOk s n i) := hall
    have HB : Hid (Below w.heap.size w wr) := hbr
    clear hall hbr
    by_cases hlt : i < n.kids.length
    · have hlt' : (i : Int) < n.kids.length := by omega
      obtain ⟨kb, ko, rfl, kcl⟩ := HKI.out i hlt
      obtain ⟨ty, yo, yd, hy, hty⟩ := kid_at HKR.out hlt
      have HY : Hid (kd n i = ⟨ty, yo, yd⟩) := hy
      have hkcl : KidCells w kb (ko + i * 3) ⟨ty, yo, yd⟩ := by rw [← hy]; exact kcl
      have hds : yd.size ≤ 140737488351232 := by have := HD.out i hlt; rw [hy] at this; exact this
      obtain ⟨k1, k2, k3⟩ := hkcl.below HB.out
      simp only at k1 k2 k3
      have HB2 : Hid (Below w.heap.size w (wr.alloc (.cells #[.int .i64 ty, .bool yo, .string yd] 55))) := HB.out.alloc HB.out.size _
      obtain ⟨b, o, ka2, kc2, rfl, nc, _⟩ := HS.out ty hty
      have X0 : ∀ x : Ext (wr.alloc (.cells #[.int .i64 ty, .bool yo, .string yd] 55)), x.v.cell? ⟨wr.heap.size, 0, none⟩ = some (.int .i64 ty) := fun x => x.new rfl
      have X2 : ∀ x : Ext (wr.alloc (.cells #[.int .i64 ty, .bool yo, .string yd] 55)), x.v.cell? ⟨wr.heap.size, 2, none⟩ = some (.string yd) := fun x => x.new rfl
      have X3 : ∀ x : Ext (wr.alloc (.cells #[.int .i64 ty, .bool yo, .string yd] 55)), x.v.cell? ⟨b, o + ty * 4, none⟩ = some (.int .i64 (nd s ty).kind) := fun x => Ext.far HB2.out x nc.kind
      have X4 : ∀ x : Ext (wr.alloc (.cells #[.int .i64 ty, .bool yo, .string yd] 55)), x.v.cell? ⟨b, o + ty * 4 + 1, none⟩ = some (.int .i64 (nd s ty).tag) := fun x => Ext.far HB2.out x nc.tag
      have X5 : ∀ x : Ext (wr.alloc (.cells #[.int .i64 ty, .bool yo, .string yd] 55)), x.v.cell? ⟨b, o + ty * 4 + 2, none⟩ = some (.int .i64 (nd s ty).mode) := fun x => Ext.far HB2.out x nc.mode
      have X6 : ∀ x : Ext (wr.alloc (.cells #[.int .i64 ty, .bool yo, .string yd] 55)), x.v.cell? ⟨b, o + ty * 4 + 3, none⟩ = some (.slice ka2 (nd s ty).kids.length kc2) := fun x => Ext.far HB2.out x nc.kids
      obtain ⟨r, hr⟩ := bool_of ((nd s ty).kind ≤ 9 ∧ ∃ u, ElemOk (nd s ty) yd u)
      have HR : Hid (r = true ↔ ((nd s ty).kind ≤ 9 ∧ ∃ u, ElemOk (nd s ty) yd u)) := hr
      have HM : Hid (∀ x : Ext (wr.alloc (.cells #[.int .i64 ty, .bool yo, .string yd] 55)), Calls Tryz.prog 95 #[.agg #[.int .i64 (nd s ty).kind, .int .i64 (nd s ty).tag, .int .i64 (nd s ty).mode, .slice ka2 (nd s ty).kids.length kc2], .string yd] x.v fun e w'' => e = .returned (.bool r) ∧ ∃ y : Ext (wr.alloc (.cells #[.int .i64 ty, .bool yo, .string yd] 55)), w'' = y.v) := fun x => Ext.callsR hr (HIE.out ty ka2 kc2 yd x.v hty hds (Ext.bel HB2.out x))
      have hty' : (ty : Int) < s.length := by omega
      have STEP : Hid (yd.size = 0 ∨ ((nd s ty).kind ≤ 9 ∧ ∃ u, ElemOk (nd s ty) yd u) → DfltOk s n (i + 1)) := fun h j hj => by
        by_cases e : j = i
        · subst e; rw [HY.out]; simpa using h
        · exact HA.out j (by omega)
      have BADD : Hid (0 < yd.size → ¬ ((nd s ty).kind ≤ 9 ∧ ∃ u, ElemOk (nd s ty) yd u) → ¬ DfltOk s n n.kids.length) := fun h1 h2 q => by
        have := q i hlt
        rw [HY.out] at this
        simp only [Int.toNat_natCast] at this
        rcases this with h | h
        · omega
        · exact h2 h
      clear hy kcl hkcl nc hr
      by_cases hz : yd.size = 0
      · have e0 := emp_t hz
        have HZ : Hid (yd.size = 0) := hz
        clear hz
        go_wp2_with fail
        (have ne := ext_ne; refine wp_region_ext (by kernel_rfl) (by kernel_rfl) ?_; (repeat (first | go_big_quiet_skip | (go_big_quiet_want; go_big_quiet_op; first | go_big_quiet_on | (apply Exists.intro; refine ⟨fun x => ?_, ?_⟩; (· (exact HM.out x)); go_big_quiet_on)))); refine nil_ext ?_)
        intro w5 hb5
        have HB5 : Hid (Below w.heap.size w w5) := HB2.out.trans (hb5.mono HB2.out.size)
        clear X0 X2 X3 X4 X5 X6 hb5 HM
        go_wp2
        go_roundw
        case rel => exact ⟨i + 1, by omega, by go_num, STEP.out (.inl HZ.out), HB5.out⟩
        case measure => simp [intOf]; omega
      · have e0 := emp_f (t := yd) (by omega)
        have HZ : Hid (0 < yd.size) := by show 0 < yd.size; omega
        clear hz
        go_wp2_with fail
        (have ne := ext_ne; refine wp_region_ext (by kernel_rfl) (by kernel_rfl) ?_; (repeat (first | go_big_quiet_skip | (go_big_quiet_want; go_big_quiet_op; first | go_big_quiet_on | (apply Exists.intro; refine ⟨fun x => ?_, ?_⟩; (· (exact HM.out x)); go_big_quiet_on)))); refine nil_ext ?_)
        intro w5 hb5
        have HB5 : Hid (Below w.heap.size w w5) := HB2.out.trans (hb5.mono HB2.out.size)
        clear X0 X2 X3 X4 X5 X6 hb5 HM
        cases r
        · go_wp2
          go_ret
          exact reto_no (BADD.out HZ.out (fun q => Bool.noConfusion (HR.out.2 q))) HB5.out
        · go_wp2
          go_roundw
          case rel => exact ⟨i + 1, by omega, by go_num, STEP.out (.inr (HR.out.1 rfl)), HB5.out⟩
          case measure => simp [intOf]; omega
    · have hlt' : (n.kids.length : Int) ≤ i := by omega
      have HI : Hid (i = n.kids.length) := by show i = _; omega
      go_wp2
      go_ret
      exact reto_yes (HI.out ▸ HA.out) HB.out
end Go.Proofs.YtkkicodfpekbgaaGreatDoor

/-! schemas.Check: what it answers. -/
namespace Go.Proofs.YtkkicodfpekbgaaGreatDoor
set_option linter.unusedSimpArgs false
set_option linter.unusedVariables false
open Go.RowKit

/-- What Check answers. -/
def RetK (s : List Nd) (za : Addr) (w : World) (e : Ending) (w' : World) : Prop := Below w.heap.size w w' ∧ ((e = .returned .nilIface ∧ RightP s) ∨ ((∃ p : Int, e = .returned (fault p za)) ∧ ¬ RightP s))

theorem kidsOf {s : List Nd} (h : ∀ i, i < s.length → Alone s.length (nd s i)) {i : Nat} (hi : i < s.length) : ∀ j, j < (nd s i).kids.length → ∃ t : Nat, (kd (nd s i) j).node = t ∧ t < s.length := fun j hj => by
  have q := (h i hi).2.2.2 j hj
  have q1 := q.1
  have q2 := q.2.1
  exact ⟨(kd (nd s i) j).node.toNat, by omega, by omega⟩
theorem taggedOf {s : List Nd} (h : ∀ i, i < s.length → Alone s.length (nd s i)) : ∀ i, i < s.length → Tagged (nd s i) := fun i hi => ((tagged_iff _).1 ⟨(h i hi).1, (h i hi).2.1⟩).2.2
theorem dfltOf {s : List Nd} (h : SchOk s) {i : Nat} (hi : i < s.length) : ∀ j, j < (nd s i).kids.length → (kd (nd s i) j).dflt.size ≤ 140737488351232 := fun j hj => by
  refine h i hi _ ?_
  unfold kd
  rw [List.getD_eq_getElem?_getD, List.getElem?_eq_getElem hj]
  exact List.getElem_mem hj
theorem plain_iff {s : List Nd} (h : ∀ i, i < s.length → Alone s.length (nd s i)) (hb : ∀ i, i < s.length → ¬ Back s i) {i : Nat} (hi : i < s.length) :
    PlainAt s (nd s i) ↔ ((nd s i).kind = 10 ∨ (nd s i).kind = 13 → Told (Common s) (nd s i)) := by
  have hw := within_of h
  have hlf : ∀ i, i < s.length → ∃ j, Leaf s i j := fun i hi => leaf_ex hw (fun i hi ho e => by
    have h1 := (h i hi).2.2.1
    have h2 := ho.1
    unfold Count at h1
    rw [if_neg (by omega), if_neg (by omega), if_pos h2, e] at h1
    have := h1.1
    simp at this) hb hi
  have ht : ∀ j, j < s.length → (nd s j).tag ≤ 30 := fun j hj => (taggedOf h j hj).2.1
  unfold PlainAt
  refine forall_congr' fun _ => (told_congr (m := s.length) (fun j hj => ?_) fun i k h1 h2 => (common_iff ht hw h1 h2 (hlf i h1) (hlf k h2)).symm)
  obtain ⟨t, e, q⟩ := kidsOf h hi j hj
  rw [e]; simpa using q

set_option maxHeartbeats 4000000 in
set_option maxRecDepth 100000 in
theorem check_any (s : List Nd) (a : Option Addr) (c : Nat) (w : World) (sn : Sn → Addr) (za : Addr) (hl : Lay w sn) (hz : LayZ w sn za) (hs : Sch w a s) (hok : SchOk s) (hn0 : s.length ≤ 140737488351232) :
    Calls Tryz.prog 35 #[.slice a s.length c] w fun e w' => RetK s za w e w' := by
  have HS : Hid (Sch w a s) := hs
  have HOK : Hid (SchOk s) := hok
  have HL : Hid (Lay w sn) := hl
  have HZ : Hid (∀ wq, Below w.heap.size w wq → wq.cell? ⟨12, 0, none⟩ = some (.iface 291 (.pointer (some za)))) := fun wq q => (hz.below q).c
  have HAT : Hid (∀ (p : Int) (wq : World), Calls Tryz.prog 60 #[.int .i64 p, .iface 291 (.pointer (some za))] wq fun e w' => e = .returned (fault p za) ∧ w' = wq) := fun p wq => at_any p za wq
  have NO : Hid (∀ (p : Int) (wq : World), ¬ RightP s → Below w.heap.size w wq → RetK s za w (.returned (fault p za)) wq) := fun p wq h q => ⟨q, .inr ⟨⟨p, rfl⟩, h⟩⟩
  have z0 := HZ.out w (Below.refl _ _)
  clear hs hok hl hz
  by_cases hb : s.length < 1
  · have hb' : (s.length : Int) < 1 := by omega
    have HX : Hid (¬ RightP s) := fun h => by have := h.1; omega
    clear hb
    go_enter Tryz.func35, Tryz.ntmps35
    go_wp2_with fail
    refine (HAT.out _ _).mono ?_
    rintro e w1 ⟨rfl, rfl⟩
    unfold fault
    go_wp2
    go_ret
    exact NO.out _ _ HX.out (Below.refl _ _)
  by_cases hb2 : 40 < s.length
  · have hb' : (40 : Int) < s.length := by omega
    have hb1' : (1 : Int) ≤ s.length := by omega
    have HX : Hid (¬ RightP s) := fun h => by have := h.2.1; omega
    clear hb hb2
    go_enter Tryz.func35, Tryz.ntmps35
    go_wp2_with fail
    refine (HAT.out _ _).mono ?_
    rintro e w1 ⟨rfl, rfl⟩
    unfold fault
    go_wp2
    go_ret
    exact NO.out _ _ HX.out (Below.refl _ _)
  have h1 : 1 ≤ s.length := by omega
  have h40 : s.length ≤ 40 := by omega
  have h1' : (1 : Int) ≤ s.length := by omega
  have h40' : (s.length : Int) ≤ 40 := by omega
  clear hb hb2 hn0 z0
  go_enter Tryz.func35, Tryz.ntmps35
  go_wp2
  go_loopw [22] (fun vi wr => ∃ i : Nat, i ≤ s.length ∧ vi = .int .i64 i ∧ (∀ j, j < i → Alone s.length (nd s j)) ∧ Below w.heap.size w wr) (fun vi _ => s.length - (intOf vi).toNat)
  case atStart => exact ⟨0, Nat.zero_le _, rfl, fun _ h => absurd h (Nat.not_lt_zero _), Below.refl _ _⟩
  case round =>
    obtain ⟨i, hi, rfl, hall, hbr⟩ := hrel
    have HA : Hid (∀ j, j < i → Alone s.length (nd s j)) := hall
    have HB : Hid (Below w.heap.size w wr) := hbr
    clear hall hbr
    by_cases hlt : i < s.length
    · have hlt' : (i : Int) < s.length := by omega
      obtain ⟨b, o, ka, kc, rfl, nc, kl, km, ks⟩ := HS.out i hlt
      obtain ⟨n1, n2, n3, n4⟩ := nc.below HB.out
      have HB2 : Hid (Below w.heap.size w (wr.alloc (.cells #[.int .i64 (nd s i).kind, .int .i64 (nd s i).tag, .int .i64 (nd s i).mode, .slice ka (nd s i).kids.length kc] 58))) := HB.out.alloc HB.out.size _
      have HC : Hid (∀ wq, Below w.heap.size w wq → Calls Tryz.prog 61 #[.agg #[.int .i64 (nd s i).kind, .int .i64 (nd s i).tag, .int .i64 (nd s i).mode, .slice ka (nd s i).kids.length kc], .int .i64 s.length] wq fun e w' => RetO (Alone s.length (nd s i)) wq e w') := fun wq q => isShaped_any s.length (nd s i) ka kc wq (ks.below q) (by omega)
      clear ks nc
      go_wp2_with fail
      refine (HC.out _ HB2.out).mono ?_
      rintro e w1 ⟨r, rfl, hr, hb1⟩
      have HR : Hid (r = true ↔ Alone s.length (nd s i)) := hr
      have HB1 : Hid (Below w.heap.size w w1) := HB2.out.trans (hb1.mono HB2.out.size)
      have z1 := HZ.out w1 HB1.out
      clear hr hb1 n1 n2 n3 n4 HC
      cases r
      · have HX : Hid (¬ RightP s) := fun h => Bool.noConfusion (HR.out.2 (h.2.2.1 i hlt))
        go_wp2_with fail
        refine (HAT.out _ _).mono ?_
        rintro e w2 ⟨rfl, rfl⟩
        unfold fault
        go_wp2
        go_ret
        exact NO.out _ _ HX.out HB1.out
      · go_wp2
        go_roundw
        case rel => exact ⟨i + 1, by omega, by go_num, fun j hj => by
          by_cases e : j = i
          · subst e; exact HR.out.1 trivial
          · exact HA.out j (by omega), HB1.out⟩
        case measure => simp [intOf]; omega
    · have hlt' : (s.length : Int) ≤ i := by omega
      obtain rfl : i = s.length := by omega
      go_wp2
      go_loopw [38] (fun vi wr => ∃ i : Nat, i ≤ s.length ∧ vi = .int .i64 i ∧ (∀ j, j < i → DfltOk s (nd s j) (nd s j).kids.length ∧ ¬ Back s j) ∧ Below w.heap.size w wr) (fun vi _ => s.length - (intOf vi).toNat)
      case atStart => exact ⟨0, Nat.zero_le _, rfl, fun _ h => absurd h (Nat.not_lt_zero _), HB.out⟩
      case round =>
        obtain ⟨i, hi, rfl, hall, hbr⟩ := hrel
        have HBK : Hid (∀ j, j < i → DfltOk s (nd s j) (nd s j).kids.length ∧ ¬ Back s j) := hall
        have HB2 : Hid (Below w.heap.size w wr) := hbr
        clear hall hbr
        by_cases hlt : i < s.length
        · have hlt' : (i : Int) < s.length := by omega
          obtain ⟨b, o, ka, kc, rfl, nc, kl, km, ks⟩ := HS.out i hlt
          obtain ⟨n1, n2, n3, n4⟩ := nc.below HB2.out
          have HB3 : Hid (Below w.heap.size w (wr.alloc (.cells #[.int .i64 (nd s i).kind, .int .i64 (nd s i).tag, .int .i64 (nd s i).mode, .slice ka (nd s i).kids.length kc] 58))) := HB2.out.alloc HB2.out.size _
          have HD : Hid (∀ wq, Below w.heap.size w wq → Calls Tryz.prog 62 #[.slice (some ⟨b, o, none⟩) s.length c, .agg #[.int .i64 (nd s i).kind, .int .i64 (nd s i).tag, .int .i64 (nd s i).mode, .slice ka (nd s i).kids.length kc]] wq fun e w' => RetO (DfltOk s (nd s i) (nd s i).kids.length) wq e w') := fun wq q => defaultsFit_any s _ c (nd s i) ka kc wq sn (HL.out.below q) (HS.out.below q) (ks.below q) (count8 HA.out hlt) (kidsOf HA.out hlt) (taggedOf HA.out) (kinds_of HA.out) h40 (dfltOf HOK.out hlt)
          have HC : Hid (∀ wq, Below w.heap.size w wq → Calls Tryz.prog 63 #[.slice (some ⟨b, o, none⟩) s.length c, .int .i64 i] wq fun e w' => RetO (Back s i) wq e w') := fun wq q => comesBack_any s _ c i wq (HS.out.below q) (within_of HA.out) (fun j hj => (taggedOf HA.out j hj).1) hlt h40
          clear ks nc
          go_wp2_with fail
          refine (HD.out _ HB3.out).mono ?_
          rintro e w1 ⟨r, rfl, hr, hb1⟩
          have HR : Hid (r = true ↔ DfltOk s (nd s i) (nd s i).kids.length) := hr
          have HB1 : Hid (Below w.heap.size w w1) := HB3.out.trans (hb1.mono HB3.out.size)
          have z1 := HZ.out w1 HB1.out
          clear hr hb1 n1 n2 n3 n4 HD
          cases r
          · have HX : Hid (¬ RightP s) := fun h => Bool.noConfusion (HR.out.2 (h.2.2.2.2 i hlt).2)
            go_wp2_with fail
            refine (HAT.out _ _).mono ?_
            rintro e w2 ⟨rfl, rfl⟩
            unfold fault
            go_wp2
            go_ret
            exact NO.out _ _ HX.out HB1.out
          · have HDF : Hid (DfltOk s (nd s i) (nd s i).kids.length) := HR.out.1 rfl
            go_wp2_with fail
            refine (HC.out _ HB1.out).mono ?_
            rintro e w2 ⟨r, rfl, hr, hb2⟩
            have HR2 : Hid (r = true ↔ Back s i) := hr
            have HB4 : Hid (Below w.heap.size w w2) := HB1.out.trans (hb2.mono HB1.out.size)
            have z2 := HZ.out w2 HB4.out
            clear hr hb2 HC
            cases r
            · go_wp2
              go_roundw
              case rel => exact ⟨i + 1, by omega, by go_num, fun j hj => by
                by_cases e : j = i
                · subst e; exact ⟨HDF.out, fun q => Bool.noConfusion (HR2.out.2 q)⟩
                · exact HBK.out j (by omega), HB4.out⟩
              case measure => simp [intOf]; omega
            · have HX : Hid (¬ RightP s) := fun h => h.2.2.2.1 i hlt (HR2.out.1 rfl)
              go_wp2_with fail
              refine (HAT.out _ _).mono ?_
              rintro e w3 ⟨rfl, rfl⟩
              unfold fault
              go_wp2
              go_ret
              exact NO.out _ _ HX.out HB4.out
        · have hlt' : (s.length : Int) ≤ i := by omega
          obtain rfl : i = s.length := by omega
          have HC : Hid (Calls Tryz.prog 64 #[.slice a s.length c] wr fun e w' => e = .returned (.slice (some ⟨wr.heap.size, 0, none⟩) s.length s.length) ∧ AbW s wr w' s.length) := allBeginnings_any s a c wr (HS.out.below HB2.out) (within_of HA.out) (fun j hj => (taggedOf HA.out j hj).1) (kinds_of HA.out) (HL.out.below HB2.out).n h40
          go_wp2_with fail
          refine HC.out.mono ?_
          rintro e w1 ⟨rfl, hab⟩
          obtain ⟨gb, hgb⟩ : ∃ gb, gb = wr.heap.size := ⟨_, rfl⟩
          have HAB : Hid (AbR w1 gb s) := by rw [hgb]; exact hab.read
          have HB3 : Hid (Below w.heap.size w w1) := HB2.out.trans (hab.bel.mono HB2.out.size)
          rw [← hgb]
          clear hab hgb HC
          go_wp2
          go_loopw [60] (fun vi wr => ∃ i : Nat, i ≤ s.length ∧ vi = .int .i64 i ∧ (∀ j, j < i → PlainAt s (nd s j)) ∧ Below w1.heap.size w1 wr) (fun vi _ => s.length - (intOf vi).toNat)
          case atStart => exact ⟨0, Nat.zero_le _, rfl, fun _ h => absurd h (Nat.not_lt_zero _), Below.refl _ _⟩
          case round =>
            obtain ⟨i, hi, rfl, hall, hbr⟩ := hrel
            have HPL : Hid (∀ j, j < i → PlainAt s (nd s j)) := hall
            have HB4 : Hid (Below w1.heap.size w1 wr) := hbr
            have HB5 : Hid (Below w.heap.size w wr) := HB3.out.trans (hbr.mono HB3.out.size)
            clear hall hbr
            by_cases hlt : i < s.length
            · have hlt' : (i : Int) < s.length := by omega
              obtain ⟨b, o, ka, kc, rfl, nc, kl, km, ks⟩ := HS.out i hlt
              obtain ⟨n1, n2, n3, n4⟩ := nc.below HB5.out
              have HB6 : Hid (Below w1.heap.size w1 (wr.alloc (.cells #[.int .i64 (nd s i).kind, .int .i64 (nd s i).tag, .int .i64 (nd s i).mode, .slice ka (nd s i).kids.length kc] 58))) := HB4.out.alloc HB4.out.size _
              have HP : Hid (∀ wq, Below w1.heap.size w1 wq → Calls Tryz.prog 65 #[.agg #[.int .i64 (nd s i).kind, .int .i64 (nd s i).tag, .int .i64 (nd s i).mode, .slice ka (nd s i).kids.length kc], .slice (some ⟨gb, 0, none⟩) s.length s.length] wq fun e w' => RetO (PlainAt s (nd s i)) wq e w') := fun wq q => isPlain_any s (nd s i) ka kc gb wq (ks.below (HB3.out.trans (q.mono HB3.out.size))) kl (count8 HA.out hlt) (kidsOf HA.out hlt) (HAB.out.below q) h40
              clear ks nc
              go_wp2_with fail
              refine (HP.out _ HB6.out).mono ?_
              rintro e w2 ⟨r, rfl, hr, hb2⟩
              have HR : Hid (r = true ↔ PlainAt s (nd s i)) := hr
              have HB7 : Hid (Below w1.heap.size w1 w2) := HB6.out.trans (hb2.mono HB6.out.size)
              have HB8 : Hid (Below w.heap.size w w2) := HB3.out.trans (HB7.out.mono HB3.out.size)
              have z2 := HZ.out w2 HB8.out
              clear hr hb2 n1 n2 n3 n4 HP
              cases r
              · have HX : Hid (¬ RightP s) := fun h => Bool.noConfusion (HR.out.2 ((plain_iff HA.out (fun j hj => (HBK.out j hj).2) hlt).2 (h.2.2.2.2 i hlt).1))
                go_wp2_with fail
                refine (HAT.out _ _).mono ?_
                rintro e w3 ⟨rfl, rfl⟩
                unfold fault
                go_wp2
                go_ret
                exact NO.out _ _ HX.out HB8.out
              · go_wp2
                go_roundw
                case rel => exact ⟨i + 1, by omega, by go_num, fun j hj => by
                  by_cases e : j = i
                  · subst e; exact HR.out.1 trivial
                  · exact HPL.out j (by omega), HB7.out⟩
                case measure => simp [intOf]; omega
            · have hlt' : (s.length : Int) ≤ i := by omega
              obtain rfl : i = s.length := by omega
              go_wp2
              go_ret
              exact ⟨HB5.out, .inl ⟨rfl, h1, h40, HA.out, fun j hj => (HBK.out j hj).2, fun j hj => ⟨(plain_iff HA.out (fun j hj => (HBK.out j hj).2) hj).1 (HPL.out j hj), (HBK.out j hj).1⟩⟩⟩
end Go.Proofs.YtkkicodfpekbgaaGreatDoor

/-! The program's reader in memory; add, notDeep, expect. -/
namespace Go.Proofs.YtkkicodfpekbgaaGreatDoor
set_option linter.unusedSimpArgs false
set_option linter.unusedVariables false
open Go.RowKit

/-- The reader's cells. -/
def ddObj (a : Option Addr) (n c gb : Nat) (data : ByteArray) (vt : Value) : Obj := .cells #[.slice a n c, .slice (some ⟨gb, 0, none⟩) n n, .string data, vt] 144 (0, 0)
/-- The reader in memory: W: the world when it was made; its schema's slice, the beginnings, its data; the tree so far. -/
structure RdD (W w : World) (R : Nat) (a : Option Addr) (n c gb : Nat) (data : ByteArray) (tree : List Vl) : Prop where
  bel : Below W.heap.size W w
  lo : W.heap.size ≤ R
  own : ∃ vt, w.heap[R]? = some (ddObj a n c gb data vt) ∧ w.ownsRow W.heap.size 60 4 vt tree.length (vcells tree)
theorem RdD.below {W w w' : World} {R : Nat} {a : Option Addr} {n c gb : Nat} {data : ByteArray} {tree : List Vl} (h : RdD W w R a n c gb data tree) (hb : Below w.heap.size w w') : RdD W w' R a n c gb data tree where
  bel := h.bel.trans (hb.mono h.bel.size)
  lo := h.lo
  own := by
    obtain ⟨vt, h1, h2⟩ := h.own
    exact ⟨vt, block_below h1 hb, own_below h2 hb⟩
theorem RdD.r0 {W w : World} {R : Nat} {a : Option Addr} {n c gb : Nat} {data : ByteArray} {tree : List Vl} (h : RdD W w R a n c gb data tree) : w.cell? ⟨R, 0, none⟩ = some (.slice a n c) := by
  obtain ⟨_, _, vt, hr, _⟩ := h; unfold ddObj at hr; simp [World.cell?, hr]
theorem RdD.r1 {W w : World} {R : Nat} {a : Option Addr} {n c gb : Nat} {data : ByteArray} {tree : List Vl} (h : RdD W w R a n c gb data tree) : w.cell? ⟨R, 1, none⟩ = some (.slice (some ⟨gb, 0, none⟩) n n) := by
  obtain ⟨_, _, vt, hr, _⟩ := h; unfold ddObj at hr; simp [World.cell?, hr]
theorem RdD.r2 {W w : World} {R : Nat} {a : Option Addr} {n c gb : Nat} {data : ByteArray} {tree : List Vl} (h : RdD W w R a n c gb data tree) : w.cell? ⟨R, 2, none⟩ = some (.string data) := by
  obtain ⟨_, _, vt, hr, _⟩ := h; unfold ddObj at hr; simp [World.cell?, hr]
/-- A store into the reader's tree cell. -/
theorem dd_set {W w : World} {R : Nat} {A : Array Value} {tree : List Vl} {vt : Value} (i : Nat) (u : Value) (hb : Below W.heap.size W w) (hlo : W.heap.size ≤ R) (hg : w.heap[R]? = some (.cells A 144 (0, 0)))
    (ho : w.ownsRow W.heap.size 60 4 vt tree.length (vcells tree)) :
    Below W.heap.size W (w.setCell ⟨R, i, none⟩ u) ∧ (w.setCell ⟨R, i, none⟩ u).heap[R]? = some (.cells (A.setIfInBounds i u) 144 (0, 0)) ∧ (w.setCell ⟨R, i, none⟩ u).ownsRow W.heap.size 60 4 vt tree.length (vcells tree) :=
  ⟨hb.setCell hlo u, heap_setCell_same w R i A _ u hg, ownsRow_setCell_other ho (row_ne hg ho (by decide)) u⟩

set_option maxHeartbeats 2000000 in
set_option maxRecDepth 100000 in
theorem add_any (W w : World) (R : Nat) (a : Option Addr) (n c gb : Nat) (data : ByteArray) (tree : List Vl) (k : Int) (u : ByteArray) (al ki : Int) (h : RdD W w R a n c gb data tree) (hl : tree.length ≤ 1099511627776) :
    Calls Tryz.prog 162 #[.pointer (some ⟨R, 0, none⟩), .agg #[.int .i64 k, .string u, .int .i64 al, .int .i64 ki]] w fun e' w' => e' = .returned (.tuple #[]) ∧ RdD W w' R a n c gb data (tree ++ [⟨k, u, al, ki⟩]) ∧ Fr R w w' := by
  obtain ⟨i0, hi0, hz0, hz1, hz2⟩ := info_parts Tryz.infoVal
  obtain ⟨hb, hlo, vt, hr, ho⟩ := h
  have HB : Hid (Below W.heap.size W w) := hb
  have HO : Hid (w.ownsRow W.heap.size 60 4 vt tree.length (vcells tree)) := ho
  have HR : Hid (w.heap[R]? = some (ddObj a n c gb data vt)) := hr
  unfold ddObj at hr
  have y3 : w.cell? ⟨R, 3, none⟩ = some vt := by simp [World.cell?, hr]
  have f3 : w.frozen? ⟨R, 3, none⟩ = false := by simp [World.frozen?, hr]
  have hRl : R < w.heap.size := lt_of_cell y3
  have hsz : W.heap.size ≤ w.heap.size + 1 + 1 := by have := hb.size; omega
  have HAP : Hid (∀ g cap w3, w3.ownsRow W.heap.size 60 4 (.slice (some ⟨g, 0, none⟩) (tree.length + 1) cap) (tree.length + 1) (vcells tree ++ [.int .i64 k, .string u, .int .i64 al, .int .i64 ki]) → ((w.alloc (.cells #[.int .i64 k, .string u, .int .i64 al, .int .i64 ki] 60)).drew.alloc (.cells #[.int .i64 k, .string u, .int .i64 al, .int .i64 ki] 60)).grownBy w3 vt.ownBlock →
      w3.cell? ⟨R, 3, none⟩ = some vt ∧ w3.frozen? ⟨R, 3, none⟩ = false ∧ RdD W (w3.setCell ⟨R, 3, none⟩ (.slice (some ⟨g, 0, none⟩) (tree.length + 1) cap)) R a n c gb data (tree ++ [⟨k, u, al, ki⟩]) ∧ Fr R w (w3.setCell ⟨R, 3, none⟩ (.slice (some ⟨g, 0, none⟩) (tree.length + 1) cap))) := fun g cap w3 h1 h2 => by
    have old : ∀ j, j < w.heap.size → (some j ≠ vt.ownBlock) → w3.heap[j]? = w.heap[j]? := fun j hj hne => by
      rw [h2.block j (by simp; omega) hne, Below.heap_alloc _ _ _ (by simp; omega)]
      exact Below.heap_alloc w _ _ hj
    have hR3 : w3.heap[R]? = some (ddObj a n c gb data vt) := by
      rw [old R hRl (fun q => row_ne HR.out HO.out (by decide) q.symm)]; exact HR.out
    have hb3 : Below W.heap.size W w3 := by
      have hb0 : Below W.heap.size W ((w.alloc (.cells #[.int .i64 k, .string u, .int .i64 al, .int .i64 ki] 60)).drew.alloc (.cells #[.int .i64 k, .string u, .int .i64 al, .int .i64 ki] 60)) := (HB.out.alloc HB.out.size _).drew.alloc (by have := HB.out.size; simp; omega) _
      exact hb0.grown h2 hb0.size (fun k hk => (HO.out.lt k hk).1)
    have ho3 : w3.ownsRow W.heap.size 60 4 (.slice (some ⟨g, 0, none⟩) (tree.length + 1) cap) (tree ++ [(⟨k, u, al, ki⟩ : Vl)]).length (vcells (tree ++ [(⟨k, u, al, ki⟩ : Vl)])) := by rw [vcells_append, List.length_append]; exact h1
    obtain ⟨b1, r1, o1⟩ := dd_set 3 (.slice (some ⟨g, 0, none⟩) (tree.length + 1) cap) hb3 hlo hR3 ho3
    refine ⟨by unfold ddObj at hR3; simp [World.cell?, hR3], by unfold ddObj at hR3; simp [World.frozen?, hR3], ⟨b1, hlo, _, r1, o1⟩, fun j A T hj hT hg => ?_⟩
    rw [heap_setCell_other _ _ _ _ hj, old j (row_lt hg) (fun q => row_ne hg HO.out hT q.symm)]
    exact hg
  clear hb ho hr
  go_enter Tryz.func162, Tryz.ntmps162
  go_wp2_with fail
  go_region_law (refine step_append_lies _ rfl (.tmp 8) (.tmp 10) 39 rfl W.heap.size 60 i0 Tryz.zeroVal 4 40 Tryz.underlying39 hi0 hz0 hz1 hz2 rfl (by decide) vt tree.length (vcells tree) (by simp [Act.eval, Act.put]) ((HO.out.alloc _).drew.alloc _) ⟨w.heap.size + 1, 0, none⟩ 1 1 [.int .i64 k, .string u, .int .i64 al, .int .i64 ki] (by simp [Act.eval, Act.put]) rfl (by have q := World.news_of_block (heap_alloc_new (w.alloc (.cells #[.int .i64 k, .string u, .int .i64 al, .int .i64 ki] 60)) (.cells #[.int .i64 k, .string u, .int .i64 al, .int .i64 ki] 60)); simpa using q) (by intro u hu; simp at hu; rcases hu with rfl | rfl | rfl | rfl <;> rfl) (by decide) (by unfold maxLen; omega) (by omega) (by simpa using hsz) (w.heap.size + 1 + 1) (by simp) ?_; intro g6 cap6 w6 h61 h62 h63 h64; obtain ⟨e3, q3, hI6, hF6⟩ := HAP.out g6 cap6 w6 h61 h62; have HI6 := hide hI6; have HF6 := hide hF6; clear h61 h62 h63 h64 hI6 hF6)
  all_goals
    go_simp
    go_wp2
    go_returns
    exact ⟨rfl, HI6.out, HF6.out⟩
end Go.Proofs.YtkkicodfpekbgaaGreatDoor

/-! The program's reader: notDeep, expect. -/
namespace Go.Proofs.YtkkicodfpekbgaaGreatDoor
set_option linter.unusedSimpArgs false
set_option linter.unusedVariables false
open Go.RowKit

set_option maxHeartbeats 1000000 in
set_option maxRecDepth 100000 in
theorem notDeep_any (c n : Int) (b : Bool) (pl inn en dp : Int) (w : World) (sn : Sn → Addr) (hs : Sent w sn) :
    Calls Tryz.prog 163 #[.agg #[.int .i64 c, .int .i64 n, .bool b, .int .i64 pl, .int .i64 inn, .int .i64 en], .int .i64 dp] w fun e w' => e = .returned (if 12 < dp then fault pl (sn .Deep) else .nilIface) ∧ Below w.heap.size w w' := by
  have cD := hs.cDeep
  have hgl := lt_of_cell cD
  simp only at hgl
  by_cases h : 12 < dp
  · rw [if_pos h]
    have HAT : Hid (∀ wq, Calls Tryz.prog 60 #[.int .i64 pl, .iface 291 (.pointer (some (sn .Deep)))] wq fun e w' => e = .returned (fault pl (sn .Deep)) ∧ w' = wq) := fun wq => at_any pl _ wq
    unfold fault at HAT ⊢
    go_enter Tryz.func163, Tryz.ntmps163
    go_wp2_with fail
    refine (HAT.out _).mono ?_
    rintro e w1 ⟨rfl, rfl⟩
    go_wp2
    go_ret
    exact ⟨rfl, (Below.refl _ _).alloc (Nat.le_refl _) _⟩
  · rw [if_neg h]
    have h' : dp ≤ 12 := by omega
    clear h
    go_enter Tryz.func163, Tryz.ntmps163
    go_wp2
    go_ret
    exact ⟨rfl, (Below.refl _ _).alloc (Nat.le_refl _) _⟩

/-- What expect answers. -/
def expV (c n : Int) (b : Bool) (wc wn : Int) (wb : Bool) (pl dp : Int) (sn : Sn → Addr) : Value := if ¬ (c = wc ∧ n = wn ∧ b = wb) then fault pl (sn .Tag) else if 12 < dp then fault pl (sn .Deep) else .nilIface

set_option maxHeartbeats 2000000 in
set_option maxRecDepth 100000 in
theorem expect_any (c n : Int) (b : Bool) (pl inn en : Int) (wc wn : Int) (wb : Bool) (dp : Int) (w : World) (sn : Sn → Addr) (hs : Sent w sn) :
    Calls Tryz.prog 116 #[.agg #[.int .i64 c, .int .i64 n, .bool b, .int .i64 pl, .int .i64 inn, .int .i64 en], .agg #[.int .i64 wc, .int .i64 wn, .bool wb], .int .i64 dp] w fun e w' => e = .returned (expV c n b wc wn wb pl dp sn) ∧ Below w.heap.size w w' := by
  have cT := hs.cTag
  have hgl := lt_of_cell cT
  simp only at hgl
  have HS : Hid (Sent w sn) := hs
  have HB0 : Hid (∀ A B, Below w.heap.size w ((w.alloc A).alloc B)) := fun A B => ((Below.refl w.heap.size w).alloc (Nat.le_refl _) A).alloc (by simp) B
  by_cases q : c = wc ∧ n = wn ∧ b = wb
  · have HE : Hid (expV c n b wc wn wb pl dp sn = if 12 < dp then fault pl (sn .Deep) else .nilIface) := by show expV _ _ _ _ _ _ _ _ _ = _; unfold expV; rw [if_neg (fun h => h q)]
    obtain ⟨rfl, rfl, rfl⟩ := q
    have HND : Hid (∀ wq, Sent wq sn → Calls Tryz.prog 163 #[.agg #[.int .i64 c, .int .i64 n, .bool b, .int .i64 pl, .int .i64 inn, .int .i64 en], .int .i64 dp] wq fun e w' => e = .returned (expV c n b c n b pl dp sn) ∧ Below wq.heap.size wq w') := fun wq h => by rw [HE.out]; exact notDeep_any c n b pl inn en dp wq sn h
    generalize expV c n b c n b pl dp sn = r at HND HE ⊢
    clear hs
    go_enter Tryz.func116, Tryz.ntmps116
    go_wp2_with fail
    refine (HND.out _ (HS.out.below (HB0.out _ _))).mono ?_
    rintro e w1 ⟨rfl, hb1⟩
    have HB1 : Hid (Below w.heap.size w w1) := (HB0.out _ _).trans (hb1.mono (HB0.out _ _).size)
    clear hb1
    go_wp2
    go_ret
    exact ⟨rfl, HB1.out⟩
  · have HE : Hid (expV c n b wc wn wb pl dp sn = fault pl (sn .Tag)) := by show expV _ _ _ _ _ _ _ _ _ = _; unfold expV; rw [if_pos q]
    have HAT : Hid (∀ wq, Calls Tryz.prog 60 #[.int .i64 pl, .iface 291 (.pointer (some (sn .Tag)))] wq fun e w' => e = .returned (fault pl (sn .Tag)) ∧ w' = wq) := fun wq => at_any pl _ wq
    have q' : (c == wc) = false ∨ ((c == wc) = true ∧ (n == wn) = false) ∨ ((c == wc) = true ∧ (n == wn) = true ∧ (b == wb) = false) := by
      by_cases q1 : c = wc
      · by_cases q2 : n = wn
        · right; right
          refine ⟨by simp [q1], by simp [q2], ?_⟩
          rw [beq_eq_false_iff_ne]
          exact fun q3 => q ⟨q1, q2, q3⟩
        · right; left; exact ⟨by simp [q1], by simp [q2]⟩
      · left; simp [q1]
    rw [HE.out]
    unfold fault at HAT ⊢
    clear hs q
    rcases q' with e1 | ⟨e1, e2⟩ | ⟨e1, e2, e3⟩
    all_goals
      go_enter Tryz.func116, Tryz.ntmps116
      go_wp2_with fail
      refine (HAT.out _).mono ?_
      rintro e w1 ⟨rfl, rfl⟩
      go_wp2
      go_ret
      exact ⟨rfl, HB0.out _ _⟩
end Go.Proofs.YtkkicodfpekbgaaGreatDoor

/-! The program's reader: which node may begin so; open. -/
namespace Go.Proofs.YtkkicodfpekbgaaGreatDoor
set_option linter.unusedSimpArgs false
set_option linter.unusedVariables false
open Go.RowKit

theorem beg_iff {s : List Nd} {i : Nat} {all : Bool} {ts : List (Int × Int)} (h : BegIs s i all ts) (c m : Int) : Beg s i c m ↔ (all = true ∨ (c, m) ∈ ts) := by
  obtain ⟨_, h1, h2⟩ := h
  rw [h1, h2]
  unfold Beg
  constructor
  · rintro ⟨j, hj, hb⟩
    rcases (begAt_iff _ _ _).1 hb with q | ⟨q1, q2⟩
    · exact .inl ⟨j, hj, q⟩
    · exact .inr ⟨j, hj, q1, q2⟩
  · rintro (⟨j, hj, q⟩ | ⟨j, hj, q1, q2⟩)
    · exact ⟨j, hj, (begAt_iff _ _ _).2 (.inl q)⟩
    · exact ⟨j, hj, (begAt_iff _ _ _).2 (.inr ⟨q1, q2⟩)⟩

set_option maxHeartbeats 2000000 in
set_option maxRecDepth 100000 in
theorem has_any (s : List Nd) (gb i : Nat) (c m : Int) (w : World) (hA : AbR w gb s) (hi : i < s.length) (hn : s.length ≤ 40) :
    Calls Tryz.prog 187 #[.slice (some ⟨gb, 0, none⟩) s.length s.length, .int .i64 i, .agg #[.int .i64 c, .int .i64 m]] w fun e w' => RetO (Beg s i c m) w e w' := by
  obtain ⟨all, ta, tc, ts, p1, p2, p3, p4⟩ := hA i hi
  have hi' : (i : Int) < s.length := by omega
  have hb := beg_iff p4 c m
  have hgl := lt_of_cell p1
  simp only at hgl
  cases all
  · have HB : Hid (Beg s i c m ↔ (c, m) ∈ ts) := by show _ ↔ _; rw [hb]; simp
    obtain ⟨r, hr⟩ := bool_of ((c, m) ∈ ts)
    have HR : Hid (r = true ↔ (c, m) ∈ ts) := hr
    have HB1 : Hid (Below w.heap.size w (w.alloc (.cells #[.int .i64 c, .int .i64 m] 147))) := (Below.refl _ _).alloc (Nat.le_refl _) _
    have HCN : Hid (∀ x : Ext (w.alloc (.cells #[.int .i64 c, .int .i64 m] 147)), Calls Tryz.prog 180 #[.slice ta ts.length tc, .agg #[.int .i64 c, .int .i64 m]] x.v fun e w'' => e = .returned (.bool r) ∧ ∃ y : Ext (w.alloc (.cells #[.int .i64 c, .int .i64 m] 147)), w'' = y.v) := fun x =>
      Ext.callsR hr (contains_any ts ta tc (c, m) x.v (p3.below (Ext.bel HB1.out x)) p4.1)
    have X0 : ∀ x : Ext (w.alloc (.cells #[.int .i64 c, .int .i64 m] 147)), x.v.cell? ⟨gb, i * 2, none⟩ = some (.bool false) := fun x => x.old p1
    have X1 : ∀ x : Ext (w.alloc (.cells #[.int .i64 c, .int .i64 m] 147)), x.v.cell? ⟨gb, i * 2 + 1, none⟩ = some (.slice ta ts.length tc) := fun x => x.old p2
    have X2 : ∀ x : Ext (w.alloc (.cells #[.int .i64 c, .int .i64 m] 147)), x.v.cell? ⟨w.heap.size, 0, none⟩ = some (.int .i64 c) := fun x => x.new rfl
    have X3 : ∀ x : Ext (w.alloc (.cells #[.int .i64 c, .int .i64 m] 147)), x.v.cell? ⟨w.heap.size, 1, none⟩ = some (.int .i64 m) := fun x => x.new rfl
    clear hA hb hr p3 p4
    go_enter Tryz.func187, Tryz.ntmps187
    go_wp2_with fail
    (have ne := ext_ne; refine wp_region_ext (by kernel_rfl) (by kernel_rfl) ?_; (repeat (first | go_big_quiet_skip | (go_big_quiet_want; go_big_quiet_op; first | go_big_quiet_on | (apply Exists.intro; refine ⟨fun x => ?_, ?_⟩; (· (exact HCN.out x)); go_big_quiet_on)))); refine nil_ext ?_)
    intro w5 hb5
    have HB5 : Hid (Below w.heap.size w w5) := HB1.out.trans (hb5.mono HB1.out.size)
    clear X0 X1 X2 X3 hb5
    go_wp2
    go_ret
    exact reto_iff (HR.out.trans HB.out.symm) HB5.out
  · have HB : Hid (Beg s i c m) := hb.2 (.inl rfl)
    clear hA hb p3 p4
    go_enter Tryz.func187, Tryz.ntmps187
    go_wp2_with fail
    go_quiet (fail)
    go_wp2
    go_ret
    exact reto_yes HB.out (below_drewN ((Below.refl _ _).alloc (Nat.le_refl _) _) _)
end Go.Proofs.YtkkicodfpekbgaaGreatDoor

/-! The program's reader: open. -/
namespace Go.Proofs.YtkkicodfpekbgaaGreatDoor
set_option linter.unusedSimpArgs false
set_option linter.unusedVariables false
open Go.RowKit

theorem ex_ex (d : ByteArray) (x y : Nat) (hxy : x ≤ y) (hy : y ≤ d.size) : (d.extract 0 y).extract x (d.extract 0 y).size = d.extract x y := by
  have hs : (d.extract 0 y).size = y := by rw [ex_size]; omega
  rw [hs]
  apply ByteArray.ext
  rw [ByteArray.data_extract, ByteArray.data_extract, ByteArray.data_extract]
  apply Array.ext'
  rw [Array.toList_extract, Array.toList_extract, Array.toList_extract, List.extract_eq_take_drop, List.extract_eq_take_drop, List.extract_eq_take_drop]
  rw [List.drop_zero, Nat.sub_zero, List.drop_take, List.take_take]
  congr 1
  omega
/-- A span's value. -/
def spanV (h : Hd) (x : Nat) : Value := .agg #[.int .i64 h.c, .int .i64 h.n, .bool h.b, .int .i64 x, .int .i64 ((x : Int) + h.s), .int .i64 ((x : Int) + h.s + h.l)]
def span0 : Value := .agg #[.int .i64 0, .int .i64 0, .bool false, .int .i64 0, .int .i64 0, .int .i64 0]

theorem frozen_row {w : World} {k : Nat} {A : Array Value} {T : TypeId} (h : w.heap[k]? = some (.cells A T (0, 0))) {i : Nat} : w.frozen? ⟨k, i, none⟩ = false := by simp [World.frozen?, h]
set_option maxHeartbeats 1000000 in
set_option maxRecDepth 100000 in
theorem open_any1 (W w : World) (R : Nat) (a : Option Addr) (n c gb0 : Nat) (data : ByteArray) (tree : List Vl) (x y : Nat) (sn : Sn → Addr) (h : RdD W w R a n c gb0 data tree) (hs : Sent w sn) (hxy : x ≤ y) (hy : y ≤ data.size) (hm : data.size ≤ 140737488355328) :
    Calls Tryz.prog 114 #[.pointer (some ⟨R, 0, none⟩), .int .i64 x, .int .i64 y] w fun e w' => Below w.heap.size w w' ∧
      (((hd (data.extract x y)).1 = 0 ∧ e = .returned (.tuple #[spanV (hd (data.extract x y)).2 x, .nilIface])) ∨ ((hd (data.extract x y)).1 ≠ 0 ∧ e = .returned (.tuple #[span0, errAt x sn (hd (data.extract x y)).1]))) := by
  have r2 := h.r2
  have hRl : R < w.heap.size := lt_of_cell r2
  have hsz0 : (data.extract 0 y).size = y := by rw [ex_size]; omega
  obtain ⟨G, hG⟩ : ∃ G, hd (data.extract x y) = G := ⟨_, rfl⟩
  obtain ⟨ge, gc, gb, gn, gs, gl⟩ := G
  have HRD : Hid (∀ wq, Sent wq sn → Calls Tryz.prog 156 #[.string (data.extract 0 y), .int .i64 x] wq fun e w' => e = .returned (.tuple #[.agg #[.int .i64 gc, .bool gb, .int .i64 gn, .int .i64 gs, .int .i64 gl], errAt x sn ge]) ∧ Below wq.heap.size wq w') := fun wq q => by
    have := read_any (data.extract 0 y) x wq sn q (by omega) (by omega)
    rw [ex_ex data x y hxy hy, hG] at this
    exact this
  have HFO : Hid (∀ wq, Calls Tryz.prog 157 #[.agg #[.int .i64 gc, .bool gb, .int .i64 gn, .int .i64 gs, .int .i64 gl]] wq fun e w' => e = .returned (.agg #[.int .i64 gc, .int .i64 gn, .bool gb]) ∧ Below wq.heap.size wq w') := fun wq => firstOf_any gc gb gn gs gl wq
  have HS : Hid (Sent w sn) := hs
  have HOKH : Hid (ge = 0 → 1 ≤ gs ∧ 0 ≤ gl ∧ gs + gl ≤ (data.extract x y).size) := fun q => by
    have := hd_ok (r := data.extract x y) (by rw [hG]; exact q)
    rw [hG] at this
    exact this
  have hsz1 : (data.extract x y).size = y - x := by rw [ex_size]; omega
  rw [hG]
  simp only
  have hxy' : (x : Int) ≤ y := by omega
  have hy' : (y : Int) ≤ data.size := by omega
  clear hG h hs
  go_enter Tryz.func114, Tryz.ntmps114
  go_wp2_with fail
  refine (HRD.out _ (HS.out.below ((Below.refl _ _).alloc (Nat.le_refl _) _))).mono ?_
  rintro e w1 ⟨rfl, hb1⟩
  have HB1 : Hid (Below w.heap.size w w1) := below_alloc hb1
  have HG1 : Hid (w1.heap[w.heap.size]? = some (.cells #[.int .i64 0, .int .i64 0, .bool false, .int .i64 0, .int .i64 0, .int .i64 0] 151 (0, 0))) := block_below (heap_alloc_new w _) hb1
  have hs1 : w.heap.size < w1.heap.size := row_lt HG1.out
  have z0 : w1.cell? ⟨w.heap.size, 0, none⟩ = some (.int .i64 0) := cell_of_row HG1.out rfl
  have z1 : w1.cell? ⟨w.heap.size, 1, none⟩ = some (.int .i64 0) := cell_of_row HG1.out rfl
  have z2 : w1.cell? ⟨w.heap.size, 2, none⟩ = some (.bool false) := cell_of_row HG1.out rfl
  have z3 : w1.cell? ⟨w.heap.size, 3, none⟩ = some (.int .i64 0) := cell_of_row HG1.out rfl
  have z4 : w1.cell? ⟨w.heap.size, 4, none⟩ = some (.int .i64 0) := cell_of_row HG1.out rfl
  have z5 : w1.cell? ⟨w.heap.size, 5, none⟩ = some (.int .i64 0) := cell_of_row HG1.out rfl
  have f0 : w1.frozen? ⟨w.heap.size, 0, none⟩ = false := by simp [World.frozen?, HG1.out]
  have f1 : w1.frozen? ⟨w.heap.size, 1, none⟩ = false := by simp [World.frozen?, HG1.out]
  have f2 : w1.frozen? ⟨w.heap.size, 2, none⟩ = false := by simp [World.frozen?, HG1.out]
  have f3 : w1.frozen? ⟨w.heap.size, 3, none⟩ = false := by simp [World.frozen?, HG1.out]
  have f4 : w1.frozen? ⟨w.heap.size, 4, none⟩ = false := by simp [World.frozen?, HG1.out]
  have f5 : w1.frozen? ⟨w.heap.size, 5, none⟩ = false := by simp [World.frozen?, HG1.out]
  clear hb1 r2
  by_cases hge : ge = 0
  · subst hge
    have e0 : errAt x sn 0 = .nilIface := by unfold errAt; simp
    obtain ⟨gs0, gl0, gsl⟩ := HOKH.out rfl
    have gsl' : (x : Int) + gs + gl ≤ 140737488355328 := by omega
    rw [e0]
    clear e0 HRD HS HOKH hsz0 hsz1 hxy hy hxy' hy' hm hRl
    go_upto_region 4 with fail
    have HX : Hid (Below w.heap.size w (w1.alloc (.cells #[.int .i64 gc, .bool gb, .int .i64 gn, .int .i64 gs, .int .i64 gl] 179))) := HB1.out.alloc HB1.out.size _
    have hZ : (w1.alloc (.cells #[.int .i64 gc, .bool gb, .int .i64 gn, .int .i64 gs, .int .i64 gl] 179)).heap[w.heap.size]? = some (.cells #[.int .i64 0, .int .i64 0, .bool false, .int .i64 0, .int .i64 0, .int .i64 0] 151 (0, 0)) := (Below.heap_alloc w1 _ _ hs1).trans HG1.out
    have hH : (w1.alloc (.cells #[.int .i64 gc, .bool gb, .int .i64 gn, .int .i64 gs, .int .i64 gl] 179)).heap[w1.heap.size]? = some (.cells #[.int .i64 gc, .bool gb, .int .i64 gn, .int .i64 gs, .int .i64 gl] 179 (0, 0)) := heap_alloc_new w1 _
    clear z0 z1 z2 z3 z4 z5 f0 f1 f2 f3 f4 f5
    generalize w1.alloc (.cells #[.int .i64 gc, .bool gb, .int .i64 gn, .int .i64 gs, .int .i64 gl] 179) = wX at HX hZ hH ⊢
    obtain ⟨hb, hhb⟩ : ∃ hb, w1.heap.size = hb := ⟨_, rfl⟩
    rw [hhb] at hH hs1 ⊢
    have hne : w.heap.size ≠ hb := by omega
    clear hhb HG1 HB1
    have HZ := hide hZ
    have HH := hide hH
    have h3 : wX.cell? ⟨hb, 3, none⟩ = some (.int .i64 gs) := cell_of_row hH rfl
    have hbl : hb < wX.heap.size := row_lt hH
    clear hZ hH
    go_upto_region 5 with fail
    have HSS : Hid (∀ w' : World, w'.heap[hb]? = some (.cells #[.int .i64 gc, .bool gb, .int .i64 gn, .int .i64 gs, .int .i64 gl] 179 (0, 0)) → w'.cell? ⟨hb, 0, none⟩ = some (.int .i64 gc) ∧ w'.cell? ⟨hb, 1, none⟩ = some (.bool gb) ∧ w'.cell? ⟨hb, 2, none⟩ = some (.int .i64 gn) ∧ w'.cell? ⟨hb, 3, none⟩ = some (.int .i64 gs) ∧ w'.cell? ⟨hb, 4, none⟩ = some (.int .i64 gl)) := fun w' q => ⟨cell_of_row q rfl, cell_of_row q rfl, cell_of_row q rfl, cell_of_row q rfl, cell_of_row q rfl⟩
    obtain ⟨p0, p1, p2, p3, p4⟩ := HSS.out _ HH.out
    clear h3
    go_region_held_law (fun w' => w'.cell? ⟨hb, 0, none⟩ = some (.int .i64 gc) ∧ w'.cell? ⟨hb, 1, none⟩ = some (.bool gb) ∧ w'.cell? ⟨hb, 2, none⟩ = some (.int .i64 gn) ∧ w'.cell? ⟨hb, 3, none⟩ = some (.int .i64 gs) ∧ w'.cell? ⟨hb, 4, none⟩ = some (.int .i64 gl)) (go_keep) ((go_at_call 157; refine (HFO.out _).mono ?_; rintro e w2 ⟨rfl, hb2⟩; have hH2 := block_below (w := wX.drew) HH.out hb2; have hZ2 := block_below (w := wX.drew) HZ.out hb2; have HB2 := hide (HX.out.drew.trans (hb2.mono HX.out.drew.size)); obtain ⟨q0, q1, q2, q3, q4⟩ := HSS.out _ hH2; have hlh := row_lt hH2; have hlz := row_lt hZ2; clear hH2; have z0 := cell_of_row (i := 0) hZ2 rfl; have z1 := cell_of_row (i := 1) hZ2 rfl; have z2 := cell_of_row (i := 2) hZ2 rfl; have z3 := cell_of_row (i := 3) hZ2 rfl; have z4 := cell_of_row (i := 4) hZ2 rfl; have z5 := cell_of_row (i := 5) hZ2 rfl; have f0 := frozen_row (i := 0) hZ2; have f1 := frozen_row (i := 1) hZ2; have f2 := frozen_row (i := 2) hZ2; have f3 := frozen_row (i := 3) hZ2; have f4 := frozen_row (i := 4) hZ2; have f5 := frozen_row (i := 5) hZ2; clear hb2 hZ2))
    have hwr : IntKind.i64.wrap ((x : Int) + gs + gl) = (x : Int) + gs + gl := by simp [IntKind.wrap, IntKind.bits, IntKind.signed]; omega
    rw [hwr]
    clear hwr p0 p1 p2 p3 p4 q0 q1 q2 q3 q4
    go_wp2_with fail
    refine bodyPost_ret (v := .tuple #[spanV ⟨gc, gb, gn, gs, gl⟩ x, .nilIface]) (by simp [results, Tryz.results114, go_sem, spanV, z0, z1, z2, z3, z4, z5]) rfl ?_
    refine ⟨?_, by first | exact .inl ⟨rfl, rfl⟩ | rfl⟩
    exact (((((HB2.out.setCell (p := ⟨w.heap.size, 0, none⟩) (Nat.le_refl _) _).setCell (p := ⟨w.heap.size, 1, none⟩) (Nat.le_refl _) _).setCell (p := ⟨w.heap.size, 2, none⟩) (Nat.le_refl _) _).setCell (p := ⟨w.heap.size, 3, none⟩) (Nat.le_refl _) _).setCell (p := ⟨w.heap.size, 4, none⟩) (Nat.le_refl _) _).setCell (p := ⟨w.heap.size, 5, none⟩) (Nat.le_refl _) _
  · have HGE : Hid (ge ≠ 0) := hge
    obtain ⟨za, hv⟩ : ∃ za, errAt x sn ge = fault x za := by
      unfold errAt
      rw [if_neg hge]
      repeat' split
      all_goals exact ⟨_, rfl⟩
    have HV : Hid (errAt x sn ge = fault x za) := hv
    rw [hv]
    unfold fault
    clear hge hv HFO HRD HS HOKH hsz0 hsz1 hxy hy hxy' hy' hm hRl
    go_upto_region 3 with fail
    have HX : Hid (Below w.heap.size w (w1.alloc (.cells #[.int .i64 gc, .bool gb, .int .i64 gn, .int .i64 gs, .int .i64 gl] 179))) := HB1.out.alloc HB1.out.size _
    have hZ : (w1.alloc (.cells #[.int .i64 gc, .bool gb, .int .i64 gn, .int .i64 gs, .int .i64 gl] 179)).heap[w.heap.size]? = some (.cells #[.int .i64 0, .int .i64 0, .bool false, .int .i64 0, .int .i64 0, .int .i64 0] 151 (0, 0)) := (Below.heap_alloc w1 _ _ hs1).trans HG1.out
    clear z0 z1 z2 z3 z4 z5 f0 f1 f2 f3 f4 f5
    generalize w1.alloc (.cells #[.int .i64 gc, .bool gb, .int .i64 gn, .int .i64 gs, .int .i64 gl] 179) = wX at HX hZ ⊢
    have z0 : wX.cell? ⟨w.heap.size, 0, none⟩ = some (.int .i64 0) := cell_of_row hZ rfl
    have z1 : wX.cell? ⟨w.heap.size, 1, none⟩ = some (.int .i64 0) := cell_of_row hZ rfl
    have z2 : wX.cell? ⟨w.heap.size, 2, none⟩ = some (.bool false) := cell_of_row hZ rfl
    have z3 : wX.cell? ⟨w.heap.size, 3, none⟩ = some (.int .i64 0) := cell_of_row hZ rfl
    have z4 : wX.cell? ⟨w.heap.size, 4, none⟩ = some (.int .i64 0) := cell_of_row hZ rfl
    have z5 : wX.cell? ⟨w.heap.size, 5, none⟩ = some (.int .i64 0) := cell_of_row hZ rfl
    have f0 : wX.frozen? ⟨w.heap.size, 0, none⟩ = false := by simp [World.frozen?, hZ]
    have f1 : wX.frozen? ⟨w.heap.size, 1, none⟩ = false := by simp [World.frozen?, hZ]
    have f2 : wX.frozen? ⟨w.heap.size, 2, none⟩ = false := by simp [World.frozen?, hZ]
    have f3 : wX.frozen? ⟨w.heap.size, 3, none⟩ = false := by simp [World.frozen?, hZ]
    have f4 : wX.frozen? ⟨w.heap.size, 4, none⟩ = false := by simp [World.frozen?, hZ]
    have f5 : wX.frozen? ⟨w.heap.size, 5, none⟩ = false := by simp [World.frozen?, hZ]
    clear hZ hs1
    go_wp2_with fail
    refine bodyPost_ret (v := .tuple #[span0, fault x za]) (by simp [results, Tryz.results114, go_sem, span0, fault, z0, z1, z2, z3, z4, z5]) rfl ?_
    refine ⟨?_, .inr ⟨HGE.out, by rw [HV.out]⟩⟩
    exact (((((HX.out.setCell (p := ⟨w.heap.size, 0, none⟩) (Nat.le_refl _) _).setCell (p := ⟨w.heap.size, 1, none⟩) (Nat.le_refl _) _).setCell (p := ⟨w.heap.size, 2, none⟩) (Nat.le_refl _) _).setCell (p := ⟨w.heap.size, 3, none⟩) (Nat.le_refl _) _).setCell (p := ⟨w.heap.size, 4, none⟩) (Nat.le_refl _) _).setCell (p := ⟨w.heap.size, 5, none⟩) (Nat.le_refl _) _
end Go.Proofs.YtkkicodfpekbgaaGreatDoor

/-! The program's reader: what stays, what a method leaves; any. -/
namespace Go.Proofs.YtkkicodfpekbgaaGreatDoor
set_option linter.unusedSimpArgs false
set_option linter.unusedVariables false
open Go.RowKit

/-- What the program reads by: the schema is right and lies in memory, so do the beginnings and the package's variables. -/
structure PC (E : Env) (W : World) (a : Option Addr) (gb : Nat) (sn : Sn → Addr) : Prop where
  sch : Sch W a E.s
  right : RightP E.s
  sok : SchOk E.s
  bg : ∀ i, i < E.s.length → ∀ c m, E.bg i c m = true ↔ Beg E.s i c m
  ok : ∀ k t, E.ok k t = true ↔ ContentOk k t
  size : E.d.size ≤ 4000
  ab : AbR W gb E.s
  lay : Lay W sn
/-- The error of a number. -/
def snOf (k : Int) : Sn := if k = 3 then .End else if k = 4 then .Tag else if k = 5 then .Length else if k = 6 then .Value else if k = 7 then .More else if k = 8 then .Order else if k = 9 then .Default else .Deep
theorem hd_c345 (t : ByteArray) : (hd t).1 = 0 ∨ (hd t).1 = 3 ∨ (hd t).1 = 4 ∨ (hd t).1 = 5 := by
  unfold hd
  repeat' split
  all_goals simp
  unfold rl
  repeat' split
  all_goals simp
theorem errAt_of {t : ByteArray} (x : Int) (sn : Sn → Addr) (h : (hd t).1 ≠ 0) : errAt x sn (hd t).1 = fault x (sn (snOf (hd t).1)) := by
  rcases hd_c345 t with e | e | e | e
  · exact absurd e h
  · rw [e]; rfl
  · rw [e]; rfl
  · rw [e]; rfl
/-- What a method of the reader leaves, by what reading comes to. -/
def AfterD (E : Env) (W : World) (R : Nat) (a : Option Addr) (c gb : Nat) (sn : Sn → Addr) (o : Out) (tree : List Vl) (w : World) (e : Ending) (w' : World) : Prop :=
  Fr R w w' ∧ ((∃ vs z, o = .ok (vs, z) ∧ e = .returned .nilIface ∧ RdD W w' R a E.s.length c gb E.d (tree ++ vs)) ∨
    ∃ k q tree', o = .error (k, q) ∧ e = .returned (fault q (sn (snOf k))) ∧ RdD W w' R a E.s.length c gb E.d tree')
theorem AfterD.of {E : Env} {W : World} {R : Nat} {a : Option Addr} {c gb : Nat} {sn : Sn → Addr} {o : Out} {tree : List Vl} {w w1 w' : World} {e : Ending} (h : AfterD E W R a c gb sn o tree w1 e w') (hf : Fr R w w1) : AfterD E W R a c gb sn o tree w e w' := ⟨hf.trans h.1, h.2⟩
/-- What value answers, with so much fuel. -/
def NodeP (E : Env) (W : World) (R : Nat) (a : Option Addr) (c gb : Nat) (sn : Sn → Addr) (f : Nat) : Prop :=
  ∀ (i x y : Nat) (g : Hd) (dp : Int) (o : Out) (tree : List Vl) (w : World), E.hd x y = (0, g) → rdF E f i x y dp = some o → i < E.s.length → x ≤ y → y ≤ E.d.size → 1 ≤ dp → dp ≤ 13 → Room tree f x y → RdD W w R a E.s.length c gb E.d tree →
    Calls Tryz.prog 78 #[.pointer (some ⟨R, 0, none⟩), .int .i64 i, .int .i64 dp, spanV g x] w fun e w' => AfterD E W R a c gb sn o tree w e w'
/-- A span's cells. -/
abbrev spCells (g : Hd) (x : Nat) : Array Value := #[.int .i64 g.c, .int .i64 g.n, .bool g.b, .int .i64 x, .int .i64 ((x : Int) + g.s), .int .i64 ((x : Int) + g.s + g.l)]

set_option maxHeartbeats 2000000 in
set_option maxRecDepth 100000 in
theorem any_any (E : Env) (W : World) (R : Nat) (a : Option Addr) (c gb : Nat) (sn : Sn → Addr) (hc : PC E W a gb sn) (g : Hd) (x tz : Nat) (dp : Int) (tree : List Vl) (w : World) (htz : (tz : Int) = (x : Int) + g.s + g.l) (hxz : x ≤ tz) (hz : tz ≤ E.d.size) (hroom : tree.length ≤ 1099511627776) (hI : RdD W w R a E.s.length c gb E.d tree) :
    Calls Tryz.prog 159 #[.pointer (some ⟨R, 0, none⟩), .int .i64 dp, spanV g x] w fun e w' => AfterD E W R a c gb sn (if 12 < dp then .error (10, x) else .ok ([⟨14, E.d.extract x tz, 0, 0⟩], tz)) tree w e w' := by
  have HI : Hid (RdD W w R a E.s.length c gb E.d tree) := hI
  have HND : Hid (∀ wq, Below w.heap.size w wq → Calls Tryz.prog 163 #[.agg (spCells g x), .int .i64 dp] wq fun e w' => e = .returned (if 12 < dp then fault x (sn .Deep) else .nilIface) ∧ Below wq.heap.size wq w') := fun wq q => notDeep_any _ _ _ _ _ _ _ wq sn ((hc.lay.below hI.bel).below q).s
  have HAD : Hid (∀ wq, RdD W wq R a E.s.length c gb E.d tree → Calls Tryz.prog 162 #[.pointer (some ⟨R, 0, none⟩), .agg #[.int .i64 14, .string (E.d.extract x tz), .int .i64 0, .int .i64 0]] wq fun e' w' => e' = .returned (.tuple #[]) ∧ RdD W w' R a E.s.length c gb E.d (tree ++ [⟨14, E.d.extract x tz, 0, 0⟩]) ∧ Fr R wq w') := fun wq q => add_any W wq R a _ c gb E.d tree 14 _ 0 0 q hroom
  have hRl : R < w.heap.size := lt_of_cell hI.r0
  have hds := hc.size
  unfold spanV
  rw [← htz]
  unfold spCells at HND
  rw [← htz] at HND
  clear hI hc hroom htz
  by_cases hdp : 12 < dp
  · rw [if_pos hdp]
    have HND' : Hid (∀ wq, Below w.heap.size w wq → Calls Tryz.prog 163 #[.agg #[.int .i64 g.c, .int .i64 g.n, .bool g.b, .int .i64 x, .int .i64 ((x : Int) + g.s), .int .i64 tz], .int .i64 dp] wq fun e w' => e = .returned (fault x (sn .Deep)) ∧ Below wq.heap.size wq w') := fun wq q => by
      have := HND.out wq q
      rw [if_pos hdp] at this
      exact this
    unfold fault at HND'
    clear HND hdp
    go_enter Tryz.func159, Tryz.ntmps159
    go_wp2_with fail
    refine (HND'.out _ ((Below.refl _ _).alloc (Nat.le_refl _) _)).mono ?_
    rintro e w1 ⟨rfl, hb1⟩
    have HB1 : Hid (Below w.heap.size w w1) := below_alloc hb1
    clear hb1
    go_wp2
    go_ret
    exact ⟨Fr.of_below HB1.out, .inr ⟨10, x, tree, rfl, rfl, HI.out.below HB1.out⟩⟩
  · rw [if_neg hdp]
    have HND' : Hid (∀ wq, Below w.heap.size w wq → Calls Tryz.prog 163 #[.agg #[.int .i64 g.c, .int .i64 g.n, .bool g.b, .int .i64 x, .int .i64 ((x : Int) + g.s), .int .i64 tz], .int .i64 dp] wq fun e w' => e = .returned .nilIface ∧ Below wq.heap.size wq w') := fun wq q => by
      have := HND.out wq q
      rw [if_neg hdp] at this
      exact this
    clear HND hdp
    have hxz' : (x : Int) ≤ tz := by omega
    have hz' : (tz : Int) ≤ E.d.size := by omega
    go_enter Tryz.func159, Tryz.ntmps159
    go_wp2_with fail
    refine (HND'.out _ ((Below.refl _ _).alloc (Nat.le_refl _) _)).mono ?_
    rintro e w1 ⟨rfl, hb1⟩
    have HB1 : Hid (Below w.heap.size w w1) := below_alloc hb1
    have HG1 : Hid (w1.heap[w.heap.size]? = some (.cells #[.int .i64 g.c, .int .i64 g.n, .bool g.b, .int .i64 x, .int .i64 ((x : Int) + g.s), .int .i64 tz] 151 (0, 0))) := block_below (heap_alloc_new w _) hb1
    have HI1 : Hid (RdD W w1 R a E.s.length c gb E.d tree) := HI.out.below HB1.out
    clear hb1
    have q1 : w1.cell? ⟨R, 2, none⟩ = some (.string E.d) := HI1.out.r2
    have q2 : w1.cell? ⟨w.heap.size, 3, none⟩ = some (.int .i64 x) := cell_of_row HG1.out rfl
    have q3 : w1.cell? ⟨w.heap.size, 5, none⟩ = some (.int .i64 tz) := cell_of_row HG1.out rfl
    have hR1 : R < w1.heap.size := lt_of_cell q1
    have hB1 : w.heap.size < w1.heap.size := lt_of_cell q2
    have hne : w.heap.size ≠ R := by omega
    go_upto_region 4 with fail
    go_region_held_law (fun w' => w'.cell? ⟨R, 2, none⟩ = some (.string E.d) ∧ w'.cell? ⟨w.heap.size, 3, none⟩ = some (.int .i64 x) ∧ w'.cell? ⟨w.heap.size, 5, none⟩ = some (.int .i64 tz)) (go_keep) ((go_at_call 162; refine (HAD.out _ (HI1.out.below (Below.refl _ _).drew)).mono ?_; rintro e w3 ⟨rfl, hI3, hF3⟩; have p1 := hI3.r2; have hG3 := hF3 _ _ _ hne (by decide) HG1.out; have p2 : w3.cell? ⟨w.heap.size, 3, none⟩ = some (.int .i64 x) := cell_of_row hG3 rfl; have p3 : w3.cell? ⟨w.heap.size, 5, none⟩ = some (.int .i64 tz) := cell_of_row hG3 rfl; have HI3 := hide hI3; have HF3 : Hid (Fr R w w3) := (Fr.of_below (HB1.out.drew)).trans hF3; clear hI3 hF3 hG3))
    go_wp2
    go_ret
    exact ⟨HF3.out, .inl ⟨_, _, rfl, rfl, HI3.out⟩⟩
end Go.Proofs.YtkkicodfpekbgaaGreatDoor

/-! The program's reader: choice. -/
namespace Go.Proofs.YtkkicodfpekbgaaGreatDoor
set_option linter.unusedSimpArgs false
set_option linter.unusedVariables false
open Go.RowKit

/-- A node's cells. -/
abbrev ndCells (n : Nd) (ka : Option Addr) (kc : Nat) : Array Value := #[.int .i64 n.kind, .int .i64 n.tag, .int .i64 n.mode, .slice ka n.kids.length kc]

set_option maxHeartbeats 4000000 in
set_option maxRecDepth 100000 in
theorem choice_p (E : Env) (W : World) (R : Nat) (a : Option Addr) (c gb : Nat) (sn : Sn → Addr) (f : Nat) (hc : PC E W a gb sn) (hN : NodeP E W R a c gb sn f) (i : Nat) (hi : i < E.s.length) (ka : Option Addr) (kc : Nat) (hka : KidsIn W ka (nd E.s i).kids) (hkc : (nd E.s i).kids.length ≤ kc)
    (g : Hd) (x tz : Nat) (dp : Int) (o : Out) (tree : List Vl) (w : World) (hg : E.hd x tz = (0, g)) (hm : choiceF E (rdF E f) g x tz dp (nd E.s i).kids 0 = some o) (hxz : x ≤ tz) (hz : tz ≤ E.d.size) (hd1 : 1 ≤ dp) (hd2 : dp ≤ 13) (hroom : Room tree (f + 1) x tz) (hI : RdD W w R a E.s.length c gb E.d tree) :
    Calls Tryz.prog 158 #[.pointer (some ⟨R, 0, none⟩), .agg (ndCells (nd E.s i) ka kc), .int .i64 dp, spanV g x] w fun e w' => AfterD E W R a c gb sn o tree w e w' := by
  have HC : Hid (PC E W a gb sn) := hc
  have HN : Hid (NodeP E W R a c gb sn f) := hN
  have HG : Hid (E.hd x tz = (0, g)) := hg
  have HKI : Hid (KidsIn W ka (nd E.s i).kids) := hka
  have HM : Hid (choiceF E (rdF E f) g x tz dp ((nd E.s i).kids.drop 0) 0 = some o) := hm
  have HI : Hid (RdD W w R a E.s.length c gb E.d tree) := hI
  have hRl : R < w.heap.size := lt_of_cell hI.r0
  have HRO : Hid (Room tree (f + 1) x tz) := hroom
  have HKR : Hid (∀ j, j < (nd E.s i).kids.length → ∃ t : Nat, (kd (nd E.s i) j).node = t ∧ t < E.s.length) := fun j hj => by
    have := hc.right.fine.within i hi _ (kd_mem hj)
    exact ⟨(kd (nd E.s i) j).node.toNat, by omega, by omega⟩
  have hk8 := hc.right.fine.eight i hi
  have hs40 := hc.right.fine.len
  have HAT : Hid (∀ wq, Calls Tryz.prog 60 #[.int .i64 x, .iface 291 (.pointer (some (sn .Tag)))] wq fun e w' => e = .returned (fault x (sn .Tag)) ∧ w' = wq) := fun wq => at_any x _ wq
  unfold fault at HAT
  have HA : Hid (∀ A B, Below w.heap.size w ((w.alloc A).alloc B)) := fun A B => ((Below.refl w.heap.size w).alloc (Nat.le_refl _) A).alloc (by simp) B
  clear hc hN hka hm hI hroom hi hg
  unfold spanV ndCells
  go_enter Tryz.func158, Tryz.ntmps158
  go_wp2
  generalize hW0 : (w.alloc (.cells #[.int .i64 (nd E.s i).kind, .int .i64 (nd E.s i).tag, .int .i64 (nd E.s i).mode, .slice ka (nd E.s i).kids.length kc] 58)).alloc (.cells #[.int .i64 g.c, .int .i64 g.n, .bool g.b, .int .i64 x, .int .i64 ((x : Int) + g.s), .int .i64 ((x : Int) + g.s + g.l)] 151) = w0
  have HB0 : Hid (Below w.heap.size w w0) := by show Below w.heap.size w w0; rw [← hW0]; exact HA.out _ _
  have HG2 : Hid (w0.heap[w.heap.size + 1]? = some (.cells (spCells g x) 151 (0, 0))) := by
    show w0.heap[w.heap.size + 1]? = _
    rw [← hW0]
    have q := heap_alloc_new (w.alloc (.cells #[.int .i64 (nd E.s i).kind, .int .i64 (nd E.s i).tag, .int .i64 (nd E.s i).mode, .slice ka (nd E.s i).kids.length kc] 58)) (.cells (spCells g x) 151)
    simpa using q
  have HI0 : Hid (RdD W w0 R a E.s.length c gb E.d tree) := HI.out.below HB0.out
  clear hW0 HA
  go_loopw [14] (fun vj wq => ∃ j : Nat, j ≤ (nd E.s i).kids.length ∧ vj = .int .i64 j ∧ choiceF E (rdF E f) g x tz dp ((nd E.s i).kids.drop j) j = some o ∧ Below w0.heap.size w0 wq) (fun vj _ => (nd E.s i).kids.length - (intOf vj).toNat)
  case atStart => exact ⟨0, Nat.zero_le _, rfl, HM.out, Below.refl _ _⟩
  case round =>
    obtain ⟨j, hj, rfl, hmj, hbr⟩ := hrel
    have HMJ : Hid (choiceF E (rdF E f) g x tz dp ((nd E.s i).kids.drop j) j = some o) := hmj
    have HB : Hid (Below w0.heap.size w0 wr) := hbr
    have HIr : Hid (RdD W wr R a E.s.length c gb E.d tree) := HI0.out.below hbr
    have HFr : Hid (Fr R w wr) := (Fr.of_below HB0.out).below hbr
    have HR2 : Hid (wr.heap[w.heap.size + 1]? = some (.cells (spCells g x) 151 (0, 0))) := block_below HG2.out hbr
    have hB2 : w.heap.size + 1 < wr.heap.size := row_lt HR2.out
    clear hmj hbr
    by_cases hlt : j < (nd E.s i).kids.length
    · have hlt' : (j : Int) < (nd E.s i).kids.length := by omega
      obtain ⟨kb, ko, rfl, kcl⟩ := HKI.out j hlt
      obtain ⟨t, ht, htl⟩ := HKR.out j hlt
      obtain ⟨k1, k2, k3⟩ := kcl.below HIr.out.bel
      obtain ⟨ko2, hko2⟩ : ∃ b, ((nd E.s i).kids.getD j kd0).opt = b := ⟨_, rfl⟩
      obtain ⟨kd2, hkd2⟩ : ∃ b, ((nd E.s i).kids.getD j kd0).dflt = b := ⟨_, rfl⟩
      have ht2 : ((nd E.s i).kids.getD j kd0).node = t := ht
      rw [ht2] at k1
      rw [hko2] at k2
      rw [hkd2] at k3
      have htn : (kd (nd E.s i) j).node.toNat = t := by omega
      have HT : Hid ((kd (nd E.s i) j).node.toNat = t) := htn
      have hkbl : kb < wr.heap.size := lt_of_cell k1
      clear kcl ht htn ht2 hko2 hkd2
      go_upto_region 4 with fail
      generalize hW4 : wr.alloc (.cells #[.int .i64 t, .bool ko2, .string kd2] 55) = w4
      have HB4 : Hid (Below wr.heap.size wr w4) := by show Below wr.heap.size wr w4; rw [← hW4]; exact (Below.refl _ _).alloc (Nat.le_refl _) _
      have HK4 : Hid (w4.heap[wr.heap.size]? = some (.cells #[.int .i64 t, .bool ko2, .string kd2] 55 (0, 0))) := by show w4.heap[wr.heap.size]? = _; rw [← hW4]; exact heap_alloc_new wr _
      have HS4 : Hid (w4.heap[w.heap.size + 1]? = some (.cells (spCells g x) 151 (0, 0))) := block_below HR2.out HB4.out
      have HI4 : Hid (RdD W w4 R a E.s.length c gb E.d tree) := HIr.out.below HB4.out
      clear hW4 k1 k2 k3
      have HBG : Hid (∀ x : Ext w4, Calls Tryz.prog 187 #[.slice (some ⟨gb, 0, none⟩) E.s.length E.s.length, .int .i64 t, .agg #[.int .i64 g.c, .int .i64 g.n]] x.v fun e w'' => e = .returned (.bool (E.bg t g.c g.n)) ∧ ∃ y : Ext w4, w'' = y.v) := fun x =>
        Ext.callsR (HC.out.bg t htl g.c g.n) (has_any E.s gb t g.c g.n x.v (HC.out.ab.below (HI4.out.bel.trans (x.h.mono HI4.out.bel.size))) htl hs40)
      have X0 : ∀ x : Ext w4, x.v.cell? ⟨R, 1, none⟩ = some (.slice (some ⟨gb, 0, none⟩) E.s.length E.s.length) := fun x => x.cell HI4.out.r1
      have X2 : ∀ x : Ext w4, x.v.cell? ⟨wr.heap.size, 0, none⟩ = some (.int .i64 t) := fun x => x.cell (cell_of_row HK4.out rfl)
      have X3 : ∀ y : Ext w4, y.v.cell? ⟨w.heap.size + 1, 0, none⟩ = some (.int .i64 g.c) := fun y => y.cell (cell_of_row HS4.out rfl)
      have X4 : ∀ y : Ext w4, y.v.cell? ⟨w.heap.size + 1, 1, none⟩ = some (.int .i64 g.n) := fun y => y.cell (cell_of_row HS4.out rfl)
      (have ne := ext_ne; refine wp_region_ext (by kernel_rfl) (by kernel_rfl) ?_; (repeat (first | go_big_quiet_skip | (go_big_quiet_want; go_big_quiet_op; first | go_big_quiet_on | (apply Exists.intro; refine ⟨fun x => ?_, ?_⟩; (· (exact HBG.out x)); go_big_quiet_on)))); refine nil_ext ?_)
      intro w5 hb5
      have HB5 : Hid (Below wr.heap.size wr w5) := HB4.out.trans (hb5.mono HB4.out.size)
      have HI5 : Hid (RdD W w5 R a E.s.length c gb E.d tree) := HI4.out.below hb5
      have HF5 : Hid (Fr R w w5) := HFr.out.below HB5.out
      have HK5 : Hid (w5.heap[wr.heap.size]? = some (.cells #[.int .i64 t, .bool ko2, .string kd2] 55 (0, 0))) := block_below HK4.out hb5
      have HS5 : Hid (w5.heap[w.heap.size + 1]? = some (.cells (spCells g x) 151 (0, 0))) := block_below HS4.out hb5
      clear X0 X2 X3 X4 hb5 HBG HB4 HK4 HS4 HI4
      cases hbg : E.bg t g.c g.n
      · have HNX : Hid (choiceF E (rdF E f) g x tz dp ((nd E.s i).kids.drop (j + 1)) (j + 1) = some o) := choiceF_no hlt HMJ.out (by rw [HT.out]; exact hbg)
        clear hbg
        go_wp2
        go_roundw
        case rel => exact ⟨j + 1, by omega, by go_num, HNX.out, HB.out.trans (HB5.out.mono HB.out.size)⟩
        case measure => simp [intOf]; omega
      · obtain ⟨o', hr, ho⟩ := choiceF_yes hlt HMJ.out (by rw [HT.out]; exact hbg)
        rw [HT.out] at hr
        have HREC : Hid (rdF E f t x tz dp = some o') := hr
        have HO : Hid ((∃ u, o' = .error u ∧ o = .error u) ∨ ∃ vs z, o' = .ok (vs, z) ∧ o = .ok (⟨13, noB, j, 1⟩ :: vs, tz)) := ho
        clear hbg hr ho
        have hl1 : tree.length ≤ 1099511627776 := by have := HRO.out; unfold Room at this; omega
        have HRO2 : Hid (Room (tree ++ [⟨13, ⟨#[]⟩, (j : Int), 1⟩]) f x tz) := by show Room _ _ _ _; have := HRO.out; unfold Room at this ⊢; simp only [List.length_append, List.length_cons, List.length_nil]; omega
        have hkl : wr.heap.size < w5.heap.size := row_lt HK5.out
        have hne1 : wr.heap.size ≠ R := by have := HB0.out.size; have := HB.out.size; omega
        have hne2 : w.heap.size + 1 ≠ R := by omega
        go_wp2_with fail
        refine (add_any W _ R a E.s.length c gb E.d tree 13 ⟨#[]⟩ j 1 HI5.out hl1).mono ?_
        rintro e w6 ⟨rfl, hI6, hf6⟩
        have HI6 : Hid (RdD W w6 R a E.s.length c gb E.d (tree ++ [⟨13, ⟨#[]⟩, (j : Int), 1⟩])) := hI6
        have HF6 : Hid (Fr R w w6) := HF5.out.trans hf6
        have hK6 := hf6 _ _ _ hne1 (by decide) HK5.out
        have hS6 := hf6 _ _ _ hne2 (by decide) HS5.out
        have m0 : w6.cell? ⟨wr.heap.size, 0, none⟩ = some (.int .i64 t) := cell_of_row hK6 rfl
        have s0 : w6.cell? ⟨w.heap.size + 1, 0, none⟩ = some (.int .i64 g.c) := cell_of_row hS6 rfl
        have s1 : w6.cell? ⟨w.heap.size + 1, 1, none⟩ = some (.int .i64 g.n) := cell_of_row hS6 rfl
        have s2 : w6.cell? ⟨w.heap.size + 1, 2, none⟩ = some (.bool g.b) := cell_of_row hS6 rfl
        have s3 : w6.cell? ⟨w.heap.size + 1, 3, none⟩ = some (.int .i64 x) := cell_of_row hS6 rfl
        have s4 : w6.cell? ⟨w.heap.size + 1, 4, none⟩ = some (.int .i64 ((x : Int) + g.s)) := cell_of_row hS6 rfl
        have s5 : w6.cell? ⟨w.heap.size + 1, 5, none⟩ = some (.int .i64 ((x : Int) + g.s + g.l)) := cell_of_row hS6 rfl
        clear hI6 hf6 hK6 hS6
        go_wp2_with fail
        refine (HN.out t x tz g dp o' _ _ HG.out HREC.out htl hxz hz hd1 hd2 HRO2.out HI6.out).mono ?_
        rintro e w7 ha7
        have HA7 : Hid (AfterD E W R a c gb sn o' (tree ++ [⟨13, ⟨#[]⟩, (j : Int), 1⟩]) w6 e w7) := ha7
        clear ha7 m0 s0 s1 s2 s3 s4 s5
        have HFIN : Hid (∀ e, AfterD E W R a c gb sn o' (tree ++ [⟨13, ⟨#[]⟩, (j : Int), 1⟩]) w6 e w7 → AfterD E W R a c gb sn o tree w e w7) := fun e q => by
          obtain ⟨q1, q2⟩ := q
          refine ⟨HF6.out.trans q1, ?_⟩
          rcases HO.out with ⟨u, hu, ho⟩ | ⟨vs, z, hu, ho⟩
          · rcases q2 with ⟨vs, z, q3, _⟩ | ⟨k, q, tr, q3, q4, q5⟩
            · rw [hu] at q3; cases q3
            · exact .inr ⟨k, q, tr, by rw [ho, ← hu, q3], q4, q5⟩
          · rcases q2 with ⟨vs', z', q3, q4, q5⟩ | ⟨k, q, tr, q3, _⟩
            · rw [hu] at q3
              cases q3
              refine .inl ⟨_, _, ho, q4, ?_⟩
              rw [List.append_assoc] at q5
              exact q5
            · rw [hu] at q3; cases q3
        have hcase : (e = .returned .nilIface) ∨ ∃ q z, e = .returned (fault q z) := by
          rcases HA7.out.2 with ⟨_, _, _, q4, _⟩ | ⟨k, q, _, _, q4, _⟩
          · exact .inl q4
          · exact .inr ⟨q, _, q4⟩
        rcases hcase with rfl | ⟨q, za, rfl⟩
        · go_wp2
          go_ret
          exact HFIN.out _ HA7.out
        · unfold fault
          go_wp2
          go_ret
          exact HFIN.out _ HA7.out
    · have hlt' : ¬ (j : Int) < (nd E.s i).kids.length := by omega
      have ho : o = .error (4, (x : Int)) := by
        have q := HMJ.out
        rw [List.drop_eq_nil_of_le (by omega)] at q
        unfold choiceF at q
        cases q
        rfl
      have HO : Hid (o = .error (4, (x : Int))) := ho
      have cT := (HC.out.lay.below HIr.out.bel).s.cTag
      have hgl := lt_of_cell cT
      simp only at hgl
      have s3 : wr.cell? ⟨w.heap.size + 1, 3, none⟩ = some (.int .i64 x) := cell_of_row HR2.out rfl
      clear ho
      go_wp2_with fail
      refine (HAT.out _).mono ?_
      rintro e w6 ⟨rfl, rfl⟩
      go_wp2
      go_ret
      exact ⟨HFr.out, .inr ⟨4, x, tree, HO.out, rfl, HIr.out⟩⟩
end Go.Proofs.YtkkicodfpekbgaaGreatDoor
