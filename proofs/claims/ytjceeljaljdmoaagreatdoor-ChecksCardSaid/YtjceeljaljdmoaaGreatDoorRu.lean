/-
  The document's reader: bare, of the kinds 1 to 9.
-/
import Derived.Test.YtjceeljaljdmoaaGreatDoorRs
import Derived.Test.YtjceeljaljdmoaaGreatDoorCz
namespace Go.Proofs.YtjceeljaljdmoaaGreatDoor
open Go.RowKit

/-- What bare does: kinds 1 to 9. -/
def BareL (k cl nu : Int) (h : Hd) (data : ByteArray) (x z y : Nat) (dp : Int) (tree : List Vl) (p : Int) (tree' : List Vl) (e' p' : Int) : Prop :=
  (¬ (h.c = cl ∧ h.n = nu ∧ h.b = false) ∧ tree' = tree ∧ e' = 4 ∧ p' = x) ∨
  ((h.c = cl ∧ h.n = nu ∧ h.b = false) ∧ 12 < dp ∧ tree' = tree ∧ e' = 10 ∧ p' = x) ∨
  ((h.c = cl ∧ h.n = nu ∧ h.b = false) ∧ dp ≤ 12 ∧ ContentOk k (data.extract (x + z) y) ∧ tree' = tree ++ [⟨k, data.extract (x + z) y, 0, 0⟩] ∧ e' = 0 ∧ p' = p) ∨
  ((h.c = cl ∧ h.n = nu ∧ h.b = false) ∧ dp ≤ 12 ∧ ¬ ContentOk k (data.extract (x + z) y) ∧ tree' = tree ∧ e' = 6 ∧ p' = x)
/-- What a method of the reader leaves. -/
def RetR (W w : World) (R : Nat) (a : Option Addr) (n c : Nat) (data : ByteArray) (v : Value) (Q : List Vl → Int → Int → Prop) (e : Ending) (w' : World) : Prop :=
  e = .returned v ∧ ∃ tree' e' p', RdI W w' R a n c data tree' e' p' ∧ Q tree' e' p' ∧ Fr R w w'

set_option maxHeartbeats 4000000 in
set_option maxRecDepth 100000 in
theorem bare_leaf (W w : World) (R : Nat) (a : Option Addr) (n c : Nat) (data : ByteArray) (tree : List Vl) (p : Int) (N : Nd) (ka : Option Addr) (kc : Nat) (cl nu : Int) (hc : Int) (hb : Bool) (hn : Int) (z : Nat) (hl : Int) (x y : Nat) (dp : Int)
    (h : RdI W w R a n c data tree 0 p) (hk1 : 1 ≤ N.kind) (hk9 : N.kind ≤ 9) (hxy : x + z ≤ y) (hy : y ≤ data.size) (hm : data.size ≤ 140737488355328) (ht : tree.length ≤ 1099511627776) :
    Calls Tryz.prog 73 #[.pointer (some ⟨R, 0, none⟩), .agg #[.int .i64 N.kind, .int .i64 N.tag, .int .i64 N.mode, .slice ka N.kids.length kc], .int .i64 cl, .int .i64 nu, .agg #[.int .i64 hc, .bool hb, .int .i64 hn, .int .i64 z, .int .i64 hl], .int .i64 x, .int .i64 y, .int .i64 dp] w
      fun e w' => RetR W w R a n c data (.tuple #[]) (BareL N.kind cl nu ⟨hc, hb, hn, z, hl⟩ data x z y dp tree p) e w' := by
  have HI : Hid (RdI W w R a n c data tree 0 p) := h
  have HC : Hid (∀ w, Calls Tryz.prog 80 #[.int .i64 N.kind, .string (data.extract (x + z) y)] w fun e w' => RetB (ContentOk N.kind (data.extract (x + z) y)) w e w') := fun w => isContent_any _ _ w (by simp; omega)
  obtain ⟨_, hlo, vt, hr, _⟩ := h
  unfold rdObj at hr
  have c1 : w.cell? ⟨R, 1, none⟩ = some (.string data) := by simp [World.cell?, hr]
  have hRl : R < w.heap.size := lt_of_cell c1
  clear hr
  have k13 : (N.kind == 13) = false := by rw [beq_eq_false_iff_ne]; omega
  have k14 : (N.kind == 14) = false := by rw [beq_eq_false_iff_ne]; omega
  have k14' : (N.kind != 14) = true := by rw [bne_iff_ne]; omega
  have k10 : (N.kind == 10) = false := by rw [beq_eq_false_iff_ne]; omega
  have k10' : N.kind < 10 := by omega
  have HW1 : Hid (∀ o1 o2, RdI W ((w.alloc o1).alloc o2) R a n c data tree 0 p) := fun o1 o2 => (HI.out.below ((Below.refl _ _).alloc (Nat.le_refl _) _)).below ((Below.refl _ _).alloc (Nat.le_refl _) _)
  have FW : Hid (∀ o1 o2 k, Fr R w (((w.alloc o1).alloc o2).drewN k)) := fun o1 o2 k => Fr.of_below (below_drewN (((Below.refl w.heap.size w).alloc (Nat.le_refl _) o1).alloc (by simp) o2) k)
  by_cases q : hc = cl ∧ hn = nu ∧ hb = false
  · have HQ : Hid (hc = cl ∧ hn = nu ∧ hb = false) := q
    obtain ⟨rfl, rfl, rfl⟩ := q
    by_cases hd : 12 < dp
    · have HD : Hid (12 < dp) := hd
      go_enter Tryz.func73, Tryz.ntmps73
      go_wp2_with fail
      refine (stop_first W _ R a n c data tree p 10 x (HW1.out _ _)).mono ?_
      rintro e w2 ⟨rfl, hI2, hoth⟩
      have HI2 : Hid (RdI W w2 R a n c data tree 10 x) := hI2
      have HFR : Hid (Fr R w w2) := (FW.out _ _ 0).trans (Fr.of_same hoth)
      clear hI2 hoth
      go_wp2
      go_end0
      exact ⟨rfl, tree, 10, x, HI2.out, .inr (.inl ⟨⟨rfl, rfl, rfl⟩, HD.out, rfl, rfl, rfl⟩), HFR.out⟩
    · have hd' : dp ≤ 12 := by omega
      have HD : Hid (dp ≤ 12) := hd'
      have hxy' : (x : Int) + z ≤ y := by omega
      have hy' : (y : Int) ≤ data.size := by omega
      have hx0 : (x : Int) + z ≤ 140737488355328 := by omega
      clear hd
      go_enter Tryz.func73, Tryz.ntmps73
      go_wp2_with fail
      go_quiet (fail)
      go_wp2_with fail
      refine (HC.out _).mono ?_
      rintro e w2 ⟨r, rfl, hr2, kq, rfl⟩
      have HR2 : Hid (r = true ↔ ContentOk N.kind (data.extract (x + z) y)) := hr2
      clear hr2
      cases r
      · go_wp2_with fail
        refine (stop_first W _ R a n c data tree p 6 x ((HW1.out _ _).below (below_drewN (Below.refl _ _) _))).mono ?_
        rintro e w3 ⟨rfl, hI3, hoth⟩
        have HI3 : Hid (RdI W w3 R a n c data tree 6 x) := hI3
        have HFR : Hid (Fr R w w3) := (FW.out _ _ _).trans (Fr.of_same hoth)
        clear hI3 hoth
        go_wp2
        go_end0
        exact ⟨rfl, tree, 6, x, HI3.out, .inr (.inr (.inr ⟨⟨rfl, rfl, rfl⟩, HD.out, fun h => Bool.noConfusion (HR2.out.2 h), rfl, rfl, rfl⟩)), HFR.out⟩
      · go_wp2_with fail
        refine (put_any W _ R a n c data tree 0 p ⟨N.kind, data.extract (x + z) y, 0, 0⟩ ((HW1.out _ _).below (below_drewN (Below.refl _ _) _)) ht).mono ?_
        rintro e w3 ⟨rfl, hI3, hfr⟩
        have HI3 : Hid (RdI W w3 R a n c data (tree ++ [⟨N.kind, data.extract (x + z) y, 0, 0⟩]) 0 p) := hI3
        have HFR : Hid (Fr R w w3) := (FW.out _ _ _).trans hfr
        clear hI3 hfr
        go_wp2
        go_end0
        exact ⟨rfl, _, 0, p, HI3.out, .inr (.inr (.inl ⟨⟨rfl, rfl, rfl⟩, HD.out, HR2.out.1 trivial, rfl, rfl, rfl⟩)), HFR.out⟩
  · have HQ : Hid (¬ (hc = cl ∧ hn = nu ∧ hb = false)) := q
    have q' : (hc != cl) = true ∨ ((hc != cl) = false ∧ (hn != nu) = true) ∨ ((hc != cl) = false ∧ (hn != nu) = false ∧ hb = true) := by
      by_cases q1 : hc = cl
      · by_cases q2 : hn = nu
        · right; right
          refine ⟨by simp [q1], by simp [q2], ?_⟩
          cases hb
          · exact absurd ⟨q1, q2, rfl⟩ q
          · rfl
        · right; left; exact ⟨by simp [q1], by simp [q2]⟩
      · left; simp [q1]
    clear q
    rcases q' with e1 | ⟨e1, e2⟩ | ⟨e1, e2, rfl⟩
    · go_enter Tryz.func73, Tryz.ntmps73
      go_wp2_with fail
      refine (stop_first W _ R a n c data tree p 4 x (HW1.out _ _)).mono ?_
      rintro e w2 ⟨rfl, hI2, hoth⟩
      have HI2 : Hid (RdI W w2 R a n c data tree 4 x) := hI2
      have HFR : Hid (Fr R w w2) := (FW.out _ _ 0).trans (Fr.of_same hoth)
      clear hI2 hoth
      go_wp2
      go_end0
      exact ⟨rfl, tree, 4, x, HI2.out, .inl ⟨HQ.out, rfl, rfl, rfl⟩, HFR.out⟩
    · go_enter Tryz.func73, Tryz.ntmps73
      go_wp2_with fail
      refine (stop_first W _ R a n c data tree p 4 x (HW1.out _ _)).mono ?_
      rintro e w2 ⟨rfl, hI2, hoth⟩
      have HI2 : Hid (RdI W w2 R a n c data tree 4 x) := hI2
      have HFR : Hid (Fr R w w2) := (FW.out _ _ 0).trans (Fr.of_same hoth)
      clear hI2 hoth
      go_wp2
      go_end0
      exact ⟨rfl, tree, 4, x, HI2.out, .inl ⟨HQ.out, rfl, rfl, rfl⟩, HFR.out⟩
    · go_enter Tryz.func73, Tryz.ntmps73
      go_wp2_with fail
      refine (stop_first W _ R a n c data tree p 4 x (HW1.out _ _)).mono ?_
      rintro e w2 ⟨rfl, hI2, hoth⟩
      have HI2 : Hid (RdI W w2 R a n c data tree 4 x) := hI2
      have HFR : Hid (Fr R w w2) := (FW.out _ _ 0).trans (Fr.of_same hoth)
      clear hI2 hoth
      go_wp2
      go_end0
      exact ⟨rfl, tree, 4, x, HI2.out, .inl ⟨HQ.out, rfl, rfl, rfl⟩, HFR.out⟩
end Go.Proofs.YtjceeljaljdmoaaGreatDoor
