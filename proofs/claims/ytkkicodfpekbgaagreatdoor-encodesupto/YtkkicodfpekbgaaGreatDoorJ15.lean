/-
  Several texts in one:
  The document's writer: seq (written by gen_xe.py).
  The document's writer: node.
-/
import Derived.Test.YtkkicodfpekbgaaGreatDoorJ14
import Derived.Deep.RegionHeldLaw
import Derived.Test.YtkkicodfpekbgaaGreatDoorJ10
import Derived.Test.YtkkicodfpekbgaaGreatDoorJ3
import Derived.Test.YtkkicodfpekbgaaGreatDoorJ1
import Derived.Deep.DeepCutAuto
/-! The document's writer: seq (written by gen_xe.py). -/
namespace Go.Proofs.YtkkicodfpekbgaaGreatDoor
set_option linter.unusedSimpArgs false
set_option linter.unusedVariables false
open Go.RowKit

/-- One kid more. -/
theorem wseqF_kid {E : WEnv} {rec : WRec} {dp : Int} {n : Nd} {k x : Nat} {out : ByteArray} {u : Bool} {r : WOut} (hk : k < n.kids.length) (e : wseqF E rec dp (n.kids.drop k) x out u = some r) :
    ((kd n k).opt = true ∧ x < E.t.length ∧ (vl E.t x).kind = 15 ∧ (((vl E.t x).text.size = 0 ∧ (vl E.t x).alt = 0 ∧ (vl E.t x).kids = 0 ∧ wseqF E rec dp (n.kids.drop (k + 1)) (x + 1) out u = some r) ∨ (¬ ((vl E.t x).text.size = 0 ∧ (vl E.t x).alt = 0 ∧ (vl E.t x).kids = 0) ∧ r = none))) ∨
    (¬ ((kd n k).opt = true ∧ x < E.t.length ∧ (vl E.t x).kind = 15) ∧ ∃ r1, rec (kd n k).node.toNat x (if (kd n k).dflt.size = 0 then dp + 1 else 1) = some r1 ∧ ((r1 = none ∧ r = none) ∨ ∃ b x' u', r1 = some (b, x', u') ∧
      (((kd n k).dflt.size ≠ 0 ∧ b = (kd n k).dflt ∧ wseqF E rec dp (n.kids.drop (k + 1)) x' out (u || u') = some r) ∨
       (¬ ((kd n k).dflt.size ≠ 0 ∧ b = (kd n k).dflt) ∧ 12 < dp + 1 ∧ r = none) ∨
       (¬ ((kd n k).dflt.size ≠ 0 ∧ b = (kd n k).dflt) ∧ dp + 1 ≤ 12 ∧ wseqF E rec dp (n.kids.drop (k + 1)) x' (out ++ b) (u || u') = some r)))) := by
  rw [drop_kid hk] at e
  unfold wseqF at e
  split at e
  · rename_i q
    left
    split at e
    · rename_i q'
      exact ⟨q.1, q.2.1, q.2.2, .inl ⟨q'.1, q'.2.1, q'.2.2, e⟩⟩
    · rename_i q'
      exact ⟨q.1, q.2.1, q.2.2, .inr ⟨q', (Option.some.inj e).symm⟩⟩
  · rename_i q
    right
    refine ⟨q, ?_⟩
    rcases wandThen_cases e with ⟨h1, rfl⟩ | ⟨b1, x1, u1, h1, h2⟩
    · exact ⟨_, h1, .inl ⟨rfl, rfl⟩⟩
    · refine ⟨_, h1, .inr ⟨b1, x1, u1, rfl, ?_⟩⟩
      split at h2
      · rename_i q'
        exact .inl ⟨q'.1, q'.2, h2⟩
      · rename_i q'
        split at h2
        · rename_i q2
          exact .inr (.inl ⟨q', q2, (Option.some.inj h2).symm⟩)
        · rename_i q2
          exact .inr (.inr ⟨q', by omega, h2⟩)
/-- Where seq stands at a round. -/
def WSeqAt (E : WEnv) (W : World) (R : Nat) (a : Option Addr) (c : Nat) (ta : Option Addr) (tc f : Nat) (n : Nd) (dp : Int) (r : WOut) (x0 : Nat) (u0 : Bool) (w0 : World) (vo vk : Value) (wr : World) : Prop :=
  ∃ (k : Nat) (out : ByteArray) (x : Nat) (no tu : Bool), vo = .string out ∧ vk = .int .i64 k ∧ k ≤ n.kids.length ∧ FrW R w0 wr ∧ WrD W wr R a E.s.length c ta E.t.length tc x no tu ∧ x ≤ E.t.length ∧ out.size + pz E.t x0 ≤ pz E.t x ∧
    ((no = false ∧ ∃ u1, tu = (u0 || u1) ∧ wseqF E (wrF E f) dp (n.kids.drop k) x out u1 = some r) ∨ (no = true ∧ r = none))
/-- At is set. -/
theorem WrD.setAt {W w : World} {R : Nat} {a : Option Addr} {n c : Nat} {ta : Option Addr} {tn tc x : Nat} {no tu : Bool} (h : WrD W w R a n c ta tn tc x no tu) (y : Nat) : WrD W (w.setCell ⟨R, 2, none⟩ (.int .i64 y)) R a n c ta tn tc y no tu :=
  ⟨h.bel.setCell (p := ⟨R, 2, none⟩) h.lo _, h.lo, heap_setCell_same w R 2 _ _ _ h.own⟩

set_option maxHeartbeats 4000000 in
set_option maxRecDepth 100000 in
theorem wseq_any (E : WEnv) (W : World) (R : Nat) (a : Option Addr) (c : Nat) (ta : Option Addr) (tc f : Nat) (hc : WC E W a ta) (hN : NodeW E W R a c ta tc f) (i : Nat) (hi : i < E.s.length) (ka : Option Addr) (kc : Nat) (hka : KidsIn W ka (nd E.s i).kids) (hkc : (nd E.s i).kids.length ≤ kc)
    (v : Vl) (x : Nat) (dp : Int) (r : WOut) (u0 : Bool) (w : World) (hm : (if v.text.size = 0 ∧ v.alt = 0 ∧ v.kids = (nd E.s i).kids.length then wseqF E (wrF E f) dp (nd E.s i).kids x noB false else some none) = some r)
    (hx : x ≤ E.t.length) (hd1 : 1 ≤ dp) (hd2 : dp ≤ 12) (htc : E.t.length ≤ tc) (hI : WrD W w R a E.s.length c ta E.t.length tc x false u0) :
    Calls Tryz.prog 106 #[.pointer (some ⟨R, 0, none⟩), .agg (ndC (nd E.s i) ka kc), .agg (vlCells v), .int .i64 dp] w fun e w' => AfterW E W R a c ta tc r x u0 w e w' := by
  have HC := hide hc
  have HI := hide hI
  have hk8 := hc.right.fine.eight i hi
  have HN := hide hN
  have HKI := hide hka
  have HTL : Hid (E.t.length ≤ 16777000) := by
    have := hc.size
    show E.t.length ≤ 16777000
    unfold pz at this
    omega
  have htl63 : (E.t.length : Int) ≤ 16777000 := by have := HTL.out; omega
  have own0 := hI.own
  unfold wwObj at own0
  have c3 : w.cell? ⟨R, 3, none⟩ = some (.bool false) := by simp [World.cell?, own0]
  have f3 : w.frozen? ⟨R, 3, none⟩ = false := by simp [World.frozen?, own0]
  have hRl : R < w.heap.size := lt_of_cell c3
  have HKR : Hid (∀ j, j < (nd E.s i).kids.length → ∃ t : Nat, (kd (nd E.s i) j).node = t ∧ t < E.s.length) := fun j hj => by
    have := hc.right.fine.within i hi _ (kd_mem hj)
    exact ⟨(kd (nd E.s i) j).node.toNat, by omega, by omega⟩
  have HSO : Hid (∀ j, j < (nd E.s i).kids.length → (kd (nd E.s i) j).dflt.size ≤ 140737488351232) := fun j hj => hc.sok i hi _ (kd_mem hj)
  have HNO : Hid (r = none → ∀ A B, AfterW E W R a c ta tc r x u0 w (.returned (.string ⟨#[]⟩)) (((w.setCell ⟨R, 3, none⟩ (.bool true)).alloc A).alloc B)) := fun hr A B => by
    have hb : Below (w.setCell ⟨R, 3, none⟩ (.bool true)).heap.size (w.setCell ⟨R, 3, none⟩ (.bool true)) (((w.setCell ⟨R, 3, none⟩ (.bool true)).alloc A).alloc B) := ((Below.refl _ _).alloc (Nat.le_refl _) A).alloc (by simp) B
    exact ⟨(FrW.set 3 _).trans (FrW.of_below hb), .inr ⟨hr, ⟨#[]⟩, x, u0, rfl, by show 0 + pz E.t x ≤ pz E.t x; omega, hx, (hI.setNo true).below hb⟩⟩
  have HA : Hid (∀ A B, Below w.heap.size w ((w.alloc A).alloc B)) := fun A B => ((Below.refl w.heap.size w).alloc (Nat.le_refl _) A).alloc (by simp) B
  unfold ndC vlCells
  clear hc hN hka own0 hI
  by_cases q : v.text.size = 0 ∧ v.alt = 0 ∧ v.kids = (nd E.s i).kids.length
  · rw [if_pos q] at hm
    have HM := hide hm
    obtain ⟨q1, q2, q3⟩ := q
    have t1 := emp_t q1
    rw [q2, q3]
    clear hm q1 q2 q3 HNO
    go_enter Tryz.func106, Tryz.ntmps106
    go_wp2
    have hG1 : ((w.alloc (.cells #[.int .i64 (nd E.s i).kind, .int .i64 (nd E.s i).tag, .int .i64 (nd E.s i).mode, .slice ka (nd E.s i).kids.length kc] 58)).alloc (.cells #[.int .i64 v.kind, .string v.text, .int .i64 0, .int .i64 ((nd E.s i).kids.length : Int)] 60)).heap[w.heap.size]? = some (.cells #[.int .i64 (nd E.s i).kind, .int .i64 (nd E.s i).tag, .int .i64 (nd E.s i).mode, .slice ka (nd E.s i).kids.length kc] 58 (0, 0)) := block_below (heap_alloc_new w _) ((Below.refl _ _).alloc (Nat.le_refl _) _)
    have hB0 : Below w.heap.size w ((w.alloc (.cells #[.int .i64 (nd E.s i).kind, .int .i64 (nd E.s i).tag, .int .i64 (nd E.s i).mode, .slice ka (nd E.s i).kids.length kc] 58)).alloc (.cells #[.int .i64 v.kind, .string v.text, .int .i64 0, .int .i64 ((nd E.s i).kids.length : Int)] 60)) := HA.out _ _
    generalize (w.alloc (.cells #[.int .i64 (nd E.s i).kind, .int .i64 (nd E.s i).tag, .int .i64 (nd E.s i).mode, .slice ka (nd E.s i).kids.length kc] 58)).alloc (.cells #[.int .i64 v.kind, .string v.text, .int .i64 0, .int .i64 ((nd E.s i).kids.length : Int)] 60) = w0 at hG1 hB0 ⊢
    have HG1 := hide hG1
    have HB0 := hide hB0
    have HI0 := hide (HI.out.below hB0)
    have hne1 : w.heap.size ≠ R := by omega
    clear hG1 hB0 HA c3 f3
    go_loopw [9, 10] (fun vo vk wr => WSeqAt E W R a c ta tc f (nd E.s i) dp r x u0 w0 vo vk wr) (fun _ vk _ => (nd E.s i).kids.length - (intOf vk).toNat)
    case atStart => exact ⟨0, noB, x, false, u0, rfl, rfl, Nat.zero_le _, FrW.refl _ _, HI0.out, hx, by show 0 + pz E.t x ≤ pz E.t x; omega, .inl ⟨rfl, false, by simp, by simpa using HM.out⟩⟩
    case round =>
      obtain ⟨k, out, x1, no, tu, rfl, rfl, hk, hF, hI1, hx1, hsz, hcs⟩ := hrel
      have HF := hide hF
      have HI1 := hide hI1
      have HSZ := hide hsz
      have HCS := hide hcs
      have own1 := hI1.own
      unfold wwObj at own1
      have d3 : wr.cell? ⟨R, 3, none⟩ = some (.bool no) := by simp [World.cell?, own1]
      have hRw : R < wr.heap.size := lt_of_cell d3
      have hN1 := hF _ _ hne1 HG1.out
      have n3 : wr.cell? ⟨w.heap.size, 3, none⟩ = some (.slice ka (nd E.s i).kids.length kc) := cell_of_row hN1 rfl
      have hlN := lt_of_cell n3
      simp only at hlN
      clear hF hI1 hsz hcs own1 hN1
      cases no with
      | true =>
        have HR : Hid (r = none) := by
          rcases HCS.out with ⟨h, _⟩ | ⟨_, h⟩
          · cases h
          · exact h
        by_cases hlt : (k : Int) < (nd E.s i).kids.length
        · go_wp2
          go_ret
          exact ⟨(FrW.of_below HB0.out).trans HF.out, .inr ⟨HR.out, out, x1, tu, rfl, HSZ.out, hx1, HI1.out⟩⟩
        · go_wp2
          go_ret
          exact ⟨(FrW.of_below HB0.out).trans HF.out, .inr ⟨HR.out, out, x1, tu, rfl, HSZ.out, hx1, HI1.out⟩⟩
      | false =>
        obtain ⟨u1, htu, hmm⟩ : ∃ u1, tu = (u0 || u1) ∧ wseqF E (wrF E f) dp ((nd E.s i).kids.drop k) x1 out u1 = some r := by
          rcases HCS.out with ⟨_, h⟩ | ⟨h, _⟩
          · exact h
          · cases h
        have HTU := hide htu
        by_cases hlt : k < (nd E.s i).kids.length
        · have hlt' : (k : Int) < (nd E.s i).kids.length := by omega
          have hstep := wseqF_kid hlt hmm
          obtain ⟨kb, ko, rfl, kcl⟩ := HKI.out k hlt
          obtain ⟨t, ht, htl⟩ := HKR.out k hlt
          have hys := HSO.out k hlt
          obtain ⟨kn, ko', kd'⟩ := kcl.below HI1.out.bel
          obtain ⟨yo, hyo⟩ : ∃ yo, (kd (nd E.s i) k).opt = yo := ⟨_, rfl⟩
          obtain ⟨yd, hyd⟩ : ∃ yd, (kd (nd E.s i) k).dflt = yd := ⟨_, rfl⟩
          rw [show (nd E.s i).kids.getD k kd0 = kd (nd E.s i) k from rfl] at kn ko' kd'
          rw [ht] at kn
          rw [hyo] at ko'
          rw [hyd] at kd' hys
          rw [ht, hyo, hyd, Int.toNat_natCast] at hstep
          have HST := hide hstep
          clear hmm htu hstep ht hyo hyd kcl
          go_wp2_with fail
          obtain ⟨xb, hxb⟩ : ∃ xb, wr.heap.size = xb := ⟨_, rfl⟩
          have hK2 : (wr.alloc (.cells #[.int .i64 (t : Int), .bool yo, .string yd] 55)).heap[wr.heap.size]? = some (.cells #[.int .i64 (t : Int), .bool yo, .string yd] 55 (0, 0)) := heap_alloc_new wr _
          have hB2 : Below wr.heap.size wr (wr.alloc (.cells #[.int .i64 (t : Int), .bool yo, .string yd] 55)) := (Below.refl _ _).alloc (Nat.le_refl _) _
          rw [hxb] at hK2
          rw [hxb]
          have hneX : xb ≠ R := by omega
          generalize wr.alloc (.cells #[.int .i64 (t : Int), .bool yo, .string yd] 55) = w2 at hK2 hB2 ⊢
          have hI2 := HI1.out.below hB2
          have HI2 := hide hI2
          have HF2 : Hid (FrW R w0 w2) := HF.out.trans (FrW.of_below hB2)
          have HK2 := hide hK2
          have own2 := hI2.own
          unfold wwObj at own2
          have s1 : w2.cell? ⟨R, 1, none⟩ = some (.slice ta E.t.length tc) := by simp [World.cell?, own2]
          have s2 : w2.cell? ⟨R, 2, none⟩ = some (.int .i64 (x1 : Int)) := by simp [World.cell?, own2]
          have hR2 : R < w2.heap.size := lt_of_cell s1
          have y0 : w2.cell? ⟨xb, 0, none⟩ = some (.int .i64 (t : Int)) := cell_of_row hK2 rfl
          have y1 : w2.cell? ⟨xb, 1, none⟩ = some (.bool yo) := cell_of_row hK2 rfl
          have y2 : w2.cell? ⟨xb, 2, none⟩ = some (.string yd) := cell_of_row hK2 rfl
          have hlX := lt_of_cell y0
          simp only at hlX
          have HTR := hide (HC.out.tree)
          have hbW := hI2.bel
          have HBW := hide hbW
          clear hK2 hB2 hI2 own2 hxb d3 n3 kn ko' kd' hbW hRw hlN
          rcases HST.out with ⟨ho, hx3, hk15, hpl⟩ | ⟨hno, hsb⟩
          · obtain ⟨g, o, hta, p0, p1, p2, p3⟩ := HTR.out x1 hx3
            rw [hta] at s1
            rw [hk15] at p0
            have hx3' : (x1 : Int) < E.t.length := by omega
            obtain ⟨vt, hvt⟩ : ∃ vt, (vl E.t x1).text = vt := ⟨_, rfl⟩
            obtain ⟨va, hva⟩ : ∃ va, (vl E.t x1).alt = va := ⟨_, rfl⟩
            obtain ⟨vk', hvk⟩ : ∃ vk', (vl E.t x1).kids = vk' := ⟨_, rfl⟩
            rw [hvt] at p1
            rw [hva] at p2
            rw [hvk] at p3
            rw [hvt, hva, hvk] at hpl
            have HPL := hide hpl
            have m0 : w2.cell? ⟨g, o + x1 * 4, none⟩ = some (.int .i64 15) := (HBW.out.cell (lt_of_cell p0)).trans p0
            have m1 : w2.cell? ⟨g, o + x1 * 4 + 1, none⟩ = some (.string vt) := (HBW.out.cell (lt_of_cell p1)).trans p1
            have m2 : w2.cell? ⟨g, o + x1 * 4 + 2, none⟩ = some (.int .i64 va) := (HBW.out.cell (lt_of_cell p2)).trans p2
            have m3 : w2.cell? ⟨g, o + x1 * 4 + 3, none⟩ = some (.int .i64 vk') := (HBW.out.cell (lt_of_cell p3)).trans p3
            have hlG := lt_of_cell m0
            simp only at hlG
            rw [ho] at y1
            clear p0 p1 p2 p3 hta hpl hk15 hvt hva hvk HST
            go_quiet (fail)
            have hI3 := HI2.out.below (below_drewN (Below.refl _ _) nq)
            have hF3 := HF2.out.trans (FrW.of_below (below_drewN (Below.refl _ _) nq))
            have s1' : (w2.drewN nq).cell? ⟨R, 1, none⟩ = some (.slice (some ⟨g, o, none⟩) E.t.length tc) := by simpa using s1
            have s2' : (w2.drewN nq).cell? ⟨R, 2, none⟩ = some (.int .i64 (x1 : Int)) := by simpa using s2
            have m0' : (w2.drewN nq).cell? ⟨g, o + x1 * 4, none⟩ = some (.int .i64 15) := by simpa using m0
            have m1' : (w2.drewN nq).cell? ⟨g, o + x1 * 4 + 1, none⟩ = some (.string vt) := by simpa using m1
            have m2' : (w2.drewN nq).cell? ⟨g, o + x1 * 4 + 2, none⟩ = some (.int .i64 va) := by simpa using m2
            have m3' : (w2.drewN nq).cell? ⟨g, o + x1 * 4 + 3, none⟩ = some (.int .i64 vk') := by simpa using m3
            generalize w2.drewN nq = w3 at hI3 hF3 s1' s2' m0' m1' m2' m3' ⊢
            have HI3 := hide hI3
            have HF3 := hide hF3
            have hR3 : R < w3.heap.size := lt_of_cell s1'
            have hlG3 := lt_of_cell m0'
            simp only at hlG3
            clear hI3 hF3 s1 s2 y0 y1 y2 m0 m1 m2 m3 hlX hR2 hlG
            go_wp2_with fail
            go_region_held_law (fun w' => w'.cell? ⟨R, 1, none⟩ = some (.slice (some ⟨g, o, none⟩) E.t.length tc) ∧ w'.cell? ⟨R, 2, none⟩ = some (.int .i64 (x1 : Int)) ∧ w'.cell? ⟨g, o + x1 * 4, none⟩ = some (.int .i64 15) ∧ w'.cell? ⟨g, o + x1 * 4 + 1, none⟩ = some (.string vt) ∧ w'.cell? ⟨g, o + x1 * 4 + 2, none⟩ = some (.int .i64 va) ∧ w'.cell? ⟨g, o + x1 * 4 + 3, none⟩ = some (.int .i64 vk')) (go_keep) (fail)
            rename_i hHeld
            clear hHeld
            have hB4 : Below w3.heap.size w3 (w3.alloc (.cells #[.int .i64 15, .string vt, .int .i64 va, .int .i64 vk'] 60)).drew := ((Below.refl _ _).alloc (Nat.le_refl _) _).drew
            have hX4 : (w3.alloc (.cells #[.int .i64 15, .string vt, .int .i64 va, .int .i64 vk'] 60)).drew.heap[w3.heap.size]? = some (.cells #[.int .i64 15, .string vt, .int .i64 va, .int .i64 vk'] 60 (0, 0)) := heap_alloc_new w3 _
            generalize hab : w3.heap.size = ab at hX4 ⊢
            generalize (w3.alloc (.cells #[.int .i64 15, .string vt, .int .i64 va, .int .i64 vk'] 60)).drew = w4 at hB4 hX4 ⊢
            have hI4 := HI3.out.below hB4
            have HI4 := hide hI4
            have HF4 : Hid (FrW R w0 w4) := HF3.out.trans (FrW.of_below hB4)
            have hneA : ab ≠ R := by omega
            have own4 := hI4.own
            unfold wwObj at own4
            have e3 : w4.cell? ⟨R, 3, none⟩ = some (.bool false) := by simp [World.cell?, own4]
            have g3 : w4.frozen? ⟨R, 3, none⟩ = false := by simp [World.frozen?, own4]
            have e2 : w4.cell? ⟨R, 2, none⟩ = some (.int .i64 (x1 : Int)) := by simp [World.cell?, own4]
            have g2 : w4.frozen? ⟨R, 2, none⟩ = false := by simp [World.frozen?, own4]
            have a1 : w4.cell? ⟨ab, 1, none⟩ = some (.string vt) := cell_of_row hX4 rfl
            have a2 : w4.cell? ⟨ab, 2, none⟩ = some (.int .i64 va) := cell_of_row hX4 rfl
            have a3 : w4.cell? ⟨ab, 3, none⟩ = some (.int .i64 vk') := cell_of_row hX4 rfl
            have hR4 : R < w4.heap.size := lt_of_cell e3
            have hlA := lt_of_cell a1
            simp only at hlA
            have HAB : Hid (∀ nn : Bool, nn = (!decide (vt.size = 0 ∧ va = 0 ∧ vk' = 0)) → WSeqAt E W R a c ta tc f (nd E.s i) dp r x u0 w0 (.string out) (.int .i64 ((k + 1 : Nat) : Int)) ((w4.setCell ⟨R, 3, none⟩ (.bool nn)).setCell ⟨R, 2, none⟩ (.int .i64 ((x1 + 1 : Nat) : Int)))) := fun nn hnn => by
              refine ⟨k + 1, out, x1 + 1, nn, tu, rfl, rfl, by omega, (HF4.out.trans (FrW.set 3 _)).trans (FrW.set 2 _), (HI4.out.setNo nn).setAt (x1 + 1), by omega, by have := HSZ.out; have := pz_succ hx3; omega, ?_⟩
              rcases HPL.out with ⟨h1, h2, h3, h4⟩ | ⟨h1, h2⟩
              · left; rw [hnn, decide_eq_true ⟨h1, h2, h3⟩]; exact ⟨rfl, u1, HTU.out, h4⟩
              · right; rw [hnn, decide_eq_false h1]; exact ⟨rfl, h2⟩
            clear hX4 hB4 hI4 own4 s1' s2' m0' m1' m2' m3' hab hR3 hlG3
            by_cases q1 : vt.size = 0
            · have hde := emp_t q1
              by_cases q2 : va = 0
              · rw [q2] at a2
                by_cases q3 : vk' = 0
                · rw [q3] at a3
                  have HQ : Hid (false = (!decide (vt.size = 0 ∧ va = 0 ∧ vk' = 0))) := by show false = _; rw [decide_eq_true ⟨q1, q2, q3⟩]; rfl
                  clear q1 q2 q3
                  go_wp2
                  go_roundw
                  case rel => exact HAB.out false HQ.out
                  case measure => simp [intOf]; omega
                · have HQ : Hid (true = (!decide (vt.size = 0 ∧ va = 0 ∧ vk' = 0))) := by show true = _; rw [decide_eq_false (fun h => q3 h.2.2)]; rfl
                  have q3b : (vk' != 0) = true := by simpa using q3
                  clear q1 q2
                  go_wp2
                  go_roundw
                  case rel => exact HAB.out true HQ.out
                  case measure => simp [intOf]; omega
              · have HQ : Hid (true = (!decide (vt.size = 0 ∧ va = 0 ∧ vk' = 0))) := by show true = _; rw [decide_eq_false (fun h => q2 h.2.1)]; rfl
                clear q1
                go_wp2
                go_roundw
                case rel => exact HAB.out true HQ.out
                case measure => simp [intOf]; omega
            · have hde := emp_f (t := vt) (by omega)
              have HQ : Hid (true = (!decide (vt.size = 0 ∧ va = 0 ∧ vk' = 0))) := by show true = _; rw [decide_eq_false (fun h => q1 h.1)]; rfl
              clear q1
              go_wp2
              go_roundw
              case rel => exact HAB.out true HQ.out
              case measure => simp [intOf]; omega
          · have HSB := hide hsb
            clear hsb HST
            cases yo with
            | false =>
              go_quiet (fail)
              have hI3 := HI2.out.below (below_drewN (Below.refl _ _) nq)
              have hK3 := block_below HK2.out (below_drewN (Below.refl _ _) nq)
              have hF3 := HF2.out.trans (FrW.of_below (below_drewN (Below.refl _ _) nq))
              generalize w2.drewN nq = w3 at hI3 hK3 hF3 ⊢
              have HI3 := hide hI3
              have HK3 := hide hK3
              have HF3 := hide hF3
              have z0 : w3.cell? ⟨xb, 0, none⟩ = some (.int .i64 (t : Int)) := cell_of_row hK3 rfl
              have z2 : w3.cell? ⟨xb, 2, none⟩ = some (.string yd) := cell_of_row hK3 rfl
              have hlX3 := lt_of_cell z0
              simp only at hlX3
              clear hI3 hK3 hF3 s1 s2 y0 y1 y2 hlX hR2
              by_cases hy0 : yd.size = 0
              · have hde : yd.toList.isEmpty = true := emp_t hy0
                obtain ⟨r1, hrec, hr1⟩ : ∃ r1, wrF E f t x1 (dp + 1) = some r1 ∧ ((r1 = none ∧ r = none) ∨ ∃ b x' u', r1 = some (b, x', u') ∧ ((yd.size ≠ 0 ∧ b = yd ∧ wseqF E (wrF E f) dp ((nd E.s i).kids.drop (k + 1)) x' out (u1 || u') = some r) ∨ (¬ (yd.size ≠ 0 ∧ b = yd) ∧ 12 < dp + 1 ∧ r = none) ∨ (¬ (yd.size ≠ 0 ∧ b = yd) ∧ dp + 1 ≤ 12 ∧ wseqF E (wrF E f) dp ((nd E.s i).kids.drop (k + 1)) x' (out ++ b) (u1 || u') = some r))) := by
                  obtain ⟨r1, h1, h2⟩ := HSB.out
                  rw [if_pos hy0] at h1
                  exact ⟨r1, h1, h2⟩
                have HR1 := hide hr1
                have HCL := hide (HN.out t x1 (dp + 1) r1 tu w3 hrec htl hx1 (by omega) (by omega) HI3.out)
                clear hrec hr1 HSB
                go_wp2_with fail
                refine HCL.out.mono ?_
                rintro e w4 ha4
                have HF4 : Hid (FrW R w0 w4) := HF3.out.trans ha4.1
                have hK4 := ha4.1 _ _ hneX HK3.out
                obtain ⟨b, x2, no2, tu2, rfl, hsb, hx2, hI4, hgo⟩ : ∃ b x2 no2 tu2, e = .returned (.string b) ∧ b.size + pz E.t x1 ≤ pz E.t x2 ∧ x2 ≤ E.t.length ∧ WrD W w4 R a E.s.length c ta E.t.length tc x2 no2 tu2 ∧ ((no2 = false ∧ ∃ u2, tu2 = (u0 || u2) ∧ ((yd.size ≠ 0 ∧ b = yd ∧ wseqF E (wrF E f) dp ((nd E.s i).kids.drop (k + 1)) x2 out u2 = some r) ∨ (¬ (yd.size ≠ 0 ∧ b = yd) ∧ 12 < dp + 1 ∧ r = none) ∨ (¬ (yd.size ≠ 0 ∧ b = yd) ∧ dp + 1 ≤ 12 ∧ wseqF E (wrF E f) dp ((nd E.s i).kids.drop (k + 1)) x2 (out ++ b) u2 = some r))) ∨ (no2 = true ∧ r = none)) := by
                  rcases ha4.2 with ⟨b, x2, u2, hr, he, hsb, hx2, hI4⟩ | ⟨hr, b, x2, u2, he, hsb, hx2, hI4⟩
                  · refine ⟨b, x2, false, _, he, hsb, hx2, hI4, .inl ⟨rfl, u1 || u2, by rw [HTU.out, Bool.or_assoc], ?_⟩⟩
                    rcases HR1.out with ⟨q, _⟩ | ⟨b', x', u', q, h⟩
                    · rw [q] at hr; cases hr
                    · rw [q] at hr; cases hr; exact h
                  · refine ⟨b, x2, true, u2, he, hsb, hx2, hI4, .inr ⟨rfl, ?_⟩⟩
                    rcases HR1.out with ⟨_, q⟩ | ⟨b', x', u', q, _⟩
                    · exact q
                    · rw [q] at hr; cases hr
                have HSB := hide hsb
                have HI4 := hide hI4
                have HGO := hide hgo
                have own4 := hI4.own
                unfold wwObj at own4
                have e3 : w4.cell? ⟨R, 3, none⟩ = some (.bool no2) := by simp [World.cell?, own4]
                have g3 : w4.frozen? ⟨R, 3, none⟩ = false := by simp [World.frozen?, own4]
                have hR4 : R < w4.heap.size := lt_of_cell e3
                have y2 : w4.cell? ⟨xb, 2, none⟩ = some (.string yd) := cell_of_row hK4 rfl
                have hlX4 := lt_of_cell y2
                simp only at hlX4
                have hosz : (out.size : Int) + b.size ≤ 16777000 := by
                  have h1 := HSZ.out
                  have h2 := HC.out.size
                  have h3 := pz_mono hx2 (Nat.le_refl _)
                  omega
                have HAP : Hid (∀ nn : Bool, nn = (no2 || decide (12 < dp + 1)) → ¬ (yd.size ≠ 0 ∧ b = yd) → WSeqAt E W R a c ta tc f (nd E.s i) dp r x u0 w0 (.string (out ++ b)) (.int .i64 ((k + 1 : Nat) : Int)) (w4.setCell ⟨R, 3, none⟩ (.bool nn))) := fun nn hnn hnb => by
                  refine ⟨k + 1, out ++ b, x2, nn, tu2, rfl, rfl, by omega, HF4.out.trans (FrW.set 3 _), HI4.out.setNo nn, hx2, ?_, ?_⟩
                  · rw [ByteArray.size_append]; have := HSZ.out; have := HSB.out; omega
                  · rcases HGO.out with ⟨h1, u2, h2, h3⟩ | ⟨h1, h2⟩
                    · rcases h3 with ⟨p1, p2, _⟩ | ⟨_, p1, p2⟩ | ⟨_, p1, p2⟩
                      · exact absurd ⟨p1, p2⟩ hnb
                      · right; rw [hnn, h1, decide_eq_true p1]; exact ⟨rfl, p2⟩
                      · left; rw [hnn, h1, decide_eq_false (show ¬ 12 < dp + 1 by omega)]; exact ⟨rfl, u2, h2, p2⟩
                    · right; rw [hnn, h1]; exact ⟨rfl, h2⟩
                clear ha4 hsb hI4 hgo own4 hK4 HCL HR1
                cases no2 with
                | true =>
                  go_wp2
                  go_roundw
                  case rel => exact HAP.out true rfl (fun h => h.1 hy0)
                  case measure => simp [intOf]; omega
                | false =>
                  by_cases hdd : 12 < dp + 1
                  · have hdb : decide (12 < dp + 1) = true := decide_eq_true hdd
                    go_wp2
                    go_roundw
                    case rel => exact HAP.out true (by rw [decide_eq_true (show 12 < dp + 1 by omega)]; rfl) (fun h => h.1 hy0)
                    case measure => simp [intOf]; omega
                  · have hdb : decide (12 < dp + 1) = false := decide_eq_false hdd
                    go_wp2
                    go_roundw
                    case rel => exact HAP.out false (by rw [decide_eq_false (show ¬ 12 < dp + 1 by omega)]; rfl) (fun h => h.1 hy0)
                    case measure => simp [intOf]; omega
              · have hde : yd.toList.isEmpty = false := emp_f (t := yd) (by omega)
                obtain ⟨r1, hrec, hr1⟩ : ∃ r1, wrF E f t x1 (1) = some r1 ∧ ((r1 = none ∧ r = none) ∨ ∃ b x' u', r1 = some (b, x', u') ∧ ((yd.size ≠ 0 ∧ b = yd ∧ wseqF E (wrF E f) dp ((nd E.s i).kids.drop (k + 1)) x' out (u1 || u') = some r) ∨ (¬ (yd.size ≠ 0 ∧ b = yd) ∧ 12 < dp + 1 ∧ r = none) ∨ (¬ (yd.size ≠ 0 ∧ b = yd) ∧ dp + 1 ≤ 12 ∧ wseqF E (wrF E f) dp ((nd E.s i).kids.drop (k + 1)) x' (out ++ b) (u1 || u') = some r))) := by
                  obtain ⟨r1, h1, h2⟩ := HSB.out
                  rw [if_neg hy0] at h1
                  exact ⟨r1, h1, h2⟩
                have HR1 := hide hr1
                have HCL := hide (HN.out t x1 (1) r1 tu w3 hrec htl hx1 (by omega) (by omega) HI3.out)
                clear hrec hr1 HSB
                go_wp2_with fail
                refine HCL.out.mono ?_
                rintro e w4 ha4
                have HF4 : Hid (FrW R w0 w4) := HF3.out.trans ha4.1
                have hK4 := ha4.1 _ _ hneX HK3.out
                obtain ⟨b, x2, no2, tu2, rfl, hsb, hx2, hI4, hgo⟩ : ∃ b x2 no2 tu2, e = .returned (.string b) ∧ b.size + pz E.t x1 ≤ pz E.t x2 ∧ x2 ≤ E.t.length ∧ WrD W w4 R a E.s.length c ta E.t.length tc x2 no2 tu2 ∧ ((no2 = false ∧ ∃ u2, tu2 = (u0 || u2) ∧ ((yd.size ≠ 0 ∧ b = yd ∧ wseqF E (wrF E f) dp ((nd E.s i).kids.drop (k + 1)) x2 out u2 = some r) ∨ (¬ (yd.size ≠ 0 ∧ b = yd) ∧ 12 < dp + 1 ∧ r = none) ∨ (¬ (yd.size ≠ 0 ∧ b = yd) ∧ dp + 1 ≤ 12 ∧ wseqF E (wrF E f) dp ((nd E.s i).kids.drop (k + 1)) x2 (out ++ b) u2 = some r))) ∨ (no2 = true ∧ r = none)) := by
                  rcases ha4.2 with ⟨b, x2, u2, hr, he, hsb, hx2, hI4⟩ | ⟨hr, b, x2, u2, he, hsb, hx2, hI4⟩
                  · refine ⟨b, x2, false, _, he, hsb, hx2, hI4, .inl ⟨rfl, u1 || u2, by rw [HTU.out, Bool.or_assoc], ?_⟩⟩
                    rcases HR1.out with ⟨q, _⟩ | ⟨b', x', u', q, h⟩
                    · rw [q] at hr; cases hr
                    · rw [q] at hr; cases hr; exact h
                  · refine ⟨b, x2, true, u2, he, hsb, hx2, hI4, .inr ⟨rfl, ?_⟩⟩
                    rcases HR1.out with ⟨_, q⟩ | ⟨b', x', u', q, _⟩
                    · exact q
                    · rw [q] at hr; cases hr
                have HSB := hide hsb
                have HI4 := hide hI4
                have HGO := hide hgo
                have own4 := hI4.own
                unfold wwObj at own4
                have e3 : w4.cell? ⟨R, 3, none⟩ = some (.bool no2) := by simp [World.cell?, own4]
                have g3 : w4.frozen? ⟨R, 3, none⟩ = false := by simp [World.frozen?, own4]
                have hR4 : R < w4.heap.size := lt_of_cell e3
                have y2 : w4.cell? ⟨xb, 2, none⟩ = some (.string yd) := cell_of_row hK4 rfl
                have hlX4 := lt_of_cell y2
                simp only at hlX4
                have hosz : (out.size : Int) + b.size ≤ 16777000 := by
                  have h1 := HSZ.out
                  have h2 := HC.out.size
                  have h3 := pz_mono hx2 (Nat.le_refl _)
                  omega
                have HAP : Hid (∀ nn : Bool, nn = (no2 || decide (12 < dp + 1)) → ¬ (yd.size ≠ 0 ∧ b = yd) → WSeqAt E W R a c ta tc f (nd E.s i) dp r x u0 w0 (.string (out ++ b)) (.int .i64 ((k + 1 : Nat) : Int)) (w4.setCell ⟨R, 3, none⟩ (.bool nn))) := fun nn hnn hnb => by
                  refine ⟨k + 1, out ++ b, x2, nn, tu2, rfl, rfl, by omega, HF4.out.trans (FrW.set 3 _), HI4.out.setNo nn, hx2, ?_, ?_⟩
                  · rw [ByteArray.size_append]; have := HSZ.out; have := HSB.out; omega
                  · rcases HGO.out with ⟨h1, u2, h2, h3⟩ | ⟨h1, h2⟩
                    · rcases h3 with ⟨p1, p2, _⟩ | ⟨_, p1, p2⟩ | ⟨_, p1, p2⟩
                      · exact absurd ⟨p1, p2⟩ hnb
                      · right; rw [hnn, h1, decide_eq_true p1]; exact ⟨rfl, p2⟩
                      · left; rw [hnn, h1, decide_eq_false (show ¬ 12 < dp + 1 by omega)]; exact ⟨rfl, u2, h2, p2⟩
                    · right; rw [hnn, h1]; exact ⟨rfl, h2⟩
                have HSK : Hid (b = yd → WSeqAt E W R a c ta tc f (nd E.s i) dp r x u0 w0 (.string out) (.int .i64 ((k + 1 : Nat) : Int)) w4) := fun hb => by
                  refine ⟨k + 1, out, x2, no2, tu2, rfl, rfl, by omega, HF4.out, HI4.out, hx2, by have := HSZ.out; have := HSB.out; omega, ?_⟩
                  rcases HGO.out with ⟨h1, u2, h2, h3⟩ | ⟨h1, h2⟩
                  · rcases h3 with ⟨p1, p2, p3⟩ | ⟨p0, _⟩ | ⟨p0, _⟩
                    · exact .inl ⟨h1, u2, h2, p3⟩
                    · exact absurd ⟨hy0, hb⟩ p0
                    · exact absurd ⟨hy0, hb⟩ p0
                  · exact .inr ⟨h1, h2⟩
                clear ha4 hsb hI4 hgo own4 hK4 HCL HR1
                by_cases hbd : b = yd
                · have HBD := hide hbd
                  have hbe : (b.toList == yd.toList) = true := by rw [hbd]; simp
                  clear hbd
                  go_wp2
                  go_roundw
                  case rel => exact HSK.out HBD.out
                  case measure => simp [intOf]; omega
                · have hbe : (b.toList == yd.toList) = false := by
                    rw [beq_eq_false_iff_ne]
                    intro q
                    rw [Lib.toList_data, Lib.toList_data] at q
                    exact hbd (ByteArray.ext (Array.ext' q))
                  have HBD := hide hbd
                  clear hbd
                  cases no2 with
                  | true =>
                    go_wp2
                    go_roundw
                    case rel => exact HAP.out true rfl (fun h => HBD.out h.2)
                    case measure => simp [intOf]; omega
                  | false =>
                    by_cases hdd : 12 < dp + 1
                    · have hdb : decide (12 < dp + 1) = true := decide_eq_true hdd
                      go_wp2
                      go_roundw
                      case rel => exact HAP.out true (by rw [decide_eq_true (show 12 < dp + 1 by omega)]; rfl) (fun h => HBD.out h.2)
                      case measure => simp [intOf]; omega
                    · have hdb : decide (12 < dp + 1) = false := decide_eq_false hdd
                      go_wp2
                      go_roundw
                      case rel => exact HAP.out false (by rw [decide_eq_false (show ¬ 12 < dp + 1 by omega)]; rfl) (fun h => HBD.out h.2)
                      case measure => simp [intOf]; omega
            | true =>
              by_cases hx3 : x1 < E.t.length
              · have hx3' : (x1 : Int) < E.t.length := by omega
                have hk15 : ¬ (vl E.t x1).kind = 15 := fun h => hno ⟨rfl, hx3, h⟩
                obtain ⟨g, o, hta, p0, _, _, _⟩ := HTR.out x1 hx3
                rw [hta] at s1
                have m0 : w2.cell? ⟨g, o + x1 * 4, none⟩ = some (.int .i64 (vl E.t x1).kind) := (HBW.out.cell (lt_of_cell p0)).trans p0
                clear p0 hno hta
                go_quiet (fail)
                have hI3 := HI2.out.below (below_drewN (Below.refl _ _) nq)
                have hK3 := block_below HK2.out (below_drewN (Below.refl _ _) nq)
                have hF3 := HF2.out.trans (FrW.of_below (below_drewN (Below.refl _ _) nq))
                generalize w2.drewN nq = w3 at hI3 hK3 hF3 ⊢
                have HI3 := hide hI3
                have HK3 := hide hK3
                have HF3 := hide hF3
                have z0 : w3.cell? ⟨xb, 0, none⟩ = some (.int .i64 (t : Int)) := cell_of_row hK3 rfl
                have z2 : w3.cell? ⟨xb, 2, none⟩ = some (.string yd) := cell_of_row hK3 rfl
                have hlX3 := lt_of_cell z0
                simp only at hlX3
                clear hI3 hK3 hF3 s1 s2 y0 y1 y2 hlX hR2
                by_cases hy0 : yd.size = 0
                · have hde : yd.toList.isEmpty = true := emp_t hy0
                  obtain ⟨r1, hrec, hr1⟩ : ∃ r1, wrF E f t x1 (dp + 1) = some r1 ∧ ((r1 = none ∧ r = none) ∨ ∃ b x' u', r1 = some (b, x', u') ∧ ((yd.size ≠ 0 ∧ b = yd ∧ wseqF E (wrF E f) dp ((nd E.s i).kids.drop (k + 1)) x' out (u1 || u') = some r) ∨ (¬ (yd.size ≠ 0 ∧ b = yd) ∧ 12 < dp + 1 ∧ r = none) ∨ (¬ (yd.size ≠ 0 ∧ b = yd) ∧ dp + 1 ≤ 12 ∧ wseqF E (wrF E f) dp ((nd E.s i).kids.drop (k + 1)) x' (out ++ b) (u1 || u') = some r))) := by
                    obtain ⟨r1, h1, h2⟩ := HSB.out
                    rw [if_pos hy0] at h1
                    exact ⟨r1, h1, h2⟩
                  have HR1 := hide hr1
                  have HCL := hide (HN.out t x1 (dp + 1) r1 tu w3 hrec htl hx1 (by omega) (by omega) HI3.out)
                  clear hrec hr1 HSB
                  go_wp2_with fail
                  refine HCL.out.mono ?_
                  rintro e w4 ha4
                  have HF4 : Hid (FrW R w0 w4) := HF3.out.trans ha4.1
                  have hK4 := ha4.1 _ _ hneX HK3.out
                  obtain ⟨b, x2, no2, tu2, rfl, hsb, hx2, hI4, hgo⟩ : ∃ b x2 no2 tu2, e = .returned (.string b) ∧ b.size + pz E.t x1 ≤ pz E.t x2 ∧ x2 ≤ E.t.length ∧ WrD W w4 R a E.s.length c ta E.t.length tc x2 no2 tu2 ∧ ((no2 = false ∧ ∃ u2, tu2 = (u0 || u2) ∧ ((yd.size ≠ 0 ∧ b = yd ∧ wseqF E (wrF E f) dp ((nd E.s i).kids.drop (k + 1)) x2 out u2 = some r) ∨ (¬ (yd.size ≠ 0 ∧ b = yd) ∧ 12 < dp + 1 ∧ r = none) ∨ (¬ (yd.size ≠ 0 ∧ b = yd) ∧ dp + 1 ≤ 12 ∧ wseqF E (wrF E f) dp ((nd E.s i).kids.drop (k + 1)) x2 (out ++ b) u2 = some r))) ∨ (no2 = true ∧ r = none)) := by
                    rcases ha4.2 with ⟨b, x2, u2, hr, he, hsb, hx2, hI4⟩ | ⟨hr, b, x2, u2, he, hsb, hx2, hI4⟩
                    · refine ⟨b, x2, false, _, he, hsb, hx2, hI4, .inl ⟨rfl, u1 || u2, by rw [HTU.out, Bool.or_assoc], ?_⟩⟩
                      rcases HR1.out with ⟨q, _⟩ | ⟨b', x', u', q, h⟩
                      · rw [q] at hr; cases hr
                      · rw [q] at hr; cases hr; exact h
                    · refine ⟨b, x2, true, u2, he, hsb, hx2, hI4, .inr ⟨rfl, ?_⟩⟩
                      rcases HR1.out with ⟨_, q⟩ | ⟨b', x', u', q, _⟩
                      · exact q
                      · rw [q] at hr; cases hr
                  have HSB := hide hsb
                  have HI4 := hide hI4
                  have HGO := hide hgo
                  have own4 := hI4.own
                  unfold wwObj at own4
                  have e3 : w4.cell? ⟨R, 3, none⟩ = some (.bool no2) := by simp [World.cell?, own4]
                  have g3 : w4.frozen? ⟨R, 3, none⟩ = false := by simp [World.frozen?, own4]
                  have hR4 : R < w4.heap.size := lt_of_cell e3
                  have y2 : w4.cell? ⟨xb, 2, none⟩ = some (.string yd) := cell_of_row hK4 rfl
                  have hlX4 := lt_of_cell y2
                  simp only at hlX4
                  have hosz : (out.size : Int) + b.size ≤ 16777000 := by
                    have h1 := HSZ.out
                    have h2 := HC.out.size
                    have h3 := pz_mono hx2 (Nat.le_refl _)
                    omega
                  have HAP : Hid (∀ nn : Bool, nn = (no2 || decide (12 < dp + 1)) → ¬ (yd.size ≠ 0 ∧ b = yd) → WSeqAt E W R a c ta tc f (nd E.s i) dp r x u0 w0 (.string (out ++ b)) (.int .i64 ((k + 1 : Nat) : Int)) (w4.setCell ⟨R, 3, none⟩ (.bool nn))) := fun nn hnn hnb => by
                    refine ⟨k + 1, out ++ b, x2, nn, tu2, rfl, rfl, by omega, HF4.out.trans (FrW.set 3 _), HI4.out.setNo nn, hx2, ?_, ?_⟩
                    · rw [ByteArray.size_append]; have := HSZ.out; have := HSB.out; omega
                    · rcases HGO.out with ⟨h1, u2, h2, h3⟩ | ⟨h1, h2⟩
                      · rcases h3 with ⟨p1, p2, _⟩ | ⟨_, p1, p2⟩ | ⟨_, p1, p2⟩
                        · exact absurd ⟨p1, p2⟩ hnb
                        · right; rw [hnn, h1, decide_eq_true p1]; exact ⟨rfl, p2⟩
                        · left; rw [hnn, h1, decide_eq_false (show ¬ 12 < dp + 1 by omega)]; exact ⟨rfl, u2, h2, p2⟩
                      · right; rw [hnn, h1]; exact ⟨rfl, h2⟩
                  clear ha4 hsb hI4 hgo own4 hK4 HCL HR1
                  cases no2 with
                  | true =>
                    go_wp2
                    go_roundw
                    case rel => exact HAP.out true rfl (fun h => h.1 hy0)
                    case measure => simp [intOf]; omega
                  | false =>
                    by_cases hdd : 12 < dp + 1
                    · have hdb : decide (12 < dp + 1) = true := decide_eq_true hdd
                      go_wp2
                      go_roundw
                      case rel => exact HAP.out true (by rw [decide_eq_true (show 12 < dp + 1 by omega)]; rfl) (fun h => h.1 hy0)
                      case measure => simp [intOf]; omega
                    · have hdb : decide (12 < dp + 1) = false := decide_eq_false hdd
                      go_wp2
                      go_roundw
                      case rel => exact HAP.out false (by rw [decide_eq_false (show ¬ 12 < dp + 1 by omega)]; rfl) (fun h => h.1 hy0)
                      case measure => simp [intOf]; omega
                · have hde : yd.toList.isEmpty = false := emp_f (t := yd) (by omega)
                  obtain ⟨r1, hrec, hr1⟩ : ∃ r1, wrF E f t x1 (1) = some r1 ∧ ((r1 = none ∧ r = none) ∨ ∃ b x' u', r1 = some (b, x', u') ∧ ((yd.size ≠ 0 ∧ b = yd ∧ wseqF E (wrF E f) dp ((nd E.s i).kids.drop (k + 1)) x' out (u1 || u') = some r) ∨ (¬ (yd.size ≠ 0 ∧ b = yd) ∧ 12 < dp + 1 ∧ r = none) ∨ (¬ (yd.size ≠ 0 ∧ b = yd) ∧ dp + 1 ≤ 12 ∧ wseqF E (wrF E f) dp ((nd E.s i).kids.drop (k + 1)) x' (out ++ b) (u1 || u') = some r))) := by
                    obtain ⟨r1, h1, h2⟩ := HSB.out
                    rw [if_neg hy0] at h1
                    exact ⟨r1, h1, h2⟩
                  have HR1 := hide hr1
                  have HCL := hide (HN.out t x1 (1) r1 tu w3 hrec htl hx1 (by omega) (by omega) HI3.out)
                  clear hrec hr1 HSB
                  go_wp2_with fail
                  refine HCL.out.mono ?_
                  rintro e w4 ha4
                  have HF4 : Hid (FrW R w0 w4) := HF3.out.trans ha4.1
                  have hK4 := ha4.1 _ _ hneX HK3.out
                  obtain ⟨b, x2, no2, tu2, rfl, hsb, hx2, hI4, hgo⟩ : ∃ b x2 no2 tu2, e = .returned (.string b) ∧ b.size + pz E.t x1 ≤ pz E.t x2 ∧ x2 ≤ E.t.length ∧ WrD W w4 R a E.s.length c ta E.t.length tc x2 no2 tu2 ∧ ((no2 = false ∧ ∃ u2, tu2 = (u0 || u2) ∧ ((yd.size ≠ 0 ∧ b = yd ∧ wseqF E (wrF E f) dp ((nd E.s i).kids.drop (k + 1)) x2 out u2 = some r) ∨ (¬ (yd.size ≠ 0 ∧ b = yd) ∧ 12 < dp + 1 ∧ r = none) ∨ (¬ (yd.size ≠ 0 ∧ b = yd) ∧ dp + 1 ≤ 12 ∧ wseqF E (wrF E f) dp ((nd E.s i).kids.drop (k + 1)) x2 (out ++ b) u2 = some r))) ∨ (no2 = true ∧ r = none)) := by
                    rcases ha4.2 with ⟨b, x2, u2, hr, he, hsb, hx2, hI4⟩ | ⟨hr, b, x2, u2, he, hsb, hx2, hI4⟩
                    · refine ⟨b, x2, false, _, he, hsb, hx2, hI4, .inl ⟨rfl, u1 || u2, by rw [HTU.out, Bool.or_assoc], ?_⟩⟩
                      rcases HR1.out with ⟨q, _⟩ | ⟨b', x', u', q, h⟩
                      · rw [q] at hr; cases hr
                      · rw [q] at hr; cases hr; exact h
                    · refine ⟨b, x2, true, u2, he, hsb, hx2, hI4, .inr ⟨rfl, ?_⟩⟩
                      rcases HR1.out with ⟨_, q⟩ | ⟨b', x', u', q, _⟩
                      · exact q
                      · rw [q] at hr; cases hr
                  have HSB := hide hsb
                  have HI4 := hide hI4
                  have HGO := hide hgo
                  have own4 := hI4.own
                  unfold wwObj at own4
                  have e3 : w4.cell? ⟨R, 3, none⟩ = some (.bool no2) := by simp [World.cell?, own4]
                  have g3 : w4.frozen? ⟨R, 3, none⟩ = false := by simp [World.frozen?, own4]
                  have hR4 : R < w4.heap.size := lt_of_cell e3
                  have y2 : w4.cell? ⟨xb, 2, none⟩ = some (.string yd) := cell_of_row hK4 rfl
                  have hlX4 := lt_of_cell y2
                  simp only at hlX4
                  have hosz : (out.size : Int) + b.size ≤ 16777000 := by
                    have h1 := HSZ.out
                    have h2 := HC.out.size
                    have h3 := pz_mono hx2 (Nat.le_refl _)
                    omega
                  have HAP : Hid (∀ nn : Bool, nn = (no2 || decide (12 < dp + 1)) → ¬ (yd.size ≠ 0 ∧ b = yd) → WSeqAt E W R a c ta tc f (nd E.s i) dp r x u0 w0 (.string (out ++ b)) (.int .i64 ((k + 1 : Nat) : Int)) (w4.setCell ⟨R, 3, none⟩ (.bool nn))) := fun nn hnn hnb => by
                    refine ⟨k + 1, out ++ b, x2, nn, tu2, rfl, rfl, by omega, HF4.out.trans (FrW.set 3 _), HI4.out.setNo nn, hx2, ?_, ?_⟩
                    · rw [ByteArray.size_append]; have := HSZ.out; have := HSB.out; omega
                    · rcases HGO.out with ⟨h1, u2, h2, h3⟩ | ⟨h1, h2⟩
                      · rcases h3 with ⟨p1, p2, _⟩ | ⟨_, p1, p2⟩ | ⟨_, p1, p2⟩
                        · exact absurd ⟨p1, p2⟩ hnb
                        · right; rw [hnn, h1, decide_eq_true p1]; exact ⟨rfl, p2⟩
                        · left; rw [hnn, h1, decide_eq_false (show ¬ 12 < dp + 1 by omega)]; exact ⟨rfl, u2, h2, p2⟩
                      · right; rw [hnn, h1]; exact ⟨rfl, h2⟩
                  have HSK : Hid (b = yd → WSeqAt E W R a c ta tc f (nd E.s i) dp r x u0 w0 (.string out) (.int .i64 ((k + 1 : Nat) : Int)) w4) := fun hb => by
                    refine ⟨k + 1, out, x2, no2, tu2, rfl, rfl, by omega, HF4.out, HI4.out, hx2, by have := HSZ.out; have := HSB.out; omega, ?_⟩
                    rcases HGO.out with ⟨h1, u2, h2, h3⟩ | ⟨h1, h2⟩
                    · rcases h3 with ⟨p1, p2, p3⟩ | ⟨p0, _⟩ | ⟨p0, _⟩
                      · exact .inl ⟨h1, u2, h2, p3⟩
                      · exact absurd ⟨hy0, hb⟩ p0
                      · exact absurd ⟨hy0, hb⟩ p0
                    · exact .inr ⟨h1, h2⟩
                  clear ha4 hsb hI4 hgo own4 hK4 HCL HR1
                  by_cases hbd : b = yd
                  · have HBD := hide hbd
                    have hbe : (b.toList == yd.toList) = true := by rw [hbd]; simp
                    clear hbd
                    go_wp2
                    go_roundw
                    case rel => exact HSK.out HBD.out
                    case measure => simp [intOf]; omega
                  · have hbe : (b.toList == yd.toList) = false := by
                      rw [beq_eq_false_iff_ne]
                      intro q
                      rw [Lib.toList_data, Lib.toList_data] at q
                      exact hbd (ByteArray.ext (Array.ext' q))
                    have HBD := hide hbd
                    clear hbd
                    cases no2 with
                    | true =>
                      go_wp2
                      go_roundw
                      case rel => exact HAP.out true rfl (fun h => HBD.out h.2)
                      case measure => simp [intOf]; omega
                    | false =>
                      by_cases hdd : 12 < dp + 1
                      · have hdb : decide (12 < dp + 1) = true := decide_eq_true hdd
                        go_wp2
                        go_roundw
                        case rel => exact HAP.out true (by rw [decide_eq_true (show 12 < dp + 1 by omega)]; rfl) (fun h => HBD.out h.2)
                        case measure => simp [intOf]; omega
                      · have hdb : decide (12 < dp + 1) = false := decide_eq_false hdd
                        go_wp2
                        go_roundw
                        case rel => exact HAP.out false (by rw [decide_eq_false (show ¬ 12 < dp + 1 by omega)]; rfl) (fun h => HBD.out h.2)
                        case measure => simp [intOf]; omega
              · have hx3' : (E.t.length : Int) ≤ x1 := by omega
                clear hno
                go_quiet (fail)
                have hI3 := HI2.out.below (below_drewN (Below.refl _ _) nq)
                have hK3 := block_below HK2.out (below_drewN (Below.refl _ _) nq)
                have hF3 := HF2.out.trans (FrW.of_below (below_drewN (Below.refl _ _) nq))
                generalize w2.drewN nq = w3 at hI3 hK3 hF3 ⊢
                have HI3 := hide hI3
                have HK3 := hide hK3
                have HF3 := hide hF3
                have z0 : w3.cell? ⟨xb, 0, none⟩ = some (.int .i64 (t : Int)) := cell_of_row hK3 rfl
                have z2 : w3.cell? ⟨xb, 2, none⟩ = some (.string yd) := cell_of_row hK3 rfl
                have hlX3 := lt_of_cell z0
                simp only at hlX3
                clear hI3 hK3 hF3 s1 s2 y0 y1 y2 hlX hR2
                by_cases hy0 : yd.size = 0
                · have hde : yd.toList.isEmpty = true := emp_t hy0
                  obtain ⟨r1, hrec, hr1⟩ : ∃ r1, wrF E f t x1 (dp + 1) = some r1 ∧ ((r1 = none ∧ r = none) ∨ ∃ b x' u', r1 = some (b, x', u') ∧ ((yd.size ≠ 0 ∧ b = yd ∧ wseqF E (wrF E f) dp ((nd E.s i).kids.drop (k + 1)) x' out (u1 || u') = some r) ∨ (¬ (yd.size ≠ 0 ∧ b = yd) ∧ 12 < dp + 1 ∧ r = none) ∨ (¬ (yd.size ≠ 0 ∧ b = yd) ∧ dp + 1 ≤ 12 ∧ wseqF E (wrF E f) dp ((nd E.s i).kids.drop (k + 1)) x' (out ++ b) (u1 || u') = some r))) := by
                    obtain ⟨r1, h1, h2⟩ := HSB.out
                    rw [if_pos hy0] at h1
                    exact ⟨r1, h1, h2⟩
                  have HR1 := hide hr1
                  have HCL := hide (HN.out t x1 (dp + 1) r1 tu w3 hrec htl hx1 (by omega) (by omega) HI3.out)
                  clear hrec hr1 HSB
                  go_wp2_with fail
                  refine HCL.out.mono ?_
                  rintro e w4 ha4
                  have HF4 : Hid (FrW R w0 w4) := HF3.out.trans ha4.1
                  have hK4 := ha4.1 _ _ hneX HK3.out
                  obtain ⟨b, x2, no2, tu2, rfl, hsb, hx2, hI4, hgo⟩ : ∃ b x2 no2 tu2, e = .returned (.string b) ∧ b.size + pz E.t x1 ≤ pz E.t x2 ∧ x2 ≤ E.t.length ∧ WrD W w4 R a E.s.length c ta E.t.length tc x2 no2 tu2 ∧ ((no2 = false ∧ ∃ u2, tu2 = (u0 || u2) ∧ ((yd.size ≠ 0 ∧ b = yd ∧ wseqF E (wrF E f) dp ((nd E.s i).kids.drop (k + 1)) x2 out u2 = some r) ∨ (¬ (yd.size ≠ 0 ∧ b = yd) ∧ 12 < dp + 1 ∧ r = none) ∨ (¬ (yd.size ≠ 0 ∧ b = yd) ∧ dp + 1 ≤ 12 ∧ wseqF E (wrF E f) dp ((nd E.s i).kids.drop (k + 1)) x2 (out ++ b) u2 = some r))) ∨ (no2 = true ∧ r = none)) := by
                    rcases ha4.2 with ⟨b, x2, u2, hr, he, hsb, hx2, hI4⟩ | ⟨hr, b, x2, u2, he, hsb, hx2, hI4⟩
                    · refine ⟨b, x2, false, _, he, hsb, hx2, hI4, .inl ⟨rfl, u1 || u2, by rw [HTU.out, Bool.or_assoc], ?_⟩⟩
                      rcases HR1.out with ⟨q, _⟩ | ⟨b', x', u', q, h⟩
                      · rw [q] at hr; cases hr
                      · rw [q] at hr; cases hr; exact h
                    · refine ⟨b, x2, true, u2, he, hsb, hx2, hI4, .inr ⟨rfl, ?_⟩⟩
                      rcases HR1.out with ⟨_, q⟩ | ⟨b', x', u', q, _⟩
                      · exact q
                      · rw [q] at hr; cases hr
                  have HSB := hide hsb
                  have HI4 := hide hI4
                  have HGO := hide hgo
                  have own4 := hI4.own
                  unfold wwObj at own4
                  have e3 : w4.cell? ⟨R, 3, none⟩ = some (.bool no2) := by simp [World.cell?, own4]
                  have g3 : w4.frozen? ⟨R, 3, none⟩ = false := by simp [World.frozen?, own4]
                  have hR4 : R < w4.heap.size := lt_of_cell e3
                  have y2 : w4.cell? ⟨xb, 2, none⟩ = some (.string yd) := cell_of_row hK4 rfl
                  have hlX4 := lt_of_cell y2
                  simp only at hlX4
                  have hosz : (out.size : Int) + b.size ≤ 16777000 := by
                    have h1 := HSZ.out
                    have h2 := HC.out.size
                    have h3 := pz_mono hx2 (Nat.le_refl _)
                    omega
                  have HAP : Hid (∀ nn : Bool, nn = (no2 || decide (12 < dp + 1)) → ¬ (yd.size ≠ 0 ∧ b = yd) → WSeqAt E W R a c ta tc f (nd E.s i) dp r x u0 w0 (.string (out ++ b)) (.int .i64 ((k + 1 : Nat) : Int)) (w4.setCell ⟨R, 3, none⟩ (.bool nn))) := fun nn hnn hnb => by
                    refine ⟨k + 1, out ++ b, x2, nn, tu2, rfl, rfl, by omega, HF4.out.trans (FrW.set 3 _), HI4.out.setNo nn, hx2, ?_, ?_⟩
                    · rw [ByteArray.size_append]; have := HSZ.out; have := HSB.out; omega
                    · rcases HGO.out with ⟨h1, u2, h2, h3⟩ | ⟨h1, h2⟩
                      · rcases h3 with ⟨p1, p2, _⟩ | ⟨_, p1, p2⟩ | ⟨_, p1, p2⟩
                        · exact absurd ⟨p1, p2⟩ hnb
                        · right; rw [hnn, h1, decide_eq_true p1]; exact ⟨rfl, p2⟩
                        · left; rw [hnn, h1, decide_eq_false (show ¬ 12 < dp + 1 by omega)]; exact ⟨rfl, u2, h2, p2⟩
                      · right; rw [hnn, h1]; exact ⟨rfl, h2⟩
                  clear ha4 hsb hI4 hgo own4 hK4 HCL HR1
                  cases no2 with
                  | true =>
                    go_wp2
                    go_roundw
                    case rel => exact HAP.out true rfl (fun h => h.1 hy0)
                    case measure => simp [intOf]; omega
                  | false =>
                    by_cases hdd : 12 < dp + 1
                    · have hdb : decide (12 < dp + 1) = true := decide_eq_true hdd
                      go_wp2
                      go_roundw
                      case rel => exact HAP.out true (by rw [decide_eq_true (show 12 < dp + 1 by omega)]; rfl) (fun h => h.1 hy0)
                      case measure => simp [intOf]; omega
                    · have hdb : decide (12 < dp + 1) = false := decide_eq_false hdd
                      go_wp2
                      go_roundw
                      case rel => exact HAP.out false (by rw [decide_eq_false (show ¬ 12 < dp + 1 by omega)]; rfl) (fun h => h.1 hy0)
                      case measure => simp [intOf]; omega
                · have hde : yd.toList.isEmpty = false := emp_f (t := yd) (by omega)
                  obtain ⟨r1, hrec, hr1⟩ : ∃ r1, wrF E f t x1 (1) = some r1 ∧ ((r1 = none ∧ r = none) ∨ ∃ b x' u', r1 = some (b, x', u') ∧ ((yd.size ≠ 0 ∧ b = yd ∧ wseqF E (wrF E f) dp ((nd E.s i).kids.drop (k + 1)) x' out (u1 || u') = some r) ∨ (¬ (yd.size ≠ 0 ∧ b = yd) ∧ 12 < dp + 1 ∧ r = none) ∨ (¬ (yd.size ≠ 0 ∧ b = yd) ∧ dp + 1 ≤ 12 ∧ wseqF E (wrF E f) dp ((nd E.s i).kids.drop (k + 1)) x' (out ++ b) (u1 || u') = some r))) := by
                    obtain ⟨r1, h1, h2⟩ := HSB.out
                    rw [if_neg hy0] at h1
                    exact ⟨r1, h1, h2⟩
                  have HR1 := hide hr1
                  have HCL := hide (HN.out t x1 (1) r1 tu w3 hrec htl hx1 (by omega) (by omega) HI3.out)
                  clear hrec hr1 HSB
                  go_wp2_with fail
                  refine HCL.out.mono ?_
                  rintro e w4 ha4
                  have HF4 : Hid (FrW R w0 w4) := HF3.out.trans ha4.1
                  have hK4 := ha4.1 _ _ hneX HK3.out
                  obtain ⟨b, x2, no2, tu2, rfl, hsb, hx2, hI4, hgo⟩ : ∃ b x2 no2 tu2, e = .returned (.string b) ∧ b.size + pz E.t x1 ≤ pz E.t x2 ∧ x2 ≤ E.t.length ∧ WrD W w4 R a E.s.length c ta E.t.length tc x2 no2 tu2 ∧ ((no2 = false ∧ ∃ u2, tu2 = (u0 || u2) ∧ ((yd.size ≠ 0 ∧ b = yd ∧ wseqF E (wrF E f) dp ((nd E.s i).kids.drop (k + 1)) x2 out u2 = some r) ∨ (¬ (yd.size ≠ 0 ∧ b = yd) ∧ 12 < dp + 1 ∧ r = none) ∨ (¬ (yd.size ≠ 0 ∧ b = yd) ∧ dp + 1 ≤ 12 ∧ wseqF E (wrF E f) dp ((nd E.s i).kids.drop (k + 1)) x2 (out ++ b) u2 = some r))) ∨ (no2 = true ∧ r = none)) := by
                    rcases ha4.2 with ⟨b, x2, u2, hr, he, hsb, hx2, hI4⟩ | ⟨hr, b, x2, u2, he, hsb, hx2, hI4⟩
                    · refine ⟨b, x2, false, _, he, hsb, hx2, hI4, .inl ⟨rfl, u1 || u2, by rw [HTU.out, Bool.or_assoc], ?_⟩⟩
                      rcases HR1.out with ⟨q, _⟩ | ⟨b', x', u', q, h⟩
                      · rw [q] at hr; cases hr
                      · rw [q] at hr; cases hr; exact h
                    · refine ⟨b, x2, true, u2, he, hsb, hx2, hI4, .inr ⟨rfl, ?_⟩⟩
                      rcases HR1.out with ⟨_, q⟩ | ⟨b', x', u', q, _⟩
                      · exact q
                      · rw [q] at hr; cases hr
                  have HSB := hide hsb
                  have HI4 := hide hI4
                  have HGO := hide hgo
                  have own4 := hI4.own
                  unfold wwObj at own4
                  have e3 : w4.cell? ⟨R, 3, none⟩ = some (.bool no2) := by simp [World.cell?, own4]
                  have g3 : w4.frozen? ⟨R, 3, none⟩ = false := by simp [World.frozen?, own4]
                  have hR4 : R < w4.heap.size := lt_of_cell e3
                  have y2 : w4.cell? ⟨xb, 2, none⟩ = some (.string yd) := cell_of_row hK4 rfl
                  have hlX4 := lt_of_cell y2
                  simp only at hlX4
                  have hosz : (out.size : Int) + b.size ≤ 16777000 := by
                    have h1 := HSZ.out
                    have h2 := HC.out.size
                    have h3 := pz_mono hx2 (Nat.le_refl _)
                    omega
                  have HAP : Hid (∀ nn : Bool, nn = (no2 || decide (12 < dp + 1)) → ¬ (yd.size ≠ 0 ∧ b = yd) → WSeqAt E W R a c ta tc f (nd E.s i) dp r x u0 w0 (.string (out ++ b)) (.int .i64 ((k + 1 : Nat) : Int)) (w4.setCell ⟨R, 3, none⟩ (.bool nn))) := fun nn hnn hnb => by
                    refine ⟨k + 1, out ++ b, x2, nn, tu2, rfl, rfl, by omega, HF4.out.trans (FrW.set 3 _), HI4.out.setNo nn, hx2, ?_, ?_⟩
                    · rw [ByteArray.size_append]; have := HSZ.out; have := HSB.out; omega
                    · rcases HGO.out with ⟨h1, u2, h2, h3⟩ | ⟨h1, h2⟩
                      · rcases h3 with ⟨p1, p2, _⟩ | ⟨_, p1, p2⟩ | ⟨_, p1, p2⟩
                        · exact absurd ⟨p1, p2⟩ hnb
                        · right; rw [hnn, h1, decide_eq_true p1]; exact ⟨rfl, p2⟩
                        · left; rw [hnn, h1, decide_eq_false (show ¬ 12 < dp + 1 by omega)]; exact ⟨rfl, u2, h2, p2⟩
                      · right; rw [hnn, h1]; exact ⟨rfl, h2⟩
                  have HSK : Hid (b = yd → WSeqAt E W R a c ta tc f (nd E.s i) dp r x u0 w0 (.string out) (.int .i64 ((k + 1 : Nat) : Int)) w4) := fun hb => by
                    refine ⟨k + 1, out, x2, no2, tu2, rfl, rfl, by omega, HF4.out, HI4.out, hx2, by have := HSZ.out; have := HSB.out; omega, ?_⟩
                    rcases HGO.out with ⟨h1, u2, h2, h3⟩ | ⟨h1, h2⟩
                    · rcases h3 with ⟨p1, p2, p3⟩ | ⟨p0, _⟩ | ⟨p0, _⟩
                      · exact .inl ⟨h1, u2, h2, p3⟩
                      · exact absurd ⟨hy0, hb⟩ p0
                      · exact absurd ⟨hy0, hb⟩ p0
                    · exact .inr ⟨h1, h2⟩
                  clear ha4 hsb hI4 hgo own4 hK4 HCL HR1
                  by_cases hbd : b = yd
                  · have HBD := hide hbd
                    have hbe : (b.toList == yd.toList) = true := by rw [hbd]; simp
                    clear hbd
                    go_wp2
                    go_roundw
                    case rel => exact HSK.out HBD.out
                    case measure => simp [intOf]; omega
                  · have hbe : (b.toList == yd.toList) = false := by
                      rw [beq_eq_false_iff_ne]
                      intro q
                      rw [Lib.toList_data, Lib.toList_data] at q
                      exact hbd (ByteArray.ext (Array.ext' q))
                    have HBD := hide hbd
                    clear hbd
                    cases no2 with
                    | true =>
                      go_wp2
                      go_roundw
                      case rel => exact HAP.out true rfl (fun h => HBD.out h.2)
                      case measure => simp [intOf]; omega
                    | false =>
                      by_cases hdd : 12 < dp + 1
                      · have hdb : decide (12 < dp + 1) = true := decide_eq_true hdd
                        go_wp2
                        go_roundw
                        case rel => exact HAP.out true (by rw [decide_eq_true (show 12 < dp + 1 by omega)]; rfl) (fun h => HBD.out h.2)
                        case measure => simp [intOf]; omega
                      · have hdb : decide (12 < dp + 1) = false := decide_eq_false hdd
                        go_wp2
                        go_roundw
                        case rel => exact HAP.out false (by rw [decide_eq_false (show ¬ 12 < dp + 1 by omega)]; rfl) (fun h => HBD.out h.2)
                        case measure => simp [intOf]; omega
        · have hlt' : ((nd E.s i).kids.length : Int) ≤ k := by omega
          have HE : Hid (r = some (out, x1, u1)) := by
            rw [List.drop_eq_nil_of_le (by omega)] at hmm
            exact (Option.some.inj hmm).symm
          clear hmm htu
          go_wp2
          go_ret
          refine ⟨(FrW.of_below HB0.out).trans HF.out, .inl ⟨out, x1, u1, HE.out, rfl, HSZ.out, hx1, ?_⟩⟩
          have := HI1.out
          rwa [HTU.out] at this
  · rw [if_neg q] at hm
    have HR : Hid (r = none) := (Option.some.inj hm).symm
    clear hm
    go_enter Tryz.func106, Tryz.ntmps106
    by_cases q1 : v.text.size = 0
    · have t1 := emp_t q1
      by_cases q2 : v.alt = 0
      · rw [q2]
        have q3 : ¬ v.kids = ((nd E.s i).kids.length : Int) := fun h => q ⟨q1, q2, h⟩
        clear q q1 q2
        go_wp2
        refine wp_loop_rounds 1 ?_
        rw [rounds_succ]
        by_cases hk0 : 0 < ((nd E.s i).kids.length : Int)
        · go_wp2
          go_ret
          exact HNO.out HR.out _ _
        · go_wp2
          go_ret
          exact HNO.out HR.out _ _
      · clear q q1
        go_wp2
        refine wp_loop_rounds 1 ?_
        rw [rounds_succ]
        by_cases hk0 : 0 < ((nd E.s i).kids.length : Int)
        · go_wp2
          go_ret
          exact HNO.out HR.out _ _
        · go_wp2
          go_ret
          exact HNO.out HR.out _ _
    · have t1 := emp_f (t := v.text) (by omega)
      clear q q1
      go_wp2
      refine wp_loop_rounds 1 ?_
      rw [rounds_succ]
      by_cases hk0 : 0 < ((nd E.s i).kids.length : Int)
      · go_wp2
        go_ret
        exact HNO.out HR.out _ _
      · go_wp2
        go_ret
        exact HNO.out HR.out _ _
end Go.Proofs.YtkkicodfpekbgaaGreatDoor

/-! The document's writer: node. -/
namespace Go.Proofs.YtkkicodfpekbgaaGreatDoor
set_option linter.unusedSimpArgs false
set_option linter.unusedVariables false
open Go.RowKit

theorem wnu_b {s : List Nd} (h : RightP s) {i : Nat} (hi : i < s.length) : 0 ≤ wcl (nd s i) ∧ wcl (nd s i) ≤ 3 ∧ 0 ≤ wnu (nd s i) ∧ wnu (nd s i) ≤ 30 := by
  have hk := kinds_of h.2.2.1 i hi
  have ht := (taggedOf h.2.2.1 i hi).2.1
  unfold wcl wnu
  split
  · rename_i q; omega
  · refine ⟨by decide, by decide, ?_⟩
    unfold own0
    split
    · omega
    · obtain ⟨k, hkk⟩ : ∃ k, (nd s i).kind = k := ⟨_, rfl⟩
      rw [hkk] at hk ⊢
      obtain rfl | rfl | rfl | rfl | rfl | rfl | rfl | rfl | rfl | rfl | rfl | rfl : k = 1 ∨ k = 2 ∨ k = 3 ∨ k = 4 ∨ k = 5 ∨ k = 6 ∨ k = 7 ∨ k = 8 ∨ k = 9 ∨ k = 10 ∨ k = 11 ∨ k = 12 := by omega
      all_goals decide
/-- What stands behind the kinds' own part. -/
def BareW (E : WEnv) (W : World) (R : Nat) (a : Option Addr) (c : Nat) (ta : Option Addr) (tc : Nat) (r : WOut) (x0 : Nat) (u0 : Bool) (w : World) (vs : Value) (w' : World) : Prop :=
  FrW R w w' ∧ ∃ b, vs = .string b ∧ ((∃ x u, r = some (b, x, u) ∧ b.size + pz E.t x0 + 5 ≤ pz E.t x ∧ x ≤ E.t.length ∧ WrD W w' R a E.s.length c ta E.t.length tc x false (u0 || u)) ∨
    (r = none ∧ ∃ x u, b.size + pz E.t x0 + 5 ≤ pz E.t x ∧ x ≤ E.t.length ∧ WrD W w' R a E.s.length c ta E.t.length tc x true u))

theorem AfterW.str {E : WEnv} {W : World} {R : Nat} {a : Option Addr} {c : Nat} {ta : Option Addr} {tc : Nat} {r : WOut} {x : Nat} {u0 : Bool} {w : World} {e : Ending} {w' : World} (h : AfterW E W R a c ta tc r x u0 w e w') : ∃ b, e = .returned (.string b) ∧ b.size ≤ pz E.t E.t.length := by
  rcases h.2 with ⟨b, x', u, _, he, hs, hx, _⟩ | ⟨_, b, x', u, he, hs, hx, _⟩
  · exact ⟨b, he, by have := pz_mono hx (Nat.le_refl _); omega⟩
  · exact ⟨b, he, by have := pz_mono hx (Nat.le_refl _); omega⟩
/-- A Choice's part. -/
theorem BareW.of_after {E : WEnv} {W : World} {R : Nat} {a : Option Addr} {c : Nat} {ta : Option Addr} {tc : Nat} {r : WOut} {x : Nat} {u0 : Bool} {w w1 : World} {b : ByteArray} {w' : World} (h : AfterW E W R a c ta tc r (x + 1) u0 w1 (.returned (.string b)) w') (hf : FrW R w w1) (hx : x < E.t.length) : BareW E W R a c ta tc r x u0 w (.string b) w' := by
  have hp := pz_succ hx
  refine ⟨hf.trans h.1, b, rfl, ?_⟩
  rcases h.2 with ⟨b', x', u, hr, he, hs, hx', hI⟩ | ⟨hr, b', x', u, he, hs, hx', hI⟩
  · injection he with he
    injection he with he
    subst he
    exact .inl ⟨x', u, hr, by omega, hx', hI⟩
  · injection he with he
    injection he with he
    subst he
    exact .inr ⟨hr, x', u, by omega, hx', hI⟩
/-- A part that is put into an element. -/
theorem BareW.of_el {E : WEnv} {W : World} {R : Nat} {a : Option Addr} {c : Nat} {ta : Option Addr} {tc : Nat} {r rb : WOut} {x : Nat} {u0 : Bool} {w w1 w2 : World} {b : ByteArray} {w' : World} {cl nu : Int} (h : AfterW E W R a c ta tc r (x + 1) u0 w1 (.returned (.string b)) w2) (hf : FrW R w w1) (hx : x < E.t.length) (hb : Below w2.heap.size w2 w')
    (hr : (r = none ∧ rb = none) ∨ ∃ b x' u, r = some (b, x', u) ∧ rb = some (elB cl true nu b, x', u)) : BareW E W R a c ta tc rb x u0 w (.string (elB cl true nu b)) w' := by
  have hp := pz_succ hx
  have hs5 := elB_size cl true nu b
  refine ⟨(hf.trans h.1).trans (FrW.of_below hb), _, rfl, ?_⟩
  rcases h.2 with ⟨b', x', u, hr1, he, hs, hx', hI⟩ | ⟨hr1, b', x', u, he, hs, hx', hI⟩
  · injection he with he
    injection he with he
    subst he
    rcases hr with ⟨q, _⟩ | ⟨b2, x2, u2, q, q2⟩
    · rw [q] at hr1; cases hr1
    · rw [q] at hr1
      cases hr1
      exact .inl ⟨x', u, q2, by omega, hx', hI.below hb⟩
  · injection he with he
    injection he with he
    subst he
    rcases hr with ⟨_, q⟩ | ⟨b2, x2, u2, q, q2⟩
    · exact .inr ⟨q, x', u, by omega, hx', hI.below hb⟩
    · rw [q] at hr1; cases hr1

theorem BareW.after0 {E : WEnv} {W : World} {R : Nat} {a : Option Addr} {c : Nat} {ta : Option Addr} {tc : Nat} {r rb : WOut} {x : Nat} {u0 : Bool} {w : World} {b : ByteArray} {w' : World} {n : Nd} (h : BareW E W R a c ta tc rb x u0 w (.string b) w') (hm : ¬ n.mode = 1)
    (hr : (rb = none ∧ r = none) ∨ ∃ b x' u, rb = some (b, x', u) ∧ r = some (if n.mode = 1 then elB 2 true n.tag b else b, x', u)) : AfterW E W R a c ta tc r x u0 w (.returned (.string b)) w' := by
  obtain ⟨h1, b', hb, h2⟩ := h
  injection hb with hb
  subst hb
  refine ⟨h1, ?_⟩
  rcases h2 with ⟨x', u, q1, q2, q3, q4⟩ | ⟨q1, x', u, q2, q3, q4⟩
  · rcases hr with ⟨p, _⟩ | ⟨b2, x2, u2, p, p2⟩
    · rw [p] at q1; cases q1
    · rw [p] at q1
      cases q1
      rw [if_neg hm] at p2
      exact .inl ⟨b, x', u, p2, rfl, by omega, q3, q4⟩
  · rcases hr with ⟨_, p⟩ | ⟨b2, x2, u2, p, p2⟩
    · exact .inr ⟨p, b, x', u, rfl, by omega, q3, q4⟩
    · rw [p] at q1; cases q1
theorem BareW.after1 {E : WEnv} {W : World} {R : Nat} {a : Option Addr} {c : Nat} {ta : Option Addr} {tc : Nat} {r rb : WOut} {x : Nat} {u0 : Bool} {w : World} {b : ByteArray} {w1 w' : World} {n : Nd} (h : BareW E W R a c ta tc rb x u0 w (.string b) w1) (hm : n.mode = 1) (hb : Below w1.heap.size w1 w')
    (hr : (rb = none ∧ r = none) ∨ ∃ b x' u, rb = some (b, x', u) ∧ r = some (if n.mode = 1 then elB 2 true n.tag b else b, x', u)) : AfterW E W R a c ta tc r x u0 w (.returned (.string (elB 2 true n.tag b))) w' := by
  have hs5 := elB_size 2 true n.tag b
  obtain ⟨h1, b', hbb, h2⟩ := h
  injection hbb with hbb
  subst hbb
  refine ⟨h1.trans (FrW.of_below hb), ?_⟩
  rcases h2 with ⟨x', u, q1, q2, q3, q4⟩ | ⟨q1, x', u, q2, q3, q4⟩
  · rcases hr with ⟨p, _⟩ | ⟨b2, x2, u2, p, p2⟩
    · rw [p] at q1; cases q1
    · rw [p] at q1
      cases q1
      rw [if_pos hm] at p2
      exact .inl ⟨_, x', u, p2, rfl, by omega, q3, q4.below hb⟩
  · rcases hr with ⟨_, p⟩ | ⟨b2, x2, u2, p, p2⟩
    · exact .inr ⟨p, _, x', u, rfl, by omega, q3, q4.below hb⟩
    · rw [p] at q1; cases q1

set_option maxHeartbeats 4000000 in
set_option maxRecDepth 100000 in
theorem wnode_step (E : WEnv) (W : World) (R : Nat) (a : Option Addr) (c : Nat) (ta : Option Addr) (tc f : Nat) (hc : WC E W a ta) (htc : E.t.length ≤ tc) (hN : NodeW E W R a c ta tc f) : NodeW E W R a c ta tc (f + 1) := by
  intro i x dp r u0 w hm hi hx hd1 hd2 hI
  rw [wrF] at hm
  have HC := hide hc
  have HN := hide hN
  have HI := hide hI
  have hb := wnu_b hc.right hi
  have htl63 : (E.t.length : Int) ≤ 16777000 := by have := hc.size; unfold pz at this; omega
  obtain ⟨ab, ao, ka, kc, rfl, nc, hkc, hkm, hka⟩ := hc.sch i hi
  have own0' := hI.own
  unfold wwObj at own0'
  have c0 : w.cell? ⟨R, 0, none⟩ = some (.slice (some ⟨ab, ao, none⟩) E.s.length c) := by simp [World.cell?, own0']
  have c1 : w.cell? ⟨R, 1, none⟩ = some (.slice ta E.t.length tc) := by simp [World.cell?, own0']
  have c2 : w.cell? ⟨R, 2, none⟩ = some (.int .i64 (x : Int)) := by simp [World.cell?, own0']
  have c3 : w.cell? ⟨R, 3, none⟩ = some (.bool false) := by simp [World.cell?, own0']
  have f3 : w.frozen? ⟨R, 3, none⟩ = false := by simp [World.frozen?, own0']
  have hRl : R < w.heap.size := lt_of_cell c3
  obtain ⟨n0, n1, n2, n3⟩ := nc.below hI.bel
  have hlA := lt_of_cell n0
  simp only at hlA
  have hi' : (i : Int) < E.s.length := by omega
  have hs40 := hc.right.fine.len
  have HKA := hide hka
  have HB := hide hb
  clear hc hN hI nc hka own0' hb
  go_enter Tryz.func71, Tryz.ntmps71
  go_wp2_with fail
  have hG1 : (w.alloc (.cells #[.int .i64 (nd E.s i).kind, .int .i64 (nd E.s i).tag, .int .i64 (nd E.s i).mode, .slice ka (nd E.s i).kids.length kc] 58)).heap[w.heap.size]? = some (.cells #[.int .i64 (nd E.s i).kind, .int .i64 (nd E.s i).tag, .int .i64 (nd E.s i).mode, .slice ka (nd E.s i).kids.length kc] 58 (0, 0)) := heap_alloc_new w _
  have hB1 : Below w.heap.size w (w.alloc (.cells #[.int .i64 (nd E.s i).kind, .int .i64 (nd E.s i).tag, .int .i64 (nd E.s i).mode, .slice ka (nd E.s i).kids.length kc] 58)) := (Below.refl _ _).alloc (Nat.le_refl _) _
  obtain ⟨nb, hnb⟩ : ∃ nb, w.heap.size = nb := ⟨_, rfl⟩
  have hneN : nb ≠ R := by omega
  rw [hnb] at hG1
  rw [hnb]
  generalize w.alloc (.cells #[.int .i64 (nd E.s i).kind, .int .i64 (nd E.s i).tag, .int .i64 (nd E.s i).mode, .slice ka (nd E.s i).kids.length kc] 58) = w1 at hG1 hB1 ⊢
  have hI1 := HI.out.below hB1
  have HI1 := hide hI1
  have HG1 := hide hG1
  have HF1 : Hid (FrW R w w1) := FrW.of_below hB1
  have own1 := hI1.own
  unfold wwObj at own1
  have e1 : w1.cell? ⟨R, 1, none⟩ = some (.slice ta E.t.length tc) := by simp [World.cell?, own1]
  have e2 : w1.cell? ⟨R, 2, none⟩ = some (.int .i64 (x : Int)) := by simp [World.cell?, own1]
  have e3 : w1.cell? ⟨R, 3, none⟩ = some (.bool false) := by simp [World.cell?, own1]
  have g3 : w1.frozen? ⟨R, 3, none⟩ = false := by simp [World.frozen?, own1]
  have k0 : w1.cell? ⟨nb, 0, none⟩ = some (.int .i64 (nd E.s i).kind) := cell_of_row hG1 rfl
  have hR1 : R < w1.heap.size := lt_of_cell e1
  have hlN : nb < w1.heap.size := row_lt hG1
  have HNO : Hid (∀ wq, Below w1.heap.size w1 wq → r = none → AfterW E W R (some ⟨ab, ao, none⟩) c ta tc r x u0 w (.returned (.string ⟨#[]⟩)) (wq.setCell ⟨R, 3, none⟩ (.bool true))) := fun wq hq hr =>
    ⟨(HF1.out.trans (FrW.of_below hq)).trans (FrW.set 3 _), .inr ⟨hr, ⟨#[]⟩, x, u0, rfl, by show 0 + pz E.t x ≤ pz E.t x; omega, hx, (HI1.out.below hq).setNo true⟩⟩
  clear hG1 hI1 own1 c0 c1 c2 c3 f3 n0 n1 n2 n3 hlA hRl hnb
  have hbW := HI1.out.bel
  have HBW := hide hbW
  clear hbW hB1
  by_cases hx3 : x < E.t.length
  · have hx3' : (x : Int) < E.t.length := by omega
    obtain ⟨g, o, hta, p0, p1, p2, p3⟩ := HC.out.tree x hx3
    have m0 : w1.cell? ⟨g, o + x * 4, none⟩ = some (.int .i64 (vl E.t x).kind) := (HBW.out.cell (lt_of_cell p0)).trans p0
    have m1 : w1.cell? ⟨g, o + x * 4 + 1, none⟩ = some (.string (vl E.t x).text) := (HBW.out.cell (lt_of_cell p1)).trans p1
    have m2 : w1.cell? ⟨g, o + x * 4 + 2, none⟩ = some (.int .i64 (vl E.t x).alt) := (HBW.out.cell (lt_of_cell p2)).trans p2
    have m3 : w1.cell? ⟨g, o + x * 4 + 3, none⟩ = some (.int .i64 (vl E.t x).kids) := (HBW.out.cell (lt_of_cell p3)).trans p3
    rw [hta] at e1
    clear p0 p1 p2 p3 hta
    by_cases hkd : (vl E.t x).kind = (nd E.s i).kind
    · by_cases hdp : dp ≤ 12
      · rw [if_pos ⟨hx3, hkd, hdp⟩] at hm
        have HM := hide hm
        have HKD := hide hkd
        rw [hkd] at m0
        clear hm hkd
        go_quiet (fail)
        have hI2 := HI1.out.below (below_drewN (Below.refl _ _) nq)
        have hG2 := block_below HG1.out (below_drewN (Below.refl _ _) nq)
        have hF2 := HF1.out.trans (FrW.of_below (below_drewN (Below.refl _ _) nq))
        have e1' : (w1.drewN nq).cell? ⟨R, 1, none⟩ = some (.slice (some ⟨g, o, none⟩) E.t.length tc) := by simpa using e1
        have e2' : (w1.drewN nq).cell? ⟨R, 2, none⟩ = some (.int .i64 (x : Int)) := by simpa using e2
        have e3' : (w1.drewN nq).cell? ⟨R, 3, none⟩ = some (.bool false) := by simpa using e3
        have m0' : (w1.drewN nq).cell? ⟨g, o + x * 4, none⟩ = some (.int .i64 (nd E.s i).kind) := by simpa using m0
        have m1' : (w1.drewN nq).cell? ⟨g, o + x * 4 + 1, none⟩ = some (.string (vl E.t x).text) := by simpa using m1
        have m2' : (w1.drewN nq).cell? ⟨g, o + x * 4 + 2, none⟩ = some (.int .i64 (vl E.t x).alt) := by simpa using m2
        have m3' : (w1.drewN nq).cell? ⟨g, o + x * 4 + 3, none⟩ = some (.int .i64 (vl E.t x).kids) := by simpa using m3
        generalize w1.drewN nq = w2 at hI2 hG2 hF2 e1' e2' e3' m0' m1' m2' m3' ⊢
        have HI2 := hide hI2
        have HG2 := hide hG2
        have HF2 := hide hF2
        have hR2 : R < w2.heap.size := lt_of_cell e1'
        have hlG2 := lt_of_cell m0'
        simp only at hlG2
        clear hI2 hG2 hF2 e1 e2 e3 g3 k0 hR1 hlN m0 m1 m2 m3 HI1 HF1 HG1 HNO
        go_wp2_with fail
        go_region_held_law (fun w' => w'.cell? ⟨R, 1, none⟩ = some (.slice (some ⟨g, o, none⟩) E.t.length tc) ∧ w'.cell? ⟨R, 2, none⟩ = some (.int .i64 (x : Int)) ∧ w'.cell? ⟨g, o + x * 4, none⟩ = some (.int .i64 (nd E.s i).kind) ∧ w'.cell? ⟨g, o + x * 4 + 1, none⟩ = some (.string (vl E.t x).text) ∧ w'.cell? ⟨g, o + x * 4 + 2, none⟩ = some (.int .i64 (vl E.t x).alt) ∧ w'.cell? ⟨g, o + x * 4 + 3, none⟩ = some (.int .i64 (vl E.t x).kids)) (go_keep) (fail)
        rename_i hHeld
        clear hHeld
        have hB3 : Below w2.heap.size w2 (w2.alloc (.cells #[.int .i64 (nd E.s i).kind, .string (vl E.t x).text, .int .i64 (vl E.t x).alt, .int .i64 (vl E.t x).kids] 60)).drew := ((Below.refl _ _).alloc (Nat.le_refl _) _).drew
        have hX3 : (w2.alloc (.cells #[.int .i64 (nd E.s i).kind, .string (vl E.t x).text, .int .i64 (vl E.t x).alt, .int .i64 (vl E.t x).kids] 60)).drew.heap[w2.heap.size]? = some (.cells #[.int .i64 (nd E.s i).kind, .string (vl E.t x).text, .int .i64 (vl E.t x).alt, .int .i64 (vl E.t x).kids] 60 (0, 0)) := heap_alloc_new w2 _
        generalize hvb : w2.heap.size = vb at hX3 ⊢
        generalize (w2.alloc (.cells #[.int .i64 (nd E.s i).kind, .string (vl E.t x).text, .int .i64 (vl E.t x).alt, .int .i64 (vl E.t x).kids] 60)).drew = w3 at hB3 hX3 ⊢
        have hI3 := HI2.out.below hB3
        have HI3 := hide hI3
        have hG3 := block_below HG2.out hB3
        have HF3 : Hid (FrW R w w3) := HF2.out.trans (FrW.of_below hB3)
        have hneV : vb ≠ R := by omega
        have own3 := hI3.own
        unfold wwObj at own3
        have d2 : w3.cell? ⟨R, 2, none⟩ = some (.int .i64 (x : Int)) := by simp [World.cell?, own3]
        have h2 : w3.frozen? ⟨R, 2, none⟩ = false := by simp [World.frozen?, own3]
        have hR3 : R < w3.heap.size := lt_of_cell d2
        have hI4 := hI3.setAt (x + 1)
        have hF4 := HF3.out.trans (FrW.set (R := R) (w := w3) 2 (.int .i64 ((x + 1 : Nat) : Int)))
        have hG4 : (w3.setCell ⟨R, 2, none⟩ (.int .i64 ((x + 1 : Nat) : Int))).heap[nb]? = _ := (FrW.set (R := R) (w := w3) 2 (.int .i64 ((x + 1 : Nat) : Int))) nb _ hneN hG3
        have hX4 : (w3.setCell ⟨R, 2, none⟩ (.int .i64 ((x + 1 : Nat) : Int))).heap[vb]? = _ := (FrW.set (R := R) (w := w3) 2 (.int .i64 ((x + 1 : Nat) : Int))) vb _ hneV hX3
        have hcast : ((x + 1 : Nat) : Int) = (x : Int) + 1 := by omega
        rw [hcast] at hI4 hF4 hG4 hX4
        have HI4 := hide hI4
        have HF4 := hide hF4
        have HG4 := hide hG4
        have HX4 := hide hX4
        clear hI3 hG3 own3 hX3 hB3 hvb hI4 hF4 hG4 hX4 hcast e1' e2' e3' m0' m1' m2' m3' hlG2 HI2 HG2 HF2 hR2
        have HOW : Hid (∀ wq, Calls Tryz.prog 103 #[.int .i64 (nd E.s i).kind] wq fun e w' => e = .returned (.int .i64 (own0 (nd E.s i).kind)) ∧ Below wq.heap.size wq w') := fun wq => own0_all _ (by have := kinds_of HC.out.right.2.2.1 i hi; omega) wq
        go_upto_region 9 with fail
        generalize w3.setCell ⟨R, 2, none⟩ (.int .i64 ((x : Int) + 1)) = w4 at HI4 HF4 HG4 HX4 ⊢
        clear d2 h2 hR3 HI3 HF3
        have hG4 := HG4.out
        have hX4 := HX4.out
        have k0 : w4.cell? ⟨nb, 0, none⟩ = some (.int .i64 (nd E.s i).kind) := cell_of_row hG4 rfl
        have hlN0 := lt_of_cell k0
        simp only at hlN0
        clear hG4 hX4
        go_wp2_with fail
        refine (HOW.out _).mono ?_
        rintro e w5 ⟨rfl, hb5⟩
        have HI5 := hide (HI4.out.below hb5)
        have HF5 : Hid (FrW R w w5) := HF4.out.trans (FrW.of_below hb5)
        have hG5 := block_below HG4.out hb5
        have hX5 := block_below HX4.out hb5
        have HG5 := hide hG5
        have HX5 := hide hX5
        clear hb5 k0 hlN0 HI4 HF4 HG4 HX4 HOW
        have k0 : w5.cell? ⟨nb, 0, none⟩ = some (.int .i64 (nd E.s i).kind) := cell_of_row hG5 rfl
        have k1 : w5.cell? ⟨nb, 1, none⟩ = some (.int .i64 (nd E.s i).tag) := cell_of_row hG5 rfl
        have k2 : w5.cell? ⟨nb, 2, none⟩ = some (.int .i64 (nd E.s i).mode) := cell_of_row hG5 rfl
        have k3 : w5.cell? ⟨nb, 3, none⟩ = some (.slice ka (nd E.s i).kids.length kc) := cell_of_row hG5 rfl
        have v0 : w5.cell? ⟨vb, 0, none⟩ = some (.int .i64 (nd E.s i).kind) := cell_of_row hX5 rfl
        have v1 : w5.cell? ⟨vb, 1, none⟩ = some (.string (vl E.t x).text) := cell_of_row hX5 rfl
        have v2 : w5.cell? ⟨vb, 2, none⟩ = some (.int .i64 (vl E.t x).alt) := cell_of_row hX5 rfl
        have v3 : w5.cell? ⟨vb, 3, none⟩ = some (.int .i64 (vl E.t x).kids) := cell_of_row hX5 rfl
        have hlN := lt_of_cell k0
        have hlV := lt_of_cell v0
        simp only at hlN hlV
        clear hG5 hX5
        go_upto_region 10 with fail
        go_cut [88] (fun vq wx => vq = .bool (decide (0 ≤ (nd E.s i).tag ∧ (nd E.s i).mode = 0)) ∧ wx = w5)
        case first =>
          by_cases ht : 0 ≤ (nd E.s i).tag
          · by_cases hmo : (nd E.s i).mode = 0
            · have HQ : Hid (decide (0 ≤ (nd E.s i).tag ∧ (nd E.s i).mode = 0) = true) := decide_eq_true ⟨ht, hmo⟩
              rw [hmo] at k2
              clear hmo
              go_wp2_with fail
              go_meet
              exact ⟨by rw [HQ.out], rfl⟩
            · have hmb2 : ((nd E.s i).mode == 0) = false := by simpa using hmo
              have HQ : Hid (decide (0 ≤ (nd E.s i).tag ∧ (nd E.s i).mode = 0) = false) := decide_eq_false (fun h => hmo h.2)
              go_wp2_with fail
              go_meet
              exact ⟨by rw [HQ.out], rfl⟩
          · have htb : decide (0 ≤ (nd E.s i).tag) = false := decide_eq_false ht
            have HQ : Hid (decide (0 ≤ (nd E.s i).tag ∧ (nd E.s i).mode = 0) = false) := decide_eq_false (fun h => ht h.1)
            go_wp2_with fail
            go_meet
            exact ⟨by rw [HQ.out], rfl⟩
        case rest =>
         obtain ⟨rfl, hw⟩ := hcut
         obtain rfl : w5 = wc := hw.symm
         clear hw
         go_upto_if 88 with fail
         go_cut [9, 10] (fun vc vn wx => vc = .int .i64 (wcl (nd E.s i)) ∧ vn = .int .i64 (wnu (nd E.s i)) ∧ wx = w5)
         case first =>
          by_cases hq : 0 ≤ (nd E.s i).tag ∧ (nd E.s i).mode = 0
          · have HQ1 : Hid (wcl (nd E.s i) = 2) := by show wcl (nd E.s i) = 2; unfold wcl; rw [if_pos hq]
            have HQ2 : Hid (wnu (nd E.s i) = (nd E.s i).tag) := by show wnu (nd E.s i) = _; unfold wnu; rw [if_pos hq]
            rw [decide_eq_true hq]
            clear hq
            go_wp2_with fail
            go_meet
            exact ⟨by rw [HQ1.out], by rw [HQ2.out], rfl⟩
          · have HQ1 : Hid (wcl (nd E.s i) = 0) := by show wcl (nd E.s i) = 0; unfold wcl; rw [if_neg hq]
            have HQ2 : Hid (wnu (nd E.s i) = own0 (nd E.s i).kind) := by show wnu (nd E.s i) = _; unfold wnu; rw [if_neg hq]
            rw [decide_eq_false hq]
            clear hq
            go_wp2_with fail
            go_meet
            exact ⟨by rw [HQ1.out], by rw [HQ2.out], rfl⟩
         case rest =>
          obtain ⟨rfl, rfl, hw⟩ := hcut
          obtain rfl : w5 = wc := hw.symm
          clear hw
          obtain ⟨rb, hrb, hr⟩ : ∃ rb, wbareF E (wrF E f) f (nd E.s i) (wcl (nd E.s i)) (wnu (nd E.s i)) (vl E.t x) (x + 1) dp = some rb ∧ ((rb = none ∧ r = none) ∨ ∃ b x' u, rb = some (b, x', u) ∧ r = some (if (nd E.s i).mode = 1 then elB 2 true (nd E.s i).tag b else b, x', u)) := by
            rcases wandThen_cases HM.out with ⟨h1, h2⟩ | ⟨b, x', u, h1, h2⟩
            · exact ⟨none, h1, .inl ⟨rfl, h2⟩⟩
            · exact ⟨_, h1, .inr ⟨b, x', u, rfl, (Option.some.inj h2).symm⟩⟩
          have HRB := hide hrb
          have HR := hide hr
          have hps := pz_succ hx3
          have HPS := hide hps
          have htx : (vl E.t x).text.size ≤ 16777000 := by
            have h1 := HC.out.size
            have h2 := pz_mono (t := E.t) (x := x + 1) hx3 (Nat.le_refl _)
            omega
          obtain ⟨b1, b2, b3, b4⟩ := HB.out
          have HEL : Hid (∀ b s wq, s.size ≤ 16777215 → Calls Tryz.prog 83 #[.int .i64 (wcl (nd E.s i)), .bool b, .int .i64 (wnu (nd E.s i)), .string s] wq fun e w' => e = .returned (.string (elB (wcl (nd E.s i)) b (wnu (nd E.s i)) s)) ∧ Below wq.heap.size wq w') := fun b s wq hs => element_any _ b _ s wq b1 b2 b3 b4 hs
          clear hrb hr hps b1 b2 b3 b4 HM
          have HE2 : Hid (∀ s wq, (nd E.s i).mode = 1 → s.size ≤ 16777215 → Calls Tryz.prog 83 #[.int .i64 2, .bool true, .int .i64 (nd E.s i).tag, .string s] wq fun e w' => e = .returned (.string (elB 2 true (nd E.s i).tag s)) ∧ Below wq.heap.size wq w') := fun s wq hmo hs => element_any 2 true _ s wq (by decide) (by decide) (by have h := taggedOf HC.out.right.2.2.1 i hi; unfold Tagged at h; omega) (by have h := taggedOf HC.out.right.2.2.1 i hi; unfold Tagged at h; omega) hs

          by_cases h13 : (nd E.s i).kind = 13
          · have HCH : Hid (Calls Tryz.prog 104 #[.pointer (some ⟨R, 0, none⟩), .agg #[.int .i64 13, .int .i64 (nd E.s i).tag, .int .i64 (nd E.s i).mode, .slice ka (nd E.s i).kids.length kc], .agg #[.int .i64 13, .string (vl E.t x).text, .int .i64 (vl E.t x).alt, .int .i64 (vl E.t x).kids], .int .i64 dp] w5 fun e w' => AfterW E W R (some ⟨ab, ao, none⟩) c ta tc rb (x + 1) u0 w5 e w') := by
              have h := wchoice_any E W R _ c ta tc f HC.out HN.out i hi ka kc HKA.out hkc ⟨(nd E.s i).kind, (vl E.t x).text, (vl E.t x).alt, (vl E.t x).kids⟩ (x + 1) dp rb u0 w5 (by have := HRB.out; unfold wbareF at this; rw [if_pos h13] at this; exact this) hx3 hd1 hd2 HI5.out
              unfold ndC vlCells at h
              rw [h13] at h
              exact h
            rw [h13] at k0 v0
            clear h13
            go_wp2_with fail
            refine HCH.out.mono ?_
            rintro e w6 ha6
            obtain ⟨b, rfl, _⟩ := ha6.str
            have HBW2 := hide (BareW.of_after ha6 HF5.out hx3)
            have HG6 := hide (ha6.1 _ _ hneN HG5.out)
            clear ha6
            have kk2 : w6.cell? ⟨nb, 2, none⟩ = some (.int .i64 (nd E.s i).mode) := cell_of_row HG6.out rfl
            have kk1 : w6.cell? ⟨nb, 1, none⟩ = some (.int .i64 (nd E.s i).tag) := cell_of_row HG6.out rfl
            have hlN7 := lt_of_cell kk1
            simp only at hlN7
            have hbz : (b).size ≤ 16777215 := by
              obtain ⟨_, b', hb', hc'⟩ := HBW2.out
              injection hb' with hb'
              rw [hb']
              have h1 := HC.out.size
              rcases hc' with ⟨x', _, _, q2, q3, _⟩ | ⟨_, x', _, q2, q3, _⟩
              · have := pz_mono q3 (Nat.le_refl _); omega
              · have := pz_mono q3 (Nat.le_refl _); omega
            by_cases hmo : (nd E.s i).mode = 1
            · have HMO := hide hmo
              rw [hmo] at kk2
              clear hmo
              go_wp2_with fail
              refine (HE2.out _ _ HMO.out hbz).mono ?_
              rintro e w8 ⟨rfl, hb8⟩
              have HB8 := hide hb8
              clear hb8
              go_wp2
              go_ret
              exact HBW2.out.after1 HMO.out HB8.out HR.out
            · have HMO := hide hmo
              have hmb : ((nd E.s i).mode == 1) = false := by simpa using hmo
              clear hmo
              go_wp2
              go_ret
              exact HBW2.out.after0 HMO.out HR.out
          by_cases h14 : (nd E.s i).kind = 14
          · have HRA : Hid ((((hd (vl E.t x).text).1 = 0 ∧ (hd (vl E.t x).text).2.s + (hd (vl E.t x).text).2.l = (vl E.t x).text.size ∧ (vl E.t x).alt = 0 ∧ (vl E.t x).kids = 0) ∧ rb = some ((vl E.t x).text, x + 1, false)) ∨ (¬ ((hd (vl E.t x).text).1 = 0 ∧ (hd (vl E.t x).text).2.s + (hd (vl E.t x).text).2.l = (vl E.t x).text.size ∧ (vl E.t x).alt = 0 ∧ (vl E.t x).kids = 0) ∧ rb = none)) := by
              have h := HRB.out
              unfold wbareF at h
              rw [if_neg h13, if_pos h14] at h
              split at h
              · rename_i q; exact .inl ⟨q, (Option.some.inj h).symm⟩
              · rename_i q; exact .inr ⟨q, (Option.some.inj h).symm⟩
            have HHD := hide (rHead_any (vl E.t x).text w5 (by omega))
            unfold hv at HHD
            rw [h14] at k0 v0
            clear h13 h14
            go_wp2_with fail
            refine HHD.out.mono ?_
            rintro e w6 ⟨rfl, hb6⟩
            have hI6 := HI5.out.below hb6
            have hX6 := block_below HX5.out hb6
            have HG6 := hide (block_below HG5.out hb6)
            have HF6 : Hid (FrW R w w6) := HF5.out.trans (FrW.of_below hb6)
            have own6 := hI6.own
            unfold wwObj at own6
            have e3 : w6.cell? ⟨R, 3, none⟩ = some (.bool false) := by simp [World.cell?, own6]
            have g3 : w6.frozen? ⟨R, 3, none⟩ = false := by simp [World.frozen?, own6]
            have hR6 : R < w6.heap.size := lt_of_cell e3
            have y1 : w6.cell? ⟨vb, 1, none⟩ = some (.string (vl E.t x).text) := cell_of_row hX6 rfl
            have y2 : w6.cell? ⟨vb, 2, none⟩ = some (.int .i64 (vl E.t x).alt) := cell_of_row hX6 rfl
            have y3 : w6.cell? ⟨vb, 3, none⟩ = some (.int .i64 (vl E.t x).kids) := cell_of_row hX6 rfl
            have hlV6 := lt_of_cell y1
            simp only at hlV6
            have HAN : Hid (∀ nn : Bool, nn = (!decide ((hd (vl E.t x).text).1 = 0 ∧ (hd (vl E.t x).text).2.s + (hd (vl E.t x).text).2.l = (vl E.t x).text.size ∧ (vl E.t x).alt = 0 ∧ (vl E.t x).kids = 0)) → ∀ A, BareW E W R (some ⟨ab, ao, none⟩) c ta tc rb x u0 w (.string (vl E.t x).text) ((w6.setCell ⟨R, 3, none⟩ (.bool nn)).alloc A) ∧ ((w6.setCell ⟨R, 3, none⟩ (.bool nn)).alloc A).heap[nb]? = some (.cells #[.int .i64 (nd E.s i).kind, .int .i64 (nd E.s i).tag, .int .i64 (nd E.s i).mode, .slice ka (nd E.s i).kids.length kc] 58 (0, 0))) := fun nn hnn A => by
              have hb : Below (w6.setCell ⟨R, 3, none⟩ (.bool nn)).heap.size (w6.setCell ⟨R, 3, none⟩ (.bool nn)) ((w6.setCell ⟨R, 3, none⟩ (.bool nn)).alloc A) := (Below.refl _ _).alloc (Nat.le_refl _) A
              refine ⟨⟨(HF6.out.trans (FrW.set 3 _)).trans (FrW.of_below hb), _, rfl, ?_⟩, block_below ((FrW.set (R := R) (w := w6) 3 (.bool nn)) nb _ hneN HG6.out) hb⟩
              have hI7 := (hI6.setNo nn).below hb
              have hp := HPS.out
              rcases HRA.out with ⟨q, q2⟩ | ⟨q, q2⟩
              · left
                rw [hnn, decide_eq_true q] at hI7
                refine ⟨x + 1, false, q2, by omega, hx3, ?_⟩
                rw [hnn, decide_eq_true q, Bool.or_false]
                exact hI7
              · right
                rw [hnn, decide_eq_false q] at hI7
                refine ⟨q2, x + 1, u0, by omega, hx3, ?_⟩
                rw [hnn, decide_eq_false q]
                exact hI7
            clear hb6 hI6 hX6 own6 HHD k0 k1 k2 k3 v0 v1 v2 v3
            by_cases q1 : (hd (vl E.t x).text).1 = 0
            · have hok := hd_ok q1
              have HQ1 := hide q1
              by_cases q2 : (hd (vl E.t x).text).2.s + (hd (vl E.t x).text).2.l = (vl E.t x).text.size
              · have HQ2 := hide q2
                by_cases q3 : (vl E.t x).alt = 0
                · have HQ3 := hide q3
                  rw [q3] at y2
                  by_cases q4 : (vl E.t x).kids = 0
                  · have HQ4 := hide q4
                    rw [q4] at y3
                    clear q3 q4
                    have HQ : Hid (false = (!decide ((hd (vl E.t x).text).1 = 0 ∧ (hd (vl E.t x).text).2.s + (hd (vl E.t x).text).2.l = (vl E.t x).text.size ∧ (vl E.t x).alt = 0 ∧ (vl E.t x).kids = 0))) := by show false = _; rw [decide_eq_true ⟨HQ1.out, HQ2.out, HQ3.out, HQ4.out⟩]; rfl
                    go_upto_region 31 with fail
                    obtain ⟨hBW2, hG7⟩ := HAN.out false HQ.out (.cells #[.int .i64 (hd (vl E.t x).text).2.c, .bool (hd (vl E.t x).text).2.b, .int .i64 (hd (vl E.t x).text).2.n, .int .i64 (hd (vl E.t x).text).2.s, .int .i64 (hd (vl E.t x).text).2.l] 179)
                    generalize (w6.setCell ⟨R, 3, none⟩ (.bool false)).alloc (.cells #[.int .i64 (hd (vl E.t x).text).2.c, .bool (hd (vl E.t x).text).2.b, .int .i64 (hd (vl E.t x).text).2.n, .int .i64 (hd (vl E.t x).text).2.s, .int .i64 (hd (vl E.t x).text).2.l] 179) = w7 at hBW2 hG7 ⊢
                    have HBW2 := hide hBW2
                    have HG7 := hide hG7
                    clear hBW2 hG7
                    have kk2 : w7.cell? ⟨nb, 2, none⟩ = some (.int .i64 (nd E.s i).mode) := cell_of_row HG7.out rfl
                    have kk1 : w7.cell? ⟨nb, 1, none⟩ = some (.int .i64 (nd E.s i).tag) := cell_of_row HG7.out rfl
                    have hlN7 := lt_of_cell kk1
                    simp only at hlN7
                    have hbz : ((vl E.t x).text).size ≤ 16777215 := by
                      obtain ⟨_, b', hb', hc'⟩ := HBW2.out
                      injection hb' with hb'
                      rw [hb']
                      have h1 := HC.out.size
                      rcases hc' with ⟨x', _, _, q2, q3, _⟩ | ⟨_, x', _, q2, q3, _⟩
                      · have := pz_mono q3 (Nat.le_refl _); omega
                      · have := pz_mono q3 (Nat.le_refl _); omega
                    by_cases hmo : (nd E.s i).mode = 1
                    · have HMO := hide hmo
                      rw [hmo] at kk2
                      clear hmo
                      go_wp2_with fail
                      refine (HE2.out _ _ HMO.out hbz).mono ?_
                      rintro e w8 ⟨rfl, hb8⟩
                      have HB8 := hide hb8
                      clear hb8
                      go_wp2
                      go_ret
                      exact HBW2.out.after1 HMO.out HB8.out HR.out
                    · have HMO := hide hmo
                      have hmb : ((nd E.s i).mode == 1) = false := by simpa using hmo
                      clear hmo
                      go_wp2
                      go_ret
                      exact HBW2.out.after0 HMO.out HR.out
                  · have HQ4 := hide q4
                    have q4b : ((vl E.t x).kids != 0) = true := by simpa using q4
                    clear q3
                    have HQ : Hid (true = (!decide ((hd (vl E.t x).text).1 = 0 ∧ (hd (vl E.t x).text).2.s + (hd (vl E.t x).text).2.l = (vl E.t x).text.size ∧ (vl E.t x).alt = 0 ∧ (vl E.t x).kids = 0))) := by show true = _; rw [decide_eq_false (fun h => HQ4.out h.2.2.2)]; rfl
                    go_upto_region 31 with fail
                    obtain ⟨hBW2, hG7⟩ := HAN.out true HQ.out (.cells #[.int .i64 (hd (vl E.t x).text).2.c, .bool (hd (vl E.t x).text).2.b, .int .i64 (hd (vl E.t x).text).2.n, .int .i64 (hd (vl E.t x).text).2.s, .int .i64 (hd (vl E.t x).text).2.l] 179)
                    generalize (w6.setCell ⟨R, 3, none⟩ (.bool true)).alloc (.cells #[.int .i64 (hd (vl E.t x).text).2.c, .bool (hd (vl E.t x).text).2.b, .int .i64 (hd (vl E.t x).text).2.n, .int .i64 (hd (vl E.t x).text).2.s, .int .i64 (hd (vl E.t x).text).2.l] 179) = w7 at hBW2 hG7 ⊢
                    have HBW2 := hide hBW2
                    have HG7 := hide hG7
                    clear hBW2 hG7
                    have kk2 : w7.cell? ⟨nb, 2, none⟩ = some (.int .i64 (nd E.s i).mode) := cell_of_row HG7.out rfl
                    have kk1 : w7.cell? ⟨nb, 1, none⟩ = some (.int .i64 (nd E.s i).tag) := cell_of_row HG7.out rfl
                    have hlN7 := lt_of_cell kk1
                    simp only at hlN7
                    have hbz : ((vl E.t x).text).size ≤ 16777215 := by
                      obtain ⟨_, b', hb', hc'⟩ := HBW2.out
                      injection hb' with hb'
                      rw [hb']
                      have h1 := HC.out.size
                      rcases hc' with ⟨x', _, _, q2, q3, _⟩ | ⟨_, x', _, q2, q3, _⟩
                      · have := pz_mono q3 (Nat.le_refl _); omega
                      · have := pz_mono q3 (Nat.le_refl _); omega
                    by_cases hmo : (nd E.s i).mode = 1
                    · have HMO := hide hmo
                      rw [hmo] at kk2
                      clear hmo
                      go_wp2_with fail
                      refine (HE2.out _ _ HMO.out hbz).mono ?_
                      rintro e w8 ⟨rfl, hb8⟩
                      have HB8 := hide hb8
                      clear hb8
                      go_wp2
                      go_ret
                      exact HBW2.out.after1 HMO.out HB8.out HR.out
                    · have HMO := hide hmo
                      have hmb : ((nd E.s i).mode == 1) = false := by simpa using hmo
                      clear hmo
                      go_wp2
                      go_ret
                      exact HBW2.out.after0 HMO.out HR.out
                · have HQ3 := hide q3
                  have q3b : ((vl E.t x).alt != 0) = true := by simpa using q3
                  have HQ : Hid (true = (!decide ((hd (vl E.t x).text).1 = 0 ∧ (hd (vl E.t x).text).2.s + (hd (vl E.t x).text).2.l = (vl E.t x).text.size ∧ (vl E.t x).alt = 0 ∧ (vl E.t x).kids = 0))) := by show true = _; rw [decide_eq_false (fun h => HQ3.out h.2.2.1)]; rfl
                  go_upto_region 31 with fail
                  obtain ⟨hBW2, hG7⟩ := HAN.out true HQ.out (.cells #[.int .i64 (hd (vl E.t x).text).2.c, .bool (hd (vl E.t x).text).2.b, .int .i64 (hd (vl E.t x).text).2.n, .int .i64 (hd (vl E.t x).text).2.s, .int .i64 (hd (vl E.t x).text).2.l] 179)
                  generalize (w6.setCell ⟨R, 3, none⟩ (.bool true)).alloc (.cells #[.int .i64 (hd (vl E.t x).text).2.c, .bool (hd (vl E.t x).text).2.b, .int .i64 (hd (vl E.t x).text).2.n, .int .i64 (hd (vl E.t x).text).2.s, .int .i64 (hd (vl E.t x).text).2.l] 179) = w7 at hBW2 hG7 ⊢
                  have HBW2 := hide hBW2
                  have HG7 := hide hG7
                  clear hBW2 hG7
                  have kk2 : w7.cell? ⟨nb, 2, none⟩ = some (.int .i64 (nd E.s i).mode) := cell_of_row HG7.out rfl
                  have kk1 : w7.cell? ⟨nb, 1, none⟩ = some (.int .i64 (nd E.s i).tag) := cell_of_row HG7.out rfl
                  have hlN7 := lt_of_cell kk1
                  simp only at hlN7
                  have hbz : ((vl E.t x).text).size ≤ 16777215 := by
                    obtain ⟨_, b', hb', hc'⟩ := HBW2.out
                    injection hb' with hb'
                    rw [hb']
                    have h1 := HC.out.size
                    rcases hc' with ⟨x', _, _, q2, q3, _⟩ | ⟨_, x', _, q2, q3, _⟩
                    · have := pz_mono q3 (Nat.le_refl _); omega
                    · have := pz_mono q3 (Nat.le_refl _); omega
                  by_cases hmo : (nd E.s i).mode = 1
                  · have HMO := hide hmo
                    rw [hmo] at kk2
                    clear hmo
                    go_wp2_with fail
                    refine (HE2.out _ _ HMO.out hbz).mono ?_
                    rintro e w8 ⟨rfl, hb8⟩
                    have HB8 := hide hb8
                    clear hb8
                    go_wp2
                    go_ret
                    exact HBW2.out.after1 HMO.out HB8.out HR.out
                  · have HMO := hide hmo
                    have hmb : ((nd E.s i).mode == 1) = false := by simpa using hmo
                    clear hmo
                    go_wp2
                    go_ret
                    exact HBW2.out.after0 HMO.out HR.out
              · have HQ2 := hide q2
                have q2b : ((hd (vl E.t x).text).2.s + (hd (vl E.t x).text).2.l != ((vl E.t x).text.size : Int)) = true := by simpa using q2
                have HQ : Hid (true = (!decide ((hd (vl E.t x).text).1 = 0 ∧ (hd (vl E.t x).text).2.s + (hd (vl E.t x).text).2.l = (vl E.t x).text.size ∧ (vl E.t x).alt = 0 ∧ (vl E.t x).kids = 0))) := by show true = _; rw [decide_eq_false (fun h => HQ2.out h.2.1)]; rfl
                go_upto_region 31 with fail
                obtain ⟨hBW2, hG7⟩ := HAN.out true HQ.out (.cells #[.int .i64 (hd (vl E.t x).text).2.c, .bool (hd (vl E.t x).text).2.b, .int .i64 (hd (vl E.t x).text).2.n, .int .i64 (hd (vl E.t x).text).2.s, .int .i64 (hd (vl E.t x).text).2.l] 179)
                generalize (w6.setCell ⟨R, 3, none⟩ (.bool true)).alloc (.cells #[.int .i64 (hd (vl E.t x).text).2.c, .bool (hd (vl E.t x).text).2.b, .int .i64 (hd (vl E.t x).text).2.n, .int .i64 (hd (vl E.t x).text).2.s, .int .i64 (hd (vl E.t x).text).2.l] 179) = w7 at hBW2 hG7 ⊢
                have HBW2 := hide hBW2
                have HG7 := hide hG7
                clear hBW2 hG7
                have kk2 : w7.cell? ⟨nb, 2, none⟩ = some (.int .i64 (nd E.s i).mode) := cell_of_row HG7.out rfl
                have kk1 : w7.cell? ⟨nb, 1, none⟩ = some (.int .i64 (nd E.s i).tag) := cell_of_row HG7.out rfl
                have hlN7 := lt_of_cell kk1
                simp only at hlN7
                have hbz : ((vl E.t x).text).size ≤ 16777215 := by
                  obtain ⟨_, b', hb', hc'⟩ := HBW2.out
                  injection hb' with hb'
                  rw [hb']
                  have h1 := HC.out.size
                  rcases hc' with ⟨x', _, _, q2, q3, _⟩ | ⟨_, x', _, q2, q3, _⟩
                  · have := pz_mono q3 (Nat.le_refl _); omega
                  · have := pz_mono q3 (Nat.le_refl _); omega
                by_cases hmo : (nd E.s i).mode = 1
                · have HMO := hide hmo
                  rw [hmo] at kk2
                  clear hmo
                  go_wp2_with fail
                  refine (HE2.out _ _ HMO.out hbz).mono ?_
                  rintro e w8 ⟨rfl, hb8⟩
                  have HB8 := hide hb8
                  clear hb8
                  go_wp2
                  go_ret
                  exact HBW2.out.after1 HMO.out HB8.out HR.out
                · have HMO := hide hmo
                  have hmb : ((nd E.s i).mode == 1) = false := by simpa using hmo
                  clear hmo
                  go_wp2
                  go_ret
                  exact HBW2.out.after0 HMO.out HR.out
            · have HQ1 := hide q1
              have q1b : ((hd (vl E.t x).text).1 != 0) = true := by simpa using q1
              have HQ : Hid (true = (!decide ((hd (vl E.t x).text).1 = 0 ∧ (hd (vl E.t x).text).2.s + (hd (vl E.t x).text).2.l = (vl E.t x).text.size ∧ (vl E.t x).alt = 0 ∧ (vl E.t x).kids = 0))) := by show true = _; rw [decide_eq_false (fun h => HQ1.out h.1)]; rfl
              go_upto_region 31 with fail
              obtain ⟨hBW2, hG7⟩ := HAN.out true HQ.out (.cells #[.int .i64 (hd (vl E.t x).text).2.c, .bool (hd (vl E.t x).text).2.b, .int .i64 (hd (vl E.t x).text).2.n, .int .i64 (hd (vl E.t x).text).2.s, .int .i64 (hd (vl E.t x).text).2.l] 179)
              generalize (w6.setCell ⟨R, 3, none⟩ (.bool true)).alloc (.cells #[.int .i64 (hd (vl E.t x).text).2.c, .bool (hd (vl E.t x).text).2.b, .int .i64 (hd (vl E.t x).text).2.n, .int .i64 (hd (vl E.t x).text).2.s, .int .i64 (hd (vl E.t x).text).2.l] 179) = w7 at hBW2 hG7 ⊢
              have HBW2 := hide hBW2
              have HG7 := hide hG7
              clear hBW2 hG7
              have kk2 : w7.cell? ⟨nb, 2, none⟩ = some (.int .i64 (nd E.s i).mode) := cell_of_row HG7.out rfl
              have kk1 : w7.cell? ⟨nb, 1, none⟩ = some (.int .i64 (nd E.s i).tag) := cell_of_row HG7.out rfl
              have hlN7 := lt_of_cell kk1
              simp only at hlN7
              have hbz : ((vl E.t x).text).size ≤ 16777215 := by
                obtain ⟨_, b', hb', hc'⟩ := HBW2.out
                injection hb' with hb'
                rw [hb']
                have h1 := HC.out.size
                rcases hc' with ⟨x', _, _, q2, q3, _⟩ | ⟨_, x', _, q2, q3, _⟩
                · have := pz_mono q3 (Nat.le_refl _); omega
                · have := pz_mono q3 (Nat.le_refl _); omega
              by_cases hmo : (nd E.s i).mode = 1
              · have HMO := hide hmo
                rw [hmo] at kk2
                clear hmo
                go_wp2_with fail
                refine (HE2.out _ _ HMO.out hbz).mono ?_
                rintro e w8 ⟨rfl, hb8⟩
                have HB8 := hide hb8
                clear hb8
                go_wp2
                go_ret
                exact HBW2.out.after1 HMO.out HB8.out HR.out
              · have HMO := hide hmo
                have hmb : ((nd E.s i).mode == 1) = false := by simpa using hmo
                clear hmo
                go_wp2
                go_ret
                exact HBW2.out.after0 HMO.out HR.out
          by_cases h10 : (nd E.s i).kind = 10
          · obtain ⟨rs, hrs, hre⟩ : ∃ rs, (if (vl E.t x).text.size = 0 ∧ (vl E.t x).alt = 0 ∧ (vl E.t x).kids = (nd E.s i).kids.length then wseqF E (wrF E f) dp (nd E.s i).kids (x + 1) noB false else some none) = some rs ∧ ((rs = none ∧ rb = none) ∨ ∃ b x' u, rs = some (b, x', u) ∧ rb = some (elB (wcl (nd E.s i)) true (wnu (nd E.s i)) b, x', u)) := by
              have h := HRB.out
              unfold wbareF at h
              rw [if_neg h13, if_neg h14, if_pos h10] at h
              split at h
              · rename_i q
                rw [if_pos q]
                rcases wandThen_cases h with ⟨h1, h2⟩ | ⟨b, x', u, h1, h2⟩
                · exact ⟨none, h1, .inl ⟨rfl, h2⟩⟩
                · exact ⟨_, h1, .inr ⟨b, x', u, rfl, (Option.some.inj h2).symm⟩⟩
              · rename_i q
                rw [if_neg q]
                exact ⟨none, rfl, .inl ⟨rfl, (Option.some.inj h).symm⟩⟩
            have HSQ : Hid (Calls Tryz.prog 106 #[.pointer (some ⟨R, 0, none⟩), .agg #[.int .i64 10, .int .i64 (nd E.s i).tag, .int .i64 (nd E.s i).mode, .slice ka (nd E.s i).kids.length kc], .agg #[.int .i64 10, .string (vl E.t x).text, .int .i64 (vl E.t x).alt, .int .i64 (vl E.t x).kids], .int .i64 dp] w5 fun e w' => AfterW E W R (some ⟨ab, ao, none⟩) c ta tc rs (x + 1) u0 w5 e w') := by
              have h := wseq_any E W R _ c ta tc f HC.out HN.out i hi ka kc HKA.out hkc ⟨(nd E.s i).kind, (vl E.t x).text, (vl E.t x).alt, (vl E.t x).kids⟩ (x + 1) dp rs u0 w5 hrs hx3 hd1 hdp htc HI5.out
              unfold ndC vlCells at h
              rw [h10] at h
              exact h
            have HRE := hide hre
            rw [h10] at k0 v0
            clear h10 h13 h14 hrs hre
            go_wp2_with fail
            refine HSQ.out.mono ?_
            rintro e w6 ha6
            obtain ⟨b, rfl, hbs⟩ := ha6.str
            have HA6 := hide ha6
            have HG6 := hide (ha6.1 _ _ hneN HG5.out)
            have hbs' : b.size ≤ 16777215 := by have := HC.out.size; omega
            clear ha6 hbs
            go_wp2_with fail
            refine (HEL.out true b _ hbs').mono ?_
            rintro e w7 ⟨rfl, hb7⟩
            have HBW2 := hide (BareW.of_el HA6.out HF5.out hx3 hb7 HRE.out)
            have HG7 := hide (block_below HG6.out hb7)
            clear hb7
            have kk2 : w7.cell? ⟨nb, 2, none⟩ = some (.int .i64 (nd E.s i).mode) := cell_of_row HG7.out rfl
            have kk1 : w7.cell? ⟨nb, 1, none⟩ = some (.int .i64 (nd E.s i).tag) := cell_of_row HG7.out rfl
            have hlN7 := lt_of_cell kk1
            simp only at hlN7
            have hbz : (elB (wcl (nd E.s i)) true (wnu (nd E.s i)) b).size ≤ 16777215 := by
              obtain ⟨_, b', hb', hc'⟩ := HBW2.out
              injection hb' with hb'
              rw [hb']
              have h1 := HC.out.size
              rcases hc' with ⟨x', _, _, q2, q3, _⟩ | ⟨_, x', _, q2, q3, _⟩
              · have := pz_mono q3 (Nat.le_refl _); omega
              · have := pz_mono q3 (Nat.le_refl _); omega
            by_cases hmo : (nd E.s i).mode = 1
            · have HMO := hide hmo
              rw [hmo] at kk2
              clear hmo
              go_wp2_with fail
              refine (HE2.out _ _ HMO.out hbz).mono ?_
              rintro e w8 ⟨rfl, hb8⟩
              have HB8 := hide hb8
              clear hb8
              go_wp2
              go_ret
              exact HBW2.out.after1 HMO.out HB8.out HR.out
            · have HMO := hide hmo
              have hmb : ((nd E.s i).mode == 1) = false := by simpa using hmo
              clear hmo
              go_wp2
              go_ret
              exact HBW2.out.after0 HMO.out HR.out
          by_cases h12 : (nd E.s i).kind = 11 ∨ (nd E.s i).kind = 12
          · obtain ⟨rs, hrs, hre⟩ : ∃ rs, (if (vl E.t x).text.size = 0 ∧ (vl E.t x).alt = 0 ∧ 0 ≤ (vl E.t x).kids then wmanyF E (wrF E f) (decide ((nd E.s i).kind = 12)) (kd (nd E.s i) 0).node.toNat (dp + 1) f (vl E.t x).kids (x + 1) noB noB false else some none) = some rs ∧ ((rs = none ∧ rb = none) ∨ ∃ b x' u, rs = some (b, x', u) ∧ rb = some (elB (wcl (nd E.s i)) true (wnu (nd E.s i)) b, x', u)) := by
              have h := HRB.out
              unfold wbareF at h
              rw [if_neg h13, if_neg h14, if_neg h10, if_pos (by omega)] at h
              split at h
              · rename_i q
                rw [if_pos q]
                rcases wandThen_cases h with ⟨h1, h2⟩ | ⟨b, x', u, h1, h2⟩
                · exact ⟨none, h1, .inl ⟨rfl, h2⟩⟩
                · exact ⟨_, h1, .inr ⟨b, x', u, rfl, (Option.some.inj h2).symm⟩⟩
              · rename_i q
                rw [if_neg q]
                exact ⟨none, rfl, .inl ⟨rfl, (Option.some.inj h).symm⟩⟩
            have HMY := hide (wmany_any E W R _ c ta tc f HC.out HN.out i hi h12 ka kc HKA.out hkc ⟨(nd E.s i).kind, (vl E.t x).text, (vl E.t x).alt, (vl E.t x).kids⟩ (x + 1) dp rs u0 w5 hrs hx3 (HC.out.kids x hx3) hd1 hdp HI5.out)
            have HRE := hide hre
            obtain ⟨K, hK⟩ : ∃ K, (nd E.s i).kind = K := ⟨_, rfl⟩
            have HK := hide hK
            unfold ndC vlCells at HMY
            rw [hK] at HMY k0 v0 h12
            clear hK h10 h13 h14 hrs hre
            rcases h12 with rfl | rfl
            all_goals
              go_wp2_with fail
              refine HMY.out.mono ?_
              rintro e w6 ha6
              obtain ⟨b, rfl, hbs⟩ := ha6.str
              have HA6 := hide ha6
              have HG6 := hide (ha6.1 _ _ hneN HG5.out)
              have hbs' : b.size ≤ 16777215 := by have := HC.out.size; omega
              clear ha6 hbs
              go_wp2_with fail
              refine (HEL.out true b _ hbs').mono ?_
              rintro e w7 ⟨rfl, hb7⟩
              have HBW2 := hide (BareW.of_el HA6.out HF5.out hx3 hb7 HRE.out)
              have HG7 := hide (block_below HG6.out hb7)
              clear hb7
              have kk2 : w7.cell? ⟨nb, 2, none⟩ = some (.int .i64 (nd E.s i).mode) := cell_of_row HG7.out rfl
              have kk1 : w7.cell? ⟨nb, 1, none⟩ = some (.int .i64 (nd E.s i).tag) := cell_of_row HG7.out rfl
              have hlN7 := lt_of_cell kk1
              simp only at hlN7
              have hbz : (elB (wcl (nd E.s i)) true (wnu (nd E.s i)) b).size ≤ 16777215 := by
                obtain ⟨_, b', hb', hc'⟩ := HBW2.out
                injection hb' with hb'
                rw [hb']
                have h1 := HC.out.size
                rcases hc' with ⟨x', _, _, q2, q3, _⟩ | ⟨_, x', _, q2, q3, _⟩
                · have := pz_mono q3 (Nat.le_refl _); omega
                · have := pz_mono q3 (Nat.le_refl _); omega
              by_cases hmo : (nd E.s i).mode = 1
              · have HMO := hide hmo
                rw [hmo] at kk2
                clear hmo
                go_wp2_with fail
                refine (HE2.out _ _ HMO.out hbz).mono ?_
                rintro e w8 ⟨rfl, hb8⟩
                have HB8 := hide hb8
                clear hb8
                go_wp2
                go_ret
                exact HBW2.out.after1 HMO.out HB8.out HR.out
              · have HMO := hide hmo
                have hmb : ((nd E.s i).mode == 1) = false := by simpa using hmo
                clear hmo
                go_wp2
                go_ret
                exact HBW2.out.after0 HMO.out HR.out
          have hk0 := kinds_of HC.out.right.2.2.1 i hi
          have HRA : Hid (((E.ok (nd E.s i).kind (vl E.t x).text = true ∧ (vl E.t x).alt = 0 ∧ (vl E.t x).kids = 0) ∧ rb = some (elB (wcl (nd E.s i)) false (wnu (nd E.s i)) (vl E.t x).text, x + 1, false)) ∨ (¬ (E.ok (nd E.s i).kind (vl E.t x).text = true ∧ (vl E.t x).alt = 0 ∧ (vl E.t x).kids = 0) ∧ rb = none)) := by
            have h := HRB.out
            unfold wbareF at h
            rw [if_neg h13, if_neg h14, if_neg h10, if_neg (by omega)] at h
            split at h
            · rename_i q; exact .inl ⟨q, (Option.some.inj h).symm⟩
            · rename_i q; exact .inr ⟨q, (Option.some.inj h).symm⟩
          have HIC := hide (isContent_any (nd E.s i).kind (vl E.t x).text w5 (by omega))
          have t13 : ((nd E.s i).kind == 13) = false := by simpa using h13
          have t14 : ((nd E.s i).kind == 14) = false := by simpa using h14
          have t10 : ((nd E.s i).kind == 10) = false := by simpa using h10
          have t11 : ((nd E.s i).kind == 11) = false := by simpa using (fun h => h12 (.inl h))
          have t12 : ((nd E.s i).kind == 12) = false := by simpa using (fun h => h12 (.inr h))
          clear h10 h12 h13 h14 hk0
          go_wp2_with fail
          refine HIC.out.mono ?_
          rintro e w6 ⟨rv, rfl, hrv, kq, hkq⟩
          have hb6 : Below w5.heap.size w5 w6 := by rw [hkq]; exact below_drewN (Below.refl _ _) kq
          have HRV : Hid (rv = true ↔ E.ok (nd E.s i).kind (vl E.t x).text = true) := hrv.trans (HC.out.ok _ _).symm
          have hI6 := HI5.out.below hb6
          have hX6 := block_below HX5.out hb6
          have HG6 := hide (block_below HG5.out hb6)
          have HF6 : Hid (FrW R w w6) := HF5.out.trans (FrW.of_below hb6)
          have own6 := hI6.own
          unfold wwObj at own6
          have e3 : w6.cell? ⟨R, 3, none⟩ = some (.bool false) := by simp [World.cell?, own6]
          have g3 : w6.frozen? ⟨R, 3, none⟩ = false := by simp [World.frozen?, own6]
          have hR6 : R < w6.heap.size := lt_of_cell e3
          have y1 : w6.cell? ⟨vb, 1, none⟩ = some (.string (vl E.t x).text) := cell_of_row hX6 rfl
          have y2 : w6.cell? ⟨vb, 2, none⟩ = some (.int .i64 (vl E.t x).alt) := cell_of_row hX6 rfl
          have y3 : w6.cell? ⟨vb, 3, none⟩ = some (.int .i64 (vl E.t x).kids) := cell_of_row hX6 rfl
          have hlV6 := lt_of_cell y1
          simp only at hlV6
          have HAN : Hid (∀ nn : Bool, nn = (!decide (E.ok (nd E.s i).kind (vl E.t x).text = true ∧ (vl E.t x).alt = 0 ∧ (vl E.t x).kids = 0)) → (∀ wz, Below (w6.setCell ⟨R, 3, none⟩ (.bool nn)).heap.size (w6.setCell ⟨R, 3, none⟩ (.bool nn)) wz → BareW E W R (some ⟨ab, ao, none⟩) c ta tc rb x u0 w (.string (elB (wcl (nd E.s i)) false (wnu (nd E.s i)) (vl E.t x).text)) wz) ∧ (w6.setCell ⟨R, 3, none⟩ (.bool nn)).heap[nb]? = some (.cells #[.int .i64 (nd E.s i).kind, .int .i64 (nd E.s i).tag, .int .i64 (nd E.s i).mode, .slice ka (nd E.s i).kids.length kc] 58 (0, 0))) := fun nn hnn => by
            refine ⟨fun wz hb => ⟨(HF6.out.trans (FrW.set 3 _)).trans (FrW.of_below hb), _, rfl, ?_⟩, (FrW.set (R := R) (w := w6) 3 (.bool nn)) nb _ hneN HG6.out⟩
            have hI7 := (hI6.setNo nn).below hb
            have hp := HPS.out
            have hs5 := elB_size (wcl (nd E.s i)) false (wnu (nd E.s i)) (vl E.t x).text
            rcases HRA.out with ⟨q, q2⟩ | ⟨q, q2⟩
            · left
              rw [hnn, decide_eq_true q] at hI7
              refine ⟨x + 1, false, q2, by omega, hx3, ?_⟩
              rw [Bool.or_false]
              exact hI7
            · right
              rw [hnn, decide_eq_false q] at hI7
              exact ⟨q2, x + 1, u0, by omega, hx3, hI7⟩
          clear hb6 hI6 hX6 own6 HIC k0 k1 k2 k3 v0 v1 v2 v3 hrv hkq
          cases rv with
          | true =>
            have HOK : Hid (E.ok (nd E.s i).kind (vl E.t x).text = true) := HRV.out.1 rfl
            by_cases q3 : (vl E.t x).alt = 0
            · have HQ3 := hide q3
              rw [q3] at y2
              by_cases q4 : (vl E.t x).kids = 0
              · have HQ4 := hide q4
                rw [q4] at y3
                clear q3 q4
                have HQ : Hid (false = (!decide (E.ok (nd E.s i).kind (vl E.t x).text = true ∧ (vl E.t x).alt = 0 ∧ (vl E.t x).kids = 0))) := by show false = _; rw [decide_eq_true ⟨HOK.out, HQ3.out, HQ4.out⟩]; rfl
                go_upto_region 17 with fail
                obtain ⟨hBW2, hG7⟩ := HAN.out false HQ.out
                have y1' : (w6.setCell ⟨R, 3, none⟩ (.bool false)).cell? ⟨vb, 1, none⟩ = some (.string (vl E.t x).text) := by rw [World.cell?_of_block (heap_setCell_other _ _ _ _ hneV)]; exact y1
                generalize w6.setCell ⟨R, 3, none⟩ (.bool false) = w7 at hBW2 hG7 y1' ⊢
                have HB2' := hide hBW2
                have HG7' := hide hG7
                have hlV7 := lt_of_cell y1'
                simp only at hlV7
                clear hBW2 hG7
                go_wp2_with fail
                refine (HEL.out false (vl E.t x).text _ (by omega)).mono ?_
                rintro e w9 ⟨rfl, hb9⟩
                have HBW2 := hide (HB2'.out w9 hb9)
                have HG9 := hide (block_below HG7'.out hb9)
                clear hb9
                have kk2 : w9.cell? ⟨nb, 2, none⟩ = some (.int .i64 (nd E.s i).mode) := cell_of_row HG9.out rfl
                have kk1 : w9.cell? ⟨nb, 1, none⟩ = some (.int .i64 (nd E.s i).tag) := cell_of_row HG9.out rfl
                have hlN7 := lt_of_cell kk1
                simp only at hlN7
                have hbz : (elB (wcl (nd E.s i)) false (wnu (nd E.s i)) (vl E.t x).text).size ≤ 16777215 := by
                  obtain ⟨_, b', hb', hc'⟩ := HBW2.out
                  injection hb' with hb'
                  rw [hb']
                  have h1 := HC.out.size
                  rcases hc' with ⟨x', _, _, q2, q3, _⟩ | ⟨_, x', _, q2, q3, _⟩
                  · have := pz_mono q3 (Nat.le_refl _); omega
                  · have := pz_mono q3 (Nat.le_refl _); omega
                by_cases hmo : (nd E.s i).mode = 1
                · have HMO := hide hmo
                  rw [hmo] at kk2
                  clear hmo
                  go_wp2_with fail
                  refine (HE2.out _ _ HMO.out hbz).mono ?_
                  rintro e w8 ⟨rfl, hb8⟩
                  have HB8 := hide hb8
                  clear hb8
                  go_wp2
                  go_ret
                  exact HBW2.out.after1 HMO.out HB8.out HR.out
                · have HMO := hide hmo
                  have hmb : ((nd E.s i).mode == 1) = false := by simpa using hmo
                  clear hmo
                  go_wp2
                  go_ret
                  exact HBW2.out.after0 HMO.out HR.out
              · have HQ4 := hide q4
                have q4b : ((vl E.t x).kids != 0) = true := by simpa using q4
                clear q3
                have HQ : Hid (true = (!decide (E.ok (nd E.s i).kind (vl E.t x).text = true ∧ (vl E.t x).alt = 0 ∧ (vl E.t x).kids = 0))) := by show true = _; rw [decide_eq_false (fun h => HQ4.out h.2.2)]; rfl
                go_upto_region 17 with fail
                obtain ⟨hBW2, hG7⟩ := HAN.out true HQ.out
                have y1' : (w6.setCell ⟨R, 3, none⟩ (.bool true)).cell? ⟨vb, 1, none⟩ = some (.string (vl E.t x).text) := by rw [World.cell?_of_block (heap_setCell_other _ _ _ _ hneV)]; exact y1
                generalize w6.setCell ⟨R, 3, none⟩ (.bool true) = w7 at hBW2 hG7 y1' ⊢
                have HB2' := hide hBW2
                have HG7' := hide hG7
                have hlV7 := lt_of_cell y1'
                simp only at hlV7
                clear hBW2 hG7
                go_wp2_with fail
                refine (HEL.out false (vl E.t x).text _ (by omega)).mono ?_
                rintro e w9 ⟨rfl, hb9⟩
                have HBW2 := hide (HB2'.out w9 hb9)
                have HG9 := hide (block_below HG7'.out hb9)
                clear hb9
                have kk2 : w9.cell? ⟨nb, 2, none⟩ = some (.int .i64 (nd E.s i).mode) := cell_of_row HG9.out rfl
                have kk1 : w9.cell? ⟨nb, 1, none⟩ = some (.int .i64 (nd E.s i).tag) := cell_of_row HG9.out rfl
                have hlN7 := lt_of_cell kk1
                simp only at hlN7
                have hbz : (elB (wcl (nd E.s i)) false (wnu (nd E.s i)) (vl E.t x).text).size ≤ 16777215 := by
                  obtain ⟨_, b', hb', hc'⟩ := HBW2.out
                  injection hb' with hb'
                  rw [hb']
                  have h1 := HC.out.size
                  rcases hc' with ⟨x', _, _, q2, q3, _⟩ | ⟨_, x', _, q2, q3, _⟩
                  · have := pz_mono q3 (Nat.le_refl _); omega
                  · have := pz_mono q3 (Nat.le_refl _); omega
                by_cases hmo : (nd E.s i).mode = 1
                · have HMO := hide hmo
                  rw [hmo] at kk2
                  clear hmo
                  go_wp2_with fail
                  refine (HE2.out _ _ HMO.out hbz).mono ?_
                  rintro e w8 ⟨rfl, hb8⟩
                  have HB8 := hide hb8
                  clear hb8
                  go_wp2
                  go_ret
                  exact HBW2.out.after1 HMO.out HB8.out HR.out
                · have HMO := hide hmo
                  have hmb : ((nd E.s i).mode == 1) = false := by simpa using hmo
                  clear hmo
                  go_wp2
                  go_ret
                  exact HBW2.out.after0 HMO.out HR.out
            · have HQ3 := hide q3
              have q3b : ((vl E.t x).alt != 0) = true := by simpa using q3
              have HQ : Hid (true = (!decide (E.ok (nd E.s i).kind (vl E.t x).text = true ∧ (vl E.t x).alt = 0 ∧ (vl E.t x).kids = 0))) := by show true = _; rw [decide_eq_false (fun h => HQ3.out h.2.1)]; rfl
              go_upto_region 17 with fail
              obtain ⟨hBW2, hG7⟩ := HAN.out true HQ.out
              have y1' : (w6.setCell ⟨R, 3, none⟩ (.bool true)).cell? ⟨vb, 1, none⟩ = some (.string (vl E.t x).text) := by rw [World.cell?_of_block (heap_setCell_other _ _ _ _ hneV)]; exact y1
              generalize w6.setCell ⟨R, 3, none⟩ (.bool true) = w7 at hBW2 hG7 y1' ⊢
              have HB2' := hide hBW2
              have HG7' := hide hG7
              have hlV7 := lt_of_cell y1'
              simp only at hlV7
              clear hBW2 hG7
              go_wp2_with fail
              refine (HEL.out false (vl E.t x).text _ (by omega)).mono ?_
              rintro e w9 ⟨rfl, hb9⟩
              have HBW2 := hide (HB2'.out w9 hb9)
              have HG9 := hide (block_below HG7'.out hb9)
              clear hb9
              have kk2 : w9.cell? ⟨nb, 2, none⟩ = some (.int .i64 (nd E.s i).mode) := cell_of_row HG9.out rfl
              have kk1 : w9.cell? ⟨nb, 1, none⟩ = some (.int .i64 (nd E.s i).tag) := cell_of_row HG9.out rfl
              have hlN7 := lt_of_cell kk1
              simp only at hlN7
              have hbz : (elB (wcl (nd E.s i)) false (wnu (nd E.s i)) (vl E.t x).text).size ≤ 16777215 := by
                obtain ⟨_, b', hb', hc'⟩ := HBW2.out
                injection hb' with hb'
                rw [hb']
                have h1 := HC.out.size
                rcases hc' with ⟨x', _, _, q2, q3, _⟩ | ⟨_, x', _, q2, q3, _⟩
                · have := pz_mono q3 (Nat.le_refl _); omega
                · have := pz_mono q3 (Nat.le_refl _); omega
              by_cases hmo : (nd E.s i).mode = 1
              · have HMO := hide hmo
                rw [hmo] at kk2
                clear hmo
                go_wp2_with fail
                refine (HE2.out _ _ HMO.out hbz).mono ?_
                rintro e w8 ⟨rfl, hb8⟩
                have HB8 := hide hb8
                clear hb8
                go_wp2
                go_ret
                exact HBW2.out.after1 HMO.out HB8.out HR.out
              · have HMO := hide hmo
                have hmb : ((nd E.s i).mode == 1) = false := by simpa using hmo
                clear hmo
                go_wp2
                go_ret
                exact HBW2.out.after0 HMO.out HR.out
          | false =>
            have HOK : Hid (¬ E.ok (nd E.s i).kind (vl E.t x).text = true) := fun h => Bool.noConfusion (HRV.out.2 h)
            have HQ : Hid (true = (!decide (E.ok (nd E.s i).kind (vl E.t x).text = true ∧ (vl E.t x).alt = 0 ∧ (vl E.t x).kids = 0))) := by show true = _; rw [decide_eq_false (fun h => HOK.out h.1)]; rfl
            go_upto_region 17 with fail
            obtain ⟨hBW2, hG7⟩ := HAN.out true HQ.out
            have y1' : (w6.setCell ⟨R, 3, none⟩ (.bool true)).cell? ⟨vb, 1, none⟩ = some (.string (vl E.t x).text) := by rw [World.cell?_of_block (heap_setCell_other _ _ _ _ hneV)]; exact y1
            generalize w6.setCell ⟨R, 3, none⟩ (.bool true) = w7 at hBW2 hG7 y1' ⊢
            have HB2' := hide hBW2
            have HG7' := hide hG7
            have hlV7 := lt_of_cell y1'
            simp only at hlV7
            clear hBW2 hG7
            go_wp2_with fail
            refine (HEL.out false (vl E.t x).text _ (by omega)).mono ?_
            rintro e w9 ⟨rfl, hb9⟩
            have HBW2 := hide (HB2'.out w9 hb9)
            have HG9 := hide (block_below HG7'.out hb9)
            clear hb9
            have kk2 : w9.cell? ⟨nb, 2, none⟩ = some (.int .i64 (nd E.s i).mode) := cell_of_row HG9.out rfl
            have kk1 : w9.cell? ⟨nb, 1, none⟩ = some (.int .i64 (nd E.s i).tag) := cell_of_row HG9.out rfl
            have hlN7 := lt_of_cell kk1
            simp only at hlN7
            have hbz : (elB (wcl (nd E.s i)) false (wnu (nd E.s i)) (vl E.t x).text).size ≤ 16777215 := by
              obtain ⟨_, b', hb', hc'⟩ := HBW2.out
              injection hb' with hb'
              rw [hb']
              have h1 := HC.out.size
              rcases hc' with ⟨x', _, _, q2, q3, _⟩ | ⟨_, x', _, q2, q3, _⟩
              · have := pz_mono q3 (Nat.le_refl _); omega
              · have := pz_mono q3 (Nat.le_refl _); omega
            by_cases hmo : (nd E.s i).mode = 1
            · have HMO := hide hmo
              rw [hmo] at kk2
              clear hmo
              go_wp2_with fail
              refine (HE2.out _ _ HMO.out hbz).mono ?_
              rintro e w8 ⟨rfl, hb8⟩
              have HB8 := hide hb8
              clear hb8
              go_wp2
              go_ret
              exact HBW2.out.after1 HMO.out HB8.out HR.out
            · have HMO := hide hmo
              have hmb : ((nd E.s i).mode == 1) = false := by simpa using hmo
              clear hmo
              go_wp2
              go_ret
              exact HBW2.out.after0 HMO.out HR.out
      · have hdp' : 12 < dp := by omega
        rw [hkd] at m0
        have HR : Hid (r = none) := by
          rw [if_neg (fun h => hdp h.2.2)] at hm
          exact (Option.some.inj hm).symm
        clear hm
        go_quiet (fail)
        have hB2 := below_drewN (Below.refl w1.heap.size w1) nq
        have c3' : (w1.drewN nq).cell? ⟨R, 3, none⟩ = some (.bool false) := by simpa using e3
        have f3' : (w1.drewN nq).frozen? ⟨R, 3, none⟩ = false := by simpa using g3
        generalize w1.drewN nq = w2 at hB2 c3' f3' ⊢
        have HB2 := hide hB2
        have hR2 : R < w2.heap.size := lt_of_cell c3'
        clear hB2 e1 e2 e3 g3 k0 hR1
        go_wp2
        go_ret
        exact HNO.out _ HB2.out HR.out
    · have HR : Hid (r = none) := by
        rw [if_neg (fun h => hkd h.2.1)] at hm
        exact (Option.some.inj hm).symm
      clear hm
      go_quiet (fail)
      have hB2 := below_drewN (Below.refl w1.heap.size w1) nq
      have c3' : (w1.drewN nq).cell? ⟨R, 3, none⟩ = some (.bool false) := by simpa using e3
      have f3' : (w1.drewN nq).frozen? ⟨R, 3, none⟩ = false := by simpa using g3
      generalize w1.drewN nq = w2 at hB2 c3' f3' ⊢
      have HB2 := hide hB2
      have hR2 : R < w2.heap.size := lt_of_cell c3'
      clear hB2 e1 e2 e3 g3 k0 hR1
      go_wp2
      go_ret
      exact HNO.out _ HB2.out HR.out
  · have hx3' : (E.t.length : Int) ≤ x := by omega
    have HR : Hid (r = none) := by
      rw [if_neg (fun h => hx3 h.1)] at hm
      exact (Option.some.inj hm).symm
    clear hm
    go_quiet (fail)
    have hB2 := below_drewN (Below.refl w1.heap.size w1) nq
    have c3' : (w1.drewN nq).cell? ⟨R, 3, none⟩ = some (.bool false) := by simpa using e3
    have f3' : (w1.drewN nq).frozen? ⟨R, 3, none⟩ = false := by simpa using g3
    generalize w1.drewN nq = w2 at hB2 c3' f3' ⊢
    have HB2 := hide hB2
    have hR2 : R < w2.heap.size := lt_of_cell c3'
    clear hB2 e1 e2 e3 g3 k0 hR1
    go_wp2
    go_ret
    exact HNO.out _ HB2.out HR.out
end Go.Proofs.YtkkicodfpekbgaaGreatDoor
