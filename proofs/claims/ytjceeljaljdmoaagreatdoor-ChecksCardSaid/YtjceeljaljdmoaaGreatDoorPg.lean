/-
  schemas.within: what the heads of an element are around.
-/
import Derived.Test.YtjceeljaljdmoaaGreatDoorPf
import Derived.Deep.DrawnRows
import Derived.Test.YtjceeljaljdmoaaGreatDoorAw
import Derived.Test.YtjceeljaljdmoaaGreatDoorHd0
import Derived.Test.YtjceeljaljdmoaaGreatDoorRv
namespace Go.Proofs.YtjceeljaljdmoaaGreatDoor
open Go.RowKit
attribute [local go_sem ↓] Go.wp_at_zero Go.wp_at_succ

/-- A text without these heads. -/
def strip : List (Int × Int × Bool) → ByteArray → Option ByteArray
  | [], t => some t
  | f :: fs, t => if (hd t).1 = 0 ∧ ((hd t).2.c, (hd t).2.n, (hd t).2.b) = f ∧ (hd t).2.s + (hd t).2.l = t.size then strip fs (t.extract (hd t).2.s.toNat t.size) else none
/-- What it answers. -/
def RetI (n : Nd) (t : ByteArray) (w : World) (e : Ending) (w' : World) : Prop :=
  ∃ (u : ByteArray) (r : Bool), e = .returned (.tuple #[.string u, .bool r]) ∧ ((r = true ∧ strip n.lays t = some u) ∨ (r = false ∧ strip n.lays t = none)) ∧ Below w.heap.size w w' ∧ u.size ≤ t.size

set_option maxHeartbeats 4000000 in
set_option maxRecDepth 100000 in
theorem within_any (n : Nd) (ka : Option Addr) (kc : Nat) (t : ByteArray) (w : World) (sn : Sn → Addr) (hsn : Sent w sn) (hn : Nums w) (ht : -1 ≤ n.tag) (hk : 0 ≤ n.kind) (hk' : n.kind ≤ 9) (hm1 : n.mode = 1 → 0 ≤ n.tag) (hm : t.size ≤ 140737488355328) :
    Calls Tryz.prog 96 #[.agg #[.int .i64 n.kind, .int .i64 n.tag, .int .i64 n.mode, .slice ka n.kids.length kc], .string t] w fun e w' => RetI n t w e w' := by
  have HL : Hid (∀ wq, Below w.heap.size w wq → Calls Tryz.prog 132 #[.agg #[.int .i64 n.kind, .int .i64 n.tag, .int .i64 n.mode, .slice ka n.kids.length kc]] wq fun e w' => ∃ g, e = .returned (.slice (some ⟨g, 0, none⟩) n.lays.length n.lays.length) ∧ (∃ T, w'.heap[g]? = some (.cells (lcells n.lays).toArray T (0, 0))) ∧ Below wq.heap.size wq w') := fun wq q => layers_any n ka kc wq (hn.below q) ht hk hk' hm1
  have HS : Hid (Sent w sn) := hsn
  have hlen : n.lays.length ≤ 2 := by unfold Nd.lays; split <;> simp
  clear hsn hn hm1
  obtain ⟨L, hL⟩ : ∃ L, n.lays = L := ⟨_, rfl⟩
  have HLL : Hid (n.lays = L) := hL
  rw [hL] at HL hlen
  clear hL
  go_enter Tryz.func96, Tryz.ntmps96
  go_wp2_with fail
  refine (HL.out _ ((Below.refl _ _).alloc (Nat.le_refl _) _)).mono ?_
  rintro e w1 ⟨g, rfl, ⟨T, hG⟩, hb1⟩
  have HB1 : Hid (Below w.heap.size w w1) := below_alloc hb1
  have HG : Hid (w1.heap[g]? = some (.cells (lcells L).toArray T (0, 0))) := hG
  clear hb1 hG
  go_wp2
  go_loopw [1, 13] (fun v1 vj wr => ∃ (j : Nat) (u : ByteArray), vj = .int .i64 j ∧ v1 = .string u ∧ j ≤ L.length ∧ strip L t = strip (L.drop j) u ∧ u.size ≤ t.size ∧ Below w1.heap.size w1 wr) (fun _ vj _ => L.length - (intOf vj).toNat)
  case atStart => exact ⟨0, t, rfl, rfl, Nat.zero_le _, rfl, Nat.le_refl _, Below.refl _ _⟩
  case round =>
    obtain ⟨j, u, rfl, rfl, hj, hst, hu, hbr⟩ := hrel
    have HST : Hid (strip L t = strip (L.drop j) u) := hst
    have HB : Hid (Below w1.heap.size w1 wr) := hbr
    have HBW : Hid (Below w.heap.size w wr) := HB1.out.trans (hbr.mono HB1.out.size)
    have hGr := block_below HG.out hbr
    by_cases hlt : j < L.length
    · have hlt' : (j : Int) < L.length := by omega
      obtain ⟨c, m, b, hf⟩ : ∃ c m b, L[j]? = some (c, m, b) := ⟨(L[j]).1, (L[j]).2.1, (L[j]).2.2, by rw [List.getElem?_eq_getElem hlt]⟩
      have HF : Hid (L.drop j = (c, m, b) :: L.drop (j + 1)) := by
        show L.drop j = _
        rw [List.drop_eq_getElem_cons hlt]
        rw [List.getElem?_eq_getElem hlt] at hf
        injection hf with hf
        rw [hf]
      have hcell : wr.cell? ⟨g, j * 3, none⟩ = some (.int .i64 c) ∧ wr.cell? ⟨g, j * 3 + 1, none⟩ = some (.int .i64 m) ∧ wr.cell? ⟨g, j * 3 + 2, none⟩ = some (.bool b) := by
        simp only [World.cell?, hGr]
        match L, hlen, j, hlt, hf with
        | [f0], _, 0, _, hf => simp at hf; subst hf; simp [lcells]
        | [f0, f1], _, 0, _, hf => simp at hf; subst hf; simp [lcells]
        | [f0, f1], _, 1, _, hf => simp at hf; subst hf; simp [lcells]
      obtain ⟨g0, g1, g2⟩ := hcell
      have HRD : Hid (∀ wq, Below w.heap.size w wq → Calls Tryz.prog 122 #[.string u, .int .i64 0] wq fun e w' => e = .returned (.tuple #[hv (hd u).2, errAt 0 sn (hd u).1]) ∧ Below wq.heap.size wq w') := fun wq q => read0 u wq sn (HS.out.below q) (by omega)
      have hlg := lt_of_cell g0
      simp only at hlg
      clear hst hbr hGr hf
      go_wp2_with fail
      refine (HRD.out _ (HBW.out.alloc HBW.out.size _)).mono ?_
      rintro e w2 ⟨rfl, hb2⟩
      have HB2 : Hid (Below w1.heap.size w1 w2) := HB.out.trans ((below_alloc hb2).mono HB.out.size)
      have HBW2 : Hid (Below w.heap.size w w2) := HBW.out.trans ((below_alloc hb2).mono HBW.out.size)
      have hF := block_below (heap_alloc_new wr (.cells #[.int .i64 c, .int .i64 m, .bool b] 123)) hb2
      have hs2 := lt_of_block hF
      have t0 : w2.cell? ⟨wr.heap.size, 0, none⟩ = some (.int .i64 c) := by simp [World.cell?, hF]
      have t1 : w2.cell? ⟨wr.heap.size, 1, none⟩ = some (.int .i64 m) := by simp [World.cell?, hF]
      have t2 : w2.cell? ⟨wr.heap.size, 2, none⟩ = some (.bool b) := by simp [World.cell?, hF]
      obtain ⟨hc, hb, hn, hz, hl, hH⟩ : ∃ hc hb hn hz hl, (hd u).2 = ⟨hc, hb, hn, hz, hl⟩ := ⟨_, _, _, _, _, rfl⟩
      have HH : Hid ((hd u).2 = ⟨hc, hb, hn, hz, hl⟩) := hH
      rw [hH]
      unfold hv
      clear hb2 hF hH g0 g1 g2
      by_cases hk0 : (hd u).1 = 0
      · have HK : Hid ((hd u).1 = 0) := hk0
        have hok := hd_ok hk0
        rw [HH.out] at hok
        simp only at hok
        obtain ⟨z, rfl⟩ : ∃ z : Nat, hz = z := ⟨hz.toNat, by omega⟩
        obtain ⟨l, rfl⟩ : ∃ l : Nat, hl = l := ⟨hl.toNat, by omega⟩
        have e0 : errAt 0 sn (hd u).1 = .nilIface := by rw [hk0]; rfl
        rw [e0]
        have HFO : Hid (∀ wq, Calls Tryz.prog 123 #[.agg #[.int .i64 hc, .bool hb, .int .i64 hn, .int .i64 z, .int .i64 l]] wq fun e w' => e = .returned (.agg #[.int .i64 hc, .int .i64 hn, .bool hb]) ∧ Below wq.heap.size wq w') := fun wq => firstOf_any hc hb hn z l wq
        have HBW3 : Hid (Below w.heap.size w (w2.alloc (.cells #[.int .i64 hc, .bool hb, .int .i64 hn, .int .i64 z, .int .i64 l] 146))) := HBW2.out.alloc HBW2.out.size _
        have HB3 : Hid (Below w1.heap.size w1 (w2.alloc (.cells #[.int .i64 hc, .bool hb, .int .i64 hn, .int .i64 z, .int .i64 l] 146))) := HB2.out.alloc HB2.out.size _
        have X0 : ∀ x : Ext (w2.alloc (.cells #[.int .i64 hc, .bool hb, .int .i64 hn, .int .i64 z, .int .i64 l] 146)), x.v.cell? ⟨w2.heap.size, 0, none⟩ = some (.int .i64 hc) := fun x => x.new rfl
        have X1 : ∀ x : Ext (w2.alloc (.cells #[.int .i64 hc, .bool hb, .int .i64 hn, .int .i64 z, .int .i64 l] 146)), x.v.cell? ⟨w2.heap.size, 1, none⟩ = some (.bool hb) := fun x => x.new rfl
        have X2 : ∀ x : Ext (w2.alloc (.cells #[.int .i64 hc, .bool hb, .int .i64 hn, .int .i64 z, .int .i64 l] 146)), x.v.cell? ⟨w2.heap.size, 2, none⟩ = some (.int .i64 hn) := fun x => x.new rfl
        have X3 : ∀ x : Ext (w2.alloc (.cells #[.int .i64 hc, .bool hb, .int .i64 hn, .int .i64 z, .int .i64 l] 146)), x.v.cell? ⟨w2.heap.size, 3, none⟩ = some (.int .i64 z) := fun x => x.new rfl
        have X4 : ∀ x : Ext (w2.alloc (.cells #[.int .i64 hc, .bool hb, .int .i64 hn, .int .i64 z, .int .i64 l] 146)), x.v.cell? ⟨w2.heap.size, 4, none⟩ = some (.int .i64 l) := fun x => x.new rfl
        have Y0 : ∀ x : Ext (w2.alloc (.cells #[.int .i64 hc, .bool hb, .int .i64 hn, .int .i64 z, .int .i64 l] 146)), x.v.cell? ⟨wr.heap.size, 0, none⟩ = some (.int .i64 c) := fun x => x.old t0
        have Y1 : ∀ x : Ext (w2.alloc (.cells #[.int .i64 hc, .bool hb, .int .i64 hn, .int .i64 z, .int .i64 l] 146)), x.v.cell? ⟨wr.heap.size, 1, none⟩ = some (.int .i64 m) := fun x => x.old t1
        have Y2 : ∀ x : Ext (w2.alloc (.cells #[.int .i64 hc, .bool hb, .int .i64 hn, .int .i64 z, .int .i64 l] 146)), x.v.cell? ⟨wr.heap.size, 2, none⟩ = some (.bool b) := fun x => x.old t2
        have hzl : (z : Int) + l ≤ 9223372036854775807 := by omega
        clear hk0 e0
        by_cases hq : hc = c ∧ hn = m ∧ hb = b
        · obtain ⟨rfl, rfl, rfl⟩ := hq
          go_wp2_with fail
          (have ne := ext_ne; refine wp_region_ext (by kernel_rfl) (by kernel_rfl) ?_; (repeat (first | go_big_quiet_skip | (go_big_quiet_want; go_big_quiet_op; first | go_big_quiet_on | (apply Exists.intro; refine ⟨fun x => ?_, ?_⟩; (· (exact Ext.calls (HFO.out x.v))); go_big_quiet_on)))); refine nil_ext ?_)
          intro w5 hb5
          have z3 := X3 ⟨w5, hb5⟩
          have HB5 : Hid (Below w1.heap.size w1 w5) := HB3.out.trans (hb5.mono HB3.out.size)
          have HBW5 : Hid (Below w.heap.size w w5) := HBW3.out.trans (hb5.mono HBW3.out.size)
          have HS5 : Hid (w2.heap.size < w5.heap.size) := lt_of_cell z3
          simp only at z3
          clear X0 X1 X2 X3 X4 Y0 Y1 Y2 hb5
          by_cases hsz : (z : Int) + l = u.size
          · have hsz' : ((z : Int) + l != u.size) = false := by rw [bne_eq_false_iff_eq]; exact hsz
            have hzu : (z : Int) ≤ u.size := by omega
            go_wp2
            go_roundw
            case rel =>
              refine ⟨j + 1, u.extract z u.size, by go_num, rfl, by omega, ?_, ?_, HB5.out⟩
              · rw [HST.out, HF.out]
                show (if _ then _ else _) = _
                rw [HH.out, if_pos ⟨HK.out, rfl, hsz⟩]
                rfl
              · have : (u.extract z u.size).size = u.size - z := by simp
                omega
            case measure => simp [intOf]; omega
          · have hsz' : ((z : Int) + l != u.size) = true := by rw [bne_iff_ne]; exact hsz
            have HNO : Hid (strip L t = none) := by show strip L t = none; rw [HST.out, HF.out]; unfold strip; rw [if_neg (fun q => hsz (by have := q.2.2; rw [HH.out] at this; exact this))]
            clear hsz
            go_wp2
            go_ret2
            exact ⟨⟨#[]⟩, false, rfl, .inr ⟨rfl, by rw [HLL.out]; exact HNO.out⟩, HBW5.out, by exact Nat.zero_le _⟩
        · have HNO : Hid (strip L t = none) := by show strip L t = none; rw [HST.out, HF.out]; unfold strip; rw [if_neg (fun q => hq (by have := q.2.1; rw [HH.out] at this; simpa using this))]
          have hq3 : ¬ hc = c ∨ (hc = c ∧ ¬ hn = m) ∨ (hc = c ∧ hn = m ∧ ¬ hb = b) := by
            by_cases a1 : hc = c
            · by_cases a2 : hn = m
              · exact .inr (.inr ⟨a1, a2, fun a3 => hq ⟨a1, a2, a3⟩⟩)
              · exact .inr (.inl ⟨a1, a2⟩)
            · exact .inl a1
          clear hq
          rcases hq3 with hq | ⟨rfl, hq⟩ | ⟨rfl, rfl, hq⟩
          all_goals
            go_wp2_with fail
            (have ne := ext_ne; refine wp_region_ext (by kernel_rfl) (by kernel_rfl) ?_; (repeat (first | go_big_quiet_skip | (go_big_quiet_want; go_big_quiet_op; first | go_big_quiet_on | (apply Exists.intro; refine ⟨fun x => ?_, ?_⟩; (· (exact Ext.calls (HFO.out x.v))); go_big_quiet_on)))); refine nil_ext ?_)
            intro w5 hb5
            have HBW5 : Hid (Below w.heap.size w w5) := HBW3.out.trans (hb5.mono HBW3.out.size)
            clear X0 X1 X2 X3 X4 Y0 Y1 Y2 hb5
            go_wp2
            go_ret2
            exact ⟨⟨#[]⟩, false, rfl, .inr ⟨rfl, by rw [HLL.out]; exact HNO.out⟩, HBW5.out, by exact Nat.zero_le _⟩
      · have HK : Hid (¬ (hd u).1 = 0) := hk0
        have HNO : Hid (strip L t = none) := by show strip L t = none; rw [HST.out, HF.out]; unfold strip; rw [if_neg (fun q => hk0 q.1)]
        obtain ⟨fp, fa, he⟩ : ∃ fp fa, errAt 0 sn (hd u).1 = fault fp fa := by
          unfold errAt
          rw [if_neg hk0]
          repeat' split
          all_goals exact ⟨_, _, rfl⟩
        rw [he]
        unfold fault
        clear hk0 he
        go_wp2_with fail
        go_quiet (fail)
        go_wp2
        go_ret2
        exact ⟨⟨#[]⟩, false, rfl, .inr ⟨rfl, by rw [HLL.out]; exact HNO.out⟩, below_drewN (HBW2.out.alloc HBW2.out.size _) _, by exact Nat.zero_le _⟩
    · have hlt' : (L.length : Int) ≤ j := by omega
      have HE : Hid (strip L t = some u) := by show strip L t = some u; rw [hst, List.drop_of_length_le (by omega)]; rfl
      clear hst hbr hGr
      go_wp2
      go_ret2
      exact ⟨u, true, rfl, .inl ⟨rfl, by rw [HLL.out]; exact HE.out⟩, HBW.out, hu⟩
end Go.Proofs.YtjceeljaljdmoaaGreatDoor
