/-
  Several texts in one:
  schemas.layers: what the heads of an element say.
  schemas.within: what the heads of an element are around.
  schemas.beginningsOf: what it answers.
  slices.Index, slices.Contains at tags; tagSet.meets: what they answer.
  schemas.AllBeginnings: what it answers.
  Beginnings read again: the row that AllBeginnings leaves; two of them meet as the nodes do.
  schemas.choiceIsPlain: what it answers.
  schemas.seqIsPlain, schemas.isPlain: what they answer.
  hallmarklaw.copied: what it holds in memory, and that it is the schema.
  append onto a slice that the call owns: what becomes of the old row besides: each of its cells is as it was, or is one of the new ones.
  hallmarklaw's Book: lists that are written full with a mark; what stays of them.
  hallmarklaw.alike: of two schemas that are the same, wherever they lie, it answers true.
  hallmarklaw.same, of two lists that hold the same values; Book.looks.
  hallmarklaw: Book.ownsValues: what it leaves.
  hallmarklaw: Book.ownsValues: the walk.
  hallmarklaw.copied: a schema like another, with lists of its own.
  hallmarklaw: Book.looks: what it answers.
  A schema that came in: its nodes and kids as plain data, and how great they may be.
-/
import Derived.Test.YtkkicodfpekbgaaGreatDoorJ2
import Derived.Deep.DrawnRows
import Derived.Test.YtkkicodfpekbgaaGreatDoorJ1
import Derived.WalkMore
import Derived.Deep.AppendLies
import Derived.Test.YtkkicodfpekbgaaGreatDoorJ0
import Derived.Deep.RegionHeldLaw
import Derived.Handy
import Derived.Deep.Slices
import Derived.SizedLaws
/-! schemas.layers: what the heads of an element say. -/
namespace Go.Proofs.YtkkicodfpekbgaaGreatDoor
set_option linter.unusedSimpArgs false
set_option linter.unusedVariables false
open Go.RowKit

/-- The heads' first bytes, the outermost first. -/
def Nd.lays (n : Nd) : List (Int × Int × Bool) := if n.mode = 1 then [(2, n.tag, true), (n.ownT.1, n.ownT.2, false)] else [(n.ownT.1, n.ownT.2, false)]
def lcells (l : List (Int × Int × Bool)) : List Value := l.flatMap fun t => [.int .i64 t.1, .int .i64 t.2.1, .bool t.2.2]

set_option maxHeartbeats 2000000 in
set_option maxRecDepth 100000 in
theorem layers_any (n : Nd) (ka : Option Addr) (kc : Nat) (w : World) (hn : Nums w) (ht : -1 ≤ n.tag) (hk : 0 ≤ n.kind) (hk' : n.kind ≤ 9) (hm1 : n.mode = 1 → 0 ≤ n.tag) :
    Calls Tryz.prog 172 #[.agg #[.int .i64 n.kind, .int .i64 n.tag, .int .i64 n.mode, .slice ka n.kids.length kc]] w fun e w' => ∃ g, e = .returned (.slice (some ⟨g, 0, none⟩) n.lays.length n.lays.length) ∧ (∃ T, w'.heap[g]? = some (.cells (lcells n.lays).toArray T (0, 0))) ∧ Below w.heap.size w w' := by
  have HO : Hid (∀ wq, Below w.heap.size w wq → Calls Tryz.prog 152 #[.agg #[.int .i64 n.kind, .int .i64 n.tag, .int .i64 n.mode, .slice ka n.kids.length kc]] wq fun e w' => e = .returned (.agg #[.int .i64 n.ownT.1, .int .i64 n.ownT.2, .bool false]) ∧ Below wq.heap.size wq w') := fun wq q => own_first n ka kc wq (hn.below q) ht hk hk'
  by_cases hm : n.mode = 1
  · have HA : Hid (∀ wq, Below w.heap.size w wq → Calls Tryz.prog 110 #[.agg #[.int .i64 n.kind, .int .i64 n.tag, .int .i64 n.mode, .slice ka n.kids.length kc]] wq fun e w' => e = .returned (.tuple #[.agg #[.int .i64 2, .int .i64 n.tag, .bool true], .bool true]) ∧ Below wq.heap.size wq w') := fun wq q => around_yes n ka kc wq hm (hn.below q) (hm1 hm) hk
    have e : n.lays = [(2, n.tag, true), (n.ownT.1, n.ownT.2, false)] := by unfold Nd.lays; rw [if_pos hm]
    rw [e]
    have RUN : Hid (∀ args w, (callFunc 152 args).run Tryz.prog w = .ok (.enter 152 args) w) := fun args w => run_enter Tryz.func152 (by kernel_rfl) (by rfl) args w
    clear hm hn hm1 e
    go_enter Tryz.func172, Tryz.ntmps172
    go_wp2_with fail
    refine (HA.out _ ((Below.refl _ _).alloc (Nat.le_refl _) _)).mono ?_
    rintro e w1 ⟨rfl, hb1⟩
    have HB1 : Hid (Below w.heap.size w w1) := below_alloc hb1
    have hG := block_below (heap_alloc_new w (.cells #[.int .i64 n.kind, .int .i64 n.tag, .int .i64 n.mode, .slice ka n.kids.length kc] 58)) hb1
    have hs1 := lt_of_block hG
    have p0 : w1.cell? ⟨w.heap.size, 0, none⟩ = some (.int .i64 n.kind) := by simp [World.cell?, hG]
    have p1 : w1.cell? ⟨w.heap.size, 1, none⟩ = some (.int .i64 n.tag) := by simp [World.cell?, hG]
    have p2 : w1.cell? ⟨w.heap.size, 2, none⟩ = some (.int .i64 n.mode) := by simp [World.cell?, hG]
    have p3 : w1.cell? ⟨w.heap.size, 3, none⟩ = some (.slice ka n.kids.length kc) := by simp [World.cell?, hG]
    have HB2 : Hid (∀ o, Below w.heap.size w (w1.alloc o).drew) := fun o => (HB1.out.alloc HB1.out.size o).drew
    clear hb1 hG
    go_wp2_with fail
    go_region_law (refine step_calls rfl 152 _ _ rfl #[.agg #[.int .i64 n.kind, .int .i64 n.tag, .int .i64 n.mode, .slice ka n.kids.length kc]] (by simp [Act.eval, Act.put]) (.agg #[.int .i64 n.ownT.1, .int .i64 n.ownT.2, .bool false]) (fun w'' => Below ((w1.alloc (.cells #[.int .i64 2, .int .i64 n.tag, .bool true] 149)).drew).heap.size ((w1.alloc (.cells #[.int .i64 2, .int .i64 n.tag, .bool true] 149)).drew) w'') (RUN.out _ _) (HO.out _ (HB2.out _)) ?_; intro w5 hb5; have HB5 := (HB2.out _).trans (hb5.mono (HB2.out _).size); have hF := block_below (heap_alloc_new w1.drew (.cells #[.int .i64 2, .int .i64 n.tag, .bool true] 149)) hb5; have t0 : w5.cell? ⟨w1.heap.size, 0, none⟩ = some (.int .i64 2) := (by simp [World.cell?] at hF ⊢; simp [hF]); have t1 : w5.cell? ⟨w1.heap.size, 1, none⟩ = some (.int .i64 n.tag) := (by simp [World.cell?] at hF ⊢; simp [hF]); have t2 : w5.cell? ⟨w1.heap.size, 2, none⟩ = some (.bool true) := (by simp [World.cell?] at hF ⊢; simp [hF]); clear hb5 hF)
    all_goals
      have HB6 : Hid (Below w.heap.size w w5) := HB5
      clear HB5
      go_wp2
      go_ret
      exact ⟨w5.heap.size, rfl, ⟨_, heap_alloc_new w5 _⟩, HB6.out.alloc HB6.out.size _⟩
  · have HA : Hid (∀ wq, Calls Tryz.prog 110 #[.agg #[.int .i64 n.kind, .int .i64 n.tag, .int .i64 n.mode, .slice ka n.kids.length kc]] wq fun e w' => e = .returned (.tuple #[.agg #[.int .i64 0, .int .i64 0, .bool false], .bool false]) ∧ Below wq.heap.size wq w') := fun wq => around_no n ka kc wq hm
    have e : n.lays = [(n.ownT.1, n.ownT.2, false)] := by unfold Nd.lays; rw [if_neg hm]
    rw [e]
    clear hm hn hm1 e
    go_enter Tryz.func172, Tryz.ntmps172
    go_wp2_with fail
    refine (HA.out _).mono ?_
    rintro e w1 ⟨rfl, hb1⟩
    have HB1 : Hid (Below w.heap.size w w1) := below_alloc hb1
    have hG := block_below (heap_alloc_new w (.cells #[.int .i64 n.kind, .int .i64 n.tag, .int .i64 n.mode, .slice ka n.kids.length kc] 58)) hb1
    have hs1 := lt_of_block hG
    have p0 : w1.cell? ⟨w.heap.size, 0, none⟩ = some (.int .i64 n.kind) := by simp [World.cell?, hG]
    have p1 : w1.cell? ⟨w.heap.size, 1, none⟩ = some (.int .i64 n.tag) := by simp [World.cell?, hG]
    have p2 : w1.cell? ⟨w.heap.size, 2, none⟩ = some (.int .i64 n.mode) := by simp [World.cell?, hG]
    have p3 : w1.cell? ⟨w.heap.size, 3, none⟩ = some (.slice ka n.kids.length kc) := by simp [World.cell?, hG]
    clear hb1 hG
    go_wp2_with fail
    refine (HO.out _ (HB1.out.alloc HB1.out.size _)).mono ?_
    rintro e w2 ⟨rfl, hb2⟩
    have HB2 : Hid (Below w.heap.size w w2) := HB1.out.trans ((below_alloc hb2).mono HB1.out.size)
    clear hb2
    go_wp2
    go_ret
    exact ⟨w2.heap.size, rfl, ⟨_, heap_alloc_new w2 _⟩, HB2.out.alloc HB2.out.size _⟩
end Go.Proofs.YtkkicodfpekbgaaGreatDoor

/-! schemas.within: what the heads of an element are around. -/
namespace Go.Proofs.YtkkicodfpekbgaaGreatDoor
set_option linter.unusedSimpArgs false
set_option linter.unusedVariables false
open Go.RowKit
attribute [local go_sem ↓] Go.wp_at_zero Go.wp_at_succ

/-- A text without these heads. -/
def strip : List (Int × Int × Bool) → ByteArray → Option ByteArray
  | [], t => some t
  | f :: fs, t => if (hd t).1 = 0 ∧ ((hd t).2.c, (hd t).2.n, (hd t).2.b) = f ∧ (hd t).2.s + (hd t).2.l = t.size then strip fs (t.extract (hd t).2.s.toNat t.size) else none
/-- What it answers. -/
def RetI (n : Nd) (t : ByteArray) (w : World) (e : Ending) (w' : World) : Prop :=
  ∃ (u : ByteArray) (r : Bool), e = .returned (.tuple #[.string u, .bool r]) ∧ ((r = true ∧ strip n.lays t = some u) ∨ (r = false ∧ strip n.lays t = none)) ∧ Below w.heap.size w w' ∧ u.size ≤ t.size

set_option maxHeartbeats 4000000 in
set_option maxRecDepth 100000 in
theorem within_any (n : Nd) (ka : Option Addr) (kc : Nat) (t : ByteArray) (w : World) (sn : Sn → Addr) (hsn : Sent w sn) (hn : Nums w) (ht : -1 ≤ n.tag) (hk : 0 ≤ n.kind) (hk' : n.kind ≤ 9) (hm1 : n.mode = 1 → 0 ≤ n.tag) (hm : t.size ≤ 140737488355328) :
    Calls Tryz.prog 137 #[.agg #[.int .i64 n.kind, .int .i64 n.tag, .int .i64 n.mode, .slice ka n.kids.length kc], .string t] w fun e w' => RetI n t w e w' := by
  have HL : Hid (∀ wq, Below w.heap.size w wq → Calls Tryz.prog 172 #[.agg #[.int .i64 n.kind, .int .i64 n.tag, .int .i64 n.mode, .slice ka n.kids.length kc]] wq fun e w' => ∃ g, e = .returned (.slice (some ⟨g, 0, none⟩) n.lays.length n.lays.length) ∧ (∃ T, w'.heap[g]? = some (.cells (lcells n.lays).toArray T (0, 0))) ∧ Below wq.heap.size wq w') := fun wq q => layers_any n ka kc wq (hn.below q) ht hk hk' hm1
  have HS : Hid (Sent w sn) := hsn
  have hlen : n.lays.length ≤ 2 := by unfold Nd.lays; split <;> simp
  clear hsn hn hm1
  obtain ⟨L, hL⟩ : ∃ L, n.lays = L := ⟨_, rfl⟩
  have HLL : Hid (n.lays = L) := hL
  rw [hL] at HL hlen
  clear hL
  go_enter Tryz.func137, Tryz.ntmps137
  go_wp2_with fail
  refine (HL.out _ ((Below.refl _ _).alloc (Nat.le_refl _) _)).mono ?_
  rintro e w1 ⟨g, rfl, ⟨T, hG⟩, hb1⟩
  have HB1 : Hid (Below w.heap.size w w1) := below_alloc hb1
  have HG : Hid (w1.heap[g]? = some (.cells (lcells L).toArray T (0, 0))) := hG
  clear hb1 hG
  go_wp2
  go_loopw [1, 13] (fun v1 vj wr => ∃ (j : Nat) (u : ByteArray), vj = .int .i64 j ∧ v1 = .string u ∧ j ≤ L.length ∧ strip L t = strip (L.drop j) u ∧ u.size ≤ t.size ∧ Below w1.heap.size w1 wr) (fun _ vj _ => L.length - (intOf vj).toNat)
  case atStart => exact ⟨0, t, rfl, rfl, Nat.zero_le _, rfl, Nat.le_refl _, Below.refl _ _⟩
  case round =>
    obtain ⟨j, u, rfl, rfl, hj, hst, hu, hbr⟩ := hrel
    have HST : Hid (strip L t = strip (L.drop j) u) := hst
    have HB : Hid (Below w1.heap.size w1 wr) := hbr
    have HBW : Hid (Below w.heap.size w wr) := HB1.out.trans (hbr.mono HB1.out.size)
    have hGr := block_below HG.out hbr
    by_cases hlt : j < L.length
    · have hlt' : (j : Int) < L.length := by omega
      obtain ⟨c, m, b, hf⟩ : ∃ c m b, L[j]? = some (c, m, b) := ⟨(L[j]).1, (L[j]).2.1, (L[j]).2.2, by rw [List.getElem?_eq_getElem hlt]⟩
      have HF : Hid (L.drop j = (c, m, b) :: L.drop (j + 1)) := by
        show L.drop j = _
        rw [List.drop_eq_getElem_cons hlt]
        rw [List.getElem?_eq_getElem hlt] at hf
        injection hf with hf
        rw [hf]
      have hcell : wr.cell? ⟨g, j * 3, none⟩ = some (.int .i64 c) ∧ wr.cell? ⟨g, j * 3 + 1, none⟩ = some (.int .i64 m) ∧ wr.cell? ⟨g, j * 3 + 2, none⟩ = some (.bool b) := by
        simp only [World.cell?, hGr]
        match L, hlen, j, hlt, hf with
        | [f0], _, 0, _, hf => simp at hf; subst hf; simp [lcells]
        | [f0, f1], _, 0, _, hf => simp at hf; subst hf; simp [lcells]
        | [f0, f1], _, 1, _, hf => simp at hf; subst hf; simp [lcells]
      obtain ⟨g0, g1, g2⟩ := hcell
      have HRD : Hid (∀ wq, Below w.heap.size w wq → Calls Tryz.prog 156 #[.string u, .int .i64 0] wq fun e w' => e = .returned (.tuple #[hv (hd u).2, errAt 0 sn (hd u).1]) ∧ Below wq.heap.size wq w') := fun wq q => read0 u wq sn (HS.out.below q) (by omega)
      have hlg := lt_of_cell g0
      simp only at hlg
      clear hst hbr hGr hf
      go_wp2_with fail
      refine (HRD.out _ (HBW.out.alloc HBW.out.size _)).mono ?_
      rintro e w2 ⟨rfl, hb2⟩
      have HB2 : Hid (Below w1.heap.size w1 w2) := HB.out.trans ((below_alloc hb2).mono HB.out.size)
      have HBW2 : Hid (Below w.heap.size w w2) := HBW.out.trans ((below_alloc hb2).mono HBW.out.size)
      have hF := block_below (heap_alloc_new wr (.cells #[.int .i64 c, .int .i64 m, .bool b] 149)) hb2
      have hs2 := lt_of_block hF
      have t0 : w2.cell? ⟨wr.heap.size, 0, none⟩ = some (.int .i64 c) := by simp [World.cell?, hF]
      have t1 : w2.cell? ⟨wr.heap.size, 1, none⟩ = some (.int .i64 m) := by simp [World.cell?, hF]
      have t2 : w2.cell? ⟨wr.heap.size, 2, none⟩ = some (.bool b) := by simp [World.cell?, hF]
      obtain ⟨hc, hb, hn, hz, hl, hH⟩ : ∃ hc hb hn hz hl, (hd u).2 = ⟨hc, hb, hn, hz, hl⟩ := ⟨_, _, _, _, _, rfl⟩
      have HH : Hid ((hd u).2 = ⟨hc, hb, hn, hz, hl⟩) := hH
      rw [hH]
      unfold hv
      clear hb2 hF hH g0 g1 g2
      by_cases hk0 : (hd u).1 = 0
      · have HK : Hid ((hd u).1 = 0) := hk0
        have hok := hd_ok hk0
        rw [HH.out] at hok
        simp only at hok
        obtain ⟨z, rfl⟩ : ∃ z : Nat, hz = z := ⟨hz.toNat, by omega⟩
        obtain ⟨l, rfl⟩ : ∃ l : Nat, hl = l := ⟨hl.toNat, by omega⟩
        have e0 : errAt 0 sn (hd u).1 = .nilIface := by rw [hk0]; rfl
        rw [e0]
        have HFO : Hid (∀ wq, Calls Tryz.prog 157 #[.agg #[.int .i64 hc, .bool hb, .int .i64 hn, .int .i64 z, .int .i64 l]] wq fun e w' => e = .returned (.agg #[.int .i64 hc, .int .i64 hn, .bool hb]) ∧ Below wq.heap.size wq w') := fun wq => firstOf_any hc hb hn z l wq
        have HBW3 : Hid (Below w.heap.size w (w2.alloc (.cells #[.int .i64 hc, .bool hb, .int .i64 hn, .int .i64 z, .int .i64 l] 179))) := HBW2.out.alloc HBW2.out.size _
        have HB3 : Hid (Below w1.heap.size w1 (w2.alloc (.cells #[.int .i64 hc, .bool hb, .int .i64 hn, .int .i64 z, .int .i64 l] 179))) := HB2.out.alloc HB2.out.size _
        have X0 : ∀ x : Ext (w2.alloc (.cells #[.int .i64 hc, .bool hb, .int .i64 hn, .int .i64 z, .int .i64 l] 179)), x.v.cell? ⟨w2.heap.size, 0, none⟩ = some (.int .i64 hc) := fun x => x.new rfl
        have X1 : ∀ x : Ext (w2.alloc (.cells #[.int .i64 hc, .bool hb, .int .i64 hn, .int .i64 z, .int .i64 l] 179)), x.v.cell? ⟨w2.heap.size, 1, none⟩ = some (.bool hb) := fun x => x.new rfl
        have X2 : ∀ x : Ext (w2.alloc (.cells #[.int .i64 hc, .bool hb, .int .i64 hn, .int .i64 z, .int .i64 l] 179)), x.v.cell? ⟨w2.heap.size, 2, none⟩ = some (.int .i64 hn) := fun x => x.new rfl
        have X3 : ∀ x : Ext (w2.alloc (.cells #[.int .i64 hc, .bool hb, .int .i64 hn, .int .i64 z, .int .i64 l] 179)), x.v.cell? ⟨w2.heap.size, 3, none⟩ = some (.int .i64 z) := fun x => x.new rfl
        have X4 : ∀ x : Ext (w2.alloc (.cells #[.int .i64 hc, .bool hb, .int .i64 hn, .int .i64 z, .int .i64 l] 179)), x.v.cell? ⟨w2.heap.size, 4, none⟩ = some (.int .i64 l) := fun x => x.new rfl
        have Y0 : ∀ x : Ext (w2.alloc (.cells #[.int .i64 hc, .bool hb, .int .i64 hn, .int .i64 z, .int .i64 l] 179)), x.v.cell? ⟨wr.heap.size, 0, none⟩ = some (.int .i64 c) := fun x => x.old t0
        have Y1 : ∀ x : Ext (w2.alloc (.cells #[.int .i64 hc, .bool hb, .int .i64 hn, .int .i64 z, .int .i64 l] 179)), x.v.cell? ⟨wr.heap.size, 1, none⟩ = some (.int .i64 m) := fun x => x.old t1
        have Y2 : ∀ x : Ext (w2.alloc (.cells #[.int .i64 hc, .bool hb, .int .i64 hn, .int .i64 z, .int .i64 l] 179)), x.v.cell? ⟨wr.heap.size, 2, none⟩ = some (.bool b) := fun x => x.old t2
        have hzl : (z : Int) + l ≤ 9223372036854775807 := by omega
        clear hk0 e0
        by_cases hq : hc = c ∧ hn = m ∧ hb = b
        · obtain ⟨rfl, rfl, rfl⟩ := hq
          go_wp2_with fail
          (have ne := ext_ne; refine wp_region_ext (by kernel_rfl) (by kernel_rfl) ?_; (repeat (first | go_big_quiet_skip | (go_big_quiet_want; go_big_quiet_op; first | go_big_quiet_on | (apply Exists.intro; refine ⟨fun x => ?_, ?_⟩; (· (exact Ext.calls (HFO.out x.v))); go_big_quiet_on)))); refine nil_ext ?_)
          intro w5 hb5
          have z3 := X3 ⟨w5, hb5⟩
          have HB5 : Hid (Below w1.heap.size w1 w5) := HB3.out.trans (hb5.mono HB3.out.size)
          have HBW5 : Hid (Below w.heap.size w w5) := HBW3.out.trans (hb5.mono HBW3.out.size)
          have HS5 : Hid (w2.heap.size < w5.heap.size) := lt_of_cell z3
          simp only at z3
          clear X0 X1 X2 X3 X4 Y0 Y1 Y2 hb5
          by_cases hsz : (z : Int) + l = u.size
          · have hsz' : ((z : Int) + l != u.size) = false := by rw [bne_eq_false_iff_eq]; exact hsz
            have hzu : (z : Int) ≤ u.size := by omega
            go_wp2
            go_roundw
            case rel =>
              refine ⟨j + 1, u.extract z u.size, by go_num, rfl, by omega, ?_, ?_, HB5.out⟩
              · rw [HST.out, HF.out]
                show (if _ then _ else _) = _
                rw [HH.out, if_pos ⟨HK.out, rfl, hsz⟩]
                rfl
              · have : (u.extract z u.size).size = u.size - z := by simp
                omega
            case measure => simp [intOf]; omega
          · have hsz' : ((z : Int) + l != u.size) = true := by rw [bne_iff_ne]; exact hsz
            have HNO : Hid (strip L t = none) := by show strip L t = none; rw [HST.out, HF.out]; unfold strip; rw [if_neg (fun q => hsz (by have := q.2.2; rw [HH.out] at this; exact this))]
            clear hsz
            go_wp2
            go_ret2
            exact ⟨⟨#[]⟩, false, rfl, .inr ⟨rfl, by rw [HLL.out]; exact HNO.out⟩, HBW5.out, by exact Nat.zero_le _⟩
        · have HNO : Hid (strip L t = none) := by show strip L t = none; rw [HST.out, HF.out]; unfold strip; rw [if_neg (fun q => hq (by have := q.2.1; rw [HH.out] at this; simpa using this))]
          have hq3 : ¬ hc = c ∨ (hc = c ∧ ¬ hn = m) ∨ (hc = c ∧ hn = m ∧ ¬ hb = b) := by
            by_cases a1 : hc = c
            · by_cases a2 : hn = m
              · exact .inr (.inr ⟨a1, a2, fun a3 => hq ⟨a1, a2, a3⟩⟩)
              · exact .inr (.inl ⟨a1, a2⟩)
            · exact .inl a1
          clear hq
          rcases hq3 with hq | ⟨rfl, hq⟩ | ⟨rfl, rfl, hq⟩
          all_goals
            go_wp2_with fail
            (have ne := ext_ne; refine wp_region_ext (by kernel_rfl) (by kernel_rfl) ?_; (repeat (first | go_big_quiet_skip | (go_big_quiet_want; go_big_quiet_op; first | go_big_quiet_on | (apply Exists.intro; refine ⟨fun x => ?_, ?_⟩; (· (exact Ext.calls (HFO.out x.v))); go_big_quiet_on)))); refine nil_ext ?_)
            intro w5 hb5
            have HBW5 : Hid (Below w.heap.size w w5) := HBW3.out.trans (hb5.mono HBW3.out.size)
            clear X0 X1 X2 X3 X4 Y0 Y1 Y2 hb5
            go_wp2
            go_ret2
            exact ⟨⟨#[]⟩, false, rfl, .inr ⟨rfl, by rw [HLL.out]; exact HNO.out⟩, HBW5.out, by exact Nat.zero_le _⟩
      · have HK : Hid (¬ (hd u).1 = 0) := hk0
        have HNO : Hid (strip L t = none) := by show strip L t = none; rw [HST.out, HF.out]; unfold strip; rw [if_neg (fun q => hk0 q.1)]
        obtain ⟨fp, fa, he⟩ : ∃ fp fa, errAt 0 sn (hd u).1 = fault fp fa := by
          unfold errAt
          rw [if_neg hk0]
          repeat' split
          all_goals exact ⟨_, _, rfl⟩
        rw [he]
        unfold fault
        clear hk0 he
        go_wp2_with fail
        go_quiet (fail)
        go_wp2
        go_ret2
        exact ⟨⟨#[]⟩, false, rfl, .inr ⟨rfl, by rw [HLL.out]; exact HNO.out⟩, below_drewN (HBW2.out.alloc HBW2.out.size _) _, by exact Nat.zero_le _⟩
    · have hlt' : (L.length : Int) ≤ j := by omega
      have HE : Hid (strip L t = some u) := by show strip L t = some u; rw [hst, List.drop_of_length_le (by omega)]; rfl
      clear hst hbr hGr
      go_wp2
      go_ret2
      exact ⟨u, true, rfl, .inl ⟨rfl, by rw [HLL.out]; exact HE.out⟩, HBW.out, hu⟩
end Go.Proofs.YtkkicodfpekbgaaGreatDoor

/-! schemas.beginningsOf: what it answers. -/
namespace Go.Proofs.YtkkicodfpekbgaaGreatDoor
set_option linter.unusedSimpArgs false
set_option linter.unusedVariables false
open Go.RowKit

/-- Tags as Go's cells. -/
def tcells (ts : List (Int × Int)) : List Value := ts.flatMap fun t => [.int .i64 t.1, .int .i64 t.2]
theorem tcells_append (l : List (Int × Int)) (t : Int × Int) : tcells (l ++ [t]) = tcells l ++ [.int .i64 t.1, .int .i64 t.2] := by unfold tcells; simp
/-- The tags of leaves. -/
def tgs (s : List Nd) (l : List Nat) : List (Int × Int) := (l.filter fun j => !(nd s j).everyB).map fun j => (nd s j).outer
theorem tgs_no {s : List Nd} {l : List Nat} {x : Nat} (h : ¬ (nd s x).every) : tgs s (l ++ [x]) = tgs s l ++ [(nd s x).outer] := by unfold tgs; rw [List.filter_append]; simp [Nd.everyB_no h]
theorem tgs_yes {s : List Nd} {l : List Nat} {x : Nat} (h : (nd s x).every) : tgs s (l ++ [x]) = tgs s l := by unfold tgs; rw [List.filter_append]; simp [Nd.everyB_yes h]
theorem tgs_le (s : List Nd) (l : List Nat) : (tgs s l).length ≤ l.length := by unfold tgs; simp; exact List.length_filter_le _ _
theorem mem_tgs {s : List Nd} {l : List Nat} {t : Int × Int} : t ∈ tgs s l ↔ ∃ j ∈ l, ¬ (nd s j).every ∧ (nd s j).outer = t := by
  unfold tgs
  rw [List.mem_map]
  constructor
  · rintro ⟨j, hj, e⟩
    rw [List.mem_filter] at hj
    exact ⟨j, hj.1, fun q => (by have := hj.2; rw [Nd.everyB_yes q] at this; cases this), e⟩
  · rintro ⟨j, hj, h, e⟩
    exact ⟨j, by rw [List.mem_filter]; exact ⟨hj, by rw [Nd.everyB_no h]; rfl⟩, e⟩
/-- What it answers. -/
def RetT (s : List Nd) (i : Nat) (w : World) (e : Ending) (w' : World) : Prop :=
  ∃ (all : Bool) (vt : Value) (ts : List (Int × Int)), e = .returned (.agg #[.bool all, vt]) ∧ w'.ownsRow w.heap.size 147 2 vt ts.length (tcells ts) ∧ Below w.heap.size w w' ∧ ts.length ≤ 41 ∧
    (all = true ↔ ∃ j, Leaf s i j ∧ (nd s j).every) ∧ (∀ t, t ∈ ts ↔ ∃ j, Leaf s i j ∧ ¬ (nd s j).every ∧ (nd s j).outer = t)
def Tryz.zeroTag : Value := .agg #[.int .i64 0, .int .i64 0]
theorem Tryz.infoTag : (Tryz.prog.info? 147).map (fun i => (i.zero, i.size, i.bytes)) = some (some Tryz.zeroTag, 2, 16) := by kernel_rfl
/-- What beginningsOf holds in memory. -/
structure BgW (s : List Nd) (w wr : World) (dn : List Nat) (all : Bool) (vt : Value) : Prop where
  res : wr.heap[w.heap.size]? = some (.cells #[.bool false, .slice none 0 0] 174 (0, 0))
  blk : wr.heap[w.heap.size + 1]? = some (.cells #[.bool all, vt] 174 (0, 0))
  own : wr.ownsRow w.heap.size 147 2 vt (tgs s dn).length (tcells (tgs s dn))
  alls : all = true ↔ ∃ j ∈ dn, (nd s j).every
  bel : Below w.heap.size w wr
theorem BgW.below {s : List Nd} {w wr w' : World} {dn : List Nat} {all : Bool} {vt : Value} (h : BgW s w wr dn all vt) (hb : Below wr.heap.size wr w') : BgW s w w' dn all vt :=
  ⟨block_below h.res hb, block_below h.blk hb, own_below h.own hb, h.alls, h.bel.trans (hb.mono h.bel.size)⟩

theorem BgW.setAll {s : List Nd} {w wr : World} {dn : List Nat} {all : Bool} {vt : Value} {x : Nat} (h : BgW s w wr dn all vt) (hx : (nd s x).every) : BgW s w (wr.setCell ⟨w.heap.size + 1, 0, none⟩ (.bool true)) (dn ++ [x]) true vt where
  res := by rw [heap_setCell_other _ _ _ _ (by simp)]; exact h.res
  blk := heap_setCell_same wr _ 0 _ _ _ h.blk
  own := by rw [tgs_yes hx]; exact ownsRow_setCell_other h.own (row_ne1 h.blk h.own (by decide)) _
  alls := ⟨fun _ => ⟨x, by simp, hx⟩, fun _ => rfl⟩
  bel := h.bel.setCell (by simp) _
theorem BgW.put {s : List Nd} {w wr w' : World} {dn : List Nat} {all : Bool} {vt : Value} {x g cap : Nat} {o : Obj} (h : BgW s w wr dn all vt) (hx : ¬ (nd s x).every)
    (h1 : w'.ownsRow w.heap.size 147 2 (.slice (some ⟨g, 0, none⟩) ((tgs s dn).length + 1) cap) ((tgs s dn).length + 1) (tcells (tgs s dn) ++ [.int .i64 (nd s x).outer.1, .int .i64 (nd s x).outer.2]))
    (h2 : (wr.alloc o).grownBy w' vt.ownBlock) : BgW s w (w'.setCell ⟨w.heap.size + 1, 1, none⟩ (.slice (some ⟨g, 0, none⟩) ((tgs s dn).length + 1) cap)) (dn ++ [x]) all (.slice (some ⟨g, 0, none⟩) ((tgs s dn).length + 1) cap) := by
  have hb : Below w.heap.size w (wr.alloc o) := h.bel.alloc h.bel.size o
  have k1 : w'.heap[w.heap.size]? = some _ := keep_other h.res (row_ne1 h.res h.own (by decide)) h2
  have k2 : w'.heap[w.heap.size + 1]? = some _ := keep_other h.blk (row_ne1 h.blk h.own (by decide)) h2
  exact {
    res := by rw [heap_setCell_other _ _ _ _ (by simp)]; exact k1
    blk := heap_setCell_same w' _ 1 _ _ _ k2
    own := by
      rw [tgs_no hx, tcells_append, List.length_append]
      exact ownsRow_setCell_other h1 (row_ne1 k2 h1 (by decide)) _
    alls := by
      rw [h.alls]
      constructor
      · rintro ⟨j, hj, q⟩; exact ⟨j, by simp [hj], q⟩
      · rintro ⟨j, hj, q⟩
        rcases List.mem_append.1 hj with hj | hj
        · exact ⟨j, hj, q⟩
        · simp at hj; subst hj; exact absurd q hx
    bel := (hb.grown h2 hb.size (fun k hk => (h.own.lt k hk).1)).setCell (by simp) _ }
theorem BgW.cell1 {s : List Nd} {w wr : World} {dn : List Nat} {all : Bool} {vt : Value} (h : BgW s w wr dn all vt) : wr.cell? ⟨w.heap.size + 1, 1, none⟩ = some vt := by simp [World.cell?, h.blk]
theorem BgW.froz1 {s : List Nd} {w wr : World} {dn : List Nat} {all : Bool} {vt : Value} (h : BgW s w wr dn all vt) : wr.frozen? ⟨w.heap.size + 1, 1, none⟩ = false := by simp [World.frozen?, h.blk]
theorem BgW.cell_kept {s : List Nd} {w wr w' : World} {dn : List Nat} {all : Bool} {vt : Value} {o : Obj} (h : BgW s w wr dn all vt) (h2 : (wr.alloc o).grownBy w' vt.ownBlock) : w'.cell? ⟨w.heap.size + 1, 1, none⟩ = some vt ∧ w'.frozen? ⟨w.heap.size + 1, 1, none⟩ = false := by
  have k2 := keep_other h.blk (row_ne1 h.blk h.own (by decide)) h2
  exact ⟨by simp [World.cell?, k2], by simp [World.frozen?, k2]⟩
/-- Two rows of different types lie apart. -/
theorem row_ne2 {w : World} {b1 b2 s1 s2 n1 n2 : Nat} {e1 e2 : TypeId} {v1 v2 : Value} {x1 x2 : List Value} (h1 : w.ownsRow b1 e1 s1 v1 n1 x1) (h2 : w.ownsRow b2 e2 s2 v2 n2 x2) (hT : e2 ≠ e1) : v2.ownBlock = none ∨ v2.ownBlock ≠ v1.ownBlock := by
  rcases h2.2 with ⟨q, _⟩ | ⟨g, cap, cur, q, _, hg, _⟩
  · left; rw [q]; rfl
  · right
    intro e
    have : v1.ownBlock = some g := by rw [← e, q]; rfl
    exact row_ne1 hg h1 hT this
set_option maxHeartbeats 2000000 in
set_option maxRecDepth 100000 in
theorem beginningsOf_any (s : List Nd) (a : Option Addr) (c i : Nat) (w : World) (hs : Sch w a s) (hw : Within s) (htg : Tags s) (hkd : Kinds s) (hnm : Nums w) (hi : i < s.length) (hn : s.length ≤ 40) :
    Calls Tryz.prog 97 #[.slice a s.length c, .int .i64 i] w fun e w' => RetT s i w e w' := by
  have HS : Hid (Sch w a s) := hs
  have HN : Hid (Nums w) := hnm
  have HTG : Hid (Tags s) := htg
  have HKD : Hid (Kinds s) := hkd
  have HW : Hid (Within s) := hw
  have HR : Hid (∀ wr, Below w.heap.size w wr → Calls Tryz.prog 96 #[.slice a s.length c, .int .i64 i] wr fun e w' => RetE s i wr e w') := fun wr hb => reach_any s a c i wr (hs.below hb) hw htg hi hn
  clear hs hw htg hkd hnm
  obtain ⟨i0, hi0, hz0, hz1, hz2⟩ := info_parts Tryz.infoTag
  go_enter Tryz.func97, Tryz.ntmps97
  go_wp2_with fail
  refine (HR.out _ (((Below.refl _ _).alloc (Nat.le_refl _) _).alloc (by simp) _)).mono ?_
  rintro e w1 ⟨v, l, bk, rfl, hown, hb1, hl, hlf, _⟩
  obtain ⟨va, vc, rfl, hva⟩ := own_form hown
  have HA : Hid (0 < l.length → ∃ g, va = some ⟨g, 0, none⟩) := hva
  have HF : Hid (∀ j, j ∈ l ↔ Leaf s i j) := hlf
  have HB0 : Hid (BgW s w w1 [] false (.slice none 0 0)) := ⟨block_below (block_below (heap_alloc_new w _) ((Below.refl _ _).alloc (Nat.le_refl _) _)) hb1, block_below (by simpa using heap_alloc_new (w.alloc _) _) hb1, World.ownsRow_nil _ _ _ _, by simp, below_alloc (below_alloc hb1)⟩
  have HO : Hid (w1.ownsRow w.heap.size 3 1 (.slice va l.length vc) l.length (ivs l)) := by
    obtain ⟨q1, q2⟩ := hown
    refine ⟨q1, ?_⟩
    rcases q2 with q2 | ⟨g, cap, cur, q3, q4, q5⟩
    · exact .inl q2
    · exact .inr ⟨g, cap, cur, q3, by simp at q4; omega, q5⟩
  clear hown hb1 hlf hva HR
  go_wp2
  go_loopw [19] (fun vj wr => ∃ j all vt, vj = .int .i64 (j : Nat) ∧ j ≤ l.length ∧ BgW s w wr (l.take j) all vt ∧ wr.ownsRow w.heap.size 3 1 (.slice va l.length vc) l.length (ivs l)) (fun vj _ => l.length - (intOf vj).toNat)
  case atStart => exact ⟨0, false, _, rfl, Nat.zero_le _, by simpa using HB0.out, HO.out⟩
  case round =>
    obtain ⟨j, all, vt, rfl, hj, hB, hO⟩ := hrel
    have HB : Hid (BgW s w wr (l.take j) all vt) := hB
    have HOw : Hid (wr.ownsRow w.heap.size 3 1 (.slice va l.length vc) l.length (ivs l)) := hO
    have hsz : w.heap.size + 1 < wr.heap.size := by
      have := hB.blk
      rcases Nat.lt_or_ge (w.heap.size + 1) wr.heap.size with h' | h'
      · exact h'
      · rw [Array.getElem?_eq_none h'] at this; cases this
    have t0 : wr.cell? ⟨w.heap.size + 1, 0, none⟩ = some (.bool all) := by simp [World.cell?, hB.blk]
    have t1 : wr.cell? ⟨w.heap.size + 1, 1, none⟩ = some vt := by simp [World.cell?, hB.blk]
    have f0 : wr.frozen? ⟨w.heap.size + 1, 0, none⟩ = false := by simp [World.frozen?, hB.blk]
    have f1 : wr.frozen? ⟨w.heap.size + 1, 1, none⟩ = false := by simp [World.frozen?, hB.blk]
    by_cases hlt : j < l.length
    · obtain ⟨g, rfl⟩ := HA.out (by omega)
      have cj := own_cell hO hlt
      have HX : Hid (l.getD j 0 ∈ l) := by show _ ∈ l; rw [List.getD_eq_getElem?_getD, List.getElem?_eq_getElem hlt]; exact List.getElem_mem hlt
      have HTK : Hid (l.take (j + 1) = l.take j ++ [l.getD j 0]) := by show l.take (j + 1) = _; rw [List.take_add_one, List.getElem?_eq_getElem hlt]; simp [hlt]
      generalize l.getD j 0 = x at cj HX HTK
      have hLX : Leaf s i x := (HF.out x).1 HX.out
      have hxs : x < s.length := hLX.1.lt HW.out hi
      have hkx := HKD.out x hxs
      have htx := HTG.out x hxs
      have hx12 : ¬ (nd s x).every → (nd s x).tag < 0 → (nd s x).kind ≤ 12 := fun h1 h2 => by
        have a1 : (nd s x).kind ≠ 14 := fun e => h1 ⟨e, h2⟩
        have a2 : (nd s x).kind ≠ 13 := fun e => hLX.2 ⟨e, h2⟩
        omega
      have HX12 : Hid (¬ (nd s x).every → (nd s x).tag < 0 → (nd s x).kind ≤ 12) := hx12
      obtain ⟨b, o, ka, kc, rfl, nc, kl, km, ks⟩ := HS.out x hxs
      obtain ⟨n1, n2, n3, n4⟩ := nc.below hB.bel
      have hlt' : (j : Int) < l.length := by omega
      have hxs' : (x : Int) < s.length := by omega
      clear hB hO ks nc hLX hx12
      by_cases hev : (nd s x).every
      · have e1 : ((nd s x).kind == 14) = true := by simp [hev.1]
        have e2 : ((nd s x).tag == -1) = true := by have := hev.2; rw [beq_iff_eq]; omega
        have HEV : Hid (nd s x).every := hev
        clear hev hkx htx
        go_wp2
        go_roundw
        case rel => exact ⟨j + 1, true, vt, by go_num, by omega, by rw [HTK.out]; exact (HB.out.setAll HEV.out).below ((Below.refl _ _).alloc (Nat.le_refl _) _), (ownsRow_setCell_other HOw.out (row_ne1 HB.out.blk HOw.out (by decide)) _).alloc _⟩
        case measure => simp [intOf]; omega
      · have HEV : Hid (¬ (nd s x).every) := hev
        have e12 : ((nd s x).kind == 14) = false ∨ (((nd s x).kind == 14) = true ∧ ((nd s x).tag == -1) = false) := by
          by_cases q : (nd s x).kind = 14
          · right
            exact ⟨by simp [q], by rw [beq_eq_false_iff_ne]; intro q2; exact hev ⟨q, by omega⟩⟩
          · left; simp [q]
        have HOT : Hid (∀ w', Nums w' → Calls Tryz.prog 140 #[.agg #[.int .i64 (nd s x).kind, .int .i64 (nd s x).tag, .int .i64 (nd s x).mode, .slice ka (nd s x).kids.length kc]] w' fun e w'' => e = .returned (.agg #[.int .i64 (nd s x).outer.1, .int .i64 (nd s x).outer.2]) ∧ Below w'.heap.size w' w'') := fun w' q => outerTag_any (nd s x) ka kc w' q htx (by omega) (fun q' => HX12.out HEV.out q')
        have RUN : Hid (∀ args w, (callFunc 140 args).run Tryz.prog w = .ok (.enter 140 args) w) := fun args w => run_enter Tryz.func140 (by kernel_rfl) (by rfl) args w
        have HNW : Hid (∀ o, Nums (wr.alloc o).drew) := fun o => HN.out.below ((HB.out.bel.alloc HB.out.bel.size o).drew)
        have BH : Hid (∀ o w5, Below (wr.alloc o).drew.heap.size (wr.alloc o).drew w5 → BgW s w w5 (l.take j) all vt) := fun o w5 q => (HB.out.below ((Below.refl wr.heap.size wr).alloc (Nat.le_refl _) o).drew).below q
        have OH : Hid (∀ o w5, Below (wr.alloc o).drew.heap.size (wr.alloc o).drew w5 → w5.ownsRow w.heap.size 3 1 (.slice (some ⟨g, 0, none⟩) l.length vc) l.length (ivs l)) := fun o w5 q => own_below (own_below HOw.out ((Below.refl wr.heap.size wr).alloc (Nat.le_refl _) o).drew) q
        have htl : (tgs s (l.take j)).length ≤ 41 := by have := tgs_le s (l.take j); have := List.length_take_le j l; omega
        clear hev hkx htx
        rcases e12 with e1 | ⟨e1, e2⟩
        · go_wp2_with fail
          go_region_law (first | (refine step_calls rfl 140 _ _ rfl #[.agg #[.int .i64 (nd s x).kind, .int .i64 (nd s x).tag, .int .i64 (nd s x).mode, .slice ka (nd s x).kids.length kc]] (by simp [Act.eval, Act.put]) (.agg #[.int .i64 (nd s x).outer.1, .int .i64 (nd s x).outer.2]) (fun w'' => Below ((wr.alloc (.cells #[.int .i64 (nd s x).kind, .int .i64 (nd s x).tag, .int .i64 (nd s x).mode, .slice ka (nd s x).kids.length kc] 58)).drew).heap.size ((wr.alloc (.cells #[.int .i64 (nd s x).kind, .int .i64 (nd s x).tag, .int .i64 (nd s x).mode, .slice ka (nd s x).kids.length kc] 58)).drew) w'') (RUN.out _ _) (HOT.out _ (HNW.out _)) ?_; intro w5 hb5; have HB5 := BH.out _ _ hb5; have HO5 := OH.out _ _ hb5; have t15 := HB5.cell1; have f15 := HB5.froz1; have hs5 := HB5.bel.size; have hl5 : w.heap.size + 1 < w5.heap.size := lt_of_cell t15; clear hb5) | (refine step_append_lies _ rfl (.tmp 37) (.tmp 40) 172 rfl w.heap.size 147 i0 Tryz.zeroTag 2 16 Tryz.underlying172 hi0 hz0 hz1 hz2 rfl (by decide) vt (tgs s (l.take j)).length (tcells (tgs s (l.take j))) (by simp [Act.eval, Act.put]) (HB5.own.alloc _) ⟨w5.heap.size, 0, none⟩ 1 1 [.int .i64 (nd s x).outer.1, .int .i64 (nd s x).outer.2] (by simp [Act.eval, Act.put]) rfl (World.news_of_block (heap_alloc_new w5 _)) (by intro u hu; simp at hu; rcases hu with rfl | rfl <;> rfl) (by decide) (by unfold maxLen; omega) (by omega) (by simp; omega) (w5.heap.size + 1) (by simp) ?_; intro g6 cap6 w6 h61 h62 h63 h64; have HB6 := HB5.put HEV.out h61 h62; have HO6 := (HO5.alloc _).kept h62 (row_ne2 HB5.own HO5 (by decide)); have t16 := HB5.cell_kept h62; have BK6 := keep_other HB5.blk (row_ne1 HB5.blk HB5.own (by decide)) h62; clear h61 h62 h63 h64))
          all_goals
            have HB7 : Hid (BgW s w (w6.setCell ⟨w.heap.size + 1, 1, none⟩ (.slice (some ⟨g6, 0, none⟩) ((tgs s (l.take j)).length + 1) cap6)) (l.take j ++ [x]) all (.slice (some ⟨g6, 0, none⟩) ((tgs s (l.take j)).length + 1) cap6)) := HB6
            have HO7 : Hid ((w6.setCell ⟨w.heap.size + 1, 1, none⟩ (.slice (some ⟨g6, 0, none⟩) ((tgs s (l.take j)).length + 1) cap6)).ownsRow w.heap.size 3 1 (.slice (some ⟨g, 0, none⟩) l.length vc) l.length (ivs l)) := ownsRow_setCell_other HO6 (row_ne1 BK6 HO6 (by decide)) _
            clear HB6 HO6 HB5 HO5 t15 f15 t16 hs5 hl5 BK6
            go_wp2
            go_roundw
            case rel => exact ⟨j + 1, all, _, by go_num, by omega, by rw [HTK.out]; exact HB7.out, HO7.out⟩
            case measure => simp [intOf]; omega
        · go_wp2_with fail
          go_region_law (first | (refine step_calls rfl 140 _ _ rfl #[.agg #[.int .i64 (nd s x).kind, .int .i64 (nd s x).tag, .int .i64 (nd s x).mode, .slice ka (nd s x).kids.length kc]] (by simp [Act.eval, Act.put]) (.agg #[.int .i64 (nd s x).outer.1, .int .i64 (nd s x).outer.2]) (fun w'' => Below ((wr.alloc (.cells #[.int .i64 (nd s x).kind, .int .i64 (nd s x).tag, .int .i64 (nd s x).mode, .slice ka (nd s x).kids.length kc] 58)).drew).heap.size ((wr.alloc (.cells #[.int .i64 (nd s x).kind, .int .i64 (nd s x).tag, .int .i64 (nd s x).mode, .slice ka (nd s x).kids.length kc] 58)).drew) w'') (RUN.out _ _) (HOT.out _ (HNW.out _)) ?_; intro w5 hb5; have HB5 := BH.out _ _ hb5; have HO5 := OH.out _ _ hb5; have t15 := HB5.cell1; have f15 := HB5.froz1; have hs5 := HB5.bel.size; have hl5 : w.heap.size + 1 < w5.heap.size := lt_of_cell t15; clear hb5) | (refine step_append_lies _ rfl (.tmp 37) (.tmp 40) 172 rfl w.heap.size 147 i0 Tryz.zeroTag 2 16 Tryz.underlying172 hi0 hz0 hz1 hz2 rfl (by decide) vt (tgs s (l.take j)).length (tcells (tgs s (l.take j))) (by simp [Act.eval, Act.put]) (HB5.own.alloc _) ⟨w5.heap.size, 0, none⟩ 1 1 [.int .i64 (nd s x).outer.1, .int .i64 (nd s x).outer.2] (by simp [Act.eval, Act.put]) rfl (World.news_of_block (heap_alloc_new w5 _)) (by intro u hu; simp at hu; rcases hu with rfl | rfl <;> rfl) (by decide) (by unfold maxLen; omega) (by omega) (by simp; omega) (w5.heap.size + 1) (by simp) ?_; intro g6 cap6 w6 h61 h62 h63 h64; have HB6 := HB5.put HEV.out h61 h62; have HO6 := (HO5.alloc _).kept h62 (row_ne2 HB5.own HO5 (by decide)); have t16 := HB5.cell_kept h62; have BK6 := keep_other HB5.blk (row_ne1 HB5.blk HB5.own (by decide)) h62; clear h61 h62 h63 h64))
          all_goals
            have HB7 : Hid (BgW s w (w6.setCell ⟨w.heap.size + 1, 1, none⟩ (.slice (some ⟨g6, 0, none⟩) ((tgs s (l.take j)).length + 1) cap6)) (l.take j ++ [x]) all (.slice (some ⟨g6, 0, none⟩) ((tgs s (l.take j)).length + 1) cap6)) := HB6
            have HO7 : Hid ((w6.setCell ⟨w.heap.size + 1, 1, none⟩ (.slice (some ⟨g6, 0, none⟩) ((tgs s (l.take j)).length + 1) cap6)).ownsRow w.heap.size 3 1 (.slice (some ⟨g, 0, none⟩) l.length vc) l.length (ivs l)) := ownsRow_setCell_other HO6 (row_ne1 BK6 HO6 (by decide)) _
            clear HB6 HO6 HB5 HO5 t15 f15 t16 hs5 hl5 BK6
            go_wp2
            go_roundw
            case rel => exact ⟨j + 1, all, _, by go_num, by omega, by rw [HTK.out]; exact HB7.out, HO7.out⟩
            case measure => simp [intOf]; omega
    · have hlt' : (l.length : Int) ≤ j := by omega
      obtain rfl : j = l.length := by omega
      have q0 : wr.cell? ⟨w.heap.size, 0, none⟩ = some (.bool false) := by simp [World.cell?, hB.res]
      have q1 : wr.cell? ⟨w.heap.size, 1, none⟩ = some (.slice none 0 0) := by simp [World.cell?, hB.res]
      have p0 : wr.frozen? ⟨w.heap.size, 0, none⟩ = false := by simp [World.frozen?, hB.res]
      have p1 : wr.frozen? ⟨w.heap.size, 1, none⟩ = false := by simp [World.frozen?, hB.res]
      have hsz' : w.heap.size < wr.heap.size := by omega
      rw [List.take_length] at HB
      obtain ⟨ta, tc, rfl, _⟩ := own_form hB.own
      have hle : (tgs s l).length ≤ 41 := by have := tgs_le s l; omega
      clear hB hO
      go_wp2
      refine bodyPost_ret (v := .agg #[.bool all, .slice ta (tgs s (l.take l.length)).length tc]) (by simp [results, Tryz.results97, go_sem, q0, q1, hsz']) rfl ⟨all, _, tgs s l, rfl, ?_, ?_, hle, ?_, ?_⟩
      · rw [List.take_length] at *
        have ne := row_ne1 HB.out.res HB.out.own (by decide)
        exact ownsRow_setCell_other (ownsRow_setCell_other HB.out.own ne _) ne _
      · exact (HB.out.bel.setCell (p := ⟨w.heap.size, 0, none⟩) (Nat.le_refl _) _).setCell (p := ⟨w.heap.size, 1, none⟩) (Nat.le_refl _) _
      · rw [HB.out.alls]
        exact ⟨fun ⟨j, h1, h2⟩ => ⟨j, (HF.out j).1 h1, h2⟩, fun ⟨j, h1, h2⟩ => ⟨j, (HF.out j).2 h1, h2⟩⟩
      · intro t
        rw [mem_tgs]
        exact ⟨fun ⟨j, h1, h2⟩ => ⟨j, (HF.out j).1 h1, h2⟩, fun ⟨j, h1, h2⟩ => ⟨j, (HF.out j).2 h1, h2⟩⟩
end Go.Proofs.YtkkicodfpekbgaaGreatDoor

/-! slices.Index, slices.Contains at tags; tagSet.meets: what they answer. -/
namespace Go.Proofs.YtkkicodfpekbgaaGreatDoor
set_option linter.unusedSimpArgs false
set_option linter.unusedVariables false
open Go.RowKit

/-- Tags behind an address. -/
def TagsIn (w : World) (a : Option Addr) (ts : List (Int × Int)) : Prop := ∀ j, j < ts.length → ∃ b o, a = some ⟨b, o, none⟩ ∧ w.cell? ⟨b, o + j * 2, none⟩ = some (.int .i64 (ts.getD j (0, 0)).1) ∧ w.cell? ⟨b, o + j * 2 + 1, none⟩ = some (.int .i64 (ts.getD j (0, 0)).2)
theorem TagsIn.below {w w' : World} {a : Option Addr} {ts : List (Int × Int)} (h : TagsIn w a ts) (hb : Below w.heap.size w w') : TagsIn w' a ts := fun j hj => by
  obtain ⟨b, o, e, h1, h2⟩ := h j hj
  exact ⟨b, o, e, (hb.cell (lt_of_cell h1)).trans h1, (hb.cell (lt_of_cell h2)).trans h2⟩

set_option maxHeartbeats 2000000 in
set_option maxRecDepth 100000 in
theorem index_any (ts : List (Int × Int)) (a : Option Addr) (c : Nat) (t : Int × Int) (w : World) (h : TagsIn w a ts) (hl : ts.length ≤ 41) :
    Calls Tryz.prog 199 #[.slice a ts.length c, .agg #[.int .i64 t.1, .int .i64 t.2]] w fun e w' => ∃ r, e = .returned (.int .i64 r) ∧ (0 ≤ r ↔ t ∈ ts) ∧ Below w.heap.size w w' := by
  obtain ⟨t1, t2⟩ := t
  have HI : Hid (TagsIn w a ts) := h
  clear h
  go_enter Tryz.func199, Tryz.ntmps199
  go_wp2
  go_loopw [8] (fun vj wr => ∃ j : Nat, vj = .int .i64 j ∧ j ≤ ts.length ∧ (∀ p, p < j → ts.getD p (0, 0) ≠ (t1, t2)) ∧ ∃ q, wr = (w.alloc (.cells #[.int .i64 t1, .int .i64 t2] 147)).drewN q) (fun vj _ => ts.length - (intOf vj).toNat)
  case atStart => exact ⟨0, rfl, Nat.zero_le _, fun _ h => absurd h (Nat.not_lt_zero _), 0, rfl⟩
  case round =>
    obtain ⟨j, rfl, hj, hno, q, rfl⟩ := hrel
    have HN : Hid (∀ p, p < j → ts.getD p (0, 0) ≠ (t1, t2)) := hno
    have HB : Hid (∀ q, Below w.heap.size w ((w.alloc (.cells #[.int .i64 t1, .int .i64 t2] 147)).drewN q)) := fun q => below_drewN ((Below.refl _ _).alloc (Nat.le_refl _) _) q
    clear hno
    by_cases hlt : j < ts.length
    · obtain ⟨b, o, rfl, c1, c2⟩ := HI.out j hlt
      have hbl : b < w.heap.size := lt_of_cell c1
      have hlt' : (j : Int) < ts.length := by omega
      have HM : Hid (ts.getD j (0, 0) ∈ ts) := by show _ ∈ ts; rw [List.getD_eq_getElem?_getD, List.getElem?_eq_getElem hlt]; exact List.getElem_mem hlt
      obtain ⟨u, hu⟩ : ∃ u, ts.getD j (0, 0) = u := ⟨_, rfl⟩
      have HU : Hid (ts.getD j (0, 0) = u) := hu
      rw [hu] at c1 c2
      clear hu
      obtain ⟨u1, u2⟩ := u
      simp only at c1 c2
      by_cases e : t1 = u1 ∧ t2 = u2
      · obtain ⟨rfl, rfl⟩ := e
        go_wp2
        go_quiet (fail)
        go_wp2
        go_ret
        exact ⟨j, rfl, ⟨fun _ => by rw [← HU.out]; exact HM.out, fun _ => by omega⟩, below_drewN (HB.out _) _⟩
      · have HE : Hid ((u1, u2) ≠ (t1, t2)) := fun q => e (by injection q with q1 q2; exact ⟨q1.symm, q2.symm⟩)
        by_cases e1 : t1 = u1
        · subst e1
          have e2 : (t2 == u2) = false := by rw [beq_eq_false_iff_ne]; exact fun q => e ⟨rfl, q⟩
          clear e
          go_wp2
          go_quiet (fail)
          go_wp2
          go_roundw
          case rel => exact ⟨j + 1, by go_num, by omega, fun p hp => by
            by_cases ep : p = j
            · subst ep; rw [HU.out]; exact HE.out
            · exact HN.out p (by omega), _, rfl⟩
          case measure => simp [intOf]; omega
        · have e2 : (t1 == u1) = false := by rw [beq_eq_false_iff_ne]; exact e1
          clear e e1
          go_wp2
          go_quiet (fail)
          go_wp2
          go_roundw
          case rel => exact ⟨j + 1, by go_num, by omega, fun p hp => by
            by_cases ep : p = j
            · subst ep; rw [HU.out]; exact HE.out
            · exact HN.out p (by omega), _, rfl⟩
          case measure => simp [intOf]; omega
    · have hlt' : (ts.length : Int) ≤ j := by omega
      go_wp2
      go_ret
      exact ⟨-1, rfl, ⟨fun h => absurd h (by decide), fun h => by
        obtain ⟨p, hp, e⟩ := List.getElem_of_mem h
        exact absurd (by rw [List.getD_eq_getElem?_getD, List.getElem?_eq_getElem hp]; simpa using e) (HN.out p (by omega))⟩, HB.out _⟩

set_option maxHeartbeats 1000000 in
set_option maxRecDepth 100000 in
theorem contains_any (ts : List (Int × Int)) (a : Option Addr) (c : Nat) (t : Int × Int) (w : World) (h : TagsIn w a ts) (hl : ts.length ≤ 41) :
    Calls Tryz.prog 180 #[.slice a ts.length c, .agg #[.int .i64 t.1, .int .i64 t.2]] w fun e w' => RetO (t ∈ ts) w e w' := by
  have HC : Hid (∀ w, TagsIn w a ts → Calls Tryz.prog 199 #[.slice a ts.length c, .agg #[.int .i64 t.1, .int .i64 t.2]] w fun e w' => ∃ r, e = .returned (.int .i64 r) ∧ (0 ≤ r ↔ t ∈ ts) ∧ Below w.heap.size w w') := fun w q => index_any ts a c t w q hl
  have HI : Hid (∀ o, TagsIn (w.alloc o) a ts) := fun o => h.below ((Below.refl _ _).alloc (Nat.le_refl _) _)
  clear h
  go_enter Tryz.func180, Tryz.ntmps180
  go_wp2_with fail
  refine (HC.out _ (HI.out _)).mono ?_
  rintro e w1 ⟨r, rfl, hr, hb⟩
  have HR : Hid (0 ≤ r ↔ t ∈ ts) := hr
  have HB : Hid (Below w.heap.size w w1) := below_alloc hb
  clear hr hb
  go_wp2
  go_ret
  exact reto_iff (by rw [decide_eq_true_iff]; exact HR.out) HB.out

/-- Beginnings as the program holds them. -/
structure Bgs (w : World) (all : Bool) (a : Option Addr) (ts : List (Int × Int)) : Prop where
  tags : TagsIn w a ts
  len : ts.length ≤ 41
/-- They have one in common. -/
def MeetsT (al1 al2 : Bool) (t1 t2 : List (Int × Int)) : Prop := al1 = true ∨ al2 = true ∨ ∃ t, t ∈ t1 ∧ t ∈ t2

set_option maxHeartbeats 2000000 in
set_option maxRecDepth 100000 in
theorem meets_any (al1 al2 : Bool) (a1 a2 : Option Addr) (c1 c2 : Nat) (t1 t2 : List (Int × Int)) (w : World) (h1 : TagsIn w a1 t1) (h2 : TagsIn w a2 t2) (hl1 : t1.length ≤ 41) (hl2 : t2.length ≤ 41) :
    Calls Tryz.prog 141 #[.agg #[.bool al1, .slice a1 t1.length c1], .agg #[.bool al2, .slice a2 t2.length c2]] w fun e w' => RetO (MeetsT al1 al2 t1 t2) w e w' := by
  have HC : Hid (∀ w t, TagsIn w a2 t2 → Calls Tryz.prog 180 #[.slice a2 t2.length c2, .agg #[.int .i64 t.1, .int .i64 t.2]] w fun e w' => RetO (t ∈ t2) w e w') := fun w t q => contains_any t2 a2 c2 t w q hl2
  have H1 : Hid (TagsIn w a1 t1) := h1
  have H2 : Hid (TagsIn w a2 t2) := h2
  clear h1 h2
  have hb0 : Below w.heap.size w ((w.alloc (.cells #[.bool al1, .slice a1 t1.length c1] 174)).alloc (.cells #[.bool al2, .slice a2 t2.length c2] 174)) := ((Below.refl _ _).alloc (Nat.le_refl _) _).alloc (by simp) _
  cases al1
  · cases al2
    · have HB0 : Hid (Below w.heap.size w ((w.alloc (.cells #[.bool false, .slice a1 t1.length c1] 174)).alloc (.cells #[.bool false, .slice a2 t2.length c2] 174))) := hb0
      clear hb0
      go_enter Tryz.func141, Tryz.ntmps141
      go_wp2
      obtain ⟨B, hB⟩ : ∃ B, B = w.heap.size + 1 := ⟨_, rfl⟩
      have HW0 : Hid (∀ wr, Below ((w.alloc (.cells #[.bool false, .slice a1 t1.length c1] 174)).alloc (.cells #[.bool false, .slice a2 t2.length c2] 174)).heap.size ((w.alloc (.cells #[.bool false, .slice a1 t1.length c1] 174)).alloc (.cells #[.bool false, .slice a2 t2.length c2] 174)) wr →
          wr.cell? ⟨B, 1, none⟩ = some (.slice a2 t2.length c2) ∧ Below w.heap.size w wr) := fun wr h => by
        have q := block_below (show _ = some (Obj.cells _ _ _) from heap_alloc_new (w.alloc (.cells #[.bool false, .slice a1 t1.length c1] 174)) (.cells #[.bool false, .slice a2 t2.length c2] 174)) h
        subst hB
        exact ⟨by simp at q; simp [World.cell?, q], below_alloc (below_alloc h)⟩
      generalize ((w.alloc (.cells #[.bool false, .slice a1 t1.length c1] 174)).alloc (.cells #[.bool false, .slice a2 t2.length c2] 174)) = W0 at *
      rw [← hB]
      clear hB
      go_loopw [16] (fun vj wr => ∃ j : Nat, vj = .int .i64 j ∧ j ≤ t1.length ∧ (∀ p, p < j → t1.getD p (0, 0) ∉ t2) ∧ Below W0.heap.size W0 wr) (fun vj _ => t1.length - (intOf vj).toNat)
      case atStart => exact ⟨0, rfl, Nat.zero_le _, fun _ h => absurd h (Nat.not_lt_zero _), Below.refl _ _⟩
      case round =>
        obtain ⟨j, rfl, hj, hno, hbr⟩ := hrel
        have HN : Hid (∀ p, p < j → t1.getD p (0, 0) ∉ t2) := hno
        have HB : Hid (Below W0.heap.size W0 wr) := hbr
        obtain ⟨d1, hbw⟩ := HW0.out wr hbr
        have HBW : Hid (Below w.heap.size w wr) := hbw
        clear hno hbr hbw
        by_cases hlt : j < t1.length
        · obtain ⟨b, o, rfl, c1', c2'⟩ := (H1.out.below HBW.out) j hlt
          have hlt' : (j : Int) < t1.length := by omega
          have HM : Hid (t1.getD j (0, 0) ∈ t1) := by show _ ∈ t1; rw [List.getD_eq_getElem?_getD, List.getElem?_eq_getElem hlt]; exact List.getElem_mem hlt
          obtain ⟨u, hu⟩ : ∃ u, t1.getD j (0, 0) = u := ⟨_, rfl⟩
          have HU : Hid (t1.getD j (0, 0) = u) := hu
          rw [hu] at c1' c2'
          clear hu
          have hbB := lt_of_cell d1
          go_wp2_with fail
          refine (HC.out _ u ((H2.out.below HBW.out).below ((Below.refl _ _).alloc (Nat.le_refl _) _))).mono ?_
          rintro e w3 ⟨r, rfl, hr, hb3⟩
          have HR : Hid (r = true ↔ u ∈ t2) := hr
          have HB3 : Hid (Below W0.heap.size W0 w3) := HB.out.trans ((below_alloc hb3).mono HB.out.size)
          have HBW3 : Hid (Below w.heap.size w w3) := HBW.out.trans ((below_alloc hb3).mono HBW.out.size)
          clear hr hb3
          cases r
          · go_wp2
            go_roundw
            case rel => exact ⟨j + 1, by go_num, by omega, fun p hp => by
              by_cases ep : p = j
              · subst ep; rw [HU.out]; exact fun q => Bool.noConfusion (HR.out.2 q)
              · exact HN.out p (by omega), HB3.out⟩
            case measure => simp [intOf]; omega
          · go_wp2
            go_ret
            exact reto_yes (.inr (.inr ⟨u, by rw [← HU.out]; exact HM.out, HR.out.1 trivial⟩)) HBW3.out
        · have hlt' : (t1.length : Int) ≤ j := by omega
          go_wp2
          go_ret
          exact reto_no (fun h => by
            rcases h with h | h | ⟨t, h1, h2⟩
            · cases h
            · cases h
            · obtain ⟨p, hp, e⟩ := List.getElem_of_mem h1
              refine HN.out p (by omega) ?_
              rw [List.getD_eq_getElem?_getD, List.getElem?_eq_getElem hp]
              simpa [e] using h2) HBW.out
    · have HB0 : Hid (Below w.heap.size w ((w.alloc (.cells #[.bool false, .slice a1 t1.length c1] 174)).alloc (.cells #[.bool true, .slice a2 t2.length c2] 174))) := hb0
      clear hb0
      go_enter Tryz.func141, Tryz.ntmps141
      go_wp2
      go_ret
      exact reto_yes (.inr (.inl rfl)) HB0.out
  · have HB0 : Hid (Below w.heap.size w ((w.alloc (.cells #[.bool true, .slice a1 t1.length c1] 174)).alloc (.cells #[.bool al2, .slice a2 t2.length c2] 174))) := hb0
    clear hb0
    go_enter Tryz.func141, Tryz.ntmps141
    go_wp2
    go_ret
    exact reto_yes (.inl rfl) HB0.out
end Go.Proofs.YtkkicodfpekbgaaGreatDoor

/-! schemas.AllBeginnings: what it answers. -/
namespace Go.Proofs.YtkkicodfpekbgaaGreatDoor
set_option linter.unusedSimpArgs false
set_option linter.unusedVariables false
open Go.RowKit

/-- What the beginnings of a node are. -/
def BegIs (s : List Nd) (i : Nat) (all : Bool) (ts : List (Int × Int)) : Prop := ts.length ≤ 41 ∧ (all = true ↔ ∃ j, Leaf s i j ∧ (nd s j).every) ∧ (∀ t, t ∈ ts ↔ ∃ j, Leaf s i j ∧ ¬ (nd s j).every ∧ (nd s j).outer = t)
/-- The first of them lie in a row that the call owns. -/
structure AbW (s : List Nd) (w wr : World) (m : Nat) : Prop where
  bel : Below w.heap.size w wr
  row : ∃ C : Array Value, wr.heap[w.heap.size]? = some (.cells C 174 (0, 0)) ∧ C.size = s.length * 2 ∧
    ∀ j, j < m → ∃ all vt ts, C[j * 2]? = some (.bool all) ∧ C[j * 2 + 1]? = some vt ∧ wr.ownsRow w.heap.size 147 2 vt ts.length (tcells ts) ∧ BegIs s j all ts
theorem AbW.below {s : List Nd} {w wr w' : World} {m : Nat} (h : AbW s w wr m) (hb : Below wr.heap.size wr w') : AbW s w w' m where
  bel := h.bel.trans (hb.mono h.bel.size)
  row := by
    obtain ⟨C, h1, h2, h3⟩ := h.row
    refine ⟨C, block_below h1 hb, h2, fun j hj => ?_⟩
    obtain ⟨all, vt, ts, q1, q2, q3, q4⟩ := h3 j hj
    exact ⟨all, vt, ts, q1, q2, own_below q3 hb, q4⟩
/-- One more is stored. -/
theorem AbW.put {s : List Nd} {w wr : World} {m : Nat} {all : Bool} {vt : Value} {ts : List (Int × Int)} (h : AbW s w wr m) (hm : m < s.length) (ho : wr.ownsRow w.heap.size 147 2 vt ts.length (tcells ts)) (hb : BegIs s m all ts) :
    AbW s w ((wr.setCell ⟨w.heap.size, m * 2, none⟩ (.bool all)).setCell ⟨w.heap.size, m * 2 + 1, none⟩ vt) (m + 1) where
  bel := (h.bel.setCell (p := ⟨w.heap.size, m * 2, none⟩) (Nat.le_refl _) _).setCell (p := ⟨w.heap.size, m * 2 + 1, none⟩) (Nat.le_refl _) _
  row := by
    obtain ⟨C, h1, h2, h3⟩ := h.row
    refine ⟨(C.setIfInBounds (m * 2) (.bool all)).setIfInBounds (m * 2 + 1) vt, heap_setCell_same _ _ _ _ _ _ (heap_setCell_same wr _ _ _ _ _ h1), by simp [h2], fun j hj => ?_⟩
    have own : ∀ {v : Value} {ts : List (Int × Int)}, wr.ownsRow w.heap.size 147 2 v ts.length (tcells ts) → ((wr.setCell ⟨w.heap.size, m * 2, none⟩ (.bool all)).setCell ⟨w.heap.size, m * 2 + 1, none⟩ vt).ownsRow w.heap.size 147 2 v ts.length (tcells ts) := fun q => by
      have ne := row_ne1 h1 q (by decide)
      exact ownsRow_setCell_other (ownsRow_setCell_other q ne _) ne _
    by_cases e : j = m
    · subst e
      refine ⟨all, vt, ts, ?_, ?_, own ho, hb⟩
      · rw [Array.getElem?_setIfInBounds, if_neg (by omega), Array.getElem?_setIfInBounds, if_pos rfl, if_pos (by omega)]
      · rw [Array.getElem?_setIfInBounds, if_pos rfl, if_pos (by simp; omega)]
    · obtain ⟨all', vt', ts', q1, q2, q3, q4⟩ := h3 j (by omega)
      refine ⟨all', vt', ts', ?_, ?_, own q3, q4⟩
      · rw [Array.getElem?_setIfInBounds, if_neg (by omega), Array.getElem?_setIfInBounds, if_neg (by omega)]; exact q1
      · rw [Array.getElem?_setIfInBounds, if_neg (by omega), Array.getElem?_setIfInBounds, if_neg (by omega)]; exact q2
def Tryz.zeroTs : Value := .agg #[.bool false, .slice none 0 0]
theorem Tryz.infoTs : (Tryz.prog.info? 174).map (fun i => (i.zero, i.size, i.bytes)) = some (some Tryz.zeroTs, 2, 32) := by kernel_rfl

set_option maxHeartbeats 2000000 in
set_option maxRecDepth 100000 in
theorem allBeginnings_any (s : List Nd) (a : Option Addr) (c : Nat) (w : World) (hs : Sch w a s) (hw : Within s) (htg : Tags s) (hkd : Kinds s) (hnm : Nums w) (hn : s.length ≤ 40) :
    Calls Tryz.prog 64 #[.slice a s.length c] w fun e w' => e = .returned (.slice (some ⟨w.heap.size, 0, none⟩) s.length s.length) ∧ AbW s w w' s.length := by
  have HR : Hid (∀ wr i, Below w.heap.size w wr → i < s.length → Calls Tryz.prog 97 #[.slice a s.length c, .int .i64 i] wr fun e w' => RetT s i wr e w') := fun wr i hb hi => beginningsOf_any s a c i wr (hs.below hb) hw htg hkd (hnm.below hb) hi hn
  clear hs hw htg hkd hnm
  obtain ⟨i0, hi0, hz0, hz1, hz2⟩ := info_parts Tryz.infoTs
  obtain ⟨w1, hrun, hown, hgr⟩ := run_make_full (P := Tryz.prog) w w.heap.size 120 174 i0 Tryz.zeroTs 2 Tryz.underlying120 hi0 hz0 hz1 .i64 .i64 s.length (by rw [hz2]; omega) (by unfold maxLen; omega) (Nat.le_refl _)
  have HA0 : Hid (AbW s w w1 0) := by
    refine ⟨(Below.refl w.heap.size w).grown hgr (Nat.le_refl _) (fun k hk => by cases hk), ?_⟩
    rcases hown.2 with ⟨q, _⟩ | ⟨g, cap, cur, q, _, q1, _, _, q2, _⟩
    · cases q
    · injection q with e1 _ e3
      injection e1 with e1
      injection e1 with e1 _ _
      subst e1 e3
      exact ⟨cur, q1, q2, fun j hj => absurd hj (Nat.not_lt_zero _)⟩
  clear hown hgr
  go_enter Tryz.func64, Tryz.ntmps64
  go_wp2
  go_loopw [10] (fun vj wr => ∃ j : Nat, vj = .int .i64 j ∧ j ≤ s.length ∧ AbW s w wr j) (fun vj _ => s.length - (intOf vj).toNat)
  case atStart => exact ⟨0, rfl, Nat.zero_le _, HA0.out⟩
  case round =>
    obtain ⟨j, rfl, hj, hA⟩ := hrel
    have HA : Hid (AbW s w wr j) := hA
    by_cases hlt : j < s.length
    · have hlt' : (j : Int) < s.length := by omega
      clear hA
      go_wp2_with fail
      refine (HR.out _ j HA.out.bel hlt).mono ?_
      rintro e w2 ⟨all, vt, ts, rfl, hown, hb2, hl, h1, h2⟩
      have HA2 : Hid (AbW s w w2 j) := HA.out.below hb2
      obtain ⟨ta, tc, rfl, _⟩ := own_form hown
      have HO2 : Hid (w2.ownsRow w.heap.size 147 2 (.slice ta ts.length tc) ts.length (tcells ts)) := by
        obtain ⟨q1, q2⟩ := hown
        refine ⟨q1, ?_⟩
        rcases q2 with q2 | ⟨g, cap, cur, q3, q4, q5⟩
        · exact .inl q2
        · exact .inr ⟨g, cap, cur, q3, Nat.le_trans HA.out.bel.size q4, q5⟩
      have HBI : Hid (BegIs s j all ts) := ⟨hl, h1, h2⟩
      have hC : ∀ k, k < s.length * 2 → (∃ u, w2.cell? ⟨w.heap.size, k, none⟩ = some u) ∧ w2.frozen? ⟨w.heap.size, k, none⟩ = false := fun k hk => by
        obtain ⟨C, q1, q2, _⟩ := HA2.out.row
        refine ⟨⟨C[k]'(by omega), by simp only [World.cell?, q1]; simp⟩, by simp [World.frozen?, q1]⟩
      obtain ⟨⟨u0, c0⟩, f0⟩ := hC (j * 2) (by omega)
      obtain ⟨⟨u1, c1⟩, f1⟩ := hC (j * 2 + 1) (by omega)
      clear hown hb2 h1 h2 hl hC
      go_wp2
      go_roundw
      case rel => exact ⟨j + 1, by go_num, by omega, HA2.out.put hlt HO2.out HBI.out⟩
      case measure => simp [intOf]; omega
    · have hlt' : (s.length : Int) ≤ j := by omega
      obtain rfl : j = s.length := by omega
      clear hA
      go_wp2
      go_ret
      exact ⟨rfl, HA.out⟩
end Go.Proofs.YtkkicodfpekbgaaGreatDoor

/-! Beginnings read again: the row that AllBeginnings leaves; two of them meet as the nodes do. -/
namespace Go.Proofs.YtkkicodfpekbgaaGreatDoor
set_option linter.unusedSimpArgs false
set_option linter.unusedVariables false
open Go.RowKit

theorem tcells_get (l : List (Int × Int)) (i : Nat) (hi : i < l.length) : (tcells l)[i * 2]? = some (.int .i64 (l.getD i (0, 0)).1) ∧ (tcells l)[i * 2 + 1]? = some (.int .i64 (l.getD i (0, 0)).2) := by
  induction l generalizing i with
  | nil => simp at hi
  | cons a l ih =>
    have e : tcells (a :: l) = [.int .i64 a.1, .int .i64 a.2] ++ tcells l := by unfold tcells; simp
    rw [e]
    cases i with
    | zero => simp
    | succ i =>
      have h := ih i (by simp at hi; omega)
      constructor
      · rw [List.getElem?_append_right (by simp; omega)]
        have : (i + 1) * 2 - [Value.int IntKind.i64 a.1, Value.int IntKind.i64 a.2].length = i * 2 := by simp; omega
        rw [this, h.1]; simp
      · rw [List.getElem?_append_right (by simp; omega)]
        have : (i + 1) * 2 + 1 - [Value.int IntKind.i64 a.1, Value.int IntKind.i64 a.2].length = i * 2 + 1 := by simp; omega
        rw [this, h.2]; simp
/-- The beginnings of all nodes lie in a row. -/
def AbR (w : World) (gb : Nat) (s : List Nd) : Prop := ∀ j, j < s.length → ∃ all ta tc ts, w.cell? ⟨gb, j * 2, none⟩ = some (.bool all) ∧ w.cell? ⟨gb, j * 2 + 1, none⟩ = some (.slice ta (ts : List (Int × Int)).length tc) ∧ TagsIn w ta ts ∧ BegIs s j all ts
theorem AbR.below {w w' : World} {gb : Nat} {s : List Nd} (h : AbR w gb s) (hb : Below w.heap.size w w') : AbR w' gb s := fun j hj => by
  obtain ⟨all, ta, tc, ts, h1, h2, h3, h4⟩ := h j hj
  exact ⟨all, ta, tc, ts, (hb.cell (lt_of_cell h1)).trans h1, (hb.cell (lt_of_cell h2)).trans h2, h3.below hb, h4⟩
theorem AbW.read {s : List Nd} {w wr : World} (h : AbW s w wr s.length) : AbR wr w.heap.size s := fun j hj => by
  obtain ⟨C, h1, h2, h3⟩ := h.row
  obtain ⟨all, vt, ts, q1, q2, q3, q4⟩ := h3 j hj
  obtain ⟨ta, tc, rfl, hta⟩ := own_form q3
  refine ⟨all, ta, tc, ts, by simp only [World.cell?, h1]; simpa using q1, by simp only [World.cell?, h1]; simpa using q2, fun k hk => ?_, q4⟩
  obtain ⟨g, rfl⟩ := hta (by omega)
  have a0 : ∀ p, (⟨g, 0, none⟩ : Addr).add p = ⟨g, p, none⟩ := fun p => by unfold Addr.add; split <;> simp_all
  have c0 := q3.cells (g := g) rfl _ _ (tcells_get ts k hk).1
  have c1 := q3.cells (g := g) rfl _ _ (tcells_get ts k hk).2
  rw [a0] at c0 c1
  exact ⟨g, 0, rfl, by simpa using c0, by simpa using c1⟩
theorem meetsT_iff {s : List Nd} {i k : Nat} {a1 a2 : Bool} {t1 t2 : List (Int × Int)} (h1 : BegIs s i a1 t1) (h2 : BegIs s k a2 t2) : MeetsT a1 a2 t1 t2 ↔ Meets s i k := by
  unfold MeetsT Meets
  rw [h1.2.1, h2.2.1]
  refine or_congr Iff.rfl (or_congr Iff.rfl ⟨?_, ?_⟩)
  · rintro ⟨t, q1, q2⟩
    obtain ⟨j, r1, r2, r3⟩ := (h1.2.2 t).1 q1
    obtain ⟨l, r4, r5, r6⟩ := (h2.2.2 t).1 q2
    exact ⟨j, l, r1, r2, r4, r5, r3.trans r6.symm⟩
  · rintro ⟨j, l, r1, r2, r4, r5, r6⟩
    exact ⟨(nd s j).outer, (h1.2.2 _).2 ⟨j, r1, r2, rfl⟩, (h2.2.2 _).2 ⟨l, r4, r5, r6.symm⟩⟩
/-- Kids are told apart by the program's test as by the document's. -/
theorem told_congr {C D : Nat → Nat → Prop} {n : Nd} {m : Nat} (hw : ∀ j, j < n.kids.length → (kd n j).node.toNat < m) (h : ∀ i k, i < m → k < m → (C i k ↔ D i k)) : Told C n ↔ Told D n := by
  unfold Told ToldAt
  constructor
  · intro q i hi
    rcases q i hi with q | q
    · exact .inl q
    · exact .inr fun k h1 h2 h3 h4 => q k h1 h2 h3 ((h _ _ (hw i hi) (hw k h2)).2 h4)
  · intro q i hi
    rcases q i hi with q | q
    · exact .inl q
    · exact .inr fun k h1 h2 h3 h4 => q k h1 h2 h3 ((h _ _ (hw i hi) (hw k h2)).1 h4)
end Go.Proofs.YtkkicodfpekbgaaGreatDoor

/-! schemas.choiceIsPlain: what it answers. -/
namespace Go.Proofs.YtkkicodfpekbgaaGreatDoor
set_option linter.unusedSimpArgs false
set_option linter.unusedVariables false
open Go.RowKit

/-- A kid of a schema, its node as a place. -/
theorem kid_at {n : Nd} {m i : Nat} (hw : ∀ j, j < n.kids.length → ∃ t : Nat, (kd n j).node = t ∧ t < m) (hi : i < n.kids.length) : ∃ (t : Nat) (o : Bool) (d : ByteArray), kd n i = ⟨t, o, d⟩ ∧ t < m := by
  obtain ⟨t, h1, h2⟩ := hw i hi
  refine ⟨t, (kd n i).opt, (kd n i).dflt, ?_, h2⟩
  rw [← h1]

set_option maxHeartbeats 2000000 in
set_option maxRecDepth 100000 in
theorem choiceIsPlain_any (s : List Nd) (n : Nd) (ka : Option Addr) (kc gb : Nat) (w : World) (hka : KidsIn w ka n.kids) (hkc : n.kids.length ≤ kc) (hk8 : n.kids.length ≤ 8) (hw : ∀ j, j < n.kids.length → ∃ t : Nat, (kd n j).node = t ∧ t < s.length) (hb : AbR w gb s) (hn : s.length ≤ 40) :
    Calls Tryz.prog 98 #[.slice ka n.kids.length kc, .slice (some ⟨gb, 0, none⟩) s.length s.length] w fun e w' => RetO (∀ i k, i < k → k < n.kids.length → ¬ Meets s (kd n i).node.toNat (kd n k).node.toNat) w e w' := by
  have HKI : Hid (KidsIn w ka n.kids) := hka
  have HKR : Hid (∀ j, j < n.kids.length → ∃ t : Nat, (kd n j).node = t ∧ t < s.length) := hw
  have HAB : Hid (AbR w gb s) := hb
  clear hka hw hb
  go_enter Tryz.func98, Tryz.ntmps98
  go_wp2
  go_loopw [11] (fun vi wr => ∃ i : Nat, i ≤ n.kids.length ∧ vi = .int .i64 i ∧ (∀ i', i' < i → ∀ k, i' < k → k < n.kids.length → ¬ Meets s (kd n i').node.toNat (kd n k).node.toNat) ∧ Below w.heap.size w wr) (fun vi _ => n.kids.length - (intOf vi).toNat)
  case atStart => exact ⟨0, Nat.zero_le _, rfl, fun _ h => absurd h (Nat.not_lt_zero _), Below.refl _ _⟩
  case round =>
    obtain ⟨i, hi, rfl, hall, hbr⟩ := hrel
    have HA : Hid (∀ i', i' < i → ∀ k, i' < k → k < n.kids.length → ¬ Meets s (kd n i').node.toNat (kd n k).node.toNat) := hall
    have HB : Hid (Below w.heap.size w wr) := hbr
    clear hall hbr
    by_cases hlt : i < n.kids.length
    · have hlt' : (i : Int) < n.kids.length := by omega
      obtain ⟨kb, ko, rfl, kcl⟩ := HKI.out i hlt
      obtain ⟨ty, yo, yd, hy, hty⟩ := kid_at HKR.out hlt
      have HY : Hid (kd n i = ⟨ty, yo, yd⟩) := hy
      have hkcl : KidCells w kb (ko + i * 3) ⟨ty, yo, yd⟩ := by rw [← hy]; exact kcl
      obtain ⟨k1, k2, k3⟩ := hkcl.below HB.out
      simp only at k1 k2 k3
      have HBA : Hid (Below w.heap.size w (wr.alloc (.cells #[.int .i64 ty, .bool yo, .string yd] 55))) := HB.out.alloc HB.out.size _
      clear hy kcl hkcl
      by_cases hkk : kc = i + 1
      · subst hkk
        have HZ : Hid (∀ k, i < k → k < n.kids.length → ¬ Meets s (kd n i).node.toNat (kd n k).node.toNat) := fun k _ _ => by omega
        have hz : ((n.kids.length - (i + 1) : Nat) : Int) ≤ 0 := by omega
        go_wp2
        go_loopw [21] (fun vj wq => vj = .int .i64 0 ∧ wq = wr.alloc (.cells #[.int .i64 ty, .bool yo, .string yd] 55)) (fun _ _ => 0)
        case atStart => exact ⟨rfl, rfl⟩
        case round =>
          obtain ⟨rfl, rfl⟩ := hrel
          go_wp2
          go_roundw
          case rel =>
            refine ⟨i + 1, by omega, by go_num, fun i' h1 k h2 h3 => ?_, HBA.out⟩
            by_cases e : i' = i
            · subst e; exact HZ.out k h2 h3
            · exact HA.out i' (by omega) k h2 h3
          case measure => simp [intOf]; omega
      · go_wp2
        generalize hW : wr.alloc (.cells #[.int .i64 ty, .bool yo, .string yd] 55) = W at *
        have hWb : W.heap[wr.heap.size]? = some (.cells #[.int .i64 ty, .bool yo, .string yd] 55 (0, 0)) := by rw [← hW]; exact heap_alloc_new wr _
        have HWb : Hid (W.heap[wr.heap.size]? = some (.cells #[.int .i64 ty, .bool yo, .string yd] 55 (0, 0))) := hWb
        obtain ⟨Y, hY⟩ : ∃ Y, Y = wr.heap.size := ⟨_, rfl⟩
        have HY0 : Hid (W.cell? ⟨Y, 0, none⟩ = some (.int .i64 ty)) := by show W.cell? _ = _; rw [hY]; simp [World.cell?, hWb]
        rw [← hY]
        clear hW hWb k1 k2 k3 hY HWb
        go_loopw [21] (fun vj wq => ∃ j : Nat, j ≤ n.kids.length - (i + 1) ∧ vj = .int .i64 j ∧ (∀ k, i < k → k < i + 1 + j → ¬ Meets s (kd n i).node.toNat (kd n k).node.toNat) ∧ Below W.heap.size W wq) (fun vj _ => n.kids.length - (intOf vj).toNat)
        case atStart => exact ⟨0, Nat.zero_le _, rfl, fun k h1 h2 => absurd h1 (by omega), Below.refl _ _⟩
        case round =>
          obtain ⟨j, hj, rfl, hno, hbq⟩ := hrel
          have HNO : Hid (∀ k, i < k → k < i + 1 + j → ¬ Meets s (kd n i).node.toNat (kd n k).node.toNat) := hno
          have HBQ : Hid (Below W.heap.size W wr) := hbq
          have HBW : Hid (Below w.heap.size w wr) := HBA.out.trans (hbq.mono HBA.out.size)
          have d0 := (hbq.cell (lt_of_cell HY0.out)).trans HY0.out
          clear hno hbq
          by_cases hjl : j < n.kids.length - (i + 1)
          · have hjl' : (j : Int) < ((n.kids.length - (i + 1) : Nat) : Int) := by omega
            obtain ⟨kb', ko', he, kcl⟩ := HKI.out (i + 1 + j) (by omega)
            obtain ⟨rfl, rfl⟩ : kb = kb' ∧ ko = ko' := by injection he with he; injection he with e1 e2; exact ⟨e1, e2⟩
            obtain ⟨tz, zo, zd, hz, htz⟩ := kid_at HKR.out (show i + 1 + j < n.kids.length by omega)
            have HZ : Hid (kd n (i + 1 + j) = ⟨tz, zo, zd⟩) := hz
            have hkcl : KidCells w kb (ko + (i + 1) * 3 + j * 3) ⟨tz, zo, zd⟩ := by rw [← hz]; have e : ko + (i + 1 + j) * 3 = ko + (i + 1) * 3 + j * 3 := (by omega); rw [← e]; exact kcl
            obtain ⟨k1, k2, k3⟩ := hkcl.below HBW.out
            simp only at k1 k2 k3
            obtain ⟨al1, a1, c1, t1, p1, p2, p3, p4⟩ := HAB.out ty hty
            obtain ⟨al2, a2, c2, t2, q1, q2, q3, q4⟩ := HAB.out tz htz
            obtain ⟨r, hr⟩ := bool_of (MeetsT al1 al2 t1 t2)
            have HR : Hid (r = true ↔ Meets s (kd n i).node.toNat (kd n (i + 1 + j)).node.toNat) := by
              rw [HY.out, HZ.out]
              exact hr.trans (meetsT_iff p4 q4)
            have HB2 : Hid (Below w.heap.size w (wr.alloc (.cells #[.int .i64 tz, .bool zo, .string zd] 55))) := HBW.out.alloc HBW.out.size _
            have HB3 : Hid (Below W.heap.size W (wr.alloc (.cells #[.int .i64 tz, .bool zo, .string zd] 55))) := HBQ.out.alloc HBQ.out.size _
            have HM : Hid (∀ x : Ext (wr.alloc (.cells #[.int .i64 tz, .bool zo, .string zd] 55)), Calls Tryz.prog 141 #[.agg #[.bool al1, .slice a1 t1.length c1], .agg #[.bool al2, .slice a2 t2.length c2]] x.v fun e w'' => e = .returned (.bool r) ∧ ∃ y : Ext (wr.alloc (.cells #[.int .i64 tz, .bool zo, .string zd] 55)), w'' = y.v) := fun x => Ext.callsR hr (meets_any al1 al2 a1 a2 c1 c2 t1 t2 x.v (p3.below (Ext.bel HB2.out x)) (q3.below (Ext.bel HB2.out x)) p4.1 q4.1)
            have X0 : ∀ x : Ext (wr.alloc (.cells #[.int .i64 tz, .bool zo, .string zd] 55)), x.v.cell? ⟨Y, 0, none⟩ = some (.int .i64 ty) := fun x => x.old d0
            have X1 : ∀ x : Ext (wr.alloc (.cells #[.int .i64 tz, .bool zo, .string zd] 55)), x.v.cell? ⟨wr.heap.size, 0, none⟩ = some (.int .i64 tz) := fun x => x.new rfl
            have X2 : ∀ x : Ext (wr.alloc (.cells #[.int .i64 tz, .bool zo, .string zd] 55)), x.v.cell? ⟨gb, ty * 2, none⟩ = some (.bool al1) := fun x => Ext.far HB2.out x p1
            have X3 : ∀ x : Ext (wr.alloc (.cells #[.int .i64 tz, .bool zo, .string zd] 55)), x.v.cell? ⟨gb, ty * 2 + 1, none⟩ = some (.slice a1 t1.length c1) := fun x => Ext.far HB2.out x p2
            have X4 : ∀ x : Ext (wr.alloc (.cells #[.int .i64 tz, .bool zo, .string zd] 55)), x.v.cell? ⟨gb, tz * 2, none⟩ = some (.bool al2) := fun x => Ext.far HB2.out x q1
            have X5 : ∀ x : Ext (wr.alloc (.cells #[.int .i64 tz, .bool zo, .string zd] 55)), x.v.cell? ⟨gb, tz * 2 + 1, none⟩ = some (.slice a2 t2.length c2) := fun x => Ext.far HB2.out x q2
            have hty' : (ty : Int) < s.length := by omega
            have htz' : (tz : Int) < s.length := by omega
            clear kcl hkcl hz he hr p1 p2 p3 p4 q1 q2 q3 q4
            go_wp2_with fail
            (have ne := ext_ne; refine wp_region_ext (by kernel_rfl) (by kernel_rfl) ?_; (repeat (first | go_big_quiet_skip | (go_big_quiet_want; go_big_quiet_op; first | go_big_quiet_on | (apply Exists.intro; refine ⟨fun x => ?_, ?_⟩; (· (exact HM.out x)); go_big_quiet_on)))); refine nil_ext ?_)
            intro w5 hb5
            have HB5 : Hid (Below w.heap.size w w5) := HB2.out.trans (hb5.mono HB2.out.size)
            have HB6 : Hid (Below W.heap.size W w5) := HB3.out.trans (hb5.mono HB3.out.size)
            clear X0 X1 X2 X3 X4 X5 hb5 HM
            cases r
            · have HN : Hid (¬ Meets s (kd n i).node.toNat (kd n (i + 1 + j)).node.toNat) := fun q => Bool.noConfusion (HR.out.2 q)
              go_wp2
              go_roundw
              case rel =>
                refine ⟨j + 1, by omega, by go_num, fun k h1 h2 => ?_, HB6.out⟩
                by_cases e : k = i + 1 + j
                · subst e; exact HN.out
                · exact HNO.out k h1 (by omega)
              case measure => simp [intOf]; omega
            · have HN : Hid (Meets s (kd n i).node.toNat (kd n (i + 1 + j)).node.toNat) := HR.out.1 rfl
              go_wp2
              go_ret
              exact reto_no (fun q => q i (i + 1 + j) (by omega) (by omega) HN.out) HB5.out
          · have hjl' : ((n.kids.length - (i + 1) : Nat) : Int) ≤ (j : Int) := by omega
            go_wp2
            go_roundw
            case rel =>
              refine ⟨i + 1, by omega, by go_num, fun i' h1 k h2 h3 => ?_, HBW.out⟩
              by_cases e : i' = i
              · subst e; exact HNO.out k h2 (by omega)
              · exact HA.out i' (by omega) k h2 h3
            case measure => simp [intOf]; omega
    · have hlt' : (n.kids.length : Int) ≤ i := by omega
      go_wp2
      go_ret
      exact reto_yes (fun i' k h1 h2 => HA.out i' (by omega) k h1 h2) HB.out
end Go.Proofs.YtkkicodfpekbgaaGreatDoor

/-! schemas.seqIsPlain, schemas.isPlain: what they answer. -/
namespace Go.Proofs.YtkkicodfpekbgaaGreatDoor
set_option linter.unusedSimpArgs false
set_option linter.unusedVariables false
open Go.RowKit

/-- A kid that may lack is told from those behind it, up to the first that may not. -/
def SeqAt (s : List Nd) (n : Nd) (i : Nat) : Prop := (kd n i).must ∨ ∀ k, i < k → k < n.kids.length → (∀ j, i < j → j < k → ¬ (kd n j).must) → ¬ Meets s (kd n i).node.toNat (kd n k).node.toNat

set_option maxHeartbeats 2000000 in
set_option maxRecDepth 100000 in
theorem seqIsPlain_any (s : List Nd) (n : Nd) (ka : Option Addr) (kc gb : Nat) (w : World) (hka : KidsIn w ka n.kids) (hkc : n.kids.length ≤ kc) (hk8 : n.kids.length ≤ 8) (hw : ∀ j, j < n.kids.length → ∃ t : Nat, (kd n j).node = t ∧ t < s.length) (hb : AbR w gb s) (hn : s.length ≤ 40) :
    Calls Tryz.prog 99 #[.slice ka n.kids.length kc, .slice (some ⟨gb, 0, none⟩) s.length s.length] w fun e w' => RetO (∀ i, i < n.kids.length → SeqAt s n i) w e w' := by
  have HKI : Hid (KidsIn w ka n.kids) := hka
  have HKR : Hid (∀ j, j < n.kids.length → ∃ t : Nat, (kd n j).node = t ∧ t < s.length) := hw
  have HAB : Hid (AbR w gb s) := hb
  have HML : Hid (∀ (a : Int) (b : Bool) (c : ByteArray) (wq : World), Calls Tryz.prog 94 #[.agg #[.int .i64 a, .bool b, .string c]] wq fun e w' => RetO (¬ Kd.must ⟨a, b, c⟩) wq e w') := fun a b c wq => mayLack_any ⟨a, b, c⟩ wq
  clear hka hw hb
  go_enter Tryz.func99, Tryz.ntmps99
  go_wp2
  go_step3
  go_wp2
  go_step3
  go_wp2
  go_loopw [11] (fun vi wr => ∃ i : Nat, i ≤ n.kids.length ∧ vi = .int .i64 i ∧ (∀ i', i' < i → SeqAt s n i') ∧ Below w.heap.size w wr) (fun vi _ => n.kids.length - (intOf vi).toNat)
  case atStart => exact ⟨0, Nat.zero_le _, rfl, fun _ h => absurd h (Nat.not_lt_zero _), Below.refl _ _⟩
  case round =>
    obtain ⟨i, hi, rfl, hall, hbr⟩ := hrel
    have HA : Hid (∀ i', i' < i → SeqAt s n i') := hall
    have HB : Hid (Below w.heap.size w wr) := hbr
    have STEP : Hid (SeqAt s n i → ∀ i', i' < i + 1 → SeqAt s n i') := fun q i' h => by
      by_cases e : i' = i
      · subst e; exact q
      · exact hall i' (by omega)
    clear hall hbr
    by_cases hlt : i < n.kids.length
    · have hlt' : (i : Int) < n.kids.length := by omega
      obtain ⟨kb, ko, rfl, kcl⟩ := HKI.out i hlt
      obtain ⟨ty, yo, yd, hy, hty⟩ := kid_at HKR.out hlt
      have HY : Hid (kd n i = ⟨ty, yo, yd⟩) := hy
      have hkcl : KidCells w kb (ko + i * 3) ⟨ty, yo, yd⟩ := by rw [← hy]; exact kcl
      obtain ⟨k1, k2, k3⟩ := hkcl.below HB.out
      simp only at k1 k2 k3
      have HBA : Hid (Below w.heap.size w (wr.alloc (.cells #[.int .i64 ty, .bool yo, .string yd] 55))) := HB.out.alloc HB.out.size _
      clear hy kcl hkcl
      go_wp2_with fail
      refine (HML.out _ _ _ _).mono ?_
      rintro e W ⟨r0, rfl, hr0, hb0⟩
      have HR0 : Hid (r0 = true ↔ ¬ Kd.must ⟨ty, yo, yd⟩) := hr0
      have HBW0 : Hid (Below w.heap.size w W) := HBA.out.trans (hb0.mono HBA.out.size)
      have hWb := block_below (heap_alloc_new wr (.cells #[.int .i64 ty, .bool yo, .string yd] 55)) hb0
      obtain ⟨Y, hY⟩ : ∃ Y, Y = wr.heap.size := ⟨_, rfl⟩
      have HY0 : Hid (W.cell? ⟨Y, 0, none⟩ = some (.int .i64 ty)) := by show W.cell? _ = _; rw [hY]; simp [World.cell?, hWb]
      rw [← hY]
      clear hY hWb hb0 hr0 k1 k2 k3
      cases r0
      · have HQ : Hid (SeqAt s n i) := .inl (by
          rw [HY.out]
          by_cases q : Kd.must ⟨ty, yo, yd⟩
          · exact q
          · exact Bool.noConfusion (HR0.out.2 q))
        go_wp2
        go_roundw
        case rel => exact ⟨i + 1, by omega, by go_num, STEP.out HQ.out, HBW0.out⟩
        case measure => simp [intOf]; omega
      · have HNM : Hid (¬ (kd n i).must) := by rw [HY.out]; exact HR0.out.1 rfl
        by_cases hkk : kc = i + 1
        · subst hkk
          have HQ : Hid (SeqAt s n i) := .inr fun k _ _ => by omega
          have hz : ((n.kids.length - (i + 1) : Nat) : Int) ≤ 0 := by omega
          go_wp2
          go_loopw [24] (fun vj wq => vj = .int .i64 0 ∧ wq = W) (fun _ _ => 0)
          case atStart => exact ⟨rfl, rfl⟩
          case round =>
            obtain ⟨rfl, rfl⟩ := hrel
            go_wp2
            go_roundw
            case rel => exact ⟨i + 1, by omega, by go_num, STEP.out HQ.out, HBW0.out⟩
            case measure => simp [intOf]; omega
        · go_wp2
          go_loopw [24] (fun vj wq => ∃ j : Nat, j ≤ n.kids.length - (i + 1) ∧ vj = .int .i64 j ∧ (∀ k, i < k → k < i + 1 + j → ¬ (kd n k).must ∧ ¬ Meets s (kd n i).node.toNat (kd n k).node.toNat) ∧ Below W.heap.size W wq) (fun vj _ => n.kids.length - (intOf vj).toNat)
          case atStart => exact ⟨0, Nat.zero_le _, rfl, fun k h1 h2 => absurd h1 (by omega), Below.refl _ _⟩
          case round =>
            obtain ⟨j, hj, rfl, hno, hbq⟩ := hrel
            have HNO : Hid (∀ k, i < k → k < i + 1 + j → ¬ (kd n k).must ∧ ¬ Meets s (kd n i).node.toNat (kd n k).node.toNat) := hno
            have HBQ : Hid (Below W.heap.size W wr) := hbq
            have HBW : Hid (Below w.heap.size w wr) := HBW0.out.trans (hbq.mono HBW0.out.size)
            have d0 := (hbq.cell (lt_of_cell HY0.out)).trans HY0.out
            clear hno hbq
            by_cases hjl : j < n.kids.length - (i + 1)
            · have hjl' : (j : Int) < ((n.kids.length - (i + 1) : Nat) : Int) := by omega
              obtain ⟨kb', ko', he, kcl⟩ := HKI.out (i + 1 + j) (by omega)
              obtain ⟨rfl, rfl⟩ : kb = kb' ∧ ko = ko' := by injection he with he; injection he with e1 e2; exact ⟨e1, e2⟩
              obtain ⟨tz, zo, zd, hz, htz⟩ := kid_at HKR.out (show i + 1 + j < n.kids.length by omega)
              have HZ : Hid (kd n (i + 1 + j) = ⟨tz, zo, zd⟩) := hz
              have hkcl : KidCells w kb (ko + (i + 1) * 3 + j * 3) ⟨tz, zo, zd⟩ := by rw [← hz]; have e : ko + (i + 1 + j) * 3 = ko + (i + 1) * 3 + j * 3 := (by omega); rw [← e]; exact kcl
              obtain ⟨k1, k2, k3⟩ := hkcl.below HBW.out
              simp only at k1 k2 k3
              obtain ⟨al1, a1, c1, t1, p1, p2, p3, p4⟩ := HAB.out ty hty
              obtain ⟨al2, a2, c2, t2, q1, q2, q3, q4⟩ := HAB.out tz htz
              obtain ⟨r, hr⟩ := bool_of (MeetsT al1 al2 t1 t2)
              have HR : Hid (r = true ↔ Meets s (kd n i).node.toNat (kd n (i + 1 + j)).node.toNat) := by
                rw [HY.out, HZ.out]
                exact hr.trans (meetsT_iff p4 q4)
              have HB2 : Hid (Below w.heap.size w (wr.alloc (.cells #[.int .i64 tz, .bool zo, .string zd] 55))) := HBW.out.alloc HBW.out.size _
              have HB3 : Hid (Below W.heap.size W (wr.alloc (.cells #[.int .i64 tz, .bool zo, .string zd] 55))) := HBQ.out.alloc HBQ.out.size _
              have HM : Hid (∀ x : Ext (wr.alloc (.cells #[.int .i64 tz, .bool zo, .string zd] 55)), Calls Tryz.prog 141 #[.agg #[.bool al1, .slice a1 t1.length c1], .agg #[.bool al2, .slice a2 t2.length c2]] x.v fun e w'' => e = .returned (.bool r) ∧ ∃ y : Ext (wr.alloc (.cells #[.int .i64 tz, .bool zo, .string zd] 55)), w'' = y.v) := fun x => Ext.callsR hr (meets_any al1 al2 a1 a2 c1 c2 t1 t2 x.v (p3.below (Ext.bel HB2.out x)) (q3.below (Ext.bel HB2.out x)) p4.1 q4.1)
              have X0 : ∀ x : Ext (wr.alloc (.cells #[.int .i64 tz, .bool zo, .string zd] 55)), x.v.cell? ⟨Y, 0, none⟩ = some (.int .i64 ty) := fun x => x.old d0
              have X1 : ∀ x : Ext (wr.alloc (.cells #[.int .i64 tz, .bool zo, .string zd] 55)), x.v.cell? ⟨wr.heap.size, 0, none⟩ = some (.int .i64 tz) := fun x => x.new rfl
              have X2 : ∀ x : Ext (wr.alloc (.cells #[.int .i64 tz, .bool zo, .string zd] 55)), x.v.cell? ⟨gb, ty * 2, none⟩ = some (.bool al1) := fun x => Ext.far HB2.out x p1
              have X3 : ∀ x : Ext (wr.alloc (.cells #[.int .i64 tz, .bool zo, .string zd] 55)), x.v.cell? ⟨gb, ty * 2 + 1, none⟩ = some (.slice a1 t1.length c1) := fun x => Ext.far HB2.out x p2
              have X4 : ∀ x : Ext (wr.alloc (.cells #[.int .i64 tz, .bool zo, .string zd] 55)), x.v.cell? ⟨gb, tz * 2, none⟩ = some (.bool al2) := fun x => Ext.far HB2.out x q1
              have X5 : ∀ x : Ext (wr.alloc (.cells #[.int .i64 tz, .bool zo, .string zd] 55)), x.v.cell? ⟨gb, tz * 2 + 1, none⟩ = some (.slice a2 t2.length c2) := fun x => Ext.far HB2.out x q2
              have hty' : (ty : Int) < s.length := by omega
              have htz' : (tz : Int) < s.length := by omega
              clear kcl hkcl hz he hr p1 p2 p3 p4 q1 q2 q3 q4
              go_wp2_with fail
              (have ne := ext_ne; refine wp_region_ext (by kernel_rfl) (by kernel_rfl) ?_; (repeat (first | go_big_quiet_skip | (go_big_quiet_want; go_big_quiet_op; first | go_big_quiet_on | (apply Exists.intro; refine ⟨fun x => ?_, ?_⟩; (· (exact HM.out x)); go_big_quiet_on)))); refine nil_ext ?_)
              intro w5 hb5
              have HB5 : Hid (Below w.heap.size w w5) := HB2.out.trans (hb5.mono HB2.out.size)
              have HB6 : Hid (Below W.heap.size W w5) := HB3.out.trans (hb5.mono HB3.out.size)
              have z0 := (Ext.mk w5 hb5).new (i := 0) rfl
              have z1 := (Ext.mk w5 hb5).new (i := 1) rfl
              have z2 := (Ext.mk w5 hb5).new (i := 2) rfl
              simp only at z0 z1 z2
              clear X0 X1 X2 X3 X4 X5 hb5 HM
              cases r
              · have HN : Hid (¬ Meets s (kd n i).node.toNat (kd n (i + 1 + j)).node.toNat) := fun q => Bool.noConfusion (HR.out.2 q)
                go_wp2_with fail
                refine (HML.out _ _ _ _).mono ?_
                rintro e w6 ⟨r1, rfl, hr1, hb6⟩
                have HR1 : Hid (r1 = true ↔ ¬ Kd.must ⟨tz, zo, zd⟩) := hr1
                have HB7 : Hid (Below w.heap.size w w6) := HB5.out.trans (hb6.mono HB5.out.size)
                have HB8 : Hid (Below W.heap.size W w6) := HB6.out.trans (hb6.mono HB6.out.size)
                clear hr1 hb6
                cases r1
                · have HMU : Hid ((kd n (i + 1 + j)).must) := by
                    rw [HZ.out]
                    by_cases q : Kd.must ⟨tz, zo, zd⟩
                    · exact q
                    · exact Bool.noConfusion (HR1.out.2 q)
                  have HQ : Hid (SeqAt s n i) := .inr fun k h1 h2 h3 => by
                    by_cases e : k < i + 1 + j
                    · exact (HNO.out k h1 e).2
                    · by_cases e2 : k = i + 1 + j
                      · subst e2; exact HN.out
                      · exact absurd HMU.out (h3 _ (by omega) (by omega))
                  go_wp2
                  go_roundw
                  case rel => exact ⟨i + 1, by omega, by go_num, STEP.out HQ.out, HB7.out⟩
                  case measure => simp [intOf]; omega
                · have HMU : Hid (¬ (kd n (i + 1 + j)).must) := by rw [HZ.out]; exact HR1.out.1 rfl
                  go_wp2
                  go_roundw
                  case rel =>
                    refine ⟨j + 1, by omega, by go_num, fun k h1 h2 => ?_, HB8.out⟩
                    by_cases e : k = i + 1 + j
                    · subst e; exact ⟨HMU.out, HN.out⟩
                    · exact HNO.out k h1 (by omega)
                  case measure => simp [intOf]; omega
              · have HN : Hid (Meets s (kd n i).node.toNat (kd n (i + 1 + j)).node.toNat) := HR.out.1 rfl
                go_wp2
                go_ret
                refine reto_no (fun q => ?_) HB5.out
                rcases q i hlt with q | q
                · exact HNM.out q
                · exact q (i + 1 + j) (by omega) (by omega) (fun j' h1 h2 => (HNO.out j' h1 h2).1) HN.out
            · have hjl' : ((n.kids.length - (i + 1) : Nat) : Int) ≤ (j : Int) := by omega
              have HQ : Hid (SeqAt s n i) := .inr fun k h1 h2 _ => (HNO.out k h1 (by omega)).2
              go_wp2
              go_roundw
              case rel => exact ⟨i + 1, by omega, by go_num, STEP.out HQ.out, HBW.out⟩
              case measure => simp [intOf]; omega
    · have hlt' : (n.kids.length : Int) ≤ i := by omega
      go_wp2
      go_ret
      exact reto_yes (fun i' h1 => HA.out i' (by omega)) HB.out

/-- What isPlain asks. -/
def PlainAt (s : List Nd) (n : Nd) : Prop := n.kind = 10 ∨ n.kind = 13 → Told (Meets s) n
theorem told_choice {C : Nat → Nat → Prop} {n : Nd} (h : n.kind = 13) : Told C n ↔ ∀ i k, i < k → k < n.kids.length → ¬ C (kd n i).node.toNat (kd n k).node.toNat := by
  have hst : ∀ k, ¬ n.stops k := fun k q => by have := q.1; omega
  unfold Told ToldAt
  constructor
  · intro q i k h1 h2
    rcases q i (by omega) with q | q
    · exact absurd q (hst _)
    · exact q k h1 h2 (fun j _ _ => hst _)
  · exact fun q i hi => .inr fun k h1 h2 _ => q i k h1 h2
theorem told_seq {s : List Nd} {n : Nd} (h : n.kind = 10) : Told (Meets s) n ↔ ∀ i, i < n.kids.length → SeqAt s n i := by
  have hst : ∀ k, n.stops k ↔ k.must := fun k => ⟨fun q => q.2, fun q => ⟨h, q⟩⟩
  unfold Told ToldAt SeqAt
  simp only [hst]

set_option maxHeartbeats 1000000 in
set_option maxRecDepth 100000 in
theorem isPlain_any (s : List Nd) (n : Nd) (ka : Option Addr) (kc gb : Nat) (w : World) (hka : KidsIn w ka n.kids) (hkc : n.kids.length ≤ kc) (hk8 : n.kids.length ≤ 8) (hw : ∀ j, j < n.kids.length → ∃ t : Nat, (kd n j).node = t ∧ t < s.length) (hb : AbR w gb s) (hn : s.length ≤ 40) :
    Calls Tryz.prog 65 #[.agg #[.int .i64 n.kind, .int .i64 n.tag, .int .i64 n.mode, .slice ka n.kids.length kc], .slice (some ⟨gb, 0, none⟩) s.length s.length] w fun e w' => RetO (PlainAt s n) w e w' := by
  by_cases h13 : n.kind = 13
  · have HC : Hid (∀ wq, Below w.heap.size w wq → Calls Tryz.prog 98 #[.slice ka n.kids.length kc, .slice (some ⟨gb, 0, none⟩) s.length s.length] wq fun e w' => RetO (∀ i k, i < k → k < n.kids.length → ¬ Meets s (kd n i).node.toNat (kd n k).node.toNat) wq e w') := fun wq q => choiceIsPlain_any s n ka kc gb wq (hka.below q) hkc hk8 hw (hb.below q) hn
    have e13 : (n.kind == 13) = true := by simp [h13]
    have HX : Hid (PlainAt s n ↔ ∀ i k, i < k → k < n.kids.length → ¬ Meets s (kd n i).node.toNat (kd n k).node.toNat) := (show PlainAt s n ↔ Told (Meets s) n from ⟨fun q => q (.inr h13), fun q _ => q⟩).trans (told_choice h13)
    clear h13 hka hw hb
    go_enter Tryz.func65, Tryz.ntmps65
    go_wp2_with fail
    refine (HC.out _ ((Below.refl _ _).alloc (Nat.le_refl _) _)).mono ?_
    rintro e w1 ⟨r, rfl, hr, hb1⟩
    have HR : Hid (r = true ↔ PlainAt s n) := hr.trans HX.out.symm
    have HB1 : Hid (Below w.heap.size w w1) := below_alloc hb1
    clear hr hb1
    go_wp2
    go_ret
    exact reto_iff HR.out HB1.out
  · have e13 : (n.kind == 13) = false := by simp [h13]
    by_cases h10 : n.kind = 10
    · have HC : Hid (∀ wq, Below w.heap.size w wq → Calls Tryz.prog 99 #[.slice ka n.kids.length kc, .slice (some ⟨gb, 0, none⟩) s.length s.length] wq fun e w' => RetO (∀ i, i < n.kids.length → SeqAt s n i) wq e w') := fun wq q => seqIsPlain_any s n ka kc gb wq (hka.below q) hkc hk8 hw (hb.below q) hn
      have e10 : (n.kind == 10) = true := by simp [h10]
      have HX : Hid (PlainAt s n ↔ ∀ i, i < n.kids.length → SeqAt s n i) := (show PlainAt s n ↔ Told (Meets s) n from ⟨fun q => q (.inl h10), fun q _ => q⟩).trans (told_seq h10)
      clear h13 h10 hka hw hb
      go_enter Tryz.func65, Tryz.ntmps65
      go_wp2_with fail
      refine (HC.out _ ((Below.refl _ _).alloc (Nat.le_refl _) _)).mono ?_
      rintro e w1 ⟨r, rfl, hr, hb1⟩
      have HR : Hid (r = true ↔ PlainAt s n) := hr.trans HX.out.symm
      have HB1 : Hid (Below w.heap.size w w1) := below_alloc hb1
      clear hr hb1
      go_wp2
      go_ret
      exact reto_iff HR.out HB1.out
    · have e10 : (n.kind == 10) = false := by simp [h10]
      have HX : Hid (PlainAt s n) := fun q => by omega
      clear h13 h10 hka hw hb
      go_enter Tryz.func65, Tryz.ntmps65
      go_wp2
      go_ret
      exact reto_yes HX.out ((Below.refl _ _).alloc (Nat.le_refl _) _)
end Go.Proofs.YtkkicodfpekbgaaGreatDoor

/-! hallmarklaw.copied: what it holds in memory, and that it is the schema. -/
namespace Go.Proofs.YtkkicodfpekbgaaGreatDoor
set_option linter.unusedSimpArgs false
set_option linter.unusedVariables false
open Go.RowKit

def Kd.cells (k : Kd) : List Value := [.int .i64 k.node, .bool k.opt, .string k.dflt]
def kcells (ks : List Kd) : List Value := ks.flatMap Kd.cells
theorem kcells_append (l : List Kd) (k : Kd) : kcells (l ++ [k]) = kcells l ++ k.cells := by unfold kcells; simp
theorem kcells_len (l : List Kd) : (kcells l).length = l.length * 3 := by
  unfold kcells
  induction l with
  | nil => rfl
  | cons a l ih => simp [Kd.cells, ih]; omega
/-- A node's cells, its kids' slice being a value. -/
def ncell (n : Nd) (K : Value) : List Value := [.int .i64 n.kind, .int .i64 n.tag, .int .i64 n.mode, K]
def ncells (s : List Nd) (K : Nat → Value) (k : Nat) : List Value := (List.range k).flatMap fun i => ncell (nd s i) (K i)
theorem ncells_succ (s : List Nd) (K : Nat → Value) (k : Nat) : ncells s K (k + 1) = ncells s K k ++ ncell (nd s k) (K k) := by
  unfold ncells; rw [List.range_succ]; simp
theorem ncells_congr {s : List Nd} {K K' : Nat → Value} {k : Nat} (h : ∀ i, i < k → K i = K' i) : ncells s K k = ncells s K' k := by
  induction k with
  | zero => rfl
  | succ k ih => rw [ncells_succ, ncells_succ, ih (fun i hi => h i (by omega)), h k (by omega)]
theorem ncells_len (s : List Nd) (K : Nat → Value) (k : Nat) : (ncells s K k).length = k * 4 := by
  induction k with
  | zero => rfl
  | succ k ih => rw [ncells_succ, List.length_append, ih]; simp [ncell]; omega
theorem ncells_get (s : List Nd) (K : Nat → Value) (k i : Nat) (hi : i < k) (j : Nat) (hj : j < 4) : (ncells s K k)[i * 4 + j]? = (ncell (nd s i) (K i))[j]? := by
  induction k with
  | zero => omega
  | succ k ih =>
    rw [ncells_succ]
    by_cases e : i = k
    · subst e
      rw [List.getElem?_append_right (by rw [ncells_len]; omega), ncells_len]
      congr 1; omega
    · rw [List.getElem?_append_left (by rw [ncells_len]; omega)]
      exact ih (by omega)
theorem kcells_get (l : List Kd) (i : Nat) (hi : i < l.length) (j : Nat) (hj : j < 3) : (kcells l)[i * 3 + j]? = (l.getD i kd0).cells[j]? := by
  induction l generalizing i with
  | nil => simp at hi
  | cons a l ih =>
    have e : kcells (a :: l) = a.cells ++ kcells l := by unfold kcells; simp
    rw [e]
    cases i with
    | zero => rw [List.getElem?_append_left (by simp [Kd.cells]; omega)]; simp
    | succ i =>
      rw [List.getElem?_append_right (by simp [Kd.cells]; omega)]
      have : (i + 1) * 3 + j - a.cells.length = i * 3 + j := by simp [Kd.cells]; omega
      rw [this, ih i (by simp at hi; omega)]
      simp
/-- What copied holds in memory. -/
structure CpW (s : List Nd) (w wr : World) (k : Nat) (vout : Value) : Prop where
  bel : Below w.heap.size w wr
  own : ∃ K : Nat → Value, wr.ownsRow w.heap.size 58 4 vout k (ncells s K k) ∧ ∀ i, i < k → wr.ownsRow w.heap.size 55 3 (K i) (nd s i).kids.length (kcells (nd s i).kids)
theorem CpW.below {s : List Nd} {w wr w' : World} {k : Nat} {vout : Value} (h : CpW s w wr k vout) (hb : Below wr.heap.size wr w') : CpW s w w' k vout where
  bel := h.bel.trans (hb.mono h.bel.size)
  own := by obtain ⟨K, h1, h2⟩ := h.own; exact ⟨K, own_below h1 hb, fun i hi => own_below (h2 i hi) hb⟩
theorem ownsRow_base {w : World} {b b' : Nat} {e : TypeId} {size : Nat} {v : Value} {n : Nat} {xs : List Value} (h : w.ownsRow b e size v n xs) (hb : b' ≤ b) : w.ownsRow b' e size v n xs := by
  obtain ⟨h1, h2⟩ := h
  refine ⟨h1, ?_⟩
  rcases h2 with h2 | ⟨g, cap, cur, h3, h4, h5⟩
  · exact .inl h2
  · exact .inr ⟨g, cap, cur, h3, Nat.le_trans hb h4, h5⟩
theorem row_ne3 {w : World} {b1 b2 s1 s2 n1 n2 : Nat} {e1 e2 : TypeId} {v1 v2 : Value} {x1 x2 : List Value} (h1 : w.ownsRow b1 e1 s1 v1 n1 x1) (h2 : w.ownsRow b2 e2 s2 v2 n2 x2) (hT : e2 ≠ e1) : v2.ownBlock = none ∨ v2.ownBlock ≠ v1.ownBlock := by
  rcases h2.2 with ⟨q, _⟩ | ⟨g, cap, cur, q, _, hg, _⟩
  · left; rw [q]; rfl
  · right
    intro e
    have : v1.ownBlock = some g := by rw [← e, q]; rfl
    exact row_ne1 hg h1 hT this
/-- A node more. -/
theorem CpW.put {s : List Nd} {w wr w' : World} {k g cap : Nat} {vout vk : Value} {o : Obj} {K : Nat → Value} (hb0 : Below w.heap.size w wr) (q1 : wr.ownsRow w.heap.size 58 4 vout k (ncells s K k)) (q2 : ∀ i, i < k → wr.ownsRow w.heap.size 55 3 (K i) (nd s i).kids.length (kcells (nd s i).kids))
    (hk : wr.ownsRow w.heap.size 55 3 vk (nd s k).kids.length (kcells (nd s k).kids))
    (h1 : w'.ownsRow w.heap.size 58 4 (.slice (some ⟨g, 0, none⟩) (k + 1) cap) (k + 1) (ncells s K k ++ ncell (nd s k) vk))
    (h2 : (wr.alloc o).grownBy w' vout.ownBlock) : CpW s w w' (k + 1) (.slice (some ⟨g, 0, none⟩) (k + 1) cap) := by
  have hb : Below w.heap.size w (wr.alloc o) := hb0.alloc hb0.size o
  refine ⟨hb.grown h2 hb.size (fun j hj => (q1.lt j hj).1), fun i => if i = k then vk else K i, ?_, fun i hi => ?_⟩
  · rw [ncells_succ, if_pos rfl, ncells_congr (K' := K) (fun i hi => if_neg (by omega))]
    exact h1
  · show w'.ownsRow _ _ _ (if i = k then vk else K i) _ _
    by_cases e : i = k
    · subst e; rw [if_pos rfl]; exact (hk.alloc o).kept h2 (row_ne3 q1 hk (by decide))
    · rw [if_neg e]; exact ((q2 i (by omega)).alloc o).kept h2 (row_ne3 q1 (q2 i (by omega)) (by decide))
theorem own_form2 {w : World} {base : Nat} {e : TypeId} {size : Nat} {v : Value} {n : Nat} {xs : List Value} (h : w.ownsRow base e size v n xs) : ∃ a cap, v = .slice a n cap ∧ (0 < n → ∃ g, a = some ⟨g, 0, none⟩) := by
  rcases h.2 with ⟨hv, hn⟩ | ⟨g, cap, cur, hv, _⟩
  · subst hn; exact ⟨none, 0, hv, fun h => absurd h (Nat.lt_irrefl _)⟩
  · exact ⟨_, cap, hv, fun _ => ⟨g, rfl⟩⟩
theorem add0 (g j : Nat) : (⟨g, 0, none⟩ : Addr).add j = ⟨g, j, none⟩ := by unfold Addr.add; split <;> simp_all
/-- The copy is the schema. -/
theorem CpW.sch {s : List Nd} {w wr : World} {vout : Value} (h : CpW s w wr s.length vout) : ∃ a c, vout = .slice a s.length c ∧ Sch wr a s := by
  obtain ⟨K, q1, q2⟩ := h.own
  obtain ⟨a, c, rfl, ha⟩ := own_form2 q1
  refine ⟨a, c, rfl, fun i hi => ?_⟩
  obtain ⟨g, rfl⟩ := ha (by omega)
  have cell : ∀ j, j < 4 → ∀ u, (ncell (nd s i) (K i))[j]? = some u → wr.cell? ⟨g, i * 4 + j, none⟩ = some u := fun j hj u hu => by
    have := q1.cells (g := g) rfl (i * 4 + j) u (by rw [ncells_get s K s.length i hi j hj]; exact hu)
    rwa [add0] at this
  obtain ⟨ka, kc, hK, hka⟩ := own_form2 (q2 i hi)
  have hq := q2 i hi
  rw [hK] at hq cell
  have hcap : (nd s i).kids.length ≤ kc ∧ kc ≤ maxLen := by
    rcases hq.2 with ⟨q, e⟩ | ⟨g', cap, cur, q, _, _, q3, q4, _⟩
    · injection q with _ e1 e2; subst e2; rw [e]; exact ⟨Nat.le_refl _, Nat.zero_le _⟩
    · injection q with _ _ e2; subst e2; exact ⟨q3, q4⟩
  refine ⟨g, 0, ka, kc, rfl, ⟨?_, ?_, ?_, ?_⟩, hcap.1, hcap.2, fun j hj => ?_⟩
  · simpa using cell 0 (by omega) _ rfl
  · simpa using cell 1 (by omega) _ rfl
  · simpa using cell 2 (by omega) _ rfl
  · simpa using cell 3 (by omega) _ rfl
  · obtain ⟨g', rfl⟩ := hka (by omega)
    have kcell : ∀ p, p < 3 → ∀ u, ((nd s i).kids.getD j kd0).cells[p]? = some u → wr.cell? ⟨g', j * 3 + p, none⟩ = some u := fun p hp u hu => by
      have := hq.cells (g := g') rfl (j * 3 + p) u (by rw [kcells_get _ j hj p hp]; exact hu)
      rwa [add0] at this
    exact ⟨g', 0, rfl, by simpa using kcell 0 (by omega) _ rfl, by simpa using kcell 1 (by omega) _ rfl, by simpa using kcell 2 (by omega) _ rfl⟩
end Go.Proofs.YtkkicodfpekbgaaGreatDoor

/-! append onto a slice that the call owns: what becomes of the old row besides: each of its cells is as it was, or is one of the new ones. -/
namespace Go.Proofs.YtkkicodfpekbgaaGreatDoor
set_option linter.unusedSimpArgs false
set_option linter.unusedVariables false
open Go

/-- Each cell of the old row is as it was, or one of the new ones. -/
def KeptRow (w w' : World) (e : TypeId) (v : Value) (at_ : Nat) (news : List Value) : Prop :=
  ∀ g cur, v.ownBlock = some g → w.heap[g]? = some (.cells cur e (0, 0)) → ∃ cur' : Array Value, w'.heap[g]? = some (.cells cur' e (0, 0)) ∧ cur'.size = cur.size ∧ ∀ p : Nat, cur'[p]? = cur[p]? ∨ ∃ j, p = at_ + j ∧ j < news.length ∧ cur'[p]? = news[j]?

theorem append_kept {P : Program} (w : World) (t ty : TypeId) (base : Nat) (e : TypeId) (i : TypeInfo) (z : Value) (size bytes : Nat) (ht : P.underlying t = some (.slice e)) (hi : P.info? e = some i) (hz : i.zero = some z)
    (hsize : i.size = size) (hby : i.bytes = bytes) (hzs : z.cells.size = size) (hsz : 0 < size)
    (v : Value) (n : Nat) (xs : List Value) (hown : w.ownsRow base e size v n xs)
    (ad : Addr) (m c : Nat) (news : List Value) (hl : news.length = m * size) (hnews : ∀ j u, news[j]? = some u → w.cell? (ad.add j) = some u) (h1 : ∀ u ∈ news, u.oneCell' = true)
    (hm : 0 < m) (h63 : n + m ≤ maxLen) (hbytes : (n + m) * bytes ≤ 140737488355328) (hbase : base ≤ w.heap.size) :
    ∃ g cap w', (Builtin.append_ #[t, t] ty #[v, .slice (some ad) m c]).run P w = .ok (.slice (some ⟨g, 0, none⟩) (n + m) cap) w' ∧
      w'.ownsRow base e size (.slice (some ⟨g, 0, none⟩) (n + m) cap) (n + m) (xs ++ news) ∧ w.grownBy w' v.ownBlock ∧ (v.ownBlock = some g ∨ g = w.heap.size) ∧ g < w'.heap.size ∧ KeptRow w w' e v (n * size) news := by
  obtain ⟨g, cap, w', hr, h2, h3, h4, h5⟩ := run_append_lies (P := P) w t ty base e i z size bytes ht hi hz hsize hby hzs hsz v n xs hown ad m c news hl hnews h1 hm h63 hbytes hbase _ rfl
  refine ⟨g, cap, w', hr, h2, h3, h4, h5, fun b cur hb hg => ?_⟩
  subst hsize hby
  rcases hown.2 with ⟨rfl, rfl⟩ | ⟨g0, cap0, cur0, rfl, hbg, hg0, hnc, hcm, hcs, htake⟩
  · cases hb
  · obtain rfl : g0 = b := by injection hb
    obtain rfl : cur0 = cur := by rw [hg0] at hg; injection hg with q; injection q
    by_cases hroom : n + m ≤ cap0
    · have hfit : n * i.size + news.length ≤ cur0.size := by rw [hl, hcs, ← Nat.add_mul]; exact Nat.mul_le_mul_right _ hroom
      have hr2 := run_append_room (P := P) w t ty e i ht hi g0 n cap0 cur0 hg0 ad m c news hl hnews h1 hroom hfit
      rw [hr] at hr2
      injection hr2 with _ hw
      subst hw
      refine ⟨_, setRow_heap w g0 cur0 _ e _ hg0, ?_, fun p => ?_⟩
      · simp only [List.size_toArray, List.length_append, List.length_take, List.length_drop, Array.length_toList]
        omega
      · simp only [List.getElem?_toArray]
        have hlt : (cur0.toList.take (n * i.size)).length = n * i.size := by simp; omega
        by_cases p1 : p < n * i.size
        · left
          rw [List.append_assoc, List.getElem?_append_left (by omega), List.getElem?_take_of_lt p1]
          simp
        · by_cases p2 : p < n * i.size + news.length
          · right
            refine ⟨p - n * i.size, by omega, by omega, ?_⟩
            rw [List.append_assoc, List.getElem?_append_right (by omega), hlt, List.getElem?_append_left (by omega)]
          · left
            rw [List.getElem?_append_right (by simp; omega), List.getElem?_drop]
            simp only [List.length_append, hlt, Array.getElem?_toList]
            congr 1
            omega
    · have holds : ∀ j u, xs[j]? = some u → w.cell? ((⟨g0, 0, none⟩ : Addr).add j) = some u := hown.cells (g := g0) rfl
      have hr2 := run_append_grow (P := P) w t ty e i z ht hi hz ⟨g0, 0, none⟩ n cap0 xs hown.1 holds ad m c news hl hnews (by omega) (by simp only [maxLen] at h63; omega) (growslice_fits (by omega) hbytes)
      rw [hr] at hr2
      injection hr2 with _ hw
      subst hw
      have hlt : g0 < w.heap.size := by
        rcases Nat.lt_or_ge g0 w.heap.size with h' | h'
        · exact h'
        · rw [Array.getElem?_eq_none h'] at hg0; cases hg0
      exact ⟨cur0, (Go.RowKit.Below.heap_alloc w.drew _ _ hlt).trans hg0, rfl, fun p => .inl rfl⟩
/-- The old slice still owns what it owned. -/
theorem KeptRow.own {w w' : World} {base : Nat} {e : TypeId} {size : Nat} {v : Value} {n : Nat} {xs news : List Value} (h : KeptRow w w' e v (n * size) news) (ho : w.ownsRow base e size v n xs) : w'.ownsRow base e size v n xs := by
  refine ⟨ho.1, ?_⟩
  rcases ho.2 with q | ⟨g, cap, cur, rfl, hb, hg, h1, h2, h3, h4⟩
  · exact .inl q
  · obtain ⟨cur', q1, q2, q3⟩ := h g cur rfl hg
    refine .inr ⟨g, cap, cur', rfl, hb, q1, h1, h2, by omega, ?_⟩
    rw [← h4]
    refine List.ext_getElem? fun p => ?_
    by_cases hp : p < n * size
    · rw [List.getElem?_take_of_lt hp, List.getElem?_take_of_lt hp]
      rcases q3 p with q | ⟨j, rfl, _⟩
      · simpa using q
      · omega
    · rw [List.getElem?_eq_none (by simp; omega), List.getElem?_eq_none (by simp; omega)]

/-- At the operation. -/
theorem wp_append_kept {P : Program} (w : World) {o : Oper} {a : Act} {K : Act → World → Prop} {Q : Exit → Act → World → Prop} (s x : Operand) (t : TypeId)
    (ho : o.op = .call { callee := .builtin .append, args := #[s, x], argTypes := #[t, t] })
    (base : Nat) (e : TypeId) (i : TypeInfo) (z : Value) (size bytes : Nat) (ht : P.underlying t = some (.slice e)) (hi : P.info? e = some i) (hz : i.zero = some z)
    (hsize : i.size = size) (hby : i.bytes = bytes) (hzs : z.cells.size = size) (hsz : 0 < size)
    (v : Value) (n : Nat) (xs : List Value) (hs : a.eval s = v) (hown : w.ownsRow base e size v n xs)
    (ad : Addr) (m c : Nat) (news : List Value) (hx : a.eval x = .slice (some ad) m c) (hl : news.length = m * size) (hnews : ∀ j u, news[j]? = some u → w.cell? (ad.add j) = some u) (h1 : ∀ u ∈ news, u.oneCell' = true)
    (hm : 0 < m) (h63 : n + m ≤ maxLen) (hbytes : (n + m) * bytes ≤ 140737488355328) (hbase : base ≤ w.heap.size)
    (h : ∀ g cap w', w'.ownsRow base e size (.slice (some ⟨g, 0, none⟩) (n + m) cap) (n + m) (xs ++ news) → w.grownBy w' v.ownBlock → KeptRow w w' e v (n * size) news → K (a.put o.dst (.slice (some ⟨g, 0, none⟩) (n + m) cap)) w') : o.wp P a w K Q := by
  obtain ⟨g, cap, w', hr, h2, h3, _, _, h6⟩ := append_kept (P := P) w t o.type base e i z size bytes ht hi hz hsize hby hzs hsz v n xs hown ad m c news hl hnews h1 hm h63 hbytes hbase
  unfold Oper.wp execOp
  simp only [ho, resolve, invoke, builtin, Sem.run_bind, Sem.run_pure, Result.andThen_ok, List.map_toArray, List.map_cons, List.map_nil, hs, hx, hr]
  exact h g cap w' h2 h3 h6
/-- At the list of a plain region's operations. -/
theorem wpList_append_kept {P : Program} (w : World) {ops : Array Oper} {rest : List Oper} {o : Oper} {a : Act} {Q : Exit → Act → World → Prop} (hgd : o.guard = none) (s x : Operand) (t : TypeId)
    (ho : o.op = .call { callee := .builtin .append, args := #[s, x], argTypes := #[t, t] })
    (base : Nat) (e : TypeId) (i : TypeInfo) (z : Value) (size bytes : Nat) (ht : P.underlying t = some (.slice e)) (hi : P.info? e = some i) (hz : i.zero = some z)
    (hsize : i.size = size) (hby : i.bytes = bytes) (hzs : z.cells.size = size) (hsz : 0 < size)
    (v : Value) (n : Nat) (xs : List Value) (hs : a.eval s = v) (hown : w.ownsRow base e size v n xs)
    (ad : Addr) (m c : Nat) (news : List Value) (hx : a.eval x = .slice (some ad) m c) (hl : news.length = m * size) (hnews : ∀ j u, news[j]? = some u → w.cell? (ad.add j) = some u) (h1 : ∀ u ∈ news, u.oneCell' = true)
    (hm : 0 < m) (h63 : n + m ≤ maxLen) (hbytes : (n + m) * bytes ≤ 140737488355328) (hbase : base ≤ w.heap.size)
    (h : ∀ g cap w', w'.ownsRow base e size (.slice (some ⟨g, 0, none⟩) (n + m) cap) (n + m) (xs ++ news) → w.grownBy w' v.ownBlock → KeptRow w w' e v (n * size) news → wpList P ops Q rest (a.put o.dst (.slice (some ⟨g, 0, none⟩) (n + m) cap)) w') : wpList P ops Q (o :: rest) a w :=
  wpList_plain hgd fun _ hK => wp_append_kept w s x t ho base e i z size bytes ht hi hz hsize hby hzs hsz v n xs hs hown ad m c news hx hl hnews h1 hm h63 hbytes hbase fun g cap w' h2 h3 h4 => hK _ _ (h g cap w' h2 h3 h4)
/-- At a step of a region that draws its order. -/
theorem step_append_kept {P : Program} (w : World) {ops : Array Oper} {o : Oper} {a : Act} {K : Act → World → Prop} {Q : Exit → Act → World → Prop} {E : Prop} (hgd : o.guard = none) (s x : Operand) (t : TypeId)
    (ho : o.op = .call { callee := .builtin .append, args := #[s, x], argTypes := #[t, t] })
    (base : Nat) (e : TypeId) (i : TypeInfo) (z : Value) (size bytes : Nat) (ht : P.underlying t = some (.slice e)) (hi : P.info? e = some i) (hz : i.zero = some z)
    (hsize : i.size = size) (hby : i.bytes = bytes) (hzs : z.cells.size = size) (hsz : 0 < size)
    (v : Value) (n : Nat) (xs : List Value) (hs : a.eval s = v) (hown : w.ownsRow base e size v n xs)
    (ad : Addr) (m c : Nat) (news : List Value) (hx : a.eval x = .slice (some ad) m c) (hl : news.length = m * size) (hnews : ∀ j u, news[j]? = some u → w.cell? (ad.add j) = some u) (h1 : ∀ u ∈ news, u.oneCell' = true)
    (hm : 0 < m) (h63 : n + m ≤ maxLen) (hbytes : (n + m) * bytes ≤ 140737488355328) (hbase : base ≤ w.heap.size)
    (h : ∀ g cap w', w'.ownsRow base e size (.slice (some ⟨g, 0, none⟩) (n + m) cap) (n + m) (xs ++ news) → w.grownBy w' v.ownBlock → KeptRow w w' e v (n * size) news → K (a.put o.dst (.slice (some ⟨g, 0, none⟩) (n + m) cap)) w') :
    if Region.wanted o (yielded ops a.tmps) = true then Oper.wp P o a w K Q else E := by
  rw [if_pos (by simp [Region.wanted, hgd])]
  exact wp_append_kept w s x t ho base e i z size bytes ht hi hz hsize hby hzs hsz v n xs hs hown ad m c news hx hl hnews h1 hm h63 hbytes hbase h
end Go.Proofs.YtkkicodfpekbgaaGreatDoor

/-! hallmarklaw's Book: lists that are written full with a mark; what stays of them. -/
namespace Go.Proofs.YtkkicodfpekbgaaGreatDoor
set_option linter.unusedSimpArgs false
set_option linter.unusedVariables false
open Go.RowKit

/-- The cells of a mark. -/
def mkV (m : Int) : List Value := [.int .i64 m, .string ⟨#[]⟩, .int .i64 m, .int .i64 0]
def mkCell (m : Int) (p : Nat) : Value := (mkV m).getD (p % 4) .nilIface
def mkRow (m : Int) : Nat → List Value
  | 0 => []
  | k + 1 => mkV m ++ mkRow m k
theorem mkRow_len (m : Int) : ∀ k, (mkRow m k).length = k * 4
  | 0 => rfl
  | k + 1 => by rw [mkRow, List.length_append, mkRow_len m k]; show 4 + k * 4 = _; omega
theorem mkRow_get (m : Int) : ∀ k p, p < k * 4 → (mkRow m k)[p]? = some (mkCell m p)
  | 0, p, h => by omega
  | k + 1, p, h => by
    rw [mkRow]
    by_cases q : p < 4
    · rw [List.getElem?_append_left (by simpa [mkV] using q)]
      unfold mkCell
      rw [Nat.mod_eq_of_lt q]
      match p, q with
      | 0, _ => rfl
      | 1, _ => rfl
      | 2, _ => rfl
      | 3, _ => rfl
    · have hl : (mkV m).length = 4 := rfl
      rw [List.getElem?_append_right (by omega), hl, mkRow_get m k (p - 4) (by omega)]
      unfold mkCell
      rw [← Nat.mod_eq_sub_mod (by omega)]
theorem mkRow_app (m : Int) (j : Nat) : ∀ k, mkRow m k ++ mkRow m j = mkRow m (k + j)
  | 0 => by simp [mkRow]
  | k + 1 => by rw [mkRow, List.append_assoc, mkRow_app m j k, show k + 1 + j = (k + j) + 1 by omega, mkRow]
theorem mkRow_one (m : Int) (k : Nat) : ∀ u ∈ mkRow m k, u.oneCell' = true := by
  induction k with
  | zero => intro u hu; cases hu
  | succ k ih =>
    intro u hu
    rw [mkRow, List.mem_append] at hu
    rcases hu with hu | hu
    · unfold mkV at hu; simp at hu; rcases hu with rfl | rfl | rfl | rfl <;> rfl
    · exact ih u hu
theorem mkCell_add (m : Int) (n j : Nat) : mkCell m (n * 4 + j) = mkCell m j := by
  unfold mkCell
  rw [show (n * 4 + j) % 4 = j % 4 by omega]
/-- A list of so many values that is written full with a mark. -/
def Full (w : World) (v : Value) (n : Nat) (m : Int) : Prop :=
  (v = .slice none 0 0 ∧ n = 0) ∨ ∃ g cap cur, v = .slice (some ⟨g, 0, none⟩) n cap ∧ n ≤ maxLen ∧ w.heap[g]? = some (.cells cur 60 (0, 0)) ∧ ∀ p, p < n * 4 → cur[p]? = some (mkCell m p)
theorem Full.of_own {w : World} {base : Nat} {v : Value} {n : Nat} {m : Int} (h : w.ownsRow base 60 4 v n (mkRow m n)) : Full w v n m := by
  rcases h.2 with q | ⟨g, cap, cur, rfl, _, hg, h1, h2, h3, h4⟩
  · exact .inl q
  · refine .inr ⟨g, cap, cur, rfl, by omega, hg, fun p hp => ?_⟩
    have := mkRow_get m n p hp
    rw [← h4, List.getElem?_take_of_lt hp] at this
    simpa using this
theorem Full.keep {w w' : World} {v : Value} {n : Nat} {m : Int} (h : Full w v n m) (hk : ∀ g o, v.ownBlock = some g → w.heap[g]? = some o → w'.heap[g]? = some o) : Full w' v n m := by
  rcases h with q | ⟨g, cap, cur, rfl, h1, hg, h2⟩
  · exact .inl q
  · exact .inr ⟨g, cap, cur, rfl, h1, hk g _ rfl hg, h2⟩
theorem Full.below {w w' : World} {v : Value} {n : Nat} {m : Int} (h : Full w v n m) (hb : Below w.heap.size w w') : Full w' v n m := h.keep fun _ _ _ hg => block_below hg hb
theorem Full.lt {w : World} {v : Value} {n : Nat} {m : Int} (h : Full w v n m) {g : Nat} (hv : v.ownBlock = some g) : g < w.heap.size := by
  rcases h with ⟨rfl, _⟩ | ⟨g', cap, cur, rfl, _, hg, _⟩
  · cases hv
  · injection hv with q; subst q; exact row_lt hg
/-- All blocks but one stay; of that one each cell stays or gets the mark. -/
structure Kp (w w' : World) (m : Int) (b : Option Nat) : Prop where
  gr : w.grownBy w' b
  own : ∀ g cur, b = some g → w.heap[g]? = some (.cells cur 60 (0, 0)) → ∃ cur' : Array Value, w'.heap[g]? = some (.cells cur' 60 (0, 0)) ∧ cur'.size = cur.size ∧ ∀ p : Nat, cur'[p]? = cur[p]? ∨ cur'[p]? = some (mkCell m p)
theorem Kp.refl (w : World) (m : Int) (b : Option Nat) : Kp w w m b where
  gr := ⟨rfl, rfl, rfl, Nat.le_refl _, fun _ _ _ => rfl⟩
  own := fun g cur _ h => ⟨cur, h, rfl, fun _ => .inl rfl⟩
theorem Kp.trans {w w1 w2 : World} {m : Int} {b : Option Nat} (h : Kp w w1 m b) (k : Kp w1 w2 m b) : Kp w w2 m b where
  gr := ⟨k.gr.os.trans h.gr.os, k.gr.tape.trans h.gr.tape, k.gr.output.trans h.gr.output, Nat.le_trans h.gr.size k.gr.size, fun g hg hb => (k.gr.block g (Nat.lt_of_lt_of_le hg h.gr.size) hb).trans (h.gr.block g hg hb)⟩
  own := fun g cur hb hg => by
    obtain ⟨c1, q1, q2, q3⟩ := h.own g cur hb hg
    obtain ⟨c2, r1, r2, r3⟩ := k.own g c1 hb q1
    refine ⟨c2, r1, by omega, fun p => ?_⟩
    rcases r3 p with e | e
    · rw [e]; exact q3 p
    · exact .inr e
theorem Kp.of_below {w w' : World} {m : Int} {b : Option Nat} (h : Below w.heap.size w w') : Kp w w' m b where
  gr := ⟨h.os, h.tape, h.output, h.size, fun g hg _ => h.block g hg⟩
  own := fun g cur _ hg => ⟨cur, block_below hg h, rfl, fun _ => .inl rfl⟩
theorem Kp.alloc {w w' : World} {m : Int} {b : Option Nat} (h : Kp w w' m b) (o : Obj) : Kp w (w'.alloc o) m b := h.trans (.of_below ((Below.refl _ _).alloc (Nat.le_refl _) _))
theorem Kp.drew {w w' : World} {m : Int} {b : Option Nat} (h : Kp w w' m b) : Kp w w'.drew m b := h.trans (.of_below (Below.refl _ _).drew)
theorem Kp.append {w w' : World} {m : Int} {v : Value} {n k : Nat} (hg : w.grownBy w' v.ownBlock) (hk : KeptRow w w' 60 v (n * 4) (mkRow m k)) : Kp w w' m v.ownBlock where
  gr := hg
  own := fun g cur hb hc => by
    obtain ⟨c1, q1, q2, q3⟩ := hk g cur hb hc
    refine ⟨c1, q1, q2, fun p => ?_⟩
    rcases q3 p with e | ⟨j, rfl, hj, e⟩
    · exact .inl e
    · right
      rw [mkRow_len] at hj
      rw [e, mkRow_get m k j hj, mkCell_add]
/-- A list full with the mark stays so. -/
theorem Kp.full {w w' : World} {m : Int} {b : Option Nat} (h : Kp w w' m b) {v : Value} {n : Nat} (hf : Full w v n m) : Full w' v n m := by
  rcases hf with q | ⟨g, cap, cur, rfl, h1, hg, h2⟩
  · exact .inl q
  · by_cases e : b = some g
    · obtain ⟨c1, q1, q2, q3⟩ := h.own g cur e hg
      refine .inr ⟨g, cap, c1, rfl, h1, q1, fun p hp => ?_⟩
      rcases q3 p with e | e
      · rw [e]; exact h2 p hp
      · exact e
    · exact .inr ⟨g, cap, cur, rfl, h1, (h.gr.block g (row_lt hg) (fun q => e q.symm)).trans hg, h2⟩
/-- So does a list of another block, with whatever mark. -/
theorem Kp.other {w w' : World} {m m' : Int} {b : Option Nat} (h : Kp w w' m b) {v : Value} {n : Nat} (hf : Full w v n m') (hne : ∀ g, v.ownBlock = some g → b ≠ some g) : Full w' v n m' :=
  hf.keep fun g _ hv hg => (h.gr.block g (row_lt hg) (fun q => hne g hv q.symm)).trans hg
theorem Kp.block {w w' : World} {m : Int} {b : Option Nat} (h : Kp w w' m b) {g : Nat} {o : Obj} (hg : w.heap[g]? = some o) (hne : b ≠ some g) : w'.heap[g]? = some o := (h.gr.block g (row_lt hg) (fun q => hne q.symm)).trans hg
/-- A row of another type stays. -/
theorem Kp.row {w w' : World} {m : Int} {v : Value} {n : Nat} {xs : List Value} {base : Nat} (h : Kp w w' m v.ownBlock) (hv : w.ownsRow base 60 4 v n xs) {b2 s2 n2 : Nat} {e2 : TypeId} {v2 : Value} {x2 : List Value} (h2 : w.ownsRow b2 e2 s2 v2 n2 x2) (hT : e2 ≠ 60) : w'.ownsRow b2 e2 s2 v2 n2 x2 := by
  refine ⟨h2.1, ?_⟩
  rcases h2.2 with q | ⟨g, cap, cur, rfl, hb, hg, r⟩
  · exact .inl q
  · refine .inr ⟨g, cap, cur, rfl, hb, h.block hg (fun e => ?_), r⟩
    rcases hv.2 with ⟨rfl, _⟩ | ⟨g', _, cur', rfl, _, hg', _⟩
    · cases e
    · injection e with e; subst e
      rw [show (⟨g', 0, none⟩ : Addr).block = g' from rfl] at hg
      rw [hg'] at hg
      injection hg with q; injection q with _ q; exact hT q.symm
theorem Kp.below {w w' : World} {m : Int} {b : Option Nat} (h : Kp w w' m b) {B : Nat} {w0 : World} (hb : Below B w0 w) (hB : B ≤ w.heap.size) (hlo : ∀ g, b = some g → B ≤ g) : Below B w0 w' := hb.grown h.gr hB hlo
/-- The Book in memory: the lists that came out with their marks, so many times four. -/
structure BkI (W w : World) (B : Nat) (L : List (Value × Nat × Int)) (nx : Int) : Prop where
  bel : Below W.heap.size W w
  lo : W.heap.size ≤ B
  row : ∃ vv vm, w.heap[B]? = some (.cells #[vv, vm, .slice none 0 0, .slice none 0 0, .int .i64 nx] 35 (0, 0)) ∧
    w.ownsRow W.heap.size 39 1 vv L.length (L.map (·.1)) ∧ w.ownsRow W.heap.size 3 1 vm L.length (L.map fun x => .int .i64 x.2.2)
  full : ∀ x ∈ L, Full w x.1 x.2.1 x.2.2
theorem BkI.below {W w w' : World} {B : Nat} {L : List (Value × Nat × Int)} {nx : Int} (h : BkI W w B L nx) (hb : Below w.heap.size w w') : BkI W w' B L nx where
  bel := h.bel.trans (hb.mono h.bel.size)
  lo := h.lo
  row := by
    obtain ⟨vv, vm, h1, h2, h3⟩ := h.row
    exact ⟨vv, vm, block_below h1 hb, own_below h2 hb, own_below h3 hb⟩
  full := fun x hx => (h.full x hx).below hb
end Go.Proofs.YtkkicodfpekbgaaGreatDoor

/-! hallmarklaw.alike: of two schemas that are the same, wherever they lie, it answers true. -/
namespace Go.Proofs.YtkkicodfpekbgaaGreatDoor
set_option linter.unusedSimpArgs false
set_option linter.unusedVariables false
open Go.RowKit
set_option maxHeartbeats 2000000 in
set_option maxRecDepth 100000 in
theorem alike_any (s : List Nd) (a1 a2 : Option Addr) (c1 c2 : Nat) (w : World) (h1 : Sch w a1 s) (h2 : Sch w a2 s) (hn : s.length ≤ 140737488351232) :
    Calls Tryz.prog 16 #[.slice a1 s.length c1, .slice a2 s.length c2] w fun e w' => RetO True w e w' := by
  have H1 : Hid (Sch w a1 s) := h1
  have H2 : Hid (Sch w a2 s) := h2
  clear h1 h2
  go_enter Tryz.func16, Tryz.ntmps16
  go_wp2
  go_loopw [5] (fun i wr => ∃ k : Nat, k ≤ s.length ∧ i = .int .i64 k ∧ ∃ q, wr = w.drewN q) (fun i _ => s.length - (intOf i).toNat)
  case atStart => exact ⟨0, Nat.zero_le _, rfl, 0, rfl⟩
  case round =>
    obtain ⟨k, hk, rfl, q, rfl⟩ := hrel
    by_cases hlt : k < s.length
    · obtain ⟨b1, o1, ka1, kc1, e1, n1, m1, M1, k1⟩ := H1.out k hlt
      obtain ⟨b2, o2, ka2, kc2, e2, n2, m2, M2, k2⟩ := H2.out k hlt
      subst e1 e2
      have hlt' : (k : Int) < s.length := by omega
      have hlt'' : decide ((k : Int) < s.length) = true := by simpa using hlt
      obtain ⟨x1, x2, x3, x4⟩ := n1
      obtain ⟨y1, y2, y3, y4⟩ := n2
      have K1 : Hid (KidsIn w ka1 (nd s k).kids) := k1
      have K2 : Hid (KidsIn w ka2 (nd s k).kids) := k2
      clear k1 k2
      go_wp2
      go_quiet (fail)
      go_wp2
      go_loopw [6] (fun i wr => ∃ m : Nat, m ≤ (nd s k).kids.length ∧ i = .int .i64 m ∧ ∃ q, wr = w.drewN q) (fun i _ => (nd s k).kids.length - (intOf i).toNat)
      case atStart => exact ⟨0, Nat.zero_le _, rfl, q + nq, by rw [World.drewN_drewN]⟩
      case round =>
        obtain ⟨m, hm, rfl, q', rfl⟩ := hrel
        have hml : (nd s k).kids.length ≤ 9223372036854775807 := by unfold maxLen at M1; omega
        by_cases hl2 : m < (nd s k).kids.length
        · obtain ⟨d1, p1, f1, r1⟩ := K1.out m hl2
          obtain ⟨d2, p2, f2, r2⟩ := K2.out m hl2
          subst f1 f2
          obtain ⟨i1, i2, i3⟩ := r1
          obtain ⟨j1, j2, j3⟩ := r2
          generalize (nd s k).kids.getD m kd0 = kd at i1 i2 i3 j1 j2 j3
          have hl2' : (m : Int) < (nd s k).kids.length := by omega
          go_wp2
          go_quiet (fail)
          go_wp2
          go_roundw
          case rel => exact ⟨m + 1, by omega, by go_num, _, rfl⟩
          case measure => simp [intOf]; omega
        · have hl2' : ((nd s k).kids.length : Int) ≤ m := by omega
          go_wp2
          go_roundw
          case rel => exact ⟨k + 1, by omega, by go_num, _, rfl⟩
          case measure => simp [intOf]; omega
    · have hlt' : (s.length : Int) ≤ k := by omega
      go_wp2
      go_ret
      exact reto_yes trivial (below_drewN (Below.refl _ _) _)
end Go.Proofs.YtkkicodfpekbgaaGreatDoor

/-! hallmarklaw.same, of two lists that hold the same values; Book.looks. -/
namespace Go.Proofs.YtkkicodfpekbgaaGreatDoor
set_option linter.unusedSimpArgs false
set_option linter.unusedVariables false
open Go.RowKit

theorem hideb {p : Prop} (h : p) : Hid p := h
theorem vcells_cons1 (v : Vl) (l : List Vl) : vcells (v :: l) = v.cells ++ vcells l := by unfold vcells; simp
def vl0 : Vl := ⟨0, ⟨#[]⟩, 0, 0⟩
/-- The values of a list lie in memory. -/
def VsIn (w : World) (a : Option Addr) (vs : List Vl) : Prop := ∀ j, j < vs.length → ∃ g, a = some ⟨g, 0, none⟩ ∧ w.cell? ⟨g, j * 4, none⟩ = some (.int .i64 (vs.getD j vl0).kind) ∧ w.cell? ⟨g, j * 4 + 1, none⟩ = some (.string (vs.getD j vl0).text) ∧
  w.cell? ⟨g, j * 4 + 2, none⟩ = some (.int .i64 (vs.getD j vl0).alt) ∧ w.cell? ⟨g, j * 4 + 3, none⟩ = some (.int .i64 (vs.getD j vl0).kids)
theorem vcells_get : ∀ (l : List Vl) (i : Nat), i < l.length → ∀ j, j < 4 → (vcells l)[i * 4 + j]? = (l.getD i vl0).cells[j]?
  | [], i, h, _, _ => absurd h (Nat.not_lt_zero _)
  | v :: l, 0, _, j, hj => by
    rw [vcells_cons1, List.getElem?_append_left (by show 0 * 4 + j < 4; omega)]
    simp
  | v :: l, i + 1, h, j, hj => by
    have hl : v.cells.length = 4 := rfl
    rw [vcells_cons1, List.getElem?_append_right (by omega), hl, show (i + 1) * 4 + j - 4 = i * 4 + j by omega, vcells_get l i (by simpa using h) j hj]
    simp
theorem VsIn.of_own {w : World} {base : Nat} {a : Option Addr} {c : Nat} {vs : List Vl} (h : w.ownsRow base 60 4 (.slice a vs.length c) vs.length (vcells vs)) : VsIn w a vs := fun j hj => by
  obtain ⟨a', c', e, hf⟩ := own_form2 h
  obtain ⟨g, rfl⟩ := hf (by omega)
  injection e with e1 _ _
  subst e1
  have q := h.cells (g := g) rfl
  refine ⟨g, rfl, ?_, ?_, ?_, ?_⟩
  · have := q (j * 4) (.int .i64 (vs.getD j vl0).kind) (by rw [show j * 4 = j * 4 + 0 by omega, vcells_get vs j hj 0 (by decide)]; rfl); rwa [add0] at this
  · have := q (j * 4 + 1) (.string (vs.getD j vl0).text) (by rw [vcells_get vs j hj 1 (by decide)]; rfl); rwa [add0] at this
  · have := q (j * 4 + 2) (.int .i64 (vs.getD j vl0).alt) (by rw [vcells_get vs j hj 2 (by decide)]; rfl); rwa [add0] at this
  · have := q (j * 4 + 3) (.int .i64 (vs.getD j vl0).kids) (by rw [vcells_get vs j hj 3 (by decide)]; rfl); rwa [add0] at this
theorem VsIn.below {w w' : World} {a : Option Addr} {vs : List Vl} (h : VsIn w a vs) (hb : Below w.heap.size w w') : VsIn w' a vs := fun j hj => by
  obtain ⟨g, e, h1, h2, h3, h4⟩ := h j hj
  exact ⟨g, e, (hb.cell (lt_of_cell h1)).trans h1, (hb.cell (lt_of_cell h2)).trans h2, (hb.cell (lt_of_cell h3)).trans h3, (hb.cell (lt_of_cell h4)).trans h4⟩

set_option maxHeartbeats 1000000 in
set_option maxRecDepth 100000 in
theorem same_any (vs : List Vl) (a1 a2 : Option Addr) (c1 c2 : Nat) (w : World) (h1 : VsIn w a1 vs) (h2 : VsIn w a2 vs) (hn : vs.length ≤ 140737488351232) :
    Calls Tryz.prog 41 #[.slice a1 vs.length c1, .slice a2 vs.length c2] w fun e w' => RetO True w e w' := by
  have H1 := hideb h1
  have H2 := hideb h2
  clear h1 h2
  go_enter Tryz.func41, Tryz.ntmps41
  go_wp2
  go_loopw [5] (fun i wr => ∃ k : Nat, k ≤ vs.length ∧ i = .int .i64 k ∧ ∃ q, wr = w.drewN q) (fun i _ => vs.length - (intOf i).toNat)
  case atStart => exact ⟨0, Nat.zero_le _, rfl, 0, rfl⟩
  case round =>
    obtain ⟨k, hk, rfl, q, rfl⟩ := hrel
    by_cases hlt : k < vs.length
    · obtain ⟨g1, e1, x1, x2, x3, x4⟩ := H1.out k hlt
      obtain ⟨g2, e2, y1, y2, y3, y4⟩ := H2.out k hlt
      subst e1 e2
      have hlt' : (k : Int) < vs.length := by omega
      generalize vs.getD k vl0 = x at x1 x2 x3 x4 y1 y2 y3 y4
      go_wp2
      go_quiet (fail)
      go_wp2
      go_roundw
      case rel => exact ⟨k + 1, by omega, by go_num, _, rfl⟩
      case measure => simp [intOf]; omega
    · have hlt' : (vs.length : Int) ≤ k := by omega
      go_wp2
      go_ret
      exact reto_yes trivial (below_drewN (Below.refl _ _) _)
end Go.Proofs.YtkkicodfpekbgaaGreatDoor

/-! hallmarklaw: Book.ownsValues: what it leaves. -/
namespace Go.Proofs.YtkkicodfpekbgaaGreatDoor
set_option linter.unusedSimpArgs false
set_option linter.unusedVariables false
open Go.RowKit

def Tryz.zeroVl : Value := .agg #[.int .i64 0, .string ⟨#[]⟩, .int .i64 0, .int .i64 0]
theorem Tryz.infoVl : (Tryz.prog.info? 60).map (fun i => (i.zero, i.size, i.bytes)) = some (some Tryz.zeroVl, 4, 40) := by kernel_rfl
theorem Tryz.infoVs : (Tryz.prog.info? 39).map (fun i => (i.zero, i.size, i.bytes)) = some (some (.slice none 0 0), 1, 24) := by kernel_rfl
theorem Tryz.infoIn : (Tryz.prog.info? 3).map (fun i => (i.zero, i.size, i.bytes)) = some (some (.int .i64 0), 1, 8) := by kernel_rfl

/-- Where ownsValues stands: the Book with its next mark; the elder lists, none of them in new memory. -/
structure OvI (W w0 w : World) (B : Nat) (L : List (Value × Nat × Int)) (vv vm : Value) (m : Int) : Prop where
  bel : Below W.heap.size W w
  lo : W.heap.size ≤ B
  s0 : W.heap.size ≤ w0.heap.size
  s1 : w0.heap.size ≤ w.heap.size
  row : w.heap[B]? = some (.cells #[vv, vm, .slice none 0 0, .slice none 0 0, .int .i64 m] 35 (0, 0))
  ov : w.ownsRow W.heap.size 39 1 vv L.length (L.map (·.1))
  om : w.ownsRow W.heap.size 3 1 vm L.length (L.map fun x => .int .i64 x.2.2)
  full : ∀ x ∈ L, Full w x.1 x.2.1 x.2.2 ∧ ∀ g, x.1.ownBlock = some g → g < w0.heap.size
theorem OvI.of {W w0 w : World} {B : Nat} {L : List (Value × Nat × Int)} {nx : Int} (h : BkI W w0 B L nx) (hb : Below w0.heap.size w0 w) (m : Int) : ∃ vv vm, OvI W w0 (w.setCell ⟨B, 4, none⟩ (.int .i64 m)) B L vv vm m ∧ w.heap[B]? = some (.cells #[vv, vm, .slice none 0 0, .slice none 0 0, .int .i64 nx] 35 (0, 0)) := by
  have hw := h.below hb
  obtain ⟨vv, vm, h1, h2, h3⟩ := hw.row
  refine ⟨vv, vm, ⟨hw.bel.setCell (p := ⟨B, 4, none⟩) h.lo _, h.lo, h.bel.size, ?_, heap_setCell_same w B 4 _ _ _ h1, ?_, ?_, fun x hx => ⟨?_, fun g hg => (h.full x hx).lt hg⟩⟩, h1⟩
  · simpa [World.setCell] using hb.size
  · exact ownsRow_setCell_other h2 (row_ne h1 h2 (by decide)) _
  · exact ownsRow_setCell_other h3 (row_ne h1 h3 (by decide)) _
  · refine (hw.full x hx).keep fun g o hv hg => ?_
    rw [heap_setCell_other _ _ _ _ (fun e => ?_)]
    · exact hg
    · subst e
      rcases hw.full x hx with ⟨q, _⟩ | ⟨g', _, cur, q, _, q2, _⟩
      · rw [q] at hv; cases hv
      · rw [q] at hv
        injection hv with hv
        subst hv
        rw [h1] at q2
        injection q2 with q2
        injection q2 with _ q2
        exact absurd q2 (by decide)
theorem OvI.kp {W w0 w w' : World} {B : Nat} {L : List (Value × Nat × Int)} {vv vm : Value} {m : Int} (h : OvI W w0 w B L vv vm m) {v : Value} {n : Nat} {xs : List Value} (ho : w.ownsRow w0.heap.size 60 4 v n xs) (hk : Kp w w' m v.ownBlock) : OvI W w0 w' B L vv vm m where
  bel := hk.below h.bel h.bel.size (fun g hg => Nat.le_trans h.s0 (ho.lt g hg).1)
  lo := h.lo
  s0 := h.s0
  s1 := Nat.le_trans h.s1 hk.gr.size
  row := hk.block h.row (row_ne h.row ho (by decide))
  ov := hk.row ho h.ov (by decide)
  om := hk.row ho h.om (by decide)
  full := fun x hx => ⟨hk.other (h.full x hx).1 (fun g hg e => by have := (h.full x hx).2 g hg; have := (ho.lt g e).1; omega), (h.full x hx).2⟩
theorem OvI.below {W w0 w w' : World} {B : Nat} {L : List (Value × Nat × Int)} {vv vm : Value} {m : Int} (h : OvI W w0 w B L vv vm m) (hb : Below w.heap.size w w') : OvI W w0 w' B L vv vm m where
  bel := h.bel.trans (hb.mono h.bel.size)
  lo := h.lo
  s0 := h.s0
  s1 := Nat.le_trans h.s1 hb.size
  row := block_below h.row hb
  ov := own_below h.ov hb
  om := own_below h.om hb
  full := fun x hx => ⟨(h.full x hx).1.below hb, (h.full x hx).2⟩
/-- A value of four cells is stored. -/
theorem Kp.store {w : World} {g k : Nat} {cur : Array Value} (m : Int) (hg : w.heap[g]? = some (.cells cur 60 (0, 0))) :
    Kp w ((((w.setCell ⟨g, k * 4, none⟩ (.int .i64 m)).setCell ⟨g, k * 4 + 1, none⟩ (.string ⟨#[]⟩)).setCell ⟨g, k * 4 + 2, none⟩ (.int .i64 m)).setCell ⟨g, k * 4 + 3, none⟩ (.int .i64 0)) m (some g) ∧
    ((((w.setCell ⟨g, k * 4, none⟩ (.int .i64 m)).setCell ⟨g, k * 4 + 1, none⟩ (.string ⟨#[]⟩)).setCell ⟨g, k * 4 + 2, none⟩ (.int .i64 m)).setCell ⟨g, k * 4 + 3, none⟩ (.int .i64 0)).heap[g]? = some (.cells ((((cur.setIfInBounds (k * 4) (.int .i64 m)).setIfInBounds (k * 4 + 1) (.string ⟨#[]⟩)).setIfInBounds (k * 4 + 2) (.int .i64 m)).setIfInBounds (k * 4 + 3) (.int .i64 0)) 60 (0, 0)) := by
  have e := heap_setCell_same _ g (k * 4 + 3) _ _ (.int .i64 0) (heap_setCell_same _ g (k * 4 + 2) _ _ (.int .i64 m) (heap_setCell_same _ g (k * 4 + 1) _ _ (.string ⟨#[]⟩) (heap_setCell_same w g (k * 4) _ _ (.int .i64 m) hg)))
  have hb := ((((Below.refl 0 w).setCell (p := ⟨g, k * 4, none⟩) (Nat.zero_le _) (.int .i64 m)).setCell (p := ⟨g, k * 4 + 1, none⟩) (Nat.zero_le _) (.string ⟨#[]⟩)).setCell (p := ⟨g, k * 4 + 2, none⟩) (Nat.zero_le _) (.int .i64 m)).setCell (p := ⟨g, k * 4 + 3, none⟩) (Nat.zero_le _) (.int .i64 0)
  refine ⟨⟨⟨hb.os, hb.tape, hb.output, hb.size, fun j _ hj => ?_⟩, fun g' cur' hb' hc => ?_⟩, e⟩
  · have hne : j ≠ g := fun q => hj (by rw [q])
    rw [heap_setCell_other _ _ _ _ hne, heap_setCell_other _ _ _ _ hne, heap_setCell_other _ _ _ _ hne, heap_setCell_other _ _ _ _ hne]
  · injection hb' with hb'
    subst hb'
    obtain rfl : cur = cur' := by rw [hg] at hc; injection hc with q; injection q
    refine ⟨_, e, by simp, fun p => ?_⟩
    have hm : ∀ i, i < 4 → mkCell m (k * 4 + i) = (mkV m).getD i .nilIface := fun i hi => by rw [mkCell_add]; unfold mkCell; rw [Nat.mod_eq_of_lt hi]
    simp only [Array.getElem?_setIfInBounds, Array.size_setIfInBounds]
    by_cases q3 : k * 4 + 3 = p
    · subst q3
      rw [if_pos rfl]
      split
      · right; rw [hm 3 (by decide)]; rfl
      · left; rw [Array.getElem?_eq_none (by omega)]
    rw [if_neg q3]
    by_cases q2 : k * 4 + 2 = p
    · subst q2
      rw [if_pos rfl]
      split
      · right; rw [hm 2 (by decide)]; rfl
      · left; rw [Array.getElem?_eq_none (by omega)]
    rw [if_neg q2]
    by_cases q1 : k * 4 + 1 = p
    · subst q1
      rw [if_pos rfl]
      split
      · right; rw [hm 1 (by decide)]; rfl
      · left; rw [Array.getElem?_eq_none (by omega)]
    rw [if_neg q1]
    by_cases q0 : k * 4 = p
    · subst q0
      rw [if_pos rfl]
      split
      · right; have := hm 0 (by decide); rw [Nat.add_zero] at this; rw [this]; rfl
      · left; rw [Array.getElem?_eq_none (by omega)]
    rw [if_neg q0]
    exact .inl rfl
/-- What is marked so far in a list. -/
def MkTo (w : World) (v : Value) (k : Nat) (m : Int) : Prop := ∀ g cur, v.ownBlock = some g → w.heap[g]? = some (.cells cur 60 (0, 0)) → ∀ p, p < k * 4 → cur[p]? = some (mkCell m p)
theorem MkTo.store {w : World} {v : Value} {g k : Nat} {cur : Array Value} {m : Int} (h : MkTo w v k m) (hv : v.ownBlock = some g) (hg : w.heap[g]? = some (.cells cur 60 (0, 0))) (hs : k * 4 + 3 < cur.size) :
    MkTo ((((w.setCell ⟨g, k * 4, none⟩ (.int .i64 m)).setCell ⟨g, k * 4 + 1, none⟩ (.string ⟨#[]⟩)).setCell ⟨g, k * 4 + 2, none⟩ (.int .i64 m)).setCell ⟨g, k * 4 + 3, none⟩ (.int .i64 0)) v (k + 1) m := fun g' cur' hv' hc p hp => by
  obtain rfl : g = g' := Option.some.inj (hv.symm.trans hv')
  rw [(Kp.store m hg).2] at hc
  injection hc with hc
  injection hc with hc _ _
  subst hc
  have hm : ∀ i, i < 4 → mkCell m (k * 4 + i) = (mkV m).getD i .nilIface := fun i hi => by rw [mkCell_add]; unfold mkCell; rw [Nat.mod_eq_of_lt hi]
  simp only [Array.getElem?_setIfInBounds, Array.size_setIfInBounds]
  by_cases q3 : k * 4 + 3 = p
  · subst q3; rw [if_pos rfl, if_pos hs, hm 3 (by decide)]; rfl
  by_cases q2 : k * 4 + 2 = p
  · subst q2; rw [if_neg q3, if_pos rfl, if_pos (by omega), hm 2 (by decide)]; rfl
  by_cases q1 : k * 4 + 1 = p
  · subst q1; rw [if_neg q3, if_neg q2, if_pos rfl, if_pos (by omega), hm 1 (by decide)]; rfl
  by_cases q0 : k * 4 = p
  · subst q0; rw [if_neg q3, if_neg q2, if_neg q1, if_pos rfl, if_pos (by omega)]; have := hm 0 (by decide); rw [Nat.add_zero] at this; rw [this]; rfl
  rw [if_neg q3, if_neg q2, if_neg q1, if_neg q0]
  exact h g cur hv hg p (by omega)
/-- A list that is marked to its end owns the marks. -/
theorem own_marked {w w' : World} {base : Nat} {v : Value} {n : Nat} {xs : List Value} {m : Int} (ho : w.ownsRow base 60 4 v n xs) (hk : Kp w w' m v.ownBlock) (hm : MkTo w' v n m) : w'.ownsRow base 60 4 v n (mkRow m n) := by
  refine ⟨mkRow_len m n, ?_⟩
  rcases ho.2 with q | ⟨g, cap, cur, rfl, hb, hg, h1, h2, h3, h4⟩
  · exact .inl q
  · obtain ⟨cur', q1, q2, q3⟩ := hk.own g cur rfl hg
    refine .inr ⟨g, cap, cur', rfl, hb, q1, h1, h2, by omega, ?_⟩
    refine List.ext_getElem? fun p => ?_
    by_cases hp : p < n * 4
    · rw [List.getElem?_take_of_lt hp, mkRow_get m n p hp]
      simpa using hm g cur' rfl q1 p hp
    · have : n * 4 ≤ cap * 4 := Nat.mul_le_mul_right _ h1
      rw [List.getElem?_eq_none (by simp; omega), List.getElem?_eq_none (by rw [mkRow_len]; omega)]
/-- A full list stays where a row of another type grows. -/
theorem Full.grown {w w' : World} {v : Value} {n : Nat} {m : Int} (h : Full w v n m) {base size k : Nat} {e : TypeId} {u : Value} {xs : List Value} (ho : w.ownsRow base e size u k xs) (hT : 60 ≠ e) (hg : w.grownBy w' u.ownBlock) : Full w' v n m := by
  rcases h with q | ⟨g, cap, cur, rfl, h1, h2, h3⟩
  · exact .inl q
  · exact .inr ⟨g, cap, cur, rfl, h1, (hg.block g (row_lt h2) (fun q => row_ne h2 ho hT q.symm)).trans h2, h3⟩
theorem Full.set {w : World} {v : Value} {n : Nat} {m : Int} (h : Full w v n m) {B : Nat} {A : Array Value} {T : TypeId} (hB : w.heap[B]? = some (.cells A T (0, 0))) (hT : T ≠ 60) (i : Nat) (u : Value) : Full (w.setCell ⟨B, i, none⟩ u) v n m := by
  rcases h with q | ⟨g, cap, cur, rfl, h1, h2, h3⟩
  · exact .inl q
  · refine .inr ⟨g, cap, cur, rfl, h1, ?_, h3⟩
    rw [heap_setCell_other _ _ _ _ (fun e => ?_)]
    · exact h2
    · subst e
      rw [hB] at h2
      injection h2 with q; injection q with _ q _; exact hT q
end Go.Proofs.YtkkicodfpekbgaaGreatDoor

/-! hallmarklaw: Book.ownsValues: the walk. -/
namespace Go.Proofs.YtkkicodfpekbgaaGreatDoor
set_option linter.unusedSimpArgs false
set_option linter.unusedVariables false
open Go.RowKit

/-- One append onto the list. -/
theorem OvI.app {W w0 w w' : World} {B : Nat} {L : List (Value × Nat × Int)} {vv vm : Value} {m : Int} {v u : Value} {n k : Nat} {o : Obj} (h : OvI W w0 w B L vv vm m) (ho : w.ownsRow w0.heap.size 60 4 v n (mkRow m n)) (h1 : w'.ownsRow w0.heap.size 60 4 u (n + k) (mkRow m n ++ mkRow m k)) (h2 : (w.alloc o).grownBy w' v.ownBlock) (h3 : KeptRow (w.alloc o) w' 60 v (n * 4) (mkRow m k)) :
    OvI W w0 w' B L vv vm m ∧ w'.ownsRow w0.heap.size 60 4 v n (mkRow m n) ∧ Full w' u (n + k) m ∧ Kp w w' m v.ownBlock := by
  have hk : Kp w w' m v.ownBlock := ((Kp.refl w m v.ownBlock).alloc o).trans (Kp.append h2 h3)
  refine ⟨h.kp ho hk, h3.own (ho.alloc o), Full.of_own (base := w0.heap.size) ?_, hk⟩
  rw [mkRow_app] at h1
  exact h1

/-- The Book with the lists put and the marks not yet. -/
structure OvJ (W w : World) (B : Nat) (L LL : List (Value × Nat × Int)) (vv vm : Value) (m : Int) : Prop where
  bel : Below W.heap.size W w
  lo : W.heap.size ≤ B
  row : w.heap[B]? = some (.cells #[vv, vm, .slice none 0 0, .slice none 0 0, .int .i64 m] 35 (0, 0))
  ov : w.ownsRow W.heap.size 39 1 vv LL.length (LL.map (·.1))
  om : w.ownsRow W.heap.size 3 1 vm L.length (L.map fun x => .int .i64 x.2.2)
  full : ∀ x ∈ LL, Full w x.1 x.2.1 x.2.2
theorem own_grown {w w' : World} {b1 b2 s1 s2 n1 n2 : Nat} {e1 e2 : TypeId} {v1 v2 : Value} {x1 x2 : List Value} (h1 : w.ownsRow b1 e1 s1 v1 n1 x1) (h2 : w.ownsRow b2 e2 s2 v2 n2 x2) (hT : e2 ≠ e1) (hg : w.grownBy w' v1.ownBlock) : w'.ownsRow b2 e2 s2 v2 n2 x2 := by
  refine ⟨h2.1, ?_⟩
  rcases h2.2 with q | ⟨g, cap, cur, rfl, hb, hc, r⟩
  · exact .inl q
  · exact .inr ⟨g, cap, cur, rfl, hb, (hg.block g (row_lt hc) (fun q => row_ne hc h1 hT q.symm)).trans hc, r⟩
theorem OvI.put {W w0 w w' : World} {B : Nat} {L LL : List (Value × Nat × Int)} {vv vm vv' : Value} {m : Int} {o : Obj} (h : OvI W w0 w B L vv vm m) (hF : ∀ x ∈ LL, Full w x.1 x.2.1 x.2.2) (h1 : w'.ownsRow W.heap.size 39 1 vv' LL.length (LL.map (·.1))) (h2 : (w.alloc o).grownBy w' vv.ownBlock) :
    w'.cell? ⟨B, 0, none⟩ = some vv ∧ w'.frozen? ⟨B, 0, none⟩ = false ∧ OvJ W (w'.setCell ⟨B, 0, none⟩ vv') B L LL vv' vm m := by
  have ha : Below w.heap.size w (w.alloc o) := (Below.refl _ _).alloc (Nat.le_refl _) _
  have h' := h.below ha
  have hB : w'.heap[B]? = some (.cells #[vv, vm, .slice none 0 0, .slice none 0 0, .int .i64 m] 35 (0, 0)) := (h2.block B (row_lt h'.row) (fun q => row_ne h'.row h'.ov (by decide) q.symm)).trans h'.row
  have hm := own_grown h'.ov h'.om (by decide) h2
  refine ⟨by simp [World.cell?, hB], by simp [World.frozen?, hB], ?_, h.lo, heap_setCell_same w' B 0 _ _ _ hB, ?_, ?_, fun x hx => ?_⟩
  · exact (h'.bel.grown h2 h'.bel.size (fun g hg => (h'.ov.lt g hg).1)).setCell (p := ⟨B, 0, none⟩) h.lo _
  · exact ownsRow_setCell_other h1 (row_ne hB h1 (by decide)) _
  · exact ownsRow_setCell_other hm (row_ne hB hm (by decide)) _
  · exact (((hF x hx).below ha).grown h'.ov (by decide) h2).set hB (by decide) _ _
theorem OvJ.below {W w w' : World} {B : Nat} {L LL : List (Value × Nat × Int)} {vv vm : Value} {m : Int} (h : OvJ W w B L LL vv vm m) (hb : Below w.heap.size w w') : OvJ W w' B L LL vv vm m :=
  ⟨h.bel.trans (hb.mono h.bel.size), h.lo, block_below h.row hb, own_below h.ov hb, own_below h.om hb, fun x hx => (h.full x hx).below hb⟩
theorem OvJ.put {W w wx w' : World} {B : Nat} {L LL : List (Value × Nat × Int)} {vv vm vm' : Value} {m : Int} (h : OvJ W w B L LL vv vm m) (hx : Below w.heap.size w wx) (h1 : w'.ownsRow W.heap.size 3 1 vm' LL.length (LL.map fun x => .int .i64 x.2.2)) (h2 : wx.grownBy w' vm.ownBlock) :
    w'.cell? ⟨B, 1, none⟩ = some vm ∧ w'.frozen? ⟨B, 1, none⟩ = false ∧ BkI W (w'.setCell ⟨B, 1, none⟩ vm') B LL m := by
  have h' := h.below hx
  have hB : w'.heap[B]? = some (.cells #[vv, vm, .slice none 0 0, .slice none 0 0, .int .i64 m] 35 (0, 0)) := (h2.block B (row_lt h'.row) (fun q => row_ne h'.row h'.om (by decide) q.symm)).trans h'.row
  have hv := own_grown h'.om h'.ov (by decide) h2
  refine ⟨by simp [World.cell?, hB], by simp [World.frozen?, hB], ?_, h.lo, ⟨vv, vm', heap_setCell_same w' B 1 _ _ _ hB, ?_, ?_⟩, fun x hx => ?_⟩
  · exact (h'.bel.grown h2 h'.bel.size (fun g hg => (h'.om.lt g hg).1)).setCell (p := ⟨B, 1, none⟩) h.lo _
  · exact ownsRow_setCell_other hv (row_ne hB hv (by decide)) _
  · exact ownsRow_setCell_other h1 (row_ne hB h1 (by decide)) _
  · exact ((h'.full x hx).grown h'.om (by decide) h2).set hB (by decide) _ _

set_option maxHeartbeats 4000000 in
set_option maxRecDepth 100000 in
theorem ownsValues_any (W w0 w : World) (B : Nat) (L : List (Value × Nat × Int)) (nx : Int) (la : Option Addr) (lc n : Nat) (xs : List Value) (hI : BkI W w0 B L nx) (hb : Below w0.heap.size w0 w) (ho : w.ownsRow w0.heap.size 60 4 (.slice la n lc) n xs) (hn : n ≤ 400000) (hL : L.length ≤ 1099511627776) (hx1 : -1099511627776 ≤ nx) (hx2 : nx ≤ 0) :
    Calls Tryz.prog 42 #[.pointer (some ⟨B, 0, none⟩), .slice la n lc] w fun e w' => e = .returned (.tuple #[]) ∧ ∃ L', BkI W w' B L' (nx - 1) ∧ L'.length = L.length + 4 := by
  obtain ⟨i0, hi0, hz0, hz1, hz2⟩ := info_parts Tryz.infoVl
  obtain ⟨i1, hi1, hy0, hy1, hy2⟩ := info_parts Tryz.infoVs
  obtain ⟨i2, hi2, hu0, hu1, hu2⟩ := info_parts Tryz.infoIn
  obtain ⟨vv, vm, hO, hB⟩ := OvI.of hI hb (nx - 1)
  have c4 : w.cell? ⟨B, 4, none⟩ = some (.int .i64 nx) := by simp [World.cell?, hB]
  have f4 : w.frozen? ⟨B, 4, none⟩ = false := by simp [World.frozen?, hB]
  have hlB : B < w.heap.size := lt_of_cell c4
  have hOL : (w.setCell ⟨B, 4, none⟩ (.int .i64 (nx - 1))).ownsRow w0.heap.size 60 4 (.slice la n lc) n xs := ownsRow_setCell_other ho (row_ne hB ho (by decide)) _
  obtain ⟨m, hm⟩ : ∃ m, nx - 1 = m := ⟨_, rfl⟩
  have HM := hideb hm
  rw [hm] at hO hOL
  rw [hm]
  clear hm
  have HO := hideb hO
  have HOL := hideb hOL
  clear hI hb ho hB hO hOL
  go_enter Tryz.func42, Tryz.ntmps42
  go_wp2_with fail
  rw [HM.out]
  generalize w.setCell ⟨B, 4, none⟩ (.int .i64 m) = w1 at HO HOL ⊢
  clear c4 f4 hlB
  have c4 : w1.cell? ⟨B, 4, none⟩ = some (.int .i64 m) := by simp [World.cell?, HO.out.row]
  have hlB : B < w1.heap.size := lt_of_cell c4
  go_region_held_law (fun w' => w'.cell? ⟨B, 4, none⟩ = some (.int .i64 m)) (go_keep) (fail)
  rename_i hHeld
  clear hHeld
  go_wp2
  have hX2 : (w1.alloc (.cells #[.int .i64 m, .string ⟨#[]⟩, .int .i64 m, .int .i64 0] 60)).drew.heap[w1.heap.size]? = some (.cells #[.int .i64 m, .string ⟨#[]⟩, .int .i64 m, .int .i64 0] 60 (0, 0)) := heap_alloc_new w1 _
  have hB2 : Below w1.heap.size w1 (w1.alloc (.cells #[.int .i64 m, .string ⟨#[]⟩, .int .i64 m, .int .i64 0] 60)).drew := ((Below.refl _ _).alloc (Nat.le_refl _) _).drew
  have hxl : ∀ g, (Value.slice la n lc).ownBlock = some g → g < w1.heap.size := fun g hg => (HOL.out.lt g hg).2
  obtain ⟨xb, hxb⟩ : ∃ xb, w1.heap.size = xb := ⟨_, rfl⟩
  rw [hxb] at hX2 hxl
  rw [hxb]
  generalize (w1.alloc (.cells #[.int .i64 m, .string ⟨#[]⟩, .int .i64 m, .int .i64 0] 60)).drew = w2 at hX2 hB2 ⊢
  have HO2 := hideb (HO.out.below hB2)
  have HOL2 := hideb (own_below HOL.out hB2)
  have HX2 := hideb hX2
  have HXL : Hid ((Value.slice la n lc).ownBlock ≠ some xb) := fun q => Nat.lt_irrefl _ (hxl xb q)
  clear hX2 hB2 hxl hxb c4 hlB HO HOL
  go_loopw [5] (fun i wr => ∃ k : Nat, k ≤ n ∧ i = .int .i64 k ∧ Kp w2 wr m (Value.slice la n lc).ownBlock ∧ MkTo wr (.slice la n lc) k m) (fun i _ => n - (intOf i).toNat)
  case atStart => exact ⟨0, Nat.zero_le _, rfl, Kp.refl _ _ _, fun _ _ _ _ p hp => by omega⟩
  case round =>
    obtain ⟨k, hk, rfl, hK, hM⟩ := hrel
    have HK := hideb hK
    have HMK := hideb hM
    have hX3 := hK.block HX2.out HXL.out
    have HX3 := hideb hX3
    have x0 : wr.cell? ⟨xb, 0, none⟩ = some (.int .i64 m) := by simp [World.cell?, hX3]
    have x1 : wr.cell? ⟨xb, 1, none⟩ = some (.string ⟨#[]⟩) := by simp [World.cell?, hX3]
    have x2 : wr.cell? ⟨xb, 2, none⟩ = some (.int .i64 m) := by simp [World.cell?, hX3]
    have x3 : wr.cell? ⟨xb, 3, none⟩ = some (.int .i64 0) := by simp [World.cell?, hX3]
    clear hK hM hX3
    by_cases hlt : k < n
    · have hlt' : (k : Int) < n := by omega
      obtain ⟨g, cur, rfl, hcur, hsz⟩ : ∃ g cur, la = some ⟨g, 0, none⟩ ∧ wr.heap[g]? = some (.cells cur 60 (0, 0)) ∧ k * 4 + 3 < cur.size := by
        rcases HOL2.out.2 with ⟨_, q⟩ | ⟨g, cap, cur, q, _, q1, q2, _, q3, _⟩
        · omega
        · injection q with q4 _ q5
          subst q4 q5
          obtain ⟨cur', r1, r2, _⟩ := HK.out.own g cur rfl q1
          have : (k + 1) * 4 ≤ lc * 4 := Nat.mul_le_mul_right _ (by omega)
          exact ⟨g, cur', rfl, r1, by omega⟩
      have o0 : wr.cell? ⟨g, k * 4, none⟩ = some (cur[k * 4]'(by omega)) := by simp [World.cell?, hcur, show k * 4 < cur.size by omega]
      have o1 : wr.cell? ⟨g, k * 4 + 1, none⟩ = some (cur[k * 4 + 1]'(by omega)) := by simp [World.cell?, hcur, show k * 4 + 1 < cur.size by omega]
      have o2 : wr.cell? ⟨g, k * 4 + 2, none⟩ = some (cur[k * 4 + 2]'(by omega)) := by simp [World.cell?, hcur, show k * 4 + 2 < cur.size by omega]
      have o3 : wr.cell? ⟨g, k * 4 + 3, none⟩ = some (cur[k * 4 + 3]'(by omega)) := by simp [World.cell?, hcur, hsz]
      have f0 : wr.frozen? ⟨g, k * 4, none⟩ = false := by simp [World.frozen?, hcur]
      have f1 : wr.frozen? ⟨g, k * 4 + 1, none⟩ = false := by simp [World.frozen?, hcur]
      have f2 : wr.frozen? ⟨g, k * 4 + 2, none⟩ = false := by simp [World.frozen?, hcur]
      have f3 : wr.frozen? ⟨g, k * 4 + 3, none⟩ = false := by simp [World.frozen?, hcur]
      have HS1 := hideb (HK.out.trans (Kp.store (k := k) m hcur).1)
      have HS2 := hideb (HMK.out.store (g := g) rfl hcur hsz)
      generalize cur[k * 4]'(by omega) = z0 at o0
      generalize cur[k * 4 + 1]'(by omega) = z1 at o1
      generalize cur[k * 4 + 2]'(by omega) = z2 at o2
      generalize cur[k * 4 + 3]'(by omega) = z3 at o3
      clear hcur hsz
      go_wp2
      go_roundw
      case rel => exact ⟨k + 1, by omega, by go_num, HS1.out, HS2.out⟩
      case measure => simp [intOf]; omega
    · have hlt' : (n : Int) ≤ k := by omega
      obtain rfl : n = k := by omega
      have HO3 := hideb (HO2.out.kp HOL2.out HK.out)
      have HOL3 := hideb (own_marked HOL2.out HK.out HMK.out)
      have hs3 : w0.heap.size ≤ wr.heap.size + 1 := by have := HO3.out.s1; omega
      clear HO2 HOL2 HK HMK HX2 hk hlt hlt'
      go_wp2_with (at_builtin; refine wpList_append_kept _ rfl (.tmp 35) (.tmp 37) 39 rfl w0.heap.size 60 i0 Tryz.zeroVl 4 40 Tryz.underlying39 hi0 hz0 hz1 hz2 rfl (by decide) (.slice la n lc) n (mkRow m n) (by simp [Act.eval, Act.put]) (HOL3.out.alloc _) ⟨wr.heap.size, 0, none⟩ 1 1 (mkRow m 1) (by simp [Act.eval, Act.put]) rfl (World.news_of_block (heap_alloc_new wr (.cells #[.int .i64 m, .string ⟨#[]⟩, .int .i64 m, .int .i64 0] 60))) (mkRow_one m 1) (by decide) (by unfold maxLen; omega) (by omega) (by simpa using hs3) ?_)
      intro g1 cap1 w4 h1 h2 h3
      obtain ⟨hO4, hOL4, hF1, hK4⟩ := HO3.out.app HOL3.out h1 h2 h3
      have HO4 := hideb hO4
      have HOL4 := hideb hOL4
      have HF1 := hideb hF1
      have HK4 := hideb hK4
      have hX4 := hK4.block HX3.out HXL.out
      have HX4 := hideb hX4
      have HS4 : Hid (w0.heap.size ≤ w4.heap.size) := hO4.s1
      clear x0 x1 x2 x3
      have x0 : w4.cell? ⟨xb, 0, none⟩ = some (.int .i64 m) := by simp [World.cell?, hX4]
      have x1 : w4.cell? ⟨xb, 1, none⟩ = some (.string ⟨#[]⟩) := by simp [World.cell?, hX4]
      have x2 : w4.cell? ⟨xb, 2, none⟩ = some (.int .i64 m) := by simp [World.cell?, hX4]
      have x3 : w4.cell? ⟨xb, 3, none⟩ = some (.int .i64 0) := by simp [World.cell?, hX4]
      have hs4 : w0.heap.size ≤ w4.heap.size + 1 := by have := HS4.out; omega
      clear h1 h2 h3 hO4 hOL4 hF1 hK4 hX4
      go_wp2_with (at_builtin; refine wpList_append_kept _ rfl (.tmp 39) (.tmp 42) 39 rfl w0.heap.size 60 i0 Tryz.zeroVl 4 40 Tryz.underlying39 hi0 hz0 hz1 hz2 rfl (by decide) (.slice la n lc) n (mkRow m n) (by simp [Act.eval, Act.put]) (HOL4.out.alloc _) ⟨w4.heap.size, 0, none⟩ 2 2 (mkRow m 2) (by simp [Act.eval, Act.put]) rfl (World.news_of_block (heap_alloc_new w4 (.cells #[.int .i64 m, .string ⟨#[]⟩, .int .i64 m, .int .i64 0, .int .i64 m, .string ⟨#[]⟩, .int .i64 m, .int .i64 0] 60))) (mkRow_one m 2) (by decide) (by unfold maxLen; omega) (by omega) (by simpa using hs4) ?_)
      intro g2 cap2 w5 h1 h2 h3
      obtain ⟨hO5, hOL5, hF2, hK5⟩ := HO4.out.app HOL4.out h1 h2 h3
      have HO5 := hideb hO5
      have HOL5 := hideb hOL5
      have HF2 := hideb hF2
      have HK5 := hideb hK5
      have hX5 := hK5.block HX4.out HXL.out
      have HX5 := hideb hX5
      have HS5 : Hid (w0.heap.size ≤ w5.heap.size) := hO5.s1
      clear x0 x1 x2 x3
      have x0 : w5.cell? ⟨xb, 0, none⟩ = some (.int .i64 m) := by simp [World.cell?, hX5]
      have x1 : w5.cell? ⟨xb, 1, none⟩ = some (.string ⟨#[]⟩) := by simp [World.cell?, hX5]
      have x2 : w5.cell? ⟨xb, 2, none⟩ = some (.int .i64 m) := by simp [World.cell?, hX5]
      have x3 : w5.cell? ⟨xb, 3, none⟩ = some (.int .i64 0) := by simp [World.cell?, hX5]
      have hs5 : w0.heap.size ≤ w5.heap.size + 1 := by have := HS5.out; omega
      clear h1 h2 h3 hO5 hOL5 hF2 hK5 hX5
      have HF1b := hideb (HK5.out.full HF1.out)
      go_wp2_with (at_builtin; refine wpList_append_kept _ rfl (.tmp 44) (.tmp 48) 39 rfl w0.heap.size 60 i0 Tryz.zeroVl 4 40 Tryz.underlying39 hi0 hz0 hz1 hz2 rfl (by decide) (.slice la n lc) n (mkRow m n) (by simp [Act.eval, Act.put]) (HOL5.out.alloc _) ⟨w5.heap.size, 0, none⟩ 3 3 (mkRow m 3) (by simp [Act.eval, Act.put]) rfl (World.news_of_block (heap_alloc_new w5 (.cells #[.int .i64 m, .string ⟨#[]⟩, .int .i64 m, .int .i64 0, .int .i64 m, .string ⟨#[]⟩, .int .i64 m, .int .i64 0, .int .i64 m, .string ⟨#[]⟩, .int .i64 m, .int .i64 0] 60))) (mkRow_one m 3) (by decide) (by unfold maxLen; omega) (by omega) (by simpa using hs5) ?_)
      intro g3 cap3 w6 h1 h2 h3
      obtain ⟨hO6, hOL6, hF3, hK6⟩ := HO5.out.app HOL5.out h1 h2 h3
      have HO6 := hideb hO6
      have HOL6 := hideb hOL6
      have HF3 := hideb hF3
      have HK6 := hideb hK6
      have hX6 := hK6.block HX5.out HXL.out
      have HX6 := hideb hX6
      have HS6 : Hid (w0.heap.size ≤ w6.heap.size) := hO6.s1
      clear x0 x1 x2 x3
      have x0 : w6.cell? ⟨xb, 0, none⟩ = some (.int .i64 m) := by simp [World.cell?, hX6]
      have x1 : w6.cell? ⟨xb, 1, none⟩ = some (.string ⟨#[]⟩) := by simp [World.cell?, hX6]
      have x2 : w6.cell? ⟨xb, 2, none⟩ = some (.int .i64 m) := by simp [World.cell?, hX6]
      have x3 : w6.cell? ⟨xb, 3, none⟩ = some (.int .i64 0) := by simp [World.cell?, hX6]
      have hs6 : w0.heap.size ≤ w6.heap.size + 1 := by have := HS6.out; omega
      clear h1 h2 h3 hO6 hOL6 hF3 hK6 hX6
      have HF1c := hideb (HK6.out.full HF1b.out)
      have HF2c := hideb (HK6.out.full HF2.out)
      have HF0 := hideb (Full.of_own HOL6.out)
      have hrow := HO6.out.row
      have c0 : w6.cell? ⟨B, 0, none⟩ = some vv := by simp [World.cell?, hrow]
      have f0 : w6.frozen? ⟨B, 0, none⟩ = false := by simp [World.frozen?, hrow]
      have hlB : B < w6.heap.size := lt_of_cell c0
      clear hrow HF1 HF1b HF2 HK4 HK5 HK6 HO3 HO4 HO5 HOL3 HOL4 HOL5 HOL6 HX3 HX4 HX5 HX6 HS4 HS5 x0 x1 x2 x3 hs3 hs4 hs5
      have hsW : W.heap.size ≤ w6.heap.size + 1 := by have := HO6.out.bel.size; omega
      have hLL : L.length + 4 ≤ 1099511627780 := by omega
      go_wp2_with (at_builtin; refine wpList_append_lies _ rfl (.tmp 54) (.tmp 59) 31 rfl W.heap.size 39 i1 (.slice none 0 0) 1 24 Tryz.underlying31 hi1 hy0 hy1 hy2 rfl (by decide) vv L.length (L.map (·.1)) (by simp [Act.eval, Act.put]) (HO6.out.ov.alloc _) ⟨w6.heap.size, 0, none⟩ 4 4 [.slice la n lc, .slice (some ⟨g1, 0, none⟩) (n + 1) cap1, .slice (some ⟨g2, 0, none⟩) (n + 2) cap2, .slice (some ⟨g3, 0, none⟩) (n + 3) cap3] (by simp [Act.eval, Act.put]) rfl (World.news_of_block (heap_alloc_new w6 (.cells #[.slice la n lc, .slice (some ⟨g1, 0, none⟩) (n + 1) cap1, .slice (some ⟨g2, 0, none⟩) (n + 2) cap2, .slice (some ⟨g3, 0, none⟩) (n + 3) cap3] 39))) (by intro u hu; simp at hu; rcases hu with rfl | rfl | rfl | rfl <;> rfl) (by decide) (by unfold maxLen; omega) (by omega) (by simpa using hsW) (w6.heap.size + 1) (by simp) ?_)
      intro gv capv w7 h1 h2 h3 h4
      obtain ⟨LL, hLLd⟩ : ∃ LL, L ++ [((.slice la n lc : Value), n, m), (.slice (some ⟨g1, 0, none⟩) (n + 1) cap1, n + 1, m), (.slice (some ⟨g2, 0, none⟩) (n + 2) cap2, n + 2, m), (.slice (some ⟨g3, 0, none⟩) (n + 3) cap3, n + 3, m)] = LL := ⟨_, rfl⟩
      have HLL : Hid (LL.length = L.length + 4) := by show LL.length = _; rw [← hLLd]; simp
      have HLM : Hid ((LL.map fun x => Value.int .i64 x.2.2) = (L.map fun x => Value.int .i64 x.2.2) ++ [.int .i64 m, .int .i64 m, .int .i64 m, .int .i64 m]) := by show (LL.map fun x => Value.int .i64 x.2.2) = _; rw [← hLLd]; simp
      have hFL : ∀ x ∈ LL, Full w6 x.1 x.2.1 x.2.2 := fun x hx => by
        rw [← hLLd, List.mem_append] at hx
        rcases hx with hx | hx
        · exact (HO6.out.full x hx).1
        · simp only [List.mem_cons, List.not_mem_nil, or_false] at hx
          rcases hx with rfl | rfl | rfl | rfl
          · exact HF0.out
          · exact HF1c.out
          · exact HF2c.out
          · exact HF3.out
      obtain ⟨e0, q0, hJ⟩ := HO6.out.put (LL := LL) (vv' := .slice (some ⟨gv, 0, none⟩) (L.length + 4) capv) hFL (by rw [HLL.out, ← hLLd, List.map_append]; exact h1) h2
      have HJ := hideb hJ
      have hl7 : B < w7.heap.size := lt_of_cell e0
      clear h1 h2 h3 h4 hLLd hFL hJ HO6 HF0 HF1c HF2c HF3 c0 f0 hlB hsW
      go_wp2_with fail
      generalize w7.setCell ⟨B, 0, none⟩ (.slice (some ⟨gv, 0, none⟩) (L.length + 4) capv) = w8 at HJ ⊢
      clear e0 q0 hl7
      have hrow := HJ.out.row
      have c1 : w8.cell? ⟨B, 1, none⟩ = some vm := by simp [World.cell?, hrow]
      have c4 : w8.cell? ⟨B, 4, none⟩ = some (.int .i64 m) := by simp [World.cell?, hrow]
      have hlB : B < w8.heap.size := lt_of_cell c1
      have hsW : W.heap.size ≤ w8.heap.size + 1 := by have := HJ.out.bel.size; omega
      clear hrow
      have HPU : Hid (∀ (wx w9 : World) (gm capm : Nat), Below w8.heap.size w8 wx → w9.ownsRow W.heap.size 3 1 (.slice (some ⟨gm, 0, none⟩) (L.length + 4) capm) (L.length + 4) ((L.map fun x => Value.int .i64 x.2.2) ++ [.int .i64 m, .int .i64 m, .int .i64 m, .int .i64 m]) → wx.grownBy w9 vm.ownBlock →
          w9.cell? ⟨B, 1, none⟩ = some vm ∧ w9.cell? ⟨B, 4, none⟩ = some (.int .i64 m) ∧ w9.frozen? ⟨B, 1, none⟩ = false ∧ (w9.setCell ⟨B, 1, none⟩ (.slice (some ⟨gm, 0, none⟩) (L.length + 4) capm)).cell? ⟨B, 4, none⟩ = some (.int .i64 m) ∧ BkI W (w9.setCell ⟨B, 1, none⟩ (.slice (some ⟨gm, 0, none⟩) (L.length + 4) capm)) B LL m) := fun wx w9 gm capm hx h1 h2 => by
        have hp := HJ.out.put (vm' := .slice (some ⟨gm, 0, none⟩) (L.length + 4) capm) hx (by rw [HLL.out, HLM.out]; exact h1) h2
        have h' := HJ.out.below hx
        have hB : w9.heap[B]? = _ := (h2.block B (row_lt h'.row) (fun q => row_ne h'.row h'.om (by decide) q.symm)).trans h'.row
        exact ⟨hp.1, by simp [World.cell?, hB], hp.2.1, by have := heap_setCell_same w9 B 1 _ _ (.slice (some ⟨gm, 0, none⟩) (L.length + 4) capm) hB; simp [World.cell?, this], hp.2.2⟩
      refine wp_region_held_drew (S := fun w' => w'.cell? ⟨B, 4, none⟩ = some (.int .i64 m)) (by kernel_rfl) ?_ (fun hHeld => ?_)
      · go_keep
      refine wpAnyH_take (i := 0) (v := ?_) rfl (by kernel_rfl) (by kernel_rfl) (by kernel_rfl) (fun _ _ _ h => h) (Or.inl ⟨by rfl, ?_⟩) (by assumption) ?_
      rotate_left
      · intro wz hSw; (try dsimp only at hSw); go_simp; all_goals with_reducible rfl
      try simp only [Act.put, List.setIfInBounds_toArray, List.set_cons_zero, List.set_cons_succ]
      refine wpAnyH_take (i := 1) (v := ?_) rfl (by kernel_rfl) (by kernel_rfl) (by kernel_rfl) (fun _ _ _ h => h) (Or.inl ⟨by rfl, ?_⟩) (by assumption) ?_
      rotate_left
      · intro wz hSw; (try dsimp only at hSw); go_simp; all_goals with_reducible rfl
      try simp only [Act.put, List.setIfInBounds_toArray, List.set_cons_zero, List.set_cons_succ]
      refine wpAnyH_take (i := 2) (v := ?_) rfl (by kernel_rfl) (by kernel_rfl) (by kernel_rfl) (fun _ _ _ h => h) (Or.inl ⟨by rfl, ?_⟩) (by assumption) ?_
      rotate_left
      · intro wz hSw; (try dsimp only at hSw); go_simp; all_goals with_reducible rfl
      try simp only [Act.put, List.setIfInBounds_toArray, List.set_cons_zero, List.set_cons_succ]
      refine wpAnyH_take (i := 3) (v := ?_) rfl (by kernel_rfl) (by kernel_rfl) (by kernel_rfl) (fun _ _ _ h => h) (Or.inl ⟨by rfl, ?_⟩) (by assumption) ?_
      rotate_left
      · intro wz hSw; (try dsimp only at hSw); go_simp; all_goals with_reducible rfl
      try simp only [Act.put, List.setIfInBounds_toArray, List.set_cons_zero, List.set_cons_succ]
      refine wpAnyH_take (i := 5) (v := ?_) rfl (by kernel_rfl) (by kernel_rfl) (by kernel_rfl) (fun _ _ _ h => h) (Or.inl ⟨by rfl, ?_⟩) (by assumption) ?_
      rotate_left
      · intro wz hSw; (try dsimp only at hSw); go_simp; all_goals with_reducible rfl
      try simp only [Act.put, List.setIfInBounds_toArray, List.set_cons_zero, List.set_cons_succ]
      refine wpAnyH_take (i := 6) (v := ?_) rfl (by kernel_rfl) (by kernel_rfl) (by kernel_rfl) (fun _ _ _ h => h) (Or.inl ⟨by rfl, ?_⟩) (by assumption) ?_
      rotate_left
      · intro wz hSw; (try dsimp only at hSw); go_simp; all_goals with_reducible rfl
      try simp only [Act.put, List.setIfInBounds_toArray, List.set_cons_zero, List.set_cons_succ]
      refine wpAnyH_take (i := 7) (v := ?_) rfl (by kernel_rfl) (by kernel_rfl) (by kernel_rfl) (fun _ _ _ h => h) (Or.inl ⟨by rfl, ?_⟩) (by assumption) ?_
      rotate_left
      · intro wz hSw; (try dsimp only at hSw); go_simp; all_goals with_reducible rfl
      try simp only [Act.put, List.setIfInBounds_toArray, List.set_cons_zero, List.set_cons_succ]
      refine wpAnyH_take (i := 8) (v := ?_) rfl (by kernel_rfl) (by kernel_rfl) (by kernel_rfl) (fun _ _ _ h => h) (Or.inl ⟨by rfl, ?_⟩) (by assumption) ?_
      rotate_left
      · intro wz hSw; (try dsimp only at hSw); go_simp; all_goals with_reducible rfl
      try simp only [Act.put, List.setIfInBounds_toArray, List.set_cons_zero, List.set_cons_succ]
      refine wpAnyH_take (i := 9) (v := ?_) rfl (by kernel_rfl) (by kernel_rfl) (by kernel_rfl) (fun _ _ _ h => h) (Or.inl ⟨by rfl, ?_⟩) (by assumption) ?_
      rotate_left
      · intro wz hSw; (try dsimp only at hSw); go_simp; all_goals with_reducible rfl
      try simp only [Act.put, List.setIfInBounds_toArray, List.set_cons_zero, List.set_cons_succ]
      refine wpAnyH_take (i := 10) (v := ?_) rfl (by kernel_rfl) (by kernel_rfl) (by kernel_rfl) (fun _ _ _ h => h) (Or.inl ⟨by rfl, ?_⟩) (by assumption) ?_
      rotate_left
      · intro wz hSw; (try dsimp only at hSw); go_simp; all_goals with_reducible rfl
      try simp only [Act.put, List.setIfInBounds_toArray, List.set_cons_zero, List.set_cons_succ]
      refine wpAnyH_take (i := 11) (v := ?_) rfl (by kernel_rfl) (by kernel_rfl) (by kernel_rfl) (fun _ _ _ h => h) (Or.inl ⟨by rfl, ?_⟩) (by assumption) ?_
      rotate_left
      · intro wz hSw; (try dsimp only at hSw); go_simp; all_goals with_reducible rfl
      try simp only [Act.put, List.setIfInBounds_toArray, List.set_cons_zero, List.set_cons_succ]
      refine wpAnyH_take (i := 12) (v := ?_) rfl (by kernel_rfl) (by kernel_rfl) (by kernel_rfl) (fun _ _ _ h => h) (Or.inl ⟨by rfl, ?_⟩) (by assumption) ?_
      rotate_left
      · intro wz hSw; (try dsimp only at hSw); go_simp; all_goals with_reducible rfl
      try simp only [Act.put, List.setIfInBounds_toArray, List.set_cons_zero, List.set_cons_succ]
      refine wpAnyH_take (i := 13) (v := ?_) rfl (by kernel_rfl) (by kernel_rfl) (by kernel_rfl) (fun _ _ _ h => h) (Or.inl ⟨by rfl, ?_⟩) (by assumption) ?_
      rotate_left
      · intro wz hSw; (try dsimp only at hSw); go_simp; all_goals with_reducible rfl
      try simp only [Act.put, List.setIfInBounds_toArray, List.set_cons_zero, List.set_cons_succ]
      refine wpAnyH_take (i := 14) (v := ?_) rfl (by kernel_rfl) (by kernel_rfl) (by kernel_rfl) (fun _ _ _ h => h) (Or.inl ⟨by rfl, ?_⟩) (by assumption) ?_
      rotate_left
      · intro wz hSw; (try dsimp only at hSw); go_simp; all_goals with_reducible rfl
      try simp only [Act.put, List.setIfInBounds_toArray, List.set_cons_zero, List.set_cons_succ]
      refine wpAnyH_take (i := 15) (v := ?_) rfl (by kernel_rfl) (by kernel_rfl) (by kernel_rfl) (fun _ _ _ h => h) (Or.inl ⟨by rfl, ?_⟩) (by assumption) ?_
      rotate_left
      · intro wz hSw; (try dsimp only at hSw); go_simp; all_goals with_reducible rfl
      try simp only [Act.put, List.setIfInBounds_toArray, List.set_cons_zero, List.set_cons_succ]
      refine wpAnyH_take (i := 16) (v := ?_) rfl (by kernel_rfl) (by kernel_rfl) (by kernel_rfl) (fun _ _ _ h => h) (Or.inl ⟨by rfl, ?_⟩) (by assumption) ?_
      rotate_left
      · intro wz hSw; (try dsimp only at hSw); go_simp; all_goals with_reducible rfl
      try simp only [Act.put, List.setIfInBounds_toArray, List.set_cons_zero, List.set_cons_succ]
      refine wpAnyH_take (i := 17) (v := ?_) rfl (by kernel_rfl) (by kernel_rfl) (by kernel_rfl) (fun _ _ _ h => h) (Or.inl ⟨by rfl, ?_⟩) (by assumption) ?_
      rotate_left
      · intro wz hSw; (try dsimp only at hSw); go_simp; all_goals with_reducible rfl
      try simp only [Act.put, List.setIfInBounds_toArray, List.set_cons_zero, List.set_cons_succ]
      refine wpAnyH_take (i := 18) (v := ?_) rfl (by kernel_rfl) (by kernel_rfl) (by kernel_rfl) (fun _ _ _ h => h) (Or.inl ⟨by rfl, ?_⟩) (by assumption) ?_
      rotate_left
      · intro wz hSw; (try dsimp only at hSw); go_simp; all_goals with_reducible rfl
      try simp only [Act.put, List.setIfInBounds_toArray, List.set_cons_zero, List.set_cons_succ]
      refine wpAnyH_take (i := 19) (v := ?_) rfl (by kernel_rfl) (by kernel_rfl) (by kernel_rfl) (fun _ _ _ h => h) (Or.inl ⟨by rfl, ?_⟩) (by assumption) ?_
      rotate_left
      · intro wz hSw; (try dsimp only at hSw); go_simp; all_goals with_reducible rfl
      try simp only [Act.put, List.setIfInBounds_toArray, List.set_cons_zero, List.set_cons_succ]
      refine wpAnyH_take (i := 20) (v := ?_) rfl (by kernel_rfl) (by kernel_rfl) (by kernel_rfl) (fun _ _ _ h => h) (Or.inl ⟨by rfl, ?_⟩) (by assumption) ?_
      rotate_left
      · intro wz hSw; (try dsimp only at hSw); go_simp; all_goals with_reducible rfl
      try simp only [Act.put, List.setIfInBounds_toArray, List.set_cons_zero, List.set_cons_succ]
      refine wpAnyH_ready (rs := [4, 21]) (by kernel_rfl) (by simp) ?_
      refine AllReadyH.cons rfl (fun K hK => ?_) (AllReadyH.cons rfl (fun K hK => ?_) AllReadyH.nil)
      · skip
        go_simp
        refine hK.out _ _ ?_ (fun hHeld2 => ?_)
        · go_keep
        clear hK K
        refine wpAnyH_ready (rs := [21]) (by kernel_rfl) (by simp) ?_
        refine AllReadyH.cons rfl (fun K hK => ?_) AllReadyH.nil
        go_simp
        refine hK.out _ _ ?_ (fun hHeld2 => ?_)
        · go_keep
        clear hK K
        refine wpAnyH_ready (rs := [22]) (by kernel_rfl) (by simp) ?_
        refine AllReadyH.cons rfl (fun K hK => ?_) AllReadyH.nil
        first | (refine step_append_lies _ rfl (.tmp 67) (.tmp 84) 32 rfl W.heap.size 3 i2 (.int .i64 0) 1 8 Tryz.underlying32 hi2 hu0 hu1 hu2 rfl (by decide) vm L.length (L.map fun x => .int .i64 x.2.2) (by simp [Act.eval, Act.put]) (HJ.out.om.alloc _).drew ⟨w8.heap.size, 0, none⟩ 4 4 [.int .i64 m, .int .i64 m, .int .i64 m, .int .i64 m] (by simp [Act.eval, Act.put]) rfl (World.news_of_block (w := (w8.alloc (.cells #[.int .i64 m, .int .i64 m, .int .i64 m, .int .i64 m] 3)).drew) (heap_alloc_new w8 (.cells #[.int .i64 m, .int .i64 m, .int .i64 m, .int .i64 m] 3))) (by intro u hu; simp at hu; subst hu; rfl) (by decide) (by unfold maxLen; omega) (by omega) (by simpa using hsW) (w8.heap.size + 1) (by simp) ?_; intro gm capm w9 h1 h2 h3 h4; obtain ⟨e1, e4, q1, e5, hBK⟩ := HPU.out ((w8.alloc (.cells #[.int .i64 m, .int .i64 m, .int .i64 m, .int .i64 m] 3)).drew) w9 gm capm ((Below.refl _ _).alloc (Nat.le_refl _) _).drew h1 h2; have HBK := hideb hBK; have hl9 := lt_of_cell e1; have E5 := hideb e5; clear e5; clear h1 h2 h3 h4 hBK) | (refine step_append_lies _ rfl (.tmp 67) (.tmp 84) 32 rfl W.heap.size 3 i2 (.int .i64 0) 1 8 Tryz.underlying32 hi2 hu0 hu1 hu2 rfl (by decide) vm L.length (L.map fun x => .int .i64 x.2.2) (by simp [Act.eval, Act.put]) (HJ.out.om.drew.alloc _) ⟨w8.heap.size, 0, none⟩ 4 4 [.int .i64 m, .int .i64 m, .int .i64 m, .int .i64 m] (by simp [Act.eval, Act.put]) rfl (World.news_of_block (heap_alloc_new w8.drew (.cells #[.int .i64 m, .int .i64 m, .int .i64 m, .int .i64 m] 3))) (by intro u hu; simp at hu; subst hu; rfl) (by decide) (by unfold maxLen; omega) (by omega) (by simpa using hsW) (w8.heap.size + 1) (by simp) ?_; intro gm capm w9 h1 h2 h3 h4; obtain ⟨e1, e4, q1, e5, hBK⟩ := HPU.out (w8.drew.alloc (.cells #[.int .i64 m, .int .i64 m, .int .i64 m, .int .i64 m] 3)) w9 gm capm ((Below.refl _ _).drew.alloc (Nat.le_refl _) _) h1 h2; have HBK := hideb hBK; have hl9 := lt_of_cell e1; have E5 := hideb e5; clear e5; clear h1 h2 h3 h4 hBK)
        refine hK.out _ _ ?_ (fun hHeld2 => ?_)
        · exact e4
        clear hK K
        refine wpAnyH_take (i := 23) (v := ?_) rfl (by kernel_rfl) (by kernel_rfl) (by kernel_rfl) (fun _ _ _ h => h) (Or.inl ⟨by rfl, ?_⟩) (by assumption) ?_
        rotate_left
        · intro wz hSw; (try dsimp only at hSw); go_simp; all_goals with_reducible rfl
        try simp only [Act.put, List.setIfInBounds_toArray, List.set_cons_zero, List.set_cons_succ]
        refine wpAnyH_take (i := 24) (v := ?_) rfl (by kernel_rfl) (by kernel_rfl) (by kernel_rfl) (fun _ _ _ h => h) (Or.inl ⟨by rfl, ?_⟩) (by assumption) ?_
        rotate_left
        · intro wz hSw; (try dsimp only at hSw); go_simp; all_goals with_reducible rfl
        try simp only [Act.put, List.setIfInBounds_toArray, List.set_cons_zero, List.set_cons_succ]
        refine wpAnyH_ready (rs := [25]) (by kernel_rfl) (by simp) ?_
        refine AllReadyH.cons rfl (fun K hK => ?_) AllReadyH.nil
        go_simp
        refine hK.out _ _ ?_ (fun hHeld2 => ?_)
        · exact E5.out
        clear hK K
        refine wpAnyH_done (by kernel_rfl) ?_ _
        go_wp2
        go_returns
        exact ⟨rfl, LL, HBK.out, HLL.out⟩
      · skip
        go_simp
        refine hK.out _ _ ?_ (fun hHeld2 => ?_)
        · go_keep
        clear hK K
        refine wpAnyH_ready (rs := [4]) (by kernel_rfl) (by simp) ?_
        refine AllReadyH.cons rfl (fun K hK => ?_) AllReadyH.nil
        go_simp
        refine hK.out _ _ ?_ (fun hHeld2 => ?_)
        · go_keep
        clear hK K
        refine wpAnyH_ready (rs := [22]) (by kernel_rfl) (by simp) ?_
        refine AllReadyH.cons rfl (fun K hK => ?_) AllReadyH.nil
        first | (refine step_append_lies _ rfl (.tmp 67) (.tmp 84) 32 rfl W.heap.size 3 i2 (.int .i64 0) 1 8 Tryz.underlying32 hi2 hu0 hu1 hu2 rfl (by decide) vm L.length (L.map fun x => .int .i64 x.2.2) (by simp [Act.eval, Act.put]) (HJ.out.om.alloc _).drew ⟨w8.heap.size, 0, none⟩ 4 4 [.int .i64 m, .int .i64 m, .int .i64 m, .int .i64 m] (by simp [Act.eval, Act.put]) rfl (World.news_of_block (w := (w8.alloc (.cells #[.int .i64 m, .int .i64 m, .int .i64 m, .int .i64 m] 3)).drew) (heap_alloc_new w8 (.cells #[.int .i64 m, .int .i64 m, .int .i64 m, .int .i64 m] 3))) (by intro u hu; simp at hu; subst hu; rfl) (by decide) (by unfold maxLen; omega) (by omega) (by simpa using hsW) (w8.heap.size + 1) (by simp) ?_; intro gm capm w9 h1 h2 h3 h4; obtain ⟨e1, e4, q1, e5, hBK⟩ := HPU.out ((w8.alloc (.cells #[.int .i64 m, .int .i64 m, .int .i64 m, .int .i64 m] 3)).drew) w9 gm capm ((Below.refl _ _).alloc (Nat.le_refl _) _).drew h1 h2; have HBK := hideb hBK; have hl9 := lt_of_cell e1; have E5 := hideb e5; clear e5; clear h1 h2 h3 h4 hBK) | (refine step_append_lies _ rfl (.tmp 67) (.tmp 84) 32 rfl W.heap.size 3 i2 (.int .i64 0) 1 8 Tryz.underlying32 hi2 hu0 hu1 hu2 rfl (by decide) vm L.length (L.map fun x => .int .i64 x.2.2) (by simp [Act.eval, Act.put]) (HJ.out.om.drew.alloc _) ⟨w8.heap.size, 0, none⟩ 4 4 [.int .i64 m, .int .i64 m, .int .i64 m, .int .i64 m] (by simp [Act.eval, Act.put]) rfl (World.news_of_block (heap_alloc_new w8.drew (.cells #[.int .i64 m, .int .i64 m, .int .i64 m, .int .i64 m] 3))) (by intro u hu; simp at hu; subst hu; rfl) (by decide) (by unfold maxLen; omega) (by omega) (by simpa using hsW) (w8.heap.size + 1) (by simp) ?_; intro gm capm w9 h1 h2 h3 h4; obtain ⟨e1, e4, q1, e5, hBK⟩ := HPU.out (w8.drew.alloc (.cells #[.int .i64 m, .int .i64 m, .int .i64 m, .int .i64 m] 3)) w9 gm capm ((Below.refl _ _).drew.alloc (Nat.le_refl _) _) h1 h2; have HBK := hideb hBK; have hl9 := lt_of_cell e1; have E5 := hideb e5; clear e5; clear h1 h2 h3 h4 hBK)
        refine hK.out _ _ ?_ (fun hHeld2 => ?_)
        · exact e4
        clear hK K
        refine wpAnyH_take (i := 23) (v := ?_) rfl (by kernel_rfl) (by kernel_rfl) (by kernel_rfl) (fun _ _ _ h => h) (Or.inl ⟨by rfl, ?_⟩) (by assumption) ?_
        rotate_left
        · intro wz hSw; (try dsimp only at hSw); go_simp; all_goals with_reducible rfl
        try simp only [Act.put, List.setIfInBounds_toArray, List.set_cons_zero, List.set_cons_succ]
        refine wpAnyH_take (i := 24) (v := ?_) rfl (by kernel_rfl) (by kernel_rfl) (by kernel_rfl) (fun _ _ _ h => h) (Or.inl ⟨by rfl, ?_⟩) (by assumption) ?_
        rotate_left
        · intro wz hSw; (try dsimp only at hSw); go_simp; all_goals with_reducible rfl
        try simp only [Act.put, List.setIfInBounds_toArray, List.set_cons_zero, List.set_cons_succ]
        refine wpAnyH_ready (rs := [25]) (by kernel_rfl) (by simp) ?_
        refine AllReadyH.cons rfl (fun K hK => ?_) AllReadyH.nil
        go_simp
        refine hK.out _ _ ?_ (fun hHeld2 => ?_)
        · exact E5.out
        clear hK K
        refine wpAnyH_done (by kernel_rfl) ?_ _
        go_wp2
        go_returns
        exact ⟨rfl, LL, HBK.out, HLL.out⟩
end Go.Proofs.YtkkicodfpekbgaaGreatDoor

/-! hallmarklaw.copied: a schema like another, with lists of its own. -/
namespace Go.Proofs.YtkkicodfpekbgaaGreatDoor
set_option linter.unusedSimpArgs false
set_option linter.unusedVariables false
open Go.RowKit

def Tryz.zeroNode : Value := .agg #[.int .i64 0, .int .i64 0, .int .i64 0, .slice none 0 0]
theorem Tryz.infoNode : (Tryz.prog.info? 58).map (fun i => (i.zero, i.size, i.bytes)) = some (some Tryz.zeroNode, 4, 48) := by kernel_rfl
def Tryz.zeroKid : Value := .agg #[.int .i64 0, .bool false, .string ⟨#[]⟩]
theorem Tryz.infoKid : (Tryz.prog.info? 55).map (fun i => (i.zero, i.size, i.bytes)) = some (some Tryz.zeroKid, 3, 32) := by kernel_rfl

set_option maxHeartbeats 4000000 in
set_option maxRecDepth 100000 in
theorem copied_any (s : List Nd) (a : Option Addr) (c : Nat) (w : World) (hs : Sch w a s) (hn : s.length * 48 ≤ 140737488351232) (hkn : ∀ i, i < s.length → (nd s i).kids.length * 32 ≤ 140737488351232) :
    Calls Tryz.prog 13 #[.slice a s.length c] w fun e w' => ∃ vout, e = .returned vout ∧ CpW s w w' s.length vout := by
  have HS : Hid (Sch w a s) := hs
  have HKN : Hid (∀ i, i < s.length → (nd s i).kids.length * 32 ≤ 140737488351232) := hkn
  clear hs hkn
  obtain ⟨iN, hiN, hzN0, hzN1, hzN2⟩ := info_parts Tryz.infoNode
  obtain ⟨iK, hiK, hzK0, hzK1, hzK2⟩ := info_parts Tryz.infoKid
  go_enter Tryz.func13, Tryz.ntmps13
  go_wp2
  go_loopw [3, 4] (fun vout vi wr => ∃ k : Nat, k ≤ s.length ∧ vi = .int .i64 k ∧ CpW s w wr k vout) (fun _ vi _ => s.length - (intOf vi).toNat)
  case atStart => exact ⟨0, Nat.zero_le _, rfl, Below.refl _ _, fun _ => .slice none 0 0, World.ownsRow_nil _ _ _ _, fun i hi => absurd hi (Nat.not_lt_zero _)⟩
  case round =>
    obtain ⟨k, hk, rfl, hC⟩ := hrel
    have HC : Hid (CpW s w wr k u3) := hC
    by_cases hlt : k < s.length
    · have hlt' : (k : Int) < s.length := by omega
      have hkb := HKN.out k hlt
      obtain ⟨b, o, ka, kc, rfl, nc, kl, km, ks⟩ := HS.out k hlt
      obtain ⟨n1, n2, n3, n4⟩ := nc.below hC.bel
      have KS : Hid (KidsIn w ka (nd s k).kids) := ks
      have HN4 : Hid (w.cell? ⟨b, o + k * 4 + 3, none⟩ = some (.slice ka (nd s k).kids.length kc)) := nc.kids
      clear hC nc ks
      go_wp2
      obtain ⟨w0, hw0⟩ : ∃ w0, w0 = wr := ⟨_, rfl⟩
      subst hw0
      obtain ⟨Bn, hBn⟩ : ∃ Bn, Bn = w0.heap.size := ⟨_, rfl⟩
      have HBN : Hid (Bn = w0.heap.size) := hBn
      rw [← hBn]
      clear hBn
      go_loopw [6] (fun vj wx => ∃ (j : Nat) (vk : Value), vj = .int .i64 j ∧ j ≤ (nd s k).kids.length ∧ Hid (wx.heap[Bn]? = some (.cells #[.int .i64 (nd s k).kind, .int .i64 (nd s k).tag, .int .i64 (nd s k).mode, vk] 58 (0, 0))) ∧ Hid (wx.ownsRow (Bn + 1) 55 3 vk j (kcells ((nd s k).kids.take j))) ∧ Hid (Below Bn w0 wx)) (fun vj _ => (nd s k).kids.length - (intOf vj).toNat)
      case atStart =>
        obtain rfl := HBN.out
        exact ⟨0, _, rfl, Nat.zero_le _, heap_alloc_new w0 _, World.ownsRow_nil _ _ _ _, (Below.refl _ _).alloc (Nat.le_refl _) _⟩
      case round =>
        obtain ⟨j, vk, rfl, hj, HB, HO, HBL⟩ := hrel
        obtain ⟨va, vc, rfl, hva⟩ := own_form2 HO.out
        have HBW : Hid (Below w.heap.size w wr) := HC.out.bel.trans (by have := HBL.out; rw [HBN.out] at this; exact this.mono HC.out.bel.size)
        have g3 : wr.cell? ⟨Bn, 3, none⟩ = some (.slice va j vc) := by simp [World.cell?, HB.out]
        have f3 : wr.frozen? ⟨Bn, 3, none⟩ = false := by simp [World.frozen?, HB.out]
        have g0 : wr.cell? ⟨Bn, 0, none⟩ = some (.int .i64 (nd s k).kind) := by simp [World.cell?, HB.out]
        have g1 : wr.cell? ⟨Bn, 1, none⟩ = some (.int .i64 (nd s k).tag) := by simp [World.cell?, HB.out]
        have g2 : wr.cell? ⟨Bn, 2, none⟩ = some (.int .i64 (nd s k).mode) := by simp [World.cell?, HB.out]
        have hBl := lt_of_cell g3
        simp only at hBl
        have e4 : wr.cell? ⟨b, o + k * 4 + 3, none⟩ = some (.slice ka (nd s k).kids.length kc) := (HBW.out.cell (lt_of_cell HN4.out)).trans HN4.out
        have hkm : (nd s k).kids.length ≤ 9223372036854775807 := by omega
        have hszB : Bn ≤ wr.heap.size := by omega
        clear hva
        by_cases hjl : j < (nd s k).kids.length
        · obtain ⟨kb, ko, rfl, kcl⟩ := KS.out j hjl
          obtain ⟨y, hy⟩ : ∃ y, (nd s k).kids.getD j kd0 = y := ⟨_, rfl⟩
          have HY : Hid ((nd s k).kids.take (j + 1) = (nd s k).kids.take j ++ [y]) := by show (nd s k).kids.take (j + 1) = _; rw [List.take_add_one, List.getElem?_eq_getElem hjl, ← hy]; simp [hjl]
          rw [hy] at kcl
          obtain ⟨k1, k2, k3⟩ := kcl.below HBW.out
          have hjl' : (j : Int) < (nd s k).kids.length := by omega
          have NEB : Hid ((Value.slice va j vc).ownBlock ≠ some Bn) := fun e => by have := (HO.out.lt Bn e).1; omega
          clear kcl hy
          go_wp2_with fail
          have hszB1 : Bn + 1 ≤ (wr.drew.alloc (.cells #[.int .i64 y.node, .bool y.opt, .string y.dflt] 55)).heap.size := by simp; omega
          go_region_law (refine step_append_lies _ rfl (.tmp 29) (.tmp 38) 56 rfl (Bn + 1) 55 iK Tryz.zeroKid 3 32 Tryz.underlying56 hiK hzK0 hzK1 hzK2 rfl (by decide) (.slice va j vc) j (kcells ((nd s k).kids.take j)) (by simp [Act.eval, Act.put]) (HO.out.drew.alloc _) ⟨wr.heap.size, 0, none⟩ 1 1 y.cells (by simp [Act.eval, Act.put]) rfl (World.news_of_block (heap_alloc_new wr.drew _)) (by intro u hu; unfold Kd.cells at hu; simp at hu; rcases hu with rfl | rfl | rfl <;> rfl) (by decide) (by unfold maxLen; omega) (by omega) hszB1 (wr.heap.size + 1) (by simp) ?_; intro g cap w3 h1 h2 h3 h4; have hG3 := keep_other (w := wr.drew) HB.out NEB.out h2; have hB3 := (HBL.out.drew.alloc (by exact hszB) _).grown h2 (Nat.le_trans hszB (by simp)) (fun q hq => by have := (HO.out.lt q hq).1; omega); have d3 : w3.cell? ⟨Bn, 3, none⟩ = some (.slice va j vc) := (by simp [World.cell?, hG3]); have e3 : w3.frozen? ⟨Bn, 3, none⟩ = false := (by simp [World.frozen?, hG3]))
          all_goals
            have HG4 : Hid ((w3.setCell ⟨Bn, 3, none⟩ (.slice (some ⟨g, 0, none⟩) (j + 1) cap)).heap[Bn]? = some (.cells #[.int .i64 (nd s k).kind, .int .i64 (nd s k).tag, .int .i64 (nd s k).mode, .slice (some ⟨g, 0, none⟩) (j + 1) cap] 58 (0, 0))) := heap_setCell_same w3 Bn 3 _ _ _ hG3
            have HO4 : Hid ((w3.setCell ⟨Bn, 3, none⟩ (.slice (some ⟨g, 0, none⟩) (j + 1) cap)).ownsRow (Bn + 1) 55 3 (.slice (some ⟨g, 0, none⟩) (j + 1) cap) (j + 1) (kcells ((nd s k).kids.take (j + 1)))) := by
              show World.ownsRow _ _ _ _ _ _ _
              rw [HY.out, kcells_append]
              exact ownsRow_setCell_other h1 (fun e => by have := (h1.lt Bn e).1; omega) _
            have HB4 : Hid (Below Bn w0 (w3.setCell ⟨Bn, 3, none⟩ (.slice (some ⟨g, 0, none⟩) (j + 1) cap))) := hB3.setCell (p := ⟨Bn, 3, none⟩) (Nat.le_refl _) _
            clear h1 h2 h3 h4 hG3 hB3
            go_wp2
            go_roundw
            case rel => exact ⟨j + 1, _, by go_num, by omega, HG4, HO4, HB4⟩
            case measure => simp [intOf]; omega
        · have hjl' : ((nd s k).kids.length : Int) ≤ j := by omega
          obtain rfl : j = (nd s k).kids.length := by omega
          have hC' : CpW s w wr k u3 := HC.out.below (by have := HBL.out; rw [HBN.out] at this; exact this)
          obtain ⟨K, q1, q2⟩ := hC'.own
          have HQ1 : Hid (wr.ownsRow w.heap.size 58 4 u3 k (ncells s K k)) := q1
          have HQ2 : Hid (∀ i, i < k → wr.ownsRow w.heap.size 55 3 (K i) (nd s i).kids.length (kcells (nd s i).kids)) := q2
          have HQ3 : Hid (wr.ownsRow w.heap.size 55 3 (.slice va (nd s k).kids.length vc) (nd s k).kids.length (kcells (nd s k).kids)) := by
            have := HO.out
            rw [List.take_length] at this
            exact ownsRow_base this (by have := HC.out.bel.size; have := HBN.out; omega)
          have hszW : w.heap.size ≤ wr.heap.size + 1 := by have := HBW.out.size; omega
          clear hC' q1 q2
          go_wp2_with (at_builtin; refine wpList_append_lies _ rfl (.tmp 41) (.tmp 43) 22 rfl w.heap.size 58 iN Tryz.zeroNode 4 48 Tryz.underlying22 hiN hzN0 hzN1 hzN2 rfl (by decide) u3 k (ncells s K k) rfl (HQ1.out.alloc _) ⟨wr.heap.size, 0, none⟩ 1 1 (ncell (nd s k) (.slice va (nd s k).kids.length vc)) rfl rfl (World.news_of_block (heap_alloc_new wr _)) (by intro u hu; unfold ncell at hu; simp at hu; rcases hu with rfl | rfl | rfl | rfl <;> rfl) (by decide) (by unfold maxLen; omega) (by omega) (by simpa using hszW) (wr.heap.size + 1) (by simp) ?_)
          intro g cap w3 h1 h2 h3 h4
          have HC3 : Hid (CpW s w w3 (k + 1) (.slice (some ⟨g, 0, none⟩) (k + 1) cap)) := CpW.put HBW.out HQ1.out HQ2.out HQ3.out h1 h2
          clear h1 h2 h3 h4
          go_wp2
          go_roundw
          case rel => exact ⟨k + 1, by omega, by go_num, HC3.out⟩
          case measure => simp [intOf]; omega
    · have hlt' : (s.length : Int) ≤ k := by omega
      obtain rfl : k = s.length := by omega
      clear hC
      go_wp2
      go_ret
      exact ⟨u3, rfl, HC.out⟩
end Go.Proofs.YtkkicodfpekbgaaGreatDoor

/-! hallmarklaw: Book.looks: what it answers. -/
namespace Go.Proofs.YtkkicodfpekbgaaGreatDoor
set_option linter.unusedSimpArgs false
set_option linter.unusedVariables false
open Go.RowKit

theorem Full.form {w : World} {v : Value} {n : Nat} {m : Int} (h : Full w v n m) : n ≤ maxLen ∧ ∃ a c, v = .slice a n c ∧ ∀ j, j < n → ∃ g, a = some ⟨g, 0, none⟩ ∧ w.cell? ⟨g, j * 4, none⟩ = some (.int .i64 m) ∧ w.cell? ⟨g, j * 4 + 1, none⟩ = some (.string ⟨#[]⟩) ∧ w.cell? ⟨g, j * 4 + 2, none⟩ = some (.int .i64 m) ∧ w.cell? ⟨g, j * 4 + 3, none⟩ = some (.int .i64 0) := by
  rcases h with ⟨rfl, rfl⟩ | ⟨g, cap, cur, rfl, h1, hg, h2⟩
  · exact ⟨Nat.zero_le _, none, 0, rfl, fun j hj => absurd hj (Nat.not_lt_zero _)⟩
  · have q : ∀ j i, j < n → i < 4 → w.cell? ⟨g, j * 4 + i, none⟩ = some (mkCell m i) := fun j i hj hi => by
      have := h2 (j * 4 + i) (by omega)
      rw [mkCell_add] at this
      simp [World.cell?, hg, this]
    exact ⟨h1, some ⟨g, 0, none⟩, cap, rfl, fun j hj => ⟨g, rfl, q j 0 hj (by decide), q j 1 hj (by decide), q j 2 hj (by decide), q j 3 hj (by decide)⟩⟩

set_option maxHeartbeats 1000000 in
set_option maxRecDepth 100000 in
theorem looks_any (W w : World) (B : Nat) (L : List (Value × Nat × Int)) (nx : Int) (h : BkI W w B L nx) (hL : L.length ≤ 1099511627776) :
    Calls Tryz.prog 19 #[.pointer (some ⟨B, 0, none⟩)] w fun e w' => e = .returned (.bool true) ∧ Below w.heap.size w w' := by
  obtain ⟨vv, vm, hB, ov, om⟩ := h.row
  obtain ⟨va, vc, rfl, hva⟩ := own_form2 ov
  obtain ⟨ma, mc, rfl, hma⟩ := own_form2 om
  have c0 : w.cell? ⟨B, 0, none⟩ = some (.slice va L.length vc) := by simp [World.cell?, hB]
  have c1 : w.cell? ⟨B, 1, none⟩ = some (.slice ma L.length mc) := by simp [World.cell?, hB]
  have c2 : w.cell? ⟨B, 2, none⟩ = some (.slice none 0 0) := by simp [World.cell?, hB]
  have HE : Hid (∀ k, k < L.length → ∃ g1 g2 xa xn xc m, va = some ⟨g1, 0, none⟩ ∧ ma = some ⟨g2, 0, none⟩ ∧ w.cell? ⟨g1, k, none⟩ = some (.slice xa xn xc) ∧ w.cell? ⟨g2, k, none⟩ = some (.int .i64 m) ∧ xn ≤ maxLen ∧
      ∀ j, j < xn → ∃ g, xa = some ⟨g, 0, none⟩ ∧ w.cell? ⟨g, j * 4, none⟩ = some (.int .i64 m) ∧ w.cell? ⟨g, j * 4 + 1, none⟩ = some (.string ⟨#[]⟩) ∧ w.cell? ⟨g, j * 4 + 2, none⟩ = some (.int .i64 m) ∧ w.cell? ⟨g, j * 4 + 3, none⟩ = some (.int .i64 0)) := fun k hk => by
    obtain ⟨g1, rfl⟩ := hva (by omega)
    obtain ⟨g2, rfl⟩ := hma (by omega)
    have q1 := ov.cells (g := g1) rfl k L[k].1 (by simp [hk])
    have q2 := om.cells (g := g2) rfl k (.int .i64 L[k].2.2) (by simp [hk])
    rw [add0] at q1 q2
    obtain ⟨f1, xa, xc, f2, f3⟩ := (h.full L[k] (List.getElem_mem hk)).form
    rw [f2] at q1
    exact ⟨g1, g2, xa, _, xc, _, rfl, rfl, q1, q2, f1, f3⟩
  clear hva hma ov om hB h
  generalize L.length = n at *
  go_enter Tryz.func19, Tryz.ntmps19
  go_wp2
  go_loopw [3] (fun i wr => ∃ k : Nat, k ≤ n ∧ i = .int .i64 k ∧ Below w.heap.size w wr) (fun i _ => n - (intOf i).toNat)
  case atStart => exact ⟨0, Nat.zero_le _, rfl, Below.refl _ _⟩
  case round =>
    obtain ⟨k, hk, rfl, hbr⟩ := hrel
    have HBR := hideb hbr
    have hlB := lt_of_cell c0
    simp only at hlB
    have d0 : wr.cell? ⟨B, 0, none⟩ = some (.slice va n vc) := (hbr.cell (lt_of_cell c0)).trans c0
    have d1 : wr.cell? ⟨B, 1, none⟩ = some (.slice ma n mc) := (hbr.cell (lt_of_cell c1)).trans c1
    have d2 : wr.cell? ⟨B, 2, none⟩ = some (.slice none 0 0) := (hbr.cell (lt_of_cell c2)).trans c2
    have hlR : B < wr.heap.size := lt_of_cell d0
    have hwz := hbr.size
    clear hbr
    by_cases hlt : k < n
    · have hlt' : (k : Int) < n := by omega
      obtain ⟨g1, g2, xa, xn, xc, m, rfl, rfl, e1, e2, hxn, hcl⟩ := HE.out k hlt
      have HCL := hideb hcl
      have hxn' : xn ≤ 9223372036854775807 := by unfold maxLen at hxn; omega
      have y1 : wr.cell? ⟨g1, k, none⟩ = some (.slice xa xn xc) := (HBR.out.cell (lt_of_cell e1)).trans e1
      have y2 : wr.cell? ⟨g2, k, none⟩ = some (.int .i64 m) := (HBR.out.cell (lt_of_cell e2)).trans e2
      have hl1 : g1 < wr.heap.size := lt_of_cell y1
      have hl2 : g2 < wr.heap.size := lt_of_cell y2
      clear hcl
      go_wp2_with fail
      go_region_held_law (fun w' => w'.cell? ⟨B, 1, none⟩ = some (.slice (some ⟨g2, 0, none⟩) n mc) ∧ w'.cell? ⟨g2, k, none⟩ = some (.int .i64 m)) (go_keep) (fail)
      go_wp2
      rename_i hHeld
      clear hHeld
      obtain ⟨xb, hxb⟩ : ∃ xb, wr.heap.size = xb := ⟨_, rfl⟩
      have hX2 : (wr.alloc (.cells #[.int .i64 m, .string ⟨#[]⟩, .int .i64 m, .int .i64 0] 60)).drew.heap[wr.heap.size]? = some (.cells #[.int .i64 m, .string ⟨#[]⟩, .int .i64 m, .int .i64 0] 60 (0, 0)) := heap_alloc_new wr _
      have hB2 : Below w.heap.size w (wr.alloc (.cells #[.int .i64 m, .string ⟨#[]⟩, .int .i64 m, .int .i64 0] 60)).drew := (HBR.out.alloc HBR.out.size _).drew
      rw [hxb] at hX2
      rw [hxb]
      generalize (wr.alloc (.cells #[.int .i64 m, .string ⟨#[]⟩, .int .i64 m, .int .i64 0] 60)).drew = w2 at hX2 hB2 ⊢
      have HB2 := hideb hB2
      have z0 : w2.cell? ⟨B, 0, none⟩ = some (.slice (some ⟨g1, 0, none⟩) n vc) := (hB2.cell (lt_of_cell c0)).trans c0
      have z1 : w2.cell? ⟨g1, k, none⟩ = some (.slice xa xn xc) := (hB2.cell (lt_of_cell e1)).trans e1
      have x0 : w2.cell? ⟨xb, 0, none⟩ = some (.int .i64 m) := by simp [World.cell?, hX2]
      have x1 : w2.cell? ⟨xb, 1, none⟩ = some (.string ⟨#[]⟩) := by simp [World.cell?, hX2]
      have x2 : w2.cell? ⟨xb, 2, none⟩ = some (.int .i64 m) := by simp [World.cell?, hX2]
      have x3 : w2.cell? ⟨xb, 3, none⟩ = some (.int .i64 0) := by simp [World.cell?, hX2]
      clear hX2 hB2 hxb d0 d1 d2 y1 y2 hl1 hl2 hlR hwz
      go_loopw [5] (fun i wx => ∃ j : Nat, j ≤ xn ∧ i = .int .i64 j ∧ ∃ q, wx = w2.drewN q) (fun i _ => xn - (intOf i).toNat)
      case atStart => exact ⟨0, Nat.zero_le _, rfl, 0, rfl⟩
      case round =>
        obtain ⟨j, hj, rfl, q', rfl⟩ := hrel
        by_cases hl2 : j < xn
        · obtain ⟨g, rfl, u0, u1, u2, u3⟩ := HCL.out j hl2
          have v0 : w2.cell? ⟨g, j * 4, none⟩ = some (.int .i64 m) := (HB2.out.cell (lt_of_cell u0)).trans u0
          have v1 : w2.cell? ⟨g, j * 4 + 1, none⟩ = some (.string ⟨#[]⟩) := (HB2.out.cell (lt_of_cell u1)).trans u1
          have v2 : w2.cell? ⟨g, j * 4 + 2, none⟩ = some (.int .i64 m) := (HB2.out.cell (lt_of_cell u2)).trans u2
          have v3 : w2.cell? ⟨g, j * 4 + 3, none⟩ = some (.int .i64 0) := (HB2.out.cell (lt_of_cell u3)).trans u3
          have hl2' : (j : Int) < xn := by omega
          clear u0 u1 u2 u3
          go_wp2
          go_quiet (fail)
          go_wp2
          go_roundw
          case rel => exact ⟨j + 1, by omega, by go_num, _, rfl⟩
          case measure => simp [intOf]; omega
        · have hl2' : (xn : Int) ≤ j := by omega
          go_wp2
          go_roundw
          case rel => exact ⟨k + 1, by omega, by go_num, below_drewN HB2.out _⟩
          case measure => simp [intOf]; omega
    · have hlt' : (n : Int) ≤ k := by omega
      go_wp2
      refine wp_loop_rounds 1 ?_
      rw [rounds_succ]
      go_wp2
      go_ret
      exact ⟨rfl, HBR.out⟩
end Go.Proofs.YtkkicodfpekbgaaGreatDoor

/-! A schema that came in: its nodes and kids as plain data, and how great they may be. -/
namespace Go.Proofs.YtkkicodfpekbgaaGreatDoor
set_option linter.unusedSimpArgs false
set_option linter.unusedVariables false
open Go.RowKit Go.Deep Go.ChangeShapes Go.WideShapes
set_option maxRecDepth 100000

theorem Tryz.cK : Tryz.prog.cellsOf 55 = 3 := by kernel_rfl
theorem Tryz.cN : Tryz.prog.cellsOf 58 = 4 := by kernel_rfl
theorem Tryz.cI : Tryz.prog.cellsOf 3 = 1 := by kernel_rfl
theorem Tryz.cB : Tryz.prog.cellsOf 4 = 1 := by kernel_rfl
theorem Tryz.cS : Tryz.prog.cellsOf 9 = 1 := by kernel_rfl
theorem Tryz.cKs : Tryz.prog.cellsOf 56 = 1 := by kernel_rfl
theorem Tryz.bK : Tryz.prog.bytesOf 55 = 32 := by kernel_rfl
theorem Tryz.bN : Tryz.prog.bytesOf 58 = 48 := by kernel_rfl

theorem mem_weightsAll {H : Type} {P : Program} {e : TypeId} {l : List (DataW H)} {d : DataW H} (hd : d ∈ l) {n : Nat} (hn : n ∈ d.weights P e) : n ∈ DataW.weightsAll P e l := by
  induction l with
  | nil => cases hd
  | cons x r ih =>
    simp only [DataW.weightsAll, List.mem_append]
    rcases List.mem_cons.1 hd with rfl | h
    · exact .inl hn
    · exact .inr (ih h)
theorem plain_add (b o n : Nat) : (⟨b, o, none⟩ : Addr).add n = ⟨b, o + n, none⟩ := by unfold Addr.add; split <;> simp_all
theorem spot_none {w : World} {a : Addr} {v : Value} (h : w.cell? a = some v) : a = ⟨a.block, a.off, none⟩ := by
  obtain ⟨b, o, sp⟩ := a
  cases sp with
  | none => rfl
  | some k =>
    unfold World.cell? at h
    simp only at h
    split at h
    · simp at h
    · cases h
theorem getD_map_range {α : Type} (f : Nat → α) (d : α) {n i : Nat} (h : i < n) : ((List.range n).map f).getD i d = f i := by
  rw [List.getD_eq_getElem?_getD, List.getElem?_eq_getElem (by simpa using h)]
  simp

section
variable {H : Type} {enc : TypeId × Value → H} {w : World} {base : Nat} {sp : Nat → Bool} {held : Bool}
theorem open_kid {fuel : Nat} {cs : List Value} {x : DataW H × List MemPlace} (h : DataW.trod enc Tryz.prog w base sp held fuel 55 cs = some x) :
    ∃ k : Kd, cs = [.int .i64 k.node, .bool k.opt, .string k.dflt] ∧ k.dflt.size ∈ x.1.weights Tryz.prog 55 := by
  obtain ⟨xs, n, _, hx, hl, hlen, hel⟩ := DataW.trod_struct Tryz.underlying55 h
  rw [Tryz.cK] at hl
  match cs, hl, xs, hlen, hx, hel with
  | [c0, c1, c2], _, [x0, x1, x2], _, hx, hel =>
    have k0 := hel 0 _ rfl
    have k1 := hel 1 _ rfl
    have k2 := hel 2 _ rfl
    obtain ⟨y0, e0, _⟩ := DataW.trod_int Tryz.underlying3 k0
    obtain ⟨y1, e1, _⟩ := DataW.trod_bool Tryz.underlying4 k1
    obtain ⟨y2, e2, f2, _⟩ := DataW.trod_string Tryz.underlying9 k2
    simp [Tryz.cI, Tryz.cB, Tryz.cS] at e0 e1 e2
    subst e0 e1 e2
    refine ⟨⟨y0, y1, y2⟩, rfl, ?_⟩
    rw [hx]
    simp only [DataW.weights, Tryz.underlying55]
    refine DataW.weights_mem_each (j := 2) (t := 9) (d := x2.1) rfl rfl _ ?_
    rw [f2]
    simp only [DataW.weights]
    exact List.mem_singleton.2 (Array.length_toList (xs := y2.data)).symm
theorem open_kids {fuel : Nat} {cs : List Value} {x : DataW H × List MemPlace} (h : DataW.trod enc Tryz.prog w base sp held fuel 56 cs = some x) :
    ∃ (ka : Option Addr) (ks : List Kd) (kc : Nat), cs = [.slice ka ks.length kc] ∧ ks.length ≤ kc ∧ kc ≤ maxLen ∧ KidsIn w ka ks ∧
      ∀ N, (∀ n ∈ x.1.weights Tryz.prog 56, n ≤ N) → ks.length * 32 ≤ N ∧ ∀ k ∈ ks, k.dflt.size ≤ N := by
  rcases open_slice Tryz.underlying56 h with ⟨rfl, rfl⟩ | ⟨a, len, cap, m, n, D, Pl, rfl, hb, hl, hm, hmm, rfl, hx⟩
  · exact ⟨none, [], 0, rfl, Nat.le_refl _, Nat.zero_le _, fun j hj => absurd hj (Nat.not_lt_zero _), fun N _ => ⟨by simp, fun k hk => by cases hk⟩⟩
  have hlm : len ≤ m := by rw [hmm]; split <;> omega
  rw [Tryz.cK] at hx
  have each : ∀ i, i < len → ∃ k : Kd, w.cell? (a.add (i * 3)) = some (.int .i64 k.node) ∧ w.cell? (a.add (i * 3 + 1)) = some (.bool k.opt) ∧ w.cell? (a.add (i * 3 + 2)) = some (.string k.dflt) ∧ k.dflt.size ∈ (D i).weights Tryz.prog 55 := by
    intro i hi
    obtain ⟨cs', h1, h2⟩ := hx i (by omega)
    obtain ⟨k, rfl, hk⟩ := open_kid h2
    obtain ⟨_, _, hcell⟩ := World.cells?_some h1
    have e0 := hcell 0 (by omega)
    have e1 := hcell 1 (by omega)
    have e2 := hcell 2 (by omega)
    rw [add_add] at e0 e1 e2
    exact ⟨k, by simpa using e0, by simpa using e1, by simpa using e2, hk⟩
  obtain ⟨K, hK⟩ := @choose_lt Kd ⟨kd0⟩ _ _ each
  have hlen : ((List.range len).map K).length = len := by simp
  refine ⟨some a, (List.range len).map K, cap, by rw [hlen], by rw [hlen]; exact hl, hm, fun j hj => ?_, fun N hN => ?_⟩
  · rw [hlen] at hj
    have h0 := (hK 0 (by omega)).1
    have ea : a = ⟨a.block, a.off, none⟩ := spot_none (w := w) (a := a) (v := .int .i64 (K 0).node) (by simpa [Addr.add] using h0)
    obtain ⟨q0, q1, q2, _⟩ := hK j hj
    rw [ea, plain_add] at q0 q1 q2
    rw [getD_map_range K kd0 hj]
    exact ⟨a.block, a.off, congrArg some ea, q0, by rw [← Nat.add_assoc] at q1; exact q1, by rw [← Nat.add_assoc] at q2; exact q2⟩
  · simp only [DataW.weights, Tryz.underlying56] at hN
    refine ⟨?_, fun k hk => ?_⟩
    · have := hN _ (List.mem_cons_self ..)
      rw [Tryz.bK] at this
      simp at this ⊢
      omega
    · obtain ⟨i, hi, rfl⟩ := List.mem_map.1 hk
      have hi' := List.mem_range.1 hi
      exact hN _ (List.mem_cons_of_mem _ (List.mem_append_left _ (mem_weightsAll (d := D i) (List.mem_map.2 ⟨i, hi, rfl⟩) (hK i hi').2.2.2)))
theorem open_node {fuel : Nat} {cs : List Value} {x : DataW H × List MemPlace} (h : DataW.trod enc Tryz.prog w base sp held fuel 58 cs = some x) :
    ∃ (n : Nd) (ka : Option Addr) (kc : Nat), cs = [.int .i64 n.kind, .int .i64 n.tag, .int .i64 n.mode, .slice ka n.kids.length kc] ∧ n.kids.length ≤ kc ∧ kc ≤ maxLen ∧ KidsIn w ka n.kids ∧
      ∀ N, (∀ m ∈ x.1.weights Tryz.prog 58, m ≤ N) → n.kids.length * 32 ≤ N ∧ ∀ k ∈ n.kids, k.dflt.size ≤ N := by
  obtain ⟨xs, n, _, hx, hl, hlen, hel⟩ := DataW.trod_struct Tryz.underlying58 h
  rw [Tryz.cN] at hl
  match cs, hl, xs, hlen, hx, hel with
  | [c0, c1, c2, c3], _, [x0, x1, x2, x3], _, hx, hel =>
    have k0 := hel 0 _ rfl
    have k1 := hel 1 _ rfl
    have k2 := hel 2 _ rfl
    have k3 := hel 3 _ rfl
    obtain ⟨y0, e0, _⟩ := DataW.trod_int Tryz.underlying3 k0
    obtain ⟨y1, e1, _⟩ := DataW.trod_int Tryz.underlying3 k1
    obtain ⟨y2, e2, _⟩ := DataW.trod_int Tryz.underlying3 k2
    obtain ⟨ka, ks, kc, e3, g1, g2, g3, g4⟩ := open_kids k3
    simp [Tryz.cI, Tryz.cKs] at e0 e1 e2 e3
    subst e0 e1 e2 e3
    refine ⟨⟨y0, y1, y2, ks⟩, ka, kc, rfl, g1, g2, g3, fun N hN => g4 N fun m hm => hN m ?_⟩
    rw [hx]
    simp only [DataW.weights, Tryz.underlying58]
    exact DataW.weights_mem_each (j := 3) (t := 56) (d := x3.1) rfl rfl _ hm
/-- How great a schema may be. -/
structure Fits (s : List Nd) : Prop where
  len : s.length * 48 ≤ 140737488351232
  kids : ∀ i, i < s.length → (nd s i).kids.length * 32 ≤ 140737488351232
  ok : SchOk s
theorem open_schema {fuel : Nat} {cs : List Value} {x : DataW H × List MemPlace} (h : DataW.trod enc Tryz.prog w base sp held fuel 22 cs = some x) :
    ∃ (a : Option Addr) (s : List Nd) (c : Nat), cs = [.slice a s.length c] ∧ s.length ≤ c ∧ c ≤ maxLen ∧ Sch w a s ∧ ((∀ n ∈ x.1.weights Tryz.prog 22, n ≤ 140737488351232) → Fits s) := by
  rcases open_slice Tryz.underlying22 h with ⟨rfl, rfl⟩ | ⟨a, len, cap, m, n, D, Pl, rfl, hb, hl, hm, hmm, rfl, hx⟩
  · exact ⟨none, [], 0, rfl, Nat.le_refl _, Nat.zero_le _, fun j hj => absurd hj (Nat.not_lt_zero _), fun _ => ⟨by simp, fun i hi => absurd hi (Nat.not_lt_zero _), fun i hi => absurd hi (Nat.not_lt_zero _)⟩⟩
  have hlm : len ≤ m := by rw [hmm]; split <;> omega
  rw [Tryz.cN] at hx
  have each : ∀ i, i < len → ∃ q : Nd × Option Addr × Nat, w.cell? (a.add (i * 4)) = some (.int .i64 q.1.kind) ∧ w.cell? (a.add (i * 4 + 1)) = some (.int .i64 q.1.tag) ∧ w.cell? (a.add (i * 4 + 2)) = some (.int .i64 q.1.mode) ∧
      w.cell? (a.add (i * 4 + 3)) = some (.slice q.2.1 q.1.kids.length q.2.2) ∧ q.1.kids.length ≤ q.2.2 ∧ q.2.2 ≤ maxLen ∧ KidsIn w q.2.1 q.1.kids ∧
      ∀ N, (∀ m ∈ (D i).weights Tryz.prog 58, m ≤ N) → q.1.kids.length * 32 ≤ N ∧ ∀ k ∈ q.1.kids, k.dflt.size ≤ N := by
    intro i hi
    obtain ⟨cs', h1, h2⟩ := hx i (by omega)
    obtain ⟨k, ka, kc, rfl, g1, g2, g3, g4⟩ := open_node h2
    obtain ⟨_, _, hcell⟩ := World.cells?_some h1
    have e0 := hcell 0 (by omega)
    have e1 := hcell 1 (by omega)
    have e2 := hcell 2 (by omega)
    have e3 := hcell 3 (by omega)
    rw [add_add] at e0 e1 e2 e3
    exact ⟨(k, ka, kc), by simpa using e0, by simpa using e1, by simpa using e2, by simpa using e3, g1, g2, g3, g4⟩
  obtain ⟨K, hK⟩ := @choose_lt (Nd × Option Addr × Nat) ⟨(nd0, none, 0)⟩ _ _ each
  have hlen : ((List.range len).map fun i => (K i).1).length = len := by simp
  have hnd : ∀ i, i < len → nd ((List.range len).map fun i => (K i).1) i = (K i).1 := fun i hi => getD_map_range (fun i => (K i).1) nd0 hi
  refine ⟨some a, (List.range len).map fun i => (K i).1, cap, by rw [hlen], by rw [hlen]; exact hl, hm, fun j hj => ?_, fun hN => ?_⟩
  · rw [hlen] at hj
    have h0 := (hK 0 (by omega)).1
    have ea : a = ⟨a.block, a.off, none⟩ := spot_none (w := w) (a := a) (v := .int .i64 (K 0).1.kind) (by simpa [Addr.add] using h0)
    obtain ⟨q0, q1, q2, q3, g1, g2, g3, _⟩ := hK j hj
    rw [ea, plain_add] at q0 q1 q2 q3
    rw [hnd j hj]
    exact ⟨a.block, a.off, (K j).2.1, (K j).2.2, congrArg some ea, ⟨q0, by rw [← Nat.add_assoc] at q1; exact q1, by rw [← Nat.add_assoc] at q2; exact q2, by rw [← Nat.add_assoc] at q3; exact q3⟩, g1, g2, g3⟩
  · simp only [DataW.weights, Tryz.underlying22] at hN
    have each2 : ∀ i, i < len → (K i).1.kids.length * 32 ≤ 140737488351232 ∧ ∀ k ∈ (K i).1.kids, k.dflt.size ≤ 140737488351232 := fun i hi =>
      (hK i hi).2.2.2.2.2.2.2 _ fun m hm => hN m (List.mem_cons_of_mem _ (List.mem_append_left _ (mem_weightsAll (d := D i) (List.mem_map.2 ⟨i, List.mem_range.2 hi, rfl⟩) hm)))
    refine ⟨?_, fun i hi => ?_, fun i hi => ?_⟩
    · have := hN _ (List.mem_cons_self ..)
      rw [Tryz.bN] at this
      simp at this ⊢
      omega
    · rw [hlen] at hi; rw [hnd i hi]; exact (each2 i hi).1
    · rw [hlen] at hi; rw [hnd i hi]; exact (each2 i hi).2
end
end Go.Proofs.YtkkicodfpekbgaaGreatDoor
