/-
  Several texts in one:
  errors.Is and hallmark.number of a fault in a fault (written by gen_ne.py).
  hallmark.Decode: what it answers: what the document's Decode answers.
  What the condition on the package's variables gives where the variable that holds the type error is among them; a world that meets it.
  hallmark.Check, hallmarklaw.Checks: what they answer.
  hallmarklaw: Book.decode: what it answers.
  hallmarklaw.Decodes: what it answers.
-/
import Derived.Test.YtkkicodfpekbgaaGreatDoorJ10
import Derived.Test.YtkkicodfpekbgaaGreatDoorJSez
import Derived.LaidHandle
import Derived.Test.YtkkicodfpekbgaaGreatDoorJ9
import Derived.Test.YtkkicodfpekbgaaGreatDoorJ1
import Derived.Test.YtkkicodfpekbgaaGreatDoorJ3
/-! errors.Is and hallmark.number of a fault in a fault (written by gen_ne.py). -/
namespace Go.Proofs.YtkkicodfpekbgaaGreatDoor
set_option linter.unusedSimpArgs false
set_option linter.unusedVariables false
open Go.RowKit Go.Extern.Stop Go.Stop Go.Extern

set_option maxHeartbeats 1000000 in
set_option maxRecDepth 100000 in
theorem is_two (p0 p : Int) (a b : Addr) (ca cb : Array Value) (ta tb : TypeId) (w : World) (hne : a ≠ b) (ha : w.heap[a.block]? = some (.cells ca ta (0, 0))) (hb : w.heap[b.block]? = some (.cells cb tb (0, 0))) :
    Calls Tryz.prog 59 #[.iface 155 (.agg #[.int .i64 p0, .iface 155 (.agg #[.int .i64 p, .iface 291 (.pointer (some a))])]), .iface 291 (.pointer (some b))] w fun e w' => e = .returned (.bool false) ∧ Below w.heap.size w w' := by
  obtain ⟨i, hi, hcmp⟩ := Option.map_eq_some_iff.1 Tryz.isComp
  obtain ⟨j, hj, hjs⟩ := Option.map_eq_some_iff.1 Tryz.isSize
  have lt : ∀ {k : Nat} {o : Obj}, w.heap[k]? = some o → k < w.heap.size := fun {k o} h => by
    rcases Nat.lt_or_ge k w.heap.size with h' | h'
    · exact h'
    · rw [Array.getElem?_eq_none h'] at h; cases h
  have heq := fun o o2 => run_eql_iface_ptr_other (P := Tryz.prog) ((w.alloc o).alloc o2) Tryz.underlying85 Tryz.underlying291 hi hcmp hj (by rw [hjs]; decide) hne ((Below.heap_alloc (w.alloc o) o2 _ (by have := lt ha; simp; omega)).trans ((Below.heap_alloc w o _ (lt ha)).trans ha)) ((Below.heap_alloc (w.alloc o) o2 _ (by have := lt hb; simp; omega)).trans ((Below.heap_alloc w o _ (lt hb)).trans hb))
  clear lt ha hb
  have h8 := Tryz.callTypeOf
  have h32 := Tryz.callComparable
  have mR := Tryz.isMethodComparable
  have nF := Tryz.noIsF
  have uF := Tryz.hasUnwrapF
  have mU := Tryz.methodUnwrap
  have nE := Tryz.noIsE
  have uE := Tryz.noUnwrapE
  have vE := Tryz.noUnwrapsE
  have hty := fun x w => run_eql_iface_types (P := Tryz.prog) 155 291 x (.pointer (some b)) Tryz.underlying85 (by decide) w
  go_enter Tryz.func59, Tryz.ntmps59
  go_wp2
  refine wp_loop_rounds 3 ?_
  rw [rounds_succ]
  go_wp2
  rw [rounds_succ]
  go_wp2
  rw [rounds_succ]
  go_wp2
  go_ret
  exact ⟨rfl, ((Below.refl _ _).alloc (Nat.le_refl _) _).alloc (by simp) _⟩


set_option maxHeartbeats 4000000 in
set_option maxRecDepth 100000 in
theorem number_two (p0 p : Int) (za : Addr) (w : World) (sn : Sn → Addr) (hs : Sent w sn) (hz : LayZ w sn za) :
    Calls Tryz.prog 34 #[faultV p0 (fault p za)] w fun e w' => e = .returned (.int .i64 1) ∧ Below w.heap.size w w' := by
  have IS : Hid (∀ (s : Sn) wq, Below w.heap.size w wq → Calls Tryz.prog 59 #[.iface 155 (.agg #[.int .i64 p0, .iface 155 (.agg #[.int .i64 p, .iface 291 (.pointer (some za))])]), .iface 291 (.pointer (some (sn s)))] wq fun e w' => e = .returned (.bool false) ∧ Below w.heap.size w w') := fun s wq hq => by
    obtain ⟨c1, t1, r1⟩ := row_below hz.r hq
    obtain ⟨c2, t2, r2⟩ := row_below (hs.r s) hq
    refine (is_two p0 p za (sn s) c1 c2 t1 t2 wq (fun q => hz.d s q.symm) r1 r2).mono ?_
    rintro e w' ⟨he, hb⟩
    exact ⟨he, hq.trans (hb.mono hq.size)⟩
  have S0 := hide hs
  have B0 : Hid (Below w.heap.size w w) := Below.refl _ _
  have h0 := hs.cLong
  clear hs hz
  unfold faultV fault
  go_enter Tryz.func34, Tryz.ntmps34
  go_wp2_with fail
  refine (IS.out .Long _ B0.out).mono ?_
  rintro e w1 ⟨rfl, hb⟩
  have B1 := hide hb
  clear hb h0
  have h1 := (S0.out.below B1.out).cEnd
  go_wp2_with fail
  refine (IS.out .End _ B1.out).mono ?_
  rintro e w2 ⟨rfl, hb⟩
  have B2 := hide hb
  clear hb h1
  have h2 := (S0.out.below B2.out).cTag
  go_wp2_with fail
  refine (IS.out .Tag _ B2.out).mono ?_
  rintro e w3 ⟨rfl, hb⟩
  have B3 := hide hb
  clear hb h2
  have h3 := (S0.out.below B3.out).cLength
  go_wp2_with fail
  refine (IS.out .Length _ B3.out).mono ?_
  rintro e w4 ⟨rfl, hb⟩
  have B4 := hide hb
  clear hb h3
  have h4 := (S0.out.below B4.out).cValue
  go_wp2_with fail
  refine (IS.out .Value _ B4.out).mono ?_
  rintro e w5 ⟨rfl, hb⟩
  have B5 := hide hb
  clear hb h4
  have h5 := (S0.out.below B5.out).cMore
  go_wp2_with fail
  refine (IS.out .More _ B5.out).mono ?_
  rintro e w6 ⟨rfl, hb⟩
  have B6 := hide hb
  clear hb h5
  have h6 := (S0.out.below B6.out).cOrder
  go_wp2_with fail
  refine (IS.out .Order _ B6.out).mono ?_
  rintro e w7 ⟨rfl, hb⟩
  have B7 := hide hb
  clear hb h6
  have h7 := (S0.out.below B7.out).cDefault
  go_wp2_with fail
  refine (IS.out .Default _ B7.out).mono ?_
  rintro e w8 ⟨rfl, hb⟩
  have B8 := hide hb
  clear hb h7
  have h8 := (S0.out.below B8.out).cDeep
  go_wp2_with fail
  refine (IS.out .Deep _ B8.out).mono ?_
  rintro e w9 ⟨rfl, hb⟩
  have B9 := hide hb
  clear hb h8
  have h9 := (S0.out.below B9.out).cTree
  go_wp2_with fail
  refine (IS.out .Tree _ B9.out).mono ?_
  rintro e w10 ⟨rfl, hb⟩
  have B10 := hide hb
  clear hb h9
  have h10 := (S0.out.below B10.out).cCard
  go_wp2_with fail
  refine (IS.out .Card _ B10.out).mono ?_
  rintro e w11 ⟨rfl, hb⟩
  have B11 := hide hb
  clear hb h10
  have h11 := (S0.out.below B11.out).cMark
  go_wp2_with fail
  refine (IS.out .Mark _ B11.out).mono ?_
  rintro e w12 ⟨rfl, hb⟩
  have B12 := hide hb
  clear hb h11
  go_wp2_with fail
  go_ret
  exact ⟨rfl, B12.out⟩
end Go.Proofs.YtkkicodfpekbgaaGreatDoor

/-! hallmark.Decode: what it answers: what the document's Decode answers. -/
namespace Go.Proofs.YtkkicodfpekbgaaGreatDoor
set_option linter.unusedSimpArgs false
set_option linter.unusedVariables false
open Go.RowKit

/-- The variable that holds the type error. -/
def EtC (w : World) : Prop := w.cell? ⟨13, 0, none⟩ = some (.iface 220 (.agg #[.pointer (some ⟨19, 85, none⟩)]))
theorem EtC.below {w w' : World} (h : EtC w) (hb : Below w.heap.size w w') : EtC w' := (hb.cell (lt_of_cell h)).trans h

set_option maxHeartbeats 1000000 in
set_option maxRecDepth 100000 in
theorem decode_any (E : Env) (s : List Nd) (a : Option Addr) (c : Nat) (root : Int) (d : ByteArray) (v : Except (Int × Int) (List Vl)) (w : World) (sn : Sn → Addr) (za : Addr) (hl : Lay w sn) (hz : LayZ w sn za) (het : EtC w) (hs : Sch w a s) (hok : SchOk s) (hn0 : s.length ≤ 140737488351232) (hdm : d.size ≤ 9223372036854775807) (hv : DecV E s root d v) :
    Calls Tryz.prog 23 #[.slice a s.length c, .int .i64 root, .string d] w fun e w' => RetDec v w e w' := by
  have HT := hide (tree_any E s a c root d v w sn za hl hz hs hok hn0 hdm hv)
  have HL := hide hl
  have HZ := hide hz
  have HP : Hid (∀ p u wq, u.oneCell' = true → Below w.heap.size w wq → Calls Tryz.prog 48 #[.iface 155 (.agg #[.int .i64 p, u])] wq fun e w' => e = .returned (.int .i64 p) ∧ Below w.heap.size w w') := fun p u wq h1 hq => (place_at p u wq h1 (het.below hq)).mono fun e w' h => ⟨h.1, hq.trans (h.2.mono hq.size)⟩
  have HPN : Hid (∀ wq, Calls Tryz.prog 48 #[.nilIface] wq fun e w' => e = .returned (.int .i64 0) ∧ Below wq.heap.size wq w') := fun wq => place_nil wq
  have HNN : Hid (∀ wq, Calls Tryz.prog 34 #[.nilIface] wq fun e w' => e = .returned (.int .i64 0) ∧ w' = wq) := fun wq => number_nil wq
  clear hl hz het hs hok hv
  go_enter Tryz.func23, Tryz.ntmps23
  go_wp2_with fail
  refine HT.out.mono ?_
  rintro e w1 ⟨hb1, h1⟩
  have HB1 := hide hb1
  clear hb1
  rcases h1 with ⟨vs, ta, tc, hvv, rfl, ho⟩ | ⟨p, hvv, rfl⟩ | ⟨hvv, rfl⟩ | ⟨k, q, hvv, hk1, hk2, rfl⟩
  · have HO := hide ho
    have HVV := hide hvv
    clear ho hvv
    go_wp2_with fail
    refine (HPN.out _).mono ?_
    rintro e w2 ⟨rfl, hb2⟩
    have HB2 : Hid (Below w.heap.size w w2) := HB1.out.trans (hb2.mono HB1.out.size)
    have HO2 : Hid (w2.ownsRow w.heap.size 60 4 (.slice ta vs.length tc) vs.length (vcells vs)) := own_below HO.out hb2
    clear hb2
    go_wp2_with fail
    refine (HNN.out _).mono ?_
    rintro e w3 ⟨rfl, rfl⟩
    go_wp2
    refine bodyPost_ret (v := .tuple #[.slice ta vs.length tc, .int .i64 0, .int .i64 0]) (by simp [results, Tryz.results23, go_sem]) rfl ?_
    rw [HVV.out]
    exact ⟨HB2.out, ta, tc, rfl, HO2.out⟩
  · have HVV := hide hvv
    have HN : Hid (∀ wq, Below w.heap.size w wq → Calls Tryz.prog 34 #[faultV 0 (fault p za)] wq fun e w' => e = .returned (.int .i64 1) ∧ Below w.heap.size w w') := fun wq hq => (number_two 0 p za wq sn (HL.out.below hq).s (HZ.out.below hq)).mono fun e w' h => ⟨h.1, hq.trans (h.2.mono hq.size)⟩
    unfold faultV fault at HN ⊢
    clear hvv
    go_wp2_with fail
    refine (HP.out _ _ _ rfl HB1.out).mono ?_
    rintro e w2 ⟨rfl, hb2⟩
    have HB2 := hide hb2
    clear hb2
    go_wp2_with fail
    refine (HN.out _ HB2.out).mono ?_
    rintro e w3 ⟨rfl, hb3⟩
    have HB3 := hide hb3
    clear hb3
    go_wp2
    refine bodyPost_ret (v := .tuple #[.slice none 0 0, .int .i64 0, .int .i64 1]) (by simp [results, Tryz.results23, go_sem]) rfl ?_
    rw [HVV.out]
    exact ⟨HB3.out, rfl⟩
  · have HVV := hide hvv
    have HN : Hid (∀ wq, Below w.heap.size w wq → Calls Tryz.prog 34 #[fault 0 za] wq fun e w' => e = .returned (.int .i64 1) ∧ Below w.heap.size w w') := fun wq hq => by
      have h := number_at 0 za wq sn (HL.out.below hq).s (HZ.out.below hq).r
      rw [nm_none (fun s q => HZ.out.d s q.symm)] at h
      exact h.mono fun e w' h => ⟨h.1, hq.trans (h.2.mono hq.size)⟩
    unfold fault at HN ⊢
    clear hvv
    go_wp2_with fail
    refine (HP.out _ _ _ rfl HB1.out).mono ?_
    rintro e w2 ⟨rfl, hb2⟩
    have HB2 := hide hb2
    clear hb2
    go_wp2_with fail
    refine (HN.out _ HB2.out).mono ?_
    rintro e w3 ⟨rfl, hb3⟩
    have HB3 := hide hb3
    clear hb3
    go_wp2
    refine bodyPost_ret (v := .tuple #[.slice none 0 0, .int .i64 0, .int .i64 1]) (by simp [results, Tryz.results23, go_sem]) rfl ?_
    rw [HVV.out]
    exact ⟨HB3.out, rfl⟩
  · have HVV := hide hvv
    have HN : Hid (∀ wq, Below w.heap.size w wq → Calls Tryz.prog 34 #[fault q (sn (snE k))] wq fun e w' => e = .returned (.int .i64 k) ∧ Below w.heap.size w w') := fun wq hq => by
      have h := number_sn q (snE k) wq sn (HL.out.below hq).s
      rw [snE_code k hk1 hk2] at h
      exact h.mono fun e w' h => ⟨h.1, hq.trans (h.2.mono hq.size)⟩
    unfold fault at HN ⊢
    generalize sn (snE k) = ak at HN
    clear hvv
    go_wp2_with fail
    refine (HP.out _ _ _ rfl HB1.out).mono ?_
    rintro e w2 ⟨rfl, hb2⟩
    have HB2 := hide hb2
    clear hb2
    go_wp2_with fail
    refine (HN.out _ HB2.out).mono ?_
    rintro e w3 ⟨rfl, hb3⟩
    have HB3 := hide hb3
    clear hb3
    go_wp2
    refine bodyPost_ret (v := .tuple #[.slice none 0 0, .int .i64 q, .int .i64 k]) (by simp [results, Tryz.results23, go_sem]) rfl ?_
    rw [HVV.out]
    exact ⟨HB3.out, rfl⟩
end Go.Proofs.YtkkicodfpekbgaaGreatDoor

/-! What the condition on the package's variables gives where the variable that holds the type error is among them; a world that meets it. -/
namespace Go.Proofs.YtkkicodfpekbgaaGreatDoor
set_option linter.unusedSimpArgs false
set_option linter.unusedVariables false
open Go.ChangeShapes Go.WideShapes Go.ChangeAt Go.WideMaps Go.WideElems Go.RowKit Go.Lib
set_option maxRecDepth 100000

theorem Tryz.gEt : Tryz.prog.globalNamed "errors.errorType" = some 13 := by kernel_rfl
theorem Tryz.rtOf : (Tryz.prog.cutTypes.find? (·.1 == "internal/reflectlite.rtype")).map (·.2) = some 220 := by kernel_rfl
theorem Tryz.oneRow : ((List.range 324).filter fun t => Tryz.prog.rowNamed t [101, 114, 114, 111, 114]) = [85] := by kernel_rfl
theorem Tryz.sizeT : Tryz.prog.types.size = 324 := by kernel_rfl
theorem Tryz.hdlE : typeHandle Tryz.prog 85 = .pointer (some ⟨19, 85, none⟩) := by kernel_rfl
theorem lay_of_laid_decodes {W : World} (h : laidMetH Tryz.prog [("unicode/utf8.acceptRanges", Rows.laid_unicode_utf8_acceptRanges), ("errors.errorType", Rows.laid_errors_errorType), ("hallmark/fault.Schema", Rows.laid_hallmark_fault_Schema), ("hallmark/fault.Long", Rows.laid_hallmark_fault_Long), ("hallmark/fault.End", Rows.laid_hallmark_fault_End), ("hallmark/fault.Tag", Rows.laid_hallmark_fault_Tag), ("hallmark/fault.Length", Rows.laid_hallmark_fault_Length), ("hallmark/fault.Value", Rows.laid_hallmark_fault_Value), ("hallmark/fault.More", Rows.laid_hallmark_fault_More), ("hallmark/fault.Order", Rows.laid_hallmark_fault_Order), ("hallmark/fault.Default", Rows.laid_hallmark_fault_Default), ("hallmark/fault.Deep", Rows.laid_hallmark_fault_Deep), ("hallmark/fault.Tree", Rows.laid_hallmark_fault_Tree), ("hallmark/fault.Card", Rows.laid_hallmark_fault_Card), ("hallmark/fault.Mark", Rows.laid_hallmark_fault_Mark), ("hallmark/content.monthDays", Rows.laid_hallmark_content_monthDays), ("hallmark/schemas.ownNumbers", Rows.laid_hallmark_schemas_ownNumbers), ("unicode/utf8.first", Rows.laid_unicode_utf8_first)] W) : ∃ sn za, Lay W sn ∧ LayZ W sn za ∧ EtC W := by
  have h' : laidMet Tryz.prog [("unicode/utf8.acceptRanges", Rows.laid_unicode_utf8_acceptRanges), ("hallmark/fault.Schema", Rows.laid_hallmark_fault_Schema), ("hallmark/fault.Long", Rows.laid_hallmark_fault_Long), ("hallmark/fault.End", Rows.laid_hallmark_fault_End), ("hallmark/fault.Tag", Rows.laid_hallmark_fault_Tag), ("hallmark/fault.Length", Rows.laid_hallmark_fault_Length), ("hallmark/fault.Value", Rows.laid_hallmark_fault_Value), ("hallmark/fault.More", Rows.laid_hallmark_fault_More), ("hallmark/fault.Order", Rows.laid_hallmark_fault_Order), ("hallmark/fault.Default", Rows.laid_hallmark_fault_Default), ("hallmark/fault.Deep", Rows.laid_hallmark_fault_Deep), ("hallmark/fault.Tree", Rows.laid_hallmark_fault_Tree), ("hallmark/fault.Card", Rows.laid_hallmark_fault_Card), ("hallmark/fault.Mark", Rows.laid_hallmark_fault_Mark), ("hallmark/content.monthDays", Rows.laid_hallmark_content_monthDays), ("hallmark/schemas.ownNumbers", Rows.laid_hallmark_schemas_ownNumbers), ("unicode/utf8.first", Rows.laid_unicode_utf8_first)] W ∧ handlesMet Tryz.prog [("errors.errorType", Rows.laid_errors_errorType)] W := h
  obtain ⟨sn, za, h1, h2⟩ := lay_of_laid_checks (W := W) (by rw [MakeChecks.laidMetH_plain _ _ _ (by kernel_rfl)]; exact h'.1)
  refine ⟨sn, za, h1, h2, ?_⟩
  obtain ⟨name, u, ty, e1, e2, e3, e4, e5⟩ := h'.2 _ (List.mem_singleton.2 rfl)
  have en : name = [101, 114, 114, 111, 114] := (Option.some.inj e1).symm
  subst en
  obtain rfl := Option.some.inj (Tryz.rtOf.symm.trans e2)
  have hm : ty ∈ (List.range 324).filter fun t => Tryz.prog.rowNamed t [101, 114, 114, 111, 114] := List.mem_filter.2 ⟨List.mem_range.2 (by rw [← Tryz.sizeT]; exact e3), e4⟩
  rw [Tryz.oneRow] at hm
  obtain rfl := List.mem_singleton.1 hm
  rw [Tryz.hdlE] at e5
  have := World.var?_cell Tryz.gEt e5 0
  unfold EtC
  simpa using this

/-- The variable's cell laid. -/
def withErr (w : World) : World :=
  { w with heap := w.heap.modify 13 fun o => match o with
    | .cells _ t fr => .cells #[.iface 220 (.agg #[.pointer (some ⟨19, 85, none⟩)])] t fr
    | o => o }
theorem laidMet_from {P : Program} {w0 : World} {laid : List (String × DataW Unit)} (args : Array Value) (hf : w0.layFits P laid [] = true) (hi : w0.layIfaces P laid (w0.layVars P laid) = true) :
    laidMet P laid ((w0.layVars P laid).forCall (fun _ _ => 0) ⟨#[], args, []⟩).memory := by
  have hin : ∀ x ∈ laid, (laid.map (·.1)).contains x.1 = true := fun x hx => List.contains_iff_mem.2 (List.mem_map.2 ⟨x, hx, rfl⟩)
  have e1 : (laid.filter fun x => (laid.map (·.1)).contains x.1) = laid := List.filter_eq_self.2 hin
  have e2 : (laid.filter fun x => !(laid.map (·.1)).contains x.1) = [] := List.filter_eq_nil_iff.2 fun x hx => by rw [hin x hx]; simp
  have h : laidMet P laid (w0.layVars P laid) := laidMet_layVars (w0 := w0) (laid.map (·.1)) [] (by rw [e1]) (by rw [e1]; exact hf) (by rw [e1]; exact hi) (by rw [e2]; exact LaidIn.none)
  exact h.of_heap (by simp [World.memory, World.forCall, Input.heap])
theorem met_decodes (os : Os) (args : Array Value) : laidMetH Tryz.prog [("unicode/utf8.acceptRanges", Rows.laid_unicode_utf8_acceptRanges), ("errors.errorType", Rows.laid_errors_errorType), ("hallmark/fault.Schema", Rows.laid_hallmark_fault_Schema), ("hallmark/fault.Long", Rows.laid_hallmark_fault_Long), ("hallmark/fault.End", Rows.laid_hallmark_fault_End), ("hallmark/fault.Tag", Rows.laid_hallmark_fault_Tag), ("hallmark/fault.Length", Rows.laid_hallmark_fault_Length), ("hallmark/fault.Value", Rows.laid_hallmark_fault_Value), ("hallmark/fault.More", Rows.laid_hallmark_fault_More), ("hallmark/fault.Order", Rows.laid_hallmark_fault_Order), ("hallmark/fault.Default", Rows.laid_hallmark_fault_Default), ("hallmark/fault.Deep", Rows.laid_hallmark_fault_Deep), ("hallmark/fault.Tree", Rows.laid_hallmark_fault_Tree), ("hallmark/fault.Card", Rows.laid_hallmark_fault_Card), ("hallmark/fault.Mark", Rows.laid_hallmark_fault_Mark), ("hallmark/content.monthDays", Rows.laid_hallmark_content_monthDays), ("hallmark/schemas.ownNumbers", Rows.laid_hallmark_schemas_ownNumbers), ("unicode/utf8.first", Rows.laid_unicode_utf8_first)] (((withErr (World.holding Tryz.prog os ⟨#[], #[], []⟩)).layVars Tryz.prog [("unicode/utf8.acceptRanges", Rows.laid_unicode_utf8_acceptRanges), ("hallmark/fault.Schema", Rows.laid_hallmark_fault_Schema), ("hallmark/fault.Long", Rows.laid_hallmark_fault_Long), ("hallmark/fault.End", Rows.laid_hallmark_fault_End), ("hallmark/fault.Tag", Rows.laid_hallmark_fault_Tag), ("hallmark/fault.Length", Rows.laid_hallmark_fault_Length), ("hallmark/fault.Value", Rows.laid_hallmark_fault_Value), ("hallmark/fault.More", Rows.laid_hallmark_fault_More), ("hallmark/fault.Order", Rows.laid_hallmark_fault_Order), ("hallmark/fault.Default", Rows.laid_hallmark_fault_Default), ("hallmark/fault.Deep", Rows.laid_hallmark_fault_Deep), ("hallmark/fault.Tree", Rows.laid_hallmark_fault_Tree), ("hallmark/fault.Card", Rows.laid_hallmark_fault_Card), ("hallmark/fault.Mark", Rows.laid_hallmark_fault_Mark), ("hallmark/content.monthDays", Rows.laid_hallmark_content_monthDays), ("hallmark/schemas.ownNumbers", Rows.laid_hallmark_schemas_ownNumbers), ("unicode/utf8.first", Rows.laid_unicode_utf8_first)]).forCall (fun _ _ => 0) ⟨#[], args, []⟩).memory := by
  have e0 : ([("unicode/utf8.acceptRanges", Rows.laid_unicode_utf8_acceptRanges), ("errors.errorType", Rows.laid_errors_errorType), ("hallmark/fault.Schema", Rows.laid_hallmark_fault_Schema), ("hallmark/fault.Long", Rows.laid_hallmark_fault_Long), ("hallmark/fault.End", Rows.laid_hallmark_fault_End), ("hallmark/fault.Tag", Rows.laid_hallmark_fault_Tag), ("hallmark/fault.Length", Rows.laid_hallmark_fault_Length), ("hallmark/fault.Value", Rows.laid_hallmark_fault_Value), ("hallmark/fault.More", Rows.laid_hallmark_fault_More), ("hallmark/fault.Order", Rows.laid_hallmark_fault_Order), ("hallmark/fault.Default", Rows.laid_hallmark_fault_Default), ("hallmark/fault.Deep", Rows.laid_hallmark_fault_Deep), ("hallmark/fault.Tree", Rows.laid_hallmark_fault_Tree), ("hallmark/fault.Card", Rows.laid_hallmark_fault_Card), ("hallmark/fault.Mark", Rows.laid_hallmark_fault_Mark), ("hallmark/content.monthDays", Rows.laid_hallmark_content_monthDays), ("hallmark/schemas.ownNumbers", Rows.laid_hallmark_schemas_ownNumbers), ("unicode/utf8.first", Rows.laid_unicode_utf8_first)].filter fun (x : String × DataW Unit) => x.2.handleName?.isNone) = [("unicode/utf8.acceptRanges", Rows.laid_unicode_utf8_acceptRanges), ("hallmark/fault.Schema", Rows.laid_hallmark_fault_Schema), ("hallmark/fault.Long", Rows.laid_hallmark_fault_Long), ("hallmark/fault.End", Rows.laid_hallmark_fault_End), ("hallmark/fault.Tag", Rows.laid_hallmark_fault_Tag), ("hallmark/fault.Length", Rows.laid_hallmark_fault_Length), ("hallmark/fault.Value", Rows.laid_hallmark_fault_Value), ("hallmark/fault.More", Rows.laid_hallmark_fault_More), ("hallmark/fault.Order", Rows.laid_hallmark_fault_Order), ("hallmark/fault.Default", Rows.laid_hallmark_fault_Default), ("hallmark/fault.Deep", Rows.laid_hallmark_fault_Deep), ("hallmark/fault.Tree", Rows.laid_hallmark_fault_Tree), ("hallmark/fault.Card", Rows.laid_hallmark_fault_Card), ("hallmark/fault.Mark", Rows.laid_hallmark_fault_Mark), ("hallmark/content.monthDays", Rows.laid_hallmark_content_monthDays), ("hallmark/schemas.ownNumbers", Rows.laid_hallmark_schemas_ownNumbers), ("unicode/utf8.first", Rows.laid_unicode_utf8_first)] := rfl
  refine laidMetH_of_parts ?_ (by kernel_rfl)
  rw [e0]
  exact laidMet_from args (by kernel_rfl) (by kernel_rfl)
end Go.Proofs.YtkkicodfpekbgaaGreatDoor

/-! hallmark.Check, hallmarklaw.Checks: what they answer. -/
namespace Go.Proofs.YtkkicodfpekbgaaGreatDoor
set_option linter.unusedSimpArgs false
set_option linter.unusedVariables false
open Go.RowKit

/-- What hallmark.Check answers. -/
def RetC (s : List Nd) (w : World) (e : Ending) (w' : World) : Prop := Below w.heap.size w w' ∧ ((e = .returned (.int .i64 0) ∧ RightP s) ∨ (e = .returned (.int .i64 1) ∧ ¬ RightP s))
theorem nm_za {sn : Sn → Addr} {za : Addr} (h : ∀ s : Sn, sn s ≠ za) : nm sn za = 1 := by
  unfold nm
  simp [fun s => (h s).symm]

set_option maxHeartbeats 1000000 in
set_option maxRecDepth 100000 in
theorem hcheck_any (s : List Nd) (a : Option Addr) (c : Nat) (w : World) (sn : Sn → Addr) (za : Addr) (hl : Lay w sn) (hz : LayZ w sn za) (hs : Sch w a s) (hok : SchOk s) (hn0 : s.length ≤ 140737488351232) :
    Calls Tryz.prog 14 #[.slice a s.length c] w fun e w' => RetC s w e w' := by
  have HC : Hid (Calls Tryz.prog 35 #[.slice a s.length c] w fun e w' => RetK s za w e w') := check_any s a c w sn za hl hz hs hok hn0
  have HN : Hid (∀ (p : Int) (wq : World), Below w.heap.size w wq → Calls Tryz.prog 34 #[fault p za] wq fun e w' => e = .returned (.int .i64 1) ∧ Below wq.heap.size wq w') := fun p wq q => by
    have := number_at p za wq sn (hl.below q).s (hz.below q).r
    rw [nm_za hz.d] at this
    exact this
  have H0 : Hid (∀ wq, Calls Tryz.prog 34 #[.nilIface] wq fun e w' => e = .returned (.int .i64 0) ∧ w' = wq) := fun wq => number_nil wq
  clear hl hz hs hok
  go_enter Tryz.func14, Tryz.ntmps14
  go_wp2_with fail
  refine HC.out.mono ?_
  rintro e w1 ⟨hb1, h1⟩
  have HB1 : Hid (Below w.heap.size w w1) := hb1
  clear hb1
  rcases h1 with ⟨rfl, hr⟩ | ⟨⟨p, rfl⟩, hr⟩
  · have HR : Hid (RightP s) := hr
    clear hr
    go_wp2_with fail
    refine (H0.out _).mono ?_
    rintro e w2 ⟨rfl, rfl⟩
    go_wp2
    go_ret
    exact ⟨HB1.out, .inl ⟨rfl, HR.out⟩⟩
  · have HR : Hid (¬ RightP s) := hr
    have HN2 := HN.out p w1 HB1.out
    have HN3 : Hid (Calls Tryz.prog 34 #[fault p za] w1 fun e w' => e = .returned (.int .i64 1) ∧ Below w1.heap.size w1 w') := HN2
    unfold fault at HN3 ⊢
    clear hr HN2
    go_wp2_with fail
    refine HN3.out.mono ?_
    rintro e w2 ⟨rfl, hb2⟩
    have HB2 : Hid (Below w.heap.size w w2) := HB1.out.trans (hb2.mono HB1.out.size)
    clear hb2
    go_wp2
    go_ret
    exact ⟨HB2.out, .inr ⟨rfl, HR.out⟩⟩

set_option maxHeartbeats 400000 in
theorem num_any (z : Int) (w : World) : Calls Tryz.prog 17 #[.int .i64 z] w fun e w' => e = .returned (.int .i64 z) ∧ w' = w := by
  go_enter Tryz.func17, Tryz.ntmps17
  go_wp2
  go_ret
  exact ⟨rfl, rfl⟩

set_option maxHeartbeats 1000000 in
set_option maxRecDepth 100000 in
theorem checks_any (s : List Nd) (a : Option Addr) (c : Nat) (w : World) (sn : Sn → Addr) (za : Addr) (hl : Lay w sn) (hz : LayZ w sn za) (hs : Sch w a s) (hok : SchOk s) (hn : s.length * 48 ≤ 140737488351232) (hkn : ∀ i, i < s.length → (nd s i).kids.length * 32 ≤ 140737488351232) :
    Calls Tryz.prog 3 #[.slice a s.length c] w fun e w' => e = .returned (.bool true) ∧ Below w.heap.size w w' := by
  have HCP : Hid (Calls Tryz.prog 13 #[.slice a s.length c] w fun e w' => ∃ vout, e = .returned vout ∧ CpW s w w' s.length vout) := copied_any s a c w hs hn hkn
  have HL : Hid (Lay w sn) := hl
  have HZ : Hid (LayZ w sn za) := hz
  have HS : Hid (Sch w a s) := hs
  have HOK : Hid (SchOk s) := hok
  have hn0 : s.length ≤ 140737488351232 := by omega
  have HNU : Hid (∀ (z : Int) (wq : World), Calls Tryz.prog 17 #[.int .i64 z] wq fun e w' => e = .returned (.int .i64 z) ∧ w' = wq) := num_any
  clear hl hz hs hok hkn
  go_enter Tryz.func3, Tryz.ntmps3
  go_wp2_with fail
  refine HCP.out.mono ?_
  rintro e w1 ⟨vout, rfl, hcp⟩
  have HB1 : Hid (Below w.heap.size w w1) := hcp.bel
  obtain ⟨a2, c2, rfl, hs2⟩ := hcp.sch
  have HS2 : Hid (Sch w1 a2 s) := hs2
  have HCK : Hid (Calls Tryz.prog 14 #[.slice a2 s.length c2] w1 fun e w' => RetC s w1 e w') := hcheck_any s a2 c2 w1 sn za (HL.out.below HB1.out) (HZ.out.below HB1.out) hs2 HOK.out hn0
  clear hcp hs2
  go_wp2_with fail
  refine HCK.out.mono ?_
  rintro e w2 ⟨hb2, h2⟩
  have HB2 : Hid (Below w1.heap.size w1 w2) := hb2
  have HB3 : Hid (Below w.heap.size w w2) := HB1.out.trans (hb2.mono HB1.out.size)
  have HRT : Hid (Calls Tryz.prog 15 #[.slice a s.length c] w2 fun e w' => RetO (RightP s) w2 e w') := right_any s a c w2 (HS.out.below HB3.out) HOK.out hn0
  clear hb2
  obtain ⟨z, r, rfl, hzr⟩ : ∃ (z : Int) (r : Bool), e = .returned (.int .i64 z) ∧ ((r = true ∧ z = 0 ∧ RightP s) ∨ (r = false ∧ z = 1 ∧ ¬ RightP s)) := by
    rcases h2 with ⟨rfl, h⟩ | ⟨rfl, h⟩
    · exact ⟨0, true, rfl, .inl ⟨rfl, rfl, h⟩⟩
    · exact ⟨1, false, rfl, .inr ⟨rfl, rfl, h⟩⟩
  clear h2
  go_wp2_with fail
  refine HRT.out.mono ?_
  rintro e w3 ⟨r', rfl, hr', hb3⟩
  have HB4 : Hid (Below w1.heap.size w1 w3) := HB2.out.trans (hb3.mono HB2.out.size)
  have HB5 : Hid (Below w.heap.size w w3) := HB3.out.trans (hb3.mono HB3.out.size)
  have HAL : Hid (Calls Tryz.prog 16 #[.slice a2 s.length c2, .slice a s.length c] w3 fun e w' => RetO True w3 e w') := alike_any s a2 a c2 c w3 (HS2.out.below HB4.out) (HS.out.below HB5.out) hn0
  have hrr : r' = r := by
    rcases hzr with ⟨rfl, _, h⟩ | ⟨rfl, _, h⟩
    · exact hr'.2 h
    · cases r'
      · rfl
      · exact absurd (hr'.1 rfl) h
  subst hrr
  have hz2 : (r' = true ∧ z = 0) ∨ (r' = false ∧ z = 1) := by
    rcases hzr with ⟨h1, h2, _⟩ | ⟨h1, h2, _⟩
    · exact .inl ⟨h1, h2⟩
    · exact .inr ⟨h1, h2⟩
  clear hb3 hr' hzr
  go_wp2_with fail
  refine HAL.out.mono ?_
  rintro e w4 ⟨r4, rfl, hr4, hb4⟩
  obtain rfl : r4 = true := hr4.2 trivial
  have HB6 : Hid (Below w.heap.size w w4) := HB5.out.trans (hb4.mono HB5.out.size)
  clear hb4 hr4
  rcases hz2 with ⟨rfl, rfl⟩ | ⟨rfl, rfl⟩
  · go_wp2
    go_ret
    exact ⟨rfl, HB6.out⟩
  · go_wp2_with fail
    refine (HNU.out _ _).mono ?_
    rintro e w5 ⟨rfl, rfl⟩
    go_wp2
    go_ret
    exact ⟨rfl, HB6.out⟩
end Go.Proofs.YtkkicodfpekbgaaGreatDoor

/-! hallmarklaw: Book.decode: what it answers. -/
namespace Go.Proofs.YtkkicodfpekbgaaGreatDoor
set_option linter.unusedSimpArgs false
set_option linter.unusedVariables false
open Go.RowKit

def vlsOf (v : Except (Int × Int) (List Vl)) : List Vl := match v with | .ok vs => vs | .error _ => []
def plOf (v : Except (Int × Int) (List Vl)) : Int := match v with | .ok _ => 0 | .error u => u.2
def nuOf (v : Except (Int × Int) (List Vl)) : Int := match v with | .ok _ => 0 | .error u => u.1
theorem RetDec.flat {v : Except (Int × Int) (List Vl)} {w : World} {e : Ending} {w' : World} (h : RetDec v w e w') : Below w.heap.size w w' ∧ ∃ ta tc, e = .returned (.tuple #[.slice ta (vlsOf v).length tc, .int .i64 (plOf v), .int .i64 (nuOf v)]) ∧
    w'.ownsRow w.heap.size 60 4 (.slice ta (vlsOf v).length tc) (vlsOf v).length (vcells (vlsOf v)) := by
  refine ⟨h.1, ?_⟩
  cases v with
  | error u => exact ⟨none, 0, h.2, World.ownsRow_nil _ _ _ _⟩
  | ok vs =>
    obtain ⟨ta, tc, h1, h2⟩ := h.2
    exact ⟨ta, tc, h1, h2⟩
theorem vls_len {E : Env} {s : List Nd} {root : Int} {d : ByteArray} {v : Except (Int × Int) (List Vl)} (h : DecV E s root d v) : (vlsOf v).length ≤ 400000 := by
  rcases h with ⟨_, rfl⟩ | ⟨_, _, rfl⟩ | ⟨⟨hr, h0, h1⟩, hd, rfl, rfl, hE, f, hf, hrd⟩
  · exact Nat.zero_le _
  · exact Nat.zero_le _
  · cases v with
    | error u => exact Nat.zero_le _
    | ok vs =>
      unfold readF at hrd
      rcases andThen_cases hrd with ⟨u, h2, h3⟩ | ⟨ws, z, h2, h3⟩
      · cases h3
      · have hl := rdF_len0 hr.fine (by omega) h2
        split at h3
        · cases h3
        · injection h3 with h3
          injection h3 with h3
          subst h3
          show ws.length ≤ 400000
          omega

set_option maxHeartbeats 1000000 in
set_option maxRecDepth 100000 in
theorem bdecode_any (s : List Nd) (a : Option Addr) (c : Nat) (root : Int) (d : ByteArray) (W w : World) (B : Nat) (L : List (Value × Nat × Int)) (nx : Int) (sn : Sn → Addr) (za : Addr) (hl : Lay W sn) (hz : LayZ W sn za) (het : EtC W) (hs : Sch W a s) (hok : SchOk s) (hn : s.length * 48 ≤ 140737488351232) (hkn : ∀ i, i < s.length → (nd s i).kids.length * 32 ≤ 140737488351232) (hdm : d.size ≤ 9223372036854775807)
    (hI : BkI W w B L nx) (hL : L.length ≤ 1099511627776) (hx1 : -1099511627776 ≤ nx) (hx2 : nx ≤ 0) :
    Calls Tryz.prog 18 #[.pointer (some ⟨B, 0, none⟩), .slice a s.length c, .int .i64 root, .string d] w fun e w' => e = .returned (.bool true) ∧ ∃ L', BkI W w' B L' (nx - 1) ∧ L'.length = L.length + 4 := by
  obtain ⟨E, v, hv⟩ := decV_ex s root d
  have hn0 : s.length ≤ 140737488351232 := by omega
  have hvl := vls_len hv
  have HCP : Hid (Calls Tryz.prog 13 #[.slice a s.length c] w fun e w' => ∃ vout, e = .returned vout ∧ CpW s w w' s.length vout) := copied_any s a c w (hs.below hI.bel) hn hkn
  have HD : Hid (∀ a2 c2 wq, Below W.heap.size W wq → Sch wq a2 s → Calls Tryz.prog 23 #[.slice a2 s.length c2, .int .i64 root, .string d] wq fun e w' => RetDec v wq e w') := fun a2 c2 wq hq hs2 => decode_any E s a2 c2 root d v wq sn za (hl.below hq) (hz.below hq) (het.below hq) hs2 hok hn0 hdm hv
  have HR : Hid (∀ wq, Below W.heap.size W wq → Calls Tryz.prog 40 #[.slice a s.length c, .int .i64 root, .string d] wq fun e w' => RetDec v wq e w') := fun wq hq => rDecode_any E s a c root d v wq (hs.below hq) hok hn0 hdm hv
  have HNU : Hid (∀ (z : Int) (wq : World), Calls Tryz.prog 17 #[.int .i64 z] wq fun e w' => e = .returned (.int .i64 z) ∧ w' = wq) := num_any
  have HI := hide hI
  have HS := hide hs
  obtain ⟨vs, hvs⟩ : ∃ vs, vlsOf v = vs := ⟨_, rfl⟩
  obtain ⟨pl, hpl⟩ : ∃ pl, plOf v = pl := ⟨_, rfl⟩
  obtain ⟨nu, hnu⟩ : ∃ nu, nuOf v = nu := ⟨_, rfl⟩
  have HVS := hide hvs
  have HPL := hide hpl
  have HNO := hide hnu
  rw [hvs] at hvl
  clear hl hz het hs hok hv hkn hI hvs hpl hnu
  go_enter Tryz.func18, Tryz.ntmps18
  go_wp2_with fail
  refine HCP.out.mono ?_
  rintro e w1 ⟨vout, rfl, hcp⟩
  have HB1 : Hid (Below w.heap.size w w1) := hcp.bel
  have HW1 : Hid (Below W.heap.size W w1) := HI.out.bel.trans (hcp.bel.mono HI.out.bel.size)
  obtain ⟨a2, c2, rfl, hs2⟩ := hcp.sch
  have HS2 := hide hs2
  clear hcp hs2
  go_wp2_with fail
  refine (HD.out a2 c2 w1 HW1.out HS2.out).mono ?_
  rintro e w2 hr2
  have hf2 := hr2.flat
  rw [HVS.out, HPL.out, HNO.out] at hf2
  obtain ⟨hb2, ta, tc, rfl, ho2⟩ := hf2
  have HB2 : Hid (Below w1.heap.size w1 w2) := hb2
  have HO2 := hide ho2
  clear hr2 hb2 ho2
  go_wp2_with fail
  refine (HR.out w2 (HW1.out.trans (HB2.out.mono HW1.out.size))).mono ?_
  rintro e w3 hr3
  have hf3 := hr3.flat
  rw [HVS.out, HPL.out, HNO.out] at hf3
  obtain ⟨hb3, tb, td, rfl, ho3⟩ := hf3
  have HB3 : Hid (Below w2.heap.size w2 w3) := hb3
  have HO3 := hide ho3
  clear hr3 hb3 ho3
  have HSM : Hid (Calls Tryz.prog 41 #[.slice ta vs.length tc, .slice tb vs.length td] w3 fun e w' => RetO True w3 e w') := same_any vs ta tb tc td w3 (VsIn.of_own (own_below HO2.out HB3.out)) (VsIn.of_own HO3.out) (by omega)
  go_wp2_with fail
  refine HSM.out.mono ?_
  rintro e w4 ⟨r4, rfl, hr4, hb4⟩
  obtain rfl : r4 = true := hr4.2 trivial
  have HB4 := hide hb4
  have HB14 : Hid (Below w1.heap.size w1 w4) := HB2.out.trans ((HB3.out.trans (hb4.mono HB3.out.size)).mono HB2.out.size)
  have HW4 : Hid (Below W.heap.size W w4) := HW1.out.trans (HB14.out.mono HW1.out.size)
  have HAL : Hid (Calls Tryz.prog 16 #[.slice a2 s.length c2, .slice a s.length c] w4 fun e w' => RetO True w4 e w') := alike_any s a2 a c2 c w4 (HS2.out.below HB14.out) (HS.out.below HW4.out) hn0
  clear hr4 hb4
  go_wp2_with fail
  refine HAL.out.mono ?_
  rintro e w5 ⟨r5, rfl, hr5, hb5⟩
  obtain rfl : r5 = true := hr5.2 trivial
  have HB25 : Hid (Below w2.heap.size w2 w5) := HB3.out.trans ((HB4.out.trans (hb5.mono HB4.out.size)).mono HB3.out.size)
  have HB05 : Hid (Below w.heap.size w w5) := HB1.out.trans ((HB2.out.trans (HB25.out.mono HB2.out.size)).mono HB1.out.size)
  have HOV : Hid (Calls Tryz.prog 42 #[.pointer (some ⟨B, 0, none⟩), .slice ta vs.length tc] w5 fun e w' => e = .returned (.tuple #[]) ∧ ∃ L', BkI W w' B L' (nx - 1) ∧ L'.length = L.length + 4) := ownsValues_any W w w5 B L nx ta tc vs.length (vcells vs) HI.out HB05.out (own_lower (own_below HO2.out HB25.out) HB1.out.size) (by omega) hL hx1 hx2
  clear hr5 hb5
  go_wp2_with fail
  refine HOV.out.mono ?_
  rintro e w6 ⟨rfl, hL6⟩
  have HL6 := hide hL6
  clear hL6
  go_wp2_with fail
  refine (HNU.out _ _).mono ?_
  rintro e w7 ⟨rfl, rfl⟩
  go_wp2
  go_ret
  exact ⟨rfl, HL6.out⟩
end Go.Proofs.YtkkicodfpekbgaaGreatDoor

/-! hallmarklaw.Decodes: what it answers. -/
namespace Go.Proofs.YtkkicodfpekbgaaGreatDoor
set_option linter.unusedSimpArgs false
set_option linter.unusedVariables false
open Go.RowKit

set_option maxHeartbeats 1000000 in
set_option maxRecDepth 100000 in
theorem decodes_any (s : List Nd) (a : Option Addr) (c : Nat) (root : Int) (da : Option Addr) (dn dc : Nat) (w : World) (sn : Sn → Addr) (za : Addr) (hl : Lay w sn) (hz : LayZ w sn za) (het : EtC w) (hs : Sch w a s) (hok : SchOk s) (hn : s.length * 48 ≤ 140737488351232) (hkn : ∀ i, i < s.length → (nd s i).kids.length * 32 ≤ 140737488351232)
    (hd : ∀ i, i < dn → ∃ b o z, da = some ⟨b, o, none⟩ ∧ w.cell? ⟨b, o + i, none⟩ = some (.string z) ∧ z.size ≤ 9223372036854775807) (hdn : dn ≤ 1048576) :
    Calls Tryz.prog 4 #[.slice a s.length c, .int .i64 root, .slice da dn dc] w fun e w' => e = .returned (.bool true) ∧ Below w.heap.size w w' := by
  have HD : Hid (∀ (d : ByteArray) (wq : World) (L : List (Value × Nat × Int)) (nx : Int), d.size ≤ 9223372036854775807 → BkI w wq w.heap.size L nx → L.length ≤ 1099511627776 → -1099511627776 ≤ nx → nx ≤ 0 →
      Calls Tryz.prog 18 #[.pointer (some ⟨w.heap.size, 0, none⟩), .slice a s.length c, .int .i64 root, .string d] wq fun e w' => e = .returned (.bool true) ∧ ∃ L', BkI w w' w.heap.size L' (nx - 1) ∧ L'.length = L.length + 4) := fun d wq L nx h1 h2 h3 h4 h5 => bdecode_any s a c root d w wq w.heap.size L nx sn za hl hz het hs hok hn hkn h1 h2 h3 h4 h5
  have HK : Hid (∀ (wq : World) (L : List (Value × Nat × Int)) (nx : Int), BkI w wq w.heap.size L nx → L.length ≤ 1099511627776 → Calls Tryz.prog 19 #[.pointer (some ⟨w.heap.size, 0, none⟩)] wq fun e w' => e = .returned (.bool true) ∧ Below wq.heap.size wq w') := fun wq L nx h1 h2 => looks_any w wq _ L nx h1 h2
  have HX := hide hd
  clear hl hz het hs hok hkn hd
  go_enter Tryz.func4, Tryz.ntmps4
  go_wp2
  go_loopw [8] (fun vi wr => ∃ (k : Nat) (L : List (Value × Nat × Int)), k ≤ dn ∧ vi = .int .i64 k ∧ L.length = k * 4 ∧ BkI w wr w.heap.size L (-(k : Int))) (fun vi _ => dn - (intOf vi).toNat)
  case atStart =>
    refine ⟨0, [], Nat.zero_le _, rfl, rfl, (Below.refl _ _).alloc (Nat.le_refl _) _, Nat.le_refl _, ⟨_, _, heap_alloc_new w _, World.ownsRow_nil _ _ _ _, World.ownsRow_nil _ _ _ _⟩, fun x hx => by cases hx⟩
  case round =>
    obtain ⟨k, L, hk, rfl, hLk, hI⟩ := hrel
    have HI := hide hI
    have hLb : L.length ≤ 1099511627776 := by omega
    have HLK := hide hLk
    clear hI hLk
    by_cases hlt : k < dn
    · have hlt' : (k : Int) < dn := by omega
      obtain ⟨b, o, z, rfl, hz0, hzs⟩ := HX.out k hlt
      have hz1 : wr.cell? ⟨b, o + k, none⟩ = some (.string z) := (HI.out.bel.cell (lt_of_cell hz0)).trans hz0
      clear hz0
      go_wp2_with fail
      refine (HD.out z _ L _ hzs (HI.out.below (Below.refl _ _)) hLb (by omega) (by omega)).mono ?_
      rintro e w2 ⟨rfl, L', hI2, hL2⟩
      have HI2 := hide hI2
      have HL2 := hide hL2
      have hLb2 : L'.length ≤ 1099511627776 := by have := HLK.out; omega
      clear hI2 hL2
      go_wp2_with fail
      refine (HK.out _ L' _ HI2.out hLb2).mono ?_
      rintro e w3 ⟨rfl, hb3⟩
      have HI3 := hide (HI2.out.below hb3)
      clear hb3
      go_wp2
      go_roundw
      case rel => exact ⟨k + 1, L', by omega, by go_num, by have := HLK.out; have := HL2.out; omega, by have := HI3.out; rwa [show -(k : Int) - 1 = -((k + 1 : Nat) : Int) by omega] at this⟩
      case measure => simp [intOf]; omega
    · have hlt' : (dn : Int) ≤ k := by omega
      go_wp2
      go_ret
      exact ⟨rfl, HI.out.bel⟩
end Go.Proofs.YtkkicodfpekbgaaGreatDoor
