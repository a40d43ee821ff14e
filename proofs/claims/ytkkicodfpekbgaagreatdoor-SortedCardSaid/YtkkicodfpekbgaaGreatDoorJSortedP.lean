/-
  Proved: for all lists of raw numbers that can be read as data, hallmarkkeep.Sorted answers true and leaves its argument as it was: a SetOf of texts of two bytes is taken, as a tree by hallmark.Encode and as bytes by hallmark.Decode, just if they stand in rising order, and otherwise both tell ErrOrder; its condition: the package's errors and tables lie as the program's text lays them (tied to that text; the table of unicode/utf8 by the form's constant), and the library's variable errors.errorType holds the handle of the type error.
-/
import Derived.Test.YtkkicodfpekbgaaGreatDoorJ11
import Derived.Test.YtkkicodfpekbgaaGreatDoorJ14
import Derived.Lib.SmallJoins
import Derived.SizedLaws
import Derived.SevenTiedAt
import Derived.ChangeSlices
import Derived.OpenShut
namespace Go.Proofs.YtkkicodfpekbgaaGreatDoor
set_option linter.unusedSimpArgs false
set_option linter.unusedVariables false
open Go.ChangeShapes Go.WideShapes Go.ChangeAt Go.WideMaps Go.WideElems Go.RowKit
set_option maxRecDepth 100000

theorem Tryz.cIo : Tryz.prog.cellsOf 3 = 1 := by kernel_rfl
theorem plain_addr2 {w : World} {a : Addr} {v : Value} (h : w.cell? a = some v) : a = ⟨a.block, a.off, none⟩ := by
  obtain ⟨b, o, sp⟩ := a
  cases sp with
  | none => rfl
  | some k =>
    unfold World.cell? at h
    simp only at h
    split at h
    · simp at h
    · cases h
theorem plain_plus2 (b o n : Nat) : (⟨b, o, none⟩ : Addr).add n = ⟨b, o + n, none⟩ := by unfold Addr.add; split <;> simp_all
section
variable {H : Type} {enc : TypeId × Value → H} {w : World} {base : Nat} {sp : Nat → Bool} {held : Bool}
theorem open_raw {fuel : Nat} {v : Value} {x : DataW H × List MemPlace} (h : DataW.trod enc Tryz.prog w base sp held fuel 32 [v] = some x) :
    ∃ (na : Option Addr) (nl nc : Nat), v = .slice na nl nc ∧ IntIn w na nl ∧ nl ≤ maxLen := by
  rcases open_ints Tryz.underlying32 Tryz.underlying3 Tryz.cIo h with ⟨e, _⟩ | ⟨a, len, cap, zs, e, _, hlc, hcm, hzl, _, hcell, hwf⟩
  · exact ⟨none, 0, 0, by simpa using e, fun i hi => absurd hi (Nat.not_lt_zero _), Nat.zero_le _⟩
  · refine ⟨some a, len, cap, by simpa using e, fun i hi => ?_, by omega⟩
    have hil : i < zs.length := by rw [hzl]; split <;> omega
    have q := hcell i hil
    have q0 := hcell 0 (by omega)
    have ea : a = ⟨a.block, a.off, none⟩ := plain_addr2 (w := w) (a := a) (by simpa [Addr.add] using q0)
    rw [ea, plain_plus2] at q
    have hb := bounds_i64 (hwf (zs.getD i 0) (by rw [List.getD_eq_getElem?_getD, List.getElem?_eq_getElem hil]; exact List.getElem_mem hil))
    exact ⟨a.block, a.off, _, congrArg some ea, q, by omega, by omega⟩
end

theorem sorted_lifted (os : Os) (started : os.Started) (H : Type) (enc : TypeId × Value → H) :
    ReturnsInHanded {} Tryz.checked os 8 .any (fun w args => (Rows.sortedSpec.pre enc Tryz.prog Tryz.f8 [] false w args ∧ laidMetH Tryz.prog [("unicode/utf8.acceptRanges", Rows.laid_unicode_utf8_acceptRanges), ("errors.errorType", Rows.laid_errors_errorType), ("hallmark/fault.Schema", Rows.laid_hallmark_fault_Schema), ("hallmark/fault.Long", Rows.laid_hallmark_fault_Long), ("hallmark/fault.End", Rows.laid_hallmark_fault_End), ("hallmark/fault.Tag", Rows.laid_hallmark_fault_Tag), ("hallmark/fault.Length", Rows.laid_hallmark_fault_Length), ("hallmark/fault.Value", Rows.laid_hallmark_fault_Value), ("hallmark/fault.More", Rows.laid_hallmark_fault_More), ("hallmark/fault.Order", Rows.laid_hallmark_fault_Order), ("hallmark/fault.Default", Rows.laid_hallmark_fault_Default), ("hallmark/fault.Deep", Rows.laid_hallmark_fault_Deep), ("hallmark/fault.Tree", Rows.laid_hallmark_fault_Tree), ("hallmark/fault.Card", Rows.laid_hallmark_fault_Card), ("hallmark/fault.Mark", Rows.laid_hallmark_fault_Mark), ("hallmark/content.monthDays", Rows.laid_hallmark_content_monthDays), ("hallmark/schemas.ownNumbers", Rows.laid_hallmark_schemas_ownNumbers), ("unicode/utf8.first", Rows.laid_unicode_utf8_first)] w) ∧ sizedMet enc Tryz.prog Tryz.f8 (OpenSpec.ofChange Rows.sortedSpec) false w args)
      (Rows.sortedSpec.post enc Tryz.prog Tryz.f8 false true false false) := by
  refine returnsInHanded_of_change_and (C := Tryz.checked) (X := fun w _ => laidMetH Tryz.prog [("unicode/utf8.acceptRanges", Rows.laid_unicode_utf8_acceptRanges), ("errors.errorType", Rows.laid_errors_errorType), ("hallmark/fault.Schema", Rows.laid_hallmark_fault_Schema), ("hallmark/fault.Long", Rows.laid_hallmark_fault_Long), ("hallmark/fault.End", Rows.laid_hallmark_fault_End), ("hallmark/fault.Tag", Rows.laid_hallmark_fault_Tag), ("hallmark/fault.Length", Rows.laid_hallmark_fault_Length), ("hallmark/fault.Value", Rows.laid_hallmark_fault_Value), ("hallmark/fault.More", Rows.laid_hallmark_fault_More), ("hallmark/fault.Order", Rows.laid_hallmark_fault_Order), ("hallmark/fault.Default", Rows.laid_hallmark_fault_Default), ("hallmark/fault.Deep", Rows.laid_hallmark_fault_Deep), ("hallmark/fault.Tree", Rows.laid_hallmark_fault_Tree), ("hallmark/fault.Card", Rows.laid_hallmark_fault_Card), ("hallmark/fault.Mark", Rows.laid_hallmark_fault_Mark), ("hallmark/content.monthDays", Rows.laid_hallmark_content_monthDays), ("hallmark/schemas.ownNumbers", Rows.laid_hallmark_schemas_ownNumbers), ("unicode/utf8.first", Rows.laid_unicode_utf8_first)] w) (fun _ _ _ hh h => h.of_heap hh) Tryz.own started (by kernel_rfl) Tryz.func8
    (ChangeSpec.witness_shaped (enc := enc) (C := Tryz.checked) (os := os) (X := fun w _ => laidMetH Tryz.prog [("unicode/utf8.acceptRanges", Rows.laid_unicode_utf8_acceptRanges), ("errors.errorType", Rows.laid_errors_errorType), ("hallmark/fault.Schema", Rows.laid_hallmark_fault_Schema), ("hallmark/fault.Long", Rows.laid_hallmark_fault_Long), ("hallmark/fault.End", Rows.laid_hallmark_fault_End), ("hallmark/fault.Tag", Rows.laid_hallmark_fault_Tag), ("hallmark/fault.Length", Rows.laid_hallmark_fault_Length), ("hallmark/fault.Value", Rows.laid_hallmark_fault_Value), ("hallmark/fault.More", Rows.laid_hallmark_fault_More), ("hallmark/fault.Order", Rows.laid_hallmark_fault_Order), ("hallmark/fault.Default", Rows.laid_hallmark_fault_Default), ("hallmark/fault.Deep", Rows.laid_hallmark_fault_Deep), ("hallmark/fault.Tree", Rows.laid_hallmark_fault_Tree), ("hallmark/fault.Card", Rows.laid_hallmark_fault_Card), ("hallmark/fault.Mark", Rows.laid_hallmark_fault_Mark), ("hallmark/content.monthDays", Rows.laid_hallmark_content_monthDays), ("hallmark/schemas.ownNumbers", Rows.laid_hallmark_schemas_ownNumbers), ("unicode/utf8.first", Rows.laid_unicode_utf8_first)] w) false ((withErr (World.holding Tryz.prog os ⟨#[], #[], []⟩)).layVars Tryz.prog [("unicode/utf8.acceptRanges", Rows.laid_unicode_utf8_acceptRanges), ("hallmark/fault.Schema", Rows.laid_hallmark_fault_Schema), ("hallmark/fault.Long", Rows.laid_hallmark_fault_Long), ("hallmark/fault.End", Rows.laid_hallmark_fault_End), ("hallmark/fault.Tag", Rows.laid_hallmark_fault_Tag), ("hallmark/fault.Length", Rows.laid_hallmark_fault_Length), ("hallmark/fault.Value", Rows.laid_hallmark_fault_Value), ("hallmark/fault.More", Rows.laid_hallmark_fault_More), ("hallmark/fault.Order", Rows.laid_hallmark_fault_Order), ("hallmark/fault.Default", Rows.laid_hallmark_fault_Default), ("hallmark/fault.Deep", Rows.laid_hallmark_fault_Deep), ("hallmark/fault.Tree", Rows.laid_hallmark_fault_Tree), ("hallmark/fault.Card", Rows.laid_hallmark_fault_Card), ("hallmark/fault.Mark", Rows.laid_hallmark_fault_Mark), ("hallmark/content.monthDays", Rows.laid_hallmark_content_monthDays), ("hallmark/schemas.ownNumbers", Rows.laid_hallmark_schemas_ownNumbers), ("unicode/utf8.first", Rows.laid_unicode_utf8_first)]) #[.slice none 0 0] 8 (World.layVars_os _ _ _) (World.shaped_of_ZipB (by kernel_rfl) (by kernel_rfl)) (by kernel_rfl) (by kernel_rfl) (by kernel_rfl) (met_decodes os _)) ?_
  intro W base args ds gs before hval0 hW _ hwt hL _
  have hW' := hW
  have hlt := hW.lt
  obtain ⟨p, q, hA0, hV, rfl, hfz, hnd⟩ := hW
  have hA : DataW.TrodAll enc Tryz.prog W 0 (fun _ => true) true Tryz.f8.params.toList args.toList ds p := hA0
  rw [Tryz.params8] at hA
  obtain ⟨v0, vs0, d0, ds0, p0, q0, hargs, rfl, rfl, h0, r0⟩ := trodAll_cons hA
  obtain ⟨rfl, rfl, rfl⟩ := trodAll_nil r0
  obtain ⟨rfl, rfl⟩ := trodVars_none hV
  obtain rfl : args = #[v0] := by rw [← Array.toArray_toList (xs := args), hargs]
  have hval : Value.okWide Tryz.prog W .any base 32 v0 := hval0 0 32 v0 (by rw [Tryz.params8]; rfl) rfl
  have h0' := h0
  obtain ⟨fuel, h2⟩ := h0'
  obtain ⟨na, nl, nc, es, hp, hnl⟩ : ∃ (na : Option Addr) (nl nc : Nat), v0 = .slice na nl nc ∧ IntIn W na nl ∧ nl ≤ maxLen := by
    obtain ⟨a, n, c, rfl⟩ := okWide_slice Tryz.underlying32 hval
    exact open_raw h2
  subst es
  obtain ⟨sn, za, hl, hz, het⟩ := lay_of_laid_decodes hL
  clear hA0 hval0 h2
  refine (sorted_any W na nl nc hp hnl sn za hl hz het).mono fun e W' ⟨he, hb⟩ => ?_
  subst he
  refine ⟨_, rfl, _, _, _, [], p0 ++ [], [], hW', ?_, ?_, ?_, hb.frame _, fun h => by cases h⟩
  · exact trodAll_mk1 (shut_bool Tryz.underlying4 true)
  · exact trodAll_cons_mk (Below.trod Tryz.laidOut (by kernel_rfl) (of_decide_eq_true (by kernel_rfl)) h0 hb (fun y hy => hlt y (by simp [hy]))) trodAll_mk0
  · rfl

set_option maxHeartbeats 40000000 in
/-- What is closed of the row: fact by fact, each a lemma of its own. -/
theorem sorted_closed : joinedFacts Tryz.prog 8 Tryz.f8 Rows.sortedSpec Rows.sortedRow = true := by
  unfold joinedFacts
  simp only [Bool.and_eq_true]
  repeat' apply And.intro
  all_goals as_aux_lemma => kernel_rfl

theorem sorted_said : Rows.SortedSaid :=
  OpenClaim.holds_of_wide 8 Tryz.f8 rfl rfl rfl rfl rfl rfl rfl ⟨rfl, rfl, rfl, rfl, rfl⟩ rfl rfl rfl rfl rfl (by kernel_rfl) Tryz.func8 sorted_closed
    (of_decide_eq_true (by kernel_rfl)) (by unfold Func.isWrapper; rw [if_neg (of_decide_eq_false (by kernel_rfl))]; exact ⟨rfl, rfl⟩)
    (fun os started H enc _ => sorted_lifted os started H enc)

theorem sorted_holds : Rows.SortedCardSaid :=
  Claim7.holds_tied_plain_at .later [] [.data, .handle, .sentinel, .sentinel, .sentinel, .sentinel, .sentinel, .sentinel, .sentinel, .sentinel, .sentinel, .sentinel, .sentinel, .sentinel, .sentinel, .data, .data, .pinned] true Rows.sortedCard.stood.harness true
    sorted_said (fun _ h => by cases h) (by kernel_rfl) (fun _ h => by cases h) sorted_row_tie rfl ⟨rfl, rfl⟩ (by kernel_rfl) rfl
    (fun f fn hf hfn => by
      obtain rfl : f = 8 := Option.some.inj ((show Tryz.prog.funcNamed "hallmark/hallmarkkeep.Sorted" = some 8 by kernel_rfl).symm.trans hf) |>.symm
      obtain rfl : fn = Tryz.f8 := (Option.some.inj (Tryz.func8.symm.trans hfn)).symm
      exact ⟨by kernel_rfl, fun j t ht => by
        rw [Tryz.params8] at ht
        have hm : t ∈ [32] := by simpa using Array.mem_of_getElem? ht
        have hall : ([32].all fun u => !Tryz.prog.wantsStandIn u) = true := by kernel_rfl
        exact (show Tryz.prog.wantsStandIn t = false by simpa using List.all_eq_true.1 hall t hm)⟩)
    (by kernel_rfl)
end Go.Proofs.YtkkicodfpekbgaaGreatDoor
