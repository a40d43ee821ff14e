/-
  Proved: for every schema that can be read as data, hallmarklaw.Checks answers true and leaves the schema as it was: hallmark.Check answers OK just if the schema is right by the document, else ErrSchema, and does not change it; its condition: the package's errors and tables lie as the program's text lays them (tied to that text; the table of unicode/utf8 by the form's constant).
-/
import Derived.Test.YtkkicodfpekbgaaGreatDoorJSez
import Derived.Test.YtkkicodfpekbgaaGreatDoorJ9
import Derived.Test.YtkkicodfpekbgaaGreatDoorJ3
import Derived.SevenTiedAt
namespace Go.Proofs.YtkkicodfpekbgaaGreatDoor
set_option linter.unusedSimpArgs false
set_option linter.unusedVariables false
open Go.ChangeShapes Go.WideShapes Go.ChangeAt Go.WideMaps Go.WideElems Go.RowKit
set_option maxRecDepth 100000

theorem checks_lifted (os : Os) (started : os.Started) (H : Type) (enc : TypeId × Value → H) :
    ReturnsInHanded {} Tryz.checked os 3 .any (fun w args => (Rows.checksSpec.pre enc Tryz.prog Tryz.f3 [] false w args ∧ laidMetH Tryz.prog [("unicode/utf8.acceptRanges", Rows.laid_unicode_utf8_acceptRanges), ("hallmark/fault.Schema", Rows.laid_hallmark_fault_Schema), ("hallmark/fault.Long", Rows.laid_hallmark_fault_Long), ("hallmark/fault.End", Rows.laid_hallmark_fault_End), ("hallmark/fault.Tag", Rows.laid_hallmark_fault_Tag), ("hallmark/fault.Length", Rows.laid_hallmark_fault_Length), ("hallmark/fault.Value", Rows.laid_hallmark_fault_Value), ("hallmark/fault.More", Rows.laid_hallmark_fault_More), ("hallmark/fault.Order", Rows.laid_hallmark_fault_Order), ("hallmark/fault.Default", Rows.laid_hallmark_fault_Default), ("hallmark/fault.Deep", Rows.laid_hallmark_fault_Deep), ("hallmark/fault.Tree", Rows.laid_hallmark_fault_Tree), ("hallmark/fault.Card", Rows.laid_hallmark_fault_Card), ("hallmark/fault.Mark", Rows.laid_hallmark_fault_Mark), ("hallmark/content.monthDays", Rows.laid_hallmark_content_monthDays), ("hallmark/schemas.ownNumbers", Rows.laid_hallmark_schemas_ownNumbers), ("unicode/utf8.first", Rows.laid_unicode_utf8_first)] w) ∧ sizedMet enc Tryz.prog Tryz.f3 (OpenSpec.ofChange Rows.checksSpec) false w args)
      (Rows.checksSpec.post enc Tryz.prog Tryz.f3 false true false false) := by
  refine returnsInHanded_of_change_and (C := Tryz.checked) (X := fun w _ => laidMetH Tryz.prog [("unicode/utf8.acceptRanges", Rows.laid_unicode_utf8_acceptRanges), ("hallmark/fault.Schema", Rows.laid_hallmark_fault_Schema), ("hallmark/fault.Long", Rows.laid_hallmark_fault_Long), ("hallmark/fault.End", Rows.laid_hallmark_fault_End), ("hallmark/fault.Tag", Rows.laid_hallmark_fault_Tag), ("hallmark/fault.Length", Rows.laid_hallmark_fault_Length), ("hallmark/fault.Value", Rows.laid_hallmark_fault_Value), ("hallmark/fault.More", Rows.laid_hallmark_fault_More), ("hallmark/fault.Order", Rows.laid_hallmark_fault_Order), ("hallmark/fault.Default", Rows.laid_hallmark_fault_Default), ("hallmark/fault.Deep", Rows.laid_hallmark_fault_Deep), ("hallmark/fault.Tree", Rows.laid_hallmark_fault_Tree), ("hallmark/fault.Card", Rows.laid_hallmark_fault_Card), ("hallmark/fault.Mark", Rows.laid_hallmark_fault_Mark), ("hallmark/content.monthDays", Rows.laid_hallmark_content_monthDays), ("hallmark/schemas.ownNumbers", Rows.laid_hallmark_schemas_ownNumbers), ("unicode/utf8.first", Rows.laid_unicode_utf8_first)] w) (fun _ _ _ hh h => h.of_heap hh) Tryz.own started (by kernel_rfl) Tryz.func3
    (ChangeSpec.witness_shaped (enc := enc) (C := Tryz.checked) (os := os) (X := fun w _ => laidMetH Tryz.prog [("unicode/utf8.acceptRanges", Rows.laid_unicode_utf8_acceptRanges), ("hallmark/fault.Schema", Rows.laid_hallmark_fault_Schema), ("hallmark/fault.Long", Rows.laid_hallmark_fault_Long), ("hallmark/fault.End", Rows.laid_hallmark_fault_End), ("hallmark/fault.Tag", Rows.laid_hallmark_fault_Tag), ("hallmark/fault.Length", Rows.laid_hallmark_fault_Length), ("hallmark/fault.Value", Rows.laid_hallmark_fault_Value), ("hallmark/fault.More", Rows.laid_hallmark_fault_More), ("hallmark/fault.Order", Rows.laid_hallmark_fault_Order), ("hallmark/fault.Default", Rows.laid_hallmark_fault_Default), ("hallmark/fault.Deep", Rows.laid_hallmark_fault_Deep), ("hallmark/fault.Tree", Rows.laid_hallmark_fault_Tree), ("hallmark/fault.Card", Rows.laid_hallmark_fault_Card), ("hallmark/fault.Mark", Rows.laid_hallmark_fault_Mark), ("hallmark/content.monthDays", Rows.laid_hallmark_content_monthDays), ("hallmark/schemas.ownNumbers", Rows.laid_hallmark_schemas_ownNumbers), ("unicode/utf8.first", Rows.laid_unicode_utf8_first)] w) false (World.laidAll Tryz.prog os [("unicode/utf8.acceptRanges", Rows.laid_unicode_utf8_acceptRanges), ("hallmark/fault.Schema", Rows.laid_hallmark_fault_Schema), ("hallmark/fault.Long", Rows.laid_hallmark_fault_Long), ("hallmark/fault.End", Rows.laid_hallmark_fault_End), ("hallmark/fault.Tag", Rows.laid_hallmark_fault_Tag), ("hallmark/fault.Length", Rows.laid_hallmark_fault_Length), ("hallmark/fault.Value", Rows.laid_hallmark_fault_Value), ("hallmark/fault.More", Rows.laid_hallmark_fault_More), ("hallmark/fault.Order", Rows.laid_hallmark_fault_Order), ("hallmark/fault.Default", Rows.laid_hallmark_fault_Default), ("hallmark/fault.Deep", Rows.laid_hallmark_fault_Deep), ("hallmark/fault.Tree", Rows.laid_hallmark_fault_Tree), ("hallmark/fault.Card", Rows.laid_hallmark_fault_Card), ("hallmark/fault.Mark", Rows.laid_hallmark_fault_Mark), ("hallmark/content.monthDays", Rows.laid_hallmark_content_monthDays), ("hallmark/schemas.ownNumbers", Rows.laid_hallmark_schemas_ownNumbers), ("unicode/utf8.first", Rows.laid_unicode_utf8_first)]) #[.slice none 0 0] 8 (World.laidAll_os _ _ _) (World.shaped_of_ZipB (by kernel_rfl) (by kernel_rfl)) (by kernel_rfl) (by kernel_rfl) (by kernel_rfl) (met_checks os _)) ?_
  intro W base args ds gs before hval0 hW _ hwt hL _
  have hval : ∀ (j : Nat) t v, Tryz.f3.params[j]? = some t → args[j]? = some v → Value.okWide Tryz.prog W .any base t v := hval0
  have hW' := hW
  have hlt := hW.lt
  obtain ⟨p, q, hA0, hV, rfl, hfz, hnd⟩ := hW
  have hA : DataW.TrodAll enc Tryz.prog W 0 (fun _ => true) true Tryz.f3.params.toList args.toList ds p := hA0
  have hwt' : (DataW.weightsEach Tryz.prog (Tryz.f3.params.toList ++ Rows.checksSpec.plain.varTypes Tryz.prog) (ds ++ gs)).all (· ≤ reachBytes) = true := hwt
  rw [Tryz.params3] at hA hval hwt'
  obtain ⟨v0, d0, rfl, rfl, h0⟩ := trodAll_one hA
  obtain ⟨rfl, rfl⟩ := trodVars_none hV
  obtain ⟨a0, l0, c0, e0⟩ := okWide_slice Tryz.underlying22 (hval 0 22 v0 rfl rfl)
  subst e0
  have h0' := h0
  obtain ⟨fuel, h1⟩ := h0'
  obtain ⟨a, s, c, es, _, _, hs, hfit⟩ := open_schema h1
  obtain ⟨rfl, rfl, rfl⟩ : a0 = a ∧ l0 = s.length ∧ c0 = c := by simpa [Value.cells] using es
  obtain ⟨sn, za, hl, hz⟩ := lay_of_laid_checks hL
  have hF : Fits s := hfit fun n hn => by
    have h2 := List.all_eq_true.1 hwt' n (by simp [DataW.weightsEach, hn])
    have h3 : n ≤ reachBytes := of_decide_eq_true h2
    unfold reachBytes at h3
    omega
  clear hA0 hval0 h1
  refine (checks_any s a0 c0 W sn za hl hz hs hF.ok hF.len hF.kids).mono fun e W' ⟨he, hb⟩ => ?_
  subst he
  refine ⟨_, rfl, _, _, _, [], p, [], hW', ?_, ?_, ?_, hb.frame _, fun h => by cases h⟩
  · exact trodAll_mk1 (shut_bool Tryz.underlying4 true)
  · exact trodAll_mk1 (Below.trod Tryz.laidOut (by kernel_rfl) (of_decide_eq_true (by kernel_rfl)) h0 hb (fun y hy => hlt y (by simp [hy])))
  · rfl

theorem checks_said : Rows.ChecksSaid :=
  OpenClaim.holds_of_wide 3 Tryz.f3 rfl rfl rfl rfl rfl rfl rfl ⟨rfl, rfl, rfl, rfl, rfl⟩ rfl rfl rfl rfl rfl (by kernel_rfl) Tryz.func3 (by kernel_rfl)
    (of_decide_eq_true (by kernel_rfl)) (by unfold Func.isWrapper; rw [if_neg (of_decide_eq_false (by kernel_rfl))]; exact ⟨rfl, rfl⟩)
    (fun os started H enc _ => checks_lifted os started H enc)

theorem checks_holds : Rows.ChecksCardSaid :=
  Claim7.holds_tied_plain_at .later [] [.data, .sentinel, .sentinel, .sentinel, .sentinel, .sentinel, .sentinel, .sentinel, .sentinel, .sentinel, .sentinel, .sentinel, .sentinel, .sentinel, .data, .data, .pinned] true Rows.checksCard.stood.harness true
    checks_said (fun _ h => by cases h) (by kernel_rfl) (fun _ h => by cases h) checks_row_tie rfl ⟨rfl, rfl⟩ (by kernel_rfl) rfl
    (fun f fn hf hfn => by
      obtain rfl : f = 3 := Option.some.inj ((show Tryz.prog.funcNamed "hallmark/hallmarklaw.Checks" = some 3 by kernel_rfl).symm.trans hf) |>.symm
      obtain rfl : fn = Tryz.f3 := (Option.some.inj (Tryz.func3.symm.trans hfn)).symm
      exact ⟨by kernel_rfl, fun j t ht => by
        rw [Tryz.params3] at ht
        have hm : t ∈ [22] := by simpa using Array.mem_of_getElem? ht
        have hall : ([22].all fun u => !Tryz.prog.wantsStandIn u) = true := by kernel_rfl
        exact (show Tryz.prog.wantsStandIn t = false by simpa using List.all_eq_true.1 hall t hm)⟩)
    (by kernel_rfl)
end Go.Proofs.YtkkicodfpekbgaaGreatDoor
