/-
  Proved: for all plans and numbers that can be read as data, hallmarkkeep.Refused answers true and leaves its arguments as they were: a right card in which one thing is not as it must be is refused by hallmark.WriteCard, with ErrCard or, where it is a mark, with ErrMark; its condition: the package's errors and tables lie as the program's text lays them (tied to that text; the table of unicode/utf8 by the form's constant).
-/
import Derived.Test.YtkkicodfpekbgaaGreatDoorJSez
import Derived.Test.YtkkicodfpekbgaaGreatDoorJ5
import Derived.Test.YtkkicodfpekbgaaGreatDoorJMr
import Derived.Test.YtkkicodfpekbgaaGreatDoorJ2
import Derived.Lib.SmallJoins
import Derived.SizedLaws
import Derived.SevenTiedAt
namespace Go.Proofs.YtkkicodfpekbgaaGreatDoor
set_option linter.unusedSimpArgs false
set_option linter.unusedVariables false
open Go.ChangeShapes Go.WideShapes Go.ChangeAt Go.WideMaps Go.WideElems Go.RowKit
set_option maxRecDepth 100000

theorem refused_lifted (os : Os) (started : os.Started) (H : Type) (enc : TypeId × Value → H) :
    ReturnsInHanded {} Tryz.checked os 11 .any (fun w args => (Rows.refusedSpec.pre enc Tryz.prog Tryz.f11 [] false w args ∧ laidMetH Tryz.prog [("unicode/utf8.acceptRanges", Rows.laid_unicode_utf8_acceptRanges), ("hallmark/fault.Schema", Rows.laid_hallmark_fault_Schema), ("hallmark/fault.Long", Rows.laid_hallmark_fault_Long), ("hallmark/fault.End", Rows.laid_hallmark_fault_End), ("hallmark/fault.Tag", Rows.laid_hallmark_fault_Tag), ("hallmark/fault.Length", Rows.laid_hallmark_fault_Length), ("hallmark/fault.Value", Rows.laid_hallmark_fault_Value), ("hallmark/fault.More", Rows.laid_hallmark_fault_More), ("hallmark/fault.Order", Rows.laid_hallmark_fault_Order), ("hallmark/fault.Default", Rows.laid_hallmark_fault_Default), ("hallmark/fault.Deep", Rows.laid_hallmark_fault_Deep), ("hallmark/fault.Tree", Rows.laid_hallmark_fault_Tree), ("hallmark/fault.Card", Rows.laid_hallmark_fault_Card), ("hallmark/fault.Mark", Rows.laid_hallmark_fault_Mark), ("hallmark/content.monthDays", Rows.laid_hallmark_content_monthDays), ("hallmark/schemas.ownNumbers", Rows.laid_hallmark_schemas_ownNumbers), ("unicode/utf8.first", Rows.laid_unicode_utf8_first)] w) ∧ sizedMet enc Tryz.prog Tryz.f11 (OpenSpec.ofChange Rows.refusedSpec) false w args)
      (Rows.refusedSpec.post enc Tryz.prog Tryz.f11 false true false false) := by
  refine returnsInHanded_of_change_and (C := Tryz.checked) (X := fun w _ => laidMetH Tryz.prog [("unicode/utf8.acceptRanges", Rows.laid_unicode_utf8_acceptRanges), ("hallmark/fault.Schema", Rows.laid_hallmark_fault_Schema), ("hallmark/fault.Long", Rows.laid_hallmark_fault_Long), ("hallmark/fault.End", Rows.laid_hallmark_fault_End), ("hallmark/fault.Tag", Rows.laid_hallmark_fault_Tag), ("hallmark/fault.Length", Rows.laid_hallmark_fault_Length), ("hallmark/fault.Value", Rows.laid_hallmark_fault_Value), ("hallmark/fault.More", Rows.laid_hallmark_fault_More), ("hallmark/fault.Order", Rows.laid_hallmark_fault_Order), ("hallmark/fault.Default", Rows.laid_hallmark_fault_Default), ("hallmark/fault.Deep", Rows.laid_hallmark_fault_Deep), ("hallmark/fault.Tree", Rows.laid_hallmark_fault_Tree), ("hallmark/fault.Card", Rows.laid_hallmark_fault_Card), ("hallmark/fault.Mark", Rows.laid_hallmark_fault_Mark), ("hallmark/content.monthDays", Rows.laid_hallmark_content_monthDays), ("hallmark/schemas.ownNumbers", Rows.laid_hallmark_schemas_ownNumbers), ("unicode/utf8.first", Rows.laid_unicode_utf8_first)] w) (fun _ _ _ hh h => h.of_heap hh) Tryz.own started (by kernel_rfl) Tryz.func11
    (ChangeSpec.witness_shaped (enc := enc) (C := Tryz.checked) (os := os) (X := fun w _ => laidMetH Tryz.prog [("unicode/utf8.acceptRanges", Rows.laid_unicode_utf8_acceptRanges), ("hallmark/fault.Schema", Rows.laid_hallmark_fault_Schema), ("hallmark/fault.Long", Rows.laid_hallmark_fault_Long), ("hallmark/fault.End", Rows.laid_hallmark_fault_End), ("hallmark/fault.Tag", Rows.laid_hallmark_fault_Tag), ("hallmark/fault.Length", Rows.laid_hallmark_fault_Length), ("hallmark/fault.Value", Rows.laid_hallmark_fault_Value), ("hallmark/fault.More", Rows.laid_hallmark_fault_More), ("hallmark/fault.Order", Rows.laid_hallmark_fault_Order), ("hallmark/fault.Default", Rows.laid_hallmark_fault_Default), ("hallmark/fault.Deep", Rows.laid_hallmark_fault_Deep), ("hallmark/fault.Tree", Rows.laid_hallmark_fault_Tree), ("hallmark/fault.Card", Rows.laid_hallmark_fault_Card), ("hallmark/fault.Mark", Rows.laid_hallmark_fault_Mark), ("hallmark/content.monthDays", Rows.laid_hallmark_content_monthDays), ("hallmark/schemas.ownNumbers", Rows.laid_hallmark_schemas_ownNumbers), ("unicode/utf8.first", Rows.laid_unicode_utf8_first)] w) false (World.laidAll Tryz.prog os [("unicode/utf8.acceptRanges", Rows.laid_unicode_utf8_acceptRanges), ("hallmark/fault.Schema", Rows.laid_hallmark_fault_Schema), ("hallmark/fault.Long", Rows.laid_hallmark_fault_Long), ("hallmark/fault.End", Rows.laid_hallmark_fault_End), ("hallmark/fault.Tag", Rows.laid_hallmark_fault_Tag), ("hallmark/fault.Length", Rows.laid_hallmark_fault_Length), ("hallmark/fault.Value", Rows.laid_hallmark_fault_Value), ("hallmark/fault.More", Rows.laid_hallmark_fault_More), ("hallmark/fault.Order", Rows.laid_hallmark_fault_Order), ("hallmark/fault.Default", Rows.laid_hallmark_fault_Default), ("hallmark/fault.Deep", Rows.laid_hallmark_fault_Deep), ("hallmark/fault.Tree", Rows.laid_hallmark_fault_Tree), ("hallmark/fault.Card", Rows.laid_hallmark_fault_Card), ("hallmark/fault.Mark", Rows.laid_hallmark_fault_Mark), ("hallmark/content.monthDays", Rows.laid_hallmark_content_monthDays), ("hallmark/schemas.ownNumbers", Rows.laid_hallmark_schemas_ownNumbers), ("unicode/utf8.first", Rows.laid_unicode_utf8_first)]) #[.agg #[.slice none 0 0, .slice none 0 0], .int .i64 0] 8 (World.laidAll_os _ _ _) (World.shaped_of_ZipB (by kernel_rfl) (by kernel_rfl)) (by kernel_rfl) (by kernel_rfl) (by kernel_rfl) (met_refused os _)) ?_
  intro W base args ds gs before hval0 hW _ hwt hL _
  have hval : ∀ (j : Nat) t v, Tryz.f11.params[j]? = some t → args[j]? = some v → Value.okWide Tryz.prog W .any base t v := hval0
  have hW' := hW
  have hlt := hW.lt
  obtain ⟨p, q, hA0, hV, rfl, hfz, hnd⟩ := hW
  have hA : DataW.TrodAll enc Tryz.prog W 0 (fun _ => true) true Tryz.f11.params.toList args.toList ds p := hA0
  rw [Tryz.params11] at hA hval
  obtain ⟨v0, vs0, d0, ds0, p0, q0, hargs, rfl, rfl, h0, r0⟩ := trodAll_cons hA
  obtain ⟨v1, vs1, d1, ds1, p1, q1, rfl, rfl, rfl, h1, r1⟩ := trodAll_cons r0
  obtain ⟨rfl, rfl, rfl⟩ := trodAll_nil r1
  obtain ⟨rfl, rfl⟩ := trodVars_none hV
  obtain rfl : args = #[v0, v1] := by rw [← Array.toArray_toList (xs := args), hargs]
  obtain ⟨c, ec, _, _, wc⟩ := open_int Tryz.underlying3 (hval 1 3 v1 rfl rfl) h1
  subst ec
  obtain ⟨cs, rfl, _⟩ := okWide_struct Tryz.underlying42 (hval 0 42 v0 rfl rfl)
  have h0' := h0
  obtain ⟨fuel, h2⟩ := h0'
  obtain ⟨l⟩ := cs
  obtain ⟨na, ta, nl, nc, tl, tc, es, hp⟩ := open_plan h2
  have el : l = [.slice na nl nc, .slice ta tl tc] := by simpa [Value.cells] using es
  subst el
  obtain ⟨sn, za, hl, hz⟩ := lay_of_laid_refused hL
  have bc := bounds_i64 wc
  clear hA0 hval0 h2 es
  refine (refused_any W na ta nl nc tl tc c sn hl hp bc.1 bc.2 fun wq q => card_any wq na ta nl nc tl tc q).mono fun e W' ⟨he, hb⟩ => ?_
  subst he
  refine ⟨_, rfl, _, _, _, [], p0 ++ (p1 ++ []), [], hW', ?_, ?_, ?_, hb.frame _, fun h => by cases h⟩
  · exact trodAll_mk1 (shut_bool Tryz.underlying4 true)
  · exact trodAll_cons_mk (Below.trod Tryz.laidOut (by kernel_rfl) (of_decide_eq_true (by kernel_rfl)) h0 hb (fun y hy => hlt y (by simp [hy])))
      (trodAll_cons_mk (Below.trod Tryz.laidOut (by kernel_rfl) (of_decide_eq_true (by kernel_rfl)) h1 hb (fun y hy => hlt y (by simp [hy]))) trodAll_mk0)
  · rfl

theorem refused_said : Rows.RefusedSaid :=
  OpenClaim.holds_of_wide 11 Tryz.f11 rfl rfl rfl rfl rfl rfl rfl ⟨rfl, rfl, rfl, rfl, rfl⟩ rfl rfl rfl rfl rfl (by kernel_rfl) Tryz.func11 (by kernel_rfl)
    (of_decide_eq_true (by kernel_rfl)) (by unfold Func.isWrapper; rw [if_neg (of_decide_eq_false (by kernel_rfl))]; exact ⟨rfl, rfl⟩)
    (fun os started H enc _ => refused_lifted os started H enc)

theorem refused_holds : Rows.RefusedCardSaid :=
  Claim7.holds_tied_plain_at .later [] [.data, .sentinel, .sentinel, .sentinel, .sentinel, .sentinel, .sentinel, .sentinel, .sentinel, .sentinel, .sentinel, .sentinel, .sentinel, .sentinel, .data, .data, .pinned] true Rows.refusedCard.stood.harness true
    refused_said (fun _ h => by cases h) (by kernel_rfl) (fun _ h => by cases h) refused_row_tie rfl ⟨rfl, rfl⟩ (by kernel_rfl) rfl
    (fun f fn hf hfn => by
      obtain rfl : f = 11 := Option.some.inj ((show Tryz.prog.funcNamed "hallmark/hallmarkkeep.Refused" = some 11 by kernel_rfl).symm.trans hf) |>.symm
      obtain rfl : fn = Tryz.f11 := (Option.some.inj (Tryz.func11.symm.trans hfn)).symm
      exact ⟨by kernel_rfl, fun j t ht => by
        rw [Tryz.params11] at ht
        have hm : t ∈ [42, 3] := by simpa using Array.mem_of_getElem? ht
        have hall : ([42, 3].all fun u => !Tryz.prog.wantsStandIn u) = true := by kernel_rfl
        exact (show Tryz.prog.wantsStandIn t = false by simpa using List.all_eq_true.1 hall t hm)⟩)
    (by kernel_rfl)
end Go.Proofs.YtkkicodfpekbgaaGreatDoor
