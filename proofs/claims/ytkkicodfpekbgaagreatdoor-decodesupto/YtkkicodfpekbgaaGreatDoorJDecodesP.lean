/-
  Proved: for every schema, root and list of texts that can be read as data and that hold together at most 1048576 values and letters, hallmarklaw.Decodes answers true and leaves its arguments as they were: hallmark.Decode answers of each text what the document's Decode answers (the tree, the place, the error), leaves the schema as it was, and its lists are the caller's own; its condition: the package's errors and tables lie as the program's text lays them (tied to that text; the table of unicode/utf8 by the form's constant).
-/
import Derived.Test.YtkkicodfpekbgaaGreatDoorJ11
import Derived.Test.YtkkicodfpekbgaaGreatDoorJ3
import Derived.SliceStrings
import Derived.SizedLaws
import Derived.SevenTiedAt
import Derived.Deep.DeepHandedRow
namespace Go.Proofs.YtkkicodfpekbgaaGreatDoor
set_option linter.unusedSimpArgs false
set_option linter.unusedVariables false
open Go.ChangeShapes Go.WideShapes Go.ChangeAt Go.WideMaps Go.WideElems Go.RowKit
set_option maxRecDepth 100000

theorem bulk_part {H : Type} {d : DataW H} {l : List (DataW H)} (h : d ∈ l) : Rows.uptoBulk d ≤ Rows.uptoBulkAll l := by
  induction l with
  | nil => cases h
  | cons x r ih =>
    simp only [Rows.uptoBulkAll]
    rcases List.mem_cons.1 h with rfl | e
    · omega
    · have := ih e; omega
theorem bulk_one {H : Type} (d : DataW H) : 1 ≤ Rows.uptoBulk d := by
  cases d with
  | lit l => cases l <;> simp [Rows.uptoBulk]
  | _ => simp [Rows.uptoBulk]
theorem bulk_len {H : Type} (l : List (DataW H)) : l.length ≤ Rows.uptoBulkAll l := by
  induction l with
  | nil => simp [Rows.uptoBulkAll]
  | cons x r ih => have := bulk_one x; simp only [Rows.uptoBulkAll, List.length_cons]; omega
theorem bulk_slice {H : Type} (l r : List (DataW H)) : l.length ≤ Rows.uptoBulk (.slice l r) := by
  have := bulk_len l
  simp only [Rows.uptoBulk]
  omega
theorem Tryz.cSd : Tryz.prog.cellsOf 9 = 1 := by kernel_rfl
section
variable {H : Type} {enc : TypeId × Value → H} {w : World} {base : Nat} {sp : Nat → Bool} {held : Bool}
theorem open_datas {fuel : Nat} {cs : List Value} {x : DataW H × List MemPlace} (h : DataW.trod enc Tryz.prog w base sp held fuel 29 cs = some x) :
    ∃ (a : Option Addr) (n c : Nat), cs = [.slice a n c] ∧ (∀ i, i < n → ∃ b o z, a = some ⟨b, o, none⟩ ∧ w.cell? ⟨b, o + i, none⟩ = some (.string z) ∧ z.size ≤ 9223372036854775807) ∧ n ≤ Rows.uptoBulk x.1 := by
  rcases open_strings Tryz.underlying29 Tryz.underlying9 Tryz.cSd h with ⟨e, hx⟩ | ⟨a, len, cap, zs, e, _, hlc, hcm, hzl, hx, hcell, hwf⟩
  · exact ⟨none, 0, 0, by simpa using e, fun i hi => absurd hi (Nat.not_lt_zero _), Nat.zero_le _⟩
  · have hll : len ≤ zs.length := by rw [hzl]; split <;> omega
    refine ⟨some a, len, cap, by simpa using e, fun i hi => ?_, ?_⟩
    · have hil : i < zs.length := by omega
      have q := hcell i hil
      have q0 := hcell 0 (by omega)
      have ea : a = ⟨a.block, a.off, none⟩ := spot_none (w := w) (a := a) (by simpa [Addr.add] using q0)
      rw [ea, plain_add] at q
      have hb := hwf (zs.getD i ByteArray.empty) (by rw [List.getD_eq_getElem?_getD, List.getElem?_eq_getElem hil]; exact List.getElem_mem hil)
      unfold maxLen at hb
      exact ⟨a.block, a.off, _, congrArg some ea, q, by omega⟩
    · rw [hx]
      have := bulk_slice (strs (H := H) (zs.take len)) (strs (zs.drop len))
      have hl : (strs (H := H) (zs.take len)).length = len := by simp [strs]; omega
      simp only
      omega
end

theorem decodes_contract (H : Type) (enc : TypeId × Value → H) (W : World) (base : Nat) (args : Array Value) (ds gs : List (DataW H)) (before : List MemPlace)
    (hval : ∀ (j : Nat) t v, Tryz.f4.params[j]? = some t → args[j]? = some v → Value.okWide Tryz.prog W .any base t v)
    (hW : DataW.Whole enc Tryz.prog Tryz.f4.params.toList Rows.decodesSpec.vars false W args.toList ds gs before)
    (hk : Rows.uptoSmall H (ds ++ gs) = true)
    (hwt : (DataW.weightsEach Tryz.prog (Tryz.f4.params.toList ++ Rows.decodesSpec.plain.varTypes Tryz.prog) (ds ++ gs)).all (· ≤ reachBytes) = true)
    (hL : laidMetH Tryz.prog [("unicode/utf8.acceptRanges", Rows.laid_unicode_utf8_acceptRanges), ("errors.errorType", Rows.laid_errors_errorType), ("hallmark/fault.Schema", Rows.laid_hallmark_fault_Schema), ("hallmark/fault.Long", Rows.laid_hallmark_fault_Long), ("hallmark/fault.End", Rows.laid_hallmark_fault_End), ("hallmark/fault.Tag", Rows.laid_hallmark_fault_Tag), ("hallmark/fault.Length", Rows.laid_hallmark_fault_Length), ("hallmark/fault.Value", Rows.laid_hallmark_fault_Value), ("hallmark/fault.More", Rows.laid_hallmark_fault_More), ("hallmark/fault.Order", Rows.laid_hallmark_fault_Order), ("hallmark/fault.Default", Rows.laid_hallmark_fault_Default), ("hallmark/fault.Deep", Rows.laid_hallmark_fault_Deep), ("hallmark/fault.Tree", Rows.laid_hallmark_fault_Tree), ("hallmark/fault.Card", Rows.laid_hallmark_fault_Card), ("hallmark/fault.Mark", Rows.laid_hallmark_fault_Mark), ("hallmark/content.monthDays", Rows.laid_hallmark_content_monthDays), ("hallmark/schemas.ownNumbers", Rows.laid_hallmark_schemas_ownNumbers), ("unicode/utf8.first", Rows.laid_unicode_utf8_first)] W) :
    Calls Tryz.prog 4 args W fun e W' => ∃ v, e = .returned v ∧ Rows.decodesSpec.post enc Tryz.prog Tryz.f4 false true false false W args v W' := by
  have hW' := hW
  have hlt := hW.lt
  obtain ⟨p, q, hA0, hV, rfl, hfz, hnd⟩ := hW
  have hA : DataW.TrodAll enc Tryz.prog W 0 (fun _ => true) true Tryz.f4.params.toList args.toList ds p := hA0
  rw [Tryz.params4] at hA hval hwt
  obtain ⟨v0, vs0, d0, ds0, p0, q0, hargs, rfl, rfl, h0, r0⟩ := trodAll_cons hA
  obtain ⟨v1, vs1, d1, ds1, p1, q1, rfl, rfl, rfl, h1, r1⟩ := trodAll_cons r0
  obtain ⟨v2, vs2, d2, ds2, p2, q2, rfl, rfl, rfl, h2, r2⟩ := trodAll_cons r1
  obtain ⟨rfl, rfl, rfl⟩ := trodAll_nil r2
  obtain ⟨rfl, rfl⟩ := trodVars_none hV
  obtain rfl : args = #[v0, v1, v2] := by rw [← Array.toArray_toList (xs := args), hargs]
  obtain ⟨root, ec, _, _, wc⟩ := open_int Tryz.underlying3 (hval 1 3 v1 rfl rfl) h1
  subst ec
  obtain ⟨a0, l0, c0, e0⟩ := okWide_slice Tryz.underlying22 (hval 0 22 v0 rfl rfl)
  obtain ⟨a2, l2, c2, e2⟩ := okWide_slice Tryz.underlying29 (hval 2 29 v2 rfl rfl)
  subst e0 e2
  have h0' := h0
  have h2' := h2
  obtain ⟨fuel0, g0⟩ := h0'
  obtain ⟨fuel2, g2⟩ := h2'
  obtain ⟨a, s, c, es, _, _, hs, hfit⟩ := open_schema g0
  obtain ⟨rfl, rfl, rfl⟩ : a0 = a ∧ l0 = s.length ∧ c0 = c := by simpa [Value.cells] using es
  obtain ⟨da, dn, dc, ed, hd, hdn⟩ := open_datas g2
  obtain ⟨rfl, rfl, rfl⟩ : a2 = da ∧ l2 = dn ∧ c2 = dc := by simpa [Value.cells] using ed
  obtain ⟨sn, za, hl, hz, het⟩ := lay_of_laid_decodes hL
  have hF : Fits s := hfit fun n hn => by
    have h3 := List.all_eq_true.1 hwt n (by simp [DataW.weightsEach, hn])
    have h4 : n ≤ reachBytes := of_decide_eq_true h3
    unfold reachBytes at h4
    omega
  have hbn : l2 ≤ 1048576 := by
    have hb := of_decide_eq_true hk
    have := bulk_part (d := d2) (l := [d0, d1, d2] ++ []) (by simp)
    have h5 : l2 ≤ Rows.uptoBulk d2 := hdn
    omega
  clear hA0 g0 g2
  refine (decodes_any s a0 c0 root a2 l2 c2 W sn za hl hz het hs hF.ok hF.len hF.kids hd hbn).mono fun e W' ⟨he, hb⟩ => ?_
  subst he
  refine ⟨_, rfl, _, _, _, [], p0 ++ (p1 ++ (p2 ++ [])), [], hW', ?_, ?_, ?_, hb.frame _, fun h => by cases h⟩
  · exact trodAll_mk1 (shut_bool Tryz.underlying4 true)
  · exact trodAll_cons_mk (Below.trod Tryz.laidOut (by kernel_rfl) (of_decide_eq_true (by kernel_rfl)) h0 hb (fun y hy => hlt y (by simp [hy])))
      (trodAll_cons_mk (Below.trod Tryz.laidOut (by kernel_rfl) (of_decide_eq_true (by kernel_rfl)) h1 hb (fun y hy => hlt y (by simp [hy])))
        (trodAll_cons_mk (Below.trod Tryz.laidOut (by kernel_rfl) (of_decide_eq_true (by kernel_rfl)) h2 hb (fun y hy => hlt y (by simp [hy]))) trodAll_mk0))
  · rfl

theorem decodes_reads (os : Os) {H : Type} (enc : TypeId × Value → H) : ∃ places, DataW.whole enc Tryz.prog (((withErr (World.holding Tryz.prog os ⟨#[], #[], []⟩)).layVars Tryz.prog [("unicode/utf8.acceptRanges", Rows.laid_unicode_utf8_acceptRanges), ("hallmark/fault.Schema", Rows.laid_hallmark_fault_Schema), ("hallmark/fault.Long", Rows.laid_hallmark_fault_Long), ("hallmark/fault.End", Rows.laid_hallmark_fault_End), ("hallmark/fault.Tag", Rows.laid_hallmark_fault_Tag), ("hallmark/fault.Length", Rows.laid_hallmark_fault_Length), ("hallmark/fault.Value", Rows.laid_hallmark_fault_Value), ("hallmark/fault.More", Rows.laid_hallmark_fault_More), ("hallmark/fault.Order", Rows.laid_hallmark_fault_Order), ("hallmark/fault.Default", Rows.laid_hallmark_fault_Default), ("hallmark/fault.Deep", Rows.laid_hallmark_fault_Deep), ("hallmark/fault.Tree", Rows.laid_hallmark_fault_Tree), ("hallmark/fault.Card", Rows.laid_hallmark_fault_Card), ("hallmark/fault.Mark", Rows.laid_hallmark_fault_Mark), ("hallmark/content.monthDays", Rows.laid_hallmark_content_monthDays), ("hallmark/schemas.ownNumbers", Rows.laid_hallmark_schemas_ownNumbers), ("unicode/utf8.first", Rows.laid_unicode_utf8_first)]).forCall (fun _ _ => 0) ⟨#[], #[.slice none 0 0, .int .i64 0, .slice none 0 0], []⟩).memory Tryz.f4.params.toList Rows.decodesSpec.vars false #[Value.slice none 0 0, .int .i64 0, .slice none 0 0].toList 8 = some ([.nil, .lit (.int .i64 0), .nil], [], places) :=
  ⟨[], by kernel_rfl⟩

theorem decodes_lifted (os : Os) (started : os.Started) (H : Type) (enc : TypeId × Value → H) (F : Stop.Interp) :
    ReturnsInHanded {} Tryz.checked os 4 .any ((Rows.OpenSpec.upto Rows.decodesSpec).preRow enc Tryz.prog Tryz.f4 Rows.decodesUptoRow.domain false Rows.decodesUptoRow.laid) (((Rows.OpenSpec.upto Rows.decodesSpec).at F).post enc Tryz.prog Tryz.f4 false true false false) := by
  obtain ⟨places, hx⟩ := decodes_reads os enc
  have hok : Input.okWideB Tryz.prog (((withErr (World.holding Tryz.prog os ⟨#[], #[], []⟩)).layVars Tryz.prog [("unicode/utf8.acceptRanges", Rows.laid_unicode_utf8_acceptRanges), ("hallmark/fault.Schema", Rows.laid_hallmark_fault_Schema), ("hallmark/fault.Long", Rows.laid_hallmark_fault_Long), ("hallmark/fault.End", Rows.laid_hallmark_fault_End), ("hallmark/fault.Tag", Rows.laid_hallmark_fault_Tag), ("hallmark/fault.Length", Rows.laid_hallmark_fault_Length), ("hallmark/fault.Value", Rows.laid_hallmark_fault_Value), ("hallmark/fault.More", Rows.laid_hallmark_fault_More), ("hallmark/fault.Order", Rows.laid_hallmark_fault_Order), ("hallmark/fault.Default", Rows.laid_hallmark_fault_Default), ("hallmark/fault.Deep", Rows.laid_hallmark_fault_Deep), ("hallmark/fault.Tree", Rows.laid_hallmark_fault_Tree), ("hallmark/fault.Card", Rows.laid_hallmark_fault_Card), ("hallmark/fault.Mark", Rows.laid_hallmark_fault_Mark), ("hallmark/content.monthDays", Rows.laid_hallmark_content_monthDays), ("hallmark/schemas.ownNumbers", Rows.laid_hallmark_schemas_ownNumbers), ("unicode/utf8.first", Rows.laid_unicode_utf8_first)]).forCall (fun _ _ => 0) ⟨#[], #[.slice none 0 0, .int .i64 0, .slice none 0 0], []⟩) 4 ⟨#[], #[.slice none 0 0, .int .i64 0, .slice none 0 0], []⟩ = true := by kernel_rfl
  refine returnsInHanded_of_row (C := Tryz.checked) (s := Rows.OpenSpec.upto Rows.decodesSpec) Tryz.own started (by kernel_rfl) Tryz.func4
    ⟨(withErr (World.holding Tryz.prog os ⟨#[], #[], []⟩)).layVars Tryz.prog [("unicode/utf8.acceptRanges", Rows.laid_unicode_utf8_acceptRanges), ("hallmark/fault.Schema", Rows.laid_hallmark_fault_Schema), ("hallmark/fault.Long", Rows.laid_hallmark_fault_Long), ("hallmark/fault.End", Rows.laid_hallmark_fault_End), ("hallmark/fault.Tag", Rows.laid_hallmark_fault_Tag), ("hallmark/fault.Length", Rows.laid_hallmark_fault_Length), ("hallmark/fault.Value", Rows.laid_hallmark_fault_Value), ("hallmark/fault.More", Rows.laid_hallmark_fault_More), ("hallmark/fault.Order", Rows.laid_hallmark_fault_Order), ("hallmark/fault.Default", Rows.laid_hallmark_fault_Default), ("hallmark/fault.Deep", Rows.laid_hallmark_fault_Deep), ("hallmark/fault.Tree", Rows.laid_hallmark_fault_Tree), ("hallmark/fault.Card", Rows.laid_hallmark_fault_Card), ("hallmark/fault.Mark", Rows.laid_hallmark_fault_Mark), ("hallmark/content.monthDays", Rows.laid_hallmark_content_monthDays), ("hallmark/schemas.ownNumbers", Rows.laid_hallmark_schemas_ownNumbers), ("unicode/utf8.first", Rows.laid_unicode_utf8_first)], fun _ _ => 0, ⟨#[], #[.slice none 0 0, .int .i64 0, .slice none 0 0], []⟩, World.layVars_os _ _ _, World.shaped_of_ZipB (by kernel_rfl) (by kernel_rfl),
      (Input.okWide_of_okWideB (base := 0) hok).1, (Input.okWide_of_okWideB hok).2, OpenSpec.preRow_of_cond 8 hx (by kernel_rfl) (fun k hk => by cases hk; kernel_rfl) (by kernel_rfl) (met_decodes os _), by
        simp only [Assume.holds]
        exact ⟨by simp, by simp, fun _ => Modest.zero, by simp, by simp⟩⟩ ?_
  intro W base args ds gs before hval hW _ hcond hwt hL _ _
  exact decodes_contract H enc W base args ds gs before hval hW (hcond _ rfl) hwt hL

theorem decodes_said : Rows.DecodesUptoSaid :=
  OpenClaim.holds_of_cond 4 Tryz.f4 rfl rfl rfl rfl rfl rfl rfl ⟨rfl, rfl, rfl, rfl, rfl⟩ rfl rfl rfl rfl rfl (by kernel_rfl) Tryz.func4 (by kernel_rfl)
    (of_decide_eq_true (by kernel_rfl)) (by unfold Func.isWrapper; rw [if_neg (of_decide_eq_false (by kernel_rfl))]; exact ⟨rfl, rfl⟩)
    (fun os started H enc _ F => by rw [OpenClaim.pre_eq_preRow]; exact decodes_lifted os started H enc F)

theorem decodes_holds : Rows.DecodesUptoCardSaid :=
  Claim7.holds_tied_plain_at .later [] _ _ _ _
    decodes_said (fun _ h => by cases h) (by kernel_rfl) (fun _ h => by cases h) decodesUpto_row_tie rfl ⟨rfl, rfl⟩ (by kernel_rfl) rfl
    (fun f fn hf hfn => by
      obtain rfl : f = 4 := Option.some.inj ((show Tryz.prog.funcNamed "hallmark/hallmarklaw.Decodes" = some 4 by kernel_rfl).symm.trans hf) |>.symm
      obtain rfl : fn = Tryz.f4 := (Option.some.inj (Tryz.func4.symm.trans hfn)).symm
      exact ⟨by kernel_rfl, fun j t ht => by
        rw [Tryz.params4] at ht
        have hm : t ∈ [22, 3, 29] := by simpa using Array.mem_of_getElem? ht
        have hall : ([22, 3, 29].all fun u => !Tryz.prog.wantsStandIn u) = true := by kernel_rfl
        exact (show Tryz.prog.wantsStandIn t = false by simpa using List.all_eq_true.1 hall t hm)⟩)
    (by kernel_rfl)
end Go.Proofs.YtkkicodfpekbgaaGreatDoor
