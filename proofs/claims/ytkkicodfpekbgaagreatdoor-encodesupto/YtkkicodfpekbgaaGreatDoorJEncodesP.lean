/-
  Proved: for every schema, root and list of values that can be read as data and that hold together at most 1048576 values and letters, hallmarklaw.Encodes answers true and leaves its arguments as they were: hallmark.Encode answers what the document's Encode answers (the bytes, the error), and leaves the schema and the list as they were; its condition: the package's errors and tables lie as the program's text lays them (tied to that text; the table of unicode/utf8 by the form's constant).
-/
import Derived.Test.YtkkicodfpekbgaaGreatDoorJSez
import Derived.Test.YtkkicodfpekbgaaGreatDoorJ16
import Derived.Test.YtkkicodfpekbgaaGreatDoorJ7
import Derived.SizedLaws
import Derived.SevenTiedAt
import Derived.Deep.DeepHandedRow
namespace Go.Proofs.YtkkicodfpekbgaaGreatDoor
set_option linter.unusedSimpArgs false
set_option linter.unusedVariables false
open Go.ChangeShapes Go.WideShapes Go.ChangeAt Go.WideMaps Go.WideElems Go.RowKit Go.Deep
set_option maxRecDepth 100000

theorem bulk_partE {H : Type} {d : DataW H} {l : List (DataW H)} (h : d ∈ l) : Rows.uptoBulk d ≤ Rows.uptoBulkAll l := by
  induction l with
  | nil => cases h
  | cons x r ih =>
    simp only [Rows.uptoBulkAll]
    rcases List.mem_cons.1 h with rfl | e
    · omega
    · have := ih e; omega
theorem Tryz.cV : Tryz.prog.cellsOf 60 = 4 := by kernel_rfl
theorem bulk_vals {H : Type} (V : Nat → Vl) (D : Nat → DataW H) : ∀ l : List Nat, (∀ i ∈ l, (V i).text.size + 5 ≤ Rows.uptoBulk (D i)) → ((l.map V).map (·.text.size)).sum + 5 * l.length ≤ Rows.uptoBulkAll (l.map D)
  | [], _ => by simp [Rows.uptoBulkAll]
  | i :: l, h => by
    have h1 := bulk_vals V D l fun j hj => h j (List.mem_cons_of_mem _ hj)
    have h2 := h i (List.mem_cons_self ..)
    simp only [List.map_cons, List.sum_cons, List.length_cons, Rows.uptoBulkAll]
    omega
section
variable {H : Type} {enc : TypeId × Value → H} {w : World} {base : Nat} {sp : Nat → Bool} {held : Bool}
theorem open_val {fuel : Nat} {cs : List Value} {x : DataW H × List MemPlace} (h : DataW.trod enc Tryz.prog w base sp held fuel 60 cs = some x) :
    ∃ v : Vl, cs = [.int .i64 v.kind, .string v.text, .int .i64 v.alt, .int .i64 v.kids] ∧ v.kids ≤ 9223372036854775807 ∧ v.text.size + 5 ≤ Rows.uptoBulk x.1 := by
  obtain ⟨xs, n, _, hx, hl, hlen, hel⟩ := DataW.trod_struct Tryz.underlying60 h
  rw [Tryz.cV] at hl
  match cs, hl, xs, hlen, hx, hel with
  | [c0, c1, c2, c3], _, [x0, x1, x2, x3], _, hx, hel =>
    have k0 := hel 0 _ rfl
    have k1 := hel 1 _ rfl
    have k2 := hel 2 _ rfl
    have k3 := hel 3 _ rfl
    obtain ⟨y0, e0, f0, _⟩ := DataW.trod_int Tryz.underlying3 k0
    obtain ⟨y1, e1, f1, _⟩ := DataW.trod_string Tryz.underlying9 k1
    obtain ⟨y2, e2, f2, _⟩ := DataW.trod_int Tryz.underlying3 k2
    obtain ⟨y3, e3, f3, g3⟩ := DataW.trod_int Tryz.underlying3 k3
    simp [Tryz.cI, Tryz.cS] at e0 e1 e2 e3
    subst e0 e1 e2 e3
    refine ⟨⟨y0, y1, y2, y3⟩, rfl, ?_, ?_⟩
    · exact (bounds_i64 g3).2
    · rw [hx]
      have hl1 : y1.data.toList.length = y1.size := Array.length_toList
      simp only [List.map_cons, List.map_nil, Rows.uptoBulk, Rows.uptoBulkAll, f0, f1, f2, f3]
      omega
theorem open_tree {fuel : Nat} {cs : List Value} {x : DataW H × List MemPlace} (h : DataW.trod enc Tryz.prog w base sp held fuel 39 cs = some x) :
    ∃ (ta : Option Addr) (t : List Vl) (tc : Nat), cs = [.slice ta t.length tc] ∧ t.length ≤ tc ∧ TreeIn w ta t ∧ (∀ j, j < t.length → (vl t j).kids ≤ 9223372036854775807) ∧ pz t t.length ≤ 2 * Rows.uptoBulk x.1 := by
  rcases open_slice Tryz.underlying39 h with ⟨rfl, rfl⟩ | ⟨a, len, cap, m, n, D, Pl, rfl, hb, hl, hm, hmm, rfl, hx⟩
  · exact ⟨none, [], 0, rfl, Nat.le_refl _, fun j hj => absurd hj (Nat.not_lt_zero _), fun j hj => absurd hj (Nat.not_lt_zero _), Nat.zero_le _⟩
  have hlm : len ≤ m := by rw [hmm]; split <;> omega
  rw [Tryz.cV] at hx
  have each : ∀ i, i < len → ∃ v : Vl, w.cell? (a.add (i * 4)) = some (.int .i64 v.kind) ∧ w.cell? (a.add (i * 4 + 1)) = some (.string v.text) ∧ w.cell? (a.add (i * 4 + 2)) = some (.int .i64 v.alt) ∧ w.cell? (a.add (i * 4 + 3)) = some (.int .i64 v.kids) ∧ v.kids ≤ 9223372036854775807 ∧ v.text.size + 5 ≤ Rows.uptoBulk (D i) := by
    intro i hi
    obtain ⟨cs', h1, h2⟩ := hx i (by omega)
    obtain ⟨v, rfl, hk, hv⟩ := open_val h2
    obtain ⟨_, _, hcell⟩ := World.cells?_some h1
    have e0 := hcell 0 (by omega)
    have e1 := hcell 1 (by omega)
    have e2 := hcell 2 (by omega)
    have e3 := hcell 3 (by omega)
    rw [add_add] at e0 e1 e2 e3
    exact ⟨v, by simpa using e0, by simpa using e1, by simpa using e2, by simpa using e3, hk, hv⟩
  obtain ⟨V, hV⟩ := @choose_lt Vl ⟨⟨0, noB, 0, 0⟩⟩ _ _ each
  have hlen : ((List.range len).map V).length = len := by simp
  have hget : ∀ j, j < len → vl ((List.range len).map V) j = V j := fun j hj => by unfold vl; exact getD_map_range V _ hj
  refine ⟨some a, (List.range len).map V, cap, by rw [hlen], by rw [hlen]; exact hl, fun j hj => ?_, fun j hj => ?_, ?_⟩
  · rw [hlen] at hj
    have h0 := (hV 0 (by omega)).1
    have ea : a = ⟨a.block, a.off, none⟩ := spot_none (w := w) (a := a) (v := .int .i64 (V 0).kind) (by simpa [Addr.add] using h0)
    obtain ⟨q0, q1, q2, q3, _⟩ := hV j hj
    rw [ea, plain_add] at q0 q1 q2 q3
    rw [hget j hj]
    exact ⟨a.block, a.off, congrArg some ea, q0, by rw [← Nat.add_assoc] at q1; exact q1, by rw [← Nat.add_assoc] at q2; exact q2, by rw [← Nat.add_assoc] at q3; exact q3⟩
  · rw [hlen] at hj
    rw [hget j hj]
    exact (hV j hj).2.2.2.2.1
  · have hb1 := bulk_vals V D (List.range len) fun i hi => (hV i (List.mem_range.1 hi)).2.2.2.2.2
    unfold pz
    rw [List.take_length]
    simp only [List.length_range] at hb1
    simp only [Rows.uptoBulk, hlen]
    omega
end

theorem encodes_contract (H : Type) (enc : TypeId × Value → H) (W : World) (base : Nat) (args : Array Value) (ds gs : List (DataW H)) (before : List MemPlace)
    (hval : ∀ (j : Nat) t v, Tryz.f5.params[j]? = some t → args[j]? = some v → Value.okWide Tryz.prog W .any base t v)
    (hW : DataW.Whole enc Tryz.prog Tryz.f5.params.toList Rows.encodesSpec.vars false W args.toList ds gs before)
    (hk : Rows.uptoSmall H (ds ++ gs) = true)
    (hwt : (DataW.weightsEach Tryz.prog (Tryz.f5.params.toList ++ Rows.encodesSpec.plain.varTypes Tryz.prog) (ds ++ gs)).all (· ≤ reachBytes) = true)
    (hL : laidMetH Tryz.prog [("unicode/utf8.acceptRanges", Rows.laid_unicode_utf8_acceptRanges), ("hallmark/fault.Schema", Rows.laid_hallmark_fault_Schema), ("hallmark/fault.Long", Rows.laid_hallmark_fault_Long), ("hallmark/fault.End", Rows.laid_hallmark_fault_End), ("hallmark/fault.Tag", Rows.laid_hallmark_fault_Tag), ("hallmark/fault.Length", Rows.laid_hallmark_fault_Length), ("hallmark/fault.Value", Rows.laid_hallmark_fault_Value), ("hallmark/fault.More", Rows.laid_hallmark_fault_More), ("hallmark/fault.Order", Rows.laid_hallmark_fault_Order), ("hallmark/fault.Default", Rows.laid_hallmark_fault_Default), ("hallmark/fault.Deep", Rows.laid_hallmark_fault_Deep), ("hallmark/fault.Tree", Rows.laid_hallmark_fault_Tree), ("hallmark/fault.Card", Rows.laid_hallmark_fault_Card), ("hallmark/fault.Mark", Rows.laid_hallmark_fault_Mark), ("hallmark/content.monthDays", Rows.laid_hallmark_content_monthDays), ("hallmark/schemas.ownNumbers", Rows.laid_hallmark_schemas_ownNumbers), ("unicode/utf8.first", Rows.laid_unicode_utf8_first)] W) :
    Calls Tryz.prog 5 args W fun e W' => ∃ v, e = .returned v ∧ Rows.encodesSpec.post enc Tryz.prog Tryz.f5 false true false false W args v W' := by
  have hW' := hW
  have hlt := hW.lt
  obtain ⟨p, q, hA0, hV, rfl, hfz, hnd⟩ := hW
  have hA : DataW.TrodAll enc Tryz.prog W 0 (fun _ => true) true Tryz.f5.params.toList args.toList ds p := hA0
  rw [Tryz.params5] at hA hval hwt
  obtain ⟨v0, vs0, d0, ds0, p0, q0, hargs, rfl, rfl, h0, r0⟩ := trodAll_cons hA
  obtain ⟨v1, vs1, d1, ds1, p1, q1, rfl, rfl, rfl, h1, r1⟩ := trodAll_cons r0
  obtain ⟨v2, vs2, d2, ds2, p2, q2, rfl, rfl, rfl, h2, r2⟩ := trodAll_cons r1
  obtain ⟨rfl, rfl, rfl⟩ := trodAll_nil r2
  obtain ⟨rfl, rfl⟩ := trodVars_none hV
  obtain rfl : args = #[v0, v1, v2] := by rw [← Array.toArray_toList (xs := args), hargs]
  obtain ⟨root, ec, _, _, wc⟩ := open_int Tryz.underlying3 (hval 1 3 v1 rfl rfl) h1
  subst ec
  obtain ⟨a0, l0, c0, e0⟩ := okWide_slice Tryz.underlying22 (hval 0 22 v0 rfl rfl)
  obtain ⟨a2, l2, c2, e2⟩ := okWide_slice Tryz.underlying39 (hval 2 39 v2 rfl rfl)
  subst e0 e2
  have h0' := h0
  have h2' := h2
  obtain ⟨fuel0, g0⟩ := h0'
  obtain ⟨fuel2, g2⟩ := h2'
  obtain ⟨a, s, c, es, _, _, hs, hfit⟩ := open_schema g0
  obtain ⟨rfl, rfl, rfl⟩ : a0 = a ∧ l0 = s.length ∧ c0 = c := by simpa [Value.cells] using es
  obtain ⟨ta, t, tc, ed, htc, ht, hkd, hpz⟩ := open_tree g2
  obtain ⟨rfl, rfl, rfl⟩ : a2 = ta ∧ l2 = t.length ∧ c2 = tc := by simpa [Value.cells] using ed
  obtain ⟨sn, za, hl, hz⟩ := lay_of_laid_checks hL
  have hF : Fits s := hfit fun n hn => by
    have h3 := List.all_eq_true.1 hwt n (by simp [DataW.weightsEach, hn])
    have h4 : n ≤ reachBytes := of_decide_eq_true h3
    unfold reachBytes at h4
    omega
  have hpz' : pz t t.length ≤ 16777000 := by
    have hb := of_decide_eq_true hk
    have := bulk_partE (d := d2) (l := [d0, d1, d2] ++ []) (by simp)
    have h5 : pz t t.length ≤ 2 * Rows.uptoBulk d2 := hpz
    omega
  clear hA0 g0 g2
  refine (encodes_any s a0 c0 root t a2 c2 W sn za hl hz hs hF.ok hF.len hF.kids ht htc hpz' hkd).mono fun e W' ⟨he, hb⟩ => ?_
  subst he
  refine ⟨_, rfl, _, _, _, [], p0 ++ (p1 ++ (p2 ++ [])), [], hW', ?_, ?_, ?_, hb.frame _, fun h => by cases h⟩
  · exact trodAll_mk1 (shut_bool Tryz.underlying4 true)
  · exact trodAll_cons_mk (Below.trod Tryz.laidOut (by kernel_rfl) (of_decide_eq_true (by kernel_rfl)) h0 hb (fun y hy => hlt y (by simp [hy])))
      (trodAll_cons_mk (Below.trod Tryz.laidOut (by kernel_rfl) (of_decide_eq_true (by kernel_rfl)) h1 hb (fun y hy => hlt y (by simp [hy])))
        (trodAll_cons_mk (Below.trod Tryz.laidOut (by kernel_rfl) (of_decide_eq_true (by kernel_rfl)) h2 hb (fun y hy => hlt y (by simp [hy]))) trodAll_mk0))
  · rfl

theorem encodes_reads (os : Os) {H : Type} (enc : TypeId × Value → H) : ∃ places, DataW.whole enc Tryz.prog (((World.holding Tryz.prog os ⟨#[], #[], []⟩).layVars Tryz.prog [("unicode/utf8.acceptRanges", Rows.laid_unicode_utf8_acceptRanges), ("hallmark/fault.Schema", Rows.laid_hallmark_fault_Schema), ("hallmark/fault.Long", Rows.laid_hallmark_fault_Long), ("hallmark/fault.End", Rows.laid_hallmark_fault_End), ("hallmark/fault.Tag", Rows.laid_hallmark_fault_Tag), ("hallmark/fault.Length", Rows.laid_hallmark_fault_Length), ("hallmark/fault.Value", Rows.laid_hallmark_fault_Value), ("hallmark/fault.More", Rows.laid_hallmark_fault_More), ("hallmark/fault.Order", Rows.laid_hallmark_fault_Order), ("hallmark/fault.Default", Rows.laid_hallmark_fault_Default), ("hallmark/fault.Deep", Rows.laid_hallmark_fault_Deep), ("hallmark/fault.Tree", Rows.laid_hallmark_fault_Tree), ("hallmark/fault.Card", Rows.laid_hallmark_fault_Card), ("hallmark/fault.Mark", Rows.laid_hallmark_fault_Mark), ("hallmark/content.monthDays", Rows.laid_hallmark_content_monthDays), ("hallmark/schemas.ownNumbers", Rows.laid_hallmark_schemas_ownNumbers), ("unicode/utf8.first", Rows.laid_unicode_utf8_first)]).forCall (fun _ _ => 0) ⟨#[], #[.slice none 0 0, .int .i64 0, .slice none 0 0], []⟩).memory Tryz.f5.params.toList Rows.encodesSpec.vars false #[Value.slice none 0 0, .int .i64 0, .slice none 0 0].toList 8 = some ([.nil, .lit (.int .i64 0), .nil], [], places) :=
  ⟨[], by kernel_rfl⟩

theorem encodes_lifted (os : Os) (started : os.Started) (H : Type) (enc : TypeId × Value → H) (F : Stop.Interp) :
    ReturnsInHanded {} Tryz.checked os 5 .any ((Rows.OpenSpec.upto Rows.encodesSpec).preRow enc Tryz.prog Tryz.f5 Rows.encodesUptoRow.domain false Rows.encodesUptoRow.laid) (((Rows.OpenSpec.upto Rows.encodesSpec).at F).post enc Tryz.prog Tryz.f5 false true false false) := by
  obtain ⟨places, hx⟩ := encodes_reads os enc
  have hok : Input.okWideB Tryz.prog (((World.holding Tryz.prog os ⟨#[], #[], []⟩).layVars Tryz.prog [("unicode/utf8.acceptRanges", Rows.laid_unicode_utf8_acceptRanges), ("hallmark/fault.Schema", Rows.laid_hallmark_fault_Schema), ("hallmark/fault.Long", Rows.laid_hallmark_fault_Long), ("hallmark/fault.End", Rows.laid_hallmark_fault_End), ("hallmark/fault.Tag", Rows.laid_hallmark_fault_Tag), ("hallmark/fault.Length", Rows.laid_hallmark_fault_Length), ("hallmark/fault.Value", Rows.laid_hallmark_fault_Value), ("hallmark/fault.More", Rows.laid_hallmark_fault_More), ("hallmark/fault.Order", Rows.laid_hallmark_fault_Order), ("hallmark/fault.Default", Rows.laid_hallmark_fault_Default), ("hallmark/fault.Deep", Rows.laid_hallmark_fault_Deep), ("hallmark/fault.Tree", Rows.laid_hallmark_fault_Tree), ("hallmark/fault.Card", Rows.laid_hallmark_fault_Card), ("hallmark/fault.Mark", Rows.laid_hallmark_fault_Mark), ("hallmark/content.monthDays", Rows.laid_hallmark_content_monthDays), ("hallmark/schemas.ownNumbers", Rows.laid_hallmark_schemas_ownNumbers), ("unicode/utf8.first", Rows.laid_unicode_utf8_first)]).forCall (fun _ _ => 0) ⟨#[], #[.slice none 0 0, .int .i64 0, .slice none 0 0], []⟩) 5 ⟨#[], #[.slice none 0 0, .int .i64 0, .slice none 0 0], []⟩ = true := by kernel_rfl
  refine returnsInHanded_of_row (C := Tryz.checked) (s := Rows.OpenSpec.upto Rows.encodesSpec) Tryz.own started (by kernel_rfl) Tryz.func5
    ⟨(World.holding Tryz.prog os ⟨#[], #[], []⟩).layVars Tryz.prog [("unicode/utf8.acceptRanges", Rows.laid_unicode_utf8_acceptRanges), ("hallmark/fault.Schema", Rows.laid_hallmark_fault_Schema), ("hallmark/fault.Long", Rows.laid_hallmark_fault_Long), ("hallmark/fault.End", Rows.laid_hallmark_fault_End), ("hallmark/fault.Tag", Rows.laid_hallmark_fault_Tag), ("hallmark/fault.Length", Rows.laid_hallmark_fault_Length), ("hallmark/fault.Value", Rows.laid_hallmark_fault_Value), ("hallmark/fault.More", Rows.laid_hallmark_fault_More), ("hallmark/fault.Order", Rows.laid_hallmark_fault_Order), ("hallmark/fault.Default", Rows.laid_hallmark_fault_Default), ("hallmark/fault.Deep", Rows.laid_hallmark_fault_Deep), ("hallmark/fault.Tree", Rows.laid_hallmark_fault_Tree), ("hallmark/fault.Card", Rows.laid_hallmark_fault_Card), ("hallmark/fault.Mark", Rows.laid_hallmark_fault_Mark), ("hallmark/content.monthDays", Rows.laid_hallmark_content_monthDays), ("hallmark/schemas.ownNumbers", Rows.laid_hallmark_schemas_ownNumbers), ("unicode/utf8.first", Rows.laid_unicode_utf8_first)], fun _ _ => 0, ⟨#[], #[.slice none 0 0, .int .i64 0, .slice none 0 0], []⟩, World.layVars_os _ _ _, World.shaped_of_ZipB (by kernel_rfl) (by kernel_rfl),
      (Input.okWide_of_okWideB (base := 0) hok).1, (Input.okWide_of_okWideB hok).2, OpenSpec.preRow_of_cond 8 hx (by kernel_rfl) (fun k hk => by cases hk; kernel_rfl) (by kernel_rfl) (met_checks os _), by
        simp only [Assume.holds]
        exact ⟨by simp, by simp, fun _ => Modest.zero, by simp, by simp⟩⟩ ?_
  intro W base args ds gs before hval hW _ hcond hwt hL _ _
  exact encodes_contract H enc W base args ds gs before hval hW (hcond _ rfl) hwt hL

set_option maxHeartbeats 40000000 in
/-- What is closed of the row: fact by fact, each a lemma of its own. -/
theorem encodes_closed : joinedFacts Tryz.prog 5 Tryz.f5 (Rows.OpenSpec.upto Rows.encodesSpec).bare Rows.encodesUptoRow = true := by
  unfold joinedFacts
  simp only [Bool.and_eq_true]
  repeat' apply And.intro
  all_goals as_aux_lemma => kernel_rfl

theorem encodes_said : Rows.EncodesUptoSaid :=
  OpenClaim.holds_of_cond 5 Tryz.f5 rfl rfl rfl rfl rfl rfl rfl ⟨rfl, rfl, rfl, rfl, rfl⟩ rfl rfl rfl rfl rfl (by kernel_rfl) Tryz.func5 encodes_closed
    (of_decide_eq_true (by kernel_rfl)) (by unfold Func.isWrapper; rw [if_neg (of_decide_eq_false (by kernel_rfl))]; exact ⟨rfl, rfl⟩)
    (fun os started H enc _ F => by rw [OpenClaim.pre_eq_preRow]; exact encodes_lifted os started H enc F)

theorem encodes_holds : Rows.EncodesUptoCardSaid :=
  Claim7.holds_tied_plain_at .later [] _ _ _ _
    encodes_said (fun _ h => by cases h) (by kernel_rfl) (fun _ h => by cases h) encodesUpto_row_tie rfl ⟨rfl, rfl⟩ (by kernel_rfl) rfl
    (fun f fn hf hfn => by
      obtain rfl : f = 5 := Option.some.inj ((show Tryz.prog.funcNamed "hallmark/hallmarklaw.Encodes" = some 5 by kernel_rfl).symm.trans hf) |>.symm
      obtain rfl : fn = Tryz.f5 := (Option.some.inj (Tryz.func5.symm.trans hfn)).symm
      exact ⟨by kernel_rfl, fun j t ht => by
        rw [Tryz.params5] at ht
        have hm : t ∈ [22, 3, 39] := by simpa using Array.mem_of_getElem? ht
        have hall : ([22, 3, 39].all fun u => !Tryz.prog.wantsStandIn u) = true := by kernel_rfl
        exact (show Tryz.prog.wantsStandIn t = false by simpa using List.all_eq_true.1 hall t hm)⟩)
    (by kernel_rfl)
end Go.Proofs.YtkkicodfpekbgaaGreatDoor
