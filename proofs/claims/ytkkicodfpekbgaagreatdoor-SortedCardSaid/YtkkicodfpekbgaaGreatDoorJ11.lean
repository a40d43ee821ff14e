/-
  Several texts in one:
  What the condition on the package's variables gives where the variable that holds the type error is among them; a world that meets it.
  hallmarkkeep.Sorted: its rounds: the texts, the tree and the bytes that it makes.
  Sorted: that its schema is right; that its texts rise just if no element falls; its bytes: plain mathematics.
  The program's encoder: element.IsWhole; fits (written by gen_ya.py).
-/
import Derived.Test.YtkkicodfpekbgaaGreatDoorJSez
import Derived.Test.YtkkicodfpekbgaaGreatDoorJ10
import Derived.LaidHandle
import Derived.Test.YtkkicodfpekbgaaGreatDoorJ5
import Derived.Test.YtkkicodfpekbgaaGreatDoorJ2
import Derived.Laws.OwnMore
import Derived.Deep.DeepCutAuto
import Derived.Test.YtkkicodfpekbgaaGreatDoorJ9
import Derived.Test.YtkkicodfpekbgaaGreatDoorJ1
import Derived.Test.YtkkicodfpekbgaaGreatDoorJ7
/-! What the condition on the package's variables gives where the variable that holds the type error is among them; a world that meets it. -/
namespace Go.Proofs.YtkkicodfpekbgaaGreatDoor
set_option linter.unusedSimpArgs false
set_option linter.unusedVariables false
open Go.ChangeShapes Go.WideShapes Go.ChangeAt Go.WideMaps Go.WideElems Go.RowKit Go.Lib
set_option maxRecDepth 100000

theorem Tryz.gEt : Tryz.prog.globalNamed "errors.errorType" = some 13 := by kernel_rfl
theorem Tryz.rtOf : (Tryz.prog.cutTypes.find? (·.1 == "internal/reflectlite.rtype")).map (·.2) = some 220 := by kernel_rfl
theorem Tryz.oneRow : ((List.range 324).filter fun t => Tryz.prog.rowNamed t [101, 114, 114, 111, 114]) = [85] := by kernel_rfl
theorem Tryz.sizeT : Tryz.prog.types.size = 324 := by kernel_rfl
theorem Tryz.hdlE : typeHandle Tryz.prog 85 = .pointer (some ⟨19, 85, none⟩) := by kernel_rfl
theorem lay_of_laid_decodes {W : World} (h : laidMetH Tryz.prog [("unicode/utf8.acceptRanges", Rows.laid_unicode_utf8_acceptRanges), ("errors.errorType", Rows.laid_errors_errorType), ("hallmark/fault.Schema", Rows.laid_hallmark_fault_Schema), ("hallmark/fault.Long", Rows.laid_hallmark_fault_Long), ("hallmark/fault.End", Rows.laid_hallmark_fault_End), ("hallmark/fault.Tag", Rows.laid_hallmark_fault_Tag), ("hallmark/fault.Length", Rows.laid_hallmark_fault_Length), ("hallmark/fault.Value", Rows.laid_hallmark_fault_Value), ("hallmark/fault.More", Rows.laid_hallmark_fault_More), ("hallmark/fault.Order", Rows.laid_hallmark_fault_Order), ("hallmark/fault.Default", Rows.laid_hallmark_fault_Default), ("hallmark/fault.Deep", Rows.laid_hallmark_fault_Deep), ("hallmark/fault.Tree", Rows.laid_hallmark_fault_Tree), ("hallmark/fault.Card", Rows.laid_hallmark_fault_Card), ("hallmark/fault.Mark", Rows.laid_hallmark_fault_Mark), ("hallmark/content.monthDays", Rows.laid_hallmark_content_monthDays), ("hallmark/schemas.ownNumbers", Rows.laid_hallmark_schemas_ownNumbers), ("unicode/utf8.first", Rows.laid_unicode_utf8_first)] W) : ∃ sn za, Lay W sn ∧ LayZ W sn za ∧ EtC W := by
  have h' : laidMet Tryz.prog [("unicode/utf8.acceptRanges", Rows.laid_unicode_utf8_acceptRanges), ("hallmark/fault.Schema", Rows.laid_hallmark_fault_Schema), ("hallmark/fault.Long", Rows.laid_hallmark_fault_Long), ("hallmark/fault.End", Rows.laid_hallmark_fault_End), ("hallmark/fault.Tag", Rows.laid_hallmark_fault_Tag), ("hallmark/fault.Length", Rows.laid_hallmark_fault_Length), ("hallmark/fault.Value", Rows.laid_hallmark_fault_Value), ("hallmark/fault.More", Rows.laid_hallmark_fault_More), ("hallmark/fault.Order", Rows.laid_hallmark_fault_Order), ("hallmark/fault.Default", Rows.laid_hallmark_fault_Default), ("hallmark/fault.Deep", Rows.laid_hallmark_fault_Deep), ("hallmark/fault.Tree", Rows.laid_hallmark_fault_Tree), ("hallmark/fault.Card", Rows.laid_hallmark_fault_Card), ("hallmark/fault.Mark", Rows.laid_hallmark_fault_Mark), ("hallmark/content.monthDays", Rows.laid_hallmark_content_monthDays), ("hallmark/schemas.ownNumbers", Rows.laid_hallmark_schemas_ownNumbers), ("unicode/utf8.first", Rows.laid_unicode_utf8_first)] W ∧ handlesMet Tryz.prog [("errors.errorType", Rows.laid_errors_errorType)] W := h
  obtain ⟨sn, za, h1, h2⟩ := lay_of_laid_checks (W := W) (by rw [MakeChecks.laidMetH_plain _ _ _ (by kernel_rfl)]; exact h'.1)
  refine ⟨sn, za, h1, h2, ?_⟩
  obtain ⟨name, u, ty, e1, e2, e3, e4, e5⟩ := h'.2 _ (List.mem_singleton.2 rfl)
  have en : name = [101, 114, 114, 111, 114] := (Option.some.inj e1).symm
  subst en
  obtain rfl := Option.some.inj (Tryz.rtOf.symm.trans e2)
  have hm : ty ∈ (List.range 324).filter fun t => Tryz.prog.rowNamed t [101, 114, 114, 111, 114] := List.mem_filter.2 ⟨List.mem_range.2 (by rw [← Tryz.sizeT]; exact e3), e4⟩
  rw [Tryz.oneRow] at hm
  obtain rfl := List.mem_singleton.1 hm
  rw [Tryz.hdlE] at e5
  have := World.var?_cell Tryz.gEt e5 0
  unfold EtC
  simpa using this

/-- The variable's cell laid. -/
def withErr (w : World) : World :=
  { w with heap := w.heap.modify 13 fun o => match o with
    | .cells _ t fr => .cells #[.iface 220 (.agg #[.pointer (some ⟨19, 85, none⟩)])] t fr
    | o => o }
theorem laidMet_from {P : Program} {w0 : World} {laid : List (String × DataW Unit)} (args : Array Value) (hf : w0.layFits P laid [] = true) (hi : w0.layIfaces P laid (w0.layVars P laid) = true) :
    laidMet P laid ((w0.layVars P laid).forCall (fun _ _ => 0) ⟨#[], args, []⟩).memory := by
  have hin : ∀ x ∈ laid, (laid.map (·.1)).contains x.1 = true := fun x hx => List.contains_iff_mem.2 (List.mem_map.2 ⟨x, hx, rfl⟩)
  have e1 : (laid.filter fun x => (laid.map (·.1)).contains x.1) = laid := List.filter_eq_self.2 hin
  have e2 : (laid.filter fun x => !(laid.map (·.1)).contains x.1) = [] := List.filter_eq_nil_iff.2 fun x hx => by rw [hin x hx]; simp
  have h : laidMet P laid (w0.layVars P laid) := laidMet_layVars (w0 := w0) (laid.map (·.1)) [] (by rw [e1]) (by rw [e1]; exact hf) (by rw [e1]; exact hi) (by rw [e2]; exact LaidIn.none)
  exact h.of_heap (by simp [World.memory, World.forCall, Input.heap])
theorem met_decodes (os : Os) (args : Array Value) : laidMetH Tryz.prog [("unicode/utf8.acceptRanges", Rows.laid_unicode_utf8_acceptRanges), ("errors.errorType", Rows.laid_errors_errorType), ("hallmark/fault.Schema", Rows.laid_hallmark_fault_Schema), ("hallmark/fault.Long", Rows.laid_hallmark_fault_Long), ("hallmark/fault.End", Rows.laid_hallmark_fault_End), ("hallmark/fault.Tag", Rows.laid_hallmark_fault_Tag), ("hallmark/fault.Length", Rows.laid_hallmark_fault_Length), ("hallmark/fault.Value", Rows.laid_hallmark_fault_Value), ("hallmark/fault.More", Rows.laid_hallmark_fault_More), ("hallmark/fault.Order", Rows.laid_hallmark_fault_Order), ("hallmark/fault.Default", Rows.laid_hallmark_fault_Default), ("hallmark/fault.Deep", Rows.laid_hallmark_fault_Deep), ("hallmark/fault.Tree", Rows.laid_hallmark_fault_Tree), ("hallmark/fault.Card", Rows.laid_hallmark_fault_Card), ("hallmark/fault.Mark", Rows.laid_hallmark_fault_Mark), ("hallmark/content.monthDays", Rows.laid_hallmark_content_monthDays), ("hallmark/schemas.ownNumbers", Rows.laid_hallmark_schemas_ownNumbers), ("unicode/utf8.first", Rows.laid_unicode_utf8_first)] (((withErr (World.holding Tryz.prog os ⟨#[], #[], []⟩)).layVars Tryz.prog [("unicode/utf8.acceptRanges", Rows.laid_unicode_utf8_acceptRanges), ("hallmark/fault.Schema", Rows.laid_hallmark_fault_Schema), ("hallmark/fault.Long", Rows.laid_hallmark_fault_Long), ("hallmark/fault.End", Rows.laid_hallmark_fault_End), ("hallmark/fault.Tag", Rows.laid_hallmark_fault_Tag), ("hallmark/fault.Length", Rows.laid_hallmark_fault_Length), ("hallmark/fault.Value", Rows.laid_hallmark_fault_Value), ("hallmark/fault.More", Rows.laid_hallmark_fault_More), ("hallmark/fault.Order", Rows.laid_hallmark_fault_Order), ("hallmark/fault.Default", Rows.laid_hallmark_fault_Default), ("hallmark/fault.Deep", Rows.laid_hallmark_fault_Deep), ("hallmark/fault.Tree", Rows.laid_hallmark_fault_Tree), ("hallmark/fault.Card", Rows.laid_hallmark_fault_Card), ("hallmark/fault.Mark", Rows.laid_hallmark_fault_Mark), ("hallmark/content.monthDays", Rows.laid_hallmark_content_monthDays), ("hallmark/schemas.ownNumbers", Rows.laid_hallmark_schemas_ownNumbers), ("unicode/utf8.first", Rows.laid_unicode_utf8_first)]).forCall (fun _ _ => 0) ⟨#[], args, []⟩).memory := by
  have e0 : ([("unicode/utf8.acceptRanges", Rows.laid_unicode_utf8_acceptRanges), ("errors.errorType", Rows.laid_errors_errorType), ("hallmark/fault.Schema", Rows.laid_hallmark_fault_Schema), ("hallmark/fault.Long", Rows.laid_hallmark_fault_Long), ("hallmark/fault.End", Rows.laid_hallmark_fault_End), ("hallmark/fault.Tag", Rows.laid_hallmark_fault_Tag), ("hallmark/fault.Length", Rows.laid_hallmark_fault_Length), ("hallmark/fault.Value", Rows.laid_hallmark_fault_Value), ("hallmark/fault.More", Rows.laid_hallmark_fault_More), ("hallmark/fault.Order", Rows.laid_hallmark_fault_Order), ("hallmark/fault.Default", Rows.laid_hallmark_fault_Default), ("hallmark/fault.Deep", Rows.laid_hallmark_fault_Deep), ("hallmark/fault.Tree", Rows.laid_hallmark_fault_Tree), ("hallmark/fault.Card", Rows.laid_hallmark_fault_Card), ("hallmark/fault.Mark", Rows.laid_hallmark_fault_Mark), ("hallmark/content.monthDays", Rows.laid_hallmark_content_monthDays), ("hallmark/schemas.ownNumbers", Rows.laid_hallmark_schemas_ownNumbers), ("unicode/utf8.first", Rows.laid_unicode_utf8_first)].filter fun (x : String × DataW Unit) => x.2.handleName?.isNone) = [("unicode/utf8.acceptRanges", Rows.laid_unicode_utf8_acceptRanges), ("hallmark/fault.Schema", Rows.laid_hallmark_fault_Schema), ("hallmark/fault.Long", Rows.laid_hallmark_fault_Long), ("hallmark/fault.End", Rows.laid_hallmark_fault_End), ("hallmark/fault.Tag", Rows.laid_hallmark_fault_Tag), ("hallmark/fault.Length", Rows.laid_hallmark_fault_Length), ("hallmark/fault.Value", Rows.laid_hallmark_fault_Value), ("hallmark/fault.More", Rows.laid_hallmark_fault_More), ("hallmark/fault.Order", Rows.laid_hallmark_fault_Order), ("hallmark/fault.Default", Rows.laid_hallmark_fault_Default), ("hallmark/fault.Deep", Rows.laid_hallmark_fault_Deep), ("hallmark/fault.Tree", Rows.laid_hallmark_fault_Tree), ("hallmark/fault.Card", Rows.laid_hallmark_fault_Card), ("hallmark/fault.Mark", Rows.laid_hallmark_fault_Mark), ("hallmark/content.monthDays", Rows.laid_hallmark_content_monthDays), ("hallmark/schemas.ownNumbers", Rows.laid_hallmark_schemas_ownNumbers), ("unicode/utf8.first", Rows.laid_unicode_utf8_first)] := rfl
  refine laidMetH_of_parts ?_ (by kernel_rfl)
  rw [e0]
  exact laidMet_from args (by kernel_rfl) (by kernel_rfl)
end Go.Proofs.YtkkicodfpekbgaaGreatDoor

/-! hallmarkkeep.Sorted: its rounds: the texts, the tree and the bytes that it makes. -/
namespace Go.Proofs.YtkkicodfpekbgaaGreatDoor
set_option linter.unusedSimpArgs false
set_option linter.unusedVariables false
open Go.RowKit

def Tryz.zeroStr : Value := .string ⟨#[]⟩
theorem Tryz.infoStr : (Tryz.prog.info? 9).map (fun i => (i.zero, i.size, i.bytes)) = some (some Tryz.zeroStr, 1, 16) := by kernel_rfl
/-- Two and three bytes as a text. -/
theorem conv_row (l : List UInt8) (W : World) (k : Nat) (hk : ∀ j, j < l.length → W.cell? ⟨k, j, none⟩ = some (.int .u8 ((l.getD j 0).toNat : Int))) : (convert 52 9 (.slice (some ⟨k, 0, none⟩) l.length l.length)).run Tryz.prog W = .ok (.string ⟨l.toArray⟩) W := by
  refine run_convert_bytes_back W 52 9 5 ⟨k, 0, none⟩ l.length l Tryz.underlying52 Tryz.underlying5 Tryz.underlying9 fun j hj => ?_
  have e1 : (⟨k, 0, none⟩ : Addr).add j = ⟨k, j, none⟩ := add0 k j
  rw [e1, hk j hj, List.getD_eq_getElem?_getD, List.getElem?_eq_getElem hj]
  simp [hj]
theorem u8_of (x : Int) (h0 : 0 ≤ x) (h1 : x < 256) : ((UInt8.ofNat x.toNat).toNat : Int) = x := by
  have h := UInt8.toNat_ofNat' (n := x.toNat)
  omega
theorem conv_two (x y : Int) (h0 : 0 ≤ x) (h1 : x < 256) (g0 : 0 ≤ y) (g1 : y < 256) (w : World) (k : Nat) (hk : k = w.heap.size) : (convert 52 9 (.slice (some ⟨k, 0, none⟩) 2 2)).run Tryz.prog (w.alloc (.cells #[.int .u8 x, .int .u8 y] 5)) = .ok (.string ⟨#[UInt8.ofNat x.toNat, UInt8.ofNat y.toNat]⟩) (w.alloc (.cells #[.int .u8 x, .int .u8 y] 5)) := by
  subst hk
  refine conv_row [UInt8.ofNat x.toNat, UInt8.ofNat y.toNat] _ _ fun j hj => ?_
  have hb := heap_alloc_new w (.cells #[.int .u8 x, .int .u8 y] 5)
  match j, hj with
  | 0, _ => show _ = some (Value.int .u8 ((UInt8.ofNat x.toNat).toNat : Int)); rw [u8_of x h0 h1]; exact Go.cell_of_row _ _ _ _ _ _ hb
  | 1, _ => show _ = some (Value.int .u8 ((UInt8.ofNat y.toNat).toNat : Int)); rw [u8_of y g0 g1]; exact Go.cell_of_row _ _ _ _ _ _ hb
theorem conv_three (x y z : Int) (h0 : 0 ≤ x) (h1 : x < 256) (g0 : 0 ≤ y) (g1 : y < 256) (f0 : 0 ≤ z) (f1 : z < 256) (w : World) (k : Nat) (hk : k = w.heap.size) : (convert 52 9 (.slice (some ⟨k, 0, none⟩) 3 3)).run Tryz.prog (w.alloc (.cells #[.int .u8 x, .int .u8 y, .int .u8 z] 5)) = .ok (.string ⟨#[UInt8.ofNat x.toNat, UInt8.ofNat y.toNat, UInt8.ofNat z.toNat]⟩) (w.alloc (.cells #[.int .u8 x, .int .u8 y, .int .u8 z] 5)) := by
  subst hk
  refine conv_row [UInt8.ofNat x.toNat, UInt8.ofNat y.toNat, UInt8.ofNat z.toNat] _ _ fun j hj => ?_
  have hb := heap_alloc_new w (.cells #[.int .u8 x, .int .u8 y, .int .u8 z] 5)
  match j, hj with
  | 0, _ => show _ = some (Value.int .u8 ((UInt8.ofNat x.toNat).toNat : Int)); rw [u8_of x h0 h1]; exact Go.cell_of_row _ _ _ _ _ _ hb
  | 1, _ => show _ = some (Value.int .u8 ((UInt8.ofNat y.toNat).toNat : Int)); rw [u8_of y g0 g1]; exact Go.cell_of_row _ _ _ _ _ _ hb
  | 2, _ => show _ = some (Value.int .u8 ((UInt8.ofNat z.toNat).toNat : Int)); rw [u8_of z f0 f1]; exact Go.cell_of_row _ _ _ _ _ _ hb

/-- What a round goes by: the schema's world, the tree, the texts. -/
structure SrI (W w : World) (ts : List ByteArray) (vv lv : Value) : Prop where
  bel : Below W.heap.size W w
  val : w.ownsRow W.heap.size 60 4 vv (ts.length + 1) (vcells (srtT ts))
  txt : w.ownsRow W.heap.size 9 1 lv ts.length (ts.map Value.string)
theorem SrI.below {W w w' : World} {ts : List ByteArray} {vv lv : Value} (h : SrI W w ts vv lv) (hb : Below w.heap.size w w') : SrI W w' ts vv lv :=
  ⟨h.bel.trans (hb.mono h.bel.size), own_below h.val hb, own_below h.txt hb⟩
/-- Raw numbers in memory. -/
def IntIn (w : World) (a : Option Addr) (n : Nat) : Prop := ∀ i, i < n → ∃ b o z, a = some ⟨b, o, none⟩ ∧ w.cell? ⟨b, o + i, none⟩ = some (.int .i64 z) ∧ -9223372036854775808 ≤ z ∧ z ≤ 9223372036854775807
theorem srtT_snoc (ts : List ByteArray) (t : ByteArray) : vcells (srtT (ts ++ [t])) = (vcells (srtT ts) ++ (⟨6, t, 0, 0⟩ : Vl).cells).set 3 (.int .i64 ((ts.length : Int) + 1)) := by
  unfold srtT vcells
  simp [Vl.cells]
theorem srt_cell (ts : List ByteArray) (t : ByteArray) : (vcells (srtT ts) ++ (⟨6, t, 0, 0⟩ : Vl).cells)[3]? = some (.int .i64 (ts.length : Int)) := by
  unfold srtT vcells
  simp [Vl.cells]
theorem cat_snoc : ∀ (ts : List ByteArray) (t : ByteArray), cat (ts ++ [t]) = cat ts ++ oct t
  | [], t => by
    show oct t ++ noB = noB ++ oct t
    apply ByteArray.ext
    apply Array.toList_inj.1
    rw [ByteArray.data_append, ByteArray.data_append, Array.toList_append, Array.toList_append]
    exact (List.append_nil _).trans (List.nil_append _).symm
  | u :: ts, t => by
    show oct u ++ cat (ts ++ [t]) = oct u ++ cat ts ++ oct t
    rw [cat_snoc ts t, ByteArray.append_assoc]
theorem oct_two (t : ByteArray) (h : t.size = 2) : oct t = ⟨#[4, 2]⟩ ++ t := by
  unfold oct elB
  rw [h]
  rfl
end Go.Proofs.YtkkicodfpekbgaaGreatDoor

/-! Sorted: that its schema is right; that its texts rise just if no element falls; its bytes: plain mathematics. -/
namespace Go.Proofs.YtkkicodfpekbgaaGreatDoor
set_option linter.unusedSimpArgs false
set_option linter.unusedVariables false
open Go.RowKit
theorem srt_nd (i : Nat) : ¬ (nd srtS i).opn := by
  match i with
  | 0 => intro h; have := h.1; cases this
  | 1 => intro h; have := h.1; cases this
  | i + 2 => intro h; have := h.1; cases this
theorem srt_right : RightP srtS := by
  refine ⟨by decide, by decide, ?_, fun i hi => ?_, ?_⟩
  · intro i hi
    match i, hi with
    | 0, _ => exact ⟨by unfold Bad1; decide, by unfold Bad2; decide, by unfold Count; decide, fun j hj => by
        match j, hj with
        | 0, _ => exact ⟨by decide, by decide, .inl ⟨rfl, rfl⟩, by decide⟩⟩
    | 1, _ => exact ⟨by unfold Bad1; decide, by unfold Bad2; decide, by unfold Count; decide, fun j hj => absurd hj (Nat.not_lt_zero _)⟩
  · rintro ⟨j, _, h, _⟩
    exact srt_nd j h
  · intro i hi
    match i, hi with
    | 0, _ => exact ⟨fun h => absurd h (by decide), fun j hj => by
        match j, hj with
        | 0, _ => exact .inl rfl⟩
    | 1, _ => exact ⟨fun h => absurd h (by decide), fun j hj => absurd hj (Nat.not_lt_zero _)⟩
theorem srt_ok : SchOk srtS := fun i hi k hk => by
  match i, hi with
  | 0, _ =>
    have : k = ⟨1, false, noB⟩ := by simpa [nd, srtS] using hk
    subst this
    exact Nat.zero_le _
  | 1, _ => simp [nd, srtS] at hk
theorem srt_vl (ts : List ByteArray) (j : Nat) (hj : j < ts.length) : vl (srtT ts) (j + 1) = ⟨6, ts.getD j noB, 0, 0⟩ := by
  unfold vl srtT
  rw [List.getD_cons_succ, List.getD_eq_getElem?_getD, List.getElem?_map, List.getElem?_eq_getElem hj, List.getD_eq_getElem?_getD, List.getElem?_eq_getElem hj]
  rfl
theorem srt_pz (ts : List ByteArray) (h2 : ∀ t ∈ ts, t.size = 2) (h30 : ts.length ≤ 30) : pz (srtT ts) (srtT ts).length ≤ 16777000 := by
  have hs : ∀ l : List ByteArray, (∀ t ∈ l, t.size = 2) → (l.map fun t => t.size).sum = 2 * l.length := fun l => by
    induction l with
    | nil => intro _; rfl
    | cons t l ih =>
      intro h
      rw [List.map_cons, List.sum_cons, h t (by simp), ih (fun u hu => h u (by simp [hu])), List.length_cons]
      omega
  have e : (srtT ts).length = ts.length + 1 := by unfold srtT; simp
  unfold pz
  rw [List.take_length, e]
  unfold srtT
  rw [List.map_cons, List.map_map, List.sum_cons]
  have := hs ts h2
  have e2 : ((fun v : Vl => v.text.size) ∘ fun t : ByteArray => (⟨6, t, 0, 0⟩ : Vl)) = fun t => t.size := rfl
  rw [e2, this]
  have e3 : (⟨12, noB, 0, (ts.length : Int)⟩ : Vl).text.size = 0 := rfl
  rw [e3]
  omega
theorem srt_kids (ts : List ByteArray) (h30 : ts.length ≤ 30) : ∀ j, j < (srtT ts).length → (vl (srtT ts) j).kids ≤ 9223372036854775807 := by
  intro j hj
  match j with
  | 0 => show (ts.length : Int) ≤ _; omega
  | j + 1 => rw [srt_vl ts j (by unfold srtT at hj; simpa using hj)]; show (0 : Int) ≤ _; omega
theorem below_pre (a b : List UInt8) (p : List UInt8) : Op.bytesLess (p ++ a) (p ++ b) = Op.bytesLess a b := by
  induction p with
  | nil => rfl
  | cons x p ih =>
    rw [List.cons_append, List.cons_append, Op.bytesLess]
    simp [ih]
theorem below_oct (t u : ByteArray) (ht : t.size = 2) (hu : u.size = 2) : below (oct t) (oct u) = below t u := by
  unfold below
  rw [oct_two t ht, oct_two u hu, Lib.toList_data, Lib.toList_data, Lib.toList_data, Lib.toList_data, ByteArray.toList_data_append, ByteArray.toList_data_append]
  exact below_pre _ _ _
theorem below_none (t : ByteArray) : below t noB = false := by
  unfold below
  rw [Lib.toList_data, Lib.toList_data]
  show Op.bytesLess _ [] = false
  cases t.data.toList <;> rfl
/-- The texts rise just if no element falls. -/
theorem falls_from : ∀ (u : ByteArray) (ts : List ByteArray), u.size = 2 → (∀ t ∈ ts, t.size = 2) → (falls (oct u) ts = false ↔ RisesTo (u :: ts) (u :: ts).length)
  | u, [], _, _ => ⟨fun _ j hj => by simp at hj, fun _ => rfl⟩
  | u, t :: ts, hu, h => by
    have ht := h t (by simp)
    have ih := falls_from t ts ht fun x hx => h x (by simp [hx])
    rw [falls, below_oct t u ht hu, Bool.or_eq_false_iff, ih]
    constructor
    · rintro ⟨h1, h2⟩ j hj
      match j with
      | 0 => exact h1
      | j + 1 => exact h2 j (by simpa using hj)
    · intro hR
      exact ⟨hR 0 (by simp), fun j hj => hR (j + 1) (by simpa using hj)⟩
theorem falls_iff (ts : List ByteArray) (h : ∀ t ∈ ts, t.size = 2) : falls noB ts = false ↔ RisesTo ts ts.length := by
  match ts, h with
  | [], _ => exact ⟨fun _ j hj => by simp at hj, fun _ => rfl⟩
  | t :: ts, h =>
    rw [falls, below_none, Bool.false_or]
    exact falls_from t ts (h t (by simp)) fun x hx => h x (by simp [hx])
/-- The bytes, as Sorted makes them. -/
theorem srt_data (c : ByteArray) (h : c.size ≤ 127) : (⟨#[49, UInt8.ofNat (c.size : Int).toNat]⟩ : ByteArray) ++ c = elB 0 true 17 c := by
  unfold elB tl
  rw [if_pos (by omega)]
  rfl
end Go.Proofs.YtkkicodfpekbgaaGreatDoor

/-! The program's encoder: element.IsWhole; fits (written by gen_ya.py). -/
namespace Go.Proofs.YtkkicodfpekbgaaGreatDoor
set_option linter.unusedSimpArgs false
set_option linter.unusedVariables false
open Go.RowKit

/-- What a value must be at a node, its kids apart. -/
def FitP (n : Nd) (v : Vl) : Prop :=
  v.kind = n.kind ∧
  if n.kind = 13 then v.text.size = 0 ∧ v.kids = 1 ∧ 0 ≤ v.alt ∧ v.alt < n.kids.length
  else if n.kind = 14 then (hd v.text).1 = 0 ∧ (hd v.text).2.s + (hd v.text).2.l = v.text.size ∧ v.alt = 0 ∧ v.kids = 0
  else if n.kind = 10 then v.text.size = 0 ∧ v.alt = 0 ∧ v.kids = n.kids.length
  else if 10 ≤ n.kind ∧ n.kind ≤ 12 then v.text.size = 0 ∧ v.alt = 0 ∧ 0 ≤ v.kids
  else ContentOk n.kind v.text ∧ v.alt = 0 ∧ v.kids = 0
theorem fit10 {n : Nd} {v : Vl} (h : n.kind = 10) (hv : v.kind = n.kind) : FitP n v ↔ v.text.size = 0 ∧ v.alt = 0 ∧ v.kids = n.kids.length := by
  unfold FitP
  rw [if_neg (by omega), if_neg (by omega), if_pos h]
  exact ⟨fun q => q.2, fun q => ⟨hv, q⟩⟩
theorem fit12 {n : Nd} {v : Vl} (h : n.kind = 11 ∨ n.kind = 12) (hv : v.kind = n.kind) : FitP n v ↔ v.text.size = 0 ∧ v.alt = 0 ∧ 0 ≤ v.kids := by
  unfold FitP
  rw [if_neg (by omega), if_neg (by omega), if_neg (by omega), if_pos (by omega)]
  exact ⟨fun q => q.2, fun q => ⟨hv, q⟩⟩
theorem fit13 {n : Nd} {v : Vl} (h : n.kind = 13) (hv : v.kind = n.kind) : FitP n v ↔ v.text.size = 0 ∧ v.kids = 1 ∧ 0 ≤ v.alt ∧ v.alt < n.kids.length := by
  unfold FitP
  rw [if_pos h]
  exact ⟨fun q => q.2, fun q => ⟨hv, q⟩⟩
theorem fit14 {n : Nd} {v : Vl} (h : n.kind = 14) (hv : v.kind = n.kind) : FitP n v ↔ (hd v.text).1 = 0 ∧ (hd v.text).2.s + (hd v.text).2.l = v.text.size ∧ v.alt = 0 ∧ v.kids = 0 := by
  unfold FitP
  rw [if_neg (by omega), if_pos h]
  exact ⟨fun q => q.2, fun q => ⟨hv, q⟩⟩
theorem fit9 {n : Nd} {v : Vl} (h : n.kind < 10 ∨ 14 < n.kind) (hv : v.kind = n.kind) : FitP n v ↔ ContentOk n.kind v.text ∧ v.alt = 0 ∧ v.kids = 0 := by
  unfold FitP
  rw [if_neg (by omega), if_neg (by omega), if_neg (by omega), if_neg (by omega)]
  exact ⟨fun q => q.2, fun q => ⟨hv, q⟩⟩

set_option maxHeartbeats 400000 in
set_option maxRecDepth 100000 in
theorem isWhole_any (t : ByteArray) (w : World) (sn : Sn → Addr) (hs : Sent w sn) (hm : t.size ≤ 9223372036854775807) :
    Calls Tryz.prog 181 #[.string t] w fun e w' => RetO ((hd t).1 = 0 ∧ (hd t).2.s + (hd t).2.l = t.size) w e w' := by
  have h := read_any t 0 w sn hs hm (Nat.zero_le _)
  rw [show t.extract 0 t.size = t by simp] at h
  have HRD : Hid (Calls Tryz.prog 156 #[.string t, .int .i64 0] w fun e w' => e = .returned (.tuple #[hv (hd t).2, errAt 0 sn (hd t).1]) ∧ Below w.heap.size w w') := h
  unfold hv at HRD
  clear hs h
  by_cases q1 : (hd t).1 = 0
  · have hok := hd_ok q1
    have Q1 := hide q1
    rw [q1] at HRD
    have he : errAt 0 sn 0 = .nilIface := rfl
    rw [he] at HRD
    obtain ⟨H, hH⟩ : ∃ H, (hd t).2 = H := ⟨_, rfl⟩
    have HH := hide hH
    rw [hH] at HRD hok
    rw [hH]
    clear q1 he hH
    go_enter Tryz.func181, Tryz.ntmps181
    go_wp2_with fail
    refine HRD.out.mono ?_
    rintro e w1 ⟨rfl, hb1⟩
    have HB1 := hide hb1
    clear hb1
    by_cases q2 : H.s + H.l = t.size
    · have Q2 := hide q2
      have q2b : (H.s + H.l == (t.size : Int)) = true := by simpa using q2
      clear q2
      go_wp2
      go_ret
      exact reto_yes ⟨Q1.out, Q2.out⟩ (HB1.out.alloc HB1.out.size _)
    · have Q2 := hide q2
      have q2b : (H.s + H.l == (t.size : Int)) = false := by simpa using q2
      clear q2
      go_wp2
      go_ret
      exact reto_no (fun h => Q2.out h.2) (HB1.out.alloc HB1.out.size _)
  · have Q1 := hide q1
    have he := errAt_of (t := t) 0 sn q1
    rw [he] at HRD
    unfold fault at HRD
    obtain ⟨H, hH⟩ : ∃ H, (hd t).2 = H := ⟨_, rfl⟩
    rw [hH] at HRD
    rw [hH]
    clear q1 he hH
    go_enter Tryz.func181, Tryz.ntmps181
    go_wp2_with fail
    refine HRD.out.mono ?_
    rintro e w1 ⟨rfl, hb1⟩
    have HB1 := hide hb1
    clear hb1
    go_wp2
    go_ret
    exact reto_no (fun h => Q1.out h.1) (HB1.out.alloc HB1.out.size _)

set_option maxHeartbeats 1000000 in
set_option maxRecDepth 100000 in
theorem wfits10 (n : Nd) (v : Vl) (ka : Option Addr) (kc : Nat) (w : World) (hk : n.kind = 10) (hvk : v.kind = n.kind) (hk8 : n.kids.length ≤ 8) :
    Calls Tryz.prog 148 #[.agg #[.int .i64 n.kind, .int .i64 n.tag, .int .i64 n.mode, .slice ka n.kids.length kc], .agg #[.int .i64 v.kind, .string v.text, .int .i64 v.alt, .int .i64 v.kids]] w fun e w' => RetO (FitP n v) w e w' := by
  have HI := hide (fit10 (v := v) hk hvk)
  rw [hvk, hk]
  go_enter Tryz.func148, Tryz.ntmps148
  by_cases q1 : v.text.size = 0
  · have t1 := emp_t q1
    have Q1 := hide q1
    by_cases q2 : v.alt = 0
    · have Q2 := hide q2
      rw [q2]
      by_cases q3 : v.kids = (n.kids.length : Int)
      · have Q3 := hide q3
        rw [q3]
        clear q1 q2 q3 hk hvk
        go_wp2
        go_ret
        exact reto_yes (HI.out.2 ⟨Q1.out, Q2.out, Q3.out⟩) (((Below.refl _ _).alloc (Nat.le_refl _) _).alloc (by simp) _)
      · have Q3 := hide q3
        have q3b : (v.kids == (n.kids.length : Int)) = false := by simpa using q3
        clear q1 q2 hk hvk
        go_wp2
        go_ret
        exact reto_no (fun h => Q3.out (HI.out.1 h).2.2) (((Below.refl _ _).alloc (Nat.le_refl _) _).alloc (by simp) _)
    · have Q2 := hide q2
      have q2b : (v.alt == 0) = false := by simpa using q2
      clear q1 hk hvk
      go_wp2
      go_ret
      exact reto_no (fun h => Q2.out (HI.out.1 h).2.1) (((Below.refl _ _).alloc (Nat.le_refl _) _).alloc (by simp) _)
  · have t1 := emp_f (t := v.text) (by omega)
    have Q1 := hide q1
    clear q1 hk hvk
    go_wp2
    go_ret
    exact reto_no (fun h => Q1.out (HI.out.1 h).1) (((Below.refl _ _).alloc (Nat.le_refl _) _).alloc (by simp) _)

set_option maxHeartbeats 1000000 in
set_option maxRecDepth 100000 in
theorem wfits12 (n : Nd) (v : Vl) (ka : Option Addr) (kc : Nat) (w : World) (hk : n.kind = 11 ∨ n.kind = 12) (hvk : v.kind = n.kind) (hk8 : n.kids.length ≤ 8) :
    Calls Tryz.prog 148 #[.agg #[.int .i64 n.kind, .int .i64 n.tag, .int .i64 n.mode, .slice ka n.kids.length kc], .agg #[.int .i64 v.kind, .string v.text, .int .i64 v.alt, .int .i64 v.kids]] w fun e w' => RetO (FitP n v) w e w' := by
  have HI := hide (fit12 (v := v) hk hvk)
  rw [hvk]
  rcases hk with hk | hk
  all_goals
    rw [hk]
    go_enter Tryz.func148, Tryz.ntmps148
    by_cases q1 : v.text.size = 0
    · have t1 := emp_t q1
      have Q1 := hide q1
      by_cases q2 : v.alt = 0
      · have Q2 := hide q2
        rw [q2]
        by_cases q3 : 0 ≤ v.kids
        · have Q3 := hide q3
          have hmx : max v.kids 0 = v.kids := by omega
          clear q1 q2 hk hvk
          go_wp2
          go_ret
          exact reto_yes (HI.out.2 ⟨Q1.out, Q2.out, Q3.out⟩) (((Below.refl _ _).alloc (Nat.le_refl _) _).alloc (by simp) _)
        · have Q3 := hide q3
          have hmx : max v.kids 0 = 0 := by omega
          have q3b : (v.kids == 0) = false := by simp; omega
          clear q1 q2 hk hvk
          go_wp2
          go_ret
          exact reto_no (fun h => by have h1 := (HI.out.1 h).2.2; have h2 := Q3.out; omega) (((Below.refl _ _).alloc (Nat.le_refl _) _).alloc (by simp) _)
      · have Q2 := hide q2
        have q2b : (v.alt == 0) = false := by simpa using q2
        clear q1 hk hvk
        go_wp2
        go_ret
        exact reto_no (fun h => Q2.out (HI.out.1 h).2.1) (((Below.refl _ _).alloc (Nat.le_refl _) _).alloc (by simp) _)
    · have t1 := emp_f (t := v.text) (by omega)
      have Q1 := hide q1
      clear q1 hk hvk
      go_wp2
      go_ret
      exact reto_no (fun h => Q1.out (HI.out.1 h).1) (((Below.refl _ _).alloc (Nat.le_refl _) _).alloc (by simp) _)

set_option maxHeartbeats 1000000 in
set_option maxRecDepth 100000 in
theorem wfits13 (n : Nd) (v : Vl) (ka : Option Addr) (kc : Nat) (w : World) (hk : n.kind = 13) (hvk : v.kind = n.kind) (hk8 : n.kids.length ≤ 8) :
    Calls Tryz.prog 148 #[.agg #[.int .i64 n.kind, .int .i64 n.tag, .int .i64 n.mode, .slice ka n.kids.length kc], .agg #[.int .i64 v.kind, .string v.text, .int .i64 v.alt, .int .i64 v.kids]] w fun e w' => RetO (FitP n v) w e w' := by
  have HI := hide (fit13 (v := v) hk hvk)
  rw [hvk, hk]
  go_enter Tryz.func148, Tryz.ntmps148
  by_cases q1 : v.text.size = 0
  · have t1 := emp_t q1
    have Q1 := hide q1
    by_cases q2 : v.kids = 1
    · have Q2 := hide q2
      rw [q2]
      by_cases q3 : 0 ≤ v.alt
      · have Q3 := hide q3
        by_cases q4 : v.alt < (n.kids.length : Int)
        · have Q4 := hide q4
          clear q1 q2 hk hvk
          go_wp2
          go_ret
          exact reto_yes (HI.out.2 ⟨Q1.out, Q2.out, Q3.out, Q4.out⟩) (((Below.refl _ _).alloc (Nat.le_refl _) _).alloc (by simp) _)
        · have Q4 := hide q4
          have q4b : decide (v.alt < (n.kids.length : Int)) = false := decide_eq_false q4
          clear q1 q2 hk hvk
          go_wp2
          go_ret
          exact reto_no (fun h => by have h1 := (HI.out.1 h).2.2.2; have h2 := Q4.out; omega) (((Below.refl _ _).alloc (Nat.le_refl _) _).alloc (by simp) _)
      · have Q3 := hide q3
        have q3b : decide (0 ≤ v.alt) = false := decide_eq_false q3
        clear q1 q2 hk hvk
        go_wp2
        go_ret
        exact reto_no (fun h => by have h1 := (HI.out.1 h).2.2.1; have h2 := Q3.out; omega) (((Below.refl _ _).alloc (Nat.le_refl _) _).alloc (by simp) _)
    · have Q2 := hide q2
      have q2b : (v.kids == 1) = false := by simpa using q2
      clear q1 hk hvk
      go_wp2
      go_ret
      exact reto_no (fun h => Q2.out (HI.out.1 h).2.1) (((Below.refl _ _).alloc (Nat.le_refl _) _).alloc (by simp) _)
  · have t1 := emp_f (t := v.text) (by omega)
    have Q1 := hide q1
    clear q1 hk hvk
    go_wp2
    go_ret
    exact reto_no (fun h => Q1.out (HI.out.1 h).1) (((Below.refl _ _).alloc (Nat.le_refl _) _).alloc (by simp) _)

set_option maxHeartbeats 1000000 in
set_option maxRecDepth 100000 in
theorem wfits14 (n : Nd) (v : Vl) (ka : Option Addr) (kc : Nat) (w : World) (hk : n.kind = 14) (sn : Sn → Addr) (hl : Lay w sn) (hts : v.text.size ≤ 140737488355328) (hvk : v.kind = n.kind) (hk8 : n.kids.length ≤ 8) :
    Calls Tryz.prog 148 #[.agg #[.int .i64 n.kind, .int .i64 n.tag, .int .i64 n.mode, .slice ka n.kids.length kc], .agg #[.int .i64 v.kind, .string v.text, .int .i64 v.alt, .int .i64 v.kids]] w fun e w' => RetO (FitP n v) w e w' := by
  have HI := hide (fit14 (v := v) hk hvk)
  have HF : Hid (∀ wq, Below w.heap.size w wq → Calls Tryz.prog 181 #[.string v.text] wq fun e w' => ∃ rv, e = .returned (.bool rv) ∧ (rv = true ↔ ((hd v.text).1 = 0 ∧ (hd v.text).2.s + (hd v.text).2.l = v.text.size)) ∧ Below wq.heap.size wq w') := fun wq q => isWhole_any v.text wq sn (hl.below q).s (by omega)
  have HA : Hid (∀ A B, Below w.heap.size w ((w.alloc A).alloc B)) := fun A B => ((Below.refl w.heap.size w).alloc (Nat.le_refl _) A).alloc (by simp) B
  rw [hvk, hk]
  clear hk hvk hl hts
  go_enter Tryz.func148, Tryz.ntmps148
  by_cases q2 : v.alt = 0
  · have Q2 := hide q2
    rw [q2]
    by_cases q3 : v.kids = 0
    · have Q3 := hide q3
      rw [q3]
      clear q2 q3
      go_wp2_with fail
      refine (HF.out _ (HA.out _ _)).mono ?_
      rintro e w1 ⟨rv, rfl, hrv, hb1⟩
      have HB1 : Hid (Below w.heap.size w w1) := (HA.out _ _).trans (hb1.mono (HA.out _ _).size)
      have HRV := hide hrv
      clear hb1 hrv
      go_wp2
      go_ret
      exact ⟨rv, rfl, ⟨fun h => HI.out.2 ⟨(HRV.out.1 h).1, (HRV.out.1 h).2, Q2.out, Q3.out⟩, fun h => HRV.out.2 ⟨(HI.out.1 h).1, (HI.out.1 h).2.1⟩⟩, HB1.out⟩
    · have Q3 := hide q3
      have q3b : (v.kids != 0) = true := by simpa using q3
      clear q2
      go_wp2
      go_ret
      exact reto_no (fun h => Q3.out (HI.out.1 h).2.2.2) (((Below.refl _ _).alloc (Nat.le_refl _) _).alloc (by simp) _)
  · have Q2 := hide q2
    have q2b : (v.alt != 0) = true := by simpa using q2
    go_wp2
    go_ret
    exact reto_no (fun h => Q2.out (HI.out.1 h).2.2.1) (((Below.refl _ _).alloc (Nat.le_refl _) _).alloc (by simp) _)

set_option maxHeartbeats 1000000 in
set_option maxRecDepth 100000 in
theorem wfits9 (n : Nd) (v : Vl) (ka : Option Addr) (kc : Nat) (w : World) (hk : n.kind < 10 ∨ 14 < n.kind) (sn : Sn → Addr) (hl : Lay w sn) (hts : v.text.size ≤ 140737488355328) (hvk : v.kind = n.kind) (hk8 : n.kids.length ≤ 8) :
    Calls Tryz.prog 148 #[.agg #[.int .i64 n.kind, .int .i64 n.tag, .int .i64 n.mode, .slice ka n.kids.length kc], .agg #[.int .i64 v.kind, .string v.text, .int .i64 v.alt, .int .i64 v.kids]] w fun e w' => RetO (FitP n v) w e w' := by
  have HI := hide (fit9 (v := v) hk hvk)
  have HF : Hid (∀ wq, Below w.heap.size w wq → Calls Tryz.prog 138 #[.int .i64 n.kind, .string v.text] wq fun e w' => ∃ rv, e = .returned (.bool rv) ∧ (rv = true ↔ ContentOk n.kind v.text) ∧ Below wq.heap.size wq w') := fun wq q => fits_any _ _ wq (by omega) (hl.below q).d (valids _ wq (by omega) (hl.below q).t)
  have HA : Hid (∀ A B, Below w.heap.size w ((w.alloc A).alloc B)) := fun A B => ((Below.refl w.heap.size w).alloc (Nat.le_refl _) A).alloc (by simp) B
  have t10 : (n.kind == 10) = false := by simp; omega
  have t11 : (n.kind == 11) = false := by simp; omega
  have t12 : (n.kind == 12) = false := by simp; omega
  have t13 : (n.kind == 13) = false := by simp; omega
  have t14 : (n.kind == 14) = false := by simp; omega
  rw [hvk]
  clear hk hvk hl hts
  go_enter Tryz.func148, Tryz.ntmps148
  by_cases q2 : v.alt = 0
  · have Q2 := hide q2
    rw [q2]
    by_cases q3 : v.kids = 0
    · have Q3 := hide q3
      rw [q3]
      clear q2 q3
      go_wp2_with fail
      refine (HF.out _ (HA.out _ _)).mono ?_
      rintro e w1 ⟨rv, rfl, hrv, hb1⟩
      have HB1 : Hid (Below w.heap.size w w1) := (HA.out _ _).trans (hb1.mono (HA.out _ _).size)
      have HRV := hide hrv
      clear hb1 hrv
      go_wp2
      go_ret
      exact ⟨rv, rfl, ⟨fun h => HI.out.2 ⟨HRV.out.1 h, Q2.out, Q3.out⟩, fun h => HRV.out.2 (HI.out.1 h).1⟩, HB1.out⟩
    · have Q3 := hide q3
      have q3b : (v.kids != 0) = true := by simpa using q3
      clear q2
      go_wp2
      go_ret
      exact reto_no (fun h => Q3.out (HI.out.1 h).2.2) (((Below.refl _ _).alloc (Nat.le_refl _) _).alloc (by simp) _)
  · have Q2 := hide q2
    have q2b : (v.alt != 0) = true := by simpa using q2
    go_wp2
    go_ret
    exact reto_no (fun h => Q2.out (HI.out.1 h).2.1) (((Below.refl _ _).alloc (Nat.le_refl _) _).alloc (by simp) _)

set_option maxHeartbeats 1000000 in
set_option maxRecDepth 100000 in
theorem wfits_any (n : Nd) (v : Vl) (ka : Option Addr) (kc : Nat) (w : World) (sn : Sn → Addr) (hl : Lay w sn) (hts : v.text.size ≤ 140737488355328) (hk8 : n.kids.length ≤ 8) :
    Calls Tryz.prog 148 #[.agg #[.int .i64 n.kind, .int .i64 n.tag, .int .i64 n.mode, .slice ka n.kids.length kc], .agg #[.int .i64 v.kind, .string v.text, .int .i64 v.alt, .int .i64 v.kids]] w fun e w' => RetO (FitP n v) w e w' := by
  by_cases hvk : v.kind = n.kind
  · by_cases h13 : n.kind = 13
    · exact wfits13 n v ka kc w h13 hvk hk8
    by_cases h14 : n.kind = 14
    · exact wfits14 n v ka kc w h14 sn hl hts hvk hk8
    by_cases h10 : n.kind = 10
    · exact wfits10 n v ka kc w h10 hvk hk8
    by_cases h12 : n.kind = 11 ∨ n.kind = 12
    · exact wfits12 n v ka kc w h12 hvk hk8
    · exact wfits9 n v ka kc w (by omega) sn hl hts hvk hk8
  · have Q := hide hvk
    have hb : (v.kind != n.kind) = true := by simpa using hvk
    clear hl hts
    go_enter Tryz.func148, Tryz.ntmps148
    go_wp2
    go_ret
    exact reto_no (fun h => Q.out h.1) (((Below.refl _ _).alloc (Nat.le_refl _) _).alloc (by simp) _)
end Go.Proofs.YtkkicodfpekbgaaGreatDoor
