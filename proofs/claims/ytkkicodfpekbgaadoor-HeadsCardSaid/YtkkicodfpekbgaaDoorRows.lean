/-
  NARROWER THAN 'FOR EVERY INPUT', by the rows' own cells (each row's printed sentence says how): Heads: laid · Headed: laid.
  DERIVED. THE GIVEN ROWS OF THIS SEAT. 2 by the template 'for every input the law returns true; each argument reads behind the call as it read before'; 0 by the template 'total and deterministic' (their statements: YtkkicodfpekbgaaDoorTotals.lean).
  GIVEN WITH THE SEED: the statements are not yours to turn. If you find one false, say at which input.
  Laid BY PROGRAM, IN A SANDBOX (cutbox-rows.mjs): the forced cells as the released guide's own fill.sh prints them over the translation 4ed4c5316cd06003… (all of the seat's roots in one cut). By AI agents, Wed Nov 11 2026. No macro, syntax, notation, axiom, sorry.
-/
import Derived.Test.YtkkicodfpekbgaaDoorChecked
import GoSem.Claim
import GoSem.ClaimJoined
import GoSem.ClaimMapViews
import Derived.JoinedTies
import Derived.KernelRfl
namespace Go.Proofs.YtkkicodfpekbgaaDoor
/- THE CELL 'sum', in the pinned program and in every row, IS THE sha256 OF THE DUMP (.gsa) THAT YtkkicodfpekbgaaDoorProg.lean LOADS. Nothing in Lean hashes anything: it is a label: what it is worth is what the hold of that sum in a sandbox is worth. -/
noncomputable def Tryd.pinned : Pinned := { name := "ytkkicodfpekbgaadoor", sum := "4ed4c5316cd060038ef59627fc1a22fdcce77de429f0f7a3c64e567bfbbc1815", checked := Tryd.checked }
namespace Rows
def none {H : Type} : Left H := { results := [], args := [] }

/- WHAT THE LISTED PACKAGE-LEVEL VARIABLES READ AS WHEN THE CALL BEGINS. Each datum BY PROGRAM (the guide's laid-datum.mjs) off the statement by which the dump's own 'gosem.cut.vars' lays the variable. In a bare row this is a premise. The card (YtkkicodfpekbgaaDoorCards.lean) ties it to the program's text. -/
def laid_hallmark_fault_Long {H : Type} : DataW H := .iface "*errors.errorString" (.ptr (.agg [.lit (.string [116, 111, 111, 32, 109, 97, 110, 121, 32, 98, 121, 116, 101, 115])]))
def laid_hallmark_fault_End {H : Type} : DataW H := .iface "*errors.errorString" (.ptr (.agg [.lit (.string [116, 104, 101, 32, 98, 121, 116, 101, 115, 32, 101, 110, 100])]))
def laid_hallmark_fault_Tag {H : Type} : DataW H := .iface "*errors.errorString" (.ptr (.agg [.lit (.string [97, 110, 111, 116, 104, 101, 114, 32, 116, 97, 103])]))
def laid_hallmark_fault_Length {H : Type} : DataW H := .iface "*errors.errorString" (.ptr (.agg [.lit (.string [97, 32, 108, 101, 110, 103, 116, 104, 32, 110, 111, 116, 32, 116, 111, 108, 100, 32, 97, 115, 32, 105, 116, 32, 109, 117, 115, 116, 32, 98, 101])]))
def laid_hallmark_fault_Value {H : Type} : DataW H := .iface "*errors.errorString" (.ptr (.agg [.lit (.string [97, 32, 99, 111, 110, 116, 101, 110, 116, 32, 116, 104, 97, 116, 32, 109, 97, 121, 32, 110, 111, 116, 32, 98, 101])]))
def laid_hallmark_fault_More {H : Type} : DataW H := .iface "*errors.errorString" (.ptr (.agg [.lit (.string [98, 121, 116, 101, 115, 32, 116, 111, 111, 32, 109, 97, 110, 121])]))
def laid_hallmark_fault_Order {H : Type} : DataW H := .iface "*errors.errorString" (.ptr (.agg [.lit (.string [110, 111, 116, 32, 105, 110, 32, 114, 105, 115, 105, 110, 103, 32, 111, 114, 100, 101, 114])]))
def laid_hallmark_fault_Default {H : Type} : DataW H := .iface "*errors.errorString" (.ptr (.agg [.lit (.string [97, 32, 68, 101, 102, 97, 117, 108, 116, 32, 116, 104, 97, 116, 32, 105, 115, 32, 116, 111, 108, 100])]))
def laid_hallmark_fault_Deep {H : Type} : DataW H := .iface "*errors.errorString" (.ptr (.agg [.lit (.string [116, 111, 111, 32, 100, 101, 101, 112])]))
def laid_hallmark_fault_Tree {H : Type} : DataW H := .iface "*errors.errorString" (.ptr (.agg [.lit (.string [110, 111, 32, 116, 114, 101, 101, 32, 111, 102, 32, 116, 104, 101, 32, 110, 111, 100, 101])]))
def laid_hallmark_fault_Card {H : Type} : DataW H := .iface "*errors.errorString" (.ptr (.agg [.lit (.string [110, 111, 32, 99, 97, 114, 100])]))
def laid_hallmark_fault_Mark {H : Type} : DataW H := .iface "*errors.errorString" (.ptr (.agg [.lit (.string [97, 32, 109, 97, 114, 107, 32, 116, 104, 97, 116, 32, 109, 97, 121, 32, 110, 111, 116, 32, 98, 101])]))

/-- 'hallmarklaw.Heads': WHATEVER THE INPUT: true; the input reads as it did. -/
def headsSpec : ChangeSpec := { name := "heads", fn := fun _ => fun
  | [d1, d2] => { results := [.lit (.bool true)], args := [d1, d2] }
  | _ => none }
def headsRow : OpenClaim := { program := "ytkkicodfpekbgaadoor", sum := "4ed4c5316cd060038ef59627fc1a22fdcce77de429f0f7a3c64e567bfbbc1815", func := "hallmark/hallmarklaw.Heads", spec := "heads", inPlace := ["internal/reflectlite.TypeOf"], unfollowed := true, recurses := true, named := ["hallmark/fault.End", "hallmark/fault.Tag", "hallmark/fault.Length", "hallmark/fault.Long", "hallmark/fault.Value", "hallmark/fault.More", "hallmark/fault.Order", "hallmark/fault.Default", "hallmark/fault.Deep", "hallmark/fault.Tree", "hallmark/fault.Card", "hallmark/fault.Mark"], apart := false, laid := [("hallmark/fault.Long", laid_hallmark_fault_Long), ("hallmark/fault.End", laid_hallmark_fault_End), ("hallmark/fault.Tag", laid_hallmark_fault_Tag), ("hallmark/fault.Length", laid_hallmark_fault_Length), ("hallmark/fault.Value", laid_hallmark_fault_Value), ("hallmark/fault.More", laid_hallmark_fault_More), ("hallmark/fault.Order", laid_hallmark_fault_Order), ("hallmark/fault.Default", laid_hallmark_fault_Default), ("hallmark/fault.Deep", laid_hallmark_fault_Deep), ("hallmark/fault.Tree", laid_hallmark_fault_Tree), ("hallmark/fault.Card", laid_hallmark_fault_Card), ("hallmark/fault.Mark", laid_hallmark_fault_Mark)] }
def HeadsSaid : Prop := headsRow.holds Tryd.pinned (OpenSpec.ofChange headsSpec)

/-- ITS FALSE NEIGHBOUR: 'it returns false'. Refute it at one input. -/
def headsWrong : ChangeSpec := { name := "heads", fn := fun _ => fun
  | [d1, d2] => { results := [.lit (.bool false)], args := [d1, d2] }
  | _ => none }
def HeadsWrongFalsely : Prop := headsRow.holds Tryd.pinned (OpenSpec.ofChange headsWrong)

/-- 'hallmarkkeep.Headed': WHATEVER THE INPUT: true; the input reads as it did. -/
def headedSpec : ChangeSpec := { name := "headed", fn := fun _ => fun
  | [d1, d2, d3, d4, d5] => { results := [.lit (.bool true)], args := [d1, d2, d3, d4, d5] }
  | _ => none }
def headedRow : OpenClaim := { program := "ytkkicodfpekbgaadoor", sum := "4ed4c5316cd060038ef59627fc1a22fdcce77de429f0f7a3c64e567bfbbc1815", func := "hallmark/hallmarkkeep.Headed", spec := "headed", inPlace := ["internal/reflectlite.TypeOf"], unfollowed := true, recurses := true, named := ["hallmark/fault.Tag", "hallmark/fault.Length", "hallmark/fault.Long", "hallmark/fault.End", "hallmark/fault.Value", "hallmark/fault.More", "hallmark/fault.Order", "hallmark/fault.Default", "hallmark/fault.Deep", "hallmark/fault.Tree", "hallmark/fault.Card", "hallmark/fault.Mark"], apart := false, laid := [("hallmark/fault.Long", laid_hallmark_fault_Long), ("hallmark/fault.End", laid_hallmark_fault_End), ("hallmark/fault.Tag", laid_hallmark_fault_Tag), ("hallmark/fault.Length", laid_hallmark_fault_Length), ("hallmark/fault.Value", laid_hallmark_fault_Value), ("hallmark/fault.More", laid_hallmark_fault_More), ("hallmark/fault.Order", laid_hallmark_fault_Order), ("hallmark/fault.Default", laid_hallmark_fault_Default), ("hallmark/fault.Deep", laid_hallmark_fault_Deep), ("hallmark/fault.Tree", laid_hallmark_fault_Tree), ("hallmark/fault.Card", laid_hallmark_fault_Card), ("hallmark/fault.Mark", laid_hallmark_fault_Mark)] }
def HeadedSaid : Prop := headedRow.holds Tryd.pinned (OpenSpec.ofChange headedSpec)

/-- ITS FALSE NEIGHBOUR: 'it returns false'. Refute it at one input. -/
def headedWrong : ChangeSpec := { name := "headed", fn := fun _ => fun
  | [d1, d2, d3, d4, d5] => { results := [.lit (.bool false)], args := [d1, d2, d3, d4, d5] }
  | _ => none }
def HeadedWrongFalsely : Prop := headedRow.holds Tryd.pinned (OpenSpec.ofChange headedWrong)

/- THE SECOND FORM. 'bulk': how many values and letters a reading holds, each counted each time it is reached (what is shared counts as often as it is met; a slice's spare places count too). A statement '..UptoSaid' is the law's where the arguments, and the package variables that the reading takes, are together of bulk at most 1048576: NARROWER than '..Said'. Prove '..Said' where nothing that the law and all that it calls make is longer than what came in: it says more and counts as full. Else prove '..UptoSaid'. A law counts once. -/
mutual
def uptoBulk {H : Type} : DataW H → Nat
  | .lit (.string bytes) => bytes.length + 1
  | .lit _ => 1
  | .nil => 1
  | .ptr d => uptoBulk d + 1
  | .slice elems spare => uptoBulkAll elems + uptoBulkAll spare + 1
  | .agg parts => uptoBulkAll parts + 1
  | .iface _ d => uptoBulk d + 1
  | .map entries => uptoBulkEntries entries + 1
  | .held _ => 1
def uptoBulkAll {H : Type} : List (DataW H) → Nat
  | [] => 0
  | d :: r => uptoBulk d + uptoBulkAll r
def uptoBulkEntries {H : Type} : List (Lit × DataW H) → Nat
  | [] => 0
  | x :: r => uptoBulkEntry x + uptoBulkEntries r
def uptoBulkEntry {H : Type} : Lit × DataW H → Nat
  | (.string bytes, d) => bytes.length + uptoBulk d + 1
  | (_, d) => uptoBulk d + 1
 end
def uptoSmall : (H : Type) → List (DataW H) → Bool := fun _ ds => decide (uptoBulkAll ds ≤ 1048576)
def OpenSpec.upto (s : _root_.Go.ChangeSpec) : _root_.Go.OpenSpec := { _root_.Go.OpenSpec.ofChange s with cond := some uptoSmall }

/-- 'hallmarklaw.Heads', WHERE WHAT IT READS IS OF BULK AT MOST 1048576: true; the input reads as it did. -/
def headsUptoRow : OpenClaim := { program := "ytkkicodfpekbgaadoor", sum := "4ed4c5316cd060038ef59627fc1a22fdcce77de429f0f7a3c64e567bfbbc1815", func := "hallmark/hallmarklaw.Heads", spec := "heads", inPlace := ["internal/reflectlite.TypeOf"], unfollowed := true, recurses := true, named := ["hallmark/fault.End", "hallmark/fault.Tag", "hallmark/fault.Length", "hallmark/fault.Long", "hallmark/fault.Value", "hallmark/fault.More", "hallmark/fault.Order", "hallmark/fault.Default", "hallmark/fault.Deep", "hallmark/fault.Tree", "hallmark/fault.Card", "hallmark/fault.Mark"], apart := false, laid := [("hallmark/fault.Long", laid_hallmark_fault_Long), ("hallmark/fault.End", laid_hallmark_fault_End), ("hallmark/fault.Tag", laid_hallmark_fault_Tag), ("hallmark/fault.Length", laid_hallmark_fault_Length), ("hallmark/fault.Value", laid_hallmark_fault_Value), ("hallmark/fault.More", laid_hallmark_fault_More), ("hallmark/fault.Order", laid_hallmark_fault_Order), ("hallmark/fault.Default", laid_hallmark_fault_Default), ("hallmark/fault.Deep", laid_hallmark_fault_Deep), ("hallmark/fault.Tree", laid_hallmark_fault_Tree), ("hallmark/fault.Card", laid_hallmark_fault_Card), ("hallmark/fault.Mark", laid_hallmark_fault_Mark)], narrowed := true }
def HeadsUptoSaid : Prop := headsUptoRow.holds Tryd.pinned (OpenSpec.upto headsSpec)

/-- 'hallmarkkeep.Headed', WHERE WHAT IT READS IS OF BULK AT MOST 1048576: true; the input reads as it did. -/
def headedUptoRow : OpenClaim := { program := "ytkkicodfpekbgaadoor", sum := "4ed4c5316cd060038ef59627fc1a22fdcce77de429f0f7a3c64e567bfbbc1815", func := "hallmark/hallmarkkeep.Headed", spec := "headed", inPlace := ["internal/reflectlite.TypeOf"], unfollowed := true, recurses := true, named := ["hallmark/fault.Tag", "hallmark/fault.Length", "hallmark/fault.Long", "hallmark/fault.End", "hallmark/fault.Value", "hallmark/fault.More", "hallmark/fault.Order", "hallmark/fault.Default", "hallmark/fault.Deep", "hallmark/fault.Tree", "hallmark/fault.Card", "hallmark/fault.Mark"], apart := false, laid := [("hallmark/fault.Long", laid_hallmark_fault_Long), ("hallmark/fault.End", laid_hallmark_fault_End), ("hallmark/fault.Tag", laid_hallmark_fault_Tag), ("hallmark/fault.Length", laid_hallmark_fault_Length), ("hallmark/fault.Value", laid_hallmark_fault_Value), ("hallmark/fault.More", laid_hallmark_fault_More), ("hallmark/fault.Order", laid_hallmark_fault_Order), ("hallmark/fault.Default", laid_hallmark_fault_Default), ("hallmark/fault.Deep", laid_hallmark_fault_Deep), ("hallmark/fault.Tree", laid_hallmark_fault_Tree), ("hallmark/fault.Card", laid_hallmark_fault_Card), ("hallmark/fault.Mark", laid_hallmark_fault_Mark)], narrowed := true }
def HeadedUptoSaid : Prop := headedUptoRow.holds Tryd.pinned (OpenSpec.upto headedSpec)

end Rows
end Go.Proofs.YtkkicodfpekbgaaDoor
