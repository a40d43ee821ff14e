/-
  What the condition on the package's variables gives: the errors, each at a place of its own; a world that meets it; how arguments open.
-/
import Derived.Test.YtkkicodfpekbgaaDoorHs
import Derived.Test.YtkkicodfpekbgaaDoorCards
import Derived.Test.YtkkicodfpekbgaaDoorTie
import Derived.ProofKit
import Derived.LaidMore
import Derived.OpenShut
import Derived.Stop.Joined
import Derived.Stop.LaidErr
import Derived.Lib.SmallJoins
namespace Go.Proofs.YtkkicodfpekbgaaDoor
open Go.ChangeShapes Go.WideShapes Go.ChangeAt Go.WideMaps Go.WideElems Go.RowKit
set_option maxRecDepth 100000

theorem Tryd.own : ownKnob Tryd.prog.godebug = none := by kernel_rfl
theorem Tryd.laidOut : laidOutB Tryd.prog = true := by kernel_rfl
theorem Tryd.gCard : Tryd.prog.globalNamed "hallmark/fault.Card" = some 10 := by kernel_rfl
theorem Tryd.gtCard : (Tryd.prog.globals[10]?).map (·.type) = some 39 := by kernel_rfl
theorem Tryd.gDeep : Tryd.prog.globalNamed "hallmark/fault.Deep" = some 8 := by kernel_rfl
theorem Tryd.gtDeep : (Tryd.prog.globals[8]?).map (·.type) = some 39 := by kernel_rfl
theorem Tryd.gDefault : Tryd.prog.globalNamed "hallmark/fault.Default" = some 7 := by kernel_rfl
theorem Tryd.gtDefault : (Tryd.prog.globals[7]?).map (·.type) = some 39 := by kernel_rfl
theorem Tryd.gEnd : Tryd.prog.globalNamed "hallmark/fault.End" = some 0 := by kernel_rfl
theorem Tryd.gtEnd : (Tryd.prog.globals[0]?).map (·.type) = some 39 := by kernel_rfl
theorem Tryd.gLength : Tryd.prog.globalNamed "hallmark/fault.Length" = some 3 := by kernel_rfl
theorem Tryd.gtLength : (Tryd.prog.globals[3]?).map (·.type) = some 39 := by kernel_rfl
theorem Tryd.gLong : Tryd.prog.globalNamed "hallmark/fault.Long" = some 2 := by kernel_rfl
theorem Tryd.gtLong : (Tryd.prog.globals[2]?).map (·.type) = some 39 := by kernel_rfl
theorem Tryd.gMark : Tryd.prog.globalNamed "hallmark/fault.Mark" = some 11 := by kernel_rfl
theorem Tryd.gtMark : (Tryd.prog.globals[11]?).map (·.type) = some 39 := by kernel_rfl
theorem Tryd.gMore : Tryd.prog.globalNamed "hallmark/fault.More" = some 5 := by kernel_rfl
theorem Tryd.gtMore : (Tryd.prog.globals[5]?).map (·.type) = some 39 := by kernel_rfl
theorem Tryd.gOrder : Tryd.prog.globalNamed "hallmark/fault.Order" = some 6 := by kernel_rfl
theorem Tryd.gtOrder : (Tryd.prog.globals[6]?).map (·.type) = some 39 := by kernel_rfl
theorem Tryd.gTag : Tryd.prog.globalNamed "hallmark/fault.Tag" = some 1 := by kernel_rfl
theorem Tryd.gtTag : (Tryd.prog.globals[1]?).map (·.type) = some 39 := by kernel_rfl
theorem Tryd.gTree : Tryd.prog.globalNamed "hallmark/fault.Tree" = some 9 := by kernel_rfl
theorem Tryd.gtTree : (Tryd.prog.globals[9]?).map (·.type) = some 39 := by kernel_rfl
theorem Tryd.gValue : Tryd.prog.globalNamed "hallmark/fault.Value" = some 4 := by kernel_rfl
theorem Tryd.gtValue : (Tryd.prog.globals[4]?).map (·.type) = some 39 := by kernel_rfl
theorem Tryd.cellsE : Tryd.prog.cellsOf 98 = 1 := by kernel_rfl
theorem Tryd.cellsS : Tryd.prog.cellsOf 9 = 1 := by kernel_rfl
theorem Tryd.cellsI : Tryd.prog.cellsOf 3 = 1 := by kernel_rfl
theorem Tryd.cellsB : Tryd.prog.cellsOf 4 = 1 := by kernel_rfl
theorem Tryd.cellsH : Tryd.prog.cellsOf 23 = 5 := by kernel_rfl
theorem Tryd.star : "*" ++ "errors.errorString" = "*errors.errorString" := by decide
theorem Tryd.rowE (u : TypeId) (h : Tryd.prog.typeName? 3 u = some "*errors.errorString") : u = 72 :=
  typeName_ptr_named (nm := "errors.errorString") (by rw [Tryd.star]; kernel_rfl) (by kernel_rfl) (by decide) u (by rw [Tryd.star]; exact h)

set_option maxHeartbeats 4000000 in
theorem sent_of_laid_heads {W : World} (h : laidMetH Tryd.prog [("hallmark/fault.Long", Rows.laid_hallmark_fault_Long), ("hallmark/fault.End", Rows.laid_hallmark_fault_End), ("hallmark/fault.Tag", Rows.laid_hallmark_fault_Tag), ("hallmark/fault.Length", Rows.laid_hallmark_fault_Length), ("hallmark/fault.Value", Rows.laid_hallmark_fault_Value), ("hallmark/fault.More", Rows.laid_hallmark_fault_More), ("hallmark/fault.Order", Rows.laid_hallmark_fault_Order), ("hallmark/fault.Default", Rows.laid_hallmark_fault_Default), ("hallmark/fault.Deep", Rows.laid_hallmark_fault_Deep), ("hallmark/fault.Tree", Rows.laid_hallmark_fault_Tree), ("hallmark/fault.Card", Rows.laid_hallmark_fault_Card), ("hallmark/fault.Mark", Rows.laid_hallmark_fault_Mark)] W) : ∃ sn, Sent W sn := by
  rw [MakeChecks.laidMetH_plain _ _ _ (by kernel_rfl)] at h
  obtain ⟨ps, ⟨g0, t0, cs0, f0, p0, q0, hg0, ht0, hv0, hd0, ⟨g1, t1, cs1, f1, p1, q1, hg1, ht1, hv1, hd1, ⟨g2, t2, cs2, f2, p2, q2, hg2, ht2, hv2, hd2, ⟨g3, t3, cs3, f3, p3, q3, hg3, ht3, hv3, hd3, ⟨g4, t4, cs4, f4, p4, q4, hg4, ht4, hv4, hd4, ⟨g5, t5, cs5, f5, p5, q5, hg5, ht5, hv5, hd5, ⟨g6, t6, cs6, f6, p6, q6, hg6, ht6, hv6, hd6, ⟨g7, t7, cs7, f7, p7, q7, hg7, ht7, hv7, hd7, ⟨g8, t8, cs8, f8, p8, q8, hg8, ht8, hv8, hd8, ⟨g9, t9, cs9, f9, p9, q9, hg9, ht9, hv9, hd9, ⟨g10, t10, cs10, f10, p10, q10, hg10, ht10, hv10, hd10, ⟨g11, t11, cs11, f11, p11, q11, hg11, ht11, hv11, hd11, _, e11⟩, e10⟩, e9⟩, e8⟩, e7⟩, e6⟩, e5⟩, e4⟩, e3⟩, e2⟩, e1⟩, e0⟩, hnd, hrows⟩ := h
  obtain rfl := Option.some.inj (Tryd.gLong.symm.trans hg0)
  obtain rfl := Option.some.inj (Tryd.gtLong.symm.trans ht0)
  obtain rfl := Option.some.inj (Tryd.gEnd.symm.trans hg1)
  obtain rfl := Option.some.inj (Tryd.gtEnd.symm.trans ht1)
  obtain rfl := Option.some.inj (Tryd.gTag.symm.trans hg2)
  obtain rfl := Option.some.inj (Tryd.gtTag.symm.trans ht2)
  obtain rfl := Option.some.inj (Tryd.gLength.symm.trans hg3)
  obtain rfl := Option.some.inj (Tryd.gtLength.symm.trans ht3)
  obtain rfl := Option.some.inj (Tryd.gValue.symm.trans hg4)
  obtain rfl := Option.some.inj (Tryd.gtValue.symm.trans ht4)
  obtain rfl := Option.some.inj (Tryd.gMore.symm.trans hg5)
  obtain rfl := Option.some.inj (Tryd.gtMore.symm.trans ht5)
  obtain rfl := Option.some.inj (Tryd.gOrder.symm.trans hg6)
  obtain rfl := Option.some.inj (Tryd.gtOrder.symm.trans ht6)
  obtain rfl := Option.some.inj (Tryd.gDefault.symm.trans hg7)
  obtain rfl := Option.some.inj (Tryd.gtDefault.symm.trans ht7)
  obtain rfl := Option.some.inj (Tryd.gDeep.symm.trans hg8)
  obtain rfl := Option.some.inj (Tryd.gtDeep.symm.trans ht8)
  obtain rfl := Option.some.inj (Tryd.gTree.symm.trans hg9)
  obtain rfl := Option.some.inj (Tryd.gtTree.symm.trans ht9)
  obtain rfl := Option.some.inj (Tryd.gCard.symm.trans hg10)
  obtain rfl := Option.some.inj (Tryd.gtCard.symm.trans ht10)
  obtain rfl := Option.some.inj (Tryd.gMark.symm.trans hg11)
  obtain rfl := Option.some.inj (Tryd.gtMark.symm.trans ht11)
  subst e11
  subst e10
  subst e9
  subst e8
  subst e7
  subst e6
  subst e5
  subst e4
  subst e3
  subst e2
  subst e1
  subst e0
  obtain ⟨l0⟩ := cs0
  have ok0 : ∀ u v, l0 = [.iface u v] → Value.okWide Tryd.prog W .any 0 u v := fun u v e => by
    subst e
    exact (hrows 2 0 (by simp [MemPlace.row])).2 u v (by simpa using World.var?_cell hg0 hv0 0)
  obtain ⟨l1⟩ := cs1
  have ok1 : ∀ u v, l1 = [.iface u v] → Value.okWide Tryd.prog W .any 0 u v := fun u v e => by
    subst e
    exact (hrows 0 0 (by simp [MemPlace.row])).2 u v (by simpa using World.var?_cell hg1 hv1 0)
  obtain ⟨l2⟩ := cs2
  have ok2 : ∀ u v, l2 = [.iface u v] → Value.okWide Tryd.prog W .any 0 u v := fun u v e => by
    subst e
    exact (hrows 1 0 (by simp [MemPlace.row])).2 u v (by simpa using World.var?_cell hg2 hv2 0)
  obtain ⟨l3⟩ := cs3
  have ok3 : ∀ u v, l3 = [.iface u v] → Value.okWide Tryd.prog W .any 0 u v := fun u v e => by
    subst e
    exact (hrows 3 0 (by simp [MemPlace.row])).2 u v (by simpa using World.var?_cell hg3 hv3 0)
  obtain ⟨l4⟩ := cs4
  have ok4 : ∀ u v, l4 = [.iface u v] → Value.okWide Tryd.prog W .any 0 u v := fun u v e => by
    subst e
    exact (hrows 4 0 (by simp [MemPlace.row])).2 u v (by simpa using World.var?_cell hg4 hv4 0)
  obtain ⟨l5⟩ := cs5
  have ok5 : ∀ u v, l5 = [.iface u v] → Value.okWide Tryd.prog W .any 0 u v := fun u v e => by
    subst e
    exact (hrows 5 0 (by simp [MemPlace.row])).2 u v (by simpa using World.var?_cell hg5 hv5 0)
  obtain ⟨l6⟩ := cs6
  have ok6 : ∀ u v, l6 = [.iface u v] → Value.okWide Tryd.prog W .any 0 u v := fun u v e => by
    subst e
    exact (hrows 6 0 (by simp [MemPlace.row])).2 u v (by simpa using World.var?_cell hg6 hv6 0)
  obtain ⟨l7⟩ := cs7
  have ok7 : ∀ u v, l7 = [.iface u v] → Value.okWide Tryd.prog W .any 0 u v := fun u v e => by
    subst e
    exact (hrows 7 0 (by simp [MemPlace.row])).2 u v (by simpa using World.var?_cell hg7 hv7 0)
  obtain ⟨l8⟩ := cs8
  have ok8 : ∀ u v, l8 = [.iface u v] → Value.okWide Tryd.prog W .any 0 u v := fun u v e => by
    subst e
    exact (hrows 8 0 (by simp [MemPlace.row])).2 u v (by simpa using World.var?_cell hg8 hv8 0)
  obtain ⟨l9⟩ := cs9
  have ok9 : ∀ u v, l9 = [.iface u v] → Value.okWide Tryd.prog W .any 0 u v := fun u v e => by
    subst e
    exact (hrows 9 0 (by simp [MemPlace.row])).2 u v (by simpa using World.var?_cell hg9 hv9 0)
  obtain ⟨l10⟩ := cs10
  have ok10 : ∀ u v, l10 = [.iface u v] → Value.okWide Tryd.prog W .any 0 u v := fun u v e => by
    subst e
    exact (hrows 10 0 (by simp [MemPlace.row])).2 u v (by simpa using World.var?_cell hg10 hv10 0)
  obtain ⟨l11⟩ := cs11
  have ok11 : ∀ u v, l11 = [.iface u v] → Value.okWide Tryd.prog W .any 0 u v := fun u v e => by
    subst e
    exact (hrows 11 0 (by simp [MemPlace.row])).2 u v (by simpa using World.var?_cell hg11 hv11 0)
  obtain ⟨a0, s0, rfl, hc0, hs0, hz0, rfl⟩ := errorString_of_trod Tryd.underlying39 Tryd.rowE Tryd.underlying72 Tryd.underlying98 rfl rfl Tryd.underlying9 Tryd.cellsE Tryd.cellsS hd0 ok0
  obtain ⟨a1, s1, rfl, hc1, hs1, hz1, rfl⟩ := errorString_of_trod Tryd.underlying39 Tryd.rowE Tryd.underlying72 Tryd.underlying98 rfl rfl Tryd.underlying9 Tryd.cellsE Tryd.cellsS hd1 ok1
  obtain ⟨a2, s2, rfl, hc2, hs2, hz2, rfl⟩ := errorString_of_trod Tryd.underlying39 Tryd.rowE Tryd.underlying72 Tryd.underlying98 rfl rfl Tryd.underlying9 Tryd.cellsE Tryd.cellsS hd2 ok2
  obtain ⟨a3, s3, rfl, hc3, hs3, hz3, rfl⟩ := errorString_of_trod Tryd.underlying39 Tryd.rowE Tryd.underlying72 Tryd.underlying98 rfl rfl Tryd.underlying9 Tryd.cellsE Tryd.cellsS hd3 ok3
  obtain ⟨a4, s4, rfl, hc4, hs4, hz4, rfl⟩ := errorString_of_trod Tryd.underlying39 Tryd.rowE Tryd.underlying72 Tryd.underlying98 rfl rfl Tryd.underlying9 Tryd.cellsE Tryd.cellsS hd4 ok4
  obtain ⟨a5, s5, rfl, hc5, hs5, hz5, rfl⟩ := errorString_of_trod Tryd.underlying39 Tryd.rowE Tryd.underlying72 Tryd.underlying98 rfl rfl Tryd.underlying9 Tryd.cellsE Tryd.cellsS hd5 ok5
  obtain ⟨a6, s6, rfl, hc6, hs6, hz6, rfl⟩ := errorString_of_trod Tryd.underlying39 Tryd.rowE Tryd.underlying72 Tryd.underlying98 rfl rfl Tryd.underlying9 Tryd.cellsE Tryd.cellsS hd6 ok6
  obtain ⟨a7, s7, rfl, hc7, hs7, hz7, rfl⟩ := errorString_of_trod Tryd.underlying39 Tryd.rowE Tryd.underlying72 Tryd.underlying98 rfl rfl Tryd.underlying9 Tryd.cellsE Tryd.cellsS hd7 ok7
  obtain ⟨a8, s8, rfl, hc8, hs8, hz8, rfl⟩ := errorString_of_trod Tryd.underlying39 Tryd.rowE Tryd.underlying72 Tryd.underlying98 rfl rfl Tryd.underlying9 Tryd.cellsE Tryd.cellsS hd8 ok8
  obtain ⟨a9, s9, rfl, hc9, hs9, hz9, rfl⟩ := errorString_of_trod Tryd.underlying39 Tryd.rowE Tryd.underlying72 Tryd.underlying98 rfl rfl Tryd.underlying9 Tryd.cellsE Tryd.cellsS hd9 ok9
  obtain ⟨a10, s10, rfl, hc10, hs10, hz10, rfl⟩ := errorString_of_trod Tryd.underlying39 Tryd.rowE Tryd.underlying72 Tryd.underlying98 rfl rfl Tryd.underlying9 Tryd.cellsE Tryd.cellsS hd10 ok10
  obtain ⟨a11, s11, rfl, hc11, hs11, hz11, rfl⟩ := errorString_of_trod Tryd.underlying39 Tryd.rowE Tryd.underlying72 Tryd.underlying98 rfl rfl Tryd.underlying9 Tryd.cellsE Tryd.cellsS hd11 ok11
  have n0_1 : a0 ≠ a1 := by rintro rfl; simp [MemPlace.row] at hnd
  have n0_2 : a0 ≠ a2 := by rintro rfl; simp [MemPlace.row] at hnd
  have n0_3 : a0 ≠ a3 := by rintro rfl; simp [MemPlace.row] at hnd
  have n0_4 : a0 ≠ a4 := by rintro rfl; simp [MemPlace.row] at hnd
  have n0_5 : a0 ≠ a5 := by rintro rfl; simp [MemPlace.row] at hnd
  have n0_6 : a0 ≠ a6 := by rintro rfl; simp [MemPlace.row] at hnd
  have n0_7 : a0 ≠ a7 := by rintro rfl; simp [MemPlace.row] at hnd
  have n0_8 : a0 ≠ a8 := by rintro rfl; simp [MemPlace.row] at hnd
  have n0_9 : a0 ≠ a9 := by rintro rfl; simp [MemPlace.row] at hnd
  have n0_10 : a0 ≠ a10 := by rintro rfl; simp [MemPlace.row] at hnd
  have n0_11 : a0 ≠ a11 := by rintro rfl; simp [MemPlace.row] at hnd
  have n1_2 : a1 ≠ a2 := by rintro rfl; simp [MemPlace.row] at hnd
  have n1_3 : a1 ≠ a3 := by rintro rfl; simp [MemPlace.row] at hnd
  have n1_4 : a1 ≠ a4 := by rintro rfl; simp [MemPlace.row] at hnd
  have n1_5 : a1 ≠ a5 := by rintro rfl; simp [MemPlace.row] at hnd
  have n1_6 : a1 ≠ a6 := by rintro rfl; simp [MemPlace.row] at hnd
  have n1_7 : a1 ≠ a7 := by rintro rfl; simp [MemPlace.row] at hnd
  have n1_8 : a1 ≠ a8 := by rintro rfl; simp [MemPlace.row] at hnd
  have n1_9 : a1 ≠ a9 := by rintro rfl; simp [MemPlace.row] at hnd
  have n1_10 : a1 ≠ a10 := by rintro rfl; simp [MemPlace.row] at hnd
  have n1_11 : a1 ≠ a11 := by rintro rfl; simp [MemPlace.row] at hnd
  have n2_3 : a2 ≠ a3 := by rintro rfl; simp [MemPlace.row] at hnd
  have n2_4 : a2 ≠ a4 := by rintro rfl; simp [MemPlace.row] at hnd
  have n2_5 : a2 ≠ a5 := by rintro rfl; simp [MemPlace.row] at hnd
  have n2_6 : a2 ≠ a6 := by rintro rfl; simp [MemPlace.row] at hnd
  have n2_7 : a2 ≠ a7 := by rintro rfl; simp [MemPlace.row] at hnd
  have n2_8 : a2 ≠ a8 := by rintro rfl; simp [MemPlace.row] at hnd
  have n2_9 : a2 ≠ a9 := by rintro rfl; simp [MemPlace.row] at hnd
  have n2_10 : a2 ≠ a10 := by rintro rfl; simp [MemPlace.row] at hnd
  have n2_11 : a2 ≠ a11 := by rintro rfl; simp [MemPlace.row] at hnd
  have n3_4 : a3 ≠ a4 := by rintro rfl; simp [MemPlace.row] at hnd
  have n3_5 : a3 ≠ a5 := by rintro rfl; simp [MemPlace.row] at hnd
  have n3_6 : a3 ≠ a6 := by rintro rfl; simp [MemPlace.row] at hnd
  have n3_7 : a3 ≠ a7 := by rintro rfl; simp [MemPlace.row] at hnd
  have n3_8 : a3 ≠ a8 := by rintro rfl; simp [MemPlace.row] at hnd
  have n3_9 : a3 ≠ a9 := by rintro rfl; simp [MemPlace.row] at hnd
  have n3_10 : a3 ≠ a10 := by rintro rfl; simp [MemPlace.row] at hnd
  have n3_11 : a3 ≠ a11 := by rintro rfl; simp [MemPlace.row] at hnd
  have n4_5 : a4 ≠ a5 := by rintro rfl; simp [MemPlace.row] at hnd
  have n4_6 : a4 ≠ a6 := by rintro rfl; simp [MemPlace.row] at hnd
  have n4_7 : a4 ≠ a7 := by rintro rfl; simp [MemPlace.row] at hnd
  have n4_8 : a4 ≠ a8 := by rintro rfl; simp [MemPlace.row] at hnd
  have n4_9 : a4 ≠ a9 := by rintro rfl; simp [MemPlace.row] at hnd
  have n4_10 : a4 ≠ a10 := by rintro rfl; simp [MemPlace.row] at hnd
  have n4_11 : a4 ≠ a11 := by rintro rfl; simp [MemPlace.row] at hnd
  have n5_6 : a5 ≠ a6 := by rintro rfl; simp [MemPlace.row] at hnd
  have n5_7 : a5 ≠ a7 := by rintro rfl; simp [MemPlace.row] at hnd
  have n5_8 : a5 ≠ a8 := by rintro rfl; simp [MemPlace.row] at hnd
  have n5_9 : a5 ≠ a9 := by rintro rfl; simp [MemPlace.row] at hnd
  have n5_10 : a5 ≠ a10 := by rintro rfl; simp [MemPlace.row] at hnd
  have n5_11 : a5 ≠ a11 := by rintro rfl; simp [MemPlace.row] at hnd
  have n6_7 : a6 ≠ a7 := by rintro rfl; simp [MemPlace.row] at hnd
  have n6_8 : a6 ≠ a8 := by rintro rfl; simp [MemPlace.row] at hnd
  have n6_9 : a6 ≠ a9 := by rintro rfl; simp [MemPlace.row] at hnd
  have n6_10 : a6 ≠ a10 := by rintro rfl; simp [MemPlace.row] at hnd
  have n6_11 : a6 ≠ a11 := by rintro rfl; simp [MemPlace.row] at hnd
  have n7_8 : a7 ≠ a8 := by rintro rfl; simp [MemPlace.row] at hnd
  have n7_9 : a7 ≠ a9 := by rintro rfl; simp [MemPlace.row] at hnd
  have n7_10 : a7 ≠ a10 := by rintro rfl; simp [MemPlace.row] at hnd
  have n7_11 : a7 ≠ a11 := by rintro rfl; simp [MemPlace.row] at hnd
  have n8_9 : a8 ≠ a9 := by rintro rfl; simp [MemPlace.row] at hnd
  have n8_10 : a8 ≠ a10 := by rintro rfl; simp [MemPlace.row] at hnd
  have n8_11 : a8 ≠ a11 := by rintro rfl; simp [MemPlace.row] at hnd
  have n9_10 : a9 ≠ a10 := by rintro rfl; simp [MemPlace.row] at hnd
  have n9_11 : a9 ≠ a11 := by rintro rfl; simp [MemPlace.row] at hnd
  have n10_11 : a10 ≠ a11 := by rintro rfl; simp [MemPlace.row] at hnd
  refine ⟨fun s => [a0, a1, a2, a3, a4, a5, a6, a7, a8, a9, a10, a11].getD s.val a0, ?_, ?_, ?_⟩
  · refine Sn.all ?_ ?_ ?_ ?_ ?_ ?_ ?_ ?_ ?_ ?_ ?_ ?_
    · show W.cell? ⟨2, 0, none⟩ = some (.iface 72 (.pointer (some a0))); simpa using World.var?_cell hg0 hv0 0
    · show W.cell? ⟨0, 0, none⟩ = some (.iface 72 (.pointer (some a1))); simpa using World.var?_cell hg1 hv1 0
    · show W.cell? ⟨1, 0, none⟩ = some (.iface 72 (.pointer (some a2))); simpa using World.var?_cell hg2 hv2 0
    · show W.cell? ⟨3, 0, none⟩ = some (.iface 72 (.pointer (some a3))); simpa using World.var?_cell hg3 hv3 0
    · show W.cell? ⟨4, 0, none⟩ = some (.iface 72 (.pointer (some a4))); simpa using World.var?_cell hg4 hv4 0
    · show W.cell? ⟨5, 0, none⟩ = some (.iface 72 (.pointer (some a5))); simpa using World.var?_cell hg5 hv5 0
    · show W.cell? ⟨6, 0, none⟩ = some (.iface 72 (.pointer (some a6))); simpa using World.var?_cell hg6 hv6 0
    · show W.cell? ⟨7, 0, none⟩ = some (.iface 72 (.pointer (some a7))); simpa using World.var?_cell hg7 hv7 0
    · show W.cell? ⟨8, 0, none⟩ = some (.iface 72 (.pointer (some a8))); simpa using World.var?_cell hg8 hv8 0
    · show W.cell? ⟨9, 0, none⟩ = some (.iface 72 (.pointer (some a9))); simpa using World.var?_cell hg9 hv9 0
    · show W.cell? ⟨10, 0, none⟩ = some (.iface 72 (.pointer (some a10))); simpa using World.var?_cell hg10 hv10 0
    · show W.cell? ⟨11, 0, none⟩ = some (.iface 72 (.pointer (some a11))); simpa using World.var?_cell hg11 hv11 0
  · refine Sn.all ?_ ?_ ?_ ?_ ?_ ?_ ?_ ?_ ?_ ?_ ?_ ?_
    · show ∃ c t, W.heap[a0.block]? = some (.cells c t (0, 0)); exact (hrows a0.block a0.off (by simp [MemPlace.row])).1
    · show ∃ c t, W.heap[a1.block]? = some (.cells c t (0, 0)); exact (hrows a1.block a1.off (by simp [MemPlace.row])).1
    · show ∃ c t, W.heap[a2.block]? = some (.cells c t (0, 0)); exact (hrows a2.block a2.off (by simp [MemPlace.row])).1
    · show ∃ c t, W.heap[a3.block]? = some (.cells c t (0, 0)); exact (hrows a3.block a3.off (by simp [MemPlace.row])).1
    · show ∃ c t, W.heap[a4.block]? = some (.cells c t (0, 0)); exact (hrows a4.block a4.off (by simp [MemPlace.row])).1
    · show ∃ c t, W.heap[a5.block]? = some (.cells c t (0, 0)); exact (hrows a5.block a5.off (by simp [MemPlace.row])).1
    · show ∃ c t, W.heap[a6.block]? = some (.cells c t (0, 0)); exact (hrows a6.block a6.off (by simp [MemPlace.row])).1
    · show ∃ c t, W.heap[a7.block]? = some (.cells c t (0, 0)); exact (hrows a7.block a7.off (by simp [MemPlace.row])).1
    · show ∃ c t, W.heap[a8.block]? = some (.cells c t (0, 0)); exact (hrows a8.block a8.off (by simp [MemPlace.row])).1
    · show ∃ c t, W.heap[a9.block]? = some (.cells c t (0, 0)); exact (hrows a9.block a9.off (by simp [MemPlace.row])).1
    · show ∃ c t, W.heap[a10.block]? = some (.cells c t (0, 0)); exact (hrows a10.block a10.off (by simp [MemPlace.row])).1
    · show ∃ c t, W.heap[a11.block]? = some (.cells c t (0, 0)); exact (hrows a11.block a11.off (by simp [MemPlace.row])).1
  · refine Sn.all ?_ ?_ ?_ ?_ ?_ ?_ ?_ ?_ ?_ ?_ ?_ ?_
    · exact Sn.all (fun _ => rfl) (fun h => absurd (show a0 = a1 from h) n0_1) (fun h => absurd (show a0 = a2 from h) n0_2) (fun h => absurd (show a0 = a3 from h) n0_3) (fun h => absurd (show a0 = a4 from h) n0_4) (fun h => absurd (show a0 = a5 from h) n0_5) (fun h => absurd (show a0 = a6 from h) n0_6) (fun h => absurd (show a0 = a7 from h) n0_7) (fun h => absurd (show a0 = a8 from h) n0_8) (fun h => absurd (show a0 = a9 from h) n0_9) (fun h => absurd (show a0 = a10 from h) n0_10) (fun h => absurd (show a0 = a11 from h) n0_11)
    · exact Sn.all (fun h => absurd (show a0 = a1 from h.symm) n0_1) (fun _ => rfl) (fun h => absurd (show a1 = a2 from h) n1_2) (fun h => absurd (show a1 = a3 from h) n1_3) (fun h => absurd (show a1 = a4 from h) n1_4) (fun h => absurd (show a1 = a5 from h) n1_5) (fun h => absurd (show a1 = a6 from h) n1_6) (fun h => absurd (show a1 = a7 from h) n1_7) (fun h => absurd (show a1 = a8 from h) n1_8) (fun h => absurd (show a1 = a9 from h) n1_9) (fun h => absurd (show a1 = a10 from h) n1_10) (fun h => absurd (show a1 = a11 from h) n1_11)
    · exact Sn.all (fun h => absurd (show a0 = a2 from h.symm) n0_2) (fun h => absurd (show a1 = a2 from h.symm) n1_2) (fun _ => rfl) (fun h => absurd (show a2 = a3 from h) n2_3) (fun h => absurd (show a2 = a4 from h) n2_4) (fun h => absurd (show a2 = a5 from h) n2_5) (fun h => absurd (show a2 = a6 from h) n2_6) (fun h => absurd (show a2 = a7 from h) n2_7) (fun h => absurd (show a2 = a8 from h) n2_8) (fun h => absurd (show a2 = a9 from h) n2_9) (fun h => absurd (show a2 = a10 from h) n2_10) (fun h => absurd (show a2 = a11 from h) n2_11)
    · exact Sn.all (fun h => absurd (show a0 = a3 from h.symm) n0_3) (fun h => absurd (show a1 = a3 from h.symm) n1_3) (fun h => absurd (show a2 = a3 from h.symm) n2_3) (fun _ => rfl) (fun h => absurd (show a3 = a4 from h) n3_4) (fun h => absurd (show a3 = a5 from h) n3_5) (fun h => absurd (show a3 = a6 from h) n3_6) (fun h => absurd (show a3 = a7 from h) n3_7) (fun h => absurd (show a3 = a8 from h) n3_8) (fun h => absurd (show a3 = a9 from h) n3_9) (fun h => absurd (show a3 = a10 from h) n3_10) (fun h => absurd (show a3 = a11 from h) n3_11)
    · exact Sn.all (fun h => absurd (show a0 = a4 from h.symm) n0_4) (fun h => absurd (show a1 = a4 from h.symm) n1_4) (fun h => absurd (show a2 = a4 from h.symm) n2_4) (fun h => absurd (show a3 = a4 from h.symm) n3_4) (fun _ => rfl) (fun h => absurd (show a4 = a5 from h) n4_5) (fun h => absurd (show a4 = a6 from h) n4_6) (fun h => absurd (show a4 = a7 from h) n4_7) (fun h => absurd (show a4 = a8 from h) n4_8) (fun h => absurd (show a4 = a9 from h) n4_9) (fun h => absurd (show a4 = a10 from h) n4_10) (fun h => absurd (show a4 = a11 from h) n4_11)
    · exact Sn.all (fun h => absurd (show a0 = a5 from h.symm) n0_5) (fun h => absurd (show a1 = a5 from h.symm) n1_5) (fun h => absurd (show a2 = a5 from h.symm) n2_5) (fun h => absurd (show a3 = a5 from h.symm) n3_5) (fun h => absurd (show a4 = a5 from h.symm) n4_5) (fun _ => rfl) (fun h => absurd (show a5 = a6 from h) n5_6) (fun h => absurd (show a5 = a7 from h) n5_7) (fun h => absurd (show a5 = a8 from h) n5_8) (fun h => absurd (show a5 = a9 from h) n5_9) (fun h => absurd (show a5 = a10 from h) n5_10) (fun h => absurd (show a5 = a11 from h) n5_11)
    · exact Sn.all (fun h => absurd (show a0 = a6 from h.symm) n0_6) (fun h => absurd (show a1 = a6 from h.symm) n1_6) (fun h => absurd (show a2 = a6 from h.symm) n2_6) (fun h => absurd (show a3 = a6 from h.symm) n3_6) (fun h => absurd (show a4 = a6 from h.symm) n4_6) (fun h => absurd (show a5 = a6 from h.symm) n5_6) (fun _ => rfl) (fun h => absurd (show a6 = a7 from h) n6_7) (fun h => absurd (show a6 = a8 from h) n6_8) (fun h => absurd (show a6 = a9 from h) n6_9) (fun h => absurd (show a6 = a10 from h) n6_10) (fun h => absurd (show a6 = a11 from h) n6_11)
    · exact Sn.all (fun h => absurd (show a0 = a7 from h.symm) n0_7) (fun h => absurd (show a1 = a7 from h.symm) n1_7) (fun h => absurd (show a2 = a7 from h.symm) n2_7) (fun h => absurd (show a3 = a7 from h.symm) n3_7) (fun h => absurd (show a4 = a7 from h.symm) n4_7) (fun h => absurd (show a5 = a7 from h.symm) n5_7) (fun h => absurd (show a6 = a7 from h.symm) n6_7) (fun _ => rfl) (fun h => absurd (show a7 = a8 from h) n7_8) (fun h => absurd (show a7 = a9 from h) n7_9) (fun h => absurd (show a7 = a10 from h) n7_10) (fun h => absurd (show a7 = a11 from h) n7_11)
    · exact Sn.all (fun h => absurd (show a0 = a8 from h.symm) n0_8) (fun h => absurd (show a1 = a8 from h.symm) n1_8) (fun h => absurd (show a2 = a8 from h.symm) n2_8) (fun h => absurd (show a3 = a8 from h.symm) n3_8) (fun h => absurd (show a4 = a8 from h.symm) n4_8) (fun h => absurd (show a5 = a8 from h.symm) n5_8) (fun h => absurd (show a6 = a8 from h.symm) n6_8) (fun h => absurd (show a7 = a8 from h.symm) n7_8) (fun _ => rfl) (fun h => absurd (show a8 = a9 from h) n8_9) (fun h => absurd (show a8 = a10 from h) n8_10) (fun h => absurd (show a8 = a11 from h) n8_11)
    · exact Sn.all (fun h => absurd (show a0 = a9 from h.symm) n0_9) (fun h => absurd (show a1 = a9 from h.symm) n1_9) (fun h => absurd (show a2 = a9 from h.symm) n2_9) (fun h => absurd (show a3 = a9 from h.symm) n3_9) (fun h => absurd (show a4 = a9 from h.symm) n4_9) (fun h => absurd (show a5 = a9 from h.symm) n5_9) (fun h => absurd (show a6 = a9 from h.symm) n6_9) (fun h => absurd (show a7 = a9 from h.symm) n7_9) (fun h => absurd (show a8 = a9 from h.symm) n8_9) (fun _ => rfl) (fun h => absurd (show a9 = a10 from h) n9_10) (fun h => absurd (show a9 = a11 from h) n9_11)
    · exact Sn.all (fun h => absurd (show a0 = a10 from h.symm) n0_10) (fun h => absurd (show a1 = a10 from h.symm) n1_10) (fun h => absurd (show a2 = a10 from h.symm) n2_10) (fun h => absurd (show a3 = a10 from h.symm) n3_10) (fun h => absurd (show a4 = a10 from h.symm) n4_10) (fun h => absurd (show a5 = a10 from h.symm) n5_10) (fun h => absurd (show a6 = a10 from h.symm) n6_10) (fun h => absurd (show a7 = a10 from h.symm) n7_10) (fun h => absurd (show a8 = a10 from h.symm) n8_10) (fun h => absurd (show a9 = a10 from h.symm) n9_10) (fun _ => rfl) (fun h => absurd (show a10 = a11 from h) n10_11)
    · exact Sn.all (fun h => absurd (show a0 = a11 from h.symm) n0_11) (fun h => absurd (show a1 = a11 from h.symm) n1_11) (fun h => absurd (show a2 = a11 from h.symm) n2_11) (fun h => absurd (show a3 = a11 from h.symm) n3_11) (fun h => absurd (show a4 = a11 from h.symm) n4_11) (fun h => absurd (show a5 = a11 from h.symm) n5_11) (fun h => absurd (show a6 = a11 from h.symm) n6_11) (fun h => absurd (show a7 = a11 from h.symm) n7_11) (fun h => absurd (show a8 = a11 from h.symm) n8_11) (fun h => absurd (show a9 = a11 from h.symm) n9_11) (fun h => absurd (show a10 = a11 from h.symm) n10_11) (fun _ => rfl)

/-- The heap that the start-up leaves meets the condition. -/
theorem door_met_heads (os : Os) (args : Array Value) : laidMetH Tryd.prog [("hallmark/fault.Long", Rows.laid_hallmark_fault_Long), ("hallmark/fault.End", Rows.laid_hallmark_fault_End), ("hallmark/fault.Tag", Rows.laid_hallmark_fault_Tag), ("hallmark/fault.Length", Rows.laid_hallmark_fault_Length), ("hallmark/fault.Value", Rows.laid_hallmark_fault_Value), ("hallmark/fault.More", Rows.laid_hallmark_fault_More), ("hallmark/fault.Order", Rows.laid_hallmark_fault_Order), ("hallmark/fault.Default", Rows.laid_hallmark_fault_Default), ("hallmark/fault.Deep", Rows.laid_hallmark_fault_Deep), ("hallmark/fault.Tree", Rows.laid_hallmark_fault_Tree), ("hallmark/fault.Card", Rows.laid_hallmark_fault_Card), ("hallmark/fault.Mark", Rows.laid_hallmark_fault_Mark)] ((World.doorLaid Tryd.prog 400 os).forCall (fun _ _ => 0) ⟨#[], args, []⟩).memory :=
  laidMetH_of_parts3 (fuel := 8) (laidMet_of_run' 8 (by kernel_rfl) (by kernel_rfl)) (by kernel_rfl) (by kernel_rfl)

theorem sent_of_laid_headed {W : World} (h : laidMetH Tryd.prog [("hallmark/fault.Long", Rows.laid_hallmark_fault_Long), ("hallmark/fault.End", Rows.laid_hallmark_fault_End), ("hallmark/fault.Tag", Rows.laid_hallmark_fault_Tag), ("hallmark/fault.Length", Rows.laid_hallmark_fault_Length), ("hallmark/fault.Value", Rows.laid_hallmark_fault_Value), ("hallmark/fault.More", Rows.laid_hallmark_fault_More), ("hallmark/fault.Order", Rows.laid_hallmark_fault_Order), ("hallmark/fault.Default", Rows.laid_hallmark_fault_Default), ("hallmark/fault.Deep", Rows.laid_hallmark_fault_Deep), ("hallmark/fault.Tree", Rows.laid_hallmark_fault_Tree), ("hallmark/fault.Card", Rows.laid_hallmark_fault_Card), ("hallmark/fault.Mark", Rows.laid_hallmark_fault_Mark)] W) : ∃ sn, Sent W sn := sent_of_laid_heads h
theorem door_met_headed (os : Os) (args : Array Value) : laidMetH Tryd.prog [("hallmark/fault.Long", Rows.laid_hallmark_fault_Long), ("hallmark/fault.End", Rows.laid_hallmark_fault_End), ("hallmark/fault.Tag", Rows.laid_hallmark_fault_Tag), ("hallmark/fault.Length", Rows.laid_hallmark_fault_Length), ("hallmark/fault.Value", Rows.laid_hallmark_fault_Value), ("hallmark/fault.More", Rows.laid_hallmark_fault_More), ("hallmark/fault.Order", Rows.laid_hallmark_fault_Order), ("hallmark/fault.Default", Rows.laid_hallmark_fault_Default), ("hallmark/fault.Deep", Rows.laid_hallmark_fault_Deep), ("hallmark/fault.Tree", Rows.laid_hallmark_fault_Tree), ("hallmark/fault.Card", Rows.laid_hallmark_fault_Card), ("hallmark/fault.Mark", Rows.laid_hallmark_fault_Mark)] ((World.doorLaid Tryd.prog 400 os).forCall (fun _ _ => 0) ⟨#[], args, []⟩).memory := door_met_heads os args

/-- A head that came in, as a value. -/
theorem open_head {H : Type} {enc : TypeId × Value → H} {W : World} {r : Reach} {b0 base : Nat} {sp : Nat → Bool} {held : Bool} {v : Value} {d : DataW H} {p : List MemPlace}
    (hv' : Value.okWide Tryd.prog W r b0 23 v) (h : DataW.Trod enc Tryd.prog W base sp held 23 v d p) : ∃ x : Hd, v = hv x := by
  obtain ⟨cs, rfl, hsz⟩ := okWide_struct Tryd.underlying23 hv'
  obtain ⟨fuel, hf⟩ := h
  obtain ⟨l⟩ := cs
  obtain ⟨xs, n, _, _, _, hlen, hel⟩ := DataW.trod_struct Tryd.underlying23 hf
  have hl5 : l.length = 5 := by rw [Tryd.cellsH] at hsz; simpa using hsz
  match l, hl5, xs, hlen, hel with
  | [c0, c1, c2, c3, c4], _, [x0, x1, x2, x3, x4], _, hel =>
    have k0 := hel 0 _ rfl
    have k1 := hel 1 _ rfl
    have k2 := hel 2 _ rfl
    have k3 := hel 3 _ rfl
    have k4 := hel 4 _ rfl
    obtain ⟨y0, e0, _⟩ := DataW.trod_int Tryd.underlying3 k0
    obtain ⟨y1, e1, _⟩ := DataW.trod_bool Tryd.underlying4 k1
    obtain ⟨y2, e2, _⟩ := DataW.trod_int Tryd.underlying3 k2
    obtain ⟨y3, e3, _⟩ := DataW.trod_int Tryd.underlying3 k3
    obtain ⟨y4, e4, _⟩ := DataW.trod_int Tryd.underlying3 k4
    simp [Value.cells, Tryd.cellsI, Tryd.cellsB] at e0 e1 e2 e3 e4
    subst e0 e1 e2 e3 e4
    exact ⟨⟨y0, y1, y2, y3, y4⟩, rfl⟩
end Go.Proofs.YtkkicodfpekbgaaDoor
