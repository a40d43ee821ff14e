/-
  What the condition on the package's variables gives: the three sentinels at three places; a world that meets it; how arguments open.
-/
import Derived.Test.YtjdebakjocekfaaDoorHs
import Derived.Test.YtjdebakjocekfaaDoorCards
import Derived.Test.YtjdebakjocekfaaDoorTie
import Derived.ProofKit
import Derived.LaidMore
import Derived.OpenShut
import Derived.Stop.Joined
import Derived.Stop.LaidErr
import Derived.Lib.SmallJoins
namespace Go.Proofs.YtjdebakjocekfaaDoor
open Go.ChangeShapes Go.WideShapes Go.ChangeAt Go.WideMaps Go.WideElems Go.RowKit
set_option maxRecDepth 100000

theorem Tryd.own : ownKnob Tryd.prog.godebug = none := by kernel_rfl
theorem Tryd.laidOut : laidOutB Tryd.prog = true := by kernel_rfl
theorem Tryd.gE : Tryd.prog.globalNamed "hallmark/fault.End" = some 0 := by kernel_rfl
theorem Tryd.gT : Tryd.prog.globalNamed "hallmark/fault.Tag" = some 1 := by kernel_rfl
theorem Tryd.gL : Tryd.prog.globalNamed "hallmark/fault.Length" = some 2 := by kernel_rfl
theorem Tryd.gEt : (Tryd.prog.globals[0]?).map (·.type) = some 44 := by kernel_rfl
theorem Tryd.gTt : (Tryd.prog.globals[1]?).map (·.type) = some 44 := by kernel_rfl
theorem Tryd.gLt : (Tryd.prog.globals[2]?).map (·.type) = some 44 := by kernel_rfl
theorem Tryd.cellsE : Tryd.prog.cellsOf 176 = 1 := by kernel_rfl
theorem Tryd.cellsS : Tryd.prog.cellsOf 9 = 1 := by kernel_rfl
theorem Tryd.cellsI : Tryd.prog.cellsOf 3 = 1 := by kernel_rfl
theorem Tryd.cellsB : Tryd.prog.cellsOf 4 = 1 := by kernel_rfl
theorem Tryd.cellsH : Tryd.prog.cellsOf 23 = 5 := by kernel_rfl
theorem Tryd.star : "*" ++ "errors.errorString" = "*errors.errorString" := by decide
theorem Tryd.rowE (u : TypeId) (h : Tryd.prog.typeName? 3 u = some "*errors.errorString") : u = 150 :=
  typeName_ptr_named (nm := "errors.errorString") (by rw [Tryd.star]; kernel_rfl) (by kernel_rfl) (by decide) u (by rw [Tryd.star]; exact h)

theorem sent_of_laid {W : World} (h : laidMetH Tryd.prog [("hallmark/fault.End", Rows.laid_hallmark_fault_End), ("hallmark/fault.Tag", Rows.laid_hallmark_fault_Tag), ("hallmark/fault.Length", Rows.laid_hallmark_fault_Length)] W) :
    ∃ aE aT aL, Sent W aE aT aL := by
  rw [MakeChecks.laidMetH_plain _ _ _ (by kernel_rfl)] at h
  obtain ⟨ps, ⟨g0, t0, cs0, f0, p0, q0, hg0, ht0, hv0, hd0, ⟨g1, t1, cs1, f1, p1, q1, hg1, ht1, hv1, hd1, ⟨g2, t2, cs2, f2, p2, q2, hg2, ht2, hv2, hd2, _, e2⟩, e1⟩, e0⟩, hnd, hrows⟩ := h
  obtain rfl := Option.some.inj (Tryd.gE.symm.trans hg0)
  obtain rfl := Option.some.inj (Tryd.gT.symm.trans hg1)
  obtain rfl := Option.some.inj (Tryd.gL.symm.trans hg2)
  obtain rfl := Option.some.inj (Tryd.gEt.symm.trans ht0)
  obtain rfl := Option.some.inj (Tryd.gTt.symm.trans ht1)
  obtain rfl := Option.some.inj (Tryd.gLt.symm.trans ht2)
  subst e2
  subst e1
  subst e0
  obtain ⟨l0⟩ := cs0
  obtain ⟨l1⟩ := cs1
  obtain ⟨l2⟩ := cs2
  have ok0 : ∀ u v, l0 = [.iface u v] → Value.okWide Tryd.prog W .any 0 u v := fun u v e => by
    subst e
    exact (hrows 0 0 (by simp [MemPlace.row])).2 u v (by simpa using World.var?_cell hg0 hv0 0)
  have ok1 : ∀ u v, l1 = [.iface u v] → Value.okWide Tryd.prog W .any 0 u v := fun u v e => by
    subst e
    exact (hrows 1 0 (by simp [MemPlace.row])).2 u v (by simpa using World.var?_cell hg1 hv1 0)
  have ok2 : ∀ u v, l2 = [.iface u v] → Value.okWide Tryd.prog W .any 0 u v := fun u v e => by
    subst e
    exact (hrows 2 0 (by simp [MemPlace.row])).2 u v (by simpa using World.var?_cell hg2 hv2 0)
  obtain ⟨a0, s0, rfl, hc0, hs0, hz0, rfl⟩ := errorString_of_trod Tryd.underlying44 Tryd.rowE Tryd.underlying150 Tryd.underlying176 rfl rfl Tryd.underlying9 Tryd.cellsE Tryd.cellsS hd0 ok0
  obtain ⟨a1, s1, rfl, hc1, hs1, hz1, rfl⟩ := errorString_of_trod Tryd.underlying44 Tryd.rowE Tryd.underlying150 Tryd.underlying176 rfl rfl Tryd.underlying9 Tryd.cellsE Tryd.cellsS hd1 ok1
  obtain ⟨a2, s2, rfl, hc2, hs2, hz2, rfl⟩ := errorString_of_trod Tryd.underlying44 Tryd.rowE Tryd.underlying150 Tryd.underlying176 rfl rfl Tryd.underlying9 Tryd.cellsE Tryd.cellsS hd2 ok2
  refine ⟨a0, a1, a2, ?_, ?_, ?_, (hrows a0.block a0.off (by simp [MemPlace.row])).1, (hrows a1.block a1.off (by simp [MemPlace.row])).1, (hrows a2.block a2.off (by simp [MemPlace.row])).1, ?_, ?_, ?_⟩
  · simpa using World.var?_cell hg0 hv0 0
  · simpa using World.var?_cell hg1 hv1 0
  · simpa using World.var?_cell hg2 hv2 0
  · rintro rfl; simp [MemPlace.row] at hnd
  · rintro rfl; simp [MemPlace.row] at hnd
  · rintro rfl; simp [MemPlace.row] at hnd

/-- A head that came in, as a value. -/
theorem open_head {H : Type} {enc : TypeId × Value → H} {W : World} {r : Reach} {b0 base : Nat} {sp : Nat → Bool} {held : Bool} {v : Value} {d : DataW H} {p : List MemPlace}
    (hv' : Value.okWide Tryd.prog W r b0 23 v) (h : DataW.Trod enc Tryd.prog W base sp held 23 v d p) : ∃ x : Hd, v = hv x := by
  obtain ⟨cs, rfl, hsz⟩ := okWide_struct Tryd.underlying23 hv'
  obtain ⟨fuel, hf⟩ := h
  obtain ⟨l⟩ := cs
  obtain ⟨xs, n, _, _, _, hlen, hel⟩ := DataW.trod_struct Tryd.underlying23 hf
  have hl5 : l.length = 5 := by rw [Tryd.cellsH] at hsz; simpa using hsz
  match l, hl5, xs, hlen, hel with
  | [c0, c1, c2, c3, c4], _, [x0, x1, x2, x3, x4], _, hel =>
    have k0 := hel 0 _ rfl
    have k1 := hel 1 _ rfl
    have k2 := hel 2 _ rfl
    have k3 := hel 3 _ rfl
    have k4 := hel 4 _ rfl
    obtain ⟨y0, e0, _⟩ := DataW.trod_int Tryd.underlying3 k0
    obtain ⟨y1, e1, _⟩ := DataW.trod_bool Tryd.underlying4 k1
    obtain ⟨y2, e2, _⟩ := DataW.trod_int Tryd.underlying3 k2
    obtain ⟨y3, e3, _⟩ := DataW.trod_int Tryd.underlying3 k3
    obtain ⟨y4, e4, _⟩ := DataW.trod_int Tryd.underlying3 k4
    simp [Value.cells, Tryd.cellsI, Tryd.cellsB] at e0 e1 e2 e3 e4
    subst e0 e1 e2 e3 e4
    exact ⟨⟨y0, y1, y2, y3, y4⟩, rfl⟩

/-- The heap that the start-up leaves meets the condition. -/
theorem door_met (os : Os) (args : Array Value) : laidMetH Tryd.prog [("hallmark/fault.End", Rows.laid_hallmark_fault_End), ("hallmark/fault.Tag", Rows.laid_hallmark_fault_Tag), ("hallmark/fault.Length", Rows.laid_hallmark_fault_Length)] ((World.doorLaid Tryd.prog 400 os).forCall (fun _ _ => 0) ⟨#[], args, []⟩).memory :=
  laidMetH_of_parts3 (fuel := 8) (laidMet_of_run' 8 (by kernel_rfl) (by kernel_rfl)) (by kernel_rfl) (by kernel_rfl)
end Go.Proofs.YtjdebakjocekfaaDoor
