/-
  Several texts in one:
  Contents: Utf8: what utf8.ValidString answers, by the library's contract.
  What lies in the package's variables; fault.At.
-/
import Derived.Test.YtkkicodfpekbgaaGreatDoorJ1
import Derived.Shelf.Unicode.ValidAny
import Derived.Test.YtkkicodfpekbgaaGreatDoorJ2
/-! Contents: Utf8: what utf8.ValidString answers, by the library's contract. -/
namespace Go.Proofs.YtkkicodfpekbgaaGreatDoor
set_option linter.unusedSimpArgs false
set_option linter.unusedVariables false
open Go.RowKit

/-- The library's two tables lie. -/
def Tabs (w : World) : Prop := Lib.Utf8Tabs (valRen.g 3) (valRen.g 4) w
theorem valids (t : ByteArray) (w : World) (hm : t.size ≤ 9223372036854775807) (hT : Tabs w) : Valids t w := by
  have c : Calls Tryz.prog 176 #[.string t] w _ := Any.utf8_ValidString Tryz.laysValid t w hm hT
  exact c.mono fun e w' h => ⟨_, h.1, (utf8_valid t).symm, h.2⟩
end Go.Proofs.YtkkicodfpekbgaaGreatDoor

/-! What lies in the package's variables; fault.At. -/
namespace Go.Proofs.YtkkicodfpekbgaaGreatDoor
set_option linter.unusedSimpArgs false
set_option linter.unusedVariables false
open Go.RowKit

/-- What the package's variables hold. -/
structure Lay (w : World) (sn : Sn → Addr) : Prop where
  s : Sent w sn
  n : Nums w
  d : Days w
  t : Tabs w
theorem Lay.below {w w' : World} {sn : Sn → Addr} (h : Lay w sn) (hb : Below w.heap.size w w') : Lay w' sn :=
  ⟨h.s.below hb, h.n.below hb, fun i hi => (hb.cell (lt_of_cell (h.d i hi))).trans (h.d i hi), Utf8Tabs_below h.t hb⟩
/-- The error of schemas lies ready, apart from the others. -/
structure LayZ (w : World) (sn : Sn → Addr) (za : Addr) : Prop where
  c : w.cell? ⟨12, 0, none⟩ = some (.iface 291 (.pointer (some za)))
  r : ∃ c t, w.heap[za.block]? = some (.cells c t (0, 0))
  d : ∀ s : Sn, sn s ≠ za
theorem LayZ.below {w w' : World} {sn : Sn → Addr} {za : Addr} (h : LayZ w sn za) (hb : Below w.heap.size w w') : LayZ w' sn za := ⟨(hb.cell (lt_of_cell h.c)).trans h.c, row_below h.r hb, h.d⟩

set_option maxHeartbeats 400000 in
theorem at_any (p : Int) (a : Addr) (w : World) :
    Calls Tryz.prog 60 #[.int .i64 p, .iface 291 (.pointer (some a))] w fun e w' => e = .returned (fault p a) ∧ w' = w := by
  unfold fault
  go_enter Tryz.func60, Tryz.ntmps60
  go_wp2
  go_ret
  exact ⟨rfl, rfl⟩
end Go.Proofs.YtkkicodfpekbgaaGreatDoor
