/-
  Contents: Utf8: what utf8.ValidString answers, by the library's contract.
-/
import Derived.Test.YtjceeljaljdmoaaGreatDoorJ2
import Derived.Shelf.Unicode.ValidAny
namespace Go.Proofs.YtjceeljaljdmoaaGreatDoor
set_option linter.unusedSimpArgs false
set_option linter.unusedVariables false
open Go.RowKit

/-- The library's two tables lie. -/
def Tabs (w : World) : Prop := Lib.Utf8Tabs (valRen.g 3) (valRen.g 4) w
theorem valids (t : ByteArray) (w : World) (hm : t.size ≤ 9223372036854775807) (hT : Tabs w) : Valids t w := by
  have c : Calls Tryz.prog 136 #[.string t] w _ := Any.utf8_ValidString Tryz.laysValid t w hm hT
  exact c.mono fun e w' h => ⟨_, h.1, (utf8_valid t).symm, h.2⟩
end Go.Proofs.YtjceeljaljdmoaaGreatDoor
