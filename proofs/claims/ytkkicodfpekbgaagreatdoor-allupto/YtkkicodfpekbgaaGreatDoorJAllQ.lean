/-
All's row: what is closed of it.
-/
import Derived.Test.YtkkicodfpekbgaaGreatDoorRows
import Derived.Lib.SmallJoins
import Derived.SevenTiedAt
import Derived.Test.YtkkicodfpekbgaaGreatDoorJA
set_option linter.all false
set_option maxRecDepth 100000
set_option maxHeartbeats 8000000
namespace Go.Proofs.YtkkicodfpekbgaaGreatDoor
open Go.ChangeShapes Go.WideShapes Go.ChangeAt Go.WideMaps Go.WideElems Go.RowKit
set_option maxHeartbeats 40000000 in
theorem ab8:joinedFacts Tryz.prog 12 Tryz.f12 (Rows.OpenSpec.upto Rows.allSpec).bare Rows.allUptoRow=true:=by
 unfold joinedFacts;simp only[xp];repeat' apply And.intro
 all_goals as_aux_lemma=>kernel_rfl
end Go.Proofs.YtkkicodfpekbgaaGreatDoor
