/-
Carried's row: what is closed of it.
-/
import Derived.Test.YtkkicodfpekbgaaGreatDoorRows
import Derived.Lib.SmallJoins
import Derived.SizedLaws
import Derived.SevenTiedAt
namespace Go.Proofs.YtkkicodfpekbgaaGreatDoor
open Go.ChangeShapes Go.WideShapes Go.ChangeAt Go.WideMaps Go.WideElems Go.RowKit
set_option linter.unusedSimpArgs false
set_option linter.unusedVariables false
set_option maxRecDepth 100000
set_option maxHeartbeats 8000000
set_option maxHeartbeats 40000000 in
theorem carried_closed:joinedFacts Tryz.prog 10 Tryz.f10 Rows.carriedSpec Rows.carriedRow=true:=by
 unfold joinedFacts
 simp only[Bool.and_eq_true]
 repeat' apply And.intro
 all_goals as_aux_lemma=>kernel_rfl
end Go.Proofs.YtkkicodfpekbgaaGreatDoor
