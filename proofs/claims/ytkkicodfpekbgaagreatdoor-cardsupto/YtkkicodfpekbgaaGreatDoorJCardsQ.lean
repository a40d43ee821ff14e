/-
Cards' row: what is closed of it.
-/
import Derived.Test.YtkkicodfpekbgaaGreatDoorRows
import Derived.Lib.SmallJoins
import Derived.SevenTiedAt
import Derived.Test.YtkkicodfpekbgaaGreatDoorJA
set_option linter.unusedSimpArgs false
set_option linter.unusedVariables false
set_option maxRecDepth 100000
set_option maxHeartbeats 8000000
namespace Go.Proofs.YtkkicodfpekbgaaGreatDoor
open Go.ChangeShapes Go.WideShapes Go.ChangeAt Go.WideMaps Go.WideElems Go.RowKit
set_option maxHeartbeats 40000000 in
theorem ug:joinedFacts Tryz.prog 9 Tryz.f9 (Rows.OpenSpec.upto Rows.cardsSpec).bare Rows.cardsUptoRow=true:=by
 unfold joinedFacts;simp only[eb];repeat' apply And.intro
 all_goals as_aux_lemma=>kernel_rfl
end Go.Proofs.YtkkicodfpekbgaaGreatDoor
