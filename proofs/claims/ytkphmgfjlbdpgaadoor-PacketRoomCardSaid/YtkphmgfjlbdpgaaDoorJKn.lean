/- known of chapter 5: the evaluator's answer. Conditions: the tables read as listed. -/
import Derived.Test.YtkphmgfjlbdpgaaDoorJLaw1
set_option linter.unusedSimpArgs false
set_option linter.unusedVariables false

namespace Go.Proofs.YtkphmgfjlbdpgaaDoor
open Go Go.RowKit Go.ChangeShapes Go.WideShapes Go.ChangeAt Go.WideMaps Go.WideElems
theorem known_run : (Am.evCall Tryd.prog 2 100000 14 #[] start).map (·.1) = some (.bool true) := by kernel_rfl
end Go.Proofs.YtkphmgfjlbdpgaaDoor
