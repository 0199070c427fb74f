/- known of chapter 5: the evaluator's answer. Conditions: the tables read as listed. -/
import Derived.Test.YtnhkenecogjeaaaDoorLaw1
namespace Go.Proofs.YtnhkenecogjeaaaDoor
open Go Go.RowKit Go.ChangeShapes Go.WideShapes Go.ChangeAt Go.WideMaps Go.WideElems
theorem known_run : (Am.evCall Tryd.prog 2 100000 9 #[] start).map (·.1) = some (.bool true) := by kernel_rfl
end Go.Proofs.YtnhkenecogjeaaaDoor
