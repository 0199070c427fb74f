/- Joined texts. Conditions: as each theorem lists them. -/
import Derived.Test.YtccljifichaieaaDoorJ1
import Derived.LoopN
import Derived.Orders
import Derived.OrdersHeld
import Derived.Test.YtccljifichaieaaDoorJLp
import Derived.ProofKit
import Derived.OpenShut
import Derived.LaidMore
import Derived.Carry
import Derived.Lib.LaidTab
import Derived.Stop.Joined
set_option linter.unusedSimpArgs false
set_option linter.unusedVariables false
set_option maxRecDepth 100000
set_option maxHeartbeats 8000000
namespace Go.Am
open Go Go.RowKit
variable {P:Program} {G:Nat} {w0 w:World} {c:Ctx} {v:Value}
variable {P:Program} {G:Nat} {w0 w:World} {c:Ctx} {v:Value}
variable {P:Program} {G:Nat} {w0 w:World} {c:Ctx} {v:Value}
variable {P:Program} {G:Nat} {w0 w:World} {c:Ctx} {v:Value}
variable {P:Program} {G:Nat} {w0 w:World} {c c0:Ctx} {v v' u:Value}
variable {P:Program} {G:Nat} {w0 w:World} {c c0:Ctx} {v:Value}
variable {P:Program} {G:Nat} {w0 w:World} {c:Ctx} {v:Value}
end Go.Am
namespace Go.Am
open Go Go.RowKit Go.ChangeShapes Go.WideShapes Go.ChangeAt
variable {P:Program} {G:Nat} {w0 w:World} {c:Ctx}
end Go.Am
