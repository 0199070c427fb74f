/- SpansKnown: a piece. Conditions: none. -/
import Derived.Test.YtbddphoiccbjnabXD2
namespace Go.Proofs.Ytbddphoiccbjnab.X
open Go Go.RowKit Go.Am
theorem x12 : evWays Try.prog 0 (runFn Try.prog (evC Try.prog 0 99993)) (headOps (behind 2 (behind 3 ((Try.f3.body).getD .skip)))) S2.nb S2.nf 0 E11 = some (A12, S12) := by kernel_rfl
end Go.Proofs.Ytbddphoiccbjnab.X
