/- SpansKnown: a piece. Conditions: none. -/
import Derived.Test.YtbddphoiccbjnabXD2
namespace Go.Proofs.Ytbddphoiccbjnab.X
open Go Go.RowKit Go.Am
theorem x15 : evPart Try.prog 0 99988 (behind 4 (behind 1 (behind 2 (behind 3 ((Try.f3.body).getD .skip))))) 1 26 A14 S14 = some (A15, S15) := by kernel_rfl
end Go.Proofs.Ytbddphoiccbjnab.X
