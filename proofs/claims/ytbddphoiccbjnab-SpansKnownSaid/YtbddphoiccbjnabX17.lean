/- SpansKnown: a piece. Conditions: none. -/
import Derived.Test.YtbddphoiccbjnabXD2
namespace Go.Proofs.Ytbddphoiccbjnab.X
open Go Go.RowKit Go.Am
theorem x17 : evPart Try.prog 0 99988 (behind 4 (behind 1 (behind 2 (behind 3 ((Try.f3.body).getD .skip))))) 34 20 A16 S16 = some (A17, S17) := by kernel_rfl
end Go.Proofs.Ytbddphoiccbjnab.X
