/- SpansKnown: a piece. Conditions: none. -/
import Derived.Test.YtbddphoiccbjnabXD2
namespace Go.Proofs.Ytbddphoiccbjnab.X
open Go Go.RowKit Go.Am
theorem x13 : evFirst Try.prog 0 4 99994 (behind 1 (behind 2 (behind 3 ((Try.f3.body).getD .skip)))) A12 S12 = some (A13, S13) := by kernel_rfl
end Go.Proofs.Ytbddphoiccbjnab.X
