/- SpansKnown: a piece. Conditions: none. -/
import Derived.Test.YtbddphoiccbjnabXD2
namespace Go.Proofs.Ytbddphoiccbjnab.X
open Go Go.RowKit Go.Am
theorem x2 : evFirst Try.prog 0 2 99997 (behind 3 ((Try.f3.body).getD .skip)) A1 S1 = some (A2, S2) := by kernel_rfl
end Go.Proofs.Ytbddphoiccbjnab.X
