/- SpansKnown: a piece. Conditions: none. -/
import Derived.Test.YtbddphoiccbjnabXD2
namespace Go.Proofs.Ytbddphoiccbjnab.X
open Go Go.RowKit Go.Am
theorem x8 : evSteps Try.prog 0 99993 (behind 2 (behind 3 ((Try.f3.body).getD .skip))) S2.nb S2.nf 1 E7 = some E8 := by kernel_rfl
end Go.Proofs.Ytbddphoiccbjnab.X
