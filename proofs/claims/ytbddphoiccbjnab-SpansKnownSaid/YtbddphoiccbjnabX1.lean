/- SpansKnown: a piece. Conditions: none. -/
import Derived.Test.YtbddphoiccbjnabXD2
namespace Go.Proofs.Ytbddphoiccbjnab.X
open Go Go.RowKit Go.Am
theorem x1 : evFirst Try.prog 0 3 100000 ((Try.f3.body).getD .skip) (⟨Array.replicate Try.f3.ntmps undef, []⟩ : Act) (St.start 0) = some (A1, S1) := by kernel_rfl
end Go.Proofs.Ytbddphoiccbjnab.X
