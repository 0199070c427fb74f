/- SpansCopies: the walk, as the frame calls it. Conditions: the arguments' rows. -/
import Derived.Test.YtbddphoiccbjnabC2
import Derived.Test.YtbddphoiccbjnabLp
namespace Go.Proofs.Ytbddphoiccbjnab.Copies
open Go Go.RowKit
theorem walk' (A : Option Addr) (cap : Nat) (l : List Int) (A1 : Option Addr) (n1 cap1 : Nat) (zs : List Int) (W : World) (hl : IsInts W A cap l) (hr : IsRows W A1 cap1 n1 3 zs) :
    Calls Try.prog 6 #[.slice A l.length cap, .slice A1 n1 cap1] W fun e w' => e = .returned (.bool true) ∧ Below W.heap.size W w' := walk l A cap A1 n1 cap1 zs W hl hr
end Go.Proofs.Ytbddphoiccbjnab.Copies
