/- SpansEnds: the walk, as the frame calls it; bounds of numbers. Conditions: none. -/
import Derived.Test.YtbddphoiccbjnabE2
import Derived.Test.YtbddphoiccbjnabLp
namespace Go.Proofs.Ytbddphoiccbjnab
open Go Go.RowKit
namespace Ends
theorem walk' (n m : Int) (W : World) (_ : -9223372036854775808 ≤ n) (_ : n ≤ 9223372036854775807) (_ : -9223372036854775808 ≤ m) (_ : m ≤ 9223372036854775807) :
    Calls Try.prog 8 #[.int .i64 n, .int .i64 m] W fun e w' => e = .returned (.bool true) ∧ Below W.heap.size W w' := walk n m W
end Ends
end Go.Proofs.Ytbddphoiccbjnab
