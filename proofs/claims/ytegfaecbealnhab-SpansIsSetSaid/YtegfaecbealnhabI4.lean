/- SpansIsSet: the walk, as the frame calls it. Conditions: the arguments' rows. -/
import Derived.Test.YtegfaecbealnhabI3
import Derived.Test.YtegfaecbealnhabLp
namespace Go.Proofs.Ytegfaecbealnhab.IsSet
open Go Go.RowKit
theorem walk' (A : Option Addr) (n cap : Nat) (zs : List Int) (from_ to_ : Int) (w : World) (hr : IsRows w A cap n 3 zs) (_ : -9223372036854775808 ≤ from_) (_ : from_ ≤ 9223372036854775807) (_ : -9223372036854775808 ≤ to_) (_ : to_ ≤ 9223372036854775807) :
    Calls Try.prog 5 #[.slice A n cap, .int .i64 from_, .int .i64 to_] w fun e w' => e = .returned (.bool true) ∧ Below w.heap.size w w' := walk A n cap zs from_ to_ w hr
end Go.Proofs.Ytegfaecbealnhab.IsSet
