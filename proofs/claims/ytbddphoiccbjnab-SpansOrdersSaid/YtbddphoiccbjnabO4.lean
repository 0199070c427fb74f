/- SpansOrders: the walk, as the frame calls it. Conditions: the calls' row is an argument's. -/
import Derived.Test.YtbddphoiccbjnabO3
import Derived.Test.YtbddphoiccbjnabLp
namespace Go.Proofs.Ytbddphoiccbjnab.Orders
open Go Go.RowKit
theorem walk' (A : Option Addr) (n cap : Nat) (zs : List Int) (a b c : Int) (W : World) (hr : IsRows W A cap n 3 zs) (_ : -9223372036854775808 ≤ a) (_ : a ≤ 9223372036854775807) (_ : -9223372036854775808 ≤ b) (_ : b ≤ 9223372036854775807) (_ : -9223372036854775808 ≤ c) (_ : c ≤ 9223372036854775807) :
    Calls Try.prog 7 #[.slice A n cap, .int .i64 a, .int .i64 b, .int .i64 c] W fun e w' => e = .returned (.bool true) ∧ Below W.heap.size W w' := walk A n cap zs a b c W hr
end Go.Proofs.Ytbddphoiccbjnab.Orders
