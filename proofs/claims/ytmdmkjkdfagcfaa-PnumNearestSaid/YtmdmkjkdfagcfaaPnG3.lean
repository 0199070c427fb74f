/- PnumNearest: the walk. Conditions: the numbers fit their kinds. -/
import Derived.Test.YtmdmkjkdfagcfaaPnG1
import Derived.Test.YtmdmkjkdfagcfaaPnG2
namespace Go.Proofs.Ytmdmkjkdfagcfaa
open Go Go.RowKit

theorem near_walk (a0 a1 a2 a3 : Int) (w : World) (_ : -9223372036854775808 ≤ a0) (_ : a0 ≤ 9223372036854775807) (_ : -9223372036854775808 ≤ a1) (_ : a1 ≤ 9223372036854775807) (b1 : -9223372036854775808 ≤ a2) (b2 : a2 ≤ 9223372036854775807)
    (_ : -9223372036854775808 ≤ a3) (_ : a3 ≤ 9223372036854775807) :
    Calls Try.prog 6 #[.int .i64 a0, .int .i64 a1, .int .i64 a2, .int .i64 a3] w fun e w' => e = .returned (.bool true) ∧ Below w.heap.size w w' := by
  have h : a1 % 4 = 0 ∨ a1 % 4 = 1 ∨ a1 % 4 = 2 ∨ a1 % 4 = 3 := by omega
  rcases h with h | h | h | h
  · exact near_1 a0 a1 a2 a3 w h b1 b2
  · exact near_2 a0 a1 a2 a3 w h b1 b2
  · exact near_3 a0 a1 a2 a3 w h b1 b2
  · exact near_4 a0 a1 a2 a3 w h b1 b2
end Go.Proofs.Ytmdmkjkdfagcfaa
