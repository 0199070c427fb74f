/- SpansKnown: the whole evaluation, from its pieces. Conditions: none. -/
import Derived.Test.YtbddphoiccbjnabX1
import Derived.Test.YtbddphoiccbjnabX2
import Derived.Test.YtbddphoiccbjnabX3
import Derived.Test.YtbddphoiccbjnabX4
import Derived.Test.YtbddphoiccbjnabX5
import Derived.Test.YtbddphoiccbjnabX6
import Derived.Test.YtbddphoiccbjnabX7
import Derived.Test.YtbddphoiccbjnabX8
import Derived.Test.YtbddphoiccbjnabX9
import Derived.Test.YtbddphoiccbjnabX10
import Derived.Test.YtbddphoiccbjnabX11
import Derived.Test.YtbddphoiccbjnabX12
import Derived.Test.YtbddphoiccbjnabX13
import Derived.Test.YtbddphoiccbjnabX14
import Derived.Test.YtbddphoiccbjnabX15
import Derived.Test.YtbddphoiccbjnabX16
import Derived.Test.YtbddphoiccbjnabX17
import Derived.Test.YtbddphoiccbjnabX18
namespace Go.Proofs.Ytbddphoiccbjnab.X
open Go Go.RowKit Go.Am
theorem c1 : evC Try.prog 0 100000 ((Try.f3.body).getD .skip) (⟨Array.replicate Try.f3.ntmps undef, []⟩ : Act) (St.start 0) = evC Try.prog 0 99997 (behind 3 ((Try.f3.body).getD .skip)) A1 S1 := evC_pieces (n := 99997) 3 rfl x1
theorem c2 : evC Try.prog 0 99997 (behind 3 ((Try.f3.body).getD .skip)) A1 S1 = evC Try.prog 0 99995 (behind 2 (behind 3 ((Try.f3.body).getD .skip))) A2 S2 := evC_pieces (n := 99995) 2 rfl x2
theorem c3 : evC Try.prog 0 99995 (behind 2 (behind 3 ((Try.f3.body).getD .skip))) A2 S2 = evC Try.prog 0 99994 (behind 1 (behind 2 (behind 3 ((Try.f3.body).getD .skip)))) A12 S12 := evC_draw (n := 99993) (j := 9) (by kernel_rfl) (by kernel_rfl) (by kernel_rfl) (by kernel_rfl) rfl (evSteps_more (l := 8) 1 x3 (evSteps_more (l := 7) 1 x4 (evSteps_more (l := 6) 1 x5 (evSteps_more (l := 5) 1 x6 (evSteps_more (l := 4) 1 x7 (evSteps_more (l := 3) 1 x8 (evSteps_more (l := 2) 1 x9 (evSteps_more (l := 1) 1 x10 (evSteps_more (l := 0) 1 x11 x12)))))))))
theorem c4 : evC Try.prog 0 99994 (behind 1 (behind 2 (behind 3 ((Try.f3.body).getD .skip)))) A12 S12 = evC Try.prog 0 99990 (behind 4 (behind 1 (behind 2 (behind 3 ((Try.f3.body).getD .skip))))) A13 S13 := evC_pieces (n := 99990) 4 rfl x13
theorem c5 : evC Try.prog 0 99990 (behind 4 (behind 1 (behind 2 (behind 3 ((Try.f3.body).getD .skip))))) A13 S13 = evC Try.prog 0 99989 (behind 1 (behind 4 (behind 1 (behind 2 (behind 3 ((Try.f3.body).getD .skip)))))) A18 S18 := evC_region (n := 99988) (j := 73) (by kernel_rfl) (by kernel_rfl) rfl (evPart_more (i := 0) (j := 54) (l := 19) (evPart_more (i := 0) (j := 34) (l := 20) (evPart_more (i := 0) (j := 27) (l := 7) (evPart_more (i := 0) (j := 1) (l := 26) x14 x15) x16) x17) x18)
theorem run : (Am.evCall Try.prog 0 100000 3 #[] (Am.St.start 0)).map (·.1) = some (.bool true) := by
  rw [evCall_of Try.func3 (k := ((Try.f3.body).getD .skip)) (a0 := (⟨Array.replicate Try.f3.ntmps undef, []⟩ : Act)) (v := .bool true) (by kernel_rfl) (by kernel_rfl) (((((c1.trans c2).trans c3).trans c4).trans c5).trans (by kernel_rfl : evC Try.prog 0 99989 (behind 1 (behind 4 (behind 1 (behind 2 (behind 3 ((Try.f3.body).getD .skip)))))) A18 S18 = some (.ret, A18, S18))) (by kernel_rfl)]
  rfl
end Go.Proofs.Ytbddphoiccbjnab.X
