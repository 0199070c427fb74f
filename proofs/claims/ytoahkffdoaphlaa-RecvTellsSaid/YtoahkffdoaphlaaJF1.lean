/- Joined texts. Conditions: as each theorem lists them. -/
import Derived.Test.YtoahkffdoaphlaaJV1
import Derived.Deep.QuietTactic
import Derived.BigQuiet
set_option linter.unusedSimpArgs false
set_option linter.unusedVariables false
set_option maxRecDepth 100000
set_option maxHeartbeats 80000000
namespace Go.Proofs.Ytoahkffdoaphlaa
open Go Go.RowKit
def bitI (b:Bool):Int:=if b then 1 else 0
theorem bit_any (b:Bool) (w:World):Calls Try.prog 123 #[.bool b] w fun e w'=>e=.returned (.int .i64 (bitI b))∧w=w':=by
 cases b
 all_goals
  go_enter Try.func123,Try.ntmps123
  go_wp2
  go_ret
  exact ⟨rfl,rfl⟩
/-- What a kind names, as bits; whether it is one. -/
def nm (k:Int):Nat:=if k=2 then 64 else if k=3 then 53 else if k=4 then 15 else if k=5 then 3 else if k=7 then 3 else if k=6 then 2 else if k=12 then 2 else if k=8 then 18 else if k=9 then 32 else if k=10 then 1 else if k=11 then 1 else 0
def kn (k:Int):Bool:=decide (1≤k) && decide (k≤12)
theorem names_known (k:Int) (w:World) (h1:1≤k) (h2:k≤12) :
  Calls Try.prog 118 #[.int .i64 k] w fun e w'=>e=.returned (.tuple #[.int .i64 (nm k:Int),.bool (kn k)])∧w=w':=by
 have hk:k=1∨k=2∨k=3∨k=4∨k=5∨k=6∨k=7∨k=8∨k=9∨k=10∨k=11∨k=12:=by omega
 clear h1 h2
 rcases hk with rfl | rfl | rfl | rfl | rfl | rfl | rfl | rfl | rfl | rfl | rfl | rfl
 all_goals
  go_enter Try.func118,Try.ntmps118
  go_wp2
  go_ret2
  exact ⟨rfl,rfl⟩
theorem names_not (k:Int) (w:World) (h:k<1∨12<k) :
  Calls Try.prog 118 #[.int .i64 k] w fun e w'=>e=.returned (.tuple #[.int .i64 (nm k:Int),.bool (kn k)])∧w=w':=by
 have e1:nm k=0:=by unfold nm;(repeat' split) <;> omega
 have e2:kn k=false:=by unfold kn;rcases h with h | h <;> simp <;> omega
 rw [e1,e2]
 have g1:(k == 1)=false:=by simp;omega
 have g2:(k == 2)=false:=by simp;omega
 have g3:(k == 3)=false:=by simp;omega
 have g4:(k == 4)=false:=by simp;omega
 have g5:(k == 5)=false:=by simp;omega
 have g6:(k == 6)=false:=by simp;omega
 have g7:(k == 7)=false:=by simp;omega
 have g8:(k == 8)=false:=by simp;omega
 have g9:(k == 9)=false:=by simp;omega
 have g10:(k == 10)=false:=by simp;omega
 have g11:(k == 11)=false:=by simp;omega
 have g12:(k == 12)=false:=by simp;omega
 clear h e1 e2
 go_enter Try.func118,Try.ntmps118
 go_wp2
 go_ret2
 exact ⟨rfl,rfl⟩
theorem names_any (k:Int) (w:World) :
  Calls Try.prog 118 #[.int .i64 k] w fun e w'=>e=.returned (.tuple #[.int .i64 (nm k:Int),.bool (kn k)])∧w=w':=by
 by_cases h:1≤k∧k≤12
 ·exact names_known k w h.1 h.2
 ·exact names_not k w (by omega)
/-- Whether a kind elicits. -/
def elB (k:Int):Bool:=!decide (k=2) && !decide (k=12)
end Go.Proofs.Ytoahkffdoaphlaa
