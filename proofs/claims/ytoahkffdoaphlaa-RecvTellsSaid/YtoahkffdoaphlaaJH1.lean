/- Joined texts. Conditions: as each theorem lists them. -/
import Derived.Test.YtoahkffdoaphlaaProg
import Derived.WalkKit
import Derived.Lib.Hide
import Derived.IntWalk
set_option linter.unusedSimpArgs false
set_option linter.unusedVariables false
set_option maxRecDepth 100000
set_option maxHeartbeats 80000000
namespace Go.Proofs.Ytoahkffdoaphlaa
open Go Go.RowKit
theorem ret_int {k:IntKind} {a b:Int} (h:a=b):Ending.returned (.int k a)=.returned (.int k b):=by rw [h]
theorem pick_neg (n m:Int) (hm:0<m) (hm2:m≤9223372036854775807) (h:n.tmod m<0):wrap64 (n.tmod m+m)=n % m:=by
 have h0:=Int.emod_nonneg n (show m≠0 by omega)
 have h1:=Int.emod_lt_of_pos n hm
 have h2:n.tmod m+m=n % m:=by
  have e:=Int.tmod_eq_emod (a:=n) (b:=m)
  split at e
  ·omega
  ·have:(m.natAbs:Int)=m:=by omega
   omega
 rw [h2]
 exact IntWalk.wrap64_in _ (by omega)
theorem pick_pos (n m:Int) (hm:0<m) (h:¬ n.tmod m<0):n.tmod m=n % m:=by
 have h1:=Int.emod_lt_of_pos n hm
 have e:=Int.tmod_eq_emod (a:=n) (b:=m)
 split at e
 ·omega
 ·have:(m.natAbs:Int)=m:=by omega
  omega
theorem pick_any (n m:Int) (w:World) (hm:0<m) (hm2:m≤9223372036854775807) :
  Calls Try.prog 5 #[.int .i64 n,.int .i64 m] w fun e w'=>e=.returned (.int .i64 (n % m))∧w=w':=by
 have hmz:(m == 0)=false:=by simp;omega
 by_cases h:n.tmod m<0
 ·have hp:=Lib.hid (pick_neg n m hm hm2 h)
  go_enter Try.func5,Try.ntmps5
  go_wp2
  go_ret
  exact ⟨ret_int hp.out,rfl⟩
 ·have hp:=Lib.hid (pick_pos n m hm h)
  go_enter Try.func5,Try.ntmps5
  go_wp2
  go_ret
  exact ⟨ret_int hp.out,rfl⟩
def mayB (n:Int):Bool:=decide (0≤n) && decide (n≤4611686018427387903)
theorem may_any (n:Int) (w:World) :
  Calls Try.prog 52 #[.int .i64 n] w fun e w'=>e=.returned (.bool (mayB n))∧w=w':=by
 by_cases h0:0≤n
 ·by_cases h1:n≤4611686018427387903
  ·have e:mayB n=true:=by simp [mayB,h0,h1]
   rw [e]
   clear e
   go_enter Try.func52,Try.ntmps52
   go_wp2
   go_ret
   exact ⟨rfl,rfl⟩
  ·have e:mayB n=false:=by simp [mayB,h1]
   rw [e]
   clear e
   go_enter Try.func52,Try.ntmps52
   go_wp2
   go_ret
   exact ⟨rfl,rfl⟩
 ·have e:mayB n=false:=by simp [mayB,h0]
  have hd:decide (0≤n)=false:=by simpa using h0
  rw [e]
  clear e
  go_enter Try.func52,Try.ntmps52
  go_wp2
  go_ret
  exact ⟨rfl,rfl⟩
theorem div9 (n:Int) (h1:-9223372036854775808≤n) (h2:n≤9223372036854775807):wrap64 (n.tdiv 9)=n.tdiv 9:=by
 have e:n.tdiv 9=if 0≤n then n / 9 else -(-n / 9):=by
  split
  ·exact Int.tdiv_eq_ediv_of_nonneg (by assumption)
  ·rw [← Int.neg_neg n,Int.neg_tdiv,Int.tdiv_eq_ediv_of_nonneg (by omega),Int.neg_neg]
 rw [e]
 exact IntWalk.wrap64_in _ (by split <;> omega)
/-- What Num tells. -/
def numF (n:Int):Int :=
 let k:=n.tdiv 9 % 3 - 1
 if n % 9=0 then 64+k else if n % 9=1 then 16384+k else if n % 9=2 then 1073741824+k else if n % 9=3 then 4611686018427387903+k else if n % 9=4 then n else n.tdiv 9 % 500
theorem num_any (n:Int) (w:World) (h1:-9223372036854775808≤n) (h2:n≤9223372036854775807) :
  Calls Try.prog 43 #[.int .i64 n] w fun e w'=>e=.returned (.int .i64 (numF n))∧w=w':=by
 have hk0:=Int.emod_nonneg (n.tdiv 9) (show (3:Int)≠0 by decide)
 have hk1:=Int.emod_lt_of_pos (n.tdiv 9) (show (0:Int)<3 by decide)
 have hp0:=Int.emod_nonneg n (show (9:Int)≠0 by decide)
 have hF2:Hid (numF n=if n % 9=0 then 64+(n.tdiv 9 % 3 - 1) else if n % 9=1 then 16384+(n.tdiv 9 % 3 - 1) else if n % 9=2 then 1073741824+(n.tdiv 9 % 3 - 1) else if n % 9=3 then 4611686018427387903+(n.tdiv 9 % 3 - 1) else if n % 9=4 then n else n.tdiv 9 % 500):=rfl
 have hpc:n % 9=0∨n % 9=1∨n % 9=2∨n % 9=3∨n % 9=4∨5≤n % 9:=by omega
 rcases hpc with h | h | h | h | h | h5
 case inr.inr.inr.inr.inr =>
  have g0:(n % 9 == 0)=false:=by simp;omega
  have g1:(n % 9 == 1)=false:=by simp;omega
  have g2:(n % 9 == 2)=false:=by simp;omega
  have g3:(n % 9 == 3)=false:=by simp;omega
  have g4:(n % 9 == 4)=false:=by simp;omega
  have e:Hid (numF n=n.tdiv 9 % 500):=by
   have:=hF2.out
   rw [if_neg (by omega),if_neg (by omega),if_neg (by omega),if_neg (by omega),if_neg (by omega)] at this
   exact this
  go_enter Try.func43,Try.ntmps43
  go_wp2_with (go_at_call 5;refine (pick_any _ _ _ (by decide) (by decide)).mono ?_;rintro e w' ⟨rfl,rfl⟩)
  go_ret
  exact ⟨ret_int e.out.symm,rfl⟩
 all_goals
  have e:=Lib.hid (hF2.out.trans (by rw [h]))
  go_enter Try.func43,Try.ntmps43
  go_wp2_with (go_at_call 5;refine (pick_any _ _ _ (by decide) (by decide)).mono ?_;rintro e w' ⟨rfl,rfl⟩)
  go_ret
  exact ⟨ret_int e.out.symm,rfl⟩
def mayF (n:Int):Int:=if mayB (numF n)=true then numF n else n % 1048576
theorem mayF_in (n:Int):0≤mayF n∧mayF n≤4611686018427387903:=by
 unfold mayF
 split
 ·rename_i h
  simp only [mayB,Bool.and_eq_true,decide_eq_true_eq] at h
  exact h
 ·omega
end Go.Proofs.Ytoahkffdoaphlaa
