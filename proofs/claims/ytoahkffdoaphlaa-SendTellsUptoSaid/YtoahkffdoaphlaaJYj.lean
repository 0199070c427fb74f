/- Joined texts. Conditions: as each theorem lists them. -/
import Derived.Test.YtoahkffdoaphlaaJWk
import Derived.Great.BuildSlice
set_option linter.unusedSimpArgs false
set_option linter.unusedVariables false
set_option maxRecDepth 100000
set_option maxHeartbeats 80000000
namespace Go.Proofs.Ytoahkffdoaphlaa.Se
open Go Go.RowKit Go.Proofs.Ytoahkffdoaphlaa Go.Proofs.Ytoahkffdoaphlaa.Sp
theorem fill_frame (k0 k1 k2 k3 k4 k5:Int) (b6:Bool) (A7:Option Addr) (n7 c7:Nat) (A8:Option Addr) (n8 c8:Nat) :
  Instr.fill (fun i=>some (i * 9,9)) ((Array.range (1 * 9)).map ((Value.agg #[.int .i64 0,.int .i64 0,.int .i64 0,.int .i64 0,.int .i64 0,.int .i64 0,.bool false,.slice none 0 0,.slice none 0 0]).cells[· % (Value.agg #[.int .i64 0,.int .i64 0,.int .i64 0,.int .i64 0,.int .i64 0,.int .i64 0,.bool false,.slice none 0 0,.slice none 0 0]).cells.size]!)) [(0,Value.agg #[.int .i64 k0,.int .i64 k1,.int .i64 k2,.int .i64 k3,.int .i64 k4,.int .i64 k5,.bool b6,.slice A7 n7 c7,.slice A8 n8 c8])]=some #[.int .i64 k0,.int .i64 k1,.int .i64 k2,.int .i64 k3,.int .i64 k4,.int .i64 k5,.bool b6,.slice A7 n7 c7,.slice A8 n8 c8]:=by kernel_rfl
theorem wpList_frame {ops:Array Oper} {rest:List Oper} {o:Oper} {a:Act} {w:World} {Q:Exit→Act→World→Prop} (hg:o.guard=none) (x:Operand) (ho:o.op=.buildSlice 29 1 #[(0,x)]) (d:Option Tmp) (hd:o.dst=d)
  (k0 k1 k2 k3 k4 k5:Int) (b6:Bool) (A7:Option Addr) (n7 c7:Nat) (A8:Option Addr) (n8 c8:Nat) (hv:a.eval x=.agg #[.int .i64 k0,.int .i64 k1,.int .i64 k2,.int .i64 k3,.int .i64 k4,.int .i64 k5,.bool b6,.slice A7 n7 c7,.slice A8 n8 c8])
  (h:wpList Try.prog ops Q rest (a.put d (.slice (some ⟨w.heap.size,0,none⟩) 1 1)) (w.alloc (.cells #[.int .i64 k0,.int .i64 k1,.int .i64 k2,.int .i64 k3,.int .i64 k4,.int .i64 k5,.bool b6,.slice A7 n7 c7,.slice A8 n8 c8] 54))):wpList Try.prog ops Q (o :: rest) a w:=by
 subst hd
 obtain ⟨i0,hi,hz0,hz1,hz2⟩:=info_parts infoF
 refine wpList_buildSlice hg 29 54 1 _ ho _ i0 _ Try.underlying29 hi hz0 (by rw [hz1];omega) (by rw [hz1];omega) ?_ h
 have e:∀ f:Nat × Operand→Nat × Value,(Array.map f #[(0,x)]).toList=[f (0,x)]:=fun f=>by simp
 rw [e,hz1]
 simp only [hv]
 exact fill_frame k0 k1 k2 k3 k4 k5 b6 A7 n7 c7 A8 n8 c8
end Go.Proofs.Ytoahkffdoaphlaa.Se
