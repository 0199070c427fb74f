/- The states of SendKnown, plainly (printed by gen/sendk.py). Conditions: none. -/
import Derived.Test.YtppbhjjkccogkaaJWl
set_option linter.unusedSimpArgs false
set_option linter.unusedVariables false

namespace Go.Proofs.Ytppbhjjkccogkaa.SnK
open Go Go.RowKit Go.Proofs.Ytppbhjjkccogkaa Go.Proofs.Ytppbhjjkccogkaa.Sp Go.Proofs.Ytppbhjjkccogkaa.Sp.Ref Go.Proofs.Ytppbhjjkccogkaa.Se

theorem next_ok {s s' : St} {room most a n : Int} {fin : Bool} {fresh : Int} (hs : StOk s) (h : nextS s room most = some (⟨a, n, fin, fresh⟩, s')) : StOk s' := by
  obtain ⟨h1, rfl⟩ := next_some h
  exact hs.put h1
def Z : List Nat := List.replicate 500 0
def q0 : St := ⟨400, 0, 4, [], [], [], false, 0, false, 0, 0, 0⟩
theorem ok0 : StOk q0 := newS_ok 4 (by decide)
def q1 : St := ⟨400, 0, 4, Z, [], [], false, 0, false, 0, 0, 0⟩
theorem e1 : writeS q0 Z = (0, q1) := by kernel_rfl
theorem ok1 : StOk q1 := by have := ok0.write Z (fun c hc => by have := List.eq_of_mem_replicate hc; omega); rw [e1] at this; exact this
def q2 : St := ⟨400, 120, 4, Z, [], [], false, 0, false, 0, 0, 0⟩
theorem e2 : nextS q1 999 130 = some (⟨0, 120, false, 120⟩, q2) := by kernel_rfl
theorem ok2 : StOk q2 := next_ok ok1 e2
def q3 : St := ⟨400, 150, 4, Z, [], [], false, 0, false, 0, 0, 0⟩
theorem e3 : nextS q2 999 30 = some (⟨120, 30, false, 30⟩, q3) := by kernel_rfl
theorem ok3 : StOk q3 := next_ok ok2 e3
theorem e4 : nextS q3 999 0 = none := by kernel_rfl
def q4 : St := ⟨400, 168, 4, Z, [], [], false, 0, false, 0, 0, 0⟩
theorem e5 : nextS q3 24 999 = some (⟨150, 18, false, 18⟩, q4) := by kernel_rfl
theorem ok4 : StOk q4 := next_ok ok3 e5
def q5 : St := ⟨400, 168, 4, Z, [0, 120], [], false, 0, false, 0, 0, 0⟩
theorem e6 : lostS q4 ⟨3, 4, 0, 0, false, 120⟩ = q5 := by kernel_rfl
theorem ok5 : StOk q5 := by have := ok4.lose ⟨3, 4, 0, 0, false, 120⟩; rw [e6] at this; exact this
def q6 : St := ⟨400, 168, 4, Z, [55, 120], [], false, 0, false, 0, 0, 0⟩
theorem e7 : nextS q5 60 0 = some (⟨0, 55, false, 0⟩, q6) := by kernel_rfl
theorem ok6 : StOk q6 := next_ok ok5 e7
def q7 : St := ⟨400, 168, 4, Z, [], [0, 120], false, 0, false, 0, 0, 0⟩
theorem e8 : ackS q6 ⟨3, 4, 0, 0, false, 120⟩ = q7 := by kernel_rfl
theorem ok7 : StOk q7 := by have := ok6.ack ⟨3, 4, 0, 0, false, 120⟩; rw [e8] at this; exact this
theorem e9 : nextS q7 999 0 = none := by kernel_rfl
def q8 : St := ⟨400, 288, 4, Z, [], [0, 120], false, 0, false, 0, 0, 0⟩
theorem e10 : nextS q7 999 999 = some (⟨168, 120, false, 120⟩, q8) := by kernel_rfl
theorem ok8 : StOk q8 := next_ok ok7 e10
def q9 : St := ⟨400, 400, 4, Z, [], [0, 120], false, 0, false, 0, 0, 0⟩
theorem e11 : nextS q8 999 999 = some (⟨288, 112, false, 112⟩, q9) := by kernel_rfl
theorem ok9 : StOk q9 := next_ok ok8 e11
theorem e12 : nextS q9 999 999 = none := by kernel_rfl
def lq : Nat → St
  | 0 => q7
  | 1 => q8
  | _ => q9
def q10 : St := ⟨400, 400, 4, Z, [], [0, 120], false, 0, true, 7, 450, 0⟩
theorem e13 : resetS q9 (7) 450 = (0, q10) := by kernel_rfl
theorem ok10 : StOk q10 := by have := ok9.reset 7 450; rw [e13] at this; exact this
theorem e14 : turnS q10 = none := by kernel_rfl
def q11 : St := ⟨1000, 400, 4, Z, [], [0, 120], false, 0, true, 7, 450, 0⟩
theorem e15 : raiseS q10 1000 = q11 := by kernel_rfl
theorem ok11 : StOk q11 := by have := ok10.raise 1000; rw [e15] at this; exact this
def q12 : St := ⟨1000, 450, 4, Z, [], [0, 120], false, 0, true, 7, 450, 0⟩
theorem e16 : nextS q11 999 999 = some (⟨400, 50, false, 50⟩, q12) := by kernel_rfl
theorem ok12 : StOk q12 := next_ok ok11 e16
def q13 : St := ⟨1000, 450, 4, Z, [], [0, 120], false, 0, true, 7, 450, 1⟩
theorem e17 : turnS q12 = some q13 := by kernel_rfl
theorem ok13 : StOk q13 := ok12.turned e17
theorem e18 : resetS q13 (9) 450 = (6, q13) := by kernel_rfl
def q14 : St := ⟨1000, 450, 4, Z, [], [0, 120], false, 0, true, 7, 100, 0⟩
theorem e19 : resetS q13 (9) 100 = (0, q14) := by kernel_rfl
theorem ok14 : StOk q14 := by have := ok13.reset 9 100; rw [e19] at this; exact this
def q15 : St := ⟨1000, 450, 4, Z, [], [0, 120], false, 0, true, 7, 100, 1⟩
theorem e20 : turnS q14 = some q15 := by kernel_rfl
theorem ok15 : StOk q15 := ok14.turned e20
theorem e21 : turnS q15 = none := by kernel_rfl
theorem e22 : lostS q15 ⟨4, 4, 450, 450, false, 0⟩ = q15 := by kernel_rfl
def q16 : St := ⟨1000, 450, 4, Z, [], [0, 120], false, 0, true, 7, 100, 2⟩
theorem e23 : lostS q15 ⟨4, 4, 450, 100, false, 0⟩ = q16 := by kernel_rfl
theorem ok16 : StOk q16 := by have := ok15.lose ⟨4, 4, 450, 100, false, 0⟩; rw [e23] at this; exact this
theorem e24 : turnS q16 = some q15 := by kernel_rfl
def q17 : St := ⟨1000, 450, 4, Z, [], [0, 120], false, 0, true, 7, 100, 3⟩
theorem e25 : ackS q15 ⟨4, 4, 450, 100, false, 0⟩ = q17 := by kernel_rfl
theorem ok17 : StOk q17 := by have := ok15.ack ⟨4, 4, 450, 100, false, 0⟩; rw [e25] at this; exact this
theorem e26 : doneS q17 = true := by kernel_rfl
def q18 : St := ⟨400, 0, 1, [], [], [], false, 0, false, 0, 0, 0⟩
theorem ok18 : StOk q18 := newS_ok 1 (by decide)
def q19 : St := ⟨400, 0, 1, [], [], [], true, 0, false, 0, 0, 0⟩
theorem e27 : finishS q18 = (0, q19) := by kernel_rfl
theorem ok19 : StOk q19 := by have := ok18.finish; rw [e27] at this; exact this
def q20 : St := ⟨400, 0, 1, [], [], [], true, 1, false, 0, 0, 0⟩
theorem e28 : nextS q19 9 0 = some (⟨0, 0, true, 0⟩, q20) := by kernel_rfl
theorem ok20 : StOk q20 := next_ok ok19 e28
theorem e29 : nextS q20 9 0 = none := by kernel_rfl
def q21 : St := ⟨400, 0, 1, [], [], [], true, 2, false, 0, 0, 0⟩
theorem e30 : lostS q20 ⟨3, 1, 0, 0, true, 0⟩ = q21 := by kernel_rfl
theorem ok21 : StOk q21 := by have := ok20.lose ⟨3, 1, 0, 0, true, 0⟩; rw [e30] at this; exact this
theorem e31 : nextS q21 9 0 = some (⟨0, 0, true, 0⟩, q20) := by kernel_rfl
def q22 : St := ⟨400, 0, 1, [], [], [], true, 3, false, 0, 0, 0⟩
theorem e32 : ackS q20 ⟨3, 1, 0, 0, true, 0⟩ = q22 := by kernel_rfl
theorem ok22 : StOk q22 := by have := ok20.ack ⟨3, 1, 0, 0, true, 0⟩; rw [e32] at this; exact this
theorem e33 : writeS q17 [] = (6, q17) := by kernel_rfl
theorem e34 : resetS q17 1 0 = (6, q17) := by kernel_rfl
theorem e35 : doneS q22 = true := by kernel_rfl
theorem e36 : finishS q22 = (6, q22) := by kernel_rfl
def q23 : St := ⟨400, 0, 0, [], [], [], false, 0, false, 0, 0, 0⟩
theorem ok23 : StOk q23 := newS_ok 0 (by decide)
theorem e37 : writeS q23 (List.replicate 4001 0) = (9, q23) := by kernel_rfl
theorem e38 : resetS q23 (-1) 0 = (1, q23) := by kernel_rfl
theorem e39 : resetS q23 0 1 = (1, q23) := by kernel_rfl
end Go.Proofs.Ytppbhjjkccogkaa.SnK
