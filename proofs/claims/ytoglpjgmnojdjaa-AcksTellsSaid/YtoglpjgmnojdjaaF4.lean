/- carried of package frame: a contract. Conditions: as the theorem lists them. -/
import Derived.Test.YtoglpjgmnojdjaaF3
set_option linter.unusedSimpArgs false
set_option linter.unusedVariables false
namespace Go.Proofs.Ytoglpjgmnojdjaa
open Go Go.RowKit

/-- The bits of those that are so. -/
def carI (b : Nat → Bool) : Nat → Int
  | 0 => 0
  | k + 1 => if b k = true then bits .or .i64 (carI b k) (2 ^ k) else carI b k
theorem carI_yes {b : Nat → Bool} {k : Nat} (h : b k = true) : carI b (k + 1) = bits .or .i64 (carI b k) (2 ^ k) := by simp only [carI, h, if_true]
theorem carI_no {b : Nat → Bool} {k : Nat} (h : b k = false) : carI b (k + 1) = carI b k := by simp [carI, h]
def seven {α : Type} (x0 x1 x2 x3 x4 x5 x6 : α) : Nat → α
  | 0 => x0
  | 1 => x1
  | 2 => x2
  | 3 => x3
  | 4 => x4
  | 5 => x5
  | _ => x6
/-- What of a frame is not zero. -/
def carB (id off a b : Int) (fin : Bool) (n m : Nat) : Nat → Bool := seven (id != 0) (a != 0) (off != 0) (b != 0) fin (decide (0 < n)) (decide (0 < m))

set_option maxHeartbeats 4000000 in
theorem carried_any (k id off a b note : Int) (fin : Bool) (A : Option Addr) (n c : Nat) (A2 : Option Addr) (n2 c2 : Nat) (w : World) (hn : n ≤ 140737488355328) (hn2 : n2 ≤ 140737488355328) :
    Calls Try.prog 51 #[.agg #[.int .i64 k, .int .i64 id, .int .i64 off, .int .i64 a, .int .i64 b, .int .i64 note, .bool fin, .slice A n c, .slice A2 n2 c2]] w fun e w' => e = .returned (.int .i64 (carI (carB id off a b fin n n2) 7)) ∧ Below w.heap.size w w' := by
  obtain ⟨F, hF⟩ : ∃ F, Hid (carB id off a b fin n n2 = F) := ⟨_, rfl⟩
  rw [hF.out]
  obtain ⟨b0, h0⟩ : ∃ x, (id != 0) = x := ⟨_, rfl⟩
  obtain ⟨b1, h1⟩ : ∃ x, (a != 0) = x := ⟨_, rfl⟩
  obtain ⟨b2, h2⟩ : ∃ x, (off != 0) = x := ⟨_, rfl⟩
  obtain ⟨b3, h3⟩ : ∃ x, (b != 0) = x := ⟨_, rfl⟩
  obtain ⟨b5, h5⟩ : ∃ x, decide (0 < n) = x := ⟨_, rfl⟩
  obtain ⟨b6, h6⟩ : ∃ x, decide (0 < n2) = x := ⟨_, rfl⟩
  have HF : Hid (F = seven b0 b1 b2 b3 fin b5 b6) := by rw [← hF.out]; unfold carB; rw [h0, h1, h2, h3, h5, h6]; rfl
  have i0 : ∀ w, (Instr.index 86 (.agg #[.bool b0, .bool b1, .bool b2, .bool b3, .bool fin, .bool b5, .bool b6]) (.int .i64 0)).run Try.prog w = .ok (.bool b0) w := fun _ => by kernel_rfl
  have i1 : ∀ w, (Instr.index 86 (.agg #[.bool b0, .bool b1, .bool b2, .bool b3, .bool fin, .bool b5, .bool b6]) (.int .i64 1)).run Try.prog w = .ok (.bool b1) w := fun _ => by kernel_rfl
  have i2 : ∀ w, (Instr.index 86 (.agg #[.bool b0, .bool b1, .bool b2, .bool b3, .bool fin, .bool b5, .bool b6]) (.int .i64 2)).run Try.prog w = .ok (.bool b2) w := fun _ => by kernel_rfl
  have i3 : ∀ w, (Instr.index 86 (.agg #[.bool b0, .bool b1, .bool b2, .bool b3, .bool fin, .bool b5, .bool b6]) (.int .i64 3)).run Try.prog w = .ok (.bool b3) w := fun _ => by kernel_rfl
  have i4 : ∀ w, (Instr.index 86 (.agg #[.bool b0, .bool b1, .bool b2, .bool b3, .bool fin, .bool b5, .bool b6]) (.int .i64 4)).run Try.prog w = .ok (.bool fin) w := fun _ => by kernel_rfl
  have i5 : ∀ w, (Instr.index 86 (.agg #[.bool b0, .bool b1, .bool b2, .bool b3, .bool fin, .bool b5, .bool b6]) (.int .i64 5)).run Try.prog w = .ok (.bool b5) w := fun _ => by kernel_rfl
  have i6 : ∀ w, (Instr.index 86 (.agg #[.bool b0, .bool b1, .bool b2, .bool b3, .bool fin, .bool b5, .bool b6]) (.int .i64 6)).run Try.prog w = .ok (.bool b6) w := fun _ => by kernel_rfl
  go_enter Try.func51, Try.ntmps51
  go_wp2_with fail
  go_loop [3, 29] (fun p i => ∃ j : Nat, j ≤ 7 ∧ i = .int .i64 j ∧ p = .int .i64 (carI F j)) (fun _ i => 7 - (intOf i).toNat)
  case atStart => exact ⟨0, by omega, rfl, rfl⟩
  case round =>
    clear h0 h1 h2 h3 h5 h6
    obtain ⟨j, hj, rfl, rfl⟩ := hrel
    obtain ⟨q, hq⟩ : ∃ q, Hid (carI F j = q) := ⟨_, rfl⟩
    rw [hq.out]
    have hjc : j = 0 ∨ j = 1 ∨ j = 2 ∨ j = 3 ∨ j = 4 ∨ j = 5 ∨ j = 6 ∨ j = 7 := by omega
    clear hj
    rcases hjc with rfl | rfl | rfl | rfl | rfl | rfl | rfl | rfl
    · cases b0
      · go_wp2_with fail
        go_round
        case rel => exact ⟨1, by omega, rfl, by rw [carI_no (by rw [HF.out]; rfl), hq.out]⟩
        case measure => decide
      · go_wp2_with fail
        go_round
        case rel => exact ⟨1, by omega, rfl, by rw [carI_yes (by rw [HF.out]; rfl), hq.out]; rfl⟩
        case measure => decide
    · cases b1
      · go_wp2_with fail
        go_round
        case rel => exact ⟨2, by omega, rfl, by rw [carI_no (by rw [HF.out]; rfl), hq.out]⟩
        case measure => decide
      · go_wp2_with fail
        go_round
        case rel => exact ⟨2, by omega, rfl, by rw [carI_yes (by rw [HF.out]; rfl), hq.out]; rfl⟩
        case measure => decide
    · cases b2
      · go_wp2_with fail
        go_round
        case rel => exact ⟨3, by omega, rfl, by rw [carI_no (by rw [HF.out]; rfl), hq.out]⟩
        case measure => decide
      · go_wp2_with fail
        go_round
        case rel => exact ⟨3, by omega, rfl, by rw [carI_yes (by rw [HF.out]; rfl), hq.out]; rfl⟩
        case measure => decide
    · cases b3
      · go_wp2_with fail
        go_round
        case rel => exact ⟨4, by omega, rfl, by rw [carI_no (by rw [HF.out]; rfl), hq.out]⟩
        case measure => decide
      · go_wp2_with fail
        go_round
        case rel => exact ⟨4, by omega, rfl, by rw [carI_yes (by rw [HF.out]; rfl), hq.out]; rfl⟩
        case measure => decide
    · cases fin
      · go_wp2_with fail
        go_round
        case rel => exact ⟨5, by omega, rfl, by rw [carI_no (by rw [HF.out]; rfl), hq.out]⟩
        case measure => decide
      · go_wp2_with fail
        go_round
        case rel => exact ⟨5, by omega, rfl, by rw [carI_yes (by rw [HF.out]; rfl), hq.out]; rfl⟩
        case measure => decide
    · cases b5
      · go_wp2_with fail
        go_round
        case rel => exact ⟨6, by omega, rfl, by rw [carI_no (by rw [HF.out]; rfl), hq.out]⟩
        case measure => decide
      · go_wp2_with fail
        go_round
        case rel => exact ⟨6, by omega, rfl, by rw [carI_yes (by rw [HF.out]; rfl), hq.out]; rfl⟩
        case measure => decide
    · cases b6
      · go_wp2_with fail
        go_round
        case rel => exact ⟨7, by omega, rfl, by rw [carI_no (by rw [HF.out]; rfl), hq.out]⟩
        case measure => decide
      · go_wp2_with fail
        go_round
        case rel => exact ⟨7, by omega, rfl, by rw [carI_yes (by rw [HF.out]; rfl), hq.out]; rfl⟩
        case measure => decide
    · go_wp2_with fail
      go_ret
      exact ⟨ret_int hq.out.symm, (Below.refl _ _).alloc (Nat.le_refl _) _⟩
end Go.Proofs.Ytoglpjgmnojdjaa
