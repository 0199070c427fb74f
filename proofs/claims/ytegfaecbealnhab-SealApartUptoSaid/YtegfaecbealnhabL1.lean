/- Step, numbered. Conditions: the numbers fit their kinds. -/
import Derived.Test.YtegfaecbealnhabZ
import Derived.Laws.BitsAllLaws
namespace Go.Proofs.Ytegfaecbealnhab
open Go Go.RowKit

theorem ret_u64 {a b : Int} (h : a = b) : Ending.returned (.int .u64 a) = .returned (.int .u64 b) := by rw [h]
theorem wrap_u64' (n : Int) : IntKind.u64.wrap n = n % 2 ^ 64 := by simp [IntKind.wrap, IntKind.bits, IntKind.signed]

theorem rot_form (h : Nat) (hh : h < 2 ^ 64) : bits .or .u64 (IntKind.u64.wrap ((h : Int) * 8192)) ((h : Int) / 2251799813685248) = (rotN h : Int) := by
  have e1 : IntKind.u64.wrap ((h : Int) * 8192) = ((h * 8192 % 2 ^ 64 : Nat) : Int) := by rw [wrap_u64']; omega
  have e2 : (h : Int) / 2251799813685248 = ((h / 2 ^ 51 : Nat) : Int) := by omega
  rw [e1, e2, u64_or_nat _ _ (by omega) (by omega), nat_join 13 _ _ (by omega) (by omega)]
  rfl

set_option maxHeartbeats 400000 in
theorem rot_any (h : Nat) (w : World) (hh : h < 2 ^ 64) :
    Calls Try.prog 61 #[.int .u64 (h : Int), .int .i64 13] w fun e w' => e = .returned (.int .u64 (rotN h : Int)) ∧ w = w' := by
  have hb : bits .and .u64 13 63 = 13 := by decide
  go_enter Try.func61, Try.ntmps61
  go_wp2
  go_ret
  exact ⟨ret_u64 (rot_form h hh), rfl⟩

theorem stp_form (h c : Nat) (hh : h < 2 ^ 64) (hc : c < 2 ^ 64) : IntKind.u64.wrap (bits .xor .u64 (rotN h : Int) (c : Int) * 15485907386658061715) = (stpN h c : Int) := by
  rw [u64_xor_nat _ _ (rotN_lt h hh) hc, wrap_u64']
  unfold stpN Kn
  generalize rotN h ^^^ c = x
  omega

set_option maxHeartbeats 400000 in
theorem step_any (h c : Nat) (w : World) (hh : h < 2 ^ 64) (hc : c < 2 ^ 64) :
    Calls Try.prog 40 #[.int .u64 (h : Int), .int .u64 (c : Int)] w fun e w' => e = .returned (.int .u64 (stpN h c : Int)) ∧ w = w' := by
  have F := Lib.hid (stp_form h c hh hc)
  have R := Lib.hid (rot_any h w hh)
  clear hh hc
  go_enter Try.func40, Try.ntmps40
  go_wp2_with fail
  refine R.out.mono ?_; rintro e w' ⟨rfl, rfl⟩
  go_wp2
  go_ret
  exact ⟨ret_u64 F.out, rfl⟩

theorem rstp_form (h : Nat) (hh : h < 2 ^ 64) : IntKind.u64.wrap (IntKind.u64.wrap ((h : Int) * 8192) + (h : Int) / 2251799813685248) = (rotN h : Int) := by
  rw [wrap_u64', wrap_u64']
  unfold rotN
  omega

set_option maxHeartbeats 400000 in
theorem rstep_any (h c : Nat) (w : World) (hh : h < 2 ^ 64) (hc : c < 2 ^ 64) :
    Calls Try.prog 43 #[.int .u64 (h : Int), .int .u64 (c : Int)] w fun e w' => e = .returned (.int .u64 (stpN h c : Int)) ∧ w = w' := by
  have F := Lib.hid (stp_form h c hh hc)
  have G := Lib.hid (rstp_form h hh)
  go_enter Try.func43, Try.ntmps43
  go_wp2
  go_ret
  exact ⟨ret_u64 (by rw [G.out]; exact F.out), rfl⟩

/-- num as a number without a sign. -/
def unN (n : Int) : Nat := (n % 2 ^ 64).toNat
theorem unN_lt (n : Int) : unN n < 2 ^ 64 := by unfold unN; omega
theorem unN_wrap (n : Int) : IntKind.u64.wrap n = (unN n : Int) := by rw [wrap_u64']; unfold unN; omega
theorem unN_inj {a b : Int} (ha : -9223372036854775808 ≤ a) (ha' : a ≤ 9223372036854775807) (hb : -9223372036854775808 ≤ b) (hb' : b ≤ 9223372036854775807) (h : unN a = unN b) : a = b := by
  unfold unN at h; omega

set_option maxHeartbeats 400000 in
theorem numbered_any (h : Nat) (n : Int) (w : World) (hh : h < 2 ^ 64) :
    Calls Try.prog 59 #[.int .u64 (h : Int), .int .i64 n] w fun e w' => e = .returned (.int .u64 (stpN h (unN n) : Int)) ∧ w = w' := by
  have S := step_any h (unN n) w hh (unN_lt n)
  rw [← unN_wrap] at S
  have S := Lib.hid S
  clear hh
  go_enter Try.func59, Try.ntmps59
  go_wp2_with fail
  refine S.out.mono ?_; rintro e w' ⟨rfl, rfl⟩
  go_wp2
  go_ret
  exact ⟨rfl, rfl⟩
end Go.Proofs.Ytegfaecbealnhab
