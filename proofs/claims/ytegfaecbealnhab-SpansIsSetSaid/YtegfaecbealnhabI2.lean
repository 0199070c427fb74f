/- SpansIsSet: inside, a contract. Conditions: the array has 70 places, b is one of them or behind the last. -/
import Derived.Test.YtegfaecbealnhabI1
import Derived.BigGuardPart
namespace Go.Proofs.Ytegfaecbealnhab.IsSet
open Go Go.RowKit

set_option maxRecDepth 100000 in
set_option maxHeartbeats 2000000 in
theorem inside_any (bs : List Bool) (hl : bs.length = 70) (a b : Nat) (ha : a ≤ 70) (hb : b ≤ 70) (w : World) :
    Calls Try.prog 36 #[.agg (bs.map Value.bool).toArray, .int .i64 a, .int .i64 b] w fun e w' => e = .returned (.int .i64 ((cntB bs a (b - a) : Nat) : Int)) ∧ Below w.heap.size w w' := by
  obtain ⟨cs, hcs⟩ : ∃ cs, Hid ((bs.map Value.bool).toArray = cs) := ⟨_, rfl⟩
  rw [hcs.out]
  go_enter Try.func36, Try.ntmps36
  go_wp2_with fail
  obtain ⟨w1, hw1⟩ : ∃ w1, w.alloc (.cells cs 48) = w1 := ⟨_, rfl⟩
  have HA : Hid (ArrB w1 w.heap.size bs ∧ Below w.heap.size w w1) := by
    rw [← hw1, ← hcs.out]
    exact ⟨⟨hl, heap_alloc_new w _⟩, (Below.refl _ _).alloc (Nat.le_refl _) _⟩
  rw [hw1]
  clear hw1
  obtain ⟨p, hp⟩ : ∃ p, Hid (w.heap.size = p) := ⟨_, rfl⟩
  rw [hp.out] at HA ⊢
  go_loopw [7, 8] (fun c i wr => ∃ k : Nat, k ≤ b - a ∧ c = .int .i64 ((cntB bs a k : Nat) : Int) ∧ i = .int .i64 ((a : Int) + (k : Int)) ∧ wr = w1) (fun _ i _ => b - (intOf i).toNat)
  case atStart => exact ⟨0, Nat.zero_le _, rfl, by go_num, rfl⟩
  case round =>
    obtain ⟨k, hk, rfl, rfl, rfl⟩ := hrel
    have hle := cntB_le bs a k
    by_cases hlt : k < b - a
    · have hlti : (a : Int) + (k : Int) < (b : Int) := by omega
      have hc : wr.cell? ⟨p, a + k, none⟩ = some (.bool (bs.getD (a + k) false)) := HA.out.1.cell (a + k) (by omega)
      have e1 : ((a : Int) + (k : Int)).toNat = a + k := by omega
      have e2 : (a : Int) + (k : Int) < 70 := by omega
      have e3 : 0 ≤ (a : Int) + (k : Int) := by omega
      cases hv : bs.getD (a + k) false
      · rw [hv] at hc
        go_wp2_with fail
        go_roundw
        case rel => exact ⟨k + 1, by omega, by rw [show cntB bs a (k + 1) = cntB bs a k + if bs.getD (a + k) false = true then 1 else 0 from rfl, hv]; rfl, by go_num, trivial⟩
        case measure => simp [intOf]; omega
      · rw [hv] at hc
        go_wp2_with fail
        go_roundw
        case rel => exact ⟨k + 1, by omega, by rw [show cntB bs a (k + 1) = cntB bs a k + if bs.getD (a + k) false = true then 1 else 0 from rfl, hv]; go_num, by go_num, trivial⟩
        case measure => simp [intOf]; omega
    · obtain rfl : k = b - a := by omega
      have hlti : ¬ (a : Int) + ((b - a : Nat) : Int) < (b : Int) := by omega
      go_wp2_with fail
      go_ret
      refine ⟨rfl, ?_⟩
      rw [hp.out]
      exact HA.out.2
end Go.Proofs.Ytegfaecbealnhab.IsSet
