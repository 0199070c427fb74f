/- Package pnum: Bytes and Back. Conditions: the numbers fit their kinds. -/
import Derived.Test.YtmdmkjkdfagcfaaPnA
namespace Go.Proofs.Ytmdmkjkdfagcfaa
open Go Go.RowKit

theorem far_eq (n a : Int) (h1 : -9223372036854775808 ≤ a) (h2 : n ≤ 9223372036854775807) (h : a < n) : IntKind.u64.wrap (IntKind.u64.wrap n - IntKind.u64.wrap a) = n - a := by
  simp only [IntKind.wrap_u64]; omega

theorem bytesF_cases (n a : Int) : (bytesF n a = 1 ∧ n - a ≤ 128) ∨ (bytesF n a = 2 ∧ 128 < n - a ∧ n - a ≤ 32768) ∨ (bytesF n a = 3 ∧ 32768 < n - a ∧ n - a ≤ 8388608) ∨ (bytesF n a = 4 ∧ 8388608 < n - a) := by
  unfold bytesF; (repeat' split) <;> omega

set_option maxHeartbeats 400000 in
theorem bytes_any (n a : Int) (w : World) (h1 : -9223372036854775808 ≤ a) (h2 : n ≤ 9223372036854775807) :
    Calls Try.prog 10 #[.int .i64 n, .int .i64 a] w fun e w' => e = .returned (.int .i64 (bytesF n a)) ∧ w = w' := by
  by_cases h : n ≤ a
  · have e : bytesF n a = 1 := by unfold bytesF; rw [if_pos (by omega)]
    rw [e]
    clear e
    go_enter Try.func10, Try.ntmps10
    go_wp2
    go_ret
    exact ⟨rfl, rfl⟩
  · have hf := far_eq n a h1 h2 (by omega)
    rcases bytesF_cases n a with ⟨e, b⟩ | ⟨e, b, b2⟩ | ⟨e, b, b2⟩ | ⟨e, b⟩
    · rw [e]
      clear e
      go_enter Try.func10, Try.ntmps10
      go_wp2
      go_loop [6] (fun i => ∃ k : Int, 1 ≤ k ∧ k ≤ 1 ∧ i = .int .i64 k) (fun i => (1 - intOf i).toNat)
      case atStart => exact ⟨1, by omega, by omega, rfl⟩
      case round =>
        obtain ⟨k, hk1, hk2, rfl⟩ := hrel
        obtain rfl : k = 1 := by omega
        go_wp2_with (go_at_call 19; refine (turn_at 1 256 (by decide) _).mono ?_; rintro e w' ⟨rfl, rfl⟩)
        go_ret
        exact ⟨rfl, rfl⟩
    · rw [e]
      clear e
      go_enter Try.func10, Try.ntmps10
      go_wp2
      go_loop [6] (fun i => ∃ k : Int, 1 ≤ k ∧ k ≤ 2 ∧ i = .int .i64 k) (fun i => (2 - intOf i).toNat)
      case atStart => exact ⟨1, by omega, by omega, rfl⟩
      case round =>
        obtain ⟨k, hk1, hk2, rfl⟩ := hrel
        obtain rfl | rfl : k = 1 ∨ k = 2 := by omega
        · go_wp2_with (go_at_call 19; refine (turn_at 1 256 (by decide) _).mono ?_; rintro e w' ⟨rfl, rfl⟩)
          go_round
          case rel => exact ⟨2, by omega, by omega, rfl⟩
          case measure => simp [intOf]
        · go_wp2_with (go_at_call 19; refine (turn_at 2 65536 (by decide) _).mono ?_; rintro e w' ⟨rfl, rfl⟩)
          go_ret
          exact ⟨rfl, rfl⟩
    · rw [e]
      clear e
      go_enter Try.func10, Try.ntmps10
      go_wp2
      go_loop [6] (fun i => ∃ k : Int, 1 ≤ k ∧ k ≤ 3 ∧ i = .int .i64 k) (fun i => (3 - intOf i).toNat)
      case atStart => exact ⟨1, by omega, by omega, rfl⟩
      case round =>
        obtain ⟨k, hk1, hk2, rfl⟩ := hrel
        obtain rfl | rfl | rfl : k = 1 ∨ k = 2 ∨ k = 3 := by omega
        · go_wp2_with (go_at_call 19; refine (turn_at 1 256 (by decide) _).mono ?_; rintro e w' ⟨rfl, rfl⟩)
          go_round
          case rel => exact ⟨2, by omega, by omega, rfl⟩
          case measure => simp [intOf]
        · go_wp2_with (go_at_call 19; refine (turn_at 2 65536 (by decide) _).mono ?_; rintro e w' ⟨rfl, rfl⟩)
          go_round
          case rel => exact ⟨3, by omega, by omega, rfl⟩
          case measure => simp [intOf]
        · go_wp2_with (go_at_call 19; refine (turn_at 3 16777216 (by decide) _).mono ?_; rintro e w' ⟨rfl, rfl⟩)
          go_ret
          exact ⟨rfl, rfl⟩
    · rw [e]
      clear e
      go_enter Try.func10, Try.ntmps10
      go_wp2
      go_loop [6] (fun i => ∃ k : Int, 1 ≤ k ∧ k ≤ 4 ∧ i = .int .i64 k) (fun i => (4 - intOf i).toNat)
      case atStart => exact ⟨1, by omega, by omega, rfl⟩
      case round =>
        obtain ⟨k, hk1, hk2, rfl⟩ := hrel
        obtain rfl | rfl | rfl | rfl : k = 1 ∨ k = 2 ∨ k = 3 ∨ k = 4 := by omega
        · go_wp2_with (go_at_call 19; refine (turn_at 1 256 (by decide) _).mono ?_; rintro e w' ⟨rfl, rfl⟩)
          go_round
          case rel => exact ⟨2, by omega, by omega, rfl⟩
          case measure => simp [intOf]
        · go_wp2_with (go_at_call 19; refine (turn_at 2 65536 (by decide) _).mono ?_; rintro e w' ⟨rfl, rfl⟩)
          go_round
          case rel => exact ⟨3, by omega, by omega, rfl⟩
          case measure => simp [intOf]
        · go_wp2_with (go_at_call 19; refine (turn_at 3 16777216 (by decide) _).mono ?_; rintro e w' ⟨rfl, rfl⟩)
          go_round
          case rel => exact ⟨4, by omega, by omega, rfl⟩
          case measure => simp [intOf]
        · go_wp2
          go_ret
          exact ⟨rfl, rfl⟩

theorem mayR_in (x : Int) : 0 ≤ mayR x ∧ mayR x ≤ 4611686018427387903 := by
  unfold mayR inR; (repeat' split) <;> omega

theorem wrap_mod (y t : Int) (ht : t = 256 ∨ t = 65536 ∨ t = 16777216 ∨ t = 4294967296) : wrap64 y % t = y % t := by
  unfold wrap64
  rcases ht with rfl | rfl | rfl | rfl <;> omega

theorem tn_or (k : Int) : tn k = 256 ∨ tn k = 65536 ∨ tn k = 16777216 ∨ tn k = 4294967296 := by
  rcases tn_cases k with ⟨h, _⟩ | ⟨h, _⟩ | ⟨h, _⟩ | ⟨h, _⟩ <;> simp [h]

set_option maxHeartbeats 400000 in
theorem back_any (cut k next : Int) (w : World) :
    Calls Try.prog 12 #[.int .i64 cut, .int .i64 k, .int .i64 next] w fun e w' => e = .returned (.int .i64 (backF cut k next)) ∧ w = w' := by
  obtain ⟨x, hx⟩ : ∃ x, mayR next = x := ⟨_, rfl⟩
  have hx0 := mayR_in next
  rw [hx] at hx0
  obtain ⟨x0, x1⟩ := hx0
  have HX : Hid (inR next 0 4611686018427387903 = x) := hx
  obtain ⟨t, ht⟩ : ∃ t, tn k = t := ⟨_, rfl⟩
  have hto := tn_or k
  rw [ht] at hto
  obtain ⟨c, hc⟩ : ∃ c, (x - cut) % t = c := ⟨_, rfl⟩
  have HC : Hid (cutF (wrap64 (x - cut)) k = c) := by
    show _ = _
    unfold cutF
    rw [ht, wrap_mod _ _ hto, hc]
  have t0 : 256 ≤ t := by omega
  have t1 : t ≤ 4294967296 := by omega
  have c0 : 0 ≤ c := by rw [← hc]; exact Int.emod_nonneg _ (by omega)
  have c1 : c < t := by rw [← hc]; exact Int.emod_lt_of_pos _ (by omega)
  have HG : Hid (backF cut k next = if x - c < 0 then x - c + t else if 4611686018427387903 < x - c + t then x - c else if (x - c + t) - x ≤ x - (x - c) then x - c + t else x - c) := by
    show _ = _
    unfold backF backG
    rw [hx, ht, hc]
  have HT := Lib.hid ht
  clear hc ht hx hto
  by_cases b1 : x - c < 0
  · have e : Hid (backF cut k next = x - c + t) := by show _ = _; rw [HG.out, if_pos b1]
    go_enter Try.func12, Try.ntmps12
    go_wp2_with (first | (go_at_call 20; refine (within_at _ _ _ x HX.out _).mono ?_; rintro e w' ⟨rfl, rfl⟩) | (go_at_call 11; refine (cut_at _ _ c HC.out _).mono ?_; rintro e w' ⟨rfl, rfl⟩) | (go_at_call 19; refine (turn_at _ t HT.out _).mono ?_; rintro e w' ⟨rfl, rfl⟩))
    go_ret
    exact ⟨ret_int e.out.symm, rfl⟩
  · by_cases b2 : 4611686018427387903 < x - c + t
    · have e : Hid (backF cut k next = x - c) := by show _ = _; rw [HG.out, if_neg b1, if_pos b2]
      go_enter Try.func12, Try.ntmps12
      go_wp2_with (first | (go_at_call 20; refine (within_at _ _ _ x HX.out _).mono ?_; rintro e w' ⟨rfl, rfl⟩) | (go_at_call 11; refine (cut_at _ _ c HC.out _).mono ?_; rintro e w' ⟨rfl, rfl⟩) | (go_at_call 19; refine (turn_at _ t HT.out _).mono ?_; rintro e w' ⟨rfl, rfl⟩))
      go_ret
      exact ⟨ret_int e.out.symm, rfl⟩
    · by_cases b3 : (x - c + t) - x ≤ x - (x - c)
      · have e : Hid (backF cut k next = x - c + t) := by show _ = _; rw [HG.out, if_neg b1, if_neg b2, if_pos b3]
        go_enter Try.func12, Try.ntmps12
        go_wp2_with (first | (go_at_call 20; refine (within_at _ _ _ x HX.out _).mono ?_; rintro e w' ⟨rfl, rfl⟩) | (go_at_call 11; refine (cut_at _ _ c HC.out _).mono ?_; rintro e w' ⟨rfl, rfl⟩) | (go_at_call 19; refine (turn_at _ t HT.out _).mono ?_; rintro e w' ⟨rfl, rfl⟩))
        go_ret
        exact ⟨ret_int e.out.symm, rfl⟩
      · have e : Hid (backF cut k next = x - c) := by show _ = _; rw [HG.out, if_neg b1, if_neg b2, if_neg b3]
        go_enter Try.func12, Try.ntmps12
        go_wp2_with (first | (go_at_call 20; refine (within_at _ _ _ x HX.out _).mono ?_; rintro e w' ⟨rfl, rfl⟩) | (go_at_call 11; refine (cut_at _ _ c HC.out _).mono ?_; rintro e w' ⟨rfl, rfl⟩) | (go_at_call 19; refine (turn_at _ t HT.out _).mono ?_; rintro e w' ⟨rfl, rfl⟩))
        go_ret
        exact ⟨ret_int e.out.symm, rfl⟩
end Go.Proofs.Ytmdmkjkdfagcfaa
