/- How many bytes a number takes; Size. Conditions: as each theorem lists them. -/
import Derived.Test.YtoglpjgmnojdjaaH1
import Derived.Test.YtoglpjgmnojdjaaBy
set_option linter.unusedSimpArgs false
set_option linter.unusedVariables false
namespace Go.Proofs.Ytoglpjgmnojdjaa
open Go Go.RowKit

/-- How many bytes a number takes; 0: it may not be. -/
def wid (n : Int) : Nat := if n < 0 ∨ 4611686018427387903 < n then 0 else if n < 64 then 1 else if n < 16384 then 2 else if n < 1073741824 then 4 else 8

set_option maxHeartbeats 400000 in
theorem width_any (n : Int) (w : World) :
    Calls Try.prog 69 #[.int .i64 n] w fun e w' => e = .returned (.int .i64 (wid n)) ∧ w = w' := by
  have key : ∀ k : Nat, wid n = k → ((wid n : Nat) : Int) = (k : Int) := fun k h => by rw [h]
  by_cases h0 : n < 0
  · have e : ((wid n : Nat) : Int) = 0 := key 0 (by unfold wid; rw [if_pos (.inl h0)])
    rw [e]
    clear e key
    go_enter Try.func69, Try.ntmps69
    go_wp2
    go_ret
    exact ⟨rfl, rfl⟩
  · by_cases h1 : 4611686018427387903 < n
    · have e : ((wid n : Nat) : Int) = 0 := key 0 (by unfold wid; rw [if_pos (.inr h1)])
      rw [e]
      clear e key
      go_enter Try.func69, Try.ntmps69
      go_wp2
      go_ret
      exact ⟨rfl, rfl⟩
    · by_cases h2 : n < 64
      · have e : ((wid n : Nat) : Int) = 1 := key 1 (by unfold wid; rw [if_neg (by omega), if_pos h2])
        rw [e]
        clear e key
        go_enter Try.func69, Try.ntmps69
        go_wp2
        go_ret
        exact ⟨rfl, rfl⟩
      · by_cases h3 : n < 16384
        · have e : ((wid n : Nat) : Int) = 2 := key 2 (by unfold wid; rw [if_neg (by omega), if_neg h2, if_pos h3])
          rw [e]
          clear e key
          go_enter Try.func69, Try.ntmps69
          go_wp2
          go_ret
          exact ⟨rfl, rfl⟩
        · by_cases h4 : n < 1073741824
          · have e : ((wid n : Nat) : Int) = 4 := key 4 (by unfold wid; rw [if_neg (by omega), if_neg h2, if_neg h3, if_pos h4])
            rw [e]
            clear e key
            go_enter Try.func69, Try.ntmps69
            go_wp2
            go_ret
            exact ⟨rfl, rfl⟩
          · have e : ((wid n : Nat) : Int) = 8 := key 8 (by unfold wid; rw [if_neg (by omega), if_neg h2, if_neg h3, if_neg h4])
            rw [e]
            clear e key
            go_enter Try.func69, Try.ntmps69
            go_wp2
            go_ret
            exact ⟨rfl, rfl⟩

def sumW (l : List Int) : Nat := (l.map wid).sum

theorem wid_le (n : Int) : wid n ≤ 8 := by unfold wid; (repeat' split) <;> omega
theorem sumW_le (l : List Int) : sumW l ≤ 8 * l.length := by
  induction l with
  | nil => simp [sumW]
  | cons n l ih => have := wid_le n; simp only [sumW, List.map_cons, List.sum_cons, List.length_cons] at ih ⊢; omega
theorem sumW_snoc (l : List Int) (n : Int) : sumW (l ++ [n]) = sumW l + wid n := by simp [sumW]
theorem take_snoc' (l : List Int) (k : Nat) (h : k < l.length) : l.take (k + 1) = l.take k ++ [l[k]] := by rw [List.take_succ_eq_append_getElem h]

/-- Every number may be. -/
def allMay (l : List Int) : Prop := ∀ n ∈ l, wid n ≠ 0
instance (l : List Int) : Decidable (allMay l) := inferInstanceAs (Decidable (∀ n ∈ l, wid n ≠ 0))

set_option maxHeartbeats 400000 in
theorem size_ok (l : List Int) (b off cap : Nat) (w : World) (hl : l.length < 1000000000000000) (hc : ∀ j, j < l.length → w.cell? ⟨b, off + j, none⟩ = some (.int .i64 (l.getD j 0))) (hm : allMay l) :
    Calls Try.prog 61 #[.slice (some ⟨b, off, none⟩) l.length cap] w fun e w' => e = .returned (.int .i64 (sumW l)) ∧ w = w' := by
  have HC := Lib.hid hc
  clear hc
  go_enter Try.func61, Try.ntmps61
  go_wp2
  go_loop [3, 9] (fun s i => ∃ k : Nat, k ≤ l.length ∧ i = .int .i64 k ∧ s = .int .i64 (sumW (l.take k))) (fun _ i => l.length - (intOf i).toNat)
  case atStart => exact ⟨0, by omega, rfl, rfl⟩
  case round =>
    obtain ⟨k, hk, rfl, rfl⟩ := hrel
    have hs := sumW_le (l.take k)
    have hs2 : (l.take k).length ≤ k := List.length_take_le _ _
    by_cases hlt : k < l.length
    · obtain ⟨x, hx, hcell⟩ : ∃ x, Hid (l[k] = x) ∧ w.cell? ⟨b, off + k, none⟩ = some (.int .i64 x) := ⟨l[k], rfl, by rw [HC.out k hlt]; simp [List.getD, hlt]⟩
      have hw : ((wid x : Int) == 0) = false := by
        have := hm (l[k]) (List.getElem_mem _)
        rw [hx.out] at this
        simpa using this
      have hw8 := wid_le x
      have hsn : Hid (sumW (l.take (k + 1)) = sumW (l.take k) + wid x) := by rw [take_snoc' l k hlt, sumW_snoc, hx.out]; exact rfl
      go_wp2_with (go_at_call 69; refine (width_any _ _).mono ?_; rintro e w' ⟨rfl, rfl⟩)
      go_round
      case rel => exact ⟨k + 1, by omega, by go_num, by rw [hsn.out]; go_num⟩
      case measure => simp [intOf]; omega
    · go_wp2
      go_ret
      exact ⟨ret_int (by rw [List.take_of_length_le (by omega)]), rfl⟩

set_option maxHeartbeats 400000 in
theorem size_no (l : List Int) (b off cap : Nat) (w : World) (hl : l.length < 1000000000000000) (hc : ∀ j, j < l.length → w.cell? ⟨b, off + j, none⟩ = some (.int .i64 (l.getD j 0))) (hm : ¬ allMay l) :
    Calls Try.prog 61 #[.slice (some ⟨b, off, none⟩) l.length cap] w fun e w' => e = .returned (.int .i64 (-1)) ∧ w = w' := by
  have hb : ∀ k, k ≤ l.length → (∀ j, j < k → wid (l.getD j 0) ≠ 0) → k < l.length := fun k hk h => by
    rcases Nat.lt_or_ge k l.length with h1 | h1
    · exact h1
    · exact absurd (fun n hn => by
        obtain ⟨j, hj, rfl⟩ := List.mem_iff_getElem.1 hn
        have := h j (by omega)
        simpa [List.getD, hj] using this) hm
  clear hm
  have HC := Lib.hid hc
  clear hc
  go_enter Try.func61, Try.ntmps61
  go_wp2
  go_loop [3, 9] (fun s i => ∃ k : Nat, k ≤ l.length ∧ i = .int .i64 k ∧ s = .int .i64 (sumW (l.take k)) ∧ Hid (∀ j, j < k → wid (l.getD j 0) ≠ 0)) (fun _ i => l.length - (intOf i).toNat)
  case atStart => exact ⟨0, by omega, rfl, rfl, fun j h => absurd h (by omega)⟩
  case round =>
    obtain ⟨k, hk, rfl, rfl, H⟩ := hrel
    have hs := sumW_le (l.take k)
    have hs2 : (l.take k).length ≤ k := List.length_take_le _ _
    have hlt := hb k hk H.out
    obtain ⟨x, hx, hcell⟩ : ∃ x, Hid (l[k] = x) ∧ w.cell? ⟨b, off + k, none⟩ = some (.int .i64 x) := ⟨l[k], rfl, by rw [HC.out k hlt]; simp [List.getD, hlt]⟩
    have hxd : Hid (l.getD k 0 = x) := Lib.hid ((show l.getD k 0 = l[k] by simp [List.getD, hlt]).trans hx.out)
    by_cases hz : wid x = 0
    · have hw : ((wid x : Int) == 0) = true := by rw [hz]; rfl
      clear hz
      go_wp2_with (go_at_call 69; refine (width_any _ _).mono ?_; rintro e w' ⟨rfl, rfl⟩)
      go_ret
      exact ⟨rfl, rfl⟩
    · have hw : ((wid x : Int) == 0) = false := by simpa using hz
      have hw8 := wid_le x
      have hsn : Hid (sumW (l.take (k + 1)) = sumW (l.take k) + wid x) := by rw [take_snoc' l k hlt, sumW_snoc, hx.out]; exact rfl
      have H2 : Hid (∀ j, j < k + 1 → wid (l.getD j 0) ≠ 0) := fun j hj => by
        rcases Nat.lt_or_ge j k with h1 | h1
        · exact H.out j h1
        · obtain rfl : j = k := by omega
          rw [hxd.out]; exact hz
      clear hz
      go_wp2_with (go_at_call 69; refine (width_any _ _).mono ?_; rintro e w' ⟨rfl, rfl⟩)
      go_round
      case rel => exact ⟨k + 1, by omega, by go_num, by rw [hsn.out]; go_num, H2⟩
      case measure => simp [intOf]; omega

theorem size_nil (w : World) : Calls Try.prog 61 #[.slice none 0 0] w fun e w' => e = .returned (.int .i64 0) ∧ w = w' := by
  go_enter Try.func61, Try.ntmps61
  go_wp2
  go_loop [3, 9] (fun s i => i = .int .i64 0 ∧ s = .int .i64 0) (fun _ _ => 0)
  case atStart => exact ⟨rfl, rfl⟩
  case round =>
    obtain ⟨rfl, rfl⟩ := hrel
    go_wp2
    go_ret
    exact ⟨rfl, rfl⟩
end Go.Proofs.Ytoglpjgmnojdjaa
