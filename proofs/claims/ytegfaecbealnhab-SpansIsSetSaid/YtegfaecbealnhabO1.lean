/- Small sets; runs added in whatever order: plain facts. Conditions: as each theorem lists them. -/
import Derived.Test.YtegfaecbealnhabS10
import Derived.Test.YtegfaecbealnhabOp
import Derived.Test.YtegfaecbealnhabKn1
namespace Go.Proofs.Ytegfaecbealnhab
open Go Go.RowKit

/-- A set whose edges lie up to N. -/
def Sm (N : Nat) (es : List Int) : Prop := Ok es ∧ ∀ e ∈ es, e ≤ (N : Int)
theorem Sm.len {N : Nat} {es : List Int} (h : Sm N es) : es.length ≤ N + 1 := by
  rcases Nat.eq_zero_or_pos es.length with h0 | h0
  · omega
  · have h1 := get_ge h.1 (es.length - 1) (by omega)
    have h2 := h.2 es[es.length - 1] (List.getElem_mem _)
    rw [show es.getD (es.length - 1) 0 = es[es.length - 1] by simp [List.getD, show es.length - 1 < es.length by omega]] at h1
    omega
theorem Sm.get {N : Nat} {es : List Int} (h : Sm N es) (i : Nat) (hi : i < es.length) : es.getD i 0 ≤ (N : Int) := by
  have := h.2 es[i] (List.getElem_mem hi)
  simpa [List.getD, hi] using this
theorem Sm.nil (N : Nat) : Sm N [] := ⟨ok_nil, fun e he => by cases he⟩
theorem turn_edges (es : List Int) (f t : Int) (b : Bool) : ∀ e ∈ turn es f t b, e ∈ es ∨ e = clamp f ∨ e = clamp t := by
  intro e he
  unfold turn at he
  split at he
  · exact .inl he
  · unfold turnF at he
    rw [List.mem_append, List.mem_append, List.mem_append] at he
    rcases he with ((he | he) | he) | he
    · exact .inl (List.mem_of_mem_take he)
    · right; left; split at he <;> simp at he; exact he
    · right; right; split at he <;> simp at he; exact he
    · exact .inl (List.mem_of_mem_drop he)
theorem Sm.turn {N : Nat} {es : List Int} (h : Sm N es) (f t : Int) (b : Bool) (hf : f ≤ N) (ht : t ≤ N) : Sm N (turn es f t b) := by
  refine ⟨ok_turn es f t b h.1, fun e he => ?_⟩
  have c1 : clamp f ≤ N := by unfold clamp; omega
  have c2 : clamp t ≤ N := by unfold clamp; omega
  rcases turn_edges es f t b e he with h1 | rfl | rfl
  · exact h.2 e h1
  · exact c1
  · exact c2
theorem Sm.gaps {N : Nat} {es : List Int} (h : Sm N es) (f t : Int) (hf : f ≤ N) (ht : t ≤ N) : Sm N (gapsF es f t) := by
  refine ⟨ok_gaps h.1 f t, fun e he => ?_⟩
  have c1 : clamp f ≤ N := by unfold clamp; omega
  have c2 : clamp t ≤ N := by unfold clamp; omega
  unfold gapsF at he
  split at he
  · cases he
  · unfold gapsG at he
    rw [List.mem_append, List.mem_append] at he
    rcases he with (he | he) | he
    · have : e = clamp f := by split at he <;> simp at he; exact he
      omega
    · exact h.2 e (List.mem_of_mem_drop (List.mem_of_mem_take he))
    · have : e = clamp t := by split at he <;> simp at he; exact he
      omega
theorem clamp_small (n : Int) (h : 0 ≤ n) (h2 : n ≤ 4611686018427387904) : clamp n = n := by unfold clamp; omega

/-- A run that is added. -/
theorem mem_add {es : List Int} (h : Ok es) (f t : Int) (hf : 0 ≤ f ∧ f ≤ 1000) (ht : 0 ≤ t ∧ t ≤ 1000) (n : Int) : mem (turn es f t true) n = (mem es n || inRun n (f, t)) := by
  rw [mem_turn es f t true h, clamp_small f hf.1 (by omega), clamp_small t ht.1 (by omega)]
  unfold inRun
  by_cases h1 : f ≤ n ∧ n < t
  · rw [if_pos h1]; simp [h1.1, h1.2]
  · rw [if_neg h1]
    have : (decide (f ≤ n) && decide (n < t)) = false := by simp; omega
    simp only [this, Bool.or_false]
theorem mem_drop {es : List Int} (h : Ok es) (f t : Int) (hf : 0 ≤ f ∧ f ≤ 1000) (ht : 0 ≤ t ∧ t ≤ 1000) (n : Int) : mem (turn es f t false) n = (mem es n && !inRun n (f, t)) := by
  rw [mem_turn es f t false h, clamp_small f hf.1 (by omega), clamp_small t ht.1 (by omega)]
  unfold inRun
  by_cases h1 : f ≤ n ∧ n < t
  · rw [if_pos h1]; simp [h1.1, h1.2]
  · rw [if_neg h1]
    have : (decide (f ≤ n) && decide (n < t)) = false := by simp; omega
    simp only [this, Bool.not_false, Bool.and_true]

/-- The j-th call's run, of the raw numbers. -/
def runAt (zs : List Int) (m1 m2 : Int) (j : Nat) : Int × Int := (zs.getD (j * 3 + 1) 0 % m1, zs.getD (j * 3 + 2) 0 % m2)
theorem any_succ (j : Nat) (p : Nat → Bool) : (List.range (j + 1)).any p = ((List.range j).any p || p j) := by
  rw [List.range_succ, List.any_append]; simp

theorem rot_any (n k : Nat) (hk : k ≤ n) (p : Nat → Bool) : (List.range n).any (fun j => p ((j + k) % n)) = (List.range n).any p := by
  rw [Bool.eq_iff_iff, List.any_eq_true, List.any_eq_true]
  constructor
  · rintro ⟨j, hj, h⟩
    rw [List.mem_range] at hj
    exact ⟨(j + k) % n, List.mem_range.2 (Nat.mod_lt _ (by omega)), h⟩
  · rintro ⟨j, hj, h⟩
    rw [List.mem_range] at hj
    refine ⟨(j + (n - k)) % n, List.mem_range.2 (Nat.mod_lt _ (by omega)), ?_⟩
    rwa [Nat.mod_add_mod, show j + (n - k) + k = j + n by omega, Nat.add_mod_right, Nat.mod_eq_of_lt hj]
theorem split_any (n k : Nat) (p : Nat → Bool) : ((List.range n).any (fun j => decide (j < k) && p j) || (List.range n).any (fun j => !decide (j < k) && p j)) = (List.range n).any p := by
  rw [Bool.eq_iff_iff, Bool.or_eq_true, List.any_eq_true, List.any_eq_true, List.any_eq_true]
  constructor
  · rintro (⟨j, hj, h⟩ | ⟨j, hj, h⟩) <;> rw [Bool.and_eq_true] at h <;> exact ⟨j, hj, h.2⟩
  · rintro ⟨j, hj, h⟩
    by_cases h1 : j < k
    · left; exact ⟨j, hj, by simp [h1, h]⟩
    · right; exact ⟨j, hj, by simp [h1, h]⟩

end Go.Proofs.Ytegfaecbealnhab
