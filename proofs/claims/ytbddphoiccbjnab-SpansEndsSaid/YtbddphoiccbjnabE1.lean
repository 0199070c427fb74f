/- SpansEnds: the walk. Conditions: none. -/
import Derived.Test.YtbddphoiccbjnabS9
import Derived.Test.YtbddphoiccbjnabKn1
namespace Go.Proofs.Ytbddphoiccbjnab
open Go Go.RowKit

theorem set_new (w : World) : SetIn (w.alloc (.cells #[.slice none 0 0] 24)) w.heap.size [] :=
  ⟨ok_nil, none, 0, heap_alloc_new w _, Nat.le_refl _, fun _ => .inl ⟨rfl, rfl⟩, Rd.nil _ _ _⟩
/-- A set's value, in a new variable. -/
theorem SetVal.put {w : World} {es : List Int} {A : Option Addr} {c : Nat} (h : SetVal w es A c) : SetIn (w.alloc (.cells #[.slice A es.length c] 24)) w.heap.size es :=
  ⟨h.1, A, c, heap_alloc_new w _, h.2.1, h.2.2.1, (h.2.2.2.alloc (Nat.le_refl _) _).more (by simp)⟩

theorem turn_nil (f t : Int) (h : clamp f < clamp t) : turn [] f t true = [clamp f, clamp t] := by
  unfold turn turnF
  rw [if_neg (by omega)]
  rfl
def endsF (a b : Int) : List Int := if b = 0 then [4611686018427387903 - a, 4611686018427387904] else [0, b, 4611686018427387903 - a, 4611686018427387904]
theorem ends_turn (a b : Int) (ha : 0 ≤ a) (ha2 : a < 50) (hb : 0 ≤ b) (hb2 : b < 50) : turn (turn [] (4611686018427387903 - a) 9223372036854775807 true) (-9223372036854775808) b true = endsF a b := by
  have e1 : clamp (4611686018427387903 - a) = 4611686018427387903 - a := by unfold clamp; omega
  have e2 : clamp 9223372036854775807 = 4611686018427387904 := by unfold clamp; omega
  have e3 : clamp (-9223372036854775808) = 0 := by unfold clamp; omega
  have e4 : clamp b = b := by unfold clamp; omega
  rw [turn_nil _ _ (by rw [e1, e2]; omega), e1, e2]
  unfold turn endsF
  rw [e3, e4]
  by_cases h : b = 0
  · rw [if_pos (by omega), if_pos h]
  · rw [if_neg (by omega), if_neg h]
    unfold turnF
    rw [lo_zero _ _ (by intro x hx; simp at hx; omega), up_zero _ _ (by intro x hx; simp at hx; omega)]
    rfl
theorem ends_cnt (a b : Int) : cnt (endsF a b) = a + 1 + b := by
  unfold endsF; split
  · show 4611686018427387904 - (4611686018427387903 - a) + 0 = _; omega
  · show b - 0 + (4611686018427387904 - (4611686018427387903 - a) + 0) = _; omega
theorem ends_len (a b : Int) : (endsF a b).length ≤ 4 := by unfold endsF; split <;> simp
theorem ends_mem (a b n : Int) (ha : 0 ≤ a) (ha2 : a < 50) (hb : 0 ≤ b) (hb2 : b < 50) : mem (endsF a b) n = (decide (0 ≤ n ∧ n < b) || decide (4611686018427387903 - a ≤ n ∧ n < 4611686018427387904)) := by
  unfold endsF
  by_cases h : b = 0
  · rw [if_pos h, mem_cons, mem_cons]
    have : mem [] n = false := rfl
    rw [this]
    by_cases h1 : 4611686018427387903 - a ≤ n <;> by_cases h2 : 4611686018427387904 ≤ n <;> simp [h1, h2, h] <;> omega
  · rw [if_neg h, mem_cons, mem_cons, mem_cons, mem_cons]
    have : mem [] n = false := rfl
    rw [this]
    by_cases h1 : 4611686018427387903 - a ≤ n <;> by_cases h2 : 4611686018427387904 ≤ n <;> by_cases h3 : 0 ≤ n <;> by_cases h4 : b ≤ n <;> simp [h1, h2, h3, h4] <;> omega
theorem ends_first (a b : Int) (hok : Ok (endsF a b)) (ha : 0 ≤ a) (ha2 : a < 50) (hb : 0 ≤ b) (hb2 : b < 50) : firstF (endsF a b) (max (4611686018427387903 - a) 0) = 4611686018427387904 := by
  have s := first_spec hok (max (4611686018427387903 - a) 0)
  have h1 : ¬ firstF (endsF a b) (max (4611686018427387903 - a) 0) < 4611686018427387904 := fun h => by
    have := s.2.1
    rw [ends_mem a b _ ha ha2 hb hb2] at this
    simp at this
    omega
  have h2 : ¬ 4611686018427387904 < firstF (endsF a b) (max (4611686018427387903 - a) 0) := fun h => by
    have := s.2.2 4611686018427387904 (by omega) h
    rw [ends_mem a b _ ha ha2 hb hb2] at this
    simp at this
    omega
  omega

theorem of_none (es : List Int) (hok : Ok es) (h : ∀ n, mem es n = (mayN n && [-1, -9223372036854775808, 9223372036854775807, 4611686018427387904].contains n)) : es = [] := by
  refine ok_eq hok ok_nil fun n => ?_
  rw [h n]
  have : mem [] n = false := rfl
  rw [this]
  by_cases h1 : mayN n = true
  · rw [h1]
    unfold mayN at h1
    simp at h1
    simp
    omega
  · rw [Bool.eq_false_iff.2 h1]; rfl
end Go.Proofs.Ytbddphoiccbjnab
