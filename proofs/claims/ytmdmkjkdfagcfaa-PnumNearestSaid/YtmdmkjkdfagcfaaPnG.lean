/- PnumNearest: the walk. Conditions: the numbers fit their kinds. -/
import Derived.Test.YtmdmkjkdfagcfaaPnD
namespace Go.Proofs.Ytmdmkjkdfagcfaa
open Go Go.RowKit

theorem near_spec (cut k t x n m q : Int) (ht : tn k = t) (h0 : 0 ≤ x) (h1 : x ≤ 4611686018427387903) (hn : backF cut k x = n) (hm : m = n + q * t) (m0 : 0 ≤ m) (m1 : m ≤ 4611686018427387903) (hne : m ≠ n) :
    max (n - x) (x - n) < max (m - x) (x - m) ∨ max (n - x) (x - n) = max (m - x) (x - m) ∧ m < n := by
  have h := backG_spec cut (tn k) x (tn_or k) h0 h1
  have e : backG cut (tn k) x = n := by rw [← hn]; unfold backF; rw [mayR_id x h0 h1]
  rw [e, ht] at h
  obtain ⟨q', hq'⟩ := h.2.2.1
  refine h.2.2.2.2 m m0 m1 ⟨q' + q, ?_⟩ hne
  rw [hm, Int.mul_add, Int.mul_comm t q]
  omega

end Go.Proofs.Ytmdmkjkdfagcfaa
