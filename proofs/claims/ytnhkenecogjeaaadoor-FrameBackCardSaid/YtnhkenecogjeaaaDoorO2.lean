/- Rows of frames: appended to, cut. Conditions: as each theorem lists them. -/
import Derived.Test.YtnhkenecogjeaaaDoorO1
namespace Go.Proofs.YtnhkenecogjeaaaDoor
open Go Go.RowKit

/-- A frame of no fields: a Ping. -/
def ping : Fr := ⟨1, 0, 0, 0, 0, 0, false, [], []⟩
theorem ping_cells (w : World) : FrC w ping (frC ping (.slice none 0 0) (.slice none 0 0)) := ⟨none, 0, 0, none, 0, 0, rfl, rfl, rfl, own_nil _ _ _ _, own_nil _ _ _ _⟩

theorem FrsC.apps {w w1 : World} {fs gs : List Fr} {c d : List Value} {row : Option Nat} (hf : FrsC w fs c) (hn : FrsC w gs d) (hg : w.grownBy w1 row) (hr : ∀ g, row = some g → ∃ cur fr, w.heap[g]? = some (.cells cur 26 fr)) : FrsC w1 (fs ++ gs) (c ++ d) :=
  (hf.map fun _ _ h => h.grown hg hr).app (hn.map fun _ _ h => h.grown hg hr)
theorem rd_grown {w w' : World} {g n : Nat} {xs : List Value} {row : Option Nat} (h : Rd w w.heap.size (some ⟨g, 0, none⟩) n xs) (hg : w.grownBy w' row) (hne : row ≠ some g) : Rd w' w'.heap.size (some ⟨g, 0, none⟩) n xs := by
  refine ⟨h.1, fun h0 => ?_⟩
  obtain ⟨b, off, e, hlt, hc⟩ := h.2 h0
  cases e
  refine ⟨g, 0, rfl, Nat.lt_of_lt_of_le hlt hg.size, fun j u hu => ?_⟩
  rw [World.cell?_of_block (w := w) (hg.block g hlt (fun e => hne e.symm))]
  exact hc j u hu
/-- x[p:] of a row of frames, as the walk writes its address. -/
theorem Rd.tail9 {w : World} {B n m c : Nat} {A : Option Addr} {xs : List Value} (h : Rd w B A (n * m) xs) (p : Nat) (hp : p ≤ n) (hn : n ≤ c) : Rd w B (if c = p then A else A.map (·.add (p * m))) ((n - p) * m) (xs.drop (p * m)) := by
  refine ⟨by rw [List.length_drop, h.1, Nat.sub_mul], fun h0 => ?_⟩
  have h1 : 0 < n - p := by
    rcases Nat.eq_zero_or_pos (n - p) with h | h
    · rw [h, Nat.zero_mul] at h0; omega
    · exact h
  have h2 : 0 < n * m := Nat.lt_of_lt_of_le h0 (Nat.mul_le_mul_right _ (Nat.sub_le _ _))
  obtain ⟨b, off, rfl, hlt, hc⟩ := h.2 h2
  refine ⟨b, off + p * m, by rw [if_neg (by omega)]; simp [Addr.add_lit], hlt, fun j u hu => ?_⟩
  rw [List.getElem?_drop] at hu
  rw [Nat.add_assoc]
  exact hc (p * m + j) u hu
end Go.Proofs.YtnhkenecogjeaaaDoor
