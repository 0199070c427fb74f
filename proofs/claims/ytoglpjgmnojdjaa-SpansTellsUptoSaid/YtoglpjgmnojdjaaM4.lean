/- The reference's Drop, as lists of edges. Conditions: none. -/
import Derived.Test.YtoglpjgmnojdjaaM3
set_option linter.unusedSimpArgs false
set_option linter.unusedVariables false
namespace Go.Proofs.Ytoglpjgmnojdjaa.Ref
open Go.Proofs.Ytoglpjgmnojdjaa

/-- An ordered list of edges, and two more behind it. -/
theorem ok_snoc {es : List Int} (h : Ok es) (a b : Int) (h0 : 0 ≤ a) (hab : a < b) (hb : b ≤ 4611686018427387904) (hl : ∀ e ∈ es, e < a) : Ok (es ++ [a, b]) := by
  refine ⟨List.pairwise_append.2 ⟨h.1, by simp [hab], fun x hx y hy => ?_⟩, by have := h.2.1; simp; omega, fun e he => ?_⟩
  · simp only [List.mem_cons, List.not_mem_nil, or_false] at hy
    have := hl x hx
    rcases hy with rfl | rfl <;> omega
  · simp only [List.mem_append, List.mem_cons, List.not_mem_nil, or_false] at he
    rcases he with he | rfl | rfl
    · exact h.2.2 e he
    · omega
    · omega

/-- Behind k runs of Drop: what is out. -/
def DropI (es : List Int) (f t : Int) (k : Nat) (out : List Int) : Prop :=
  Ok out ∧ (∀ n, mem out n = (mem (es.take (2 * k)) n && !decide (f ≤ n ∧ n < t))) ∧ (∀ e ∈ out, ∀ i, 2 * k ≤ i → i < es.length → e < es.getD i 0) ∧ out.length ≤ 4 * k

def drop1 (out : List Int) (x y f : Int) : List Int := if x < min y f then out ++ [x, min y f] else out
def drop2 (out : List Int) (x y t : Int) : List Int := if max x t < y then out ++ [max x t, y] else out

theorem DropI.nil (es : List Int) (f t : Int) : DropI es f t 0 [] := ⟨ok_nil, fun n => by simp [mem, up, oddB], (fun e he => by cases he), by simp⟩

theorem DropI.step {es : List Int} {f t : Int} {k : Nat} {out : List Int} (hes : Ok es) (hft : f < t) (hk : 2 * k + 1 < es.length) (h : DropI es f t k out) :
    DropI es f t (k + 1) (drop2 (drop1 out (es.getD (2 * k) 0) (es.getD (2 * k + 1) 0) f) (es.getD (2 * k) 0) (es.getD (2 * k + 1) 0) t) := by
  obtain ⟨h1, h2, h3, h4⟩ := h
  have hxy := get_mono hes.1 (2 * k) (2 * k + 1) (by omega) hk
  have hx := get_in hes (2 * k) (by omega)
  have hy := get_in hes (2 * k + 1) hk
  have hlx : ∀ e ∈ out, e < es.getD (2 * k) 0 := fun e he => h3 e he (2 * k) (by omega) (by omega)
  have hnx : ∀ i, 2 * (k + 1) ≤ i → i < es.length → es.getD (2 * k + 1) 0 < es.getD i 0 := fun i hi hil => get_mono hes.1 (2 * k + 1) i (by omega) hil
  have htk : ∀ n, mem (es.take (2 * (k + 1))) n = (mem (es.take (2 * k)) n || inRun n (es.getD (2 * k) 0, es.getD (2 * k + 1) 0)) := fun n => by
    have hp : (es.take (2 * (k + 1))).Pairwise (· < ·) := hes.1.sublist (List.take_sublist _ _)
    rw [take_pair es k hk] at hp ⊢
    exact mem_snoc _ _ _ n hp (by rw [List.length_take]; omega)
  have hmo : ∀ n, es.getD (2 * k) 0 ≤ n → mem (es.take (2 * k)) n = false := fun n hn => by
    unfold mem
    rw [up_all _ _ (fun e he => by
      obtain ⟨i, hi, rfl⟩ := List.mem_iff_getElem.1 he
      rw [List.length_take] at hi
      have := get_mono hes.1 i (2 * k) (by omega) (by omega)
      rw [List.getElem_take]
      have e1 : es.getD i 0 = es[i] := by simp [List.getD, show i < es.length by omega]
      omega)]
    unfold oddB
    rw [decide_eq_false]
    rw [List.length_take]
    omega
  generalize es.getD (2 * k) 0 = x at *
  generalize es.getD (2 * k + 1) 0 = y at *
  have g1 : Ok (drop1 out x y f) ∧ (∀ n, mem (drop1 out x y f) n = (mem out n || inRun n (x, min y f))) ∧ (∀ e ∈ drop1 out x y f, e < x ∨ e ≤ min y f ∧ x < f) ∧ (drop1 out x y f).length ≤ 4 * k + 2 := by
    unfold drop1
    split
    · rename_i hc
      have ho := ok_snoc h1 x (min y f) hx.1 hc (by omega) hlx
      refine ⟨ho, fun n => mem_snoc _ _ _ n ho.1 h1.2.1, fun e he => ?_, by simp; omega⟩
      simp only [List.mem_append, List.mem_cons, List.not_mem_nil, or_false] at he
      rcases he with he | rfl | rfl
      · exact .inl (hlx e he)
      · exact .inr ⟨by omega, by omega⟩
      · exact .inr ⟨by omega, by omega⟩
    · rename_i hc
      refine ⟨h1, fun n => ?_, fun e he => .inl (hlx e he), by omega⟩
      have : inRun n (x, min y f) = false := by
        simp only [inRun, Bool.and_eq_false_iff, decide_eq_false_iff_not]; omega
      rw [this, Bool.or_false]
  obtain ⟨a1, a2, a3, a4⟩ := g1
  generalize drop1 out x y f = o1 at *
  have g2 : Ok (drop2 o1 x y t) ∧ (∀ n, mem (drop2 o1 x y t) n = (mem o1 n || inRun n (max x t, y))) ∧ (∀ e ∈ drop2 o1 x y t, e ≤ y) ∧ (drop2 o1 x y t).length ≤ 4 * k + 4 := by
    have hle : ∀ e ∈ o1, e ≤ y := fun e he => by rcases a3 e he with h | h <;> omega
    unfold drop2
    split
    · rename_i hc
      have ho := ok_snoc a1 (max x t) y (by omega) hc (by omega) (fun e he => by rcases a3 e he with h | h <;> omega)
      refine ⟨ho, fun n => mem_snoc _ _ _ n ho.1 a1.2.1, fun e he => ?_, by simp; omega⟩
      simp only [List.mem_append, List.mem_cons, List.not_mem_nil, or_false] at he
      rcases he with he | rfl | rfl
      · exact hle e he
      · omega
      · omega
    · rename_i hc
      refine ⟨a1, fun n => ?_, hle, by omega⟩
      have : inRun n (max x t, y) = false := by
        simp only [inRun, Bool.and_eq_false_iff, decide_eq_false_iff_not]; omega
      rw [this, Bool.or_false]
  obtain ⟨b1, b2, b3, b4⟩ := g2
  refine ⟨b1, fun n => ?_, fun e he i hi hil => by have := b3 e he; have := hnx i hi hil; omega, by omega⟩
  rw [b2, a2, h2, htk]
  by_cases hn : x ≤ n
  · rw [hmo n hn]
    rw [Bool.eq_iff_iff]
    simp only [inRun, Bool.or_eq_true, Bool.and_eq_true, decide_eq_true_eq, Bool.not_eq_true', decide_eq_false_iff_not, Bool.false_and, Bool.false_or]
    omega
  · have e1 : ∀ u v, x ≤ u → inRun n (u, v) = false := fun u v hu => by
      simp only [inRun, Bool.and_eq_false_iff, decide_eq_false_iff_not]; omega
    rw [e1 x _ (Int.le_refl _), e1 x _ (Int.le_refl _), e1 _ _ (show x ≤ max x t by omega), Bool.or_false, Bool.or_false, Bool.or_false]

theorem drop_eq {es : List Int} {f t : Int} {out : List Int} (hes : Ok es) (h0 : 0 ≤ f) (hft : f < t) (hT : t ≤ 4611686018427387904) (n : Nat) (hn : es.length = n * 2) (h : DropI es f t n out) : out = turnF es f t false := by
  refine ok_eq h.1 (ok_turnF es f t false hes h0 hft hT) fun m => ?_
  rw [h.2.1, mem_turnF es f t false hes.1 hft, List.take_of_length_le (by omega)]
  by_cases c : f ≤ m ∧ m < t
  · rw [if_pos c, decide_eq_true c]; simp
  · rw [if_neg c, decide_eq_false c]; simp
end Go.Proofs.Ytoglpjgmnojdjaa.Ref
