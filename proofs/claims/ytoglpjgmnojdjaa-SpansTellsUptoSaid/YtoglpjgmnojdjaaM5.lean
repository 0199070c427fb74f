/- The reference's Add, as lists of edges. Conditions: none. -/
import Derived.Test.YtoglpjgmnojdjaaM4
set_option linter.unusedSimpArgs false
set_option linter.unusedVariables false
namespace Go.Proofs.Ytoglpjgmnojdjaa.Ref
open Go.Proofs.Ytoglpjgmnojdjaa

/-- Behind k runs of Add: what it has of the new run (F to T), whether that is out, what is out. -/
structure AddI (es : List Int) (f t : Int) (k : Nat) (F T : Int) (d : Bool) (out : List Int) : Prop where
  lo : 0 ≤ F
  lt : F < T
  hi : T ≤ 4611686018427387904
  ok : Ok out
  fwd : ∀ e ∈ out, ∀ i, 2 * k ≤ i → i < es.length → e < es.getD i 0
  len : out.length ≤ 2 * k + (if d = true then 2 else 0)
  fresh : d = false → (∀ e ∈ out, e < F) ∧ ∀ n, (mem out n || decide (F ≤ n ∧ n < T)) = (mem (es.take (2 * k)) n || decide (f ≤ n ∧ n < t))
  done : d = true → (∀ i, 2 * k ≤ i → i < es.length → T < es.getD i 0) ∧ ∀ n, mem out n = (mem (es.take (2 * k)) n || decide (f ≤ n ∧ n < t))

theorem AddI.nil (es : List Int) (f t : Int) (h0 : 0 ≤ f) (hft : f < t) (hT : t ≤ 4611686018427387904) : AddI es f t 0 f t false [] :=
  ⟨h0, hft, hT, ok_nil, (fun e he => by cases he), by simp, fun _ => ⟨(fun e he => by cases he), fun n => by simp [mem, up, oddB]⟩, fun h => by cases h⟩

theorem take_mem {es : List Int} (hes : Ok es) (k : Nat) (hk : 2 * k + 1 < es.length) (n : Int) : mem (es.take (2 * (k + 1))) n = (mem (es.take (2 * k)) n || inRun n (es.getD (2 * k) 0, es.getD (2 * k + 1) 0)) := by
  have hp : (es.take (2 * (k + 1))).Pairwise (· < ·) := hes.1.sublist (List.take_sublist _ _)
  rw [take_pair es k hk] at hp ⊢
  exact mem_snoc _ _ _ n hp (by rw [List.length_take]; omega)

theorem run_dec (n a b : Int) : inRun n (a, b) = decide (a ≤ n ∧ n < b) := by
  rw [Bool.eq_iff_iff]; simp [inRun]

variable {es : List Int} {f t : Int} {k : Nat} {F T : Int} {out : List Int}

/-- The run at hand lies ahead of the new one. -/
theorem AddI.ahead (hes : Ok es) (hk : 2 * k + 1 < es.length) (h : AddI es f t k F T false out) (hb : es.getD (2 * k + 1) 0 < F) :
    AddI es f t (k + 1) F T false (out ++ [es.getD (2 * k) 0, es.getD (2 * k + 1) 0]) := by
  have hxy := get_mono hes.1 (2 * k) (2 * k + 1) (by omega) hk
  have hx := get_in hes (2 * k) (by omega)
  have hy := get_in hes (2 * k + 1) hk
  have ho := ok_snoc h.ok _ _ hx.1 hxy hy.2 (fun e he => h.fwd e he (2 * k) (by omega) (by omega))
  obtain ⟨g1, g2⟩ := h.fresh rfl
  refine ⟨h.lo, h.lt, h.hi, ho, fun e he i hi hil => ?_, by have := h.len; simp at this ⊢; omega, fun _ => ⟨fun e he => ?_, fun n => ?_⟩, fun h => by cases h⟩
  · simp only [List.mem_append, List.mem_cons, List.not_mem_nil, or_false] at he
    have h2 := get_mono hes.1 (2 * k + 1) i (by omega) hil
    rcases he with he | rfl | rfl
    · exact h.fwd e he i (by omega) hil
    · omega
    · omega
  · simp only [List.mem_append, List.mem_cons, List.not_mem_nil, or_false] at he
    rcases he with he | rfl | rfl
    · exact g1 e he
    · omega
    · omega
  · rw [mem_snoc _ _ _ n ho.1 h.ok.2.1, take_mem hes k hk n]
    have := g2 n
    cases hA : mem out n <;> cases hB : mem (es.take (2 * k)) n <;> cases hC : inRun n (es.getD (2 * k) 0, es.getD (2 * k + 1) 0) <;> simp_all

/-- It meets, or touches, the new one. -/
theorem AddI.meets (hes : Ok es) (hk : 2 * k + 1 < es.length) (h : AddI es f t k F T false out) (hb : ¬ es.getD (2 * k + 1) 0 < F) (ha : ¬ T < es.getD (2 * k) 0) :
    AddI es f t (k + 1) (min F (es.getD (2 * k) 0)) (max T (es.getD (2 * k + 1) 0)) false out := by
  have hxy := get_mono hes.1 (2 * k) (2 * k + 1) (by omega) hk
  have hx := get_in hes (2 * k) (by omega)
  have hy := get_in hes (2 * k + 1) hk
  have h1 := h.lo
  have h2 := h.lt
  have h3 := h.hi
  obtain ⟨g1, g2⟩ := h.fresh rfl
  refine ⟨by omega, by omega, by omega, h.ok, fun e he i hi hil => h.fwd e he i (by omega) hil, by have := h.len; simp at this ⊢; omega, fun _ => ⟨fun e he => ?_, fun n => ?_⟩, fun h => by cases h⟩
  · have := g1 e he
    have := h.fwd e he (2 * k) (by omega) (by omega)
    omega
  · rw [take_mem hes k hk n, run_dec]
    have e : decide (min F (es.getD (2 * k) 0) ≤ n ∧ n < max T (es.getD (2 * k + 1) 0)) = (decide (F ≤ n ∧ n < T) || decide (es.getD (2 * k) 0 ≤ n ∧ n < es.getD (2 * k + 1) 0)) := by
      rw [Bool.eq_iff_iff]
      simp only [Bool.or_eq_true, decide_eq_true_eq]
      omega
    rw [e, ← Bool.or_assoc, g2 n]
    cases mem (es.take (2 * k)) n <;> cases decide (f ≤ n ∧ n < t) <;> simp

/-- It lies behind the new one, which is out. -/
theorem AddI.behind (hes : Ok es) (hk : 2 * k + 1 < es.length) (h : AddI es f t k F T true out) :
    es.getD (2 * k) 0 > T ∧ ¬ es.getD (2 * k + 1) 0 < F ∧ AddI es f t (k + 1) F T true (out ++ [es.getD (2 * k) 0, es.getD (2 * k + 1) 0]) := by
  have hxy := get_mono hes.1 (2 * k) (2 * k + 1) (by omega) hk
  have hx := get_in hes (2 * k) (by omega)
  have hy := get_in hes (2 * k + 1) hk
  have ho := ok_snoc h.ok _ _ hx.1 hxy hy.2 (fun e he => h.fwd e he (2 * k) (by omega) (by omega))
  obtain ⟨g1, g2⟩ := h.done rfl
  have g3 := g1 (2 * k) (by omega) (by omega)
  have h2 := h.lt
  refine ⟨g3, by omega, h.lo, h.lt, h.hi, ho, fun e he i hi hil => ?_, by have := h.len; simp at this ⊢; omega, (fun h => by cases h), fun _ => ⟨fun i hi hil => g1 i (by omega) hil, fun n => ?_⟩⟩
  · simp only [List.mem_append, List.mem_cons, List.not_mem_nil, or_false] at he
    have h2 := get_mono hes.1 (2 * k + 1) i (by omega) hil
    rcases he with he | rfl | rfl
    · exact h.fwd e he i (by omega) hil
    · omega
    · omega
  · rw [mem_snoc _ _ _ n ho.1 h.ok.2.1, take_mem hes k hk n, g2 n]
    cases mem (es.take (2 * k)) n <;> cases decide (f ≤ n ∧ n < t) <;> simp

/-- The new one goes out ahead of what is still to come. -/
theorem AddI.out_now (h : AddI es f t k F T false out) (ha : ∀ i, 2 * k ≤ i → i < es.length → T < es.getD i 0) :
    AddI es f t k F T true (out ++ [F, T]) := by
  have h1 := h.lo
  have h2 := h.lt
  have h3 := h.hi
  obtain ⟨g1, g2⟩ := h.fresh rfl
  have ho := ok_snoc h.ok F T h1 h2 h3 g1
  refine ⟨h1, h2, h3, ho, fun e he i hi hil => ?_, by have := h.len; simp at this ⊢; omega, (fun h => by cases h), fun _ => ⟨ha, fun n => ?_⟩⟩
  · simp only [List.mem_append, List.mem_cons, List.not_mem_nil, or_false] at he
    have := ha i hi hil
    rcases he with he | rfl | rfl
    · exact h.fwd e he i hi hil
    · omega
    · omega
  · rw [mem_snoc _ _ _ n ho.1 h.ok.2.1, run_dec, g2 n]
theorem ahead_of (hes : Ok es) (hk : 2 * k + 1 < es.length) (ha : T < es.getD (2 * k) 0) : ∀ i, 2 * k ≤ i → i < es.length → T < es.getD i 0 := fun i hi hil => by
  rcases Nat.lt_or_ge (2 * k) i with h | h
  · have := get_mono hes.1 (2 * k) i h hil; omega
  · obtain rfl : i = 2 * k := by omega
    exact ha

theorem AddI.eq (hes : Ok es) (h0 : 0 ≤ f) (hft : f < t) (hT : t ≤ 4611686018427387904) (n : Nat) (hn : es.length = n * 2) (h : AddI es f t n F T true out) : out = turnF es f t true := by
  refine ok_eq h.ok (ok_turnF es f t true hes h0 hft hT) fun m => ?_
  rw [(h.done rfl).2 m, mem_turnF es f t true hes.1 hft, List.take_of_length_le (by omega)]
  by_cases c : f ≤ m ∧ m < t
  · rw [if_pos c, decide_eq_true c]; simp
  · rw [if_neg c, decide_eq_false c]; simp
end Go.Proofs.Ytoglpjgmnojdjaa.Ref
