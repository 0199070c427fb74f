/- Sets of numbers as rising edges: plain facts. Conditions: as each theorem lists them. -/
import Derived.Lib.Hide
set_option linter.unusedSimpArgs false
set_option linter.unusedVariables false
namespace Go.Proofs.Ytoglpjgmnojdjaa

/-- Rising edges, an even number of them, from 0 to the end. -/
def Ok (es : List Int) : Prop := es.Pairwise (· < ·) ∧ es.length % 2 = 0 ∧ ∀ e ∈ es, 0 ≤ e ∧ e ≤ 4611686018427387904
def lo (es : List Int) (n : Int) : Nat := es.countP (fun e => decide (e < n))
def up (es : List Int) (n : Int) : Nat := es.countP (fun e => decide (e ≤ n))
def oddB (k : Nat) : Bool := decide (k % 2 = 1)
def mem (es : List Int) (n : Int) : Bool := oddB (up es n)
def clamp (n : Int) : Int := min (max n 0) 4611686018427387904

theorem clamp_in (n : Int) : 0 ≤ clamp n ∧ clamp n ≤ 4611686018427387904 := by unfold clamp; omega

def turnF (es : List Int) (f t : Int) (b : Bool) : List Int :=
  es.take (lo es f) ++ (if oddB (lo es f) != b then [f] else []) ++ (if oddB (up es t) != b then [t] else []) ++ es.drop (up es t)
def turn (es : List Int) (f t : Int) (b : Bool) : List Int := if clamp t ≤ clamp f then es else turnF es (clamp f) (clamp t) b

theorem lo_le_len (es : List Int) (n : Int) : lo es n ≤ es.length := List.countP_le_length
theorem up_le_len (es : List Int) (n : Int) : up es n ≤ es.length := List.countP_le_length

theorem lo_app (xs ys : List Int) (n : Int) : lo (xs ++ ys) n = lo xs n + lo ys n := List.countP_append
theorem up_app (xs ys : List Int) (n : Int) : up (xs ++ ys) n = up xs n + up ys n := List.countP_append
theorem up_cons (x : Int) (xs : List Int) (n : Int) : up (x :: xs) n = (if x ≤ n then 1 else 0) + up xs n := by
  unfold up; rw [List.countP_cons]; simp only [decide_eq_true_eq]; omega
theorem lo_cons (x : Int) (xs : List Int) (n : Int) : lo (x :: xs) n = (if x < n then 1 else 0) + lo xs n := by
  unfold lo; rw [List.countP_cons]; simp only [decide_eq_true_eq]; omega
theorem up_zero (xs : List Int) (n : Int) (h : ∀ x ∈ xs, n < x) : up xs n = 0 := by
  unfold up; rw [List.countP_eq_zero]; intro x hx; have := h x hx; simp; omega
theorem lo_zero (xs : List Int) (n : Int) (h : ∀ x ∈ xs, n ≤ x) : lo xs n = 0 := by
  unfold lo; rw [List.countP_eq_zero]; intro x hx; have := h x hx; simp; omega
theorem up_all (xs : List Int) (n : Int) (h : ∀ x ∈ xs, x ≤ n) : up xs n = xs.length := by
  unfold up; rw [List.countP_eq_length]; intro x hx; have := h x hx; simpa using this
theorem lo_all (xs : List Int) (n : Int) (h : ∀ x ∈ xs, x < n) : lo xs n = xs.length := by
  unfold lo; rw [List.countP_eq_length]; intro x hx; have := h x hx; simpa using this

theorem take_lo (es : List Int) (n : Int) (h : es.Pairwise (· < ·)) : es.take (lo es n) = es.filter (fun e => decide (e < n)) ∧ es.drop (lo es n) = es.filter (fun e => decide (n ≤ e)) := by
  induction es with
  | nil => exact ⟨rfl, rfl⟩
  | cons x xs ih =>
    rw [List.pairwise_cons] at h
    rw [lo_cons]
    by_cases hx : x < n
    · have hx' : ¬ n ≤ x := by omega
      rw [if_pos hx, Nat.add_comm 1]
      simp only [List.take_succ_cons, List.drop_succ_cons, List.filter_cons, hx, hx', decide_true, decide_false, if_true, Bool.false_eq_true, if_false]
      exact ⟨by rw [(ih h.2).1], (ih h.2).2⟩
    · have hz : lo xs n = 0 := lo_zero xs n fun y hy => by have := h.1 y hy; omega
      rw [if_neg hx, hz]
      simp only [List.take_zero, List.drop_zero, Nat.add_zero]
      refine ⟨?_, ?_⟩
      · symm; rw [List.filter_eq_nil_iff]; intro y hy
        rw [List.mem_cons] at hy
        rcases hy with rfl | hy
        · simpa using hx
        · have := h.1 y hy; simp; omega
      · symm; rw [List.filter_eq_self]; intro y hy
        rw [List.mem_cons] at hy
        rcases hy with rfl | hy
        · simp; omega
        · have := h.1 y hy; simp; omega

theorem up_eq_lo (es : List Int) (n : Int) : up es n = lo es (n + 1) := by
  unfold up lo; congr 1; funext e; rw [decide_eq_decide]; omega
theorem take_up (es : List Int) (n : Int) (h : es.Pairwise (· < ·)) : es.take (up es n) = es.filter (fun e => decide (e ≤ n)) ∧ es.drop (up es n) = es.filter (fun e => decide (n < e)) := by
  rw [up_eq_lo]
  have := take_lo es (n + 1) h
  refine ⟨this.1.trans ?_, this.2.trans ?_⟩
  · congr 1; funext e; rw [decide_eq_decide]; omega
  · congr 1

/-- How many are not above: those below, and itself. -/
theorem up_contains (es : List Int) (n : Int) (h : es.Pairwise (· < ·)) : up es n = lo es n + (if es.contains n then 1 else 0) := by
  induction es with
  | nil => rfl
  | cons x xs ih =>
    rw [List.pairwise_cons] at h
    rw [up_cons, lo_cons, ih h.2, List.contains_cons]
    by_cases h1 : x = n
    · subst h1
      have hn : xs.contains x = false := by
        rw [Bool.eq_false_iff]; intro hc
        have := h.1 x (by simpa using hc)
        omega
      rw [if_pos (Int.le_refl x), if_neg (Int.lt_irrefl x), hn, beq_self_eq_true, Bool.true_or]; simp only [if_true, Bool.false_eq_true, if_false]; omega
    · have : (n == x) = false := by simp; omega
      rw [this, Bool.false_or]
      by_cases h2 : x < n
      · rw [if_pos (show x ≤ n by omega), if_pos h2]; omega
      · rw [if_neg (show ¬ x ≤ n by omega), if_neg h2]; omega

theorem up_filter_lt (es : List Int) (f n : Int) (h : n < f) : up (es.filter fun e => decide (e < f)) n = up es n := by
  unfold up; rw [List.countP_filter]; congr 1; funext e
  by_cases he : e ≤ n
  · simp [he]; omega
  · simp [he]
theorem up_filter_gt (es : List Int) (t n : Int) (h : t ≤ n) : up (es.filter fun e => decide (t < e)) n + up es t = up es n := by
  induction es with
  | nil => rfl
  | cons x xs ih =>
    rw [up_cons, up_cons, List.filter_cons]
    by_cases h1 : t < x
    · rw [if_pos (by simpa using h1), up_cons, if_neg (show ¬ x ≤ t by omega)]; omega
    · rw [if_neg (by simpa using h1), if_pos (show x ≤ t by omega), if_pos (show x ≤ n by omega)]; omega

theorem oddB_add (a b : Nat) : oddB (a + b) = (oddB a != oddB b) := by
  unfold oddB
  rcases Nat.mod_two_eq_zero_or_one a with h | h <;> rcases Nat.mod_two_eq_zero_or_one b with h' | h' <;> simp [Nat.add_mod, h, h']
theorem oddB_0 : oddB 0 = false := rfl
theorem oddB_1 : oddB 1 = true := rfl
theorem odd_fix (i : Nat) (b : Bool) : oddB (i + (if oddB i != b then 1 else 0)) = b := by
  rw [oddB_add]
  cases h : oddB i <;> cases b <;> rfl

theorem up_bit (c : Bool) (f n : Int) : up (if c = true then [f] else []) n = if f ≤ n then (if c = true then 1 else 0) else 0 := by
  cases c <;> simp [up, List.countP_cons]

theorem mem_turnF (es : List Int) (f t : Int) (b : Bool) (h : es.Pairwise (· < ·)) (hft : f < t) (n : Int) : mem (turnF es f t b) n = if f ≤ n ∧ n < t then b else mem es n := by
  unfold mem turnF
  rw [up_app, up_app, up_app, up_bit, up_bit]
  by_cases h1 : n < f
  · rw [if_neg (show ¬ (f ≤ n ∧ n < t) by omega), (take_lo es f h).1, up_filter_lt es f n h1, (take_up es t h).2, up_zero (es.filter _) n (by intro x hx; simp at hx; omega), if_neg (show ¬ f ≤ n by omega), if_neg (show ¬ t ≤ n by omega)]
    simp
  · have hlo : up (es.take (lo es f)) n = lo es f := by
      rw [up_all _ n (by rw [(take_lo es f h).1]; intro x hx; simp at hx; omega), List.length_take]
      have := lo_le_len es f; omega
    rw [hlo, if_pos (show f ≤ n by omega)]
    have e1 := odd_fix (lo es f) b
    by_cases h2 : n < t
    · rw [if_pos (show f ≤ n ∧ n < t from ⟨by omega, h2⟩), if_neg (show ¬ t ≤ n by omega), (take_up es t h).2, up_zero (es.filter _) n (by intro x hx; simp at hx; omega)]
      exact e1
    · rw [if_neg (show ¬ (f ≤ n ∧ n < t) by omega), if_pos (show t ≤ n by omega), (take_up es t h).2]
      have e2 := odd_fix (up es t) b
      have e3 := up_filter_gt es t n (by omega)
      rw [← e3, oddB_add, oddB_add, e1, oddB_add]
      rw [oddB_add] at e2
      revert e2
      cases oddB (up es t) <;> cases oddB (up (es.filter fun e => decide (t < e)) n) <;> cases b <;> decide

theorem ok_turnF (es : List Int) (f t : Int) (b : Bool) (h : Ok es) (h0 : 0 ≤ f) (hft : f < t) (hT : t ≤ 4611686018427387904) : Ok (turnF es f t b) := by
  obtain ⟨hp, hl, hr⟩ := h
  have e1 := (take_lo es f hp).1
  have e2 := (take_up es t hp).2
  refine ⟨?_, ?_, ?_⟩
  · unfold turnF
    rw [e1, e2]
    rw [List.pairwise_append, List.pairwise_append, List.pairwise_append]
    refine ⟨⟨⟨hp.filter _, by split <;> simp, ?_⟩, by split <;> simp, ?_⟩, hp.filter _, ?_⟩
    · intro x hx y hy
      simp at hx
      split at hy
      · simp at hy; omega
      · simp at hy
    · intro x hx y hy
      rw [List.mem_append] at hx
      have hy' : y = t := by split at hy <;> simp at hy; exact hy
      rcases hx with hx | hx
      · simp at hx; omega
      · have : x = f := by split at hx <;> simp at hx; exact hx
        omega
    · intro x hx y hy
      simp at hy
      rw [List.mem_append, List.mem_append] at hx
      rcases hx with (hx | hx) | hx
      · simp at hx; omega
      · have : x = f := by split at hx <;> simp at hx; exact hx
        omega
      · have : x = t := by split at hx <;> simp at hx; exact hx
        omega
  · have hlen : (turnF es f t b).length = lo es f + (if oddB (lo es f) != b then 1 else 0) + (if oddB (up es t) != b then 1 else 0) + (es.length - up es t) := by
      unfold turnF
      rw [List.length_append, List.length_append, List.length_append, List.length_take, List.length_drop, Nat.min_eq_left (lo_le_len es f)]
      congr 2
      · congr 1; split <;> rfl
      · split <;> rfl
    have o1 := odd_fix (lo es f) b
    have o2 := odd_fix (up es t) b
    have := up_le_len es t
    unfold oddB at o1 o2
    rw [hlen]
    unfold oddB
    cases b <;> simp only [decide_eq_false_iff_not, decide_eq_true_eq] at o1 o2 <;> omega
  · intro e he
    unfold turnF at he
    rw [List.mem_append, List.mem_append, List.mem_append] at he
    rcases he with ((he | he) | he) | he
    · exact hr e (List.mem_of_mem_take he)
    · have : e = f := by split at he <;> simp at he; exact he
      omega
    · have : e = t := by split at he <;> simp at he; exact he
      omega
    · exact hr e (List.mem_of_mem_drop he)

theorem ok_nil : Ok [] := ⟨List.Pairwise.nil, rfl, fun e he => by cases he⟩
theorem ok_turn (es : List Int) (f t : Int) (b : Bool) (h : Ok es) : Ok (turn es f t b) := by
  unfold turn
  split
  · exact h
  · have := clamp_in f; have := clamp_in t
    exact ok_turnF es _ _ b h (by omega) (by omega) (by omega)
theorem mem_turn (es : List Int) (f t : Int) (b : Bool) (h : Ok es) (n : Int) : mem (turn es f t b) n = if clamp f ≤ n ∧ n < clamp t then b else mem es n := by
  unfold turn
  split
  · rw [if_neg (by omega)]
  · exact mem_turnF es _ _ b h.1 (by omega) n

theorem mem_cons (x : Int) (xs : List Int) (n : Int) : mem (x :: xs) n = (decide (x ≤ n) != mem xs n) := by
  unfold mem
  rw [up_cons, oddB_add]
  by_cases h : x ≤ n <;> simp [h, oddB]

/-- Edges that rise are told by what is in them. -/
theorem edges_eq (es es' : List Int) (h : es.Pairwise (· < ·)) (h' : es'.Pairwise (· < ·)) (hm : ∀ n, mem es n = mem es' n) : es = es' := by
  have first : ∀ (x : Int) (xs : List Int), (x :: xs).Pairwise (· < ·) → mem (x :: xs) x = true ∧ ∀ n, n < x → mem (x :: xs) n = false := fun x xs h => by
    rw [List.pairwise_cons] at h
    refine ⟨?_, fun n hn => ?_⟩
    · rw [mem_cons]; unfold mem; rw [up_zero xs x h.1]; simp [oddB]
    · rw [mem_cons]; unfold mem; rw [up_zero xs n fun y hy => by have := h.1 y hy; omega]; simp [oddB]; omega
  induction es generalizing es' with
  | nil =>
    cases es' with
    | nil => rfl
    | cons x xs => have := (first x xs h').1; rw [← hm x] at this; simp [mem, up, oddB] at this
  | cons x xs ih =>
    cases es' with
    | nil => have := (first x xs h).1; rw [hm x] at this; simp [mem, up, oddB] at this
    | cons y ys =>
      have hxy : x = y := by
        rcases Int.lt_trichotomy x y with hlt | heq | hgt
        · have a := (first x xs h).1; have b := (first y ys h').2 x hlt; rw [hm x, b] at a; cases a
        · exact heq
        · have a := (first y ys h').1; have b := (first x xs h).2 y hgt; rw [← hm y, b] at a; cases a
      subst hxy
      rw [List.pairwise_cons] at h h'
      congr 1
      refine ih ys h.2 h'.2 fun n => ?_
      have := hm n
      rw [mem_cons, mem_cons] at this
      revert this
      cases decide (x ≤ n) <;> cases mem xs n <;> cases mem ys n <;> decide
theorem ok_eq {es es' : List Int} (h : Ok es) (h' : Ok es') (hm : ∀ n, mem es n = mem es' n) : es = es' := edges_eq es es' h.1 h'.1 hm

theorem mem_out {es : List Int} (h : Ok es) (n : Int) (hn : n < 0 ∨ 4611686018427387904 ≤ n) : mem es n = false := by
  unfold mem
  rcases hn with hn | hn
  · rw [up_zero es n fun x hx => by have := h.2.2 x hx; omega]; rfl
  · rw [up_all es n fun x hx => by have := h.2.2 x hx; omega]; unfold oddB; have := h.2.1; simp; omega
end Go.Proofs.Ytoglpjgmnojdjaa
