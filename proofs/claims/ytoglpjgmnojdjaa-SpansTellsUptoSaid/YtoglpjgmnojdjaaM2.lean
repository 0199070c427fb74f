/- Count, First, All, Gaps and gather on rising edges: plain facts. Conditions: as each theorem lists them. -/
import Derived.Test.YtoglpjgmnojdjaaM1
set_option linter.unusedSimpArgs false
set_option linter.unusedVariables false
namespace Go.Proofs.Ytoglpjgmnojdjaa

def cnt : List Int → Int
  | a :: b :: r => b - a + cnt r
  | _ => 0

/-- How many of 0 to N - 1 a test tells. -/
def card (N : Nat) (p : Int → Bool) : Nat := (List.range N).countP fun i : Nat => p (i : Int)
theorem card_succ (N : Nat) (p : Int → Bool) : card (N + 1) p = card N p + if p (N : Int) = true then 1 else 0 := by
  unfold card; rw [List.range_succ, List.countP_append, List.countP_cons, List.countP_nil, Nat.zero_add]
theorem card_congr (N : Nat) (p q : Int → Bool) (h : ∀ i : Int, 0 ≤ i → i < N → p i = q i) : card N p = card N q := by
  induction N with
  | zero => rfl
  | succ N ih => rw [card_succ, card_succ, ih fun i h0 h1 => h i h0 (by omega), h N (by omega) (by omega)]
theorem card_or (N : Nat) (p q : Int → Bool) (h : ∀ i, p i = true → q i = false) : card N (fun i => p i || q i) = card N p + card N q := by
  induction N with
  | zero => rfl
  | succ N ih =>
    rw [card_succ, card_succ, card_succ, ih]
    have := h N
    cases hp : p N <;> cases hq : q N <;> simp_all <;> omega
theorem card_none (N : Nat) : card N (fun _ => false) = 0 := by
  induction N with
  | zero => rfl
  | succ N ih => rw [card_succ, ih]; rfl
theorem card_run (N : Nat) (a b : Int) (h0 : 0 ≤ a) (h1 : a ≤ b) (h2 : b ≤ N) : (card N (fun n => decide (a ≤ n) && decide (n < b)) : Int) = b - a := by
  have key : ∀ M : Nat, (card M (fun n => decide (a ≤ n) && decide (n < b)) : Int) = max 0 (min (M : Int) b - a) := by
    intro M
    induction M with
    | zero => show (0 : Int) = _; omega
    | succ M ih =>
      rw [card_succ]
      by_cases h : a ≤ (M : Int) ∧ (M : Int) < b
      · rw [if_pos (by simp; exact h)]; omega
      · rw [if_neg (by simp; omega)]; omega
  rw [key]; omega

theorem mem_pair (a b : Int) (r : List Int) (n : Int) (h : (a :: b :: r).Pairwise (· < ·)) : mem (a :: b :: r) n = ((decide (a ≤ n) && decide (n < b)) || mem r n) := by
  rw [List.pairwise_cons] at h
  have hab := h.1 b (by simp)
  have h2 := h.2
  rw [List.pairwise_cons] at h2
  rw [mem_cons, mem_cons]
  by_cases h1 : a ≤ n
  · by_cases h3 : b ≤ n
    · have : ¬ n < b := by omega
      simp [h1, h3, this]
    · have hm : mem r n = false := by unfold mem; rw [up_zero r n fun y hy => by have := h2.1 y hy; omega]; rfl
      have : n < b := by omega
      simp [h1, h3, this, hm]
  · have hm : mem r n = false := by unfold mem; rw [up_zero r n fun y hy => by have := h2.1 y hy; omega]; rfl
    have : ¬ b ≤ n := by omega
    simp [h1, this, hm]
theorem mem_pair_apart (a b : Int) (r : List Int) (n : Int) (h : (a :: b :: r).Pairwise (· < ·)) (h1 : (decide (a ≤ n) && decide (n < b)) = true) : mem r n = false := by
  rw [List.pairwise_cons] at h
  have h2 := h.2
  rw [List.pairwise_cons] at h2
  simp at h1
  unfold mem; rw [up_zero r n fun y hy => by have := h2.1 y hy; omega]; rfl

theorem cnt_card (N : Nat) : ∀ es : List Int, es.Pairwise (· < ·) → es.length % 2 = 0 → (∀ e ∈ es, 0 ≤ e ∧ e ≤ N) → cnt es = card N (mem es)
  | [], _, _, _ => by
    have : mem ([] : List Int) = fun _ => false := by funext n; rfl
    rw [this, card_none]; rfl
  | [a], _, h, _ => by simp at h
  | a :: b :: r, h, hl, hr => by
    have h' := h
    rw [List.pairwise_cons] at h'
    have h2 := h'.2
    rw [List.pairwise_cons] at h2
    have ih := cnt_card N r h2.2 (by simp at hl; omega) fun e he => hr e (by simp [he])
    have e : mem (a :: b :: r) = fun n => (decide (a ≤ n) && decide (n < b)) || mem r n := by funext n; exact mem_pair a b r n h
    rw [e, card_or N _ _ fun i hi => mem_pair_apart a b r i h hi]
    have c := card_run N a b (hr a (by simp)).1 (by have := h'.1 b (by simp); omega) (hr b (by simp)).2
    show b - a + cnt r = _
    rw [ih]; omega

theorem cnt_bound {es : List Int} (h : Ok es) : 0 ≤ cnt es ∧ cnt es ≤ 4611686018427387904 := by
  have key : ∀ (es : List Int) (x : Int), es.Pairwise (· < ·) → (∀ e ∈ es, x ≤ e ∧ e ≤ 4611686018427387904) → x ≤ 4611686018427387904 → 0 ≤ cnt es ∧ cnt es ≤ 4611686018427387904 - x := by
    intro es
    induction es using cnt.induct with
    | case1 a b r ih =>
      intro x h hr hx
      rw [List.pairwise_cons] at h
      have h2 := h.2
      rw [List.pairwise_cons] at h2
      have hab := h.1 b (by simp)
      have := hr a (by simp); have := hr b (by simp)
      have := ih b h2.2 (fun e he => ⟨by have := h2.1 e he; omega, (hr e (by simp [he])).2⟩) (by omega)
      show 0 ≤ b - a + cnt r ∧ b - a + cnt r ≤ _
      omega
    | case2 l hl =>
      intro x _ _ hx
      have : cnt l = 0 := by
        match l, hl with
        | [], _ => rfl
        | [_], _ => rfl
        | a :: b :: r, hl => exact absurd rfl (hl a b r)
      omega
  have := key es 0 h.1 h.2.2 (by omega)
  omega
theorem cnt_take_bound {es : List Int} (h : Ok es) (k : Nat) : 0 ≤ cnt (es.take (2 * k)) ∧ cnt (es.take (2 * k)) ≤ 4611686018427387904 := by
  refine cnt_bound ⟨h.1.take, ?_, fun e he => h.2.2 e (List.mem_of_mem_take he)⟩
  rw [List.length_take]; have := h.2.1; omega

theorem cnt_snoc : ∀ (es : List Int) (a b : Int), es.length % 2 = 0 → cnt (es ++ [a, b]) = cnt es + (b - a)
  | [], a, b, _ => by show b - a + 0 = 0 + (b - a); omega
  | [x], a, b, h => by simp at h
  | x :: y :: r, a, b, h => by
    have := cnt_snoc r a b (by simp at h; omega)
    show y - x + cnt (r ++ [a, b]) = y - x + cnt r + (b - a)
    omega

/-- The next pair. -/
theorem take_pair (es : List Int) (k : Nat) (h : 2 * k + 1 < es.length) : es.take (2 * (k + 1)) = es.take (2 * k) ++ [es.getD (2 * k) 0, es.getD (2 * k + 1) 0] := by
  rw [show 2 * (k + 1) = 2 * k + 1 + 1 by omega, List.take_succ_eq_append_getElem (by omega), List.take_succ_eq_append_getElem (by omega), List.append_assoc]
  simp [List.getD, h, show 2 * k < es.length by omega]
theorem get_mono {es : List Int} (h : es.Pairwise (· < ·)) (i j : Nat) (hij : i < j) (hj : j < es.length) : es.getD i 0 < es.getD j 0 := by
  have := List.pairwise_iff_getElem.1 h i j (by omega) hj hij
  simpa [List.getD, hj, show i < es.length by omega] using this
theorem get_in {es : List Int} (h : Ok es) (i : Nat) (hi : i < es.length) : 0 ≤ es.getD i 0 ∧ es.getD i 0 ≤ 4611686018427387904 := by
  have := h.2.2 es[i] (List.getElem_mem hi)
  simpa [List.getD, hi] using this

def firstF (es : List Int) (n : Int) : Int := if oddB (up es n) = true then es.getD (up es n) 0 else n

theorem up_lt_of_odd {es : List Int} (h : Ok es) (n : Int) (ho : oddB (up es n) = true) : up es n < es.length := by
  have h1 := up_le_len es n
  have h2 := h.2.1
  unfold oddB at ho
  simp at ho
  omega
theorem up_at {es : List Int} (h : es.Pairwise (· < ·)) (k : Nat) (hk : k < es.length) (m : Int) (h0 : ∀ i, i < k → es.getD i 0 ≤ m) (h1 : m < es.getD k 0) : up es m = k := by
  have e := List.take_append_drop k es
  rw [← e, up_app, up_all, up_zero, List.length_take]
  · omega
  · intro x hx
    obtain ⟨i, hi, rfl⟩ := List.mem_iff_getElem.1 hx
    rw [List.length_drop] at hi
    rw [List.getElem_drop]
    rcases Nat.eq_zero_or_pos i with rfl | hp
    · simpa [List.getD, hk] using h1
    · have := get_mono h k (k + i) (by omega) (by omega)
      simp [List.getD, hk, show k + i < es.length by omega] at this h1 ⊢
      omega
  · intro x hx
    obtain ⟨i, hi, rfl⟩ := List.mem_iff_getElem.1 hx
    rw [List.length_take] at hi
    rw [List.getElem_take]
    have := h0 i (by omega)
    simpa [List.getD, show i < es.length by omega] using this
theorem up_get {es : List Int} (h : es.Pairwise (· < ·)) (n : Int) (i : Nat) (hi : i < up es n) : es.getD i 0 ≤ n := by
  have e := (take_up es n h).1
  have hl := up_le_len es n
  have hm : es.getD i 0 ∈ es.take (up es n) := by
    have : (es.take (up es n)).getD i 0 = es.getD i 0 := by simp [List.getD, List.getElem?_take, hi]
    rw [← this]
    simp [List.getD, List.getElem?_take, hi, show i < es.length by omega]
    exact List.mem_iff_getElem.2 ⟨i, by rw [List.length_take]; omega, by rw [List.getElem_take]⟩
  rw [e] at hm
  simp at hm
  exact hm.2
theorem get_up {es : List Int} (h : es.Pairwise (· < ·)) (n : Int) (hi : up es n < es.length) : n < es.getD (up es n) 0 := by
  have e := (take_up es n h).2
  have hm : es.getD (up es n) 0 ∈ es.drop (up es n) := by
    simp only [List.getD, List.getElem?_eq_getElem hi, Option.getD_some]
    exact List.mem_iff_getElem.2 ⟨0, by rw [List.length_drop]; omega, by rw [List.getElem_drop]; rfl⟩
  rw [e] at hm
  simp at hm
  exact hm.2

theorem first_spec {es : List Int} (h : Ok es) (n : Int) : n ≤ firstF es n ∧ mem es (firstF es n) = false ∧ ∀ m, n ≤ m → m < firstF es n → mem es m = true := by
  unfold firstF
  by_cases ho : oddB (up es n) = true
  · rw [if_pos ho]
    have hlt := up_lt_of_odd h n ho
    have hg := get_up h.1 n hlt
    refine ⟨by omega, ?_, fun m h1 h2 => ?_⟩
    · unfold mem
      have : up es (es.getD (up es n) 0) = up es n + 1 := by
        rcases Nat.lt_or_ge (up es n + 1) es.length with h1 | h1
        · refine up_at h.1 _ h1 _ (fun i hi => ?_) (get_mono h.1 _ _ (by omega) h1)
          rcases Nat.eq_or_lt_of_le (show i ≤ up es n by omega) with rfl | h3
          · exact Int.le_refl _
          · have := get_mono h.1 i _ h3 hlt; omega
        · rw [up_all]
          · omega
          · intro x hx
            obtain ⟨i, hi, rfl⟩ := List.mem_iff_getElem.1 hx
            rcases Nat.eq_or_lt_of_le (show i ≤ up es n by omega) with rfl | h3
            · simp [List.getD, hlt]
            · have := get_mono h.1 i _ h3 hlt
              simp [List.getD, hlt, hi] at this ⊢; omega
      rw [this, oddB_add, ho]; rfl
    · unfold mem
      rw [up_at h.1 _ hlt m (fun i hi => by have := up_get h.1 n i hi; omega) h2]
      exact ho
  · rw [if_neg ho]
    exact ⟨Int.le_refl _, by unfold mem; simpa using ho, fun m h1 h2 => by omega⟩
theorem first_in {es : List Int} (h : Ok es) (n : Int) (h0 : 0 ≤ n) : 0 ≤ firstF es n := by have := (first_spec h n).1; omega

def allF (es : List Int) (f t : Int) : Bool := decide (clamp t ≤ firstF es (clamp f))
theorem all_iff {es : List Int} (h : Ok es) (f t : Int) : allF es f t = true ↔ ∀ m, clamp f ≤ m → m < clamp t → mem es m = true := by
  have s := first_spec h (clamp f)
  unfold allF
  rw [decide_eq_true_iff]
  constructor
  · intro h1 m h2 h3; exact s.2.2 m h2 (by omega)
  · intro h1
    rcases Int.lt_or_le (firstF es (clamp f)) (clamp t) with h2 | h2
    · have := h1 _ s.1 h2; rw [s.2.1] at this; cases this
    · exact h2

def gapsG (es : List Int) (f t : Int) : List Int := (if oddB (up es f) = true then [] else [f]) ++ (es.drop (up es f)).take (lo es t - up es f) ++ (if oddB (lo es t) = true then [] else [t])
def gapsF (es : List Int) (f t : Int) : List Int := if clamp t ≤ clamp f then [] else gapsG es (clamp f) (clamp t)

theorem up_le_lo (es : List Int) (f t : Int) (h : f < t) : up es f ≤ lo es t := by
  unfold up lo
  refine List.countP_mono_left fun x _ hx => ?_
  simp at hx ⊢; omega
theorem mid_eq (es : List Int) (f t : Int) (h : es.Pairwise (· < ·)) (hft : f < t) : (es.drop (up es f)).take (lo es t - up es f) = es.filter fun e => decide (f < e) && decide (e < t) := by
  rw [← List.drop_take, (take_lo es t h).1]
  have e1 : up (es.filter fun e => decide (e < t)) f = up es f := up_filter_lt es t f hft
  rw [← e1, (take_up _ f (h.filter _)).2, List.filter_filter]
theorem up_mid (es : List Int) (f t n : Int) (hft : f < t) (h1 : f ≤ n) (h2 : n < t) : up (es.filter fun e => decide (f < e) && decide (e < t)) n + up es f = up es n := by
  rw [show (es.filter fun e => decide (f < e) && decide (e < t)) = (es.filter fun e => decide (f < e)).filter fun e => decide (e < t) by rw [List.filter_filter]; congr 1; funext e; exact Bool.and_comm _ _]
  rw [up_filter_lt _ t n h2, up_filter_gt es f n h1]

theorem mem_gapsG {es : List Int} (h : Ok es) (f t : Int) (hft : f < t) (n : Int) : mem (gapsG es f t) n = (decide (f ≤ n ∧ n < t) && !mem es n) := by
  unfold mem gapsG
  rw [mid_eq es f t h.1 hft, up_app, up_app]
  have u1 : up (if oddB (up es f) = true then [] else [f]) n = if f ≤ n then (if oddB (up es f) = true then 0 else 1) else 0 := by
    cases oddB (up es f) <;> simp [up, List.countP_cons]
  have u2 : up (if oddB (lo es t) = true then [] else [t]) n = if t ≤ n then (if oddB (lo es t) = true then 0 else 1) else 0 := by
    cases oddB (lo es t) <;> simp [up, List.countP_cons]
  rw [u1, u2]
  by_cases h1 : f ≤ n
  · rw [if_pos h1]
    by_cases h2 : n < t
    · have e := up_mid es f t n hft h1 h2
      rw [if_neg (show ¬ t ≤ n by omega), decide_eq_true (show f ≤ n ∧ n < t from ⟨h1, h2⟩), Bool.true_and, ← e, Nat.add_zero, oddB_add, oddB_add]
      cases oddB (up es f) <;> cases oddB (up (es.filter fun e => decide (f < e) && decide (e < t)) n) <;> decide
    · rw [if_pos (show t ≤ n by omega), decide_eq_false (show ¬ (f ≤ n ∧ n < t) by omega), Bool.false_and]
      have e : up (es.filter fun e => decide (f < e) && decide (e < t)) n + up es f = lo es t := by
        rw [up_all _ n (by intro x hx; simp at hx; omega), ← mid_eq es f t h.1 hft, List.length_take, List.length_drop]
        have := up_le_lo es f t hft; have := lo_le_len es t; omega
      rw [← e, oddB_add, oddB_add, oddB_add]
      cases oddB (up es f) <;> cases oddB (up (es.filter fun e => decide (f < e) && decide (e < t)) n) <;> decide
  · rw [if_neg h1, if_neg (show ¬ t ≤ n by omega), up_zero _ n (by intro x hx; simp at hx; omega), decide_eq_false (show ¬ (f ≤ n ∧ n < t) by omega)]
    rfl

theorem ok_gapsG {es : List Int} (h : Ok es) (f t : Int) (h0 : 0 ≤ f) (hft : f < t) (hT : t ≤ 4611686018427387904) : Ok (gapsG es f t) := by
  have e := mid_eq es f t h.1 hft
  refine ⟨?_, ?_, ?_⟩
  · unfold gapsG
    rw [e, List.pairwise_append, List.pairwise_append]
    refine ⟨⟨by split <;> simp, h.1.filter _, ?_⟩, by split <;> simp, ?_⟩
    · intro x hx y hy
      have : x = f := by split at hx <;> simp at hx; exact hx
      simp at hy; omega
    · intro x hx y hy
      have : y = t := by split at hy <;> simp at hy; exact hy
      rw [List.mem_append] at hx
      rcases hx with hx | hx
      · have : x = f := by split at hx <;> simp at hx; exact hx
        omega
      · simp at hx; omega
  · unfold gapsG
    have := up_le_lo es f t hft; have := lo_le_len es t
    rw [List.length_append, List.length_append, List.length_take, List.length_drop]
    have l1 : (if oddB (up es f) = true then [] else [f]).length = if oddB (up es f) = true then 0 else 1 := by split <;> rfl
    have l2 : (if oddB (lo es t) = true then [] else [t]).length = if oddB (lo es t) = true then 0 else 1 := by split <;> rfl
    rw [l1, l2]
    unfold oddB
    simp only [decide_eq_true_eq]
    split <;> split <;> omega
  · intro x hx
    unfold gapsG at hx
    rw [e, List.mem_append, List.mem_append] at hx
    rcases hx with (hx | hx) | hx
    · have : x = f := by split at hx <;> simp at hx; exact hx
      omega
    · simp at hx; exact h.2.2 x hx.1
    · have : x = t := by split at hx <;> simp at hx; exact hx
      omega

theorem ok_gaps {es : List Int} (h : Ok es) (f t : Int) : Ok (gapsF es f t) := by
  unfold gapsF
  have := clamp_in f; have := clamp_in t
  split
  · exact ok_nil
  · exact ok_gapsG h _ _ (by omega) (by omega) (by omega)
theorem mem_gaps {es : List Int} (h : Ok es) (f t : Int) (n : Int) : mem (gapsF es f t) n = (decide (clamp f ≤ n ∧ n < clamp t) && !mem es n) := by
  unfold gapsF
  split
  · rw [decide_eq_false (by omega)]; rfl
  · exact mem_gapsG h _ _ (by omega) n
end Go.Proofs.Ytoglpjgmnojdjaa
