/- What came, plainly: numbers noted in a window, the runs told, the greatest first; runs counted. Conditions: none. -/
import Derived.Test.YtoglpjgmnojdjaaSm
set_option linter.unusedSimpArgs false
set_option linter.unusedVariables false
namespace Go.Proofs.Ytoglpjgmnojdjaa.Sp

/-- What came: the edges of the set, whether an answer is owed, the newest. -/
structure St where
  es : List Int
  ow : Bool
  nw : Int

def noteB (s : St) (num : Int) : Bool := decide (0 ≤ num) && decide (num ≤ 4611686018427387903) && !mem s.es num && decide (s.nw - 64 ≤ num)
def noteS (s : St) (num : Int) (e : Bool) : St := if noteB s num = true then ⟨turn (turn s.es num (num + 1) true) 0 (max s.nw num - 64) false, s.ow || e, max s.nw num⟩ else s
def st0 : St := ⟨[], false, -1⟩

structure Win (s : St) : Prop where
  ok : Ok s.es
  lo : -1 ≤ s.nw
  hi : s.nw ≤ 4611686018427387903
  win : ∀ n, mem s.es n = true → s.nw - 64 ≤ n ∧ n ≤ s.nw
  top : 0 ≤ s.nw → mem s.es s.nw = true

theorem mem_nil (n : Int) : mem [] n = false := rfl
theorem win0 : Win st0 := ⟨ok_nil, Int.le_refl _, by decide, (fun n h => by cases h), fun h => absurd h (by decide)⟩

theorem noteB_iff (s : St) (num : Int) : noteB s num = true ↔ 0 ≤ num ∧ num ≤ 4611686018427387903 ∧ mem s.es num = false ∧ s.nw - 64 ≤ num := by
  unfold noteB
  simp only [Bool.and_eq_true, decide_eq_true_eq, Bool.not_eq_true']
  constructor
  · rintro ⟨⟨⟨a, b⟩, c⟩, d⟩; exact ⟨a, b, c, d⟩
  · rintro ⟨a, b, c, d⟩; exact ⟨⟨⟨a, b⟩, c⟩, d⟩

theorem mem_note {s : St} (h : Win s) (num : Int) (e : Bool) (hb : noteB s num = true) (n : Int) : mem (noteS s num e).es n = (decide (max s.nw num - 64 ≤ n) && (decide (n = num) || mem s.es n)) := by
  obtain ⟨h0, h1, h2, h3⟩ := (noteB_iff s num).1 hb
  unfold noteS
  rw [if_pos hb]
  show mem (turn (turn s.es num (num + 1) true) 0 (max s.nw num - 64) false) n = _
  have hlo := h.lo
  have hhi := h.hi
  rw [mem_turn _ _ _ _ (ok_turn _ _ _ _ h.ok), mem_turn _ _ _ _ h.ok]
  have c0 : clamp 0 = 0 := rfl
  have c1 : clamp num = num := by unfold clamp; omega
  have c2 : clamp (num + 1) = num + 1 := by unfold clamp; omega
  have c3 : clamp (max s.nw num - 64) = max (max s.nw num - 64) 0 := by unfold clamp; omega
  rw [c0, c1, c2, c3]
  by_cases a : 0 ≤ n ∧ n < max (max s.nw num - 64) 0
  · rw [if_pos a, decide_eq_false (by omega)]; rfl
  · rw [if_neg a]
    by_cases b : num ≤ n ∧ n < num + 1
    · rw [if_pos b, decide_eq_true (show n = num by omega), decide_eq_true (by omega)]; rfl
    · rw [if_neg b, decide_eq_false (show ¬ n = num by omega), Bool.false_or]
      by_cases c : max s.nw num - 64 ≤ n
      · rw [decide_eq_true c, Bool.true_and]
      · rw [decide_eq_false c, Bool.false_and]
        have : n < 0 := by omega
        exact mem_out h.ok n (.inl this)

theorem Win.note {s : St} (h : Win s) (num : Int) (e : Bool) : Win (noteS s num e) := by
  cases hb : noteB s num with
  | false => unfold noteS; rw [hb]; exact h
  | true =>
    obtain ⟨h0, h1, h2, h3⟩ := (noteB_iff s num).1 hb
    have hm := mem_note h num e hb
    have hn : (noteS s num e).nw = max s.nw num := by unfold noteS; rw [if_pos hb]
    have hlo := h.lo
    have hhi := h.hi
    refine ⟨?_, by rw [hn]; omega, by rw [hn]; omega, fun n hn' => ?_, fun _ => ?_⟩
    · unfold noteS; rw [if_pos hb]; exact ok_turn _ _ _ _ (ok_turn _ _ _ _ h.ok)
    · rw [hm n] at hn'
      simp only [Bool.and_eq_true, Bool.or_eq_true, decide_eq_true_eq] at hn'
      rw [hn]
      rcases hn'.2 with e1 | e1
      · omega
      · have := h.win n e1; omega
    · rw [hn, hm]
      simp only [Bool.and_eq_true, Bool.or_eq_true, decide_eq_true_eq]
      refine ⟨by omega, ?_⟩
      by_cases hc : s.nw ≤ num
      · exact .inl (by omega)
      · refine .inr ?_
        rw [show max s.nw num = s.nw by omega]
        exact h.top (by omega)

theorem win_len : ∀ (es : List Int) (a b : Int), es.Pairwise (· < ·) → (∀ e ∈ es, a ≤ e ∧ e ≤ b) → a ≤ b + 1 → (es.length : Int) ≤ b - a + 1
  | [], a, b, _, _, h => by simp; omega
  | x :: xs, a, b, hp, hx, h => by
    rw [List.pairwise_cons] at hp
    have h0 := hx x (by simp)
    have := win_len xs (x + 1) b hp.2 (fun e he => ⟨hp.1 e he, (hx e (by simp [he])).2⟩) (by omega)
    simp only [List.length_cons]
    omega

theorem pl_mem : ∀ (es : List Int), es.length % 2 = 0 → ∀ e ∈ es, ∃ r ∈ prs es, e = r.1 ∨ e = r.2
  | [], _, e, h => by cases h
  | [a], h, e, _ => by simp at h
  | a :: b :: r, h, e, he => by
    simp only [List.mem_cons] at he
    rcases he with rfl | rfl | he
    · exact ⟨(e, b), by simp [prs], .inl rfl⟩
    · exact ⟨(a, e), by simp [prs], .inr rfl⟩
    · obtain ⟨q, hq, h'⟩ := pl_mem r (by simp at h; omega) e he
      exact ⟨q, by simp [prs, hq], h'⟩

theorem Win.edges {s : St} (h : Win s) : ∀ e ∈ s.es, s.nw - 64 ≤ e ∧ e ≤ s.nw + 1 := fun e he => by
  obtain ⟨r, hr, h'⟩ := pl_mem s.es h.ok.2.1 e he
  obtain ⟨r0, r1, r2⟩ := prs_ok h.ok r hr
  have hm := mem_prs s.es h.ok.1 h.ok.2.1
  have m1 : mem s.es r.1 = true := by rw [hm, List.any_eq_true]; exact ⟨r, hr, by unfold inRun; simp; omega⟩
  have m2 : mem s.es (r.2 - 1) = true := by rw [hm, List.any_eq_true]; exact ⟨r, hr, by unfold inRun; simp; omega⟩
  have w1 := h.win _ m1
  have w2 := h.win _ m2
  rcases h' with rfl | rfl <;> omega
theorem Win.len {s : St} (h : Win s) : s.es.length ≤ 66 := by
  have := win_len s.es (s.nw - 64) (s.nw + 1) h.ok.1 h.edges (by omega)
  omega
theorem lo_le_up (es : List Int) (f t : Int) (h : f ≤ t) : lo es f ≤ up es t := by
  unfold lo up
  exact List.countP_mono_left fun x _ hx => by simp at hx ⊢; omega
theorem turn_len (es : List Int) (f t : Int) (b : Bool) : (turn es f t b).length ≤ es.length + 2 := by
  unfold turn
  split
  · omega
  · rename_i hc
    have h1 := lo_le_up es (clamp f) (clamp t) (by omega)
    have h2 := up_le_len es (clamp t)
    unfold turnF
    simp only [List.length_append, List.length_take, List.length_drop]
    split <;> split <;> simp <;> omega

theorem Win.empty {s : St} (h : Win s) : s.es = [] ↔ s.nw = -1 := by
  constructor
  · intro e
    rcases Int.lt_or_le s.nw 0 with h0 | h0
    · have := h.lo; omega
    · have := h.top h0; rw [e] at this; cases this
  · intro e
    have hl := win_len s.es 0 0 h.ok.1 (fun x hx => by have := h.edges x hx; have := h.ok.2.2 x hx; omega) (by omega)
    have := h.ok.2.1
    exact List.eq_nil_of_length_eq_zero (by omega)

/-- The last edge of what came is just behind the newest. -/
theorem Win.last {s : St} (h : Win s) (h0 : 0 ≤ s.nw) : 2 ≤ s.es.length ∧ s.es.getD (s.es.length - 1) 0 = s.nw + 1 := by
  have hm := h.top h0
  have ho := up_lt_of_odd h.ok s.nw hm
  have hl := h.ok.2.1
  have ho2 : up s.es s.nw % 2 = 1 := by unfold mem oddB at hm; exact of_decide_eq_true hm
  have hg := get_up h.ok.1 s.nw ho
  have hlast : s.es.getD (s.es.length - 1) 0 ∈ s.es := by
    simp only [List.getD]
    rw [List.getElem?_eq_getElem (by omega)]
    exact List.getElem_mem _
  have he := (h.edges _ hlast).2
  refine ⟨by omega, ?_⟩
  rcases Nat.lt_or_ge (up s.es s.nw) (s.es.length - 1) with hh | hh
  · have := get_mono h.ok.1 _ _ hh (by omega); omega
  · have e : up s.es s.nw = s.es.length - 1 := by omega
    rw [e] at hg
    omega

theorem card_mono (N : Nat) (p q : Int → Bool) (h : ∀ i : Int, 0 ≤ i → p i = true → q i = true) : card N p ≤ card N q := by
  induction N with
  | zero => exact Nat.le_refl _
  | succ N ih =>
    rw [card_succ, card_succ]
    by_cases hp : p (N : Int) = true
    · rw [if_pos hp, if_pos (h _ (by omega) hp)]; omega
    · rw [if_neg hp]; omega
theorem Win.cnt {s : St} (h : Win s) : 0 ≤ cnt s.es ∧ cnt s.es ≤ 65 := by
  have hb := cnt_bound h.ok
  refine ⟨hb.1, ?_⟩
  have hlo := h.lo
  have h1 := cnt_card (s.nw + 1).toNat s.es h.ok.1 h.ok.2.1 (fun e he => ⟨(h.ok.2.2 e he).1, by have := h.edges e he; omega⟩)
  have h2 := card_mono (s.nw + 1).toNat (mem s.es) (fun n => decide (max (s.nw - 64) 0 ≤ n) && decide (n < s.nw + 1)) (fun i hi hm => by have := h.win i hm; simp; omega)
  have h3 := card_run (s.nw + 1).toNat (max (s.nw - 64) 0) (s.nw + 1) (by omega) (by omega) (by omega)
  omega

/-- The runs that are told: from the last one down, each with its last number. -/
def ackL (es : List Int) (m : Nat) : Nat → List Int
  | 0 => []
  | j + 1 => ackL es m j ++ [es.getD (2 * (m - 1 - j)) 0, es.getD (2 * (m - 1 - j) + 1) 0 - 1]
theorem ackL_len (es : List Int) (m : Nat) : ∀ j, (ackL es m j).length = 2 * j
  | 0 => rfl
  | j + 1 => by rw [ackL, List.length_append, ackL_len es m j]; rfl
theorem ackL_get (es : List Int) (m : Nat) : ∀ j k, k < j → (ackL es m j).getD (2 * k) 0 = es.getD (2 * (m - 1 - k)) 0 ∧ (ackL es m j).getD (2 * k + 1) 0 = es.getD (2 * (m - 1 - k) + 1) 0 - 1
  | 0, k, h => by omega
  | j + 1, k, h => by
    have hl := ackL_len es m j
    rw [ackL]
    rcases Nat.lt_or_ge k j with hk | hk
    · obtain ⟨h1, h2⟩ := ackL_get es m j k hk
      simp only [List.getD] at h1 h2 ⊢
      rw [List.getElem?_append_left (by omega), List.getElem?_append_left (by omega)]
      exact ⟨h1, h2⟩
    · obtain rfl : k = j := by omega
      simp only [List.getD]
      rw [List.getElem?_append_right (by omega), List.getElem?_append_right (by omega), hl]
      rw [show 2 * k - 2 * k = 0 by omega, show 2 * k + 1 - 2 * k = 1 by omega]
      exact ⟨rfl, rfl⟩

/-- What a run that is told is. -/
theorem ack_run {es : List Int} (h : Ok es) (m : Nat) (hm : es.length = 2 * m) (j k : Nat) (hj : j ≤ m) (hk : k < j) :
    0 ≤ (ackL es m j).getD (2 * k) 0 ∧ (ackL es m j).getD (2 * k) 0 ≤ (ackL es m j).getD (2 * k + 1) 0 ∧ (ackL es m j).getD (2 * k + 1) 0 ≤ 4611686018427387903 ∧ (0 < k → (ackL es m j).getD (2 * k + 1) 0 + 2 ≤ (ackL es m j).getD (2 * (k - 1)) 0) ∧ ∀ n, (ackL es m j).getD (2 * k) 0 ≤ n → n ≤ (ackL es m j).getD (2 * k + 1) 0 → mem es n = true := by
  obtain ⟨e1, e2⟩ := ackL_get es m j k hk
  rw [e1, e2]
  have g0 := get_in h (2 * (m - 1 - k)) (by omega)
  have g1 := get_in h (2 * (m - 1 - k) + 1) (by omega)
  have g2 := get_mono h.1 (2 * (m - 1 - k)) (2 * (m - 1 - k) + 1) (by omega) (by omega)
  refine ⟨g0.1, by omega, by omega, fun h0 => ?_, fun n h1 h2 => ?_⟩
  · obtain ⟨e3, _⟩ := ackL_get es m j (k - 1) (by omega)
    rw [e3]
    have := get_mono h.1 (2 * (m - 1 - k) + 1) (2 * (m - 1 - (k - 1))) (by omega) (by omega)
    omega
  · unfold mem
    rw [up_at h.1 (2 * (m - 1 - k) + 1) (by omega) n (fun i hi => ?_) (by omega)]
    · unfold oddB; rw [decide_eq_true]; omega
    · rcases Nat.lt_or_ge i (2 * (m - 1 - k)) with hlt | hge
      · have := get_mono h.1 i (2 * (m - 1 - k)) hlt (by omega); omega
      · obtain rfl : i = 2 * (m - 1 - k) := by omega
        exact h1

/-- How many numbers the first j runs that are told have. -/
def tsum (es : List Int) (m : Nat) : Nat → Int
  | 0 => 0
  | j + 1 => tsum es m j + (es.getD (2 * (m - 1 - j) + 1) 0 - es.getD (2 * (m - 1 - j)) 0)
theorem tsum_cnt {es : List Int} (h : Ok es) (m : Nat) (hm : es.length = 2 * m) : ∀ j, j ≤ m → tsum es m j + cnt (es.take (2 * (m - j))) = cnt es
  | 0, _ => by rw [tsum, Nat.sub_zero, ← hm, List.take_length]; omega
  | j + 1, hj => by
    have ih := tsum_cnt h m hm j (by omega)
    have e := take_pair es (m - (j + 1)) (by omega)
    rw [show m - (j + 1) + 1 = m - j by omega] at e
    rw [e, cnt_snoc _ _ _ (by rw [List.length_take]; omega)] at ih
    rw [tsum, show m - 1 - j = m - (j + 1) by omega]
    omega
theorem tsum_le {es : List Int} (h : Ok es) (m : Nat) (hm : es.length = 2 * m) (j : Nat) (hj : j ≤ m) : 0 ≤ tsum es m j ∧ tsum es m j ≤ cnt es := by
  have h1 := tsum_cnt h m hm j hj
  have h2 := cnt_take_bound h (m - j)
  refine ⟨?_, by omega⟩
  clear h1 h2
  induction j with
  | zero => exact Int.le_refl _
  | succ j ih =>
    have := get_mono h.1 (2 * (m - 1 - j)) (2 * (m - 1 - j) + 1) (by omega) (by omega)
    have := ih (by omega)
    rw [tsum]; omega
theorem tsum_all {es : List Int} (h : Ok es) (m : Nat) (hm : es.length = 2 * m) : tsum es m m = cnt es := by
  have h1 := tsum_cnt h m hm m (Nat.le_refl _)
  rw [Nat.sub_self] at h1
  simpa [cnt] using h1

/-- A number at which a run begins. -/
def rise (es : List Int) (n : Int) : Bool := mem es n && !mem es (n - 1)
theorem mem_low (es : List Int) (b n : Int) (h : ∀ e ∈ es, b < e) (hn : n ≤ b) : mem es n = false := by
  unfold mem; rw [up_zero es n fun y hy => by have := h y hy; omega]; rfl
theorem rise_pair (a b : Int) (r : List Int) (n : Int) (h : (a :: b :: r).Pairwise (· < ·)) : rise (a :: b :: r) n = ((decide (a ≤ n) && decide (n < a + 1)) || rise r n) := by
  have h' := h
  rw [List.pairwise_cons] at h'
  have hab := h'.1 b (by simp)
  have h2 := h'.2
  rw [List.pairwise_cons] at h2
  have hlow := mem_low r b
  unfold rise
  rw [mem_pair a b r n h, mem_pair a b r (n - 1) h]
  by_cases c1 : n ≤ b
  · rw [hlow n h2.1 c1, hlow (n - 1) h2.1 (by omega)]
    simp only [Bool.or_false, Bool.false_and]
    rw [Bool.eq_iff_iff]
    simp only [Bool.and_eq_true, decide_eq_true_eq, Bool.not_eq_true', Bool.and_eq_false_iff, decide_eq_false_iff_not]
    omega
  · have e1 : (decide (a ≤ n) && decide (n < b)) = false := by simp; omega
    have e2 : (decide (a ≤ n - 1) && decide (n - 1 < b)) = false := by simp; omega
    have e3 : (decide (a ≤ n) && decide (n < a + 1)) = false := by simp; omega
    rw [e1, e2, e3, Bool.false_or, Bool.false_or, Bool.false_or]
theorem card_rise (N : Nat) : ∀ es : List Int, es.Pairwise (· < ·) → es.length % 2 = 0 → (∀ e ∈ es, 0 ≤ e ∧ e ≤ N) → 2 * card N (rise es) = es.length
  | [], _, _, _ => by
    rw [card_congr N (rise []) (fun _ => false) (fun _ _ _ => rfl), card_none]
    rfl
  | [_], _, h, _ => by simp at h
  | a :: b :: r, h, hl, hr => by
    have h' := h
    rw [List.pairwise_cons] at h'
    have hab := h'.1 b (by simp)
    have h2 := h'.2
    rw [List.pairwise_cons] at h2
    have ih := card_rise N r h2.2 (by simp at hl; omega) (fun e he => hr e (by simp [he]))
    have ha := hr a (by simp)
    have hb := hr b (by simp)
    have hlow := mem_low r b
    rw [card_congr N (rise (a :: b :: r)) (fun n => (decide (a ≤ n) && decide (n < a + 1)) || rise r n) (fun n _ _ => rise_pair a b r n h)]
    rw [card_or N (fun n => decide (a ≤ n) && decide (n < a + 1)) (rise r) (fun n hn => by
      simp at hn
      unfold rise
      rw [hlow n h2.1 (by omega)]; rfl)]
    have h3 := card_run N a (a + 1) ha.1 (by omega) (by omega)
    simp only [List.length_cons]
    omega
end Go.Proofs.Ytoglpjgmnojdjaa.Sp
