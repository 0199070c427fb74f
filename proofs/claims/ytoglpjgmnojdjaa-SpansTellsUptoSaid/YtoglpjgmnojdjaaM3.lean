/- gather on rising edges: plain facts. Conditions: as each theorem lists them. -/
import Derived.Test.YtoglpjgmnojdjaaM2
set_option linter.unusedSimpArgs false
set_option linter.unusedVariables false
namespace Go.Proofs.Ytoglpjgmnojdjaa

def pl (rs : List (Int × Int)) : List Int := rs.flatMap fun r => [r.1, r.2]
theorem pl_cons (r : Int × Int) (rs : List (Int × Int)) : pl (r :: rs) = r.1 :: r.2 :: pl rs := rfl
theorem pl_app (a b : List (Int × Int)) : pl (a ++ b) = pl a ++ pl b := by simp [pl]
theorem pl_len : ∀ rs : List (Int × Int), (pl rs).length = 2 * rs.length
  | [] => rfl
  | r :: rs => by rw [pl_cons, List.length_cons, List.length_cons, List.length_cons, pl_len rs]; omega
theorem pl_get0 : ∀ (rs : List (Int × Int)) (k : Nat) (r : Int × Int), rs[k]? = some r → (pl rs).getD (2 * k) 0 = r.1 ∧ (pl rs).getD (2 * k + 1) 0 = r.2
  | [], k, r, h => by simp at h
  | q :: rs, 0, r, h => by simp at h; subst h; exact ⟨rfl, rfl⟩
  | q :: rs, k + 1, r, h => by
    have := pl_get0 rs k r (by simpa using h)
    rw [pl_cons, show 2 * (k + 1) = 2 * k + 1 + 1 by omega]
    exact this
theorem pl_take : ∀ (rs : List (Int × Int)) (k : Nat), pl (rs.take k) = (pl rs).take (2 * k)
  | [], k => by simp [pl]
  | r :: rs, 0 => rfl
  | r :: rs, k + 1 => by
    rw [List.take_succ_cons, pl_cons, pl_cons, pl_take rs k, show 2 * (k + 1) = 2 * k + 1 + 1 by omega]
    rfl

/-- Pairs of a list of numbers. -/
def prs : List Int → List (Int × Int)
  | a :: b :: r => (a, b) :: prs r
  | _ => []
theorem pl_prs : ∀ es : List Int, es.length % 2 = 0 → pl (prs es) = es
  | [], _ => rfl
  | [a], h => by simp at h
  | a :: b :: r, h => by
    show pl ((a, b) :: prs r) = _
    rw [pl_cons, pl_prs r (by simp at h; omega)]
theorem prs_pl : ∀ rs : List (Int × Int), prs (pl rs) = rs
  | [] => rfl
  | r :: rs => by rw [pl_cons]; show (r.1, r.2) :: prs (pl rs) = _; rw [prs_pl rs]

def gatherStep (es : List Int) (r : Int × Int) : List Int :=
  if 0 < es.length ∧ r.1 ≤ es.getD (es.length - 1) 0 then es.set (es.length - 1) (max (es.getD (es.length - 1) 0) r.2) else es ++ [r.1, r.2]
def gatherF (rs : List (Int × Int)) : List Int := rs.foldl gatherStep []

theorem gather_snoc (rs : List (Int × Int)) (r : Int × Int) : gatherF (rs ++ [r]) = gatherStep (gatherF rs) r := by simp [gatherF]
theorem gatherStep_len (es : List Int) (r : Int × Int) : (gatherStep es r).length ≤ es.length + 2 := by
  unfold gatherStep; split <;> simp
theorem gather_len (rs : List (Int × Int)) (k : Nat) : (gatherF (rs.take k)).length ≤ 2 * k := by
  induction k with
  | zero => simp [gatherF]
  | succ k ih =>
    rcases Nat.lt_or_ge k rs.length with h | h
    · rw [List.take_succ_eq_append_getElem h, gather_snoc]
      have := gatherStep_len (gatherF (rs.take k)) rs[k]
      omega
    · rw [List.take_of_length_le (by omega)]
      rw [List.take_of_length_le h] at ih
      omega

theorem get_ge {es : List Int} (h : Ok es) (i : Nat) (hi : i < es.length) : (i : Int) ≤ es.getD i 0 := by
  induction i with
  | zero => exact (get_in h 0 hi).1
  | succ i ih =>
    have := get_mono h.1 i (i + 1) (by omega) hi
    have := ih (by omega)
    omega
theorem small_len {es : List Int} (h : Ok es) (M : Nat) (hM : ∀ e ∈ es, e ≤ (M : Int)) : es.length ≤ M + 1 := by
  rcases Nat.eq_zero_or_pos es.length with h0 | h0
  · omega
  · have h1 := get_ge h (es.length - 1) (by omega)
    have h2 := hM es[es.length - 1] (List.getElem_mem _)
    rw [show es.getD (es.length - 1) 0 = es[es.length - 1] by simp [List.getD, show es.length - 1 < es.length by omega]] at h1
    omega
theorem gatherStep_small (es : List Int) (r : Int × Int) (M : Int) (h : ∀ e ∈ es, e ≤ M) (h1 : r.1 ≤ M) (h2 : r.2 ≤ M) : ∀ e ∈ gatherStep es r, e ≤ M := by
  intro e he
  unfold gatherStep at he
  split at he
  · rename_i hc
    rcases List.mem_or_eq_of_mem_set he with he | rfl
    · exact h e he
    · have hl : es.getD (es.length - 1) 0 ≤ M := by
        have := h es[es.length - 1] (List.getElem_mem (by omega))
        rwa [show es[es.length - 1] = es.getD (es.length - 1) 0 by simp [List.getD, show es.length - 1 < es.length by omega]] at this
      omega
  · rw [List.mem_append] at he
    rcases he with he | he
    · exact h e he
    · simp at he; rcases he with rfl | rfl <;> assumption
theorem gather_small (rs : List (Int × Int)) (M : Int) (h : ∀ r ∈ rs, r.1 ≤ M ∧ r.2 ≤ M) (k : Nat) : ∀ e ∈ gatherF (rs.take k), e ≤ M := by
  induction k with
  | zero => intro e he; simp [gatherF] at he
  | succ k ih =>
    rcases Nat.lt_or_ge k rs.length with h1 | h1
    · rw [List.take_succ_eq_append_getElem h1, gather_snoc]
      have := h rs[k] (List.getElem_mem h1)
      exact gatherStep_small _ _ _ ih this.1 this.2
    · rw [List.take_of_length_le (by omega)]
      rwa [List.take_of_length_le h1] at ih

def inRun (n : Int) (r : Int × Int) : Bool := decide (r.1 ≤ n) && decide (n < r.2)

theorem mem_snoc (pre : List Int) (a b : Int) (n : Int) (h : (pre ++ [a, b]).Pairwise (· < ·)) (hl : pre.length % 2 = 0) : mem (pre ++ [a, b]) n = (mem pre n || inRun n (a, b)) := by
  rw [List.pairwise_append] at h
  have hab : a < b := by have := h.2.1; simp at this; exact this
  have hlo : ∀ x ∈ pre, x < a := fun x hx => h.2.2 x hx a (by simp)
  unfold mem inRun
  rw [up_app, up_cons, up_cons]
  by_cases h1 : a ≤ n
  · have e : up pre n = pre.length := up_all _ _ fun x hx => by have := hlo x hx; omega
    have o : oddB pre.length = false := by unfold oddB; simp; omega
    rw [e, if_pos h1]
    by_cases h2 : b ≤ n
    · have : ¬ n < b := by omega
      rw [if_pos h2, oddB_add, o]; simp [h1, this, up, oddB]
    · have : n < b := by omega
      rw [if_neg h2, oddB_add, o]; simp [h1, this, up, oddB]
  · rw [if_neg h1, if_neg (show ¬ b ≤ n by omega), oddB_add]
    simp [h1, up, oddB]

/-- What gather has of the runs so far. -/
def GI (es : List Int) (done : List (Int × Int)) : Prop :=
  Ok es ∧ (∀ n, mem es n = done.any (inRun n)) ∧ ∀ k, 2 * k < es.length → ∃ q ∈ done, es.getD (2 * k) 0 = q.1

theorem GI.step {es : List Int} {done : List (Int × Int)} (h : GI es done) (r : Int × Int) (h0 : 0 ≤ r.1) (h1 : r.1 < r.2) (h2 : r.2 ≤ 4611686018427387904) (hs : ∀ q ∈ done, q.1 ≤ r.1) : GI (gatherStep es r) (done ++ [r]) := by
  obtain ⟨hok, hm, hst⟩ := h
  unfold gatherStep
  by_cases hc : 0 < es.length ∧ r.1 ≤ es.getD (es.length - 1) 0
  · rw [if_pos hc]
    have hev := hok.2.1
    obtain ⟨k, hk⟩ : ∃ k, es.length = 2 * k + 2 := ⟨es.length / 2 - 1, by omega⟩
    obtain ⟨a, ha⟩ : ∃ a, es.getD (2 * k) 0 = a := ⟨_, rfl⟩
    obtain ⟨b, hb⟩ : ∃ b, es.getD (2 * k + 1) 0 = b := ⟨_, rfl⟩
    have e : es = es.take (2 * k) ++ [a, b] := by
      have := take_pair es k (by omega)
      rw [List.take_of_length_le (by omega), ha, hb] at this
      exact this
    obtain ⟨pre, hp⟩ : ∃ pre, es.take (2 * k) = pre := ⟨_, rfl⟩
    have hpl : pre.length = 2 * k := by rw [← hp, List.length_take]; omega
    rw [hp] at e
    have hlast : es.getD (es.length - 1) 0 = b := by rw [hk]; exact hb
    rw [hlast] at hc ⊢
    have har : a ≤ r.1 := by
      obtain ⟨q, hq, hq1⟩ := hst k (by omega)
      have := hs q hq
      rw [ha] at hq1; omega
    have hset : es.set (es.length - 1) (max b r.2) = pre ++ [a, max b r.2] := by
      rw [hk, e]
      simp [List.set_append, hpl]
    rw [hset]
    rw [e] at hok hm hst
    have hpw := hok.1
    rw [List.pairwise_append] at hpw
    have hab : a < b := by have := hpw.2.1; simp at this; exact this
    have hpw' : (pre ++ [a, max b r.2]).Pairwise (· < ·) := by
      rw [List.pairwise_append]
      refine ⟨hpw.1, by simp; omega, fun x hx y hy => ?_⟩
      have := hpw.2.2 x hx a (by simp)
      simp at hy
      rcases hy with rfl | rfl <;> omega
    refine ⟨⟨hpw', ?_, ?_⟩, fun n => ?_, fun j hj => ?_⟩
    · simp [hpl]
    · intro x hx
      have hb' := hok.2.2 b (by simp)
      rw [List.mem_append] at hx
      rcases hx with hx | hx
      · exact hok.2.2 x (by simp [hx])
      · simp at hx
        rcases hx with rfl | rfl
        · exact hok.2.2 _ (by simp)
        · omega
    · rw [mem_snoc _ _ _ _ hpw' (by omega), List.any_append, ← hm n, mem_snoc _ _ _ _ hok.1 (by omega)]
      have key : inRun n (a, max b r.2) = (inRun n (a, b) || inRun n r) := by
        unfold inRun
        rw [Bool.eq_iff_iff]
        simp
        omega
      rw [key]
      simp [Bool.or_assoc]
    · have hj' : j ≤ k := by simp [hpl] at hj; omega
      obtain ⟨q, hq, hq1⟩ := hst j (by simp [hpl]; omega)
      refine ⟨q, by simp [hq], ?_⟩
      rw [← hq1]
      rcases Nat.lt_or_ge (2 * j) pre.length with h3 | h3
      · simp [List.getD, List.getElem?_append_left h3]
      · obtain rfl : j = k := by omega
        simp [List.getD, hpl]
  · rw [if_neg hc]
    have hlt : ∀ x ∈ es, x < r.1 := fun x hx => by
      have hne : 0 < es.length := List.length_pos_of_mem hx
      have hl : es.getD (es.length - 1) 0 < r.1 := by
        rcases Int.lt_or_le (es.getD (es.length - 1) 0) r.1 with h3 | h3
        · exact h3
        · exact absurd ⟨hne, h3⟩ hc
      obtain ⟨i, hi, rfl⟩ := List.mem_iff_getElem.1 hx
      have hi' : es[i] = es.getD i 0 := by simp [List.getD, hi]
      rw [hi']
      rcases Nat.lt_or_ge i (es.length - 1) with h3 | h3
      · have := get_mono hok.1 i (es.length - 1) h3 (by omega); omega
      · rw [show i = es.length - 1 by omega]; exact hl
    have hpw' : (es ++ [r.1, r.2]).Pairwise (· < ·) := by
      rw [List.pairwise_append]
      refine ⟨hok.1, by simpa using h1, fun x hx y hy => ?_⟩
      have := hlt x hx
      simp at hy
      rcases hy with rfl | rfl <;> omega
    refine ⟨⟨hpw', ?_, ?_⟩, fun n => ?_, fun j hj => ?_⟩
    · have := hok.2.1; simp; omega
    · intro x hx
      rw [List.mem_append] at hx
      rcases hx with hx | hx
      · exact hok.2.2 x hx
      · simp at hx; rcases hx with rfl | rfl <;> omega
    · rw [mem_snoc _ _ _ _ hpw' hok.2.1, List.any_append, hm n]
      simp
    · simp at hj
      have hev := hok.2.1
      rcases Nat.lt_or_ge (2 * j) es.length with h3 | h3
      · obtain ⟨q, hq, hq1⟩ := hst j h3
        refine ⟨q, by simp [hq], ?_⟩
        rw [← hq1]
        simp [List.getD, List.getElem?_append_left h3]
      · refine ⟨r, by simp, ?_⟩
        have h4 : 2 * j = es.length := by omega
        simp [List.getD, h4]

/-- Runs that may be. -/
def RunOk (r : Int × Int) : Prop := 0 ≤ r.1 ∧ r.1 < r.2 ∧ r.2 ≤ 4611686018427387904

theorem gather_inv (rs : List (Int × Int)) (hr : ∀ r ∈ rs, RunOk r) (hs : rs.Pairwise (fun a b => a.1 ≤ b.1)) (k : Nat) (hk : k ≤ rs.length) : GI (gatherF (rs.take k)) (rs.take k) := by
  induction k with
  | zero => exact ⟨ok_nil, fun n => rfl, fun k hk => by simp [gatherF] at hk⟩
  | succ k ih =>
    have hlt : k < rs.length := by omega
    rw [List.take_succ_eq_append_getElem hlt, gather_snoc]
    have hro := hr rs[k] (List.getElem_mem hlt)
    refine (ih (by omega)).step rs[k] hro.1 hro.2.1 hro.2.2 fun q hq => ?_
    obtain ⟨i, hi, rfl⟩ := List.mem_iff_getElem.1 hq
    rw [List.length_take] at hi
    rw [List.getElem_take]
    exact List.pairwise_iff_getElem.1 hs i k (by omega) hlt (by omega)

theorem gather_all (rs : List (Int × Int)) (hr : ∀ r ∈ rs, RunOk r) (hs : rs.Pairwise (fun a b => a.1 ≤ b.1)) : Ok (gatherF rs) ∧ ∀ n, mem (gatherF rs) n = rs.any (inRun n) := by
  have := gather_inv rs hr hs rs.length (Nat.le_refl _)
  rw [List.take_length] at this
  exact ⟨this.1, this.2.1⟩

/-- Edges as runs. -/
theorem prs_ok {es : List Int} (h : Ok es) : ∀ r ∈ prs es, RunOk r := by
  have key : ∀ es : List Int, es.Pairwise (· < ·) → (∀ e ∈ es, 0 ≤ e ∧ e ≤ 4611686018427387904) → ∀ r ∈ prs es, RunOk r := by
    intro es
    induction es using prs.induct with
    | case1 a b r ih =>
      intro h hr q hq
      rw [List.pairwise_cons] at h
      have h2 := h.2
      rw [List.pairwise_cons] at h2
      rw [show prs (a :: b :: r) = (a, b) :: prs r from rfl, List.mem_cons] at hq
      rcases hq with rfl | hq
      · exact ⟨(hr a (by simp)).1, h.1 b (by simp), (hr b (by simp)).2⟩
      · exact ih h2.2 (fun e he => hr e (by simp [he])) q hq
    | case2 l hl =>
      intro _ _ q hq
      have : prs l = [] := by
        match l, hl with
        | [], _ => rfl
        | [_], _ => rfl
        | a :: b :: r, hl => exact absurd rfl (hl a b r)
      rw [this] at hq; cases hq
  exact key es h.1 h.2.2
theorem mem_prs : ∀ (es : List Int), es.Pairwise (· < ·) → es.length % 2 = 0 → ∀ n, mem es n = (prs es).any (inRun n)
  | [], _, _, n => rfl
  | [a], _, h, n => by simp at h
  | a :: b :: r, h, hl, n => by
    have h' := h
    rw [List.pairwise_cons] at h'
    have h2 := h'.2
    rw [List.pairwise_cons] at h2
    rw [mem_pair a b r n h, mem_prs r h2.2 (by simp at hl; omega) n]
    rfl
end Go.Proofs.Ytoglpjgmnojdjaa
