/- Joined texts. The reader of package frame, plainly: what was cut short. Conditions: none. The reader of package frame, plainly: a frame that is cut short ends with error 3; so do frames of which the last one is. Conditions: none. The reader of package frame, plainly: whole frames and part of one more end with error 3. Conditions: none. -/
import Derived.Test.YtkphmgfjlbdpgaaDoorJ7
set_option linter.unusedSimpArgs false
set_option linter.unusedVariables false

namespace Go.Proofs.YtkphmgfjlbdpgaaDoor
open Go Go.RowKit

theorem need_err (s : Rs) (ok : Bool) (e : Int) (h : s.e ≠ 0) : needR s ok e = s := by unfold needR; rw [if_neg (fun x => h x.1)]
theorem num_err (s : Rs) (h : s.e ≠ 0) : numR s = (0, s) := by
  unfold numR
  split
  · rw [need_err s _ _ h]
  · rw [if_neg h]
theorem flag_err (s : Rs) (h : s.e ≠ 0) : (flagR s).2 = s := by unfold flagR; rw [num_err s h]; exact need_err s _ _ h
theorem run_err (s : Rs) (l : Int) (h : s.e ≠ 0) : (runS s l).2 = s := by
  unfold runS
  rw [need_err s _ _ h, num_err s h]
  exact need_err s _ _ h
theorem data_err (s : Rs) (h : s.e ≠ 0) : (dataR s).2 = s := by
  unfold dataR
  rw [num_err s h]
  simp only
  rw [need_err s _ _ h, need_err s _ _ h, if_neg h]
theorem spans_err (s : Rs) (h : s.e ≠ 0) : (spansR s).2 = s := by
  unfold spansR
  rw [num_err s h]
  simp only
  rw [need_err s _ _ h, if_neg h]
theorem optN_err (b : Bool) (s : Rs) (h : s.e ≠ 0) : (optN b s).2 = s := by cases b; rfl; exact congrArg Prod.snd (num_err s h)
theorem optF_err (b : Bool) (s : Rs) (h : s.e ≠ 0) : (optF b s).2 = s := by cases b; rfl; exact flag_err s h
theorem optD_err (b : Bool) (s : Rs) (h : s.e ≠ 0) : (optD b s).2 = s := by cases b; rfl; exact data_err s h
theorem optS_err (b : Bool) (s : Rs) (h : s.e ≠ 0) : (optS b s).2 = s := by cases b; rfl; exact spans_err s h

/-- Part of a number, and no more. -/
theorem num_cut (n : Int) (h : wid n ≠ 0) (j : Nat) (hj : j < wid n) : numR ⟨(encB n).take j, 0⟩ = (0, ⟨(encB n).take j, 3⟩) := by
  have hd : dec ((encB n).take j) = none := by
    have h1 := dec_enc n h []
    rw [List.append_nil] at h1
    have hl := encB_len n
    cases he : encB n with
    | nil => rw [he] at hl; simp at hl; omega
    | cons b0 r =>
      rw [he] at h1 hl
      simp only [dec] at h1
      split at h1
      · cases h1
      · simp only [Option.some.injEq, Prod.mk.injEq] at h1
        cases j with
        | zero => rfl
        | succ j =>
          simp only [List.take_succ_cons, dec, List.length_take]
          rw [if_pos (by have := h1.2; simp only [List.length_cons] at hl; omega)]
  unfold numR
  rw [hd]
  rfl
theorem three : (3 : Int) ≠ 0 := by decide
theorem flag_cut (b : Bool) (j : Nat) (hj : j < wid (bitI b)) : (flagR ⟨(encB (bitI b)).take j, 0⟩).2.e = 3 := by
  unfold flagR
  rw [num_cut _ (by cases b <;> decide) j hj, need_err _ _ _ three]
theorem data_cut (data : List Nat) (h : data.length ≤ 120) (j : Nat) (hj : j < (encB ((data.length : Nat) : Int) ++ data).length) : (dataR ⟨(encB ((data.length : Nat) : Int) ++ data).take j, 0⟩).2.e = 3 := by
  have hw : wid ((data.length : Nat) : Int) ≠ 0 := wid_in (by omega) (by omega)
  rcases Nat.lt_or_ge j (wid ((data.length : Nat) : Int)) with h1 | h1
  · rw [List.take_append_of_le_length (by rw [encB_len]; omega)]
    unfold dataR
    rw [num_cut _ hw j h1]
    simp only
    have e1 : ∀ ok e, needR ⟨(encB ((data.length : Nat) : Int)).take j, 3⟩ ok e = ⟨(encB ((data.length : Nat) : Int)).take j, 3⟩ := fun ok e => need_err _ _ _ three
    simp only [e1]
    rw [if_neg three]
  · rw [List.take_append, encB_len, List.take_of_length_le (by rw [encB_len]; exact h1)]
    simp only [List.length_append, encB_len] at hj
    unfold dataR
    rw [num_enc _ _ hw]
    simp only
    rw [need_ok _ _ _ (decide_eq_true (by omega))]
    simp only [List.length_take]
    have hno : decide (((data.length : Nat) : Int) ≤ ((min (j - wid ((data.length : Nat) : Int)) data.length : Nat) : Int)) = false := decide_eq_false (by omega)
    rw [hno]
    rfl
end Go.Proofs.YtkphmgfjlbdpgaaDoor

namespace Go.Proofs.YtkphmgfjlbdpgaaDoor
open Go Go.RowKit

/-- A unit of the reader: it reads these bytes whole; cut short it ends with error 3; behind an error all stays. -/
structure Cut (T : Rs → Rs) (E : List Nat) : Prop where
  all : ∀ r, T ⟨E ++ r, 0⟩ = ⟨r, 0⟩
  cut : ∀ j, j < E.length → (T ⟨E.take j, 0⟩).e = 3
  err : ∀ s : Rs, s.e ≠ 0 → T s = s

theorem Cut.comp {T T' : Rs → Rs} {E E' : List Nat} (h : Cut T E) (h' : Cut T' E') : Cut (fun s => T' (T s)) (E ++ E') where
  all r := by rw [List.append_assoc, h.all, h'.all]
  cut j hj := by
    rcases Nat.lt_or_ge j E.length with h1 | h1
    · rw [List.take_append_of_le_length (by omega)]
      have := h.cut j h1
      rw [h'.err _ (by rw [this]; decide)]
      exact this
    · rw [List.take_append, List.take_of_length_le h1, h.all]
      exact h'.cut _ (by rw [List.length_append] at hj; omega)
  err s hs := by rw [h.err s hs, h'.err s hs]
theorem Cut.none : Cut (fun s => s) [] := ⟨fun _ => rfl, fun j hj => absurd hj (Nat.not_lt_zero j), fun _ _ => rfl⟩
theorem cut_num (n : Int) (h : wid n ≠ 0) : Cut (fun s => (numR s).2) (encB n) :=
  ⟨fun r => congrArg Prod.snd (num_enc n r h), fun j hj => by rw [num_cut n h j (by rw [← encB_len]; exact hj)], fun s hs => congrArg Prod.snd (num_err s hs)⟩
theorem cut_optN (b : Bool) (v : Int) (h : wid v ≠ 0) : Cut (fun s => (optN b s).2) (eN b v) := by
  cases b
  · exact Cut.none
  · exact cut_num v h
theorem cut_optF (b v : Bool) : Cut (fun s => (optF b s).2) (eN b (bitI v)) := by
  cases b
  · exact Cut.none
  · exact ⟨fun r => congrArg Prod.snd (flag_enc v r), fun j hj => flag_cut v j (by rw [← encB_len]; exact hj), fun s hs => flag_err s hs⟩
theorem cut_optD (b : Bool) (d : List Nat) (hl : d.length ≤ 120) (h0 : b = false → d = []) : Cut (fun s => (optD b s).2) (eN b ((d.length : Nat) : Int) ++ d) := by
  cases b
  · rw [h0 rfl]; exact Cut.none
  · exact ⟨fun r => by rw [List.append_assoc]; exact congrArg Prod.snd (data_enc d hl r), fun j hj => data_cut d hl j hj, fun s hs => data_err s hs⟩

theorem run_cut (lo last : Int) (h0 : 0 ≤ lo) (h1 : lo ≤ last) (h2 : last ≤ 4611686018427387903) (j : Nat) (hj : j < wid (last - lo)) : (runS ⟨(encB (last - lo)).take j, 0⟩ last).2.e = 3 := by
  unfold runS
  rw [need_ok _ _ _ (decide_eq_true (by omega)), num_cut _ (wid_in (by omega) (by omega)) j hj, need_err _ _ _ three]
theorem step_err (x : List Int × Rs) (k : Nat) (h : x.2.e ≠ 0) : (stepS x k).2 = x.2 := by
  unfold stepS
  rw [num_err x.2 h]
  simp only
  rw [need_err x.2 _ _ h]
  exact run_err x.2 _ h
theorem runs_err (x : List Int × Rs) (h : x.2.e ≠ 0) : ∀ k, (runsS x k).2 = x.2
  | 0 => rfl
  | k + 1 => by
    have ih := runs_err x h k
    show (stepS (runsS x k) k).2 = _
    rw [step_err _ _ (by rw [ih]; exact h), ih]

theorem runs_cut {es : List Int} {m : Nat} (hs : SpsOk es m) (j : Nat) (hj : j < (grps es 1 (m - 1)).length) : ∀ q, q + 1 ≤ m → (runsS (es.take 2, (⟨(grps es 1 (m - 1)).take j, 0⟩ : Rs)) q).2.e = 3 ∨ ∃ i, i < (grps es (q + 1) (m - (q + 1))).length ∧ runsS (es.take 2, (⟨(grps es 1 (m - 1)).take j, 0⟩ : Rs)) q = (es.take (2 * (q + 1)), ⟨(grps es (q + 1) (m - (q + 1))).take i, 0⟩)
  | 0, _ => .inr ⟨j, hj, rfl⟩
  | q + 1, hq => by
    rcases runs_cut hs j hj q (by omega) with h | ⟨i, hi, ih⟩
    · refine .inl ?_
      show (stepS (runsS _ q) q).2.e = 3
      rw [step_err _ _ (by rw [h]; decide)]
      exact h
    · show (stepS (runsS _ q) q).2.e = 3 ∨ ∃ i, _ ∧ stepS (runsS _ q) q = _
      rw [ih]
      obtain ⟨h1, h2, h3, h4⟩ := hs.2 (q + 1) (by omega)
      obtain ⟨g1, g2, g3, _⟩ := hs.2 q (by omega)
      have h4' := h4 (by omega)
      rw [show q + 1 - 1 = q by omega] at h4'
      have hl := hs.1
      have hd : m - (q + 1) = (m - (q + 1 + 1)) + 1 := by omega
      have hrg : runG es (q + 1) = es.getD (2 * q) 0 - es.getD (2 * (q + 1) + 1) 0 := by unfold runG; rw [if_neg (by omega), show q + 1 - 1 = q by omega]
      rw [hd] at hi ⊢
      simp only [grps, grp, List.append_assoc] at hi ⊢
      rw [hrg] at hi ⊢
      have hwg : wid (es.getD (2 * q) 0 - es.getD (2 * (q + 1) + 1) 0) ≠ 0 := wid_in (by omega) (by omega)
      have hwl : wid (es.getD (2 * (q + 1) + 1) 0 - es.getD (2 * (q + 1)) 0) ≠ 0 := wid_in (by omega) (by omega)
      have hlast : wrap64 (es.getD (2 * q) 0 - (es.getD (2 * q) 0 - es.getD (2 * (q + 1) + 1) 0)) = es.getD (2 * (q + 1) + 1) 0 := by rw [IntWalk.wrap64_in _ (by omega)]; omega
      rcases Nat.lt_or_ge i (encB (es.getD (2 * q) 0 - es.getD (2 * (q + 1) + 1) 0)).length with hc | hc
      · refine .inl ?_
        rw [List.take_append_of_le_length (by omega)]
        have hn := num_cut _ hwg i (by rw [← encB_len]; exact hc)
        unfold stepS
        simp only [hn]
        rw [need_err _ _ _ three, run_err _ _ three]
      · rw [List.take_append, List.take_of_length_le hc]
        obtain ⟨i2, hi2⟩ : ∃ x, i - (encB (es.getD (2 * q) 0 - es.getD (2 * (q + 1) + 1) 0)).length = x := ⟨_, rfl⟩
        rw [hi2]
        simp only [List.length_append] at hi
        have hi' : i2 < (encB (es.getD (2 * (q + 1) + 1) 0 - es.getD (2 * (q + 1)) 0)).length + (grps es (q + 1 + 1) (m - (q + 1 + 1))).length := by omega
        have hst : ∀ r : List Nat, stepS (es.take (2 * (q + 1)), ⟨encB (es.getD (2 * q) 0 - es.getD (2 * (q + 1) + 1) 0) ++ r, 0⟩) q = (es.take (2 * (q + 1)) ++ [(runS ⟨r, 0⟩ (es.getD (2 * (q + 1) + 1) 0)).1, es.getD (2 * (q + 1) + 1) 0], (runS ⟨r, 0⟩ (es.getD (2 * (q + 1) + 1) 0)).2) := fun r => by
          unfold stepS
          simp only
          rw [num_enc _ _ hwg]
          simp only
          rw [need_ok _ _ _ (decide_eq_true (by omega)), getD_take es (2 * q) _ (by omega), hlast]
        rw [hst]
        rcases Nat.lt_or_ge i2 (encB (es.getD (2 * (q + 1) + 1) 0 - es.getD (2 * (q + 1)) 0)).length with hc2 | hc2
        · refine .inl ?_
          rw [List.take_append_of_le_length (by omega)]
          exact run_cut _ _ h1 h2 h3 i2 (by rw [← encB_len]; exact hc2)
        · refine .inr ⟨i2 - (encB (es.getD (2 * (q + 1) + 1) 0 - es.getD (2 * (q + 1)) 0)).length, by omega, ?_⟩
          rw [List.take_append, List.take_of_length_le hc2, run_enc _ _ _ h1 h2 h3, take_two es (q + 1) (by omega)]

theorem cut_spans {es : List Int} {m : Nat} (hs : SpsOk es m) (h1 : 1 ≤ m) (h8 : m ≤ 8) : Cut (fun s => (spansR s).2) (encB ((m : Nat) : Int) ++ encsB (runN es m)) := by
  refine ⟨fun r => by rw [List.append_assoc]; exact congrArg Prod.snd (spans_enc hs h1 h8 r), fun j hj => ?_, fun s h => spans_err s h⟩
  have hl := hs.1
  have hr := runN_grps es m 0
  rw [Nat.zero_add] at hr
  obtain ⟨d, rfl⟩ : ∃ d, m = d + 1 := ⟨m - 1, by omega⟩
  obtain ⟨g1, g2, g3, _⟩ := hs.2 0 (by omega)
  simp only [Nat.mul_zero, Nat.zero_add] at g1 g2 g3
  have hr' : encsB (runN es (d + 1)) = encB (es.getD 1 0) ++ (encB (es.getD 1 0 - es.getD 0 0) ++ grps es 1 d) := by
    rw [hr]
    show encsB [] ++ (grp es 0 ++ grps es 1 d) = _
    simp [grp, runG, encsB]
  rw [hr'] at hj ⊢
  have hwm : wid ((d + 1 : Nat) : Int) ≠ 0 := wid_in (by omega) (by omega)
  have hw1 : wid (es.getD 1 0) ≠ 0 := wid_in (by omega) (by omega)
  have hw2 : wid (es.getD 1 0 - es.getD 0 0) ≠ 0 := wid_in (by omega) (by omega)
  have hok : okS ((d + 1 : Nat) : Int) = true := by unfold okS; simp only [Bool.and_eq_true, decide_eq_true_eq]; omega
  rcases Nat.lt_or_ge j (encB ((d + 1 : Nat) : Int)).length with hc | hc
  · rw [List.take_append_of_le_length (by omega)]
    unfold spansR
    rw [num_cut _ hwm j (by rw [← encB_len]; exact hc)]
    simp only
    rw [need_err _ _ _ three, if_neg three]
  · rw [List.take_append, List.take_of_length_le hc]
    obtain ⟨i, hi⟩ : ∃ x, j - (encB ((d + 1 : Nat) : Int)).length = x := ⟨_, rfl⟩
    rw [hi]
    simp only [List.length_append] at hj
    have hj2 : i < (encB (es.getD 1 0)).length + ((encB (es.getD 1 0 - es.getD 0 0)).length + (grps es 1 d).length) := by omega
    have hst : ∀ r : List Nat, (spansR ⟨encB ((d + 1 : Nat) : Int) ++ r, 0⟩).2 = (runsS ([(runS (numR ⟨r, 0⟩).2 (numR ⟨r, 0⟩).1).1, (numR ⟨r, 0⟩).1], (runS (numR ⟨r, 0⟩).2 (numR ⟨r, 0⟩).1).2) d).2 := fun r => by
      unfold spansR
      rw [num_enc _ _ hwm]
      simp only
      rw [need_ok _ _ _ hok, if_pos rfl]
      rw [show (((d + 1 : Nat) : Int)).toNat - 1 = d by omega]
    show ((spansR _).2).e = 3
    rw [hst]
    rcases Nat.lt_or_ge i (encB (es.getD 1 0)).length with hc1 | hc1
    · rw [List.take_append_of_le_length (by omega)]
      rw [num_cut _ hw1 i (by rw [← encB_len]; exact hc1)]
      have hre := run_err ⟨(encB (es.getD 1 0)).take i, 3⟩ 0 three
      rw [runs_err _ (by show (runS _ _).2.e ≠ 0; rw [hre]; exact three)]
      show (runS _ _).2.e = 3
      rw [hre]
    · rw [List.take_append, List.take_of_length_le hc1, num_enc _ _ hw1]
      simp only
      obtain ⟨i2, hi2⟩ : ∃ x, i - (encB (es.getD 1 0)).length = x := ⟨_, rfl⟩
      rw [hi2]
      rcases Nat.lt_or_ge i2 (encB (es.getD 1 0 - es.getD 0 0)).length with hc2 | hc2
      · rw [List.take_append_of_le_length (by omega)]
        have hre := run_cut _ _ g1 g2 g3 i2 (by rw [← encB_len]; exact hc2)
        rw [runs_err _ (by show (runS _ _).2.e ≠ 0; rw [hre]; exact three)]
        exact hre
      · rw [List.take_append, List.take_of_length_le hc2, run_enc _ _ _ g1 g2 g3]
        have h2 := take_two es 0 (by omega)
        simp only [Nat.mul_zero, Nat.zero_add, Nat.mul_one, List.take_zero, List.nil_append] at h2
        simp only
        rw [← h2]
        rcases runs_cut hs (i2 - (encB (es.getD 1 0 - es.getD 0 0)).length) (by rw [show d + 1 - 1 = d by omega]; omega) d (by omega) with h | ⟨i3, hi3, _⟩
        · exact h
        · rw [show d + 1 - (d + 1) = 0 by omega] at hi3
          exact absurd hi3 (Nat.not_lt_zero _)
end Go.Proofs.YtkphmgfjlbdpgaaDoor

namespace Go.Proofs.YtkphmgfjlbdpgaaDoor
open Go Go.RowKit

theorem cut_optS {es : List Int} {m : Nat} (hs : SpsOk es m) (h1 : 1 ≤ m) (h8 : m ≤ 8) : Cut (fun s => (optS true s).2) (encB ((m : Nat) : Int) ++ encsB (runN es m)) := cut_spans hs h1 h8

/-- What the reader does behind a frame's kind. -/
def tailR (F : Nat → Bool) (s : Rs) : Rs := (optS (F 6) (optD (F 5) (optF (F 4) (optN (F 3) (optN (F 2) (optN (F 1) (optN (F 0) s).2).2).2).2).2).2).2
theorem tail_err (F : Nat → Bool) (s : Rs) (h : s.e ≠ 0) : tailR F s = s := by
  unfold tailR
  rw [optN_err _ s h, optN_err _ s h, optN_err _ s h, optN_err _ s h, optF_err _ s h, optD_err _ s h, optS_err _ s h]
theorem frameR_err (s : Rs) (h : (tailR (nbit (numR s).1) (numR s).2).e = 3) : (frameR s).2.e = 3 := by
  unfold frameR bodyR
  show (needR (tailR (nbit (numR s).1) (numR s).2) _ 2).e = 3
  rw [need_err _ _ _ (by rw [h]; decide)]
  exact h

theorem tail_cut {f : Fr} (h : OkF f) : ∃ E, encF f = encB f.k ++ E ∧ Cut (tailR (nbit f.k)) E := by
  obtain ⟨f0, f1, f2, f3, f4, f5, f6, f7, f8⟩ := fr_facts h
  obtain ⟨n1, n2, n3, n4⟩ := h.num
  have hdl := h.data.1
  obtain ⟨F, hF⟩ : ∃ F, nbit f.k = F := ⟨_, rfl⟩
  have hF5' : f.k = 2 → F 5 = false := fun h6 => by rw [← hF, h6]; rfl
  rw [hF] at f0 f1 f2 f3 f4 f5 f6 f7
  have hE : encF f = encB f.k ++ (eN (F 0) f.id ++ (eN (F 1) f.a ++ (eN (F 2) f.off ++ (eN (F 3) f.b ++ (eN (F 4) (bitI f.fin) ++ (eN (F 5) ((f.data.length : Nat) : Int) ++ (eN (F 6) ((f.spans.length / 2 : Nat) : Int) ++ (encsB (runN f.spans (f.spans.length / 2)) ++ f.data)))))))) := by
    unfold encF nums
    rw [hF, encsB_app, show encsB (f.k :: selN F (numV f) 7) = encB f.k ++ encsB (selN F (numV f) 7) from rfl]
    have v0 : numV f 0 = f.id := rfl
    have v1 : numV f 1 = f.a := rfl
    have v2 : numV f 2 = f.off := rfl
    have v3 : numV f 3 = f.b := rfl
    have v4 : numV f 4 = bitI f.fin := rfl
    have v5 : numV f 5 = (f.data.length : Int) := rfl
    have v6 : numV f 6 = ((f.spans.length / 2 : Nat) : Int) := rfl
    have s0 : encsB (selN F (numV f) 0) = [] := rfl
    simp only [selN_enc, List.append_assoc, v0, v1, v2, v3, v4, v5, v6, s0, List.nil_append]
  refine ⟨_, hE, ?_⟩
  rw [hF]
  have c0 := cut_optN (F 0) f.id n1
  have c1 := cut_optN (F 1) f.a n3
  have c2 := cut_optN (F 2) f.off n2
  have c3 := cut_optN (F 3) f.b n4
  have c4 := cut_optF (F 4) f.fin
  have key : Cut (fun s => (optS (F 6) (optD (F 5) s).2).2) (eN (F 5) ((f.data.length : Nat) : Int) ++ (eN (F 6) ((f.spans.length / 2 : Nat) : Int) ++ (encsB (runN f.spans (f.spans.length / 2)) ++ f.data))) := by
    by_cases h6 : f.k = 2
    · have hd := f8 h6
      have hF6 : F 6 = true := by
        cases hc : F 6 with
        | true => rfl
        | false => exact absurd h6 (f6 hc)
      rcases h.zsp with ⟨_, m, hm1, hm8, hs⟩ | ⟨hne, _⟩
      · rw [hF5' h6, hF6, hd, sps_half hs]
        have := cut_optS hs hm1 hm8
        simp only [eN, List.nil_append, List.append_nil]
        exact this
      · exact absurd h6 hne
    · have hF6 : F 6 = false := by
        cases hc : F 6 with
        | true => exact absurd (f7 hc) h6
        | false => rfl
      rcases h.zsp with ⟨h2, _⟩ | ⟨_, hs⟩
      · exact absurd h2 h6
      · rw [hF6, hs]
        have e2 : encsB (runN [] (([] : List Int).length / 2)) = [] := rfl
        rw [e2]
        have := cut_optD (F 5) f.data hdl f5
        simp only [eN, List.nil_append]
        unfold eN at this
        exact this
  exact c0.comp (c1.comp (c2.comp (c3.comp (c4.comp key))))

theorem frame_cut {f : Fr} (h : OkF f) (j : Nat) (hj : j < (encF f).length) : (frameR ⟨(encF f).take j, 0⟩).2.e = 3 := by
  obtain ⟨E, hE, hc⟩ := tail_cut h
  have hk := wid_in (n := f.k) (by have := h.k; omega) (by have := h.k; omega)
  rw [hE] at hj ⊢
  refine frameR_err _ ?_
  rcases Nat.lt_or_ge j (encB f.k).length with h1 | h1
  · rw [List.take_append_of_le_length (by omega), num_cut _ hk j (by rw [← encB_len]; exact h1)]
    rw [tail_err _ _ three]
  · rw [List.take_append, List.take_of_length_le h1, num_enc _ _ hk]
    exact hc.cut _ (by rw [List.length_append] at hj; omega)

theorem read_part {f : Fr} (hf : OkF f) (j : Nat) (h0 : 0 < j) (hj : j < (encF f).length) : ∀ (fs : List Fr) (n : Nat), (∀ g ∈ fs, OkF g) → (layF fs).length + j ≤ n → (readN n ⟨layF fs ++ (encF f).take j, 0⟩).2.e = 3
  | [], n, _, hn => by
    obtain ⟨n, rfl⟩ : ∃ m, n = m + 1 := ⟨n - 1, by omega⟩
    have hc := frame_cut hf j hj
    show (readN (n + 1) ⟨(encF f).take j, 0⟩).2.e = 3
    unfold readN
    rw [if_neg (by simp only [List.length_take]; omega), if_neg (by rw [hc]; decide)]
    exact hc
  | g :: fs, n, h, hn => by
    have hg := h g (by simp)
    have hp := encF_pos hg
    have e : layF (g :: fs) = encF g ++ layF fs := rfl
    rw [e, List.length_append] at hn
    obtain ⟨n, rfl⟩ : ∃ m, n = m + 1 := ⟨n - 1, by omega⟩
    have ih := read_part hf j h0 hj fs n (fun x hx => h x (by simp [hx])) (by omega)
    rw [e, List.append_assoc]
    unfold readN
    rw [if_neg (by simp only [List.length_append]; omega), frame_enc hg]
    simp only [if_true]
    exact ih
end Go.Proofs.YtkphmgfjlbdpgaaDoor
