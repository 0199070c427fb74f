/- What an acknowledgement takes away, plainly; the row of sets that Ack makes. Conditions: as each theorem lists them. -/
import Derived.Test.YtebfjphmlggacaaJLh
import Derived.Test.YtebfjphmlggacaaJSf
set_option linter.unusedSimpArgs false
set_option linter.unusedVariables false

namespace Go.Proofs.Ytebfjphmlggacaa.Ld
open Go Go.RowKit Go.Proofs.Ytebfjphmlggacaa Go.Proofs.Ytebfjphmlggacaa.Sp

/-- A run that has numbers. -/
def hasN (r : Int × Int) : Bool := decide (0 ≤ r.1) && decide (r.1 ≤ r.2)
def inB (n : Int) (r : Int × Int) : Bool := decide (0 ≤ r.1) && decide (r.1 ≤ n) && decide (n ≤ r.2)
def ranB (rs : List (Int × Int)) (n : Int) : Bool := rs.any (inB n)
def behF (b : Nat) (rs : List (Int × Int)) : Nat := rs.foldl (fun b r => if hasN r = true then max b (r.2.toNat + 1) else b) b
theorem behF_snoc (b : Nat) (rs : List (Int × Int)) (r : Int × Int) : behF b (rs ++ [r]) = if hasN r = true then max (behF b rs) (r.2.toNat + 1) else behF b rs := by simp [behF]
theorem behF_le (b N : Nat) (rs : List (Int × Int)) (hb : b ≤ N) (h : ∀ r ∈ rs, r.2 < (N : Int)) : behF b rs ≤ N := by
  induction rs generalizing b with
  | nil => exact hb
  | cons r t ih =>
    refine ih _ ?_ (fun x hx => h x (List.mem_cons_of_mem _ hx))
    show (if hasN r = true then max b (r.2.toNat + 1) else b) ≤ N
    split
    · have := h r (by simp)
      rename_i hh
      simp only [hasN, Bool.and_eq_true, decide_eq_true_eq] at hh
      omega
    · exact hb

def runE (r : Int × Int) : List Int := if hasN r = true then turn [] r.1 (r.2 + 1) true else []
theorem turn_nil (f t : Int) : turn [] f t true = if clamp t ≤ clamp f then [] else [clamp f, clamp t] := by
  unfold turn
  split
  · rfl
  · simp [turnF, lo, up, oddB]
theorem runE_len (r : Int × Int) : (runE r).length ≤ 2 := by
  unfold runE
  split
  · rw [turn_nil]; split <;> simp
  · simp
theorem runE_ok (r : Int × Int) : Ok (runE r) := by
  unfold runE
  split
  · exact ok_turn _ _ _ _ ok_nil
  · exact ok_nil
theorem runE_mem (r : Int × Int) (hr : r.2 ≤ 4611686018427387903) (n : Int) : mem (runE r) n = inB n r := by
  unfold runE
  by_cases h : hasN r = true
  · rw [if_pos h, mem_turn _ _ _ _ ok_nil]
    simp only [hasN, Bool.and_eq_true, decide_eq_true_eq] at h
    have e1 : clamp r.1 = r.1 := by unfold clamp; omega
    have e2 : clamp (r.2 + 1) = r.2 + 1 := by unfold clamp; omega
    rw [e1, e2]
    by_cases hn : r.1 ≤ n ∧ n < r.2 + 1
    · rw [if_pos hn]
      simp only [inB, Bool.and_eq_true, decide_eq_true_eq, eq_comm]
      simp; omega
    · rw [if_neg hn]
      have e0 : mem [] n = false := rfl
      rw [e0, eq_comm]
      simp [inB]; omega
  · rw [if_neg h]
    have e0 : mem [] n = false := rfl
    rw [e0, eq_comm]
    simp only [hasN, Bool.and_eq_true, decide_eq_true_eq] at h
    simp [inB]; omega

/-- The row of sets, as far as they were filled. -/
structure RunsIn (w : World) (lw q m j : Nat) (cur : Array Value) (rs : List (Int × Int)) : Prop where
  hlw : lw ≤ q
  new : ∀ (i : Nat) (A : Option Addr) (n c : Nat), cur[i]? = some (Value.slice A n c) → ∀ a : Addr, A = some a → lw ≤ a.block
  size : cur.size = m
  blk : w.heap[q]? = some (.cells cur 87 (0, 0))
  sets : ∀ i, i < m → SetIn w q i 87 cur (if i < j then runE (rs.getD i (0, 0)) else [])
theorem RunsIn.keep {w w' : World} {lw q m j : Nat} {cur : Array Value} {rs : List (Int × Int)} (h : RunsIn w lw q m j cur rs) (hb : Below w.heap.size w w') : RunsIn w' lw q m j cur rs :=
  ⟨h.hlw, h.new, h.size, (hb.block q (lt_of_block h.blk)).trans h.blk, fun i hi => (h.sets i hi).below hb⟩
theorem RunsIn.zero {w : World} {lw q m : Nat} {cur : Array Value} {rs : List (Int × Int)} (hl : lw ≤ q) (hs : cur.size = m) (hb : w.heap[q]? = some (.cells cur 87 (0, 0))) (hc : ∀ i, i < m → cur[i]? = some (.slice none 0 0)) : RunsIn w lw q m 0 cur rs :=
  ⟨hl, (fun i A n c e a ea => by
    rcases Nat.lt_or_ge i m with h | h
    · rw [hc i h] at e; simp at e; rw [← e.1] at ea; simp at ea
    · rw [Array.getElem?_eq_none (by omega)] at e; simp at e), hs, hb, fun i hi => by
    rw [if_neg (by omega)]
    exact ⟨ok_nil, hb, none, 0, hc i hi, Nat.le_refl _, fun _ => .inl ⟨rfl, rfl⟩, Rd.nil _ _ _, fun a h => by cases h⟩⟩
theorem RunsIn.skip {w : World} {lw q m j : Nat} {cur : Array Value} {rs : List (Int × Int)} (h : RunsIn w lw q m j cur rs) (hr : hasN (rs.getD j (0, 0)) = false) : RunsIn w lw q m (j + 1) cur rs :=
  ⟨h.hlw, h.new, h.size, h.blk, fun i hi => by
    have := h.sets i hi
    by_cases h1 : i < j
    · rw [if_pos h1] at this; rw [if_pos (by omega)]; exact this
    · rw [if_neg h1] at this
      by_cases h2 : i = j
      · subst h2
        rw [if_pos (by omega), runE, hr]
        simpa using this
      · rw [if_neg (by omega)]; exact this⟩
theorem RunsIn.add {w w' : World} {lw q m j : Nat} {cur : Array Value} {rs : List (Int × Int)} (h : RunsIn w lw q m j cur rs) (hj : j < m) (v : Value) (hv : NewV w v) (hlw' : lw ≤ w.heap.size) (hs : SetIn w' q j 87 (cur.setIfInBounds j v) (runE (rs.getD j (0, 0)))) (hg : w.grownBy w' (some q)) : RunsIn w' lw q m (j + 1) (cur.setIfInBounds j v) rs :=
  ⟨h.hlw, (fun i A n c e a ea => by
    by_cases hij : j = i
    · subst hij
      rw [slot_set (v := cur[j]'(by rw [h.size]; exact hj)) (Array.getElem?_eq_getElem (by rw [h.size]; exact hj))] at e
      exact Nat.le_trans hlw' (hv A n c (by simpa using e) a ea)
    · rw [slot_other hij] at e
      exact h.new i A n c e a ea), by rw [Array.size_setIfInBounds]; exact h.size, hs.2.1, fun i hi => by
    by_cases h2 : i = j
    · subst h2
      rw [if_pos (by omega)]; exact hs
    · obtain ⟨h3, h4, A, c, h5, h6, h7, h8, h9⟩ := h.sets i hi
      have e : (if i < j + 1 then runE (rs.getD i (0, 0)) else []) = if i < j then runE (rs.getD i (0, 0)) else [] := by
        by_cases h1 : i < j
        · rw [if_pos h1, if_pos (by omega)]
        · rw [if_neg h1, if_neg (by omega)]
      rw [e]
      exact ⟨h3, hs.2.1, A, c, (slot_other (by omega)).trans h5, h6, h7, (rd_but h8 (Nat.le_refl _) hg h9).more hg.size, h9⟩⟩

theorem RunsIn.below {w w' : World} {lw q m j : Nat} {cur : Array Value} {rs : List (Int × Int)} {p : Nat} (h : RunsIn w lw q m j cur rs) (hg : w.grownBy w' (some p)) (hp : p < lw) : RunsIn w' lw q m j cur rs :=
  ⟨h.hlw, h.new, h.size, (hg.block q (lt_of_block h.blk) (by have := h.hlw; simp; omega)).trans h.blk, fun i hi => by
    refine (h.sets i hi).but hg (by have := h.hlw; omega) fun A n c e a ea => ?_
    have := h.new i A n c e a ea
    omega⟩

/-- The row as Union takes it. -/
theorem RunsIn.out {w : World} {lw q m : Nat} {cur : Array Value} {rs : List (Int × Int)} (h : RunsIn w lw q m m cur rs) (hm : m = rs.length) : ∃ ss : List (List Int × Option Addr × Nat), ss.length = m ∧ Rd w w.heap.size (some ⟨q, 0, none⟩) m (setVals ss) ∧ SetsOk w w.heap.size ss ∧ (allRuns ss).length ≤ m ∧ ∀ n, (ss.any fun s => mem s.1 n) = rs.any fun r => mem (runE r) n := by
  have key : ∀ k, k ≤ m → ∃ ss : List (List Int × Option Addr × Nat), ss.length = k ∧ setVals ss = cur.toList.take k ∧ SetsOk w w.heap.size ss ∧ (allRuns ss).length ≤ k ∧ ∀ n, (ss.any fun s => mem s.1 n) = (rs.take k).any fun r => mem (runE r) n := by
    intro k
    induction k with
    | zero => exact fun _ => ⟨[], rfl, rfl, (fun s hs => by cases hs), by simp [allRuns], fun n => rfl⟩
    | succ k ih =>
      intro hk
      obtain ⟨ss, h1, h2, h3, h4, h5⟩ := ih (by omega)
      obtain ⟨g1, _, A, c, g3, g4, _, g6, _⟩ := h.sets k (by omega)
      rw [if_pos (by omega)] at g1 g3 g4 g6
      have hl := runE_len (rs.getD k (0, 0))
      have hrk : rs[k]? = some (rs.getD k (0, 0)) := by simp [List.getD, List.getElem?_eq_getElem (show k < rs.length by omega)]
      refine ⟨ss ++ [(runE (rs.getD k (0, 0)), A, c)], by simp [h1], ?_, fun s hs => ?_, ?_, fun n => ?_⟩
      · rw [take_snoc (by rw [Array.getElem?_toList]; exact g3), ← h2]
        simp [setVals]
      · rcases List.mem_append.1 hs with hs | hs
        · exact h3 s hs
        · simp only [List.mem_cons, List.not_mem_nil, or_false] at hs
          subst hs
          exact ⟨g1, g4, by show (runE (rs.getD k (0, 0))).length * 8 ≤ _; omega, g6⟩
      · rw [allRuns_snoc, List.length_append, prs_len _ g1.2.1]
        show _ + (runE (rs.getD k (0, 0))).length / 2 ≤ _
        omega
      · rw [List.any_append, h5, take_snoc hrk, List.any_append]
        simp
  obtain ⟨ss, h1, h2, h3, h4, h5⟩ := key m (Nat.le_refl _)
  have e : cur.toList.take m = cur.toList := List.take_of_length_le (by rw [Array.length_toList, h.size]; exact Nat.le_refl _)
  rw [e] at h2
  refine ⟨ss, h1, ?_, h3, h4, fun n => ?_⟩
  · rw [h2]
    have := rd_block w q cur _ w.heap.size h.blk (Nat.le_refl _)
    rwa [h.size] at this
  · rw [h5, hm, List.take_length]

/-- Rising numbers: what is in the first runs comes ahead of what is in the next one. -/
theorem filter_or {P Q : Pk → Bool} : ∀ (l : List Pk), l.Pairwise (fun a b => a.num < b.num) → (∀ a b, P a = true → Q b = true → a.num < b.num) → l.filter (fun k => P k || Q k) = l.filter P ++ l.filter Q
  | [], _, _ => rfl
  | x :: r, h, hpq => by
    obtain ⟨h1, h2⟩ := List.pairwise_cons.1 h
    have ih := filter_or r h2 hpq
    by_cases hP : P x = true
    · by_cases hQ : Q x = true
      · have := hpq x x hP hQ; omega
      · simp only [Bool.not_eq_true] at hQ
        simp [hP, hQ, ih]
    · simp only [Bool.not_eq_true] at hP
      by_cases hQ : Q x = true
      · have hn : r.filter P = [] := by
          rw [List.filter_eq_nil_iff]
          intro y hy hPy
          have := hpq y x hPy hQ
          have := h1 y hy
          omega
        simp [hP, hQ, ih, hn]
      · simp only [Bool.not_eq_true] at hQ
        simp [hP, hQ, ih]
def inE (es : List Int) (j : Nat) (k : Pk) : Bool := mem (es.take (2 * j)) (k.num : Int)
theorem inE_lt {es : List Int} (h : Ok es) (j : Nat) (hj : 2 * j + 1 < es.length) (n : Int) (hn : es.getD (2 * j) 0 ≤ n) : mem (es.take (2 * j)) n = false := by
  have hx : ∀ x ∈ es.take (2 * j), x ≤ n := fun x hx => by
    obtain ⟨i, hi, e⟩ := List.getElem_of_mem hx
    rw [List.getElem_take] at e
    simp only [List.length_take] at hi
    have := (List.pairwise_iff_getElem.1 h.1) i (2 * j) (by omega) (by omega) (by omega)
    have hg : es.getD (2 * j) 0 = es[2 * j]'(by omega) := by simp [List.getD, List.getElem?_eq_getElem (show 2 * j < es.length by omega)]
    rw [hg] at hn
    omega
  unfold mem
  rw [up_all _ _ hx, List.length_take]
  unfold oddB
  simp; omega
theorem step_led {es : List Int} (h : Ok es) (j : Nat) (hj : 2 * j + 1 < es.length) (ks : List Pk) (hk : ks.Pairwise (fun a b => a.num < b.num)) (a : Nat) (b : Int) (ha : es.getD (2 * j) 0 = (a : Int)) (hb : es.getD (2 * j + 1) 0 = b) :
    (ks.filter fun k => !inE es j k).filter (selB a b fun _ => true) = ks.filter (fun k => inRun (k.num : Int) ((a : Int), b)) ∧
    ((ks.filter fun k => !inE es j k).filter fun k => !selB a b (fun _ => true) k) = ks.filter (fun k => !inE es (j + 1) k) ∧
    ks.filter (inE es j) ++ ks.filter (fun k => inRun (k.num : Int) ((a : Int), b)) = ks.filter (inE es (j + 1)) := by
  have hs : ∀ k : Pk, selB a b (fun _ => true) k = inRun (k.num : Int) ((a : Int), b) := fun k => by
    unfold selB inRun
    rw [Bool.and_true]
    congr 1
    rw [decide_eq_decide]
    omega
  have ht : ∀ k : Pk, inE es (j + 1) k = (inE es j k || inRun (k.num : Int) ((a : Int), b)) := fun k => by
    unfold inE
    rw [Ref.take_mem h j hj, ha, hb]
  have hd : ∀ k : Pk, inRun (k.num : Int) ((a : Int), b) = true → inE es j k = false := fun k hk => by
    unfold inRun at hk
    simp only [Bool.and_eq_true, decide_eq_true_eq] at hk
    exact inE_lt h j hj _ (by rw [ha]; exact hk.1)
  refine ⟨?_, ?_, ?_⟩
  · rw [List.filter_filter]
    refine List.filter_congr fun k _ => ?_
    rw [hs]
    cases he : inRun (k.num : Int) ((a : Int), b) with
    | false => rfl
    | true => rw [hd k he]; rfl
  · rw [List.filter_filter]
    refine List.filter_congr fun k _ => ?_
    rw [hs, ht, Bool.not_or, Bool.and_comm]
  · rw [show inE es (j + 1) = fun k => inE es j k || inRun (k.num : Int) ((a : Int), b) from funext ht]
    refine (filter_or ks hk fun x y hx hy => ?_).symm
    unfold inRun at hy
    simp only [Bool.and_eq_true, decide_eq_true_eq] at hy
    rcases Nat.lt_or_ge x.num y.num with h1 | h1
    · exact h1
    · have := inE_lt h j hj (x.num : Int) (by rw [ha]; omega)
      unfold inE at hx
      rw [this] at hx
      cases hx
theorem inE_zero (es : List Int) (ks : List Pk) : ks.filter (inE es 0) = [] ∧ (ks.filter fun k => !inE es 0 k) = ks := by
  have e : ∀ k, inE es 0 k = false := fun k => by unfold inE; rfl
  constructor
  · rw [List.filter_eq_nil_iff]; intro k _; rw [e]; simp
  · rw [List.filter_eq_self]; intro k _; rw [e]; rfl
/-- Rows of the call's own outlive what the ledger's calls do. -/
theorem own_moved {w w' : World} {lo p base e size n : Nat} {v : Value} {xs : List Value} (h : w.ownsRow base e size v n xs) (hm : Moved lo p w w') (hp : p < base) (he : e ≠ 82) : w'.ownsRow base e size v n xs := by
  refine ⟨h.1, ?_⟩
  rcases h.2 with h2 | ⟨g, cap, cur, hv, hb, hh, rest⟩
  · exact .inl h2
  · exact .inr ⟨g, cap, cur, hv, hb, (hm.kept g (lt_of_block hh) (fun e' => by omega) (fun row e' => by
      rw [hh] at e'
      simp only [Option.some.injEq, Obj.cells.injEq, and_true] at e'
      exact he e'.2)).trans hh, rest⟩
end Go.Proofs.Ytebfjphmlggacaa.Ld
