/- SpansIsSet: an array of truth values in a block of its own; plain facts. Conditions: as each theorem lists them. -/
import Derived.Test.YtegfaecbealnhabO2
namespace Go.Proofs.Ytegfaecbealnhab.IsSet
open Go Go.RowKit

/-- Truth values in a block. -/
def ArrB (w : World) (p : Nat) (bs : List Bool) : Prop := bs.length = 70 ∧ w.heap[p]? = some (.cells (bs.map Value.bool).toArray 48 (0, 0))
theorem ArrB.lt {w : World} {p : Nat} {bs : List Bool} (h : ArrB w p bs) : p < w.heap.size := lt_of_block h.2
theorem ArrB.cell {w : World} {p : Nat} {bs : List Bool} (h : ArrB w p bs) (i : Nat) (hi : i < 70) : w.cell? ⟨p, i, none⟩ = some (.bool (bs.getD i false)) := by
  rw [Am.cell_of w p i _ _ (0, 0) h.2]
  have : i < bs.length := by rw [h.1]; exact hi
  simp [List.getD, this]
theorem ArrB.free {w : World} {p : Nat} {bs : List Bool} (h : ArrB w p bs) (i : Nat) : w.frozen? ⟨p, i, none⟩ = false := frozen_of_row w p i _ _ h.2
theorem ArrB.put {w : World} {p : Nat} {bs : List Bool} (h : ArrB w p bs) (i : Nat) (b : Bool) : ArrB (w.setCell ⟨p, i, none⟩ (.bool b)) p (bs.set i b) := by
  refine ⟨by rw [List.length_set]; exact h.1, ?_⟩
  rw [heap_setCell_same w p i _ _ _ h.2]
  simp [List.map_set]
theorem ArrB.below {w w' : World} {p B : Nat} {bs : List Bool} (h : ArrB w p bs) (hp : p < B) (hb : Below B w w') : ArrB w' p bs := ⟨h.1, (hb.block p hp).trans h.2⟩
theorem ArrB.but {w w' : World} {p q : Nat} {bs : List Bool} (h : ArrB w p bs) (hg : w.grownBy w' (some q)) (hpq : p ≠ q) : ArrB w' p bs := ⟨h.1, (hg.block p h.lt (by simp; omega)).trans h.2⟩
theorem ArrB.grown {w : World} {p : Nat} (i : Nat) (b : Bool) : w.grownBy (w.setCell ⟨p, i, none⟩ (.bool b)) (some p) :=
  ⟨rfl, rfl, rfl, by simp [World.setCell], fun k _ hne => Below.heap_setCell _ _ _ _ (fun e => hne (by simp [e]))⟩
theorem arr_new (w : World) : ArrB (w.alloc (.cells Try.zeroCells48 48)) w.heap.size (List.replicate 70 false) := by
  refine ⟨rfl, ?_⟩
  have e : Try.zeroCells48 = ((List.replicate 70 false).map Value.bool).toArray := by kernel_rfl
  rw [e]
  exact heap_alloc_new w _

/-- Numbers that are read stay when truth values are written. -/
theorem rd_arr {w w' : World} {B n q : Nat} {A : Option Addr} {l : List Int} {bs : List Bool} (h : Rd w B A n (ints l)) (hg : w.grownBy w' (some q)) (hq : ArrB w q bs) : Rd w' B A n (ints l) := by
  refine ⟨h.1, fun hn => ?_⟩
  obtain ⟨b, off, e, hlt, hc⟩ := h.2 hn
  refine ⟨b, off, e, hlt, fun j u hu => ?_⟩
  have h1 := hc j u hu
  have hne : b ≠ q := fun e => by
    subst e
    rw [Am.cell_of w b (off + j) _ _ (0, 0) hq.2] at h1
    rw [ints, List.getElem?_map] at hu
    cases hh : l[j]? <;> rw [hh] at hu <;> simp at hu
    subst hu
    simp only [List.getElem?_toArray, List.getElem?_map, Option.map_eq_some_iff] at h1
    obtain ⟨x, _, hx⟩ := h1
    cases hx
  exact hg.cell h1 (by simp; omega)
theorem set_arr {w w' : World} {p q : Nat} {es : List Int} {bs : List Bool} (h : SetIn w p es) (hg : w.grownBy w' (some q)) (hq : ArrB w q bs) (hpq : p ≠ q) : SetIn w' p es := by
  have hlt := h.lt
  obtain ⟨h1, A, c, h2, h3, h4, h5⟩ := h
  exact ⟨h1, A, c, (hg.block p hlt (by simp; omega)).trans h2, h3, h4, (rd_arr h5 hg hq).more hg.size⟩

/-- The truth values are the set's. -/
def Says (es : List Int) (bs : List Bool) : Prop := ∀ i : Nat, i < 70 → bs.getD i false = mem es (i : Int)
/-- .. up to k the new ones. -/
def SaysTo (es es' : List Int) (a k : Int) (bs : List Bool) : Prop := ∀ i : Nat, i < 70 → bs.getD i false = if a ≤ (i : Int) ∧ (i : Int) < k then mem es' (i : Int) else mem es (i : Int)
theorem says_new : Says [] (List.replicate 70 false) := fun i hi => by
  have : mem [] (i : Int) = false := rfl
  rw [this, List.getD_eq_getElem?_getD, List.getElem?_replicate, if_pos hi]; rfl
theorem SaysTo.start {es es' : List Int} {bs : List Bool} (h : Says es bs) (a : Int) : SaysTo es es' a a bs := fun i hi => by
  rw [if_neg (by omega)]; exact h i hi
theorem SaysTo.step {es es' : List Int} {bs : List Bool} {a : Int} {k : Nat} (hl : bs.length = 70) (h : SaysTo es es' a (k : Int) bs) (b : Bool) (hk : a ≤ (k : Int)) (hb : mem es' (k : Int) = b) : SaysTo es es' a ((k : Int) + 1) (bs.set k b) := fun i hi => by
  by_cases e : i = k
  · subst e
    rw [if_pos (by omega), hb]
    simp [List.getD, hl, hi]
  · have := h i hi
    rw [show (bs.set k b).getD i false = bs.getD i false by simp [List.getD, Ne.symm e], this]
    by_cases h1 : a ≤ (i : Int) ∧ (i : Int) < (k : Int)
    · rw [if_pos h1, if_pos (by omega)]
    · rw [if_neg h1, if_neg (by omega)]
theorem SaysTo.done {es es' : List Int} {bs : List Bool} {a k b : Int} (h : SaysTo es es' a k bs) (hk : b ≤ k) (ho : ∀ n, ¬ (a ≤ n ∧ n < b) → mem es' n = mem es n) : Says es' bs := fun i hi => by
  rw [h i hi]
  split
  · rfl
  · rename_i hn
    exact (ho _ (by rcases Int.lt_or_le b a with h1 | h1 <;> omega)).symm

/-- How many there are from a to b. -/
def cntB (bs : List Bool) (a : Nat) : Nat → Nat
  | 0 => 0
  | k + 1 => cntB bs a k + if bs.getD (a + k) false = true then 1 else 0
theorem cntB_le (bs : List Bool) (a k : Nat) : cntB bs a k ≤ k := by
  induction k with
  | zero => exact Nat.le_refl _
  | succ k ih => unfold cntB; split <;> omega

theorem card_one (N x : Nat) (hx : x < N) (b : Bool) : card N (fun n => (decide ((x : Int) ≤ n) && decide (n < (x : Int) + 1)) && b) = if b = true then 1 else 0 := by
  cases b
  · rw [card_congr N _ (fun _ => false) (fun i _ _ => by simp), card_none]; rfl
  · have h := card_run N (x : Int) ((x : Int) + 1) (by omega) (by omega) (by omega)
    rw [card_congr N _ (fun n => decide ((x : Int) ≤ n) && decide (n < (x : Int) + 1)) (fun i _ _ => by simp), if_pos rfl]
    omega
theorem cntB_card {es : List Int} {bs : List Bool} (h : Says es bs) (a : Nat) : ∀ k : Nat, a + k ≤ 70 → cntB bs a k = card 70 (fun n => (decide ((a : Int) ≤ n) && decide (n < ((a + k : Nat) : Int))) && mem es n)
  | 0, _ => by
    rw [card_congr 70 _ (fun _ => false) (fun i _ _ => by simp; intro h1 h2; omega), card_none]; rfl
  | k + 1, hk => by
    have ih := cntB_card h a k (by omega)
    have e : card 70 (fun n => (decide ((a : Int) ≤ n) && decide (n < ((a + (k + 1) : Nat) : Int))) && mem es n) = card 70 (fun n => ((decide ((a : Int) ≤ n) && decide (n < ((a + k : Nat) : Int))) && mem es n) || ((decide (((a + k : Nat) : Int) ≤ n) && decide (n < ((a + k : Nat) : Int) + 1)) && mem es ((a + k : Nat) : Int))) := by
      refine card_congr 70 _ _ fun i _ _ => ?_
      by_cases e1 : i = ((a + k : Nat) : Int)
      · subst e1
        have h1 : ((a : Int) ≤ ((a + k : Nat) : Int)) := by omega
        have h2 : (((a + k : Nat) : Int) < ((a + (k + 1) : Nat) : Int)) := by omega
        have h3 : ¬ (((a + k : Nat) : Int) < ((a + k : Nat) : Int)) := by omega
        have h4 : ((a + k : Nat) : Int) ≤ ((a + k : Nat) : Int) := by omega
        have h5 : ((a + k : Nat) : Int) < ((a + k : Nat) : Int) + 1 := by omega
        simp only [decide_eq_true h1, decide_eq_true h2, decide_eq_true h4, decide_eq_true h5, decide_eq_false h3, Bool.true_and, Bool.and_false, Bool.false_and, Bool.false_or]
      · have h1 : (decide (i < ((a + (k + 1) : Nat) : Int))) = decide (i < ((a + k : Nat) : Int)) := by
          rw [decide_eq_decide]; omega
        have h2 : (decide (((a + k : Nat) : Int) ≤ i) && decide (i < ((a + k : Nat) : Int) + 1)) = false := by
          rw [Bool.and_eq_false_iff]; simp only [decide_eq_false_iff_not]; omega
        rw [h1, h2]; simp
    rw [e, card_or, ← ih, card_one 70 (a + k) (by omega)]
    · show cntB bs a k + (if bs.getD (a + k) false = true then 1 else 0) = _
      rw [h (a + k) (by omega)]
    · intro i hi
      simp only [Bool.and_eq_true, decide_eq_true_eq] at hi
      rw [Bool.and_eq_false_iff]; left
      rw [Bool.and_eq_false_iff]; left
      simp only [decide_eq_false_iff_not]
      omega

/-- The last test's numbers. -/
theorem last_sum {es et : List Int} {bs : List Bool} (h : Says es bs) (hs : Sm 70 es) (ht : Sm 70 et) (a b : Nat) (hab : a ≤ b) (hb : b ≤ 70) (hm : ∀ n, mem et n = (mem es n || decide ((a : Int) ≤ n ∧ n < (b : Int)))) : cnt et - cnt es + (cntB bs a (b - a) : Int) = (b : Int) - (a : Int) := by
  rw [cnt_card 70 es hs.1.1 hs.1.2.1 (fun e he => ⟨(hs.1.2.2 e he).1, hs.2 e he⟩), cnt_card 70 et ht.1.1 ht.1.2.1 (fun e he => ⟨(ht.1.2.2 e he).1, ht.2 e he⟩), cntB_card h a (b - a) (by omega), show a + (b - a) = b by omega]
  have e1 : card 70 (mem et) = card 70 (mem es) + card 70 (fun n => (decide ((a : Int) ≤ n) && decide (n < (b : Int))) && !mem es n) := by
    rw [← card_or 70 (mem es) _ (fun i hi => by rw [hi]; simp)]
    refine card_congr 70 _ _ fun i _ _ => ?_
    rw [hm i]
    cases mem es i <;> simp
  have e2 : card 70 (fun n => decide ((a : Int) ≤ n) && decide (n < (b : Int))) = card 70 (fun n => (decide ((a : Int) ≤ n) && decide (n < (b : Int))) && !mem es n) + card 70 (fun n => (decide ((a : Int) ≤ n) && decide (n < (b : Int))) && mem es n) := by
    rw [← card_or 70 _ _ (fun i hi => by simp at hi; simp [hi])]
    refine card_congr 70 _ _ fun i _ _ => ?_
    cases mem es i <;> simp
  have e3 := card_run 70 (a : Int) (b : Int) (by omega) (by omega) (by omega)
  omega
end Go.Proofs.Ytegfaecbealnhab.IsSet
