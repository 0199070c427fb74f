/- A region's lexical order held against a table of its operations: what each waits for, what it reads, what it writes. Conditions: as each theorem lists them. -/
import Derived.Deep.Quiet
import Derived.KernelRfl
import Derived.Test.YtebfjphmlggacaaGreatProg
set_option linter.unusedSimpArgs false
set_option linter.unusedVariables false

namespace Go.Proofs.YtebfjphmlggacaaGreat.Lx
open Go

/-- What an operation waits for, reads, writes. -/
structure Rw3 where
  aft : List Nat
  looks : List Nat
  dst : Option Nat
  sel : Bool
def rowOf (md : Region.Mode) (ops : Array Oper) (o : Oper) : Rw3 :=
  ⟨(o.after.toList.filter fun e => Region.binds md e).map (·.on), o.looksAt ops, o.dst, match o.op with | .select .. => true | _ => false⟩
def apartR (x y : Rw3) : Bool :=
  (match x.dst with | some d => !y.looks.contains d && y.dst != some d | none => true) && (match y.dst with | some d => !x.looks.contains d | none => true)
def allOk : Nat → List Rw3 → Bool
  | _, [] => true
  | i, x :: r => x.aft.all (fun j => Nat.blt j i) && !x.sel && r.all (fun y => y.aft.contains i || apartR x y) && allOk (i + 1) r
theorem allOk_get : ∀ (l : List Rw3) (i : Nat), allOk i l = true → ∀ (k : Nat) (x : Rw3), l[k]? = some x → (∀ j ∈ x.aft, j < i + k) ∧ x.sel = false ∧ ∀ (m : Nat) (y : Rw3), k < m → l[m]? = some y → y.aft.contains (i + k) = true ∨ apartR x y = true
  | [], _, _, k, x, hx => by simp at hx
  | z :: r, i, h, k, x, hx => by
    simp only [allOk, Bool.and_eq_true, List.all_eq_true, Bool.not_eq_true'] at h
    obtain ⟨⟨⟨h1, h2⟩, h3⟩, h4⟩ := h
    cases k with
    | zero =>
      simp only [List.getElem?_cons_zero, Option.some.injEq] at hx
      subst hx
      refine ⟨fun j hj => by simpa using h1 j hj, h2, fun m y hm hy => ?_⟩
      obtain ⟨m', rfl⟩ : ∃ m', m = m' + 1 := ⟨m - 1, by omega⟩
      have := h3 y (List.mem_of_getElem? (by simpa using hy))
      simpa using this
    | succ k =>
      have ih := allOk_get r (i + 1) h4 k x (by simpa using hx)
      refine ⟨fun j hj => by have := ih.1 j hj; omega, ih.2.1, fun m y hm hy => ?_⟩
      obtain ⟨m', rfl⟩ : ∃ m', m = m' + 1 := ⟨m - 1, by omega⟩
      have := ih.2.2 m' y (by omega) (by simpa using hy)
      rwa [show i + (k + 1) = i + 1 + k by omega]
theorem apartR_of (md : Region.Mode) (ops : Array Oper) (x y : Oper) : apartR (rowOf md ops x) (rowOf md ops y) = x.apart ops y := rfl
/-- Those ahead of k are listed. -/
def upto (n k : Nat) : Array Bool := (List.replicate k true ++ List.replicate (n - k) false).toArray
theorem upto_get (n k j : Nat) (d : Bool) (hk : k ≤ n) (hj : j < n) : (upto n k).getD j d = decide (j < k) := by
  unfold upto
  simp only [Array.getD_eq_getD_getElem?, List.getElem?_toArray]
  by_cases h : j < k
  · rw [List.getElem?_append_left (by rw [List.length_replicate]; exact h), List.getElem?_replicate, if_pos h]
    simp [h]
  · rw [List.getElem?_append_right (by rw [List.length_replicate]; omega), List.length_replicate, List.getElem?_replicate, if_pos (by omega)]
    simp [h]
theorem upto_set (n k : Nat) (hk : k < n) : (upto n k).setIfInBounds k true = upto n (k + 1) := by
  unfold upto
  rw [← Array.toList_inj]
  simp only [Array.toList_setIfInBounds]
  rw [List.set_append_right _ _ (by rw [List.length_replicate]; exact Nat.le_refl _), List.length_replicate, Nat.sub_self]
  obtain ⟨m, hm⟩ : ∃ m, n - k = m + 1 := ⟨n - k - 1, by omega⟩
  rw [hm, show n - (k + 1) = m by omega, List.replicate_succ' (n := k), List.append_assoc]
  rfl
theorem lex_from (md : Region.Mode) (ops : Array Oper) (h : allOk 0 (ops.toList.map (rowOf md ops)) = true) : ∀ (f k : Nat), f + k = ops.size → Region.lexFrom md ops f k (upto ops.size k) = true
  | 0, k, hk => by
    simp only [Nat.zero_add] at hk
    subst hk
    show (Region.ready md ops _).isEmpty = true
    rw [List.isEmpty_iff, List.eq_nil_iff_forall_not_mem]
    intro j hj
    obtain ⟨h1, o, h2, _⟩ := mem_ready.1 hj
    have hlt : j < ops.size := (Array.getElem?_eq_some_iff.1 h2).1
    rw [upto_get _ _ _ _ (Nat.le_refl _) hlt] at h1
    simp at h1
    omega
  | f + 1, k, hk => by
    have hlt : k < ops.size := by omega
    obtain ⟨o, ho⟩ : ∃ o, ops[k]? = some o := ⟨_, Array.getElem?_eq_getElem hlt⟩
    have hget : ∀ (j : Nat) (x : Oper), ops[j]? = some x → (ops.toList.map (rowOf md ops))[j]? = some (rowOf md ops x) := fun j x hx => by
      rw [List.getElem?_map, Array.getElem?_toList, hx]; rfl
    obtain ⟨a1, _, a3⟩ := allOk_get _ 0 h k _ (hget k o ho)
    simp only [Nat.zero_add] at a1 a3
    show (((Region.ready md ops (upto ops.size k)).contains k && Region.free md ops (upto ops.size k) k) && Region.lexFrom md ops f (k + 1) ((upto ops.size k).setIfInBounds k true)) = true
    rw [upto_set _ _ hlt, lex_from md ops h f (k + 1) (by omega), Bool.and_true, Bool.and_eq_true]
    constructor
    · simp only [List.contains_eq_mem, decide_eq_true_eq]
      refine mem_ready.2 ⟨by rw [upto_get _ _ _ _ (by omega) hlt]; simp, o, ho, fun e he hb => ?_⟩
      have hlt' : e.on < k := a1 e.on (List.mem_map.2 ⟨e, List.mem_filter.2 ⟨by simpa using he, hb⟩, rfl⟩)
      rw [upto_get _ _ _ _ (by omega) (by omega)]
      simpa using hlt'
    · unfold Region.free
      rw [ho]
      simp only [List.all_eq_true, List.mem_range, Bool.or_eq_true, beq_iff_eq]
      intro j hj
      by_cases h1 : j < k
      · left; right
        rw [upto_get _ _ _ _ (by omega) hj]
        simpa using h1
      · by_cases h2 : j = k
        · left; left; exact h2
        · right
          obtain ⟨oj, hoj⟩ : ∃ o, ops[j]? = some o := ⟨_, Array.getElem?_eq_getElem hj⟩
          rw [hoj]
          simp only [Bool.or_eq_true]
          rcases a3 j _ (by omega) (hget j oj hoj) with h3 | h3
          · left
            simp only [rowOf, List.contains_eq_mem, decide_eq_true_eq, List.mem_map, List.mem_filter] at h3
            obtain ⟨e, ⟨he, hb⟩, hon⟩ := h3
            rw [Array.any_eq_true']
            exact ⟨e, by simpa using he, by simp [hb, hon]⟩
          · right
            rwa [apartR_of] at h3
theorem lexB_of (md : Region.Mode) (ops : Array Oper) (T : List Rw3) (hT : ops.toList.map (rowOf md ops) = T) (h : allOk 0 T = true) : Region.lexB md ops = true := by
  subst hT
  unfold Region.lexB
  rw [Bool.and_eq_true]
  constructor
  · unfold Region.noSelect
    rw [Array.all_eq_true_iff_forall_mem]
    intro o ho
    obtain ⟨k, hk, rfl⟩ := Array.mem_iff_getElem.1 ho
    have := (allOk_get _ 0 h k (rowOf md ops ops[k]) (by rw [List.getElem?_map, Array.getElem?_toList, Array.getElem?_eq_getElem hk]; rfl)).2.1
    simp only [rowOf] at this
    split at this <;> simp_all
  · have e : Array.replicate ops.size false = upto ops.size 0 := by
      unfold upto
      rw [← Array.toList_inj]
      simp
    rw [e]
    exact lex_from md ops h ops.size 0 (by omega)
end Go.Proofs.YtebfjphmlggacaaGreat.Lx
