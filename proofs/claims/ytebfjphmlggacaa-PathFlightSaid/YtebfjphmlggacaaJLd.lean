/- What leaves the ledger, plainly; what the ledger's leave does. Conditions: as each theorem lists them. -/
import Derived.Test.YtebfjphmlggacaaJLc
set_option linter.unusedSimpArgs false
set_option linter.unusedVariables false

namespace Go.Proofs.Ytebfjphmlggacaa.Ld
open Go Go.RowKit Go.Proofs.Ytebfjphmlggacaa Go.Proofs.Ytebfjphmlggacaa.Sp

def selB (f : Nat) (t : Int) (g : Pk → Bool) (k : Pk) : Bool := decide (f ≤ k.num) && decide ((k.num : Int) < t) && g k
def outs (os : List (Option Pk)) : List Pk := os.filterMap id
def els (l : List Pk) : Nat := l.countP (·.el)
def leftL (s : Pk → Bool) (os : List (Option Pk)) (i : Nat) : List Pk := (outs (os.take i)).filter s
def restO (s : Pk → Bool) (os : List (Option Pk)) (i : Nat) : List (Option Pk) := (os.take i).map (Option.filter fun k => !s k) ++ os.drop i

theorem outs_app (a b : List (Option Pk)) : outs (a ++ b) = outs a ++ outs b := by simp [outs]
theorem els_app (a b : List Pk) : els (a ++ b) = els a + els b := by simp [els]
theorem restO_len (s : Pk → Bool) (os : List (Option Pk)) (i : Nat) : (restO s os i).length = os.length := by
  simp only [restO, List.length_append, List.length_map, List.length_take, List.length_drop]; omega
theorem restO_get (s : Pk → Bool) (os : List (Option Pk)) (i j : Nat) (h : i ≤ j) : (restO s os i)[j]? = os[j]? := by
  unfold restO
  by_cases hi : i ≤ os.length
  · rw [List.getElem?_append_right (by simp; omega), List.getElem?_drop]
    simp only [List.length_map, List.length_take]
    rw [show i + (j - min i os.length) = j by omega]
  · rw [List.getElem?_eq_none (by simp; omega), List.getElem?_eq_none (by omega)]
theorem take_snoc {α} {os : List α} {i : Nat} {u : α} (h : os[i]? = some u) : os.take (i + 1) = os.take i ++ [u] := by
  rw [List.take_add_one, h]; rfl
theorem drop_cons {α} {os : List α} {i : Nat} {u : α} (h : os[i]? = some u) : os.drop i = u :: os.drop (i + 1) := by
  obtain ⟨hi, e⟩ := List.getElem?_eq_some_iff.1 h
  rw [List.drop_eq_getElem_cons hi, e]
theorem step_stay (s : Pk → Bool) (os : List (Option Pk)) (i : Nat) (u : Option Pk) (h : os[i]? = some u) (hu : ∀ k, u = some k → s k = false) : leftL s os (i + 1) = leftL s os i ∧ restO s os (i + 1) = restO s os i := by
  unfold leftL restO
  rw [take_snoc h, drop_cons h, outs_app, List.filter_append, List.map_append, List.append_assoc]
  cases u with
  | none => simp [outs]
  | some k => simp [outs, hu k rfl]
theorem step_go (s : Pk → Bool) (os : List (Option Pk)) (i : Nat) (k : Pk) (h : os[i]? = some (some k)) (hu : s k = true) : leftL s os (i + 1) = leftL s os i ++ [k] ∧ restO s os (i + 1) = (restO s os i).set i none := by
  have hi := (List.getElem?_eq_some_iff.1 h).1
  unfold leftL restO
  rw [take_snoc h, drop_cons h, outs_app, List.filter_append, List.map_append, List.append_assoc]
  refine ⟨by simp [outs, hu], ?_⟩
  rw [List.set_append_right _ _ (by simp; omega)]
  simp [hu, show i - min i os.length = 0 by omega]
theorem left_start (s : Pk → Bool) (os : List (Option Pk)) (i : Nat) (h : ∀ k, some k ∈ os.take i → s k = false) : leftL s os i = [] ∧ restO s os i = os := by
  unfold leftL restO
  refine ⟨?_, ?_⟩
  · rw [List.filter_eq_nil_iff]
    intro k hk
    rw [h k (by simpa [outs] using hk)]
    simp
  · have e : (os.take i).map (Option.filter fun k => !s k) = os.take i := by
      refine (List.map_congr_left fun u hu => ?_).trans (List.map_id _)
      cases u with
      | none => rfl
      | some k => simp [h k hu]
    rw [e, List.take_append_drop]
theorem outs_map (s : Pk → Bool) (l : List (Option Pk)) : outs (l.map (Option.filter fun k => !s k)) = (outs l).filter fun k => !s k := by
  induction l with
  | nil => rfl
  | cons u r ih =>
    unfold outs at ih ⊢
    cases u with
    | none => simpa using ih
    | some k =>
      by_cases hk : s k = true
      · simp [hk, ih]
      · simp only [Bool.not_eq_true] at hk
        have e : Option.filter (fun k => !s k) (some k) = some k := by simp [Option.filter, hk]
        rw [List.map_cons, e]
        simp [hk, ih]
theorem left_end (s : Pk → Bool) (os : List (Option Pk)) (i : Nat) (h : ∀ k, some k ∈ os.drop i → s k = false) : leftL s os i = (outs os).filter s ∧ outs (restO s os i) = (outs os).filter fun k => !s k := by
  have e : outs os = outs (os.take i) ++ outs (os.drop i) := by rw [← outs_app, List.take_append_drop]
  have hd : ∀ k ∈ outs (os.drop i), s k = false := fun k hk => h k (by simpa [outs] using hk)
  refine ⟨?_, ?_⟩
  · rw [e, List.filter_append]
    have : (outs (os.drop i)).filter s = [] := by
      rw [List.filter_eq_nil_iff]
      intro k hk
      rw [hd k hk]; simp
    rw [this, List.append_nil]
    rfl
  · unfold restO
    rw [outs_app, outs_map, e, List.filter_append]
    have : (outs (os.drop i)).filter (fun k => !s k) = outs (os.drop i) := by
      rw [List.filter_eq_self]
      intro k hk
      rw [hd k hk]; rfl
    rw [this]
theorem els_split (s : Pk → Bool) (l : List Pk) : els (l.filter s) + els (l.filter fun k => !s k) = els l := by
  induction l with
  | nil => rfl
  | cons k r ih =>
    unfold els at ih ⊢
    by_cases hk : s k = true
    · simp [hk, List.countP_cons]; omega
    · simp only [Bool.not_eq_true] at hk
      simp [hk, List.countP_cons]; omega
theorem els_left_le (s : Pk → Bool) (os : List (Option Pk)) (i : Nat) : els (leftL s os i) ≤ els (outs os) := by
  have h := congrArg els (show outs os = outs (os.take i) ++ outs (os.drop i) by rw [← outs_app, List.take_append_drop])
  have := els_split s (outs (os.take i))
  rw [els_app] at h
  unfold leftL
  omega
theorem left_len_le (s : Pk → Bool) (os : List (Option Pk)) (i : Nat) : (leftL s os i).length ≤ os.length := by
  unfold leftL outs
  refine Nat.le_trans (List.length_filter_le _ _) (Nat.le_trans (List.length_filterMap_le _ _) ?_)
  rw [List.length_take]; omega

theorem infoS : (Try.prog.info? 63).map (fun i => (i.zero, i.size, i.bytes)) = some (some (.agg #[.int .i64 0, .int .i64 0, .bool false, .slice none 0 0]), 4, 48) := by kernel_rfl

/-- What stands while leave goes over the row. -/
structure LvI (w wr : World) (lo hi p o : Nat) (T : TypeId) (cur : Array Value) (os : List (Option Pk)) (next behind : Nat) (s : Pk → Bool) (k L : Nat) (v : Value) (cur' : Array Value) : Prop where
  len : L = (leftL s os k).length
  own : wr.ownsRow w.heap.size 63 4 v L (pks (leftL s os k))
  led : LedIn wr lo hi p o T cur' (restO s os k) (els (outs os) - els (leftL s os k)) next behind
  cs : CurSame o cur cur'
  mv : Moved lo p w wr
theorem LvI.keep {w wr w1 : World} {lo hi p o : Nat} {T : TypeId} {cur : Array Value} {os : List (Option Pk)} {next behind : Nat} {s : Pk → Bool} {k L : Nat} {v : Value} {cur' : Array Value} (h : LvI w wr lo hi p o T cur os next behind s k L v cur') (hb : Below wr.heap.size wr w1) : LvI w w1 lo hi p o T cur os next behind s k L v cur' :=
  ⟨h.len, own_below h.own hb, h.led.keep (hb.mono h.led.hsz), h.cs, h.mv.trans (Moved.of hb (Nat.le_trans h.led.hlo (Nat.le_trans (Nat.le_of_lt h.led.hhi) h.led.hsz)))⟩

/-- What leave tells, and leaves. -/
def LeaveP (w : World) (lo hi p o : Nat) (T : TypeId) (cur : Array Value) (os : List (Option Pk)) (next behind : Nat) (s : Pk → Bool) (e : Ending) (w' : World) : Prop :=
  ∃ A c cur' os', e = .returned (.slice A ((outs os).filter s).length c) ∧ w'.ownsRow w.heap.size 63 4 (.slice A ((outs os).filter s).length c) ((outs os).filter s).length (pks ((outs os).filter s)) ∧
    LedIn w' lo hi p o T cur' os' (els ((outs os).filter fun k => !s k)) next behind ∧ outs os' = ((outs os).filter fun k => !s k) ∧ CurSame o cur cur' ∧ Moved lo p w w'
end Go.Proofs.Ytebfjphmlggacaa.Ld
